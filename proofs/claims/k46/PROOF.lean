import PyProof.Rows.All
import Wide.All
import OpenK.AllK
import Wide.FinOn
import Lean
import PyProof.EqAt
import PyProof.EqKinds
import PyProof.TupleCall
import PyProof.DictIter
import PyProof.EnumMake
import KE.KSortTup
import KE.KDictLaws
import KE.KDictSum
import PyProof.StrLawsTight
import KE.KIntText
import PyProof.MinMaxWalk
import PyProof.WalkInts
import KE.KIsAll
import PyProof.ExcInit
import PyProof.NsDelKeeps
import PyProof.ExcBaseAll.ValueError
import OpenK.KOwn
import PyProof.ExcAttrAll.ValueError
import PyProof.InstStoreFacts
import PyProof.NoPylong
import PyProof.Rows.Range3
import PySem.Challenge.RW_shearfloor_k46_seams_carried
set_option Elab.async false
set_option linter.all false
set_option maxRecDepth 100000
set_option maxHeartbeats 4000000
set_option genSizeOf false
noncomputable section
namespace L2
open PySem PySem.Spec PyProof.Rows
abbrev Key:=Sum Int Str
def m9:Key->Value->Bool
 | .inl k,v=>Value.isInt k v
 | .inr x,v=>Value.isStrOf x v
def FI (w:World):Key->Int
 | .inl k=>hashInt k
 | .inr x=>hashStr w x
theorem sr:∀ {k:Key} {v:Value},m9 k v=true->(∃ i t,k=Sum.inl i/\v=Value.int i t)\/(∃ x t,k=Sum.inr x/\v=Value.str x t)
 | .inl i,v,h=>by
  obtain ⟨t,e⟩:=Value.isInt_shape (k:=i) (v:=v) h
  exact .inl ⟨i,t,rfl,e⟩
 | .inr x,v,h=>by
  obtain ⟨t,e⟩:=Value.isStrOf_shape (x:=x) (v:=v) h
  exact .inr ⟨x,t,rfl,e⟩
theorem MU (i:Int) (t:Tok):m9 (.inl i) (.int i t)=true:=by simp [m9,Value.isInt]
theorem MV (x:Str) (t:Tok):m9 (.inr x) (.str x t)=true:=by simp [m9,Value.isStrOf]
theorem vB (a b:Int):decide ((Sum.inl a:Key)=Sum.inl b)=(a == b):=by
 by_cases e:a=b
 ·subst e;simp
 ·have h:¬ (Sum.inl a:Key)=Sum.inl b:=fun q=>e (Sum.inl.inj q)
  rw [decide_eq_false h]
  exact (beq_eq_false_iff_ne.mpr e).symm
theorem vC (a b:Str):decide ((Sum.inr a:Key)=Sum.inr b)=decide (a=b):=by
 by_cases e:a=b
 ·subst e;simp
 ·have h:¬ (Sum.inr a:Key)=Sum.inr b:=fun q=>e (Sum.inr.inj q)
  rw [decide_eq_false h,decide_eq_false e]
theorem vD (a:Int) (b:Str):decide ((Sum.inl a:Key)=Sum.inr b)=false:=decide_eq_false (fun q=>nomatch q)
theorem vE (a:Str) (b:Int):decide ((Sum.inr a:Key)=Sum.inl b)=false:=decide_eq_false (fun q=>nomatch q)
def cw (prog:Program) (w:World):PySem.KeyKind prog w Key where
 is:=m9
 hash:=FI w
 inj:=fun v a b ha hb=>by
  rcases sr ha with ⟨i,t,rfl,rfl⟩ | ⟨x,t,rfl,rfl⟩
  ·rcases sr hb with ⟨j,u,rfl,e⟩ | ⟨y,u,rfl,e⟩
   ·injection e with e1 _;rw [e1]
   ·exact nomatch e
  ·rcases sr hb with ⟨j,u,rfl,e⟩ | ⟨y,u,rfl,e⟩
   ·exact nomatch e
   ·injection e with e1 _;rw [e1]
 byValue:=fun k v h=>by
  rcases sr h with ⟨i,t,rfl,rfl⟩ | ⟨x,t,rfl,rfl⟩ <;> rfl
 pyHash:=fun hv h=>by
  rcases sr hv with ⟨i,t,rfl,rfl⟩ | ⟨x,t,rfl,rfl⟩
  ·exact wpAny_pyHash_int h
  ·exact wpAny_pyHash_str h
 eqBool:=fun hu hv h=>by
  rcases sr hu with ⟨i,t,rfl,rfl⟩ | ⟨x,t,rfl,rfl⟩
  ·rcases sr hv with ⟨j,u,rfl,rfl⟩ | ⟨y,u,rfl,rfl⟩
   ·rw [vB] at h;exact wpAny_eqBool_int h
   ·rw [vD] at h;exact SeqAt.EqAt.int_str i t y u _ _ _ _ h
  ·rcases sr hv with ⟨j,u,rfl,rfl⟩ | ⟨y,u,rfl,rfl⟩
   ·rw [vE] at h;exact SeqAt.EqAt.str_int x t j u _ _ _ _ h
   ·rw [vC] at h;exact wpAny_eqBool_str h
 «strs»:=fun k x t v h=>by
  rcases sr h with ⟨i,u,rfl,e⟩ | ⟨y,u,rfl,e⟩
  ·exact nomatch e
  ·injection e with e1 _
   subst e1
   cases v <;> rfl
theorem MW (prog:Program) (w:World) (i:Int) (t:Tok):(cw prog w).is (.inl i) (.int i t)=true:=MU i t
theorem MX (prog:Program) (w:World) (x:Str) (t:Tok):(cw prog w).is (.inr x) (.str x t)=true:=MV x t
end L2
namespace L2
open PySem PySem.Spec PyProof.Rows
inductive V where
 | non | bl (b:Bool) | int (i:Int) | str (x:Str) | qu (b:Array UInt8) | yz (b:UInt64) | ref (a:Addr) | ty (n:String)
 deriving DecidableEq
def RelV:V->Value->Prop
 | .non,u=>u=Value.none
 | .bl b,u=>u=Value.bool b
 | .int i,u=>∃ t,u=Value.int i t
 | .str x,u=>∃ t,u=Value.str x t
 | .qu b,u=>∃ t,u=Value.bytes b t
 | .yz b,u=>∃ t,u=Value.float b t
 | .ref a,u=>u=Value.ref a
 | .ty n,u=>u=Value.type n
abbrev Vals:List V->List Value->Prop:=Paired RelV
theorem Vals.length {xs:List V} {us:List Value} (r:Vals xs us):xs.length=us.length:=Paired.length r
theorem Vals.get:∀ {xs:List V} {us:List Value} {i:Nat} {x:V},Vals xs us->xs[i]?=some x->∃ u,us[i]?=some u/\RelV x u
 | _,_,_,_,.nil,e=>by simp at e
 | _,_,0,_,.cons r _,e=>by simp at e;subst e;exact ⟨_,rfl,r⟩
 | _,_,i + 1,x,.cons _ t,e=>by
  obtain ⟨u,h1,h2⟩:=Vals.get (i:=i) (x:=x) t (by simpa using e)
  exact ⟨u,by simpa using h1,h2⟩
theorem Vals.set {x:V} {u:Value} (r:RelV x u):∀ {xs:List V} {us:List Value} (i:Nat),Vals xs us->Vals (xs.set i x) (us.set i u)
 | _,_,_,.nil=>.nil
 | _,_,0,.cons _ t=>.cons r t
 | _,_,i + 1,.cons q t=>.cons q (Vals.set r i t)
theorem Vals.append:∀ {xs ys:List V} {us ws:List Value},Vals xs us->Vals ys ws->Vals (xs ++ ys) (us ++ ws)
 | _,_,_,_,.nil,s=>s
 | _,_,_,_,.cons r t,s=>.cons r (Vals.append t s)
theorem Vals.take:∀ {xs:List V} {us:List Value} (n:Nat),Vals xs us->Vals (xs.take n) (us.take n)
 | _,_,0,_=>.nil
 | _,_,_ + 1,.nil=>.nil
 | _,_,n + 1,.cons r t=>.cons r (Vals.take n t)
theorem Vals.drop:∀ {xs:List V} {us:List Value} (n:Nat),Vals xs us->Vals (xs.drop n) (us.drop n)
 | _,_,0,r=>r
 | _,_,_ + 1,.nil=>.nil
 | _,_,n + 1,.cons _ t=>Vals.drop n t
def mV:Option V->Option Value->Prop
 | some v,some u=>RelV v u
 | none,none=>True
 | _,_=>False
def KV {κ:Type}:List (κ×V)->List (κ×Value)->Prop:=Paired fun (p:κ×V) (q:κ×Value)=>p.1=q.1/\RelV p.2 q.2
def kV:Key->V
 | .inl i=>.int i
 | .inr x=>.str x
set_option genInjectivity false in
inductive HO where
 /-- a list -/
 | lst (xs:List V)
 /-- a tuple (never changes) -/
 | tup (xs:List V)
 /-- a dict whose keys are ints and texts;one whose keys are tuples of ints and texts (the empty one is both) -/
 | dK (kvs:List (Key×V)) | dT (kvs:List (List Key×V))
 /-- a set of ints: its members,its size -/
 | set (S:Int->Bool) (n:Nat)
 /-- an instance of the class at C,its dict at dx,its attributes -/
 | ins (C dx:Addr) (fs:List (Str×V))
 /-- the dict of the instance at x -/
 | own (x:Addr)
 /-- the dict of an exception -/
 | xd (fs:List (Str×V))
 /-- a bound method,f of x -/
 | met (f x:Addr)
 /-- a range object lo,lo + 1,.. below hi -/
 | jf (lo hi:Int)
 /-- a thing that is known to the object (the script;a dict while a loop walks it): read,never written while it is so -/
 | mr (o:Obj) (u:HO)
 /-- a code zE table -/
 | vF (ps:Array Value)
 /-- any other thing,by what is true of its one object (a def of Ja own: MY a S n:=HO.ext fun h=>..) -/
 | ext (φ:Heap->Prop)
abbrev Hp:=Addr->Option HO
def upd (H:Hp) (a:Addr) (o:HO):Hp:=fun b=>if b=a then some o else H b
theorem pW {H:Hp} {a:Addr} {o:HO}:upd H a o a=some o:=by unfold upd;rw [if_pos rfl]
theorem jG {H:Hp} {a b:Addr} {o:HO} (h:b≠a):upd H a o b=H b:=by unfold upd;rw [if_neg h]
theorem FJ {H:Hp} {a b:Addr} {o u:HO} (h:H a=some o) (h':H b=some u) (d:o≠u):a≠b:=by
 intro e;subst e;rw [h] at h';exact d (Option.some.inj h')
theorem yA {H:Hp} {a b:Addr} {o:HO} (h:H a=some o) (h':H b=none):a≠b:=by
 intro e;subst e;rw [h] at h';cases h'
def nu (h:Heap) (a:Addr) (its:Array Value):Prop:=∃ o,h.get? a=some o/\o.cls=.type "tuple" /\ o.dict=none/\∃ n,o.data=.seq its n
theorem nu.tup {h:Heap} {a:Addr} {its:Array Value} (x:nu h a its):IsTup h a its:=let ⟨o,e,c,_,n,d⟩:=x;⟨o,e,c,n,d⟩
theorem nu.new (h:Heap) (its:Array Value):nu (h.push { cls:=.type "tuple",data:=.seq its }) h.objs.size its:=⟨_,Heap.get?_push_size _ rfl,rfl,rfl,_,rfl⟩
section
variable (P:Program) (w:World)
def cb (H:Hp) (h:Heap) (a:Addr):HO->Prop
 | .lst xs=>xs.length<=sizeLine/\∃ (its:List Value) (n:Nat),Vals xs its/\h.get? a=some { cls:=.type "list",data:=.seq its.toArray n }
 | .tup xs=>xs.length<=sizeLine/\∃ its:List Value,Vals xs its/\nu h a its.toArray
 | .dK kvs=>kvs.length<=sizeLine/\(a == sysModules)=false/\∃ vs,KV kvs vs/\h.DictOf (cw P w) a vs
 | .dT kvs=>kvs.length<=sizeLine/\(a == sysModules)=false/\∃ xs:List (List Key×Addr×Value),
   Paired (fun (p:List Key×V) (q:List Key×Addr×Value)=>p.1=q.1/\H q.2.1=some (.tup (p.1.map kV))/\RelV p.2 q.2.2) kvs xs /\
   ∃ o es ep,h.get? a=some o/\o.ExactDict/\o.data=.dict es ep/\es.toList=xs.map (entryOfKey (tupleKind (cw P w)))/\(xs.map (·.1)).Nodup
 | .set S n=>h.SetOf (intKind P w) a S n
 | .ins C dx fs=>H dx=some (.own a)/\fs.length<=1000/\dx≠a/\h.get? a=some (PySem.W.instObj C dx) /\
   ∃ mA,h.Ns1 dx mA/\(∀ f,mV (fs.lookup f) (mA f))/\PySem.Within mA (fs.map (·.1))
 | .own _=>∃ o,h.get? a=some o
 | .xd fs=>∃ mA,h.Ns1 a mA/\∀ f,mV (fs.lookup f) (mA f)
 | .jf lo hi=>∃ t u v,h.get? a=some { cls:=.type "range",data:=.fields #[.int lo t,.int hi u,.int 1 v] }
 | .mr o u=>h.get? a=some o/\cb H h a u
 | .vF ps=>h.get? a=some { cls:=.none,data:=.fields ps }
 | .met f x=>h.get? a=some (PySem.W.methodObj (.ref f) (.ref x))
 | .ext φ=>φ h/\(∃ o,h.get? a=some o)/\∀ h1 h2:Heap,φ h1->(∀ o,h1.get? a=some o->h2.get? a=some o)->φ h2
def kC (H:Hp) (h:Heap):Prop:=∀ a o,H a=some o->cb P w H h a o
end
section
variable {P:Program} {w:World} {H H':Hp} {h h':Heap} {a:Addr} {o:HO}
theorem cb.lt (x:cb P w H h a o):a < h.objs.size:=by
 cases o with
 | lst xs=>obtain ⟨_,_,_,_,e⟩:=x;exact Heap.lt_size e
 | tup xs=>obtain ⟨_,_,_,_,e,_⟩:=x;exact Heap.lt_size e
 | dK kvs=>obtain ⟨_,_,_,_,o,_,_,e,_⟩:=x;exact Heap.lt_size e
 | dT kvs=>obtain ⟨_,_,_,_,o,_,_,e,_⟩:=x;exact Heap.lt_size e
 | set S n=>obtain ⟨o,_,_,_,e,_⟩:=x;exact Heap.lt_size e
 | ins C dx fs=>obtain ⟨_,_,_,e,_⟩:=x;exact Heap.lt_size e
 | own y=>obtain ⟨_,e⟩:=x;exact Heap.lt_size e
 | xd fs=>obtain ⟨_,⟨_,_,_,e,_⟩,_⟩:=x;exact Heap.lt_size e
 | jf lo hi=>obtain ⟨_,_,_,e⟩:=x;exact Heap.lt_size e
 | mr ob u=>obtain ⟨e,_⟩:=x;exact Heap.lt_size e
 | vF ps=>exact Heap.lt_size (show h.get? a=some _ from x)
 | met f y=>exact Heap.lt_size (show h.get? a=some _ from x)
 | ext φ=>obtain ⟨_,⟨_,e⟩,_⟩:=x;exact Heap.lt_size e
theorem Paired.vG {α β:Type} {F G:α->β->Prop}:∀ {l₁:List α} {l₂:List β},Paired F l₁ l₂->(∀ a b,F a b->G a b)->Paired G l₁ l₂
 | _,_,.nil,_=>.nil
 | _,_,.cons r t,f=>.cons (f _ _ r) (Paired.vG t f)
theorem cb.stay (x:cb P w H h a o) (k:∀ b u,(b=a\/H b=some (.own a))->h.get? b=some u->h'.get? b=some u)
  (ho:∀ b,H b=some (.own a)->H' b=some (.own a)) (ht:∀ b xs,H b=some (.tup xs)->H' b=some (.tup xs)):cb P w H' h' a o:=by
 induction o with
 | lst xs=>obtain ⟨z,its,n,r,e⟩:=x;exact ⟨z,its,n,r,k _ _ (.inl rfl) e⟩
 | tup xs=>obtain ⟨z,its,r,ob,e,c⟩:=x;exact ⟨z,its,r,ob,k _ _ (.inl rfl) e,c⟩
 | dK kvs=>obtain ⟨z,y,vs,r,ob,es,ep,e,c⟩:=x;exact ⟨z,y,vs,r,ob,es,ep,k _ _ (.inl rfl) e,c⟩
 | dT kvs =>
  obtain ⟨z,y,xs,r,ob,es,ep,e,c⟩:=x
  exact ⟨z,y,xs,Paired.vG r fun p q z=>⟨z.1,ht _ _ z.2.1,z.2.2⟩,ob,es,ep,k _ _ (.inl rfl) e,c⟩
 | set S n=>obtain ⟨ob,es,ep,t,e,c⟩:=x;exact ⟨ob,es,ep,t,k _ _ (.inl rfl) e,c⟩
 | ins C dx fs =>
  obtain ⟨d,z,ne,e,mA,⟨od,es,ep,e2,c⟩,r⟩:=x
  exact ⟨ho _ d,z,ne,k _ _ (.inl rfl) e,mA,⟨od,es,ep,k _ _ (.inr d) e2,c⟩,r⟩
 | own y=>obtain ⟨ob,e⟩:=x;exact ⟨ob,k _ _ (.inl rfl) e⟩
 | xd fs=>obtain ⟨mA,⟨od,es,ep,e,c⟩,r⟩:=x;exact ⟨mA,⟨od,es,ep,k _ _ (.inl rfl) e,c⟩,r⟩
 | jf lo hi=>obtain ⟨t,u,v,e⟩:=x;exact ⟨t,u,v,k _ _ (.inl rfl) e⟩
 | mr ob u ih=>obtain ⟨e,q⟩:=x;exact ⟨k _ _ (.inl rfl) e,ih q⟩
 | vF ps =>
  have e:h.get? a=some { cls:=.none,data:=.fields ps }:=x
  show h'.get? a=some { cls:=.none,data:=.fields ps }
  exact k a _ (.inl rfl) e
 | met f y =>
  have e:h.get? a=some (PySem.W.methodObj (.ref f) (.ref y)):=x
  show h'.get? a=some (PySem.W.methodObj (.ref f) (.ref y))
  exact k a _ (.inl rfl) e
 | ext φ=>obtain ⟨p,⟨o,e⟩,st⟩:=x;exact ⟨st _ _ p fun o q=>k _ _ (.inl rfl) q,⟨o,k _ _ (.inl rfl) e⟩,st⟩
theorem kC.lt (x:kC P w H h) (e:H a=some o):a < h.objs.size:=(x a o e).lt
theorem kC.fresh (x:kC P w H h) (e:h.objs.size<=a):H a=none:=by
 cases q:H a with
 | none=>rfl
 | some u=>exact absurd (Nat.lt_of_lt_of_le (x.lt q) e) (Nat.lt_irrefl _)
theorem kC.kept (x:kC P w H h) (k:∀ b u,h.get? b=some u->h'.get? b=some u):kC P w H h':=fun a o e =>
 (x a o e).stay (fun b u _ q=>k b u q) (fun _ q=>q) fun _ _ q=>q
theorem kC.laid (x:kC P w H h) (k:∀ b u,h.get? b=some u->h'.get? b=some u) (hp:h.objs.size<=a) (new:cb P w (upd H a o) h' a o):kC P w (upd H a o) h':=fun b u e=>by
 have hn:=x.fresh hp
 by_cases hb:b=a
 ·subst hb;rw [pW] at e;cases e;exact new
 ·rw [jG hb] at e
  exact (x b u e).stay (fun c v _ q=>k c v q) (fun c q=>by rw [jG (yA q hn)];exact q) fun c xs q=>by rw [jG (yA q hn)];exact q
end
def Rd (H:Hp) (a:Addr) (u:HO):Prop:=H a=some u\/∃ o,H a=some (.mr o u)
theorem Rd.ok {P:Program} {w:World} {H:Hp} {h:Heap} {a:Addr} {u:HO} (r:Rd H a u) (x:kC P w H h):cb P w H h a u:=by
 rcases r with r | ⟨o,r⟩
 ·exact x a u r
 ·obtain ⟨_,q⟩:=x a _ r
  exact q
def zF:Option HO->Prop
 | some (.lst _)=>True
 | some (.dK _)=>True
 | some (.dT _)=>True
 | some (.set _ _)=>True
 | some (.ins _ _ _)=>True
 | some (.ext _)=>True
 | _=>False
section
variable {P:Program} {w:World} {H:Hp} {h h':Heap} {x e:Addr} {o':HO}
theorem kC.write (ok:kC P w H h) (mu:zF (H x)) (he:e=x\/H e=some (.own x)) (k:∀ b u,b≠e->h.get? b=some u->h'.get? b=some u) (yC:∃ u,h'.get? e=some u)
  (new:cb P w (upd H x o') h' x o'):kC P w (upd H x o') h':=fun b u q=>by
 have zG:∀ c y,H c=some (.own y)->c≠x:=fun c y r z=>by subst z;rw [r] at mu;exact mu
 have FK:∀ c xs,H c=some (.tup xs)->c≠x:=fun c xs r z=>by subst z;rw [r] at mu;exact mu
 by_cases hb:b=x
 ·subst hb;rw [pW] at q;cases q;exact new
 ·rw [jG hb] at q
  by_cases vH:b=e
  ·have q':H b=some (.own x):=by
    rcases he with z | z
    ·exact absurd (vH.trans z) hb
    ·rw [vH];exact z
   rw [q] at q';cases q'
   obtain ⟨v,hv⟩:=yC
   exact ⟨v,by rw [vH];exact hv⟩
  ·refine (ok b u q).stay (fun c v hc r=>k c v ?_ r) (fun c r=>by rw [jG (zG c b r)];exact r) fun c xs r=>by rw [jG (FK c xs r)];exact r
   rcases hc with rfl | hc
   ·exact vH
   ·rintro rfl
    rcases he with z | z
    ·exact zG c b hc z
    ·rw [hc] at z;cases z;exact hb rfl
end
structure Un (fs ex:List Addr) (H H':Hp) (h h':Heap):Prop where
 keep:∀ b o,h.get? b=some o->H b=none->b ∉ fs->b ∉ ex->h'.get? b=some o
 slot:∀ b o,h.get? b=some o->H b=none->b∈fs->b ∉ ex->∃ sl,h'.get? b=some { o with slots:=sl }
 free:∀ b o,h.get? b=some o->H b=none->b ∉ ex->H' b=none
 there:∀ b o,h.get? b=some o->b ∉ ex->∃ o',h'.get? b=some o'
 tups:∀ b xs,H b=some (.tup xs)->H' b=some (.tup xs)
 ny:∀ b o u,H b=some (.mr o u)->H' b=some (.mr o u)
 oi:∀ b ps,H b=some (.vF ps)->∃ more,H' b=some (.vF (ps ++ more))
section
variable {fs fs' ex ex':List Addr} {H H1 H2:Hp} {h h1 h2 h':Heap} {a x e:Addr} {o:HO}
theorem Un.any (u:Un fs ex H H1 h h1) {b:Addr} {ob:Obj} (q:h.get? b=some ob) (n:H b=none) (hx:b ∉ ex):∃ sl,h1.get? b=some { ob with slots:=sl }:=by
 by_cases hb:b∈fs
 ·exact u.slot b ob q n hb hx
 ·exact ⟨ob.slots,u.keep b ob q n hb hx⟩
theorem Un.kept (k:∀ b u,h.get? b=some u->h'.get? b=some u):Un fs ex H H h h' :=
 ⟨fun b ob q _ _ _=>k b ob q,fun b ob q _ _ _=>⟨ob.slots,k b ob q⟩,fun _ _ _ n _=>n,fun b ob q _=>⟨ob,k b ob q⟩,fun _ _ q=>q,fun _ _ _ q=>q,fun _ ps q=>⟨#[],by rw [q];simp⟩⟩
theorem Un.refl:Un fs ex H H h h:=Un.kept fun _ _ q=>q
theorem Un.laid (k:∀ b u,h.get? b=some u->h'.get? b=some u) (hp:h.objs.size<=a) (hn:H a=none):Un fs ex H (upd H a o) h h' where
 keep:=fun b u q _ _ _=>k b u q
 slot:=fun b u q _ _ _=>⟨u.slots,k b u q⟩
 free:=fun b u q n _=>by rw [jG (Nat.ne_of_lt (Nat.lt_of_lt_of_le (Heap.lt_size q) hp))];exact n
 there:=fun b u q _=>⟨u,k b u q⟩
 tups:=fun b xs q=>by rw [jG (yA q hn)];exact q
 ny:=fun b u xs q=>by rw [jG (yA q hn)];exact q
 oi:=fun b ps q=>⟨#[],by rw [jG (yA q hn),q];simp⟩
theorem Un.write (mu:zF (H x)) (he:e=x\/H e=some (.own x)) (k:∀ b u,b≠e->h.get? b=some u->h'.get? b=some u) (yC:∃ u,h'.get? e=some u):Un fs ex H (upd H x o) h h':=by
 have hx:∀ b,H b=none->b≠x:=fun b n z=>by subst z;rw [n] at mu;exact mu
 have hb:∀ b,H b=none->b≠e:=fun b n z=>by
  subst z
  rcases he with r | r
  ·exact hx b n r
  ·rw [n] at r;cases r
 have hm:∀ b u,H b=some u->¬ zF (some u)->b≠x:=fun b u q nm z=>by subst z;rw [q] at mu;exact nm mu
 refine ⟨fun b u q n _ _=>k b u (hb b n) q,fun b u q n _ _=>⟨u.slots,k b u (hb b n) q⟩,fun b u q n _=>by rw [jG (hx b n)];exact n,fun b u q _=>?_,
  fun b xs q=>by rw [jG (hm b _ q fun z=>z)];exact q,fun b u xs q=>by rw [jG (hm b _ q fun z=>z)];exact q,fun b ps q=>⟨#[],by rw [jG (hm b _ q fun z=>z),q];simp⟩⟩
 by_cases vH:b=e
 ·subst vH;exact yC
 ·exact ⟨u,k b u vH q⟩
end
def Dh (h:Heap) (H:Hp):List Addr:=(List.range h.objs.size).filter fun a=>(H a).isSome
def nz (h:Heap) (H:Hp):Heap:=PySem.W.hideAll h (Dh h H)
theorem MZ (h:Heap) (H:Hp):(nz h H).objs.size=h.objs.size:=PySem.W.hideAll_size _ _
theorem M0 {h:Heap} {H:Hp} {b:Addr} {o:Obj} (e:h.get? b=some o) (n:H b=none):(nz h H).get? b=some o :=
 PySem.W.hideAll_get _ e fun hm=>by
  have q:(H b).isSome=true:=(List.mem_filter.mp hm).2
  rw [n] at q;simp at q
theorem M1 {h:Heap} {H:Hp} {b:Addr} {o:Obj} (e:(nz h H).get? b=some o):h.get? b=some o/\H b=none:=by
 have e':h.get? b=some o:=PySem.W.of_hideAll (Dh h H) e
 refine ⟨e',?_⟩
 cases q:H b with
 | none=>rfl
 | some x =>
  have hm:b∈Dh h H:=List.mem_filter.mpr ⟨List.mem_range.mpr (Heap.lt_size e'),by simp [q]⟩
  have z:(nz h H).get? b=none:=PySem.W.hideAll_none (Dh h H) hm
  rw [z] at e;cases e
def su (g h:Heap) (L:Addr):List (Addr×Obj):=(List.range h.objs.size).filterMap fun a=>if a=L\/(g.get? a).isSome=true then none else (h.get? a).map fun o=>(a,o)
def rest (g h:Heap) (L d:Addr):List (Addr×Obj):=(su g h L).filter fun p=>decide (p.1≠d)
end L2
namespace L2
open PySem PySem.Spec PyProof.Rows
structure Mod (K:PySem.W.Frag) (mg:Str->Option Value) (base:Heap):Prop where
 zH:K.In base
 glob:base.Ns mainGlobals mg
 blt:∃ mb,base.Ns builtinsNs mb/\∀ x:Str,x≠"__name__" -> mb x=bootBuiltins x
 nolimit:base.NoLimit
set_option genInjectivity false in
structure Cx where
 prog:Program
 w:World
 K:PySem.W.Frag
 mg:Str->Option Value
 base:Heap
 A:Around
 N:List Str
 s₀:Shared
 H₀:Hp
 env:Env
 outer:List Env
 stack:List Env
 ex:List Addr
 fn:Str->Bool
 calm:Bool
 pn:List (Addr×Obj)
 xe:Value->Shared->Prop
def frs (l:List Env):List Addr:=l.filterMap (·.frame)
abbrev Cx.fs (X:Cx):List Addr:=frs X.outer
def FL (sc:Scope) (x:Str):Prop:=sc.names.lookup x=some .local\/sc.names.lookup x=some .cell\/sc.names.lookup x=some .free
def Loc (sc:Scope) (x:Str):Prop:=sc.names.lookup x=some .local\/sc.names.lookup x=some .cell
def Look (env:Env) (h:Heap) (m:Str->Option Value) (x:Str) (u:Value):Prop :=
 (env.kindOf x=some .local/\m x=some u)\/((env.kindOf x=some .cell\/env.kindOf x=some .free)/\∃ c,env.cells.lookup x=some c/\h.IsCell c (some u))
structure Cx.Ok (X:Cx):Prop where
 mod:Mod X.K X.mg X.base
 kind:X.env.scope.kind=.function
 glob:X.env.globals=mainGlobals
 blt:X.env.builtins=builtinsNs
 above:X.s₀.heap.objs.size<=X.env.locals
 inj:∀ x y c,X.env.cells.lookup x=some c->X.env.cells.lookup y=some c->x=y
 has:∀ x,(X.env.kindOf x=some .cell\/X.env.kindOf x=some .free)->∃ c,X.env.cells.lookup x=some c
 zI:∀ x c,X.fn x=true->X.env.cells.lookup x=some c->X.s₀.heap.objs.size<=c
 hd:X.calm=true->X.A.handled=none
 frames:X.A.frames=some X.stack
 stk:X.stack=X.outer\/(X.stack=X.env :: X.outer/\X.env.frame=some X.env.locals)
 Jb:∀ b∈X.ex,b≠X.env.locals/\∀ x c,X.env.cells.lookup x=some c->c≠b
 bs:∀ b o,X.base.get? b=some o->X.s₀.heap.get? b=some o/\X.H₀ b=none
 rC:X.base.objs.size<=X.s₀.heap.objs.size
 oP:∀ b o,X.base.get? b=some o->b ∉ X.ex
 sv:∀ b∈X.ex,b ∉ X.fs
 mv:X.s₀.heap.FunFrames X.base X.outer
 yD:∀ b∈X.fs,X.H₀ b=none
structure Inv (X:Cx) (pins:List (Addr×Obj)) (σ:List (Option V)) (H:Hp) (s:Shared):Prop where
 ok:X.Ok
 os:s.os=X.s₀.os
 bare:AllBare s.gens
 base:Un X.fs X.ex X.H₀ H X.s₀.heap s.heap
 loc:∃ m,s.heap.Ns X.env.locals m/\∀ (i:Nat) (x:Str) (v:V),X.N[i]?=some x->σ[i]?=some (some v)->FL X.env.scope x->∃ u,RelV v u/\Look X.env s.heap m x u
 cell:∀ x c,X.env.cells.lookup x=some c->∃ v,s.heap.IsCell c v
 free:H X.env.locals=none
 j4:∀ x c,X.env.cells.lookup x=some c->H c=none
 pin:∀ p∈X.pn ++ pins,s.heap.get? p.1=some p.2/\H p.1=none/\p.1≠X.env.locals/\p.1 ∉ X.fs/\∀ v,p.2.data≠.cell v
 hok:kC X.prog X.w H s.heap
 len:σ.length=X.N.length
section
variable {X:Cx} {pins:List (Addr×Obj)} {σ:List (Option V)} {H H':Hp} {s:Shared} {h':Heap}
theorem Cx.Ok.FN (ok:X.Ok) {b:Addr} {o:Obj} (e:X.base.get? b=some o):b ∉ X.fs:=fun hb=>by
 have:=(ok.mv.mem hb).1
 rw [e] at this;cases this
theorem Inv.bs (I:Inv X pins σ H s):∀ b o,X.base.get? b=some o->s.heap.get? b=some o/\H b=none:=fun b o e =>
 ⟨I.base.keep b o (I.ok.bs b o e).1 (I.ok.bs b o e).2 (I.ok.FN e) (I.ok.oP b o e),I.base.free b o (I.ok.bs b o e).1 (I.ok.bs b o e).2 (I.ok.oP b o e)⟩
theorem Inv.bk (I:Inv X pins σ H s):∀ b o,X.base.get? b=some o->s.heap.get? b=some o:=fun b o e=>(I.bs b o e).1
theorem Inv.mod (I:Inv X pins σ H s):Mod X.K X.mg X.base:=I.ok.mod
theorem Inv.yE (I:Inv X pins σ H s):X.K.In s.heap:=I.ok.mod.zH.keeps I.bk
theorem Inv.lt (I:Inv X pins σ H s):X.env.locals < s.heap.objs.size:=let ⟨_,hn,_⟩:=I.loc;hn.lt
theorem Inv.sz (I:Inv X pins σ H s):X.s₀.heap.objs.size<=s.heap.objs.size:=Nat.le_trans I.ok.above (Nat.le_of_lt I.lt)
theorem Inv.zJ (I:Inv X pins σ H s) {a:Addr} (h:s.heap.objs.size<=a):a ∉ X.fs:=fun hb=>by
 obtain ⟨_,o,ho,_⟩:=I.ok.mv.mem hb
 exact absurd (Nat.lt_of_lt_of_le (Heap.lt_size ho) (Nat.le_trans I.sz h)) (Nat.lt_irrefl _)
theorem Inv.vI (I:Inv X pins σ H s):∀ x c,X.env.cells.lookup x=some c->c≠X.env.locals:=fun x c e z=>by
 obtain ⟨v,o,ho,hd⟩:=I.cell x c e
 obtain ⟨m,⟨o',es,ep,ho',hd',_⟩,_⟩:=I.loc
 rw [z,ho'] at ho;cases ho;rw [hd'] at hd;cases hd
theorem Inv.mv (I:Inv X pins σ H s):s.heap.FunFrames X.base X.outer:=by
 have all:∀ (l:List Env),(∀ b∈frs l,b∈X.fs)->X.s₀.heap.FunFrames X.base l->s.heap.FunFrames X.base l:=by
  intro l
  induction l with
  | nil=>intro _ _;trivial
  | cons env r ih =>
   intro hs hl
   obtain ⟨hk,⟨L,o,hf,hn,ho,hd⟩,hr⟩:=hl
   have hL:L∈X.fs:=hs L (by unfold frs;rw [List.filterMap_cons,hf];exact List.mem_cons_self)
   obtain ⟨sl,e⟩:=I.base.slot L o ho (I.ok.yD L hL) hL fun z=>I.ok.sv L z hL
   exact ⟨hk,⟨L,_,hf,hn,e,hd⟩,ih (fun b hb=>hs b (by unfold frs;rw [List.filterMap_cons,hf];exact List.mem_cons_of_mem _ hb)) hr⟩
 exact all X.outer (fun _ hb=>hb) I.ok.mv
theorem Inv.stack (I:Inv X pins σ H s):s.heap.FunFrames X.base X.stack:=by
 rcases I.ok.stk with e | ⟨e,hf⟩
 ·rw [e];exact I.mv
 ·rw [e]
  obtain ⟨m,hn,_⟩:=I.loc
  refine .cons (by rw [I.ok.kind];decide) hf hn ?_ I.mv
  exact Heap.get?_none_of_le (Nat.le_trans I.ok.rC I.ok.above)
theorem Inv.mw (I:Inv X pins σ H s):∀ b∈frs X.stack,b∈X.env.locals :: X.fs:=fun b hb=>by
 rcases I.ok.stk with e | ⟨e,hf⟩
 ·rw [e] at hb;exact List.mem_cons_of_mem _ hb
 ·rw [e] at hb
  unfold frs at hb
  rw [List.filterMap_cons,hf] at hb
  exact hb
theorem Inv.pe (I:Inv X pins σ H s):∀ b∈frs X.stack,H b=none:=fun b hb=>by
 rcases List.mem_cons.mp (I.mw b hb) with e | hb
 ·rw [e];exact I.free
 ·obtain ⟨_,o,ho,_⟩:=I.ok.mv.mem hb
  exact I.base.free b o ho (I.ok.yD b hb) fun z=>I.ok.sv b z hb
theorem Inv.step {g':Array GenState} {t':Nat} {d':Drawn} {ch:List Addr} (I:Inv X pins σ H s)
  (hch:∀ b∈ch,(b∈X.ex\/X.s₀.heap.objs.size<=b)/\b≠X.env.locals/\(∀ x c,X.env.cells.lookup x=some c->c≠b)/\∀ p∈X.pn ++ pins,p.1≠b)
  (keep:∀ b o,b≠X.env.locals->b ∉ X.fs->b ∉ ch->s.heap.get? b=some o->H b=none->h'.get? b=some o)
  (slot:∀ b o,b≠X.env.locals->b∈X.fs->b ∉ ch->s.heap.get? b=some o->H b=none->∃ sl,h'.get? b=some { o with slots:=sl }) (free:∀ b o,b ∉ ch->s.heap.get? b=some o->H b=none->H' b=none)
  (there:∀ b o,b ∉ ch->s.heap.get? b=some o->∃ o',h'.get? b=some o')
  (tups:∀ b xs,H b=some (.tup xs)->H' b=some (.tup xs)) (ny:∀ b o u,H b=some (.mr o u)->H' b=some (.mr o u)) (oi:∀ b ps,H b=some (.vF ps)->∃ more,H' b=some (.vF (ps ++ more)))
  (ns:∀ m,s.heap.Ns X.env.locals m->h'.Ns X.env.locals m) (hok:kC X.prog X.w H' h') (hg:AllBare g') :
  Inv X pins σ H' { s with heap:=h',gens:=g',drawn:=d',toks:=t' }:=by
 have vJ:∀ b o,X.s₀.heap.get? b=some o->b≠X.env.locals:=fun b o e=>Nat.ne_of_lt (Nat.lt_of_lt_of_le (Heap.lt_size e) I.ok.above)
 have Di:∀ b o,X.s₀.heap.get? b=some o->b ∉ X.ex->b ∉ ch:=fun b o e hx hb=>by
  rcases (hch b hb).1 with z | z
  ·exact hx z
  ·exact absurd (Nat.lt_of_lt_of_le (Heap.lt_size e) z) (Nat.lt_irrefl _)
 have cellK:∀ x c,X.env.cells.lookup x=some c->∀ v,s.heap.IsCell c v->h'.IsCell c v:=fun x c e v ⟨o,ho,hd⟩=>by
  have zK:c ∉ ch:=fun z=>(hch c z).2.2.1 x c e rfl
  by_cases hc:c∈X.fs
  ·obtain ⟨sl,q⟩:=slot c o (I.vI x c e) hc zK ho (I.j4 x c e)
   exact ⟨_,q,hd⟩
  ·exact ⟨o,keep c o (I.vI x c e) hc zK ho (I.j4 x c e),hd⟩
 refine ⟨I.ok,I.os,hg,⟨fun b o e n hb hx=>?_,fun b o e n hb hx=>?_,fun b o e n hx=>?_,fun b o e hx=>?_,fun b xs e=>tups b xs (I.base.tups b xs e),fun b o xs e=>ny b o xs (I.base.ny b o xs e),fun b ps e=>?_⟩,?_,fun x c e=>?_,?_,fun x c e=>?_,fun p hp=>?_,hok,I.len⟩
 ·exact keep b o (vJ b o e) hb (Di b o e hx) (I.base.keep b o e n hb hx) (I.base.free b o e n hx)
 ·obtain ⟨sl,e1⟩:=I.base.slot b o e n hb hx
  obtain ⟨M3,e2⟩:=slot b _ (vJ b o e) hb (Di b o e hx) e1 (I.base.free b o e n hx)
  exact ⟨M3,e2⟩
 ·obtain ⟨o',e1⟩:=I.base.there b o e hx
  exact free b o' (Di b o e hx) e1 (I.base.free b o e n hx)
 ·obtain ⟨o',e1⟩:=I.base.there b o e hx
  exact there b o' (Di b o e hx) e1
 ·obtain ⟨m1,e1⟩:=I.base.oi b ps e
  obtain ⟨m2,e2⟩:=oi b _ e1
  exact ⟨m1 ++ m2,by rw [e2,Array.append_assoc]⟩
 ·obtain ⟨m,hn,hl⟩:=I.loc
  refine ⟨m,ns m hn,fun i x v e1 e2 e3=>?_⟩
  obtain ⟨u,r,l⟩:=hl i x v e1 e2 e3
  refine ⟨u,r,?_⟩
  rcases l with l | ⟨k,c,e,z⟩
  ·exact .inl l
  ·exact .inr ⟨k,c,e,cellK x c e _ z⟩
 ·obtain ⟨v,z⟩:=I.cell x c e
  exact ⟨v,cellK x c e v z⟩
 ·obtain ⟨m,⟨o,_,_,ho,_⟩,_⟩:=I.loc
  exact free _ o (fun z=>(hch _ z).2.1 rfl) ho I.free
 ·obtain ⟨v,o,ho,hd⟩:=I.cell x c e
  exact free c o (fun z=>(hch c z).2.2.1 x c e rfl) ho (I.j4 x c e)
 ·obtain ⟨e,n,ne,nf,d⟩:=I.pin p hp
  have zK:p.1 ∉ ch:=fun z=>(hch p.1 z).2.2.2 p hp rfl
  exact ⟨keep p.1 p.2 ne nf zK e n,free p.1 p.2 zK e n,ne,nf,d⟩
theorem Inv.un {t':Nat} (I:Inv X pins σ H s) (u:Un X.fs [] H H' s.heap h') (hok:kC X.prog X.w H' h'):Inv X pins σ H' { s with heap:=h',toks:=t' }:=by
 obtain ⟨m,⟨o,es,ep,ho,r⟩,_⟩:=id I.loc
 obtain ⟨sl,hL⟩:=u.any ho I.free (by simp)
 exact I.step (g':=s.gens) (d':=s.drawn) (ch:=[]) (fun _ z=>nomatch z) (fun b o _ hb _ e n=>u.keep b o e n hb (by simp)) (fun b o _ hb _ e n=>u.slot b o e n hb (by simp)) (fun b o _ e n=>u.free b o e n (by simp)) (fun b o _ e=>u.there b o e (by simp)) u.tups u.ny u.oi (fun m' hm=>by
  obtain ⟨o',es',FO,ho',r'⟩:=hm
  rw [ho] at ho';cases ho'
  exact ⟨_,es',FO,hL,r'⟩) hok I.bare
theorem Inv.call {g':Array GenState} {t':Nat} {d':Drawn} {ch:List Addr} (I:Inv X pins σ H s) (u:Un (frs X.stack) ch H H' s.heap h') (hok:kC X.prog X.w H' h') (hg:AllBare g')
  (hch:∀ b∈ch,(b∈X.ex\/X.s₀.heap.objs.size<=b)/\b≠X.env.locals/\(∀ x c,X.env.cells.lookup x=some c->c≠b)/\∀ p∈X.pn ++ pins,p.1≠b) :
  Inv X pins σ H' { s with heap:=h',gens:=g',drawn:=d',toks:=t' }:=by
 obtain ⟨m,⟨o,es,ep,ho,r⟩,_⟩:=id I.loc
 obtain ⟨sl,hL⟩:=u.any ho I.free fun z=>(hch _ z).2.1 rfl
 exact I.step (ch:=ch) hch (fun b o hL hb hc e n=>u.keep b o e n (fun z=>(List.mem_cons.mp (I.mw b z)).elim hL hb) hc) (fun b o _ _ hc e n=>u.any e n hc) (fun b o hc e n=>u.free b o e n hc) (fun b o hc e=>u.there b o e hc) u.tups u.ny u.oi (fun m' hm=>by
  obtain ⟨o',es',FO,ho',r'⟩:=hm
  rw [ho] at ho';cases ho'
  exact ⟨_,es',FO,hL,r'⟩) hok hg
theorem Inv.turned {t':Nat} {it:Addr} (I:Inv X pins σ H s) (k:∀ b o,b≠it->s.heap.get? b=some o->h'.get? b=some o) (hn:H it=none) (hL:it≠X.env.locals)
  (h1:it∈X.ex\/X.s₀.heap.objs.size<=it) (h2:∀ x c,X.env.cells.lookup x=some c->c≠it) (h3:∀ p∈X.pn ++ pins,p.1≠it):Inv X pins σ H { s with heap:=h',toks:=t' }:=by
 have zL:∀ b u,H b=some u->b≠it:=fun b u e z=>by rw [z,hn] at e;cases e
 refine I.step (g':=s.gens) (d':=s.drawn) (ch:=[it]) (fun b hb=>?_) (fun b o _ _ hc e _=>k b o (fun z=>hc (by simp [z])) e) (fun b o _ _ hc e _=>⟨o.slots,k b o (fun z=>hc (by simp [z])) e⟩) (fun _ _ _ _ n=>n)
  (fun b o hc e=>⟨o,k b o (fun z=>hc (by simp [z])) e⟩) (fun _ _ e=>e) (fun _ _ _ e=>e) (fun b ps e=>⟨#[],by rw [e];simp⟩) (fun m hm=>?_) (fun b u e=>?_) I.bare
 ·have e:b=it:=by simpa using hb
  subst e
  exact ⟨h1,hL,h2,h3⟩
 ·obtain ⟨o,es,ep,ho,r⟩:=hm
  exact ⟨o,es,ep,k _ o (Ne.symm hL) ho,r⟩
 ·refine (I.hok b u e).stay (fun c v hc q=>k c v ?_ q) (fun _ q=>q) fun _ _ q=>q
  rcases hc with z | z
  ·rw [z];exact zL b u e
  ·exact zL c _ z
theorem Inv.tok (I:Inv X pins σ H s) (t:Nat):Inv X pins σ H { s with toks:=t }:=I.un (h':=s.heap) (t':=t) Un.refl I.hok
theorem Inv.kept {t':Nat} (I:Inv X pins σ H s) (k:∀ b u,s.heap.get? b=some u->h'.get? b=some u):Inv X pins σ H { s with heap:=h',toks:=t' }:=I.un (Un.kept k) (I.hok.kept k)
theorem Inv.laid {a:Addr} {o:HO} {t':Nat} (I:Inv X pins σ H s) (k:∀ b u,s.heap.get? b=some u->h'.get? b=some u) (hp:s.heap.objs.size<=a) (new:cb X.prog X.w (upd H a o) h' a o) :
  Inv X pins σ (upd H a o) { s with heap:=h',toks:=t' }:=I.un (Un.laid k hp (I.hok.fresh hp)) (I.hok.laid k hp new)
theorem Inv.write {x e:Addr} {o:HO} {t':Nat} (I:Inv X pins σ H s) (mu:zF (H x)) (he:e=x\/H e=some (.own x)) (k:∀ b u,b≠e->s.heap.get? b=some u->h'.get? b=some u) (yC:∃ u,h'.get? e=some u)
  (new:cb X.prog X.w (upd H x o) h' x o):Inv X pins σ (upd H x o) { s with heap:=h',toks:=t' }:=I.un (Un.write mu he k yC) (I.hok.write mu he k yC new)
theorem Inv.l8 {uf:List (Addr×Obj)} (I:Inv X pins σ H s) (h:∀ p∈uf,s.heap.get? p.1=some p.2/\H p.1=none/\p.1≠X.env.locals/\p.1 ∉ X.fs/\∀ v,p.2.data≠.cell v):Inv X uf σ H s :=
 ⟨I.ok,I.os,I.bare,I.base,I.loc,I.cell,I.free,I.j4,fun p hp=>(List.mem_append.mp hp).elim (fun z=>I.pin p (List.mem_append_left _ z)) (h p),I.hok,I.len⟩
theorem Jc {N:List Str} (hN:N.Nodup) {i j:Nat} {x:Str} (a:N[i]?=some x) (b:N[j]?=some x):i=j:=by
 obtain ⟨h1,e1⟩:=List.getElem?_eq_some_iff.mp a
 obtain ⟨h2,e2⟩:=List.getElem?_eq_some_iff.mp b
 exact (List.getElem_inj hN).mp (e1.trans e2.symm)
theorem Jd {M:Model} {A:Around} {E:Value->Shared->Prop} {i:Nat} {x:Str} {v:V} {u:Value} {Q:Unit->Shared->Prop} (I:Inv X pins σ H s) (hN:X.N.Nodup) (hi:X.N[i]?=some x) (hx:Loc X.env.scope x) (r:RelV v u)
  (h:∀ s',Inv X pins (σ.set i (some v)) H s'->(∃ a,Heap.SameBut a s.heap s'.heap/\(a=X.env.locals\/X.env.cells.lookup x=some a))->Q () s') (hf:X.fn x=true\/X.env.scope.names.lookup x=some .local:=by first | exact .inl rfl | exact .inr rfl | assumption):wpAny M A (storeName X.env x u) Q E s:=by
 obtain ⟨m,hn,hl⟩:=id I.loc
 have hcls:(X.env.scope.kind == .class || (X.env.scope.kind == .module && X.env.locals != X.env.globals))=false:=by rw [I.ok.kind];rfl
 have hiσ:i < σ.length:=by rw [I.len];exact (List.getElem?_eq_some_iff.mp hi).1
 have vI:=I.vI
 have tracked:∀ {a:Addr} {h':Heap},(∃ o,s.heap.get? a=some o/\H a=none)->Heap.SameBut a s.heap h'->kC X.prog X.w H h':=fun {a h'} ha hs b ob e=>by
  obtain ⟨_,_,hfree⟩:=ha
  refine (I.hok b ob e).stay (fun c w' hc q=>(hs.2 c ?_).trans q) (fun _ q=>q) fun _ _ q=>q
  rintro rfl
  rcases hc with rfl | hc
  ·rw [hfree] at e;cases e
  ·rw [hfree] at hc;cases hc
 rcases hx with hk | hk
 ·refine wpAny_storeName_local hk hn (fun h' hn' hs=>?_) hcls
  obtain ⟨oL,_,_,M4,_⟩:=id hn
  refine h _ ⟨I.ok,I.os,I.bare,⟨fun b o e n hb hx=>?_,fun b o e n hb hx=>?_,I.base.free,fun b o e hx=>?_,I.base.tups,I.base.ny,I.base.oi⟩,⟨_,hn',fun j y v' e1 e2 e3=>?_⟩,fun y c e=>?_,I.free,I.j4,fun p hp=>?_,tracked ⟨oL,M4,I.free⟩ hs,by simpa using I.len⟩ ⟨_,hs,.inl rfl⟩
  ·exact (hs.2 b (Nat.ne_of_lt (Nat.lt_of_lt_of_le (Heap.lt_size e) I.ok.above))).trans (I.base.keep b o e n hb hx)
  ·obtain ⟨sl,e1⟩:=I.base.slot b o e n hb hx
   exact ⟨sl,(hs.2 b (Nat.ne_of_lt (Nat.lt_of_lt_of_le (Heap.lt_size e) I.ok.above))).trans e1⟩
  ·obtain ⟨o',e1⟩:=I.base.there b o e hx
   exact ⟨o',(hs.2 b (Nat.ne_of_lt (Nat.lt_of_lt_of_le (Heap.lt_size e) I.ok.above))).trans e1⟩
  ·by_cases hj:j=i
   ·subst hj
    rw [hi] at e1;cases e1
    rw [List.getElem?_set_self hiσ] at e2
    cases e2
    exact ⟨u,r,.inl ⟨hk,by simp⟩⟩
   ·rw [List.getElem?_set_ne (Ne.symm hj)] at e2
    obtain ⟨u',r',q⟩:=hl j y v' e1 e2 e3
    refine ⟨u',r',?_⟩
    rcases q with ⟨k,e⟩ | ⟨k,c,e,z⟩
    ·refine .inl ⟨k,?_⟩
     have:y≠x:=fun e=>hj (Jc hN e1 (e ▸ hi))
     simp [this,e]
    ·exact .inr ⟨k,c,e,z.sameBut hs (vI y c e)⟩
  ·obtain ⟨w',z⟩:=I.cell y c e
   exact ⟨w',z.sameBut hs (vI y c e)⟩
  ·obtain ⟨e,n,ne,nf,d⟩:=I.pin p hp
   exact ⟨(hs.2 p.1 ne).trans e,n,ne,nf,d⟩
 ·have hfn:X.fn x=true:=by
   rcases hf with z | z
   ·exact z
   ·rw [z] at hk;cases hk
  obtain ⟨c,hc⟩:=I.ok.has x (.inl hk)
  obtain ⟨w',z⟩:=I.cell x c hc
  refine wpAny_storeName_cell I.ok.kind hk hc z (fun h' hc' hs=>?_)
  obtain ⟨oc,hoc,FP⟩:=id z
  refine h { s with heap:=h' } ⟨I.ok,I.os,I.bare,⟨fun b o e n hb hx=>?_,fun b o e n hb hx=>?_,I.base.free,fun b o e hx=>?_,I.base.tups,I.base.ny,I.base.oi⟩,⟨m,hn.sameBut hs (Ne.symm (vI x c hc)),fun j y v' e1 e2 e3=>?_⟩,fun y c' e=>?_,I.free,I.j4,fun p hp=>?_,tracked ⟨oc,hoc,I.j4 x c hc⟩ hs,by simpa using I.len⟩ ⟨c,hs,.inr hc⟩
  ·exact (hs.2 b (Nat.ne_of_lt (Nat.lt_of_lt_of_le (Heap.lt_size e) (I.ok.zI x c hfn hc)))).trans (I.base.keep b o e n hb hx)
  ·obtain ⟨sl,e1⟩:=I.base.slot b o e n hb hx
   exact ⟨sl,(hs.2 b (Nat.ne_of_lt (Nat.lt_of_lt_of_le (Heap.lt_size e) (I.ok.zI x c hfn hc)))).trans e1⟩
  ·obtain ⟨o',e1⟩:=I.base.there b o e hx
   exact ⟨o',(hs.2 b (Nat.ne_of_lt (Nat.lt_of_lt_of_le (Heap.lt_size e) (I.ok.zI x c hfn hc)))).trans e1⟩
  ·by_cases hj:j=i
   ·subst hj
    rw [hi] at e1;cases e1
    rw [List.getElem?_set_self hiσ] at e2
    cases e2
    exact ⟨u,r,.inr ⟨.inl hk,c,hc,hc'⟩⟩
   ·rw [List.getElem?_set_ne (Ne.symm hj)] at e2
    obtain ⟨u',r',q⟩:=hl j y v' e1 e2 e3
    refine ⟨u',r',?_⟩
    rcases q with q | ⟨k,c',e,z'⟩
    ·exact .inl q
    ·refine .inr ⟨k,c',e,z'.sameBut hs ?_⟩
     rintro rfl
     exact hj (Jc hN e1 (I.ok.inj _ _ _ e hc ▸ hi))
  ·by_cases hcc:c'=c
   ·subst hcc;exact ⟨_,hc'⟩
   ·obtain ⟨w2,z2⟩:=I.cell y c' e
    exact ⟨w2,z2.sameBut hs hcc⟩
  ·obtain ⟨e,n,ne,nf,d⟩:=I.pin p hp
   refine ⟨(hs.2 p.1 ?_).trans e,n,ne,nf,d⟩
   intro q
   rw [q,hoc] at e
   have q':oc=p.2:=Option.some.inj e
   exact d w' (by rw [<- q'];exact FP)
theorem Dj {M:Model} {A:Around} {E:Value->Shared->Prop} {i:Nat} {x:Str} {v:V} {u:Value} {Q:Unit->Shared->Prop} (I:Inv X pins σ H s) (hN:X.N.Nodup) (hi:X.N[i]?=some x) (hx:Loc X.env.scope x) (r:RelV v u)
  (h:∀ s',Inv X pins (σ.set i (some v)) H s'->Q () s') (hf:X.fn x=true\/X.env.scope.names.lookup x=some .local:=by first | exact .inl rfl | exact .inr rfl | assumption):wpAny M A (storeName X.env x u) Q E s :=
 Jd I hN hi hx r (fun s' I' _=>h s' I') hf
theorem Inv.zM {s':Shared} {ch:List Addr} (I:Inv X pins σ H s) (ho:s'.os=s.os) (u:Un (frs X.stack) ch H H' s.heap s'.heap) (hok:kC X.prog X.w H' s'.heap) (hg:AllBare s'.gens)
  (hch:∀ b∈ch,(b∈X.ex\/X.s₀.heap.objs.size<=b)/\b≠X.env.locals/\(∀ x c,X.env.cells.lookup x=some c->c≠b)/\∀ p∈X.pn ++ pins,p.1≠b):Inv X pins σ H' s':=by
 obtain ⟨h',g',d',t',o'⟩:=s'
 have e:o'=s.os:=ho
 subst e
 exact I.call (g':=g') (t':=t') (d':=d') u hok hg hch
end
abbrev XK:=Value->Option Addr->Hp->Prop
abbrev St:=List (Option V)
abbrev VK:=V->Hp->Prop
abbrev TE:=St->Hp->VK->Prop
abbrev TT:=St->Hp->(Bool->Hp->Prop)->Prop
abbrev TA:=St->Hp->(List V->Hp->Prop)->Prop
set_option genInjectivity false in
structure Ends where
 nx:St->Hp->Prop
 rt:VK
 bk:St->Hp->Prop:=fun _ _=>False
 ct:St->Hp->Prop:=fun _ _=>False
abbrev TS:=Ends->St->Hp->Prop
def EP (X:Cx) (pins:List (Addr×Obj)) (σ:St) (Q:VK) (u:Value) (s':Shared):Prop:=∃ v H',Inv X pins σ H' s'/\RelV v u/\Q v H'
def TP (X:Cx) (pins:List (Addr×Obj)) (σ:St) (Q:Bool->Hp->Prop) (b:Bool) (s':Shared):Prop:=∃ H',Inv X pins σ H' s'/\Q b H'
def AP (X:Cx) (pins:List (Addr×Obj)) (σ:St) (Q:List V->Hp->Prop) (us:List Value) (s':Shared):Prop:=∃ vs H',Inv X pins σ H' s'/\Vals vs us/\Q vs H'
def SP (X:Cx) (pins:List (Addr×Obj)) (D:Ends) (f:Flow) (s':Shared):Prop :=
 match f with
 | .next=>∃ σ' H',Inv X pins σ' H' s'/\D.nx σ' H'
 | .brk=>∃ σ' H',Inv X pins σ' H' s'/\D.bk σ' H'
 | .cont=>∃ σ' H',Inv X pins σ' H' s'/\D.ct σ' H'
 | .ret u=>∃ v σ' H',Inv X pins σ' H' s'/\RelV v u/\D.rt v H'
def PE (X:Cx) (e:Expr) (t:TE):Prop :=
 ∀ (pins:List (Addr×Obj)) (s:Shared) (σ:St) (H:Hp) (Q:VK),Inv X pins σ H s->t σ H Q->wpAny (model X.prog X.w) X.A (eval e X.env) (EP X pins σ Q) X.xe s
def PT (X:Cx) (e:Expr) (t:TT):Prop :=
 ∀ (pins:List (Addr×Obj)) (s:Shared) (σ:St) (H:Hp) (Q:Bool->Hp->Prop),Inv X pins σ H s->t σ H Q->wpAny (model X.prog X.w) X.A (isTrue e X.env (eval e X.env)) (TP X pins σ Q) X.xe s
def PW (X:Cx) (e:Expr) (t:TT):Prop :=
 ∀ (whole:Sem Value) (pins:List (Addr×Obj)) (s:Shared) (σ:St) (H:Hp) (Q:Bool->Hp->Prop),Inv X pins σ H s->t σ H Q->wpAny (model X.prog X.w) X.A (isTrue e X.env whole) (TP X pins σ Q) X.xe s
theorem PW.pt {X:Cx} {e:Expr} {t:TT} (h:PW X e t):PT X e t:=h _
def PA (X:Cx) (es:List Expr) (t:TA):Prop :=
 ∀ (pos:Pos) (pins:List (Addr×Obj)) (s:Shared) (σ:St) (H:Hp) (Q:List V->Hp->Prop),Inv X pins σ H s->t σ H Q->wpAny (model X.prog X.w) X.A (spliced (backTo pos (starEach es X.env))) (AP X pins σ Q) X.xe s
def PS (X:Cx) (st:Stmt) (t:TS):Prop :=
 ∀ (pins:List (Addr×Obj)) (s:Shared) (σ:St) (H:Hp) (D:Ends),Inv X pins σ H s->t D σ H->wpAny (model X.prog X.w) X.A (exec st X.env) (SP X pins D) X.xe s
def pX (X:Cx) (st:List Stmt) (t:TS):Prop :=
 ∀ (pins:List (Addr×Obj)) (s:Shared) (σ:St) (H:Hp) (D:Ends),Inv X pins σ H s->t D σ H->wpAny (model X.prog X.w) X.A (execs st X.env) (SP X pins D) X.xe s
theorem cC {α:Type} {t:Sem α} {Q Q':α->Shared->Prop} {M:Model} {A:Around} {E:Value->Shared->Prop} {s:Shared} (h:wpAny M A t Q E s) (hQ:∀ a s,Q a s->Q' a s):wpAny M A t Q' E s:=wpAny_mono h hQ fun _ _ x=>x
end L2
namespace L2
open PySem PySem.Spec PyProof.Rows
section
variable {X:Cx}
def vK (i:Nat):TE:=fun σ H Q=>∃ v,σ[i]?=some (some v)/\Q v H
def tC (v:V):TE:=fun _ H Q=>Q v H
theorem vL {i:Nat} {x:Str} {pos:Pos} (hN:X.N[i]?=some x) (hv:FL X.env.scope x) (hd:(x == ("__debug__" : Str))=false:=by decide) (hcd:(x == ("__classdict__" : Str))=false:=by decide):PE X (.Name x pos) (vK i):=by
 intro pins s σ H Q I h
 obtain ⟨v,e,h⟩:=h
 obtain ⟨m,hn,hl⟩:=I.loc
 obtain ⟨u,r,l⟩:=hl i x v hN e hv
 have fin:EP X pins σ Q u s:=⟨v,H,I,r,h⟩
 rcases l with ⟨hk,hm⟩ | ⟨hk,c,hc,hcell⟩
 ·exact wpAny_Name (wpAny_loadName_local I.ok.kind hk hn hm fin) hd
 ·rcases hk with hk | hk
  ·exact wpAny_Name (wpAny_loadName_cell I.ok.kind hk hc hcell fin) hd
  ·exact wpAny_Name (wpAny_loadName_free I.ok.kind hk hc hcell fin hcd) hd
theorem aG {i j pos}:PE X (.Constant (.int i) j pos) (tC (.int i)):=fun _ _ _ H _ I h=>wpAny_Constant_int ⟨.int i,H,I.tok _,⟨_,rfl⟩,h⟩
theorem ug {b j pos}:PE X (.Constant (.bool b) j pos) (tC (.bl b)):=fun _ _ _ H _ I h=>Constant_bool ⟨.bl b,H,I,rfl,h⟩
theorem lQ {x j pos}:PE X (.Constant (.str x) j pos) (tC (.str x)):=fun _ _ _ H _ I h=>Calls.Constant_str ⟨.str x,H,I.tok _,⟨_,rfl⟩,h⟩
def Gl (X:Cx) (x:Str):Prop:=X.env.kindOf x=some .globalImplicit
theorem Je {E:Value->Shared->Prop} {pins:List (Addr×Obj)} {s:Shared} {σ:St} {H:Hp} {x:Str} {u:Value} {pos:Pos} {Q:Value->Shared->Prop} (I:Inv X pins σ H s) (hg:Gl X x) (hm:X.mg x=some u) (h:Q u s)
  (hd:(x == ("__debug__" : Str))=false:=by decide):wpAny (model X.prog X.w) X.A (eval (.Name x pos) X.env) Q E s :=
 Calls.Name_function_global I.ok.kind hg (Calls.loadGlobal_global (by rw [I.ok.glob];exact I.mod.glob.keeps I.bk) hm h) hd
theorem uh {E:Value->Shared->Prop} {pins:List (Addr×Obj)} {s:Shared} {σ:St} {H:Hp} {x:Str} {u:Value} {pos:Pos} {Q:Value->Shared->Prop} (I:Inv X pins σ H s) (hg:Gl X x) (hm:X.mg x=none) (hv:bootBuiltins x=some u) (h:Q u s)
  (hn:x≠"__name__" := by decide) (hd:(x == ("__debug__" : Str))=false:=by decide):wpAny (model X.prog X.w) X.A (eval (.Name x pos) X.env) Q E s:=by
 obtain ⟨mb,h1,h2⟩:=I.mod.blt
 exact Calls.Name_function_global I.ok.kind hg (Calls.loadGlobal_builtin (by rw [I.ok.glob];exact I.mod.glob.keeps I.bk) hm (by rw [I.ok.blt];exact h1.keeps I.bk) ((h2 x hn).trans hv) h) hd
theorem M5 {x:Str} {v:V} {u:Value} {pos:Pos} (hg:Gl X x) (hm:X.mg x=some u) (r:RelV v u) (hd:(x == ("__debug__" : Str))=false:=by decide):PE X (.Name x pos) (tC v) :=
 fun _ _ _ H _ I h=>Je I hg hm ⟨v,H,I,r,h⟩ hd
theorem rD {x:Str} {v:V} {u:Value} {pos:Pos} (hg:Gl X x) (hm:X.mg x=none) (hv:bootBuiltins x=some u) (r:RelV v u) (hn:x≠"__name__" := by decide) (hd:(x == ("__debug__" : Str))=false:=by decide):PE X (.Name x pos) (tC v) :=
 fun _ _ _ H _ I h=>uh I hg hm hv ⟨v,H,I,r,h⟩ hn hd
variable {a b:Expr} {ta tb:TE} {pos:Pos}
def PC (X:Cx) (op:CmpOp) (a b:Expr) (t:TE):Prop :=
 ∀ (pins:List (Addr×Obj)) (s:Shared) (σ:St) (H:Hp) (Q:VK),Inv X pins σ H s->t σ H Q ->
  wpAny (model X.prog X.w) X.A (eval a X.env) (fun v s₁=>wpAny (model X.prog X.w) X.A (eval b X.env) (fun u s₂=>wpAny (model X.prog X.w) X.A (compareOp op v u) (EP X pins σ Q) X.xe s₂) X.xe s₁) X.xe s
theorem qv (b:Expr) {op:CmpOp} (h:op≠.In) (h2:op≠.NotIn):behindInMarks op b=false:=by
 have e1:(op == CmpOp.In)=false:=by cases op <;> first | rfl | exact absurd rfl h
 have e2:(op == CmpOp.NotIn)=false:=by cases op <;> first | rfl | exact absurd rfl h2
 cases b <;> simp [behindInMarks,e1,e2]
def tB (t:TE):TT:=fun σ H Q=>t σ H fun x H1=>∃ c,x=.bl c/\Q c H1
theorem vN {op:CmpOp} {t:TE} (h:PC X op a b t) (h1:behindInMarks op b=false:=by first | exact qv _ (by decide) (by decide) | rfl):PT X (.Compare a [op] [b] pos) (tB t):=by
 intro pins s σ H Q I hw
 refine wpAny_isTrue_Compare1 (cC (h pins s σ H _ I hw) fun v s1 h1=>cC h1 fun u s2 h2=>cC h2 fun c s3 ⟨x,H1,I1,r1,q1⟩=>?_) h1
 obtain ⟨d,rfl,q⟩:=q1
 cases r1
 exact wpAny_truthy_bool ⟨H1,I1,q⟩
theorem Dk {e:Expr} {t:TE} (h:PE X e t) (he:∀ whole,isTrue e X.env whole=(do let v <- whole;standAt e.pos;holding [v] (truthy v)):=by intro _;rfl):PT X e (tB t):=by
 intro pins s σ H Q I hw
 refine isTrue_plain (cC (h pins s σ H _ I hw) fun v s1 ⟨x,H1,I1,r1,q1⟩=>?_) (he _)
 obtain ⟨d,rfl,q⟩:=q1
 cases r1
 exact wpAny_truthy_bool ⟨H1,I1,q⟩
variable {tA Dl:TT} {rest:List Expr}
def zN (t u:TT):TT:=fun σ H Q=>t σ H fun c H1=>if c=true then u σ H1 Q else Q false H1
def Jf (t u:TT):TT:=fun σ H Q=>t σ H fun c H1=>if c=true then Q true H1 else u σ H1 Q
def zO (t:TT):TT:=fun σ H Q=>t σ H fun c H1=>Q (!c) H1
theorem FQ (ha:PT X a tA):PW X (.BoolOp .And [a] pos) tA:=by
 intro wh pins s σ H Q I h
 refine isTrue_and (cC (ha pins s σ H Q I h) fun c s1 e=>?_)
 cases c with
 | true=>exact isTrue_and_nil e
 | false=>exact e
theorem FR (ha:PT X a tA):PW X (.BoolOp .Or [a] pos) tA:=by
 intro wh pins s σ H Q I h
 refine isTrue_or (cC (ha pins s σ H Q I h) fun c s1 e=>?_)
 cases c with
 | false=>exact isTrue_or_nil e
 | true=>exact e
theorem FT (ha:PT X a tA) (hb:PW X (.BoolOp .And (b :: rest) pos) Dl):PW X (.BoolOp .And (a :: b :: rest) pos) (zN tA Dl):=by
 intro wh pins s σ H Q I h
 refine isTrue_and (cC (ha pins s σ H _ I h) fun c s1 ⟨H1,I1,q1⟩=>?_)
 cases c with
 | true=>exact hb wh pins s1 σ H1 Q I1 q1
 | false=>exact ⟨H1,I1,q1⟩
theorem FU (ha:PT X a tA) (hb:PW X (.BoolOp .Or (b :: rest) pos) Dl):PW X (.BoolOp .Or (a :: b :: rest) pos) (Jf tA Dl):=by
 intro wh pins s σ H Q I h
 refine isTrue_or (cC (ha pins s σ H _ I h) fun c s1 ⟨H1,I1,q1⟩=>?_)
 cases c with
 | true=>exact ⟨H1,I1,q1⟩
 | false=>exact hb wh pins s1 σ H1 Q I1 q1
theorem FV (ha:PT X a tA):PT X (.UnaryOp .Not a pos) (zO tA):=by
 intro pins s σ H Q I h
 exact isTrue_not (ha pins s σ H (fun c H1=>Q (!c) H1) I h)
def ui (ta tb:TE):TE:=fun σ H Q=>ta σ H fun x H1=>∃ c,x=.bl c/\if c=true then tb σ H1 Q else Q (.bl false) H1
theorem Jg {op} {t:TE} (h:PE X a t):PE X (.BoolOp op [a] pos) t:=fun pins s σ H Q I hw=>BoolOp_one (h pins s σ H Q I hw)
theorem Jh (ha:PE X a ta) (hb:PE X (.BoolOp .And (b :: rest) pos) tb):PE X (.BoolOp .And (a :: b :: rest) pos) (ui ta tb):=by
 intro pins s σ H Q I h
 refine BoolOp_and (cC (ha pins s σ H _ I h) fun v s1 ⟨x,H1,I1,r1,q1⟩=>?_)
 obtain ⟨c,rfl,q1⟩:=q1
 cases r1
 refine wpAny_truthy_bool ?_
 cases c with
 | true=>exact hb pins s1 σ H1 Q I1 q1
 | false=>exact ⟨.bl false,H1,I1,rfl,q1⟩
end
end L2
namespace L2
open PySem PySem.Spec PyProof.Rows
def jg (K:PySem.W.Frag) (H:Hp) (a:Addr) (xs:List V):Prop :=
 Rd H a (.lst xs) \/
  ∃ (o:Obj) (its:Array Value) (n:Nat),K.lookup a=some o/\o.cls=.type "list" /\ o.dict=none/\o.data=.seq its n/\its.size<=sizeLine/\Vals xs its.toList
def eZ (K:PySem.W.Frag) (H:Hp) (a:Addr) (xs:List V):Prop :=
 Rd H a (.tup xs) \/
  ∃ (o:Obj) (its:Array Value) (n:Nat),K.lookup a=some o/\o.cls=.type "tuple" /\ o.dict=none/\o.data=.seq its n/\its.size<=sizeLine/\Vals xs its.toList
def FW:Value->Option V
 | .none=>some .non
 | .bool b=>some (.bl b)
 | .int i _=>some (.int i)
 | .str x _=>some (.str x)
 | .bytes b _=>some (.qu b)
 | .float b _=>some (.yz b)
 | .ref a=>some (.ref a)
 | .type n=>some (.ty n)
 | _=>none
theorem RelV.abs {x:V} {u:Value} (r:RelV x u):FW u=some x:=by
 cases x with
 | non=>cases r;rfl
 | bl _=>cases r;rfl
 | int _=>obtain ⟨t,rfl⟩:=r;rfl
 | str _=>obtain ⟨t,rfl⟩:=r;rfl
 | qu _=>obtain ⟨t,rfl⟩:=r;rfl
 | yz _=>obtain ⟨t,rfl⟩:=r;rfl
 | ref _=>cases r;rfl
 | ty _=>cases r;rfl
theorem RelV.inj {x y:V} {u:Value} (r:RelV x u) (q:RelV y u):x=y:=Option.some.inj (r.abs.symm.trans q.abs)
theorem Vals.inj:∀ {xs ys:List V} {us:List Value},Vals xs us->Vals ys us->xs=ys
 | _,_,_,.nil,.nil=>rfl
 | _,_,_,.cons r t,.cons r' t'=>by rw [r.inj r',Vals.inj t t']
section
variable {X:Cx} {pins:List (Addr×Obj)} {σ:St} {H:Hp} {s:Shared} {a:Addr} {xs ys:List V}
theorem eZ.of {K:PySem.W.Frag} (h:H a=some (.tup xs)):eZ K H a xs:=.inl (.inl h)
theorem Inv.list (I:Inv X pins σ H s) (h:jg X.K H a xs):∃ its:List Value,Vals xs its/\PlainL s.heap a its.toArray/\xs.length<=sizeLine:=by
 rcases h with h | ⟨o,its,n,hk,hc,hd,hs,hz,r⟩
 ·obtain ⟨z,its,n,r,e⟩:=h.ok I.hok
  exact ⟨its,r,⟨_,n,e,rfl,rfl,rfl⟩,z⟩
 ·refine ⟨its.toList,r,⟨o,n,I.yE a o hk,hc,hd,by simpa using hs⟩,?_⟩
  have e:=r.length
  simp only [Array.length_toList] at e
  omega
theorem Inv.nA (I:Inv X pins σ H s) (h:eZ X.K H a xs):∃ its:List Value,Vals xs its/\nu s.heap a its.toArray/\xs.length<=sizeLine:=by
 rcases h with h | ⟨o,its,n,hk,hc,hd0,hs,hz,r⟩
 ·obtain ⟨z,its,r,p⟩:=h.ok I.hok
  exact ⟨its,r,p,z⟩
 ·refine ⟨its.toList,r,⟨o,I.yE a o hk,hc,hd0,n,by simpa using hs⟩,?_⟩
  have e:=r.length
  simp only [Array.length_toList] at e
  omega
theorem Inv.tuple (I:Inv X pins σ H s) (h:eZ X.K H a xs):∃ its:List Value,Vals xs its/\IsTup s.heap a its.toArray/\xs.length<=sizeLine :=
 let ⟨its,r,p,z⟩:=I.nA h
 ⟨its,r,p.tup,z⟩
theorem Inv.oj (I:Inv X pins σ H s) (h:jg X.K H a xs) (h':jg X.K H a ys):xs=ys:=by
 obtain ⟨its,r,⟨o,n,e,_,_,d⟩,_⟩:=I.list h
 obtain ⟨its',r',⟨o',n',e',_,_,d'⟩,_⟩:=I.list h'
 rw [e] at e';cases e'
 rw [d] at d'
 injection d' with d1 _
 have:its=its':=by simpa using congrArg Array.toList d1
 subst this
 exact r.inj r'
theorem Inv.g9 (I:Inv X pins σ H s) (h:eZ X.K H a xs) (h':eZ X.K H a ys):xs=ys:=by
 obtain ⟨its,r,⟨o,e,_,n,d⟩,_⟩:=I.tuple h
 obtain ⟨its',r',⟨o',e',_,n',d'⟩,_⟩:=I.tuple h'
 rw [e] at e';cases e'
 rw [d] at d'
 injection d' with d1 _
 have:its=its':=by simpa using congrArg Array.toList d1
 subst this
 exact r.inj r'
end
abbrev Cx.wish (X:Cx) (E:Value->Shared->Prop):Cx:={ X with xe:=E }
abbrev Cx.oM (X:Cx):Cx:=X.wish fun _ _=>False
theorem Cx.Ok.wish {X:Cx} (ok:X.Ok) (E:Value->Shared->Prop):(X.wish E).Ok :=
 ⟨ok.mod,ok.kind,ok.glob,ok.blt,ok.above,ok.inj,ok.has,ok.zI,ok.hd,ok.frames,ok.stk,ok.Jb,ok.bs,ok.rC,ok.oP,ok.sv,ok.mv,ok.yD⟩
theorem Cx.Ok.jh {X:Cx} {E:Value->Shared->Prop} (ok:(X.wish E).Ok):X.Ok :=
 ⟨ok.mod,ok.kind,ok.glob,ok.blt,ok.above,ok.inj,ok.has,ok.zI,ok.hd,ok.frames,ok.stk,ok.Jb,ok.bs,ok.rC,ok.oP,ok.sv,ok.mv,ok.yD⟩
section
variable {X:Cx} {pins:List (Addr×Obj)} {σ:St} {H:Hp} {s:Shared} {E:Value->Shared->Prop}
theorem Inv.wish (I:Inv X pins σ H s) (E:Value->Shared->Prop):Inv (X.wish E) pins σ H s:=⟨I.ok.wish E,I.os,I.bare,I.base,I.loc,I.cell,I.free,I.j4,I.pin,I.hok,I.len⟩
theorem Inv.jh (I:Inv (X.wish E) pins σ H s):Inv X pins σ H s:=⟨I.ok.jh,I.os,I.bare,I.base,I.loc,I.cell,I.free,I.j4,I.pin,I.hok,I.len⟩
theorem SP.jh {D:Ends} {f:Flow} {s':Shared} (h:SP (X.wish E) pins D f s'):SP X pins D f s':=by
 cases f with
 | next=>obtain ⟨σ',H',I,q⟩:=h;exact ⟨σ',H',I.jh,q⟩
 | brk=>obtain ⟨σ',H',I,q⟩:=h;exact ⟨σ',H',I.jh,q⟩
 | cont=>obtain ⟨σ',H',I,q⟩:=h;exact ⟨σ',H',I.jh,q⟩
 | ret u=>obtain ⟨v,σ',H',I,r,q⟩:=h;exact ⟨v,σ',H',I.jh,r,q⟩
theorem pX.oM {st:List Stmt} {t:TS} (h:pX X.oM st t):pX X st t:=fun pins s σ H D I hw =>
 wpAny_mono (h pins s σ H D (I.wish _) hw) (fun _ _ q=>q.jh) fun _ _ z=>False.elim z
end
section
variable {X:Cx} {st:Stmt} {rest:List Stmt} {t u:TS} {e:Expr} {te:TE} {pos:Pos}
def uj:TS:=fun D σ H=>D.nx σ H
def zP (t u:TS):TS:=fun D σ H=>t { D with nx:=u D } σ H
theorem kD:pX X [] uj:=fun _ _ σ H _ I h=>wpAny_execs_nil ⟨σ,H,I,h⟩
theorem aZ (h1:PS X st t) (h2:pX X rest u):pX X (st :: rest) (zP t u):=by
 intro pins s σ H D I h
 refine wpAny_execs_cons (cC (h1 pins s σ H { D with nx:=u D } I h) fun f s1 q=>?_)
 cases f with
 | next =>
  obtain ⟨σ',H',I',q⟩:=q
  exact h2 pins s1 σ' H' D I' q
 | ret v=>exact q
 | brk=>exact q
 | cont=>exact q
theorem bu (h1:PS X st t):pX X [st] t:=by
 intro pins s σ H D I h
 refine wpAny_execs_cons (cC (h1 pins s σ H D I h) fun f s1 q=>?_)
 cases f with
 | next=>exact wpAny_execs_nil q
 | ret v=>exact q
 | brk=>exact q
 | cont=>exact q
theorem Inv.quiet {pins:List (Addr×Obj)} {σ:St} {H:Hp} {s:Shared} (I:Inv X pins σ H s):interactive X.env=false:=by simp [interactive,I.ok.kind]
def uk (te:TE):TS:=fun D σ H=>te σ H fun _ H1=>D.nx σ H1
theorem rE (he:PE X e te) (hs:swapsWith e none pos.line X.env=pure false:=by rfl):PS X (.Expr e pos) (uk te):=by
 intro pins s σ H D I h
 exact wpAny_Expr_any (cC (he pins s σ H _ I h) fun v s1 ⟨x,H1,I1,r1,q1⟩=>⟨σ,H1,I1,q1⟩) I.quiet hs
def zQ (te:TE):TS:=fun D σ H=>te σ H D.rt
theorem dm (he:PE X e te):PS X (.Return (some e) pos) (zQ te):=by
 intro pins s σ H D I h
 exact wpAny_Return_some (cC (he pins s σ H _ I h) fun v s1 ⟨x,H1,I1,r1,q1⟩=>⟨x,σ,H1,I1,r1,q1⟩)
def zR (c:TT) (t u:TS):TS:=fun D σ H=>c σ H fun b H1=>if b=true then t D σ H1 else u D σ H1
theorem jH {c:Expr} {a b:List Stmt} {tc:TT} (hc:PT X c tc) (ha:pX X a t) (hb:pX X b u):PS X (.If c a b pos) (zR tc t u):=by
 intro pins s σ H D I h
 refine wpAny_If (cC (hc pins s σ H _ I h) fun d s1 ⟨H1,I1,q1⟩=>?_)
 cases d with
 | true=>exact ha pins s1 σ H1 D I1 q1
 | false=>exact hb pins s1 σ H1 D I1 q1
def qw:TS:=fun _ _ _=>False
theorem M6:PS X st qw:=fun _ _ _ _ _ _ h=>h.elim
end
abbrev TG:=V->St->Hp->(St->Hp->Prop)->Prop
abbrev qx:=List V->St->Hp->(St->Hp->Prop)->Prop
def PG (X:Cx) (target:Expr) (t:TG):Prop :=
 ∀ (pins:List (Addr×Obj)) (s:Shared) (σ:St) (H:Hp) (v:V) (u:Value) (Q:St->Hp->Prop),Inv X pins σ H s->RelV v u->t v σ H Q ->
  wpAny (model X.prog X.w) X.A (assign target X.env u) (fun _ s'=>∃ σ' H',Inv X pins σ' H' s'/\Q σ' H') X.xe s
def zS (X:Cx) (ts:List Expr) (t:qx):Prop :=
 ∀ (pins:List (Addr×Obj)) (s:Shared) (σ:St) (H:Hp) (vs:List V) (us:List Value) (Q:St->Hp->Prop),Inv X pins σ H s->Vals vs us->t vs σ H Q ->
  wpAny (model X.prog X.w) X.A (assignInOrder ((assignEach ts X.env).map (·.2)) us) (fun _ s'=>∃ σ' H',Inv X pins σ' H' s'/\Q σ' H') X.xe s
abbrev vO:=V->V->V->Hp->(Hp->Prop)->Prop
def zT (X:Cx) (t:vO):Prop :=
 ∀ (pins:List (Addr×Obj)) (s:Shared) (σ:St) (H:Hp) (o i v:V) (ov iv u:Value) (Q:Hp->Prop),Inv X pins σ H s->RelV o ov->RelV i iv->RelV v u->t o i v H Q ->
  wpAny (model X.prog X.w) X.A (setItem ov iv u) (fun _ s'=>∃ H',Inv X pins σ H' s'/\Q H') X.xe s
section
variable {X:Cx} {pos:Pos}
def om (i:Nat):TG:=fun v σ H Q=>Q (σ.set i (some v)) H
theorem ef {i:Nat} {x:Str} (hN:X.N.Nodup) (hi:X.N[i]?=some x) (hx:Loc X.env.scope x) (hf:X.fn x=true\/X.env.scope.names.lookup x=some .local:=by first | exact .inl rfl | exact .inr rfl | assumption):PG X (.Name x pos) (om i):=by
 intro pins s σ H v u Q I r h
 exact wpAny_assign_Name (Dj I hN hi hx r (fun s' I'=>⟨_,H,I',h⟩) hf)
def zU:qx:=fun vs σ H Q=>vs=[]/\Q σ H
def um (t:TG) (u:qx):qx:=fun vs σ H Q=>∃ v r,vs=v :: r/\t v σ H fun σ' H'=>u r σ' H' Q
theorem rF:zS X [] zU:=by
 intro pins s σ H vs us Q I r h
 obtain ⟨e,h⟩:=h
 subst e
 cases r
 exact assignInOrder_nil ⟨σ,H,I,h⟩
theorem lR {e:Expr} {es:List Expr} {t:TG} {u:qx} (h1:PG X e t) (h2:zS X es u)
  (hs:(assignEach (e :: es) X.env).map (·.2)=assign e X.env :: (assignEach es X.env).map (·.2):=by rfl):zS X (e :: es) (um t u):=by
 intro pins s σ H vs us Q I r h
 obtain ⟨v,vr,e1,h⟩:=h
 subst e1
 cases r with
 | cons r rr =>
  rw [hs]
  refine assignInOrder_cons (cC (h1 pins s σ H _ _ _ I r h) fun _ s1 ⟨σ1,H1,I1,q1⟩=>?_)
  exact h2 pins s1 σ1 H1 _ _ Q I1 rr q1
def vP (K:PySem.W.Frag) (n:Nat) (t:qx):TG:=fun v σ H Q=>∃ a xs,v=.ref a/\eZ K H a xs/\xs.length=n/\t xs σ H Q
theorem sx {es:List Expr} {k:Nat} {t:qx} {n:Nat} (hc:X.calm=true) (h:zS X es t)
  (hn:(assignEach es X.env).length=n:=by rfl) (hst:(assignEach es X.env).findIdx? (·.1)=none:=by rfl):PG X (.Tuple es k pos) (vP X.K n t):=by
 intro pins s σ H v u Q I r hw
 obtain ⟨a,xs,e1,hq,hl,hw⟩:=hw
 subst e1
 cases r
 obtain ⟨its,rv,ht,hz⟩:=I.tuple hq
 refine assign_Tuple_tuple (I.ok.hd hc) ht (by simp [hn,<- hl,rv.length]) hst fun h' hx=>?_
 have I1:Inv X pins σ H { s with heap:=h' }:=I.kept (t':=s.toks) fun b o e=>hx b o (Nat.ne_of_lt (Heap.lt_size e)) e
 exact h pins _ σ H xs _ Q I1 (by simpa using rv) hw
def eh (to ti:TE) (t:vO):TG:=fun v σ H Q=>to σ H fun o H1=>ti σ H1 fun i H2=>t o i v H2 fun H3=>Q σ H3
theorem pf {o i:Expr} {to ti:TE} {t:vO} (ho:PE X o to) (hi:PE X i ti) (hs:zT X t)
  (ha:∀ v,assign (.Subscript o i pos) X.env v=(do
   let ov <- holding [v] (eval o X.env)
   let iv <- holding [v,ov] (eval i X.env)
   standAt pos
   holding [v,ov,iv] (setItem ov iv v)
   release [v,ov,iv] []):=by intro _;rfl):PG X (.Subscript o i pos) (eh to ti t):=by
 intro pins s σ H v u Q I r h
 rw [ha]
 refine wpAny_bind (wpAny_holding (cC (ho pins s σ H _ I h) fun ov s1 ⟨x,H1,I1,r1,q1⟩=>?_))
 refine wpAny_bind (wpAny_holding (cC (hi pins s1 σ H1 _ I1 q1) fun iv s2 ⟨y,H2,I2,r2,q2⟩=>?_))
 refine wpAny_bind (wpAny_standAt (wpAny_bind (wpAny_holding (cC (hs pins s2 σ H2 x y v ov iv u _ I2 r1 r2 r q2) fun _ s3 ⟨H3,I3,q3⟩=>?_))))
 exact wpAny_release ⟨σ,H3,I3,q3⟩
def sy (te:TE) (g:TG):TS:=fun D σ H=>te σ H fun x H1=>g x σ H1 D.nx
theorem oN {tg e:Expr} {te:TE} {g:TG} (he:PE X e te) (hg:PG X tg g) (hs:swapsWithSole [tg] e pos.line X.env=pure false:=by rfl) (hw:swappedStores [tg] e X.env=pure none:=by rfl)
  (h1:(assignEach [tg] X.env).map (·.2)=[assign tg X.env]:=by rfl):PS X (.Assign [tg] e pos) (sy te g):=by
 intro pins s σ H D I h
 refine wpAny_Assign_stores (cC (he pins s σ H _ I h) fun v s1 ⟨x,H1,I1,r1,q1⟩=>?_) hs hw
 rw [h1]
 exact cC (hg pins s1 σ H1 x v _ I1 r1 q1) fun _ s2 q=>q
theorem cc {i:Nat} {x:Str} {e:Expr} {te:TE} {pos':Pos} (hN:X.N.Nodup) (hi:X.N[i]?=some x) (hx:Loc X.env.scope x) (he:PE X e te) (hs:swapsWith e (some (.Name x pos')) pos.line X.env=pure false:=by rfl) (hf:X.fn x=true\/X.env.scope.names.lookup x=some .local:=by first | exact .inl rfl | exact .inr rfl | assumption) :
  PS X (.Assign [.Name x pos'] e pos) (sy te (om i)):=by
 intro pins s σ H D I h
 refine wpAny_Assign_Name (cC (he pins s σ H _ I h) fun v s1 ⟨y,H1,I1,r1,q1⟩=>?_) hs
 exact Dj I1 hN hi hx r1 (fun s2 I2=>⟨_,H1,I2,q1⟩) hf
def zV (i j:Nat) (ta:TA):TS:=fun D σ H=>ta σ H fun vs H1=>∃ v w,vs=[v,w]/\D.nx ((σ.set i (some v)).set j (some w)) H1
theorem zW {i j:Nat} {x y:Str} {a b:Expr} {ta:TA} {px py pt:Pos} {kt k2 FX} (hc:X.calm=true) (hN:X.N.Nodup) (hi:X.N[i]?=some x) (hj:X.N[j]?=some y) (hij:i≠j)
  (hx:X.env.scope.names.lookup x=some .local) (hy:X.env.scope.names.lookup y=some .local) (ha:PA X [a,b] ta)
  (hw:swappedStores [.Tuple [.Name x px,.Name y py] kt pt] (.Tuple [a,b] k2 FX) X.env=pure (some [x,y]))
  (hs:swapsWithSole [.Tuple [.Name x px,.Name y py] kt pt] (.Tuple [a,b] k2 FX) pos.line X.env=pure false:=by rfl) :
  PS X (.Assign [.Tuple [.Name x px,.Name y py] kt pt] (.Tuple [a,b] k2 FX) pos) (zV i j ta):=by
 intro pins s σ H D I h
 rw [exec_Assign_arm]
 refine wpAny_bind (wpAny_standAt ?_)
 rw [hs]
 refine wpAny_bind (wpAny_pure ?_)
 rw [if_neg (by decide)]
 refine wpAny_bind (Tuple_ (cC (ha _ pins s σ H _ I h) fun us s1 ⟨vs,H1,I1,r1,q1⟩=>?_))
 obtain ⟨v,w,e1,q1⟩:=q1
 subst e1
 obtain ⟨u1,u2,rfl,rv,rw'⟩:∃ u1 u2,us=[u1,u2]/\RelV v u1/\RelV w u2:=by
  cases r1 with
  | cons p q =>
   cases q with
   | cons p' q' =>
    cases q'
    exact ⟨_,_,rfl,p,p'⟩
 refine wpAny_newObj_type ?_ (by show 2<=sizeLine;decide)
 have I2:Inv X pins σ H1 { s1 with heap:=s1.heap.push { cls:=.type "tuple",data:=.seq [u1,u2].toArray } }:=I1.kept (t':=s1.toks) fun b o e=>Heap.get?_push_of_some _ e
 rw [hw]
 refine wpAny_bind (wpAny_pure ?_)
 show wpAny (model X.prog X.w) X.A (do rule "assign.swapped-stores";let items <- unpackItems (.ref s1.heap.objs.size) 2 none;assignInOrder [fun v=>bindName X.env y v,fun v=>bindName X.env x v] items.reverse;pure Flow.next) _ _ _
 refine wpAny_bind (wpAny_rule (wpAny_bind (unpackItems_tuple (items:=#[u1,u2]) (I.ok.hd hc) (IsTup.new s1.heap _) fun h' hx'=>?_)))
 have I3:=I2.kept (h':=h') (t':=s1.toks) fun b o e=>hx' b o (Nat.ne_of_lt (Heap.lt_size e)) e
 show wpAny _ _ (assignInOrder [fun v=>bindName X.env y v,fun v=>bindName X.env x v] [u2,u1] >>= fun _=>pure Flow.next) _ _ _
 refine wpAny_bind (assignInOrder_cons (wpAny_bindName (Dj I3 hN hj (.inl hy) rw' (fun s2 I4=>?_) (.inr hy))))
 refine assignInOrder_cons (wpAny_bindName (Dj I4 hN hi (.inl hx) rv (fun s3 I5=>assignInOrder_nil (wpAny_pure ?_)) (.inr hx)))
 rw [List.set_comm _ _ (Ne.symm hij)] at I5
 exact ⟨_,H1,I5,q1⟩
end
section
variable {X:Cx} {pos:Pos}
def qy (c:TT) (tb:TS):TS:=fun D σ H=>∃ W:Nat->St->Hp->Prop,(∃ m,W m σ H)/\∀ m σ H,W m σ H ->
 c σ H fun b H1=>if b=true then ∃ N:St->Hp->Prop,(∀ σ' H',N σ' H'->∃ m',m' < m/\W m' σ' H')/\tb { D with nx:=N,ct:=N,bk:=D.nx } σ H1 else D.nx σ H1
theorem yF {c:Expr} {body:List Stmt} {tc:TT} {tb:TS} (hp:PassesOwn (model X.prog X.w) X.A X.env X.xe) (hc:PT X c tc) (hb:pX X body tb):PS X (.While c body [] pos) (qy tc tb):=by
 intro pins s σ H D I h
 obtain ⟨W,⟨m0,w0⟩,turn⟩:=h
 refine wpAny_While (codeAny_whileLoop (fun n s'=>∃ σ' H',Inv X pins σ' H' s'/\W n σ' H') ?_ m0 ⟨σ,H,I,w0⟩)
 rintro n s1 ⟨σ1,H1,I1,w1⟩
 refine wpAny_passesOwn hp (cC (hc pins s1 σ1 H1 _ I1 (turn n σ1 H1 w1)) fun b s2 ⟨H2,I2,q2⟩=>?_)
 cases b with
 | true =>
  obtain ⟨N,hN,q2⟩:=q2
  rw [if_pos rfl]
  refine wpAny_passesOwn hp (cC (hb pins s2 σ1 H2 _ I2 q2) fun f s3 q3=>?_)
  cases f with
  | next =>
   obtain ⟨σ3,H3,I3,n3⟩:=q3
   obtain ⟨m',hm,w3⟩:=hN σ3 H3 n3
   exact ⟨m',hm,σ3,H3,I3,w3⟩
  | cont =>
   obtain ⟨σ3,H3,I3,n3⟩:=q3
   obtain ⟨m',hm,w3⟩:=hN σ3 H3 n3
   exact ⟨m',hm,σ3,H3,I3,w3⟩
  | brk=>exact q3
  | ret v=>exact q3
 | false =>
  rw [if_neg Bool.false_ne_true]
  exact wpAny_execs_nil ⟨σ1,H2,I2,q2⟩
end
set_option genInjectivity false in
structure It where
 go:Nat->Hp->Prop
 sA:Nat->Hp->V->Hp->Prop
 stop:Nat->Hp->Prop
def gL (X:Cx) (pins:List (Addr×Obj)) (H:Hp) (b:Addr):Prop :=
 H b=none/\b≠X.env.locals/\b ∉ X.fs/\(b∈X.ex\/X.s₀.heap.objs.size<=b)/\(∀ x c,X.env.cells.lookup x=some c->c≠b)/\∀ p∈X.pn ++ pins,p.1≠b
theorem Inv.nB {X:Cx} {pins:List (Addr×Obj)} {σ:St} {H H':Hp} {s:Shared} {b:Addr} (I:Inv X pins σ H s) (hb:s.heap.objs.size<=b) (hn:H' b=none):gL X pins H' b:=by
 refine ⟨hn,Nat.ne_of_gt (Nat.lt_of_lt_of_le I.lt hb),I.zJ hb,.inr (Nat.le_trans I.sz hb),fun x c e z=>?_,fun p hp z=>?_⟩
 ·obtain ⟨v,q⟩:=I.cell x c e
  exact absurd (Nat.lt_of_lt_of_le q.lt (by rw [z];exact hb)) (Nat.lt_irrefl _)
 ·exact absurd (Nat.lt_of_lt_of_le (Heap.lt_size (I.pin p hp).1) (by rw [z];exact hb)) (Nat.lt_irrefl _)
structure Turn (P:Program) (w:World) (K:PySem.W.Frag) (tg:Expr) (J:It) (fp:List Addr) (it:Addr) (tn:Nat->Heap->Prop):Prop where
 mem:it∈fp
 obj:∀ i h,tn i h->∀ b∈fp,∃ o,h.get? b=some o/\∀ v,o.data≠.cell v
 keep:∀ i h h',tn i h->(∀ b∈fp,∀ o,h.get? b=some o->h'.get? b=some o)->tn i h'
 item:∀ (X:Cx),X.prog=P->X.w=w->X.K=K->X.calm=true->∀ (i:Nat) (pins:List (Addr×Obj)) (s:Shared) (σ:St) (H:Hp) (E:Value->Shared->Prop),Inv X pins σ H s->(∀ b∈fp,gL X pins H b)->tn i s.heap->J.go i H ->
  wpAny (model P w) X.A (pyNext (.ref it)) (fun r s1=>∃ u,r=some u /\
   wpAny (model P w) X.A (letOwnedTupleGo tg (.ref it) u) (fun _ s2=>∃ x H',Inv X pins σ H' s2/\RelV x u/\J.sA i H x H'/\tn (i + 1) s2.heap/\∀ b∈fp,H' b=none) E s1) E s
 done:∀ (X:Cx),X.prog=P->X.w=w->X.K=K->X.calm=true->∀ (i:Nat) (pins:List (Addr×Obj)) (s:Shared) (σ:St) (H:Hp) (E:Value->Shared->Prop),Inv X pins σ H s->(∀ b∈fp,gL X pins H b)->tn i s.heap->J.stop i H ->
  wpAny (model P w) X.A (pyNext (.ref it)) (fun r s1=>r=none/\Inv X pins σ H s1) E s
 self:∀ (A:Around) (i:Nat) (s:Shared) (Q:Value->Shared->Prop) (E:Value->Shared->Prop),tn i s.heap->Q (.ref it) s->wpAny (model P w) A (pyIter (.ref it)) Q E s
abbrev TI:=St->Hp->(It->Hp->Prop)->Prop
def Dn (X:Cx) (pins:List (Addr×Obj)) (σ:St) (tg:Expr) (R:It->Hp->Prop) (itv:Value) (s2:Shared):Prop :=
 ∃ (it:Addr) (fp:List Addr) (tn:Nat->Heap->Prop) (J:It) (H':Hp),itv=.ref it/\Inv X pins σ H' s2/\Turn X.prog X.w X.K tg J fp it tn/\tn 0 s2.heap/\(∀ b∈fp,gL X pins H' b)/\R J H'
def PI (X:Cx) (tg iter:Expr) (wi:TI):Prop :=
 ∀ (pins:List (Addr×Obj)) (s:Shared) (σ:St) (H:Hp) (R:It->Hp->Prop),Inv X pins σ H s->wi σ H R ->
  wpAny (model X.prog X.w) X.A (eval iter X.env) (fun v s1=>wpAny (model X.prog X.w) X.A (pyIter v) (Dn X pins σ tg R) X.xe s1) X.xe s
theorem zX {M:Model} {A:Around} {E:Value->Shared->Prop} {s:Shared} {tg:Expr} {it:Addr} {u:Value} {o:Obj} {n:String} {vs:Array Value} {Q:Unit->Shared->Prop} (ho:s.heap.get? it=some o) (hc:o.cls=.type n) (hd:o.data=.fields vs)
  (hn:["enumerate","zip","dict_itemiterator","dict_reverseitemiterator","odict_iterator","itertools.zip_longest","itertools.pairwise"].contains n=false) (hQ:Q () s):wpAny M A (letOwnedTupleGo tg (.ref it) u) Q E s:=by
 unfold letOwnedTupleGo
 cases tg <;> first
  | exact wpAny_pure hQ
  | (cases u <;> first
    | exact wpAny_pure hQ
    | (refine wpAny_bind (wpAny_load ho ?_)
       rw [hc,hd]
       show wpAny M A (if (["enumerate","zip","dict_itemiterator","dict_reverseitemiterator","odict_iterator","itertools.zip_longest","itertools.pairwise"].contains n && vs[0]? == some (rawInt _))=true then _ else _) Q E s
       rw [if_neg (by intro h;rw [hn,Bool.false_and] at h;cases h)]
       exact wpAny_pure hQ))
def Ji (K:PySem.W.Frag) (a:Addr):It :=
 ⟨fun i H=>∃ xs x,jg K H a xs/\xs[i]?=some x,fun i H x H'=>H'=H/\∀ xs,jg K H a xs->xs[i]?=some x,fun i H=>∃ xs,jg K H a xs/\xs.length<=i⟩
def Jj (K:PySem.W.Frag) (a:Addr):It :=
 ⟨fun i H=>∃ xs x,eZ K H a xs/\xs[i]?=some x,fun i H x H'=>H'=H/\∀ xs,eZ K H a xs->xs[i]?=some x,fun i H=>∃ xs,eZ K H a xs/\xs.length<=i⟩
def Dp (lo:Int) (n:Nat):It:=⟨fun i _=>i < n,fun i H x H'=>H'=H/\x=.int (lo + i),fun i _=>n<=i⟩
theorem M7 {P:Program} {w:World} {K:PySem.W.Frag} {tg:Expr} (a it:Addr):Turn P w K tg (Ji K a) [it] it (fun i h=>h.IsListIter it a i) where
 mem:=by simp
 obj:=fun i h st b hb=>by
  have e:b=it:=by simpa using hb
  subst e
  obtain ⟨o,e,c,d⟩:=st
  exact ⟨o,e,fun v z=>by rw [d] at z;cases z⟩
 keep:=fun i h h' st k=>st.at fun o e=>k it (by simp) o e
 item:=by
  intro X hP hw hK hc i pins s σ H E I hf st hg
  subst hP hw hK
  obtain ⟨xs,x,hq,hx⟩:=hg
  obtain ⟨its,rv,p,hz⟩:=I.list hq
  obtain ⟨u,hu,ru⟩:=rv.get hx
  obtain ⟨f0,f1,f2,f3,f4,f5⟩:=hf it (by simp)
  refine wpAny_pyNext_list_item st p.isList (x:=u) (by simpa using hu) fun h' st' sb=>?_
  have I1:Inv X pins σ H { s with heap:=h' }:=I.turned (t':=s.toks) (fun b o hb e=>(sb.2 b hb).trans e) f0 f1 f3 f4 f5
  obtain ⟨o,e,c,d⟩:=id st'
  exact ⟨u,rfl,zX (s:={ s with heap:=h' }) e c d (by decide) ⟨x,H,I1,ru,⟨rfl,fun ys hy=>by rw [I.oj hy hq];exact hx⟩,st',fun b hb=>(hf b hb).1⟩⟩
 done:=by
  intro X hP hw hK hc i pins s σ H E I hf st hg
  subst hP hw hK
  obtain ⟨xs,hq,hx⟩:=hg
  obtain ⟨its,rv,p,hz⟩:=I.list hq
  obtain ⟨f0,f1,f2,f3,f4,f5⟩:=hf it (by simp)
  have hl:=rv.length
  exact wpAny_pyNext_list_end (I.ok.hd hc) st p.isList (by simp;omega) fun h' eb=>⟨rfl,I.turned (t':=s.toks) (fun b o hb e=>eb b o hb e) f0 f1 f3 f4 f5⟩
 self:=fun _ _ _ _ _ st h=>wpAny_pyIter_listiter st h
theorem M8 {P:Program} {w:World} {K:PySem.W.Frag} {tg:Expr} (a it:Addr):Turn P w K tg (Jj K a) [it] it (fun i h=>h.IsTupleIter it a i) where
 mem:=by simp
 obj:=fun i h st b hb=>by
  have e:b=it:=by simpa using hb
  subst e
  obtain ⟨o,e,c,d⟩:=st
  exact ⟨o,e,fun v z=>by rw [d] at z;cases z⟩
 keep:=fun i h h' st k=>st.at fun o e=>k it (by simp) o e
 item:=by
  intro X hP hw hK hc i pins s σ H E I hf st hg
  subst hP hw hK
  obtain ⟨xs,x,hq,hx⟩:=hg
  obtain ⟨its,rv,p,hz⟩:=I.tuple hq
  obtain ⟨u,hu,ru⟩:=rv.get hx
  obtain ⟨f0,f1,f2,f3,f4,f5⟩:=hf it (by simp)
  refine wpAny_pyNext_tuple_item st (show s.heap.IsTuple a its.toArray from p) (x:=u) (by simpa using hu) fun h' st' sb=>?_
  have I1:Inv X pins σ H { s with heap:=h' }:=I.turned (t':=s.toks) (fun b o hb e=>(sb.2 b hb).trans e) f0 f1 f3 f4 f5
  obtain ⟨o,e,c,d⟩:=id st'
  exact ⟨u,rfl,zX (s:={ s with heap:=h' }) e c d (by decide) ⟨x,H,I1,ru,⟨rfl,fun ys hy=>by rw [I.g9 hy hq];exact hx⟩,st',fun b hb=>(hf b hb).1⟩⟩
 done:=by
  intro X hP hw hK hc i pins s σ H E I hf st hg
  subst hP hw hK
  obtain ⟨xs,hq,hx⟩:=hg
  obtain ⟨its,rv,p,hz⟩:=I.tuple hq
  obtain ⟨f0,f1,f2,f3,f4,f5⟩:=hf it (by simp)
  have hl:=rv.length
  exact wpAny_pyNext_tuple_end (I.ok.hd hc) st (show s.heap.IsTuple a its.toArray from p) (by simp;omega) fun h' eb=>⟨rfl,I.turned (t':=s.toks) (fun b o hb e=>eb b o hb e) f0 f1 f3 f4 f5⟩
 self:=fun _ _ _ _ _ st h=>wpAny_pyIter_tupleiter st h
theorem M9 {P:Program} {w:World} {K:PySem.W.Frag} {tg:Expr} (it:Addr) (lo:Int) (n:Nat):Turn P w K tg (Dp lo n) [it] it (fun i h=>IsRangeIter h it (lo + (i:Nat) * 1) ((n:Int) - (i:Nat)) 1) where
 mem:=by simp
 obj:=fun i h st b hb=>by
  have e:b=it:=by simpa using hb
  subst e
  exact ⟨_,st,fun v z=>by
   have z':Data.fields _=Data.cell v:=z
   cases z'⟩
 keep:=fun i h h' st k=>k it (by simp) _ st
 item:=by
  intro X hP hw hK hc i pins s σ H E I hf st hg
  subst hP hw hK
  obtain ⟨f0,f1,f2,f3,f4,f5⟩:=hf it (by simp)
  have W:=Walks.range (prog:=X.prog) (w:=X.w) (I.ok.hd hc) it lo 1 n
  refine W.item i s _ _ hg st fun v h' tk hv st' kk=>?_
  obtain ⟨t,rfl⟩:=hv
  have I1:Inv X pins σ H { s with heap:=h',toks:=tk }:=I.turned (fun b o hb e=>kk b o (by simpa using hb) e) f0 f1 f3 f4 f5
  refine ⟨_,rfl,zX (s:={ s with heap:=h',toks:=tk }) (n:="range_iterator") st' rfl rfl (by decide) ⟨.int (lo + i),H,I1,⟨t,?_⟩,⟨rfl,rfl⟩,st',fun b hb=>(hf b hb).1⟩⟩
  rw [Int.mul_one]
 done:=by
  intro X hP hw hK hc i pins s σ H E I hf st hg
  subst hP hw hK
  obtain ⟨f0,f1,f2,f3,f4,f5⟩:=hf it (by simp)
  exact wpAny_pyNext_range_end (I.ok.hd hc) st (by have:n<=i:=hg;omega) fun h' eb=>⟨rfl,I.turned (t':=s.toks) (fun b o hb e=>eb b o hb e) f0 f1 f3 f4 f5⟩
 self:=fun _ _ _ _ _ st h=>wpAny_pyIter_rangeiter st h
end L2
namespace L2
open PySem PySem.Spec PyProof.Rows
section
variable {X:Cx} {tg:Expr}
def uo (K:PySem.W.Frag) (tl:TE):TI:=fun σ H R=>tl σ H fun x H1=>∃ a,x=.ref a/\(∃ xs,jg K H1 a xs)/\R (Ji K a) H1
def zY (K:PySem.W.Frag) (tl:TE):TI:=fun σ H R=>tl σ H fun x H1=>∃ a,x=.ref a/\(∃ xs,eZ K H1 a xs)/\R (Jj K a) H1
theorem FY {l:Expr} {tl:TE} (hl:PE X l tl):PI X tg l (uo X.K tl):=by
 intro pins s σ H R I h
 refine cC (hl pins s σ H _ I h) fun v s1 ⟨x,H1,I1,r1,q1⟩=>?_
 obtain ⟨a,e,⟨xs,hq⟩,q⟩:=q1
 subst e
 cases r1
 obtain ⟨its,rv,p,hz⟩:=I1.list hq
 refine wpAny_pyIter_list p.isList ?_
 refine ⟨s1.heap.objs.size,[s1.heap.objs.size],_,_,H1,rfl,I1.kept (t':=s1.toks) fun b o e=>Heap.get?_push_of_some _ e,M7 a _,⟨_,Heap.get?_push_size _ rfl,rfl,rfl⟩,fun b hb=>?_,q⟩
 have e:b=s1.heap.objs.size:=by simpa using hb
 subst e
 exact I1.nB (Nat.le_refl _) (I1.hok.fresh (Nat.le_refl _))
theorem rG {l:Expr} {tl:TE} (hl:PE X l tl):PI X tg l (zY X.K tl):=by
 intro pins s σ H R I h
 refine cC (hl pins s σ H _ I h) fun v s1 ⟨x,H1,I1,r1,q1⟩=>?_
 obtain ⟨a,e,⟨xs,hq⟩,q⟩:=q1
 subst e
 cases r1
 obtain ⟨its,rv,p,hz⟩:=I1.tuple hq
 refine wpAny_pyIter_tuple (show s1.heap.IsTuple a its.toArray from p) ?_
 refine ⟨s1.heap.objs.size,[s1.heap.objs.size],_,_,H1,rfl,I1.kept (t':=s1.toks) fun b o e=>Heap.get?_push_of_some _ e,M8 a _,⟨_,Heap.get?_push_size _ rfl,rfl,rfl⟩,fun b hb=>?_,q⟩
 have e:b=s1.heap.objs.size:=by simpa using hb
 subst e
 exact I1.nB (Nat.le_refl _) (I1.hok.fresh (Nat.le_refl _))
theorem Na {pins:List (Addr×Obj)} {σ:St} {H:Hp} {s:Shared} {R:It->Hp->Prop} {E:Value->Shared->Prop} {lo hi:Int} {t u v:Tok} {tk:Nat} (I:Inv X pins σ H s) (h1:-(2 ^ 62)<=lo) (h2:lo < 2 ^ 62) (h3:-(2 ^ 62)<=hi) (h4:hi < 2 ^ 62)
  (q:R (Dp lo (hi - lo).toNat) H):wpAny (model X.prog X.w) X.A (pyIter (.ref s.heap.objs.size)) (Dn X pins σ tg R) E { s with heap:=s.heap.push { cls:=.type "range",data:=.fields #[.int lo t,.int hi u,.int 1 v] },toks:=tk }:=by
 refine wpAny_pyIter_range (IsRange.new ..) (small_one h1 h2 h3 h4) ?_
 have I1:Inv X pins σ H { s with heap:=s.heap.push { cls:=.type "range",data:=.fields #[.int lo t,.int hi u,.int 1 v] },toks:=tk }:=I.kept fun b o e=>Heap.get?_push_of_some _ e
 refine ⟨(s.heap.push { cls:=.type "range",data:=.fields #[.int lo t,.int hi u,.int 1 v] }).objs.size,[(s.heap.push { cls:=.type "range",data:=.fields #[.int lo t,.int hi u,.int 1 v] }).objs.size],_,_,H,rfl,
  I1.kept (t':=tk) fun b o e=>Heap.get?_push_of_some _ e,M9 _ lo (hi - lo).toNat,?_,fun b hb=>?_,q⟩
 ·have e1:lo + ((0:Nat):Int) * 1=lo:=by simp
  have e2:(((hi - lo).toNat:Nat):Int) - ((0:Nat):Int)=Builtin.Range.rangeSize lo hi 1:=by rw [rangeSize_one];split <;> omega
  show IsRangeIter _ _ (lo + ((0:Nat):Int) * 1) ((((hi - lo).toNat:Nat):Int) - ((0:Nat):Int)) 1
  rw [e1,e2]
  exact Heap.get?_push_size _ rfl
 ·have e:b=(s.heap.push { cls:=.type "range",data:=.fields #[.int lo t,.int hi u,.int 1 v] }).objs.size:=by simpa using hb
  subst e
  exact I1.nB (Nat.le_refl _) (I1.hok.fresh (Nat.le_refl _))
def uq (ta:TA):TI:=fun σ H R=>ta σ H fun vs H1=>∃ j:Int,vs=[.int j]/\-(2 ^ 62)<=j/\j < 2 ^ 62/\R (Dp 0 j.toNat) H1
theorem nC {a:Expr} {ta:TA} {p pos:Pos} (hg:Gl X "range") (hm:X.mg "range" = none) (ha:PA X [a] ta) (hs:starEach [a] X.env=[(false,eval a X.env)]:=by rfl):PI X tg (.Call (.Name "range" p) [a] [] pos) (uq ta):=by
 intro pins s σ H R I h
 refine Call_ (uh I hg hm boot_range (PyProof.Rows.callWith_type1 (cC (ha pos pins s σ H _ I h) fun us s1 ⟨vs,H1,I1,r1,q1⟩=>?_) hs rfl))
 obtain ⟨j,e,q1,q2,q⟩:=q1
 subst e
 cases r1 with
 | cons r rr =>
  cases rr
  obtain ⟨t,rfl⟩:=r
  exact call_range_1 (Na I1 (by omega) (by omega) q1 q2 (by simpa using q))
def zZ (wi:TI) (g:TG) (tb:TS):TS:=fun D σ H=>wi σ H fun J H1=>∃ W:Nat->Nat->St->Hp->Prop,(∃ m,W 0 m σ H1)/\∀ i m σ H,W i m σ H ->
 (J.stop i H/\D.nx σ H)\/(J.go i H/\∃ N:St->Hp->Prop,(∀ σ' H',N σ' H'->∃ m',m' < m/\W (i + 1) m' σ' H')/\∀ x H',J.sA i H x H'->g x σ H' fun σ2 H2=>tb { D with nx:=N,ct:=N,bk:=D.nx } σ2 H2)
def mx (fp:List Addr) (h:Heap):List (Addr×Obj):=fp.filterMap fun b=>(h.get? b).map fun o=>(b,o)
theorem Dq {fp:List Addr} {h:Heap} {b:Addr} {o:Obj} (hb:b∈fp) (e:h.get? b=some o):(b,o)∈mx fp h:=List.mem_filterMap.mpr ⟨b,hb,by rw [e];rfl⟩
theorem Nb {fp:List Addr} {h:Heap} {p:Addr×Obj} (hp:p∈mx fp h):p.1∈fp/\h.get? p.1=some p.2:=by
 obtain ⟨b,hb,e⟩:=List.mem_filterMap.mp hp
 cases q:h.get? b with
 | none=>rw [q] at e;cases e
 | some o =>
  rw [q] at e
  have e':(b,o)=p:=Option.some.inj e
  subst e'
  exact ⟨hb,q⟩
theorem Inv.pinned {pins:List (Addr×Obj)} {σ:St} {H:Hp} {s:Shared} {fp:List Addr} (I:Inv X pins σ H s) (hf:∀ b∈fp,gL X pins H b) (ho:∀ b∈fp,∃ o,s.heap.get? b=some o/\∀ v,o.data≠.cell v):Inv X (pins ++ mx fp s.heap) σ H s :=
 I.l8 fun p hp=>(List.mem_append.mp hp).elim (fun z=>I.pin p (List.mem_append_right _ z)) fun z=>by
  obtain ⟨hb,e⟩:=Nb z
  obtain ⟨f0,f1,f2,_⟩:=hf p.1 hb
  obtain ⟨o,e',d⟩:=ho p.1 hb
  rw [e] at e';cases e'
  exact ⟨e,f0,f1,f2,d⟩
theorem Inv.kE {pins pl:List (Addr×Obj)} {σ:St} {H:Hp} {s:Shared} (I:Inv X (pins ++ pl) σ H s):Inv X pins σ H s:=I.l8 fun p hp=>I.pin p (List.mem_append_right _ (List.mem_append_left _ hp))
theorem lI {iter:Expr} {body:List Stmt} {wi:TI} {g:TG} {tb:TS} {pos:Pos} (hp:PassesOwn (model X.prog X.w) X.A X.env X.xe) (hc:X.calm=true) (hi:PI X tg iter wi) (hg:PG X tg g) (hb:pX X body tb)
  (hs:∀ x,foldedSetIterable iter X.env x=pure x:=by intro _;rfl):PS X (.For tg iter body [] pos) (zZ wi g tb):=by
 intro pins s σ H D I h
 refine wpAny_For (cC (hi pins s σ H _ I h) fun v s1 h1=>cC h1 fun itv s2 h2=>?_) hs
 obtain ⟨it,fp,tn,J,H2,e,I2,T,st2,f2,W,⟨m0,w0⟩,turn⟩:=h2
 subst e
 have stat:∀ {H':Hp},(∀ b∈fp,H' b=none)->∀ b∈fp,gL X pins H' b:=fun hn b hb=>⟨hn b hb,(f2 b hb).2⟩
 refine codeAny_forLoop_any (fun n s'=>∃ i σ' H',Inv X pins σ' H' s'/\tn i s'.heap/\(∀ b∈fp,H' b=none)/\W i n σ' H') ?_ m0 ⟨0,σ,H2,I2,st2,fun b hb=>(f2 b hb).1,w0⟩
 rintro n s3 ⟨i,σ3,H3,I3,st3,Jk,w3⟩
 rcases turn i n σ3 H3 w3 with ⟨stop,qn⟩ | ⟨go,N,hN,step⟩
 ·refine wpAny_passesOwn hp (cC (T.done X rfl rfl rfl hc i pins s3 σ3 H3 X.xe I3 (stat Jk) st3 stop) fun r s4 ⟨hr,I4⟩=>?_)
  subst hr
  exact wpAny_execs_nil ⟨σ3,H3,I4,qn⟩
 ·refine wpAny_passesOwn hp (cC (T.item X rfl rfl rfl hc i pins s3 σ3 H3 X.xe I3 (stat Jk) st3 go) fun r s4 ⟨u,hr,h4⟩=>?_)
  subst hr
  refine wpAny_passesOwn hp (cC h4 fun _ s5 ⟨x,H5,I5,r5,y5,j9,Ds⟩=>?_)
  have Nc:=I5.pinned (stat Ds) (T.obj _ _ j9)
  refine wpAny_passesOwn hp (cC (hg _ s5 σ3 H5 x u _ Nc r5 (step x H5 y5)) fun _ s6 ⟨σ6,H6,I6,q6⟩=>?_)
  refine wpAny_passesOwn hp (cC (hb _ s6 σ6 H6 _ I6 q6) fun f s7 q7=>?_)
  have again:∀ {σ7:St} {H7:Hp},Inv X (pins ++ mx fp s5.heap) σ7 H7 s7->N σ7 H7->∃ m,m < n/\∃ i σ' H',Inv X pins σ' H' s7/\tn i s7.heap/\(∀ b∈fp,H' b=none)/\W i m σ' H':=fun {σ7 H7} I7 n7=>by
   obtain ⟨m',hm,w7⟩:=hN σ7 H7 n7
   refine ⟨m',hm,i + 1,σ7,H7,I7.kE,T.keep _ _ _ j9 fun b hb o e=>(I7.pin (b,o) (List.mem_append_right _ (List.mem_append_right _ (Dq hb e)))).1,fun b hb=>?_,w7⟩
   obtain ⟨o,e,d⟩:=T.obj _ _ j9 b hb
   exact (I7.pin (b,o) (List.mem_append_right _ (List.mem_append_right _ (Dq hb e)))).2.1
  cases f with
  | next=>obtain ⟨σ7,H7,I7,n7⟩:=q7;exact again I7 n7
  | cont=>obtain ⟨σ7,H7,I7,n7⟩:=q7;exact again I7 n7
  | brk=>obtain ⟨σ7,H7,I7,q7⟩:=q7;exact ⟨σ7,H7,I7.kE,q7⟩
  | ret v=>obtain ⟨x7,σ7,H7,I7,r7,q7⟩:=q7;exact ⟨x7,σ7,H7,I7.kE,r7,q7⟩
end
end L2
namespace L2
open PySem PySem.Spec PyProof.Rows
abbrev R2:=V->V->Hp->VK->Prop
def kZ (X:Cx) (f:Value->Value->Sem Value) (r:R2):Prop :=
 ∀ (pins:List (Addr×Obj)) (s:Shared) (σ:St) (H:Hp) (x y:V) (v u:Value) (Q:VK),Inv X pins σ H s->RelV x v->RelV y u->r x y H Q ->
  wpAny (model X.prog X.w) X.A (f v u) (EP X pins σ Q) X.xe s
def FZ (X:Cx) (f:Value->Sem Value) (r:V->Hp->VK->Prop):Prop :=
 ∀ (pins:List (Addr×Obj)) (s:Shared) (σ:St) (H:Hp) (x:V) (v:Value) (Q:VK),Inv X pins σ H s->RelV x v->r x H Q ->
  wpAny (model X.prog X.w) X.A (f v) (EP X pins σ Q) X.xe s
def hJ (X:Cx) (f:Value) (r:List V->Hp->VK->Prop):Prop :=
 ∀ (pins:List (Addr×Obj)) (s:Shared) (σ:St) (H:Hp) (xs:List V) (us:List Value) (Q:VK),Inv X pins σ H s->Vals xs us->r xs H Q ->
  wpAny (model X.prog X.w) X.A (call f us) (EP X pins σ Q) X.xe s
def Aa (r:R2) (ta tb:TE):TE:=fun σ H Q=>ta σ H fun x H1=>tb σ H1 fun y H2=>r x y H2 Q
def Jl (r:V->Hp->VK->Prop) (ta:TE):TE:=fun σ H Q=>ta σ H fun x H1=>r x H1 Q
def rI (C:Int->Int->Prop) (g:Int->Int->V):R2:=fun x y H Q=>∃ i j,x=.int i/\y=.int j/\C i j/\Q (g i j) H
def pY (g:Int->Int->V):R2:=fun x y H Q=>∃ i j,x=.int i/\y=.int j/\Q (g i j) H
def rU (g:Int->V):V->Hp->VK->Prop:=fun x H Q=>∃ i,x=.int i/\Q (g i) H
section
variable {X:Cx} {a b c:Expr} {ta tb tc:TE} {pos:Pos}
theorem vQ (ha:PE X a ta) (hb:PE X b tb) {pins:List (Addr×Obj)} {s:Shared} {σ:St} {H:Hp} {R:V->V->Hp->Prop} (I:Inv X pins σ H s)
  (h:ta σ H fun x H1=>tb σ H1 fun y H2=>R x y H2) {Q:Value->Shared->Prop} {f:Value->Value->Sem Value}
  (hf:∀ v u s2 x y H2,Inv X pins σ H2 s2->RelV x v->RelV y u->R x y H2->wpAny (model X.prog X.w) X.A (f v u) Q X.xe s2) :
  wpAny (model X.prog X.w) X.A (eval a X.env) (fun v s₁=>wpAny (model X.prog X.w) X.A (eval b X.env) (fun u s₂=>wpAny (model X.prog X.w) X.A (f v u) Q X.xe s₂) X.xe s₁) X.xe s:=by
 refine cC (ha pins s σ H _ I h) fun v s1 ⟨x,H1,I1,r1,q1⟩=>?_
 refine cC (hb pins s1 σ H1 _ I1 q1) fun u s2 ⟨y,H2,I2,r2,q2⟩=>?_
 exact hf v u s2 x y H2 I2 r1 r2 q2
theorem aW {op:Operator} {r:R2} (ho:kZ X (binaryOp op) r) (ha:PE X a ta) (hb:PE X b tb):PE X (.BinOp a op b pos) (Aa r ta tb):=by
 intro pins s σ H Q I h
 exact wpAny_BinOp (vQ ha hb I h fun v u s2 x y H2 I2 rx ry q=>ho pins s2 σ H2 x y v u Q I2 rx ry q)
theorem oQ {op:UnaryOp} {r:V->Hp->VK->Prop} (ho:FZ X (unaryOp op) r) (ha:PE X a ta):PE X (.UnaryOp op a pos) (Jl r ta):=by
 intro pins s σ H Q I h
 exact UnaryOp_ (cC (ha pins s σ H _ I h) fun v s1 ⟨x,H1,I1,r1,q1⟩=>ho pins s1 σ H1 x v Q I1 r1 q1)
theorem yG {f:Value->Value->Sem Value} {C:Int->Int->Prop} {g:Int->Int->Int}
  (rule:∀ (i j:Int) (t u:Tok) (s:Shared) (Q:Value->Shared->Prop) (E:Value->Shared->Prop),C i j->Q (.int (g i j) s.toks) { s with toks:=s.toks + 1 }->wpAny (model X.prog X.w) X.A (f (.int i t) (.int j u)) Q E s) :
  kZ X f (rI C fun i j=>.int (g i j)):=by
 intro pins s σ H x y v u Q I rx ry h
 obtain ⟨i,j,rfl,rfl,hc,q⟩:=h
 obtain ⟨t,rfl⟩:=rx
 obtain ⟨t',rfl⟩:=ry
 exact rule i j t t' s _ _ hc ⟨.int (g i j),H,I.tok _,⟨_,rfl⟩,q⟩
theorem Ab {f:Value->Value->Sem Value} {g:Int->Int->Int}
  (rule:∀ (i j:Int) (t u:Tok) (s:Shared) (Q:Value->Shared->Prop) (E:Value->Shared->Prop),Q (.int (g i j) s.toks) { s with toks:=s.toks + 1 }->wpAny (model X.prog X.w) X.A (f (.int i t) (.int j u)) Q E s) :
  kZ X f (pY fun i j=>.int (g i j)):=by
 intro pins s σ H x y v u Q I rx ry h
 obtain ⟨i,j,rfl,rfl,q⟩:=h
 obtain ⟨t,rfl⟩:=rx
 obtain ⟨t',rfl⟩:=ry
 exact rule i j t t' s _ _ ⟨.int (g i j),H,I.tok _,⟨_,rfl⟩,q⟩
theorem vR {f:Value->Value->Sem Value} {g:Int->Int->Bool}
  (rule:∀ (i j:Int) (t u:Tok) (s:Shared) (Q:Value->Shared->Prop) (E:Value->Shared->Prop),Q (.bool (g i j)) s->wpAny (model X.prog X.w) X.A (f (.int i t) (.int j u)) Q E s) :
  kZ X f (pY fun i j=>.bl (g i j)):=by
 intro pins s σ H x y v u Q I rx ry h
 obtain ⟨i,j,rfl,rfl,q⟩:=h
 obtain ⟨t,rfl⟩:=rx
 obtain ⟨t',rfl⟩:=ry
 exact rule i j t t' s _ _ ⟨.bl (g i j),H,I,rfl,q⟩
def Ad (i j:Int):Prop:=0 < j/\j < 1073741824
def Ae (i j:Int):Prop:=0<=j/\j<=1000000/\i.natAbs < 2 ^ 64
def qz (i j:Int):Prop:=(-(2 ^ 64) < i/\i < 2 ^ 64)\/(-(2 ^ 64) < j/\j < 2 ^ 64)
theorem qz.ok {i j:Int} (h:qz i j):IntMulOk i j:=by
 rcases h with ⟨h1,h2⟩ | ⟨h1,h2⟩
 ·exact .of_left (intBits_le_64 h1 h2)
 ·exact .of_right (intBits_le_64 h1 h2)
theorem iZ:kZ X (binaryOp .Add) (pY fun i j=>.int (i + j)):=Ab fun _ _ _ _ _ _ _ q=>add_int q
theorem mP:kZ X (binaryOp .Sub) (pY fun i j=>.int (i - j)):=Ab fun _ _ _ _ _ _ _ q=>sub_int q
theorem ph:kZ X (binaryOp .Mult) (rI qz fun i j=>.int (i * j)):=yG fun _ _ _ _ _ _ _ hc q=>mul_int q hc.ok
theorem Jm:kZ X (binaryOp .FloorDiv) (rI Ad fun i j=>.int (i / j)):=yG fun i j _ _ _ _ _ hc q=>by
 have h1:(0:Int) < j:=hc.1
 have h2:j < 1073741824:=hc.2
 exact floordiv_int (by omega) (by rw [Int.fdiv_eq_ediv_of_nonneg i (by omega)];exact q) (.inl (PyProof.noPylong_small (by omega)))
theorem qg:kZ X (binaryOp .Mod) (rI (fun _ j=>0 < j) fun i j=>.int (i % j)):=yG fun i j _ _ _ _ _ hc q=>by
 have h1:(0:Int) < j:=hc
 exact mod_int' (by omega) (by rw [Int.fmod_eq_emod_of_nonneg i (by omega)];exact q)
theorem Jn:kZ X (binaryOp .Pow) (rI Ae fun i j=>.int (i ^ j.toNat)):=yG fun _ _ _ _ _ _ _ hc q=>pow_int_small hc.1 hc.2.1 hc.2.2 q
theorem Nd {f:Value->Sem Value} {g:Int->Int}
  (rule:∀ (i:Int) (t:Tok) (s:Shared) (Q:Value->Shared->Prop) (E:Value->Shared->Prop),Q (.int (g i) s.toks) { s with toks:=s.toks + 1 }->wpAny (model X.prog X.w) X.A (f (.int i t)) Q E s) :
  FZ X f (rU fun i=>.int (g i)):=by
 intro pins s σ H x v Q I rx h
 obtain ⟨i,rfl,q⟩:=h
 obtain ⟨t,rfl⟩:=rx
 exact rule i t s _ _ ⟨.int (g i),H,I.tok _,⟨_,rfl⟩,q⟩
theorem oR:FZ X (unaryOp .USub) (rU fun i=>.int (-i)):=Nd fun _ _ _ _ _ q=>neg_int q
end
def my:V->V->Bool
 | .non,.non=>true | .non,.int _=>true | .int _,.non=>true | .non,.bl _=>true | .bl _,.non=>true | .non,.str _=>true | .str _,.non=>true
 | .int _,.int _=>true | .bl _,.bl _=>true | .str _,.str _=>true | .qu _,.qu _=>true
 | .int _,.str _=>true | .str _,.int _=>true | .bl _,.str _=>true | .str _,.bl _=>true
 | _,_=>false
def Jo:R2:=fun x y H Q=>my x y=true/\Q (.bl (decide (x=y))) H
def Jp:R2:=fun x y H Q=>my x y=true/\Q (.bl (!decide (x=y))) H
theorem Jq {i j:Int}:decide (V.int i=V.int j)=(i == j):=by
 rw [Bool.eq_iff_iff]
 simp
theorem Jr {i j:Bool}:decide (V.bl i=V.bl j)=(i == j):=by
 rw [Bool.eq_iff_iff]
 simp
theorem Js {i j:Str}:decide (V.str i=V.str j)=(i == j):=by
 rw [Bool.eq_iff_iff]
 simp
theorem Jt {i j:Array UInt8}:decide (V.qu i=V.qu j)=(i.toList == j.toList):=by
 rw [Bool.eq_iff_iff]
 cases i
 cases j
 simp
section
variable {X:Cx} {a b c:Expr} {ta tb tc:TE} {pos:Pos}
theorem kb {pins:List (Addr×Obj)} {σ:St} {H:Hp} {s:Shared} {Q:VK} {k k':Bool} (I:Inv X pins σ H s) (q:Q (.bl k) H) (e:k=k'):EP X pins σ Q (.bool k') s:=by
 subst e
 exact ⟨.bl k,H,I,rfl,q⟩
theorem mz:kZ X (compareOp .Eq) Jo:=by
 intro pins s σ H x y v u Q I rx ry h
 obtain ⟨hs,q⟩:=h
 cases x with
 | non =>
  cases rx
  cases y with
  | non=>cases ry;exact PySem.EqNone.eq_none_none (kb I q (by simp))
  | bl j=>cases ry;exact PySem.EqNone.eq_none_bool (kb I q (by simp))
  | int j=>obtain ⟨t',rfl⟩:=ry;exact PySem.EqNone.eq_none_int (kb I q (by simp))
  | str j=>obtain ⟨t',rfl⟩:=ry;exact PySem.EqNone.eq_none_str (kb I q (by simp))
  | _=>exact absurd (show false=true from hs) Bool.false_ne_true
 | bl i =>
  cases rx
  cases y with
  | non=>cases ry;exact PySem.EqNone.eq_bool_none (kb I q (by simp))
  | bl j=>cases ry;exact eq_bool (kb I q Jr)
  | str j=>obtain ⟨t',rfl⟩:=ry;exact PySem.EqMixed.eq_bool_str (kb I q (by simp))
  | _=>exact absurd (show false=true from hs) Bool.false_ne_true
 | int i =>
  obtain ⟨t,rfl⟩:=rx
  cases y with
  | non=>cases ry;exact PySem.EqNone.eq_int_none (kb I q (by simp))
  | int j=>obtain ⟨t',rfl⟩:=ry;exact eq_int (kb I q Jq)
  | str j=>obtain ⟨t',rfl⟩:=ry;exact PySem.EqMixed.eq_int_str (kb I q (by simp))
  | _=>exact absurd (show false=true from hs) Bool.false_ne_true
 | str i =>
  obtain ⟨t,rfl⟩:=rx
  cases y with
  | non=>cases ry;exact PySem.EqNone.eq_str_none (kb I q (by simp))
  | bl j=>cases ry;exact PySem.EqMixed.eq_str_bool (kb I q (by simp))
  | int j=>obtain ⟨t',rfl⟩:=ry;exact PySem.EqMixed.eq_str_int (kb I q (by simp))
  | str j=>obtain ⟨t',rfl⟩:=ry;exact eq_str (kb I q Js)
  | _=>exact absurd (show false=true from hs) Bool.false_ne_true
 | qu i =>
  obtain ⟨t,rfl⟩:=rx
  cases y with
  | qu j=>obtain ⟨t',rfl⟩:=ry;exact PySem.W.eq_bytes (kb I q Jt)
  | _=>exact absurd (show false=true from hs) Bool.false_ne_true
 | _=>cases y <;> exact absurd (show false=true from hs) Bool.false_ne_true
theorem ur:kZ X (compareOp .NotEq) Jp:=by
 intro pins s σ H x y v u Q I rx ry h
 obtain ⟨hs,q⟩:=h
 cases x with
 | non =>
  cases rx
  cases y with
  | non=>cases ry;exact PySem.EqNone.ne_none_none (kb I q (by simp))
  | bl j=>cases ry;exact PySem.EqNone.ne_none_bool (kb I q (by simp))
  | int j=>obtain ⟨t',rfl⟩:=ry;exact PySem.EqNone.ne_none_int (kb I q (by simp))
  | str j=>obtain ⟨t',rfl⟩:=ry;exact PySem.EqNone.ne_none_str (kb I q (by simp))
  | _=>exact absurd (show false=true from hs) Bool.false_ne_true
 | bl i =>
  cases rx
  cases y with
  | non=>cases ry;exact PySem.EqNone.ne_bool_none (kb I q (by simp))
  | bl j=>cases ry;exact ne_bool (kb I q (congrArg not Jr))
  | str j=>obtain ⟨t',rfl⟩:=ry;exact PySem.EqMixed.ne_bool_str (kb I q (by simp))
  | _=>exact absurd (show false=true from hs) Bool.false_ne_true
 | int i =>
  obtain ⟨t,rfl⟩:=rx
  cases y with
  | non=>cases ry;exact PySem.EqNone.ne_int_none (kb I q (by simp))
  | int j=>obtain ⟨t',rfl⟩:=ry;exact ne_int (kb I q (congrArg not Jq))
  | str j=>obtain ⟨t',rfl⟩:=ry;exact PySem.EqMixed.ne_int_str (kb I q (by simp))
  | _=>exact absurd (show false=true from hs) Bool.false_ne_true
 | str i =>
  obtain ⟨t,rfl⟩:=rx
  cases y with
  | non=>cases ry;exact PySem.EqNone.ne_str_none (kb I q (by simp))
  | bl j=>cases ry;exact PySem.EqMixed.ne_str_bool (kb I q (by simp))
  | int j=>obtain ⟨t',rfl⟩:=ry;exact PySem.EqMixed.ne_str_int (kb I q (by simp))
  | str j=>obtain ⟨t',rfl⟩:=ry;exact ne_str (kb I q (congrArg not Js))
  | _=>exact absurd (show false=true from hs) Bool.false_ne_true
 | qu i =>
  obtain ⟨t,rfl⟩:=rx
  cases y with
  | qu j=>obtain ⟨t',rfl⟩:=ry;exact PySem.W.ne_bytes (kb I q (congrArg not Jt))
  | _=>exact absurd (show false=true from hs) Bool.false_ne_true
 | _=>cases y <;> exact absurd (show false=true from hs) Bool.false_ne_true
theorem Af:kZ X (compareOp .Lt) (pY fun i j=>.bl (decide (i < j))):=vR fun _ _ _ _ _ _ _ q=>lt_int q
theorem yH:kZ X (compareOp .Gt) (pY fun i j=>.bl (decide (j < i))):=vR fun _ _ _ _ _ _ _ q=>gt_int q
theorem Ag:kZ X (compareOp .GtE) (pY fun i j=>.bl (decide (j<=i))):=vR fun _ _ _ _ _ _ _ q=>ge_int q
theorem Ju:kZ X (compareOp .In) (fun x y H Q=>∃ i j,x=.str i/\y=.str j/\Q (.bl (!(Builtin.Str.occurrences j i 0 j.length 1).isEmpty)) H):=by
 intro pins s σ H x y v u Q I rx ry h
 obtain ⟨i,j,rfl,rfl,q⟩:=h
 obtain ⟨t,rfl⟩:=rx
 obtain ⟨t',rfl⟩:=ry
 exact in_str (kb I q rfl)
theorem aK (b:Expr) {op:CmpOp} (h:op≠.In:=by decide) (h2:op≠.NotIn:=by decide):behindInMarks op b=false:=by
 have e1:(op == CmpOp.In)=false:=by cases op <;> first | rfl | exact absurd rfl h
 have e2:(op == CmpOp.NotIn)=false:=by cases op <;> first | rfl | exact absurd rfl h2
 cases b <;> simp [behindInMarks,e1,e2]
theorem qA {op:CmpOp} {r:R2} (ho:kZ X (compareOp op) r) (ha:PE X a ta) (hb:PE X b tb) (hm:behindInMarks op b=false):PE X (.Compare a [op] [b] pos) (Aa r ta tb):=by
 intro pins s σ H Q I h
 exact wpAny_Compare1 (vQ ha hb I h fun v u s2 x y H2 I2 rx ry q=>ho pins s2 σ H2 x y v u Q I2 rx ry q) hm
def uu (t:TE):TT:=fun σ H Q=>t σ H fun x H'=>∃ k,x=.bl k/\Q k H'
theorem gM {op:CmpOp} {r:R2} (ho:kZ X (compareOp op) r) (ha:PE X a ta) (hb:PE X b tb) (hm:behindInMarks op b=false):PT X (.Compare a [op] [b] pos) (uu (Aa r ta tb)):=by
 intro pins s σ H Q I h
 refine wpAny_isTrue_Compare1 (cC (ha pins s σ H _ I h) fun v s1 ⟨x,H1,I1,r1,q1⟩=>cC (hb pins s1 σ H1 _ I1 q1) fun u s2 ⟨y,H2,I2,r2,q2⟩ =>
  cC (ho pins s2 σ H2 x y v u _ I2 r1 r2 q2) fun c s3 ⟨z,H3,I3,r3,k,e,q3⟩=>?_) hm
 subst e
 cases r3
 exact wpAny_truthy_bool ⟨H3,I3,q3⟩
theorem lb:(sizeLine:Nat) < 2 ^ 63:=by rw [sizeLine_eq];decide
theorem vals1 {x:V} {us:List Value} (r:Vals [x] us):∃ u,us=[u]/\RelV x u:=by
 cases r with
 | cons r1 r2=>cases r2;exact ⟨_,rfl,r1⟩
theorem vals2 {x y:V} {us:List Value} (r:Vals [x,y] us):∃ u w',us=[u,w']/\RelV x u/\RelV y w':=by
 cases r with
 | cons r1 r2 =>
  cases r2 with
  | cons r3 r4=>cases r4;exact ⟨_,_,rfl,r1,r3⟩
theorem F0 (hc:X.calm=true):hJ X (.builtin "max") (fun xs H Q=>∃ i j,xs=[.int i,.int j]/\Q (.int (if j > i then j else i)) H):=by
 intro pins s σ H xs us Q I r h
 obtain ⟨i,j,rfl,q⟩:=h
 obtain ⟨u,w',rfl,⟨t,rfl⟩,⟨t',rfl⟩⟩:=vals2 r
 refine max_two_ints (I.ok.hd hc) fun h' tk k=>⟨_,H,I.kept k,?_,q⟩
 by_cases hj:j > i
 ·rw [if_pos hj,if_pos hj];exact ⟨_,rfl⟩
 ·rw [if_neg hj,if_neg hj];exact ⟨_,rfl⟩
theorem yI:hJ X (.type "int") (fun xs H Q=>(∃ i,xs=[.int i]/\Q (.int i) H)\/∃ k,xs=[.bl k]/\Q (.int (if k then 1 else 0)) H):=by
 intro pins s σ H xs us Q I r h
 rcases h with ⟨i,rfl,q⟩ | ⟨k,rfl,q⟩
 ·obtain ⟨u,rfl,t,rfl⟩:=vals1 r
  exact call_int_int ⟨.int i,H,I,⟨_,rfl⟩,q⟩
 ·obtain ⟨u,rfl,r1⟩:=vals1 r
  cases r1
  exact call_int_bool ⟨.int (if k then 1 else 0),H,I.tok _,⟨_,rfl⟩,q⟩
end
end L2
namespace L2
open PySem PySem.Spec PyProof.Rows
section
variable {prog:Program} {w:World} {A:Around} {E:Value->Shared->Prop} {s:Shared} {K:PySem.W.Frag} {x dx C f:Addr} {mA:Str->Option Value} {name:Str} {v:Value}
end
theorem mV.some_of {v:V} {o:Option Value} (r:mV (some v) o):∃ u,o=some u/\RelV v u:=by
 cases o with
 | none=>exact (show False from r).elim
 | some u=>exact ⟨u,rfl,r⟩
section
variable {P:Program} {w:World} {H H':Hp} {h h':Heap} {a C dx:Addr} {fs fs':List (Str×V)}
end
structure Nf (K:PySem.W.Frag) (C:Addr):Prop where
 pg:PySem.W.plainGet K C Str.empty=true
 hd:PySem.W.hasDictIn K C=true
 po:PySem.W.plainOver K C=true
 sa:PySem.W.findIn K (.ref C) "__setattr__" = some (some (.builtin "object.__setattr__"))
structure qB (K:PySem.W.Frag) (C:Addr) (f:Str) (v:V) (u:Value):Prop where
 at_:PySem.W.findIn K (.ref C) f=some (some u)
 rel:RelV v u
 get:PySem.W.specialIn K u "__get__" = some none
 cp:PySem.W.copiedNames.contains f=false
section
variable {X:Cx} {pins:List (Addr×Obj)} {σ:St} {H:Hp} {s:Shared} {a C dx:Addr} {fs:List (Str×V)} {f:Str} {v:V} {A:Around} {E:Value->Shared->Prop}
end
section
variable {X:Cx} {o e value:Expr} {f:Str} {pos pos' tpos:Pos} {ta tv:TE}
end
section
variable {X:Cx} {pins:List (Addr×Obj)} {σ:St} {H:Hp} {s:Shared} {A:Around} {E:Value->Shared->Prop} {Q:Value->Shared->Prop} {c:Value} {b:Bool}
inductive lS (K:PySem.W.Frag) (H:Hp):V->Value->Prop where
 | non:lS K H .non (.type "NoneType")
 | bl (x:Bool):lS K H (.bl x) (.type "bool")
 | int (i:Int):lS K H (.int i) (.type "int")
 | str (x:Str):lS K H (.str x) (.type "str")
 | yz (x:UInt64):lS K H (.yz x) (.type "float")
 | lst {a:Addr} {xs:List V} (e:H a=some (.lst xs)):lS K H (.ref a) (.type "list")
 | mr {a:Addr} {o:Obj} {xs:List V} (e:H a=some (.mr o (.lst xs))):lS K H (.ref a) (.type "list")
 | tup {a:Addr} {xs:List V} (e:H a=some (.tup xs)):lS K H (.ref a) (.type "tuple")
 | dK {a:Addr} {kvs:List (Key×V)} (e:H a=some (.dK kvs)):lS K H (.ref a) (.type "dict")
 | dT {a:Addr} {kvs:List (List Key×V)} (e:H a=some (.dT kvs)):lS K H (.ref a) (.type "dict")
 | ins {a C dx:Addr} {fs:List (Str×V)} (e:H a=some (.ins C dx fs)) (cl:Nf K C) (ha:PySem.W.findIn K (.ref C) "__class__" = some (some (.builtin "object.__class__")))
   (hn:PySem.W.specialIn K (.builtin "object.__class__") "__get__" = some (some (.builtin "getset_descriptor.__get__"))) (htk:PySem.W.takesIn K (.builtin "object.__class__")=some true)
   (hm:PySem.W.mroIn K C (.type "object")=some true):lS K H (.ref a) (.ref C)
end
end L2
namespace L2
open PySem PySem.Spec PyProof.Rows
structure il (k:Nat) (A:Around):Prop where
 hd:A.handled=none
 dp:A.depth + 3 * k + 5 < recursionLimit
 un:A.units + 16 * k + 200 < cLine
 gd:A.guards=some []
theorem il.mono {j k:Nat} {A:Around} (r:il k A) (h:j<=k):il j A:=⟨r.hd,by have:=r.dp;omega,by have:=r.un;omega,r.gd⟩
theorem il.deeper {k:Nat} {A:Around} (r:il (k + 1) A) (env:Env):il k (A.deeper env) :=
 ⟨r.hd,by have:=r.dp;show A.depth + 1 + 3 * k + 5 < _;omega,by have:=r.un;show A.units + 3 + 16 * k + 200 < _;omega,r.gd⟩
theorem il.depth {k:Nat} {A:Around} (r:il k A):A.depth < recursionLimit:=by have:=r.dp;omega
theorem il.units {k:Nat} {A:Around} (r:il k A):A.units + 64 < cLine:=by have:=r.un;omega
def Ah:TA:=fun _ H Q=>Q [] H
def uv (ta:TE) (tr:TA):TA:=fun σ H Q=>ta σ H fun x H1=>tr σ H1 fun xs H2=>Q (x :: xs) H2
section
variable {X:Cx} {e:Expr} {es:List Expr} {te:TE} {t:TA} {pos:Pos}
theorem ay:PA X [] Ah:=fun _ _ _ _ H Q I h=>Calls.spliced_nil ⟨[],H,I,.nil,h⟩
theorem ao (ha:PE X e te) (hr:PA X es t) (hs:starEach (e :: es) X.env=(false,eval e X.env) :: starEach es X.env:=by rfl):PA X (e :: es) (uv te t):=by
 intro pos pins s σ H Q I h
 rw [hs]
 show wpAny _ _ (spliced ((false,eval e X.env) :: backTo pos (starEach es X.env))) _ _ s
 refine Calls.spliced_cons (cC (ha pins s σ H _ I h) fun u s1 ⟨x,H1,I1,r1,q1⟩=>?_)
 exact cC (hr pos pins s1 σ H1 _ I1 q1) fun us s2 ⟨xs,H2,I2,r2,q2⟩=>⟨x :: xs,H2,I2,.cons r1 r2,q2⟩
def Ai (t:TA):TE:=fun σ H Q=>t σ H fun xs H1=>xs.length<=sizeLine/\∀ p,H1 p=none->Q (.ref p) (upd H1 p (.tup xs))
def Aj (t:TA):TE:=fun σ H Q=>t σ H fun xs H1=>xs.length<=sizeLine/\∀ p,H1 p=none->Q (.ref p) (upd H1 p (.lst xs))
theorem ie {x1} (h:PA X es t):PE X (.Tuple es x1 pos) (Ai t):=by
 intro pins s σ H Q I hq
 refine wpAny_Tuple_spliced (cC (h pos pins s σ H _ I hq) fun us s1 ⟨xs,H1,I1,r,z,q⟩=>⟨by rw [<- r.length];exact z,?_⟩)
 have hf:H1 s1.heap.objs.size=none:=I1.hok.fresh (Nat.le_refl _)
 refine ⟨.ref s1.heap.objs.size,upd H1 s1.heap.objs.size (.tup xs),I1.laid (t':=s1.toks) (fun b u e=>Heap.get?_push_of_some _ e) (Nat.le_refl _) ?_,rfl,q _ hf⟩
 exact ⟨z,us,r,⟨_,Heap.get?_push_size _ rfl,rfl,rfl,_,rfl⟩⟩
theorem kF (h:PA X es t):PE X (.List es pos) (Aj t):=by
 intro pins s σ H Q I hq
 refine wpAny_List_spliced (cC (h pos pins s σ H _ I hq) fun us s1 ⟨xs,H1,I1,r,z,q⟩=>⟨by rw [<- r.length];exact z,?_⟩)
 have hf:H1 s1.heap.objs.size=none:=I1.hok.fresh (Nat.le_refl _)
 refine ⟨.ref s1.heap.objs.size,upd H1 s1.heap.objs.size (.lst xs),I1.laid (t':=s1.toks) (fun b u e=>Heap.get?_push_of_some _ e) (Nat.le_refl _) ?_,rfl,q _ hf⟩
 exact ⟨z,us,0,r,Heap.get?_push_size _ rfl⟩
end
abbrev Sp:=List V->Hp->VK->XK->Prop
abbrev pj:=List Env->Hp->Shared->XK->Value->Shared->Prop
structure sC (P:Program) (w:World) (K:PySem.W.Frag) (mg:Str->Option Value) (base:Heap) (A:Around) (outer:List Env) (s:Shared) (H:Hp):Prop where
 frames:A.frames=some outer
 mod:Mod K mg base
 bs:∀ b o,base.get? b=some o->s.heap.get? b=some o/\H b=none
 rC:base.objs.size<=s.heap.objs.size
 mv:s.heap.FunFrames base outer
 yD:∀ b∈frs outer,H b=none
 hok:kC P w H s.heap
 bare:AllBare s.gens
def CE (outer:List Env) (P:Program) (w:World) (H:Hp) (s:Shared) (Q:VK) (u:Value) (s':Shared):Prop :=
 ∃ v H',s'.os=s.os/\AllBare s'.gens/\Un (frs outer) [] H H' s.heap s'.heap/\kC P w H' s'.heap/\RelV v u/\Q v H'
def CR (CX:pj) (outer:List Env) (P:Program) (w:World) (H:Hp) (s:Shared) (Q:VK) (E:XK) (r:Result) (s':Shared):Prop :=
 match r with
 | .ok (.ret u)=>CE outer P w H s Q u s'
 | .ok _=>False
 | .error e=>CX outer H s E e s'
structure aC (P:Program) (w:World) (K:PySem.W.Frag) (mg:Str->Option Value) (base:Heap) (CX:pj) (k:Nat) (f:Addr) (fd:FuncData) (ps:List Str) (sp:Sp):Prop where
 len:∀ vs H Q E,sp vs H Q E->vs.length=ps.length
 run:∀ (A:Around) (outer:List Env) (s:Shared) (H:Hp) (args:Args) (us:List Value) (vs:List V) (Q:VK) (E:XK),il k A->sC P w K mg base A outer s H->BindsTo s fd args (ps.zip us)->Vals vs us->sp vs H Q E ->
  codeAny (model P w) A (.call (.ref f) args) (CR CX outer P w H s Q E) s
theorem aC.imp {P:Program} {w:World} {K:PySem.W.Frag} {mg:Str->Option Value} {base:Heap} {CX:pj} {k:Nat} {f:Addr} {fd:FuncData} {ps:List Str} {sp Jv:Sp} (F:aC P w K mg base CX k f fd ps sp)
  (h:∀ vs H Q E,Jv vs H Q E->sp vs H Q E):aC P w K mg base CX k f fd ps Jv :=
 ⟨fun vs H Q E q=>F.len vs H Q E (h _ _ _ _ q),fun A outer s H args us vs Q E hr he hb hv hs=>F.run A outer s H args us vs Q E hr he hb hv (h _ _ _ _ hs)⟩
section
variable {X:Cx} {pins:List (Addr×Obj)} {σ:St} {H:Hp} {s s':Shared}
theorem Inv.F3 (I:Inv X pins σ H s):sC X.prog X.w X.K X.mg X.base X.A X.stack s H :=
 ⟨I.ok.frames,I.ok.mod,I.bs,Nat.le_trans I.ok.rC I.sz,I.stack,I.pe,I.hok,I.bare⟩
theorem Inv.after {Q:VK} {u:Value} (I:Inv X pins σ H s) (h:CE X.stack X.prog X.w H s Q u s'):EP X pins σ Q u s':=by
 obtain ⟨v,H',os,bare,un,hok,r,q⟩:=h
 obtain ⟨hh,g,d,t,os'⟩:=s'
 obtain rfl:os'=s.os:=os
 exact ⟨v,H',I.call (h':=hh) (g':=g) (d':=d) (t':=t) (ch:=[]) un hok bare (fun b z=>absurd z (by simp)),r,q⟩
end
def uw (sp:Sp) (ux:List V) (E:XK) (t:TA):TE:=fun σ H Q=>t σ H fun vs H1=>sp (vs ++ ux) H1 Q E
def Binds (K:PySem.W.Frag) (fd:FuncData) (ps:List Str) (ds:List Value):Prop :=
 ∀ (s:Shared) (us:List Value),K.In s.heap->(us ++ ds).length=ps.length->BindsTo s fd ⟨us,[]⟩ (ps.zip (us ++ ds))
theorem Binds.all {K:PySem.W.Frag} {fd:FuncData} {ps:List Str} (h:∀ us:List Value,us.length=ps.length->bindArgs fd ⟨us,[]⟩=pure (ps.zip us)):Binds K fd ps []:=fun s us _ hl=>by
 rw [List.append_nil] at hl ⊢
 exact .of_eq (h us hl)
def Passes (CX:pj) (X:Cx) (E:XK):Prop:=∀ (pins:List (Addr×Obj)) (σ:St) (H:Hp) (s:Shared) (e:Value) (s':Shared),Inv X pins σ H s->CX X.stack H s E e s'->X.xe e s'
section
variable {X:Cx} {CX:pj} {k:Nat} {f C:Addr} {fd:FuncData} {ps:List Str} {sp:Sp} {ux:List V} {ds:List Value} {E:XK} {x m:Str} {p pos apos:Pos} {e o:Expr} {es:List Expr} {ta:TE} {t:TA}
theorem vS {pins:List (Addr×Obj)} {σ:St} {H:Hp} {s:Shared} {Q:VK} {us:List Value} {vs:List V} (F:aC X.prog X.w X.K X.mg X.base CX k f fd ps sp) (hr:il k X.A) (hb:Binds X.K fd ps ds) (hd:Vals ux ds) (hx:Passes CX X E)
  (I:Inv X pins σ H s) (r:Vals vs us) (h:sp (vs ++ ux) H Q E):wpAny (model X.prog X.w) X.A (call (.ref f) us) (EP X pins σ Q) X.xe s:=by
 have r2:Vals (vs ++ ux) (us ++ ds):=r.append hd
 have hl:(us ++ ds).length=ps.length:=by rw [<- r2.length];exact F.len _ _ _ _ h
 refine wpAny_call (codeAny_mono (F.run X.A X.stack s H ⟨us,[]⟩ (us ++ ds) (vs ++ ux) Q E hr I.F3 (hb s us I.yE hl) r2 h) fun r s' hq=>?_)
 cases r with
 | error e=>exact hx pins σ H s e s' I hq
 | ok fl =>
  cases fl with
  | ret u=>exact I.after hq
  | next=>exact False.elim hq
  | brk=>exact False.elim hq
  | cont=>exact False.elim hq
theorem cD (F:aC X.prog X.w X.K X.mg X.base CX k f fd ps sp) (hr:il k X.A) (hg:Gl X x) (hm:X.mg x=some (.ref f)) (hk:PySem.W.keepIn X.K (.ref f)=true) (hb:Binds X.K fd ps ds) (hd:Vals ux ds) (hx:Passes CX X E)
  (ha:PA X (e :: es) t) (hdb:(x == ("__debug__" : Str))=false:=by decide) (he:starEach (e :: es) X.env=(false,eval e X.env) :: starEach es X.env:=by rfl) (hpl:(backTo pos (starEach es X.env)).any (·.1)=false:=by rfl) :
  PE X (.Call (.Name x p) (e :: es) [] pos) (uw sp ux E t):=by
 intro pins s σ H Q I h
 refine wpAny_Call_Name_kw (Je I hg hm ?_ hdb)
 refine PySem.W.callWith_K (h₀:=X.base) I.ok.mod.zH hk (cC (ha pos pins s σ H _ I h) fun us s1 ⟨vs,H1,I1,r,q⟩=>⟨I1.yE,?_⟩) he hpl
 exact vS F hr hb hd hx I1 r q
end
section
variable {X:Cx} {CX:pj} {k:Nat} {f C:Addr} {fd:FuncData} {ps ks:List Str} {sp:Sp} {E:XK} {x m:Str} {p pos apos kpos:Pos} {e o:Expr} {es:List Expr} {kws:List Keyword} {te ta:TE} {t tk:TA} {nm:Option Str}
variable {g:List Value->List Value->List Value} {gV:List V->List V->List V}
end
structure aB (N P:List Str) (sc:Scope):Prop where
 kind:sc.kind=.function
 co:sc.isCoroutine=false
 gen:sc.isGenerator=false
 nd:N.Nodup
 pre:N.take P.length=P
 par:∀ x∈P,sc.names.lookup x=some .local\/sc.names.lookup x=some .cell
 vT:∀ y∈sc.names,y.2≠.free
theorem Jw {kindOf:Str->Option NameKind} {x:Str}:∀ {binds:List (Str×Value)} {m:Str->Option Value},(∀ v,(x,v) ∉ binds)->bindL kindOf binds m x=m x
 | [],_,_=>rfl
 | (n,v) :: r,m,h=>by
  unfold bindL
  rw [Jw fun w hw=>h w (List.mem_cons_of_mem _ hw)]
  split
  ·have:x≠n:=by rintro rfl;exact h v List.mem_cons_self
   simp [this]
  ·rfl
theorem Jx {kindOf:Str->Option NameKind} {x:Str}:∀ {binds:List (Str×Value)} {m:Str->Option Value},(∀ v,(x,v) ∉ binds)->bindC kindOf binds m x=m x
 | [],_,_=>rfl
 | (n,v) :: r,m,h=>by
  unfold bindC
  rw [Jx fun w hw=>h w (List.mem_cons_of_mem _ hw)]
  split
  ·rfl
  ·have:x≠n:=by rintro rfl;exact h v List.mem_cons_self
   simp [this]
theorem Jy {kindOf:Str->Option NameKind} {x:Str} {v:Value}:∀ {P:List Str} {vs:List Value} {i:Nat} {m:Str->Option Value},P.Nodup->P[i]?=some x->vs[i]?=some v->kindOf x=some .local ->
  bindL kindOf (P.zip vs) m x=some v
 | [],_,_,_,_,h,_,_=>by simp at h
 | _ :: _,[],_,_,_,_,h,_=>by simp at h
 | p :: P,w :: vs,0,m,nd,h1,h2,hk=>by
  simp at h1 h2;subst h1;subst h2
  show bindL kindOf ((p,w) :: P.zip vs) m p=_
  unfold bindL
  rw [Jw fun v hv=>(List.nodup_cons.mp nd).1 (List.of_mem_zip hv).1,if_pos hk]
  simp
 | p :: P,w :: vs,i + 1,m,nd,h1,h2,hk=>by
  show bindL kindOf ((p,w) :: P.zip vs) m x=_
  unfold bindL
  exact Jy (i:=i) (List.nodup_cons.mp nd).2 (by simpa using h1) (by simpa using h2) hk
theorem Jz {kindOf:Str->Option NameKind} {x:Str} {v:Value}:∀ {P:List Str} {vs:List Value} {i:Nat} {m:Str->Option Value},P.Nodup->P[i]?=some x->vs[i]?=some v->kindOf x≠some .local ->
  bindC kindOf (P.zip vs) m x=some v
 | [],_,_,_,_,h,_,_=>by simp at h
 | _ :: _,[],_,_,_,_,h,_=>by simp at h
 | p :: P,w :: vs,0,m,nd,h1,h2,hk=>by
  simp at h1 h2;subst h1;subst h2
  show bindC kindOf ((p,w) :: P.zip vs) m p=_
  unfold bindC
  rw [Jx fun v hv=>(List.nodup_cons.mp nd).1 (List.of_mem_zip hv).1,if_neg hk]
  simp
 | p :: P,w :: vs,i + 1,m,nd,h1,h2,hk=>by
  show bindC kindOf ((p,w) :: P.zip vs) m x=_
  unfold bindC
  exact Jz (i:=i) (List.nodup_cons.mp nd).2 (by simpa using h1) (by simpa using h2) hk
def start (N:List Str) (vs:List V):St:=vs.map some ++ List.replicate (N.length - vs.length) none
def jb (CX:pj) (P:Program) (w:World) (K:PySem.W.Frag) (mg:Str->Option Value) (base:Heap) (N:List Str) (qual:Str) (scope:Scope) (f:Addr) (cd:Value) (A:Around) (outer:List Env) (s:Shared) (H:Hp) (E:XK):Cx where
 prog:=P
 w:=w
 K:=K
 mg:=mg
 base:=base
 A:=A.deeper (envOfC qual scope s.heap.objs.size f cd)
 N:=N
 s₀:=s
 H₀:=H
 env:=envOfC qual scope s.heap.objs.size f cd
 outer:=outer
 stack:=envOfC qual scope s.heap.objs.size f cd :: outer
 ex:=[]
 calm:=true
 fn:=fun _=>true
 pn:=[]
 xe:=fun e s'=>wpAny (model P w) (A.deeper (envOfC qual scope s.heap.objs.size f cd)) («leaving» (envOfC qual scope s.heap.objs.size f cd) e) (fun _ s''=>CX outer H s E e s'') (fun e' s''=>CX outer H s E e' s'') s'
theorem JA {sc:Scope} {n:Nat} {x:Str} (h:sc.names.lookup x=some .cell):∃ c,(cellsFrom n sc.names []).lookup x=some c:=by
 have q:=PySem.W.cellsFrom_some sc.names n [] (.inl h)
 exact Option.isSome_iff_exists.mp q
theorem Ng {CX:pj} {P:Program} {w:World} {K:PySem.W.Frag} {mg:Str->Option Value} {base:Heap} {N ps:List Str} {qual:Str} {scope:Scope} {f:Addr} {cd:Value} {A:Around} {outer:List Env} {s s1:Shared} {H:Hp} {E:XK} {us:List Value} {vs:List V}
  (S:aB N ps scope) (hd:A.handled=none) (e0:sC P w K mg base A outer s H) (hl:vs.length=ps.length) (r:Vals vs us)
  (x:InCallC s s.heap.objs.size (bindL (envOfC qual scope s.heap.objs.size f cd).kindOf (ps.zip us) fun _=>none) (cellsFrom (s.heap.objs.size + 1) scope.names []) (bindC (envOfC qual scope s.heap.objs.size f cd).kindOf (ps.zip us) fun _=>none) s1) :
  Inv (jb CX P w K mg base N qual scope f cd A outer s H E) [] (start N vs) H s1:=by
 have hpl:ps.length<=N.length:=by have:=congrArg List.length S.pre;rw [List.length_take] at this;omega
 obtain ⟨h1,tk,rfl,hk⟩:=x.done
 have Ak:∀ b:Addr,b ∉ (jb CX P w K mg base N qual scope f cd A outer s H E).ex:=fun b z=>absurd (show b∈([]:List Addr) from z) (by simp)
 refine ⟨⟨e0.mod,S.kind,rfl,rfl,Nat.le_refl _,fun y z c h1 h2=>?_,fun y hy=>?_,fun y c _ h=>?_,fun _=>hd,Around.frames_deeper e0.frames,.inr ⟨rfl,rfl⟩,fun b z=>absurd z (Ak b),e0.bs,e0.rC,fun b _ _=>Ak b,fun b z=>absurd z (Ak b),e0.mv,e0.yD⟩,
  rfl,e0.bare,Un.kept hk,⟨_,x.toInCall.ns,fun i y v h1 h2 h3=>?_⟩,fun y c h=>⟨_,x.cell y c h⟩,e0.hok.fresh (Nat.le_refl _),fun y c h=>?_,fun p hp=>absurd (show p∈([]:List (Addr×Obj)) from hp) (by simp),e0.hok.kept hk,?_⟩
 ·exact name_of_addr x.apart (PySem.mem_of_lookup h1) (PySem.mem_of_lookup h2)
 ·have hy:scope.names.lookup y=some .cell\/scope.names.lookup y=some .free:=hy
  rcases hy with hy | hy
  ·exact JA hy
  ·exact absurd rfl (S.vT _ (PySem.mem_of_lookup hy))
 ·exact Nat.le_of_lt (x.above y c (PySem.mem_of_lookup h))
 ·have hi:i < vs.length:=by
   unfold start at h2
   by_cases hi:i < vs.length
   ·exact hi
   ·rw [List.getElem?_append_right (by simpa using hi)] at h2
    rw [List.getElem?_replicate] at h2
    split at h2 <;> cases h2
  have ha:vs[i]?=some v:=by
   unfold start at h2
   rw [List.getElem?_append_left (by simpa using hi),List.getElem?_map] at h2
   cases e:vs[i]? with
   | none=>rw [e] at h2;cases h2
   | some a=>rw [e] at h2;cases h2;rfl
  obtain ⟨u,hu,rv⟩:=r.get ha
  have hp:ps[i]?=some y:=by
   rw [<- S.pre,List.getElem?_take_of_lt (by omega)];exact h1
  have JB:ps.Nodup:=by rw [<- S.pre];exact S.nd.sublist (List.take_sublist _ _)
  refine ⟨u,rv,?_⟩
  rcases S.par y (List.mem_of_getElem? hp) with k | k
  ·exact .inl ⟨k,Jy JB hp hu k⟩
  ·obtain ⟨c,e⟩:=JA (n:=s.heap.objs.size + 1) k
   refine .inr ⟨.inl k,c,e,?_⟩
   have q:=x.cell y c e
   rw [Jz JB hp hu (by show scope.names.lookup y≠_;rw [k];decide)] at q
   exact q
 ·exact e0.hok.fresh (Nat.le_of_lt (x.above y c (PySem.mem_of_lookup h)))
 ·unfold start
  show _=N.length
  rw [List.length_append,List.length_map,List.length_replicate]
  omega
theorem Al {CX:pj} {P:Program} {w:World} {K:PySem.W.Frag} {mg:Str->Option Value} {base:Heap} {k:Nat} {f:Addr} {name qual:Str} {params:Arguments} {body:List Stmt} {scope:Scope} {dV kV doc pm cdv ct oc:Value} {an od:Option Addr}
  {osl:Array (Option Value)} {N ps:List Str} {sp:Sp} (lk:K.lookup f=some ⟨oc,od,.func (PySem.W.fnOf name qual params body scope dV kV doc pm an cdv ct),osl⟩) (hcd:PySem.W.codeIn K cdv qual=true) (S:aB N ps scope)
  (len:∀ vs H Q E,sp vs H Q E->vs.length=ps.length)
  (hbody:∀ (A:Around) (outer:List Env) (s:Shared) (H:Hp) (vs:List V) (Q:VK) (E:XK),il k (A.deeper (envOfC qual scope s.heap.objs.size f cdv))->sp vs H Q E ->
   ∃ t,pX (jb CX P w K mg base N qual scope f cdv A outer s H E) body t/\t { nx:=fun _ H'=>Q .non H',rt:=Q } (start N vs) H) :
  aC P w K mg base CX (k + 1) f (PySem.W.fnOf name qual params body scope dV kV doc pm an cdv ct) ps sp:=by
 refine ⟨len,fun A outer s H args us vs Q E hr e0 hb r rH=>?_⟩
 have hl:=len _ _ _ _ rH
 have KX:K.In s.heap:=e0.mod.zH.keeps fun b o e=>(e0.bs b o e).1
 have lim:s.heap.NoLimit:=e0.mod.nolimit.keeps fun b o e=>(e0.bs b o e).1
 have hkind:∀ y∈ps.zip us,scope.names.lookup y.1=some .local\/(scope.names.lookup y.1=some .cell/\((cellsFrom (s.heap.objs.size + 1) scope.names []).lookup y.1).isSome=true):=fun ⟨n,v⟩ hy=>by
  rcases S.par n (List.of_mem_zip hy).1 with q | q
  ·exact .inl q
  ·exact .inr ⟨q,PySem.W.cellsFrom_some _ _ _ (.inl q)⟩
 refine codeAny_call_function hr.depth (KX _ _ lk) rfl S.co S.gen rfl (PySem.W.codeRec_of KX hcd) (hb _ _ _ _ ?_)
 refine wpAny_newFunctionEnv_cells S.kind hkind fun env he s1 x=>?_
 subst he
 refine ⟨lim.keeps x.toInCall.keep,codeAny_func ?_⟩
 obtain ⟨t,ht,hq⟩:=hbody A outer s H vs Q E (hr.deeper _) rH
 have I:Inv (jb CX P w K mg base N qual scope f cdv A outer s H E) [] (start N vs) H s1:=Ng S hr.hd e0 hl r x
 refine wpAny_mono (ht [] s1 (start N vs) H _ I hq) (fun fl s' hs=>?_) fun e s' hs=>hs
 have fin:∀ {σ':St} {H':Hp} {v:V} {u:Value},Inv (jb CX P w K mg base N qual scope f cdv A outer s H E) [] σ' H' s'->RelV v u->Q v H'->CE outer P w H s Q u s' :=
  fun {σ' H' v u} J rv q=>⟨v,H',J.os,J.bare,J.base,J.hok,rv,q⟩
 cases fl with
 | ret u =>
  obtain ⟨v,σ',H',J,rv,q⟩:=hs
  exact fin J rv q
 | next =>
  obtain ⟨σ',H',J,q⟩:=hs
  exact fin (v:=V.non) (u:=Value.none) J rfl q
 | brk =>
  obtain ⟨_,_,_,q⟩:=hs
  exact False.elim q
 | cont =>
  obtain ⟨_,_,_,q⟩:=hs
  exact False.elim q
end L2
namespace L2
open PySem PySem.Spec PyProof.Rows
section
variable {X:Cx} {x:Str} {p pos:Pos} {e:Expr} {es:List Expr} {t:TA} {id T:String} {r:List V->Hp->VK->Prop}
def F4 (r:List V->Hp->VK->Prop) (t:TA):TE:=fun σ H Q=>t σ H fun vs H1=>r vs H1 Q
theorem ig (hc:hJ X (.builtin id) r) (hg:Gl X x) (hm:X.mg x=none) (hv:bootBuiltins x=some (.builtin id)) (ha:PA X (e :: es) t) (hn:x≠"__name__" := by decide) (hdb:(x == ("__debug__" : Str))=false:=by decide)
  (he:starEach (e :: es) X.env=(false,eval e X.env) :: starEach es X.env:=by rfl) (hpl:(backTo pos (starEach es X.env)).any (·.1)=false:=by rfl):PE X (.Call (.Name x p) (e :: es) [] pos) (F4 r t):=by
 intro pins s σ H Q I h
 refine wpAny_Call_Name_kw (uh I hg hm hv ?_ hn hdb)
 exact PyProof.Rows.callWith_builtin1 (cC (ha pos pins s σ H _ I h) fun us s1 ⟨vs,H1,I1,r1,q1⟩=>hc pins s1 σ H1 vs us Q I1 r1 q1) he hpl
theorem fT (hc:hJ X (.type T) r) (hg:Gl X x) (hm:X.mg x=none) (hv:bootBuiltins x=some (.type T)) (ha:PA X (e :: es) t) (hn:x≠"__name__" := by decide) (hdb:(x == ("__debug__" : Str))=false:=by decide)
  (he:starEach (e :: es) X.env=(false,eval e X.env) :: starEach es X.env:=by rfl) (hpl:(backTo pos (starEach es X.env)).any (·.1)=false:=by rfl):PE X (.Call (.Name x p) (e :: es) [] pos) (F4 r t):=by
 intro pins s σ H Q I h
 refine wpAny_Call_Name_kw (uh I hg hm hv ?_ hn hdb)
 exact PyProof.Rows.callWith_type1 (cC (ha pos pins s σ H _ I h) fun us s1 ⟨vs,H1,I1,r1,q1⟩=>hc pins s1 σ H1 vs us Q I1 r1 q1) he hpl
end
end L2
namespace HT
open PySem PyProof.Rows
theorem Nh (A:Around) (s:Shared) (a:Int) (t:Tok) (c:Int) (u:Tok):∃ e,SeqAt.EqAt A s (.int a t) (.int c u) e/\(e=true↔a=c) :=
 ⟨(a == c),SeqAt.EqAt.int_int a t c u,by simp⟩
section
open PySem.SeqAt
open PySem.AutoSeq1 (wpAny_loadPart')
open PySem.MeetsSeq PySem.MeetsSeq2 PySem.MeetsSeq3
end
section
variable {prog:Program} {w:World} {A:Around} {E:Value->Shared->Prop} {s:Shared}
theorem Ni {t b:Addr} {vs ws:List Value} {Q:Value->Shared->Prop} (ht:IsTup s.heap t vs.toArray) (hb:IsTup s.heap b ws.toArray) (hv:vs≠[])
  (h1:ws=[]->Q (.ref t) s) (h2:ws≠[]->Q (.ref s.heap.objs.size) { s with heap:=s.heap.push { cls:=.type "tuple",data:=.seq (vs ++ ws).toArray } })
  (hsz:vs.length + ws.length<=sizeLine):wpAny (model prog w) A (binaryOp .Add (.ref t) (.ref b)) Q E s:=by
 obtain ⟨⟨cls,dd,data,sl⟩,ho,hc,n,hd⟩:=id ht
 obtain ⟨⟨F5,dd2,data2,sl2⟩,ho2,hc2,n2,hd2⟩:=id hb
 simp only at hc hd hc2 hd2
 subst hc hd hc2 hd2
 have e:vs.toArray ++ ws.toArray=(vs ++ ws).toArray:=by simp
 by_cases hw:ws=[]
 ·exact concat_meets ⟨_,ho,rfl⟩ ⟨_,ho2,rfl⟩ noFill_tuple_add seq_tuple_add PySem.F.slot_tuple_add PySem.F.entry_tuple_add (PySem.F.args_tuple_add_2 _ _)
   (tuple_addW1 t b vs.toArray ws.toArray n n2 dd dd2 sl sl2 (by simpa using hv) (by simp [hw])) ⟨ho,ho2,h1 hw⟩
 ·refine concat_meets ⟨_,ho,rfl⟩ ⟨_,ho2,rfl⟩ noFill_tuple_add seq_tuple_add PySem.F.slot_tuple_add PySem.F.entry_tuple_add (PySem.F.args_tuple_add_2 _ _)
   (tuple_addW2 t b vs.toArray ws.toArray n n2 dd dd2 sl sl2 (by simpa using hv) (by simpa using hw) (by rw [List.size_toArray,List.size_toArray];exact hsz)) ⟨ho,ho2,?_⟩
  rw [e]
  exact h2 hw
def cP (n d:Nat):Option Int->Nat
 | none=>d
 | some v=>if v < 0 then (v + (n:Int)).toNat else min v.toNat n
theorem Nj (n d:Nat):cP n d none=d:=rfl
theorem Nk (n d k:Nat):cP n d (some (k:Int))=min k n:=by
 show (if (k:Int) < 0 then ((k:Int) + (n:Int)).toNat else min (k:Int).toNat n)=min k n
 rw [if_neg (by omega),Int.toNat_natCast]
theorem vU (n d:Nat) (hd:d<=n) (o:Option Int):cP n d o<=n:=by
 cases o with
 | none=>exact hd
 | some v =>
  show (if v < 0 then (v + (n:Int)).toNat else min v.toNat n)<=n
  by_cases hv:v < 0
  ·rw [if_pos hv];omega
  ·rw [if_neg hv];exact Nat.min_le_right _ _
theorem JC (v:Int) (n d:Nat):(if v < 0 then max (v + (n:Int)) 0 else min v (n:Int))=((cP n d (some v):Nat):Int):=by
 show (if v < 0 then max (v + (n:Int)) 0 else min v (n:Int))=(((if v < 0 then (v + (n:Int)).toNat else min v.toNat n):Nat):Int)
 by_cases hv:v < 0
 ·simp only [if_pos hv];omega
 ·simp only [if_neg hv];omega
theorem Nl (lo hi:Option Int) (n:Nat):Builtin.Slice.sliceAdjust lo hi 1 (n:Int)=(((cP n 0 lo:Nat):Int),((cP n n hi:Nat):Int)):=by
 have h1:¬ ((1:Int) < 0):=by omega
 unfold Builtin.Slice.sliceAdjust
 simp only [h1,if_false]
 refine Prod.ext ?_ ?_
 ·cases lo with
  | none=>rfl
  | some v=>exact JC v n 0
 ·cases hi with
  | none=>rfl
  | some v=>exact JC v n n
theorem Nm (i j:Nat):Builtin.Slice.slicePlaces (i:Int) (j:Int) 1=j - i:=by
 unfold Builtin.Slice.slicePlaces
 have h1:(1:Int) > 0:=by omega
 simp only [h1,if_true,Int.ediv_one]
 split <;> omega
theorem JD {v:Value} {o:Option Int} {Q:Option Int->Shared->Prop} (p:IsPart v o) (h:Q o s):wpAny (model prog w) A (Builtin.Slice.slicePartIndex v) Q E s:=by
 cases p with
 | none=>exact slicePart_none h
 | int i t=>exact slicePart_int h
theorem JE {sl:Addr} {vl vu:Value} {lo hi:Option Int} {n:Nat} {Q:Int×Int×Nat->Shared->Prop} (hs:s.heap.IsSliceOf sl vl vu .none) (pl:IsPart vl lo) (pu:IsPart vu hi)
  (h:Q (((cP n 0 lo:Nat):Int),1,cP n n hi - cP n 0 lo) s):wpAny (model prog w) A (Builtin.Slice.sliceApplied (.ref sl) (pure (n:Int))) Q E s:=by
 obtain ⟨os,hos,hcs,hds⟩:=id hs
 unfold Builtin.Slice.sliceApplied Builtin.Slice.sliceFields
 refine wpAny_bind (wpAny_bind (wpAny_field hos hds (x:=vl) rfl (wpAny_bind (wpAny_field hos hds (x:=vu) rfl (wpAny_bind (wpAny_field hos hds (x:=.none) rfl (wpAny_pure ?_)))))))
 refine wpAny_bind (slicePart_none ?_)
 show wpAny _ _ (if ((1:Int) == 0)=true then _ else _) _ _ s
 rw [if_neg (by decide)]
 refine wpAny_bind (JD pl (wpAny_bind (JD pu (wpAny_bind (wpAny_pure ?_)))))
 show wpAny _ _ (match Builtin.Slice.sliceAdjust lo hi 1 (n:Int) with | (lo,hi)=>pure (lo,(1:Int),Builtin.Slice.slicePlaces lo hi 1)) _ _ s
 rw [Nl lo hi n]
 show wpAny _ _ (pure (((cP n 0 lo:Nat):Int),(1:Int),Builtin.Slice.slicePlaces ((cP n 0 lo:Nat):Int) ((cP n n hi:Nat):Int) 1)) _ _ s
 rw [Nm]
 exact wpAny_pure h
theorem Nn (xs:Array Value) (i k:Nat):((List.range k).filterMap fun (m:Nat)=>xs[((i:Int) + (m:Int) * 1).toNat]?).toArray=((xs.toList.drop i).take k).toArray:=by
 have e:(fun (m:Nat)=>xs[((i:Int) + (m:Int) * 1).toNat]?)=fun m=>xs[i + m]?:=by
  funext m
  have:((i:Int) + (m:Int) * 1).toNat=i + m:=by omega
  rw [this]
 rw [e]
 have:=pick_run xs i k
 rw [List.filterMap_map] at this
 have e2:((fun x=>xs[x]?) ∘ fun x=>i + x)=fun m=>xs[i + m]?:=rfl
 rw [e2] at this
 rw [this]
theorem Np {t sl:Addr} {items:Array Value} {vl vu:Value} {lo hi:Option Int} {Q:Value->Shared->Prop} (ht:IsTup s.heap t items) (hs:s.heap.IsSliceOf sl vl vu .none) (pl:IsPart vl lo) (pu:IsPart vu hi)
  (hw:¬ (cP items.size 0 lo=0/\cP items.size items.size hi=items.size))
  (h:Q (.ref s.heap.objs.size) { s with heap:=s.heap.push { cls:=.type "tuple",data:=.seq ((items.toList.drop (cP items.size 0 lo)).take (cP items.size items.size hi - cP items.size 0 lo)).toArray } })
  (hsz:items.size<=sizeLine):wpAny (model prog w) A (getItem (.ref t) (.ref sl)) Q E s:=by
 have pk:sizeOk (.seq ((items.toList.drop (cP items.size 0 lo)).take (cP items.size items.size hi - cP items.size 0 lo)).toArray):=by
  show ((items.toList.drop (cP items.size 0 lo)).take (cP items.size items.size hi - cP items.size 0 lo)).toArray.size<=sizeLine
  rw [List.size_toArray,List.length_take,List.length_drop,Array.length_toList]
  omega
 have hj:cP items.size items.size hi<=items.size:=vU _ _ (Nat.le_refl _) hi
 obtain ⟨os,hos,hcs,hds⟩:=id hs
 have F6:s.TypeIs (.ref sl) "slice" := ⟨os,hos,hcs⟩
 unfold getItem
 try with_reducible refine wpAny_holding ?_
 first | refine wpAny_bind (wpAny_pure ?_) | skip
 refine wpAny_bind (wpAny_sequenceKey ht.typeIs (by decide) ?_)
 refine wpAny_bind (wpAny_callSpecial?_slot (name:=Str.ofString "__getitem__") ht.typeIs PyProof.Rows.slot_tuple_getitem
  (wpAny_call_entry PyProof.Rows.slot_tuple_getitem ht.typeIs entry_tuple_getitem ?_ (args_tuple_getitem _ _)))
 show wpAny _ _ (Builtin.Tuple.tupleItemsOf (.ref t) >>= _) _ _ s
 refine wpAny_bind (tupleItemsOf_ ht ?_)
 refine wpAny_bind (wpAny_typeOf F6 ?_)
 rw [if_pos (by decide)]
 refine wpAny_bind (JE hs pl pu ?_)
 have hno:¬ ((((cP items.size 0 lo:Nat):Int) == 0 && (1:Int) == 1 && (cP items.size items.size hi - cP items.size 0 lo) == items.size)=true):=by
  intro q
  rw [Bool.and_eq_true,Bool.and_eq_true] at q
  have q1:((cP items.size 0 lo:Nat):Int)=0:=eq_of_beq q.1.1
  have q2:cP items.size items.size hi - cP items.size 0 lo=items.size:=eq_of_beq q.2
  exact hw ⟨by omega,by omega⟩
 show wpAny _ _ (if (((cP items.size 0 lo:Nat):Int) == 0 && (1:Int) == 1 && (cP items.size items.size hi - cP items.size 0 lo) == items.size)=true then _ else _) _ _ s
 rw [if_neg hno,Nn]
 first
  | exact wpAny_bind (m:=Builtin.Tuple.tupleExact _) (wpAny_newObj_type (wpAny_pure ⟨_,rfl,wpAny_pure h⟩) pk)
  | exact wpAny_bind (m:=Builtin.Tuple.tupleExact _) (wpAny_newObj_type (wpAny_bind (wpAny_pure (wpAny_pure ⟨_,rfl,wpAny_pure h⟩))) pk)
  | exact wpAny_bind (wpAny_bind (m:=Builtin.Tuple.tupleExact _) (wpAny_newObj_type (wpAny_pure (wpAny_pure ⟨_,rfl,wpAny_pure h⟩)) pk))
  | exact wpAny_bind (wpAny_bind (m:=Builtin.Tuple.tupleExact _) (wpAny_newObj_type (wpAny_pure ⟨_,rfl,wpAny_pure h⟩) pk))
end
end HT
namespace L2
open PySem PySem.Spec PyProof.Rows
abbrev TO:=St->Hp->(Option Int->Hp->Prop)->Prop
def PO (X:Cx) (e:Option Expr) (t:TO):Prop :=
 ∀ (pins:List (Addr×Obj)) (s:Shared) (σ:St) (H:Hp) (Q:Option Int->Hp->Prop),Inv X pins σ H s->t σ H Q ->
  wpAny (model X.prog X.w) X.A (evalPart e X.env) (fun u s'=>∃ o H',Inv X pins σ H' s'/\IsPart u o/\Q o H') X.xe s
def pq:TO:=fun _ H Q=>Q none H
def uy (t:TE):TO:=fun σ H Q=>t σ H fun x H1=>∃ i,x=.int i/\Q (some i) H1
theorem JF {ns:List Int}:∀ {us:List Value},Vals (ns.map V.int) us->IntsAre us ns:=by
 induction ns with
 | nil=>intro us r;rw [List.map_nil] at r;cases r;exact .nil
 | cons n ns ih =>
  intro us r
  rw [List.map_cons] at r
  cases r with
  | cons r1 r2 =>
   obtain ⟨t,e⟩:=r1
   subst e
   exact .cons n t (ih r2)
section
variable {X:Cx} {e:Expr} {te:TE} {lo hi:Option Expr} {tl th:TO} {pos p2:Pos}
theorem sD:PO X none pq:=by
 intro pins s σ H Q I h
 rw [evalPart_none]
 exact wpAny_pure ⟨none,H,I,.none,h⟩
theorem sE (h:PE X e te):PO X (some e) (uy te):=by
 intro pins s σ H Q I hw
 rw [evalPart_some]
 refine cC (h pins s σ H _ I hw) fun u s1 ⟨x,H1,I1,r1,q1⟩=>?_
 obtain ⟨i,rfl,q⟩:=q1
 obtain ⟨t,rfl⟩:=r1
 exact ⟨some i,H1,I1,.int i t,q⟩
def Dt (X:Cx) (r:V->Option Int->Option Int->Hp->VK->Prop):Prop :=
 ∀ (pins:List (Addr×Obj)) (s:Shared) (σ:St) (H:Hp) (x:V) (v vl vu:Value) (lo hi:Option Int) (sl:Addr) (Q:VK),Inv X pins σ H s->RelV x v->s.heap.IsSliceOf sl vl vu .none->IsPart vl lo->IsPart vu hi->r x lo hi H Q ->
  ∃ T id,typeLookup (.type T) "__getitem__" = pure (some (.builtin id))/\s.TypeIs v T/\wpAny (model X.prog X.w) X.A (getItem v (.ref sl)) (EP X pins σ Q) X.xe s
def JG (r:V->Option Int->Option Int->Hp->VK->Prop) (te:TE) (tl th:TO):TE:=fun σ H Q=>te σ H fun x H1=>tl σ H1 fun l H2=>th σ H2 fun u H3=>r x l u H3 Q
theorem sF {r:V->Option Int->Option Int->Hp->VK->Prop} (hr:Dt X r) (he:PE X e te) (hl:PO X lo tl) (hu:PO X hi th):PE X (.Subscript e (.Slice lo hi none p2) pos) (JG r te tl th):=by
 intro pins s σ H Q I h
 refine Subscript_ (cC (he pins s σ H _ I h) fun v s1 ⟨x,H1,I1,r1,q1⟩=>?_)
 refine wpAny_Slice (cC (hl pins s1 σ H1 _ I1 q1) fun vl s2 ⟨l,H2,I2,pl,q2⟩=>cC (hu pins s2 σ H2 _ I2 q2) fun vu s3 ⟨u,H3,I3,pu,q3⟩=>?_)
 rw [evalPart_none]
 refine wpAny_pure ?_
 have I4:Inv X pins σ H3 { s3 with heap:=s3.heap.push { cls:=.type "slice",data:=.fields #[vl,vu,.none] } }:=I3.kept (t':=s3.toks) fun b ob q=>Heap.get?_push_of_some _ q
 obtain ⟨T,id,hT,ht,hg⟩:=hr pins { s3 with heap:=s3.heap.push { cls:=.type "slice",data:=.fields #[vl,vu,.none] } } σ H3 x v vl vu l u s3.heap.objs.size Q I4 r1 (Heap.IsSliceOf.new ..) pl pu q3
 show wpAny (model X.prog X.w) X.A (subscriptTail e (.Slice lo hi none p2) v (.ref s3.heap.objs.size)) (EP X pins σ Q) X.xe { s3 with heap:=s3.heap.push { cls:=.type "slice",data:=.fields #[vl,vu,.none] } }
 exact tail_any (ops:=[.ref s3.heap.objs.size,v]) ht hT hg (by with_unfolding_all rfl)
def mB (xs:List V) (lo hi:Option Int):List V:=(xs.drop (HT.cP xs.length 0 lo)).take (HT.cP xs.length xs.length hi - HT.cP xs.length 0 lo)
theorem JH (xs:List V) (lo hi:Option Int):(mB xs lo hi).length<=xs.length:=by
 unfold mB
 rw [List.length_take,List.length_drop]
 omega
def F7 (K:PySem.W.Frag):V->Option Int->Option Int->Hp->VK->Prop:=fun x lo hi H Q=>∃ a xs,x=.ref a/\eZ K H a xs /\
 ¬ (HT.cP xs.length 0 lo=0/\HT.cP xs.length xs.length hi=xs.length)/\∀ p,H p=none->Q (.ref p) (upd H p (.tup (mB xs lo hi)))
theorem vV:Dt X (F7 X.K):=by
 intro pins s σ H x v vl vu lo hi sl Q I rx hs pl pu h
 obtain ⟨a,xs,rfl,hx,hw,q⟩:=h
 cases rx
 obtain ⟨its,r,ht,hz⟩:=I.tuple hx
 have hlen:its.toArray.size=xs.length:=by rw [List.size_toArray];exact r.length.symm
 refine ⟨"tuple",_,PyProof.Rows.slot_tuple_getitem.lookup,ht.typeIs,?_⟩
 refine HT.Np ht hs pl pu (by rw [hlen];exact hw) ?_ (by rw [hlen];exact hz)
 rw [hlen]
 refine ⟨.ref s.heap.objs.size,_,I.laid (t':=s.toks) (o:=.tup (mB xs lo hi)) (fun b ob q=>Heap.get?_push_of_some _ q) (Nat.le_refl _) ?_,rfl,q _ (I.hok.fresh (Nat.le_refl _))⟩
 exact ⟨Nat.le_trans (JH xs lo hi) hz,_,(r.drop (HT.cP xs.length 0 lo)).take (HT.cP xs.length xs.length hi - HT.cP xs.length 0 lo),nu.new _ _⟩
def Am (K:PySem.W.Frag):R2:=fun x y H Q=>∃ a b xs ys,x=.ref a/\y=.ref b/\eZ K H a xs/\eZ K H b ys/\xs≠[]/\xs.length + ys.length<=sizeLine /\
 (ys=[]->Q (.ref a) H)/\(ys≠[]->∀ p,H p=none->Q (.ref p) (upd H p (.tup (xs ++ ys))))
theorem Vals.l9 {xs:List V} {us:List Value} (r:Vals xs us):us=[]↔xs=[]:=by
 cases r with
 | nil=>simp
 | cons _ _=>simp
theorem Nq:kZ X (binaryOp .Add) (Am X.K):=by
 intro pins s σ H x y v u Q I rx ry h
 obtain ⟨a,b,xs,ys,rfl,rfl,ha,hb,hx,hz,q1,q2⟩:=h
 cases rx
 cases ry
 obtain ⟨its,r1,p1,_⟩:=I.tuple ha
 obtain ⟨its2,r2,p2,_⟩:=I.tuple hb
 refine HT.Ni p1 p2 (fun z=>hx (r1.l9.mp z)) (fun z=>⟨.ref a,H,I,rfl,q1 (r2.l9.mp z)⟩) (fun z=>?_) (by rw [<- r1.length,<- r2.length];exact hz)
 refine ⟨.ref s.heap.objs.size,_,I.laid (t':=s.toks) (o:=.tup (xs ++ ys)) (fun b ob q=>Heap.get?_push_of_some _ q) (Nat.le_refl _) ?_,rfl,q2 (fun w=>z (r2.l9.mpr w)) _ (I.hok.fresh (Nat.le_refl _))⟩
 exact ⟨by rw [List.length_append];exact hz,_,r1.append r2,nu.new _ _⟩
end
end L2
namespace L2
open PySem PySem.Spec PyProof.Rows
def j5 (n:Nat) (i:Int):Option Nat:=if 0<=i then (if i < n then some i.toNat else none) else if -(n:Int)<=i then some (i + n).toNat else none
def gj {α:Type} (xs:List α) (i:Int):Option α:=(j5 xs.length i).bind fun j=>xs[j]?
theorem F8 {n:Nat} {i:Int} {j:Nat} (h:j5 n i=some j):seqIndex? i n=some j/\j < n/\-(n:Int)<=i/\i < n:=by
 unfold j5 at h
 by_cases h0:0<=i
 ·rw [if_pos h0] at h
  by_cases h1:i < n
  ·rw [if_pos h1] at h
   have e:i.toNat=j:=Option.some.inj h
   exact ⟨by rw [seqIndex_of h0 h1,e],by omega,by omega,h1⟩
  ·rw [if_neg h1] at h;cases h
 ·rw [if_neg h0] at h
  by_cases h1:-(n:Int)<=i
  ·rw [if_pos h1] at h
   have e:(i + n).toNat=j:=Option.some.inj h
   exact ⟨by rw [seqIndex_neg (by omega) h1,e],by omega,h1,by omega⟩
  ·rw [if_neg h1] at h;cases h
theorem JI {α:Type} {xs:List α} {i:Int} {v:α} (h:gj xs i=some v):∃ j,seqIndex? i xs.length=some j/\xs[j]?=some v/\j < xs.length/\-(xs.length:Int)<=i/\i < xs.length:=by
 unfold gj at h
 cases e:j5 xs.length i with
 | none=>rw [e] at h;cases h
 | some j =>
  rw [e] at h
  obtain ⟨h1,h2,h3,h4⟩:=F8 e
  exact ⟨j,h1,h,h2,h3,h4⟩
theorem Du {α:Type} {xs:List α} {j:Nat} {v:α} (h:xs[j]?=some v):gj xs (j:Int)=some v:=by
 have hj:j < xs.length:=(List.getElem?_eq_some_iff.mp h).1
 have e:j5 xs.length (j:Int)=some j:=by
  unfold j5
  rw [if_pos (by omega),if_pos (by omega)];simp
 unfold gj;rw [e];exact h
def sG (b:Expr):Prop:=∀ o i,subscripted b false o i=operate [o,i] (getItem o i)
def An (X:Cx) (r:R2):Prop :=
 ∀ (value slice:Expr) (pins:List (Addr×Obj)) (s:Shared) (σ:St) (H:Hp) (x y:V) (v u:Value) (Q:VK),Inv X pins σ H s->RelV x v->RelV y u->r x y H Q ->
  subscripted slice false v u=operate [v,u] (getItem v u)->wpAny (model X.prog X.w) X.A (subscriptTail value slice v u) (EP X pins σ Q) X.xe s
def Dw (X:Cx) (id:String) (r:V->List V->Hp->VK->Prop):Prop :=
 ∀ (pins:List (Addr×Obj)) (s:Shared) (σ:St) (H:Hp) (x:V) (xs:List V) (v:Value) (us:List Value) (Q:VK),Inv X pins σ H s->RelV x v->Vals xs us->r x xs H Q ->
  wpAny (model X.prog X.w) X.A (call (.builtin id) (v :: us)) (EP X pins σ Q) X.xe s
section
variable {X:Cx} {a b:Expr} {ta tb:TE} {pos:Pos}
theorem a9 {r:R2} (hr:An X r) (ha:PE X a ta) (hb:PE X b tb) (hs:sG b):PE X (.Subscript a b pos) (Aa r ta tb):=by
 intro pins s σ H Q I h
 exact Subscript_ (vQ ha hb I h fun v u s2 x y H2 I2 rx ry q=>hr a b pins s2 σ H2 x y v u Q I2 rx ry q (hs _ _))
def vW (K:PySem.W.Frag):R2:=fun x y H Q=>∃ p xs i v,x=.ref p/\y=.int i/\jg K H p xs/\gj xs i=some v/\Q v H
def vX (K:PySem.W.Frag):R2:=fun x y H Q=>∃ p xs i v,x=.ref p/\y=.int i/\eZ K H p xs/\gj xs i=some v/\Q v H
theorem kG:An X (vW X.K):=by
 intro value slice pins s σ H x y v u Q I rx ry h hs
 obtain ⟨p,xs,i,z,rfl,rfl,hq,he,q⟩:=h
 cases rx
 obtain ⟨t,rfl⟩:=ry
 obtain ⟨its,r,pl,hz⟩:=I.list hq
 obtain ⟨j,h1,h2,h3,h4,h5⟩:=JI he
 obtain ⟨w,ew,rw'⟩:=r.get h2
 have hl:=r.length
 have hn:=lb
 have fin:EP X pins σ Q w s:=⟨z,H,I,rw',q⟩
 by_cases h0:0<=i
 ·have hj:i.toNat=j:=by
   rw [seqIndex_of h0 h5] at h1
   exact Option.some.inj h1
  exact item_listR pl.isList h0 (by omega) (by rw [hj];simpa using ew) fin hs
 ·have hj:(i + (its.toArray.size:Int)).toNat=j:=by
   rw [seqIndex_neg (by omega) h4] at h1
   rw [List.size_toArray,<- hl]
   exact Option.some.inj h1
  exact subscriptTail_builtinR (x:=w) pl.isList.typeIs slot_list_getitem.lookup
   (wpAny_getItem_list_neg (Q:=fun r s'=>r=w/\EP X pins σ Q r s') pl.isList (by omega) (by rw [List.size_toArray] <;> omega) (by omega) (by rw [hj];simpa using ew) ⟨rfl,fin⟩) hs
theorem bI:An X (vX X.K):=by
 intro value slice pins s σ H x y v u Q I rx ry h hs
 obtain ⟨p,xs,i,z,rfl,rfl,hq,he,q⟩:=h
 cases rx
 obtain ⟨t,rfl⟩:=ry
 obtain ⟨its,r,pl,hz⟩:=I.tuple hq
 obtain ⟨j,h1,h2,h3,h4,h5⟩:=JI he
 obtain ⟨w,ew,rw'⟩:=r.get h2
 have hl:=r.length
 have hn:=lb
 have fin:EP X pins σ Q w s:=⟨z,H,I,rw',q⟩
 exact subscriptTail_builtinR (x:=w) pl.typeIs slot_tuple_getitem.lookup
  (getItem_tuple (j:=j) (Q:=fun r s'=>r=w/\EP X pins σ Q r s') pl (by omega) (by omega) (by rw [List.size_toArray,<- hl];exact h1) (by simpa using ew) ⟨rfl,fin⟩) hs
theorem Nr (its:List Value) (n j:Nat) (u:Value):Obj.mapSeq (·.setIfInBounds j u) { cls:=.type "list",data:=.seq its.toArray n }={ cls:=.type "list",data:=.seq (its.set j u).toArray n }:=by
 simp [Obj.mapSeq]
theorem Inv.lst {pins:List (Addr×Obj)} {σ:St} {H:Hp} {s:Shared} {p:Addr} {xs:List V} (I:Inv X pins σ H s) (h:H p=some (.lst xs)) :
  ∃ (its:List Value) (n:Nat),Vals xs its/\s.heap.get? p=some { cls:=.type "list",data:=.seq its.toArray n }/\xs.length<=sizeLine:=by
 obtain ⟨z,its,n,r,e⟩:=I.hok p _ h
 exact ⟨its,n,r,e,z⟩
theorem Inv.vY {pins:List (Addr×Obj)} {σ:St} {H:Hp} {s:Shared} {p:Addr} {xs ys:List V} {its its':List Value} {n n':Nat} {f:Obj->Obj} (I:Inv X pins σ H s) (h:H p=some (.lst xs))
  (ho:s.heap.get? p=some { cls:=.type "list",data:=.seq its.toArray n }) (hf:f { cls:=.type "list",data:=.seq its.toArray n }={ cls:=.type "list",data:=.seq its'.toArray n' }) (r:Vals ys its') (hz:ys.length<=sizeLine) (t:Nat) :
  Inv X pins σ (upd H p (.lst ys)) { s with heap:=s.heap.update p f,toks:=t }:=by
 have e:(s.heap.update p f).get? p=some { cls:=.type "list",data:=.seq its'.toArray n' }:=by
  rw [Heap.get?_update_self f ho (by rw [hf] <;> rfl),hf]
 refine I.write (x:=p) (e:=p) (by rw [h];trivial) (.inl rfl) (fun b u hb q=>(Heap.get?_update_other _ _ (Ne.symm hb)).trans q) ⟨_,e⟩ ?_
 exact ⟨hz,its',n',r,e⟩
def uz:V->V->V->Hp->(Hp->Prop)->Prop:=fun o i v H Q=>∃ p xs k j,o=.ref p/\i=.int k/\H p=some (.lst xs)/\j5 xs.length k=some j/\Q (upd H p (.lst (xs.set j v)))
theorem pz:zT X uz:=by
 intro pins s σ H o i v ov iv u Q I ro ri rv h
 obtain ⟨p,xs,k,j,rfl,rfl,hp,hj,q⟩:=h
 cases ro
 obtain ⟨t,rfl⟩:=ri
 obtain ⟨its,n,r,ho,hz⟩:=I.lst hp
 obtain ⟨h1,h2,h3,h4⟩:=F8 hj
 have hl:=r.length
 have hn:=lb
 have I':Inv X pins σ (upd H p (.lst (xs.set j v))) { s with heap:=s.heap.update p (Obj.mapSeq (·.setIfInBounds j u)) } :=
  I.vY hp ho (Nr its n j u) (r.set rv j) (by rw [List.length_set];exact hz) s.toks
 by_cases h0:0<=k
 ·have hk:k.toNat=j:=by
   rw [seqIndex_of h0 h4] at h1
   exact Option.some.inj h1
  exact PySem.W.ki_setAt ho h0 (by omega) (by rw [List.size_toArray,<- hl];exact h4) (by rw [hk];exact ⟨_,I',q⟩)
 ·have hk:(k + (its.toArray.size:Int)).toNat=j:=by
   rw [seqIndex_neg (by omega) h3] at h1
   rw [List.size_toArray,<- hl]
   exact Option.some.inj h1
  exact PySem.W.ki_setBack ho (by omega) (by rw [List.size_toArray,<- hl];exact h3) (by omega) (by rw [hk];exact ⟨_,I',q⟩)
theorem Nt (lo hi:Option Int) (n:Nat):(sliceBounds lo hi none n).1=((HT.cP n 0 lo:Nat):Int)/\(sliceBounds lo hi none n).2.1=((HT.cP n n hi:Nat):Int)/\(sliceBounds lo hi none n).2.2=1:=by
 refine ⟨?_,?_,rfl⟩
 ·cases lo with
  | none=>simp [sliceBounds,HT.cP]
  | some i =>
   simp only [sliceBounds,HT.cP,Option.getD_none,show (1:Int) > 0 by decide,if_true]
   by_cases h:i < 0
   ·simp only [h,if_true] <;> omega
   ·simp only [h,if_false] <;> omega
 ·cases hi with
  | none=>simp [sliceBounds,HT.cP]
  | some i =>
   simp only [sliceBounds,HT.cP,Option.getD_none,show (1:Int) > 0 by decide,if_true]
   by_cases h:i < 0
   ·simp only [h,if_true] <;> omega
   ·simp only [h,if_false] <;> omega
theorem Nu (its:List Value) (lo hi:Option Int):slicePick its.toArray lo hi none=((its.drop (HT.cP its.length 0 lo)).take (HT.cP its.length its.length hi - HT.cP its.length 0 lo)).toArray:=by
 obtain ⟨h1,h2,h3⟩:=Nt lo hi its.toArray.size
 unfold slicePick
 rw [h1,h2,h3]
 simp only [sliceRange_one,pick_run,List.size_toArray] <;> rfl
def Ao (K:PySem.W.Frag):V->Option Int->Option Int->Hp->VK->Prop:=fun x lo hi H Q=>∃ a xs,x=.ref a/\jg K H a xs/\∀ p,H p=none->Q (.ref p) (upd H p (.lst (mB xs lo hi)))
theorem Dx:Dt X (Ao X.K):=by
 intro pins s σ H x v vl vu lo hi sl Q I rx hs pl pu h
 obtain ⟨a,xs,rfl,hx,q⟩:=h
 cases rx
 obtain ⟨its,r,ht,hz⟩:=I.list hx
 have hlen:=r.length
 refine ⟨"list",_,slot_list_getitem.lookup,ht.isList.typeIs,?_⟩
 refine wpAny_getItem_list_slice ht.isList hs pl pu .none (by simp) ?_ (by rw [List.size_toArray] <;> omega)
 rw [Nu,<- hlen]
 refine ⟨.ref s.heap.objs.size,_,I.laid (t':=s.toks) (o:=.lst (mB xs lo hi)) (fun b ob q=>Heap.get?_push_of_some _ q) (Nat.le_refl _) ?_,rfl,q _ (I.hok.fresh (Nat.le_refl _))⟩
 exact ⟨Nat.le_trans (JH xs lo hi) hz,_,0,(r.drop (HT.cP xs.length 0 lo)).take (HT.cP xs.length xs.length hi - HT.cP xs.length 0 lo),Heap.get?_push_size _ rfl⟩
def j6:V->Bool
 | .non=>true
 | .bl _=>true
 | .int _=>true
 | .str _=>true
 | _=>false
def uA:V->V->Bool
 | .non,.non=>true
 | .bl a,.bl b=>a == b
 | .bl a,.int b=>(if a then 1 else 0) == b
 | .int a,.bl b=>a == (if b then 1 else 0)
 | .int a,.int b=>a == b
 | .str a,.str b=>a == b
 | _,_=>false
theorem vZ {A:Around} {s:Shared} {y x:V} {u v:Value} (ry:RelV y u) (rx:RelV x v) (fy:j6 y=true) (fx:j6 x=true):SeqAt.EqAt A s u v (uA y x):=by
 cases y with
 | non =>
  cases ry
  cases x with
  | non=>cases rx;exact SeqAt.EqAt.same _
  | bl b=>cases rx;exact SeqAt.EqAt.none_bool b
  | int b=>obtain ⟨t,rfl⟩:=rx;exact SeqAt.EqAt.none_int b t
  | str b=>obtain ⟨t,rfl⟩:=rx;exact SeqAt.EqAt.none_str b t
  | _=>exact absurd (show false=true from fx) Bool.false_ne_true
 | bl a =>
  cases ry
  cases x with
  | non=>cases rx;exact SeqAt.EqAt.bool_none a
  | bl b=>cases rx;exact SeqAt.EqAt.bool_bool a b
  | int b=>obtain ⟨t,rfl⟩:=rx;exact SeqAt.EqAt.bool_int a b t
  | str b=>obtain ⟨t,rfl⟩:=rx;exact SeqAt.EqAt.bool_str a b t
  | _=>exact absurd (show false=true from fx) Bool.false_ne_true
 | int a =>
  obtain ⟨t',rfl⟩:=ry
  cases x with
  | non=>cases rx;exact SeqAt.EqAt.int_none a t'
  | bl b=>cases rx;exact SeqAt.EqAt.int_bool a t' b
  | int b=>obtain ⟨t,rfl⟩:=rx;exact SeqAt.EqAt.int_int a t' b t
  | str b=>obtain ⟨t,rfl⟩:=rx;exact SeqAt.EqAt.int_str a t' b t
  | _=>exact absurd (show false=true from fx) Bool.false_ne_true
 | str a =>
  obtain ⟨t',rfl⟩:=ry
  cases x with
  | non=>cases rx;exact SeqAt.EqAt.str_none a t'
  | bl b=>cases rx;exact SeqAt.EqAt.str_bool a t' b
  | int b=>obtain ⟨t,rfl⟩:=rx;exact SeqAt.EqAt.str_int a t' b t
  | str b=>obtain ⟨t,rfl⟩:=rx;exact SeqAt.EqAt.str_str a t' b t
  | _=>exact absurd (show false=true from fx) Bool.false_ne_true
 | _=>exact absurd (show false=true from fy) Bool.false_ne_true
def sH (x:V) (u:Value):Bool:=match u with
 | .none=>uA .non x
 | .bool b=>uA (.bl b) x
 | .int i _=>uA (.int i) x
 | .str z _=>uA (.str z) x
 | _=>false
theorem JJ {x y:V} {u:Value} (r:RelV y u) (f:j6 y=true):sH x u=uA y x:=by
 cases y with
 | non=>cases r;rfl
 | bl b=>cases r;rfl
 | int i=>obtain ⟨t,rfl⟩:=r;rfl
 | str z=>obtain ⟨t,rfl⟩:=r;rfl
 | _=>exact absurd (show false=true from f) Bool.false_ne_true
theorem F9 {x:V}:∀ {xs:List V} {us:List Value},Vals xs us->xs.all j6=true->us.any (sH x)=xs.any fun y=>uA y x
 | _,_,.nil,_=>rfl
 | y :: xs,u :: us,.cons r t,f=>by
  rw [List.all_cons,Bool.and_eq_true] at f
  rw [List.any_cons,List.any_cons,JJ r f.1,F9 t f.2]
theorem Ga {A:Around} {s:Shared} {x:V} {v:Value} (rx:RelV x v) (fx:j6 x=true):∀ {xs:List V} {us:List Value},Vals xs us->xs.all j6=true->∀ u∈us,SeqAt.EqAt A s u v (sH x u)
 | _,_,.nil,_=>fun u hu=>by cases hu
 | y :: xs,u :: us,.cons r t,f=>fun u' hu=>by
  rw [List.all_cons,Bool.and_eq_true] at f
  rcases List.mem_cons.mp hu with rfl | hu
  ·rw [JJ r f.1];exact vZ r rx f.1 fx
  ·exact Ga rx fx t f.2 u' hu
def uB (x:V) (xs:List V):Bool:=xs.any fun y=>uA y x
def Gb (K:PySem.W.Frag) (neg:Bool):R2:=fun x y H Q=>∃ p xs,y=.ref p/\(jg K H p xs\/eZ K H p xs)/\j6 x=true/\xs.all j6=true/\Q (.bl (if neg then !uB x xs else uB x xs)) H
theorem JK:kZ X (compareOp .NotIn) (Gb X.K true):=by
 intro pins s σ H x y v u Q I rx ry h
 obtain ⟨p,xs,rfl,hq,fx,fs,q⟩:=h
 cases ry
 rcases hq with hq | hq
 ·obtain ⟨its,r,pl,hz⟩:=I.list hq
  refine SeqAt.notIn_listAt (sH x) pl.isList (fun w hw=>Ga rx fx r fs w (by simpa using hw)) ⟨.bl _,H,I,rfl,?_⟩
  rw [show its.toArray.any (sH x)=its.any (sH x) by simp,F9 r fs]
  exact q
 ·obtain ⟨its,r,pl,hz⟩:=I.tuple hq
  refine SeqAt.notIn_tupleAt (sH x) pl (fun w hw=>Ga rx fx r fs w (by simpa using hw)) ⟨.bl _,H,I,rfl,?_⟩
  rw [show its.toArray.any (sH x)=its.any (sH x) by simp,F9 r fs]
  exact q
theorem lJ:hJ X (.builtin "len") (fun xs H Q=>∃ p ys,xs=[.ref p]/\(jg X.K H p ys\/eZ X.K H p ys)/\Q (.int ys.length) H):=by
 intro pins s σ H xs us Q I r h
 obtain ⟨p,ys,rfl,hq,q⟩:=h
 obtain ⟨u,rfl,rx⟩:=vals1 r
 cases rx
 have hn:=lb
 rcases hq with hq | hq
 ·obtain ⟨its,r',pl,hz⟩:=I.list hq
  have hlen:=r'.length
  exact Calls.call_len_list pl.isList (by simp only [List.size_toArray] <;> omega) ⟨.int ys.length,H,I.tok _,⟨s.toks + 1,by rw [List.size_toArray,hlen]⟩,q⟩
 ·obtain ⟨its,r',pl,hz⟩:=I.tuple hq
  have hlen:=r'.length
  exact len_tuple pl (by simp only [List.size_toArray] <;> omega) ⟨.int ys.length,H,I.tok _,⟨s.toks + 1,by rw [List.size_toArray,hlen]⟩,q⟩
theorem Ap:hJ X (.type "list") (fun xs H Q=>∃ p ys,xs=[.ref p]/\(jg X.K H p ys\/eZ X.K H p ys)/\∀ l,H l=none->Q (.ref l) (upd H l (.lst ys))):=by
 intro pins s σ H xs us Q I r h
 obtain ⟨p,ys,rfl,hq,q⟩:=h
 obtain ⟨u,rfl,rx⟩:=vals1 r
 cases rx
 have fin:∀ (its:List Value),Vals ys its->ys.length<=sizeLine->∀ (h':Heap) (c':Nat),(∀ b o',s.heap.get? b=some o'->h'.get? b=some o') ->
   h'.get? s.heap.objs.size=some { cls:=.type "list",dict:=none,data:=.seq its.toArray c',slots:=#[] }->EP X pins σ Q (.ref s.heap.objs.size) { s with heap:=h' }:=fun its r' hz h' c' kp e =>
  ⟨.ref s.heap.objs.size,_,I.laid (t':=s.toks) kp (Nat.le_refl _) (show cb X.prog X.w _ h' _ (.lst ys) from ⟨hz,its,c',r',e⟩),rfl,q _ (I.hok.fresh (Nat.le_refl _))⟩
 rcases hq with hq | hq
 ·obtain ⟨its,r',pl,hz⟩:=I.list hq
  have hlen:=r'.length
  obtain ⟨o,ho,hc,n,hd⟩:=pl.isList
  exact call_list_seq p (.inl rfl) ho hc hd (fun h' c' kp e=>fin its r' hz h' c' kp e) (by simp only [List.size_toArray] <;> omega)
 ·obtain ⟨its,r',pl,hz⟩:=I.tuple hq
  have hlen:=r'.length
  obtain ⟨o,ho,hc,n,hd⟩:=pl
  exact call_list_seq p (.inr rfl) ho hc hd (fun h' c' kp e=>fin its r' hz h' c' kp e) (by simp only [List.size_toArray] <;> omega)
theorem n6:hJ X (.type "tuple") (fun xs H Q=>∃ p ys,xs=[.ref p]/\((jg X.K H p ys/\∀ l,H l=none->Q (.ref l) (upd H l (.tup ys)))\/(eZ X.K H p ys/\Q (.ref p) H))):=by
 intro pins s σ H xs us Q I r h
 obtain ⟨p,ys,rfl,h⟩:=h
 obtain ⟨u,rfl,rx⟩:=vals1 r
 cases rx
 rcases h with ⟨hq,q⟩ | ⟨hq,q⟩
 ·obtain ⟨its,r',pl,hz⟩:=I.list hq
  have hlen:=r'.length
  refine call_tuple_list pl.isList (fun h' kp=>?_) (by simp only [List.size_toArray] <;> omega)
  have I1:Inv X pins σ H { s with heap:=h' }:=I.kept (t':=s.toks) kp
  have I2:Inv X pins σ (upd H h'.objs.size (.tup ys)) { s with heap:=h'.push { cls:=.type "tuple",data:=.seq its.toArray } } :=
   I1.laid (t':=s.toks) (fun b o e=>Heap.get?_push_of_some _ e) (Nat.le_refl _) (show cb X.prog X.w _ _ _ (.tup ys) from ⟨hz,its,r',nu.new _ _⟩)
  exact ⟨.ref h'.objs.size,_,I2,rfl,q _ (I1.hok.fresh (Nat.le_refl _))⟩
 ·obtain ⟨its,r',pl,hz⟩:=I.tuple hq
  exact call_tuple_same pl ⟨.ref p,H,I,rfl,q⟩
def Gd (K:PySem.W.Frag) (T:String) (x:V) (H:Hp):Prop:=match x with
 | .str _=>T="str"
 | .int _=>T="int"
 | .ref p=>(T="list" /\ ∃ xs,jg K H p xs)\/(T="tuple" /\ ∃ xs,eZ K H p xs) \/
   (T="dict" /\ ((∃ kvs,H p=some (.dK kvs))\/∃ kvs,H p=some (.dT kvs)))\/(T="set" /\ ∃ S n,H p=some (.set S n))
 | _=>False
theorem wa {pins:List (Addr×Obj)} {σ:St} {H:Hp} {s:Shared} {T:String} {x:V} {v:Value} (I:Inv X pins σ H s) (r:RelV x v) (ty:Gd X.K T x H) :
  s.TypeIs v T/\∀ a,v=.ref a->∃ ob,s.heap.get? a=some ob/\ob.dict=none:=by
 cases x with
 | str z =>
  obtain ⟨t,rfl⟩:=r
  cases (show T="str" from ty)
  exact ⟨typeIs_str s z t,fun _ e=>nomatch e⟩
 | int i =>
  obtain ⟨t,rfl⟩:=r
  cases (show T="int" from ty)
  exact ⟨typeIs_int s i t,fun _ e=>nomatch e⟩
 | ref p =>
  cases r
  rcases ty with ⟨rfl,xs,hq⟩ | ⟨rfl,xs,hq⟩ | ⟨rfl,hk⟩ | ⟨rfl,S,n,hk⟩
  ·obtain ⟨its,_,pl,_⟩:=I.list hq
   refine ⟨pl.isList.typeIs,fun a e=>?_⟩
   cases e
   obtain ⟨o,n,e,c,hd,_⟩:=pl
   exact ⟨o,e,hd⟩
  ·obtain ⟨its,_,⟨o,e,c,d,_⟩,_⟩:=I.nA hq
   refine ⟨⟨o,e,c⟩,fun a e2=>?_⟩
   cases e2
   exact ⟨o,e,d⟩
  ·have z:∃ o,s.heap.get? p=some o/\o.ExactDict:=by
    rcases hk with ⟨kvs,hk⟩ | ⟨kvs,hk⟩
    ·obtain ⟨_,_,_,_,o,_,_,e,ex,_⟩:=I.hok p _ hk
     exact ⟨o,e,ex⟩
    ·obtain ⟨_,_,_,_,o,_,_,e,ex,_⟩:=I.hok p _ hk
     exact ⟨o,e,ex⟩
   obtain ⟨o,e,ex⟩:=z
   refine ⟨⟨o,e,ex.1⟩,fun a e2=>?_⟩
   cases e2
   exact ⟨o,e,ex.2.1⟩
  ·obtain ⟨o,_,_,_,e,ex,_⟩:=I.hok p _ hk
   refine ⟨⟨o,e,ex.1⟩,fun a e2=>?_⟩
   cases e2
   exact ⟨o,e,ex.2.1⟩
 | _=>exact False.elim ty
def Ge (K:PySem.W.Frag) (T:String) (r:V->List V->Hp->VK->Prop) (to:TE) (t:TA):TE:=fun σ H Q=>to σ H fun x H1=>Gd K T x H1/\t σ H1 fun xs H2=>r x xs H2 Q
variable {o e:Expr} {es:List Expr} {to:TE} {t:TA} {name:Str} {apos cpos:Pos} {T id:String} {r:V->List V->Hp->VK->Prop}
theorem pZ (pa:PlainAttrs T) (slot:Slot T name id) (hty:typeOf (.builtin id)=pure (.type "method_descriptor")) (hm:Dw X id r) (ho:PE X o to) (ha:PA X (e :: es) t)
  (hbase:attributeBase o name X.env (eval o X.env)=eval o X.env:=by rfl)
  (hfew:((backTo cpos (starEach (e :: es) X.env)).all (fun x=>!x.1) && (backToKw cpos (keywordEach [] X.env)).all (fun x=>x.1.isSome)
   && decide ((e :: es).length + ([]:List Keyword).length + (if ([]:List Keyword).isEmpty then 0 else 1) < 30))=true:=by rfl)
  (hline:(apos.endLine == cpos.line)=true:=by rfl) (hs:starEach (e :: es) X.env=(false,eval e X.env) :: starEach es X.env:=by rfl) (hplain:(backTo cpos (starEach es X.env)).any (·.1)=false:=by rfl) :
  PE X (.Call (.Attribute o name apos) (e :: es) [] cpos) (Ge X.K T r to t):=by
 intro pins s σ H Q I h
 refine wpAny_Call_method_late hbase hfew hline rfl (cC (ho pins s σ H _ I h) fun v s1 ⟨x,H1,I1,r1,ty,q1⟩=>?_)
 obtain ⟨h1,h2⟩:=wa I1 r1 ty
 refine ⟨T,id,pa,slot,hty,h1,h2,?_⟩
 have hA:=ha cpos pins s1 σ H1 _ I1 q1
 rw [hs] at hA ⊢
 refine Calls.callWith_builtin (by show (false || (backTo cpos (starEach es X.env)).any (·.1))=false;rw [hplain] <;> rfl) (Calls.evalArgs_plain ?_)
 exact cC hA fun us s2 ⟨vs,H2,I2,r2,q2⟩=>hm pins s2 σ H2 x vs v us Q I2 r1 r2 q2
end
end L2
namespace L2
open PySem PySem.Spec PyProof.Rows
def Gg (X:Cx) (id:String) (r:V->List V->Hp->VK->Prop):Prop :=
 ∀ (pins:List (Addr×Obj)) (s:Shared) (σ:St) (H:Hp) (x:V) (xs:List V) (v:Value) (us:List Value) (Q:VK),Inv X pins σ H s->RelV x v->Vals xs us->r x xs H Q ->
  wpAny (model X.prog X.w) X.A (call (.builtin id) (v :: us)) (EP X pins σ Q) X.xe s
theorem Vals.one:∀ {x:V} {us:List Value},Vals [x] us->∃ u,us=[u]/\RelV x u
 | _,_,.cons r .nil=>⟨_,rfl,r⟩
theorem Vals.eraseIdx:∀ {xs:List V} {us:List Value} (i:Nat),Vals xs us->Vals (xs.eraseIdx i) (us.eraseIdx i)
 | _,_,_,.nil=>.nil
 | _,_,0,.cons _ t=>t
 | _,_,i + 1,.cons r t=>.cons r (Vals.eraseIdx i t)
theorem Vals.rep {xs:List V} {us:List Value} (h:Vals xs us):∀ k:Nat,Vals (List.replicate k xs).flatten (List.replicate k us).flatten
 | 0=>.nil
 | k + 1=>by
  rw [List.replicate_succ,List.replicate_succ,List.flatten_cons,List.flatten_cons]
  exact Vals.append h (Vals.rep h k)
theorem JL {α:Type}:∀ (l:List α) (i:Nat),(l.eraseIdx i).length<=l.length
 | [],_=>Nat.le_refl _
 | _ :: _,0=>Nat.le_succ _
 | _ :: r,i + 1=>Nat.succ_le_succ (JL r i)
theorem JM (its:List Value):∀ (k:Nat) (acc:List Value),
  List.foldl (fun x1 x2=>x1 ++ x2) acc.toArray (List.replicate k its.toArray)=(acc ++ (List.replicate k its).flatten).toArray
 | 0,acc=>by simp
 | k + 1,acc=>by
  have e:acc.toArray ++ its.toArray=(acc ++ its).toArray:=by simp
  have e2:(acc ++ its) ++ (List.replicate k its).flatten=acc ++ (List.replicate (k + 1) its).flatten:=by
   rw [List.replicate_succ,List.flatten_cons,List.append_assoc]
  rw [<- e2,<- JM its k (acc ++ its),<- e,List.replicate_succ,List.foldl_cons]
section
variable {X:Cx} {pins:List (Addr×Obj)} {σ:St} {H:Hp} {s:Shared} {l b:Addr} {xs ys zs:List V}
theorem Inv.wb {its its':List Value} {n:Nat} {f:Array Value->Array Value} {t':Nat} (I:Inv X pins σ H s) (hH:H l=some (.lst xs))
  (e:s.heap.get? l=some { cls:=.type "list",data:=.seq its.toArray n }) (hf:f its.toArray=its'.toArray) (hv:Vals ys its') (hz:ys.length<=sizeLine) :
  Inv X pins σ (upd H l (.lst ys)) { s with heap:=s.heap.update l (Obj.mapSeq f),toks:=t' }:=by
 have q:=PySem.IsL.update e f
 rw [hf] at q
 refine I.write (x:=l) (e:=l) (by rw [hH];exact trivial) (.inl rfl) (fun b' u hb hu=>(Heap.get?_update_other s.heap (Obj.mapSeq f) (Ne.symm hb)).trans hu) ⟨_,q⟩ ?_
 exact ⟨hz,its',_,hv,q⟩
theorem Inv.Aq {its:List Value} {t':Nat} (I:Inv X pins σ H s) (hv:Vals ys its) (hz:ys.length<=sizeLine) :
  Inv X pins σ (upd H s.heap.objs.size (.lst ys)) { s with heap:=s.heap.push { cls:=.type "list",data:=.seq its.toArray },toks:=t' } :=
 I.laid (fun _ _ q=>Heap.get?_push_of_some _ q) (Nat.le_refl _) ⟨hz,its,0,hv,Heap.get?_push_size _ rfl⟩
theorem Inv.fresh (I:Inv X pins σ H s):H s.heap.objs.size=none:=I.hok.fresh (Nat.le_refl _)
theorem Inv.oS (I:Inv X pins σ H s) (hH:H l=some (.lst xs)):xs.length<=sizeLine/\∃ (its:List Value) (n:Nat),Vals xs its/\xs.length=its.length/\s.heap.get? l=some { cls:=.type "list",data:=.seq its.toArray n }:=by
 obtain ⟨z,its,n,r,e⟩:=I.hok l _ hH
 exact ⟨z,its,n,r,r.length,e⟩
theorem oo {n:Nat} (h:n<=sizeLine):Builtin.List.listTooLong n=false:=by
 unfold Builtin.List.listTooLong
 exact decide_eq_false (by omega)
end
section
variable {X:Cx}
def pA:V->List V->Hp->VK->Prop:=fun x vs H Q=>∃ l xs y,x=.ref l/\vs=[y]/\H l=some (.lst xs)/\xs.length < sizeLine/\Q .non (upd H l (.lst (xs ++ [y])))
theorem sI:Gg X "list.append" pA:=by
 intro pins s σ H x vs v us Q I rx rv h
 obtain ⟨l,xs,y,rfl,rfl,hH,hz,q⟩:=h
 cases rx
 obtain ⟨u,rfl,ru⟩:=rv.one
 obtain ⟨z,its,n,r,hl,e⟩:=I.oS hH
 refine call_meets F.slot_list_append ⟨_,e,rfl⟩ F.entry_list_append (F.args_list_append_2 _ _) (PySem.list_append l its.toArray n u (by rw [List.size_toArray];omega)) ⟨e,?_⟩
 refine ⟨.non,_,I.wb (its':=its ++ [u]) hH e (by simp) (r.append (.cons ru .nil)) ?_,rfl,q⟩
 rw [List.length_append,List.length_singleton]
 omega
def pB:V->List V->Hp->VK->Prop:=fun x vs H Q=>∃ l b xs zs,x=.ref l/\vs=[.ref b]/\H l=some (.lst xs)/\H b=some (.lst zs)/\xs.length + zs.length<=sizeLine/\Q .non (upd H l (.lst (xs ++ zs)))
theorem Nv:Gg X "list.extend" pB:=by
 intro pins s σ H x vs v us Q I rx rv h
 obtain ⟨l,b,xs,zs,rfl,rfl,hH,hB,hz,q⟩:=h
 cases rx
 obtain ⟨u,rfl,ru⟩:=rv.one
 cases ru
 obtain ⟨z,its,n,r,hl,e⟩:=I.oS hH
 obtain ⟨z2,its2,n2,r2,hl2,e2⟩:=I.oS hB
 have hsz:its.toArray.size + its2.toArray.size<=sizeLine:=by rw [List.size_toArray,List.size_toArray];omega
 have qC:¬ (!its.toArray.isEmpty && Builtin.List.listTooLong (its.toArray.size + its2.toArray.size))=true:=by
  rw [oo hsz,Bool.and_false]
  exact Bool.false_ne_true
 refine call_meets F.slot_list_extend ⟨_,e,rfl⟩ F.entry_list_extend (F.args_list_extend_2 _ _)
  (AutoSeq1.list_extend_list_list_0 l its.toArray n b its2.toArray n2 qC (by rw [List.size_toArray];omega) (by omega)) ⟨e,e2,?_⟩
 refine ⟨.non,_,I.wb (its':=its ++ its2) hH e (by simp) (r.append r2) ?_,rfl,q⟩
 rw [List.length_append]
 omega
def qD:V->List V->Hp->VK->Prop:=fun x vs H Q=>∃ l xs i k y,x=.ref l/\vs=[.int i]/\H l=some (.lst xs)/\-(2 ^ 63)<=i/\i < 2 ^ 63/\seqIndex? i xs.length=some k/\xs[k]?=some y/\Q y (upd H l (.lst (xs.eraseIdx k)))
theorem Nw:Gg X "list.pop" qD:=by
 intro pins s σ H x vs v us Q I rx rv h
 obtain ⟨l,xs,i,k,y,rfl,rfl,hH,h1,h2,hk,hy,q⟩:=h
 cases rx
 obtain ⟨u,rfl,ru⟩:=rv.one
 obtain ⟨t,rfl⟩:=ru
 obtain ⟨z,its,n,r,hl,e⟩:=I.oS hH
 obtain ⟨w,hw,rw'⟩:=r.get hy
 refine call_meets F.slot_list_pop ⟨_,e,rfl⟩ F.entry_list_pop (F.args_list_pop_2 _ _)
  (MeetsSeq.list_pop_at l its.toArray n i t k w (fitsIndex_both h1 h2) (by rw [List.size_toArray,<- hl];exact hk) (by rw [<- Array.getElem?_toList];exact hw) (by rw [List.size_toArray];omega)) ⟨e,?_⟩
 refine ⟨y,_,I.wb (its':=its.eraseIdx k) hH e ?_ (r.eraseIdx k) ?_,rw',q⟩
 ·show its.toArray.eraseIdxIfInBounds k=(its.eraseIdx k).toArray
  rw [List.eraseIdxIfInBounds_toArray]
 ·have:=JL xs k
  omega
def Ar:R2:=fun x y H Q=>∃ l b xs zs,x=.ref l/\y=.ref b/\H l=some (.lst xs)/\H b=some (.lst zs)/\xs.length + zs.length<=sizeLine/\∀ p,H p=none->Q (.ref p) (upd H p (.lst (xs ++ zs)))
theorem qE:kZ X (binaryOp .Add) Ar:=by
 intro pins s σ H x y v u Q I rx ry h
 obtain ⟨l,b,xs,zs,rfl,rfl,hH,hB,hz,q⟩:=h
 cases rx
 cases ry
 obtain ⟨z,its,n,r,hl,e⟩:=I.oS hH
 obtain ⟨z2,its2,n2,r2,hl2,e2⟩:=I.oS hB
 refine PySem.P.add_list e e2 ?_ (by rw [List.size_toArray,List.size_toArray];omega)
 have ea:its.toArray ++ its2.toArray=(its ++ its2).toArray:=by simp
 rw [ea]
 exact ⟨.ref _,_,I.Aq (t':=s.toks) (r.append r2) (by rw [List.length_append];omega),rfl,q _ I.fresh⟩
def As:R2:=fun x y H Q=>∃ l k xs,x=.ref l/\y=.int k/\H l=some (.lst xs)/\-(2 ^ 63)<=k/\k < 2 ^ 63/\xs.length * k.toNat<=sizeLine /\
 ∀ p,H p=none->Q (.ref p) (upd H p (.lst (List.replicate k.toNat xs).flatten))
theorem Nx {α:Type} (xs:List α) (k:Nat):(List.replicate k xs).flatten.length=k * xs.length:=by
 induction k with
 | zero=>simp
 | succ k ih=>rw [List.replicate_succ,List.flatten_cons,List.length_append,ih,Nat.succ_mul,Nat.add_comm]
theorem yJ:kZ X (binaryOp .Mult) As:=by
 intro pins s σ H x y v u Q I rx ry h
 obtain ⟨l,k,xs,rfl,rfl,hH,h1,h2,hz,q⟩:=h
 cases rx
 obtain ⟨t,rfl⟩:=ry
 obtain ⟨z,its,n,r,hl,e⟩:=I.oS hH
 have hlen:its.toArray.size * k.toNat<=sizeLine:=by rw [List.size_toArray,<- hl];exact hz
 have hcap:¬ its.toArray.size * k.toNat > (2 ^ 63 - 1) / 8:=by
  have:(sizeLine:Nat)<=(2 ^ 63 - 1) / 8:=by decide
  omega
 have hfit:¬ (!Builtin.List.listFitsIndex k)=true:=by
  rw [fitsIndex_both h1 h2]
  exact Bool.false_ne_true
 have qC:¬ Builtin.List.listTooLong (its.toArray.size * k.toNat)=true:=by
  rw [oo hlen]
  exact Bool.false_ne_true
 have hnew:List.foldl (fun x1 x2=>x1 ++ x2) #[] (List.replicate (if its.toArray.isEmpty=true then 0 else k.toNat) its.toArray)=(List.replicate k.toNat its).flatten.toArray:=by
  have f0:∀ m:Nat,List.foldl (fun x1 x2=>x1 ++ x2) #[] (List.replicate m its.toArray)=(List.replicate m its).flatten.toArray:=fun m=>by
   have:=JM its m []
   rw [List.nil_append] at this
   exact this
  rw [f0]
  cases its with
  | nil=>simp
  | cons a r'=>rw [if_neg (by simp)]
 refine wpAny_binaryOp_repeat_ref (T:="list") (U:="int") (by decide) ⟨_,e,rfl⟩ (fun s'=>typeIs_int s' k t) noFill_list_mul F.fills_int_mul F.slot_int_rmul repeat_list F.slot_int_index.lookup
  (call_meets F.slot_int_rmul (typeIs_int s k t) F.entry_int_rmul (F.args_int_rmul_2 _ _) (int___rmul___int_list k t l its.toArray n)
   ⟨e,rfl,⟨_,e,rfl⟩,call_meets F.slot_list_mul ⟨_,e,rfl⟩ F.entry_list_mul (F.args_list_mul_2 _ _) (AutoListH.list___mul___list_int_3 l its.toArray n k t hfit hcap qC) ⟨e,?_⟩⟩)
 rw [hnew]
 exact ⟨.ref _,_,I.Aq (t':=s.toks) (r.rep k.toNat) (by rw [Nx,Nat.mul_comm];exact hz),rfl,q _ I.fresh⟩
end
section
variable {prog:Program} {w:World} {A:Around} {E:Value->Shared->Prop} {s:Shared}
end
section
variable {X:Cx}
end
end L2
namespace L2
open PySem PySem.Spec PyProof.Rows
section
variable {κ:Type} [DecidableEq κ]
def kc (kvs:List (κ×V)) (k:κ):Option V:=(kvs.find? fun kv=>decide (kv.1=k)).map (·.2)
def putK (kvs:List (κ×V)) (k:κ) (v:V):List (κ×V) :=
 if (kvs.any fun kv=>decide (kv.1=k))=true then kvs.map (fun kv=>if kv.1=k then (kv.1,v) else kv) else kvs ++ [(k,v)]
theorem Gh {p:κ×V} {r:List (κ×V)} {k:κ} (e:p.1=k):kc (p :: r) k=some p.2:=by simp [kc,List.find?_cons,e]
theorem Gi {p:κ×V} {r:List (κ×V)} {k:κ} (e:¬ p.1=k):kc (p :: r) k=kc r k:=by simp [kc,List.find?_cons,e]
theorem JN (k:κ):∀ kvs:List (κ×V),(kvs.any fun kv=>decide (kv.1=k))=(kc kvs k).isSome
 | []=>rfl
 | p :: r=>by
  rw [List.any_cons]
  by_cases e:p.1=k
  ·simp only [Gh e,decide_eq_true e,Bool.true_or,Option.isSome_some]
  ·rw [Gi e,decide_eq_false e,Bool.false_or];exact JN k r
theorem Gj (kvs:List (κ×V)) (k:κ) (v:V):(putK kvs k v).length<=kvs.length + 1:=by
 unfold putK
 split
 ·rw [List.length_map];omega
 ·rw [List.length_append,List.length_cons,List.length_nil];omega
theorem mV.lh {o:Option V} {u:Option Value} (r:mV o u):o.isSome=u.isSome:=by
 cases o with
 | none=>cases u with
  | none=>rfl
  | some _=>exact (show False from r).elim
 | some _=>cases u with
  | none=>exact (show False from r).elim
  | some _=>rfl
theorem KV.val {kvs:List (κ×V)} {vs:List (κ×Value)} (r:KV kvs vs) (k:κ):mV (kc kvs k) (valueAt vs k):=by
 unfold KV at r
 induction r with
 | nil=>exact True.intro
 | @cons p q ps qs h t ih =>
  obtain ⟨h1,h2⟩:=h
  by_cases e:p.1=k
  ·have e':q.1=k:=h1.symm.trans e
   have b:valueAt (q :: qs) k=some q.2:=by simp [valueAt,List.find?_cons,e']
   rw [Gh e,b];exact h2
  ·have e':¬ q.1=k:=fun z=>e (h1.trans z)
   have b:valueAt (q :: qs) k=valueAt qs k:=by simp [valueAt,List.find?_cons,e']
   rw [Gi e,b];exact ih
theorem KV.any {kvs:List (κ×V)} {vs:List (κ×Value)} (r:KV kvs vs) (k:κ):(kvs.any fun kv=>decide (kv.1=k))=vs.any fun kv=>decide (kv.1=k):=by
 unfold KV at r
 induction r with
 | nil=>rfl
 | cons h t ih=>rw [List.any_cons,List.any_cons,ih,h.1]
theorem KV.repl {kvs:List (κ×V)} {vs:List (κ×Value)} (r:KV kvs vs) (k:κ) {y:V} {u:Value} (ry:RelV y u) :
  KV (kvs.map fun kv=>if kv.1=k then (kv.1,y) else kv) (vs.map fun kv=>if kv.1=k then (kv.1,u) else kv):=by
 unfold KV at r ⊢
 induction r with
 | nil=>exact .nil
 | @cons p q ps qs h t ih =>
  rw [List.map_cons,List.map_cons]
  refine .cons ?_ ih
  obtain ⟨h1,h2⟩:=h
  by_cases e:p.1=k
  ·rw [if_pos e,if_pos (h1.symm.trans e)];exact ⟨h1,ry⟩
  ·rw [if_neg e,if_neg (fun z=>e (h1.trans z))];exact ⟨h1,h2⟩
theorem KV.put {kvs:List (κ×V)} {vs:List (κ×Value)} (r:KV kvs vs) (k:κ) {y:V} {u:Value} (ry:RelV y u):KV (putK kvs k y) (stored vs k u):=by
 unfold putK stored
 rw [r.any k]
 by_cases e:(vs.any fun kv=>decide (kv.1=k))=true
 ·rw [if_pos e,if_pos e];exact r.repl k ry
 ·rw [if_neg e,if_neg e];exact Paired.snoc r ⟨rfl,ry⟩
theorem KV.length {kvs:List (κ×V)} {vs:List (κ×Value)} (r:KV kvs vs):kvs.length=vs.length:=Paired.length r
end
theorem Au {P:Program} {w:World} {k:Key} {u:Value} (r:RelV (kV k) u):(cw P w).is k u=true:=by
 cases k with
 | inl i=>obtain ⟨t,e⟩:=(show ∃ t,u=Value.int i t from r);subst e;exact MW P w i t
 | inr x=>obtain ⟨t,e⟩:=(show ∃ t,u=Value.str x t from r);subst e;exact MX P w x t
theorem JO {P:Program} {w:World}:∀ {ks:List Key} {us:List Value},Vals (ks.map kV) us->ItemsAre (cw P w) ks us
 | [],_,r=>by rw [List.map_nil] at r;cases r;exact .nil
 | k :: ks,_,r=>by
  rw [List.map_cons] at r
  cases r with
  | cons h t=>exact .cons (Au h) (JO t)
abbrev KT (H:Hp):List (List Key×V)->List (List Key×Addr×Value)->Prop:=Paired fun p q=>p.1=q.1/\H q.2.1=some (.tup (p.1.map kV))/\RelV p.2 q.2.2
theorem KT.val {H:Hp} {kvs:List (List Key×V)} {xs:List (List Key×Addr×Value)} (r:KT H kvs xs) (k:List Key):mV (kc kvs k) ((atKey xs k).map (·.2)):=by
 induction r with
 | nil=>exact True.intro
 | @cons p q ps qs h t ih =>
  obtain ⟨h1,_,h2⟩:=h
  by_cases e:p.1=k
  ·have e':q.1=k:=h1.symm.trans e
   have b:atKey (q :: qs) k=some q.2:=by simp [atKey,List.find?_cons,e']
   rw [Gh e,b];exact h2
  ·have e':¬ q.1=k:=fun z=>e (h1.trans z)
   have b:atKey (q :: qs) k=atKey qs k:=by simp [atKey,List.find?_cons,e']
   rw [Gi e,b];exact ih
theorem KT.repl {H:Hp} {kvs:List (List Key×V)} {xs:List (List Key×Addr×Value)} (r:KT H kvs xs) (k:List Key) {y:V} {u:Value} (ry:RelV y u) :
  KT H (kvs.map fun kv=>if kv.1=k then (kv.1,y) else kv) (xs.map (putAt k u)):=by
 induction r with
 | nil=>exact .nil
 | @cons p q ps qs h t ih =>
  rw [List.map_cons,List.map_cons]
  refine .cons ?_ ih
  obtain ⟨h1,h2,h3⟩:=h
  unfold putAt
  by_cases e:p.1=k
  ·rw [if_pos e,if_pos (h1.symm.trans e)];exact ⟨h1,h2,ry⟩
  ·rw [if_neg e,if_neg (fun z=>e (h1.trans z))];exact ⟨h1,h2,h3⟩
theorem KT.put {H:Hp} {kvs:List (List Key×V)} {xs:List (List Key×Addr×Value)} (r:KT H kvs xs) (k:List Key) {b:Addr} {y:V} {u:Value} (hb:H b=some (.tup (k.map kV))) (ry:RelV y u) :
  KT H (putK kvs k y) (storedH xs k b u):=by
 have e:(kvs.any fun kv=>decide (kv.1=k))=(atKey xs k).isSome:=by
  rw [JN,(r.val k).lh,Option.isSome_map]
 unfold putK storedH
 rw [e]
 by_cases q:(atKey xs k).isSome=true
 ·rw [if_pos q,if_pos q];exact r.repl k ry
 ·rw [if_neg q,if_neg q];exact Paired.snoc r ⟨rfl,hb,ry⟩
theorem KT.keeps {H H':Hp} {kvs:List (List Key×V)} {xs:List (List Key×Addr×Value)} (r:KT H kvs xs) (ht:∀ b ys,H b=some (.tup ys)->H' b=some (.tup ys)):KT H' kvs xs :=
 Paired.vG r fun _ _ z=>⟨z.1,ht _ _ z.2.1,z.2.2⟩
section
variable {P:Program} {w:World} {H:Hp} {h:Heap} {a:Addr}
theorem uC {u:HO} (ok:kC P w H h) (e:Rd H a u):cb P w H h a u:=e.ok ok
theorem Dy {kvs:List (Key×V)} (ok:kC P w H h) (e:Rd H a (.dK kvs)):kvs.length<=sizeLine/\(a == sysModules)=false/\∃ vs,KV kvs vs/\h.DictOf (cw P w) a vs :=
 show cb P w H h a (.dK kvs) from uC ok e
theorem uD {kvs:List (Key×V)} (ok:kC P w H h) (e:H a=some (.dK kvs)):kvs.length<=sizeLine/\(a == sysModules)=false/\∃ vs,KV kvs vs/\h.DictOf (cw P w) a vs:=Dy ok (.inl e)
theorem sJ {ks:List Key} (ok:kC P w H h) (e:H a=some (.tup (ks.map kV))):(tupleKind (cw P w)).is h ks a:=by
 obtain ⟨_,its,r,o,h1,h2,_,n,h3⟩:=(show cb P w H h a (.tup (ks.map kV)) from ok a _ e)
 exact ⟨o,its.toArray,n,h1,h2,h3,by simpa using JO r⟩
theorem Dz {kvs:List (List Key×V)} (ok:kC P w H h) (e:Rd H a (.dT kvs)):kvs.length<=sizeLine/\(a == sysModules)=false /\
  ∃ xs,KT H kvs xs/\h.DictOfH (tupleKind (cw P w)) a xs:=by
 obtain ⟨z,y,xs,r,o,es,ep,h1,h2,h3,h4,h5⟩:=(show cb P w H h a (.dT kvs) from uC ok e)
 refine ⟨z,y,xs,r,o,es,ep,h1,h2,h3,h4,fun x hx=>?_,h5⟩
 have all:∀ {l:List (List Key×V)} {m:List (List Key×Addr×Value)},KT H l m->∀ x∈m,(tupleKind (cw P w)).is h x.1 x.2.1:=by
  intro l m q
  induction q with
  | nil=>intro x hx;exact nomatch hx
  | @cons p q ps qs hq t ih =>
   intro x hx
   rcases List.mem_cons.mp hx with e | hx
   ·subst e
    exact sJ ok (by rw [<- hq.1];exact hq.2.1)
   ·exact ih x hx
 exact all r x hx
theorem Av {kvs:List (List Key×V)} (ok:kC P w H h) (e:H a=some (.dT kvs)):kvs.length<=sizeLine/\(a == sysModules)=false /\
  ∃ xs,KT H kvs xs/\h.DictOfH (tupleKind (cw P w)) a xs:=Dz ok (.inl e)
end
def nD (H:Hp) (a:Addr) (y:V) (r:Option V):Prop :=
 (∃ kvs k,Rd H a (.dK kvs)/\y=kV k/\r=kc kvs k)\/∃ kvs k b,Rd H a (.dT kvs)/\y=.ref b/\H b=some (.tup (k.map kV))/\r=kc kvs k
def qF (H:Hp) (a:Addr) (y v:V) (H':Hp):Prop :=
 (∃ kvs k,H a=some (.dK kvs)/\y=kV k/\kvs.length < sizeLine/\H'=upd H a (.dK (putK kvs k v))) \/
 ∃ kvs k b,H a=some (.dT kvs)/\y=.ref b/\H b=some (.tup (k.map kV))/\kvs.length < sizeLine/\H'=upd H a (.dT (putK kvs k v))
theorem nD.k {H:Hp} {a:Addr} {kvs:List (Key×V)} {k:Key} (e:H a=some (.dK kvs)):nD H a (kV k) (kc kvs k):=.inl ⟨kvs,k,.inl e,rfl,rfl⟩
theorem qF.k {H:Hp} {a:Addr} {kvs:List (Key×V)} {k:Key} {v:V} (e:H a=some (.dK kvs)) (hl:kvs.length < sizeLine):qF H a (kV k) v (upd H a (.dK (putK kvs k v))):=.inl ⟨kvs,k,e,rfl,hl,rfl⟩
section
variable {X:Cx} {pins:List (Addr×Obj)} {σ:St} {H:Hp} {s:Shared} {a:Addr} {y v:V} {u r:Value} {o:Option V} {A:Around} {E:Value->Shared->Prop}
theorem Inv.big (I:Inv X pins σ H s):sysModules < s.heap.objs.size:=by
 have h:mainGlobals < s.heap.objs.size:=(I.mod.glob.keeps I.bk).lt
 exact Nat.lt_trans (by decide) h
theorem Ny {Q:Value->Shared->Prop} (hu:A.units + 1 < cLine) (I:Inv X pins σ H s) (g:nD H a y (some v)) (ry:RelV y u) (h:∀ w' s',Inv X pins σ H s'->RelV v w'->Q w' s') :
  wpAny (model X.prog X.w) A (getItem (.ref a) u) Q E s:=by
 rcases g with ⟨kvs,k,e,ey,l⟩ | ⟨kvs,k,b,e,ey,eb,l⟩
 ·subst ey
  obtain ⟨z,hd,vs,rel,dd⟩:=Dy I.hok e
  obtain ⟨w',hw,rw'⟩:=mV.some_of (v:=v) (o:=valueAt vs k) (by rw [l];exact rel.val k)
  exact wpAny_getItem_of (Au ry) dd.mapOf hw (h w' _ (I.tok _) rw')
 ·subst ey
  cases (show u=Value.ref b from ry)
  obtain ⟨z,hd,xs,rel,dd⟩:=Dz I.hok e
  obtain ⟨w',hw,rw'⟩:=mV.some_of (v:=v) (o:=(atKey xs k).map (·.2)) (by rw [l];exact rel.val k)
  obtain ⟨p,hp,hp2⟩:=Option.map_eq_some_iff.mp hw
  refine wpAny_getItem_heap (tupleKind_room_in1 hu) (sJ I.hok eb) dd hp ?_
  rw [hp2]
  exact h w' _ (I.tok _) rw'
theorem Nz {Q:Value->Shared->Prop} (hu:A.units + 1 < cLine) (I:Inv X pins σ H s) (g:nD H a y o) (ry:RelV y u) (h:∀ s',Inv X pins σ H s'->Q (.bool (!o.isSome)) s') :
  wpAny (model X.prog X.w) A (compareOp .NotIn u (.ref a)) Q E s:=by
 rcases g with ⟨kvs,k,e,ey,l⟩ | ⟨kvs,k,b,e,ey,eb,l⟩
 ·subst ey
  obtain ⟨z,hd,vs,rel,dd⟩:=Dy I.hok e
  refine wpAny_notIn_of (Au ry) hd dd.mapOf ?_
  rw [<- (rel.val k).lh,<- l]
  exact h _ (I.tok _)
 ·subst ey
  cases (show u=Value.ref b from ry)
  obtain ⟨z,hd,xs,rel,dd⟩:=Dz I.hok e
  refine wpAny_notIn_heap (tupleKind_room_in1 hu) (sJ I.hok eb) hd dd ?_
  have q:=(rel.val k).lh
  rw [Option.isSome_map] at q
  rw [<- q,<- l]
  exact h _ (I.tok _)
theorem Gk {h':Heap} {t':Nat} {ob:HO} (I:Inv X pins σ H s) (mu:zF (H a)) (hs:Heap.SameBut a s.heap h') (he:∃ q,h'.get? a=some q) (new:cb X.prog X.w (upd H a ob) h' a ob) :
  Inv X pins σ (upd H a ob) { s with heap:=h',toks:=t' } :=
 I.write (x:=a) (e:=a) mu (.inl rfl) (fun b q hb z=>(hs.2 b hb).trans z) he new
theorem JP {P:Program} {w:World} {H':Hp} {h':Heap} {kvs:List (Key×V)} {vs:List (Key×Value)} (z:kvs.length<=sizeLine) (hd:(a == sysModules)=false) (rel:KV kvs vs) (dd:h'.DictOf (cw P w) a vs) :
  cb P w H' h' a (.dK kvs):=⟨z,hd,vs,rel,dd⟩
theorem NA {H':Hp} {Q:Unit->Shared->Prop} (hu:A.units + 1 < cLine) (I:Inv X pins σ H s) (g:qF H a y v H') (ry:RelV y u) (rv:RelV v r) (h:∀ s',Inv X pins σ H' s'->Q () s') :
  wpAny (model X.prog X.w) A (setItem (.ref a) u r) Q E s:=by
 rcases g with ⟨kvs,k,e,ey,l,eH⟩ | ⟨kvs,k,b,e,ey,eb,l,eH⟩
 ·subst ey eH
  obtain ⟨z,hd,vs,rel,dd⟩:=uD I.hok e
  have hz:vs.length<=sizeLine:=by rw [<- rel.length];exact z
  have hl:(putK kvs k v).length<=sizeLine:=by have:=Gj kvs k v;omega
  refine wpAny_setItem_pairs (hsz:=hz) (Au ry) dd fun h' wc hs=>h _ ?_
  have he:∃ q,h'.get? a=some q:=let ⟨q,_,_,hq,_⟩:=wc;⟨q,hq⟩
  exact Gk I (by rw [e];exact True.intro) hs he (JP hl hd (rel.put k rv) wc)
 ·subst ey eH
  cases (show u=Value.ref b from ry)
  obtain ⟨z,hd,xs,rel,dd⟩:=Av I.hok e
  have hz:xs.length<=sizeLine:=by rw [<- Paired.length rel];exact z
  have hl:(putK kvs k v).length<=sizeLine:=by have:=Gj kvs k v;omega
  refine wpAny_setItem_heap (hsz:=hz) (tupleKind_room_in1 hu) (sJ I.hok eb) dd fun h' wc hs=>h _ ?_
  obtain ⟨q,es,ep,hq,h2,h3,h4,_,h5⟩:=wc
  refine Gk I (by rw [e];exact True.intro) hs ⟨q,hq⟩ ⟨hl,hd,_,(rel.put k eb rv).keeps fun c ys ec=>?_,q,es,ep,hq,h2,h3,h4,h5⟩
  rw [jG (FJ ec e (fun z=>nomatch z))]
  exact ec
end
section
variable {X:Cx} {pins:List (Addr×Obj)} {σ:St} {H:Hp} {s:Shared} {a:Addr} {kvs:List (Key×V)} {k:Key} {u:Value} {A:Around} {E:Value->Shared->Prop}
end
def Aw (i:Expr):Prop:=∀ ov iv,subscripted i false ov iv=operate [ov,iv] (getItem ov iv)
theorem NC {prog:Program} {w:World} {A:Around} {E:Value->Shared->Prop} {s:Shared} {env:Env} {value slice:Expr} {pos:Pos} {T id:String} {Q:Value->Shared->Prop}
  (hl:typeLookup (.type T) "__getitem__" = pure (some (.builtin id))) (hs:Aw slice)
  (h:wpAny (model prog w) A (eval value env) (fun o s₁=>wpAny (model prog w) A (eval slice env) (fun i s₂=>s₂.TypeIs o T/\wpAny (model prog w) A (getItem o i) Q E s₂) E s₁) E s) :
  wpAny (model prog w) A (eval (.Subscript value slice pos) env) Q E s:=by
 refine Subscript_ (wpAny_mono h (fun o s₁ h₁=>wpAny_mono h₁ (fun i s₂ h₂=>?_) fun _ _ x=>x) fun _ _ x=>x)
 obtain ⟨hT,h₂⟩:=h₂
 unfold subscriptTail
 refine wpAny_bind ?_
 rw [getitemInPython_of_ne hT.not_modules]
 refine wpAny_bind (wpAny_specialOf hT hl ?_)
 have fin:wpAny (model prog w) A (subscripted slice false o i) (fun r s₃=>wpAny (model prog w) A (letTemporaryGo value o r >>= fun _=>pure r) Q E s₃) E s₂:=by
  rw [hs o i]
  exact wpAny_operating (wpAny_mono h₂ (fun r s₃ h₃=>wpAny_bind (wpAny_letTemporaryGo (wpAny_pure h₃))) fun _ _ x=>x)
 first
  | exact wpAny_pure (wpAny_bind fin)
  | exact wpAny_bind (wpAny_pure (wpAny_bind fin))
  | exact wpAny_bind fin
theorem ND {X:Cx} {pins:List (Addr×Obj)} {σ:St} {H:Hp} {s:Shared} {a:Addr} {y:V} {o:Option V} (I:Inv X pins σ H s) (g:nD H a y o):s.TypeIs (.ref a) "dict" := by
 rcases g with ⟨kvs,k,e,_,_⟩ | ⟨kvs,k,b,e,_,_,_⟩
 ·obtain ⟨_,_,vs,_,dd⟩:=Dy I.hok e
  exact dd.typeIs
 ·obtain ⟨_,_,xs,_,dd⟩:=Dz I.hok e
  exact dd.typeIs
def uE (td ty:TE):TE:=fun σ H Q=>td σ H fun x H1=>ty σ H1 fun y H2=>∃ a v,x=.ref a/\nD H2 a y (some v)/\Q v H2
def pC (ty td:TE):TE:=fun σ H Q=>ty σ H fun y H1=>td σ H1 fun x H2=>∃ a o,x=.ref a/\nD H2 a y o/\Q (.bl (!o.isSome)) H2
def uF (td ty tv:TE):TS:=fun D σ H=>tv σ H fun v H1=>td σ H1 fun x H2=>ty σ H2 fun y H3=>∃ a H4,x=.ref a/\qF H3 a y v H4/\D.nx σ H4
section
variable {X:Cx} {o i e value:Expr} {pos pos' tpos:Pos} {td ty tv:TE}
theorem JQ (hu:X.A.units + 1 < cLine) (ho:PE X o td) (hi:PE X i ty) (hs:Aw i):PE X (.Subscript o i pos) (uE td ty):=by
 intro pins s σ H Q I h
 refine NC PySem.F.slot_dict_getitem.lookup hs (cC (ho pins s σ H _ I h) fun u s1 ⟨x,H1,I1,rx,q1⟩=>cC (hi pins s1 σ H1 _ I1 q1) fun iv s2 ⟨y,H2,I2,ry,a,v,ex,g,q2⟩=>?_)
 subst ex
 obtain rfl:u=Value.ref a:=rx
 exact ⟨ND I2 g,Ny hu I2 g ry fun w' s3 I3 rw'=>⟨v,H2,I3,rw',q2⟩⟩
theorem NF (hu:X.A.units + 1 < cLine) (hi:PE X i ty) (ho:PE X o td):PC X .NotIn i o (pC ty td):=by
 intro pins s σ H Q I h
 refine cC (hi pins s σ H _ I h) fun iv s1 ⟨y,H1,I1,ry,q1⟩=>cC (ho pins s1 σ H1 _ I1 q1) fun u s2 ⟨x,H2,I2,rx,a,ov,ex,g,q2⟩=>?_
 subst ex
 obtain rfl:u=Value.ref a:=rx
 exact Nz hu I2 g ry fun s3 I3=>⟨.bl (!ov.isSome),H2,I3,rfl,q2⟩
theorem NG (hu:X.A.units + 1 < cLine) (ho:PE X o td) (hi:PE X i ty) (hv:PE X value tv) (hs:swapsWith value (some (.Subscript o i pos')) pos.line X.env=pure false) :
  PS X (.Assign [.Subscript o i pos'] value pos) (uF td ty tv):=by
 intro pins s σ H D I h
 refine wpAny_Assign_Subscript (cC (hv pins s σ H _ I h) fun r s1 ⟨v,H1,I1,rv,q1⟩=>cC (ho pins s1 σ H1 _ I1 q1) fun u s2 ⟨x,H2,I2,rx,q2⟩=>cC (hi pins s2 σ H2 _ I2 q2) fun iv s3 ⟨y,H3,I3,ry,a,H4,ex,g,q3⟩=>?_) hs
 subst ex
 obtain rfl:u=Value.ref a:=rx
 exact NA hu I3 g ry rv fun s4 I4=>⟨σ,H4,I4,q3⟩
end
theorem JR {P:Program} {w:World} {H:Hp} (h:Heap) (hb:sysModules < h.objs.size):cb P w H (h.push { cls:=.type "dict",data:=.dict #[] }) h.objs.size (.dK []) :=
 ⟨Nat.zero_le _,beq_eq_false_iff_ne.mpr (Ne.symm (Nat.ne_of_lt hb)),[],.nil,Heap.DictOf.new h⟩
def qG:TE:=fun _ H Q=>∀ p,H p=none->Q (.ref p) (upd H p (.dK []))
section
variable {X:Cx} {pos:Pos}
theorem NH:PE X (.Dict [] [] pos) qG:=fun pins s σ H Q I h =>
 wpAny_Dict_empty ⟨.ref s.heap.objs.size,_,I.laid (a:=s.heap.objs.size) (o:=.dK []) (t':=s.toks) (fun _ _ q=>Heap.get?_push_of_some _ q) (Nat.le_refl _) (JR s.heap I.big),rfl,h _ (I.hok.fresh (Nat.le_refl _))⟩
end
def nE:List (TE×TE)->St->Hp->(List (V×V)->Hp->Prop)->Prop
 | [],_,H,Q=>Q [] H
 | (tk,tv) :: r,σ,H,Q=>tk σ H fun x H1=>tv σ H1 fun y H2=>nE r σ H2 fun ps H3=>Q ((x,y) :: ps) H3
abbrev VV:List (V×V)->List (Value×Value)->Prop:=Paired fun p q=>RelV p.1 q.1/\RelV p.2 q.2
def DA (X:Cx) (pos:Pos) (keys:List (Option Expr)) (values:List Expr) (oq:List (TE×TE)):Prop :=
 ∀ (pins:List (Addr×Obj)) (s:Shared) (σ:St) (H:Hp) (Q:List (V×V)->Hp->Prop),Inv X pins σ H s->nE oq σ H Q ->
  wpAny (model X.prog X.w) X.A (evalPairs (pairTrees keys values X.env pos)) (fun vs s'=>∃ ps H',Inv X pins σ H' s'/\VV ps vs/\Q ps H') X.xe s
theorem NI {X:Cx} {pos:Pos}:DA X pos [] [] []:=fun pins s σ H Q I h=>pairTrees_nil_walk ⟨[],H,I,.nil,h⟩
theorem DB {X:Cx} {pos:Pos} {k v:Expr} {ks:List (Option Expr)} {vs:List Expr} {tk tv:TE} {oq:List (TE×TE)} (hk:PE X k tk) (hv:PE X v tv) (hr:DA X pos ks vs oq) :
  DA X pos (some k :: ks) (v :: vs) ((tk,tv) :: oq):=fun pins s σ H Q I h =>
 pairTrees_cons_walk (cC (hk pins s σ H _ I h) fun u s1 ⟨x,H1,I1,rx,q1⟩=>cC (hv pins s1 σ H1 _ I1 q1) fun w2 s2 ⟨y,H2,I2,ry,q2⟩ =>
  cC (hr pins s2 σ H2 _ I2 q2) fun ws s3 ⟨ps,H3,I3,rel,q3⟩=>⟨(x,y) :: ps,H3,I3,.cons ⟨rx,ry⟩ rel,q3⟩)
def lj (kvs more:List (Key×V)):List (Key×V):=more.foldl (fun acc kv=>putK acc kv.1 kv.2) kvs
theorem KV.merge:∀ {more:List (Key×V)} {rs:List (Key×Value)} {kvs:List (Key×V)} {vs:List (Key×Value)},KV more rs->KV kvs vs->KV (lj kvs more) (merged vs rs):=by
 intro more rs kvs vs r
 unfold KV at r
 induction r generalizing kvs vs with
 | nil=>intro q;exact q
 | @cons p q ps qs h t ih =>
  intro r0
  have e:KV (putK kvs p.1 p.2) (stored vs q.1 q.2):=by
   have:=r0.put p.1 h.2
   rw [<- h.1];exact this
  exact ih e
theorem JS:∀ (more kvs:List (Key×V)),(lj kvs more).length<=kvs.length + more.length
 | [],kvs=>by show kvs.length<=kvs.length + 0;omega
 | p :: r,kvs=>by
  have h1:=JS r (putK kvs p.1 p.2)
  have h2:=Gj kvs p.1 p.2
  show (lj (putK kvs p.1 p.2) r).length<=_
  rw [List.length_cons];omega
theorem JT {P:Program} {w:World}:∀ {kvs:List (Key×V)} {ws:List (Value×Value)},VV (kvs.map fun kv=>(kV kv.1,kv.2)) ws->∃ rs,Carries (cw P w) ws rs/\KV kvs rs
 | [],_,r=>by rw [List.map_nil] at r;cases r;exact ⟨[],True.intro,.nil⟩
 | p :: kvs,_,r=>by
  rw [List.map_cons] at r
  cases r with
  | @cons a b as bs h t =>
   obtain ⟨rs,c,q⟩:=JT (P:=P) (w:=w) t
   obtain ⟨b1,b2⟩:=b
   exact ⟨(p.1,b2) :: rs,⟨Au h.1,rfl,c⟩,.cons ⟨rfl,h.2⟩ q⟩
def uG (oq:List (TE×TE)):TE:=fun σ H Q=>∀ p,H p=none->nE oq σ (upd H p (.dK [])) fun ps H2=>H2 p=some (.dK [])/\∃ kvs:List (Key×V),ps=kvs.map (fun kv=>(kV kv.1,kv.2))/\kvs.length<=15/\Q (.ref p) (upd H2 p (.dK (lj [] kvs)))
theorem NJ {X:Cx} {pos:Pos} {keys:List (Option Expr)} {values:List Expr} {oq:List (TE×TE)} (h:DA X pos keys values oq) (hall:keys.all (·.isSome)=true) (hl:keys.length=values.length) (h0:keys≠[])
  (NK:keys.length<=15):PE X (.Dict keys values pos) (uG oq):=by
 intro pins s σ H Q I q
 have hn:=I.hok.fresh (Nat.le_refl s.heap.objs.size)
 have I1:=I.laid (a:=s.heap.objs.size) (o:=.dK []) (h':=s.heap.push { cls:=.type "dict",data:=.dict #[] }) (t':=s.toks) (fun _ _ q=>Heap.get?_push_of_some _ q) (Nat.le_refl _) (JR s.heap I.big)
 refine wpAny_Dict_walk (knd:=cw X.prog X.w) hall hl h0 NK (cC (h pins _ σ _ _ I1 (q _ hn)) fun ws s2 ⟨ps,H2,I2,rel,e,kvs,ep,lk,q2⟩=>?_)
 subst ep
 obtain ⟨rs,c,rk⟩:=JT (P:=X.prog) (w:=X.w) rel
 obtain ⟨z,hd,Uy,r0,dd⟩:=uD I2.hok e
 cases r0
 refine ⟨rs,c,dd,fun h' wc hs=>⟨.ref s.heap.objs.size,_,?_,rfl,q2⟩⟩
 have hz:(lj [] kvs).length<=sizeLine:=by
  have h1:=JS kvs []
  rw [List.length_nil] at h1
  rw [sizeLine_eq];omega
 have he:∃ q,h'.get? s.heap.objs.size=some q:=let ⟨q,_,_,hq,_⟩:=wc;⟨q,hq⟩
 exact Gk I2 (by rw [e];exact True.intro) hs he (JP hz hd (rk.merge .nil) wc)
section
variable {X:Cx} {pins:List (Addr×Obj)} {σ:St} {H:Hp} {s:Shared} {a:Addr} {y d:V} {u r:Value} {o:Option V} {A:Around} {E:Value->Shared->Prop}
end
section
variable {X:Cx} {o e f:Expr} {apos cpos:Pos} {td ty tx:TE}
end
section
variable {X:Cx} {pins:List (Addr×Obj)} {σ:St} {H:Hp} {s:Shared} {a:Addr} {kvs:List (Key×V)} {A:Around} {E:Value->Shared->Prop}
end
section
variable {X:Cx} {pins:List (Addr×Obj)} {σ:St} {H:Hp} {s:Shared} {a:Addr} {y:V} {u:Value} {A:Around} {E:Value->Shared->Prop}
end
end L2
namespace JU
open PySem PySem.W PySem.Calls PyProof.Rows
theorem NL {P:Params} {h:Heap}:∀ (ns:List Int) (vs:List Value),WellAll P h vs (ns.map WData.int)->IntsAre vs ns:=by
 intro ns
 induction ns with
 | nil =>
  intro vs w
  rw [List.map_nil] at w
  cases w
  exact .nil
 | cons n ns ih =>
  intro vs w
  rw [List.map_cons] at w
  cases w with
  | cons a b =>
   cases a
   exact .cons _ _ (ih _ b)
theorem NM {l:OpenLaw} {n:Nat} (hn:l.most=some n) {P:Params} {h:Heap} {args:List WData} {vals:List Value}
  (hpre:l.row.toRowW.claim.pre args=true) (hwl:WellAll P h vals args) :
  ∃ a vs ns,vals=[Value.ref a]/\args=[WData.list (ns.map WData.int)]/\h.get? a=some { cls:=.type "list",data:=.seq vs.toArray }/\IntsAre vs ns/\ns.length<=n:=by
 have hsh:WShape.hasAll [] args [.list .int]=true:=(pre_splitW hpre).1
 have hc:l.pre.holds [] { args:=args }=true:=(pre_splitW hpre).2
 obtain ⟨d,r,rfl,h1,h2⟩:=hasAllW_cons hsh
 obtain rfl:=hasAllW_nil h2
 obtain ⟨xs,rfl,h3⟩:=hasW_list h1
 obtain ⟨ns,rfl⟩:=items_int h3
 have hlen:ns.length<=n:=by
  unfold OpenLaw.pre at hc
  have h4:(WTm.not (.lt (.lit (.int (n:Int))) (.len (.arg 0)))).holds [] { args:=[.list (ns.map .int)] }=true:=by
   have h4:=(holds_andW hc).1
   rw [hn] at h4
   exact h4
  have h5:=condW_of h4 (w_not (w_lt w_lit (w_len_list (w_arg rfl))))
  rw [List.length_map] at h5
  refine Nat.le_of_not_lt fun q=>?_
  have q':(n:Int) < ((ns.length:Nat):Int):=by omega
  first
   | (rw [decide_eq_true q'] at h5;exact absurd h5 (by decide))
   | (simp at h5;omega)
 cases hwl with
 | cons w1 w2 =>
  cases w2
  cases w1 with
  | list ho hall=>exact ⟨_,_,ns,rfl,rfl,ho,NL ns _ hall,hlen⟩
theorem NN (l:OpenLaw) (args:List WData):l.row.toRowW.claim.post args (.bool true) args=true :=
 postW_of (r:=l.row.toRowW) (X:=(true == true))
  (show WShape.has [] (.bool true) .bool=true by first | rfl | decide | simp [WShape.has,WShape.arms,WShape.armsAll])
  (show (WTm.eq .res (.lit (.bool true))).value [] { args:=args,res:=some (.bool true),after:=args }=some (.bool (true == true)) from w_eq_bool (w_res rfl) w_lit) rfl
theorem NP {l:OpenLaw} {n:Nat} {q:Program} {loose:List Str} {XP:(Str->Option Value)->Heap->Prop} {YP:World->Heap->Prop} {d:DefRec}
  (hn:l.most=some n) (hdf:d.params.defaults=[])
  (call:∀ (w:World) (s₀ s₁:Shared) (mg mb:Str->Option Value) (fa:Addr) (o:Obj) (pm cd doc:Value) (a:Addr) (vs:List Value) (ns:List Int),
   Ground q loose [] XP w s₀ mg mb s₁.heap->YP w s₁.heap ->
   s₁.heap.get? fa=some o->o.data=.func (docDef d.name d.params d.body d.scope pm cd doc)->s₁.heap.CodeRec cd d.name->mg d.name=some (.ref fa) ->
   s₁.heap.get? a=some { cls:=.type "list",data:=.seq vs.toArray }->IntsAre vs ns->ns.length<=n->s₁.gens=#[] ->
   codeAny (model l.prog w) callerA (.call (.ref fa) ⟨[.ref a],[]⟩) (fun r s'=>r=.ok (.ret (.bool true))/\OldK s₁.heap s'.heap/\s'.os=s₁.os/\AllBare s'.gens) s₁) :
  WalkO q loose XP YP l.row.toRowW d [] (fun f vs=>PySem.call f vs):=by
 intro w s₀ s₁ mg mb G Y fa o pm cd doc dV kV ho hd hcd hD hmg hg args vals as hpre hlay hrd hwl hlo
 obtain rfl:dV=.none:=Dflts.none hD hdf
 obtain rfl:kV=.none:=Dflts.noKw hD
 obtain ⟨a,vs,ns,rfl,rfl,hobj,hints,hlen⟩:=NM hn hpre hwl
 refine enter_call (codeAny_mono (call w s₀ s₁ mg mb fa o pm cd doc a vs ns G Y ho (fd_plain hd) hcd hmg hobj hints hlen hg) fun r s' hq=>?_)
 obtain ⟨rfl,h2,h3,h4⟩:=hq
 exact ⟨.inl ⟨.bool true,.bool true,[],rfl,fun _=>rfl,.bool true,NN l _,fun _=>⟨List.Pairwise.nil,fun _ hm=>(nomatch hm)⟩⟩,h2,h3,h4⟩
section
variable {prog:Program} {w:World} {A:Around} {E:Value->Shared->Prop} {s:Shared} {K:Frag}
end
end JU
namespace L2
open PySem PySem.Spec PyProof.Rows
theorem JV:∀ {vs:List Value} {ns:List Int},IntsAre vs ns->Vals (ns.map V.int) vs
 | _,_,.nil=>.nil
 | _,_,.cons n t h=>.cons ⟨t,rfl⟩ (JV h)
def Only (H:Hp):Prop:=∀ b,H b=none\/∃ o xs,H b=some (.mr o (.lst xs))
theorem NQ {P:Program} {w:World} {K:PySem.W.Frag} {mg mb:Str->Option Value} {CX:pj} {k:Nat} {fa a:Addr} {fd:FuncData} {x:Str} {sp:Sp} {s₁:Shared} {vs:List Value} {ns:List Int}
  (KX:K.In s₁.heap) (hns:s₁.heap.Ns mainGlobals mg) (hb:s₁.heap.Ns builtinsNs mb) (NR:∀ x:Str,x≠"__name__" -> mb x=bootBuiltins x) (hlim:s₁.heap.NoLimit) (hg:s₁.gens=#[])
  (ha:s₁.heap.get? a=some { cls:=.type "list",data:=.seq vs.toArray }) (hi:IntsAre vs ns) (hl:ns.length<=sizeLine) (hr:il k callerA)
  (F:∀ base:Heap,K.In base->base.Ns mainGlobals mg->aC P w K mg base CX k fa fd [x] sp) (hbind:∀ (s:Shared) (u:Value),BindsTo s fd ⟨[u],[]⟩ [(x,u)])
  (rH:∀ H:Hp,Only H->jg K H a (ns.map V.int)->sp [.ref a] H (fun v _=>v=.bl true) fun _ _ _=>False)
  (Ax:∀ H e s',CX [] H s₁ (fun _ _ _=>False) e s'->False) :
  codeAny (model P w) callerA (.call (.ref fa) ⟨[.ref a],[]⟩) (fun r s'=>r=.ok (.ret (.bool true))/\OldK s₁.heap s'.heap/\s'.os=s₁.os/\AllBare s'.gens) s₁:=by
 have rv:=JV hi
 have Gm:=hi.length
 have core:∀ H:Hp,Only H->jg K H a (ns.map V.int)->kC P w H s₁.heap->(∀ b,H b≠none->b=a)->(H a≠none->K.lookup a=none) ->
   codeAny (model P w) callerA (.call (.ref fa) ⟨[.ref a],[]⟩) (fun r s'=>r=.ok (.ret (.bool true))/\OldK s₁.heap s'.heap/\s'.os=s₁.os/\AllBare s'.gens) s₁:=by
  intro H hO hS hok hA hK
  have pD:∀ {b:Addr} {o:Obj},s₁.heap.get? b=some o->H b=none->(nz s₁.heap H).get? b=some o:=fun e n=>M0 e n
  have Ak:∀ {b:Addr} {o:Obj} {es:Array DictEntry} {ep:Nat},s₁.heap.get? b=some o->o.data=.dict es ep->H b=none:=fun {b o es ep} e d=>by
   cases q:H b with
   | none=>rfl
   | some u =>
    have e':b=a:=hA b (by rw [q];simp)
    subst e'
    rw [ha] at e;cases e
    have d':Data.seq vs.toArray _=Data.dict es ep:=d
    cases d'
  have DC:∀ {b:Addr} {m:Str->Option Value},s₁.heap.Ns b m->(nz s₁.heap H).Ns b m:=fun {b m} ⟨o,es,ep,e,d,r⟩=>⟨o,es,ep,pD e (Ak e d),d,r⟩
  have JW:K.In (nz s₁.heap H):=fun b o e=>pD (KX b o e) (by
   cases q:H b with
   | none=>rfl
   | some u =>
    have e':b=a:=hA b (by rw [q];simp)
    subst e'
    rw [hK (by rw [q];simp)] at e;cases e)
  have hM:Mod K mg (nz s₁.heap H):=⟨JW,DC hns,⟨mb,DC hb,NR⟩,let ⟨mc,h1,h2⟩:=hlim;⟨mc,DC h1,h2⟩⟩
  have e0:sC P w K mg (nz s₁.heap H) callerA [] s₁ H:=⟨rfl,hM,fun b o e=>M1 e,Nat.le_of_eq (MZ _ _),trivial,fun b hb=>absurd (show b∈([]:List Addr) from hb) (by simp),hok,.of_eq hg⟩
  refine codeAny_mono ((F _ JW (DC hns)).run callerA [] s₁ H ⟨[.ref a],[]⟩ [.ref a] [.ref a] _ _ hr e0 (hbind s₁ (.ref a)) (.cons rfl .nil) (rH H hO hS)) fun r s' h=>?_
  cases r with
  | error e=>exact (Ax H e s' h).elim
  | ok fl =>
   cases fl with
   | next=>exact False.elim h
   | brk=>exact False.elim h
   | cont=>exact False.elim h
   | ret u =>
    obtain ⟨v,H',os,bare,un,Gn,r',q⟩:=h
    have q':v=.bl true:=q
    subst q'
    obtain rfl:u=Value.bool true:=r'
    refine ⟨rfl,OldK.of_keep fun b o e=>?_,os,bare⟩
    cases q:H b with
    | none=>exact un.keep b o e q (by intro z;exact absurd (show b∈([]:List Addr) from z) (by simp)) (by simp)
    | some u =>
     rcases hO b with z | ⟨ob,xs,z⟩
     ·rw [q] at z;cases z
     ·have z2:=un.ny b ob _ z
      obtain ⟨e1,_⟩:=hok b _ z
      obtain ⟨e2,_⟩:=Gn b _ z2
      rw [e] at e1;cases e1
      exact e2
 cases hk:K.lookup a with
 | some o =>
  have e:=KX a o hk
  rw [ha] at e
  cases e
  refine core (fun _=>none) (fun _=>.inl rfl) (.inr ⟨_,vs.toArray,_,hk,rfl,rfl,rfl,by rw [List.size_toArray,Gm];exact hl,by simpa using rv⟩) (fun b u z=>by have z':(none:Option HO)=some u:=z;cases z') (fun b z=>absurd rfl z) fun z=>absurd rfl z
 | none =>
  refine core (fun b=>if b=a then some (.mr { cls:=.type "list",data:=.seq vs.toArray } (.lst (ns.map V.int))) else none) (fun b=>?_) (.inl (.inr ⟨{ cls:=.type "list",data:=.seq vs.toArray },if_pos rfl⟩)) (fun b u z=>?_) (fun b z=>?_) fun _=>hk
  ·by_cases hb:b=a
   ·exact .inr ⟨_,_,if_pos hb⟩
   ·exact .inl (if_neg hb)
  ·by_cases hb:b=a
   ·have z':=(if_pos hb).symm.trans z
    cases z'
    subst hb
    exact ⟨ha,by rw [List.length_map];exact hl,vs,_,rv,ha⟩
   ·have z':=(if_neg hb).symm.trans z
    cases z'
  ·by_cases hb:b=a
   ·exact hb
   ·exact absurd (if_neg hb) z
end L2
namespace L2
open PySem PySem.Spec PyProof.Rows
abbrev KOf {K:PySem.W.Frag} {h:Heap} (_:K.In h):PySem.W.Frag:=K
theorem NS {l:PySem.W.OpenLaw} {n k:Nat} {q:Program} {loose:List Str} {XP:(Str->Option Value)->Heap->Prop} {YP:World->Heap->Prop} {d:DefRec} {K:Params->PySem.W.Frag} {CX:World->pj} {sp:World->Sp} {x:Str}
  (hn:l.most=some n) (hn2:n<=sizeLine) (hdf:d.params.defaults=[]) (hr:il k callerA)
  (hY:∀ (w:World) (h:Heap),YP w h->(K w.params).In h)
  (F:∀ (w:World) (mg:Str->Option Value) (fa:Addr) (h:Heap),(K w.params).In h->h.Ns mainGlobals mg->mg d.name=some (.ref fa) ->
   ∃ fd:FuncData,(∀ (s:Shared) (u:Value),BindsTo s fd ⟨[u],[]⟩ [(x,u)]) /\
    ∀ base:Heap,(K w.params).In base->base.Ns mainGlobals mg->aC l.prog w (K w.params) mg base (CX w) k fa fd [x] (sp w))
  (rH:∀ (w:World) (H:Hp) (a:Addr) (ns:List Int),ns.length<=n->Only H->jg (K w.params) H a (ns.map V.int)->sp w [.ref a] H (fun v _=>v=.bl true) fun _ _ _=>False)
  (Ax:∀ (w:World) (H:Hp) (s:Shared) (e:Value) (s':Shared),CX w [] H s (fun _ _ _=>False) e s'->False) :
  PySem.W.WalkO q loose XP YP l.row.toRowW d [] (fun f vs=>PySem.call f vs):=by
 refine JU.NP hn hdf fun w s₀ s₁ mg mb fa o pm cd doc a vs ns G Y ho hd hcd hmg hobj hints hlen hg=>?_
 have KX:=hY w _ Y
 obtain ⟨fd,hb,hF⟩:=F w mg fa _ KX G.T.g hmg
 exact NQ KX G.T.g G.T.b G.T.builtins G.T.nolimit hg hobj hints (Nat.le_trans hlen hn2) hr hF hb (fun H hO hS=>rH w H a ns hlen hO hS) fun H e s'=>Ax w H s₁ e s'
theorem NT {l:PySem.W.OpenLaw} {n k:Nat} {q:Program} {loose:List Str} {XP:(Str->Option Value)->Heap->Prop} {YP:World->Heap->Prop} {d:DefRec} {K:Params->PySem.W.Frag} {CX:pj} {sp:PySem.W.Frag->Sp} {x:Str}
  (hn:l.most=some n) (hn2:n<=sizeLine) (hdf:d.params.defaults=[]) (hr:il k callerA)
  (hY:∀ (w:World) (h:Heap),YP w h->(K w.params).In h)
  (F:∀ (w:World) (mg:Str->Option Value) (fa:Addr) (h:Heap),(K w.params).In h->h.Ns mainGlobals mg->mg d.name=some (.ref fa) ->
   ∃ fd:FuncData,(∀ (s:Shared) (u:Value),BindsTo s fd ⟨[u],[]⟩ [(x,u)]) /\
    ∀ base:Heap,(K w.params).In base->base.Ns mainGlobals mg->aC l.prog w (K w.params) mg base CX k fa fd [x] (sp (K w.params)))
  (rH:∀ (K:PySem.W.Frag) (H:Hp) (a:Addr) (ns:List Int),ns.length<=n->Only H->jg K H a (ns.map V.int)->sp K [.ref a] H (fun v _=>v=.bl true) fun _ _ _=>False)
  (Ax:∀ (H:Hp) (s:Shared) (e:Value) (s':Shared),CX [] H s (fun _ _ _=>False) e s'->False) :
  PySem.W.WalkO q loose XP YP l.row.toRowW d [] (fun f vs=>PySem.call f vs) :=
 NS (K:=K) (CX:=fun _=>CX) (sp:=fun w=>sp (K w.params)) hn hn2 hdf hr hY F (fun w H a ns h1 h2 h3=>rH (K w.params) H a ns h1 h2 h3) fun _ H s e s'=>Ax H s e s'
end L2
namespace L2
open PySem PySem.Spec PyProof.Rows
def kH (s:Stmt):Arguments:=match s with
 | .FunctionDef _ a _ _ _ _ _ _ _ _=>a
 | _=>{ posonlyargs:=[],args:=[],vararg:=none,kwonlyargs:=[],kw_defaults:=[],kwarg:=none,defaults:=[] }
def jI (s:Stmt):List Stmt:=match s with
 | .FunctionDef _ _ b _ _ _ _ _ _ _=>b
 | _=>[]
def aw (s:Stmt):Scope:=match s with
 | .FunctionDef _ _ _ _ _ _ sc _ _ _=>sc
 | _=>{ kind:=.function,names:=[],isGenerator:=false,isCoroutine:=false }
abbrev bz:pj:=fun _ _ _ _ _ _=>False
abbrev E0:XK:=fun _ _ _=>False
theorem aE {X:Cx}:Passes bz X E0:=fun _ _ _ _ _ _ _ h=>h.elim
structure DE (K:PySem.W.Frag) (x qual:Str) (st:Stmt) (f:Addr) (fd:FuncData):Prop where
 ex:∃ (oc:Value) (od:Option Addr) (kV doc pm:Value) (an:Option Addr) (cdv ct:Value) (osl:Array (Option Value)),
  fd=PySem.W.fnOf x qual (kH st) (jI st) (aw st) .none kV doc pm an cdv ct/\K.lookup f=some ⟨oc,od,.func fd,osl⟩/\PySem.W.codeIn K cdv qual=true
 kp:PySem.W.keepIn K (.ref f)=true
section
variable {P:Program} {w:World} {K:PySem.W.Frag} {mg:Str->Option Value} {base:Heap}
theorem DE.ok {x qual:Str} {st:Stmt} {f:Addr} {fd:FuncData} {N ps:List Str} {k:Nat} {sp:Sp} (F:DE K x qual st f fd) (S:aB N ps (aw st)) (len:∀ vs H Q E,sp vs H Q E->vs.length=ps.length)
  (hbody:∀ (cdv:Value) (A:Around) (outer:List Env) (s:Shared) (H:Hp) (vs:List V) (Q:VK) (E:XK),il k (A.deeper (envOfC qual (aw st) s.heap.objs.size f cdv))->sp vs H Q E ->
   ∃ t,pX (jb bz P w K mg base N qual (aw st) f cdv A outer s H E).oM (jI st) t/\t { nx:=fun _ H'=>Q .non H',rt:=Q } (start N vs) H):aC P w K mg base bz (k + 1) f fd ps sp:=by
 obtain ⟨oc,od,kV,doc,pm,an,cdv,ct,osl,rfl,lk,hcd⟩:=F.ex
 refine Al lk hcd S len fun A outer s H vs Q E hr rH=>?_
 obtain ⟨t,h,q⟩:=hbody cdv A outer s H vs Q E hr rH
 exact ⟨t,h.oM,q⟩
theorem wg {x qual:Str} {st:Stmt} {f:Addr} {oc:Value} {od an:Option Addr} {osl:Array (Option Value)} {kV doc pm cdv ct:Value} (l:K.lookup f=some ⟨oc,od,.func (PySem.W.fnOf x qual (kH st) (jI st) (aw st) .none kV doc pm an cdv ct),osl⟩)
  (c:PySem.W.codeIn K cdv qual=true) (k:PySem.W.keepIn K (.ref f)=true):DE K x qual st f (PySem.W.fnOf x qual (kH st) (jI st) (aw st) .none kV doc pm an cdv ct):=⟨⟨oc,od,kV,doc,pm,an,cdv,ct,osl,rfl,l,c⟩,k⟩
end
theorem gk {A:Around} {k:Nat} (hr:il k A):A.units + 1 < cLine:=Nat.lt_of_le_of_lt (Nat.add_le_add_left (by decide:1<=64) _) hr.units
section
variable {X:Cx}
theorem pv (i:Nat) {x:Str} {pos:Pos} (hN:X.N[i]?=some x:=by rfl) (hv:FL X.env.scope x:=by first | exact Or.inl rfl | exact Or.inr (Or.inl rfl) | exact Or.inr (Or.inr rfl)) (hd:(x == ("__debug__" : Str))=false:=by decide)
  (hcd:(x == ("__classdict__" : Str))=false:=by decide):PE X (.Name x pos) (vK i):=vL hN hv hd hcd
end
theorem p4 {A B:Prop} (h:B):if false=true then A else B:=by
 rw [if_neg Bool.false_ne_true]
 exact h
theorem p5 {A B:Prop} (h:A):if true=true then A else B:=by
 rw [if_pos rfl]
 exact h
def hU (H H':Hp):Prop:=∀ b o,H b=some o->H' b=some o
theorem hU.refl (H:Hp):hU H H:=fun _ _ h=>h
section
variable {X:Cx}
end
section
variable {κ:Type} [DecidableEq κ]
end
end L2
namespace L2
open PySem PySem.Spec PyProof.Rows
theorem lK:bootBuiltins "len" = some (.builtin "len"):=by decide +kernel
theorem yK:bootBuiltins "int" = some (.type "int"):=by decide +kernel
theorem JX:bootBuiltins "bool" = some (.type "bool"):=by decide +kernel
theorem JY:bootBuiltins "str" = some (.type "str"):=by decide +kernel
theorem ot:bootBuiltins "list" = some (.type "list"):=by decide +kernel
theorem mW:bootBuiltins "tuple" = some (.type "tuple"):=by decide +kernel
theorem sM:bootBuiltins "range" = some (.type "range"):=by decide +kernel
theorem sN:bootBuiltins "isinstance" = some (.builtin "isinstance"):=by decide +kernel
theorem Gp:bootBuiltins "max" = some (.builtin "max"):=by decide +kernel
theorem wj:bootBuiltins "all" = some (.builtin "all"):=by decide +kernel
theorem wk:bootBuiltins "zip" = some (.type "zip"):=by decide +kernel
theorem NU:bootBuiltins "reversed" = some (.type "reversed"):=by decide +kernel
structure Kp (ch:List Addr) (H H':Hp):Prop where
 keep:∀ b o,H b=some o->b ∉ ch->H' b=some o
 tup:∀ b xs,H b=some (.tup xs)->H' b=some (.tup xs)
 mr:∀ b o u,H b=some (.mr o u)->H' b=some (.mr o u)
section
variable {ch:List Addr} {H H1 H2:Hp} {a l p:Addr} {o:HO} {xs ys:List V} {K:PySem.W.Frag}
theorem Kp.refl:Kp ch H H:=⟨fun _ _ h _=>h,fun _ _ h=>h,fun _ _ _ h=>h⟩
theorem Kp.of_same (h:hU H H1):Kp ch H H1:=⟨fun b o e _=>h b o e,fun b xs e=>h b _ e,fun b o u e=>h b _ e⟩
theorem Kp.put (h:Kp ch H H1) (ha:a∈ch) (e:H1 a=some (.lst xs)):Kp ch H (upd H1 a o) :=
 ⟨fun b u q n=>by rw [jG (fun z=>n (by rw [z];exact ha))];exact h.keep b u q n,
   fun b u q=>by
  have r:=h.tup b u q
  rw [jG (FJ r e (by intro z;cases z))];exact r,
   fun b u v q=>by
  have r:=h.mr b u v q
  rw [jG (FJ r e (by intro z;cases z))];exact r⟩
theorem Kp.Gq (h:Kp ch H H1) (q:eZ K H a xs):eZ K H1 a xs:=by
 rcases q with (q | ⟨o,q⟩) | q
 ·exact .inl (.inl (h.tup a xs q))
 ·exact .inl (.inr ⟨o,h.mr a o _ q⟩)
 ·exact .inr q
def Ay (K:PySem.W.Frag) (H:Hp) (a:Addr) (xs:List V):Prop :=
 (∃ o,H a=some (.mr o (.lst xs))) \/
  ∃ (o:Obj) (its:Array Value) (n:Nat),K.lookup a=some o/\o.cls=.type "list" /\ o.dict=none/\o.data=.seq its n/\its.size<=sizeLine/\Vals xs its.toList
theorem Ay.sq (h:Ay K H a xs):jg K H a xs:=h.elim (fun ⟨o,e⟩=>.inl (.inr ⟨o,e⟩)) .inr
theorem jg.script (hO:Only H) (q:jg K H a xs):Ay K H a xs:=by
 rcases q with (q | ⟨o,q⟩) | q
 ·rcases hO a with e | ⟨o,ys,e⟩
  ·rw [e] at q;cases q
  ·rw [e] at q;cases q
 ·exact .inl ⟨o,q⟩
 ·exact .inr q
theorem hU.up (h:H p=none):hU H (upd H p o):=fun b u e=>by rw [jG (yA e h)];exact e
end
def oT (K:PySem.W.Frag) (H:Hp) (xs:List V) (Q:VK):Prop:=∀ p H',eZ K H' p xs->hU H H'->Q (.ref p) H'
section
variable {X:Cx}
theorem oT.new {K:PySem.W.Frag} {H:Hp} {xs:List V} {Q:VK} (h:oT K H xs Q):∀ p,H p=none->Q (.ref p) (upd H p (.tup xs)):=fun p hp=>h p _ (eZ.of pW) (hU.up hp)
theorem oT.it {K:PySem.W.Frag} {H:Hp} {xs:List V} {Q:VK} {a:Addr} (h:oT K H xs Q) (q:eZ K H a xs):Q (.ref a) H:=h a H q (hU.refl H)
def qH (K:PySem.W.Frag):R2:=fun x y H Q=>∃ a b xs ys,x=.ref a/\y=.ref b/\eZ K H a xs/\eZ K H b ys/\xs.length + ys.length<=sizeLine/\oT K H (xs ++ ys) Q
theorem uH:kZ X (binaryOp .Add) (qH X.K):=by
 intro pins s σ H x y v u Q I rx ry h
 obtain ⟨a,b,xs,ys,rfl,rfl,ha,hb,hz,q⟩:=h
 by_cases hx:xs=[]
 ·subst hx
  cases rx
  cases ry
  obtain ⟨its,r1,p1,_⟩:=I.tuple ha
  obtain ⟨its2,r2,p2,_⟩:=I.tuple hb
  have e:its=[]:=r1.l9.mpr rfl
  subst e
  obtain ⟨⟨cls,dd,data,sl⟩,ho,hc,n,hd⟩:=id p1
  obtain ⟨⟨F5,dd2,data2,sl2⟩,ho2,hc2,n2,hd2⟩:=id p2
  simp only at hc hd hc2 hd2
  subst hc hd hc2 hd2
  exact concat_meets ⟨_,ho,rfl⟩ ⟨_,ho2,rfl⟩ noFill_tuple_add seq_tuple_add PySem.F.slot_tuple_add PySem.F.entry_tuple_add (PySem.F.args_tuple_add_2 _ _)
   (tuple_addW0 a b #[] its2.toArray n n2 dd dd2 sl sl2 (by simp)) ⟨ho,ho2,⟨.ref b,H,I,rfl,q.it (by simpa using hb)⟩⟩
 ·exact Nq pins s σ H _ _ v u Q I rx ry ⟨a,b,xs,ys,rfl,rfl,ha,hb,hx,hz,fun e=>q.it (by subst e;simpa using ha),fun _=>q.new⟩
theorem NV {prog:Program} {w:World} {A:Around} {E:Value->Shared->Prop} {s:Shared} {t sl:Addr} {items:Array Value} {vl vu:Value} {lo hi:Option Int} {Q:Value->Shared->Prop} (ht:IsTup s.heap t items) (hs:s.heap.IsSliceOf sl vl vu .none) (pl:IsPart vl lo) (pu:IsPart vu hi)
  (hw:HT.cP items.size 0 lo=0/\HT.cP items.size items.size hi=items.size) (h:Q (.ref t) s):wpAny (model prog w) A (getItem (.ref t) (.ref sl)) Q E s:=by
 obtain ⟨os,hos,hcs,hds⟩:=id hs
 have F6:s.TypeIs (.ref sl) "slice" := ⟨os,hos,hcs⟩
 unfold getItem
 try with_reducible refine wpAny_holding ?_
 first | refine wpAny_bind (wpAny_pure ?_) | skip
 refine wpAny_bind (wpAny_sequenceKey ht.typeIs (by decide) ?_)
 refine wpAny_bind (wpAny_callSpecial?_slot (name:=Str.ofString "__getitem__") ht.typeIs PyProof.Rows.slot_tuple_getitem
  (wpAny_call_entry PyProof.Rows.slot_tuple_getitem ht.typeIs entry_tuple_getitem ?_ (args_tuple_getitem _ _)))
 show wpAny _ _ (Builtin.Tuple.tupleItemsOf (.ref t) >>= _) _ _ s
 refine wpAny_bind (tupleItemsOf_ ht ?_)
 refine wpAny_bind (wpAny_typeOf F6 ?_)
 rw [if_pos (by decide)]
 refine wpAny_bind (HT.JE hs pl pu ?_)
 have hyes:((((HT.cP items.size 0 lo:Nat):Int) == 0 && (1:Int) == 1 && (HT.cP items.size items.size hi - HT.cP items.size 0 lo) == items.size)=true):=by
  rw [hw.1,hw.2];simp
 show wpAny _ _ (if (((HT.cP items.size 0 lo:Nat):Int) == 0 && (1:Int) == 1 && (HT.cP items.size items.size hi - HT.cP items.size 0 lo) == items.size)=true then _ else _) _ _ s
 rw [if_pos hyes]
 obtain ⟨o,ho,hc,n,hd⟩:=id ht
 unfold Builtin.Tuple.tupleIsExact
 first
  | exact wpAny_bind (wpAny_bind (wpAny_typeOf (T:="tuple") ⟨o,ho,hc⟩ (wpAny_pure (wpAny_bind (wpAny_rule (wpAny_pure ⟨_,rfl,wpAny_pure h⟩))))))
  | exact wpAny_bind (wpAny_bind (wpAny_typeOf (T:="tuple") ⟨o,ho,hc⟩ (wpAny_pure (wpAny_bind (wpAny_rule (wpAny_bind (wpAny_pure ⟨_,rfl,wpAny_pure h⟩)))))))
  | trace_state
def uI (K:PySem.W.Frag):V->Option Int->Option Int->Hp->VK->Prop:=fun x lo hi H Q=>∃ a xs,x=.ref a/\eZ K H a xs/\oT K H (mB xs lo hi) Q
theorem NW {xs:List V} {lo hi:Option Int} (h:HT.cP xs.length 0 lo=0/\HT.cP xs.length xs.length hi=xs.length):mB xs lo hi=xs:=by
 unfold mB;rw [h.1,h.2];simp
theorem Az:Dt X (uI X.K):=by
 intro pins s σ H x v vl vu lo hi sl Q I rx hs pl pu h
 obtain ⟨a,xs,rfl,hx,q⟩:=h
 by_cases hw:HT.cP xs.length 0 lo=0/\HT.cP xs.length xs.length hi=xs.length
 ·cases rx
  obtain ⟨its,r,ht,hz⟩:=I.tuple hx
  have hlen:its.toArray.size=xs.length:=by rw [List.size_toArray];exact r.length.symm
  refine ⟨"tuple",_,PyProof.Rows.slot_tuple_getitem.lookup,ht.typeIs,?_⟩
  exact NV ht hs pl pu (by rw [hlen];exact hw) ⟨.ref a,H,I,rfl,q.it (by rw [NW hw];exact hx)⟩
 ·exact vV pins s σ H _ v vl vu lo hi sl Q I rx hs pl pu ⟨a,xs,rfl,hx,hw,q.new⟩
def fU (lo:Int) (n:Nat):List V:=(List.range n).map fun (k:Nat)=>V.int (lo + k)
theorem NX (lo:Int) (n:Nat):(fU lo n).length=n:=by simp [fU]
theorem Gs:hJ X (.type "range") (fun xs H Q=>∃ j:Int,xs=[.int j]/\∀ p,H p=none->Q (.ref p) (upd H p (.jf 0 j))):=by
 intro pins s σ H xs us Q I r h
 obtain ⟨j,rfl,q⟩:=h
 obtain ⟨u,rfl,t,rfl⟩:=vals1 r
 refine call_range_1 ⟨.ref s.heap.objs.size,_,I.laid (o:=.jf 0 j) (fun b o e=>Heap.get?_push_of_some _ e) (Nat.le_refl _) ?_,rfl,q _ (I.hok.fresh (Nat.le_refl _))⟩
 exact ⟨_,_,_,Heap.get?_push_size _ rfl⟩
theorem yL:hJ X (.type "range") (fun xs H Q=>∃ i j:Int,xs=[.int i,.int j]/\∀ p,H p=none->Q (.ref p) (upd H p (.jf i j))):=by
 intro pins s σ H xs us Q I r h
 obtain ⟨i,j,rfl,q⟩:=h
 obtain ⟨u,u',rfl,⟨t,rfl⟩,t',rfl⟩:=vals2 r
 refine call_range_2 ⟨.ref s.heap.objs.size,_,I.laid (o:=.jf i j) (fun b o e=>Heap.get?_push_of_some _ e) (Nat.le_refl _) ?_,rfl,q _ (I.hok.fresh (Nat.le_refl _))⟩
 exact ⟨_,_,_,Heap.get?_push_size _ rfl⟩
theorem JZ:∀ (n:Nat) (lo:Int) (us:List Value),us.length=n->(∀ (j:Nat) (v:Value),us[j]?=some v->∃ t,v=.int (lo + j * 1) t)->Vals (fU lo n) us
 | 0,lo,[],_,_=>.nil
 | 0,lo,_ :: _,h,_=>by simp at h
 | n + 1,lo,[],h,_=>by simp at h
 | n + 1,lo,u :: us,h,hv=>by
  have e:fU lo (n + 1)=V.int lo :: fU (lo + 1) n:=by
   unfold fU
   rw [List.range_succ_eq_map,List.map_cons,List.map_map]
   congr 1
   ·simp
   ·apply List.map_congr_left
    intro i _
    simp only [Function.comp]
    congr 1
    push_cast
    omega
  rw [e]
  obtain ⟨t,ht⟩:=hv 0 u rfl
  refine .cons ⟨t,by rw [ht];simp⟩ (JZ n (lo + 1) us (by simpa using h) fun j v hj=>?_)
  obtain ⟨t',ht'⟩:=hv (j + 1) v hj
  refine ⟨t',ht'.trans ?_⟩
  congr 1
  omega
theorem sO (hc:X.calm=true):hJ X (.type "list") (fun xs H Q=>∃ p lo hi,xs=[.ref p]/\H p=some (.jf lo hi)/\(-(2 ^ 62)<=lo/\lo < 2 ^ 62/\-(2 ^ 62)<=hi/\hi < 2 ^ 62)/\(hi - lo).toNat<=2 ^ 24 /\
  ∀ l,H l=none->Q (.ref l) (upd H l (.lst (fU lo (hi - lo).toNat)))):=by
 intro pins s σ H xs us Q I r h
 obtain ⟨p,lo,hi,rfl,hp,⟨b1,b2,b3,b4⟩,hz,q⟩:=h
 obtain ⟨u,rfl,ru⟩:=vals1 r
 cases ru
 obtain ⟨t,t',t'',e⟩:=(show cb X.prog X.w H s.heap p (.jf lo hi) from I.hok p _ hp)
 refine call_list_range (a:=lo) (b:=hi) (c:=1) (n:=(hi - lo).toNat) (I.ok.hd hc) (show IsRange s.heap p lo hi 1 t t' t'' from e) (small_one b1 b2 b3 b4) (by rw [rangeSize_one];split <;> omega) hz fun h' tk acc c kp hD hI=>?_
 refine ⟨.ref s.heap.objs.size,_,I.laid (t':=tk) (o:=.lst (fU lo (hi - lo).toNat)) kp (Nat.le_refl _) ?_,rfl,q _ (I.hok.fresh (Nat.le_refl _))⟩
 refine ⟨by rw [NX];exact Nat.le_trans hz (by decide),acc.toList,c,JZ _ _ _ (by rw [Array.length_toList];exact hI.1) fun j v hj=>hI.2 j v (by rw [<- hj,Array.getElem?_toList]),by simpa using hD⟩
end
mutual
inductive Rep (K:PySem.W.Frag) (H:Hp):V->PyData->Prop
 | non:Rep K H .non .none
 | bl (b:Bool):Rep K H (.bl b) (.bool b)
 | int (i:Int):Rep K H (.int i) (.int i)
 | str (x:Str):Rep K H (.str x) (.str x)
 | tup {a:Addr} {xs:List V} {ds:List PyData}:eZ K H a xs->mC K H xs ds->Rep K H (.ref a) (.tuple ds)
 | lst {a:Addr} {xs:List V} {ds:List PyData}:jg K H a xs->mC K H xs ds->Rep K H (.ref a) (.list ds)
inductive mC (K:PySem.W.Frag) (H:Hp):List V->List PyData->Prop
 | nil:mC K H [] []
 | cons {v:V} {vs:List V} {d:PyData} {ds:List PyData}:Rep K H v d->mC K H vs ds->mC K H (v :: vs) (d :: ds)
end
section
variable {X:Cx} {pins:List (Addr×Obj)} {σ:St} {H:Hp} {s:Shared}
mutual
theorem Rep.reads (I:Inv X pins σ H s):∀ {v:V} {d:PyData} {u:Value},Rep X.K H v d->RelV v u->∃ as,Reads s.heap u d as
 | _,_,_,.non,r=>by cases r;exact ⟨_,.none⟩
 | _,_,_,.bl b,r=>by cases r;exact ⟨_,.bool b⟩
 | _,_,_,.int i,r=>by obtain ⟨t,rfl⟩:=r;exact ⟨_,.int i t⟩
 | _,_,_,.str x,r=>by obtain ⟨t,rfl⟩:=r;exact ⟨_,.str x t⟩
 | _,_,_,.tup q rs,r=>by
  cases r
  obtain ⟨its,rv,⟨o,e,c,n,hd⟩,_⟩:=I.tuple q
  obtain ⟨as,ra⟩:=mC.reads I rs rv
  exact ⟨_,.tuple e c hd (by simpa using ra)⟩
 | _,_,_,.lst q rs,r=>by
  cases r
  obtain ⟨its,rv,pl,_⟩:=I.list q
  obtain ⟨o,e,c,n,hd⟩:=pl.isList
  obtain ⟨as,ra⟩:=mC.reads I rs rv
  exact ⟨_,.list e c hd (by simpa using ra)⟩
theorem mC.reads (I:Inv X pins σ H s):∀ {vs:List V} {ds:List PyData} {us:List Value},mC X.K H vs ds->Vals vs us->∃ as,ReadsAll s.heap us ds as
 | _,_,_,.nil,r=>by cases r;exact ⟨_,.nil⟩
 | _,_,_,.cons h t,r=>by
  cases r with
  | cons r1 r2 =>
   obtain ⟨as,h1⟩:=Rep.reads I h r1
   obtain ⟨bs,h2⟩:=mC.reads I t r2
   exact ⟨_,.cons h1 h2⟩
end
def wm (K:PySem.W.Frag) (neg:Bool):R2:=fun x y H Q=>∃ d e,Rep K H x d/\Rep K H y e/\PyData.canLay0 d=true/\PyData.canLay0 e=true/\min d.depth e.depth<=60/\Q (.bl (if neg then !PyData.eqv d e else PyData.eqv d e)) H
theorem J0 (hu:X.A.units + 64 < cLine):kZ X (compareOp .Eq) (wm X.K false):=by
 intro pins s σ H x y v u Q I rx ry h
 obtain ⟨d,e,hd,he,c1,c2,dp,q⟩:=h
 obtain ⟨as,ra⟩:=hd.reads I rx
 obtain ⟨bs,rb⟩:=he.reads I ry
 exact SeqAt.eqOverData X.prog X.w X.A X.xe s v u d e as bs _ ra rb c1 c2 (by omega) ⟨.bl _,H,I,rfl,q⟩
theorem DF (hu:X.A.units + 64 < cLine):kZ X (compareOp .NotEq) (wm X.K true):=by
 intro pins s σ H x y v u Q I rx ry h
 obtain ⟨d,e,hd,he,c1,c2,dp,q⟩:=h
 obtain ⟨as,ra⟩:=hd.reads I rx
 obtain ⟨bs,rb⟩:=he.reads I ry
 exact SeqAt.neOverData X.prog X.w X.A X.xe s v u d e as bs _ ra rb c1 c2 (by omega) ⟨.bl _,H,I,rfl,q⟩
end
section
variable {K:PySem.W.Frag} {H:Hp}
def i3 (ns:List Int):List PyData:=ns.map PyData.int
theorem Gu:∀ (ns:List Int),PyData.canLayAll0 (i3 ns)=true
 | []=>rfl
 | n :: r=>by show (true && PyData.canLayAll0 (i3 r))=true;rw [Gu r];rfl
theorem J1:∀ (ns:List Int),PyData.depthAll (i3 ns)=0
 | []=>rfl
 | n :: r=>by show max 0 (PyData.depthAll (i3 r))=0;rw [J1 r];rfl
theorem Gv:∀ (ns ms:List Int),PyData.eqvAll (i3 ns) (i3 ms)=decide (ns=ms)
 | [],[]=>rfl
 | [],_ :: _=>rfl
 | _ :: _,[]=>rfl
 | n :: ns,m :: ms=>by
  show ((n == m) && PyData.eqvAll (i3 ns) (i3 ms))=decide (n :: ns=m :: ms)
  rw [Gv ns ms]
  by_cases h:n=m
  ·subst h;simp
  ·simp [h]
end
end L2
namespace L2
open PySem PySem.Spec PyProof.Rows
structure Def (K:PySem.W.Frag) (mg:Str->Option Value) (x:Str) (st:Stmt) (ps:List Str) (f:Addr) (fd:FuncData):Prop where
 F:DE K x x st f fd
 be:∀ us:List Value,us.length=ps.length->bindArgs fd ⟨us,[]⟩=pure (ps.zip us)
 m:mg x=some (.ref f)
theorem Def.b {K:PySem.W.Frag} {mg:Str->Option Value} {x:Str} {st:Stmt} {ps:List Str} {f:Addr} {fd:FuncData} (D:Def K mg x st ps f fd):Binds K fd ps []:=.all D.be
theorem gn {K:PySem.W.Frag} {h:Heap} {mg:Str->Option Value} (X:K.In h) (G:h.Ns mainGlobals mg) {x:Str} {st:Stmt} {ps:List Str} {f:Addr} {oc:Value} {od an:Option Addr} {osl:Array (Option Value)} {kV doc pm cdv ct:Value}
  (hb:∀ (kV doc pm:Value) (an:Option Addr) (cdv ct:Value) (us:List Value),us.length=ps.length->bindArgs (PySem.W.fnOf x x (kH st) (jI st) (aw st) .none kV doc pm an cdv ct) ⟨us,[]⟩=pure (ps.zip us))
  (a:PySem.W.nsIn K mainGlobals x=some (some (.ref f))) (l:K.lookup f=some ⟨oc,od,.func (PySem.W.fnOf x x (kH st) (jI st) (aw st) .none kV doc pm an cdv ct),osl⟩)
  (c:PySem.W.codeIn K cdv x=true) (k:PySem.W.keepIn K (.ref f)=true):∃ f fd,Def K mg x st ps f fd :=
 ⟨f,_,wg l c k,hb kV doc pm an cdv ct,PySem.W.mg_of X G a⟩
theorem Def.sP {K:PySem.W.Frag} {mg:Str->Option Value} {x p:Str} {st:Stmt} {f:Addr} {fd:FuncData} (D:Def K mg x st [p] f fd) (s:Shared) (u:Value):BindsTo s fd ⟨[u],[]⟩ [(p,u)]:=.of_eq (D.be [u] rfl)
theorem pE {K:PySem.W.Frag} {h:Heap} {mg:Str->Option Value} (X:K.In h) (G:h.Ns mainGlobals mg) {x:Str} (z:PySem.W.nsIn K mainGlobals x=some none):mg x=none:=PySem.W.mg_none_of X G z
theorem AA {n j:Nat} (h:j < n):j5 n (j:Int)=some j:=by
 unfold j5
 rw [if_pos (by omega),if_pos (by omega)]
 simp
theorem wo {α:Type} {xs:List α} {i:Int} (h0:0<=i) (h1:i < xs.length):∃ v,gj xs i=some v/\v∈xs:=by
 have hi:i.toNat < xs.length:=by omega
 refine ⟨xs[i.toNat],?_,List.getElem_mem hi⟩
 have:=Du (xs:=xs) (j:=i.toNat) (v:=xs[i.toNat]) (by simp [hi])
 rwa [Int.toNat_of_nonneg h0] at this
theorem dT {c:Prop} [Decidable c] (h:decide c=true):c:=of_decide_eq_true h
end L2
namespace L2
open PySem PySem.Spec PyProof.Rows
section
variable {prog:Program} {w:World} {A:Around} {E:Value->Shared->Prop} {s:Shared}
end
section
variable {X:Cx} {e:Expr} {te:TE} {pos p0 p1 p2:Pos} {j:Nat}
end
end L2
namespace L2
open PySem PySem.Spec PyProof.Rows
section
variable {K:PySem.W.Frag} {f:Addr} {H0:Hp} {σ:St} {i:Nat} {t u ta tb:TE} {R R':V->Hp->Prop} {P P' P2:Int->Prop} {L M:Nat}
end
end L2
namespace L2
open PySem PySem.Spec PyProof.Rows
theorem AB:∀ (names:List (Str×NameKind)) (n:Nat) (acc:List (Str×Addr)),cellsFrom n names acc=cellsFrom n names [] ++ acc
 | [],_,_=>rfl
 | (x,k) :: r,n,acc=>by
  show (if k == .cell then cellsFrom (n + 1) r ((x,n) :: acc) else cellsFrom n r acc)=(if k == .cell then cellsFrom (n + 1) r [(x,n)] else cellsFrom n r []) ++ acc
  by_cases hk:(k == NameKind.cell)=true
  ·rw [if_pos hk,if_pos hk,AB r (n + 1) ((x,n) :: acc),AB r (n + 1) [(x,n)],List.append_assoc];rfl
  ·rw [if_neg hk,if_neg hk];exact AB r n acc
theorem Gw {x:Str} {c:Addr}:∀ (names:List (Str×NameKind)) (n:Nat),(x,c)∈cellsFrom n names []->(x,NameKind.cell)∈names/\n<=c
 | [],_,h=>nomatch h
 | (y,k) :: r,n,h=>by
  have h':(x,c)∈(if k == .cell then cellsFrom (n + 1) r [(y,n)] else cellsFrom n r []):=h
  by_cases hk:(k == NameKind.cell)=true
  ·rw [if_pos hk,AB] at h'
   rcases List.mem_append.mp h' with h' | h'
   ·obtain ⟨h1,h2⟩:=Gw r (n + 1) h'
    exact ⟨List.mem_cons_of_mem _ h1,by omega⟩
   ·have e:(x,c)=(y,n):=by simpa using h'
    cases e
    have e2:k=NameKind.cell:=by simpa using hk
    subst e2
    exact ⟨List.mem_cons_self,Nat.le_refl _⟩
  ·rw [if_neg hk] at h'
   obtain ⟨h1,h2⟩:=Gw r n h'
   exact ⟨List.mem_cons_of_mem _ h1,h2⟩
theorem Gx {env:Env} (f:Str×NameKind->List (Str×Addr)->Sem (ForInStep (List (Str×Addr))))
  (hf:∀ name kind cs,f (name,kind) cs=if kind == .free then (do let c <- cellOf env name;pure (.yield ((name,c) :: cs))) else pure (.yield cs)) :
  ∀ (names:List (Str×NameKind)) (acc:List (Str×Addr)),(∀ y∈names,y.2=NameKind.free->∃ c,env.cells.lookup y.1=some c) ->
   ∃ cl,(forIn names acc f:Sem (List (Str×Addr)))=pure cl/\(∀ n c,(n,c)∈cl->(n,c)∈acc\/(env.cells.lookup n=some c/\(n,NameKind.free)∈names))/\(∀ p∈acc,p∈cl)/\∀ n,(n,NameKind.free)∈names->∃ c,(n,c)∈cl
 | [],acc,_=>⟨acc,by rw [List.forIn_nil],fun n c h=>.inl h,fun p h=>h,fun n h=>nomatch h⟩
 | (x,k) :: r,acc,h=>by
  have hr:∀ y∈r,y.2=NameKind.free->∃ c,env.cells.lookup y.1=some c:=fun y hy=>h y (List.mem_cons_of_mem _ hy)
  by_cases hk:k=NameKind.free
  ·subst hk
   obtain ⟨c,hc⟩:=h (x,.free) List.mem_cons_self rfl
   have e:cellOf env x=pure c:=by unfold cellOf;rw [hc]
   obtain ⟨cl,e1,h1,h2,h3⟩:=Gx f hf r ((x,c) :: acc) hr
   refine ⟨cl,?_,fun n d hd=>?_,fun p hp=>h2 p (List.mem_cons_of_mem _ hp),fun n hn=>?_⟩
   ·rw [List.forIn_cons,hf,if_pos (by rfl),e]
    exact e1
   ·rcases h1 n d hd with q | ⟨q,q'⟩
    ·rcases List.mem_cons.mp q with q | q
     ·cases q;exact .inr ⟨hc,List.mem_cons_self⟩
     ·exact .inl q
    ·exact .inr ⟨q,List.mem_cons_of_mem _ q'⟩
   ·rcases List.mem_cons.mp hn with q | q
    ·cases q;exact ⟨c,h2 _ List.mem_cons_self⟩
    ·exact h3 n q
  ·obtain ⟨cl,e1,h1,h2,h3⟩:=Gx f hf r acc hr
   have hb:¬ ((k == NameKind.free)=true):=by simpa using hk
   refine ⟨cl,?_,fun n d hd=>?_,h2,fun n hn=>?_⟩
   ·rw [List.forIn_cons,hf,if_neg hb]
    exact e1
   ·rcases h1 n d hd with q | ⟨q,q'⟩
    ·exact .inl q
    ·exact .inr ⟨q,List.mem_cons_of_mem _ q'⟩
   ·rcases List.mem_cons.mp hn with q | q
    ·cases q;exact absurd rfl hk
    ·exact h3 n q
theorem J2 {scope:Scope} {env:Env} (h:∀ y∈scope.names,y.2=NameKind.free->∃ c,env.cells.lookup y.1=some c) :
  ∃ cl,closureFor scope env=pure cl/\(∀ n c,(n,c)∈cl->env.cells.lookup n=some c/\(n,NameKind.free)∈scope.names)/\∀ n,(n,NameKind.free)∈scope.names->∃ c,(n,c)∈cl:=by
 have key:∀ (f:Str×NameKind->List (Str×Addr)->Sem (ForInStep (List (Str×Addr)))),(∀ name kind cs,f (name,kind) cs=if kind == .free then (do let c <- cellOf env name;pure (.yield ((name,c) :: cs))) else pure (.yield cs)) ->
   ∃ cl,((forIn scope.names [] f:Sem (List (Str×Addr))) >>= fun r=>pure r)=pure cl/\(∀ n c,(n,c)∈cl->env.cells.lookup n=some c/\(n,NameKind.free)∈scope.names)/\∀ n,(n,NameKind.free)∈scope.names->∃ c,(n,c)∈cl:=fun f hf=>by
  obtain ⟨cl,e,h1,_,h3⟩:=Gx f hf scope.names [] h
  refine ⟨cl,?_,fun n c hc=>(h1 n c hc).elim (fun z=>nomatch z) id,h3⟩
  rw [e]
  rfl
 simp only [closureFor]
 exact key _ fun name kind cs=>by cases hk:kind == NameKind.free <;> simp [hk]
theorem ltN {a b:Addr} (h:a < b):@LT.lt Nat _ a b:=h
theorem vJ {a b:Addr} (h:@LT.lt Nat _ a b):a≠b:=Nat.ne_of_lt h
theorem J3 {a b:Addr} (h:@LT.lt Nat _ b a):a≠b:=Nat.ne_of_gt h
theorem NY {M:Model} {A:Around} {E:Value->Shared->Prop} {s:Shared} {scope:Scope} {g:Addr} {cl:List (Str×Addr)} {q:Str} {env:Env} {Q:Env->Shared->Prop}
  (h:∀ h',h'.Ns s.heap.objs.size (fun _=>none)->(∀ b o,s.heap.get? b=some o->h'.get? b=some o)->CellsOk h' (s.heap.objs.size + 1) (cellsFrom (s.heap.objs.size + 1) scope.names []) ->
   Q { scope:=scope,locals:=s.heap.objs.size,globals:=g,cells:=cellsFrom (s.heap.objs.size + 1) scope.names cl,qual:=q,func:=none,code:=env.code,frame:=env.frame,builtins:=env.builtins } { s with heap:=h' }) :
  wpAny M A (newFunctionEnv scope g cl [] q none .none (some env)) Q E s:=by
 simp only [newFunctionEnv,Option.isSome_some,if_true]
 refine wpAny_bind (wpAny_alloc ?_)
 refine wpAny_bind (wpAny_layCells _ (fun name kind cells=>by cases hkc:kind == NameKind.cell <;> simp [hkc]) _ _ _ _ ?_)
 have ok:=cellsFrom_ok scope.names (s.heap.push { cls:=.type "dict",data:=.dict #[] }) (s.heap.objs.size + 1) [] ⟨fun _ _ hm=>(nomatch hm),List.Pairwise.nil⟩ (by rw [Heap.size_push];exact Nat.le_refl _)
 rw [Heap.size_push] at ok
 rw [show ({ s with heap:=s.heap.push { cls:=.type "dict",data:=.dict #[] } }:Shared).heap.objs.size=s.heap.objs.size + 1 from Heap.size_push ..]
 refine wpAny_bind ?_
 rw [List.forIn_nil]
 refine wpAny_pure (wpAny_pure ?_)
 exact h _ ((Heap.Ns.new s.heap (.type "dict")).keeps (pushCells_keeps _ _)) (fun b o e=>pushCells_keeps _ _ b o (Heap.get?_push_of_some _ e)) ok
def aV (X:Cx) (N:List Str) (scope:Scope) (cells:List (Str×Addr)) (C:Addr) (fp:List Addr) (s:Shared) (H:Hp):Cx where
 prog:=X.prog
 w:=X.w
 K:=X.K
 mg:=X.mg
 base:=X.base
 A:=X.A
 N:=N
 s₀:=s
 H₀:=H
 env:=compEnvC scope cells C X.env
 outer:=X.stack
 stack:=X.stack
 ex:=fp
 fn:=fun x=>decide (scope.names.lookup x=some .cell)
 calm:=X.calm
 pn:=[]
 xe:=fun _ _=>False
structure AE (sc scope:Scope) (own fr:List Str):Prop where
 kind:scope.kind=.function
 nd:(own ++ fr).Nodup
 yM:(scope.names.map (·.1)).Nodup
 free:∀ y∈scope.names,y.2=.free->sc.names.lookup y.1=some .cell\/sc.names.lookup y.1=some .free
 Gy:∀ x∈fr,scope.names.lookup x=some .free
structure fV (X:Cx) (scope:Scope) (own fr:List Str) (js:List Nat):Prop where
 c:AE X.env.scope scope own fr
 ix:js.map (fun j=>X.N[j]?)=fr.map some
theorem fV.kind {X:Cx} {scope:Scope} {own fr:List Str} {js:List Nat} (S:fV X scope own fr js):scope.kind=.function:=S.c.kind
theorem fV.yM {X:Cx} {scope:Scope} {own fr:List Str} {js:List Nat} (S:fV X scope own fr js):(scope.names.map (·.1)).Nodup:=S.c.yM
theorem fV.Gy {X:Cx} {scope:Scope} {own fr:List Str} {js:List Nat} (S:fV X scope own fr js):∀ x∈fr,scope.names.lookup x=some .free:=S.c.Gy
theorem fV.free {X:Cx} {scope:Scope} {own fr:List Str} {js:List Nat} (S:fV X scope own fr js):∀ y∈scope.names,y.2=.free->X.env.kindOf y.1=some .cell\/X.env.kindOf y.1=some .free:=S.c.free
theorem AF {α:Type}:∀ {l:List (Str×α)} {n:Str} {c:α},(l.map (·.1)).Nodup->(n,c)∈l->l.lookup n=some c
 | (k,v) :: r,n,c,nd,h=>by
  obtain ⟨h1,h2⟩:=List.nodup_cons.mp nd
  rw [List.lookup_cons]
  rcases List.mem_cons.mp h with e | h
  ·cases e;simp
  ·have:(n == k)=false:=beq_eq_false_iff_ne.mpr fun e=>h1 (by rw [<- e];exact List.mem_map.mpr ⟨(n,c),h,rfl⟩)
   rw [this]
   exact AF h2 h
theorem J4 (scope:Scope) (env:Env) (x:Str):(relabel scope env).names.lookup x=none/\scope.names.lookup x=none \/
  ∃ k,scope.names.lookup x=some k/\(relabel scope env).names.lookup x=some (if (k == .free && env.scope.kind == .function && env.kindOf x == some .cell) then .cell else k):=by
 have key:∀ names:List (Str×NameKind),(names.map fun (n,k)=>if (k == NameKind.free && env.scope.kind == .function && env.kindOf n == some .cell) then (n,NameKind.cell) else (n,k)).lookup x=none/\names.lookup x=none \/
   ∃ k,names.lookup x=some k/\(names.map fun (n,k)=>if (k == NameKind.free && env.scope.kind == .function && env.kindOf n == some .cell) then (n,NameKind.cell) else (n,k)).lookup x=some (if (k == .free && env.scope.kind == .function && env.kindOf x == some .cell) then .cell else k):=by
  intro names
  induction names with
  | nil=>exact .inl ⟨rfl,rfl⟩
  | cons p r ih =>
   obtain ⟨n,k⟩:=p
   rw [List.map_cons]
   cases hx:x == n with
   | true =>
    have e:x=n:=by simpa using hx
    subst e
    refine .inr ⟨k,by simp [List.lookup_cons],?_⟩
    by_cases hc:(k == NameKind.free && env.scope.kind == .function && env.kindOf x == some .cell)=true
    ·simp only [if_pos hc];simp [List.lookup_cons]
    ·simp only [if_neg hc];simp [List.lookup_cons]
   | false =>
    have e1:∀ q:NameKind,(((n,q) :: (r.map fun (n,k)=>if (k == NameKind.free && env.scope.kind == .function && env.kindOf n == some .cell) then (n,NameKind.cell) else (n,k))).lookup x)=((r.map fun (n,k)=>if (k == NameKind.free && env.scope.kind == .function && env.kindOf n == some .cell) then (n,NameKind.cell) else (n,k)).lookup x):=fun q=>by rw [List.lookup_cons,hx]
    have e2:((n,k) :: r).lookup x=r.lookup x:=by rw [List.lookup_cons,hx]
    rw [e2]
    by_cases hc:(k == NameKind.free && env.scope.kind == .function && env.kindOf n == some .cell)=true
    ·simp only [if_pos hc];rw [e1];exact ih
    ·simp only [if_neg hc];rw [e1];exact ih
 exact key scope.names
def ji (n:Nat) (js:List Nat) (σ:St):St:=List.replicate n none ++ js.map fun j=>σ.getD j none
theorem Inv.AG {X:Cx} {pins:List (Addr×Obj)} {σ:St} {H:Hp} {s:Shared} {a:Addr} {o:HO} (I:Inv X pins σ H s) (f:gL X pins H a) (new:cb X.prog X.w (upd H a o) s.heap a o):Inv X pins σ (upd H a o) s:=by
 obtain ⟨f0,f1,f2,f3,f4,f5⟩:=f
 have ne:∀ b u,H b=some u->b≠a:=fun b u e z=>by rw [z,f0] at e;cases e
 refine I.step (h':=s.heap) (H':=upd H a o) (g':=s.gens) (d':=s.drawn) (t':=s.toks) (ch:=[a]) (fun b hb=>?_) (fun b u _ _ _ e _=>e) (fun b u _ _ _ e _=>⟨u.slots,e⟩) (fun b u hb e n=>?_) (fun b u _ e=>⟨u,e⟩)
  (fun b xs e=>by rw [jG (ne b _ e)];exact e) (fun b u xs e=>by rw [jG (ne b _ e)];exact e) (fun b ps e=>⟨#[],by rw [jG (ne b _ e),e];simp⟩) (fun m hm=>hm) (fun b u e=>?_) I.bare
 ·have e:b=a:=by simpa using hb
  subst e
  exact ⟨f3,f1,f4,f5⟩
 ·rw [jG (fun z=>hb (by simp [z]))];exact n
 ·by_cases hb:b=a
  ·subst hb;rw [pW] at e;cases e;exact new
  ·rw [jG hb] at e
   exact (I.hok b u e).stay (fun c v _ q=>q) (fun c q=>by rw [jG (ne c _ q)];exact q) fun c xs q=>by rw [jG (ne c _ q)];exact q
def PF (X:Cx) (ifs:List Expr) (t:TT):Prop :=
 ∀ (pins:List (Addr×Obj)) (s:Shared) (σ:St) (H:Hp) (Q:Bool->Hp->Prop),Inv X pins σ H s->t σ H Q ->
  wpAny (model X.prog X.w) X.A (forIn ifs true fun c r=>if r=true then do let ok <- isTrue c X.env (eval c X.env);pure (ForInStep.yield ok) else pure (ForInStep.yield r)) (TP X pins σ Q) X.xe s
theorem rJ {X:Cx}:PF X [] (fun _ H Q=>Q true H):=fun _ _ _ H _ I h=>wpAny_tests_nil ⟨H,I,h⟩
theorem J5 {X:Cx} {c:Expr} {t:TT} (h:PT X c t):PF X [c] t:=fun pins s σ H Q I hw=>wpAny_tests_one (h pins s σ H Q I hw)
theorem NZ {prog:Program} {w:World} {A:Around} {R:Result->Shared->Prop} {s:Shared} {elt target iter:Expr} {ifs:List Expr} {scope:Scope} {pos:Pos} {it acc:Value} {env:Env} (I:Nat->Shared->Prop)
  (turn:∀ n s,I n s->wpAny (model prog w) A (pyNext it) (fun r s₁=>match r with
   | none=>R (.ok .next) s₁
   | some v=>wpAny (model prog w) A (letOwnedTupleGo target it v) (fun _ s₁'=>wpAny (model prog w) A (assign target env v) (fun _ s₂ =>
     wpAny (model prog w) A (forIn ifs true fun c r=>if r=true then do let ok <- isTrue c env (eval c env);pure (ForInStep.yield ok) else pure (ForInStep.yield r)) (fun ok s₃ =>
      if ok=true then wpAny (model prog w) A (eval elt env) (fun x s₄ =>
       wpAny (model prog w) A (call (.builtin "list.append") [acc,x]) (fun _ s₅=>∃ m,m < n/\I m s₅) (fun _ _=>False) s₄) (fun _ _=>False) s₃
      else ∃ m,m < n/\I m s₃) (fun _ _=>False) s₂) (fun _ _=>False) s₁') (fun _ _=>False) s₁) (fun _ _=>False) s)
  (n:Nat) (h:I n s) :
  codeAny (model prog w) A (.compLoop (.ListComp elt [⟨target,iter,ifs,0⟩] scope pos) 0 it acc env) R s:=by
 refine codeAny_loop rfl I (fun n s hI=>?_) n h
 show wpAny _ A ((compTurn (.ListComp elt [⟨target,iter,ifs,0⟩] scope pos) 0 it acc env).onRaise (fun x=>do noteFrame x env;theTreesLotGoes x)) _ _ s
 refine wpAny_noted ?_
 rw [compTurn_list]
 refine wpAny_bind (wpAny_standAt (wpAny_bind (wpAny_mono (turn n s hI) (fun r s₁ h₁=>?_) fun _ _ h'=>h'.elim)))
 cases r with
 | none=>exact wpAny_pure h₁
 | some v =>
  refine wpAny_bind (wpAny_mono h₁ (fun _ s₁' h₁'=>?_) fun _ _ h'=>h'.elim)
  refine wpAny_bind (wpAny_mono h₁' (fun _ s₂ h₂=>wpAny_bind (wpAny_mono h₂ (fun ok s₃ h₃=>?_) fun _ _ h'=>h'.elim)) fun _ _ h'=>h'.elim)
  cases ok with
  | false=>exact wpAny_pure ⟨rfl,h₃⟩
  | true =>
   exact wpAny_bind (wpAny_bind (wpAny_mono h₃ (fun x s₄ h₄=>wpAny_bind (wpAny_mono h₄ (fun _ s₅ h₅=>wpAny_pure (wpAny_pure ⟨rfl,h₅⟩)) fun _ _ h'=>h'.elim)) fun _ _ h'=>h'.elim))
def wq (J:It) (n:Nat) (js:List Nat) (g:TG) (tc:TT) (te:TE) (σ:St) (H1:Hp) (Q:VK):Prop :=
 ∃ W:Nat->Nat->List V->St->Hp->Prop,(∃ m,W 0 m [] (ji n js σ) H1)/\∀ i m ys σ' H',W i m ys σ' H' ->
  ys.length < sizeLine/\((J.stop i H'/\∀ p,H' p=none->Q (.ref p) (upd H' p (.lst ys))) \/
   (J.go i H'/\∀ x H2,J.sA i H' x H2->g x σ' H2 fun σ2 H3=>tc σ2 H3 fun b H4=>if b=true then te σ2 H4 fun y H5=>∃ m',m' < m/\W (i + 1) m' (ys ++ [y]) σ2 H5 else ∃ m',m' < m/\W (i + 1) m' ys σ2 H4))
def qI (wi:TI) (n:Nat) (js:List Nat) (g:TG) (tc:TT) (te:TE):TE:=fun σ H Q=>wi σ H fun J H1=>wq J n js g tc te σ H1 Q
section
variable {X:Cx} {pins:List (Addr×Obj)} {σ:St} {tg iter elt:Expr} {ifs:List Expr} {scope:Scope} {pos:Pos} {own fr:List Str} {js:List Nat} {g:TG} {tc:TT} {te:TE} {wi:TI}
theorem J7 {H2:Hp} {s2:Shared} {it:Addr} {fp:List Addr} {tn:Nat->Heap->Prop} {J:It} {Q:VK} {E:Value->Shared->Prop} {cl:List (Str×Addr)} {RR:Value->Addr->Result->Shared->Prop}
  (hc:X.calm=true) (S:fV X scope own fr js) (hg:∀ cells C fp s H,PG (aV X (own ++ fr) scope cells C fp s H) tg g) (hf:∀ cells C fp s H,PF (aV X (own ++ fr) scope cells C fp s H) ifs tc) (he:∀ cells C fp s H,PE (aV X (own ++ fr) scope cells C fp s H) elt te)
  (I2:Inv X pins σ H2 s2) (T:Turn X.prog X.w X.K tg J fp it tn) (st2:tn 0 s2.heap) (f2:∀ b∈fp,gL X pins H2 b)
  (oU:∀ n c,(n,c)∈cl->X.env.cells.lookup n=some c/\(n,NameKind.free)∈scope.names) (qJ:∀ n,(n,NameKind.free)∈scope.names->∃ c,(n,c)∈cl)
  (W:Nat->Nat->List V->St->Hp->Prop) (m0:Nat) (w0:W 0 m0 [] (ji own.length js σ) H2)
  (turn:∀ i m ys σ' H',W i m ys σ' H'->ys.length < sizeLine/\((J.stop i H'/\∀ p,H' p=none->Q (.ref p) (upd H' p (.lst ys))) \/
   (J.go i H'/\∀ x H2,J.sA i H' x H2->g x σ' H2 fun σ2 H3=>tc σ2 H3 fun b H4=>if b=true then te σ2 H4 fun y H5=>∃ m',m' < m/\W (i + 1) m' (ys ++ [y]) σ2 H5 else ∃ m',m' < m/\W (i + 1) m' ys σ2 H4)))
  (fin:∀ (acc C:Addr) (H':Hp) (s':Shared) (v:V),v=.ref acc->Inv X pins σ H' s'->gL X pins H' C->(∃ m,s'.heap.Ns C m)->Q v H'->RR (.ref acc) C (.ok .next) s') :
  wpAny (model X.prog X.w) X.A (newList []) (fun acc s3=>wpAny (model X.prog X.w) X.A (newFunctionEnv scope X.env.globals cl [] X.env.qual none .none (some X.env)) (fun cenv s4 =>
   codeAny (model X.prog X.w) X.A (.compStart (.ListComp elt [⟨tg,iter,ifs,0⟩] scope pos) 0 (.ref it) acc { cenv with scope:=relabel scope X.env }) (RR acc cenv.locals) s4) E s3) E s2:=by
 refine wpAny_newObj_type ?_
 refine NY fun h4 hns J8 nF=>?_
 have hA:s2.heap.objs.size < (s2.heap.push { cls:=.type "list",data:=.seq ([]:List Value).toArray }).objs.size:=by rw [Heap.size_push];exact Nat.lt_succ_self _
 generalize hC:(s2.heap.push { cls:=.type "list",data:=.seq ([]:List Value).toArray }).objs.size=C at hns nF hA ⊢
 generalize hac:s2.heap.objs.size=acc at hA ⊢
 have Gz:acc≠C:=Nat.ne_of_lt hA
 have old:∀ b o,s2.heap.get? b=some o->h4.get? b=some o:=fun b o e=>J8 b o (Heap.get?_push_of_some _ e)
 have hacc:h4.get? acc=some { cls:=.type "list",data:=.seq ([]:List Value).toArray }:=J8 _ _ (by rw [<- hac];exact Heap.get?_push_size _ rfl)
 have GA:∀ x c,(x,c)∈cellsFrom (C + 1) scope.names []->h4.IsCell c none/\C + 1<=c/\scope.names.lookup x=some .cell:=fun x c h=>⟨(nF.empty x c h).1,(nF.empty x c h).2,AF S.yM (Gw _ _ h).1⟩
 have lk:∀ x c,(cellsFrom (C + 1) scope.names cl).lookup x=some c->(h4.IsCell c none/\C + 1<=c/\(x,c)∈cellsFrom (C + 1) scope.names [])\/(X.env.cells.lookup x=some c/\scope.names.lookup x=some .free):=fun x c h=>by
  rw [AB] at h
  rcases List.mem_append.mp (PySem.mem_of_lookup h) with q | q
  ·exact .inl ⟨(GA x c q).1,(GA x c q).2.1,q⟩
  ·exact .inr ⟨(oU x c q).1,AF S.yM (oU x c q).2⟩
 have GB:∀ x c,X.env.cells.lookup x=some c->c < s2.heap.objs.size:=fun x c h=>by
  obtain ⟨v,z⟩:=I2.cell x c h
  exact z.lt
 have pF:∀ x c,(cellsFrom (C + 1) scope.names cl).lookup x=some c->c≠C/\c≠acc/\H2 c=none/\∀ b∈fp,c≠b:=fun x c h=>by
  rcases lk x c h with ⟨_,h1,_⟩ | ⟨h1,_⟩
  ·refine ⟨J3 (by omega),J3 (by omega),I2.hok.fresh (by omega),fun b hb z=>?_⟩
   obtain ⟨o,e,_⟩:=T.obj 0 _ st2 b hb
   have:=ltN (Heap.lt_size e)
   rw [<- z] at this
   omega
  ·have:=ltN (GB x c h1)
   exact ⟨vJ (by omega),vJ (by omega),I2.j4 x c h1,fun b hb=>(f2 b hb).2.2.2.2.1 x c h1⟩
 have AH:∀ x,scope.names.lookup x=some .free->∃ c,X.env.cells.lookup x=some c/\(cellsFrom (C + 1) scope.names cl).lookup x=some c:=fun x h=>by
  obtain ⟨c,ip⟩:=qJ x (PySem.mem_of_lookup h)
  have hc1:=(oU x c ip).1
  have hs:((cellsFrom (C + 1) scope.names cl).lookup x).isSome=true:=by
   refine PySem.W.cellsFrom_some scope.names (C + 1) cl (.inr ?_)
   cases q:cl.lookup x with
   | some d=>rfl
   | none =>
    exfalso
    have:∀ {l:List (Str×Addr)},(x,c)∈l->l.lookup x≠none:=by
     intro l
     induction l with
     | nil=>intro h;exact nomatch h
     | cons p r ih =>
      intro h z
      obtain ⟨k,v⟩:=p
      rw [List.lookup_cons] at z
      cases hb:x == k with
      | true=>rw [hb] at z;cases z
      | false =>
       rw [hb] at z
       rcases List.mem_cons.mp h with e | h
       ·cases e;simp at hb
       ·exact ih h z
    exact this ip q
  obtain ⟨d,hd⟩:=Option.isSome_iff_exists.mp hs
  rcases lk x d hd with ⟨_,_,h2⟩ | ⟨h1,_⟩
  ·have:=(GA x d h2).2.2
   rw [h] at this;cases this
  ·rw [hc1] at h1;cases h1
   exact ⟨c,hc1,hd⟩
 have DG:∀ b∈fp,b≠C/\b≠acc:=fun b hb=>by
  obtain ⟨o,e,_⟩:=T.obj 0 _ st2 b hb
  have:=ltN (Heap.lt_size e)
  exact ⟨vJ (by omega),vJ (by omega)⟩
 have N0:(relabel scope X.env).kind=.function:=S.kind
 have ok:(aV X (own ++ fr) scope (cellsFrom (C + 1) scope.names cl) C fp s2 H2).Ok:=by
  refine ⟨I2.ok.mod,N0,I2.ok.glob,I2.ok.blt,?_,fun x y c h1 h2=>?_,fun x hx=>?_,fun x c hx h=>?_,I2.ok.hd,I2.ok.frames,.inl rfl,fun b hb=>⟨(DG b hb).1,fun x c h=>(pF x c h).2.2.2 b hb⟩,I2.bs,Nat.le_trans I2.ok.rC I2.sz,fun b o e hb=>?_,fun b hb z=>?_,I2.stack,I2.pe⟩
  ·show s2.heap.objs.size<=C
   omega
  ·rcases lk x c h1 with ⟨_,q1,q2⟩ | ⟨q1,_⟩
   ·rcases lk y c h2 with ⟨_,r1,r2⟩ | ⟨r1,_⟩
    ·exact name_of_addr nF.apart q2 r2
    ·have:=ltN (GB y c r1);omega
   ·rcases lk y c h2 with ⟨_,r1,r2⟩ | ⟨r1,_⟩
    ·have:=ltN (GB x c q1);omega
    ·exact I2.ok.inj x y c q1 r1
  ·have hx':(relabel scope X.env).names.lookup x=some .cell\/(relabel scope X.env).names.lookup x=some .free:=hx
   rcases J4 scope X.env x with ⟨e,_⟩ | ⟨k,e1,e2⟩
   ·rcases hx' with z | z <;> (rw [e] at z;cases z)
   ·by_cases hk:k=.free
    ·subst hk
     obtain ⟨c,_,h⟩:=AH x e1
     exact ⟨c,h⟩
    ·have hk':k=.cell:=by
      have hb:(k == NameKind.free)=false:=beq_eq_false_iff_ne.mpr hk
      rw [hb] at e2
      simp only [Bool.false_and,Bool.false_eq_true,if_false] at e2
      rcases hx' with z | z
      ·rw [e2] at z;exact Option.some.inj z
      ·rw [e2] at z;exact absurd (Option.some.inj z) hk
     subst hk'
     exact Option.isSome_iff_exists.mp (PySem.W.cellsFrom_some scope.names (C + 1) cl (.inl e1))
  ·have hx':scope.names.lookup x=some .cell:=of_decide_eq_true hx
   show s2.heap.objs.size<=c
   rcases lk x c h with ⟨_,q,_⟩ | ⟨_,q⟩
   ·omega
   ·rw [hx'] at q;cases q
  ·rcases (f2 b hb).2.2.2.1 with z | z
   ·exact I2.ok.oP b o e z
   ·have h1:@LT.lt Nat _ b X.base.objs.size:=Heap.lt_size e
    have h2:=I2.ok.rC
    omega
  ·rcases List.mem_cons.mp (I2.mw b z) with e | e
   ·exact (f2 b hb).2.1 e
   ·exact (f2 b hb).2.2.1 e
 have I4:Inv (aV X (own ++ fr) scope (cellsFrom (C + 1) scope.names cl) C fp s2 H2) [(acc,{ cls:=.type "list",data:=.seq ([]:List Value).toArray })] (ji own.length js σ) H2 { s2 with heap:=h4 }:=by
  refine ⟨ok,rfl,I2.bare,Un.kept old,⟨_,hns,fun i x v e1 e2 e3=>?_⟩,fun x c h=>?_,I2.hok.fresh (by show s2.heap.objs.size<=C;omega),fun x c h=>(pF x c h).2.2.1,fun p hp=>?_,I2.hok.kept old,?_⟩
  ·have GC:(own ++ fr)[i]?=some x:=e1
   unfold ji at e2
   by_cases hi:i < own.length
   ·rw [List.getElem?_append_left (by simpa using hi),List.getElem?_replicate] at e2
    split at e2 <;> cases e2
   ·rw [List.getElem?_append_right (by simpa using hi),List.length_replicate,List.getElem?_map] at e2
    rw [List.getElem?_append_right (by omega)] at GC
    cases hj:js[i - own.length]? with
    | none=>rw [hj] at e2;cases e2
    | some j =>
     rw [hj] at e2
     have AI:σ.getD j none=some v:=Option.some.inj e2
     have hN:X.N[j]?=some x:=by
      have q:=congrArg (fun l=>l[i - own.length]?) S.ix
      simp only [List.getElem?_map,hj,GC,Option.map_some] at q
      exact Option.some.inj q
     have hσ:σ[j]?=some (some v):=by
      rw [List.getD_eq_getElem?_getD] at AI
      cases q:σ[j]? with
      | none=>rw [q] at AI;cases AI
      | some o=>rw [q] at AI;exact congrArg some AI
     have hfr:scope.names.lookup x=some .free:=S.Gy x (List.mem_of_getElem? GC)
     have hk:=S.free _ (PySem.mem_of_lookup hfr) rfl
     obtain ⟨m,_,hl⟩:=I2.loc
     obtain ⟨u,ru,lo⟩:=hl j x v hN hσ (by rcases hk with k | k;exact .inr (.inl k);exact .inr (.inr k))
     refine ⟨u,ru,.inr ⟨?_,?_⟩⟩
     ·rcases J4 scope X.env x with ⟨_,e⟩ | ⟨k,q1,q2⟩
      ·rw [hfr] at e;cases e
      ·rw [hfr] at q1;cases q1
       have N1:(compEnvC scope (cellsFrom (C + 1) scope.names cl) C X.env).kindOf x=some (if (NameKind.free == .free && X.env.scope.kind == .function && X.env.kindOf x == some .cell)=true then .cell else .free):=q2
       rw [show (aV X (own ++ fr) scope (cellsFrom (C + 1) scope.names cl) C fp s2 H2).env.kindOf x=_ from N1]
       split
       ·exact .inl rfl
       ·exact .inr rfl
     ·rcases lo with ⟨k,_⟩ | ⟨_,c,hc1,hc2⟩
      ·rcases hk with k' | k' <;> (rw [k] at k';cases k')
      ·obtain ⟨d,hd1,hd2⟩:=AH x hfr
       rw [hc1] at hd1;cases hd1
       exact ⟨c,hd2,hc2.keeps old⟩
  ·rcases lk x c h with ⟨q,_,_⟩ | ⟨q,_⟩
   ·exact ⟨_,q⟩
   ·obtain ⟨v,z⟩:=I2.cell x c q
    exact ⟨v,z.keeps old⟩
  ·have e:p=(acc,{ cls:=.type "list",data:=.seq ([]:List Value).toArray }):=by simpa [aV] using hp
   subst e
   refine ⟨hacc,I2.hok.fresh (by omega),Gz,fun z=>?_,fun v z=>nomatch z⟩
   rcases List.mem_cons.mp (I2.mw acc z) with e | e
   ·have:=ltN I2.lt
    rw [<- e] at this
    omega
   ·exact I2.zJ (by omega) e
  ·show (ji own.length js σ).length=(own ++ fr).length
   have q:=congrArg List.length S.ix
   simp only [List.length_map] at q
   unfold ji
   rw [List.length_append,List.length_replicate,List.length_map,List.length_append,q]
 have GD:∀ {H':Hp} {ob:Obj},(∀ b∈fp,H' b=none)->∀ b∈fp,gL (aV X (own ++ fr) scope (cellsFrom (C + 1) scope.names cl) C fp s2 H2) [(acc,ob)] H' b:=fun {H' ob} hn b hb =>
  ⟨hn b hb,(DG b hb).1,fun z=>by
   rcases List.mem_cons.mp (I2.mw b z) with e | e
   ·exact (f2 b hb).2.1 e
   ·exact (f2 b hb).2.2.1 e,.inl hb,fun x c h=>(pF x c h).2.2.2 b hb,fun p hp=>by
   have e:p=(acc,ob):=by simpa [aV] using hp
   subst e
   exact fun z=>(DG b hb).2 z.symm⟩
 have loop:codeAny (model X.prog X.w) X.A (.compLoop (.ListComp elt [⟨tg,iter,ifs,0⟩] scope pos) 0 (.ref it) (.ref acc) (compEnvC scope (cellsFrom (C + 1) scope.names cl) C X.env)) (RR (.ref acc) C) { s2 with heap:=h4 }:=by
  refine NZ (fun m s'=>∃ (i:Nat) (ys:List V) (its:List Value) (n:Nat) (σ':St) (H':Hp),Inv (aV X (own ++ fr) scope (cellsFrom (C + 1) scope.names cl) C fp s2 H2) [(acc,{ cls:=.type "list",data:=.seq its.toArray n })] σ' H' s'/\Vals ys its/\tn i s'.heap/\(∀ b∈fp,H' b=none)/\W i m ys σ' H') ?_ m0
   ⟨0,[],[],0,_,H2,I4,.nil,T.keep _ _ _ st2 fun b _ o e=>old b o e,fun b hb=>(f2 b hb).1,w0⟩
  rintro n s5 ⟨i,ys,its,en,σ5,H5,I5,rv,j9,Ds,w5⟩
  obtain ⟨hz,alt⟩:=turn i n ys σ5 H5 w5
  rcases alt with ⟨stop,qn⟩ | ⟨go,step⟩
  ·refine cC (T.done (aV X (own ++ fr) scope (cellsFrom (C + 1) scope.names cl) C fp s2 H2) rfl rfl rfl hc i _ s5 σ5 H5 _ I5 (GD Ds) j9 stop) fun r s6 ⟨hr,I6⟩=>?_
   subst hr
   show RR (.ref acc) C (.ok .next) s6
   have u:Un (frs X.stack) fp H2 H5 s2.heap s6.heap:=I6.base
   have J6:Inv X pins σ H5 s6:=I2.zM I6.os u I6.hok I6.bare fun b hb=>⟨(f2 b hb).2.2.2.1,(f2 b hb).2.1,(f2 b hb).2.2.2.2.1,(f2 b hb).2.2.2.2.2⟩
   have pacc:=I6.pin (acc,_) (List.mem_append_right _ List.mem_cons_self)
   have GF:gL X pins H5 acc:=I2.nB (by omega) pacc.2.1
   have fC:gL X pins H5 C:=I2.nB (by omega) I6.free
   have K6:Inv X pins σ (upd H5 acc (.lst ys)) s6:=J6.AG GF ⟨Nat.le_of_lt hz,its,en,rv,pacc.1⟩
   obtain ⟨m,hm,_⟩:=I6.loc
   exact fin acc C _ s6 (.ref acc) rfl K6 ⟨by rw [jG Gz.symm];exact fC.1,fC.2⟩ ⟨m,hm⟩ (qn acc pacc.2.1)
  ·refine cC (T.item (aV X (own ++ fr) scope (cellsFrom (C + 1) scope.names cl) C fp s2 H2) rfl rfl rfl hc i _ s5 σ5 H5 _ I5 (GD Ds) j9 go) fun r s6 ⟨u,hr,h6⟩=>?_
   subst hr
   refine cC h6 fun _ s7 ⟨x,H7,I7,r7,y7,p6,N2⟩=>?_
   have N3:=I7.pinned (GD N2) (T.obj _ _ p6)
   refine cC (hg _ _ _ _ _ _ s7 σ5 H7 x u _ N3 r7 (step x H7 y7)) fun _ s8 ⟨σ8,H8,I8,q8⟩=>?_
   refine cC (hf _ _ _ _ _ _ s8 σ8 H8 _ I8 q8) fun b s9 ⟨H9,I9,q9⟩=>?_
   have DH:∀ {s':Shared} {σ':St} {H':Hp},Inv (aV X (own ++ fr) scope (cellsFrom (C + 1) scope.names cl) C fp s2 H2) ([(acc,{ cls:=.type "list",data:=.seq its.toArray en })] ++ mx fp s7.heap) σ' H' s'->tn (i + 1) s'.heap/\∀ b∈fp,H' b=none:=fun {s' σ' H'} I' =>
    ⟨T.keep _ _ _ p6 fun b hb o e=>(I'.pin (b,o) (List.mem_append_right _ (List.mem_append_right _ (Dq hb e)))).1,fun b hb=>by
     obtain ⟨o,e,d⟩:=T.obj _ _ p6 b hb
     exact (I'.pin (b,o) (List.mem_append_right _ (List.mem_append_right _ (Dq hb e)))).2.1⟩
   cases b with
   | false =>
    obtain ⟨m',hm,w9⟩:=q9
    exact ⟨m',hm,i + 1,ys,its,en,σ8,H9,I9.kE,rv,(DH I9).1,(DH I9).2,w9⟩
   | true =>
    refine cC (he _ _ _ _ _ _ s9 σ8 H9 _ I9 q9) fun y wt ⟨yv,GG,DI,N4,m',hm,GH⟩=>?_
    have pacc:=DI.pin (acc,_) (List.mem_append_right _ (List.mem_append_left _ List.mem_cons_self))
    have hlen:=rv.length
    refine wpAny_list_append_plain (items:=its.toArray) ⟨en,pacc.1⟩ (fun h11 ⟨J9,GI⟩ AJ=>?_) (by simp only [List.size_toArray];omega)
    have cA:∀ x c,(cellsFrom (C + 1) scope.names cl).lookup x=some c->c≠acc:=fun x c h=>(pF x c h).2.1
    have Ia:Inv (aV X (own ++ fr) scope (cellsFrom (C + 1) scope.names cl) C fp s2 H2) [] σ8 GG wt:=DI.l8 fun p hp=>nomatch hp
    have Ib:Inv (aV X (own ++ fr) scope (cellsFrom (C + 1) scope.names cl) C fp s2 H2) [] σ8 GG { wt with heap:=h11 }:=Ia.turned (it:=acc) (t':=wt.toks) (fun b o hb e=>(AJ.2 b hb).trans e) pacc.2.1 Gz (.inr (by show s2.heap.objs.size<=acc;omega)) cA fun p hp=>nomatch (show p∈([]:List (Addr×Obj)) from by simpa [aV] using hp)
    refine ⟨m',hm,i + 1,ys ++ [yv],its ++ [y],J9,σ8,GG,Ib.l8 fun p hp=>?_,rv.append (.cons N4 .nil),T.keep _ _ _ (DH DI).1 fun b hb o e=>(AJ.2 b (DG b hb).2).trans e,(DH DI).2,GH⟩
    have e:p=(acc,{ cls:=.type "list",data:=.seq (its ++ [y]).toArray J9 }):=by simpa using hp
    subst e
    exact ⟨by simpa using GI,pacc.2.1,pacc.2.2.1,pacc.2.2.2.1,fun v z=>nomatch z⟩
 exact codeAny_compStart_list loop (T.self X.A 0 _ _ _ (T.keep _ _ _ st2 fun b _ o e=>old b o e) loop)
theorem rK (hc:X.calm=true) (S:fV X scope own fr js) (hi:PI X tg iter wi) (hg:∀ cells C fp s H,PG (aV X (own ++ fr) scope cells C fp s H) tg g) (hf:∀ cells C fp s H,PF (aV X (own ++ fr) scope cells C fp s H) ifs tc) (he:∀ cells C fp s H,PE (aV X (own ++ fr) scope cells C fp s H) elt te)
  (hs:∀ x,foldedSetIterable iter X.env x=pure x:=by intro _;rfl):PE X (.ListComp elt [⟨tg,iter,ifs,0⟩] scope pos) (qI wi own.length js g tc te):=by
 intro pins s σ H Q I h
 obtain ⟨cl,hcl,oU,qJ⟩:=J2 (scope:=scope) (env:=X.env) fun y hy hk=>I.ok.has y.1 (S.free y hy hk)
 rw [eval_ListComp]
 refine wpAny_comprehension_free (use:=none) rfl hs hcl S.kind (fun y hy hk=>by rw [<- hk];exact AF S.yM hy) (cC (hi pins s σ H _ I h) fun v s1 h1=>cC h1 fun itv s2 h2=>?_)
 obtain ⟨it,fp,tn,J,H2,e,I2,T,st2,f2,W,⟨m0,w0⟩,turn⟩:=h2
 subst e
 refine J7 (RR:=fun acc C=>compPost (model X.prog X.w) X.A X.xe none (EP X pins σ Q) acc C) hc S hg hf he I2 T st2 f2 oU qJ W m0 w0 turn ?_
 intro acc C H' s' v hv I' fC ⟨m,hm⟩ q
 subst hv
 obtain ⟨f0,f1,N5,f3,f4,f5⟩:=fC
 exact ⟨m,hm,fun h'' wu=>⟨.ref acc,H',I'.turned (it:=C) (t':=s'.toks) (fun b o hb e=>(wu.2 b hb).trans e) f0 f1 f3 f4 f5,rfl,q⟩⟩
theorem Ka {i:Nat} {x:Str} {pos' spos:Pos} (hc:X.calm=true) (hN:X.N.Nodup) (hx:X.N[i]?=some x) (hl:X.env.scope.names.lookup x=some .local) (S:fV X scope own fr js) (hi:PI X tg iter wi) (hg:∀ cells C fp s H,PG (aV X (own ++ fr) scope cells C fp s H) tg g) (hf:∀ cells C fp s H,PF (aV X (own ++ fr) scope cells C fp s H) ifs tc) (he:∀ cells C fp s H,PE (aV X (own ++ fr) scope cells C fp s H) elt te)
  (hsw:swapsWith (.ListComp elt [⟨tg,iter,ifs,0⟩] scope pos) (some (.Name x pos')) spos.line X.env=pure true:=by rfl)
  (hs:∀ x,foldedSetIterable iter X.env x=pure x:=by intro _;rfl):PS X (.Assign [.Name x pos'] (.ListComp elt [⟨tg,iter,ifs,0⟩] scope pos) spos) (sy (qI wi own.length js g tc te) (om i)):=by
 intro pins s σ H D I h
 obtain ⟨cl,hcl,oU,qJ⟩:=J2 (scope:=scope) (env:=X.env) fun y hy hk=>I.ok.has y.1 (S.free y hy hk)
 rw [exec_Assign_Name_used _ _ _ _ hsw]
 refine wpAny_bind (wpAny_standAt (wpAny_bind ?_))
 show wpAny _ X.A (do let _ <- comprehension (.ListComp elt [⟨tg,iter,ifs,0⟩] scope pos) scope X.env _ (newList []) false (eval iter X.env) (some (assign (.Name x pos') X.env))) _ _ s
 refine wpAny_bind (wpAny_mono (wpAny_comprehension_free (use:=some (assign (.Name x pos') X.env)) (Q:=fun _ s'=>SP X pins D .next s') rfl hs hcl S.kind (fun y hy hk=>by rw [<- hk];exact AF S.yM hy)
  (cC (hi pins s σ H _ I h) fun v s1 h1=>cC h1 fun itv s2 h2=>?_)) (fun _ s' hq=>wpAny_pure (wpAny_pure hq)) fun _ _ e=>e)
 obtain ⟨it,fp,tn,J,H2,e,I2,T,st2,f2,W,⟨m0,w0⟩,turn⟩:=h2
 subst e
 refine J7 (Q:=fun v H'=>om i v σ H' D.nx) (RR:=fun acc C=>compPost (model X.prog X.w) X.A X.xe (some (assign (.Name x pos') X.env)) (fun _ s'=>SP X pins D .next s') acc C) hc S hg hf he I2 T st2 f2 oU qJ W m0 w0 turn ?_
 intro acc C H' s' v hv I' fC ⟨m,hm⟩ q
 subst hv
 obtain ⟨f0,f1,N5,f3,f4,f5⟩:=fC
 show wpAny _ X.A (assign (.Name x pos') X.env (.ref acc)) _ _ _
 refine wpAny_assign_Name (Jd I' hN hx (.inl hl) (show RelV (.ref acc) (.ref acc) from rfl) (fun s'' N6 ⟨a,hs1,ha⟩=>?_) (.inr hl))
 have haC:a≠C:=by
  rcases ha with e | e
  ·rw [e];exact f1.symm
  ·exact f4 _ _ e
 exact ⟨m,hm.sameBut hs1 haC.symm,fun h'' wu=>⟨_,H',N6.turned (it:=C) (t':=s''.toks) (fun b o hb e=>(wu.2 b hb).trans e) f0 f1 f3 f4 f5,q⟩⟩
end
end L2
namespace L2
open PySem PySem.Spec PyProof.Rows
section
variable {X:Cx}
theorem Kb:∀ {bs:List Bool} {us:List Value} {i:Nat} {v:Value},Vals (bs.map V.bl) us->us[i]?=some v->∃ b,bs[i]?=some b/\v=.bool b
 | [],_,i,v,r,h=>by cases r;simp at h
 | b :: bs,_,0,v,r,h=>by
  cases r with
  | cons r1 r2 =>
   cases (show _=Value.bool b from r1)
   simp at h
   exact ⟨b,rfl,h.symm⟩
 | b :: bs,_,i + 1,v,r,h=>by
  cases r with
  | cons r1 r2 =>
   obtain ⟨c,e1,e2⟩:=Kb (i:=i) r2 (by simpa using h)
   exact ⟨c,by simpa using e1,e2⟩
theorem N7 (hc:X.calm=true):hJ X (.builtin "all") (fun xs H Q=>∃ (p:Addr) (bs:List Bool),xs=[.ref p]/\jg X.K H p (bs.map V.bl)/\Q (.bl (bs.all id)) H):=by
 intro pins s σ H xs us Q I r h
 obtain ⟨p,bs,rfl,hq,q⟩:=h
 obtain ⟨u,rfl,ru⟩:=vals1 r
 cases ru
 obtain ⟨its,rv,pl,_⟩:=I.list hq
 have hl:=pl.isList
 have hlt:p < s.heap.objs.size:=by obtain ⟨_,e,_⟩:=hl;exact Heap.lt_size e
 have hlen:=rv.length
 rw [List.length_map] at hlen
 have hh:X.A.in1.handled=none:=I.ok.hd hc
 refine call_all_walk (wpAny_pyIter_list hl ?_)
 refine ⟨s.heap.objs.size,[s.heap.objs.size,p],[s.heap.objs.size],its.toArray.size,_,_,fun i=>(bs[i]?).getD true,rfl,Walks.list (A:=X.A.in1) hh _ p (Nat.ne_of_lt hlt) its.toArray,
  ⟨⟨_,Heap.get?_push_size _ rfl,rfl,rfl⟩,hl.push _⟩,fun i v s' Q' E' hP hQ=>?_,fun h' tk hk=>?_⟩
 ·obtain ⟨b,e,rfl⟩:=Kb rv (by simpa using hP)
  simp only [e,Option.getD_some] at hQ
  exact wpAny_truthy_bool hQ
 ·have e:((List.range its.toArray.size).all fun i=>(bs[i]?).getD true)=bs.all id:=by
   rw [List.size_toArray,<- hlen];exact PyProof.Rows.LSm.range_all bs
  rw [e]
  exact ⟨.bl _,H,I.kept (PyProof.Rows.LSm.kept_iter hk),rfl,q⟩
end
section
variable {prog:Program} {w:World} {A:Around} {E:Value->Shared->Prop} {s:Shared}
end
section
variable {X:Cx}
end
section
variable {K:PySem.W.Frag} {ch:List Addr} {H H':Hp}
end
end L2
namespace L2
open PySem PySem.Spec PyProof.Rows
section
variable {X:Cx} {K:PySem.W.Frag}
theorem N8 (hK:X.K=K):An X (vW K):=by subst hK;exact kG
theorem GJ (hK:X.K=K):An X (vX K):=by subst hK;exact bI
theorem Kc (hK:X.K=K):kZ X (compareOp .NotIn) (Gb K true):=by subst hK;exact JK
end
end L2
namespace L2
open PySem PySem.Spec PyProof.Rows
section
variable {prog:Program} {w:World} {A:Around} {E:Value->Shared->Prop} {s:Shared}
theorem N9 {j t:Addr} {i:Nat} {ys:Array Value} {y:Value} {Q:Value->Shared->Prop} (hj:s.heap.IsTupleIter j t i) (ht:s.heap.IsTuple t ys) (hy:ys[i]?=some y)
  (hQ:∀ h',h'.IsTupleIter j t (i + 1)->Heap.SameBut j s.heap h'->Q y { s with heap:=h' }):wpAny (model prog w) A (Builtin.SmallTypes.nextOf (.ref j)) Q E s:=by
 obtain ⟨r,hr,rc,rd⟩:=id hj
 obtain ⟨q,hq,_,nq,dq⟩:=ht
 unfold Builtin.SmallTypes.nextOf
 refine wpAny_bind (wpAny_callSpecial?_slot (name:=Str.ofString "__next__") hj.typeIs F.slot_tuple_iterator_next (wpAny_call_entry F.slot_tuple_iterator_next hj.typeIs F.entry_tuple_iterator_next ?_ (F.args_tuple_iterator_next_1 _)))
 show wpAny _ _ (PySem.field (.ref j) 0 >>= _) _ _ s
 refine wpAny_bind (wpAny_field hr rd (x:=.ref t) rfl ?_);show wpAny _ _ (if (Value.ref t == Value.none)=true then _ else _) _ _ s
 rw [if_neg (fun z:(Value.ref t == Value.none)=true=>Bool.false_ne_true z)];show wpAny _ _ (PySem.field (.ref j) 1 >>= _) _ _ s
 refine wpAny_bind (wpAny_field hr rd (x:=.int i 0) rfl ?_);show wpAny _ _ (seqItems? (.ref t) >>= _) _ _ s
 refine wpAny_bind (wpAny_seqItems hq dq ?_);simp only [Int.toNat_natCast,hy]
 refine wpAny_bind (wpAny_setField hr rd (by simp) (wpAny_pure ⟨y,rfl,wpAny_pure (hQ _ ⟨_,Heap.get?_update_self _ hr (Obj.isFreed_of_fields (Obj.data_mapFields rd _)),(Obj.cls_mapFields ..).trans rc,by rw [Obj.data_mapFields rd];simp [rawInt]⟩ (Heap.SameBut.update ..))⟩))
theorem Oa {j t:Addr} {i:Nat} {ys:Array Value} {Q:Value->Shared->Prop} (hh:A.handled=none) (hj:s.heap.IsTupleIter j t i) (ht:s.heap.IsTuple t ys) (hy:ys[i]?=none)
  (hE:∀ h' e,Heap.ExtBut j s.heap h'->(∃ o,h'.get? e=some o/\o.cls=.type "StopIteration")->E (.ref e) { s with heap:=h' }):wpAny (model prog w) A (Builtin.SmallTypes.nextOf (.ref j)) Q E s:=by
 obtain ⟨r,hr,rc,rd⟩:=id hj
 obtain ⟨q,hq,_,nq,dq⟩:=ht
 unfold Builtin.SmallTypes.nextOf
 refine wpAny_bind (wpAny_callSpecial?_slot (name:=Str.ofString "__next__") hj.typeIs F.slot_tuple_iterator_next (wpAny_call_entry F.slot_tuple_iterator_next hj.typeIs F.entry_tuple_iterator_next ?_ (F.args_tuple_iterator_next_1 _)))
 show wpAny _ _ (PySem.field (.ref j) 0 >>= _) _ _ s
 refine wpAny_bind (wpAny_field hr rd (x:=.ref t) rfl ?_);show wpAny _ _ (if (Value.ref t == Value.none)=true then _ else _) _ _ s
 rw [if_neg (fun z:(Value.ref t == Value.none)=true=>Bool.false_ne_true z)];show wpAny _ _ (PySem.field (.ref j) 1 >>= _) _ _ s
 refine wpAny_bind (wpAny_field hr rd (x:=.int i 0) rfl ?_);show wpAny _ _ (seqItems? (.ref t) >>= _) _ _ s
 refine wpAny_bind (wpAny_seqItems hq dq ?_);simp only [Int.toNat_natCast,hy]
 refine wpAny_bind (wpAny_rule (wpAny_bind (wpAny_setField hr rd (by simp) ?_)));show wpAny _ _ (newExc (.type "StopIteration") [] >>= _) _ _ _
 refine wpAny_bind ?_;simp only [newExc,newTuple]
 refine wpAny_bind (wpAny_newObj_type ?_ (by size_fits));refine wpAny_bind (m:=firstArgMember _ _) (wpAny_of_eq (a:=Value.none) (by first | rfl | (simp only [firstArgMember];rfl)) ?_)
 refine wpAny_newObj_type ?_ (by size_fits);simp only [raiseNew]
 refine wpAny_bind (wpAny_handled ?_);first | rw [show A.in1.handled=none from hh] | rw [hh]
 exact wpAny_bind (wpAny_pure (wpAny_throw (hE _ _ (((Heap.SameBut.update ..).extBut.push _).push _) ⟨_,Heap.get?_push_size _ rfl,rfl⟩)))
end
theorem nG {prog:Program} {w:World} {A:Around} (hh:A.handled=none) (j t:Addr) (hne:t≠j) (ys:Array Value) :
  Draws prog w A j [j,t] ys.size (fun i v=>ys[i]?=some v) (fun i h=>h.IsTupleIter j t i/\h.IsTuple t ys) where
 live:=fun _ _ st=>let ⟨o,ho,_⟩:=st.1;⟨o,ho⟩
 frame:=fun _ _ _ st k=>⟨st.1.at fun o e=>k j (by simp) o e,let ⟨o,e,r⟩:=st.2;⟨o,k t (by simp) o e,r⟩⟩
 item:=fun i s Q E hi st hQ=>N9 st.1 st.2 (y:=ys[i]) (by simp [hi]) fun h' a b=>hQ _ h' s.toks (by simp [hi]) ⟨a,st.2.extBut b.extBut hne⟩ b
 done:=fun s Q E st hE=>Oa hh st.1 st.2 (by simp) hE
theorem Ob (l:Addr) (items:Array Value) (n:Nat) (dct:Option Addr) (sl:Array (Option Value)) :
  Meets (Builtin.«enumerate.__new__» ⟨[.type "enumerate",.ref l],[]⟩) (fun _ R s=>s.heap.get? l=some { cls:=.type "tuple",dict:=dct,data:=.seq items n,slots:=sl } /\
   R (.ok (.ret (.ref (s.heap.push { cls:=.type "tuple_iterator",data:=.fields #[.ref l,.int 0 0] }).objs.size)))
    { s with heap:=(s.heap.push { cls:=.type "tuple_iterator",data:=.fields #[.ref l,.int 0 0] }).push { cls:=.type "enumerate",data:=.fields #[.none,.bool false,.ref s.heap.objs.size,rawInt 0,.none,.none] } }) :=
 .of_wp fun prog w A R s h=>by
  obtain ⟨hp,g,d,tk,os⟩:=s;obtain ⟨hl,h⟩:=h
  have hsub:=sub_enumerate
  have hL:Heap.IsTuple (Shared.heap ⟨hp,g,d,tk,os⟩) l items:=⟨_,hl,rfl,n,rfl⟩
  wp_walk using AutoSeq1.wpAny_loadPart' hl
  refine wpAny_stack_any fun st=>wpAny_pure ?_
  split
  ·rename_i c _ _ _ _ _
   cases (c == Value.type "enumerate") <;> (wp_walk using AutoSeq1.wpAny_loadPart' hl,wpAny_pyIter_tuple hL;exact ⟨_,rfl,h⟩)
  ·wp_walk using AutoSeq1.wpAny_loadPart' hl,wpAny_pyIter_tuple hL
   exact ⟨_,rfl,h⟩
section
variable {prog:Program} {w:World} {A:Around} {E:Value->Shared->Prop} {s:Shared}
theorem Oc {l:Addr} {ys:Array Value} {Q:Value->Shared->Prop} (ht:s.heap.IsTuple l ys)
  (h:∀ h',IsEnum h' (s.heap.objs.size + 1) s.heap.objs.size 0 .none->h'.IsTupleIter s.heap.objs.size l 0->h'.objs.size=s.heap.objs.size + 2 ->
   (∀ b o,s.heap.get? b=some o->h'.get? b=some o)->Q (.ref (s.heap.objs.size + 1)) { s with heap:=h' }):wpAny (model prog w) A (call (.type "enumerate") [.ref l]) Q E s:=by
 obtain ⟨⟨c,dct,dt,sl⟩,hl,hc,n,hd⟩:=ht
 cases (show c=.type "tuple" from hc)
 cases (show dt=.seq ys n from hd)
 refine callType_new F.called_enumerate (by decide) (F.typeCall_enumerate_1 _) (F.newCall_enumerate_1 _) (fun obj=>F.args_object_init_2 obj _) F.entry_enumerate_new (Ob l ys n dct sl) ⟨hl,?_⟩
 have z:(s.heap.push { cls:=.type "tuple_iterator",data:=.fields #[.ref l,.int 0 0] }).objs.size=s.heap.objs.size + 1:=Heap.size_push ..
 show _/\_;rw [z]
 have en:IsEnum ((s.heap.push { cls:=.type "tuple_iterator",data:=.fields #[.ref l,.int 0 0] }).push { cls:=.type "enumerate",data:=.fields #[.none,.bool false,.ref s.heap.objs.size,rawInt 0,.none,.none] }) (s.heap.objs.size + 1) s.heap.objs.size 0 .none:=by
  have g:=Heap.get?_push_size (s.heap.push { cls:=.type "tuple_iterator",data:=.fields #[.ref l,.int 0 0] }) (o:={ cls:=.type "enumerate",data:=.fields #[.none,.bool false,.ref s.heap.objs.size,rawInt 0,.none,.none] }) rfl
  rw [z] at g
  exact g
 exact ⟨⟨_,en,rfl⟩,h _ en ⟨_,Heap.get?_push_of_some _ (Heap.get?_push_size _ rfl),rfl,rfl⟩ (by rw [Heap.size_push,z]) fun b o e=>Heap.get?_push_of_some _ (Heap.get?_push_of_some _ e)⟩
end
section
variable {X:Cx} {pins:List (Addr×Obj)} {σ:St} {H:Hp} {s:Shared} {h':Heap}
theorem Inv.nH {t':Nat} {ch:List Addr} (I:Inv X pins σ H s) (k:∀ b o,b ∉ ch->s.heap.get? b=some o->h'.get? b=some o) (f:∀ b∈ch,gL X pins H b):Inv X pins σ H { s with heap:=h',toks:=t' }:=by
 have zL:∀ b u,H b=some u->b ∉ ch:=fun b u e z=>by rw [(f b z).1] at e;cases e
 refine I.step (g':=s.gens) (d':=s.drawn) (ch:=ch) (fun b hb=>⟨(f b hb).2.2.2.1,(f b hb).2.1,(f b hb).2.2.2.2.1,(f b hb).2.2.2.2.2⟩) (fun b o _ _ hc e _=>k b o hc e) (fun b o _ _ hc e _=>⟨o.slots,k b o hc e⟩) (fun _ _ _ _ n=>n)
  (fun b o hc e=>⟨o,k b o hc e⟩) (fun _ _ e=>e) (fun _ _ _ e=>e) (fun b ps e=>⟨#[],by rw [e];simp⟩) (fun m hm=>?_) (fun b u e=>?_) I.bare
 ·obtain ⟨o,es,ep,ho,r⟩:=hm
  exact ⟨o,es,ep,k _ o (fun z=>(f _ z).2.1 rfl) ho,r⟩
 ·refine (I.hok b u e).stay (fun c v hc q=>k c v ?_ q) (fun _ q=>q) fun _ _ q=>q
  rcases hc with z | z
  ·rw [z];exact zL b u e
  ·exact zL c _ z
end
def Kd (K:PySem.W.Frag) (a:Addr):It :=
 ⟨fun i H=>∃ xs x,eZ K H a xs/\xs[i]?=some x,fun i H x H'=>∃ p y,x=.ref p/\H p=none/\H'=upd H p (.tup [.int i,y])/\∀ xs,eZ K H a xs->xs[i]?=some y,fun i H=>∃ xs,eZ K H a xs/\xs.length=i⟩
theorem Od {P:Program} {w:World} {K:PySem.W.Frag} {es:List Expr} {x1} {pos:Pos} (a e it:Addr) (hne:e≠it) :
  Turn P w K (.Tuple es x1 pos) (Kd K a) [e,it] e (fun i h=>(∃ old,IsEnum h e it i old)/\h.IsTupleIter it a i) where
 mem:=by simp
 obj:=fun i h st b hb=>by
  obtain ⟨⟨old,he⟩,o,e2,c,d⟩:=st
  rcases List.mem_cons.mp hb with rfl | hb
  ·exact ⟨_,he,fun v z=>by
    have z':Data.fields _=Data.cell v:=z
    cases z'⟩
  ·have q:b=it:=by simpa using hb
   subst q
   exact ⟨o,e2,fun v z=>by rw [d] at z;cases z⟩
 keep:=fun i h h' st k=>⟨let ⟨old,he⟩:=st.1;⟨old,k e (by simp) _ he⟩,st.2.at fun o q=>k it (by simp) o q⟩
 item:=by
  intro X hP hw hK hc i pins s σ H E I hf st hg
  subst hP hw hK
  obtain ⟨xs,x,hq,hx⟩:=hg
  obtain ⟨its,rv,p,hz⟩:=I.tuple hq
  obtain ⟨u,hu,ru⟩:=rv.get hx
  obtain ⟨⟨old,he⟩,hit⟩:=st
  have ht:s.heap.IsTuple a its.toArray:=p
  have GK:a≠it:=fun z=>by
   obtain ⟨o,e1,c1,_⟩:=hit
   obtain ⟨o2,e2,c2,_⟩:=ht
   rw [z,e1] at e2;cases e2
   exact absurd (c1.symm.trans c2) (by simp)
  have Oe:e≠a:=fun z=>by
   obtain ⟨o2,e2,c2,_⟩:=ht
   rw [<- z,he] at e2;cases e2
   exact absurd c2 (by simp)
  have hl:=rv.length
  have hi:i < its.toArray.size:=by
   have:=List.getElem?_eq_some_iff.mp hu
   obtain ⟨q,_⟩:=this
   simpa using q
  refine wpAny_pyNext_enum_itemD (nG (A:=X.A.in1) (I.ok.hd hc) it a GK its.toArray) he ⟨hit,ht⟩ hi hne (by simp [hne,Oe]) fun y h1 tk hy ho hst hT hsz kk=>?_
  have ey:y=u:=by
   have:its.toArray[i]?=some u:=by simpa using hu
   exact Option.some.inj (hy.symm.trans this)
  subst ey
  refine ⟨_,rfl,wpAny_letOwnedTupleGo_enum ho fun h2 Og sb=>?_⟩
  have hel:@LT.lt Nat _ e s.heap.objs.size:=Heap.lt_size he
  have hil:@LT.lt Nat _ it s.heap.objs.size:=by obtain ⟨o,e1,_⟩:=hit;exact Heap.lt_size e1
  have GL:H s.heap.objs.size=none:=I.hok.fresh (Nat.le_refl _)
  have sb':Heap.SameBut e h1 h2:=sb
  have I1:Inv X pins σ (upd H s.heap.objs.size (.tup [.int i,x])) { s with heap:=s.heap.push { cls:=.type "tuple",data:=.seq #[.int i tk,y] },toks:=s.toks } :=
   I.laid (fun b u e=>Heap.get?_push_of_some _ e) (Nat.le_refl _) ⟨(by decide:2<=sizeLine),[.int i tk,y],.cons ⟨tk,rfl⟩ (.cons ru .nil),⟨_,Heap.get?_push_size _ rfl,rfl,rfl,_,rfl⟩⟩
  have nn:∀ b∈[e,it],@LT.lt Nat _ b s.heap.objs.size:=fun b hb=>by
   rcases List.mem_cons.mp hb with rfl | hb
   ·exact hel
   ·have q:b=it:=by simpa using hb
    rw [q];exact hil
  have hn:∀ b∈[e,it],upd H s.heap.objs.size (.tup [.int i,x]) b=none:=fun b hb=>by
   unfold upd
   rw [if_neg (Nat.ne_of_lt (nn b hb))]
   exact (hf b hb).1
  have I2:Inv X pins σ (upd H s.heap.objs.size (.tup [.int i,x])) { s with heap:=h2,toks:=tk + 1 }:=by
   refine Inv.nH (s:={ s with heap:=s.heap.push { cls:=.type "tuple",data:=.seq #[.int i tk,y] },toks:=s.toks }) (h':=h2) I1 (ch:=[e,it]) (t':=tk + 1) (fun b o hb q=>?_) fun b hb=>⟨hn b hb,(hf b hb).2⟩
   have nb:b≠e/\b≠it:=by simpa using hb
   refine (sb'.2 b nb.1).trans ?_
   rcases Heap.get?_push_cases q with ⟨rfl,rfl⟩ | q
   ·exact hT
   ·exact kk b o nb.1 nb.2 q
  refine ⟨.ref s.heap.objs.size,_,I2,rfl,⟨_,x,rfl,GL,rfl,fun ys Oh=>by rw [I.g9 Oh hq];exact hx⟩,⟨⟨y,?_⟩,?_⟩,hn⟩
  ·have:((i + 1:Nat):Int)=(i:Int) + 1:=by omega
   rw [this];exact Og
  ·exact hst.1.extBut sb'.extBut (Ne.symm hne)
 done:=by
  intro X hP hw hK hc i pins s σ H E I hf st hg
  subst hP hw hK
  obtain ⟨xs,hq,hx⟩:=hg
  obtain ⟨its,rv,p,hz⟩:=I.tuple hq
  obtain ⟨⟨old,he⟩,hit⟩:=st
  have ht:s.heap.IsTuple a its.toArray:=p
  have GK:a≠it:=fun z=>by
   obtain ⟨o,e1,c1,_⟩:=hit
   obtain ⟨o2,e2,c2,_⟩:=ht
   rw [z,e1] at e2;cases e2
   exact absurd (c1.symm.trans c2) (by simp)
  have hl:=rv.length
  have ei:its.toArray.size=i:=by simp;omega
  refine wpAny_pyNext_enum_endD (nG (A:=X.A.in1) (I.ok.hd hc) it a GK its.toArray) he (by rw [ei];exact ⟨hit,ht⟩) fun h1 eb=>⟨rfl,?_⟩
  obtain ⟨f0,f1,f2,f3,f4,f5⟩:=hf it (by simp)
  exact I.turned (t':=s.toks) (fun b o hb q=>eb b o hb q) f0 f1 f3 f4 f5
 self:=fun _ _ _ _ _ st h=>let ⟨_,he⟩:=st.1;wpAny_pyIter_enum he h
def uJ (K:PySem.W.Frag) (ta:TA):TI:=fun σ H R=>ta σ H fun vs H1=>∃ a,vs=[.ref a]/\(∃ xs,eZ K H1 a xs)/\R (Kd K a) H1
theorem Ke {X:Cx} {es:List Expr} {x1} {p0:Pos} {l:Expr} {ta:TA} {p pos:Pos} (hg:Gl X "enumerate") (hm:X.mg "enumerate" = none) (ha:PA X [l] ta) (hs:starEach [l] X.env=[(false,eval l X.env)]:=by rfl) :
  PI X (.Tuple es x1 p0) (.Call (.Name "enumerate" p) [l] [] pos) (uJ X.K ta):=by
 intro pins s σ H R I h
 refine Call_ (uh I hg hm boot_enumerate (PyProof.Rows.callWith_type1 (cC (ha pos pins s σ H _ I h) fun us s1 ⟨vs,H1,I1,r1,q1⟩=>?_) hs rfl))
 obtain ⟨a,e,⟨xs,hq⟩,q⟩:=q1
 subst e
 cases r1 with
 | cons r rr =>
  cases rr
  cases r
  obtain ⟨its,rv,p,hz⟩:=I1.tuple hq
  refine Oc (show s1.heap.IsTuple a its.toArray from p) fun h1 he hi hsz kk=>?_
  refine wpAny_pyIter_enum he ?_
  refine ⟨s1.heap.objs.size + 1,[s1.heap.objs.size + 1,s1.heap.objs.size],_,_,H1,rfl,I1.kept (t':=s1.toks) kk,Od a _ _ (Nat.succ_ne_self _),⟨⟨_,he⟩,hi⟩,fun b hb=>?_,q⟩
  have hb':@LE.le Nat _ s1.heap.objs.size b:=by
   rcases List.mem_cons.mp hb with rfl | hb
   ·exact Nat.le_succ _
   ·have e:b=s1.heap.objs.size:=by simpa using hb
    rw [e];exact Nat.le_refl _
  exact I1.nB hb' (I1.hok.fresh hb')
end L2
namespace L2
open PySem PySem.Spec PyProof.Rows
section
open Sem (wp)
open PySem.AutoSeq1 (wpAny_loadPart')
open PySem.MeetsSeq PySem.MeetsSeq2 PySem.MeetsSeq3
theorem IntsAre.get {vs:List Value} {ns:List Int} (h:IntsAre vs ns):∀ {i:Nat} {n:Int},ns[i]?=some n->∃ t,vs[i]?=some (.int n t):=by
 induction h with
 | nil=>intro i n e;simp at e
 | cons a t h ih =>
  intro i n e
  cases i with
  | zero=>exact ⟨t,by simpa using e⟩
  | succ i=>simpa using ih (by simpa using e)
theorem qK (l:Addr) (items:Array Value) (n:Nat) (dd:Option Addr) (sl:Array (Option Value)) (ns:List Int) (hi:IntsAre items.toList ns) (v:Int) (t:Tok) (j:Nat) (hj:ns[j]?=some v) (hb:∀ i,i < j->ns[i]?≠some v) :
  Meets (Builtin.«tuple.index» ⟨[.ref l,.int v t],[]⟩)
   (fun _ R s=>s.heap.get? l=some { cls:=.type "tuple",dict:=dd,data:=.seq items n,slots:=sl }/\R (.ok (.ret (.int (j:Int) s.toks))) { s with toks:=s.toks + 1 }) :=
 .of_wp fun prog w A R s h=>by
  obtain ⟨hp,g,d,tk,os⟩:=s;obtain ⟨hl,h⟩:=h
  have z1:items.size=ns.length:=by rw [<- hi.length];simp
  have hjl:j < ns.length:=(List.getElem?_eq_some_iff.mp hj).1
  wp_walk using wpAny_loadPart' hl
  have key:wpAny (model prog w) A.in1 (forIn (m:=Sem) [:min items.size items.size] ((none,()):Option Fin×Unit) (fun (i:Nat) _ =>
    match items[i]? with
    | some y=>do
     let b <- eqBool y (Value.int v t)
     if b=true then do
      let r <- retInt (i:Int)
      pure (ForInStep.done (some r,()))
     else pure (ForInStep.yield (none,()))
    | _=>pure (ForInStep.yield (none,()))))
   (fun a s'=>a.1=some (.done (.ret (.int (j:Int) tk)))/\s'=⟨hp,g,d,tk + 1,os⟩) (fun e s'=>R (Except.error e) s') ⟨hp,g,d,tk,os⟩:=by
   rw [Std.Legacy.Range.forIn_eq_forIn_range']
   have ez:([:min items.size items.size]:Std.Legacy.Range).size=ns.length:=by
    simp [Std.Legacy.Range.size,z1]
   rw [ez]
   refine wpAny_forIn_list _ (fun rest b s'=>b.1=none/\s'=⟨hp,g,d,tk,os⟩/\∃ k,k<=j/\rest=List.range' k (ns.length - k) 1) _ ?_ ?_ _ _ ⟨rfl,rfl,0,Nat.zero_le _,by simp⟩
   ·rintro x rest b s' ⟨hb',rfl,k,hk,e⟩
    have el:ns.length - k=(ns.length - (k + 1)) + 1:=by omega
    rw [el,List.range'_succ] at e
    injection e with e1 e2
    subst e1
    have qL:x < ns.length:=by omega
    obtain ⟨t',ht'⟩:=IntsAre.get hi (List.getElem?_eq_getElem qL)
    have Oi:items[x]?=some (.int ns[x] t'):=by rw [<- ht',Array.getElem?_toList]
    simp only [Oi]
    obtain ⟨e,he,hiff⟩:=HT.Nh A.in1 ⟨hp,g,d,tk,os⟩ ns[x] t' v t
    refine wpAny_bind (he prog w _ _ ?_)
    cases e with
    | true =>
     have ev:ns[x]=v:=hiff.mp rfl
     have Oj:x=j:=by
      rcases Nat.lt_or_ge x j with h' | h'
      ·exact absurd (by rw [List.getElem?_eq_getElem qL,ev]) (hb x h')
      ·omega
     subst Oj
     wp_walk
     first | exact ⟨rfl,rfl⟩ | trivial
    | false =>
     have ev:ns[x]≠v:=fun q=>absurd (hiff.mpr q) Bool.false_ne_true
     have:x≠j:=fun z=>ev (by subst z;rw [List.getElem?_eq_getElem qL] at hj;exact Option.some.inj hj)
     wp_walk
     exact ⟨rfl,rfl,x + 1,by omega,e2⟩
   ·rintro b s' ⟨hb',rfl,k,hk,e⟩
    have:(List.range' k (ns.length - k) 1).length=0:=by rw [<- e];rfl
    rw [List.length_range'] at this
    omega
  refine wpAny_mono key (fun a s' ha=>?_) (fun _ _ z=>z)
  obtain ⟨ha,rfl⟩:=ha
  obtain ⟨a1,a2⟩:=a
  cases (show a1=_ from ha)
  exact wpAny_pure ⟨_,rfl,h⟩
end
section
variable {X:Cx} {K:PySem.W.Frag}
def oV (K:PySem.W.Frag):V->List V->Hp->VK->Prop:=fun x vs H Q=>∃ (a:Addr) (ns:List Int) (v:Int) (j:Nat),x=.ref a/\vs=[.int v]/\eZ K H a (ns.map V.int)/\ns[j]?=some v/\(∀ i,i < j->ns[i]?≠some v)/\Q (.int (j:Int)) H
theorem Kf:Dw X "tuple.index" (oV X.K):=by
 intro pins s σ H x xs v us Q I rx rv h
 obtain ⟨a,ns,y,j,rfl,rfl,hq,hj,hb,q⟩:=h
 cases rx
 obtain ⟨u,rfl,t,rfl⟩:=vals1 rv
 obtain ⟨its,r,⟨⟨c,dd,dt,sl⟩,e,hc,hd,n,hdt⟩,hz⟩:=I.nA hq
 cases (show c=.type "tuple" from hc)
 cases (show dt=.seq its.toArray n from hdt)
 refine call_meets F.slot_tuple_index ⟨_,e,rfl⟩ F.entry_tuple_index (F.args_tuple_index_2 _ _) (qK a its.toArray n dd sl ns (by simpa using JF r) y t j hj hb) ⟨e,?_⟩
 exact ⟨.int j,H,I.tok _,⟨_,rfl⟩,q⟩
theorem Kg (hK:X.K=K):Dw X "tuple.index" (oV K):=by subst hK;exact Kf
theorem Kh {o e:Expr} {es:List Expr} {to:TE} {t:TA} {name:Str} {apos cpos:Pos} {T id:String} {r:V->List V->Hp->VK->Prop} (hK:X.K=K) (pa:PlainAttrs T) (slot:Slot T name id) (hty:typeOf (.builtin id)=pure (.type "method_descriptor")) (hm:Dw X id r) (ho:PE X o to) (ha:PA X (e :: es) t)
  (hbase:attributeBase o name X.env (eval o X.env)=eval o X.env:=by rfl)
  (hfew:((backTo cpos (starEach (e :: es) X.env)).all (fun x=>!x.1) && (backToKw cpos (keywordEach [] X.env)).all (fun x=>x.1.isSome)
   && decide ((e :: es).length + ([]:List Keyword).length + (if ([]:List Keyword).isEmpty then 0 else 1) < 30))=true:=by rfl)
  (hline:(apos.endLine == cpos.line)=true:=by rfl) (hs:starEach (e :: es) X.env=(false,eval e X.env) :: starEach es X.env:=by rfl) (hplain:(backTo cpos (starEach es X.env)).any (·.1)=false:=by rfl) :
  PE X (.Call (.Attribute o name apos) (e :: es) [] cpos) (Ge K T r to t):=by subst hK;exact pZ pa slot hty hm ho ha hbase hfew hline hs hplain
theorem Ki {es:List Expr} {k:Nat} {t:qx} {n:Nat} {pos:Pos} (hK:X.K=K) (hc:X.calm=true) (h:zS X es t)
  (hn:(assignEach es X.env).length=n:=by rfl) (hst:(assignEach es X.env).findIdx? (·.1)=none:=by rfl):PG X (.Tuple es k pos) (vP K n t):=by subst hK;exact sx hc h hn hst
end
end L2
namespace L2
open PySem PySem.Spec PyProof.Rows
open Builtin.Str
section
variable {X:Cx} {K:PySem.W.Frag}
theorem wx:bootBuiltins "sum" = some (.builtin "sum"):=by decide +kernel
end
section
variable {X:Cx} {tg:Expr}
end
end L2
namespace L2
open PySem PySem.Spec PyProof.Rows
open Builtin.Str
section
variable {prog:Program} {w:World} {A:Around} {E:Value->Shared->Prop} {s:Shared}
structure ll (z TI TO i1 i2:Addr) (mQ mD:List Addr):Prop where
 TIz:TI≠z
 TOz:TO≠z
 i1z:i1≠z
 i2z:i2≠z
 TITO:TI≠TO
 TOi1:TO≠i1
 TOi2:TO≠i2
 i12:i1≠i2
 m1:i1∈mQ
 m2:i2∈mD
 z1:∀ b∈mQ,b≠z/\b≠TO/\b≠i2
 z2:∀ b∈mD,b≠z/\b≠TO/\b≠i1
theorem Ol {z TI TO i1 i2:Addr} {mQ mD:List Addr} {n1 n2 k:Nat} {P1 P2:Nat->Value->Prop} {oW oO:Nat->Heap->Prop} {a b:Value} {Q:Value->Shared->Prop} (D:ll z TI TO i1 i2 mQ mD)
  (D1:Draws prog w A i1 mQ n1 P1 oW) (D2:Draws prog w A i2 mD n2 P2 oO)
  (hz:IsZip s.heap z TI TO .none) (hTI:IsPair s.heap TI (.ref i1) (.ref i2)) (hTO:IsPair s.heap TO a b)
  (h1:oW k s.heap) (h2:oO k s.heap) (hk1:k < n1) (hk2:k < n2)
  (hQ:∀ x y h' tk,P1 k x->P2 k y->IsZip h' z TI TO (rawInt s.heap.objs.size)->IsPair h' TO x y->oW (k + 1) h'->oO (k + 1) h'->IsPair h' s.heap.objs.size x y->h'.objs.size=s.heap.objs.size + 1 ->
   (∀ c o,c≠z->c≠TO->c≠i1->c≠i2->s.heap.get? c=some o->h'.get? c=some o)->Q (.ref s.heap.objs.size) { s with heap:=h',toks:=tk }) :
  wpAny (model prog w) A (Builtin.«zip.__next__» ⟨[.ref z],[]⟩) (fun fin s'=>∃ v,fin=.done (.ret v)/\Q v s') E s:=by
 show wpAny _ _ (field (.ref z) 2 >>= _) _ _ _
 refine wpAny_bind (wpAny_field hz rfl (x:=.bool false) rfl ?_)
 show wpAny _ _ (field (.ref z) 3 >>= _) _ _ _
 refine wpAny_bind (wpAny_field hz rfl (x:=.ref TI) rfl ?_)
 refine wpAny_bind (wpAny_seqItems hTI rfl ?_)
 show wpAny _ _ (Builtin.SmallTypes.ownedTupleIsFree (.ref z) >>= _) _ _ _
 refine wpAny_bind ?_
 unfold Builtin.SmallTypes.ownedTupleIsFree
 refine wpAny_bind (wpAny_field hz rfl (x:=.none) rfl (wpAny_pure ?_))
 simp only [if_true]
 refine wpAny_bind (wpAny_rule ?_)
 refine wpAny_bind (wpAny_field hz rfl (x:=.ref TO) rfl ?_)
 refine wpAny_bind (wpAny_setField_rec hz (by simp) fun h₁ hz₁ hs₁=>?_)
 replace hz₁:IsZip h₁ z TI TO .ellipsis:=hz₁
 refine wpAny_bind ?_
 simp only [List.zipIdx_cons,List.zipIdx_nil,List.forIn_cons,List.forIn_nil]
 refine wpAny_bind (wpAny_bind (wpAny_onRaise ?_))
 show wpAny _ _ (Builtin.SmallTypes.nextOf (.ref i1) >>= _) _ _ _
 refine wpAny_bind (D1.item k { s with heap:=h₁ } _ _ hk1 (D1.frame _ _ _ h1 fun c hc o e=>hs₁.extBut _ _ (D.z1 c hc).1 e) fun x h₂ tk₂ hx h1₂ hs₂=>wpAny_pure ?_)
 replace hs₂:Heap.SameBut i1 h₁ h₂:=hs₂
 have hTO₂:IsPair h₂ TO a b:=hs₂.extBut _ _ D.TOi1 (hs₁.extBut _ _ D.TOz hTO)
 refine wpAny_bind (wpAny_seqItems hTO₂ rfl ?_)
 refine wpAny_bind (wpAny_updateSeq_pair hTO₂ fun h₃ hTO₃ hs₃=>?_)
 replace hs₃:Heap.SameBut TO h₂ h₃:=hs₃
 replace hTO₃:IsPair h₃ TO x b:=hTO₃
 refine wpAny_bind (wpAny_letGo (wpAny_pure ?_))
 refine wpAny_bind (wpAny_bind (wpAny_onRaise ?_))
 show wpAny _ _ (Builtin.SmallTypes.nextOf (.ref i2) >>= _) _ _ _
 have h2₃:oO k h₃:=D2.frame _ _ _ h2 fun c hc o e=>hs₃.extBut _ _ (D.z2 c hc).2.1 (hs₂.extBut _ _ (D.z2 c hc).2.2 (hs₁.extBut _ _ (D.z2 c hc).1 e))
 refine wpAny_bind (D2.item k { s with heap:=h₃,toks:=tk₂ } _ _ hk2 h2₃ fun y h₄ tk₄ hy h2₄ hs₄=>wpAny_pure ?_)
 replace hs₄:Heap.SameBut i2 h₃ h₄:=hs₄
 have hTO₄:IsPair h₄ TO x b:=hs₄.extBut _ _ D.TOi2 hTO₃
 refine wpAny_bind (wpAny_seqItems hTO₄ rfl ?_)
 refine wpAny_bind (wpAny_updateSeq_pair hTO₄ fun h₅ hTO₅ hs₅=>?_)
 replace hs₅:Heap.SameBut TO h₄ h₅:=hs₅
 replace hTO₅:IsPair h₅ TO x y:=hTO₅
 refine wpAny_bind (wpAny_letGo (wpAny_pure (wpAny_pure ?_)))
 refine wpAny_bind (wpAny_seqItems hTO₅ rfl ?_)
 refine wpAny_bind (wpAny_newTuple ?_)
 have hsz:h₅.objs.size=s.heap.objs.size:=by rw [hs₅.1,hs₄.1,hs₃.1,hs₂.1,hs₁.1]
 have hz₅:IsZip h₅ z TI TO .ellipsis:=hs₅.extBut _ _ D.TOz.symm (hs₄.extBut _ _ D.i2z.symm (hs₃.extBut _ _ D.TOz.symm (hs₂.extBut _ _ D.i1z.symm hz₁)))
 have hk₅:∀ c o,c≠z->c≠TO->c≠i1->c≠i2->s.heap.get? c=some o->h₅.get? c=some o:=fun c o c1 c2 c3 c4 e =>
  hs₅.extBut _ _ c2 (hs₄.extBut _ _ c4 (hs₃.extBut _ _ c2 (hs₂.extBut _ _ c3 (hs₁.extBut _ _ c1 e))))
 have h1₅:oW (k + 1) h₅:=D1.frame _ _ _ h1₂ fun c hc o e=>hs₅.extBut _ _ (D.z1 c hc).2.1 (hs₄.extBut _ _ (D.z1 c hc).2.2 (hs₃.extBut _ _ (D.z1 c hc).2.1 e))
 have h2₅:oO (k + 1) h₅:=D2.frame _ _ _ h2₄ fun c hc o e=>hs₅.extBut _ _ (D.z2 c hc).2.1 e
 have AK:z < h₅.objs.size:=Heap.lt_size hz₅
 show wpAny _ _ (Builtin.SmallTypes.ownedTupleHandOut (.ref z) (.ref h₅.objs.size) >>= _) _ _ _
 refine wpAny_bind ?_
 unfold Builtin.SmallTypes.ownedTupleHandOut
 have hz₆:IsZip (h₅.push { cls:=.type "tuple",data:=.seq #[x,y] }) z TI TO .ellipsis:=Heap.get?_push_of_some _ hz₅
 refine wpAny_bind (wpAny_setField_rec hz₆ (by simp) fun h₇ hz₇ hs₇=>?_)
 replace hz₇:IsZip h₇ z TI TO (rawInt h₅.objs.size):=hz₇
 refine wpAny_setField_rec hz₇ (by simp) fun h₈ hz₈ hs₈=>?_
 replace hz₈:IsZip h₈ z TI TO (rawInt h₅.objs.size):=hz₈
 replace hs₇:Heap.SameBut z (h₅.push { cls:=.type "tuple",data:=.seq #[x,y] }) h₇:=hs₇
 replace hs₈:Heap.SameBut z h₇ h₈:=hs₈
 have up:∀ c o,c≠z->h₅.get? c=some o->h₈.get? c=some o:=fun c o c1 e=>hs₈.extBut _ _ c1 (hs₇.extBut _ _ c1 (Heap.get?_push_of_some _ e))
 have hT₈:IsPair h₈ h₅.objs.size x y:=hs₈.extBut _ _ (Nat.ne_of_gt AK) (hs₇.extBut _ _ (Nat.ne_of_gt AK) (Heap.get?_push_size _ rfl))
 have Kj:h₈.objs.size=h₅.objs.size + 1:=by rw [hs₈.1,hs₇.1,Heap.size_push]
 rw [hsz] at hz₈ hT₈ Kj
 refine wpAny_pure ⟨_,rfl,?_⟩
 show Q (.ref h₅.objs.size) _
 rw [hsz]
 exact hQ x y h₈ tk₄ hx hy hz₈ (up _ _ D.TOz hTO₅) (D1.frame _ _ _ h1₅ fun c hc o e=>up _ o (D.z1 c hc).1 e) (D2.frame _ _ _ h2₅ fun c hc o e=>up _ o (D.z2 c hc).1 e) hT₈ Kj fun c o c1 c2 c3 c4 e=>up c o c1 (hk₅ c o c1 c2 c3 c4 e)
theorem Om {z TI TO i1 i2:Addr} {mQ mD:List Addr} {n1 n2 k:Nat} {P1 P2:Nat->Value->Prop} {oW oO:Nat->Heap->Prop} {a b:Value} {Q:Fin->Shared->Prop} (D:ll z TI TO i1 i2 mQ mD)
  (D1:Draws prog w A i1 mQ n1 P1 oW) (D2:Draws prog w A i2 mD n2 P2 oO)
  (hz:IsZip s.heap z TI TO .none) (hTI:IsPair s.heap TI (.ref i1) (.ref i2)) (hTO:IsPair s.heap TO a b)
  (h1:oW k s.heap) (h2:oO k s.heap) (hend:k=n1\/(k < n1/\k=n2))
  (hE:∀ h' tk e,(∀ c o,c≠z->c≠TO->c≠i1->c≠i2->s.heap.get? c=some o->h'.get? c=some o)->(∃ o,h'.get? e=some o/\o.cls=.type "StopIteration")->E (.ref e) { s with heap:=h',toks:=tk }) :
  wpAny (model prog w) A (Builtin.«zip.__next__» ⟨[.ref z],[]⟩) Q E s:=by
 show wpAny _ _ (field (.ref z) 2 >>= _) _ _ _
 refine wpAny_bind (wpAny_field hz rfl (x:=.bool false) rfl ?_)
 show wpAny _ _ (field (.ref z) 3 >>= _) _ _ _
 refine wpAny_bind (wpAny_field hz rfl (x:=.ref TI) rfl ?_)
 refine wpAny_bind (wpAny_seqItems hTI rfl ?_)
 show wpAny _ _ (Builtin.SmallTypes.ownedTupleIsFree (.ref z) >>= _) _ _ _
 refine wpAny_bind ?_
 unfold Builtin.SmallTypes.ownedTupleIsFree
 refine wpAny_bind (wpAny_field hz rfl (x:=.none) rfl (wpAny_pure ?_))
 simp only [if_true]
 refine wpAny_bind (wpAny_rule ?_)
 refine wpAny_bind (wpAny_field hz rfl (x:=.ref TO) rfl ?_)
 refine wpAny_bind (wpAny_setField_rec hz (by simp) fun h₁ hz₁ hs₁=>?_)
 replace hz₁:IsZip h₁ z TI TO .ellipsis:=hz₁
 refine wpAny_bind ?_
 simp only [List.zipIdx_cons,List.zipIdx_nil,List.forIn_cons,List.forIn_nil]
 refine wpAny_bind (wpAny_bind (wpAny_onRaise ?_))
 show wpAny _ _ (Builtin.SmallTypes.nextOf (.ref i1) >>= _) _ _ _
 have h1₁:oW k h₁:=D1.frame _ _ _ h1 fun c hc o e=>hs₁.extBut _ _ (D.z1 c hc).1 e
 rcases hend with rfl | ⟨hk1,rfl⟩
 ·refine wpAny_bind (D1.done { s with heap:=h₁ } _ _ h1₁ fun h₂ e hs₂ he=>?_)
  obtain ⟨oe,wy,hce⟩:=he
  replace hs₂:Heap.ExtBut i1 h₁ h₂:=hs₂
  have hz₂:IsZip h₂ z TI TO .ellipsis:=hs₂ _ _ D.i1z.symm hz₁
  have GN:e≠z:=fun x=>by subst x;rw [hz₂] at wy;cases wy;simp at hce
  refine wpAny_setField_rec hz₂ (by simp) fun h₃ _ hs₃=>hE h₃ s.toks e (fun c o c1 _ c3 _ x=>hs₃.extBut _ _ c1 (hs₂ _ _ c3 (hs₁.extBut _ _ c1 x))) ⟨oe,hs₃.extBut _ _ GN wy,hce⟩
 ·refine wpAny_bind (D1.item k { s with heap:=h₁ } _ _ hk1 h1₁ fun x h₂ tk₂ hx h1₂ hs₂=>wpAny_pure ?_)
  replace hs₂:Heap.SameBut i1 h₁ h₂:=hs₂
  have hTO₂:IsPair h₂ TO a b:=hs₂.extBut _ _ D.TOi1 (hs₁.extBut _ _ D.TOz hTO)
  refine wpAny_bind (wpAny_seqItems hTO₂ rfl ?_)
  refine wpAny_bind (wpAny_updateSeq_pair hTO₂ fun h₃ hTO₃ hs₃=>?_)
  replace hs₃:Heap.SameBut TO h₂ h₃:=hs₃
  refine wpAny_bind (wpAny_letGo (wpAny_pure ?_))
  refine wpAny_bind (wpAny_bind (wpAny_onRaise ?_))
  show wpAny _ _ (Builtin.SmallTypes.nextOf (.ref i2) >>= _) _ _ _
  have h2₃:oO k h₃:=D2.frame _ _ _ h2 fun c hc o e=>hs₃.extBut _ _ (D.z2 c hc).2.1 (hs₂.extBut _ _ (D.z2 c hc).2.2 (hs₁.extBut _ _ (D.z2 c hc).1 e))
  refine wpAny_bind (D2.done { s with heap:=h₃,toks:=tk₂ } _ _ h2₃ fun h₄ e hs₄ he=>?_)
  obtain ⟨oe,wy,hce⟩:=he
  replace hs₄:Heap.ExtBut i2 h₃ h₄:=hs₄
  have hz₄:IsZip h₄ z TI TO .ellipsis:=hs₄ _ _ D.i2z.symm (hs₃.extBut _ _ D.TOz.symm (hs₂.extBut _ _ D.i1z.symm hz₁))
  have GN:e≠z:=fun x=>by subst x;rw [hz₄] at wy;cases wy;simp at hce
  refine wpAny_setField_rec hz₄ (by simp) fun h₅ _ hs₅=>hE h₅ tk₂ e (fun c o c1 c2 c3 c4 x=>hs₅.extBut _ _ c1 (hs₄ _ _ c4 (hs₃.extBut _ _ c2 (hs₂.extBut _ _ c3 (hs₁.extBut _ _ c1 x))))) ⟨oe,hs₅.extBut _ _ GN wy,hce⟩
theorem Oo {z TI TO i1 i2:Addr} {mQ mD:List Addr} {n1 n2 k:Nat} {P1 P2:Nat->Value->Prop} {oW oO:Nat->Heap->Prop} {a b:Value} {Q:Option Value->Shared->Prop} (D:ll z TI TO i1 i2 mQ mD)
  (D1:Draws prog w A.in1 i1 mQ n1 P1 oW) (D2:Draws prog w A.in1 i2 mD n2 P2 oO)
  (hz:IsZip s.heap z TI TO .none) (hTI:IsPair s.heap TI (.ref i1) (.ref i2)) (hTO:IsPair s.heap TO a b)
  (h1:oW k s.heap) (h2:oO k s.heap) (hk1:k < n1) (hk2:k < n2)
  (hQ:∀ x y h' tk,P1 k x->P2 k y->IsZip h' z TI TO (rawInt s.heap.objs.size)->IsPair h' TO x y->oW (k + 1) h'->oO (k + 1) h'->IsPair h' s.heap.objs.size x y->h'.objs.size=s.heap.objs.size + 1 ->
   (∀ c o,c≠z->c≠TO->c≠i1->c≠i2->s.heap.get? c=some o->h'.get? c=some o)->Q (some (.ref s.heap.objs.size)) { s with heap:=h',toks:=tk }) :
  wpAny (model prog w) A (pyNext (.ref z)) Q E s:=by
 have hT:s.TypeIs (.ref z) "zip" := ⟨_,hz,rfl⟩
 unfold pyNext
 exact wpAny_bind (wpAny_attempt (wpAny_callSpecial?_slot (name:=Str.ofString "__next__") hT F.slot_zip_next
  (wpAny_call_entry F.slot_zip_next hT F.entry_zip_next
   (Ol D D1 D2 hz hTI hTO h1 h2 hk1 hk2 fun x y h' tk p1 p2 a1 a2 a3 a4 a5 a6 a7=>wpAny_pure (hQ x y h' tk p1 p2 a1 a2 a3 a4 a5 a6 a7)) (F.args_zip_next_1 _))))
theorem GO {z TI TO i1 i2:Addr} {mQ mD:List Addr} {n1 n2 k:Nat} {P1 P2:Nat->Value->Prop} {oW oO:Nat->Heap->Prop} {a b:Value} {Q:Option Value->Shared->Prop} (D:ll z TI TO i1 i2 mQ mD)
  (D1:Draws prog w A.in1 i1 mQ n1 P1 oW) (D2:Draws prog w A.in1 i2 mD n2 P2 oO)
  (hz:IsZip s.heap z TI TO .none) (hTI:IsPair s.heap TI (.ref i1) (.ref i2)) (hTO:IsPair s.heap TO a b)
  (h1:oW k s.heap) (h2:oO k s.heap) (hend:k=n1\/(k < n1/\k=n2))
  (hQ:∀ h' tk,(∀ c o,c≠z->c≠TO->c≠i1->c≠i2->s.heap.get? c=some o->h'.get? c=some o)->Q none { s with heap:=h',toks:=tk }):wpAny (model prog w) A (pyNext (.ref z)) Q E s:=by
 have hT:s.TypeIs (.ref z) "zip" := ⟨_,hz,rfl⟩
 unfold pyNext
 refine wpAny_bind (wpAny_attempt (wpAny_callSpecial?_slot (name:=Str.ofString "__next__") hT F.slot_zip_next
  (wpAny_call_entry F.slot_zip_next hT F.entry_zip_next (Om D D1 D2 hz hTI hTO h1 h2 hend fun h' tk e hk he=>?_) (F.args_zip_next_1 _))))
 obtain ⟨o,ho,hc⟩:=he
 refine wpAny_bind (wpAny_isInstance (T:="StopIteration") (b:=true) ⟨o,ho,hc⟩ isSubtype_stop ?_)
 exact wpAny_pure (hQ _ _ hk)
end
set_option genInjectivity false in
inductive ZS where
 | tup (a:Addr) | lst (a:Addr) | str (x:Str)
def ZS.it (j:Addr) (i:Nat) (h:Heap):ZS->Prop
 | .tup a=>h.IsTupleIter j a i
 | .lst a=>h.IsListIter j a i
 | .str x=>∃ t,h.IsStrIter j "str_ascii_iterator" x t i\/h.IsStrIter j "str_iterator" x t i
def ZS.has (K:PySem.W.Frag) (H:Hp) (i:Nat) (v:V):ZS->Prop
 | .tup a=>∃ xs,eZ K H a xs/\xs[i]?=some v
 | .lst a=>∃ xs,jg K H a xs/\xs[i]?=some v
 | .str x=>∃ c,x.cps[i]?=some c/\v=.str ⟨#[c]⟩
def ZS.fin (K:PySem.W.Frag) (H:Hp) (i:Nat):ZS->Prop
 | .tup a=>∃ xs,eZ K H a xs/\xs.length=i
 | .lst a=>∃ xs,jg K H a xs/\xs.length=i
 | .str x=>x.cps.size=i
theorem ZS.it.at {j:Addr} {i:Nat} {h h':Heap} {src:ZS} (t:src.it j i h) (k:∀ o,h.get? j=some o->h'.get? j=some o):src.it j i h':=by
 cases src with
 | tup a=>exact Heap.IsTupleIter.at t k
 | lst a=>exact Heap.IsListIter.at t k
 | str x =>
  obtain ⟨tk,t⟩:=t
  refine ⟨tk,?_⟩
  rcases t with ⟨o,ho,r⟩ | ⟨o,ho,r⟩
  ·exact .inl ⟨o,k o ho,r⟩
  ·exact .inr ⟨o,k o ho,r⟩
theorem ZS.it.obj {j:Addr} {i:Nat} {h:Heap} {src:ZS} (t:src.it j i h):∃ o,h.get? j=some o/\(∀ v,o.data≠.cell v)/\(∃ n,o.cls=.type n/\n≠"tuple" /\ n≠"list" /\ n≠"zip"):=by
 cases src with
 | tup a=>obtain ⟨o,e,c,d⟩:=t;exact ⟨o,e,(fun v z=>by rw [d] at z;cases z),_,c,by decide,by decide,by decide⟩
 | lst a=>obtain ⟨o,e,c,d⟩:=t;exact ⟨o,e,(fun v z=>by rw [d] at z;cases z),_,c,by decide,by decide,by decide⟩
 | str x =>
  obtain ⟨tk,t⟩:=t
  rcases t with ⟨o,e,c,d⟩ | ⟨o,e,c,d⟩
  ·exact ⟨o,e,(fun v z=>by rw [d] at z;cases z),_,c,by decide,by decide,by decide⟩
  ·exact ⟨o,e,(fun v z=>by rw [d] at z;cases z),_,c,by decide,by decide,by decide⟩
structure ZS.Dr (P:Program) (w:World) (A:Around) (s:Shared) (j:Addr) (i:Nat) (src:ZS) (fp:List Addr) (n:Nat) (R:Value->Prop):Prop where
 ex:∃ (Pv:Nat->Value->Prop) (St:Nat->Heap->Prop),Draws P w A j fp n Pv St/\St i s.heap/\(∀ u,Pv i u->R u)/\∀ h,St (i + 1) h->src.it j (i + 1) h
 mem:j∈fp
section
variable {X:Cx} {pins:List (Addr×Obj)} {σ:St} {H:Hp} {s:Shared}
theorem Inv.nI {a b:Addr} {xs:List V} (I:Inv X pins σ H s) (h:eZ X.K H a xs) (f:gL X pins H b):a≠b:=by
 intro z
 subst z
 rcases h with (h | ⟨o,h⟩) | ⟨o,its,n,hk,_⟩
 ·rw [f.1] at h;cases h
 ·rw [f.1] at h;cases h
 ·have hb:=I.ok.mod.zH a o hk
  rcases f.2.2.2.1 with he | he
  ·exact I.ok.oP a o hb he
  ·have:=Heap.lt_size hb
   have:=I.ok.rC
   exact absurd (Nat.lt_of_lt_of_le (Nat.lt_of_lt_of_le ‹a < X.base.objs.size› this) he) (Nat.lt_irrefl _)
theorem Inv.nJ {a b:Addr} {xs:List V} (I:Inv X pins σ H s) (h:jg X.K H a xs) (f:gL X pins H b):a≠b:=by
 intro z
 subst z
 rcases h with (h | ⟨o,h⟩) | ⟨o,its,n,hk,_⟩
 ·rw [f.1] at h;cases h
 ·rw [f.1] at h;cases h
 ·have hb:=I.ok.mod.zH a o hk
  rcases f.2.2.2.1 with he | he
  ·exact I.ok.oP a o hb he
  ·have:=Heap.lt_size hb
   have:=I.ok.rC
   exact absurd (Nat.lt_of_lt_of_le (Nat.lt_of_lt_of_le ‹a < X.base.objs.size› this) he) (Nat.lt_irrefl _)
theorem ZS.drawn {j:Addr} {i:Nat} {src:ZS} {v:V} (I:Inv X pins σ H s) (hc:X.calm=true) (t:src.it j i s.heap) (fj:gL X pins H j) (h:src.has X.K H i v):∃ fp n,i < n/\ZS.Dr X.prog X.w X.A.in1 s j i src fp n (RelV v)/\∀ b,gL X pins H b->b≠j->b ∉ fp:=by
 cases src with
 | tup a =>
  obtain ⟨xs,hq,hx⟩:=h
  obtain ⟨its,rv,p,hz⟩:=I.tuple hq
  obtain ⟨u,hu,ru⟩:=rv.get hx
  have ht:s.heap.IsTuple a its.toArray:=p
  have hi:i < its.toArray.size:=by
   obtain ⟨q,_⟩:=List.getElem?_eq_some_iff.mp hu
   simpa using q
  refine ⟨[j,a],its.toArray.size,hi,⟨⟨_,_,nG (A:=X.A.in1) (I.ok.hd hc) j a (I.nI hq fj) its.toArray,⟨t,ht⟩,fun u' h'=>?_,fun h hst=>hst.1⟩,by simp⟩,fun b fb hb=>?_⟩
  ·have:its.toArray[i]?=some u:=by simpa using hu
   rw [this] at h'
   cases h'
   exact ru
  ·have:=I.nI hq fb
   simp only [List.mem_cons,List.not_mem_nil,or_false,not_or]
   exact ⟨hb,fun z=>this z.symm⟩
 | lst a =>
  obtain ⟨xs,hq,hx⟩:=h
  obtain ⟨its,rv,p,hz⟩:=I.list hq
  obtain ⟨u,hu,ru⟩:=rv.get hx
  have ht:s.heap.IsList a its.toArray:=p.isList
  have hi:i < its.toArray.size:=by
   obtain ⟨q,_⟩:=List.getElem?_eq_some_iff.mp hu
   simpa using q
  refine ⟨[j,a],its.toArray.size,hi,⟨⟨_,_,Draws.list (A:=X.A.in1) (I.ok.hd hc) j a (I.nJ hq fj) its.toArray,⟨t,ht⟩,fun u' h'=>?_,fun h hst=>hst.1⟩,by simp⟩,fun b fb hb=>?_⟩
  ·have:its.toArray[i]?=some u:=by simpa using hu
   rw [this] at h'
   cases h'
   exact ru
  ·have:=I.nJ hq fb
   simp only [List.mem_cons,List.not_mem_nil,or_false,not_or]
   exact ⟨hb,fun z=>this z.symm⟩
 | str x =>
  obtain ⟨c,hx,rfl⟩:=h
  have hi:i < x.cps.size:=(Array.getElem?_eq_some_iff.mp hx).1
  obtain ⟨tk,t⟩:=t
  have hR:∀ u,SignAt x i u->RelV (.str ⟨#[c]⟩) u:=fun u hu=>by
   obtain ⟨c',u',h1,rfl⟩:=hu
   rw [hx] at h1
   cases h1
   exact ⟨_,rfl⟩
  rcases t with t | t
  ·exact ⟨[j],x.cps.size,hi,⟨⟨_,_,Draws.strAscii (A:=X.A.in1) (I.ok.hd hc) j x tk,t,hR,fun h hst=>⟨tk,.inl hst⟩⟩,by simp⟩,fun b fb hb=>by simpa using hb⟩
  ·exact ⟨[j],x.cps.size,hi,⟨⟨_,_,Draws.strWide (A:=X.A.in1) (I.ok.hd hc) j x tk,t,hR,fun h hst=>⟨tk,.inr hst⟩⟩,by simp⟩,fun b fb hb=>by simpa using hb⟩
theorem ZS.ended {j:Addr} {i:Nat} {src:ZS} (I:Inv X pins σ H s) (hc:X.calm=true) (t:src.it j i s.heap) (fj:gL X pins H j) (h:src.fin X.K H i):∃ fp,ZS.Dr X.prog X.w X.A.in1 s j i src fp i (fun _=>True)/\∀ b,gL X pins H b->b≠j->b ∉ fp:=by
 cases src with
 | tup a =>
  obtain ⟨xs,hq,hx⟩:=h
  obtain ⟨its,rv,p,hz⟩:=I.tuple hq
  have ht:s.heap.IsTuple a its.toArray:=p
  have hl:=rv.length
  have ei:its.toArray.size=i:=by simp;omega
  subst ei
  refine ⟨[j,a],⟨⟨_,_,nG (A:=X.A.in1) (I.ok.hd hc) j a (I.nI hq fj) its.toArray,⟨t,ht⟩,fun _ _=>trivial,fun h hst=>hst.1⟩,by simp⟩,fun b fb hb=>?_⟩
  have:=I.nI hq fb
  simp only [List.mem_cons,List.not_mem_nil,or_false,not_or]
  exact ⟨hb,fun z=>this z.symm⟩
 | lst a =>
  obtain ⟨xs,hq,hx⟩:=h
  obtain ⟨its,rv,p,hz⟩:=I.list hq
  have ht:s.heap.IsList a its.toArray:=p.isList
  have hl:=rv.length
  have ei:its.toArray.size=i:=by simp;omega
  subst ei
  refine ⟨[j,a],⟨⟨_,_,Draws.list (A:=X.A.in1) (I.ok.hd hc) j a (I.nJ hq fj) its.toArray,⟨t,ht⟩,fun _ _=>trivial,fun h hst=>hst.1⟩,by simp⟩,fun b fb hb=>?_⟩
  have:=I.nJ hq fb
  simp only [List.mem_cons,List.not_mem_nil,or_false,not_or]
  exact ⟨hb,fun z=>this z.symm⟩
 | str x =>
  have h:x.cps.size=i:=h
  subst h
  obtain ⟨tk,t⟩:=t
  rcases t with t | t
  ·exact ⟨[j],⟨⟨_,_,Draws.strAscii (A:=X.A.in1) (I.ok.hd hc) j x tk,t,fun _ _=>trivial,fun h hst=>⟨tk,.inl hst⟩⟩,by simp⟩,fun b fb hb=>by simpa using hb⟩
  ·exact ⟨[j],⟨⟨_,_,Draws.strWide (A:=X.A.in1) (I.ok.hd hc) j x tk,t,fun _ _=>trivial,fun h hst=>⟨tk,.inr hst⟩⟩,by simp⟩,fun b fb hb=>by simpa using hb⟩
end
def GP (K:PySem.W.Frag) (s1 s2:ZS):It :=
 ⟨fun i H=>∃ x y,s1.has K H i x/\s2.has K H i y,fun i H v H'=>∃ p x y,v=.ref p/\H p=none/\H'=upd H p (.tup [x,y])/\(∀ z,s1.has K H i z->z=x)/\∀ z,s2.has K H i z->z=y,fun i H=>(s1.fin K H i/\(s2.fin K H i\/∃ y,s2.has K H i y))\/((∃ x,s1.has K H i x)/\s2.fin K H i)⟩
theorem ZS.nK {X:Cx} {pins:List (Addr×Obj)} {σ:St} {H:Hp} {s:Shared} {src:ZS} {i:Nat} {x y:V} (I:Inv X pins σ H s) (a:src.has X.K H i x) (b:src.has X.K H i y):y=x:=by
 cases src with
 | tup p =>
  obtain ⟨xs,h1,e1⟩:=a
  obtain ⟨ys,h2,e2⟩:=b
  rw [I.g9 h2 h1] at e2
  rw [e1] at e2
  exact (Option.some.inj e2).symm
 | lst p =>
  obtain ⟨xs,h1,e1⟩:=a
  obtain ⟨ys,h2,e2⟩:=b
  rw [I.oj h2 h1] at e2
  rw [e1] at e2
  exact (Option.some.inj e2).symm
 | str z =>
  obtain ⟨c,h1,rfl⟩:=a
  obtain ⟨d,h2,rfl⟩:=b
  rw [h1] at h2
  cases h2
  rfl
theorem Oq {P:Program} {w:World} {K:PySem.W.Frag} {es:List Expr} {x1} {pos:Pos} (s1 s2:ZS) (z TI TO i1 i2:Addr) (hd:TI≠z/\TO≠z/\i1≠z/\i2≠z/\TI≠TO/\TO≠i1/\TO≠i2/\i1≠i2/\TI≠i1/\TI≠i2) :
  Turn P w K (.Tuple es x1 pos) (GP K s1 s2) [z,TI,TO,i1,i2] z (fun i h=>IsZip h z TI TO .none/\IsPair h TI (.ref i1) (.ref i2)/\(∃ a b,IsPair h TO a b)/\s1.it i1 i h/\s2.it i2 i h) where
 mem:=by simp
 obj:=fun i h st b hb=>by
  obtain ⟨hz,hTI,⟨a,c,hTO⟩,h1,h2⟩:=st
  have cl:∀ {o:Obj} {vs:Array Value},o.data=.fields vs->∀ v,o.data≠.cell v:=fun d v z=>by rw [d] at z;cases z
  have cs:∀ {o:Obj} {vs:Array Value} {n:Nat},o.data=.seq vs n->∀ v,o.data≠.cell v:=fun d v z=>by rw [d] at z;cases z
  simp only [List.mem_cons,List.not_mem_nil,or_false] at hb
  rcases hb with rfl | rfl | rfl | rfl | rfl
  ·exact ⟨_,hz,cl rfl⟩
  ·exact ⟨_,hTI,cs rfl⟩
  ·exact ⟨_,hTO,cs rfl⟩
  ·obtain ⟨o,e,n,_⟩:=h1.obj;exact ⟨o,e,n⟩
  ·obtain ⟨o,e,n,_⟩:=h2.obj;exact ⟨o,e,n⟩
 keep:=fun i h h' st k=>⟨k z (by simp) _ st.1,k TI (by simp) _ st.2.1,let ⟨a,b,e⟩:=st.2.2.1;⟨a,b,k TO (by simp) _ e⟩,st.2.2.2.1.at fun o q=>k i1 (by simp) o q,st.2.2.2.2.at fun o q=>k i2 (by simp) o q⟩
 item:=by
  intro X hP hw hK hc i pins s σ H E I hf st hg
  subst hP hw hK
  obtain ⟨x,y,hx,hy⟩:=hg
  obtain ⟨hz,hTI,⟨a,b,hTO⟩,h1,h2⟩:=st
  have fz:=hf z (by simp)
  have AL:=hf TO (by simp)
  have f1:=hf i1 (by simp)
  have f2:=hf i2 (by simp)
  obtain ⟨mQ,n1,k1,⟨⟨P1,S1,D1,st1,r1,Ot⟩,uK⟩,lT⟩:=ZS.drawn I hc h1 f1 hx
  obtain ⟨mD,n2,k2,⟨⟨P2,S2,D2,st2,r2,Ou⟩,sQ⟩,lp⟩:=ZS.drawn I hc h2 f2 hy
  obtain ⟨d1,d2,d3,d4,d5,d6,d7,d8,d9,Kk⟩:=hd
  have ap:ll z TI TO i1 i2 mQ mD:=⟨d1,d2,d3,d4,d5,d6,d7,d8,uK,sQ,
   fun c ip=>⟨fun e=>lT z fz (Ne.symm d3) (e ▸ ip),fun e=>lT TO AL d6 (e ▸ ip),fun e=>lT i2 f2 (Ne.symm d8) (e ▸ ip)⟩,
   fun c ip=>⟨fun e=>lp z fz (Ne.symm d4) (e ▸ ip),fun e=>lp TO AL d7 (e ▸ ip),fun e=>lp i1 f1 d8 (e ▸ ip)⟩⟩
  refine Oo ap D1 D2 hz hTI hTO st1 st2 k1 k2 fun u v Kl tk p1 p2 hz' GQ g1 g2 hT hsz kk=>?_
  refine ⟨_,rfl,wpAny_letOwnedTupleGo_zip hz' fun h2' hz2 sb=>?_⟩
  replace sb:Heap.SameBut z Kl h2':=sb
  have GL:H s.heap.objs.size=none:=I.hok.fresh (Nat.le_refl _)
  have ru:=r1 u p1
  have rv:=r2 v p2
  have I1:Inv X pins σ (upd H s.heap.objs.size (.tup [x,y])) { s with heap:=s.heap.push { cls:=.type "tuple",data:=.seq #[u,v] },toks:=s.toks } :=
   I.laid (fun b u e=>Heap.get?_push_of_some _ e) (Nat.le_refl _) ⟨(by decide:2<=sizeLine),[u,v],.cons ru (.cons rv .nil),⟨_,Heap.get?_push_size _ rfl,rfl,rfl,_,rfl⟩⟩
  have hlt:∀ c∈[z,TI,TO,i1,i2],@LT.lt Nat _ c s.heap.objs.size:=fun c ip=>by
   simp only [List.mem_cons,List.not_mem_nil,or_false] at ip
   rcases ip with rfl | rfl | rfl | rfl | rfl
   ·exact Heap.lt_size hz
   ·exact Heap.lt_size hTI
   ·exact Heap.lt_size hTO
   ·obtain ⟨o,e,_⟩:=h1.obj;exact Heap.lt_size e
   ·obtain ⟨o,e,_⟩:=h2.obj;exact Heap.lt_size e
  have hn:∀ c∈[z,TI,TO,i1,i2],upd H s.heap.objs.size (.tup [x,y]) c=none:=fun c ip=>by
   unfold upd
   rw [if_neg (Nat.ne_of_lt (hlt c ip))]
   exact (hf c ip).1
  have I2:Inv X pins σ (upd H s.heap.objs.size (.tup [x,y])) { s with heap:=h2',toks:=tk }:=by
   refine Inv.nH (s:={ s with heap:=s.heap.push { cls:=.type "tuple",data:=.seq #[u,v] },toks:=s.toks }) (h':=h2') I1 (ch:=[z,TI,TO,i1,i2]) (t':=tk) (fun c o ip q=>?_) fun c ip=>⟨hn c ip,(hf c ip).2⟩
   simp only [List.mem_cons,List.not_mem_nil,or_false,not_or] at ip
   obtain ⟨Km,Uz,Ov,Ow,Ox⟩:=ip
   refine (sb.2 c Km).trans ?_
   rcases Heap.get?_push_cases q with ⟨rfl,rfl⟩ | q
   ·exact hT
   ·exact kk c o Km Ov Ow Ox q
  have up:∀ c o,c≠z->Kl.get? c=some o->h2'.get? c=some o:=fun c o n e=>(sb.2 c n).trans e
  refine ⟨.ref s.heap.objs.size,_,I2,rfl,⟨_,x,y,rfl,GL,rfl,fun w hw=>ZS.nK I hx hw,fun w hw=>ZS.nK I hy hw⟩,⟨hz2,?_,⟨u,v,up _ _ d2 GQ⟩,(Ot _ g1).at fun o q=>up _ o d3 q,(Ou _ g2).at fun o q=>up _ o d4 q⟩,hn⟩
  exact up _ _ d1 (kk _ _ d1 d5 d9 Kk hTI)
 done:=by
  intro X hP hw hK hc i pins s σ H E I hf st hg
  subst hP hw hK
  obtain ⟨hz,hTI,⟨a,b,hTO⟩,h1,h2⟩:=st
  have fz:=hf z (by simp)
  have AL:=hf TO (by simp)
  have f1:=hf i1 (by simp)
  have f2:=hf i2 (by simp)
  obtain ⟨d1,d2,d3,d4,d5,d6,d7,d8,d9,Kk⟩:=hd
  have fin:∀ h' tk,(∀ c o,c≠z->c≠TO->c≠i1->c≠i2->s.heap.get? c=some o->h'.get? c=some o)->Inv X pins σ H { s with heap:=h',toks:=tk }:=fun h' tk kk=>by
   refine Inv.nH I (ch:=[z,TO,i1,i2]) (t':=tk) (fun c o ip q=>?_) fun c ip=>hf c ?_
   ·simp only [List.mem_cons,List.not_mem_nil,or_false,not_or] at ip
    exact kk c o ip.1 ip.2.1 ip.2.2.1 ip.2.2.2 q
   ·simp only [List.mem_cons,List.not_mem_nil,or_false] at ip ⊢
    rcases ip with rfl | rfl | rfl | rfl <;> simp
  have wz:∀ {mQ mD:List Addr},i1∈mQ->i2∈mD->(∀ b,gL X pins H b->b≠i1->b ∉ mQ)->(∀ b,gL X pins H b->b≠i2->b ∉ mD)->ll z TI TO i1 i2 mQ mD:=fun uK sQ lT lp=>⟨d1,d2,d3,d4,d5,d6,d7,d8,uK,sQ,
   fun c ip=>⟨fun e=>lT z fz (Ne.symm d3) (e ▸ ip),fun e=>lT TO AL d6 (e ▸ ip),fun e=>lT i2 f2 (Ne.symm d8) (e ▸ ip)⟩,
   fun c ip=>⟨fun e=>lp z fz (Ne.symm d4) (e ▸ ip),fun e=>lp TO AL d7 (e ▸ ip),fun e=>lp i1 f1 d8 (e ▸ ip)⟩⟩
  rcases hg with ⟨hx,hy⟩ | ⟨⟨x,hx⟩,hy⟩
  ·obtain ⟨mQ,⟨⟨P1,S1,D1,st1,_,_⟩,uK⟩,lT⟩:=ZS.ended I hc h1 f1 hx
   rcases hy with hy | ⟨y,hy⟩
   ·obtain ⟨mD,⟨⟨P2,S2,D2,st2,_,_⟩,sQ⟩,lp⟩:=ZS.ended I hc h2 f2 hy
    exact GO (wz uK sQ lT lp) D1 D2 hz hTI hTO st1 st2 (.inl rfl) fun h' tk kk=>⟨rfl,fin h' tk kk⟩
   ·obtain ⟨mD,n2,k2,⟨⟨P2,S2,D2,st2,_,_⟩,sQ⟩,lp⟩:=ZS.drawn I hc h2 f2 hy
    exact GO (wz uK sQ lT lp) D1 D2 hz hTI hTO st1 st2 (.inl rfl) fun h' tk kk=>⟨rfl,fin h' tk kk⟩
  ·obtain ⟨mQ,n1,k1,⟨⟨P1,S1,D1,st1,_,_⟩,uK⟩,lT⟩:=ZS.drawn I hc h1 f1 hx
   obtain ⟨mD,⟨⟨P2,S2,D2,st2,_,_⟩,sQ⟩,lp⟩:=ZS.ended I hc h2 f2 hy
   exact GO (wz uK sQ lT lp) D1 D2 hz hTI hTO st1 st2 (.inr ⟨k1,rfl⟩) fun h' tk kk=>⟨rfl,fin h' tk kk⟩
 self:=fun _ _ _ _ _ st h=>wpAny_pyIter_zip st.1 h
def ZS.val (K:PySem.W.Frag) (H:Hp) (x:V):ZS->Prop
 | .tup a=>x=.ref a/\∃ xs,eZ K H a xs
 | .lst a=>x=.ref a/\∃ xs,jg K H a xs
 | .str z=>x=.str z
theorem ZS.iter {X:Cx} {pins:List (Addr×Obj)} {σ:St} {H:Hp} {s s':Shared} {src:ZS} {x:V} {u:Value} (I:Inv X pins σ H s) (r:RelV x u) (hv:src.val X.K H x) (up:∀ c o,s.heap.get? c=some o->s'.heap.get? c=some o) :
  ∃ o,src.it s'.heap.objs.size 0 (s'.heap.push o)/\∀ (prog:Program) (w:World) (A:Around) (E:Value->Shared->Prop) (Q:Value->Shared->Prop),Q (.ref s'.heap.objs.size) { s' with heap:=s'.heap.push o }->wpAny (model prog w) A (pyIter u) Q E s':=by
 cases src with
 | tup a =>
  obtain ⟨rfl,xs,hq⟩:=hv
  cases r
  obtain ⟨its,rv,p,hz⟩:=I.tuple hq
  obtain ⟨o,e,c,n,d⟩:=(show s.heap.IsTuple a its.toArray from p)
  exact ⟨_,⟨_,Heap.get?_push_size _ rfl,rfl,rfl⟩,fun prog w A E Q h=>wpAny_pyIter_tuple ⟨o,up _ _ e,c,n,d⟩ h⟩
 | lst a =>
  obtain ⟨rfl,xs,hq⟩:=hv
  cases r
  obtain ⟨its,rv,p,hz⟩:=I.list hq
  obtain ⟨o,e,c,n,d⟩:=p.isList
  exact ⟨_,⟨_,Heap.get?_push_size _ rfl,rfl,rfl⟩,fun prog w A E Q h=>wpAny_pyIter_list ⟨o,up _ _ e,c,n,d⟩ h⟩
 | str z =>
  cases hv
  obtain ⟨t,rfl⟩:=r
  cases ha:z.cps.all (· < 128)
  ·exact ⟨_,⟨t,.inr ⟨_,Heap.get?_push_size _ rfl,rfl,rfl⟩⟩,fun prog w A E Q h=>wpAny_pyIter_wide ha h⟩
  ·exact ⟨_,⟨t,.inl ⟨_,Heap.get?_push_size _ rfl,rfl,rfl⟩⟩,fun prog w A E Q h=>wpAny_pyIter_ascii ha h⟩
abbrev AO (h:Heap) (o1 o2:Obj):Heap:=((h.push o1).push o2).push { cls:=.type "tuple",data:=.seq #[.ref h.objs.size,.ref (h.push o1).objs.size] }
abbrev DJ (h:Heap) (o1 o2:Obj):Heap:=(AO h o1 o2).push { cls:=.type "tuple",data:=.seq #[.none,.none] }
abbrev wA (h:Heap) (o1 o2:Obj):Heap:=(DJ h o1 o2).push { cls:=.type "zip",data:=.fields #[.none,.bool false,.bool false,.ref ((h.push o1).push o2).objs.size,.ref (AO h o1 o2).objs.size] }
theorem Oy (u1 u2:Value) (o1 o2:Obj) :
  Meets (Builtin.«zip.__new__» ⟨[.type "zip",u1,u2],[]⟩) (fun _ R s =>
   (∀ (prog:Program) (w:World) (A:Around) (E:Value->Shared->Prop) (Q:Value->Shared->Prop),Q (.ref s.heap.objs.size) { s with heap:=s.heap.push o1 }->wpAny (model prog w) A (pyIter u1) Q E s) /\
   (∀ (prog:Program) (w:World) (A:Around) (E:Value->Shared->Prop) (Q:Value->Shared->Prop),Q (.ref (s.heap.push o1).objs.size) { s with heap:=(s.heap.push o1).push o2 }->wpAny (model prog w) A (pyIter u2) Q E { s with heap:=s.heap.push o1 }) /\
   R (.ok (.ret (.ref (DJ s.heap o1 o2).objs.size))) { s with heap:=wA s.heap o1 o2 }) :=
 .of_wp fun prog w A R s h=>by
  obtain ⟨hp,g,d,tk,os⟩:=s;obtain ⟨h1,h2,h⟩:=h
  have hsub:=sub_zip
  have Oz:∀ {A:Around} {E:Value->Shared->Prop} {Q:Value->Shared->Prop},Q (.ref hp.objs.size) ⟨hp.push o1,g,d,tk,os⟩->wpAny (model prog w) A (pyIter u1) Q E ⟨hp,g,d,tk,os⟩:=fun q=>h1 prog w _ _ _ q
  have OA:∀ {A:Around} {E:Value->Shared->Prop} {Q:Value->Shared->Prop},Q (.ref (hp.push o1).objs.size) ⟨(hp.push o1).push o2,g,d,tk,os⟩->wpAny (model prog w) A (pyIter u2) Q E ⟨hp.push o1,g,d,tk,os⟩:=fun q=>h2 prog w _ _ _ q
  wp_walk using Oz,OA
  exact ⟨_,rfl,h⟩
def AQ (K:PySem.W.Frag) (ta:TA):TI:=fun σ H R=>ta σ H fun vs H1=>∃ (x y:V) (s1 s2:ZS),vs=[x,y]/\s1.val K H1 x/\s2.val K H1 y/\R (GP K s1 s2) H1
theorem wB {X:Cx} {es:List Expr} {x1} {p0:Pos} {l l':Expr} {ta:TA} {p pos:Pos} (hg:Gl X "zip") (hm:X.mg "zip" = none) (ha:PA X [l,l'] ta) (hs:starEach [l,l'] X.env=[(false,eval l X.env),(false,eval l' X.env)]:=by rfl) (hs2:starEach [l'] X.env=[(false,eval l' X.env)]:=by rfl) :
  PI X (.Tuple es x1 p0) (.Call (.Name "zip" p) [l,l'] [] pos) (AQ X.K ta):=by
 intro pins s σ H R I h
 refine Call_ (uh I hg hm wk (PyProof.Rows.callWith_type1 (cC (ha pos pins s σ H _ I h) fun us s1 ⟨vs,H1,I1,r1,q1⟩=>?_) (by rw [hs,hs2]) (by rw [hs2];rfl)))
 obtain ⟨x,y,z1,z2,e,hv1,hv2,q⟩:=q1
 subst e
 cases r1 with
 | cons ru rr =>
  cases rr with
  | cons rv rr =>
   cases rr
   obtain ⟨o1,t1,OB⟩:=ZS.iter (s':=s1) I1 ru hv1 fun _ _ e=>e
   obtain ⟨o2,t2,OC⟩:=ZS.iter (s':={ s1 with heap:=s1.heap.push o1 }) I1 rv hv2 fun _ _ e=>Heap.get?_push_of_some _ e
   refine callType_new F.called_zip (by decide) (F.typeCall_zip_2 _ _) (F.newCall_zip_2 _ _) (fun obj=>F.args_object_init_3 obj _ _) F.entry_zip_new (Oy _ _ o1 o2) ⟨OB,OC,?_⟩
   have w1:(s1.heap.push o1).objs.size=s1.heap.objs.size + 1:=Heap.size_push ..
   have w2:((s1.heap.push o1).push o2).objs.size=s1.heap.objs.size + 2:=by rw [Heap.size_push,w1]
   have w3:(AO s1.heap o1 o2).objs.size=s1.heap.objs.size + 3:=by rw [Heap.size_push,w2]
   have w4:(DJ s1.heap o1 o2).objs.size=s1.heap.objs.size + 4:=by rw [Heap.size_push,w3]
   have OD:∀ c o,s1.heap.get? c=some o->(wA s1.heap o1 o2).get? c=some o:=fun c o e=>Heap.get?_push_of_some _ (Heap.get?_push_of_some _ (Heap.get?_push_of_some _ (Heap.get?_push_of_some _ (Heap.get?_push_of_some _ e))))
   have g5:IsZip (wA s1.heap o1 o2) (DJ s1.heap o1 o2).objs.size ((s1.heap.push o1).push o2).objs.size (AO s1.heap o1 o2).objs.size .none:=Heap.get?_push_size _ rfl
   have g4:IsPair (wA s1.heap o1 o2) (AO s1.heap o1 o2).objs.size .none .none:=Heap.get?_push_of_some _ (Heap.get?_push_size _ rfl)
   have g3:IsPair (wA s1.heap o1 o2) ((s1.heap.push o1).push o2).objs.size (.ref s1.heap.objs.size) (.ref (s1.heap.push o1).objs.size):=Heap.get?_push_of_some _ (Heap.get?_push_of_some _ (Heap.get?_push_size _ rfl))
   have g2:z2.it (s1.heap.push o1).objs.size 0 (wA s1.heap o1 o2):=t2.at fun o e=>Heap.get?_push_of_some _ (Heap.get?_push_of_some _ (Heap.get?_push_of_some _ e))
   have g1:z1.it s1.heap.objs.size 0 (wA s1.heap o1 o2):=t1.at fun o e=>Heap.get?_push_of_some _ (Heap.get?_push_of_some _ (Heap.get?_push_of_some _ (Heap.get?_push_of_some _ e)))
   refine ⟨⟨_,g5,rfl⟩,?_⟩
   refine wpAny_pyIter_zip g5 ?_
   rw [w1] at g2 g3
   rw [w2] at g3 g5
   rw [w3] at g4 g5
   rw [w4] at g5
   have tz:Turn X.prog X.w X.K (.Tuple es x1 p0) (GP X.K z1 z2) [s1.heap.objs.size + 4,s1.heap.objs.size + 2,s1.heap.objs.size + 3,s1.heap.objs.size,s1.heap.objs.size + 1] (s1.heap.objs.size + 4) (fun i h=>IsZip h (s1.heap.objs.size + 4) (s1.heap.objs.size + 2) (s1.heap.objs.size + 3) .none/\IsPair h (s1.heap.objs.size + 2) (.ref s1.heap.objs.size) (.ref (s1.heap.objs.size + 1))/\(∃ a b,IsPair h (s1.heap.objs.size + 3) a b)/\z1.it s1.heap.objs.size i h/\z2.it (s1.heap.objs.size + 1) i h):=by
    refine Oq z1 z2 _ _ _ _ _ ?_
    have ne:∀ {m n:Nat},m≠n->∀ {a:Nat},a + m≠a + n:=fun h a z=>h (Nat.add_left_cancel z)
    exact ⟨ne (m:=2) (n:=4) (by decide),ne (m:=3) (n:=4) (by decide),ne (m:=0) (n:=4) (by decide),ne (m:=1) (n:=4) (by decide),ne (m:=2) (n:=3) (by decide),ne (m:=3) (n:=0) (by decide),ne (m:=3) (n:=1) (by decide),ne (m:=0) (n:=1) (by decide),ne (m:=2) (n:=0) (by decide),ne (m:=2) (n:=1) (by decide)⟩
   refine ⟨_,_,_,_,H1,by rw [w4],I1.kept (t':=s1.toks) OD,tz,⟨g5,g3,⟨_,_,g4⟩,g1,g2⟩,fun b hb=>?_,q⟩
   have hb':@LE.le Nat _ s1.heap.objs.size b:=by
    simp only [List.mem_cons,List.not_mem_nil,or_false] at hb
    rcases hb with rfl | rfl | rfl | rfl | rfl
    ·exact Nat.le_add_right _ _
    ·exact Nat.le_add_right _ _
    ·exact Nat.le_add_right _ _
    ·exact Nat.le_refl _
    ·exact Nat.le_add_right _ _
   exact I1.nB hb' (I1.hok.fresh hb')
end L2
namespace L2
open PySem PySem.Spec PyProof.Rows
section
variable {X:Cx} {K:PySem.W.Frag}
end
end L2
namespace L2
open PySem PySem.Spec PyProof.Rows
open Builtin.Str
theorem AR:Slot "reversed" "__next__" "reversed.__next__" :=
 .of (owner:="reversed") (n:="__next__") (by rw [typeLookup_type,builtinLookup_eq_fast];kernel_rfl) (by decide +kernel) (by decide +kernel) (by decide +kernel)
  (by first | exact .inl (by decide +kernel) | exact .inr (by decide +kernel)) (by rw [isSubtype_type];kernel_rfl)
theorem Kn:Slot "reversed" "__iter__" "reversed.__iter__" :=
 .of (owner:="reversed") (n:="__iter__") (by rw [typeLookup_type,builtinLookup_eq_fast];kernel_rfl) (by decide +kernel) (by decide +kernel) (by decide +kernel)
  (by first | exact .inl (by decide +kernel) | exact .inr (by decide +kernel)) (by rw [isSubtype_type];kernel_rfl)
theorem Ko:entryFor table "reversed.__next__" = some Builtin.«reversed.__next__»:=entryFor_of_tree (by kernel_rfl)
theorem Kq (a:Value):argsOk "reversed.__next__" ⟨[a],[]⟩:=by unfold argsOk;kernel_rfl
theorem OE:entryFor table "reversed.__iter__" = some Builtin.«dict_keyiterator.__iter__» :=
 entryFor_alias (id':="dict_keyiterator.__iter__") (by kernel_rfl) (by first | rfl | decide +kernel) (by decide +kernel) (by kernel_rfl)
theorem OG (a:Value):argsOk "reversed.__iter__" ⟨[a],[]⟩:=by unfold argsOk;kernel_rfl
theorem OH:typeLookup (.type "tuple") "__reversed__" = pure none:=by rw [typeLookup_type,builtinLookup_eq_fast];kernel_rfl
theorem OI:typeLookup (.type "str") "__reversed__" = pure none:=by rw [typeLookup_type,builtinLookup_eq_fast];kernel_rfl
def lq (h:Heap) (a:Addr) (v:Value) (i:Int):Prop:=∃ o,h.get? a=some o/\o.cls=.type "reversed" /\ o.data=.fields #[v,rawInt i]
theorem lq.at {h h':Heap} {a:Addr} {v:Value} {i:Int} (x:lq h a v i) (e:∀ o,h.get? a=some o->h'.get? a=some o):lq h' a v i:=let ⟨o,ho,r⟩:=x;⟨o,e _ ho,r⟩
section
variable {prog:Program} {w:World} {A:Around} {E:Value->Shared->Prop} {s:Shared}
theorem lq.typeIs {a:Addr} {v:Value} {i:Int} (x:lq s.heap a v i):s.TypeIs (.ref a) "reversed" := let ⟨o,ho,hc,_⟩:=x;⟨o,ho,hc⟩
theorem Kr {it:Addr} {v:Value} {i:Int} {Q:Value->Shared->Prop} (hit:lq s.heap it v i) (h:Q (.ref it) s):wpAny (model prog w) A (pyIter (.ref it)) Q E s:=by
 refine wpAny_pyIter_slot hit.typeIs Kn (wpAny_call_entry Kn hit.typeIs OE ?_ (OG _))
 show wpAny _ _ (ret (.ref it)) _ _ s
 exact wpAny_pure ⟨_,rfl,"reversed",_,hit.typeIs,AR.lookup,h⟩
theorem OJ {it:Addr} {T gid:String} {v:Value} {y:Value->Prop} {i:Nat} {Q:Option Value->Shared->Prop} (hit:lq s.heap it v (i:Int)) (hT:s.TypeIs v T) (hg:typeLookup (.type T) "__getitem__" = pure (some (.builtin gid)))
  (hget:∀ (A':Around) (E':Value->Shared->Prop) (Q':Value->Shared->Prop) (tk:Tok) (n:Nat),(∀ z k,y z->Q' z { s with toks:=k })->wpAny (model prog w) A' (getItem v (.int i tk)) Q' E' { s with toks:=n })
  (hQ:∀ x h' k,y x->lq h' it v ((i:Int) - 1)->Heap.SameBut it s.heap h'->Q (some x) { s with heap:=h',toks:=k }):wpAny (model prog w) A (pyNext (.ref it)) Q E s:=by
 obtain ⟨o,ho,hc,hd⟩:=id hit
 unfold pyNext
 refine wpAny_bind (wpAny_attempt (wpAny_callSpecial?_slot (name:=Str.ofString "__next__") hit.typeIs AR
  (wpAny_call_entry AR hit.typeIs Ko ?_ (Kq _))))
 unfold Builtin.«reversed.__next__»
 refine wpAny_bind (wpAny_of_eq (a:=(Value.ref it,[])) rfl ?_)
 try dsimp only
 refine wpAny_bind (wpAny_field ho hd (x:=v) rfl ?_)
 refine wpAny_bind (wpAny_field ho hd (x:=rawInt (i:Int)) rfl ?_)
 show wpAny _ _ (if (i:Int) < 0 then _ else _) _ _ s
 rw [if_neg (by omega)]
 refine wpAny_bind (wpAny_specialOf hT hg ?_)
 try dsimp only
 rw [if_neg (by simp)]
 refine wpAny_bind (wpAny_mkInt ?_)
 refine wpAny_bind (wpAny_attempt (hget _ _ _ _ _ fun x k hx=>?_))
 show wpAny _ _ (field (.ref it) 1 >>= _) _ _ _
 refine wpAny_bind (wpAny_field ho hd (x:=rawInt (i:Int)) rfl ?_)
 refine wpAny_bind (wpAny_setField ho hd (by simp) ?_)
 first
 | refine wpAny_pure ⟨x,rfl,wpAny_pure (hQ _ _ _ hx ?_ (Heap.SameBut.update ..))⟩
 | refine wpAny_pure ⟨x,rfl,wpAny_bind (wpAny_pure (wpAny_pure (hQ _ _ _ hx ?_ (Heap.SameBut.update ..))))⟩
 exact ⟨_,Heap.get?_update_self _ ho (Obj.isFreed_of_fields (Obj.data_mapFields hd _)),(Obj.cls_mapFields ..).trans hc,by rw [Obj.data_mapFields hd];simp [rawInt]⟩
theorem OL {it:Addr} {v:Value} {i:Int} {Q:Option Value->Shared->Prop} (hh:A.handled=none) (hit:lq s.heap it v i) (hi:i < 0)
  (hQ:∀ h',Heap.ExtBut it s.heap h'->Q none { s with heap:=h' }):wpAny (model prog w) A (pyNext (.ref it)) Q E s:=by
 obtain ⟨o,ho,hc,hd⟩:=id hit
 unfold pyNext
 refine wpAny_bind (wpAny_attempt (wpAny_callSpecial?_slot (name:=Str.ofString "__next__") hit.typeIs AR
  (wpAny_call_entry AR hit.typeIs Ko ?_ (Kq _))))
 unfold Builtin.«reversed.__next__»
 refine wpAny_bind (wpAny_of_eq (a:=(Value.ref it,[])) rfl ?_)
 try dsimp only
 refine wpAny_bind (wpAny_field ho hd (x:=v) rfl ?_)
 refine wpAny_bind (wpAny_field ho hd (x:=rawInt i) rfl ?_)
 show wpAny _ _ (if i < 0 then _ else _) _ _ s
 rw [if_pos hi]
 refine wpAny_bind (wpAny_rule ?_)
 refine wpAny_bind ?_
 show wpAny _ _ (setField (.ref it) 1 (rawInt (-1)) >>= fun _=>setField (.ref it) 0 .none) _ _ _
 refine wpAny_bind (wpAny_setField ho hd (by simp) ?_)
 have wC:=Heap.get?_update_self (Obj.mapFields fun x=>x.setIfInBounds 1 (rawInt (-1))) ho (Obj.isFreed_of_fields (Obj.data_mapFields hd _))
 have hd1:=Obj.data_mapFields hd (fun x=>x.setIfInBounds 1 (rawInt (-1)))
 refine wpAny_setField wC hd1 (by simp) ?_
 first
 | show wpAny _ _ (newExc (.type "StopIteration") [] >>= _) _ _ _
 | (refine wpAny_bind ?_;show wpAny _ _ (newExc (.type "StopIteration") [] >>= _) _ _ _)
 refine wpAny_bind ?_
 simp only [newExc,newTuple]
 refine wpAny_bind (wpAny_newObj_type ?_ (by size_fits))
 refine wpAny_bind (m:=firstArgMember _ _) (wpAny_of_eq (a:=Value.none) (by first | rfl | (simp only [firstArgMember];rfl)) ?_)
 refine wpAny_newObj_type ?_ (by size_fits)
 simp only [raiseNew]
 refine wpAny_bind (wpAny_handled ?_)
 first | rw [show A.in1.handled=none from hh] | rw [hh]
 refine wpAny_bind (wpAny_pure (wpAny_throw ?_))
 refine wpAny_bind (wpAny_isInstance (T:="StopIteration") (b:=true) ⟨_,Heap.get?_push_size _ rfl,rfl⟩ isSubtype_stop ?_)
 refine wpAny_pure (hQ _ ?_)
 have x2:Heap.ExtBut it s.heap ((s.heap.update it (Obj.mapFields fun x=>x.setIfInBounds 1 (rawInt (-1)))).update it (Obj.mapFields fun x=>x.setIfInBounds 0 .none)):=fun c o hc e=>(Heap.SameBut.update ..).extBut c o hc ((Heap.SameBut.update ..).extBut c o hc e)
 exact (x2.push _).push _
end
def Ks (K:PySem.W.Frag) (src:ZS) (n:Nat):It:=⟨fun i H=>i < n/\∃ v,src.has K H (n - 1 - i) v,fun i H x H'=>H'=H/\∀ v,src.has K H (n - 1 - i) v->v=x,fun i _=>i=n⟩
theorem ZS.got {X:Cx} {pins:List (Addr×Obj)} {σ:St} {H:Hp} {s:Shared} {src:ZS} {u:Value} {x:V} {i:Nat} {v:V} (I:Inv X pins σ H s) (r:RelV x u) (hv:src.val X.K H x) (nl:∀ a,src≠.lst a) (hs:∀ z,src=.str z->z.length<=sizeLine) (h:src.has X.K H i v) :
  ∃ (T gid:String) (y:Value->Prop),s.TypeIs u T/\typeLookup (.type T) "__getitem__" = pure (some (.builtin gid))/\(∀ z,y z->RelV v z) /\
   ∀ (A':Around) (E':Value->Shared->Prop) (Q':Value->Shared->Prop) (tk:Tok) (n:Nat),(∀ z k,y z->Q' z { s with toks:=k })->wpAny (model X.prog X.w) A' (getItem u (.int i tk)) Q' E' { s with toks:=n }:=by
 have hn:=lb
 cases src with
 | lst a=>exact absurd rfl (nl a)
 | tup a =>
  obtain ⟨rfl,xs,hq⟩:=hv
  obtain ⟨xs',hq',hx⟩:=h
  rw [I.g9 hq' hq] at hx
  cases r
  obtain ⟨its,rv,pl,hz⟩:=I.tuple hq
  obtain ⟨w,ew,rw'⟩:=rv.get hx
  have hl:=rv.length
  have hi:=(List.getElem?_eq_some_iff.mp hx).1
  refine ⟨"tuple",_,fun z=>z=w,pl.typeIs,slot_tuple_getitem.lookup,fun z e=>e ▸ rw',fun A' E' Q' tk n hq'=>?_⟩
  exact getItem_tuple (s:={ s with toks:=n }) (j:=i) pl (by omega) (by omega) (by rw [List.size_toArray];exact seqIndex_of (by omega) (by omega)) (by simpa using ew) (hq' w n rfl)
 | str z =>
  cases hv
  obtain ⟨c,hx,rfl⟩:=h
  obtain ⟨t,rfl⟩:=r
  have hi:=(Array.getElem?_eq_some_iff.mp hx).1
  have hl:z.length=z.cps.size:=rfl
  have GR:=hs z rfl
  refine ⟨"str",_,fun y=>∃ t,y=.str ⟨#[c]⟩ t,typeIs_str s z t,slot_str_getitem.lookup,fun y hy=>hy,fun A' E' Q' tk n hq'=>?_⟩
  refine getItem_str (s:={ s with toks:=n }) (c:=c) (by
   have e1:decide ((i:Int) < -(2 ^ 63:Int))=false:=decide_eq_false (by omega)
   have e2:decide ((i:Int) >= 2 ^ 63)=false:=decide_eq_false (by omega)
   rw [e1,e2,Bool.or_false]) (by rw [seqIndex_of (by omega) (by omega)];simpa using hx) (hq' _ _ ⟨_,rfl⟩)
theorem OM {P:Program} {w:World} {K:PySem.W.Frag} {tg:Expr} (src:ZS) (u:Value) (n:Nat) (it:Addr) (nl:∀ a,src≠.lst a) (hs:∀ z,src=.str z->z.length<=sizeLine) (x:V) (rx:RelV x u) (hsv:∀ (H:Hp) (v:V) (i:Nat),src.has K H i v->src.val K H x) :
  Turn P w K tg (Ks K src n) [it] it (fun i h=>lq h it u ((n:Int) - 1 - (i:Nat))) where
 mem:=by simp
 obj:=fun i h st b hb=>by
  have e:b=it:=by simpa using hb
  subst e
  obtain ⟨o,e,c,d⟩:=st
  exact ⟨o,e,fun v z=>by rw [d] at z;cases z⟩
 keep:=fun i h h' st k=>st.at fun o e=>k it (by simp) o e
 item:=by
  intro X hP hw hK hc i pins s σ H E I hf st hg
  subst hP hw hK
  obtain ⟨hin,v,hv⟩:=hg
  obtain ⟨f0,f1,f2,f3,f4,f5⟩:=hf it (by simp)
  obtain ⟨T,gid,y,hT,hl,hy,hget⟩:=ZS.got I rx (hsv H v _ hv) nl hs hv
  have st':lq s.heap it u ((n - 1 - i:Nat):Int):=by
   have e:((n - 1 - i:Nat):Int)=(n:Int) - 1 - (i:Nat):=by omega
   rw [e];exact st
  refine OJ st' hT hl hget fun z h' tk hz hr sb=>?_
  have I1:Inv X pins σ H { s with heap:=h',toks:=tk }:=I.turned (fun b o hb e=>(sb.2 b hb).trans e) f0 f1 f3 f4 f5
  have hr':lq h' it u ((n:Int) - 1 - ((i + 1:Nat):Int)):=by
   have e:(n:Int) - 1 - ((i + 1:Nat):Int)=((n - 1 - i:Nat):Int) - 1:=by omega
   rw [e];exact hr
  obtain ⟨o,e,c,d⟩:=id hr
  exact ⟨z,rfl,zX (s:={ s with heap:=h',toks:=tk }) e c d (by decide) ⟨v,H,I1,hy z hz,⟨rfl,fun v' hv'=>ZS.nK I hv hv'⟩,hr',fun b hb=>(hf b hb).1⟩⟩
 done:=by
  intro X hP hw hK hc i pins s σ H E I hf st hg
  subst hP hw hK
  have hg:i=n:=hg
  subst hg
  obtain ⟨f0,f1,f2,f3,f4,f5⟩:=hf it (by simp)
  exact OL (I.ok.hd hc) st (by omega) fun h' eb=>⟨rfl,I.turned (t':=s.toks) (fun b o hb e=>eb b o hb e) f0 f1 f3 f4 f5⟩
 self:=fun _ _ _ _ _ st h=>Kr st h
theorem OO:Slot "reversed" "__init__" "object.__init__" :=
 .of (owner:="object") (n:="__init__") (by rw [typeLookup_type,builtinLookup_eq_fast];kernel_rfl) (by decide +kernel) (by decide +kernel) (by decide +kernel)
  (by first | exact .inl (by decide +kernel) | exact .inr (by decide +kernel)) (by rw [isSubtype_type];kernel_rfl)
theorem Kt:TypeCalled "reversed" "reversed.__new__" "object.__init__" :=
 ⟨by decide +kernel,by decide +kernel,⟨_,_,F.mro_reversed⟩,F.made_reversed,by decide +kernel,by rw [isSubtype_type];kernel_rfl,OO⟩
theorem Ku {u:Value} {T gid:String} {n:Nat} (h0:typeLookup (.type T) "__reversed__" = pure none) (h1:typeLookup (.type T) "__getitem__" = pure (some (.builtin gid))) (hsub:isSubtype (.type T) (.type "dict")=pure false)
  (GS:["tuple.__getitem__","str.__getitem__","bytes.__getitem__","bytearray.__getitem__","memoryview.__getitem__","numpy.ndarray.__getitem__","sqlite3.Row.__getitem__"].contains gid=true) :
  Meets (Builtin.«reversed.__new__» ⟨[.type "reversed",u],[]⟩) (fun _ R s=>s.TypeIs u T /\
   (∀ (prog:Program) (w:World) (A':Around) (E':Value->Shared->Prop) (Q':Value->Shared->Prop),(∀ t k,Q' (.int n t) { s with toks:=k })->wpAny (model prog w) A' (call (.builtin "len") [u]) Q' E' s) /\
   ∀ k,R (.ok (.ret (.ref s.heap.objs.size))) { s with heap:=s.heap.push { cls:=.type "reversed",data:=.fields #[u,rawInt ((n:Int) - 1)] },toks:=k }) :=
 .of_wp fun prog w A R s h=>by
 obtain ⟨hT,hlen,h⟩:=h
 unfold Builtin.«reversed.__new__»
 refine wpAny_bind (wpAny_of_eq (newClass_reversed _) ?_)
 try dsimp only
 refine wpAny_bind (wpAny_of_eq (a:=()) (by first | rfl | kernel_rfl) ?_)
 refine wpAny_bind (wpAny_of_eq (a:=()) (by first | rfl | kernel_rfl) ?_)
 try dsimp only
 refine wpAny_bind (wpAny_specialOf hT h0 ?_)
 try dsimp only
 refine wpAny_bind ?_
 show wpAny _ _ (isInstance u (.type "dict") >>= _) _ _ _
 refine wpAny_bind (wpAny_isInstance (b:=false) hT hsub ?_)
 rw [if_neg Bool.false_ne_true]
 refine wpAny_bind (wpAny_specialOf hT h1 ?_)
 show wpAny _ _ (if ["tuple.__getitem__","str.__getitem__","bytes.__getitem__","bytearray.__getitem__","memoryview.__getitem__","numpy.ndarray.__getitem__","sqlite3.Row.__getitem__"].contains gid=true then _ else _) _ _ _
 rw [if_pos GS]
 refine wpAny_pure ?_
 rw [if_neg (by simp)]
 refine wpAny_bind (hlen _ _ _ _ _ fun t k=>?_)
 refine wpAny_bind (wpAny_of_eq (a:=some (n:Int)) rfl ?_)
 try dsimp only
 refine wpAny_bind ?_
 show wpAny _ _ (newObj (.type "reversed") (.fields #[u,rawInt ((n:Int) - 1)])) _ _ _
 refine wpAny_newObj_type ?_
 exact wpAny_pure ⟨_,rfl,h k⟩
theorem OQ:isSubtype (.type "tuple") (.type "dict")=pure false:=by rw [isSubtype_type];kernel_rfl
theorem OR:isSubtype (.type "str") (.type "dict")=pure false:=by rw [isSubtype_type];kernel_rfl
def AU (K:PySem.W.Frag) (ta:TA):TI:=fun σ H R=>ta σ H fun vs H1=>∃ (x:V) (src:ZS) (n:Nat),vs=[x]/\src.val K H1 x/\src.fin K H1 n/\(∀ a,src≠.lst a)/\(∀ z,src=.str z->z.length<=sizeLine)/\R (Ks K src n) H1
theorem wD {X:Cx} {tg l:Expr} {ta:TA} {p pos:Pos} (hg:Gl X "reversed") (hm:X.mg "reversed" = none) (ha:PA X [l] ta) (hs:starEach [l] X.env=[(false,eval l X.env)]:=by rfl) :
  PI X tg (.Call (.Name "reversed" p) [l] [] pos) (AU X.K ta):=by
 intro pins s σ H R I h
 refine Call_ (uh I hg hm NU (PyProof.Rows.callWith_type1 (cC (ha pos pins s σ H _ I h) fun us s1 ⟨vs,H1,I1,r1,q1⟩=>?_) hs rfl))
 obtain ⟨x,src,n,e,hv,hn,nl,hz,q⟩:=q1
 subst e
 obtain ⟨u,rfl,r⟩:=vals1 r1
 ·have UA:=lb
  have hsv:∀ (H:Hp) (v:V) (i:Nat),src.has X.K H i v->src.val X.K H x:=fun H v i hh=>by
   cases src with
   | tup a=>obtain ⟨xs,h1,_⟩:=hh;exact ⟨hv.1,xs,h1⟩
   | lst a=>exact absurd rfl (nl a)
   | str z=>exact hv
  have fin:∀ k,wpAny (model X.prog X.w) X.A (pyIter (.ref s1.heap.objs.size)) (Dn X pins σ tg R) X.xe { s1 with heap:=s1.heap.push { cls:=.type "reversed",data:=.fields #[u,rawInt ((n:Int) - 1)] },toks:=k }:=fun k=>by
   have g:lq (s1.heap.push { cls:=.type "reversed",data:=.fields #[u,rawInt ((n:Int) - 1)] }) s1.heap.objs.size u ((n:Int) - 1 - (0:Nat)):=⟨_,Heap.get?_push_size _ rfl,rfl,by simp⟩
   refine Kr g ?_
   refine ⟨s1.heap.objs.size,[s1.heap.objs.size],_,_,H1,rfl,I1.kept (t':=k) fun b o e=>Heap.get?_push_of_some _ e,OM src u n _ nl hz x r hsv,g,fun b hb=>?_,q⟩
   have e:b=s1.heap.objs.size:=by simpa using hb
   subst e
   exact I1.nB (Nat.le_refl _) (I1.hok.fresh (Nat.le_refl _))
  cases src with
  | lst a=>exact absurd rfl (nl a)
  | tup a =>
   obtain ⟨rfl,xs,hq⟩:=id hv
   obtain ⟨xs',hq',hx⟩:=hn
   have hx:xs.length=n:=by rw [<- I1.g9 hq' hq];exact hx
   cases r
   obtain ⟨its,rv,pl,hz'⟩:=I1.tuple hq
   have hl:=rv.length
   refine callType_new Kt (by decide) (F.typeCall_reversed_1 _) (F.newCall_reversed_1 _) (fun obj=>F.args_object_init_2 obj _) F.entry_reversed_new (Ku (n:=n) OH slot_tuple_getitem.lookup OQ (by decide)) ⟨pl.typeIs,fun prog w A' E' Q' hq=>?_,fun k=>⟨⟨_,Heap.get?_push_size _ rfl,rfl⟩,fin k⟩⟩
   have e:its.toArray.size=n:=by rw [List.size_toArray];omega
   refine len_tuple pl (by rw [e];omega) ?_
   rw [e]
   exact hq _ _
  | str z =>
   cases hv
   have hn:z.length=n:=hn
   have:=hz z rfl
   obtain ⟨t,rfl⟩:=r
   refine callType_new Kt (by decide) (F.typeCall_reversed_1 _) (F.newCall_reversed_1 _) (fun obj=>F.args_object_init_2 obj _) F.entry_reversed_new (Ku (n:=n) OI slot_str_getitem.lookup OR (by decide)) ⟨typeIs_str _ z t,fun prog w A' E' Q' hq=>?_,fun k=>⟨⟨_,Heap.get?_push_size _ rfl,rfl⟩,fin k⟩⟩
   refine len_str (by omega) ?_
   rw [hn]
   exact hq _ _
end L2
namespace L2
open PySem PySem.Spec PyProof.Rows
open Builtin
section
variable {X:Cx}
end
end L2
namespace L2
open PySem PySem.Spec PyProof.Rows
section
variable {prog:Program} {w:World} {A:Around} {E:Value->Shared->Prop} {s:Shared}
end
section
variable {X:Cx} {pos:Pos}
end
end L2
namespace L2
open PySem PySem.Spec PyProof.Rows
section
variable {prog:Program} {w:World} {A:Around} {E:Value->Shared->Prop} {s:Shared}
end
end L2
namespace L2
open PySem PySem.Spec PyProof.Rows
section
variable {prog:Program} {w:World} {A:Around} {E:Value->Shared->Prop} {s:Shared}
end
end L2
namespace L2
open PySem PySem.Spec PyProof.Rows
end L2
namespace L2
open PySem PySem.Spec PyProof.Rows
section
variable {X:Cx} {pos:Pos}
end
end L2
namespace L2
open PySem PySem.Spec PyProof.Rows
def DU (a:Addr) (xs:List (List Int×Addr×Value)):HO:=.ext fun h=>(a == sysModules)=false/\xs.length<=sizeLine/\∃ o es ep,h.get? a=some o/\o.ExactDict/\o.data=.dict es ep /\
 (∃ (P:Program) (w:World),es.toList=xs.map (entryOfKey (tupleKind (intKind P w))))/\(xs.map (·.1)).Nodup
section
variable {X:Cx} {pins:List (Addr×Obj)} {σ:St} {H:Hp} {s:Shared} {a b:Addr} {k:List Int} {xs:List (List Int×Addr×Value)}
end
section
variable {X:Cx} {o i e value:Expr} {pos pos' tpos:Pos} {td ty tv:TE}
end
end L2
namespace L2
open PySem PySem.Spec PyProof.Rows PySem.SeqAt PySem.MeetsSeq
section
variable {prog:Program} {w:World} {A:Around} {R:Result->Shared->Prop} {I:Addr} {fp wr:List Addr} {n:Nat} {P:Nat->Value->Prop} {St:Nat->Heap->Prop}
end
section
variable {prog:Program} {w:World} {A:Around} {E:Value->Shared->Prop} {s:Shared}
end
section
variable {X:Cx}
end
end L2
namespace L2
open PySem PySem.Spec PyProof.Rows PySem.W
section
variable {lt:Nat->Nat->Bool} {n0:Nat} {cmp:Nat->Nat->(Bool->Shared->Prop)->Shared->Prop} {s:Shared}
structure Ord (lt:Nat->Nat->Bool):Prop where
 tr:∀ a b c,lt b a=false->lt c b=false->lt c a=false
 as:∀ a b,lt a b=true->lt b a=false
def P (p:Array Nat) (i:Nat):Nat:=p.getD i 0
variable (o:Ord lt) (hn:0 < n0) (hc:∀ i j (C:Bool->Shared->Prop),i < n0->j < n0->C (lt i j) s->cmp i j C s)
include o hn hc
end
section
variable {prog:Program} {w:World} {A:Around} {E:Value->Shared->Prop} {s:Shared}
end
section
variable {prog:Program} {w:World} {A:Around} {E:Value->Shared->Prop} {s:Shared} {lt:Nat->Nat->Bool}
end
section
variable {X:Cx}
end
end L2
namespace L2
open PySem PySem.Spec PyProof.Rows
section
variable {X:Cx} {o e f:Expr} {apos cpos:Pos} {td ty tx:TE}
end
end L2
namespace L2
open PySem PySem.Spec PyProof.Rows PySem.W
section
variable {X:Cx} {o e:Expr} {t t' td:TE} {apos cpos pos p:Pos}
end
end L2
namespace L2
open PySem PySem.Spec PyProof.Rows
section
variable {X:Cx} {body:List Stmt} {h₀:ExceptHandler} {hs:List ExceptHandler} {pos:Pos} {t:TS}
end
end L2
namespace L2
open PySem PySem.Spec PyProof.Rows
section
variable {X:Cx} {K:PySem.W.Frag}
theorem OS (hc:X.calm=true):hJ X (.builtin "sum") (fun xs H Q=>∃ (p:Addr) (ns:List Int),xs=[.ref p]/\jg X.K H p (ns.map V.int)/\Q (.int ns.sum) H):=by
 intro pins s σ H xs us Q I r h
 obtain ⟨p,ns,rfl,hq,q⟩:=h
 obtain ⟨u,rfl,ru⟩:=vals1 r
 cases ru
 obtain ⟨its,rv,pl,_⟩:=I.list hq
 have hi:IntsAre its ns:=JF rv
 obtain ⟨xs,hx⟩:=hi.allInts.items
 have hl':s.heap.IsList p (intItems xs):=hx ▸ pl.isList
 refine sum_intListG (I.ok.hd hc) hl' fun h' tk t' hk=>?_
 have e1:ns=xs.toList.map (·.1):=by
  rw [<- nums_intItems,<- hx]
  exact (show numsOf its.toArray.toList=ns from hi.numsOf).symm
 have e2:preSum (numAt xs) xs.size=ns.sum:=by
  rw [preSum_eq,List.take_of_length_le (by simp),e1]
 rw [e2]
 exact ⟨.int _,H,I.kept hk,⟨_,rfl⟩,q⟩
end
end L2
namespace L2
open PySem PySem.Spec PyProof.Rows
open Builtin
end L2
namespace L2
open PySem PySem.Spec PyProof.Rows
section
variable {X:Cx} {K:PySem.W.Frag}
end
end L2
namespace L2
open PySem PySem.Spec PyProof.Rows PySem.W
section
variable {prog:Program} {w:World} {A:Around} {E:Value->Shared->Prop} {s:Shared}
end
end L2
namespace L2
open PySem PySem.Spec PyProof.Rows PySem.W
end L2
namespace L2
open PySem PySem.Spec PyProof.Rows
section
variable {M:Model} {A:Around} {E:Value->Shared->Prop} {s:Shared}
end
def OT:Option Addr->Value
 | none=>.none
 | some T=>.ref T
def XO (a C:Addr) (dx tr:Option Addr):HO:=.ext fun h=>∃ o vs,h.get? a=some o/\o.cls=.ref C/\o.dict=dx/\o.data=.fields vs/\vs[1]?=some (OT tr)
section
variable {P:Program} {w:World} {H H' H2:Hp} {h h':Heap} {a C T:Addr} {dx tr:Option Addr} {o:HO}
end
section
variable {X:Cx} {pins:List (Addr×Obj)} {σ:St} {H:Hp} {s:Shared} {a C:Addr} {dx:Option Addr}
end
section
variable {P:Program} {w:World} {K:PySem.W.Frag} {mg:Str->Option Value} {base:Heap} {N:List Str} {qual:Str} {scope:Scope} {f:Addr} {cd:Value} {A:Around} {outer:List Env} {s0:Shared} {H0:Hp} {E:XK}
end
section
open PySem.W
end
section
variable {X:Cx} {pins:List (Addr×Obj)} {σ:St} {H:Hp} {s:Shared} {a C:Addr} {dx:Option Addr}
end
section
variable {P:Program} {w:World} {K:PySem.W.Frag} {mg:Str->Option Value} {base:Heap} {N:List Str} {qual:Str} {scope:Scope} {f:Addr} {cd:Value} {A:Around} {outer:List Env} {s0:Shared} {H0:Hp} {E:XK}
end
end L2
namespace L2
open PySem PySem.Spec PyProof.Rows
section
variable {X:Cx} {pins:List (Addr×Obj)} {σ:St} {H:Hp} {s:Shared} {W:St->Addr->Hp->Prop} {a:Addr}
end
section
variable {X:Cx} {i:Nat} {x n:Str} {F:Addr} {bmB:List Value} {newId:String} {tb:(St->Addr->Hp->Prop)->TS} {ts:TS} {body suite:List Stmt} {b0:Stmt} {np hpos pos:Pos}
end
section
variable {X:Cx} {k:Nat} {f:Addr} {fd:FuncData} {ps:List Str} {sp:Sp} {x:Str} {p pos:Pos} {e:Expr} {es:List Expr} {t:TA} {pins:List (Addr×Obj)} {W:St->Addr->Hp->Prop}
end
end L2
namespace L2
open PySem PySem.Spec PyProof.Rows PySem.W
section
variable {prog:Program} {w:World} {A:Around} {E:Value->Shared->Prop} {s:Shared} {K:Frag} {a C:Addr} {ox:Obj} {odo:Option Obj} {name:Str}
end
section
variable {X:Cx} {x:Str} {c:Value} {v:V} {p pos:Pos} {e:Expr} {te:TE} {b:Bool}
end
end L2
namespace L2
open PySem PySem.Spec PyProof.Rows
section
variable {X:Cx}
end
end L2
namespace L2
open PySem PySem.Spec PyProof.Rows PySem.W PySem.Builtin PySem.Builtin.ObjectAttr
section
variable {prog:Program} {w:World} {A:Around} {E:Value->Shared->Prop} {s:Shared} {K:Frag} {a C:Addr} {ox:Obj} {odo:Option Obj} {name:Str} {v:Value}
end
section
variable {X:Cx} {pins:List (Addr×Obj)} {σ:St} {H:Hp} {s:Shared} {a C:Addr} {tr:Option Addr} {f:Str} {y:V} {u:Value}
variable {o value:Expr} {ta tv:TE} {pos pos':Pos}
end
end L2
namespace L2
open PySem PySem.Spec PyProof.Rows PySem.W
section
variable {prog:Program} {w:World} {A:Around} {E:Value->Shared->Prop} {h:Heap} {g:Array GenState} {d:Drawn} {t:Nat} {os:OsState}
variable {nm q:Str} {C N:Addr} {bs bm bmB:List Value} {hdct:Bool} {sn:List Str} {sub:List Value} {ab:Bool} {col:Option Bool} {dd:Option Addr} {k0 k1 k2 k3 k5:Option Value} {B newId initId:String}
end
section
variable {X:Cx} {k:Nat} {f C:Addr} {fd:FuncData} {ps:List Str} {sp:Sp} {x:Str} {p pos:Pos} {e:Expr} {es:List Expr} {t:TA} {B newId initId:String} {bmB:List Value}
end
section
variable {P:Program} {w:World} {K:Frag} {mg:Str->Option Value} {base:Heap} {N:List Str} {qual:Str} {scope:Scope} {f:Addr} {cd:Value} {A:Around} {outer:List Env} {s0:Shared} {H0:Hp} {E:XK}
end
end L2
namespace L2
open PySem PySem.Spec PyProof.Rows PySem.W
section
variable {X:Cx} {e:Expr} {te:TE} {f:Str} {pos:Pos}
end
end L2
namespace L2
open PySem PySem.Spec PyProof.Rows
section
variable {X:Cx}
def uL (i j:Int):Prop:=j≠0/\j.natAbs.log2 < 9000
theorem DK:kZ X (binaryOp .FloorDiv) (rI uL fun i j=>.int (i.fdiv j)):=yG fun _ j _ _ _ _ _ hc q=>floordiv_int hc.1 q (.inl (PyProof.noPylong_of_log2 hc.2))
end
end L2
namespace L2
open PySem PySem.Spec PyProof.Rows
open Builtin
def P2 (k:Nat):Nat:=2 ^ k
theorem Kv (a b:Nat):P2 a * P2 b=P2 (a + b):=(Nat.pow_add 2 a b).symm
theorem AV {a b:Nat} (h:a<=b):P2 a<=P2 b:=Nat.pow_le_pow_right (by decide) h
theorem yN (a:Nat):0 < P2 a:=Nat.two_pow_pos a
theorem wF (a n:Nat):P2 a ^ n=P2 (a * n):=(Nat.pow_mul 2 a n).symm
theorem sR (a:Nat):P2 (a + 1)=2 * P2 a:=by unfold P2;rw [Nat.pow_succ,Nat.mul_comm]
theorem Kw (a:Nat):a < P2 a:=Nat.lt_two_pow_self
def pH (i j:Int):Prop:=qz i j\/(Builtin.Int.intBits i<=60000000/\Builtin.Int.intBits j<=60000000)
theorem uM {i:Int} {k:Nat} (h:i.natAbs < P2 k) (hk:k<=60000000):Builtin.Int.intBits i<=60000000:=Nat.le_trans (PyProof.Rows.intBits_le h) hk
theorem pH.ok {i j:Int} (h:pH i j):IntMulOk i j:=by
 rcases h with h | ⟨h1,h2⟩
 ·exact h.ok
 ·exact PyProof.Rows.mulOk_of_bits (m:=60000000) (n:=60000000) h1 h2 (by decide)
section
variable {X:Cx}
theorem ou:kZ X (binaryOp .Mult) (rI pH fun i j=>.int (i * j)):=yG fun _ _ _ _ _ _ _ hc q=>mul_int q hc.ok
end
end L2
namespace L2
open PySem PySem.Spec PyProof.Rows
theorem Kx (a b:Int):Builtin.Range.rangeSize a b (-1)=if b < a then a - b else 0:=by
 unfold Builtin.Range.rangeSize
 rw [if_neg (by decide)]
 simp only [Int.neg_neg,Int.ediv_one]
 split <;> omega
theorem OU {a b:Int} (ha:-(2 ^ 62)<=a) (ha':a < 2 ^ 62) (hb:-(2 ^ 62)<=b) (hb':b < 2 ^ 62):Builtin.Range.small a b (-1)=true:=by
 unfold Builtin.Range.small
 rw [Kx]
 simp only [Builtin.Range.rangeFitsLong,Bool.and_eq_true,Bool.or_eq_true,decide_eq_true_eq,beq_iff_eq,show ¬ ((-1:Int) > 0) by decide,if_false]
 split <;> omega
def DL (lo:Int) (n:Nat):It:=⟨fun i _=>i < n,fun i H x H'=>H'=H/\x=.int (lo - i),fun i _=>n<=i⟩
theorem OV {P:Program} {w:World} {K:PySem.W.Frag} {tg:Expr} (it:Addr) (lo:Int) (n:Nat):Turn P w K tg (DL lo n) [it] it (fun i h=>IsRangeIter h it (lo + (i:Nat) * (-1)) ((n:Int) - (i:Nat)) (-1)) where
 mem:=by simp
 obj:=fun i h st b hb=>by
  have e:b=it:=by simpa using hb
  subst e
  exact ⟨_,st,fun v z=>by
   have z':Data.fields _=Data.cell v:=z
   cases z'⟩
 keep:=fun i h h' st k=>k it (by simp) _ st
 item:=by
  intro X hP hw hK hc i pins s σ H E I hf st hg
  subst hP hw hK
  obtain ⟨f0,f1,f2,f3,f4,f5⟩:=hf it (by simp)
  have W:=Walks.range (prog:=X.prog) (w:=X.w) (I.ok.hd hc) it lo (-1) n
  refine W.item i s _ _ hg st fun v h' tk hv st' kk=>?_
  obtain ⟨t,rfl⟩:=hv
  have I1:Inv X pins σ H { s with heap:=h',toks:=tk }:=I.turned (fun b o hb e=>kk b o (by simpa using hb) e) f0 f1 f3 f4 f5
  refine ⟨_,rfl,zX (s:={ s with heap:=h',toks:=tk }) (n:="range_iterator") st' rfl rfl (by decide) ⟨.int (lo - i),H,I1,⟨t,?_⟩,⟨rfl,rfl⟩,st',fun b hb=>(hf b hb).1⟩⟩
  rw [Int.mul_neg,Int.mul_one,<- Int.sub_eq_add_neg]
 done:=by
  intro X hP hw hK hc i pins s σ H E I hf st hg
  subst hP hw hK
  obtain ⟨f0,f1,f2,f3,f4,f5⟩:=hf it (by simp)
  exact wpAny_pyNext_range_end (I.ok.hd hc) st (by have:n<=i:=hg;omega) fun h' eb=>⟨rfl,I.turned (t':=s.toks) (fun b o hb e=>eb b o hb e) f0 f1 f3 f4 f5⟩
 self:=fun _ _ _ _ _ st h=>wpAny_pyIter_rangeiter st h
section
variable {X:Cx} {tg:Expr}
theorem OW {pins:List (Addr×Obj)} {σ:St} {H:Hp} {s:Shared} {R:It->Hp->Prop} {E:Value->Shared->Prop} {lo hi:Int} {t u v:Tok} {tk:Nat} (I:Inv X pins σ H s) (h1:-(2 ^ 62)<=lo) (h2:lo < 2 ^ 62) (h3:-(2 ^ 62)<=hi) (h4:hi < 2 ^ 62)
  (q:R (DL lo (lo - hi).toNat) H):wpAny (model X.prog X.w) X.A (pyIter (.ref s.heap.objs.size)) (Dn X pins σ tg R) E { s with heap:=s.heap.push { cls:=.type "range",data:=.fields #[.int lo t,.int hi u,.int (-1) v] },toks:=tk }:=by
 refine wpAny_pyIter_range (IsRange.new ..) (OU h1 h2 h3 h4) ?_
 have I1:Inv X pins σ H { s with heap:=s.heap.push { cls:=.type "range",data:=.fields #[.int lo t,.int hi u,.int (-1) v] },toks:=tk }:=I.kept fun b o e=>Heap.get?_push_of_some _ e
 refine ⟨(s.heap.push { cls:=.type "range",data:=.fields #[.int lo t,.int hi u,.int (-1) v] }).objs.size,[(s.heap.push { cls:=.type "range",data:=.fields #[.int lo t,.int hi u,.int (-1) v] }).objs.size],_,_,H,rfl,
  I1.kept (t':=tk) fun b o e=>Heap.get?_push_of_some _ e,OV _ lo (lo - hi).toNat,?_,fun b hb=>?_,q⟩
 ·have e1:lo + ((0:Nat):Int) * (-1)=lo:=by simp
  have e2:(((lo - hi).toNat:Nat):Int) - ((0:Nat):Int)=Builtin.Range.rangeSize lo hi (-1):=by rw [Kx];split <;> omega
  show IsRangeIter _ _ (lo + ((0:Nat):Int) * (-1)) ((((lo - hi).toNat:Nat):Int) - ((0:Nat):Int)) (-1)
  rw [e1,e2]
  exact Heap.get?_push_size _ rfl
 ·have e:b=(s.heap.push { cls:=.type "range",data:=.fields #[.int lo t,.int hi u,.int (-1) v] }).objs.size:=by simpa using hb
  subst e
  exact I1.nB (Nat.le_refl _) (I1.hok.fresh (Nat.le_refl _))
def uN (ta:TA):TI:=fun σ H R=>ta σ H fun vs H1=>∃ i j:Int,vs=[.int i,.int j,.int (-1)]/\(-(2 ^ 62)<=i/\i < 2 ^ 62/\-(2 ^ 62)<=j/\j < 2 ^ 62)/\R (DL i (i - j).toNat) H1
theorem Ky {a b c:Expr} {ta:TA} {p pos:Pos} (hg:Gl X "range") (hm:X.mg "range" = none) (ha:PA X [a,b,c] ta) (hs:starEach [a,b,c] X.env=[(false,eval a X.env),(false,eval b X.env),(false,eval c X.env)]:=by rfl) (hs2:starEach [b,c] X.env=[(false,eval b X.env),(false,eval c X.env)]:=by rfl) :
  PI X tg (.Call (.Name "range" p) [a,b,c] [] pos) (uN ta):=by
 intro pins s σ H R I h
 refine Call_ (uh I hg hm boot_range (PyProof.Rows.callWith_type1 (cC (ha pos pins s σ H _ I h) fun us s1 ⟨vs,H1,I1,r1,q1⟩=>?_) (by rw [hs,hs2]) (by rw [hs2];rfl)))
 obtain ⟨i,j,e,⟨q1,q2,q3,q4⟩,q⟩:=q1
 subst e
 cases r1 with
 | cons r rr =>
  cases rr with
  | cons r' rr =>
   cases rr with
   | cons r'' rr =>
    cases rr
    obtain ⟨t,rfl⟩:=r
    obtain ⟨t',rfl⟩:=r'
    obtain ⟨t'',rfl⟩:=r''
    exact call_range_3 (by decide) (OW I1 q1 q2 q3 q4 q) (.inl (PyProof.noPylong_of_log2 (by decide +kernel)))
end
end L2
namespace ag
def upto (n:Nat):List Int:=(List.range n).map fun (k:Nat)=>(k:Int)
theorem rL (n:Nat):(upto n).length=n:=by simp [upto]
theorem p7 {n:Nat} {x:Int}:x∈upto n↔0<=x/\x < (n:Int):=by
 simp only [upto,List.mem_map,List.mem_range]
 constructor
 ·rintro ⟨k,hk,rfl⟩;omega
 ·rintro ⟨h1,h2⟩;exact ⟨x.toNat,by omega,by omega⟩
theorem OX (n:Nat):(upto n).Pairwise (· < ·):=by
 unfold upto
 rw [List.pairwise_map]
 exact (List.pairwise_lt_range).imp fun h=>by omega
theorem OY (n:Nat):(upto n).Nodup:=(OX n).imp fun h=>by omega
theorem Kz:∀ {xs ys:List Int},xs.Nodup->(∀ x∈xs,x∈ys)->ys.length<=xs.length->xs.Perm ys
 | [],ys,_,_,h=>by
  have:ys=[]:=List.eq_nil_of_length_eq_zero (by simpa using h)
  subst this;exact List.Perm.refl _
 | x :: xs,ys,hn,hs,hl=>by
  obtain ⟨h1,h2⟩:=List.nodup_cons.mp hn
  have hx:x∈ys:=hs x List.mem_cons_self
  have hp:=List.perm_cons_erase hx
  have hlen:(ys.erase x).length + 1=ys.length:=by have:=hp.length_eq;simpa using this.symm
  refine List.Perm.trans (List.Perm.cons x (Kz (ys:=ys.erase x) h2 (fun y hy=>?_) ?_)) hp.symm
  ·have hne:y≠x:=fun e=>h1 (e ▸ hy)
   exact (List.mem_erase_of_ne hne).mpr (hs y (List.mem_cons_of_mem _ hy))
  ·simp at hl;omega
theorem GU {xs:List Int} (hn:xs.Nodup) (hb:∀ x∈xs,0<=x/\x < (xs.length:Int)):xs.Perm (upto xs.length):=by
 exact Kz hn (fun x hx=>p7.mpr (hb x hx)) (by rw [rL];exact Nat.le_refl _)
end ag
namespace ag
def app (xs:List Int) (i:Int):Int:=xs.getD i.toNat 0
def aM (xs:List Int) (i:Int):Nat->Int
 | 0=>i
 | j + 1=>app xs (aM xs i j)
def Tn (n:Nat) (xs:List Int):Prop:=xs.Perm (upto n)
theorem Tn.length {n:Nat} {xs:List Int} (h:Tn n xs):xs.length=n:=by rw [h.length_eq,rL]
theorem Tn.nodup {n:Nat} {xs:List Int} (h:Tn n xs):xs.Nodup:=h.nodup_iff.mpr (OY n)
theorem Tn.bound {n:Nat} {xs:List Int} (h:Tn n xs) {x:Int} (hx:x∈xs):0<=x/\x < (n:Int):=p7.mp (h.subset hx)
theorem ow {xs:List Int} {i:Int} (h0:0<=i) (h1:i < (xs.length:Int)):xs[i.toNat]?=some (app xs i):=by
 have:i.toNat < xs.length:=by omega
 unfold app
 rw [List.getD_eq_getElem?_getD,List.getElem?_eq_getElem this];rfl
theorem OZ {xs:List Int} {i:Int} (h0:0<=i) (h1:i < (xs.length:Int)):app xs i∈xs:=List.mem_of_getElem? (ow h0 h1)
theorem Tn.app {n:Nat} {xs:List Int} (h:Tn n xs) {i:Int} (h0:0<=i) (h1:i < (n:Int)):0<=app xs i/\app xs i < (n:Int):=h.bound (OZ h0 (by rw [h.length];exact h1))
theorem Tn.inj {n:Nat} {xs:List Int} (h:Tn n xs) {i j:Int} (i0:0<=i) (i1:i < (n:Int)) (j0:0<=j) (j1:j < (n:Int)) (e:ag.app xs i=ag.app xs j):i=j:=by
 have hl:=h.length
 have a:=ow i0 (by rw [hl];exact i1)
 have b:=ow j0 (by rw [hl];exact j1)
 rw [e] at a
 obtain ⟨ha,ea⟩:=List.getElem?_eq_some_iff.mp a
 obtain ⟨hb,eb⟩:=List.getElem?_eq_some_iff.mp b
 have:=(List.getElem_inj h.nodup).mp (ea.trans eb.symm)
 omega
theorem Tn.aM {n:Nat} {xs:List Int} (h:Tn n xs) {i:Int} (h0:0<=i) (h1:i < (n:Int)):∀ j,0<=aM xs i j/\aM xs i j < (n:Int)
 | 0=>⟨h0,h1⟩
 | j + 1=>h.app (h.aM h0 h1 j).1 (h.aM h0 h1 j).2
theorem Tn.back {n:Nat} {xs:List Int} (h:Tn n xs) {i:Int} (h0:0<=i) (h1:i < (n:Int)):∀ (a d:Nat),ag.aM xs i a=ag.aM xs i (a + d)->ag.aM xs i d=i
 | 0,d,e=>by rw [Nat.zero_add] at e;exact e.symm
 | a + 1,d,e=>by
  have e':ag.app xs (ag.aM xs i a)=ag.app xs (ag.aM xs i (a + d)):=by
   have:a + 1 + d=(a + d) + 1:=by omega
   rw [this] at e
   exact e
  exact h.back h0 h1 a d (h.inj (h.aM h0 h1 a).1 (h.aM h0 h1 a).2 (h.aM h0 h1 _).1 (h.aM h0 h1 _).2 e')
theorem DM:∀ {xs ys:List Int},xs.Nodup->(∀ x∈xs,x∈ys)->xs.length<=ys.length
 | [],_,_,_=>Nat.zero_le _
 | x :: xs,ys,hn,hs=>by
  obtain ⟨h1,h2⟩:=List.nodup_cons.mp hn
  have hx:x∈ys:=hs x List.mem_cons_self
  have hp:=List.perm_cons_erase hx
  have hlen:(ys.erase x).length + 1=ys.length:=by have:=hp.length_eq;simpa using this.symm
  have:=DM (ys:=ys.erase x) h2 fun y hy=>(List.mem_erase_of_ne (a:=y) (b:=x) (fun e=>h1 (by rw [<- e];exact hy))).mpr (hs y (List.mem_cons_of_mem _ hy))
  simp only [List.length_cons]
  omega
def row (xs:List Int) (i:Int) (m:Nat):List Int:=(List.range (m + 1)).map (aM xs i)
theorem KA (xs:List Int) (i:Int) (m:Nat):row xs i (m + 1)=row xs i m ++ [aM xs i (m + 1)]:=by
 unfold row;rw [List.range_succ,List.map_append];rfl
theorem rM (xs:List Int) (i:Int) (m:Nat):(row xs i m).length=m + 1:=by simp [row]
theorem DN {xs:List Int} {i:Int} {m:Nat} {x:Int}:x∈row xs i m↔∃ j,j<=m/\aM xs i j=x:=by
 unfold row
 rw [List.mem_map]
 constructor
 ·rintro ⟨j,hj,e⟩;exact ⟨j,by have:=List.mem_range.mp hj;omega,e⟩
 ·rintro ⟨j,hj,e⟩;exact ⟨j,List.mem_range.mpr (by omega),e⟩
def NB (xs:List Int) (i:Int) (m:Nat):Prop:=∀ j,1<=j->j<=m->aM xs i j≠i
theorem Tn.kd {n:Nat} {xs:List Int} (h:Tn n xs) {i:Int} (h0:0<=i) (h1:i < (n:Int)) {m:Nat} (nb:NB xs i m):m + 1<=n:=by
 have hn:(row xs i m).Nodup:=by
  unfold row List.Nodup
  rw [List.pairwise_map]
  refine List.Pairwise.imp_of_mem (R:=fun a b=>a < b) ?_ List.pairwise_lt_range
  intro a b ha hb hab e
  have ha':=List.mem_range.mp ha
  have hb':=List.mem_range.mp hb
  obtain ⟨d,rfl⟩:∃ d,b=a + d:=⟨b - a,by omega⟩
  exact nb d (by omega) (by omega) (h.back h0 h1 a d e)
 have:=DM hn (ys:=upto n) fun x hx=>by
  obtain ⟨j,_,rfl⟩:=DN.mp hx
  exact p7.mpr (h.aM h0 h1 j)
 rw [rM,rL] at this
 exact this
structure iq (xs:List Int) (i:Int) (r:List Int):Prop where
 ex:∃ m,r=row xs i m/\NB xs i m/\aM xs i (m + 1)=i
theorem iq.mem {xs:List Int} {i:Int} {r:List Int} (a:iq xs i r):i∈r:=by
 obtain ⟨m,e1,_,_⟩:=a.ex
 rw [e1];exact DN.mpr ⟨0,Nat.zero_le _,rfl⟩
theorem iq.len {n:Nat} {xs:List Int} (h:Tn n xs) {i:Int} (h0:0<=i) (h1:i < (n:Int)) {r:List Int} (a:iq xs i r):r.length<=n:=by
 obtain ⟨m,e1,nb,_⟩:=a.ex
 rw [e1,rM];exact h.kd h0 h1 nb
theorem iq.bound {n:Nat} {xs:List Int} (h:Tn n xs) {i:Int} (h0:0<=i) (h1:i < (n:Int)) {r:List Int} (a:iq xs i r):∀ x∈r,0<=x/\x < (n:Int):=by
 obtain ⟨m,e1,nb,_⟩:=a.ex
 subst e1
 intro x hx
 obtain ⟨j,_,rfl⟩:=DN.mp hx
 exact h.aM h0 h1 j
def out (left r:List Int):List Int:=left.filter fun k=>!r.contains k
inductive uO (xs:List Int):List Int->List (List Int)->Prop
 | nil:uO xs [] []
 | cons {i:Int} {left r:List Int} {rs:List (List Int)}:iq xs i r->uO xs (out (i :: left) r) rs->uO xs (i :: left) (r :: rs)
def from' (n k:Nat) (seen:Int->Bool):List Int:=(((List.range n).drop k).map fun (j:Nat)=>(j:Int)).filter fun x=>!seen x
theorem O0 (n:Nat) (seen:Int->Bool):from' n n seen=[]:=by
 unfold from';rw [List.drop_of_length_le (by simp)];rfl
theorem O1 {n k:Nat} (h:k < n) (seen:Int->Bool):from' n k seen=if seen (k:Int) then from' n (k + 1) seen else (k:Int) :: from' n (k + 1) seen:=by
 unfold from'
 rw [List.drop_eq_getElem_cons (by simpa using h),List.map_cons,List.filter_cons]
 simp only [List.getElem_range]
 cases hs:seen (k:Int) <;> simp
theorem O2 {n k:Nat} {seen:Int->Bool} {r:List Int}:out (from' n k seen) r=from' n k (fun x=>seen x || r.contains x):=by
 unfold out from'
 rw [List.filter_filter]
 congr 1
 funext x
 show (!r.contains x && !seen x)=!(seen x || r.contains x)
 cases seen x <;> cases r.contains x <;> rfl
theorem O3 (n:Nat):from' n 0 (fun _=>false)=upto n:=by
 unfold from' upto
 rw [List.drop_zero]
 simp
def pI (n:Nat):List Int:=((List.range (n - 1)).map fun (k:Nat)=>(1:Int) + k) ++ [0]
theorem O4:∀ n,n < 21->0 < n->(pI n).isPerm (upto n)=true:=by decide
theorem KC {n:Nat} (h:n < 21) (h0:0 < n):Tn n (pI n):=List.isPerm_iff.mp (O4 n h h0)
end ag
namespace ag
theorem KD {n:Nat} {xs:List Int} (h:xs.length=n):(upto n).map (app xs)=xs:=by
 apply List.ext_getElem
 ·rw [List.length_map,rL,h]
 ·intro i h1 h2
  have e:=ow (xs:=xs) (i:=(i:Int)) (by omega) (by omega)
  simp only [Int.toNat_natCast] at e
  rw [List.getElem?_eq_getElem h2] at e
  rw [List.getElem_map]
  unfold upto
  simp only [List.getElem_map,List.getElem_range]
  exact (Option.some.inj e).symm
def inv (xs:List Int):List Int:=(upto xs.length).map fun i=>(xs.idxOf i:Int)
theorem DO (xs:List Int):(inv xs).length=xs.length:=by unfold inv;rw [List.length_map,rL]
theorem GV {n i:Nat} (h:i < n):(upto n)[i]?=some (i:Int):=by
 unfold upto;rw [List.getElem?_map,List.getElem?_range h];rfl
theorem AW {xs:List Int} {i:Int} (h0:0<=i) (h1:i < (xs.length:Int)):app (inv xs) i=(xs.idxOf i:Int):=by
 have e:=ow (xs:=inv xs) h0 (by rw [DO];exact h1)
 unfold inv at e
 rw [List.getElem?_map,GV (by omega)] at e
 have:=Option.some.inj e
 rw [<- inv] at this
 rw [<- this,Int.toNat_of_nonneg h0]
theorem Tn.mem {n:Nat} {xs:List Int} (h:Tn n xs) {i:Int} (h0:0<=i) (h1:i < (n:Int)):i∈xs:=h.symm.subset (p7.mpr ⟨h0,h1⟩)
theorem Tn.idx {n:Nat} {xs:List Int} (h:Tn n xs) {i:Int} (h0:0<=i) (h1:i < (n:Int)):xs.idxOf i < n:=by rw [<- h.length];exact List.idxOf_lt_length_of_mem (h.mem h0 h1)
theorem Tn.dc {n:Nat} {xs:List Int} (h:Tn n xs) {i:Int} (h0:0<=i) (h1:i < (n:Int)):ag.app xs (ag.app (inv xs) i)=i:=by
 rw [AW h0 (by rw [h.length];exact h1)]
 have hl:=h.idx h0 h1
 have e:=ow (xs:=xs) (i:=(xs.idxOf i:Int)) (by omega) (by rw [h.length];omega)
 rw [Int.toNat_natCast,List.getElem?_eq_getElem (by rw [h.length];exact hl)] at e
 rw [<- Option.some.inj e]
 exact List.getElem_idxOf _
theorem Tn.nL {n:Nat} {xs:List Int} (h:Tn n xs) {i:Int} (h0:0<=i) (h1:i < (n:Int)):0<=ag.app (inv xs) i/\ag.app (inv xs) i < (n:Int):=by
 rw [AW h0 (by rw [h.length];exact h1)]
 have:=h.idx h0 h1
 omega
theorem Tn.dJ {n:Nat} {xs:List Int} (h:Tn n xs) {i:Int} (h0:0<=i) (h1:i < (n:Int)):ag.app (inv xs) (ag.app xs i)=i:=by
 obtain ⟨a0,a1⟩:=h.app h0 h1
 obtain ⟨b0,b1⟩:=h.nL a0 a1
 exact h.inj b0 b1 h0 h1 (h.dc a0 a1)
theorem Tn.cQ {n:Nat} {xs:List Int} (h:Tn n xs):Tn n (inv xs):=by
 have hl:=h.length
 unfold Tn
 have e:(inv xs).length=n:=by rw [DO,hl]
 have:=GU (xs:=inv xs) ?_ ?_
 ·rw [e] at this;exact this
 ·unfold List.Nodup
  rw [List.pairwise_iff_getElem]
  intro i j hi hj hij z
  have a:=ow (xs:=inv xs) (i:=(i:Int)) (by omega) (by omega)
  have b:=ow (xs:=inv xs) (i:=(j:Int)) (by omega) (by omega)
  rw [Int.toNat_natCast,List.getElem?_eq_getElem hi] at a
  rw [Int.toNat_natCast,List.getElem?_eq_getElem hj] at b
  have a:=Option.some.inj a
  have b:=Option.some.inj b
  have c:=h.dc (i:=(i:Int)) (by omega) (by omega)
  have d:=h.dc (i:=(j:Int)) (by omega) (by omega)
  rw [<- a] at c
  rw [<- b,<- z] at d
  have:=c.symm.trans d
  omega
 ·intro x hx
  unfold inv at hx
  obtain ⟨i,hi,rfl⟩:=List.mem_map.mp hx
  have:=p7.mp hi
  rw [hl] at this
  have:=h.idx this.1 this.2
  rw [e];omega
theorem rN (xs:List Int) (i:Int) (j:Nat):∀ d,aM xs (aM xs i j) d=aM xs i (j + d)
 | 0=>rfl
 | d + 1=>by show app xs (aM xs (aM xs i j) d)=app xs (aM xs i (j + d));rw [rN xs i j d]
theorem KG {xs:List Int} {i:Int} {L:Nat} (h:aM xs i L=i) (a:Nat):aM xs i (a + L)=aM xs i a:=by
 rw [Nat.add_comm,<- rN xs i L a,h]
theorem AX {xs:List Int} {i:Int} {L:Nat} (h:aM xs i L=i):∀ (q r:Nat),aM xs i (r + L * q)=aM xs i r
 | 0,r=>rfl
 | q + 1,r=>by rw [Nat.mul_succ,<- Nat.add_assoc,KG h];exact AX h q r
theorem KH {xs:List Int} {i:Int} {L:Nat} (h:aM xs i L=i) (a:Nat):aM xs i (a % L)=aM xs i a:=by
 have:=AX h (a / L) (a % L)
 rw [Nat.mod_add_div] at this
 exact this.symm
def KI (xs:List Int) (k i v:Int):Prop:=∃ m,NB xs i m/\aM xs i (m + 1)=i/\v=aM xs i (k % ((m + 1:Nat):Int)).toNat
theorem Tn.wG {n:Nat} {xs:List Int} (h:Tn n xs) {i:Int} (h0:0<=i) (h1:i < (n:Int)) {m:Nat} (nb:NB xs i m) (bk:ag.aM xs i (m + 1)=i) (j:Nat) (k:Int) :
  KI xs k (ag.aM xs i j) (ag.aM xs i (((j:Int) + k) % ((m + 1:Nat):Int)).toNat):=by
 refine ⟨m,fun d d1 d2 e=>?_,?_,?_⟩
 ·rw [rN] at e
  exact nb d d1 d2 (h.back h0 h1 j d e.symm)
 ·rw [rN,KG bk]
 ·rw [rN]
  rw [<- KH bk (j + (k % ((m + 1:Nat):Int)).toNat)]
  congr 1
  have hL:(0:Int) < ((m + 1:Nat):Int):=by omega
  have k0:=Int.emod_nonneg k (Int.ne_of_gt hL)
  have e:(((j + (k % ((m + 1:Nat):Int)).toNat) % (m + 1):Nat):Int)=((j:Int) + k) % ((m + 1:Nat):Int):=by
   rw [Int.natCast_emod,Int.natCast_add,Int.toNat_of_nonneg k0,Int.add_emod_emod]
  rw [<- e,Int.toNat_natCast]
theorem uO.all {xs:List Int}:∀ {left:List Int} {rs:List (List Int)},uO xs left rs->(∀ r∈rs,∃ i∈left,iq xs i r)/\∀ x∈left,∃ r∈rs,x∈r:=by
 intro left rs a
 induction a with
 | nil=>exact ⟨fun r hr=>(nomatch hr),fun x hx=>(nomatch hx)⟩
 | cons h1 _ ih =>
  refine ⟨fun r hr=>?_,fun x hx=>?_⟩
  ·rcases List.mem_cons.mp hr with rfl | hr
   ·exact ⟨_,List.mem_cons_self,h1⟩
   ·obtain ⟨i,hi,r'⟩:=ih.1 r hr
    exact ⟨i,(List.mem_filter.mp hi).1,r'⟩
  ·rename_i i left r rs _
   by_cases hc:x∈r
   ·exact ⟨r,List.mem_cons_self,hc⟩
   ·obtain ⟨r',hr',hx'⟩:=ih.2 x (List.mem_filter.mpr ⟨hx,by simp [hc]⟩)
    exact ⟨r',List.mem_cons_of_mem _ hr',hx'⟩
end ag
namespace ag
inductive kI (xs ys:List Int):Int->Prop
 | zero:kI xs ys 0
 | r {x:Int}:kI xs ys x->kI xs ys (app xs x)
 | u {x:Int}:kI xs ys x->kI xs ys (app ys x)
theorem kI.bound {n:Nat} {xs ys:List Int} (hx:Tn n xs) (hy:Tn n ys) (h0:0 < n) {x:Int} (h:kI xs ys x):0<=x/\x < (n:Int):=by
 induction h with
 | zero=>omega
 | r _ ih=>exact hx.app ih.1 ih.2
 | u _ ih=>exact hy.app ih.1 ih.2
theorem kI.aM {xs ys:List Int} {x:Int} (h:kI xs ys x):∀ k,kI xs ys (ag.aM xs x k)
 | 0=>h
 | k + 1=>.r (h.aM k)
def mX (xs:List Int) (m:Nat):List Int:=(xs.set 0 (app xs m)).set m (app xs 0)
theorem O5 (xs:List Int) (m:Nat):(mX xs m).length=xs.length:=by simp [mX]
theorem GW {xs:List Int} {m:Nat} {v x:Int} (hm:m < xs.length) (h0:0<=x):app (xs.set m v) x=if x=(m:Int) then v else app xs x:=by
 unfold app
 rw [List.getD_eq_getElem?_getD,List.getD_eq_getElem?_getD]
 by_cases hx:x=(m:Int)
 ·rw [if_pos hx,hx,Int.toNat_natCast,List.getElem?_set_self hm];rfl
 ·rw [if_neg hx,List.getElem?_set_ne (by omega)]
theorem yO {xs:List Int} {m:Nat} (hm:m < xs.length) {x:Int} (h0:0<=x):app (mX xs m) x=if x=(m:Int) then app xs 0 else if x=0 then app xs m else app xs x:=by
 unfold mX
 rw [GW (by simpa using hm) h0,GW (by omega) h0]
 rfl
theorem wH {n:Nat} {xs:List Int} (h:Tn n xs) {m:Nat} (hm:m < n):Tn n (mX xs m):=by
 have hl:=h.length
 have e:(mX xs m).length=n:=by rw [O5,hl]
 have:=GU (xs:=mX xs m) ?_ ?_
 ·unfold Tn;rw [e] at this;exact this
 ·unfold List.Nodup
  rw [List.pairwise_iff_getElem]
  intro i j hi hj hij z
  have a:=ow (xs:=mX xs m) (i:=(i:Int)) (by omega) (by omega)
  have b:=ow (xs:=mX xs m) (i:=(j:Int)) (by omega) (by omega)
  rw [Int.toNat_natCast,List.getElem?_eq_getElem hi] at a
  rw [Int.toNat_natCast,List.getElem?_eq_getElem hj] at b
  have a:=Option.some.inj a
  have b:=Option.some.inj b
  rw [yO (by omega) (by omega)] at a b
  rw [a,b] at z
  have inj:∀ p q:Int,0<=p->p < (n:Int)->0<=q->q < (n:Int)->app xs p=app xs q->p=q:=fun p q p0 p1 q0 q1=>h.inj p0 p1 q0 q1
  split at z <;> split at z <;> (try split at z) <;> (try split at z) <;> (first | omega | (have:=inj _ _ (by omega) (by omega) (by omega) (by omega) z;omega))
 ·intro x hx
  obtain ⟨i,hi,rfl⟩:=List.getElem_of_mem hx
  have a:=ow (xs:=mX xs m) (i:=(i:Int)) (by omega) (by omega)
  rw [Int.toNat_natCast,List.getElem?_eq_getElem hi] at a
  rw [Option.some.inj a,yO (by omega) (by omega),e]
  split
  ·exact h.app (by omega) (by omega)
  ·split
   ·exact h.app (by omega) (by omega)
   ·exact h.app (by omega) (by omega)
theorem Tn.sS {n:Nat} {xs:List Int} (h:Tn n xs) {i:Int} (h0:0<=i) (h1:i < (n:Int)):∃ m,NB xs i m/\ag.aM xs i (m + 1)=i:=by
 by_cases hb:∃ m,m < n/\ag.aM xs i (m + 1)=i
 ·-- the least
  have key:∀ b:Nat,(∃ m,m < b/\ag.aM xs i (m + 1)=i)->∃ m,NB xs i m/\ag.aM xs i (m + 1)=i:=by
   intro b
   induction b with
   | zero=>rintro ⟨m,hm,_⟩;omega
   | succ b ih =>
    rintro ⟨m,hm,e⟩
    by_cases hc:∃ m,m < b/\ag.aM xs i (m + 1)=i
    ·exact ih hc
    ·refine ⟨m,fun j j1 j2 z=>hc ⟨j - 1,by omega,?_⟩,e⟩
     have:j - 1 + 1=j:=by omega
     rw [this];exact z
  exact key n hb
 ·have nb:NB xs i n:=fun j j1 j2 z=>by
   refine hb ⟨j - 1,by omega,?_⟩
   have:j - 1 + 1=j:=by omega
   rw [this];exact z
  have:=h.kd h0 h1 nb
  omega
theorem O6 {n:Nat} {xs ys:List Int} (hx:Tn n xs) (hy:Tn n ys) {m:Nat} (hm:m < n) (nm:¬ kI xs ys (m:Int)):kI (mX xs m) ys (m:Int)/\∀ x,kI xs ys x->kI (mX xs m) ys x:=by
 have hl:=hx.length
 have m0:m≠0:=fun z=>nm (by rw [z];exact .zero)
 obtain ⟨M,nb,bk⟩:=hx.sS (i:=(m:Int)) (by omega) (by omega)
 have O7:∀ j,ag.aM xs (m:Int) j≠0:=by
  intro j z
  have h':kI xs ys (ag.aM xs (ag.aM xs (m:Int) j) ((M + 1) * j)):=by rw [z];exact kI.zero.aM _
  rw [rN] at h'
  have e2:ag.aM xs (m:Int) ((M + 1) * (j + 1))=(m:Int):=by
   have:=AX bk (j + 1) 0
   rw [Nat.zero_add] at this
   exact this
  have h3:=h'.aM ((M + 1) * (j + 1) - (j + (M + 1) * j))
  rw [rN] at h3
  have e3:j + (M + 1) * j + ((M + 1) * (j + 1) - (j + (M + 1) * j))=if j + (M + 1) * j<=(M + 1) * (j + 1) then (M + 1) * (j + 1) else j + (M + 1) * j:=by split <;> omega
  rw [e3] at h3
  by_cases hc:j + (M + 1) * j<=(M + 1) * (j + 1)
  ·rw [if_pos hc,e2] at h3
   exact nm h3
  ·-- round as often as needed
   have h4:=h'.aM ((M + 1) * (2 * j + 2) - (j + (M + 1) * j))
   rw [rN] at h4
   have hbig:j + (M + 1) * j<=(M + 1) * (2 * j + 2):=by
    have a1:(M + 1) * (2 * j + 2)=(M + 1) * j + ((M + 1) * j + (M + 1) * 2):=by rw [<- Nat.mul_add,<- Nat.mul_add];congr 1;omega
    have a2:j<=(M + 1) * j:=Nat.le_mul_of_pos_left j (by omega)
    omega
   have e5:j + (M + 1) * j + ((M + 1) * (2 * j + 2) - (j + (M + 1) * j))=(M + 1) * (2 * j + 2):=by omega
   rw [e5] at h4
   have:=AX bk (2 * j + 2) 0
   rw [Nat.zero_add] at this
   rw [this] at h4
   exact nm h4
 have ring:∀ j,j<=M->kI (mX xs m) ys (ag.aM xs (m:Int) (j + 1)):=by
  intro j
  induction j with
  | zero =>
   intro _
   have h1:kI (mX xs m) ys (ag.app (mX xs m) 0):=.r .zero
   rw [yO (by omega) (by omega),if_neg (by omega),if_pos rfl] at h1
   exact h1
  | succ j ih =>
   intro hj
   have h1:=(ih (by omega)).r
   have b:=hx.aM (i:=(m:Int)) (by omega) (by omega) (j + 1)
   rw [yO (by omega) b.1,if_neg (nb (j + 1) (by omega) (by omega)),if_neg (O7 (j + 1))] at h1
   exact h1
 have KJ:kI (mX xs m) ys (m:Int):=by have:=ring M (Nat.le_refl _);rwa [bk] at this
 refine ⟨KJ,fun x h=>?_⟩
 have hpos:0 < n:=by omega
 induction h with
 | zero=>exact .zero
 | r hx' ih =>
  rename_i x
  have b:=hx'.bound hx hy hpos
  by_cases h0:x=0
  ·have h1:=KJ.r
   rw [yO (by omega) (by omega),if_pos rfl] at h1
   rw [h0];exact h1
  ·have O8:x≠(m:Int):=fun z=>nm (by rw [<- z];exact hx')
   have h1:=ih.r
   rw [yO (by omega) b.1,if_neg O8,if_neg h0] at h1
   exact h1
 | u _ ih=>exact ih.u
def Cl (xs ys F:List Int):Prop:=∀ x∈F,app xs x∈F/\app ys x∈F
theorem Cl.all {xs ys F:List Int} (h:Cl xs ys F) (h0:(0:Int)∈F) {x:Int} (r:kI xs ys x):x∈F:=by
 induction r with
 | zero=>exact h0
 | r _ ih=>exact (h _ ih).1
 | u _ ih=>exact (h _ ih).2
structure Fd (xs ys:List Int) (F:List Int):Prop where
 z:(0:Int)∈F
 nd:F.Nodup
 mt:∀ x∈F,kI xs ys x
theorem Fd.len {n:Nat} {xs ys F:List Int} (h:Fd xs ys F) (hx:Tn n xs) (hy:Tn n ys) (h0:0 < n):F.length<=n:=by
 have:=DM h.nd (ys:=upto n) fun x hx'=>p7.mpr ((h.mt x hx').bound hx hy h0)
 rw [rL] at this
 exact this
theorem Fd.one (xs ys:List Int):Fd xs ys [0]:=⟨by simp,by simp,fun x hx=>(show x=0 by simpa using hx) ▸ .zero⟩
theorem round {xs ys F F1 F2:List Int} (d:Fd xs ys F) (d2:Fd xs ys F2) (p1:F <+: F1) (p2:F1 <+: F2) (c1:∀ x∈F,app xs x∈F1) (c2:∀ x∈F1,app ys x∈F2) {t:Nat} (h:Cl xs ys F\/t + 1<=F.length):Cl xs ys F2\/t + 1 + 1<=F2.length:=by
 have p:=p1.trans p2
 by_cases hc:Cl xs ys F
 ·refine .inl fun x hx=>?_
  have hF:=hc.all d.z (d2.mt x hx)
  exact ⟨p.subset (hc x hF).1,p.subset (hc x hF).2⟩
 ·have hl:=h.resolve_left hc
  by_cases he:F2.length<=F.length
  ·refine absurd ?_ hc
   have e2:F2=F:=(p.eq_of_length (by have:=p.length_le;omega)).symm
   have e1:F1=F:=by
    have a:=p1.length_le
    have b:=p2.length_le
    exact (p1.eq_of_length (by omega)).symm
   intro x hx
   refine ⟨?_,?_⟩
   ·have:=c1 x hx;rwa [e1] at this
   ·have:=c2 x (by rw [e1];exact hx);rwa [e2] at this
  ·exact .inr (by omega)
def qM (w n:Nat):List Int:=((List.range (w - 1)).map fun (k:Nat)=>(1:Int) + k) ++ [0] ++ ((List.range (n - w)).map fun (k:Nat)=>(w:Int) + k)
def sT (w n:Nat):List Int:=[(w:Int)] ++ ((List.range (w - 1)).map fun (k:Nat)=>(1:Int) + k) ++ ((List.range (n - (w + 1))).map fun (k:Nat)=>((w:Int) + 1) + k) ++ [0]
theorem O9:∀ n,n < 21->∀ w,w < n + 1->0 < w->(qM w n).isPerm (upto n)=true:=by decide +kernel
theorem Pa:∀ n,n < 21->∀ w,w < n->0 < w->(sT w n).isPerm (upto n)=true:=by decide +kernel
theorem Pb {w n:Nat} (h:n < 21) (h1:w<=n) (h0:0 < w):Tn n (qM w n):=List.isPerm_iff.mp (O9 n h w (by omega) h0)
theorem Pc {w n:Nat} (h:n < 21) (h1:w < n) (h0:0 < w):Tn n (sT w n):=List.isPerm_iff.mp (Pa n h w h1 h0)
theorem less {L L':List Int} {m:Int} (nd:L'.Nodup) (hs:∀ x∈L',x∈L) (hm:m∈L) (hm':m ∉ L'):L'.length < L.length:=by
 have hp:=List.perm_cons_erase hm
 have hlen:(L.erase m).length + 1=L.length:=by have:=hp.length_eq;simpa using this.symm
 have:=DM (ys:=L.erase m) nd fun x hx=>(List.mem_erase_of_ne (fun e=>hm' (by rw [<- e];exact hx))).mpr (hs x hx)
 omega
end ag
namespace ag
def qN (xs ys:List Int):List Int:=xs.map (app ys)
theorem KL (xs ys:List Int):(qN xs ys).length=xs.length:=by simp [qN]
theorem DP {n:Nat} {xs ys:List Int} (hx:xs.length=n) (hy:ys.length=n) (h:∀ s:Int,0<=s->s < (n:Int)->app xs s=app ys s):xs=ys:=by
 rw [<- KD hx,<- KD hy]
 apply List.map_congr_left
 intro s hs
 obtain ⟨h0,h1⟩:=p7.mp hs
 exact h s h0 h1
theorem DQ {xs ys:List Int} {s:Int} (h0:0<=s) (h1:s < (xs.length:Int)):app (qN xs ys) s=app ys (app xs s):=by
 have e:=ow (xs:=qN xs ys) h0 (by rw [KL];exact h1)
 unfold qN at e
 rw [List.getElem?_map,ow h0 h1] at e
 exact (Option.some.inj e).symm
theorem Tn.qO {n:Nat} {xs:List Int} (hl:xs.length=n) (hb:∀ s:Int,0<=s->s < (n:Int)->0<=ag.app xs s/\ag.app xs s < (n:Int)) (hi:∀ s t:Int,0<=s->s < (n:Int)->0<=t->t < (n:Int)->ag.app xs s=ag.app xs t->s=t):Tn n xs:=by
 have el:∀ (i:Nat) (h:i < xs.length),xs[i]=ag.app xs (i:Int):=fun i h=>by
  have a:=ow (xs:=xs) (i:=(i:Int)) (by omega) (by omega)
  rw [Int.toNat_natCast,List.getElem?_eq_getElem h] at a
  exact Option.some.inj a
 have:=GU (xs:=xs) ?_ ?_
 ·unfold Tn;rw [hl] at this;exact this
 ·unfold List.Nodup
  rw [List.pairwise_iff_getElem]
  intro i j h1 h2 hij z
  rw [el i h1,el j h2] at z
  have:=hi i j (by omega) (by omega) (by omega) (by omega) z
  omega
 ·intro x hx
  obtain ⟨i,h,rfl⟩:=List.getElem_of_mem hx
  rw [el i h,hl]
  exact hb i (by omega) (by omega)
theorem Tn.qN {n:Nat} {xs ys:List Int} (hx:Tn n xs) (hy:Tn n ys):Tn n (qN xs ys):=by
 have hl:=hx.length
 refine Tn.qO (by rw [KL];exact hl) (fun s h0 h1=>?_) fun s t s0 s1 t0 t1 e=>?_
 ·rw [DQ h0 (by omega)]
  obtain ⟨a,b⟩:=hx.app h0 h1
  exact hy.app a b
 ·rw [DQ s0 (by omega),DQ t0 (by omega)] at e
  obtain ⟨a,b⟩:=hx.app s0 s1
  obtain ⟨c,d⟩:=hx.app t0 t1
  exact hx.inj s0 s1 t0 t1 (hy.inj a b c d e)
end ag
namespace ag
section
variable {n:Nat} {xs ys:List Int} {s:Int}
end
theorem Tn.inv_inv {n:Nat} {p:List Int} (hp:Tn n p):inv (inv p)=p:=by
 refine DP (n:=n) hp.cQ.cQ.length hp.length fun s h0 h1=>?_
 obtain ⟨a0,a1⟩:=hp.cQ.nL h0 h1
 obtain ⟨b0,b1⟩:=hp.app h0 h1
 refine hp.cQ.inj a0 a1 b0 b1 ?_
 rw [hp.cQ.dc h0 h1,hp.dJ h0 h1]
end ag
namespace ag
def pw (xs:List Int) (k i:Int):Int:=if 0<=k then aM xs i k.toNat else aM (inv xs) i (-k).toNat
theorem GX (xs:List Int) (i:Int):∀ m,aM xs (app xs i) m=app xs (aM xs i m)
 | 0=>rfl
 | m + 1=>by show app xs (aM xs (app xs i) m)=_;rw [GX xs i m];rfl
section
variable {n:Nat} {xs:List Int} {i:Int}
theorem Tn.ma (h:Tn n xs) (i0:0<=i) (i1:i < (n:Int)):∀ (k m:Nat),ag.aM (inv xs) (ag.aM xs i m) k=if k<=m then ag.aM xs i (m - k) else ag.aM (inv xs) i (k - m)
 | 0,m=>by rw [if_pos (Nat.zero_le _),Nat.sub_zero];rfl
 | k + 1,m=>by
  show ag.app (inv xs) (ag.aM (inv xs) (ag.aM xs i m) k)=_
  rw [h.ma i0 i1 k m]
  by_cases hk:k<=m
  ·rw [if_pos hk]
   by_cases hk1:k + 1<=m
   ·rw [if_pos hk1]
    obtain ⟨d,hd⟩:∃ d,m - k=d + 1:=⟨m - k - 1,by omega⟩
    rw [hd,show m - (k + 1)=d by omega]
    obtain ⟨a,b⟩:=h.aM i0 i1 d
    exact h.dJ a b
   ·rw [if_neg hk1,show m - k=0 by omega,show k + 1 - m=1 by omega]
    rfl
  ·rw [if_neg hk,if_neg (by omega),show k + 1 - m=(k - m) + 1 by omega]
   rfl
theorem Tn.oy (h:Tn n xs) (i0:0<=i) (i1:i < (n:Int)) (k m:Nat):ag.aM xs (ag.aM (inv xs) i m) k=if k<=m then ag.aM (inv xs) i (m - k) else ag.aM xs i (k - m):=by
 have:=h.cQ.ma i0 i1 k m
 rw [h.inv_inv] at this
 exact this
theorem Tn.pw (h:Tn n xs) (i0:0<=i) (i1:i < (n:Int)) (k:Int):0<=ag.pw xs k i/\ag.pw xs k i < (n:Int):=by
 unfold ag.pw
 split
 ·exact h.aM i0 i1 _
 ·exact h.cQ.aM i0 i1 _
theorem Tn.pw_add (h:Tn n xs) (i0:0<=i) (i1:i < (n:Int)) (a b:Int):ag.pw xs a (ag.pw xs b i)=ag.pw xs (a + b) i:=by
 by_cases ha:0<=a <;> by_cases hb:0<=b
 ·unfold ag.pw
  rw [if_pos ha,if_pos hb,if_pos (by omega),rN]
  congr 1
  omega
 ·have e1:ag.pw xs b i=ag.aM (inv xs) i (-b).toNat:=by unfold ag.pw;rw [if_neg hb]
  have e2:∀ j,ag.pw xs a j=ag.aM xs j a.toNat:=fun j=>by unfold ag.pw;rw [if_pos ha]
  rw [e1,e2,h.oy i0 i1]
  unfold ag.pw
  split
  ·split
   ·rw [show (-b).toNat - a.toNat=0 by omega,show (a + b).toNat=0 by omega];rfl
   ·congr 1;omega
  ·rw [if_pos (by omega)];congr 1;omega
 ·have e1:ag.pw xs b i=ag.aM xs i b.toNat:=by unfold ag.pw;rw [if_pos hb]
  have e2:∀ j,ag.pw xs a j=ag.aM (inv xs) j (-a).toNat:=fun j=>by unfold ag.pw;rw [if_neg ha]
  rw [e1,e2,h.ma i0 i1]
  unfold ag.pw
  split
  ·rw [if_pos (by omega)];congr 1;omega
  ·rw [if_neg (by omega)];congr 1;omega
 ·unfold ag.pw
  rw [if_neg ha,if_neg hb,if_neg (by omega),rN]
  congr 1
  omega
theorem Tn.pw_per (h:Tn n xs) (i0:0<=i) (i1:i < (n:Int)) {L:Nat} (hL:ag.aM xs i L=i) (q:Int):ag.pw xs ((L:Int) * q) i=i:=by
 have pos:∀ m:Nat,ag.pw xs ((L:Int) * (m:Int)) i=i:=fun m=>by
  unfold ag.pw
  rw [if_pos (Int.mul_nonneg (by omega) (by omega)),show ((L:Int) * (m:Int)).toNat=0 + L * m by rw [<- Int.natCast_mul,Int.toNat_natCast];omega,AX hL]
  rfl
 by_cases hq:0<=q
 ·obtain ⟨m,rfl⟩:∃ m:Nat,q=(m:Int):=⟨q.toNat,by omega⟩
  exact pos m
 ·obtain ⟨m,rfl⟩:∃ m:Nat,q=-(m:Int):=⟨(-q).toNat,by omega⟩
  have:=h.pw_add i0 i1 ((L:Int) * -(m:Int)) ((L:Int) * (m:Int))
  rw [pos m] at this
  rw [this,Int.mul_neg,Int.add_left_neg]
  rfl
theorem Tn.wI (h:Tn n xs) (i0:0<=i) (i1:i < (n:Int)) {k v:Int} (o:KI xs k i v):v=ag.pw xs k i:=by
 obtain ⟨m,_,bk,rfl⟩:=o
 have m0:=Int.emod_nonneg k (show ((m + 1:Nat):Int)≠0 by omega)
 have e:ag.aM xs i (k % ((m + 1:Nat):Int)).toNat=ag.pw xs (k % ((m + 1:Nat):Int)) i:=by unfold ag.pw;rw [if_pos m0]
 rw [e]
 have e2:=h.pw_add i0 i1 (k % ((m + 1:Nat):Int)) (((m + 1:Nat):Int) * (k / ((m + 1:Nat):Int)))
 rw [h.pw_per i0 i1 bk,Int.emod_add_mul_ediv] at e2
 exact e2
end
def pJ (xs:List Int) (k:Int):List Int:=(upto xs.length).map (pw xs k)
theorem DR (xs:List Int) (k:Int):(pJ xs k).length=xs.length:=by simp [pJ,rL]
theorem AY {xs:List Int} {k s:Int} (s0:0<=s) (s1:s < (xs.length:Int)):app (pJ xs k) s=pw xs k s:=by
 have e:=ow (xs:=pJ xs k) s0 (by rw [DR];exact s1)
 unfold pJ at e
 rw [List.getElem?_map,GV (by omega)] at e
 have:=Option.some.inj e
 rw [Int.toNat_of_nonneg s0] at this
 exact this.symm
theorem Tn.pJ {n:Nat} {xs:List Int} (h:Tn n xs) (k:Int):Tn n (pJ xs k):=by
 have hl:=h.length
 refine Tn.qO (by rw [DR];exact hl) (fun s s0 s1=>by rw [AY s0 (by omega)];exact h.pw s0 s1 k) fun s t s0 s1 t0 t1 e=>?_
 rw [AY s0 (by omega),AY t0 (by omega)] at e
 have e2:=congrArg (ag.pw xs (-k)) e
 rw [h.pw_add s0 s1,h.pw_add t0 t1,Int.add_left_neg] at e2
 exact e2
def shr (xs ys:List Int) (k:Int):List Int:=qN (pJ xs (-k)) ys
theorem Tn.shr {n:Nat} {xs ys:List Int} (hx:Tn n xs) (hy:Tn n ys) (k:Int):Tn n (shr xs ys k):=(hx.pJ (-k)).qN hy
theorem Tn.md {n:Nat} {xs ys:List Int} (hx:Tn n xs) {k s:Int} (s0:0<=s) (s1:s < (n:Int)):ag.app (ag.shr xs ys k) s=ag.app ys (ag.pw xs (-k) s):=by
 have hl:=hx.length
 unfold ag.shr
 rw [DQ s0 (by rw [DR,hl];exact s1),AY s0 (by rw [hl];exact s1)]
theorem Tn.sU {n:Nat} {xs ys:List Int} (hx:Tn n xs) (hy:Tn n ys) (a b:Int):ag.shr xs (ag.shr xs ys a) b=ag.shr xs ys (a + b):=by
 refine DP (n:=n) (hx.shr (hx.shr hy a) b).length (hx.shr hy (a + b)).length fun s s0 s1=>?_
 obtain ⟨p0,p1⟩:=hx.pw s0 s1 (-b)
 rw [hx.md s0 s1,hx.md p0 p1,hx.md s0 s1,hx.pw_add s0 s1,show -a + -b=-(a + b) by omega]
theorem Tn.qP {n:Nat} {xs ys:List Int} (hx:Tn n xs) (hy:Tn n ys):ag.shr xs ys 0=ys:=by
 refine DP (n:=n) (hx.shr hy 0).length hy.length fun s s0 s1=>?_
 rw [hx.md s0 s1]
 rfl
end ag
namespace ag
def tb (l:Int->Nat) (p:Int->Int) (a b:Int):Bool:=if l a=l b\/l (p a)=l (p b) then false else (decide (l a < l b)).xor (decide (l (p a) < l (p b)))
section
variable {n:Nat} {L:List Int} {l:Int->Nat}
end
end ag
namespace ag
end ag
namespace ag
abbrev Sp:=Bool×Int
def eO (s:Sp):Prop:=(s.1=false->1<=s.2/\s.2<=3)/\s.2≠0
def iu (a b:Sp):Int:=if a.1 then a.2 + b.2 else (a.2 + b.2) % 4
def cK (a b:Sp):List Sp:=if iu a b=0 then [] else [(a.1,iu a b)]
def cR:List Sp->Sp->List Sp
 | [],s=>[s]
 | t :: r,s=>if t.1=s.1 then cK t s ++ r else s :: t :: r
theorem sW (t:Sp) (r:List Sp) (s:Sp):cR (t :: r) s=if t.1=s.1 then cK t s ++ r else s :: t :: r:=rfl
def nM (w:List Sp):List Sp:=w.foldl cR []
def jJ (s:Sp):Sp:=(s.1,if s.1 then -s.2 else 4 - s.2)
def gN (w:List Sp):List Sp:=(w.map jJ).reverse
def Pl:List Sp->Prop
 | []=>True
 | a :: r=>eO a/\(∀ b,r.head?=some b->a.1≠b.1)/\Pl r
theorem Pl.pr:∀ {l:List Sp},Pl l->∀ s∈l,eO s
 | a :: r,h,s,hs=>by
  rcases List.mem_cons.mp hs with rfl | hs
  ·exact h.1
  ·exact Pl.pr h.2.2 s hs
theorem KN {a b:Sp} (ha:eO a) (e:a.1=b.1):(iu a b=0/\cK a b=[])\/(eO (a.1,iu a b)/\cK a b=[(a.1,iu a b)]):=by
 unfold cK
 by_cases h:iu a b=0
 ·exact .inl ⟨h,by rw [if_pos h]⟩
 ·refine .inr ⟨⟨fun hf=>?_,h⟩,by rw [if_neg h]⟩
  simp only at hf
  unfold iu at h ⊢
  simp only [hf,Bool.false_eq_true,if_false] at h ⊢
  omega
theorem Pl.push {l:List Sp} {s:Sp} (h:Pl l) (hs:eO s):Pl (cR l s):=by
 cases l with
 | nil=>exact ⟨hs,fun b h=>(nomatch h),trivial⟩
 | cons t r =>
  rw [sW]
  split
  ·next e =>
   rcases KN h.1 e with ⟨_,ej⟩ | ⟨hp,ej⟩
   ·rw [ej];exact h.2.2
   ·rw [ej];exact ⟨hp,h.2.1,h.2.2⟩
  ·next e =>
   refine ⟨hs,fun b hb=>?_,h⟩
   cases hb
   exact fun e'=>e e'.symm
theorem Pl.fold {w:List Sp}:∀ {l:List Sp},Pl l->(∀ s∈w,eO s)->Pl (w.foldl cR l):=by
 induction w with
 | nil=>exact fun h _=>h
 | cons s w ih=>exact fun h hw=>ih (h.push (hw s (List.mem_cons_self))) fun s' h'=>hw s' (List.mem_cons_of_mem _ h')
theorem wJ {w:List Sp} (hw:∀ s∈w,eO s):Pl (nM w):=Pl.fold (l:=[]) trivial hw
theorem Pd {l:List Sp} {s:Sp} (h:∀ b,l.head?=some b->s.1≠b.1):cR l s=s :: l:=by
 cases l with
 | nil=>rfl
 | cons t r=>rw [sW,if_neg fun e=>h t rfl e.symm]
theorem Pe (u v:List Sp):nM (u ++ v)=v.foldl cR (nM u):=by unfold nM;rw [List.foldl_append]
theorem AZ {s:Sp} (h:eO s):eO (jJ s):=by
 obtain ⟨b,k⟩:=s
 cases b with
 | true=>exact ⟨nofun,fun e=>h.2 (by have:-k=0:=e;show k=0;omega)⟩
 | false =>
  obtain ⟨h1,h2⟩:=h.1 rfl
  simp only at h1 h2
  exact ⟨fun _=>by show 1<=4 - k/\4 - k<=3;omega,by show 4 - k≠0;omega⟩
theorem Pf {p:List Sp} {s:Sp} (hp:Pl p) (hs:eO s):cR (cR p s) (jJ s)=p:=by
 have e0:cK s (jJ s)=[]:=by
  unfold cK iu jJ
  cases hb:s.1 <;> simp <;> omega
 cases p with
 | nil =>
  show (if s.1=(jJ s).1 then cK s (jJ s) ++ [] else _)=_
  rw [if_pos (show s.1=(jJ s).1 from rfl),e0];rfl
 | cons t r =>
  by_cases e:t.1=s.1
  ·have e1:cR (t :: r) s=cK t s ++ r:=by rw [sW,if_pos e]
   rw [e1]
   obtain ⟨tb,tk⟩:=t
   obtain ⟨sb,sk⟩:=s
   simp only at e
   subst e
   have ht:=hp.1
   rcases KN (b:=(tb,sk)) hp.1 rfl with ⟨h0,ej⟩ | ⟨GY,ej⟩
   ·rw [ej,List.nil_append]
    have eb:jJ (tb,sk)=(tb,tk):=by
     unfold jJ
     unfold iu at h0
     cases tb with
     | true=>simp only [if_true] at h0 ⊢;congr 1;omega
     | false =>
      have h1:=ht.1 rfl
      have h2:=hs.1 rfl
      simp only [Bool.false_eq_true,if_false] at h0 h1 h2 ⊢
      congr 1;omega
    rw [eb]
    exact Pd hp.2.1
   ·rw [ej]
    show (if tb=(jJ (tb,sk)).1 then cK (tb,iu (tb,tk) (tb,sk)) (jJ (tb,sk)) ++ r else _)=_
    rw [if_pos (show tb=(jJ (tb,sk)).1 from rfl)]
    have eb:iu (tb,iu (tb,tk) (tb,sk)) (jJ (tb,sk))=tk:=by
     unfold iu jJ
     cases tb with
     | true=>simp only [if_true];omega
     | false =>
      have h1:=ht.1 rfl
      have h2:=hs.1 rfl
      simp only [Bool.false_eq_true,if_false] at h1 h2 ⊢
      omega
    unfold cK
    rw [eb,if_neg ht.2]
    rfl
  ·have e1:cR (t :: r) s=s :: t :: r:=by rw [sW,if_neg e]
   rw [e1]
   show (if s.1=(jJ s).1 then cK s (jJ s) ++ (t :: r) else _)=_
   rw [if_pos (show s.1=(jJ s).1 from rfl),e0];rfl
theorem Pg {w:List Sp}:∀ {p:List Sp},Pl p->(∀ s∈w,eO s)->(w ++ gN w).foldl cR p=p:=by
 induction w with
 | nil=>exact fun _ _=>rfl
 | cons s w ih =>
  intro p hp hw
  have e:(s :: w) ++ gN (s :: w)=s :: ((w ++ gN w) ++ [jJ s]):=by unfold gN;simp
  rw [e]
  show ((w ++ gN w) ++ [jJ s]).foldl cR (cR p s)=p
  have hs:=hw s (List.mem_cons_self)
  rw [List.foldl_append,ih (hp.push hs) fun s' h'=>hw s' (List.mem_cons_of_mem _ h')]
  exact Pf hp hs
theorem Ph {w:List Sp} (hw:∀ s∈w,eO s):nM (w ++ gN w)=[]:=Pg (p:=[]) trivial hw
theorem Pj {l:List Sp} {s:Sp} {M B:Nat} (h:∀ x∈l,x.2.natAbs<=M) (hs:s.2.natAbs<=B) (hp:eO s) (hl:Pl l):∀ x∈cR l s,x.2.natAbs<=M + B:=by
 intro x hx
 cases l with
 | nil=>rcases List.mem_singleton.mp hx with rfl;omega
 | cons t r =>
  rw [sW] at hx
  have ht:=h t (List.mem_cons_self)
  split at hx
  ·next e0 =>
   rcases List.mem_append.mp hx with hx | hx
   ·unfold cK at hx
    split at hx
    ·exact (nomatch hx)
    ·rcases List.mem_singleton.mp hx with rfl
     show (iu t s).natAbs<=_
     unfold iu
     split
     ·omega
     ·next hb =>
      have:=hl.1.1 (by simpa using hb)
      have h2:=hp.1 (by rw [<- e0];simpa using hb)
      omega
   ·have:=h x (List.mem_cons_of_mem _ hx);omega
  ·rcases List.mem_cons.mp hx with rfl | hx
   ·omega
   ·have:=h x hx;omega
theorem Pk {B:Nat} {w:List Sp}:∀ {l:List Sp} {M:Nat},(∀ x∈l,x.2.natAbs<=M)->Pl l->(∀ s∈w,eO s/\s.2.natAbs<=B)->∀ x∈w.foldl cR l,x.2.natAbs<=M + w.length * B:=by
 induction w with
 | nil=>intro l M h _ _ x hx;have:=h x hx;omega
 | cons s w ih =>
  intro l M h hl hw x hx
  have hs:=hw s (List.mem_cons_self)
  have:=ih (Pj h hs.2 hs.1 hl) (hl.push hs.1) (fun s' h'=>hw s' (List.mem_cons_of_mem _ h')) x hx
  rw [List.length_cons,Nat.succ_mul]
  omega
theorem wK {B:Nat} {w:List Sp} (hw:∀ s∈w,eO s/\s.2.natAbs<=B):∀ x∈nM w,x.2.natAbs<=w.length * B:=fun x hx=>by
 have:=Pk (l:=[]) (M:=0) nofun trivial hw x hx
 omega
theorem Pm (l:List Sp) (s:Sp):(cR l s).length<=l.length + 1:=by
 cases l with
 | nil=>exact Nat.le_refl _
 | cons t r =>
  rw [sW]
  split
  ·unfold cK;split <;> simp <;> omega
  ·simp
theorem Pn {w:List Sp}:∀ {l:List Sp},(w.foldl cR l).length<=l.length + w.length:=by
 induction w with
 | nil=>exact Nat.le_refl _
 | cons s w ih =>
  intro l
  have:=ih (l:=cR l s)
  have h2:=Pm l s
  rw [List.length_cons]
  exact Nat.le_trans this (by omega)
theorem KO (w:List Sp):(nM w).length<=w.length:=by have:=Pn (w:=w) (l:=[]);simpa [nM] using this
structure T4 where (a b c d:Int)
def T4.one:T4:=⟨1,0,0,1⟩
def T4.qt:T4:=⟨0,-1,1,0⟩
def T4.mul (x y:T4):T4:=⟨x.a * y.a + x.b * y.c,x.a * y.b + x.b * y.d,x.c * y.a + x.d * y.c,x.c * y.b + x.d * y.d⟩
def T4.rO (x:T4):T4:=⟨x.d,-x.b,-x.c,x.a⟩
theorem T4.ext' {x y:T4} (h1:x.a=y.a) (h2:x.b=y.b) (h3:x.c=y.c) (h4:x.d=y.d):x=y:=by cases x;cases y;simp only at h1 h2 h3 h4;subst h1 h2 h3 h4;rfl
theorem T4.assoc (x y z:T4):(x.mul y).mul z=x.mul (y.mul z):=by
 apply T4.ext' <;> simp only [T4.mul,Int.add_mul,Int.mul_add,Int.mul_assoc] <;> omega
theorem T4.one_mul (x:T4):T4.one.mul x=x:=by apply T4.ext' <;> simp [T4.mul,T4.one]
theorem T4.mul_one (x:T4):x.mul T4.one=x:=by apply T4.ext' <;> simp [T4.mul,T4.one]
theorem T4.sX (x y:T4):(x.mul y).rO=y.rO.mul x.rO:=by
 apply T4.ext' <;> simp only [T4.mul,T4.rO,Int.neg_mul,Int.mul_neg,Int.neg_neg,Int.mul_comm] <;> omega
def qp:Nat->T4
 | 0=>T4.one
 | n + 1=>T4.qt.mul (qp n)
def kJ (s:Sp):T4:=if s.1 then ⟨1,s.2,0,1⟩ else qp s.2.toNat
def lU (T:T4) (w:List Sp):T4:=w.foldl (fun T s=>(kJ s).mul T) T
def aO (w:List Sp):T4:=lU T4.one w
theorem Po (w:List Sp):∀ T:T4,lU T w=(aO w).mul T:=by
 induction w with
 | nil=>exact fun T=>(T4.one_mul T).symm
 | cons s w ih =>
  intro T
  show lU ((kJ s).mul T) w=(lU ((kJ s).mul T4.one) w).mul T
  rw [ih,ih,T4.mul_one,T4.assoc]
theorem yP (u v:List Sp):aO (u ++ v)=(aO v).mul (aO u):=by
 show lU T4.one (u ++ v)=_
 unfold lU
 rw [List.foldl_append]
 exact Po v _
theorem wL (u:List Sp) (s:Sp):aO (u ++ [s])=(kJ s).mul (aO u):=by
 show lU T4.one (u ++ [s])=_
 unfold lU
 rw [List.foldl_append];rfl
theorem t3 {k:Int} (h:1<=k/\k<=3):k=1\/k=2\/k=3:=by omega
theorem Pp {t s:Sp} (ht:eO t) (hs:eO s) (e:t.1=s.1):aO (cK t s)=(kJ s).mul (kJ t):=by
 obtain ⟨tb,tk⟩:=t
 obtain ⟨sb,sk⟩:=s
 simp only at e
 subst e
 cases tb with
 | true =>
  have e2:(kJ (true,sk)).mul (kJ (true,tk))=⟨1,tk + sk,0,1⟩:=by apply T4.ext' <;> simp [T4.mul,kJ] <;> omega
  rw [e2]
  unfold cK iu
  simp only [if_true]
  split
  ·next h=>rw [h];rfl
  ·rw [show aO [(true,tk + sk)]=(kJ (true,tk + sk)).mul T4.one from rfl,T4.mul_one];rfl
 | false =>
  have h1:=ht.1 rfl
  have h2:=hs.1 rfl
  simp only at h1 h2
  rcases t3 h1 with rfl | rfl | rfl <;> rcases t3 h2 with rfl | rfl | rfl <;> rfl
theorem Pq {l:List Sp} {s:Sp} (hl:Pl l) (hs:eO s):aO (cR l s).reverse=(kJ s).mul (aO l.reverse):=by
 cases l with
 | nil=>exact wL [] s
 | cons t r =>
  rw [sW]
  split
  ·next e =>
   rw [List.reverse_append,yP,List.reverse_cons,wL,<- T4.assoc]
   congr 1
   rw [<- Pp hl.1 hs e]
   unfold cK
   split <;> rfl
  ·rw [List.reverse_cons,wL]
theorem Pr {w:List Sp}:∀ {l:List Sp},Pl l->(∀ s∈w,eO s)->aO (w.foldl cR l).reverse=lU (aO l.reverse) w:=by
 induction w with
 | nil=>exact fun _ _=>rfl
 | cons s w ih =>
  intro l hl hw
  have hs:=hw s (List.mem_cons_self)
  show aO (w.foldl cR (cR l s)).reverse=lU ((kJ s).mul (aO l.reverse)) w
  rw [ih (hl.push hs) fun s' h'=>hw s' (List.mem_cons_of_mem _ h'),Pq hl hs]
theorem KP {w:List Sp} (hw:∀ s∈w,eO s):aO (nM w).reverse=aO w:=Pr (l:=[]) trivial hw
theorem wM {s:Sp} (h:eO s):kJ (jJ s)=(kJ s).rO:=by
 obtain ⟨b,k⟩:=s
 cases b with
 | true=>apply T4.ext' <;> simp [T4.rO,kJ,jJ]
 | false =>
  have h1:=h.1 rfl
  simp only at h1
  rcases t3 h1 with rfl | rfl | rfl <;> rfl
theorem KQ {w:List Sp} (hw:∀ s∈w,eO s):aO (gN w)=(aO w).rO:=by
 induction w with
 | nil=>rfl
 | cons s w ih =>
  have e:gN (s :: w)=gN w ++ [jJ s]:=by unfold gN;simp
  have e2:aO (s :: w)=(aO w).mul (kJ s):=by
   rw [show s :: w=[s] ++ w from rfl,yP]
   congr 1
   exact (wL [] s).trans (T4.mul_one _)
  rw [e,wL,ih fun s' h'=>hw s' (List.mem_cons_of_mem _ h'),wM (hw s (List.mem_cons_self)),e2,T4.sX]
def T4.le (x:T4) (M:Nat):Prop:=x.a.natAbs<=M/\x.b.natAbs<=M/\x.c.natAbs<=M/\x.d.natAbs<=M
theorem KR {a c k:Int} {M B:Nat} (ha:a.natAbs<=M) (hc:c.natAbs<=M) (hk:k.natAbs<=B):(a + k * c).natAbs<=(B + 1) * M:=by
 have h1:(k * c).natAbs<=B * M:=by rw [Int.natAbs_mul];exact Nat.mul_le_mul hk hc
 rw [Nat.succ_mul]
 omega
theorem uP {T:T4} {s:Sp} {M B:Nat} (h:T.le M) (hp:eO s) (hs:s.2.natAbs<=B):((kJ s).mul T).le ((B + 1) * M):=by
 obtain ⟨b,k⟩:=s
 obtain ⟨ha,hb,hc,hd⟩:=h
 have hM:M<=(B + 1) * M:=by rw [Nat.succ_mul];omega
 cases b with
 | true =>
  refine ⟨?_,?_,?_,?_⟩ <;> simp only [T4.mul,kJ,if_true,Int.one_mul,Int.zero_mul,Int.zero_add]
  ·exact KR ha hc hs
  ·exact KR hb hd hs
  ·omega
  ·omega
 | false =>
  have h1:=hp.1 rfl
  simp only at h1
  rcases t3 h1 with rfl | rfl | rfl <;> refine ⟨?_,?_,?_,?_⟩ <;> simp [T4.mul,kJ,qp,T4.qt,T4.one] <;> omega
theorem wN {B:Nat} {w:List Sp}:∀ {T:T4} {M:Nat},T.le M->(∀ s∈w,eO s/\s.2.natAbs<=B)->(lU T w).le ((B + 1) ^ w.length * M):=by
 induction w with
 | nil=>intro T M h _;simpa [lU] using h
 | cons s w ih =>
  intro T M h hw
  have hs:=hw s (List.mem_cons_self)
  have:=ih (uP h hs.1 hs.2) fun s' h'=>hw s' (List.mem_cons_of_mem _ h')
  rw [List.length_cons,Nat.pow_succ,Nat.mul_assoc]
  exact this
theorem Pt {B n:Nat} {w:List Sp} (hw:∀ s∈w,eO s/\s.2.natAbs<=B) (hn:w.length<=n):(aO w).le ((B + 1) ^ n):=by
 have h:=wN (T:=T4.one) (M:=1) ⟨by decide,by decide,by decide,by decide⟩ hw
 have h2:(B + 1) ^ w.length * 1<=(B + 1) ^ n:=by rw [Nat.mul_one];exact Nat.pow_le_pow_right (by omega) hn
 exact ⟨Nat.le_trans h.1 h2,Nat.le_trans h.2.1 h2,Nat.le_trans h.2.2.1 h2,Nat.le_trans h.2.2.2 h2⟩
end ag
namespace ag
abbrev iw:=List Int×List Int
end ag
namespace ag
section
variable {n:Nat} {a b c g x y:List Int}
end
def Vf (n:Nat) (p:iw):Prop:=Tn n p.1/\Tn n p.2
def Sh (k:Int) (p:iw):iw:=(p.1,shr p.1 p.2 k)
def Qt (p:iw):iw:=(inv p.2,p.1)
section
variable {n:Nat} {p q r:iw}
theorem Vf.sh (h:Vf n p) (k:Int):Vf n (Sh k p):=⟨h.1,h.1.shr h.2 k⟩
theorem Vf.qt (h:Vf n p):Vf n (Qt p):=⟨h.2.cQ,h.1⟩
theorem DS (h:Vf n p) (j k:Int):Sh k (Sh j p)=Sh (j + k) p:=by
 show (p.1,shr p.1 (shr p.1 p.2 j) k)=(p.1,shr p.1 p.2 (j + k))
 rw [h.1.sU h.2]
theorem sY (h:Vf n p):Sh 0 p=p:=by
 show (p.1,shr p.1 p.2 0)=p
 rw [h.1.qP h.2]
def Q2 (p:iw):iw:=(inv p.1,inv p.2)
theorem A0 (h:Vf n p):Q2 (Q2 p)=p:=by
 show (inv (inv p.1),inv (inv p.2))=p
 rw [h.1.inv_inv,h.2.inv_inv]
end
def tS (k:Int):T4:=⟨1,k,0,1⟩
section
variable {n:Nat} {p q r:iw}
def big:List Int->Prop
 | []=>True
 | [_]=>True
 | j :: b :: ks=>(2<=j\/j<=-2)/\big (b :: ks)
end
def rP:Nat->iw->iw
 | 0,p=>p
 | j + 1,p=>Qt (rP j p)
def stM (p:iw) (s:Sp):iw:=if s.1=true then Sh s.2 p else rP s.2.toNat p
def eY (p:iw) (w:List Sp):iw:=w.foldl stM p
section
variable {n:Nat} {p q:iw}
theorem Vf.rP (h:Vf n p):∀ j,Vf n (ag.rP j p)
 | 0=>h
 | j + 1=>(Vf.rP h j).qt
theorem Vf.st (h:Vf n p) (s:Sp):Vf n (stM p s):=by
 unfold stM
 split
 ·exact h.sh _
 ·exact h.rP _
theorem Vf.ld:∀ {w:List Sp} {p:iw},Vf n p->Vf n (eY p w)
 | [],_,h=>h
 | s :: w,p,h=>Vf.ld (w:=w) (h.st s)
theorem wO (p:iw) (u v:List Sp):eY p (u ++ v)=eY (eY p u) v:=by unfold eY;rw [List.foldl_append]
end
theorem Pu (s:Sp) (w:List Sp):aO (s :: w)=(aO w).mul (kJ s):=by
 have:=yP [s] w
 rw [show aO [s]=(kJ s).mul T4.one from rfl,T4.mul_one] at this
 exact this
theorem GZ {w:List Sp} (hw:∀ s∈w,eO s):∀ s∈gN w,eO s:=fun s hs=>by
 unfold gN at hs
 obtain ⟨t,ht,rfl⟩:=List.mem_map.mp (List.mem_reverse.mp hs)
 exact AZ (hw t ht)
theorem wQ {w:List Sp} (hw:∀ s∈w,eO s):aO (w ++ gN w)=T4.one:=by
 have hp:∀ s∈w ++ gN w,eO s:=fun s hs=>by
  rcases List.mem_append.mp hs with hs | hs
  ·exact hw s hs
  ·exact GZ hw s hs
 rw [<- KP hp,Ph hw];rfl
theorem KS {w:List Sp} (hw:∀ s∈w,eO s):(aO w).a * (aO w).d - (aO w).b * (aO w).c=1:=by
 have:=wQ hw
 rw [yP,KQ hw] at this
 have h:=congrArg T4.a this
 have h:(aO w).d * (aO w).a + -(aO w).b * (aO w).c=1:=h
 rw [Int.mul_comm (aO w).d,Int.neg_mul] at h
 omega
theorem Pw {M:T4} (h:M.a * M.d - M.b * M.c=1):M.mul M.rO=T4.one/\M.rO.mul M=T4.one:=by
 constructor <;> (apply T4.ext' <;> simp [T4.mul,T4.rO,T4.one] <;> grind)
end ag
namespace ag
section
variable {n:Nat} {p q:iw} {g h:List Int} {s t:Int}
end
end ag
namespace ag
section
variable {n:Nat} {xs ys r r' r2:List Int} {i j x y:Int}
def Sm (xs ys r:List Int):Prop:=∀ s∈r,app ys (app xs s)=app xs (app ys s)
instance:Decidable (Sm xs ys r):=inferInstanceAs (Decidable (∀ s∈r,app ys (app xs s)=app xs (app ys s)))
end
end ag
namespace ag
section
variable {n:Nat} {xs ys:List Int} {rs:List (List Int)} {lows:List (List Int)} {B:List Int->List (List Int)}
end
section
variable {n:Nat} {c g:List Int} {rs rs':List (List Int)}
end
section
variable {n:Nat} {p q:iw} {g:List Int}
end
end ag
namespace ag
def nr (x y:Int):Int:=(2 * x + y).fdiv (2 * y)
theorem Px (a b:Int) (hb:b≠0):(0 < b->0<=a - b * a.fdiv b/\a - b * a.fdiv b < b)/\(b < 0->b < a - b * a.fdiv b/\a - b * a.fdiv b<=0):=by
 have h1:=Int.mul_ediv_add_emod a b
 have h2:=Int.emod_nonneg a hb
 have h3:=Int.emod_lt a hb
 rw [Int.fdiv_eq_ediv]
 constructor
 ·intro h
  rw [if_pos (.inl (by omega)),Int.sub_zero]
  have:b.natAbs=b.toNat:=by omega
  constructor <;> omega
 ·intro h
  by_cases hd:b ∣ a
  ·rw [if_pos (.inr hd),Int.sub_zero]
   have:a % b=0:=Int.emod_eq_zero_of_dvd hd
   constructor <;> omega
  ·rw [if_neg (by rintro (z | z);omega;exact hd z),Int.mul_sub]
   have hne:a % b≠0:=fun z=>hd (Int.dvd_of_emod_eq_zero z)
   constructor <;> omega
theorem uQ {x y:Int} (hy:y≠0):2 * (x - nr x y * y).natAbs<=y.natAbs:=by
 obtain ⟨h1,h2⟩:=Px (2 * x + y) (2 * y) (by omega)
 have e:2 * x + y - 2 * y * (2 * x + y).fdiv (2 * y)=2 * (x - nr x y * y) + y:=by
  unfold nr
  rw [Int.mul_sub,Int.mul_comm ((2 * x + y).fdiv (2 * y)) y,Int.mul_assoc]
  omega
 rw [e] at h1 h2
 rcases (show 0 < y\/y < 0 by omega) with h | h
 ·have:=h1 (by omega);omega
 ·have:=h2 (by omega);omega
theorem KU {x y:Int} (hy:y≠0):(nr x y).natAbs<=x.natAbs + 1:=by
 have h:=uQ (x:=x) hy
 have h1:(nr x y * y).natAbs<=x.natAbs + (x - nr x y * y).natAbs:=by omega
 rw [Int.natAbs_mul] at h1
 have hy1:1<=y.natAbs:=by omega
 by_cases hq:(nr x y).natAbs<=x.natAbs + 1
 ·exact hq
 ·exfalso
  have h2:(x.natAbs + 2) * y.natAbs<=(nr x y).natAbs * y.natAbs:=Nat.mul_le_mul_right _ (by omega)
  have h3:(x.natAbs + 2) * y.natAbs=x.natAbs * y.natAbs + 2 * y.natAbs:=Nat.add_mul _ _ _
  have h4:x.natAbs<=x.natAbs * y.natAbs:=Nat.le_mul_of_pos_right _ hy1
  omega
def p8 (k:Int):List Sp:=if k=0 then [] else [(true,k)]
theorem A1 {k:Int}:∀ s∈p8 k,eO s/\s.2=k:=fun s hs=>by
 unfold p8 at hs
 split at hs
 ·cases hs
 ·next h =>
  rw [List.mem_singleton.mp hs]
  exact ⟨⟨(fun z=>by cases z),h⟩,rfl⟩
theorem G0 (k:Int):aO (p8 k)=⟨1,k,0,1⟩:=by
 unfold p8
 split
 ·next h=>rw [h];rfl
 ·show (kJ (true,k)).mul T4.one=_
  rw [T4.mul_one];rfl
theorem A2 (k:Int):(p8 k).length<=1:=by unfold p8;split <;> simp
def p9 (x y:Int):List Sp:=p8 (-(nr x y)) ++ [(false,1)]
theorem G1 (x y:Int):aO (p9 x y)=⟨0,-1,1,-(nr x y)⟩:=by
 unfold p9
 rw [wL,G0]
 apply T4.ext' <;> simp [T4.mul,kJ,qp,T4.qt,T4.one]
theorem KW {x y:Int} (hy:y≠0):∀ s∈p9 x y,eO s/\s.2.natAbs<=x.natAbs + 1:=fun s hs=>by
 have h:=KU (x:=x) hy
 rcases List.mem_append.mp hs with hs | hs
 ·obtain ⟨h1,h2⟩:=A1 s hs
  exact ⟨h1,by rw [h2];omega⟩
 ·rw [List.mem_singleton.mp hs]
  exact ⟨⟨fun _=>⟨by decide,by decide⟩,by decide⟩,by show 1<=_;omega⟩
theorem G2 (x y:Int):(p9 x y).length<=2:=by unfold p9;rw [List.length_append];have:=A2 (-(nr x y));simp;omega
structure Dv (M:Nat) (x y:Int) (g:List Sp) (u v:Int) (r:Nat):Prop where
 pr:∀ s∈g,eO s/\s.2.natAbs<=M + 1
 ln:g.length<=2 * r
 ua:u=(aO g).a * x + (aO g).b * y
 vc:v=(aO g).c * x + (aO g).d * y
 ub:u.natAbs<=M
 vb:v.natAbs * 2 ^ r<=M
theorem Dv.zero {M:Nat} {x y:Int} (hx:x.natAbs<=M) (hy:y.natAbs<=M):Dv M x y [] x y 0 :=
 ⟨(fun s hs=>nomatch hs),Nat.le_refl _,by show x=1 * x + 0 * y;omega,by show y=0 * x + 1 * y;omega,hx,by omega⟩
theorem Dv.step {M r:Nat} {x y u v:Int} {g:List Sp} (h:Dv M x y g u v r) (hv:v≠0):Dv M x y (g ++ p9 u v) (-v) (u - nr u v * v) (r + 1):=by
 have hl:=uQ (x:=u) hv
 have hlen:=G2 u v
 have h2:1<=2 ^ r:=Nat.one_le_two_pow
 have vM:v.natAbs<=M:=Nat.le_trans (Nat.le_mul_of_pos_right _ h2) h.vb
 have e:aO (g ++ p9 u v)=⟨-(aO g).c,-(aO g).d,(aO g).a - nr u v * (aO g).c,(aO g).b - nr u v * (aO g).d⟩:=by
  rw [yP,G1]
  apply T4.ext' <;> simp [T4.mul,Int.neg_mul] <;> omega
 refine ⟨fun s hs=>?_,by rw [List.length_append];have:=h.ln;omega,?_,?_,by omega,?_⟩
 ·rcases List.mem_append.mp hs with hs | hs
  ·exact h.pr s hs
  ·obtain ⟨h1,h3⟩:=KW hv s hs
   exact ⟨h1,by have:=h.ub;omega⟩
 ·rw [e]
  show -v=-(aO g).c * x + -(aO g).d * y
  rw [h.vc,Int.neg_mul,Int.neg_mul];omega
 ·rw [e]
  show u - nr u v * v=((aO g).a - nr u v * (aO g).c) * x + ((aO g).b - nr u v * (aO g).d) * y
  generalize hq:nr u v=q
  rw [h.ua,h.vc,Int.sub_mul,Int.sub_mul,Int.mul_add,Int.mul_assoc,Int.mul_assoc]
  omega
 ·have:=h.vb
  have h3:(u - nr u v * v).natAbs * 2 ^ (r + 1)=2 * (u - nr u v * v).natAbs * 2 ^ r:=by rw [Nat.pow_succ,Nat.mul_comm (2 ^ r) 2,<- Nat.mul_assoc,Nat.mul_comm _ 2]
  rw [h3]
  exact Nat.le_trans (Nat.mul_le_mul_right _ hl) this
theorem Dv.few {M r k:Nat} {x y u v:Int} {g:List Sp} (h:Dv M x y g u v r) (hv:v≠0) (hM:M < 2 ^ k):r < k:=by
 have h1:2 ^ r<=M:=Nat.le_trans (Nat.le_mul_of_pos_left _ (by omega)) h.vb
 exact (Nat.pow_lt_pow_iff_right (by decide)).mp (Nat.lt_of_le_of_lt h1 hM)
def nO (A:T4):List Sp:=if A.a=1 then p8 A.b else (false,2) :: p8 (-A.b)
theorem Py {a d:Int} (h:a * d=1):(a=1/\d=1)\/(a=-1/\d=-1):=by
 have h1:=congrArg Int.natAbs h
 rw [Int.natAbs_mul] at h1
 have h2:a.natAbs=1:=Nat.eq_one_of_dvd_one ⟨_,h1.symm⟩
 rcases (show a=1\/a=-1 by omega) with rfl | rfl
 ·exact .inl ⟨rfl,by omega⟩
 ·exact .inr ⟨rfl,by omega⟩
theorem Pz {A:T4} (hc:A.c=0) (hd:A.a * A.d - A.b * A.c=1):aO (nO A)=A:=by
 have h1:A.a * A.d=1:=by rw [hc,Int.mul_zero] at hd;omega
 unfold nO
 rcases Py h1 with ⟨e1,e2⟩ | ⟨e1,e2⟩
 ·rw [if_pos e1,G0]
  exact T4.ext' e1.symm rfl hc.symm e2.symm
 ·rw [if_neg (by rw [e1];decide),Pu,G0]
  apply T4.ext'
  ·simp [T4.mul,kJ,qp,T4.qt,T4.one,e1]
  ·simp [T4.mul,kJ,qp,T4.qt,T4.one]
  ·simp [T4.mul,kJ,qp,T4.qt,T4.one,hc]
  ·simp [T4.mul,kJ,qp,T4.qt,T4.one,e2]
theorem KY (A:T4):∀ s∈nO A,eO s:=fun s hs=>by
 unfold nO at hs
 split at hs
 ·exact (A1 s hs).1
 ·rcases List.mem_cons.mp hs with rfl | hs
  ·exact ⟨fun _=>⟨by decide,by decide⟩,by decide⟩
  ·exact (A1 s hs).1
theorem KZ (A:T4):(nO A).length<=2:=by
 unfold nO
 split
 ·have:=A2 A.b;omega
 ·have:=A2 (-A.b);simp;omega
theorem PB (A B:T4):(A.mul B).a * (A.mul B).d - (A.mul B).b * (A.mul B).c=(A.a * A.d - A.b * A.c) * (B.a * B.d - B.b * B.c):=by
 simp only [T4.mul]
 grind
theorem PD {T:T4} {g:List Sp} (hd:T.a * T.d - T.b * T.c=1) (hg:∀ s∈g,eO s) (h0:(aO g).c * T.a + (aO g).d * T.c=0):aO (nM (nO ((aO g).mul T) ++ gN g)).reverse=T/\∀ s∈(nM (nO ((aO g).mul T) ++ gN g)).reverse,eO s:=by
 have PH:((aO g).mul T).a * ((aO g).mul T).d - ((aO g).mul T).b * ((aO g).mul T).c=1:=by rw [PB,KS hg,hd];rfl
 have PJ:((aO g).mul T).c=0:=h0
 have pr:∀ s∈nO ((aO g).mul T) ++ gN g,eO s:=fun s hs=>by
  rcases List.mem_append.mp hs with hs | hs
  ·exact KY _ s hs
  ·exact GZ hg s hs
 refine ⟨?_,fun s hs=>(wJ pr).pr s (List.mem_reverse.mp hs)⟩
 rw [KP pr,yP,Pz PJ PH,KQ hg,<- T4.assoc,(Pw (KS hg)).2,T4.one_mul]
end ag
namespace ag
def It (x y:Int):Nat->List Sp×Int×Int
 | 0=>([],x,y)
 | r + 1=>((It x y r).1 ++ p9 (It x y r).2.1 (It x y r).2.2,-(It x y r).2.2,(It x y r).2.1 - nr (It x y r).2.1 (It x y r).2.2 * (It x y r).2.2)
def Gr (x u:Int):Prop:=x * u<=0/\x.natAbs<=u.natAbs
theorem Gr.step {x u q:Int} (h:Gr x u) (hq:1<=q):Gr u (x - q * u):=by
 obtain ⟨h1,h2⟩:=h
 have hu:0<=u * u:=by
  rcases Int.lt_or_le u 0 with h | h
  ·exact Int.le_of_lt (Int.mul_pos_of_neg_of_neg h h)
  ·exact Int.mul_nonneg h h
 refine ⟨?_,?_⟩
 ·have e:u * (x - q * u)=x * u - q * (u * u):=by rw [Int.mul_sub,Int.mul_comm u x,Int.mul_left_comm]
  have:0<=q * (u * u):=Int.mul_nonneg (by omega) hu
  omega
 ·rcases Int.lt_trichotomy u 0 with h | h | h
  ·have hx:0<=x:=by
    rcases Int.lt_or_le x 0 with z | z
    ·have:=Int.mul_pos_of_neg_of_neg z h;omega
    ·exact z
   have:q * u<=u:=by
    have:=Int.mul_le_mul_of_nonpos_right hq (Int.le_of_lt h)
    omega
   omega
  ·subst h;simp
  ·have hx:x<=0:=by
    rcases Int.lt_or_le 0 x with z | z
    ·have:=Int.mul_pos z h;omega
    ·exact z
   have:u<=q * u:=by
    have:=Int.mul_le_mul_of_nonneg_right hq (Int.le_of_lt h)
    omega
   omega
structure Eu (a c o p x y u v:Int) (r:Nat):Prop where
 e1:o=a * x + c * y
 e2:p=a * u + c * v
 dt:x * v - y * u=1\/x * v - y * u=-1
 o0:0 < o
 p0:0<=p
 lt:r=0\/p < o
 hf:r=0\/o.toNat * p.toNat * 2 ^ (r - 1)<=1000000000000
 bo:o<=1000000
 bp:p<=1000000
 gx:r=0\/Gr x u
 gy:Gr y v\/(y=1/\v=0/\0 < p)
 z:r=0->x=1/\y=0/\u=0/\v=1/\o=a/\p=c
theorem Eu.zero {a c:Int} (ha:1<=a) (ha1:a<=1000000) (hc:0<=c) (hc1:c<=1000000):Eu a c a c 1 0 0 1 0 :=
 ⟨by omega,by omega,.inl (by decide),by omega,hc,.inl rfl,.inl rfl,ha1,hc1,.inl rfl,.inl ⟨by decide,by decide⟩,fun _=>⟨rfl,rfl,rfl,rfl,rfl,rfl⟩⟩
theorem Eu.few {a c o p x y u v:Int} {r:Nat} (h:Eu a c o p x y u v r) (hp:p≠0):r<=41:=by
 rcases h.hf with z | z
 ·omega
 ·have hp0:=h.p0
  have ho:=h.o0
  have h1:1<=o.toNat * p.toNat:=Nat.mul_pos (by omega) (by omega)
  have h2:2 ^ (r - 1)<=1000000000000:=Nat.le_trans (Nat.le_mul_of_pos_left _ h1) z
  have h3:r - 1 < 40:=(Nat.pow_lt_pow_iff_right (a:=2) (by decide)).mp (Nat.lt_of_le_of_lt h2 (by decide))
  omega
theorem Eu.step {a c o p x y u v:Int} {r:Nat} (h:Eu a c o p x y u v r) (hp:p≠0):Eu a c p (o - o.fdiv p * p) u v (x - o.fdiv p * u) (y - o.fdiv p * v) (r + 1):=by
 have hp0:0 < p:=by have:=h.p0;omega
 have K0:0<=o:=Int.le_of_lt h.o0
 have hq:o.fdiv p=o / p:=Int.fdiv_eq_ediv_of_nonneg o (by omega)
 rw [hq]
 have em:=Int.emod_add_mul_ediv o p
 have e0:=Int.emod_nonneg o (show p≠0 from hp)
 have e1:=Int.emod_lt_of_pos o hp0
 have er:o - o / p * p=o % p:=by rw [Int.mul_comm];omega
 have q0:0<=o / p:=Int.ediv_nonneg K0 (by omega)
 rw [er]
 have q1:r≠0->1<=o / p:=fun hr=>by
  have:p < o:=by rcases h.lt with z | z;exact absurd z hr;exact z
  exact Int.le_ediv_of_mul_le hp0 (by omega)
 have G3:r≠0->2 * (o % p)<=o:=fun hr=>by
  have:=q1 hr
  have:p<=p * (o / p):=by
   have:=Int.mul_le_mul_of_nonneg_left (q1 hr) (Int.le_of_lt hp0)
   omega
  omega
 generalize G4:o / p=q at *
 refine ⟨h.e2,?_,?_,hp0,e0,.inr e1,.inr ?_,h.bp,by have:=h.bp;omega,.inr ?_,?_,fun z=>by omega⟩
 ·rw [<- er,h.e1,h.e2,Int.mul_sub,Int.mul_sub,Int.mul_add,Int.mul_left_comm a q u,Int.mul_left_comm c q v];omega
 ·have e:u * (y - q * v) - v * (x - q * u)=-(x * v - y * u):=by
   rw [Int.mul_sub,Int.mul_sub,Int.mul_left_comm u q v,Int.mul_left_comm v q u,Int.mul_comm u v,Int.mul_comm u y,Int.mul_comm v x];omega
  rw [e]
  rcases h.dt with z | z <;> omega
 ·rw [Nat.add_sub_cancel]
  by_cases hr:r=0
  ·subst hr
   have hb:=h.bp
   have:p.toNat * (o % p).toNat<=1000000 * 1000000:=Nat.mul_le_mul (by omega) (by omega)
   omega
  ·have h1:o.toNat * p.toNat * 2 ^ (r - 1)<=1000000000000:=by rcases h.hf with z | z;exact absurd z hr;exact z
   have h2:=G3 hr
   have h3:p.toNat * (o % p).toNat * 2<=o.toNat * p.toNat:=by
    rw [Nat.mul_assoc,Nat.mul_comm o.toNat]
    exact Nat.mul_le_mul_left _ (by omega)
   have e:2 ^ r=2 * 2 ^ (r - 1):=by
    obtain ⟨k,rfl⟩:∃ k,r=k + 1:=⟨r - 1,by omega⟩
    rw [Nat.add_sub_cancel,Nat.pow_succ,Nat.mul_comm]
   rw [e,<- Nat.mul_assoc]
   exact Nat.le_trans (Nat.mul_le_mul_right _ h3) h1
 ·by_cases hr:r=0
  ·obtain ⟨z1,z2,z3,z4,z5,z6⟩:=h.z hr
   subst z1 z3
   rw [Int.mul_zero]
   exact ⟨by decide,by decide⟩
  ·rcases h.gx with z | z
   ·exact absurd z hr
   ·exact z.step (q1 hr)
 ·by_cases hr:r=0
  ·obtain ⟨z1,z2,z3,z4,z5,z6⟩:=h.z hr
   subst z2 z4
   by_cases PK:q=0
   ·subst PK
    refine .inr ⟨rfl,by decide,?_⟩
    have hoc:=h.o0
    have:o % p=o:=by rw [Int.mul_zero] at em;omega
    omega
   ·refine .inl ⟨by omega,by omega⟩
  ·rcases h.gy with z | ⟨z1,z2,z3⟩
   ·exact .inl (z.step (q1 hr))
   ·subst z1 z2
    rw [Int.mul_zero]
    exact .inl ⟨by decide,by decide⟩
theorem DT {o z a:Int} (ho:0 < o) (h:a=o * z):z.natAbs<=a.natAbs:=by
 rw [h,Int.natAbs_mul]
 exact Nat.le_mul_of_pos_left _ (by omega)
theorem Eu.fin {a c o x y u v:Int} {r:Nat} (h:Eu a c o 0 x y u v r) (ha:a.natAbs<=1000000) (hc:c.natAbs<=1000000):∃ e:Int,a=o * (e * v)/\c=o * (-(e * u))/\e * v * x - (0 - y) * -(e * u)=1/\(⟨e * v,0 - y,-(e * u),x⟩:T4).le 1000000:=by
 have k1:o * v=a * (x * v - y * u):=by
  have e2:=h.e2
  have:o * v=a * (x * v) + (c * v) * y:=by rw [h.e1,Int.add_mul,Int.mul_assoc,Int.mul_assoc,Int.mul_assoc,Int.mul_comm y v]
  have e3:c * v=-(a * u):=by omega
  rw [this,e3,Int.mul_sub,Int.neg_mul,Int.mul_assoc,Int.mul_comm u y];omega
 have k2:o * u=-(c * (x * v - y * u)):=by
  have e2:=h.e2
  have:o * u=(a * u) * x + c * (y * u):=by rw [h.e1,Int.add_mul,Int.mul_assoc,Int.mul_assoc,Int.mul_assoc,Int.mul_comm x u]
  have e3:a * u=-(c * v):=by omega
  rw [this,e3,Int.mul_sub,Int.neg_mul,Int.mul_assoc,Int.mul_comm v x];omega
 have ho:=h.o0
 have gy:y.natAbs<=v.natAbs:=by
  rcases h.gy with z | z
  ·exact z.2
  ·omega
 have gx:x.natAbs<=u.natAbs\/x=1:=by
  rcases h.gx with z | z
  ·exact .inr (h.z z).1
  ·exact .inl z.2
 rcases h.dt with z | z
 ·rw [z,Int.mul_one] at k1 k2
  have a1:a=o * (1 * v):=by rw [Int.one_mul];omega
  have c1:c=o * (-(1 * u)):=by rw [Int.one_mul,Int.mul_neg];omega
  have v1:=DT ho a1
  have u1:=DT ho c1
  refine ⟨1,a1,c1,?_,⟨by show (1 * v).natAbs<=_;omega,by show (0 - y).natAbs<=_;omega,by show (-(1 * u)).natAbs<=_;omega,by show x.natAbs<=_;omega⟩⟩
  rw [Int.one_mul,Int.one_mul,Int.zero_sub,Int.neg_mul_neg,Int.mul_comm v x];exact z
 ·rw [z] at k1 k2
  have a1:a=o * (-1 * v):=by rw [Int.neg_mul,Int.one_mul,Int.mul_neg];omega
  have c1:c=o * (-(-1 * u)):=by rw [Int.neg_mul,Int.one_mul,Int.neg_neg];omega
  have v1:=DT ho a1
  have u1:=DT ho c1
  refine ⟨-1,a1,c1,?_,⟨by show (-1 * v).natAbs<=_;omega,by show (0 - y).natAbs<=_;omega,by show (-(-1 * u)).natAbs<=_;omega,by show x.natAbs<=_;omega⟩⟩
  have e1:-1 * v * x=-(x * v):=by rw [Int.neg_mul,Int.one_mul,Int.neg_mul,Int.mul_comm v x]
  have e2:(0 - y) * -(-1 * u)=-(y * u):=by rw [Int.neg_mul (1:Int),Int.one_mul,Int.neg_neg,Int.zero_sub,Int.neg_mul]
  rw [e1,e2];omega
end ag
namespace ag
abbrev Se:=(Int->Int)×(Int->Int)
def mS (n:Nat) (s t:Se):Prop:=∀ u:Int,0<=u->u < (n:Int)->s.1 u=t.1 u/\s.2 u=t.2 u
theorem mS.refl {n:Nat} (s:Se):mS n s s:=fun _ _ _=>⟨rfl,rfl⟩
theorem mS.trans {n:Nat} {s t u:Se} (a:mS n s t) (b:mS n t u):mS n s u:=fun v h0 h1=>⟨(a v h0 h1).1.trans (b v h0 h1).1,(a v h0 h1).2.trans (b v h0 h1).2⟩
def DV (x:List Int) (s:Se):Se:=(fun t=>s.1 t - s.2 (app x t),fun t=>s.2 (app x t))
def DW (x:List Int) (s:Se):Se:=(fun t=>s.1 t + s.2 t,fun t=>s.2 (app (inv x) t))
def wR (y:List Int) (s:Se):Se:=(fun t=>s.2 (app (inv y) t),fun t=>-s.1 t)
def pK (p:iw) (st:Sp) (s:Se):Se:=if st.1=true then (if 0 < st.2 then DV p.1 s else DW p.1 s) else wR p.2 s
def cS:iw->List Sp->Se->Se
 | _,[],s=>s
 | p,st :: w,s=>pK p st (cS (stM p st) w s)
def bx (st:Sp):List Sp:=List.replicate st.2.natAbs (st.1,if st.2 < 0 then -1 else 1)
section
variable {n:Nat} {p:iw}
theorem PL (h:Vf n p) (st:Sp) {s t:Se} (e:mS n s t):mS n (pK p st s) (pK p st t):=by
 intro u h0 h1
 have ex:=h.1.app h0 h1
 have ei:=h.1.nL h0 h1
 have ey:=h.2.nL h0 h1
 unfold pK
 split
 ·split
  ·show s.1 u - s.2 (app p.1 u)=t.1 u - t.2 (app p.1 u)/\s.2 (app p.1 u)=t.2 (app p.1 u)
   rw [(e u h0 h1).1,(e _ ex.1 ex.2).2];exact ⟨rfl,rfl⟩
  ·show s.1 u + s.2 u=t.1 u + t.2 u/\s.2 (app (inv p.1) u)=t.2 (app (inv p.1) u)
   rw [(e u h0 h1).1,(e u h0 h1).2,(e _ ei.1 ei.2).2];exact ⟨rfl,rfl⟩
 ·show s.2 (app (inv p.2) u)=t.2 (app (inv p.2) u)/\-s.1 u=-t.1 u
  rw [(e u h0 h1).1,(e _ ey.1 ey.2).2];exact ⟨rfl,rfl⟩
theorem G5:∀ {w:List Sp} {p:iw},Vf n p->∀ {s t:Se},mS n s t->mS n (cS p w s) (cS p w t)
 | [],_,_,_,_,e=>e
 | st :: w,p,h,_,_,e=>PL h st (G5 (h.st st) e)
theorem wU:∀ (a b:List Sp) (p:iw) (s:Se),cS p (a ++ b) s=cS p a (cS (eY p a) b s)
 | [],_,_,_=>rfl
 | st :: a,b,p,s=>by
  show pK p st (cS (stM p st) (a ++ b) s)=pK p st (cS (stM p st) a (cS (eY (stM p st) a) b s))
  rw [wU]
theorem G6 (st:Sp):∀ (k:Nat) (p:iw),eY p (List.replicate (k + 1) st)=stM (eY p (List.replicate k st)) st:=by
 intro k p
 rw [List.replicate_succ',wO]
 rfl
theorem K1 (h:Vf n p):∀ k:Nat,eY p (List.replicate k (true,1))=Sh (k:Int) p
 | 0=>(sY h).symm
 | k + 1=>by
  rw [G6,K1 h k]
  show Sh 1 (Sh (k:Int) p)=_
  rw [DS h];rfl
theorem K2 (h:Vf n p):∀ k:Nat,eY p (List.replicate k (true,-1))=Sh (-(k:Int)) p
 | 0=>(sY h).symm
 | k + 1=>by
  rw [G6,K2 h k]
  show Sh (-1) (Sh (-(k:Int)) p)=_
  rw [DS h]
  congr 1
  omega
theorem G7:∀ k:Nat,eY p (List.replicate k (false,1))=rP k p
 | 0=>rfl
 | k + 1=>by
  rw [G6,G7 k]
  rfl
theorem G8 {k:Nat}:bx (true,(k:Int))=List.replicate k (true,1):=by
 unfold bx
 rw [if_neg (by simp),Int.natAbs_natCast]
theorem G9 {k:Nat} (hk:0 < k):bx (true,-(k:Int))=List.replicate k (true,-1):=by
 unfold bx
 rw [if_pos (by show -(k:Int) < 0;omega),show (-(k:Int)).natAbs=k by omega]
theorem Ha {k:Nat}:bx (false,(k:Int))=List.replicate k (false,1):=by
 unfold bx
 rw [if_neg (by simp),Int.natAbs_natCast]
theorem Hb (st:Sp) (h:st.1=false->1<=st.2/\st.2<=3):(∃ k:Nat,st=(true,(k:Int))/\bx st=List.replicate k (true,1))\/(∃ k:Nat,0 < k/\st=(true,-(k:Int))/\bx st=List.replicate k (true,-1))\/∃ k:Nat,1<=k/\k<=3/\st=(false,(k:Int))/\bx st=List.replicate k (false,1):=by
 obtain ⟨b,z⟩:=st
 cases b with
 | true =>
  rcases Int.lt_or_le z 0 with hz | hz
  ·obtain ⟨k,hk⟩:∃ k:Nat,z=-(k:Int):=⟨z.natAbs,by omega⟩
   subst hk
   exact .inr (.inl ⟨k,by omega,rfl,G9 (by omega)⟩)
  ·obtain ⟨k,hk⟩:∃ k:Nat,z=(k:Int):=⟨z.toNat,by omega⟩
   subst hk
   exact .inl ⟨k,rfl,G8⟩
 | false =>
  have:=h rfl
  simp only at this
  obtain ⟨k,hk⟩:∃ k:Nat,z=(k:Int):=⟨z.toNat,by omega⟩
  subst hk
  exact .inr (.inr ⟨k,by omega,by omega,rfl,Ha⟩)
theorem PN (h:Vf n p) {st:Sp} (hs:st.1=false->1<=st.2/\st.2<=3):eY p (bx st)=stM p st:=by
 rcases Hb st hs with ⟨k,rfl,e⟩ | ⟨k,hk,rfl,e⟩ | ⟨k,h1,h3,rfl,e⟩
 ·rw [e,K1 h];rfl
 ·rw [e,K2 h];rfl
 ·rw [e,G7]
  show _=rP ((k:Int)).toNat p
  rw [Int.toNat_natCast]
theorem pm (h:Vf n p) (s:Se):mS n (DV p.1 (DW p.1 s)) s:=fun u h0 h1=>by
 have e:=h.1.dJ h0 h1
 show (s.1 u + s.2 u) - s.2 (app (inv p.1) (app p.1 u))=s.1 u/\s.2 (app (inv p.1) (app p.1 u))=s.2 u
 rw [e]
 exact ⟨by omega,rfl⟩
theorem mp (h:Vf n p) (s:Se):mS n (DW p.1 (DV p.1 s)) s:=fun u h0 h1=>by
 have e:=h.1.dc h0 h1
 show (s.1 u - s.2 (app p.1 u)) + s.2 (app p.1 u)=s.1 u/\s.2 (app p.1 (app (inv p.1) u))=s.2 u
 rw [e]
 exact ⟨by omega,rfl⟩
theorem q4 (h:Vf n p) (s:Se):mS n (cS p (List.replicate 4 (false,1)) s) s:=fun u h0 h1=>by
 have ii:inv (inv p.1)=p.1:=h.1.inv_inv
 have e1:=h.1.dJ h0 h1
 have e2:=h.2.nL h0 h1
 have e3:=h.2.dc h0 h1
 have e4:=h.1.dc h0 h1
 have e5:=h.1.app h0 h1
 have jj:inv (inv p.2)=p.2:=h.2.inv_inv
 show _/\_
 have key:cS p (List.replicate 4 (false,1)) s=wR p.2 (wR p.1 (wR (inv p.2) (wR (inv p.1) s))):=by
  show pK p (false,1) (pK (Qt p) (false,1) (pK (Qt (Qt p)) (false,1) (pK (Qt (Qt (Qt p))) (false,1) s)))=_
  rfl
 rw [key]
 show - -(s.1 (app (inv (inv p.2)) (app (inv p.2) u)))=s.1 u/\-(-(s.2 (app (inv (inv p.1)) (app (inv p.1) u))))=s.2 u
 rw [ii,jj,e3,e4]
 exact ⟨by omega,by omega⟩
theorem Hc (st bk:Sp) (P:iw->Prop) (hP:∀ p,P p->Vf n p) (hst:∀ p,P p->P (stM p st)) (hb:∀ p,P p->stM (stM p st) bk=p) (he:∀ p,P p->∀ s,mS n (pK p st (pK (stM p st) bk s)) s) :
  ∀ (k:Nat) (p:iw),P p->∀ s,mS n (cS p (List.replicate k st ++ List.replicate k bk) s) s/\eY p (List.replicate k st ++ List.replicate k bk)=p
 | 0,p,_,s=>⟨mS.refl _,rfl⟩
 | k + 1,p,hp,s=>by
  have e:List.replicate (k + 1) st ++ List.replicate (k + 1) bk=[st] ++ ((List.replicate k st ++ List.replicate k bk) ++ [bk]):=by
   rw [List.replicate_succ,List.replicate_succ' (n:=k) (a:=bk)];simp
  have ih:=Hc st bk P hP hst hb he k (stM p st) (hst p hp)
  refine ⟨?_,?_⟩
  ·rw [e,wU,wU]
   have i1:=ih (cS (eY (eY p [st]) (List.replicate k st ++ List.replicate k bk)) [bk] s)
   rw [show eY p [st]=stM p st from rfl]
   rw [show eY p [st]=stM p st from rfl] at i1
   have i2:mS n (cS p [st] (cS (stM p st) (List.replicate k st ++ List.replicate k bk) (cS (eY (stM p st) (List.replicate k st ++ List.replicate k bk)) [bk] s))) (cS p [st] (cS (eY (stM p st) (List.replicate k st ++ List.replicate k bk)) [bk] s)):=G5 (hP p hp) i1.1
   refine i2.trans ?_
   rw [i1.2]
   exact he p hp s
  ·rw [e,wO,wO]
   show stM (eY (stM p st) (List.replicate k st ++ List.replicate k bk)) bk=p
   rw [(ih s).2]
   exact hb p hp
theorem PQ (h:Vf n p) {st:Sp} (hs:eO st) (s:Se):mS n (cS p (bx st ++ bx (jJ st)) s) s/\eY p (bx st ++ bx (jJ st))=p:=by
 have sp:∀ p:iw,Vf n p->stM (stM p (true,1)) (true,-1)=p:=fun p h=>by
  show Sh (-1) (Sh 1 p)=p
  rw [DS h];exact sY h
 have sm:∀ p:iw,Vf n p->stM (stM p (true,-1)) (true,1)=p:=fun p h=>by
  show Sh 1 (Sh (-1) p)=p
  rw [DS h];exact sY h
 rcases Hb st hs.1 with ⟨k,rfl,e⟩ | ⟨k,hk,rfl,e⟩ | ⟨k,h1,h3,rfl,e⟩
 ·have hk:0 < k:=by have:=hs.2;simp only at this;omega
  have eb:jJ (true,(k:Int))=(true,-(k:Int)):=rfl
  rw [e,eb,G9 hk]
  exact Hc (true,1) (true,-1) (Vf n) (fun _ h=>h) (fun _ h=>h.st _) sp (fun p h s=>pm h s) k p h s
 ·have eb:jJ (true,-(k:Int))=(true,(k:Int)):=by show (true,- -(k:Int))=_;rw [Int.neg_neg]
  rw [e,eb,G8]
  exact Hc (true,-1) (true,1) (Vf n) (fun _ h=>h) (fun _ h=>h.st _) sm (fun p h s=>mp h s) k p h s
 ·have eb:jJ (false,(k:Int))=(false,((4 - k:Nat):Int)):=by
   show (false,4 - (k:Int))=_
   congr 1
   omega
  rw [e,eb,Ha,List.replicate_append_replicate,show k + (4 - k)=4 by omega]
  refine ⟨q4 h s,?_⟩
  rw [G7]
  show Q2 (Q2 p)=p
  exact A0 h
theorem K3:∀ {w:List Sp} {p:iw},Vf n p->(∀ s∈w,eO s)->∀ s:Se,mS n (cS p ((w ++ gN w).flatMap bx) s) s/\eY p ((w ++ gN w).flatMap bx)=p
 | [],_,_,_,s=>⟨mS.refl _,rfl⟩
 | st :: w,p,h,hw,s=>by
  have e:(st :: w ++ gN (st :: w)).flatMap bx=bx st ++ ((w ++ gN w).flatMap bx ++ bx (jJ st)):=by
   unfold gN
   simp [List.flatMap_append]
  have hs:=hw st List.mem_cons_self
  have v1:Vf n (eY p (bx st)):=h.ld
  have ih:=K3 (w:=w) v1 fun s m=>hw s (List.mem_cons_of_mem _ m)
  have sb:=PQ h hs
  rw [e]
  refine ⟨?_,?_⟩
  ·rw [wU,wU]
   have i1:=ih (cS (eY (eY p (bx st)) ((w ++ gN w).flatMap bx)) (bx (jJ st)) s)
   refine (G5 h i1.1).trans ?_
   rw [i1.2,<- wU]
   exact (sb s).1
  ·rw [wO,wO,(ih s).2,<- wO]
   exact (sb s).2
def Sg:Nat->(Nat->Int)->Int
 | 0,_=>0
 | k + 1,h=>Sg k h + h k
theorem K4:∀ (k:Nat) (p:iw) (s:Se),cS p (List.replicate k (true,1)) s=(fun t=>s.1 t - Sg k (fun j=>s.2 (aM p.1 t (j + 1))),fun t=>s.2 (aM p.1 t k))
 | 0,p,s=>by
  show s=_
  refine Prod.ext (funext fun t=>?_) (funext fun t=>rfl)
  show s.1 t=s.1 t - 0
  omega
 | k + 1,p,s=>by
  show DV p.1 (cS (Sh 1 p) (List.replicate k (true,1)) s)=_
  rw [K4 k (Sh 1 p) s]
  have e:∀ t,aM p.1 (app p.1 t) k=aM p.1 t (k + 1):=fun t=>GX p.1 t k
  refine Prod.ext (funext fun t=>?_) (funext fun t=>?_)
  ·show s.1 t - Sg k (fun j=>s.2 (aM p.1 t (j + 1))) - s.2 (aM p.1 (app p.1 t) k)=s.1 t - (Sg k (fun j=>s.2 (aM p.1 t (j + 1))) + s.2 (aM p.1 t (k + 1)))
   rw [e];omega
  ·show s.2 (aM p.1 (app p.1 t) k)=_
   rw [e]
theorem K5:∀ (k:Nat) (p:iw) (s:Se),cS p (List.replicate k (true,-1)) s=(fun t=>s.1 t + Sg k (fun j=>s.2 (aM (inv p.1) t j)),fun t=>s.2 (aM (inv p.1) t k))
 | 0,p,s=>by
  show s=_
  refine Prod.ext (funext fun t=>?_) (funext fun t=>rfl)
  show s.1 t=s.1 t + 0
  omega
 | k + 1,p,s=>by
  show DW p.1 (cS (Sh (-1) p) (List.replicate k (true,-1)) s)=_
  rw [K5 k (Sh (-1) p) s]
  have e:∀ t,aM (inv p.1) (app (inv p.1) t) k=aM (inv p.1) t (k + 1):=fun t=>GX (inv p.1) t k
  refine Prod.ext (funext fun t=>?_) (funext fun t=>?_)
  ·show s.1 t + Sg k (fun j=>s.2 (aM (inv p.1) t j)) + s.2 (aM (inv p.1) t k)=s.1 t + (Sg k (fun j=>s.2 (aM (inv p.1) t j)) + s.2 (aM (inv p.1) t k))
   omega
  ·show s.2 (aM (inv p.1) (app (inv p.1) t) k)=_
   rw [e]
theorem Hd {k:Nat} {a b:Nat->Int} (h:∀ i,i < k->a i=b i):Sg k a=Sg k b:=by
 induction k with
 | zero=>rfl
 | succ k ih=>show Sg k a + a k=Sg k b + b k;rw [ih fun i hi=>h i (by omega),h k (by omega)]
theorem wV (k:Nat) (a b:Nat->Int):Sg k (fun i=>a i + b i)=Sg k a + Sg k b:=by
 induction k with
 | zero=>rfl
 | succ k ih=>show Sg k _ + (a k + b k)=(Sg k a + a k) + (Sg k b + b k);rw [ih];omega
theorem DX (k:Nat):Sg k (fun _=>0)=0:=by
 induction k with
 | zero=>rfl
 | succ k ih=>show Sg k _ + 0=0;rw [ih];rfl
theorem K7 (a b:Nat) (h:Nat->Nat->Int):Sg a (fun i=>Sg b (h i))=Sg b (fun j=>Sg a (fun i=>h i j)):=by
 induction a with
 | zero=>show 0=Sg b (fun _=>0);rw [DX]
 | succ a ih =>
  show Sg a (fun i=>Sg b (h i)) + Sg b (h a)=Sg b (fun j=>Sg a (fun i=>h i j) + h a j)
  rw [ih,wV]
theorem wW {n:Nat} {c:Nat->Prop} [DecidablePred c] {a:Nat->Int} {m:Nat} (hm:m < n) (h1:c m) (h2:∀ i,i < n->c i->i=m):Sg n (fun i=>if c i then a i else 0)=a m:=by
 induction n with
 | zero=>omega
 | succ n ih =>
  show Sg n _ + (if c n then a n else 0)=a m
  by_cases e:m=n
  ·subst e
   rw [if_pos h1]
   have:Sg m (fun i=>if c i then a i else 0)=Sg m (fun _=>0):=Hd fun i hi=>if_neg fun ci=>by have:=h2 i (by omega) ci;omega
   rw [this,DX];omega
  ·rw [if_neg fun cn=>e (h2 n (by omega) cn).symm,ih (by omega) fun i hi=>h2 i (by omega)];omega
theorem He {f g:Int->Int} {u:Int} (h0:0<=u) (h1:u < (n:Int)) (G:Int->Int) (gB:0<=g u/\g u < (n:Int)) (fg:f (g u)=u) (gf:∀ t:Int,0<=t->t < (n:Int)->f t=u->t=g u):Sg n (fun s=>if f (s:Int)=u then G (s:Int) else 0)=G (g u):=by
 have:=wW (n:=n) (c:=fun s:Nat=>f (s:Int)=u) (a:=fun s:Nat=>G (s:Int)) (m:=(g u).toNat) (by omega) (by rw [Int.toNat_of_nonneg gB.1];exact fg) (fun i hi ci=>by
  have:=gf (i:Int) (by omega) (by omega) ci
  omega)
 rw [Int.toNat_of_nonneg gB.1] at this
 exact this
theorem rQ {x:List Int} (h:Tn n x) {u:Int} (h0:0<=u) (h1:u < (n:Int)):∀ k,0<=aM x u k/\aM x u k < (n:Int)
 | 0=>⟨h0,h1⟩
 | k + 1=>by
  obtain ⟨a,b⟩:=rQ h h0 h1 k
  exact h.app a b
theorem DY {x:List Int} (h:Tn n x) {u:Int} (h0:0<=u) (h1:u < (n:Int)) (k:Nat):aM (inv x) (aM x u k) k=u:=by
 rw [h.ma h0 h1,if_pos (Nat.le_refl _),Nat.sub_self];rfl
theorem DZ {x:List Int} (h:Tn n x) {u:Int} (h0:0<=u) (h1:u < (n:Int)) (k:Nat):aM x (aM (inv x) u k) k=u:=by
 rw [h.oy h0 h1,if_pos (Nat.le_refl _),Nat.sub_self];rfl
end
end ag
namespace L4
open PySem PySem.Spec L2
inductive D where
 | non | bl (b:Bool) | int (i:Int) | str (x:Str) | ty (n:String) | tup (ds:List D) | ref (i:Nat)
instance:Inhabited D:=⟨.non⟩
inductive O where
 | lst (ds:List D) | nP (ds:List D) | dct (kvs:List (Key×D)) | D0 (kvs:List (List Int×D)) | exc (c:Str) (fs:List (Str×D)) | any | jf (lo hi:Int)
abbrev Store:=List O
abbrev au:=List (Option D)
abbrev Dm (α:Type):=Store->Option (α×Store)
inductive Fl where
 | nx (δ:au) | bk (δ:au) | ct (δ:au) | rt (d:D)
mutual
inductive Rp (K:PySem.W.Frag) (ρ:List Addr) (H:Hp):V->D->Prop
 | non:Rp K ρ H .non .non
 | bl (b:Bool):Rp K ρ H (.bl b) (.bl b)
 | int (i:Int):Rp K ρ H (.int i) (.int i)
 | str (x:Str):Rp K ρ H (.str x) (.str x)
 | ty (n:String):Rp K ρ H (.ty n) (.ty n)
 | ref {a:Addr} {i:Nat}:ρ[i]?=some a->Rp K ρ H (.ref a) (.ref i)
 | tup {a:Addr} {vs:List V} {ds:List D}:eZ K H a vs->cO K ρ H vs ds->Rp K ρ H (.ref a) (.tup ds)
inductive cO (K:PySem.W.Frag) (ρ:List Addr) (H:Hp):List V->List D->Prop
 | nil:cO K ρ H [] []
 | cons {v:V} {vs:List V} {d:D} {ds:List D}:Rp K ρ H v d->cO K ρ H vs ds->cO K ρ H (v :: vs) (d :: ds)
end
structure Mn (K:PySem.W.Frag) (ρ:List Addr) (H:Hp) (ρ':List Addr) (H':Hp):Prop where
 r:∀ (i:Nat) (a:Addr),ρ[i]?=some a->ρ'[i]?=some a
 t:∀ a vs,eZ K H a vs->eZ K H' a vs
 f:∀ a o u,H a=some (.mr o u)->H' a=some (.mr o u)
 x:∀ a ws,H a=some (.xd ws)->H' a=some (.xd ws)
section
variable {K:PySem.W.Frag} {ρ ρ' ρ2:List Addr} {H H' H2:Hp}
theorem Mn.refl:Mn K ρ H ρ H:=⟨fun _ _ h=>h,fun _ _ h=>h,fun _ _ _ h=>h,fun _ _ h=>h⟩
theorem Mn.trans (m:Mn K ρ H ρ' H') (n:Mn K ρ' H' ρ2 H2):Mn K ρ H ρ2 H2:=⟨fun i a h=>n.r i a (m.r i a h),fun a vs h=>n.t a vs (m.t a vs h),fun a o u h=>n.f a o u (m.f a o u h),fun a ws h=>n.x a ws (m.x a ws h)⟩
mutual
theorem Rp.mn (m:Mn K ρ H ρ' H'):∀ {v:V} {d:D},Rp K ρ H v d->Rp K ρ' H' v d
 | _,_,.non=>.non
 | _,_,.bl b=>.bl b
 | _,_,.int i=>.int i
 | _,_,.str x=>.str x
 | _,_,.ty n=>.ty n
 | _,_,.ref e=>.ref (m.r _ _ e)
 | _,_,.tup q r=>.tup (m.t _ _ q) (cO.mn m r)
theorem cO.mn (m:Mn K ρ H ρ' H'):∀ {vs:List V} {ds:List D},cO K ρ H vs ds->cO K ρ' H' vs ds
 | _,_,.nil=>.nil
 | _,_,.cons a b=>.cons (Rp.mn m a) (cO.mn m b)
end
theorem cO.length:∀ {vs:List V} {ds:List D},cO K ρ H vs ds->vs.length=ds.length
 | _,_,.nil=>rfl
 | _,_,.cons _ r=>by rw [List.length_cons,List.length_cons,r.length]
theorem cO.got:∀ {vs:List V} {ds:List D},cO K ρ H vs ds->∀ {i:Nat} {d:D},ds[i]?=some d->∃ v,vs[i]?=some v/\Rp K ρ H v d
 | _,_,.nil,i,v,e=>by simp at e
 | _,_,.cons (v:=v) a b,0,d,e=>⟨v,by simp,by have:_=d:=Option.some.inj (by simpa using e);rw [<- this];exact a⟩
 | _,_,.cons a b,i + 1,d,e=>by
  obtain ⟨v,e1,r⟩:=cO.got b (i:=i) (by simpa using e)
  exact ⟨v,by simpa using e1,r⟩
theorem cO.append:∀ {vs:List V} {ds:List D} {ws:List V} {es:List D},cO K ρ H vs ds->cO K ρ H ws es->cO K ρ H (vs ++ ws) (ds ++ es)
 | _,_,_,_,.nil,s=>s
 | _,_,_,_,.cons a b,s=>.cons a (cO.append b s)
theorem cO.one {v:V} {d:D} (r:Rp K ρ H v d):cO K ρ H [v] [d]:=.cons r .nil
theorem cO.take:∀ {vs:List V} {ds:List D} (n:Nat),cO K ρ H vs ds->cO K ρ H (vs.take n) (ds.take n)
 | _,_,0,_=>.nil
 | _,_,_ + 1,.nil=>.nil
 | _,_,n + 1,.cons r t=>.cons r (cO.take n t)
theorem cO.drop:∀ {vs:List V} {ds:List D} (n:Nat),cO K ρ H vs ds->cO K ρ H (vs.drop n) (ds.drop n)
 | _,_,0,r=>r
 | _,_,_ + 1,.nil=>.nil
 | _,_,n + 1,.cons _ t=>cO.drop n t
theorem cO.set {v:V} {d:D} (r:Rp K ρ H v d):∀ {vs:List V} {ds:List D} (i:Nat),cO K ρ H vs ds->cO K ρ H (vs.set i v) (ds.set i d)
 | _,_,_,.nil=>.nil
 | _,_,0,.cons _ t=>.cons r t
 | _,_,i + 1,.cons q t=>.cons q (cO.set r i t)
theorem cO.erase:∀ {vs:List V} {ds:List D} (i:Nat),cO K ρ H vs ds->cO K ρ H (vs.eraseIdx i) (ds.eraseIdx i)
 | _,_,_,.nil=>.nil
 | _,_,0,.cons _ t=>t
 | _,_,i + 1,.cons q t=>.cons q (cO.erase i t)
theorem cO.flat {vs:List V} {ds:List D} (r:cO K ρ H vs ds):∀ n:Nat,cO K ρ H (List.replicate n vs).flatten (List.replicate n ds).flatten
 | 0=>.nil
 | n + 1=>by rw [List.replicate_succ,List.replicate_succ,List.flatten_cons,List.flatten_cons];exact r.append (r.flat n)
theorem cO.ints:∀ (ns:List Int),cO K ρ H (ns.map V.int) (ns.map D.int)
 | []=>.nil
 | n :: r=>.cons (.int n) (cO.ints r)
end
def Rs (K:PySem.W.Frag) (ρ:List Addr) (H:Hp) (σ:St) (δ:au):Prop:=σ.length=δ.length/\∀ (i:Nat) (d:D),δ[i]?=some (some d)->∃ v,σ[i]?=some (some v)/\Rp K ρ H v d
def Rk (K:PySem.W.Frag) (ρ:List Addr) (H:Hp):List (Key×V)->List (Key×D)->Prop:=Paired fun p q=>p.1=q.1/\Rp K ρ H p.2 q.2
def Ru (K:PySem.W.Frag) (ρ:List Addr) (H:Hp):List (List Int×D)->List (List Int×Addr×Value)->Prop:=Paired fun q x=>q.1=x.1/\eZ K H x.2.1 (x.1.map V.int)/\∃ v,RelV v x.2.2/\Rp K ρ H v q.2
def Xd (K:PySem.W.Frag) (ρ:List Addr) (H:Hp):Option Addr->List (Str×D)->Prop
 | none,fs=>fs=[]
 | some d,fs=>∃ ws,H d=some (.xd ws)/\∀ f e,fs.lookup f=some e->∃ v,ws.lookup f=some v/\Rp K ρ H v e
def uR (K:PySem.W.Frag) (ρ:List Addr) (H:Hp) (a:Addr):O->Prop
 | .lst ds=>∃ vs,H a=some (.lst vs)/\cO K ρ H vs ds
 | .nP ds=>∃ vs,Ay K H a vs/\cO K ρ H vs ds
 | .dct kvs=>∃ ws,H a=some (.dK ws)/\Rk K ρ H ws kvs
 | .D0 kvs=>∃ xs,H a=some (DU a xs)/\Ru K ρ H kvs xs
 | .exc c fs=>∃ C dx tr,PySem.W.nsIn K mainGlobals c=some (some (.ref C))/\H a=some (XO a C dx tr)/\Xd K ρ H dx fs
 | .any=>True
 | .jf lo hi=>H a=some (.jf lo hi)
def O.mut:O->Bool
 | .nP _=>false
 | .any=>false
 | _=>true
structure Rl (K:PySem.W.Frag) (ρ:List Addr) (H:Hp) (st:Store):Prop where
 len:ρ.length=st.length
 nd:∀ (i j:Nat) (a:Addr) (o o':O),ρ[i]?=some a->ρ[j]?=some a->st[i]?=some o->st[j]?=some o'->o.mut=true->o'.mut=true->i=j
 obj:∀ (i:Nat) (a:Addr) (o:O),ρ[i]?=some a->st[i]?=some o->uR K ρ H a o
section
variable {K:PySem.W.Frag} {ρ ρ' ρ2:List Addr} {H H' H2:Hp} {st st':Store} {a p:Addr} {i:Nat} {o o':O} {ho:HO} {σ:St} {δ:au}
theorem Rs.mn (h:Rs K ρ H σ δ) (m:Mn K ρ H ρ' H'):Rs K ρ' H' σ δ:=⟨h.1,fun i d e=>let ⟨v,e1,r⟩:=h.2 i d e;⟨v,e1,r.mn m⟩⟩
theorem Rk.mn (m:Mn K ρ H ρ' H') {ws:List (Key×V)} {kvs:List (Key×D)} (h:Rk K ρ H ws kvs):Rk K ρ' H' ws kvs:=by
 induction h with
 | nil=>exact .nil
 | cons a _ ih=>exact .cons ⟨a.1,a.2.mn m⟩ ih
theorem Ru.mn (m:Mn K ρ H ρ' H') {kvs:List (List Int×D)} {xs:List (List Int×Addr×Value)} (h:Ru K ρ H kvs xs):Ru K ρ' H' kvs xs:=by
 induction h with
 | nil=>exact .nil
 | cons a _ ih=>obtain ⟨a1,a2,v,a3,a4⟩:=a;exact .cons ⟨a1,m.t _ _ a2,v,a3,a4.mn m⟩ ih
theorem Xd.mn (m:Mn K ρ H ρ' H') {dx:Option Addr} {fs:List (Str×D)} (h:Xd K ρ H dx fs):Xd K ρ' H' dx fs:=by
 cases dx with
 | none=>exact h
 | some d=>obtain ⟨ws,e,q⟩:=h;exact ⟨ws,m.x _ _ e,fun f e' z=>let ⟨v,z1,z2⟩:=q f e' z;⟨v,z1,z2.mn m⟩⟩
theorem uR.keep (m:Mn K ρ H ρ' H') (h:∀ u,H a=some u->H' a=some u) (r:uR K ρ H a o):uR K ρ' H' a o:=by
 cases o with
 | lst ds=>obtain ⟨vs,e,q⟩:=r;exact ⟨vs,h _ e,q.mn m⟩
 | nP ds =>
  obtain ⟨vs,e,q⟩:=r
  refine ⟨vs,?_,q.mn m⟩
  rcases e with ⟨u,e⟩ | e
  ·exact .inl ⟨u,h _ e⟩
  ·exact .inr e
 | dct kvs=>obtain ⟨ws,e,q⟩:=r;exact ⟨ws,h _ e,q.mn m⟩
 | D0 kvs=>obtain ⟨ws,e,q⟩:=r;exact ⟨ws,h _ e,q.mn m⟩
 | exc c fs=>obtain ⟨C,dx,tr,n,e,q⟩:=r;exact ⟨C,dx,tr,n,h _ e,q.mn m⟩
 | any=>trivial
 | jf lo hi=>exact h _ r
theorem Mn.same (s:hU H H'):Mn K ρ H ρ H':=⟨fun _ _ h=>h,fun _ _ h=>(Kp.of_same (ch:=[]) s).Gq h,fun _ _ _ h=>s _ _ h,fun _ _ h=>s _ _ h⟩
theorem Rl.same (l:Rl K ρ H st) (s:hU H H'):Rl K ρ H' st:=⟨l.len,l.nd,fun i a o h1 h2=>(l.obj i a o h1 h2).keep (Mn.same s) fun u e=>s _ _ e⟩
theorem Rl.at (l:Rl K ρ H st) (h1:ρ[i]?=some a) (h2:st[i]?=some o) (hm:o.mut=true):∃ u,H a=some u/\∀ x y,u≠.mr x y:=by
 have r:=l.obj i a o h1 h2
 cases o with
 | lst ds=>obtain ⟨vs,e,_⟩:=r;exact ⟨_,e,fun x y z=>nomatch z⟩
 | nP ds=>cases hm
 | dct kvs=>obtain ⟨ws,e,_⟩:=r;exact ⟨_,e,fun x y z=>nomatch z⟩
 | D0 kvs=>obtain ⟨ws,e,_⟩:=r;exact ⟨_,e,fun x y z=>by cases z⟩
 | exc c fs=>obtain ⟨C,dx,tr,_,e,_⟩:=r;exact ⟨_,e,fun x y z=>by cases z⟩
 | any=>cases hm
 | jf lo hi=>exact ⟨_,r,fun x y z=>nomatch z⟩
theorem Mn.new (hp:H p=none):Mn K ρ H (ρ ++ [p]) (upd H p ho):=⟨fun i a h=>by
  obtain ⟨hi,_⟩:=List.getElem?_eq_some_iff.mp h
  rw [List.getElem?_append_left hi];exact h,fun _ _ h=>(Kp.of_same (ch:=[]) (hU.up hp)).Gq h,fun _ _ _ h=>hU.up hp _ _ h,fun _ _ h=>hU.up hp _ _ h⟩
theorem Rl.new (l:Rl K ρ H st) (hp:H p=none) (mk:uR K (ρ ++ [p]) (upd H p ho) p o):Rl K (ρ ++ [p]) (upd H p ho) (st ++ [o]):=by
 have m:Mn K ρ H (ρ ++ [p]) (upd H p ho):=Mn.new hp
 have split:∀ (i:Nat) (a:Addr) (o':O),(ρ ++ [p])[i]?=some a->(st ++ [o])[i]?=some o'->(ρ[i]?=some a/\st[i]?=some o')\/(i=ρ.length/\a=p/\o'=o):=fun i a o' h1 h2=>by
  by_cases hi:i < ρ.length
  ·rw [List.getElem?_append_left hi] at h1
   rw [List.getElem?_append_left (by rw [<- l.len];exact hi)] at h2
   exact .inl ⟨h1,h2⟩
  ·obtain ⟨hb,_⟩:=List.getElem?_eq_some_iff.mp h1
   rw [List.length_append,List.length_singleton] at hb
   have e:i=ρ.length:=by omega
   subst e
   rw [List.getElem?_append_right (Nat.le_refl _),Nat.sub_self] at h1
   rw [l.len,List.getElem?_append_right (Nat.le_refl _),Nat.sub_self] at h2
   exact .inr ⟨rfl,(Option.some.inj h1).symm,(Option.some.inj h2).symm⟩
 refine ⟨by rw [List.length_append,List.length_append,l.len];rfl,fun i j a u u' h1 h2 h3 h4 m1 m2=>?_,fun i a u h1 h2=>?_⟩
 ·rcases split i a u h1 h3 with ⟨g1,g2⟩ | ⟨rfl,rfl,rfl⟩ <;> rcases split j _ u' h2 h4 with ⟨k1,k2⟩ | ⟨k1,k2,k3⟩
  ·exact l.nd i j a u u' g1 k1 g2 k2 m1 m2
  ·subst k2
   obtain ⟨w,e,_⟩:=l.at g1 g2 m1
   rw [e] at hp;cases hp
  ·obtain ⟨w,e,_⟩:=l.at k1 k2 m2
   rw [e] at hp;cases hp
  ·exact k1.symm
 ·rcases split i a u h1 h2 with ⟨g1,g2⟩ | ⟨rfl,rfl,rfl⟩
  ·exact (l.obj i a u g1 g2).keep m fun w e=>hU.up hp _ _ e
  ·exact mk
theorem Rl.put (l:Rl K ρ H st) (hi:ρ[i]?=some a) (hs:st[i]?=some o) (hm:o.mut=true) (hm':o'.mut=true) (m:Mn K ρ H ρ (upd H a ho)) (r:uR K ρ (upd H a ho) a o'):Rl K ρ (upd H a ho) (st.set i o'):=by
 obtain ⟨w,ew,nf⟩:=l.at hi hs hm
 have PR:i < st.length:=(List.getElem?_eq_some_iff.mp hs).1
 have old:∀ (j:Nat) (u:O),(st.set i o')[j]?=some u->(j=i/\u=o')\/(j≠i/\st[j]?=some u):=fun j u h=>by
  by_cases hj:i=j
  ·subst hj
   rw [List.getElem?_set_self PR] at h
   exact .inl ⟨rfl,(Option.some.inj h).symm⟩
  ·rw [List.getElem?_set_ne hj] at h
   exact .inr ⟨fun z=>hj z.symm,h⟩
 refine ⟨by rw [List.length_set];exact l.len,fun j k b u u' h1 h2 h3 h4 m1 m2=>?_,fun j b u h1 h2=>?_⟩
 ·rcases old j u h3 with ⟨rfl,rfl⟩ | ⟨nj,g3⟩ <;> rcases old k u' h4 with ⟨rfl,rfl⟩ | ⟨nk,g4⟩
  ·rfl
  ·exact l.nd _ _ b o u' h1 h2 hs g4 hm m2
  ·exact l.nd _ _ b u o h1 h2 g3 hs m1 hm
  ·exact l.nd _ _ b u u' h1 h2 g3 g4 m1 m2
 ·rcases old j u h2 with ⟨rfl,rfl⟩ | ⟨nj,g2⟩
  ·rw [hi] at h1;cases h1;exact r
  ·by_cases hb:b=a
   ·subst hb
    cases u with
    | nP ds =>
     obtain ⟨vs,e,q⟩:=l.obj j b _ h1 g2
     refine ⟨vs,?_,q.mn m⟩
     rcases e with ⟨x,e⟩ | e
     ·rw [ew] at e;cases e;exact absurd rfl (nf _ _)
     ·exact .inr e
    | lst ds=>exact absurd (l.nd j i b _ o h1 hi g2 hs rfl hm) nj
    | D0 ds=>exact absurd (l.nd j i b _ o h1 hi g2 hs rfl hm) nj
    | exc c fs=>exact absurd (l.nd j i b _ o h1 hi g2 hs rfl hm) nj
    | dct ds=>exact absurd (l.nd j i b _ o h1 hi g2 hs rfl hm) nj
    | any=>trivial
    | jf lo up=>exact absurd (l.nd j i b _ o h1 hi g2 hs rfl hm) nj
   ·exact (l.obj j b u h1 g2).keep m fun w e=>by rw [jG hb];exact e
theorem Mn.put {xs:List V} (e:H a=some (.lst xs)):Mn K ρ H ρ (upd H a ho):=⟨fun _ _ h=>h,fun b vs h=>(Kp.put (ch:=[a]) (o:=ho) Kp.refl (by simp) e).Gq h,fun b o u h=>by rw [jG (fun z=>by rw [z,e] at h;cases h)];exact h,fun b ws h=>by rw [jG (fun z=>by rw [z,e] at h;cases h)];exact h⟩
theorem Mn.putD {ws:List (Key×V)} (e:H a=some (.dK ws)):Mn K ρ H ρ (upd H a ho):=⟨fun _ _ h=>h,fun b vs q=>by
 have ne:∀ u,H b=some u->(∀ w,u≠.dK w)->b≠a:=fun u hu n z=>by rw [z,e] at hu;cases hu;exact n _ rfl
 rcases q with (q | ⟨o,q⟩) | q
 ·exact .inl (.inl (by rw [jG (ne _ q fun w z=>nomatch z)];exact q))
 ·exact .inl (.inr ⟨o,by rw [jG (ne _ q fun w z=>nomatch z)];exact q⟩)
 ·exact .inr q,fun b o u h=>by rw [jG (fun z=>by rw [z,e] at h;cases h)];exact h,fun b ws h=>by rw [jG (fun z=>by rw [z,e] at h;cases h)];exact h⟩
theorem Rl.newL {vs:List V} {ds:List D} (l:Rl K ρ H st) (hp:H p=none) (r:cO K ρ H vs ds):Rl K (ρ ++ [p]) (upd H p (.lst vs)) (st ++ [.lst ds]):=l.new hp ⟨vs,pW,r.mn (Mn.new hp)⟩
theorem Rl.newD {vs:List (Key×V)} {ds:List (Key×D)} (l:Rl K ρ H st) (hp:H p=none) (r:Rk K ρ H vs ds):Rl K (ρ ++ [p]) (upd H p (.dK vs)) (st ++ [.dct ds]):=l.new hp ⟨vs,pW,r.mn (Mn.new hp)⟩
theorem newR (l:Rl K ρ H st) (v:D:=.ref st.length):(ρ ++ [p])[st.length]?=some p:=by rw [<- l.len,List.getElem?_append_right (Nat.le_refl _),Nat.sub_self];rfl
theorem Rl.putL {vs:List V} {ds xs:List D} (l:Rl K ρ H st) (hi:ρ[i]?=some a) (hs:st[i]?=some (.lst xs)) (r:cO K ρ H vs ds):Rl K ρ (upd H a (.lst vs)) (st.set i (.lst ds))/\Mn K ρ H ρ (upd H a (.lst vs)):=by
 obtain ⟨ws,e,_⟩:=l.obj i a _ hi hs
 have m:Mn K ρ H ρ (upd H a (.lst vs)):=Mn.put e
 exact ⟨l.put hi hs rfl rfl m ⟨vs,pW,r.mn m⟩,m⟩
theorem Rl.qQ {vs:List (Key×V)} {ds xs:List (Key×D)} (l:Rl K ρ H st) (hi:ρ[i]?=some a) (hs:st[i]?=some (.dct xs)) (r:Rk K ρ H vs ds):Rl K ρ (upd H a (.dK vs)) (st.set i (.dct ds))/\Mn K ρ H ρ (upd H a (.dK vs)):=by
 obtain ⟨ws,e,_⟩:=l.obj i a _ hi hs
 have m:Mn K ρ H ρ (upd H a (.dK vs)):=Mn.putD e
 exact ⟨l.put hi hs rfl rfl m ⟨vs,pW,r.mn m⟩,m⟩
def items (st:Store) (i:Nat):Option (List D):=match st[i]? with
 | some (.lst ds)=>some ds
 | some (.nP ds)=>some ds
 | _=>none
theorem Rl.items {ds:List D} (l:Rl K ρ H st) (hi:ρ[i]?=some a) (h:items st i=some ds):∃ vs,jg K H a vs/\cO K ρ H vs ds:=by
 unfold L4.items at h
 split at h
 ·next ds' hs=>cases h;obtain ⟨vs,e,r⟩:=l.obj i a _ hi hs;exact ⟨vs,.inl (.inl e),r⟩
 ·next ds' hs=>cases h;obtain ⟨vs,e,r⟩:=l.obj i a _ hi hs;exact ⟨vs,e.sq,r⟩
 ·cases h
end
def So (K:PySem.W.Frag) {α β:Type} (R:List Addr->Hp->α->β->Prop) (t:St->Hp->(α->Hp->Prop)->Prop) (f:au->Dm β):Prop :=
 ∀ (ρ:List Addr) (σ:St) (H:Hp) (δ:au) (st:Store) (b:β) (st':Store) (Q:α->Hp->Prop),Rl K ρ H st->Rs K ρ H σ δ->f δ st=some (b,st') ->
  (∀ a H' ρ',Mn K ρ H ρ' H'->Rl K ρ' H' st'->R ρ' H' a b->Q a H')->t σ H Q
abbrev fu (K:PySem.W.Frag) (t:TE) (f:au->Dm D):Prop:=So K (Rp K) t f
abbrev pL (K:PySem.W.Frag) (t:TT) (f:au->Dm Bool):Prop:=So K (fun _ _=>Eq) t f
abbrev pM (K:PySem.W.Frag) (t:TA) (f:au->Dm (List D)):Prop:=So K (cO K) t f
abbrev D3 (K:PySem.W.Frag) (t:TO) (f:au->Dm (Option Int)):Prop:=So K (fun _ _=>Eq) t f
def Hf (K:PySem.W.Frag) (r:V->Hp->VK->Prop) (g:D->Dm D):Prop :=
 ∀ (ρ:List Addr) (H:Hp) (st:Store) (x:V) (a:D) (b:D) (st':Store) (Q:VK),Rl K ρ H st->Rp K ρ H x a->g a st=some (b,st')->(∀ v H' ρ',Mn K ρ H ρ' H'->Rl K ρ' H' st'->Rp K ρ' H' v b->Q v H')->r x H Q
def mf (K:PySem.W.Frag) (r:R2) (g:D->D->Dm D):Prop :=
 ∀ (ρ:List Addr) (H:Hp) (st:Store) (x y:V) (a c:D) (b:D) (st':Store) (Q:VK),Rl K ρ H st->Rp K ρ H x a->Rp K ρ H y c->g a c st=some (b,st')->(∀ v H' ρ',Mn K ρ H ρ' H'->Rl K ρ' H' st'->Rp K ρ' H' v b->Q v H')->r x y H Q
def qh (K:PySem.W.Frag) (r:List V->Hp->VK->Prop) (g:List D->Dm D):Prop :=
 ∀ (ρ:List Addr) (H:Hp) (st:Store) (xs:List V) (as:List D) (b:D) (st':Store) (Q:VK),Rl K ρ H st->cO K ρ H xs as->g as st=some (b,st')->(∀ v H' ρ',Mn K ρ H ρ' H'->Rl K ρ' H' st'->Rp K ρ' H' v b->Q v H')->r xs H Q
def A3 (K:PySem.W.Frag) (T:String) (r:V->List V->Hp->VK->Prop) (g:D->List D->Dm D):Prop :=
 ∀ (ρ:List Addr) (H:Hp) (st:Store) (x:V) (xs:List V) (a:D) (as:List D) (b:D) (st':Store) (Q:VK),Rl K ρ H st->Rp K ρ H x a->cO K ρ H xs as->g a as st=some (b,st')->(∀ v H' ρ',Mn K ρ H ρ' H'->Rl K ρ' H' st'->Rp K ρ' H' v b->Q v H')->r x xs H Q
def bnd {α β:Type} (m:Option (α×Store)) (k:α->Dm β):Option (β×Store):=match m with
 | some (a,st)=>k a st
 | none=>none
theorem dA {α β:Type} {m:Option (α×Store)} {k:α->Dm β} {r:β×Store} (h:bnd m k=some r):∃ a st,m=some (a,st)/\k a st=some r:=by
 cases m with
 | none=>cases h
 | some p=>exact ⟨p.1,p.2,rfl,h⟩
section
variable {K:PySem.W.Frag}
def af (i:Nat):au->Dm D:=fun δ st=>match δ[i]? with
 | some (some d)=>some (d,st)
 | _=>none
theorem ai (i:Nat):fu K (vK i) (af i):=by
 intro ρ σ H δ st b st' Q l rs e q
 unfold af at e
 split at e
 ·next d hd=>cases e;obtain ⟨v,ev,r⟩:=rs.2 i _ hd;exact ⟨v,ev,q v H ρ .refl l r⟩
 ·cases e
def fC (d:D):au->Dm D:=fun _ st=>some (d,st)
theorem qR {v:V} {d:D} (h:∀ ρ H,Rp K ρ H v d):fu K (tC v) (fC d):=by
 intro ρ σ H δ st b st' Q l rs e q
 cases e
 exact q v H ρ .refl l (h ρ H)
theorem aH (i:Int):fu K (tC (.int i)) (fC (.int i)):=qR fun _ _=>.int i
theorem uS (b:Bool):fu K (tC (.bl b)) (fC (.bl b)):=qR fun _ _=>.bl b
theorem lV (x:Str):fu K (tC (.str x)) (fC (.str x)):=qR fun _ _=>.str x
theorem rR (n:String):fu K (tC (.ty n)) (fC (.ty n)):=qR fun _ _=>.ty n
def av (g:D->D->Dm D) (fa fb:au->Dm D):au->Dm D:=fun δ st=>bnd (fa δ st) fun a st1=>bnd (fb δ st1) fun b st2=>g a b st2
theorem ax {r:R2} {g:D->D->Dm D} {ta tb:TE} {fa fb:au->Dm D} (hr:mf K r g) (ha:fu K ta fa) (hb:fu K tb fb):fu K (Aa r ta tb) (av g fa fb):=by
 intro ρ σ H δ st b st' Q l rs e q
 obtain ⟨a,st1,e1,e⟩:=dA e
 obtain ⟨c,st2,e2,e⟩:=dA e
 refine ha ρ σ H δ st a st1 _ l rs e1 fun x H1 ρ1 m1 l1 r1=>hb ρ1 σ H1 δ st1 c st2 _ l1 (rs.mn m1) e2 fun y H2 ρ2 m2 l2 r2=>?_
 exact hr ρ2 H2 st2 x y a c b st' Q l2 (r1.mn m2) r2 e fun v H3 ρ3 m3 l3 r3=>q v H3 ρ3 ((m1.trans m2).trans m3) l3 r3
def oz (g:D->Dm D) (fa:au->Dm D):au->Dm D:=fun δ st=>bnd (fa δ st) fun a st1=>g a st1
theorem oX {r:V->Hp->VK->Prop} {g:D->Dm D} {ta:TE} {fa:au->Dm D} (hr:Hf K r g) (ha:fu K ta fa):fu K (Jl r ta) (oz g fa):=by
 intro ρ σ H δ st b st' Q l rs e q
 obtain ⟨a,st1,e1,e⟩:=dA e
 exact ha ρ σ H δ st a st1 _ l rs e1 fun x H1 ρ1 m1 l1 r1=>hr ρ1 H1 st1 x a b st' Q l1 r1 e fun v H3 ρ3 m3 l3 r3=>q v H3 ρ3 (m1.trans m3) l3 r3
def ah:au->Dm (List D):=fun _ st=>some ([],st)
def ae (fa:au->Dm D) (fr:au->Dm (List D)):au->Dm (List D):=fun δ st=>bnd (fa δ st) fun a st1=>bnd (fr δ st1) fun r st2=>some (a :: r,st2)
theorem az:pM K Ah ah:=by
 intro ρ σ H δ st b st' Q l rs e q
 cases e
 exact q [] H ρ .refl l .nil
theorem aq {ta:TE} {tr:TA} {fa:au->Dm D} {fr:au->Dm (List D)} (ha:fu K ta fa) (hr:pM K tr fr):pM K (uv ta tr) (ae fa fr):=by
 intro ρ σ H δ st b st' Q l rs e q
 obtain ⟨a,st1,e1,e⟩:=dA e
 obtain ⟨c,st2,e2,e⟩:=dA e
 cases e
 exact ha ρ σ H δ st a st1 _ l rs e1 fun x H1 ρ1 m1 l1 r1=>hr ρ1 σ H1 δ st1 c _ _ l1 (rs.mn m1) e2 fun y H2 ρ2 m2 l2 r2=>q _ H2 ρ2 (m1.trans m2) l2 (.cons (r1.mn m2) r2)
def lim (n:Nat):Bool:=Nat.ble n 100000
theorem yQ {n:Nat} (h:lim n=true):n<=sizeLine:=Nat.le_trans (Nat.le_of_ble_eq_true h) (by decide)
theorem Hg {n:Nat} (h:lim n=true):n < sizeLine:=Nat.lt_of_le_of_lt (Nat.le_of_ble_eq_true h) (by decide)
def bW (fa:au->Dm (List D)):au->Dm D:=fun δ st=>bnd (fa δ st) fun as st1=>if lim as.length=true then some (.tup as,st1) else none
theorem ik {ta:TA} {fa:au->Dm (List D)} (ha:pM K ta fa):fu K (Ai ta) (bW fa):=by
 intro ρ σ H δ st b st' Q l rs e q
 obtain ⟨as,st1,e1,e⟩:=dA e
 split at e
 ·next hl =>
  cases e
  refine ha ρ σ H δ st as _ _ l rs e1 fun xs H1 ρ1 m1 l1 r1=>⟨by rw [r1.length];exact yQ hl,fun p hp=>?_⟩
  have m2:Mn K ρ1 H1 ρ1 (upd H1 p (.tup xs)):=Mn.same (hU.up hp)
  exact q _ _ ρ1 (m1.trans m2) (l1.same (hU.up hp)) (.tup (eZ.of pW) (r1.mn m2))
 ·cases e
def c9 (fa:au->Dm (List D)):au->Dm D:=fun δ st=>bnd (fa δ st) fun as st1=>if lim as.length=true then some (.ref st1.length,st1 ++ [.lst as]) else none
theorem kK {ta:TA} {fa:au->Dm (List D)} (ha:pM K ta fa):fu K (Aj ta) (c9 fa):=by
 intro ρ σ H δ st b st' Q l rs e q
 obtain ⟨as,st1,e1,e⟩:=dA e
 split at e
 ·next hl =>
  cases e
  refine ha ρ σ H δ st as _ _ l rs e1 fun xs H1 ρ1 m1 l1 r1=>⟨by rw [r1.length];exact yQ hl,fun p hp=>?_⟩
  exact q _ _ _ (m1.trans (Mn.new hp)) (l1.newL hp r1) (.ref (newR l1))
 ·cases e
def aN (fa:au->Dm D):au->Dm Bool:=fun δ st=>bnd (fa δ st) fun a st1=>match a with
 | .bl b=>some (b,st1)
 | _=>none
theorem gq {ta:TE} {fa:au->Dm D} (ha:fu K ta fa):pL K (uu ta) (aN fa):=by
 intro ρ σ H δ st b st' Q l rs e q
 obtain ⟨a,st1,e1,e⟩:=dA e
 cases a <;> simp at e
 obtain ⟨rfl,rfl⟩:=e
 refine ha ρ σ H δ st _ _ _ l rs e1 fun x H1 ρ1 m1 l1 r1=>?_
 cases r1
 exact ⟨_,rfl,q _ H1 ρ1 m1 l1 rfl⟩
theorem A4 {ta:TE} {fa:au->Dm D} (ha:fu K ta fa):pL K (tB ta) (aN fa):=gq ha
def qa (fa:au->Dm Bool):au->Dm Bool:=fun δ st=>bnd (fa δ st) fun a st1=>some (!a,st1)
theorem Hi {ta:TT} {fa:au->Dm Bool} (ha:pL K ta fa):pL K (zO ta) (qa fa):=by
 intro ρ σ H δ st b st' Q l rs e q
 obtain ⟨a,st1,e1,e⟩:=dA e
 cases e
 exact ha ρ σ H δ st _ _ _ l rs e1 fun x H1 ρ1 m1 l1 r1=>q _ H1 ρ1 m1 l1 (by rw [r1])
def qb (fa fb:au->Dm Bool):au->Dm Bool:=fun δ st=>bnd (fa δ st) fun a st1=>if a=true then fb δ st1 else some (false,st1)
def yR (fa fb:au->Dm Bool):au->Dm Bool:=fun δ st=>bnd (fa δ st) fun a st1=>if a=true then some (true,st1) else fb δ st1
theorem Hj {ta tb:TT} {fa fb:au->Dm Bool} (ha:pL K ta fa) (hb:pL K tb fb):pL K (zN ta tb) (qb fa fb):=by
 intro ρ σ H δ st b st' Q l rs e q
 obtain ⟨a,st1,e1,e⟩:=dA e
 refine ha ρ σ H δ st _ _ _ l rs e1 fun x H1 ρ1 m1 l1 r1=>?_
 subst r1
 cases x with
 | true =>
  refine p5 ?_
  rw [if_pos rfl] at e
  exact hb ρ1 σ H1 δ st1 b st' _ l1 (rs.mn m1) e fun y H2 ρ2 m2 l2 r2=>q y H2 ρ2 (m1.trans m2) l2 r2
 | false =>
  refine p4 ?_
  rw [if_neg Bool.false_ne_true] at e
  cases e
  exact q _ H1 ρ1 m1 l1 rfl
theorem Hk {ta tb:TT} {fa fb:au->Dm Bool} (ha:pL K ta fa) (hb:pL K tb fb):pL K (Jf ta tb) (yR fa fb):=by
 intro ρ σ H δ st b st' Q l rs e q
 obtain ⟨a,st1,e1,e⟩:=dA e
 refine ha ρ σ H δ st _ _ _ l rs e1 fun x H1 ρ1 m1 l1 r1=>?_
 subst r1
 cases x with
 | false =>
  refine p4 ?_
  rw [if_neg Bool.false_ne_true] at e
  exact hb ρ1 σ H1 δ st1 b st' _ l1 (rs.mn m1) e fun y H2 ρ2 m2 l2 r2=>q y H2 ρ2 (m1.trans m2) l2 r2
 | true =>
  refine p5 ?_
  rw [if_pos rfl] at e
  cases e
  exact q _ H1 ρ1 m1 l1 rfl
def oA (fa fb:au->Dm D):au->Dm D:=fun δ st=>bnd (aN fa δ st) fun a st1=>if a=true then fb δ st1 else some (.bl false,st1)
def A5 (fa fb:au->Dm D):au->Dm D:=fun δ st=>bnd (aN fa δ st) fun a st1=>if a=true then some (.bl true,st1) else fb δ st1
def uT (fa:au->Dm D):au->Dm D:=fun δ st=>bnd (aN fa δ st) fun a st1=>some (.bl (!a),st1)
theorem PU {fa:au->Dm D} {δ:au} {st st1:Store} {b:Bool} (h:aN fa δ st=some (b,st1)):fa δ st=some (.bl b,st1):=by
 obtain ⟨a,st2,e1,e⟩:=dA h
 cases a <;> simp at e
 obtain ⟨rfl,rfl⟩:=e
 exact e1
theorem K8 {ta tb:TE} {fa fb:au->Dm D} (ha:fu K ta fa) (hb:fu K tb fb):fu K (ui ta tb) (oA fa fb):=by
 intro ρ σ H δ st b st' Q l rs e q
 obtain ⟨a,st1,e1,e⟩:=dA e
 refine ha ρ σ H δ st _ _ _ l rs (PU e1) fun x H1 ρ1 m1 l1 r1=>?_
 cases r1
 refine ⟨a,rfl,?_⟩
 cases a with
 | true =>
  refine p5 ?_
  rw [if_pos rfl] at e
  exact hb ρ1 σ H1 δ st1 b st' _ l1 (rs.mn m1) e fun y H2 ρ2 m2 l2 r2=>q y H2 ρ2 (m1.trans m2) l2 r2
 | false =>
  refine p4 ?_
  rw [if_neg Bool.false_ne_true] at e
  cases e
  exact q _ H1 ρ1 m1 l1 (.bl _)
def i5 {β:Type} (c:au->Dm Bool) (fa fb:au->Dm β):au->Dm β:=fun δ st=>bnd (c δ st) fun a st1=>if a=true then fa δ st1 else fb δ st1
def dM:au->Dm (Option Int):=fun _ st=>some (none,st)
def i6 (fa:au->Dm D):au->Dm (Option Int):=fun δ st=>bnd (fa δ st) fun a st1=>match a with
 | .int i=>some (some i,st1)
 | _=>none
theorem sZ:D3 K pq dM:=by
 intro ρ σ H δ st b st' Q l rs e q
 cases e
 exact q _ H ρ .refl l rfl
theorem tf {ta:TE} {fa:au->Dm D} (ha:fu K ta fa):D3 K (uy ta) (i6 fa):=by
 intro ρ σ H δ st b st' Q l rs e q
 obtain ⟨a,st1,e1,e⟩:=dA e
 cases a <;> simp at e
 obtain ⟨rfl,rfl⟩:=e
 refine ha ρ σ H δ st _ _ _ l rs e1 fun x H1 ρ1 m1 l1 r1=>?_
 cases r1
 exact ⟨_,rfl,q _ H1 ρ1 m1 l1 rfl⟩
def wX (K:PySem.W.Frag) (r:V->Option Int->Option Int->Hp->VK->Prop) (g:D->Option Int->Option Int->Dm D):Prop :=
 ∀ lo hi,Hf K (fun x=>r x lo hi) (fun a=>g a lo hi)
def qi (g:D->Option Int->Option Int->Dm D) (fa:au->Dm D) (fl fh:au->Dm (Option Int)):au->Dm D:=fun δ st=>bnd (fa δ st) fun a st1=>bnd (fl δ st1) fun lo st2=>bnd (fh δ st2) fun hi st3=>g a lo hi st3
theorem tj {r:V->Option Int->Option Int->Hp->VK->Prop} {g:D->Option Int->Option Int->Dm D} {ta:TE} {tl th:TO} {fa:au->Dm D} {fl fh:au->Dm (Option Int)} (hr:wX K r g) (ha:fu K ta fa) (hl:D3 K tl fl) (hh:D3 K th fh):fu K (JG r ta tl th) (qi g fa fl fh):=by
 intro ρ σ H δ st b st' Q l rs e q
 obtain ⟨a,st1,e1,e⟩:=dA e
 obtain ⟨lo,st2,e2,e⟩:=dA e
 obtain ⟨hi,st3,e3,e⟩:=dA e
 refine ha ρ σ H δ st a st1 _ l rs e1 fun x H1 ρ1 m1 l1 r1=>hl ρ1 σ H1 δ st1 lo st2 _ l1 (rs.mn m1) e2 fun y H2 ρ2 m2 l2 r2=>hh ρ2 σ H2 δ st2 hi st3 _ l2 (rs.mn (m1.trans m2)) e3 fun z H3 ρ3 m3 l3 r3=>?_
 subst r2 r3
 exact hr y z ρ3 H3 st3 x a b st' Q l3 (r1.mn (m2.trans m3)) e fun v H4 ρ4 m4 l4 r4=>q v H4 ρ4 (((m1.trans m2).trans m3).trans m4) l4 r4
def aP (g:List D->Dm D) (fa:au->Dm (List D)):au->Dm D:=fun δ st=>bnd (fa δ st) fun as st1=>g as st1
theorem bX {r:List V->Hp->VK->Prop} {g:List D->Dm D} {ta:TA} {fa:au->Dm (List D)} (hr:qh K r g) (ha:pM K ta fa):fu K (F4 r ta) (aP g fa):=by
 intro ρ σ H δ st b st' Q l rs e q
 obtain ⟨as,st1,e1,e⟩:=dA e
 exact ha ρ σ H δ st as st1 _ l rs e1 fun x H1 ρ1 m1 l1 r1=>hr ρ1 H1 st1 x as b st' Q l1 r1 e fun v H3 ρ3 m3 l3 r3=>q v H3 ρ3 (m1.trans m3) l3 r3
def bA (K:PySem.W.Frag) (n:Nat) (F:List D->Dm D):Sp:=fun vs H Q _=>vs.length=n/\∃ (ρ:List Addr) (st:Store) (ds:List D) (b:D) (st':Store),Rl K ρ H st/\cO K ρ H vs ds/\F ds st=some (b,st') /\
 ∀ v H' ρ',Mn K ρ H ρ' H'->Rl K ρ' H' st'->Rp K ρ' H' v b->Q v H'
theorem cE {n:Nat} {F:List D->Dm D} {ta:TA} {fa:au->Dm (List D)} {E:XK} (ha:pM K ta fa) (hn:∀ δ st as st',fa δ st=some (as,st')->as.length=n):fu K (uw (bA K n F) [] E ta) (aP F fa):=by
 intro ρ σ H δ st b st' Q l rs e q
 obtain ⟨as,st1,e1,e⟩:=dA e
 refine ha ρ σ H δ st as st1 _ l rs e1 fun vs H1 ρ1 m1 l1 r1=>⟨?_,ρ1,st1,as,b,st',l1,?_,e,fun v H3 ρ3 m3 l3 r3=>q v H3 ρ3 (m1.trans m3) l3 r3⟩
 ·rw [List.append_nil,r1.length];exact hn _ _ _ _ e1
 ·rw [List.append_nil];exact r1
theorem cF {δ:au} {st st':Store} {as:List D} (h:ah δ st=some (as,st')):as.length=0:=by cases h;rfl
theorem aU {fa:au->Dm D} {fr:au->Dm (List D)} {n:Nat} (hr:∀ δ st as st',fr δ st=some (as,st')->as.length=n):∀ δ st as st',ae fa fr δ st=some (as,st')->as.length=n + 1:=fun δ st as st' h=>by
 obtain ⟨a,st1,e1,e⟩:=dA h
 obtain ⟨c,st2,e2,e⟩:=dA e
 cases e
 rw [List.length_cons,hr _ _ _ _ e2]
end
end L4
namespace L4
open PySem PySem.Spec L2
section
variable {K:PySem.W.Frag}
def uU (h:Int->Int->D):D->D->Dm D
 | .int i,.int j,st=>some (h i j,st)
 | _,_,_=>none
theorem A6 {gv:Int->Int->V} {h:Int->Int->D} (hh:∀ i j ρ H,Rp K ρ H (gv i j) (h i j)):mf K (pY gv) (uU h):=by
 intro ρ H st x y a c b st' Q l rx ry e q
 unfold uU at e
 split at e
 ·cases e;cases rx;cases ry;exact ⟨_,_,rfl,rfl,q _ H ρ .refl l (hh _ _ ρ H)⟩
 ·cases e
def tm (c:Int->Int->Bool) (h:Int->Int->D):D->D->Dm D
 | .int i,.int j,st=>if c i j=true then some (h i j,st) else none
 | _,_,_=>none
theorem yS {C:Int->Int->Prop} {c:Int->Int->Bool} {gv:Int->Int->V} {h:Int->Int->D} (hc:∀ i j,c i j=true->C i j) (hh:∀ i j ρ H,Rp K ρ H (gv i j) (h i j)):mf K (rI C gv) (tm c h):=by
 intro ρ H st x y a d b st' Q l rx ry e q
 unfold tm at e
 split at e
 ·split at e
  ·next hcc=>cases e;cases rx;cases ry;exact ⟨_,_,rfl,rfl,hc _ _ hcc,q _ H ρ .refl l (hh _ _ ρ H)⟩
  ·cases e
 ·cases e
def cq:D->D->Dm D:=uU fun i j=>.int (i + j)
def eh:D->D->Dm D:=uU fun i j=>.int (i - j)
def jk:D->D->Dm D:=tm (fun i j=>decide (-18446744073709551616 < i/\i < 18446744073709551616) || decide (-18446744073709551616 < j/\j < 18446744073709551616)) fun i j=>.int (i * j)
def oB:D->D->Dm D:=tm (fun i j=>decide (0 < j/\j < 1073741824)) fun i j=>.int (i / j)
def ke:D->D->Dm D:=tm (fun i j=>decide (0 < j)) fun i j=>.int (i % j)
def qS:D->D->Dm D:=tm (fun i j=>decide (0<=j/\j<=1000000/\i.natAbs < 18446744073709551616)) fun i j=>.int (i ^ j.toNat)
def wY:D->D->Dm D:=uU fun i j=>.bl (decide (i < j))
def PV:D->D->Dm D:=uU fun i j=>.bl (decide (i<=j))
def uV:D->D->Dm D:=uU fun i j=>.bl (decide (j < i))
def Hl:D->D->Dm D:=uU fun i j=>.bl (decide (j<=i))
theorem i7:mf K (pY fun i j=>.int (i + j)) cq:=A6 fun _ _ _ _=>.int _
theorem mT:mf K (pY fun i j=>.int (i - j)) eh:=A6 fun _ _ _ _=>.int _
theorem pN:mf K (rI qz fun i j=>.int (i * j)) jk:=yS (fun i j h=>by
 rw [Bool.or_eq_true,decide_eq_true_eq,decide_eq_true_eq] at h
 exact h) fun _ _ _ _=>.int _
theorem K9:mf K (rI Ad fun i j=>.int (i / j)) oB:=yS (fun i j h=>of_decide_eq_true (p:=0 < j/\j < 1073741824) h) fun _ _ _ _=>.int _
theorem qj:mf K (rI (fun _ j=>0 < j) fun i j=>.int (i % j)) ke:=yS (fun i j h=>of_decide_eq_true h) fun _ _ _ _=>.int _
theorem La:mf K (rI Ae fun i j=>.int (i ^ j.toNat)) qS:=yS (fun i j h=>by have h:=of_decide_eq_true (p:=0<=j/\j<=1000000/\i.natAbs < 18446744073709551616) h;exact ⟨h.1,h.2.1,by omega⟩) fun _ _ _ _=>.int _
theorem A7:mf K (pY fun i j=>.bl (decide (i < j))) wY:=A6 fun _ _ _ _=>.bl _
theorem yT:mf K (pY fun i j=>.bl (decide (j < i))) uV:=A6 fun _ _ _ _=>.bl _
theorem A8:mf K (pY fun i j=>.bl (decide (j<=i))) Hl:=A6 fun _ _ _ _=>.bl _
def jc:D->Dm D
 | .int i,st=>some (.int (-i),st)
 | _,_=>none
theorem oY:Hf K (rU fun i=>.int (-i)) jc:=by
 intro ρ H st x a b st' Q l rx e q
 unfold jc at e
 split at e
 ·cases e;cases rx;exact ⟨_,rfl,q _ H ρ .refl l (.int _)⟩
 ·cases e
def sV:D->Option V
 | .non=>some .non
 | .bl b=>some (.bl b)
 | .int i=>some (.int i)
 | .str x=>some (.str x)
 | _=>none
theorem yU {ρ:List Addr} {H:Hp} {x v:V} {a:D} (r:Rp K ρ H x a) (h:sV a=some v):x=v:=by
 cases r <;> first | (cases h;rfl) | cases h
def hV (neg:Bool):D->D->Dm D:=fun a b st=>match sV a,sV b with
 | some x,some y=>if my x y=true then some (.bl (if neg then !decide (x=y) else decide (x=y)),st) else none
 | _,_=>none
theorem mE:mf K Jo (hV false):=by
 intro ρ H st x y a c b st' Q l rx ry e q
 unfold hV at e
 split at e
 ·next u v h1 h2 =>
  split at e
  ·next hs=>cases e;cases yU rx h1;cases yU ry h2;exact ⟨hs,q _ H ρ .refl l (.bl _)⟩
  ·cases e
 ·cases e
theorem uW:mf K Jp (hV true):=by
 intro ρ H st x y a c b st' Q l rx ry e q
 unfold hV at e
 split at e
 ·next u v h1 h2 =>
  split at e
  ·next hs=>cases e;cases yU rx h1;cases yU ry h2;exact ⟨hs,q _ H ρ .refl l (.bl _)⟩
  ·cases e
 ·cases e
def dN {α β:Type} (f:α->Option β):List α->Option (List β)
 | []=>some []
 | a :: r=>match f a,dN f r with
  | some b,some s=>some (b :: s)
  | _,_=>none
theorem yV {α β:Type} {f:α->Option β} {a:α} {r:List α} {s:List β} (h:dN f (a :: r)=some s):∃ b t,f a=some b/\dN f r=some t/\s=b :: t:=by
 unfold dN at h
 split at h
 ·next b t h1 h2=>cases h;exact ⟨b,t,h1,h2,rfl⟩
 ·cases h
theorem A9 {α β γ:Type} {f:α->Option β} {g:γ->α} {k:γ->β} (h:∀ c,f (g c)=some (k c)):∀ l:List γ,dN f (l.map g)=some (l.map k)
 | []=>rfl
 | c :: r=>by
  show dN f (g c :: r.map g)=_
  unfold dN
  rw [h c,A9 h r]
  rfl
def mF (st:Store):Nat->D->Option PyData
 | 0,_=>none
 | _ + 1,.non=>some .none
 | _ + 1,.bl b=>some (.bool b)
 | _ + 1,.int i=>some (.int i)
 | _ + 1,.str x=>some (.str x)
 | _ + 1,.ty _=>none
 | n + 1,.tup ds=>(dN (mF st n) ds).map PyData.tuple
 | n + 1,.ref i=>match items st i with
  | some ds=>(dN (mF st n) ds).map PyData.list
  | none=>none
theorem Hm {ρ:List Addr} {H:Hp} {st:Store} (l:Rl K ρ H st):∀ (n:Nat) {v:V} {d:D} {p:PyData},Rp K ρ H v d->mF st n d=some p->Rep K H v p
 | 0,_,_,_,_,h=>by simp [mF] at h
 | n + 1,v,d,p,r,h=>by
  have all:∀ {vs:List V} {ds:List D} {ps:List PyData},cO K ρ H vs ds->dN (mF st n) ds=some ps->mC K H vs ps:=by
   intro vs ds ps rr
   induction vs generalizing ds ps with
   | nil=>intro hm;cases rr;cases hm;exact .nil
   | cons w ws ih =>
    intro hm
    cases rr with
    | cons ra rb =>
     obtain ⟨b,t,h1,h2,rfl⟩:=yV hm
     exact .cons (Hm l n ra h1) (ih rb h2)
  cases r with
  | non=>simp [mF] at h;subst h;exact .non
  | bl b=>simp [mF] at h;subst h;exact .bl b
  | int i=>simp [mF] at h;subst h;exact .int i
  | str x=>simp [mF] at h;subst h;exact .str x
  | ty n=>simp [mF] at h
  | ref hi =>
   simp only [mF] at h
   split at h
   ·next ds hd =>
    obtain ⟨ps,h1,rfl⟩:=Option.map_eq_some_iff.mp h
    obtain ⟨vs,e,rr⟩:=l.items hi hd
    exact .lst e (all rr h1)
   ·cases h
  | tup q rr =>
   simp only [mF] at h
   obtain ⟨ps,h1,rfl⟩:=Option.map_eq_some_iff.mp h
   exact .tup q (all rr h1)
def jl (neg:Bool):D->D->Dm D:=fun a b st=>match mF st 20 a,mF st 20 b with
 | some p,some q=>if (PyData.canLay0 p && PyData.canLay0 q && decide (min p.depth q.depth<=60))=true then some (.bl (if neg then !PyData.eqv p q else PyData.eqv p q),st) else none
 | _,_=>none
theorem yW (neg:Bool):mf K (wm K neg) (jl neg):=by
 intro ρ H st x y a c b st' Q l rx ry e q
 unfold jl at e
 split at e
 ·next u v h1 h2 =>
  split at e
  ·next hs =>
   cases e
   rw [Bool.and_eq_true,Bool.and_eq_true,decide_eq_true_eq] at hs
   exact ⟨u,v,Hm l 20 rx h1,Hm l 20 ry h2,hs.1.1,hs.1.2,hs.2,q _ H ρ .refl l (.bl _)⟩
  ·cases e
 ·cases e
theorem at_of {ρ:List Addr} {H:Hp} {vs:List V} {ds:List D} {i:Int} {d:D} (r:cO K ρ H vs ds) (h:gj ds i=some d):∃ v,gj vs i=some v/\Rp K ρ H v d:=by
 unfold gj at h ⊢
 rw [r.length]
 cases hx:j5 ds.length i with
 | none=>rw [hx] at h;cases h
 | some j =>
  rw [hx] at h
  exact r.got h
def aF:D->D->Dm D
 | .tup ds,.int i,st=>match gj ds i with
  | some d=>some (d,st)
  | none=>none
 | _,_,_=>none
theorem bF:mf K (vX K) aF:=by
 intro ρ H st x y a c b st' Q l rx ry e q
 unfold aF at e
 split at e
 ·split at e
  ·next d hd =>
   cases e
   cases ry
   cases rx with
   | tup s r =>
    obtain ⟨v,hv,rv⟩:=at_of r hd
    exact ⟨_,_,_,v,rfl,rfl,s,hv,q v H ρ .refl l rv⟩
  ·cases e
 ·cases e
def da:D->D->Dm D
 | .ref r,.int i,st=>match items st r with
  | some ds=>match gj ds i with
   | some d=>some (d,st)
   | none=>none
  | none=>none
 | _,_,_=>none
theorem kL:mf K (vW K) da:=by
 intro ρ H st x y a c b st' Q l rx ry e q
 unfold da at e
 split at e
 ·split at e
  ·next ds hi =>
   split at e
   ·next d hd =>
    cases e
    cases ry
    cases rx with
    | ref hr =>
     obtain ⟨vs,s,r⟩:=l.items hr hi
     obtain ⟨v,hv,rv⟩:=at_of r hd
     exact ⟨_,_,_,v,rfl,rfl,s,hv,q v H ρ .refl l rv⟩
   ·cases e
  ·cases e
 ·cases e
def wZ:D->D->Dm D
 | .str z,.int i,st=>if lim z.length=true then match gj z.cps.toList i with
   | some c=>some (.str ⟨#[c]⟩,st)
   | none=>none
  else none
 | _,_,_=>none
def cutD (xs:List D) (lo hi:Option Int):List D:=(xs.drop (HT.cP xs.length 0 lo)).take (HT.cP xs.length xs.length hi - HT.cP xs.length 0 lo)
theorem cO.cut {ρ:List Addr} {H:Hp} {vs:List V} {ds:List D} (r:cO K ρ H vs ds) (lo hi:Option Int):cO K ρ H (mB vs lo hi) (cutD ds lo hi):=by
 unfold mB cutD
 rw [r.length]
 exact (r.drop _).take _
def oZ:D->Option Int->Option Int->Dm D
 | .tup ds,lo,hi,st=>some (.tup (cutD ds lo hi),st)
 | _,_,_,_=>none
theorem got {ρ:List Addr} {H:Hp} {st:Store} {vs:List V} {ds:List D} {Q:VK} (l:Rl K ρ H st) (r:cO K ρ H vs ds) (q:∀ v H' ρ',Mn K ρ H ρ' H'->Rl K ρ' H' st->Rp K ρ' H' v (.tup ds)->Q v H'):oT K H vs Q :=
 fun p H' s e=>q _ H' ρ (Mn.same e) (l.same e) (.tup s (r.mn (Mn.same e)))
theorem Ba:wX K (uI K) oZ:=by
 intro lo hi ρ H st x a b st' Q l rx e q
 cases a with
 | tup ds =>
  cases e
  cases rx with
  | tup s r=>exact ⟨_,_,rfl,s,got l (r.cut lo hi) q⟩
 | _=>cases e
def o3:D->Option Int->Option Int->Dm D
 | .ref r,lo,hi,st=>match items st r with
  | some ds=>some (.ref st.length,st ++ [.lst (cutD ds lo hi)])
  | none=>none
 | _,_,_,_=>none
theorem D4:wX K (Ao K) o3:=by
 intro lo hi ρ H st x a b st' Q l rx e q
 cases a with
 | ref i =>
  simp only [o3] at e
  split at e
  ·next ds hd =>
   cases e
   cases rx with
   | ref hr =>
    obtain ⟨vs,s,r⟩:=l.items hr hd
    exact ⟨_,_,rfl,s,fun p hp=>q _ _ _ (Mn.new hp) (l.newL hp (r.cut lo hi)) (.ref (newR l))⟩
  ·cases e
 | _=>cases e
def jm:D->D->Dm D
 | .tup a,.tup b,st=>if lim (a.length + b.length)=true then some (.tup (a ++ b),st) else none
 | _,_,_=>none
theorem uX:mf K (qH K) jm:=by
 intro ρ H st x y a c b st' Q l rx ry e q
 unfold jm at e
 split at e
 ·split at e
  ·next hl =>
   cases e
   cases rx with
   | tup s r =>
    cases ry with
    | tup s' r'=>exact ⟨_,_,_,_,rfl,rfl,s,s',by rw [r.length,r'.length];exact yQ hl,got l (r.append r') q⟩
  ·cases e
 ·cases e
def own (st:Store) (i:Nat):Option (List D):=match st[i]? with
 | some (.lst ds)=>some ds
 | _=>none
theorem qk {st:Store} {i:Nat} {ds:List D} (h:own st i=some ds):st[i]?=some (.lst ds):=by
 unfold own at h
 split at h
 ·next ds' hs=>cases h;exact hs
 ·cases h
def kM:D->D->Dm D
 | .ref i,.ref j,st=>match own st i,own st j with
  | some a,some b=>if lim (a.length + b.length)=true then some (.ref st.length,st ++ [.lst (a ++ b)]) else none
  | _,_=>none
 | _,_,_=>none
theorem qT:mf K Ar kM:=by
 intro ρ H st x y a c b st' Q l rx ry e q
 unfold kM at e
 split at e
 ·split at e
  ·next a b h1 h2 =>
   split at e
   ·next hl =>
    cases e
    cases rx with
    | ref hi =>
     cases ry with
     | ref hj =>
      obtain ⟨vs,e1,r1⟩:=l.obj _ _ _ hi (qk h1)
      obtain ⟨ws,e2,r2⟩:=l.obj _ _ _ hj (qk h2)
      exact ⟨_,_,_,_,rfl,rfl,e1,e2,by rw [r1.length,r2.length];exact yQ hl,fun p hp=>q _ _ _ (Mn.new hp) (l.newL hp (r1.append r2)) (.ref (newR l))⟩
   ·cases e
  ·cases e
 ·cases e
def nQ:D->D->Dm D
 | .ref i,.int k,st=>match own st i with
  | some a=>if (decide (-9223372036854775808<=k/\k < 9223372036854775808) && lim (a.length * k.toNat))=true then some (.ref st.length,st ++ [.lst (List.replicate k.toNat a).flatten]) else none
  | _=>none
 | _,_,_=>none
theorem Lb {ρ:List Addr} {H:Hp}:∀ {ws vs:List V} {ds:List D},cO K ρ H ws ds->dN sV ds=some vs->ws=vs
 | _,_,_,.nil,h=>by cases h;rfl
 | _,_,_,.cons a b,h=>by
  obtain ⟨x,t,h1,h2,rfl⟩:=yV h
  rw [yU a h1,Lb b h2]
theorem Lc {a:D} {v:V} (h:sV a=some v):j6 v=true:=by cases a <;> first | (cases h;rfl) | cases h
theorem Ld:∀ {ds:List D} {vs:List V},dN sV ds=some vs->vs.all j6=true
 | [],_,h=>by cases h;rfl
 | d :: r,_,h=>by
  obtain ⟨x,t,h1,h2,rfl⟩:=yV h
  rw [List.all_cons,Lc h1,Ld h2];rfl
def dO (st:Store):D->Option (List D)
 | .tup ds=>some ds
 | .ref i=>items st i
 | _=>none
theorem D5 {ρ:List Addr} {H:Hp} {st:Store} {x:V} {a:D} {ds:List D} (l:Rl K ρ H st) (r:Rp K ρ H x a) (h:dO st a=some ds):∃ p vs,x=.ref p/\(jg K H p vs\/eZ K H p vs)/\cO K ρ H vs ds:=by
 cases r <;> first | (cases h;done) | skip
 ·next hi=>obtain ⟨vs,s,r⟩:=l.items hi h;exact ⟨_,vs,rfl,.inl s,r⟩
 ·next s r=>cases h;exact ⟨_,_,rfl,.inr s,r⟩
def rS (neg:Bool):D->D->Dm D:=fun a c st=>match sV a,(dO st c).bind (dN sV) with
 | some x,some vs=>some (.bl (if neg then !uB x vs else uB x vs),st)
 | _,_=>none
theorem Hn (neg:Bool):mf K (Gb K neg) (rS neg):=by
 intro ρ H st x y a c b st' Q l rx ry e q
 unfold rS at e
 split at e
 ·next u vs h1 h2 =>
  cases e
  obtain ⟨ds,h3,h4⟩:=Option.bind_eq_some_iff.mp h2
  obtain ⟨p,ws,rfl,s,r⟩:=D5 l ry h3
  cases yU rx h1
  cases Lb r h4
  exact ⟨p,_,rfl,s,Lc h1,Ld h4,q _ H ρ .refl l (.bl _)⟩
 ·cases e
theorem cO.one' {ρ:List Addr} {H:Hp} {vs:List V} {d:D} (r:cO K ρ H vs [d]):∃ v,vs=[v]/\Rp K ρ H v d:=by cases r with | cons a b=>cases b;exact ⟨_,rfl,a⟩
theorem cO.two' {ρ:List Addr} {H:Hp} {vs:List V} {d e:D} (r:cO K ρ H vs [d,e]):∃ v w,vs=[v,w]/\Rp K ρ H v d/\Rp K ρ H w e:=by
 cases r with
 | cons a b=>obtain ⟨w,rfl,r⟩:=b.one';exact ⟨_,_,rfl,a,r⟩
def dP:List D->Dm D
 | [a],st=>match dO st a with
  | some ds=>some (.int ds.length,st)
  | none=>none
 | _,_=>none
theorem lL:qh K (fun xs H Q=>∃ p ys,xs=[.ref p]/\(jg K H p ys\/eZ K H p ys)/\Q (.int ys.length) H) dP:=by
 intro ρ H st xs as b st' Q l rx e q
 unfold dP at e
 split at e
 ·split at e
  ·next ds hd =>
   cases e
   obtain ⟨v,rfl,r⟩:=rx.one'
   obtain ⟨p,vs,rfl,s,r⟩:=D5 l r hd
   exact ⟨p,vs,rfl,s,q _ H ρ .refl l (by rw [r.length];exact .int _)⟩
  ·cases e
 ·cases e
def lM:List D->Dm D
 | [a],st=>match dO st a with
  | some ds=>some (.ref st.length,st ++ [.lst ds])
  | none=>none
 | _,_=>none
theorem Bb:qh K (fun xs H Q=>∃ p ys,xs=[.ref p]/\(jg K H p ys\/eZ K H p ys)/\∀ l,H l=none->Q (.ref l) (upd H l (.lst ys))) lM:=by
 intro ρ H st xs as b st' Q l rx e q
 unfold lM at e
 split at e
 ·split at e
  ·next ds hd =>
   cases e
   obtain ⟨v,rfl,r⟩:=rx.one'
   obtain ⟨p,vs,rfl,s,r⟩:=D5 l r hd
   exact ⟨p,vs,rfl,s,fun p hp=>q _ _ _ (Mn.new hp) (l.newL hp r) (.ref (newR l))⟩
  ·cases e
 ·cases e
def bY:List D->Dm D
 | [a],st=>match dO st a with
  | some ds=>some (.tup ds,st)
  | none=>none
 | _,_=>none
theorem n8:qh K (fun xs H Q=>∃ p ys,xs=[.ref p]/\((jg K H p ys/\∀ l,H l=none->Q (.ref l) (upd H l (.tup ys)))\/(eZ K H p ys/\Q (.ref p) H))) bY:=by
 intro ρ H st xs as b st' Q l rx e q
 unfold bY at e
 split at e
 ·split at e
  ·next ds hd =>
   cases e
   obtain ⟨v,rfl,r⟩:=rx.one'
   obtain ⟨p,vs,rfl,s,r'⟩:=D5 l r hd
   refine ⟨p,vs,rfl,?_⟩
   rcases s with s | s
   ·exact .inl ⟨s,(got l r' q).new⟩
   ·exact .inr ⟨s,(got l r' q).it s⟩
  ·cases e
 ·cases e
def nc:List D->Dm D
 | [.int i,.int j],st=>some (.int (if j > i then j else i),st)
 | _,_=>none
def Bc:List D->Dm D
 | [.int i,.int j],st=>some (.int (if j < i then j else i),st)
 | _,_=>none
theorem Ho:qh K (fun xs H Q=>∃ i j,xs=[.int i,.int j]/\Q (.int (if j > i then j else i)) H) nc:=by
 intro ρ H st xs as b st' Q l rx e q
 unfold nc at e
 split at e
 ·cases e
  obtain ⟨v,w,rfl,r1,r2⟩:=rx.two'
  cases r1;cases r2
  exact ⟨_,_,rfl,q _ H ρ .refl l (.int _)⟩
 ·cases e
def j7:List D->Dm D
 | [.int i],st=>some (.int i,st)
 | [.bl k],st=>some (.int (if k then 1 else 0),st)
 | _,_=>none
theorem yX:qh K (fun xs H Q=>(∃ i,xs=[.int i]/\Q (.int i) H)\/∃ k,xs=[.bl k]/\Q (.int (if k then 1 else 0)) H) j7:=by
 intro ρ H st xs as b st' Q l rx e q
 unfold j7 at e
 split at e
 ·cases e
  obtain ⟨v,rfl,r⟩:=rx.one'
  cases r
  exact .inl ⟨_,rfl,q _ H ρ .refl l (.int _)⟩
 ·cases e
  obtain ⟨v,rfl,r⟩:=rx.one'
  cases r
  exact .inr ⟨_,rfl,q _ H ρ .refl l (.int _)⟩
 ·cases e
def jK:List D->Dm D
 | [.int j],st=>some (.ref st.length,st ++ [.jf 0 j])
 | _,_=>none
def fw:List D->Dm D
 | [.int i,.int j],st=>some (.ref st.length,st ++ [.jf i j])
 | _,_=>none
theorem Hq:qh K (fun xs H Q=>∃ j:Int,xs=[.int j]/\∀ p,H p=none->Q (.ref p) (upd H p (.jf 0 j))) jK:=by
 intro ρ H st xs as b st' Q l rx e q
 unfold jK at e
 split at e
 ·cases e
  obtain ⟨v,rfl,r⟩:=rx.one'
  cases r
  exact ⟨_,rfl,fun p hp=>q _ _ _ (Mn.new hp) (l.new hp (show uR K _ _ p (.jf _ _) from pW)) (.ref (newR l))⟩
 ·cases e
theorem yZ:qh K (fun xs H Q=>∃ i j:Int,xs=[.int i,.int j]/\∀ p,H p=none->Q (.ref p) (upd H p (.jf i j))) fw:=by
 intro ρ H st xs as b st' Q l rx e q
 unfold fw at e
 split at e
 ·cases e
  obtain ⟨v,w,rfl,r1,r2⟩:=rx.two'
  cases r1;cases r2
  exact ⟨_,_,rfl,fun p hp=>q _ _ _ (Mn.new hp) (l.new hp (show uR K _ _ p (.jf _ _) from pW)) (.ref (newR l))⟩
 ·cases e
def aD (lo:Int) (n:Nat):List D:=(List.range n).map fun (k:Nat)=>D.int (lo + k)
theorem PX {ρ:List Addr} {H:Hp} (lo:Int) (n:Nat):cO K ρ H (fU lo n) (aD lo n):=by
 unfold fU aD
 induction (List.range n) with
 | nil=>exact .nil
 | cons a r ih=>exact .cons (.int _) ih
def qc (lo hi:Int):Bool:=decide (-4611686018427387904<=lo/\lo < 4611686018427387904/\-4611686018427387904<=hi/\hi < 4611686018427387904) && lim (hi - lo).toNat
theorem Le {lo hi:Int} (h:qc lo hi=true):(-(2 ^ 62)<=lo/\lo < 2 ^ 62/\-(2 ^ 62)<=hi/\hi < 2 ^ 62)/\(hi - lo).toNat<=2 ^ 24:=by
 unfold qc at h
 rw [Bool.and_eq_true,decide_eq_true_eq] at h
 exact ⟨by omega,Nat.le_trans (Nat.le_of_ble_eq_true h.2) (by decide)⟩
def i9 (st:Store):D->Option (Int×Int)
 | .ref i=>match st[i]? with
  | some (.jf lo hi)=>some (lo,hi)
  | _=>none
 | _=>none
theorem w6 {ρ:List Addr} {H:Hp} {st:Store} {x:V} {a:D} {lo hi:Int} (l:Rl K ρ H st) (r:Rp K ρ H x a) (h:i9 st a=some (lo,hi)):∃ p,x=.ref p/\H p=some (.jf lo hi):=by
 cases r <;> first | (cases h;done) | skip
 ·next hi' =>
  simp only [i9] at h
  split at h
  ·next lo' PY hs=>cases h;exact ⟨_,rfl,l.obj _ _ _ hi' hs⟩
  ·cases h
def e7:List D->Dm D
 | [a],st=>match i9 st a with
  | some (lo,hi)=>if qc lo hi=true then some (.ref st.length,st ++ [.lst (aD lo (hi - lo).toNat)]) else none
  | none=>none
 | _,_=>none
theorem tq:qh K (fun xs H Q=>∃ p lo hi,xs=[.ref p]/\H p=some (.jf lo hi)/\(-(2 ^ 62)<=lo/\lo < 2 ^ 62/\-(2 ^ 62)<=hi/\hi < 2 ^ 62)/\(hi - lo).toNat<=2 ^ 24 /\
  ∀ l,H l=none->Q (.ref l) (upd H l (.lst (fU lo (hi - lo).toNat)))) e7:=by
 intro ρ H st xs as b st' Q l rx e q
 unfold e7 at e
 split at e
 ·split at e
  ·next lo hi hd =>
   split at e
   ·next ok =>
    cases e
    obtain ⟨v,rfl,r⟩:=rx.one'
    obtain ⟨p,rfl,s⟩:=w6 l r hd
    exact ⟨p,lo,hi,rfl,s,(Le ok).1,(Le ok).2,fun p hp=>q _ _ _ (Mn.new hp) (l.newL hp (PX lo _)) (.ref (newR l))⟩
   ·cases e
  ·cases e
 ·cases e
def tu:List D->Dm D
 | [a],st=>match i9 st a with
  | some (lo,hi)=>if qc lo hi=true then some (.tup (aD lo (hi - lo).toNat),st) else none
  | none=>none
 | _,_=>none
def iV:D->Option Int
 | .int i=>some i
 | _=>none
theorem Hr {ρ:List Addr} {H:Hp}:∀ {ws:List V} {ds:List D} {ns:List Int},cO K ρ H ws ds->dN iV ds=some ns->ws=ns.map V.int
 | _,_,_,.nil,h=>by cases h;rfl
 | _,_,_,.cons a b,h=>by
  obtain ⟨x,t,h1,h2,rfl⟩:=yV h
  rw [Hr b h2]
  cases a <;> first | (cases h1;rfl) | cases h1
def bV:D->Option Bool
 | .bl i=>some i
 | _=>none
theorem Lf {ρ:List Addr} {H:Hp}:∀ {ws:List V} {ds:List D} {ns:List Bool},cO K ρ H ws ds->dN bV ds=some ns->ws=ns.map V.bl
 | _,_,_,.nil,h=>by cases h;rfl
 | _,_,_,.cons a b,h=>by
  obtain ⟨x,t,h1,h2,rfl⟩:=yV h
  rw [Lf b h2]
  cases a <;> first | (cases h1;rfl) | cases h1
def qd:List D->Dm D
 | [.ref i],st=>match (items st i).bind (dN bV) with
  | some bs=>some (.bl (bs.all id),st)
  | none=>none
 | _,_=>none
theorem w8:qh K (fun xs H Q=>∃ (p:Addr) (bs:List Bool),xs=[.ref p]/\jg K H p (bs.map V.bl)/\Q (.bl (bs.all id)) H) qd:=by
 intro ρ H st xs as b st' Q l rx e q
 unfold qd at e
 split at e
 ·split at e
  ·next bs hd =>
   cases e
   obtain ⟨v,rfl,r⟩:=rx.one'
   obtain ⟨ds,h3,h4⟩:=Option.bind_eq_some_iff.mp hd
   cases r with
   | ref hi =>
    obtain ⟨vs,s,r⟩:=l.items hi h3
    cases Lf r h4
    exact ⟨_,bs,rfl,s,q _ H ρ .refl l (.bl _)⟩
  ·cases e
 ·cases e
def uY (T:String) (st:Store):D->Bool
 | .str _=>T == "str"
 | .tup _=>T == "tuple"
 | .ref i=>T == "list" && (items st i).isSome
 | _=>false
theorem xa {ρ:List Addr} {H:Hp} {st:Store} {x:V} {a:D} {T:String} (l:Rl K ρ H st) (r:Rp K ρ H x a) (h:uY T st a=true):Gd K T x H:=by
 cases r <;> first | (cases h;done) | skip
 ·exact eq_of_beq h
 ·next hi =>
  simp only [uY,Bool.and_eq_true] at h
  obtain ⟨ds,hd⟩:=Option.isSome_iff_exists.mp h.2
  obtain ⟨vs,s,_⟩:=l.items hi hd
  exact .inl ⟨eq_of_beq h.1,vs,s⟩
 ·next s r=>exact .inr (.inl ⟨eq_of_beq h,_,s⟩)
def oC (T:String) (g:D->List D->Dm D) (fo:au->Dm D) (fa:au->Dm (List D)):au->Dm D:=fun δ st=>bnd (fo δ st) fun o st1=>if uY T st1 o=true then bnd (fa δ st1) fun as st2=>g o as st2 else none
theorem pO {T:String} {r:V->List V->Hp->VK->Prop} {g:D->List D->Dm D} {to:TE} {ta:TA} {fo:au->Dm D} {fa:au->Dm (List D)} (hr:A3 K T r g) (ho:fu K to fo) (ha:pM K ta fa):fu K (Ge K T r to ta) (oC T g fo fa):=by
 intro ρ σ H δ st b st' Q l rs e q
 obtain ⟨o,st1,e1,e⟩:=dA e
 split at e
 ·next ht =>
  obtain ⟨as,st2,e2,e⟩:=dA e
  refine ho ρ σ H δ st o st1 _ l rs e1 fun x H1 ρ1 m1 l1 r1=>⟨xa l1 r1 ht,ha ρ1 σ H1 δ st1 as st2 _ l1 (rs.mn m1) e2 fun xs H2 ρ2 m2 l2 r2=>?_⟩
  exact hr ρ2 H2 st2 x xs o as b st' Q l2 (r1.mn m2) r2 e fun v H3 ρ3 m3 l3 r3=>q v H3 ρ3 ((m1.trans m2).trans m3) l3 r3
 ·cases e
def de:D->List D->Dm D
 | .ref i,[y],st=>match own st i with
  | some xs=>if lim xs.length=true then some (.non,st.set i (.lst (xs ++ [y]))) else none
  | none=>none
 | _,_,_=>none
theorem tw:A3 K "list" pA de:=by
 intro ρ H st x xs a as b st' Q l rx xb e q
 unfold de at e
 split at e
 ·split at e
  ·next ys hy =>
   split at e
   ·next hl =>
    cases e
    obtain ⟨v,rfl,r⟩:=xb.one'
    cases rx with
    | ref hi =>
     obtain ⟨vs,e1,r1⟩:=l.obj _ _ _ hi (qk hy)
     obtain ⟨l2,m2⟩:=l.putL hi (qk hy) (r1.append (.one r))
     exact ⟨_,vs,v,rfl,rfl,e1,by rw [r1.length];exact Hg hl,q _ _ ρ m2 l2 .non⟩
   ·cases e
  ·cases e
 ·cases e
def jL:D->List D->Dm D
 | .ref i,[.ref j],st=>match own st i,own st j with
  | some xs,some ys=>if lim (xs.length + ys.length)=true then some (.non,st.set i (.lst (xs ++ ys))) else none
  | _,_=>none
 | _,_,_=>none
theorem PZ:A3 K "list" pB jL:=by
 intro ρ H st x xs a as b st' Q l rx xb e q
 unfold jL at e
 split at e
 ·split at e
  ·next xs' ys hx hy =>
   split at e
   ·next hl =>
    cases e
    obtain ⟨v,rfl,r⟩:=xb.one'
    cases rx with
    | ref hi =>
     cases r with
     | ref hj =>
      obtain ⟨vs,e1,r1⟩:=l.obj _ _ _ hi (qk hx)
      obtain ⟨ws,e2,r2⟩:=l.obj _ _ _ hj (qk hy)
      obtain ⟨l2,m2⟩:=l.putL hi (qk hx) (r1.append r2)
      exact ⟨_,_,vs,ws,rfl,rfl,e1,e2,by rw [r1.length,r2.length];exact yQ hl,q _ _ ρ m2 l2 .non⟩
   ·cases e
  ·cases e
 ·cases e
def lr:D->List D->Dm D
 | .ref i,[.int k],st=>match own st i with
  | some xs=>if decide (-9223372036854775808<=k/\k < 9223372036854775808)=true then match seqIndex? k xs.length with
    | some j=>match xs[j]? with
     | some y=>some (y,st.set i (.lst (xs.eraseIdx j)))
     | none=>none
    | none=>none
   else none
  | none=>none
 | _,_,_=>none
theorem P0:A3 K "list" qD lr:=by
 intro ρ H st x xs a as b st' Q l rx xb e q
 unfold lr at e
 split at e
 ·split at e
  ·next ys hy =>
   split at e
   ·next hk =>
    split at e
    ·next j hj =>
     split at e
     ·next y hy' =>
      cases e
      obtain ⟨v,rfl,r⟩:=xb.one'
      cases r
      cases rx with
      | ref hi =>
       obtain ⟨vs,e1,r1⟩:=l.obj _ _ _ hi (qk hy)
       obtain ⟨w,hw,rw'⟩:=r1.got hy'
       obtain ⟨l2,m2⟩:=l.putL hi (qk hy) (r1.erase j)
       have hk:=of_decide_eq_true hk
       exact ⟨_,vs,_,j,w,rfl,rfl,e1,by omega,by omega,by rw [r1.length];exact hj,hw,q _ _ ρ m2 l2 (rw'.mn m2)⟩
     ·cases e
    ·cases e
   ·cases e
  ·cases e
 ·cases e
def iy:D->List D->Dm D
 | .tup ds,[.int v],st=>match dN iV ds with
  | some ns=>match ns.findIdx? (fun i=>decide (i=v)) with
   | some j=>some (.int (j:Int),st)
   | none=>none
  | none=>none
 | _,_,_=>none
theorem Hs:A3 K "tuple" (oV K) iy:=by
 intro ρ H st x xs a as b st' Q l rx xb e q
 unfold iy at e
 split at e
 ·split at e
  ·next ns hn =>
   split at e
   ·next j hj =>
    cases e
    obtain ⟨v,rfl,r⟩:=xb.one'
    cases r
    cases rx with
    | tup s r =>
     cases Hr r hn
     obtain ⟨h1,h2,h3⟩:=List.findIdx?_eq_some_iff_getElem.mp hj
     refine ⟨_,ns,_,j,rfl,rfl,s,?_,fun i hi z=>?_,q _ H ρ .refl l (.int _)⟩
     ·rw [List.getElem?_eq_getElem h1];exact congrArg some (of_decide_eq_true h2)
     ·have:=h3 i hi
      obtain ⟨hl,ez⟩:=List.getElem?_eq_some_iff.mp z
      rw [ez] at this
      simp at this
   ·cases e
  ·cases e
 ·cases e
def oD (st:Store):D->Option String
 | .non=>some "NoneType"
 | .bl _=>some "bool"
 | .int _=>some "int"
 | .str _=>some "str"
 | .tup _=>some "tuple"
 | .ref i=>match st[i]? with
  | some (.lst _)=>some "list"
  | some (.dct _)=>some "dict"
  | _=>none
 | .ty _=>none
def nR:List D->Dm D
 | [a,.ty c],st=>match oD st a with
  | some T=>if T=c then some (.bl true,st) else none
  | none=>none
 | _,_=>none
end
end L4
namespace L4
open PySem PySem.Spec L2
section
variable {K:PySem.W.Frag}
theorem y2:mf K As nQ:=by
 intro ρ H st x y a c b st' Q l rx ry e q
 unfold nQ at e
 split at e
 ·split at e
  ·next ds hd =>
   split at e
   ·next ok =>
    cases e
    rw [Bool.and_eq_true,decide_eq_true_eq] at ok
    cases ry
    cases rx with
    | ref hi =>
     obtain ⟨vs,e1,r1⟩:=l.obj _ _ _ hi (qk hd)
     exact ⟨_,_,vs,rfl,rfl,e1,by omega,by omega,by rw [r1.length];exact yQ ok.2,fun p hp=>q _ _ _ (Mn.new hp) (l.newL hp (r1.flat _)) (.ref (newR l))⟩
   ·cases e
  ·cases e
 ·cases e
theorem Rs.set {ρ:List Addr} {H:Hp} {σ:St} {δ:au} {v:V} {d:D} {i:Nat} (h:Rs K ρ H σ δ) (r:Rp K ρ H v d):Rs K ρ H (σ.set i (some v)) (δ.set i (some d)):=by
 refine ⟨by rw [List.length_set,List.length_set];exact h.1,fun j e hj=>?_⟩
 by_cases hij:i=j
 ·subst hij
  have hl:i < δ.length:=by
   have:=(List.getElem?_eq_some_iff.mp hj).1
   rwa [List.length_set] at this
  rw [List.getElem?_set_self hl] at hj
  cases hj
  exact ⟨v,by rw [List.getElem?_set_self (by rw [h.1];exact hl)],r⟩
 ·rw [List.getElem?_set_ne hij] at hj
  obtain ⟨w,hw,rw'⟩:=h.2 j e hj
  exact ⟨w,by rw [List.getElem?_set_ne hij];exact hw,rw'⟩
def xc (K:PySem.W.Frag) (g:TG) (f:D->au->Dm au):Prop :=
 ∀ (ρ:List Addr) (σ:St) (H:Hp) (δ:au) (st:Store) (v:V) (d:D) (δ':au) (st':Store) (Q:St->Hp->Prop),Rl K ρ H st->Rs K ρ H σ δ->Rp K ρ H v d->f d δ st=some (δ',st') ->
  (∀ σ' H' ρ',Mn K ρ H ρ' H'->Rl K ρ' H' st'->Rs K ρ' H' σ' δ'->Q σ' H')->g v σ H Q
def tD (K:PySem.W.Frag) (g:qx) (f:List D->au->Dm au):Prop :=
 ∀ (ρ:List Addr) (σ:St) (H:Hp) (δ:au) (st:Store) (v:List V) (d:List D) (δ':au) (st':Store) (Q:St->Hp->Prop),Rl K ρ H st->Rs K ρ H σ δ->cO K ρ H v d->f d δ st=some (δ',st') ->
  (∀ σ' H' ρ',Mn K ρ H ρ' H'->Rl K ρ' H' st'->Rs K ρ' H' σ' δ'->Q σ' H')->g v σ H Q
def hName (i:Nat):D->au->Dm au:=fun d δ st=>some (δ.set i (some d),st)
theorem aT (i:Nat):xc K (om i) (hName i):=by
 intro ρ σ H δ st v d δ' st' Q l rs r e q
 cases e
 exact q _ H ρ .refl l (rs.set r)
def lu:List D->au->Dm au
 | [],δ,st=>some (δ,st)
 | _,_,_=>none
def bT (f:D->au->Dm au) (g:List D->au->Dm au):List D->au->Dm au
 | d :: ds,δ,st=>bnd (f d δ st) fun δ1 st1=>g ds δ1 st1
 | _,_,_=>none
theorem rT:tD K zU lu:=by
 intro ρ σ H δ st v d δ' st' Q l rs r e q
 cases r with
 | nil=>cases e;exact ⟨rfl,q _ H ρ .refl l rs⟩
 | cons a b=>cases e
theorem lW {t:TG} {u:qx} {f:D->au->Dm au} {g:List D->au->Dm au} (hf:xc K t f) (hg:tD K u g):tD K (um t u) (bT f g):=by
 intro ρ σ H δ st v d δ' st' Q l rs r e q
 cases r with
 | nil=>cases e
 | cons a b =>
  obtain ⟨δ1,st1,e1,e⟩:=dA e
  exact ⟨_,_,rfl,hf ρ σ H δ st _ _ δ1 st1 _ l rs a e1 fun σ1 H1 ρ1 m1 l1 r1=>hg ρ1 σ1 H1 δ1 st1 _ _ δ' st' Q l1 r1 (b.mn m1) e fun σ2 H2 ρ2 m2 l2 r2=>q σ2 H2 ρ2 (m1.trans m2) l2 r2⟩
def kN (n:Nat) (f:List D->au->Dm au):D->au->Dm au
 | .tup ds,δ,st=>if ds.length=n then f ds δ st else none
 | _,_,_=>none
theorem rV {n:Nat} {t:qx} {f:List D->au->Dm au} (hf:tD K t f):xc K (vP K n t) (kN n f):=by
 intro ρ σ H δ st v d δ' st' Q l rs r e q
 cases r <;> first | (cases e;done) | skip
 ·next s r =>
  simp only [kN] at e
  split at e
  ·next hl=>exact ⟨_,_,rfl,s,by rw [r.length];exact hl,hf ρ σ H δ st _ _ δ' st' Q l rs r e q⟩
  ·cases e
def hSub (fo fi:au->Dm D):D->au->Dm au:=fun d δ st=>bnd (fo δ st) fun o st1=>bnd (fi δ st1) fun i st2=>match o,i with
 | .ref r,.int k=>match own st2 r with
  | some xs=>match j5 xs.length k with
   | some j=>some (δ,st2.set r (.lst (xs.set j d)))
   | none=>none
  | none=>none
 | _,_=>none
theorem pP {to ti:TE} {fo fi:au->Dm D} (ho:fu K to fo) (hi:fu K ti fi):xc K (L2.eh to ti uz) (hSub fo fi):=by
 intro ρ σ H δ st v d δ' st' Q l rs r e q
 obtain ⟨o,st1,e1,e⟩:=dA e
 obtain ⟨i,st2,e2,e⟩:=dA e
 refine ho ρ σ H δ st o st1 _ l rs e1 fun x H1 ρ1 m1 l1 r1=>hi ρ1 σ H1 δ st1 i st2 _ l1 (rs.mn m1) e2 fun y H2 ρ2 m2 l2 r2=>?_
 split at e
 ·split at e
  ·next xs hx =>
   split at e
   ·next j hj =>
    cases e
    cases r2
    cases r1 with
    | ref hr =>
     have hr2:=m2.r _ _ hr
     obtain ⟨vs,e3,r3⟩:=l2.obj _ _ _ hr2 (qk hx)
     obtain ⟨l3,m3⟩:=l2.putL hr2 (qk hx) (r3.set (r.mn (m1.trans m2)) j)
     exact ⟨_,vs,_,j,rfl,rfl,e3,by rw [r3.length];exact hj,q σ _ ρ2 ((m1.trans m2).trans m3) l3 (rs.mn ((m1.trans m2).trans m3))⟩
   ·cases e
  ·cases e
 ·cases e
def Go (K:PySem.W.Frag) (ρ:List Addr) (H:Hp) (st':Store) (E:Ends):Fl->Prop
 | .nx δ=>∀ σ' H' ρ',Mn K ρ H ρ' H'->Rl K ρ' H' st'->Rs K ρ' H' σ' δ->E.nx σ' H'
 | .bk δ=>∀ σ' H' ρ',Mn K ρ H ρ' H'->Rl K ρ' H' st'->Rs K ρ' H' σ' δ->E.bk σ' H'
 | .ct δ=>∀ σ' H' ρ',Mn K ρ H ρ' H'->Rl K ρ' H' st'->Rs K ρ' H' σ' δ->E.ct σ' H'
 | .rt d=>∀ v H' ρ',Mn K ρ H ρ' H'->Rl K ρ' H' st'->Rp K ρ' H' v d->E.rt v H'
theorem Go.mn {ρ ρ1:List Addr} {H H1:Hp} {st':Store} {E:Ends} {fl:Fl} (g:Go K ρ H st' E fl) (m:Mn K ρ H ρ1 H1):Go K ρ1 H1 st' E fl:=by
 cases fl <;> exact fun v H' ρ' m' l r=>g v H' ρ' (m.trans m') l r
def n9 (K:PySem.W.Frag) (t:TS) (f:au->Dm Fl):Prop :=
 ∀ (ρ:List Addr) (σ:St) (H:Hp) (δ:au) (st:Store) (fl:Fl) (st':Store) (E:Ends),Rl K ρ H st->Rs K ρ H σ δ->f δ st=some (fl,st')->Go K ρ H st' E fl->t E σ H
def bL:au->Dm Fl:=fun δ st=>some (.nx δ,st)
theorem kO:n9 K uj bL:=by
 intro ρ σ H δ st fl st' E l rs e g
 cases e
 exact g σ H ρ .refl l rs
def aA (f g:au->Dm Fl):au->Dm Fl:=fun δ st=>bnd (f δ st) fun fl st1=>match fl with
 | .nx δ1=>g δ1 st1
 | x=>some (x,st1)
theorem a8 {t u:TS} {f g:au->Dm Fl} (hf:n9 K t f) (hg:n9 K u g):n9 K (zP t u) (aA f g):=by
 intro ρ σ H δ st fl st' E l rs e q
 obtain ⟨x,st1,e1,e⟩:=dA e
 refine hf ρ σ H δ st x st1 _ l rs e1 ?_
 cases x with
 | nx δ1=>exact fun σ1 H1 ρ1 m1 l1 r1=>hg ρ1 σ1 H1 δ1 st1 fl st' E l1 r1 e (q.mn m1)
 | bk δ1=>cases e;exact q
 | ct δ1=>cases e;exact q
 | rt d=>cases e;exact q
theorem jM {c:TT} {t u:TS} {fc:au->Dm Bool} {f g:au->Dm Fl} (hc:pL K c fc) (hf:n9 K t f) (hg:n9 K u g):n9 K (zR c t u) (i5 fc f g):=by
 intro ρ σ H δ st fl st' E l rs e q
 obtain ⟨a,st1,e1,e⟩:=dA e
 refine hc ρ σ H δ st _ _ _ l rs e1 fun x H1 ρ1 m1 l1 r1=>?_
 subst r1
 cases x with
 | true =>
  refine p5 ?_
  rw [if_pos rfl] at e
  exact hf ρ1 σ H1 δ st1 fl st' E l1 (rs.mn m1) e (q.mn m1)
 | false =>
  refine p4 ?_
  rw [if_neg Bool.false_ne_true] at e
  exact hg ρ1 σ H1 δ st1 fl st' E l1 (rs.mn m1) e (q.mn m1)
def hZ (f:au->Dm D):au->Dm Fl:=fun δ st=>bnd (f δ st) fun _ st1=>some (.nx δ,st1)
theorem rW {t:TE} {f:au->Dm D} (hf:fu K t f):n9 K (uk t) (hZ f):=by
 intro ρ σ H δ st fl st' E l rs e q
 obtain ⟨a,st1,e1,e⟩:=dA e
 cases e
 exact hf ρ σ H δ st a _ _ l rs e1 fun x H1 ρ1 m1 l1 r1=>q σ H1 ρ1 m1 l1 (rs.mn m1)
def bf (f:au->Dm D):au->Dm Fl:=fun δ st=>bnd (f δ st) fun d st1=>some (.rt d,st1)
theorem dn {t:TE} {f:au->Dm D} (hf:fu K t f):n9 K (zQ t) (bf f):=by
 intro ρ σ H δ st fl st' E l rs e q
 obtain ⟨a,st1,e1,e⟩:=dA e
 cases e
 exact hf ρ σ H δ st a _ _ l rs e1 fun x H1 ρ1 m1 l1 r1=>q x H1 ρ1 m1 l1 r1
def aI (f:au->Dm D) (h:D->au->Dm au):au->Dm Fl:=fun δ st=>bnd (f δ st) fun d st1=>bnd (h d δ st1) fun δ1 st2=>some (.nx δ1,st2)
theorem bG {t:TE} {g:TG} {f:au->Dm D} {h:D->au->Dm au} (hf:fu K t f) (hh:xc K g h):n9 K (sy t g) (aI f h):=by
 intro ρ σ H δ st fl st' E l rs e q
 obtain ⟨a,st1,e1,e⟩:=dA e
 obtain ⟨δ1,st2,e2,e⟩:=dA e
 cases e
 exact hf ρ σ H δ st a st1 _ l rs e1 fun x H1 ρ1 m1 l1 r1=>hh ρ1 σ H1 δ st1 x a δ1 _ _ l1 (rs.mn m1) r1 e2 fun σ2 H2 ρ2 m2 l2 r2=>q σ2 H2 ρ2 (m1.trans m2) l2 r2
def oE (i j:Nat) (fa:au->Dm (List D)):au->Dm Fl:=fun δ st=>bnd (fa δ st) fun as st1=>match as with
 | [a,b]=>some (.nx ((δ.set i (some a)).set j (some b)),st1)
 | _=>none
theorem Bd {i j:Nat} {t:TA} {fa:au->Dm (List D)} (ha:pM K t fa):n9 K (zV i j t) (oE i j fa):=by
 intro ρ σ H δ st fl st' E l rs e q
 obtain ⟨as,st1,e1,e⟩:=dA e
 split at e
 ·cases e
  refine ha ρ σ H δ st _ _ _ l rs e1 fun x H1 ρ1 m1 l1 r1=>?_
  obtain ⟨v,w,rfl,r,r'⟩:=r1.two'
  exact ⟨v,w,rfl,q _ H1 ρ1 m1 l1 (((rs.mn m1).set r).set r')⟩
 ·cases e
def fW (c:au->Dm Bool) (b:au->Dm Fl):Nat->au->Dm Fl
 | 0,_,_=>none
 | n + 1,δ,st=>bnd (c δ st) fun t st1=>if t=true then bnd (b δ st1) fun fl st2=>match fl with
   | .nx δ2=>fW c b n δ2 st2
   | .ct δ2=>fW c b n δ2 st2
   | .bk δ2=>some (.nx δ2,st2)
   | .rt d=>some (.rt d,st2)
  else some (.nx δ,st1)
def fuel:Nat:=1000000
def jn (c:au->Dm Bool) (b:au->Dm Fl):au->Dm Fl:=fW c b fuel
theorem y3 {tc:TT} {tb:TS} {c:au->Dm Bool} {b:au->Dm Fl} (hc:pL K tc c) (hb:n9 K tb b):n9 K (qy tc tb) (jn c b):=by
 intro ρ σ H δ st fl st' E l rs e q
 refine ⟨fun m σ1 H1=>∃ ρ1 δ1 st1,Mn K ρ H ρ1 H1/\Rl K ρ1 H1 st1/\Rs K ρ1 H1 σ1 δ1/\fW c b m δ1 st1=some (fl,st'),⟨fuel,ρ,δ,st,.refl,l,rs,e⟩,?_⟩
 rintro m σ1 H1 ⟨ρ1,δ1,st1,m1,l1,uZ,e1⟩
 cases m with
 | zero=>cases e1
 | succ m =>
  obtain ⟨t,st2,e2,e1⟩:=dA e1
  refine hc ρ1 σ1 H1 δ1 st1 _ _ _ l1 uZ e2 fun x H2 ρ2 m2 l2 r2=>?_
  subst r2
  cases x with
  | true =>
   refine p5 ?_
   rw [if_pos rfl] at e1
   obtain ⟨f2,st3,e3,e1⟩:=dA e1
   refine ⟨fun σ3 H3=>∃ m',m' < m + 1/\∃ ρ1 δ1 st1,Mn K ρ H ρ1 H3/\Rl K ρ1 H3 st1/\Rs K ρ1 H3 σ3 δ1/\fW c b m' δ1 st1=some (fl,st'),fun _ _ h=>h,hb ρ2 σ1 H2 δ1 st2 f2 st3 _ l2 (uZ.mn m2) e3 ?_⟩
   cases f2 with
   | nx δ3=>exact fun σ3 H3 ρ3 m3 l3 r3=>⟨m,Nat.lt_succ_self m,ρ3,δ3,st3,(m1.trans m2).trans m3,l3,r3,e1⟩
   | ct δ3=>exact fun σ3 H3 ρ3 m3 l3 r3=>⟨m,Nat.lt_succ_self m,ρ3,δ3,st3,(m1.trans m2).trans m3,l3,r3,e1⟩
   | bk δ3=>cases e1;exact q.mn (m1.trans m2)
   | rt d=>cases e1;exact q.mn (m1.trans m2)
  | false =>
   refine p4 ?_
   rw [if_neg Bool.false_ne_true] at e1
   cases e1
   exact q.mn (m1.trans m2) σ1 H2 ρ2 .refl l2 (uZ.mn m2)
inductive Src where
 | fix (ds:List D) | live (i:Nat) | P4 (i:Nat) | zl (i:Nat) (es:List D) | zr (ds:List D) (i:Nat)
def Src.at:Src->Nat->Store->Option (Option D)
 | .fix ds,i,_=>if i<=ds.length then some ds[i]? else none
 | .live r,i,st=>(items st r).map fun ds=>ds[i]?
 | .P4 r,i,st=>(items st r).bind fun ds=>if i<=ds.length then some (ds.mapIdx fun i d=>D.tup [.int (i:Int),d])[i]? else none
 | .zl r es,i,st=>(items st r).bind fun ds=>if i<=(List.zipWith (fun a b=>D.tup [a,b]) ds es).length then some (List.zipWith (fun a b=>D.tup [a,b]) ds es)[i]? else none
 | .zr ds r,i,st=>(items st r).bind fun es=>if i<=(List.zipWith (fun a b=>D.tup [a,b]) ds es).length then some (List.zipWith (fun a b=>D.tup [a,b]) ds es)[i]? else none
theorem ql {ds:List D} {i:Nat} {st:Store} {o:Option D} (h:Src.at (.fix ds) i st=some o):i<=ds.length/\ds[i]?=o:=by
 simp only [Src.at] at h
 split at h
 ·next hl=>exact ⟨hl,Option.some.inj h⟩
 ·cases h
def xf (K:PySem.W.Frag) (ρ:List Addr) (H:Hp) (J:It) (S:Src):Prop :=
 ∀ (ρ2:List Addr) (H2:Hp) (st2:Store) (i:Nat),Mn K ρ H ρ2 H2->Rl K ρ2 H2 st2 ->
  (S.at i st2=some none->J.stop i H2)/\∀ d,S.at i st2=some (some d)->J.go i H2/\∀ x H3,J.sA i H2 x H3->Mn K ρ2 H2 ρ2 H3/\Rl K ρ2 H3 st2/\Rp K ρ2 H3 x d
abbrev tG (K:PySem.W.Frag) (t:TI) (f:au->Dm Src):Prop:=So K (xf K) t f
def gO (S:Src) (g:D->au->Dm au) (b:au->Dm Fl):Nat->Nat->au->Dm Fl
 | 0,_,_,_=>none
 | n + 1,i,δ,st=>match S.at i st with
  | none=>none
  | some none=>some (.nx δ,st)
  | some (some d)=>bnd (g d δ st) fun δ1 st1=>bnd (b δ1 st1) fun fl st2=>match fl with
   | .nx δ2=>gO S g b n (i + 1) δ2 st2
   | .ct δ2=>gO S g b n (i + 1) δ2 st2
   | .bk δ2=>some (.nx δ2,st2)
   | .rt d=>some (.rt d,st2)
def dr (fi:au->Dm Src) (g:D->au->Dm au) (b:au->Dm Fl):au->Dm Fl:=fun δ st=>bnd (fi δ st) fun S st1=>gO S g b fuel 0 δ st1
theorem lN {wi:TI} {tg:TG} {tb:TS} {fi:au->Dm Src} {g:D->au->Dm au} {b:au->Dm Fl} (hi:tG K wi fi) (hg:xc K tg g) (hb:n9 K tb b):n9 K (zZ wi tg tb) (dr fi g b):=by
 intro ρ σ H δ st fl st' E l rs e q
 obtain ⟨S,lX,e0,e⟩:=dA e
 refine hi ρ σ H δ st S lX _ l rs e0 fun J H0 ρ0 m0 l0 ok=>?_
 refine ⟨fun i m σ1 H1=>∃ ρ1 δ1 st1,Mn K ρ0 H0 ρ1 H1/\Rl K ρ1 H1 st1/\Rs K ρ1 H1 σ1 δ1/\gO S g b m i δ1 st1=some (fl,st'),⟨fuel,ρ0,δ,lX,.refl,l0,rs.mn m0,e⟩,?_⟩
 rintro i m σ1 H1 ⟨ρ1,δ1,st1,m1,l1,uZ,e1⟩
 cases m with
 | zero=>cases e1
 | succ m =>
  obtain ⟨hstop,hgo⟩:=ok ρ1 H1 st1 i m1 l1
  unfold gO at e1
  split at e1
  ·cases e1
  ·next hs=>cases e1;exact .inl ⟨hstop hs,q.mn (m0.trans m1) σ1 H1 ρ1 .refl l1 uZ⟩
  ·next d hs =>
   obtain ⟨δ2,st2,e2,e1⟩:=dA e1
   obtain ⟨f3,st3,e3,e1⟩:=dA e1
   obtain ⟨go,sA⟩:=hgo d hs
   refine .inr ⟨go,fun σ3 H3=>∃ m',m' < m + 1/\∃ ρ1 δ1 st1,Mn K ρ0 H0 ρ1 H3/\Rl K ρ1 H3 st1/\Rs K ρ1 H3 σ3 δ1/\gO S g b m' (i + 1) δ1 st1=some (fl,st'),fun _ _ h=>h,fun x H2 hy=>?_⟩
   obtain ⟨m2,l2,r2⟩:=sA x H2 hy
   refine hg ρ1 σ1 H2 δ1 st1 x d δ2 st2 _ l2 (uZ.mn m2) r2 e2 fun σ4 H4 ρ4 m4 l4 r4=>hb ρ4 σ4 H4 δ2 st2 f3 st3 _ l4 r4 e3 ?_
   have m5:=((m1.trans m2).trans m4)
   cases f3 with
   | nx δ3=>exact fun σ5 H5 ρ5 m6 l5 r5=>⟨m,Nat.lt_succ_self m,ρ5,δ3,st3,m5.trans m6,l5,r5,e1⟩
   | ct δ3=>exact fun σ5 H5 ρ5 m6 l5 r5=>⟨m,Nat.lt_succ_self m,ρ5,δ3,st3,m5.trans m6,l5,r5,e1⟩
   | bk δ3=>cases e1;exact q.mn (m0.trans m5)
   | rt d=>cases e1;exact q.mn (m0.trans m5)
def h8 (fa:au->Dm D):au->Dm Src:=fun δ st=>bnd (fa δ st) fun a st1=>match a with
 | .tup ds=>some (.fix ds,st1)
 | _=>none
theorem rX {t:TE} {fa:au->Dm D} (ha:fu K t fa):tG K (zY K t) (h8 fa):=by
 intro ρ σ H δ st S st' Q l rs e q
 obtain ⟨a,st1,e1,e⟩:=dA e
 cases a <;> simp at e
 obtain ⟨rfl,rfl⟩:=e
 refine ha ρ σ H δ st _ _ _ l rs e1 fun x H1 ρ1 m1 l1 r1=>?_
 cases r1 with
 | tup s r =>
  refine ⟨_,rfl,⟨_,s⟩,q _ H1 ρ1 m1 l1 fun ρ2 H2 st2 i m2 l2=>⟨fun h=>?_,fun d h=>?_⟩⟩
  ·exact ⟨_,m2.t _ _ s,by rw [r.length];exact List.getElem?_eq_none_iff.mp (ql h).2⟩
  ·obtain ⟨v,hv,rv⟩:=r.got (ql h).2
   refine ⟨⟨_,v,m2.t _ _ s,hv⟩,fun x H3 y=>?_⟩
   obtain ⟨rfl,hx⟩:=y
   have:=hx _ (m2.t _ _ s)
   rw [hv] at this
   cases this
   exact ⟨.refl,l2,rv.mn m2⟩
def lx (fa:au->Dm D):au->Dm Src:=fun δ st=>bnd (fa δ st) fun a st1=>match a with
 | .ref i=>match items st1 i with
  | some _=>some (.live i,st1)
  | none=>none
 | _=>none
theorem Ht {t:TE} {fa:au->Dm D} (ha:fu K t fa):tG K (uo K t) (lx fa):=by
 intro ρ σ H δ st S st' Q l rs e q
 obtain ⟨a,st1,e1,e⟩:=dA e
 split at e
 ·next k =>
  split at e
  ·next ds hd =>
   cases e
   refine ha ρ σ H δ st _ _ _ l rs e1 fun x H1 ρ1 m1 l1 r1=>?_
   cases r1 with
   | ref hi =>
    obtain ⟨vs,s,r⟩:=l1.items hi hd
    refine ⟨_,rfl,⟨_,s⟩,q _ H1 ρ1 m1 l1 fun ρ2 H2 st2 i m2 l2=>⟨fun h=>?_,fun d h=>?_⟩⟩
    ·obtain ⟨P5,hd2,h⟩:=Option.map_eq_some_iff.mp h
     obtain ⟨Lg,s2,r2⟩:=l2.items (m2.r _ _ hi) hd2
     exact ⟨Lg,s2,by rw [r2.length];exact List.getElem?_eq_none_iff.mp h⟩
    ·obtain ⟨P5,hd2,h⟩:=Option.map_eq_some_iff.mp h
     obtain ⟨Lg,s2,r2⟩:=l2.items (m2.r _ _ hi) hd2
     obtain ⟨v,hv,rv⟩:=r2.got h
     refine ⟨⟨_,v,s2,hv⟩,fun x H3 y=>?_⟩
     obtain ⟨rfl,hx⟩:=y
     have:=hx _ s2
     rw [hv] at this
     cases this
     exact ⟨.refl,l2,rv⟩
  ·cases e
 ·cases e
def bM (fa:au->Dm (List D)):au->Dm Src:=fun δ st=>bnd (fa δ st) fun as st1=>match as with
 | [.int j]=>if decide (-4611686018427387904<=j/\j < 4611686018427387904)=true then some (.fix (aD 0 j.toNat),st1) else none
 | _=>none
def qU (fa:au->Dm (List D)):au->Dm Src:=fun δ st=>bnd (fa δ st) fun as st1=>match as with
 | [.int i,.int j]=>if decide ((-4611686018427387904<=i/\i < 4611686018427387904)/\-4611686018427387904<=j/\j < 4611686018427387904)=true then some (.fix (aD i (j - i).toNat),st1) else none
 | _=>none
theorem dZ (lo:Int) (n:Nat):(aD lo n).length=n:=by simp [aD]
theorem tH {lo:Int} {n k:Nat} (h:k < n):(aD lo n)[k]?=some (.int (lo + k)):=by simp [aD,h]
theorem xg {ρ:List Addr} {H:Hp} (lo:Int) (n:Nat):xf K ρ H (Dp lo n) (.fix (aD lo n)):=by
 intro ρ2 H2 st2 i m2 l2
 refine ⟨fun h=>?_,fun d h=>?_⟩
 ·have:=List.getElem?_eq_none_iff.mp (ql h).2
  rw [dZ] at this
  exact this
 ·have h:=(ql h).2
  have hl:=(List.getElem?_eq_some_iff.mp h).1
  rw [dZ] at hl
  rw [tH hl] at h
  cases h
  refine ⟨hl,fun x H3 y=>?_⟩
  obtain ⟨rfl,rfl⟩:=y
  exact ⟨.refl,l2,.int _⟩
theorem nS {t:TA} {fa:au->Dm (List D)} (ha:pM K t fa):tG K (uq t) (bM fa):=by
 intro ρ σ H δ st S st' Q l rs e q
 obtain ⟨as,st1,e1,e⟩:=dA e
 split at e
 ·split at e
  ·next ok =>
   cases e
   have ok:=of_decide_eq_true ok
   refine ha ρ σ H δ st _ _ _ l rs e1 fun x H1 ρ1 m1 l1 r1=>?_
   obtain ⟨v,rfl,r⟩:=r1.one'
   cases r
   exact ⟨_,rfl,by omega,by omega,q _ H1 ρ1 m1 l1 (xg 0 _)⟩
  ·cases e
 ·cases e
def lO (ds:List D):List D:=ds.mapIdx fun i d=>.tup [.int (i:Int),d]
theorem Be (ds:List D):(lO ds).length=ds.length:=by simp [lO]
theorem Hu {ds:List D} {i:Nat} {x:D} (h:(lO ds)[i]?=some x):∃ d,ds[i]?=some d/\x=.tup [.int (i:Int),d]:=by
 unfold lO at h
 rw [List.getElem?_mapIdx] at h
 obtain ⟨d,h1,h2⟩:=Option.map_eq_some_iff.mp h
 exact ⟨d,h1,h2.symm⟩
def mG (fa:au->Dm (List D)):au->Dm Src:=fun δ st=>bnd (fa δ st) fun as st1=>match as with
 | [.tup ds]=>some (.fix (lO ds),st1)
 | _=>none
theorem Lh {t:TA} {fa:au->Dm (List D)} (ha:pM K t fa):tG K (uJ K t) (mG fa):=by
 intro ρ σ H δ st S st' Q l rs e q
 obtain ⟨as,st1,e1,e⟩:=dA e
 split at e
 ·cases e
  refine ha ρ σ H δ st _ _ _ l rs e1 fun x H1 ρ1 m1 l1 r1=>?_
  obtain ⟨v,rfl,r⟩:=r1.one'
  cases r with
  | tup s r =>
   refine ⟨_,rfl,⟨_,s⟩,q _ H1 ρ1 m1 l1 fun ρ2 H2 st2 i m2 l2=>⟨fun h=>?_,fun d h=>?_⟩⟩
   ·obtain ⟨h1,h2⟩:=ql h
    have h2:=List.getElem?_eq_none_iff.mp h2
    rw [Be] at h1 h2
    exact ⟨_,m2.t _ _ s,by rw [r.length];omega⟩
   ·obtain ⟨h1,h2⟩:=ql h
    obtain ⟨d',hd',rfl⟩:=Hu h2
    obtain ⟨v,hv,rv⟩:=r.got hd'
    refine ⟨⟨_,v,m2.t _ _ s,hv⟩,fun x H3 y=>?_⟩
    obtain ⟨p,z,rfl,hp,rfl,hx⟩:=y
    have:=hx _ (m2.t _ _ s)
    rw [hv] at this
    cases this
    have m3:Mn K ρ2 H2 ρ2 (upd H2 p (.tup [.int (i:Int),v])):=Mn.same (hU.up hp)
    exact ⟨m3,l2.same (hU.up hp),.tup (eZ.of pW) (.cons (.int _) (.one ((rv.mn m2).mn m3)))⟩
 ·cases e
def iz (S:Src) (g:D->au->Dm au) (tc:au->Dm Bool) (te:au->Dm D):Nat->Nat->List D->au->Dm (List D)
 | 0,_,_,_,_=>none
 | n + 1,i,ys,δ,st=>if lim ys.length=true then match S.at i st with
  | none=>none
  | some none=>some (ys,st)
  | some (some d)=>bnd (g d δ st) fun δ1 st1=>bnd (tc δ1 st1) fun t st2=>if t=true then bnd (te δ1 st2) fun y st3=>iz S g tc te n (i + 1) (ys ++ [y]) δ1 st3 else iz S g tc te n (i + 1) ys δ1 st2
  else none
def oF (n:Nat) (js:List Nat) (δ:au):au:=List.replicate n none ++ js.map fun j=>δ.getD j none
def dQ (fi:au->Dm Src) (n:Nat) (js:List Nat) (g:D->au->Dm au) (tc:au->Dm Bool) (te:au->Dm D):au->Dm D:=fun δ st=>bnd (fi δ st) fun S st1=>bnd (iz S g tc te fuel 0 [] (oF n js δ) st1) fun ys st2=>some (.ref st2.length,st2 ++ [.lst ys])
theorem Rs.comp {ρ:List Addr} {H:Hp} {σ:St} {δ:au} (h:Rs K ρ H σ δ) (n:Nat) (js:List Nat):Rs K ρ H (ji n js σ) (oF n js δ):=by
 unfold ji oF
 refine ⟨by simp,fun i d hd=>?_⟩
 by_cases hi:i < n
 ·rw [List.getElem?_append_left (by simpa using hi),List.getElem?_replicate,if_pos hi] at hd
  cases hd
 ·rw [List.getElem?_append_right (by simpa using Nat.le_of_not_lt hi),List.getElem?_map] at hd
  rw [List.getElem?_append_right (by simpa using Nat.le_of_not_lt hi),List.getElem?_map]
  simp only [List.length_replicate] at hd ⊢
  cases hj:js[i - n]? with
  | none=>rw [hj] at hd;cases hd
  | some j =>
   rw [hj] at hd
   have hd:δ.getD j none=some d:=Option.some.inj hd
   rw [List.getD_eq_getElem?_getD] at hd
   have hd':δ[j]?=some (some d):=by
    cases hx:δ[j]? with
    | none=>rw [hx] at hd;cases hd
    | some y=>rw [hx] at hd;exact congrArg some hd
   obtain ⟨v,hv,r⟩:=h.2 j d hd'
   exact ⟨v,by show some (σ.getD j none)=_;rw [List.getD_eq_getElem?_getD,hv];rfl,r⟩
theorem qm {wi:TI} {tg:TG} {tc:TT} {te:TE} {fi:au->Dm Src} {n:Nat} {js:List Nat} {g:D->au->Dm au} {c:au->Dm Bool} {f:au->Dm D} (hi:tG K wi fi) (hg:xc K tg g) (hc:pL K tc c) (hf:fu K te f):fu K (qI wi n js tg tc te) (dQ fi n js g c f):=by
 intro ρ σ H δ st b st' Q l rs e q
 obtain ⟨S,lX,e0,e⟩:=dA e
 obtain ⟨zs,oG,e9,e⟩:=dA e
 cases e
 refine hi ρ σ H δ st S lX _ l rs e0 fun J H0 ρ0 m0 l0 ok=>?_
 refine ⟨fun i m ys σ1 H1=>∃ ρ1 δ1 st1 ws,Mn K ρ0 H0 ρ1 H1/\Rl K ρ1 H1 st1/\Rs K ρ1 H1 σ1 δ1/\cO K ρ1 H1 ys ws/\iz S g c f m i ws δ1 st1=some (zs,oG),⟨fuel,ρ0,_,lX,[],.refl,l0,(rs.mn m0).comp n js,.nil,e9⟩,?_⟩
 rintro i m ys σ1 H1 ⟨ρ1,δ1,st1,ws,m1,l1,uZ,D6,e1⟩
 cases m with
 | zero=>cases e1
 | succ m =>
  obtain ⟨hstop,hgo⟩:=ok ρ1 H1 st1 i m1 l1
  unfold iz at e1
  split at e1
  ·next hl =>
   refine ⟨by rw [D6.length];exact Hg hl,?_⟩
   split at e1
   ·cases e1
   ·next hs =>
    cases e1
    exact .inl ⟨hstop hs,fun p hp=>q _ _ _ ((m0.trans m1).trans (Mn.new hp)) (l1.newL hp D6) (.ref (newR l1))⟩
   ·next d hs =>
    obtain ⟨δ2,st2,e2,e1⟩:=dA e1
    obtain ⟨t,st3,e3,e1⟩:=dA e1
    obtain ⟨go,sA⟩:=hgo d hs
    refine .inr ⟨go,fun x H2 hy=>?_⟩
    obtain ⟨m2,l2,r2⟩:=sA x H2 hy
    refine hg ρ1 σ1 H2 δ1 st1 x d δ2 st2 _ l2 (uZ.mn m2) r2 e2 fun σ4 H4 ρ4 m4 l4 r4=>hc ρ4 σ4 H4 δ2 st2 t st3 _ l4 r4 e3 fun t' H5 ρ5 m5 l5 r5=>?_
    subst r5
    have m6:=(((m1.trans m2).trans m4).trans m5)
    cases t' with
    | true =>
     refine p5 ?_
     rw [if_pos rfl] at e1
     obtain ⟨y,Hv,e6,e1⟩:=dA e1
     exact hf ρ5 σ4 H5 δ2 st3 y Hv _ l5 (r4.mn m5) e6 fun v H7 ρ7 m7 l7 r7=>⟨m,Nat.lt_succ_self m,ρ7,δ2,Hv,ws ++ [y],m6.trans m7,l7,r4.mn (m5.trans m7),(D6.mn (((m2.trans m4).trans m5).trans m7)).append (.one r7),e1⟩
    | false =>
     refine p4 ?_
     rw [if_neg Bool.false_ne_true] at e1
     exact ⟨m,Nat.lt_succ_self m,ρ5,δ2,st3,ws,m6,l5,r4.mn m5,D6.mn ((m2.trans m4).trans m5),e1⟩
  ·cases e1
def d0:au->Dm Bool:=fun _ st=>some (true,st)
def fL (n:Nat) (b:au->Dm Fl):List D->Dm D:=fun ds st=>bnd (b (ds.map some ++ List.replicate (n - ds.length) none) st) fun fl st1=>match fl with
 | .rt d=>some (d,st1)
 | .nx _=>some (.non,st1)
 | _=>none
theorem Rs.start {ρ:List Addr} {H:Hp} {vs:List V} {ds:List D} (r:cO K ρ H vs ds) (N:List Str):Rs K ρ H (start N vs) (ds.map some ++ List.replicate (N.length - ds.length) none):=by
 unfold L2.start
 rw [r.length]
 refine ⟨by simp [r.length],fun i d hd=>?_⟩
 by_cases hi:i < ds.length
 ·rw [List.getElem?_append_left (by simpa using hi),List.getElem?_map] at hd
  rw [List.getElem?_append_left (by rw [List.length_map,r.length];exact hi),List.getElem?_map]
  cases hx:ds[i]? with
  | none=>rw [hx] at hd;cases hd
  | some y =>
   rw [hx] at hd
   cases hd
   obtain ⟨v,hv,rv⟩:=r.got hx
   exact ⟨v,by rw [hv];rfl,rv⟩
 ·rw [List.getElem?_append_right (by simpa using Nat.le_of_not_lt hi),List.getElem?_replicate] at hd
  split at hd <;> cases hd
theorem gp {N:List Str} {k n:Nat} {t:TS} {b:au->Dm Fl} {vs:List V} {H:Hp} {Q:VK} {E:XK} (hb:n9 K t b) (hn:N.length=n) (h:bA K k (fL n b) vs H Q E):t { nx:=fun _ H'=>Q .non H',rt:=Q } (start N vs) H:=by
 obtain ⟨hk,ρ,st,ds,d,st',l,r,e,q⟩:=h
 subst hn
 obtain ⟨fl,st1,e1,e⟩:=dA e
 refine hb ρ _ H _ st fl st1 _ l (Rs.start r N) e1 ?_
 cases fl with
 | rt v=>cases e;exact q
 | nx δ=>cases e;exact fun σ' H' ρ' m l' r'=>q .non H' ρ' m l' .non
 | bk δ=>cases e
 | ct δ=>cases e
end
end L4
namespace L4
open PySem PySem.Spec L2
section
variable {X:Cx} {K:PySem.W.Frag}
theorem rY:pL K (fun _ H Q=>Q true H) d0:=by
 intro ρ σ H δ st b st' Q l rs e q
 cases e
 exact q _ H ρ .refl l rfl
end
def u3 (K:PySem.W.Frag):Sp:=fun vs H Q _=>∃ (a:Addr) (ns:List Int),vs=[.ref a]/\Ay K H a (ns.map V.int)/\ns.length<=63/\∀ H',Q (.bl true) H'
theorem xh {P:Program} {w:World} {K:PySem.W.Frag} {mg:Str->Option Value} {base:Heap} {k:Nat} {f:Addr} {fd:FuncData} {ps:List Str} {F:List D->Dm D} (G:aC P w K mg base bz k f fd ps (bA K 1 F))
  (h:∀ ns:List Int,ns.length<=63->∃ st',F [.ref 0] [.nP (ns.map D.int)]=some (.bl true,st')):aC P w K mg base bz k f fd ps (u3 K):=by
 refine G.imp fun vs H Q E hs=>?_
 obtain ⟨a,ns,rfl,hS,hn,q⟩:=hs
 obtain ⟨st',e⟩:=h ns hn
 have one:∀ i (b:Addr),([a]:List Addr)[i]?=some b->i=0/\b=a:=fun i b h=>by
  cases i with
  | zero=>exact ⟨rfl,(Option.some.inj h).symm⟩
  | succ i=>simp at h
 refine ⟨rfl,[a],[.nP (ns.map D.int)],[.ref 0],.bl true,st',⟨rfl,fun i j b o o' h1 h2 _ _ _ _=>by rw [(one i b h1).1,(one j b h2).1],fun i b o h1 h2=>?_⟩,.one (.ref rfl),e,fun v H' ρ' m l r=>by cases r;exact q H'⟩
 obtain ⟨rfl,rfl⟩:=one i b h1
 cases (Option.some.inj h2)
 exact ⟨ns.map V.int,hS,cO.ints ns⟩
def Wp {α:Type} (m:Option (α×Store)) (Q:α->Store->Prop):Prop:=∃ a st,m=some (a,st)/\Q a st
section
variable {α β:Type} {Q Q':α->Store->Prop} {st:Store} {δ:au}
theorem bj {m:Option (α×Store)} (h:Wp m Q) (hq:∀ a st,Q a st->Q' a st):Wp m Q':=let ⟨a,st,e,q⟩:=h;⟨a,st,e,hq a st q⟩
theorem bB {a:α}:Wp (some (a,st)) Q↔Q a st:=⟨fun ⟨_,_,e,q⟩=>by cases e;exact q,fun q=>⟨a,st,rfl,q⟩⟩
theorem ft:Wp (none:Option (α×Store)) Q↔False:=⟨fun ⟨_,_,e,_⟩=>(by cases e),False.elim⟩
theorem dB {R:β->Store->Prop} {m:Option (α×Store)} {k:α->Dm β}:Wp (bnd m k) R↔Wp m fun a st1=>Wp (k a st1) R:=by
 cases m with
 | none=>exact ⟨fun ⟨_,_,e,_⟩=>(by cases e),fun ⟨_,_,e,_⟩=>(by cases e)⟩
 | some p=>exact ⟨fun h=>⟨p.1,p.2,rfl,h⟩,fun ⟨a,s,e,h⟩=>by cases e;exact h⟩
theorem ng {c:Prop} [Decidable c] {m n:Option (α×Store)}:Wp (if c then m else n) Q↔if c then Wp m Q else Wp n Q:=by split <;> exact Iff.rfl
end
section
variable {st:Store} {δ:au} {Q:D->Store->Prop}
theorem xi {i:Nat}:Wp (af i δ st) Q↔∃ d,δ[i]?=some (some d)/\Q d st:=by
 unfold af
 split
 ·next d hd=>rw [bB];exact ⟨fun h=>⟨d,hd,h⟩,fun ⟨e,he,h⟩=>by rw [hd] at he;cases he;exact h⟩
 ·next h=>rw [ft];exact ⟨False.elim,fun ⟨e,he,_⟩=>h e he⟩
theorem Hw {d:D}:Wp (fC d δ st) Q↔Q d st:=bB
theorem Bf {g:D->D->Dm D} {fa fb:au->Dm D}:Wp (av g fa fb δ st) Q↔Wp (fa δ st) fun a st1=>Wp (fb δ st1) fun b st2=>Wp (g a b st2) Q:=by
 unfold av;rw [dB];simp only [dB]
theorem Bg {g:D->Dm D} {fa:au->Dm D}:Wp (oz g fa δ st) Q↔Wp (fa δ st) fun a st1=>Wp (g a st1) Q:=dB
theorem Bh {g:List D->Dm D} {fa:au->Dm (List D)}:Wp (aP g fa δ st) Q↔Wp (fa δ st) fun a st1=>Wp (g a st1) Q:=dB
theorem xj {R:List D->Store->Prop}:Wp (ah δ st) R↔R [] st:=bB
theorem P6 {R:List D->Store->Prop} {fa:au->Dm D} {fr:au->Dm (List D)}:Wp (ae fa fr δ st) R↔Wp (fa δ st) fun a st1=>Wp (fr δ st1) fun r st2=>R (a :: r) st2:=by
 unfold ae;rw [dB];simp only [dB,bB]
theorem xk {fa:au->Dm (List D)}:Wp (bW fa δ st) Q↔Wp (fa δ st) fun as st1=>lim as.length=true/\Q (.tup as) st1:=by
 unfold bW;rw [dB];simp only [ng,bB,ft]
 constructor <;> exact fun h=>bj h fun a s h=>by first | (split at h;exact ⟨by assumption,h⟩;exact h.elim) | (rw [if_pos h.1];exact h.2)
theorem xl {fa:au->Dm (List D)}:Wp (c9 fa δ st) Q↔Wp (fa δ st) fun as st1=>lim as.length=true/\Q (.ref st1.length) (st1 ++ [.lst as]):=by
 unfold c9;rw [dB];simp only [ng,bB,ft]
 constructor <;> exact fun h=>bj h fun a s h=>by first | (split at h;exact ⟨by assumption,h⟩;exact h.elim) | (rw [if_pos h.1];exact h.2)
theorem P7 {R:Bool->Store->Prop} {fa:au->Dm D}:Wp (aN fa δ st) R↔Wp (fa δ st) fun a st1=>∃ b,a=.bl b/\R b st1:=by
 unfold aN;rw [dB]
 constructor <;> refine fun h=>bj h fun a s h=>?_
 ·cases a <;> simp only [bB,ft] at h
  exact ⟨_,rfl,h⟩
 ·obtain ⟨b,rfl,h⟩:=h
  exact bB.mpr h
theorem xm {R:Bool->Store->Prop} {fa:au->Dm Bool}:Wp (qa fa δ st) R↔Wp (fa δ st) fun a st1=>R (!a) st1:=by
 unfold qa;rw [dB];simp only [bB]
theorem xn {R:Bool->Store->Prop} {fa fb:au->Dm Bool}:Wp (qb fa fb δ st) R↔Wp (fa δ st) fun a st1=>if a=true then Wp (fb δ st1) R else R false st1:=by
 unfold qb;rw [dB];simp only [ng,bB]
theorem Bi {R:Bool->Store->Prop} {fa fb:au->Dm Bool}:Wp (yR fa fb δ st) R↔Wp (fa δ st) fun a st1=>if a=true then R true st1 else Wp (fb δ st1) R:=by
 unfold yR;rw [dB];simp only [ng,bB]
theorem u5 {α:Type} {R:α->Store->Prop} {c:au->Dm Bool} {fa fb:au->Dm α}:Wp (i5 c fa fb δ st) R↔Wp (c δ st) fun a st1=>if a=true then Wp (fa δ st1) R else Wp (fb δ st1) R:=by
 unfold i5;rw [dB];simp only [ng]
theorem P8 {fa fb:au->Dm D}:Wp (oA fa fb δ st) Q↔Wp (aN fa δ st) fun a st1=>if a=true then Wp (fb δ st1) Q else Q (.bl false) st1:=by
 unfold oA;rw [dB];simp only [ng,bB]
theorem xo {fa fb:au->Dm D}:Wp (A5 fa fb δ st) Q↔Wp (aN fa δ st) fun a st1=>if a=true then Q (.bl true) st1 else Wp (fb δ st1) Q:=by
 unfold A5;rw [dB];simp only [ng,bB]
theorem P9 {fa:au->Dm D}:Wp (uT fa δ st) Q↔Wp (aN fa δ st) fun a st1=>Q (.bl (!a)) st1:=by
 unfold uT;rw [dB];simp only [bB]
theorem Qa {R:Option Int->Store->Prop}:Wp (dM δ st) R↔R none st:=bB
theorem Qb {R:Option Int->Store->Prop} {fa:au->Dm D}:Wp (i6 fa δ st) R↔Wp (fa δ st) fun a st1=>∃ i,a=.int i/\R (some i) st1:=by
 unfold i6;rw [dB]
 constructor <;> refine fun h=>bj h fun a s h=>?_
 ·cases a <;> simp only [bB,ft] at h
  exact ⟨_,rfl,h⟩
 ·obtain ⟨b,rfl,h⟩:=h
  exact bB.mpr h
theorem Bj {g:D->Option Int->Option Int->Dm D} {fa:au->Dm D} {fl fh:au->Dm (Option Int)}:Wp (qi g fa fl fh δ st) Q↔Wp (fa δ st) fun a st1=>Wp (fl δ st1) fun lo st2=>Wp (fh δ st2) fun hi st3=>Wp (g a lo hi st3) Q:=by
 unfold qi;rw [dB];simp only [dB]
theorem Bk {T:String} {g:D->List D->Dm D} {fo:au->Dm D} {fa:au->Dm (List D)}:Wp (oC T g fo fa δ st) Q↔Wp (fo δ st) fun o st1=>uY T st1 o=true/\Wp (fa δ st1) fun as st2=>Wp (g o as st2) Q:=by
 unfold oC;rw [dB];simp only [ng,dB,ft]
 constructor <;> exact fun h=>bj h fun a s h=>by first | (split at h;exact ⟨by assumption,h⟩;exact h.elim) | (rw [if_pos h.1];exact h.2)
variable {i j:Int} {ds es:List D} {k:Nat}
theorem xq:Wp (cq (.int i) (.int j) st) Q↔Q (.int (i + j)) st:=bB
theorem xr:Wp (eh (.int i) (.int j) st) Q↔Q (.int (i - j)) st:=bB
theorem Bl:Wp (wY (.int i) (.int j) st) Q↔Q (.bl (decide (i < j))) st:=bB
theorem Bm:Wp (PV (.int i) (.int j) st) Q↔Q (.bl (decide (i<=j))) st:=bB
theorem Bn:Wp (uV (.int i) (.int j) st) Q↔Q (.bl (decide (j < i))) st:=bB
theorem Bo:Wp (Hl (.int i) (.int j) st) Q↔Q (.bl (decide (j<=i))) st:=bB
theorem xt:Wp (jc (.int i) st) Q↔Q (.int (-i)) st:=bB
theorem y4 {c:Int->Int->Bool} {h:Int->Int->D}:Wp (tm c h (.int i) (.int j) st) Q↔c i j=true/\Q (h i j) st:=by
 show Wp (if c i j=true then some (h i j,st) else none) Q↔_
 rw [ng,bB,ft]
 split
 ·next h=>exact ⟨fun q=>⟨h,q⟩,fun q=>q.2⟩
 ·next h=>exact ⟨False.elim,fun q=>h q.1⟩
theorem xu:Wp (jk (.int i) (.int j) st) Q↔((-18446744073709551616 < i/\i < 18446744073709551616)\/(-18446744073709551616 < j/\j < 18446744073709551616))/\Q (.int (i * j)) st:=by
 unfold jk;rw [y4,Bool.or_eq_true,decide_eq_true_eq,decide_eq_true_eq]
theorem Qc:Wp (oB (.int i) (.int j) st) Q↔(0 < j/\j < 1073741824)/\Q (.int (i / j)) st:=by unfold oB;rw [y4,decide_eq_true_eq]
theorem xv:Wp (ke (.int i) (.int j) st) Q↔0 < j/\Q (.int (i % j)) st:=by unfold ke;rw [y4,decide_eq_true_eq]
theorem xw:Wp (qS (.int i) (.int j) st) Q↔(0<=j/\j<=1000000/\i.natAbs < 18446744073709551616)/\Q (.int (i ^ j.toNat)) st:=by unfold qS;rw [y4,decide_eq_true_eq]
theorem xx {neg:Bool}:Wp (hV neg (.int i) (.int j) st) Q↔Q (.bl (if neg then !decide (i=j) else decide (i=j))) st:=by
 have e:decide (V.int i=V.int j)=decide (i=j):=by
  by_cases h:i=j
  ·subst h;simp
  ·simp [h]
 show Wp (if my (V.int i) (V.int j)=true then some (D.bl (if neg then !decide (V.int i=V.int j) else decide (V.int i=V.int j)),st) else none) Q↔_
 rw [if_pos (show my _ _=true from rfl),bB,e]
theorem xy {neg:Bool} {x y:Str}:Wp (hV neg (.str x) (.str y) st) Q↔Q (.bl (if neg then !decide (x=y) else decide (x=y))) st:=by
 have e:decide (V.str x=V.str y)=decide (x=y):=by
  by_cases h:x=y
  ·subst h;simp
  ·simp [h]
 show Wp (if my (V.str x) (V.str y)=true then some (D.bl (if neg then !decide (V.str x=V.str y) else decide (V.str x=V.str y)),st) else none) Q↔_
 rw [if_pos (show my _ _=true from rfl),bB,e]
theorem xA:Wp (aF (.tup ds) (.int i) st) Q↔∃ d,gj ds i=some d/\Q d st:=by
 show Wp (match gj ds i with | some d=>some (d,st) | none=>none) Q↔_
 cases gj ds i with
 | none=>rw [ft];exact ⟨False.elim,fun ⟨_,e,_⟩=>by cases e⟩
 | some d=>rw [bB];exact ⟨fun q=>⟨d,rfl,q⟩,fun ⟨_,e,q⟩=>by cases e;exact q⟩
theorem xB:Wp (da (.ref k) (.int i) st) Q↔∃ ds d,items st k=some ds/\gj ds i=some d/\Q d st:=by
 show Wp (match items st k with | some ds=>(match gj ds i with | some d=>some (d,st) | none=>none) | none=>none) Q↔_
 cases items st k with
 | none=>rw [ft];exact ⟨False.elim,fun ⟨_,_,e,_⟩=>by cases e⟩
 | some ds =>
  show Wp (match gj ds i with | some d=>some (d,st) | none=>none) Q↔_
  cases h:gj ds i with
  | none=>rw [ft];exact ⟨False.elim,fun ⟨_,_,e,e',_⟩=>by cases e;rw [h] at e';cases e'⟩
  | some d=>rw [bB];exact ⟨fun q=>⟨ds,d,rfl,h,q⟩,fun ⟨_,_,e,e',q⟩=>by cases e;rw [h] at e';cases e';exact q⟩
theorem xC {lo hi:Option Int}:Wp (oZ (.tup ds) lo hi st) Q↔Q (.tup (cutD ds lo hi)) st:=bB
theorem xD {lo hi:Option Int}:Wp (o3 (.ref k) lo hi st) Q↔∃ ds,items st k=some ds/\Q (.ref st.length) (st ++ [.lst (cutD ds lo hi)]):=by
 show Wp (match items st k with | some ds=>some (D.ref st.length,st ++ [O.lst (cutD ds lo hi)]) | none=>none) Q↔_
 cases items st k with
 | none=>rw [ft];exact ⟨False.elim,fun ⟨_,e,_⟩=>by cases e⟩
 | some ds=>rw [bB];exact ⟨fun q=>⟨ds,rfl,q⟩,fun ⟨_,e,q⟩=>by cases e;exact q⟩
theorem Qd:Wp (jm (.tup ds) (.tup es) st) Q↔lim (ds.length + es.length)=true/\Q (.tup (ds ++ es)) st:=by
 show Wp (if lim (ds.length + es.length)=true then some (D.tup (ds ++ es),st) else none) Q↔_
 rw [ng,bB,ft]
 split
 ·next h=>exact ⟨fun q=>⟨h,q⟩,fun q=>q.2⟩
 ·next h=>exact ⟨False.elim,fun q=>h q.1⟩
theorem xE {a b:Nat}:Wp (kM (.ref a) (.ref b) st) Q↔∃ xs ys,own st a=some xs/\own st b=some ys/\lim (xs.length + ys.length)=true/\Q (.ref st.length) (st ++ [.lst (xs ++ ys)]):=by
 show Wp (match own st a,own st b with | some xs,some ys=>if lim (xs.length + ys.length)=true then some (D.ref st.length,st ++ [O.lst (xs ++ ys)]) else none | _,_=>none) Q↔_
 cases ha:own st a <;> cases hb:own st b
 ·simp only [ft];exact ⟨False.elim,fun ⟨_,_,e,_⟩=>by cases e⟩
 ·simp only [ft];exact ⟨False.elim,fun ⟨_,_,e,_⟩=>by cases e⟩
 ·simp only [ft];exact ⟨False.elim,fun ⟨_,_,_,e,_⟩=>by cases e⟩
 ·next xs ys =>
  show Wp (if lim (xs.length + ys.length)=true then some (D.ref st.length,st ++ [O.lst (xs ++ ys)]) else none) Q↔_
  rw [ng,bB,ft]
  split
  ·next h=>exact ⟨fun q=>⟨_,_,rfl,rfl,h,q⟩,fun ⟨_,_,e,e',_,q⟩=>by cases e;cases e';exact q⟩
  ·next h=>exact ⟨False.elim,fun ⟨_,_,e,e',q,_⟩=>by cases e;cases e';exact h q⟩
theorem xF {a:D}:Wp (dP [a] st) Q↔∃ ds,dO st a=some ds/\Q (.int ds.length) st:=by
 show Wp (match dO st a with | some ds=>some (D.int ds.length,st) | none=>none) Q↔_
 cases dO st a with
 | none=>rw [ft];exact ⟨False.elim,fun ⟨_,e,_⟩=>by cases e⟩
 | some ds=>rw [bB];exact ⟨fun q=>⟨ds,rfl,q⟩,fun ⟨_,e,q⟩=>by cases e;exact q⟩
theorem Qe {a:D}:Wp (lM [a] st) Q↔∃ ds,dO st a=some ds/\Q (.ref st.length) (st ++ [.lst ds]):=by
 show Wp (match dO st a with | some ds=>some (D.ref st.length,st ++ [O.lst ds]) | none=>none) Q↔_
 cases dO st a with
 | none=>rw [ft];exact ⟨False.elim,fun ⟨_,e,_⟩=>by cases e⟩
 | some ds=>rw [bB];exact ⟨fun q=>⟨ds,rfl,q⟩,fun ⟨_,e,q⟩=>by cases e;exact q⟩
theorem Qf {a:D}:Wp (bY [a] st) Q↔∃ ds,dO st a=some ds/\Q (.tup ds) st:=by
 show Wp (match dO st a with | some ds=>some (D.tup ds,st) | none=>none) Q↔_
 cases dO st a with
 | none=>rw [ft];exact ⟨False.elim,fun ⟨_,e,_⟩=>by cases e⟩
 | some ds=>rw [bB];exact ⟨fun q=>⟨ds,rfl,q⟩,fun ⟨_,e,q⟩=>by cases e;exact q⟩
theorem Qg:Wp (nc [.int i,.int j] st) Q↔Q (.int (if j > i then j else i)) st:=bB
theorem Qh:Wp (Bc [.int i,.int j] st) Q↔Q (.int (if j < i then j else i)) st:=bB
theorem Qi:Wp (j7 [.int i] st) Q↔Q (.int i) st:=bB
theorem Qj {b:Bool}:Wp (j7 [.bl b] st) Q↔Q (.int (if b then 1 else 0)) st:=bB
theorem Qk:Wp (jK [.int j] st) Q↔Q (.ref st.length) (st ++ [.jf 0 j]):=bB
theorem Ql:Wp (fw [.int i,.int j] st) Q↔Q (.ref st.length) (st ++ [.jf i j]):=bB
theorem Qm {y:D}:Wp (de (.ref k) [y] st) Q↔∃ xs,own st k=some xs/\lim xs.length=true/\Q .non (st.set k (.lst (xs ++ [y]))):=by
 show Wp (match own st k with | some xs=>if lim xs.length=true then some (D.non,st.set k (O.lst (xs ++ [y]))) else none | none=>none) Q↔_
 cases own st k with
 | none=>rw [ft];exact ⟨False.elim,fun ⟨_,e,_⟩=>by cases e⟩
 | some xs =>
  show Wp (if lim xs.length=true then some (D.non,st.set k (O.lst (xs ++ [y]))) else none) Q↔_
  rw [ng,bB,ft]
  split
  ·next h=>exact ⟨fun q=>⟨_,rfl,h,q⟩,fun ⟨_,e,_,q⟩=>by cases e;exact q⟩
  ·next h=>exact ⟨False.elim,fun ⟨_,e,q,_⟩=>by cases e;exact h q⟩
end
def Ws (m:Option (Fl×Store)) (N B C:au->Store->Prop) (R:D->Store->Prop):Prop:=Wp m fun fl st=>match fl with
 | .nx δ=>N δ st
 | .bk δ=>B δ st
 | .ct δ=>C δ st
 | .rt d=>R d st
section
variable {st:Store} {δ:au} {N B C:au->Store->Prop} {R:D->Store->Prop} {f g:au->Dm Fl} {e:au->Dm D}
theorem xG {m:Option (Fl×Store)} {N':au->Store->Prop} (h:Ws m N B C R) (hn:∀ δ st,N δ st->N' δ st):Ws m N' B C R:=bj h fun fl st q=>by
 cases fl with
 | nx δ=>exact hn δ st q
 | bk δ=>exact q
 | ct δ=>exact q
 | rt d=>exact q
theorem aS (h:Ws (f δ st) (fun δ1 st1=>Ws (g δ1 st1) N B C R) B C R):Ws (aA f g δ st) N B C R:=by
 unfold Ws aA
 rw [dB]
 refine bj h fun fl st1 q=>?_
 cases fl with
 | nx δ1=>exact q
 | bk δ1=>exact bB.mpr q
 | ct δ1=>exact bB.mpr q
 | rt d=>exact bB.mpr q
theorem kf (h:N δ st):Ws (bL δ st) N B C R:=bB.mpr h
theorem nh {t:D->au->Dm au} (h:Wp (e δ st) fun d st1=>Wp (t d δ st1) N):Ws (aI e t δ st) N B C R:=by
 unfold Ws aI
 rw [dB]
 refine bj h fun d st1 q=>?_
 rw [dB]
 exact bj q fun δ1 st2 q=>bB.mpr q
theorem bO {i:Nat} (h:Wp (e δ st) fun d st1=>N (δ.set i (some d)) st1):Ws (aI e (hName i) δ st) N B C R:=nh (bj h fun d st1 q=>bB.mpr q)
theorem rZ (h:Wp (e δ st) fun _ st1=>N δ st1):Ws (hZ e δ st) N B C R:=by
 unfold Ws hZ
 rw [dB]
 exact bj h fun d st1 q=>bB.mpr q
theorem dC (h:Wp (e δ st) R):Ws (bf e δ st) N B C R:=by
 unfold Ws bf
 rw [dB]
 exact bj h fun d st1 q=>bB.mpr q
theorem gs {c:au->Dm Bool} (h:Wp (c δ st) fun b st1=>(b=true->Ws (f δ st1) N B C R)/\(b=false->Ws (g δ st1) N B C R)):Ws (i5 c f g δ st) N B C R:=by
 unfold Ws
 rw [u5]
 refine bj h fun b st1 q=>?_
 cases b with
 | true=>rw [if_pos rfl];exact q.1 rfl
 | false=>rw [if_neg Bool.false_ne_true];exact q.2 rfl
theorem Bp {i j:Nat} {fa:au->Dm (List D)} (h:Wp (fa δ st) fun as st1=>∃ a b,as=[a,b]/\N ((δ.set i (some a)).set j (some b)) st1):Ws (oE i j fa δ st) N B C R:=by
 unfold Ws oE
 rw [dB]
 refine bj h fun as st1 q=>?_
 obtain ⟨a,b,rfl,q⟩:=q
 exact bB.mpr q
theorem fM {n:Nat} {b:au->Dm Fl} {ds:List D} (h:Ws (b (ds.map some ++ List.replicate (n - ds.length) none) st) (fun _ st1=>R .non st1) (fun _ _=>False) (fun _ _=>False) R):Wp (fL n b ds st) R:=by
 unfold fL
 rw [dB]
 refine bj h fun fl st1 q=>?_
 cases fl with
 | nx δ1=>exact bB.mpr q
 | bk δ1=>exact q.elim
 | ct δ1=>exact q.elim
 | rt d=>exact bB.mpr q
theorem y6 {c:au->Dm Bool} {b:au->Dm Fl} (W:Nat->au->Store->Prop) (m:Nat) (hm:m < fuel) (h0:W m δ st)
  (step:∀ m δ st,W m δ st->Wp (c δ st) fun t st1=>(t=true->Ws (b δ st1) (fun δ2 st2=>∃ m',m' < m/\W m' δ2 st2) N (fun δ2 st2=>∃ m',m' < m/\W m' δ2 st2) R)/\(t=false->N δ st1)):Ws (jn c b δ st) N B C R:=by
 have key:∀ (k m:Nat) (δ:au) (st:Store),m < k->W m δ st->Ws (fW c b k δ st) N B C R:=by
  intro k
  induction k with
  | zero=>intro m δ st h;exact absurd h (Nat.not_lt_zero _)
  | succ k ih =>
   intro m δ st hk hw
   unfold Ws fW
   rw [dB]
   refine bj (step m δ st hw) fun t st1 q=>?_
   cases t with
   | false=>rw [if_neg Bool.false_ne_true];exact bB.mpr (q.2 rfl)
   | true =>
    rw [if_pos rfl,dB]
    refine bj (q.1 rfl) fun fl st2 q=>?_
    cases fl with
    | nx δ2=>obtain ⟨m',hm',w⟩:=q;exact ih m' δ2 st2 (by omega) w
    | ct δ2=>obtain ⟨m',hm',w⟩:=q;exact ih m' δ2 st2 (by omega) w
    | bk δ2=>exact bB.mpr q
    | rt d=>exact bB.mpr q
 exact key fuel m δ st hm h0
theorem lY {fi:au->Dm Src} {t:D->au->Dm au} {b:au->Dm Fl} (ds:List D) (Pv:Nat->au->Store->Prop) (hi:Wp (fi δ st) fun S st1=>S=.fix ds/\Pv 0 δ st1) (hl:ds.length < 100000)
  (step:∀ i d δ st,ds[i]?=some d->Pv i δ st->Wp (t d δ st) fun δ1 st1=>Ws (b δ1 st1) (Pv (i + 1)) N (Pv (i + 1)) R) (fin:∀ δ st,Pv ds.length δ st->N δ st):Ws (dr fi t b δ st) N B C R:=by
 unfold Ws dr
 rw [dB]
 refine bj hi fun S lX q=>?_
 obtain ⟨rfl,h0⟩:=q
 have key:∀ (k i:Nat) (δ:au) (st:Store),i<=ds.length->ds.length - i < k->Pv i δ st->Ws (gO (.fix ds) t b k i δ st) N B C R:=by
  intro k
  induction k with
  | zero=>intro i δ st _ h;exact absurd h (Nat.not_lt_zero _)
  | succ k ih =>
   intro i δ st hi hk hw
   unfold Ws gO
   have e:Src.at (.fix ds) i st=some ds[i]?:=by show (if i<=ds.length then some ds[i]? else none)=_;rw [if_pos hi]
   rw [e]
   cases hd:ds[i]? with
   | none =>
    have:=List.getElem?_eq_none_iff.mp hd
    have e:i=ds.length:=by omega
    exact bB.mpr (fin δ st (e ▸ hw))
   | some d =>
    have hlt:=(List.getElem?_eq_some_iff.mp hd).1
    show Wp (bnd _ _) _
    rw [dB]
    refine bj (step i d δ st hd hw) fun δ1 st1 q=>?_
    rw [dB]
    refine bj q fun fl st2 q=>?_
    cases fl with
    | nx δ2=>exact ih (i + 1) δ2 st2 (by omega) (by omega) q
    | ct δ2=>exact ih (i + 1) δ2 st2 (by omega) (by omega) q
    | bk δ2=>exact bB.mpr q
    | rt d=>exact bB.mpr q
 exact key fuel 0 δ lX (Nat.zero_le _) (Nat.lt_trans (by omega) (show 100000 < fuel by decide)) h0
theorem Hx {fi:au->Dm Src} {t:D->au->Dm au} {b:au->Dm Fl} (ds:List D) (r:Nat) (Pv:Nat->au->Store->Prop) (hi:Wp (fi δ st) fun S st1=>S=.live r/\Pv 0 δ st1) (hl:ds.length < 100000) (hk:∀ i δ st,Pv i δ st->items st r=some ds)
  (step:∀ i d δ st,ds[i]?=some d->Pv i δ st->Wp (t d δ st) fun δ1 st1=>Ws (b δ1 st1) (Pv (i + 1)) N (Pv (i + 1)) R) (fin:∀ δ st,Pv ds.length δ st->N δ st):Ws (dr fi t b δ st) N B C R:=by
 unfold Ws dr
 rw [dB]
 refine bj hi fun S lX q=>?_
 obtain ⟨rfl,h0⟩:=q
 have key:∀ (k i:Nat) (δ:au) (st:Store),i<=ds.length->ds.length - i < k->Pv i δ st->Ws (gO (.live r) t b k i δ st) N B C R:=by
  intro k
  induction k with
  | zero=>intro i δ st _ h;exact absurd h (Nat.not_lt_zero _)
  | succ k ih =>
   intro i δ st hi hk' hw
   unfold Ws gO
   have e:Src.at (.live r) i st=some ds[i]?:=by show (items st r).map _=_;rw [hk i δ st hw];rfl
   rw [e]
   cases hd:ds[i]? with
   | none =>
    have:=List.getElem?_eq_none_iff.mp hd
    have e:i=ds.length:=by omega
    exact bB.mpr (fin δ st (e ▸ hw))
   | some d =>
    have hlt:=(List.getElem?_eq_some_iff.mp hd).1
    show Wp (bnd _ _) _
    rw [dB]
    refine bj (step i d δ st hd hw) fun δ1 st1 q=>?_
    rw [dB]
    refine bj q fun fl st2 q=>?_
    cases fl with
    | nx δ2=>exact ih (i + 1) δ2 st2 (by omega) (by omega) q
    | ct δ2=>exact ih (i + 1) δ2 st2 (by omega) (by omega) q
    | bk δ2=>exact bB.mpr q
    | rt d=>exact bB.mpr q
 exact key fuel 0 δ lX (Nat.zero_le _) (Nat.lt_trans (by omega) (show 100000 < fuel by decide)) h0
theorem D7 {fi:au->Dm Src} {n:Nat} {js:List Nat} {t:D->au->Dm au} {c:au->Dm Bool} {f:au->Dm D} {Q:D->Store->Prop} (ds:List D) (Pv:Nat->List D->au->Store->Prop)
  (hi:Wp (fi δ st) fun S st1=>(∀ i ys δ st,i<=ds.length->Pv i ys δ st->S.at i st=some ds[i]?)/\Pv 0 [] (oF n js δ) st1) (hl:ds.length < 100000) (hy:∀ i ys δ st,Pv i ys δ st->ys.length<=i)
  (step:∀ i d ys δ st,ds[i]?=some d->Pv i ys δ st->Wp (t d δ st) fun δ1 st1=>Wp (c δ1 st1) fun b st2=>(b=true->Wp (f δ1 st2) fun y st3=>Pv (i + 1) (ys ++ [y]) δ1 st3)/\(b=false->Pv (i + 1) ys δ1 st2))
  (fin:∀ ys δ st,Pv ds.length ys δ st->Q (.ref st.length) (st ++ [.lst ys])):Wp (dQ fi n js t c f δ st) Q:=by
 unfold dQ
 rw [dB]
 refine bj hi fun S lX q=>?_
 obtain ⟨hS,h0⟩:=q
 have key:∀ (k i:Nat) (ys:List D) (δ:au) (st:Store),i<=ds.length->ds.length - i < k->Pv i ys δ st->Wp (iz S t c f k i ys δ st) fun zs oG=>∃ δ9,Pv ds.length zs δ9 oG:=by
  intro k
  induction k with
  | zero=>intro i ys δ st _ h;exact absurd h (Nat.not_lt_zero _)
  | succ k ih =>
   intro i ys δ st hi hk' hw
   unfold iz
   have hlim:lim ys.length=true:=Nat.ble_eq_true_of_le (by have:=hy i ys δ st hw;omega)
   rw [if_pos hlim,hS i ys δ st hi hw]
   cases hd:ds[i]? with
   | none =>
    have:=List.getElem?_eq_none_iff.mp hd
    have e:i=ds.length:=by omega
    exact bB.mpr ⟨δ,e ▸ hw⟩
   | some d =>
    have hlt:=(List.getElem?_eq_some_iff.mp hd).1
    show Wp (bnd _ _) _
    rw [dB]
    refine bj (step i d ys δ st hd hw) fun δ1 st1 q=>?_
    rw [dB]
    refine bj q fun b st2 q=>?_
    cases b with
    | true =>
     rw [if_pos rfl,dB]
     exact bj (q.1 rfl) fun y st3 q=>ih (i + 1) _ δ1 st3 (by omega) (by omega) q
    | false =>
     rw [if_neg Bool.false_ne_true]
     exact ih (i + 1) ys δ1 st2 (by omega) (by omega) (q.2 rfl)
 rw [dB]
 exact bj (key fuel 0 [] _ lX (Nat.zero_le _) (Nat.lt_trans (by omega) (show 100000 < fuel by decide)) h0) fun zs oG ⟨δ9,q⟩=>bB.mpr (fin zs δ9 oG q)
end
end L4
namespace L4
open PySem PySem.Spec L2
def keyOf:D->Option Key
 | .int i=>some (.inl i)
 | .str x=>some (.inr x)
 | _=>none
def jo (st:Store):D->Option (List (Key×D))
 | .ref i=>match st[i]? with
  | some (.dct kvs)=>some kvs
  | _=>none
 | _=>none
def dR (kvs:List (Key×D)) (k:Key):Option D:=(kvs.find? fun kv=>decide (kv.1=k)).map (·.2)
def putD (kvs:List (Key×D)) (k:Key) (v:D):List (Key×D) :=
 if (kvs.any fun kv=>decide (kv.1=k))=true then kvs.map (fun kv=>if kv.1=k then (kv.1,v) else kv) else kvs ++ [(k,v)]
section
variable {K:PySem.W.Frag} {ρ:List Addr} {H:Hp} {st:Store}
theorem sJ {x:V} {y:D} {k:Key} (r:Rp K ρ H x y) (h:keyOf y=some k):x=kV k:=by
 cases r <;> first | (cases h;rfl) | cases h
theorem Hy {x:V} {a:D} {kvs:List (Key×D)} (l:Rl K ρ H st) (r:Rp K ρ H x a) (h:jo st a=some kvs):∃ p i ws,x=.ref p/\a=.ref i/\ρ[i]?=some p/\st[i]?=some (.dct kvs)/\H p=some (.dK ws)/\Rk K ρ H ws kvs:=by
 cases r <;> first | (cases h;done) | skip
 next hi =>
  simp only [jo] at h
  split at h
  ·next kvs' hs =>
   cases h
   obtain ⟨ws,e,r⟩:=l.obj _ _ _ hi hs
   exact ⟨_,_,ws,rfl,rfl,hi,hs,e,r⟩
  ·cases h
theorem Rk.val {ws:List (Key×V)} {kvs:List (Key×D)} (r:Rk K ρ H ws kvs) (k:Key):(∀ d,dR kvs k=some d->∃ v,kc ws k=some v/\Rp K ρ H v d)/\(kc ws k).isSome=(dR kvs k).isSome:=by
 induction r with
 | nil=>exact ⟨fun d h=>(by cases h),rfl⟩
 | @cons p q ps qs h t ih =>
  obtain ⟨h1,h2⟩:=h
  unfold dR kc at ih ⊢
  rw [List.find?_cons,List.find?_cons]
  by_cases e:p.1=k
  ·rw [decide_eq_true e,decide_eq_true (h1 ▸ e)]
   exact ⟨fun d hd=>by cases hd;exact ⟨_,rfl,h2⟩,rfl⟩
  ·rw [decide_eq_false e,decide_eq_false (h1 ▸ e)]
   exact ih
theorem Rk.app {ws Li:List (Key×V)} {kvs kvs':List (Key×D)} (r:Rk K ρ H ws kvs) (r':Rk K ρ H Li kvs'):Rk K ρ H (ws ++ Li) (kvs ++ kvs'):=by
 induction r with
 | nil=>exact r'
 | cons h _ ih=>exact .cons h ih
theorem Rk.put {ws:List (Key×V)} {kvs:List (Key×D)} {v:V} {d:D} (r:Rk K ρ H ws kvs) (k:Key) (rv:Rp K ρ H v d):Rk K ρ H (putK ws k v) (putD kvs k d):=by
 have hany:(ws.any fun kv=>decide (kv.1=k))=(kvs.any fun kv=>decide (kv.1=k)):=by
  induction r with
  | nil=>rfl
  | cons h _ ih=>rw [List.any_cons,List.any_cons,ih,h.1]
 have hmap:Rk K ρ H (ws.map fun kv=>if kv.1=k then (kv.1,v) else kv) (kvs.map fun kv=>if kv.1=k then (kv.1,d) else kv):=by
  clear hany
  induction r with
  | nil=>exact .nil
  | @cons p q ps qs h _ ih =>
   refine .cons ?_ ih
   dsimp only
   by_cases e:p.1=k
   ·rw [if_pos e,if_pos (h.1 ▸ e)];exact ⟨h.1,rv⟩
   ·rw [if_neg e,if_neg (h.1 ▸ e)];exact h
 unfold putK putD
 rw [hany]
 split
 ·exact hmap
 ·exact r.app (.cons ⟨rfl,rv⟩ .nil)
theorem Rk.length {ws:List (Key×V)} {kvs:List (Key×D)} (r:Rk K ρ H ws kvs):ws.length=kvs.length:=by
 induction r with
 | nil=>rfl
 | cons _ _ ih=>rw [List.length_cons,List.length_cons,ih]
end
section
variable {K:PySem.W.Frag}
def qV:au->Dm D:=fun _ st=>some (.ref st.length,st ++ [.dct []])
theorem Qn:fu K qG qV:=by
 intro ρ σ H δ st b st' Q l rs e q
 cases e
 exact fun p hp=>q _ _ _ (Mn.new hp) (l.newD hp .nil) (.ref (newR l))
def oH (fd fy:au->Dm D):au->Dm D:=fun δ st=>bnd (fd δ st) fun x st1=>bnd (fy δ st1) fun y st2=>match jo st2 x,keyOf y with
 | some kvs,some k=>match dR kvs k with
  | some v=>some (v,st2)
  | none=>none
 | _,_=>none
theorem Lj {td ty:TE} {fd fy:au->Dm D} (hd:fu K td fd) (hy:fu K ty fy):fu K (uE td ty) (oH fd fy):=by
 intro ρ σ H δ st b st' Q l rs e q
 obtain ⟨x,st1,e1,e⟩:=dA e
 obtain ⟨y,st2,e2,e⟩:=dA e
 refine hd ρ σ H δ st x st1 _ l rs e1 fun vx H1 ρ1 m1 l1 r1=>hy ρ1 σ H1 δ st1 y st2 _ l1 (rs.mn m1) e2 fun vy H2 ρ2 m2 l2 r2=>?_
 split at e
 ·next kvs k hx hk =>
  split at e
  ·next v hv =>
   cases e
   obtain ⟨p,i,ws,rfl,rfl,hi,hs,hp,rk⟩:=Hy l2 (r1.mn m2) hx
   obtain ⟨w,hw,rw'⟩:=(rk.val k).1 _ hv
   refine ⟨p,w,rfl,?_,q w H2 ρ2 (m1.trans m2) l2 rw'⟩
   rw [<- hw,sJ r2 hk]
   exact nD.k hp
  ·cases e
 ·cases e
def tI (neg:Bool) (fy fd:au->Dm D):au->Dm D:=fun δ st=>bnd (fy δ st) fun y st1=>bnd (fd δ st1) fun x st2=>match jo st2 x,keyOf y with
 | some kvs,some k=>some (.bl (if neg then !(dR kvs k).isSome else (dR kvs k).isSome),st2)
 | _,_=>none
theorem Qo {td ty:TE} {fd fy:au->Dm D} (hy:fu K ty fy) (hd:fu K td fd):fu K (pC ty td) (tI true fy fd):=by
 intro ρ σ H δ st b st' Q l rs e q
 obtain ⟨y,st1,e1,e⟩:=dA e
 obtain ⟨x,st2,e2,e⟩:=dA e
 refine hy ρ σ H δ st y st1 _ l rs e1 fun vy H1 ρ1 m1 l1 r1=>hd ρ1 σ H1 δ st1 x st2 _ l1 (rs.mn m1) e2 fun vx H2 ρ2 m2 l2 r2=>?_
 split at e
 ·next kvs k hx hk =>
  cases e
  obtain ⟨p,i,ws,rfl,rfl,hi,hs,hp,rk⟩:=Hy l2 r2 hx
  refine ⟨p,kc ws k,rfl,by rw [sJ r1 hk];exact nD.k hp,q _ H2 ρ2 (m1.trans m2) l2 ?_⟩
  rw [(rk.val k).2]
  exact .bl _
 ·cases e
def pQ (fd fy fv:au->Dm D):au->Dm Fl:=fun δ st=>bnd (fv δ st) fun v st1=>bnd (fd δ st1) fun x st2=>bnd (fy δ st2) fun y st3=>match x,jo st3 x,keyOf y with
 | .ref i,some kvs,some k=>if lim kvs.length=true then some (.nx δ,st3.set i (.dct (putD kvs k v))) else none
 | _,_,_=>none
theorem Qp {td ty tv:TE} {fd fy fv:au->Dm D} (hd:fu K td fd) (hy:fu K ty fy) (hv:fu K tv fv):n9 K (uF td ty tv) (pQ fd fy fv):=by
 intro ρ σ H δ st fl st' E l rs e q
 obtain ⟨v,st1,e1,e⟩:=dA e
 obtain ⟨x,st2,e2,e⟩:=dA e
 obtain ⟨y,st3,e3,e⟩:=dA e
 refine hv ρ σ H δ st v st1 _ l rs e1 fun vv H1 ρ1 m1 l1 r1=>hd ρ1 σ H1 δ st1 x st2 _ l1 (rs.mn m1) e2 fun vx H2 ρ2 m2 l2 r2=>hy ρ2 σ H2 δ st2 y st3 _ l2 (rs.mn (m1.trans m2)) e3 fun vy H3 ρ3 m3 l3 r3=>?_
 obtain ⟨i,rfl⟩:∃ i,x=.ref i:=by
  cases x <;> first | exact ⟨_,rfl⟩ | (simp at e;done) | cases e
 cases hx:jo st3 (.ref i) with
 | none=>rw [hx] at e;cases e
 | some kvs =>
 cases hk:keyOf y with
 | none=>rw [hx,hk] at e;cases e
 | some k =>
  rw [hx,hk] at e
  simp only at e
  split at e
  ·next hl =>
   cases e
   obtain ⟨p,j,ws,rfl,ej,hi,hs,hp,rk⟩:=Hy l3 (r2.mn m3) hx
   cases ej
   obtain ⟨l4,m4⟩:=l3.qQ hi hs (rk.put k (r1.mn (m2.trans m3)))
   have mm:=((m1.trans m2).trans m3).trans m4
   refine ⟨p,_,rfl,?_,q σ _ ρ3 mm l4 (rs.mn mm)⟩
   rw [sJ r3 hk]
   exact qF.k hp (by rw [rk.length];exact Hg hl)
  ·cases e
def qW:au->Dm (List (D×D)):=fun _ st=>some ([],st)
def kg (fk fv:au->Dm D) (fr:au->Dm (List (D×D))):au->Dm (List (D×D)):=fun δ st=>bnd (fk δ st) fun k st1=>bnd (fv δ st1) fun v st2=>bnd (fr δ st2) fun r st3=>some ((k,v) :: r,st3)
def Lk (K:PySem.W.Frag) (ρ:List Addr) (H:Hp):List (V×V)->List (D×D)->Prop:=Paired fun p q=>Rp K ρ H p.1 q.1/\Rp K ρ H p.2 q.2
def D8 (K:PySem.W.Frag) (oq:List (TE×TE)) (f:au->Dm (List (D×D))):Prop:=So K (Lk K) (nE oq) f
theorem Qq:D8 K [] qW:=by
 intro ρ σ H δ st b st' Q l rs e q
 cases e
 exact q [] H ρ .refl l .nil
theorem D9 {tk tv:TE} {oq:List (TE×TE)} {fk fv:au->Dm D} {fr:au->Dm (List (D×D))} (hk:fu K tk fk) (hv:fu K tv fv) (hr:D8 K oq fr):D8 K ((tk,tv) :: oq) (kg fk fv fr):=by
 intro ρ σ H δ st b st' Q l rs e q
 obtain ⟨k,st1,e1,e⟩:=dA e
 obtain ⟨v,st2,e2,e⟩:=dA e
 obtain ⟨r,st3,e3,e⟩:=dA e
 cases e
 exact hk ρ σ H δ st k st1 _ l rs e1 fun x H1 ρ1 m1 l1 r1=>hv ρ1 σ H1 δ st1 v st2 _ l1 (rs.mn m1) e2 fun y H2 ρ2 m2 l2 r2=>hr ρ2 σ H2 δ st2 r _ _ l2 (rs.mn (m1.trans m2)) e3 fun ps H3 ρ3 m3 l3 r3 =>
  q _ H3 ρ3 ((m1.trans m2).trans m3) l3 (.cons ⟨r1.mn (m2.trans m3),r2.mn m3⟩ r3)
def keysOf:List (D×D)->Option (List (Key×D))
 | []=>some []
 | (k,v) :: r=>match keyOf k,keysOf r with
  | some k',some r'=>some ((k',v) :: r')
  | _,_=>none
theorem Qr {ρ:List Addr} {H:Hp} {ps:List (V×V)} {qs:List (D×D)} (r:Lk K ρ H ps qs):∀ {kvs:List (Key×D)},keysOf qs=some kvs->∃ ws:List (Key×V),ps=ws.map (fun kv=>(kV kv.1,kv.2))/\Rk K ρ H ws kvs:=by
 induction r with
 | nil=>intro kvs h;cases h;exact ⟨[],rfl,.nil⟩
 | @cons p q ps qs h _ ih =>
  intro kvs hk
  obtain ⟨q1,q2⟩:=q
  obtain ⟨p1,p2⟩:=p
  simp only [keysOf] at hk
  split at hk
  ·next k' r' h1 h2 =>
   cases hk
   obtain ⟨ws,rfl,rw'⟩:=ih h2
   refine ⟨(k',p2) :: ws,?_,.cons ⟨rfl,h.2⟩ rw'⟩
   rw [List.map_cons,<- sJ h.1 h1]
  ·cases hk
def o4 (kvs more:List (Key×D)):List (Key×D):=more.foldl (fun acc kv=>putD acc kv.1 kv.2) kvs
theorem Rk.merge {ρ:List Addr} {H:Hp} {more:List (Key×V)} {more':List (Key×D)} (r:Rk K ρ H more more'):∀ {ws:List (Key×V)} {kvs:List (Key×D)},Rk K ρ H ws kvs->Rk K ρ H (lj ws more) (o4 kvs more'):=by
 induction r with
 | nil=>intro ws kvs h;exact h
 | @cons p q _ _ h _ ih =>
  intro ws kvs r0
  have:=r0.put p.1 h.2
  rw [show putD kvs p.1 q.2=putD kvs q.1 q.2 by rw [h.1]] at this
  exact ih this
def pR (fp:au->Dm (List (D×D))):au->Dm D:=fun δ st=>bnd (fp δ (st ++ [.dct []])) fun ps st2=>match st2[st.length]?,keysOf ps with
 | some (.dct []),some kvs=>if kvs.length<=15 then some (.ref st.length,st2.set st.length (.dct (o4 [] kvs))) else none
 | _,_=>none
theorem Qs {oq:List (TE×TE)} {fp:au->Dm (List (D×D))} (hp:D8 K oq fp):fu K (uG oq) (pR fp):=by
 intro ρ σ H δ st b st' Q l rs e q
 obtain ⟨ps,st2,e1,e⟩:=dA e
 intro p Ll
 have m0:Mn K ρ H (ρ ++ [p]) (upd H p (.dK [])):=Mn.new Ll
 have l0:Rl K (ρ ++ [p]) (upd H p (.dK [])) (st ++ [.dct []]):=l.newD Ll .nil
 refine hp (ρ ++ [p]) σ _ δ _ ps st2 _ l0 (rs.mn m0) e1 fun vs H2 ρ2 m2 l2 r2=>?_
 split at e
 ·next kvs hs hk =>
  split at e
  ·next hl =>
   cases e
   have hi:=m2.r _ _ (newR (p:=p) l)
   obtain ⟨ws,e3,r3⟩:=l2.obj _ _ _ hi hs
   cases r3
   obtain ⟨kws,rfl,rk⟩:=Qr r2 hk
   obtain ⟨l4,m4⟩:=l2.qQ hi hs (rk.merge .nil)
   exact ⟨e3,kws,rfl,by rw [rk.length];exact hl,q _ _ ρ2 ((m0.trans m2).trans m4) l4 (.ref (m4.r _ _ hi))⟩
  ·cases e
 ·cases e
end
section
variable {st:Store} {δ:au} {Q:D->Store->Prop}
theorem Qu:Wp (qV δ st) Q↔Q (.ref st.length) (st ++ [.dct []]):=bB
theorem Qv {fd fy:au->Dm D}:Wp (oH fd fy δ st) Q↔Wp (fd δ st) fun x st1=>Wp (fy δ st1) fun y st2=>∃ kvs k v,jo st2 x=some kvs/\keyOf y=some k/\dR kvs k=some v/\Q v st2:=by
 unfold oH;rw [dB];simp only [dB]
 constructor <;> refine fun h=>bj h fun x s h=>bj h fun y s2 h=>?_
 ·split at h
  ·next kvs k h1 h2 =>
   split at h
   ·next v h3=>exact ⟨kvs,k,v,by assumption,by assumption,h3,bB.mp h⟩
   ·exact (ft.mp h).elim
  ·exact (ft.mp h).elim
 ·obtain ⟨kvs,k,v,h1,h2,h3,h⟩:=h
  rw [h1,h2]
  simp only [h3]
  exact bB.mpr h
theorem xH {neg:Bool} {fd fy:au->Dm D}:Wp (tI neg fy fd δ st) Q↔Wp (fy δ st) fun y st1=>Wp (fd δ st1) fun x st2=>∃ kvs k,jo st2 x=some kvs/\keyOf y=some k/\Q (.bl (if neg then !(dR kvs k).isSome else (dR kvs k).isSome)) st2:=by
 unfold tI;rw [dB];simp only [dB]
 constructor <;> refine fun h=>bj h fun x s h=>bj h fun y s2 h=>?_
 ·split at h
  ·next kvs k h1 h2=>exact ⟨kvs,k,by assumption,by assumption,bB.mp h⟩
  ·exact (ft.mp h).elim
 ·obtain ⟨kvs,k,h1,h2,h⟩:=h
  rw [h1,h2]
  exact bB.mpr h
theorem Qw {R:List (D×D)->Store->Prop}:Wp (qW δ st) R↔R [] st:=bB
theorem Qx {fk fv:au->Dm D} {fr:au->Dm (List (D×D))} {R:List (D×D)->Store->Prop}:Wp (kg fk fv fr δ st) R↔Wp (fk δ st) fun k st1=>Wp (fv δ st1) fun v st2=>Wp (fr δ st2) fun r st3=>R ((k,v) :: r) st3:=by
 unfold kg;rw [dB];simp only [dB,bB]
theorem Qy {fp:au->Dm (List (D×D))}:Wp (pR fp δ st) Q↔Wp (fp δ (st ++ [.dct []])) fun ps st2=>st2[st.length]?=some (.dct [])/\∃ kvs,keysOf ps=some kvs/\kvs.length<=15/\Q (.ref st.length) (st2.set st.length (.dct (o4 [] kvs))):=by
 unfold pR;rw [dB]
 constructor <;> refine fun h=>bj h fun ps s h=>?_
 ·split at h
  ·next kvs h1 h2 =>
   rw [ng,bB,ft] at h
   split at h
   ·next hl=>exact ⟨by assumption,kvs,by assumption,hl,h⟩
   ·exact h.elim
  ·exact (ft.mp h).elim
 ·obtain ⟨h1,kvs,h2,h3,h⟩:=h
  rw [h1,h2]
  simp only [if_pos h3]
  exact bB.mpr h
theorem Qz {fd fy fv:au->Dm D} {N B C:au->Store->Prop} {R:D->Store->Prop} (h:Wp (fv δ st) fun v st1=>Wp (fd δ st1) fun x st2=>Wp (fy δ st2) fun y st3=>∃ i kvs k,x=.ref i/\jo st3 x=some kvs/\keyOf y=some k/\lim kvs.length=true/\N δ (st3.set i (.dct (putD kvs k v)))):Ws (pQ fd fy fv δ st) N B C R:=by
 unfold Ws pQ
 rw [dB]
 refine bj h fun v st1 h=>?_
 rw [dB]
 refine bj h fun x st2 h=>?_
 rw [dB]
 refine bj h fun y st3 h=>?_
 obtain ⟨i,kvs,k,rfl,h1,h2,h3,h⟩:=h
 rw [h1,h2]
 simp only [h3]
 exact bB.mpr h
end
end L4
namespace L4
open PySem PySem.Spec L2
structure Ex (c:List Nat) (st st':Store):Prop where
 len:st.length<=st'.length
 keep:∀ (i:Nat) (o:O),st[i]?=some o->i ∉ c->st'[i]?=some o
section
variable {c c':List Nat} {st st1 st2:Store} {i:Nat} {o:O} {ds:List D}
theorem Ex.refl:Ex c st st:=⟨Nat.le_refl _,fun _ _ h _=>h⟩
theorem Ex.trans (a:Ex c st st1) (b:Ex c st1 st2):Ex c st st2:=⟨Nat.le_trans a.len b.len,fun i o h n=>b.keep i o (a.keep i o h n) n⟩
theorem Ex.mono (a:Ex c st st1) (h:∀ x∈c,x∈c'):Ex c' st st1:=⟨a.len,fun i o e n=>a.keep i o e fun z=>n (h i z)⟩
theorem Ex.any (a:Ex [] st st1):Ex c st st1:=a.mono fun x h=>nomatch h
theorem fN {α:Type} {l:List α} {i:Nat} {o:α} (h:l[i]?=some o):i < l.length:=(List.getElem?_eq_some_iff.mp h).1
theorem gu {l m:List O} (h:l[i]?=some o):(l ++ m)[i]?=some o:=by rw [List.getElem?_append_left (fN h)];exact h
theorem j8 {l:List O}:(l ++ [o])[l.length]?=some o:=by rw [List.getElem?_append_right (Nat.le_refl _),Nat.sub_self];rfl
theorem Ex.app (a:Ex c st st1) (m:List O):Ex c st (st1 ++ m):=⟨by rw [List.length_append];exact Nat.le_trans a.len (Nat.le_add_right _ _),fun i o h n=>gu (a.keep i o h n)⟩
theorem Ex.cf (m:List O):Ex c st (st ++ m):=Ex.refl.app m
theorem Ex.put (a:Ex c st st1) (h:i∈c):Ex c st (st1.set i o):=⟨by rw [List.length_set];exact a.len,fun j u e n=>by rw [List.getElem?_set_ne (fun z=>n (by rw [<- z];exact h))];exact a.keep j u e n⟩
theorem Ex.loc (a:Ex c st st1) (h:st.length<=i):Ex c st (st1.set i o):=⟨by rw [List.length_set];exact a.len,fun j u e n=>by rw [List.getElem?_set_ne (by have:=fN e;omega)];exact a.keep j u e n⟩
theorem dS (h:st[i]?=some (.lst ds)):items st i=some ds:=by unfold items;rw [h]
theorem Lm (h:st[i]?=some (.nP ds)):items st i=some ds:=by unfold items;rw [h]
theorem jN (h:st[i]?=some (.lst ds)):own st i=some ds:=by unfold own;rw [h]
theorem tJ:items (st ++ [.lst ds]) st.length=some ds:=dS j8
theorem Hz:own (st ++ [.lst ds]) st.length=some ds:=jN j8
theorem QA {o':O}:items (st ++ [.lst ds] ++ [o']) st.length=some ds:=dS (gu j8)
theorem QB {o':O}:own (st ++ [.lst ds] ++ [o']) st.length=some ds:=jN (gu j8)
theorem QC {o' o2:O}:items (st ++ [.lst ds] ++ [o'] ++ [o2]) st.length=some ds:=dS (gu (gu j8))
theorem QD {o' o2:O}:own (st ++ [.lst ds] ++ [o'] ++ [o2]) st.length=some ds:=jN (gu (gu j8))
theorem QE {lo hi:Int}:i9 (st ++ [.jf lo hi]) (.ref st.length)=some (lo,hi):=by simp only [i9,j8]
theorem QF:dO st (.tup ds)=some ds:=rfl
theorem QG:dO st (.ref i)=items st i:=rfl
theorem qX (h:(items st i).isSome=true):uY "list" st (.ref i)=true:=by simp only [uY,h];rfl
theorem Ea:uY "tuple" st (.tup ds)=true:=by simp only [uY];rfl
theorem ja {n:Nat} (h:n<=100000):lim n=true:=Nat.ble_eq_true_of_le h
end
section
variable {st:Store} {Q:D->Store->Prop} {i j:Int} {k:Nat} {ds es:List D}
theorem QH {a:D}:Wp (e7 [a] st) Q↔∃ p,i9 st a=some p/\qc p.1 p.2=true/\Q (.ref st.length) (st ++ [.lst (aD p.1 (p.2 - p.1).toNat)]):=by
 show Wp (match i9 st a with | some (lo,hi)=>if qc lo hi=true then some (D.ref st.length,st ++ [O.lst (aD lo (hi - lo).toNat)]) else none | none=>none) Q↔_
 cases i9 st a with
 | none=>rw [ft];exact ⟨False.elim,fun ⟨_,e,_⟩=>by cases e⟩
 | some p =>
  obtain ⟨lo,hi⟩:=p
  show Wp (if qc lo hi=true then some (D.ref st.length,st ++ [O.lst (aD lo (hi - lo).toNat)]) else none) Q↔_
  rw [ng,bB,ft]
  split
  ·next h=>exact ⟨fun q=>⟨_,rfl,h,q⟩,fun ⟨_,e,_,q⟩=>by cases e;exact q⟩
  ·next h=>exact ⟨False.elim,fun ⟨_,e,q,_⟩=>by cases e;exact h q⟩
theorem QI {a:D}:Wp (tu [a] st) Q↔∃ p,i9 st a=some p/\qc p.1 p.2=true/\Q (.tup (aD p.1 (p.2 - p.1).toNat)) st:=by
 show Wp (match i9 st a with | some (lo,hi)=>if qc lo hi=true then some (D.tup (aD lo (hi - lo).toNat),st) else none | none=>none) Q↔_
 cases i9 st a with
 | none=>rw [ft];exact ⟨False.elim,fun ⟨_,e,_⟩=>by cases e⟩
 | some p =>
  obtain ⟨lo,hi⟩:=p
  show Wp (if qc lo hi=true then some (D.tup (aD lo (hi - lo).toNat),st) else none) Q↔_
  rw [ng,bB,ft]
  split
  ·next h=>exact ⟨fun q=>⟨_,rfl,h,q⟩,fun ⟨_,e,_,q⟩=>by cases e;exact q⟩
  ·next h=>exact ⟨False.elim,fun ⟨_,e,q,_⟩=>by cases e;exact h q⟩
theorem xI:Wp (nQ (.ref k) (.int j) st) Q↔∃ xs,own st k=some xs/\(-9223372036854775808<=j/\j < 9223372036854775808)/\lim (xs.length * j.toNat)=true/\Q (.ref st.length) (st ++ [.lst (List.replicate j.toNat xs).flatten]):=by
 show Wp (match own st k with | some a=>if (decide (-9223372036854775808<=j/\j < 9223372036854775808) && lim (a.length * j.toNat))=true then some (D.ref st.length,st ++ [O.lst (List.replicate j.toNat a).flatten]) else none | _=>none) Q↔_
 cases own st k with
 | none=>simp only [ft];exact ⟨False.elim,fun ⟨_,e,_⟩=>by cases e⟩
 | some xs =>
  show Wp (if (decide (-9223372036854775808<=j/\j < 9223372036854775808) && lim (xs.length * j.toNat))=true then some (D.ref st.length,st ++ [O.lst (List.replicate j.toNat xs).flatten]) else none) Q↔_
  rw [ng,bB,ft]
  split
  ·next h=>rw [Bool.and_eq_true,decide_eq_true_eq] at h;exact ⟨fun q=>⟨_,rfl,h.1,h.2,q⟩,fun ⟨_,e,_,_,q⟩=>by cases e;exact q⟩
  ·next h=>rw [Bool.and_eq_true,decide_eq_true_eq] at h;exact ⟨False.elim,fun ⟨_,e,q,q',_⟩=>by cases e;exact h ⟨q,q'⟩⟩
theorem QJ:Wp (lr (.ref k) [.int i] st) Q↔∃ xs j y,own st k=some xs/\(-9223372036854775808<=i/\i < 9223372036854775808)/\seqIndex? i xs.length=some j/\xs[j]?=some y/\Q y (st.set k (.lst (xs.eraseIdx j))):=by
 constructor
 ·rintro ⟨a,s,e,q⟩
  simp only [lr] at e
  split at e
  ·next xs hx =>
   split at e
   ·next hk =>
    split at e
    ·next j hj =>
     split at e
     ·next y hy=>cases e;exact ⟨xs,j,_,hx,of_decide_eq_true hk,hj,hy,q⟩
     ·cases e
    ·cases e
   ·cases e
  ·cases e
 ·rintro ⟨xs,j,y,hx,hk,hj,hy,q⟩
  refine ⟨_,_,?_,q⟩
  simp only [lr,hx,hj,hy,decide_eq_true hk]
  rfl
theorem QK {b:Nat}:Wp (jL (.ref k) [.ref b] st) Q↔∃ xs ys,own st k=some xs/\own st b=some ys/\lim (xs.length + ys.length)=true/\Q .non (st.set k (.lst (xs ++ ys))):=by
 constructor
 ·rintro ⟨a,s,e,q⟩
  simp only [jL] at e
  split at e
  ·next xs ys hx hy =>
   split at e
   ·next hl=>cases e;exact ⟨xs,ys,hx,hy,hl,q⟩
   ·cases e
  ·cases e
 ·rintro ⟨xs,ys,hx,hy,hl,q⟩
  refine ⟨_,_,?_,q⟩
  simp only [jL,hx,hy,hl]
  rfl
theorem Ln {v:Int}:Wp (iy (.tup ds) [.int v] st) Q↔∃ ns j,dN iV ds=some ns/\ns.findIdx? (fun i=>decide (i=v))=some j/\Q (.int (j:Int)) st:=by
 constructor
 ·rintro ⟨a,s,e,q⟩
  simp only [iy] at e
  split at e
  ·next ns hn =>
   split at e
   ·next j hj=>cases e;exact ⟨ns,j,hn,hj,q⟩
   ·cases e
  ·cases e
 ·rintro ⟨ns,j,hn,hj,q⟩
  refine ⟨_,_,?_,q⟩
  simp only [iy,hn,hj]
theorem xJ:Wp (qd [.ref k] st) Q↔∃ ds bs,items st k=some ds/\dN bV ds=some bs/\Q (.bl (bs.all id)) st:=by
 constructor
 ·rintro ⟨a,s,e,q⟩
  simp only [qd] at e
  split at e
  ·next bs hb =>
   cases e
   obtain ⟨ds,h1,h2⟩:=Option.bind_eq_some_iff.mp hb
   exact ⟨ds,bs,h1,h2,q⟩
  ·cases e
 ·rintro ⟨ds,bs,h1,h2,q⟩
  refine ⟨_,_,?_,q⟩
  simp only [qd,h1,Option.bind_some,h2]
theorem Bq {neg:Bool} {a c:D}:Wp (rS neg a c st) Q↔∃ x ds vs,sV a=some x/\dO st c=some ds/\dN sV ds=some vs/\Q (.bl (if neg then !uB x vs else uB x vs)) st:=by
 constructor
 ·rintro ⟨b,s,e,q⟩
  simp only [rS] at e
  split at e
  ·next x vs h1 h2 =>
   cases e
   obtain ⟨ds,h3,h4⟩:=Option.bind_eq_some_iff.mp h2
   exact ⟨x,ds,vs,h1,h3,h4,q⟩
  ·cases e
 ·rintro ⟨x,ds,vs,h1,h2,h3,q⟩
  refine ⟨_,_,?_,q⟩
  simp only [rS,h1,h2,Option.bind_some,h3]
theorem Lo (ns:List Int):dN sV (ns.map D.int)=some (ns.map V.int):=A9 (f:=sV) (g:=D.int) (k:=V.int) (fun _=>rfl) ns
theorem HA (ns:List Int):dN iV (ns.map D.int)=some ns:=by
 have:=A9 (f:=iV) (g:=D.int) (k:=id) (fun _=>rfl) ns
 rw [this,List.map_id]
theorem Lp {neg:Bool} {a b:D}:Wp (jl neg a b st) Q↔∃ p q,mF st 20 a=some p/\mF st 20 b=some q/\(PyData.canLay0 p=true/\PyData.canLay0 q=true/\min p.depth q.depth<=60)/\Q (.bl (if neg then !PyData.eqv p q else PyData.eqv p q)) st:=by
 constructor
 ·rintro ⟨c,s,e,q⟩
  simp only [jl] at e
  split at e
  ·next x y h1 h2 =>
   split at e
   ·next hs =>
    cases e
    rw [Bool.and_eq_true,Bool.and_eq_true,decide_eq_true_eq] at hs
    exact ⟨x,y,h1,h2,⟨hs.1.1,hs.1.2,hs.2⟩,q⟩
   ·cases e
  ·cases e
 ·rintro ⟨x,y,h1,h2,⟨h3,h4,h5⟩,q⟩
  refine ⟨_,_,?_,q⟩
  simp only [jl,h1,h2,h3,h4,decide_eq_true h5]
  rfl
theorem xK {z:Str}:Wp (wZ (.str z) (.int i) st) Q↔∃ c,lim z.length=true/\gj z.cps.toList i=some c/\Q (.str ⟨#[c]⟩) st:=by
 constructor
 ·rintro ⟨c,s,e,q⟩
  simp only [wZ] at e
  split at e
  ·next h1 =>
   split at e
   ·next c hc=>cases e;exact ⟨c,h1,hc,q⟩
   ·cases e
  ·cases e
 ·rintro ⟨c,h1,h2,q⟩
  refine ⟨_,_,?_,q⟩
  simp only [wZ,h1,h2]
  rfl
theorem QL {δ:au} {fa:au->Dm (List D)} {R:Src->Store->Prop}:Wp (bM fa δ st) R↔Wp (fa δ st) fun as st1=>∃ j,as=[.int j]/\(-4611686018427387904<=j/\j < 4611686018427387904)/\R (.fix (aD 0 j.toNat)) st1:=by
 unfold bM;rw [dB]
 constructor <;> refine fun h=>bj h fun as s h=>?_
 ·split at h
  ·next j =>
   rw [ng,bB,ft] at h
   split at h
   ·next hk=>exact ⟨j,rfl,of_decide_eq_true hk,h⟩
   ·exact h.elim
  ·exact (ft.mp h).elim
 ·obtain ⟨j,rfl,h1,h⟩:=h
  simp only [decide_eq_true h1,if_true]
  exact bB.mpr h
theorem QM {δ:au} {fa:au->Dm (List D)} {R:Src->Store->Prop}:Wp (qU fa δ st) R↔Wp (fa δ st) fun as st1=>∃ i j,as=[.int i,.int j]/\((-4611686018427387904<=i/\i < 4611686018427387904)/\-4611686018427387904<=j/\j < 4611686018427387904)/\R (.fix (aD i (j - i).toNat)) st1:=by
 unfold qU;rw [dB]
 constructor <;> refine fun h=>bj h fun as s h=>?_
 ·split at h
  ·next i j =>
   rw [ng,bB,ft] at h
   split at h
   ·next hk=>exact ⟨i,j,rfl,of_decide_eq_true hk,h⟩
   ·exact h.elim
  ·exact (ft.mp h).elim
 ·obtain ⟨i,j,rfl,h1,h⟩:=h
  simp only [decide_eq_true h1,if_true]
  exact bB.mpr h
theorem QN {δ:au} {fa:au->Dm D} {R:Src->Store->Prop}:Wp (h8 fa δ st) R↔Wp (fa δ st) fun a st1=>∃ ds,a=.tup ds/\R (.fix ds) st1:=by
 unfold h8;rw [dB]
 constructor <;> refine fun h=>bj h fun a s h=>?_
 ·cases a <;> simp only [bB,ft] at h
  exact ⟨_,rfl,h⟩
 ·obtain ⟨j,rfl,h⟩:=h
  exact bB.mpr h
theorem QO {δ:au} {fa:au->Dm D} {R:Src->Store->Prop}:Wp (lx fa δ st) R↔Wp (fa δ st) fun a st1=>∃ i ds,a=.ref i/\items st1 i=some ds/\R (.live i) st1:=by
 unfold lx;rw [dB]
 constructor <;> refine fun h=>bj h fun a s h=>?_
 ·split at h
  ·split at h
   ·next i ds hd=>exact ⟨_,ds,rfl,hd,bB.mp h⟩
   ·exact (ft.mp h).elim
  ·exact (ft.mp h).elim
 ·obtain ⟨i,ds,rfl,hd,h⟩:=h
  simp only [hd]
  exact bB.mpr h
theorem QP {δ:au} {fa:au->Dm (List D)} {R:Src->Store->Prop}:Wp (mG fa δ st) R↔Wp (fa δ st) fun as st1=>∃ ds,as=[.tup ds]/\R (.fix (lO ds)) st1:=by
 unfold mG;rw [dB]
 constructor <;> refine fun h=>bj h fun as s h=>?_
 ·split at h
  ·exact ⟨_,rfl,bB.mp h⟩
  ·exact (ft.mp h).elim
 ·obtain ⟨ds,rfl,h⟩:=h
  exact bB.mpr h
theorem Br {i:Nat} {d:D} {δ:au} {R:au->Store->Prop}:Wp (hName i d δ st) R↔R (δ.set i (some d)) st:=bB
theorem Lq {δ:au} {R:au->Store->Prop}:Wp (lu [] δ st) R↔R δ st:=bB
theorem HB {f:D->au->Dm au} {g:List D->au->Dm au} {d:D} {ds:List D} {δ:au} {R:au->Store->Prop}:Wp (bT f g (d :: ds) δ st) R↔Wp (f d δ st) fun δ1 st1=>Wp (g ds δ1 st1) R:=dB
theorem Lr {n:Nat} {f:List D->au->Dm au} {ds:List D} {δ:au} {R:au->Store->Prop}:Wp (kN n f (.tup ds) δ st) R↔ds.length=n/\Wp (f ds δ st) R:=by
 show Wp (if ds.length=n then f ds δ st else none) R↔_
 rw [ng,ft]
 split
 ·next h=>exact ⟨fun q=>⟨h,q⟩,fun q=>q.2⟩
 ·next h=>exact ⟨False.elim,fun q=>h q.1⟩
theorem QQ {fo fi:au->Dm D} {d:D} {δ:au} {R:au->Store->Prop}:Wp (hSub fo fi d δ st) R↔Wp (fo δ st) fun o st1=>Wp (fi δ st1) fun i st2=>∃ r k xs j,o=.ref r/\i=.int k/\own st2 r=some xs/\j5 xs.length k=some j/\R δ (st2.set r (.lst (xs.set j d))):=by
 unfold hSub;rw [dB];simp only [dB]
 constructor <;> refine fun h=>bj h fun o s h=>bj h fun i s2 h=>?_
 ·split at h
  ·split at h
   ·next xs hx =>
    split at h
    ·next j hj=>exact ⟨_,_,xs,j,rfl,rfl,hx,hj,bB.mp h⟩
    ·exact (ft.mp h).elim
   ·exact (ft.mp h).elim
  ·exact (ft.mp h).elim
 ·obtain ⟨r,k,xs,j,rfl,rfl,hx,hj,h⟩:=h
  simp only [hx,hj]
  exact bB.mpr h
theorem QR {a:D} {c:String}:Wp (nR [a,.ty c] st) Q↔oD st a=some c/\Q (.bl true) st:=by
 constructor
 ·rintro ⟨b,s,e,q⟩
  simp only [nR] at e
  split at e
  ·next T hT =>
   split at e
   ·next h=>cases e;subst h;exact ⟨hT,q⟩
   ·cases e
  ·cases e
 ·rintro ⟨h,q⟩
  refine ⟨_,_,?_,q⟩
  simp only [nR,h,if_true]
theorem Eb {δ:au} {R:Bool->Store->Prop}:Wp (d0 δ st) R↔R true st:=bB
end
theorem r9 {α:Type} (x:α) (xs:List α):gj (x :: xs) 0=some x:=by
 unfold gj j5
 rw [if_pos (by decide),if_pos (by simp only [List.length_cons];omega)]
 rfl
theorem qY {α:Type} (x y:α) (xs:List α):gj (x :: y :: xs) 1=some y:=by
 unfold gj j5
 rw [if_pos (by decide),if_pos (by simp only [List.length_cons];omega)]
 rfl
theorem xM {α:Type} {a:α} {l:List α}:(a :: l)[0]?=some a:=List.getElem?_cons_zero
theorem xN {α:Type} {a:α} {l:List α} {i:Nat}:(a :: l)[i + 1]?=l[i]?:=List.getElem?_cons_succ
theorem xO {α:Type} {a b:α} {l:List α}:(a :: l).set 0 b=b :: l:=List.set_cons_zero
theorem xP {α:Type} {a b:α} {l:List α} {i:Nat}:(a :: l).set (i + 1) b=a :: l.set i b:=List.set_cons_succ
theorem xQ {α:Type} (a b:α):(some a=some b)=(a=b):=Option.some.injEq a b
theorem Bs {α:Type} {p:α->Prop} {a':α}:(∃ a,a'=a/\p a)↔p a':=exists_eq_left'
theorem HC {α:Type} {p:α->Prop} {a':α}:(∃ a,a=a'/\p a)↔p a':=exists_eq_left
theorem Bt {α:Type} {p:α->Prop} {b:Prop}:(∃ x,b/\p x)↔b/\∃ x,p x:=exists_and_left
theorem Bu (a b:Int):(D.int a=D.int b)=(a=b):=D.int.injEq a b
theorem HD (a b:Bool):(D.bl a=D.bl b)=(a=b):=D.bl.injEq a b
theorem Bv (a b:Str):(D.str a=D.str b)=(a=b):=D.str.injEq a b
theorem Bw (a b:List D):(D.tup a=D.tup b)=(a=b):=D.tup.injEq a b
theorem Bx (a b:Nat):(D.ref a=D.ref b)=(a=b):=D.ref.injEq a b
theorem xR {α:Type} (a:α) (l:List α) (b:α) (m:List α):(a :: l=b :: m)=(a=b/\l=m):=List.cons.injEq a l b m
theorem xS {α β:Type} (a:α) (b:β) (c:α) (d:β):((a,b)=(c,d))=(a=c/\b=d):=Prod.mk.injEq a b c d
theorem xT (p:Prop):(p/\True)=p:=and_true p
theorem xU (p:Prop):(True/\p)=p:=true_and p
theorem xV:(!true)=false:=rfl
theorem xW:(!false)=true:=rfl
theorem HE:(false=true)=False:=by simp
theorem By {α:Type} {h:Decidable False} (t e:α):@ite α False h t e=e:=if_false t e
theorem Bz {α:Type} {h:Decidable True} (t e:α):@ite α True h t e=t:=if_true t e
def bw:=And.intro @xi (And.intro @Hw (And.intro @Bf (And.intro @Bg (And.intro @Bh (And.intro @xj (And.intro @P6 (And.intro @xk (And.intro @xl (And.intro @P7 (And.intro @xm (And.intro @xn (And.intro @Bi (And.intro @u5 (And.intro @P8 (And.intro @xo (And.intro @P9 (And.intro @Qa (And.intro @Qb (And.intro @Bj (And.intro @Bk (And.intro @xq (And.intro @xr (And.intro @Bl (And.intro @Bm (And.intro @Bn (And.intro @Bo (And.intro @xt (And.intro @xu (And.intro @Qc (And.intro @xv (And.intro @xw (And.intro @xx (And.intro @xy (And.intro @xA (And.intro @xB (And.intro @xC (And.intro @xD (And.intro @Qd (And.intro @xE (And.intro @xF (And.intro @Qe (And.intro @Qf (And.intro @Qg (And.intro @Qh (And.intro @Qi (And.intro @Qj (And.intro @Qk (And.intro @Ql (And.intro @Qm (And.intro @Qu (And.intro @Qv (And.intro @xH (And.intro @Qw (And.intro @Qx (And.intro @Qy (And.intro @tJ (And.intro @Hz (And.intro @QA (And.intro @QB (And.intro @QC (And.intro @QD (And.intro @QE (And.intro @QF (And.intro @QG (And.intro @QH (And.intro @QI (And.intro @xI (And.intro @QJ (And.intro @QK (And.intro @Ln (And.intro @xJ (And.intro @xK (And.intro @QL (And.intro @QM (And.intro @QN (And.intro @QO (And.intro @QP (And.intro @Br (And.intro @Lq (And.intro @HB (And.intro @Lr (And.intro @QQ (And.intro @QR (And.intro @Eb (And.intro @r9 (And.intro @qY (And.intro @xM (And.intro @xN (And.intro @xO (And.intro @xP (And.intro @xQ (And.intro @Bs (And.intro @HC (And.intro @Bt (And.intro @Bu (And.intro @HD (And.intro @Bv (And.intro @Bw (And.intro @Bx (And.intro @xR (And.intro @xS (And.intro @xT (And.intro @xU (And.intro @xV (And.intro @xW (And.intro @HE (And.intro @By (@Bz))))))))))))))))))))))))))))))))))))))))))))))))))))))))))))))))))))))))))))))))))))))))))))))))))))))))))))
theorem bE {α:Type} {m:Option (α×Store)} {Q:α->Store->Prop} (h:∀ Q':α->Store->Prop,(∀ a st,Q a st->Q' a st)->Wp m Q'):Wp m Q:=h Q fun _ _ h=>h
end L4
namespace L4
open PySem PySem.Spec L2
section
variable {X:Cx} {K:PySem.W.Frag}
end
section
variable {st:Store} {Q:D->Store->Prop}
theorem QS (n:Nat) (L:List Int):dN (mF st (n + 1)) (L.map D.int)=some (i3 L):=A9 (f:=mF st (n + 1)) (g:=D.int) (k:=PyData.int) (fun _=>by simp only [mF]) L
theorem Ls (a b:List PyData):PyData.eqv (.list a) (.list b)=PyData.eqvAll a b:=by simp only [PyData.eqv]
theorem QT (a b:List PyData):PyData.eqv (.tuple a) (.tuple b)=PyData.eqvAll a b:=by simp only [PyData.eqv]
theorem Lu {neg:Bool} {a b:Nat} {L M:List Int} (ha:items st a=some (L.map D.int)) (hb:items st b=some (M.map D.int)):Wp (jl neg (.ref a) (.ref b) st) Q↔Q (.bl (if neg then !decide (L=M) else decide (L=M))) st:=by
 have p1:∀ (i:Nat) (N:List Int),items st i=some (N.map D.int)->mF st 20 (.ref i)=some (.list (i3 N)):=fun i N h=>by
  simp only [mF,h]
  rw [QS];rfl
 have dp:∀ N:List Int,PyData.depth (.list (i3 N))<=1:=fun N=>by show PyData.depthAll (i3 N) + 1<=1;rw [J1];omega
 rw [Lp]
 constructor
 ·rintro ⟨p,q,h1,h2,_,h⟩
  rw [p1 a L ha] at h1
  rw [p1 b M hb] at h2
  cases h1
  cases h2
  rw [Ls,Gv] at h
  exact h
 ·intro h
  refine ⟨_,_,p1 a L ha,p1 b M hb,⟨Gu L,Gu M,by have:=dp L;omega⟩,?_⟩
  rw [Ls,Gv]
  exact h
def QU (rs:List (List Int)):D:=.tup (rs.map fun r=>.tup (r.map D.int))
end
end L4
namespace L4
open PySem PySem.Spec L2
def bh (st:Store) (f:Nat):Prop:=∃ o m:Int,st[f]?=some (.lst [.int o,.int m])/\0<=o/\0<=m/\m < 4294967296
theorem BA:j5 2 0=some 0:=by decide
theorem BB:j5 2 1=some 1:=by decide
theorem tK (n:Nat):aD 0 n=(ag.upto n).map D.int:=by
 unfold aD ag.upto
 rw [List.map_map]
 apply List.map_congr_left
 intro i _
 simp
theorem QV (L:List Int) (j:Nat):(L.map D.int).eraseIdx j=(L.eraseIdx j).map D.int:=by
 induction L generalizing j with
 | nil=>rfl
 | cons a r ih =>
  cases j with
  | zero=>rfl
  | succ j=>show D.int a :: (r.map D.int).eraseIdx j=_;rw [ih];rfl
theorem QW {L:List Int} {j:Nat} (h:j < L.length):(L[j] :: L.eraseIdx j).Perm L:=by
 induction L generalizing j with
 | nil=>exact absurd h (Nat.not_lt_zero _)
 | cons a r ih =>
  cases j with
  | zero=>exact List.Perm.refl _
  | succ j =>
   have:=ih (j:=j) (by simpa using h)
   exact (List.Perm.swap _ _ _).trans (this.cons a)
theorem bh.keep {st st':Store} {f:Nat} (h:bh st f) (e:Ex [] st st'):bh st' f:=by
 obtain ⟨o,m,e1,r⟩:=h
 exact ⟨o,m,e.keep _ _ e1 (by simp),r⟩
theorem bh.ne {st:Store} {f i:Nat} {o:O} (h:bh st f) (hi:i≠f):bh (st.set i o) f:=by
 obtain ⟨x,m,e1,r⟩:=h
 exact ⟨x,m,by rw [List.getElem?_set_ne hi];exact e1,r⟩
theorem bh.lt {st:Store} {f:Nat} (h:bh st f):f < st.length:=let ⟨_,_,e,_⟩:=h;fN e
theorem o5 {xs:List Int} {i:Int} (h0:0<=i) (h1:i < (xs.length:Int)):gj (xs.map D.int) i=some (.int (ag.app xs i)):=by
 have e:(xs.map D.int)[i.toNat]?=some (.int (ag.app xs i)):=by rw [List.getElem?_map,ag.ow h0 h1];rfl
 have:=Du e
 rwa [Int.toNat_of_nonneg h0] at this
theorem Ec {xs:List Int} {i:Nat} {d:D} (h:(xs.map D.int)[i]?=some d):∃ x,xs[i]?=some x/\d=.int x:=by
 rw [List.getElem?_map] at h
 obtain ⟨x,h1,h2⟩:=Option.map_eq_some_iff.mp h
 exact ⟨x,h1,h2.symm⟩
theorem HF (x:Int):∀ (ns:List Int),uB (.int x) (ns.map V.int)=ns.contains x
 | []=>rfl
 | n :: r=>by
  have e:=HF x r
  unfold uB at e ⊢
  rw [List.map_cons,List.any_cons,e,List.contains_cons]
  congr 1
  show (n == x)=(x == n)
  exact Bool.beq_comm
theorem Lv {st:Store} {Q:D->Store->Prop} {neg:Bool} {x:Int} {c:D} {ns:List Int} (hc:dO st c=some (ns.map D.int)):Wp (rS neg (.int x) c st) Q↔Q (.bl (if neg then !ns.contains x else ns.contains x)) st:=by
 rw [Bq]
 constructor
 ·rintro ⟨v,ds,vs,h1,h2,h3,h⟩
  cases h1
  rw [hc] at h2
  cases h2
  rw [Lo] at h3
  cases h3
  rw [HF] at h
  exact h
 ·intro h
  refine ⟨_,_,_,rfl,hc,Lo ns,?_⟩
  rw [HF]
  exact h
def cu (xs ys:List Int):D:=.tup [.tup (xs.map D.int),.tup (ys.map D.int)]
structure nT (lX st:Store) (f r u:Nat) (n:Nat) (X Y:List Int):Prop where
 hr:st[r]?=some (.lst (X.map D.int))
 hu:st[u]?=some (.lst (Y.map D.int))
 ne:r≠u
 r0:lX.length<=r
 u0:lX.length<=u
 tX:ag.Tn n X
 tY:ag.Tn n Y
 fd:bh st f
 ex:Ex [f] lX st
section
variable {lX st st':Store} {f r u n:Nat} {X Y Z:List Int} {o:O}
theorem nT.keep (h:nT lX st f r u n X Y) (e:Ex [] st st'):nT lX st' f r u n X Y:=⟨e.keep _ _ h.hr (by simp),e.keep _ _ h.hu (by simp),h.ne,h.r0,h.u0,h.tX,h.tY,h.fd.keep e,h.ex.trans e.any⟩
theorem nT.xX (h:nT lX st f r u n X Y) (t:ag.Tn n Z):nT lX (st ++ [.lst (Z.map D.int)]) f st.length u n Z Y:=⟨j8,gu h.hu,by have:=fN h.hu;omega,h.ex.len,h.u0,t,h.tY,h.fd.keep (Ex.cf _),h.ex.app _⟩
theorem nT.xY (h:nT lX st f r u n X Y) (t:ag.Tn n Z):nT lX (st ++ [.lst (Z.map D.int)]) f r st.length n X Z:=⟨gu h.hr,j8,by have:=fN h.hr;omega,h.r0,h.ex.len,h.tX,t,h.fd.keep (Ex.cf _),h.ex.app _⟩
theorem nT.put (h:nT lX st f r u n X Y) (t:ag.Tn n Z) (hf:f < lX.length):nT lX (st.set r (.lst (Z.map D.int))) f r u n Z Y:=⟨List.getElem?_set_self (fN h.hr),by rw [List.getElem?_set_ne h.ne];exact h.hu,h.ne,h.r0,h.u0,t,h.tY,h.fd.ne (by have:=h.r0;omega),h.ex.loc h.r0⟩
end
theorem Lw (n:Nat):(ag.pI n).map D.int=aD 1 ((n:Int) - 1).toNat ++ [.int 0]:=by
 unfold ag.pI aD
 rw [List.map_append,List.map_map,show ((n:Int) - 1).toNat=n - 1 by omega]
 rfl
theorem u6 {lo hi:Int} (h:0<=lo/\lo<=10000/\0<=hi/\hi<=10000):qc lo hi=true:=by
 unfold qc;rw [Bool.and_eq_true,decide_eq_true_eq];exact ⟨by omega,ja (by omega)⟩
theorem xZ (w n:Nat):(ag.qM w n).map D.int=aD 1 ((w:Int) - 1).toNat ++ [.int 0] ++ aD (w:Int) ((n:Int) - (w:Int)).toNat:=by
 unfold ag.qM aD
 rw [List.map_append,List.map_append,List.map_map,List.map_map,show ((w:Int) - 1).toNat=w - 1 by omega,show ((n:Int) - (w:Int)).toNat=n - w by omega]
 rfl
theorem Ed (xs:List D) (j:Nat):cutD xs none (some (j:Int))=xs.take j:=by
 unfold cutD
 rw [HT.Nj,HT.Nk,List.drop_zero,Nat.sub_zero,List.take_eq_take_iff];omega
theorem x3 {w n:Nat} (h0:0 < w) (h:w < n):(ag.sT w n).map D.int=cutD ([D.int (w:Int)] ++ aD 1 ((w:Int) - 1).toNat ++ aD ((w:Int) + 1) ((n:Int) - ((w:Int) + 1)).toNat ++ [.int 0]) none (some (n:Int)):=by
 rw [Ed,List.take_of_length_le (by simp [dZ];omega)]
 unfold ag.sT aD
 rw [List.map_append,List.map_append,List.map_append,List.map_map,List.map_map,show ((w:Int) - 1).toNat=w - 1 by omega,show ((n:Int) - ((w:Int) + 1)).toNat=n - (w + 1) by omega]
 rfl
def HG (n:Nat) (xs ys:List Int):Prop:=ag.Tn n xs/\ag.Tn n ys/\∀ x:Int,0<=x->x < (n:Int)->ag.kI xs ys x
theorem Lx {xs:List Int} {v:Int} (h:v∈xs):xs.findIdx? (fun i=>decide (i=v))=some (xs.idxOf v):=by
 induction xs with
 | nil=>exact nomatch h
 | cons a r ih =>
  rw [List.findIdx?_cons]
  by_cases e:a=v
  ·subst e;simp
  ·have hm:v∈r:=by
    rcases List.mem_cons.mp h with h | h
    ·exact absurd h.symm e
    ·exact h
   rw [decide_eq_false e,ih hm,List.idxOf_cons,show (a == v)=false by simpa using e]
   rfl
theorem Ly {xs:List D} {lo hi:Option Int} {d:D} (h:d∈cutD xs lo hi):d∈xs:=List.mem_of_mem_drop (List.mem_of_mem_take h)
theorem Lz (xs:List D) (lo hi:Option Int):(cutD xs lo hi).length<=xs.length:=by
 unfold cutD;rw [List.length_take,List.length_drop];omega
theorem QX (n:Nat):dN bV (List.replicate n (.bl true))=some (List.replicate n true):=by
 have:=A9 (f:=bV) (g:=D.bl) (k:=id) (fun _=>rfl) (List.replicate n true)
 simpa using this
def qZ (S:Src) (ds:List D) (st:Store):Prop:=∀ (i:Nat) (st2:Store),i<=ds.length->Ex [] st st2->S.at i st2=some ds[i]?
theorem LA {st st':Store} {r:Nat} {ds:List D} (h:items st r=some ds) (e:Ex [] st st'):items st' r=some ds:=by
 unfold items at h ⊢
 cases hx:st[r]? with
 | none=>rw [hx] at h;cases h
 | some o=>rw [e.keep _ _ hx (by simp)];rw [hx] at h;exact h
theorem sd (ds:List D) (st:Store):qZ (.fix ds) ds st:=fun i st2 hi _=>by
 show (if i<=ds.length then some ds[i]? else none)=_
 rw [if_pos hi]
theorem y8 {δ:au} {st:Store} {fi:au->Dm Src} {js:List Nat} {f:au->Dm D} {Q:D->Store->Prop} (ds:List D) (h:D->D) (hi:Wp (fi δ st) fun S st1=>qZ S ds st1/\Ex [] st st1) (hl:ds.length < 100000)
  (step:∀ d∈ds,∀ st1,Ex [] st st1->Wp (f (some d :: js.map fun j=>δ.getD j none) st1) fun y st2=>y=h d/\Ex [] st1 st2) (fin:∀ st',Ex [] st st'->Q (.ref st'.length) (st' ++ [.lst (ds.map h)])):Wp (dQ fi 1 js (hName 0) d0 f δ st) Q:=by
 obtain ⟨S,st1,e1,hS,k1⟩:=hi
 refine D7 ds (fun i ys δ' jd=>(∃ v,δ'=v :: js.map fun j=>δ.getD j none)/\ys=(ds.take i).map h/\Ex [] st1 jd) ⟨S,st1,e1,fun i ys δ' jd hi' hp=>hS i jd hi' hp.2.2,⟨none,rfl⟩,rfl,Ex.refl⟩ hl ?_ ?_ ?_
 ·rintro i ys δ' jd ⟨_,rfl,_⟩
  rw [List.length_map,List.length_take];omega
 ·rintro i d ys δ' jd hd ⟨⟨v,rfl⟩,rfl,k8⟩
  rw [Br]
  show Wp (d0 _ _) _
  rw [Eb]
  refine ⟨fun _=>?_,fun h=>absurd h (by decide)⟩
  refine bj (step d (List.mem_of_getElem? hd) jd (k1.trans k8)) ?_
  rintro y oG ⟨rfl,k9⟩
  refine ⟨⟨some d,rfl⟩,?_,k8.trans k9⟩
  obtain ⟨hlt,e⟩:=List.getElem?_eq_some_iff.mp hd
  rw [List.take_succ_eq_append_getElem hlt,List.map_append,e];rfl
 ·rintro ys δ' jd ⟨_,rfl,k8⟩
  rw [List.take_length]
  exact fin jd (k1.trans k8)
theorem Ee {xs:List Int} {d:D} (h:d∈xs.map D.int):∃ x∈xs,d=.int x:=by
 obtain ⟨x,hx,rfl⟩:=List.mem_map.mp h
 exact ⟨x,hx,rfl⟩
theorem Ef {xs:List Int} {f:Int->Int} {h:D->D} (e:∀ x∈xs,h (.int x)=.int (f x)):(xs.map D.int).map h=(xs.map f).map D.int:=by
 rw [List.map_map,List.map_map]
 exact List.map_congr_left fun x hx=>e x hx
def inD:D->Int
 | .int i=>i
 | _=>0
section
variable {st:Store} {Q:D->Store->Prop}
end
end L4
namespace L4
open PySem PySem.Spec L2
theorem x4 (p:Key×D) (r:List (Key×D)) (k:Key):dR (p :: r) k=if p.1=k then some p.2 else dR r k:=by
 unfold dR
 rw [List.find?_cons]
 by_cases e:p.1=k
 ·rw [decide_eq_true e,if_pos e];rfl
 ·rw [decide_eq_false e,if_neg e]
theorem QY (kvs:List (Key×D)) (k j:Key) (y:D):dR (putD kvs k y) j=if j=k then some y else dR kvs j:=by
 unfold putD
 by_cases a:(kvs.any fun kv=>decide (kv.1=k))=true
 ·rw [if_pos a]
  induction kvs with
  | nil=>simp at a
  | cons p r ih =>
   rw [List.map_cons,x4,x4]
   by_cases e:p.1=k
   ·rw [if_pos e]
    by_cases ej:j=k
    ·rw [if_pos ej,if_pos (show (p.1,y).1=j from e.trans ej.symm)]
    ·rw [if_neg ej,if_neg (show ¬ (p.1,y).1=j from fun z=>ej (z.symm.trans e)),if_neg (fun z=>ej (z.symm.trans e))]
     have:∀ l:List (Key×D),dR (l.map fun kv=>if kv.1=k then (kv.1,y) else kv) j=dR l j:=by
      intro l
      induction l with
      | nil=>rfl
      | cons q l ihl =>
       rw [List.map_cons,x4,x4,ihl]
       by_cases eq:q.1=k
       ·rw [if_pos eq,if_neg (show ¬ (q.1,y).1=j from fun z=>ej (z.symm.trans eq)),if_neg (fun z=>ej (z.symm.trans eq))]
       ·rw [if_neg eq]
     exact this r
   ·rw [if_neg e]
    have a':(r.any fun kv=>decide (kv.1=k))=true:=by
     rw [List.any_cons,decide_eq_false e,Bool.false_or] at a
     exact a
    rw [ih a']
    by_cases ej:j=k
    ·rw [if_pos ej,if_neg (fun z=>e (z.trans ej)),if_pos ej]
    ·rw [if_neg ej,if_neg ej]
 ·rw [if_neg a]
  induction kvs with
  | nil =>
   show dR [(k,y)] j=_
   rw [x4]
   by_cases ej:j=k
   ·rw [if_pos ej.symm,if_pos ej]
   ·rw [if_neg (fun z=>ej z.symm),if_neg ej]
  | cons p r ih =>
   have a':¬ (r.any fun kv=>decide (kv.1=k))=true:=fun z=>a (by rw [List.any_cons,z,Bool.or_true])
   have ep:p.1≠k:=fun z=>a (by rw [List.any_cons,decide_eq_true z,Bool.true_or])
   rw [List.cons_append,x4,ih a',x4]
   by_cases ej:j=k
   ·rw [if_pos ej,if_pos ej,if_neg (fun z=>ep (z.trans ej))]
   ·rw [if_neg ej,if_neg ej]
theorem QZ (kvs:List (Key×D)) (k:Key) (v:D):(putD kvs k v).length<=kvs.length + 1:=by
 unfold putD
 split
 ·rw [List.length_map];omega
 ·rw [List.length_append,List.length_cons,List.length_nil];omega
theorem Eg {st:Store} {i:Nat} {kvs:List (Key×D)} (h:st[i]?=some (.dct kvs)):jo st (.ref i)=some kvs:=by simp only [jo,h]
theorem LB (i:Int):keyOf (.int i)=some (.inl i):=rfl
theorem Q0 {r:List Int} {j:Nat} (h:j < r.length) (x:Int):(r.take (j + 1)).contains x=((r.take j).contains x || x == r[j]):=by
 rw [List.take_succ_eq_append_getElem h,List.contains_append]
 congr 1
 show ([r[j]]:List Int).contains x=(x == r[j])
 rw [List.contains_cons,List.contains_nil,Bool.or_false]
end L4
namespace L4
open PySem PySem.Spec L2
abbrev dY:=Bool×Int
def bq (s:dY):D:=.tup [.str (if s.1 then "s" else "t"),.int s.2]
end L4
namespace L4
open PySem PySem.Spec L2
section
variable {X:Cx} {K:PySem.W.Frag}
end
end L4
namespace L4
open PySem PySem.Spec L2
section
variable {K:PySem.W.Frag}
end
section
variable {X:Cx}
end
theorem at2 {α:Type} (x y z:α) (xs:List α):gj (x :: y :: z :: xs) 2=some z:=by
 unfold gj j5
 rw [if_pos (by decide),if_pos (by simp only [List.length_cons];omega)]
 rfl
theorem LC {α:Type} (x y z u:α) (xs:List α):gj (x :: y :: z :: u :: xs) 3=some u:=by
 unfold gj j5
 rw [if_pos (by decide),if_pos (by simp only [List.length_cons];omega)]
 rfl
section
variable {st:Store} {Q:D->Store->Prop}
theorem LD {neg a b:Bool}:Wp (hV neg (.bl a) (.bl b) st) Q↔Q (.bl (if neg then !decide (a=b) else decide (a=b))) st:=by
 have e:decide (V.bl a=V.bl b)=decide (a=b):=by
  by_cases h:a=b
  ·subst h;simp
  ·simp [h]
 show Wp (if my (V.bl a) (V.bl b)=true then some (D.bl (if neg then !decide (V.bl a=V.bl b) else decide (V.bl a=V.bl b)),st) else none) Q↔_
 rw [if_pos (show my _ _=true from rfl),bB,e]
end
theorem LF {δ:au} {st:Store} {fi:au->Dm Src} {js:List Nat} {f:au->Dm D} {Q:D->Store->Prop} (ds:List D) (P:Nat->D->Prop) (I:Store->Prop)
  (hi:Wp (fi δ st) fun S st1=>(∀ i st2,i<=ds.length->I st2->S.at i st2=some ds[i]?)/\I st1) (hl:ds.length < 100000)
  (step:∀ i d,ds[i]?=some d->∀ st1,I st1->Wp (f (some d :: js.map fun j=>δ.getD j none) st1) fun y st2=>P i y/\I st2)
  (fin:∀ ys st',I st'->ys.length=ds.length->(∀ i y,ys[i]?=some y->P i y)->Q (.ref st'.length) (st' ++ [.lst ys])):Wp (dQ fi 1 js (hName 0) d0 f δ st) Q:=by
 obtain ⟨S,st1,e1,hS,k1⟩:=hi
 refine D7 ds (fun i ys δ' jd=>(∃ v,δ'=v :: js.map fun j=>δ.getD j none)/\ys.length=i/\(∀ i y,ys[i]?=some y->P i y)/\I jd) ⟨S,st1,e1,fun i ys δ' jd hi' hp=>hS i jd hi' hp.2.2.2,⟨none,rfl⟩,rfl,(fun i y h=>by simp at h),k1⟩ hl ?_ ?_ ?_
 ·rintro i ys δ' jd ⟨_,h,_⟩
  omega
 ·rintro i d ys δ' jd hd ⟨⟨v,rfl⟩,hlen,hP,k8⟩
  rw [Br]
  show Wp (d0 _ _) _
  rw [Eb]
  refine ⟨fun _=>?_,fun h=>absurd h (by decide)⟩
  refine bj (step i d hd jd k8) ?_
  rintro y oG ⟨hp,k9⟩
  refine ⟨⟨some d,rfl⟩,by rw [List.length_append,hlen];rfl,fun j z hz=>?_,k9⟩
  by_cases hj:j < ys.length
  ·rw [List.getElem?_append_left hj] at hz;exact hP j z hz
  ·have hb:=fN hz
   rw [List.length_append,List.length_singleton] at hb
   have e:j=ys.length:=by omega
   subst e
   rw [List.getElem?_append_right (Nat.le_refl _),Nat.sub_self] at hz
   cases hz
   rw [hlen];exact hp
 ·rintro ys δ' jd ⟨_,hlen,hP,k8⟩
  exact fin ys jd k8 hlen hP
end L4
namespace L4
open PySem PySem.Spec L2
def Q5:D->Option Str
 | .str x=>some x
 | _=>none
def q5 (neg:Bool):D->D->Dm D
 | .str x,.str y,st=>some (.bl (if neg then !(!(Builtin.Str.occurrences y x 0 y.length 1).isEmpty) else !(Builtin.Str.occurrences y x 0 y.length 1).isEmpty),st)
 | _,_,_=>none
def y9 (x:Str):List D:=x.cps.toList.map fun c=>.str ⟨#[c]⟩
section
variable {K:PySem.W.Frag}
theorem LG (neg:Bool):mf K (fun x y H Q=>∃ i j,x=.str i/\y=.str j/\Q (.bl (if neg then !(!(Builtin.Str.occurrences j i 0 j.length 1).isEmpty) else !(Builtin.Str.occurrences j i 0 j.length 1).isEmpty)) H) (q5 neg):=by
 intro ρ H st x y a c b st' Q l rx ry e q
 unfold q5 at e
 split at e
 ·cases e
  cases rx
  cases ry
  exact ⟨_,_,rfl,rfl,q _ H ρ .refl l (.bl _)⟩
 ·cases e
end
section
variable {st:Store} {Q:D->Store->Prop}
theorem BD {neg:Bool} {x y:Str}:Wp (q5 neg (.str x) (.str y) st) Q↔Q (.bl (if neg then !(!(Builtin.Str.occurrences y x 0 y.length 1).isEmpty) else !(Builtin.Str.occurrences y x 0 y.length 1).isEmpty)) st:=bB
end
end L4
namespace L4
open PySem PySem.Spec L2
def BE:D->Option (List D)
 | .tup ds=>some ds
 | .str x=>some (y9 x)
 | _=>none
def jq:List D->List D->List D
 | a :: r,b :: t=>.tup [a,b] :: jq r t
 | _,_=>[]
theorem LH:∀ {ds es:List D} {i:Nat} {d:D},(jq ds es)[i]?=some d->∃ a b,ds[i]?=some a/\es[i]?=some b/\d=.tup [a,b]
 | a :: r,b :: t,0,d,h=>⟨a,b,rfl,rfl,(Option.some.inj h).symm⟩
 | a :: r,b :: t,i + 1,d,h=>LH (ds:=r) (es:=t) (i:=i) h
 | [],_,_,_,h=>by simp [jq] at h
 | _ :: _,[],_,_,h=>by simp [jq] at h
theorem LI:∀ {ds es:List D} {i:Nat},i<=(jq ds es).length->(jq ds es)[i]?=none->(i=ds.length/\i<=es.length)\/(i < ds.length/\i=es.length)
 | [],es,i,h,_=>by
  have:i=0:=by simpa [jq] using h
  subst this
  exact .inl ⟨rfl,Nat.zero_le _⟩
 | a :: r,[],i,h,_=>by
  have:i=0:=by simpa [jq] using h
  subst this
  exact .inr ⟨Nat.succ_pos _,rfl⟩
 | a :: r,b :: t,0,_,h=>by simp [jq] at h
 | a :: r,b :: t,i + 1,h,hn=>by
  have h1:i<=(jq r t).length:=by simp only [jq,List.length_cons] at h;omega
  have h2:(jq r t)[i]?=none:=by simpa [jq] using hn
  have:=LI (ds:=r) (es:=t) h1 h2
  simp only [List.length_cons]
  omega
theorem LJ {α:Type} (f g:α->D):∀ (l:List α),jq (l.map f) (l.map g)=l.map fun x=>.tup [f x,g x]
 | []=>rfl
 | a :: r=>by simp only [List.map_cons,jq,LJ f g r]
def pS (fa:au->Dm (List D)):au->Dm Src:=fun δ st=>bnd (fa δ st) fun as st1=>match as with
 | [a,b]=>match BE a,BE b with
  | some ds,some es=>some (.fix (jq ds es),st1)
  | _,_=>none
 | _=>none
section
variable {K:PySem.W.Frag}
theorem vd {ρ:List Addr} {H:Hp} {x:V} {a:D} {ds:List D} (r:Rp K ρ H x a) (h:BE a=some ds):∃ src:ZS,src.val K H x/\∀ (ρ2:List Addr) (H2:Hp),Mn K ρ H ρ2 H2->∀ i,(∀ d,ds[i]?=some d->∃ v,src.has K H2 i v/\Rp K ρ2 H2 v d)/\(i=ds.length->src.fin K H2 i):=by
 cases r with
 | non=>cases h
 | bl b=>cases h
 | int i=>cases h
 | ty n=>cases h
 | ref e=>cases h
 | str x =>
  cases h
  refine ⟨.str x,rfl,fun ρ2 H2 m i=>⟨fun d hd=>?_,fun e=>?_⟩⟩
  ·unfold y9 at hd
   rw [List.getElem?_map] at hd
   obtain ⟨c,hc,rfl⟩:=Option.map_eq_some_iff.mp hd
   exact ⟨_,⟨c,by simpa using hc,rfl⟩,.str _⟩
  ·show x.cps.size=i
   rw [e];simp [y9]
 | tup s r =>
  cases h
  refine ⟨.tup _,⟨rfl,_,s⟩,fun ρ2 H2 m i=>⟨fun d hd=>?_,fun e=>?_⟩⟩
  ·obtain ⟨v,hv,rv⟩:=r.got hd
   exact ⟨v,⟨_,m.t _ _ s,hv⟩,rv.mn m⟩
  ·exact ⟨_,m.t _ _ s,by rw [r.length];exact e.symm⟩
theorem Q6 {t:TA} {fa:au->Dm (List D)} (ha:pM K t fa):tG K (AQ K t) (pS fa):=by
 intro ρ σ H δ st S st' Q l rs e q
 obtain ⟨as,st1,e1,e⟩:=dA e
 split at e
 ·next a b =>
  split at e
  ·next ds es h1 h2 =>
   cases e
   refine ha ρ σ H δ st _ _ _ l rs e1 fun xs H1 ρ1 m1 l1 r1=>?_
   obtain ⟨x,y,rfl,rx,ry⟩:=r1.two'
   obtain ⟨s1,v1,g1⟩:=vd rx h1
   obtain ⟨s2,v2,g2⟩:=vd ry h2
   refine ⟨x,y,s1,s2,rfl,v1,v2,q _ H1 ρ1 m1 l1 fun ρ2 H2 st2 i m2 l2=>⟨fun h=>?_,fun d h=>?_⟩⟩
   ·obtain ⟨hl,hn⟩:=ql h
    have HI:i < es.length->∃ y,s2.has K H2 i y:=fun hi=>by
     obtain ⟨v,hv,_⟩:=(g2 ρ2 H2 m2 i).1 es[i] (List.getElem?_eq_getElem hi)
     exact ⟨v,hv⟩
    rcases LI hl hn with ⟨e1,e2⟩ | ⟨e1,e2⟩
    ·refine .inl ⟨(g1 ρ2 H2 m2 i).2 e1,?_⟩
     rcases Nat.lt_or_ge i es.length with hi | hi
     ·exact .inr (HI hi)
     ·exact .inl ((g2 ρ2 H2 m2 i).2 (by omega))
    ·obtain ⟨v,hv,_⟩:=(g1 ρ2 H2 m2 i).1 ds[i] (List.getElem?_eq_getElem e1)
     exact .inr ⟨⟨v,hv⟩,(g2 ρ2 H2 m2 i).2 e2⟩
   ·obtain ⟨c,b,hc,hb,rfl⟩:=LH (ql h).2
    obtain ⟨v,hv,rv⟩:=(g1 ρ2 H2 m2 i).1 c hc
    obtain ⟨w,hw,rw'⟩:=(g2 ρ2 H2 m2 i).1 b hb
    refine ⟨⟨v,w,hv,hw⟩,fun z H3 hz=>?_⟩
    obtain ⟨p,v',w',rfl,hp,rfl,k1,k2⟩:=hz
    cases k1 _ hv
    cases k2 _ hw
    have m3:Mn K ρ2 H2 ρ2 (upd H2 p (.tup [v,w])):=Mn.same (hU.up hp)
    exact ⟨m3,l2.same (hU.up hp),.tup (eZ.of pW) (.cons (rv.mn m3) (.one (rw'.mn m3)))⟩
  ·cases e
 ·cases e
end
section
variable {st:Store}
theorem Q7 {δ:au} {fa:au->Dm (List D)} {R:Src->Store->Prop}:Wp (pS fa δ st) R↔Wp (fa δ st) fun as st1=>∃ a b ds es,as=[a,b]/\BE a=some ds/\BE b=some es/\R (.fix (jq ds es)) st1:=by
 unfold pS;rw [dB]
 constructor <;> refine fun h=>bj h fun as s h=>?_
 ·split at h
  ·next a b =>
   split at h
   ·next ds es h1 h2=>exact ⟨a,b,ds,es,rfl,h1,h2,bB.mp h⟩
   ·exact (ft.mp h).elim
  ·exact (ft.mp h).elim
 ·obtain ⟨a,b,ds,es,rfl,h1,h2,h⟩:=h
  simp only [h1,h2]
  exact bB.mpr h
end
def tL:List String:=["NoneType","bool","int","str","tuple","list","dict"]
def tM:List String:=["bool","int","str","tuple","list","dict"]
def x5 (T c:String):Option Bool:=if tL.contains T && tM.contains c then some (T == c || (T == "bool" && c == "int")) else none
def ek (T:String):List String->Option Bool
 | []=>some false
 | c :: r=>match x5 T c with
  | some true=>some true
  | some false=>ek T r
  | none=>none
def LK:D->Option String
 | .ty n=>some n
 | _=>none
def o6:D->Option (List String)
 | .ty n=>some [n]
 | .tup ds=>dN LK ds
 | _=>none
def kP:List D->Dm D
 | [a,c],st=>match oD st a,o6 c with
  | some T,some cs=>match ek T cs with
   | some b=>some (.bl b,st)
   | none=>none
  | _,_=>none
 | _,_=>none
theorem za {st:Store} {Q:D->Store->Prop} {a c:D} {T:String} {cs:List String} {b:Bool} (h:oD st a=some T) (hc:o6 c=some cs) (hb:ek T cs=some b):Wp (kP [a,c] st) Q↔Q (.bl b) st:=by
 have e:kP [a,c] st=some (.bl b,st):=by simp only [kP,h,hc,hb]
 rw [e,bB]
section
variable {X:Cx} {K:PySem.W.Frag}
theorem Eh (K:PySem.W.Frag) {T c:String} {b:Bool} (h:x5 T c=some b):PySem.W.kitOne K (.type T) (.type c)=some b:=by
 have hh:tL.contains T=true/\tM.contains c=true:=by
  unfold x5 at h
  split at h
  ·next g=>simpa using g
  ·cases h
 have h1:T∈tL:=List.contains_iff_mem.mp hh.1
 have h2:c∈tM:=List.contains_iff_mem.mp hh.2
 unfold tL at h1
 unfold tM at h2
 simp only [List.mem_cons,List.not_mem_nil,or_false] at h1 h2
 rcases h1 with rfl | rfl | rfl | rfl | rfl | rfl | rfl <;> rcases h2 with rfl | rfl | rfl | rfl | rfl | rfl <;> (cases h;rfl)
theorem LL (K:PySem.W.Frag) {T:String}:∀ {cs:List String} {b:Bool},ek T cs=some b->PySem.W.kitAny K (.type T) (cs.map Value.type)=some b
 | [],b,h=>by cases h;rfl
 | c :: r,b,h=>by
  simp only [ek] at h
  split at h
  ·next e=>cases h;simp only [List.map_cons,PySem.W.kitAny,Eh K e]
  ·next e=>simp only [List.map_cons,PySem.W.kitAny,Eh K e];exact LL K h
  ·cases h
def HJ (K:PySem.W.Frag) (H:Hp) (x:V) (T:String):Prop:=lS K H x (.type T)\/(T="tuple" /\ ∃ a ys,x=.ref a/\eZ K H a ys)
def BF (K:PySem.W.Frag):List V->Hp->VK->Prop:=fun xs H Q=>∃ x c T cs b,xs=[x,c]/\HJ K H x T/\((∃ n,c=.ty n/\cs=[n])\/∃ p,c=.ref p/\eZ K H p (cs.map V.ty))/\ek T cs=some b/\Q (.bl b) H
theorem Q8 {pins:List (Addr×Obj)} {σ:St} {H:Hp} {s:Shared} {x:V} {u:Value} {T:String} (I:Inv X pins σ H s) (rx:RelV x u) (ty:HJ X.K H x T):∃ Hh,PySem.W.KitX X.K u (.type T) Hh/\Hh s.heap/\u≠.builtin "__main__.__loader__#opaque" := by
 rcases ty with ty | ⟨rfl,a,ys,rfl,hs⟩
 ·generalize ht:Value.type T=t at ty
  cases ty with
  | non=>cases ht;cases (show u=Value.none from rx);exact ⟨_,PySem.W.kitx_none,True.intro,fun z=>nomatch z⟩
  | bl y=>cases ht;cases (show u=Value.bool y from rx);exact ⟨_,PySem.W.kitx_bool,True.intro,fun z=>nomatch z⟩
  | int i=>cases ht;obtain ⟨t,q⟩:=(show ∃ t,u=Value.int i t from rx);cases q;exact ⟨_,PySem.W.kitx_int,True.intro,fun z=>nomatch z⟩
  | str y=>cases ht;obtain ⟨t,q⟩:=(show ∃ t,u=Value.str y t from rx);cases q;exact ⟨_,PySem.W.kitx_str,True.intro,fun z=>nomatch z⟩
  | yz y=>cases ht;obtain ⟨t,q⟩:=(show ∃ t,u=Value.float y t from rx);cases q;exact ⟨_,PySem.W.kitx_float,True.intro,fun z=>nomatch z⟩
  | @lst a xs ea =>
   cases ht
   cases (show u=Value.ref a from rx)
   obtain ⟨_,_,n,_,h1⟩:=(show cb X.prog X.w H s.heap a (.lst xs) from I.hok a _ ea)
   exact ⟨_,PySem.W.kitx_list,⟨_,h1,rfl⟩,fun z=>nomatch z⟩
  | @mr a ob xs ea =>
   cases ht
   cases (show u=Value.ref a from rx)
   obtain ⟨_,_,_,n,_,h1⟩:=(show cb X.prog X.w H s.heap a (.mr ob (.lst xs)) from I.hok a _ ea)
   exact ⟨_,PySem.W.kitx_list,⟨_,h1,rfl⟩,fun z=>nomatch z⟩
  | @tup a xs ea =>
   cases ht
   cases (show u=Value.ref a from rx)
   obtain ⟨_,_,_,p⟩:=(show cb X.prog X.w H s.heap a (.tup xs) from I.hok a _ ea)
   obtain ⟨o,h1,h2,_⟩:=p
   exact ⟨_,PySem.W.kitx_tuple,⟨o,h1,h2⟩,fun z=>nomatch z⟩
  | @dK a kvs ea =>
   cases ht
   cases (show u=Value.ref a from rx)
   obtain ⟨_,_,vs,_,p⟩:=(show cb X.prog X.w H s.heap a (.dK kvs) from I.hok a _ ea)
   obtain ⟨o,es,ep,h1,h2,_⟩:=p
   exact ⟨_,PySem.W.kitx_dict,⟨o,h1,h2.1⟩,fun z=>nomatch z⟩
  | @dT a kvs ea =>
   cases ht
   cases (show u=Value.ref a from rx)
   obtain ⟨_,_,xs,_,o,es,ep,h1,h2,_⟩:=(show cb X.prog X.w H s.heap a (.dT kvs) from I.hok a _ ea)
   exact ⟨_,PySem.W.kitx_dict,⟨o,h1,h2.1⟩,fun z=>nomatch z⟩
  | ins=>cases ht
 ·cases (show u=Value.ref a from rx)
  obtain ⟨its,_,⟨o,h1,h2,_⟩,_⟩:=I.tuple hs
  exact ⟨_,PySem.W.kitx_tuple,⟨o,h1,h2⟩,fun z=>nomatch z⟩
theorem LM:∀ {cs:List String} {us:List Value},Vals (cs.map V.ty) us->us=cs.map Value.type
 | [],us,h=>by
  cases us with
  | nil=>rfl
  | cons a b=>cases h
 | x :: xs,us,h=>by
  cases us with
  | nil=>cases h
  | cons u us =>
   cases h with
   | cons r t =>
    rw [LM t]
    cases (show u=Value.type x from r)
    rfl
theorem tN:hJ X (.builtin "isinstance") (BF X.K):=by
 intro pins s σ H xs us Q I r h
 obtain ⟨x,c,T,cs,b,rfl,ty,hc,hb,q⟩:=h
 obtain ⟨u,u',rfl,ru,LN⟩:=vals2 r
 obtain ⟨Hh,Z,hh,hx⟩:=Q8 I ru ty
 have fin:∀ tk,EP X pins σ Q (.bool b) { s with toks:=tk }:=fun tk=>⟨.bl b,H,I.tok tk,rfl,q⟩
 have ka:=LL X.K hb
 rcases hc with ⟨n,rfl,rfl⟩ | ⟨p,rfl,hp⟩
 ·cases (show u'=Value.type n from LN)
  refine PySem.W.kia_one Z I.yE hh ?_ hx fin
  simp only [ek] at hb
  split at hb
  ·next e=>cases hb;exact Eh _ e
  ·next e=>cases hb;exact Eh _ e
  ·cases hb
 ·cases (show u'=Value.ref p from LN)
  obtain ⟨its,rv,⟨⟨oc,od,Q9,osl⟩,e,h2,h3,n,h4⟩,_⟩:=I.nA hp
  cases (show oc=.type "tuple" from h2)
  cases (show Q9=.seq its.toArray n from h4)
  cases LM rv
  exact PySem.W.kia_tup Z I.yE hh e ka hx fin
theorem x6 {ρ:List Addr} {H:Hp} {st:Store} {v:V} {a:D} {T:String} (l:Rl K ρ H st) (r1:Rp K ρ H v a) (hT:oD st a=some T):HJ K H v T:=by
 cases r1 <;> simp only [oD] at hT
 ·cases hT;exact .inl .non
 ·cases hT;exact .inl (.bl _)
 ·cases hT;exact .inl (.int _)
 ·cases hT;exact .inl (.str _)
 ·cases hT
 ·next hi =>
  split at hT
  ·next ds hs=>cases hT;obtain ⟨vs,e1,_⟩:=l.obj _ _ _ hi hs;exact .inl (.lst e1)
  ·next ds hs=>cases hT;obtain ⟨vs,e1,_⟩:=l.obj _ _ _ hi hs;exact .inl (.dK e1)
  ·cases hT
 ·next hs hr=>cases hT;exact .inr ⟨rfl,_,_,rfl,hs⟩
theorem LO {ρ:List Addr} {H:Hp}:∀ {ws:List V} {ds:List D} {ns:List String},cO K ρ H ws ds->dN LK ds=some ns->ws=ns.map V.ty
 | _,_,_,.nil,h=>by cases h;rfl
 | _,_,_,.cons a b,h=>by
  obtain ⟨x,t,h1,h2,rfl⟩:=yV h
  rw [LO b h2]
  cases a <;> first | (cases h1;rfl) | cases h1
theorem tO:qh K (BF K) kP:=by
 intro ρ H st xs as b st' Q l rx e q
 unfold kP at e
 split at e
 ·next a c =>
  split at e
  ·next T cs h1 h2 =>
   split at e
   ·next bb hb =>
    cases e
    obtain ⟨v,w,rfl,r1,r2⟩:=rx.two'
    refine ⟨v,w,T,cs,bb,rfl,x6 l r1 h1,?_,hb,q _ H ρ .refl l (.bl _)⟩
    cases r2 with
    | non=>cases h2
    | bl _=>cases h2
    | int _=>cases h2
    | str _=>cases h2
    | ref _=>cases h2
    | ty n=>cases h2;exact .inl ⟨n,rfl,rfl⟩
    | tup s r=>exact .inr ⟨_,rfl,LO r h2 ▸ s⟩
   ·cases e
  ·cases e
 ·cases e
end
theorem LP {P:Program} {w:World} {K:PySem.W.Frag} {mg:Str->Option Value} {base:Heap} {CX:pj} {k:Nat} {f:Addr} {fd:FuncData} {ps:List Str} {n:Nat} (hn:n=ps.length):aC P w K mg base CX k f fd ps (bA K n fun _ _=>none):=by
 refine ⟨fun vs H Q E h=>h.1.trans hn,fun A outer s H args us vs Q E _ _ _ _ h=>?_⟩
 obtain ⟨_,ρ,st,ds,b,st',_,_,e,_⟩:=h
 cases e
structure qB (K:PySem.W.Frag) (mg:Str->Option Value) (x:Str) (v:V) (d:D):Prop where
 ex:∃ u,mg x=some u/\RelV v u
 rp:∀ (ρ:List Addr) (H:Hp),Rp K ρ H v d
theorem HK {X:Cx} {K:PySem.W.Frag} {mg:Str->Option Value} {x:Str} {v:V} {d:D} {pos:Pos} (C:qB K mg x v d) (hg:Gl X x) (hX:X.mg=mg) (hd:(x == ("__debug__" : Str))=false):PE X (.Name x pos) (tC v):=by
 obtain ⟨u,h,r⟩:=C.ex
 subst hX
 exact M5 hg h r hd
theorem HL {K:PySem.W.Frag} {mg:Str->Option Value} {x:Str} {v:V} {d:D} (C:qB K mg x v d):fu K (tC v) (fC d):=qR C.rp
theorem LQ {K:PySem.W.Frag} {h:Heap} {mg:Str->Option Value} (X:K.In h) (G:h.Ns mainGlobals mg) {x:Str} {a:Addr} {od:Option Addr} {its:Array Value} {n:Nat} {sl:Array (Option Value)} {vs:List V} {ds:List D} (e:PySem.W.nsIn K mainGlobals x=some (some (.ref a))) (l:K.lookup a=some ⟨.type "tuple",od,.seq its n,sl⟩)
  (ho:od=none) (hz:its.size<=sizeLine) (hv:Vals vs its.toList) (hd:∀ (ρ:List Addr) (H:Hp),cO K ρ H vs ds):∃ v,qB K mg x v (.tup ds) :=
 ⟨.ref a,⟨_,PySem.W.mg_of X G e,rfl⟩,fun ρ H=>.tup (.inr ⟨_,its,n,l,rfl,ho,rfl,hz,hv⟩) (hd ρ H)⟩
theorem LR {δ:au} {st:Store} {fi:au->Dm Src} {js:List Nat} {f:au->Dm D} {Q:D->Store->Prop} (ps:List (D×D)) (h:D×D->D) (hi:Wp (fi δ st) fun S st1=>qZ S (ps.map fun p=>.tup [p.1,p.2]) st1/\Ex [] st st1) (hl:ps.length < 100000)
  (step:∀ p∈ps,∀ st1,Ex [] st st1->Wp (f (some p.1 :: some p.2 :: js.map fun j=>δ.getD j none) st1) fun y st2=>y=h p/\Ex [] st1 st2) (fin:∀ st',Ex [] st st'->Q (.ref st'.length) (st' ++ [.lst (ps.map h)])):Wp (dQ fi 2 js (kN 2 (bT (hName 0) (bT (hName 1) lu))) d0 f δ st) Q:=by
 obtain ⟨S,st1,e1,hS,k1⟩:=hi
 refine D7 (ps.map fun p=>.tup [p.1,p.2]) (fun i ys δ' jd=>(∃ v w,δ'=v :: w :: js.map fun j=>δ.getD j none)/\ys=(ps.take i).map h/\Ex [] st1 jd) ⟨S,st1,e1,fun i ys δ' jd hi' hp=>hS i jd hi' hp.2.2,⟨none,none,rfl⟩,rfl,Ex.refl⟩ (by rw [List.length_map];exact hl) ?_ ?_ ?_
 ·rintro i ys δ' jd ⟨_,rfl,_⟩
  rw [List.length_map,List.length_take];omega
 ·rintro i d ys δ' jd hd ⟨⟨v,w,rfl⟩,rfl,k8⟩
  rw [List.getElem?_map] at hd
  obtain ⟨p,hp,rfl⟩:=Option.map_eq_some_iff.mp hd
  rw [Lr]
  refine ⟨rfl,?_⟩
  rw [HB,Br,HB,Br,Lq]
  show Wp (d0 _ _) _
  rw [Eb]
  refine ⟨fun _=>?_,fun h=>absurd h (by decide)⟩
  refine bj (step p (List.mem_of_getElem? hp) jd (k1.trans k8)) ?_
  rintro y oG ⟨rfl,k9⟩
  refine ⟨⟨some p.1,some p.2,rfl⟩,?_,k8.trans k9⟩
  obtain ⟨hlt,e⟩:=List.getElem?_eq_some_iff.mp hp
  rw [List.take_succ_eq_append_getElem hlt,List.map_append,e];rfl
 ·rintro ys δ' jd ⟨_,rfl,k8⟩
  rw [List.length_map,List.take_length]
  exact fin jd (k1.trans k8)
theorem Ra {st:Store} {Q:D->Store->Prop} {a:D} {v:V} (h:sV a=some v) (hs:my v v=true):Wp (hV false a a st) Q↔Q (.bl true) st:=by
 have e:hV false a a st=some (.bl true,st):=by
  simp only [hV,h,hs,if_true,decide_true]
  rfl
 rw [e,bB]
end L4
namespace L4
open PySem PySem.Spec L2
def pU:Nat->D->Prop
 | _,.int _=>True
 | _,.str x=>PyData.canLay0 (.str x)=true
 | _,.non=>True
 | n + 1,.tup ds=>∀ d∈ds,pU n d
 | _,_=>False
def mU:Nat->D->PyData
 | _,.int i=>.int i
 | _,.str x=>.str x
 | n + 1,.tup ds=>.tuple (ds.map (mU n))
 | _,_=>.none
theorem LS {α β:Type} {f:α->Option β} {g:α->β}:∀ {l:List α},(∀ x∈l,f x=some (g x))->dN f l=some (l.map g)
 | [],_=>rfl
 | a :: r,h=>by
  have h1:=h a List.mem_cons_self
  have h2:=LS (f:=f) (g:=g) (l:=r) fun x hx=>h x (List.mem_cons_of_mem _ hx)
  simp only [dN,h1,h2,List.map_cons]
theorem BG:∀ (n:Nat) (d:D),pU n d->∀ (m:Nat),n < m->∀ st,mF st m d=some (mU n d)
 | n,.int i,_,m + 1,_,st=>by cases n <;> rfl
 | n,.str x,_,m + 1,_,st=>by cases n <;> rfl
 | n,.non,_,m + 1,_,st=>by cases n <;> rfl
 | n,.bl b,h,_,_,_=>by cases n <;> exact h.elim
 | n,.ty b,h,_,_,_=>by cases n <;> exact h.elim
 | n,.ref b,h,_,_,_=>by cases n <;> exact h.elim
 | 0,.tup ds,h,_,_,_=>h.elim
 | n + 1,.tup ds,h,m + 1,hm,st=>by
  simp only [mF]
  rw [LS (g:=mU n) fun x hx=>BG n x (h x hx) m (by omega) st]
  rfl
theorem LU:∀ {l:List PyData},(∀ x∈l,x.canLay0=true)->PyData.canLayAll0 l=true
 | [],_=>rfl
 | a :: r,h=>by
  simp only [PyData.canLayAll0,h a List.mem_cons_self,LU fun x hx=>h x (List.mem_cons_of_mem _ hx),Bool.and_self]
theorem LV {n:Nat}:∀ {l:List PyData},(∀ x∈l,x.depth<=n)->PyData.depthAll l<=n
 | [],_=>Nat.zero_le _
 | a :: r,h=>by
  have h1:=h a List.mem_cons_self
  have h2:=LV fun x hx=>h x (List.mem_cons_of_mem _ hx)
  simp only [PyData.depthAll]
  omega
theorem BH:∀ (n:Nat) (d:D),pU n d->(mU n d).canLay0=true/\(mU n d).depth<=n
 | n,.int i,_=>by cases n <;> exact ⟨rfl,Nat.zero_le _⟩
 | n,.str x,h=>by cases n <;> exact ⟨h,Nat.zero_le _⟩
 | n,.non,_=>by cases n <;> exact ⟨rfl,Nat.zero_le _⟩
 | n,.bl b,h=>by cases n <;> exact h.elim
 | n,.ty b,h=>by cases n <;> exact h.elim
 | n,.ref b,h=>by cases n <;> exact h.elim
 | 0,.tup ds,h=>h.elim
 | n + 1,.tup ds,h=>by
  refine ⟨?_,?_⟩
  ·show PyData.canLayAll0 (ds.map (mU n))=true
   exact LU fun x hx=>by
    obtain ⟨d,hd,rfl⟩:=List.mem_map.mp hx
    exact (BH n d (h d hd)).1
  ·show PyData.depthAll (ds.map (mU n)) + 1<=n + 1
   have:=LV (n:=n) (l:=ds.map (mU n)) fun x hx=>by
    obtain ⟨d,hd,rfl⟩:=List.mem_map.mp hx
    exact (BH n d (h d hd)).2
   omega
theorem LW {n:Nat} (ih:∀ a b:D,pU n a->pU n b->(PyData.eqv (mU n a) (mU n b)=true↔a=b)):∀ (l m:List D),(∀ x∈l,pU n x)->(∀ x∈m,pU n x)->(PyData.eqvAll (l.map (mU n)) (m.map (mU n))=true↔l=m)
 | [],[],_,_=>by simp [PyData.eqvAll]
 | [],_ :: _,_,_=>by simp [PyData.eqvAll]
 | _ :: _,[],_,_=>by simp [PyData.eqvAll]
 | a :: l,b :: m,h1,h2=>by
  have e1:=ih a b (h1 a List.mem_cons_self) (h2 b List.mem_cons_self)
  have e2:=LW ih l m (fun x hx=>h1 x (List.mem_cons_of_mem _ hx)) fun x hx=>h2 x (List.mem_cons_of_mem _ hx)
  simp only [List.map_cons,PyData.eqvAll,Bool.and_eq_true,e1,e2,List.cons.injEq]
theorem BI:∀ (n:Nat) (a b:D),pU n a->pU n b->(PyData.eqv (mU n a) (mU n b)=true↔a=b):=by
 intro n
 induction n with
 | zero =>
  intro a b ha hb
  cases a <;> first | exact ha.elim | skip
  all_goals (cases b <;> first | exact hb.elim | simp [mU,PyData.eqv])
 | succ n ih =>
  intro a b ha hb
  cases a <;> first | exact ha.elim | skip
  all_goals (cases b <;> first | exact hb.elim | skip)
  all_goals first
   | (simp [mU,PyData.eqv];done)
   | skip
  next l m =>
   have:=LW ih l m ha hb
   show PyData.eqv (.tuple (l.map (mU n))) (.tuple (m.map (mU n)))=true↔_
   rw [QT,this]
   constructor
   ·rintro rfl;rfl
   ·intro h;exact D.tup.inj h
open Classical in
theorem Ei {st:Store} {Q:D->Store->Prop} {neg:Bool} {n:Nat} {a b:D} (ha:pU n a) (hb:pU n b) (hn:n<=15):Wp (jl neg a b st) Q↔Q (.bl (if neg then !decide (a=b) else decide (a=b))) st:=by
 have e:PyData.eqv (mU n a) (mU n b)=decide (a=b):=by
  have:=BI n a b ha hb
  cases h:PyData.eqv (mU n a) (mU n b) with
  | true=>exact (decide_eq_true (this.mp h)).symm
  | false=>exact (decide_eq_false fun z=>by rw [this.mpr z] at h;cases h).symm
 rw [Lp]
 constructor
 ·rintro ⟨p,q,h1,h2,_,h⟩
  rw [BG n a ha 20 (by omega)] at h1
  rw [BG n b hb 20 (by omega)] at h2
  cases h1
  cases h2
  rw [e] at h
  exact h
 ·intro h
  refine ⟨_,_,BG n a ha 20 (by omega) st,BG n b hb 20 (by omega) st,⟨(BH n a ha).1,(BH n b hb).1,?_⟩,?_⟩
  ·have:=(BH n a ha).2
   omega
  ·rw [e];exact h
theorem Ej (n:Nat) (s:dY):pU (n + 1) (bq s):=fun d hd=>by
 have hd:d=.str (if s.1 then "s" else "t")\/d=.int s.2:=by simpa [bq] using hd
 rcases hd with rfl | rfl
 ·have h:PyData.canLay0 (.str (if s.1=true then "s" else "t" : Str))=true:=by cases s.1 <;> decide +kernel
  cases n <;> exact h
 ·cases n <;> trivial
end L4
namespace L4
open PySem PySem.Spec L2
section
variable {K:PySem.W.Frag}
end
end L4
namespace L4
open PySem PySem.Spec L2
def Ek:D->Option (List D)
 | .tup ds=>some ds
 | .str x=>if x.length<=sizeLine then some (y9 x) else none
 | _=>none
def pT (fa:au->Dm (List D)):au->Dm Src:=fun δ st=>bnd (fa δ st) fun as st1=>match as with
 | [a]=>match Ek a with
  | some ds=>some (.fix ds.reverse,st1)
  | none=>none
 | _=>none
section
variable {K:PySem.W.Frag}
theorem BJ {ρ:List Addr} {H:Hp} {x:V} {a:D} {ds:List D} (r:Rp K ρ H x a) (h:Ek a=some ds):∃ src:ZS,src.val K H x/\(∀ a,src≠.lst a)/\(∀ z,src=.str z->z.length<=sizeLine)/\∀ (ρ2:List Addr) (H2:Hp),Mn K ρ H ρ2 H2->∀ i,(∀ d,ds[i]?=some d->∃ v,src.has K H2 i v/\Rp K ρ2 H2 v d)/\(i=ds.length->src.fin K H2 i):=by
 cases r with
 | non=>cases h
 | bl b=>cases h
 | int i=>cases h
 | ty n=>cases h
 | ref e=>cases h
 | str x =>
  unfold Ek at h
  simp only at h
  split at h
  ·next hx =>
   cases h
   refine ⟨.str x,rfl,nofun,fun z e=>by cases e;exact hx,fun ρ2 H2 m i=>⟨fun d hd=>?_,fun e=>?_⟩⟩
   ·unfold y9 at hd
    rw [List.getElem?_map] at hd
    obtain ⟨c,hc,rfl⟩:=Option.map_eq_some_iff.mp hd
    have hc':x.cps[i]?=some c:=by simpa using hc
    exact ⟨_,⟨c,hc',rfl⟩,.str _⟩
   ·show x.cps.size=i
    rw [e];simp [y9]
  ·cases h
 | tup s r =>
  cases h
  refine ⟨.tup _,⟨rfl,_,s⟩,nofun,nofun,fun ρ2 H2 m i=>⟨fun d hd=>?_,fun e=>?_⟩⟩
  ·obtain ⟨v,hv,rv⟩:=r.got hd
   exact ⟨v,⟨_,m.t _ _ s,hv⟩,rv.mn m⟩
  ·exact ⟨_,m.t _ _ s,by rw [r.length];exact e.symm⟩
theorem Rb {t:TA} {fa:au->Dm (List D)} (ha:pM K t fa):tG K (AU K t) (pT fa):=by
 intro ρ σ H δ st S st' Q l rs e q
 obtain ⟨as,st1,e1,e⟩:=dA e
 split at e
 ·next a =>
  split at e
  ·next ds h1 =>
   cases e
   refine ha ρ σ H δ st _ _ _ l rs e1 fun xs H1 ρ1 m1 l1 r1=>?_
   obtain ⟨x,rfl,rx⟩:=r1.one'
   obtain ⟨s1,v1,nl,hz,g1⟩:=BJ rx h1
   refine ⟨x,s1,ds.length,rfl,v1,(g1 ρ1 H1 Mn.refl ds.length).2 rfl,nl,hz,q _ H1 ρ1 m1 l1 fun ρ2 H2 st2 i m2 l2=>⟨fun h=>?_,fun d h=>?_⟩⟩
   ·obtain ⟨hl,hn⟩:=ql h
    have:=List.getElem?_eq_none_iff.mp hn
    simp only [List.length_reverse] at this hl
    exact (show i=ds.length by omega)
   ·have hd:=(ql h).2
    have hi:i < ds.length:=by simpa using (List.getElem?_eq_some_iff.mp hd).1
    rw [List.getElem?_reverse hi] at hd
    obtain ⟨v,hv,rv⟩:=(g1 ρ2 H2 m2 _).1 d hd
    refine ⟨⟨hi,v,hv⟩,fun z H3 hz=>?_⟩
    obtain ⟨rfl,k1⟩:=hz
    cases k1 _ hv
    exact ⟨Mn.refl,l2,rv⟩
  ·cases e
 ·cases e
end
section
variable {st:Store}
theorem Rc {δ:au} {fa:au->Dm (List D)} {R:Src->Store->Prop}:Wp (pT fa δ st) R↔Wp (fa δ st) fun as st1=>∃ a ds,as=[a]/\Ek a=some ds/\R (.fix ds.reverse) st1:=by
 unfold pT;rw [dB]
 constructor <;> refine fun h=>bj h fun as s h=>?_
 ·split at h
  ·next a =>
   split at h
   ·next ds h1=>exact ⟨a,ds,rfl,h1,bB.mp h⟩
   ·exact (ft.mp h).elim
  ·exact (ft.mp h).elim
 ·obtain ⟨a,ds,rfl,h1,h⟩:=h
  simp only [h1]
  exact bB.mpr h
end
end L4
namespace L4
open PySem PySem.Spec L2
section
variable {K:PySem.W.Frag}
end
section
variable {st:Store} {Q:D->Store->Prop}
end
end L4
namespace L4
open PySem PySem.Spec L2
section
variable {K:PySem.W.Frag}
end
end L4
namespace L4
open PySem PySem.Spec L2
section
variable {K:PySem.W.Frag}
end
end L4
namespace L4
open PySem PySem.Spec L2
section
variable {K:PySem.W.Frag}
end
end L4
namespace L4
open PySem PySem.Spec L2
section
variable {K:PySem.W.Frag}
end
section
variable {δ:au} {st:Store} {N B C:au->Store->Prop} {R:D->Store->Prop}
end
end L4
namespace L4
open PySem PySem.Spec L2
section
variable {K:PySem.W.Frag}
end
section
variable {δ:au} {st:Store} {N B C:au->Store->Prop} {R:D->Store->Prop}
end
end L4
namespace L4
open PySem PySem.Spec L2
section
variable {K:PySem.W.Frag}
end
end L4
namespace L4
open PySem PySem.Spec L2
section
variable {K:PySem.W.Frag}
end
end L4
namespace L4
open PySem PySem.Spec L2
section
variable {K:PySem.W.Frag}
end
section
variable {st:Store} {Q:D->Store->Prop} {i:Nat}
end
end L4
namespace L4
open PySem PySem.Spec L2
section
variable {K:PySem.W.Frag}
end
section
variable {st:Store} {Q:D->Store->Prop} {δ:au}
end
end L4
namespace L4
open PySem PySem.Spec L2
section
variable {K:PySem.W.Frag}
def rf:au->Dm Fl:=fun _ _=>none
theorem Rf:n9 K qw rf:=by
 intro ρ σ H δ st fl st' E l rs e q
 cases e
end
section
variable {st:Store} {Q:D->Store->Prop}
end
end L4
namespace L4
open PySem PySem.Spec L2
section
variable {K:PySem.W.Frag}
end
section
variable {st:Store} {δ:au}
end
end L4
namespace L4
open PySem PySem.Spec L2
section
variable {K:PySem.W.Frag}
def qe:List D->Dm D
 | [.ref i],st=>match (items st i).bind (dN iV) with
  | some ns=>some (.int ns.sum,st)
  | none=>none
 | _,_=>none
theorem x8:qh K (fun xs H Q=>∃ (p:Addr) (ns:List Int),xs=[.ref p]/\jg K H p (ns.map V.int)/\Q (.int ns.sum) H) qe:=by
 intro ρ H st xs as b st' Q l rx e q
 unfold qe at e
 split at e
 ·split at e
  ·next ns hd =>
   cases e
   obtain ⟨v,rfl,r⟩:=rx.one'
   obtain ⟨ds,h3,h4⟩:=Option.bind_eq_some_iff.mp hd
   cases r with
   | ref hi =>
    obtain ⟨vs,s,r⟩:=l.items hi h3
    cases Hr r h4
    exact ⟨_,ns,rfl,s,q _ H ρ .refl l (.int _)⟩
  ·cases e
 ·cases e
end
theorem x9 {st:Store} {Q:D->Store->Prop} {k:Nat} {ns:List Int} (h:items st k=some (ns.map D.int)):Wp (qe [.ref k] st) Q↔Q (.int ns.sum) st:=by
 have e:qe [.ref k] st=some (.int ns.sum,st):=by
  simp only [qe,h,Option.bind_some,HA]
 rw [e,bB]
theorem ya {ds:List D} {d:D} (h:ds[ds.length - 1]?=some d):gj ds (-1)=some d:=by
 have hl:=(List.getElem?_eq_some_iff.mp h).1
 unfold gj j5
 rw [if_neg (by decide),if_pos (by omega),Option.bind_some,show ((-1:Int) + (ds.length:Int)).toNat=ds.length - 1 by omega]
 exact h
end L4
namespace L4
open PySem PySem.Spec L2
section
variable {K:PySem.W.Frag}
end
end L4
namespace L4
open PySem PySem.Spec L2
section
variable {K:PySem.W.Frag}
end
section
variable {st:Store} {Q:D->Store->Prop}
end
end L4
namespace L4
open PySem PySem.Spec L2
section
variable {K:PySem.W.Frag}
end
end L4
namespace L4
open PySem PySem.Spec L2
section
variable {K:PySem.W.Frag} {ρ:List Addr} {H:Hp} {st:Store}
end
section
variable {K:PySem.W.Frag}
end
section
variable {st:Store} {δ:au} {Q:D->Store->Prop}
end
end L4
namespace L4
open PySem PySem.Spec L2
section
variable {K:PySem.W.Frag}
end
section
variable {st:Store} {δ:au} {Q:D->Store->Prop}
end
end L4
namespace L4
open PySem PySem.Spec L2
section
variable {K:PySem.W.Frag}
def kh:D->D->Dm D:=tm (fun i j=>decide (j≠0/\j.natAbs.log2 < 9000)) fun i j=>.int (i.fdiv j)
theorem El:mf K (rI uL fun i j=>.int (i.fdiv j)) kh:=yS (fun i j h=>of_decide_eq_true (p:=j≠0/\j.natAbs.log2 < 9000) h) fun _ _ _ _=>.int _
end
section
variable {st:Store} {Q:D->Store->Prop}
theorem HM {i j:Int}:Wp (kh (.int i) (.int j) st) Q↔(j≠0/\j.natAbs.log2 < 9000)/\Q (.int (i.fdiv j)) st:=by unfold kh;rw [y4,decide_eq_true_eq]
end
end L4
namespace L4
open PySem PySem.Spec L2
def du (i j:Int):Bool:=(decide (-18446744073709551616 < i/\i < 18446744073709551616) || decide (-18446744073709551616 < j/\j < 18446744073709551616)) || (decide (Builtin.Int.intBits i<=60000000) && decide (Builtin.Int.intBits j<=60000000))
def dD:D->D->Dm D:=tm du fun i j=>.int (i * j)
section
variable {K:PySem.W.Frag}
theorem oI:mf K (rI pH fun i j=>.int (i * j)) dD:=yS (fun i j h=>by
 unfold du at h
 rw [Bool.or_eq_true,Bool.or_eq_true,Bool.and_eq_true,decide_eq_true_eq,decide_eq_true_eq,decide_eq_true_eq,decide_eq_true_eq] at h
 exact h) fun _ _ _ _=>.int _
end
section
variable {st:Store} {Q:D->Store->Prop}
theorem zb {i j:Int}:Wp (dD (.int i) (.int j) st) Q↔du i j=true/\Q (.int (i * j)) st:=by
 unfold dD;rw [y4]
theorem Em {i j:Int} (h:i.natAbs < 18446744073709551616):du i j=true:=by
 unfold du
 rw [decide_eq_true (show -18446744073709551616 < i/\i < 18446744073709551616 by omega)]
 rfl
theorem HN {i j:Int} {k:Nat} (hk:k<=60000000) (h:i.natAbs < P2 k) (h2:j.natAbs < P2 k):du i j=true:=by
 replace h:=uM h hk
 replace h2:=uM h2 hk
 unfold du
 rw [decide_eq_true h,decide_eq_true h2]
 simp
end
end L4
namespace L4
open PySem PySem.Spec L2
def gP (lo:Int) (n:Nat):List D:=(List.range n).map fun (k:Nat)=>D.int (lo - k)
theorem ve (lo:Int) (n:Nat):(gP lo n).length=n:=by simp [gP]
theorem HP {lo:Int} {n k:Nat} (h:k < n):(gP lo n)[k]?=some (.int (lo - k)):=by simp [gP,h]
def mH (fa:au->Dm (List D)):au->Dm Src:=fun δ st=>bnd (fa δ st) fun as st1=>match as with
 | [.int i,.int j,.int k]=>if decide (((-4611686018427387904<=i/\i < 4611686018427387904)/\-4611686018427387904<=j/\j < 4611686018427387904)/\k=-1)=true then some (.fix (gP i (i - j).toNat),st1) else none
 | _=>none
section
variable {K:PySem.W.Frag}
theorem Rg {ρ:List Addr} {H:Hp} (lo:Int) (n:Nat):xf K ρ H (DL lo n) (.fix (gP lo n)):=by
 intro ρ2 H2 st2 i m2 l2
 refine ⟨fun h=>?_,fun d h=>?_⟩
 ·have:=List.getElem?_eq_none_iff.mp (ql h).2
  rw [ve] at this
  exact this
 ·have h:=(ql h).2
  have hl:=(List.getElem?_eq_some_iff.mp h).1
  rw [ve] at hl
  rw [HP hl] at h
  cases h
  refine ⟨hl,fun x H3 y=>?_⟩
  obtain ⟨rfl,rfl⟩:=y
  exact ⟨.refl,l2,.int _⟩
theorem LX {t:TA} {fa:au->Dm (List D)} (ha:pM K t fa):tG K (uN t) (mH fa):=by
 intro ρ σ H δ st S st' Q l rs e q
 obtain ⟨as,st1,e1,e⟩:=dA e
 split at e
 ·split at e
  ·next ok =>
   cases e
   have ok:=of_decide_eq_true ok
   refine ha ρ σ H δ st _ _ _ l rs e1 fun x H1 ρ1 m1 l1 r1=>?_
   cases r1 with
   | cons r rr =>
    obtain ⟨v,w,rfl,r',r''⟩:=rr.two'
    cases r
    cases r'
    cases r''
    obtain ⟨UB,rfl⟩:=ok
    exact ⟨_,_,rfl,by omega,q _ H1 ρ1 m1 l1 (Rg _ _)⟩
  ·cases e
 ·cases e
end
section
variable {st:Store}
theorem LY {δ:au} {fa:au->Dm (List D)} {R:Src->Store->Prop}:Wp (mH fa δ st) R↔Wp (fa δ st) fun as st1=>∃ i j,as=[.int i,.int j,.int (-1)]/\((-4611686018427387904<=i/\i < 4611686018427387904)/\-4611686018427387904<=j/\j < 4611686018427387904)/\R (.fix (gP i (i - j).toNat)) st1:=by
 unfold mH;rw [dB]
 constructor <;> refine fun h=>bj h fun as s h=>?_
 ·split at h
  ·next i j k =>
   rw [ng,bB,ft] at h
   split at h
   ·next hk =>
    have hk:=of_decide_eq_true hk
    obtain ⟨h1,rfl⟩:=hk
    exact ⟨i,j,rfl,h1,h⟩
   ·exact h.elim
  ·exact (ft.mp h).elim
 ·obtain ⟨i,j,rfl,h1,h⟩:=h
  show Wp (if decide (((-4611686018427387904<=i/\i < 4611686018427387904)/\-4611686018427387904<=j/\j < 4611686018427387904)/\(-1:Int)=-1)=true then some (Src.fix (gP i (i - j).toNat),s) else none) R
  rw [if_pos (decide_eq_true ⟨h1,rfl⟩)]
  exact bB.mpr h
end
end L4
namespace My
local macro_rules | `(tactic| kspl_open $h)=>`(tactic| (refine L4.bE ?_;intro _ $h;set_option simprocs false in simp only [L4.bw]))
local macro_rules | `(tactic| w_how)=>`(tactic| set_option simprocs false in simp only [L4.bw])
open PySem L2 L4
def top (i:Nat):Stmt:=PySem.Challenge.pw_shearfloor_k46_seams_carried.main.body.getD i (.Pass ⟨0,0,0,0⟩)
structure Txt (mg:Str->Option Value):Prop where
 BK:mg "all" = none
 rg:mg "bool" = none
 lP:mg "enumerate" = none
 ni:mg "int" = none
 bJ:mg "isinstance" = none
 cv:mg "len" = none
 cT:mg "list" = none
 rh:mg "max" = none
 aQ:mg "range" = none
 o7:mg "reversed" = none
 vg:mg "str" = none
 BL:mg "sum" = none
 bC:mg "tuple" = none
 BM:mg "zip" = none
section
variable {P:Program} {w:World} {K:PySem.W.Frag} {mg:Str->Option Value} {base:Heap}
def En:au->Dm Fl :=
 (aA (aI (av cq (av jk (fC (.int 7901)) (af 1)) (fC (.int 24697))) (hName 2))
 (aA (i5 (aN (av wY (af 1) (aP dP (ae (af 0) ah)))) (aI (av da (af 0) (af 1)) (hName 2)) (i5 (aN (av uV (aP dP (ae (af 0) ah)) (fC (.int 0)))) (aI (av cq (av jk (av ke (av da (af 0) (av ke (af 1) (aP dP (ae (af 0) ah)))) (fC (.int 2147483629))) (fC (.int 31))) (av jk (fC (.int 7901)) (af 1))) (hName 2)) bL))
 (aA (aI (fC (.int 0)) (hName 3))
 (aA (i5 (aN (av Hl (af 2) (av qS (fC (.int 10)) (fC (.int 18))))) (aI (af 2) (hName 3)) bL)
 (bf (c9 (ae (af 3) (ae (av cq (av ke (av qS (av cq (av jk (av ke (af 2) (fC (.int 2147483629))) (fC (.int 48271))) (av jk (fC (.int 40692)) (af 1))) (fC (.int 5))) (fC (.int 2147483629))) (fC (.int 1))) ah))))))))
def BN:List D->Dm D:=fL 4 En
def BO:Stmt:=top 41
theorem zc:aB ["_law_script","_law_k","_law_cell","_law_own"] ["_law_script","_law_k"] (aw BO):=⟨rfl,rfl,rfl,by decide +kernel,rfl,by decide +kernel,by decide +kernel⟩
theorem Rh {f:Addr} {fd:FuncData} (D:Def K mg "_law_feed" BO ["_law_script","_law_k"] f fd) (T:Txt mg)  :aC P w K mg base bz 1 f fd ["_law_script","_law_k"] (bA K 2 BN):=by
 refine D.F.ok zc (fun vs H Q E h=>h.1) (fun cdv A outer s H vs Q E hr h=>?_)
 have hu:=hr.units
 have hu1:=gk hr
 refine ⟨_,(@aZ _ _ _ _ _ (@cc (i:=2) _ _ _ _ _ _ zc.nd rfl (by first | exact Or.inl rfl | exact Or.inr rfl) (aW iZ (aW ph aG (pv 1)) aG) (by rfl) (by first | exact .inl rfl | exact .inr rfl | assumption))
  (@aZ _ _ _ _ _ (@jH _ _ _ _ _ _ _ _ (gM Af (pv 1) (ig lJ (by rfl) T.cv lK (@ao _ _ _ _ _ (pv 0) ay (by rfl))) (aK _)) (@bu _ _ _ (@cc (i:=2) _ _ _ _ _ _ zc.nd rfl (by first | exact Or.inl rfl | exact Or.inr rfl) (@a9 _ _ _ _ _ _ _ kG (pv 0) (pv 1) (fun _ _=>rfl)) (by rfl) (by first | exact .inl rfl | exact .inr rfl | assumption))) (@bu _ _ _ (@jH _ _ _ _ _ _ _ _ (gM yH (ig lJ (by rfl) T.cv lK (@ao _ _ _ _ _ (pv 0) ay (by rfl))) aG (aK _)) (@bu _ _ _ (@cc (i:=2) _ _ _ _ _ _ zc.nd rfl (by first | exact Or.inl rfl | exact Or.inr rfl) (aW iZ (aW ph (aW qg (@a9 _ _ _ _ _ _ _ kG (pv 0) (aW qg (pv 1) (ig lJ (by rfl) T.cv lK (@ao _ _ _ _ _ (pv 0) ay (by rfl)))) (fun _ _=>rfl)) aG) aG) (aW ph aG (pv 1))) (by rfl) (by first | exact .inl rfl | exact .inr rfl | assumption))) kD)))
  (@aZ _ _ _ _ _ (@cc (i:=3) _ _ _ _ _ _ zc.nd rfl (by first | exact Or.inl rfl | exact Or.inr rfl) aG (by rfl) (by first | exact .inl rfl | exact .inr rfl | assumption))
  (@aZ _ _ _ _ _ (@jH _ _ _ _ _ _ _ _ (gM Ag (pv 2) (aW Jn aG aG) (aK _)) (@bu _ _ _ (@cc (i:=3) _ _ _ _ _ _ zc.nd rfl (by first | exact Or.inl rfl | exact Or.inr rfl) (pv 2) (by rfl) (by first | exact .inl rfl | exact .inr rfl | assumption))) kD)
  (@bu _ _ _ (@dm _ _ _ _ (@kF _ _ _ _ (@ao _ _ _ _ _ (pv 3) (@ao _ _ _ _ _ (aW iZ (aW qg (aW Jn (aW iZ (aW ph (aW qg (pv 2) aG) aG) (aW ph aG (pv 1))) aG) aG) aG) ay (by rfl)) (by rfl))))))))),?_⟩
 exact gp (b:=En) (a8 (bG (ax i7 (ax pN (aH _) (ai 1)) (aH _)) (aT 2))
  (a8 (jM (gq (ax A7 (ai 1) (bX lL (aq (ai 0) az)))) (bG (ax kL (ai 0) (ai 1)) (aT 2)) (jM (gq (ax yT (bX lL (aq (ai 0) az)) (aH _))) (bG (ax i7 (ax pN (ax qj (ax kL (ai 0) (ax qj (ai 1) (bX lL (aq (ai 0) az)))) (aH _)) (aH _)) (ax pN (aH _) (ai 1))) (aT 2)) kO))
  (a8 (bG (aH _) (aT 3))
  (a8 (jM (gq (ax A8 (ai 2) (ax La (aH _) (aH _)))) (bG (ai 2) (aT 3)) kO)
  (dn (kK (aq (ai 3) (aq (ax i7 (ax qj (ax La (ax i7 (ax pN (ax qj (ai 2) (aH _)) (aH _)) (ax pN (aH _) (ai 1))) (aH _)) (aH _)) (aH _)) az)))))))) rfl h
def Eo:au->Dm Fl :=
 (aA (i5 (aN (av uV (av da (af 0) (fC (.int 0))) (fC (.int 0)))) (aA (aI (av ke (av da (af 0) (fC (.int 0))) (af 1)) (hName 2))
 (aA (aI (av oB (av da (af 0) (fC (.int 0))) (af 1)) (hSub (af 0) (fC (.int 0))))
 (bf (af 2)))) bL)
 (aA (aI (av ke (av jk (av da (af 0) (fC (.int 1))) (fC (.int 48271))) (fC (.int 2147483647))) (hName 3))
 (aA (aI (av cq (av ke (av cq (av jk (af 3) (fC (.int 40692))) (fC (.int 30103))) (fC (.int 2147483399))) (fC (.int 1))) (hSub (af 0) (fC (.int 1))))
 (bf (av ke (av oB (av cq (av jk (af 3) (fC (.int 2147483647))) (av da (af 0) (fC (.int 1)))) (fC (.int 8191))) (af 1))))))
def je:List D->Dm D:=fL 4 Eo
def tP:Stmt:=top 42
theorem HQ:aB ["_law_feed_here","_law_many","_law_digit","_law_one"] ["_law_feed_here","_law_many"] (aw tP):=⟨rfl,rfl,rfl,by decide +kernel,rfl,by decide +kernel,by decide +kernel⟩
theorem Ri {f:Addr} {fd:FuncData} (D:Def K mg "_law_take" tP ["_law_feed_here","_law_many"] f fd) (T:Txt mg)  :aC P w K mg base bz 1 f fd ["_law_feed_here","_law_many"] (bA K 2 je):=by
 refine D.F.ok HQ (fun vs H Q E h=>h.1) (fun cdv A outer s H vs Q E hr h=>?_)
 have hu:=hr.units
 have hu1:=gk hr
 refine ⟨_,(@aZ _ _ _ _ _ (@jH _ _ _ _ _ _ _ _ (gM yH (@a9 _ _ _ _ _ _ _ kG (pv 0) aG (fun _ _=>rfl)) aG (aK _)) (@aZ _ _ _ _ _ (@cc (i:=2) _ _ _ _ _ _ HQ.nd rfl (by first | exact Or.inl rfl | exact Or.inr rfl) (aW qg (@a9 _ _ _ _ _ _ _ kG (pv 0) aG (fun _ _=>rfl)) (pv 1)) (by rfl) (by first | exact .inl rfl | exact .inr rfl | assumption))
  (@aZ _ _ _ _ _ (oN (aW Jm (@a9 _ _ _ _ _ _ _ kG (pv 0) aG (fun _ _=>rfl)) (pv 1)) (pf (pv 0) aG pz))
  (@bu _ _ _ (@dm _ _ _ _ (pv 2))))) kD)
  (@aZ _ _ _ _ _ (@cc (i:=3) _ _ _ _ _ _ HQ.nd rfl (by first | exact Or.inl rfl | exact Or.inr rfl) (aW qg (aW ph (@a9 _ _ _ _ _ _ _ kG (pv 0) aG (fun _ _=>rfl)) aG) aG) (by rfl) (by first | exact .inl rfl | exact .inr rfl | assumption))
  (@aZ _ _ _ _ _ (oN (aW iZ (aW qg (aW iZ (aW ph (pv 3) aG) aG) aG) aG) (pf (pv 0) aG pz))
  (@bu _ _ _ (@dm _ _ _ _ (aW qg (aW Jm (aW iZ (aW ph (pv 3) aG) (@a9 _ _ _ _ _ _ _ kG (pv 0) aG (fun _ _=>rfl))) aG) (pv 1))))))),?_⟩
 exact gp (b:=Eo) (a8 (jM (gq (ax yT (ax kL (ai 0) (aH _)) (aH _))) (a8 (bG (ax qj (ax kL (ai 0) (aH _)) (ai 1)) (aT 2))
  (a8 (bG (ax K9 (ax kL (ai 0) (aH _)) (ai 1)) (pP (ai 0) (aH _)))
  (dn (ai 2)))) kO)
  (a8 (bG (ax qj (ax pN (ax kL (ai 0) (aH _)) (aH _)) (aH _)) (aT 3))
  (a8 (bG (ax i7 (ax qj (ax i7 (ax pN (ai 3) (aH _)) (aH _)) (aH _)) (aH _)) (pP (ai 0) (aH _)))
  (dn (ax qj (ax K9 (ax i7 (ax pN (ai 3) (aH _)) (ax kL (ai 0) (aH _))) (aH _)) (ai 1)))))) rfl h
def Ep:au->Dm Fl :=
 (aA (aI (c9 ah) (hName 3))
 (aA (dr (bM (ae (aP je (ae (af 0) (ae (av cq (af 1) (fC (.int 1))) ah))) ah)) (hName 4) (i5 (aN (av (hV false) (aP je (ae (af 0) (ae (fC (.int 2)) ah))) (fC (.int 0)))) (hZ (oC "list" de (af 3) (ae (bW (ae (fC (.str "t")) (ae (av cq (fC (.int 1)) (aP je (ae (af 0) (ae (fC (.int 3)) ah)))) ah))) ah))) (aA (aI (av cq (fC (.int 1)) (aP je (ae (af 0) (ae (af 2) ah)))) (hName 4))
 (hZ (oC "list" de (af 3) (ae (bW (ae (fC (.str "s")) (ae (av da (c9 (ae (af 4) (ae (av eh (fC (.int 0)) (af 4)) ah))) (aP je (ae (af 0) (ae (fC (.int 2)) ah)))) ah))) ah))))))
 (bf (aP bY (ae (af 3) ah)))))
def BP:List D->Dm D:=fL 5 Ep
def BQ:Stmt:=top 46
theorem Er:aB ["_law_feed_here","_law_most","_law_great","_law_found","_law_k"] ["_law_feed_here","_law_most","_law_great"] (aw BQ):=⟨rfl,rfl,rfl,by decide +kernel,rfl,by decide +kernel,by decide +kernel⟩
theorem Rj {f:Addr} {fd:FuncData} (D:Def K mg "_law_word" BQ ["_law_feed_here","_law_most","_law_great"] f fd) (T:Txt mg)  {aX:Addr} {aY:FuncData} (aj:Def K mg "_law_take" tP ["_law_feed_here","_law_many"] aX aY) (aJ:aC P w K mg base bz 1 aX aY ["_law_feed_here","_law_many"] (bA K 2 je)):aC P w K mg base bz 2 f fd ["_law_feed_here","_law_most","_law_great"] (bA K 3 BP):=by
 refine D.F.ok Er (fun vs H Q E h=>h.1) (fun cdv A outer s H vs Q E hr h=>?_)
 have hu:=hr.units
 have hu1:=gk hr
 refine ⟨_,(@aZ _ _ _ _ _ (@cc (i:=3) _ _ _ _ _ _ Er.nd rfl (by first | exact Or.inl rfl | exact Or.inr rfl) (@kF _ _ _ _ ay) (by rfl) (by first | exact .inl rfl | exact .inr rfl | assumption))
  (@aZ _ _ _ _ _ (@lI _ _ _ _ _ _ _ _ PassesOwn.never rfl (nC rfl T.aQ (@ao _ _ _ _ _ (cD aJ (hr.mono (by decide)) rfl aj.m aj.F.kp aj.b .nil aE (@ao _ _ _ _ _ (pv 0) (@ao _ _ _ _ _ (aW iZ (pv 1) aG) ay (by rfl)) (by rfl))) ay (by rfl))) (ef (i:=4) Er.nd rfl (by first | exact Or.inl rfl | exact Or.inr rfl)) (@bu _ _ _ (@jH _ _ _ _ _ _ _ _ (gM mz (cD aJ (hr.mono (by decide)) rfl aj.m aj.F.kp aj.b .nil aE (@ao _ _ _ _ _ (pv 0) (@ao _ _ _ _ _ aG ay (by rfl)) (by rfl))) aG (aK _)) (@bu _ _ _ (rE (pZ PySem.F.plainAttrs_list PySem.F.slot_list_append PySem.F.type_list_append sI (pv 3) (@ao _ _ _ _ _ (@ie _ _ _ _ _ (@ao _ _ _ _ _ lQ (@ao _ _ _ _ _ (aW iZ aG (cD aJ (hr.mono (by decide)) rfl aj.m aj.F.kp aj.b .nil aE (@ao _ _ _ _ _ (pv 0) (@ao _ _ _ _ _ aG ay (by rfl)) (by rfl)))) ay (by rfl)) (by rfl))) ay (by rfl))))) (@aZ _ _ _ _ _ (@cc (i:=4) _ _ _ _ _ _ Er.nd rfl (by first | exact Or.inl rfl | exact Or.inr rfl) (aW iZ aG (cD aJ (hr.mono (by decide)) rfl aj.m aj.F.kp aj.b .nil aE (@ao _ _ _ _ _ (pv 0) (@ao _ _ _ _ _ (pv 2) ay (by rfl)) (by rfl)))) (by rfl) (by first | exact .inl rfl | exact .inr rfl | assumption))
  (@bu _ _ _ (rE (pZ PySem.F.plainAttrs_list PySem.F.slot_list_append PySem.F.type_list_append sI (pv 3) (@ao _ _ _ _ _ (@ie _ _ _ _ _ (@ao _ _ _ _ _ lQ (@ao _ _ _ _ _ (@a9 _ _ _ _ _ _ _ kG (@kF _ _ _ _ (@ao _ _ _ _ _ (pv 4) (@ao _ _ _ _ _ (aW mP aG (pv 4)) ay (by rfl)) (by rfl))) (cD aJ (hr.mono (by decide)) rfl aj.m aj.F.kp aj.b .nil aE (@ao _ _ _ _ _ (pv 0) (@ao _ _ _ _ _ aG ay (by rfl)) (by rfl))) (fun _ _=>rfl)) ay (by rfl)) (by rfl))) ay (by rfl)))))))) (by intro _;rfl))
  (@bu _ _ _ (@dm _ _ _ _ (fT n6 (by rfl) T.bC mW (@ao _ _ _ _ _ (pv 3) ay (by rfl))))))),?_⟩
 exact gp (b:=Ep) (a8 (bG (kK az) (aT 3))
  (a8 (lN (nS (aq (cE (F:=je) (aq (ai 0) (aq (ax i7 (ai 1) (aH _)) az)) (aU (aU (fun _ _ _ _ h=>cF h)))) az)) (aT 4) (jM (gq (ax mE (cE (F:=je) (aq (ai 0) (aq (aH _) az)) (aU (aU (fun _ _ _ _ h=>cF h)))) (aH _))) (rW (pO tw (ai 3) (aq (ik (aq (lV _) (aq (ax i7 (aH _) (cE (F:=je) (aq (ai 0) (aq (aH _) az)) (aU (aU (fun _ _ _ _ h=>cF h))))) az))) az))) (a8 (bG (ax i7 (aH _) (cE (F:=je) (aq (ai 0) (aq (ai 2) az)) (aU (aU (fun _ _ _ _ h=>cF h))))) (aT 4))
  (rW (pO tw (ai 3) (aq (ik (aq (lV _) (aq (ax kL (kK (aq (ai 4) (aq (ax mT (aH _) (ai 4)) az))) (cE (F:=je) (aq (ai 0) (aq (aH _) az)) (aU (aU (fun _ _ _ _ h=>cF h))))) az))) az))))))
  (dn (bX n8 (aq (ai 3) az))))) rfl h
def Es:au->Dm Fl :=
 (aA (aI (aP e7 (ae (aP jK (ae (af 1) ah)) ah)) (hName 2))
 (aA (aI (bW ah) (hName 3))
 (aA (jn (aN (av (jl true) (af 2) (c9 ah))) (aI (av jm (af 3) (bW (ae (oC "list" lr (af 2) (ae (aP je (ae (af 0) (ae (aP dP (ae (af 2) ah)) ah))) ah)) ah))) (hName 3)))
 (bf (af 3)))))
def yb:List D->Dm D:=fL 4 Es
def BR:Stmt:=top 43
theorem Et:aB ["_law_feed_here","_law_n","_law_left","_law_found"] ["_law_feed_here","_law_n"] (aw BR):=⟨rfl,rfl,rfl,by decide +kernel,rfl,by decide +kernel,by decide +kernel⟩
theorem Rm {f:Addr} {fd:FuncData} (D:Def K mg "_law_turning" BR ["_law_feed_here","_law_n"] f fd) (T:Txt mg)  {aX:Addr} {aY:FuncData} (aj:Def K mg "_law_take" tP ["_law_feed_here","_law_many"] aX aY) (aJ:aC P w K mg base bz 1 aX aY ["_law_feed_here","_law_many"] (bA K 2 je)):aC P w K mg base bz 2 f fd ["_law_feed_here","_law_n"] (bA K 2 yb):=by
 refine D.F.ok Et (fun vs H Q E h=>h.1) (fun cdv A outer s H vs Q E hr h=>?_)
 have hu:=hr.units
 have hu1:=gk hr
 refine ⟨_,(@aZ _ _ _ _ _ (@cc (i:=2) _ _ _ _ _ _ Et.nd rfl (by first | exact Or.inl rfl | exact Or.inr rfl) (fT (sO rfl) (by rfl) T.cT ot (@ao _ _ _ _ _ (fT Gs (by rfl) T.aQ sM (@ao _ _ _ _ _ (pv 1) ay (by rfl))) ay (by rfl))) (by rfl) (by first | exact .inl rfl | exact .inr rfl | assumption))
  (@aZ _ _ _ _ _ (@cc (i:=3) _ _ _ _ _ _ Et.nd rfl (by first | exact Or.inl rfl | exact Or.inr rfl) (@ie _ _ _ _ _ ay) (by rfl) (by first | exact .inl rfl | exact .inr rfl | assumption))
  (@aZ _ _ _ _ _ (yF PassesOwn.never (gM (DF hu) (pv 2) (@kF _ _ _ _ ay) (aK _)) (@bu _ _ _ (@cc (i:=3) _ _ _ _ _ _ Et.nd rfl (by first | exact Or.inl rfl | exact Or.inr rfl) (aW uH (pv 3) (@ie _ _ _ _ _ (@ao _ _ _ _ _ (pZ PySem.F.plainAttrs_list PySem.F.slot_list_pop PySem.F.type_list_pop Nw (pv 2) (@ao _ _ _ _ _ (cD aJ (hr.mono (by decide)) rfl aj.m aj.F.kp aj.b .nil aE (@ao _ _ _ _ _ (pv 0) (@ao _ _ _ _ _ (ig lJ (by rfl) T.cv lK (@ao _ _ _ _ _ (pv 2) ay (by rfl))) ay (by rfl)) (by rfl))) ay (by rfl))) ay (by rfl)))) (by rfl) (by first | exact .inl rfl | exact .inr rfl | assumption))))
  (@bu _ _ _ (@dm _ _ _ _ (pv 3)))))),?_⟩
 exact gp (b:=Es) (a8 (bG (bX tq (aq (bX Hq (aq (ai 1) az)) az)) (aT 2))
  (a8 (bG (ik az) (aT 3))
  (a8 (y3 (gq (ax (yW true) (ai 2) (kK az))) (bG (ax uX (ai 3) (ik (aq (pO P0 (ai 2) (aq (cE (F:=je) (aq (ai 0) (aq (bX lL (aq (ai 2) az)) az)) (aU (aU (fun _ _ _ _ h=>cF h)))) az)) az))) (aT 3)))
  (dn (ai 3))))) rfl h
def Ew:au->Dm Fl :=
 (aA (aI (c9 (ae (fC (.int 0)) ah)) (hName 1))
 (aA (dr (bM (ae (av cq (fC (.int 1)) (aP dP (ae (av aF (af 0) (fC (.int 0))) ah))) ah)) (hName 2) (dr (h8 (af 0)) (hName 3) (dr (lx (aP lM (ae (af 1) ah))) (hName 4) (i5 (aN (av (rS true) (av aF (af 3) (af 4)) (af 1))) (hZ (oC "list" de (af 1) (ae (av aF (af 3) (af 4)) ah))) bL))))
 (bf (af 1))))
def vh:List D->Dm D:=fL 5 Ew
def BS:Stmt:=top 44
theorem BU:aB ["_law_floor_here","_law_found","_law_turn","_law_turning_here","_law_one"] ["_law_floor_here"] (aw BS):=⟨rfl,rfl,rfl,by decide +kernel,rfl,by decide +kernel,by decide +kernel⟩
theorem Rn {f:Addr} {fd:FuncData} (D:Def K mg "_law_met" BS ["_law_floor_here"] f fd) (T:Txt mg)  :aC P w K mg base bz 1 f fd ["_law_floor_here"] (bA K 1 vh):=by
 refine D.F.ok BU (fun vs H Q E h=>h.1) (fun cdv A outer s H vs Q E hr h=>?_)
 have hu:=hr.units
 have hu1:=gk hr
 refine ⟨_,(@aZ _ _ _ _ _ (@cc (i:=1) _ _ _ _ _ _ BU.nd rfl (by first | exact Or.inl rfl | exact Or.inr rfl) (@kF _ _ _ _ (@ao _ _ _ _ _ aG ay (by rfl))) (by rfl) (by first | exact .inl rfl | exact .inr rfl | assumption))
  (@aZ _ _ _ _ _ (@lI _ _ _ _ _ _ _ _ PassesOwn.never rfl (nC rfl T.aQ (@ao _ _ _ _ _ (aW iZ aG (ig lJ (by rfl) T.cv lK (@ao _ _ _ _ _ (@a9 _ _ _ _ _ _ _ bI (pv 0) aG (fun _ _=>rfl)) ay (by rfl)))) ay (by rfl))) (ef (i:=2) BU.nd rfl (by first | exact Or.inl rfl | exact Or.inr rfl)) (@bu _ _ _ (@lI _ _ _ _ _ _ _ _ PassesOwn.never rfl (rG (pv 0)) (ef (i:=3) BU.nd rfl (by first | exact Or.inl rfl | exact Or.inr rfl)) (@bu _ _ _ (@lI _ _ _ _ _ _ _ _ PassesOwn.never rfl (FY (fT Ap (by rfl) T.cT ot (@ao _ _ _ _ _ (pv 1) ay (by rfl)))) (ef (i:=4) BU.nd rfl (by first | exact Or.inl rfl | exact Or.inr rfl)) (@bu _ _ _ (@jH _ _ _ _ _ _ _ _ (gM JK (@a9 _ _ _ _ _ _ _ bI (pv 3) (pv 4) (fun _ _=>rfl)) (pv 1) (by with_unfolding_all rfl)) (@bu _ _ _ (rE (pZ PySem.F.plainAttrs_list PySem.F.slot_list_append PySem.F.type_list_append sI (pv 1) (@ao _ _ _ _ _ (@a9 _ _ _ _ _ _ _ bI (pv 3) (pv 4) (fun _ _=>rfl)) ay (by rfl))))) kD)) (by intro _;rfl))) (by intro _;rfl))) (by intro _;rfl))
  (@bu _ _ _ (@dm _ _ _ _ (pv 1))))),?_⟩
 exact gp (b:=Ew) (a8 (bG (kK (aq (aH _) az)) (aT 1))
  (a8 (lN (nS (aq (ax i7 (aH _) (bX lL (aq (ax bF (ai 0) (aH _)) az))) az)) (aT 2) (lN (rX (ai 0)) (aT 3) (lN (Ht (bX Bb (aq (ai 1) az))) (aT 4) (jM (gq (ax (Hn true) (ax bF (ai 3) (ai 4)) (ai 1))) (rW (pO tw (ai 1) (aq (ax bF (ai 3) (ai 4)) az))) kO))))
  (dn (ai 1)))) rfl h
def Ey:au->Dm Fl :=
 (aA (aI (aP je (ae (af 0) (ae (fC (.int 6)) ah))) (hName 2))
 (aA (oE 3 4 (ae (aP lM (ae (aP yb (ae (af 0) (ae (af 1) ah))) ah)) (ae (aP lM (ae (aP yb (ae (af 0) (ae (af 1) ah))) ah)) ah)))
 (aA (i5 (aN (av (hV false) (af 2) (fC (.int 0)))) (aI (av kM (aP e7 (ae (aP fw (ae (fC (.int 1)) (ae (af 1) ah))) ah)) (c9 (ae (fC (.int 0)) ah))) (hName 3)) bL)
 (aA (i5 (aN (av (hV false) (af 2) (fC (.int 1)))) (oE 3 4 (ae (aP e7 (ae (aP jK (ae (af 1) ah)) ah)) (ae (av kM (aP e7 (ae (aP fw (ae (fC (.int 1)) (ae (af 1) ah))) ah)) (c9 (ae (fC (.int 0)) ah))) ah))) bL)
 (aA (i5 (aN (av (hV false) (af 2) (fC (.int 2)))) (aA (aI (av cq (fC (.int 1)) (aP je (ae (af 0) (ae (af 1) ah)))) (hName 5))
 (aA (aI (av kM (av kM (aP e7 (ae (aP fw (ae (fC (.int 1)) (ae (af 5) ah))) ah)) (c9 (ae (fC (.int 0)) ah))) (aP e7 (ae (aP fw (ae (af 5) (ae (af 1) ah))) ah))) (hName 3))
 (aA (aI (qi o3 (av kM (av kM (av kM (c9 (ae (af 5) ah)) (aP e7 (ae (aP fw (ae (fC (.int 1)) (ae (af 5) ah))) ah))) (aP e7 (ae (aP fw (ae (av cq (af 5) (fC (.int 1))) (ae (af 1) ah))) ah))) (c9 (ae (fC (.int 0)) ah))) dM (i6 (af 1))) (hName 4))
 (i5 (aN (av (hV false) (af 5) (af 1))) (aI (aP e7 (ae (aP jK (ae (af 1) ah)) ah)) (hName 4)) bL)))) bL)
 (aA (aI (bW (ae (aP bY (ae (af 3) ah)) (ae (aP bY (ae (af 4) ah)) ah))) (hName 6))
 (aA (aI (dQ (bM (ae (af 1) ah)) 1 [6] (hName 0) (aN (av (rS true) (af 0) (aP vh (ae (af 1) ah)))) (af 0)) (hName 7))
 (aA (jn (aN (av (jl true) (af 7) (c9 ah))) (aA (aI (av da (af 7) (fC (.int 0))) (hName 8))
 (aA (aI (bW (ae (av da (af 3) (af 8)) (ae (av da (af 3) (fC (.int 0))) ah))) (kN 2 (bT (hSub (af 3) (fC (.int 0))) (bT (hSub (af 3) (af 8)) lu))))
 (aA (aI (bW (ae (aP bY (ae (af 3) ah)) (ae (aP bY (ae (af 4) ah)) ah))) (hName 6))
 (aI (dQ (bM (ae (af 1) ah)) 1 [6] (hName 0) (aN (av (rS true) (af 0) (aP vh (ae (af 1) ah)))) (af 0)) (hName 7))))))
 (bf (af 6))))))))))
def yc:List D->Dm D:=fL 9 Ey
def BV:Stmt:=top 45
theorem pV:aB ["_law_feed_here","_law_n","_law_form","_law_right","_law_up","_law_wide","_law_found","_law_apart","_law_m"] ["_law_feed_here","_law_n"] (aw BV):=⟨rfl,rfl,rfl,by decide +kernel,rfl,by decide +kernel,by decide +kernel⟩
theorem Ro {f:Addr} {fd:FuncData} (D:Def K mg "_law_floor" BV ["_law_feed_here","_law_n"] f fd) (T:Txt mg)  {aX:Addr} {aY:FuncData} (aj:Def K mg "_law_take" tP ["_law_feed_here","_law_many"] aX aY) (aJ:aC P w K mg base bz 1 aX aY ["_law_feed_here","_law_many"] (bA K 2 je)) {eP:Addr} {eQ:FuncData} (bD:Def K mg "_law_turning" BR ["_law_feed_here","_law_n"] eP eQ) (eR:aC P w K mg base bz 2 eP eQ ["_law_feed_here","_law_n"] (bA K 2 yb)) {jO:Addr} {jP:FuncData} (cV:Def K mg "_law_met" BS ["_law_floor_here"] jO jP) (jQ:aC P w K mg base bz 1 jO jP ["_law_floor_here"] (bA K 1 vh)):aC P w K mg base bz 3 f fd ["_law_feed_here","_law_n"] (bA K 2 yc):=by
 refine D.F.ok pV (fun vs H Q E h=>h.1) (fun cdv A outer s H vs Q E hr h=>?_)
 have hu:=hr.units
 have hu1:=gk hr
 refine ⟨_,(@aZ _ _ _ _ _ (@cc (i:=2) _ _ _ _ _ _ pV.nd rfl (by first | exact Or.inl rfl | exact Or.inr rfl) (cD aJ (hr.mono (by decide)) rfl aj.m aj.F.kp aj.b .nil aE (@ao _ _ _ _ _ (pv 0) (@ao _ _ _ _ _ aG ay (by rfl)) (by rfl))) (by rfl) (by first | exact .inl rfl | exact .inr rfl | assumption))
  (@aZ _ _ _ _ _ (zW (i:=3) (j:=4) rfl pV.nd rfl rfl (by decide) rfl rfl (@ao _ _ _ _ _ (fT Ap (by rfl) T.cT ot (@ao _ _ _ _ _ (cD eR (hr.mono (by decide)) rfl bD.m bD.F.kp bD.b .nil aE (@ao _ _ _ _ _ (pv 0) (@ao _ _ _ _ _ (pv 1) ay (by rfl)) (by rfl))) ay (by rfl))) (@ao _ _ _ _ _ (fT Ap (by rfl) T.cT ot (@ao _ _ _ _ _ (cD eR (hr.mono (by decide)) rfl bD.m bD.F.kp bD.b .nil aE (@ao _ _ _ _ _ (pv 0) (@ao _ _ _ _ _ (pv 1) ay (by rfl)) (by rfl))) ay (by rfl))) ay (by rfl)) (by rfl)) rfl)
  (@aZ _ _ _ _ _ (@jH _ _ _ _ _ _ _ _ (gM mz (pv 2) aG (aK _)) (@bu _ _ _ (@cc (i:=3) _ _ _ _ _ _ pV.nd rfl (by first | exact Or.inl rfl | exact Or.inr rfl) (aW qE (fT (sO rfl) (by rfl) T.cT ot (@ao _ _ _ _ _ (fT yL (by rfl) T.aQ sM (@ao _ _ _ _ _ aG (@ao _ _ _ _ _ (pv 1) ay (by rfl)) (by rfl))) ay (by rfl))) (@kF _ _ _ _ (@ao _ _ _ _ _ aG ay (by rfl)))) (by rfl) (by first | exact .inl rfl | exact .inr rfl | assumption))) kD)
  (@aZ _ _ _ _ _ (@jH _ _ _ _ _ _ _ _ (gM mz (pv 2) aG (aK _)) (@bu _ _ _ (zW (i:=3) (j:=4) rfl pV.nd rfl rfl (by decide) rfl rfl (@ao _ _ _ _ _ (fT (sO rfl) (by rfl) T.cT ot (@ao _ _ _ _ _ (fT Gs (by rfl) T.aQ sM (@ao _ _ _ _ _ (pv 1) ay (by rfl))) ay (by rfl))) (@ao _ _ _ _ _ (aW qE (fT (sO rfl) (by rfl) T.cT ot (@ao _ _ _ _ _ (fT yL (by rfl) T.aQ sM (@ao _ _ _ _ _ aG (@ao _ _ _ _ _ (pv 1) ay (by rfl)) (by rfl))) ay (by rfl))) (@kF _ _ _ _ (@ao _ _ _ _ _ aG ay (by rfl)))) ay (by rfl)) (by rfl)) rfl)) kD)
  (@aZ _ _ _ _ _ (@jH _ _ _ _ _ _ _ _ (gM mz (pv 2) aG (aK _)) (@aZ _ _ _ _ _ (@cc (i:=5) _ _ _ _ _ _ pV.nd rfl (by first | exact Or.inl rfl | exact Or.inr rfl) (aW iZ aG (cD aJ (hr.mono (by decide)) rfl aj.m aj.F.kp aj.b .nil aE (@ao _ _ _ _ _ (pv 0) (@ao _ _ _ _ _ (pv 1) ay (by rfl)) (by rfl)))) (by rfl) (by first | exact .inl rfl | exact .inr rfl | assumption))
  (@aZ _ _ _ _ _ (@cc (i:=3) _ _ _ _ _ _ pV.nd rfl (by first | exact Or.inl rfl | exact Or.inr rfl) (aW qE (aW qE (fT (sO rfl) (by rfl) T.cT ot (@ao _ _ _ _ _ (fT yL (by rfl) T.aQ sM (@ao _ _ _ _ _ aG (@ao _ _ _ _ _ (pv 5) ay (by rfl)) (by rfl))) ay (by rfl))) (@kF _ _ _ _ (@ao _ _ _ _ _ aG ay (by rfl)))) (fT (sO rfl) (by rfl) T.cT ot (@ao _ _ _ _ _ (fT yL (by rfl) T.aQ sM (@ao _ _ _ _ _ (pv 5) (@ao _ _ _ _ _ (pv 1) ay (by rfl)) (by rfl))) ay (by rfl)))) (by rfl) (by first | exact .inl rfl | exact .inr rfl | assumption))
  (@aZ _ _ _ _ _ (@cc (i:=4) _ _ _ _ _ _ pV.nd rfl (by first | exact Or.inl rfl | exact Or.inr rfl) (sF Dx (aW qE (aW qE (aW qE (@kF _ _ _ _ (@ao _ _ _ _ _ (pv 5) ay (by rfl))) (fT (sO rfl) (by rfl) T.cT ot (@ao _ _ _ _ _ (fT yL (by rfl) T.aQ sM (@ao _ _ _ _ _ aG (@ao _ _ _ _ _ (pv 5) ay (by rfl)) (by rfl))) ay (by rfl)))) (fT (sO rfl) (by rfl) T.cT ot (@ao _ _ _ _ _ (fT yL (by rfl) T.aQ sM (@ao _ _ _ _ _ (aW iZ (pv 5) aG) (@ao _ _ _ _ _ (pv 1) ay (by rfl)) (by rfl))) ay (by rfl)))) (@kF _ _ _ _ (@ao _ _ _ _ _ aG ay (by rfl)))) sD (sE (pv 1))) (by rfl) (by first | exact .inl rfl | exact .inr rfl | assumption))
  (@bu _ _ _ (@jH _ _ _ _ _ _ _ _ (gM mz (pv 5) (pv 1) (aK _)) (@bu _ _ _ (@cc (i:=4) _ _ _ _ _ _ pV.nd rfl (by first | exact Or.inl rfl | exact Or.inr rfl) (fT (sO rfl) (by rfl) T.cT ot (@ao _ _ _ _ _ (fT Gs (by rfl) T.aQ sM (@ao _ _ _ _ _ (pv 1) ay (by rfl))) ay (by rfl))) (by rfl) (by first | exact .inl rfl | exact .inr rfl | assumption))) kD))))) kD)
  (@aZ _ _ _ _ _ (@cc (i:=6) _ _ _ _ _ _ pV.nd rfl (by first | exact Or.inl rfl | exact Or.inr rfl) (@ie _ _ _ _ _ (@ao _ _ _ _ _ (fT n6 (by rfl) T.bC mW (@ao _ _ _ _ _ (pv 3) ay (by rfl))) (@ao _ _ _ _ _ (fT n6 (by rfl) T.bC mW (@ao _ _ _ _ _ (pv 4) ay (by rfl))) ay (by rfl)) (by rfl))) (by rfl) (by first | exact .inl rfl | exact .inr rfl | assumption))
  (@aZ _ _ _ _ _ (Ka (i:=7) (own:=["_law_s"]) (fr:=["_law_found"]) (js:=[6]) rfl pV.nd rfl rfl ⟨⟨rfl,by decide +kernel,by decide +kernel,by dsimp only [jb,aV,Cx.oM,Cx.wish,PyProof.Rows.envOfC,compEnvC,relabel,Env.kindOf];decide +kernel,by decide +kernel⟩,rfl⟩ (nC rfl T.aQ (@ao _ _ _ _ _ (pv 1) ay (by rfl))) (fun _ _ _ _ _=>(ef (i:=0) (show ((["_law_s"]:List Str) ++ (["_law_found"]:List Str)).Nodup by decide +kernel) rfl (by first | exact Or.inl rfl | exact Or.inr rfl))) (fun _ _ _ _ _=>(J5 (gM (Kc (K:=K) rfl) (pv 0) (cD jQ (hr.mono (by decide)) rfl cV.m cV.F.kp cV.b .nil aE (@ao _ _ _ _ _ (pv 1) ay (by rfl))) (by with_unfolding_all rfl)))) (fun _ _ _ _ _=>(pv 0)))
  (@aZ _ _ _ _ _ (yF PassesOwn.never (gM (DF hu) (pv 7) (@kF _ _ _ _ ay) (aK _)) (@aZ _ _ _ _ _ (@cc (i:=8) _ _ _ _ _ _ pV.nd rfl (by first | exact Or.inl rfl | exact Or.inr rfl) (@a9 _ _ _ _ _ _ _ kG (pv 7) aG (fun _ _=>rfl)) (by rfl) (by first | exact .inl rfl | exact .inr rfl | assumption))
  (@aZ _ _ _ _ _ (oN (@ie _ _ _ _ _ (@ao _ _ _ _ _ (@a9 _ _ _ _ _ _ _ kG (pv 3) (pv 8) (fun _ _=>rfl)) (@ao _ _ _ _ _ (@a9 _ _ _ _ _ _ _ kG (pv 3) aG (fun _ _=>rfl)) ay (by rfl)) (by rfl))) (sx (n:=2) rfl (lR (pf (pv 3) aG pz) (lR (pf (pv 3) (pv 8) pz) rF))))
  (@aZ _ _ _ _ _ (@cc (i:=6) _ _ _ _ _ _ pV.nd rfl (by first | exact Or.inl rfl | exact Or.inr rfl) (@ie _ _ _ _ _ (@ao _ _ _ _ _ (fT n6 (by rfl) T.bC mW (@ao _ _ _ _ _ (pv 3) ay (by rfl))) (@ao _ _ _ _ _ (fT n6 (by rfl) T.bC mW (@ao _ _ _ _ _ (pv 4) ay (by rfl))) ay (by rfl)) (by rfl))) (by rfl) (by first | exact .inl rfl | exact .inr rfl | assumption))
  (@bu _ _ _ (Ka (i:=7) (own:=["_law_s"]) (fr:=["_law_found"]) (js:=[6]) rfl pV.nd rfl rfl ⟨⟨rfl,by decide +kernel,by decide +kernel,by dsimp only [jb,aV,Cx.oM,Cx.wish,PyProof.Rows.envOfC,compEnvC,relabel,Env.kindOf];decide +kernel,by decide +kernel⟩,rfl⟩ (nC rfl T.aQ (@ao _ _ _ _ _ (pv 1) ay (by rfl))) (fun _ _ _ _ _=>(ef (i:=0) (show ((["_law_s"]:List Str) ++ (["_law_found"]:List Str)).Nodup by decide +kernel) rfl (by first | exact Or.inl rfl | exact Or.inr rfl))) (fun _ _ _ _ _=>(J5 (gM (Kc (K:=K) rfl) (pv 0) (cD jQ (hr.mono (by decide)) rfl cV.m cV.F.kp cV.b .nil aE (@ao _ _ _ _ _ (pv 1) ay (by rfl))) (by with_unfolding_all rfl)))) (fun _ _ _ _ _=>(pv 0))))))))
  (@bu _ _ _ (@dm _ _ _ _ (pv 6))))))))))),?_⟩
 exact gp (b:=Ey) (a8 (bG (cE (F:=je) (aq (ai 0) (aq (aH _) az)) (aU (aU (fun _ _ _ _ h=>cF h)))) (aT 2))
  (a8 (Bd (aq (bX Bb (aq (cE (F:=yb) (aq (ai 0) (aq (ai 1) az)) (aU (aU (fun _ _ _ _ h=>cF h)))) az)) (aq (bX Bb (aq (cE (F:=yb) (aq (ai 0) (aq (ai 1) az)) (aU (aU (fun _ _ _ _ h=>cF h)))) az)) az)))
  (a8 (jM (gq (ax mE (ai 2) (aH _))) (bG (ax qT (bX tq (aq (bX yZ (aq (aH _) (aq (ai 1) az))) az)) (kK (aq (aH _) az))) (aT 3)) kO)
  (a8 (jM (gq (ax mE (ai 2) (aH _))) (Bd (aq (bX tq (aq (bX Hq (aq (ai 1) az)) az)) (aq (ax qT (bX tq (aq (bX yZ (aq (aH _) (aq (ai 1) az))) az)) (kK (aq (aH _) az))) az))) kO)
  (a8 (jM (gq (ax mE (ai 2) (aH _))) (a8 (bG (ax i7 (aH _) (cE (F:=je) (aq (ai 0) (aq (ai 1) az)) (aU (aU (fun _ _ _ _ h=>cF h))))) (aT 5))
  (a8 (bG (ax qT (ax qT (bX tq (aq (bX yZ (aq (aH _) (aq (ai 5) az))) az)) (kK (aq (aH _) az))) (bX tq (aq (bX yZ (aq (ai 5) (aq (ai 1) az))) az))) (aT 3))
  (a8 (bG (tj D4 (ax qT (ax qT (ax qT (kK (aq (ai 5) az)) (bX tq (aq (bX yZ (aq (aH _) (aq (ai 5) az))) az))) (bX tq (aq (bX yZ (aq (ax i7 (ai 5) (aH _)) (aq (ai 1) az))) az))) (kK (aq (aH _) az))) sZ (tf (ai 1))) (aT 4))
  (jM (gq (ax mE (ai 5) (ai 1))) (bG (bX tq (aq (bX Hq (aq (ai 1) az)) az)) (aT 4)) kO)))) kO)
  (a8 (bG (ik (aq (bX n8 (aq (ai 3) az)) (aq (bX n8 (aq (ai 4) az)) az))) (aT 6))
  (a8 (bG (qm (nS (aq (ai 1) az)) (aT 0) (gq (ax (Hn true) (ai 0) (cE (F:=vh) (aq (ai 1) az) (aU (fun _ _ _ _ h=>cF h))))) (ai 0)) (aT 7))
  (a8 (y3 (gq (ax (yW true) (ai 7) (kK az))) (a8 (bG (ax kL (ai 7) (aH _)) (aT 8))
  (a8 (bG (ik (aq (ax kL (ai 3) (ai 8)) (aq (ax kL (ai 3) (aH _)) az))) (rV (lW (pP (ai 3) (aH _)) (lW (pP (ai 3) (ai 8)) rT))))
  (a8 (bG (ik (aq (bX n8 (aq (ai 3) az)) (aq (bX n8 (aq (ai 4) az)) az))) (aT 6))
  (bG (qm (nS (aq (ai 1) az)) (aT 0) (gq (ax (Hn true) (ai 0) (cE (F:=vh) (aq (ai 1) az) (aU (fun _ _ _ _ h=>cF h))))) (ai 0)) (aT 7))))))
  (dn (ai 6)))))))))) rfl h
def Ez:au->Dm Fl :=
 (bf (aP bY (ae (dQ (h8 (af 0)) 1 [1] (hName 0) d0 (av aF (af 1) (af 0))) ah)))
def BW:List D->Dm D:=fL 2 Ez
def BX:Stmt:=top 4
theorem Rq:aB ["one","other"] ["one","other"] (aw BX):=⟨rfl,rfl,rfl,by decide +kernel,rfl,by decide +kernel,by decide +kernel⟩
theorem Rr {f:Addr} {fd:FuncData} (D:Def K mg "followed" BX ["one","other"] f fd) (T:Txt mg)  :aC P w K mg base bz 1 f fd ["one","other"] (bA K 2 BW):=by
 refine D.F.ok Rq (fun vs H Q E h=>h.1) (fun cdv A outer s H vs Q E hr h=>?_)
 have hu:=hr.units
 have hu1:=gk hr
 refine ⟨_,(@bu _ _ _ (@dm _ _ _ _ (fT n6 (by rfl) T.bC mW (@ao _ _ _ _ _ (rK (own:=["number"]) (fr:=["other"]) (js:=[1]) rfl ⟨⟨rfl,by decide +kernel,by decide +kernel,by dsimp only [jb,aV,Cx.oM,Cx.wish,PyProof.Rows.envOfC,compEnvC,relabel,Env.kindOf];decide +kernel,by decide +kernel⟩,rfl⟩ (rG (pv 0)) (fun _ _ _ _ _=>(ef (i:=0) (show ((["number"]:List Str) ++ (["other"]:List Str)).Nodup by decide +kernel) rfl (by first | exact Or.inl rfl | exact Or.inr rfl))) (fun _ _ _ _ _=>rJ) (fun _ _ _ _ _=>(@a9 _ _ _ _ _ _ _ (GJ (K:=K) rfl) (pv 1) (pv 0) (fun _ _=>rfl)))) ay (by rfl))))),?_⟩
 exact gp (b:=Ez) (dn (bX n8 (aq (qm (rX (ai 0)) (aT 0) rY (ax bF (ai 1) (ai 0))) az))) rfl h
def EA:au->Dm Fl :=
 (aA (aI (c9 (ae (af 1) ah)) (hName 2))
 (aA (aI (av aF (af 0) (af 1)) (hName 3))
 (aA (jn (aN (av (hV true) (af 3) (af 1))) (aA (hZ (oC "list" de (af 2) (ae (af 3) ah)))
 (aI (av aF (af 0) (af 3)) (hName 3))))
 (bf (aP bY (ae (af 2) ah))))))
def BZ:List D->Dm D:=fL 4 EA
def B0:Stmt:=top 7
theorem EB:aB ["turning","first","ring","reached"] ["turning","first"] (aw B0):=⟨rfl,rfl,rfl,by decide +kernel,rfl,by decide +kernel,by decide +kernel⟩
theorem Rt {f:Addr} {fd:FuncData} (D:Def K mg "ring_from" B0 ["turning","first"] f fd) (T:Txt mg)  :aC P w K mg base bz 1 f fd ["turning","first"] (bA K 2 BZ):=by
 refine D.F.ok EB (fun vs H Q E h=>h.1) (fun cdv A outer s H vs Q E hr h=>?_)
 have hu:=hr.units
 have hu1:=gk hr
 refine ⟨_,(@aZ _ _ _ _ _ (@cc (i:=2) _ _ _ _ _ _ EB.nd rfl (by first | exact Or.inl rfl | exact Or.inr rfl) (@kF _ _ _ _ (@ao _ _ _ _ _ (pv 1) ay (by rfl))) (by rfl) (by first | exact .inl rfl | exact .inr rfl | assumption))
  (@aZ _ _ _ _ _ (@cc (i:=3) _ _ _ _ _ _ EB.nd rfl (by first | exact Or.inl rfl | exact Or.inr rfl) (@a9 _ _ _ _ _ _ _ bI (pv 0) (pv 1) (fun _ _=>rfl)) (by rfl) (by first | exact .inl rfl | exact .inr rfl | assumption))
  (@aZ _ _ _ _ _ (yF PassesOwn.never (gM ur (pv 3) (pv 1) (aK _)) (@aZ _ _ _ _ _ (rE (pZ PySem.F.plainAttrs_list PySem.F.slot_list_append PySem.F.type_list_append sI (pv 2) (@ao _ _ _ _ _ (pv 3) ay (by rfl))))
  (@bu _ _ _ (@cc (i:=3) _ _ _ _ _ _ EB.nd rfl (by first | exact Or.inl rfl | exact Or.inr rfl) (@a9 _ _ _ _ _ _ _ bI (pv 0) (pv 3) (fun _ _=>rfl)) (by rfl) (by first | exact .inl rfl | exact .inr rfl | assumption)))))
  (@bu _ _ _ (@dm _ _ _ _ (fT n6 (by rfl) T.bC mW (@ao _ _ _ _ _ (pv 2) ay (by rfl)))))))),?_⟩
 exact gp (b:=EA) (a8 (bG (kK (aq (ai 1) az)) (aT 2))
  (a8 (bG (ax bF (ai 0) (ai 1)) (aT 3))
  (a8 (y3 (gq (ax uW (ai 3) (ai 1))) (a8 (rW (pO tw (ai 2) (aq (ai 3) az)))
  (bG (ax bF (ai 0) (ai 3)) (aT 3))))
  (dn (bX n8 (aq (ai 2) az)))))) rfl h
def EC:au->Dm Fl :=
 (aA (aI (c9 ah) (hName 1))
 (aA (aI qV (hName 2))
 (aA (dr (bM (ae (aP dP (ae (af 0) ah)) ah)) (hName 3) (i5 (aN (tI true (af 3) (af 2))) (aA (aI (aP BZ (ae (af 0) (ae (af 3) ah))) (hName 4))
 (aA (hZ (oC "list" de (af 1) (ae (af 4) ah)))
 (dr (h8 (af 4)) (hName 5) (pQ (af 2) (af 5) (fC (.bl true)))))) bL))
 (bf (aP bY (ae (af 1) ah))))))
def B1:List D->Dm D:=fL 6 EC
def B2:Stmt:=top 8
theorem zd:aB ["turning","rings","seen","first","ring","number"] ["turning"] (aw B2):=⟨rfl,rfl,rfl,by decide +kernel,rfl,by decide +kernel,by decide +kernel⟩
theorem Rv {f:Addr} {fd:FuncData} (D:Def K mg "rings_of" B2 ["turning"] f fd) (T:Txt mg)  {iA:Addr} {iB:FuncData} (eo:Def K mg "ring_from" B0 ["turning","first"] iA iB) (ki:aC P w K mg base bz 1 iA iB ["turning","first"] (bA K 2 BZ)):aC P w K mg base bz 2 f fd ["turning"] (bA K 1 B1):=by
 refine D.F.ok zd (fun vs H Q E h=>h.1) (fun cdv A outer s H vs Q E hr h=>?_)
 have hu:=hr.units
 have hu1:=gk hr
 refine ⟨_,(@aZ _ _ _ _ _ (@cc (i:=1) _ _ _ _ _ _ zd.nd rfl (by first | exact Or.inl rfl | exact Or.inr rfl) (@kF _ _ _ _ ay) (by rfl) (by first | exact .inl rfl | exact .inr rfl | assumption))
  (@aZ _ _ _ _ _ (@cc (i:=2) _ _ _ _ _ _ zd.nd rfl (by first | exact Or.inl rfl | exact Or.inr rfl) NH (by rfl) (by first | exact .inl rfl | exact .inr rfl | assumption))
  (@aZ _ _ _ _ _ (@lI _ _ _ _ _ _ _ _ PassesOwn.never rfl (nC rfl T.aQ (@ao _ _ _ _ _ (ig lJ (by rfl) T.cv lK (@ao _ _ _ _ _ (pv 0) ay (by rfl))) ay (by rfl))) (ef (i:=3) zd.nd rfl (by first | exact Or.inl rfl | exact Or.inr rfl)) (@bu _ _ _ (@jH _ _ _ _ _ _ _ _ (vN (NF hu1 (pv 3) (pv 2))) (@aZ _ _ _ _ _ (@cc (i:=4) _ _ _ _ _ _ zd.nd rfl (by first | exact Or.inl rfl | exact Or.inr rfl) (cD ki (hr.mono (by decide)) rfl eo.m eo.F.kp eo.b .nil aE (@ao _ _ _ _ _ (pv 0) (@ao _ _ _ _ _ (pv 3) ay (by rfl)) (by rfl))) (by rfl) (by first | exact .inl rfl | exact .inr rfl | assumption))
  (@aZ _ _ _ _ _ (rE (pZ PySem.F.plainAttrs_list PySem.F.slot_list_append PySem.F.type_list_append sI (pv 1) (@ao _ _ _ _ _ (pv 4) ay (by rfl))))
  (@bu _ _ _ (@lI _ _ _ _ _ _ _ _ PassesOwn.never rfl (rG (pv 4)) (ef (i:=5) zd.nd rfl (by first | exact Or.inl rfl | exact Or.inr rfl)) (@bu _ _ _ (NG hu1 (pv 2) (pv 5) ug rfl)) (by intro _;rfl))))) kD)) (by intro _;rfl))
  (@bu _ _ _ (@dm _ _ _ _ (fT n6 (by rfl) T.bC mW (@ao _ _ _ _ _ (pv 1) ay (by rfl)))))))),?_⟩
 exact gp (b:=EC) (a8 (bG (kK az) (aT 1))
  (a8 (bG Qn (aT 2))
  (a8 (lN (nS (aq (bX lL (aq (ai 0) az)) az)) (aT 3) (jM (A4 (Qo (ai 3) (ai 2))) (a8 (bG (cE (F:=BZ) (aq (ai 0) (aq (ai 3) az)) (aU (aU (fun _ _ _ _ h=>cF h)))) (aT 4))
  (a8 (rW (pO tw (ai 1) (aq (ai 4) az)))
  (lN (rX (ai 4)) (aT 5) (Qp (ai 2) (ai 5) (uS _))))) kO))
  (dn (bX n8 (aq (ai 1) az)))))) rfl h
def ED:au->Dm Fl :=
 (aA (aI (av nQ (c9 (ae (fC (.int 0)) ah)) (aP dP (ae (af 0) ah))) (hName 2))
 (aA (dr (h8 (aP B1 (ae (af 0) ah))) (hName 3) (dr (mG (ae (af 3) ah)) (kN 2 (bT (hName 4) (bT (hName 5) lu))) (aI (av aF (af 3) (av ke (av cq (af 4) (af 1)) (aP dP (ae (af 3) ah)))) (hSub (af 2) (af 5)))))
 (bf (aP bY (ae (af 2) ah)))))
def B3:List D->Dm D:=fL 6 ED
def B4:Stmt:=top 6
theorem B5:aB ["turning","k","led","ring","place","number"] ["turning","k"] (aw B4):=⟨rfl,rfl,rfl,by decide +kernel,rfl,by decide +kernel,by decide +kernel⟩
theorem Rw {f:Addr} {fd:FuncData} (D:Def K mg "often" B4 ["turning","k"] f fd) (T:Txt mg)  {jR:Addr} {jS:FuncData} (fO:Def K mg "rings_of" B2 ["turning"] jR jS) (ly:aC P w K mg base bz 2 jR jS ["turning"] (bA K 1 B1)):aC P w K mg base bz 3 f fd ["turning","k"] (bA K 2 B3):=by
 refine D.F.ok B5 (fun vs H Q E h=>h.1) (fun cdv A outer s H vs Q E hr h=>?_)
 have hu:=hr.units
 have hu1:=gk hr
 refine ⟨_,(@aZ _ _ _ _ _ (@cc (i:=2) _ _ _ _ _ _ B5.nd rfl (by first | exact Or.inl rfl | exact Or.inr rfl) (aW yJ (@kF _ _ _ _ (@ao _ _ _ _ _ aG ay (by rfl))) (ig lJ (by rfl) T.cv lK (@ao _ _ _ _ _ (pv 0) ay (by rfl)))) (by rfl) (by first | exact .inl rfl | exact .inr rfl | assumption))
  (@aZ _ _ _ _ _ (@lI _ _ _ _ _ _ _ _ PassesOwn.never rfl (rG (cD ly (hr.mono (by decide)) rfl fO.m fO.F.kp fO.b .nil aE (@ao _ _ _ _ _ (pv 0) ay (by rfl)))) (ef (i:=3) B5.nd rfl (by first | exact Or.inl rfl | exact Or.inr rfl)) (@bu _ _ _ (@lI _ _ _ _ _ _ _ _ PassesOwn.never rfl (Ke rfl T.lP (@ao _ _ _ _ _ (pv 3) ay (by rfl))) (sx (n:=2) rfl (lR (ef (i:=4) B5.nd rfl (by first | exact Or.inl rfl | exact Or.inr rfl)) (lR (ef (i:=5) B5.nd rfl (by first | exact Or.inl rfl | exact Or.inr rfl)) rF))) (@bu _ _ _ (oN (@a9 _ _ _ _ _ _ _ bI (pv 3) (aW qg (aW iZ (pv 4) (pv 1)) (ig lJ (by rfl) T.cv lK (@ao _ _ _ _ _ (pv 3) ay (by rfl)))) (fun _ _=>rfl)) (pf (pv 2) (pv 5) pz))) (by intro _;rfl))) (by intro _;rfl))
  (@bu _ _ _ (@dm _ _ _ _ (fT n6 (by rfl) T.bC mW (@ao _ _ _ _ _ (pv 2) ay (by rfl))))))),?_⟩
 exact gp (b:=ED) (a8 (bG (ax y2 (kK (aq (aH _) az)) (bX lL (aq (ai 0) az))) (aT 2))
  (a8 (lN (rX (cE (F:=B1) (aq (ai 0) az) (aU (fun _ _ _ _ h=>cF h)))) (aT 3) (lN (Lh (aq (ai 3) az)) (rV (lW (aT 4) (lW (aT 5) rT))) (bG (ax bF (ai 3) (ax qj (ax i7 (ai 4) (ai 1)) (bX lL (aq (ai 3) az)))) (pP (ai 2) (ai 5)))))
  (dn (bX n8 (aq (ai 2) az))))) rfl h
def EE:au->Dm Fl :=
 (bf (bW (ae (av aF (af 0) (fC (.int 0))) (ae (aP BW (ae (aP B3 (ae (av aF (af 0) (fC (.int 0))) (ae (oz jc (af 1)) ah))) (ae (av aF (af 0) (fC (.int 1))) ah))) ah))))
def B6:List D->Dm D:=fL 2 EE
def B7:Stmt:=top 32
theorem Rx:aB ["floor","k"] ["floor","k"] (aw B7):=⟨rfl,rfl,rfl,by decide +kernel,rfl,by decide +kernel,by decide +kernel⟩
theorem Ry {f:Addr} {fd:FuncData} (D:Def K mg "sheared" B7 ["floor","k"] f fd) (T:Txt mg)  {jT:Addr} {jU:FuncData} (fP:Def K mg "followed" BX ["one","other"] jT jU) (lz:aC P w K mg base bz 1 jT jU ["one","other"] (bA K 2 BW)) {nU:Addr} {nV:FuncData} (lA:Def K mg "often" B4 ["turning","k"] nU nV) (o8:aC P w K mg base bz 3 nU nV ["turning","k"] (bA K 2 B3)):aC P w K mg base bz 4 f fd ["floor","k"] (bA K 2 B6):=by
 refine D.F.ok Rx (fun vs H Q E h=>h.1) (fun cdv A outer s H vs Q E hr h=>?_)
 have hu:=hr.units
 have hu1:=gk hr
 refine ⟨_,(@bu _ _ _ (@dm _ _ _ _ (@ie _ _ _ _ _ (@ao _ _ _ _ _ (@a9 _ _ _ _ _ _ _ bI (pv 0) aG (fun _ _=>rfl)) (@ao _ _ _ _ _ (cD lz (hr.mono (by decide)) rfl fP.m fP.F.kp fP.b .nil aE (@ao _ _ _ _ _ (cD o8 (hr.mono (by decide)) rfl lA.m lA.F.kp lA.b .nil aE (@ao _ _ _ _ _ (@a9 _ _ _ _ _ _ _ bI (pv 0) aG (fun _ _=>rfl)) (@ao _ _ _ _ _ (oQ oR (pv 1)) ay (by rfl)) (by rfl))) (@ao _ _ _ _ _ (@a9 _ _ _ _ _ _ _ bI (pv 0) aG (fun _ _=>rfl)) ay (by rfl)) (by rfl))) ay (by rfl)) (by rfl))))),?_⟩
 exact gp (b:=EE) (dn (ik (aq (ax bF (ai 0) (aH _)) (aq (cE (F:=BW) (aq (cE (F:=B3) (aq (ax bF (ai 0) (aH _)) (aq (oX oY (ai 1)) az)) (aU (aU (fun _ _ _ _ h=>cF h)))) (aq (ax bF (ai 0) (aH _)) az)) (aU (aU (fun _ _ _ _ h=>cF h)))) az)))) rfl h
def EF:au->Dm Fl :=
 (aA (aI (av nQ (c9 (ae (fC (.int 0)) ah)) (aP dP (ae (af 0) ah))) (hName 1))
 (aA (dr (mG (ae (af 0) ah)) (kN 2 (bT (hName 2) (bT (hName 3) lu))) (aI (af 2) (hSub (af 1) (af 3))))
 (bf (aP bY (ae (af 1) ah)))))
def se:List D->Dm D:=fL 4 EF
def ze:Stmt:=top 5
theorem EG:aB ["turning","back","number","led"] ["turning"] (aw ze):=⟨rfl,rfl,rfl,by decide +kernel,rfl,by decide +kernel,by decide +kernel⟩
theorem Rz {f:Addr} {fd:FuncData} (D:Def K mg "turned_back" ze ["turning"] f fd) (T:Txt mg)  :aC P w K mg base bz 1 f fd ["turning"] (bA K 1 se):=by
 refine D.F.ok EG (fun vs H Q E h=>h.1) (fun cdv A outer s H vs Q E hr h=>?_)
 have hu:=hr.units
 have hu1:=gk hr
 refine ⟨_,(@aZ _ _ _ _ _ (@cc (i:=1) _ _ _ _ _ _ EG.nd rfl (by first | exact Or.inl rfl | exact Or.inr rfl) (aW yJ (@kF _ _ _ _ (@ao _ _ _ _ _ aG ay (by rfl))) (ig lJ (by rfl) T.cv lK (@ao _ _ _ _ _ (pv 0) ay (by rfl)))) (by rfl) (by first | exact .inl rfl | exact .inr rfl | assumption))
  (@aZ _ _ _ _ _ (@lI _ _ _ _ _ _ _ _ PassesOwn.never rfl (Ke rfl T.lP (@ao _ _ _ _ _ (pv 0) ay (by rfl))) (sx (n:=2) rfl (lR (ef (i:=2) EG.nd rfl (by first | exact Or.inl rfl | exact Or.inr rfl)) (lR (ef (i:=3) EG.nd rfl (by first | exact Or.inl rfl | exact Or.inr rfl)) rF))) (@bu _ _ _ (oN (pv 2) (pf (pv 1) (pv 3) pz))) (by intro _;rfl))
  (@bu _ _ _ (@dm _ _ _ _ (fT n6 (by rfl) T.bC mW (@ao _ _ _ _ _ (pv 1) ay (by rfl))))))),?_⟩
 exact gp (b:=EF) (a8 (bG (ax y2 (kK (aq (aH _) az)) (bX lL (aq (ai 0) az))) (aT 1))
  (a8 (lN (Lh (aq (ai 0) az)) (rV (lW (aT 2) (lW (aT 3) rT))) (bG (ai 2) (pP (ai 1) (ai 3))))
  (dn (bX n8 (aq (ai 1) az))))) rfl h
def EH:au->Dm Fl :=
 (bf (bW (ae (aP se (ae (av aF (af 0) (fC (.int 1))) ah)) (ae (av aF (af 0) (fC (.int 0))) ah))))
def tQ:List D->Dm D:=fL 1 EH
def yd:Stmt:=top 33
theorem RA:aB ["floor"] ["floor"] (aw yd):=⟨rfl,rfl,rfl,by decide +kernel,rfl,by decide +kernel,by decide +kernel⟩
theorem RB {f:Addr} {fd:FuncData} (D:Def K mg "quartered" yd ["floor"] f fd) (T:Txt mg)  {cx:Addr} {cy:FuncData} (aR:Def K mg "turned_back" ze ["turning"] cx cy) (cz:aC P w K mg base bz 1 cx cy ["turning"] (bA K 1 se)):aC P w K mg base bz 2 f fd ["floor"] (bA K 1 tQ):=by
 refine D.F.ok RA (fun vs H Q E h=>h.1) (fun cdv A outer s H vs Q E hr h=>?_)
 have hu:=hr.units
 have hu1:=gk hr
 refine ⟨_,(@bu _ _ _ (@dm _ _ _ _ (@ie _ _ _ _ _ (@ao _ _ _ _ _ (cD cz (hr.mono (by decide)) rfl aR.m aR.F.kp aR.b .nil aE (@ao _ _ _ _ _ (@a9 _ _ _ _ _ _ _ bI (pv 0) aG (fun _ _=>rfl)) ay (by rfl))) (@ao _ _ _ _ _ (@a9 _ _ _ _ _ _ _ bI (pv 0) aG (fun _ _=>rfl)) ay (by rfl)) (by rfl))))),?_⟩
 exact gp (b:=EH) (dn (ik (aq (cE (F:=se) (aq (ax bF (ai 0) (aH _)) az) (aU (fun _ _ _ _ h=>cF h))) (aq (ax bF (ai 0) (aH _)) az)))) rfl h
def EI:au->Dm Fl :=
 (aA (i5 (aN (av (hV false) (av aF (af 1) (fC (.int 0))) (fC (.str "s")))) (bf (aP B6 (ae (af 0) (ae (av aF (af 1) (fC (.int 1))) ah)))) bL)
 (aA (aI (af 0) (hName 2))
 (aA (dr (bM (ae (av aF (af 1) (fC (.int 1))) ah)) (hName 3) (aI (aP tQ (ae (af 2) ah)) (hName 2)))
 (bf (af 2)))))
def B8:List D->Dm D:=fL 4 EI
def B9:Stmt:=top 35
theorem EJ:aB ["floor","step","led","turn"] ["floor","step"] (aw B9):=⟨rfl,rfl,rfl,by decide +kernel,rfl,by decide +kernel,by decide +kernel⟩
theorem RC {f:Addr} {fd:FuncData} (D:Def K mg "led_by_step" B9 ["floor","step"] f fd) (T:Txt mg)  {kQ:Addr} {kR:FuncData} (h9:Def K mg "sheared" B7 ["floor","k"] kQ kR) (mI:aC P w K mg base bz 4 kQ kR ["floor","k"] (bA K 2 B6)) {bZ:Addr} {b5:FuncData} (br:Def K mg "quartered" yd ["floor"] bZ b5) (cB:aC P w K mg base bz 2 bZ b5 ["floor"] (bA K 1 tQ)):aC P w K mg base bz 5 f fd ["floor","step"] (bA K 2 B8):=by
 refine D.F.ok EJ (fun vs H Q E h=>h.1) (fun cdv A outer s H vs Q E hr h=>?_)
 have hu:=hr.units
 have hu1:=gk hr
 refine ⟨_,(@aZ _ _ _ _ _ (@jH _ _ _ _ _ _ _ _ (gM mz (@a9 _ _ _ _ _ _ _ bI (pv 1) aG (fun _ _=>rfl)) lQ (aK _)) (@bu _ _ _ (@dm _ _ _ _ (cD mI (hr.mono (by decide)) rfl h9.m h9.F.kp h9.b .nil aE (@ao _ _ _ _ _ (pv 0) (@ao _ _ _ _ _ (@a9 _ _ _ _ _ _ _ bI (pv 1) aG (fun _ _=>rfl)) ay (by rfl)) (by rfl))))) kD)
  (@aZ _ _ _ _ _ (@cc (i:=2) _ _ _ _ _ _ EJ.nd rfl (by first | exact Or.inl rfl | exact Or.inr rfl) (pv 0) (by rfl) (by first | exact .inl rfl | exact .inr rfl | assumption))
  (@aZ _ _ _ _ _ (@lI _ _ _ _ _ _ _ _ PassesOwn.never rfl (nC rfl T.aQ (@ao _ _ _ _ _ (@a9 _ _ _ _ _ _ _ bI (pv 1) aG (fun _ _=>rfl)) ay (by rfl))) (ef (i:=3) EJ.nd rfl (by first | exact Or.inl rfl | exact Or.inr rfl)) (@bu _ _ _ (@cc (i:=2) _ _ _ _ _ _ EJ.nd rfl (by first | exact Or.inl rfl | exact Or.inr rfl) (cD cB (hr.mono (by decide)) rfl br.m br.F.kp br.b .nil aE (@ao _ _ _ _ _ (pv 2) ay (by rfl))) (by rfl) (by first | exact .inl rfl | exact .inr rfl | assumption))) (by intro _;rfl))
  (@bu _ _ _ (@dm _ _ _ _ (pv 2)))))),?_⟩
 exact gp (b:=EI) (a8 (jM (gq (ax mE (ax bF (ai 1) (aH _)) (lV _))) (dn (cE (F:=B6) (aq (ai 0) (aq (ax bF (ai 1) (aH _)) az)) (aU (aU (fun _ _ _ _ h=>cF h))))) kO)
  (a8 (bG (ai 0) (aT 2))
  (a8 (lN (nS (aq (ax bF (ai 1) (aH _)) az)) (aT 3) (bG (cE (F:=tQ) (aq (ai 2) az) (aU (fun _ _ _ _ h=>cF h))) (aT 2)))
  (dn (ai 2))))) rfl h
def EK:au->Dm Fl :=
 (aA (aI (af 0) (hName 2))
 (aA (dr (h8 (af 1)) (hName 3) (aI (aP B8 (ae (af 2) (ae (af 3) ah))) (hName 2)))
 (bf (af 2))))
def Ca:List D->Dm D:=fL 4 EK
def Cb:Stmt:=top 34
theorem EL:aB ["floor","word","led","step"] ["floor","word"] (aw Cb):=⟨rfl,rfl,rfl,by decide +kernel,rfl,by decide +kernel,by decide +kernel⟩
theorem RD {f:Addr} {fd:FuncData} (D:Def K mg "led_by" Cb ["floor","word"] f fd) (T:Txt mg)  {fA:Addr} {fB:FuncData} (cW:Def K mg "led_by_step" B9 ["floor","step"] fA fB) (iC:aC P w K mg base bz 5 fA fB ["floor","step"] (bA K 2 B8)):aC P w K mg base bz 6 f fd ["floor","word"] (bA K 2 Ca):=by
 refine D.F.ok EL (fun vs H Q E h=>h.1) (fun cdv A outer s H vs Q E hr h=>?_)
 have hu:=hr.units
 have hu1:=gk hr
 refine ⟨_,(@aZ _ _ _ _ _ (@cc (i:=2) _ _ _ _ _ _ EL.nd rfl (by first | exact Or.inl rfl | exact Or.inr rfl) (pv 0) (by rfl) (by first | exact .inl rfl | exact .inr rfl | assumption))
  (@aZ _ _ _ _ _ (@lI _ _ _ _ _ _ _ _ PassesOwn.never rfl (rG (pv 1)) (ef (i:=3) EL.nd rfl (by first | exact Or.inl rfl | exact Or.inr rfl)) (@bu _ _ _ (@cc (i:=2) _ _ _ _ _ _ EL.nd rfl (by first | exact Or.inl rfl | exact Or.inr rfl) (cD iC (hr.mono (by decide)) rfl cW.m cW.F.kp cW.b .nil aE (@ao _ _ _ _ _ (pv 2) (@ao _ _ _ _ _ (pv 3) ay (by rfl)) (by rfl))) (by rfl) (by first | exact .inl rfl | exact .inr rfl | assumption))) (by intro _;rfl))
  (@bu _ _ _ (@dm _ _ _ _ (pv 2))))),?_⟩
 exact gp (b:=EK) (a8 (bG (ai 0) (aT 2))
  (a8 (lN (rX (ai 1)) (aT 3) (bG (cE (F:=B8) (aq (ai 2) (aq (ai 3) az)) (aU (aU (fun _ _ _ _ h=>cF h)))) (aT 2)))
  (dn (ai 2)))) rfl h
def EM:au->Dm Fl :=
 (bf (pR (kg (fC (.str "r")) (av aF (af 0) (fC (.int 0))) (kg (fC (.str "l")) (aP se (ae (av aF (af 0) (fC (.int 0))) ah)) (kg (fC (.str "u")) (av aF (af 0) (fC (.int 1))) (kg (fC (.str "d")) (aP se (ae (av aF (af 0) (fC (.int 1))) ah)) qW))))))
def Cc:List D->Dm D:=fL 1 EM
def Cd:Stmt:=top 10
theorem RE:aB ["floor"] ["floor"] (aw Cd):=⟨rfl,rfl,rfl,by decide +kernel,rfl,by decide +kernel,by decide +kernel⟩
theorem RF {f:Addr} {fd:FuncData} (D:Def K mg "step_turnings" Cd ["floor"] f fd) (T:Txt mg)  {cx:Addr} {cy:FuncData} (aR:Def K mg "turned_back" ze ["turning"] cx cy) (cz:aC P w K mg base bz 1 cx cy ["turning"] (bA K 1 se)):aC P w K mg base bz 2 f fd ["floor"] (bA K 1 Cc):=by
 refine D.F.ok RE (fun vs H Q E h=>h.1) (fun cdv A outer s H vs Q E hr h=>?_)
 have hu:=hr.units
 have hu1:=gk hr
 refine ⟨_,(@bu _ _ _ (@dm _ _ _ _ (@NJ _ _ _ _ _ (@DB _ _ _ _ _ _ _ _ _ lQ (@a9 _ _ _ _ _ _ _ bI (pv 0) aG (fun _ _=>rfl)) (@DB _ _ _ _ _ _ _ _ _ lQ (cD cz (hr.mono (by decide)) rfl aR.m aR.F.kp aR.b .nil aE (@ao _ _ _ _ _ (@a9 _ _ _ _ _ _ _ bI (pv 0) aG (fun _ _=>rfl)) ay (by rfl))) (@DB _ _ _ _ _ _ _ _ _ lQ (@a9 _ _ _ _ _ _ _ bI (pv 0) aG (fun _ _=>rfl)) (@DB _ _ _ _ _ _ _ _ _ lQ (cD cz (hr.mono (by decide)) rfl aR.m aR.F.kp aR.b .nil aE (@ao _ _ _ _ _ (@a9 _ _ _ _ _ _ _ bI (pv 0) aG (fun _ _=>rfl)) ay (by rfl))) NI)))) rfl rfl (by decide) (by decide)))),?_⟩
 exact gp (b:=EM) (dn (Qs (D9 (lV _) (ax bF (ai 0) (aH _)) (D9 (lV _) (cE (F:=se) (aq (ax bF (ai 0) (aH _)) az) (aU (fun _ _ _ _ h=>cF h))) (D9 (lV _) (ax bF (ai 0) (aH _)) (D9 (lV _) (cE (F:=se) (aq (ax bF (ai 0) (aH _)) az) (aU (fun _ _ _ _ h=>cF h))) Qq)))))) rfl h
def EN:au->Dm Fl :=
 (aA (aI (aP Cc (ae (af 0) ah)) (hName 3))
 (aA (aI (aP dP (ae (av aF (af 0) (fC (.int 0))) ah)) (hName 4))
 (aA (aI (aP lM (ae (qi oZ (af 2) dM (i6 (af 4))) ah)) (hName 5))
 (aA (aI (av nQ (c9 (ae (fC (.int 0)) ah)) (af 4)) (hName 6))
 (aA (dr (bM (ae (af 4) ah)) (hName 7) (aA (aI (av aF (af 2) (av cq (af 4) (af 7))) (hName 8))
 (aA (aI (af 7) (hName 9))
 (aA (dr (bM (ae (af 1) ah)) (hName 10) (aA (aI (av aF (oH (af 3) (fC (.str "l"))) (af 9)) (hName 9))
 (aI (av eh (av da (af 5) (af 9)) (af 8)) (hSub (af 5) (af 9)))))
 (aA (dr (bM (ae (oz jc (af 1)) ah)) (hName 10) (aA (aI (av cq (av da (af 5) (af 9)) (af 8)) (hSub (af 5) (af 9)))
 (aI (av aF (oH (af 3) (fC (.str "r"))) (af 9)) (hName 9))))
 (aI (af 8) (hSub (af 6) (af 9))))))))
 (bf (aP bY (ae (av kM (af 5) (af 6)) ah))))))))
def zf:List D->Dm D:=fL 11 EN
def Ce:Stmt:=top 38
theorem qo:aB ["floor","k","seam","turnings","count","lower","left","s","number","reached","shear"] ["floor","k","seam"] (aw Ce):=⟨rfl,rfl,rfl,by decide +kernel,rfl,by decide +kernel,by decide +kernel⟩
theorem RG {f:Addr} {fd:FuncData} (D:Def K mg "seam_over_shears" Ce ["floor","k","seam"] f fd) (T:Txt mg)  {dU:Addr} {dW:FuncData} (ck:Def K mg "step_turnings" Cd ["floor"] dU dW) (fX:aC P w K mg base bz 2 dU dW ["floor"] (bA K 1 Cc)):aC P w K mg base bz 3 f fd ["floor","k","seam"] (bA K 3 zf):=by
 refine D.F.ok qo (fun vs H Q E h=>h.1) (fun cdv A outer s H vs Q E hr h=>?_)
 have hu:=hr.units
 have hu1:=gk hr
 refine ⟨_,(@aZ _ _ _ _ _ (@cc (i:=3) _ _ _ _ _ _ qo.nd rfl (by first | exact Or.inl rfl | exact Or.inr rfl) (cD fX (hr.mono (by decide)) rfl ck.m ck.F.kp ck.b .nil aE (@ao _ _ _ _ _ (pv 0) ay (by rfl))) (by rfl) (by first | exact .inl rfl | exact .inr rfl | assumption))
  (@aZ _ _ _ _ _ (@cc (i:=4) _ _ _ _ _ _ qo.nd rfl (by first | exact Or.inl rfl | exact Or.inr rfl) (ig lJ (by rfl) T.cv lK (@ao _ _ _ _ _ (@a9 _ _ _ _ _ _ _ bI (pv 0) aG (fun _ _=>rfl)) ay (by rfl))) (by rfl) (by first | exact .inl rfl | exact .inr rfl | assumption))
  (@aZ _ _ _ _ _ (@cc (i:=5) _ _ _ _ _ _ qo.nd rfl (by first | exact Or.inl rfl | exact Or.inr rfl) (fT Ap (by rfl) T.cT ot (@ao _ _ _ _ _ (sF Az (pv 2) sD (sE (pv 4))) ay (by rfl))) (by rfl) (by first | exact .inl rfl | exact .inr rfl | assumption))
  (@aZ _ _ _ _ _ (@cc (i:=6) _ _ _ _ _ _ qo.nd rfl (by first | exact Or.inl rfl | exact Or.inr rfl) (aW yJ (@kF _ _ _ _ (@ao _ _ _ _ _ aG ay (by rfl))) (pv 4)) (by rfl) (by first | exact .inl rfl | exact .inr rfl | assumption))
  (@aZ _ _ _ _ _ (@lI _ _ _ _ _ _ _ _ PassesOwn.never rfl (nC rfl T.aQ (@ao _ _ _ _ _ (pv 4) ay (by rfl))) (ef (i:=7) qo.nd rfl (by first | exact Or.inl rfl | exact Or.inr rfl)) (@aZ _ _ _ _ _ (@cc (i:=8) _ _ _ _ _ _ qo.nd rfl (by first | exact Or.inl rfl | exact Or.inr rfl) (@a9 _ _ _ _ _ _ _ bI (pv 2) (aW iZ (pv 4) (pv 7)) (fun _ _=>rfl)) (by rfl) (by first | exact .inl rfl | exact .inr rfl | assumption))
  (@aZ _ _ _ _ _ (@cc (i:=9) _ _ _ _ _ _ qo.nd rfl (by first | exact Or.inl rfl | exact Or.inr rfl) (pv 7) (by rfl) (by first | exact .inl rfl | exact .inr rfl | assumption))
  (@aZ _ _ _ _ _ (@lI _ _ _ _ _ _ _ _ PassesOwn.never rfl (nC rfl T.aQ (@ao _ _ _ _ _ (pv 1) ay (by rfl))) (ef (i:=10) qo.nd rfl (by first | exact Or.inl rfl | exact Or.inr rfl)) (@aZ _ _ _ _ _ (@cc (i:=9) _ _ _ _ _ _ qo.nd rfl (by first | exact Or.inl rfl | exact Or.inr rfl) (@a9 _ _ _ _ _ _ _ bI (JQ hu1 (pv 3) lQ (fun _ _=>rfl)) (pv 9) (fun _ _=>rfl)) (by rfl) (by first | exact .inl rfl | exact .inr rfl | assumption))
  (@bu _ _ _ (oN (aW mP (@a9 _ _ _ _ _ _ _ kG (pv 5) (pv 9) (fun _ _=>rfl)) (pv 8)) (pf (pv 5) (pv 9) pz)))) (by intro _;rfl))
  (@aZ _ _ _ _ _ (@lI _ _ _ _ _ _ _ _ PassesOwn.never rfl (nC rfl T.aQ (@ao _ _ _ _ _ (oQ oR (pv 1)) ay (by rfl))) (ef (i:=10) qo.nd rfl (by first | exact Or.inl rfl | exact Or.inr rfl)) (@aZ _ _ _ _ _ (oN (aW iZ (@a9 _ _ _ _ _ _ _ kG (pv 5) (pv 9) (fun _ _=>rfl)) (pv 8)) (pf (pv 5) (pv 9) pz))
  (@bu _ _ _ (@cc (i:=9) _ _ _ _ _ _ qo.nd rfl (by first | exact Or.inl rfl | exact Or.inr rfl) (@a9 _ _ _ _ _ _ _ bI (JQ hu1 (pv 3) lQ (fun _ _=>rfl)) (pv 9) (fun _ _=>rfl)) (by rfl) (by first | exact .inl rfl | exact .inr rfl | assumption)))) (by intro _;rfl))
  (@bu _ _ _ (oN (pv 8) (pf (pv 6) (pv 9) pz))))))) (by intro _;rfl))
  (@bu _ _ _ (@dm _ _ _ _ (fT n6 (by rfl) T.bC mW (@ao _ _ _ _ _ (aW qE (pv 5) (pv 6)) ay (by rfl)))))))))),?_⟩
 exact gp (b:=EN) (a8 (bG (cE (F:=Cc) (aq (ai 0) az) (aU (fun _ _ _ _ h=>cF h))) (aT 3))
  (a8 (bG (bX lL (aq (ax bF (ai 0) (aH _)) az)) (aT 4))
  (a8 (bG (bX Bb (aq (tj Ba (ai 2) sZ (tf (ai 4))) az)) (aT 5))
  (a8 (bG (ax y2 (kK (aq (aH _) az)) (ai 4)) (aT 6))
  (a8 (lN (nS (aq (ai 4) az)) (aT 7) (a8 (bG (ax bF (ai 2) (ax i7 (ai 4) (ai 7))) (aT 8))
  (a8 (bG (ai 7) (aT 9))
  (a8 (lN (nS (aq (ai 1) az)) (aT 10) (a8 (bG (ax bF (Lj (ai 3) (lV _)) (ai 9)) (aT 9))
  (bG (ax mT (ax kL (ai 5) (ai 9)) (ai 8)) (pP (ai 5) (ai 9)))))
  (a8 (lN (nS (aq (oX oY (ai 1)) az)) (aT 10) (a8 (bG (ax i7 (ax kL (ai 5) (ai 9)) (ai 8)) (pP (ai 5) (ai 9)))
  (bG (ax bF (Lj (ai 3) (lV _)) (ai 9)) (aT 9))))
  (bG (ai 8) (pP (ai 6) (ai 9))))))))
  (dn (bX n8 (aq (ax qT (ai 5) (ai 6)) az)))))))) rfl h
def zg (RR:List D->Dm D):au->Dm Fl :=
 (aA (i5 (aN (av (hV false) (af 1) (fC (.int 0)))) (bf (af 2)) bL)
 (aA (aI (aP RR (ae (aP tQ (ae (af 0) ah)) (ae (av eh (af 1) (fC (.int 1))) (ae (af 2) ah)))) (hName 3))
 (aA (aI (aP dP (ae (av aF (af 0) (fC (.int 0))) ah)) (hName 4))
 (aA (aI (av nQ (c9 (ae (fC (.int 0)) ah)) (af 4)) (hName 5))
 (aA (dr (bM (ae (af 4) ah)) (hName 6) (aI (av aF (af 3) (av cq (af 4) (af 6))) (hSub (af 5) (av aF (av aF (af 0) (fC (.int 1))) (af 6)))))
 (bf (aP bY (ae (av kM (af 5) (dQ (h8 (qi oZ (af 3) dM (i6 (af 4)))) 1 [] (hName 0) d0 (oz jc (af 0)))) ah))))))))
def vi:Nat->List D->Dm D
 | 0=>fun _ _=>none
 | n + 1=>fL 7 (zg (vi n))
def EO:List D->Dm D:=vi 6
def zh:Stmt:=top 39
theorem Cf:aB ["floor","k","seam","later","count","lower","s"] ["floor","k","seam"] (aw zh):=⟨rfl,rfl,rfl,by decide +kernel,rfl,by decide +kernel,by decide +kernel⟩
theorem LZ {f:Addr} {fd:FuncData} (D:Def K mg "seam_over_quarters" zh ["floor","k","seam"] f fd) (T:Txt mg)  {bZ:Addr} {b5:FuncData} (br:Def K mg "quartered" yd ["floor"] bZ b5) (cB:aC P w K mg base bz 2 bZ b5 ["floor"] (bA K 1 tQ)):∀ nn:Nat,aC P w K mg base bz (3 + nn) f fd ["floor","k","seam"] (bA K 3 (vi nn))
 | 0=>LP rfl
 | nn + 1=>by
  have rj:=LZ D T  br cB nn
  refine D.F.ok Cf (fun vs H Q E h=>h.1) (fun cdv A outer s H vs Q E hr h=>?_)
  have hu:=hr.units
  have hu1:=gk hr
  refine ⟨_,(@aZ _ _ _ _ _ (@jH _ _ _ _ _ _ _ _ (gM mz (pv 1) aG (aK _)) (@bu _ _ _ (@dm _ _ _ _ (pv 2))) kD)
  (@aZ _ _ _ _ _ (@cc (i:=3) _ _ _ _ _ _ Cf.nd rfl (by first | exact Or.inl rfl | exact Or.inr rfl) (cD rj (hr.mono (by first | exact Nat.le_refl _ | omega)) rfl D.m D.F.kp D.b .nil aE (@ao _ _ _ _ _ (cD cB (hr.mono (Nat.le_trans (by decide) (Nat.le_add_right _ _))) rfl br.m br.F.kp br.b .nil aE (@ao _ _ _ _ _ (pv 0) ay (by rfl))) (@ao _ _ _ _ _ (aW mP (pv 1) aG) (@ao _ _ _ _ _ (pv 2) ay (by rfl)) (by rfl)) (by rfl))) (by rfl) (by first | exact .inl rfl | exact .inr rfl | assumption))
  (@aZ _ _ _ _ _ (@cc (i:=4) _ _ _ _ _ _ Cf.nd rfl (by first | exact Or.inl rfl | exact Or.inr rfl) (ig lJ (by rfl) T.cv lK (@ao _ _ _ _ _ (@a9 _ _ _ _ _ _ _ bI (pv 0) aG (fun _ _=>rfl)) ay (by rfl))) (by rfl) (by first | exact .inl rfl | exact .inr rfl | assumption))
  (@aZ _ _ _ _ _ (@cc (i:=5) _ _ _ _ _ _ Cf.nd rfl (by first | exact Or.inl rfl | exact Or.inr rfl) (aW yJ (@kF _ _ _ _ (@ao _ _ _ _ _ aG ay (by rfl))) (pv 4)) (by rfl) (by first | exact .inl rfl | exact .inr rfl | assumption))
  (@aZ _ _ _ _ _ (@lI _ _ _ _ _ _ _ _ PassesOwn.never rfl (nC rfl T.aQ (@ao _ _ _ _ _ (pv 4) ay (by rfl))) (ef (i:=6) Cf.nd rfl (by first | exact Or.inl rfl | exact Or.inr rfl)) (@bu _ _ _ (oN (@a9 _ _ _ _ _ _ _ bI (pv 3) (aW iZ (pv 4) (pv 6)) (fun _ _=>rfl)) (pf (pv 5) (@a9 _ _ _ _ _ _ _ bI (@a9 _ _ _ _ _ _ _ bI (pv 0) aG (fun _ _=>rfl)) (pv 6) (fun _ _=>rfl)) pz))) (by intro _;rfl))
  (@bu _ _ _ (@dm _ _ _ _ (fT n6 (by rfl) T.bC mW (@ao _ _ _ _ _ (aW qE (pv 5) (rK (own:=["number"]) (fr:=[]) (js:=[]) rfl ⟨⟨rfl,by decide +kernel,by decide +kernel,by dsimp only [jb,aV,Cx.oM,Cx.wish,PyProof.Rows.envOfC,compEnvC,relabel,Env.kindOf];decide +kernel,by decide +kernel⟩,rfl⟩ (rG (sF Az (pv 3) sD (sE (pv 4)))) (fun _ _ _ _ _=>(ef (i:=0) (show ((["number"]:List Str) ++ ([]:List Str)).Nodup by decide +kernel) rfl (by first | exact Or.inl rfl | exact Or.inr rfl))) (fun _ _ _ _ _=>rJ) (fun _ _ _ _ _=>(oQ oR (pv 0))))) ay (by rfl)))))))))),?_⟩
  exact gp (b:=zg (vi nn)) (a8 (jM (gq (ax mE (ai 1) (aH _))) (dn (ai 2)) kO)
  (a8 (bG (cE (F:=vi nn) (aq (cE (F:=tQ) (aq (ai 0) az) (aU (fun _ _ _ _ h=>cF h))) (aq (ax mT (ai 1) (aH _)) (aq (ai 2) az))) (aU (aU (aU (fun _ _ _ _ h=>cF h))))) (aT 3))
  (a8 (bG (bX lL (aq (ax bF (ai 0) (aH _)) az)) (aT 4))
  (a8 (bG (ax y2 (kK (aq (aH _) az)) (ai 4)) (aT 5))
  (a8 (lN (nS (aq (ai 4) az)) (aT 6) (bG (ax bF (ai 3) (ax i7 (ai 4) (ai 6))) (pP (ai 5) (ax bF (ax bF (ai 0) (aH _)) (ai 6)))))
  (dn (bX n8 (aq (ax qT (ai 5) (qm (rX (tj Ba (ai 3) sZ (tf (ai 4)))) (aT 0) rY (oX oY (ai 0)))) az)))))))) rfl h
theorem RH {f:Addr} {fd:FuncData} (D:Def K mg "seam_over_quarters" zh ["floor","k","seam"] f fd) (T:Txt mg)  {bZ:Addr} {b5:FuncData} (br:Def K mg "quartered" yd ["floor"] bZ b5) (cB:aC P w K mg base bz 2 bZ b5 ["floor"] (bA K 1 tQ)):aC P w K mg base bz 9 f fd ["floor","k","seam"] (bA K 3 EO):=LZ D T  br cB 6
def ER:au->Dm Fl :=
 (aA (aI (af 2) (hName 3))
 (aA (dr (mH (ae (av eh (aP dP (ae (af 1) ah)) (fC (.int 1))) (ae (oz jc (fC (.int 1))) (ae (oz jc (fC (.int 1))) ah)))) (hName 4) (aA (aI (aP Ca (ae (af 0) (ae (qi oZ (af 1) dM (i6 (af 4))) ah))) (hName 5))
 (i5 (aN (av (hV false) (av aF (av aF (af 1) (af 4)) (fC (.int 0))) (fC (.str "s")))) (aI (aP zf (ae (af 5) (ae (av aF (av aF (af 1) (af 4)) (fC (.int 1))) (ae (af 3) ah)))) (hName 3)) (aI (aP EO (ae (af 5) (ae (av aF (av aF (af 1) (af 4)) (fC (.int 1))) (ae (af 3) ah)))) (hName 3)))))
 (bf (af 3))))
def qr:List D->Dm D:=fL 6 ER
def zi:Stmt:=top 37
theorem zj:aB ["floor","word","seam","carried","place","ahead"] ["floor","word","seam"] (aw zi):=⟨rfl,rfl,rfl,by decide +kernel,rfl,by decide +kernel,by decide +kernel⟩
theorem RI {f:Addr} {fd:FuncData} (D:Def K mg "seam_carried" zi ["floor","word","seam"] f fd) (T:Txt mg)  {mh:Addr} {mj:FuncData} (jV:Def K mg "led_by" Cb ["floor","word"] mh mj) (nW:aC P w K mg base bz 6 mh mj ["floor","word"] (bA K 2 Ca)) {cL:Addr} {cM:FuncData} (bH:Def K mg "seam_over_shears" Ce ["floor","k","seam"] cL cM) (dX:aC P w K mg base bz 3 cL cM ["floor","k","seam"] (bA K 3 zf)) {cg:Addr} {cj:FuncData} (bt:Def K mg "seam_over_quarters" zh ["floor","k","seam"] cg cj) (c6:aC P w K mg base bz 9 cg cj ["floor","k","seam"] (bA K 3 EO)):aC P w K mg base bz 10 f fd ["floor","word","seam"] (bA K 3 qr):=by
 refine D.F.ok zj (fun vs H Q E h=>h.1) (fun cdv A outer s H vs Q E hr h=>?_)
 have hu:=hr.units
 have hu1:=gk hr
 refine ⟨_,(@aZ _ _ _ _ _ (@cc (i:=3) _ _ _ _ _ _ zj.nd rfl (by first | exact Or.inl rfl | exact Or.inr rfl) (pv 2) (by rfl) (by first | exact .inl rfl | exact .inr rfl | assumption))
  (@aZ _ _ _ _ _ (@lI _ _ _ _ _ _ _ _ PassesOwn.never rfl (Ky rfl T.aQ (@ao _ _ _ _ _ (aW mP (ig lJ (by rfl) T.cv lK (@ao _ _ _ _ _ (pv 1) ay (by rfl))) aG) (@ao _ _ _ _ _ (oQ oR aG) (@ao _ _ _ _ _ (oQ oR aG) ay (by rfl)) (by rfl)) (by rfl))) (ef (i:=4) zj.nd rfl (by first | exact Or.inl rfl | exact Or.inr rfl)) (@aZ _ _ _ _ _ (@cc (i:=5) _ _ _ _ _ _ zj.nd rfl (by first | exact Or.inl rfl | exact Or.inr rfl) (cD nW (hr.mono (by decide)) rfl jV.m jV.F.kp jV.b .nil aE (@ao _ _ _ _ _ (pv 0) (@ao _ _ _ _ _ (sF Az (pv 1) sD (sE (pv 4))) ay (by rfl)) (by rfl))) (by rfl) (by first | exact .inl rfl | exact .inr rfl | assumption))
  (@bu _ _ _ (@jH _ _ _ _ _ _ _ _ (gM mz (@a9 _ _ _ _ _ _ _ bI (@a9 _ _ _ _ _ _ _ bI (pv 1) (pv 4) (fun _ _=>rfl)) aG (fun _ _=>rfl)) lQ (aK _)) (@bu _ _ _ (@cc (i:=3) _ _ _ _ _ _ zj.nd rfl (by first | exact Or.inl rfl | exact Or.inr rfl) (cD dX (hr.mono (by decide)) rfl bH.m bH.F.kp bH.b .nil aE (@ao _ _ _ _ _ (pv 5) (@ao _ _ _ _ _ (@a9 _ _ _ _ _ _ _ bI (@a9 _ _ _ _ _ _ _ bI (pv 1) (pv 4) (fun _ _=>rfl)) aG (fun _ _=>rfl)) (@ao _ _ _ _ _ (pv 3) ay (by rfl)) (by rfl)) (by rfl))) (by rfl) (by first | exact .inl rfl | exact .inr rfl | assumption))) (@bu _ _ _ (@cc (i:=3) _ _ _ _ _ _ zj.nd rfl (by first | exact Or.inl rfl | exact Or.inr rfl) (cD c6 (hr.mono (by decide)) rfl bt.m bt.F.kp bt.b .nil aE (@ao _ _ _ _ _ (pv 5) (@ao _ _ _ _ _ (@a9 _ _ _ _ _ _ _ bI (@a9 _ _ _ _ _ _ _ bI (pv 1) (pv 4) (fun _ _=>rfl)) aG (fun _ _=>rfl)) (@ao _ _ _ _ _ (pv 3) ay (by rfl)) (by rfl)) (by rfl))) (by rfl) (by first | exact .inl rfl | exact .inr rfl | assumption)))))) (by intro _;rfl))
  (@bu _ _ _ (@dm _ _ _ _ (pv 3))))),?_⟩
 exact gp (b:=ER) (a8 (bG (ai 2) (aT 3))
  (a8 (lN (LX (aq (ax mT (bX lL (aq (ai 1) az)) (aH _)) (aq (oX oY (aH _)) (aq (oX oY (aH _)) az)))) (aT 4) (a8 (bG (cE (F:=Ca) (aq (ai 0) (aq (tj Ba (ai 1) sZ (tf (ai 4))) az)) (aU (aU (fun _ _ _ _ h=>cF h)))) (aT 5))
  (jM (gq (ax mE (ax bF (ax bF (ai 1) (ai 4)) (aH _)) (lV _))) (bG (cE (F:=zf) (aq (ai 5) (aq (ax bF (ax bF (ai 1) (ai 4)) (aH _)) (aq (ai 3) az))) (aU (aU (aU (fun _ _ _ _ h=>cF h))))) (aT 3)) (bG (cE (F:=EO) (aq (ai 5) (aq (ax bF (ax bF (ai 1) (ai 4)) (aH _)) (aq (ai 3) az))) (aU (aU (aU (fun _ _ _ _ h=>cF h))))) (aT 3)))))
  (dn (ai 3)))) rfl h
def ES:au->Dm Fl :=
 (bf (bW (ae (av cq (av dD (av aF (af 0) (fC (.int 0))) (av aF (af 1) (fC (.int 0)))) (av dD (av aF (af 0) (fC (.int 1))) (av aF (af 1) (fC (.int 1))))) (ae (av cq (av dD (av aF (af 0) (fC (.int 2))) (av aF (af 1) (fC (.int 0)))) (av dD (av aF (af 0) (fC (.int 3))) (av aF (af 1) (fC (.int 1))))) ah))))
def Cg:List D->Dm D:=fL 2 ES
def Ci:Stmt:=top 14
theorem RJ:aB ["table","pair"] ["table","pair"] (aw Ci):=⟨rfl,rfl,rfl,by decide +kernel,rfl,by decide +kernel,by decide +kernel⟩
theorem RK {f:Addr} {fd:FuncData} (D:Def K mg "led_pair" Ci ["table","pair"] f fd) (T:Txt mg)  :aC P w K mg base bz 1 f fd ["table","pair"] (bA K 2 Cg):=by
 refine D.F.ok RJ (fun vs H Q E h=>h.1) (fun cdv A outer s H vs Q E hr h=>?_)
 have hu:=hr.units
 have hu1:=gk hr
 refine ⟨_,(@bu _ _ _ (@dm _ _ _ _ (@ie _ _ _ _ _ (@ao _ _ _ _ _ (aW iZ (aW ou (@a9 _ _ _ _ _ _ _ bI (pv 0) aG (fun _ _=>rfl)) (@a9 _ _ _ _ _ _ _ bI (pv 1) aG (fun _ _=>rfl))) (aW ou (@a9 _ _ _ _ _ _ _ bI (pv 0) aG (fun _ _=>rfl)) (@a9 _ _ _ _ _ _ _ bI (pv 1) aG (fun _ _=>rfl)))) (@ao _ _ _ _ _ (aW iZ (aW ou (@a9 _ _ _ _ _ _ _ bI (pv 0) aG (fun _ _=>rfl)) (@a9 _ _ _ _ _ _ _ bI (pv 1) aG (fun _ _=>rfl))) (aW ou (@a9 _ _ _ _ _ _ _ bI (pv 0) aG (fun _ _=>rfl)) (@a9 _ _ _ _ _ _ _ bI (pv 1) aG (fun _ _=>rfl)))) ay (by rfl)) (by rfl))))),?_⟩
 exact gp (b:=ES) (dn (ik (aq (ax i7 (ax oI (ax bF (ai 0) (aH _)) (ax bF (ai 1) (aH _))) (ax oI (ax bF (ai 0) (aH _)) (ax bF (ai 1) (aH _)))) (aq (ax i7 (ax oI (ax bF (ai 0) (aH _)) (ax bF (ai 1) (aH _))) (ax oI (ax bF (ai 0) (aH _)) (ax bF (ai 1) (aH _)))) az)))) rfl h
def ET:au->Dm Fl :=
 (aA (i5 (aN (av (hV false) (af 0) (fC (.int 0)))) (bf (bW ah)) bL)
 (bf (bW (ae (bW (ae (fC (.str "s")) (ae (af 0) ah))) ah))))
def sf:List D->Dm D:=fL 1 ET
def zk:Stmt:=top 29
theorem RL:aB ["k"] ["k"] (aw zk):=⟨rfl,rfl,rfl,by decide +kernel,rfl,by decide +kernel,by decide +kernel⟩
theorem RM {f:Addr} {fd:FuncData} (D:Def K mg "shears" zk ["k"] f fd) (T:Txt mg)  :aC P w K mg base bz 1 f fd ["k"] (bA K 1 sf):=by
 refine D.F.ok RL (fun vs H Q E h=>h.1) (fun cdv A outer s H vs Q E hr h=>?_)
 have hu:=hr.units
 have hu1:=gk hr
 refine ⟨_,(@aZ _ _ _ _ _ (@jH _ _ _ _ _ _ _ _ (gM mz (pv 0) aG (aK _)) (@bu _ _ _ (@dm _ _ _ _ (@ie _ _ _ _ _ ay))) kD)
  (@bu _ _ _ (@dm _ _ _ _ (@ie _ _ _ _ _ (@ao _ _ _ _ _ (@ie _ _ _ _ _ (@ao _ _ _ _ _ lQ (@ao _ _ _ _ _ (pv 0) ay (by rfl)) (by rfl))) ay (by rfl)))))),?_⟩
 exact gp (b:=ET) (a8 (jM (gq (ax mE (ai 0) (aH _))) (dn (ik az)) kO)
  (dn (ik (aq (ik (aq (lV _) (aq (ai 0) az))) az)))) rfl h
def EU:au->Dm Fl :=
 (bf (bW (ae (av cq (av dD (av aF (af 0) (fC (.int 0))) (av aF (af 1) (fC (.int 0)))) (av dD (av aF (af 0) (fC (.int 1))) (av aF (af 1) (fC (.int 2))))) (ae (av cq (av dD (av aF (af 0) (fC (.int 0))) (av aF (af 1) (fC (.int 1)))) (av dD (av aF (af 0) (fC (.int 1))) (av aF (af 1) (fC (.int 3))))) (ae (av cq (av dD (av aF (af 0) (fC (.int 2))) (av aF (af 1) (fC (.int 0)))) (av dD (av aF (af 0) (fC (.int 3))) (av aF (af 1) (fC (.int 2))))) (ae (av cq (av dD (av aF (af 0) (fC (.int 2))) (av aF (af 1) (fC (.int 1)))) (av dD (av aF (af 0) (fC (.int 3))) (av aF (af 1) (fC (.int 3))))) ah))))))
def rl:List D->Dm D:=fL 2 EU
def ye:Stmt:=top 13
theorem RN:aB ["one","other"] ["one","other"] (aw ye):=⟨rfl,rfl,rfl,by decide +kernel,rfl,by decide +kernel,by decide +kernel⟩
theorem RO {f:Addr} {fd:FuncData} (D:Def K mg "times" ye ["one","other"] f fd) (T:Txt mg)  :aC P w K mg base bz 1 f fd ["one","other"] (bA K 2 rl):=by
 refine D.F.ok RN (fun vs H Q E h=>h.1) (fun cdv A outer s H vs Q E hr h=>?_)
 have hu:=hr.units
 have hu1:=gk hr
 refine ⟨_,(@bu _ _ _ (@dm _ _ _ _ (@ie _ _ _ _ _ (@ao _ _ _ _ _ (aW iZ (aW ou (@a9 _ _ _ _ _ _ _ bI (pv 0) aG (fun _ _=>rfl)) (@a9 _ _ _ _ _ _ _ bI (pv 1) aG (fun _ _=>rfl))) (aW ou (@a9 _ _ _ _ _ _ _ bI (pv 0) aG (fun _ _=>rfl)) (@a9 _ _ _ _ _ _ _ bI (pv 1) aG (fun _ _=>rfl)))) (@ao _ _ _ _ _ (aW iZ (aW ou (@a9 _ _ _ _ _ _ _ bI (pv 0) aG (fun _ _=>rfl)) (@a9 _ _ _ _ _ _ _ bI (pv 1) aG (fun _ _=>rfl))) (aW ou (@a9 _ _ _ _ _ _ _ bI (pv 0) aG (fun _ _=>rfl)) (@a9 _ _ _ _ _ _ _ bI (pv 1) aG (fun _ _=>rfl)))) (@ao _ _ _ _ _ (aW iZ (aW ou (@a9 _ _ _ _ _ _ _ bI (pv 0) aG (fun _ _=>rfl)) (@a9 _ _ _ _ _ _ _ bI (pv 1) aG (fun _ _=>rfl))) (aW ou (@a9 _ _ _ _ _ _ _ bI (pv 0) aG (fun _ _=>rfl)) (@a9 _ _ _ _ _ _ _ bI (pv 1) aG (fun _ _=>rfl)))) (@ao _ _ _ _ _ (aW iZ (aW ou (@a9 _ _ _ _ _ _ _ bI (pv 0) aG (fun _ _=>rfl)) (@a9 _ _ _ _ _ _ _ bI (pv 1) aG (fun _ _=>rfl))) (aW ou (@a9 _ _ _ _ _ _ _ bI (pv 0) aG (fun _ _=>rfl)) (@a9 _ _ _ _ _ _ _ bI (pv 1) aG (fun _ _=>rfl)))) ay (by rfl)) (by rfl)) (by rfl)) (by rfl))))),?_⟩
 exact gp (b:=EU) (dn (ik (aq (ax i7 (ax oI (ax bF (ai 0) (aH _)) (ax bF (ai 1) (aH _))) (ax oI (ax bF (ai 0) (aH _)) (ax bF (ai 1) (aH _)))) (aq (ax i7 (ax oI (ax bF (ai 0) (aH _)) (ax bF (ai 1) (aH _))) (ax oI (ax bF (ai 0) (aH _)) (ax bF (ai 1) (aH _)))) (aq (ax i7 (ax oI (ax bF (ai 0) (aH _)) (ax bF (ai 1) (aH _))) (ax oI (ax bF (ai 0) (aH _)) (ax bF (ai 1) (aH _)))) (aq (ax i7 (ax oI (ax bF (ai 0) (aH _)) (ax bF (ai 1) (aH _))) (ax oI (ax bF (ai 0) (aH _)) (ax bF (ai 1) (aH _)))) az)))))) rfl h
def EV:au->Dm Fl :=
 (aA (i5 (aN (av (hV false) (av aF (af 0) (fC (.int 0))) (fC (.str "s")))) (bf (bW (ae (fC (.int 1)) (ae (av aF (af 0) (fC (.int 1))) (ae (fC (.int 0)) (ae (fC (.int 1)) ah)))))) bL)
 (aA (aI (fC (.tup [(.int 1),(.int 0),(.int 0),(.int 1)])) (hName 1))
 (aA (dr (bM (ae (av aF (af 0) (fC (.int 1))) ah)) (hName 2) (aI (aP rl (ae (fC (.tup [(.int 0),(.int (-1)),(.int 1),(.int 0)])) (ae (af 1) ah))) (hName 1)))
 (bf (af 1)))))
def Cj:List D->Dm D:=fL 3 EV
def Ck:Stmt:=top 18
theorem EW:aB ["step","table","turn"] ["step"] (aw Ck):=⟨rfl,rfl,rfl,by decide +kernel,rfl,by decide +kernel,by decide +kernel⟩
theorem RP {f:Addr} {fd:FuncData} (D:Def K mg "step_table" Ck ["step"] f fd) (T:Txt mg) {mJ:V} (kS:qB K mg "QUARTER" mJ (.tup [(.int 0),(.int (-1)),(.int 1),(.int 0)])) {jr:V} (eX:qB K mg "UNMOVED" jr (.tup [(.int 1),(.int 0),(.int 0),(.int 1)])) {gQ:Addr} {gR:FuncData} (c7:Def K mg "times" ye ["one","other"] gQ gR) (iD:aC P w K mg base bz 1 gQ gR ["one","other"] (bA K 2 rl)):aC P w K mg base bz 2 f fd ["step"] (bA K 1 Cj):=by
 refine D.F.ok EW (fun vs H Q E h=>h.1) (fun cdv A outer s H vs Q E hr h=>?_)
 have hu:=hr.units
 have hu1:=gk hr
 refine ⟨_,(@aZ _ _ _ _ _ (@jH _ _ _ _ _ _ _ _ (gM mz (@a9 _ _ _ _ _ _ _ bI (pv 0) aG (fun _ _=>rfl)) lQ (aK _)) (@bu _ _ _ (@dm _ _ _ _ (@ie _ _ _ _ _ (@ao _ _ _ _ _ aG (@ao _ _ _ _ _ (@a9 _ _ _ _ _ _ _ bI (pv 0) aG (fun _ _=>rfl)) (@ao _ _ _ _ _ aG (@ao _ _ _ _ _ aG ay (by rfl)) (by rfl)) (by rfl)) (by rfl))))) kD)
  (@aZ _ _ _ _ _ (@cc (i:=1) _ _ _ _ _ _ EW.nd rfl (by first | exact Or.inl rfl | exact Or.inr rfl) (HK eX rfl rfl (by decide)) (by rfl) (by first | exact .inl rfl | exact .inr rfl | assumption))
  (@aZ _ _ _ _ _ (@lI _ _ _ _ _ _ _ _ PassesOwn.never rfl (nC rfl T.aQ (@ao _ _ _ _ _ (@a9 _ _ _ _ _ _ _ bI (pv 0) aG (fun _ _=>rfl)) ay (by rfl))) (ef (i:=2) EW.nd rfl (by first | exact Or.inl rfl | exact Or.inr rfl)) (@bu _ _ _ (@cc (i:=1) _ _ _ _ _ _ EW.nd rfl (by first | exact Or.inl rfl | exact Or.inr rfl) (cD iD (hr.mono (by decide)) rfl c7.m c7.F.kp c7.b .nil aE (@ao _ _ _ _ _ (HK kS rfl rfl (by decide)) (@ao _ _ _ _ _ (pv 1) ay (by rfl)) (by rfl))) (by rfl) (by first | exact .inl rfl | exact .inr rfl | assumption))) (by intro _;rfl))
  (@bu _ _ _ (@dm _ _ _ _ (pv 1)))))),?_⟩
 exact gp (b:=EV) (a8 (jM (gq (ax mE (ax bF (ai 0) (aH _)) (lV _))) (dn (ik (aq (aH _) (aq (ax bF (ai 0) (aH _)) (aq (aH _) (aq (aH _) az)))))) kO)
  (a8 (bG (HL eX) (aT 1))
  (a8 (lN (nS (aq (ax bF (ai 0) (aH _)) az)) (aT 2) (bG (cE (F:=rl) (aq (HL kS) (aq (ai 1) az)) (aU (aU (fun _ _ _ _ h=>cF h)))) (aT 1)))
  (dn (ai 1))))) rfl h
def EX:au->Dm Fl :=
 (aA (aI (fC (.tup [(.int 1),(.int 0),(.int 0),(.int 1)])) (hName 1))
 (aA (dr (h8 (af 0)) (hName 2) (aI (aP rl (ae (aP Cj (ae (af 2) ah)) (ae (af 1) ah))) (hName 1)))
 (bf (af 1))))
def vj:List D->Dm D:=fL 3 EX
def zm:Stmt:=top 19
theorem EY:aB ["word","table","step"] ["word"] (aw zm):=⟨rfl,rfl,rfl,by decide +kernel,rfl,by decide +kernel,by decide +kernel⟩
theorem RQ {f:Addr} {fd:FuncData} (D:Def K mg "table_of" zm ["word"] f fd) (T:Txt mg) {jr:V} (eX:qB K mg "UNMOVED" jr (.tup [(.int 1),(.int 0),(.int 0),(.int 1)])) {gQ:Addr} {gR:FuncData} (c7:Def K mg "times" ye ["one","other"] gQ gR) (iD:aC P w K mg base bz 1 gQ gR ["one","other"] (bA K 2 rl)) {gw:Addr} {gA:FuncData} (dE:Def K mg "step_table" Ck ["step"] gw gA) (jt:aC P w K mg base bz 2 gw gA ["step"] (bA K 1 Cj)):aC P w K mg base bz 3 f fd ["word"] (bA K 1 vj):=by
 refine D.F.ok EY (fun vs H Q E h=>h.1) (fun cdv A outer s H vs Q E hr h=>?_)
 have hu:=hr.units
 have hu1:=gk hr
 refine ⟨_,(@aZ _ _ _ _ _ (@cc (i:=1) _ _ _ _ _ _ EY.nd rfl (by first | exact Or.inl rfl | exact Or.inr rfl) (HK eX rfl rfl (by decide)) (by rfl) (by first | exact .inl rfl | exact .inr rfl | assumption))
  (@aZ _ _ _ _ _ (@lI _ _ _ _ _ _ _ _ PassesOwn.never rfl (rG (pv 0)) (ef (i:=2) EY.nd rfl (by first | exact Or.inl rfl | exact Or.inr rfl)) (@bu _ _ _ (@cc (i:=1) _ _ _ _ _ _ EY.nd rfl (by first | exact Or.inl rfl | exact Or.inr rfl) (cD iD (hr.mono (by decide)) rfl c7.m c7.F.kp c7.b .nil aE (@ao _ _ _ _ _ (cD jt (hr.mono (by decide)) rfl dE.m dE.F.kp dE.b .nil aE (@ao _ _ _ _ _ (pv 2) ay (by rfl))) (@ao _ _ _ _ _ (pv 1) ay (by rfl)) (by rfl))) (by rfl) (by first | exact .inl rfl | exact .inr rfl | assumption))) (by intro _;rfl))
  (@bu _ _ _ (@dm _ _ _ _ (pv 1))))),?_⟩
 exact gp (b:=EX) (a8 (bG (HL eX) (aT 1))
  (a8 (lN (rX (ai 0)) (aT 2) (bG (cE (F:=rl) (aq (cE (F:=Cj) (aq (ai 2) az) (aU (fun _ _ _ _ h=>cF h))) (aq (ai 1) az)) (aU (aU (fun _ _ _ _ h=>cF h)))) (aT 1)))
  (dn (ai 1)))) rfl h
def EZ:au->Dm Fl :=
 (bf (av kh (av cq (av jk (fC (.int 2)) (af 0)) (af 1)) (av jk (fC (.int 2)) (af 1))))
def Cm:List D->Dm D:=fL 2 EZ
def Cn:Stmt:=top 28
theorem RS:aB ["number","divisor"] ["number","divisor"] (aw Cn):=⟨rfl,rfl,rfl,by decide +kernel,rfl,by decide +kernel,by decide +kernel⟩
theorem RT {f:Addr} {fd:FuncData} (D:Def K mg "nearest" Cn ["number","divisor"] f fd) (T:Txt mg)  :aC P w K mg base bz 1 f fd ["number","divisor"] (bA K 2 Cm):=by
 refine D.F.ok RS (fun vs H Q E h=>h.1) (fun cdv A outer s H vs Q E hr h=>?_)
 have hu:=hr.units
 have hu1:=gk hr
 refine ⟨_,(@bu _ _ _ (@dm _ _ _ _ (aW DK (aW iZ (aW ph aG (pv 0)) (pv 1)) (aW ph aG (pv 1))))),?_⟩
 exact gp (b:=EZ) (dn (ax El (ax i7 (ax pN (aH _) (ai 0)) (ai 1)) (ax pN (aH _) (ai 1)))) rfl h
def E1:au->Dm Fl :=
 (aA (aI (bW ah) (hName 1))
 (aA (aI (af 0) (hName 2))
 (aA (jn (aN (av (hV true) (av aF (af 2) (fC (.int 1))) (fC (.int 0)))) (aA (aI (av jm (aP sf (ae (oz jc (aP Cm (ae (av aF (af 2) (fC (.int 0))) (ae (av aF (af 2) (fC (.int 1))) ah)))) ah)) (bW (ae (bW (ae (fC (.str "t")) (ae (fC (.int 1)) ah))) ah))) (hName 3))
 (aA (aI (aP Cg (ae (aP vj (ae (af 3) ah)) (ae (af 2) ah))) (hName 2))
 (aI (av jm (af 1) (af 3)) (hName 1)))))
 (bf (af 1)))))
def Co:List D->Dm D:=fL 4 E1
def Cp:Stmt:=top 27
theorem zo:aB ["pair","gone","left","steps"] ["pair"] (aw Cp):=⟨rfl,rfl,rfl,by decide +kernel,rfl,by decide +kernel,by decide +kernel⟩
theorem RU {f:Addr} {fd:FuncData} (D:Def K mg "level_steps" Cp ["pair"] f fd) (T:Txt mg)  {jW:Addr} {jX:FuncData} (fQ:Def K mg "led_pair" Ci ["table","pair"] jW jX) (lB:aC P w K mg base bz 1 jW jX ["table","pair"] (bA K 2 Cg)) {iE:Addr} {iF:FuncData} (cN:Def K mg "shears" zk ["k"] iE iF) (iG:aC P w K mg base bz 1 iE iF ["k"] (bA K 1 sf)) {eA:Addr} {eB:FuncData} (cm:Def K mg "table_of" zm ["word"] eA eB) (fR:aC P w K mg base bz 3 eA eB ["word"] (bA K 1 vj)) {kT:Addr} {kU:FuncData} (ia:Def K mg "nearest" Cn ["number","divisor"] kT kU) (mK:aC P w K mg base bz 1 kT kU ["number","divisor"] (bA K 2 Cm)):aC P w K mg base bz 4 f fd ["pair"] (bA K 1 Co):=by
 refine D.F.ok zo (fun vs H Q E h=>h.1) (fun cdv A outer s H vs Q E hr h=>?_)
 have hu:=hr.units
 have hu1:=gk hr
 refine ⟨_,(@aZ _ _ _ _ _ (@cc (i:=1) _ _ _ _ _ _ zo.nd rfl (by first | exact Or.inl rfl | exact Or.inr rfl) (@ie _ _ _ _ _ ay) (by rfl) (by first | exact .inl rfl | exact .inr rfl | assumption))
  (@aZ _ _ _ _ _ (@cc (i:=2) _ _ _ _ _ _ zo.nd rfl (by first | exact Or.inl rfl | exact Or.inr rfl) (pv 0) (by rfl) (by first | exact .inl rfl | exact .inr rfl | assumption))
  (@aZ _ _ _ _ _ (yF PassesOwn.never (gM ur (@a9 _ _ _ _ _ _ _ bI (pv 2) aG (fun _ _=>rfl)) aG (aK _)) (@aZ _ _ _ _ _ (@cc (i:=3) _ _ _ _ _ _ zo.nd rfl (by first | exact Or.inl rfl | exact Or.inr rfl) (aW uH (cD iG (hr.mono (by decide)) rfl cN.m cN.F.kp cN.b .nil aE (@ao _ _ _ _ _ (oQ oR (cD mK (hr.mono (by decide)) rfl ia.m ia.F.kp ia.b .nil aE (@ao _ _ _ _ _ (@a9 _ _ _ _ _ _ _ bI (pv 2) aG (fun _ _=>rfl)) (@ao _ _ _ _ _ (@a9 _ _ _ _ _ _ _ bI (pv 2) aG (fun _ _=>rfl)) ay (by rfl)) (by rfl)))) ay (by rfl))) (@ie _ _ _ _ _ (@ao _ _ _ _ _ (@ie _ _ _ _ _ (@ao _ _ _ _ _ lQ (@ao _ _ _ _ _ aG ay (by rfl)) (by rfl))) ay (by rfl)))) (by rfl) (by first | exact .inl rfl | exact .inr rfl | assumption))
  (@aZ _ _ _ _ _ (@cc (i:=2) _ _ _ _ _ _ zo.nd rfl (by first | exact Or.inl rfl | exact Or.inr rfl) (cD lB (hr.mono (by decide)) rfl fQ.m fQ.F.kp fQ.b .nil aE (@ao _ _ _ _ _ (cD fR (hr.mono (by decide)) rfl cm.m cm.F.kp cm.b .nil aE (@ao _ _ _ _ _ (pv 3) ay (by rfl))) (@ao _ _ _ _ _ (pv 2) ay (by rfl)) (by rfl))) (by rfl) (by first | exact .inl rfl | exact .inr rfl | assumption))
  (@bu _ _ _ (@cc (i:=1) _ _ _ _ _ _ zo.nd rfl (by first | exact Or.inl rfl | exact Or.inr rfl) (aW uH (pv 1) (pv 3)) (by rfl) (by first | exact .inl rfl | exact .inr rfl | assumption))))))
  (@bu _ _ _ (@dm _ _ _ _ (pv 1)))))),?_⟩
 exact gp (b:=E1) (a8 (bG (ik az) (aT 1))
  (a8 (bG (ai 0) (aT 2))
  (a8 (y3 (gq (ax uW (ax bF (ai 2) (aH _)) (aH _))) (a8 (bG (ax uX (cE (F:=sf) (aq (oX oY (cE (F:=Cm) (aq (ax bF (ai 2) (aH _)) (aq (ax bF (ai 2) (aH _)) az)) (aU (aU (fun _ _ _ _ h=>cF h))))) az) (aU (fun _ _ _ _ h=>cF h))) (ik (aq (ik (aq (lV _) (aq (aH _) az))) az))) (aT 3))
  (a8 (bG (cE (F:=Cg) (aq (cE (F:=vj) (aq (ai 3) az) (aU (fun _ _ _ _ h=>cF h))) (aq (ai 2) az)) (aU (aU (fun _ _ _ _ h=>cF h)))) (aT 2))
  (bG (ax uX (ai 1) (ai 3)) (aT 1)))))
  (dn (ai 1))))) rfl h
def E2:au->Dm Fl :=
 (aA (aI (av cq (av aF (af 0) (fC (.int 1))) (av aF (af 1) (fC (.int 1)))) (hName 2))
 (aA (i5 (aN (av (hV false) (av aF (af 0) (fC (.int 0))) (fC (.str "t")))) (aI (av ke (af 2) (fC (.int 4))) (hName 2)) bL)
 (aA (i5 (aN (av (hV false) (af 2) (fC (.int 0)))) (bf (bW ah)) bL)
 (bf (bW (ae (bW (ae (av aF (af 0) (fC (.int 0))) (ae (af 2) ah))) ah))))))
def Cq:List D->Dm D:=fL 3 E2
def Cr:Stmt:=top 20
theorem HR:aB ["one","other","number"] ["one","other"] (aw Cr):=⟨rfl,rfl,rfl,by decide +kernel,rfl,by decide +kernel,by decide +kernel⟩
theorem RV {f:Addr} {fd:FuncData} (D:Def K mg "joined" Cr ["one","other"] f fd) (T:Txt mg)  :aC P w K mg base bz 1 f fd ["one","other"] (bA K 2 Cq):=by
 refine D.F.ok HR (fun vs H Q E h=>h.1) (fun cdv A outer s H vs Q E hr h=>?_)
 have hu:=hr.units
 have hu1:=gk hr
 refine ⟨_,(@aZ _ _ _ _ _ (@cc (i:=2) _ _ _ _ _ _ HR.nd rfl (by first | exact Or.inl rfl | exact Or.inr rfl) (aW iZ (@a9 _ _ _ _ _ _ _ bI (pv 0) aG (fun _ _=>rfl)) (@a9 _ _ _ _ _ _ _ bI (pv 1) aG (fun _ _=>rfl))) (by rfl) (by first | exact .inl rfl | exact .inr rfl | assumption))
  (@aZ _ _ _ _ _ (@jH _ _ _ _ _ _ _ _ (gM mz (@a9 _ _ _ _ _ _ _ bI (pv 0) aG (fun _ _=>rfl)) lQ (aK _)) (@bu _ _ _ (@cc (i:=2) _ _ _ _ _ _ HR.nd rfl (by first | exact Or.inl rfl | exact Or.inr rfl) (aW qg (pv 2) aG) (by rfl) (by first | exact .inl rfl | exact .inr rfl | assumption))) kD)
  (@aZ _ _ _ _ _ (@jH _ _ _ _ _ _ _ _ (gM mz (pv 2) aG (aK _)) (@bu _ _ _ (@dm _ _ _ _ (@ie _ _ _ _ _ ay))) kD)
  (@bu _ _ _ (@dm _ _ _ _ (@ie _ _ _ _ _ (@ao _ _ _ _ _ (@ie _ _ _ _ _ (@ao _ _ _ _ _ (@a9 _ _ _ _ _ _ _ bI (pv 0) aG (fun _ _=>rfl)) (@ao _ _ _ _ _ (pv 2) ay (by rfl)) (by rfl))) ay (by rfl)))))))),?_⟩
 exact gp (b:=E2) (a8 (bG (ax i7 (ax bF (ai 0) (aH _)) (ax bF (ai 1) (aH _))) (aT 2))
  (a8 (jM (gq (ax mE (ax bF (ai 0) (aH _)) (lV _))) (bG (ax qj (ai 2) (aH _)) (aT 2)) kO)
  (a8 (jM (gq (ax mE (ai 2) (aH _))) (dn (ik az)) kO)
  (dn (ik (aq (ik (aq (ax bF (ai 0) (aH _)) (aq (ai 2) az))) az)))))) rfl h
def E3:au->Dm Fl :=
 (aA (aI (bW ah) (hName 1))
 (aA (dr (h8 (af 0)) (hName 2) (i5 (qb (aN (av uV (aP dP (ae (af 1) ah)) (fC (.int 0)))) (aN (av (hV false) (av aF (av aF (af 1) (oz jc (fC (.int 1)))) (fC (.int 0))) (av aF (af 2) (fC (.int 0)))))) (aI (av jm (qi oZ (af 1) dM (i6 (oz jc (fC (.int 1))))) (aP Cq (ae (av aF (af 1) (oz jc (fC (.int 1)))) (ae (af 2) ah)))) (hName 1)) (aI (av jm (af 1) (bW (ae (af 2) ah))) (hName 1))))
 (bf (af 1))))
def Cs:List D->Dm D:=fL 3 E3
def Ct:Stmt:=top 21
theorem Cu:aB ["word","plain","step"] ["word"] (aw Ct):=⟨rfl,rfl,rfl,by decide +kernel,rfl,by decide +kernel,by decide +kernel⟩
theorem RW {f:Addr} {fd:FuncData} (D:Def K mg "made_plain" Ct ["word"] f fd) (T:Txt mg)  {ml:Addr} {mq:FuncData} (jY:Def K mg "joined" Cr ["one","other"] ml mq) (nX:aC P w K mg base bz 1 ml mq ["one","other"] (bA K 2 Cq)):aC P w K mg base bz 2 f fd ["word"] (bA K 1 Cs):=by
 refine D.F.ok Cu (fun vs H Q E h=>h.1) (fun cdv A outer s H vs Q E hr h=>?_)
 have hu:=hr.units
 have hu1:=gk hr
 refine ⟨_,(@aZ _ _ _ _ _ (@cc (i:=1) _ _ _ _ _ _ Cu.nd rfl (by first | exact Or.inl rfl | exact Or.inr rfl) (@ie _ _ _ _ _ ay) (by rfl) (by first | exact .inl rfl | exact .inr rfl | assumption))
  (@aZ _ _ _ _ _ (@lI _ _ _ _ _ _ _ _ PassesOwn.never rfl (rG (pv 0)) (ef (i:=2) Cu.nd rfl (by first | exact Or.inl rfl | exact Or.inr rfl)) (@bu _ _ _ (@jH _ _ _ _ _ _ _ _ (PW.pt (FT (gM yH (ig lJ (by rfl) T.cv lK (@ao _ _ _ _ _ (pv 1) ay (by rfl))) aG (aK _)) (FQ (gM mz (@a9 _ _ _ _ _ _ _ bI (@a9 _ _ _ _ _ _ _ bI (pv 1) (oQ oR aG) (fun _ _=>rfl)) aG (fun _ _=>rfl)) (@a9 _ _ _ _ _ _ _ bI (pv 2) aG (fun _ _=>rfl)) (aK _))))) (@bu _ _ _ (@cc (i:=1) _ _ _ _ _ _ Cu.nd rfl (by first | exact Or.inl rfl | exact Or.inr rfl) (aW uH (sF Az (pv 1) sD (sE (oQ oR aG))) (cD nX (hr.mono (by decide)) rfl jY.m jY.F.kp jY.b .nil aE (@ao _ _ _ _ _ (@a9 _ _ _ _ _ _ _ bI (pv 1) (oQ oR aG) (fun _ _=>rfl)) (@ao _ _ _ _ _ (pv 2) ay (by rfl)) (by rfl)))) (by rfl) (by first | exact .inl rfl | exact .inr rfl | assumption))) (@bu _ _ _ (@cc (i:=1) _ _ _ _ _ _ Cu.nd rfl (by first | exact Or.inl rfl | exact Or.inr rfl) (aW uH (pv 1) (@ie _ _ _ _ _ (@ao _ _ _ _ _ (pv 2) ay (by rfl)))) (by rfl) (by first | exact .inl rfl | exact .inr rfl | assumption))))) (by intro _;rfl))
  (@bu _ _ _ (@dm _ _ _ _ (pv 1))))),?_⟩
 exact gp (b:=E3) (a8 (bG (ik az) (aT 1))
  (a8 (lN (rX (ai 0)) (aT 2) (jM (Hj (gq (ax yT (bX lL (aq (ai 1) az)) (aH _))) (gq (ax mE (ax bF (ax bF (ai 1) (oX oY (aH _))) (aH _)) (ax bF (ai 2) (aH _))))) (bG (ax uX (tj Ba (ai 1) sZ (tf (oX oY (aH _)))) (cE (F:=Cq) (aq (ax bF (ai 1) (oX oY (aH _))) (aq (ai 2) az)) (aU (aU (fun _ _ _ _ h=>cF h))))) (aT 1)) (bG (ax uX (ai 1) (ik (aq (ai 2) az))) (aT 1))))
  (dn (ai 1)))) rfl h
def E4:au->Dm Fl :=
 (bf (aP Cs (ae (av jm (af 0) (af 1)) ah)))
def Cv:List D->Dm D:=fL 2 E4
def Cw:Stmt:=top 22
theorem RX:aB ["one","other"] ["one","other"] (aw Cw):=⟨rfl,rfl,rfl,by decide +kernel,rfl,by decide +kernel,by decide +kernel⟩
theorem RY {f:Addr} {fd:FuncData} (D:Def K mg "put_together" Cw ["one","other"] f fd) (T:Txt mg)  {gC:Addr} {gD:FuncData} (dF:Def K mg "made_plain" Ct ["word"] gC gD) (ju:aC P w K mg base bz 2 gC gD ["word"] (bA K 1 Cs)):aC P w K mg base bz 3 f fd ["one","other"] (bA K 2 Cv):=by
 refine D.F.ok RX (fun vs H Q E h=>h.1) (fun cdv A outer s H vs Q E hr h=>?_)
 have hu:=hr.units
 have hu1:=gk hr
 refine ⟨_,(@bu _ _ _ (@dm _ _ _ _ (cD ju (hr.mono (by decide)) rfl dF.m dF.F.kp dF.b .nil aE (@ao _ _ _ _ _ (aW uH (pv 0) (pv 1)) ay (by rfl))))),?_⟩
 exact gp (b:=E4) (dn (cE (F:=Cs) (aq (ax uX (ai 0) (ai 1)) az) (aU (fun _ _ _ _ h=>cF h)))) rfl h
def E5:au->Dm Fl :=
 (bf (oA (av (hV false) (aP dP (ae (af 0) ah)) (fC (.int 4))) (av (hV false) (av eh (av dD (av aF (af 0) (fC (.int 0))) (av aF (af 0) (fC (.int 3)))) (av dD (av aF (af 0) (fC (.int 1))) (av aF (af 0) (fC (.int 2))))) (fC (.int 1)))))
def Cy:List D->Dm D:=fL 1 E5
def Cz:Stmt:=top 12
theorem RZ:aB ["thing"] ["thing"] (aw Cz):=⟨rfl,rfl,rfl,by decide +kernel,rfl,by decide +kernel,by decide +kernel⟩
theorem R0 {f:Addr} {fd:FuncData} (D:Def K mg "is_table" Cz ["thing"] f fd) (T:Txt mg)  :aC P w K mg base bz 1 f fd ["thing"] (bA K 1 Cy):=by
 refine D.F.ok RZ (fun vs H Q E h=>h.1) (fun cdv A outer s H vs Q E hr h=>?_)
 have hu:=hr.units
 have hu1:=gk hr
 refine ⟨_,(@bu _ _ _ (@dm _ _ _ _ (Jh (qA mz (ig lJ (by rfl) T.cv lK (@ao _ _ _ _ _ (pv 0) ay (by rfl))) aG (aK _)) (Jg (qA mz (aW mP (aW ou (@a9 _ _ _ _ _ _ _ bI (pv 0) aG (fun _ _=>rfl)) (@a9 _ _ _ _ _ _ _ bI (pv 0) aG (fun _ _=>rfl))) (aW ou (@a9 _ _ _ _ _ _ _ bI (pv 0) aG (fun _ _=>rfl)) (@a9 _ _ _ _ _ _ _ bI (pv 0) aG (fun _ _=>rfl)))) aG (aK _)))))),?_⟩
 exact gp (b:=E5) (dn (K8 (ax mE (bX lL (aq (ai 0) az)) (aH _)) (ax mE (ax mT (ax oI (ax bF (ai 0) (aH _)) (ax bF (ai 0) (aH _))) (ax oI (ax bF (ai 0) (aH _)) (ax bF (ai 0) (aH _)))) (aH _)))) rfl h
def E6:au->Dm Fl :=
 (aA (i5 (aN (av (hV false) (av aF (af 0) (fC (.int 0))) (fC (.int 1)))) (bf (aP sf (ae (av aF (af 0) (fC (.int 1))) ah))) bL)
 (bf (av jm (bW (ae (bW (ae (fC (.str "t")) (ae (fC (.int 2)) ah))) ah)) (aP sf (ae (oz jc (av aF (af 0) (fC (.int 1)))) ah)))))
def CA:List D->Dm D:=fL 1 E6
def CB:Stmt:=top 30
theorem R1:aB ["table"] ["table"] (aw CB):=⟨rfl,rfl,rfl,by decide +kernel,rfl,by decide +kernel,by decide +kernel⟩
theorem R3 {f:Addr} {fd:FuncData} (D:Def K mg "level_word" CB ["table"] f fd) (T:Txt mg)  {iE:Addr} {iF:FuncData} (cN:Def K mg "shears" zk ["k"] iE iF) (iG:aC P w K mg base bz 1 iE iF ["k"] (bA K 1 sf)):aC P w K mg base bz 2 f fd ["table"] (bA K 1 CA):=by
 refine D.F.ok R1 (fun vs H Q E h=>h.1) (fun cdv A outer s H vs Q E hr h=>?_)
 have hu:=hr.units
 have hu1:=gk hr
 refine ⟨_,(@aZ _ _ _ _ _ (@jH _ _ _ _ _ _ _ _ (gM mz (@a9 _ _ _ _ _ _ _ bI (pv 0) aG (fun _ _=>rfl)) aG (aK _)) (@bu _ _ _ (@dm _ _ _ _ (cD iG (hr.mono (by decide)) rfl cN.m cN.F.kp cN.b .nil aE (@ao _ _ _ _ _ (@a9 _ _ _ _ _ _ _ bI (pv 0) aG (fun _ _=>rfl)) ay (by rfl))))) kD)
  (@bu _ _ _ (@dm _ _ _ _ (aW uH (@ie _ _ _ _ _ (@ao _ _ _ _ _ (@ie _ _ _ _ _ (@ao _ _ _ _ _ lQ (@ao _ _ _ _ _ aG ay (by rfl)) (by rfl))) ay (by rfl))) (cD iG (hr.mono (by decide)) rfl cN.m cN.F.kp cN.b .nil aE (@ao _ _ _ _ _ (oQ oR (@a9 _ _ _ _ _ _ _ bI (pv 0) aG (fun _ _=>rfl))) ay (by rfl))))))),?_⟩
 exact gp (b:=E6) (a8 (jM (gq (ax mE (ax bF (ai 0) (aH _)) (aH _))) (dn (cE (F:=sf) (aq (ax bF (ai 0) (aH _)) az) (aU (fun _ _ _ _ h=>cF h)))) kO)
  (dn (ax uX (ik (aq (ik (aq (lV _) (aq (aH _) az))) az)) (cE (F:=sf) (aq (oX oY (ax bF (ai 0) (aH _))) az) (aU (fun _ _ _ _ h=>cF h)))))) rfl h
def E7:au->Dm Fl :=
 (aA (i5 (aN (av (hV false) (av aF (af 0) (fC (.int 0))) (fC (.str "s")))) (bf (bW (ae (fC (.str "s")) (ae (oz jc (av aF (af 0) (fC (.int 1)))) ah)))) bL)
 (bf (bW (ae (fC (.str "t")) (ae (av eh (fC (.int 4)) (av aF (af 0) (fC (.int 1)))) ah)))))
def CC:List D->Dm D:=fL 1 E7
def CD:Stmt:=top 23
theorem R4:aB ["step"] ["step"] (aw CD):=⟨rfl,rfl,rfl,by decide +kernel,rfl,by decide +kernel,by decide +kernel⟩
theorem R5 {f:Addr} {fd:FuncData} (D:Def K mg "back_step" CD ["step"] f fd) (T:Txt mg)  :aC P w K mg base bz 1 f fd ["step"] (bA K 1 CC):=by
 refine D.F.ok R4 (fun vs H Q E h=>h.1) (fun cdv A outer s H vs Q E hr h=>?_)
 have hu:=hr.units
 have hu1:=gk hr
 refine ⟨_,(@aZ _ _ _ _ _ (@jH _ _ _ _ _ _ _ _ (gM mz (@a9 _ _ _ _ _ _ _ bI (pv 0) aG (fun _ _=>rfl)) lQ (aK _)) (@bu _ _ _ (@dm _ _ _ _ (@ie _ _ _ _ _ (@ao _ _ _ _ _ lQ (@ao _ _ _ _ _ (oQ oR (@a9 _ _ _ _ _ _ _ bI (pv 0) aG (fun _ _=>rfl))) ay (by rfl)) (by rfl))))) kD)
  (@bu _ _ _ (@dm _ _ _ _ (@ie _ _ _ _ _ (@ao _ _ _ _ _ lQ (@ao _ _ _ _ _ (aW mP aG (@a9 _ _ _ _ _ _ _ bI (pv 0) aG (fun _ _=>rfl))) ay (by rfl)) (by rfl)))))),?_⟩
 exact gp (b:=E7) (a8 (jM (gq (ax mE (ax bF (ai 0) (aH _)) (lV _))) (dn (ik (aq (lV _) (aq (oX oY (ax bF (ai 0) (aH _))) az)))) kO)
  (dn (ik (aq (lV _) (aq (ax mT (aH _) (ax bF (ai 0) (aH _))) az))))) rfl h
def E8:au->Dm Fl :=
 (bf (aP bY (ae (dQ (pT (ae (af 0) ah)) 1 [] (hName 0) d0 (aP CC (ae (af 0) ah))) ah)))
def vk:List D->Dm D:=fL 1 E8
def zp:Stmt:=top 24
theorem R6:aB ["word"] ["word"] (aw zp):=⟨rfl,rfl,rfl,by decide +kernel,rfl,by decide +kernel,by decide +kernel⟩
theorem R7 {f:Addr} {fd:FuncData} (D:Def K mg "back_word" zp ["word"] f fd) (T:Txt mg)  {iH:Addr} {iI:FuncData} (eD:Def K mg "back_step" CD ["step"] iH iI) (kj:aC P w K mg base bz 1 iH iI ["step"] (bA K 1 CC)):aC P w K mg base bz 2 f fd ["word"] (bA K 1 vk):=by
 refine D.F.ok R6 (fun vs H Q E h=>h.1) (fun cdv A outer s H vs Q E hr h=>?_)
 have hu:=hr.units
 have hu1:=gk hr
 refine ⟨_,(@bu _ _ _ (@dm _ _ _ _ (fT n6 (by rfl) T.bC mW (@ao _ _ _ _ _ (rK (own:=["step"]) (fr:=[]) (js:=[]) rfl ⟨⟨rfl,by decide +kernel,by decide +kernel,by dsimp only [jb,aV,Cx.oM,Cx.wish,PyProof.Rows.envOfC,compEnvC,relabel,Env.kindOf];decide +kernel,by decide +kernel⟩,rfl⟩ (wD rfl T.o7 (@ao _ _ _ _ _ (pv 0) ay (by rfl))) (fun _ _ _ _ _=>(ef (i:=0) (show ((["step"]:List Str) ++ ([]:List Str)).Nodup by decide +kernel) rfl (by first | exact Or.inl rfl | exact Or.inr rfl))) (fun _ _ _ _ _=>rJ) (fun _ _ _ _ _=>(cD kj (hr.mono (by decide)) rfl eD.m eD.F.kp eD.b .nil aE (@ao _ _ _ _ _ (pv 0) ay (by rfl))))) ay (by rfl))))),?_⟩
 exact gp (b:=E8) (dn (bX n8 (aq (qm (Rb (aq (ai 0) az)) (aT 0) rY (cE (F:=CC) (aq (ai 0) az) (aU (fun _ _ _ _ h=>cF h)))) az))) rfl h
def E9:au->Dm Fl :=
 (aA (i5 (qa (aN (aP Cy (ae (af 0) ah)))) rf bL)
 (aA (aI (aP Co (ae (bW (ae (av aF (af 0) (fC (.int 0))) (ae (av aF (af 0) (fC (.int 2))) ah))) ah)) (hName 1))
 (bf (aP Cv (ae (aP CA (ae (aP rl (ae (aP vj (ae (af 1) ah)) (ae (af 0) ah))) ah)) (ae (aP vk (ae (af 1) ah)) ah))))))
def CF:List D->Dm D:=fL 2 E9
def CG:Stmt:=top 26
theorem L0:aB ["table","gone"] ["table"] (aw CG):=⟨rfl,rfl,rfl,by decide +kernel,rfl,by decide +kernel,by decide +kernel⟩
theorem R8 {f:Addr} {fd:FuncData} (D:Def K mg "word_of" CG ["table"] f fd) (T:Txt mg)  {fD:Addr} {fE:FuncData} (cX:Def K mg "level_steps" Cp ["pair"] fD fE) (iJ:aC P w K mg base bz 4 fD fE ["pair"] (bA K 1 Co)) {eT:Addr} {eU:FuncData} (cG:Def K mg "put_together" Cw ["one","other"] eT eU) (gS:aC P w K mg base bz 3 eT eU ["one","other"] (bA K 2 Cv)) {jZ:Addr} {j3:FuncData} (fS:Def K mg "is_table" Cz ["thing"] jZ j3) (lC:aC P w K mg base bz 1 jZ j3 ["thing"] (bA K 1 Cy)) {gE:Addr} {gF:FuncData} (dG:Def K mg "level_word" CB ["table"] gE gF) (jv:aC P w K mg base bz 2 gE gF ["table"] (bA K 1 CA)) {dw:Addr} {dy:FuncData} (bN:Def K mg "back_word" zp ["word"] dw dy) (eE:aC P w K mg base bz 2 dw dy ["word"] (bA K 1 vk)) {gQ:Addr} {gR:FuncData} (c7:Def K mg "times" ye ["one","other"] gQ gR) (iD:aC P w K mg base bz 1 gQ gR ["one","other"] (bA K 2 rl)) {eA:Addr} {eB:FuncData} (cm:Def K mg "table_of" zm ["word"] eA eB) (fR:aC P w K mg base bz 3 eA eB ["word"] (bA K 1 vj)):aC P w K mg base bz 5 f fd ["table"] (bA K 1 CF):=by
 refine D.F.ok L0 (fun vs H Q E h=>h.1) (fun cdv A outer s H vs Q E hr h=>?_)
 have hu:=hr.units
 have hu1:=gk hr
 refine ⟨_,(@aZ _ _ _ _ _ (@jH _ _ _ _ _ _ _ _ (FV (Dk (cD lC (hr.mono (by decide)) rfl fS.m fS.F.kp fS.b .nil aE (@ao _ _ _ _ _ (pv 0) ay (by rfl))))) (@bu _ _ _ M6) kD)
  (@aZ _ _ _ _ _ (@cc (i:=1) _ _ _ _ _ _ L0.nd rfl (by first | exact Or.inl rfl | exact Or.inr rfl) (cD iJ (hr.mono (by decide)) rfl cX.m cX.F.kp cX.b .nil aE (@ao _ _ _ _ _ (@ie _ _ _ _ _ (@ao _ _ _ _ _ (@a9 _ _ _ _ _ _ _ bI (pv 0) aG (fun _ _=>rfl)) (@ao _ _ _ _ _ (@a9 _ _ _ _ _ _ _ bI (pv 0) aG (fun _ _=>rfl)) ay (by rfl)) (by rfl))) ay (by rfl))) (by rfl) (by first | exact .inl rfl | exact .inr rfl | assumption))
  (@bu _ _ _ (@dm _ _ _ _ (cD gS (hr.mono (by decide)) rfl cG.m cG.F.kp cG.b .nil aE (@ao _ _ _ _ _ (cD jv (hr.mono (by decide)) rfl dG.m dG.F.kp dG.b .nil aE (@ao _ _ _ _ _ (cD iD (hr.mono (by decide)) rfl c7.m c7.F.kp c7.b .nil aE (@ao _ _ _ _ _ (cD fR (hr.mono (by decide)) rfl cm.m cm.F.kp cm.b .nil aE (@ao _ _ _ _ _ (pv 1) ay (by rfl))) (@ao _ _ _ _ _ (pv 0) ay (by rfl)) (by rfl))) ay (by rfl))) (@ao _ _ _ _ _ (cD eE (hr.mono (by decide)) rfl bN.m bN.F.kp bN.b .nil aE (@ao _ _ _ _ _ (pv 1) ay (by rfl))) ay (by rfl)) (by rfl))))))),?_⟩
 exact gp (b:=E9) (a8 (jM (Hi (A4 (cE (F:=Cy) (aq (ai 0) az) (aU (fun _ _ _ _ h=>cF h))))) Rf kO)
  (a8 (bG (cE (F:=Co) (aq (ik (aq (ax bF (ai 0) (aH _)) (aq (ax bF (ai 0) (aH _)) az))) az) (aU (fun _ _ _ _ h=>cF h))) (aT 1))
  (dn (cE (F:=Cv) (aq (cE (F:=CA) (aq (cE (F:=rl) (aq (cE (F:=vj) (aq (ai 1) az) (aU (fun _ _ _ _ h=>cF h))) (aq (ai 0) az)) (aU (aU (fun _ _ _ _ h=>cF h)))) az) (aU (fun _ _ _ _ h=>cF h))) (aq (cE (F:=vk) (aq (ai 1) az) (aU (fun _ _ _ _ h=>cF h))) az)) (aU (aU (fun _ _ _ _ h=>cF h))))))) rfl h
def Fb:au->Dm Fl :=
 (aA (aI (bW (ae (af 0) (ae (af 1) (ae (fC (.int 1)) (ae (fC (.int 0)) (ae (fC (.int 0)) (ae (fC (.int 1)) ah))))))) (kN 6 (bT (hName 2) (bT (hName 3) (bT (hName 4) (bT (hName 5) (bT (hName 6) (bT (hName 7) lu))))))))
 (aA (jn (aN (av (hV true) (af 3) (fC (.int 0)))) (aA (aI (av kh (af 2) (af 3)) (hName 8))
 (aA (oE 2 3 (ae (af 3) (ae (av eh (af 2) (av dD (af 8) (af 3))) ah)))
 (aA (oE 4 6 (ae (af 6) (ae (av eh (af 4) (av dD (af 8) (af 6))) ah)))
 (oE 5 7 (ae (af 7) (ae (av eh (af 5) (av dD (af 8) (af 7))) ah)))))))
 (bf (bW (ae (av kh (af 0) (af 2)) (ae (av eh (fC (.int 0)) (af 5)) (ae (av kh (af 1) (af 2)) (ae (af 4) ah))))))))
def CH:List D->Dm D:=fL 9 Fb
def CI:Stmt:=top 54
theorem rm:aB ["_law_a","_law_c","_law_one","_law_other","_law_x","_law_y","_law_u","_law_v","_law_q"] ["_law_a","_law_c"] (aw CI):=⟨rfl,rfl,rfl,by decide +kernel,rfl,by decide +kernel,by decide +kernel⟩
theorem R9 {f:Addr} {fd:FuncData} (D:Def K mg "_law_of_column" CI ["_law_a","_law_c"] f fd) (T:Txt mg)  :aC P w K mg base bz 1 f fd ["_law_a","_law_c"] (bA K 2 CH):=by
 refine D.F.ok rm (fun vs H Q E h=>h.1) (fun cdv A outer s H vs Q E hr h=>?_)
 have hu:=hr.units
 have hu1:=gk hr
 refine ⟨_,(@aZ _ _ _ _ _ (oN (@ie _ _ _ _ _ (@ao _ _ _ _ _ (pv 0) (@ao _ _ _ _ _ (pv 1) (@ao _ _ _ _ _ aG (@ao _ _ _ _ _ aG (@ao _ _ _ _ _ aG (@ao _ _ _ _ _ aG ay (by rfl)) (by rfl)) (by rfl)) (by rfl)) (by rfl)) (by rfl))) (sx (n:=6) rfl (lR (ef (i:=2) rm.nd rfl (by first | exact Or.inl rfl | exact Or.inr rfl)) (lR (ef (i:=3) rm.nd rfl (by first | exact Or.inl rfl | exact Or.inr rfl)) (lR (ef (i:=4) rm.nd rfl (by first | exact Or.inl rfl | exact Or.inr rfl)) (lR (ef (i:=5) rm.nd rfl (by first | exact Or.inl rfl | exact Or.inr rfl)) (lR (ef (i:=6) rm.nd rfl (by first | exact Or.inl rfl | exact Or.inr rfl)) (lR (ef (i:=7) rm.nd rfl (by first | exact Or.inl rfl | exact Or.inr rfl)) rF))))))))
  (@aZ _ _ _ _ _ (yF PassesOwn.never (gM ur (pv 3) aG (aK _)) (@aZ _ _ _ _ _ (@cc (i:=8) _ _ _ _ _ _ rm.nd rfl (by first | exact Or.inl rfl | exact Or.inr rfl) (aW DK (pv 2) (pv 3)) (by rfl) (by first | exact .inl rfl | exact .inr rfl | assumption))
  (@aZ _ _ _ _ _ (zW (i:=2) (j:=3) rfl rm.nd rfl rfl (by decide) rfl rfl (@ao _ _ _ _ _ (pv 3) (@ao _ _ _ _ _ (aW mP (pv 2) (aW ou (pv 8) (pv 3))) ay (by rfl)) (by rfl)) rfl)
  (@aZ _ _ _ _ _ (zW (i:=4) (j:=6) rfl rm.nd rfl rfl (by decide) rfl rfl (@ao _ _ _ _ _ (pv 6) (@ao _ _ _ _ _ (aW mP (pv 4) (aW ou (pv 8) (pv 6))) ay (by rfl)) (by rfl)) rfl)
  (@bu _ _ _ (zW (i:=5) (j:=7) rfl rm.nd rfl rfl (by decide) rfl rfl (@ao _ _ _ _ _ (pv 7) (@ao _ _ _ _ _ (aW mP (pv 5) (aW ou (pv 8) (pv 7))) ay (by rfl)) (by rfl)) rfl))))))
  (@bu _ _ _ (@dm _ _ _ _ (@ie _ _ _ _ _ (@ao _ _ _ _ _ (aW DK (pv 0) (pv 2)) (@ao _ _ _ _ _ (aW mP aG (pv 5)) (@ao _ _ _ _ _ (aW DK (pv 1) (pv 2)) (@ao _ _ _ _ _ (pv 4) ay (by rfl)) (by rfl)) (by rfl)) (by rfl))))))),?_⟩
 exact gp (b:=Fb) (a8 (bG (ik (aq (ai 0) (aq (ai 1) (aq (aH _) (aq (aH _) (aq (aH _) (aq (aH _) az))))))) (rV (lW (aT 2) (lW (aT 3) (lW (aT 4) (lW (aT 5) (lW (aT 6) (lW (aT 7) rT))))))))
  (a8 (y3 (gq (ax uW (ai 3) (aH _))) (a8 (bG (ax El (ai 2) (ai 3)) (aT 8))
  (a8 (Bd (aq (ai 3) (aq (ax mT (ai 2) (ax oI (ai 8) (ai 3))) az)))
  (a8 (Bd (aq (ai 6) (aq (ax mT (ai 4) (ax oI (ai 8) (ai 6))) az)))
  (Bd (aq (ai 7) (aq (ax mT (ai 5) (ax oI (ai 8) (ai 7))) az)))))))
  (dn (ik (aq (ax El (ai 0) (ai 2)) (aq (ax mT (aH _) (ai 5)) (aq (ax El (ai 1) (ai 2)) (aq (ai 4) az)))))))) rfl h
def Fc:au->Dm Fl :=
 (aA (aI (aP je (ae (af 0) (ae (fC (.int 3)) ah))) (hName 1))
 (aA (i5 (aN (av (hV false) (af 1) (fC (.int 2)))) (bf (aP CH (ae (av cq (fC (.int 1)) (aP je (ae (af 0) (ae (fC (.int 1000)) ah)))) (ae (aP je (ae (af 0) (ae (fC (.int 1001)) ah))) ah)))) bL)
 (bf (bW (ae (fC (.int 1)) (ae (av jk (av da (c9 (ae (fC (.int 1)) (ae (av eh (fC (.int 0)) (fC (.int 1))) ah))) (af 1)) (av cq (fC (.int 4)) (aP je (ae (af 0) (ae (fC (.int 97)) ah))))) (ae (fC (.int 0)) (ae (fC (.int 1)) ah))))))))
def CJ:List D->Dm D:=fL 2 Fc
def CK:Stmt:=top 55
theorem L3:aB ["_law_feed_here","_law_form"] ["_law_feed_here"] (aw CK):=⟨rfl,rfl,rfl,by decide +kernel,rfl,by decide +kernel,by decide +kernel⟩
theorem Sb {f:Addr} {fd:FuncData} (D:Def K mg "_law_far_table" CK ["_law_feed_here"] f fd) (T:Txt mg)  {aX:Addr} {aY:FuncData} (aj:Def K mg "_law_take" tP ["_law_feed_here","_law_many"] aX aY) (aJ:aC P w K mg base bz 1 aX aY ["_law_feed_here","_law_many"] (bA K 2 je)) {df:Addr} {dg:FuncData} (bQ:Def K mg "_law_of_column" CI ["_law_a","_law_c"] df dg) (e8:aC P w K mg base bz 1 df dg ["_law_a","_law_c"] (bA K 2 CH)):aC P w K mg base bz 2 f fd ["_law_feed_here"] (bA K 1 CJ):=by
 refine D.F.ok L3 (fun vs H Q E h=>h.1) (fun cdv A outer s H vs Q E hr h=>?_)
 have hu:=hr.units
 have hu1:=gk hr
 refine ⟨_,(@aZ _ _ _ _ _ (@cc (i:=1) _ _ _ _ _ _ L3.nd rfl (by first | exact Or.inl rfl | exact Or.inr rfl) (cD aJ (hr.mono (by decide)) rfl aj.m aj.F.kp aj.b .nil aE (@ao _ _ _ _ _ (pv 0) (@ao _ _ _ _ _ aG ay (by rfl)) (by rfl))) (by rfl) (by first | exact .inl rfl | exact .inr rfl | assumption))
  (@aZ _ _ _ _ _ (@jH _ _ _ _ _ _ _ _ (gM mz (pv 1) aG (aK _)) (@bu _ _ _ (@dm _ _ _ _ (cD e8 (hr.mono (by decide)) rfl bQ.m bQ.F.kp bQ.b .nil aE (@ao _ _ _ _ _ (aW iZ aG (cD aJ (hr.mono (by decide)) rfl aj.m aj.F.kp aj.b .nil aE (@ao _ _ _ _ _ (pv 0) (@ao _ _ _ _ _ aG ay (by rfl)) (by rfl)))) (@ao _ _ _ _ _ (cD aJ (hr.mono (by decide)) rfl aj.m aj.F.kp aj.b .nil aE (@ao _ _ _ _ _ (pv 0) (@ao _ _ _ _ _ aG ay (by rfl)) (by rfl))) ay (by rfl)) (by rfl))))) kD)
  (@bu _ _ _ (@dm _ _ _ _ (@ie _ _ _ _ _ (@ao _ _ _ _ _ aG (@ao _ _ _ _ _ (aW ph (@a9 _ _ _ _ _ _ _ kG (@kF _ _ _ _ (@ao _ _ _ _ _ aG (@ao _ _ _ _ _ (aW mP aG aG) ay (by rfl)) (by rfl))) (pv 1) (fun _ _=>rfl)) (aW iZ aG (cD aJ (hr.mono (by decide)) rfl aj.m aj.F.kp aj.b .nil aE (@ao _ _ _ _ _ (pv 0) (@ao _ _ _ _ _ aG ay (by rfl)) (by rfl))))) (@ao _ _ _ _ _ aG (@ao _ _ _ _ _ aG ay (by rfl)) (by rfl)) (by rfl)) (by rfl))))))),?_⟩
 exact gp (b:=Fc) (a8 (bG (cE (F:=je) (aq (ai 0) (aq (aH _) az)) (aU (aU (fun _ _ _ _ h=>cF h)))) (aT 1))
  (a8 (jM (gq (ax mE (ai 1) (aH _))) (dn (cE (F:=CH) (aq (ax i7 (aH _) (cE (F:=je) (aq (ai 0) (aq (aH _) az)) (aU (aU (fun _ _ _ _ h=>cF h))))) (aq (cE (F:=je) (aq (ai 0) (aq (aH _) az)) (aU (aU (fun _ _ _ _ h=>cF h)))) az)) (aU (aU (fun _ _ _ _ h=>cF h))))) kO)
  (dn (ik (aq (aH _) (aq (ax pN (ax kL (kK (aq (aH _) (aq (ax mT (aH _) (aH _)) az))) (ai 1)) (ax i7 (aH _) (cE (F:=je) (aq (ai 0) (aq (aH _) az)) (aU (aU (fun _ _ _ _ h=>cF h)))))) (aq (aH _) (aq (aH _) az)))))))) rfl h
def Fe:au->Dm Fl :=
 (aA (aI (c9 ah) (hName 1))
 (aA (dr (h8 (af 0)) (kN 2 (bT (hName 2) (bT (hName 3) lu))) (hZ (oC "list" jL (af 1) (ae (dQ (bM (ae (aP nc (ae (af 3) (ae (av eh (fC (.int 0)) (af 3)) ah))) ah)) 1 [2,3] (hName 0) d0 (bW (ae (af 1) (ae (av da (c9 (ae (fC (.int 1)) (ae (av eh (fC (.int 0)) (fC (.int 1))) ah))) (aP j7 (ae (av wY (af 2) (fC (.int 0))) ah))) ah)))) ah))))
 (bf (af 1))))
def CL:List D->Dm D:=fL 4 Fe
def CM:Stmt:=top 51
theorem Ff:aB ["_law_word_here","_law_found","_law_letter","_law_k"] ["_law_word_here"] (aw CM):=⟨rfl,rfl,rfl,by decide +kernel,rfl,by decide +kernel,by decide +kernel⟩
theorem Sd {f:Addr} {fd:FuncData} (D:Def K mg "_law_single" CM ["_law_word_here"] f fd) (T:Txt mg)  :aC P w K mg base bz 1 f fd ["_law_word_here"] (bA K 1 CL):=by
 refine D.F.ok Ff (fun vs H Q E h=>h.1) (fun cdv A outer s H vs Q E hr h=>?_)
 have hu:=hr.units
 have hu1:=gk hr
 refine ⟨_,(@aZ _ _ _ _ _ (@cc (i:=1) _ _ _ _ _ _ Ff.nd rfl (by first | exact Or.inl rfl | exact Or.inr rfl) (@kF _ _ _ _ ay) (by rfl) (by first | exact .inl rfl | exact .inr rfl | assumption))
  (@aZ _ _ _ _ _ (@lI _ _ _ _ _ _ _ _ PassesOwn.never rfl (rG (pv 0)) (sx (n:=2) rfl (lR (ef (i:=2) Ff.nd rfl (by first | exact Or.inl rfl | exact Or.inr rfl)) (lR (ef (i:=3) Ff.nd rfl (by first | exact Or.inl rfl | exact Or.inr rfl)) rF))) (@bu _ _ _ (rE (pZ PySem.F.plainAttrs_list PySem.F.slot_list_extend PySem.F.type_list_extend Nv (pv 1) (@ao _ _ _ _ _ (rK (own:=["_law_turn"]) (fr:=["_law_letter","_law_k"]) (js:=[2,3]) rfl ⟨⟨rfl,by decide +kernel,by decide +kernel,by dsimp only [jb,aV,Cx.oM,Cx.wish,PyProof.Rows.envOfC,compEnvC,relabel,Env.kindOf];decide +kernel,by decide +kernel⟩,rfl⟩ (nC rfl T.aQ (@ao _ _ _ _ _ (ig (F0 rfl) (by rfl) T.rh Gp (@ao _ _ _ _ _ (pv 3) (@ao _ _ _ _ _ (aW mP aG (pv 3)) ay (by rfl)) (by rfl))) ay (by rfl))) (fun _ _ _ _ _=>(ef (i:=0) (show ((["_law_turn"]:List Str) ++ (["_law_letter","_law_k"]:List Str)).Nodup by decide +kernel) rfl (by first | exact Or.inl rfl | exact Or.inr rfl))) (fun _ _ _ _ _=>rJ) (fun _ _ _ _ _=>(@ie _ _ _ _ _ (@ao _ _ _ _ _ (pv 1) (@ao _ _ _ _ _ (@a9 _ _ _ _ _ _ _ (N8 (K:=K) rfl) (@kF _ _ _ _ (@ao _ _ _ _ _ aG (@ao _ _ _ _ _ (aW mP aG aG) ay (by rfl)) (by rfl))) (fT yI (by rfl) T.ni yK (@ao _ _ _ _ _ (qA Af (pv 2) aG (aK _)) ay (by rfl))) (fun _ _=>rfl)) ay (by rfl)) (by rfl))))) ay (by rfl))))) (by intro _;rfl))
  (@bu _ _ _ (@dm _ _ _ _ (pv 1))))),?_⟩
 exact gp (b:=Fe) (a8 (bG (kK az) (aT 1))
  (a8 (lN (rX (ai 0)) (rV (lW (aT 2) (lW (aT 3) rT))) (rW (pO PZ (ai 1) (aq (qm (nS (aq (bX Ho (aq (ai 3) (aq (ax mT (aH _) (ai 3)) az))) az)) (aT 0) rY (ik (aq (ai 1) (aq (ax kL (kK (aq (aH _) (aq (ax mT (aH _) (aH _)) az))) (bX yX (aq (ax A7 (ai 2) (aH _)) az))) az)))) az))))
  (dn (ai 1)))) rfl h
def Fg:au->Dm Fl :=
 (aA (aI (av aF (af 0) (aP j7 (ae (av (q5 false) (af 2) (fC (.str "ud"))) ah))) (hName 3))
 (aA (i5 (aN (av (q5 false) (af 2) (fC (.str "ru")))) (bf (av aF (af 3) (af 1))) bL)
 (bf (oC "tuple" iy (af 3) (ae (af 1) ah)))))
def CN:List D->Dm D:=fL 4 Fg
def CO:Stmt:=top 49
theorem L5:aB ["_law_floor_here","_law_s","_law_step","_law_turning_here"] ["_law_floor_here","_law_s","_law_step"] (aw CO):=⟨rfl,rfl,rfl,by decide +kernel,rfl,by decide +kernel,by decide +kernel⟩
theorem Sf {f:Addr} {fd:FuncData} (D:Def K mg "_law_beside" CO ["_law_floor_here","_law_s","_law_step"] f fd) (T:Txt mg)  :aC P w K mg base bz 1 f fd ["_law_floor_here","_law_s","_law_step"] (bA K 3 CN):=by
 refine D.F.ok L5 (fun vs H Q E h=>h.1) (fun cdv A outer s H vs Q E hr h=>?_)
 have hu:=hr.units
 have hu1:=gk hr
 refine ⟨_,(@aZ _ _ _ _ _ (@cc (i:=3) _ _ _ _ _ _ L5.nd rfl (by first | exact Or.inl rfl | exact Or.inr rfl) (@a9 _ _ _ _ _ _ _ bI (pv 0) (fT yI (by rfl) T.ni yK (@ao _ _ _ _ _ (qA Ju (pv 2) lQ (by with_unfolding_all rfl)) ay (by rfl))) (fun _ _=>rfl)) (by rfl) (by first | exact .inl rfl | exact .inr rfl | assumption))
  (@aZ _ _ _ _ _ (@jH _ _ _ _ _ _ _ _ (gM Ju (pv 2) lQ (by with_unfolding_all rfl)) (@bu _ _ _ (@dm _ _ _ _ (@a9 _ _ _ _ _ _ _ bI (pv 3) (pv 1) (fun _ _=>rfl)))) kD)
  (@bu _ _ _ (@dm _ _ _ _ (pZ PySem.F.plainAttrs_tuple PySem.F.slot_tuple_index PySem.F.type_tuple_index Kf (pv 3) (@ao _ _ _ _ _ (pv 1) ay (by rfl))))))),?_⟩
 exact gp (b:=Fg) (a8 (bG (ax bF (ai 0) (bX yX (aq (ax (LG false) (ai 2) (lV _)) az))) (aT 3))
  (a8 (jM (gq (ax (LG false) (ai 2) (lV _))) (dn (ax bF (ai 3) (ai 1))) kO)
  (dn (pO Hs (ai 3) (aq (ai 1) az))))) rfl h
def Fh:au->Dm Fl :=
 (aA (aI (aP dP (ae (av aF (af 0) (fC (.int 0))) ah)) (hName 3))
 (aA (aI (av da (c9 (ae (av nQ (c9 (ae (fC (.int 0)) ah)) (av jk (fC (.int 2)) (af 3))) (ae (av kM (aP lM (ae (qi oZ (af 2) dM (i6 (af 3))) ah)) (av nQ (c9 (ae (fC (.int 0)) ah)) (af 3))) ah))) (aP j7 (ae (av (hV false) (av aF (af 1) (fC (.int 0))) (fC (.str "s"))) ah))) (hName 4))
 (aA (dr (bM (ae (af 3) ah)) (hName 5) (i5 (aN (av (jl false) (af 1) (bW (ae (fC (.str "t")) (ae (fC (.int 1)) ah))))) (aA (aI (av aF (av aF (af 0) (fC (.int 1))) (af 5)) (hName 6))
 (aA (aI (av eh (av da (af 4) (av cq (af 3) (af 5))) (av aF (af 2) (af 5))) (hSub (af 4) (av cq (af 3) (af 5))))
 (aI (av cq (av da (af 4) (af 6)) (av aF (af 2) (av cq (af 3) (af 5)))) (hSub (af 4) (af 6))))) (aA (aI (aP CN (ae (af 0) (ae (af 5) (ae (av da (c9 (ae (fC (.str "r")) (ae (fC (.str "l")) ah))) (aP j7 (ae (av uV (av aF (af 1) (fC (.int 1))) (fC (.int 0))) ah))) ah)))) (hName 7))
 (aA (aI (av da (c9 (ae (af 5) (ae (af 7) ah))) (aP j7 (ae (av uV (av aF (af 1) (fC (.int 1))) (fC (.int 0))) ah))) (hName 8))
 (aA (aI (av cq (av da (af 4) (av cq (af 3) (af 7))) (av aF (af 2) (av cq (af 3) (af 5)))) (hSub (af 4) (av cq (af 3) (af 7))))
 (aI (av cq (av da (af 4) (af 8)) (av jk (av da (c9 (ae (av eh (fC (.int 0)) (fC (.int 1))) (ae (fC (.int 1)) ah))) (aP j7 (ae (av wY (av aF (af 1) (fC (.int 1))) (fC (.int 0))) ah))) (av aF (af 2) (av cq (af 3) (af 5))))) (hSub (af 4) (af 8))))))))
 (bf (aP bY (ae (af 4) ah))))))
def CP:List D->Dm D:=fL 9 Fh
def CQ:Stmt:=top 52
theorem yf:aB ["_law_floor_here","_law_step","_law_seam","_law_many","_law_found","_law_s","_law_upper","_law_there","_law_lower"] ["_law_floor_here","_law_step","_law_seam"] (aw CQ):=⟨rfl,rfl,rfl,by decide +kernel,rfl,by decide +kernel,by decide +kernel⟩
theorem Si {f:Addr} {fd:FuncData} (D:Def K mg "_law_over" CQ ["_law_floor_here","_law_step","_law_seam"] f fd) (T:Txt mg)  {fF:Addr} {fG:FuncData} (cY:Def K mg "_law_beside" CO ["_law_floor_here","_law_s","_law_step"] fF fG) (iK:aC P w K mg base bz 1 fF fG ["_law_floor_here","_law_s","_law_step"] (bA K 3 CN)):aC P w K mg base bz 2 f fd ["_law_floor_here","_law_step","_law_seam"] (bA K 3 CP):=by
 refine D.F.ok yf (fun vs H Q E h=>h.1) (fun cdv A outer s H vs Q E hr h=>?_)
 have hu:=hr.units
 have hu1:=gk hr
 refine ⟨_,(@aZ _ _ _ _ _ (@cc (i:=3) _ _ _ _ _ _ yf.nd rfl (by first | exact Or.inl rfl | exact Or.inr rfl) (ig lJ (by rfl) T.cv lK (@ao _ _ _ _ _ (@a9 _ _ _ _ _ _ _ bI (pv 0) aG (fun _ _=>rfl)) ay (by rfl))) (by rfl) (by first | exact .inl rfl | exact .inr rfl | assumption))
  (@aZ _ _ _ _ _ (@cc (i:=4) _ _ _ _ _ _ yf.nd rfl (by first | exact Or.inl rfl | exact Or.inr rfl) (@a9 _ _ _ _ _ _ _ kG (@kF _ _ _ _ (@ao _ _ _ _ _ (aW yJ (@kF _ _ _ _ (@ao _ _ _ _ _ aG ay (by rfl))) (aW ph aG (pv 3))) (@ao _ _ _ _ _ (aW qE (fT Ap (by rfl) T.cT ot (@ao _ _ _ _ _ (sF Az (pv 2) sD (sE (pv 3))) ay (by rfl))) (aW yJ (@kF _ _ _ _ (@ao _ _ _ _ _ aG ay (by rfl))) (pv 3))) ay (by rfl)) (by rfl))) (fT yI (by rfl) T.ni yK (@ao _ _ _ _ _ (qA mz (@a9 _ _ _ _ _ _ _ bI (pv 1) aG (fun _ _=>rfl)) lQ (aK _)) ay (by rfl))) (fun _ _=>rfl)) (by rfl) (by first | exact .inl rfl | exact .inr rfl | assumption))
  (@aZ _ _ _ _ _ (@lI _ _ _ _ _ _ _ _ PassesOwn.never rfl (nC rfl T.aQ (@ao _ _ _ _ _ (pv 3) ay (by rfl))) (ef (i:=5) yf.nd rfl (by first | exact Or.inl rfl | exact Or.inr rfl)) (@bu _ _ _ (@jH _ _ _ _ _ _ _ _ (gM (J0 hu) (pv 1) (@ie _ _ _ _ _ (@ao _ _ _ _ _ lQ (@ao _ _ _ _ _ aG ay (by rfl)) (by rfl))) (aK _)) (@aZ _ _ _ _ _ (@cc (i:=6) _ _ _ _ _ _ yf.nd rfl (by first | exact Or.inl rfl | exact Or.inr rfl) (@a9 _ _ _ _ _ _ _ bI (@a9 _ _ _ _ _ _ _ bI (pv 0) aG (fun _ _=>rfl)) (pv 5) (fun _ _=>rfl)) (by rfl) (by first | exact .inl rfl | exact .inr rfl | assumption))
  (@aZ _ _ _ _ _ (oN (aW mP (@a9 _ _ _ _ _ _ _ kG (pv 4) (aW iZ (pv 3) (pv 5)) (fun _ _=>rfl)) (@a9 _ _ _ _ _ _ _ bI (pv 2) (pv 5) (fun _ _=>rfl))) (pf (pv 4) (aW iZ (pv 3) (pv 5)) pz))
  (@bu _ _ _ (oN (aW iZ (@a9 _ _ _ _ _ _ _ kG (pv 4) (pv 6) (fun _ _=>rfl)) (@a9 _ _ _ _ _ _ _ bI (pv 2) (aW iZ (pv 3) (pv 5)) (fun _ _=>rfl))) (pf (pv 4) (pv 6) pz))))) (@aZ _ _ _ _ _ (@cc (i:=7) _ _ _ _ _ _ yf.nd rfl (by first | exact Or.inl rfl | exact Or.inr rfl) (cD iK (hr.mono (by decide)) rfl cY.m cY.F.kp cY.b .nil aE (@ao _ _ _ _ _ (pv 0) (@ao _ _ _ _ _ (pv 5) (@ao _ _ _ _ _ (@a9 _ _ _ _ _ _ _ kG (@kF _ _ _ _ (@ao _ _ _ _ _ lQ (@ao _ _ _ _ _ lQ ay (by rfl)) (by rfl))) (fT yI (by rfl) T.ni yK (@ao _ _ _ _ _ (qA yH (@a9 _ _ _ _ _ _ _ bI (pv 1) aG (fun _ _=>rfl)) aG (aK _)) ay (by rfl))) (fun _ _=>rfl)) ay (by rfl)) (by rfl)) (by rfl))) (by rfl) (by first | exact .inl rfl | exact .inr rfl | assumption))
  (@aZ _ _ _ _ _ (@cc (i:=8) _ _ _ _ _ _ yf.nd rfl (by first | exact Or.inl rfl | exact Or.inr rfl) (@a9 _ _ _ _ _ _ _ kG (@kF _ _ _ _ (@ao _ _ _ _ _ (pv 5) (@ao _ _ _ _ _ (pv 7) ay (by rfl)) (by rfl))) (fT yI (by rfl) T.ni yK (@ao _ _ _ _ _ (qA yH (@a9 _ _ _ _ _ _ _ bI (pv 1) aG (fun _ _=>rfl)) aG (aK _)) ay (by rfl))) (fun _ _=>rfl)) (by rfl) (by first | exact .inl rfl | exact .inr rfl | assumption))
  (@aZ _ _ _ _ _ (oN (aW iZ (@a9 _ _ _ _ _ _ _ kG (pv 4) (aW iZ (pv 3) (pv 7)) (fun _ _=>rfl)) (@a9 _ _ _ _ _ _ _ bI (pv 2) (aW iZ (pv 3) (pv 5)) (fun _ _=>rfl))) (pf (pv 4) (aW iZ (pv 3) (pv 7)) pz))
  (@bu _ _ _ (oN (aW iZ (@a9 _ _ _ _ _ _ _ kG (pv 4) (pv 8) (fun _ _=>rfl)) (aW ph (@a9 _ _ _ _ _ _ _ kG (@kF _ _ _ _ (@ao _ _ _ _ _ (aW mP aG aG) (@ao _ _ _ _ _ aG ay (by rfl)) (by rfl))) (fT yI (by rfl) T.ni yK (@ao _ _ _ _ _ (qA Af (@a9 _ _ _ _ _ _ _ bI (pv 1) aG (fun _ _=>rfl)) aG (aK _)) ay (by rfl))) (fun _ _=>rfl)) (@a9 _ _ _ _ _ _ _ bI (pv 2) (aW iZ (pv 3) (pv 5)) (fun _ _=>rfl)))) (pf (pv 4) (pv 8) pz)))))))) (by intro _;rfl))
  (@bu _ _ _ (@dm _ _ _ _ (fT n6 (by rfl) T.bC mW (@ao _ _ _ _ _ (pv 4) ay (by rfl)))))))),?_⟩
 exact gp (b:=Fh) (a8 (bG (bX lL (aq (ax bF (ai 0) (aH _)) az)) (aT 3))
  (a8 (bG (ax kL (kK (aq (ax y2 (kK (aq (aH _) az)) (ax pN (aH _) (ai 3))) (aq (ax qT (bX Bb (aq (tj Ba (ai 2) sZ (tf (ai 3))) az)) (ax y2 (kK (aq (aH _) az)) (ai 3))) az))) (bX yX (aq (ax mE (ax bF (ai 1) (aH _)) (lV _)) az))) (aT 4))
  (a8 (lN (nS (aq (ai 3) az)) (aT 5) (jM (gq (ax (yW false) (ai 1) (ik (aq (lV _) (aq (aH _) az))))) (a8 (bG (ax bF (ax bF (ai 0) (aH _)) (ai 5)) (aT 6))
  (a8 (bG (ax mT (ax kL (ai 4) (ax i7 (ai 3) (ai 5))) (ax bF (ai 2) (ai 5))) (pP (ai 4) (ax i7 (ai 3) (ai 5))))
  (bG (ax i7 (ax kL (ai 4) (ai 6)) (ax bF (ai 2) (ax i7 (ai 3) (ai 5)))) (pP (ai 4) (ai 6))))) (a8 (bG (cE (F:=CN) (aq (ai 0) (aq (ai 5) (aq (ax kL (kK (aq (lV _) (aq (lV _) az))) (bX yX (aq (ax yT (ax bF (ai 1) (aH _)) (aH _)) az))) az))) (aU (aU (aU (fun _ _ _ _ h=>cF h))))) (aT 7))
  (a8 (bG (ax kL (kK (aq (ai 5) (aq (ai 7) az))) (bX yX (aq (ax yT (ax bF (ai 1) (aH _)) (aH _)) az))) (aT 8))
  (a8 (bG (ax i7 (ax kL (ai 4) (ax i7 (ai 3) (ai 7))) (ax bF (ai 2) (ax i7 (ai 3) (ai 5)))) (pP (ai 4) (ax i7 (ai 3) (ai 7))))
  (bG (ax i7 (ax kL (ai 4) (ai 8)) (ax pN (ax kL (kK (aq (ax mT (aH _) (aH _)) (aq (aH _) az))) (bX yX (aq (ax A7 (ax bF (ai 1) (aH _)) (aH _)) az))) (ax bF (ai 2) (ax i7 (ai 3) (ai 5))))) (pP (ai 4) (ai 8))))))))
  (dn (bX n8 (aq (ai 4) az)))))) rfl h
def Fi:au->Dm Fl :=
 (aA (i5 (aN (av wY (af 2) (fC (.int 0)))) (aA (aI (aP bY (ae (dQ (bM (ae (aP dP (ae (af 0) ah)) ah)) 1 [0] (hName 0) d0 (oC "tuple" iy (af 1) (ae (af 0) ah))) ah)) (hName 0))
 (aI (av eh (fC (.int 0)) (af 2)) (hName 2))) bL)
 (aA (aI (c9 (ae (af 1) ah)) (hName 3))
 (aA (jn (aN (av (hV true) (av aF (af 0) (av da (af 3) (oz jc (fC (.int 1))))) (af 1))) (hZ (oC "list" de (af 3) (ae (av aF (af 0) (av da (af 3) (oz jc (fC (.int 1))))) ah))))
 (bf (av da (af 3) (av ke (af 2) (aP dP (ae (af 3) ah))))))))
def CS:List D->Dm D:=fL 4 Fi
def CT:Stmt:=top 47
theorem Fj:aB ["_law_turning_here","_law_s","_law_k","_law_ring"] ["_law_turning_here","_law_s","_law_k"] (aw CT):=⟨rfl,rfl,rfl,by decide +kernel,rfl,by decide +kernel,by decide +kernel⟩
theorem Sj {f:Addr} {fd:FuncData} (D:Def K mg "_law_behind" CT ["_law_turning_here","_law_s","_law_k"] f fd) (T:Txt mg)  :aC P w K mg base bz 1 f fd ["_law_turning_here","_law_s","_law_k"] (bA K 3 CS):=by
 refine D.F.ok Fj (fun vs H Q E h=>h.1) (fun cdv A outer s H vs Q E hr h=>?_)
 have hu:=hr.units
 have hu1:=gk hr
 refine ⟨_,(@aZ _ _ _ _ _ (@jH _ _ _ _ _ _ _ _ (gM Af (pv 2) aG (aK _)) (@aZ _ _ _ _ _ (@cc (i:=0) _ _ _ _ _ _ Fj.nd rfl (by first | exact Or.inl rfl | exact Or.inr rfl) (fT n6 (by rfl) T.bC mW (@ao _ _ _ _ _ (rK (own:=["_law_one"]) (fr:=["_law_turning_here"]) (js:=[0]) rfl ⟨⟨rfl,by decide +kernel,by decide +kernel,by dsimp only [jb,aV,Cx.oM,Cx.wish,PyProof.Rows.envOfC,compEnvC,relabel,Env.kindOf];decide +kernel,by decide +kernel⟩,rfl⟩ (nC rfl T.aQ (@ao _ _ _ _ _ (ig lJ (by rfl) T.cv lK (@ao _ _ _ _ _ (pv 0) ay (by rfl))) ay (by rfl))) (fun _ _ _ _ _=>(ef (i:=0) (show ((["_law_one"]:List Str) ++ (["_law_turning_here"]:List Str)).Nodup by decide +kernel) rfl (by first | exact Or.inl rfl | exact Or.inr rfl))) (fun _ _ _ _ _=>rJ) (fun _ _ _ _ _=>(Kh (K:=K) rfl PySem.F.plainAttrs_tuple PySem.F.slot_tuple_index PySem.F.type_tuple_index (Kg (K:=K) rfl) (pv 1) (@ao _ _ _ _ _ (pv 0) ay (by rfl))))) ay (by rfl))) (by rfl) (by first | exact .inl rfl | exact .inr rfl | assumption))
  (@bu _ _ _ (@cc (i:=2) _ _ _ _ _ _ Fj.nd rfl (by first | exact Or.inl rfl | exact Or.inr rfl) (aW mP aG (pv 2)) (by rfl) (by first | exact .inl rfl | exact .inr rfl | assumption)))) kD)
  (@aZ _ _ _ _ _ (@cc (i:=3) _ _ _ _ _ _ Fj.nd rfl (by first | exact Or.inl rfl | exact Or.inr rfl) (@kF _ _ _ _ (@ao _ _ _ _ _ (pv 1) ay (by rfl))) (by rfl) (by first | exact .inl rfl | exact .inr rfl | assumption))
  (@aZ _ _ _ _ _ (yF PassesOwn.never (gM ur (@a9 _ _ _ _ _ _ _ bI (pv 0) (@a9 _ _ _ _ _ _ _ kG (pv 3) (oQ oR aG) (fun _ _=>rfl)) (fun _ _=>rfl)) (pv 1) (aK _)) (@bu _ _ _ (rE (pZ PySem.F.plainAttrs_list PySem.F.slot_list_append PySem.F.type_list_append sI (pv 3) (@ao _ _ _ _ _ (@a9 _ _ _ _ _ _ _ bI (pv 0) (@a9 _ _ _ _ _ _ _ kG (pv 3) (oQ oR aG) (fun _ _=>rfl)) (fun _ _=>rfl)) ay (by rfl))))))
  (@bu _ _ _ (@dm _ _ _ _ (@a9 _ _ _ _ _ _ _ kG (pv 3) (aW qg (pv 2) (ig lJ (by rfl) T.cv lK (@ao _ _ _ _ _ (pv 3) ay (by rfl)))) (fun _ _=>rfl))))))),?_⟩
 exact gp (b:=Fi) (a8 (jM (gq (ax A7 (ai 2) (aH _))) (a8 (bG (bX n8 (aq (qm (nS (aq (bX lL (aq (ai 0) az)) az)) (aT 0) rY (pO Hs (ai 1) (aq (ai 0) az))) az)) (aT 0))
  (bG (ax mT (aH _) (ai 2)) (aT 2))) kO)
  (a8 (bG (kK (aq (ai 1) az)) (aT 3))
  (a8 (y3 (gq (ax uW (ax bF (ai 0) (ax kL (ai 3) (oX oY (aH _)))) (ai 1))) (rW (pO tw (ai 3) (aq (ax bF (ai 0) (ax kL (ai 3) (oX oY (aH _)))) az))))
  (dn (ax kL (ai 3) (ax qj (ai 2) (bX lL (aq (ai 3) az)))))))) rfl h
def zq:au->Dm Fl :=
 (aA (aI (af 0) (kN 2 (bT (hName 2) (bT (hName 3) lu))))
 (aA (i5 (aN (av (hV false) (av aF (af 1) (fC (.int 0))) (fC (.str "s")))) (bf (bW (ae (af 2) (ae (aP bY (ae (dQ (bM (ae (aP dP (ae (af 3) ah)) ah)) 1 [1,2,3] (hName 0) d0 (av aF (af 3) (aP CS (ae (af 2) (ae (af 0) (ae (av eh (fC (.int 0)) (av aF (af 1) (fC (.int 1)))) ah)))))) ah)) ah)))) bL)
 (aA (dr (bM (ae (av ke (av aF (af 1) (fC (.int 1))) (fC (.int 4))) ah)) (hName 4) (aI (bW (ae (aP bY (ae (dQ (bM (ae (aP dP (ae (af 3) ah)) ah)) 1 [3] (hName 0) d0 (oC "tuple" iy (af 1) (ae (af 0) ah))) ah)) (ae (af 2) ah))) (kN 2 (bT (hName 2) (bT (hName 3) lu)))))
 (bf (bW (ae (af 2) (ae (af 3) ah)))))))
def yg:List D->Dm D:=fL 5 zq
def CU:Stmt:=top 48
theorem zt:aB ["_law_floor_here","_law_step","_law_right","_law_up","_law_turn"] ["_law_floor_here","_law_step"] (aw CU):=⟨rfl,rfl,rfl,by decide +kernel,rfl,by decide +kernel,by decide +kernel⟩
theorem Sk {f:Addr} {fd:FuncData} (D:Def K mg "_law_stepped" CU ["_law_floor_here","_law_step"] f fd) (T:Txt mg)  {fH:Addr} {fI:FuncData} (cZ:Def K mg "_law_behind" CT ["_law_turning_here","_law_s","_law_k"] fH fI) (iL:aC P w K mg base bz 1 fH fI ["_law_turning_here","_law_s","_law_k"] (bA K 3 CS)):aC P w K mg base bz 2 f fd ["_law_floor_here","_law_step"] (bA K 2 yg):=by
 refine D.F.ok zt (fun vs H Q E h=>h.1) (fun cdv A outer s H vs Q E hr h=>?_)
 have hu:=hr.units
 have hu1:=gk hr
 refine ⟨_,(@aZ _ _ _ _ _ (oN (pv 0) (sx (n:=2) rfl (lR (ef (i:=2) zt.nd rfl (by first | exact Or.inl rfl | exact Or.inr rfl)) (lR (ef (i:=3) zt.nd rfl (by first | exact Or.inl rfl | exact Or.inr rfl)) rF))))
  (@aZ _ _ _ _ _ (@jH _ _ _ _ _ _ _ _ (gM mz (@a9 _ _ _ _ _ _ _ bI (pv 1) aG (fun _ _=>rfl)) lQ (aK _)) (@bu _ _ _ (@dm _ _ _ _ (@ie _ _ _ _ _ (@ao _ _ _ _ _ (pv 2) (@ao _ _ _ _ _ (fT n6 (by rfl) T.bC mW (@ao _ _ _ _ _ (rK (own:=["_law_s"]) (fr:=["_law_step","_law_right","_law_up"]) (js:=[1,2,3]) rfl ⟨⟨rfl,by decide +kernel,by decide +kernel,by dsimp only [jb,aV,Cx.oM,Cx.wish,PyProof.Rows.envOfC,compEnvC,relabel,Env.kindOf];decide +kernel,by decide +kernel⟩,rfl⟩ (nC rfl T.aQ (@ao _ _ _ _ _ (ig lJ (by rfl) T.cv lK (@ao _ _ _ _ _ (pv 3) ay (by rfl))) ay (by rfl))) (fun _ _ _ _ _=>(ef (i:=0) (show ((["_law_s"]:List Str) ++ (["_law_step","_law_right","_law_up"]:List Str)).Nodup by decide +kernel) rfl (by first | exact Or.inl rfl | exact Or.inr rfl))) (fun _ _ _ _ _=>rJ) (fun _ _ _ _ _=>(@a9 _ _ _ _ _ _ _ (GJ (K:=K) rfl) (pv 3) (cD iL (hr.mono (by decide)) rfl cZ.m cZ.F.kp cZ.b .nil aE (@ao _ _ _ _ _ (pv 2) (@ao _ _ _ _ _ (pv 0) (@ao _ _ _ _ _ (aW mP aG (@a9 _ _ _ _ _ _ _ (GJ (K:=K) rfl) (pv 1) aG (fun _ _=>rfl))) ay (by rfl)) (by rfl)) (by rfl))) (fun _ _=>rfl)))) ay (by rfl))) ay (by rfl)) (by rfl))))) kD)
  (@aZ _ _ _ _ _ (@lI _ _ _ _ _ _ _ _ PassesOwn.never rfl (nC rfl T.aQ (@ao _ _ _ _ _ (aW qg (@a9 _ _ _ _ _ _ _ bI (pv 1) aG (fun _ _=>rfl)) aG) ay (by rfl))) (ef (i:=4) zt.nd rfl (by first | exact Or.inl rfl | exact Or.inr rfl)) (@bu _ _ _ (oN (@ie _ _ _ _ _ (@ao _ _ _ _ _ (fT n6 (by rfl) T.bC mW (@ao _ _ _ _ _ (rK (own:=["_law_s"]) (fr:=["_law_up"]) (js:=[3]) rfl ⟨⟨rfl,by decide +kernel,by decide +kernel,by dsimp only [jb,aV,Cx.oM,Cx.wish,PyProof.Rows.envOfC,compEnvC,relabel,Env.kindOf];decide +kernel,by decide +kernel⟩,rfl⟩ (nC rfl T.aQ (@ao _ _ _ _ _ (ig lJ (by rfl) T.cv lK (@ao _ _ _ _ _ (pv 3) ay (by rfl))) ay (by rfl))) (fun _ _ _ _ _=>(ef (i:=0) (show ((["_law_s"]:List Str) ++ (["_law_up"]:List Str)).Nodup by decide +kernel) rfl (by first | exact Or.inl rfl | exact Or.inr rfl))) (fun _ _ _ _ _=>rJ) (fun _ _ _ _ _=>(Kh (K:=K) rfl PySem.F.plainAttrs_tuple PySem.F.slot_tuple_index PySem.F.type_tuple_index (Kg (K:=K) rfl) (pv 1) (@ao _ _ _ _ _ (pv 0) ay (by rfl))))) ay (by rfl))) (@ao _ _ _ _ _ (pv 2) ay (by rfl)) (by rfl))) (sx (n:=2) rfl (lR (ef (i:=2) zt.nd rfl (by first | exact Or.inl rfl | exact Or.inr rfl)) (lR (ef (i:=3) zt.nd rfl (by first | exact Or.inl rfl | exact Or.inr rfl)) rF))))) (by intro _;rfl))
  (@bu _ _ _ (@dm _ _ _ _ (@ie _ _ _ _ _ (@ao _ _ _ _ _ (pv 2) (@ao _ _ _ _ _ (pv 3) ay (by rfl)) (by rfl)))))))),?_⟩
 exact gp (b:=zq) (a8 (bG (ai 0) (rV (lW (aT 2) (lW (aT 3) rT))))
  (a8 (jM (gq (ax mE (ax bF (ai 1) (aH _)) (lV _))) (dn (ik (aq (ai 2) (aq (bX n8 (aq (qm (nS (aq (bX lL (aq (ai 3) az)) az)) (aT 0) rY (ax bF (ai 3) (cE (F:=CS) (aq (ai 2) (aq (ai 0) (aq (ax mT (aH _) (ax bF (ai 1) (aH _))) az))) (aU (aU (aU (fun _ _ _ _ h=>cF h))))))) az)) az)))) kO)
  (a8 (lN (nS (aq (ax qj (ax bF (ai 1) (aH _)) (aH _)) az)) (aT 4) (bG (ik (aq (bX n8 (aq (qm (nS (aq (bX lL (aq (ai 3) az)) az)) (aT 0) rY (pO Hs (ai 1) (aq (ai 0) az))) az)) (aq (ai 2) az))) (rV (lW (aT 2) (lW (aT 3) rT)))))
  (dn (ik (aq (ai 2) (aq (ai 3) az))))))) rfl h
def Fm:au->Dm Fl :=
 (aA (aI (aP CL (ae (af 1) ah)) (hName 3))
 (aA (aI (c9 (ae (af 0) ah)) (hName 4))
 (aA (dr (lx (af 3)) (hName 5) (hZ (oC "list" de (af 4) (ae (aP yg (ae (av da (af 4) (oz jc (fC (.int 1)))) (ae (af 5) ah))) ah))))
 (aA (dr (mH (ae (av eh (aP dP (ae (af 3) ah)) (fC (.int 1))) (ae (av eh (fC (.int 0)) (fC (.int 1))) (ae (av eh (fC (.int 0)) (fC (.int 1))) ah)))) (hName 6) (aI (aP CP (ae (av da (af 4) (af 6)) (ae (av da (af 3) (af 6)) (ae (af 2) ah)))) (hName 2)))
 (bf (af 2))))))
def vm:List D->Dm D:=fL 7 Fm
def zu:Stmt:=top 53
theorem zv:aB ["_law_floor_here","_law_word_here","_law_seam","_law_steps","_law_floors","_law_step","_law_k"] ["_law_floor_here","_law_word_here","_law_seam"] (aw zu):=⟨rfl,rfl,rfl,by decide +kernel,rfl,by decide +kernel,by decide +kernel⟩
theorem Sl {f:Addr} {fd:FuncData} (D:Def K mg "_law_carried" zu ["_law_floor_here","_law_word_here","_law_seam"] f fd) (T:Txt mg)  {fJ:Addr} {fK:FuncData} (c5:Def K mg "_law_single" CM ["_law_word_here"] fJ fK) (iM:aC P w K mg base bz 1 fJ fK ["_law_word_here"] (bA K 1 CL)) {iN:Addr} {iO:FuncData} (eF:Def K mg "_law_over" CQ ["_law_floor_here","_law_step","_law_seam"] iN iO) (kl:aC P w K mg base bz 2 iN iO ["_law_floor_here","_law_step","_law_seam"] (bA K 3 CP)) {eV:Addr} {eW:FuncData} (cH:Def K mg "_law_stepped" CU ["_law_floor_here","_law_step"] eV eW) (gT:aC P w K mg base bz 2 eV eW ["_law_floor_here","_law_step"] (bA K 2 yg)):aC P w K mg base bz 3 f fd ["_law_floor_here","_law_word_here","_law_seam"] (bA K 3 vm):=by
 refine D.F.ok zv (fun vs H Q E h=>h.1) (fun cdv A outer s H vs Q E hr h=>?_)
 have hu:=hr.units
 have hu1:=gk hr
 refine ⟨_,(@aZ _ _ _ _ _ (@cc (i:=3) _ _ _ _ _ _ zv.nd rfl (by first | exact Or.inl rfl | exact Or.inr rfl) (cD iM (hr.mono (by decide)) rfl c5.m c5.F.kp c5.b .nil aE (@ao _ _ _ _ _ (pv 1) ay (by rfl))) (by rfl) (by first | exact .inl rfl | exact .inr rfl | assumption))
  (@aZ _ _ _ _ _ (@cc (i:=4) _ _ _ _ _ _ zv.nd rfl (by first | exact Or.inl rfl | exact Or.inr rfl) (@kF _ _ _ _ (@ao _ _ _ _ _ (pv 0) ay (by rfl))) (by rfl) (by first | exact .inl rfl | exact .inr rfl | assumption))
  (@aZ _ _ _ _ _ (@lI _ _ _ _ _ _ _ _ PassesOwn.never rfl (FY (pv 3)) (ef (i:=5) zv.nd rfl (by first | exact Or.inl rfl | exact Or.inr rfl)) (@bu _ _ _ (rE (pZ PySem.F.plainAttrs_list PySem.F.slot_list_append PySem.F.type_list_append sI (pv 4) (@ao _ _ _ _ _ (cD gT (hr.mono (by decide)) rfl cH.m cH.F.kp cH.b .nil aE (@ao _ _ _ _ _ (@a9 _ _ _ _ _ _ _ kG (pv 4) (oQ oR aG) (fun _ _=>rfl)) (@ao _ _ _ _ _ (pv 5) ay (by rfl)) (by rfl))) ay (by rfl))))) (by intro _;rfl))
  (@aZ _ _ _ _ _ (@lI _ _ _ _ _ _ _ _ PassesOwn.never rfl (Ky rfl T.aQ (@ao _ _ _ _ _ (aW mP (ig lJ (by rfl) T.cv lK (@ao _ _ _ _ _ (pv 3) ay (by rfl))) aG) (@ao _ _ _ _ _ (aW mP aG aG) (@ao _ _ _ _ _ (aW mP aG aG) ay (by rfl)) (by rfl)) (by rfl))) (ef (i:=6) zv.nd rfl (by first | exact Or.inl rfl | exact Or.inr rfl)) (@bu _ _ _ (@cc (i:=2) _ _ _ _ _ _ zv.nd rfl (by first | exact Or.inl rfl | exact Or.inr rfl) (cD kl (hr.mono (by decide)) rfl eF.m eF.F.kp eF.b .nil aE (@ao _ _ _ _ _ (@a9 _ _ _ _ _ _ _ kG (pv 4) (pv 6) (fun _ _=>rfl)) (@ao _ _ _ _ _ (@a9 _ _ _ _ _ _ _ kG (pv 3) (pv 6) (fun _ _=>rfl)) (@ao _ _ _ _ _ (pv 2) ay (by rfl)) (by rfl)) (by rfl))) (by rfl) (by first | exact .inl rfl | exact .inr rfl | assumption))) (by intro _;rfl))
  (@bu _ _ _ (@dm _ _ _ _ (pv 2))))))),?_⟩
 exact gp (b:=Fm) (a8 (bG (cE (F:=CL) (aq (ai 1) az) (aU (fun _ _ _ _ h=>cF h))) (aT 3))
  (a8 (bG (kK (aq (ai 0) az)) (aT 4))
  (a8 (lN (Ht (ai 3)) (aT 5) (rW (pO tw (ai 4) (aq (cE (F:=yg) (aq (ax kL (ai 4) (oX oY (aH _))) (aq (ai 5) az)) (aU (aU (fun _ _ _ _ h=>cF h)))) az))))
  (a8 (lN (LX (aq (ax mT (bX lL (aq (ai 3) az)) (aH _)) (aq (ax mT (aH _) (aH _)) (aq (ax mT (aH _) (aH _)) az)))) (aT 6) (bG (cE (F:=CP) (aq (ax kL (ai 4) (ai 6)) (aq (ax kL (ai 3) (ai 6)) (aq (ai 2) az))) (aU (aU (aU (fun _ _ _ _ h=>cF h))))) (aT 2)))
  (dn (ai 2)))))) rfl h
def Fn:au->Dm Fl :=
 (aA (aI (aP CF (ae (aP CJ (ae (af 0) ah)) ah)) (hName 3))
 (aA (i5 (aN (av uV (aP qe (ae (dQ (h8 (af 3)) 2 [] (kN 2 (bT (hName 0) (bT (hName 1) lu))) d0 (aP nc (ae (af 1) (ae (av eh (fC (.int 0)) (af 1)) ah)))) ah)) (fC (.int 200)))) (bf (fC (.bl true))) bL)
 (bf (av (jl false) (aP qr (ae (af 1) (ae (af 3) (ae (af 2) ah)))) (aP vm (ae (af 1) (ae (af 3) (ae (af 2) ah))))))))
def CV:List D->Dm D:=fL 4 Fn
def CW:Stmt:=top 56
theorem L6:aB ["_law_feed_here","_law_floor_here","_law_seam","_law_told"] ["_law_feed_here","_law_floor_here","_law_seam"] (aw CW):=⟨rfl,rfl,rfl,by decide +kernel,rfl,by decide +kernel,by decide +kernel⟩
theorem Sn {f:Addr} {fd:FuncData} (D:Def K mg "_law_far_right" CW ["_law_feed_here","_law_floor_here","_law_seam"] f fd) (T:Txt mg)  {kW:Addr} {kX:FuncData} (ib:Def K mg "word_of" CG ["table"] kW kX) (mL:aC P w K mg base bz 5 kW kX ["table"] (bA K 1 CF)) {dh:Addr} {di:FuncData} (bR:Def K mg "_law_far_table" CK ["_law_feed_here"] dh di) (fe:aC P w K mg base bz 2 dh di ["_law_feed_here"] (bA K 1 CJ)) {b6:Addr} {b7:FuncData} (aL:Def K mg "seam_carried" zi ["floor","word","seam"] b6 b7) (bK:aC P w K mg base bz 10 b6 b7 ["floor","word","seam"] (bA K 3 qr)) {b8:Addr} {b9:FuncData} (bg:Def K mg "_law_carried" zu ["_law_floor_here","_law_word_here","_law_seam"] b8 b9) (cI:aC P w K mg base bz 3 b8 b9 ["_law_floor_here","_law_word_here","_law_seam"] (bA K 3 vm)):aC P w K mg base bz 11 f fd ["_law_feed_here","_law_floor_here","_law_seam"] (bA K 3 CV):=by
 refine D.F.ok L6 (fun vs H Q E h=>h.1) (fun cdv A outer s H vs Q E hr h=>?_)
 have hu:=hr.units
 have hu1:=gk hr
 refine ⟨_,(@aZ _ _ _ _ _ (@cc (i:=3) _ _ _ _ _ _ L6.nd rfl (by first | exact Or.inl rfl | exact Or.inr rfl) (cD mL (hr.mono (by decide)) rfl ib.m ib.F.kp ib.b .nil aE (@ao _ _ _ _ _ (cD fe (hr.mono (by decide)) rfl bR.m bR.F.kp bR.b .nil aE (@ao _ _ _ _ _ (pv 0) ay (by rfl))) ay (by rfl))) (by rfl) (by first | exact .inl rfl | exact .inr rfl | assumption))
  (@aZ _ _ _ _ _ (@jH _ _ _ _ _ _ _ _ (gM yH (ig (OS rfl) (by rfl) T.BL wx (@ao _ _ _ _ _ (rK (own:=["_law_letter","_law_number"]) (fr:=[]) (js:=[]) rfl ⟨⟨rfl,by decide +kernel,by decide +kernel,by dsimp only [jb,aV,Cx.oM,Cx.wish,PyProof.Rows.envOfC,compEnvC,relabel,Env.kindOf];decide +kernel,by decide +kernel⟩,rfl⟩ (rG (pv 3)) (fun _ _ _ _ _=>(Ki (K:=K) (n:=2) rfl rfl (lR (ef (i:=0) (show ((["_law_letter","_law_number"]:List Str) ++ ([]:List Str)).Nodup by decide +kernel) rfl (by first | exact Or.inl rfl | exact Or.inr rfl)) (lR (ef (i:=1) (show ((["_law_letter","_law_number"]:List Str) ++ ([]:List Str)).Nodup by decide +kernel) rfl (by first | exact Or.inl rfl | exact Or.inr rfl)) rF)))) (fun _ _ _ _ _=>rJ) (fun _ _ _ _ _=>(ig (F0 rfl) (by rfl) T.rh Gp (@ao _ _ _ _ _ (pv 1) (@ao _ _ _ _ _ (aW mP aG (pv 1)) ay (by rfl)) (by rfl))))) ay (by rfl))) aG (aK _)) (@bu _ _ _ (@dm _ _ _ _ ug)) kD)
  (@bu _ _ _ (@dm _ _ _ _ (qA (J0 hu) (cD bK (hr.mono (by decide)) rfl aL.m aL.F.kp aL.b .nil aE (@ao _ _ _ _ _ (pv 1) (@ao _ _ _ _ _ (pv 3) (@ao _ _ _ _ _ (pv 2) ay (by rfl)) (by rfl)) (by rfl))) (cD cI (hr.mono (by decide)) rfl bg.m bg.F.kp bg.b .nil aE (@ao _ _ _ _ _ (pv 1) (@ao _ _ _ _ _ (pv 3) (@ao _ _ _ _ _ (pv 2) ay (by rfl)) (by rfl)) (by rfl))) (aK _)))))),?_⟩
 exact gp (b:=Fn) (a8 (bG (cE (F:=CF) (aq (cE (F:=CJ) (aq (ai 0) az) (aU (fun _ _ _ _ h=>cF h))) az) (aU (fun _ _ _ _ h=>cF h))) (aT 3))
  (a8 (jM (gq (ax yT (bX x8 (aq (qm (rX (ai 3)) (rV (lW (aT 0) (lW (aT 1) rT))) rY (bX Ho (aq (ai 1) (aq (ax mT (aH _) (ai 1)) az)))) az)) (aH _))) (dn (uS _)) kO)
  (dn (ax (yW false) (cE (F:=qr) (aq (ai 1) (aq (ai 3) (aq (ai 2) az))) (aU (aU (aU (fun _ _ _ _ h=>cF h))))) (cE (F:=vm) (aq (ai 1) (aq (ai 3) (aq (ai 2) az))) (aU (aU (aU (fun _ _ _ _ h=>cF h))))))))) rfl h
def zw (RR:List D->Dm D):au->Dm Fl :=
 (aA (i5 (aN (aP kP (ae (af 1) (ae (bW (ae (fC (.ty "list")) (ae (fC (.ty "tuple")) ah))) ah)))) (aA (i5 (yR (aN (av (hV true) (aP kP (ae (af 0) (ae (fC (.ty "tuple")) ah))) (aP kP (ae (af 1) (ae (fC (.ty "tuple")) ah))))) (aN (av (hV true) (aP kP (ae (af 0) (ae (fC (.ty "list")) ah))) (aP kP (ae (af 1) (ae (fC (.ty "list")) ah)))))) (bf (fC (.bl false))) bL)
 (bf (oA (av (hV false) (aP dP (ae (af 0) ah)) (aP dP (ae (af 1) ah))) (aP qd (ae (dQ (pS (ae (af 0) (ae (af 1) ah))) 2 [] (kN 2 (bT (hName 0) (bT (hName 1) lu))) d0 (aP RR (ae (af 0) (ae (af 1) ah)))) ah))))) bL)
 (aA (i5 (yR (aN (av (hV true) (aP kP (ae (af 0) (ae (fC (.ty "bool")) ah))) (aP kP (ae (af 1) (ae (fC (.ty "bool")) ah))))) (aN (av (hV true) (aP kP (ae (af 0) (ae (fC (.ty "str")) ah))) (aP kP (ae (af 1) (ae (fC (.ty "str")) ah)))))) (bf (fC (.bl false))) bL)
 (bf (av (hV false) (af 0) (af 1)))))
def tR:Nat->List D->Dm D
 | 0=>fun _ _=>none
 | n + 1=>fL 2 (zw (tR n))
def CY:List D->Dm D:=tR 6
def zx:Stmt:=top 50
theorem Sq:aB ["_law_found","_law_due"] ["_law_found","_law_due"] (aw zx):=⟨rfl,rfl,rfl,by decide +kernel,rfl,by decide +kernel,by decide +kernel⟩
theorem L7 {f:Addr} {fd:FuncData} (D:Def K mg "_law_alike" zx ["_law_found","_law_due"] f fd) (T:Txt mg)  :∀ nn:Nat,aC P w K mg base bz (1 + nn) f fd ["_law_found","_law_due"] (bA K 2 (tR nn))
 | 0=>LP rfl
 | nn + 1=>by
  have rj:=L7 D T   nn
  refine D.F.ok Sq (fun vs H Q E h=>h.1) (fun cdv A outer s H vs Q E hr h=>?_)
  have hu:=hr.units
  have hu1:=gk hr
  refine ⟨_,(@aZ _ _ _ _ _ (@jH _ _ _ _ _ _ _ _ (Dk (ig tN (by rfl) T.bJ sN (@ao _ _ _ _ _ (pv 1) (@ao _ _ _ _ _ (@ie _ _ _ _ _ (@ao _ _ _ _ _ (rD (v:=.ty "list") rfl T.cT ot rfl) (@ao _ _ _ _ _ (rD (v:=.ty "tuple") rfl T.bC mW rfl) ay (by rfl)) (by rfl))) ay (by rfl)) (by rfl)))) (@aZ _ _ _ _ _ (@jH _ _ _ _ _ _ _ _ (PW.pt (FU (gM ur (ig tN (by rfl) T.bJ sN (@ao _ _ _ _ _ (pv 0) (@ao _ _ _ _ _ (rD (v:=.ty "tuple") rfl T.bC mW rfl) ay (by rfl)) (by rfl))) (ig tN (by rfl) T.bJ sN (@ao _ _ _ _ _ (pv 1) (@ao _ _ _ _ _ (rD (v:=.ty "tuple") rfl T.bC mW rfl) ay (by rfl)) (by rfl))) (aK _)) (FR (gM ur (ig tN (by rfl) T.bJ sN (@ao _ _ _ _ _ (pv 0) (@ao _ _ _ _ _ (rD (v:=.ty "list") rfl T.cT ot rfl) ay (by rfl)) (by rfl))) (ig tN (by rfl) T.bJ sN (@ao _ _ _ _ _ (pv 1) (@ao _ _ _ _ _ (rD (v:=.ty "list") rfl T.cT ot rfl) ay (by rfl)) (by rfl))) (aK _))))) (@bu _ _ _ (@dm _ _ _ _ ug)) kD)
  (@bu _ _ _ (@dm _ _ _ _ (Jh (qA mz (ig lJ (by rfl) T.cv lK (@ao _ _ _ _ _ (pv 0) ay (by rfl))) (ig lJ (by rfl) T.cv lK (@ao _ _ _ _ _ (pv 1) ay (by rfl))) (aK _)) (Jg (ig (N7 rfl) (by rfl) T.BK wj (@ao _ _ _ _ _ (rK (own:=["_law_one","_law_other"]) (fr:=[]) (js:=[]) rfl ⟨⟨rfl,by decide +kernel,by decide +kernel,by dsimp only [jb,aV,Cx.oM,Cx.wish,PyProof.Rows.envOfC,compEnvC,relabel,Env.kindOf];decide +kernel,by decide +kernel⟩,rfl⟩ (wB rfl T.BM (@ao _ _ _ _ _ (pv 0) (@ao _ _ _ _ _ (pv 1) ay (by rfl)) (by rfl))) (fun _ _ _ _ _=>(Ki (K:=K) (n:=2) rfl rfl (lR (ef (i:=0) (show ((["_law_one","_law_other"]:List Str) ++ ([]:List Str)).Nodup by decide +kernel) rfl (by first | exact Or.inl rfl | exact Or.inr rfl)) (lR (ef (i:=1) (show ((["_law_one","_law_other"]:List Str) ++ ([]:List Str)).Nodup by decide +kernel) rfl (by first | exact Or.inl rfl | exact Or.inr rfl)) rF)))) (fun _ _ _ _ _=>rJ) (fun _ _ _ _ _=>(cD rj (hr.mono (by first | exact Nat.le_refl _ | omega)) rfl D.m D.F.kp D.b .nil aE (@ao _ _ _ _ _ (pv 0) (@ao _ _ _ _ _ (pv 1) ay (by rfl)) (by rfl))))) ay (by rfl)))))))) kD)
  (@aZ _ _ _ _ _ (@jH _ _ _ _ _ _ _ _ (PW.pt (FU (gM ur (ig tN (by rfl) T.bJ sN (@ao _ _ _ _ _ (pv 0) (@ao _ _ _ _ _ (rD (v:=.ty "bool") rfl T.rg JX rfl) ay (by rfl)) (by rfl))) (ig tN (by rfl) T.bJ sN (@ao _ _ _ _ _ (pv 1) (@ao _ _ _ _ _ (rD (v:=.ty "bool") rfl T.rg JX rfl) ay (by rfl)) (by rfl))) (aK _)) (FR (gM ur (ig tN (by rfl) T.bJ sN (@ao _ _ _ _ _ (pv 0) (@ao _ _ _ _ _ (rD (v:=.ty "str") rfl T.vg JY rfl) ay (by rfl)) (by rfl))) (ig tN (by rfl) T.bJ sN (@ao _ _ _ _ _ (pv 1) (@ao _ _ _ _ _ (rD (v:=.ty "str") rfl T.vg JY rfl) ay (by rfl)) (by rfl))) (aK _))))) (@bu _ _ _ (@dm _ _ _ _ ug)) kD)
  (@bu _ _ _ (@dm _ _ _ _ (qA mz (pv 0) (pv 1) (aK _)))))),?_⟩
  exact gp (b:=zw (tR nn)) (a8 (jM (A4 (bX tO (aq (ai 1) (aq (ik (aq (rR _) (aq (rR _) az))) az)))) (a8 (jM (Hk (gq (ax uW (bX tO (aq (ai 0) (aq (rR _) az))) (bX tO (aq (ai 1) (aq (rR _) az))))) (gq (ax uW (bX tO (aq (ai 0) (aq (rR _) az))) (bX tO (aq (ai 1) (aq (rR _) az)))))) (dn (uS _)) kO)
  (dn (K8 (ax mE (bX lL (aq (ai 0) az)) (bX lL (aq (ai 1) az))) (bX w8 (aq (qm (Q6 (aq (ai 0) (aq (ai 1) az))) (rV (lW (aT 0) (lW (aT 1) rT))) rY (cE (F:=tR nn) (aq (ai 0) (aq (ai 1) az)) (aU (aU (fun _ _ _ _ h=>cF h))))) az))))) kO)
  (a8 (jM (Hk (gq (ax uW (bX tO (aq (ai 0) (aq (rR _) az))) (bX tO (aq (ai 1) (aq (rR _) az))))) (gq (ax uW (bX tO (aq (ai 0) (aq (rR _) az))) (bX tO (aq (ai 1) (aq (rR _) az)))))) (dn (uS _)) kO)
  (dn (ax mE (ai 0) (ai 1))))) rfl h
theorem Sr {f:Addr} {fd:FuncData} (D:Def K mg "_law_alike" zx ["_law_found","_law_due"] f fd) (T:Txt mg)  :aC P w K mg base bz 7 f fd ["_law_found","_law_due"] (bA K 2 CY):=L7 D T   6
def Fo:au->Dm Fl :=
 (aA (aI (c9 ah) (hName 1))
 (aA (dr (bM (ae (aP nc (ae (fC (.int 2)) (ae (aP dP (ae (qi o3 (af 0) dM (i6 (fC (.int 6)))) ah)) ah))) ah)) (hName 2) (aA (aI (aP BN (ae (af 0) (ae (af 2) ah))) (hName 3))
 (aA (aI (aP BP (ae (af 3) (ae (fC (.int 4)) (ae (fC (.int 3)) ah)))) (hName 4))
 (aA (aI (aP yc (ae (af 3) (ae (av cq (fC (.int 1)) (aP je (ae (af 3) (ae (fC (.int 8)) ah)))) ah))) (hName 5))
 (aA (aI (aP bY (ae (dQ (bM (ae (av jk (fC (.int 2)) (aP dP (ae (av aF (af 5) (fC (.int 0))) ah))) ah)) 1 [3] (hName 0) d0 (av eh (aP je (ae (af 1) (ae (fC (.int 2001)) ah))) (fC (.int 1000)))) ah)) (hName 6))
 (aA (i5 (qb (aN (av (hV false) (aP je (ae (af 3) (ae (fC (.int 4)) ah))) (fC (.int 0)))) (qa (aN (aP CV (ae (af 3) (ae (af 5) (ae (af 6) ah))))))) (bf (fC (.bl false))) bL)
 (aA (hZ (oC "list" de (af 1) (ae (bW (ae (af 5) (ae (af 4) (ae (af 6) ah)))) ah)))
 (aA (hZ (oC "list" de (af 1) (ae (bW (ae (aP yc (ae (af 3) (ae (aP dP (ae (av aF (af 5) (fC (.int 0))) ah)) ah))) (ae (af 4) (ae (af 6) ah)))) ah)))
 (dr (lx (av kM (qi o3 (af 1) (i6 (oz jc (fC (.int 2)))) dM) (qi o3 (af 1) dM (i6 (fC (.int 1)))))) (kN 3 (bT (hName 7) (bT (hName 8) (bT (hName 9) lu)))) (aA (aI (aP qr (ae (af 7) (ae (af 8) (ae (af 9) ah)))) (hName 10))
 (aA (i5 (yR (qa (aN (aP CY (ae (af 10) (ae (aP vm (ae (af 7) (ae (af 8) (ae (af 9) ah)))) ah))))) (aN (av (jl true) (aP qr (ae (af 7) (ae (bW ah) (ae (af 9) ah)))) (af 9)))) (bf (fC (.bl false))) bL)
 (i5 (qb (aN (av wY (aP dP (ae (af 8) ah)) (fC (.int 3)))) (aN (av (jl true) (aP qr (ae (af 7) (ae (av jm (af 8) (aP vk (ae (af 8) ah))) (ae (af 9) ah)))) (af 9)))) (bf (fC (.bl false))) bL))))))))))))
 (bf (fC (.bl true)))))
def HS:List D->Dm D:=fL 11 Fo
def Fp:Stmt:=top 57
theorem rn:aB ["_law_script","_law_met_here","_law_k","_law_feed_here","_law_word_here","_law_floor_here","_law_seam","_law_one","_law_steps","_law_numbers","_law_found"] ["_law_script"] (aw Fp):=⟨rfl,rfl,rfl,by decide +kernel,rfl,by decide +kernel,by decide +kernel⟩
theorem yh {f:Addr} {fd:FuncData} (D:Def K mg "law" Fp ["_law_script"] f fd) (T:Txt mg)  {iP:Addr} {iQ:FuncData} (eG:Def K mg "_law_feed" BO ["_law_script","_law_k"] iP iQ) (km:aC P w K mg base bz 1 iP iQ ["_law_script","_law_k"] (bA K 2 BN)) {iR:Addr} {iS:FuncData} (eI:Def K mg "_law_word" BQ ["_law_feed_here","_law_most","_law_great"] iR iS) (kn:aC P w K mg base bz 2 iR iS ["_law_feed_here","_law_most","_law_great"] (bA K 3 BP)) {gG:Addr} {gH:FuncData} (bU:Def K mg "_law_floor" BV ["_law_feed_here","_law_n"] gG gH) (gI:aC P w K mg base bz 3 gG gH ["_law_feed_here","_law_n"] (bA K 2 yc)) {b6:Addr} {b7:FuncData} (aL:Def K mg "seam_carried" zi ["floor","word","seam"] b6 b7) (bK:aC P w K mg base bz 10 b6 b7 ["floor","word","seam"] (bA K 3 qr)) {aX:Addr} {aY:FuncData} (aj:Def K mg "_law_take" tP ["_law_feed_here","_law_many"] aX aY) (aJ:aC P w K mg base bz 1 aX aY ["_law_feed_here","_law_many"] (bA K 2 je)) {dj:Addr} {dk:FuncData} (bS:Def K mg "_law_far_right" CW ["_law_feed_here","_law_floor_here","_law_seam"] dj dk) (fm:aC P w K mg base bz 11 dj dk ["_law_feed_here","_law_floor_here","_law_seam"] (bA K 3 CV)) {gJ:Addr} {gK:FuncData} (dH:Def K mg "_law_alike" zx ["_law_found","_law_due"] gJ gK) (jw:aC P w K mg base bz 7 gJ gK ["_law_found","_law_due"] (bA K 2 CY)) {b8:Addr} {b9:FuncData} (bg:Def K mg "_law_carried" zu ["_law_floor_here","_law_word_here","_law_seam"] b8 b9) (cI:aC P w K mg base bz 3 b8 b9 ["_law_floor_here","_law_word_here","_law_seam"] (bA K 3 vm)) {dw:Addr} {dy:FuncData} (bN:Def K mg "back_word" zp ["word"] dw dy) (eE:aC P w K mg base bz 2 dw dy ["word"] (bA K 1 vk)):aC P w K mg base bz 12 f fd ["_law_script"] (bA K 1 HS):=by
 refine D.F.ok rn (fun vs H Q E h=>h.1) (fun cdv A outer s H vs Q E hr h=>?_)
 have hu:=hr.units
 have hu1:=gk hr
 refine ⟨_,(@aZ _ _ _ _ _ (@cc (i:=1) _ _ _ _ _ _ rn.nd rfl (by first | exact Or.inl rfl | exact Or.inr rfl) (@kF _ _ _ _ ay) (by rfl) (by first | exact .inl rfl | exact .inr rfl | assumption))
  (@aZ _ _ _ _ _ (@lI _ _ _ _ _ _ _ _ PassesOwn.never rfl (nC rfl T.aQ (@ao _ _ _ _ _ (ig (F0 rfl) (by rfl) T.rh Gp (@ao _ _ _ _ _ aG (@ao _ _ _ _ _ (ig lJ (by rfl) T.cv lK (@ao _ _ _ _ _ (sF Dx (pv 0) sD (sE aG)) ay (by rfl))) ay (by rfl)) (by rfl))) ay (by rfl))) (ef (i:=2) rn.nd rfl (by first | exact Or.inl rfl | exact Or.inr rfl)) (@aZ _ _ _ _ _ (@cc (i:=3) _ _ _ _ _ _ rn.nd rfl (by first | exact Or.inl rfl | exact Or.inr rfl) (cD km (hr.mono (by decide)) rfl eG.m eG.F.kp eG.b .nil aE (@ao _ _ _ _ _ (pv 0) (@ao _ _ _ _ _ (pv 2) ay (by rfl)) (by rfl))) (by rfl) (by first | exact .inl rfl | exact .inr rfl | assumption))
  (@aZ _ _ _ _ _ (@cc (i:=4) _ _ _ _ _ _ rn.nd rfl (by first | exact Or.inl rfl | exact Or.inr rfl) (cD kn (hr.mono (by decide)) rfl eI.m eI.F.kp eI.b .nil aE (@ao _ _ _ _ _ (pv 3) (@ao _ _ _ _ _ aG (@ao _ _ _ _ _ aG ay (by rfl)) (by rfl)) (by rfl))) (by rfl) (by first | exact .inl rfl | exact .inr rfl | assumption))
  (@aZ _ _ _ _ _ (@cc (i:=5) _ _ _ _ _ _ rn.nd rfl (by first | exact Or.inl rfl | exact Or.inr rfl) (cD gI (hr.mono (by decide)) rfl bU.m bU.F.kp bU.b .nil aE (@ao _ _ _ _ _ (pv 3) (@ao _ _ _ _ _ (aW iZ aG (cD aJ (hr.mono (by decide)) rfl aj.m aj.F.kp aj.b .nil aE (@ao _ _ _ _ _ (pv 3) (@ao _ _ _ _ _ aG ay (by rfl)) (by rfl)))) ay (by rfl)) (by rfl))) (by rfl) (by first | exact .inl rfl | exact .inr rfl | assumption))
  (@aZ _ _ _ _ _ (@cc (i:=6) _ _ _ _ _ _ rn.nd rfl (by first | exact Or.inl rfl | exact Or.inr rfl) (fT n6 (by rfl) T.bC mW (@ao _ _ _ _ _ (rK (own:=["_law_j"]) (fr:=["_law_feed_here"]) (js:=[3]) rfl ⟨⟨rfl,by decide +kernel,by decide +kernel,by dsimp only [jb,aV,Cx.oM,Cx.wish,PyProof.Rows.envOfC,compEnvC,relabel,Env.kindOf];decide +kernel,by decide +kernel⟩,rfl⟩ (nC rfl T.aQ (@ao _ _ _ _ _ (aW ph aG (ig lJ (by rfl) T.cv lK (@ao _ _ _ _ _ (@a9 _ _ _ _ _ _ _ bI (pv 5) aG (fun _ _=>rfl)) ay (by rfl)))) ay (by rfl))) (fun _ _ _ _ _=>(ef (i:=0) (show ((["_law_j"]:List Str) ++ (["_law_feed_here"]:List Str)).Nodup by decide +kernel) rfl (by first | exact Or.inl rfl | exact Or.inr rfl))) (fun _ _ _ _ _=>rJ) (fun _ _ _ _ _=>(aW mP (cD aJ (hr.mono (by decide)) rfl aj.m aj.F.kp aj.b .nil aE (@ao _ _ _ _ _ (pv 1) (@ao _ _ _ _ _ aG ay (by rfl)) (by rfl))) aG))) ay (by rfl))) (by rfl) (by first | exact .inl rfl | exact .inr rfl | assumption))
  (@aZ _ _ _ _ _ (@jH _ _ _ _ _ _ _ _ (PW.pt (FT (gM mz (cD aJ (hr.mono (by decide)) rfl aj.m aj.F.kp aj.b .nil aE (@ao _ _ _ _ _ (pv 3) (@ao _ _ _ _ _ aG ay (by rfl)) (by rfl))) aG (aK _)) (FQ (FV (Dk (cD fm (hr.mono (by decide)) rfl bS.m bS.F.kp bS.b .nil aE (@ao _ _ _ _ _ (pv 3) (@ao _ _ _ _ _ (pv 5) (@ao _ _ _ _ _ (pv 6) ay (by rfl)) (by rfl)) (by rfl)))))))) (@bu _ _ _ (@dm _ _ _ _ ug)) kD)
  (@aZ _ _ _ _ _ (rE (pZ PySem.F.plainAttrs_list PySem.F.slot_list_append PySem.F.type_list_append sI (pv 1) (@ao _ _ _ _ _ (@ie _ _ _ _ _ (@ao _ _ _ _ _ (pv 5) (@ao _ _ _ _ _ (pv 4) (@ao _ _ _ _ _ (pv 6) ay (by rfl)) (by rfl)) (by rfl))) ay (by rfl))))
  (@aZ _ _ _ _ _ (rE (pZ PySem.F.plainAttrs_list PySem.F.slot_list_append PySem.F.type_list_append sI (pv 1) (@ao _ _ _ _ _ (@ie _ _ _ _ _ (@ao _ _ _ _ _ (cD gI (hr.mono (by decide)) rfl bU.m bU.F.kp bU.b .nil aE (@ao _ _ _ _ _ (pv 3) (@ao _ _ _ _ _ (ig lJ (by rfl) T.cv lK (@ao _ _ _ _ _ (@a9 _ _ _ _ _ _ _ bI (pv 5) aG (fun _ _=>rfl)) ay (by rfl))) ay (by rfl)) (by rfl))) (@ao _ _ _ _ _ (pv 4) (@ao _ _ _ _ _ (pv 6) ay (by rfl)) (by rfl)) (by rfl))) ay (by rfl))))
  (@bu _ _ _ (@lI _ _ _ _ _ _ _ _ PassesOwn.never rfl (FY (aW qE (sF Dx (pv 1) (sE (oQ oR aG)) sD) (sF Dx (pv 1) sD (sE aG)))) (sx (n:=3) rfl (lR (ef (i:=7) rn.nd rfl (by first | exact Or.inl rfl | exact Or.inr rfl)) (lR (ef (i:=8) rn.nd rfl (by first | exact Or.inl rfl | exact Or.inr rfl)) (lR (ef (i:=9) rn.nd rfl (by first | exact Or.inl rfl | exact Or.inr rfl)) rF)))) (@aZ _ _ _ _ _ (@cc (i:=10) _ _ _ _ _ _ rn.nd rfl (by first | exact Or.inl rfl | exact Or.inr rfl) (cD bK (hr.mono (by decide)) rfl aL.m aL.F.kp aL.b .nil aE (@ao _ _ _ _ _ (pv 7) (@ao _ _ _ _ _ (pv 8) (@ao _ _ _ _ _ (pv 9) ay (by rfl)) (by rfl)) (by rfl))) (by rfl) (by first | exact .inl rfl | exact .inr rfl | assumption))
  (@aZ _ _ _ _ _ (@jH _ _ _ _ _ _ _ _ (PW.pt (FU (FV (Dk (cD jw (hr.mono (by decide)) rfl dH.m dH.F.kp dH.b .nil aE (@ao _ _ _ _ _ (pv 10) (@ao _ _ _ _ _ (cD cI (hr.mono (by decide)) rfl bg.m bg.F.kp bg.b .nil aE (@ao _ _ _ _ _ (pv 7) (@ao _ _ _ _ _ (pv 8) (@ao _ _ _ _ _ (pv 9) ay (by rfl)) (by rfl)) (by rfl))) ay (by rfl)) (by rfl))))) (FR (gM (DF hu) (cD bK (hr.mono (by decide)) rfl aL.m aL.F.kp aL.b .nil aE (@ao _ _ _ _ _ (pv 7) (@ao _ _ _ _ _ (@ie _ _ _ _ _ ay) (@ao _ _ _ _ _ (pv 9) ay (by rfl)) (by rfl)) (by rfl))) (pv 9) (aK _))))) (@bu _ _ _ (@dm _ _ _ _ ug)) kD)
  (@bu _ _ _ (@jH _ _ _ _ _ _ _ _ (PW.pt (FT (gM Af (ig lJ (by rfl) T.cv lK (@ao _ _ _ _ _ (pv 8) ay (by rfl))) aG (aK _)) (FQ (gM (DF hu) (cD bK (hr.mono (by decide)) rfl aL.m aL.F.kp aL.b .nil aE (@ao _ _ _ _ _ (pv 7) (@ao _ _ _ _ _ (aW uH (pv 8) (cD eE (hr.mono (by decide)) rfl bN.m bN.F.kp bN.b .nil aE (@ao _ _ _ _ _ (pv 8) ay (by rfl)))) (@ao _ _ _ _ _ (pv 9) ay (by rfl)) (by rfl)) (by rfl))) (pv 9) (aK _))))) (@bu _ _ _ (@dm _ _ _ _ ug)) kD)))) (by intro _;rfl)))))))))) (by intro _;rfl))
  (@bu _ _ _ (@dm _ _ _ _ ug)))),?_⟩
 exact gp (b:=Fo) (a8 (bG (kK az) (aT 1))
  (a8 (lN (nS (aq (bX Ho (aq (aH _) (aq (bX lL (aq (tj D4 (ai 0) sZ (tf (aH _))) az)) az))) az)) (aT 2) (a8 (bG (cE (F:=BN) (aq (ai 0) (aq (ai 2) az)) (aU (aU (fun _ _ _ _ h=>cF h)))) (aT 3))
  (a8 (bG (cE (F:=BP) (aq (ai 3) (aq (aH _) (aq (aH _) az))) (aU (aU (aU (fun _ _ _ _ h=>cF h))))) (aT 4))
  (a8 (bG (cE (F:=yc) (aq (ai 3) (aq (ax i7 (aH _) (cE (F:=je) (aq (ai 3) (aq (aH _) az)) (aU (aU (fun _ _ _ _ h=>cF h))))) az)) (aU (aU (fun _ _ _ _ h=>cF h)))) (aT 5))
  (a8 (bG (bX n8 (aq (qm (nS (aq (ax pN (aH _) (bX lL (aq (ax bF (ai 5) (aH _)) az))) az)) (aT 0) rY (ax mT (cE (F:=je) (aq (ai 1) (aq (aH _) az)) (aU (aU (fun _ _ _ _ h=>cF h)))) (aH _))) az)) (aT 6))
  (a8 (jM (Hj (gq (ax mE (cE (F:=je) (aq (ai 3) (aq (aH _) az)) (aU (aU (fun _ _ _ _ h=>cF h)))) (aH _))) (Hi (A4 (cE (F:=CV) (aq (ai 3) (aq (ai 5) (aq (ai 6) az))) (aU (aU (aU (fun _ _ _ _ h=>cF h)))))))) (dn (uS _)) kO)
  (a8 (rW (pO tw (ai 1) (aq (ik (aq (ai 5) (aq (ai 4) (aq (ai 6) az)))) az)))
  (a8 (rW (pO tw (ai 1) (aq (ik (aq (cE (F:=yc) (aq (ai 3) (aq (bX lL (aq (ax bF (ai 5) (aH _)) az)) az)) (aU (aU (fun _ _ _ _ h=>cF h)))) (aq (ai 4) (aq (ai 6) az)))) az)))
  (lN (Ht (ax qT (tj D4 (ai 1) (tf (oX oY (aH _))) sZ) (tj D4 (ai 1) sZ (tf (aH _))))) (rV (lW (aT 7) (lW (aT 8) (lW (aT 9) rT)))) (a8 (bG (cE (F:=qr) (aq (ai 7) (aq (ai 8) (aq (ai 9) az))) (aU (aU (aU (fun _ _ _ _ h=>cF h))))) (aT 10))
  (a8 (jM (Hk (Hi (A4 (cE (F:=CY) (aq (ai 10) (aq (cE (F:=vm) (aq (ai 7) (aq (ai 8) (aq (ai 9) az))) (aU (aU (aU (fun _ _ _ _ h=>cF h))))) az)) (aU (aU (fun _ _ _ _ h=>cF h)))))) (gq (ax (yW true) (cE (F:=qr) (aq (ai 7) (aq (ik az) (aq (ai 9) az))) (aU (aU (aU (fun _ _ _ _ h=>cF h))))) (ai 9)))) (dn (uS _)) kO)
  (jM (Hj (gq (ax A7 (bX lL (aq (ai 8) az)) (aH _))) (gq (ax (yW true) (cE (F:=qr) (aq (ai 7) (aq (ax uX (ai 8) (cE (F:=vk) (aq (ai 8) az) (aU (fun _ _ _ _ h=>cF h)))) (aq (ai 9) az))) (aU (aU (aU (fun _ _ _ _ h=>cF h))))) (ai 9)))) (dn (uS _)) kO))))))))))))
  (dn (uS _)))) rfl h
end
theorem o9 {st:Store} {f:Nat} {n:Int} (hf:bh st f) (h0:0 < n) (h1:n < 1073741824):Wp (je [.ref f,.int n] st) fun d st'=>∃ k:Int,d=.int k/\0<=k/\k < n/\bh st' f/\Ex [f] st st':=by
 obtain ⟨o,m,e,o0,m0,m1⟩:=hf
 have hfl:=fN e
 refine fM ?_
 show Ws (Eo [some (.ref f),some (.int n),none,none] st) _ _ _ _
 unfold Eo
 refine aS (gs ?_)
 set_option simprocs false in simp only [bw,dS e,jN e]
 refine ⟨fun ho=>?_,fun ho=>?_⟩
 ·refine aS (bO ?_)
  set_option simprocs false in simp only [bw,dS e]
  refine ⟨h0,aS (nh ?_)⟩
  set_option simprocs false in simp only [bw,dS e,jN e,(show j5 [D.int o,D.int m].length 0=some 0 from BA)]
  refine ⟨⟨h0,h1⟩,dC ?_⟩
  w_how
  refine ⟨Int.emod_nonneg _ (by omega),Int.emod_lt_of_pos _ h0,⟨o / n,m,?_,Int.ediv_nonneg o0 (by omega),m0,m1⟩,Ex.refl.put (by simp)⟩
  rw [List.getElem?_set_self hfl]
 ·refine kf (aS (bO ?_))
  set_option simprocs false in simp only [bw,dS e]
  refine ⟨by omega,by omega,aS (nh ?_)⟩
  set_option simprocs false in simp only [bw,dS e,jN e,(show j5 [D.int o,D.int m].length 1=some 1 from BB)]
  refine ⟨by omega,by omega,dC ?_⟩
  have e2:(st.set f (.lst [.int o,.int ((m * 48271 % 2147483647 * 40692 + 30103) % 2147483399 + 1)]))[f]?=some (.lst [.int o,.int ((m * 48271 % 2147483647 * 40692 + 30103) % 2147483399 + 1)]):=List.getElem?_set_self hfl
  set_option simprocs false in simp only [bw,dS e2]
  refine ⟨by omega,by omega,h0,Int.emod_nonneg _ (by omega),Int.emod_lt_of_pos _ h0,⟨_,_,e2,o0,by omega,by omega⟩,Ex.refl.put (by simp)⟩
theorem Ss {st:Store} {a:Nat} {ns:List Int} {k:Nat} (hs:items st a=some (ns.map D.int)) (hk:k<=100):Wp (BN [.ref a,.int (k:Int)] st) fun d st'=>d=.ref st.length/\bh st' st.length/\Ex [] st st':=by
 refine fM ?_
 show Ws (En [some (.ref a),some (.int (k:Int)),none,none] st) _ _ _ _
 unfold En
 refine aS (bO ?_)
 w_how
 refine ⟨by omega,aS (xG (N:=fun δ st1=>st1=st/\∃ c:Int,δ=[some (.ref a),some (.int (k:Int)),some (.int c),none]) (gs ?_) ?_)⟩
 ·set_option simprocs false in simp only [bw,hs]
  refine ⟨fun h=>bO ?_,fun h=>gs ?_⟩
  ·have h:=of_decide_eq_true h
   rw [List.length_map] at h
   set_option simprocs false in simp only [bw,hs]
   refine ⟨.int (ns[k]'(by omega)),Du (by rw [List.getElem?_map,List.getElem?_eq_getElem];rfl),_,rfl⟩
  ·set_option simprocs false in simp only [bw,hs]
   refine ⟨fun h=>bO ?_,fun h=>kf ⟨rfl,_,rfl⟩⟩
   have h:=of_decide_eq_true h
   obtain ⟨v,hv,hm⟩:=wo (xs:=ns.map D.int) (i:=(k:Int) % ((ns.map D.int).length:Int)) (Int.emod_nonneg _ (by omega)) (Int.emod_lt_of_pos _ h)
   obtain ⟨c,_,rfl⟩:=List.mem_map.mp hm
   set_option simprocs false in simp only [bw,hs]
   refine ⟨h,_,hv,?_⟩
   w_how
   exact ⟨by omega,by omega,by omega,_,rfl⟩
 ·rintro δ st1 ⟨rfl,c,rfl⟩
  refine aS (bO ?_)
  w_how
  refine aS (xG (N:=fun δ st2=>st2=st1/\∃ o:Int,0<=o/\δ=[some (.ref a),some (.int (k:Int)),some (.int c),some (.int o)]) (gs ?_) ?_)
  ·w_how
   refine ⟨by decide,fun h=>bO ?_,fun h=>kf ⟨rfl,0,by decide,rfl⟩⟩
   have h:=of_decide_eq_true h
   w_how
   exact ⟨c,Int.le_trans (by decide) h,rfl⟩
  ·rintro δ st2 ⟨rfl,o,o0,rfl⟩
   refine dC ?_
   w_how
   have h1:0<=c % 2147483629:=Int.emod_nonneg _ (by decide)
   have h2:c % 2147483629 < 2147483629:=Int.emod_lt_of_pos _ (by decide)
   refine ⟨by omega,by omega,by omega,by omega,by omega,by rfl,⟨_,_,j8,o0,?_,?_⟩,Ex.cf _⟩
   ·have:=Int.emod_nonneg ((c % 2147483629 * 48271 + 40692 * (k:Int)) ^ (5:Int).toNat) (show (2147483629:Int)≠0 by decide)
    omega
   ·have:=Int.emod_lt_of_pos ((c % 2147483629 * 48271 + 40692 * (k:Int)) ^ (5:Int).toNat) (show (0:Int) < 2147483629 by decide)
    omega
theorem L8 {st:Store} {f:Nat} {n:Nat} (hf:bh st f) (hn:n<=100):Wp (yb [.ref f,.int (n:Int)] st) fun d st'=>∃ xs:List Int,d=.tup (xs.map D.int)/\ag.Tn n xs/\bh st' f/\Ex [f] st st':=by
 have hfl:=hf.lt
 refine fM ?_
 show Ws (Es [some (.ref f),some (.int (n:Int)),none,none] st) _ _ _ _
 unfold Es
 refine aS (bO ?_)
 w_how
 have e1:((n:Int) - 0).toNat=n:=by omega
 rw [e1,tK]
 refine ⟨by unfold qc;rw [Bool.and_eq_true,decide_eq_true_eq];exact ⟨by omega,ja (by omega)⟩,aS (bO ?_)⟩
 w_how
 refine ⟨rfl,aS (y6 (fun m δ st2=>∃ L xs:List Int,m=L.length/\δ=[some (.ref f),some (.int (n:Int)),some (.ref (st ++ [O.jf 0 (n:Int)]).length),some (.tup (xs.map D.int))]/\st2[(st ++ [O.jf 0 (n:Int)]).length]?=some (.lst (L.map D.int))/\(xs ++ L).Perm (ag.upto n)/\bh st2 f/\Ex [f] st st2) n (Nat.lt_of_le_of_lt hn (by decide)) ⟨ag.upto n,[],(ag.rL n).symm,rfl,j8,List.Perm.refl _,hf.keep ((Ex.cf _).app _),(Ex.cf _).app _⟩ ?_)⟩
 have hl:(st ++ [O.jf 0 (n:Int)]).length≠f:=by rw [List.length_append];omega
 have hls:st.length<=(st ++ [O.jf 0 (n:Int)]).length:=by rw [List.length_append];omega
 generalize (st ++ [O.jf 0 (n:Int)]).length=l at hl hls ⊢
 rintro m δ st2 ⟨L,xs,rfl,rfl,hL,pm,hf2,k2⟩
 have hlen:(xs ++ L).length=n:=by rw [pm.length_eq,ag.rL]
 rw [List.length_append] at hlen
 refine bE ?_
 intro bP hQ
 set_option simprocs false in simp only [bw,Lu (L:=L) (M:=[]) (st:=st2 ++ [O.lst []]) (dS (gu hL)) tJ]
 refine ⟨rfl,hQ _ _ ⟨fun h=>?_,fun h=>?_⟩⟩
 ·have hne:L≠[]:=by simpa using h
  have hpos:0 < L.length:=List.length_pos_iff.mpr hne
  have Fq:(st2 ++ [O.lst []])[l]?=some (.lst (L.map D.int)):=gu hL
  have f3:bh (st2 ++ [O.lst []]) f:=hf2.keep (Ex.cf _)
  have k3:Ex [f] st (st2 ++ [O.lst []]):=k2.app _
  generalize (st2 ++ [O.lst []])=st3 at Fq f3 k3 ⊢
  refine bO ?_
  refine bE ?_
  intro bP hQ
  set_option simprocs false in simp only [bw,dS Fq]
  refine ⟨qX (by rw [dS Fq];rfl),?_⟩
  refine bj (o9 (n:=((L.map D.int).length:Int)) f3 (by rw [List.length_map];omega) (by rw [List.length_map];omega)) ?_
  rintro d mY ⟨k,rfl,k0,k1,f4,k4⟩
  rw [List.length_map] at k1
  have L9:=k4.keep _ _ Fq (by simpa using hl)
  have qL:k.toNat < L.length:=by omega
  set_option simprocs false in simp only [bw,jN L9]
  have hk':((k.toNat:Nat):Int)=k:=Int.toNat_of_nonneg k0
  refine ⟨by omega,k.toNat,?_,D.int L[k.toNat],by rw [List.getElem?_map,List.getElem?_eq_getElem qL];rfl,rfl,ja ?_,hQ _ _ ⟨(L.eraseIdx k.toNat).length,?_,L.eraseIdx k.toNat,xs ++ [L[k.toNat]],rfl,?_,?_,?_,?_,?_⟩⟩
  ·rw [<- hk',Int.toNat_natCast]
   exact (F8 (AA (by rw [List.length_map];exact qL))).1
  ·simp only [List.length_map,List.length_cons,List.length_nil];omega
  ·rw [List.length_eraseIdx,if_pos qL];omega
  ·rw [List.map_append];rfl
  ·rw [List.getElem?_set_self (fN L9),QV]
  ·refine List.Perm.trans ?_ pm
   rw [List.append_assoc]
   exact List.Perm.append_left xs (QW qL)
  ·exact f4.ne hl
  ·exact (k3.trans k4).loc hls
 ·have he:L=[]:=by simpa using h
  subst he
  refine dC ?_
  kspl_open hQ
  exact hQ _ _ ⟨xs,rfl,by simpa [ag.Tn] using pm,hf2.keep (Ex.cf _),k2.app _⟩
theorem Sv {st:Store} {xs ys:List Int} {n:Nat} (tx:ag.Tn n xs) (ty:ag.Tn n ys) (n0:0 < n) (hn:n<=100):Wp (vh [cu xs ys] st) fun d st'=>∃ (g:Nat) (F:List Int),d=.ref g/\items st' g=some (F.map D.int)/\(∀ x,x∈F↔ag.kI xs ys x)/\F.length<=n/\Ex [] st st':=by
 have hlx:=tx.length
 have HU:=ty.length
 refine fM ?_
 show Ws (Ew [some (cu xs ys),none,none,none,none] st) _ _ _ _
 unfold Ew
 refine aS (bO ?_)
 kspl_open hQ
 refine ⟨rfl,hQ _ _ (aS (lY (aD 0 (n + 1)) (fun i δ st2=>∃ (v2 v3 v4:Option D) (F:List Int),δ=[some (cu xs ys),some (.ref st.length),v2,v3,v4]/\st2[st.length]?=some (.lst (F.map D.int))/\ag.Fd xs ys F/\(ag.Cl xs ys F\/i + 1<=F.length)/\Ex [] st st2) ?_ ?_ ?_ ?_))⟩
 ·unfold cu
  kspl_open hQ
  have e0:((1:Int) + ((xs.map D.int).length:Int)).toNat=n + 1:=by rw [List.length_map];omega
  refine ⟨by rw [List.length_map];omega,hQ _ _ ⟨by rw [e0],none,none,none,[0],rfl,j8,ag.Fd.one xs ys,.inr (Nat.le_refl _),Ex.cf _⟩⟩
 ·rw [dZ];omega
 ·rintro i d δ st2 hd ⟨v2,v3,v4,F,rfl,HV,hF,hcl,k2⟩
  kspl_open hQ
  refine hQ _ _ (lY [.tup (xs.map D.int),.tup (ys.map D.int)] (fun m δ st3=>∃ (v3 v4:Option D) (G:List Int),δ=[some (cu xs ys),some (.ref st.length),some d,v3,v4]/\st3[st.length]?=some (.lst (G.map D.int))/\ag.Fd xs ys G /\
    (m=0->G=F)/\(m=1->F <+: G/\∀ x∈F,ag.app xs x∈G)/\(2<=m->∃ F1,F <+: F1/\F1 <+: G/\(∀ x∈F,ag.app xs x∈F1)/\∀ x∈F1,ag.app ys x∈G)/\Ex [] st st3) ?_ (by simp) ?_ ?_)
  ·unfold cu
   kspl_open hQ
   exact hQ _ _ ⟨rfl,v3,v4,F,rfl,HV,hF,fun _=>rfl,fun z=>by omega,fun z=>by omega,k2⟩
  ·rintro m z δ st3 hm ⟨v3,v4,G,rfl,CZ,hG,m0,m1,_,k3⟩
   have hm2:m < 2:=fN hm
   obtain ⟨zs,rfl,hz,em⟩:∃ (zs:List Int),z=.tup (zs.map D.int)/\(zs=xs\/zs=ys)/\((m=0/\zs=xs)\/(m=1/\zs=ys)):=by
    rcases (show m=0\/m=1 by omega) with rfl | rfl
    ·exact ⟨xs,by simpa using hm.symm,.inl rfl,.inl ⟨rfl,rfl⟩⟩
    ·exact ⟨ys,by simpa using hm.symm,.inr rfl,.inr ⟨rfl,rfl⟩⟩
   have tz:ag.Tn n zs:=by rcases hz with rfl | rfl;exact tx;exact ty
   have Ma:=tz.length
   have go:∀ x,ag.kI xs ys x->ag.kI xs ys (ag.app zs x):=fun x h=>by rcases hz with rfl | rfl;exact h.r;exact h.u
   kspl_open hQ
   refine hQ _ _ (Hx (G.map D.int) st3.length (fun j δ mY=>∃ (v4:Option D) (G':List Int),δ=[some (cu xs ys),some (.ref st.length),some d,some (.tup (zs.map D.int)),v4]/\mY[st.length]?=some (.lst (G'.map D.int))/\mY[st3.length]?=some (.lst (G.map D.int))/\ag.Fd xs ys G'/\G <+: G'/\(∀ i',i' < j->∀ x,G[i']?=some x->ag.app zs x∈G')/\Ex [] st mY) ?_ ?_ ?_ ?_ ?_)
   ·refine bE ?_
    intro bP hQ
    set_option simprocs false in simp only [bw,dS CZ]
    exact hQ _ _ ⟨rfl,v4,G,rfl,gu CZ,j8,hG,List.prefix_refl _,fun i' h=>absurd h (Nat.not_lt_zero _),k3.app _⟩
   ·rw [List.length_map]
    have:=hG.len tx ty n0
    omega
   ·rintro j δ mY ⟨_,_,_,_,h,_⟩
    exact dS h
   ·rintro j UC δ mY hj0 ⟨v4,G',rfl,yi,tT,zy,pG,hd',k4⟩
    obtain ⟨y,hj,rfl⟩:=Ec hj0
    have hjl:=fN hj
    have hR:=hG.mt _ (List.mem_of_getElem? hj)
    obtain ⟨y0,y1⟩:=hR.bound tx ty n0
    have at':=o5 (xs:=zs) y0 (by rw [Ma];exact y1)
    have hnext:∀ Fs:List Int,G' <+: Fs->ag.app zs y∈Fs->∀ i',i' < j + 1->∀ x,G[i']?=some x->ag.app zs x∈Fs:=fun Fs p h i' hi' x hx=>by
     by_cases e:i'=j
     ·subst e
      rw [hj] at hx
      cases hx;exact h
     ·exact p.subset (hd' i' (by omega) x hx)
    kspl_open hQ
    refine hQ _ _ (gs ?_)
    refine bE ?_
    intro kY cJ
    set_option simprocs false in simp only [bw,at',Lv (st:=mY) (c:=.ref st.length) (ns:=G') (dS yi)]
    refine cJ _ _ ⟨fun hcn=>?_,fun hcn=>?_⟩
    ·have hnm:ag.app zs y ∉ G':=fun z=>by rw [List.contains_iff_mem.mpr z] at hcn;cases hcn
     have Mb:ag.Fd xs ys (G' ++ [ag.app zs y]):=by
      refine ⟨List.mem_append_left _ zy.z,?_,fun x hx=>?_⟩
      ·rw [List.nodup_append]
       refine ⟨zy.nd,by simp,fun x hx y' hy e=>hnm ?_⟩
       have e2:y'=ag.app zs y:=by simpa using hy
       rw [<- e2,<- e];exact hx
      ·rcases List.mem_append.mp hx with h | h
       ·exact zy.mt x h
       ·have e2:x=ag.app zs y:=by simpa using h
        rw [e2];exact go _ hR
     have hlen2:=Mb.len tx ty n0
     rw [List.length_append] at hlen2
     refine rZ ?_
     refine bE ?_
     intro HW yj
     set_option simprocs false in simp only [bw,at',jN yi]
     refine ⟨qX (by rw [dS yi];rfl),ja (by rw [List.length_map];simp at hlen2;omega),yj _ _ ⟨_,G' ++ [ag.app zs y],rfl,?_,?_,Mb,pG.trans (List.prefix_append _ _),hnext _ (List.prefix_append _ _) (by simp),k4.loc (Nat.le_refl _)⟩⟩
     ·rw [List.getElem?_set_self (fN yi),List.map_append];rfl
     ·rw [List.getElem?_set_ne (by have:=fN CZ;omega)];exact tT
    ·have hcn:G'.contains (ag.app zs y)=true:=by simpa using hcn
     exact kf ⟨_,G',rfl,yi,tT,zy,pG,hnext G' (List.prefix_refl _) (List.contains_iff_mem.mp hcn),k4⟩
   ·rintro δ mY ⟨v4,G',rfl,yi,tT,zy,pG,hd',k4⟩
    rw [List.length_map] at hd'
    have hall:∀ x∈G,ag.app zs x∈G':=fun x hx=>by
     obtain ⟨i',hi',e⟩:=List.getElem_of_mem hx
     exact hd' i' hi' x (by rw [List.getElem?_eq_getElem hi',e])
    refine ⟨_,_,G',rfl,yi,zy,fun z=>by omega,fun z=>?_,fun z=>?_,k4⟩
    ·rcases em with ⟨rfl,rfl⟩ | ⟨rfl,_⟩
     ·have:=m0 rfl
      subst this
      exact ⟨pG,hall⟩
     ·omega
    ·rcases em with ⟨rfl,_⟩ | ⟨rfl,rfl⟩
     ·omega
     ·obtain ⟨p1,c1⟩:=m1 rfl
      exact ⟨G,p1,pG,c1,hall⟩
  ·rintro δ st3 ⟨v3,v4,G,rfl,CZ,hG,_,_,m2,k3⟩
   obtain ⟨F1,p1,p2,c1,c2⟩:=m2 (Nat.le_refl 2)
   exact ⟨_,_,_,G,rfl,CZ,hG,ag.round hF hG p1 p2 c1 c2 hcl,k3⟩
 ·rintro δ st2 ⟨v2,v3,v4,F,rfl,HV,hF,hcl,k2⟩
  rw [dZ] at hcl
  have hl:=hF.len tx ty n0
  have hc:ag.Cl xs ys F:=hcl.resolve_right (by omega)
  refine dC ?_
  kspl_open hQ
  exact hQ _ _ ⟨_,F,rfl,dS HV,fun x=>⟨hF.mt x,fun h=>hc.all hF.z h⟩,hl,k2⟩
theorem Mc {st:Store} {δ:au} {X Y:List Int} {n:Nat} {Q:D->Store->Prop} (tX:ag.Tn n X) (tY:ag.Tn n Y) (n0:0 < n) (hn:n<=100) (h1:δ[1]?=some (some (.int (n:Int)))) (h6:δ[6]?=some (some (cu X Y)))
  (q:∀ (L:List Int) (st':Store),L.length<=n->L.Nodup->(∀ x,x∈L↔(0<=x/\x < (n:Int)/\¬ ag.kI X Y x))->Ex [] st st'->Q (.ref st'.length) (st' ++ [.lst (L.map D.int)])) :
  Wp (dQ (bM (ae (af 1) ah)) 1 [6] (hName 0) (aN (av (rS true) (af 0) (aP vh (ae (af 1) ah)))) (af 0) δ st) Q:=by
 have Sw:δ.getD 6 none=some (cu X Y):=by rw [List.getD_eq_getElem?_getD,h6];rfl
 refine D7 (aD 0 n) (fun j zs δ' jd=>∃ (v:Option D) (L:List Int),δ'=[v,some (cu X Y)]/\zs=L.map D.int/\L.length<=j/\L.Nodup/\(∀ x,x∈L↔(0<=x/\x < (j:Int)/\¬ ag.kI X Y x))/\Ex [] st jd) ?_ (by rw [dZ];omega) ?_ ?_ ?_
 ·refine bE ?_
  intro bP hQ
  set_option simprocs false in simp only [bw,h1]
  refine ⟨by omega,hQ _ _ ⟨fun i ys δ st hi _=>?_,none,[],?_,rfl,Nat.le_refl _,List.nodup_nil,fun x=>⟨(fun h=>nomatch h),fun h=>by omega⟩,Ex.refl⟩⟩
  ·rw [Int.toNat_natCast]
   show (if i<=(aD 0 n).length then some (aD 0 n)[i]? else none)=_
   rw [if_pos hi]
  ·unfold oF
   simp only [List.map_cons,List.map_nil,Sw]
   rfl
 ·rintro j zs δ' jd ⟨v,L,_,rfl,hl,_⟩
  rw [List.length_map];exact hl
 ·rintro j d zs δ' jd hd ⟨v,L,rfl,rfl,vn,nd,hL,k8⟩
  have hjl:=fN hd
  rw [dZ] at hjl
  rw [tH hjl] at hd
  cases hd
  rw [Int.zero_add]
  kspl_open hQ
  refine hQ _ _ ?_
  kspl_open cJ
  refine bj (Sv (st:=jd) tX tY n0 hn) ?_
  rintro d oG ⟨g,F,rfl,hg,hF,UD,k9⟩
  rw [Lv (c:=.ref g) (ns:=F) hg]
  refine ⟨_,rfl,cJ _ _ ⟨fun hc=>?_,fun hc=>?_⟩⟩
  ·have hR:¬ ag.kI X Y (j:Int):=fun h=>by rw [List.contains_iff_mem.mpr ((hF _).mpr h)] at hc;cases hc
   kspl_open yj
   refine yj _ _ ⟨_,L ++ [(j:Int)],rfl,by rw [List.map_append];rfl,by rw [List.length_append];simp;omega,?_,fun x=>?_,k8.trans k9⟩
   ·rw [List.nodup_append]
    refine ⟨nd,by simp,fun x hx y hy e=>?_⟩
    have e2:y=(j:Int):=by simpa using hy
    have:=((hL x).mp hx).2.1
    omega
   ·rw [List.mem_append,hL x]
    constructor
    ·rintro (⟨a1,a2,a3⟩ | h)
     ·exact ⟨a1,by omega,a3⟩
     ·have e2:x=(j:Int):=by simpa using h
      rw [e2];exact ⟨by omega,by omega,hR⟩
    ·rintro ⟨a1,a2,a3⟩
     rcases Int.lt_or_le x (j:Int) with h | h
     ·exact .inl ⟨a1,h,a3⟩
     ·exact .inr (by simp;omega)
  ·have hc:F.contains (j:Int)=true:=by simpa using hc
   have hR:=(hF _).mp (List.contains_iff_mem.mp hc)
   refine ⟨_,L,rfl,rfl,by omega,nd,fun x=>?_,k8.trans k9⟩
   rw [hL x]
   constructor
   ·rintro ⟨a1,a2,a3⟩;exact ⟨a1,by omega,a3⟩
   ·rintro ⟨a1,a2,a3⟩
    refine ⟨a1,?_,a3⟩
    rcases Int.lt_or_le x (j:Int) with h | h
    ·exact h
    ·exact absurd hR (by rw [show (j:Int)=x by omega];exact a3)
 ·rintro zs δ' jd ⟨v,L,rfl,rfl,vn,nd,hL,k8⟩
  rw [dZ] at vn hL
  exact q L jd vn nd hL k8
theorem Md {st:Store} {f n:Nat} (hf:bh st f) (n1:1<=n) (Sx:n<=20):Wp (yc [.ref f,.int (n:Int)] st) fun d st'=>∃ xs ys:List Int,d=cu xs ys/\HG n xs ys/\bh st' f/\Ex [f] st st':=by
 have hfl:=hf.lt
 refine fM ?_
 show Ws (Ey [some (.ref f),some (.int (n:Int)),none,none,none,none,none,none,none] st) _ _ _ _
 unfold Ey
 refine aS (bO ?_)
 kspl_open hQ
 refine bj (o9 (n:=6) hf (by decide) (by decide)) ?_
 rintro d st1 ⟨form,rfl,g0,g6,f1,k1⟩
 refine hQ _ _ (aS (Bp ?_))
 clear hQ
 kspl_open hQ
 refine bj (L8 (n:=n) f1 (by omega)) ?_
 rintro d st2 ⟨X,rfl,tX,f2,k2⟩
 w_how
 refine bj (L8 (n:=n) (f2.keep (Ex.cf [.lst (X.map D.int)])) (by omega)) ?_
 rintro d st3 ⟨Y,rfl,tY,f3,k3⟩
 w_how
 refine hQ _ _ ⟨_,_,rfl,?_⟩
 clear hQ
 have C0:st3[st2.length]?=some (.lst (X.map D.int)):=k3.keep _ _ j8 (by have:=f2.lt;simp;omega)
 have two:nT st (st3 ++ [.lst (Y.map D.int)]) f st2.length st3.length n X Y:=⟨gu C0,j8,by have:=fN C0;omega,(k1.trans k2).len,((k1.trans k2).trans ((Ex.cf _).trans k3)).len,tX,tY,f3.keep (Ex.cf _),(((k1.trans k2).app _).trans k3).app _⟩
 show Ws _ _ _ _ _
 generalize (st3 ++ [O.lst (Y.map D.int)])=mY at two ⊢
 generalize st2.length=r at two ⊢
 generalize st3.length=u at two ⊢
 clear C0 tX tY f3 k3 f2 k2 f1 k1
 refine aS (xG (N:=fun δ j9=>∃ (r u:Nat) (X Y:List Int),δ=[some (.ref f),some (.int (n:Int)),some (.int form),some (.ref r),some (.ref u),none,none,none,none]/\nT st j9 f r u n X Y) (gs ?_) ?_)
 ·kspl_open hQ
  refine hQ _ _ ⟨fun _=>bO ?_,fun _=>kf ⟨r,u,X,Y,rfl,two⟩⟩
  kspl_open cJ
  rw [<- Lw]
  refine ⟨u6 (by omega),rfl,ja (by rw [dZ];simp;omega),cJ _ _ ⟨_,u,_,Y,rfl,(two.keep (((Ex.cf _).app _).app _)).xX (ag.KC (show n < 21 by omega) (by omega))⟩⟩
 rintro δ j9 ⟨r,u,X,Y,rfl,two⟩
 refine aS (xG (N:=fun δ j9=>∃ (r u:Nat) (X Y:List Int),δ=[some (.ref f),some (.int (n:Int)),some (.int form),some (.ref r),some (.ref u),none,none,none,none]/\nT st j9 f r u n X Y) (gs ?_) ?_)
 ·kspl_open hQ
  refine hQ _ _ ⟨fun _=>Bp ?_,fun _=>kf ⟨r,u,X,Y,rfl,two⟩⟩
  kspl_open cJ
  rw [<- Lw,show ((n:Int) - 0).toNat=n by omega,tK]
  refine ⟨u6 (by omega),u6 (by omega),rfl,ja (by rw [dZ];simp;omega),cJ _ _ ⟨_,_,rfl,_,_,_,_,rfl,(((two.keep (Ex.cf [.jf 0 (n:Int)])).xX (Z:=ag.upto n) (List.Perm.refl _)).keep (((Ex.cf _).app _).app _)).xY (ag.KC (show n < 21 by omega) (by omega))⟩⟩
 rintro δ Hv ⟨r,u,X,Y,rfl,two⟩
 refine aS (xG (N:=fun δ j9=>∃ (r u:Nat) (v5:Option D) (X Y:List Int),δ=[some (.ref f),some (.int (n:Int)),some (.int form),some (.ref r),some (.ref u),v5,none,none,none]/\nT st j9 f r u n X Y) (gs ?_) ?_)
 ·kspl_open hQ
  refine hQ _ _ ⟨fun _=>aS (bO ?_),fun _=>kf ⟨r,u,none,X,Y,rfl,two⟩⟩
  kspl_open cJ
  refine bj (o9 (n:=(n:Int)) two.fd (by omega) (by omega)) ?_
  rintro d p6 ⟨w,rfl,w0,w1,f7,k7⟩
  obtain ⟨wd,rfl⟩:∃ wd:Nat,w=(wd:Int) - 1:=⟨(w + 1).toNat,by omega⟩
  have t7:nT st p6 f r u n X Y:=⟨k7.keep _ _ two.hr (by have:=two.r0;simp;omega),k7.keep _ _ two.hu (by have:=two.u0;simp;omega),two.ne,two.r0,two.u0,two.tX,two.tY,f7,two.ex.trans k7⟩
  w_how
  rw [show (1:Int) + ((wd:Int) - 1)=(wd:Int) by omega]
  refine cJ _ _ (aS (bO ?_))
  clear cJ hQ
  kspl_open cJ
  rw [<- xZ]
  refine ⟨u6 (by omega),rfl,ja (by rw [dZ];simp;omega),u6 (by omega),ja (by rw [List.length_append,dZ,dZ];simp;omega),cJ _ _ (aS (bO ?_))⟩
  clear cJ
  have t8:=(t7.keep ((((((Ex.cf [.jf 1 (wd:Int)]).app [.lst (aD 1 ((wd:Int) - 1).toNat)]).app [.lst [.int 0]]).app [.lst (aD 1 ((wd:Int) - 1).toNat ++ [.int 0])]).app [.jf (wd:Int) (n:Int)]).app [.lst (aD (wd:Int) ((n:Int) - (wd:Int)).toNat)])).xX (ag.Pb (w:=wd) (show n < 21 by omega) (by omega) (by omega))
  generalize Sy:(p6 ++ _ ++ _ ++ _ ++ _ ++ _ ++ _ ++ _:Store)=jd at t8 ⊢
  generalize List.length _=r8 at t8 ⊢
  kspl_open cJ
  refine ⟨rfl,u6 (by omega),ja (by simp [dZ];omega),u6 (by omega),ja (by simp [dZ];omega),rfl,ja (by simp [dZ];omega),cJ _ _ (gs ?_)⟩
  clear cJ
  generalize Sz:(jd ++ _ ++ _ ++ _ ++ _ ++ _ ++ _ ++ _ ++ _ ++ _:Store)=Ft
  have tE:nT st Ft f r8 u n (ag.qM wd n) Y:=by rw [<- Sz];exact t8.keep (((((((((Ex.cf _).app _).app _).app _).app _).app _).app _).app _).app _)
  kspl_open hQ
  refine hQ _ _ ⟨fun hw=>?_,fun hw=>?_⟩
  ·refine bO ?_
   kspl_open cJ
   rw [show ((n:Int) - 0).toNat=n by omega,tK]
   exact ⟨u6 (by omega),cJ _ _ ⟨r8,_,_,_,_,rfl,(tE.keep ((Ex.cf _).app _)).xY (List.Perm.refl _)⟩⟩
  ·have hne:wd≠n:=fun z=>by simp [z] at hw
   have tF:=tE.xY (ag.Pc (w:=wd) (show n < 21 by omega) (by omega) (by omega))
   rw [x3 (by omega) (by omega)] at tF
   exact kf ⟨r8,_,_,_,_,rfl,tF⟩
 rintro δ p6 ⟨r,u,v5,X,Y,rfl,two⟩
 have n0:0 < n:=by omega
 refine aS (bO ?_)
 refine bE ?_
 intro bP hQ
 set_option simprocs false in simp only [bw,dS two.hr,dS two.hu]
 refine ⟨rfl,hQ _ _ (aS (bO (Mc (X:=X) (Y:=Y) two.tX two.tY n0 (by omega) rfl rfl ?_)))⟩
 clear hQ
 intro L jd vn nd hL k8
 have t8:=(two.keep k8).keep (Ex.cf [.lst (L.map D.int)])
 refine aS (y6 (fun mm δ oG=>∃ (pa:Nat) (X L:List Int) (v8:Option D),mm=L.length/\δ=[some (.ref f),some (.int (n:Int)),some (.int form),some (.ref r),some (.ref u),v5,some (cu X Y),some (.ref pa),v8]/\nT st oG f r u n X Y/\items oG pa=some (L.map D.int)/\L.length<=n/\L.Nodup/\(∀ x,x∈L↔(0<=x/\x < (n:Int)/\¬ ag.kI X Y x))) L.length (Nat.lt_of_le_of_lt vn (Nat.lt_of_le_of_lt Sx (by decide))) ⟨_,X,L,none,rfl,rfl,t8,tJ,vn,nd,hL⟩ ?_)
 rintro mm δ oG ⟨pa,X,L,v8,rfl,rfl,two,hpa,vn,nd,hL⟩
 have UE:=two.tX.length
 have yk:items (oG ++ [O.lst []]) pa=some (L.map D.int):=by
  unfold items at hpa ⊢
  cases e:oG[pa]? with
  | none=>rw [e] at hpa;cases hpa
  | some o=>rw [gu e];rw [e] at hpa;exact hpa
 refine bE ?_
 intro bP hQ
 set_option simprocs false in simp only [bw,Lu (L:=L) (M:=[]) (st:=oG ++ [O.lst []]) yk tJ]
 refine ⟨rfl,hQ _ _ ⟨fun h=>?_,fun h=>?_⟩⟩
 ·have hne:L≠[]:=by simpa using h
  clear hQ
  obtain ⟨m,L1,rfl⟩:∃ m L1,L=m :: L1:=by cases L with | nil=>exact absurd rfl hne | cons m L1=>exact ⟨m,L1,rfl⟩
  obtain ⟨m0,m1,mR⟩:=(hL m).mp List.mem_cons_self
  have t2:=two.keep (Ex.cf [O.lst []])
  generalize (oG ++ [O.lst []])=Ft at yk t2 ⊢
  refine aS (bO ?_)
  refine bE ?_
  intro bP hQ
  set_option simprocs false in simp only [bw,yk,List.map_cons]
  refine hQ _ _ (aS (nh ?_))
  clear hQ
  refine bE ?_
  intro bP hQ
  set_option simprocs false in simp only [bw,dS t2.hr,o5 (xs:=X) m0 (by omega),o5 (xs:=X) (i:=0) (by decide) (by omega)]
  refine ⟨rfl,hQ _ _ ?_⟩
  clear hQ
  have i0:j5 (X.map D.int).length 0=some 0:=AA (j:=0) (by rw [List.length_map];omega)
  have im:j5 ((X.map D.int).set 0 (.int (ag.app X m))).length m=some m.toNat:=by
   rw [List.length_set]
   have:=AA (n:=(X.map D.int).length) (j:=m.toNat) (by rw [List.length_map];omega)
   rwa [Int.toNat_of_nonneg m0] at this
  have C0:(Ft.set r (.lst ((X.map D.int).set 0 (.int (ag.app X m)))))[r]?=some (.lst ((X.map D.int).set 0 (.int (ag.app X m)))):=List.getElem?_set_self (fN t2.hr)
  have eS:((X.map D.int).set 0 (.int (ag.app X m))).set m.toNat (.int (ag.app X 0))=(ag.mX X m.toNat).map D.int:=by
   unfold ag.mX
   rw [Int.toNat_of_nonneg m0,List.map_set,List.map_set]
  refine bE ?_
  intro bP hQ
  set_option simprocs false in simp only [bw,jN t2.hr,jN C0,i0,im,eS]
  refine ⟨rfl,hQ _ _ (aS (bO ?_))⟩
  clear hQ
  have tS:=ag.wH t2.tX (m:=m.toNat) (by omega)
  have hmet:=ag.O6 t2.tX t2.tY (m:=m.toNat) (by omega) (by rw [Int.toNat_of_nonneg m0];exact mR)
  rw [Int.toNat_of_nonneg m0] at hmet
  rw [List.set_set]
  have t3:=t2.put (Z:=ag.mX X m.toNat) tS hfl
  generalize Ft.set r _=st3 at t3 ⊢
  refine bE ?_
  intro bP hQ
  set_option simprocs false in simp only [bw,dS t3.hr,dS t3.hu]
  refine ⟨rfl,hQ _ _ (bO (Mc (X:=ag.mX X m.toNat) (Y:=Y) t3.tX t3.tY n0 (by omega) rfl rfl ?_))⟩
  intro L' mY HX Me hL' k4
  refine ⟨_,?_,mY.length,ag.mX X m.toNat,L',_,rfl,rfl,(t3.keep k4).keep (Ex.cf _),tJ,HX,Me,hL'⟩
  refine ag.less (m:=m) Me (fun x hx=>?_) List.mem_cons_self (fun h=>((hL' m).mp h).2.2 hmet.1)
  obtain ⟨a1,a2,a3⟩:=(hL' x).mp hx
  exact (hL x).mpr ⟨a1,a2,fun h=>a3 (hmet.2 x h)⟩
 ·have he:L=[]:=by simpa using h
  subst he
  refine dC ?_
  kspl_open cJ
  have t2:=two.keep (Ex.cf [O.lst []])
  refine cJ _ _ ⟨X,Y,rfl,⟨t2.tX,t2.tY,fun x x0 x1=>?_⟩,t2.fd,t2.ex⟩
  exact Classical.byContradiction fun h=>nomatch (hL x).mpr ⟨x0,x1,h⟩
theorem HY {st:Store} {xs:List Int} {n:Nat} (tn:ag.Tn n xs) (hn:n<=100):Wp (se [.tup (xs.map D.int)] st) fun d st'=>d=.tup ((ag.inv xs).map D.int)/\Ex [] st st':=by
 have hlen:=tn.length
 refine fM ?_
 show Ws (EF [some (.tup (xs.map D.int)),none,none,none] st) _ _ _ _
 unfold EF
 refine aS (bO ?_)
 kspl_open hQ
 have e0:(((xs.map D.int).length:Int)).toNat=n:=by rw [List.length_map];omega
 have ez:(List.replicate n [D.int 0]).flatten=(List.replicate n (0:Int)).map D.int:=by
  induction n with
  | zero=>rfl
  | succ n ih=>simp [List.replicate_succ]
 rw [e0,ez]
 refine ⟨rfl,by rw [List.length_map];omega,ja (by simp;omega),hQ _ _ (aS (lY (lO (xs.map D.int)) (fun k δ st2=>∃ (v2 v3:Option D) (bs:List Int),δ=[some (.tup (xs.map D.int)),some (.ref (st ++ [O.lst [D.int 0]]).length),v2,v3]/\st2[(st ++ [O.lst [D.int 0]]).length]?=some (.lst (bs.map D.int))/\bs.length=n/\(∀ j,j < k->∀ x,xs[j]?=some x->bs[x.toNat]?=some (j:Int))/\Ex [] st st2) ?_ ?_ ?_ ?_))⟩
 ·kspl_open hQ
  exact hQ _ _ ⟨rfl,none,none,_,rfl,j8,by simp,fun j hj=>absurd hj (Nat.not_lt_zero _),(Ex.cf _).app _⟩
 ·rw [Be,List.length_map];omega
 ·have C1:st.length<=(st ++ [O.lst [D.int 0]]).length:=by simp
  generalize (st ++ [O.lst [D.int 0]]).length=B at C1 ⊢
  rintro k d δ st2 hd ⟨v2,v3,bs,rfl,hB,tU,tV,k2⟩
  obtain ⟨d',hd',rfl⟩:=Hu hd
  obtain ⟨x,hx,rfl⟩:=Ec hd'
  obtain ⟨x0,x1⟩:=tn.bound (List.mem_of_getElem? hx)
  have qL:=fN hx
  kspl_open hQ
  refine ⟨rfl,hQ _ _ (nh ?_)⟩
  have hix:j5 (bs.map D.int).length x=some x.toNat:=by
   have:=AA (n:=(bs.map D.int).length) (j:=x.toNat) (by rw [List.length_map];omega)
   rwa [Int.toNat_of_nonneg x0] at this
  have es:(bs.map D.int).set x.toNat (.int (k:Int))=(bs.set x.toNat (k:Int)).map D.int:=by rw [List.map_set]
  kspl_open cJ
  refine cJ _ _ ?_
  refine bE ?_
  intro HW yj
  set_option simprocs false in simp only [bw,jN hB,hix,es]
  refine yj _ _ ⟨_,_,bs.set x.toNat (k:Int),rfl,List.getElem?_set_self (fN hB),by rw [List.length_set];exact tU,fun j hj y hy=>?_,k2.loc C1⟩
  by_cases hjk:j=k
  ·subst hjk
   rw [hx] at hy
   cases hy
   rw [List.getElem?_set_self (by rw [tU];omega)]
  ·obtain ⟨y0,y1⟩:=tn.bound (List.mem_of_getElem? hy)
   rw [List.getElem?_set_ne (fun z=>?_)]
   ·exact tV j (by omega) y hy
   ·obtain ⟨h1,e1⟩:=List.getElem?_eq_some_iff.mp hx
    obtain ⟨h2,e2⟩:=List.getElem?_eq_some_iff.mp hy
    exact hjk ((List.getElem_inj tn.nodup).mp (show xs[j]=xs[k] by omega))
 ·rintro δ st2 ⟨v2,v3,bs,rfl,hB,tU,tV,k2⟩
  rw [Be,List.length_map] at tV
  have eb:bs=ag.inv xs:=by
   apply List.ext_getElem?
   intro i
   by_cases hi:i < n
   ·have hm:=tn.mem (i:=(i:Int)) (by omega) (by omega)
    have hil:=List.idxOf_lt_length_of_mem hm
    have:=tV (xs.idxOf (i:Int)) hil (i:Int) (by rw [List.getElem?_eq_getElem hil];exact congrArg some (List.getElem_idxOf hil))
    rw [Int.toNat_natCast] at this
    rw [this]
    have ea:=ag.ow (xs:=ag.inv xs) (i:=(i:Int)) (by omega) (by rw [ag.DO];omega)
    rw [Int.toNat_natCast,ag.AW (by omega) (by omega)] at ea
    exact ea.symm
   ·rw [List.getElem?_eq_none (by omega),List.getElem?_eq_none (by rw [ag.DO];omega)]
  subst eb
  refine dC ?_
  refine bE ?_
  intro bP hQ
  set_option simprocs false in simp only [bw,dS hB]
  exact hQ _ _ ⟨rfl,k2⟩
theorem SA {st:Store} {xs ys:List Int} (hb:∀ x∈xs,0<=x/\x < (ys.length:Int)) (hn:xs.length<=100):Wp (BW [.tup (xs.map D.int),.tup (ys.map D.int)] st) fun d st'=>d=.tup ((ag.qN xs ys).map D.int)/\Ex [] st st':=by
 refine fM ?_
 show Ws (Ez [some (.tup (xs.map D.int)),some (.tup (ys.map D.int))] st) _ _ _ _
 unfold Ez
 refine dC ?_
 kspl_open hQ
 refine y8 (xs.map D.int) (fun d=>.int (ag.app ys (inD d))) ?_ (by rw [List.length_map];omega) ?_ ?_
 ·kspl_open cJ
  exact cJ _ _ ⟨sd _ _,Ex.refl⟩
 ·intro d hd st1 k1
  obtain ⟨x,hx,rfl⟩:=Ee hd
  obtain ⟨x0,x1⟩:=hb x hx
  refine bE ?_
  intro kY cJ
  set_option simprocs false in simp only [bw,List.map_cons,List.map_nil,List.getD_cons_succ,List.getD_cons_zero,o5 (xs:=ys) x0 x1]
  exact cJ _ _ ⟨rfl,Ex.refl⟩
 ·intro st' k'
  rw [Ef (f:=ag.app ys) fun x hx=>rfl]
  w_how
  exact hQ _ _ ⟨rfl,k'.app _⟩
theorem SD {st:Store} {xs:List Int} {n:Nat} {i:Int} (tn:ag.Tn n xs) (hn:n<=100) (i0:0<=i) (i1:i < (n:Int)):Wp (BZ [.tup (xs.map D.int),.int i] st) fun d st'=>∃ r:List Int,d=.tup (r.map D.int)/\ag.iq xs i r/\Ex [] st st':=by
 have hlen:=tn.length
 refine fM ?_
 show Ws (EA [some (.tup (xs.map D.int)),some (.int i),none,none] st) _ _ _ _
 unfold EA
 refine aS (bO ?_)
 kspl_open hQ
 refine ⟨rfl,hQ _ _ (aS (bO ?_))⟩
 clear hQ
 refine bE ?_
 intro bP hQ
 set_option simprocs false in simp only [bw,o5 (xs:=xs) i0 (by omega)]
 refine hQ _ _ (aS (y6 (fun m δ st2=>∃ k:Nat,m=n - (k + 1)/\δ=[some (.tup (xs.map D.int)),some (.int i),some (.ref st.length),some (.int (ag.aM xs i (k + 1)))]/\st2[st.length]?=some (.lst ((ag.row xs i k).map D.int))/\ag.NB xs i k/\Ex [] st st2) (n - 1) (Nat.lt_of_le_of_lt (show n - 1<=100 by omega) (by decide)) ⟨0,rfl,rfl,j8,fun j h1 h2=>by omega,Ex.cf _⟩ ?_))
 clear hQ
 rintro m δ st2 ⟨k,rfl,rfl,hL,nb,k2⟩
 have hrl:=tn.kd i0 i1 nb
 kspl_open hQ
 refine hQ _ _ ⟨fun hb=>?_,fun hb=>?_⟩
 ·have hb:ag.aM xs i (k + 1)≠i:=by simpa using hb
  have C2:ag.NB xs i (k + 1):=fun j h1 h2=>by
   by_cases hj:j<=k
   ·exact nb j h1 hj
   ·have:j=k + 1:=by omega
    rw [this];exact hb
  have hle:=tn.kd i0 i1 C2
  have hit:=tn.aM i0 i1 (k + 1)
  refine aS (rZ ?_)
  refine bE ?_
  intro kY cJ
  set_option simprocs false in simp only [bw,jN hL]
  refine ⟨qX (by rw [dS hL];rfl),ja (by rw [List.length_map,ag.rM];omega),cJ _ _ (bO ?_)⟩
  clear cJ
  refine bE ?_
  intro kY cJ
  set_option simprocs false in simp only [bw,o5 (xs:=xs) hit.1 (by omega)]
  refine cJ _ _ ⟨n - (k + 1 + 1),by omega,k + 1,rfl,rfl,?_,C2,k2.loc (Nat.le_refl _)⟩
  rw [List.getElem?_set_self (fN hL),ag.KA,List.map_append];rfl
 ·have hb:ag.aM xs i (k + 1)=i:=by simpa using hb
  refine dC ?_
  refine bE ?_
  intro kY cJ
  set_option simprocs false in simp only [bw,dS hL]
  exact cJ _ _ ⟨_,rfl,⟨k,rfl,nb,hb⟩,k2⟩
theorem SE {st:Store} {xs:List Int} {n:Nat} (tn:ag.Tn n xs) (hn:n<=100):Wp (B1 [.tup (xs.map D.int)] st) fun d st'=>∃ rs:List (List Int),d=QU rs/\ag.uO xs (ag.upto n) rs/\(∀ r∈rs,r.length<=n/\∀ x∈r,0<=x/\x < (n:Int))/\rs.length<=n/\Ex [] st st':=by
 have hlen:=tn.length
 refine fM ?_
 show Ws (EC [some (.tup (xs.map D.int)),none,none,none,none,none] st) _ _ _ _
 unfold EC
 refine aS (bO ?_)
 kspl_open hQ
 refine ⟨rfl,hQ _ _ (aS (bO ?_))⟩
 clear hQ
 kspl_open hQ
 have eS:(st ++ [O.lst []]).length=st.length + 1:=by simp
 rw [eS]
 refine hQ _ _ (aS (lY (aD 0 n) (fun k δ st2=>∃ (v3 v4 v5:Option D) (rs:List (List Int)) (kvs:List (Key×D)),δ=[some (.tup (xs.map D.int)),some (.ref st.length),some (.ref (st.length + 1)),v3,v4,v5]/\st2[st.length]?=some (.lst (rs.map fun r=>.tup (r.map D.int)))/\st2[st.length + 1]?=some (.dct kvs) /\
   (∀ rest,ag.uO xs (ag.from' n k (fun x=>(dR kvs (Sum.inl x:Key)).isSome)) rest->ag.uO xs (ag.upto n) (rs ++ rest))/\(∀ r∈rs,r.length<=n/\∀ x∈r,0<=x/\x < (n:Int))/\rs.length<=k/\kvs.length<=k * n/\Ex [] st st2) ?_ (by rw [dZ];omega) ?_ ?_))
 ·clear hQ
  kspl_open hQ
  rw [List.length_map,hlen]
  refine ⟨by omega,hQ _ _ ⟨by rw [Int.toNat_natCast],none,none,none,[],[],rfl,gu j8,by rw [<- eS];exact j8,fun rest hrest=>?_,(fun r hr=>nomatch hr),Nat.le_refl _,Nat.zero_le _,(Ex.cf _).app _⟩⟩
  have e:ag.from' n 0 (fun x=>(dR ([]:List (Key×D)) (Sum.inl x:Key)).isSome)=ag.upto n:=ag.O3 n
  rw [e] at hrest
  exact hrest
 ·rintro k d δ st2 hd ⟨v3,v4,v5,rs,kvs,rfl,Fu,yl,vo,hb,hrl,qL,k2⟩
  have hk:=fN hd
  rw [dZ] at hk
  rw [tH hk,Int.zero_add] at hd
  cases hd
  have hkn:k * n<=10000:=Nat.le_trans (Nat.mul_le_mul (show k<=100 by omega) hn) (by decide)
  clear hQ
  kspl_open hQ
  refine hQ _ _ (gs ?_)
  clear hQ
  refine bE ?_
  intro bP hQ
  set_option simprocs false in simp only [bw,Eg yl,LB]
  have hfs:=ag.O1 hk (fun x=>(dR kvs (Sum.inl x:Key)).isSome)
  refine hQ _ _ ⟨fun hs=>?_,fun hs=>?_⟩
  ·have HZ:(dR kvs (Sum.inl (k:Int):Key)).isSome=false:=by simpa using hs
   simp only [HZ,Bool.false_eq_true,if_false] at hfs
   clear hQ
   refine aS (bO ?_)
   kspl_open hQ
   refine bj (SD tn hn (i:=(k:Int)) (by omega) (by omega)) ?_
   rintro d st3 ⟨r,rfl,nt,k3⟩
   refine hQ _ _ (aS (rZ ?_))
   clear hQ
   have Ic:=k3.keep _ _ Fu (by simp)
   have SF:=k3.keep _ _ yl (by simp)
   have Ie:=nt.len tn (by omega) (by omega)
   have hrb:=nt.bound tn (by omega) (by omega)
   refine bE ?_
   intro bP hQ
   set_option simprocs false in simp only [bw,jN Ic]
   refine ⟨qX (by rw [dS Ic];rfl),ja (by rw [List.length_map];omega),hQ _ _ ?_⟩
   clear hQ
   refine lY (r.map D.int) (fun j δ j9=>∃ (v5:Option D) (kvs':List (Key×D)),δ=[some (.tup (xs.map D.int)),some (.ref st.length),some (.ref (st.length + 1)),some (.int (k:Int)),some (.tup (r.map D.int)),v5]/\j9[st.length]?=some (.lst ((rs ++ [r]).map fun r=>.tup (r.map D.int)))/\j9[st.length + 1]?=some (.dct kvs') /\
     (∀ x:Int,(dR kvs' (Sum.inl x:Key)).isSome=((dR kvs (Sum.inl x:Key)).isSome || (r.take j).contains x))/\kvs'.length<=kvs.length + j/\Ex [] st j9) ?_ (by rw [List.length_map];omega) ?_ ?_
   ·kspl_open hQ
    refine hQ _ _ ⟨rfl,v5,kvs,rfl,?_,?_,fun x=>by simp,by omega,(k2.trans k3).loc (Nat.le_refl _)⟩
    ·rw [List.getElem?_set_self (fN Ic),List.map_append];rfl
    ·rw [List.getElem?_set_ne (by omega)];exact SF
   ·rintro j y δ j9 hj ⟨v5,kvs',rfl,Ig,Fv,Fw,C3,k5⟩
    obtain ⟨x,hx,rfl⟩:=Ec hj
    obtain ⟨hjl,ex⟩:=List.getElem?_eq_some_iff.mp hx
    subst ex
    kspl_open hQ
    refine hQ _ _ (Qz ?_)
    clear hQ
    kspl_open hQ
    refine hQ _ _ ?_
    kspl_open cJ
    refine cJ _ _ ?_
    kspl_open yj
    refine yj _ _ ⟨_,kvs',_,rfl,Eg Fv,LB _,ja (by omega),_,_,rfl,?_,List.getElem?_set_self (fN Fv),fun x=>?_,?_,k5.loc (by omega)⟩
    ·rw [List.getElem?_set_ne (by omega)];exact Ig
    ·rw [QY,Q0 hjl]
     by_cases hx:x=r[j]
     ·subst hx;simp
     ·rw [if_neg (by intro z;exact hx (Sum.inl.inj z)),Fw x]
      have:(x == r[j])=false:=beq_eq_false_iff_ne.mpr hx
      rw [this,Bool.or_false]
    ·have:=QZ kvs' (Sum.inl r[j]:Key) (.bl true);omega
   ·rintro δ j9 ⟨v5,kvs',rfl,Ig,Fv,Fw,C3,k5⟩
    rw [List.length_map] at C3 Fw
    refine ⟨_,_,_,rs ++ [r],kvs',rfl,Ig,Fv,fun rest hrest=>?_,fun r' hr'=>?_,by rw [List.length_append];simp;omega,by rw [Nat.succ_mul];omega,k5⟩
    ·have e:(fun x=>(dR kvs' (Sum.inl x:Key)).isSome)=fun x=>((dR kvs (Sum.inl x:Key)).isSome || r.contains x):=by
      funext x;rw [Fw x,List.take_length]
     rw [e,<- ag.O2] at hrest
     rw [List.append_assoc]
     refine vo _ ?_
     rw [hfs]
     refine .cons nt ?_
     have e2:ag.out ((k:Int) :: ag.from' n (k + 1) (fun x=>(dR kvs (Sum.inl x:Key)).isSome)) r=ag.out (ag.from' n (k + 1) (fun x=>(dR kvs (Sum.inl x:Key)).isSome)) r:=by
      unfold ag.out
      rw [List.filter_cons,if_neg (by simp [nt.mem])]
     rw [e2]
     exact hrest
    ·rcases List.mem_append.mp hr' with h | h
     ·exact hb r' h
     ·have:r'=r:=by simpa using h
      subst this
      exact ⟨Ie,hrb⟩
  ·have HZ:(dR kvs (Sum.inl (k:Int):Key)).isSome=true:=by simpa using hs
   simp only [HZ,if_true] at hfs
   exact kf ⟨_,_,_,rs,kvs,rfl,Fu,yl,fun rest hrest=>vo rest (by rw [hfs];exact hrest),hb,by omega,by rw [Nat.succ_mul];omega,k2⟩
 ·rintro δ st2 ⟨v3,v4,v5,rs,kvs,rfl,Fu,yl,vo,hb,hrl,qL,k2⟩
  rw [dZ] at vo hrl
  refine dC ?_
  clear hQ
  refine bE ?_
  intro bP hQ
  set_option simprocs false in simp only [bw,dS Fu]
  refine hQ _ _ ⟨rs,rfl,?_,hb,hrl,k2⟩
  have:=vo [] (by rw [ag.O0];exact .nil)
  rwa [List.append_nil] at this
theorem SG {rs:List (List Int)} {m:Nat} {d:D} (h:(rs.map fun r=>D.tup (r.map D.int))[m]?=some d):∃ r,rs[m]?=some r/\d=.tup (r.map D.int):=by
 rw [List.getElem?_map] at h
 obtain ⟨r,h1,h2⟩:=Option.map_eq_some_iff.mp h
 exact ⟨r,h1,h2.symm⟩
theorem Mf {xs:List Int} {i:Int} {m:Nat} {j:Int} (h0:0<=j) (h1:j < ((m + 1:Nat):Int)):gj ((ag.row xs i m).map D.int) j=some (.int (ag.aM xs i j.toNat)):=by
 have e:((ag.row xs i m).map D.int)[j.toNat]?=some (.int (ag.aM xs i j.toNat)):=by
  unfold ag.row
  rw [List.map_map,List.getElem?_map,List.getElem?_range (by omega)];rfl
 have:=Du e
 rwa [Int.toNat_of_nonneg h0] at this
theorem Mg {bs:List Int} {m v x:Int} (h0:0<=m) (h1:m < (bs.length:Int)) (x0:0<=x):ag.app (bs.set m.toNat v) x=if x=m then v else ag.app bs x:=by
 have:=ag.GW (xs:=bs) (m:=m.toNat) (v:=v) (x:=x) (by omega) x0
 rw [Int.toNat_of_nonneg h0] at this
 exact this
theorem SH {st:Store} {xs:List Int} {n:Nat} {k:Int} (tn:ag.Tn n xs) (hn:n<=100):Wp (B3 [.tup (xs.map D.int),.int k] st) fun d st'=>d=.tup ((ag.pJ xs k).map D.int)/\Ex [] st st':=by
 have hlen:=tn.length
 refine fM ?_
 show Ws (ED [some (.tup (xs.map D.int)),some (.int k),none,none,none,none] st) _ _ _ _
 unfold ED
 refine aS (bO ?_)
 kspl_open hQ
 have e0:(((xs.map D.int).length:Int)).toNat=n:=by rw [List.length_map];omega
 have ez:(List.replicate n [D.int 0]).flatten=(List.replicate n (0:Int)).map D.int:=by
  clear hlen tn hn e0
  induction n with
  | zero=>rfl
  | succ n ih=>simp [List.replicate_succ]
 rw [e0,ez]
 have C1:st.length<=(st ++ [O.lst [D.int 0]]).length:=by simp
 refine ⟨rfl,by rw [List.length_map];omega,ja (by simp;omega),hQ _ _ ?_⟩
 clear hQ
 have Ih:(st ++ [O.lst [D.int 0]] ++ [O.lst ((List.replicate n (0:Int)).map D.int)])[(st ++ [O.lst [D.int 0]]).length]?=some (.lst ((List.replicate n (0:Int)).map D.int)):=j8
 have kB:Ex [] st (st ++ [O.lst [D.int 0]] ++ [O.lst ((List.replicate n (0:Int)).map D.int)]):=(Ex.cf _).app _
 generalize (st ++ [O.lst [D.int 0]] ++ [O.lst ((List.replicate n (0:Int)).map D.int)])=SI at Ih kB ⊢
 generalize (st ++ [O.lst [D.int 0]]).length=B at C1 Ih ⊢
 show Ws _ _ _ _ _
 obtain ⟨d,st2,e2,rs,rfl,vo,hrb,hrl,k2⟩:=SE (st:=SI) tn hn
 refine aS (lY (rs.map fun r=>.tup (r.map D.int)) (fun m δ st3=>∃ (v3 v4 v5:Option D) (bs:List Int),δ=[some (.tup (xs.map D.int)),some (.int k),some (.ref B),v3,v4,v5]/\st3[B]?=some (.lst (bs.map D.int))/\bs.length=n/\(∀ j,j < m->∀ r,rs[j]?=some r->∀ x∈r,ag.app bs x=ag.pw xs k x)/\Ex [] st st3) ?_ (by rw [List.length_map];omega) ?_ ?_)
 ·kspl_open hQ
  refine ⟨_,_,e2,?_⟩
  exact ⟨_,rfl,hQ _ _ ⟨rfl,none,none,none,_,rfl,k2.keep _ _ Ih (by simp),by simp,fun j hj=>absurd hj (Nat.not_lt_zero _),kB.trans k2⟩⟩
 ·rintro m d δ st3 hm ⟨v3,v4,v5,bs,rfl,Ii,tU,tV,k3⟩
  obtain ⟨r,hr,rfl⟩:=SG hm
  obtain ⟨i,hi,nt⟩:=vo.all.1 r (List.mem_of_getElem? hr)
  obtain ⟨i0,i1⟩:=ag.p7.mp hi
  obtain ⟨M,rfl,nb,bk⟩:=nt.ex
  have hM:=tn.kd i0 i1 nb
  kspl_open hQ
  refine hQ _ _ (lY (lO ((ag.row xs i M).map D.int)) (fun t δ mY=>∃ (v4 v5:Option D) (cs:List Int),δ=[some (.tup (xs.map D.int)),some (.int k),some (.ref B),some (.tup ((ag.row xs i M).map D.int)),v4,v5]/\mY[B]?=some (.lst (cs.map D.int))/\cs.length=n/\(∀ x:Int,0<=x->x < (n:Int)->ag.app bs x=ag.pw xs k x->ag.app cs x=ag.pw xs k x)/\(∀ j,j < t->ag.app cs (ag.aM xs i j)=ag.pw xs k (ag.aM xs i j))/\Ex [] st mY) ?_ ?_ ?_ ?_)
  ·clear hQ
   kspl_open hQ
   exact hQ _ _ ⟨rfl,v4,v5,bs,rfl,Ii,tU,fun _ _ _ h=>h,fun j hj=>absurd hj (Nat.not_lt_zero _),k3⟩
  ·rw [Be,List.length_map,ag.rM];omega
  ·rintro t d δ mY hd ⟨v4,v5,cs,rfl,Fx,hcl,hcs,hct,k4⟩
   obtain ⟨d',hd',rfl⟩:=Hu hd
   obtain ⟨y,hy,rfl⟩:=Ec hd'
   have Mh:=fN hy
   rw [ag.rM] at Mh
   have ey:y=ag.aM xs i t:=by
    unfold ag.row at hy
    rw [List.getElem?_map,List.getElem?_range Mh] at hy
    exact (Option.some.inj hy).symm
   subst ey
   obtain ⟨x0,x1⟩:=tn.aM i0 i1 t
   have hL:(0:Int) < ((M + 1:Nat):Int):=by omega
   have m0:=Int.emod_nonneg ((t:Int) + k) (Int.ne_of_gt hL)
   have m1:=Int.emod_lt_of_pos ((t:Int) + k) hL
   have eL:((((ag.row xs i M).map D.int).length:Nat):Int)=((M + 1:Nat):Int):=by rw [List.length_map,ag.rM]
   have hix:j5 (cs.map D.int).length (ag.aM xs i t)=some (ag.aM xs i t).toNat:=by
    have:=AA (n:=(cs.map D.int).length) (j:=(ag.aM xs i t).toNat) (by rw [List.length_map];omega)
    rwa [Int.toNat_of_nonneg x0] at this
   have es:∀ v:Int,(cs.map D.int).set (ag.aM xs i t).toNat (.int v)=(cs.set (ag.aM xs i t).toNat v).map D.int:=fun v=>by rw [List.map_set]
   clear hQ
   kspl_open hQ
   refine ⟨rfl,hQ _ _ (nh ?_)⟩
   clear hQ
   refine bE ?_
   intro bP hQ
   set_option simprocs false in simp only [bw,eL,Mf m0 m1]
   refine ⟨hL,hQ _ _ ?_⟩
   clear hQ
   refine bE ?_
   intro bP hQ
   set_option simprocs false in simp only [bw,jN Fx,hix,es]
   have hat:=tn.wI x0 x1 (tn.wG i0 i1 nb bk t k)
   refine hQ _ _ ⟨_,_,_,rfl,List.getElem?_set_self (fN Fx),by rw [List.length_set];exact hcl,fun x h0 h1 h=>?_,fun j hj=>?_,k4.loc C1⟩
   ·rw [Mg x0 (by omega) h0]
    split
    ·next e=>rw [e];exact hat
    ·exact hcs x h0 h1 h
   ·obtain ⟨y0,y1⟩:=tn.aM i0 i1 j
    rw [Mg x0 (by omega) y0]
    split
    ·next e=>rw [e];exact hat
    ·next e =>
     by_cases SJ:j=t
     ·rw [SJ] at e;exact absurd rfl e
     ·exact hct j (by omega)
  ·rintro δ mY ⟨v4,v5,cs,rfl,Fx,hcl,hcs,hct,k4⟩
   rw [Be,List.length_map,ag.rM] at hct
   refine ⟨_,_,_,cs,rfl,Fx,hcl,fun j hj r hr2 x hx=>?_,k4⟩
   by_cases SK:j=m
   ·subst SK
    rw [hr] at hr2
    cases hr2
    obtain ⟨jj,UG,rfl⟩:=ag.DN.mp hx
    exact hct jj (by omega)
   ·obtain ⟨b0,b1⟩:=(hrb r (List.mem_of_getElem? hr2)).2 x hx
    exact hcs x b0 b1 (tV j (by omega) r hr2 x hx)
 ·rintro δ st3 ⟨v3,v4,v5,bs,rfl,Ii,tU,tV,k3⟩
  rw [List.length_map] at tV
  have e:bs=ag.pJ xs k:=by
   refine ag.DP (n:=n) tU (by rw [ag.DR];exact hlen) fun s s0 s1=>?_
   rw [ag.AY s0 (by omega)]
   obtain ⟨r,hr',hx⟩:=vo.all.2 s (ag.p7.mpr ⟨s0,s1⟩)
   obtain ⟨j,hj,ej⟩:=List.getElem_of_mem hr'
   exact tV j hj r (by rw [List.getElem?_eq_getElem hj,ej]) s hx
  subst e
  refine dC ?_
  refine bE ?_
  intro bP hQ
  set_option simprocs false in simp only [bw,dS Ii]
  exact hQ _ _ ⟨rfl,k3⟩
theorem SM {st:Store} {xs ys:List Int} {n:Nat} {k:Int} (tx:ag.Tn n xs) (ty:ag.Tn n ys) (hn:n<=100):Wp (B6 [cu xs ys,.int k] st) fun d st'=>d=cu xs (ag.shr xs ys k)/\Ex [] st st':=by
 refine fM ?_
 show Ws (EE [some (cu xs ys),some (.int k)] st) _ _ _ _
 unfold EE cu
 refine dC ?_
 have tp:=tx.pJ (-k)
 kspl_open hQ
 refine bj (SH (k:=-k) tx hn) ?_
 rintro d st1 ⟨rfl,k1⟩
 refine bj (SA (xs:=ag.pJ xs (-k)) (ys:=ys) (fun x hx=>by rw [ty.length];exact tp.bound hx) (by rw [tp.length];exact hn)) ?_
 rintro d st2 ⟨rfl,k2⟩
 exact ⟨rfl,hQ _ _ ⟨rfl,k1.trans k2⟩⟩
theorem Mi {st:Store} {xs ys:List Int} {n:Nat} (tx:ag.Tn n xs) (ty:ag.Tn n ys) (hn:n<=100):Wp (tQ [cu xs ys] st) fun d st'=>d=cu (ag.inv ys) xs/\Ex [] st st':=by
 refine fM ?_
 show Ws (EH [some (cu xs ys)] st) _ _ _ _
 unfold EH cu
 refine dC ?_
 kspl_open hQ
 refine bj (HY ty hn) ?_
 rintro d st1 ⟨rfl,k1⟩
 exact ⟨rfl,hQ _ _ ⟨rfl,k1⟩⟩
def oJ:Nat->Str
 | 0=>"r"
 | 1=>"u"
 | 2=>"l"
 | _=>"d"
def stepT (xs ys:List Int):Nat->List Int
 | 0=>xs
 | 1=>ys
 | 2=>ag.inv xs
 | _=>ag.inv ys
def Ij (xs ys:List Int) (s:Int):Nat->Int
 | 0=>ag.app xs s
 | 1=>ag.app ys s
 | 2=>ag.app (ag.inv xs) s
 | _=>ag.app (ag.inv ys) s
def nY (xs ys:List Int):List (Key×D):=[(.inr "r",.tup (xs.map D.int)),(.inr "l",.tup ((ag.inv xs).map D.int)),(.inr "u",.tup (ys.map D.int)),(.inr "d",.tup ((ag.inv ys).map D.int))]
theorem Mj (xs ys:List Int) {j:Nat} (hj:j < 4):dR (nY xs ys) (.inr (oJ j))=some (.tup ((stepT xs ys j).map D.int)):=by
 have c:j=0\/j=1\/j=2\/j=3:=by omega
 rcases c with rfl | rfl | rfl | rfl <;> rfl
theorem SN {st:Store} {xs ys:List Int} {n:Nat} (tx:ag.Tn n xs) (ty:ag.Tn n ys) (hn:n<=100):Wp (Cc [cu xs ys] st) fun d st'=>d=.ref st.length/\st'[st.length]?=some (.dct (nY xs ys))/\Ex [] st st':=by
 refine fM ?_
 show Ws (EM [some (cu xs ys)] st) _ _ _ _
 unfold EM cu
 refine dC ?_
 kspl_open hQ
 refine bj (HY (st:=st ++ [O.dct []]) tx hn) ?_
 rintro d st1 ⟨rfl,k1⟩
 refine bj (HY (st:=st1) ty hn) ?_
 rintro d st2 ⟨rfl,k2⟩
 have h2:=(k1.trans k2).keep _ _ j8 (by simp)
 refine ⟨h2,nY xs ys,rfl,(show 4<=15 by decide),hQ _ _ ⟨rfl,?_,?_⟩⟩
 ·rw [List.getElem?_set_self (fN h2)];rfl
 ·exact (((Ex.cf _).trans k1).trans k2).loc (Nat.le_refl _)
theorem Ik {j:Nat} (hj:j < 4):(!(Builtin.Str.occurrences "ud" (oJ j) 0 (Str.length "ud") 1).isEmpty)=decide (j=1\/j=3):=by
 have c:j=0\/j=1\/j=2\/j=3:=by omega
 rcases c with rfl | rfl | rfl | rfl <;> decide +kernel
theorem tW {j:Nat} (hj:j < 4):(!(Builtin.Str.occurrences "ru" (oJ j) 0 (Str.length "ru") 1).isEmpty)=decide (j=0\/j=1):=by
 have c:j=0\/j=1\/j=2\/j=3:=by omega
 rcases c with rfl | rfl | rfl | rfl <;> decide +kernel
theorem Fy {st:Store} {Q:D->Store->Prop} {xs:List Int} {v:Int} (h:v∈xs):Wp (iy (.tup (xs.map D.int)) [.int v] st) Q↔Q (.int (xs.idxOf v:Int)) st:=by
 rw [Ln]
 constructor
 ·rintro ⟨ns,j,h1,h2,q⟩
  rw [HA] at h1
  cases h1
  rw [Lx h] at h2
  cases h2
  exact q
 ·intro q
  exact ⟨xs,_,HA xs,Lx h,q⟩
theorem Mk {st:Store} {xs ys:List Int} {n:Nat} {s:Int} {j:Nat} (tx:ag.Tn n xs) (ty:ag.Tn n ys) (s0:0<=s) (s1:s < (n:Int)) (hj:j < 4):Wp (CN [cu xs ys,.int s,.str (oJ j)] st) fun d st'=>d=.int (Ij xs ys s j)/\Ex [] st st':=by
 have hlx:=tx.length
 have HU:=ty.length
 refine fM ?_
 show Ws (Fg [some (cu xs ys),some (.int s),some (.str (oJ j)),none] st) _ _ _ _
 unfold Fg cu
 refine aS (bO ?_)
 refine bE ?_
 intro bP hQ
 set_option simprocs false in simp only [bw,BD,Ik hj]
 have c:j=0\/j=1\/j=2\/j=3:=by omega
 rcases c with rfl | rfl | rfl | rfl
 ·refine ⟨_,r9 _ _,?_⟩
  refine hQ _ _ (aS (gs ?_))
  clear hQ
  refine bE ?_
  intro bP hQ
  set_option simprocs false in simp only [bw,BD,tW (j:=0) (by decide)]
  refine hQ _ _ ⟨fun _=>dC ?_,fun h=>absurd h (by decide)⟩
  clear hQ
  refine bE ?_
  intro bP hQ
  set_option simprocs false in simp only [bw,o5 (xs:=xs) s0 (by omega)]
  exact hQ _ _ ⟨rfl,Ex.refl⟩
 ·refine ⟨_,qY _ _ _,?_⟩
  refine hQ _ _ (aS (gs ?_))
  clear hQ
  refine bE ?_
  intro bP hQ
  set_option simprocs false in simp only [bw,BD,tW (j:=1) (by decide)]
  refine hQ _ _ ⟨fun _=>dC ?_,fun h=>absurd h (by decide)⟩
  clear hQ
  refine bE ?_
  intro bP hQ
  set_option simprocs false in simp only [bw,o5 (xs:=ys) s0 (by omega)]
  exact hQ _ _ ⟨rfl,Ex.refl⟩
 ·refine ⟨_,r9 _ _,?_⟩
  refine hQ _ _ (aS (gs ?_))
  clear hQ
  refine bE ?_
  intro bP hQ
  set_option simprocs false in simp only [bw,BD,tW (j:=2) (by decide)]
  refine hQ _ _ ⟨fun h=>absurd h (by decide),fun _=>kf (dC ?_)⟩
  clear hQ
  refine bE ?_
  intro bP hQ
  set_option simprocs false in simp only [bw,Ea,Fy (tx.mem s0 s1)]
  exact hQ _ _ ⟨by rw [<- ag.AW s0 (by omega)];rfl,Ex.refl⟩
 ·refine ⟨_,qY _ _ _,?_⟩
  refine hQ _ _ (aS (gs ?_))
  clear hQ
  refine bE ?_
  intro bP hQ
  set_option simprocs false in simp only [bw,BD,tW (j:=3) (by decide)]
  refine hQ _ _ ⟨fun h=>absurd h (by decide),fun _=>kf (dC ?_)⟩
  clear hQ
  refine bE ?_
  intro bP hQ
  set_option simprocs false in simp only [bw,Ea,Fy (ty.mem s0 s1)]
  exact hQ _ _ ⟨by rw [<- ag.AW s0 (by omega)];rfl,Ex.refl⟩
theorem Ml {xs:List Int} {i:Int} {m:Nat}:gj ((ag.row xs i m).map D.int) (-1)=some (.int (ag.aM xs i m)):=by
 have hl:((ag.row xs i m).map D.int).length=m + 1:=by rw [List.length_map,ag.rM]
 unfold gj j5
 rw [if_neg (by decide),hl,if_pos (by omega),Option.bind_some,show ((-1:Int) + ((m + 1:Nat):Int)).toNat=m by omega]
 unfold ag.row
 rw [List.map_map,List.getElem?_map,List.getElem?_range (by omega)];rfl
theorem SO {st:Store} {xs:List Int} {n:Nat} {s k:Int} (tn:ag.Tn n xs) (hn:n<=100) (s0:0<=s) (s1:s < (n:Int)):Wp (CS [.tup (xs.map D.int),.int s,.int k] st) fun d st'=>d=.int (ag.pw xs k s)/\Ex [] st st':=by
 have hlen:=tn.length
 refine fM ?_
 show Ws (Fi [some (.tup (xs.map D.int)),some (.int s),some (.int k),none] st) _ _ _ _
 unfold Fi
 refine aS (xG (N:=fun δ st1=>∃ (zs:List Int) (j:Nat),δ=[some (.tup (zs.map D.int)),some (.int s),some (.int (j:Int)),none]/\ag.Tn n zs/\ag.aM zs s j=ag.pw xs k s/\Ex [] st st1) (gs ?_) ?_)
 ·kspl_open hQ
  refine hQ _ _ ⟨fun h=>?_,fun h=>kf ⟨xs,k.toNat,?_,tn,?_,Ex.refl⟩⟩
  ·have h:=of_decide_eq_true h
   clear hQ
   refine aS (bO ?_)
   kspl_open hQ
   refine y8 (aD 0 n) (fun d=>.int (xs.idxOf (inD d):Int)) ?_ (by rw [dZ];omega) ?_ ?_
   ·kspl_open cJ
    rw [List.length_map,hlen]
    exact ⟨by omega,cJ _ _ ⟨by rw [Int.toNat_natCast];exact sd _ _,Ex.refl⟩⟩
   ·intro d hd p6 k7
    rw [tK] at hd
    obtain ⟨x,hx,rfl⟩:=Ee hd
    obtain ⟨x0,x1⟩:=ag.p7.mp hx
    refine bE ?_
    intro kY cJ
    set_option simprocs false in simp only [bw,List.map_cons,List.map_nil,List.getD_cons_succ,List.getD_cons_zero,Ea,Fy (tn.mem x0 x1)]
    exact cJ _ _ ⟨rfl,Ex.refl⟩
   ·intro p6 k7
    have e:(aD 0 n).map (fun d=>D.int (xs.idxOf (inD d):Int))=(ag.inv xs).map D.int:=by
     rw [tK,Ef (f:=fun x=>(xs.idxOf x:Int)) fun x hx=>rfl]
     unfold ag.inv
     rw [hlen]
    rw [e]
    w_how
    refine hQ _ _ (bO ?_)
    clear hQ
    kspl_open hQ
    refine hQ _ _ ⟨ag.inv xs,(-k).toNat,?_,tn.cQ,?_,k7.app _⟩
    ·rw [show (0:Int) - k=(((-k).toNat:Nat):Int) by omega];rfl
    ·unfold ag.pw;rw [if_neg (by omega)]
  ·have h:=of_decide_eq_false h
   rw [Int.toNat_of_nonneg (by omega)]
  ·have h:=of_decide_eq_false h
   unfold ag.pw;rw [if_pos (by omega)]
 rintro δ st1 ⟨zs,j,rfl,tz,ej,k1⟩
 have Ma:=tz.length
 refine aS (bO ?_)
 kspl_open hQ
 refine ⟨rfl,hQ _ _ (aS (y6 (fun m δ st2=>∃ k:Nat,m=n - (k + 1)/\δ=[some (.tup (zs.map D.int)),some (.int s),some (.int (j:Int)),some (.ref st1.length)]/\st2[st1.length]?=some (.lst ((ag.row zs s k).map D.int))/\ag.NB zs s k/\Ex [] st1 st2) (n - 1) (Nat.lt_of_le_of_lt (show n - 1<=100 by omega) (by decide)) ⟨0,rfl,rfl,j8,fun j h1 h2=>by omega,Ex.cf _⟩ ?_))⟩
 clear hQ
 rintro m δ st2 ⟨k',rfl,rfl,hL,nb,k2⟩
 have hrl:=tz.kd s0 s1 nb
 obtain ⟨y0,y1⟩:=tz.aM s0 s1 k'
 refine bE ?_
 intro bP hQ
 set_option simprocs false in simp only [bw,dS hL,Ml,o5 (xs:=zs) y0 (by omega)]
 refine hQ _ _ ⟨fun hb=>?_,fun hb=>?_⟩
 ·have hb:ag.aM zs s (k' + 1)≠s:=by show ag.app zs (ag.aM zs s k')≠s;simpa using hb
  have C2:ag.NB zs s (k' + 1):=fun j h1 h2=>by
   by_cases hj:j<=k'
   ·exact nb j h1 hj
   ·have:j=k' + 1:=by omega
    rw [this];exact hb
  have hle:=tz.kd s0 s1 C2
  refine rZ ?_
  refine bE ?_
  intro kY cJ
  set_option simprocs false in simp only [bw,dS hL,Ml,o5 (xs:=zs) y0 (by omega),jN hL]
  refine ⟨qX (by rw [dS hL];rfl),ja (by rw [List.length_map,ag.rM];omega),cJ _ _ ⟨n - (k' + 1 + 1),by omega,k' + 1,rfl,rfl,?_,C2,k2.loc (Nat.le_refl _)⟩⟩
  rw [List.getElem?_set_self (fN hL),ag.KA,List.map_append];rfl
 ·have hb:ag.aM zs s (k' + 1)=s:=by show ag.app zs (ag.aM zs s k')=s;simpa using hb
  refine dC ?_
  have hpos:(0:Int) < ((k' + 1:Nat):Int):=by omega
  have eL:((((ag.row zs s k').map D.int).length:Nat):Int)=((k' + 1:Nat):Int):=by rw [List.length_map,ag.rM]
  refine bE ?_
  intro kY cJ
  set_option simprocs false in simp only [bw,dS hL,eL,Mf (Int.emod_nonneg (j:Int) (Int.ne_of_gt hpos)) (Int.emod_lt_of_pos (j:Int) hpos)]
  refine ⟨hpos,cJ _ _ ⟨?_,k1.trans k2⟩⟩
  rw [<- ej,show ((j:Int) % ((k' + 1:Nat):Int)).toNat=j % (k' + 1) by omega,ag.KH hb]
theorem SQ {st:Store} {xs ys:List Int} {n:Nat} {k:Int} (tx:ag.Tn n xs) (ty:ag.Tn n ys) (hn:n<=100):Wp (yg [cu xs ys,.tup [.str "s",.int k]] st) fun d st'=>d=cu xs (ag.shr xs ys k)/\Ex [] st st':=by
 have hlx:=tx.length
 have HU:=ty.length
 refine fM ?_
 show Ws (zq [some (cu xs ys),some (.tup [.str "s",.int k]),none,none,none] st) _ _ _ _
 unfold zq cu
 refine aS (nh ?_)
 kspl_open hQ
 refine hQ _ _ ?_
 clear hQ
 kspl_open hQ
 refine ⟨rfl,hQ _ _ (aS (gs ?_))⟩
 clear hQ
 kspl_open hQ
 refine hQ _ _ ⟨fun _=>dC ?_,fun h=>absurd h (by simp)⟩
 clear hQ
 kspl_open hQ
 refine y8 (aD 0 n) (fun d=>.int (ag.app ys (ag.pw xs (-k) (inD d)))) ?_ (by rw [dZ];omega) ?_ ?_
 ·kspl_open cJ
  rw [List.length_map,HU]
  exact ⟨by omega,cJ _ _ ⟨by rw [Int.toNat_natCast];exact sd _ _,Ex.refl⟩⟩
 ·intro d hd p6 k7
  rw [tK] at hd
  obtain ⟨x,hx,rfl⟩:=Ee hd
  obtain ⟨x0,x1⟩:=ag.p7.mp hx
  obtain ⟨p0,p1⟩:=tx.pw x0 x1 (-k)
  refine bE ?_
  intro kY cJ
  set_option simprocs false in simp only [bw,List.map_cons,List.map_nil,List.getD_cons_succ,List.getD_cons_zero]
  refine bj (SO (k:=0 - k) tx hn x0 x1) ?_
  rintro d jd ⟨rfl,k8⟩
  rw [show (0:Int) - k=-k by omega]
  set_option simprocs false in simp only [bw,o5 (xs:=ys) p0 (by omega)]
  exact cJ _ _ ⟨rfl,k8⟩
 ·intro p6 k7
  have e:(aD 0 n).map (fun d=>D.int (ag.app ys (ag.pw xs (-k) (inD d))))=(ag.shr xs ys k).map D.int:=by
   rw [tK,Ef (f:=fun x=>ag.app ys (ag.pw xs (-k) x)) fun x hx=>rfl]
   unfold ag.shr ag.qN ag.pJ
   rw [hlx,List.map_map,List.map_map,List.map_map]
   rfl
  rw [e]
  w_how
  exact ⟨rfl,hQ _ _ ⟨rfl,k7.app _⟩⟩
def nZ (xs ys:List Int):Nat->List Int×List Int
 | 0=>(xs,ys)
 | j + 1=>(ag.inv (nZ xs ys j).2,(nZ xs ys j).1)
theorem C4 {n:Nat} {xs ys:List Int} (tx:ag.Tn n xs) (ty:ag.Tn n ys):∀ j,ag.Tn n (nZ xs ys j).1/\ag.Tn n (nZ xs ys j).2
 | 0=>⟨tx,ty⟩
 | j + 1=>⟨(C4 tx ty j).2.cQ,(C4 tx ty j).1⟩
theorem SR {st:Store} {xs ys:List Int} {n j:Nat} (tx:ag.Tn n xs) (ty:ag.Tn n ys) (hn:n<=100) (hj:j < 4):Wp (yg [cu xs ys,.tup [.str "t",.int (j:Int)]] st) fun d st'=>d=cu (nZ xs ys j).1 (nZ xs ys j).2/\Ex [] st st':=by
 refine fM ?_
 show Ws (zq [some (cu xs ys),some (.tup [.str "t",.int (j:Int)]),none,none,none] st) _ _ _ _
 unfold zq cu
 refine aS (nh ?_)
 kspl_open hQ
 refine hQ _ _ ?_
 clear hQ
 kspl_open hQ
 refine ⟨rfl,hQ _ _ (aS (gs ?_))⟩
 clear hQ
 kspl_open hQ
 refine hQ _ _ ⟨fun h=>absurd h (by decide),fun _=>kf (aS (lY (aD 0 j) (fun i δ st2=>∃ v4:Option D,δ=[some (.tup [.tup (xs.map D.int),.tup (ys.map D.int)]),some (.tup [.str "t",.int (j:Int)]),some (.tup ((nZ xs ys i).1.map D.int)),some (.tup ((nZ xs ys i).2.map D.int)),v4]/\Ex [] st st2) ?_ (by rw [dZ];omega) ?_ ?_))⟩
 ·clear hQ
  kspl_open hQ
  rw [show (j:Int) % 4=(j:Int) by omega]
  exact ⟨by omega,by omega,hQ _ _ ⟨by rw [Int.toNat_natCast],none,rfl,Ex.refl⟩⟩
 ·rintro i d δ st2 hd ⟨v4,rfl,k2⟩
  obtain ⟨ta,tb⟩:=C4 tx ty i
  show Wp _ _
  have hlb:=tb.length
  generalize hzs:(nZ xs ys i).2=zs at tb hlb ⊢
  clear hQ
  kspl_open hQ
  refine hQ _ _ (nh ?_)
  clear hQ
  kspl_open hQ
  refine y8 (aD 0 n) (fun d=>.int (zs.idxOf (inD d):Int)) ?_ (by rw [dZ];omega) ?_ ?_
  ·kspl_open cJ
   rw [List.length_map,hlb]
   exact ⟨by omega,cJ _ _ ⟨by rw [Int.toNat_natCast];exact sd _ _,Ex.refl⟩⟩
  ·intro d hd p6 k7
   rw [tK] at hd
   obtain ⟨x,hx,rfl⟩:=Ee hd
   obtain ⟨x0,x1⟩:=ag.p7.mp hx
   refine bE ?_
   intro kY cJ
   set_option simprocs false in simp only [bw,List.map_cons,List.map_nil,List.getD_cons_succ,List.getD_cons_zero,Ea,Fy (tb.mem x0 x1)]
   exact cJ _ _ ⟨rfl,Ex.refl⟩
  ·intro p6 k7
   have e:(aD 0 n).map (fun d=>D.int (zs.idxOf (inD d):Int))=(ag.inv zs).map D.int:=by
    rw [tK,Ef (f:=fun x=>(zs.idxOf x:Int)) fun x hx=>rfl]
    unfold ag.inv
    rw [hlb]
   rw [e]
   w_how
   refine ⟨rfl,hQ _ _ ?_⟩
   clear hQ
   kspl_open hQ
   refine ⟨rfl,hQ _ _ ⟨some d,?_,(k2.trans k7).app _⟩⟩
   rw [show (nZ xs ys (i + 1)).1=ag.inv (nZ xs ys i).2 from rfl,show (nZ xs ys (i + 1)).2=(nZ xs ys i).1 from rfl,hzs]
 ·rintro δ st2 ⟨v4,rfl,k2⟩
  rw [dZ]
  refine dC ?_
  clear hQ
  kspl_open hQ
  exact ⟨rfl,hQ _ _ ⟨rfl,k2⟩⟩
def ym (s:dY):Prop:=s.1=false->1<=s.2/\s.2<=3
def ic (p:List Int×List Int) (s:dY):List Int×List Int:=if s.1=true then (p.1,ag.shr p.1 p.2 s.2) else nZ p.1 p.2 s.2.toNat
def lZ (p:List Int×List Int) (w:List dY):List Int×List Int:=w.foldl ic p
theorem SS {n:Nat} {p:List Int×List Int} (h:ag.Tn n p.1/\ag.Tn n p.2) (s:dY):ag.Tn n (ic p s).1/\ag.Tn n (ic p s).2:=by
 unfold ic
 split
 ·exact ⟨h.1,h.1.shr h.2 _⟩
 ·exact C4 h.1 h.2 _
theorem Mm {n:Nat}:∀ {p:List Int×List Int},ag.Tn n p.1/\ag.Tn n p.2->∀ w:List dY,ag.Tn n (lZ p w).1/\ag.Tn n (lZ p w).2
 | _,h,[]=>h
 | _,h,s :: w=>Mm (SS h s) w
theorem SU (p:List Int×List Int) (v w:List dY):lZ p (v ++ w)=lZ (lZ p v) w:=by unfold lZ;rw [List.foldl_append]
theorem SV (p:List Int×List Int) (w:List dY) (s:dY):lZ p (w ++ [s])=ic (lZ p w) s:=by rw [SU];rfl
def og (p:List Int×List Int):D:=cu p.1 p.2
theorem SW {st:Store} {p:List Int×List Int} {n:Nat} {s:dY} (h:ag.Tn n p.1/\ag.Tn n p.2) (hn:n<=100) (hs:ym s):Wp (yg [og p,bq s] st) fun d st'=>d=og (ic p s)/\Ex [] st st':=by
 obtain ⟨b,k⟩:=s
 cases b with
 | true=>exact SQ (k:=k) h.1 h.2 hn
 | false =>
  obtain ⟨k1,k3⟩:=hs rfl
  obtain ⟨j,rfl⟩:∃ j:Nat,k=(j:Int):=⟨k.toNat,by simp only at k1;omega⟩
  have:=SR (st:=st) (j:=j) h.1 h.2 hn (by simp only at k3;omega)
  refine bj this ?_
  rintro d st1 ⟨rfl,k1⟩
  refine ⟨?_,k1⟩
  unfold og ic
  rw [if_neg (show ¬ (false=true) from Bool.false_ne_true),Int.toNat_natCast]
theorem SX {st:Store} {p:List Int×List Int} {n:Nat} {s:dY} (h:ag.Tn n p.1/\ag.Tn n p.2) (hn:n<=100) (hs:ym s):Wp (B8 [og p,bq s] st) fun d st'=>d=og (ic p s)/\Ex [] st st':=by
 obtain ⟨b,k⟩:=s
 refine fM ?_
 show Ws (EI [some (og p),some (bq (b,k)),none,none] st) _ _ _ _
 unfold EI bq
 cases b with
 | true =>
  refine aS (gs ?_)
  kspl_open hQ
  refine hQ _ _ ⟨fun _=>dC ?_,fun z=>absurd z (by decide)⟩
  clear hQ
  kspl_open hQ
  refine bj (SM (k:=k) h.1 h.2 hn) ?_
  rintro d st1 ⟨rfl,k1⟩
  exact hQ _ _ ⟨rfl,k1⟩
 | false =>
  obtain ⟨k1,k3⟩:=hs rfl
  obtain ⟨j,rfl⟩:∃ j:Nat,k=(j:Int):=⟨k.toNat,by simp only at k1;omega⟩
  refine aS (gs ?_)
  kspl_open hQ
  refine hQ _ _ ⟨fun z=>absurd z (by decide),fun _=>kf (aS (bO ?_))⟩
  clear hQ
  kspl_open hQ
  refine hQ _ _ (aS (lY (aD 0 j) (fun i δ st2=>∃ v3:Option D,δ=[some (og p),some (bq (false,(j:Int))),some (cu (nZ p.1 p.2 i).1 (nZ p.1 p.2 i).2),v3]/\Ex [] st st2) ?_ (by rw [dZ];simp only at k3;omega) ?_ ?_))
  ·clear hQ
   kspl_open hQ
   exact ⟨by simp only at k3;omega,hQ _ _ ⟨by rw [Int.toNat_natCast],none,rfl,Ex.refl⟩⟩
  ·rintro i d δ st2 hd ⟨v3,rfl,k2⟩
   obtain ⟨ta,tb⟩:=C4 h.1 h.2 i
   clear hQ
   kspl_open hQ
   refine hQ _ _ (bO ?_)
   clear hQ
   kspl_open hQ
   refine bj (Mi ta tb hn) ?_
   rintro d' st3 ⟨rfl,k3⟩
   exact hQ _ _ ⟨some d,rfl,k2.trans k3⟩
  ·rintro δ st2 ⟨v3,rfl,k2⟩
   rw [dZ]
   refine dC ?_
   clear hQ
   kspl_open hQ
   refine hQ _ _ ⟨?_,k2⟩
   unfold og ic
   rw [if_neg (show ¬ (false=true) from Bool.false_ne_true),Int.toNat_natCast]
theorem SY {st:Store} {p:List Int×List Int} {n:Nat} {w:List dY} (h:ag.Tn n p.1/\ag.Tn n p.2) (hn:n<=100) (hw:∀ s∈w,ym s) (hl:w.length<=1000):Wp (Ca [og p,.tup (w.map bq)] st) fun d st'=>d=og (lZ p w)/\Ex [] st st':=by
 refine fM ?_
 show Ws (EK [some (og p),some (.tup (w.map bq)),none,none] st) _ _ _ _
 unfold EK
 refine aS (bO ?_)
 kspl_open hQ
 refine hQ _ _ (aS (lY (w.map bq) (fun i δ st2=>∃ v2:Option D,δ=[some (og p),some (.tup (w.map bq)),some (og (lZ p (w.take i))),v2]/\Ex [] st st2) ?_ (by rw [List.length_map];omega) ?_ ?_))
 ·clear hQ
  kspl_open hQ
  exact hQ _ _ ⟨rfl,none,rfl,Ex.refl⟩
 ·rintro i d δ st2 hd ⟨v2,rfl,k2⟩
  rw [List.getElem?_map] at hd
  obtain ⟨s,hs,rfl⟩:=Option.map_eq_some_iff.mp hd
  obtain ⟨hil,es⟩:=List.getElem?_eq_some_iff.mp hs
  clear hQ
  kspl_open hQ
  refine hQ _ _ (bO ?_)
  clear hQ
  kspl_open hQ
  refine bj (SX (Mm h _) hn (hw s (List.mem_of_getElem? hs))) ?_
  rintro d st3 ⟨rfl,k3⟩
  refine hQ _ _ ⟨some (bq s),?_,k2.trans k3⟩
  rw [List.take_succ_eq_append_getElem hil,SV,es]
  rfl
 ·rintro δ st2 ⟨v2,rfl,k2⟩
  rw [List.length_map,List.take_length]
  refine dC ?_
  clear hQ
  kspl_open hQ
  exact hQ _ _ ⟨rfl,k2⟩
def pb (g:Int) (s:dY):Prop:=(s.1=false->1<=s.2/\s.2<=3)/\(s.2.natAbs:Int)<=g/\s.2≠0
theorem S0 {st:Store} {f:Nat} {most great:Int} (hf:bh st f) (m0:0<=most) (m1:most<=100) (g0:3<=great) (g1:great<=1000):Wp (BP [.ref f,.int most,.int great] st) fun d st'=>∃ w:List dY,d=.tup (w.map bq)/\(∀ s∈w,pb great s)/\(w.length:Int)<=most/\bh st' f/\Ex [f] st st':=by
 have hfl:=hf.lt
 refine fM ?_
 show Ws (Ep [some (.ref f),some (.int most),some (.int great),none,none] st) _ _ _ _
 unfold Ep
 refine aS (bO ?_)
 kspl_open hQ
 refine ⟨rfl,hQ _ _ ?_⟩
 clear hQ
 show Ws _ _ _ _ _
 obtain ⟨d,st1,e1,c,rfl,c0,c1,f1,k1⟩:=o9 (st:=st ++ [O.lst []]) (n:=most + 1) (hf.keep (Ex.cf _)) (by omega) (by omega)
 obtain ⟨m,rfl⟩:∃ m:Nat,c=(m:Int):=⟨c.toNat,by omega⟩
 have hl1:st1[st.length]?=some (.lst []):=k1.keep _ _ j8 (by simp;omega)
 have kx:Ex [f] st st1:=(Ex.cf _).trans k1
 refine aS (lY (aD 0 m) (fun i δ st2=>∃ (v4:Option D) (w:List dY),δ=[some (.ref f),some (.int most),some (.int great),some (.ref st.length),v4]/\st2[st.length]?=some (.lst (w.map bq))/\(∀ s∈w,pb great s)/\w.length<=i/\bh st2 f/\Ex [f] st st2) ?_ (by rw [dZ];omega) ?_ ?_)
 ·kspl_open hQ
  refine ⟨_,_,e1,?_⟩
  exact ⟨_,rfl,by omega,hQ _ _ ⟨by rw [Int.toNat_natCast],none,[],rfl,hl1,(fun s hs=>nomatch hs),Nat.le_refl _,f1,kx⟩⟩
 ·rintro i d δ st2 hd ⟨v4,w,rfl,hl2,hw,hwl,f2,k2⟩
  have hil:=fN hd
  rw [dZ] at hil
  have put:∀ (s:dY) (j9:Store),pb great s->bh j9 f->j9[st.length]?=some (.lst (w.map bq))->Ex [f] st j9->∀ v4:Option D,∃ (S4:Option D) (w':List dY),[some (.ref f),some (.int most),some (.int great),some (.ref st.length),v4]=[some (.ref f),some (.int most),some (.int great),some (.ref st.length),S4]/\(j9.set st.length (.lst (w.map bq ++ [bq s])))[st.length]?=some (.lst (w'.map bq))/\(∀ s∈w',pb great s)/\w'.length<=i + 1/\bh (j9.set st.length (.lst (w.map bq ++ [bq s]))) f/\Ex [f] st (j9.set st.length (.lst (w.map bq ++ [bq s]))):=fun s j9 os f5 h5 k5 v4=>by
   refine ⟨v4,w ++ [s],rfl,?_,fun s' hs'=>?_,by rw [List.length_append];simp;omega,f5.ne (by omega),k5.loc (Nat.le_refl _)⟩
   ·rw [List.getElem?_set_self (fN h5),List.map_append];rfl
   ·rcases List.mem_append.mp hs' with h | h
    ·exact hw s' h
    ·rw [List.mem_singleton.mp h];exact os
  kspl_open hQ
  refine hQ _ _ (gs ?_)
  clear hQ
  kspl_open hQ
  refine bj (o9 (n:=2) f2 (by decide) (by decide)) ?_
  rintro d' st3 ⟨b,rfl,b0,b1,f3,k3⟩
  have hl3:=k3.keep _ _ hl2 (by simp;omega)
  w_how
  refine hQ _ _ ⟨fun _=>rZ ?_,fun _=>aS (bO ?_)⟩
  ·clear hQ
   kspl_open hQ
   refine ⟨qX (by rw [dS hl3];rfl),?_⟩
   refine bj (o9 (n:=3) f3 (by decide) (by decide)) ?_
   rintro d' mY ⟨c,rfl,c0,c1,f4,k4⟩
   have tT:=k4.keep _ _ hl3 (by simp;omega)
   set_option simprocs false in simp only [bw,jN tT]
   refine ⟨rfl,ja (by rw [List.length_map];omega),hQ _ _ ?_⟩
   exact put (false,1 + c) mY ⟨fun _=>⟨by show 1<=1 + c;omega,by show 1 + c<=3;omega⟩,by show ((1 + c).natAbs:Int)<=great;omega,by show 1 + c≠0;omega⟩ f4 tT ((k2.trans k3).trans k4) _
  ·clear hQ
   kspl_open hQ
   refine bj (o9 (n:=great) f3 (by omega) (by omega)) ?_
   rintro d' mY ⟨c,rfl,c0,c1,f4,k4⟩
   have tT:=k4.keep _ _ hl3 (by simp;omega)
   w_how
   refine hQ _ _ (rZ ?_)
   clear hQ
   kspl_open hQ
   refine ⟨qX (by rw [dS tT];rfl),rfl,?_⟩
   refine bj (o9 (n:=2) (f4.keep (Ex.cf [O.lst [D.int (1 + c),D.int (0 - (1 + c))]])) (by decide) (by decide)) ?_
   rintro d' j9 ⟨g,rfl,UH,UI,f5,k5⟩
   have S5:j9[mY.length]?=some (.lst [D.int (1 + c),D.int (0 - (1 + c))]):=k5.keep _ _ j8 (by have:=f4.lt;simp;omega)
   have C3:j9[st.length]?=some (.lst (w.map bq)):=k5.keep _ _ (gu tT) (by simp;omega)
   obtain ⟨sg,hsg,s1,s2⟩:∃ sg:Int,gj [D.int (1 + c),D.int (0 - (1 + c))] g=some (.int sg)/\(sg.natAbs:Int)<=great/\sg≠0:=by
    rcases (show g=0\/g=1 by omega) with rfl | rfl
    ·exact ⟨1 + c,r9 _ _,by omega,by omega⟩
    ·exact ⟨0 - (1 + c),qY _ _ _,by omega,by omega⟩
   set_option simprocs false in simp only [bw,dS S5,hsg,jN C3]
   refine ⟨rfl,ja (by rw [List.length_map];omega),hQ _ _ ?_⟩
   exact put (true,sg) j9 ⟨fun z=>Bool.noConfusion (show true=false from z),s1,s2⟩ f5 C3 (((k2.trans k3).trans k4).trans ((Ex.cf _).trans k5)) _
 ·rintro δ st2 ⟨v4,w,rfl,hl2,hw,hwl,f2,k2⟩
  rw [dZ] at hwl
  refine dC ?_
  refine bE ?_
  intro bP hQ
  set_option simprocs false in simp only [bw,dS hl2]
  exact hQ _ _ ⟨w,rfl,hw,by omega,f2,k2⟩
def la (T:ag.T4):D:=.tup [.int T.a,.int T.b,.int T.c,.int T.d]
def Il (A B:ag.T4):Prop:=∀ x∈[A.a,A.b,A.c,A.d],∀ y∈[B.a,B.b,B.c,B.d],du x y=true
theorem C5 {A B:ag.T4} (h:A.le 18446744073709551615):Il A B:=fun x hx y _=>by
 refine Em ?_
 obtain ⟨h1,h2,h3,h4⟩:=h
 simp only [List.mem_cons,List.not_mem_nil,or_false] at hx
 rcases hx with rfl | rfl | rfl | rfl <;> omega
theorem vp {A B:ag.T4} {M k:Nat} (hk:k<=60000000) (hM:M < P2 k) (h:A.le M) (h':B.le M):Il A B:=fun x hx y hy=>by
 obtain ⟨h1,h2,h3,h4⟩:=h
 obtain ⟨g1,g2,g3,g4⟩:=h'
 simp only [List.mem_cons,List.not_mem_nil,or_false] at hx hy
 refine HN hk ?_ ?_
 ·rcases hx with rfl | rfl | rfl | rfl <;> omega
 ·rcases hy with rfl | rfl | rfl | rfl <;> omega
theorem Im {st:Store} {A B:ag.T4} (h:Il A B):Wp (rl [la A,la B] st) fun d st'=>d=la (A.mul B)/\Ex [] st st':=by
 refine fM ?_
 show Ws (EU [some (la A),some (la B)] st) _ _ _ _
 unfold EU la
 refine dC ?_
 have hh:∀ x y:Int,x∈[A.a,A.b,A.c,A.d]->y∈[B.a,B.b,B.c,B.d]->du x y=true:=fun x y hx hy=>h x hx y hy
 have a1:∀ y∈[B.a,B.b,B.c,B.d],du A.a y=true:=h _ (by simp)
 have a2:∀ y∈[B.a,B.b,B.c,B.d],du A.b y=true:=h _ (by simp)
 have a3:∀ y∈[B.a,B.b,B.c,B.d],du A.c y=true:=h _ (by simp)
 have a4:∀ y∈[B.a,B.b,B.c,B.d],du A.d y=true:=h _ (by simp)
 refine bE ?_
 intro bP hQ
 set_option simprocs false in simp only [bw,zb,at2,LC]
 exact ⟨a1 _ (by simp),a2 _ (by simp),a1 _ (by simp),a2 _ (by simp),a3 _ (by simp),a4 _ (by simp),a3 _ (by simp),a4 _ (by simp),rfl,hQ _ _ ⟨rfl,Ex.refl⟩⟩
theorem S6 {st:Store} {s:dY} (h:ag.eO s):Wp (Cj [bq s] st) fun d st'=>d=la (ag.kJ s)/\Ex [] st st':=by
 obtain ⟨b,k⟩:=s
 refine fM ?_
 show Ws (EV [some (bq (b,k)),none,none] st) _ _ _ _
 unfold EV bq
 cases b with
 | true =>
  refine aS (gs ?_)
  kspl_open hQ
  refine hQ _ _ ⟨fun _=>dC ?_,fun h=>absurd h (by decide)⟩
  clear hQ
  kspl_open hQ
  exact ⟨rfl,hQ _ _ ⟨rfl,Ex.refl⟩⟩
 | false =>
  obtain ⟨k1,k3⟩:=h.1 rfl
  simp only at k1 k3
  obtain ⟨j,rfl⟩:∃ j:Nat,k=(j:Int):=⟨k.toNat,by omega⟩
  refine aS (gs ?_)
  kspl_open hQ
  refine hQ _ _ ⟨fun h=>absurd h (by decide),fun _=>kf (aS (bO ?_))⟩
  clear hQ
  kspl_open hQ
  refine hQ _ _ ?_
  clear hQ
  show Ws _ _ _ _ _
  refine aS (lY (aD 0 j) (fun i δ st2=>∃ v:Option D,δ=[some (.tup [.str "t",.int (j:Int)]),some (la (ag.qp i)),v]/\Ex [] st st2) ?_ (by rw [dZ];omega) ?_ ?_)
  ·kspl_open hQ
   exact ⟨by omega,hQ _ _ ⟨by rw [Int.toNat_natCast],none,rfl,Ex.refl⟩⟩
  ·rintro i d δ st2 hd ⟨v,rfl,k2⟩
   kspl_open hQ
   refine hQ _ _ (bO ?_)
   clear hQ
   kspl_open hQ
   refine bj (Im (A:=ag.T4.qt) (B:=ag.qp i) (C5 ⟨by decide,by decide,by decide,by decide⟩)) ?_
   rintro d st3 ⟨rfl,k3⟩
   exact hQ _ _ ⟨_,rfl,k2.trans k3⟩
  ·rintro δ st2 ⟨v,rfl,k2⟩
   rw [dZ]
   refine dC ?_
   kspl_open hQ
   refine hQ _ _ ⟨?_,k2⟩
   show la (ag.qp j)=la (ag.qp (j:Int).toNat)
   rw [Int.toNat_natCast]
theorem yn {s:dY} {B:Nat} (h:ag.eO s) (hs:s.2.natAbs<=B):(ag.kJ s).le (B + 1):=by
 have:=ag.uP (T:=ag.T4.one) (s:=s) (M:=1) (B:=B) ⟨by decide,by decide,by decide,by decide⟩ h hs
 rwa [ag.T4.mul_one,Nat.mul_one] at this
theorem Io {T:ag.T4} {M N:Nat} (h:T.le M) (hn:M<=N):T.le N:=⟨Nat.le_trans h.1 hn,Nat.le_trans h.2.1 hn,Nat.le_trans h.2.2.1 hn,Nat.le_trans h.2.2.2 hn⟩
theorem Ip {w:List dY} {b n:Nat} (hw:∀ s∈w,ag.eO s/\s.2.natAbs + 1<=P2 b) (hn:w.length<=n):(ag.aO w).le (P2 (b * n)):=by
 have:=ag.Pt (B:=P2 b - 1) (n:=n) (w:=w) (fun s hs=>⟨(hw s hs).1,by have:=(hw s hs).2;omega⟩) hn
 rwa [show P2 b - 1 + 1=P2 b by have:=yN b;omega,wF] at this
theorem Mp {st:Store} {w:List dY} {b:Nat} (hb:b<=50000) (hw:∀ s∈w,ag.eO s/\s.2.natAbs + 1<=P2 b) (hl:w.length<=1000):Wp (vj [.tup (w.map bq)] st) fun d st'=>d=la (ag.aO w)/\Ex [] st st':=by
 refine fM ?_
 show Ws (EX [some (.tup (w.map bq)),none,none] st) _ _ _ _
 unfold EX
 refine aS (bO ?_)
 kspl_open hQ
 refine hQ _ _ ?_
 clear hQ
 show Ws _ _ _ _ _
 refine aS (lY (w.map bq) (fun i δ st2=>∃ v:Option D,δ=[some (.tup (w.map bq)),some (la (ag.aO (w.take i))),v]/\Ex [] st st2) ?_ (by rw [List.length_map];omega) ?_ ?_)
 ·kspl_open hQ
  exact hQ _ _ ⟨rfl,none,rfl,Ex.refl⟩
 ·rintro i d δ st2 hd ⟨v2,rfl,k2⟩
  rw [List.getElem?_map] at hd
  obtain ⟨s,hs,rfl⟩:=Option.map_eq_some_iff.mp hd
  obtain ⟨hil,es⟩:=List.getElem?_eq_some_iff.mp hs
  have hsw:=hw s (List.mem_of_getElem? hs)
  kspl_open hQ
  refine hQ _ _ (bO ?_)
  clear hQ
  kspl_open hQ
  refine bj (S6 hsw.1) ?_
  rintro d st3 ⟨rfl,k3⟩
  refine bj (Im (vp (M:=P2 (b * 1000)) (k:=b * 1000 + 1) (by omega) (by rw [sR];have:=yN (b * 1000);omega) (Io (yn (B:=P2 b - 1) hsw.1 (by omega)) (by have:=yN b;have:=AV (show b<=b * 1000 by omega);omega)) (Ip (fun s hs=>hw s (List.mem_of_mem_take hs)) (by rw [List.length_take];omega)))) ?_
  rintro d mY ⟨rfl,k4⟩
  refine hQ _ _ ⟨some (bq s),?_,(k2.trans k3).trans k4⟩
  rw [List.take_succ_eq_append_getElem hil,ag.wL,es]
  rfl
 ·rintro δ st2 ⟨v2,rfl,k2⟩
  rw [List.length_map,List.take_length]
  refine dC ?_
  kspl_open hQ
  exact hQ _ _ ⟨rfl,k2⟩
theorem S7 {st:Store} {a b:dY}:Wp (Cq [bq a,bq b] st) fun d st'=>d=.tup ((ag.cK a b).map bq)/\Ex [] st st':=by
 obtain ⟨ab,ak⟩:=a
 obtain ⟨bb,bk⟩:=b
 refine fM ?_
 show Ws (E2 [some (.tup [.str (if ab then "s" else "t"),.int ak]),some (.tup [.str (if bb then "s" else "t"),.int bk]),none] st) _ _ _ _
 unfold E2
 have hj:ag.cK (ab,ak) (bb,bk)=if ag.iu (ab,ak) (bb,bk)=0 then [] else [(ab,ag.iu (ab,ak) (bb,bk))]:=rfl
 refine aS (bO ?_)
 kspl_open hQ
 refine hQ _ _ ?_
 clear hQ
 show Ws _ _ _ _ _
 refine aS (xG (N:=fun δ st1=>st1=st/\δ=[some (.tup [.str (if ab then "s" else "t"),.int ak]),some (.tup [.str (if bb then "s" else "t"),.int bk]),some (.int (ag.iu (ab,ak) (bb,bk)))]) (gs ?_) ?_)
 ·kspl_open hQ
  refine hQ _ _ ⟨fun h=>bO ?_,fun h=>kf ⟨rfl,?_⟩⟩
  ·cases ab with
   | true=>exact absurd h (by decide)
   | false =>
    clear hQ
    kspl_open hQ
    exact ⟨by decide,hQ _ _ ⟨rfl,rfl⟩⟩
  ·cases ab with
   | true=>rfl
   | false=>exact absurd h (by decide)
 ·rintro δ st1 ⟨rfl,rfl⟩
  refine aS (gs ?_)
  kspl_open hQ
  refine hQ _ _ ⟨fun h=>dC ?_,fun h=>kf (dC ?_)⟩
  ·have h:=of_decide_eq_true h
   clear hQ
   kspl_open hQ
   refine ⟨rfl,hQ _ _ ⟨?_,Ex.refl⟩⟩
   rw [hj,if_pos h];rfl
  ·have h:=of_decide_eq_false h
   clear hQ
   kspl_open hQ
   refine ⟨rfl,rfl,hQ _ _ ⟨?_,Ex.refl⟩⟩
   rw [hj,if_neg h];rfl
theorem Mq {xs:List D} {x:D}:gj (xs ++ [x]) (-1)=some x:=by
 unfold gj j5
 rw [List.length_append,if_neg (by decide),if_pos (by simp;omega)]
 simp only [Option.bind_some]
 have e:((-1:Int) + ((xs.length + [x].length:Nat):Int)).toNat=xs.length:=by simp only [List.length_singleton];omega
 rw [e];simp
theorem S8 {xs:List D} {x:D}:cutD (xs ++ [x]) none (some (-1))=xs:=by
 have e1:HT.cP (xs ++ [x]).length 0 none=0:=rfl
 have e2:HT.cP (xs ++ [x]).length (xs ++ [x]).length (some (-1))=xs.length:=by
  unfold HT.cP
  simp only
  rw [if_pos (by decide),List.length_append,List.length_singleton];omega
 unfold cutD
 rw [e1,e2,List.drop_zero,Nat.sub_zero]
 simp
theorem S9 (a b:Bool):(((if a=true then ("s" : Str) else "t")=(if b=true then ("s" : Str) else "t")))↔a=b:=by
 cases a <;> cases b <;> decide
theorem Ta {st:Store} {w:List dY} (hl:w.length<=1000):Wp (Cs [.tup (w.map bq)] st) fun d st'=>d=.tup ((ag.nM w).reverse.map bq)/\Ex [] st st':=by
 refine fM ?_
 show Ws (E3 [some (.tup (w.map bq)),none,none] st) _ _ _ _
 unfold E3
 refine aS (bO ?_)
 kspl_open hQ
 refine ⟨rfl,hQ _ _ ?_⟩
 clear hQ
 show Ws _ _ _ _ _
 refine aS (lY (w.map bq) (fun i δ st2=>∃ v:Option D,δ=[some (.tup (w.map bq)),some (.tup ((ag.nM (w.take i)).reverse.map bq)),v]/\Ex [] st st2) ?_ (by rw [List.length_map];omega) ?_ ?_)
 ·kspl_open hQ
  exact hQ _ _ ⟨rfl,none,rfl,Ex.refl⟩
 ·rintro i d δ st2 hd ⟨v2,rfl,k2⟩
  rw [List.getElem?_map] at hd
  obtain ⟨s,hs,rfl⟩:=Option.map_eq_some_iff.mp hd
  obtain ⟨hil,es⟩:=List.getElem?_eq_some_iff.mp hs
  have ep:ag.nM (w.take (i + 1))=ag.cR (ag.nM (w.take i)) s:=by rw [List.take_succ_eq_append_getElem hil,ag.Pe,es];rfl
  have hpl:(ag.nM (w.take i)).length<=1000:=by have:=ag.KO (w.take i);rw [List.length_take] at this;omega
  rw [ep]
  clear ep
  generalize ag.nM (w.take i)=l at hpl ⊢
  kspl_open hQ
  refine hQ _ _ (gs ?_)
  clear hQ
  kspl_open hQ
  cases l with
  | nil =>
   refine hQ _ _ ⟨fun h=>absurd h (by decide),fun _=>bO ?_⟩
   clear hQ
   kspl_open hQ
   exact ⟨rfl,rfl,hQ _ _ ⟨some (bq s),rfl,k2⟩⟩
  | cons t r =>
   have eg:(t :: r).reverse.map bq=r.reverse.map bq ++ [bq t]:=by simp
   rw [eg]
   have el:decide ((0:Int) < ((r.reverse.map bq ++ [bq t]).length:Nat))=true:=decide_eq_true (by simp)
   have es1:bq t=.tup [.str (if t.1 then "s" else "t"),.int t.2]:=rfl
   have Tb:bq s=.tup [.str (if s.1 then "s" else "t"),.int s.2]:=rfl
   have elt:(if t.1=true then ("s" : Str) else "t")=(if s.1=true then ("s" : Str) else "t")↔t.1=s.1:=S9 _ _
   set_option simprocs false in simp only [bw,Mq,es1,Tb]
   rw [if_pos (by simp)]
   refine hQ _ _ ⟨fun h=>bO ?_,fun h=>bO ?_⟩
   ·have h:=elt.mp (of_decide_eq_true h)
    clear hQ
    kspl_open hQ
    rw [eg,S8]
    set_option simprocs false in simp only [bw,Mq]
    refine bj S7 ?_
    rintro d st3 ⟨rfl,k3⟩
    w_how
    refine ⟨ja ?_,hQ _ _ ⟨some (bq s),?_,k2.trans k3⟩⟩
    ·have:(ag.cK t s).length<=1:=by unfold ag.cK;split <;> simp
     simp only [List.length_map,List.length_reverse]
     simp only [List.length_cons] at hpl
     omega
    ·have ej:(ag.cK t s).reverse=ag.cK t s:=by unfold ag.cK;split <;> rfl
     rw [ag.sW,if_pos h,List.reverse_append,List.map_append,ej]
     rfl
   ·have h:=fun e=>of_decide_eq_false h (elt.mpr e)
    clear hQ
    kspl_open hQ
    refine ⟨rfl,ja ?_,hQ _ _ ⟨some (bq s),?_,k2⟩⟩
    ·simp only [List.length_map,List.length_reverse,List.length_singleton]
     omega
    ·have e2:(s :: t :: r).reverse.map bq=(t :: r).reverse.map bq ++ [bq s]:=by simp
     rw [ag.sW,if_neg h,e2]
     rfl
 ·rintro δ st2 ⟨v2,rfl,k2⟩
  rw [List.length_map,List.take_length]
  refine dC ?_
  kspl_open hQ
  exact hQ _ _ ⟨rfl,k2⟩
theorem Tc {st:Store} {v w:List dY} (hl:v.length + w.length<=1000):Wp (Cv [.tup (v.map bq),.tup (w.map bq)] st) fun d st'=>d=.tup ((ag.nM (v ++ w)).reverse.map bq)/\Ex [] st st':=by
 refine fM ?_
 show Ws (E4 [some (.tup (v.map bq)),some (.tup (w.map bq))] st) _ _ _ _
 unfold E4
 refine dC ?_
 kspl_open hQ
 refine ⟨ja (by simp only [List.length_map];omega),?_⟩
 rw [<- List.map_append]
 refine bj (Ta (by rw [List.length_append];exact hl)) ?_
 rintro d st3 ⟨rfl,k3⟩
 exact hQ _ _ ⟨rfl,k3⟩
theorem Td {st:Store} {s:dY}:Wp (CC [bq s] st) fun d st'=>d=bq (ag.jJ s)/\Ex [] st st':=by
 obtain ⟨b,k⟩:=s
 refine fM ?_
 show Ws (E7 [some (.tup [.str (if b then "s" else "t"),.int k])] st) _ _ _ _
 unfold E7
 refine aS (gs ?_)
 cases b with
 | true =>
  kspl_open hQ
  refine hQ _ _ ⟨fun _=>dC ?_,fun h=>absurd h (by decide)⟩
  clear hQ
  kspl_open hQ
  exact ⟨rfl,hQ _ _ ⟨rfl,Ex.refl⟩⟩
 | false =>
  kspl_open hQ
  refine hQ _ _ ⟨fun h=>absurd h (by decide),fun _=>kf (dC ?_)⟩
  clear hQ
  kspl_open hQ
  exact ⟨rfl,hQ _ _ ⟨rfl,Ex.refl⟩⟩
theorem Mr {st:Store} {w:List dY} (hl:w.length<=1000):Wp (vk [.tup (w.map bq)] st) fun d st'=>d=.tup ((ag.gN w).map bq)/\Ex [] st st':=by
 refine fM ?_
 show Ws (E8 [some (.tup (w.map bq))] st) _ _ _ _
 unfold E8
 refine dC ?_
 kspl_open hQ
 refine LF (w.reverse.map bq) (fun i y=>∃ s,w.reverse[i]?=some s/\y=bq (ag.jJ s)) (Ex [] st) ?_ (by rw [List.length_map,List.length_reverse];omega) ?_ ?_
 ·refine bE ?_
  intro kY cJ
  set_option simprocs false in simp only [bw,Rc]
  refine ⟨_,rfl,cJ _ _ ⟨fun i st2 hi _=>?_,Ex.refl⟩⟩
  rw [<- List.map_reverse]
  exact sd _ st2 i st2 hi Ex.refl
 ·intro i d hd st1 k1
  rw [List.getElem?_map] at hd
  obtain ⟨s,hs,rfl⟩:=Option.map_eq_some_iff.mp hd
  kspl_open cJ
  refine bj Td ?_
  rintro d st3 ⟨rfl,k3⟩
  exact cJ _ _ ⟨⟨s,hs,rfl⟩,k1.trans k3⟩
 ·intro ys st' k' hy h
  w_how
  refine hQ _ _ ⟨?_,k'.app _⟩
  congr 1
  refine List.ext_getElem? fun i=>?_
  rw [List.length_map,List.length_reverse] at hy
  have eb:ag.gN w=w.reverse.map ag.jJ:=by unfold ag.gN;rw [List.map_reverse]
  rw [eb,List.getElem?_map,List.getElem?_map]
  rcases Nat.lt_or_ge i ys.length with hi | hi
  ·obtain ⟨s,hs,e⟩:=h i ys[i] (List.getElem?_eq_getElem hi)
   rw [hs,List.getElem?_eq_getElem hi,e];rfl
  ·rw [List.getElem?_eq_none hi,List.getElem?_eq_none (by rw [List.length_reverse];omega)];rfl
theorem Te {st:Store} {x y:Int} (hy:y≠0) (hb:y.natAbs < P2 100):Wp (Cm [.int x,.int y] st) fun d st'=>d=.int (ag.nr x y)/\Ex [] st st':=by
 have hl:(2 * y).natAbs.log2 < 9000:=by
  have h1:(2 * y).natAbs < 2 ^ 101:=by
   have e:P2 101=2 * P2 100:=sR 100
   show _ < P2 101
   omega
  have:=(Nat.log2_lt (n:=(2 * y).natAbs) (k:=101) (by omega)).mpr h1
  omega
 refine fM ?_
 show Ws (EZ [some (.int x),some (.int y)] st) _ _ _ _
 unfold EZ
 refine dC ?_
 refine bE ?_
 intro bP hQ
 set_option simprocs false in simp only [bw,HM]
 exact ⟨.inl (by decide),.inl (by decide),⟨by omega,hl⟩,hQ _ _ ⟨rfl,Ex.refl⟩⟩
theorem Iq {st:Store} {k:Int}:Wp (sf [.int k] st) fun d st'=>d=.tup ((ag.p8 k).map bq)/\Ex [] st st':=by
 refine fM ?_
 show Ws (ET [some (.int k)] st) _ _ _ _
 unfold ET
 refine aS (gs ?_)
 kspl_open hQ
 refine hQ _ _ ⟨fun h=>dC ?_,fun h=>kf (dC ?_)⟩
 ·have h:k=0:=of_decide_eq_true h
  clear hQ
  kspl_open hQ
  refine ⟨rfl,hQ _ _ ⟨?_,Ex.refl⟩⟩
  unfold ag.p8
  rw [if_pos h];rfl
 ·have h:¬ k=0:=of_decide_eq_false h
  clear hQ
  kspl_open hQ
  refine ⟨rfl,rfl,hQ _ _ ⟨?_,Ex.refl⟩⟩
  unfold ag.p8
  rw [if_neg h];rfl
theorem Tf {st:Store} {T:ag.T4} {x y:Int} (hT:T.le (P2 102)) (hx:x.natAbs<=P2 102) (hy:y.natAbs<=P2 102):Wp (Cg [la T,.tup [.int x,.int y]] st) fun d st'=>d=.tup [.int (T.a * x + T.b * y),.int (T.c * x + T.d * y)]/\Ex [] st st':=by
 have ok:∀ i j:Int,i.natAbs<=P2 102->j.natAbs<=P2 102->du i j=true:=fun i j hi hj=>by
  have e:P2 103=2 * P2 102:=sR 102
  have:=yN 102
  exact HN (k:=103) (by decide) (by omega) (by omega)
 obtain ⟨h1,h2,h3,h4⟩:=hT
 refine fM ?_
 show Ws (ES [some (la T),some (.tup [.int x,.int y])] st) _ _ _ _
 unfold ES la
 refine dC ?_
 refine bE ?_
 intro bP hQ
 set_option simprocs false in simp only [bw,zb,at2,LC]
 exact ⟨ok _ _ h1 hx,ok _ _ h2 hy,ok _ _ h3 hx,ok _ _ h4 hy,rfl,hQ _ _ ⟨rfl,Ex.refl⟩⟩
theorem yo {st:Store} {Q:D->Store->Prop} {x y:Int}:Wp (aF (.tup [.int x,.int y]) (.int 0) st) Q↔Q (.int x) st:=bB
theorem Ms {st:Store} {Q:D->Store->Prop} {x y:Int}:Wp (aF (.tup [.int x,.int y]) (.int 1) st) Q↔Q (.int y) st:=bB
theorem pd {M k:Nat} (hM:M < 2 ^ k) (hk:k<=100):M < P2 100/\P2 101=2 * P2 100/\P2 102=2 * P2 101/\100 < P2 100:=⟨Nat.lt_of_lt_of_le hM (Nat.pow_le_pow_right (n:=2) (by decide) hk),sR 100,sR 101,Kw 100⟩
theorem Tg {st:Store} {x y:Int} {M k:Nat} (hM:M < 2 ^ k) (hk:k<=100) (hx:x.natAbs<=M) (hy:y.natAbs<=M):Wp (Co [.tup [.int x,.int y]] st) fun d st'=>∃ g:List dY,d=.tup (g.map bq)/\(∀ s∈g,ag.eO s/\s.2.natAbs<=M + 1)/\g.length<=2 * k/\(ag.aO g).c * x + (ag.aO g).d * y=0/\Ex [] st st':=by
 refine fM ?_
 show Ws (E1 [some (.tup [.int x,.int y]),none,none,none] st) _ _ _ _
 unfold E1
 refine aS (bO ?_)
 refine bE ?_
 intro bP hQ
 w_how
 refine ⟨rfl,?_⟩
 refine hQ _ _ (aS (bO ?_))
 clear hQ
 refine bE ?_
 intro bP hQ
 w_how
 refine hQ _ _ (aS (y6 (fun m δ s=>∃ (g:List dY) (u v:Int) (r:Nat) (v3:Option D),m=k + 1 - r/\r<=k/\δ=[some (.tup [.int x,.int y]),some (.tup (g.map bq)),some (.tup [.int u,.int v]),v3]/\ag.Dv M x y g u v r/\Ex [] st s) (k + 1) (by show k + 1 < 1000000;omega) ⟨[],x,y,0,none,rfl,Nat.zero_le _,rfl,ag.Dv.zero hx hy,Ex.refl⟩ ?_))
 clear hQ
 rintro m δ s ⟨g,u,v,r,v3,rfl,hr,rfl,dv,k1⟩
 have UJ:=dv.ub
 obtain ⟨Ir,Mt,Mu,Mv⟩:=pd hM hk
 have Iu:v.natAbs<=M:=Nat.le_trans (Nat.le_mul_of_pos_right _ (Nat.one_le_two_pow)) dv.vb
 refine bE ?_
 intro bP hQ
 set_option simprocs false in simp only [bw,Ms]
 refine hQ _ _ ⟨fun hc=>?_,fun hc=>?_⟩
 ·have hv:v≠0:=by simpa using hc
  have few:=dv.few (k:=k) hv hM
  have Ti:=dv.step hv
  refine aS (bO ?_)
  clear hQ
  refine bE ?_
  intro bP hQ
  set_option simprocs false in simp only [bw,yo,Ms]
  refine bj (Te hv (by omega)) ?_
  rintro d s1 ⟨rfl,k2⟩
  w_how
  refine bj (Iq) ?_
  rintro d s2 ⟨rfl,k3⟩
  w_how
  have hsl:=ag.A2 (-(ag.nr u v))
  refine ⟨rfl,rfl,ja (by rw [List.length_map];show _ + 1<=_;omega),?_⟩
  have e1:((ag.p8 (-(ag.nr u v))).map bq ++ [D.tup [D.str "t",D.int 1]])=(ag.p9 u v).map bq:=by
   unfold ag.p9
   rw [List.map_append];rfl
  rw [e1]
  have GY:=ag.KW (x:=u) hv
  refine hQ _ _ (aS (bO ?_))
  clear hQ
  refine bE ?_
  intro bP hQ
  w_how
  refine bj (Mp (b:=102) (w:=ag.p9 u v) (by decide) (fun s hs=>⟨(GY s hs).1,by have:=(GY s hs).2;omega⟩) (by have:=ag.G2 u v;omega)) ?_
  rintro d s3 ⟨rfl,k4⟩
  have hnr:=ag.KU (x:=u) hv
  refine bj (Tf (T:=ag.aO (ag.p9 u v)) (x:=u) (y:=v) (by rw [ag.G1];exact ⟨by show (0:Int).natAbs<=_;omega,by show (-1:Int).natAbs<=_;omega,by show (1:Int).natAbs<=_;omega,by show (-(ag.nr u v)).natAbs<=_;omega⟩) (by omega) (by omega)) ?_
  rintro d s4 ⟨rfl,k5⟩
  rw [ag.G1]
  have e2:∀ q:Int,D.tup [.int ((0:Int) * u + -1 * v),.int (1 * u + -q * v)]=.tup [.int (-v),.int (u - q * v)]:=fun q=>by
   have a1:(0:Int) * u + -1 * v=-v:=by omega
   have a2:1 * u + -q * v=u - q * v:=by rw [Int.neg_mul];omega
   rw [a1,a2]
  show bP (D.tup [.int ((0:Int) * u + -1 * v),.int (1 * u + -(ag.nr u v) * v)]) s4
  rw [e2]
  refine hQ _ _ (bO ?_)
  clear hQ
  refine bE ?_
  intro bP hQ
  w_how
  have Iv:=dv.ln
  have hdl:=ag.G2 u v
  refine ⟨ja (by rw [List.length_map,List.length_map];omega),hQ _ _ ⟨k + 1 - (r + 1),by omega,g ++ ag.p9 u v,_,_,r + 1,_,rfl,by omega,by rw [List.map_append];rfl,Ti,(((k1.trans k2).trans k3).trans k4).trans k5⟩⟩
 ·have hv:v=0:=by simpa using hc
  refine dC ?_
  clear hQ
  refine bE ?_
  intro bP hQ
  w_how
  exact hQ _ _ ⟨g,rfl,dv.pr,by have:=dv.ln;omega,by rw [<- dv.vc];exact hv,k1⟩
theorem Iw {st:Store} {Q:D->Store->Prop} {T:ag.T4}:Wp (aF (la T) (.int 0) st) Q↔Q (.int T.a) st:=bB
theorem Iy {st:Store} {Q:D->Store->Prop} {T:ag.T4}:Wp (aF (la T) (.int 1) st) Q↔Q (.int T.b) st:=bB
theorem Mw {st:Store} {Q:D->Store->Prop} {T:ag.T4}:Wp (aF (la T) (.int 2) st) Q↔Q (.int T.c) st:=bB
theorem yp {st:Store} {Q:D->Store->Prop} {T:ag.T4}:Wp (aF (la T) (.int 3) st) Q↔Q (.int T.d) st:=bB
theorem Tj {st:Store} {T:ag.T4} (hl:T.le (P2 100)):Wp (Cy [la T] st) fun d st'=>d=.bl (decide (T.a * T.d - T.b * T.c=1))/\Ex [] st st':=by
 have ok:∀ i j:Int,i.natAbs<=P2 100->j.natAbs<=P2 100->du i j=true:=fun i j hi hj=>by
  have e:P2 101=2 * P2 100:=sR 100
  have:=yN 100
  exact HN (k:=101) (by decide) (by omega) (by omega)
 refine fM ?_
 show Ws (E5 [some (la T)] st) _ _ _ _
 unfold E5
 refine dC ?_
 have hs:dO st (la T)=some [.int T.a,.int T.b,.int T.c,.int T.d]:=rfl
 refine bE ?_
 intro bP hQ
 set_option simprocs false in simp only [bw,hs,zb,Iw,Iy,Mw,yp]
 obtain ⟨h1,h2,h3,h4⟩:=hl
 rw [if_pos (show decide ((([D.int T.a,D.int T.b,D.int T.c,D.int T.d]:List D).length:Int)=4)=true from rfl)]
 exact ⟨ok _ _ h1 h4,ok _ _ h2 h3,hQ _ _ ⟨rfl,Ex.refl⟩⟩
theorem To {st:Store} {A:ag.T4}:Wp (CA [la A] st) fun d st'=>d=.tup ((ag.nO A).map bq)/\Ex [] st st':=by
 refine fM ?_
 show Ws (E6 [some (la A)] st) _ _ _ _
 unfold E6
 refine aS (gs ?_)
 refine bE ?_
 intro bP hQ
 set_option simprocs false in simp only [bw,Iw]
 refine hQ _ _ ⟨fun h=>dC ?_,fun h=>kf (dC ?_)⟩
 ·have h:A.a=1:=of_decide_eq_true h
  clear hQ
  refine bE ?_
  intro bP hQ
  set_option simprocs false in simp only [bw,Iy]
  refine bj (Iq) ?_
  rintro d s1 ⟨rfl,k1⟩
  refine hQ _ _ ⟨?_,k1⟩
  unfold ag.nO
  rw [if_pos h]
 ·have h:¬ A.a=1:=of_decide_eq_false h
  clear hQ
  refine bE ?_
  intro bP hQ
  set_option simprocs false in simp only [bw,Iy]
  refine ⟨rfl,rfl,?_⟩
  refine bj (Iq) ?_
  rintro d s1 ⟨rfl,k1⟩
  w_how
  have:=ag.A2 (-A.b)
  refine ⟨ja (by rw [List.length_map];show 1 + _<=_;omega),hQ _ _ ⟨?_,k1⟩⟩
  unfold ag.nO
  rw [if_neg h]
  rfl
theorem Tp {T:ag.T4} {g:List dY} {M k:Nat} (hM:M < 2 ^ k) (hk:k<=100) (hl:T.le M) (hg:∀ s∈g,ag.eO s/\s.2.natAbs<=M + 1) (Iv:g.length<=2 * k):∀ s∈ag.nM (ag.nO ((ag.aO g).mul T) ++ ag.gN g),s.2.natAbs + 1<=P2 20400:=by
 obtain ⟨Ir,Mt,Mu,Mv⟩:=pd hM hk
 have Tq:M + 2<=P2 101:=by omega
 have hgt:=Ip (w:=g) (b:=101) (n:=200) (fun s hs=>⟨(hg s hs).1,by have:=(hg s hs).2;omega⟩) (by omega)
 have C6:∀ x y:Int,x.natAbs<=P2 (101 * 200)->y.natAbs<=M->(x * y).natAbs<=P2 20301:=fun x y hx hy=>by
  rw [Int.natAbs_mul]
  refine Nat.le_trans (Nat.mul_le_mul hx (Nat.le_trans hy (Nat.le_trans (Nat.le_add_right M 2) Tq))) ?_
  rw [Kv]
  exact AV (by decide)
 have hA:((ag.aO g).mul T).b.natAbs<=P2 20302:=by
  have e:((ag.aO g).mul T).b=(ag.aO g).a * T.b + (ag.aO g).b * T.d:=rfl
  have h1:=C6 _ _ hgt.1 hl.2.1
  have h2:=C6 _ _ hgt.2.1 hl.2.2.2
  have h3:P2 20302=2 * P2 20301:=sR 20301
  rw [e]
  omega
 have Iz:P2 101<=P2 20302:=AV (by decide)
 have h7:20302 < P2 20302:=Kw 20302
 generalize hB:P2 20302=B at hA Iz h7
 have hv:∀ s∈ag.nO ((ag.aO g).mul T),ag.eO s/\s.2.natAbs<=B:=fun s hs=>by
  refine ⟨ag.KY _ s hs,?_⟩
  unfold ag.nO at hs
  split at hs
  ·rw [(ag.A1 s hs).2];exact hA
  ·rcases List.mem_cons.mp hs with rfl | hs
   ·show (2:Int).natAbs<=B;omega
   ·rw [(ag.A1 s hs).2,Int.natAbs_neg];exact hA
 have hb:∀ s∈ag.gN g,ag.eO s/\s.2.natAbs<=B:=fun s hs=>by
  refine ⟨ag.GZ (fun s hs=>(hg s hs).1) s hs,?_⟩
  unfold ag.gN at hs
  obtain ⟨t,ht,rfl⟩:=List.mem_map.mp (List.mem_reverse.mp hs)
  obtain ⟨h1,h2⟩:=hg t ht
  obtain ⟨b,k⟩:=t
  cases b with
  | true=>show (-k).natAbs<=B;simp only at h2;omega
  | false=>have:=h1.1 rfl;simp only at this;show (4 - k).natAbs<=B;omega
 intro s hs
 have hq:=ag.wK (B:=B) (w:=ag.nO ((ag.aO g).mul T) ++ ag.gN g) (fun s hs=>by
  rcases List.mem_append.mp hs with h | h
  ·exact hv s h
  ·exact hb s h) s hs
 have hlen:(ag.nO ((ag.aO g).mul T) ++ ag.gN g).length<=256:=by
  rw [List.length_append]
  have h1:=ag.KZ ((ag.aO g).mul T)
  have h2:(ag.gN g).length=g.length:=by unfold ag.gN;rw [List.length_reverse,List.length_map]
  omega
 have h3:s.2.natAbs<=256 * B:=Nat.le_trans hq (Nat.mul_le_mul_right _ hlen)
 have h4:P2 20310=256 * B:=by
  have:=Kv 8 20302
  rw [hB] at this
  rw [show (20310:Nat)=8 + 20302 from rfl,<- this]
  rfl
 have h5:P2 20311=2 * P2 20310:=sR 20310
 have h6:P2 20311<=P2 20400:=AV (by decide)
 omega
theorem Tr {st:Store} {T:ag.T4} {M k:Nat} (hM:M < 2 ^ k) (hk:k<=100) (hl:T.le M) (hd:T.a * T.d - T.b * T.c=1):Wp (CF [la T] st) fun d st'=>∃ w:List dY,d=.tup (w.map bq)/\(∀ s∈w,ag.eO s/\s.2.natAbs + 1<=P2 20400)/\w.length<=2 * k + 2/\ag.aO w=T/\Ex [] st st':=by
 refine fM ?_
 show Ws (E9 [some (la T),none] st) _ _ _ _
 unfold E9
 refine aS (gs ?_)
 kspl_open hQ
 obtain ⟨Ir,Mt,Mu,Mv⟩:=pd hM hk
 refine bj (Tj (Io hl (by omega))) ?_
 rintro d s1 ⟨rfl,k1⟩
 refine ⟨_,rfl,?_⟩
 refine hQ _ _ ⟨fun h=>absurd h (by simp [hd]),fun _=>kf (aS (bO ?_))⟩
 clear hQ
 refine bE ?_
 intro bP hQ
 set_option simprocs false in simp only [bw,Iw,Mw]
 refine ⟨rfl,?_⟩
 refine bj (Tg hM hk hl.1 hl.2.2.1) ?_
 rintro d s2 ⟨g,rfl,hg,Iv,h0,k2⟩
 refine hQ _ _ (dC ?_)
 clear hQ
 kspl_open hQ
 have Ts:∀ s∈g,ag.eO s:=fun s hs=>(hg s hs).1
 have Mx:∀ s∈g,ag.eO s/\s.2.natAbs + 1<=P2 101:=fun s hs=>⟨(hg s hs).1,by have:=(hg s hs).2;omega⟩
 refine bj (Mp (b:=101) (w:=g) (by decide) Mx (by omega)) ?_
 rintro d s3 ⟨rfl,k3⟩
 have hgt:=Ip (n:=200) Mx (by omega)
 refine bj (Im (vp (k:=101 * 200 + 1) (M:=P2 (101 * 200)) (by decide) (by have:=yN (101 * 200);have:=sR (101 * 200);omega) hgt (Io hl (Nat.le_trans (Nat.le_of_lt Ir) (AV (by decide)))))) ?_
 rintro d s4 ⟨rfl,k4⟩
 refine bj (To) ?_
 rintro d s5 ⟨rfl,k5⟩
 refine bj (Mr (w:=g) (by omega)) ?_
 rintro d s6 ⟨rfl,k6⟩
 have vn:=ag.KZ ((ag.aO g).mul T)
 have tU:(ag.gN g).length=g.length:=by unfold ag.gN;rw [List.length_reverse,List.length_map]
 refine bj (Tc (v:=ag.nO ((ag.aO g).mul T)) (w:=ag.gN g) (by omega)) ?_
 rintro d s7 ⟨rfl,k7⟩
 obtain ⟨e1,e2⟩:=ag.PD hd Ts h0
 refine hQ _ _ ⟨_,rfl,fun s hs=>⟨e2 s hs,Tp hM hk hl hg Iv s (List.mem_reverse.mp hs)⟩,?_,e1,(((((k1.trans k2).trans k3).trans k4).trans k5).trans k6).trans k7⟩
 rw [List.length_reverse]
 have:=ag.KO (ag.nO ((ag.aO g).mul T) ++ ag.gN g)
 rw [List.length_append] at this
 omega
def Fz:Nat->D->Prop
 | _,.int _=>True
 | _,.str _=>True
 | _,.bl _=>True
 | _,.non=>True
 | n + 1,.tup ds=>ds.length < 100000/\∀ d∈ds,Fz n d
 | _,_=>False
theorem vq:o6 (.tup [.ty "list",.ty "tuple"])=some ["list","tuple"]:=rfl
theorem FA {st:Store} {d:D} {T:String} {v:V} (m:Nat) (hT:∀ st,oD st d=some T) (h1:ek T ["list","tuple"]=some false) {b c:Bool} (h2:ek T ["bool"]=some b) (h3:ek T ["str"]=some c) (hv:sV d=some v) (hs:my v v=true):Wp (tR (m + 1) [d,d] st) fun r st'=>r=.bl true/\Ex [] st st':=by
 refine fM ?_
 show Ws (zw (tR m) [some d,some d] st) _ _ _ _
 unfold zw
 refine aS (gs ?_)
 refine bE ?_
 intro bP hQ
 set_option simprocs false in simp only [bw,za (hT _) vq h1]
 refine ⟨rfl,hQ _ _ ⟨fun h=>absurd h (by decide),fun _=>kf (aS (gs ?_))⟩⟩
 clear hQ
 refine bE ?_
 intro bP hQ
 set_option simprocs false in simp only [bw,za (hT _) (show o6 (.ty "bool")=some ["bool"] from rfl) h2,za (hT _) (show o6 (.ty "str")=some ["str"] from rfl) h3,LD]
 refine hQ _ _ ⟨fun h=>absurd h (by simp),fun _=>kf (dC ?_)⟩
 clear hQ
 refine bE ?_
 intro bP hQ
 set_option simprocs false in simp only [bw,Ra hv hs]
 exact hQ _ _ ⟨rfl,Ex.refl⟩
theorem Mz:∀ (n:Nat) {st:Store} {d:D},Fz n d->Wp (tR (n + 1) [d,d] st) fun r st'=>r=.bl true/\Ex [] st st'
 | n,st,.int i,_=>FA n (fun _=>rfl) rfl (b:=false) rfl (c:=false) rfl rfl rfl
 | n,st,.str x,_=>FA n (fun _=>rfl) rfl (b:=false) rfl (c:=true) rfl rfl rfl
 | n,st,.bl b,_=>FA n (fun _=>rfl) rfl (b:=true) rfl (c:=false) rfl rfl rfl
 | n,st,.non,_=>FA n (fun _=>rfl) rfl (b:=false) rfl (c:=false) rfl rfl rfl
 | n,st,.ty _,h=>by cases n <;> exact h.elim
 | n,st,.ref _,h=>by cases n <;> exact h.elim
 | 0,st,.tup _,h=>h.elim
 | n + 1,st,.tup ds,h=>by
  have hT:∀ st,oD st (.tup ds)=some "tuple" := fun _=>rfl
  refine fM ?_
  show Ws (zw (tR (n + 1)) [some (.tup ds),some (.tup ds)] st) _ _ _ _
  unfold zw
  refine aS (gs ?_)
  refine bE ?_
  intro bP hQ
  set_option simprocs false in simp only [bw,za (hT _) vq (show ek "tuple" ["list","tuple"]=some true from rfl)]
  refine ⟨rfl,hQ _ _ ⟨fun _=>aS (gs ?_),fun h=>absurd h (by decide)⟩⟩
  clear hQ
  refine bE ?_
  intro bP hQ
  set_option simprocs false in simp only [bw,za (hT _) (show o6 (.ty "tuple")=some ["tuple"] from rfl) (show ek "tuple" ["tuple"]=some true from rfl),za (hT _) (show o6 (.ty "list")=some ["list"] from rfl) (show ek "tuple" ["list"]=some false from rfl),LD]
  refine hQ _ _ ⟨fun h=>absurd h (by simp),fun _=>kf (dC ?_)⟩
  clear hQ
  kspl_open hQ
  simp only [decide_true,if_true]
  refine LR (ds.map fun d=>(d,d)) (fun _=>.bl true) ?_ (by rw [List.length_map];exact h.1) ?_ ?_
  ·refine bE ?_
   intro kY cJ
   set_option simprocs false in simp only [bw,Q7]
   refine ⟨_,_,⟨rfl,rfl⟩,ds,rfl,ds,rfl,cJ _ _ ⟨?_,Ex.refl⟩⟩
   have e:=LJ (fun d:D=>d) (fun d=>d) ds
   rw [List.map_id'] at e
   rw [e,List.map_map]
   exact sd _ _
  ·intro p hp st1 k1
   obtain ⟨d,hd,rfl⟩:=List.mem_map.mp hp
   kspl_open cJ
   exact bj (Mz n (h.2 d hd)) fun r s hr=>cJ _ _ hr
  ·intro st' k'
   have e:(ds.map fun d=>(d,d)).map (fun _=>D.bl true)=List.replicate ds.length (.bl true):=by
    rw [List.map_map]
    exact List.map_const' ..
   rw [e]
   set_option simprocs false in simp only [bw,QX]
   refine hQ _ _ ⟨?_,k'.app _⟩
   simp
theorem Tt {st:Store} {d:D} (h:Fz 5 d):Wp (CY [d,d] st) fun r st'=>r=.bl true/\Ex [] st st':=Mz 5 h
theorem yq {g:Int} (hg:3<=g) {s:dY} (h:pb g s):pb g (ag.jJ s):=by
 obtain ⟨b,k⟩:=s
 obtain ⟨h1,h2,h3⟩:=h
 cases b with
 | true =>
  refine ⟨fun z=>Bool.noConfusion (show true=false from z),?_,?_⟩
  ·show ((-k).natAbs:Int)<=g
   rw [Int.natAbs_neg];exact h2
  ·show -k≠0
   exact fun z=>h3 (by show k=0;omega)
 | false =>
  have:=h1 rfl
  simp only at this
  refine ⟨fun _=>⟨by show 1<=4 - k;omega,by show 4 - k<=3;omega⟩,?_,?_⟩
  ·show ((4 - k).natAbs:Int)<=g
   omega
  ·show 4 - k≠0
   omega
theorem Tv {g:Int} (hg:3<=g) {w:List dY} (h:∀ s∈w,pb g s):∀ s∈ag.gN w,pb g s:=fun s hs=>by
 unfold ag.gN at hs
 obtain ⟨t,ht,rfl⟩:=List.mem_map.mp (List.mem_reverse.mp hs)
 exact yq hg (h t ht)
theorem Tw (w:List dY):(ag.gN w).length=w.length:=by unfold ag.gN;rw [List.length_reverse,List.length_map]
theorem MA {g:Int} {s:dY} (h:pb g s):ag.eO s:=⟨h.1,h.2.2⟩
theorem Tx {g:Int} {v w:List dY} (h1:∀ s∈v,pb g s) (h2:∀ s∈w,pb g s):∀ s∈v ++ w,pb g s:=fun s hs=>by
 rcases List.mem_append.mp hs with h | h
 ·exact h1 s h
 ·exact h2 s h
theorem C7 {w:List dY} (h:∀ s∈w,ag.eO s):∀ s∈w,ym s:=fun s hs=>(h s hs).1
theorem MB:∀ (w:List dY) (p:List Int×List Int),lZ p w=ag.eY p w:=by
 have hq:∀ (p:List Int×List Int) (j:Nat),nZ p.1 p.2 j=ag.rP j p:=fun p j=>by
  induction j with
  | zero=>rfl
  | succ j ih=>show (ag.inv (nZ p.1 p.2 j).2,(nZ p.1 p.2 j).1)=ag.Qt (ag.rP j p);rw [ih];rfl
 have hs:∀ (p:List Int×List Int) (s:dY),ic p s=ag.stM p s:=fun p s=>by
  unfold ic ag.stM
  rw [hq]
  rfl
 intro w
 induction w with
 | nil=>intro p;rfl
 | cons s w ih =>
  intro p
  show lZ (ic p s) w=ag.eY (ag.stM p s) w
  rw [hs,ih]
def sL (n:Nat) (f:Int->Int):List D:=(ag.upto n).map fun i=>D.int (f i)
def dI (n:Nat) (s:ag.Se):D:=.tup (sL n s.1 ++ sL n s.2)
theorem g8 (n:Nat) (f:Int->Int):(sL n f).length=n:=by unfold sL;rw [List.length_map,ag.rL]
theorem MC {n:Nat} {f g:Int->Int} (h:∀ u:Int,0<=u->u < (n:Int)->f u=g u):sL n f=sL n g:=List.map_congr_left fun u hu=>by
 obtain ⟨a,b⟩:=ag.p7.mp hu
 rw [h u a b]
theorem zz {n:Nat} {s t:ag.Se} (h:ag.mS n s t):dI n s=dI n t:=by
 unfold dI
 rw [MC fun u a b=>(h u a b).1,MC fun u a b=>(h u a b).2]
theorem vt {n:Nat} {f:Int->Int} {u:Int} (h0:0<=u) (h1:u < (n:Int)):(sL n f)[u.toNat]?=some (.int (f u)):=by
 unfold sL
 rw [List.getElem?_map,ag.GV (by omega)]
 simp only [Option.map_some]
 rw [Int.toNat_of_nonneg h0]
theorem zA {ds:List D} {i:Int} {d:D} (h0:0<=i) (h:ds[i.toNat]?=some d):gj ds i=some d:=by
 have:=(List.getElem?_eq_some_iff.mp h).1
 unfold gj j5
 rw [if_pos h0,if_pos (by omega)]
 simpa using h
theorem vw {n:Nat} {f:Int->Int} {u:Int} (h0:0<=u) (h1:u < (n:Int)):gj (sL n f) u=some (.int (f u)):=zA h0 (vt h0 h1)
theorem FC {n:Nat} {f g:Int->Int} {u:Int} (h0:0<=u) (h1:u < (n:Int)):gj (sL n f ++ sL n g) u=some (.int (f u)):=zA h0 (by
 rw [List.getElem?_append_left (by rw [g8];omega)]
 exact vt h0 h1)
theorem si {n:Nat} {f g:Int->Int} {u:Int} (h0:0<=u) (h1:u < (n:Int)):gj (sL n f ++ sL n g) ((n:Int) + u)=some (.int (g u)):=zA (by omega) (by
 rw [List.getElem?_append_right (by rw [g8];omega),g8,show ((n:Int) + u).toNat - n=u.toNat by omega]
 exact vt h0 h1)
def mZ (f:Int->Int) (u v:Int):Int->Int:=fun t=>if t=u then v else f t
theorem C8 {n:Nat} {f:Int->Int} {u v:Int} (h0:0<=u) (h1:u < (n:Int)):(sL n f).set u.toNat (.int v)=sL n (mZ f u v):=by
 refine List.ext_getElem? fun i=>?_
 by_cases hi:i < n
 ·have e:(sL n (mZ f u v))[i]?=some (.int (mZ f u v (i:Int))):=by
   have:=vt (n:=n) (f:=mZ f u v) (u:=(i:Int)) (by omega) (by omega)
   rwa [Int.toNat_natCast] at this
  rw [e]
  by_cases z:u.toNat=i
  ·rw [<- z,List.getElem?_set_self (by rw [g8];omega)]
   unfold mZ
   rw [if_pos (by omega)]
  ·rw [List.getElem?_set_ne z]
   have:=vt (n:=n) (f:=f) (u:=(i:Int)) (by omega) (by omega)
   rw [Int.toNat_natCast] at this
   rw [this]
   unfold mZ
   rw [if_neg (by omega)]
 ·rw [List.getElem?_eq_none (by rw [List.length_set,g8];omega),List.getElem?_eq_none (by rw [g8];omega)]
theorem Tz {n:Nat} {f g:Int->Int} {u v:Int} (h0:0<=u) (h1:u < (n:Int)):(sL n f ++ sL n g).set u.toNat (.int v)=sL n (mZ f u v) ++ sL n g:=by
 rw [List.set_append_left _ _ (by rw [g8];omega),C8 h0 h1]
theorem TB {n:Nat} {f g:Int->Int} {u v:Int} (h0:0<=u) (h1:u < (n:Int)):(sL n f ++ sL n g).set ((n:Int) + u).toNat (.int v)=sL n f ++ sL n (mZ g u v):=by
 rw [List.set_append_right _ _ (by rw [g8];omega),g8,show ((n:Int) + u).toNat - n=u.toNat by omega,C8 h0 h1]
theorem FD (n:Nat):(List.replicate n [D.int 0]).flatten=sL n fun _=>0:=by
 refine List.ext_getElem? fun i=>?_
 have e:(List.replicate n [D.int 0]).flatten=List.replicate n (D.int 0):=by
  induction n with
  | zero=>rfl
  | succ m ih=>rw [List.replicate_succ,List.flatten_cons,ih];rfl
 rw [e]
 by_cases hi:i < n
 ·have:=vt (n:=n) (f:=fun _=>0) (u:=(i:Int)) (by omega) (by omega)
  rw [Int.toNat_natCast] at this
  rw [this,List.getElem?_replicate,if_pos hi]
 ·rw [List.getElem?_eq_none (by rw [List.length_replicate];omega),List.getElem?_eq_none (by rw [g8];omega)]
theorem IA {n:Nat} {f g:Int->Int}:cutD (sL n f ++ sL n g) none (some (n:Int))=sL n f:=by
 rw [Ed,List.take_append_of_le_length (by rw [g8];omega),List.take_of_length_le (by rw [g8];omega)]
def Gf (h g:Int->Int):Nat->Int->Int
 | 0=>fun _=>0
 | i + 1=>mZ (Gf h g i) (h (i:Int)) (g (i:Int))
theorem vz {n:Nat} {h g:Int->Int} (inj:∀ a b:Int,0<=a->a < (n:Int)->0<=b->b < (n:Int)->h a=h b->a=b):∀ (i:Nat),i<=n->∀ s:Nat,s < i->Gf h g i (h (s:Int))=g (s:Int)
 | 0,_,s,hs=>by omega
 | i + 1,hi,s,hs=>by
  show (if h (s:Int)=h (i:Int) then g (i:Int) else Gf h g i (h (s:Int)))=_
  by_cases e:s=i
  ·subst e;rw [if_pos rfl]
  ·rw [if_neg fun z=>e (by have:=inj s i (by omega) (by omega) (by omega) (by omega) z;omega)]
   exact vz inj i (by omega) s (by omega)
def jx (xs:List Int) (a b:Nat) (f g:Int->Int) (i:Nat):Int->Int:=fun u=>f u - ag.Sg i (fun s=>ag.Sg a (fun j=>if ag.aM (ag.inv xs) (s:Int) (j + 1)=u then g (s:Int) else 0)) + ag.Sg i (fun s=>ag.Sg b (fun j=>if ag.aM xs (ag.aM (ag.inv xs) (s:Int) a) j=u then g (s:Int) else 0))
def qf (xs:List Int) (s v:Int) (a:Nat) (F:Int->Int):Int->Int:=fun u=>F u - ag.Sg a (fun j=>if ag.aM (ag.inv xs) s (j + 1)=u then v else 0)
def tZ (xs:List Int) (r v:Int) (b:Nat) (F:Int->Int):Int->Int:=fun u=>F u + ag.Sg b (fun j=>if ag.aM xs r j=u then v else 0)
theorem TC (xs:List Int) (s v:Int) (a:Nat) (F:Int->Int):mZ (qf xs s v a F) (ag.aM (ag.inv xs) s (a + 1)) (qf xs s v a F (ag.aM (ag.inv xs) s (a + 1)) - v)=qf xs s v (a + 1) F:=by
 funext u
 unfold mZ qf
 by_cases e:u=ag.aM (ag.inv xs) s (a + 1)
 ·rw [if_pos e]
  subst e
  show _=F _ - (ag.Sg a _ + (if _ then v else 0))
  rw [if_pos rfl];omega
 ·rw [if_neg e]
  show _=F u - (ag.Sg a _ + (if _ then v else 0))
  rw [if_neg fun z=>e z.symm];omega
theorem TF (xs:List Int) (r v:Int) (b:Nat) (F:Int->Int):mZ (tZ xs r v b F) (ag.aM xs r b) (tZ xs r v b F (ag.aM xs r b) + v)=tZ xs r v (b + 1) F:=by
 funext u
 unfold mZ tZ
 by_cases e:u=ag.aM xs r b
 ·rw [if_pos e]
  subst e
  show _=F _ + (ag.Sg b _ + (if _ then v else 0))
  rw [if_pos rfl];omega
 ·rw [if_neg e]
  show _=F u + (ag.Sg b _ + (if _ then v else 0))
  rw [if_neg fun z=>e z.symm];omega
theorem TH (xs:List Int) (a b:Nat) (f g:Int->Int) (i:Nat):tZ xs (ag.aM (ag.inv xs) (i:Int) a) (g (i:Int)) b (qf xs (i:Int) (g (i:Int)) a (jx xs a b f g i))=jx xs a b f g (i + 1):=by
 funext u
 unfold tZ qf jx
 show _=f u - (ag.Sg i _ + _) + (ag.Sg i _ + _)
 dsimp only
 omega
theorem TJ (xs:List Int) (a b:Nat) (f g:Int->Int):jx xs a b f g 0=f:=by
 funext u
 show f u - 0 + 0=f u
 omega
structure sj (st s:Store) (xs ys:List Int) (n T r5 r6:Nat) (F G:Int->Int):Prop where
 t:s[T]?=some (.dct (nY xs ys))
 l:s[r5]?=some (.lst (sL n F))
 z:s[r6]?=some (.lst (sL n G))
 x:Ex [] st s
theorem sj.C9 {st s:Store} {xs ys:List Int} {n T r5 r6:Nat} {F G:Int->Int} (h:sj st s xs ys n T r5 r6 F G) (h1:st.length<=r5) (ht:T≠r5) (h6:r6≠r5) {u v:Int} (u0:0<=u) (u1:u < (n:Int)):sj st (s.set r5 (.lst ((sL n F).set u.toNat (.int v)))) xs ys n T r5 r6 (mZ F u v) G :=
 ⟨by rw [List.getElem?_set_ne (by omega)];exact h.t,by rw [List.getElem?_set_self (fN h.l),C8 u0 u1],by rw [List.getElem?_set_ne (by omega)];exact h.z,h.x.loc h1⟩
theorem sj.IB {st s:Store} {xs ys:List Int} {n T r5 r6:Nat} {F G:Int->Int} (h:sj st s xs ys n T r5 r6 F G) (h1:st.length<=r6) (ht:T≠r6) (h6:r5≠r6) {u v:Int} (u0:0<=u) (u1:u < (n:Int)):sj st (s.set r6 (.lst ((sL n G).set u.toNat (.int v)))) xs ys n T r5 r6 F (mZ G u v) :=
 ⟨by rw [List.getElem?_set_ne (by omega)];exact h.t,by rw [List.getElem?_set_ne (by omega)];exact h.l,by rw [List.getElem?_set_self (fN h.z),C8 u0 u1],h.x.loc h1⟩
theorem zB {n:Nat} {u:Int} (u0:0<=u) (u1:u < (n:Int)):j5 n u=some u.toNat:=by
 unfold j5
 rw [if_pos u0,if_pos u1]
theorem TK {st:Store} {xs ys:List Int} {n:Nat} {k:Int} {f g:Int->Int} (tx:ag.Tn n xs) (ty:ag.Tn n ys) (hn:n<=100) (hk:k.natAbs<=1000):Wp (zf [cu xs ys,.int k,dI n (f,g)] st) fun d st'=>∃ F G,d=dI n (F,G)/\F=jx xs k.toNat (-k).toNat f g n/\G=Gf (fun s=>ag.aM xs (ag.aM (ag.inv xs) s k.toNat) (-k).toNat) g n/\Ex [] st st':=by
 have hlx:=tx.length
 refine fM ?_
 show Ws (EN [some (cu xs ys),some (.int k),some (dI n (f,g)),none,none,none,none,none,none,none,none] st) _ _ _ _
 unfold EN
 refine aS (bO ?_)
 kspl_open hQ
 refine bj (SN tx ty hn) ?_
 rintro d st1 ⟨rfl,ht1,k1⟩
 have hl1:=fN ht1
 refine hQ _ _ (aS (bO ?_))
 clear hQ
 kspl_open hQ
 unfold cu
 w_how
 rw [List.length_map,hlx]
 refine hQ _ _ (aS (bO ?_))
 clear hQ
 kspl_open hQ
 unfold dI
 set_option simprocs false in simp only [bw,IA]
 refine hQ _ _ (aS (bO ?_))
 clear hQ
 kspl_open hQ
 refine ⟨rfl,by omega,ja (by simp only [List.length_cons,List.length_nil];omega),?_⟩
 rw [Int.toNat_natCast,FD]
 obtain ⟨T,hT⟩:∃ T,T=st.length:=⟨_,rfl⟩
 obtain ⟨r5,h5⟩:∃ r,r=st1.length:=⟨_,rfl⟩
 obtain ⟨r6,h6⟩:∃ r,r=(st1 ++ [O.lst (sL n f)] ++ [O.lst [D.int 0]]).length:=⟨_,rfl⟩
 have e6:r6=r5 + 2:=by rw [h6,h5];simp
 have hO:sj st (st1 ++ [O.lst (sL n f)] ++ [O.lst [D.int 0]] ++ [O.lst (sL n fun _=>0)]) xs ys n T r5 r6 (jx xs k.toNat (-k).toNat f g 0) (Gf (fun s=>ag.aM xs (ag.aM (ag.inv xs) s k.toNat) (-k).toNat) g 0):=⟨by rw [hT];exact gu (gu (gu ht1)),by rw [TJ,h5];exact gu (gu j8),by rw [h6];exact j8,((k1.app _).app _).app _⟩
 refine hQ _ _ ?_
 clear hQ
 show Ws _ _ _ _ _
 rw [<- h6,<- h5,<- hT]
 have UK:T < r5:=by omega
 generalize st1 ++ [O.lst (sL n f)] ++ [O.lst [D.int 0]] ++ [O.lst (sL n fun _=>0)]=s0 at hO ⊢
 obtain ⟨a,ha⟩:∃ a,a=k.toNat:=⟨_,rfl⟩
 obtain ⟨b,hb⟩:∃ b,b=(-k).toNat:=⟨_,rfl⟩
 rw [<- ha,<- hb] at hO ⊢
 refine aS (lY (aD 0 n) (fun i δ s=>∃ v7 v8 v9 v10:Option D,δ=[some (cu xs ys),some (.int k),some (dI n (f,g)),some (.ref T),some (.int (n:Int)),some (.ref r5),some (.ref r6),v7,v8,v9,v10]/\sj st s xs ys n T r5 r6 (jx xs a b f g i) (Gf (fun s=>ag.aM xs (ag.aM (ag.inv xs) s a) b) g i)) ?_ (by rw [dZ];omega) ?_ ?_)
 ·kspl_open hQ
  exact ⟨by omega,hQ _ _ ⟨by rw [Int.toNat_natCast],none,none,none,none,rfl,hO⟩⟩
 ·rintro i d δ s hd ⟨v7,v8,v9,v10,rfl,ho⟩
  have hil:=fN hd
  rw [dZ] at hil
  rw [tH hil,Int.zero_add] at hd
  cases hd
  have i0:(0:Int)<=(i:Int):=by omega
  have i1:(i:Int) < (n:Int):=by omega
  kspl_open hQ
  refine hQ _ _ (aS (bO ?_))
  clear hQ
  kspl_open hQ
  unfold dI
  w_how
  refine ⟨_,si i0 i1,?_⟩
  refine hQ _ _ (aS (bO ?_))
  clear hQ
  kspl_open hQ
  refine hQ _ _ ?_
  clear hQ
  show Ws _ _ _ _ _
  refine aS (lY (aD 0 a) (fun j δ s=>∃ v10:Option D,δ=[some (cu xs ys),some (.int k),some (dI n (f,g)),some (.ref T),some (.int (n:Int)),some (.ref r5),some (.ref r6),some (.int (i:Int)),some (.int (g (i:Int))),some (.int (ag.aM (ag.inv xs) (i:Int) j)),v10]/\sj st s xs ys n T r5 r6 (qf xs (i:Int) (g (i:Int)) j (jx xs a b f g i)) (Gf (fun s=>ag.aM xs (ag.aM (ag.inv xs) s a) b) g i)) ?_ (by rw [dZ];omega) ?_ ?_)
  ·kspl_open hQ
   refine ⟨by omega,hQ _ _ ⟨by rw [ha],_,rfl,?_⟩⟩
   have e:qf xs (i:Int) (g (i:Int)) 0 (jx xs a b f g i)=jx xs a b f g i:=by
    funext u
    show jx xs a b f g i u - 0=_
    omega
   rw [e];exact ho
  ·rintro j d δ s2 hd ⟨GH,rfl,ho2⟩
   have rB:=ag.rQ tx.cQ i0 i1 j
   have zC:=ag.rQ tx.cQ i0 i1 (j + 1)
   kspl_open hQ
   refine hQ _ _ (aS (bO ?_))
   clear hQ
   kspl_open hQ
   refine ⟨_,Eg ho2.t,_,rfl,_,Mj xs ys (j:=2) (by decide),?_⟩
   set_option simprocs false in simp only [bw,o5 (xs:=stepT xs ys 2) rB.1 (by show _ < ((ag.inv xs).length:Int);rw [tx.cQ.length];exact rB.2)]
   refine hQ _ _ (nh ?_)
   clear hQ
   refine bE ?_
   intro bP hQ
   set_option simprocs false in simp only [bw,dS ho2.l]
   have e1:ag.app (stepT xs ys 2) (ag.aM (ag.inv xs) (i:Int) j)=ag.aM (ag.inv xs) (i:Int) (j + 1):=rfl
   rw [e1]
   refine ⟨_,vw zC.1 zC.2,?_⟩
   w_how
   refine hQ _ _ ?_
   clear hQ
   kspl_open hQ
   refine ⟨_,jN ho2.l,_,by rw [g8];exact zB zC.1 zC.2,hQ _ _ ⟨_,rfl,?_⟩⟩
   rw [<- TC]
   exact ho2.C9 (by omega) (by omega) (by omega) zC.1 zC.2
  ·rintro δ s2 ⟨GH,rfl,ho2⟩
   rw [dZ] at ho2 ⊢
   have rA:=ag.rQ tx.cQ i0 i1 a
   refine aS (lY (aD 0 b) (fun j δ s=>∃ v10:Option D,δ=[some (cu xs ys),some (.int k),some (dI n (f,g)),some (.ref T),some (.int (n:Int)),some (.ref r5),some (.ref r6),some (.int (i:Int)),some (.int (g (i:Int))),some (.int (ag.aM xs (ag.aM (ag.inv xs) (i:Int) a) j)),v10]/\sj st s xs ys n T r5 r6 (tZ xs (ag.aM (ag.inv xs) (i:Int) a) (g (i:Int)) j (qf xs (i:Int) (g (i:Int)) a (jx xs a b f g i))) (Gf (fun s=>ag.aM xs (ag.aM (ag.inv xs) s a) b) g i)) ?_ (by rw [dZ];omega) ?_ ?_)
   ·kspl_open hQ
    refine ⟨by omega,hQ _ _ ⟨by rw [hb],_,rfl,?_⟩⟩
    have e:tZ xs (ag.aM (ag.inv xs) (i:Int) a) (g (i:Int)) 0 (qf xs (i:Int) (g (i:Int)) a (jx xs a b f g i))=qf xs (i:Int) (g (i:Int)) a (jx xs a b f g i):=by
     funext u
     show qf xs (i:Int) (g (i:Int)) a (jx xs a b f g i) u + 0=_
     omega
    rw [e];exact ho2
   ·rintro j d δ s3 hd ⟨IC,rfl,l6⟩
    have rB:=ag.rQ tx rA.1 rA.2 j
    kspl_open hQ
    refine hQ _ _ (aS (nh ?_))
    clear hQ
    refine bE ?_
    intro bP hQ
    set_option simprocs false in simp only [bw,dS l6.l]
    refine ⟨_,vw rB.1 rB.2,?_⟩
    w_how
    refine hQ _ _ ?_
    clear hQ
    kspl_open hQ
    refine ⟨_,jN l6.l,_,by rw [g8];exact zB rB.1 rB.2,hQ _ _ (bO ?_)⟩
    clear hQ
    have rq:=l6.C9 (v:=tZ xs (ag.aM (ag.inv xs) (i:Int) a) (g (i:Int)) j (qf xs (i:Int) (g (i:Int)) a (jx xs a b f g i)) (ag.aM xs (ag.aM (ag.inv xs) (i:Int) a) j) + g (i:Int)) (by omega) (by omega) (by omega) rB.1 rB.2
    rw [TF] at rq
    kspl_open hQ
    refine ⟨_,Eg rq.t,_,rfl,_,Mj xs ys (j:=0) (by decide),?_⟩
    set_option simprocs false in simp only [bw,o5 (xs:=stepT xs ys 0) rB.1 (by show _ < (xs.length:Int);rw [tx.length];exact rB.2)]
    exact hQ _ _ ⟨_,rfl,rq⟩
   ·rintro δ s3 ⟨IC,rfl,l6⟩
    rw [dZ] at l6 ⊢
    have rB:=ag.rQ tx rA.1 rA.2 b
    refine nh ?_
    kspl_open hQ
    refine hQ _ _ ?_
    clear hQ
    kspl_open hQ
    refine ⟨_,jN l6.z,_,by rw [g8];exact zB rB.1 rB.2,hQ _ _ ⟨_,_,_,_,rfl,?_⟩⟩
    rw [<- TH]
    exact l6.IB (by omega) (by omega) (by omega) rB.1 rB.2
 ·rintro δ s ⟨v7,v8,v9,v10,rfl,ho⟩
  rw [dZ] at ho
  refine dC ?_
  kspl_open hQ
  refine ⟨_,jN ho.l,_,jN ho.z,ja (by rw [g8,g8];omega),hQ _ _ ⟨_,_,rfl,rfl,rfl,ho.x.app _⟩⟩
theorem IE {n:Nat} {h h' g:Int->Int} (hB:∀ u:Int,0<=u->u < (n:Int)->0<=h' u/\h' u < (n:Int)) (e1:∀ u:Int,0<=u->u < (n:Int)->h (h' u)=u) (e2:∀ u:Int,0<=u->u < (n:Int)->h' (h u)=u) {u:Int} (h0:0<=u) (h1:u < (n:Int)):Gf h g n u=g (h' u):=by
 obtain ⟨b0,b1⟩:=hB u h0 h1
 have:=vz (n:=n) (h:=h) (g:=g) (fun a b a0 a1 c0 c1 z=>by rw [<- e2 a a0 a1,z,e2 b c0 c1]) n (Nat.le_refl n) (h' u).toNat (by omega)
 rw [Int.toNat_of_nonneg b0,e1 u h0 h1] at this
 exact this
theorem TL {n:Nat} {xs ys:List Int} {k:Int} {f g:Int->Int} (tx:ag.Tn n xs):ag.mS n (jx xs k.toNat (-k).toNat f g n,Gf (fun s=>ag.aM xs (ag.aM (ag.inv xs) s k.toNat) (-k).toNat) g n) (ag.cS (xs,ys) (ag.bx (true,k)) (f,g)):=by
 intro u h0 h1
 rcases Int.lt_or_le k 0 with hk | hk
 ·obtain ⟨m,rfl⟩:∃ m:Nat,k=-(m:Int):=⟨k.natAbs,by omega⟩
  have ea:(-(m:Int)).toNat=0:=by omega
  have eb:(- -(m:Int)).toNat=m:=by omega
  rw [ag.G9 (by omega),ag.K5,ea,eb]
  refine ⟨?_,?_⟩
  ·show f u - ag.Sg n (fun _=>0) + ag.Sg n (fun s=>ag.Sg m (fun j=>if ag.aM xs (ag.aM (ag.inv xs) (s:Int) 0) j=u then g (s:Int) else 0))=f u + ag.Sg m (fun j=>g (ag.aM (ag.inv xs) u j))
   rw [ag.DX,ag.K7]
   have:ag.Sg m (fun j=>ag.Sg n (fun s=>if ag.aM xs (ag.aM (ag.inv xs) (s:Int) 0) j=u then g (s:Int) else 0))=ag.Sg m (fun j=>g (ag.aM (ag.inv xs) u j)):=ag.Hd fun j _ =>
    ag.He (f:=fun t=>ag.aM xs t j) (g:=fun t=>ag.aM (ag.inv xs) t j) h0 h1 g (ag.rQ tx.cQ h0 h1 j) (ag.DZ tx h0 h1 j) fun t t0 t1 e=>by
     show t=ag.aM (ag.inv xs) u j
     rw [<- e,ag.DY tx t0 t1]
   rw [this];omega
  ·exact IE (h':=fun t=>ag.aM (ag.inv xs) t m) (fun u a b=>ag.rQ tx.cQ a b m) (fun u a b=>ag.DZ tx a b m) (fun u a b=>ag.DY tx a b m) h0 h1
 ·obtain ⟨m,rfl⟩:∃ m:Nat,k=(m:Int):=⟨k.toNat,by omega⟩
  have ea:((m:Int)).toNat=m:=by omega
  have eb:(-(m:Int)).toNat=0:=by omega
  rw [ag.G8,ag.K4,ea,eb]
  refine ⟨?_,?_⟩
  ·show f u - ag.Sg n (fun s=>ag.Sg m (fun j=>if ag.aM (ag.inv xs) (s:Int) (j + 1)=u then g (s:Int) else 0)) + ag.Sg n (fun _=>0)=f u - ag.Sg m (fun j=>g (ag.aM xs u (j + 1)))
   rw [ag.DX,ag.K7]
   have:ag.Sg m (fun j=>ag.Sg n (fun s=>if ag.aM (ag.inv xs) (s:Int) (j + 1)=u then g (s:Int) else 0))=ag.Sg m (fun j=>g (ag.aM xs u (j + 1))):=ag.Hd fun j _ =>
    ag.He (f:=fun t=>ag.aM (ag.inv xs) t (j + 1)) (g:=fun t=>ag.aM xs t (j + 1)) h0 h1 g (ag.rQ tx h0 h1 (j + 1)) (ag.DY tx h0 h1 (j + 1)) fun t t0 t1 e=>by
     show t=ag.aM xs u (j + 1)
     rw [<- e,ag.DZ tx t0 t1]
   rw [this];omega
  ·exact IE (h':=fun t=>ag.aM xs t m) (fun u a b=>ag.rQ tx a b m) (fun u a b=>ag.DY tx a b m) (fun u a b=>ag.DZ tx a b m) h0 h1
theorem Dc {st:Store} {xs ys:List Int} {n:Nat} {k:Int} {s:ag.Se} (tx:ag.Tn n xs) (ty:ag.Tn n ys) (hn:n<=100) (hk:k.natAbs<=1000):Wp (zf [cu xs ys,.int k,dI n s] st) fun d st'=>d=dI n (ag.cS (xs,ys) (ag.bx (true,k)) s)/\Ex [] st st':=by
 refine bj (TK (f:=s.1) (g:=s.2) tx ty hn hk) ?_
 rintro d st1 ⟨F,G,rfl,rfl,rfl,k1⟩
 exact ⟨zz (TL tx),k1⟩
theorem vA {n:Nat} (hn:n<=100) (n0:0 < n):∀ (j d:Nat),j < d->∀ {st:Store} {xs ys:List Int} {s:ag.Se},ag.Tn n xs->ag.Tn n ys->Wp (vi d [cu xs ys,.int (j:Int),dI n s] st) fun x st'=>x=dI n (ag.cS (xs,ys) (List.replicate j (false,1)) s)/\Ex [] st st'
 | j,0,h,_,_,_,_,_,_=>by omega
 | 0,d + 1,_,st,xs,ys,s,tx,ty=>by
  refine fM ?_
  show Ws (zg (vi d) [some (cu xs ys),some (.int 0),some (dI n s),none,none,none,none] st) _ _ _ _
  unfold zg
  refine aS (gs ?_)
  kspl_open hQ
  refine hQ _ _ ⟨fun _=>dC ?_,fun z=>absurd z (by decide)⟩
  clear hQ
  kspl_open hQ
  exact hQ _ _ ⟨rfl,Ex.refl⟩
 | j + 1,d + 1,h,st,xs,ys,s,tx,ty=>by
  have hlx:=tx.length
  refine fM ?_
  show Ws (zg (vi d) [some (cu xs ys),some (.int ((j + 1:Nat):Int)),some (dI n s),none,none,none,none] st) _ _ _ _
  unfold zg
  refine aS (gs ?_)
  kspl_open hQ
  refine hQ _ _ ⟨fun z=>absurd z (by rw [decide_eq_true_eq];omega),fun _=>kf (aS (bO ?_))⟩
  clear hQ
  kspl_open hQ
  refine bj (Mi tx ty hn) ?_
  rintro d s1 ⟨rfl,k1⟩
  rw [show (((j + 1:Nat):Int) - 1)=(j:Int) by omega]
  refine bj (vA hn n0 j d (by omega) ty.cQ tx) ?_
  rintro d s2 ⟨rfl,k2⟩
  have et:ag.cS (xs,ys) (List.replicate (j + 1) (false,1)) s=ag.wR ys (ag.cS (ag.inv ys,xs) (List.replicate j (false,1)) s):=rfl
  generalize ag.cS (ag.inv ys,xs) (List.replicate j (false,1)) s=t at et ⊢
  refine hQ _ _ (aS (bO ?_))
  clear hQ
  kspl_open hQ
  unfold cu
  w_how
  rw [List.length_map,hlx]
  refine hQ _ _ (aS (bO ?_))
  clear hQ
  kspl_open hQ
  refine ⟨rfl,by omega,ja (by simp only [List.length_cons,List.length_nil];omega),?_⟩
  rw [Int.toNat_natCast,FD]
  have e5:(s2 ++ [O.lst [D.int 0]]).length=s2.length + 1:=by simp
  refine hQ _ _ ?_
  clear hQ
  show Ws _ _ _ _ _
  rw [e5]
  refine aS (lY (aD 0 n) (fun i δ s'=>∃ v6:Option D,δ=[some (cu xs ys),some (.int ((j + 1:Nat):Int)),some (dI n s),some (dI n t),some (.int (n:Int)),some (.ref (s2.length + 1)),v6]/\s'[s2.length + 1]?=some (.lst (sL n (Gf (ag.app ys) t.2 i)))/\Ex [] st s') ?_ (by rw [dZ];omega) ?_ ?_)
  ·kspl_open hQ
   refine ⟨by omega,hQ _ _ ⟨by rw [Int.toNat_natCast],none,rfl,?_,(((k1.trans k2).app _).app _)⟩⟩
   rw [<- e5];exact j8
  ·rintro i d' δ s' hd ⟨v6,rfl,hl,kx⟩
   have hil:=fN hd
   rw [dZ] at hil
   rw [tH hil,Int.zero_add] at hd
   cases hd
   have i0:(0:Int)<=(i:Int):=by omega
   have i1:(i:Int) < (n:Int):=by omega
   have yB:=ty.app i0 i1
   unfold cu dI
   kspl_open hQ
   refine hQ _ _ (nh ?_)
   clear hQ
   kspl_open hQ
   refine ⟨_,si i0 i1,hQ _ _ ?_⟩
   clear hQ
   refine bE ?_
   intro bP hQ
   set_option simprocs false in simp only [bw,o5 (xs:=ys) i0 (by rw [ty.length];exact i1)]
   refine ⟨_,jN hl,_,by rw [g8];exact zB yB.1 yB.2,hQ _ _ ⟨_,rfl,?_,kx.loc (by have:=(k1.trans k2).len;omega)⟩⟩
   rw [List.getElem?_set_self (fN hl),C8 yB.1 yB.2]
   rfl
  ·rintro δ s' ⟨v6,rfl,hl,kx⟩
   rw [dZ] at hl
   refine dC ?_
   kspl_open hQ
   refine y8 (sL n t.1) (fun d=>match d with | .int z=>.int (-z) | _=>.non) ?_ (by rw [g8];omega) ?_ ?_
   ·unfold dI
    refine bE ?_
    intro kY cJ
    set_option simprocs false in simp only [bw,IA]
    exact cJ _ _ ⟨sd _ _,Ex.refl⟩
   ·intro d' hd' s3 k3
    unfold sL at hd'
    obtain ⟨u,hu,rfl⟩:=List.mem_map.mp hd'
    kspl_open cJ
    exact cJ _ _ ⟨rfl,Ex.refl⟩
   ·intro s3 k3
    have eM:(sL n t.1).map (fun d=>match d with | .int z=>D.int (-z) | _=>.non)=sL n (fun u=>-t.1 u):=by
     unfold sL
     rw [List.map_map];rfl
    rw [eM]
    have hl3:=k3.keep _ _ hl (by simp)
    set_option simprocs false in simp only [bw,jN (gu (m:=[O.lst (sL n fun u=>-t.1 u)]) hl3),Hz]
    refine ⟨ja (by rw [g8,g8];omega),hQ _ _ ⟨?_,((kx.trans k3).app _).app _⟩⟩
    rw [et]
    refine zz (s:=(Gf (ag.app ys) t.2 n,fun u=>-t.1 u)) (t:=ag.wR ys t) fun u h0 h1=>⟨?_,rfl⟩
    exact IE (h':=ag.app (ag.inv ys)) (fun u a b=>ty.nL a b) (fun u a b=>ty.dc a b) (fun u a b=>ty.dJ a b) h0 h1
theorem FE {n:Nat} {p:ag.iw} (h:ag.Vf n p) (w:List dY):ag.Vf n (ag.eY p w):=h.ld
theorem IF (p:ag.iw) (w:List dY) {i:Nat} {s:dY} (h:w[i]?=some s):ag.eY p (w.take (i + 1))=ag.stM (ag.eY p (w.take i)) s:=by
 obtain ⟨hi,e⟩:=List.getElem?_eq_some_iff.mp h
 rw [List.take_succ_eq_append_getElem hi,ag.wO,e]
 rfl
theorem FF {st:Store} {xs ys:List Int} {n:Nat} {w:List dY} {s:ag.Se} (tx:ag.Tn n xs) (ty:ag.Tn n ys) (n0:0 < n) (hn:n<=100) (hw:∀ s∈w,ym s) (hb:∀ s∈w,s.2.natAbs<=1000) (hl:w.length<=1000):Wp (qr [cu xs ys,.tup (w.map bq),dI n s] st) fun d st'=>d=dI n (ag.cS (xs,ys) (w.flatMap ag.bx) s)/\Ex [] st st':=by
 have vf:ag.Vf n (xs,ys):=⟨tx,ty⟩
 refine fM ?_
 show Ws (ER [some (cu xs ys),some (.tup (w.map bq)),some (dI n s),none,none,none] st) _ _ _ _
 unfold ER
 refine aS (bO ?_)
 kspl_open hQ
 refine hQ _ _ ?_
 clear hQ
 show Ws _ _ _ _ _
 refine aS (lY (gP ((w.length:Int) - 1) w.length) (fun i δ s'=>∃ v4 v5:Option D,δ=[some (cu xs ys),some (.tup (w.map bq)),some (dI n s),some (dI n (ag.cS (ag.eY (xs,ys) (w.take (w.length - i))) ((w.drop (w.length - i)).flatMap ag.bx) s)),v4,v5]/\Ex [] st s') ?_ (by rw [ve];omega) ?_ ?_)
 ·refine bE ?_
  intro bP hQ
  set_option simprocs false in simp only [bw,LY]
  rw [List.length_map]
  refine ⟨_,_,⟨rfl,rfl⟩,by omega,hQ _ _ ⟨by rw [show ((w.length:Int) - 1 - -1).toNat=w.length by omega],none,none,?_,Ex.refl⟩⟩
  rw [Nat.sub_zero,List.drop_length]
  rfl
 ·rintro i d δ s' hd ⟨v4,v5,rfl,kx⟩
  have hil:=fN hd
  rw [ve] at hil
  rw [HP hil] at hd
  cases hd
  obtain ⟨j,hj⟩:∃ j:Nat,w.length=i + (j + 1):=⟨w.length - i - 1,by omega⟩
  have ej:((w.length:Int) - 1 - (i:Int))=(j:Int):=by omega
  rw [ej,show w.length - i=j + 1 by omega,show w.length - (i + 1)=j by omega]
  have hjl:j < w.length:=by omega
  have ew:w[j]?=some w[j]:=List.getElem?_eq_getElem hjl
  have hm:w[j]∈w:=List.getElem_mem hjl
  have ok:=hw _ hm
  have bd:=hb _ hm
  have eC:ag.cS (ag.eY (xs,ys) (w.take j)) ((w.drop j).flatMap ag.bx) s=ag.cS (ag.eY (xs,ys) (w.take j)) (ag.bx w[j]) (ag.cS (ag.eY (xs,ys) (w.take (j + 1))) ((w.drop (j + 1)).flatMap ag.bx) s):=by
   rw [List.drop_eq_getElem_cons hjl,List.flatMap_cons,ag.wU,ag.PN (FE vf _) ok,IF _ _ ew]
  rw [eC]
  generalize ag.cS (ag.eY (xs,ys) (w.take (j + 1))) ((w.drop (j + 1)).flatMap ag.bx) s=t
  have va:=FE vf (w.take j)
  have hat:gj (w.map bq) (j:Int)=some (bq w[j]):=zA (by omega) (by rw [Int.toNat_natCast,List.getElem?_map,ew];rfl)
  clear eC
  obtain ⟨b,k,TM⟩:∃ b k,w[j]=(b,k):=⟨_,_,rfl⟩
  rw [TM] at ok bd hat ⊢
  generalize hq:ag.eY (xs,ys) (w.take j)=q at va ⊢
  kspl_open hQ
  refine hQ _ _ (aS (bO ?_))
  clear hQ
  refine bE ?_
  intro bP hQ
  set_option simprocs false in simp only [bw,Ed]
  rw [<- List.map_take]
  refine bj (SY (p:=(xs,ys)) ⟨tx,ty⟩ hn (fun s hs=>hw s (List.mem_of_mem_take hs)) (by rw [List.length_take];omega)) ?_
  rintro d s1 ⟨rfl,k1⟩
  rw [MB,hq]
  simp only at bd
  have es1:bq (b,k)=.tup [.str (if b then "s" else "t"),.int k]:=rfl
  rw [es1] at hat
  refine hQ _ _ (gs ?_)
  clear hQ
  refine bE ?_
  intro bP hQ
  set_option simprocs false in simp only [bw,hat]
  cases b with
  | true =>
   refine hQ _ _ ⟨fun _=>bO ?_,fun z=>absurd z (by decide)⟩
   clear hQ
   refine bE ?_
   intro bP hQ
   set_option simprocs false in simp only [bw,hat]
   refine bj (Dc (xs:=q.1) (ys:=q.2) (s:=t) va.1 va.2 hn bd) ?_
   rintro d s2 ⟨rfl,k2⟩
   exact hQ _ _ ⟨_,_,rfl,(kx.trans k1).trans k2⟩
  | false =>
   have p3:=ok rfl
   simp only at p3
   obtain ⟨m,rfl⟩:∃ m:Nat,k=(m:Int):=⟨k.toNat,by omega⟩
   refine hQ _ _ ⟨fun z=>absurd z (by decide),fun _=>bO ?_⟩
   clear hQ
   refine bE ?_
   intro bP hQ
   set_option simprocs false in simp only [bw,hat]
   refine bj (vA hn n0 m 6 (by omega) (xs:=q.1) (ys:=q.2) (s:=t) va.1 va.2) ?_
   rintro d s2 ⟨rfl,k2⟩
   rw [<- ag.Ha]
   exact hQ _ _ ⟨_,_,rfl,(kx.trans k1).trans k2⟩
 ·rintro δ s' ⟨v4,v5,rfl,kx⟩
  rw [ve,Nat.sub_self]
  refine dC ?_
  kspl_open hQ
  exact hQ _ _ ⟨rfl,kx⟩
theorem TN {st:Store} {w:List dY} (hl:w.length<=1000) (hb:(w.flatMap ag.bx).length<=1000) (hk:∀ s∈w,s.2.natAbs<=1000):Wp (CL [.tup (w.map bq)] st) fun d st'=>d=.ref st.length/\st'[st.length]?=some (.lst ((w.flatMap ag.bx).map bq))/\Ex [] st st':=by
 refine fM ?_
 show Ws (Fe [some (.tup (w.map bq)),none,none,none] st) _ _ _ _
 unfold Fe
 refine aS (bO ?_)
 kspl_open hQ
 refine ⟨rfl,hQ _ _ ?_⟩
 clear hQ
 show Ws _ _ _ _ _
 refine aS (lY (w.map bq) (fun i δ s=>∃ v2 v3:Option D,δ=[some (.tup (w.map bq)),some (.ref st.length),v2,v3]/\s[st.length]?=some (.lst (((w.take i).flatMap ag.bx).map bq))/\Ex [] st s) ?_ (by rw [List.length_map];omega) ?_ ?_)
 ·kspl_open hQ
  exact hQ _ _ ⟨rfl,none,none,rfl,j8,Ex.cf _⟩
 ·rintro i d δ s hd ⟨v2,v3,rfl,hs,kx⟩
  rw [List.getElem?_map] at hd
  obtain ⟨a,ha,rfl⟩:=Option.map_eq_some_iff.mp hd
  obtain ⟨hi,ea⟩:=List.getElem?_eq_some_iff.mp ha
  have hka:=hk a (List.mem_of_getElem? ha)
  have et:(w.take (i + 1)).flatMap ag.bx=(w.take i).flatMap ag.bx ++ ag.bx a:=by
   rw [List.take_succ_eq_append_getElem hi,List.flatMap_append,ea]
   simp
  have hlt:((w.take (i + 1)).flatMap ag.bx).length<=1000:=by
   refine Nat.le_trans ?_ hb
   have:w.flatMap ag.bx=(w.take (i + 1)).flatMap ag.bx ++ (w.drop (i + 1)).flatMap ag.bx:=by rw [<- List.flatMap_append,List.take_append_drop]
   rw [this,List.length_append]
   omega
  rw [et] at hlt ⊢
  rw [List.length_append] at hlt
  obtain ⟨b,k⟩:=a
  simp only at hka
  have es1:bq (b,k)=.tup [.str (if b then "s" else "t"),.int k]:=rfl
  rw [es1]
  kspl_open hQ
  refine ⟨rfl,hQ _ _ (rZ ?_)⟩
  clear hQ
  kspl_open hQ
  refine ⟨qX (by rw [dS hs];rfl),?_⟩
  refine y8 (aD 0 k.natAbs) (fun _=>bq (b,if k < 0 then -1 else 1)) ?_ (by rw [dZ];omega) ?_ ?_
  ·kspl_open cJ
   have hm:(if 0 - k > k then 0 - k else k)=(k.natAbs:Int):=by split <;> omega
   rw [hm]
   exact ⟨by omega,cJ _ _ ⟨by rw [Int.toNat_natCast];exact sd _ _,Ex.refl⟩⟩
  ·intro d hd s1 k1
   refine bE ?_
   intro kY cJ
   set_option simprocs false in simp only [bw,List.map_cons,List.map_nil,List.getD_cons_succ,List.getD_cons_zero]
   refine ⟨rfl,.int (if k < 0 then -1 else 1),?_,rfl,cJ _ _ ⟨rfl,Ex.cf _⟩⟩
   by_cases z:k < 0
   ·rw [if_pos (decide_eq_true z),if_pos z];exact qY _ _ _
   ·rw [if_neg (by rw [decide_eq_true_eq];exact z),if_neg z];exact r9 _ _
  ·intro s1 k1
   have eM:(aD 0 k.natAbs).map (fun _=>bq (b,if k < 0 then -1 else 1))=(ag.bx (b,k)).map bq:=by
    unfold ag.bx
    rw [List.map_replicate,List.map_const',dZ]
   rw [eM]
   have hs1:=k1.keep _ _ hs (by simp)
   set_option simprocs false in simp only [bw,jN (gu (m:=[O.lst ((ag.bx (b,k)).map bq)]) hs1),Hz,tJ]
   refine ⟨ja (by rw [List.length_map,List.length_map];omega),hQ _ _ ⟨_,_,rfl,?_,((kx.trans k1).app _).loc (Nat.le_refl _)⟩⟩
   rw [List.getElem?_set_self (by have:=fN hs1;rw [List.length_append];omega),<- List.map_append]
 ·rintro δ s ⟨v2,v3,rfl,hs,kx⟩
  rw [List.length_map,List.take_length] at hs
  refine dC ?_
  kspl_open hQ
  exact hQ _ _ ⟨rfl,hs,kx⟩
def t9 (a:dY):Prop:=a=(true,1)\/a=(true,-1)\/a=(false,1)
theorem TQ {a b:dY} (hb:a.1=false->1<=a.2/\a.2<=3) (h:b∈ag.bx a):t9 b:=by
 rcases ag.Hb a hb with ⟨k,rfl,e⟩ | ⟨k,hk,rfl,e⟩ | ⟨k,h1,h3,rfl,e⟩
 ·rw [e] at h;exact .inl (List.mem_replicate.mp h).2
 ·rw [e] at h;exact .inr (.inl (List.mem_replicate.mp h).2)
 ·rw [e] at h;exact .inr (.inr (List.mem_replicate.mp h).2)
structure oh (st s:Store) (n r:Nat) (F G:Int->Int):Prop where
 l:s[r]?=some (.lst (sL n F ++ sL n G))
 x:Ex [] st s
theorem oh.yr {st s:Store} {n r:Nat} {F G:Int->Int} (h:oh st s n r F G) (h1:st.length<=r) {u v:Int} (u0:0<=u) (u1:u < (n:Int)):oh st (s.set r (.lst ((sL n F ++ sL n G).set u.toNat (.int v)))) n r (mZ F u v) G :=
 ⟨by rw [List.getElem?_set_self (fN h.l),Tz u0 u1],h.x.loc h1⟩
theorem oh.yt {st s:Store} {n r:Nat} {F G:Int->Int} (h:oh st s n r F G) (h1:st.length<=r) {u v:Int} (u0:0<=u) (u1:u < (n:Int)):oh st (s.set r (.lst ((sL n F ++ sL n G).set ((n:Int) + u).toNat (.int v)))) n r F (mZ G u v) :=
 ⟨by rw [List.getElem?_set_self (fN h.l),TB u0 u1],h.x.loc h1⟩
theorem yu {n:Nat} {u:Int} (u0:0<=u) (u1:u < (n:Int)):j5 (n + n) u=some u.toNat:=zB u0 (by omega)
theorem yw {n:Nat} {u:Int} (u0:0<=u) (u1:u < (n:Int)):j5 (n + n) ((n:Int) + u)=some ((n:Int) + u).toNat:=zB (by omega) (by omega)
def Ac (h g F:Int->Int):Nat->Int->Int
 | 0=>F
 | i + 1=>mZ (Ac h g F i) (h (i:Int)) (Ac h g F i (h (i:Int)) + g (i:Int))
theorem IG (h g F:Int->Int):∀ (i:Nat) (u:Int),Ac h g F i u=F u + ag.Sg i (fun s=>if h (s:Int)=u then g (s:Int) else 0)
 | 0,u=>by show F u=F u + 0;omega
 | i + 1,u=>by
  show (if u=h (i:Int) then Ac h g F i (h (i:Int)) + g (i:Int) else Ac h g F i u)=F u + (ag.Sg i _ + (if h (i:Int)=u then g (i:Int) else 0))
  by_cases e:u=h (i:Int)
  ·subst e
   rw [if_pos rfl,if_pos rfl,IG h g F i];omega
  ·rw [if_neg e,if_neg fun z=>e z.symm,IG h g F i];omega
theorem zD {n:Nat} {h h' g F:Int->Int} (hB:∀ u:Int,0<=u->u < (n:Int)->0<=h' u/\h' u < (n:Int)) (e1:∀ u:Int,0<=u->u < (n:Int)->h (h' u)=u) (e2:∀ u:Int,0<=u->u < (n:Int)->h' (h u)=u) {u:Int} (h0:0<=u) (h1:u < (n:Int)):Ac h g F n u=F u + g (h' u):=by
 rw [IG,ag.He (f:=h) (g:=h') h0 h1 g (hB u h0 h1) (e1 u h0 h1) fun t t0 t1 e=>by rw [<- e,e2 t t0 t1]]
theorem eqT {st:Store} {Q:D->Store->Prop} {k:Int}:Wp (jl false (bq (true,k)) (.tup [.str "t",.int 1]) st) Q↔Q (.bl false) st:=by
 rw [show D.tup [.str "t",.int 1]=bq (false,1) from rfl,Ei (n:=1) (Ej 0 (true,k)) (Ej 0 (false,1)) (by decide)]
 have hne:¬ bq (true,k)=bq (false,1):=fun z=>by
  have z:D.tup [.str "s",.int k]=D.tup [.str "t",.int 1]:=z
  have:=(List.cons.inj (D.tup.inj z)).1
  exact absurd (D.str.inj this) (by decide)
 simp [hne]
theorem IH {st:Store} {Q:D->Store->Prop}:Wp (jl false (bq (false,1)) (.tup [.str "t",.int 1]) st) Q↔Q (.bl true) st:=by
 rw [show D.tup [.str "t",.int 1]=bq (false,1) from rfl,Ei (n:=1) (Ej 0 (false,1)) (Ej 0 (false,1)) (by decide)]
 simp
theorem TR {st:Store} {xs ys:List Int} {n:Nat} {a:dY} {s:ag.Se} (tx:ag.Tn n xs) (ty:ag.Tn n ys) (hn:n<=100) (ha:t9 a):Wp (CP [cu xs ys,bq a,dI n s] st) fun d st'=>d=dI n (ag.pK (xs,ys) a s)/\Ex [] st st':=by
 have hlx:=tx.length
 obtain ⟨f,g⟩:=s
 refine fM ?_
 show Ws (Fh [some (cu xs ys),some (bq a),some (dI n (f,g)),none,none,none,none,none,none] st) _ _ _ _
 unfold Fh
 refine aS (bO ?_)
 unfold cu
 kspl_open hQ
 rw [List.length_map,hlx]
 refine hQ _ _ (aS (bO ?_))
 clear hQ
 kspl_open hQ
 unfold dI
 obtain ⟨b,k⟩:=a
 have es1:bq (b,k)=.tup [.str (if b then "s" else "t"),.int k]:=rfl
 rw [es1]
 set_option simprocs false in simp only [bw,IA]
 have TU:(2 * (n:Int)).toNat=n + n:=by omega
 have z2:(List.replicate (n + n) [D.int 0]).flatten=sL n (fun _=>0) ++ sL n (fun _=>0):=by
  rw [<- FD,<- List.flatten_append,List.replicate_append_replicate]
 rw [Int.toNat_natCast,TU,FD,z2]
 refine ⟨rfl,.inl (by decide),by omega,ja (by simp only [List.length_cons,List.length_nil];omega),rfl,by omega,ja (by simp only [List.length_cons,List.length_nil];omega),ja (by rw [g8,g8];omega),rfl,?_⟩
 generalize TV:st ++ [O.lst [D.int 0]]=S1
 have k1:Ex [] st S1:=by rw [<- TV];exact Ex.cf _
 have l1:st.length<=S1.length:=k1.len
 generalize yl:S1 ++ [O.lst (sL n (fun _=>0) ++ sL n (fun _=>0))] ++ [O.lst (sL n f)] ++ [O.lst [D.int 0]] ++ [O.lst (sL n fun _=>0)]=S2
 have k2:Ex [] S1 S2:=by rw [<- yl];exact (((Ex.cf _).trans (Ex.cf _)).trans (Ex.cf _)).trans (Ex.cf _)
 have l2:S1.length<=S2.length:=k2.len
 have hz:S2[S1.length]?=some (.lst (sL n (fun _=>0) ++ sL n (fun _=>0))):=by rw [<- yl];exact gu (gu (gu j8))
 rcases ha with ha | ha | ha
 ·obtain ⟨rfl,rfl⟩:=Prod.mk.inj ha
  refine ⟨_,by rw [if_pos (by decide)];exact qY _ _ _,?_⟩
  have hO:oh st (S2 ++ [O.lst (sL n f ++ sL n fun _=>0)] ++ [O.lst [D.ref S1.length,D.ref S2.length]]) n S2.length f (fun _=>0):=⟨gu j8,((k1.trans k2).app _).app _⟩
  generalize S2 ++ [O.lst (sL n f ++ sL n fun _=>0)] ++ [O.lst [D.ref S1.length,D.ref S2.length]]=S3 at hO ⊢
  have hr:st.length<=S2.length:=by omega
  generalize S2.length=r at hO hr ⊢
  refine hQ _ _ ?_
  clear hQ
  show Ws _ _ _ _ _
  refine aS (lY (aD 0 n) (fun i δ s=>∃ v5 v6 v7 v8:Option D,δ=[some (cu xs ys),some (bq (true,1)),some (dI n (f,g)),some (.int (n:Int)),some (.ref r),v5,v6,v7,v8]/\oh st s n r (Ac (ag.app (ag.inv xs)) (fun u=>-1 * g u) f i) (Ac (ag.app (ag.inv xs)) g (fun _=>0) i)) ?_ (by rw [dZ];omega) ?_ ?_)
  ·kspl_open hQ
   exact ⟨by omega,hQ _ _ ⟨by rw [Int.toNat_natCast],none,none,none,none,rfl,hO⟩⟩
  ·rintro i d δ s hd ⟨v5,v6,v7,v8,rfl,ho⟩
   have hil:=fN hd
   rw [dZ] at hil
   rw [tH hil,Int.zero_add] at hd
   cases hd
   have i0:(0:Int)<=(i:Int):=by omega
   have i1:(i:Int) < (n:Int):=by omega
   have yB:=tx.nL i0 i1
   kspl_open hQ
   refine hQ _ _ (gs ?_)
   clear hQ
   kspl_open hQ
   refine ⟨rfl,?_⟩
   rw [eqT]
   refine ⟨false,rfl,hQ _ _ ⟨fun z=>absurd z (by decide),fun _=>aS (bO ?_)⟩⟩
   clear hQ
   rw [show bq (true,1)=.tup [.str "s",.int 1] from rfl]
   kspl_open hQ
   refine ⟨rfl,_,by rw [if_pos (by decide)];exact qY _ _ _,?_⟩
   refine bj (Mk (j:=2) tx ty i0 i1 (by decide)) ?_
   rintro d s1 ⟨rfl,m1⟩
   rw [show Ij xs ys (i:Int) 2=ag.app (ag.inv xs) (i:Int) from rfl]
   have wC:oh st s1 n r (Ac (ag.app (ag.inv xs)) (fun u=>-1 * g u) f i) (Ac (ag.app (ag.inv xs)) g (fun _=>0) i):=⟨m1.keep _ _ (gu ho.l) (by simp),(ho.x.app _).trans m1⟩
   refine hQ _ _ (aS (bO ?_))
   clear hQ
   kspl_open hQ
   refine ⟨rfl,_,by rw [if_pos (by decide)];exact qY _ _ _,?_⟩
   have ho2:oh st (s1 ++ [O.lst [D.int (i:Int),D.int (ag.app (ag.inv xs) (i:Int))]]) n r (Ac (ag.app (ag.inv xs)) (fun u=>-1 * g u) f i) (Ac (ag.app (ag.inv xs)) g (fun _=>0) i):=⟨gu wC.l,wC.x.app _⟩
   generalize s1 ++ [O.lst [D.int (i:Int),D.int (ag.app (ag.inv xs) (i:Int))]]=s2 at ho2 ⊢
   refine hQ _ _ (aS (nh ?_))
   clear hQ
   unfold dI
   refine bE ?_
   intro bP hQ
   set_option simprocs false in simp only [bw,dS ho2.l]
   refine ⟨_,si yB.1 yB.2,_,si i0 i1,?_⟩
   w_how
   refine hQ _ _ ?_
   clear hQ
   kspl_open hQ
   refine ⟨_,jN ho2.l,_,by rw [List.length_append,g8,g8];exact yw yB.1 yB.2,hQ _ _ (nh ?_)⟩
   clear hQ
   have l6:=ho2.yt (v:=Ac (ag.app (ag.inv xs)) g (fun _=>0) i (ag.app (ag.inv xs) (i:Int)) + g (i:Int)) hr yB.1 yB.2
   rw [show mZ (Ac (ag.app (ag.inv xs)) g (fun _=>0) i) (ag.app (ag.inv xs) (i:Int)) (Ac (ag.app (ag.inv xs)) g (fun _=>0) i (ag.app (ag.inv xs) (i:Int)) + g (i:Int))=Ac (ag.app (ag.inv xs)) g (fun _=>0) (i + 1) from rfl] at l6
   generalize s2.set r (O.lst ((sL n (Ac (ag.app (ag.inv xs)) (fun u=>-1 * g u) f i) ++ sL n (Ac (ag.app (ag.inv xs)) g (fun _=>0) i)).set ((n:Int) + ag.app (ag.inv xs) (i:Int)).toNat (D.int (Ac (ag.app (ag.inv xs)) g (fun _=>0) i (ag.app (ag.inv xs) (i:Int)) + g (i:Int)))))=s3 at l6 ⊢
   refine bE ?_
   intro bP hQ
   set_option simprocs false in simp only [bw,dS l6.l]
   refine ⟨_,FC yB.1 yB.2,rfl,_,by rw [if_neg (by decide)];exact r9 _ _,_,si i0 i1,?_⟩
   w_how
   refine ⟨.inl (by decide),hQ _ _ ?_⟩
   clear hQ
   have rq:oh st (s3 ++ [O.lst [D.int (0 - 1),D.int 1]]) n r (Ac (ag.app (ag.inv xs)) (fun u=>-1 * g u) f i) (Ac (ag.app (ag.inv xs)) g (fun _=>0) (i + 1)):=⟨gu l6.l,l6.x.app _⟩
   generalize s3 ++ [O.lst [D.int (0 - 1),D.int 1]]=s4 at rq ⊢
   kspl_open hQ
   refine ⟨_,jN rq.l,_,by rw [List.length_append,g8,g8];exact yu yB.1 yB.2,hQ _ _ ⟨_,_,_,_,rfl,?_⟩⟩
   exact rq.yr hr yB.1 yB.2
  ·rintro δ s ⟨v5,v6,v7,v8,rfl,ho⟩
   rw [dZ] at ho
   refine dC ?_
   refine bE ?_
   intro bP hQ
   set_option simprocs false in simp only [bw,dS ho.l]
   refine hQ _ _ ⟨?_,ho.x⟩
   refine zz (s:=(Ac (ag.app (ag.inv xs)) (fun u=>-1 * g u) f n,Ac (ag.app (ag.inv xs)) g (fun _=>0) n)) fun u h0 h1=>?_
   have a1:=zD (h:=ag.app (ag.inv xs)) (h':=ag.app xs) (g:=fun u=>-1 * g u) (F:=f) (fun u a b=>tx.app a b) (fun u a b=>tx.dJ a b) (fun u a b=>tx.dc a b) h0 h1
   have a2:=zD (h:=ag.app (ag.inv xs)) (h':=ag.app xs) (g:=g) (F:=fun _=>0) (fun u a b=>tx.app a b) (fun u a b=>tx.dJ a b) (fun u a b=>tx.dc a b) h0 h1
   show Ac (ag.app (ag.inv xs)) (fun u=>-1 * g u) f n u=f u - g (ag.app xs u)/\Ac (ag.app (ag.inv xs)) g (fun _=>0) n u=g (ag.app xs u)
   rw [a1,a2]
   omega
 ·obtain ⟨rfl,rfl⟩:=Prod.mk.inj ha
  refine ⟨_,by rw [if_pos (by decide)];exact qY _ _ _,?_⟩
  have hO:oh st (S2 ++ [O.lst (sL n f ++ sL n fun _=>0)] ++ [O.lst [D.ref S1.length,D.ref S2.length]]) n S2.length f (fun _=>0):=⟨gu j8,((k1.trans k2).app _).app _⟩
  generalize S2 ++ [O.lst (sL n f ++ sL n fun _=>0)] ++ [O.lst [D.ref S1.length,D.ref S2.length]]=S3 at hO ⊢
  have hr:st.length<=S2.length:=by omega
  generalize S2.length=r at hO hr ⊢
  refine hQ _ _ ?_
  clear hQ
  show Ws _ _ _ _ _
  refine aS (lY (aD 0 n) (fun i δ s=>∃ v5 v6 v7 v8:Option D,δ=[some (cu xs ys),some (bq (true,-1)),some (dI n (f,g)),some (.int (n:Int)),some (.ref r),v5,v6,v7,v8]/\oh st s n r (Ac (fun u=>u) (fun u=>1 * g u) f i) (Ac (ag.app xs) g (fun _=>0) i)) ?_ (by rw [dZ];omega) ?_ ?_)
  ·kspl_open hQ
   exact ⟨by omega,hQ _ _ ⟨by rw [Int.toNat_natCast],none,none,none,none,rfl,hO⟩⟩
  ·rintro i d δ s hd ⟨v5,v6,v7,v8,rfl,ho⟩
   have hil:=fN hd
   rw [dZ] at hil
   rw [tH hil,Int.zero_add] at hd
   cases hd
   have i0:(0:Int)<=(i:Int):=by omega
   have i1:(i:Int) < (n:Int):=by omega
   have yB:=tx.app i0 i1
   kspl_open hQ
   refine hQ _ _ (gs ?_)
   clear hQ
   kspl_open hQ
   refine ⟨rfl,?_⟩
   rw [eqT]
   refine ⟨false,rfl,hQ _ _ ⟨fun z=>absurd z (by decide),fun _=>aS (bO ?_)⟩⟩
   clear hQ
   rw [show bq (true,-1)=.tup [.str "s",.int (-1)] from rfl]
   kspl_open hQ
   refine ⟨rfl,_,by rw [if_neg (by decide)];exact r9 _ _,?_⟩
   refine bj (Mk (j:=0) tx ty i0 i1 (by decide)) ?_
   rintro d s1 ⟨rfl,m1⟩
   rw [show Ij xs ys (i:Int) 0=ag.app xs (i:Int) from rfl]
   have wC:oh st s1 n r (Ac (fun u=>u) (fun u=>1 * g u) f i) (Ac (ag.app xs) g (fun _=>0) i):=⟨m1.keep _ _ (gu ho.l) (by simp),(ho.x.app _).trans m1⟩
   refine hQ _ _ (aS (bO ?_))
   clear hQ
   kspl_open hQ
   refine ⟨rfl,_,by rw [if_neg (by decide)];exact r9 _ _,?_⟩
   have ho2:oh st (s1 ++ [O.lst [D.int (i:Int),D.int (ag.app xs (i:Int))]]) n r (Ac (fun u=>u) (fun u=>1 * g u) f i) (Ac (ag.app xs) g (fun _=>0) i):=⟨gu wC.l,wC.x.app _⟩
   generalize s1 ++ [O.lst [D.int (i:Int),D.int (ag.app xs (i:Int))]]=s2 at ho2 ⊢
   refine hQ _ _ (aS (nh ?_))
   clear hQ
   unfold dI
   refine bE ?_
   intro bP hQ
   set_option simprocs false in simp only [bw,dS ho2.l]
   refine ⟨_,si yB.1 yB.2,_,si i0 i1,?_⟩
   w_how
   refine hQ _ _ ?_
   clear hQ
   kspl_open hQ
   refine ⟨_,jN ho2.l,_,by rw [List.length_append,g8,g8];exact yw yB.1 yB.2,hQ _ _ (nh ?_)⟩
   clear hQ
   have l6:=ho2.yt (v:=Ac (ag.app xs) g (fun _=>0) i (ag.app xs (i:Int)) + g (i:Int)) hr yB.1 yB.2
   rw [show mZ (Ac (ag.app xs) g (fun _=>0) i) (ag.app xs (i:Int)) (Ac (ag.app xs) g (fun _=>0) i (ag.app xs (i:Int)) + g (i:Int))=Ac (ag.app xs) g (fun _=>0) (i + 1) from rfl] at l6
   generalize s2.set r (O.lst ((sL n (Ac (fun u=>u) (fun u=>1 * g u) f i) ++ sL n (Ac (ag.app xs) g (fun _=>0) i)).set ((n:Int) + ag.app xs (i:Int)).toNat (D.int (Ac (ag.app xs) g (fun _=>0) i (ag.app xs (i:Int)) + g (i:Int)))))=s3 at l6 ⊢
   refine bE ?_
   intro bP hQ
   set_option simprocs false in simp only [bw,dS l6.l]
   refine ⟨_,FC i0 i1,rfl,_,by rw [if_pos (by decide)];exact qY _ _ _,_,si i0 i1,?_⟩
   w_how
   refine ⟨.inl (by decide),hQ _ _ ?_⟩
   clear hQ
   have rq:oh st (s3 ++ [O.lst [D.int (0 - 1),D.int 1]]) n r (Ac (fun u=>u) (fun u=>1 * g u) f i) (Ac (ag.app xs) g (fun _=>0) (i + 1)):=⟨gu l6.l,l6.x.app _⟩
   generalize s3 ++ [O.lst [D.int (0 - 1),D.int 1]]=s4 at rq ⊢
   kspl_open hQ
   refine ⟨_,jN rq.l,_,by rw [List.length_append,g8,g8];exact yu i0 i1,hQ _ _ ⟨_,_,_,_,rfl,?_⟩⟩
   exact rq.yr hr i0 i1
  ·rintro δ s ⟨v5,v6,v7,v8,rfl,ho⟩
   rw [dZ] at ho
   refine dC ?_
   refine bE ?_
   intro bP hQ
   set_option simprocs false in simp only [bw,dS ho.l]
   refine hQ _ _ ⟨?_,ho.x⟩
   refine zz (s:=(Ac (fun u=>u) (fun u=>1 * g u) f n,Ac (ag.app xs) g (fun _=>0) n)) fun u h0 h1=>?_
   have a1:=zD (n:=n) (h:=fun u=>u) (h':=fun u=>u) (g:=fun u=>1 * g u) (F:=f) (fun u a b=>⟨a,b⟩) (fun u a b=>rfl) (fun u a b=>rfl) h0 h1
   have a2:=zD (h:=ag.app xs) (h':=ag.app (ag.inv xs)) (g:=g) (F:=fun _=>0) (fun u a b=>tx.nL a b) (fun u a b=>tx.dc a b) (fun u a b=>tx.dJ a b) h0 h1
   show Ac (fun u=>u) (fun u=>1 * g u) f n u=f u + g u/\Ac (ag.app xs) g (fun _=>0) n u=g (ag.app (ag.inv xs) u)
   rw [a1,a2]
   omega
 ·obtain ⟨rfl,rfl⟩:=Prod.mk.inj ha
  refine ⟨_,by rw [if_neg (by decide)];exact r9 _ _,?_⟩
  have hO:oh st (S2 ++ [O.lst (sL n f ++ sL n fun _=>0)] ++ [O.lst [D.ref S1.length,D.ref S2.length]]) n S1.length (fun _=>0) (fun _=>0):=⟨gu (gu hz),((k1.trans k2).app _).app _⟩
  generalize S2 ++ [O.lst (sL n f ++ sL n fun _=>0)] ++ [O.lst [D.ref S1.length,D.ref S2.length]]=S3 at hO ⊢
  have hr:st.length<=S1.length:=l1
  generalize S1.length=r at hO hr ⊢
  refine hQ _ _ ?_
  clear hQ
  show Ws _ _ _ _ _
  refine aS (lY (aD 0 n) (fun i δ s=>∃ v5 v6 v7 v8:Option D,δ=[some (cu xs ys),some (bq (false,1)),some (dI n (f,g)),some (.int (n:Int)),some (.ref r),v5,v6,v7,v8]/\oh st s n r (Ac (ag.app ys) g (fun _=>0) i) (Ac (fun u=>u) (fun u=>-f u) (fun _=>0) i)) ?_ (by rw [dZ];omega) ?_ ?_)
  ·kspl_open hQ
   exact ⟨by omega,hQ _ _ ⟨by rw [Int.toNat_natCast],none,none,none,none,rfl,hO⟩⟩
  ·rintro i d δ s hd ⟨v5,v6,v7,v8,rfl,ho⟩
   have hil:=fN hd
   rw [dZ] at hil
   rw [tH hil,Int.zero_add] at hd
   cases hd
   have i0:(0:Int)<=(i:Int):=by omega
   have i1:(i:Int) < (n:Int):=by omega
   have yB:=ty.app i0 i1
   kspl_open hQ
   refine hQ _ _ (gs ?_)
   clear hQ
   kspl_open hQ
   refine ⟨rfl,?_⟩
   rw [IH]
   refine ⟨true,rfl,hQ _ _ ⟨fun _=>aS (bO ?_),fun z=>absurd z (by decide)⟩⟩
   clear hQ
   unfold cu
   refine bE ?_
   intro bP hQ
   set_option simprocs false in simp only [bw,o5 (xs:=ys) i0 (by rw [ty.length];exact i1)]
   refine hQ _ _ (aS (nh ?_))
   clear hQ
   unfold dI
   refine bE ?_
   intro bP hQ
   set_option simprocs false in simp only [bw,dS ho.l]
   refine ⟨_,si i0 i1,_,FC i0 i1,?_⟩
   w_how
   rw [show Ac (fun u=>u) (fun u=>-f u) (fun _=>0) i (i:Int) - f (i:Int)=Ac (fun u=>u) (fun u=>-f u) (fun _=>0) i (i:Int) + -f (i:Int) from Int.sub_eq_add_neg]
   refine hQ _ _ ?_
   clear hQ
   kspl_open hQ
   refine ⟨_,jN ho.l,_,by rw [List.length_append,g8,g8];exact yw i0 i1,hQ _ _ (nh ?_)⟩
   clear hQ
   have l6:=ho.yt (v:=Ac (fun u=>u) (fun u=>-f u) (fun _=>0) i (i:Int) + -f (i:Int)) hr i0 i1
   rw [show mZ (Ac (fun u=>u) (fun u=>-f u) (fun _=>0) i) (i:Int) (Ac (fun u=>u) (fun u=>-f u) (fun _=>0) i (i:Int) + -f (i:Int))=Ac (fun u=>u) (fun u=>-f u) (fun _=>0) (i + 1) from rfl] at l6
   generalize s.set r (O.lst ((sL n (Ac (ag.app ys) g (fun _=>0) i) ++ sL n (Ac (fun u=>u) (fun u=>-f u) (fun _=>0) i)).set ((n:Int) + (i:Int)).toNat (D.int (Ac (fun u=>u) (fun u=>-f u) (fun _=>0) i (i:Int) + -f (i:Int)))))=s3 at l6 ⊢
   refine bE ?_
   intro bP hQ
   set_option simprocs false in simp only [bw,dS l6.l]
   refine ⟨_,FC yB.1 yB.2,_,si i0 i1,?_⟩
   w_how
   refine hQ _ _ ?_
   clear hQ
   kspl_open hQ
   refine ⟨_,jN l6.l,_,by rw [List.length_append,g8,g8];exact yu yB.1 yB.2,hQ _ _ ⟨_,_,_,_,rfl,?_⟩⟩
   exact l6.yr hr yB.1 yB.2
  ·rintro δ s ⟨v5,v6,v7,v8,rfl,ho⟩
   rw [dZ] at ho
   refine dC ?_
   refine bE ?_
   intro bP hQ
   set_option simprocs false in simp only [bw,dS ho.l]
   refine hQ _ _ ⟨?_,ho.x⟩
   refine zz (s:=(Ac (ag.app ys) g (fun _=>0) n,Ac (fun u=>u) (fun u=>-f u) (fun _=>0) n)) fun u h0 h1=>?_
   have a1:=zD (h:=ag.app ys) (h':=ag.app (ag.inv ys)) (g:=g) (F:=fun _=>0) (fun u a b=>ty.nL a b) (fun u a b=>ty.dc a b) (fun u a b=>ty.dJ a b) h0 h1
   have a2:=zD (n:=n) (h:=fun u=>u) (h':=fun u=>u) (g:=fun u=>-f u) (F:=fun _=>0) (fun u a b=>⟨a,b⟩) (fun u a b=>rfl) (fun u a b=>rfl) h0 h1
   show Ac (ag.app ys) g (fun _=>0) n u=g (ag.app (ag.inv ys) u)/\Ac (fun u=>u) (fun u=>-f u) (fun _=>0) n u=-f u
   rw [a1,a2]
   omega
theorem TX {a:dY} (h:t9 a):ym a:=by
 rcases h with rfl | rfl | rfl
 ·exact fun z=>Bool.noConfusion (show true=false from z)
 ·exact fun z=>Bool.noConfusion (show true=false from z)
 ·exact fun _=>by decide
def m8 (p:ag.iw) (W:List dY) (i:Nat):List D:=(List.range (i + 1)).map fun j=>og (ag.eY p (W.take j))
theorem MD (p:ag.iw) (W:List dY) (i:Nat):(m8 p W i).length=i + 1:=by unfold m8;rw [List.length_map,List.length_range]
theorem ME (p:ag.iw) (W:List dY) {i j:Nat} (h:j<=i):(m8 p W i)[j]?=some (og (ag.eY p (W.take j))):=by
 unfold m8
 rw [List.getElem?_map,List.getElem?_range (by omega)]
 rfl
theorem TY (p:ag.iw) (W:List dY) (i:Nat):m8 p W i ++ [og (ag.eY p (W.take (i + 1)))]=m8 p W (i + 1):=by
 unfold m8
 rw [List.range_succ (n:=i + 1),List.map_append]
 rfl
theorem MF {st:Store} {xs ys:List Int} {n:Nat} {w:List dY} {s:ag.Se} (tx:ag.Tn n xs) (ty:ag.Tn n ys) (hn:n<=100) (hw:∀ s∈w,ym s) (hl:w.length<=1000) (hb:(w.flatMap ag.bx).length<=1000) (hk:∀ s∈w,s.2.natAbs<=1000):Wp (vm [cu xs ys,.tup (w.map bq),dI n s] st) fun d st'=>d=dI n (ag.cS (xs,ys) (w.flatMap ag.bx) s)/\Ex [] st st':=by
 have vf:ag.Vf n (xs,ys):=⟨tx,ty⟩
 have hone:∀ a∈w.flatMap ag.bx,t9 a:=fun a ha=>by
  obtain ⟨b,hb,h⟩:=List.mem_flatMap.mp ha
  exact TQ (hw b hb) h
 have hb':=hb
 obtain ⟨W,hW⟩:∃ W,W=w.flatMap ag.bx:=⟨_,rfl⟩
 rw [<- hW] at hb hone ⊢
 refine fM ?_
 show Ws (Fm [some (cu xs ys),some (.tup (w.map bq)),some (dI n s),none,none,none,none] st) _ _ _ _
 unfold Fm
 refine aS (bO ?_)
 kspl_open hQ
 refine bj (TN hl hb' hk) ?_
 rintro d st1 ⟨rfl,hs1,k1⟩
 rw [<- hW] at hs1
 have hl1:=fN hs1
 obtain ⟨r3,h3⟩:∃ r,r=st.length:=⟨_,rfl⟩
 rw [<- h3] at hs1 ⊢
 refine hQ _ _ (aS (bO ?_))
 clear hQ
 kspl_open hQ
 refine ⟨rfl,?_⟩
 refine hQ _ _ ?_
 clear hQ
 show Ws _ _ _ _ _
 obtain ⟨r4,h4⟩:∃ r,r=st1.length:=⟨_,rfl⟩
 rw [<- h4]
 have MG:(st1 ++ [O.lst [cu xs ys]])[r4]?=some (.lst (m8 (xs,ys) W 0)):=by rw [h4];exact j8
 have hs2:(st1 ++ [O.lst [cu xs ys]])[r3]?=some (.lst (W.map bq)):=gu hs1
 have k2:Ex [] st (st1 ++ [O.lst [cu xs ys]]):=k1.app _
 generalize st1 ++ [O.lst [cu xs ys]]=st2 at MG hs2 k2 ⊢
 refine aS (Hx (W.map bq) r3 (fun i δ s'=>∃ v5:Option D,δ=[some (cu xs ys),some (.tup (w.map bq)),some (dI n s),some (.ref r3),some (.ref r4),v5,none]/\s'[r3]?=some (.lst (W.map bq))/\s'[r4]?=some (.lst (m8 (xs,ys) W i))/\Ex [] st s') ?_ (by rw [List.length_map];omega) ?_ ?_ ?_)
 ·kspl_open hQ
  exact ⟨_,dS hs2,hQ _ _ ⟨rfl,none,rfl,hs2,MG,k2⟩⟩
 ·rintro k δ s' ⟨_,_,h,_⟩
  exact dS h
 ·rintro i d δ s' hd ⟨v5,rfl,hs,hf,kx⟩
  rw [List.getElem?_map] at hd
  obtain ⟨a,ha,rfl⟩:=Option.map_eq_some_iff.mp hd
  have hil:=(List.getElem?_eq_some_iff.mp ha).1
  have oa:=hone a (List.mem_of_getElem? ha)
  kspl_open hQ
  refine hQ _ _ (rZ ?_)
  clear hQ
  kspl_open hQ
  refine ⟨qX (by rw [dS hf];rfl),?_⟩
  rw [dS hf]
  refine ⟨_,rfl,og (ag.eY (xs,ys) (W.take i)),ya (by rw [MD];exact ME _ _ (by omega)),?_⟩
  have va:=FE vf (W.take i)
  refine bj (SW (p:=ag.eY (xs,ys) (W.take i)) va hn (TX oa)) ?_
  rintro d s1 ⟨rfl,m1⟩
  have II:=m1.keep _ _ hs (by simp)
  have hf1:=m1.keep _ _ hf (by simp)
  have e:ic (ag.eY (xs,ys) (W.take i)) a=ag.eY (xs,ys) (W.take (i + 1)):=by
   rw [IF _ _ ha]
   exact MB [a] _
  rw [e]
  set_option simprocs false in simp only [bw,jN hf1]
  refine ⟨ja (by rw [MD];omega),hQ _ _ ⟨_,rfl,?_,?_,(kx.trans m1).loc (by have:=k1.len;omega)⟩⟩
  ·rw [List.getElem?_set_ne (by omega)];exact II
  ·rw [List.getElem?_set_self (fN hf1),TY]
 ·rintro δ s' ⟨v5,rfl,hs,hf,kx⟩
  rw [List.length_map] at hf
  refine aS (lY (gP ((W.length:Int) - 1) W.length) (fun i δ s2=>∃ v6:Option D,δ=[some (cu xs ys),some (.tup (w.map bq)),some (dI n (ag.cS (ag.eY (xs,ys) (W.take (W.length - i))) (W.drop (W.length - i)) s)),some (.ref r3),some (.ref r4),v5,v6]/\s2[r3]?=some (.lst (W.map bq))/\s2[r4]?=some (.lst (m8 (xs,ys) W W.length))/\Ex [] st s2) ?_ (by rw [ve];omega) ?_ ?_)
  ·refine bE ?_
   intro bP hQ
   set_option simprocs false in simp only [bw,LY,dS hs]
   rw [List.length_map]
   refine ⟨_,_,⟨rfl,rfl,rfl⟩,by omega,hQ _ _ ⟨by rw [show ((W.length:Int) - 1 - (0 - 1)).toNat=W.length by omega],none,?_,hs,hf,kx⟩⟩
   rw [Nat.sub_zero,List.drop_length]
   rfl
  ·rintro i d δ s2 hd ⟨v6,rfl,hs,hf,kx⟩
   have hil:=fN hd
   rw [ve] at hil
   rw [HP hil] at hd
   cases hd
   obtain ⟨j,hj⟩:∃ j:Nat,W.length=i + (j + 1):=⟨W.length - i - 1,by omega⟩
   have ej:((W.length:Int) - 1 - (i:Int))=(j:Int):=by omega
   rw [ej,show W.length - i=j + 1 by omega,show W.length - (i + 1)=j by omega]
   have hjl:j < W.length:=by omega
   have ew:W[j]?=some W[j]:=List.getElem?_eq_getElem hjl
   have oa:=hone _ (List.getElem_mem hjl)
   have va:=FE vf (W.take j)
   have eC:ag.cS (ag.eY (xs,ys) (W.take j)) (W.drop j) s=ag.pK (ag.eY (xs,ys) (W.take j)) W[j] (ag.cS (ag.eY (xs,ys) (W.take (j + 1))) (W.drop (j + 1)) s):=by
    rw [List.drop_eq_getElem_cons hjl,IF _ _ ew]
    rfl
   rw [eC]
   generalize ag.cS (ag.eY (xs,ys) (W.take (j + 1))) (W.drop (j + 1)) s=t
   kspl_open hQ
   refine hQ _ _ (bO ?_)
   clear hQ
   refine bE ?_
   intro bP hQ
   set_option simprocs false in simp only [bw,dS hs,dS hf]
   refine ⟨og (ag.eY (xs,ys) (W.take j)),zA (by omega) (by rw [Int.toNat_natCast];exact ME _ _ (by omega)),bq W[j],zA (by omega) (by rw [Int.toNat_natCast,List.getElem?_map,ew];rfl),?_⟩
   refine bj (TR (xs:=(ag.eY (xs,ys) (W.take j)).1) (ys:=(ag.eY (xs,ys) (W.take j)).2) (s:=t) va.1 va.2 hn oa) ?_
   rintro d s3 ⟨rfl,m3⟩
   exact hQ _ _ ⟨_,rfl,m3.keep _ _ hs (by simp),m3.keep _ _ hf (by simp),kx.trans m3⟩
  ·rintro δ s2 ⟨v6,rfl,hs,hf,kx⟩
   rw [ve,Nat.sub_self]
   refine dC ?_
   kspl_open hQ
   exact hQ _ _ ⟨rfl,kx⟩
theorem T1 {st:Store} {a c:Int} (a0:1<=a) (a1:a<=1000000) (c0:0<=c) (c1:c<=1000000):Wp (CH [.int a,.int c] st) fun d st'=>∃ T:ag.T4,d=la T/\T.a * T.d - T.b * T.c=1/\T.le 1000000/\Ex [] st st':=by
 refine fM ?_
 show Ws (Fb [some (.int a),some (.int c),none,none,none,none,none,none,none] st) _ _ _ _
 unfold Fb
 refine aS (nh ?_)
 kspl_open hQ
 refine ⟨rfl,hQ _ _ ?_⟩
 clear hQ
 kspl_open hQ
 refine ⟨rfl,hQ _ _ ?_⟩
 clear hQ
 have lg:∀ p:Int,0<=p->p<=1000000->p≠0->p.natAbs.log2 < 9000:=fun p h0 h1 h2=>by
  have:=(Nat.log2_lt (n:=p.natAbs) (k:=20) (by omega)).mpr (by omega)
  omega
 refine aS (y6 (fun m δ s=>∃ (o p x y u v:Int) (r:Nat) (v8:Option D),m=50 - r/\r<=42/\δ=[some (.int a),some (.int c),some (.int o),some (.int p),some (.int x),some (.int y),some (.int u),some (.int v),v8]/\ag.Eu a c o p x y u v r/\Ex [] st s) 50 (by decide) ⟨a,c,1,0,0,1,0,none,rfl,by decide,rfl,ag.Eu.zero a0 a1 c0 c1,Ex.refl⟩ ?_)
 rintro m δ s ⟨o,p,x,y,u,v,r,v8,rfl,hr,rfl,eu,ks⟩
 have MH:=eu.bo
 have T2:=eu.bp
 have hp0:=eu.p0
 have K0:=eu.o0
 kspl_open hQ
 refine hQ _ _ ⟨fun hc=>?_,fun hc=>?_⟩
 ·have hp:p≠0:=by simpa using hc
  have few:=eu.few hp
  have T3:=eu.step hp
  have hq:(o.fdiv p).natAbs < 18446744073709551616:=by
   rw [Int.fdiv_eq_ediv_of_nonneg o (by omega)]
   have h1:0<=o / p:=Int.ediv_nonneg (by omega) (by omega)
   have h2:o / p<=o:=Int.ediv_le_self _ (by omega)
   omega
  refine aS (bO ?_)
  clear hQ
  refine bE ?_
  intro bP hQ
  set_option simprocs false in simp only [bw,HM]
  refine ⟨⟨hp,lg p hp0 T2 hp⟩,?_⟩
  generalize o.fdiv p=q at *
  refine hQ _ _ (aS (Bp ?_))
  clear hQ
  refine bE ?_
  intro bP hQ
  set_option simprocs false in simp only [bw,zb]
  refine ⟨Em hq,hQ _ _ ⟨_,_,rfl,aS (Bp ?_)⟩⟩
  clear hQ
  refine bE ?_
  intro bP hQ
  set_option simprocs false in simp only [bw,zb]
  refine ⟨Em hq,hQ _ _ ⟨_,_,rfl,Bp ?_⟩⟩
  clear hQ
  refine bE ?_
  intro bP hQ
  set_option simprocs false in simp only [bw,zb]
  refine ⟨Em hq,hQ _ _ ⟨_,_,rfl,50 - (r + 1),by omega,_,_,_,_,_,_,r + 1,_,rfl,by omega,rfl,T3,ks⟩⟩
 ·have hp:p=0:=by simpa using hc
  subst hp
  obtain ⟨e,ea,ec,T5,T6⟩:=eu.fin (by omega) (by omega)
  refine dC ?_
  clear hQ
  refine bE ?_
  intro bP hQ
  set_option simprocs false in simp only [bw,HM]
  have fa:a.fdiv o=e * v:=by rw [ea];exact Int.mul_fdiv_cancel_left _ (by omega)
  have fc:c.fdiv o=-(e * u):=by rw [ec];exact Int.mul_fdiv_cancel_left _ (by omega)
  have ho:o≠0:=by omega
  rw [fa,fc]
  exact ⟨⟨ho,lg o (by omega) MH ho⟩,⟨ho,lg o (by omega) MH ho⟩,rfl,hQ _ _ ⟨⟨e * v,0 - y,-(e * u),x⟩,rfl,T5,T6,ks⟩⟩
theorem T7 {st:Store} {f:Nat} (hf:bh st f):Wp (CJ [.ref f] st) fun d st'=>∃ T:ag.T4,d=la T/\T.a * T.d - T.b * T.c=1/\T.le 1000000/\bh st' f/\Ex [f] st st':=by
 refine fM ?_
 show Ws (Fc [some (.ref f),none] st) _ _ _ _
 unfold Fc
 refine aS (bO ?_)
 kspl_open hQ
 refine bj (o9 (n:=3) hf (by decide) (by decide)) ?_
 rintro d s1 ⟨fo,rfl,UL,UM,f1,k1⟩
 refine hQ _ _ (aS (gs ?_))
 clear hQ
 kspl_open hQ
 refine hQ _ _ ⟨fun hc=>dC ?_,fun hc=>kf (dC ?_)⟩
 ·clear hQ
  kspl_open hQ
  refine bj (o9 (n:=1000) f1 (by decide) (by decide)) ?_
  rintro d s2 ⟨a,rfl,a0,a1,f2,k2⟩
  w_how
  refine bj (o9 (n:=1001) f2 (by decide) (by decide)) ?_
  rintro d s3 ⟨c,rfl,c0,c1,f3,k3⟩
  refine bj (T1 (a:=1 + a) (c:=c) (by omega) (by omega) c0 (by omega)) ?_
  rintro d s4 ⟨T,rfl,hdt,hle,k4⟩
  exact hQ _ _ ⟨T,rfl,hdt,hle,f3.keep k4,((k1.trans k2).trans k3).trans k4.any⟩
 ·clear hQ
  have hc:¬ fo=2:=by simpa using hc
  kspl_open hQ
  refine ⟨rfl,?_⟩
  obtain ⟨e,he,T8⟩:∃ e:Int,gj [D.int 1,D.int (0 - 1)] fo=some (.int e)/\(e=1\/e=-1):=by
   rcases (show fo=0\/fo=1 by omega) with rfl | rfl
   ·exact ⟨1,r9 _ _,.inl rfl⟩
   ·exact ⟨-1,qY _ _ _,.inr rfl⟩
  refine ⟨_,he,?_⟩
  refine bj (o9 (n:=97) (f1.keep (Ex.cf [O.lst [D.int 1,D.int (0 - 1)]])) (by decide) (by decide)) ?_
  rintro d s2 ⟨a,rfl,a0,a1,f2,k2⟩
  w_how
  refine ⟨.inl (by omega),rfl,hQ _ _ ⟨⟨1,e * (4 + a),0,1⟩,rfl,by show (1:Int) * 1 - e * (4 + a) * 0=1;omega,⟨by show (1:Int).natAbs<=_;decide,?_,by show (0:Int).natAbs<=_;decide,by show (1:Int).natAbs<=_;decide⟩,f2,k1.trans ((Ex.cf _).trans k2)⟩⟩
  show (e * (4 + a)).natAbs<=1000000
  rcases T8 with rfl | rfl <;> omega
theorem T9 {w:List dY}:∀ a∈w,((a.2.natAbs:Nat):Int)<=(w.map fun a=>((a.2.natAbs:Nat):Int)).sum:=by
 induction w with
 | nil=>intro a h;cases h
 | cons b w ih =>
  intro a h
  rw [List.map_cons,List.sum_cons]
  have nn:(0:Int)<=(w.map fun a=>((a.2.natAbs:Nat):Int)).sum:=by
   clear ih h
   induction w with
   | nil=>simp
   | cons c w ih=>rw [List.map_cons,List.sum_cons];omega
  rcases List.mem_cons.mp h with rfl | h
  ·omega
  ·have:=ih a h;omega
theorem Ua (w:List dY):(((w.flatMap ag.bx).length:Nat):Int)=(w.map fun a=>((a.2.natAbs:Nat):Int)).sum:=by
 induction w with
 | nil=>rfl
 | cons b w ih =>
  rw [List.flatMap_cons,List.length_append,List.map_cons,List.sum_cons,<- ih]
  unfold ag.bx
  rw [List.length_replicate];omega
theorem Ub:(1000000:Nat) < 2 ^ 20:=by decide
theorem FG (n:Nat) (s:ag.Se):pU 1 (dI n s):=fun d hd=>by
 unfold sL at hd
 rcases List.mem_append.mp hd with h | h
 ·obtain ⟨u,_,rfl⟩:=List.mem_map.mp h;trivial
 ·obtain ⟨u,_,rfl⟩:=List.mem_map.mp h;trivial
theorem Uc {st:Store} {Q:D->Store->Prop} {n:Nat} {s:ag.Se}:Wp (jl false (dI n s) (dI n s) st) Q↔Q (.bl true) st:=by
 rw [Ei (n:=1) (FG n s) (FG n s) (by decide)]
 simp
theorem MI {st:Store} {Q:D->Store->Prop} {n:Nat} {s:ag.Se}:Wp (jl true (dI n s) (dI n s) st) Q↔Q (.bl false) st:=by
 rw [Ei (n:=1) (FG n s) (FG n s) (by decide)]
 simp
theorem yx {n:Nat} (hn:n<=100) (s:ag.Se):Fz 5 (dI n s):=⟨by rw [List.length_append,g8,g8];omega,fun d hd=>by
 unfold sL at hd
 rcases List.mem_append.mp hd with h | h
 ·obtain ⟨u,_,rfl⟩:=List.mem_map.mp h;trivial
 ·obtain ⟨u,_,rfl⟩:=List.mem_map.mp h;trivial⟩
theorem Ud {st:Store} {f:Nat} {xs ys:List Int} {n:Nat} {s:ag.Se} (hf:bh st f) (tx:ag.Tn n xs) (ty:ag.Tn n ys) (n0:0 < n) (hn:n<=100):Wp (CV [.ref f,cu xs ys,dI n s] st) fun d st'=>d=.bl true/\bh st' f/\Ex [f] st st':=by
 refine fM ?_
 show Ws (Fn [some (.ref f),some (cu xs ys),some (dI n s),none] st) _ _ _ _
 unfold Fn
 refine aS (bO ?_)
 kspl_open hQ
 refine bj (T7 hf) ?_
 rintro d s1 ⟨T,rfl,hdt,hle,f1,k1⟩
 refine bj (Tr (M:=1000000) (k:=20) Ub (by decide) hle hdt) ?_
 rintro d s2 ⟨u,rfl,hu,UN,eu,k2⟩
 have pu:∀ s∈u,ag.eO s:=fun s hs=>(hu s hs).1
 refine hQ _ _ (aS (gs ?_))
 clear hQ
 kspl_open hQ
 refine LR (u.map fun s=>(D.str (if s.1 then "s" else "t"),D.int s.2)) (fun p=>match p with | (_,.int k)=>.int (k.natAbs:Int) | _=>.non) ?_ (by rw [List.length_map];omega) ?_ ?_
 ·kspl_open cJ
  refine cJ _ _ ⟨?_,Ex.refl⟩
  rw [List.map_map]
  exact sd _ _
 ·intro p hp s3 k3
  obtain ⟨a,ha,rfl⟩:=List.mem_map.mp hp
  kspl_open cJ
  have hm:(if 0 - a.2 > a.2 then 0 - a.2 else a.2)=(a.2.natAbs:Int):=by split <;> omega
  rw [hm]
  exact cJ _ _ ⟨rfl,Ex.refl⟩
 ·intro s3 k3
  have e:(u.map fun s=>(D.str (if s.1 then "s" else "t"),D.int s.2)).map (fun p=>match p with | (_,.int k)=>D.int (k.natAbs:Int) | _=>.non)=(u.map fun a=>((a.2.natAbs:Nat):Int)).map D.int:=by
   rw [List.map_map,List.map_map];rfl
  rw [e,x9 tJ]
  w_how
  have f3:=f1.keep ((k2.trans k3).app [O.lst ((u.map fun a=>((a.2.natAbs:Nat):Int)).map D.int)])
  have MJ:Ex [f] st (s3 ++ [O.lst ((u.map fun a=>((a.2.natAbs:Nat):Int)).map D.int)]):=k1.trans ((k2.trans k3).app _).any
  refine hQ _ _ ⟨fun _=>dC ?_,fun hc=>kf (dC ?_)⟩
  ·clear hQ
   kspl_open hQ
   exact hQ _ _ ⟨rfl,f3,MJ⟩
  ·have hs:(u.map fun a=>((a.2.natAbs:Nat):Int)).sum<=200:=by
    have:=of_decide_eq_false hc
    omega
   have hb:∀ a∈u,a.2.natAbs<=1000:=fun a ha=>by have:=T9 a ha;omega
   have hW:=Ua u
   clear hQ
   kspl_open hQ
   refine bj (FF (w:=u) (s:=s) tx ty n0 hn (C7 pu) hb (by omega)) ?_
   rintro d s4 ⟨rfl,k4⟩
   refine bj (MF (w:=u) (s:=s) tx ty hn (C7 pu) (by omega) (by omega) hb) ?_
   rintro d s5 ⟨rfl,k5⟩
   rw [Uc]
   exact hQ _ _ ⟨rfl,f3.keep (k4.trans k5),MJ.trans (k4.trans k5).any⟩
def Ask (d:D):Prop:=∃ (n:Nat) (xs ys:List Int) (w:List dY) (s:ag.Se),d=.tup [cu xs ys,.tup (w.map bq),dI n s]/\ag.Tn n xs/\ag.Tn n ys/\0 < n/\n<=8/\(∀ s∈w,pb 3 s)/\w.length<=4
theorem Ue {w:List dY} (h:∀ s∈w,pb 3 s):(w.flatMap ag.bx).length<=w.length * 3:=by
 induction w with
 | nil=>simp
 | cons a w ih =>
  rw [List.flatMap_cons,List.length_append,List.length_cons]
  have h1:=ih fun s hs=>h s (List.mem_cons_of_mem _ hs)
  have h2:=(h a List.mem_cons_self).2.1
  have h3:(ag.bx a).length=a.2.natAbs:=by unfold ag.bx;rw [List.length_replicate]
  omega
theorem Ug {n:Nat} {L:List Int} (h:L.length=n + n):.tup (L.map D.int)=dI n (fun u=>L.getD u.toNat 0,fun u=>L.getD (n + u.toNat) 0):=by
 unfold dI
 congr 1
 refine List.ext_getElem? fun i=>?_
 by_cases h1:i < n
 ·rw [List.getElem?_append_left (by rw [g8];exact h1)]
  have:=vt (n:=n) (f:=fun u=>L.getD u.toNat 0) (u:=(i:Int)) (by omega) (by omega)
  rw [Int.toNat_natCast] at this
  rw [this,List.getElem?_map,List.getD_eq_getElem?_getD,List.getElem?_eq_getElem (by omega)]
  rfl
 ·by_cases h2:i < n + n
  ·rw [List.getElem?_append_right (by rw [g8];omega),g8]
   have:=vt (n:=n) (f:=fun u=>L.getD (n + u.toNat) 0) (u:=((i - n:Nat):Int)) (by omega) (by omega)
   rw [Int.toNat_natCast,show n + (i - n)=i by omega] at this
   rw [this,List.getElem?_map,List.getD_eq_getElem?_getD,List.getElem?_eq_getElem (by omega)]
   rfl
  ·rw [List.getElem?_eq_none (by rw [List.length_map];omega),List.getElem?_eq_none (by rw [List.length_append,g8,g8];omega)]
theorem MK:∀ {ys:List D},(∀ y∈ys,∃ z:Int,y=.int z)->∃ L:List Int,ys=L.map D.int
 | [],_=>⟨[],rfl⟩
 | y :: r,h=>by
  obtain ⟨z,rfl⟩:=h y List.mem_cons_self
  obtain ⟨L,rfl⟩:=MK fun y hy=>h y (List.mem_cons_of_mem _ hy)
  exact ⟨z :: L,rfl⟩
theorem rz (ns:List Int) (hn:ns.length<=63):Wp (HS [.ref 0] [.nP (ns.map D.int)]) fun d _=>d=.bl true:=by
 refine fM ?_
 show Ws (Fo [some (.ref 0),none,none,none,none,none,none,none,none,none,none] [.nP (ns.map D.int)]) _ _ _ _
 unfold Fo
 have Uh:(cutD (ns.map D.int) none (some (6:Int))).length<=6:=by
  have:=Ed (ns.map D.int) 6
  rw [show (some (6:Int))=some ((6:Nat):Int) from rfl,this,List.length_take];omega
 obtain ⟨m,hm,UO⟩:∃ m:Nat,(if ((cutD (ns.map D.int) none (some (6:Int))).length:Int) > 2 then ((cutD (ns.map D.int) none (some (6:Int))).length:Int) else 2)=(m:Int)/\m<=6:=by
  split
  ·exact ⟨_,rfl,Uh⟩
  ·exact ⟨2,rfl,by decide⟩
 refine aS (bO ?_)
 refine bE ?_
 intro bP hQ
 w_how
 refine ⟨rfl,hQ _ _ ?_⟩
 clear hQ
 show Ws _ _ _ _ _
 have Ui:([O.nP (ns.map D.int)] ++ [O.lst []]:Store)[0]?=some (.nP (ns.map D.int)):=rfl
 refine aS (lY (aD 0 m) (fun i δ st=>∃ (v2 v3 v4 v5 v6 v7 v8 v9 v10:Option D) (qs:List D),δ=[some (.ref 0),some (.ref 1),v2,v3,v4,v5,v6,v7,v8,v9,v10]/\st[0]?=some (.nP (ns.map D.int))/\st[1]?=some (.lst qs)/\qs.length<=2 * i/\∀ d∈qs,Ask d) ?_ (by rw [dZ];omega) ?_ ?_)
 ·refine bE ?_
  intro bP hQ
  set_option simprocs false in simp only [bw,Lm Ui,hm]
  exact ⟨by omega,hQ _ _ ⟨by rw [Int.toNat_natCast],none,none,none,none,none,none,none,none,none,[],rfl,rfl,rfl,by simp,fun d hd=>nomatch hd⟩⟩
 ·rintro i d δ st hd ⟨v2,v3,v4,v5,v6,v7,v8,v9,v10,qs,rfl,h0,h1,hl,hq⟩
  have hil:=fN hd
  rw [dZ] at hil
  rw [tH hil,Int.zero_add] at hd
  cases hd
  refine bE ?_
  intro bP hQ
  w_how
  refine hQ _ _ (aS (bO ?_))
  clear hQ
  refine bE ?_
  intro bP hQ
  w_how
  refine bj (Ss (a:=0) (ns:=ns) (k:=i) (Lm h0) (by omega)) ?_
  rintro d s1 ⟨rfl,f1,k1⟩
  generalize hF:st.length=ff at f1 ⊢
  have UP:1 < ff:=by rw [<- hF];exact fN h1
  have h01:=k1.keep _ _ h0 (by simp)
  have h11:=k1.keep _ _ h1 (by simp)
  refine hQ _ _ (aS (bO ?_))
  clear hQ
  refine bE ?_
  intro bP hQ
  w_how
  refine bj (S0 (most:=4) (great:=3) f1 (by decide) (by decide) (by decide) (by decide)) ?_
  rintro d s2 ⟨w,rfl,hw,hwl,f2,k2⟩
  refine hQ _ _ (aS (bO ?_))
  clear hQ
  refine bE ?_
  intro bP hQ
  w_how
  refine bj (o9 (n:=8) f2 (by decide) (by decide)) ?_
  rintro d s3 ⟨n1,rfl,UQ,UR,f3,k3⟩
  w_how
  obtain ⟨n,rfl⟩:∃ n:Nat,n1=(n:Int) - 1:=⟨(n1 + 1).toNat,by omega⟩
  rw [show (1:Int) + ((n:Int) - 1)=(n:Int) by omega]
  refine bj (Md (n:=n) f3 (by omega) (by omega)) ?_
  rintro d s4 ⟨xs,ys,rfl,fl,f4,k4⟩
  have kA:Ex [ff] s1 s4:=(k2.trans k3).trans k4
  have Uj:=kA.keep _ _ h01 (by simp;omega)
  have Uk:=kA.keep _ _ h11 (by simp;omega)
  have n0:0 < n:=by omega
  refine hQ _ _ (aS (bO ?_))
  clear hQ
  refine bE ?_
  intro bP hQ
  w_how
  refine LF (aD 0 (n + n)) (fun _ d=>∃ z:Int,d=.int z) (fun s=>bh s ff/\Ex [ff] s4 s) ?_ (by rw [dZ];omega) ?_ ?_
  ·unfold cu
   kspl_open cJ
   rw [List.length_map,fl.1.length]
   refine ⟨.inl (by decide),by omega,cJ _ _ ⟨fun i st2 hi h=>?_,f4,Ex.refl⟩⟩
   rw [show (2 * (n:Int)).toNat=n + n by omega]
   exact sd _ st2 i st2 hi Ex.refl
  ·rintro j d hd s5 ⟨f5,k5⟩
   refine bE ?_
   intro kY cJ
   set_option simprocs false in simp only [bw,List.map_cons,List.map_nil,List.getD_cons_succ,List.getD_cons_zero]
   refine bj (o9 (n:=2001) f5 (by decide) (by decide)) ?_
   rintro d s6 ⟨z,rfl,z0,z1,f6,k6⟩
   w_how
   exact cJ _ _ ⟨⟨_,rfl⟩,f6,k5.trans k6⟩
  ·rintro zs s5 ⟨f5,k5⟩ GR hz
   obtain ⟨L,rfl⟩:=MK (ys:=zs) fun y hy=>by
    obtain ⟨j,hj⟩:=List.getElem?_of_mem hy
    exact hz j y hj
   rw [List.length_map,dZ] at GR
   have ML:=f5.keep (Ex.cf [O.lst (L.map D.int)])
   have IJ:Ex [ff] s4 (s5 ++ [O.lst (L.map D.int)]):=k5.trans (Ex.cf _).any
   set_option simprocs false in simp only [bw,tJ]
   rw [Ug GR]
   generalize ((fun u=>L.getD u.toNat 0,fun u=>L.getD (n + u.toNat) 0):ag.Se)=sm
   generalize s5 ++ [O.lst (L.map D.int)]=s6 at ML IJ ⊢
   have Ul:=IJ.keep _ _ Uj (by simp;omega)
   have Um:=IJ.keep _ _ Uk (by simp;omega)
   refine hQ _ _ (aS (gs ?_))
   clear hQ
   refine bE ?_
   intro bP hQ
   w_how
   refine bj (o9 (n:=4) ML (by decide) (by decide)) ?_
   rintro d s7 ⟨e,rfl,e0,e1,f7,k7⟩
   have IK:=k7.keep _ _ Ul (by simp;omega)
   have IL:=k7.keep _ _ Um (by simp;omega)
   w_how
   have Uo:∃ s8,bh s8 ff/\s8[0]?=some (O.nP (ns.map D.int))/\s8[1]?=some (O.lst qs):=⟨s7,f7,IK,IL⟩
   suffices rest:∀ s8:Store,bh s8 ff->s8[0]?=some (O.nP (ns.map D.int))->s8[1]?=some (O.lst qs)->bP false s8 by
    by_cases he:e=0
    ·rw [if_pos (decide_eq_true he)]
     refine bj (Ud (s:=sm) f7 fl.1 fl.2.1 n0 (by omega)) ?_
     rintro d s8 ⟨rfl,f8,k8⟩
     exact ⟨_,rfl,rest s8 f8 (k8.keep _ _ IK (by simp;omega)) (k8.keep _ _ IL (by simp;omega))⟩
    ·rw [if_neg (by rw [decide_eq_true_eq];exact he)]
     exact rest s7 f7 IK IL
   intro s8 f8 Up IP
   have Uq:=f8.lt
   refine hQ _ _ ⟨fun z=>absurd z (by decide),fun _=>kf (aS (rZ ?_))⟩
   clear hQ Uo
   refine bE ?_
   intro bP hQ
   w_how
   refine ⟨qX (by rw [dS IP];rfl),rfl,_,jN IP,ja (by omega),?_⟩
   have hq1:Ask (.tup [cu xs ys,.tup (w.map bq),dI n sm]):=⟨n,xs,ys,w,sm,rfl,fl.1,fl.2.1,n0,by omega,hw,by omega⟩
   have f9:bh (s8.set 1 (O.lst (qs ++ [D.tup [cu xs ys,D.tup (w.map bq),dI n sm]]))) ff:=f8.ne (by omega)
   have MN:(s8.set 1 (O.lst (qs ++ [D.tup [cu xs ys,D.tup (w.map bq),dI n sm]])))[0]?=some (.nP (ns.map D.int)):=by rw [List.getElem?_set_ne (by decide)];exact Up
   have IQ:(s8.set 1 (O.lst (qs ++ [D.tup [cu xs ys,D.tup (w.map bq),dI n sm]])))[1]?=some (.lst (qs ++ [D.tup [cu xs ys,D.tup (w.map bq),dI n sm]])):=List.getElem?_set_self (fN IP)
   generalize s8.set 1 (O.lst (qs ++ [D.tup [cu xs ys,D.tup (w.map bq),dI n sm]]))=s9 at f9 MN IQ ⊢
   refine hQ _ _ (aS (rZ ?_))
   clear hQ
   refine bE ?_
   intro bP hQ
   w_how
   refine ⟨qX (by rw [dS IQ];rfl),?_⟩
   show Wp (aF (.tup [.tup (xs.map D.int),.tup (ys.map D.int)]) (.int 0) s9) _
   w_how
   rw [List.length_map,fl.1.length]
   refine bj (Md (n:=n) f9 (by omega) (by omega)) ?_
   rintro d wt ⟨IU,IV,rfl,MO,Ur,MP⟩
   have IW:=MP.keep _ _ MN (by simp;omega)
   have Dd:=MP.keep _ _ IQ (by simp;omega)
   have hq2:Ask (.tup [cu IU IV,.tup (w.map bq),dI n sm]):=⟨n,IU,IV,w,sm,rfl,MO.1,MO.2.1,n0,by omega,hw,by omega⟩
   refine ⟨rfl,_,jN Dd,ja (by rw [List.length_append,List.length_singleton];omega),?_⟩
   have MQ:=Ur.lt
   generalize G4:qs ++ [D.tup [cu xs ys,D.tup (w.map bq),dI n sm]] ++ [D.tup [cu IU IV,D.tup (w.map bq),dI n sm]]=qq
   have IX:∀ d∈qq,Ask d:=fun d hd=>by
    rw [<- G4] at hd
    rcases List.mem_append.mp hd with h | h
    ·rcases List.mem_append.mp h with h | h
     ·exact hq d h
     ·rw [List.mem_singleton.mp h];exact hq1
    ·rw [List.mem_singleton.mp h];exact hq2
   have Us:qq.length<=2 * (i + 1):=by rw [<- G4,List.length_append,List.length_append,List.length_singleton,List.length_singleton];omega
   have De:(wt.set 1 (O.lst qq))[0]?=some (.nP (ns.map D.int)):=by rw [List.getElem?_set_ne (by decide)];exact IW
   have uc:(wt.set 1 (O.lst qq))[1]?=some (.lst qq):=List.getElem?_set_self (fN Dd)
   generalize wt.set 1 (O.lst qq)=FH at De uc ⊢
   refine hQ _ _ ?_
   clear hQ
   show Ws _ _ _ _ _
   have c1:=Lz qq (some (-2)) none
   have c2:=Lz qq none (some 1)
   have hl3:(FH ++ [O.lst (cutD qq (some (-2)) none)] ++ [O.lst (cutD qq none (some 1))]).length=FH.length + 2:=by simp
   refine Hx (cutD qq (some (-2)) none ++ cutD qq none (some 1)) (FH.length + 2) (fun j δ s=>∃ u7 u8 u9 IY:Option D,δ=[some (.ref 0),some (.ref 1),some (.int (i:Int)),some (.ref ff),some (.tup (w.map bq)),some (cu xs ys),some (dI n sm),u7,u8,u9,IY]/\s[0]?=some (.nP (ns.map D.int))/\s[1]?=some (.lst qq)/\items s (FH.length + 2)=some (cutD qq (some (-2)) none ++ cutD qq none (some 1))) ?_ (by rw [List.length_append];omega) ?_ ?_ ?_
   ·refine bE ?_
    intro bP hQ
    set_option simprocs false in simp only [bw,dS uc,dS (gu (m:=[O.lst (cutD qq (some (-2)) none)]) uc)]
    refine ⟨ja (by omega),hQ _ _ ⟨by rw [hl3],_,_,_,_,rfl,gu (gu (gu De)),gu (gu (gu uc)),?_⟩⟩
    rw [<- hl3]
    exact tJ
   ·rintro j δ s ⟨_,_,_,_,_,_,_,h⟩
    exact h
   ·rintro j d δ s hd ⟨u7,u8,u9,IY,rfl,g0,g1,gi⟩
    have Ut:Ask d:=by
     rcases List.mem_append.mp (List.mem_of_getElem? hd) with h | h
     ·exact IX d (Ly h)
     ·exact IX d (Ly h)
    obtain ⟨m',as,bs,v,t,rfl,ta,tb,m0,US,hv,hvl⟩:=Ut
    have hfl:=Ue hv
    have pv:∀ s∈v,ag.eO s:=fun s hs=>MA (hv s hs)
    have bv:∀ s∈v,s.2.natAbs<=1000:=fun s hs=>by have:=(hv s hs).2.1;omega
    refine bE ?_
    intro bP hQ
    w_how
    refine ⟨rfl,hQ _ _ (aS (bO ?_))⟩
    clear hQ
    refine bE ?_
    intro bP hQ
    w_how
    refine bj (FF (w:=v) (s:=t) ta tb m0 (by omega) (C7 pv) bv (by omega)) ?_
    rintro d t1 ⟨rfl,m1⟩
    refine hQ _ _ (aS (gs ?_))
    clear hQ
    refine bE ?_
    intro bP hQ
    w_how
    refine bj (MF (w:=v) (s:=t) ta tb (by omega) (C7 pv) (by omega) (by omega) bv) ?_
    rintro d t2 ⟨rfl,m2⟩
    refine bj (Tt (yx (by omega) _)) ?_
    rintro d t3 ⟨rfl,m3⟩
    refine ⟨_,rfl,?_⟩
    rw [if_neg (by decide)]
    refine ⟨rfl,?_⟩
    refine bj (FF (w:=[]) (s:=t) ta tb m0 (by omega) (fun s hs=>nomatch hs) (fun s hs=>nomatch hs) (by decide)) ?_
    rintro d t4 ⟨rfl,m4⟩
    rw [show ag.cS (as,bs) (([]:List dY).flatMap ag.bx) t=t from rfl,MI]
    refine ⟨_,rfl,hQ _ _ ⟨fun z=>absurd z (by decide),fun _=>kf (gs ?_)⟩⟩
    clear hQ
    have mm:=((m1.trans m2).trans m3).trans m4
    have MR:=mm.keep _ _ g0 (by simp)
    have MS:=mm.keep _ _ g1 (by simp)
    have MT:=LA gi mm
    refine bE ?_
    intro bP hQ
    w_how
    rw [List.length_map]
    by_cases h3:(v.length:Int) < 3
    ·rw [if_pos (decide_eq_true h3)]
     refine bj (Mr (w:=v) (by omega)) ?_
     rintro d t5 ⟨rfl,m5⟩
     w_how
     rw [<- List.map_append]
     have tU:=Tw v
     refine ⟨ja (by rw [List.length_map,List.length_map];omega),?_⟩
     have Iu:∀ s∈v ++ ag.gN v,pb 3 s:=Tx hv (Tv (by decide) hv)
     refine bj (FF (w:=v ++ ag.gN v) (s:=t) ta tb m0 (by omega) (C7 fun s hs=>MA (Iu s hs)) (fun s hs=>by have:=(Iu s hs).2.1;omega) (by rw [List.length_append];omega)) ?_
     rintro d t6 ⟨rfl,m6⟩
     rw [zz (ag.K3 ⟨ta,tb⟩ pv t).1,MI]
     exact ⟨_,rfl,hQ _ _ ⟨fun z=>absurd z (by decide),fun _=>kf ⟨_,_,_,_,rfl,(m5.trans m6).keep _ _ MR (by simp),(m5.trans m6).keep _ _ MS (by simp),LA MT (m5.trans m6)⟩⟩⟩
    ·rw [if_neg (by rw [decide_eq_true_eq];exact h3)]
     exact hQ _ _ ⟨fun z=>absurd z (by decide),fun _=>kf ⟨_,_,_,_,rfl,MR,MS,MT⟩⟩
   ·rintro δ s ⟨u7,u8,u9,IY,rfl,g0,g1,gi⟩
    exact ⟨_,_,_,_,_,_,_,_,_,qq,rfl,g0,g1,Us,IX⟩
 ·rintro δ s ⟨v2,v3,v4,v5,v6,v7,v8,v9,v10,qs,rfl,h0,h1,hl,hq⟩
  refine dC ?_
  refine bE ?_
  intro bP hQ
  w_how
  exact hQ _ _ rfl
theorem yy {P:Program} {w:World} {K:PySem.W.Frag} {mg:Str->Option Value} {base:Heap} (T:Txt mg) {mJ:V} (kS:qB K mg "QUARTER" mJ (.tup [(.int 0),(.int (-1)),(.int 1),(.int 0)])) {jr:V} (eX:qB K mg "UNMOVED" jr (.tup [(.int 1),(.int 0),(.int 0),(.int 1)])) {iP:Addr} {iQ:FuncData} (eG:Def K mg "_law_feed" BO ["_law_script","_law_k"] iP iQ) {aX:Addr} {aY:FuncData} (aj:Def K mg "_law_take" tP ["_law_feed_here","_law_many"] aX aY) {iR:Addr} {iS:FuncData} (eI:Def K mg "_law_word" BQ ["_law_feed_here","_law_most","_law_great"] iR iS) {eP:Addr} {eQ:FuncData} (bD:Def K mg "_law_turning" BR ["_law_feed_here","_law_n"] eP eQ) {jO:Addr} {jP:FuncData} (cV:Def K mg "_law_met" BS ["_law_floor_here"] jO jP) {gG:Addr} {gH:FuncData} (bU:Def K mg "_law_floor" BV ["_law_feed_here","_law_n"] gG gH) {jT:Addr} {jU:FuncData} (fP:Def K mg "followed" BX ["one","other"] jT jU) {iA:Addr} {iB:FuncData} (eo:Def K mg "ring_from" B0 ["turning","first"] iA iB) {jR:Addr} {jS:FuncData} (fO:Def K mg "rings_of" B2 ["turning"] jR jS) {nU:Addr} {nV:FuncData} (lA:Def K mg "often" B4 ["turning","k"] nU nV) {kQ:Addr} {kR:FuncData} (h9:Def K mg "sheared" B7 ["floor","k"] kQ kR) {cx:Addr} {cy:FuncData} (aR:Def K mg "turned_back" ze ["turning"] cx cy) {bZ:Addr} {b5:FuncData} (br:Def K mg "quartered" yd ["floor"] bZ b5) {fA:Addr} {fB:FuncData} (cW:Def K mg "led_by_step" B9 ["floor","step"] fA fB) {mh:Addr} {mj:FuncData} (jV:Def K mg "led_by" Cb ["floor","word"] mh mj) {dU:Addr} {dW:FuncData} (ck:Def K mg "step_turnings" Cd ["floor"] dU dW) {cL:Addr} {cM:FuncData} (bH:Def K mg "seam_over_shears" Ce ["floor","k","seam"] cL cM) {cg:Addr} {cj:FuncData} (bt:Def K mg "seam_over_quarters" zh ["floor","k","seam"] cg cj) {b6:Addr} {b7:FuncData} (aL:Def K mg "seam_carried" zi ["floor","word","seam"] b6 b7) {jW:Addr} {jX:FuncData} (fQ:Def K mg "led_pair" Ci ["table","pair"] jW jX) {iE:Addr} {iF:FuncData} (cN:Def K mg "shears" zk ["k"] iE iF) {gQ:Addr} {gR:FuncData} (c7:Def K mg "times" ye ["one","other"] gQ gR) {gw:Addr} {gA:FuncData} (dE:Def K mg "step_table" Ck ["step"] gw gA) {eA:Addr} {eB:FuncData} (cm:Def K mg "table_of" zm ["word"] eA eB) {kT:Addr} {kU:FuncData} (ia:Def K mg "nearest" Cn ["number","divisor"] kT kU) {fD:Addr} {fE:FuncData} (cX:Def K mg "level_steps" Cp ["pair"] fD fE) {ml:Addr} {mq:FuncData} (jY:Def K mg "joined" Cr ["one","other"] ml mq) {gC:Addr} {gD:FuncData} (dF:Def K mg "made_plain" Ct ["word"] gC gD) {eT:Addr} {eU:FuncData} (cG:Def K mg "put_together" Cw ["one","other"] eT eU) {jZ:Addr} {j3:FuncData} (fS:Def K mg "is_table" Cz ["thing"] jZ j3) {gE:Addr} {gF:FuncData} (dG:Def K mg "level_word" CB ["table"] gE gF) {iH:Addr} {iI:FuncData} (eD:Def K mg "back_step" CD ["step"] iH iI) {dw:Addr} {dy:FuncData} (bN:Def K mg "back_word" zp ["word"] dw dy) {kW:Addr} {kX:FuncData} (ib:Def K mg "word_of" CG ["table"] kW kX) {df:Addr} {dg:FuncData} (bQ:Def K mg "_law_of_column" CI ["_law_a","_law_c"] df dg) {dh:Addr} {di:FuncData} (bR:Def K mg "_law_far_table" CK ["_law_feed_here"] dh di) {fJ:Addr} {fK:FuncData} (c5:Def K mg "_law_single" CM ["_law_word_here"] fJ fK) {fF:Addr} {fG:FuncData} (cY:Def K mg "_law_beside" CO ["_law_floor_here","_law_s","_law_step"] fF fG) {iN:Addr} {iO:FuncData} (eF:Def K mg "_law_over" CQ ["_law_floor_here","_law_step","_law_seam"] iN iO) {fH:Addr} {fI:FuncData} (cZ:Def K mg "_law_behind" CT ["_law_turning_here","_law_s","_law_k"] fH fI) {eV:Addr} {eW:FuncData} (cH:Def K mg "_law_stepped" CU ["_law_floor_here","_law_step"] eV eW) {b8:Addr} {b9:FuncData} (bg:Def K mg "_law_carried" zu ["_law_floor_here","_law_word_here","_law_seam"] b8 b9) {dj:Addr} {dk:FuncData} (bS:Def K mg "_law_far_right" CW ["_law_feed_here","_law_floor_here","_law_seam"] dj dk) {gJ:Addr} {gK:FuncData} (dH:Def K mg "_law_alike" zx ["_law_found","_law_due"] gJ gK) {Df:Addr} {Dg:FuncData} (IZ:Def K mg "law" Fp ["_law_script"] Df Dg):aC P w K mg base bz 12 Df Dg ["_law_script"] (bA K 1 HS):=by
 have km:=Rh (P:=P) (w:=w) (base:=base) eG T
 have aJ:=Ri (P:=P) (w:=w) (base:=base) aj T
 have kn:=Rj (P:=P) (w:=w) (base:=base) eI T  aj aJ
 have eR:=Rm (P:=P) (w:=w) (base:=base) bD T  aj aJ
 have jQ:=Rn (P:=P) (w:=w) (base:=base) cV T
 have gI:=Ro (P:=P) (w:=w) (base:=base) bU T  aj aJ bD eR cV jQ
 have lz:=Rr (P:=P) (w:=w) (base:=base) fP T
 have ki:=Rt (P:=P) (w:=w) (base:=base) eo T
 have ly:=Rv (P:=P) (w:=w) (base:=base) fO T  eo ki
 have o8:=Rw (P:=P) (w:=w) (base:=base) lA T  fO ly
 have mI:=Ry (P:=P) (w:=w) (base:=base) h9 T  fP lz lA o8
 have cz:=Rz (P:=P) (w:=w) (base:=base) aR T
 have cB:=RB (P:=P) (w:=w) (base:=base) br T  aR cz
 have iC:=RC (P:=P) (w:=w) (base:=base) cW T  h9 mI br cB
 have nW:=RD (P:=P) (w:=w) (base:=base) jV T  cW iC
 have fX:=RF (P:=P) (w:=w) (base:=base) ck T  aR cz
 have dX:=RG (P:=P) (w:=w) (base:=base) bH T  ck fX
 have c6:=RH (P:=P) (w:=w) (base:=base) bt T  br cB
 have bK:=RI (P:=P) (w:=w) (base:=base) aL T  jV nW bH dX bt c6
 have lB:=RK (P:=P) (w:=w) (base:=base) fQ T
 have iG:=RM (P:=P) (w:=w) (base:=base) cN T
 have iD:=RO (P:=P) (w:=w) (base:=base) c7 T
 have jt:=RP (P:=P) (w:=w) (base:=base) dE T kS eX c7 iD
 have fR:=RQ (P:=P) (w:=w) (base:=base) cm T eX c7 iD dE jt
 have mK:=RT (P:=P) (w:=w) (base:=base) ia T
 have iJ:=RU (P:=P) (w:=w) (base:=base) cX T  fQ lB cN iG cm fR ia mK
 have nX:=RV (P:=P) (w:=w) (base:=base) jY T
 have ju:=RW (P:=P) (w:=w) (base:=base) dF T  jY nX
 have gS:=RY (P:=P) (w:=w) (base:=base) cG T  dF ju
 have lC:=R0 (P:=P) (w:=w) (base:=base) fS T
 have jv:=R3 (P:=P) (w:=w) (base:=base) dG T  cN iG
 have kj:=R5 (P:=P) (w:=w) (base:=base) eD T
 have eE:=R7 (P:=P) (w:=w) (base:=base) bN T  eD kj
 have mL:=R8 (P:=P) (w:=w) (base:=base) ib T  cX iJ cG gS fS lC dG jv bN eE c7 iD cm fR
 have e8:=R9 (P:=P) (w:=w) (base:=base) bQ T
 have fe:=Sb (P:=P) (w:=w) (base:=base) bR T  aj aJ bQ e8
 have iM:=Sd (P:=P) (w:=w) (base:=base) c5 T
 have iK:=Sf (P:=P) (w:=w) (base:=base) cY T
 have kl:=Si (P:=P) (w:=w) (base:=base) eF T  cY iK
 have iL:=Sj (P:=P) (w:=w) (base:=base) cZ T
 have gT:=Sk (P:=P) (w:=w) (base:=base) cH T  cZ iL
 have cI:=Sl (P:=P) (w:=w) (base:=base) bg T  c5 iM eF kl cH gT
 have fm:=Sn (P:=P) (w:=w) (base:=base) bS T  ib mL bR fe aL bK bg cI
 have jw:=Sr (P:=P) (w:=w) (base:=base) dH T
 have I0:=yh (P:=P) (w:=w) (base:=base) IZ T  eG km eI kn bU gI aL bK aj aJ bS fm dH jw bg cI bN eE
 exact I0
end My
open PySem PySem.W PyProof.Rows L2
theorem PySem.W.Fast.tw17813798848539500597:True:=trivial
theorem PySem.W.Fast.tw14298300240881840822:True:=trivial
theorem PySem.W.Fast.tw3532995834206642895:True:=trivial
theorem PySem.W.Fast.tw9820190828063454090:True:=trivial
theorem PySem.W.Fast.tw15553451934156029894:True:=trivial
theorem PySem.W.Fast.tw15485959322106026386:True:=trivial
theorem PySem.W.Fast.tw6827424783434480729:True:=trivial
theorem PySem.W.Fast.tw7615868516815446261:True:=trivial
theorem PySem.W.Fast.tw17261691260257876982:True:=trivial
theorem PySem.W.Fast.tw8084722058312982141:True:=trivial
theorem PySem.W.Fast.tw6167482202081918094:True:=trivial
theorem PySem.W.Fast.tw1687006237251048049:True:=trivial
theorem PySem.W.Fast.tw7833385721736497594:True:=trivial
theorem PySem.W.Fast.tw10516881386669142870:True:=trivial
theorem PySem.W.Fast.tw1962150571407503802:True:=trivial
theorem PySem.W.Fast.tw11358597385958821618:True:=trivial
theorem PySem.W.Fast.tw16036238550645721095:True:=trivial
theorem PySem.W.Fast.tw8439737395102695789:True:=trivial
theorem PySem.W.Fast.tw11024129710994957598:True:=trivial
theorem PySem.W.Fast.tw317158243866813677:True:=trivial
theorem PySem.W.Fast.tw661683824712031342:True:=trivial
theorem PySem.W.Fast.tw10271466851758263846:True:=trivial
theorem PySem.W.Fast.tw13159348970378907286:True:=trivial
theorem PySem.W.Fast.tw11108611402624191455:True:=trivial
theorem PySem.W.Fast.tw15484661491897420735:True:=trivial
theorem PySem.W.Fast.tw2536021507512581688:True:=trivial
theorem PySem.W.Fast.tw8909854988959140957:True:=trivial
theorem PySem.W.Fast.tw8223725756118976345:True:=trivial
theorem PySem.W.Fast.tw1309802492587091225:True:=trivial
theorem PySem.W.Fast.tw10640295597815972472:True:=trivial
theorem PySem.W.Fast.tw7675210100988416655:True:=trivial
theorem PySem.W.Fast.tw13776274536763705645:True:=trivial
theorem PySem.W.Fast.tw8108732584715599794:True:=trivial
theorem PySem.W.Fast.tw13753663961918650663:True:=trivial
theorem PySem.W.Fast.tw13343102848003505372:True:=trivial
theorem PySem.W.Fast.tw12740751634740930049:True:=trivial
theorem PySem.W.Fast.tw11610638778040922302:True:=trivial
theorem PySem.W.Fast.tw18416255276130679431:True:=trivial
theorem PySem.W.Fast.tw18129515196740039631:True:=trivial
theorem PySem.W.Fast.tw6381820804890944118:True:=trivial
theorem PySem.W.Fast.tw17759803296412041087:True:=trivial
theorem PySem.W.Fast.tw8708510210498700896:True:=trivial
theorem PySem.W.Fast.tw4844518810813158889:True:=trivial
theorem PySem.W.Fast.tw9947064988086319284:True:=trivial
theorem PySem.W.Fast.tw14792679630876613129:True:=trivial
theorem PySem.W.Fast.tw16130013077630993420:True:=trivial
theorem PySem.W.Fast.tw9394551031276001218:True:=trivial
theorem PySem.W.Fast.tw1301645419374935725:True:=trivial
theorem PySem.W.Fast.tw8027282558442836895:True:=trivial
theorem PySem.W.Fast.tw12823940007514282258:True:=trivial
theorem PySem.W.Fast.tw8457092426981469410:True:=trivial
theorem PySem.W.Fast.tw9846501968396862335:True:=trivial
theorem PySem.W.Fast.tw6639383468252117494:True:=trivial
theorem PySem.W.Fast.tw11647424703514024070:True:=trivial
theorem PySem.W.Fast.tw7877224789132632394:True:=trivial
theorem PySem.W.Fast.tw11943925373652574212:True:=trivial
theorem PySem.W.Fast.tw13183209760351581708:True:=trivial
theorem PySem.W.Fast.tw16228619746646930356:True:=trivial
theorem PySem.W.Fast.tw2988688010408937892:True:=trivial
theorem PySem.W.Fast.tw11425440334978991455:True:=trivial
theorem PySem.W.Fast.tw13605425670700607828:True:=trivial
theorem PySem.W.Fast.tw12629747619971607633:True:=trivial
theorem PySem.W.Fast.tw14723801351490238358:True:=trivial
theorem PySem.W.Fast.tw933106451247404937:True:=trivial
theorem PySem.W.Fast.tw191361149556455129:True:=trivial
theorem PySem.W.Fast.tw13056796658731275572:True:=trivial
theorem PySem.W.Fast.tw4759727161761317790:True:=trivial
theorem PySem.W.Fast.tw2967482531959203836:True:=trivial
theorem PySem.W.Fast.tw17283768856352518221:True:=trivial
theorem PySem.W.Fast.tw10482243826683386704:True:=trivial
theorem PySem.W.Fast.tw4117884814105800727:True:=trivial
theorem PySem.W.Fast.tw17506515895259855898:True:=trivial
theorem PySem.W.Fast.tw13175662277001438867:True:=trivial
theorem PySem.W.Fast.tw4651920623399255989:True:=trivial
theorem PySem.W.Fast.tw12380628659489023891:True:=trivial
theorem PySem.W.Fast.tw4676884339178530675:True:=trivial
theorem PySem.W.Fast.tw7191132560373473855:True:=trivial
set_option maxRecDepth 100000 in
set_option maxHeartbeats 0 in
theorem PySem.Challenge.cw_shearfloor_k46_seams_carried_holds : PySem.Challenge.rw_shearfloor_k46_seams_carried.Holds := by
 w_on;o_law;k_head;(case hw=>w_witness2)
 k_fill
 refine L2.NT (l:=PySem.Challenge.rw_shearfloor_k46_seams_carried) (n:=63) (k:=12) (x:="_law_script") (CX:=bz) (sp:=L4.u3) rfl (by decide) rfl ⟨rfl,by decide,by decide,rfl⟩ (fun w h Y=>PySem.W.kIn_of Y) ?F ?S ?C
 case F =>
  intro w mg fa h KX G hmg
  have T:My.Txt mg:=by
   refine' ⟨pE KX G ?z0,pE KX G ?z1,pE KX G ?z2,pE KX G ?z3,pE KX G ?z4,pE KX G ?z5,pE KX G ?z6,pE KX G ?z7,pE KX G ?z8,pE KX G ?z9,pE KX G ?Uu,pE KX G ?Uv,pE KX G ?Uw,pE KX G ?Ux⟩
   (case z0=>k_is);(case z1=>k_is);(case z2=>k_is);(case z3=>k_is);(case z4=>k_is);(case z5=>k_is);(case z6=>k_is);(case z7=>k_is);(case z8=>k_is);(case z9=>k_is);(case Uu=>k_is);(case Uv=>k_is);(case Uw=>k_is);(case Ux=>k_is)
  have lD:∃ v,L4.qB (L2.KOf KX) mg "QUARTER" v (.tup [(.int 0),(.int (-1)),(.int 1),(.int 0)]):=by
   dsimp only [L2.KOf];refine' L4.LQ (vs:=[V.int 0,V.int (-1),V.int 1,V.int 0]) KX G ?a ?l ?o ?z ?v ?d
   (case a=>k_is);(case l=>k_is);(case o=>rfl);(case z=>decide);(case v=>exact (.cons ⟨_,rfl⟩ (.cons ⟨_,rfl⟩ (.cons ⟨_,rfl⟩ (.cons ⟨_,rfl⟩ .nil)))));(case d=>exact fun ρ H=>(.cons (.int _) (.cons (.int _) (.cons (.int _) (.cons (.int _) .nil)))))
  obtain ⟨_,lD⟩:=lD
  have lE:∃ v,L4.qB (L2.KOf KX) mg "UNMOVED" v (.tup [(.int 1),(.int 0),(.int 0),(.int 1)]):=by
   dsimp only [L2.KOf];refine' L4.LQ (vs:=[V.int 1,V.int 0,V.int 0,V.int 1]) KX G ?a ?l ?o ?z ?v ?d
   (case a=>k_is);(case l=>k_is);(case o=>rfl);(case z=>decide);(case v=>exact (.cons ⟨_,rfl⟩ (.cons ⟨_,rfl⟩ (.cons ⟨_,rfl⟩ (.cons ⟨_,rfl⟩ .nil)))));(case d=>exact fun ρ H=>(.cons (.int _) (.cons (.int _) (.cons (.int _) (.cons (.int _) .nil)))))
  obtain ⟨_,lE⟩:=lE
  have jy:∃ f fd,Def (L2.KOf KX) mg "_law_feed" My.BO ["_law_script","_law_k"] f fd:=by
   dsimp only [L2.KOf];refine' gn KX G (fun _ _ _ _ _ _ us hl=>match us,hl with | [_,_],_=>rfl) ?a ?l ?c ?k
   (case a=>k_is);(case l=>k_is);(case c=>k_is);(case k=>k_is)
  obtain ⟨_,_,jy⟩:=jy
  have jz:∃ f fd,Def (L2.KOf KX) mg "_law_take" My.tP ["_law_feed_here","_law_many"] f fd:=by
   dsimp only [L2.KOf];refine' gn KX G (fun _ _ _ _ _ _ us hl=>match us,hl with | [_,_],_=>rfl) ?a ?l ?c ?k
   (case a=>k_is);(case l=>k_is);(case c=>k_is);(case k=>k_is)
  obtain ⟨_,_,jz⟩:=jz
  have jA:∃ f fd,Def (L2.KOf KX) mg "_law_word" My.BQ ["_law_feed_here","_law_most","_law_great"] f fd:=by
   dsimp only [L2.KOf];refine' gn KX G (fun _ _ _ _ _ _ us hl=>match us,hl with | [_,_,_],_=>rfl) ?a ?l ?c ?k
   (case a=>k_is);(case l=>k_is);(case c=>k_is);(case k=>k_is)
  obtain ⟨_,_,jA⟩:=jA
  have fY:∃ f fd,Def (L2.KOf KX) mg "_law_turning" My.BR ["_law_feed_here","_law_n"] f fd:=by
   dsimp only [L2.KOf];refine' gn KX G (fun _ _ _ _ _ _ us hl=>match us,hl with | [_,_],_=>rfl) ?a ?l ?c ?k
   (case a=>k_is);(case l=>k_is);(case c=>k_is);(case k=>k_is)
  obtain ⟨_,_,fY⟩:=fY
  have ko:∃ f fd,Def (L2.KOf KX) mg "_law_met" My.BS ["_law_floor_here"] f fd:=by
   dsimp only [L2.KOf];refine' gn KX G (fun _ _ _ _ _ _ us hl=>match us,hl with | [_],_=>rfl) ?a ?l ?c ?k
   (case a=>k_is);(case l=>k_is);(case c=>k_is);(case k=>k_is)
  obtain ⟨_,_,ko⟩:=ko
  have iT:∃ f fd,Def (L2.KOf KX) mg "_law_floor" My.BV ["_law_feed_here","_law_n"] f fd:=by
   dsimp only [L2.KOf];refine' gn KX G (fun _ _ _ _ _ _ us hl=>match us,hl with | [_,_],_=>rfl) ?a ?l ?c ?k
   (case a=>k_is);(case l=>k_is);(case c=>k_is);(case k=>k_is)
  obtain ⟨_,_,iT⟩:=iT
  have kq:∃ f fd,Def (L2.KOf KX) mg "followed" My.BX ["one","other"] f fd:=by
   dsimp only [L2.KOf];refine' gn KX G (fun _ _ _ _ _ _ us hl=>match us,hl with | [_,_],_=>rfl) ?a ?l ?c ?k
   (case a=>k_is);(case l=>k_is);(case c=>k_is);(case k=>k_is)
  obtain ⟨_,_,kq⟩:=kq
  have jB:∃ f fd,Def (L2.KOf KX) mg "ring_from" My.B0 ["turning","first"] f fd:=by
   dsimp only [L2.KOf];refine' gn KX G (fun _ _ _ _ _ _ us hl=>match us,hl with | [_,_],_=>rfl) ?a ?l ?c ?k
   (case a=>k_is);(case l=>k_is);(case c=>k_is);(case k=>k_is)
  obtain ⟨_,_,jB⟩:=jB
  have kr:∃ f fd,Def (L2.KOf KX) mg "rings_of" My.B2 ["turning"] f fd:=by
   dsimp only [L2.KOf];refine' gn KX G (fun _ _ _ _ _ _ us hl=>match us,hl with | [_],_=>rfl) ?a ?l ?c ?k
   (case a=>k_is);(case l=>k_is);(case c=>k_is);(case k=>k_is)
  obtain ⟨_,_,kr⟩:=kr
  have n4:∃ f fd,Def (L2.KOf KX) mg "often" My.B4 ["turning","k"] f fd:=by
   dsimp only [L2.KOf];refine' gn KX G (fun _ _ _ _ _ _ us hl=>match us,hl with | [_,_],_=>rfl) ?a ?l ?c ?k
   (case a=>k_is);(case l=>k_is);(case c=>k_is);(case k=>k_is)
  obtain ⟨_,_,n4⟩:=n4
  have lF:∃ f fd,Def (L2.KOf KX) mg "sheared" My.B7 ["floor","k"] f fd:=by
   dsimp only [L2.KOf];refine' gn KX G (fun _ _ _ _ _ _ us hl=>match us,hl with | [_,_],_=>rfl) ?a ?l ?c ?k
   (case a=>k_is);(case l=>k_is);(case c=>k_is);(case k=>k_is)
  obtain ⟨_,_,lF⟩:=lF
  have gU:∃ f fd,Def (L2.KOf KX) mg "turned_back" My.ze ["turning"] f fd:=by
   dsimp only [L2.KOf];refine' gn KX G (fun _ _ _ _ _ _ us hl=>match us,hl with | [_],_=>rfl) ?a ?l ?c ?k
   (case a=>k_is);(case l=>k_is);(case c=>k_is);(case k=>k_is)
  obtain ⟨_,_,gU⟩:=gU
  have jC:∃ f fd,Def (L2.KOf KX) mg "quartered" My.yd ["floor"] f fd:=by
   dsimp only [L2.KOf];refine' gn KX G (fun _ _ _ _ _ _ us hl=>match us,hl with | [_],_=>rfl) ?a ?l ?c ?k
   (case a=>k_is);(case l=>k_is);(case c=>k_is);(case k=>k_is)
  obtain ⟨_,_,jC⟩:=jC
  have gW:∃ f fd,Def (L2.KOf KX) mg "led_by_step" My.B9 ["floor","step"] f fd:=by
   dsimp only [L2.KOf];refine' gn KX G (fun _ _ _ _ _ _ us hl=>match us,hl with | [_,_],_=>rfl) ?a ?l ?c ?k
   (case a=>k_is);(case l=>k_is);(case c=>k_is);(case k=>k_is)
  obtain ⟨_,_,gW⟩:=gW
  have mM:∃ f fd,Def (L2.KOf KX) mg "led_by" My.Cb ["floor","word"] f fd:=by
   dsimp only [L2.KOf];refine' gn KX G (fun _ _ _ _ _ _ us hl=>match us,hl with | [_,_],_=>rfl) ?a ?l ?c ?k
   (case a=>k_is);(case l=>k_is);(case c=>k_is);(case k=>k_is)
  obtain ⟨_,_,mM⟩:=mM
  have fq:∃ f fd,Def (L2.KOf KX) mg "step_turnings" My.Cd ["floor"] f fd:=by
   dsimp only [L2.KOf];refine' gn KX G (fun _ _ _ _ _ _ us hl=>match us,hl with | [_],_=>rfl) ?a ?l ?c ?k
   (case a=>k_is);(case l=>k_is);(case c=>k_is);(case k=>k_is)
  obtain ⟨_,_,fq⟩:=fq
  have dz:∃ f fd,Def (L2.KOf KX) mg "seam_over_shears" My.Ce ["floor","k","seam"] f fd:=by
   dsimp only [L2.KOf];refine' gn KX G (fun _ _ _ _ _ _ us hl=>match us,hl with | [_,_,_],_=>rfl) ?a ?l ?c ?k
   (case a=>k_is);(case l=>k_is);(case c=>k_is);(case k=>k_is)
  obtain ⟨_,_,dz⟩:=dz
  have cU:∃ f fd,Def (L2.KOf KX) mg "seam_over_quarters" My.zh ["floor","k","seam"] f fd:=by
   dsimp only [L2.KOf];refine' gn KX G (fun _ _ _ _ _ _ us hl=>match us,hl with | [_,_,_],_=>rfl) ?a ?l ?c ?k
   (case a=>k_is);(case l=>k_is);(case c=>k_is);(case k=>k_is)
  obtain ⟨_,_,cU⟩:=cU
  have fZ:∃ f fd,Def (L2.KOf KX) mg "seam_carried" My.zi ["floor","word","seam"] f fd:=by
   dsimp only [L2.KOf];refine' gn KX G (fun _ _ _ _ _ _ us hl=>match us,hl with | [_,_,_],_=>rfl) ?a ?l ?c ?k
   (case a=>k_is);(case l=>k_is);(case c=>k_is);(case k=>k_is)
  obtain ⟨_,_,fZ⟩:=fZ
  have ku:∃ f fd,Def (L2.KOf KX) mg "led_pair" My.Ci ["table","pair"] f fd:=by
   dsimp only [L2.KOf];refine' gn KX G (fun _ _ _ _ _ _ us hl=>match us,hl with | [_,_],_=>rfl) ?a ?l ?c ?k
   (case a=>k_is);(case l=>k_is);(case c=>k_is);(case k=>k_is)
  obtain ⟨_,_,ku⟩:=ku
  have mN:∃ f fd,Def (L2.KOf KX) mg "shears" My.zk ["k"] f fd:=by
   dsimp only [L2.KOf];refine' gn KX G (fun _ _ _ _ _ _ us hl=>match us,hl with | [_],_=>rfl) ?a ?l ?c ?k
   (case a=>k_is);(case l=>k_is);(case c=>k_is);(case k=>k_is)
  obtain ⟨_,_,mN⟩:=mN
  have n5:∃ f fd,Def (L2.KOf KX) mg "times" My.ye ["one","other"] f fd:=by
   dsimp only [L2.KOf];refine' gn KX G (fun _ _ _ _ _ _ us hl=>match us,hl with | [_,_],_=>rfl) ?a ?l ?c ?k
   (case a=>k_is);(case l=>k_is);(case c=>k_is);(case k=>k_is)
  obtain ⟨_,_,n5⟩:=n5
  have iU:∃ f fd,Def (L2.KOf KX) mg "step_table" My.Ck ["step"] f fd:=by
   dsimp only [L2.KOf];refine' gn KX G (fun _ _ _ _ _ _ us hl=>match us,hl with | [_],_=>rfl) ?a ?l ?c ?k
   (case a=>k_is);(case l=>k_is);(case c=>k_is);(case k=>k_is)
  obtain ⟨_,_,iU⟩:=iU
  have ky:∃ f fd,Def (L2.KOf KX) mg "table_of" My.zm ["word"] f fd:=by
   dsimp only [L2.KOf];refine' gn KX G (fun _ _ _ _ _ _ us hl=>match us,hl with | [_],_=>rfl) ?a ?l ?c ?k
   (case a=>k_is);(case l=>k_is);(case c=>k_is);(case k=>k_is)
  obtain ⟨_,_,ky⟩:=ky
  have lG:∃ f fd,Def (L2.KOf KX) mg "nearest" My.Cn ["number","divisor"] f fd:=by
   dsimp only [L2.KOf];refine' gn KX G (fun _ _ _ _ _ _ us hl=>match us,hl with | [_,_],_=>rfl) ?a ?l ?c ?k
   (case a=>k_is);(case l=>k_is);(case c=>k_is);(case k=>k_is)
  obtain ⟨_,_,lG⟩:=lG
  have gX:∃ f fd,Def (L2.KOf KX) mg "level_steps" My.Cp ["pair"] f fd:=by
   dsimp only [L2.KOf];refine' gn KX G (fun _ _ _ _ _ _ us hl=>match us,hl with | [_],_=>rfl) ?a ?l ?c ?k
   (case a=>k_is);(case l=>k_is);(case c=>k_is);(case k=>k_is)
  obtain ⟨_,_,gX⟩:=gX
  have mO:∃ f fd,Def (L2.KOf KX) mg "joined" My.Cr ["one","other"] f fd:=by
   dsimp only [L2.KOf];refine' gn KX G (fun _ _ _ _ _ _ us hl=>match us,hl with | [_,_],_=>rfl) ?a ?l ?c ?k
   (case a=>k_is);(case l=>k_is);(case c=>k_is);(case k=>k_is)
  obtain ⟨_,_,mO⟩:=mO
  have iW:∃ f fd,Def (L2.KOf KX) mg "made_plain" My.Ct ["word"] f fd:=by
   dsimp only [L2.KOf];refine' gn KX G (fun _ _ _ _ _ _ us hl=>match us,hl with | [_],_=>rfl) ?a ?l ?c ?k
   (case a=>k_is);(case l=>k_is);(case c=>k_is);(case k=>k_is)
  obtain ⟨_,_,iW⟩:=iW
  have gb:∃ f fd,Def (L2.KOf KX) mg "put_together" My.Cw ["one","other"] f fd:=by
   dsimp only [L2.KOf];refine' gn KX G (fun _ _ _ _ _ _ us hl=>match us,hl with | [_,_],_=>rfl) ?a ?l ?c ?k
   (case a=>k_is);(case l=>k_is);(case c=>k_is);(case k=>k_is)
  obtain ⟨_,_,gb⟩:=gb
  have kz:∃ f fd,Def (L2.KOf KX) mg "is_table" My.Cz ["thing"] f fd:=by
   dsimp only [L2.KOf];refine' gn KX G (fun _ _ _ _ _ _ us hl=>match us,hl with | [_],_=>rfl) ?a ?l ?c ?k
   (case a=>k_is);(case l=>k_is);(case c=>k_is);(case k=>k_is)
  obtain ⟨_,_,kz⟩:=kz
  have iX:∃ f fd,Def (L2.KOf KX) mg "level_word" My.CB ["table"] f fd:=by
   dsimp only [L2.KOf];refine' gn KX G (fun _ _ _ _ _ _ us hl=>match us,hl with | [_],_=>rfl) ?a ?l ?c ?k
   (case a=>k_is);(case l=>k_is);(case c=>k_is);(case k=>k_is)
  obtain ⟨_,_,iX⟩:=iX
  have jD:∃ f fd,Def (L2.KOf KX) mg "back_step" My.CD ["step"] f fd:=by
   dsimp only [L2.KOf];refine' gn KX G (fun _ _ _ _ _ _ us hl=>match us,hl with | [_],_=>rfl) ?a ?l ?c ?k
   (case a=>k_is);(case l=>k_is);(case c=>k_is);(case k=>k_is)
  obtain ⟨_,_,jD⟩:=jD
  have jE:∃ f fd,Def (L2.KOf KX) mg "back_word" My.zp ["word"] f fd:=by
   dsimp only [L2.KOf];refine' gn KX G (fun _ _ _ _ _ _ us hl=>match us,hl with | [_],_=>rfl) ?a ?l ?c ?k
   (case a=>k_is);(case l=>k_is);(case c=>k_is);(case k=>k_is)
  obtain ⟨_,_,jE⟩:=jE
  have lH:∃ f fd,Def (L2.KOf KX) mg "word_of" My.CG ["table"] f fd:=by
   dsimp only [L2.KOf];refine' gn KX G (fun _ _ _ _ _ _ us hl=>match us,hl with | [_],_=>rfl) ?a ?l ?c ?k
   (case a=>k_is);(case l=>k_is);(case c=>k_is);(case k=>k_is)
  obtain ⟨_,_,lH⟩:=lH
  have eJ:∃ f fd,Def (L2.KOf KX) mg "_law_of_column" My.CI ["_law_a","_law_c"] f fd:=by
   dsimp only [L2.KOf];refine' gn KX G (fun _ _ _ _ _ _ us hl=>match us,hl with | [_,_],_=>rfl) ?a ?l ?c ?k
   (case a=>k_is);(case l=>k_is);(case c=>k_is);(case k=>k_is)
  obtain ⟨_,_,eJ⟩:=eJ
  have eK:∃ f fd,Def (L2.KOf KX) mg "_law_far_table" My.CK ["_law_feed_here"] f fd:=by
   dsimp only [L2.KOf];refine' gn KX G (fun _ _ _ _ _ _ us hl=>match us,hl with | [_],_=>rfl) ?a ?l ?c ?k
   (case a=>k_is);(case l=>k_is);(case c=>k_is);(case k=>k_is)
  obtain ⟨_,_,eK⟩:=eK
  have gY:∃ f fd,Def (L2.KOf KX) mg "_law_single" My.CM ["_law_word_here"] f fd:=by
   dsimp only [L2.KOf];refine' gn KX G (fun _ _ _ _ _ _ us hl=>match us,hl with | [_],_=>rfl) ?a ?l ?c ?k
   (case a=>k_is);(case l=>k_is);(case c=>k_is);(case k=>k_is)
  obtain ⟨_,_,gY⟩:=gY
  have gZ:∃ f fd,Def (L2.KOf KX) mg "_law_beside" My.CO ["_law_floor_here","_law_s","_law_step"] f fd:=by
   dsimp only [L2.KOf];refine' gn KX G (fun _ _ _ _ _ _ us hl=>match us,hl with | [_,_,_],_=>rfl) ?a ?l ?c ?k
   (case a=>k_is);(case l=>k_is);(case c=>k_is);(case k=>k_is)
  obtain ⟨_,_,gZ⟩:=gZ
  have jF:∃ f fd,Def (L2.KOf KX) mg "_law_over" My.CQ ["_law_floor_here","_law_step","_law_seam"] f fd:=by
   dsimp only [L2.KOf];refine' gn KX G (fun _ _ _ _ _ _ us hl=>match us,hl with | [_,_,_],_=>rfl) ?a ?l ?c ?k
   (case a=>k_is);(case l=>k_is);(case c=>k_is);(case k=>k_is)
  obtain ⟨_,_,jF⟩:=jF
  have g7:∃ f fd,Def (L2.KOf KX) mg "_law_behind" My.CT ["_law_turning_here","_law_s","_law_k"] f fd:=by
   dsimp only [L2.KOf];refine' gn KX G (fun _ _ _ _ _ _ us hl=>match us,hl with | [_,_,_],_=>rfl) ?a ?l ?c ?k
   (case a=>k_is);(case l=>k_is);(case c=>k_is);(case k=>k_is)
  obtain ⟨_,_,g7⟩:=g7
  have gg:∃ f fd,Def (L2.KOf KX) mg "_law_stepped" My.CU ["_law_floor_here","_law_step"] f fd:=by
   dsimp only [L2.KOf];refine' gn KX G (fun _ _ _ _ _ _ us hl=>match us,hl with | [_,_],_=>rfl) ?a ?l ?c ?k
   (case a=>k_is);(case l=>k_is);(case c=>k_is);(case k=>k_is)
  obtain ⟨_,_,gg⟩:=gg
  have gh:∃ f fd,Def (L2.KOf KX) mg "_law_carried" My.zu ["_law_floor_here","_law_word_here","_law_seam"] f fd:=by
   dsimp only [L2.KOf];refine' gn KX G (fun _ _ _ _ _ _ us hl=>match us,hl with | [_,_,_],_=>rfl) ?a ?l ?c ?k
   (case a=>k_is);(case l=>k_is);(case c=>k_is);(case k=>k_is)
  obtain ⟨_,_,gh⟩:=gh
  have eN:∃ f fd,Def (L2.KOf KX) mg "_law_far_right" My.CW ["_law_feed_here","_law_floor_here","_law_seam"] f fd:=by
   dsimp only [L2.KOf];refine' gn KX G (fun _ _ _ _ _ _ us hl=>match us,hl with | [_,_,_],_=>rfl) ?a ?l ?c ?k
   (case a=>k_is);(case l=>k_is);(case c=>k_is);(case k=>k_is)
  obtain ⟨_,_,eN⟩:=eN
  have iY:∃ f fd,Def (L2.KOf KX) mg "_law_alike" My.zx ["_law_found","_law_due"] f fd:=by
   dsimp only [L2.KOf];refine' gn KX G (fun _ _ _ _ _ _ us hl=>match us,hl with | [_,_],_=>rfl) ?a ?l ?c ?k
   (case a=>k_is);(case l=>k_is);(case c=>k_is);(case k=>k_is)
  obtain ⟨_,_,iY⟩:=iY
  have oK:∃ f fd,Def (L2.KOf KX) mg "law" My.Fp ["_law_script"] f fd:=by
   dsimp only [L2.KOf];refine' gn KX G (fun _ _ _ _ _ _ us hl=>match us,hl with | [_],_=>rfl) ?a ?l ?c ?k
   (case a=>k_is);(case l=>k_is);(case c=>k_is);(case k=>k_is)
  obtain ⟨_,_,oK⟩:=oK
  have e0:=hmg.symm.trans oK.m
  cases e0
  exact ⟨_,oK.sP,fun base _ _=>L4.xh (My.yy T lD lE jy jz jA fY ko iT kq jB kr n4 lF gU jC gW mM fq dz cU fZ ku mN n5 iU ky lG gX mO iW gb kz iX jD jE lH eJ eK gY gZ jF g7 gg gh eN iY oK) fun ns hn=>let ⟨_,st,e,h⟩:=My.rz ns hn;⟨st,h ▸ e⟩⟩
 case S=>exact fun K H a ns hl hO hS=>⟨a,ns,rfl,hS.script hO,hl,fun _=>rfl⟩
 case C=>exact fun _ _ _ _ z=>z
