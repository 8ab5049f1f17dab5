import PyProof.Rows.All
import Wide.All
import OpenK.AllK
import Wide.FinOn
import Lean
import PyProof.EqAt
import PyProof.EqKinds
import PyProof.TupleCall
import PyProof.DictIter
import PyProof.EnumMake
import KE.KSortTup
import KE.KDictLaws
import KE.KDictSum
import PyProof.StrLawsTight
import KE.KIntText
import PyProof.MinMaxWalk
import PyProof.WalkInts
import KE.KIsAll
import PyProof.ExcInit
import PyProof.NsDelKeeps
import PyProof.ExcBaseAll.ValueError
import OpenK.KOwn
import PyProof.ExcAttrAll.ValueError
import PyProof.InstStoreFacts
import PyProof.NoPylong
import PySem.Challenge.RW_shearfloor_k17_tables_written_as_words
set_option Elab.async false
set_option linter.all false
set_option maxRecDepth 100000
set_option maxHeartbeats 4000000
set_option genSizeOf false
noncomputable section
namespace L2
open PySem PySem.Spec PyProof.Rows
abbrev Key:=Sum Int Str
def oh:Key->Value->Bool
 | .inl k,v=>Value.isInt k v
 | .inr x,v=>Value.isStrOf x v
def zd (w:World):Key->Int
 | .inl k=>hashInt k
 | .inr x=>hashStr w x
theorem mW:∀ {k:Key} {v:Value},oh k v=true->(∃ i t,k=Sum.inl i/\v=Value.int i t)\/(∃ x t,k=Sum.inr x/\v=Value.str x t)
 | .inl i,v,h=>by
  obtain ⟨t,e⟩:=Value.isInt_shape (k:=i) (v:=v) h
  exact .inl ⟨i,t,rfl,e⟩
 | .inr x,v,h=>by
  obtain ⟨t,e⟩:=Value.isStrOf_shape (x:=x) (v:=v) h
  exact .inr ⟨x,t,rfl,e⟩
theorem pM (a b:Int):decide ((Sum.inl a:Key)=Sum.inl b)=(a == b):=by
 by_cases e:a=b
 ·subst e;simp
 ·have h:¬ (Sum.inl a:Key)=Sum.inl b:=fun q=>e (Sum.inl.inj q)
  rw [decide_eq_false h]
  exact (beq_eq_false_iff_ne.mpr e).symm
theorem pN (a b:Str):decide ((Sum.inr a:Key)=Sum.inr b)=decide (a=b):=by
 by_cases e:a=b
 ·subst e;simp
 ·have h:¬ (Sum.inr a:Key)=Sum.inr b:=fun q=>e (Sum.inr.inj q)
  rw [decide_eq_false h,decide_eq_false e]
theorem pO (a:Int) (b:Str):decide ((Sum.inl a:Key)=Sum.inr b)=false:=decide_eq_false (fun q=>nomatch q)
theorem pP (a:Str) (b:Int):decide ((Sum.inr a:Key)=Sum.inl b)=false:=decide_eq_false (fun q=>nomatch q)
def kN (prog:Program) (w:World):PySem.KeyKind prog w Key where
 is:=oh
 hash:=zd w
 inj:=fun v a b ha hb=>by
  rcases mW ha with ⟨i,t,rfl,rfl⟩ | ⟨x,t,rfl,rfl⟩
  ·rcases mW hb with ⟨j,u,rfl,e⟩ | ⟨y,u,rfl,e⟩
   ·injection e with e1 _;rw [e1]
   ·exact nomatch e
  ·rcases mW hb with ⟨j,u,rfl,e⟩ | ⟨y,u,rfl,e⟩
   ·exact nomatch e
   ·injection e with e1 _;rw [e1]
 byValue:=fun k v h=>by
  rcases mW h with ⟨i,t,rfl,rfl⟩ | ⟨x,t,rfl,rfl⟩ <;> rfl
 pyHash:=fun hv h=>by
  rcases mW hv with ⟨i,t,rfl,rfl⟩ | ⟨x,t,rfl,rfl⟩
  ·exact wpAny_pyHash_int h
  ·exact wpAny_pyHash_str h
 eqBool:=fun hu hv h=>by
  rcases mW hu with ⟨i,t,rfl,rfl⟩ | ⟨x,t,rfl,rfl⟩
  ·rcases mW hv with ⟨j,u,rfl,rfl⟩ | ⟨y,u,rfl,rfl⟩
   ·rw [pM] at h;exact wpAny_eqBool_int h
   ·rw [pO] at h;exact SeqAt.EqAt.int_str i t y u _ _ _ _ h
  ·rcases mW hv with ⟨j,u,rfl,rfl⟩ | ⟨y,u,rfl,rfl⟩
   ·rw [pP] at h;exact SeqAt.EqAt.str_int x t j u _ _ _ _ h
   ·rw [pN] at h;exact wpAny_eqBool_str h
 «strs»:=fun k x t v h=>by
  rcases mW h with ⟨i,u,rfl,e⟩ | ⟨y,u,rfl,e⟩
  ·exact nomatch e
  ·injection e with e1 _
   subst e1
   cases v <;> rfl
end L2
namespace L2
open PySem PySem.Spec PyProof.Rows
inductive V where
 | non | bl (b:Bool) | int (i:Int) | str (x:Str) | lR (b:Array UInt8) | sS (b:UInt64) | ref (a:Addr) | ty (n:String)
 deriving DecidableEq
def RelV:V->Value->Prop
 | .non,u=>u=Value.none
 | .bl b,u=>u=Value.bool b
 | .int i,u=>∃ t,u=Value.int i t
 | .str x,u=>∃ t,u=Value.str x t
 | .lR b,u=>∃ t,u=Value.bytes b t
 | .sS b,u=>∃ t,u=Value.float b t
 | .ref a,u=>u=Value.ref a
 | .ty n,u=>u=Value.type n
abbrev Vals:List V->List Value->Prop:=Paired RelV
theorem Vals.length {xs:List V} {us:List Value} (r:Vals xs us):xs.length=us.length:=Paired.length r
theorem Vals.get:∀ {xs:List V} {us:List Value} {i:Nat} {x:V},Vals xs us->xs[i]?=some x->∃ u,us[i]?=some u/\RelV x u
 | _,_,_,_,.nil,e=>by simp at e
 | _,_,0,_,.cons r _,e=>by simp at e;subst e;exact ⟨_,rfl,r⟩
 | _,_,i + 1,x,.cons _ t,e=>by
  obtain ⟨u,h1,h2⟩:=Vals.get (i:=i) (x:=x) t (by simpa using e)
  exact ⟨u,by simpa using h1,h2⟩
theorem Vals.set {x:V} {u:Value} (r:RelV x u):∀ {xs:List V} {us:List Value} (i:Nat),Vals xs us->Vals (xs.set i x) (us.set i u)
 | _,_,_,.nil=>.nil
 | _,_,0,.cons _ t=>.cons r t
 | _,_,i + 1,.cons q t=>.cons q (Vals.set r i t)
theorem Vals.append:∀ {xs ys:List V} {us ws:List Value},Vals xs us->Vals ys ws->Vals (xs ++ ys) (us ++ ws)
 | _,_,_,_,.nil,s=>s
 | _,_,_,_,.cons r t,s=>.cons r (Vals.append t s)
theorem Vals.take:∀ {xs:List V} {us:List Value} (n:Nat),Vals xs us->Vals (xs.take n) (us.take n)
 | _,_,0,_=>.nil
 | _,_,_ + 1,.nil=>.nil
 | _,_,n + 1,.cons r t=>.cons r (Vals.take n t)
theorem Vals.drop:∀ {xs:List V} {us:List Value} (n:Nat),Vals xs us->Vals (xs.drop n) (us.drop n)
 | _,_,0,r=>r
 | _,_,_ + 1,.nil=>.nil
 | _,_,n + 1,.cons _ t=>Vals.drop n t
def t4:Option V->Option Value->Prop
 | some v,some u=>RelV v u
 | none,none=>True
 | _,_=>False
def KV {κ:Type}:List (κ×V)->List (κ×Value)->Prop:=Paired fun (p:κ×V) (q:κ×Value)=>p.1=q.1/\RelV p.2 q.2
def kV:Key->V
 | .inl i=>.int i
 | .inr x=>.str x
set_option genInjectivity false in
inductive HO where
 /-- a list -/
 | lst (xs:List V)
 /-- a tuple (never changes) -/
 | tup (xs:List V)
 /-- a dict whose keys are ints and texts;one whose keys are tuples of ints and texts (the empty one is both) -/
 | dK (kvs:List (Key×V)) | dT (kvs:List (List Key×V))
 /-- a set of ints: its members,its size -/
 | set (S:Int->Bool) (n:Nat)
 /-- an instance of the class at C,its dict at dx,its attributes -/
 | ins (C dx:Addr) (fs:List (Str×V))
 /-- the dict of the instance at x -/
 | own (x:Addr)
 /-- the dict of an exception -/
 | xd (fs:List (Str×V))
 /-- a bound method,f of x -/
 | met (f x:Addr)
 /-- a range object lo,lo + 1,.. below hi -/
 | j0 (lo hi:Int)
 /-- a thing that is known to the object (the script;a dict while a loop walks it): read,never written while it is so -/
 | iX (o:Obj) (u:HO)
 /-- a code t5 table -/
 | oi (ps:Array Value)
 /-- any other thing,by what is true of its one object (a def of Bj own: D3 a S n:=HO.ext fun h=>..) -/
 | ext (φ:Heap->Prop)
abbrev Hp:=Addr->Option HO
def upd (H:Hp) (a:Addr) (o:HO):Hp:=fun b=>if b=a then some o else H b
theorem lM {H:Hp} {a:Addr} {o:HO}:upd H a o a=some o:=by unfold upd;rw [if_pos rfl]
theorem eM {H:Hp} {a b:Addr} {o:HO} (h:b≠a):upd H a o b=H b:=by unfold upd;rw [if_neg h]
theorem oj {H:Hp} {a b:Addr} {o u:HO} (h:H a=some o) (h':H b=some u) (d:o≠u):a≠b:=by
 intro e;subst e;rw [h] at h';exact d (Option.some.inj h')
theorem pQ {H:Hp} {a b:Addr} {o:HO} (h:H a=some o) (h':H b=none):a≠b:=by
 intro e;subst e;rw [h] at h';cases h'
def i3 (h:Heap) (a:Addr) (its:Array Value):Prop:=∃ o,h.get? a=some o/\o.cls=.type "tuple" /\ o.dict=none/\∃ n,o.data=.seq its n
theorem i3.tup {h:Heap} {a:Addr} {its:Array Value} (x:i3 h a its):IsTup h a its:=let ⟨o,e,c,_,n,d⟩:=x;⟨o,e,c,n,d⟩
theorem i3.new (h:Heap) (its:Array Value):i3 (h.push { cls:=.type "tuple",data:=.seq its }) h.objs.size its:=⟨_,Heap.get?_push_size _ rfl,rfl,rfl,_,rfl⟩
section
variable (P:Program) (w:World)
def bH (H:Hp) (h:Heap) (a:Addr):HO->Prop
 | .lst xs=>xs.length<=sizeLine/\∃ (its:List Value) (n:Nat),Vals xs its/\h.get? a=some { cls:=.type "list",data:=.seq its.toArray n }
 | .tup xs=>xs.length<=sizeLine/\∃ its:List Value,Vals xs its/\i3 h a its.toArray
 | .dK kvs=>kvs.length<=sizeLine/\(a == sysModules)=false/\∃ vs,KV kvs vs/\h.DictOf (kN P w) a vs
 | .dT kvs=>kvs.length<=sizeLine/\(a == sysModules)=false/\∃ xs:List (List Key×Addr×Value),
   Paired (fun (p:List Key×V) (q:List Key×Addr×Value)=>p.1=q.1/\H q.2.1=some (.tup (p.1.map kV))/\RelV p.2 q.2.2) kvs xs /\
   ∃ o es ep,h.get? a=some o/\o.ExactDict/\o.data=.dict es ep/\es.toList=xs.map (entryOfKey (tupleKind (kN P w)))/\(xs.map (·.1)).Nodup
 | .set S n=>h.SetOf (intKind P w) a S n
 | .ins C dx fs=>H dx=some (.own a)/\fs.length<=1000/\dx≠a/\h.get? a=some (PySem.W.instObj C dx) /\
   ∃ mA,h.Ns1 dx mA/\(∀ f,t4 (fs.lookup f) (mA f))/\PySem.Within mA (fs.map (·.1))
 | .own _=>∃ o,h.get? a=some o
 | .xd fs=>∃ mA,h.Ns1 a mA/\∀ f,t4 (fs.lookup f) (mA f)
 | .j0 lo hi=>∃ t u v,h.get? a=some { cls:=.type "range",data:=.fields #[.int lo t,.int hi u,.int 1 v] }
 | .iX o u=>h.get? a=some o/\bH H h a u
 | .oi ps=>h.get? a=some { cls:=.none,data:=.fields ps }
 | .met f x=>h.get? a=some (PySem.W.methodObj (.ref f) (.ref x))
 | .ext φ=>φ h/\(∃ o,h.get? a=some o)/\∀ h1 h2:Heap,φ h1->(∀ o,h1.get? a=some o->h2.get? a=some o)->φ h2
def gH (H:Hp) (h:Heap):Prop:=∀ a o,H a=some o->bH P w H h a o
end
section
variable {P:Program} {w:World} {H H':Hp} {h h':Heap} {a:Addr} {o:HO}
theorem bH.lt (x:bH P w H h a o):a < h.objs.size:=by
 cases o with
 | lst xs=>obtain ⟨_,_,_,_,e⟩:=x;exact Heap.lt_size e
 | tup xs=>obtain ⟨_,_,_,_,e,_⟩:=x;exact Heap.lt_size e
 | dK kvs=>obtain ⟨_,_,_,_,o,_,_,e,_⟩:=x;exact Heap.lt_size e
 | dT kvs=>obtain ⟨_,_,_,_,o,_,_,e,_⟩:=x;exact Heap.lt_size e
 | set S n=>obtain ⟨o,_,_,_,e,_⟩:=x;exact Heap.lt_size e
 | ins C dx fs=>obtain ⟨_,_,_,e,_⟩:=x;exact Heap.lt_size e
 | own y=>obtain ⟨_,e⟩:=x;exact Heap.lt_size e
 | xd fs=>obtain ⟨_,⟨_,_,_,e,_⟩,_⟩:=x;exact Heap.lt_size e
 | j0 lo hi=>obtain ⟨_,_,_,e⟩:=x;exact Heap.lt_size e
 | iX ob u=>obtain ⟨e,_⟩:=x;exact Heap.lt_size e
 | oi ps=>exact Heap.lt_size (show h.get? a=some _ from x)
 | met f y=>exact Heap.lt_size (show h.get? a=some _ from x)
 | ext φ=>obtain ⟨_,⟨_,e⟩,_⟩:=x;exact Heap.lt_size e
theorem Paired.t6 {α β:Type} {F G:α->β->Prop}:∀ {l₁:List α} {l₂:List β},Paired F l₁ l₂->(∀ a b,F a b->G a b)->Paired G l₁ l₂
 | _,_,.nil,_=>.nil
 | _,_,.cons r t,f=>.cons (f _ _ r) (Paired.t6 t f)
theorem bH.stay (x:bH P w H h a o) (k:∀ b u,(b=a\/H b=some (.own a))->h.get? b=some u->h'.get? b=some u)
  (ho:∀ b,H b=some (.own a)->H' b=some (.own a)) (ht:∀ b xs,H b=some (.tup xs)->H' b=some (.tup xs)):bH P w H' h' a o:=by
 induction o with
 | lst xs=>obtain ⟨z,its,n,r,e⟩:=x;exact ⟨z,its,n,r,k _ _ (.inl rfl) e⟩
 | tup xs=>obtain ⟨z,its,r,ob,e,c⟩:=x;exact ⟨z,its,r,ob,k _ _ (.inl rfl) e,c⟩
 | dK kvs=>obtain ⟨z,y,vs,r,ob,es,ep,e,c⟩:=x;exact ⟨z,y,vs,r,ob,es,ep,k _ _ (.inl rfl) e,c⟩
 | dT kvs =>
  obtain ⟨z,y,xs,r,ob,es,ep,e,c⟩:=x
  exact ⟨z,y,xs,Paired.t6 r fun p q z=>⟨z.1,ht _ _ z.2.1,z.2.2⟩,ob,es,ep,k _ _ (.inl rfl) e,c⟩
 | set S n=>obtain ⟨ob,es,ep,t,e,c⟩:=x;exact ⟨ob,es,ep,t,k _ _ (.inl rfl) e,c⟩
 | ins C dx fs =>
  obtain ⟨d,z,ne,e,mA,⟨od,es,ep,e2,c⟩,r⟩:=x
  exact ⟨ho _ d,z,ne,k _ _ (.inl rfl) e,mA,⟨od,es,ep,k _ _ (.inr d) e2,c⟩,r⟩
 | own y=>obtain ⟨ob,e⟩:=x;exact ⟨ob,k _ _ (.inl rfl) e⟩
 | xd fs=>obtain ⟨mA,⟨od,es,ep,e,c⟩,r⟩:=x;exact ⟨mA,⟨od,es,ep,k _ _ (.inl rfl) e,c⟩,r⟩
 | j0 lo hi=>obtain ⟨t,u,v,e⟩:=x;exact ⟨t,u,v,k _ _ (.inl rfl) e⟩
 | iX ob u ih=>obtain ⟨e,q⟩:=x;exact ⟨k _ _ (.inl rfl) e,ih q⟩
 | oi ps =>
  have e:h.get? a=some { cls:=.none,data:=.fields ps }:=x
  show h'.get? a=some { cls:=.none,data:=.fields ps }
  exact k a _ (.inl rfl) e
 | met f y =>
  have e:h.get? a=some (PySem.W.methodObj (.ref f) (.ref y)):=x
  show h'.get? a=some (PySem.W.methodObj (.ref f) (.ref y))
  exact k a _ (.inl rfl) e
 | ext φ=>obtain ⟨p,⟨o,e⟩,st⟩:=x;exact ⟨st _ _ p fun o q=>k _ _ (.inl rfl) q,⟨o,k _ _ (.inl rfl) e⟩,st⟩
theorem gH.lt (x:gH P w H h) (e:H a=some o):a < h.objs.size:=(x a o e).lt
theorem gH.fresh (x:gH P w H h) (e:h.objs.size<=a):H a=none:=by
 cases q:H a with
 | none=>rfl
 | some u=>exact absurd (Nat.lt_of_lt_of_le (x.lt q) e) (Nat.lt_irrefl _)
theorem gH.kept (x:gH P w H h) (k:∀ b u,h.get? b=some u->h'.get? b=some u):gH P w H h':=fun a o e =>
 (x a o e).stay (fun b u _ q=>k b u q) (fun _ q=>q) fun _ _ q=>q
theorem gH.laid (x:gH P w H h) (k:∀ b u,h.get? b=some u->h'.get? b=some u) (hp:h.objs.size<=a) (new:bH P w (upd H a o) h' a o):gH P w (upd H a o) h':=fun b u e=>by
 have hn:=x.fresh hp
 by_cases hb:b=a
 ·subst hb;rw [lM] at e;cases e;exact new
 ·rw [eM hb] at e
  exact (x b u e).stay (fun c v _ q=>k c v q) (fun c q=>by rw [eM (pQ q hn)];exact q) fun c xs q=>by rw [eM (pQ q hn)];exact q
end
def Rd (H:Hp) (a:Addr) (u:HO):Prop:=H a=some u\/∃ o,H a=some (.iX o u)
theorem Rd.ok {P:Program} {w:World} {H:Hp} {h:Heap} {a:Addr} {u:HO} (r:Rd H a u) (x:gH P w H h):bH P w H h a u:=by
 rcases r with r | ⟨o,r⟩
 ·exact x a u r
 ·obtain ⟨_,q⟩:=x a _ r
  exact q
def xm:Option HO->Prop
 | some (.lst _)=>True
 | some (.dK _)=>True
 | some (.dT _)=>True
 | some (.set _ _)=>True
 | some (.ins _ _ _)=>True
 | some (.ext _)=>True
 | _=>False
section
variable {P:Program} {w:World} {H:Hp} {h h':Heap} {x e:Addr} {o':HO}
theorem gH.write (ok:gH P w H h) (mu:xm (H x)) (he:e=x\/H e=some (.own x)) (k:∀ b u,b≠e->h.get? b=some u->h'.get? b=some u) (sT:∃ u,h'.get? e=some u)
  (new:bH P w (upd H x o') h' x o'):gH P w (upd H x o') h':=fun b u q=>by
 have t7:∀ c y,H c=some (.own y)->c≠x:=fun c y r z=>by subst z;rw [r] at mu;exact mu
 have ze:∀ c xs,H c=some (.tup xs)->c≠x:=fun c xs r z=>by subst z;rw [r] at mu;exact mu
 by_cases hb:b=x
 ·subst hb;rw [lM] at q;cases q;exact new
 ·rw [eM hb] at q
  by_cases pR:b=e
  ·have q':H b=some (.own x):=by
    rcases he with z | z
    ·exact absurd (pR.trans z) hb
    ·rw [pR];exact z
   rw [q] at q';cases q'
   obtain ⟨v,hv⟩:=sT
   exact ⟨v,by rw [pR];exact hv⟩
  ·refine (ok b u q).stay (fun c v hc r=>k c v ?_ r) (fun c r=>by rw [eM (t7 c b r)];exact r) fun c xs r=>by rw [eM (ze c xs r)];exact r
   rcases hc with rfl | hc
   ·exact pR
   ·rintro rfl
    rcases he with z | z
    ·exact t7 c b hc z
    ·rw [hc] at z;cases z;exact hb rfl
end
structure Un (fs ex:List Addr) (H H':Hp) (h h':Heap):Prop where
 keep:∀ b o,h.get? b=some o->H b=none->b ∉ fs->b ∉ ex->h'.get? b=some o
 slot:∀ b o,h.get? b=some o->H b=none->b∈fs->b ∉ ex->∃ sl,h'.get? b=some { o with slots:=sl }
 free:∀ b o,h.get? b=some o->H b=none->b ∉ ex->H' b=none
 there:∀ b o,h.get? b=some o->b ∉ ex->∃ o',h'.get? b=some o'
 tups:∀ b xs,H b=some (.tup xs)->H' b=some (.tup xs)
 jo:∀ b o u,H b=some (.iX o u)->H' b=some (.iX o u)
 jD:∀ b ps,H b=some (.oi ps)->∃ more,H' b=some (.oi (ps ++ more))
section
variable {fs fs' ex ex':List Addr} {H H1 H2:Hp} {h h1 h2 h':Heap} {a x e:Addr} {o:HO}
theorem Un.any (u:Un fs ex H H1 h h1) {b:Addr} {ob:Obj} (q:h.get? b=some ob) (n:H b=none) (hx:b ∉ ex):∃ sl,h1.get? b=some { ob with slots:=sl }:=by
 by_cases hb:b∈fs
 ·exact u.slot b ob q n hb hx
 ·exact ⟨ob.slots,u.keep b ob q n hb hx⟩
theorem Un.kept (k:∀ b u,h.get? b=some u->h'.get? b=some u):Un fs ex H H h h' :=
 ⟨fun b ob q _ _ _=>k b ob q,fun b ob q _ _ _=>⟨ob.slots,k b ob q⟩,fun _ _ _ n _=>n,fun b ob q _=>⟨ob,k b ob q⟩,fun _ _ q=>q,fun _ _ _ q=>q,fun _ ps q=>⟨#[],by rw [q];simp⟩⟩
theorem Un.refl:Un fs ex H H h h:=Un.kept fun _ _ q=>q
theorem Un.laid (k:∀ b u,h.get? b=some u->h'.get? b=some u) (hp:h.objs.size<=a) (hn:H a=none):Un fs ex H (upd H a o) h h' where
 keep:=fun b u q _ _ _=>k b u q
 slot:=fun b u q _ _ _=>⟨u.slots,k b u q⟩
 free:=fun b u q n _=>by rw [eM (Nat.ne_of_lt (Nat.lt_of_lt_of_le (Heap.lt_size q) hp))];exact n
 there:=fun b u q _=>⟨u,k b u q⟩
 tups:=fun b xs q=>by rw [eM (pQ q hn)];exact q
 jo:=fun b u xs q=>by rw [eM (pQ q hn)];exact q
 jD:=fun b ps q=>⟨#[],by rw [eM (pQ q hn),q];simp⟩
theorem Un.write (mu:xm (H x)) (he:e=x\/H e=some (.own x)) (k:∀ b u,b≠e->h.get? b=some u->h'.get? b=some u) (sT:∃ u,h'.get? e=some u):Un fs ex H (upd H x o) h h':=by
 have hx:∀ b,H b=none->b≠x:=fun b n z=>by subst z;rw [n] at mu;exact mu
 have hb:∀ b,H b=none->b≠e:=fun b n z=>by
  subst z
  rcases he with r | r
  ·exact hx b n r
  ·rw [n] at r;cases r
 have hm:∀ b u,H b=some u->¬ xm (some u)->b≠x:=fun b u q nm z=>by subst z;rw [q] at mu;exact nm mu
 refine ⟨fun b u q n _ _=>k b u (hb b n) q,fun b u q n _ _=>⟨u.slots,k b u (hb b n) q⟩,fun b u q n _=>by rw [eM (hx b n)];exact n,fun b u q _=>?_,
  fun b xs q=>by rw [eM (hm b _ q fun z=>z)];exact q,fun b u xs q=>by rw [eM (hm b _ q fun z=>z)];exact q,fun b ps q=>⟨#[],by rw [eM (hm b _ q fun z=>z),q];simp⟩⟩
 by_cases pR:b=e
 ·subst pR;exact sT
 ·exact ⟨u,k b u pR q⟩
end
def xn (h:Heap) (H:Hp):List Addr:=(List.range h.objs.size).filter fun a=>(H a).isSome
def jE (h:Heap) (H:Hp):Heap:=PySem.W.hideAll h (xn h H)
theorem D4 (h:Heap) (H:Hp):(jE h H).objs.size=h.objs.size:=PySem.W.hideAll_size _ _
theorem D5 {h:Heap} {H:Hp} {b:Addr} {o:Obj} (e:h.get? b=some o) (n:H b=none):(jE h H).get? b=some o :=
 PySem.W.hideAll_get _ e fun hm=>by
  have q:(H b).isSome=true:=(List.mem_filter.mp hm).2
  rw [n] at q;simp at q
theorem D6 {h:Heap} {H:Hp} {b:Addr} {o:Obj} (e:(jE h H).get? b=some o):h.get? b=some o/\H b=none:=by
 have e':h.get? b=some o:=PySem.W.of_hideAll (xn h H) e
 refine ⟨e',?_⟩
 cases q:H b with
 | none=>rfl
 | some x =>
  have hm:b∈xn h H:=List.mem_filter.mpr ⟨List.mem_range.mpr (Heap.lt_size e'),by simp [q]⟩
  have z:(jE h H).get? b=none:=PySem.W.hideAll_none (xn h H) hm
  rw [z] at e;cases e
def mX (g h:Heap) (L:Addr):List (Addr×Obj):=(List.range h.objs.size).filterMap fun a=>if a=L\/(g.get? a).isSome=true then none else (h.get? a).map fun o=>(a,o)
def rest (g h:Heap) (L d:Addr):List (Addr×Obj):=(mX g h L).filter fun p=>decide (p.1≠d)
end L2
namespace L2
open PySem PySem.Spec PyProof.Rows
structure Mod (K:PySem.W.Frag) (mg:Str->Option Value) (base:Heap):Prop where
 xo:K.In base
 glob:base.Ns mainGlobals mg
 blt:∃ mb,base.Ns builtinsNs mb/\∀ x:Str,x≠"__name__" -> mb x=bootBuiltins x
 nolimit:base.NoLimit
set_option genInjectivity false in
structure Cx where
 prog:Program
 w:World
 K:PySem.W.Frag
 mg:Str->Option Value
 base:Heap
 A:Around
 N:List Str
 s₀:Shared
 H₀:Hp
 env:Env
 outer:List Env
 stack:List Env
 ex:List Addr
 fn:Str->Bool
 calm:Bool
 pn:List (Addr×Obj)
 xe:Value->Shared->Prop
def frs (l:List Env):List Addr:=l.filterMap (·.frame)
abbrev Cx.fs (X:Cx):List Addr:=frs X.outer
def zf (sc:Scope) (x:Str):Prop:=sc.names.lookup x=some .local\/sc.names.lookup x=some .cell\/sc.names.lookup x=some .free
def Loc (sc:Scope) (x:Str):Prop:=sc.names.lookup x=some .local\/sc.names.lookup x=some .cell
def Look (env:Env) (h:Heap) (m:Str->Option Value) (x:Str) (u:Value):Prop :=
 (env.kindOf x=some .local/\m x=some u)\/((env.kindOf x=some .cell\/env.kindOf x=some .free)/\∃ c,env.cells.lookup x=some c/\h.IsCell c (some u))
structure Cx.Ok (X:Cx):Prop where
 mod:Mod X.K X.mg X.base
 kind:X.env.scope.kind=.function
 glob:X.env.globals=mainGlobals
 blt:X.env.builtins=builtinsNs
 above:X.s₀.heap.objs.size<=X.env.locals
 inj:∀ x y c,X.env.cells.lookup x=some c->X.env.cells.lookup y=some c->x=y
 has:∀ x,(X.env.kindOf x=some .cell\/X.env.kindOf x=some .free)->∃ c,X.env.cells.lookup x=some c
 om:∀ x c,X.fn x=true->X.env.cells.lookup x=some c->X.s₀.heap.objs.size<=c
 hd:X.calm=true->X.A.handled=none
 frames:X.A.frames=some X.stack
 stk:X.stack=X.outer\/(X.stack=X.env :: X.outer/\X.env.frame=some X.env.locals)
 t8:∀ b∈X.ex,b≠X.env.locals/\∀ x c,X.env.cells.lookup x=some c->c≠b
 bs:∀ b o,X.base.get? b=some o->X.s₀.heap.get? b=some o/\X.H₀ b=none
 lS:X.base.objs.size<=X.s₀.heap.objs.size
 j4:∀ b o,X.base.get? b=some o->b ∉ X.ex
 kz:∀ b∈X.ex,b ∉ X.fs
 g5:X.s₀.heap.FunFrames X.base X.outer
 mY:∀ b∈X.fs,X.H₀ b=none
structure Inv (X:Cx) (pins:List (Addr×Obj)) (σ:List (Option V)) (H:Hp) (s:Shared):Prop where
 ok:X.Ok
 os:s.os=X.s₀.os
 bare:AllBare s.gens
 base:Un X.fs X.ex X.H₀ H X.s₀.heap s.heap
 loc:∃ m,s.heap.Ns X.env.locals m/\∀ (i:Nat) (x:Str) (v:V),X.N[i]?=some x->σ[i]?=some (some v)->zf X.env.scope x->∃ u,RelV v u/\Look X.env s.heap m x u
 cell:∀ x c,X.env.cells.lookup x=some c->∃ v,s.heap.IsCell c v
 free:H X.env.locals=none
 dE:∀ x c,X.env.cells.lookup x=some c->H c=none
 pin:∀ p∈X.pn ++ pins,s.heap.get? p.1=some p.2/\H p.1=none/\p.1≠X.env.locals/\p.1 ∉ X.fs/\∀ v,p.2.data≠.cell v
 hok:gH X.prog X.w H s.heap
 len:σ.length=X.N.length
section
variable {X:Cx} {pins:List (Addr×Obj)} {σ:List (Option V)} {H H':Hp} {s:Shared} {h':Heap}
theorem Cx.Ok.zg (ok:X.Ok) {b:Addr} {o:Obj} (e:X.base.get? b=some o):b ∉ X.fs:=fun hb=>by
 have:=(ok.g5.mem hb).1
 rw [e] at this;cases this
theorem Inv.bs (I:Inv X pins σ H s):∀ b o,X.base.get? b=some o->s.heap.get? b=some o/\H b=none:=fun b o e =>
 ⟨I.base.keep b o (I.ok.bs b o e).1 (I.ok.bs b o e).2 (I.ok.zg e) (I.ok.j4 b o e),I.base.free b o (I.ok.bs b o e).1 (I.ok.bs b o e).2 (I.ok.j4 b o e)⟩
theorem Inv.bk (I:Inv X pins σ H s):∀ b o,X.base.get? b=some o->s.heap.get? b=some o:=fun b o e=>(I.bs b o e).1
theorem Inv.mod (I:Inv X pins σ H s):Mod X.K X.mg X.base:=I.ok.mod
theorem Inv.lN (I:Inv X pins σ H s):X.K.In s.heap:=I.ok.mod.xo.keeps I.bk
theorem Inv.lt (I:Inv X pins σ H s):X.env.locals < s.heap.objs.size:=let ⟨_,hn,_⟩:=I.loc;hn.lt
theorem Inv.sz (I:Inv X pins σ H s):X.s₀.heap.objs.size<=s.heap.objs.size:=Nat.le_trans I.ok.above (Nat.le_of_lt I.lt)
theorem Inv.t9 (I:Inv X pins σ H s) {a:Addr} (h:s.heap.objs.size<=a):a ∉ X.fs:=fun hb=>by
 obtain ⟨_,o,ho,_⟩:=I.ok.g5.mem hb
 exact absurd (Nat.lt_of_lt_of_le (Heap.lt_size ho) (Nat.le_trans I.sz h)) (Nat.lt_irrefl _)
theorem Inv.lT (I:Inv X pins σ H s):∀ x c,X.env.cells.lookup x=some c->c≠X.env.locals:=fun x c e z=>by
 obtain ⟨v,o,ho,hd⟩:=I.cell x c e
 obtain ⟨m,⟨o',es,ep,ho',hd',_⟩,_⟩:=I.loc
 rw [z,ho'] at ho;cases ho;rw [hd'] at hd;cases hd
theorem Inv.g5 (I:Inv X pins σ H s):s.heap.FunFrames X.base X.outer:=by
 have all:∀ (l:List Env),(∀ b∈frs l,b∈X.fs)->X.s₀.heap.FunFrames X.base l->s.heap.FunFrames X.base l:=by
  intro l
  induction l with
  | nil=>intro _ _;trivial
  | cons env r ih =>
   intro hs hl
   obtain ⟨hk,⟨L,o,hf,hn,ho,hd⟩,hr⟩:=hl
   have hL:L∈X.fs:=hs L (by unfold frs;rw [List.filterMap_cons,hf];exact List.mem_cons_self)
   obtain ⟨sl,e⟩:=I.base.slot L o ho (I.ok.mY L hL) hL fun z=>I.ok.kz L z hL
   exact ⟨hk,⟨L,_,hf,hn,e,hd⟩,ih (fun b hb=>hs b (by unfold frs;rw [List.filterMap_cons,hf];exact List.mem_cons_of_mem _ hb)) hr⟩
 exact all X.outer (fun _ hb=>hb) I.ok.g5
theorem Inv.stack (I:Inv X pins σ H s):s.heap.FunFrames X.base X.stack:=by
 rcases I.ok.stk with e | ⟨e,hf⟩
 ·rw [e];exact I.g5
 ·rw [e]
  obtain ⟨m,hn,_⟩:=I.loc
  refine .cons (by rw [I.ok.kind];decide) hf hn ?_ I.g5
  exact Heap.get?_none_of_le (Nat.le_trans I.ok.lS I.ok.above)
theorem Inv.i5 (I:Inv X pins σ H s):∀ b∈frs X.stack,b∈X.env.locals :: X.fs:=fun b hb=>by
 rcases I.ok.stk with e | ⟨e,hf⟩
 ·rw [e] at hb;exact List.mem_cons_of_mem _ hb
 ·rw [e] at hb
  unfold frs at hb
  rw [List.filterMap_cons,hf] at hb
  exact hb
theorem Inv.jF (I:Inv X pins σ H s):∀ b∈frs X.stack,H b=none:=fun b hb=>by
 rcases List.mem_cons.mp (I.i5 b hb) with e | hb
 ·rw [e];exact I.free
 ·obtain ⟨_,o,ho,_⟩:=I.ok.g5.mem hb
  exact I.base.free b o ho (I.ok.mY b hb) fun z=>I.ok.kz b z hb
theorem Inv.step {g':Array GenState} {t':Nat} {d':Drawn} {ch:List Addr} (I:Inv X pins σ H s)
  (hch:∀ b∈ch,(b∈X.ex\/X.s₀.heap.objs.size<=b)/\b≠X.env.locals/\(∀ x c,X.env.cells.lookup x=some c->c≠b)/\∀ p∈X.pn ++ pins,p.1≠b)
  (keep:∀ b o,b≠X.env.locals->b ∉ X.fs->b ∉ ch->s.heap.get? b=some o->H b=none->h'.get? b=some o)
  (slot:∀ b o,b≠X.env.locals->b∈X.fs->b ∉ ch->s.heap.get? b=some o->H b=none->∃ sl,h'.get? b=some { o with slots:=sl }) (free:∀ b o,b ∉ ch->s.heap.get? b=some o->H b=none->H' b=none)
  (there:∀ b o,b ∉ ch->s.heap.get? b=some o->∃ o',h'.get? b=some o')
  (tups:∀ b xs,H b=some (.tup xs)->H' b=some (.tup xs)) (jo:∀ b o u,H b=some (.iX o u)->H' b=some (.iX o u)) (jD:∀ b ps,H b=some (.oi ps)->∃ more,H' b=some (.oi (ps ++ more)))
  (ns:∀ m,s.heap.Ns X.env.locals m->h'.Ns X.env.locals m) (hok:gH X.prog X.w H' h') (hg:AllBare g') :
  Inv X pins σ H' { s with heap:=h',gens:=g',drawn:=d',toks:=t' }:=by
 have pS:∀ b o,X.s₀.heap.get? b=some o->b≠X.env.locals:=fun b o e=>Nat.ne_of_lt (Nat.lt_of_lt_of_le (Heap.lt_size e) I.ok.above)
 have xq:∀ b o,X.s₀.heap.get? b=some o->b ∉ X.ex->b ∉ ch:=fun b o e hx hb=>by
  rcases (hch b hb).1 with z | z
  ·exact hx z
  ·exact absurd (Nat.lt_of_lt_of_le (Heap.lt_size e) z) (Nat.lt_irrefl _)
 have cellK:∀ x c,X.env.cells.lookup x=some c->∀ v,s.heap.IsCell c v->h'.IsCell c v:=fun x c e v ⟨o,ho,hd⟩=>by
  have uc:c ∉ ch:=fun z=>(hch c z).2.2.1 x c e rfl
  by_cases hc:c∈X.fs
  ·obtain ⟨sl,q⟩:=slot c o (I.lT x c e) hc uc ho (I.dE x c e)
   exact ⟨_,q,hd⟩
  ·exact ⟨o,keep c o (I.lT x c e) hc uc ho (I.dE x c e),hd⟩
 refine ⟨I.ok,I.os,hg,⟨fun b o e n hb hx=>?_,fun b o e n hb hx=>?_,fun b o e n hx=>?_,fun b o e hx=>?_,fun b xs e=>tups b xs (I.base.tups b xs e),fun b o xs e=>jo b o xs (I.base.jo b o xs e),fun b ps e=>?_⟩,?_,fun x c e=>?_,?_,fun x c e=>?_,fun p hp=>?_,hok,I.len⟩
 ·exact keep b o (pS b o e) hb (xq b o e hx) (I.base.keep b o e n hb hx) (I.base.free b o e n hx)
 ·obtain ⟨sl,e1⟩:=I.base.slot b o e n hb hx
  obtain ⟨zh,e2⟩:=slot b _ (pS b o e) hb (xq b o e hx) e1 (I.base.free b o e n hx)
  exact ⟨zh,e2⟩
 ·obtain ⟨o',e1⟩:=I.base.there b o e hx
  exact free b o' (xq b o e hx) e1 (I.base.free b o e n hx)
 ·obtain ⟨o',e1⟩:=I.base.there b o e hx
  exact there b o' (xq b o e hx) e1
 ·obtain ⟨m1,e1⟩:=I.base.jD b ps e
  obtain ⟨m2,e2⟩:=jD b _ e1
  exact ⟨m1 ++ m2,by rw [e2,Array.append_assoc]⟩
 ·obtain ⟨m,hn,hl⟩:=I.loc
  refine ⟨m,ns m hn,fun i x v e1 e2 e3=>?_⟩
  obtain ⟨u,r,l⟩:=hl i x v e1 e2 e3
  refine ⟨u,r,?_⟩
  rcases l with l | ⟨k,c,e,z⟩
  ·exact .inl l
  ·exact .inr ⟨k,c,e,cellK x c e _ z⟩
 ·obtain ⟨v,z⟩:=I.cell x c e
  exact ⟨v,cellK x c e v z⟩
 ·obtain ⟨m,⟨o,_,_,ho,_⟩,_⟩:=I.loc
  exact free _ o (fun z=>(hch _ z).2.1 rfl) ho I.free
 ·obtain ⟨v,o,ho,hd⟩:=I.cell x c e
  exact free c o (fun z=>(hch c z).2.2.1 x c e rfl) ho (I.dE x c e)
 ·obtain ⟨e,n,ne,nf,d⟩:=I.pin p hp
  have uc:p.1 ∉ ch:=fun z=>(hch p.1 z).2.2.2 p hp rfl
  exact ⟨keep p.1 p.2 ne nf uc e n,free p.1 p.2 uc e n,ne,nf,d⟩
theorem Inv.un {t':Nat} (I:Inv X pins σ H s) (u:Un X.fs [] H H' s.heap h') (hok:gH X.prog X.w H' h'):Inv X pins σ H' { s with heap:=h',toks:=t' }:=by
 obtain ⟨m,⟨o,es,ep,ho,r⟩,_⟩:=id I.loc
 obtain ⟨sl,hL⟩:=u.any ho I.free (by simp)
 exact I.step (g':=s.gens) (d':=s.drawn) (ch:=[]) (fun _ z=>nomatch z) (fun b o _ hb _ e n=>u.keep b o e n hb (by simp)) (fun b o _ hb _ e n=>u.slot b o e n hb (by simp)) (fun b o _ e n=>u.free b o e n (by simp)) (fun b o _ e=>u.there b o e (by simp)) u.tups u.jo u.jD (fun m' hm=>by
  obtain ⟨o',es',zi,ho',r'⟩:=hm
  rw [ho] at ho';cases ho'
  exact ⟨_,es',zi,hL,r'⟩) hok I.bare
theorem Inv.call {g':Array GenState} {t':Nat} {d':Drawn} {ch:List Addr} (I:Inv X pins σ H s) (u:Un (frs X.stack) ch H H' s.heap h') (hok:gH X.prog X.w H' h') (hg:AllBare g')
  (hch:∀ b∈ch,(b∈X.ex\/X.s₀.heap.objs.size<=b)/\b≠X.env.locals/\(∀ x c,X.env.cells.lookup x=some c->c≠b)/\∀ p∈X.pn ++ pins,p.1≠b) :
  Inv X pins σ H' { s with heap:=h',gens:=g',drawn:=d',toks:=t' }:=by
 obtain ⟨m,⟨o,es,ep,ho,r⟩,_⟩:=id I.loc
 obtain ⟨sl,hL⟩:=u.any ho I.free fun z=>(hch _ z).2.1 rfl
 exact I.step (ch:=ch) hch (fun b o hL hb hc e n=>u.keep b o e n (fun z=>(List.mem_cons.mp (I.i5 b z)).elim hL hb) hc) (fun b o _ _ hc e n=>u.any e n hc) (fun b o hc e n=>u.free b o e n hc) (fun b o hc e=>u.there b o e hc) u.tups u.jo u.jD (fun m' hm=>by
  obtain ⟨o',es',zi,ho',r'⟩:=hm
  rw [ho] at ho';cases ho'
  exact ⟨_,es',zi,hL,r'⟩) hok hg
theorem Inv.turned {t':Nat} {it:Addr} (I:Inv X pins σ H s) (k:∀ b o,b≠it->s.heap.get? b=some o->h'.get? b=some o) (hn:H it=none) (hL:it≠X.env.locals)
  (h1:it∈X.ex\/X.s₀.heap.objs.size<=it) (h2:∀ x c,X.env.cells.lookup x=some c->c≠it) (h3:∀ p∈X.pn ++ pins,p.1≠it):Inv X pins σ H { s with heap:=h',toks:=t' }:=by
 have Bk:∀ b u,H b=some u->b≠it:=fun b u e z=>by rw [z,hn] at e;cases e
 refine I.step (g':=s.gens) (d':=s.drawn) (ch:=[it]) (fun b hb=>?_) (fun b o _ _ hc e _=>k b o (fun z=>hc (by simp [z])) e) (fun b o _ _ hc e _=>⟨o.slots,k b o (fun z=>hc (by simp [z])) e⟩) (fun _ _ _ _ n=>n)
  (fun b o hc e=>⟨o,k b o (fun z=>hc (by simp [z])) e⟩) (fun _ _ e=>e) (fun _ _ _ e=>e) (fun b ps e=>⟨#[],by rw [e];simp⟩) (fun m hm=>?_) (fun b u e=>?_) I.bare
 ·have e:b=it:=by simpa using hb
  subst e
  exact ⟨h1,hL,h2,h3⟩
 ·obtain ⟨o,es,ep,ho,r⟩:=hm
  exact ⟨o,es,ep,k _ o (Ne.symm hL) ho,r⟩
 ·refine (I.hok b u e).stay (fun c v hc q=>k c v ?_ q) (fun _ q=>q) fun _ _ q=>q
  rcases hc with z | z
  ·rw [z];exact Bk b u e
  ·exact Bk c _ z
theorem Inv.tok (I:Inv X pins σ H s) (t:Nat):Inv X pins σ H { s with toks:=t }:=I.un (h':=s.heap) (t':=t) Un.refl I.hok
theorem Inv.kept {t':Nat} (I:Inv X pins σ H s) (k:∀ b u,s.heap.get? b=some u->h'.get? b=some u):Inv X pins σ H { s with heap:=h',toks:=t' }:=I.un (Un.kept k) (I.hok.kept k)
theorem Inv.laid {a:Addr} {o:HO} {t':Nat} (I:Inv X pins σ H s) (k:∀ b u,s.heap.get? b=some u->h'.get? b=some u) (hp:s.heap.objs.size<=a) (new:bH X.prog X.w (upd H a o) h' a o) :
  Inv X pins σ (upd H a o) { s with heap:=h',toks:=t' }:=I.un (Un.laid k hp (I.hok.fresh hp)) (I.hok.laid k hp new)
theorem Inv.write {x e:Addr} {o:HO} {t':Nat} (I:Inv X pins σ H s) (mu:xm (H x)) (he:e=x\/H e=some (.own x)) (k:∀ b u,b≠e->s.heap.get? b=some u->h'.get? b=some u) (sT:∃ u,h'.get? e=some u)
  (new:bH X.prog X.w (upd H x o) h' x o):Inv X pins σ (upd H x o) { s with heap:=h',toks:=t' }:=I.un (Un.write mu he k sT) (I.hok.write mu he k sT new)
theorem Inv.iY {iH:List (Addr×Obj)} (I:Inv X pins σ H s) (h:∀ p∈iH,s.heap.get? p.1=some p.2/\H p.1=none/\p.1≠X.env.locals/\p.1 ∉ X.fs/\∀ v,p.2.data≠.cell v):Inv X iH σ H s :=
 ⟨I.ok,I.os,I.bare,I.base,I.loc,I.cell,I.free,I.dE,fun p hp=>(List.mem_append.mp hp).elim (fun z=>I.pin p (List.mem_append_left _ z)) (h p),I.hok,I.len⟩
theorem zj {N:List Str} (hN:N.Nodup) {i j:Nat} {x:Str} (a:N[i]?=some x) (b:N[j]?=some x):i=j:=by
 obtain ⟨h1,e1⟩:=List.getElem?_eq_some_iff.mp a
 obtain ⟨h2,e2⟩:=List.getElem?_eq_some_iff.mp b
 exact (List.getElem_inj hN).mp (e1.trans e2.symm)
theorem D7 {M:Model} {A:Around} {E:Value->Shared->Prop} {i:Nat} {x:Str} {v:V} {u:Value} {Q:Unit->Shared->Prop} (I:Inv X pins σ H s) (hN:X.N.Nodup) (hi:X.N[i]?=some x) (hx:Loc X.env.scope x) (r:RelV v u)
  (h:∀ s',Inv X pins (σ.set i (some v)) H s'->(∃ a,Heap.SameBut a s.heap s'.heap/\(a=X.env.locals\/X.env.cells.lookup x=some a))->Q () s') (hf:X.fn x=true\/X.env.scope.names.lookup x=some .local:=by first | exact .inl rfl | exact .inr rfl | assumption):wpAny M A (storeName X.env x u) Q E s:=by
 obtain ⟨m,hn,hl⟩:=id I.loc
 have hcls:(X.env.scope.kind == .class || (X.env.scope.kind == .module && X.env.locals != X.env.globals))=false:=by rw [I.ok.kind];rfl
 have hiσ:i < σ.length:=by rw [I.len];exact (List.getElem?_eq_some_iff.mp hi).1
 have lT:=I.lT
 have tracked:∀ {a:Addr} {h':Heap},(∃ o,s.heap.get? a=some o/\H a=none)->Heap.SameBut a s.heap h'->gH X.prog X.w H h':=fun {a h'} ha hs b ob e=>by
  obtain ⟨_,_,hfree⟩:=ha
  refine (I.hok b ob e).stay (fun c w' hc q=>(hs.2 c ?_).trans q) (fun _ q=>q) fun _ _ q=>q
  rintro rfl
  rcases hc with rfl | hc
  ·rw [hfree] at e;cases e
  ·rw [hfree] at hc;cases hc
 rcases hx with hk | hk
 ·refine wpAny_storeName_local hk hn (fun h' hn' hs=>?_) hcls
  obtain ⟨oL,_,_,D8,_⟩:=id hn
  refine h _ ⟨I.ok,I.os,I.bare,⟨fun b o e n hb hx=>?_,fun b o e n hb hx=>?_,I.base.free,fun b o e hx=>?_,I.base.tups,I.base.jo,I.base.jD⟩,⟨_,hn',fun j y v' e1 e2 e3=>?_⟩,fun y c e=>?_,I.free,I.dE,fun p hp=>?_,tracked ⟨oL,D8,I.free⟩ hs,by simpa using I.len⟩ ⟨_,hs,.inl rfl⟩
  ·exact (hs.2 b (Nat.ne_of_lt (Nat.lt_of_lt_of_le (Heap.lt_size e) I.ok.above))).trans (I.base.keep b o e n hb hx)
  ·obtain ⟨sl,e1⟩:=I.base.slot b o e n hb hx
   exact ⟨sl,(hs.2 b (Nat.ne_of_lt (Nat.lt_of_lt_of_le (Heap.lt_size e) I.ok.above))).trans e1⟩
  ·obtain ⟨o',e1⟩:=I.base.there b o e hx
   exact ⟨o',(hs.2 b (Nat.ne_of_lt (Nat.lt_of_lt_of_le (Heap.lt_size e) I.ok.above))).trans e1⟩
  ·by_cases hj:j=i
   ·subst hj
    rw [hi] at e1;cases e1
    rw [List.getElem?_set_self hiσ] at e2
    cases e2
    exact ⟨u,r,.inl ⟨hk,by simp⟩⟩
   ·rw [List.getElem?_set_ne (Ne.symm hj)] at e2
    obtain ⟨u',r',q⟩:=hl j y v' e1 e2 e3
    refine ⟨u',r',?_⟩
    rcases q with ⟨k,e⟩ | ⟨k,c,e,z⟩
    ·refine .inl ⟨k,?_⟩
     have:y≠x:=fun e=>hj (zj hN e1 (e ▸ hi))
     simp [this,e]
    ·exact .inr ⟨k,c,e,z.sameBut hs (lT y c e)⟩
  ·obtain ⟨w',z⟩:=I.cell y c e
   exact ⟨w',z.sameBut hs (lT y c e)⟩
  ·obtain ⟨e,n,ne,nf,d⟩:=I.pin p hp
   exact ⟨(hs.2 p.1 ne).trans e,n,ne,nf,d⟩
 ·have hfn:X.fn x=true:=by
   rcases hf with z | z
   ·exact z
   ·rw [z] at hk;cases hk
  obtain ⟨c,hc⟩:=I.ok.has x (.inl hk)
  obtain ⟨w',z⟩:=I.cell x c hc
  refine wpAny_storeName_cell I.ok.kind hk hc z (fun h' hc' hs=>?_)
  obtain ⟨oc,hoc,zk⟩:=id z
  refine h { s with heap:=h' } ⟨I.ok,I.os,I.bare,⟨fun b o e n hb hx=>?_,fun b o e n hb hx=>?_,I.base.free,fun b o e hx=>?_,I.base.tups,I.base.jo,I.base.jD⟩,⟨m,hn.sameBut hs (Ne.symm (lT x c hc)),fun j y v' e1 e2 e3=>?_⟩,fun y c' e=>?_,I.free,I.dE,fun p hp=>?_,tracked ⟨oc,hoc,I.dE x c hc⟩ hs,by simpa using I.len⟩ ⟨c,hs,.inr hc⟩
  ·exact (hs.2 b (Nat.ne_of_lt (Nat.lt_of_lt_of_le (Heap.lt_size e) (I.ok.om x c hfn hc)))).trans (I.base.keep b o e n hb hx)
  ·obtain ⟨sl,e1⟩:=I.base.slot b o e n hb hx
   exact ⟨sl,(hs.2 b (Nat.ne_of_lt (Nat.lt_of_lt_of_le (Heap.lt_size e) (I.ok.om x c hfn hc)))).trans e1⟩
  ·obtain ⟨o',e1⟩:=I.base.there b o e hx
   exact ⟨o',(hs.2 b (Nat.ne_of_lt (Nat.lt_of_lt_of_le (Heap.lt_size e) (I.ok.om x c hfn hc)))).trans e1⟩
  ·by_cases hj:j=i
   ·subst hj
    rw [hi] at e1;cases e1
    rw [List.getElem?_set_self hiσ] at e2
    cases e2
    exact ⟨u,r,.inr ⟨.inl hk,c,hc,hc'⟩⟩
   ·rw [List.getElem?_set_ne (Ne.symm hj)] at e2
    obtain ⟨u',r',q⟩:=hl j y v' e1 e2 e3
    refine ⟨u',r',?_⟩
    rcases q with q | ⟨k,c',e,z'⟩
    ·exact .inl q
    ·refine .inr ⟨k,c',e,z'.sameBut hs ?_⟩
     rintro rfl
     exact hj (zj hN e1 (I.ok.inj _ _ _ e hc ▸ hi))
  ·by_cases hcc:c'=c
   ·subst hcc;exact ⟨_,hc'⟩
   ·obtain ⟨w2,z2⟩:=I.cell y c' e
    exact ⟨w2,z2.sameBut hs hcc⟩
  ·obtain ⟨e,n,ne,nf,d⟩:=I.pin p hp
   refine ⟨(hs.2 p.1 ?_).trans e,n,ne,nf,d⟩
   intro q
   rw [q,hoc] at e
   have q':oc=p.2:=Option.some.inj e
   exact d w' (by rw [<- q'];exact zk)
theorem ud {M:Model} {A:Around} {E:Value->Shared->Prop} {i:Nat} {x:Str} {v:V} {u:Value} {Q:Unit->Shared->Prop} (I:Inv X pins σ H s) (hN:X.N.Nodup) (hi:X.N[i]?=some x) (hx:Loc X.env.scope x) (r:RelV v u)
  (h:∀ s',Inv X pins (σ.set i (some v)) H s'->Q () s') (hf:X.fn x=true\/X.env.scope.names.lookup x=some .local:=by first | exact .inl rfl | exact .inr rfl | assumption):wpAny M A (storeName X.env x u) Q E s :=
 D7 I hN hi hx r (fun s' I' _=>h s' I') hf
theorem Inv.oo {s':Shared} {ch:List Addr} (I:Inv X pins σ H s) (ho:s'.os=s.os) (u:Un (frs X.stack) ch H H' s.heap s'.heap) (hok:gH X.prog X.w H' s'.heap) (hg:AllBare s'.gens)
  (hch:∀ b∈ch,(b∈X.ex\/X.s₀.heap.objs.size<=b)/\b≠X.env.locals/\(∀ x c,X.env.cells.lookup x=some c->c≠b)/\∀ p∈X.pn ++ pins,p.1≠b):Inv X pins σ H' s':=by
 obtain ⟨h',g',d',t',o'⟩:=s'
 have e:o'=s.os:=ho
 subst e
 exact I.call (g':=g') (t':=t') (d':=d') u hok hg hch
end
abbrev XK:=Value->Option Addr->Hp->Prop
abbrev St:=List (Option V)
abbrev VK:=V->Hp->Prop
abbrev TE:=St->Hp->VK->Prop
abbrev TT:=St->Hp->(Bool->Hp->Prop)->Prop
abbrev TA:=St->Hp->(List V->Hp->Prop)->Prop
set_option genInjectivity false in
structure Ends where
 nx:St->Hp->Prop
 rt:VK
 bk:St->Hp->Prop:=fun _ _=>False
 ct:St->Hp->Prop:=fun _ _=>False
abbrev TS:=Ends->St->Hp->Prop
def EP (X:Cx) (pins:List (Addr×Obj)) (σ:St) (Q:VK) (u:Value) (s':Shared):Prop:=∃ v H',Inv X pins σ H' s'/\RelV v u/\Q v H'
def TP (X:Cx) (pins:List (Addr×Obj)) (σ:St) (Q:Bool->Hp->Prop) (b:Bool) (s':Shared):Prop:=∃ H',Inv X pins σ H' s'/\Q b H'
def AP (X:Cx) (pins:List (Addr×Obj)) (σ:St) (Q:List V->Hp->Prop) (us:List Value) (s':Shared):Prop:=∃ vs H',Inv X pins σ H' s'/\Vals vs us/\Q vs H'
def SP (X:Cx) (pins:List (Addr×Obj)) (D:Ends) (f:Flow) (s':Shared):Prop :=
 match f with
 | .next=>∃ σ' H',Inv X pins σ' H' s'/\D.nx σ' H'
 | .brk=>∃ σ' H',Inv X pins σ' H' s'/\D.bk σ' H'
 | .cont=>∃ σ' H',Inv X pins σ' H' s'/\D.ct σ' H'
 | .ret u=>∃ v σ' H',Inv X pins σ' H' s'/\RelV v u/\D.rt v H'
def PE (X:Cx) (e:Expr) (t:TE):Prop :=
 ∀ (pins:List (Addr×Obj)) (s:Shared) (σ:St) (H:Hp) (Q:VK),Inv X pins σ H s->t σ H Q->wpAny (model X.prog X.w) X.A (eval e X.env) (EP X pins σ Q) X.xe s
def PT (X:Cx) (e:Expr) (t:TT):Prop :=
 ∀ (pins:List (Addr×Obj)) (s:Shared) (σ:St) (H:Hp) (Q:Bool->Hp->Prop),Inv X pins σ H s->t σ H Q->wpAny (model X.prog X.w) X.A (isTrue e X.env (eval e X.env)) (TP X pins σ Q) X.xe s
def PW (X:Cx) (e:Expr) (t:TT):Prop :=
 ∀ (whole:Sem Value) (pins:List (Addr×Obj)) (s:Shared) (σ:St) (H:Hp) (Q:Bool->Hp->Prop),Inv X pins σ H s->t σ H Q->wpAny (model X.prog X.w) X.A (isTrue e X.env whole) (TP X pins σ Q) X.xe s
theorem PW.pt {X:Cx} {e:Expr} {t:TT} (h:PW X e t):PT X e t:=h _
def PA (X:Cx) (es:List Expr) (t:TA):Prop :=
 ∀ (pos:Pos) (pins:List (Addr×Obj)) (s:Shared) (σ:St) (H:Hp) (Q:List V->Hp->Prop),Inv X pins σ H s->t σ H Q->wpAny (model X.prog X.w) X.A (spliced (backTo pos (starEach es X.env))) (AP X pins σ Q) X.xe s
def PS (X:Cx) (st:Stmt) (t:TS):Prop :=
 ∀ (pins:List (Addr×Obj)) (s:Shared) (σ:St) (H:Hp) (D:Ends),Inv X pins σ H s->t D σ H->wpAny (model X.prog X.w) X.A (exec st X.env) (SP X pins D) X.xe s
def ko (X:Cx) (st:List Stmt) (t:TS):Prop :=
 ∀ (pins:List (Addr×Obj)) (s:Shared) (σ:St) (H:Hp) (D:Ends),Inv X pins σ H s->t D σ H->wpAny (model X.prog X.w) X.A (execs st X.env) (SP X pins D) X.xe s
theorem bW {α:Type} {t:Sem α} {Q Q':α->Shared->Prop} {M:Model} {A:Around} {E:Value->Shared->Prop} {s:Shared} (h:wpAny M A t Q E s) (hQ:∀ a s,Q a s->Q' a s):wpAny M A t Q' E s:=wpAny_mono h hQ fun _ _ x=>x
end L2
namespace L2
open PySem PySem.Spec PyProof.Rows
section
variable {X:Cx}
theorem bin {a b:Expr} {ta tb:TE} (ha:PE X a ta) (hb:PE X b tb) {pins:List (Addr×Obj)} {s:Shared} {σ:St} {H:Hp} {R:V->V->Hp->Prop} (I:Inv X pins σ H s) (h:ta σ H fun x H1=>tb σ H1 fun y H2=>R x y H2)
  {α:Type} {Q:α->Shared->Prop} {f:Value->Value->Sem α}
  (hf:∀ v u s2 x y H2,Inv X pins σ H2 s2->RelV x v->RelV y u->R x y H2->wpAny (model X.prog X.w) X.A (f v u) Q X.xe s2) :
  wpAny (model X.prog X.w) X.A (eval a X.env) (fun v s₁=>wpAny (model X.prog X.w) X.A (eval b X.env) (fun u s₂=>wpAny (model X.prog X.w) X.A (f v u) Q X.xe s₂) X.xe s₁) X.xe s:=by
 refine bW (ha pins s σ H _ I h) fun v s1 ⟨x,H1,I1,r1,q1⟩=>?_
 refine bW (hb pins s1 σ H1 _ I1 q1) fun u s2 ⟨y,H2,I2,r2,q2⟩=>?_
 exact hf v u s2 x y H2 I2 r1 r2 q2
def pT (i:Nat):TE:=fun σ H Q=>∃ v,σ[i]?=some (some v)/\Q v H
def tC (v:V):TE:=fun _ H Q=>Q v H
theorem pV {i:Nat} {x:Str} {pos:Pos} (hN:X.N[i]?=some x) (hv:zf X.env.scope x) (hd:(x == ("__debug__" : Str))=false:=by decide) (hcd:(x == ("__classdict__" : Str))=false:=by decide):PE X (.Name x pos) (pT i):=by
 intro pins s σ H Q I h
 obtain ⟨v,e,h⟩:=h
 obtain ⟨m,hn,hl⟩:=I.loc
 obtain ⟨u,r,l⟩:=hl i x v hN e hv
 have fin:EP X pins σ Q u s:=⟨v,H,I,r,h⟩
 rcases l with ⟨hk,hm⟩ | ⟨hk,c,hc,hcell⟩
 ·exact wpAny_Name (wpAny_loadName_local I.ok.kind hk hn hm fin) hd
 ·rcases hk with hk | hk
  ·exact wpAny_Name (wpAny_loadName_cell I.ok.kind hk hc hcell fin) hd
  ·exact wpAny_Name (wpAny_loadName_free I.ok.kind hk hc hcell fin hcd) hd
theorem az {i j pos}:PE X (.Constant (.int i) j pos) (tC (.int i)):=fun _ _ _ H _ I h=>wpAny_Constant_int ⟨.int i,H,I.tok _,⟨_,rfl⟩,h⟩
theorem pW {b j pos}:PE X (.Constant (.bool b) j pos) (tC (.bl b)):=fun _ _ _ H _ I h=>Constant_bool ⟨.bl b,H,I,rfl,h⟩
theorem Bl {j pos}:PE X (.Constant .none j pos) (tC .non):=fun _ _ _ H _ I h=>Constant_none ⟨.non,H,I,rfl,h⟩
theorem ju {x j pos}:PE X (.Constant (.str x) j pos) (tC (.str x)):=fun _ _ _ H _ I h=>Calls.Constant_str ⟨.str x,H,I.tok _,⟨_,rfl⟩,h⟩
def Gl (X:Cx) (x:Str):Prop:=X.env.kindOf x=some .globalImplicit
theorem uf {E:Value->Shared->Prop} {pins:List (Addr×Obj)} {s:Shared} {σ:St} {H:Hp} {x:Str} {u:Value} {pos:Pos} {Q:Value->Shared->Prop} (I:Inv X pins σ H s) (hg:Gl X x) (hm:X.mg x=some u) (h:Q u s)
  (hd:(x == ("__debug__" : Str))=false:=by decide):wpAny (model X.prog X.w) X.A (eval (.Name x pos) X.env) Q E s :=
 Calls.Name_function_global I.ok.kind hg (Calls.loadGlobal_global (by rw [I.ok.glob];exact I.mod.glob.keeps I.bk) hm h) hd
theorem ug {E:Value->Shared->Prop} {pins:List (Addr×Obj)} {s:Shared} {σ:St} {H:Hp} {x:Str} {u:Value} {pos:Pos} {Q:Value->Shared->Prop} (I:Inv X pins σ H s) (hg:Gl X x) (hm:X.mg x=none) (hv:bootBuiltins x=some u) (h:Q u s)
  (hn:x≠"__name__" := by decide) (hd:(x == ("__debug__" : Str))=false:=by decide):wpAny (model X.prog X.w) X.A (eval (.Name x pos) X.env) Q E s:=by
 obtain ⟨mb,h1,h2⟩:=I.mod.blt
 exact Calls.Name_function_global I.ok.kind hg (Calls.loadGlobal_builtin (by rw [I.ok.glob];exact I.mod.glob.keeps I.bk) hm (by rw [I.ok.blt];exact h1.keeps I.bk) ((h2 x hn).trans hv) h) hd
theorem Bm {x:Str} {v:V} {u:Value} {pos:Pos} (hg:Gl X x) (hm:X.mg x=some u) (r:RelV v u) (hd:(x == ("__debug__" : Str))=false:=by decide):PE X (.Name x pos) (tC v) :=
 fun _ _ _ H _ I h=>uf I hg hm ⟨v,H,I,r,h⟩ hd
theorem uh {x:Str} {v:V} {u:Value} {pos:Pos} (hg:Gl X x) (hm:X.mg x=none) (hv:bootBuiltins x=some u) (r:RelV v u) (hn:x≠"__name__" := by decide) (hd:(x == ("__debug__" : Str))=false:=by decide):PE X (.Name x pos) (tC v) :=
 fun _ _ _ H _ I h=>ug I hg hm hv ⟨v,H,I,r,h⟩ hn hd
variable {a b:Expr} {ta tb:TE} {pos:Pos}
def PC (X:Cx) (op:CmpOp) (a b:Expr) (t:TE):Prop :=
 ∀ (pins:List (Addr×Obj)) (s:Shared) (σ:St) (H:Hp) (Q:VK),Inv X pins σ H s->t σ H Q ->
  wpAny (model X.prog X.w) X.A (eval a X.env) (fun v s₁=>wpAny (model X.prog X.w) X.A (eval b X.env) (fun u s₂=>wpAny (model X.prog X.w) X.A (compareOp op v u) (EP X pins σ Q) X.xe s₂) X.xe s₁) X.xe s
theorem lU (b:Expr) {op:CmpOp} (h:op≠.In) (h2:op≠.NotIn):behindInMarks op b=false:=by
 have e1:(op == CmpOp.In)=false:=by cases op <;> first | rfl | exact absurd rfl h
 have e2:(op == CmpOp.NotIn)=false:=by cases op <;> first | rfl | exact absurd rfl h2
 cases b <;> simp [behindInMarks,e1,e2]
def tB (t:TE):TT:=fun σ H Q=>t σ H fun x H1=>∃ c,x=.bl c/\Q c H1
theorem zm {op:CmpOp} {t:TE} (h:PC X op a b t) (h1:behindInMarks op b=false:=by first | exact lU _ (by decide) (by decide) | rfl):PT X (.Compare a [op] [b] pos) (tB t):=by
 intro pins s σ H Q I hw
 refine wpAny_isTrue_Compare1 (bW (h pins s σ H _ I hw) fun v s1 h1=>bW h1 fun u s2 h2=>bW h2 fun c s3 ⟨x,H1,I1,r1,q1⟩=>?_) h1
 obtain ⟨d,rfl,q⟩:=q1
 cases r1
 exact wpAny_truthy_bool ⟨H1,I1,q⟩
theorem oq {e:Expr} {t:TE} (h:PE X e t) (he:∀ whole,isTrue e X.env whole=(do let v <- whole;standAt e.pos;holding [v] (truthy v)):=by intro _;rfl):PT X e (tB t):=by
 intro pins s σ H Q I hw
 refine isTrue_plain (bW (h pins s σ H _ I hw) fun v s1 ⟨x,H1,I1,r1,q1⟩=>?_) (he _)
 obtain ⟨d,rfl,q⟩:=q1
 cases r1
 exact wpAny_truthy_bool ⟨H1,I1,q⟩
variable {tA xr:TT} {rest:List Expr}
def ui (t u:TT):TT:=fun σ H Q=>t σ H fun c H1=>if c=true then u σ H1 Q else Q false H1
def Bn (t u:TT):TT:=fun σ H Q=>t σ H fun c H1=>if c=true then Q true H1 else u σ H1 Q
def uj (t:TT):TT:=fun σ H Q=>t σ H fun c H1=>Q (!c) H1
theorem zo (ha:PT X a tA):PW X (.BoolOp .And [a] pos) tA:=by
 intro wh pins s σ H Q I h
 refine isTrue_and (bW (ha pins s σ H Q I h) fun c s1 e=>?_)
 cases c with
 | true=>exact isTrue_and_nil e
 | false=>exact e
theorem uk (ha:PT X a tA):PW X (.BoolOp .Or [a] pos) tA:=by
 intro wh pins s σ H Q I h
 refine isTrue_or (bW (ha pins s σ H Q I h) fun c s1 e=>?_)
 cases c with
 | false=>exact isTrue_or_nil e
 | true=>exact e
theorem zp (ha:PT X a tA) (hb:PW X (.BoolOp .And (b :: rest) pos) xr):PW X (.BoolOp .And (a :: b :: rest) pos) (ui tA xr):=by
 intro wh pins s σ H Q I h
 refine isTrue_and (bW (ha pins s σ H _ I h) fun c s1 ⟨H1,I1,q1⟩=>?_)
 cases c with
 | true=>exact hb wh pins s1 σ H1 Q I1 q1
 | false=>exact ⟨H1,I1,q1⟩
theorem mZ (ha:PT X a tA) (hb:PW X (.BoolOp .Or (b :: rest) pos) xr):PW X (.BoolOp .Or (a :: b :: rest) pos) (Bn tA xr):=by
 intro wh pins s σ H Q I h
 refine isTrue_or (bW (ha pins s σ H _ I h) fun c s1 ⟨H1,I1,q1⟩=>?_)
 cases c with
 | true=>exact ⟨H1,I1,q1⟩
 | false=>exact hb wh pins s1 σ H1 Q I1 q1
theorem ot (ha:PT X a tA):PT X (.UnaryOp .Not a pos) (uj tA):=by
 intro pins s σ H Q I h
 exact isTrue_not (ha pins s σ H (fun c H1=>Q (!c) H1) I h)
def ou (ta tb:TE):TE:=fun σ H Q=>ta σ H fun x H1=>∃ c,x=.bl c/\if c=true then tb σ H1 Q else Q (.bl false) H1
theorem um {op} {t:TE} (h:PE X a t):PE X (.BoolOp op [a] pos) t:=fun pins s σ H Q I hw=>BoolOp_one (h pins s σ H Q I hw)
theorem uo (ha:PE X a ta) (hb:PE X (.BoolOp .And (b :: rest) pos) tb):PE X (.BoolOp .And (a :: b :: rest) pos) (ou ta tb):=by
 intro pins s σ H Q I h
 refine BoolOp_and (bW (ha pins s σ H _ I h) fun v s1 ⟨x,H1,I1,r1,q1⟩=>?_)
 obtain ⟨c,rfl,q1⟩:=q1
 cases r1
 refine wpAny_truthy_bool ?_
 cases c with
 | true=>exact hb pins s1 σ H1 Q I1 q1
 | false=>exact ⟨.bl false,H1,I1,rfl,q1⟩
end
end L2
namespace L2
open PySem PySem.Spec PyProof.Rows
def fI (K:PySem.W.Frag) (H:Hp) (a:Addr) (xs:List V):Prop :=
 Rd H a (.lst xs) \/
  ∃ (o:Obj) (its:Array Value) (n:Nat),K.lookup a=some o/\o.cls=.type "list" /\ o.dict=none/\o.data=.seq its n/\its.size<=sizeLine/\Vals xs its.toList
def dF (K:PySem.W.Frag) (H:Hp) (a:Addr) (xs:List V):Prop :=
 Rd H a (.tup xs) \/
  ∃ (o:Obj) (its:Array Value) (n:Nat),K.lookup a=some o/\o.cls=.type "tuple" /\ o.dict=none/\o.data=.seq its n/\its.size<=sizeLine/\Vals xs its.toList
def zq:Value->Option V
 | .none=>some .non
 | .bool b=>some (.bl b)
 | .int i _=>some (.int i)
 | .str x _=>some (.str x)
 | .bytes b _=>some (.lR b)
 | .float b _=>some (.sS b)
 | .ref a=>some (.ref a)
 | .type n=>some (.ty n)
 | _=>none
theorem RelV.abs {x:V} {u:Value} (r:RelV x u):zq u=some x:=by
 cases x with
 | non=>cases r;rfl
 | bl _=>cases r;rfl
 | int _=>obtain ⟨t,rfl⟩:=r;rfl
 | str _=>obtain ⟨t,rfl⟩:=r;rfl
 | lR _=>obtain ⟨t,rfl⟩:=r;rfl
 | sS _=>obtain ⟨t,rfl⟩:=r;rfl
 | ref _=>cases r;rfl
 | ty _=>cases r;rfl
theorem RelV.inj {x y:V} {u:Value} (r:RelV x u) (q:RelV y u):x=y:=Option.some.inj (r.abs.symm.trans q.abs)
theorem Vals.inj:∀ {xs ys:List V} {us:List Value},Vals xs us->Vals ys us->xs=ys
 | _,_,_,.nil,.nil=>rfl
 | _,_,_,.cons r t,.cons r' t'=>by rw [r.inj r',Vals.inj t t']
section
variable {X:Cx} {pins:List (Addr×Obj)} {σ:St} {H:Hp} {s:Shared} {a:Addr} {xs ys:List V}
theorem dF.of {K:PySem.W.Frag} (h:H a=some (.tup xs)):dF K H a xs:=.inl (.inl h)
theorem Inv.list (I:Inv X pins σ H s) (h:fI X.K H a xs):∃ its:List Value,Vals xs its/\PlainL s.heap a its.toArray/\xs.length<=sizeLine:=by
 rcases h with h | ⟨o,its,n,hk,hc,hd,hs,hz,r⟩
 ·obtain ⟨z,its,n,r,e⟩:=h.ok I.hok
  exact ⟨its,r,⟨_,n,e,rfl,rfl,rfl⟩,z⟩
 ·refine ⟨its.toList,r,⟨o,n,I.lN a o hk,hc,hd,by simpa using hs⟩,?_⟩
  have e:=r.length
  simp only [Array.length_toList] at e
  omega
theorem Inv.kB (I:Inv X pins σ H s) (h:dF X.K H a xs):∃ its:List Value,Vals xs its/\i3 s.heap a its.toArray/\xs.length<=sizeLine:=by
 rcases h with h | ⟨o,its,n,hk,hc,hd0,hs,hz,r⟩
 ·obtain ⟨z,its,r,p⟩:=h.ok I.hok
  exact ⟨its,r,p,z⟩
 ·refine ⟨its.toList,r,⟨o,I.lN a o hk,hc,hd0,n,by simpa using hs⟩,?_⟩
  have e:=r.length
  simp only [Array.length_toList] at e
  omega
theorem Inv.tuple (I:Inv X pins σ H s) (h:dF X.K H a xs):∃ its:List Value,Vals xs its/\IsTup s.heap a its.toArray/\xs.length<=sizeLine :=
 let ⟨its,r,p,z⟩:=I.kB h
 ⟨its,r,p.tup,z⟩
theorem Inv.j5 (I:Inv X pins σ H s) (h:fI X.K H a xs) (h':fI X.K H a ys):xs=ys:=by
 obtain ⟨its,r,⟨o,n,e,_,_,d⟩,_⟩:=I.list h
 obtain ⟨its',r',⟨o',n',e',_,_,d'⟩,_⟩:=I.list h'
 rw [e] at e';cases e'
 rw [d] at d'
 injection d' with d1 _
 have:its=its':=by simpa using congrArg Array.toList d1
 subst this
 exact r.inj r'
theorem Inv.gj (I:Inv X pins σ H s) (h:dF X.K H a xs) (h':dF X.K H a ys):xs=ys:=by
 obtain ⟨its,r,⟨o,e,_,n,d⟩,_⟩:=I.tuple h
 obtain ⟨its',r',⟨o',e',_,n',d'⟩,_⟩:=I.tuple h'
 rw [e] at e';cases e'
 rw [d] at d'
 injection d' with d1 _
 have:its=its':=by simpa using congrArg Array.toList d1
 subst this
 exact r.inj r'
end
abbrev Cx.wish (X:Cx) (E:Value->Shared->Prop):Cx:={ X with xe:=E }
abbrev Cx.mL (X:Cx):Cx:=X.wish fun _ _=>False
theorem Cx.Ok.wish {X:Cx} (ok:X.Ok) (E:Value->Shared->Prop):(X.wish E).Ok :=
 ⟨ok.mod,ok.kind,ok.glob,ok.blt,ok.above,ok.inj,ok.has,ok.om,ok.hd,ok.frames,ok.stk,ok.t8,ok.bs,ok.lS,ok.j4,ok.kz,ok.g5,ok.mY⟩
theorem Cx.Ok.fJ {X:Cx} {E:Value->Shared->Prop} (ok:(X.wish E).Ok):X.Ok :=
 ⟨ok.mod,ok.kind,ok.glob,ok.blt,ok.above,ok.inj,ok.has,ok.om,ok.hd,ok.frames,ok.stk,ok.t8,ok.bs,ok.lS,ok.j4,ok.kz,ok.g5,ok.mY⟩
section
variable {X:Cx} {pins:List (Addr×Obj)} {σ:St} {H:Hp} {s:Shared} {E:Value->Shared->Prop}
theorem Inv.wish (I:Inv X pins σ H s) (E:Value->Shared->Prop):Inv (X.wish E) pins σ H s:=⟨I.ok.wish E,I.os,I.bare,I.base,I.loc,I.cell,I.free,I.dE,I.pin,I.hok,I.len⟩
theorem Inv.fJ (I:Inv (X.wish E) pins σ H s):Inv X pins σ H s:=⟨I.ok.fJ,I.os,I.bare,I.base,I.loc,I.cell,I.free,I.dE,I.pin,I.hok,I.len⟩
theorem SP.fJ {D:Ends} {f:Flow} {s':Shared} (h:SP (X.wish E) pins D f s'):SP X pins D f s':=by
 cases f with
 | next=>obtain ⟨σ',H',I,q⟩:=h;exact ⟨σ',H',I.fJ,q⟩
 | brk=>obtain ⟨σ',H',I,q⟩:=h;exact ⟨σ',H',I.fJ,q⟩
 | cont=>obtain ⟨σ',H',I,q⟩:=h;exact ⟨σ',H',I.fJ,q⟩
 | ret u=>obtain ⟨v,σ',H',I,r,q⟩:=h;exact ⟨v,σ',H',I.fJ,r,q⟩
theorem ko.mL {st:List Stmt} {t:TS} (h:ko X.mL st t):ko X st t:=fun pins s σ H D I hw =>
 wpAny_mono (h pins s σ H D (I.wish _) hw) (fun _ _ q=>q.fJ) fun _ _ z=>False.elim z
end
section
variable {X:Cx} {st:Stmt} {rest:List Stmt} {t u:TS} {e:Expr} {te:TE} {pos:Pos}
def ow:TS:=fun D σ H=>D.nx σ H
def pX (t u:TS):TS:=fun D σ H=>t { D with nx:=u D } σ H
theorem jv:ko X [] ow:=fun _ _ σ H _ I h=>wpAny_execs_nil ⟨σ,H,I,h⟩
theorem b9 (h1:PS X st t) (h2:ko X rest u):ko X (st :: rest) (pX t u):=by
 intro pins s σ H D I h
 refine wpAny_execs_cons (bW (h1 pins s σ H { D with nx:=u D } I h) fun f s1 q=>?_)
 cases f with
 | next =>
  obtain ⟨σ',H',I',q⟩:=q
  exact h2 pins s1 σ' H' D I' q
 | ret v=>exact q
 | brk=>exact q
 | cont=>exact q
theorem ck (h1:PS X st t):ko X [st] t:=by
 intro pins s σ H D I h
 refine wpAny_execs_cons (bW (h1 pins s σ H D I h) fun f s1 q=>?_)
 cases f with
 | next=>exact wpAny_execs_nil q
 | ret v=>exact q
 | brk=>exact q
 | cont=>exact q
theorem Inv.quiet {pins:List (Addr×Obj)} {σ:St} {H:Hp} {s:Shared} (I:Inv X pins σ H s):interactive X.env=false:=by simp [interactive,I.ok.kind]
def lV (te:TE):TS:=fun D σ H=>te σ H fun _ H1=>D.nx σ H1
theorem zt (he:PE X e te) (hs:swapsWith e none pos.line X.env=pure false:=by rfl):PS X (.Expr e pos) (lV te):=by
 intro pins s σ H D I h
 exact wpAny_Expr_any (bW (he pins s σ H _ I h) fun v s1 ⟨x,H1,I1,r1,q1⟩=>⟨σ,H1,I1,q1⟩) I.quiet hs
def uq (te:TE):TS:=fun D σ H=>te σ H D.rt
theorem dS (he:PE X e te):PS X (.Return (some e) pos) (uq te):=by
 intro pins s σ H D I h
 exact wpAny_Return_some (bW (he pins s σ H _ I h) fun v s1 ⟨x,H1,I1,r1,q1⟩=>⟨x,σ,H1,I1,r1,q1⟩)
def pY (c:TT) (t u:TS):TS:=fun D σ H=>c σ H fun b H1=>if b=true then t D σ H1 else u D σ H1
theorem i6 {c:Expr} {a b:List Stmt} {tc:TT} (hc:PT X c tc) (ha:ko X a t) (hb:ko X b u):PS X (.If c a b pos) (pY tc t u):=by
 intro pins s σ H D I h
 refine wpAny_If (bW (hc pins s σ H _ I h) fun d s1 ⟨H1,I1,q1⟩=>?_)
 cases d with
 | true=>exact ha pins s1 σ H1 D I1 q1
 | false=>exact hb pins s1 σ H1 D I1 q1
end
abbrev TG:=V->St->Hp->(St->Hp->Prop)->Prop
abbrev lW:=List V->St->Hp->(St->Hp->Prop)->Prop
def PG (X:Cx) (target:Expr) (t:TG):Prop :=
 ∀ (pins:List (Addr×Obj)) (s:Shared) (σ:St) (H:Hp) (v:V) (u:Value) (Q:St->Hp->Prop),Inv X pins σ H s->RelV v u->t v σ H Q ->
  wpAny (model X.prog X.w) X.A (assign target X.env u) (fun _ s'=>∃ σ' H',Inv X pins σ' H' s'/\Q σ' H') X.xe s
def ur (X:Cx) (ts:List Expr) (t:lW):Prop :=
 ∀ (pins:List (Addr×Obj)) (s:Shared) (σ:St) (H:Hp) (vs:List V) (us:List Value) (Q:St->Hp->Prop),Inv X pins σ H s->Vals vs us->t vs σ H Q ->
  wpAny (model X.prog X.w) X.A (assignInOrder ((assignEach ts X.env).map (·.2)) us) (fun _ s'=>∃ σ' H',Inv X pins σ' H' s'/\Q σ' H') X.xe s
abbrev pZ:=V->V->V->Hp->(Hp->Prop)->Prop
def uu (X:Cx) (t:pZ):Prop :=
 ∀ (pins:List (Addr×Obj)) (s:Shared) (σ:St) (H:Hp) (o i v:V) (ov iv u:Value) (Q:Hp->Prop),Inv X pins σ H s->RelV o ov->RelV i iv->RelV v u->t o i v H Q ->
  wpAny (model X.prog X.w) X.A (setItem ov iv u) (fun _ s'=>∃ H',Inv X pins σ H' s'/\Q H') X.xe s
section
variable {X:Cx} {pos:Pos}
def lX (i:Nat):TG:=fun v σ H Q=>Q (σ.set i (some v)) H
theorem ek {i:Nat} {x:Str} (hN:X.N.Nodup) (hi:X.N[i]?=some x) (hx:Loc X.env.scope x) (hf:X.fn x=true\/X.env.scope.names.lookup x=some .local:=by first | exact .inl rfl | exact .inr rfl | assumption):PG X (.Name x pos) (lX i):=by
 intro pins s σ H v u Q I r h
 exact wpAny_assign_Name (ud I hN hi hx r (fun s' I'=>⟨_,H,I',h⟩) hf)
def uv:lW:=fun vs σ H Q=>vs=[]/\Q σ H
def oy (t:TG) (u:lW):lW:=fun vs σ H Q=>∃ v r,vs=v :: r/\t v σ H fun σ' H'=>u r σ' H' Q
theorem m8:ur X [] uv:=by
 intro pins s σ H vs us Q I r h
 obtain ⟨e,h⟩:=h
 subst e
 cases r
 exact assignInOrder_nil ⟨σ,H,I,h⟩
theorem gD {e:Expr} {es:List Expr} {t:TG} {u:lW} (h1:PG X e t) (h2:ur X es u)
  (hs:(assignEach (e :: es) X.env).map (·.2)=assign e X.env :: (assignEach es X.env).map (·.2):=by rfl):ur X (e :: es) (oy t u):=by
 intro pins s σ H vs us Q I r h
 obtain ⟨v,vr,e1,h⟩:=h
 subst e1
 cases r with
 | cons r rr =>
  rw [hs]
  refine assignInOrder_cons (bW (h1 pins s σ H _ _ _ I r h) fun _ s1 ⟨σ1,H1,I1,q1⟩=>?_)
  exact h2 pins s1 σ1 H1 _ _ Q I1 rr q1
def p7 (K:PySem.W.Frag) (n:Nat) (t:lW):TG:=fun v σ H Q=>∃ a xs,v=.ref a/\dF K H a xs/\xs.length=n/\t xs σ H Q
theorem m9 {es:List Expr} {k:Nat} {t:lW} {n:Nat} (hc:X.calm=true) (h:ur X es t)
  (hn:(assignEach es X.env).length=n:=by rfl) (hst:(assignEach es X.env).findIdx? (·.1)=none:=by rfl):PG X (.Tuple es k pos) (p7 X.K n t):=by
 intro pins s σ H v u Q I r hw
 obtain ⟨a,xs,e1,hq,hl,hw⟩:=hw
 subst e1
 cases r
 obtain ⟨its,rv,ht,hz⟩:=I.tuple hq
 refine assign_Tuple_tuple (I.ok.hd hc) ht (by simp [hn,<- hl,rv.length]) hst fun h' hx=>?_
 have I1:Inv X pins σ H { s with heap:=h' }:=I.kept (t':=s.toks) fun b o e=>hx b o (Nat.ne_of_lt (Heap.lt_size e)) e
 exact h pins _ σ H xs _ Q I1 (by simpa using rv) hw
def bN (to ti:TE) (t:pZ):TG:=fun v σ H Q=>to σ H fun o H1=>ti σ H1 fun i H2=>t o i v H2 fun H3=>Q σ H3
theorem Bo {o i:Expr} {to ti:TE} {t:pZ} (ho:PE X o to) (hi:PE X i ti) (hs:uu X t)
  (ha:∀ v,assign (.Subscript o i pos) X.env v=(do
   let ov <- holding [v] (eval o X.env)
   let iv <- holding [v,ov] (eval i X.env)
   standAt pos
   holding [v,ov,iv] (setItem ov iv v)
   release [v,ov,iv] []):=by intro _;rfl):PG X (.Subscript o i pos) (bN to ti t):=by
 intro pins s σ H v u Q I r h
 rw [ha]
 refine wpAny_bind (wpAny_holding (bW (ho pins s σ H _ I h) fun ov s1 ⟨x,H1,I1,r1,q1⟩=>?_))
 refine wpAny_bind (wpAny_holding (bW (hi pins s1 σ H1 _ I1 q1) fun iv s2 ⟨y,H2,I2,r2,q2⟩=>?_))
 refine wpAny_bind (wpAny_standAt (wpAny_bind (wpAny_holding (bW (hs pins s2 σ H2 x y v ov iv u _ I2 r1 r2 r q2) fun _ s3 ⟨H3,I3,q3⟩=>?_))))
 exact wpAny_release ⟨σ,H3,I3,q3⟩
def p8 (te:TE) (g:TG):TS:=fun D σ H=>te σ H fun x H1=>g x σ H1 D.nx
theorem oz {tg e:Expr} {te:TE} {g:TG} (he:PE X e te) (hg:PG X tg g) (hs:swapsWithSole [tg] e pos.line X.env=pure false:=by rfl) (hw:swappedStores [tg] e X.env=pure none:=by rfl)
  (h1:(assignEach [tg] X.env).map (·.2)=[assign tg X.env]:=by rfl):PS X (.Assign [tg] e pos) (p8 te g):=by
 intro pins s σ H D I h
 refine wpAny_Assign_stores (bW (he pins s σ H _ I h) fun v s1 ⟨x,H1,I1,r1,q1⟩=>?_) hs hw
 rw [h1]
 exact bW (hg pins s1 σ H1 x v _ I1 r1 q1) fun _ s2 q=>q
theorem eA {i:Nat} {x:Str} {e:Expr} {te:TE} {pos':Pos} (hN:X.N.Nodup) (hi:X.N[i]?=some x) (hx:Loc X.env.scope x) (he:PE X e te) (hs:swapsWith e (some (.Name x pos')) pos.line X.env=pure false:=by rfl) (hf:X.fn x=true\/X.env.scope.names.lookup x=some .local:=by first | exact .inl rfl | exact .inr rfl | assumption) :
  PS X (.Assign [.Name x pos'] e pos) (p8 te (lX i)):=by
 intro pins s σ H D I h
 refine wpAny_Assign_Name (bW (he pins s σ H _ I h) fun v s1 ⟨y,H1,I1,r1,q1⟩=>?_) hs
 exact ud I1 hN hi hx r1 (fun s2 I2=>⟨_,H1,I2,q1⟩) hf
def uw (i j:Nat) (ta:TA):TS:=fun D σ H=>ta σ H fun vs H1=>∃ v w,vs=[v,w]/\D.nx ((σ.set i (some v)).set j (some w)) H1
theorem xt {i j:Nat} {x y:Str} {a b:Expr} {ta:TA} {px py pt:Pos} {kt k2 zu} (hc:X.calm=true) (hN:X.N.Nodup) (hi:X.N[i]?=some x) (hj:X.N[j]?=some y) (hij:i≠j)
  (hx:X.env.scope.names.lookup x=some .local) (hy:X.env.scope.names.lookup y=some .local) (ha:PA X [a,b] ta)
  (hw:swappedStores [.Tuple [.Name x px,.Name y py] kt pt] (.Tuple [a,b] k2 zu) X.env=pure (some [x,y]))
  (hs:swapsWithSole [.Tuple [.Name x px,.Name y py] kt pt] (.Tuple [a,b] k2 zu) pos.line X.env=pure false:=by rfl) :
  PS X (.Assign [.Tuple [.Name x px,.Name y py] kt pt] (.Tuple [a,b] k2 zu) pos) (uw i j ta):=by
 intro pins s σ H D I h
 rw [exec_Assign_arm]
 refine wpAny_bind (wpAny_standAt ?_)
 rw [hs]
 refine wpAny_bind (wpAny_pure ?_)
 rw [if_neg (by decide)]
 refine wpAny_bind (Tuple_ (bW (ha _ pins s σ H _ I h) fun us s1 ⟨vs,H1,I1,r1,q1⟩=>?_))
 obtain ⟨v,w,e1,q1⟩:=q1
 subst e1
 obtain ⟨u1,u2,rfl,rv,rw'⟩:∃ u1 u2,us=[u1,u2]/\RelV v u1/\RelV w u2:=by
  cases r1 with
  | cons p q =>
   cases q with
   | cons p' q' =>
    cases q'
    exact ⟨_,_,rfl,p,p'⟩
 refine wpAny_newObj_type ?_ (by show 2<=sizeLine;decide)
 have I2:Inv X pins σ H1 { s1 with heap:=s1.heap.push { cls:=.type "tuple",data:=.seq [u1,u2].toArray } }:=I1.kept (t':=s1.toks) fun b o e=>Heap.get?_push_of_some _ e
 rw [hw]
 refine wpAny_bind (wpAny_pure ?_)
 show wpAny (model X.prog X.w) X.A (do rule "assign.swapped-stores";let items <- unpackItems (.ref s1.heap.objs.size) 2 none;assignInOrder [fun v=>bindName X.env y v,fun v=>bindName X.env x v] items.reverse;pure Flow.next) _ _ _
 refine wpAny_bind (wpAny_rule (wpAny_bind (unpackItems_tuple (items:=#[u1,u2]) (I.ok.hd hc) (IsTup.new s1.heap _) fun h' hx'=>?_)))
 have I3:=I2.kept (h':=h') (t':=s1.toks) fun b o e=>hx' b o (Nat.ne_of_lt (Heap.lt_size e)) e
 show wpAny _ _ (assignInOrder [fun v=>bindName X.env y v,fun v=>bindName X.env x v] [u2,u1] >>= fun _=>pure Flow.next) _ _ _
 refine wpAny_bind (assignInOrder_cons (wpAny_bindName (ud I3 hN hj (.inl hy) rw' (fun s2 I4=>?_) (.inr hy))))
 refine assignInOrder_cons (wpAny_bindName (ud I4 hN hi (.inl hx) rv (fun s3 I5=>assignInOrder_nil (wpAny_pure ?_)) (.inr hx)))
 rw [List.set_comm _ _ (Ne.symm hij)] at I5
 exact ⟨_,H1,I5,q1⟩
end
section
variable {X:Cx} {pos:Pos}
def lY (c:TT) (tb:TS):TS:=fun D σ H=>∃ W:Nat->St->Hp->Prop,(∃ m,W m σ H)/\∀ m σ H,W m σ H ->
 c σ H fun b H1=>if b=true then ∃ N:St->Hp->Prop,(∀ σ' H',N σ' H'->∃ m',m' < m/\W m' σ' H')/\tb { D with nx:=N,ct:=N,bk:=D.nx } σ H1 else D.nx σ H1
theorem Bp {c:Expr} {body:List Stmt} {tc:TT} {tb:TS} (hp:PassesOwn (model X.prog X.w) X.A X.env X.xe) (hc:PT X c tc) (hb:ko X body tb):PS X (.While c body [] pos) (lY tc tb):=by
 intro pins s σ H D I h
 obtain ⟨W,⟨m0,w0⟩,turn⟩:=h
 refine wpAny_While (codeAny_whileLoop (fun n s'=>∃ σ' H',Inv X pins σ' H' s'/\W n σ' H') ?_ m0 ⟨σ,H,I,w0⟩)
 rintro n s1 ⟨σ1,H1,I1,w1⟩
 refine wpAny_passesOwn hp (bW (hc pins s1 σ1 H1 _ I1 (turn n σ1 H1 w1)) fun b s2 ⟨H2,I2,q2⟩=>?_)
 cases b with
 | true =>
  obtain ⟨N,hN,q2⟩:=q2
  rw [if_pos rfl]
  refine wpAny_passesOwn hp (bW (hb pins s2 σ1 H2 _ I2 q2) fun f s3 q3=>?_)
  cases f with
  | next =>
   obtain ⟨σ3,H3,I3,n3⟩:=q3
   obtain ⟨m',hm,w3⟩:=hN σ3 H3 n3
   exact ⟨m',hm,σ3,H3,I3,w3⟩
  | cont =>
   obtain ⟨σ3,H3,I3,n3⟩:=q3
   obtain ⟨m',hm,w3⟩:=hN σ3 H3 n3
   exact ⟨m',hm,σ3,H3,I3,w3⟩
  | brk=>exact q3
  | ret v=>exact q3
 | false =>
  rw [if_neg Bool.false_ne_true]
  exact wpAny_execs_nil ⟨σ1,H2,I2,q2⟩
end
set_option genInjectivity false in
structure It where
 go:Nat->Hp->Prop
 ng:Nat->Hp->V->Hp->Prop
 stop:Nat->Hp->Prop
def iL (X:Cx) (pins:List (Addr×Obj)) (H:Hp) (b:Addr):Prop :=
 H b=none/\b≠X.env.locals/\b ∉ X.fs/\(b∈X.ex\/X.s₀.heap.objs.size<=b)/\(∀ x c,X.env.cells.lookup x=some c->c≠b)/\∀ p∈X.pn ++ pins,p.1≠b
theorem Inv.lu {X:Cx} {pins:List (Addr×Obj)} {σ:St} {H H':Hp} {s:Shared} {b:Addr} (I:Inv X pins σ H s) (hb:s.heap.objs.size<=b) (hn:H' b=none):iL X pins H' b:=by
 refine ⟨hn,Nat.ne_of_gt (Nat.lt_of_lt_of_le I.lt hb),I.t9 hb,.inr (Nat.le_trans I.sz hb),fun x c e z=>?_,fun p hp z=>?_⟩
 ·obtain ⟨v,q⟩:=I.cell x c e
  exact absurd (Nat.lt_of_lt_of_le q.lt (by rw [z];exact hb)) (Nat.lt_irrefl _)
 ·exact absurd (Nat.lt_of_lt_of_le (Heap.lt_size (I.pin p hp).1) (by rw [z];exact hb)) (Nat.lt_irrefl _)
structure Turn (P:Program) (w:World) (K:PySem.W.Frag) (tg:Expr) (J:It) (fp:List Addr) (it:Addr) (tn:Nat->Heap->Prop):Prop where
 mem:it∈fp
 obj:∀ i h,tn i h->∀ b∈fp,∃ o,h.get? b=some o/\∀ v,o.data≠.cell v
 keep:∀ i h h',tn i h->(∀ b∈fp,∀ o,h.get? b=some o->h'.get? b=some o)->tn i h'
 item:∀ (X:Cx),X.prog=P->X.w=w->X.K=K->X.calm=true->∀ (i:Nat) (pins:List (Addr×Obj)) (s:Shared) (σ:St) (H:Hp) (E:Value->Shared->Prop),Inv X pins σ H s->(∀ b∈fp,iL X pins H b)->tn i s.heap->J.go i H ->
  wpAny (model P w) X.A (pyNext (.ref it)) (fun r s1=>∃ u,r=some u /\
   wpAny (model P w) X.A (letOwnedTupleGo tg (.ref it) u) (fun _ s2=>∃ x H',Inv X pins σ H' s2/\RelV x u/\J.ng i H x H'/\tn (i + 1) s2.heap/\∀ b∈fp,H' b=none) E s1) E s
 done:∀ (X:Cx),X.prog=P->X.w=w->X.K=K->X.calm=true->∀ (i:Nat) (pins:List (Addr×Obj)) (s:Shared) (σ:St) (H:Hp) (E:Value->Shared->Prop),Inv X pins σ H s->(∀ b∈fp,iL X pins H b)->tn i s.heap->J.stop i H ->
  wpAny (model P w) X.A (pyNext (.ref it)) (fun r s1=>r=none/\Inv X pins σ H s1) E s
 self:∀ (A:Around) (i:Nat) (s:Shared) (Q:Value->Shared->Prop) (E:Value->Shared->Prop),tn i s.heap->Q (.ref it) s->wpAny (model P w) A (pyIter (.ref it)) Q E s
abbrev TI:=St->Hp->(It->Hp->Prop)->Prop
def zv (X:Cx) (pins:List (Addr×Obj)) (σ:St) (tg:Expr) (R:It->Hp->Prop) (itv:Value) (s2:Shared):Prop :=
 ∃ (it:Addr) (fp:List Addr) (tn:Nat->Heap->Prop) (J:It) (H':Hp),itv=.ref it/\Inv X pins σ H' s2/\Turn X.prog X.w X.K tg J fp it tn/\tn 0 s2.heap/\(∀ b∈fp,iL X pins H' b)/\R J H'
def PI (X:Cx) (tg iter:Expr) (wi:TI):Prop :=
 ∀ (pins:List (Addr×Obj)) (s:Shared) (σ:St) (H:Hp) (R:It->Hp->Prop),Inv X pins σ H s->wi σ H R ->
  wpAny (model X.prog X.w) X.A (eval iter X.env) (fun v s1=>wpAny (model X.prog X.w) X.A (pyIter v) (zv X pins σ tg R) X.xe s1) X.xe s
theorem xu {M:Model} {A:Around} {E:Value->Shared->Prop} {s:Shared} {tg:Expr} {it:Addr} {u:Value} {o:Obj} {n:String} {vs:Array Value} {Q:Unit->Shared->Prop} (ho:s.heap.get? it=some o) (hc:o.cls=.type n) (hd:o.data=.fields vs)
  (hn:["enumerate","zip","dict_itemiterator","dict_reverseitemiterator","odict_iterator","itertools.zip_longest","itertools.pairwise"].contains n=false) (hQ:Q () s):wpAny M A (letOwnedTupleGo tg (.ref it) u) Q E s:=by
 unfold letOwnedTupleGo
 cases tg <;> first
  | exact wpAny_pure hQ
  | (cases u <;> first
    | exact wpAny_pure hQ
    | (refine wpAny_bind (wpAny_load ho ?_)
       rw [hc,hd]
       show wpAny M A (if (["enumerate","zip","dict_itemiterator","dict_reverseitemiterator","odict_iterator","itertools.zip_longest","itertools.pairwise"].contains n && vs[0]? == some (rawInt _))=true then _ else _) Q E s
       rw [if_neg (by intro h;rw [hn,Bool.false_and] at h;cases h)]
       exact wpAny_pure hQ))
def Bq (K:PySem.W.Frag) (a:Addr):It :=
 ⟨fun i H=>∃ xs x,fI K H a xs/\xs[i]?=some x,fun i H x H'=>H'=H/\∀ xs,fI K H a xs->xs[i]?=some x,fun i H=>∃ xs,fI K H a xs/\xs.length<=i⟩
def Br (K:PySem.W.Frag) (a:Addr):It :=
 ⟨fun i H=>∃ xs x,dF K H a xs/\xs[i]?=some x,fun i H x H'=>H'=H/\∀ xs,dF K H a xs->xs[i]?=some x,fun i H=>∃ xs,dF K H a xs/\xs.length<=i⟩
def xv (lo:Int) (n:Nat):It:=⟨fun i _=>i < n,fun i H x H'=>H'=H/\x=.int (lo + i),fun i _=>n<=i⟩
theorem D9 {P:Program} {w:World} {K:PySem.W.Frag} {tg:Expr} (a it:Addr):Turn P w K tg (Bq K a) [it] it (fun i h=>h.IsListIter it a i) where
 mem:=by simp
 obj:=fun i h st b hb=>by
  have e:b=it:=by simpa using hb
  subst e
  obtain ⟨o,e,c,d⟩:=st
  exact ⟨o,e,fun v z=>by rw [d] at z;cases z⟩
 keep:=fun i h h' st k=>st.at fun o e=>k it (by simp) o e
 item:=by
  intro X hP hw hK hc i pins s σ H E I hf st hg
  subst hP hw hK
  obtain ⟨xs,x,hq,hx⟩:=hg
  obtain ⟨its,rv,p,hz⟩:=I.list hq
  obtain ⟨u,hu,ru⟩:=rv.get hx
  obtain ⟨f0,f1,f2,f3,f4,f5⟩:=hf it (by simp)
  refine wpAny_pyNext_list_item st p.isList (x:=u) (by simpa using hu) fun h' st' sb=>?_
  have I1:Inv X pins σ H { s with heap:=h' }:=I.turned (t':=s.toks) (fun b o hb e=>(sb.2 b hb).trans e) f0 f1 f3 f4 f5
  obtain ⟨o,e,c,d⟩:=id st'
  exact ⟨u,rfl,xu (s:={ s with heap:=h' }) e c d (by decide) ⟨x,H,I1,ru,⟨rfl,fun ys hy=>by rw [I.j5 hy hq];exact hx⟩,st',fun b hb=>(hf b hb).1⟩⟩
 done:=by
  intro X hP hw hK hc i pins s σ H E I hf st hg
  subst hP hw hK
  obtain ⟨xs,hq,hx⟩:=hg
  obtain ⟨its,rv,p,hz⟩:=I.list hq
  obtain ⟨f0,f1,f2,f3,f4,f5⟩:=hf it (by simp)
  have hl:=rv.length
  exact wpAny_pyNext_list_end (I.ok.hd hc) st p.isList (by simp;omega) fun h' eb=>⟨rfl,I.turned (t':=s.toks) (fun b o hb e=>eb b o hb e) f0 f1 f3 f4 f5⟩
 self:=fun _ _ _ _ _ st h=>wpAny_pyIter_listiter st h
theorem Ea {P:Program} {w:World} {K:PySem.W.Frag} {tg:Expr} (a it:Addr):Turn P w K tg (Br K a) [it] it (fun i h=>h.IsTupleIter it a i) where
 mem:=by simp
 obj:=fun i h st b hb=>by
  have e:b=it:=by simpa using hb
  subst e
  obtain ⟨o,e,c,d⟩:=st
  exact ⟨o,e,fun v z=>by rw [d] at z;cases z⟩
 keep:=fun i h h' st k=>st.at fun o e=>k it (by simp) o e
 item:=by
  intro X hP hw hK hc i pins s σ H E I hf st hg
  subst hP hw hK
  obtain ⟨xs,x,hq,hx⟩:=hg
  obtain ⟨its,rv,p,hz⟩:=I.tuple hq
  obtain ⟨u,hu,ru⟩:=rv.get hx
  obtain ⟨f0,f1,f2,f3,f4,f5⟩:=hf it (by simp)
  refine wpAny_pyNext_tuple_item st (show s.heap.IsTuple a its.toArray from p) (x:=u) (by simpa using hu) fun h' st' sb=>?_
  have I1:Inv X pins σ H { s with heap:=h' }:=I.turned (t':=s.toks) (fun b o hb e=>(sb.2 b hb).trans e) f0 f1 f3 f4 f5
  obtain ⟨o,e,c,d⟩:=id st'
  exact ⟨u,rfl,xu (s:={ s with heap:=h' }) e c d (by decide) ⟨x,H,I1,ru,⟨rfl,fun ys hy=>by rw [I.gj hy hq];exact hx⟩,st',fun b hb=>(hf b hb).1⟩⟩
 done:=by
  intro X hP hw hK hc i pins s σ H E I hf st hg
  subst hP hw hK
  obtain ⟨xs,hq,hx⟩:=hg
  obtain ⟨its,rv,p,hz⟩:=I.tuple hq
  obtain ⟨f0,f1,f2,f3,f4,f5⟩:=hf it (by simp)
  have hl:=rv.length
  exact wpAny_pyNext_tuple_end (I.ok.hd hc) st (show s.heap.IsTuple a its.toArray from p) (by simp;omega) fun h' eb=>⟨rfl,I.turned (t':=s.toks) (fun b o hb e=>eb b o hb e) f0 f1 f3 f4 f5⟩
 self:=fun _ _ _ _ _ st h=>wpAny_pyIter_tupleiter st h
theorem Eb {P:Program} {w:World} {K:PySem.W.Frag} {tg:Expr} (it:Addr) (lo:Int) (n:Nat):Turn P w K tg (xv lo n) [it] it (fun i h=>IsRangeIter h it (lo + (i:Nat) * 1) ((n:Int) - (i:Nat)) 1) where
 mem:=by simp
 obj:=fun i h st b hb=>by
  have e:b=it:=by simpa using hb
  subst e
  exact ⟨_,st,fun v z=>by
   have z':Data.fields _=Data.cell v:=z
   cases z'⟩
 keep:=fun i h h' st k=>k it (by simp) _ st
 item:=by
  intro X hP hw hK hc i pins s σ H E I hf st hg
  subst hP hw hK
  obtain ⟨f0,f1,f2,f3,f4,f5⟩:=hf it (by simp)
  have W:=Walks.range (prog:=X.prog) (w:=X.w) (I.ok.hd hc) it lo 1 n
  refine W.item i s _ _ hg st fun v h' tk hv st' kk=>?_
  obtain ⟨t,rfl⟩:=hv
  have I1:Inv X pins σ H { s with heap:=h',toks:=tk }:=I.turned (fun b o hb e=>kk b o (by simpa using hb) e) f0 f1 f3 f4 f5
  refine ⟨_,rfl,xu (s:={ s with heap:=h',toks:=tk }) (n:="range_iterator") st' rfl rfl (by decide) ⟨.int (lo + i),H,I1,⟨t,?_⟩,⟨rfl,rfl⟩,st',fun b hb=>(hf b hb).1⟩⟩
  rw [Int.mul_one]
 done:=by
  intro X hP hw hK hc i pins s σ H E I hf st hg
  subst hP hw hK
  obtain ⟨f0,f1,f2,f3,f4,f5⟩:=hf it (by simp)
  exact wpAny_pyNext_range_end (I.ok.hd hc) st (by have:n<=i:=hg;omega) fun h' eb=>⟨rfl,I.turned (t':=s.toks) (fun b o hb e=>eb b o hb e) f0 f1 f3 f4 f5⟩
 self:=fun _ _ _ _ _ st h=>wpAny_pyIter_rangeiter st h
end L2
namespace L2
open PySem PySem.Spec PyProof.Rows
section
variable {X:Cx} {tg:Expr}
def oA (K:PySem.W.Frag) (tl:TE):TI:=fun σ H R=>tl σ H fun x H1=>∃ a,x=.ref a/\(∃ xs,fI K H1 a xs)/\R (Bq K a) H1
def ux (K:PySem.W.Frag) (tl:TE):TI:=fun σ H R=>tl σ H fun x H1=>∃ a,x=.ref a/\(∃ xs,dF K H1 a xs)/\R (Br K a) H1
theorem Ec {l:Expr} {tl:TE} (hl:PE X l tl):PI X tg l (oA X.K tl):=by
 intro pins s σ H R I h
 refine bW (hl pins s σ H _ I h) fun v s1 ⟨x,H1,I1,r1,q1⟩=>?_
 obtain ⟨a,e,⟨xs,hq⟩,q⟩:=q1
 subst e
 cases r1
 obtain ⟨its,rv,p,hz⟩:=I1.list hq
 refine wpAny_pyIter_list p.isList ?_
 refine ⟨s1.heap.objs.size,[s1.heap.objs.size],_,_,H1,rfl,I1.kept (t':=s1.toks) fun b o e=>Heap.get?_push_of_some _ e,D9 a _,⟨_,Heap.get?_push_size _ rfl,rfl,rfl⟩,fun b hb=>?_,q⟩
 have e:b=s1.heap.objs.size:=by simpa using hb
 subst e
 exact I1.lu (Nat.le_refl _) (I1.hok.fresh (Nat.le_refl _))
theorem sU {l:Expr} {tl:TE} (hl:PE X l tl):PI X tg l (ux X.K tl):=by
 intro pins s σ H R I h
 refine bW (hl pins s σ H _ I h) fun v s1 ⟨x,H1,I1,r1,q1⟩=>?_
 obtain ⟨a,e,⟨xs,hq⟩,q⟩:=q1
 subst e
 cases r1
 obtain ⟨its,rv,p,hz⟩:=I1.tuple hq
 refine wpAny_pyIter_tuple (show s1.heap.IsTuple a its.toArray from p) ?_
 refine ⟨s1.heap.objs.size,[s1.heap.objs.size],_,_,H1,rfl,I1.kept (t':=s1.toks) fun b o e=>Heap.get?_push_of_some _ e,Ea a _,⟨_,Heap.get?_push_size _ rfl,rfl,rfl⟩,fun b hb=>?_,q⟩
 have e:b=s1.heap.objs.size:=by simpa using hb
 subst e
 exact I1.lu (Nat.le_refl _) (I1.hok.fresh (Nat.le_refl _))
theorem Ed {pins:List (Addr×Obj)} {σ:St} {H:Hp} {s:Shared} {R:It->Hp->Prop} {E:Value->Shared->Prop} {lo hi:Int} {t u v:Tok} {tk:Nat} (I:Inv X pins σ H s) (h1:-(2 ^ 62)<=lo) (h2:lo < 2 ^ 62) (h3:-(2 ^ 62)<=hi) (h4:hi < 2 ^ 62)
  (q:R (xv lo (hi - lo).toNat) H):wpAny (model X.prog X.w) X.A (pyIter (.ref s.heap.objs.size)) (zv X pins σ tg R) E { s with heap:=s.heap.push { cls:=.type "range",data:=.fields #[.int lo t,.int hi u,.int 1 v] },toks:=tk }:=by
 refine wpAny_pyIter_range (IsRange.new ..) (small_one h1 h2 h3 h4) ?_
 have I1:Inv X pins σ H { s with heap:=s.heap.push { cls:=.type "range",data:=.fields #[.int lo t,.int hi u,.int 1 v] },toks:=tk }:=I.kept fun b o e=>Heap.get?_push_of_some _ e
 refine ⟨(s.heap.push { cls:=.type "range",data:=.fields #[.int lo t,.int hi u,.int 1 v] }).objs.size,[(s.heap.push { cls:=.type "range",data:=.fields #[.int lo t,.int hi u,.int 1 v] }).objs.size],_,_,H,rfl,
  I1.kept (t':=tk) fun b o e=>Heap.get?_push_of_some _ e,Eb _ lo (hi - lo).toNat,?_,fun b hb=>?_,q⟩
 ·have e1:lo + ((0:Nat):Int) * 1=lo:=by simp
  have e2:(((hi - lo).toNat:Nat):Int) - ((0:Nat):Int)=Builtin.Range.rangeSize lo hi 1:=by rw [rangeSize_one];split <;> omega
  show IsRangeIter _ _ (lo + ((0:Nat):Int) * 1) ((((hi - lo).toNat:Nat):Int) - ((0:Nat):Int)) 1
  rw [e1,e2]
  exact Heap.get?_push_size _ rfl
 ·have e:b=(s.heap.push { cls:=.type "range",data:=.fields #[.int lo t,.int hi u,.int 1 v] }).objs.size:=by simpa using hb
  subst e
  exact I1.lu (Nat.le_refl _) (I1.hok.fresh (Nat.le_refl _))
def oB (ta:TA):TI:=fun σ H R=>ta σ H fun vs H1=>∃ j:Int,vs=[.int j]/\-(2 ^ 62)<=j/\j < 2 ^ 62/\R (xv 0 j.toNat) H1
theorem sW {a:Expr} {ta:TA} {p pos:Pos} (hg:Gl X "range") (hm:X.mg "range" = none) (ha:PA X [a] ta) (hs:starEach [a] X.env=[(false,eval a X.env)]:=by rfl):PI X tg (.Call (.Name "range" p) [a] [] pos) (oB ta):=by
 intro pins s σ H R I h
 refine Call_ (ug I hg hm boot_range (PyProof.Rows.callWith_type1 (bW (ha pos pins s σ H _ I h) fun us s1 ⟨vs,H1,I1,r1,q1⟩=>?_) hs rfl))
 obtain ⟨j,e,q1,q2,q⟩:=q1
 subst e
 cases r1 with
 | cons r rr =>
  cases rr
  obtain ⟨t,rfl⟩:=r
  exact call_range_1 (Ed I1 (by omega) (by omega) q1 q2 (by simpa using q))
def uy (wi:TI) (g:TG) (tb:TS):TS:=fun D σ H=>wi σ H fun J H1=>∃ W:Nat->Nat->St->Hp->Prop,(∃ m,W 0 m σ H1)/\∀ i m σ H,W i m σ H ->
 (J.stop i H/\D.nx σ H)\/(J.go i H/\∃ N:St->Hp->Prop,(∀ σ' H',N σ' H'->∃ m',m' < m/\W (i + 1) m' σ' H')/\∀ x H',J.ng i H x H'->g x σ H' fun σ2 H2=>tb { D with nx:=N,ct:=N,bk:=D.nx } σ2 H2)
def i7 (fp:List Addr) (h:Heap):List (Addr×Obj):=fp.filterMap fun b=>(h.get? b).map fun o=>(b,o)
theorem xw {fp:List Addr} {h:Heap} {b:Addr} {o:Obj} (hb:b∈fp) (e:h.get? b=some o):(b,o)∈i7 fp h:=List.mem_filterMap.mpr ⟨b,hb,by rw [e];rfl⟩
theorem Ee {fp:List Addr} {h:Heap} {p:Addr×Obj} (hp:p∈i7 fp h):p.1∈fp/\h.get? p.1=some p.2:=by
 obtain ⟨b,hb,e⟩:=List.mem_filterMap.mp hp
 cases q:h.get? b with
 | none=>rw [q] at e;cases e
 | some o =>
  rw [q] at e
  have e':(b,o)=p:=Option.some.inj e
  subst e'
  exact ⟨hb,q⟩
theorem Inv.pinned {pins:List (Addr×Obj)} {σ:St} {H:Hp} {s:Shared} {fp:List Addr} (I:Inv X pins σ H s) (hf:∀ b∈fp,iL X pins H b) (ho:∀ b∈fp,∃ o,s.heap.get? b=some o/\∀ v,o.data≠.cell v):Inv X (pins ++ i7 fp s.heap) σ H s :=
 I.iY fun p hp=>(List.mem_append.mp hp).elim (fun z=>I.pin p (List.mem_append_right _ z)) fun z=>by
  obtain ⟨hb,e⟩:=Ee z
  obtain ⟨f0,f1,f2,_⟩:=hf p.1 hb
  obtain ⟨o,e',d⟩:=ho p.1 hb
  rw [e] at e';cases e'
  exact ⟨e,f0,f1,f2,d⟩
theorem Inv.g6 {pins pl:List (Addr×Obj)} {σ:St} {H:Hp} {s:Shared} (I:Inv X (pins ++ pl) σ H s):Inv X pins σ H s:=I.iY fun p hp=>I.pin p (List.mem_append_right _ (List.mem_append_left _ hp))
theorem oC {iter:Expr} {body:List Stmt} {wi:TI} {g:TG} {tb:TS} {pos:Pos} (hp:PassesOwn (model X.prog X.w) X.A X.env X.xe) (hc:X.calm=true) (hi:PI X tg iter wi) (hg:PG X tg g) (hb:ko X body tb)
  (hs:∀ x,foldedSetIterable iter X.env x=pure x:=by intro _;rfl):PS X (.For tg iter body [] pos) (uy wi g tb):=by
 intro pins s σ H D I h
 refine wpAny_For (bW (hi pins s σ H _ I h) fun v s1 h1=>bW h1 fun itv s2 h2=>?_) hs
 obtain ⟨it,fp,tn,J,H2,e,I2,T,st2,f2,W,⟨m0,w0⟩,turn⟩:=h2
 subst e
 have stat:∀ {H':Hp},(∀ b∈fp,H' b=none)->∀ b∈fp,iL X pins H' b:=fun hn b hb=>⟨hn b hb,(f2 b hb).2⟩
 refine codeAny_forLoop_any (fun n s'=>∃ i σ' H',Inv X pins σ' H' s'/\tn i s'.heap/\(∀ b∈fp,H' b=none)/\W i n σ' H') ?_ m0 ⟨0,σ,H2,I2,st2,fun b hb=>(f2 b hb).1,w0⟩
 rintro n s3 ⟨i,σ3,H3,I3,st3,Bs,w3⟩
 rcases turn i n σ3 H3 w3 with ⟨stop,qn⟩ | ⟨go,N,hN,step⟩
 ·refine wpAny_passesOwn hp (bW (T.done X rfl rfl rfl hc i pins s3 σ3 H3 X.xe I3 (stat Bs) st3 stop) fun r s4 ⟨hr,I4⟩=>?_)
  subst hr
  exact wpAny_execs_nil ⟨σ3,H3,I4,qn⟩
 ·refine wpAny_passesOwn hp (bW (T.item X rfl rfl rfl hc i pins s3 σ3 H3 X.xe I3 (stat Bs) st3 go) fun r s4 ⟨u,hr,h4⟩=>?_)
  subst hr
  refine wpAny_passesOwn hp (bW h4 fun _ s5 ⟨x,H5,I5,r5,y5,jw,xx⟩=>?_)
  have Ef:=I5.pinned (stat xx) (T.obj _ _ jw)
  refine wpAny_passesOwn hp (bW (hg _ s5 σ3 H5 x u _ Ef r5 (step x H5 y5)) fun _ s6 ⟨σ6,H6,I6,q6⟩=>?_)
  refine wpAny_passesOwn hp (bW (hb _ s6 σ6 H6 _ I6 q6) fun f s7 q7=>?_)
  have again:∀ {σ7:St} {H7:Hp},Inv X (pins ++ i7 fp s5.heap) σ7 H7 s7->N σ7 H7->∃ m,m < n/\∃ i σ' H',Inv X pins σ' H' s7/\tn i s7.heap/\(∀ b∈fp,H' b=none)/\W i m σ' H':=fun {σ7 H7} I7 n7=>by
   obtain ⟨m',hm,w7⟩:=hN σ7 H7 n7
   refine ⟨m',hm,i + 1,σ7,H7,I7.g6,T.keep _ _ _ jw fun b hb o e=>(I7.pin (b,o) (List.mem_append_right _ (List.mem_append_right _ (xw hb e)))).1,fun b hb=>?_,w7⟩
   obtain ⟨o,e,d⟩:=T.obj _ _ jw b hb
   exact (I7.pin (b,o) (List.mem_append_right _ (List.mem_append_right _ (xw hb e)))).2.1
  cases f with
  | next=>obtain ⟨σ7,H7,I7,n7⟩:=q7;exact again I7 n7
  | cont=>obtain ⟨σ7,H7,I7,n7⟩:=q7;exact again I7 n7
  | brk=>obtain ⟨σ7,H7,I7,q7⟩:=q7;exact ⟨σ7,H7,I7.g6,q7⟩
  | ret v=>obtain ⟨x7,σ7,H7,I7,r7,q7⟩:=q7;exact ⟨x7,σ7,H7,I7.g6,r7,q7⟩
end
end L2
namespace L2
open PySem PySem.Spec PyProof.Rows
abbrev R2:=V->V->Hp->VK->Prop
def gI (X:Cx) (f:Value->Value->Sem Value) (r:R2):Prop :=
 ∀ (pins:List (Addr×Obj)) (s:Shared) (σ:St) (H:Hp) (x y:V) (v u:Value) (Q:VK),Inv X pins σ H s->RelV x v->RelV y u->r x y H Q ->
  wpAny (model X.prog X.w) X.A (f v u) (EP X pins σ Q) X.xe s
def zw (X:Cx) (f:Value->Sem Value) (r:V->Hp->VK->Prop):Prop :=
 ∀ (pins:List (Addr×Obj)) (s:Shared) (σ:St) (H:Hp) (x:V) (v:Value) (Q:VK),Inv X pins σ H s->RelV x v->r x H Q ->
  wpAny (model X.prog X.w) X.A (f v) (EP X pins σ Q) X.xe s
def fB (X:Cx) (f:Value) (r:List V->Hp->VK->Prop):Prop :=
 ∀ (pins:List (Addr×Obj)) (s:Shared) (σ:St) (H:Hp) (xs:List V) (us:List Value) (Q:VK),Inv X pins σ H s->Vals xs us->r xs H Q ->
  wpAny (model X.prog X.w) X.A (call f us) (EP X pins σ Q) X.xe s
def uz (r:R2) (ta tb:TE):TE:=fun σ H Q=>ta σ H fun x H1=>tb σ H1 fun y H2=>r x y H2 Q
def Bt (r:V->Hp->VK->Prop) (ta:TE):TE:=fun σ H Q=>ta σ H fun x H1=>r x H1 Q
def rI (C:Int->Int->Prop) (g:Int->Int->V):R2:=fun x y H Q=>∃ i j,x=.int i/\y=.int j/\C i j/\Q (g i j) H
def lx (g:Int->Int->V):R2:=fun x y H Q=>∃ i j,x=.int i/\y=.int j/\Q (g i j) H
def rU (g:Int->V):V->Hp->VK->Prop:=fun x H Q=>∃ i,x=.int i/\Q (g i) H
section
variable {X:Cx} {a b c:Expr} {ta tb tc:TE} {pos:Pos}
theorem p9 (ha:PE X a ta) (hb:PE X b tb) {pins:List (Addr×Obj)} {s:Shared} {σ:St} {H:Hp} {R:V->V->Hp->Prop} (I:Inv X pins σ H s)
  (h:ta σ H fun x H1=>tb σ H1 fun y H2=>R x y H2) {Q:Value->Shared->Prop} {f:Value->Value->Sem Value}
  (hf:∀ v u s2 x y H2,Inv X pins σ H2 s2->RelV x v->RelV y u->R x y H2->wpAny (model X.prog X.w) X.A (f v u) Q X.xe s2) :
  wpAny (model X.prog X.w) X.A (eval a X.env) (fun v s₁=>wpAny (model X.prog X.w) X.A (eval b X.env) (fun u s₂=>wpAny (model X.prog X.w) X.A (f v u) Q X.xe s₂) X.xe s₁) X.xe s:=by
 refine bW (ha pins s σ H _ I h) fun v s1 ⟨x,H1,I1,r1,q1⟩=>?_
 refine bW (hb pins s1 σ H1 _ I1 q1) fun u s2 ⟨y,H2,I2,r2,q2⟩=>?_
 exact hf v u s2 x y H2 I2 r1 r2 q2
theorem aR {op:Operator} {r:R2} (ho:gI X (binaryOp op) r) (ha:PE X a ta) (hb:PE X b tb):PE X (.BinOp a op b pos) (uz r ta tb):=by
 intro pins s σ H Q I h
 exact wpAny_BinOp (p9 ha hb I h fun v u s2 x y H2 I2 rx ry q=>ho pins s2 σ H2 x y v u Q I2 rx ry q)
theorem oD {op:UnaryOp} {r:V->Hp->VK->Prop} (ho:zw X (unaryOp op) r) (ha:PE X a ta):PE X (.UnaryOp op a pos) (Bt r ta):=by
 intro pins s σ H Q I h
 exact UnaryOp_ (bW (ha pins s σ H _ I h) fun v s1 ⟨x,H1,I1,r1,q1⟩=>ho pins s1 σ H1 x v Q I1 r1 q1)
theorem sX {f:Value->Value->Sem Value} {C:Int->Int->Prop} {g:Int->Int->Int}
  (rule:∀ (i j:Int) (t u:Tok) (s:Shared) (Q:Value->Shared->Prop) (E:Value->Shared->Prop),C i j->Q (.int (g i j) s.toks) { s with toks:=s.toks + 1 }->wpAny (model X.prog X.w) X.A (f (.int i t) (.int j u)) Q E s) :
  gI X f (rI C fun i j=>.int (g i j)):=by
 intro pins s σ H x y v u Q I rx ry h
 obtain ⟨i,j,rfl,rfl,hc,q⟩:=h
 obtain ⟨t,rfl⟩:=rx
 obtain ⟨t',rfl⟩:=ry
 exact rule i j t t' s _ _ hc ⟨.int (g i j),H,I.tok _,⟨_,rfl⟩,q⟩
theorem uA {f:Value->Value->Sem Value} {g:Int->Int->Int}
  (rule:∀ (i j:Int) (t u:Tok) (s:Shared) (Q:Value->Shared->Prop) (E:Value->Shared->Prop),Q (.int (g i j) s.toks) { s with toks:=s.toks + 1 }->wpAny (model X.prog X.w) X.A (f (.int i t) (.int j u)) Q E s) :
  gI X f (lx fun i j=>.int (g i j)):=by
 intro pins s σ H x y v u Q I rx ry h
 obtain ⟨i,j,rfl,rfl,q⟩:=h
 obtain ⟨t,rfl⟩:=rx
 obtain ⟨t',rfl⟩:=ry
 exact rule i j t t' s _ _ ⟨.int (g i j),H,I.tok _,⟨_,rfl⟩,q⟩
theorem qa {f:Value->Value->Sem Value} {g:Int->Int->Bool}
  (rule:∀ (i j:Int) (t u:Tok) (s:Shared) (Q:Value->Shared->Prop) (E:Value->Shared->Prop),Q (.bool (g i j)) s->wpAny (model X.prog X.w) X.A (f (.int i t) (.int j u)) Q E s) :
  gI X f (lx fun i j=>.bl (g i j)):=by
 intro pins s σ H x y v u Q I rx ry h
 obtain ⟨i,j,rfl,rfl,q⟩:=h
 obtain ⟨t,rfl⟩:=rx
 obtain ⟨t',rfl⟩:=ry
 exact rule i j t t' s _ _ ⟨.bl (g i j),H,I,rfl,q⟩
def uB (i j:Int):Prop:=0 < j/\j < 1073741824
def uC (i j:Int):Prop:=0<=j/\j<=1000000/\i.natAbs < 2 ^ 64
def lZ (i j:Int):Prop:=(-(2 ^ 64) < i/\i < 2 ^ 64)\/(-(2 ^ 64) < j/\j < 2 ^ 64)
theorem lZ.ok {i j:Int} (h:lZ i j):IntMulOk i j:=by
 rcases h with ⟨h1,h2⟩ | ⟨h1,h2⟩
 ·exact .of_left (intBits_le_64 h1 h2)
 ·exact .of_right (intBits_le_64 h1 h2)
theorem ia:gI X (binaryOp .Add) (lx fun i j=>.int (i + j)):=uA fun _ _ _ _ _ _ _ q=>add_int q
theorem fK:gI X (binaryOp .Sub) (lx fun i j=>.int (i - j)):=uA fun _ _ _ _ _ _ _ q=>sub_int q
theorem mM:gI X (binaryOp .Mult) (rI lZ fun i j=>.int (i * j)):=sX fun _ _ _ _ _ _ _ hc q=>mul_int q hc.ok
theorem Bu:gI X (binaryOp .FloorDiv) (rI uB fun i j=>.int (i / j)):=sX fun i j _ _ _ _ _ hc q=>by
 have h1:(0:Int) < j:=hc.1
 have h2:j < 1073741824:=hc.2
 exact floordiv_int (by omega) (by rw [Int.fdiv_eq_ediv_of_nonneg i (by omega)];exact q) (.inl (PyProof.noPylong_small (by omega)))
theorem nh:gI X (binaryOp .Mod) (rI (fun _ j=>0 < j) fun i j=>.int (i % j)):=sX fun i j _ _ _ _ _ hc q=>by
 have h1:(0:Int) < j:=hc
 exact mod_int' (by omega) (by rw [Int.fmod_eq_emod_of_nonneg i (by omega)];exact q)
theorem Bv:gI X (binaryOp .Pow) (rI uC fun i j=>.int (i ^ j.toNat)):=sX fun _ _ _ _ _ _ _ hc q=>pow_int_small hc.1 hc.2.1 hc.2.2 q
theorem Eg {f:Value->Sem Value} {g:Int->Int}
  (rule:∀ (i:Int) (t:Tok) (s:Shared) (Q:Value->Shared->Prop) (E:Value->Shared->Prop),Q (.int (g i) s.toks) { s with toks:=s.toks + 1 }->wpAny (model X.prog X.w) X.A (f (.int i t)) Q E s) :
  zw X f (rU fun i=>.int (g i)):=by
 intro pins s σ H x v Q I rx h
 obtain ⟨i,rfl,q⟩:=h
 obtain ⟨t,rfl⟩:=rx
 exact rule i t s _ _ ⟨.int (g i),H,I.tok _,⟨_,rfl⟩,q⟩
theorem oE:zw X (unaryOp .USub) (rU fun i=>.int (-i)):=Eg fun _ _ _ _ _ q=>neg_int q
end
def kC:V->V->Bool
 | .non,.non=>true | .non,.int _=>true | .int _,.non=>true | .non,.bl _=>true | .bl _,.non=>true | .non,.str _=>true | .str _,.non=>true
 | .int _,.int _=>true | .bl _,.bl _=>true | .str _,.str _=>true | .lR _,.lR _=>true
 | .int _,.str _=>true | .str _,.int _=>true | .bl _,.str _=>true | .str _,.bl _=>true
 | _,_=>false
def Bw:R2:=fun x y H Q=>kC x y=true/\Q (.bl (decide (x=y))) H
def Bx:R2:=fun x y H Q=>kC x y=true/\Q (.bl (!decide (x=y))) H
theorem By {i j:Int}:decide (V.int i=V.int j)=(i == j):=by
 rw [Bool.eq_iff_iff]
 simp
theorem Bz {i j:Bool}:decide (V.bl i=V.bl j)=(i == j):=by
 rw [Bool.eq_iff_iff]
 simp
theorem BA {i j:Str}:decide (V.str i=V.str j)=(i == j):=by
 rw [Bool.eq_iff_iff]
 simp
theorem BB {i j:Array UInt8}:decide (V.lR i=V.lR j)=(i.toList == j.toList):=by
 rw [Bool.eq_iff_iff]
 cases i
 cases j
 simp
section
variable {X:Cx} {a b c:Expr} {ta tb tc:TE} {pos:Pos}
theorem gJ {pins:List (Addr×Obj)} {σ:St} {H:Hp} {s:Shared} {Q:VK} {k k':Bool} (I:Inv X pins σ H s) (q:Q (.bl k) H) (e:k=k'):EP X pins σ Q (.bool k') s:=by
 subst e
 exact ⟨.bl k,H,I,rfl,q⟩
theorem jq:gI X (compareOp .Eq) Bw:=by
 intro pins s σ H x y v u Q I rx ry h
 obtain ⟨hs,q⟩:=h
 cases x with
 | non =>
  cases rx
  cases y with
  | non=>cases ry;exact PySem.EqNone.eq_none_none (gJ I q (by simp))
  | bl j=>cases ry;exact PySem.EqNone.eq_none_bool (gJ I q (by simp))
  | int j=>obtain ⟨t',rfl⟩:=ry;exact PySem.EqNone.eq_none_int (gJ I q (by simp))
  | str j=>obtain ⟨t',rfl⟩:=ry;exact PySem.EqNone.eq_none_str (gJ I q (by simp))
  | _=>exact absurd (show false=true from hs) Bool.false_ne_true
 | bl i =>
  cases rx
  cases y with
  | non=>cases ry;exact PySem.EqNone.eq_bool_none (gJ I q (by simp))
  | bl j=>cases ry;exact eq_bool (gJ I q Bz)
  | str j=>obtain ⟨t',rfl⟩:=ry;exact PySem.EqMixed.eq_bool_str (gJ I q (by simp))
  | _=>exact absurd (show false=true from hs) Bool.false_ne_true
 | int i =>
  obtain ⟨t,rfl⟩:=rx
  cases y with
  | non=>cases ry;exact PySem.EqNone.eq_int_none (gJ I q (by simp))
  | int j=>obtain ⟨t',rfl⟩:=ry;exact eq_int (gJ I q By)
  | str j=>obtain ⟨t',rfl⟩:=ry;exact PySem.EqMixed.eq_int_str (gJ I q (by simp))
  | _=>exact absurd (show false=true from hs) Bool.false_ne_true
 | str i =>
  obtain ⟨t,rfl⟩:=rx
  cases y with
  | non=>cases ry;exact PySem.EqNone.eq_str_none (gJ I q (by simp))
  | bl j=>cases ry;exact PySem.EqMixed.eq_str_bool (gJ I q (by simp))
  | int j=>obtain ⟨t',rfl⟩:=ry;exact PySem.EqMixed.eq_str_int (gJ I q (by simp))
  | str j=>obtain ⟨t',rfl⟩:=ry;exact eq_str (gJ I q BA)
  | _=>exact absurd (show false=true from hs) Bool.false_ne_true
 | lR i =>
  obtain ⟨t,rfl⟩:=rx
  cases y with
  | lR j=>obtain ⟨t',rfl⟩:=ry;exact PySem.W.eq_bytes (gJ I q BB)
  | _=>exact absurd (show false=true from hs) Bool.false_ne_true
 | _=>cases y <;> exact absurd (show false=true from hs) Bool.false_ne_true
theorem zx:gI X (compareOp .NotEq) Bx:=by
 intro pins s σ H x y v u Q I rx ry h
 obtain ⟨hs,q⟩:=h
 cases x with
 | non =>
  cases rx
  cases y with
  | non=>cases ry;exact PySem.EqNone.ne_none_none (gJ I q (by simp))
  | bl j=>cases ry;exact PySem.EqNone.ne_none_bool (gJ I q (by simp))
  | int j=>obtain ⟨t',rfl⟩:=ry;exact PySem.EqNone.ne_none_int (gJ I q (by simp))
  | str j=>obtain ⟨t',rfl⟩:=ry;exact PySem.EqNone.ne_none_str (gJ I q (by simp))
  | _=>exact absurd (show false=true from hs) Bool.false_ne_true
 | bl i =>
  cases rx
  cases y with
  | non=>cases ry;exact PySem.EqNone.ne_bool_none (gJ I q (by simp))
  | bl j=>cases ry;exact ne_bool (gJ I q (congrArg not Bz))
  | str j=>obtain ⟨t',rfl⟩:=ry;exact PySem.EqMixed.ne_bool_str (gJ I q (by simp))
  | _=>exact absurd (show false=true from hs) Bool.false_ne_true
 | int i =>
  obtain ⟨t,rfl⟩:=rx
  cases y with
  | non=>cases ry;exact PySem.EqNone.ne_int_none (gJ I q (by simp))
  | int j=>obtain ⟨t',rfl⟩:=ry;exact ne_int (gJ I q (congrArg not By))
  | str j=>obtain ⟨t',rfl⟩:=ry;exact PySem.EqMixed.ne_int_str (gJ I q (by simp))
  | _=>exact absurd (show false=true from hs) Bool.false_ne_true
 | str i =>
  obtain ⟨t,rfl⟩:=rx
  cases y with
  | non=>cases ry;exact PySem.EqNone.ne_str_none (gJ I q (by simp))
  | bl j=>cases ry;exact PySem.EqMixed.ne_str_bool (gJ I q (by simp))
  | int j=>obtain ⟨t',rfl⟩:=ry;exact PySem.EqMixed.ne_str_int (gJ I q (by simp))
  | str j=>obtain ⟨t',rfl⟩:=ry;exact ne_str (gJ I q (congrArg not BA))
  | _=>exact absurd (show false=true from hs) Bool.false_ne_true
 | lR i =>
  obtain ⟨t,rfl⟩:=rx
  cases y with
  | lR j=>obtain ⟨t',rfl⟩:=ry;exact PySem.W.ne_bytes (gJ I q (congrArg not BB))
  | _=>exact absurd (show false=true from hs) Bool.false_ne_true
 | _=>cases y <;> exact absurd (show false=true from hs) Bool.false_ne_true
theorem zy:gI X (compareOp .Lt) (lx fun i j=>.bl (decide (i < j))):=qa fun _ _ _ _ _ _ _ q=>lt_int q
theorem xy:gI X (compareOp .Gt) (lx fun i j=>.bl (decide (j < i))):=qa fun _ _ _ _ _ _ _ q=>gt_int q
theorem uD:gI X (compareOp .GtE) (lx fun i j=>.bl (decide (j<=i))):=qa fun _ _ _ _ _ _ _ q=>ge_int q
theorem Eh:gI X (compareOp .IsNot) (fun x y H Q=>y=.non/\Q (.bl (!decide (x=.non))) H):=by
 intro pins s σ H x y v u Q I rx ry h
 obtain ⟨rfl,q⟩:=h
 cases ry
 refine isnot_none_gen (gJ I q ?_)
 cases x <;> first
  | (cases rx;rfl)
  | (obtain ⟨t,rfl⟩:=rx;rfl)
theorem aK (b:Expr) {op:CmpOp} (h:op≠.In:=by decide) (h2:op≠.NotIn:=by decide):behindInMarks op b=false:=by
 have e1:(op == CmpOp.In)=false:=by cases op <;> first | rfl | exact absurd rfl h
 have e2:(op == CmpOp.NotIn)=false:=by cases op <;> first | rfl | exact absurd rfl h2
 cases b <;> simp [behindInMarks,e1,e2]
theorem mO {op:CmpOp} {r:R2} (ho:gI X (compareOp op) r) (ha:PE X a ta) (hb:PE X b tb) (hm:behindInMarks op b=false):PE X (.Compare a [op] [b] pos) (uz r ta tb):=by
 intro pins s σ H Q I h
 exact wpAny_Compare1 (p9 ha hb I h fun v u s2 x y H2 I2 rx ry q=>ho pins s2 σ H2 x y v u Q I2 rx ry q) hm
def l6 (t:TE):TT:=fun σ H Q=>t σ H fun x H'=>∃ k,x=.bl k/\Q k H'
theorem g7 {op:CmpOp} {r:R2} (ho:gI X (compareOp op) r) (ha:PE X a ta) (hb:PE X b tb) (hm:behindInMarks op b=false):PT X (.Compare a [op] [b] pos) (l6 (uz r ta tb)):=by
 intro pins s σ H Q I h
 refine wpAny_isTrue_Compare1 (bW (ha pins s σ H _ I h) fun v s1 ⟨x,H1,I1,r1,q1⟩=>bW (hb pins s1 σ H1 _ I1 q1) fun u s2 ⟨y,H2,I2,r2,q2⟩ =>
  bW (ho pins s2 σ H2 x y v u _ I2 r1 r2 q2) fun c s3 ⟨z,H3,I3,r3,k,e,q3⟩=>?_) hm
 subst e
 cases r3
 exact wpAny_truthy_bool ⟨H3,I3,q3⟩
def l8 (r r':R2) (ta tb tc:TE):TE:=fun σ H Q=>ta σ H fun x H1=>tb σ H1 fun y H2=>r x y H2 fun z H3=>∃ k,z=.bl k /\
 (if k=true then tc σ H3 fun w' H4=>r' y w' H4 Q else Q (.bl false) H3)
theorem Ei {op op':CmpOp} {r r':R2} (ho:gI X (compareOp op) r) (ho':gI X (compareOp op') r') (ha:PE X a ta) (hb:PE X b tb) (hc:PE X c tc)
  (hm:lastMarks [op,op'] [b,c]=false:=by with_unfolding_all rfl):PT X (.Compare a [op,op'] [b,c] pos) (l6 (l8 r r' ta tb tc)):=by
 intro pins s σ H Q I h
 refine isTrue_chain (bW (ha pins s σ H _ I h) fun v s1 ⟨x,H1,I1,r1,q1⟩=>test_link (bW (hb pins s1 σ H1 _ I1 q1) fun u s2 ⟨y,H2,I2,r2,q2⟩ =>
  bW (ho pins s2 σ H2 x y v u _ I2 r1 r2 q2) fun d s3 ⟨z,H3,I3,r3,k,e,q3⟩=>?_)) hm
 subst e
 cases r3
 refine wpAny_truthy_bool ?_
 cases k with
 | false =>
  obtain ⟨k',e',q'⟩:=q3
  cases e'
  exact ite_ff ⟨H3,I3,q'⟩
 | true =>
  refine ite_tt (test_last (bW (hc pins s3 σ H3 _ I3 q3) fun w' s4 ⟨z',H4,I4,r4,q4⟩=>bW (ho' pins s4 σ H4 y z' u w' _ I4 r2 r4 q4) fun d' s5 ⟨z2,H5,I5,r5,k2,e2,q5⟩=>?_))
  subst e2
  cases r5
  exact wpAny_truthy_bool ⟨H5,I5,q5⟩
theorem ik:(sizeLine:Nat) < 2 ^ 63:=by rw [sizeLine_eq];decide
theorem vals1 {x:V} {us:List Value} (r:Vals [x] us):∃ u,us=[u]/\RelV x u:=by
 cases r with
 | cons r1 r2=>cases r2;exact ⟨_,rfl,r1⟩
theorem vals2 {x y:V} {us:List Value} (r:Vals [x,y] us):∃ u w',us=[u,w']/\RelV x u/\RelV y w':=by
 cases r with
 | cons r1 r2 =>
  cases r2 with
  | cons r3 r4=>cases r4;exact ⟨_,_,rfl,r1,r3⟩
theorem Ej (hc:X.calm=true):fB X (.builtin "max") (fun xs H Q=>∃ i j,xs=[.int i,.int j]/\Q (.int (if j > i then j else i)) H):=by
 intro pins s σ H xs us Q I r h
 obtain ⟨i,j,rfl,q⟩:=h
 obtain ⟨u,w',rfl,⟨t,rfl⟩,⟨t',rfl⟩⟩:=vals2 r
 refine max_two_ints (I.ok.hd hc) fun h' tk k=>⟨_,H,I.kept k,?_,q⟩
 by_cases hj:j > i
 ·rw [if_pos hj,if_pos hj];exact ⟨_,rfl⟩
 ·rw [if_neg hj,if_neg hj];exact ⟨_,rfl⟩
theorem zz:fB X (.type "int") (fun xs H Q=>(∃ i,xs=[.int i]/\Q (.int i) H)\/∃ k,xs=[.bl k]/\Q (.int (if k then 1 else 0)) H):=by
 intro pins s σ H xs us Q I r h
 rcases h with ⟨i,rfl,q⟩ | ⟨k,rfl,q⟩
 ·obtain ⟨u,rfl,t,rfl⟩:=vals1 r
  exact call_int_int ⟨.int i,H,I,⟨_,rfl⟩,q⟩
 ·obtain ⟨u,rfl,r1⟩:=vals1 r
  cases r1
  exact call_int_bool ⟨.int (if k then 1 else 0),H,I.tok _,⟨_,rfl⟩,q⟩
end
end L2
namespace L2
open PySem PySem.Spec PyProof.Rows
section
variable {prog:Program} {w:World} {A:Around} {E:Value->Shared->Prop} {s:Shared} {K:PySem.W.Frag} {x dx C f:Addr} {mA:Str->Option Value} {name:Str} {v:Value}
end
section
variable {P:Program} {w:World} {H H':Hp} {h h':Heap} {a C dx:Addr} {fs fs':List (Str×V)}
end
structure Ek (K:PySem.W.Frag) (C:Addr):Prop where
 pg:PySem.W.plainGet K C Str.empty=true
 hd:PySem.W.hasDictIn K C=true
 po:PySem.W.plainOver K C=true
 sa:PySem.W.findIn K (.ref C) "__setattr__" = some (some (.builtin "object.__setattr__"))
structure l9 (K:PySem.W.Frag) (C:Addr) (f:Str) (v:V) (u:Value):Prop where
 at_:PySem.W.findIn K (.ref C) f=some (some u)
 rel:RelV v u
 get:PySem.W.specialIn K u "__get__" = some none
 cp:PySem.W.copiedNames.contains f=false
section
variable {X:Cx} {pins:List (Addr×Obj)} {σ:St} {H:Hp} {s:Shared} {a C dx:Addr} {fs:List (Str×V)} {f:Str} {v:V} {A:Around} {E:Value->Shared->Prop}
end
section
variable {X:Cx} {o e value:Expr} {f:Str} {pos pos' tpos:Pos} {ta tv:TE}
end
section
variable {X:Cx} {pins:List (Addr×Obj)} {σ:St} {H:Hp} {s:Shared} {A:Around} {E:Value->Shared->Prop} {Q:Value->Shared->Prop} {c:Value} {b:Bool}
inductive iM (K:PySem.W.Frag) (H:Hp):V->Value->Prop where
 | non:iM K H .non (.type "NoneType")
 | bl (x:Bool):iM K H (.bl x) (.type "bool")
 | int (i:Int):iM K H (.int i) (.type "int")
 | str (x:Str):iM K H (.str x) (.type "str")
 | sS (x:UInt64):iM K H (.sS x) (.type "float")
 | lst {a:Addr} {xs:List V} (e:H a=some (.lst xs)):iM K H (.ref a) (.type "list")
 | iX {a:Addr} {o:Obj} {xs:List V} (e:H a=some (.iX o (.lst xs))):iM K H (.ref a) (.type "list")
 | tup {a:Addr} {xs:List V} (e:H a=some (.tup xs)):iM K H (.ref a) (.type "tuple")
 | dK {a:Addr} {kvs:List (Key×V)} (e:H a=some (.dK kvs)):iM K H (.ref a) (.type "dict")
 | dT {a:Addr} {kvs:List (List Key×V)} (e:H a=some (.dT kvs)):iM K H (.ref a) (.type "dict")
 | ins {a C dx:Addr} {fs:List (Str×V)} (e:H a=some (.ins C dx fs)) (cl:Ek K C) (ha:PySem.W.findIn K (.ref C) "__class__" = some (some (.builtin "object.__class__")))
   (hn:PySem.W.specialIn K (.builtin "object.__class__") "__get__" = some (some (.builtin "getset_descriptor.__get__"))) (htk:PySem.W.takesIn K (.builtin "object.__class__")=some true)
   (hm:PySem.W.mroIn K C (.type "object")=some true):iM K H (.ref a) (.ref C)
end
end L2
namespace L2
open PySem PySem.Spec PyProof.Rows
structure eo (k:Nat) (A:Around):Prop where
 hd:A.handled=none
 dp:A.depth + 3 * k + 5 < recursionLimit
 un:A.units + 16 * k + 200 < cLine
 gd:A.guards=some []
theorem eo.mono {j k:Nat} {A:Around} (r:eo k A) (h:j<=k):eo j A:=⟨r.hd,by have:=r.dp;omega,by have:=r.un;omega,r.gd⟩
theorem eo.deeper {k:Nat} {A:Around} (r:eo (k + 1) A) (env:Env):eo k (A.deeper env) :=
 ⟨r.hd,by have:=r.dp;show A.depth + 1 + 3 * k + 5 < _;omega,by have:=r.un;show A.units + 3 + 16 * k + 200 < _;omega,r.gd⟩
theorem eo.depth {k:Nat} {A:Around} (r:eo k A):A.depth < recursionLimit:=by have:=r.dp;omega
theorem eo.units {k:Nat} {A:Around} (r:eo k A):A.units + 64 < cLine:=by have:=r.un;omega
def qc:TA:=fun _ H Q=>Q [] H
def kO (ta:TE) (tr:TA):TA:=fun σ H Q=>ta σ H fun x H1=>tr σ H1 fun xs H2=>Q (x :: xs) H2
section
variable {X:Cx} {e:Expr} {es:List Expr} {te:TE} {t:TA} {pos:Pos}
theorem aE:PA X [] qc:=fun _ _ _ _ H Q I h=>Calls.spliced_nil ⟨[],H,I,.nil,h⟩
theorem ai (ha:PE X e te) (hr:PA X es t) (hs:starEach (e :: es) X.env=(false,eval e X.env) :: starEach es X.env:=by rfl):PA X (e :: es) (kO te t):=by
 intro pos pins s σ H Q I h
 rw [hs]
 show wpAny _ _ (spliced ((false,eval e X.env) :: backTo pos (starEach es X.env))) _ _ s
 refine Calls.spliced_cons (bW (ha pins s σ H _ I h) fun u s1 ⟨x,H1,I1,r1,q1⟩=>?_)
 exact bW (hr pos pins s1 σ H1 _ I1 q1) fun us s2 ⟨xs,H2,I2,r2,q2⟩=>⟨x :: xs,H2,I2,.cons r1 r2,q2⟩
def uE (t:TA):TE:=fun σ H Q=>t σ H fun xs H1=>xs.length<=sizeLine/\∀ p,H1 p=none->Q (.ref p) (upd H1 p (.tup xs))
def uF (t:TA):TE:=fun σ H Q=>t σ H fun xs H1=>xs.length<=sizeLine/\∀ p,H1 p=none->Q (.ref p) (upd H1 p (.lst xs))
theorem de {x1} (h:PA X es t):PE X (.Tuple es x1 pos) (uE t):=by
 intro pins s σ H Q I hq
 refine wpAny_Tuple_spliced (bW (h pos pins s σ H _ I hq) fun us s1 ⟨xs,H1,I1,r,z,q⟩=>⟨by rw [<- r.length];exact z,?_⟩)
 have hf:H1 s1.heap.objs.size=none:=I1.hok.fresh (Nat.le_refl _)
 refine ⟨.ref s1.heap.objs.size,upd H1 s1.heap.objs.size (.tup xs),I1.laid (t':=s1.toks) (fun b u e=>Heap.get?_push_of_some _ e) (Nat.le_refl _) ?_,rfl,q _ hf⟩
 exact ⟨z,us,r,⟨_,Heap.get?_push_size _ rfl,rfl,rfl,_,rfl⟩⟩
theorem kq (h:PA X es t):PE X (.List es pos) (uF t):=by
 intro pins s σ H Q I hq
 refine wpAny_List_spliced (bW (h pos pins s σ H _ I hq) fun us s1 ⟨xs,H1,I1,r,z,q⟩=>⟨by rw [<- r.length];exact z,?_⟩)
 have hf:H1 s1.heap.objs.size=none:=I1.hok.fresh (Nat.le_refl _)
 refine ⟨.ref s1.heap.objs.size,upd H1 s1.heap.objs.size (.lst xs),I1.laid (t':=s1.toks) (fun b u e=>Heap.get?_push_of_some _ e) (Nat.le_refl _) ?_,rfl,q _ hf⟩
 exact ⟨z,us,0,r,Heap.get?_push_size _ rfl⟩
end
abbrev Sp:=List V->Hp->VK->XK->Prop
abbrev kP:=List Env->Hp->Shared->XK->Value->Shared->Prop
structure ni (P:Program) (w:World) (K:PySem.W.Frag) (mg:Str->Option Value) (base:Heap) (A:Around) (outer:List Env) (s:Shared) (H:Hp):Prop where
 frames:A.frames=some outer
 mod:Mod K mg base
 bs:∀ b o,base.get? b=some o->s.heap.get? b=some o/\H b=none
 lS:base.objs.size<=s.heap.objs.size
 g5:s.heap.FunFrames base outer
 mY:∀ b∈frs outer,H b=none
 hok:gH P w H s.heap
 bare:AllBare s.gens
def CE (outer:List Env) (P:Program) (w:World) (H:Hp) (s:Shared) (Q:VK) (u:Value) (s':Shared):Prop :=
 ∃ v H',s'.os=s.os/\AllBare s'.gens/\Un (frs outer) [] H H' s.heap s'.heap/\gH P w H' s'.heap/\RelV v u/\Q v H'
def CR (CX:kP) (outer:List Env) (P:Program) (w:World) (H:Hp) (s:Shared) (Q:VK) (E:XK) (r:Result) (s':Shared):Prop :=
 match r with
 | .ok (.ret u)=>CE outer P w H s Q u s'
 | .ok _=>False
 | .error e=>CX outer H s E e s'
structure aH (P:Program) (w:World) (K:PySem.W.Frag) (mg:Str->Option Value) (base:Heap) (CX:kP) (k:Nat) (f:Addr) (fd:FuncData) (ps:List Str) (sp:Sp):Prop where
 len:∀ vs H Q E,sp vs H Q E->vs.length=ps.length
 run:∀ (A:Around) (outer:List Env) (s:Shared) (H:Hp) (args:Args) (us:List Value) (vs:List V) (Q:VK) (E:XK),eo k A->ni P w K mg base A outer s H->BindsTo s fd args (ps.zip us)->Vals vs us->sp vs H Q E ->
  codeAny (model P w) A (.call (.ref f) args) (CR CX outer P w H s Q E) s
theorem aH.imp {P:Program} {w:World} {K:PySem.W.Frag} {mg:Str->Option Value} {base:Heap} {CX:kP} {k:Nat} {f:Addr} {fd:FuncData} {ps:List Str} {sp BD:Sp} (F:aH P w K mg base CX k f fd ps sp)
  (h:∀ vs H Q E,BD vs H Q E->sp vs H Q E):aH P w K mg base CX k f fd ps BD :=
 ⟨fun vs H Q E q=>F.len vs H Q E (h _ _ _ _ q),fun A outer s H args us vs Q E hr he hb hv hs=>F.run A outer s H args us vs Q E hr he hb hv (h _ _ _ _ hs)⟩
section
variable {X:Cx} {pins:List (Addr×Obj)} {σ:St} {H:Hp} {s s':Shared}
theorem Inv.uG (I:Inv X pins σ H s):ni X.prog X.w X.K X.mg X.base X.A X.stack s H :=
 ⟨I.ok.frames,I.ok.mod,I.bs,Nat.le_trans I.ok.lS I.sz,I.stack,I.jF,I.hok,I.bare⟩
theorem Inv.after {Q:VK} {u:Value} (I:Inv X pins σ H s) (h:CE X.stack X.prog X.w H s Q u s'):EP X pins σ Q u s':=by
 obtain ⟨v,H',os,bare,un,hok,r,q⟩:=h
 obtain ⟨hh,g,d,t,os'⟩:=s'
 obtain rfl:os'=s.os:=os
 exact ⟨v,H',I.call (h':=hh) (g':=g) (d':=d) (t':=t) (ch:=[]) un hok bare (fun b z=>absurd z (by simp)),r,q⟩
end
def ma (sp:Sp) (oF:List V) (E:XK) (t:TA):TE:=fun σ H Q=>t σ H fun vs H1=>sp (vs ++ oF) H1 Q E
def Binds (K:PySem.W.Frag) (fd:FuncData) (ps:List Str) (ds:List Value):Prop :=
 ∀ (s:Shared) (us:List Value),K.In s.heap->(us ++ ds).length=ps.length->BindsTo s fd ⟨us,[]⟩ (ps.zip (us ++ ds))
theorem Binds.all {K:PySem.W.Frag} {fd:FuncData} {ps:List Str} (h:∀ us:List Value,us.length=ps.length->bindArgs fd ⟨us,[]⟩=pure (ps.zip us)):Binds K fd ps []:=fun s us _ hl=>by
 rw [List.append_nil] at hl ⊢
 exact .of_eq (h us hl)
def Passes (CX:kP) (X:Cx) (E:XK):Prop:=∀ (pins:List (Addr×Obj)) (σ:St) (H:Hp) (s:Shared) (e:Value) (s':Shared),Inv X pins σ H s->CX X.stack H s E e s'->X.xe e s'
section
variable {X:Cx} {CX:kP} {k:Nat} {f C:Addr} {fd:FuncData} {ps:List Str} {sp:Sp} {oF:List V} {ds:List Value} {E:XK} {x m:Str} {p pos apos:Pos} {e o:Expr} {es:List Expr} {ta:TE} {t:TA}
theorem qd {pins:List (Addr×Obj)} {σ:St} {H:Hp} {s:Shared} {Q:VK} {us:List Value} {vs:List V} (F:aH X.prog X.w X.K X.mg X.base CX k f fd ps sp) (hr:eo k X.A) (hb:Binds X.K fd ps ds) (hd:Vals oF ds) (hx:Passes CX X E)
  (I:Inv X pins σ H s) (r:Vals vs us) (h:sp (vs ++ oF) H Q E):wpAny (model X.prog X.w) X.A (call (.ref f) us) (EP X pins σ Q) X.xe s:=by
 have r2:Vals (vs ++ oF) (us ++ ds):=r.append hd
 have hl:(us ++ ds).length=ps.length:=by rw [<- r2.length];exact F.len _ _ _ _ h
 refine wpAny_call (codeAny_mono (F.run X.A X.stack s H ⟨us,[]⟩ (us ++ ds) (vs ++ oF) Q E hr I.uG (hb s us I.lN hl) r2 h) fun r s' hq=>?_)
 cases r with
 | error e=>exact hx pins σ H s e s' I hq
 | ok fl =>
  cases fl with
  | ret u=>exact I.after hq
  | next=>exact False.elim hq
  | brk=>exact False.elim hq
  | cont=>exact False.elim hq
theorem cG (F:aH X.prog X.w X.K X.mg X.base CX k f fd ps sp) (hr:eo k X.A) (hg:Gl X x) (hm:X.mg x=some (.ref f)) (hk:PySem.W.keepIn X.K (.ref f)=true) (hb:Binds X.K fd ps ds) (hd:Vals oF ds) (hx:Passes CX X E)
  (ha:PA X (e :: es) t) (hdb:(x == ("__debug__" : Str))=false:=by decide) (he:starEach (e :: es) X.env=(false,eval e X.env) :: starEach es X.env:=by rfl) (hpl:(backTo pos (starEach es X.env)).any (·.1)=false:=by rfl) :
  PE X (.Call (.Name x p) (e :: es) [] pos) (ma sp oF E t):=by
 intro pins s σ H Q I h
 refine wpAny_Call_Name_kw (uf I hg hm ?_ hdb)
 refine PySem.W.callWith_K (h₀:=X.base) I.ok.mod.xo hk (bW (ha pos pins s σ H _ I h) fun us s1 ⟨vs,H1,I1,r,q⟩=>⟨I1.lN,?_⟩) he hpl
 exact qd F hr hb hd hx I1 r q
end
section
variable {X:Cx} {CX:kP} {k:Nat} {f C:Addr} {fd:FuncData} {ps ks:List Str} {sp:Sp} {E:XK} {x m:Str} {p pos apos kpos:Pos} {e o:Expr} {es:List Expr} {kws:List Keyword} {te ta:TE} {t tk:TA} {nm:Option Str}
variable {g:List Value->List Value->List Value} {gV:List V->List V->List V}
end
structure aI (N P:List Str) (sc:Scope):Prop where
 kind:sc.kind=.function
 co:sc.isCoroutine=false
 gen:sc.isGenerator=false
 nd:N.Nodup
 pre:N.take P.length=P
 par:∀ x∈P,sc.names.lookup x=some .local\/sc.names.lookup x=some .cell
 qe:∀ y∈sc.names,y.2≠.free
theorem BE {kindOf:Str->Option NameKind} {x:Str}:∀ {binds:List (Str×Value)} {m:Str->Option Value},(∀ v,(x,v) ∉ binds)->bindL kindOf binds m x=m x
 | [],_,_=>rfl
 | (n,v) :: r,m,h=>by
  unfold bindL
  rw [BE fun w hw=>h w (List.mem_cons_of_mem _ hw)]
  split
  ·have:x≠n:=by rintro rfl;exact h v List.mem_cons_self
   simp [this]
  ·rfl
theorem BF {kindOf:Str->Option NameKind} {x:Str}:∀ {binds:List (Str×Value)} {m:Str->Option Value},(∀ v,(x,v) ∉ binds)->bindC kindOf binds m x=m x
 | [],_,_=>rfl
 | (n,v) :: r,m,h=>by
  unfold bindC
  rw [BF fun w hw=>h w (List.mem_cons_of_mem _ hw)]
  split
  ·rfl
  ·have:x≠n:=by rintro rfl;exact h v List.mem_cons_self
   simp [this]
theorem BG {kindOf:Str->Option NameKind} {x:Str} {v:Value}:∀ {P:List Str} {vs:List Value} {i:Nat} {m:Str->Option Value},P.Nodup->P[i]?=some x->vs[i]?=some v->kindOf x=some .local ->
  bindL kindOf (P.zip vs) m x=some v
 | [],_,_,_,_,h,_,_=>by simp at h
 | _ :: _,[],_,_,_,_,h,_=>by simp at h
 | p :: P,w :: vs,0,m,nd,h1,h2,hk=>by
  simp at h1 h2;subst h1;subst h2
  show bindL kindOf ((p,w) :: P.zip vs) m p=_
  unfold bindL
  rw [BE fun v hv=>(List.nodup_cons.mp nd).1 (List.of_mem_zip hv).1,if_pos hk]
  simp
 | p :: P,w :: vs,i + 1,m,nd,h1,h2,hk=>by
  show bindL kindOf ((p,w) :: P.zip vs) m x=_
  unfold bindL
  exact BG (i:=i) (List.nodup_cons.mp nd).2 (by simpa using h1) (by simpa using h2) hk
theorem BH {kindOf:Str->Option NameKind} {x:Str} {v:Value}:∀ {P:List Str} {vs:List Value} {i:Nat} {m:Str->Option Value},P.Nodup->P[i]?=some x->vs[i]?=some v->kindOf x≠some .local ->
  bindC kindOf (P.zip vs) m x=some v
 | [],_,_,_,_,h,_,_=>by simp at h
 | _ :: _,[],_,_,_,_,h,_=>by simp at h
 | p :: P,w :: vs,0,m,nd,h1,h2,hk=>by
  simp at h1 h2;subst h1;subst h2
  show bindC kindOf ((p,w) :: P.zip vs) m p=_
  unfold bindC
  rw [BF fun v hv=>(List.nodup_cons.mp nd).1 (List.of_mem_zip hv).1,if_neg hk]
  simp
 | p :: P,w :: vs,i + 1,m,nd,h1,h2,hk=>by
  show bindC kindOf ((p,w) :: P.zip vs) m x=_
  unfold bindC
  exact BH (i:=i) (List.nodup_cons.mp nd).2 (by simpa using h1) (by simpa using h2) hk
def start (N:List Str) (vs:List V):St:=vs.map some ++ List.replicate (N.length - vs.length) none
def fL (CX:kP) (P:Program) (w:World) (K:PySem.W.Frag) (mg:Str->Option Value) (base:Heap) (N:List Str) (qual:Str) (scope:Scope) (f:Addr) (cd:Value) (A:Around) (outer:List Env) (s:Shared) (H:Hp) (E:XK):Cx where
 prog:=P
 w:=w
 K:=K
 mg:=mg
 base:=base
 A:=A.deeper (envOfC qual scope s.heap.objs.size f cd)
 N:=N
 s₀:=s
 H₀:=H
 env:=envOfC qual scope s.heap.objs.size f cd
 outer:=outer
 stack:=envOfC qual scope s.heap.objs.size f cd :: outer
 ex:=[]
 calm:=true
 fn:=fun _=>true
 pn:=[]
 xe:=fun e s'=>wpAny (model P w) (A.deeper (envOfC qual scope s.heap.objs.size f cd)) («leaving» (envOfC qual scope s.heap.objs.size f cd) e) (fun _ s''=>CX outer H s E e s'') (fun e' s''=>CX outer H s E e' s'') s'
theorem BI {sc:Scope} {n:Nat} {x:Str} (h:sc.names.lookup x=some .cell):∃ c,(cellsFrom n sc.names []).lookup x=some c:=by
 have q:=PySem.W.cellsFrom_some sc.names n [] (.inl h)
 exact Option.isSome_iff_exists.mp q
theorem El {CX:kP} {P:Program} {w:World} {K:PySem.W.Frag} {mg:Str->Option Value} {base:Heap} {N ps:List Str} {qual:Str} {scope:Scope} {f:Addr} {cd:Value} {A:Around} {outer:List Env} {s s1:Shared} {H:Hp} {E:XK} {us:List Value} {vs:List V}
  (S:aI N ps scope) (hd:A.handled=none) (e0:ni P w K mg base A outer s H) (hl:vs.length=ps.length) (r:Vals vs us)
  (x:InCallC s s.heap.objs.size (bindL (envOfC qual scope s.heap.objs.size f cd).kindOf (ps.zip us) fun _=>none) (cellsFrom (s.heap.objs.size + 1) scope.names []) (bindC (envOfC qual scope s.heap.objs.size f cd).kindOf (ps.zip us) fun _=>none) s1) :
  Inv (fL CX P w K mg base N qual scope f cd A outer s H E) [] (start N vs) H s1:=by
 have hpl:ps.length<=N.length:=by have:=congrArg List.length S.pre;rw [List.length_take] at this;omega
 obtain ⟨h1,tk,rfl,hk⟩:=x.done
 have uH:∀ b:Addr,b ∉ (fL CX P w K mg base N qual scope f cd A outer s H E).ex:=fun b z=>absurd (show b∈([]:List Addr) from z) (by simp)
 refine ⟨⟨e0.mod,S.kind,rfl,rfl,Nat.le_refl _,fun y z c h1 h2=>?_,fun y hy=>?_,fun y c _ h=>?_,fun _=>hd,Around.frames_deeper e0.frames,.inr ⟨rfl,rfl⟩,fun b z=>absurd z (uH b),e0.bs,e0.lS,fun b _ _=>uH b,fun b z=>absurd z (uH b),e0.g5,e0.mY⟩,
  rfl,e0.bare,Un.kept hk,⟨_,x.toInCall.ns,fun i y v h1 h2 h3=>?_⟩,fun y c h=>⟨_,x.cell y c h⟩,e0.hok.fresh (Nat.le_refl _),fun y c h=>?_,fun p hp=>absurd (show p∈([]:List (Addr×Obj)) from hp) (by simp),e0.hok.kept hk,?_⟩
 ·exact name_of_addr x.apart (PySem.mem_of_lookup h1) (PySem.mem_of_lookup h2)
 ·have hy:scope.names.lookup y=some .cell\/scope.names.lookup y=some .free:=hy
  rcases hy with hy | hy
  ·exact BI hy
  ·exact absurd rfl (S.qe _ (PySem.mem_of_lookup hy))
 ·exact Nat.le_of_lt (x.above y c (PySem.mem_of_lookup h))
 ·have hi:i < vs.length:=by
   unfold start at h2
   by_cases hi:i < vs.length
   ·exact hi
   ·rw [List.getElem?_append_right (by simpa using hi)] at h2
    rw [List.getElem?_replicate] at h2
    split at h2 <;> cases h2
  have ha:vs[i]?=some v:=by
   unfold start at h2
   rw [List.getElem?_append_left (by simpa using hi),List.getElem?_map] at h2
   cases e:vs[i]? with
   | none=>rw [e] at h2;cases h2
   | some a=>rw [e] at h2;cases h2;rfl
  obtain ⟨u,hu,rv⟩:=r.get ha
  have hp:ps[i]?=some y:=by
   rw [<- S.pre,List.getElem?_take_of_lt (by omega)];exact h1
  have BJ:ps.Nodup:=by rw [<- S.pre];exact S.nd.sublist (List.take_sublist _ _)
  refine ⟨u,rv,?_⟩
  rcases S.par y (List.mem_of_getElem? hp) with k | k
  ·exact .inl ⟨k,BG BJ hp hu k⟩
  ·obtain ⟨c,e⟩:=BI (n:=s.heap.objs.size + 1) k
   refine .inr ⟨.inl k,c,e,?_⟩
   have q:=x.cell y c e
   rw [BH BJ hp hu (by show scope.names.lookup y≠_;rw [k];decide)] at q
   exact q
 ·exact e0.hok.fresh (Nat.le_of_lt (x.above y c (PySem.mem_of_lookup h)))
 ·unfold start
  show _=N.length
  rw [List.length_append,List.length_map,List.length_replicate]
  omega
theorem oG {CX:kP} {P:Program} {w:World} {K:PySem.W.Frag} {mg:Str->Option Value} {base:Heap} {k:Nat} {f:Addr} {name qual:Str} {params:Arguments} {body:List Stmt} {scope:Scope} {dV kV doc pm cdv ct oc:Value} {an od:Option Addr}
  {osl:Array (Option Value)} {N ps:List Str} {sp:Sp} (lk:K.lookup f=some ⟨oc,od,.func (PySem.W.fnOf name qual params body scope dV kV doc pm an cdv ct),osl⟩) (hcd:PySem.W.codeIn K cdv qual=true) (S:aI N ps scope)
  (len:∀ vs H Q E,sp vs H Q E->vs.length=ps.length)
  (hbody:∀ (A:Around) (outer:List Env) (s:Shared) (H:Hp) (vs:List V) (Q:VK) (E:XK),eo k (A.deeper (envOfC qual scope s.heap.objs.size f cdv))->sp vs H Q E ->
   ∃ t,ko (fL CX P w K mg base N qual scope f cdv A outer s H E) body t/\t { nx:=fun _ H'=>Q .non H',rt:=Q } (start N vs) H) :
  aH P w K mg base CX (k + 1) f (PySem.W.fnOf name qual params body scope dV kV doc pm an cdv ct) ps sp:=by
 refine ⟨len,fun A outer s H args us vs Q E hr e0 hb r lO=>?_⟩
 have hl:=len _ _ _ _ lO
 have KX:K.In s.heap:=e0.mod.xo.keeps fun b o e=>(e0.bs b o e).1
 have lim:s.heap.NoLimit:=e0.mod.nolimit.keeps fun b o e=>(e0.bs b o e).1
 have hkind:∀ y∈ps.zip us,scope.names.lookup y.1=some .local\/(scope.names.lookup y.1=some .cell/\((cellsFrom (s.heap.objs.size + 1) scope.names []).lookup y.1).isSome=true):=fun ⟨n,v⟩ hy=>by
  rcases S.par n (List.of_mem_zip hy).1 with q | q
  ·exact .inl q
  ·exact .inr ⟨q,PySem.W.cellsFrom_some _ _ _ (.inl q)⟩
 refine codeAny_call_function hr.depth (KX _ _ lk) rfl S.co S.gen rfl (PySem.W.codeRec_of KX hcd) (hb _ _ _ _ ?_)
 refine wpAny_newFunctionEnv_cells S.kind hkind fun env he s1 x=>?_
 subst he
 refine ⟨lim.keeps x.toInCall.keep,codeAny_func ?_⟩
 obtain ⟨t,ht,hq⟩:=hbody A outer s H vs Q E (hr.deeper _) lO
 have I:Inv (fL CX P w K mg base N qual scope f cdv A outer s H E) [] (start N vs) H s1:=El S hr.hd e0 hl r x
 refine wpAny_mono (ht [] s1 (start N vs) H _ I hq) (fun fl s' hs=>?_) fun e s' hs=>hs
 have fin:∀ {σ':St} {H':Hp} {v:V} {u:Value},Inv (fL CX P w K mg base N qual scope f cdv A outer s H E) [] σ' H' s'->RelV v u->Q v H'->CE outer P w H s Q u s' :=
  fun {σ' H' v u} J rv q=>⟨v,H',J.os,J.bare,J.base,J.hok,rv,q⟩
 cases fl with
 | ret u =>
  obtain ⟨v,σ',H',J,rv,q⟩:=hs
  exact fin J rv q
 | next =>
  obtain ⟨σ',H',J,q⟩:=hs
  exact fin (v:=V.non) (u:=Value.none) J rfl q
 | brk =>
  obtain ⟨_,_,_,q⟩:=hs
  exact False.elim q
 | cont =>
  obtain ⟨_,_,_,q⟩:=hs
  exact False.elim q
end L2
namespace L2
open PySem PySem.Spec PyProof.Rows
section
variable {X:Cx} {x:Str} {p pos:Pos} {e:Expr} {es:List Expr} {t:TA} {id T:String} {r:List V->Hp->VK->Prop}
def xA (r:List V->Hp->VK->Prop) (t:TA):TE:=fun σ H Q=>t σ H fun vs H1=>r vs H1 Q
theorem i9 (hc:fB X (.builtin id) r) (hg:Gl X x) (hm:X.mg x=none) (hv:bootBuiltins x=some (.builtin id)) (ha:PA X (e :: es) t) (hn:x≠"__name__" := by decide) (hdb:(x == ("__debug__" : Str))=false:=by decide)
  (he:starEach (e :: es) X.env=(false,eval e X.env) :: starEach es X.env:=by rfl) (hpl:(backTo pos (starEach es X.env)).any (·.1)=false:=by rfl):PE X (.Call (.Name x p) (e :: es) [] pos) (xA r t):=by
 intro pins s σ H Q I h
 refine wpAny_Call_Name_kw (ug I hg hm hv ?_ hn hdb)
 exact PyProof.Rows.callWith_builtin1 (bW (ha pos pins s σ H _ I h) fun us s1 ⟨vs,H1,I1,r1,q1⟩=>hc pins s1 σ H1 vs us Q I1 r1 q1) he hpl
theorem qf (hc:fB X (.type T) r) (hg:Gl X x) (hm:X.mg x=none) (hv:bootBuiltins x=some (.type T)) (ha:PA X (e :: es) t) (hn:x≠"__name__" := by decide) (hdb:(x == ("__debug__" : Str))=false:=by decide)
  (he:starEach (e :: es) X.env=(false,eval e X.env) :: starEach es X.env:=by rfl) (hpl:(backTo pos (starEach es X.env)).any (·.1)=false:=by rfl):PE X (.Call (.Name x p) (e :: es) [] pos) (xA r t):=by
 intro pins s σ H Q I h
 refine wpAny_Call_Name_kw (ug I hg hm hv ?_ hn hdb)
 exact PyProof.Rows.callWith_type1 (bW (ha pos pins s σ H _ I h) fun us s1 ⟨vs,H1,I1,r1,q1⟩=>hc pins s1 σ H1 vs us Q I1 r1 q1) he hpl
end
end L2
namespace HT
open PySem PyProof.Rows
section
open PySem.SeqAt
open PySem.AutoSeq1 (wpAny_loadPart')
open PySem.MeetsSeq PySem.MeetsSeq2 PySem.MeetsSeq3
end
section
variable {prog:Program} {w:World} {A:Around} {E:Value->Shared->Prop} {s:Shared}
theorem Em {t b:Addr} {vs ws:List Value} {Q:Value->Shared->Prop} (ht:IsTup s.heap t vs.toArray) (hb:IsTup s.heap b ws.toArray) (hv:vs≠[])
  (h1:ws=[]->Q (.ref t) s) (h2:ws≠[]->Q (.ref s.heap.objs.size) { s with heap:=s.heap.push { cls:=.type "tuple",data:=.seq (vs ++ ws).toArray } })
  (hsz:vs.length + ws.length<=sizeLine):wpAny (model prog w) A (binaryOp .Add (.ref t) (.ref b)) Q E s:=by
 obtain ⟨⟨cls,dd,data,sl⟩,ho,hc,n,hd⟩:=id ht
 obtain ⟨⟨zA,dd2,data2,sl2⟩,ho2,hc2,n2,hd2⟩:=id hb
 simp only at hc hd hc2 hd2
 subst hc hd hc2 hd2
 have e:vs.toArray ++ ws.toArray=(vs ++ ws).toArray:=by simp
 by_cases hw:ws=[]
 ·exact concat_meets ⟨_,ho,rfl⟩ ⟨_,ho2,rfl⟩ noFill_tuple_add seq_tuple_add PySem.F.slot_tuple_add PySem.F.entry_tuple_add (PySem.F.args_tuple_add_2 _ _)
   (tuple_addW1 t b vs.toArray ws.toArray n n2 dd dd2 sl sl2 (by simpa using hv) (by simp [hw])) ⟨ho,ho2,h1 hw⟩
 ·refine concat_meets ⟨_,ho,rfl⟩ ⟨_,ho2,rfl⟩ noFill_tuple_add seq_tuple_add PySem.F.slot_tuple_add PySem.F.entry_tuple_add (PySem.F.args_tuple_add_2 _ _)
   (tuple_addW2 t b vs.toArray ws.toArray n n2 dd dd2 sl sl2 (by simpa using hv) (by simpa using hw) (by rw [List.size_toArray,List.size_toArray];exact hsz)) ⟨ho,ho2,?_⟩
  rw [e]
  exact h2 hw
def bY (n d:Nat):Option Int->Nat
 | none=>d
 | some v=>if v < 0 then (v + (n:Int)).toNat else min v.toNat n
theorem En (n d:Nat):bY n d none=d:=rfl
theorem Eo (n d k:Nat):bY n d (some (k:Int))=min k n:=by
 show (if (k:Int) < 0 then ((k:Int) + (n:Int)).toNat else min (k:Int).toNat n)=min k n
 rw [if_neg (by omega),Int.toNat_natCast]
theorem qg (n d:Nat) (hd:d<=n) (o:Option Int):bY n d o<=n:=by
 cases o with
 | none=>exact hd
 | some v =>
  show (if v < 0 then (v + (n:Int)).toNat else min v.toNat n)<=n
  by_cases hv:v < 0
  ·rw [if_pos hv];omega
  ·rw [if_neg hv];exact Nat.min_le_right _ _
theorem BK (v:Int) (n d:Nat):(if v < 0 then max (v + (n:Int)) 0 else min v (n:Int))=((bY n d (some v):Nat):Int):=by
 show (if v < 0 then max (v + (n:Int)) 0 else min v (n:Int))=(((if v < 0 then (v + (n:Int)).toNat else min v.toNat n):Nat):Int)
 by_cases hv:v < 0
 ·simp only [if_pos hv];omega
 ·simp only [if_neg hv];omega
theorem Ep (lo hi:Option Int) (n:Nat):Builtin.Slice.sliceAdjust lo hi 1 (n:Int)=(((bY n 0 lo:Nat):Int),((bY n n hi:Nat):Int)):=by
 have h1:¬ ((1:Int) < 0):=by omega
 unfold Builtin.Slice.sliceAdjust
 simp only [h1,if_false]
 refine Prod.ext ?_ ?_
 ·cases lo with
  | none=>rfl
  | some v=>exact BK v n 0
 ·cases hi with
  | none=>rfl
  | some v=>exact BK v n n
theorem Er (i j:Nat):Builtin.Slice.slicePlaces (i:Int) (j:Int) 1=j - i:=by
 unfold Builtin.Slice.slicePlaces
 have h1:(1:Int) > 0:=by omega
 simp only [h1,if_true,Int.ediv_one]
 split <;> omega
theorem BL {v:Value} {o:Option Int} {Q:Option Int->Shared->Prop} (p:IsPart v o) (h:Q o s):wpAny (model prog w) A (Builtin.Slice.slicePartIndex v) Q E s:=by
 cases p with
 | none=>exact slicePart_none h
 | int i t=>exact slicePart_int h
theorem BM {sl:Addr} {vl vu:Value} {lo hi:Option Int} {n:Nat} {Q:Int×Int×Nat->Shared->Prop} (hs:s.heap.IsSliceOf sl vl vu .none) (pl:IsPart vl lo) (pu:IsPart vu hi)
  (h:Q (((bY n 0 lo:Nat):Int),1,bY n n hi - bY n 0 lo) s):wpAny (model prog w) A (Builtin.Slice.sliceApplied (.ref sl) (pure (n:Int))) Q E s:=by
 obtain ⟨os,hos,hcs,hds⟩:=id hs
 unfold Builtin.Slice.sliceApplied Builtin.Slice.sliceFields
 refine wpAny_bind (wpAny_bind (wpAny_field hos hds (x:=vl) rfl (wpAny_bind (wpAny_field hos hds (x:=vu) rfl (wpAny_bind (wpAny_field hos hds (x:=.none) rfl (wpAny_pure ?_)))))))
 refine wpAny_bind (slicePart_none ?_)
 show wpAny _ _ (if ((1:Int) == 0)=true then _ else _) _ _ s
 rw [if_neg (by decide)]
 refine wpAny_bind (BL pl (wpAny_bind (BL pu (wpAny_bind (wpAny_pure ?_)))))
 show wpAny _ _ (match Builtin.Slice.sliceAdjust lo hi 1 (n:Int) with | (lo,hi)=>pure (lo,(1:Int),Builtin.Slice.slicePlaces lo hi 1)) _ _ s
 rw [Ep lo hi n]
 show wpAny _ _ (pure (((bY n 0 lo:Nat):Int),(1:Int),Builtin.Slice.slicePlaces ((bY n 0 lo:Nat):Int) ((bY n n hi:Nat):Int) 1)) _ _ s
 rw [Er]
 exact wpAny_pure h
theorem Es (xs:Array Value) (i k:Nat):((List.range k).filterMap fun (m:Nat)=>xs[((i:Int) + (m:Int) * 1).toNat]?).toArray=((xs.toList.drop i).take k).toArray:=by
 have e:(fun (m:Nat)=>xs[((i:Int) + (m:Int) * 1).toNat]?)=fun m=>xs[i + m]?:=by
  funext m
  have:((i:Int) + (m:Int) * 1).toNat=i + m:=by omega
  rw [this]
 rw [e]
 have:=pick_run xs i k
 rw [List.filterMap_map] at this
 have e2:((fun x=>xs[x]?) ∘ fun x=>i + x)=fun m=>xs[i + m]?:=rfl
 rw [e2] at this
 rw [this]
theorem Et {t sl:Addr} {items:Array Value} {vl vu:Value} {lo hi:Option Int} {Q:Value->Shared->Prop} (ht:IsTup s.heap t items) (hs:s.heap.IsSliceOf sl vl vu .none) (pl:IsPart vl lo) (pu:IsPart vu hi)
  (hw:¬ (bY items.size 0 lo=0/\bY items.size items.size hi=items.size))
  (h:Q (.ref s.heap.objs.size) { s with heap:=s.heap.push { cls:=.type "tuple",data:=.seq ((items.toList.drop (bY items.size 0 lo)).take (bY items.size items.size hi - bY items.size 0 lo)).toArray } })
  (hsz:items.size<=sizeLine):wpAny (model prog w) A (getItem (.ref t) (.ref sl)) Q E s:=by
 have kQ:sizeOk (.seq ((items.toList.drop (bY items.size 0 lo)).take (bY items.size items.size hi - bY items.size 0 lo)).toArray):=by
  show ((items.toList.drop (bY items.size 0 lo)).take (bY items.size items.size hi - bY items.size 0 lo)).toArray.size<=sizeLine
  rw [List.size_toArray,List.length_take,List.length_drop,Array.length_toList]
  omega
 have hj:bY items.size items.size hi<=items.size:=qg _ _ (Nat.le_refl _) hi
 obtain ⟨os,hos,hcs,hds⟩:=id hs
 have zB:s.TypeIs (.ref sl) "slice" := ⟨os,hos,hcs⟩
 unfold getItem
 try with_reducible refine wpAny_holding ?_
 first | refine wpAny_bind (wpAny_pure ?_) | skip
 refine wpAny_bind (wpAny_sequenceKey ht.typeIs (by decide) ?_)
 refine wpAny_bind (wpAny_callSpecial?_slot (name:=Str.ofString "__getitem__") ht.typeIs PyProof.Rows.slot_tuple_getitem
  (wpAny_call_entry PyProof.Rows.slot_tuple_getitem ht.typeIs entry_tuple_getitem ?_ (args_tuple_getitem _ _)))
 show wpAny _ _ (Builtin.Tuple.tupleItemsOf (.ref t) >>= _) _ _ s
 refine wpAny_bind (tupleItemsOf_ ht ?_)
 refine wpAny_bind (wpAny_typeOf zB ?_)
 rw [if_pos (by decide)]
 refine wpAny_bind (BM hs pl pu ?_)
 have hno:¬ ((((bY items.size 0 lo:Nat):Int) == 0 && (1:Int) == 1 && (bY items.size items.size hi - bY items.size 0 lo) == items.size)=true):=by
  intro q
  rw [Bool.and_eq_true,Bool.and_eq_true] at q
  have q1:((bY items.size 0 lo:Nat):Int)=0:=eq_of_beq q.1.1
  have q2:bY items.size items.size hi - bY items.size 0 lo=items.size:=eq_of_beq q.2
  exact hw ⟨by omega,by omega⟩
 show wpAny _ _ (if (((bY items.size 0 lo:Nat):Int) == 0 && (1:Int) == 1 && (bY items.size items.size hi - bY items.size 0 lo) == items.size)=true then _ else _) _ _ s
 rw [if_neg hno,Es]
 first
  | exact wpAny_bind (m:=Builtin.Tuple.tupleExact _) (wpAny_newObj_type (wpAny_pure ⟨_,rfl,wpAny_pure h⟩) kQ)
  | exact wpAny_bind (m:=Builtin.Tuple.tupleExact _) (wpAny_newObj_type (wpAny_bind (wpAny_pure (wpAny_pure ⟨_,rfl,wpAny_pure h⟩))) kQ)
  | exact wpAny_bind (wpAny_bind (m:=Builtin.Tuple.tupleExact _) (wpAny_newObj_type (wpAny_pure (wpAny_pure ⟨_,rfl,wpAny_pure h⟩)) kQ))
  | exact wpAny_bind (wpAny_bind (m:=Builtin.Tuple.tupleExact _) (wpAny_newObj_type (wpAny_pure ⟨_,rfl,wpAny_pure h⟩) kQ))
end
end HT
namespace L2
open PySem PySem.Spec PyProof.Rows
abbrev TO:=St->Hp->(Option Int->Hp->Prop)->Prop
def PO (X:Cx) (e:Option Expr) (t:TO):Prop :=
 ∀ (pins:List (Addr×Obj)) (s:Shared) (σ:St) (H:Hp) (Q:Option Int->Hp->Prop),Inv X pins σ H s->t σ H Q ->
  wpAny (model X.prog X.w) X.A (evalPart e X.env) (fun u s'=>∃ o H',Inv X pins σ H' s'/\IsPart u o/\Q o H') X.xe s
def kR:TO:=fun _ H Q=>Q none H
def oH (t:TE):TO:=fun σ H Q=>t σ H fun x H1=>∃ i,x=.int i/\Q (some i) H1
section
variable {X:Cx} {e:Expr} {te:TE} {lo hi:Option Expr} {tl th:TO} {pos p2:Pos}
theorem xB:PO X none kR:=by
 intro pins s σ H Q I h
 rw [evalPart_none]
 exact wpAny_pure ⟨none,H,I,.none,h⟩
theorem xC (h:PE X e te):PO X (some e) (oH te):=by
 intro pins s σ H Q I hw
 rw [evalPart_some]
 refine bW (h pins s σ H _ I hw) fun u s1 ⟨x,H1,I1,r1,q1⟩=>?_
 obtain ⟨i,rfl,q⟩:=q1
 obtain ⟨t,rfl⟩:=r1
 exact ⟨some i,H1,I1,.int i t,q⟩
def xD (X:Cx) (r:V->Option Int->Option Int->Hp->VK->Prop):Prop :=
 ∀ (pins:List (Addr×Obj)) (s:Shared) (σ:St) (H:Hp) (x:V) (v vl vu:Value) (lo hi:Option Int) (sl:Addr) (Q:VK),Inv X pins σ H s->RelV x v->s.heap.IsSliceOf sl vl vu .none->IsPart vl lo->IsPart vu hi->r x lo hi H Q ->
  ∃ T id,typeLookup (.type T) "__getitem__" = pure (some (.builtin id))/\s.TypeIs v T/\wpAny (model X.prog X.w) X.A (getItem v (.ref sl)) (EP X pins σ Q) X.xe s
def BN (r:V->Option Int->Option Int->Hp->VK->Prop) (te:TE) (tl th:TO):TE:=fun σ H Q=>te σ H fun x H1=>tl σ H1 fun l H2=>th σ H2 fun u H3=>r x l u H3 Q
theorem xE {r:V->Option Int->Option Int->Hp->VK->Prop} (hr:xD X r) (he:PE X e te) (hl:PO X lo tl) (hu:PO X hi th):PE X (.Subscript e (.Slice lo hi none p2) pos) (BN r te tl th):=by
 intro pins s σ H Q I h
 refine Subscript_ (bW (he pins s σ H _ I h) fun v s1 ⟨x,H1,I1,r1,q1⟩=>?_)
 refine wpAny_Slice (bW (hl pins s1 σ H1 _ I1 q1) fun vl s2 ⟨l,H2,I2,pl,q2⟩=>bW (hu pins s2 σ H2 _ I2 q2) fun vu s3 ⟨u,H3,I3,pu,q3⟩=>?_)
 rw [evalPart_none]
 refine wpAny_pure ?_
 have I4:Inv X pins σ H3 { s3 with heap:=s3.heap.push { cls:=.type "slice",data:=.fields #[vl,vu,.none] } }:=I3.kept (t':=s3.toks) fun b ob q=>Heap.get?_push_of_some _ q
 obtain ⟨T,id,hT,ht,hg⟩:=hr pins { s3 with heap:=s3.heap.push { cls:=.type "slice",data:=.fields #[vl,vu,.none] } } σ H3 x v vl vu l u s3.heap.objs.size Q I4 r1 (Heap.IsSliceOf.new ..) pl pu q3
 show wpAny (model X.prog X.w) X.A (subscriptTail e (.Slice lo hi none p2) v (.ref s3.heap.objs.size)) (EP X pins σ Q) X.xe { s3 with heap:=s3.heap.push { cls:=.type "slice",data:=.fields #[vl,vu,.none] } }
 exact tail_any (ops:=[.ref s3.heap.objs.size,v]) ht hT hg (by with_unfolding_all rfl)
def ja (xs:List V) (lo hi:Option Int):List V:=(xs.drop (HT.bY xs.length 0 lo)).take (HT.bY xs.length xs.length hi - HT.bY xs.length 0 lo)
theorem BO (xs:List V) (lo hi:Option Int):(ja xs lo hi).length<=xs.length:=by
 unfold ja
 rw [List.length_take,List.length_drop]
 omega
def zC (K:PySem.W.Frag):V->Option Int->Option Int->Hp->VK->Prop:=fun x lo hi H Q=>∃ a xs,x=.ref a/\dF K H a xs /\
 ¬ (HT.bY xs.length 0 lo=0/\HT.bY xs.length xs.length hi=xs.length)/\∀ p,H p=none->Q (.ref p) (upd H p (.tup (ja xs lo hi)))
theorem qh:xD X (zC X.K):=by
 intro pins s σ H x v vl vu lo hi sl Q I rx hs pl pu h
 obtain ⟨a,xs,rfl,hx,hw,q⟩:=h
 cases rx
 obtain ⟨its,r,ht,hz⟩:=I.tuple hx
 have hlen:its.toArray.size=xs.length:=by rw [List.size_toArray];exact r.length.symm
 refine ⟨"tuple",_,PyProof.Rows.slot_tuple_getitem.lookup,ht.typeIs,?_⟩
 refine HT.Et ht hs pl pu (by rw [hlen];exact hw) ?_ (by rw [hlen];exact hz)
 rw [hlen]
 refine ⟨.ref s.heap.objs.size,_,I.laid (t':=s.toks) (o:=.tup (ja xs lo hi)) (fun b ob q=>Heap.get?_push_of_some _ q) (Nat.le_refl _) ?_,rfl,q _ (I.hok.fresh (Nat.le_refl _))⟩
 exact ⟨Nat.le_trans (BO xs lo hi) hz,_,(r.drop (HT.bY xs.length 0 lo)).take (HT.bY xs.length xs.length hi - HT.bY xs.length 0 lo),i3.new _ _⟩
def uI (K:PySem.W.Frag):R2:=fun x y H Q=>∃ a b xs ys,x=.ref a/\y=.ref b/\dF K H a xs/\dF K H b ys/\xs≠[]/\xs.length + ys.length<=sizeLine /\
 (ys=[]->Q (.ref a) H)/\(ys≠[]->∀ p,H p=none->Q (.ref p) (upd H p (.tup (xs ++ ys))))
theorem Vals.g8 {xs:List V} {us:List Value} (r:Vals xs us):us=[]↔xs=[]:=by
 cases r with
 | nil=>simp
 | cons _ _=>simp
theorem Ew:gI X (binaryOp .Add) (uI X.K):=by
 intro pins s σ H x y v u Q I rx ry h
 obtain ⟨a,b,xs,ys,rfl,rfl,ha,hb,hx,hz,q1,q2⟩:=h
 cases rx
 cases ry
 obtain ⟨its,r1,p1,_⟩:=I.tuple ha
 obtain ⟨its2,r2,p2,_⟩:=I.tuple hb
 refine HT.Em p1 p2 (fun z=>hx (r1.g8.mp z)) (fun z=>⟨.ref a,H,I,rfl,q1 (r2.g8.mp z)⟩) (fun z=>?_) (by rw [<- r1.length,<- r2.length];exact hz)
 refine ⟨.ref s.heap.objs.size,_,I.laid (t':=s.toks) (o:=.tup (xs ++ ys)) (fun b ob q=>Heap.get?_push_of_some _ q) (Nat.le_refl _) ?_,rfl,q2 (fun w=>z (r2.g8.mpr w)) _ (I.hok.fresh (Nat.le_refl _))⟩
 exact ⟨by rw [List.length_append];exact hz,_,r1.append r2,i3.new _ _⟩
end
end L2
namespace L2
open PySem PySem.Spec PyProof.Rows
def jx (n:Nat) (i:Int):Option Nat:=if 0<=i then (if i < n then some i.toNat else none) else if -(n:Int)<=i then some (i + n).toNat else none
def fM {α:Type} (xs:List α) (i:Int):Option α:=(jx xs.length i).bind fun j=>xs[j]?
theorem BP {n:Nat} {i:Int} {j:Nat} (h:jx n i=some j):seqIndex? i n=some j/\j < n/\-(n:Int)<=i/\i < n:=by
 unfold jx at h
 by_cases h0:0<=i
 ·rw [if_pos h0] at h
  by_cases h1:i < n
  ·rw [if_pos h1] at h
   have e:i.toNat=j:=Option.some.inj h
   exact ⟨by rw [seqIndex_of h0 h1,e],by omega,by omega,h1⟩
  ·rw [if_neg h1] at h;cases h
 ·rw [if_neg h0] at h
  by_cases h1:-(n:Int)<=i
  ·rw [if_pos h1] at h
   have e:(i + n).toNat=j:=Option.some.inj h
   exact ⟨by rw [seqIndex_neg (by omega) h1,e],by omega,h1,by omega⟩
  ·rw [if_neg h1] at h;cases h
theorem BQ {α:Type} {xs:List α} {i:Int} {v:α} (h:fM xs i=some v):∃ j,seqIndex? i xs.length=some j/\xs[j]?=some v/\j < xs.length/\-(xs.length:Int)<=i/\i < xs.length:=by
 unfold fM at h
 cases e:jx xs.length i with
 | none=>rw [e] at h;cases h
 | some j =>
  rw [e] at h
  obtain ⟨h1,h2,h3,h4⟩:=BP e
  exact ⟨j,h1,h,h2,h3,h4⟩
theorem BR {α:Type} {xs:List α} {j:Nat} {v:α} (h:xs[j]?=some v):fM xs (j:Int)=some v:=by
 have hj:j < xs.length:=(List.getElem?_eq_some_iff.mp h).1
 have e:jx xs.length (j:Int)=some j:=by
  unfold jx
  rw [if_pos (by omega),if_pos (by omega)];simp
 unfold fM;rw [e];exact h
def nq (b:Expr):Prop:=∀ o i,subscripted b false o i=operate [o,i] (getItem o i)
def uJ (X:Cx) (r:R2):Prop :=
 ∀ (value slice:Expr) (pins:List (Addr×Obj)) (s:Shared) (σ:St) (H:Hp) (x y:V) (v u:Value) (Q:VK),Inv X pins σ H s->RelV x v->RelV y u->r x y H Q ->
  subscripted slice false v u=operate [v,u] (getItem v u)->wpAny (model X.prog X.w) X.A (subscriptTail value slice v u) (EP X pins σ Q) X.xe s
def Ey (X:Cx) (id:String) (r:V->List V->Hp->VK->Prop):Prop :=
 ∀ (pins:List (Addr×Obj)) (s:Shared) (σ:St) (H:Hp) (x:V) (xs:List V) (v:Value) (us:List Value) (Q:VK),Inv X pins σ H s->RelV x v->Vals xs us->r x xs H Q ->
  wpAny (model X.prog X.w) X.A (call (.builtin id) (v :: us)) (EP X pins σ Q) X.xe s
section
variable {X:Cx} {a b:Expr} {ta tb:TE} {pos:Pos}
theorem bR {r:R2} (hr:uJ X r) (ha:PE X a ta) (hb:PE X b tb) (hs:nq b):PE X (.Subscript a b pos) (uz r ta tb):=by
 intro pins s σ H Q I h
 exact Subscript_ (p9 ha hb I h fun v u s2 x y H2 I2 rx ry q=>hr a b pins s2 σ H2 x y v u Q I2 rx ry q (hs _ _))
def qi (K:PySem.W.Frag):R2:=fun x y H Q=>∃ p xs i v,x=.ref p/\y=.int i/\fI K H p xs/\fM xs i=some v/\Q v H
def qj (K:PySem.W.Frag):R2:=fun x y H Q=>∃ p xs i v,x=.ref p/\y=.int i/\dF K H p xs/\fM xs i=some v/\Q v H
theorem j6:uJ X (qi X.K):=by
 intro value slice pins s σ H x y v u Q I rx ry h hs
 obtain ⟨p,xs,i,z,rfl,rfl,hq,he,q⟩:=h
 cases rx
 obtain ⟨t,rfl⟩:=ry
 obtain ⟨its,r,pl,hz⟩:=I.list hq
 obtain ⟨j,h1,h2,h3,h4,h5⟩:=BQ he
 obtain ⟨w,ew,rw'⟩:=r.get h2
 have hl:=r.length
 have hn:=ik
 have fin:EP X pins σ Q w s:=⟨z,H,I,rw',q⟩
 by_cases h0:0<=i
 ·have hj:i.toNat=j:=by
   rw [seqIndex_of h0 h5] at h1
   exact Option.some.inj h1
  exact item_listR pl.isList h0 (by omega) (by rw [hj];simpa using ew) fin hs
 ·have hj:(i + (its.toArray.size:Int)).toNat=j:=by
   rw [seqIndex_neg (by omega) h4] at h1
   rw [List.size_toArray,<- hl]
   exact Option.some.inj h1
  exact subscriptTail_builtinR (x:=w) pl.isList.typeIs slot_list_getitem.lookup
   (wpAny_getItem_list_neg (Q:=fun r s'=>r=w/\EP X pins σ Q r s') pl.isList (by omega) (by rw [List.size_toArray] <;> omega) (by omega) (by rw [hj];simpa using ew) ⟨rfl,fin⟩) hs
theorem cT:uJ X (qj X.K):=by
 intro value slice pins s σ H x y v u Q I rx ry h hs
 obtain ⟨p,xs,i,z,rfl,rfl,hq,he,q⟩:=h
 cases rx
 obtain ⟨t,rfl⟩:=ry
 obtain ⟨its,r,pl,hz⟩:=I.tuple hq
 obtain ⟨j,h1,h2,h3,h4,h5⟩:=BQ he
 obtain ⟨w,ew,rw'⟩:=r.get h2
 have hl:=r.length
 have hn:=ik
 have fin:EP X pins σ Q w s:=⟨z,H,I,rw',q⟩
 exact subscriptTail_builtinR (x:=w) pl.typeIs slot_tuple_getitem.lookup
  (getItem_tuple (j:=j) (Q:=fun r s'=>r=w/\EP X pins σ Q r s') pl (by omega) (by omega) (by rw [List.size_toArray,<- hl];exact h1) (by simpa using ew) ⟨rfl,fin⟩) hs
theorem Ez (its:List Value) (n j:Nat) (u:Value):Obj.mapSeq (·.setIfInBounds j u) { cls:=.type "list",data:=.seq its.toArray n }={ cls:=.type "list",data:=.seq (its.set j u).toArray n }:=by
 simp [Obj.mapSeq]
theorem Inv.lst {pins:List (Addr×Obj)} {σ:St} {H:Hp} {s:Shared} {p:Addr} {xs:List V} (I:Inv X pins σ H s) (h:H p=some (.lst xs)) :
  ∃ (its:List Value) (n:Nat),Vals xs its/\s.heap.get? p=some { cls:=.type "list",data:=.seq its.toArray n }/\xs.length<=sizeLine:=by
 obtain ⟨z,its,n,r,e⟩:=I.hok p _ h
 exact ⟨its,n,r,e,z⟩
theorem Inv.qk {pins:List (Addr×Obj)} {σ:St} {H:Hp} {s:Shared} {p:Addr} {xs ys:List V} {its its':List Value} {n n':Nat} {f:Obj->Obj} (I:Inv X pins σ H s) (h:H p=some (.lst xs))
  (ho:s.heap.get? p=some { cls:=.type "list",data:=.seq its.toArray n }) (hf:f { cls:=.type "list",data:=.seq its.toArray n }={ cls:=.type "list",data:=.seq its'.toArray n' }) (r:Vals ys its') (hz:ys.length<=sizeLine) (t:Nat) :
  Inv X pins σ (upd H p (.lst ys)) { s with heap:=s.heap.update p f,toks:=t }:=by
 have e:(s.heap.update p f).get? p=some { cls:=.type "list",data:=.seq its'.toArray n' }:=by
  rw [Heap.get?_update_self f ho (by rw [hf] <;> rfl),hf]
 refine I.write (x:=p) (e:=p) (by rw [h];trivial) (.inl rfl) (fun b u hb q=>(Heap.get?_update_other _ _ (Ne.symm hb)).trans q) ⟨_,e⟩ ?_
 exact ⟨hz,its',n',r,e⟩
def oI:V->V->V->Hp->(Hp->Prop)->Prop:=fun o i v H Q=>∃ p xs k j,o=.ref p/\i=.int k/\H p=some (.lst xs)/\jx xs.length k=some j/\Q (upd H p (.lst (xs.set j v)))
theorem BS:uu X oI:=by
 intro pins s σ H o i v ov iv u Q I ro ri rv h
 obtain ⟨p,xs,k,j,rfl,rfl,hp,hj,q⟩:=h
 cases ro
 obtain ⟨t,rfl⟩:=ri
 obtain ⟨its,n,r,ho,hz⟩:=I.lst hp
 obtain ⟨h1,h2,h3,h4⟩:=BP hj
 have hl:=r.length
 have hn:=ik
 have I':Inv X pins σ (upd H p (.lst (xs.set j v))) { s with heap:=s.heap.update p (Obj.mapSeq (·.setIfInBounds j u)) } :=
  I.qk hp ho (Ez its n j u) (r.set rv j) (by rw [List.length_set];exact hz) s.toks
 by_cases h0:0<=k
 ·have hk:k.toNat=j:=by
   rw [seqIndex_of h0 h4] at h1
   exact Option.some.inj h1
  exact PySem.W.ki_setAt ho h0 (by omega) (by rw [List.size_toArray,<- hl];exact h4) (by rw [hk];exact ⟨_,I',q⟩)
 ·have hk:(k + (its.toArray.size:Int)).toNat=j:=by
   rw [seqIndex_neg (by omega) h3] at h1
   rw [List.size_toArray,<- hl]
   exact Option.some.inj h1
  exact PySem.W.ki_setBack ho (by omega) (by rw [List.size_toArray,<- hl];exact h3) (by omega) (by rw [hk];exact ⟨_,I',q⟩)
theorem EA (lo hi:Option Int) (n:Nat):(sliceBounds lo hi none n).1=((HT.bY n 0 lo:Nat):Int)/\(sliceBounds lo hi none n).2.1=((HT.bY n n hi:Nat):Int)/\(sliceBounds lo hi none n).2.2=1:=by
 refine ⟨?_,?_,rfl⟩
 ·cases lo with
  | none=>simp [sliceBounds,HT.bY]
  | some i =>
   simp only [sliceBounds,HT.bY,Option.getD_none,show (1:Int) > 0 by decide,if_true]
   by_cases h:i < 0
   ·simp only [h,if_true] <;> omega
   ·simp only [h,if_false] <;> omega
 ·cases hi with
  | none=>simp [sliceBounds,HT.bY]
  | some i =>
   simp only [sliceBounds,HT.bY,Option.getD_none,show (1:Int) > 0 by decide,if_true]
   by_cases h:i < 0
   ·simp only [h,if_true] <;> omega
   ·simp only [h,if_false] <;> omega
theorem EB (its:List Value) (lo hi:Option Int):slicePick its.toArray lo hi none=((its.drop (HT.bY its.length 0 lo)).take (HT.bY its.length its.length hi - HT.bY its.length 0 lo)).toArray:=by
 obtain ⟨h1,h2,h3⟩:=EA lo hi its.toArray.size
 unfold slicePick
 rw [h1,h2,h3]
 simp only [sliceRange_one,pick_run,List.size_toArray] <;> rfl
def uK (K:PySem.W.Frag):V->Option Int->Option Int->Hp->VK->Prop:=fun x lo hi H Q=>∃ a xs,x=.ref a/\fI K H a xs/\∀ p,H p=none->Q (.ref p) (upd H p (.lst (ja xs lo hi)))
theorem EC:xD X (uK X.K):=by
 intro pins s σ H x v vl vu lo hi sl Q I rx hs pl pu h
 obtain ⟨a,xs,rfl,hx,q⟩:=h
 cases rx
 obtain ⟨its,r,ht,hz⟩:=I.list hx
 have hlen:=r.length
 refine ⟨"list",_,slot_list_getitem.lookup,ht.isList.typeIs,?_⟩
 refine wpAny_getItem_list_slice ht.isList hs pl pu .none (by simp) ?_ (by rw [List.size_toArray] <;> omega)
 rw [EB,<- hlen]
 refine ⟨.ref s.heap.objs.size,_,I.laid (t':=s.toks) (o:=.lst (ja xs lo hi)) (fun b ob q=>Heap.get?_push_of_some _ q) (Nat.le_refl _) ?_,rfl,q _ (I.hok.fresh (Nat.le_refl _))⟩
 exact ⟨Nat.le_trans (BO xs lo hi) hz,_,0,(r.drop (HT.bY xs.length 0 lo)).take (HT.bY xs.length xs.length hi - HT.bY xs.length 0 lo),Heap.get?_push_size _ rfl⟩
theorem nt:fB X (.builtin "len") (fun xs H Q=>∃ p ys,xs=[.ref p]/\(fI X.K H p ys\/dF X.K H p ys)/\Q (.int ys.length) H):=by
 intro pins s σ H xs us Q I r h
 obtain ⟨p,ys,rfl,hq,q⟩:=h
 obtain ⟨u,rfl,rx⟩:=vals1 r
 cases rx
 have hn:=ik
 rcases hq with hq | hq
 ·obtain ⟨its,r',pl,hz⟩:=I.list hq
  have hlen:=r'.length
  exact Calls.call_len_list pl.isList (by simp only [List.size_toArray] <;> omega) ⟨.int ys.length,H,I.tok _,⟨s.toks + 1,by rw [List.size_toArray,hlen]⟩,q⟩
 ·obtain ⟨its,r',pl,hz⟩:=I.tuple hq
  have hlen:=r'.length
  exact len_tuple pl (by simp only [List.size_toArray] <;> omega) ⟨.int ys.length,H,I.tok _,⟨s.toks + 1,by rw [List.size_toArray,hlen]⟩,q⟩
theorem ED:fB X (.type "list") (fun xs H Q=>∃ p ys,xs=[.ref p]/\(fI X.K H p ys\/dF X.K H p ys)/\∀ l,H l=none->Q (.ref l) (upd H l (.lst ys))):=by
 intro pins s σ H xs us Q I r h
 obtain ⟨p,ys,rfl,hq,q⟩:=h
 obtain ⟨u,rfl,rx⟩:=vals1 r
 cases rx
 have fin:∀ (its:List Value),Vals ys its->ys.length<=sizeLine->∀ (h':Heap) (c':Nat),(∀ b o',s.heap.get? b=some o'->h'.get? b=some o') ->
   h'.get? s.heap.objs.size=some { cls:=.type "list",dict:=none,data:=.seq its.toArray c',slots:=#[] }->EP X pins σ Q (.ref s.heap.objs.size) { s with heap:=h' }:=fun its r' hz h' c' kp e =>
  ⟨.ref s.heap.objs.size,_,I.laid (t':=s.toks) kp (Nat.le_refl _) (show bH X.prog X.w _ h' _ (.lst ys) from ⟨hz,its,c',r',e⟩),rfl,q _ (I.hok.fresh (Nat.le_refl _))⟩
 rcases hq with hq | hq
 ·obtain ⟨its,r',pl,hz⟩:=I.list hq
  have hlen:=r'.length
  obtain ⟨o,ho,hc,n,hd⟩:=pl.isList
  exact call_list_seq p (.inl rfl) ho hc hd (fun h' c' kp e=>fin its r' hz h' c' kp e) (by simp only [List.size_toArray] <;> omega)
 ·obtain ⟨its,r',pl,hz⟩:=I.tuple hq
  have hlen:=r'.length
  obtain ⟨o,ho,hc,n,hd⟩:=pl
  exact call_list_seq p (.inr rfl) ho hc hd (fun h' c' kp e=>fin its r' hz h' c' kp e) (by simp only [List.size_toArray] <;> omega)
theorem zD:fB X (.type "tuple") (fun xs H Q=>∃ p ys,xs=[.ref p]/\((fI X.K H p ys/\∀ l,H l=none->Q (.ref l) (upd H l (.tup ys)))\/(dF X.K H p ys/\Q (.ref p) H))):=by
 intro pins s σ H xs us Q I r h
 obtain ⟨p,ys,rfl,h⟩:=h
 obtain ⟨u,rfl,rx⟩:=vals1 r
 cases rx
 rcases h with ⟨hq,q⟩ | ⟨hq,q⟩
 ·obtain ⟨its,r',pl,hz⟩:=I.list hq
  have hlen:=r'.length
  refine call_tuple_list pl.isList (fun h' kp=>?_) (by simp only [List.size_toArray] <;> omega)
  have I1:Inv X pins σ H { s with heap:=h' }:=I.kept (t':=s.toks) kp
  have I2:Inv X pins σ (upd H h'.objs.size (.tup ys)) { s with heap:=h'.push { cls:=.type "tuple",data:=.seq its.toArray } } :=
   I1.laid (t':=s.toks) (fun b o e=>Heap.get?_push_of_some _ e) (Nat.le_refl _) (show bH X.prog X.w _ _ _ (.tup ys) from ⟨hz,its,r',i3.new _ _⟩)
  exact ⟨.ref h'.objs.size,_,I2,rfl,q _ (I1.hok.fresh (Nat.le_refl _))⟩
 ·obtain ⟨its,r',pl,hz⟩:=I.tuple hq
  exact call_tuple_same pl ⟨.ref p,H,I,rfl,q⟩
def zE (K:PySem.W.Frag) (T:String) (x:V) (H:Hp):Prop:=match x with
 | .str _=>T="str"
 | .int _=>T="int"
 | .ref p=>(T="list" /\ ∃ xs,fI K H p xs)\/(T="tuple" /\ ∃ xs,dF K H p xs) \/
   (T="dict" /\ ((∃ kvs,H p=some (.dK kvs))\/∃ kvs,H p=some (.dT kvs)))\/(T="set" /\ ∃ S n,H p=some (.set S n))
 | _=>False
theorem ql {pins:List (Addr×Obj)} {σ:St} {H:Hp} {s:Shared} {T:String} {x:V} {v:Value} (I:Inv X pins σ H s) (r:RelV x v) (ty:zE X.K T x H) :
  s.TypeIs v T/\∀ a,v=.ref a->∃ ob,s.heap.get? a=some ob/\ob.dict=none:=by
 cases x with
 | str z =>
  obtain ⟨t,rfl⟩:=r
  cases (show T="str" from ty)
  exact ⟨typeIs_str s z t,fun _ e=>nomatch e⟩
 | int i =>
  obtain ⟨t,rfl⟩:=r
  cases (show T="int" from ty)
  exact ⟨typeIs_int s i t,fun _ e=>nomatch e⟩
 | ref p =>
  cases r
  rcases ty with ⟨rfl,xs,hq⟩ | ⟨rfl,xs,hq⟩ | ⟨rfl,hk⟩ | ⟨rfl,S,n,hk⟩
  ·obtain ⟨its,_,pl,_⟩:=I.list hq
   refine ⟨pl.isList.typeIs,fun a e=>?_⟩
   cases e
   obtain ⟨o,n,e,c,hd,_⟩:=pl
   exact ⟨o,e,hd⟩
  ·obtain ⟨its,_,⟨o,e,c,d,_⟩,_⟩:=I.kB hq
   refine ⟨⟨o,e,c⟩,fun a e2=>?_⟩
   cases e2
   exact ⟨o,e,d⟩
  ·have z:∃ o,s.heap.get? p=some o/\o.ExactDict:=by
    rcases hk with ⟨kvs,hk⟩ | ⟨kvs,hk⟩
    ·obtain ⟨_,_,_,_,o,_,_,e,ex,_⟩:=I.hok p _ hk
     exact ⟨o,e,ex⟩
    ·obtain ⟨_,_,_,_,o,_,_,e,ex,_⟩:=I.hok p _ hk
     exact ⟨o,e,ex⟩
   obtain ⟨o,e,ex⟩:=z
   refine ⟨⟨o,e,ex.1⟩,fun a e2=>?_⟩
   cases e2
   exact ⟨o,e,ex.2.1⟩
  ·obtain ⟨o,_,_,_,e,ex,_⟩:=I.hok p _ hk
   refine ⟨⟨o,e,ex.1⟩,fun a e2=>?_⟩
   cases e2
   exact ⟨o,e,ex.2.1⟩
 | _=>exact False.elim ty
def BU (K:PySem.W.Frag) (T:String) (r:V->List V->Hp->VK->Prop) (to:TE) (t:TA):TE:=fun σ H Q=>to σ H fun x H1=>zE K T x H1/\t σ H1 fun xs H2=>r x xs H2 Q
variable {o e:Expr} {es:List Expr} {to:TE} {t:TA} {name:Str} {apos cpos:Pos} {T id:String} {r:V->List V->Hp->VK->Prop}
theorem oJ (pa:PlainAttrs T) (slot:Slot T name id) (hty:typeOf (.builtin id)=pure (.type "method_descriptor")) (hm:Ey X id r) (ho:PE X o to) (ha:PA X (e :: es) t)
  (hbase:attributeBase o name X.env (eval o X.env)=eval o X.env:=by rfl)
  (hfew:((backTo cpos (starEach (e :: es) X.env)).all (fun x=>!x.1) && (backToKw cpos (keywordEach [] X.env)).all (fun x=>x.1.isSome)
   && decide ((e :: es).length + ([]:List Keyword).length + (if ([]:List Keyword).isEmpty then 0 else 1) < 30))=true:=by rfl)
  (hline:(apos.endLine == cpos.line)=true:=by rfl) (hs:starEach (e :: es) X.env=(false,eval e X.env) :: starEach es X.env:=by rfl) (hplain:(backTo cpos (starEach es X.env)).any (·.1)=false:=by rfl) :
  PE X (.Call (.Attribute o name apos) (e :: es) [] cpos) (BU X.K T r to t):=by
 intro pins s σ H Q I h
 refine wpAny_Call_method_late hbase hfew hline rfl (bW (ho pins s σ H _ I h) fun v s1 ⟨x,H1,I1,r1,ty,q1⟩=>?_)
 obtain ⟨h1,h2⟩:=ql I1 r1 ty
 refine ⟨T,id,pa,slot,hty,h1,h2,?_⟩
 have hA:=ha cpos pins s1 σ H1 _ I1 q1
 rw [hs] at hA ⊢
 refine Calls.callWith_builtin (by show (false || (backTo cpos (starEach es X.env)).any (·.1))=false;rw [hplain] <;> rfl) (Calls.evalArgs_plain ?_)
 exact bW hA fun us s2 ⟨vs,H2,I2,r2,q2⟩=>hm pins s2 σ H2 x vs v us Q I2 r1 r2 q2
end
end L2
namespace L2
open PySem PySem.Spec PyProof.Rows
def EE (X:Cx) (id:String) (r:V->List V->Hp->VK->Prop):Prop :=
 ∀ (pins:List (Addr×Obj)) (s:Shared) (σ:St) (H:Hp) (x:V) (xs:List V) (v:Value) (us:List Value) (Q:VK),Inv X pins σ H s->RelV x v->Vals xs us->r x xs H Q ->
  wpAny (model X.prog X.w) X.A (call (.builtin id) (v :: us)) (EP X pins σ Q) X.xe s
theorem Vals.one:∀ {x:V} {us:List Value},Vals [x] us->∃ u,us=[u]/\RelV x u
 | _,_,.cons r .nil=>⟨_,rfl,r⟩
theorem Vals.reverse {xs:List V} {us:List Value} (h:Vals xs us):Vals xs.reverse us.reverse:=by
 induction h with
 | nil=>exact .nil
 | cons r t ih=>rw [List.reverse_cons,List.reverse_cons];exact Vals.append ih (.cons r .nil)
section
variable {X:Cx} {pins:List (Addr×Obj)} {σ:St} {H:Hp} {s:Shared} {l b:Addr} {xs ys zs:List V}
theorem Inv.zF {its its':List Value} {n:Nat} {f:Array Value->Array Value} {t':Nat} (I:Inv X pins σ H s) (hH:H l=some (.lst xs))
  (e:s.heap.get? l=some { cls:=.type "list",data:=.seq its.toArray n }) (hf:f its.toArray=its'.toArray) (hv:Vals ys its') (hz:ys.length<=sizeLine) :
  Inv X pins σ (upd H l (.lst ys)) { s with heap:=s.heap.update l (Obj.mapSeq f),toks:=t' }:=by
 have q:=PySem.IsL.update e f
 rw [hf] at q
 refine I.write (x:=l) (e:=l) (by rw [hH];exact trivial) (.inl rfl) (fun b' u hb hu=>(Heap.get?_update_other s.heap (Obj.mapSeq f) (Ne.symm hb)).trans hu) ⟨_,q⟩ ?_
 exact ⟨hz,its',_,hv,q⟩
theorem Inv.zG {its:List Value} {t':Nat} (I:Inv X pins σ H s) (hv:Vals ys its) (hz:ys.length<=sizeLine) :
  Inv X pins σ (upd H s.heap.objs.size (.lst ys)) { s with heap:=s.heap.push { cls:=.type "list",data:=.seq its.toArray },toks:=t' } :=
 I.laid (fun _ _ q=>Heap.get?_push_of_some _ q) (Nat.le_refl _) ⟨hz,its,0,hv,Heap.get?_push_size _ rfl⟩
theorem Inv.fresh (I:Inv X pins σ H s):H s.heap.objs.size=none:=I.hok.fresh (Nat.le_refl _)
theorem Inv.qm (I:Inv X pins σ H s) (hH:H l=some (.lst xs)):xs.length<=sizeLine/\∃ (its:List Value) (n:Nat),Vals xs its/\xs.length=its.length/\s.heap.get? l=some { cls:=.type "list",data:=.seq its.toArray n }:=by
 obtain ⟨z,its,n,r,e⟩:=I.hok l _ hH
 exact ⟨z,its,n,r,r.length,e⟩
end
section
variable {X:Cx}
def kS:V->List V->Hp->VK->Prop:=fun x vs H Q=>∃ l xs y,x=.ref l/\vs=[y]/\H l=some (.lst xs)/\xs.length < sizeLine/\Q .non (upd H l (.lst (xs ++ [y])))
theorem BV:EE X "list.append" kS:=by
 intro pins s σ H x vs v us Q I rx rv h
 obtain ⟨l,xs,y,rfl,rfl,hH,hz,q⟩:=h
 cases rx
 obtain ⟨u,rfl,ru⟩:=rv.one
 obtain ⟨z,its,n,r,hl,e⟩:=I.qm hH
 refine call_meets F.slot_list_append ⟨_,e,rfl⟩ F.entry_list_append (F.args_list_append_2 _ _) (PySem.list_append l its.toArray n u (by rw [List.size_toArray];omega)) ⟨e,?_⟩
 refine ⟨.non,_,I.zF (its':=its ++ [u]) hH e (by simp) (r.append (.cons ru .nil)) ?_,rfl,q⟩
 rw [List.length_append,List.length_singleton]
 omega
def uL:R2:=fun x y H Q=>∃ l b xs zs,x=.ref l/\y=.ref b/\H l=some (.lst xs)/\H b=some (.lst zs)/\xs.length + zs.length<=sizeLine/\∀ p,H p=none->Q (.ref p) (upd H p (.lst (xs ++ zs)))
theorem BW:gI X (binaryOp .Add) uL:=by
 intro pins s σ H x y v u Q I rx ry h
 obtain ⟨l,b,xs,zs,rfl,rfl,hH,hB,hz,q⟩:=h
 cases rx
 cases ry
 obtain ⟨z,its,n,r,hl,e⟩:=I.qm hH
 obtain ⟨z2,its2,n2,r2,hl2,e2⟩:=I.qm hB
 refine PySem.P.add_list e e2 ?_ (by rw [List.size_toArray,List.size_toArray];omega)
 have ea:its.toArray ++ its2.toArray=(its ++ its2).toArray:=by simp
 rw [ea]
 exact ⟨.ref _,_,I.zG (t':=s.toks) (r.append r2) (by rw [List.length_append];omega),rfl,q _ I.fresh⟩
end
section
variable {prog:Program} {w:World} {A:Around} {E:Value->Shared->Prop} {s:Shared}
end
section
variable {X:Cx}
end
end L2
namespace L2
open PySem PySem.Spec PyProof.Rows
section
variable {κ:Type} [DecidableEq κ]
end
section
variable {P:Program} {w:World} {H:Hp} {h:Heap} {a:Addr}
end
section
variable {X:Cx} {pins:List (Addr×Obj)} {σ:St} {H:Hp} {s:Shared} {a:Addr} {y v:V} {u r:Value} {o:Option V} {A:Around} {E:Value->Shared->Prop}
end
section
variable {X:Cx} {pins:List (Addr×Obj)} {σ:St} {H:Hp} {s:Shared} {a:Addr} {kvs:List (Key×V)} {k:Key} {u:Value} {A:Around} {E:Value->Shared->Prop}
end
section
variable {X:Cx} {o i e value:Expr} {pos pos' tpos:Pos} {td ty tv:TE}
end
section
variable {X:Cx} {pos:Pos}
end
section
variable {X:Cx} {pins:List (Addr×Obj)} {σ:St} {H:Hp} {s:Shared} {a:Addr} {y d:V} {u r:Value} {o:Option V} {A:Around} {E:Value->Shared->Prop}
end
section
variable {X:Cx} {o e f:Expr} {apos cpos:Pos} {td ty tx:TE}
end
section
variable {X:Cx} {pins:List (Addr×Obj)} {σ:St} {H:Hp} {s:Shared} {a:Addr} {kvs:List (Key×V)} {A:Around} {E:Value->Shared->Prop}
end
section
variable {X:Cx} {pins:List (Addr×Obj)} {σ:St} {H:Hp} {s:Shared} {a:Addr} {y:V} {u:Value} {A:Around} {E:Value->Shared->Prop}
end
end L2
namespace BX
open PySem PySem.W PySem.Calls PyProof.Rows
theorem EF {P:Params} {h:Heap}:∀ (ns:List Int) (vs:List Value),WellAll P h vs (ns.map WData.int)->IntsAre vs ns:=by
 intro ns
 induction ns with
 | nil =>
  intro vs w
  rw [List.map_nil] at w
  cases w
  exact .nil
 | cons n ns ih =>
  intro vs w
  rw [List.map_cons] at w
  cases w with
  | cons a b =>
   cases a
   exact .cons _ _ (ih _ b)
theorem EG {l:OpenLaw} {n:Nat} (hn:l.most=some n) {P:Params} {h:Heap} {args:List WData} {vals:List Value}
  (hpre:l.row.toRowW.claim.pre args=true) (hwl:WellAll P h vals args) :
  ∃ a vs ns,vals=[Value.ref a]/\args=[WData.list (ns.map WData.int)]/\h.get? a=some { cls:=.type "list",data:=.seq vs.toArray }/\IntsAre vs ns/\ns.length<=n:=by
 have hsh:WShape.hasAll [] args [.list .int]=true:=(pre_splitW hpre).1
 have hc:l.pre.holds [] { args:=args }=true:=(pre_splitW hpre).2
 obtain ⟨d,r,rfl,h1,h2⟩:=hasAllW_cons hsh
 obtain rfl:=hasAllW_nil h2
 obtain ⟨xs,rfl,h3⟩:=hasW_list h1
 obtain ⟨ns,rfl⟩:=items_int h3
 have hlen:ns.length<=n:=by
  unfold OpenLaw.pre at hc
  have h4:(WTm.not (.lt (.lit (.int (n:Int))) (.len (.arg 0)))).holds [] { args:=[.list (ns.map .int)] }=true:=by
   have h4:=(holds_andW hc).1
   rw [hn] at h4
   exact h4
  have h5:=condW_of h4 (w_not (w_lt w_lit (w_len_list (w_arg rfl))))
  rw [List.length_map] at h5
  refine Nat.le_of_not_lt fun q=>?_
  have q':(n:Int) < ((ns.length:Nat):Int):=by omega
  first
   | (rw [decide_eq_true q'] at h5;exact absurd h5 (by decide))
   | (simp at h5;omega)
 cases hwl with
 | cons w1 w2 =>
  cases w2
  cases w1 with
  | list ho hall=>exact ⟨_,_,ns,rfl,rfl,ho,EF ns _ hall,hlen⟩
theorem EH (l:OpenLaw) (args:List WData):l.row.toRowW.claim.post args (.bool true) args=true :=
 postW_of (r:=l.row.toRowW) (X:=(true == true))
  (show WShape.has [] (.bool true) .bool=true by first | rfl | decide | simp [WShape.has,WShape.arms,WShape.armsAll])
  (show (WTm.eq .res (.lit (.bool true))).value [] { args:=args,res:=some (.bool true),after:=args }=some (.bool (true == true)) from w_eq_bool (w_res rfl) w_lit) rfl
theorem EI {l:OpenLaw} {n:Nat} {q:Program} {loose:List Str} {XP:(Str->Option Value)->Heap->Prop} {YP:World->Heap->Prop} {d:DefRec}
  (hn:l.most=some n) (hdf:d.params.defaults=[])
  (call:∀ (w:World) (s₀ s₁:Shared) (mg mb:Str->Option Value) (fa:Addr) (o:Obj) (pm cd doc:Value) (a:Addr) (vs:List Value) (ns:List Int),
   Ground q loose [] XP w s₀ mg mb s₁.heap->YP w s₁.heap ->
   s₁.heap.get? fa=some o->o.data=.func (docDef d.name d.params d.body d.scope pm cd doc)->s₁.heap.CodeRec cd d.name->mg d.name=some (.ref fa) ->
   s₁.heap.get? a=some { cls:=.type "list",data:=.seq vs.toArray }->IntsAre vs ns->ns.length<=n->s₁.gens=#[] ->
   codeAny (model l.prog w) callerA (.call (.ref fa) ⟨[.ref a],[]⟩) (fun r s'=>r=.ok (.ret (.bool true))/\OldK s₁.heap s'.heap/\s'.os=s₁.os/\AllBare s'.gens) s₁) :
  WalkO q loose XP YP l.row.toRowW d [] (fun f vs=>PySem.call f vs):=by
 intro w s₀ s₁ mg mb G Y fa o pm cd doc dV kV ho hd hcd hD hmg hg args vals as hpre hlay hrd hwl hlo
 obtain rfl:dV=.none:=Dflts.none hD hdf
 obtain rfl:kV=.none:=Dflts.noKw hD
 obtain ⟨a,vs,ns,rfl,rfl,hobj,hints,hlen⟩:=EG hn hpre hwl
 refine enter_call (codeAny_mono (call w s₀ s₁ mg mb fa o pm cd doc a vs ns G Y ho (fd_plain hd) hcd hmg hobj hints hlen hg) fun r s' hq=>?_)
 obtain ⟨rfl,h2,h3,h4⟩:=hq
 exact ⟨.inl ⟨.bool true,.bool true,[],rfl,fun _=>rfl,.bool true,EH l _,fun _=>⟨List.Pairwise.nil,fun _ hm=>(nomatch hm)⟩⟩,h2,h3,h4⟩
section
variable {prog:Program} {w:World} {A:Around} {E:Value->Shared->Prop} {s:Shared} {K:Frag}
end
end BX
namespace L2
open PySem PySem.Spec PyProof.Rows
theorem BZ:∀ {vs:List Value} {ns:List Int},IntsAre vs ns->Vals (ns.map V.int) vs
 | _,_,.nil=>.nil
 | _,_,.cons n t h=>.cons ⟨t,rfl⟩ (BZ h)
def Only (H:Hp):Prop:=∀ b,H b=none\/∃ o xs,H b=some (.iX o (.lst xs))
theorem EJ {P:Program} {w:World} {K:PySem.W.Frag} {mg mb:Str->Option Value} {CX:kP} {k:Nat} {fa a:Addr} {fd:FuncData} {x:Str} {sp:Sp} {s₁:Shared} {vs:List Value} {ns:List Int}
  (KX:K.In s₁.heap) (hns:s₁.heap.Ns mainGlobals mg) (hb:s₁.heap.Ns builtinsNs mb) (EK:∀ x:Str,x≠"__name__" -> mb x=bootBuiltins x) (hlim:s₁.heap.NoLimit) (hg:s₁.gens=#[])
  (ha:s₁.heap.get? a=some { cls:=.type "list",data:=.seq vs.toArray }) (hi:IntsAre vs ns) (hl:ns.length<=sizeLine) (hr:eo k callerA)
  (F:∀ base:Heap,K.In base->base.Ns mainGlobals mg->aH P w K mg base CX k fa fd [x] sp) (hbind:∀ (s:Shared) (u:Value),BindsTo s fd ⟨[u],[]⟩ [(x,u)])
  (lO:∀ H:Hp,Only H->fI K H a (ns.map V.int)->sp [.ref a] H (fun v _=>v=.bl true) fun _ _ _=>False)
  (uM:∀ H e s',CX [] H s₁ (fun _ _ _=>False) e s'->False) :
  codeAny (model P w) callerA (.call (.ref fa) ⟨[.ref a],[]⟩) (fun r s'=>r=.ok (.ret (.bool true))/\OldK s₁.heap s'.heap/\s'.os=s₁.os/\AllBare s'.gens) s₁:=by
 have rv:=BZ hi
 have zH:=hi.length
 have core:∀ H:Hp,Only H->fI K H a (ns.map V.int)->gH P w H s₁.heap->(∀ b,H b≠none->b=a)->(H a≠none->K.lookup a=none) ->
   codeAny (model P w) callerA (.call (.ref fa) ⟨[.ref a],[]⟩) (fun r s'=>r=.ok (.ret (.bool true))/\OldK s₁.heap s'.heap/\s'.os=s₁.os/\AllBare s'.gens) s₁:=by
  intro H hO hS hok hA hK
  have kT:∀ {b:Addr} {o:Obj},s₁.heap.get? b=some o->H b=none->(jE s₁.heap H).get? b=some o:=fun e n=>D5 e n
  have uH:∀ {b:Addr} {o:Obj} {es:Array DictEntry} {ep:Nat},s₁.heap.get? b=some o->o.data=.dict es ep->H b=none:=fun {b o es ep} e d=>by
   cases q:H b with
   | none=>rfl
   | some u =>
    have e':b=a:=hA b (by rw [q];simp)
    subst e'
    rw [ha] at e;cases e
    have d':Data.seq vs.toArray _=Data.dict es ep:=d
    cases d'
  have xF:∀ {b:Addr} {m:Str->Option Value},s₁.heap.Ns b m->(jE s₁.heap H).Ns b m:=fun {b m} ⟨o,es,ep,e,d,r⟩=>⟨o,es,ep,kT e (uH e d),d,r⟩
  have B0:K.In (jE s₁.heap H):=fun b o e=>kT (KX b o e) (by
   cases q:H b with
   | none=>rfl
   | some u =>
    have e':b=a:=hA b (by rw [q];simp)
    subst e'
    rw [hK (by rw [q];simp)] at e;cases e)
  have hM:Mod K mg (jE s₁.heap H):=⟨B0,xF hns,⟨mb,xF hb,EK⟩,let ⟨mc,h1,h2⟩:=hlim;⟨mc,xF h1,h2⟩⟩
  have e0:ni P w K mg (jE s₁.heap H) callerA [] s₁ H:=⟨rfl,hM,fun b o e=>D6 e,Nat.le_of_eq (D4 _ _),trivial,fun b hb=>absurd (show b∈([]:List Addr) from hb) (by simp),hok,.of_eq hg⟩
  refine codeAny_mono ((F _ B0 (xF hns)).run callerA [] s₁ H ⟨[.ref a],[]⟩ [.ref a] [.ref a] _ _ hr e0 (hbind s₁ (.ref a)) (.cons rfl .nil) (lO H hO hS)) fun r s' h=>?_
  cases r with
  | error e=>exact (uM H e s' h).elim
  | ok fl =>
   cases fl with
   | next=>exact False.elim h
   | brk=>exact False.elim h
   | cont=>exact False.elim h
   | ret u =>
    obtain ⟨v,H',os,bare,un,zI,r',q⟩:=h
    have q':v=.bl true:=q
    subst q'
    obtain rfl:u=Value.bool true:=r'
    refine ⟨rfl,OldK.of_keep fun b o e=>?_,os,bare⟩
    cases q:H b with
    | none=>exact un.keep b o e q (by intro z;exact absurd (show b∈([]:List Addr) from z) (by simp)) (by simp)
    | some u =>
     rcases hO b with z | ⟨ob,xs,z⟩
     ·rw [q] at z;cases z
     ·have z2:=un.jo b ob _ z
      obtain ⟨e1,_⟩:=hok b _ z
      obtain ⟨e2,_⟩:=zI b _ z2
      rw [e] at e1;cases e1
      exact e2
 cases hk:K.lookup a with
 | some o =>
  have e:=KX a o hk
  rw [ha] at e
  cases e
  refine core (fun _=>none) (fun _=>.inl rfl) (.inr ⟨_,vs.toArray,_,hk,rfl,rfl,rfl,by rw [List.size_toArray,zH];exact hl,by simpa using rv⟩) (fun b u z=>by have z':(none:Option HO)=some u:=z;cases z') (fun b z=>absurd rfl z) fun z=>absurd rfl z
 | none =>
  refine core (fun b=>if b=a then some (.iX { cls:=.type "list",data:=.seq vs.toArray } (.lst (ns.map V.int))) else none) (fun b=>?_) (.inl (.inr ⟨{ cls:=.type "list",data:=.seq vs.toArray },if_pos rfl⟩)) (fun b u z=>?_) (fun b z=>?_) fun _=>hk
  ·by_cases hb:b=a
   ·exact .inr ⟨_,_,if_pos hb⟩
   ·exact .inl (if_neg hb)
  ·by_cases hb:b=a
   ·have z':=(if_pos hb).symm.trans z
    cases z'
    subst hb
    exact ⟨ha,by rw [List.length_map];exact hl,vs,_,rv,ha⟩
   ·have z':=(if_neg hb).symm.trans z
    cases z'
  ·by_cases hb:b=a
   ·exact hb
   ·exact absurd (if_neg hb) z
end L2
namespace L2
open PySem PySem.Spec PyProof.Rows
abbrev KOf {K:PySem.W.Frag} {h:Heap} (_:K.In h):PySem.W.Frag:=K
theorem EL {l:PySem.W.OpenLaw} {n k:Nat} {q:Program} {loose:List Str} {XP:(Str->Option Value)->Heap->Prop} {YP:World->Heap->Prop} {d:DefRec} {K:Params->PySem.W.Frag} {CX:World->kP} {sp:World->Sp} {x:Str}
  (hn:l.most=some n) (hn2:n<=sizeLine) (hdf:d.params.defaults=[]) (hr:eo k callerA)
  (hY:∀ (w:World) (h:Heap),YP w h->(K w.params).In h)
  (F:∀ (w:World) (mg:Str->Option Value) (fa:Addr) (h:Heap),(K w.params).In h->h.Ns mainGlobals mg->mg d.name=some (.ref fa) ->
   ∃ fd:FuncData,(∀ (s:Shared) (u:Value),BindsTo s fd ⟨[u],[]⟩ [(x,u)]) /\
    ∀ base:Heap,(K w.params).In base->base.Ns mainGlobals mg->aH l.prog w (K w.params) mg base (CX w) k fa fd [x] (sp w))
  (lO:∀ (w:World) (H:Hp) (a:Addr) (ns:List Int),ns.length<=n->Only H->fI (K w.params) H a (ns.map V.int)->sp w [.ref a] H (fun v _=>v=.bl true) fun _ _ _=>False)
  (uM:∀ (w:World) (H:Hp) (s:Shared) (e:Value) (s':Shared),CX w [] H s (fun _ _ _=>False) e s'->False) :
  PySem.W.WalkO q loose XP YP l.row.toRowW d [] (fun f vs=>PySem.call f vs):=by
 refine BX.EI hn hdf fun w s₀ s₁ mg mb fa o pm cd doc a vs ns G Y ho hd hcd hmg hobj hints hlen hg=>?_
 have KX:=hY w _ Y
 obtain ⟨fd,hb,hF⟩:=F w mg fa _ KX G.T.g hmg
 exact EJ KX G.T.g G.T.b G.T.builtins G.T.nolimit hg hobj hints (Nat.le_trans hlen hn2) hr hF hb (fun H hO hS=>lO w H a ns hlen hO hS) fun H e s'=>uM w H s₁ e s'
theorem EM {l:PySem.W.OpenLaw} {n k:Nat} {q:Program} {loose:List Str} {XP:(Str->Option Value)->Heap->Prop} {YP:World->Heap->Prop} {d:DefRec} {K:Params->PySem.W.Frag} {CX:kP} {sp:PySem.W.Frag->Sp} {x:Str}
  (hn:l.most=some n) (hn2:n<=sizeLine) (hdf:d.params.defaults=[]) (hr:eo k callerA)
  (hY:∀ (w:World) (h:Heap),YP w h->(K w.params).In h)
  (F:∀ (w:World) (mg:Str->Option Value) (fa:Addr) (h:Heap),(K w.params).In h->h.Ns mainGlobals mg->mg d.name=some (.ref fa) ->
   ∃ fd:FuncData,(∀ (s:Shared) (u:Value),BindsTo s fd ⟨[u],[]⟩ [(x,u)]) /\
    ∀ base:Heap,(K w.params).In base->base.Ns mainGlobals mg->aH l.prog w (K w.params) mg base CX k fa fd [x] (sp (K w.params)))
  (lO:∀ (K:PySem.W.Frag) (H:Hp) (a:Addr) (ns:List Int),ns.length<=n->Only H->fI K H a (ns.map V.int)->sp K [.ref a] H (fun v _=>v=.bl true) fun _ _ _=>False)
  (uM:∀ (H:Hp) (s:Shared) (e:Value) (s':Shared),CX [] H s (fun _ _ _=>False) e s'->False) :
  PySem.W.WalkO q loose XP YP l.row.toRowW d [] (fun f vs=>PySem.call f vs) :=
 EL (K:=K) (CX:=fun _=>CX) (sp:=fun w=>sp (K w.params)) hn hn2 hdf hr hY F (fun w H a ns h1 h2 h3=>lO (K w.params) H a ns h1 h2 h3) fun _ H s e s'=>uM H s e s'
end L2
namespace L2
open PySem PySem.Spec PyProof.Rows
def g9 (s:Stmt):Arguments:=match s with
 | .FunctionDef _ a _ _ _ _ _ _ _ _=>a
 | _=>{ posonlyargs:=[],args:=[],vararg:=none,kwonlyargs:=[],kw_defaults:=[],kwarg:=none,defaults:=[] }
def eN (s:Stmt):List Stmt:=match s with
 | .FunctionDef _ _ b _ _ _ _ _ _ _=>b
 | _=>[]
def ax (s:Stmt):Scope:=match s with
 | .FunctionDef _ _ _ _ _ _ sc _ _ _=>sc
 | _=>{ kind:=.function,names:=[],isGenerator:=false,isCoroutine:=false }
abbrev bZ:kP:=fun _ _ _ _ _ _=>False
abbrev E0:XK:=fun _ _ _=>False
theorem aF {X:Cx}:Passes bZ X E0:=fun _ _ _ _ _ _ _ h=>h.elim
structure sY (K:PySem.W.Frag) (x qual:Str) (st:Stmt) (f:Addr) (fd:FuncData):Prop where
 ex:∃ (oc:Value) (od:Option Addr) (kV doc pm:Value) (an:Option Addr) (cdv ct:Value) (osl:Array (Option Value)),
  fd=PySem.W.fnOf x qual (g9 st) (eN st) (ax st) .none kV doc pm an cdv ct/\K.lookup f=some ⟨oc,od,.func fd,osl⟩/\PySem.W.codeIn K cdv qual=true
 kp:PySem.W.keepIn K (.ref f)=true
section
variable {P:Program} {w:World} {K:PySem.W.Frag} {mg:Str->Option Value} {base:Heap}
theorem sY.ok {x qual:Str} {st:Stmt} {f:Addr} {fd:FuncData} {N ps:List Str} {k:Nat} {sp:Sp} (F:sY K x qual st f fd) (S:aI N ps (ax st)) (len:∀ vs H Q E,sp vs H Q E->vs.length=ps.length)
  (hbody:∀ (cdv:Value) (A:Around) (outer:List Env) (s:Shared) (H:Hp) (vs:List V) (Q:VK) (E:XK),eo k (A.deeper (envOfC qual (ax st) s.heap.objs.size f cdv))->sp vs H Q E ->
   ∃ t,ko (fL bZ P w K mg base N qual (ax st) f cdv A outer s H E).mL (eN st) t/\t { nx:=fun _ H'=>Q .non H',rt:=Q } (start N vs) H):aH P w K mg base bZ (k + 1) f fd ps sp:=by
 obtain ⟨oc,od,kV,doc,pm,an,cdv,ct,osl,rfl,lk,hcd⟩:=F.ex
 refine oG lk hcd S len fun A outer s H vs Q E hr lO=>?_
 obtain ⟨t,h,q⟩:=hbody cdv A outer s H vs Q E hr lO
 exact ⟨t,h.mL,q⟩
theorem qo {x qual:Str} {st:Stmt} {f:Addr} {oc:Value} {od an:Option Addr} {osl:Array (Option Value)} {kV doc pm cdv ct:Value} (l:K.lookup f=some ⟨oc,od,.func (PySem.W.fnOf x qual (g9 st) (eN st) (ax st) .none kV doc pm an cdv ct),osl⟩)
  (c:PySem.W.codeIn K cdv qual=true) (k:PySem.W.keepIn K (.ref f)=true):sY K x qual st f (PySem.W.fnOf x qual (g9 st) (eN st) (ax st) .none kV doc pm an cdv ct):=⟨⟨oc,od,kV,doc,pm,an,cdv,ct,osl,rfl,l,c⟩,k⟩
end
theorem ib {A:Around} {k:Nat} (hr:eo k A):A.units + 1 < cLine:=Nat.lt_of_le_of_lt (Nat.add_le_add_left (by decide:1<=64) _) hr.units
section
variable {X:Cx}
theorem pv (i:Nat) {x:Str} {pos:Pos} (hN:X.N[i]?=some x:=by rfl) (hv:zf X.env.scope x:=by first | exact Or.inl rfl | exact Or.inr (Or.inl rfl) | exact Or.inr (Or.inr rfl)) (hd:(x == ("__debug__" : Str))=false:=by decide)
  (hcd:(x == ("__classdict__" : Str))=false:=by decide):PE X (.Name x pos) (pT i):=pV hN hv hd hcd
end
theorem kD {A B:Prop} (h:B):if false=true then A else B:=by
 rw [if_neg Bool.false_ne_true]
 exact h
theorem kE {A B:Prop} (h:A):if true=true then A else B:=by
 rw [if_pos rfl]
 exact h
def gB (H H':Hp):Prop:=∀ b o,H b=some o->H' b=some o
theorem gB.refl (H:Hp):gB H H:=fun _ _ h=>h
section
variable {X:Cx}
end
section
variable {κ:Type} [DecidableEq κ]
end
end L2
namespace L2
open PySem PySem.Spec PyProof.Rows
theorem nu:bootBuiltins "len" = some (.builtin "len"):=by decide +kernel
theorem xG:bootBuiltins "int" = some (.type "int"):=by decide +kernel
theorem EN:bootBuiltins "bool" = some (.type "bool"):=by decide +kernel
theorem EO:bootBuiltins "list" = some (.type "list"):=by decide +kernel
theorem uN:bootBuiltins "tuple" = some (.type "tuple"):=by decide +kernel
theorem lP:bootBuiltins "isinstance" = some (.builtin "isinstance"):=by decide +kernel
theorem qq:bootBuiltins "max" = some (.builtin "max"):=by decide +kernel
theorem qr:bootBuiltins "all" = some (.builtin "all"):=by decide +kernel
theorem ER:bootBuiltins "reversed" = some (.type "reversed"):=by decide +kernel
structure Kp (ch:List Addr) (H H':Hp):Prop where
 keep:∀ b o,H b=some o->b ∉ ch->H' b=some o
 tup:∀ b xs,H b=some (.tup xs)->H' b=some (.tup xs)
 iX:∀ b o u,H b=some (.iX o u)->H' b=some (.iX o u)
section
variable {ch:List Addr} {H H1 H2:Hp} {a l p:Addr} {o:HO} {xs ys:List V} {K:PySem.W.Frag}
theorem Kp.refl:Kp ch H H:=⟨fun _ _ h _=>h,fun _ _ h=>h,fun _ _ _ h=>h⟩
theorem Kp.of_same (h:gB H H1):Kp ch H H1:=⟨fun b o e _=>h b o e,fun b xs e=>h b _ e,fun b o u e=>h b _ e⟩
theorem Kp.put (h:Kp ch H H1) (ha:a∈ch) (e:H1 a=some (.lst xs)):Kp ch H (upd H1 a o) :=
 ⟨fun b u q n=>by rw [eM (fun z=>n (by rw [z];exact ha))];exact h.keep b u q n,
   fun b u q=>by
  have r:=h.tup b u q
  rw [eM (oj r e (by intro z;cases z))];exact r,
   fun b u v q=>by
  have r:=h.iX b u v q
  rw [eM (oj r e (by intro z;cases z))];exact r⟩
theorem Kp.zJ (h:Kp ch H H1) (q:dF K H a xs):dF K H1 a xs:=by
 rcases q with (q | ⟨o,q⟩) | q
 ·exact .inl (.inl (h.tup a xs q))
 ·exact .inl (.inr ⟨o,h.iX a o _ q⟩)
 ·exact .inr q
def uO (K:PySem.W.Frag) (H:Hp) (a:Addr) (xs:List V):Prop :=
 (∃ o,H a=some (.iX o (.lst xs))) \/
  ∃ (o:Obj) (its:Array Value) (n:Nat),K.lookup a=some o/\o.cls=.type "list" /\ o.dict=none/\o.data=.seq its n/\its.size<=sizeLine/\Vals xs its.toList
theorem uO.sq (h:uO K H a xs):fI K H a xs:=h.elim (fun ⟨o,e⟩=>.inl (.inr ⟨o,e⟩)) .inr
theorem fI.script (hO:Only H) (q:fI K H a xs):uO K H a xs:=by
 rcases q with (q | ⟨o,q⟩) | q
 ·rcases hO a with e | ⟨o,ys,e⟩
  ·rw [e] at q;cases q
  ·rw [e] at q;cases q
 ·exact .inl ⟨o,q⟩
 ·exact .inr q
theorem gB.up (h:H p=none):gB H (upd H p o):=fun b u e=>by rw [eM (pQ e h)];exact e
end
def jG (K:PySem.W.Frag) (H:Hp) (xs:List V) (Q:VK):Prop:=∀ p H',dF K H' p xs->gB H H'->Q (.ref p) H'
section
variable {X:Cx}
theorem jG.new {K:PySem.W.Frag} {H:Hp} {xs:List V} {Q:VK} (h:jG K H xs Q):∀ p,H p=none->Q (.ref p) (upd H p (.tup xs)):=fun p hp=>h p _ (dF.of lM) (gB.up hp)
theorem jG.it {K:PySem.W.Frag} {H:Hp} {xs:List V} {Q:VK} {a:Addr} (h:jG K H xs Q) (q:dF K H a xs):Q (.ref a) H:=h a H q (gB.refl H)
def md (K:PySem.W.Frag):R2:=fun x y H Q=>∃ a b xs ys,x=.ref a/\y=.ref b/\dF K H a xs/\dF K H b ys/\xs.length + ys.length<=sizeLine/\jG K H (xs ++ ys) Q
theorem oK:gI X (binaryOp .Add) (md X.K):=by
 intro pins s σ H x y v u Q I rx ry h
 obtain ⟨a,b,xs,ys,rfl,rfl,ha,hb,hz,q⟩:=h
 by_cases hx:xs=[]
 ·subst hx
  cases rx
  cases ry
  obtain ⟨its,r1,p1,_⟩:=I.tuple ha
  obtain ⟨its2,r2,p2,_⟩:=I.tuple hb
  have e:its=[]:=r1.g8.mpr rfl
  subst e
  obtain ⟨⟨cls,dd,data,sl⟩,ho,hc,n,hd⟩:=id p1
  obtain ⟨⟨zA,dd2,data2,sl2⟩,ho2,hc2,n2,hd2⟩:=id p2
  simp only at hc hd hc2 hd2
  subst hc hd hc2 hd2
  exact concat_meets ⟨_,ho,rfl⟩ ⟨_,ho2,rfl⟩ noFill_tuple_add seq_tuple_add PySem.F.slot_tuple_add PySem.F.entry_tuple_add (PySem.F.args_tuple_add_2 _ _)
   (tuple_addW0 a b #[] its2.toArray n n2 dd dd2 sl sl2 (by simp)) ⟨ho,ho2,⟨.ref b,H,I,rfl,q.it (by simpa using hb)⟩⟩
 ·exact Ew pins s σ H _ _ v u Q I rx ry ⟨a,b,xs,ys,rfl,rfl,ha,hb,hx,hz,fun e=>q.it (by subst e;simpa using ha),fun _=>q.new⟩
theorem ES {prog:Program} {w:World} {A:Around} {E:Value->Shared->Prop} {s:Shared} {t sl:Addr} {items:Array Value} {vl vu:Value} {lo hi:Option Int} {Q:Value->Shared->Prop} (ht:IsTup s.heap t items) (hs:s.heap.IsSliceOf sl vl vu .none) (pl:IsPart vl lo) (pu:IsPart vu hi)
  (hw:HT.bY items.size 0 lo=0/\HT.bY items.size items.size hi=items.size) (h:Q (.ref t) s):wpAny (model prog w) A (getItem (.ref t) (.ref sl)) Q E s:=by
 obtain ⟨os,hos,hcs,hds⟩:=id hs
 have zB:s.TypeIs (.ref sl) "slice" := ⟨os,hos,hcs⟩
 unfold getItem
 try with_reducible refine wpAny_holding ?_
 first | refine wpAny_bind (wpAny_pure ?_) | skip
 refine wpAny_bind (wpAny_sequenceKey ht.typeIs (by decide) ?_)
 refine wpAny_bind (wpAny_callSpecial?_slot (name:=Str.ofString "__getitem__") ht.typeIs PyProof.Rows.slot_tuple_getitem
  (wpAny_call_entry PyProof.Rows.slot_tuple_getitem ht.typeIs entry_tuple_getitem ?_ (args_tuple_getitem _ _)))
 show wpAny _ _ (Builtin.Tuple.tupleItemsOf (.ref t) >>= _) _ _ s
 refine wpAny_bind (tupleItemsOf_ ht ?_)
 refine wpAny_bind (wpAny_typeOf zB ?_)
 rw [if_pos (by decide)]
 refine wpAny_bind (HT.BM hs pl pu ?_)
 have hyes:((((HT.bY items.size 0 lo:Nat):Int) == 0 && (1:Int) == 1 && (HT.bY items.size items.size hi - HT.bY items.size 0 lo) == items.size)=true):=by
  rw [hw.1,hw.2];simp
 show wpAny _ _ (if (((HT.bY items.size 0 lo:Nat):Int) == 0 && (1:Int) == 1 && (HT.bY items.size items.size hi - HT.bY items.size 0 lo) == items.size)=true then _ else _) _ _ s
 rw [if_pos hyes]
 obtain ⟨o,ho,hc,n,hd⟩:=id ht
 unfold Builtin.Tuple.tupleIsExact
 first
  | exact wpAny_bind (wpAny_bind (wpAny_typeOf (T:="tuple") ⟨o,ho,hc⟩ (wpAny_pure (wpAny_bind (wpAny_rule (wpAny_pure ⟨_,rfl,wpAny_pure h⟩))))))
  | exact wpAny_bind (wpAny_bind (wpAny_typeOf (T:="tuple") ⟨o,ho,hc⟩ (wpAny_pure (wpAny_bind (wpAny_rule (wpAny_bind (wpAny_pure ⟨_,rfl,wpAny_pure h⟩)))))))
  | trace_state
def oM (K:PySem.W.Frag):V->Option Int->Option Int->Hp->VK->Prop:=fun x lo hi H Q=>∃ a xs,x=.ref a/\dF K H a xs/\jG K H (ja xs lo hi) Q
theorem ET {xs:List V} {lo hi:Option Int} (h:HT.bY xs.length 0 lo=0/\HT.bY xs.length xs.length hi=xs.length):ja xs lo hi=xs:=by
 unfold ja;rw [h.1,h.2];simp
theorem zK:xD X (oM X.K):=by
 intro pins s σ H x v vl vu lo hi sl Q I rx hs pl pu h
 obtain ⟨a,xs,rfl,hx,q⟩:=h
 by_cases hw:HT.bY xs.length 0 lo=0/\HT.bY xs.length xs.length hi=xs.length
 ·cases rx
  obtain ⟨its,r,ht,hz⟩:=I.tuple hx
  have hlen:its.toArray.size=xs.length:=by rw [List.size_toArray];exact r.length.symm
  refine ⟨"tuple",_,PyProof.Rows.slot_tuple_getitem.lookup,ht.typeIs,?_⟩
  exact ES ht hs pl pu (by rw [hlen];exact hw) ⟨.ref a,H,I,rfl,q.it (by rw [ET hw];exact hx)⟩
 ·exact qh pins s σ H _ v vl vu lo hi sl Q I rx hs pl pu ⟨a,xs,rfl,hx,hw,q.new⟩
end
mutual
inductive Rep (K:PySem.W.Frag) (H:Hp):V->PyData->Prop
 | non:Rep K H .non .none
 | bl (b:Bool):Rep K H (.bl b) (.bool b)
 | int (i:Int):Rep K H (.int i) (.int i)
 | str (x:Str):Rep K H (.str x) (.str x)
 | tup {a:Addr} {xs:List V} {ds:List PyData}:dF K H a xs->dG K H xs ds->Rep K H (.ref a) (.tuple ds)
 | lst {a:Addr} {xs:List V} {ds:List PyData}:fI K H a xs->dG K H xs ds->Rep K H (.ref a) (.list ds)
inductive dG (K:PySem.W.Frag) (H:Hp):List V->List PyData->Prop
 | nil:dG K H [] []
 | cons {v:V} {vs:List V} {d:PyData} {ds:List PyData}:Rep K H v d->dG K H vs ds->dG K H (v :: vs) (d :: ds)
end
section
variable {X:Cx} {pins:List (Addr×Obj)} {σ:St} {H:Hp} {s:Shared}
mutual
theorem Rep.reads (I:Inv X pins σ H s):∀ {v:V} {d:PyData} {u:Value},Rep X.K H v d->RelV v u->∃ as,Reads s.heap u d as
 | _,_,_,.non,r=>by cases r;exact ⟨_,.none⟩
 | _,_,_,.bl b,r=>by cases r;exact ⟨_,.bool b⟩
 | _,_,_,.int i,r=>by obtain ⟨t,rfl⟩:=r;exact ⟨_,.int i t⟩
 | _,_,_,.str x,r=>by obtain ⟨t,rfl⟩:=r;exact ⟨_,.str x t⟩
 | _,_,_,.tup q rs,r=>by
  cases r
  obtain ⟨its,rv,⟨o,e,c,n,hd⟩,_⟩:=I.tuple q
  obtain ⟨as,ra⟩:=dG.reads I rs rv
  exact ⟨_,.tuple e c hd (by simpa using ra)⟩
 | _,_,_,.lst q rs,r=>by
  cases r
  obtain ⟨its,rv,pl,_⟩:=I.list q
  obtain ⟨o,e,c,n,hd⟩:=pl.isList
  obtain ⟨as,ra⟩:=dG.reads I rs rv
  exact ⟨_,.list e c hd (by simpa using ra)⟩
theorem dG.reads (I:Inv X pins σ H s):∀ {vs:List V} {ds:List PyData} {us:List Value},dG X.K H vs ds->Vals vs us->∃ as,ReadsAll s.heap us ds as
 | _,_,_,.nil,r=>by cases r;exact ⟨_,.nil⟩
 | _,_,_,.cons h t,r=>by
  cases r with
  | cons r1 r2 =>
   obtain ⟨as,h1⟩:=Rep.reads I h r1
   obtain ⟨bs,h2⟩:=dG.reads I t r2
   exact ⟨_,.cons h1 h2⟩
end
def qs (K:PySem.W.Frag) (neg:Bool):R2:=fun x y H Q=>∃ d e,Rep K H x d/\Rep K H y e/\PyData.canLay0 d=true/\PyData.canLay0 e=true/\min d.depth e.depth<=60/\Q (.bl (if neg then !PyData.eqv d e else PyData.eqv d e)) H
theorem B1 (hu:X.A.units + 64 < cLine):gI X (compareOp .Eq) (qs X.K false):=by
 intro pins s σ H x y v u Q I rx ry h
 obtain ⟨d,e,hd,he,c1,c2,dp,q⟩:=h
 obtain ⟨as,ra⟩:=hd.reads I rx
 obtain ⟨bs,rb⟩:=he.reads I ry
 exact SeqAt.eqOverData X.prog X.w X.A X.xe s v u d e as bs _ ra rb c1 c2 (by omega) ⟨.bl _,H,I,rfl,q⟩
theorem uP (hu:X.A.units + 64 < cLine):gI X (compareOp .NotEq) (qs X.K true):=by
 intro pins s σ H x y v u Q I rx ry h
 obtain ⟨d,e,hd,he,c1,c2,dp,q⟩:=h
 obtain ⟨as,ra⟩:=hd.reads I rx
 obtain ⟨bs,rb⟩:=he.reads I ry
 exact SeqAt.neOverData X.prog X.w X.A X.xe s v u d e as bs _ ra rb c1 c2 (by omega) ⟨.bl _,H,I,rfl,q⟩
end
section
variable {K:PySem.W.Frag} {H:Hp}
def eC (ns:List Int):List PyData:=ns.map PyData.int
theorem dG.ints:∀ (ns:List Int),dG K H (ns.map V.int) (eC ns)
 | []=>.nil
 | n :: r=>.cons (.int n) (dG.ints r)
theorem zL:∀ (ns:List Int),PyData.canLayAll0 (eC ns)=true
 | []=>rfl
 | n :: r=>by show (true && PyData.canLayAll0 (eC r))=true;rw [zL r];rfl
theorem B2:∀ (ns:List Int),PyData.depthAll (eC ns)=0
 | []=>rfl
 | n :: r=>by show max 0 (PyData.depthAll (eC r))=0;rw [B2 r];rfl
theorem zM:∀ (ns ms:List Int),PyData.eqvAll (eC ns) (eC ms)=decide (ns=ms)
 | [],[]=>rfl
 | [],_ :: _=>rfl
 | _ :: _,[]=>rfl
 | n :: ns,m :: ms=>by
  show ((n == m) && PyData.eqvAll (eC ns) (eC ms))=decide (n :: ns=m :: ms)
  rw [zM ns ms]
  by_cases h:n=m
  ·subst h;simp
  ·simp [h]
end
end L2
namespace L2
open PySem PySem.Spec PyProof.Rows
structure Def (K:PySem.W.Frag) (mg:Str->Option Value) (x:Str) (st:Stmt) (ps:List Str) (f:Addr) (fd:FuncData):Prop where
 F:sY K x x st f fd
 be:∀ us:List Value,us.length=ps.length->bindArgs fd ⟨us,[]⟩=pure (ps.zip us)
 m:mg x=some (.ref f)
theorem Def.b {K:PySem.W.Frag} {mg:Str->Option Value} {x:Str} {st:Stmt} {ps:List Str} {f:Addr} {fd:FuncData} (D:Def K mg x st ps f fd):Binds K fd ps []:=.all D.be
theorem ic {K:PySem.W.Frag} {h:Heap} {mg:Str->Option Value} (X:K.In h) (G:h.Ns mainGlobals mg) {x:Str} {st:Stmt} {ps:List Str} {f:Addr} {oc:Value} {od an:Option Addr} {osl:Array (Option Value)} {kV doc pm cdv ct:Value}
  (hb:∀ (kV doc pm:Value) (an:Option Addr) (cdv ct:Value) (us:List Value),us.length=ps.length->bindArgs (PySem.W.fnOf x x (g9 st) (eN st) (ax st) .none kV doc pm an cdv ct) ⟨us,[]⟩=pure (ps.zip us))
  (a:PySem.W.nsIn K mainGlobals x=some (some (.ref f))) (l:K.lookup f=some ⟨oc,od,.func (PySem.W.fnOf x x (g9 st) (eN st) (ax st) .none kV doc pm an cdv ct),osl⟩)
  (c:PySem.W.codeIn K cdv x=true) (k:PySem.W.keepIn K (.ref f)=true):∃ f fd,Def K mg x st ps f fd :=
 ⟨f,_,qo l c k,hb kV doc pm an cdv ct,PySem.W.mg_of X G a⟩
theorem Def.ny {K:PySem.W.Frag} {mg:Str->Option Value} {x p:Str} {st:Stmt} {f:Addr} {fd:FuncData} (D:Def K mg x st [p] f fd) (s:Shared) (u:Value):BindsTo s fd ⟨[u],[]⟩ [(p,u)]:=.of_eq (D.be [u] rfl)
theorem mf {K:PySem.W.Frag} {h:Heap} {mg:Str->Option Value} (X:K.In h) (G:h.Ns mainGlobals mg) {x:Str} (z:PySem.W.nsIn K mainGlobals x=some none):mg x=none:=PySem.W.mg_none_of X G z
theorem qu {α:Type} {xs:List α} {i:Int} (h0:0<=i) (h1:i < xs.length):∃ v,fM xs i=some v/\v∈xs:=by
 have hi:i.toNat < xs.length:=by omega
 refine ⟨xs[i.toNat],?_,List.getElem_mem hi⟩
 have:=BR (xs:=xs) (j:=i.toNat) (v:=xs[i.toNat]) (by simp [hi])
 rwa [Int.toNat_of_nonneg h0] at this
theorem dT {c:Prop} [Decidable c] (h:decide c=true):c:=of_decide_eq_true h
end L2
namespace L2
open PySem PySem.Spec PyProof.Rows
section
variable {prog:Program} {w:World} {A:Around} {E:Value->Shared->Prop} {s:Shared}
end
section
variable {X:Cx} {e:Expr} {te:TE} {pos p0 p1 p2:Pos} {j:Nat}
def B3 (X:Cx) (r:V->Hp->VK->Prop):Prop :=
 ∀ (pins:List (Addr×Obj)) (s:Shared) (σ:St) (H:Hp) (x:V) (v:Value) (sl:Addr) (u:Tok) (Q:VK),Inv X pins σ H s->RelV x v->s.heap.IsSliceOf sl .none .none (.int (-1) u)->r x H Q ->
  ∃ T id,typeLookup (.type T) "__getitem__" = pure (some (.builtin id))/\s.TypeIs v T/\wpAny (model X.prog X.w) X.A (getItem v (.ref sl)) (EP X pins σ Q) X.xe s
theorem qv {r:V->Hp->VK->Prop} (hr:B3 X r) (he:PE X e te):PE X (.Subscript e (.Slice none none (some (.UnaryOp .USub (.Constant (.int 1) j p1) p0)) p2) pos) (fun σ H Q=>te σ H fun x H1=>r x H1 Q):=by
 intro pins s σ H Q I h
 refine Subscript_ (bW (he pins s σ H _ I h) fun v s1 ⟨x,H1,I1,r1,q1⟩=>?_)
 refine wpAny_Slice ?_
 rw [evalPart_none]
 refine wpAny_pure (wpAny_pure ?_)
 rw [evalPart_some]
 refine bW ((oD (X:=X) oE (az (i:=1) (j:=j) (pos:=p1)) (pos:=p0)) pins s1 σ H1 (fun y H2=>y=.int (-1)/\H2=H1) I1 ⟨1,rfl,rfl,rfl⟩) fun w2 s3 ⟨y,H3,I3,r3,e3,e4⟩=>?_
 subst e3 e4
 obtain ⟨u,rfl⟩:=r3
 have I4:Inv X pins σ H3 { s3 with heap:=s3.heap.push { cls:=.type "slice",data:=.fields #[.none,.none,.int (-1) u] } }:=I3.kept (t':=s3.toks) fun b ob q=>Heap.get?_push_of_some _ q
 obtain ⟨T,id,hT,ht,hg⟩:=hr pins { s3 with heap:=s3.heap.push { cls:=.type "slice",data:=.fields #[.none,.none,.int (-1) u] } } σ H3 x v s3.heap.objs.size u Q I4 r1 (Heap.IsSliceOf.new ..) q1
 show wpAny (model X.prog X.w) X.A (subscriptTail e (.Slice none none (some (.UnaryOp .USub (.Constant (.int 1) j p1) p0)) p2) v (.ref s3.heap.objs.size)) (EP X pins σ Q) X.xe { s3 with heap:=s3.heap.push { cls:=.type "slice",data:=.fields #[.none,.none,.int (-1) u] } }
 exact tail_any (ops:=[v,.ref s3.heap.objs.size]) ht hT hg (by with_unfolding_all rfl)
theorem EU:B3 X (fun x H Q=>∃ a xs,x=.ref a/\fI X.K H a xs/\∀ p,H p=none->Q (.ref p) (upd H p (.lst xs.reverse))):=by
 intro pins s σ H x v sl u Q I rx hs h
 obtain ⟨a,xs,rfl,hx,q⟩:=h
 cases rx
 obtain ⟨its,r,ht,hz⟩:=I.list hx
 have hlen:=r.length
 refine ⟨"list",_,slot_list_getitem.lookup,ht.isList.typeIs,?_⟩
 refine wpAny_getItem_list_slice ht.isList hs .none .none (.int (-1) u) (by simp) ?_ (by rw [List.size_toArray];omega)
 rw [PySem.W.krv_pick]
 refine ⟨.ref s.heap.objs.size,_,I.laid (t':=s.toks) (o:=.lst xs.reverse) (fun b ob q=>Heap.get?_push_of_some _ q) (Nat.le_refl _) ?_,rfl,q _ (I.hok.fresh (Nat.le_refl _))⟩
 exact ⟨by rw [List.length_reverse];exact hz,_,0,r.reverse,Heap.get?_push_size _ rfl⟩
end
end L2
namespace L2
open PySem PySem.Spec PyProof.Rows
section
variable {K:PySem.W.Frag} {f:Addr} {H0:Hp} {σ:St} {i:Nat} {t u ta tb:TE} {R R':V->Hp->Prop} {P P' P2:Int->Prop} {L M:Nat}
end
end L2
namespace L2
open PySem PySem.Spec PyProof.Rows
theorem uQ:∀ (names:List (Str×NameKind)) (n:Nat) (acc:List (Str×Addr)),cellsFrom n names acc=cellsFrom n names [] ++ acc
 | [],_,_=>rfl
 | (x,k) :: r,n,acc=>by
  show (if k == .cell then cellsFrom (n + 1) r ((x,n) :: acc) else cellsFrom n r acc)=(if k == .cell then cellsFrom (n + 1) r [(x,n)] else cellsFrom n r []) ++ acc
  by_cases hk:(k == NameKind.cell)=true
  ·rw [if_pos hk,if_pos hk,uQ r (n + 1) ((x,n) :: acc),uQ r (n + 1) [(x,n)],List.append_assoc];rfl
  ·rw [if_neg hk,if_neg hk];exact uQ r n acc
theorem zN {x:Str} {c:Addr}:∀ (names:List (Str×NameKind)) (n:Nat),(x,c)∈cellsFrom n names []->(x,NameKind.cell)∈names/\n<=c
 | [],_,h=>nomatch h
 | (y,k) :: r,n,h=>by
  have h':(x,c)∈(if k == .cell then cellsFrom (n + 1) r [(y,n)] else cellsFrom n r []):=h
  by_cases hk:(k == NameKind.cell)=true
  ·rw [if_pos hk,uQ] at h'
   rcases List.mem_append.mp h' with h' | h'
   ·obtain ⟨h1,h2⟩:=zN r (n + 1) h'
    exact ⟨List.mem_cons_of_mem _ h1,by omega⟩
   ·have e:(x,c)=(y,n):=by simpa using h'
    cases e
    have e2:k=NameKind.cell:=by simpa using hk
    subst e2
    exact ⟨List.mem_cons_self,Nat.le_refl _⟩
  ·rw [if_neg hk] at h'
   obtain ⟨h1,h2⟩:=zN r n h'
   exact ⟨List.mem_cons_of_mem _ h1,h2⟩
theorem zO {env:Env} (f:Str×NameKind->List (Str×Addr)->Sem (ForInStep (List (Str×Addr))))
  (hf:∀ name kind cs,f (name,kind) cs=if kind == .free then (do let c <- cellOf env name;pure (.yield ((name,c) :: cs))) else pure (.yield cs)) :
  ∀ (names:List (Str×NameKind)) (acc:List (Str×Addr)),(∀ y∈names,y.2=NameKind.free->∃ c,env.cells.lookup y.1=some c) ->
   ∃ cl,(forIn names acc f:Sem (List (Str×Addr)))=pure cl/\(∀ n c,(n,c)∈cl->(n,c)∈acc\/(env.cells.lookup n=some c/\(n,NameKind.free)∈names))/\(∀ p∈acc,p∈cl)/\∀ n,(n,NameKind.free)∈names->∃ c,(n,c)∈cl
 | [],acc,_=>⟨acc,by rw [List.forIn_nil],fun n c h=>.inl h,fun p h=>h,fun n h=>nomatch h⟩
 | (x,k) :: r,acc,h=>by
  have hr:∀ y∈r,y.2=NameKind.free->∃ c,env.cells.lookup y.1=some c:=fun y hy=>h y (List.mem_cons_of_mem _ hy)
  by_cases hk:k=NameKind.free
  ·subst hk
   obtain ⟨c,hc⟩:=h (x,.free) List.mem_cons_self rfl
   have e:cellOf env x=pure c:=by unfold cellOf;rw [hc]
   obtain ⟨cl,e1,h1,h2,h3⟩:=zO f hf r ((x,c) :: acc) hr
   refine ⟨cl,?_,fun n d hd=>?_,fun p hp=>h2 p (List.mem_cons_of_mem _ hp),fun n hn=>?_⟩
   ·rw [List.forIn_cons,hf,if_pos (by rfl),e]
    exact e1
   ·rcases h1 n d hd with q | ⟨q,q'⟩
    ·rcases List.mem_cons.mp q with q | q
     ·cases q;exact .inr ⟨hc,List.mem_cons_self⟩
     ·exact .inl q
    ·exact .inr ⟨q,List.mem_cons_of_mem _ q'⟩
   ·rcases List.mem_cons.mp hn with q | q
    ·cases q;exact ⟨c,h2 _ List.mem_cons_self⟩
    ·exact h3 n q
  ·obtain ⟨cl,e1,h1,h2,h3⟩:=zO f hf r acc hr
   have hb:¬ ((k == NameKind.free)=true):=by simpa using hk
   refine ⟨cl,?_,fun n d hd=>?_,h2,fun n hn=>?_⟩
   ·rw [List.forIn_cons,hf,if_neg hb]
    exact e1
   ·rcases h1 n d hd with q | ⟨q,q'⟩
    ·exact .inl q
    ·exact .inr ⟨q,List.mem_cons_of_mem _ q'⟩
   ·rcases List.mem_cons.mp hn with q | q
    ·cases q;exact absurd rfl hk
    ·exact h3 n q
theorem EV {scope:Scope} {env:Env} (h:∀ y∈scope.names,y.2=NameKind.free->∃ c,env.cells.lookup y.1=some c) :
  ∃ cl,closureFor scope env=pure cl/\(∀ n c,(n,c)∈cl->env.cells.lookup n=some c/\(n,NameKind.free)∈scope.names)/\∀ n,(n,NameKind.free)∈scope.names->∃ c,(n,c)∈cl:=by
 have key:∀ (f:Str×NameKind->List (Str×Addr)->Sem (ForInStep (List (Str×Addr)))),(∀ name kind cs,f (name,kind) cs=if kind == .free then (do let c <- cellOf env name;pure (.yield ((name,c) :: cs))) else pure (.yield cs)) ->
   ∃ cl,((forIn scope.names [] f:Sem (List (Str×Addr))) >>= fun r=>pure r)=pure cl/\(∀ n c,(n,c)∈cl->env.cells.lookup n=some c/\(n,NameKind.free)∈scope.names)/\∀ n,(n,NameKind.free)∈scope.names->∃ c,(n,c)∈cl:=fun f hf=>by
  obtain ⟨cl,e,h1,_,h3⟩:=zO f hf scope.names [] h
  refine ⟨cl,?_,fun n c hc=>(h1 n c hc).elim (fun z=>nomatch z) id,h3⟩
  rw [e]
  rfl
 simp only [closureFor]
 exact key _ fun name kind cs=>by cases hk:kind == NameKind.free <;> simp [hk]
theorem ltN {a b:Addr} (h:a < b):@LT.lt Nat _ a b:=h
theorem pS {a b:Addr} (h:@LT.lt Nat _ a b):a≠b:=Nat.ne_of_lt h
theorem B4 {a b:Addr} (h:@LT.lt Nat _ b a):a≠b:=Nat.ne_of_gt h
theorem EW {M:Model} {A:Around} {E:Value->Shared->Prop} {s:Shared} {scope:Scope} {g:Addr} {cl:List (Str×Addr)} {q:Str} {env:Env} {Q:Env->Shared->Prop}
  (h:∀ h',h'.Ns s.heap.objs.size (fun _=>none)->(∀ b o,s.heap.get? b=some o->h'.get? b=some o)->CellsOk h' (s.heap.objs.size + 1) (cellsFrom (s.heap.objs.size + 1) scope.names []) ->
   Q { scope:=scope,locals:=s.heap.objs.size,globals:=g,cells:=cellsFrom (s.heap.objs.size + 1) scope.names cl,qual:=q,func:=none,code:=env.code,frame:=env.frame,builtins:=env.builtins } { s with heap:=h' }) :
  wpAny M A (newFunctionEnv scope g cl [] q none .none (some env)) Q E s:=by
 simp only [newFunctionEnv,Option.isSome_some,if_true]
 refine wpAny_bind (wpAny_alloc ?_)
 refine wpAny_bind (wpAny_layCells _ (fun name kind cells=>by cases hkc:kind == NameKind.cell <;> simp [hkc]) _ _ _ _ ?_)
 have ok:=cellsFrom_ok scope.names (s.heap.push { cls:=.type "dict",data:=.dict #[] }) (s.heap.objs.size + 1) [] ⟨fun _ _ hm=>(nomatch hm),List.Pairwise.nil⟩ (by rw [Heap.size_push];exact Nat.le_refl _)
 rw [Heap.size_push] at ok
 rw [show ({ s with heap:=s.heap.push { cls:=.type "dict",data:=.dict #[] } }:Shared).heap.objs.size=s.heap.objs.size + 1 from Heap.size_push ..]
 refine wpAny_bind ?_
 rw [List.forIn_nil]
 refine wpAny_pure (wpAny_pure ?_)
 exact h _ ((Heap.Ns.new s.heap (.type "dict")).keeps (pushCells_keeps _ _)) (fun b o e=>pushCells_keeps _ _ b o (Heap.get?_push_of_some _ e)) ok
def bj (X:Cx) (N:List Str) (scope:Scope) (cells:List (Str×Addr)) (C:Addr) (fp:List Addr) (s:Shared) (H:Hp):Cx where
 prog:=X.prog
 w:=X.w
 K:=X.K
 mg:=X.mg
 base:=X.base
 A:=X.A
 N:=N
 s₀:=s
 H₀:=H
 env:=compEnvC scope cells C X.env
 outer:=X.stack
 stack:=X.stack
 ex:=fp
 fn:=fun x=>decide (scope.names.lookup x=some .cell)
 calm:=X.calm
 pn:=[]
 xe:=fun _ _=>False
def uR (scope sc:Scope):Scope :=
 { scope with names:=scope.names.map fun (n,k)=>if (k == .free && sc.kind == .function && sc.names.lookup n == some .cell) then (n,.cell) else (n,k) }
structure uS (sc scope:Scope) (own fr:List Str):Prop where
 kind:scope.kind=.function
 nd:(own ++ fr).Nodup
 uT:(scope.names.map (·.1)).Nodup
 free:∀ y∈scope.names,y.2=.free->sc.names.lookup y.1=some .cell\/sc.names.lookup y.1=some .free
 zP:∀ x∈fr,scope.names.lookup x=some .free
structure ey (X:Cx) (scope:Scope) (own fr:List Str) (js:List Nat):Prop where
 c:uS X.env.scope scope own fr
 ix:js.map (fun j=>X.N[j]?)=fr.map some
theorem ey.kind {X:Cx} {scope:Scope} {own fr:List Str} {js:List Nat} (S:ey X scope own fr js):scope.kind=.function:=S.c.kind
theorem ey.uT {X:Cx} {scope:Scope} {own fr:List Str} {js:List Nat} (S:ey X scope own fr js):(scope.names.map (·.1)).Nodup:=S.c.uT
theorem ey.zP {X:Cx} {scope:Scope} {own fr:List Str} {js:List Nat} (S:ey X scope own fr js):∀ x∈fr,scope.names.lookup x=some .free:=S.c.zP
theorem ey.free {X:Cx} {scope:Scope} {own fr:List Str} {js:List Nat} (S:ey X scope own fr js):∀ y∈scope.names,y.2=.free->X.env.kindOf y.1=some .cell\/X.env.kindOf y.1=some .free:=S.c.free
theorem xH {α:Type}:∀ {l:List (Str×α)} {n:Str} {c:α},(l.map (·.1)).Nodup->(n,c)∈l->l.lookup n=some c
 | (k,v) :: r,n,c,nd,h=>by
  obtain ⟨h1,h2⟩:=List.nodup_cons.mp nd
  rw [List.lookup_cons]
  rcases List.mem_cons.mp h with e | h
  ·cases e;simp
  ·have:(n == k)=false:=beq_eq_false_iff_ne.mpr fun e=>h1 (by rw [<- e];exact List.mem_map.mpr ⟨(n,c),h,rfl⟩)
   rw [this]
   exact xH h2 h
theorem B5 (scope:Scope) (env:Env) (x:Str):(relabel scope env).names.lookup x=none/\scope.names.lookup x=none \/
  ∃ k,scope.names.lookup x=some k/\(relabel scope env).names.lookup x=some (if (k == .free && env.scope.kind == .function && env.kindOf x == some .cell) then .cell else k):=by
 have key:∀ names:List (Str×NameKind),(names.map fun (n,k)=>if (k == NameKind.free && env.scope.kind == .function && env.kindOf n == some .cell) then (n,NameKind.cell) else (n,k)).lookup x=none/\names.lookup x=none \/
   ∃ k,names.lookup x=some k/\(names.map fun (n,k)=>if (k == NameKind.free && env.scope.kind == .function && env.kindOf n == some .cell) then (n,NameKind.cell) else (n,k)).lookup x=some (if (k == .free && env.scope.kind == .function && env.kindOf x == some .cell) then .cell else k):=by
  intro names
  induction names with
  | nil=>exact .inl ⟨rfl,rfl⟩
  | cons p r ih =>
   obtain ⟨n,k⟩:=p
   rw [List.map_cons]
   cases hx:x == n with
   | true =>
    have e:x=n:=by simpa using hx
    subst e
    refine .inr ⟨k,by simp [List.lookup_cons],?_⟩
    by_cases hc:(k == NameKind.free && env.scope.kind == .function && env.kindOf x == some .cell)=true
    ·simp only [if_pos hc];simp [List.lookup_cons]
    ·simp only [if_neg hc];simp [List.lookup_cons]
   | false =>
    have e1:∀ q:NameKind,(((n,q) :: (r.map fun (n,k)=>if (k == NameKind.free && env.scope.kind == .function && env.kindOf n == some .cell) then (n,NameKind.cell) else (n,k))).lookup x)=((r.map fun (n,k)=>if (k == NameKind.free && env.scope.kind == .function && env.kindOf n == some .cell) then (n,NameKind.cell) else (n,k)).lookup x):=fun q=>by rw [List.lookup_cons,hx]
    have e2:((n,k) :: r).lookup x=r.lookup x:=by rw [List.lookup_cons,hx]
    rw [e2]
    by_cases hc:(k == NameKind.free && env.scope.kind == .function && env.kindOf n == some .cell)=true
    ·simp only [if_pos hc];rw [e1];exact ih
    ·simp only [if_neg hc];rw [e1];exact ih
 exact key scope.names
def fN (n:Nat) (js:List Nat) (σ:St):St:=List.replicate n none ++ js.map fun j=>σ.getD j none
theorem Inv.uU {X:Cx} {pins:List (Addr×Obj)} {σ:St} {H:Hp} {s:Shared} {a:Addr} {o:HO} (I:Inv X pins σ H s) (f:iL X pins H a) (new:bH X.prog X.w (upd H a o) s.heap a o):Inv X pins σ (upd H a o) s:=by
 obtain ⟨f0,f1,f2,f3,f4,f5⟩:=f
 have ne:∀ b u,H b=some u->b≠a:=fun b u e z=>by rw [z,f0] at e;cases e
 refine I.step (h':=s.heap) (H':=upd H a o) (g':=s.gens) (d':=s.drawn) (t':=s.toks) (ch:=[a]) (fun b hb=>?_) (fun b u _ _ _ e _=>e) (fun b u _ _ _ e _=>⟨u.slots,e⟩) (fun b u hb e n=>?_) (fun b u _ e=>⟨u,e⟩)
  (fun b xs e=>by rw [eM (ne b _ e)];exact e) (fun b u xs e=>by rw [eM (ne b _ e)];exact e) (fun b ps e=>⟨#[],by rw [eM (ne b _ e),e];simp⟩) (fun m hm=>hm) (fun b u e=>?_) I.bare
 ·have e:b=a:=by simpa using hb
  subst e
  exact ⟨f3,f1,f4,f5⟩
 ·rw [eM (fun z=>hb (by simp [z]))];exact n
 ·by_cases hb:b=a
  ·subst hb;rw [lM] at e;cases e;exact new
  ·rw [eM hb] at e
   exact (I.hok b u e).stay (fun c v _ q=>q) (fun c q=>by rw [eM (ne c _ q)];exact q) fun c xs q=>by rw [eM (ne c _ q)];exact q
def PF (X:Cx) (ifs:List Expr) (t:TT):Prop :=
 ∀ (pins:List (Addr×Obj)) (s:Shared) (σ:St) (H:Hp) (Q:Bool->Hp->Prop),Inv X pins σ H s->t σ H Q ->
  wpAny (model X.prog X.w) X.A (forIn ifs true fun c r=>if r=true then do let ok <- isTrue c X.env (eval c X.env);pure (ForInStep.yield ok) else pure (ForInStep.yield r)) (TP X pins σ Q) X.xe s
theorem uV {X:Cx}:PF X [] (fun _ H Q=>Q true H):=fun _ _ _ H _ I h=>wpAny_tests_nil ⟨H,I,h⟩
theorem qw {X:Cx} {c:Expr} {t:TT} (h:PT X c t):PF X [c] t:=fun pins s σ H Q I hw=>wpAny_tests_one (h pins s σ H Q I hw)
theorem EX {prog:Program} {w:World} {A:Around} {R:Result->Shared->Prop} {s:Shared} {elt target iter:Expr} {ifs:List Expr} {scope:Scope} {pos:Pos} {it acc:Value} {env:Env} (I:Nat->Shared->Prop)
  (turn:∀ n s,I n s->wpAny (model prog w) A (pyNext it) (fun r s₁=>match r with
   | none=>R (.ok .next) s₁
   | some v=>wpAny (model prog w) A (letOwnedTupleGo target it v) (fun _ s₁'=>wpAny (model prog w) A (assign target env v) (fun _ s₂ =>
     wpAny (model prog w) A (forIn ifs true fun c r=>if r=true then do let ok <- isTrue c env (eval c env);pure (ForInStep.yield ok) else pure (ForInStep.yield r)) (fun ok s₃ =>
      if ok=true then wpAny (model prog w) A (eval elt env) (fun x s₄ =>
       wpAny (model prog w) A (call (.builtin "list.append") [acc,x]) (fun _ s₅=>∃ m,m < n/\I m s₅) (fun _ _=>False) s₄) (fun _ _=>False) s₃
      else ∃ m,m < n/\I m s₃) (fun _ _=>False) s₂) (fun _ _=>False) s₁') (fun _ _=>False) s₁) (fun _ _=>False) s)
  (n:Nat) (h:I n s) :
  codeAny (model prog w) A (.compLoop (.ListComp elt [⟨target,iter,ifs,0⟩] scope pos) 0 it acc env) R s:=by
 refine codeAny_loop rfl I (fun n s hI=>?_) n h
 show wpAny _ A ((compTurn (.ListComp elt [⟨target,iter,ifs,0⟩] scope pos) 0 it acc env).onRaise (fun x=>do noteFrame x env;theTreesLotGoes x)) _ _ s
 refine wpAny_noted ?_
 rw [compTurn_list]
 refine wpAny_bind (wpAny_standAt (wpAny_bind (wpAny_mono (turn n s hI) (fun r s₁ h₁=>?_) fun _ _ h'=>h'.elim)))
 cases r with
 | none=>exact wpAny_pure h₁
 | some v =>
  refine wpAny_bind (wpAny_mono h₁ (fun _ s₁' h₁'=>?_) fun _ _ h'=>h'.elim)
  refine wpAny_bind (wpAny_mono h₁' (fun _ s₂ h₂=>wpAny_bind (wpAny_mono h₂ (fun ok s₃ h₃=>?_) fun _ _ h'=>h'.elim)) fun _ _ h'=>h'.elim)
  cases ok with
  | false=>exact wpAny_pure ⟨rfl,h₃⟩
  | true =>
   exact wpAny_bind (wpAny_bind (wpAny_mono h₃ (fun x s₄ h₄=>wpAny_bind (wpAny_mono h₄ (fun _ s₅ h₅=>wpAny_pure (wpAny_pure ⟨rfl,h₅⟩)) fun _ _ h'=>h'.elim)) fun _ _ h'=>h'.elim))
def qx (J:It) (n:Nat) (js:List Nat) (g:TG) (tc:TT) (te:TE) (σ:St) (H1:Hp) (Q:VK):Prop :=
 ∃ W:Nat->Nat->List V->St->Hp->Prop,(∃ m,W 0 m [] (fN n js σ) H1)/\∀ i m ys σ' H',W i m ys σ' H' ->
  ys.length < sizeLine/\((J.stop i H'/\∀ p,H' p=none->Q (.ref p) (upd H' p (.lst ys))) \/
   (J.go i H'/\∀ x H2,J.ng i H' x H2->g x σ' H2 fun σ2 H3=>tc σ2 H3 fun b H4=>if b=true then te σ2 H4 fun y H5=>∃ m',m' < m/\W (i + 1) m' (ys ++ [y]) σ2 H5 else ∃ m',m' < m/\W (i + 1) m' ys σ2 H4))
def oN (wi:TI) (n:Nat) (js:List Nat) (g:TG) (tc:TT) (te:TE):TE:=fun σ H Q=>wi σ H fun J H1=>qx J n js g tc te σ H1 Q
section
variable {X:Cx} {pins:List (Addr×Obj)} {σ:St} {tg iter elt:Expr} {ifs:List Expr} {scope:Scope} {pos:Pos} {own fr:List Str} {js:List Nat} {g:TG} {tc:TT} {te:TE} {wi:TI}
theorem EY {H2:Hp} {s2:Shared} {it:Addr} {fp:List Addr} {tn:Nat->Heap->Prop} {J:It} {Q:VK} {E:Value->Shared->Prop} {cl:List (Str×Addr)} {RR:Value->Addr->Result->Shared->Prop}
  (hc:X.calm=true) (S:ey X scope own fr js) (hg:∀ cells C fp s H,PG (bj X (own ++ fr) scope cells C fp s H) tg g) (hf:∀ cells C fp s H,PF (bj X (own ++ fr) scope cells C fp s H) ifs tc) (he:∀ cells C fp s H,PE (bj X (own ++ fr) scope cells C fp s H) elt te)
  (I2:Inv X pins σ H2 s2) (T:Turn X.prog X.w X.K tg J fp it tn) (st2:tn 0 s2.heap) (f2:∀ b∈fp,iL X pins H2 b)
  (mh:∀ n c,(n,c)∈cl->X.env.cells.lookup n=some c/\(n,NameKind.free)∈scope.names) (qy:∀ n,(n,NameKind.free)∈scope.names->∃ c,(n,c)∈cl)
  (W:Nat->Nat->List V->St->Hp->Prop) (m0:Nat) (w0:W 0 m0 [] (fN own.length js σ) H2)
  (turn:∀ i m ys σ' H',W i m ys σ' H'->ys.length < sizeLine/\((J.stop i H'/\∀ p,H' p=none->Q (.ref p) (upd H' p (.lst ys))) \/
   (J.go i H'/\∀ x H2,J.ng i H' x H2->g x σ' H2 fun σ2 H3=>tc σ2 H3 fun b H4=>if b=true then te σ2 H4 fun y H5=>∃ m',m' < m/\W (i + 1) m' (ys ++ [y]) σ2 H5 else ∃ m',m' < m/\W (i + 1) m' ys σ2 H4)))
  (fin:∀ (acc C:Addr) (H':Hp) (s':Shared) (v:V),v=.ref acc->Inv X pins σ H' s'->iL X pins H' C->(∃ m,s'.heap.Ns C m)->Q v H'->RR (.ref acc) C (.ok .next) s') :
  wpAny (model X.prog X.w) X.A (newList []) (fun acc s3=>wpAny (model X.prog X.w) X.A (newFunctionEnv scope X.env.globals cl [] X.env.qual none .none (some X.env)) (fun cenv s4 =>
   codeAny (model X.prog X.w) X.A (.compStart (.ListComp elt [⟨tg,iter,ifs,0⟩] scope pos) 0 (.ref it) acc { cenv with scope:=relabel scope X.env }) (RR acc cenv.locals) s4) E s3) E s2:=by
 refine wpAny_newObj_type ?_
 refine EW fun h4 hns B6 jH=>?_
 have hA:s2.heap.objs.size < (s2.heap.push { cls:=.type "list",data:=.seq ([]:List Value).toArray }).objs.size:=by rw [Heap.size_push];exact Nat.lt_succ_self _
 generalize hC:(s2.heap.push { cls:=.type "list",data:=.seq ([]:List Value).toArray }).objs.size=C at hns jH hA ⊢
 generalize hac:s2.heap.objs.size=acc at hA ⊢
 have zQ:acc≠C:=Nat.ne_of_lt hA
 have old:∀ b o,s2.heap.get? b=some o->h4.get? b=some o:=fun b o e=>B6 b o (Heap.get?_push_of_some _ e)
 have hacc:h4.get? acc=some { cls:=.type "list",data:=.seq ([]:List Value).toArray }:=B6 _ _ (by rw [<- hac];exact Heap.get?_push_size _ rfl)
 have zR:∀ x c,(x,c)∈cellsFrom (C + 1) scope.names []->h4.IsCell c none/\C + 1<=c/\scope.names.lookup x=some .cell:=fun x c h=>⟨(jH.empty x c h).1,(jH.empty x c h).2,xH S.uT (zN _ _ h).1⟩
 have lk:∀ x c,(cellsFrom (C + 1) scope.names cl).lookup x=some c->(h4.IsCell c none/\C + 1<=c/\(x,c)∈cellsFrom (C + 1) scope.names [])\/(X.env.cells.lookup x=some c/\scope.names.lookup x=some .free):=fun x c h=>by
  rw [uQ] at h
  rcases List.mem_append.mp (PySem.mem_of_lookup h) with q | q
  ·exact .inl ⟨(zR x c q).1,(zR x c q).2.1,q⟩
  ·exact .inr ⟨(mh x c q).1,xH S.uT (mh x c q).2⟩
 have zS:∀ x c,X.env.cells.lookup x=some c->c < s2.heap.objs.size:=fun x c h=>by
  obtain ⟨v,z⟩:=I2.cell x c h
  exact z.lt
 have kU:∀ x c,(cellsFrom (C + 1) scope.names cl).lookup x=some c->c≠C/\c≠acc/\H2 c=none/\∀ b∈fp,c≠b:=fun x c h=>by
  rcases lk x c h with ⟨_,h1,_⟩ | ⟨h1,_⟩
  ·refine ⟨B4 (by omega),B4 (by omega),I2.hok.fresh (by omega),fun b hb z=>?_⟩
   obtain ⟨o,e,_⟩:=T.obj 0 _ st2 b hb
   have:=ltN (Heap.lt_size e)
   rw [<- z] at this
   omega
  ·have:=ltN (zS x c h1)
   exact ⟨pS (by omega),pS (by omega),I2.dE x c h1,fun b hb=>(f2 b hb).2.2.2.2.1 x c h1⟩
 have uW:∀ x,scope.names.lookup x=some .free->∃ c,X.env.cells.lookup x=some c/\(cellsFrom (C + 1) scope.names cl).lookup x=some c:=fun x h=>by
  obtain ⟨c,B7⟩:=qy x (PySem.mem_of_lookup h)
  have hc1:=(mh x c B7).1
  have hs:((cellsFrom (C + 1) scope.names cl).lookup x).isSome=true:=by
   refine PySem.W.cellsFrom_some scope.names (C + 1) cl (.inr ?_)
   cases q:cl.lookup x with
   | some d=>rfl
   | none =>
    exfalso
    have:∀ {l:List (Str×Addr)},(x,c)∈l->l.lookup x≠none:=by
     intro l
     induction l with
     | nil=>intro h;exact nomatch h
     | cons p r ih =>
      intro h z
      obtain ⟨k,v⟩:=p
      rw [List.lookup_cons] at z
      cases hb:x == k with
      | true=>rw [hb] at z;cases z
      | false =>
       rw [hb] at z
       rcases List.mem_cons.mp h with e | h
       ·cases e;simp at hb
       ·exact ih h z
    exact this B7 q
  obtain ⟨d,hd⟩:=Option.isSome_iff_exists.mp hs
  rcases lk x d hd with ⟨_,_,h2⟩ | ⟨h1,_⟩
  ·have:=(zR x d h2).2.2
   rw [h] at this;cases this
  ·rw [hc1] at h1;cases h1
   exact ⟨c,hc1,hd⟩
 have xI:∀ b∈fp,b≠C/\b≠acc:=fun b hb=>by
  obtain ⟨o,e,_⟩:=T.obj 0 _ st2 b hb
  have:=ltN (Heap.lt_size e)
  exact ⟨pS (by omega),pS (by omega)⟩
 have EZ:(relabel scope X.env).kind=.function:=S.kind
 have ok:(bj X (own ++ fr) scope (cellsFrom (C + 1) scope.names cl) C fp s2 H2).Ok:=by
  refine ⟨I2.ok.mod,EZ,I2.ok.glob,I2.ok.blt,?_,fun x y c h1 h2=>?_,fun x hx=>?_,fun x c hx h=>?_,I2.ok.hd,I2.ok.frames,.inl rfl,fun b hb=>⟨(xI b hb).1,fun x c h=>(kU x c h).2.2.2 b hb⟩,I2.bs,Nat.le_trans I2.ok.lS I2.sz,fun b o e hb=>?_,fun b hb z=>?_,I2.stack,I2.jF⟩
  ·show s2.heap.objs.size<=C
   omega
  ·rcases lk x c h1 with ⟨_,q1,q2⟩ | ⟨q1,_⟩
   ·rcases lk y c h2 with ⟨_,r1,r2⟩ | ⟨r1,_⟩
    ·exact name_of_addr jH.apart q2 r2
    ·have:=ltN (zS y c r1);omega
   ·rcases lk y c h2 with ⟨_,r1,r2⟩ | ⟨r1,_⟩
    ·have:=ltN (zS x c q1);omega
    ·exact I2.ok.inj x y c q1 r1
  ·have hx':(relabel scope X.env).names.lookup x=some .cell\/(relabel scope X.env).names.lookup x=some .free:=hx
   rcases B5 scope X.env x with ⟨e,_⟩ | ⟨k,e1,e2⟩
   ·rcases hx' with z | z <;> (rw [e] at z;cases z)
   ·by_cases hk:k=.free
    ·subst hk
     obtain ⟨c,_,h⟩:=uW x e1
     exact ⟨c,h⟩
    ·have hk':k=.cell:=by
      have hb:(k == NameKind.free)=false:=beq_eq_false_iff_ne.mpr hk
      rw [hb] at e2
      simp only [Bool.false_and,Bool.false_eq_true,if_false] at e2
      rcases hx' with z | z
      ·rw [e2] at z;exact Option.some.inj z
      ·rw [e2] at z;exact absurd (Option.some.inj z) hk
     subst hk'
     exact Option.isSome_iff_exists.mp (PySem.W.cellsFrom_some scope.names (C + 1) cl (.inl e1))
  ·have hx':scope.names.lookup x=some .cell:=of_decide_eq_true hx
   show s2.heap.objs.size<=c
   rcases lk x c h with ⟨_,q,_⟩ | ⟨_,q⟩
   ·omega
   ·rw [hx'] at q;cases q
  ·rcases (f2 b hb).2.2.2.1 with z | z
   ·exact I2.ok.j4 b o e z
   ·have h1:@LT.lt Nat _ b X.base.objs.size:=Heap.lt_size e
    have h2:=I2.ok.lS
    omega
  ·rcases List.mem_cons.mp (I2.i5 b z) with e | e
   ·exact (f2 b hb).2.1 e
   ·exact (f2 b hb).2.2.1 e
 have I4:Inv (bj X (own ++ fr) scope (cellsFrom (C + 1) scope.names cl) C fp s2 H2) [(acc,{ cls:=.type "list",data:=.seq ([]:List Value).toArray })] (fN own.length js σ) H2 { s2 with heap:=h4 }:=by
  refine ⟨ok,rfl,I2.bare,Un.kept old,⟨_,hns,fun i x v e1 e2 e3=>?_⟩,fun x c h=>?_,I2.hok.fresh (by show s2.heap.objs.size<=C;omega),fun x c h=>(kU x c h).2.2.1,fun p hp=>?_,I2.hok.kept old,?_⟩
  ·have zT:(own ++ fr)[i]?=some x:=e1
   unfold fN at e2
   by_cases hi:i < own.length
   ·rw [List.getElem?_append_left (by simpa using hi),List.getElem?_replicate] at e2
    split at e2 <;> cases e2
   ·rw [List.getElem?_append_right (by simpa using hi),List.length_replicate,List.getElem?_map] at e2
    rw [List.getElem?_append_right (by omega)] at zT
    cases hj:js[i - own.length]? with
    | none=>rw [hj] at e2;cases e2
    | some j =>
     rw [hj] at e2
     have qz:σ.getD j none=some v:=Option.some.inj e2
     have hN:X.N[j]?=some x:=by
      have q:=congrArg (fun l=>l[i - own.length]?) S.ix
      simp only [List.getElem?_map,hj,zT,Option.map_some] at q
      exact Option.some.inj q
     have hσ:σ[j]?=some (some v):=by
      rw [List.getD_eq_getElem?_getD] at qz
      cases q:σ[j]? with
      | none=>rw [q] at qz;cases qz
      | some o=>rw [q] at qz;exact congrArg some qz
     have hfr:scope.names.lookup x=some .free:=S.zP x (List.mem_of_getElem? zT)
     have hk:=S.free _ (PySem.mem_of_lookup hfr) rfl
     obtain ⟨m,_,hl⟩:=I2.loc
     obtain ⟨u,ru,lo⟩:=hl j x v hN hσ (by rcases hk with k | k;exact .inr (.inl k);exact .inr (.inr k))
     refine ⟨u,ru,.inr ⟨?_,?_⟩⟩
     ·rcases B5 scope X.env x with ⟨_,e⟩ | ⟨k,q1,q2⟩
      ·rw [hfr] at e;cases e
      ·rw [hfr] at q1;cases q1
       have E1:(compEnvC scope (cellsFrom (C + 1) scope.names cl) C X.env).kindOf x=some (if (NameKind.free == .free && X.env.scope.kind == .function && X.env.kindOf x == some .cell)=true then .cell else .free):=q2
       rw [show (bj X (own ++ fr) scope (cellsFrom (C + 1) scope.names cl) C fp s2 H2).env.kindOf x=_ from E1]
       split
       ·exact .inl rfl
       ·exact .inr rfl
     ·rcases lo with ⟨k,_⟩ | ⟨_,c,hc1,hc2⟩
      ·rcases hk with k' | k' <;> (rw [k] at k';cases k')
      ·obtain ⟨d,hd1,hd2⟩:=uW x hfr
       rw [hc1] at hd1;cases hd1
       exact ⟨c,hd2,hc2.keeps old⟩
  ·rcases lk x c h with ⟨q,_,_⟩ | ⟨q,_⟩
   ·exact ⟨_,q⟩
   ·obtain ⟨v,z⟩:=I2.cell x c q
    exact ⟨v,z.keeps old⟩
  ·have e:p=(acc,{ cls:=.type "list",data:=.seq ([]:List Value).toArray }):=by simpa [bj] using hp
   subst e
   refine ⟨hacc,I2.hok.fresh (by omega),zQ,fun z=>?_,fun v z=>nomatch z⟩
   rcases List.mem_cons.mp (I2.i5 acc z) with e | e
   ·have:=ltN I2.lt
    rw [<- e] at this
    omega
   ·exact I2.t9 (by omega) e
  ·show (fN own.length js σ).length=(own ++ fr).length
   have q:=congrArg List.length S.ix
   simp only [List.length_map] at q
   unfold fN
   rw [List.length_append,List.length_replicate,List.length_map,List.length_append,q]
 have zU:∀ {H':Hp} {ob:Obj},(∀ b∈fp,H' b=none)->∀ b∈fp,iL (bj X (own ++ fr) scope (cellsFrom (C + 1) scope.names cl) C fp s2 H2) [(acc,ob)] H' b:=fun {H' ob} hn b hb =>
  ⟨hn b hb,(xI b hb).1,fun z=>by
   rcases List.mem_cons.mp (I2.i5 b z) with e | e
   ·exact (f2 b hb).2.1 e
   ·exact (f2 b hb).2.2.1 e,.inl hb,fun x c h=>(kU x c h).2.2.2 b hb,fun p hp=>by
   have e:p=(acc,ob):=by simpa [bj] using hp
   subst e
   exact fun z=>(xI b hb).2 z.symm⟩
 have loop:codeAny (model X.prog X.w) X.A (.compLoop (.ListComp elt [⟨tg,iter,ifs,0⟩] scope pos) 0 (.ref it) (.ref acc) (compEnvC scope (cellsFrom (C + 1) scope.names cl) C X.env)) (RR (.ref acc) C) { s2 with heap:=h4 }:=by
  refine EX (fun m s'=>∃ (i:Nat) (ys:List V) (its:List Value) (n:Nat) (σ':St) (H':Hp),Inv (bj X (own ++ fr) scope (cellsFrom (C + 1) scope.names cl) C fp s2 H2) [(acc,{ cls:=.type "list",data:=.seq its.toArray n })] σ' H' s'/\Vals ys its/\tn i s'.heap/\(∀ b∈fp,H' b=none)/\W i m ys σ' H') ?_ m0
   ⟨0,[],[],0,_,H2,I4,.nil,T.keep _ _ _ st2 fun b _ o e=>old b o e,fun b hb=>(f2 b hb).1,w0⟩
  rintro n s5 ⟨i,ys,its,en,σ5,H5,I5,rv,jw,xx,w5⟩
  obtain ⟨hz,alt⟩:=turn i n ys σ5 H5 w5
  rcases alt with ⟨stop,qn⟩ | ⟨go,step⟩
  ·refine bW (T.done (bj X (own ++ fr) scope (cellsFrom (C + 1) scope.names cl) C fp s2 H2) rfl rfl rfl hc i _ s5 σ5 H5 _ I5 (zU xx) jw stop) fun r s6 ⟨hr,I6⟩=>?_
   subst hr
   show RR (.ref acc) C (.ok .next) s6
   have u:Un (frs X.stack) fp H2 H5 s2.heap s6.heap:=I6.base
   have J6:Inv X pins σ H5 s6:=I2.oo I6.os u I6.hok I6.bare fun b hb=>⟨(f2 b hb).2.2.2.1,(f2 b hb).2.1,(f2 b hb).2.2.2.2.1,(f2 b hb).2.2.2.2.2⟩
   have pacc:=I6.pin (acc,_) (List.mem_append_right _ List.mem_cons_self)
   have zV:iL X pins H5 acc:=I2.lu (by omega) pacc.2.1
   have fC:iL X pins H5 C:=I2.lu (by omega) I6.free
   have K6:Inv X pins σ (upd H5 acc (.lst ys)) s6:=J6.uU zV ⟨Nat.le_of_lt hz,its,en,rv,pacc.1⟩
   obtain ⟨m,hm,_⟩:=I6.loc
   exact fin acc C _ s6 (.ref acc) rfl K6 ⟨by rw [eM zQ.symm];exact fC.1,fC.2⟩ ⟨m,hm⟩ (qn acc pacc.2.1)
  ·refine bW (T.item (bj X (own ++ fr) scope (cellsFrom (C + 1) scope.names cl) C fp s2 H2) rfl rfl rfl hc i _ s5 σ5 H5 _ I5 (zU xx) jw go) fun r s6 ⟨u,hr,h6⟩=>?_
   subst hr
   refine bW h6 fun _ s7 ⟨x,H7,I7,r7,y7,zW,E2⟩=>?_
   have E3:=I7.pinned (zU E2) (T.obj _ _ zW)
   refine bW (hg _ _ _ _ _ _ s7 σ5 H7 x u _ E3 r7 (step x H7 y7)) fun _ s8 ⟨σ8,H8,I8,q8⟩=>?_
   refine bW (hf _ _ _ _ _ _ s8 σ8 H8 _ I8 q8) fun b s9 ⟨H9,I9,q9⟩=>?_
   have xJ:∀ {s':Shared} {σ':St} {H':Hp},Inv (bj X (own ++ fr) scope (cellsFrom (C + 1) scope.names cl) C fp s2 H2) ([(acc,{ cls:=.type "list",data:=.seq its.toArray en })] ++ i7 fp s7.heap) σ' H' s'->tn (i + 1) s'.heap/\∀ b∈fp,H' b=none:=fun {s' σ' H'} I' =>
    ⟨T.keep _ _ _ zW fun b hb o e=>(I'.pin (b,o) (List.mem_append_right _ (List.mem_append_right _ (xw hb e)))).1,fun b hb=>by
     obtain ⟨o,e,d⟩:=T.obj _ _ zW b hb
     exact (I'.pin (b,o) (List.mem_append_right _ (List.mem_append_right _ (xw hb e)))).2.1⟩
   cases b with
   | false =>
    obtain ⟨m',hm,w9⟩:=q9
    exact ⟨m',hm,i + 1,ys,its,en,σ8,H9,I9.g6,rv,(xJ I9).1,(xJ I9).2,w9⟩
   | true =>
    refine bW (he _ _ _ _ _ _ s9 σ8 H9 _ I9 q9) fun y xK ⟨yv,zX,xM,E4,m',hm,E5⟩=>?_
    have pacc:=xM.pin (acc,_) (List.mem_append_right _ (List.mem_append_left _ List.mem_cons_self))
    have hlen:=rv.length
    refine wpAny_list_append_plain (items:=its.toArray) ⟨en,pacc.1⟩ (fun h11 ⟨B8,zY⟩ uX=>?_) (by simp only [List.size_toArray];omega)
    have cA:∀ x c,(cellsFrom (C + 1) scope.names cl).lookup x=some c->c≠acc:=fun x c h=>(kU x c h).2.1
    have Ia:Inv (bj X (own ++ fr) scope (cellsFrom (C + 1) scope.names cl) C fp s2 H2) [] σ8 zX xK:=xM.iY fun p hp=>nomatch hp
    have Ib:Inv (bj X (own ++ fr) scope (cellsFrom (C + 1) scope.names cl) C fp s2 H2) [] σ8 zX { xK with heap:=h11 }:=Ia.turned (it:=acc) (t':=xK.toks) (fun b o hb e=>(uX.2 b hb).trans e) pacc.2.1 zQ (.inr (by show s2.heap.objs.size<=acc;omega)) cA fun p hp=>nomatch (show p∈([]:List (Addr×Obj)) from by simpa [bj] using hp)
    refine ⟨m',hm,i + 1,ys ++ [yv],its ++ [y],B8,σ8,zX,Ib.iY fun p hp=>?_,rv.append (.cons E4 .nil),T.keep _ _ _ (xJ xM).1 fun b hb o e=>(uX.2 b (xI b hb).2).trans e,(xJ xM).2,E5⟩
    have e:p=(acc,{ cls:=.type "list",data:=.seq (its ++ [y]).toArray B8 }):=by simpa using hp
    subst e
    exact ⟨by simpa using zY,pacc.2.1,pacc.2.2.1,pacc.2.2.2.1,fun v z=>nomatch z⟩
 exact codeAny_compStart_list loop (T.self X.A 0 _ _ _ (T.keep _ _ _ st2 fun b _ o e=>old b o e) loop)
theorem sZ (hc:X.calm=true) (S:ey X scope own fr js) (hi:PI X tg iter wi) (hg:∀ cells C fp s H,PG (bj X (own ++ fr) scope cells C fp s H) tg g) (hf:∀ cells C fp s H,PF (bj X (own ++ fr) scope cells C fp s H) ifs tc) (he:∀ cells C fp s H,PE (bj X (own ++ fr) scope cells C fp s H) elt te)
  (hs:∀ x,foldedSetIterable iter X.env x=pure x:=by intro _;rfl):PE X (.ListComp elt [⟨tg,iter,ifs,0⟩] scope pos) (oN wi own.length js g tc te):=by
 intro pins s σ H Q I h
 obtain ⟨cl,hcl,mh,qy⟩:=EV (scope:=scope) (env:=X.env) fun y hy hk=>I.ok.has y.1 (S.free y hy hk)
 rw [eval_ListComp]
 refine wpAny_comprehension_free (use:=none) rfl hs hcl S.kind (fun y hy hk=>by rw [<- hk];exact xH S.uT hy) (bW (hi pins s σ H _ I h) fun v s1 h1=>bW h1 fun itv s2 h2=>?_)
 obtain ⟨it,fp,tn,J,H2,e,I2,T,st2,f2,W,⟨m0,w0⟩,turn⟩:=h2
 subst e
 refine EY (RR:=fun acc C=>compPost (model X.prog X.w) X.A X.xe none (EP X pins σ Q) acc C) hc S hg hf he I2 T st2 f2 mh qy W m0 w0 turn ?_
 intro acc C H' s' v hv I' fC ⟨m,hm⟩ q
 subst hv
 obtain ⟨f0,f1,JS,f3,f4,f5⟩:=fC
 exact ⟨m,hm,fun h'' zZ=>⟨.ref acc,H',I'.turned (it:=C) (t':=s'.toks) (fun b o hb e=>(zZ.2 b hb).trans e) f0 f1 f3 f4 f5,rfl,q⟩⟩
end
end L2
namespace L2
open PySem PySem.Spec PyProof.Rows
section
variable {X:Cx}
theorem B9:∀ {bs:List Bool} {us:List Value} {i:Nat} {v:Value},Vals (bs.map V.bl) us->us[i]?=some v->∃ b,bs[i]?=some b/\v=.bool b
 | [],_,i,v,r,h=>by cases r;simp at h
 | b :: bs,_,0,v,r,h=>by
  cases r with
  | cons r1 r2 =>
   cases (show _=Value.bool b from r1)
   simp at h
   exact ⟨b,rfl,h.symm⟩
 | b :: bs,_,i + 1,v,r,h=>by
  cases r with
  | cons r1 r2 =>
   obtain ⟨c,e1,e2⟩:=B9 (i:=i) r2 (by simpa using h)
   exact ⟨c,by simpa using e1,e2⟩
theorem E6 (hc:X.calm=true):fB X (.builtin "all") (fun xs H Q=>∃ (p:Addr) (bs:List Bool),xs=[.ref p]/\fI X.K H p (bs.map V.bl)/\Q (.bl (bs.all id)) H):=by
 intro pins s σ H xs us Q I r h
 obtain ⟨p,bs,rfl,hq,q⟩:=h
 obtain ⟨u,rfl,ru⟩:=vals1 r
 cases ru
 obtain ⟨its,rv,pl,_⟩:=I.list hq
 have hl:=pl.isList
 have hlt:p < s.heap.objs.size:=by obtain ⟨_,e,_⟩:=hl;exact Heap.lt_size e
 have hlen:=rv.length
 rw [List.length_map] at hlen
 have hh:X.A.in1.handled=none:=I.ok.hd hc
 refine call_all_walk (wpAny_pyIter_list hl ?_)
 refine ⟨s.heap.objs.size,[s.heap.objs.size,p],[s.heap.objs.size],its.toArray.size,_,_,fun i=>(bs[i]?).getD true,rfl,Walks.list (A:=X.A.in1) hh _ p (Nat.ne_of_lt hlt) its.toArray,
  ⟨⟨_,Heap.get?_push_size _ rfl,rfl,rfl⟩,hl.push _⟩,fun i v s' Q' E' hP hQ=>?_,fun h' tk hk=>?_⟩
 ·obtain ⟨b,e,rfl⟩:=B9 rv (by simpa using hP)
  simp only [e,Option.getD_some] at hQ
  exact wpAny_truthy_bool hQ
 ·have e:((List.range its.toArray.size).all fun i=>(bs[i]?).getD true)=bs.all id:=by
   rw [List.size_toArray,<- hlen];exact PyProof.Rows.LSm.range_all bs
  rw [e]
  exact ⟨.bl _,H,I.kept (PyProof.Rows.LSm.kept_iter hk),rfl,q⟩
end
section
variable {prog:Program} {w:World} {A:Around} {E:Value->Shared->Prop} {s:Shared}
end
section
variable {X:Cx}
end
section
variable {K:PySem.W.Frag} {ch:List Addr} {H H':Hp}
end
end L2
namespace L2
open PySem PySem.Spec PyProof.Rows
section
variable {X:Cx} {K:PySem.W.Frag}
theorem Aa (hK:X.K=K):uJ X (qi K):=by subst hK;exact j6
theorem E7 (hK:X.K=K):uJ X (qj K):=by subst hK;exact cT
theorem E8 (hK:X.K=K):fB X (.builtin "len") (fun xs H Q=>∃ p ys,xs=[V.ref p]/\(fI K H p ys\/dF K H p ys)/\Q (.int ys.length) H):=by subst hK;exact nt
end
end L2
namespace L2
open PySem PySem.Spec PyProof.Rows
section
variable {prog:Program} {w:World} {A:Around} {E:Value->Shared->Prop} {s:Shared}
end
section
variable {prog:Program} {w:World} {A:Around} {E:Value->Shared->Prop} {s:Shared}
end
section
variable {X:Cx} {pins:List (Addr×Obj)} {σ:St} {H:Hp} {s:Shared} {h':Heap}
end
end L2
namespace L2
open PySem PySem.Spec PyProof.Rows
section
open Sem (wp)
open PySem.AutoSeq1 (wpAny_loadPart')
open PySem.MeetsSeq PySem.MeetsSeq2 PySem.MeetsSeq3
end
section
variable {X:Cx} {K:PySem.W.Frag}
theorem E9 {es:List Expr} {k:Nat} {t:lW} {n:Nat} {pos:Pos} (hK:X.K=K) (hc:X.calm=true) (h:ur X es t)
  (hn:(assignEach es X.env).length=n:=by rfl) (hst:(assignEach es X.env).findIdx? (·.1)=none:=by rfl):PG X (.Tuple es k pos) (p7 K n t):=by subst hK;exact m9 hc h hn hst
end
end L2
namespace L2
open PySem PySem.Spec PyProof.Rows
open Builtin.Str
section
variable {X:Cx} {K:PySem.W.Frag}
end
section
variable {X:Cx} {tg:Expr}
end
end L2
namespace L2
open PySem PySem.Spec PyProof.Rows
open Builtin.Str
section
variable {prog:Program} {w:World} {A:Around} {E:Value->Shared->Prop} {s:Shared}
end
set_option genInjectivity false in
inductive ZS where
 | tup (a:Addr) | lst (a:Addr) | str (x:Str)
def ZS.it (j:Addr) (i:Nat) (h:Heap):ZS->Prop
 | .tup a=>h.IsTupleIter j a i
 | .lst a=>h.IsListIter j a i
 | .str x=>∃ t,h.IsStrIter j "str_ascii_iterator" x t i\/h.IsStrIter j "str_iterator" x t i
def ZS.has (K:PySem.W.Frag) (H:Hp) (i:Nat) (v:V):ZS->Prop
 | .tup a=>∃ xs,dF K H a xs/\xs[i]?=some v
 | .lst a=>∃ xs,fI K H a xs/\xs[i]?=some v
 | .str x=>∃ c,x.cps[i]?=some c/\v=.str ⟨#[c]⟩
def ZS.fin (K:PySem.W.Frag) (H:Hp) (i:Nat):ZS->Prop
 | .tup a=>∃ xs,dF K H a xs/\xs.length=i
 | .lst a=>∃ xs,fI K H a xs/\xs.length=i
 | .str x=>x.cps.size=i
section
variable {X:Cx} {pins:List (Addr×Obj)} {σ:St} {H:Hp} {s:Shared}
end
theorem ZS.nz {X:Cx} {pins:List (Addr×Obj)} {σ:St} {H:Hp} {s:Shared} {src:ZS} {i:Nat} {x y:V} (I:Inv X pins σ H s) (a:src.has X.K H i x) (b:src.has X.K H i y):y=x:=by
 cases src with
 | tup p =>
  obtain ⟨xs,h1,e1⟩:=a
  obtain ⟨ys,h2,e2⟩:=b
  rw [I.gj h2 h1] at e2
  rw [e1] at e2
  exact (Option.some.inj e2).symm
 | lst p =>
  obtain ⟨xs,h1,e1⟩:=a
  obtain ⟨ys,h2,e2⟩:=b
  rw [I.j5 h2 h1] at e2
  rw [e1] at e2
  exact (Option.some.inj e2).symm
 | str z =>
  obtain ⟨c,h1,rfl⟩:=a
  obtain ⟨d,h2,rfl⟩:=b
  rw [h1] at h2
  cases h2
  rfl
def ZS.val (K:PySem.W.Frag) (H:Hp) (x:V):ZS->Prop
 | .tup a=>x=.ref a/\∃ xs,dF K H a xs
 | .lst a=>x=.ref a/\∃ xs,fI K H a xs
 | .str z=>x=.str z
end L2
namespace L2
open PySem PySem.Spec PyProof.Rows
section
variable {X:Cx} {K:PySem.W.Frag}
def eD (us:List Value) (ds:List PyData) (dx:PyData) (u:Value):Bool:=@decide (∃ (i:Nat) (d:PyData),us[i]?=some u/\ds[i]?=some d/\PyData.eqv d dx=true) (Classical.propDecidable _)
theorem dG.get:∀ {H:Hp} {vs:List V} {ds:List PyData},dG K H vs ds->∀ {i:Nat} {v:V},vs[i]?=some v->∃ d,ds[i]?=some d/\Rep K H v d
 | _,_,_,.nil,i,v,e=>by simp at e
 | _,_,_,.cons (d:=d) a b,0,v,e=>⟨d,by simp,by have:_=v:=Option.some.inj (by simpa using e);rw [<- this];exact a⟩
 | _,_,_,.cons a b,i + 1,v,e=>by
  obtain ⟨d,e1,r⟩:=dG.get b (i:=i) (by simpa using e)
  exact ⟨d,by simpa using e1,r⟩
theorem dG.qA:∀ {H:Hp} {vs:List V} {ds:List PyData},dG K H vs ds->vs.length=ds.length
 | _,_,_,.nil=>rfl
 | _,_,_,.cons _ r=>by rw [List.length_cons,List.length_cons,dG.qA r]
theorem Vals.Ab {xs:List V} {us:List Value} (r:Vals xs us) {i:Nat} {u:Value} (h:us[i]?=some u):∃ v,xs[i]?=some v/\RelV v u:=by
 have hi:=(List.getElem?_eq_some_iff.mp h).1
 have hl:=r.length
 obtain ⟨u',hu,ru⟩:=r.get (i:=i) (x:=xs[i]'(by omega)) (List.getElem?_eq_getElem _)
 rw [h] at hu
 cases hu
 exact ⟨_,List.getElem?_eq_getElem _,ru⟩
open Classical in
theorem oO {pins:List (Addr×Obj)} {σ:St} {H:Hp} {s:Shared} {xs:List V} {us:List Value} {ds:List PyData} {x:V} {v:Value} {dx:PyData} (hu:X.A.units + 64 < cLine) (I:Inv X pins σ H s) (r:Vals xs us) (hr:dG X.K H xs ds) (rx:RelV x v) (hx:Rep X.K H x dx) (c1:∀ d∈ds,d.canLay0=true) (c2:dx.canLay0=true) (c3:dx.depth<=60) :
  ∀ u∈us,SeqAt.EqAt X.A.in1 s u v (eD us ds dx u):=by
 intro u hm
 obtain ⟨bs,rb⟩:=hx.reads I rx
 have key:∀ (i:Nat) (d:PyData),us[i]?=some u->ds[i]?=some d->SeqAt.EqAt X.A.in1 s u v (PyData.eqv d dx):=fun i d h1 h2=>by
  obtain ⟨y,hy,ry⟩:=r.Ab h1
  obtain ⟨d',hd',rd⟩:=hr.get hy
  rw [h2] at hd'
  cases hd'
  obtain ⟨as,ra⟩:=rd.reads I ry
  intro prog w E Q q
  refine SeqAt.eqBoolOverData prog w X.A.in1 E s u v d dx as bs Q ra rb (c1 _ (List.mem_of_getElem? h2)) c2 ?_ q
  have:X.A.in1.units<=X.A.units + 2:=by
   first | exact Nat.le_add_right _ _ | (show X.A.units<=_;omega) | (show X.A.units + 1<=_;omega)
  omega
 obtain ⟨i,hi⟩:=List.getElem?_of_mem hm
 have hl1:=r.length
 have hl2:=hr.qA
 have hil:=(List.getElem?_eq_some_iff.mp hi).1
 unfold eD
 by_cases h:∃ (i:Nat) (d:PyData),us[i]?=some u/\ds[i]?=some d/\PyData.eqv d dx=true
 ·rw [decide_eq_true h]
  obtain ⟨j,d,h1,h2,h3⟩:=h
  have:=key j d h1 h2
  rwa [h3] at this
 ·rw [decide_eq_false h]
  have h2:ds[i]?=some (ds[i]'(by omega)):=List.getElem?_eq_getElem _
  have k:=key i _ hi h2
  cases hb:PyData.eqv (ds[i]'(by omega)) dx with
  | true=>exact absurd ⟨i,_,hi,h2,hb⟩ h
  | false=>rwa [hb] at k
open Classical in
theorem qB {xs:List V} {us:List Value} {ds:List PyData} {dx:PyData} (h1:us.length=ds.length):us.any (eD us ds dx)=ds.any fun d=>PyData.eqv d dx:=by
 rw [Bool.eq_iff_iff,List.any_eq_true,List.any_eq_true]
 constructor
 ·rintro ⟨u,hu,h⟩
  unfold eD at h
  obtain ⟨i,d,_,h2,h3⟩:=of_decide_eq_true h
  exact ⟨d,List.mem_of_getElem? h2,h3⟩
 ·rintro ⟨d,hd,h⟩
  obtain ⟨i,hi⟩:=List.getElem?_of_mem hd
  have hil:=(List.getElem?_eq_some_iff.mp hi).1
  refine ⟨us[i]'(by omega),List.getElem_mem _,?_⟩
  unfold eD
  exact decide_eq_true ⟨i,d,List.getElem?_eq_getElem _,hi,h⟩
def uY (K:PySem.W.Frag) (neg:Bool):R2:=fun x y H Q=>∃ p xs ds dx,y=.ref p/\(fI K H p xs\/dF K H p xs)/\dG K H xs ds/\Rep K H x dx/\(∀ d∈ds,PyData.canLay0 d=true)/\PyData.canLay0 dx=true/\PyData.depth dx<=60/\Q (.bl (if neg then !ds.any (fun d=>PyData.eqv d dx) else ds.any fun d=>PyData.eqv d dx)) H
theorem Fb (hu:X.A.units + 64 < cLine):gI X (compareOp .NotIn) (uY X.K true):=by
 intro pins s σ H x y v u Q I rx ry h
 obtain ⟨p,xs,ds,dx,rfl,hq,hr,hx,c1,c2,c3,q⟩:=h
 cases ry
 have e2:∀ {its:List Value},Vals xs its->its.toArray.any (eD its ds dx)=ds.any fun d=>PyData.eqv d dx:=fun {its} r=>by
  rw [show its.toArray.any (eD its ds dx)=its.any (eD its ds dx) by simp]
  exact qB (xs:=xs) (by rw [<- r.length];exact hr.qA)
 rcases hq with hq | hq
 ·obtain ⟨its,r,pl,hz⟩:=I.list hq
  refine SeqAt.notIn_listAt (eD its ds dx) pl.isList (fun w hw=>oO hu I r hr rx hx c1 c2 c3 w (by simpa using hw)) ⟨.bl _,H,I,rfl,?_⟩
  rw [e2 r]
  exact q
 ·obtain ⟨its,r,pl,hz⟩:=I.tuple hq
  refine SeqAt.notIn_tupleAt (eD its ds dx) pl (fun w hw=>oO hu I r hr rx hx c1 c2 c3 w (by simpa using hw)) ⟨.bl _,H,I,rfl,?_⟩
  rw [e2 r]
  exact q
end
end L2
namespace L2
open PySem PySem.Spec PyProof.Rows
open Builtin.Str
theorem uZ:Slot "reversed" "__next__" "reversed.__next__" :=
 .of (owner:="reversed") (n:="__next__") (by rw [typeLookup_type,builtinLookup_eq_fast];kernel_rfl) (by decide +kernel) (by decide +kernel) (by decide +kernel)
  (by first | exact .inl (by decide +kernel) | exact .inr (by decide +kernel)) (by rw [isSubtype_type];kernel_rfl)
theorem Ca:Slot "reversed" "__iter__" "reversed.__iter__" :=
 .of (owner:="reversed") (n:="__iter__") (by rw [typeLookup_type,builtinLookup_eq_fast];kernel_rfl) (by decide +kernel) (by decide +kernel) (by decide +kernel)
  (by first | exact .inl (by decide +kernel) | exact .inr (by decide +kernel)) (by rw [isSubtype_type];kernel_rfl)
theorem Cb:entryFor table "reversed.__next__" = some Builtin.«reversed.__next__»:=entryFor_of_tree (by kernel_rfl)
theorem Cc (a:Value):argsOk "reversed.__next__" ⟨[a],[]⟩:=by unfold argsOk;kernel_rfl
theorem Fc:entryFor table "reversed.__iter__" = some Builtin.«dict_keyiterator.__iter__» :=
 entryFor_alias (id':="dict_keyiterator.__iter__") (by kernel_rfl) (by first | rfl | decide +kernel) (by decide +kernel) (by kernel_rfl)
theorem Fd (a:Value):argsOk "reversed.__iter__" ⟨[a],[]⟩:=by unfold argsOk;kernel_rfl
theorem Fe:typeLookup (.type "tuple") "__reversed__" = pure none:=by rw [typeLookup_type,builtinLookup_eq_fast];kernel_rfl
theorem Ff:typeLookup (.type "str") "__reversed__" = pure none:=by rw [typeLookup_type,builtinLookup_eq_fast];kernel_rfl
def il (h:Heap) (a:Addr) (v:Value) (i:Int):Prop:=∃ o,h.get? a=some o/\o.cls=.type "reversed" /\ o.data=.fields #[v,rawInt i]
theorem il.at {h h':Heap} {a:Addr} {v:Value} {i:Int} (x:il h a v i) (e:∀ o,h.get? a=some o->h'.get? a=some o):il h' a v i:=let ⟨o,ho,r⟩:=x;⟨o,e _ ho,r⟩
section
variable {prog:Program} {w:World} {A:Around} {E:Value->Shared->Prop} {s:Shared}
theorem il.typeIs {a:Addr} {v:Value} {i:Int} (x:il s.heap a v i):s.TypeIs (.ref a) "reversed" := let ⟨o,ho,hc,_⟩:=x;⟨o,ho,hc⟩
theorem Cd {it:Addr} {v:Value} {i:Int} {Q:Value->Shared->Prop} (hit:il s.heap it v i) (h:Q (.ref it) s):wpAny (model prog w) A (pyIter (.ref it)) Q E s:=by
 refine wpAny_pyIter_slot hit.typeIs Ca (wpAny_call_entry Ca hit.typeIs Fc ?_ (Fd _))
 show wpAny _ _ (ret (.ref it)) _ _ s
 exact wpAny_pure ⟨_,rfl,"reversed",_,hit.typeIs,uZ.lookup,h⟩
theorem Fg {it:Addr} {T gid:String} {v:Value} {y:Value->Prop} {i:Nat} {Q:Option Value->Shared->Prop} (hit:il s.heap it v (i:Int)) (hT:s.TypeIs v T) (hg:typeLookup (.type T) "__getitem__" = pure (some (.builtin gid)))
  (hget:∀ (A':Around) (E':Value->Shared->Prop) (Q':Value->Shared->Prop) (tk:Tok) (n:Nat),(∀ z k,y z->Q' z { s with toks:=k })->wpAny (model prog w) A' (getItem v (.int i tk)) Q' E' { s with toks:=n })
  (hQ:∀ x h' k,y x->il h' it v ((i:Int) - 1)->Heap.SameBut it s.heap h'->Q (some x) { s with heap:=h',toks:=k }):wpAny (model prog w) A (pyNext (.ref it)) Q E s:=by
 obtain ⟨o,ho,hc,hd⟩:=id hit
 unfold pyNext
 refine wpAny_bind (wpAny_attempt (wpAny_callSpecial?_slot (name:=Str.ofString "__next__") hit.typeIs uZ
  (wpAny_call_entry uZ hit.typeIs Cb ?_ (Cc _))))
 unfold Builtin.«reversed.__next__»
 refine wpAny_bind (wpAny_of_eq (a:=(Value.ref it,[])) rfl ?_)
 try dsimp only
 refine wpAny_bind (wpAny_field ho hd (x:=v) rfl ?_)
 refine wpAny_bind (wpAny_field ho hd (x:=rawInt (i:Int)) rfl ?_)
 show wpAny _ _ (if (i:Int) < 0 then _ else _) _ _ s
 rw [if_neg (by omega)]
 refine wpAny_bind (wpAny_specialOf hT hg ?_)
 try dsimp only
 rw [if_neg (by simp)]
 refine wpAny_bind (wpAny_mkInt ?_)
 refine wpAny_bind (wpAny_attempt (hget _ _ _ _ _ fun x k hx=>?_))
 show wpAny _ _ (field (.ref it) 1 >>= _) _ _ _
 refine wpAny_bind (wpAny_field ho hd (x:=rawInt (i:Int)) rfl ?_)
 refine wpAny_bind (wpAny_setField ho hd (by simp) ?_)
 first
 | refine wpAny_pure ⟨x,rfl,wpAny_pure (hQ _ _ _ hx ?_ (Heap.SameBut.update ..))⟩
 | refine wpAny_pure ⟨x,rfl,wpAny_bind (wpAny_pure (wpAny_pure (hQ _ _ _ hx ?_ (Heap.SameBut.update ..))))⟩
 exact ⟨_,Heap.get?_update_self _ ho (Obj.isFreed_of_fields (Obj.data_mapFields hd _)),(Obj.cls_mapFields ..).trans hc,by rw [Obj.data_mapFields hd];simp [rawInt]⟩
theorem Fh {it:Addr} {v:Value} {i:Int} {Q:Option Value->Shared->Prop} (hh:A.handled=none) (hit:il s.heap it v i) (hi:i < 0)
  (hQ:∀ h',Heap.ExtBut it s.heap h'->Q none { s with heap:=h' }):wpAny (model prog w) A (pyNext (.ref it)) Q E s:=by
 obtain ⟨o,ho,hc,hd⟩:=id hit
 unfold pyNext
 refine wpAny_bind (wpAny_attempt (wpAny_callSpecial?_slot (name:=Str.ofString "__next__") hit.typeIs uZ
  (wpAny_call_entry uZ hit.typeIs Cb ?_ (Cc _))))
 unfold Builtin.«reversed.__next__»
 refine wpAny_bind (wpAny_of_eq (a:=(Value.ref it,[])) rfl ?_)
 try dsimp only
 refine wpAny_bind (wpAny_field ho hd (x:=v) rfl ?_)
 refine wpAny_bind (wpAny_field ho hd (x:=rawInt i) rfl ?_)
 show wpAny _ _ (if i < 0 then _ else _) _ _ s
 rw [if_pos hi]
 refine wpAny_bind (wpAny_rule ?_)
 refine wpAny_bind ?_
 show wpAny _ _ (setField (.ref it) 1 (rawInt (-1)) >>= fun _=>setField (.ref it) 0 .none) _ _ _
 refine wpAny_bind (wpAny_setField ho hd (by simp) ?_)
 have Fi:=Heap.get?_update_self (Obj.mapFields fun x=>x.setIfInBounds 1 (rawInt (-1))) ho (Obj.isFreed_of_fields (Obj.data_mapFields hd _))
 have hd1:=Obj.data_mapFields hd (fun x=>x.setIfInBounds 1 (rawInt (-1)))
 refine wpAny_setField Fi hd1 (by simp) ?_
 first
 | show wpAny _ _ (newExc (.type "StopIteration") [] >>= _) _ _ _
 | (refine wpAny_bind ?_;show wpAny _ _ (newExc (.type "StopIteration") [] >>= _) _ _ _)
 refine wpAny_bind ?_
 simp only [newExc,newTuple]
 refine wpAny_bind (wpAny_newObj_type ?_ (by size_fits))
 refine wpAny_bind (m:=firstArgMember _ _) (wpAny_of_eq (a:=Value.none) (by first | rfl | (simp only [firstArgMember];rfl)) ?_)
 refine wpAny_newObj_type ?_ (by size_fits)
 simp only [raiseNew]
 refine wpAny_bind (wpAny_handled ?_)
 first | rw [show A.in1.handled=none from hh] | rw [hh]
 refine wpAny_bind (wpAny_pure (wpAny_throw ?_))
 refine wpAny_bind (wpAny_isInstance (T:="StopIteration") (b:=true) ⟨_,Heap.get?_push_size _ rfl,rfl⟩ isSubtype_stop ?_)
 refine wpAny_pure (hQ _ ?_)
 have x2:Heap.ExtBut it s.heap ((s.heap.update it (Obj.mapFields fun x=>x.setIfInBounds 1 (rawInt (-1)))).update it (Obj.mapFields fun x=>x.setIfInBounds 0 .none)):=fun c o hc e=>(Heap.SameBut.update ..).extBut c o hc ((Heap.SameBut.update ..).extBut c o hc e)
 exact (x2.push _).push _
end
def Ce (K:PySem.W.Frag) (src:ZS) (n:Nat):It:=⟨fun i H=>i < n/\∃ v,src.has K H (n - 1 - i) v,fun i H x H'=>H'=H/\∀ v,src.has K H (n - 1 - i) v->v=x,fun i _=>i=n⟩
theorem ZS.got {X:Cx} {pins:List (Addr×Obj)} {σ:St} {H:Hp} {s:Shared} {src:ZS} {u:Value} {x:V} {i:Nat} {v:V} (I:Inv X pins σ H s) (r:RelV x u) (hv:src.val X.K H x) (nl:∀ a,src≠.lst a) (hs:∀ z,src=.str z->z.length<=sizeLine) (h:src.has X.K H i v) :
  ∃ (T gid:String) (y:Value->Prop),s.TypeIs u T/\typeLookup (.type T) "__getitem__" = pure (some (.builtin gid))/\(∀ z,y z->RelV v z) /\
   ∀ (A':Around) (E':Value->Shared->Prop) (Q':Value->Shared->Prop) (tk:Tok) (n:Nat),(∀ z k,y z->Q' z { s with toks:=k })->wpAny (model X.prog X.w) A' (getItem u (.int i tk)) Q' E' { s with toks:=n }:=by
 have hn:=ik
 cases src with
 | lst a=>exact absurd rfl (nl a)
 | tup a =>
  obtain ⟨rfl,xs,hq⟩:=hv
  obtain ⟨xs',hq',hx⟩:=h
  rw [I.gj hq' hq] at hx
  cases r
  obtain ⟨its,rv,pl,hz⟩:=I.tuple hq
  obtain ⟨w,ew,rw'⟩:=rv.get hx
  have hl:=rv.length
  have hi:=(List.getElem?_eq_some_iff.mp hx).1
  refine ⟨"tuple",_,fun z=>z=w,pl.typeIs,slot_tuple_getitem.lookup,fun z e=>e ▸ rw',fun A' E' Q' tk n hq'=>?_⟩
  exact getItem_tuple (s:={ s with toks:=n }) (j:=i) pl (by omega) (by omega) (by rw [List.size_toArray];exact seqIndex_of (by omega) (by omega)) (by simpa using ew) (hq' w n rfl)
 | str z =>
  cases hv
  obtain ⟨c,hx,rfl⟩:=h
  obtain ⟨t,rfl⟩:=r
  have hi:=(Array.getElem?_eq_some_iff.mp hx).1
  have hl:z.length=z.cps.size:=rfl
  have JT:=hs z rfl
  refine ⟨"str",_,fun y=>∃ t,y=.str ⟨#[c]⟩ t,typeIs_str s z t,slot_str_getitem.lookup,fun y hy=>hy,fun A' E' Q' tk n hq'=>?_⟩
  refine getItem_str (s:={ s with toks:=n }) (c:=c) (by
   have e1:decide ((i:Int) < -(2 ^ 63:Int))=false:=decide_eq_false (by omega)
   have e2:decide ((i:Int) >= 2 ^ 63)=false:=decide_eq_false (by omega)
   rw [e1,e2,Bool.or_false]) (by rw [seqIndex_of (by omega) (by omega)];simpa using hx) (hq' _ _ ⟨_,rfl⟩)
theorem Fj {P:Program} {w:World} {K:PySem.W.Frag} {tg:Expr} (src:ZS) (u:Value) (n:Nat) (it:Addr) (nl:∀ a,src≠.lst a) (hs:∀ z,src=.str z->z.length<=sizeLine) (x:V) (rx:RelV x u) (hsv:∀ (H:Hp) (v:V) (i:Nat),src.has K H i v->src.val K H x) :
  Turn P w K tg (Ce K src n) [it] it (fun i h=>il h it u ((n:Int) - 1 - (i:Nat))) where
 mem:=by simp
 obj:=fun i h st b hb=>by
  have e:b=it:=by simpa using hb
  subst e
  obtain ⟨o,e,c,d⟩:=st
  exact ⟨o,e,fun v z=>by rw [d] at z;cases z⟩
 keep:=fun i h h' st k=>st.at fun o e=>k it (by simp) o e
 item:=by
  intro X hP hw hK hc i pins s σ H E I hf st hg
  subst hP hw hK
  obtain ⟨hin,v,hv⟩:=hg
  obtain ⟨f0,f1,f2,f3,f4,f5⟩:=hf it (by simp)
  obtain ⟨T,gid,y,hT,hl,hy,hget⟩:=ZS.got I rx (hsv H v _ hv) nl hs hv
  have st':il s.heap it u ((n - 1 - i:Nat):Int):=by
   have e:((n - 1 - i:Nat):Int)=(n:Int) - 1 - (i:Nat):=by omega
   rw [e];exact st
  refine Fg st' hT hl hget fun z h' tk hz hr sb=>?_
  have I1:Inv X pins σ H { s with heap:=h',toks:=tk }:=I.turned (fun b o hb e=>(sb.2 b hb).trans e) f0 f1 f3 f4 f5
  have hr':il h' it u ((n:Int) - 1 - ((i + 1:Nat):Int)):=by
   have e:(n:Int) - 1 - ((i + 1:Nat):Int)=((n - 1 - i:Nat):Int) - 1:=by omega
   rw [e];exact hr
  obtain ⟨o,e,c,d⟩:=id hr
  exact ⟨z,rfl,xu (s:={ s with heap:=h',toks:=tk }) e c d (by decide) ⟨v,H,I1,hy z hz,⟨rfl,fun v' hv'=>ZS.nz I hv hv'⟩,hr',fun b hb=>(hf b hb).1⟩⟩
 done:=by
  intro X hP hw hK hc i pins s σ H E I hf st hg
  subst hP hw hK
  have hg:i=n:=hg
  subst hg
  obtain ⟨f0,f1,f2,f3,f4,f5⟩:=hf it (by simp)
  exact Fh (I.ok.hd hc) st (by omega) fun h' eb=>⟨rfl,I.turned (t':=s.toks) (fun b o hb e=>eb b o hb e) f0 f1 f3 f4 f5⟩
 self:=fun _ _ _ _ _ st h=>Cd st h
theorem Fm:Slot "reversed" "__init__" "object.__init__" :=
 .of (owner:="object") (n:="__init__") (by rw [typeLookup_type,builtinLookup_eq_fast];kernel_rfl) (by decide +kernel) (by decide +kernel) (by decide +kernel)
  (by first | exact .inl (by decide +kernel) | exact .inr (by decide +kernel)) (by rw [isSubtype_type];kernel_rfl)
theorem Cf:TypeCalled "reversed" "reversed.__new__" "object.__init__" :=
 ⟨by decide +kernel,by decide +kernel,⟨_,_,F.mro_reversed⟩,F.made_reversed,by decide +kernel,by rw [isSubtype_type];kernel_rfl,Fm⟩
theorem Cg {u:Value} {T gid:String} {n:Nat} (h0:typeLookup (.type T) "__reversed__" = pure none) (h1:typeLookup (.type T) "__getitem__" = pure (some (.builtin gid))) (hsub:isSubtype (.type T) (.type "dict")=pure false)
  (Ac:["tuple.__getitem__","str.__getitem__","bytes.__getitem__","bytearray.__getitem__","memoryview.__getitem__","numpy.ndarray.__getitem__","sqlite3.Row.__getitem__"].contains gid=true) :
  Meets (Builtin.«reversed.__new__» ⟨[.type "reversed",u],[]⟩) (fun _ R s=>s.TypeIs u T /\
   (∀ (prog:Program) (w:World) (A':Around) (E':Value->Shared->Prop) (Q':Value->Shared->Prop),(∀ t k,Q' (.int n t) { s with toks:=k })->wpAny (model prog w) A' (call (.builtin "len") [u]) Q' E' s) /\
   ∀ k,R (.ok (.ret (.ref s.heap.objs.size))) { s with heap:=s.heap.push { cls:=.type "reversed",data:=.fields #[u,rawInt ((n:Int) - 1)] },toks:=k }) :=
 .of_wp fun prog w A R s h=>by
 obtain ⟨hT,hlen,h⟩:=h
 unfold Builtin.«reversed.__new__»
 refine wpAny_bind (wpAny_of_eq (newClass_reversed _) ?_)
 try dsimp only
 refine wpAny_bind (wpAny_of_eq (a:=()) (by first | rfl | kernel_rfl) ?_)
 refine wpAny_bind (wpAny_of_eq (a:=()) (by first | rfl | kernel_rfl) ?_)
 try dsimp only
 refine wpAny_bind (wpAny_specialOf hT h0 ?_)
 try dsimp only
 refine wpAny_bind ?_
 show wpAny _ _ (isInstance u (.type "dict") >>= _) _ _ _
 refine wpAny_bind (wpAny_isInstance (b:=false) hT hsub ?_)
 rw [if_neg Bool.false_ne_true]
 refine wpAny_bind (wpAny_specialOf hT h1 ?_)
 show wpAny _ _ (if ["tuple.__getitem__","str.__getitem__","bytes.__getitem__","bytearray.__getitem__","memoryview.__getitem__","numpy.ndarray.__getitem__","sqlite3.Row.__getitem__"].contains gid=true then _ else _) _ _ _
 rw [if_pos Ac]
 refine wpAny_pure ?_
 rw [if_neg (by simp)]
 refine wpAny_bind (hlen _ _ _ _ _ fun t k=>?_)
 refine wpAny_bind (wpAny_of_eq (a:=some (n:Int)) rfl ?_)
 try dsimp only
 refine wpAny_bind ?_
 show wpAny _ _ (newObj (.type "reversed") (.fields #[u,rawInt ((n:Int) - 1)])) _ _ _
 refine wpAny_newObj_type ?_
 exact wpAny_pure ⟨_,rfl,h k⟩
theorem Fn:isSubtype (.type "tuple") (.type "dict")=pure false:=by rw [isSubtype_type];kernel_rfl
theorem Fo:isSubtype (.type "str") (.type "dict")=pure false:=by rw [isSubtype_type];kernel_rfl
def u0 (K:PySem.W.Frag) (ta:TA):TI:=fun σ H R=>ta σ H fun vs H1=>∃ (x:V) (src:ZS) (n:Nat),vs=[x]/\src.val K H1 x/\src.fin K H1 n/\(∀ a,src≠.lst a)/\(∀ z,src=.str z->z.length<=sizeLine)/\R (Ce K src n) H1
theorem qC {X:Cx} {tg l:Expr} {ta:TA} {p pos:Pos} (hg:Gl X "reversed") (hm:X.mg "reversed" = none) (ha:PA X [l] ta) (hs:starEach [l] X.env=[(false,eval l X.env)]:=by rfl) :
  PI X tg (.Call (.Name "reversed" p) [l] [] pos) (u0 X.K ta):=by
 intro pins s σ H R I h
 refine Call_ (ug I hg hm ER (PyProof.Rows.callWith_type1 (bW (ha pos pins s σ H _ I h) fun us s1 ⟨vs,H1,I1,r1,q1⟩=>?_) hs rfl))
 obtain ⟨x,src,n,e,hv,hn,nl,hz,q⟩:=q1
 subst e
 obtain ⟨u,rfl,r⟩:=vals1 r1
 ·have JU:=ik
  have hsv:∀ (H:Hp) (v:V) (i:Nat),src.has X.K H i v->src.val X.K H x:=fun H v i hh=>by
   cases src with
   | tup a=>obtain ⟨xs,h1,_⟩:=hh;exact ⟨hv.1,xs,h1⟩
   | lst a=>exact absurd rfl (nl a)
   | str z=>exact hv
  have fin:∀ k,wpAny (model X.prog X.w) X.A (pyIter (.ref s1.heap.objs.size)) (zv X pins σ tg R) X.xe { s1 with heap:=s1.heap.push { cls:=.type "reversed",data:=.fields #[u,rawInt ((n:Int) - 1)] },toks:=k }:=fun k=>by
   have g:il (s1.heap.push { cls:=.type "reversed",data:=.fields #[u,rawInt ((n:Int) - 1)] }) s1.heap.objs.size u ((n:Int) - 1 - (0:Nat)):=⟨_,Heap.get?_push_size _ rfl,rfl,by simp⟩
   refine Cd g ?_
   refine ⟨s1.heap.objs.size,[s1.heap.objs.size],_,_,H1,rfl,I1.kept (t':=k) fun b o e=>Heap.get?_push_of_some _ e,Fj src u n _ nl hz x r hsv,g,fun b hb=>?_,q⟩
   have e:b=s1.heap.objs.size:=by simpa using hb
   subst e
   exact I1.lu (Nat.le_refl _) (I1.hok.fresh (Nat.le_refl _))
  cases src with
  | lst a=>exact absurd rfl (nl a)
  | tup a =>
   obtain ⟨rfl,xs,hq⟩:=id hv
   obtain ⟨xs',hq',hx⟩:=hn
   have hx:xs.length=n:=by rw [<- I1.gj hq' hq];exact hx
   cases r
   obtain ⟨its,rv,pl,hz'⟩:=I1.tuple hq
   have hl:=rv.length
   refine callType_new Cf (by decide) (F.typeCall_reversed_1 _) (F.newCall_reversed_1 _) (fun obj=>F.args_object_init_2 obj _) F.entry_reversed_new (Cg (n:=n) Fe slot_tuple_getitem.lookup Fn (by decide)) ⟨pl.typeIs,fun prog w A' E' Q' hq=>?_,fun k=>⟨⟨_,Heap.get?_push_size _ rfl,rfl⟩,fin k⟩⟩
   have e:its.toArray.size=n:=by rw [List.size_toArray];omega
   refine len_tuple pl (by rw [e];omega) ?_
   rw [e]
   exact hq _ _
  | str z =>
   cases hv
   have hn:z.length=n:=hn
   have:=hz z rfl
   obtain ⟨t,rfl⟩:=r
   refine callType_new Cf (by decide) (F.typeCall_reversed_1 _) (F.newCall_reversed_1 _) (fun obj=>F.args_object_init_2 obj _) F.entry_reversed_new (Cg (n:=n) Ff slot_str_getitem.lookup Fo (by decide)) ⟨typeIs_str _ z t,fun prog w A' E' Q' hq=>?_,fun k=>⟨⟨_,Heap.get?_push_size _ rfl,rfl⟩,fin k⟩⟩
   refine len_str (by omega) ?_
   rw [hn]
   exact hq _ _
end L2
namespace L2
open PySem PySem.Spec PyProof.Rows
open Builtin
section
variable {X:Cx}
end
theorem Ci:fillsNumberSlot (.type "tuple") "mul" = pure false :=
 PySem.fillsNumberSlot_seq (id:="tuple.__mul__") (r:=some (.builtin "tuple.__rmul__")) F.slot_tuple_mul.lookup (by decide +kernel) F.slot_tuple_rmul.lookup (by decide +kernel)
theorem Cj:seqRepeat? (.type "tuple")=pure (some (.builtin "tuple.__mul__")):=by
 unfold seqRepeat?
 rw [PySem.seqSlot_of (T:="tuple") (name:="__mul__") (id:="tuple.__mul__") F.slot_tuple_mul.lookup (by decide +kernel),PySem.seqSlot_of (T:="tuple") (name:="__rmul__") (id:="tuple.__rmul__") F.slot_tuple_rmul.lookup (by decide +kernel)]
 rfl
theorem Ck (a:Int) (t:Tok) (l:Addr) (items:Array Value) (n:Nat) (dd:Option Addr) (sl:Array (Option Value)) :
  Meets (Builtin.«int.__rmul__» ⟨[.int a t,.ref l],[]⟩) (fun _ R s=>s.heap.get? l=some { cls:=.type "tuple",dict:=dd,data:=.seq items n,slots:=sl }/\R (.ok (.ret Value.notImplemented)) s) :=
 .of_wp fun prog w A R s h=>by obtain ⟨hp,g,d,tk,os⟩:=s;obtain ⟨hl,h⟩:=h;wp_walk;exact ⟨_,rfl,h⟩
theorem Fp (t:Tok) (l:Addr) (items:Array Value) (n:Nat) (dd:Option Addr) (sl:Array (Option Value)) :
  Meets (Builtin.«tuple.__mul__» ⟨[.ref l,.int 1 t],[]⟩) (fun _ R s=>s.heap.get? l=some { cls:=.type "tuple",dict:=dd,data:=.seq items n,slots:=sl }/\R (.ok (.ret (.ref l))) s) :=
 .of_wp fun prog w A R s h=>by obtain ⟨hp,g,d,tk,os⟩:=s;obtain ⟨hl,h⟩:=h;wp_walk;exact ⟨_,rfl,h⟩
theorem Fq (t:Tok) (l:Addr) (n:Nat) (dd:Option Addr) (sl:Array (Option Value)) :
  Meets (Builtin.«tuple.__mul__» ⟨[.ref l,.int 0 t],[]⟩) (fun _ R s=>s.heap.get? l=some { cls:=.type "tuple",dict:=dd,data:=.seq #[] n,slots:=sl }/\R (.ok (.ret (.ref l))) s) :=
 .of_wp fun prog w A R s h=>by obtain ⟨hp,g,d,tk,os⟩:=s;obtain ⟨hl,h⟩:=h;wp_walk;exact ⟨_,rfl,h⟩
theorem Fs (t:Tok) (l:Addr) (i:Value) (r:List Value) (n:Nat) (dd:Option Addr) (sl:Array (Option Value)) :
  Meets (Builtin.«tuple.__mul__» ⟨[.ref l,.int 0 t],[]⟩) (fun _ R s=>s.heap.get? l=some { cls:=.type "tuple",dict:=dd,data:=.seq (i :: r).toArray n,slots:=sl }/\R (.ok (.ret (.ref s.heap.objs.size))) { s with heap:=s.heap.push { cls:=.type "tuple",data:=.seq #[] } }) :=
 .of_wp fun prog w A R s h=>by obtain ⟨hp,g,d,tk,os⟩:=s;obtain ⟨hl,h⟩:=h;wp_walk;exact ⟨_,rfl,h⟩
def u3 (K:PySem.W.Frag):R2:=fun x y H Q=>∃ a k xs,x=.ref a/\y=.int k/\dF K H a xs/\0<=k/\k<=1/\jG K H (if k=1 then xs else []) Q
theorem Ft {X:Cx}:gI X (binaryOp .Mult) (u3 X.K):=by
 intro pins s σ H x y v u Q I rx ry h
 obtain ⟨a,k,xs,rfl,rfl,ha,hk1,hk2,q⟩:=h
 cases rx
 obtain ⟨t,rfl⟩:=ry
 obtain ⟨its,r1,p1,_⟩:=I.tuple ha
 obtain ⟨⟨cls,dd,data,sl⟩,ho,hc,n,hd⟩:=id p1
 simp only at hc hd
 subst hc hd
 refine wpAny_binaryOp_repeat_ref (T:="tuple") (U:="int") (by decide) ⟨_,ho,rfl⟩ (fun s'=>typeIs_int s' k t) Ci F.fills_int_mul F.slot_int_rmul Cj F.slot_int_index.lookup
  (call_meets F.slot_int_rmul (typeIs_int s k t) F.entry_int_rmul (F.args_int_rmul_2 _ _) (Ck k t a its.toArray n dd sl)
   ⟨ho,rfl,⟨_,ho,rfl⟩,?_⟩)
 by_cases h1:k=1
 ·subst h1
  rw [if_pos rfl] at q
  exact call_meets F.slot_tuple_mul ⟨_,ho,rfl⟩ F.entry_tuple_mul (F.args_tuple_mul_2 _ _) (Fp t a its.toArray n dd sl) ⟨ho,⟨.ref a,H,I,rfl,q.it ha⟩⟩
 ·rw [if_neg h1] at q
  have h0:k=0:=by omega
  subst h0
  cases its with
  | nil =>
   have e:xs=[]:=r1.g8.mp rfl
   exact call_meets F.slot_tuple_mul ⟨_,ho,rfl⟩ F.entry_tuple_mul (F.args_tuple_mul_2 _ _) (Fq t a n dd sl) ⟨ho,⟨.ref a,H,I,rfl,q.it (by rw [<- e];exact ha)⟩⟩
  | cons i r =>
   refine call_meets F.slot_tuple_mul ⟨_,ho,rfl⟩ F.entry_tuple_mul (F.args_tuple_mul_2 _ _) (Fs t a i r n dd sl) ⟨ho,?_⟩
   refine ⟨.ref s.heap.objs.size,_,I.laid (t':=s.toks) (o:=.tup []) (fun b ob q=>Heap.get?_push_of_some _ q) (Nat.le_refl _) ?_,rfl,q.new _ (I.hok.fresh (Nat.le_refl _))⟩
   exact ⟨by simp,_,.nil,i3.new _ _⟩
end L2
namespace L2
open PySem PySem.Spec PyProof.Rows
section
variable {prog:Program} {w:World} {A:Around} {E:Value->Shared->Prop} {s:Shared}
end
section
variable {X:Cx} {pos:Pos}
end
end L2
namespace L2
open PySem PySem.Spec PyProof.Rows
section
variable {prog:Program} {w:World} {A:Around} {E:Value->Shared->Prop} {s:Shared}
end
end L2
namespace L2
open PySem PySem.Spec PyProof.Rows
section
variable {prog:Program} {w:World} {A:Around} {E:Value->Shared->Prop} {s:Shared}
end
end L2
namespace L2
open PySem PySem.Spec PyProof.Rows
end L2
namespace L2
open PySem PySem.Spec PyProof.Rows
section
variable {X:Cx} {pos:Pos}
end
end L2
namespace L2
open PySem PySem.Spec PyProof.Rows
def DU (a:Addr) (xs:List (List Int×Addr×Value)):HO:=.ext fun h=>(a == sysModules)=false/\xs.length<=sizeLine/\∃ o es ep,h.get? a=some o/\o.ExactDict/\o.data=.dict es ep /\
 (∃ (P:Program) (w:World),es.toList=xs.map (entryOfKey (tupleKind (intKind P w))))/\(xs.map (·.1)).Nodup
section
variable {X:Cx} {pins:List (Addr×Obj)} {σ:St} {H:Hp} {s:Shared} {a b:Addr} {k:List Int} {xs:List (List Int×Addr×Value)}
end
section
variable {X:Cx} {o i e value:Expr} {pos pos' tpos:Pos} {td ty tv:TE}
end
end L2
namespace L2
open PySem PySem.Spec PyProof.Rows PySem.SeqAt PySem.MeetsSeq
section
variable {prog:Program} {w:World} {A:Around} {R:Result->Shared->Prop} {I:Addr} {fp wr:List Addr} {n:Nat} {P:Nat->Value->Prop} {St:Nat->Heap->Prop}
end
section
variable {prog:Program} {w:World} {A:Around} {E:Value->Shared->Prop} {s:Shared}
end
section
variable {X:Cx}
end
end L2
namespace L2
open PySem PySem.Spec PyProof.Rows PySem.W
section
variable {lt:Nat->Nat->Bool} {n0:Nat} {cmp:Nat->Nat->(Bool->Shared->Prop)->Shared->Prop} {s:Shared}
structure Ord (lt:Nat->Nat->Bool):Prop where
 tr:∀ a b c,lt b a=false->lt c b=false->lt c a=false
 as:∀ a b,lt a b=true->lt b a=false
def P (p:Array Nat) (i:Nat):Nat:=p.getD i 0
variable (o:Ord lt) (hn:0 < n0) (hc:∀ i j (C:Bool->Shared->Prop),i < n0->j < n0->C (lt i j) s->cmp i j C s)
include o hn hc
end
section
variable {prog:Program} {w:World} {A:Around} {E:Value->Shared->Prop} {s:Shared}
end
section
variable {prog:Program} {w:World} {A:Around} {E:Value->Shared->Prop} {s:Shared} {lt:Nat->Nat->Bool}
end
section
variable {X:Cx}
end
end L2
namespace L2
open PySem PySem.Spec PyProof.Rows
section
variable {X:Cx} {o e f:Expr} {apos cpos:Pos} {td ty tx:TE}
end
end L2
namespace L2
open PySem PySem.Spec PyProof.Rows PySem.W
section
variable {X:Cx} {o e:Expr} {t t' td:TE} {apos cpos pos p:Pos}
end
end L2
namespace L2
open PySem PySem.Spec PyProof.Rows
section
variable {X:Cx} {body:List Stmt} {h₀:ExceptHandler} {hs:List ExceptHandler} {pos:Pos} {t:TS}
end
end L2
namespace L2
open PySem PySem.Spec PyProof.Rows
section
variable {X:Cx} {K:PySem.W.Frag}
end
end L2
namespace L2
open PySem PySem.Spec PyProof.Rows
open Builtin
theorem Fu (k:Int) (t:Tok) (l:Addr) (items:Array Value) (n:Nat) (dd:Option Addr) (sl:Array (Option Value)) (hc0:(decide (k < -(2 ^ 63)) || decide (k >= 2 ^ 63))=false) (hc1:(items.isEmpty || k == 1)=false) (hc2:(decide (k<=0) || items.isEmpty)=false) (hc3:¬ (items.size:Int) * k > (2 ^ 63 - 1) / 8) (hc4:Builtin.Tuple.tupleTooMany ((items.size:Int) * k)=false) (hsz:((List.replicate k.toNat items).foldl (· ++ ·) #[]).size<=sizeLine) :
  Meets (Builtin.«tuple.__mul__» ⟨[.ref l,.int k t],[]⟩) (fun _ R s=>s.heap.get? l=some { cls:=.type "tuple",dict:=dd,data:=.seq items n,slots:=sl }/\R (.ok (.ret (.ref s.heap.objs.size))) { s with heap:=s.heap.push { cls:=.type "tuple",data:=.seq ((List.replicate k.toNat items).foldl (· ++ ·) #[]) } }) :=
 .of_wp fun prog w A R s h=>by
  obtain ⟨hp,g,d,tk,os⟩:=s;obtain ⟨hl,h⟩:=h
  wp_walk
  refine wpAny_ite_false (decide_eq_false (by rw [hc0];exact Bool.false_ne_true)) ?_
  wp_walk
  refine wpAny_ite_false (decide_eq_false hc3) ?_
  wp_walk
  exact ⟨_,rfl,h⟩
theorem Cm:∀ (l:List (Array Value)) (a:Array Value),(l.foldl (· ++ ·) a).toList=a.toList ++ (l.map Array.toList).flatten
 | [],a=>by simp
 | b :: l,a=>by rw [List.foldl_cons,Cm l (a ++ b)];simp
end L2
namespace L2
open PySem PySem.Spec PyProof.Rows
section
variable {X:Cx} {K:PySem.W.Frag}
def oP (K:PySem.W.Frag):R2:=fun x y H Q=>∃ a k xs,x=.ref a/\y=.int k/\dF K H a xs/\0 < xs.length/\xs.length<=100/\0<=k/\k<=1000/\jG K H (List.replicate k.toNat xs).flatten Q
theorem Ad {α:Type} (l:List α):∀ n:Nat,(List.replicate n l).flatten.length=n * l.length
 | 0=>by simp
 | n + 1=>by rw [List.replicate_succ,List.flatten_cons,List.length_append,Ad l n,Nat.succ_mul];omega
theorem Fv {X:Cx}:gI X (binaryOp .Mult) (oP X.K):=by
 intro pins s σ H x y v u Q I rx ry h
 obtain ⟨a,k,xs,rfl,rfl,ha,Fw,Fx,hk1,hk2,q⟩:=h
 by_cases h1:k<=1
 ·refine Ft pins s σ H _ _ v u Q I rx ry ⟨a,k,xs,rfl,rfl,ha,hk1,h1,?_⟩
  by_cases h2:k=1
  ·subst h2
   have e:(List.replicate (1:Int).toNat xs).flatten=xs:=by simp
   rw [e] at q
   rw [if_pos rfl]
   exact q
  ·have h0:k=0:=by omega
   subst h0
   rw [if_neg h2]
   exact q
 ·cases rx
  obtain ⟨t,rfl⟩:=ry
  obtain ⟨its,r1,p1,_⟩:=I.tuple ha
  obtain ⟨⟨cls,dd,data,sl⟩,ho,hc,n,hd⟩:=id p1
  simp only at hc hd
  subst hc hd
  have hl1:its.length=xs.length:=r1.length.symm
  have hkn:k.toNat * its.length<=100000:=by
   have:k.toNat * its.length<=1000 * 100:=Nat.mul_le_mul (by omega) (by omega)
   omega
  have JV:100000<=sizeLine:=by decide
  have hal:((List.replicate k.toNat its.toArray).foldl (· ++ ·) #[]).toList=(List.replicate k.toNat its).flatten:=by rw [Cm];simp
  have hsz:((List.replicate k.toNat its.toArray).foldl (· ++ ·) #[]).size<=sizeLine:=by
   rw [<- Array.length_toList,hal,Ad]
   omega
  have xN:((its.toArray.size:Nat):Int) * k<=100000:=by
   rw [List.size_toArray]
   have e:((k.toNat * its.length:Nat):Int)=(its.length:Int) * k:=by rw [Int.natCast_mul,Int.toNat_of_nonneg hk1,Int.mul_comm]
   omega
  have hem:its.toArray.isEmpty=false:=by
   cases its with
   | nil=>simp at hl1;omega
   | cons i r=>rfl
  refine wpAny_binaryOp_repeat_ref (T:="tuple") (U:="int") (by decide) ⟨_,ho,rfl⟩ (fun s'=>typeIs_int s' k t) Ci F.fills_int_mul F.slot_int_rmul Cj F.slot_int_index.lookup
   (call_meets F.slot_int_rmul (typeIs_int s k t) F.entry_int_rmul (F.args_int_rmul_2 _ _) (Ck k t a its.toArray n dd sl)
    ⟨ho,rfl,⟨_,ho,rfl⟩,?_⟩)
  refine call_meets F.slot_tuple_mul ⟨_,ho,rfl⟩ F.entry_tuple_mul (F.args_tuple_mul_2 _ _) (Fu k t a its.toArray n dd sl ?_ ?_ ?_ ?_ ?_ hsz) ⟨ho,?_⟩
  ·simp;omega
  ·rw [hem];simp;omega
  ·rw [hem];simp;omega
  ·omega
  ·unfold Builtin.Tuple.tupleTooMany
   refine decide_eq_false ?_
   have:(100000:Int)<=(sizeLine:Int):=by decide
   omega
  ·obtain ⟨ar,e⟩:∃ ar:Array Value,ar=(List.replicate k.toNat its.toArray).foldl (· ++ ·) #[]:=⟨_,rfl⟩
   rw [<- e] at hal
   have rv:Vals (List.replicate k.toNat xs).flatten ar.toList:=by
    rw [hal]
    generalize k.toNat=m
    induction m with
    | zero=>exact .nil
    | succ m ih =>
     rw [List.replicate_succ,List.replicate_succ,List.flatten_cons,List.flatten_cons]
     exact r1.append ih
   rw [<- e]
   refine ⟨.ref s.heap.objs.size,_,I.laid (t':=s.toks) (o:=.tup (List.replicate k.toNat xs).flatten) (fun b ob q=>Heap.get?_push_of_some _ q) (Nat.le_refl _) ?_,rfl,q.new _ (I.hok.fresh (Nat.le_refl _))⟩
   refine ⟨?_,ar.toList,rv,?_⟩
   ·rw [rv.length,Array.length_toList,e];exact hsz
   ·have e3:ar.toList.toArray=ar:=by simp
    rw [e3]
    exact i3.new _ _
end
end L2
namespace L2
open PySem PySem.Spec PyProof.Rows PySem.W
section
variable {prog:Program} {w:World} {A:Around} {E:Value->Shared->Prop} {s:Shared}
end
end L2
namespace L2
open PySem PySem.Spec PyProof.Rows PySem.W
end L2
namespace L2
open PySem PySem.Spec PyProof.Rows
structure u5 (fs:List Addr) (e:Addr) (oe:Obj) (vs:Array Value) (T:Addr) (h h':Heap):Prop where
 exc:∃ o ws,h'.get? e=some o/\o.cls=oe.cls/\o.dict=oe.dict/\o.data=.fields ws/\ws.size=vs.size/\ws[1]?=some (.ref T)
 new:h.objs.size<=T
 head:∃ o ts,h'.get? T=some o/\o.data=.fields ts/\ts[3]?=some .none
 keep:∀ b o,h.get? b=some o->b≠e->vs[1]?≠some (.ref b)->b ∉ fs->h'.get? b=some o
 slot:∀ b o,h.get? b=some o->b≠e->vs[1]?≠some (.ref b)->∃ sl,h'.get? b=some { o with slots:=sl }
 old:∀ b,b≠e->vs[1]?=some (.ref b)->∃ o ts,h'.get? b=some o/\o.data=.fields ts/\ts[3]?=some .none
section
variable {M:Model} {A:Around} {E:Value->Shared->Prop} {s:Shared}
theorem Cn {base:Heap} {env:Env} {outer:List Env} {L e:Addr} {oe:Obj} {vs:Array Value} {hd0:Value} {hn:Bool} {Q:Unit->Shared->Prop} (hfr:A.frames=some (env :: outer)) (hl:s.heap.FunFrames base (env :: outer))
  (hf:env.frame=some L) (he:s.heap.get? e=some oe) (hd:oe.data=.fields vs) (hs:1 < vs.size)
  (h:∀ h' T,(∃ o ws,h'.get? e=some o/\o.cls=oe.cls/\o.dict=oe.dict/\o.data=.fields ws/\ws.size=vs.size/\ws[1]?=some (.ref T))->s.heap.objs.size<=T->(∃ o ts,h'.get? T=some o/\o.data=.fields ts/\ts[3]?=some .none) ->
   (∀ b o,s.heap.get? b=some o->b≠e->b ∉ frs (env :: outer)->h'.get? b=some o)->(∀ b o,s.heap.get? b=some o->b≠e->∃ sl,h'.get? b=some { o with slots:=sl })->Q () { s with heap:=h' }) :
  wpAny M A (do let a <- frameOf env;let pl <- entryPlaceOf L hn;let b <- EntryCells.newEntry hd0 a .none (rawInt L) .none pl;setField (.ref e) 1 b) (fun _ s'=>wpAny M A (setFlight (.ref e) none) Q E s') E s:=by
 have ne:e ∉ frs (env :: outer):=fun z=>by
  obtain ⟨_,o,q,nf⟩:=hl.mem z
  rw [he] at q;cases q;exact nf vs hd
 refine wpAny_bind (wpAny_frameOf_fun hfr hl hf fun h1 so=>wpAny_bind (wpAny_entryPlaceOf fun pl ip=>?_))
 obtain ⟨Fy,Co,Fz⟩:=so
 have e1:h1.get? e=some oe:=by rw [Co e ne];exact he
 unfold EntryCells.newEntry newFields
 refine wpAny_bind (wpAny_newObj_type ?_ (ip.sizeOk5 _ _ _ _ _))
 generalize htd:([hd0,Value.ref L,Value.none,rawInt L,Value.none] ++ (if pl.isEmpty then List.replicate 6 Value.none else pl)).toArray=td
 have t3:3 < td.size:=by
  rw [<- htd]
  simp only [List.size_toArray,List.length_append,List.length_cons,List.length_nil]
  omega
 generalize hob:({ cls:=.type "traceback",dict:=none,data:=.fields td }:Obj)=ob
 have Cp:ob.data=.fields td:=by rw [<- hob]
 have FA:ob.isFreed=false:=by rw [<- hob];rfl
 have e2:=Heap.get?_push_of_some ob e1
 refine wpAny_setField e2 hd hs ?_
 have nT:h1.objs.size≠e:=Nat.ne_of_gt (Heap.lt_size e1)
 have d3:=Obj.data_mapFields hd (·.setIfInBounds 1 (Value.ref h1.objs.size))
 have e3:=Heap.get?_update_self (Obj.mapFields (·.setIfInBounds 1 (Value.ref h1.objs.size))) e2 (Obj.isFreed_of_fields d3)
 have T3:((h1.push ob).update e (Obj.mapFields (·.setIfInBounds 1 (Value.ref h1.objs.size)))).get? h1.objs.size=some ob:=by
  rw [Heap.get?_update_other _ _ (Ne.symm nT)];exact Heap.get?_push_size h1 FA
 unfold setFlight
 refine wpAny_bind (wpAny_field e3 d3 (x:=.ref h1.objs.size) (by simp [hs]) ?_)
 rw [if_pos (by simp)]
 have d4:=Obj.data_mapFields Cp (·.setIfInBounds 3 ((none:Option Addr).elim Value.none fun f=>rawInt f))
 refine wpAny_setField T3 Cp t3 (h _ h1.objs.size ⟨_,_,?_,Obj.cls_mapFields _ _,?_,d3,by simp,by simp [hs]⟩ ?_ ⟨_,_,Heap.get?_update_self _ T3 (Obj.isFreed_of_fields d4),d4,?_⟩ (fun b o q n1 n2=>?_) fun b o q n1=>?_)
 ·rw [Heap.get?_update_other _ _ nT];exact e3
 ·obtain ⟨c0,d0,FC,s0⟩:=oe
  cases FC <;> first | rfl | cases hd
 ·rw [Fy];exact Nat.le_refl _
 ·simp [t3]
 ·have q1:h1.get? b=some o:=by rw [Co b n2];exact q
  rw [Heap.get?_update_other _ _ (Nat.ne_of_gt (Heap.lt_size q1)),Heap.get?_update_other _ _ (Ne.symm n1)]
  exact Heap.get?_push_of_some _ q1
 ·obtain ⟨sl,q1⟩:=Fz b o q
  refine ⟨sl,?_⟩
  rw [Heap.get?_update_other _ _ (Nat.ne_of_gt (Heap.lt_size q1)),Heap.get?_update_other _ _ (Ne.symm n1)]
  exact Heap.get?_push_of_some _ q1
theorem noted {base:Heap} {env:Env} {outer:List Env} {L e:Addr} {oe:Obj} {vs:Array Value} {Q:Unit->Shared->Prop} (hfr:A.frames=some (env :: outer)) (hl:s.heap.FunFrames base (env :: outer)) (hf:env.frame=some L)
  (he:s.heap.get? e=some oe) (hd:oe.data=.fields vs) (ht:vs[1]?=some .none\/∃ T oT ts,vs[1]?=some (.ref T)/\T≠e/\s.heap.get? T=some oT/\oT.data=.fields ts/\ts[3]?=some .none)
  (h:∀ h' T,u5 (frs (env :: outer)) e oe vs T s.heap h'->Q () { s with heap:=h' }):wpAny M A (noteFrame (.ref e) env) (fun _ s'=>wpAny M A (setFlight (.ref e) none) Q E s') E s:=by
 unfold noteFrame
 simp only [hf]
 rcases ht with h1 | ⟨T0,oT,ts,h1,nT,hT,dT,h3⟩
 ·refine wpAny_bind (wpAny_field he hd h1 ?_)
  rw [if_neg (by decide)]
  refine Cn hfr hl hf he hd (Array.getElem?_eq_some_iff.mp h1).1 fun h' T a1 a2 a3 a4 a5=>h h' T ⟨a1,a2,a3,fun b o q n1 _ n3=>a4 b o q n1 n3,fun b o q n1 _=>a5 b o q n1,fun b _ z=>by rw [h1] at z;cases z⟩
 ·refine wpAny_bind (wpAny_field he hd h1 ?_)
  rw [if_pos (by simp)]
  refine wpAny_bind (wpAny_field hT dT h3 ?_)
  rw [if_neg (by simp [rawInt])]
  refine wpAny_bind (wpAny_setField hT dT (Array.getElem?_eq_some_iff.mp h3).1 ?_)
  have d2:=Obj.data_mapFields dT (·.setIfInBounds 3 Value.none)
  have T2:=Heap.get?_update_self (Obj.mapFields (·.setIfInBounds 3 Value.none)) hT (Obj.isFreed_of_fields d2)
  have nA:∀ b,b≠T0->(s.heap.update T0 (Obj.mapFields (·.setIfInBounds 3 Value.none))).get? b=s.heap.get? b:=fun b n=>Heap.get?_update_other _ _ (Ne.symm n)
  have rec':∀ b o,s.heap.get? b=some o->(∀ ws,o.data≠.fields ws)->b≠T0:=fun b o q n z=>by rw [z,hT] at q;cases q;exact n ts dT
  have FD:(ts.setIfInBounds 3 Value.none)[3]?=some .none:=by simp [(Array.getElem?_eq_some_iff.mp h3).1]
  have FE:T0 ∉ frs (env :: outer):=fun z=>by
   obtain ⟨_,o,q,nf⟩:=hl.mem z
   rw [hT] at q;cases q;exact nf ts dT
  refine Cn hfr (hl.of_keeps fun b o q n=>⟨o,by rw [nA b (rec' b o q n)];exact q,rfl⟩) hf (by rw [nA e (Ne.symm nT)];exact he) hd (Array.getElem?_eq_some_iff.mp h1).1 fun h' T a1 a2 a3 a4 a5=>h h' T ⟨a1,?_,a3,fun b o q n1 n2 n3=>?_,fun b o q n1 n2=>?_,fun b n1 z=>?_⟩
  ·have z:=a2
   dsimp only at z
   rw [Heap.size_after_update] at z
   exact z
  ·have nb:b≠T0:=fun z=>n2 (by rw [z];exact h1)
   exact a4 b o (by dsimp only;rw [nA b nb];exact q) n1 n3
  ·have nb:b≠T0:=fun z=>n2 (by rw [z];exact h1)
   exact a5 b o (by dsimp only;rw [nA b nb];exact q) n1
  ·rw [h1] at z;cases z
   exact ⟨_,_,a4 T0 _ T2 n1 FE,d2,FD⟩
end
def qD:Option Addr->Value
 | none=>.none
 | some T=>.ref T
def XO (a C:Addr) (dx tr:Option Addr):HO:=.ext fun h=>∃ o vs,h.get? a=some o/\o.cls=.ref C/\o.dict=dx/\o.data=.fields vs/\vs[1]?=some (qD tr)
def XT (T:Addr):HO:=.ext fun h=>∃ o ts,h.get? T=some o/\o.data=.fields ts/\ts[3]?=some .none
def Exc (H:Hp) (a C:Addr) (dx:Option Addr):Prop:=∃ tr,H a=some (XO a C dx tr)/\∀ T,tr=some T->T≠a/\H T=some (XT T)
def XS (a:Addr) (H H':Hp):Prop:=(∃ C dx tr qE,H a=some (XO a C dx tr)/\H' a=some (XO a C dx qE))/\∀ b,b≠a->∀ o,H b=some o->H' b=some o
section
variable {P:Program} {w:World} {H H' H2:Hp} {h h':Heap} {a C T:Addr} {dx tr:Option Addr} {o:HO}
theorem XO.ok (e:∃ o vs,h.get? a=some o/\o.cls=.ref C/\o.dict=dx/\o.data=.fields vs/\vs[1]?=some (qD tr)):bH P w H h a (XO a C dx tr) :=
 ⟨e,let ⟨o,_,q,_⟩:=e;⟨o,q⟩,fun h1 h2 ⟨o,vs,q,r⟩ k=>⟨o,vs,k o q,r⟩⟩
theorem XT.ok (e:∃ o ts,h.get? T=some o/\o.data=.fields ts/\ts[3]?=some .none):bH P w H h T (XT T) :=
 ⟨e,let ⟨o,_,q,_⟩:=e;⟨o,q⟩,fun h1 h2 ⟨o,vs,q,r⟩ k=>⟨o,vs,k o q,r⟩⟩
theorem XO.of (ok:gH P w H h) (e:H a=some (XO a C dx tr)):∃ o vs,h.get? a=some o/\o.cls=.ref C/\o.dict=dx/\o.data=.fields vs/\vs[1]?=some (qD tr):=(ok a _ e).1
theorem XT.of (ok:gH P w H h) (e:H T=some (XT T)):∃ o ts,h.get? T=some o/\o.data=.fields ts/\ts[3]?=some .none:=(ok T _ e).1
theorem bH.there (x:bH P w H h a o):∃ ob,h.get? a=some ob:=by
 cases o with
 | lst xs=>obtain ⟨_,_,_,_,e⟩:=x;exact ⟨_,e⟩
 | tup xs=>obtain ⟨_,_,_,_,e,_⟩:=x;exact ⟨_,e⟩
 | dK kvs=>obtain ⟨_,_,_,_,o,_,_,e,_⟩:=x;exact ⟨_,e⟩
 | dT kvs=>obtain ⟨_,_,_,_,o,_,_,e,_⟩:=x;exact ⟨_,e⟩
 | set S n=>obtain ⟨o,_,_,_,e,_⟩:=x;exact ⟨_,e⟩
 | ins C dx fs=>obtain ⟨_,_,_,e,_⟩:=x;exact ⟨_,e⟩
 | own y=>obtain ⟨_,e⟩:=x;exact ⟨_,e⟩
 | xd fs=>obtain ⟨_,⟨_,_,_,e,_⟩,_⟩:=x;exact ⟨_,e⟩
 | j0 lo hi=>obtain ⟨_,_,_,e⟩:=x;exact ⟨_,e⟩
 | iX ob u=>obtain ⟨e,_⟩:=x;exact ⟨_,e⟩
 | oi ps=>exact ⟨_,(show h.get? a=some _ from x)⟩
 | met f y=>exact ⟨_,(show h.get? a=some _ from x)⟩
 | ext φ=>obtain ⟨_,e,_⟩:=x;exact e
theorem gH.none_of (ok:gH P w H h) (e:h.get? a=none):H a=none:=by
 cases q:H a with
 | none=>rfl
 | some o=>obtain ⟨ob,z⟩:=(ok a o q).there;rw [e] at z;cases z
theorem XS.refl (x:Exc H a C dx):XS a H H:=let ⟨tr,e,_⟩:=x;⟨⟨C,dx,tr,tr,e,e⟩,fun _ _ _ q=>q⟩
theorem XO.inj {C':Addr} {tf qE:Option Addr} (e:XO a C dx tr=XO a C' tf qE):C=C'/\dx=tf:=by
 have q:(fun h:Heap=>∃ o vs,h.get? a=some o/\o.cls=.ref C/\o.dict=dx/\o.data=.fields vs/\vs[1]?=some (qD tr))=(fun h:Heap=>∃ o vs,h.get? a=some o/\o.cls=.ref C'/\o.dict=tf/\o.data=.fields vs/\vs[1]?=some (qD qE)):=by
  unfold XO at e;injection e
 let ob:Obj:={ cls:=.ref C,dict:=dx,data:=.fields #[.none,qD tr] }
 let h0:Heap:={ objs:=Array.replicate (a + 1) ob }
 have e0:h0.get? a=some ob:=by
  refine Heap.get?_some_iff.mpr ⟨?_,rfl⟩
  simp [h0]
 have z:=(congrFun q h0).mp ⟨ob,_,e0,rfl,rfl,rfl,rfl⟩
 obtain ⟨o',vs,e1,e2,e3,_⟩:=z
 rw [e0] at e1;cases e1
 exact ⟨Value.ref.inj e2,e3⟩
theorem XS.trans (x:XS a H H') (y:XS a H' H2):XS a H H2:=by
 obtain ⟨⟨C,dx,tr,JW,e1,e2⟩,k⟩:=x
 obtain ⟨⟨C',tf,FF,FG,e3,e4⟩,k'⟩:=y
 rw [e2] at e3
 obtain ⟨rfl,rfl⟩:=XO.inj (Option.some.inj e3)
 exact ⟨⟨C,dx,tr,FG,e1,e4⟩,fun b n o q=>k' b n o (k b n o q)⟩
end
section
variable {X:Cx} {pins:List (Addr×Obj)} {σ:St} {H:Hp} {s:Shared} {a C:Addr} {dx:Option Addr}
theorem Inv.noted {A:Around} {E:Value->Shared->Prop} {Q:Unit->Shared->Prop} (I:Inv X pins σ H s) (hst:X.stack=X.env :: X.outer) (hf:X.env.frame=some X.env.locals) (hA:A.frames=some X.stack) (x:Exc H a C dx)
  (h:∀ h' H',XS a H H'->Exc H' a C dx->Inv X pins σ H' { s with heap:=h' }->Q () { s with heap:=h' }) :
  wpAny (model X.prog X.w) A (noteFrame (.ref a) X.env) (fun _ s'=>wpAny (model X.prog X.w) A (setFlight (.ref a) none) Q E s') E s:=by
 obtain ⟨tr,ea,et⟩:=x
 obtain ⟨oe,vs,he,hc,hdx,hd,h1⟩:=XO.of I.hok ea
 have u6:∀ b,H b=none->vs[1]?≠some (.ref b):=fun b nb z=>by
  rw [h1] at z
  cases tr with
  | none=>cases z
  | some T=>cases z;rw [(et _ rfl).2] at nb;cases nb
 have nB:∀ b,H b=none->b≠a:=fun b nb z=>by rw [z,ea] at nb;cases nb
 refine L2.noted (by rw [hA,hst]) (hst ▸ I.stack) hf he hd ?_ fun h' T N=>?_
 ·cases tr with
  | none=>exact .inl h1
  | some T=>obtain ⟨oT,ts,q1,q2,q3⟩:=XT.of I.hok (et T rfl).2;exact .inr ⟨T,oT,ts,h1,(et T rfl).1,q1,q2,q3⟩
 have HT:H T=none:=I.hok.fresh N.new
 have Ta:T≠a:=nB T HT
 have gT:∀ b o,s.heap.get? b=some o->b≠T:=fun b o q=>Nat.ne_of_lt (Nat.lt_of_lt_of_le (Heap.lt_size q) N.new)
 let H':Hp:=upd (upd H a (XO a C dx (some T))) T (XT T)
 have Hb:∀ b,b≠a->∀ o,H b=some o->H' b=some o:=fun b n o q=>by
  show upd (upd H a _) T _ b=_
  rw [eM (fun z=>by rw [z,HT] at q;cases q),eM n];exact q
 have Ha:H' a=some (XO a C dx (some T)):=by
  show upd (upd H a _) T _ a=_
  rw [eM (Ne.symm Ta),lM]
 have Cq:H' T=some (XT T):=lM
 have Hn:∀ b o,s.heap.get? b=some o->H b=none->H' b=none:=fun b o q n=>by
  show upd (upd H a _) T _ b=_
  rw [eM (gT b o q),eM (nB b n)];exact n
 have xs:XS a H H':=⟨⟨C,dx,tr,some T,ea,Ha⟩,Hb⟩
 have tj:∀ b u,H b=some u->(∀ φ,u≠.ext φ)->b≠a:=fun b u q n z=>by rw [z,ea] at q;cases q;exact n _ rfl
 have un:Un (frs X.stack) [] H H' s.heap h':=by
  rw [hst]
  refine ⟨fun b o q n1 n2 _=>N.keep b o q (nB b n1) (u6 b n1) n2,fun b o q n1 _ _=>N.slot b o q (nB b n1) (u6 b n1),fun b o q n _=>Hn b o q n,fun b o q _=>?_,
   fun b xs q=>Hb b (tj b _ q fun φ z=>nomatch z) _ q,fun b o u q=>Hb b (tj b _ q fun φ z=>nomatch z) _ q,fun b ps q=>⟨#[],by rw [Array.append_empty];exact Hb b (tj b _ q fun φ z=>nomatch z) _ q⟩⟩
  by_cases n1:b=a
  ·subst n1;obtain ⟨o',_,q',_⟩:=N.exc;exact ⟨o',q'⟩
  ·by_cases n2:vs[1]?=some (.ref b)
   ·obtain ⟨o',_,q',_⟩:=N.old b n1 n2;exact ⟨o',q'⟩
   ·obtain ⟨sl,q'⟩:=N.slot b o q n1 n2;exact ⟨_,q'⟩
 have hok:gH X.prog X.w H' h':=fun b u q=>by
  by_cases n0:b=T
  ·subst n0;rw [Cq] at q;cases q;exact XT.ok N.head
  by_cases n1:b=a
  ·subst n1;rw [Ha] at q;cases q
   obtain ⟨o',ws,p1,p2,p3,p4,p5,p6⟩:=N.exc
   exact XO.ok ⟨o',ws,p1,by rw [p2];exact hc,by rw [p3];exact hdx,p4,p6⟩
  have qb:H b=some u:=by
   have z:upd (upd H a (XO a C dx (some T))) T (XT T) b=some u:=q
   rw [eM n0,eM n1] at z;exact z
  by_cases n2:vs[1]?=some (.ref b)
  ·rw [h1] at n2
   cases tr with
   | none=>cases n2
   | some T0 =>
    cases n2
    rw [(et b rfl).2] at qb;cases qb
    exact XT.ok (N.old b n1 h1)
  ·have Cr:∀ c v,H c=some v->c ∉ frs X.stack:=fun c v z y=>by rw [I.jF c y] at z;cases z
   refine (I.hok b u qb).stay (fun c v hc' r=>?_) (fun c r=>Hb c (tj c _ r fun φ z=>nomatch z) _ r) fun c xs r=>Hb c (tj c _ r fun φ z=>nomatch z) _ r
   rcases hc' with rfl | hc'
   ·exact N.keep c v r n1 n2 (hst ▸ Cr c u qb)
   ·refine N.keep c v r (tj c _ hc' fun φ z=>nomatch z) (fun z=>?_) (hst ▸ Cr c _ hc')
    rw [h1] at z
    cases tr with
    | none=>cases z
    | some T0=>cases z;rw [(et c rfl).2] at hc';cases hc'
 exact h h' H' xs ⟨some T,Ha,fun T' e=>by cases e;exact ⟨Ta,Cq⟩⟩ (I.call (ch:=[]) un hok I.bare fun b z=>absurd z (by simp))
def mj (P:Program) (w:World):kP:=fun outer H s E e s'=>∃ a C dx H',e=.ref a/\s'.os=s.os/\AllBare s'.gens/\Un (frs outer) [] H H' s.heap s'.heap/\gH P w H' s'.heap/\Exc H' a C dx/\∀ qF,XS a H' qF->E (.ref a) none qF
end
section
variable {P:Program} {w:World} {K:PySem.W.Frag} {mg:Str->Option Value} {base:Heap} {N:List Str} {qual:Str} {scope:Scope} {f:Addr} {cd:Value} {A:Around} {outer:List Env} {s0:Shared} {H0:Hp} {E:XK}
theorem leave {pins:List (Addr×Obj)} {σ:St} {H:Hp} {s:Shared} {a C:Addr} {dx:Option Addr} (I:Inv (fL (mj P w) P w K mg base N qual scope f cd A outer s0 H0 E) pins σ H s) (x:Exc H a C dx) (h:∀ qF,XS a H qF->E (.ref a) none qF) :
  (fL (mj P w) P w K mg base N qual scope f cd A outer s0 H0 E).xe (.ref a) s:=by
 show wpAny _ _ («leaving» _ (.ref a)) _ _ s
 unfold «leaving»
 refine wpAny_bind (Inv.noted I rfl rfl I.ok.frames x fun h' H' xs x' I'=>?_)
 exact ⟨a,C,dx,H',rfl,I'.os,I'.bare,I'.base,I'.hok,x',fun qF y=>h qF (xs.trans y)⟩
end
structure Cs (K:PySem.W.Frag) (mg:Str->Option Value) (x:Str) (C:Addr) (bmB:List Value) (newId:String):Prop where
 m:mg x=some (.ref C)
 k:PySem.W.excIn K C bmB newId=true
section
open PySem.W
theorem Ct {K:Frag} {h:Heap} {C:Addr} {bmB:List Value} {newId:String} (X:K.In h) (q:excIn K C bmB newId=true) :
  ∃ bm N nm qn bs hdct sn sub ab col dd k0 k1 k2 k3 k5 mN,h.get? C=some (excClassObj nm qn C N bs bm hdct sn sub ab col dd k0 k1 k2 k3 k5 newId)/\h.Ns N mN/\mN "__init__" = none/\OwnTail h bmB bm:=by
 unfold excIn at q
 split at q
 ·next dd cd sl ho =>
  split at q
  ·next C' bm k0 k1 k2 k3 n k5 hm hs =>
   simp only [Bool.and_eq_true,beq_iff_eq,Bool.not_eq_true'] at q
   obtain ⟨⟨⟨⟨⟨e1,e2⟩,e3⟩,e4⟩,e5⟩,e6⟩:=q
   subst e1 e2
   obtain ⟨nm,bs,mro,ns,qn,hd,sn,sub,ab,col,del⟩:=cd
   obtain ⟨l⟩:=sl
   dsimp only at hm hs e3 e5 e6
   subst hm e3 hs
   exact ⟨bm,ns,nm,qn,bs,hd,sn,sub,ab,col,dd,k0,k1,k2,k3,k5,_,X _ _ ho,.of_isNs (isNs_of_in X e5),nsMap_none_of_in X e5 e6,tail_of_in X e4⟩
  ·cases q
 ·cases q
end
def ml (C:Addr) (E:XK):TS:=fun _ _ H=>∀ e H2,H e=none->XS e (upd H e (XO e C none none)) H2->E (.ref e) none H2
section
variable {X:Cx} {pins:List (Addr×Obj)} {σ:St} {H:Hp} {s:Shared} {a C:Addr} {dx:Option Addr}
theorem Inv.Ae {h':Heap} {o:HO} (I:Inv X pins σ H s) (kp:∀ b u,s.heap.get? b=some u->h'.get? b=some u) (hn:s.heap.get? a=none) (new:bH X.prog X.w (upd H a o) h' a o):Inv X pins σ (upd H a o) { s with heap:=h' }:=by
 have Ha:H a=none:=I.hok.none_of hn
 have ne:∀ b u,H b=some u->b≠a:=fun b u q=>pQ q Ha
 have up:∀ b u,H b=some u->upd H a o b=some u:=fun b u q=>by rw [eM (ne b u q)];exact q
 have hok:gH X.prog X.w (upd H a o) h':=fun b u q=>by
  by_cases hb:b=a
  ·subst hb;rw [lM] at q;cases q;exact new
  ·rw [eM hb] at q
   exact (I.hok b u q).stay (fun c v _ r=>kp c v r) (fun c r=>up c _ r) fun c xs r=>up c _ r
 have un:Un (frs X.stack) [] H (upd H a o) s.heap h' :=
  ⟨fun b u q _ _ _=>kp b u q,fun b u q _ _ _=>⟨u.slots,kp b u q⟩,fun b u q n _=>by rw [eM (fun z=>by rw [z,hn] at q;cases q)];exact n,fun b u q _=>⟨u,kp b u q⟩,fun b xs q=>up b _ q,fun b x y q=>up b _ q,fun b ps q=>⟨#[],by rw [Array.append_empty];exact up b _ q⟩⟩
 exact I.call (ch:=[]) un hok I.bare fun b z=>absurd z (by simp)
theorem Inv.flight {M:Model} {A:Around} {E:Value->Shared->Prop} {Q:Unit->Shared->Prop} (I:Inv X pins σ H s) (x:Exc H a C dx) (h:∀ h',Inv X pins σ H { s with heap:=h' }->Q () { s with heap:=h' }):wpAny M A (setFlight (.ref a) none) Q E s:=by
 obtain ⟨tr,ea,et⟩:=x
 obtain ⟨oe,vs,he,hc,hdx,hd,h1⟩:=XO.of I.hok ea
 cases tr with
 | none =>
  unfold setFlight
  refine wpAny_bind (wpAny_field he hd h1 ?_)
  exact wpAny_pure (h s.heap I)
 | some T =>
  obtain ⟨Ta,eT⟩:=et T rfl
  obtain ⟨oT,ts,q1,q2,q3⟩:=XT.of I.hok eT
  have lt:3 < ts.size:=(Array.getElem?_eq_some_iff.mp q3).1
  have d2:=Obj.data_mapFields q2 (·.setIfInBounds 3 Value.none)
  have T2:=Heap.get?_update_self (Obj.mapFields (·.setIfInBounds 3 Value.none)) q1 (Obj.isFreed_of_fields d2)
  have nA:∀ b u,b≠T->s.heap.get? b=some u->(s.heap.update T (Obj.mapFields (·.setIfInBounds 3 Value.none))).get? b=some u:=fun b u n q=>by rw [Heap.get?_update_other _ _ (Ne.symm n)];exact q
  have nT:∀ b,H b=none->b≠T:=fun b n z=>by rw [z,eT] at n;cases n
  refine wpAny_setFlight_none he hd h1 q1 q2 lt (h _ (I.call (ch:=[]) ⟨fun b u q n _ _=>nA b u (nT b n) q,fun b u q n _ _=>⟨u.slots,nA b u (nT b n) q⟩,fun b u q n _=>n,fun b u q _=>?_,fun _ _ q=>q,fun _ _ _ q=>q,fun b ps q=>⟨#[],by rw [Array.append_empty];exact q⟩⟩ ?_ I.bare fun b z=>absurd z (by simp)))
  ·by_cases z:b=T
   ·subst z;exact ⟨_,T2⟩
   ·exact ⟨u,nA b u z q⟩
  ·intro b u q
   by_cases z:b=T
   ·subst z;rw [eT] at q;cases q;exact XT.ok ⟨_,_,T2,d2,by simp [lt]⟩
   ·refine (I.hok b u q).stay (fun c v hc' r=>nA c v ?_ r) (fun c r=>r) fun c xs r=>r
    rcases hc' with rfl | hc'
    ·exact z
    ·rintro rfl;rw [eT] at hc';cases hc'
end
section
variable {P:Program} {w:World} {K:PySem.W.Frag} {mg:Str->Option Value} {base:Heap} {N:List Str} {qual:Str} {scope:Scope} {f:Addr} {cd:Value} {A:Around} {outer:List Env} {s0:Shared} {H0:Hp} {E:XK}
theorem FH {x:Str} {C:Addr} {B newId initId:String} {bmB:List Value} {np cpos pos:Pos} (FB:ExcBaseFacts B newId initId bmB) (ec:Cs K mg x C bmB newId) (hg:Gl (fL (mj P w) P w K mg base N qual scope f cd A outer s0 H0 E) x) (hdb:(x == ("__debug__" : Str))=false:=by decide) :
  PS (fL (mj P w) P w K mg base N qual scope f cd A outer s0 H0 E) (.Raise (some (.Call (.Name x np) [] [] cpos)) none pos) (ml C E):=by
 intro pins s σ H D I h
 obtain ⟨bm,NN,nm,qn,bs,hdct,sn,sub,ab,col,dd,k0,k1,k2,k3,k5,mN,hC,hN,hni,T⟩:=Ct I.lN ec.k
 refine wpAny_Raise_call_subT (C:=C) (nm:=nm) (q:=qn) (N:=NN) (bs:=bs) (bm:=bm) (hdct:=hdct) (sn:=sn) (sub:=sub) (ab:=ab) (col:=col) (dd:=dd) (k0:=k0) (k1:=k1) (k2:=k2) (k3:=k3) (k5:=k5) FB (mN:=mN) (T.hasType FB.hasBase) (I.ok.hd rfl) rfl hni (uf I hg ec.m ⟨rfl,?_⟩ hdb)
 refine evalArgs_empty ⟨rfl,Nat.zero_le _,hC,hN,T,fun h' e hm=>?_⟩
 obtain ⟨t,ht,_,_⟩:=hm.there
 exact leave (I.Ae hm.keeps hm.new (XO.ok ⟨_,_,ht,rfl,rfl,rfl,rfl⟩)) ⟨none,lM,fun T z=>by cases z⟩ fun H2 y=>h e H2 (I.hok.none_of hm.new) y
end
end L2
namespace L2
open PySem PySem.Spec PyProof.Rows
theorem FI {M:Model} {A:Around} {E:Value->Shared->Prop} {s:Shared} {K:PySem.W.Frag} {a C F:Addr} {oe:Obj} {bmB:List Value} {newId:String} {Q:Bool->Shared->Prop} (X:K.In s.heap) (he:s.heap.get? a=some oe) (hc:oe.cls=.ref C)
  (hF:PySem.W.excIn K F bmB newId=true) (hb:bmB.contains (.type "BaseException")=true) (hm:PySem.W.mroIn K C (.ref F)=some true) (hq:Q true s):wpAny M A (excMatches (.ref a) (.ref F)) Q E s:=by
 obtain ⟨bm,NN,nm,qn,bs,hdct,sn,sub,ab,col,dd,k0,k1,k2,k3,k5,mN,hC,hN,hni,T⟩:=Ct X hF
 have L:=PySem.W.looks_mroIn (M:=M) X hm
 obtain ⟨h,g,d,t,os⟩:=s
 have FJ:(Value.ref F :: bm).contains (.type "BaseException")=true:=by rw [List.contains_cons,T.hasType hb,Bool.or_true]
 have f:=tc_notTuple
 unfold excMatches
 repeat (first | (with_reducible refine wpAny_loadPart_at he ?_;rw [hc]) | with_reducible refine wpAny_loadPart_at hC ?_ | (with_reducible refine wpAny_isSubtype_exc hC ?_;rw [FJ]) | wp_step)
 refine L.at ?_
 rw [if_pos rfl]
 wp_walk
 exact hq
abbrev Cx.tr (X:Cx) (pins:List (Addr×Obj)) (W:St->Addr->Hp->Prop):Cx :=
 { X with pn:=X.pn ++ pins,xe:=fun e s=>∃ σ H a C dx,e=.ref a/\Inv X pins σ H s/\Exc H a C dx/\∀ H2,XS a H H2->W σ a H2 }
abbrev Cx.held (X:Cx) (a:Addr):Cx:={ X with A:=X.A.mark (some (.ref a)),calm:=false,xe:=fun _ _=>False }
section
variable {X:Cx} {pins:List (Addr×Obj)} {σ:St} {H:Hp} {s:Shared} {W:St->Addr->Hp->Prop} {a:Addr}
theorem Cx.Ok.tr (ok:X.Ok):(X.tr pins W).Ok:=⟨ok.mod,ok.kind,ok.glob,ok.blt,ok.above,ok.inj,ok.has,ok.om,ok.hd,ok.frames,ok.stk,ok.t8,ok.bs,ok.lS,ok.j4,ok.kz,ok.g5,ok.mY⟩
theorem Cx.Ok.iN (ok:(X.tr pins W).Ok):X.Ok:=⟨ok.mod,ok.kind,ok.glob,ok.blt,ok.above,ok.inj,ok.has,ok.om,ok.hd,ok.frames,ok.stk,ok.t8,ok.bs,ok.lS,ok.j4,ok.kz,ok.g5,ok.mY⟩
theorem Inv.tr (I:Inv X pins σ H s):Inv (X.tr pins W) [] σ H s:=⟨I.ok.tr,I.os,I.bare,I.base,I.loc,I.cell,I.free,I.dE,fun p hp=>I.pin p (by rw [List.append_nil] at hp;exact hp),I.hok,I.len⟩
theorem Inv.iN {iH:List (Addr×Obj)} (I:Inv (X.tr pins W) iH σ H s):Inv X pins σ H s:=⟨I.ok.iN,I.os,I.bare,I.base,I.loc,I.cell,I.free,I.dE,fun p hp=>I.pin p (List.mem_append_left _ hp),I.hok,I.len⟩
theorem SP.iN {iH:List (Addr×Obj)} {D:Ends} {f:Flow} {s':Shared} (h:SP (X.tr pins W) iH D f s'):SP X pins D f s':=by
 cases f with
 | next=>obtain ⟨σ',H',I,q⟩:=h;exact ⟨σ',H',I.iN,q⟩
 | brk=>obtain ⟨σ',H',I,q⟩:=h;exact ⟨σ',H',I.iN,q⟩
 | cont=>obtain ⟨σ',H',I,q⟩:=h;exact ⟨σ',H',I.iN,q⟩
 | ret u=>obtain ⟨v,σ',H',I,r,q⟩:=h;exact ⟨v,σ',H',I.iN,r,q⟩
theorem Cx.Ok.held (ok:X.Ok):(X.held a).Ok:=⟨ok.mod,ok.kind,ok.glob,ok.blt,ok.above,ok.inj,ok.has,ok.om,fun z=>(by cases z),ok.frames,ok.stk,ok.t8,ok.bs,ok.lS,ok.j4,ok.kz,ok.g5,ok.mY⟩
theorem Inv.held (I:Inv X pins σ H s):Inv (X.held a) pins σ H s:=⟨I.ok.held,I.os,I.bare,I.base,I.loc,I.cell,I.free,I.dE,I.pin,I.hok,I.len⟩
theorem Inv.jI (ok:X.Ok) (I:Inv (X.held a) pins σ H s):Inv X pins σ H s:=⟨ok,I.os,I.bare,I.base,I.loc,I.cell,I.free,I.dE,I.pin,I.hok,I.len⟩
theorem Inv.unbind {M:Model} {A:Around} {E:Value->Shared->Prop} {i:Nat} {n:Str} {pos:Pos} {Q:Unit->Shared->Prop} (I:Inv X pins σ H s) (hN:X.N.Nodup) (hi:X.N[i]?=some n) (hk:X.env.scope.names.lookup n=some .local)
  (h:∀ s',Inv X pins (σ.set i none) H s'->Q () s'):wpAny M A (do bindName X.env n .none;unbindBehindTheSuite X.env n pos) Q E s:=by
 obtain ⟨m,hn,hl⟩:=id I.loc
 have hcls:(X.env.scope.kind == .class || (X.env.scope.kind == .module && X.env.locals != X.env.globals))=false:=by rw [I.ok.kind];rfl
 have lT:=I.lT
 refine wpAny_nameGoes_keeps hk hn hcls fun h' v hn' hs=>h _ ?_
 have low:∀ b o,X.s₀.heap.get? b=some o->b≠X.env.locals:=fun b o e=>Nat.ne_of_lt (Nat.lt_of_lt_of_le (Heap.lt_size e) I.ok.above)
 have up:∀ b o,b≠X.env.locals->s.heap.get? b=some o->h'.get? b=some o:=fun b o n q=>(hs.2 b n).trans q
 refine ⟨I.ok,I.os,I.bare,⟨fun b o e n hb hx=>up b o (low b o e) (I.base.keep b o e n hb hx),fun b o e n hb hx=>?_,I.base.free,fun b o e hx=>?_,I.base.tups,I.base.jo,I.base.jD⟩,⟨_,hn',fun j y v' e1 e2 e3=>?_⟩,fun y c e=>?_,I.free,I.dE,fun p hp=>?_,fun b ob e=>?_,by simpa using I.len⟩
 ·obtain ⟨sl,e1⟩:=I.base.slot b o e n hb hx
  exact ⟨sl,up b _ (low b o e) e1⟩
 ·obtain ⟨o',e1⟩:=I.base.there b o e hx
  exact ⟨o',up b _ (low b o e) e1⟩
 ·have hj:j≠i:=fun z=>by
   subst z
   by_cases hl':j < σ.length
   ·rw [List.getElem?_set_self hl'] at e2;cases e2
   ·rw [List.getElem?_eq_none (by rw [List.length_set];omega)] at e2;cases e2
  rw [List.getElem?_set_ne (Ne.symm hj)] at e2
  obtain ⟨u',r',q⟩:=hl j y v' e1 e2 e3
  refine ⟨u',r',?_⟩
  have yn:y≠n:=fun z=>hj (zj hN e1 (z ▸ hi))
  rcases q with ⟨k,e⟩ | ⟨k,c,e,z⟩
  ·exact .inl ⟨k,by simp [yn,e]⟩
  ·exact .inr ⟨k,c,e,z.sameBut hs (lT y c e)⟩
 ·obtain ⟨w',z⟩:=I.cell y c e
  exact ⟨w',z.sameBut hs (lT y c e)⟩
 ·obtain ⟨e,n',ne,nf,d⟩:=I.pin p hp
  exact ⟨up _ _ ne e,n',ne,nf,d⟩
 ·refine (I.hok b ob e).stay (fun c w' hc q=>up c w' ?_ q) (fun _ q=>q) fun _ _ q=>q
  rintro rfl
  rcases hc with rfl | hc
  ·rw [I.free] at e;cases e
  ·rw [I.free] at hc;cases hc
end
def u7 (K:PySem.W.Frag) (tb:(St->Addr->Hp->Prop)->TS) (F:Addr) (i:Nat) (ts:TS):TS:=fun D σ H =>
 tb (fun σ1 a H1=>∃ C dx tr,H1 a=some (XO a C dx tr)/\PySem.W.mroIn K C (.ref F)=some true /\
  ts { nx:=fun σ2 H2=>D.nx (σ2.set i none) H2,bk:=fun σ2 H2=>D.bk (σ2.set i none) H2,ct:=fun σ2 H2=>D.ct (σ2.set i none) H2,rt:=D.rt } (σ1.set i (some (.ref a))) H1) D σ H
section
variable {X:Cx} {i:Nat} {x n:Str} {F:Addr} {bmB:List Value} {newId:String} {tb:(St->Addr->Hp->Prop)->TS} {ts:TS} {body suite:List Stmt} {b0:Stmt} {np hpos pos:Pos}
theorem qG (ec:Cs X.K X.mg x F bmB newId) (FK:bmB.contains (.type "BaseException")=true) (hg:Gl X x) (hN:X.N.Nodup) (hi:X.N[i]?=some n) (hk:X.env.scope.names.lookup n=some .local) (hb:∀ pins W,ko (X.tr pins W) body (tb W)) (FL:∀ a,ko (X.held a) (b0 :: suite) ts)
  (hst:X.stack=X.env :: X.outer:=by rfl) (hf:X.env.frame=some X.env.locals:=by rfl) (hdb:(x == ("__debug__" : Str))=false:=by decide) :
  PS X (.Try body [.ExceptHandler (some (.Name x np)) (some n) (b0 :: suite) hpos] [] [] pos) (u7 X.K tb F i ts):=by
 intro pins s σ H D I h
 refine wpAny_Try_except (wpAny_mono (hb pins _ [] s σ H D I.tr h) (fun f s1 q=>?_) fun e s1 q=>?_)
 ·cases f with
  | next=>exact wpAny_pure q.iN
  | brk=>exact q.iN
  | cont=>exact q.iN
  | ret u=>exact q.iN
 ·obtain ⟨σ1,H1,a,C,dx,rfl,I1,x1,w1⟩:=q
  refine Inv.noted I1 hst hf I1.ok.frames x1 fun h2 H2 xs x2 I2=>?_
  obtain ⟨C',tf,tr,e2,hm,q2⟩:=w1 H2 xs
  obtain ⟨oe,vs,he,hc,_⟩:=XO.of I2.hok e2
  refine wpAny_handleBy_cons (codeAny_handlers_test (uf (X:=X.held a) I2.held hg ec.m ?_ hdb)) (by intro z;cases z)
  refine FI I2.lN he hc ec.k FK hm ?_
  refine codeAny_handlers_suite_as (Inv.flight I2 x2 fun h3 I3=>ud (X:=X.held a) (v:=.ref a) I3.held hN hi (.inl hk) rfl (fun s4 I4=>?_) (.inr hk))
  refine wpAny_mono (FL a pins s4 _ H2 _ I4 q2) (fun f s5 q5=>?_) fun _ _ z=>z.elim
  cases f with
  | next=>obtain ⟨σ6,H6,I6,q6⟩:=q5;exact Inv.unbind (I6.jI I.ok) hN hi hk fun s7 I7=>⟨_,H6,I7,q6⟩
  | brk=>obtain ⟨σ6,H6,I6,q6⟩:=q5;exact Inv.unbind (I6.jI I.ok) hN hi hk fun s7 I7=>⟨_,H6,I7,q6⟩
  | cont=>obtain ⟨σ6,H6,I6,q6⟩:=q5;exact Inv.unbind (I6.jI I.ok) hN hi hk fun s7 I7=>⟨_,H6,I7,q6⟩
  | ret u=>obtain ⟨v,σ6,H6,I6,r6,q6⟩:=q5;exact Inv.unbind (I6.jI I.ok) hN hi hk fun s7 I7=>⟨v,_,H6,I7,r6,q6⟩
end
def mq (sp:Sp) (W:St->Addr->Hp->Prop) (t:TA):TE:=fun σ H Q=>t σ H fun vs H1=>sp vs H1 Q fun u _ H2=>∃ a,u=.ref a/\W σ a H2
section
variable {X:Cx} {k:Nat} {f:Addr} {fd:FuncData} {ps:List Str} {sp:Sp} {x:Str} {p pos:Pos} {e:Expr} {es:List Expr} {t:TA} {pins:List (Addr×Obj)} {W:St->Addr->Hp->Prop}
theorem FN (F:aH X.prog X.w X.K X.mg X.base (mj X.prog X.w) k f fd ps sp) (hr:eo k X.A) (hg:Gl X x) (hm:X.mg x=some (.ref f)) (hk:PySem.W.keepIn X.K (.ref f)=true) (hb:Binds X.K fd ps [])
  (ha:PA (X.tr pins W) (e :: es) t) (hdb:(x == ("__debug__" : Str))=false:=by decide) (he:starEach (e :: es) X.env=(false,eval e X.env) :: starEach es X.env:=by rfl) (hpl:(backTo pos (starEach es X.env)).any (·.1)=false:=by rfl) :
  PE (X.tr pins W) (.Call (.Name x p) (e :: es) [] pos) (mq sp W t):=by
 intro iH s σ H Q I h
 refine wpAny_Call_Name_kw (uf I hg hm ?_ hdb)
 refine PySem.W.callWith_K (h₀:=X.base) I.ok.mod.xo hk (bW (ha pos iH s σ H _ I h) fun us s1 ⟨vs,H1,I1,r,q⟩=>⟨I1.lN,?_⟩) he hpl
 have hl:us.length=ps.length:=by rw [<- r.length];exact F.len _ _ _ _ q
 have hbd:=hb s1 us I1.lN (by rw [List.append_nil];exact hl)
 rw [List.append_nil] at hbd
 refine wpAny_call (codeAny_mono (F.run X.A X.stack s1 H1 ⟨us,[]⟩ us vs Q _ hr I1.uG hbd r q) fun r s' hq=>?_)
 cases r with
 | error e =>
  obtain ⟨a,C,dx,H',rfl,os,bare,un,hok,x,hw⟩:=hq
  refine ⟨σ,H',a,C,dx,rfl,(I1.oo os un hok bare fun b z=>absurd z (by simp)).iN,x,fun H2 y=>?_⟩
  obtain ⟨a',ea,w⟩:=hw H2 y
  cases ea
  exact w
 | ok fl =>
  cases fl with
  | ret u=>exact I1.after hq
  | next=>exact False.elim hq
  | brk=>exact False.elim hq
  | cont=>exact False.elim hq
end
end L2
namespace L2
open PySem PySem.Spec PyProof.Rows PySem.W
structure j7 (K:Frag) (C:Addr):Prop where
 ga:findIn K (.ref C) "__getattribute__" = some (some (.builtin "BaseException.__getattribute__"))
 gt:findIn K (.ref C) "__getattr__" = some none
 hd:hasDictIn K C=true
 bx:mroIn K C (.type "BaseException")=some true
 ob:mroIn K C (.type "object")=some true
 cl:findIn K (.ref C) "__class__" = some (some (.builtin "object.__class__"))
 gs:specialIn K (.builtin "object.__class__") "__get__" = some (some (.builtin "getset_descriptor.__get__"))
 tk:takesIn K (.builtin "object.__class__")=some true
section
variable {prog:Program} {w:World} {A:Around} {E:Value->Shared->Prop} {s:Shared} {K:Frag} {a C:Addr} {ox:Obj} {odo:Option Obj} {name:Str}
theorem FO {M:Model} {nv:Value} {Q:Unit->Shared->Prop} (X:K.In s.heap) (I:InstAt s.heap a ox C odo) (e:j7 K C) (hq:Q () s):wpAny M A (checkBuiltinCall "BaseException.__getattribute__" ⟨[.ref a,nv],[]⟩) Q E s:=by
 have hk:builtinKind "BaseException.__getattribute__" = some .slot:=by decide +kernel
 have hsplit:splitId "BaseException.__getattribute__" = some ("BaseException","__getattribute__"):=by decide +kernel
 have ha:=F.args_bexc_ga (.ref a) nv
 have LT:=I.type (M:=M)
 have LB:=looks_mroIn (M:=M) X e.bx
 obtain ⟨h,g,d,t,os⟩:=s
 simp only [checkBuiltinCall,hk,hsplit]
 refine wpAny_bind ?_
 unfold isInstance
 refine wpAny_bind (LT.at (LB.at ?_))
 repeat (first | assumption | wp_step)
theorem qH {tk:Tok} {fill expr:Bool} {Q:Value->Shared->Prop} (X:K.In s.heap) (I:InstAt s.heap a ox C odo) (e:j7 K C)
  (h:∀ A' (R:Fin->Shared->Prop) E',(∀ v s',handedOut v=pure v->Q v s'->R (.done (.ret v)) s')->wpAny (model prog w) A' (Builtin.«object.__getattribute__» ⟨[.ref a,.str name tk],[]⟩) R E' s) :
  wpAny (model prog w) A (getAttrBy (.ref a) (.str name tk) fill expr) Q E s:=by
 have f3:=F.attrBase_ValueError.ga.bind (.ref a)
 have LT:=I.type (M:=model prog w)
 have L1:=looks_findIn (M:=model prog w) X e.ga
 have L2:=looks_findIn (M:=model prog w) X e.gt
 have Fw:(expr && onTheHeap (Value.builtin "BaseException.__getattribute__"))=false:=by cases expr <;> rfl
 have FP:(Value.builtin "BaseException.__getattribute__" == Value.builtin "object.__getattribute__")=false:=by decide +kernel
 have Fx:(onTheHeap (Value.ref C) && Value.builtin "BaseException.__getattribute__" == Value.builtin "object.__getattribute__")=false:=by rw [FP];rfl
 obtain ⟨hh,g,d,t,os⟩:=s
 unfold getAttrBy
 repeat (any_goals (first | assumption | with_reducible refine LT.at ?_ | with_reducible refine L1.at ?_ | with_reducible refine L2.at ?_ | wp_step))
 refine codeAny_call_builtin F.attrBase_ValueError.ga.plain F.entry_bexc_ga (FO X I e ?_)
 refine h _ _ _ fun v s' hv q=>?_
 dsimp only
 rw [hv]
 exact wpAny_pure q
theorem FQ {tk:Tok} {R:Fin->Shared->Prop} (X:K.In s.heap) (I:InstAt s.heap a ox C odo) (e:j7 K C) (h:R (.done (.ret (.ref C))) s) :
  wpAny (model prog w) A (Builtin.«object.__getattribute__» ⟨[.ref a,.str "__class__" tk],[]⟩) R E s:=by
 have LT:=I.type (M:=model prog w)
 have hf:findObj K C odo "__class__" = some (.bind (.builtin "getset_descriptor.__get__") (.builtin "object.__class__")):=by
  obtain ⟨cd,hc,_⟩:=any_some e.hd
  unfold findObj
  rw [hc,Option.bind_some,e.cl,Option.bind_some]
  simp [e.gs,e.tk]
 have LF:=looks_find (M:=model prog w) X I hf
 obtain ⟨hh,g,d,t,os⟩:=s
 repeat (any_goals (first | assumption | with_reducible refine LT.at ?_ | with_reducible refine LF.at ?_ | wp_step))
 exact class_get (s:=⟨hh,g,d,t,os⟩) X I e.ob (wpAny_pure h)
theorem FR {Q:Option Value->Shared->Prop} (X:K.In s.heap) (I:InstAt s.heap a ox C odo) (e:j7 K C) (h:Q (some (.ref C)) { s with toks:=s.toks + 1 }):wpAny (model prog w) A (getAttr? (.ref a) "__class__") Q E s:=by
 obtain ⟨hh,g,d,t,os⟩:=s
 unfold getAttr? getAttrBy?
 repeat (any_goals (first | assumption | with_reducible refine qH (s:=⟨hh,g,d,t + 1,os⟩) X I e (fun A' R E' k=>FQ (s:=⟨hh,g,d,t + 1,os⟩) X I e (k _ _ rfl ?_)) | wp_step))
theorem Cu (e:j7 K C):KitX K (.ref a) (.ref C) (fun h=>∃ ox odo,InstAt h a ox C odo) where
 ty:=fun _ _ _ ⟨_,_,I⟩=>I.type
 it:=fun _ _ X _=>by
  obtain ⟨cd,hc,_⟩:=any_some e.hd
  unfold clsIn at hc
  split at hc
  ·next c' d' FT zh ho =>
   intro A' Q' E' s' k q
   unfold isType loadHead
   exact wpAny_bind (wpAny_loadPart (k _ _ (X _ _ ho)) (wpAny_pure q))
  ·cases hc
 ne:=fun h tp dd its n sl X htp=>by
  obtain ⟨cd,hc,_⟩:=any_some e.hd
  refine Bool.eq_false_iff.mpr fun q=>?_
  have z:C=tp:=Value.ref.inj (beq_iff_eq.mp q)
  subst z
  unfold clsIn at hc
  split at hc
  ·next c' d' FT zh ho =>
   have z:=(X _ _ ho).symm.trans htp
   cases z
  ·cases hc
 ca:=fun X ⟨_,_,I⟩ k=>FR X I e k
end
theorem FU {P:Program} {w:World} {H:Hp} {h:Heap} {a C:Addr} {dx tr:Option Addr} (ok:gH P w H h) (ea:H a=some (XO a C dx tr)) (hd:∀ d,dx=some d->∃ fs,H d=some (.xd fs)):∃ ox odo,InstAt h a ox C odo:=by
 obtain ⟨o,vs,he,hc,hdx,hdt,_⟩:=XO.of ok ea
 have nc:notCls o=true:=by unfold notCls;rw [hdt]
 cases dx with
 | none=>exact ⟨o,none,he,hc,nc,by rw [hdx];trivial⟩
 | some d =>
  obtain ⟨fs,ed⟩:=hd d rfl
  obtain ⟨mA,⟨od,es,ep,e1,_⟩,_⟩:=(show bH P w H h d (.xd fs) from ok d _ ed)
  exact ⟨o,some od,he,hc,nc,by rw [hdx];exact e1⟩
inductive jb (K:Frag) (mg:Str->Option Value):Str->Value->V->Prop where
 | own {x:Str} {C:Addr}:mg x=some (.ref C)->jb K mg x (.ref C) (.ref C)
 | blt {x:Str} {n:String}:mg x=none->bootBuiltins x=some (.type n)->x≠"__name__" -> jb K mg x (.type n) (.ty n)
section
variable {X:Cx} {x:Str} {c:Value} {v:V} {p pos:Pos} {e:Expr} {te:TE} {b:Bool}
theorem oQ (h:jb X.K X.mg x c v) (hg:Gl X x) (hdb:(x == ("__debug__" : Str))=false:=by decide):PE X (.Name x p) (tC v):=by
 cases h with
 | own m=>exact Bm hg m rfl hdb
 | blt m b n=>exact uh hg m b rfl n hdb
end
def nC:V->Option Value
 | .ref a=>some (.ref a)
 | .ty n=>some (.type n)
 | _=>none
def kW:List V->Option (List Value)
 | []=>some []
 | v :: r=>match nC v,kW r with
  | some c,some cs=>some (c :: cs)
  | _,_=>none
theorem Cv {v:V} {c u:Value} (h:nC v=some c) (r:RelV v u):u=c:=by
 cases v <;> first | (cases h;exact r) | cases h
theorem Cw:∀ {vs:List V} {cs us:List Value},kW vs=some cs->Vals vs us->us=cs
 | _,_,_,h,.nil=>by cases h;rfl
 | v :: r,cs,_,h,.cons a b=>by
  unfold kW at h
  split at h
  ·next c cs' e1 e2=>cases h;rw [Cv e1 a,Cw e2 b]
  ·cases h
def u9 (K:Frag):List V->Hp->VK->Prop:=fun xs H Q=>∃ a C dx tr v b,xs=[.ref a,v]/\H a=some (XO a C dx tr)/\(∀ d,dx=some d->∃ fs,H d=some (.xd fs))/\j7 K C /\
 ((∃ c,nC v=some c/\kitOne K (.ref C) c=some b)\/∃ p vs cs,v=.ref p/\H p=some (.tup vs)/\kW vs=some cs/\kitAny K (.ref C) cs=some b)/\Q (.bl b) H
theorem oR {X:Cx}:fB X (.builtin "isinstance") (u9 X.K):=by
 intro pins s σ H xs us Q I r h
 obtain ⟨a,C,dx,tr,v,b,rfl,ea,hd,ei,hc,q⟩:=h
 obtain ⟨u,u',rfl,ru,va⟩:=vals2 r
 cases (show u=Value.ref a from ru)
 have J:=FU I.hok ea hd
 rcases hc with ⟨c,e1,e2⟩ | ⟨p,vs,cs,rfl,hp,e1,e2⟩
 ·rw [Cv e1 va]
  exact kia_one (Cu ei) I.lN J e2 (fun z=>nomatch z) fun tk=>⟨.bl b,H,I.tok tk,rfl,q⟩
 ·cases (show u'=Value.ref p from va)
  obtain ⟨_,its,rv,o,h1,h2,h3,n,h4⟩:=(show bH X.prog X.w H s.heap p (.tup vs) from I.hok p _ hp)
  have ec:=Cw e1 rv
  subst ec
  obtain ⟨oc,od,Cy,osl⟩:=o
  cases h2
  cases h4
  exact kia_tup (Cu ei) I.lN J h1 e2 (fun z=>nomatch z) fun tk=>⟨.bl b,H,I.tok tk,rfl,q⟩
theorem sY.FV {P:Program} {w:World} {K:Frag} {mg:Str->Option Value} {base:Heap} {x qual:Str} {st:Stmt} {f:Addr} {fd:FuncData} {N ps:List Str} {k:Nat} {sp:Sp} (F:sY K x qual st f fd) (S:aI N ps (ax st)) (len:∀ vs H Q E,sp vs H Q E->vs.length=ps.length)
  (hbody:∀ (cdv:Value) (A:Around) (outer:List Env) (s:Shared) (H:Hp) (vs:List V) (Q:VK) (E:XK),eo k (A.deeper (envOfC qual (ax st) s.heap.objs.size f cdv))->sp vs H Q E ->
   ∃ t,ko (fL (mj P w) P w K mg base N qual (ax st) f cdv A outer s H E) (eN st) t/\t { nx:=fun _ H'=>Q .non H',rt:=Q } (start N vs) H):aH P w K mg base (mj P w) (k + 1) f fd ps sp:=by
 obtain ⟨oc,od,kV,doc,pm,an,cdv,ct,osl,rfl,lk,hcd⟩:=F.ex
 exact oG lk hcd S len fun A outer s H vs Q E hr lO=>hbody cdv A outer s H vs Q E hr lO
end L2
namespace L2
open PySem PySem.Spec PyProof.Rows
section
variable {X:Cx}
end
end L2
namespace L2
open PySem PySem.Spec PyProof.Rows PySem.W PySem.Builtin PySem.Builtin.ObjectAttr
section
variable {prog:Program} {w:World} {A:Around} {E:Value->Shared->Prop} {s:Shared} {K:Frag} {a C:Addr} {ox:Obj} {odo:Option Obj} {name:Str} {v:Value}
end
section
variable {X:Cx} {pins:List (Addr×Obj)} {σ:St} {H:Hp} {s:Shared} {a C:Addr} {tr:Option Addr} {f:Str} {y:V} {u:Value}
variable {o value:Expr} {ta tv:TE} {pos pos':Pos}
end
end L2
namespace L2
open PySem PySem.Spec PyProof.Rows PySem.W
section
variable {prog:Program} {w:World} {A:Around} {E:Value->Shared->Prop} {h:Heap} {g:Array GenState} {d:Drawn} {t:Nat} {os:OsState}
variable {nm q:Str} {C N:Addr} {bs bm bmB:List Value} {hdct:Bool} {sn:List Str} {sub:List Value} {ab:Bool} {col:Option Bool} {dd:Option Addr} {k0 k1 k2 k3 k5:Option Value} {B newId initId:String}
end
section
variable {X:Cx} {k:Nat} {f C:Addr} {fd:FuncData} {ps:List Str} {sp:Sp} {x:Str} {p pos:Pos} {e:Expr} {es:List Expr} {t:TA} {B newId initId:String} {bmB:List Value}
end
section
variable {P:Program} {w:World} {K:Frag} {mg:Str->Option Value} {base:Heap} {N:List Str} {qual:Str} {scope:Scope} {f:Addr} {cd:Value} {A:Around} {outer:List Env} {s0:Shared} {H0:Hp} {E:XK}
end
end L2
namespace L2
open PySem PySem.Spec PyProof.Rows PySem.W
section
variable {X:Cx} {e:Expr} {te:TE} {f:Str} {pos:Pos}
end
end L2
namespace L2
open PySem PySem.Spec PyProof.Rows PySem.W
section
variable {X:Cx} {C:Addr} {x:Str} {p pos:Pos} {B newId initId:String} {bmB:List Value}
end
section
variable {X:Cx} {pins:List (Addr×Obj)} {σ:St} {H:Hp} {s:Shared}
end
end L2
namespace L2
open PySem PySem.Spec PyProof.Rows
section
variable {X:Cx}
def oS (i j:Int):Prop:=j≠0/\j.natAbs.log2 < 9000
theorem xO:gI X (binaryOp .FloorDiv) (rI oS fun i j=>.int (i.fdiv j)):=sX fun _ j _ _ _ _ _ hc q=>floordiv_int hc.1 q (.inl (PyProof.noPylong_of_log2 hc.2))
end
end L2
namespace L2
open PySem PySem.Spec PyProof.Rows
open Builtin
def P2 (k:Nat):Nat:=2 ^ k
theorem Cz (a b:Nat):P2 a * P2 b=P2 (a + b):=(Nat.pow_add 2 a b).symm
theorem nD {a b:Nat} (h:a<=b):P2 a<=P2 b:=Nat.pow_le_pow_right (by decide) h
theorem mr (a:Nat):0 < P2 a:=Nat.two_pow_pos a
theorem qI (a n:Nat):P2 a ^ n=P2 (a * n):=(Nat.pow_mul 2 a n).symm
theorem mv (a:Nat):P2 (a + 1)=2 * P2 a:=by unfold P2;rw [Nat.pow_succ,Nat.mul_comm]
theorem CA (a:Nat):a < P2 a:=Nat.lt_two_pow_self
def kX (i j:Int):Prop:=lZ i j\/(Builtin.Int.intBits i<=60000000/\Builtin.Int.intBits j<=60000000)
theorem oU {i:Int} {k:Nat} (h:i.natAbs < P2 k) (hk:k<=60000000):Builtin.Int.intBits i<=60000000:=Nat.le_trans (PyProof.Rows.intBits_le h) hk
theorem kX.ok {i j:Int} (h:kX i j):IntMulOk i j:=by
 rcases h with h | ⟨h1,h2⟩
 ·exact h.ok
 ·exact PyProof.Rows.mulOk_of_bits (m:=60000000) (n:=60000000) h1 h2 (by decide)
section
variable {X:Cx}
theorem iq:gI X (binaryOp .Mult) (rI kX fun i j=>.int (i * j)):=sX fun _ _ _ _ _ _ _ hc q=>mul_int q hc.ok
end
end L2
namespace au
def upto (n:Nat):List Int:=(List.range n).map fun (k:Nat)=>(k:Int)
theorem FW {n:Nat} {x:Int}:x∈upto n↔0<=x/\x < (n:Int):=by
 simp only [upto,List.mem_map,List.mem_range]
 constructor
 ·rintro ⟨k,hk,rfl⟩;omega
 ·rintro ⟨h1,h2⟩;exact ⟨x.toNat,by omega,by omega⟩
end au
namespace au
def app (xs:List Int) (i:Int):Int:=xs.getD i.toNat 0
def xP (xs:List Int) (i:Int):Nat->Int
 | 0=>i
 | j + 1=>app xs (xP xs i j)
def row (xs:List Int) (i:Int) (m:Nat):List Int:=(List.range (m + 1)).map (xP xs i)
end au
namespace au
def inv (xs:List Int):List Int:=(upto xs.length).map fun i=>(xs.idxOf i:Int)
end au
namespace au
end au
namespace au
end au
namespace au
section
variable {n:Nat} {xs ys:List Int} {s:Int}
end
end au
namespace au
def pw (xs:List Int) (k i:Int):Int:=if 0<=k then xP xs i k.toNat else xP (inv xs) i (-k).toNat
section
variable {n:Nat} {xs:List Int} {i:Int}
end
end au
namespace au
def tb (l:Int->Nat) (p:Int->Int) (a b:Int):Bool:=if l a=l b\/l (p a)=l (p b) then false else (decide (l a < l b)).xor (decide (l (p a) < l (p b)))
section
variable {n:Nat} {L:List Int} {l:Int->Nat}
end
end au
namespace au
end au
namespace au
abbrev Sp:=Bool×Int
def cX (s:Sp):Prop:=(s.1=false->1<=s.2/\s.2<=3)/\s.2≠0
def eO (a b:Sp):Int:=if a.1 then a.2 + b.2 else (a.2 + b.2) % 4
def bS (a b:Sp):List Sp:=if eO a b=0 then [] else [(a.1,eO a b)]
def b5:List Sp->Sp->List Sp
 | [],s=>[s]
 | t :: r,s=>if t.1=s.1 then bS t s ++ r else s :: t :: r
theorem nE (t:Sp) (r:List Sp) (s:Sp):b5 (t :: r) s=if t.1=s.1 then bS t s ++ r else s :: t :: r:=rfl
def jy (w:List Sp):List Sp:=w.foldl b5 []
def gX (s:Sp):Sp:=(s.1,if s.1 then -s.2 else 4 - s.2)
def fD (w:List Sp):List Sp:=(w.map gX).reverse
def Pl:List Sp->Prop
 | []=>True
 | a :: r=>cX a/\(∀ b,r.head?=some b->a.1≠b.1)/\Pl r
theorem Pl.pr:∀ {l:List Sp},Pl l->∀ s∈l,cX s
 | a :: r,h,s,hs=>by
  rcases List.mem_cons.mp hs with rfl | hs
  ·exact h.1
  ·exact Pl.pr h.2.2 s hs
theorem CB {a b:Sp} (ha:cX a) (e:a.1=b.1):(eO a b=0/\bS a b=[])\/(cX (a.1,eO a b)/\bS a b=[(a.1,eO a b)]):=by
 unfold bS
 by_cases h:eO a b=0
 ·exact .inl ⟨h,by rw [if_pos h]⟩
 ·refine .inr ⟨⟨fun hf=>?_,h⟩,by rw [if_neg h]⟩
  simp only at hf
  unfold eO at h ⊢
  simp only [hf,Bool.false_eq_true,if_false] at h ⊢
  omega
theorem Pl.push {l:List Sp} {s:Sp} (h:Pl l) (hs:cX s):Pl (b5 l s):=by
 cases l with
 | nil=>exact ⟨hs,fun b h=>(nomatch h),trivial⟩
 | cons t r =>
  rw [nE]
  split
  ·next e =>
   rcases CB h.1 e with ⟨_,ej⟩ | ⟨hp,ej⟩
   ·rw [ej];exact h.2.2
   ·rw [ej];exact ⟨hp,h.2.1,h.2.2⟩
  ·next e =>
   refine ⟨hs,fun b hb=>?_,h⟩
   cases hb
   exact fun e'=>e e'.symm
theorem Pl.fold {w:List Sp}:∀ {l:List Sp},Pl l->(∀ s∈w,cX s)->Pl (w.foldl b5 l):=by
 induction w with
 | nil=>exact fun h _=>h
 | cons s w ih=>exact fun h hw=>ih (h.push (hw s (List.mem_cons_self))) fun s' h'=>hw s' (List.mem_cons_of_mem _ h')
theorem CC {w:List Sp} (hw:∀ s∈w,cX s):Pl (jy w):=Pl.fold (l:=[]) trivial hw
theorem FX {l:List Sp} {s:Sp} (h:∀ b,l.head?=some b->s.1≠b.1):b5 l s=s :: l:=by
 cases l with
 | nil=>rfl
 | cons t r=>rw [nE,if_neg fun e=>h t rfl e.symm]
theorem FY (u v:List Sp):jy (u ++ v)=v.foldl b5 (jy u):=by unfold jy;rw [List.foldl_append]
theorem vd {s:Sp} (h:cX s):cX (gX s):=by
 obtain ⟨b,k⟩:=s
 cases b with
 | true=>exact ⟨nofun,fun e=>h.2 (by have:-k=0:=e;show k=0;omega)⟩
 | false =>
  obtain ⟨h1,h2⟩:=h.1 rfl
  simp only at h1 h2
  exact ⟨fun _=>by show 1<=4 - k/\4 - k<=3;omega,by show 4 - k≠0;omega⟩
theorem FZ {p:List Sp} {s:Sp} (hp:Pl p) (hs:cX s):b5 (b5 p s) (gX s)=p:=by
 have e0:bS s (gX s)=[]:=by
  unfold bS eO gX
  cases hb:s.1 <;> simp <;> omega
 cases p with
 | nil =>
  show (if s.1=(gX s).1 then bS s (gX s) ++ [] else _)=_
  rw [if_pos (show s.1=(gX s).1 from rfl),e0];rfl
 | cons t r =>
  by_cases e:t.1=s.1
  ·have e1:b5 (t :: r) s=bS t s ++ r:=by rw [nE,if_pos e]
   rw [e1]
   obtain ⟨tb,tk⟩:=t
   obtain ⟨sb,sk⟩:=s
   simp only at e
   subst e
   have ht:=hp.1
   rcases CB (b:=(tb,sk)) hp.1 rfl with ⟨h0,ej⟩ | ⟨xN,ej⟩
   ·rw [ej,List.nil_append]
    have eb:gX (tb,sk)=(tb,tk):=by
     unfold gX
     unfold eO at h0
     cases tb with
     | true=>simp only [if_true] at h0 ⊢;congr 1;omega
     | false =>
      have h1:=ht.1 rfl
      have h2:=hs.1 rfl
      simp only [Bool.false_eq_true,if_false] at h0 h1 h2 ⊢
      congr 1;omega
    rw [eb]
    exact FX hp.2.1
   ·rw [ej]
    show (if tb=(gX (tb,sk)).1 then bS (tb,eO (tb,tk) (tb,sk)) (gX (tb,sk)) ++ r else _)=_
    rw [if_pos (show tb=(gX (tb,sk)).1 from rfl)]
    have eb:eO (tb,eO (tb,tk) (tb,sk)) (gX (tb,sk))=tk:=by
     unfold eO gX
     cases tb with
     | true=>simp only [if_true];omega
     | false =>
      have h1:=ht.1 rfl
      have h2:=hs.1 rfl
      simp only [Bool.false_eq_true,if_false] at h1 h2 ⊢
      omega
    unfold bS
    rw [eb,if_neg ht.2]
    rfl
  ·have e1:b5 (t :: r) s=s :: t :: r:=by rw [nE,if_neg e]
   rw [e1]
   show (if s.1=(gX s).1 then bS s (gX s) ++ (t :: r) else _)=_
   rw [if_pos (show s.1=(gX s).1 from rfl),e0];rfl
theorem F0 {w:List Sp}:∀ {p:List Sp},Pl p->(∀ s∈w,cX s)->(w ++ fD w).foldl b5 p=p:=by
 induction w with
 | nil=>exact fun _ _=>rfl
 | cons s w ih =>
  intro p hp hw
  have e:(s :: w) ++ fD (s :: w)=s :: ((w ++ fD w) ++ [gX s]):=by unfold fD;simp
  rw [e]
  show ((w ++ fD w) ++ [gX s]).foldl b5 (b5 p s)=p
  have hs:=hw s (List.mem_cons_self)
  rw [List.foldl_append,ih (hp.push hs) fun s' h'=>hw s' (List.mem_cons_of_mem _ h')]
  exact FZ hp hs
theorem CD {w:List Sp} (hw:∀ s∈w,cX s):jy (w ++ fD w)=[]:=F0 (p:=[]) trivial hw
theorem F1 {l:List Sp} {s:Sp} {M B:Nat} (h:∀ x∈l,x.2.natAbs<=M) (hs:s.2.natAbs<=B) (hp:cX s) (hl:Pl l):∀ x∈b5 l s,x.2.natAbs<=M + B:=by
 intro x hx
 cases l with
 | nil=>rcases List.mem_singleton.mp hx with rfl;omega
 | cons t r =>
  rw [nE] at hx
  have ht:=h t (List.mem_cons_self)
  split at hx
  ·next e0 =>
   rcases List.mem_append.mp hx with hx | hx
   ·unfold bS at hx
    split at hx
    ·exact (nomatch hx)
    ·rcases List.mem_singleton.mp hx with rfl
     show (eO t s).natAbs<=_
     unfold eO
     split
     ·omega
     ·next hb =>
      have:=hl.1.1 (by simpa using hb)
      have h2:=hp.1 (by rw [<- e0];simpa using hb)
      omega
   ·have:=h x (List.mem_cons_of_mem _ hx);omega
  ·rcases List.mem_cons.mp hx with rfl | hx
   ·omega
   ·have:=h x hx;omega
theorem F2 {B:Nat} {w:List Sp}:∀ {l:List Sp} {M:Nat},(∀ x∈l,x.2.natAbs<=M)->Pl l->(∀ s∈w,cX s/\s.2.natAbs<=B)->∀ x∈w.foldl b5 l,x.2.natAbs<=M + w.length * B:=by
 induction w with
 | nil=>intro l M h _ _ x hx;have:=h x hx;omega
 | cons s w ih =>
  intro l M h hl hw x hx
  have hs:=hw s (List.mem_cons_self)
  have:=ih (F1 h hs.2 hs.1 hl) (hl.push hs.1) (fun s' h'=>hw s' (List.mem_cons_of_mem _ h')) x hx
  rw [List.length_cons,Nat.succ_mul]
  omega
theorem qJ {B:Nat} {w:List Sp} (hw:∀ s∈w,cX s/\s.2.natAbs<=B):∀ x∈jy w,x.2.natAbs<=w.length * B:=fun x hx=>by
 have:=F2 (l:=[]) (M:=0) nofun trivial hw x hx
 omega
theorem F3 (l:List Sp) (s:Sp):(b5 l s).length<=l.length + 1:=by
 cases l with
 | nil=>exact Nat.le_refl _
 | cons t r =>
  rw [nE]
  split
  ·unfold bS;split <;> simp <;> omega
  ·simp
theorem F4 {w:List Sp}:∀ {l:List Sp},(w.foldl b5 l).length<=l.length + w.length:=by
 induction w with
 | nil=>exact Nat.le_refl _
 | cons s w ih =>
  intro l
  have:=ih (l:=b5 l s)
  have h2:=F3 l s
  rw [List.length_cons]
  exact Nat.le_trans this (by omega)
theorem CF (w:List Sp):(jy w).length<=w.length:=by have:=F4 (w:=w) (l:=[]);simpa [jy] using this
structure T4 where (a b c d:Int)
def T4.one:T4:=⟨1,0,0,1⟩
def T4.qt:T4:=⟨0,-1,1,0⟩
def T4.mul (x y:T4):T4:=⟨x.a * y.a + x.b * y.c,x.a * y.b + x.b * y.d,x.c * y.a + x.d * y.c,x.c * y.b + x.d * y.d⟩
def T4.mP (x:T4):T4:=⟨x.d,-x.b,-x.c,x.a⟩
theorem T4.ext' {x y:T4} (h1:x.a=y.a) (h2:x.b=y.b) (h3:x.c=y.c) (h4:x.d=y.d):x=y:=by cases x;cases y;simp only at h1 h2 h3 h4;subst h1 h2 h3 h4;rfl
theorem T4.assoc (x y z:T4):(x.mul y).mul z=x.mul (y.mul z):=by
 apply T4.ext' <;> simp only [T4.mul,Int.add_mul,Int.mul_add,Int.mul_assoc] <;> omega
theorem T4.one_mul (x:T4):T4.one.mul x=x:=by apply T4.ext' <;> simp [T4.mul,T4.one]
theorem T4.mul_one (x:T4):x.mul T4.one=x:=by apply T4.ext' <;> simp [T4.mul,T4.one]
theorem T4.nF (x y:T4):(x.mul y).mP=y.mP.mul x.mP:=by
 apply T4.ext' <;> simp only [T4.mul,T4.mP,Int.neg_mul,Int.mul_neg,Int.neg_neg,Int.mul_comm] <;> omega
def qp:Nat->T4
 | 0=>T4.one
 | n + 1=>T4.qt.mul (qp n)
def gC (s:Sp):T4:=if s.1 then ⟨1,s.2,0,1⟩ else qp s.2.toNat
def iO (T:T4) (w:List Sp):T4:=w.foldl (fun T s=>(gC s).mul T) T
def aB (w:List Sp):T4:=iO T4.one w
theorem F5 (w:List Sp):∀ T:T4,iO T w=(aB w).mul T:=by
 induction w with
 | nil=>exact fun T=>(T4.one_mul T).symm
 | cons s w ih =>
  intro T
  show iO ((gC s).mul T) w=(iO ((gC s).mul T4.one) w).mul T
  rw [ih,ih,T4.mul_one,T4.assoc]
theorem tm (u v:List Sp):aB (u ++ v)=(aB v).mul (aB u):=by
 show iO T4.one (u ++ v)=_
 unfold iO
 rw [List.foldl_append]
 exact F5 v _
theorem oV (u:List Sp) (s:Sp):aB (u ++ [s])=(gC s).mul (aB u):=by
 show iO T4.one (u ++ [s])=_
 unfold iO
 rw [List.foldl_append];rfl
theorem t3 {k:Int} (h:1<=k/\k<=3):k=1\/k=2\/k=3:=by omega
theorem F6 {t s:Sp} (ht:cX t) (hs:cX s) (e:t.1=s.1):aB (bS t s)=(gC s).mul (gC t):=by
 obtain ⟨tb,tk⟩:=t
 obtain ⟨sb,sk⟩:=s
 simp only at e
 subst e
 cases tb with
 | true =>
  have e2:(gC (true,sk)).mul (gC (true,tk))=⟨1,tk + sk,0,1⟩:=by apply T4.ext' <;> simp [T4.mul,gC] <;> omega
  rw [e2]
  unfold bS eO
  simp only [if_true]
  split
  ·next h=>rw [h];rfl
  ·rw [show aB [(true,tk + sk)]=(gC (true,tk + sk)).mul T4.one from rfl,T4.mul_one];rfl
 | false =>
  have h1:=ht.1 rfl
  have h2:=hs.1 rfl
  simp only at h1 h2
  rcases t3 h1 with rfl | rfl | rfl <;> rcases t3 h2 with rfl | rfl | rfl <;> rfl
theorem F7 {l:List Sp} {s:Sp} (hl:Pl l) (hs:cX s):aB (b5 l s).reverse=(gC s).mul (aB l.reverse):=by
 cases l with
 | nil=>exact oV [] s
 | cons t r =>
  rw [nE]
  split
  ·next e =>
   rw [List.reverse_append,tm,List.reverse_cons,oV,<- T4.assoc]
   congr 1
   rw [<- F6 hl.1 hs e]
   unfold bS
   split <;> rfl
  ·rw [List.reverse_cons,oV]
theorem F8 {w:List Sp}:∀ {l:List Sp},Pl l->(∀ s∈w,cX s)->aB (w.foldl b5 l).reverse=iO (aB l.reverse) w:=by
 induction w with
 | nil=>exact fun _ _=>rfl
 | cons s w ih =>
  intro l hl hw
  have hs:=hw s (List.mem_cons_self)
  show aB (w.foldl b5 (b5 l s)).reverse=iO ((gC s).mul (aB l.reverse)) w
  rw [ih (hl.push hs) fun s' h'=>hw s' (List.mem_cons_of_mem _ h'),F7 hl hs]
theorem CG {w:List Sp} (hw:∀ s∈w,cX s):aB (jy w).reverse=aB w:=F8 (l:=[]) trivial hw
theorem qK {s:Sp} (h:cX s):gC (gX s)=(gC s).mP:=by
 obtain ⟨b,k⟩:=s
 cases b with
 | true=>apply T4.ext' <;> simp [T4.mP,gC,gX]
 | false =>
  have h1:=h.1 rfl
  simp only at h1
  rcases t3 h1 with rfl | rfl | rfl <;> rfl
theorem CH {w:List Sp} (hw:∀ s∈w,cX s):aB (fD w)=(aB w).mP:=by
 induction w with
 | nil=>rfl
 | cons s w ih =>
  have e:fD (s :: w)=fD w ++ [gX s]:=by unfold fD;simp
  have e2:aB (s :: w)=(aB w).mul (gC s):=by
   rw [show s :: w=[s] ++ w from rfl,tm]
   congr 1
   exact (oV [] s).trans (T4.mul_one _)
  rw [e,oV,ih fun s' h'=>hw s' (List.mem_cons_of_mem _ h'),qK (hw s (List.mem_cons_self)),e2,T4.nF]
def T4.le (x:T4) (M:Nat):Prop:=x.a.natAbs<=M/\x.b.natAbs<=M/\x.c.natAbs<=M/\x.d.natAbs<=M
theorem CI {a c k:Int} {M B:Nat} (ha:a.natAbs<=M) (hc:c.natAbs<=M) (hk:k.natAbs<=B):(a + k * c).natAbs<=(B + 1) * M:=by
 have h1:(k * c).natAbs<=B * M:=by rw [Int.natAbs_mul];exact Nat.mul_le_mul hk hc
 rw [Nat.succ_mul]
 omega
theorem oW {T:T4} {s:Sp} {M B:Nat} (h:T.le M) (hp:cX s) (hs:s.2.natAbs<=B):((gC s).mul T).le ((B + 1) * M):=by
 obtain ⟨b,k⟩:=s
 obtain ⟨ha,hb,hc,hd⟩:=h
 have hM:M<=(B + 1) * M:=by rw [Nat.succ_mul];omega
 cases b with
 | true =>
  refine ⟨?_,?_,?_,?_⟩ <;> simp only [T4.mul,gC,if_true,Int.one_mul,Int.zero_mul,Int.zero_add]
  ·exact CI ha hc hs
  ·exact CI hb hd hs
  ·omega
  ·omega
 | false =>
  have h1:=hp.1 rfl
  simp only at h1
  rcases t3 h1 with rfl | rfl | rfl <;> refine ⟨?_,?_,?_,?_⟩ <;> simp [T4.mul,gC,qp,T4.qt,T4.one] <;> omega
theorem qL {B:Nat} {w:List Sp}:∀ {T:T4} {M:Nat},T.le M->(∀ s∈w,cX s/\s.2.natAbs<=B)->(iO T w).le ((B + 1) ^ w.length * M):=by
 induction w with
 | nil=>intro T M h _;simpa [iO] using h
 | cons s w ih =>
  intro T M h hw
  have hs:=hw s (List.mem_cons_self)
  have:=ih (oW h hs.1 hs.2) fun s' h'=>hw s' (List.mem_cons_of_mem _ h')
  rw [List.length_cons,Nat.pow_succ,Nat.mul_assoc]
  exact this
theorem CJ {B n:Nat} {w:List Sp} (hw:∀ s∈w,cX s/\s.2.natAbs<=B) (hn:w.length<=n):(aB w).le ((B + 1) ^ n):=by
 have h:=qL (T:=T4.one) (M:=1) ⟨by decide,by decide,by decide,by decide⟩ hw
 have h2:(B + 1) ^ w.length * 1<=(B + 1) ^ n:=by rw [Nat.mul_one];exact Nat.pow_le_pow_right (by omega) hn
 exact ⟨Nat.le_trans h.1 h2,Nat.le_trans h.2.1 h2,Nat.le_trans h.2.2.1 h2,Nat.le_trans h.2.2.2 h2⟩
end au
namespace au
abbrev ve:=List Int×List Int
end au
namespace au
section
variable {n:Nat} {a b c g x y:List Int}
end
section
variable {n:Nat} {p q r:ve}
end
section
variable {n:Nat} {p q r:ve}
end
section
variable {n:Nat} {p q:ve}
end
theorem F9 (s:Sp) (w:List Sp):aB (s :: w)=(aB w).mul (gC s):=by
 have:=tm [s] w
 rw [show aB [s]=(gC s).mul T4.one from rfl,T4.mul_one] at this
 exact this
theorem xQ {w:List Sp} (hw:∀ s∈w,cX s):∀ s∈fD w,cX s:=fun s hs=>by
 unfold fD at hs
 obtain ⟨t,ht,rfl⟩:=List.mem_map.mp (List.mem_reverse.mp hs)
 exact vd (hw t ht)
theorem qM {w:List Sp} (hw:∀ s∈w,cX s):aB (w ++ fD w)=T4.one:=by
 have hp:∀ s∈w ++ fD w,cX s:=fun s hs=>by
  rcases List.mem_append.mp hs with hs | hs
  ·exact hw s hs
  ·exact xQ hw s hs
 rw [<- CG hp,CD hw];rfl
theorem xR {w:List Sp} (hw:∀ s∈w,cX s):(aB w).a * (aB w).d - (aB w).b * (aB w).c=1:=by
 have:=qM hw
 rw [tm,CH hw] at this
 have h:=congrArg T4.a this
 have h:(aB w).d * (aB w).a + -(aB w).b * (aB w).c=1:=h
 rw [Int.mul_comm (aB w).d,Int.neg_mul] at h
 omega
theorem Ga {M:T4} (h:M.a * M.d - M.b * M.c=1):M.mul M.mP=T4.one/\M.mP.mul M=T4.one:=by
 constructor <;> (apply T4.ext' <;> simp [T4.mul,T4.mP,T4.one] <;> grind)
end au
namespace au
section
variable {n:Nat} {p q:ve} {g h:List Int} {s t:Int}
end
end au
namespace au
section
variable {n:Nat} {xs ys r r' r2:List Int} {i j x y:Int}
def Sm (xs ys r:List Int):Prop:=∀ s∈r,app ys (app xs s)=app xs (app ys s)
instance:Decidable (Sm xs ys r):=inferInstanceAs (Decidable (∀ s∈r,app ys (app xs s)=app xs (app ys s)))
end
end au
namespace au
section
variable {n:Nat} {xs ys:List Int} {rs:List (List Int)} {lows:List (List Int)} {B:List Int->List (List Int)}
end
section
variable {n:Nat} {c g:List Int} {rs rs':List (List Int)}
end
section
variable {n:Nat} {p q:ve} {g:List Int}
end
end au
namespace au
def nr (x y:Int):Int:=(2 * x + y).fdiv (2 * y)
theorem Gb (a b:Int) (hb:b≠0):(0 < b->0<=a - b * a.fdiv b/\a - b * a.fdiv b < b)/\(b < 0->b < a - b * a.fdiv b/\a - b * a.fdiv b<=0):=by
 have h1:=Int.mul_ediv_add_emod a b
 have h2:=Int.emod_nonneg a hb
 have h3:=Int.emod_lt a hb
 rw [Int.fdiv_eq_ediv]
 constructor
 ·intro h
  rw [if_pos (.inl (by omega)),Int.sub_zero]
  have:b.natAbs=b.toNat:=by omega
  constructor <;> omega
 ·intro h
  by_cases hd:b ∣ a
  ·rw [if_pos (.inr hd),Int.sub_zero]
   have:a % b=0:=Int.emod_eq_zero_of_dvd hd
   constructor <;> omega
  ·rw [if_neg (by rintro (z | z);omega;exact hd z),Int.mul_sub]
   have hne:a % b≠0:=fun z=>hd (Int.dvd_of_emod_eq_zero z)
   constructor <;> omega
theorem oX {x y:Int} (hy:y≠0):2 * (x - nr x y * y).natAbs<=y.natAbs:=by
 obtain ⟨h1,h2⟩:=Gb (2 * x + y) (2 * y) (by omega)
 have e:2 * x + y - 2 * y * (2 * x + y).fdiv (2 * y)=2 * (x - nr x y * y) + y:=by
  unfold nr
  rw [Int.mul_sub,Int.mul_comm ((2 * x + y).fdiv (2 * y)) y,Int.mul_assoc]
  omega
 rw [e] at h1 h2
 rcases (show 0 < y\/y < 0 by omega) with h | h
 ·have:=h1 (by omega);omega
 ·have:=h2 (by omega);omega
theorem CK {x y:Int} (hy:y≠0):(nr x y).natAbs<=x.natAbs + 1:=by
 have h:=oX (x:=x) hy
 have h1:(nr x y * y).natAbs<=x.natAbs + (x - nr x y * y).natAbs:=by omega
 rw [Int.natAbs_mul] at h1
 have hy1:1<=y.natAbs:=by omega
 by_cases hq:(nr x y).natAbs<=x.natAbs + 1
 ·exact hq
 ·exfalso
  have h2:(x.natAbs + 2) * y.natAbs<=(nr x y).natAbs * y.natAbs:=Nat.mul_le_mul_right _ (by omega)
  have h3:(x.natAbs + 2) * y.natAbs=x.natAbs * y.natAbs + 2 * y.natAbs:=Nat.add_mul _ _ _
  have h4:x.natAbs<=x.natAbs * y.natAbs:=Nat.le_mul_of_pos_right _ hy1
  omega
def ly (k:Int):List Sp:=if k=0 then [] else [(true,k)]
theorem vf {k:Int}:∀ s∈ly k,cX s/\s.2=k:=fun s hs=>by
 unfold ly at hs
 split at hs
 ·cases hs
 ·next h =>
  rw [List.mem_singleton.mp hs]
  exact ⟨⟨(fun z=>by cases z),h⟩,rfl⟩
theorem Af (k:Int):aB (ly k)=⟨1,k,0,1⟩:=by
 unfold ly
 split
 ·next h=>rw [h];rfl
 ·show (gC (true,k)).mul T4.one=_
  rw [T4.mul_one];rfl
theorem vg (k:Int):(ly k).length<=1:=by unfold ly;split <;> simp
def lz (x y:Int):List Sp:=ly (-(nr x y)) ++ [(false,1)]
theorem Ag (x y:Int):aB (lz x y)=⟨0,-1,1,-(nr x y)⟩:=by
 unfold lz
 rw [oV,Af]
 apply T4.ext' <;> simp [T4.mul,gC,qp,T4.qt,T4.one]
theorem CL {x y:Int} (hy:y≠0):∀ s∈lz x y,cX s/\s.2.natAbs<=x.natAbs + 1:=fun s hs=>by
 have h:=CK (x:=x) hy
 rcases List.mem_append.mp hs with hs | hs
 ·obtain ⟨h1,h2⟩:=vf s hs
  exact ⟨h1,by rw [h2];omega⟩
 ·rw [List.mem_singleton.mp hs]
  exact ⟨⟨fun _=>⟨by decide,by decide⟩,by decide⟩,by show 1<=_;omega⟩
theorem Ah (x y:Int):(lz x y).length<=2:=by unfold lz;rw [List.length_append];have:=vg (-(nr x y));simp;omega
structure Dv (M:Nat) (x y:Int) (g:List Sp) (u v:Int) (r:Nat):Prop where
 pr:∀ s∈g,cX s/\s.2.natAbs<=M + 1
 ln:g.length<=2 * r
 ua:u=(aB g).a * x + (aB g).b * y
 vc:v=(aB g).c * x + (aB g).d * y
 ub:u.natAbs<=M
 vb:v.natAbs * 2 ^ r<=M
theorem Dv.zero {M:Nat} {x y:Int} (hx:x.natAbs<=M) (hy:y.natAbs<=M):Dv M x y [] x y 0 :=
 ⟨(fun s hs=>nomatch hs),Nat.le_refl _,by show x=1 * x + 0 * y;omega,by show y=0 * x + 1 * y;omega,hx,by omega⟩
theorem Dv.step {M r:Nat} {x y u v:Int} {g:List Sp} (h:Dv M x y g u v r) (hv:v≠0):Dv M x y (g ++ lz u v) (-v) (u - nr u v * v) (r + 1):=by
 have hl:=oX (x:=u) hv
 have hlen:=Ah u v
 have h2:1<=2 ^ r:=Nat.one_le_two_pow
 have vM:v.natAbs<=M:=Nat.le_trans (Nat.le_mul_of_pos_right _ h2) h.vb
 have e:aB (g ++ lz u v)=⟨-(aB g).c,-(aB g).d,(aB g).a - nr u v * (aB g).c,(aB g).b - nr u v * (aB g).d⟩:=by
  rw [tm,Ag]
  apply T4.ext' <;> simp [T4.mul,Int.neg_mul] <;> omega
 refine ⟨fun s hs=>?_,by rw [List.length_append];have:=h.ln;omega,?_,?_,by omega,?_⟩
 ·rcases List.mem_append.mp hs with hs | hs
  ·exact h.pr s hs
  ·obtain ⟨h1,h3⟩:=CL hv s hs
   exact ⟨h1,by have:=h.ub;omega⟩
 ·rw [e]
  show -v=-(aB g).c * x + -(aB g).d * y
  rw [h.vc,Int.neg_mul,Int.neg_mul];omega
 ·rw [e]
  show u - nr u v * v=((aB g).a - nr u v * (aB g).c) * x + ((aB g).b - nr u v * (aB g).d) * y
  generalize hq:nr u v=q
  rw [h.ua,h.vc,Int.sub_mul,Int.sub_mul,Int.mul_add,Int.mul_assoc,Int.mul_assoc]
  omega
 ·have:=h.vb
  have h3:(u - nr u v * v).natAbs * 2 ^ (r + 1)=2 * (u - nr u v * v).natAbs * 2 ^ r:=by rw [Nat.pow_succ,Nat.mul_comm (2 ^ r) 2,<- Nat.mul_assoc,Nat.mul_comm _ 2]
  rw [h3]
  exact Nat.le_trans (Nat.mul_le_mul_right _ hl) this
theorem Dv.few {M r k:Nat} {x y u v:Int} {g:List Sp} (h:Dv M x y g u v r) (hv:v≠0) (hM:M < 2 ^ k):r < k:=by
 have h1:2 ^ r<=M:=Nat.le_trans (Nat.le_mul_of_pos_left _ (by omega)) h.vb
 exact (Nat.pow_lt_pow_iff_right (by decide)).mp (Nat.lt_of_le_of_lt h1 hM)
def jz (A:T4):List Sp:=if A.a=1 then ly A.b else (false,2) :: ly (-A.b)
theorem Gd {a d:Int} (h:a * d=1):(a=1/\d=1)\/(a=-1/\d=-1):=by
 have h1:=congrArg Int.natAbs h
 rw [Int.natAbs_mul] at h1
 have h2:a.natAbs=1:=Nat.eq_one_of_dvd_one ⟨_,h1.symm⟩
 rcases (show a=1\/a=-1 by omega) with rfl | rfl
 ·exact .inl ⟨rfl,by omega⟩
 ·exact .inr ⟨rfl,by omega⟩
theorem Ge {A:T4} (hc:A.c=0) (hd:A.a * A.d - A.b * A.c=1):aB (jz A)=A:=by
 have h1:A.a * A.d=1:=by rw [hc,Int.mul_zero] at hd;omega
 unfold jz
 rcases Gd h1 with ⟨e1,e2⟩ | ⟨e1,e2⟩
 ·rw [if_pos e1,Af]
  exact T4.ext' e1.symm rfl hc.symm e2.symm
 ·rw [if_neg (by rw [e1];decide),F9,Af]
  apply T4.ext'
  ·simp [T4.mul,gC,qp,T4.qt,T4.one,e1]
  ·simp [T4.mul,gC,qp,T4.qt,T4.one]
  ·simp [T4.mul,gC,qp,T4.qt,T4.one,hc]
  ·simp [T4.mul,gC,qp,T4.qt,T4.one,e2]
theorem Ai (A:T4):∀ s∈jz A,cX s:=fun s hs=>by
 unfold jz at hs
 split at hs
 ·exact (vf s hs).1
 ·rcases List.mem_cons.mp hs with rfl | hs
  ·exact ⟨fun _=>⟨by decide,by decide⟩,by decide⟩
  ·exact (vf s hs).1
theorem CM (A:T4):(jz A).length<=2:=by
 unfold jz
 split
 ·have:=vg A.b;omega
 ·have:=vg (-A.b);simp;omega
theorem CN (A B:T4):(A.mul B).a * (A.mul B).d - (A.mul B).b * (A.mul B).c=(A.a * A.d - A.b * A.c) * (B.a * B.d - B.b * B.c):=by
 simp only [T4.mul]
 grind
theorem Gf {T:T4} {g:List Sp} (hd:T.a * T.d - T.b * T.c=1) (hg:∀ s∈g,cX s) (h0:(aB g).c * T.a + (aB g).d * T.c=0):aB (jy (jz ((aB g).mul T) ++ fD g)).reverse=T/\∀ s∈(jy (jz ((aB g).mul T) ++ fD g)).reverse,cX s:=by
 have Gg:((aB g).mul T).a * ((aB g).mul T).d - ((aB g).mul T).b * ((aB g).mul T).c=1:=by rw [CN,xR hg,hd];rfl
 have Gh:((aB g).mul T).c=0:=h0
 have pr:∀ s∈jz ((aB g).mul T) ++ fD g,cX s:=fun s hs=>by
  rcases List.mem_append.mp hs with hs | hs
  ·exact Ai _ s hs
  ·exact xQ hg s hs
 refine ⟨?_,fun s hs=>(CC pr).pr s (List.mem_reverse.mp hs)⟩
 rw [CG pr,tm,Ge Gh Gg,CH hg,<- T4.assoc,(Ga (xR hg)).2,T4.one_mul]
end au
namespace au
def It (x y:Int):Nat->List Sp×Int×Int
 | 0=>([],x,y)
 | r + 1=>((It x y r).1 ++ lz (It x y r).2.1 (It x y r).2.2,-(It x y r).2.2,(It x y r).2.1 - nr (It x y r).2.1 (It x y r).2.2 * (It x y r).2.2)
def Lv (x y:Int) (g:List Sp):Prop:=∃ r,(It x y r).1=g/\(It x y r).2.2=0/\∀ j,j < r->(It x y j).2.2≠0
theorem Lv.unique {x y:Int} {g h:List Sp} (a:Lv x y g) (b:Lv x y h):g=h:=by
 obtain ⟨r,e1,z1,n1⟩:=a
 obtain ⟨q,e2,z2,n2⟩:=b
 have e:r=q:=by
  rcases Nat.lt_trichotomy r q with h | h | h
  ·exact absurd z1 (n2 r h)
  ·exact h
  ·exact absurd z2 (n1 q h)
 rw [<- e1,<- e2,e]
theorem T4.qN {A B:T4} {M N:Nat} (ha:A.le M) (hb:B.le N):(A.mul B).le (2 * (M * N)):=by
 have m:∀ x y:Int,x.natAbs<=M->y.natAbs<=N->(x * y).natAbs<=M * N:=fun x y hx hy=>by rw [Int.natAbs_mul];exact Nat.mul_le_mul hx hy
 have s:∀ x y z u:Int,x.natAbs<=M->y.natAbs<=N->z.natAbs<=M->u.natAbs<=N->(x * y + z * u).natAbs<=2 * (M * N):=fun x y z u h1 h2 h3 h4=>by
  have a:=m x y h1 h2
  have b:=m z u h3 h4
  omega
 obtain ⟨a1,a2,a3,a4⟩:=ha
 obtain ⟨b1,b2,b3,b4⟩:=hb
 exact ⟨s _ _ _ _ a1 b1 a2 b3,s _ _ _ _ a1 b2 a2 b4,s _ _ _ _ a3 b1 a4 b3,s _ _ _ _ a3 b2 a4 b4⟩
def Gr (x u:Int):Prop:=x * u<=0/\x.natAbs<=u.natAbs
theorem Gr.step {x u q:Int} (h:Gr x u) (hq:1<=q):Gr u (x - q * u):=by
 obtain ⟨h1,h2⟩:=h
 have hu:0<=u * u:=by
  rcases Int.lt_or_le u 0 with h | h
  ·exact Int.le_of_lt (Int.mul_pos_of_neg_of_neg h h)
  ·exact Int.mul_nonneg h h
 refine ⟨?_,?_⟩
 ·have e:u * (x - q * u)=x * u - q * (u * u):=by rw [Int.mul_sub,Int.mul_comm u x,Int.mul_left_comm]
  have:0<=q * (u * u):=Int.mul_nonneg (by omega) hu
  omega
 ·rcases Int.lt_trichotomy u 0 with h | h | h
  ·have hx:0<=x:=by
    rcases Int.lt_or_le x 0 with z | z
    ·have:=Int.mul_pos_of_neg_of_neg z h;omega
    ·exact z
   have:q * u<=u:=by
    have:=Int.mul_le_mul_of_nonpos_right hq (Int.le_of_lt h)
    omega
   omega
  ·subst h;simp
  ·have hx:x<=0:=by
    rcases Int.lt_or_le 0 x with z | z
    ·have:=Int.mul_pos z h;omega
    ·exact z
   have:u<=q * u:=by
    have:=Int.mul_le_mul_of_nonneg_right hq (Int.le_of_lt h)
    omega
   omega
structure Eu (a c o p x y u v:Int) (r:Nat):Prop where
 e1:o=a * x + c * y
 e2:p=a * u + c * v
 dt:x * v - y * u=1\/x * v - y * u=-1
 o0:0 < o
 p0:0<=p
 lt:r=0\/p < o
 hf:r=0\/o.toNat * p.toNat * 2 ^ (r - 1)<=1000000000000
 bo:o<=1000000
 bp:p<=1000000
 gx:r=0\/Gr x u
 gy:Gr y v\/(y=1/\v=0/\0 < p)
 z:r=0->x=1/\y=0/\u=0/\v=1/\o=a/\p=c
theorem Eu.zero {a c:Int} (ha:1<=a) (ha1:a<=1000000) (hc:0<=c) (hc1:c<=1000000):Eu a c a c 1 0 0 1 0 :=
 ⟨by omega,by omega,.inl (by decide),by omega,hc,.inl rfl,.inl rfl,ha1,hc1,.inl rfl,.inl ⟨by decide,by decide⟩,fun _=>⟨rfl,rfl,rfl,rfl,rfl,rfl⟩⟩
theorem Eu.few {a c o p x y u v:Int} {r:Nat} (h:Eu a c o p x y u v r) (hp:p≠0):r<=41:=by
 rcases h.hf with z | z
 ·omega
 ·have hp0:=h.p0
  have ho:=h.o0
  have h1:1<=o.toNat * p.toNat:=Nat.mul_pos (by omega) (by omega)
  have h2:2 ^ (r - 1)<=1000000000000:=Nat.le_trans (Nat.le_mul_of_pos_left _ h1) z
  have h3:r - 1 < 40:=(Nat.pow_lt_pow_iff_right (a:=2) (by decide)).mp (Nat.lt_of_le_of_lt h2 (by decide))
  omega
theorem Eu.step {a c o p x y u v:Int} {r:Nat} (h:Eu a c o p x y u v r) (hp:p≠0):Eu a c p (o - o.fdiv p * p) u v (x - o.fdiv p * u) (y - o.fdiv p * v) (r + 1):=by
 have hp0:0 < p:=by have:=h.p0;omega
 have CO:0<=o:=Int.le_of_lt h.o0
 have hq:o.fdiv p=o / p:=Int.fdiv_eq_ediv_of_nonneg o (by omega)
 rw [hq]
 have em:=Int.emod_add_mul_ediv o p
 have e0:=Int.emod_nonneg o (show p≠0 from hp)
 have e1:=Int.emod_lt_of_pos o hp0
 have er:o - o / p * p=o % p:=by rw [Int.mul_comm];omega
 have q0:0<=o / p:=Int.ediv_nonneg CO (by omega)
 rw [er]
 have q1:r≠0->1<=o / p:=fun hr=>by
  have:p < o:=by rcases h.lt with z | z;exact absurd z hr;exact z
  exact Int.le_ediv_of_mul_le hp0 (by omega)
 have Aj:r≠0->2 * (o % p)<=o:=fun hr=>by
  have:=q1 hr
  have:p<=p * (o / p):=by
   have:=Int.mul_le_mul_of_nonneg_left (q1 hr) (Int.le_of_lt hp0)
   omega
  omega
 generalize JX:o / p=q at *
 refine ⟨h.e2,?_,?_,hp0,e0,.inr e1,.inr ?_,h.bp,by have:=h.bp;omega,.inr ?_,?_,fun z=>by omega⟩
 ·rw [<- er,h.e1,h.e2,Int.mul_sub,Int.mul_sub,Int.mul_add,Int.mul_left_comm a q u,Int.mul_left_comm c q v];omega
 ·have e:u * (y - q * v) - v * (x - q * u)=-(x * v - y * u):=by
   rw [Int.mul_sub,Int.mul_sub,Int.mul_left_comm u q v,Int.mul_left_comm v q u,Int.mul_comm u v,Int.mul_comm u y,Int.mul_comm v x];omega
  rw [e]
  rcases h.dt with z | z <;> omega
 ·rw [Nat.add_sub_cancel]
  by_cases hr:r=0
  ·subst hr
   have hb:=h.bp
   have:p.toNat * (o % p).toNat<=1000000 * 1000000:=Nat.mul_le_mul (by omega) (by omega)
   omega
  ·have h1:o.toNat * p.toNat * 2 ^ (r - 1)<=1000000000000:=by rcases h.hf with z | z;exact absurd z hr;exact z
   have h2:=Aj hr
   have h3:p.toNat * (o % p).toNat * 2<=o.toNat * p.toNat:=by
    rw [Nat.mul_assoc,Nat.mul_comm o.toNat]
    exact Nat.mul_le_mul_left _ (by omega)
   have e:2 ^ r=2 * 2 ^ (r - 1):=by
    obtain ⟨k,rfl⟩:∃ k,r=k + 1:=⟨r - 1,by omega⟩
    rw [Nat.add_sub_cancel,Nat.pow_succ,Nat.mul_comm]
   rw [e,<- Nat.mul_assoc]
   exact Nat.le_trans (Nat.mul_le_mul_right _ h3) h1
 ·by_cases hr:r=0
  ·obtain ⟨z1,z2,z3,z4,z5,z6⟩:=h.z hr
   subst z1 z3
   rw [Int.mul_zero]
   exact ⟨by decide,by decide⟩
  ·rcases h.gx with z | z
   ·exact absurd z hr
   ·exact z.step (q1 hr)
 ·by_cases hr:r=0
  ·obtain ⟨z1,z2,z3,z4,z5,z6⟩:=h.z hr
   subst z2 z4
   by_cases Gi:q=0
   ·subst Gi
    refine .inr ⟨rfl,by decide,?_⟩
    have hoc:=h.o0
    have:o % p=o:=by rw [Int.mul_zero] at em;omega
    omega
   ·refine .inl ⟨by omega,by omega⟩
  ·rcases h.gy with z | ⟨z1,z2,z3⟩
   ·exact .inl (z.step (q1 hr))
   ·subst z1 z2
    rw [Int.mul_zero]
    exact .inl ⟨by decide,by decide⟩
theorem xS {o z a:Int} (ho:0 < o) (h:a=o * z):z.natAbs<=a.natAbs:=by
 rw [h,Int.natAbs_mul]
 exact Nat.le_mul_of_pos_left _ (by omega)
theorem Eu.fin {a c o x y u v:Int} {r:Nat} (h:Eu a c o 0 x y u v r) (ha:a.natAbs<=1000000) (hc:c.natAbs<=1000000):∃ e:Int,a=o * (e * v)/\c=o * (-(e * u))/\e * v * x - (0 - y) * -(e * u)=1/\(⟨e * v,0 - y,-(e * u),x⟩:T4).le 1000000:=by
 have k1:o * v=a * (x * v - y * u):=by
  have e2:=h.e2
  have:o * v=a * (x * v) + (c * v) * y:=by rw [h.e1,Int.add_mul,Int.mul_assoc,Int.mul_assoc,Int.mul_assoc,Int.mul_comm y v]
  have e3:c * v=-(a * u):=by omega
  rw [this,e3,Int.mul_sub,Int.neg_mul,Int.mul_assoc,Int.mul_comm u y];omega
 have k2:o * u=-(c * (x * v - y * u)):=by
  have e2:=h.e2
  have:o * u=(a * u) * x + c * (y * u):=by rw [h.e1,Int.add_mul,Int.mul_assoc,Int.mul_assoc,Int.mul_assoc,Int.mul_comm x u]
  have e3:a * u=-(c * v):=by omega
  rw [this,e3,Int.mul_sub,Int.neg_mul,Int.mul_assoc,Int.mul_comm v x];omega
 have ho:=h.o0
 have gy:y.natAbs<=v.natAbs:=by
  rcases h.gy with z | z
  ·exact z.2
  ·omega
 have gx:x.natAbs<=u.natAbs\/x=1:=by
  rcases h.gx with z | z
  ·exact .inr (h.z z).1
  ·exact .inl z.2
 rcases h.dt with z | z
 ·rw [z,Int.mul_one] at k1 k2
  have a1:a=o * (1 * v):=by rw [Int.one_mul];omega
  have c1:c=o * (-(1 * u)):=by rw [Int.one_mul,Int.mul_neg];omega
  have v1:=xS ho a1
  have u1:=xS ho c1
  refine ⟨1,a1,c1,?_,⟨by show (1 * v).natAbs<=_;omega,by show (0 - y).natAbs<=_;omega,by show (-(1 * u)).natAbs<=_;omega,by show x.natAbs<=_;omega⟩⟩
  rw [Int.one_mul,Int.one_mul,Int.zero_sub,Int.neg_mul_neg,Int.mul_comm v x];exact z
 ·rw [z] at k1 k2
  have a1:a=o * (-1 * v):=by rw [Int.neg_mul,Int.one_mul,Int.mul_neg];omega
  have c1:c=o * (-(-1 * u)):=by rw [Int.neg_mul,Int.one_mul,Int.neg_neg];omega
  have v1:=xS ho a1
  have u1:=xS ho c1
  refine ⟨-1,a1,c1,?_,⟨by show (-1 * v).natAbs<=_;omega,by show (0 - y).natAbs<=_;omega,by show (-(-1 * u)).natAbs<=_;omega,by show x.natAbs<=_;omega⟩⟩
  have e1:-1 * v * x=-(x * v):=by rw [Int.neg_mul,Int.one_mul,Int.neg_mul,Int.mul_comm v x]
  have e2:(0 - y) * -(-1 * u)=-(y * u):=by rw [Int.neg_mul (1:Int),Int.one_mul,Int.neg_neg,Int.zero_sub,Int.neg_mul]
  rw [e1,e2];omega
end au
namespace L4
open PySem PySem.Spec L2
inductive D where
 | non | bl (b:Bool) | int (i:Int) | str (x:Str) | ty (n:String) | tup (ds:List D) | ref (i:Nat)
instance:Inhabited D:=⟨.non⟩
inductive O where
 | lst (ds:List D) | kF (ds:List D) | dct (kvs:List (Key×D)) | vh (kvs:List (List Int×D)) | exc (c:Str) (fs:List (Str×D)) | any | j0 (lo hi:Int)
abbrev Store:=List O
abbrev ah:=List (Option D)
abbrev Dm (α:Type):=Store->Option (α×Store)
inductive Fl where
 | nx (δ:ah) | bk (δ:ah) | ct (δ:ah) | rt (d:D)
mutual
inductive Rp (K:PySem.W.Frag) (ρ:List Addr) (H:Hp):V->D->Prop
 | non:Rp K ρ H .non .non
 | bl (b:Bool):Rp K ρ H (.bl b) (.bl b)
 | int (i:Int):Rp K ρ H (.int i) (.int i)
 | str (x:Str):Rp K ρ H (.str x) (.str x)
 | ty (n:String):Rp K ρ H (.ty n) (.ty n)
 | ref {a:Addr} {i:Nat}:ρ[i]?=some a->Rp K ρ H (.ref a) (.ref i)
 | tup {a:Addr} {vs:List V} {ds:List D}:dF K H a vs->bU K ρ H vs ds->Rp K ρ H (.ref a) (.tup ds)
inductive bU (K:PySem.W.Frag) (ρ:List Addr) (H:Hp):List V->List D->Prop
 | nil:bU K ρ H [] []
 | cons {v:V} {vs:List V} {d:D} {ds:List D}:Rp K ρ H v d->bU K ρ H vs ds->bU K ρ H (v :: vs) (d :: ds)
end
structure Mn (K:PySem.W.Frag) (ρ:List Addr) (H:Hp) (ρ':List Addr) (H':Hp):Prop where
 r:∀ (i:Nat) (a:Addr),ρ[i]?=some a->ρ'[i]?=some a
 t:∀ a vs,dF K H a vs->dF K H' a vs
 f:∀ a o u,H a=some (.iX o u)->H' a=some (.iX o u)
 x:∀ a ws,H a=some (.xd ws)->H' a=some (.xd ws)
section
variable {K:PySem.W.Frag} {ρ ρ' ρ2:List Addr} {H H' H2:Hp}
theorem Mn.refl:Mn K ρ H ρ H:=⟨fun _ _ h=>h,fun _ _ h=>h,fun _ _ _ h=>h,fun _ _ h=>h⟩
theorem Mn.trans (m:Mn K ρ H ρ' H') (n:Mn K ρ' H' ρ2 H2):Mn K ρ H ρ2 H2:=⟨fun i a h=>n.r i a (m.r i a h),fun a vs h=>n.t a vs (m.t a vs h),fun a o u h=>n.f a o u (m.f a o u h),fun a ws h=>n.x a ws (m.x a ws h)⟩
mutual
theorem Rp.mn (m:Mn K ρ H ρ' H'):∀ {v:V} {d:D},Rp K ρ H v d->Rp K ρ' H' v d
 | _,_,.non=>.non
 | _,_,.bl b=>.bl b
 | _,_,.int i=>.int i
 | _,_,.str x=>.str x
 | _,_,.ty n=>.ty n
 | _,_,.ref e=>.ref (m.r _ _ e)
 | _,_,.tup q r=>.tup (m.t _ _ q) (bU.mn m r)
theorem bU.mn (m:Mn K ρ H ρ' H'):∀ {vs:List V} {ds:List D},bU K ρ H vs ds->bU K ρ' H' vs ds
 | _,_,.nil=>.nil
 | _,_,.cons a b=>.cons (Rp.mn m a) (bU.mn m b)
end
theorem bU.length:∀ {vs:List V} {ds:List D},bU K ρ H vs ds->vs.length=ds.length
 | _,_,.nil=>rfl
 | _,_,.cons _ r=>by rw [List.length_cons,List.length_cons,r.length]
theorem bU.got:∀ {vs:List V} {ds:List D},bU K ρ H vs ds->∀ {i:Nat} {d:D},ds[i]?=some d->∃ v,vs[i]?=some v/\Rp K ρ H v d
 | _,_,.nil,i,v,e=>by simp at e
 | _,_,.cons (v:=v) a b,0,d,e=>⟨v,by simp,by have:_=d:=Option.some.inj (by simpa using e);rw [<- this];exact a⟩
 | _,_,.cons a b,i + 1,d,e=>by
  obtain ⟨v,e1,r⟩:=bU.got b (i:=i) (by simpa using e)
  exact ⟨v,by simpa using e1,r⟩
theorem bU.append:∀ {vs:List V} {ds:List D} {ws:List V} {es:List D},bU K ρ H vs ds->bU K ρ H ws es->bU K ρ H (vs ++ ws) (ds ++ es)
 | _,_,_,_,.nil,s=>s
 | _,_,_,_,.cons a b,s=>.cons a (bU.append b s)
theorem bU.one {v:V} {d:D} (r:Rp K ρ H v d):bU K ρ H [v] [d]:=.cons r .nil
theorem bU.take:∀ {vs:List V} {ds:List D} (n:Nat),bU K ρ H vs ds->bU K ρ H (vs.take n) (ds.take n)
 | _,_,0,_=>.nil
 | _,_,_ + 1,.nil=>.nil
 | _,_,n + 1,.cons r t=>.cons r (bU.take n t)
theorem bU.drop:∀ {vs:List V} {ds:List D} (n:Nat),bU K ρ H vs ds->bU K ρ H (vs.drop n) (ds.drop n)
 | _,_,0,r=>r
 | _,_,_ + 1,.nil=>.nil
 | _,_,n + 1,.cons _ t=>bU.drop n t
theorem bU.set {v:V} {d:D} (r:Rp K ρ H v d):∀ {vs:List V} {ds:List D} (i:Nat),bU K ρ H vs ds->bU K ρ H (vs.set i v) (ds.set i d)
 | _,_,_,.nil=>.nil
 | _,_,0,.cons _ t=>.cons r t
 | _,_,i + 1,.cons q t=>.cons q (bU.set r i t)
theorem bU.reverse:∀ {vs:List V} {ds:List D},bU K ρ H vs ds->bU K ρ H vs.reverse ds.reverse
 | _,_,.nil=>.nil
 | _,_,.cons r t=>by rw [List.reverse_cons,List.reverse_cons];exact (bU.reverse t).append (.one r)
theorem bU.flat {vs:List V} {ds:List D} (r:bU K ρ H vs ds):∀ n:Nat,bU K ρ H (List.replicate n vs).flatten (List.replicate n ds).flatten
 | 0=>.nil
 | n + 1=>by rw [List.replicate_succ,List.replicate_succ,List.flatten_cons,List.flatten_cons];exact r.append (r.flat n)
theorem bU.ints:∀ (ns:List Int),bU K ρ H (ns.map V.int) (ns.map D.int)
 | []=>.nil
 | n :: r=>.cons (.int n) (bU.ints r)
end
def Rs (K:PySem.W.Frag) (ρ:List Addr) (H:Hp) (σ:St) (δ:ah):Prop:=σ.length=δ.length/\∀ (i:Nat) (d:D),δ[i]?=some (some d)->∃ v,σ[i]?=some (some v)/\Rp K ρ H v d
def Rk (K:PySem.W.Frag) (ρ:List Addr) (H:Hp):List (Key×V)->List (Key×D)->Prop:=Paired fun p q=>p.1=q.1/\Rp K ρ H p.2 q.2
def Ru (K:PySem.W.Frag) (ρ:List Addr) (H:Hp):List (List Int×D)->List (List Int×Addr×Value)->Prop:=Paired fun q x=>q.1=x.1/\dF K H x.2.1 (x.1.map V.int)/\∃ v,RelV v x.2.2/\Rp K ρ H v q.2
def Xd (K:PySem.W.Frag) (ρ:List Addr) (H:Hp):Option Addr->List (Str×D)->Prop
 | none,fs=>fs=[]
 | some d,fs=>∃ ws,H d=some (.xd ws)/\∀ f e,fs.lookup f=some e->∃ v,ws.lookup f=some v/\Rp K ρ H v e
def tq (K:PySem.W.Frag) (ρ:List Addr) (H:Hp) (a:Addr):O->Prop
 | .lst ds=>∃ vs,H a=some (.lst vs)/\bU K ρ H vs ds
 | .kF ds=>∃ vs,uO K H a vs/\bU K ρ H vs ds
 | .dct kvs=>∃ ws,H a=some (.dK ws)/\Rk K ρ H ws kvs
 | .vh kvs=>∃ xs,H a=some (DU a xs)/\Ru K ρ H kvs xs
 | .exc c fs=>∃ C dx tr,PySem.W.nsIn K mainGlobals c=some (some (.ref C))/\H a=some (XO a C dx tr)/\Xd K ρ H dx fs
 | .any=>True
 | .j0 lo hi=>H a=some (.j0 lo hi)
def O.mut:O->Bool
 | .kF _=>false
 | .any=>false
 | _=>true
structure Rl (K:PySem.W.Frag) (ρ:List Addr) (H:Hp) (st:Store):Prop where
 len:ρ.length=st.length
 nd:∀ (i j:Nat) (a:Addr) (o o':O),ρ[i]?=some a->ρ[j]?=some a->st[i]?=some o->st[j]?=some o'->o.mut=true->o'.mut=true->i=j
 obj:∀ (i:Nat) (a:Addr) (o:O),ρ[i]?=some a->st[i]?=some o->tq K ρ H a o
section
variable {K:PySem.W.Frag} {ρ ρ' ρ2:List Addr} {H H' H2:Hp} {st st':Store} {a p:Addr} {i:Nat} {o o':O} {ho:HO} {σ:St} {δ:ah}
theorem Rs.mn (h:Rs K ρ H σ δ) (m:Mn K ρ H ρ' H'):Rs K ρ' H' σ δ:=⟨h.1,fun i d e=>let ⟨v,e1,r⟩:=h.2 i d e;⟨v,e1,r.mn m⟩⟩
theorem Rk.mn (m:Mn K ρ H ρ' H') {ws:List (Key×V)} {kvs:List (Key×D)} (h:Rk K ρ H ws kvs):Rk K ρ' H' ws kvs:=by
 induction h with
 | nil=>exact .nil
 | cons a _ ih=>exact .cons ⟨a.1,a.2.mn m⟩ ih
theorem Ru.mn (m:Mn K ρ H ρ' H') {kvs:List (List Int×D)} {xs:List (List Int×Addr×Value)} (h:Ru K ρ H kvs xs):Ru K ρ' H' kvs xs:=by
 induction h with
 | nil=>exact .nil
 | cons a _ ih=>obtain ⟨a1,a2,v,a3,a4⟩:=a;exact .cons ⟨a1,m.t _ _ a2,v,a3,a4.mn m⟩ ih
theorem Xd.mn (m:Mn K ρ H ρ' H') {dx:Option Addr} {fs:List (Str×D)} (h:Xd K ρ H dx fs):Xd K ρ' H' dx fs:=by
 cases dx with
 | none=>exact h
 | some d=>obtain ⟨ws,e,q⟩:=h;exact ⟨ws,m.x _ _ e,fun f e' z=>let ⟨v,z1,z2⟩:=q f e' z;⟨v,z1,z2.mn m⟩⟩
theorem tq.keep (m:Mn K ρ H ρ' H') (h:∀ u,H a=some u->H' a=some u) (r:tq K ρ H a o):tq K ρ' H' a o:=by
 cases o with
 | lst ds=>obtain ⟨vs,e,q⟩:=r;exact ⟨vs,h _ e,q.mn m⟩
 | kF ds =>
  obtain ⟨vs,e,q⟩:=r
  refine ⟨vs,?_,q.mn m⟩
  rcases e with ⟨u,e⟩ | e
  ·exact .inl ⟨u,h _ e⟩
  ·exact .inr e
 | dct kvs=>obtain ⟨ws,e,q⟩:=r;exact ⟨ws,h _ e,q.mn m⟩
 | vh kvs=>obtain ⟨ws,e,q⟩:=r;exact ⟨ws,h _ e,q.mn m⟩
 | exc c fs=>obtain ⟨C,dx,tr,n,e,q⟩:=r;exact ⟨C,dx,tr,n,h _ e,q.mn m⟩
 | any=>trivial
 | j0 lo hi=>exact h _ r
theorem Mn.same (s:gB H H'):Mn K ρ H ρ H':=⟨fun _ _ h=>h,fun _ _ h=>(Kp.of_same (ch:=[]) s).zJ h,fun _ _ _ h=>s _ _ h,fun _ _ h=>s _ _ h⟩
theorem Rl.same (l:Rl K ρ H st) (s:gB H H'):Rl K ρ H' st:=⟨l.len,l.nd,fun i a o h1 h2=>(l.obj i a o h1 h2).keep (Mn.same s) fun u e=>s _ _ e⟩
theorem Rl.at (l:Rl K ρ H st) (h1:ρ[i]?=some a) (h2:st[i]?=some o) (hm:o.mut=true):∃ u,H a=some u/\∀ x y,u≠.iX x y:=by
 have r:=l.obj i a o h1 h2
 cases o with
 | lst ds=>obtain ⟨vs,e,_⟩:=r;exact ⟨_,e,fun x y z=>nomatch z⟩
 | kF ds=>cases hm
 | dct kvs=>obtain ⟨ws,e,_⟩:=r;exact ⟨_,e,fun x y z=>nomatch z⟩
 | vh kvs=>obtain ⟨ws,e,_⟩:=r;exact ⟨_,e,fun x y z=>by cases z⟩
 | exc c fs=>obtain ⟨C,dx,tr,_,e,_⟩:=r;exact ⟨_,e,fun x y z=>by cases z⟩
 | any=>cases hm
 | j0 lo hi=>exact ⟨_,r,fun x y z=>nomatch z⟩
theorem Mn.new (hp:H p=none):Mn K ρ H (ρ ++ [p]) (upd H p ho):=⟨fun i a h=>by
  obtain ⟨hi,_⟩:=List.getElem?_eq_some_iff.mp h
  rw [List.getElem?_append_left hi];exact h,fun _ _ h=>(Kp.of_same (ch:=[]) (gB.up hp)).zJ h,fun _ _ _ h=>gB.up hp _ _ h,fun _ _ h=>gB.up hp _ _ h⟩
theorem Rl.new (l:Rl K ρ H st) (hp:H p=none) (mk:tq K (ρ ++ [p]) (upd H p ho) p o):Rl K (ρ ++ [p]) (upd H p ho) (st ++ [o]):=by
 have m:Mn K ρ H (ρ ++ [p]) (upd H p ho):=Mn.new hp
 have split:∀ (i:Nat) (a:Addr) (o':O),(ρ ++ [p])[i]?=some a->(st ++ [o])[i]?=some o'->(ρ[i]?=some a/\st[i]?=some o')\/(i=ρ.length/\a=p/\o'=o):=fun i a o' h1 h2=>by
  by_cases hi:i < ρ.length
  ·rw [List.getElem?_append_left hi] at h1
   rw [List.getElem?_append_left (by rw [<- l.len];exact hi)] at h2
   exact .inl ⟨h1,h2⟩
  ·obtain ⟨hb,_⟩:=List.getElem?_eq_some_iff.mp h1
   rw [List.length_append,List.length_singleton] at hb
   have e:i=ρ.length:=by omega
   subst e
   rw [List.getElem?_append_right (Nat.le_refl _),Nat.sub_self] at h1
   rw [l.len,List.getElem?_append_right (Nat.le_refl _),Nat.sub_self] at h2
   exact .inr ⟨rfl,(Option.some.inj h1).symm,(Option.some.inj h2).symm⟩
 refine ⟨by rw [List.length_append,List.length_append,l.len];rfl,fun i j a u u' h1 h2 h3 h4 m1 m2=>?_,fun i a u h1 h2=>?_⟩
 ·rcases split i a u h1 h3 with ⟨g1,g2⟩ | ⟨rfl,rfl,rfl⟩ <;> rcases split j _ u' h2 h4 with ⟨k1,k2⟩ | ⟨k1,k2,k3⟩
  ·exact l.nd i j a u u' g1 k1 g2 k2 m1 m2
  ·subst k2
   obtain ⟨w,e,_⟩:=l.at g1 g2 m1
   rw [e] at hp;cases hp
  ·obtain ⟨w,e,_⟩:=l.at k1 k2 m2
   rw [e] at hp;cases hp
  ·exact k1.symm
 ·rcases split i a u h1 h2 with ⟨g1,g2⟩ | ⟨rfl,rfl,rfl⟩
  ·exact (l.obj i a u g1 g2).keep m fun w e=>gB.up hp _ _ e
  ·exact mk
theorem Rl.put (l:Rl K ρ H st) (hi:ρ[i]?=some a) (hs:st[i]?=some o) (hm:o.mut=true) (hm':o'.mut=true) (m:Mn K ρ H ρ (upd H a ho)) (r:tq K ρ (upd H a ho) a o'):Rl K ρ (upd H a ho) (st.set i o'):=by
 obtain ⟨w,ew,nf⟩:=l.at hi hs hm
 have Gj:i < st.length:=(List.getElem?_eq_some_iff.mp hs).1
 have old:∀ (j:Nat) (u:O),(st.set i o')[j]?=some u->(j=i/\u=o')\/(j≠i/\st[j]?=some u):=fun j u h=>by
  by_cases hj:i=j
  ·subst hj
   rw [List.getElem?_set_self Gj] at h
   exact .inl ⟨rfl,(Option.some.inj h).symm⟩
  ·rw [List.getElem?_set_ne hj] at h
   exact .inr ⟨fun z=>hj z.symm,h⟩
 refine ⟨by rw [List.length_set];exact l.len,fun j k b u u' h1 h2 h3 h4 m1 m2=>?_,fun j b u h1 h2=>?_⟩
 ·rcases old j u h3 with ⟨rfl,rfl⟩ | ⟨nj,g3⟩ <;> rcases old k u' h4 with ⟨rfl,rfl⟩ | ⟨nk,g4⟩
  ·rfl
  ·exact l.nd _ _ b o u' h1 h2 hs g4 hm m2
  ·exact l.nd _ _ b u o h1 h2 g3 hs m1 hm
  ·exact l.nd _ _ b u u' h1 h2 g3 g4 m1 m2
 ·rcases old j u h2 with ⟨rfl,rfl⟩ | ⟨nj,g2⟩
  ·rw [hi] at h1;cases h1;exact r
  ·by_cases hb:b=a
   ·subst hb
    cases u with
    | kF ds =>
     obtain ⟨vs,e,q⟩:=l.obj j b _ h1 g2
     refine ⟨vs,?_,q.mn m⟩
     rcases e with ⟨x,e⟩ | e
     ·rw [ew] at e;cases e;exact absurd rfl (nf _ _)
     ·exact .inr e
    | lst ds=>exact absurd (l.nd j i b _ o h1 hi g2 hs rfl hm) nj
    | vh ds=>exact absurd (l.nd j i b _ o h1 hi g2 hs rfl hm) nj
    | exc c fs=>exact absurd (l.nd j i b _ o h1 hi g2 hs rfl hm) nj
    | dct ds=>exact absurd (l.nd j i b _ o h1 hi g2 hs rfl hm) nj
    | any=>trivial
    | j0 lo up=>exact absurd (l.nd j i b _ o h1 hi g2 hs rfl hm) nj
   ·exact (l.obj j b u h1 g2).keep m fun w e=>by rw [eM hb];exact e
theorem Mn.put {xs:List V} (e:H a=some (.lst xs)):Mn K ρ H ρ (upd H a ho):=⟨fun _ _ h=>h,fun b vs h=>(Kp.put (ch:=[a]) (o:=ho) Kp.refl (by simp) e).zJ h,fun b o u h=>by rw [eM (fun z=>by rw [z,e] at h;cases h)];exact h,fun b ws h=>by rw [eM (fun z=>by rw [z,e] at h;cases h)];exact h⟩
theorem Rl.newL {vs:List V} {ds:List D} (l:Rl K ρ H st) (hp:H p=none) (r:bU K ρ H vs ds):Rl K (ρ ++ [p]) (upd H p (.lst vs)) (st ++ [.lst ds]):=l.new hp ⟨vs,lM,r.mn (Mn.new hp)⟩
theorem newR (l:Rl K ρ H st) (v:D:=.ref st.length):(ρ ++ [p])[st.length]?=some p:=by rw [<- l.len,List.getElem?_append_right (Nat.le_refl _),Nat.sub_self];rfl
theorem Rl.putL {vs:List V} {ds xs:List D} (l:Rl K ρ H st) (hi:ρ[i]?=some a) (hs:st[i]?=some (.lst xs)) (r:bU K ρ H vs ds):Rl K ρ (upd H a (.lst vs)) (st.set i (.lst ds))/\Mn K ρ H ρ (upd H a (.lst vs)):=by
 obtain ⟨ws,e,_⟩:=l.obj i a _ hi hs
 have m:Mn K ρ H ρ (upd H a (.lst vs)):=Mn.put e
 exact ⟨l.put hi hs rfl rfl m ⟨vs,lM,r.mn m⟩,m⟩
def items (st:Store) (i:Nat):Option (List D):=match st[i]? with
 | some (.lst ds)=>some ds
 | some (.kF ds)=>some ds
 | _=>none
theorem Rl.items {ds:List D} (l:Rl K ρ H st) (hi:ρ[i]?=some a) (h:items st i=some ds):∃ vs,fI K H a vs/\bU K ρ H vs ds:=by
 unfold L4.items at h
 split at h
 ·next ds' hs=>cases h;obtain ⟨vs,e,r⟩:=l.obj i a _ hi hs;exact ⟨vs,.inl (.inl e),r⟩
 ·next ds' hs=>cases h;obtain ⟨vs,e,r⟩:=l.obj i a _ hi hs;exact ⟨vs,e.sq,r⟩
 ·cases h
end
def So (K:PySem.W.Frag) {α β:Type} (R:List Addr->Hp->α->β->Prop) (t:St->Hp->(α->Hp->Prop)->Prop) (f:ah->Dm β):Prop :=
 ∀ (ρ:List Addr) (σ:St) (H:Hp) (δ:ah) (st:Store) (b:β) (st':Store) (Q:α->Hp->Prop),Rl K ρ H st->Rs K ρ H σ δ->f δ st=some (b,st') ->
  (∀ a H' ρ',Mn K ρ H ρ' H'->Rl K ρ' H' st'->R ρ' H' a b->Q a H')->t σ H Q
abbrev dQ (K:PySem.W.Frag) (t:TE) (f:ah->Dm D):Prop:=So K (Rp K) t f
abbrev kG (K:PySem.W.Frag) (t:TT) (f:ah->Dm Bool):Prop:=So K (fun _ _=>Eq) t f
abbrev lA (K:PySem.W.Frag) (t:TA) (f:ah->Dm (List D)):Prop:=So K (bU K) t f
abbrev xT (K:PySem.W.Frag) (t:TO) (f:ah->Dm (Option Int)):Prop:=So K (fun _ _=>Eq) t f
def vi (K:PySem.W.Frag) (r:V->Hp->VK->Prop) (g:D->Dm D):Prop :=
 ∀ (ρ:List Addr) (H:Hp) (st:Store) (x:V) (a:D) (b:D) (st':Store) (Q:VK),Rl K ρ H st->Rp K ρ H x a->g a st=some (b,st')->(∀ v H' ρ',Mn K ρ H ρ' H'->Rl K ρ' H' st'->Rp K ρ' H' v b->Q v H')->r x H Q
def iI (K:PySem.W.Frag) (r:R2) (g:D->D->Dm D):Prop :=
 ∀ (ρ:List Addr) (H:Hp) (st:Store) (x y:V) (a c:D) (b:D) (st':Store) (Q:VK),Rl K ρ H st->Rp K ρ H x a->Rp K ρ H y c->g a c st=some (b,st')->(∀ v H' ρ',Mn K ρ H ρ' H'->Rl K ρ' H' st'->Rp K ρ' H' v b->Q v H')->r x y H Q
def oY (K:PySem.W.Frag) (r:List V->Hp->VK->Prop) (g:List D->Dm D):Prop :=
 ∀ (ρ:List Addr) (H:Hp) (st:Store) (xs:List V) (as:List D) (b:D) (st':Store) (Q:VK),Rl K ρ H st->bU K ρ H xs as->g as st=some (b,st')->(∀ v H' ρ',Mn K ρ H ρ' H'->Rl K ρ' H' st'->Rp K ρ' H' v b->Q v H')->r xs H Q
def CP (K:PySem.W.Frag) (T:String) (r:V->List V->Hp->VK->Prop) (g:D->List D->Dm D):Prop :=
 ∀ (ρ:List Addr) (H:Hp) (st:Store) (x:V) (xs:List V) (a:D) (as:List D) (b:D) (st':Store) (Q:VK),Rl K ρ H st->Rp K ρ H x a->bU K ρ H xs as->g a as st=some (b,st')->(∀ v H' ρ',Mn K ρ H ρ' H'->Rl K ρ' H' st'->Rp K ρ' H' v b->Q v H')->r x xs H Q
def bnd {α β:Type} (m:Option (α×Store)) (k:α->Dm β):Option (β×Store):=match m with
 | some (a,st)=>k a st
 | none=>none
theorem cj {α β:Type} {m:Option (α×Store)} {k:α->Dm β} {r:β×Store} (h:bnd m k=some r):∃ a st,m=some (a,st)/\k a st=some r:=by
 cases m with
 | none=>cases h
 | some p=>exact ⟨p.1,p.2,rfl,h⟩
section
variable {K:PySem.W.Frag}
def af (i:Nat):ah->Dm D:=fun δ st=>match δ[i]? with
 | some (some d)=>some (d,st)
 | _=>none
theorem aq (i:Nat):dQ K (pT i) (af i):=by
 intro ρ σ H δ st b st' Q l rs e q
 unfold af at e
 split at e
 ·next d hd=>cases e;obtain ⟨v,ev,r⟩:=rs.2 i _ hd;exact ⟨v,ev,q v H ρ .refl l r⟩
 ·cases e
def fC (d:D):ah->Dm D:=fun _ st=>some (d,st)
theorem lB {v:V} {d:D} (h:∀ ρ H,Rp K ρ H v d):dQ K (tC v) (fC d):=by
 intro ρ σ H δ st b st' Q l rs e q
 cases e
 exact q v H ρ .refl l (h ρ H)
theorem aA (i:Int):dQ K (tC (.int i)) (fC (.int i)):=lB fun _ _=>.int i
theorem qO (b:Bool):dQ K (tC (.bl b)) (fC (.bl b)):=lB fun _ _=>.bl b
theorem jA (x:Str):dQ K (tC (.str x)) (fC (.str x)):=lB fun _ _=>.str x
theorem CQ:dQ K (tC .non) (fC .non):=lB fun _ _=>.non
theorem xU (n:String):dQ K (tC (.ty n)) (fC (.ty n)):=lB fun _ _=>.ty n
def av (g:D->D->Dm D) (fa fb:ah->Dm D):ah->Dm D:=fun δ st=>bnd (fa δ st) fun a st1=>bnd (fb δ st1) fun b st2=>g a b st2
theorem aw {r:R2} {g:D->D->Dm D} {ta tb:TE} {fa fb:ah->Dm D} (hr:iI K r g) (ha:dQ K ta fa) (hb:dQ K tb fb):dQ K (uz r ta tb) (av g fa fb):=by
 intro ρ σ H δ st b st' Q l rs e q
 obtain ⟨a,st1,e1,e⟩:=cj e
 obtain ⟨c,st2,e2,e⟩:=cj e
 refine ha ρ σ H δ st a st1 _ l rs e1 fun x H1 ρ1 m1 l1 r1=>hb ρ1 σ H1 δ st1 c st2 _ l1 (rs.mn m1) e2 fun y H2 ρ2 m2 l2 r2=>?_
 exact hr ρ2 H2 st2 x y a c b st' Q l2 (r1.mn m2) r2 e fun v H3 ρ3 m3 l3 r3=>q v H3 ρ3 ((m1.trans m2).trans m3) l3 r3
def mw (g:D->Dm D) (fa:ah->Dm D):ah->Dm D:=fun δ st=>bnd (fa δ st) fun a st1=>g a st1
theorem oZ {r:V->Hp->VK->Prop} {g:D->Dm D} {ta:TE} {fa:ah->Dm D} (hr:vi K r g) (ha:dQ K ta fa):dQ K (Bt r ta) (mw g fa):=by
 intro ρ σ H δ st b st' Q l rs e q
 obtain ⟨a,st1,e1,e⟩:=cj e
 exact ha ρ σ H δ st a st1 _ l rs e1 fun x H1 ρ1 m1 l1 r1=>hr ρ1 H1 st1 x a b st' Q l1 r1 e fun v H3 ρ3 m3 l3 r3=>q v H3 ρ3 (m1.trans m3) l3 r3
theorem qP {r:V->Hp->VK->Prop} {g:D->Dm D} {ta:TE} {fa:ah->Dm D} (hr:vi K r g) (ha:dQ K ta fa):dQ K (fun σ H Q=>ta σ H fun x H1=>r x H1 Q) (mw g fa):=oZ hr ha
def aj:ah->Dm (List D):=fun _ st=>some ([],st)
def ae (fa:ah->Dm D) (fr:ah->Dm (List D)):ah->Dm (List D):=fun δ st=>bnd (fa δ st) fun a st1=>bnd (fr δ st1) fun r st2=>some (a :: r,st2)
theorem aG:lA K qc aj:=by
 intro ρ σ H δ st b st' Q l rs e q
 cases e
 exact q [] H ρ .refl l .nil
theorem ao {ta:TE} {tr:TA} {fa:ah->Dm D} {fr:ah->Dm (List D)} (ha:dQ K ta fa) (hr:lA K tr fr):lA K (kO ta tr) (ae fa fr):=by
 intro ρ σ H δ st b st' Q l rs e q
 obtain ⟨a,st1,e1,e⟩:=cj e
 obtain ⟨c,st2,e2,e⟩:=cj e
 cases e
 exact ha ρ σ H δ st a st1 _ l rs e1 fun x H1 ρ1 m1 l1 r1=>hr ρ1 σ H1 δ st1 c _ _ l1 (rs.mn m1) e2 fun y H2 ρ2 m2 l2 r2=>q _ H2 ρ2 (m1.trans m2) l2 (.cons (r1.mn m2) r2)
def lim (n:Nat):Bool:=Nat.ble n 100000
theorem xV {n:Nat} (h:lim n=true):n<=sizeLine:=Nat.le_trans (Nat.le_of_ble_eq_true h) (by decide)
theorem CS {n:Nat} (h:lim n=true):n < sizeLine:=Nat.lt_of_le_of_lt (Nat.le_of_ble_eq_true h) (by decide)
def aV (fa:ah->Dm (List D)):ah->Dm D:=fun δ st=>bnd (fa δ st) fun as st1=>if lim as.length=true then some (.tup as,st1) else none
theorem df {ta:TA} {fa:ah->Dm (List D)} (ha:lA K ta fa):dQ K (uE ta) (aV fa):=by
 intro ρ σ H δ st b st' Q l rs e q
 obtain ⟨as,st1,e1,e⟩:=cj e
 split at e
 ·next hl =>
  cases e
  refine ha ρ σ H δ st as _ _ l rs e1 fun xs H1 ρ1 m1 l1 r1=>⟨by rw [r1.length];exact xV hl,fun p hp=>?_⟩
  have m2:Mn K ρ1 H1 ρ1 (upd H1 p (.tup xs)):=Mn.same (gB.up hp)
  exact q _ _ ρ1 (m1.trans m2) (l1.same (gB.up hp)) (.tup (dF.of lM) (r1.mn m2))
 ·cases e
def eP (fa:ah->Dm (List D)):ah->Dm D:=fun δ st=>bnd (fa δ st) fun as st1=>if lim as.length=true then some (.ref st1.length,st1 ++ [.lst as]) else none
theorem kr {ta:TA} {fa:ah->Dm (List D)} (ha:lA K ta fa):dQ K (uF ta) (eP fa):=by
 intro ρ σ H δ st b st' Q l rs e q
 obtain ⟨as,st1,e1,e⟩:=cj e
 split at e
 ·next hl =>
  cases e
  refine ha ρ σ H δ st as _ _ l rs e1 fun xs H1 ρ1 m1 l1 r1=>⟨by rw [r1.length];exact xV hl,fun p hp=>?_⟩
  exact q _ _ _ (m1.trans (Mn.new hp)) (l1.newL hp r1) (.ref (newR l1))
 ·cases e
def aL (fa:ah->Dm D):ah->Dm Bool:=fun δ st=>bnd (fa δ st) fun a st1=>match a with
 | .bl b=>some (b,st1)
 | _=>none
theorem gK {ta:TE} {fa:ah->Dm D} (ha:dQ K ta fa):kG K (l6 ta) (aL fa):=by
 intro ρ σ H δ st b st' Q l rs e q
 obtain ⟨a,st1,e1,e⟩:=cj e
 cases a <;> simp at e
 obtain ⟨rfl,rfl⟩:=e
 refine ha ρ σ H δ st _ _ _ l rs e1 fun x H1 ρ1 m1 l1 r1=>?_
 cases r1
 exact ⟨_,rfl,q _ H1 ρ1 m1 l1 rfl⟩
theorem o1 {ta:TE} {fa:ah->Dm D} (ha:dQ K ta fa):kG K (tB ta) (aL fa):=gK ha
def jc (fa:ah->Dm Bool):ah->Dm Bool:=fun δ st=>bnd (fa δ st) fun a st1=>some (!a,st1)
theorem o3 {ta:TT} {fa:ah->Dm Bool} (ha:kG K ta fa):kG K (uj ta) (jc fa):=by
 intro ρ σ H δ st b st' Q l rs e q
 obtain ⟨a,st1,e1,e⟩:=cj e
 cases e
 exact ha ρ σ H δ st _ _ _ l rs e1 fun x H1 ρ1 m1 l1 r1=>q _ H1 ρ1 m1 l1 (by rw [r1])
def lC (fa fb:ah->Dm Bool):ah->Dm Bool:=fun δ st=>bnd (fa δ st) fun a st1=>if a=true then fb δ st1 else some (false,st1)
def lQ (fa fb:ah->Dm Bool):ah->Dm Bool:=fun δ st=>bnd (fa δ st) fun a st1=>if a=true then some (true,st1) else fb δ st1
theorem Ak {ta tb:TT} {fa fb:ah->Dm Bool} (ha:kG K ta fa) (hb:kG K tb fb):kG K (ui ta tb) (lC fa fb):=by
 intro ρ σ H δ st b st' Q l rs e q
 obtain ⟨a,st1,e1,e⟩:=cj e
 refine ha ρ σ H δ st _ _ _ l rs e1 fun x H1 ρ1 m1 l1 r1=>?_
 subst r1
 cases x with
 | true =>
  refine kE ?_
  rw [if_pos rfl] at e
  exact hb ρ1 σ H1 δ st1 b st' _ l1 (rs.mn m1) e fun y H2 ρ2 m2 l2 r2=>q y H2 ρ2 (m1.trans m2) l2 r2
 | false =>
  refine kD ?_
  rw [if_neg Bool.false_ne_true] at e
  cases e
  exact q _ H1 ρ1 m1 l1 rfl
theorem nG {ta tb:TT} {fa fb:ah->Dm Bool} (ha:kG K ta fa) (hb:kG K tb fb):kG K (Bn ta tb) (lQ fa fb):=by
 intro ρ σ H δ st b st' Q l rs e q
 obtain ⟨a,st1,e1,e⟩:=cj e
 refine ha ρ σ H δ st _ _ _ l rs e1 fun x H1 ρ1 m1 l1 r1=>?_
 subst r1
 cases x with
 | false =>
  refine kD ?_
  rw [if_neg Bool.false_ne_true] at e
  exact hb ρ1 σ H1 δ st1 b st' _ l1 (rs.mn m1) e fun y H2 ρ2 m2 l2 r2=>q y H2 ρ2 (m1.trans m2) l2 r2
 | true =>
  refine kE ?_
  rw [if_pos rfl] at e
  cases e
  exact q _ H1 ρ1 m1 l1 rfl
def iJ (fa fb:ah->Dm D):ah->Dm D:=fun δ st=>bnd (aL fa δ st) fun a st1=>if a=true then fb δ st1 else some (.bl false,st1)
def vj (fa fb:ah->Dm D):ah->Dm D:=fun δ st=>bnd (aL fa δ st) fun a st1=>if a=true then some (.bl true,st1) else fb δ st1
def o4 (fa:ah->Dm D):ah->Dm D:=fun δ st=>bnd (aL fa δ st) fun a st1=>some (.bl (!a),st1)
theorem Gk {fa:ah->Dm D} {δ:ah} {st st1:Store} {b:Bool} (h:aL fa δ st=some (b,st1)):fa δ st=some (.bl b,st1):=by
 obtain ⟨a,st2,e1,e⟩:=cj h
 cases a <;> simp at e
 obtain ⟨rfl,rfl⟩:=e
 exact e1
theorem vk {ta tb:TE} {fa fb:ah->Dm D} (ha:dQ K ta fa) (hb:dQ K tb fb):dQ K (ou ta tb) (iJ fa fb):=by
 intro ρ σ H δ st b st' Q l rs e q
 obtain ⟨a,st1,e1,e⟩:=cj e
 refine ha ρ σ H δ st _ _ _ l rs (Gk e1) fun x H1 ρ1 m1 l1 r1=>?_
 cases r1
 refine ⟨a,rfl,?_⟩
 cases a with
 | true =>
  refine kE ?_
  rw [if_pos rfl] at e
  exact hb ρ1 σ H1 δ st1 b st' _ l1 (rs.mn m1) e fun y H2 ρ2 m2 l2 r2=>q y H2 ρ2 (m1.trans m2) l2 r2
 | false =>
  refine kD ?_
  rw [if_neg Bool.false_ne_true] at e
  cases e
  exact q _ H1 ρ1 m1 l1 (.bl _)
def ie {β:Type} (c:ah->Dm Bool) (fa fb:ah->Dm β):ah->Dm β:=fun δ st=>bnd (c δ st) fun a st1=>if a=true then fa δ st1 else fb δ st1
def gk:ah->Dm (Option Int):=fun _ st=>some (none,st)
def jd (fa:ah->Dm D):ah->Dm (Option Int):=fun δ st=>bnd (fa δ st) fun a st1=>match a with
 | .int i=>some (some i,st1)
 | _=>none
theorem xW:xT K kR gk:=by
 intro ρ σ H δ st b st' Q l rs e q
 cases e
 exact q _ H ρ .refl l rfl
theorem xX {ta:TE} {fa:ah->Dm D} (ha:dQ K ta fa):xT K (oH ta) (jd fa):=by
 intro ρ σ H δ st b st' Q l rs e q
 obtain ⟨a,st1,e1,e⟩:=cj e
 cases a <;> simp at e
 obtain ⟨rfl,rfl⟩:=e
 refine ha ρ σ H δ st _ _ _ l rs e1 fun x H1 ρ1 m1 l1 r1=>?_
 cases r1
 exact ⟨_,rfl,q _ H1 ρ1 m1 l1 rfl⟩
def qQ (K:PySem.W.Frag) (r:V->Option Int->Option Int->Hp->VK->Prop) (g:D->Option Int->Option Int->Dm D):Prop :=
 ∀ lo hi,vi K (fun x=>r x lo hi) (fun a=>g a lo hi)
def qR (g:D->Option Int->Option Int->Dm D) (fa:ah->Dm D) (fl fh:ah->Dm (Option Int)):ah->Dm D:=fun δ st=>bnd (fa δ st) fun a st1=>bnd (fl δ st1) fun lo st2=>bnd (fh δ st2) fun hi st3=>g a lo hi st3
theorem xY {r:V->Option Int->Option Int->Hp->VK->Prop} {g:D->Option Int->Option Int->Dm D} {ta:TE} {tl th:TO} {fa:ah->Dm D} {fl fh:ah->Dm (Option Int)} (hr:qQ K r g) (ha:dQ K ta fa) (hl:xT K tl fl) (hh:xT K th fh):dQ K (BN r ta tl th) (qR g fa fl fh):=by
 intro ρ σ H δ st b st' Q l rs e q
 obtain ⟨a,st1,e1,e⟩:=cj e
 obtain ⟨lo,st2,e2,e⟩:=cj e
 obtain ⟨hi,st3,e3,e⟩:=cj e
 refine ha ρ σ H δ st a st1 _ l rs e1 fun x H1 ρ1 m1 l1 r1=>hl ρ1 σ H1 δ st1 lo st2 _ l1 (rs.mn m1) e2 fun y H2 ρ2 m2 l2 r2=>hh ρ2 σ H2 δ st2 hi st3 _ l2 (rs.mn (m1.trans m2)) e3 fun z H3 ρ3 m3 l3 r3=>?_
 subst r2 r3
 exact hr y z ρ3 H3 st3 x a b st' Q l3 (r1.mn (m2.trans m3)) e fun v H4 ρ4 m4 l4 r4=>q v H4 ρ4 (((m1.trans m2).trans m3).trans m4) l4 r4
def bF (g:List D->Dm D) (fa:ah->Dm (List D)):ah->Dm D:=fun δ st=>bnd (fa δ st) fun as st1=>g as st1
theorem jl {r:List V->Hp->VK->Prop} {g:List D->Dm D} {ta:TA} {fa:ah->Dm (List D)} (hr:oY K r g) (ha:lA K ta fa):dQ K (xA r ta) (bF g fa):=by
 intro ρ σ H δ st b st' Q l rs e q
 obtain ⟨as,st1,e1,e⟩:=cj e
 exact ha ρ σ H δ st as st1 _ l rs e1 fun x H1 ρ1 m1 l1 r1=>hr ρ1 H1 st1 x as b st' Q l1 r1 e fun v H3 ρ3 m3 l3 r3=>q v H3 ρ3 (m1.trans m3) l3 r3
def cc (K:PySem.W.Frag) (n:Nat) (F:List D->Dm D):Sp:=fun vs H Q _=>vs.length=n/\∃ (ρ:List Addr) (st:Store) (ds:List D) (b:D) (st':Store),Rl K ρ H st/\bU K ρ H vs ds/\F ds st=some (b,st') /\
 ∀ v H' ρ',Mn K ρ H ρ' H'->Rl K ρ' H' st'->Rp K ρ' H' v b->Q v H'
theorem cU {n:Nat} {F:List D->Dm D} {ta:TA} {fa:ah->Dm (List D)} {E:XK} (ha:lA K ta fa) (hn:∀ δ st as st',fa δ st=some (as,st')->as.length=n):dQ K (ma (cc K n F) [] E ta) (bF F fa):=by
 intro ρ σ H δ st b st' Q l rs e q
 obtain ⟨as,st1,e1,e⟩:=cj e
 refine ha ρ σ H δ st as st1 _ l rs e1 fun vs H1 ρ1 m1 l1 r1=>⟨?_,ρ1,st1,as,b,st',l1,?_,e,fun v H3 ρ3 m3 l3 r3=>q v H3 ρ3 (m1.trans m3) l3 r3⟩
 ·rw [List.append_nil,r1.length];exact hn _ _ _ _ e1
 ·rw [List.append_nil];exact r1
theorem cE {δ:ah} {st st':Store} {as:List D} (h:aj δ st=some (as,st')):as.length=0:=by cases h;rfl
theorem bu {fa:ah->Dm D} {fr:ah->Dm (List D)} {n:Nat} (hr:∀ δ st as st',fr δ st=some (as,st')->as.length=n):∀ δ st as st',ae fa fr δ st=some (as,st')->as.length=n + 1:=fun δ st as st' h=>by
 obtain ⟨a,st1,e1,e⟩:=cj h
 obtain ⟨c,st2,e2,e⟩:=cj e
 cases e
 rw [List.length_cons,hr _ _ _ _ e2]
end
end L4
namespace L4
open PySem PySem.Spec L2
section
variable {K:PySem.W.Frag}
def o5 (h:Int->Int->D):D->D->Dm D
 | .int i,.int j,st=>some (h i j,st)
 | _,_,_=>none
theorem vm {gv:Int->Int->V} {h:Int->Int->D} (hh:∀ i j ρ H,Rp K ρ H (gv i j) (h i j)):iI K (lx gv) (o5 h):=by
 intro ρ H st x y a c b st' Q l rx ry e q
 unfold o5 at e
 split at e
 ·cases e;cases rx;cases ry;exact ⟨_,_,rfl,rfl,q _ H ρ .refl l (hh _ _ ρ H)⟩
 ·cases e
def nH (c:Int->Int->Bool) (h:Int->Int->D):D->D->Dm D
 | .int i,.int j,st=>if c i j=true then some (h i j,st) else none
 | _,_,_=>none
theorem tu {C:Int->Int->Prop} {c:Int->Int->Bool} {gv:Int->Int->V} {h:Int->Int->D} (hc:∀ i j,c i j=true->C i j) (hh:∀ i j ρ H,Rp K ρ H (gv i j) (h i j)):iI K (rI C gv) (nH c h):=by
 intro ρ H st x y a d b st' Q l rx ry e q
 unfold nH at e
 split at e
 ·split at e
  ·next hcc=>cases e;cases rx;cases ry;exact ⟨_,_,rfl,rfl,hc _ _ hcc,q _ H ρ .refl l (hh _ _ ρ H)⟩
  ·cases e
 ·cases e
def cF:D->D->Dm D:=o5 fun i j=>.int (i + j)
def bN:D->D->Dm D:=o5 fun i j=>.int (i - j)
def iu:D->D->Dm D:=nH (fun i j=>decide (-18446744073709551616 < i/\i < 18446744073709551616) || decide (-18446744073709551616 < j/\j < 18446744073709551616)) fun i j=>.int (i * j)
def j8:D->D->Dm D:=nH (fun i j=>decide (0 < j/\j < 1073741824)) fun i j=>.int (i / j)
def iP:D->D->Dm D:=nH (fun i j=>decide (0 < j)) fun i j=>.int (i % j)
def mx:D->D->Dm D:=nH (fun i j=>decide (0<=j/\j<=1000000/\i.natAbs < 18446744073709551616)) fun i j=>.int (i ^ j.toNat)
def vn:D->D->Dm D:=o5 fun i j=>.bl (decide (i < j))
def Gm:D->D->Dm D:=o5 fun i j=>.bl (decide (i<=j))
def tw:D->D->Dm D:=o5 fun i j=>.bl (decide (j < i))
def Al:D->D->Dm D:=o5 fun i j=>.bl (decide (j<=i))
theorem ig:iI K (lx fun i j=>.int (i + j)) cF:=vm fun _ _ _ _=>.int _
theorem fO:iI K (lx fun i j=>.int (i - j)) bN:=vm fun _ _ _ _=>.int _
theorem mQ:iI K (rI lZ fun i j=>.int (i * j)) iu:=tu (fun i j h=>by
 rw [Bool.or_eq_true,decide_eq_true_eq,decide_eq_true_eq] at h
 exact h) fun _ _ _ _=>.int _
theorem CT:iI K (rI uB fun i j=>.int (i / j)) j8:=tu (fun i j h=>of_decide_eq_true (p:=0 < j/\j < 1073741824) h) fun _ _ _ _=>.int _
theorem nI:iI K (rI (fun _ j=>0 < j) fun i j=>.int (i % j)) iP:=tu (fun i j h=>of_decide_eq_true h) fun _ _ _ _=>.int _
theorem CU:iI K (rI uC fun i j=>.int (i ^ j.toNat)) mx:=tu (fun i j h=>by have h:=of_decide_eq_true (p:=0<=j/\j<=1000000/\i.natAbs < 18446744073709551616) h;exact ⟨h.1,h.2.1,by omega⟩) fun _ _ _ _=>.int _
theorem Am:iI K (lx fun i j=>.bl (decide (i < j))) vn:=vm fun _ _ _ _=>.bl _
theorem xZ:iI K (lx fun i j=>.bl (decide (j < i))) tw:=vm fun _ _ _ _=>.bl _
theorem vo:iI K (lx fun i j=>.bl (decide (j<=i))) Al:=vm fun _ _ _ _=>.bl _
def jr:D->Dm D
 | .int i,st=>some (.int (-i),st)
 | _,_=>none
theorem qS:vi K (rU fun i=>.int (-i)) jr:=by
 intro ρ H st x a b st' Q l rx e q
 unfold jr at e
 split at e
 ·cases e;cases rx;exact ⟨_,rfl,q _ H ρ .refl l (.int _)⟩
 ·cases e
def sV:D->Option V
 | .non=>some .non
 | .bl b=>some (.bl b)
 | .int i=>some (.int i)
 | .str x=>some (.str x)
 | _=>none
theorem x3 {ρ:List Addr} {H:Hp} {x v:V} {a:D} (r:Rp K ρ H x a) (h:sV a=some v):x=v:=by
 cases r <;> first | (cases h;rfl) | cases h
def gY (neg:Bool):D->D->Dm D:=fun a b st=>match sV a,sV b with
 | some x,some y=>if kC x y=true then some (.bl (if neg then !decide (x=y) else decide (x=y)),st) else none
 | _,_=>none
theorem jt:iI K Bw (gY false):=by
 intro ρ H st x y a c b st' Q l rx ry e q
 unfold gY at e
 split at e
 ·next u v h1 h2 =>
  split at e
  ·next hs=>cases e;cases x3 rx h1;cases x3 ry h2;exact ⟨hs,q _ H ρ .refl l (.bl _)⟩
  ·cases e
 ·cases e
theorem An:iI K Bx (gY true):=by
 intro ρ H st x y a c b st' Q l rx ry e q
 unfold gY at e
 split at e
 ·next u v h1 h2 =>
  split at e
  ·next hs=>cases e;cases x3 rx h1;cases x3 ry h2;exact ⟨hs,q _ H ρ .refl l (.bl _)⟩
  ·cases e
 ·cases e
def du {α β:Type} (f:α->Option β):List α->Option (List β)
 | []=>some []
 | a :: r=>match f a,du f r with
  | some b,some s=>some (b :: s)
  | _,_=>none
theorem x4 {α β:Type} {f:α->Option β} {a:α} {r:List α} {s:List β} (h:du f (a :: r)=some s):∃ b t,f a=some b/\du f r=some t/\s=b :: t:=by
 unfold du at h
 split at h
 ·next b t h1 h2=>cases h;exact ⟨b,t,h1,h2,rfl⟩
 ·cases h
theorem x5 {α β γ:Type} {f:α->Option β} {g:γ->α} {k:γ->β} (h:∀ c,f (g c)=some (k c)):∀ l:List γ,du f (l.map g)=some (l.map k)
 | []=>rfl
 | c :: r=>by
  show du f (g c :: r.map g)=_
  unfold du
  rw [h c,x5 h r]
  rfl
def gZ (st:Store):Nat->D->Option PyData
 | 0,_=>none
 | _ + 1,.non=>some .none
 | _ + 1,.bl b=>some (.bool b)
 | _ + 1,.int i=>some (.int i)
 | _ + 1,.str x=>some (.str x)
 | _ + 1,.ty _=>none
 | n + 1,.tup ds=>(du (gZ st n) ds).map PyData.tuple
 | n + 1,.ref i=>match items st i with
  | some ds=>(du (gZ st n) ds).map PyData.list
  | none=>none
theorem vp {ρ:List Addr} {H:Hp} {st:Store} (l:Rl K ρ H st):∀ (n:Nat) {v:V} {d:D} {p:PyData},Rp K ρ H v d->gZ st n d=some p->Rep K H v p
 | 0,_,_,_,_,h=>by simp [gZ] at h
 | n + 1,v,d,p,r,h=>by
  have all:∀ {vs:List V} {ds:List D} {ps:List PyData},bU K ρ H vs ds->du (gZ st n) ds=some ps->dG K H vs ps:=by
   intro vs ds ps rr
   induction vs generalizing ds ps with
   | nil=>intro hm;cases rr;cases hm;exact .nil
   | cons w ws ih =>
    intro hm
    cases rr with
    | cons ra rb =>
     obtain ⟨b,t,h1,h2,rfl⟩:=x4 hm
     exact .cons (vp l n ra h1) (ih rb h2)
  cases r with
  | non=>simp [gZ] at h;subst h;exact .non
  | bl b=>simp [gZ] at h;subst h;exact .bl b
  | int i=>simp [gZ] at h;subst h;exact .int i
  | str x=>simp [gZ] at h;subst h;exact .str x
  | ty n=>simp [gZ] at h
  | ref hi =>
   simp only [gZ] at h
   split at h
   ·next ds hd =>
    obtain ⟨ps,h1,rfl⟩:=Option.map_eq_some_iff.mp h
    obtain ⟨vs,e,rr⟩:=l.items hi hd
    exact .lst e (all rr h1)
   ·cases h
  | tup q rr =>
   simp only [gZ] at h
   obtain ⟨ps,h1,rfl⟩:=Option.map_eq_some_iff.mp h
   exact .tup q (all rr h1)
def fF (neg:Bool):D->D->Dm D:=fun a b st=>match gZ st 20 a,gZ st 20 b with
 | some p,some q=>if (PyData.canLay0 p && PyData.canLay0 q && decide (min p.depth q.depth<=60))=true then some (.bl (if neg then !PyData.eqv p q else PyData.eqv p q),st) else none
 | _,_=>none
theorem qT (neg:Bool):iI K (qs K neg) (fF neg):=by
 intro ρ H st x y a c b st' Q l rx ry e q
 unfold fF at e
 split at e
 ·next u v h1 h2 =>
  split at e
  ·next hs =>
   cases e
   rw [Bool.and_eq_true,Bool.and_eq_true,decide_eq_true_eq] at hs
   exact ⟨u,v,vp l 20 rx h1,vp l 20 ry h2,hs.1.1,hs.1.2,hs.2,q _ H ρ .refl l (.bl _)⟩
  ·cases e
 ·cases e
theorem at_of {ρ:List Addr} {H:Hp} {vs:List V} {ds:List D} {i:Int} {d:D} (r:bU K ρ H vs ds) (h:fM ds i=some d):∃ v,fM vs i=some v/\Rp K ρ H v d:=by
 unfold fM at h ⊢
 rw [r.length]
 cases hx:jx ds.length i with
 | none=>rw [hx] at h;cases h
 | some j =>
  rw [hx] at h
  exact r.got h
def aO:D->D->Dm D
 | .tup ds,.int i,st=>match fM ds i with
  | some d=>some (d,st)
  | none=>none
 | _,_,_=>none
theorem cV:iI K (qj K) aO:=by
 intro ρ H st x y a c b st' Q l rx ry e q
 unfold aO at e
 split at e
 ·split at e
  ·next d hd =>
   cases e
   cases ry
   cases rx with
   | tup s r =>
    obtain ⟨v,hv,rv⟩:=at_of r hd
    exact ⟨_,_,_,v,rfl,rfl,s,hv,q v H ρ .refl l rv⟩
  ·cases e
 ·cases e
def dR:D->D->Dm D
 | .ref r,.int i,st=>match items st r with
  | some ds=>match fM ds i with
   | some d=>some (d,st)
   | none=>none
  | none=>none
 | _,_,_=>none
theorem jJ:iI K (qi K) dR:=by
 intro ρ H st x y a c b st' Q l rx ry e q
 unfold dR at e
 split at e
 ·split at e
  ·next ds hi =>
   split at e
   ·next d hd =>
    cases e
    cases ry
    cases rx with
    | ref hr =>
     obtain ⟨vs,s,r⟩:=l.items hr hi
     obtain ⟨v,hv,rv⟩:=at_of r hd
     exact ⟨_,_,_,v,rfl,rfl,s,hv,q v H ρ .refl l rv⟩
   ·cases e
  ·cases e
 ·cases e
def qU:D->D->Dm D
 | .str z,.int i,st=>if lim z.length=true then match fM z.cps.toList i with
   | some c=>some (.str ⟨#[c]⟩,st)
   | none=>none
  else none
 | _,_,_=>none
def cutD (xs:List D) (lo hi:Option Int):List D:=(xs.drop (HT.bY xs.length 0 lo)).take (HT.bY xs.length xs.length hi - HT.bY xs.length 0 lo)
theorem bU.cut {ρ:List Addr} {H:Hp} {vs:List V} {ds:List D} (r:bU K ρ H vs ds) (lo hi:Option Int):bU K ρ H (ja vs lo hi) (cutD ds lo hi):=by
 unfold ja cutD
 rw [r.length]
 exact (r.drop _).take _
def my:D->Option Int->Option Int->Dm D
 | .tup ds,lo,hi,st=>some (.tup (cutD ds lo hi),st)
 | _,_,_,_=>none
theorem got {ρ:List Addr} {H:Hp} {st:Store} {vs:List V} {ds:List D} {Q:VK} (l:Rl K ρ H st) (r:bU K ρ H vs ds) (q:∀ v H' ρ',Mn K ρ H ρ' H'->Rl K ρ' H' st->Rp K ρ' H' v (.tup ds)->Q v H'):jG K H vs Q :=
 fun p H' s e=>q _ H' ρ (Mn.same e) (l.same e) (.tup s (r.mn (Mn.same e)))
theorem Ao:qQ K (oM K) my:=by
 intro lo hi ρ H st x a b st' Q l rx e q
 cases a with
 | tup ds =>
  cases e
  cases rx with
  | tup s r=>exact ⟨_,_,rfl,s,got l (r.cut lo hi) q⟩
 | _=>cases e
def nJ:D->Option Int->Option Int->Dm D
 | .ref r,lo,hi,st=>match items st r with
  | some ds=>some (.ref st.length,st ++ [.lst (cutD ds lo hi)])
  | none=>none
 | _,_,_,_=>none
theorem qV:qQ K (uK K) nJ:=by
 intro lo hi ρ H st x a b st' Q l rx e q
 cases a with
 | ref i =>
  simp only [nJ] at e
  split at e
  ·next ds hd =>
   cases e
   cases rx with
   | ref hr =>
    obtain ⟨vs,s,r⟩:=l.items hr hd
    exact ⟨_,_,rfl,s,fun p hp=>q _ _ _ (Mn.new hp) (l.newL hp (r.cut lo hi)) (.ref (newR l))⟩
  ·cases e
 | _=>cases e
def kY:D->Dm D
 | .ref i,st=>match items st i with
  | some ds=>some (.ref st.length,st ++ [.lst ds.reverse])
  | none=>none
 | _,_=>none
theorem Gn:vi K (fun x H Q=>∃ a xs,x=.ref a/\fI K H a xs/\∀ p,H p=none->Q (.ref p) (upd H p (.lst xs.reverse))) kY:=by
 intro ρ H st x a b st' Q l rx e q
 cases a with
 | ref i =>
  simp only [kY] at e
  split at e
  ·next ds hd =>
   cases e
   cases rx with
   | ref hr =>
    obtain ⟨vs,s,r⟩:=l.items hr hd
    exact ⟨_,_,rfl,s,fun p hp=>q _ _ _ (Mn.new hp) (l.newL hp r.reverse) (.ref (newR l))⟩
  ·cases e
 | _=>cases e
def fP:D->D->Dm D
 | .tup a,.tup b,st=>if lim (a.length + b.length)=true then some (.tup (a ++ b),st) else none
 | _,_,_=>none
theorem o6:iI K (md K) fP:=by
 intro ρ H st x y a c b st' Q l rx ry e q
 unfold fP at e
 split at e
 ·split at e
  ·next hl =>
   cases e
   cases rx with
   | tup s r =>
    cases ry with
    | tup s' r'=>exact ⟨_,_,_,_,rfl,rfl,s,s',by rw [r.length,r'.length];exact xV hl,got l (r.append r') q⟩
  ·cases e
 ·cases e
def own (st:Store) (i:Nat):Option (List D):=match st[i]? with
 | some (.lst ds)=>some ds
 | _=>none
theorem tD {st:Store} {i:Nat} {ds:List D} (h:own st i=some ds):st[i]?=some (.lst ds):=by
 unfold own at h
 split at h
 ·next ds' hs=>cases h;exact hs
 ·cases h
def mz:D->D->Dm D
 | .ref i,.ref j,st=>match own st i,own st j with
  | some a,some b=>if lim (a.length + b.length)=true then some (.ref st.length,st ++ [.lst (a ++ b)]) else none
  | _,_=>none
 | _,_,_=>none
theorem CV:iI K uL mz:=by
 intro ρ H st x y a c b st' Q l rx ry e q
 unfold mz at e
 split at e
 ·split at e
  ·next a b h1 h2 =>
   split at e
   ·next hl =>
    cases e
    cases rx with
    | ref hi =>
     cases ry with
     | ref hj =>
      obtain ⟨vs,e1,r1⟩:=l.obj _ _ _ hi (tD h1)
      obtain ⟨ws,e2,r2⟩:=l.obj _ _ _ hj (tD h2)
      exact ⟨_,_,_,_,rfl,rfl,e1,e2,by rw [r1.length,r2.length];exact xV hl,fun p hp=>q _ _ _ (Mn.new hp) (l.newL hp (r1.append r2)) (.ref (newR l))⟩
   ·cases e
  ·cases e
 ·cases e
def Ap:D->D->Dm D
 | .ref i,.int k,st=>match own st i with
  | some a=>if (decide (-9223372036854775808<=k/\k < 9223372036854775808) && lim (a.length * k.toNat))=true then some (.ref st.length,st ++ [.lst (List.replicate k.toNat a).flatten]) else none
  | _=>none
 | _,_,_=>none
def cH (st:Store):D->Option (List D)
 | .tup ds=>some ds
 | .ref i=>items st i
 | _=>none
theorem Aq {ρ:List Addr} {H:Hp} {st:Store} {x:V} {a:D} {ds:List D} (l:Rl K ρ H st) (r:Rp K ρ H x a) (h:cH st a=some ds):∃ p vs,x=.ref p/\(fI K H p vs\/dF K H p vs)/\bU K ρ H vs ds:=by
 cases r <;> first | (cases h;done) | skip
 ·next hi=>obtain ⟨vs,s,r⟩:=l.items hi h;exact ⟨_,vs,rfl,.inl s,r⟩
 ·next s r=>cases h;exact ⟨_,_,rfl,.inr s,r⟩
theorem bU.one' {ρ:List Addr} {H:Hp} {vs:List V} {d:D} (r:bU K ρ H vs [d]):∃ v,vs=[v]/\Rp K ρ H v d:=by cases r with | cons a b=>cases b;exact ⟨_,rfl,a⟩
theorem bU.two' {ρ:List Addr} {H:Hp} {vs:List V} {d e:D} (r:bU K ρ H vs [d,e]):∃ v w,vs=[v,w]/\Rp K ρ H v d/\Rp K ρ H w e:=by
 cases r with
 | cons a b=>obtain ⟨w,rfl,r⟩:=b.one';exact ⟨_,_,rfl,a,r⟩
def iQ:List D->Dm D
 | [a],st=>match cH st a with
  | some ds=>some (.int ds.length,st)
  | none=>none
 | _,_=>none
theorem nK:oY K (fun xs H Q=>∃ p ys,xs=[.ref p]/\(fI K H p ys\/dF K H p ys)/\Q (.int ys.length) H) iQ:=by
 intro ρ H st xs as b st' Q l rx e q
 unfold iQ at e
 split at e
 ·split at e
  ·next ds hd =>
   cases e
   obtain ⟨v,rfl,r⟩:=rx.one'
   obtain ⟨p,vs,rfl,s,r⟩:=Aq l r hd
   exact ⟨p,vs,rfl,s,q _ H ρ .refl l (by rw [r.length];exact .int _)⟩
  ·cases e
 ·cases e
def kZ:List D->Dm D
 | [a],st=>match cH st a with
  | some ds=>some (.ref st.length,st ++ [.lst ds])
  | none=>none
 | _,_=>none
theorem Gp:oY K (fun xs H Q=>∃ p ys,xs=[.ref p]/\(fI K H p ys\/dF K H p ys)/\∀ l,H l=none->Q (.ref l) (upd H l (.lst ys))) kZ:=by
 intro ρ H st xs as b st' Q l rx e q
 unfold kZ at e
 split at e
 ·split at e
  ·next ds hd =>
   cases e
   obtain ⟨v,rfl,r⟩:=rx.one'
   obtain ⟨p,vs,rfl,s,r⟩:=Aq l r hd
   exact ⟨p,vs,rfl,s,fun p hp=>q _ _ _ (Mn.new hp) (l.newL hp r) (.ref (newR l))⟩
  ·cases e
 ·cases e
def iw:List D->Dm D
 | [a],st=>match cH st a with
  | some ds=>some (.tup ds,st)
  | none=>none
 | _,_=>none
theorem Ar:oY K (fun xs H Q=>∃ p ys,xs=[.ref p]/\((fI K H p ys/\∀ l,H l=none->Q (.ref l) (upd H l (.tup ys)))\/(dF K H p ys/\Q (.ref p) H))) iw:=by
 intro ρ H st xs as b st' Q l rx e q
 unfold iw at e
 split at e
 ·split at e
  ·next ds hd =>
   cases e
   obtain ⟨v,rfl,r⟩:=rx.one'
   obtain ⟨p,vs,rfl,s,r'⟩:=Aq l r hd
   refine ⟨p,vs,rfl,?_⟩
   rcases s with s | s
   ·exact .inl ⟨s,(got l r' q).new⟩
   ·exact .inr ⟨s,(got l r' q).it s⟩
  ·cases e
 ·cases e
def la:List D->Dm D
 | [.int i,.int j],st=>some (.int (if j > i then j else i),st)
 | _,_=>none
def vq:List D->Dm D
 | [.int i,.int j],st=>some (.int (if j < i then j else i),st)
 | _,_=>none
theorem Gq:oY K (fun xs H Q=>∃ i j,xs=[.int i,.int j]/\Q (.int (if j > i then j else i)) H) la:=by
 intro ρ H st xs as b st' Q l rx e q
 unfold la at e
 split at e
 ·cases e
  obtain ⟨v,w,rfl,r1,r2⟩:=rx.two'
  cases r1;cases r2
  exact ⟨_,_,rfl,q _ H ρ .refl l (.int _)⟩
 ·cases e
def je:List D->Dm D
 | [.int i],st=>some (.int i,st)
 | [.bl k],st=>some (.int (if k then 1 else 0),st)
 | _,_=>none
theorem As:oY K (fun xs H Q=>(∃ i,xs=[.int i]/\Q (.int i) H)\/∃ k,xs=[.bl k]/\Q (.int (if k then 1 else 0)) H) je:=by
 intro ρ H st xs as b st' Q l rx e q
 unfold je at e
 split at e
 ·cases e
  obtain ⟨v,rfl,r⟩:=rx.one'
  cases r
  exact .inl ⟨_,rfl,q _ H ρ .refl l (.int _)⟩
 ·cases e
  obtain ⟨v,rfl,r⟩:=rx.one'
  cases r
  exact .inr ⟨_,rfl,q _ H ρ .refl l (.int _)⟩
 ·cases e
def nL:List D->Dm D
 | [.int j],st=>some (.ref st.length,st ++ [.j0 0 j])
 | _,_=>none
def nM:List D->Dm D
 | [.int i,.int j],st=>some (.ref st.length,st ++ [.j0 i j])
 | _,_=>none
def a8 (lo:Int) (n:Nat):List D:=(List.range n).map fun (k:Nat)=>D.int (lo + k)
def o7 (lo hi:Int):Bool:=decide (-4611686018427387904<=lo/\lo < 4611686018427387904/\-4611686018427387904<=hi/\hi < 4611686018427387904) && lim (hi - lo).toNat
def gE (st:Store):D->Option (Int×Int)
 | .ref i=>match st[i]? with
  | some (.j0 lo hi)=>some (lo,hi)
  | _=>none
 | _=>none
def qW:List D->Dm D
 | [a],st=>match gE st a with
  | some (lo,hi)=>if o7 lo hi=true then some (.ref st.length,st ++ [.lst (a8 lo (hi - lo).toNat)]) else none
  | none=>none
 | _,_=>none
def nO:List D->Dm D
 | [a],st=>match gE st a with
  | some (lo,hi)=>if o7 lo hi=true then some (.tup (a8 lo (hi - lo).toNat),st) else none
  | none=>none
 | _,_=>none
def iV:D->Option Int
 | .int i=>some i
 | _=>none
def sortI (ns:List Int):List Int:=ns.mergeSort fun a b=>decide (a<=b)
def x6:List D->Dm D
 | [a],st=>match (cH st a).bind (du iV) with
  | some ns=>if ns.length < 64 then some (.ref st.length,st ++ [.lst ((sortI ns).map D.int)]) else none
  | none=>none
 | _,_=>none
def bV:D->Option Bool
 | .bl i=>some i
 | _=>none
theorem CW {ρ:List Addr} {H:Hp}:∀ {ws:List V} {ds:List D} {ns:List Bool},bU K ρ H ws ds->du bV ds=some ns->ws=ns.map V.bl
 | _,_,_,.nil,h=>by cases h;rfl
 | _,_,_,.cons a b,h=>by
  obtain ⟨x,t,h1,h2,rfl⟩:=x4 h
  rw [CW b h2]
  cases a <;> first | (cases h1;rfl) | cases h1
def lD:List D->Dm D
 | [.ref i],st=>match (items st i).bind (du bV) with
  | some bs=>some (.bl (bs.all id),st)
  | none=>none
 | _,_=>none
theorem qX:oY K (fun xs H Q=>∃ (p:Addr) (bs:List Bool),xs=[.ref p]/\fI K H p (bs.map V.bl)/\Q (.bl (bs.all id)) H) lD:=by
 intro ρ H st xs as b st' Q l rx e q
 unfold lD at e
 split at e
 ·split at e
  ·next bs hd =>
   cases e
   obtain ⟨v,rfl,r⟩:=rx.one'
   obtain ⟨ds,h3,h4⟩:=Option.bind_eq_some_iff.mp hd
   cases r with
   | ref hi =>
    obtain ⟨vs,s,r⟩:=l.items hi h3
    cases CW r h4
    exact ⟨_,bs,rfl,s,q _ H ρ .refl l (.bl _)⟩
  ·cases e
 ·cases e
def tE (T:String) (st:Store):D->Bool
 | .str _=>T == "str"
 | .tup _=>T == "tuple"
 | .ref i=>T == "list" && (items st i).isSome
 | _=>false
theorem qY {ρ:List Addr} {H:Hp} {st:Store} {x:V} {a:D} {T:String} (l:Rl K ρ H st) (r:Rp K ρ H x a) (h:tE T st a=true):zE K T x H:=by
 cases r <;> first | (cases h;done) | skip
 ·exact eq_of_beq h
 ·next hi =>
  simp only [tE,Bool.and_eq_true] at h
  obtain ⟨ds,hd⟩:=Option.isSome_iff_exists.mp h.2
  obtain ⟨vs,s,_⟩:=l.items hi hd
  exact .inl ⟨eq_of_beq h.1,vs,s⟩
 ·next s r=>exact .inr (.inl ⟨eq_of_beq h,_,s⟩)
def vt (T:String) (g:D->List D->Dm D) (fo:ah->Dm D) (fa:ah->Dm (List D)):ah->Dm D:=fun δ st=>bnd (fo δ st) fun o st1=>if tE T st1 o=true then bnd (fa δ st1) fun as st2=>g o as st2 else none
theorem o8 {T:String} {r:V->List V->Hp->VK->Prop} {g:D->List D->Dm D} {to:TE} {ta:TA} {fo:ah->Dm D} {fa:ah->Dm (List D)} (hr:CP K T r g) (ho:dQ K to fo) (ha:lA K ta fa):dQ K (BU K T r to ta) (vt T g fo fa):=by
 intro ρ σ H δ st b st' Q l rs e q
 obtain ⟨o,st1,e1,e⟩:=cj e
 split at e
 ·next ht =>
  obtain ⟨as,st2,e2,e⟩:=cj e
  refine ho ρ σ H δ st o st1 _ l rs e1 fun x H1 ρ1 m1 l1 r1=>⟨qY l1 r1 ht,ha ρ1 σ H1 δ st1 as st2 _ l1 (rs.mn m1) e2 fun xs H2 ρ2 m2 l2 r2=>?_⟩
  exact hr ρ2 H2 st2 x xs o as b st' Q l2 (r1.mn m2) r2 e fun v H3 ρ3 m3 l3 r3=>q v H3 ρ3 ((m1.trans m2).trans m3) l3 r3
 ·cases e
def hG:D->List D->Dm D
 | .ref i,[y],st=>match own st i with
  | some xs=>if lim xs.length=true then some (.non,st.set i (.lst (xs ++ [y]))) else none
  | none=>none
 | _,_,_=>none
theorem CY:CP K "list" kS hG:=by
 intro ρ H st x xs a as b st' Q l rx Gs e q
 unfold hG at e
 split at e
 ·split at e
  ·next ys hy =>
   split at e
   ·next hl =>
    cases e
    obtain ⟨v,rfl,r⟩:=Gs.one'
    cases rx with
    | ref hi =>
     obtain ⟨vs,e1,r1⟩:=l.obj _ _ _ hi (tD hy)
     obtain ⟨l2,m2⟩:=l.putL hi (tD hy) (r1.append (.one r))
     exact ⟨_,vs,v,rfl,rfl,e1,by rw [r1.length];exact CS hl,q _ _ ρ m2 l2 .non⟩
   ·cases e
  ·cases e
 ·cases e
def jK:D->List D->Dm D
 | .ref i,[.ref j],st=>match own st i,own st j with
  | some xs,some ys=>if lim (xs.length + ys.length)=true then some (.non,st.set i (.lst (xs ++ ys))) else none
  | _,_=>none
 | _,_,_=>none
def kH:D->List D->Dm D
 | .ref i,[.int k],st=>match own st i with
  | some xs=>if decide (-9223372036854775808<=k/\k < 9223372036854775808)=true then match seqIndex? k xs.length with
    | some j=>match xs[j]? with
     | some y=>some (y,st.set i (.lst (xs.eraseIdx j)))
     | none=>none
    | none=>none
   else none
  | none=>none
 | _,_,_=>none
def kI:D->List D->Dm D
 | .tup ds,[.int v],st=>match du iV ds with
  | some ns=>match ns.findIdx? (fun i=>decide (i=v)) with
   | some j=>some (.int (j:Int),st)
   | none=>none
  | none=>none
 | _,_,_=>none
def lE (st:Store):D->Option String
 | .non=>some "NoneType"
 | .bl _=>some "bool"
 | .int _=>some "int"
 | .str _=>some "str"
 | .tup _=>some "tuple"
 | .ref i=>match st[i]? with
  | some (.lst _)=>some "list"
  | some (.dct _)=>some "dict"
  | _=>none
 | .ty _=>none
def jL:List D->Dm D
 | [a,.ty c],st=>match lE st a with
  | some T=>if T=c then some (.bl true,st) else none
  | none=>none
 | _,_=>none
end
end L4
namespace L4
open PySem PySem.Spec L2
section
variable {K:PySem.W.Frag}
theorem Rs.set {ρ:List Addr} {H:Hp} {σ:St} {δ:ah} {v:V} {d:D} {i:Nat} (h:Rs K ρ H σ δ) (r:Rp K ρ H v d):Rs K ρ H (σ.set i (some v)) (δ.set i (some d)):=by
 refine ⟨by rw [List.length_set,List.length_set];exact h.1,fun j e hj=>?_⟩
 by_cases hij:i=j
 ·subst hij
  have hl:i < δ.length:=by
   have:=(List.getElem?_eq_some_iff.mp hj).1
   rwa [List.length_set] at this
  rw [List.getElem?_set_self hl] at hj
  cases hj
  exact ⟨v,by rw [List.getElem?_set_self (by rw [h.1];exact hl)],r⟩
 ·rw [List.getElem?_set_ne hij] at hj
  obtain ⟨w,hw,rw'⟩:=h.2 j e hj
  exact ⟨w,by rw [List.getElem?_set_ne hij];exact hw,rw'⟩
def qZ (K:PySem.W.Frag) (g:TG) (f:D->ah->Dm ah):Prop :=
 ∀ (ρ:List Addr) (σ:St) (H:Hp) (δ:ah) (st:Store) (v:V) (d:D) (δ':ah) (st':Store) (Q:St->Hp->Prop),Rl K ρ H st->Rs K ρ H σ δ->Rp K ρ H v d->f d δ st=some (δ',st') ->
  (∀ σ' H' ρ',Mn K ρ H ρ' H'->Rl K ρ' H' st'->Rs K ρ' H' σ' δ'->Q σ' H')->g v σ H Q
def nP (K:PySem.W.Frag) (g:lW) (f:List D->ah->Dm ah):Prop :=
 ∀ (ρ:List Addr) (σ:St) (H:Hp) (δ:ah) (st:Store) (v:List V) (d:List D) (δ':ah) (st':Store) (Q:St->Hp->Prop),Rl K ρ H st->Rs K ρ H σ δ->bU K ρ H v d->f d δ st=some (δ',st') ->
  (∀ σ' H' ρ',Mn K ρ H ρ' H'->Rl K ρ' H' st'->Rs K ρ' H' σ' δ'->Q σ' H')->g v σ H Q
def hName (i:Nat):D->ah->Dm ah:=fun d δ st=>some (δ.set i (some d),st)
theorem bG (i:Nat):qZ K (lX i) (hName i):=by
 intro ρ σ H δ st v d δ' st' Q l rs r e q
 cases e
 exact q _ H ρ .refl l (rs.set r)
def iR:List D->ah->Dm ah
 | [],δ,st=>some (δ,st)
 | _,_,_=>none
def aZ (f:D->ah->Dm ah) (g:List D->ah->Dm ah):List D->ah->Dm ah
 | d :: ds,δ,st=>bnd (f d δ st) fun δ1 st1=>g ds δ1 st1
 | _,_,_=>none
theorem nQ:nP K uv iR:=by
 intro ρ σ H δ st v d δ' st' Q l rs r e q
 cases r with
 | nil=>cases e;exact ⟨rfl,q _ H ρ .refl l rs⟩
 | cons a b=>cases e
theorem gF {t:TG} {u:lW} {f:D->ah->Dm ah} {g:List D->ah->Dm ah} (hf:qZ K t f) (hg:nP K u g):nP K (oy t u) (aZ f g):=by
 intro ρ σ H δ st v d δ' st' Q l rs r e q
 cases r with
 | nil=>cases e
 | cons a b =>
  obtain ⟨δ1,st1,e1,e⟩:=cj e
  exact ⟨_,_,rfl,hf ρ σ H δ st _ _ δ1 st1 _ l rs a e1 fun σ1 H1 ρ1 m1 l1 r1=>hg ρ1 σ1 H1 δ1 st1 _ _ δ' st' Q l1 r1 (b.mn m1) e fun σ2 H2 ρ2 m2 l2 r2=>q σ2 H2 ρ2 (m1.trans m2) l2 r2⟩
def iy (n:Nat) (f:List D->ah->Dm ah):D->ah->Dm ah
 | .tup ds,δ,st=>if ds.length=n then f ds δ st else none
 | _,_,_=>none
theorem nR {n:Nat} {t:lW} {f:List D->ah->Dm ah} (hf:nP K t f):qZ K (p7 K n t) (iy n f):=by
 intro ρ σ H δ st v d δ' st' Q l rs r e q
 cases r <;> first | (cases e;done) | skip
 ·next s r =>
  simp only [iy] at e
  split at e
  ·next hl=>exact ⟨_,_,rfl,s,by rw [r.length];exact hl,hf ρ σ H δ st _ _ δ' st' Q l rs r e q⟩
  ·cases e
def hSub (fo fi:ah->Dm D):D->ah->Dm ah:=fun d δ st=>bnd (fo δ st) fun o st1=>bnd (fi δ st1) fun i st2=>match o,i with
 | .ref r,.int k=>match own st2 r with
  | some xs=>match jx xs.length k with
   | some j=>some (δ,st2.set r (.lst (xs.set j d)))
   | none=>none
  | none=>none
 | _,_=>none
theorem CZ {to ti:TE} {fo fi:ah->Dm D} (ho:dQ K to fo) (hi:dQ K ti fi):qZ K (L2.bN to ti oI) (hSub fo fi):=by
 intro ρ σ H δ st v d δ' st' Q l rs r e q
 obtain ⟨o,st1,e1,e⟩:=cj e
 obtain ⟨i,st2,e2,e⟩:=cj e
 refine ho ρ σ H δ st o st1 _ l rs e1 fun x H1 ρ1 m1 l1 r1=>hi ρ1 σ H1 δ st1 i st2 _ l1 (rs.mn m1) e2 fun y H2 ρ2 m2 l2 r2=>?_
 split at e
 ·split at e
  ·next xs hx =>
   split at e
   ·next j hj =>
    cases e
    cases r2
    cases r1 with
    | ref hr =>
     have hr2:=m2.r _ _ hr
     obtain ⟨vs,e3,r3⟩:=l2.obj _ _ _ hr2 (tD hx)
     obtain ⟨l3,m3⟩:=l2.putL hr2 (tD hx) (r3.set (r.mn (m1.trans m2)) j)
     exact ⟨_,vs,_,j,rfl,rfl,e3,by rw [r3.length];exact hj,q σ _ ρ2 ((m1.trans m2).trans m3) l3 (rs.mn ((m1.trans m2).trans m3))⟩
   ·cases e
  ·cases e
 ·cases e
def Go (K:PySem.W.Frag) (ρ:List Addr) (H:Hp) (st':Store) (E:Ends):Fl->Prop
 | .nx δ=>∀ σ' H' ρ',Mn K ρ H ρ' H'->Rl K ρ' H' st'->Rs K ρ' H' σ' δ->E.nx σ' H'
 | .bk δ=>∀ σ' H' ρ',Mn K ρ H ρ' H'->Rl K ρ' H' st'->Rs K ρ' H' σ' δ->E.bk σ' H'
 | .ct δ=>∀ σ' H' ρ',Mn K ρ H ρ' H'->Rl K ρ' H' st'->Rs K ρ' H' σ' δ->E.ct σ' H'
 | .rt d=>∀ v H' ρ',Mn K ρ H ρ' H'->Rl K ρ' H' st'->Rp K ρ' H' v d->E.rt v H'
theorem Go.mn {ρ ρ1:List Addr} {H H1:Hp} {st':Store} {E:Ends} {fl:Fl} (g:Go K ρ H st' E fl) (m:Mn K ρ H ρ1 H1):Go K ρ1 H1 st' E fl:=by
 cases fl <;> exact fun v H' ρ' m' l r=>g v H' ρ' (m.trans m') l r
def jM (K:PySem.W.Frag) (t:TS) (f:ah->Dm Fl):Prop :=
 ∀ (ρ:List Addr) (σ:St) (H:Hp) (δ:ah) (st:Store) (fl:Fl) (st':Store) (E:Ends),Rl K ρ H st->Rs K ρ H σ δ->f δ st=some (fl,st')->Go K ρ H st' E fl->t E σ H
def cf:ah->Dm Fl:=fun δ st=>some (.nx δ,st)
theorem jB:jM K ow cf:=by
 intro ρ σ H δ st fl st' E l rs e g
 cases e
 exact g σ H ρ .refl l rs
def aM (f g:ah->Dm Fl):ah->Dm Fl:=fun δ st=>bnd (f δ st) fun fl st1=>match fl with
 | .nx δ1=>g δ1 st1
 | x=>some (x,st1)
theorem cg {t u:TS} {f g:ah->Dm Fl} (hf:jM K t f) (hg:jM K u g):jM K (pX t u) (aM f g):=by
 intro ρ σ H δ st fl st' E l rs e q
 obtain ⟨x,st1,e1,e⟩:=cj e
 refine hf ρ σ H δ st x st1 _ l rs e1 ?_
 cases x with
 | nx δ1=>exact fun σ1 H1 ρ1 m1 l1 r1=>hg ρ1 σ1 H1 δ1 st1 fl st' E l1 r1 e (q.mn m1)
 | bk δ1=>cases e;exact q
 | ct δ1=>cases e;exact q
 | rt d=>cases e;exact q
theorem jm {c:TT} {t u:TS} {fc:ah->Dm Bool} {f g:ah->Dm Fl} (hc:kG K c fc) (hf:jM K t f) (hg:jM K u g):jM K (pY c t u) (ie fc f g):=by
 intro ρ σ H δ st fl st' E l rs e q
 obtain ⟨a,st1,e1,e⟩:=cj e
 refine hc ρ σ H δ st _ _ _ l rs e1 fun x H1 ρ1 m1 l1 r1=>?_
 subst r1
 cases x with
 | true =>
  refine kE ?_
  rw [if_pos rfl] at e
  exact hf ρ1 σ H1 δ st1 fl st' E l1 (rs.mn m1) e (q.mn m1)
 | false =>
  refine kD ?_
  rw [if_neg Bool.false_ne_true] at e
  exact hg ρ1 σ H1 δ st1 fl st' E l1 (rs.mn m1) e (q.mn m1)
def j9 (f:ah->Dm D):ah->Dm Fl:=fun δ st=>bnd (f δ st) fun _ st1=>some (.nx δ,st1)
theorem C1 {t:TE} {f:ah->Dm D} (hf:dQ K t f):jM K (lV t) (j9 f):=by
 intro ρ σ H δ st fl st' E l rs e q
 obtain ⟨a,st1,e1,e⟩:=cj e
 cases e
 exact hf ρ σ H δ st a _ _ l rs e1 fun x H1 ρ1 m1 l1 r1=>q σ H1 ρ1 m1 l1 (rs.mn m1)
def br (f:ah->Dm D):ah->Dm Fl:=fun δ st=>bnd (f δ st) fun d st1=>some (.rt d,st1)
theorem dU {t:TE} {f:ah->Dm D} (hf:dQ K t f):jM K (uq t) (br f):=by
 intro ρ σ H δ st fl st' E l rs e q
 obtain ⟨a,st1,e1,e⟩:=cj e
 cases e
 exact hf ρ σ H δ st a _ _ l rs e1 fun x H1 ρ1 m1 l1 r1=>q x H1 ρ1 m1 l1 r1
def a6 (f:ah->Dm D) (h:D->ah->Dm ah):ah->Dm Fl:=fun δ st=>bnd (f δ st) fun d st1=>bnd (h d δ st1) fun δ1 st2=>some (.nx δ1,st2)
theorem dr {t:TE} {g:TG} {f:ah->Dm D} {h:D->ah->Dm ah} (hf:dQ K t f) (hh:qZ K g h):jM K (p8 t g) (a6 f h):=by
 intro ρ σ H δ st fl st' E l rs e q
 obtain ⟨a,st1,e1,e⟩:=cj e
 obtain ⟨δ1,st2,e2,e⟩:=cj e
 cases e
 exact hf ρ σ H δ st a st1 _ l rs e1 fun x H1 ρ1 m1 l1 r1=>hh ρ1 σ H1 δ st1 x a δ1 _ _ l1 (rs.mn m1) r1 e2 fun σ2 H2 ρ2 m2 l2 r2=>q σ2 H2 ρ2 (m1.trans m2) l2 r2
def kJ (i j:Nat) (fa:ah->Dm (List D)):ah->Dm Fl:=fun δ st=>bnd (fa δ st) fun as st1=>match as with
 | [a,b]=>some (.nx ((δ.set i (some a)).set j (some b)),st1)
 | _=>none
theorem x8 {i j:Nat} {t:TA} {fa:ah->Dm (List D)} (ha:lA K t fa):jM K (uw i j t) (kJ i j fa):=by
 intro ρ σ H δ st fl st' E l rs e q
 obtain ⟨as,st1,e1,e⟩:=cj e
 split at e
 ·cases e
  refine ha ρ σ H δ st _ _ _ l rs e1 fun x H1 ρ1 m1 l1 r1=>?_
  obtain ⟨v,w,rfl,r,r'⟩:=r1.two'
  exact ⟨v,w,rfl,q _ H1 ρ1 m1 l1 (((rs.mn m1).set r).set r')⟩
 ·cases e
def dH (c:ah->Dm Bool) (b:ah->Dm Fl):Nat->ah->Dm Fl
 | 0,_,_=>none
 | n + 1,δ,st=>bnd (c δ st) fun t st1=>if t=true then bnd (b δ st1) fun fl st2=>match fl with
   | .nx δ2=>dH c b n δ2 st2
   | .ct δ2=>dH c b n δ2 st2
   | .bk δ2=>some (.nx δ2,st2)
   | .rt d=>some (.rt d,st2)
  else some (.nx δ,st1)
def fuel:Nat:=1000000
def jN (c:ah->Dm Bool) (b:ah->Dm Fl):ah->Dm Fl:=dH c b fuel
theorem C2 {tc:TT} {tb:TS} {c:ah->Dm Bool} {b:ah->Dm Fl} (hc:kG K tc c) (hb:jM K tb b):jM K (lY tc tb) (jN c b):=by
 intro ρ σ H δ st fl st' E l rs e q
 refine ⟨fun m σ1 H1=>∃ ρ1 δ1 st1,Mn K ρ H ρ1 H1/\Rl K ρ1 H1 st1/\Rs K ρ1 H1 σ1 δ1/\dH c b m δ1 st1=some (fl,st'),⟨fuel,ρ,δ,st,.refl,l,rs,e⟩,?_⟩
 rintro m σ1 H1 ⟨ρ1,δ1,st1,m1,l1,o9,e1⟩
 cases m with
 | zero=>cases e1
 | succ m =>
  obtain ⟨t,st2,e2,e1⟩:=cj e1
  refine hc ρ1 σ1 H1 δ1 st1 _ _ _ l1 o9 e2 fun x H2 ρ2 m2 l2 r2=>?_
  subst r2
  cases x with
  | true =>
   refine kE ?_
   rw [if_pos rfl] at e1
   obtain ⟨f2,st3,e3,e1⟩:=cj e1
   refine ⟨fun σ3 H3=>∃ m',m' < m + 1/\∃ ρ1 δ1 st1,Mn K ρ H ρ1 H3/\Rl K ρ1 H3 st1/\Rs K ρ1 H3 σ3 δ1/\dH c b m' δ1 st1=some (fl,st'),fun _ _ h=>h,hb ρ2 σ1 H2 δ1 st2 f2 st3 _ l2 (o9.mn m2) e3 ?_⟩
   cases f2 with
   | nx δ3=>exact fun σ3 H3 ρ3 m3 l3 r3=>⟨m,Nat.lt_succ_self m,ρ3,δ3,st3,(m1.trans m2).trans m3,l3,r3,e1⟩
   | ct δ3=>exact fun σ3 H3 ρ3 m3 l3 r3=>⟨m,Nat.lt_succ_self m,ρ3,δ3,st3,(m1.trans m2).trans m3,l3,r3,e1⟩
   | bk δ3=>cases e1;exact q.mn (m1.trans m2)
   | rt d=>cases e1;exact q.mn (m1.trans m2)
  | false =>
   refine kD ?_
   rw [if_neg Bool.false_ne_true] at e1
   cases e1
   exact q.mn (m1.trans m2) σ1 H2 ρ2 .refl l2 (o9.mn m2)
inductive Src where
 | fix (ds:List D) | live (i:Nat) | Gu (i:Nat) | zl (i:Nat) (es:List D) | zr (ds:List D) (i:Nat)
def Src.at:Src->Nat->Store->Option (Option D)
 | .fix ds,i,_=>if i<=ds.length then some ds[i]? else none
 | .live r,i,st=>(items st r).map fun ds=>ds[i]?
 | .Gu r,i,st=>(items st r).bind fun ds=>if i<=ds.length then some (ds.mapIdx fun i d=>D.tup [.int (i:Int),d])[i]? else none
 | .zl r es,i,st=>(items st r).bind fun ds=>if i<=(List.zipWith (fun a b=>D.tup [a,b]) ds es).length then some (List.zipWith (fun a b=>D.tup [a,b]) ds es)[i]? else none
 | .zr ds r,i,st=>(items st r).bind fun es=>if i<=(List.zipWith (fun a b=>D.tup [a,b]) ds es).length then some (List.zipWith (fun a b=>D.tup [a,b]) ds es)[i]? else none
theorem tF {ds:List D} {i:Nat} {st:Store} {o:Option D} (h:Src.at (.fix ds) i st=some o):i<=ds.length/\ds[i]?=o:=by
 simp only [Src.at] at h
 split at h
 ·next hl=>exact ⟨hl,Option.some.inj h⟩
 ·cases h
def vv (K:PySem.W.Frag) (ρ:List Addr) (H:Hp) (J:It) (S:Src):Prop :=
 ∀ (ρ2:List Addr) (H2:Hp) (st2:Store) (i:Nat),Mn K ρ H ρ2 H2->Rl K ρ2 H2 st2 ->
  (S.at i st2=some none->J.stop i H2)/\∀ d,S.at i st2=some (some d)->J.go i H2/\∀ x H3,J.ng i H2 x H3->Mn K ρ2 H2 ρ2 H3/\Rl K ρ2 H3 st2/\Rp K ρ2 H3 x d
abbrev tG (K:PySem.W.Frag) (t:TI) (f:ah->Dm Src):Prop:=So K (vv K) t f
def fQ (S:Src) (g:D->ah->Dm ah) (b:ah->Dm Fl):Nat->Nat->ah->Dm Fl
 | 0,_,_,_=>none
 | n + 1,i,δ,st=>match S.at i st with
  | none=>none
  | some none=>some (.nx δ,st)
  | some (some d)=>bnd (g d δ st) fun δ1 st1=>bnd (b δ1 st1) fun fl st2=>match fl with
   | .nx δ2=>fQ S g b n (i + 1) δ2 st2
   | .ct δ2=>fQ S g b n (i + 1) δ2 st2
   | .bk δ2=>some (.nx δ2,st2)
   | .rt d=>some (.rt d,st2)
def jf (fi:ah->Dm Src) (g:D->ah->Dm ah) (b:ah->Dm Fl):ah->Dm Fl:=fun δ st=>bnd (fi δ st) fun S st1=>fQ S g b fuel 0 δ st1
theorem pb {wi:TI} {tg:TG} {tb:TS} {fi:ah->Dm Src} {g:D->ah->Dm ah} {b:ah->Dm Fl} (hi:tG K wi fi) (hg:qZ K tg g) (hb:jM K tb b):jM K (uy wi tg tb) (jf fi g b):=by
 intro ρ σ H δ st fl st' E l rs e q
 obtain ⟨S,mB,e0,e⟩:=cj e
 refine hi ρ σ H δ st S mB _ l rs e0 fun J H0 ρ0 m0 l0 ok=>?_
 refine ⟨fun i m σ1 H1=>∃ ρ1 δ1 st1,Mn K ρ0 H0 ρ1 H1/\Rl K ρ1 H1 st1/\Rs K ρ1 H1 σ1 δ1/\fQ S g b m i δ1 st1=some (fl,st'),⟨fuel,ρ0,δ,mB,.refl,l0,rs.mn m0,e⟩,?_⟩
 rintro i m σ1 H1 ⟨ρ1,δ1,st1,m1,l1,o9,e1⟩
 cases m with
 | zero=>cases e1
 | succ m =>
  obtain ⟨hstop,hgo⟩:=ok ρ1 H1 st1 i m1 l1
  unfold fQ at e1
  split at e1
  ·cases e1
  ·next hs=>cases e1;exact .inl ⟨hstop hs,q.mn (m0.trans m1) σ1 H1 ρ1 .refl l1 o9⟩
  ·next d hs =>
   obtain ⟨δ2,st2,e2,e1⟩:=cj e1
   obtain ⟨f3,st3,e3,e1⟩:=cj e1
   obtain ⟨go,ng⟩:=hgo d hs
   refine .inr ⟨go,fun σ3 H3=>∃ m',m' < m + 1/\∃ ρ1 δ1 st1,Mn K ρ0 H0 ρ1 H3/\Rl K ρ1 H3 st1/\Rs K ρ1 H3 σ3 δ1/\fQ S g b m' (i + 1) δ1 st1=some (fl,st'),fun _ _ h=>h,fun x H2 hy=>?_⟩
   obtain ⟨m2,l2,r2⟩:=ng x H2 hy
   refine hg ρ1 σ1 H2 δ1 st1 x d δ2 st2 _ l2 (o9.mn m2) r2 e2 fun σ4 H4 ρ4 m4 l4 r4=>hb ρ4 σ4 H4 δ2 st2 f3 st3 _ l4 r4 e3 ?_
   have m5:=((m1.trans m2).trans m4)
   cases f3 with
   | nx δ3=>exact fun σ5 H5 ρ5 m6 l5 r5=>⟨m,Nat.lt_succ_self m,ρ5,δ3,st3,m5.trans m6,l5,r5,e1⟩
   | ct δ3=>exact fun σ5 H5 ρ5 m6 l5 r5=>⟨m,Nat.lt_succ_self m,ρ5,δ3,st3,m5.trans m6,l5,r5,e1⟩
   | bk δ3=>cases e1;exact q.mn (m0.trans m5)
   | rt d=>cases e1;exact q.mn (m0.trans m5)
def hJ (fa:ah->Dm D):ah->Dm Src:=fun δ st=>bnd (fa δ st) fun a st1=>match a with
 | .tup ds=>some (.fix ds,st1)
 | _=>none
theorem tH {t:TE} {fa:ah->Dm D} (ha:dQ K t fa):tG K (ux K t) (hJ fa):=by
 intro ρ σ H δ st S st' Q l rs e q
 obtain ⟨a,st1,e1,e⟩:=cj e
 cases a <;> simp at e
 obtain ⟨rfl,rfl⟩:=e
 refine ha ρ σ H δ st _ _ _ l rs e1 fun x H1 ρ1 m1 l1 r1=>?_
 cases r1 with
 | tup s r =>
  refine ⟨_,rfl,⟨_,s⟩,q _ H1 ρ1 m1 l1 fun ρ2 H2 st2 i m2 l2=>⟨fun h=>?_,fun d h=>?_⟩⟩
  ·exact ⟨_,m2.t _ _ s,by rw [r.length];exact List.getElem?_eq_none_iff.mp (tF h).2⟩
  ·obtain ⟨v,hv,rv⟩:=r.got (tF h).2
   refine ⟨⟨_,v,m2.t _ _ s,hv⟩,fun x H3 y=>?_⟩
   obtain ⟨rfl,hx⟩:=y
   have:=hx _ (m2.t _ _ s)
   rw [hv] at this
   cases this
   exact ⟨.refl,l2,rv.mn m2⟩
def jO (fa:ah->Dm D):ah->Dm Src:=fun δ st=>bnd (fa δ st) fun a st1=>match a with
 | .ref i=>match items st1 i with
  | some _=>some (.live i,st1)
  | none=>none
 | _=>none
theorem Gv {t:TE} {fa:ah->Dm D} (ha:dQ K t fa):tG K (oA K t) (jO fa):=by
 intro ρ σ H δ st S st' Q l rs e q
 obtain ⟨a,st1,e1,e⟩:=cj e
 split at e
 ·next k =>
  split at e
  ·next ds hd =>
   cases e
   refine ha ρ σ H δ st _ _ _ l rs e1 fun x H1 ρ1 m1 l1 r1=>?_
   cases r1 with
   | ref hi =>
    obtain ⟨vs,s,r⟩:=l1.items hi hd
    refine ⟨_,rfl,⟨_,s⟩,q _ H1 ρ1 m1 l1 fun ρ2 H2 st2 i m2 l2=>⟨fun h=>?_,fun d h=>?_⟩⟩
    ·obtain ⟨Gw,hd2,h⟩:=Option.map_eq_some_iff.mp h
     obtain ⟨C3,s2,r2⟩:=l2.items (m2.r _ _ hi) hd2
     exact ⟨C3,s2,by rw [r2.length];exact List.getElem?_eq_none_iff.mp h⟩
    ·obtain ⟨Gw,hd2,h⟩:=Option.map_eq_some_iff.mp h
     obtain ⟨C3,s2,r2⟩:=l2.items (m2.r _ _ hi) hd2
     obtain ⟨v,hv,rv⟩:=r2.got h
     refine ⟨⟨_,v,s2,hv⟩,fun x H3 y=>?_⟩
     obtain ⟨rfl,hx⟩:=y
     have:=hx _ s2
     rw [hv] at this
     cases this
     exact ⟨.refl,l2,rv⟩
  ·cases e
 ·cases e
def eQ (fa:ah->Dm (List D)):ah->Dm Src:=fun δ st=>bnd (fa δ st) fun as st1=>match as with
 | [.int j]=>if decide (-4611686018427387904<=j/\j < 4611686018427387904)=true then some (.fix (a8 0 j.toNat),st1) else none
 | _=>none
def mC (fa:ah->Dm (List D)):ah->Dm Src:=fun δ st=>bnd (fa δ st) fun as st1=>match as with
 | [.int i,.int j]=>if decide ((-4611686018427387904<=i/\i < 4611686018427387904)/\-4611686018427387904<=j/\j < 4611686018427387904)=true then some (.fix (a8 i (j - i).toNat),st1) else none
 | _=>none
theorem kK (lo:Int) (n:Nat):(a8 lo n).length=n:=by simp [a8]
theorem C4 {lo:Int} {n k:Nat} (h:k < n):(a8 lo n)[k]?=some (.int (lo + k)):=by simp [a8,h]
theorem rf {ρ:List Addr} {H:Hp} (lo:Int) (n:Nat):vv K ρ H (xv lo n) (.fix (a8 lo n)):=by
 intro ρ2 H2 st2 i m2 l2
 refine ⟨fun h=>?_,fun d h=>?_⟩
 ·have:=List.getElem?_eq_none_iff.mp (tF h).2
  rw [kK] at this
  exact this
 ·have h:=(tF h).2
  have hl:=(List.getElem?_eq_some_iff.mp h).1
  rw [kK] at hl
  rw [C4 hl] at h
  cases h
  refine ⟨hl,fun x H3 y=>?_⟩
  obtain ⟨rfl,rfl⟩:=y
  exact ⟨.refl,l2,.int _⟩
theorem tI {t:TA} {fa:ah->Dm (List D)} (ha:lA K t fa):tG K (oB t) (eQ fa):=by
 intro ρ σ H δ st S st' Q l rs e q
 obtain ⟨as,st1,e1,e⟩:=cj e
 split at e
 ·split at e
  ·next ok =>
   cases e
   have ok:=of_decide_eq_true ok
   refine ha ρ σ H δ st _ _ _ l rs e1 fun x H1 ρ1 m1 l1 r1=>?_
   obtain ⟨v,rfl,r⟩:=r1.one'
   cases r
   exact ⟨_,rfl,by omega,by omega,q _ H1 ρ1 m1 l1 (rf 0 _)⟩
  ·cases e
 ·cases e
def pd (ds:List D):List D:=ds.mapIdx fun i d=>.tup [.int (i:Int),d]
def mD (fa:ah->Dm (List D)):ah->Dm Src:=fun δ st=>bnd (fa δ st) fun as st1=>match as with
 | [.tup ds]=>some (.fix (pd ds),st1)
 | _=>none
def eR (S:Src) (g:D->ah->Dm ah) (tc:ah->Dm Bool) (te:ah->Dm D):Nat->Nat->List D->ah->Dm (List D)
 | 0,_,_,_,_=>none
 | n + 1,i,ys,δ,st=>if lim ys.length=true then match S.at i st with
  | none=>none
  | some none=>some (ys,st)
  | some (some d)=>bnd (g d δ st) fun δ1 st1=>bnd (tc δ1 st1) fun t st2=>if t=true then bnd (te δ1 st2) fun y st3=>eR S g tc te n (i + 1) (ys ++ [y]) δ1 st3 else eR S g tc te n (i + 1) ys δ1 st2
  else none
def lb (n:Nat) (js:List Nat) (δ:ah):ah:=List.replicate n none ++ js.map fun j=>δ.getD j none
def eE (fi:ah->Dm Src) (n:Nat) (js:List Nat) (g:D->ah->Dm ah) (tc:ah->Dm Bool) (te:ah->Dm D):ah->Dm D:=fun δ st=>bnd (fi δ st) fun S st1=>bnd (eR S g tc te fuel 0 [] (lb n js δ) st1) fun ys st2=>some (.ref st2.length,st2 ++ [.lst ys])
theorem Rs.comp {ρ:List Addr} {H:Hp} {σ:St} {δ:ah} (h:Rs K ρ H σ δ) (n:Nat) (js:List Nat):Rs K ρ H (fN n js σ) (lb n js δ):=by
 unfold fN lb
 refine ⟨by simp,fun i d hd=>?_⟩
 by_cases hi:i < n
 ·rw [List.getElem?_append_left (by simpa using hi),List.getElem?_replicate,if_pos hi] at hd
  cases hd
 ·rw [List.getElem?_append_right (by simpa using Nat.le_of_not_lt hi),List.getElem?_map] at hd
  rw [List.getElem?_append_right (by simpa using Nat.le_of_not_lt hi),List.getElem?_map]
  simp only [List.length_replicate] at hd ⊢
  cases hj:js[i - n]? with
  | none=>rw [hj] at hd;cases hd
  | some j =>
   rw [hj] at hd
   have hd:δ.getD j none=some d:=Option.some.inj hd
   rw [List.getD_eq_getElem?_getD] at hd
   have hd':δ[j]?=some (some d):=by
    cases hx:δ[j]? with
    | none=>rw [hx] at hd;cases hd
    | some y=>rw [hx] at hd;exact congrArg some hd
   obtain ⟨v,hv,r⟩:=h.2 j d hd'
   exact ⟨v,by show some (σ.getD j none)=_;rw [List.getD_eq_getElem?_getD,hv];rfl,r⟩
theorem tJ {wi:TI} {tg:TG} {tc:TT} {te:TE} {fi:ah->Dm Src} {n:Nat} {js:List Nat} {g:D->ah->Dm ah} {c:ah->Dm Bool} {f:ah->Dm D} (hi:tG K wi fi) (hg:qZ K tg g) (hc:kG K tc c) (hf:dQ K te f):dQ K (oN wi n js tg tc te) (eE fi n js g c f):=by
 intro ρ σ H δ st b st' Q l rs e q
 obtain ⟨S,mB,e0,e⟩:=cj e
 obtain ⟨zs,mR,e9,e⟩:=cj e
 cases e
 refine hi ρ σ H δ st S mB _ l rs e0 fun J H0 ρ0 m0 l0 ok=>?_
 refine ⟨fun i m ys σ1 H1=>∃ ρ1 δ1 st1 ws,Mn K ρ0 H0 ρ1 H1/\Rl K ρ1 H1 st1/\Rs K ρ1 H1 σ1 δ1/\bU K ρ1 H1 ys ws/\eR S g c f m i ws δ1 st1=some (zs,mR),⟨fuel,ρ0,_,mB,[],.refl,l0,(rs.mn m0).comp n js,.nil,e9⟩,?_⟩
 rintro i m ys σ1 H1 ⟨ρ1,δ1,st1,ws,m1,l1,o9,x9,e1⟩
 cases m with
 | zero=>cases e1
 | succ m =>
  obtain ⟨hstop,hgo⟩:=ok ρ1 H1 st1 i m1 l1
  unfold eR at e1
  split at e1
  ·next hl =>
   refine ⟨by rw [x9.length];exact CS hl,?_⟩
   split at e1
   ·cases e1
   ·next hs =>
    cases e1
    exact .inl ⟨hstop hs,fun p hp=>q _ _ _ ((m0.trans m1).trans (Mn.new hp)) (l1.newL hp x9) (.ref (newR l1))⟩
   ·next d hs =>
    obtain ⟨δ2,st2,e2,e1⟩:=cj e1
    obtain ⟨t,st3,e3,e1⟩:=cj e1
    obtain ⟨go,ng⟩:=hgo d hs
    refine .inr ⟨go,fun x H2 hy=>?_⟩
    obtain ⟨m2,l2,r2⟩:=ng x H2 hy
    refine hg ρ1 σ1 H2 δ1 st1 x d δ2 st2 _ l2 (o9.mn m2) r2 e2 fun σ4 H4 ρ4 m4 l4 r4=>hc ρ4 σ4 H4 δ2 st2 t st3 _ l4 r4 e3 fun t' H5 ρ5 m5 l5 r5=>?_
    subst r5
    have m6:=(((m1.trans m2).trans m4).trans m5)
    cases t' with
    | true =>
     refine kE ?_
     rw [if_pos rfl] at e1
     obtain ⟨y,C5,e6,e1⟩:=cj e1
     exact hf ρ5 σ4 H5 δ2 st3 y C5 _ l5 (r4.mn m5) e6 fun v H7 ρ7 m7 l7 r7=>⟨m,Nat.lt_succ_self m,ρ7,δ2,C5,ws ++ [y],m6.trans m7,l7,r4.mn (m5.trans m7),(x9.mn (((m2.trans m4).trans m5).trans m7)).append (.one r7),e1⟩
    | false =>
     refine kD ?_
     rw [if_neg Bool.false_ne_true] at e1
     exact ⟨m,Nat.lt_succ_self m,ρ5,δ2,st3,ws,m6,l5,r4.mn m5,x9.mn ((m2.trans m4).trans m5),e1⟩
  ·cases e1
def eF:ah->Dm Bool:=fun _ st=>some (true,st)
def gG (n:Nat) (b:ah->Dm Fl):List D->Dm D:=fun ds st=>bnd (b (ds.map some ++ List.replicate (n - ds.length) none) st) fun fl st1=>match fl with
 | .rt d=>some (d,st1)
 | .nx _=>some (.non,st1)
 | _=>none
theorem Rs.start {ρ:List Addr} {H:Hp} {vs:List V} {ds:List D} (r:bU K ρ H vs ds) (N:List Str):Rs K ρ H (start N vs) (ds.map some ++ List.replicate (N.length - ds.length) none):=by
 unfold L2.start
 rw [r.length]
 refine ⟨by simp [r.length],fun i d hd=>?_⟩
 by_cases hi:i < ds.length
 ·rw [List.getElem?_append_left (by simpa using hi),List.getElem?_map] at hd
  rw [List.getElem?_append_left (by rw [List.length_map,r.length];exact hi),List.getElem?_map]
  cases hx:ds[i]? with
  | none=>rw [hx] at hd;cases hd
  | some y =>
   rw [hx] at hd
   cases hd
   obtain ⟨v,hv,rv⟩:=r.got hx
   exact ⟨v,by rw [hv];rfl,rv⟩
 ·rw [List.getElem?_append_right (by simpa using Nat.le_of_not_lt hi),List.getElem?_replicate] at hd
  split at hd <;> cases hd
theorem iz {N:List Str} {k n:Nat} {t:TS} {b:ah->Dm Fl} {vs:List V} {H:Hp} {Q:VK} {E:XK} (hb:jM K t b) (hn:N.length=n) (h:cc K k (gG n b) vs H Q E):t { nx:=fun _ H'=>Q .non H',rt:=Q } (start N vs) H:=by
 obtain ⟨hk,ρ,st,ds,d,st',l,r,e,q⟩:=h
 subst hn
 obtain ⟨fl,st1,e1,e⟩:=cj e
 refine hb ρ _ H _ st fl st1 _ l (Rs.start r N) e1 ?_
 cases fl with
 | rt v=>cases e;exact q
 | nx δ=>cases e;exact fun σ' H' ρ' m l' r'=>q .non H' ρ' m l' .non
 | bk δ=>cases e
 | ct δ=>cases e
end
end L4
namespace L4
open PySem PySem.Spec L2
section
variable {X:Cx} {K:PySem.W.Frag}
theorem vw:kG K (fun _ H Q=>Q true H) eF:=by
 intro ρ σ H δ st b st' Q l rs e q
 cases e
 exact q _ H ρ .refl l rfl
end
def pe (K:PySem.W.Frag):Sp:=fun vs H Q _=>∃ (a:Addr) (ns:List Int),vs=[.ref a]/\uO K H a (ns.map V.int)/\ns.length<=63/\∀ H',Q (.bl true) H'
theorem rg {P:Program} {w:World} {K:PySem.W.Frag} {mg:Str->Option Value} {base:Heap} {k:Nat} {f:Addr} {fd:FuncData} {ps:List Str} {F:List D->Dm D} (G:aH P w K mg base bZ k f fd ps (cc K 1 F))
  (h:∀ ns:List Int,ns.length<=63->∃ st',F [.ref 0] [.kF (ns.map D.int)]=some (.bl true,st')):aH P w K mg base bZ k f fd ps (pe K):=by
 refine G.imp fun vs H Q E hs=>?_
 obtain ⟨a,ns,rfl,hS,hn,q⟩:=hs
 obtain ⟨st',e⟩:=h ns hn
 have one:∀ i (b:Addr),([a]:List Addr)[i]?=some b->i=0/\b=a:=fun i b h=>by
  cases i with
  | zero=>exact ⟨rfl,(Option.some.inj h).symm⟩
  | succ i=>simp at h
 refine ⟨rfl,[a],[.kF (ns.map D.int)],[.ref 0],.bl true,st',⟨rfl,fun i j b o o' h1 h2 _ _ _ _=>by rw [(one i b h1).1,(one j b h2).1],fun i b o h1 h2=>?_⟩,.one (.ref rfl),e,fun v H' ρ' m l r=>by cases r;exact q H'⟩
 obtain ⟨rfl,rfl⟩:=one i b h1
 cases (Option.some.inj h2)
 exact ⟨ns.map V.int,hS,bU.ints ns⟩
def Wp {α:Type} (m:Option (α×Store)) (Q:α->Store->Prop):Prop:=∃ a st,m=some (a,st)/\Q a st
section
variable {α β:Type} {Q Q':α->Store->Prop} {st:Store} {δ:ah}
theorem a7 {m:Option (α×Store)} (h:Wp m Q) (hq:∀ a st,Q a st->Q' a st):Wp m Q':=let ⟨a,st,e,q⟩:=h;⟨a,st,e,hq a st q⟩
theorem bh {a:α}:Wp (some (a,st)) Q↔Q a st:=⟨fun ⟨_,_,e,q⟩=>by cases e;exact q,fun q=>⟨a,st,rfl,q⟩⟩
theorem dw:Wp (none:Option (α×Store)) Q↔False:=⟨fun ⟨_,_,e,_⟩=>(by cases e),False.elim⟩
theorem cW {R:β->Store->Prop} {m:Option (α×Store)} {k:α->Dm β}:Wp (bnd m k) R↔Wp m fun a st1=>Wp (k a st1) R:=by
 cases m with
 | none=>exact ⟨fun ⟨_,_,e,_⟩=>(by cases e),fun ⟨_,_,e,_⟩=>(by cases e)⟩
 | some p=>exact ⟨fun h=>⟨p.1,p.2,rfl,h⟩,fun ⟨a,s,e,h⟩=>by cases e;exact h⟩
theorem jP {c:Prop} [Decidable c] {m n:Option (α×Store)}:Wp (if c then m else n) Q↔if c then Wp m Q else Wp n Q:=by split <;> exact Iff.rfl
end
section
variable {st:Store} {δ:ah} {Q:D->Store->Prop}
theorem rh {i:Nat}:Wp (af i δ st) Q↔∃ d,δ[i]?=some (some d)/\Q d st:=by
 unfold af
 split
 ·next d hd=>rw [bh];exact ⟨fun h=>⟨d,hd,h⟩,fun ⟨e,he,h⟩=>by rw [hd] at he;cases he;exact h⟩
 ·next h=>rw [dw];exact ⟨False.elim,fun ⟨e,he,_⟩=>h e he⟩
theorem Au {d:D}:Wp (fC d δ st) Q↔Q d st:=bh
theorem vx {g:D->D->Dm D} {fa fb:ah->Dm D}:Wp (av g fa fb δ st) Q↔Wp (fa δ st) fun a st1=>Wp (fb δ st1) fun b st2=>Wp (g a b st2) Q:=by
 unfold av;rw [cW];simp only [cW]
theorem vy {g:D->Dm D} {fa:ah->Dm D}:Wp (mw g fa δ st) Q↔Wp (fa δ st) fun a st1=>Wp (g a st1) Q:=cW
theorem vz {g:List D->Dm D} {fa:ah->Dm (List D)}:Wp (bF g fa δ st) Q↔Wp (fa δ st) fun a st1=>Wp (g a st1) Q:=cW
theorem rj {R:List D->Store->Prop}:Wp (aj δ st) R↔R [] st:=bh
theorem Gx {R:List D->Store->Prop} {fa:ah->Dm D} {fr:ah->Dm (List D)}:Wp (ae fa fr δ st) R↔Wp (fa δ st) fun a st1=>Wp (fr δ st1) fun r st2=>R (a :: r) st2:=by
 unfold ae;rw [cW];simp only [cW,bh]
theorem rk {fa:ah->Dm (List D)}:Wp (aV fa δ st) Q↔Wp (fa δ st) fun as st1=>lim as.length=true/\Q (.tup as) st1:=by
 unfold aV;rw [cW];simp only [jP,bh,dw]
 constructor <;> exact fun h=>a7 h fun a s h=>by first | (split at h;exact ⟨by assumption,h⟩;exact h.elim) | (rw [if_pos h.1];exact h.2)
theorem rl {fa:ah->Dm (List D)}:Wp (eP fa δ st) Q↔Wp (fa δ st) fun as st1=>lim as.length=true/\Q (.ref st1.length) (st1 ++ [.lst as]):=by
 unfold eP;rw [cW];simp only [jP,bh,dw]
 constructor <;> exact fun h=>a7 h fun a s h=>by first | (split at h;exact ⟨by assumption,h⟩;exact h.elim) | (rw [if_pos h.1];exact h.2)
theorem Gy {R:Bool->Store->Prop} {fa:ah->Dm D}:Wp (aL fa δ st) R↔Wp (fa δ st) fun a st1=>∃ b,a=.bl b/\R b st1:=by
 unfold aL;rw [cW]
 constructor <;> refine fun h=>a7 h fun a s h=>?_
 ·cases a <;> simp only [bh,dw] at h
  exact ⟨_,rfl,h⟩
 ·obtain ⟨b,rfl,h⟩:=h
  exact bh.mpr h
theorem rm {R:Bool->Store->Prop} {fa:ah->Dm Bool}:Wp (jc fa δ st) R↔Wp (fa δ st) fun a st1=>R (!a) st1:=by
 unfold jc;rw [cW];simp only [bh]
theorem rn {R:Bool->Store->Prop} {fa fb:ah->Dm Bool}:Wp (lC fa fb δ st) R↔Wp (fa δ st) fun a st1=>if a=true then Wp (fb δ st1) R else R false st1:=by
 unfold lC;rw [cW];simp only [jP,bh]
theorem vA {R:Bool->Store->Prop} {fa fb:ah->Dm Bool}:Wp (lQ fa fb δ st) R↔Wp (fa δ st) fun a st1=>if a=true then R true st1 else Wp (fb δ st1) R:=by
 unfold lQ;rw [cW];simp only [jP,bh]
theorem pf {α:Type} {R:α->Store->Prop} {c:ah->Dm Bool} {fa fb:ah->Dm α}:Wp (ie c fa fb δ st) R↔Wp (c δ st) fun a st1=>if a=true then Wp (fa δ st1) R else Wp (fb δ st1) R:=by
 unfold ie;rw [cW];simp only [jP]
theorem Gz {fa fb:ah->Dm D}:Wp (iJ fa fb δ st) Q↔Wp (aL fa δ st) fun a st1=>if a=true then Wp (fb δ st1) Q else Q (.bl false) st1:=by
 unfold iJ;rw [cW];simp only [jP,bh]
theorem rq {fa fb:ah->Dm D}:Wp (vj fa fb δ st) Q↔Wp (aL fa δ st) fun a st1=>if a=true then Q (.bl true) st1 else Wp (fb δ st1) Q:=by
 unfold vj;rw [cW];simp only [jP,bh]
theorem GA {fa:ah->Dm D}:Wp (o4 fa δ st) Q↔Wp (aL fa δ st) fun a st1=>Q (.bl (!a)) st1:=by
 unfold o4;rw [cW];simp only [bh]
theorem GB {R:Option Int->Store->Prop}:Wp (gk δ st) R↔R none st:=bh
theorem GC {R:Option Int->Store->Prop} {fa:ah->Dm D}:Wp (jd fa δ st) R↔Wp (fa δ st) fun a st1=>∃ i,a=.int i/\R (some i) st1:=by
 unfold jd;rw [cW]
 constructor <;> refine fun h=>a7 h fun a s h=>?_
 ·cases a <;> simp only [bh,dw] at h
  exact ⟨_,rfl,h⟩
 ·obtain ⟨b,rfl,h⟩:=h
  exact bh.mpr h
theorem vB {g:D->Option Int->Option Int->Dm D} {fa:ah->Dm D} {fl fh:ah->Dm (Option Int)}:Wp (qR g fa fl fh δ st) Q↔Wp (fa δ st) fun a st1=>Wp (fl δ st1) fun lo st2=>Wp (fh δ st2) fun hi st3=>Wp (g a lo hi st3) Q:=by
 unfold qR;rw [cW];simp only [cW]
theorem vC {T:String} {g:D->List D->Dm D} {fo:ah->Dm D} {fa:ah->Dm (List D)}:Wp (vt T g fo fa δ st) Q↔Wp (fo δ st) fun o st1=>tE T st1 o=true/\Wp (fa δ st1) fun as st2=>Wp (g o as st2) Q:=by
 unfold vt;rw [cW];simp only [jP,cW,dw]
 constructor <;> exact fun h=>a7 h fun a s h=>by first | (split at h;exact ⟨by assumption,h⟩;exact h.elim) | (rw [if_pos h.1];exact h.2)
variable {i j:Int} {ds es:List D} {k:Nat}
theorem rz:Wp (cF (.int i) (.int j) st) Q↔Q (.int (i + j)) st:=bh
theorem rA:Wp (bN (.int i) (.int j) st) Q↔Q (.int (i - j)) st:=bh
theorem vD:Wp (vn (.int i) (.int j) st) Q↔Q (.bl (decide (i < j))) st:=bh
theorem vE:Wp (Gm (.int i) (.int j) st) Q↔Q (.bl (decide (i<=j))) st:=bh
theorem vF:Wp (tw (.int i) (.int j) st) Q↔Q (.bl (decide (j < i))) st:=bh
theorem vG:Wp (Al (.int i) (.int j) st) Q↔Q (.bl (decide (j<=i))) st:=bh
theorem rB:Wp (jr (.int i) st) Q↔Q (.int (-i)) st:=bh
theorem tK {c:Int->Int->Bool} {h:Int->Int->D}:Wp (nH c h (.int i) (.int j) st) Q↔c i j=true/\Q (h i j) st:=by
 show Wp (if c i j=true then some (h i j,st) else none) Q↔_
 rw [jP,bh,dw]
 split
 ·next h=>exact ⟨fun q=>⟨h,q⟩,fun q=>q.2⟩
 ·next h=>exact ⟨False.elim,fun q=>h q.1⟩
theorem rC:Wp (iu (.int i) (.int j) st) Q↔((-18446744073709551616 < i/\i < 18446744073709551616)\/(-18446744073709551616 < j/\j < 18446744073709551616))/\Q (.int (i * j)) st:=by
 unfold iu;rw [tK,Bool.or_eq_true,decide_eq_true_eq,decide_eq_true_eq]
theorem GD:Wp (j8 (.int i) (.int j) st) Q↔(0 < j/\j < 1073741824)/\Q (.int (i / j)) st:=by unfold j8;rw [tK,decide_eq_true_eq]
theorem rD:Wp (iP (.int i) (.int j) st) Q↔0 < j/\Q (.int (i % j)) st:=by unfold iP;rw [tK,decide_eq_true_eq]
theorem rE:Wp (mx (.int i) (.int j) st) Q↔(0<=j/\j<=1000000/\i.natAbs < 18446744073709551616)/\Q (.int (i ^ j.toNat)) st:=by unfold mx;rw [tK,decide_eq_true_eq]
theorem rF {neg:Bool}:Wp (gY neg (.int i) (.int j) st) Q↔Q (.bl (if neg then !decide (i=j) else decide (i=j))) st:=by
 have e:decide (V.int i=V.int j)=decide (i=j):=by
  by_cases h:i=j
  ·subst h;simp
  ·simp [h]
 show Wp (if kC (V.int i) (V.int j)=true then some (D.bl (if neg then !decide (V.int i=V.int j) else decide (V.int i=V.int j)),st) else none) Q↔_
 rw [if_pos (show kC _ _=true from rfl),bh,e]
theorem rG {neg:Bool} {x y:Str}:Wp (gY neg (.str x) (.str y) st) Q↔Q (.bl (if neg then !decide (x=y) else decide (x=y))) st:=by
 have e:decide (V.str x=V.str y)=decide (x=y):=by
  by_cases h:x=y
  ·subst h;simp
  ·simp [h]
 show Wp (if kC (V.str x) (V.str y)=true then some (D.bl (if neg then !decide (V.str x=V.str y) else decide (V.str x=V.str y)),st) else none) Q↔_
 rw [if_pos (show kC _ _=true from rfl),bh,e]
theorem rH:Wp (aO (.tup ds) (.int i) st) Q↔∃ d,fM ds i=some d/\Q d st:=by
 show Wp (match fM ds i with | some d=>some (d,st) | none=>none) Q↔_
 cases fM ds i with
 | none=>rw [dw];exact ⟨False.elim,fun ⟨_,e,_⟩=>by cases e⟩
 | some d=>rw [bh];exact ⟨fun q=>⟨d,rfl,q⟩,fun ⟨_,e,q⟩=>by cases e;exact q⟩
theorem rJ:Wp (dR (.ref k) (.int i) st) Q↔∃ ds d,items st k=some ds/\fM ds i=some d/\Q d st:=by
 show Wp (match items st k with | some ds=>(match fM ds i with | some d=>some (d,st) | none=>none) | none=>none) Q↔_
 cases items st k with
 | none=>rw [dw];exact ⟨False.elim,fun ⟨_,_,e,_⟩=>by cases e⟩
 | some ds =>
  show Wp (match fM ds i with | some d=>some (d,st) | none=>none) Q↔_
  cases h:fM ds i with
  | none=>rw [dw];exact ⟨False.elim,fun ⟨_,_,e,e',_⟩=>by cases e;rw [h] at e';cases e'⟩
  | some d=>rw [bh];exact ⟨fun q=>⟨ds,d,rfl,h,q⟩,fun ⟨_,_,e,e',q⟩=>by cases e;rw [h] at e';cases e';exact q⟩
theorem rK {lo hi:Option Int}:Wp (my (.tup ds) lo hi st) Q↔Q (.tup (cutD ds lo hi)) st:=bh
theorem rL {lo hi:Option Int}:Wp (nJ (.ref k) lo hi st) Q↔∃ ds,items st k=some ds/\Q (.ref st.length) (st ++ [.lst (cutD ds lo hi)]):=by
 show Wp (match items st k with | some ds=>some (D.ref st.length,st ++ [O.lst (cutD ds lo hi)]) | none=>none) Q↔_
 cases items st k with
 | none=>rw [dw];exact ⟨False.elim,fun ⟨_,e,_⟩=>by cases e⟩
 | some ds=>rw [bh];exact ⟨fun q=>⟨ds,rfl,q⟩,fun ⟨_,e,q⟩=>by cases e;exact q⟩
theorem GF:Wp (fP (.tup ds) (.tup es) st) Q↔lim (ds.length + es.length)=true/\Q (.tup (ds ++ es)) st:=by
 show Wp (if lim (ds.length + es.length)=true then some (D.tup (ds ++ es),st) else none) Q↔_
 rw [jP,bh,dw]
 split
 ·next h=>exact ⟨fun q=>⟨h,q⟩,fun q=>q.2⟩
 ·next h=>exact ⟨False.elim,fun q=>h q.1⟩
theorem rM {a b:Nat}:Wp (mz (.ref a) (.ref b) st) Q↔∃ xs ys,own st a=some xs/\own st b=some ys/\lim (xs.length + ys.length)=true/\Q (.ref st.length) (st ++ [.lst (xs ++ ys)]):=by
 show Wp (match own st a,own st b with | some xs,some ys=>if lim (xs.length + ys.length)=true then some (D.ref st.length,st ++ [O.lst (xs ++ ys)]) else none | _,_=>none) Q↔_
 cases ha:own st a <;> cases hb:own st b
 ·simp only [dw];exact ⟨False.elim,fun ⟨_,_,e,_⟩=>by cases e⟩
 ·simp only [dw];exact ⟨False.elim,fun ⟨_,_,e,_⟩=>by cases e⟩
 ·simp only [dw];exact ⟨False.elim,fun ⟨_,_,_,e,_⟩=>by cases e⟩
 ·next xs ys =>
  show Wp (if lim (xs.length + ys.length)=true then some (D.ref st.length,st ++ [O.lst (xs ++ ys)]) else none) Q↔_
  rw [jP,bh,dw]
  split
  ·next h=>exact ⟨fun q=>⟨_,_,rfl,rfl,h,q⟩,fun ⟨_,_,e,e',_,q⟩=>by cases e;cases e';exact q⟩
  ·next h=>exact ⟨False.elim,fun ⟨_,_,e,e',q,_⟩=>by cases e;cases e';exact h q⟩
theorem rN {a:D}:Wp (iQ [a] st) Q↔∃ ds,cH st a=some ds/\Q (.int ds.length) st:=by
 show Wp (match cH st a with | some ds=>some (D.int ds.length,st) | none=>none) Q↔_
 cases cH st a with
 | none=>rw [dw];exact ⟨False.elim,fun ⟨_,e,_⟩=>by cases e⟩
 | some ds=>rw [bh];exact ⟨fun q=>⟨ds,rfl,q⟩,fun ⟨_,e,q⟩=>by cases e;exact q⟩
theorem GG {a:D}:Wp (kZ [a] st) Q↔∃ ds,cH st a=some ds/\Q (.ref st.length) (st ++ [.lst ds]):=by
 show Wp (match cH st a with | some ds=>some (D.ref st.length,st ++ [O.lst ds]) | none=>none) Q↔_
 cases cH st a with
 | none=>rw [dw];exact ⟨False.elim,fun ⟨_,e,_⟩=>by cases e⟩
 | some ds=>rw [bh];exact ⟨fun q=>⟨ds,rfl,q⟩,fun ⟨_,e,q⟩=>by cases e;exact q⟩
theorem GH {a:D}:Wp (iw [a] st) Q↔∃ ds,cH st a=some ds/\Q (.tup ds) st:=by
 show Wp (match cH st a with | some ds=>some (D.tup ds,st) | none=>none) Q↔_
 cases cH st a with
 | none=>rw [dw];exact ⟨False.elim,fun ⟨_,e,_⟩=>by cases e⟩
 | some ds=>rw [bh];exact ⟨fun q=>⟨ds,rfl,q⟩,fun ⟨_,e,q⟩=>by cases e;exact q⟩
theorem GI:Wp (la [.int i,.int j] st) Q↔Q (.int (if j > i then j else i)) st:=bh
theorem GJ:Wp (vq [.int i,.int j] st) Q↔Q (.int (if j < i then j else i)) st:=bh
theorem GK:Wp (je [.int i] st) Q↔Q (.int i) st:=bh
theorem GL {b:Bool}:Wp (je [.bl b] st) Q↔Q (.int (if b then 1 else 0)) st:=bh
theorem GN:Wp (nL [.int j] st) Q↔Q (.ref st.length) (st ++ [.j0 0 j]):=bh
theorem GO:Wp (nM [.int i,.int j] st) Q↔Q (.ref st.length) (st ++ [.j0 i j]):=bh
theorem GP {y:D}:Wp (hG (.ref k) [y] st) Q↔∃ xs,own st k=some xs/\lim xs.length=true/\Q .non (st.set k (.lst (xs ++ [y]))):=by
 show Wp (match own st k with | some xs=>if lim xs.length=true then some (D.non,st.set k (O.lst (xs ++ [y]))) else none | none=>none) Q↔_
 cases own st k with
 | none=>rw [dw];exact ⟨False.elim,fun ⟨_,e,_⟩=>by cases e⟩
 | some xs =>
  show Wp (if lim xs.length=true then some (D.non,st.set k (O.lst (xs ++ [y]))) else none) Q↔_
  rw [jP,bh,dw]
  split
  ·next h=>exact ⟨fun q=>⟨_,rfl,h,q⟩,fun ⟨_,e,_,q⟩=>by cases e;exact q⟩
  ·next h=>exact ⟨False.elim,fun ⟨_,e,q,_⟩=>by cases e;exact h q⟩
end
def Ws (m:Option (Fl×Store)) (N B C:ah->Store->Prop) (R:D->Store->Prop):Prop:=Wp m fun fl st=>match fl with
 | .nx δ=>N δ st
 | .bk δ=>B δ st
 | .ct δ=>C δ st
 | .rt d=>R d st
section
variable {st:Store} {δ:ah} {N B C:ah->Store->Prop} {R:D->Store->Prop} {f g:ah->Dm Fl} {e:ah->Dm D}
theorem Av {m:Option (Fl×Store)} {N':ah->Store->Prop} (h:Ws m N B C R) (hn:∀ δ st,N δ st->N' δ st):Ws m N' B C R:=a7 h fun fl st q=>by
 cases fl with
 | nx δ=>exact hn δ st q
 | bk δ=>exact q
 | ct δ=>exact q
 | rt d=>exact q
theorem bX (h:Ws (f δ st) (fun δ1 st1=>Ws (g δ1 st1) N B C R) B C R):Ws (aM f g δ st) N B C R:=by
 unfold Ws aM
 rw [cW]
 refine a7 h fun fl st1 q=>?_
 cases fl with
 | nx δ1=>exact q
 | bk δ1=>exact bh.mpr q
 | ct δ1=>exact bh.mpr q
 | rt d=>exact bh.mpr q
theorem jn (h:N δ st):Ws (cf δ st) N B C R:=bh.mpr h
theorem nS {t:D->ah->Dm ah} (h:Wp (e δ st) fun d st1=>Wp (t d δ st1) N):Ws (a6 e t δ st) N B C R:=by
 unfold Ws a6
 rw [cW]
 refine a7 h fun d st1 q=>?_
 rw [cW]
 exact a7 q fun δ1 st2 q=>bh.mpr q
theorem dW {i:Nat} (h:Wp (e δ st) fun d st1=>N (δ.set i (some d)) st1):Ws (a6 e (hName i) δ st) N B C R:=nS (a7 h fun d st1 q=>bh.mpr q)
theorem C6 (h:Wp (e δ st) fun _ st1=>N δ st1):Ws (j9 e δ st) N B C R:=by
 unfold Ws j9
 rw [cW]
 exact a7 h fun d st1 q=>bh.mpr q
theorem fG (h:Wp (e δ st) R):Ws (br e δ st) N B C R:=by
 unfold Ws br
 rw [cW]
 exact a7 h fun d st1 q=>bh.mpr q
theorem iS {c:ah->Dm Bool} (h:Wp (c δ st) fun b st1=>(b=true->Ws (f δ st1) N B C R)/\(b=false->Ws (g δ st1) N B C R)):Ws (ie c f g δ st) N B C R:=by
 unfold Ws
 rw [pf]
 refine a7 h fun b st1 q=>?_
 cases b with
 | true=>rw [if_pos rfl];exact q.1 rfl
 | false=>rw [if_neg Bool.false_ne_true];exact q.2 rfl
theorem ya {i j:Nat} {fa:ah->Dm (List D)} (h:Wp (fa δ st) fun as st1=>∃ a b,as=[a,b]/\N ((δ.set i (some a)).set j (some b)) st1):Ws (kJ i j fa δ st) N B C R:=by
 unfold Ws kJ
 rw [cW]
 refine a7 h fun as st1 q=>?_
 obtain ⟨a,b,rfl,q⟩:=q
 exact bh.mpr q
theorem hR {n:Nat} {b:ah->Dm Fl} {ds:List D} (h:Ws (b (ds.map some ++ List.replicate (n - ds.length) none) st) (fun _ st1=>R .non st1) (fun _ _=>False) (fun _ _=>False) R):Wp (gG n b ds st) R:=by
 unfold gG
 rw [cW]
 refine a7 h fun fl st1 q=>?_
 cases fl with
 | nx δ1=>exact bh.mpr q
 | bk δ1=>exact q.elim
 | ct δ1=>exact q.elim
 | rt d=>exact bh.mpr q
theorem C7 {c:ah->Dm Bool} {b:ah->Dm Fl} (W:Nat->ah->Store->Prop) (m:Nat) (hm:m < fuel) (h0:W m δ st)
  (step:∀ m δ st,W m δ st->Wp (c δ st) fun t st1=>(t=true->Ws (b δ st1) (fun δ2 st2=>∃ m',m' < m/\W m' δ2 st2) N (fun δ2 st2=>∃ m',m' < m/\W m' δ2 st2) R)/\(t=false->N δ st1)):Ws (jN c b δ st) N B C R:=by
 have key:∀ (k m:Nat) (δ:ah) (st:Store),m < k->W m δ st->Ws (dH c b k δ st) N B C R:=by
  intro k
  induction k with
  | zero=>intro m δ st h;exact absurd h (Nat.not_lt_zero _)
  | succ k ih =>
   intro m δ st hk hw
   unfold Ws dH
   rw [cW]
   refine a7 (step m δ st hw) fun t st1 q=>?_
   cases t with
   | false=>rw [if_neg Bool.false_ne_true];exact bh.mpr (q.2 rfl)
   | true =>
    rw [if_pos rfl,cW]
    refine a7 (q.1 rfl) fun fl st2 q=>?_
    cases fl with
    | nx δ2=>obtain ⟨m',hm',w⟩:=q;exact ih m' δ2 st2 (by omega) w
    | ct δ2=>obtain ⟨m',hm',w⟩:=q;exact ih m' δ2 st2 (by omega) w
    | bk δ2=>exact bh.mpr q
    | rt d=>exact bh.mpr q
 exact key fuel m δ st hm h0
theorem nU {fi:ah->Dm Src} {t:D->ah->Dm ah} {b:ah->Dm Fl} (ds:List D) (Pv:Nat->ah->Store->Prop) (hi:Wp (fi δ st) fun S st1=>S=.fix ds/\Pv 0 δ st1) (hl:ds.length < 100000)
  (step:∀ i d δ st,ds[i]?=some d->Pv i δ st->Wp (t d δ st) fun δ1 st1=>Ws (b δ1 st1) (Pv (i + 1)) N (Pv (i + 1)) R) (fin:∀ δ st,Pv ds.length δ st->N δ st):Ws (jf fi t b δ st) N B C R:=by
 unfold Ws jf
 rw [cW]
 refine a7 hi fun S mB q=>?_
 obtain ⟨rfl,h0⟩:=q
 have key:∀ (k i:Nat) (δ:ah) (st:Store),i<=ds.length->ds.length - i < k->Pv i δ st->Ws (fQ (.fix ds) t b k i δ st) N B C R:=by
  intro k
  induction k with
  | zero=>intro i δ st _ h;exact absurd h (Nat.not_lt_zero _)
  | succ k ih =>
   intro i δ st hi hk hw
   unfold Ws fQ
   have e:Src.at (.fix ds) i st=some ds[i]?:=by show (if i<=ds.length then some ds[i]? else none)=_;rw [if_pos hi]
   rw [e]
   cases hd:ds[i]? with
   | none =>
    have:=List.getElem?_eq_none_iff.mp hd
    have e:i=ds.length:=by omega
    exact bh.mpr (fin δ st (e ▸ hw))
   | some d =>
    have hlt:=(List.getElem?_eq_some_iff.mp hd).1
    show Wp (bnd _ _) _
    rw [cW]
    refine a7 (step i d δ st hd hw) fun δ1 st1 q=>?_
    rw [cW]
    refine a7 q fun fl st2 q=>?_
    cases fl with
    | nx δ2=>exact ih (i + 1) δ2 st2 (by omega) (by omega) q
    | ct δ2=>exact ih (i + 1) δ2 st2 (by omega) (by omega) q
    | bk δ2=>exact bh.mpr q
    | rt d=>exact bh.mpr q
 exact key fuel 0 δ mB (Nat.zero_le _) (Nat.lt_trans (by omega) (show 100000 < fuel by decide)) h0
theorem yb {fi:ah->Dm Src} {n:Nat} {js:List Nat} {t:D->ah->Dm ah} {c:ah->Dm Bool} {f:ah->Dm D} {Q:D->Store->Prop} (ds:List D) (Pv:Nat->List D->ah->Store->Prop)
  (hi:Wp (fi δ st) fun S st1=>(∀ i ys δ st,i<=ds.length->Pv i ys δ st->S.at i st=some ds[i]?)/\Pv 0 [] (lb n js δ) st1) (hl:ds.length < 100000) (hy:∀ i ys δ st,Pv i ys δ st->ys.length<=i)
  (step:∀ i d ys δ st,ds[i]?=some d->Pv i ys δ st->Wp (t d δ st) fun δ1 st1=>Wp (c δ1 st1) fun b st2=>(b=true->Wp (f δ1 st2) fun y st3=>Pv (i + 1) (ys ++ [y]) δ1 st3)/\(b=false->Pv (i + 1) ys δ1 st2))
  (fin:∀ ys δ st,Pv ds.length ys δ st->Q (.ref st.length) (st ++ [.lst ys])):Wp (eE fi n js t c f δ st) Q:=by
 unfold eE
 rw [cW]
 refine a7 hi fun S mB q=>?_
 obtain ⟨hS,h0⟩:=q
 have key:∀ (k i:Nat) (ys:List D) (δ:ah) (st:Store),i<=ds.length->ds.length - i < k->Pv i ys δ st->Wp (eR S t c f k i ys δ st) fun zs mR=>∃ δ9,Pv ds.length zs δ9 mR:=by
  intro k
  induction k with
  | zero=>intro i ys δ st _ h;exact absurd h (Nat.not_lt_zero _)
  | succ k ih =>
   intro i ys δ st hi hk' hw
   unfold eR
   have hlim:lim ys.length=true:=Nat.ble_eq_true_of_le (by have:=hy i ys δ st hw;omega)
   rw [if_pos hlim,hS i ys δ st hi hw]
   cases hd:ds[i]? with
   | none =>
    have:=List.getElem?_eq_none_iff.mp hd
    have e:i=ds.length:=by omega
    exact bh.mpr ⟨δ,e ▸ hw⟩
   | some d =>
    have hlt:=(List.getElem?_eq_some_iff.mp hd).1
    show Wp (bnd _ _) _
    rw [cW]
    refine a7 (step i d ys δ st hd hw) fun δ1 st1 q=>?_
    rw [cW]
    refine a7 q fun b st2 q=>?_
    cases b with
    | true =>
     rw [if_pos rfl,cW]
     exact a7 (q.1 rfl) fun y st3 q=>ih (i + 1) _ δ1 st3 (by omega) (by omega) q
    | false =>
     rw [if_neg Bool.false_ne_true]
     exact ih (i + 1) ys δ1 st2 (by omega) (by omega) (q.2 rfl)
 rw [cW]
 exact a7 (key fuel 0 [] _ mB (Nat.zero_le _) (Nat.lt_trans (by omega) (show 100000 < fuel by decide)) h0) fun zs mR ⟨δ9,q⟩=>bh.mpr (fin zs δ9 mR q)
end
end L4
namespace L4
open PySem PySem.Spec L2
def keyOf:D->Option Key
 | .int i=>some (.inl i)
 | .str x=>some (.inr x)
 | _=>none
def lh (st:Store):D->Option (List (Key×D))
 | .ref i=>match st[i]? with
  | some (.dct kvs)=>some kvs
  | _=>none
 | _=>none
def lF (kvs:List (Key×D)) (k:Key):Option D:=(kvs.find? fun kv=>decide (kv.1=k)).map (·.2)
def putD (kvs:List (Key×D)) (k:Key) (v:D):List (Key×D) :=
 if (kvs.any fun kv=>decide (kv.1=k))=true then kvs.map (fun kv=>if kv.1=k then (kv.1,v) else kv) else kvs ++ [(k,v)]
section
variable {K:PySem.W.Frag} {ρ:List Addr} {H:Hp} {st:Store}
end
section
variable {K:PySem.W.Frag}
def vH:ah->Dm D:=fun _ st=>some (.ref st.length,st ++ [.dct []])
def ph (fd fy:ah->Dm D):ah->Dm D:=fun δ st=>bnd (fd δ st) fun x st1=>bnd (fy δ st1) fun y st2=>match lh st2 x,keyOf y with
 | some kvs,some k=>match lF kvs k with
  | some v=>some (v,st2)
  | none=>none
 | _,_=>none
def vI (neg:Bool) (fy fd:ah->Dm D):ah->Dm D:=fun δ st=>bnd (fy δ st) fun y st1=>bnd (fd δ st1) fun x st2=>match lh st2 x,keyOf y with
 | some kvs,some k=>some (.bl (if neg then !(lF kvs k).isSome else (lF kvs k).isSome),st2)
 | _,_=>none
def vJ:ah->Dm (List (D×D)):=fun _ st=>some ([],st)
def mE (fk fv:ah->Dm D) (fr:ah->Dm (List (D×D))):ah->Dm (List (D×D)):=fun δ st=>bnd (fk δ st) fun k st1=>bnd (fv δ st1) fun v st2=>bnd (fr δ st2) fun r st3=>some ((k,v) :: r,st3)
def keysOf:List (D×D)->Option (List (Key×D))
 | []=>some []
 | (k,v) :: r=>match keyOf k,keysOf r with
  | some k',some r'=>some ((k',v) :: r')
  | _,_=>none
def mF (kvs more:List (Key×D)):List (Key×D):=more.foldl (fun acc kv=>putD acc kv.1 kv.2) kvs
def pj (fp:ah->Dm (List (D×D))):ah->Dm D:=fun δ st=>bnd (fp δ (st ++ [.dct []])) fun ps st2=>match st2[st.length]?,keysOf ps with
 | some (.dct []),some kvs=>if kvs.length<=15 then some (.ref st.length,st2.set st.length (.dct (mF [] kvs))) else none
 | _,_=>none
end
section
variable {st:Store} {δ:ah} {Q:D->Store->Prop}
theorem GQ:Wp (vH δ st) Q↔Q (.ref st.length) (st ++ [.dct []]):=bh
theorem GR {fd fy:ah->Dm D}:Wp (ph fd fy δ st) Q↔Wp (fd δ st) fun x st1=>Wp (fy δ st1) fun y st2=>∃ kvs k v,lh st2 x=some kvs/\keyOf y=some k/\lF kvs k=some v/\Q v st2:=by
 unfold ph;rw [cW];simp only [cW]
 constructor <;> refine fun h=>a7 h fun x s h=>a7 h fun y s2 h=>?_
 ·split at h
  ·next kvs k h1 h2 =>
   split at h
   ·next v h3=>exact ⟨kvs,k,v,by assumption,by assumption,h3,bh.mp h⟩
   ·exact (dw.mp h).elim
  ·exact (dw.mp h).elim
 ·obtain ⟨kvs,k,v,h1,h2,h3,h⟩:=h
  rw [h1,h2]
  simp only [h3]
  exact bh.mpr h
theorem rO {neg:Bool} {fd fy:ah->Dm D}:Wp (vI neg fy fd δ st) Q↔Wp (fy δ st) fun y st1=>Wp (fd δ st1) fun x st2=>∃ kvs k,lh st2 x=some kvs/\keyOf y=some k/\Q (.bl (if neg then !(lF kvs k).isSome else (lF kvs k).isSome)) st2:=by
 unfold vI;rw [cW];simp only [cW]
 constructor <;> refine fun h=>a7 h fun x s h=>a7 h fun y s2 h=>?_
 ·split at h
  ·next kvs k h1 h2=>exact ⟨kvs,k,by assumption,by assumption,bh.mp h⟩
  ·exact (dw.mp h).elim
 ·obtain ⟨kvs,k,h1,h2,h⟩:=h
  rw [h1,h2]
  exact bh.mpr h
theorem GS {R:List (D×D)->Store->Prop}:Wp (vJ δ st) R↔R [] st:=bh
theorem GU {fk fv:ah->Dm D} {fr:ah->Dm (List (D×D))} {R:List (D×D)->Store->Prop}:Wp (mE fk fv fr δ st) R↔Wp (fk δ st) fun k st1=>Wp (fv δ st1) fun v st2=>Wp (fr δ st2) fun r st3=>R ((k,v) :: r) st3:=by
 unfold mE;rw [cW];simp only [cW,bh]
theorem GV {fp:ah->Dm (List (D×D))}:Wp (pj fp δ st) Q↔Wp (fp δ (st ++ [.dct []])) fun ps st2=>st2[st.length]?=some (.dct [])/\∃ kvs,keysOf ps=some kvs/\kvs.length<=15/\Q (.ref st.length) (st2.set st.length (.dct (mF [] kvs))):=by
 unfold pj;rw [cW]
 constructor <;> refine fun h=>a7 h fun ps s h=>?_
 ·split at h
  ·next kvs h1 h2 =>
   rw [jP,bh,dw] at h
   split at h
   ·next hl=>exact ⟨by assumption,kvs,by assumption,hl,h⟩
   ·exact h.elim
  ·exact (dw.mp h).elim
 ·obtain ⟨h1,kvs,h2,h3,h⟩:=h
  rw [h1,h2]
  simp only [if_pos h3]
  exact bh.mpr h
end
end L4
namespace L4
open PySem PySem.Spec L2
structure Ex (c:List Nat) (st st':Store):Prop where
 len:st.length<=st'.length
 keep:∀ (i:Nat) (o:O),st[i]?=some o->i ∉ c->st'[i]?=some o
section
variable {c c':List Nat} {st st1 st2:Store} {i:Nat} {o:O} {ds:List D}
theorem Ex.refl:Ex c st st:=⟨Nat.le_refl _,fun _ _ h _=>h⟩
theorem Ex.trans (a:Ex c st st1) (b:Ex c st1 st2):Ex c st st2:=⟨Nat.le_trans a.len b.len,fun i o h n=>b.keep i o (a.keep i o h n) n⟩
theorem Ex.mono (a:Ex c st st1) (h:∀ x∈c,x∈c'):Ex c' st st1:=⟨a.len,fun i o e n=>a.keep i o e fun z=>n (h i z)⟩
theorem Ex.any (a:Ex [] st st1):Ex c st st1:=a.mono fun x h=>nomatch h
theorem mS {α:Type} {l:List α} {i:Nat} {o:α} (h:l[i]?=some o):i < l.length:=(List.getElem?_eq_some_iff.mp h).1
theorem lj {l m:List O} (h:l[i]?=some o):(l ++ m)[i]?=some o:=by rw [List.getElem?_append_left (mS h)];exact h
theorem j2 {l:List O}:(l ++ [o])[l.length]?=some o:=by rw [List.getElem?_append_right (Nat.le_refl _),Nat.sub_self];rfl
theorem Ex.app (a:Ex c st st1) (m:List O):Ex c st (st1 ++ m):=⟨by rw [List.length_append];exact Nat.le_trans a.len (Nat.le_add_right _ _),fun i o h n=>lj (a.keep i o h n)⟩
theorem Ex.cq (m:List O):Ex c st (st ++ m):=Ex.refl.app m
theorem Ex.put (a:Ex c st st1) (h:i∈c):Ex c st (st1.set i o):=⟨by rw [List.length_set];exact a.len,fun j u e n=>by rw [List.getElem?_set_ne (fun z=>n (by rw [<- z];exact h))];exact a.keep j u e n⟩
theorem Ex.loc (a:Ex c st st1) (h:st.length<=i):Ex c st (st1.set i o):=⟨by rw [List.length_set];exact a.len,fun j u e n=>by rw [List.getElem?_set_ne (by have:=mS e;omega)];exact a.keep j u e n⟩
theorem jQ (h:st[i]?=some (.lst ds)):items st i=some ds:=by unfold items;rw [h]
theorem C8 (h:st[i]?=some (.kF ds)):items st i=some ds:=by unfold items;rw [h]
theorem nV (h:st[i]?=some (.lst ds)):own st i=some ds:=by unfold own;rw [h]
theorem yc:items (st ++ [.lst ds]) st.length=some ds:=jQ j2
theorem GW:own (st ++ [.lst ds]) st.length=some ds:=nV j2
theorem GX {o':O}:items (st ++ [.lst ds] ++ [o']) st.length=some ds:=jQ (lj j2)
theorem GY {o':O}:own (st ++ [.lst ds] ++ [o']) st.length=some ds:=nV (lj j2)
theorem GZ {o' o2:O}:items (st ++ [.lst ds] ++ [o'] ++ [o2]) st.length=some ds:=jQ (lj (lj j2))
theorem G0 {o' o2:O}:own (st ++ [.lst ds] ++ [o'] ++ [o2]) st.length=some ds:=nV (lj (lj j2))
theorem G1 {lo hi:Int}:gE (st ++ [.j0 lo hi]) (.ref st.length)=some (lo,hi):=by simp only [gE,j2]
theorem G2:cH st (.tup ds)=some ds:=rfl
theorem G3:cH st (.ref i)=items st i:=rfl
theorem C9 (h:(items st i).isSome=true):tE "list" st (.ref i)=true:=by simp only [tE,h];rfl
theorem mT {n:Nat} (h:n<=100000):lim n=true:=Nat.ble_eq_true_of_le h
end
section
variable {st:Store} {Q:D->Store->Prop} {i j:Int} {k:Nat} {ds es:List D}
theorem G4 {a:D}:Wp (qW [a] st) Q↔∃ p,gE st a=some p/\o7 p.1 p.2=true/\Q (.ref st.length) (st ++ [.lst (a8 p.1 (p.2 - p.1).toNat)]):=by
 show Wp (match gE st a with | some (lo,hi)=>if o7 lo hi=true then some (D.ref st.length,st ++ [O.lst (a8 lo (hi - lo).toNat)]) else none | none=>none) Q↔_
 cases gE st a with
 | none=>rw [dw];exact ⟨False.elim,fun ⟨_,e,_⟩=>by cases e⟩
 | some p =>
  obtain ⟨lo,hi⟩:=p
  show Wp (if o7 lo hi=true then some (D.ref st.length,st ++ [O.lst (a8 lo (hi - lo).toNat)]) else none) Q↔_
  rw [jP,bh,dw]
  split
  ·next h=>exact ⟨fun q=>⟨_,rfl,h,q⟩,fun ⟨_,e,_,q⟩=>by cases e;exact q⟩
  ·next h=>exact ⟨False.elim,fun ⟨_,e,q,_⟩=>by cases e;exact h q⟩
theorem G5 {a:D}:Wp (nO [a] st) Q↔∃ p,gE st a=some p/\o7 p.1 p.2=true/\Q (.tup (a8 p.1 (p.2 - p.1).toNat)) st:=by
 show Wp (match gE st a with | some (lo,hi)=>if o7 lo hi=true then some (D.tup (a8 lo (hi - lo).toNat),st) else none | none=>none) Q↔_
 cases gE st a with
 | none=>rw [dw];exact ⟨False.elim,fun ⟨_,e,_⟩=>by cases e⟩
 | some p =>
  obtain ⟨lo,hi⟩:=p
  show Wp (if o7 lo hi=true then some (D.tup (a8 lo (hi - lo).toNat),st) else none) Q↔_
  rw [jP,bh,dw]
  split
  ·next h=>exact ⟨fun q=>⟨_,rfl,h,q⟩,fun ⟨_,e,_,q⟩=>by cases e;exact q⟩
  ·next h=>exact ⟨False.elim,fun ⟨_,e,q,_⟩=>by cases e;exact h q⟩
theorem rP:Wp (Ap (.ref k) (.int j) st) Q↔∃ xs,own st k=some xs/\(-9223372036854775808<=j/\j < 9223372036854775808)/\lim (xs.length * j.toNat)=true/\Q (.ref st.length) (st ++ [.lst (List.replicate j.toNat xs).flatten]):=by
 show Wp (match own st k with | some a=>if (decide (-9223372036854775808<=j/\j < 9223372036854775808) && lim (a.length * j.toNat))=true then some (D.ref st.length,st ++ [O.lst (List.replicate j.toNat a).flatten]) else none | _=>none) Q↔_
 cases own st k with
 | none=>simp only [dw];exact ⟨False.elim,fun ⟨_,e,_⟩=>by cases e⟩
 | some xs =>
  show Wp (if (decide (-9223372036854775808<=j/\j < 9223372036854775808) && lim (xs.length * j.toNat))=true then some (D.ref st.length,st ++ [O.lst (List.replicate j.toNat xs).flatten]) else none) Q↔_
  rw [jP,bh,dw]
  split
  ·next h=>rw [Bool.and_eq_true,decide_eq_true_eq] at h;exact ⟨fun q=>⟨_,rfl,h.1,h.2,q⟩,fun ⟨_,e,_,_,q⟩=>by cases e;exact q⟩
  ·next h=>rw [Bool.and_eq_true,decide_eq_true_eq] at h;exact ⟨False.elim,fun ⟨_,e,q,q',_⟩=>by cases e;exact h ⟨q,q'⟩⟩
theorem G6:Wp (kH (.ref k) [.int i] st) Q↔∃ xs j y,own st k=some xs/\(-9223372036854775808<=i/\i < 9223372036854775808)/\seqIndex? i xs.length=some j/\xs[j]?=some y/\Q y (st.set k (.lst (xs.eraseIdx j))):=by
 constructor
 ·rintro ⟨a,s,e,q⟩
  simp only [kH] at e
  split at e
  ·next xs hx =>
   split at e
   ·next hk =>
    split at e
    ·next j hj =>
     split at e
     ·next y hy=>cases e;exact ⟨xs,j,_,hx,of_decide_eq_true hk,hj,hy,q⟩
     ·cases e
    ·cases e
   ·cases e
  ·cases e
 ·rintro ⟨xs,j,y,hx,hk,hj,hy,q⟩
  refine ⟨_,_,?_,q⟩
  simp only [kH,hx,hj,hy,decide_eq_true hk]
  rfl
theorem G7 {b:Nat}:Wp (jK (.ref k) [.ref b] st) Q↔∃ xs ys,own st k=some xs/\own st b=some ys/\lim (xs.length + ys.length)=true/\Q .non (st.set k (.lst (xs ++ ys))):=by
 constructor
 ·rintro ⟨a,s,e,q⟩
  simp only [jK] at e
  split at e
  ·next xs ys hx hy =>
   split at e
   ·next hl=>cases e;exact ⟨xs,ys,hx,hy,hl,q⟩
   ·cases e
  ·cases e
 ·rintro ⟨xs,ys,hx,hy,hl,q⟩
  refine ⟨_,_,?_,q⟩
  simp only [jK,hx,hy,hl]
  rfl
theorem G8 {v:Int}:Wp (kI (.tup ds) [.int v] st) Q↔∃ ns j,du iV ds=some ns/\ns.findIdx? (fun i=>decide (i=v))=some j/\Q (.int (j:Int)) st:=by
 constructor
 ·rintro ⟨a,s,e,q⟩
  simp only [kI] at e
  split at e
  ·next ns hn =>
   split at e
   ·next j hj=>cases e;exact ⟨ns,j,hn,hj,q⟩
   ·cases e
  ·cases e
 ·rintro ⟨ns,j,hn,hj,q⟩
  refine ⟨_,_,?_,q⟩
  simp only [kI,hn,hj]
theorem rQ:Wp (lD [.ref k] st) Q↔∃ ds bs,items st k=some ds/\du bV ds=some bs/\Q (.bl (bs.all id)) st:=by
 constructor
 ·rintro ⟨a,s,e,q⟩
  simp only [lD] at e
  split at e
  ·next bs hb =>
   cases e
   obtain ⟨ds,h1,h2⟩:=Option.bind_eq_some_iff.mp hb
   exact ⟨ds,bs,h1,h2,q⟩
  ·cases e
 ·rintro ⟨ds,bs,h1,h2,q⟩
  refine ⟨_,_,?_,q⟩
  simp only [lD,h1,Option.bind_some,h2]
theorem Aw {neg:Bool} {a b:D}:Wp (fF neg a b st) Q↔∃ p q,gZ st 20 a=some p/\gZ st 20 b=some q/\(PyData.canLay0 p=true/\PyData.canLay0 q=true/\min p.depth q.depth<=60)/\Q (.bl (if neg then !PyData.eqv p q else PyData.eqv p q)) st:=by
 constructor
 ·rintro ⟨c,s,e,q⟩
  simp only [fF] at e
  split at e
  ·next x y h1 h2 =>
   split at e
   ·next hs =>
    cases e
    rw [Bool.and_eq_true,Bool.and_eq_true,decide_eq_true_eq] at hs
    exact ⟨x,y,h1,h2,⟨hs.1.1,hs.1.2,hs.2⟩,q⟩
   ·cases e
  ·cases e
 ·rintro ⟨x,y,h1,h2,⟨h3,h4,h5⟩,q⟩
  refine ⟨_,_,?_,q⟩
  simp only [fF,h1,h2,h3,h4,decide_eq_true h5]
  rfl
theorem rR {z:Str}:Wp (qU (.str z) (.int i) st) Q↔∃ c,lim z.length=true/\fM z.cps.toList i=some c/\Q (.str ⟨#[c]⟩) st:=by
 constructor
 ·rintro ⟨c,s,e,q⟩
  simp only [qU] at e
  split at e
  ·next h1 =>
   split at e
   ·next c hc=>cases e;exact ⟨c,h1,hc,q⟩
   ·cases e
  ·cases e
 ·rintro ⟨c,h1,h2,q⟩
  refine ⟨_,_,?_,q⟩
  simp only [qU,h1,h2]
  rfl
theorem G9 {δ:ah} {fa:ah->Dm (List D)} {R:Src->Store->Prop}:Wp (eQ fa δ st) R↔Wp (fa δ st) fun as st1=>∃ j,as=[.int j]/\(-4611686018427387904<=j/\j < 4611686018427387904)/\R (.fix (a8 0 j.toNat)) st1:=by
 unfold eQ;rw [cW]
 constructor <;> refine fun h=>a7 h fun as s h=>?_
 ·split at h
  ·next j =>
   rw [jP,bh,dw] at h
   split at h
   ·next hk=>exact ⟨j,rfl,of_decide_eq_true hk,h⟩
   ·exact h.elim
  ·exact (dw.mp h).elim
 ·obtain ⟨j,rfl,h1,h⟩:=h
  simp only [decide_eq_true h1,if_true]
  exact bh.mpr h
theorem Hc {δ:ah} {fa:ah->Dm (List D)} {R:Src->Store->Prop}:Wp (mC fa δ st) R↔Wp (fa δ st) fun as st1=>∃ i j,as=[.int i,.int j]/\((-4611686018427387904<=i/\i < 4611686018427387904)/\-4611686018427387904<=j/\j < 4611686018427387904)/\R (.fix (a8 i (j - i).toNat)) st1:=by
 unfold mC;rw [cW]
 constructor <;> refine fun h=>a7 h fun as s h=>?_
 ·split at h
  ·next i j =>
   rw [jP,bh,dw] at h
   split at h
   ·next hk=>exact ⟨i,j,rfl,of_decide_eq_true hk,h⟩
   ·exact h.elim
  ·exact (dw.mp h).elim
 ·obtain ⟨i,j,rfl,h1,h⟩:=h
  simp only [decide_eq_true h1,if_true]
  exact bh.mpr h
theorem Hd {δ:ah} {fa:ah->Dm D} {R:Src->Store->Prop}:Wp (hJ fa δ st) R↔Wp (fa δ st) fun a st1=>∃ ds,a=.tup ds/\R (.fix ds) st1:=by
 unfold hJ;rw [cW]
 constructor <;> refine fun h=>a7 h fun a s h=>?_
 ·cases a <;> simp only [bh,dw] at h
  exact ⟨_,rfl,h⟩
 ·obtain ⟨j,rfl,h⟩:=h
  exact bh.mpr h
theorem He {δ:ah} {fa:ah->Dm D} {R:Src->Store->Prop}:Wp (jO fa δ st) R↔Wp (fa δ st) fun a st1=>∃ i ds,a=.ref i/\items st1 i=some ds/\R (.live i) st1:=by
 unfold jO;rw [cW]
 constructor <;> refine fun h=>a7 h fun a s h=>?_
 ·split at h
  ·split at h
   ·next i ds hd=>exact ⟨_,ds,rfl,hd,bh.mp h⟩
   ·exact (dw.mp h).elim
  ·exact (dw.mp h).elim
 ·obtain ⟨i,ds,rfl,hd,h⟩:=h
  simp only [hd]
  exact bh.mpr h
theorem Hf {δ:ah} {fa:ah->Dm (List D)} {R:Src->Store->Prop}:Wp (mD fa δ st) R↔Wp (fa δ st) fun as st1=>∃ ds,as=[.tup ds]/\R (.fix (pd ds)) st1:=by
 unfold mD;rw [cW]
 constructor <;> refine fun h=>a7 h fun as s h=>?_
 ·split at h
  ·exact ⟨_,rfl,bh.mp h⟩
  ·exact (dw.mp h).elim
 ·obtain ⟨ds,rfl,h⟩:=h
  exact bh.mpr h
theorem tL {i:Nat} {d:D} {δ:ah} {R:ah->Store->Prop}:Wp (hName i d δ st) R↔R (δ.set i (some d)) st:=bh
theorem Dc {δ:ah} {R:ah->Store->Prop}:Wp (iR [] δ st) R↔R δ st:=bh
theorem Ax {f:D->ah->Dm ah} {g:List D->ah->Dm ah} {d:D} {ds:List D} {δ:ah} {R:ah->Store->Prop}:Wp (aZ f g (d :: ds) δ st) R↔Wp (f d δ st) fun δ1 st1=>Wp (g ds δ1 st1) R:=cW
theorem Dd {n:Nat} {f:List D->ah->Dm ah} {ds:List D} {δ:ah} {R:ah->Store->Prop}:Wp (iy n f (.tup ds) δ st) R↔ds.length=n/\Wp (f ds δ st) R:=by
 show Wp (if ds.length=n then f ds δ st else none) R↔_
 rw [jP,dw]
 split
 ·next h=>exact ⟨fun q=>⟨h,q⟩,fun q=>q.2⟩
 ·next h=>exact ⟨False.elim,fun q=>h q.1⟩
theorem Hg {fo fi:ah->Dm D} {d:D} {δ:ah} {R:ah->Store->Prop}:Wp (hSub fo fi d δ st) R↔Wp (fo δ st) fun o st1=>Wp (fi δ st1) fun i st2=>∃ r k xs j,o=.ref r/\i=.int k/\own st2 r=some xs/\jx xs.length k=some j/\R δ (st2.set r (.lst (xs.set j d))):=by
 unfold hSub;rw [cW];simp only [cW]
 constructor <;> refine fun h=>a7 h fun o s h=>a7 h fun i s2 h=>?_
 ·split at h
  ·split at h
   ·next xs hx =>
    split at h
    ·next j hj=>exact ⟨_,_,xs,j,rfl,rfl,hx,hj,bh.mp h⟩
    ·exact (dw.mp h).elim
   ·exact (dw.mp h).elim
  ·exact (dw.mp h).elim
 ·obtain ⟨r,k,xs,j,rfl,rfl,hx,hj,h⟩:=h
  simp only [hx,hj]
  exact bh.mpr h
theorem Hi {a:D} {c:String}:Wp (jL [a,.ty c] st) Q↔lE st a=some c/\Q (.bl true) st:=by
 constructor
 ·rintro ⟨b,s,e,q⟩
  simp only [jL] at e
  split at e
  ·next T hT =>
   split at e
   ·next h=>cases e;subst h;exact ⟨hT,q⟩
   ·cases e
  ·cases e
 ·rintro ⟨h,q⟩
  refine ⟨_,_,?_,q⟩
  simp only [jL,h,if_true]
theorem yd {δ:ah} {R:Bool->Store->Prop}:Wp (eF δ st) R↔R true st:=bh
end
theorem pk {α:Type} (x:α) (xs:List α):fM (x :: xs) 0=some x:=by
 unfold fM jx
 rw [if_pos (by decide),if_pos (by simp only [List.length_cons];omega)]
 rfl
theorem pq {α:Type} (x y:α) (xs:List α):fM (x :: y :: xs) 1=some y:=by
 unfold fM jx
 rw [if_pos (by decide),if_pos (by simp only [List.length_cons];omega)]
 rfl
theorem rS {α:Type} {a:α} {l:List α}:(a :: l)[0]?=some a:=List.getElem?_cons_zero
theorem rT {α:Type} {a:α} {l:List α} {i:Nat}:(a :: l)[i + 1]?=l[i]?:=List.getElem?_cons_succ
theorem rV {α:Type} {a b:α} {l:List α}:(a :: l).set 0 b=b :: l:=List.set_cons_zero
theorem rW {α:Type} {a b:α} {l:List α} {i:Nat}:(a :: l).set (i + 1) b=a :: l.set i b:=List.set_cons_succ
theorem rX {α:Type} (a b:α):(some a=some b)=(a=b):=Option.some.injEq a b
theorem vK {α:Type} {p:α->Prop} {a':α}:(∃ a,a'=a/\p a)↔p a':=exists_eq_left'
theorem Ay {α:Type} {p:α->Prop} {a':α}:(∃ a,a=a'/\p a)↔p a':=exists_eq_left
theorem vL {α:Type} {p:α->Prop} {b:Prop}:(∃ x,b/\p x)↔b/\∃ x,p x:=exists_and_left
theorem vN (a b:Int):(D.int a=D.int b)=(a=b):=D.int.injEq a b
theorem Az (a b:Bool):(D.bl a=D.bl b)=(a=b):=D.bl.injEq a b
theorem vO (a b:Str):(D.str a=D.str b)=(a=b):=D.str.injEq a b
theorem vP (a b:List D):(D.tup a=D.tup b)=(a=b):=D.tup.injEq a b
theorem vQ (a b:Nat):(D.ref a=D.ref b)=(a=b):=D.ref.injEq a b
theorem rY {α:Type} (a:α) (l:List α) (b:α) (m:List α):(a :: l=b :: m)=(a=b/\l=m):=List.cons.injEq a l b m
theorem rZ {α β:Type} (a:α) (b:β) (c:α) (d:β):((a,b)=(c,d))=(a=c/\b=d):=Prod.mk.injEq a b c d
theorem r0 (p:Prop):(p/\True)=p:=and_true p
theorem r8 (p:Prop):(True/\p)=p:=true_and p
theorem r9:(!true)=false:=rfl
theorem sd:(!false)=true:=rfl
theorem AA:(false=true)=False:=by simp
theorem vR {α:Type} {h:Decidable False} (t e:α):@ite α False h t e=e:=if_false t e
theorem vS {α:Type} {h:Decidable True} (t e:α):@ite α True h t e=t:=if_true t e
def di:=And.intro @rh (And.intro @Au (And.intro @vx (And.intro @vy (And.intro @vz (And.intro @rj (And.intro @Gx (And.intro @rk (And.intro @rl (And.intro @Gy (And.intro @rm (And.intro @rn (And.intro @vA (And.intro @pf (And.intro @Gz (And.intro @rq (And.intro @GA (And.intro @GB (And.intro @GC (And.intro @vB (And.intro @vC (And.intro @rz (And.intro @rA (And.intro @vD (And.intro @vE (And.intro @vF (And.intro @vG (And.intro @rB (And.intro @rC (And.intro @GD (And.intro @rD (And.intro @rE (And.intro @rF (And.intro @rG (And.intro @rH (And.intro @rJ (And.intro @rK (And.intro @rL (And.intro @GF (And.intro @rM (And.intro @rN (And.intro @GG (And.intro @GH (And.intro @GI (And.intro @GJ (And.intro @GK (And.intro @GL (And.intro @GN (And.intro @GO (And.intro @GP (And.intro @GQ (And.intro @GR (And.intro @rO (And.intro @GS (And.intro @GU (And.intro @GV (And.intro @yc (And.intro @GW (And.intro @GX (And.intro @GY (And.intro @GZ (And.intro @G0 (And.intro @G1 (And.intro @G2 (And.intro @G3 (And.intro @G4 (And.intro @G5 (And.intro @rP (And.intro @G6 (And.intro @G7 (And.intro @G8 (And.intro @rQ (And.intro @rR (And.intro @G9 (And.intro @Hc (And.intro @Hd (And.intro @He (And.intro @Hf (And.intro @tL (And.intro @Dc (And.intro @Ax (And.intro @Dd (And.intro @Hg (And.intro @Hi (And.intro @yd (And.intro @pk (And.intro @pq (And.intro @rS (And.intro @rT (And.intro @rV (And.intro @rW (And.intro @rX (And.intro @vK (And.intro @Ay (And.intro @vL (And.intro @vN (And.intro @Az (And.intro @vO (And.intro @vP (And.intro @vQ (And.intro @rY (And.intro @rZ (And.intro @r0 (And.intro @r8 (And.intro @r9 (And.intro @sd (And.intro @AA (And.intro @vR (@vS))))))))))))))))))))))))))))))))))))))))))))))))))))))))))))))))))))))))))))))))))))))))))))))))))))))))))))
theorem fH {α:Type} {m:Option (α×Store)} {Q:α->Store->Prop} (h:∀ Q':α->Store->Prop,(∀ a st,Q a st->Q' a st)->Wp m Q'):Wp m Q:=h Q fun _ _ h=>h
end L4
namespace L4
open PySem PySem.Spec L2
section
variable {X:Cx} {K:PySem.W.Frag}
end
section
variable {st:Store} {Q:D->Store->Prop}
theorem Hj (n:Nat) (L:List Int):du (gZ st (n + 1)) (L.map D.int)=some (eC L):=x5 (f:=gZ st (n + 1)) (g:=D.int) (k:=PyData.int) (fun _=>by simp only [gZ]) L
theorem Hk (a b:List PyData):PyData.eqv (.list a) (.list b)=PyData.eqvAll a b:=by simp only [PyData.eqv]
theorem AB (a b:List PyData):PyData.eqv (.tuple a) (.tuple b)=PyData.eqvAll a b:=by simp only [PyData.eqv]
theorem Hl {neg:Bool} {L M:List Int}:Wp (fF neg (.tup (L.map D.int)) (.tup (M.map D.int)) st) Q↔Q (.bl (if neg then !decide (L=M) else decide (L=M))) st:=by
 have p1:∀ (N:List Int),gZ st 20 (.tup (N.map D.int))=some (.tuple (eC N)):=fun N=>by
  simp only [gZ]
  rw [Hj];rfl
 have dp:∀ N:List Int,PyData.depth (.tuple (eC N))<=1:=fun N=>by show PyData.depthAll (eC N) + 1<=1;rw [B2];omega
 rw [Aw]
 constructor
 ·rintro ⟨p,q,h1,h2,_,h⟩
  rw [p1 L] at h1
  rw [p1 M] at h2
  cases h1
  cases h2
  rw [AB,zM] at h
  exact h
 ·intro h
  refine ⟨_,_,p1 L,p1 M,⟨zL L,zL M,by have:=dp L;omega⟩,?_⟩
  rw [AB,zM]
  exact h
end
end L4
namespace L4
open PySem PySem.Spec L2
def bI (st:Store) (f:Nat):Prop:=∃ o m:Int,st[f]?=some (.lst [.int o,.int m])/\0<=o/\0<=m/\m < 4294967296
theorem vT:jx 2 0=some 0:=by decide
theorem vU:jx 2 1=some 1:=by decide
theorem De (n:Nat):a8 0 n=(au.upto n).map D.int:=by
 unfold a8 au.upto
 rw [List.map_map]
 apply List.map_congr_left
 intro i _
 simp
theorem bI.keep {st st':Store} {f:Nat} (h:bI st f) (e:Ex [] st st'):bI st' f:=by
 obtain ⟨o,m,e1,r⟩:=h
 exact ⟨o,m,e.keep _ _ e1 (by simp),r⟩
theorem bI.ne {st:Store} {f i:Nat} {o:O} (h:bI st f) (hi:i≠f):bI (st.set i o) f:=by
 obtain ⟨x,m,e1,r⟩:=h
 exact ⟨x,m,by rw [List.getElem?_set_ne hi];exact e1,r⟩
theorem bI.lt {st:Store} {f:Nat} (h:bI st f):f < st.length:=let ⟨_,_,e,_⟩:=h;mS e
section
variable {mB st st':Store} {f r u n:Nat} {X Y Z:List Int} {o:O}
end
theorem Hm (xs:List D) (j:Nat):cutD xs none (some (j:Int))=xs.take j:=by
 unfold cutD
 rw [HT.En,HT.Eo,List.drop_zero,Nat.sub_zero,List.take_eq_take_iff];omega
theorem Df (xs:List D) (lo hi:Option Int):(cutD xs lo hi).length<=xs.length:=by
 unfold cutD;rw [List.length_take,List.length_drop];omega
def kb (S:Src) (ds:List D) (st:Store):Prop:=∀ (i:Nat) (st2:Store),i<=ds.length->Ex [] st st2->S.at i st2=some ds[i]?
theorem Dg {st st':Store} {r:Nat} {ds:List D} (h:items st r=some ds) (e:Ex [] st st'):items st' r=some ds:=by
 unfold items at h ⊢
 cases hx:st[r]? with
 | none=>rw [hx] at h;cases h
 | some o=>rw [e.keep _ _ hx (by simp)];rw [hx] at h;exact h
theorem vV (ds:List D) (st:Store):kb (.fix ds) ds st:=fun i st2 hi _=>by
 show (if i<=ds.length then some ds[i]? else none)=_
 rw [if_pos hi]
theorem Ho {ds:List D} {st:Store} {r:Nat} (h:items st r=some ds):kb (.live r) ds st:=fun i st2 hi e=>by
 show (items st2 r).map _=_
 rw [Dg h e];rfl
theorem AE {δ:ah} {st:Store} {fi:ah->Dm Src} {js:List Nat} {f:ah->Dm D} {Q:D->Store->Prop} (ds:List D) (h:D->D) (hi:Wp (fi δ st) fun S st1=>kb S ds st1/\Ex [] st st1) (hl:ds.length < 100000)
  (step:∀ d∈ds,∀ st1,Ex [] st st1->Wp (f (some d :: js.map fun j=>δ.getD j none) st1) fun y st2=>y=h d/\Ex [] st1 st2) (fin:∀ st',Ex [] st st'->Q (.ref st'.length) (st' ++ [.lst (ds.map h)])):Wp (eE fi 1 js (hName 0) eF f δ st) Q:=by
 obtain ⟨S,st1,e1,hS,k1⟩:=hi
 refine yb ds (fun i ys δ' fR=>(∃ v,δ'=v :: js.map fun j=>δ.getD j none)/\ys=(ds.take i).map h/\Ex [] st1 fR) ⟨S,st1,e1,fun i ys δ' fR hi' hp=>hS i fR hi' hp.2.2,⟨none,rfl⟩,rfl,Ex.refl⟩ hl ?_ ?_ ?_
 ·rintro i ys δ' fR ⟨_,rfl,_⟩
  rw [List.length_map,List.length_take];omega
 ·rintro i d ys δ' fR hd ⟨⟨v,rfl⟩,rfl,k8⟩
  rw [tL]
  show Wp (eF _ _) _
  rw [yd]
  refine ⟨fun _=>?_,fun h=>absurd h (by decide)⟩
  refine a7 (step d (List.mem_of_getElem? hd) fR (k1.trans k8)) ?_
  rintro y mR ⟨rfl,k9⟩
  refine ⟨⟨some d,rfl⟩,?_,k8.trans k9⟩
  obtain ⟨hlt,e⟩:=List.getElem?_eq_some_iff.mp hd
  rw [List.take_succ_eq_append_getElem hlt,List.map_append,e];rfl
 ·rintro ys δ' fR ⟨_,rfl,k8⟩
  rw [List.take_length]
  exact fin fR (k1.trans k8)
theorem Dh {xs:List Int} {d:D} (h:d∈xs.map D.int):∃ x∈xs,d=.int x:=by
 obtain ⟨x,hx,rfl⟩:=List.mem_map.mp h
 exact ⟨x,hx,rfl⟩
def inD:D->Int
 | .int i=>i
 | _=>0
section
variable {st:Store} {Q:D->Store->Prop}
end
end L4
namespace L4
open PySem PySem.Spec L2
end L4
namespace L4
open PySem PySem.Spec L2
abbrev dA:=Bool×Int
def bt (s:dA):D:=.tup [.str (if s.1 then "s" else "t"),.int s.2]
end L4
namespace L4
open PySem PySem.Spec L2
section
variable {X:Cx} {K:PySem.W.Frag}
end
end L4
namespace L4
open PySem PySem.Spec L2
section
variable {K:PySem.W.Frag}
def nW (neg:Bool):D->D->Dm D
 | a,.non,st=>some (.bl (match a with | .non=>!neg | _=>neg),st)
 | _,_,_=>none
def pz (neg:Bool):R2:=fun x y H Q=>y=.non/\Q (.bl (if neg then !decide (x=.non) else decide (x=.non))) H
theorem se (neg:Bool):iI K (pz neg) (nW neg):=by
 intro ρ H st x y a c b st' Q l rx ry e q
 unfold nW at e
 split at e
 ·cases e
  cases ry
  refine ⟨rfl,?_⟩
  have k:=q _ H ρ .refl l (.bl _)
  cases rx <;> cases neg <;> exact k
 ·cases e
end
section
variable {X:Cx}
theorem Hq:gI X (compareOp .IsNot) (pz true):=Eh
end
theorem at2 {α:Type} (x y z:α) (xs:List α):fM (x :: y :: z :: xs) 2=some z:=by
 unfold fM jx
 rw [if_pos (by decide),if_pos (by simp only [List.length_cons];omega)]
 rfl
theorem AF {α:Type} (x y z u:α) (xs:List α):fM (x :: y :: z :: u :: xs) 3=some u:=by
 unfold fM jx
 rw [if_pos (by decide),if_pos (by simp only [List.length_cons];omega)]
 rfl
section
variable {st:Store} {Q:D->Store->Prop}
theorem Hr {neg:Bool} {i:Nat}:Wp (nW neg (.ref i) .non st) Q↔Q (.bl neg) st:=bh
end
theorem Hs {st:Store} {Q:D->Store->Prop} {k:Nat}:Wp (kY (.ref k) st) Q↔∃ ds,items st k=some ds/\Q (.ref st.length) (st ++ [.lst ds.reverse]):=by
 show Wp (match items st k with | some ds=>some (D.ref st.length,st ++ [O.lst ds.reverse]) | none=>none) Q↔_
 cases items st k with
 | none=>rw [dw];exact ⟨False.elim,fun ⟨_,e,_⟩=>by cases e⟩
 | some ds=>rw [bh];exact ⟨fun q=>⟨ds,rfl,q⟩,fun ⟨_,e,q⟩=>by cases e;exact q⟩
theorem Ht {δ:ah} {st:Store} {fi:ah->Dm Src} {js:List Nat} {f:ah->Dm D} {Q:D->Store->Prop} (ds:List D) (P:Nat->D->Prop) (I:Store->Prop)
  (hi:Wp (fi δ st) fun S st1=>(∀ i st2,i<=ds.length->I st2->S.at i st2=some ds[i]?)/\I st1) (hl:ds.length < 100000)
  (step:∀ i d,ds[i]?=some d->∀ st1,I st1->Wp (f (some d :: js.map fun j=>δ.getD j none) st1) fun y st2=>P i y/\I st2)
  (fin:∀ ys st',I st'->ys.length=ds.length->(∀ i y,ys[i]?=some y->P i y)->Q (.ref st'.length) (st' ++ [.lst ys])):Wp (eE fi 1 js (hName 0) eF f δ st) Q:=by
 obtain ⟨S,st1,e1,hS,k1⟩:=hi
 refine yb ds (fun i ys δ' fR=>(∃ v,δ'=v :: js.map fun j=>δ.getD j none)/\ys.length=i/\(∀ i y,ys[i]?=some y->P i y)/\I fR) ⟨S,st1,e1,fun i ys δ' fR hi' hp=>hS i fR hi' hp.2.2.2,⟨none,rfl⟩,rfl,(fun i y h=>by simp at h),k1⟩ hl ?_ ?_ ?_
 ·rintro i ys δ' fR ⟨_,h,_⟩
  omega
 ·rintro i d ys δ' fR hd ⟨⟨v,rfl⟩,hlen,hP,k8⟩
  rw [tL]
  show Wp (eF _ _) _
  rw [yd]
  refine ⟨fun _=>?_,fun h=>absurd h (by decide)⟩
  refine a7 (step i d hd fR k8) ?_
  rintro y mR ⟨hp,k9⟩
  refine ⟨⟨some d,rfl⟩,by rw [List.length_append,hlen];rfl,fun j z hz=>?_,k9⟩
  by_cases hj:j < ys.length
  ·rw [List.getElem?_append_left hj] at hz;exact hP j z hz
  ·have hb:=mS hz
   rw [List.length_append,List.length_singleton] at hb
   have e:j=ys.length:=by omega
   subst e
   rw [List.getElem?_append_right (Nat.le_refl _),Nat.sub_self] at hz
   cases hz
   rw [hlen];exact hp
 ·rintro ys δ' fR ⟨_,hlen,hP,k8⟩
  exact fin ys fR k8 hlen hP
end L4
namespace L4
open PySem PySem.Spec L2
def ye (x:Str):List D:=x.cps.toList.map fun c=>.str ⟨#[c]⟩
section
variable {K:PySem.W.Frag}
end
section
variable {st:Store} {Q:D->Store->Prop}
end
end L4
namespace L4
open PySem PySem.Spec L2
def Di:D->Option (List D)
 | .tup ds=>some ds
 | .str x=>some (ye x)
 | _=>none
def vW:List D->List D->List D
 | a :: r,b :: t=>.tup [a,b] :: vW r t
 | _,_=>[]
def Dj (fa:ah->Dm (List D)):ah->Dm Src:=fun δ st=>bnd (fa δ st) fun as st1=>match as with
 | [a,b]=>match Di a,Di b with
  | some ds,some es=>some (.fix (vW ds es),st1)
  | _,_=>none
 | _=>none
section
variable {K:PySem.W.Frag}
end
section
variable {st:Store}
end
def nX:List String:=["NoneType","bool","int","str","tuple","list","dict"]
def nY:List String:=["bool","int","str","tuple","list","dict"]
def sf (T c:String):Option Bool:=if nX.contains T && nY.contains c then some (T == c || (T == "bool" && c == "int")) else none
def gL (T:String):List String->Option Bool
 | []=>some false
 | c :: r=>match sf T c with
  | some true=>some true
  | some false=>gL T r
  | none=>none
def Dk:D->Option String
 | .ty n=>some n
 | _=>none
def vX:D->Option (List String)
 | .ty n=>some [n]
 | .tup ds=>du Dk ds
 | _=>none
def jR:List D->Dm D
 | [a,c],st=>match lE st a,vX c with
  | some T,some cs=>match gL T cs with
   | some b=>some (.bl b,st)
   | none=>none
  | _,_=>none
 | _,_=>none
theorem yf {st:Store} {Q:D->Store->Prop} {a c:D} {T:String} {cs:List String} {b:Bool} (h:lE st a=some T) (hc:vX c=some cs) (hb:gL T cs=some b):Wp (jR [a,c] st) Q↔Q (.bl b) st:=by
 have e:jR [a,c] st=some (.bl b,st):=by simp only [jR,h,hc,hb]
 rw [e,bh]
section
variable {X:Cx} {K:PySem.W.Frag}
theorem yg (K:PySem.W.Frag) {T c:String} {b:Bool} (h:sf T c=some b):PySem.W.kitOne K (.type T) (.type c)=some b:=by
 have hh:nX.contains T=true/\nY.contains c=true:=by
  unfold sf at h
  split at h
  ·next g=>simpa using g
  ·cases h
 have h1:T∈nX:=List.contains_iff_mem.mp hh.1
 have h2:c∈nY:=List.contains_iff_mem.mp hh.2
 unfold nX at h1
 unfold nY at h2
 simp only [List.mem_cons,List.not_mem_nil,or_false] at h1 h2
 rcases h1 with rfl | rfl | rfl | rfl | rfl | rfl | rfl <;> rcases h2 with rfl | rfl | rfl | rfl | rfl | rfl <;> (cases h;rfl)
theorem Dl (K:PySem.W.Frag) {T:String}:∀ {cs:List String} {b:Bool},gL T cs=some b->PySem.W.kitAny K (.type T) (cs.map Value.type)=some b
 | [],b,h=>by cases h;rfl
 | c :: r,b,h=>by
  simp only [gL] at h
  split at h
  ·next e=>cases h;simp only [List.map_cons,PySem.W.kitAny,yg K e]
  ·next e=>simp only [List.map_cons,PySem.W.kitAny,yg K e];exact Dl K h
  ·cases h
def AG (K:PySem.W.Frag) (H:Hp) (x:V) (T:String):Prop:=iM K H x (.type T)\/(T="tuple" /\ ∃ a ys,x=.ref a/\dF K H a ys)
def sh (K:PySem.W.Frag):List V->Hp->VK->Prop:=fun xs H Q=>∃ x c T cs b,xs=[x,c]/\AG K H x T/\((∃ n,c=.ty n/\cs=[n])\/∃ p,c=.ref p/\dF K H p (cs.map V.ty))/\gL T cs=some b/\Q (.bl b) H
theorem Hu {pins:List (Addr×Obj)} {σ:St} {H:Hp} {s:Shared} {x:V} {u:Value} {T:String} (I:Inv X pins σ H s) (rx:RelV x u) (ty:AG X.K H x T):∃ Hh,PySem.W.KitX X.K u (.type T) Hh/\Hh s.heap/\u≠.builtin "__main__.__loader__#opaque" := by
 rcases ty with ty | ⟨rfl,a,ys,rfl,hs⟩
 ·generalize ht:Value.type T=t at ty
  cases ty with
  | non=>cases ht;cases (show u=Value.none from rx);exact ⟨_,PySem.W.kitx_none,True.intro,fun z=>nomatch z⟩
  | bl y=>cases ht;cases (show u=Value.bool y from rx);exact ⟨_,PySem.W.kitx_bool,True.intro,fun z=>nomatch z⟩
  | int i=>cases ht;obtain ⟨t,q⟩:=(show ∃ t,u=Value.int i t from rx);cases q;exact ⟨_,PySem.W.kitx_int,True.intro,fun z=>nomatch z⟩
  | str y=>cases ht;obtain ⟨t,q⟩:=(show ∃ t,u=Value.str y t from rx);cases q;exact ⟨_,PySem.W.kitx_str,True.intro,fun z=>nomatch z⟩
  | sS y=>cases ht;obtain ⟨t,q⟩:=(show ∃ t,u=Value.float y t from rx);cases q;exact ⟨_,PySem.W.kitx_float,True.intro,fun z=>nomatch z⟩
  | @lst a xs ea =>
   cases ht
   cases (show u=Value.ref a from rx)
   obtain ⟨_,_,n,_,h1⟩:=(show bH X.prog X.w H s.heap a (.lst xs) from I.hok a _ ea)
   exact ⟨_,PySem.W.kitx_list,⟨_,h1,rfl⟩,fun z=>nomatch z⟩
  | @iX a ob xs ea =>
   cases ht
   cases (show u=Value.ref a from rx)
   obtain ⟨_,_,_,n,_,h1⟩:=(show bH X.prog X.w H s.heap a (.iX ob (.lst xs)) from I.hok a _ ea)
   exact ⟨_,PySem.W.kitx_list,⟨_,h1,rfl⟩,fun z=>nomatch z⟩
  | @tup a xs ea =>
   cases ht
   cases (show u=Value.ref a from rx)
   obtain ⟨_,_,_,p⟩:=(show bH X.prog X.w H s.heap a (.tup xs) from I.hok a _ ea)
   obtain ⟨o,h1,h2,_⟩:=p
   exact ⟨_,PySem.W.kitx_tuple,⟨o,h1,h2⟩,fun z=>nomatch z⟩
  | @dK a kvs ea =>
   cases ht
   cases (show u=Value.ref a from rx)
   obtain ⟨_,_,vs,_,p⟩:=(show bH X.prog X.w H s.heap a (.dK kvs) from I.hok a _ ea)
   obtain ⟨o,es,ep,h1,h2,_⟩:=p
   exact ⟨_,PySem.W.kitx_dict,⟨o,h1,h2.1⟩,fun z=>nomatch z⟩
  | @dT a kvs ea =>
   cases ht
   cases (show u=Value.ref a from rx)
   obtain ⟨_,_,xs,_,o,es,ep,h1,h2,_⟩:=(show bH X.prog X.w H s.heap a (.dT kvs) from I.hok a _ ea)
   exact ⟨_,PySem.W.kitx_dict,⟨o,h1,h2.1⟩,fun z=>nomatch z⟩
  | ins=>cases ht
 ·cases (show u=Value.ref a from rx)
  obtain ⟨its,_,⟨o,h1,h2,_⟩,_⟩:=I.tuple hs
  exact ⟨_,PySem.W.kitx_tuple,⟨o,h1,h2⟩,fun z=>nomatch z⟩
theorem Dn:∀ {cs:List String} {us:List Value},Vals (cs.map V.ty) us->us=cs.map Value.type
 | [],us,h=>by
  cases us with
  | nil=>rfl
  | cons a b=>cases h
 | x :: xs,us,h=>by
  cases us with
  | nil=>cases h
  | cons u us =>
   cases h with
   | cons r t =>
    rw [Dn t]
    cases (show u=Value.type x from r)
    rfl
theorem yh:fB X (.builtin "isinstance") (sh X.K):=by
 intro pins s σ H xs us Q I r h
 obtain ⟨x,c,T,cs,b,rfl,ty,hc,hb,q⟩:=h
 obtain ⟨u,u',rfl,ru,va⟩:=vals2 r
 obtain ⟨Hh,Z,hh,hx⟩:=Hu I ru ty
 have fin:∀ tk,EP X pins σ Q (.bool b) { s with toks:=tk }:=fun tk=>⟨.bl b,H,I.tok tk,rfl,q⟩
 have ka:=Dl X.K hb
 rcases hc with ⟨n,rfl,rfl⟩ | ⟨p,rfl,hp⟩
 ·cases (show u'=Value.type n from va)
  refine PySem.W.kia_one Z I.lN hh ?_ hx fin
  simp only [gL] at hb
  split at hb
  ·next e=>cases hb;exact yg _ e
  ·next e=>cases hb;exact yg _ e
  ·cases hb
 ·cases (show u'=Value.ref p from va)
  obtain ⟨its,rv,⟨⟨oc,od,Cy,osl⟩,e,h2,h3,n,h4⟩,_⟩:=I.kB hp
  cases (show oc=.type "tuple" from h2)
  cases (show Cy=.seq its.toArray n from h4)
  cases Dn rv
  exact PySem.W.kia_tup Z I.lN hh e ka hx fin
theorem Hv (hK:X.K=K):fB X (.builtin "isinstance") (sh K):=by subst hK;exact yh
theorem si {ρ:List Addr} {H:Hp} {st:Store} {v:V} {a:D} {T:String} (l:Rl K ρ H st) (r1:Rp K ρ H v a) (hT:lE st a=some T):AG K H v T:=by
 cases r1 <;> simp only [lE] at hT
 ·cases hT;exact .inl .non
 ·cases hT;exact .inl (.bl _)
 ·cases hT;exact .inl (.int _)
 ·cases hT;exact .inl (.str _)
 ·cases hT
 ·next hi =>
  split at hT
  ·next ds hs=>cases hT;obtain ⟨vs,e1,_⟩:=l.obj _ _ _ hi hs;exact .inl (.lst e1)
  ·next ds hs=>cases hT;obtain ⟨vs,e1,_⟩:=l.obj _ _ _ hi hs;exact .inl (.dK e1)
  ·cases hT
 ·next hs hr=>cases hT;exact .inr ⟨rfl,_,_,rfl,hs⟩
theorem Dp {ρ:List Addr} {H:Hp}:∀ {ws:List V} {ds:List D} {ns:List String},bU K ρ H ws ds->du Dk ds=some ns->ws=ns.map V.ty
 | _,_,_,.nil,h=>by cases h;rfl
 | _,_,_,.cons a b,h=>by
  obtain ⟨x,t,h1,h2,rfl⟩:=x4 h
  rw [Dp b h2]
  cases a <;> first | (cases h1;rfl) | cases h1
theorem yi:oY K (sh K) jR:=by
 intro ρ H st xs as b st' Q l rx e q
 unfold jR at e
 split at e
 ·next a c =>
  split at e
  ·next T cs h1 h2 =>
   split at e
   ·next bb hb =>
    cases e
    obtain ⟨v,w,rfl,r1,r2⟩:=rx.two'
    refine ⟨v,w,T,cs,bb,rfl,si l r1 h1,?_,hb,q _ H ρ .refl l (.bl _)⟩
    cases r2 with
    | non=>cases h2
    | bl _=>cases h2
    | int _=>cases h2
    | str _=>cases h2
    | ref _=>cases h2
    | ty n=>cases h2;exact .inl ⟨n,rfl,rfl⟩
    | tup s r=>exact .inr ⟨_,rfl,Dp r h2 ▸ s⟩
   ·cases e
  ·cases e
 ·cases e
end
structure l9 (K:PySem.W.Frag) (mg:Str->Option Value) (x:Str) (v:V) (d:D):Prop where
 ex:∃ u,mg x=some u/\RelV v u
 rp:∀ (ρ:List Addr) (H:Hp),Rp K ρ H v d
theorem AH {X:Cx} {K:PySem.W.Frag} {mg:Str->Option Value} {x:Str} {v:V} {d:D} {pos:Pos} (C:l9 K mg x v d) (hg:Gl X x) (hX:X.mg=mg) (hd:(x == ("__debug__" : Str))=false):PE X (.Name x pos) (tC v):=by
 obtain ⟨u,h,r⟩:=C.ex
 subst hX
 exact Bm hg h r hd
theorem AI {K:PySem.W.Frag} {mg:Str->Option Value} {x:Str} {v:V} {d:D} (C:l9 K mg x v d):dQ K (tC v) (fC d):=lB C.rp
theorem Dq {K:PySem.W.Frag} {h:Heap} {mg:Str->Option Value} (X:K.In h) (G:h.Ns mainGlobals mg) {x:Str} {a:Addr} {od:Option Addr} {its:Array Value} {n:Nat} {sl:Array (Option Value)} {vs:List V} {ds:List D} (e:PySem.W.nsIn K mainGlobals x=some (some (.ref a))) (l:K.lookup a=some ⟨.type "tuple",od,.seq its n,sl⟩)
  (ho:od=none) (hz:its.size<=sizeLine) (hv:Vals vs its.toList) (hd:∀ (ρ:List Addr) (H:Hp),bU K ρ H vs ds):∃ v,l9 K mg x v (.tup ds) :=
 ⟨.ref a,⟨_,PySem.W.mg_of X G e,rfl⟩,fun ρ H=>.tup (.inr ⟨_,its,n,l,rfl,ho,rfl,hz,hv⟩) (hd ρ H)⟩
theorem Hw {δ:ah} {st:Store} {fi:ah->Dm Src} {js:List Nat} {f:ah->Dm D} {Q:D->Store->Prop} (ps:List (D×D)) (h:D×D->D) (hi:Wp (fi δ st) fun S st1=>kb S (ps.map fun p=>.tup [p.1,p.2]) st1/\Ex [] st st1) (hl:ps.length < 100000)
  (step:∀ p∈ps,∀ st1,Ex [] st st1->Wp (f (some p.1 :: some p.2 :: js.map fun j=>δ.getD j none) st1) fun y st2=>y=h p/\Ex [] st1 st2) (fin:∀ st',Ex [] st st'->Q (.ref st'.length) (st' ++ [.lst (ps.map h)])):Wp (eE fi 2 js (iy 2 (aZ (hName 0) (aZ (hName 1) iR))) eF f δ st) Q:=by
 obtain ⟨S,st1,e1,hS,k1⟩:=hi
 refine yb (ps.map fun p=>.tup [p.1,p.2]) (fun i ys δ' fR=>(∃ v w,δ'=v :: w :: js.map fun j=>δ.getD j none)/\ys=(ps.take i).map h/\Ex [] st1 fR) ⟨S,st1,e1,fun i ys δ' fR hi' hp=>hS i fR hi' hp.2.2,⟨none,none,rfl⟩,rfl,Ex.refl⟩ (by rw [List.length_map];exact hl) ?_ ?_ ?_
 ·rintro i ys δ' fR ⟨_,rfl,_⟩
  rw [List.length_map,List.length_take];omega
 ·rintro i d ys δ' fR hd ⟨⟨v,w,rfl⟩,rfl,k8⟩
  rw [List.getElem?_map] at hd
  obtain ⟨p,hp,rfl⟩:=Option.map_eq_some_iff.mp hd
  rw [Dd]
  refine ⟨rfl,?_⟩
  rw [Ax,tL,Ax,tL,Dc]
  show Wp (eF _ _) _
  rw [yd]
  refine ⟨fun _=>?_,fun h=>absurd h (by decide)⟩
  refine a7 (step p (List.mem_of_getElem? hp) fR (k1.trans k8)) ?_
  rintro y mR ⟨rfl,k9⟩
  refine ⟨⟨some p.1,some p.2,rfl⟩,?_,k8.trans k9⟩
  obtain ⟨hlt,e⟩:=List.getElem?_eq_some_iff.mp hp
  rw [List.take_succ_eq_append_getElem hlt,List.map_append,e];rfl
 ·rintro ys δ' fR ⟨_,rfl,k8⟩
  rw [List.length_map,List.take_length]
  exact fin fR (k1.trans k8)
end L4
namespace L4
open PySem PySem.Spec L2
def pU:Nat->D->Prop
 | _,.int _=>True
 | _,.str x=>PyData.canLay0 (.str x)=true
 | _,.non=>True
 | n + 1,.tup ds=>∀ d∈ds,pU n d
 | _,_=>False
def iK:Nat->D->PyData
 | _,.int i=>.int i
 | _,.str x=>.str x
 | n + 1,.tup ds=>.tuple (ds.map (iK n))
 | _,_=>.none
theorem AJ {α β:Type} {f:α->Option β} {g:α->β}:∀ {l:List α},(∀ x∈l,f x=some (g x))->du f l=some (l.map g)
 | [],_=>rfl
 | a :: r,h=>by
  have h1:=h a List.mem_cons_self
  have h2:=AJ (f:=f) (g:=g) (l:=r) fun x hx=>h x (List.mem_cons_of_mem _ hx)
  simp only [du,h1,h2,List.map_cons]
theorem sj:∀ (n:Nat) (d:D),pU n d->∀ (m:Nat),n < m->∀ st,gZ st m d=some (iK n d)
 | n,.int i,_,m + 1,_,st=>by cases n <;> rfl
 | n,.str x,_,m + 1,_,st=>by cases n <;> rfl
 | n,.non,_,m + 1,_,st=>by cases n <;> rfl
 | n,.bl b,h,_,_,_=>by cases n <;> exact h.elim
 | n,.ty b,h,_,_,_=>by cases n <;> exact h.elim
 | n,.ref b,h,_,_,_=>by cases n <;> exact h.elim
 | 0,.tup ds,h,_,_,_=>h.elim
 | n + 1,.tup ds,h,m + 1,hm,st=>by
  simp only [gZ]
  rw [AJ (g:=iK n) fun x hx=>sj n x (h x hx) m (by omega) st]
  rfl
theorem AK:∀ {l:List PyData},(∀ x∈l,x.canLay0=true)->PyData.canLayAll0 l=true
 | [],_=>rfl
 | a :: r,h=>by
  simp only [PyData.canLayAll0,h a List.mem_cons_self,AK fun x hx=>h x (List.mem_cons_of_mem _ hx),Bool.and_self]
theorem AL {n:Nat}:∀ {l:List PyData},(∀ x∈l,x.depth<=n)->PyData.depthAll l<=n
 | [],_=>Nat.zero_le _
 | a :: r,h=>by
  have h1:=h a List.mem_cons_self
  have h2:=AL fun x hx=>h x (List.mem_cons_of_mem _ hx)
  simp only [PyData.depthAll]
  omega
theorem sm:∀ (n:Nat) (d:D),pU n d->(iK n d).canLay0=true/\(iK n d).depth<=n
 | n,.int i,_=>by cases n <;> exact ⟨rfl,Nat.zero_le _⟩
 | n,.str x,h=>by cases n <;> exact ⟨h,Nat.zero_le _⟩
 | n,.non,_=>by cases n <;> exact ⟨rfl,Nat.zero_le _⟩
 | n,.bl b,h=>by cases n <;> exact h.elim
 | n,.ty b,h=>by cases n <;> exact h.elim
 | n,.ref b,h=>by cases n <;> exact h.elim
 | 0,.tup ds,h=>h.elim
 | n + 1,.tup ds,h=>by
  refine ⟨?_,?_⟩
  ·show PyData.canLayAll0 (ds.map (iK n))=true
   exact AK fun x hx=>by
    obtain ⟨d,hd,rfl⟩:=List.mem_map.mp hx
    exact (sm n d (h d hd)).1
  ·show PyData.depthAll (ds.map (iK n)) + 1<=n + 1
   have:=AL (n:=n) (l:=ds.map (iK n)) fun x hx=>by
    obtain ⟨d,hd,rfl⟩:=List.mem_map.mp hx
    exact (sm n d (h d hd)).2
   omega
theorem Dr {n:Nat} (ih:∀ a b:D,pU n a->pU n b->(PyData.eqv (iK n a) (iK n b)=true↔a=b)):∀ (l m:List D),(∀ x∈l,pU n x)->(∀ x∈m,pU n x)->(PyData.eqvAll (l.map (iK n)) (m.map (iK n))=true↔l=m)
 | [],[],_,_=>by simp [PyData.eqvAll]
 | [],_ :: _,_,_=>by simp [PyData.eqvAll]
 | _ :: _,[],_,_=>by simp [PyData.eqvAll]
 | a :: l,b :: m,h1,h2=>by
  have e1:=ih a b (h1 a List.mem_cons_self) (h2 b List.mem_cons_self)
  have e2:=Dr ih l m (fun x hx=>h1 x (List.mem_cons_of_mem _ hx)) fun x hx=>h2 x (List.mem_cons_of_mem _ hx)
  simp only [List.map_cons,PyData.eqvAll,Bool.and_eq_true,e1,e2,List.cons.injEq]
theorem AO:∀ (n:Nat) (a b:D),pU n a->pU n b->(PyData.eqv (iK n a) (iK n b)=true↔a=b):=by
 intro n
 induction n with
 | zero =>
  intro a b ha hb
  cases a <;> first | exact ha.elim | skip
  all_goals (cases b <;> first | exact hb.elim | simp [iK,PyData.eqv])
 | succ n ih =>
  intro a b ha hb
  cases a <;> first | exact ha.elim | skip
  all_goals (cases b <;> first | exact hb.elim | skip)
  all_goals first
   | (simp [iK,PyData.eqv];done)
   | skip
  next l m =>
   have:=Dr ih l m ha hb
   show PyData.eqv (.tuple (l.map (iK n))) (.tuple (m.map (iK n)))=true↔_
   rw [AB,this]
   constructor
   ·rintro rfl;rfl
   ·intro h;exact D.tup.inj h
open Classical in
theorem sr {st:Store} {Q:D->Store->Prop} {neg:Bool} {n:Nat} {a b:D} (ha:pU n a) (hb:pU n b) (hn:n<=15):Wp (fF neg a b st) Q↔Q (.bl (if neg then !decide (a=b) else decide (a=b))) st:=by
 have e:PyData.eqv (iK n a) (iK n b)=decide (a=b):=by
  have:=AO n a b ha hb
  cases h:PyData.eqv (iK n a) (iK n b) with
  | true=>exact (decide_eq_true (this.mp h)).symm
  | false=>exact (decide_eq_false fun z=>by rw [this.mpr z] at h;cases h).symm
 rw [Aw]
 constructor
 ·rintro ⟨p,q,h1,h2,_,h⟩
  rw [sj n a ha 20 (by omega)] at h1
  rw [sj n b hb 20 (by omega)] at h2
  cases h1
  cases h2
  rw [e] at h
  exact h
 ·intro h
  refine ⟨_,_,sj n a ha 20 (by omega) st,sj n b hb 20 (by omega) st,⟨(sm n a ha).1,(sm n b hb).1,?_⟩,?_⟩
  ·have:=(sm n a ha).2
   omega
  ·rw [e];exact h
theorem vY (n:Nat) (s:dA):pU (n + 1) (bt s):=fun d hd=>by
 have hd:d=.str (if s.1 then "s" else "t")\/d=.int s.2:=by simpa [bt] using hd
 rcases hd with rfl | rfl
 ·have h:PyData.canLay0 (.str (if s.1=true then "s" else "t" : Str))=true:=by cases s.1 <;> decide +kernel
  cases n <;> exact h
 ·cases n <;> trivial
theorem Ds (n:Nat) (w:List dA):pU (n + 2) (.tup (w.map bt)):=fun d hd=>by
 obtain ⟨s,_,rfl⟩:=List.mem_map.mp hd
 exact vY n s
end L4
namespace L4
open PySem PySem.Spec L2
def lG (neg:Bool):D->D->Dm D:=fun a c st=>match gZ st 20 a,(cH st c).bind (du (gZ st 19)) with
 | some dx,some ds=>if dx.canLay0 && ds.all PyData.canLay0 && decide (dx.depth<=60) then some (.bl (if neg then !ds.any (fun d=>PyData.eqv d dx) else ds.any fun d=>PyData.eqv d dx),st) else none
 | _,_=>none
section
variable {K:PySem.W.Frag}
theorem Dt {ρ:List Addr} {H:Hp} {st:Store} (l:Rl K ρ H st) (n:Nat):∀ {vs:List V} {ds:List D} {ps:List PyData},bU K ρ H vs ds->du (gZ st n) ds=some ps->dG K H vs ps
 | _,_,_,.nil,h=>by cases h;exact .nil
 | _,_,_,.cons a b,h=>by
  obtain ⟨x,t,h1,h2,rfl⟩:=x4 h
  exact .cons (vp l n a h1) (Dt l n b h2)
theorem su (neg:Bool):iI K (uY K neg) (lG neg):=by
 intro ρ H st x y a c b st' Q l rx ry e q
 unfold lG at e
 split at e
 ·next dx ds h1 h2 =>
  split at e
  ·next ok =>
   cases e
   rw [Bool.and_eq_true,Bool.and_eq_true,decide_eq_true_eq,List.all_eq_true] at ok
   obtain ⟨es,h3,h4⟩:=Option.bind_eq_some_iff.mp h2
   obtain ⟨p,xs,rfl,hq,rr⟩:∃ p xs,y=.ref p/\(fI K H p xs\/dF K H p xs)/\bU K ρ H xs es:=by
    cases ry with
    | non=>cases h3
    | bl _=>cases h3
    | int _=>cases h3
    | str _=>cases h3
    | ty _=>cases h3
    | ref hi=>obtain ⟨vs,s,r⟩:=l.items hi h3;exact ⟨_,vs,rfl,.inl s,r⟩
    | tup s r=>cases h3;exact ⟨_,_,rfl,.inr s,r⟩
   exact ⟨p,xs,ds,dx,rfl,hq,Dt l 19 rr h4,vp l 20 rx h1,ok.1.2,ok.1.1,ok.2,q _ H ρ .refl l (.bl _)⟩
  ·cases e
 ·cases e
end
open Classical in
theorem sv {st:Store} {Q:D->Store->Prop} {neg:Bool} {n:Nat} {a c:D} {es:List D} (ha:pU n a) (hc:cH st c=some es) (he:∀ e∈es,pU n e) (hn:n<=15):Wp (lG neg a c st) Q↔Q (.bl (if neg then !decide (a∈es) else decide (a∈es))) st:=by
 have h1:=sj n a ha 20 (by omega) st
 have h2:du (gZ st 19) es=some (es.map (iK n)):=AJ fun x hx=>sj n x (he x hx) 19 (by omega) st
 have ea:(es.map (iK n)).any (fun d=>PyData.eqv d (iK n a))=decide (a∈es):=by
  rw [Bool.eq_iff_iff,List.any_eq_true,decide_eq_true_eq]
  constructor
  ·rintro ⟨d,hd,h⟩
   obtain ⟨x,hx,rfl⟩:=List.mem_map.mp hd
   rw [<- (AO n x a (he x hx) ha).mp h]
   exact hx
  ·intro h
   exact ⟨_,List.mem_map.mpr ⟨a,h,rfl⟩,(AO n a a ha ha).mpr rfl⟩
 have l1:=sm n a ha
 have l2:(es.map (iK n)).all PyData.canLay0=true:=by
  rw [List.all_eq_true]
  intro d hd
  obtain ⟨x,hx,rfl⟩:=List.mem_map.mp hd
  exact (sm n x (he x hx)).1
 have e:lG neg a c st=some (.bl (if neg then !decide (a∈es) else decide (a∈es)),st):=by
  unfold lG
  simp only [h1,hc,Option.bind_some,h2,ea,l1.1,l2,Bool.true_and,decide_eq_true_eq]
  rw [if_pos (by omega)]
 rw [e,bh]
end L4
namespace L4
open PySem PySem.Spec L2
def yj:D->Option (List D)
 | .tup ds=>some ds
 | .str x=>if x.length<=sizeLine then some (ye x) else none
 | _=>none
def ll (fa:ah->Dm (List D)):ah->Dm Src:=fun δ st=>bnd (fa δ st) fun as st1=>match as with
 | [a]=>match yj a with
  | some ds=>some (.fix ds.reverse,st1)
  | none=>none
 | _=>none
section
variable {K:PySem.W.Frag}
theorem vZ {ρ:List Addr} {H:Hp} {x:V} {a:D} {ds:List D} (r:Rp K ρ H x a) (h:yj a=some ds):∃ src:ZS,src.val K H x/\(∀ a,src≠.lst a)/\(∀ z,src=.str z->z.length<=sizeLine)/\∀ (ρ2:List Addr) (H2:Hp),Mn K ρ H ρ2 H2->∀ i,(∀ d,ds[i]?=some d->∃ v,src.has K H2 i v/\Rp K ρ2 H2 v d)/\(i=ds.length->src.fin K H2 i):=by
 cases r with
 | non=>cases h
 | bl b=>cases h
 | int i=>cases h
 | ty n=>cases h
 | ref e=>cases h
 | str x =>
  unfold yj at h
  simp only at h
  split at h
  ·next hx =>
   cases h
   refine ⟨.str x,rfl,nofun,fun z e=>by cases e;exact hx,fun ρ2 H2 m i=>⟨fun d hd=>?_,fun e=>?_⟩⟩
   ·unfold ye at hd
    rw [List.getElem?_map] at hd
    obtain ⟨c,hc,rfl⟩:=Option.map_eq_some_iff.mp hd
    have hc':x.cps[i]?=some c:=by simpa using hc
    exact ⟨_,⟨c,hc',rfl⟩,.str _⟩
   ·show x.cps.size=i
    rw [e];simp [ye]
  ·cases h
 | tup s r =>
  cases h
  refine ⟨.tup _,⟨rfl,_,s⟩,nofun,nofun,fun ρ2 H2 m i=>⟨fun d hd=>?_,fun e=>?_⟩⟩
  ·obtain ⟨v,hv,rv⟩:=r.got hd
   exact ⟨v,⟨_,m.t _ _ s,hv⟩,rv.mn m⟩
  ·exact ⟨_,m.t _ _ s,by rw [r.length];exact e.symm⟩
theorem Hx {t:TA} {fa:ah->Dm (List D)} (ha:lA K t fa):tG K (u0 K t) (ll fa):=by
 intro ρ σ H δ st S st' Q l rs e q
 obtain ⟨as,st1,e1,e⟩:=cj e
 split at e
 ·next a =>
  split at e
  ·next ds h1 =>
   cases e
   refine ha ρ σ H δ st _ _ _ l rs e1 fun xs H1 ρ1 m1 l1 r1=>?_
   obtain ⟨x,rfl,rx⟩:=r1.one'
   obtain ⟨s1,v1,nl,hz,g1⟩:=vZ rx h1
   refine ⟨x,s1,ds.length,rfl,v1,(g1 ρ1 H1 Mn.refl ds.length).2 rfl,nl,hz,q _ H1 ρ1 m1 l1 fun ρ2 H2 st2 i m2 l2=>⟨fun h=>?_,fun d h=>?_⟩⟩
   ·obtain ⟨hl,hn⟩:=tF h
    have:=List.getElem?_eq_none_iff.mp hn
    simp only [List.length_reverse] at this hl
    exact (show i=ds.length by omega)
   ·have hd:=(tF h).2
    have hi:i < ds.length:=by simpa using (List.getElem?_eq_some_iff.mp hd).1
    rw [List.getElem?_reverse hi] at hd
    obtain ⟨v,hv,rv⟩:=(g1 ρ2 H2 m2 _).1 d hd
    refine ⟨⟨hi,v,hv⟩,fun z H3 hz=>?_⟩
    obtain ⟨rfl,k1⟩:=hz
    cases k1 _ hv
    exact ⟨Mn.refl,l2,rv⟩
  ·cases e
 ·cases e
end
section
variable {st:Store}
theorem Hy {δ:ah} {fa:ah->Dm (List D)} {R:Src->Store->Prop}:Wp (ll fa δ st) R↔Wp (fa δ st) fun as st1=>∃ a ds,as=[a]/\yj a=some ds/\R (.fix ds.reverse) st1:=by
 unfold ll;rw [cW]
 constructor <;> refine fun h=>a7 h fun as s h=>?_
 ·split at h
  ·next a =>
   split at h
   ·next ds h1=>exact ⟨a,ds,rfl,h1,bh.mp h⟩
   ·exact (dw.mp h).elim
  ·exact (dw.mp h).elim
 ·obtain ⟨a,ds,rfl,h1,h⟩:=h
  simp only [h1]
  exact bh.mpr h
end
end L4
namespace L4
open PySem PySem.Spec L2
section
variable {K:PySem.W.Frag}
end
section
variable {st:Store} {Q:D->Store->Prop}
end
end L4
namespace L4
open PySem PySem.Spec L2
section
variable {K:PySem.W.Frag}
end
end L4
namespace L4
open PySem PySem.Spec L2
section
variable {K:PySem.W.Frag}
end
end L4
namespace L4
open PySem PySem.Spec L2
section
variable {K:PySem.W.Frag}
end
end L4
namespace L4
open PySem PySem.Spec L2
section
variable {K:PySem.W.Frag}
end
section
variable {δ:ah} {st:Store} {N B C:ah->Store->Prop} {R:D->Store->Prop}
end
end L4
namespace L4
open PySem PySem.Spec L2
section
variable {K:PySem.W.Frag}
end
section
variable {δ:ah} {st:Store} {N B C:ah->Store->Prop} {R:D->Store->Prop}
end
end L4
namespace L4
open PySem PySem.Spec L2
section
variable {K:PySem.W.Frag}
end
end L4
namespace L4
open PySem PySem.Spec L2
section
variable {K:PySem.W.Frag}
end
end L4
namespace L4
open PySem PySem.Spec L2
section
variable {K:PySem.W.Frag}
end
section
variable {st:Store} {Q:D->Store->Prop} {i:Nat}
end
end L4
namespace L4
open PySem PySem.Spec L2
section
variable {K:PySem.W.Frag}
end
section
variable {st:Store} {Q:D->Store->Prop} {δ:ah}
end
end L4
namespace L4
open PySem PySem.Spec L2
section
variable {K:PySem.W.Frag}
end
section
variable {st:Store} {Q:D->Store->Prop}
end
end L4
namespace L4
open PySem PySem.Spec L2
section
variable {K:PySem.W.Frag}
end
section
variable {st:Store} {δ:ah}
end
end L4
namespace L4
open PySem PySem.Spec L2
section
variable {K:PySem.W.Frag}
end
theorem Hz {δ:ah} {st:Store} {fi:ah->Dm Src} {js:List Nat} {c:ah->Dm Bool} {f:ah->Dm D} {Q:D->Store->Prop} (ds:List D) (q:D->Bool) (h:D->D) (hi:Wp (fi δ st) fun S st1=>kb S ds st1/\Ex [] st st1) (hl:ds.length < 100000)
  (cond:∀ d∈ds,∀ st1,Ex [] st st1->Wp (c (some d :: js.map fun j=>δ.getD j none) st1) fun b st2=>b=q d/\Ex [] st1 st2)
  (step:∀ d∈ds,q d=true->∀ st1,Ex [] st st1->Wp (f (some d :: js.map fun j=>δ.getD j none) st1) fun y st2=>y=h d/\Ex [] st1 st2) (fin:∀ st',Ex [] st st'->Q (.ref st'.length) (st' ++ [.lst ((ds.filter q).map h)])):Wp (eE fi 1 js (hName 0) c f δ st) Q:=by
 obtain ⟨S,st1,e1,hS,k1⟩:=hi
 refine yb ds (fun i ys δ' fR=>(∃ v,δ'=v :: js.map fun j=>δ.getD j none)/\ys=((ds.take i).filter q).map h/\Ex [] st1 fR) ⟨S,st1,e1,fun i ys δ' fR hi' hp=>hS i fR hi' hp.2.2,⟨none,rfl⟩,rfl,Ex.refl⟩ hl ?_ ?_ ?_
 ·rintro i ys δ' fR ⟨_,rfl,_⟩
  rw [List.length_map]
  refine Nat.le_trans (List.length_filter_le _ _) ?_
  rw [List.length_take];omega
 ·rintro i d ys δ' fR hd ⟨⟨v,rfl⟩,rfl,k8⟩
  obtain ⟨hlt,e⟩:=List.getElem?_eq_some_iff.mp hd
  have hm:=List.mem_of_getElem? hd
  rw [tL]
  refine a7 (cond d hm fR (k1.trans k8)) ?_
  rintro b mR ⟨rfl,k9⟩
  refine ⟨fun hq=>a7 (step d hm hq mR (k1.trans (k8.trans k9))) ?_,fun hq=>⟨⟨some d,rfl⟩,?_,k8.trans k9⟩⟩
  ·rintro y HA ⟨rfl,AQ⟩
   refine ⟨⟨some d,rfl⟩,?_,(k8.trans k9).trans AQ⟩
   rw [List.take_succ_eq_append_getElem hlt,List.filter_append,List.map_append,e,List.filter_cons_of_pos hq];rfl
  ·rw [List.take_succ_eq_append_getElem hlt,List.filter_append,List.map_append,e,List.filter_cons_of_neg (by rw [hq];decide)]
   simp
 ·rintro ys δ' fR ⟨_,rfl,k8⟩
  rw [List.take_length]
  exact fin fR (k1.trans k8)
end L4
namespace L4
open PySem PySem.Spec L2
section
variable {K:PySem.W.Frag}
end
end L4
namespace L4
open PySem PySem.Spec L2
section
variable {K:PySem.W.Frag}
def lp:D->D->Dm D
 | .tup ds,.int k,st=>if 0 < ds.length/\ds.length<=100/\0<=k/\k<=1000 then some (.tup (List.replicate k.toNat ds).flatten,st) else none
 | _,_,_=>none
theorem HB:iI K (oP K) lp:=by
 intro ρ H st x y a c b st' Q l rx ry e q
 unfold lp at e
 split at e
 ·next ds k mB =>
  split at e
  ·next hk =>
   cases e
   cases rx with
   | tup s r =>
    cases ry
    refine ⟨_,_,_,rfl,rfl,s,by rw [r.length];exact hk.1,by rw [r.length];exact hk.2.1,hk.2.2.1,hk.2.2.2,?_⟩
    exact got l (r.flat _) q
  ·cases e
 ·cases e
end
section
variable {st:Store} {Q:D->Store->Prop}
theorem HC {ds:List D} {k:Int}:Wp (lp (.tup ds) (.int k) st) Q↔(0 < ds.length/\ds.length<=100/\0<=k/\k<=1000)/\Q (.tup (List.replicate k.toNat ds).flatten) st:=by
 show Wp (if 0 < ds.length/\ds.length<=100/\0<=k/\k<=1000 then some (D.tup (List.replicate k.toNat ds).flatten,st) else none) Q↔_
 by_cases h:0 < ds.length/\ds.length<=100/\0<=k/\k<=1000
 ·rw [if_pos h,bh];exact ⟨fun q=>⟨h,q⟩,fun q=>q.2⟩
 ·rw [if_neg h];exact ⟨fun q=>(dw.mp q).elim,fun q=>absurd q.1 h⟩
end
end L4
namespace L4
open PySem PySem.Spec L2
section
variable {K:PySem.W.Frag}
end
end L4
namespace L4
open PySem PySem.Spec L2
section
variable {K:PySem.W.Frag} {ρ:List Addr} {H:Hp} {st:Store}
end
section
variable {K:PySem.W.Frag}
end
section
variable {st:Store} {δ:ah} {Q:D->Store->Prop}
end
end L4
namespace L4
open PySem PySem.Spec L2
section
variable {K:PySem.W.Frag}
end
section
variable {st:Store} {δ:ah} {Q:D->Store->Prop}
end
end L4
namespace L4
open PySem PySem.Spec L2
section
variable {K:PySem.W.Frag} {ρ:List Addr} {H:Hp} {st:Store} {a:Addr} {i:Nat} {ho:HO} {o:O}
end
section
variable {K:PySem.W.Frag}
end
section
variable {st:Store} {δ:ah}
end
end L4
namespace L4
open PySem PySem.Spec L2
def aN (d:D) (st:Store):Bool:=match d with
 | .ref i=>match st[i]? with
  | some (.exc _ _)=>true
  | _=>false
 | _=>false
theorem HD {d:D} {st:Store} (h:aN d st=true):∃ i c fs,d=.ref i/\st[i]?=some (.exc c fs):=by
 unfold aN at h
 split at h
 ·next i =>
  split at h
  ·next c fs e=>exact ⟨i,c,fs,rfl,e⟩
  ·cases h
 ·cases h
theorem HE {a C:Addr} {dx tr:Option Addr} {xs:List (List Int×Addr×Value)} (e:DU a xs=XO a C dx tr):False:=by
 unfold DU XO at e
 injection e with q
 let ob:Obj:={ cls:=.ref C,dict:=dx,data:=.fields #[.none,qD tr] }
 let h0:Heap:={ objs:=Array.replicate (a + 1) ob }
 have e0:h0.get? a=some ob:=by
  refine Heap.get?_some_iff.mpr ⟨?_,rfl⟩
  simp [h0]
 have z:=(congrFun q h0).mpr ⟨ob,_,e0,rfl,rfl,rfl,rfl⟩
 obtain ⟨_,_,o,es,ep,e1,_,e2,_⟩:=z
 rw [e0] at e1;cases e1
 cases e2
section
variable {K:PySem.W.Frag} {ρ ρ':List Addr} {H H' H2:Hp} {st st':Store} {a:Addr}
theorem yk (y:XS a H H2) {b:Addr} {u:HO} (h:H b=some u) (n:∀ φ,u≠.ext φ):H2 b=some u:=by
 obtain ⟨⟨C,dx,tr,qE,e1,e2⟩,k⟩:=y
 exact k b (fun z=>by rw [z,e1] at h;cases h;exact n _ rfl) u h
theorem Mn.xs (y:XS a H H2):Mn K ρ H ρ H2:=⟨fun _ _ h=>h,fun b vs q=>by
  rcases q with (q | ⟨o,q⟩) | q
  ·exact .inl (.inl (yk y q fun φ z=>nomatch z))
  ·exact .inl (.inr ⟨o,yk y q fun φ z=>nomatch z⟩)
  ·exact .inr q
  ,fun b o u h=>yk y h (fun φ z=>by cases z),fun b ws h=>yk y h (fun φ z=>by cases z)⟩
theorem Rl.xs (l:Rl K ρ H st) (y:XS a H H2):Rl K ρ H2 st:=by
 have m:Mn K ρ H ρ H2:=Mn.xs y
 refine ⟨l.len,l.nd,fun i b o h1 h2=>?_⟩
 have r:=l.obj i b o h1 h2
 by_cases hb:b=a
 ·subst hb
  have y0:=y
  obtain ⟨⟨C,dx,tr,qE,e1,e2⟩,k⟩:=y0
  cases o with
  | lst ds=>obtain ⟨vs,e,_⟩:=r;rw [e1] at e;cases e
  | kF ds =>
   obtain ⟨vs,e,q⟩:=r
   refine ⟨vs,?_,q.mn m⟩
   rcases e with ⟨u,e⟩ | e
   ·rw [e1] at e;cases e
   ·exact .inr e
  | dct kvs=>obtain ⟨vs,e,_⟩:=r;rw [e1] at e;cases e
  | vh kvs=>obtain ⟨vs,e,_⟩:=r;rw [e1] at e;exact (HE (Option.some.inj e).symm).elim
  | exc c fs =>
   obtain ⟨C',tf,FF,n,e,q⟩:=r
   rw [e1] at e
   obtain ⟨rfl,rfl⟩:=XO.inj (Option.some.inj e)
   exact ⟨C,dx,qE,n,e2,q.mn m⟩
  | any=>trivial
  | j0 lo hi=>have z:H b=some (.j0 lo hi):=r;rw [e1] at z;cases z
 ·exact r.keep m fun u e=>y.2 b hb u e
def v9 (K:PySem.W.Frag) (W:Addr->Hp->Prop) (ρ:List Addr) (H:Hp) (st':Store) (E:Ends):Fl->Prop
 | .rt d=>(aN d st'=true->∀ a H' ρ',Mn K ρ H ρ' H'->Rl K ρ' H' st'->Rp K ρ' H' (.ref a) d->W a H')/\(aN d st'=false->Go K ρ H st' E (.rt d))
 | fl=>Go K ρ H st' E fl
theorem v9.mn {W:Addr->Hp->Prop} {ρ1:List Addr} {H1:Hp} {E:Ends} {fl:Fl} (g:v9 K W ρ H st' E fl) (m:Mn K ρ H ρ1 H1):v9 K W ρ1 H1 st' E fl:=by
 cases fl with
 | rt d=>exact ⟨fun h a H' ρ' m' l r=>g.1 h a H' ρ' (m.trans m') l r,fun h=>Go.mn (g.2 h) m⟩
 | nx δ=>exact Go.mn (fl:=.nx δ) g m
 | bk δ=>exact Go.mn (fl:=.bk δ) g m
 | ct δ=>exact Go.mn (fl:=.ct δ) g m
def nZ (K:PySem.W.Frag) (W:Addr->Hp->Prop) (t:TS) (f:ah->Dm Fl):Prop :=
 ∀ (ρ:List Addr) (σ:St) (H:Hp) (δ:ah) (st:Store) (fl:Fl) (st':Store) (E:Ends),Rl K ρ H st->Rs K ρ H σ δ->f δ st=some (fl,st')->v9 K W ρ H st' E fl->t E σ H
def tM (f:ah->Dm Fl):ah->Dm Fl:=fun δ st=>bnd (f δ st) fun fl st1=>match fl with
 | .rt d=>if aN d st1=true then none else some (.rt d,st1)
 | x=>some (x,st1)
theorem AR {W:Addr->Hp->Prop} {t:TS} {f:ah->Dm Fl} (hf:jM K t f):nZ K W t (tM f):=by
 intro ρ σ H δ st fl st' E l rs e q
 obtain ⟨x,st1,e1,e⟩:=cj e
 cases x with
 | rt d =>
  dsimp only at e
  split at e
  ·cases e
  ·next hn=>cases e;exact hf ρ σ H δ st _ _ E l rs e1 (q.2 (by simpa using hn))
 | nx δ1=>cases e;exact hf ρ σ H δ st _ _ E l rs e1 q
 | bk δ1=>cases e;exact hf ρ σ H δ st _ _ E l rs e1 q
 | ct δ1=>cases e;exact hf ρ σ H δ st _ _ E l rs e1 q
theorem Du {W:Addr->Hp->Prop} {t u:TS} {f g:ah->Dm Fl} (hf:nZ K W t f) (hg:nZ K W u g):nZ K W (pX t u) (aM f g):=by
 intro ρ σ H δ st fl st' E l rs e q
 obtain ⟨x,st1,e1,e⟩:=cj e
 refine hf ρ σ H δ st x st1 _ l rs e1 ?_
 cases x with
 | nx δ1=>exact fun σ1 H1 ρ1 m1 l1 r1=>hg ρ1 σ1 H1 δ1 st1 fl st' E l1 r1 e (q.mn m1)
 | bk δ1=>cases e;exact q
 | ct δ1=>cases e;exact q
 | rt d=>cases e;exact q
theorem HF {W:Addr->Hp->Prop} {c:TT} {t u:TS} {fc:ah->Dm Bool} {f g:ah->Dm Fl} (hc:kG K c fc) (hf:nZ K W t f) (hg:nZ K W u g):nZ K W (pY c t u) (ie fc f g):=by
 intro ρ σ H δ st fl st' E l rs e q
 obtain ⟨a,st1,e1,e⟩:=cj e
 refine hc ρ σ H δ st _ _ _ l rs e1 fun x H1 ρ1 m1 l1 r1=>?_
 subst r1
 cases x with
 | true =>
  refine kE ?_
  rw [if_pos rfl] at e
  exact hf ρ1 σ H1 δ st1 fl st' E l1 (rs.mn m1) e (q.mn m1)
 | false =>
  refine kD ?_
  rw [if_neg Bool.false_ne_true] at e
  exact hg ρ1 σ H1 δ st1 fl st' E l1 (rs.mn m1) e (q.mn m1)
def jS (c:Str):ah->Dm Fl:=fun _ st=>some (.rt (.ref st.length),st ++ [.exc c []])
theorem HG {c:Str} {fs:List (Str×D)}:aN (.ref st.length) (st ++ [.exc c fs])=true:=by
 simp [aN]
theorem HI {C:Addr} {c:Str} {E0:XK} (hc:PySem.W.nsIn K mainGlobals c=some (some (.ref C))):nZ K (fun a H'=>E0 (.ref a) none H') (ml C E0) (jS c):=by
 intro ρ σ H δ st fl st' E l rs e q
 cases e
 intro a H2 hn y
 have l1:Rl K (ρ ++ [a]) (upd H a (XO a C none none)) (st ++ [.exc c []]):=l.new hn ⟨C,none,none,hc,lM,rfl⟩
 exact q.1 HG a H2 (ρ ++ [a]) ((Mn.new hn).trans (Mn.xs y)) (l1.xs y) (.ref (newR l))
def tN (K:PySem.W.Frag) (n:Nat) (F:List D->Dm D):Sp:=fun vs H Q E=>vs.length=n/\∃ (ρ:List Addr) (st:Store) (ds:List D) (b:D) (st':Store),Rl K ρ H st/\bU K ρ H vs ds/\F ds st=some (b,st') /\
 (aN b st'=true->∀ a H' ρ',Mn K ρ H ρ' H'->Rl K ρ' H' st'->Rp K ρ' H' (.ref a) b->E (.ref a) none H')/\(aN b st'=false->∀ v H' ρ',Mn K ρ H ρ' H'->Rl K ρ' H' st'->Rp K ρ' H' v b->Q v H')
theorem sx {N:List Str} {k n:Nat} {t:TS} {b:ah->Dm Fl} {vs:List V} {H:Hp} {Q:VK} {E:XK} (hb:nZ K (fun a H'=>E (.ref a) none H') t b) (hn:N.length=n) (h:tN K k (gG n b) vs H Q E):t { nx:=fun _ H'=>Q .non H',rt:=Q } (start N vs) H:=by
 obtain ⟨hk,ρ,st,ds,d,st',l,r,e,q1,q2⟩:=h
 subst hn
 obtain ⟨fl,st1,e1,e⟩:=cj e
 refine hb ρ _ H _ st fl st1 _ l (Rs.start r N) e1 ?_
 cases fl with
 | rt v=>cases e;exact ⟨q1,q2⟩
 | nx δ=>cases e;exact fun σ' H' ρ' m l' r'=>q2 rfl .non H' ρ' m l' .non
 | bk δ=>cases e
 | ct δ=>cases e
def Dx (K:PySem.W.Frag) (t:(St->Addr->Hp->Prop)->TS) (f:ah->Dm Fl):Prop :=
 ∀ (ρ:List Addr) (σ:St) (H:Hp) (δ:ah) (st:Store) (fl:Fl) (st':Store) (E:Ends) (W:St->Addr->Hp->Prop),Rl K ρ H st->Rs K ρ H σ δ->f δ st=some (fl,st')->v9 K (W σ) ρ H st' E fl->t W E σ H
def catches (sub:Str->Bool) (d:D) (st:Store):Bool:=match d with
 | .ref i=>match st[i]? with
  | some (.exc c _)=>sub c
  | _=>false
 | _=>false
def n4 (f:ah->Dm Fl) (sub:Str->Bool) (i:Nat) (fs:ah->Dm Fl):ah->Dm Fl:=fun δ st=>bnd (f δ st) fun fl st1=>match fl with
 | .rt d=>if aN d st1=true then (if catches sub d st1=true then bnd (fs (δ.set i (some d)) st1) (fun AU st2=>match AU with
   | .nx δ2=>some (.nx (δ2.set i none),st2)
   | .rt x=>some (.rt x,st2)
   | _=>none) else none) else some (.rt d,st1)
 | x=>some (x,st1)
theorem Rs.unset {σ:St} {δ:ah} {i:Nat} (h:Rs K ρ H σ δ):Rs K ρ H (σ.set i none) (δ.set i none):=by
 refine ⟨by rw [List.length_set,List.length_set];exact h.1,fun j e hj=>?_⟩
 by_cases hij:i=j
 ·subst hij
  have hl:i < δ.length:=by
   have:=(List.getElem?_eq_some_iff.mp hj).1
   rwa [List.length_set] at this
  rw [List.getElem?_set_self hl] at hj
  cases hj
 ·rw [List.getElem?_set_ne hij] at hj
  obtain ⟨w,hw,rw'⟩:=h.2 j e hj
  exact ⟨w,by rw [List.getElem?_set_ne hij];exact hw,rw'⟩
theorem sy {t:(St->Addr->Hp->Prop)->TS} {ts:TS} {f fs:ah->Dm Fl} {sub:Str->Bool} {F:Addr} {i:Nat} (hf:Dx K t f) (hs:jM K ts fs) (hsub:∀ c C,sub c=true->PySem.W.nsIn K mainGlobals c=some (some (.ref C))->PySem.W.mroIn K C (.ref F)=some true) :
  jM K (u7 K t F i ts) (n4 f sub i fs):=by
 intro ρ σ H δ st fl st' E l rs e q
 obtain ⟨x,st1,e1,e⟩:=cj e
 refine hf ρ σ H δ st x st1 E _ l rs e1 ?_
 cases x with
 | nx δ1=>cases e;exact q
 | bk δ1=>cases e;exact q
 | ct δ1=>cases e;exact q
 | rt d =>
  dsimp only at e
  refine ⟨fun hr a H' ρ' m' l' r'=>?_,fun hr=>?_⟩
  ·rw [if_pos hr] at e
   obtain ⟨j,c,gs,rfl,hj⟩:=HD hr
   split at e
   ·next hca =>
    have hc:sub c=true:=by simpa [catches,hj] using hca
    obtain ⟨y,st2,e2,e⟩:=cj e
    cases r' with
    | ref yl =>
     obtain ⟨C,dx,tr,hn,ea,_⟩:=l'.obj j a _ yl hj
     refine ⟨C,dx,tr,ea,hsub c C hc hn,hs ρ' _ H' _ st1 y st2 _ l' ((rs.mn m').set (.ref yl)) e2 ?_⟩
     cases y with
     | nx δ2=>cases e;exact fun σ3 H3 ρ3 m3 l3 r3=>q _ H3 ρ3 (m'.trans m3) l3 r3.unset
     | rt v=>cases e;exact fun v3 H3 ρ3 m3 l3 r3=>q v3 H3 ρ3 (m'.trans m3) l3 r3
     | bk δ2=>cases e
     | ct δ2=>cases e
   ·cases e
  ·rw [hr,if_neg Bool.false_ne_true] at e
   cases e
   exact q
def jg (n5:Str->Option Bool) (f:ah->Dm D):ah->Dm D:=fun δ st=>bnd (f δ st) fun d st1=>match d with
 | .ref i=>match st1[i]? with
  | some (.exc c _)=>match n5 c with
   | some b=>some (.bl b,st1)
   | none=>none
  | _=>none
 | _=>none
theorem HJ {dx:Option Addr} {fs:List (Str×D)} (h:Xd K ρ H dx fs):∀ d,dx=some d->∃ ws,H d=some (.xd ws):=fun d e=>by
 subst e;obtain ⟨ws,e,_⟩:=h;exact ⟨ws,e⟩
theorem pA {te:TE} {f:ah->Dm D} {v:V} {cv:Value} {n5:Str->Option Bool} (hf:dQ K te f) (hv:nC v=some cv)
  (h:∀ c C b,n5 c=some b->PySem.W.nsIn K mainGlobals c=some (some (.ref C))->j7 K C/\PySem.W.kitOne K (.ref C) cv=some b):dQ K (xA (u9 K) (kO te (kO (tC v) qc))) (jg n5 f):=by
 intro ρ σ H δ st b st' Q l rs e q
 obtain ⟨d,st1,e1,e⟩:=cj e
 refine hf ρ σ H δ st d st1 _ l rs e1 fun x H1 ρ1 m1 l1 r1=>?_
 split at e
 ·split at e
  ·next c fs hj =>
   split at e
   ·next b0 hb =>
    cases e
    cases r1 with
    | ref yl =>
     obtain ⟨C,dx,tr,hn,ea,hx⟩:=l1.obj _ _ _ yl hj
     obtain ⟨ei,k⟩:=h c C b0 hb hn
     exact ⟨_,C,dx,tr,v,b0,rfl,ea,HJ hx,ei,.inl ⟨cv,hv,k⟩,q _ H1 ρ1 m1 l1 (.bl b0)⟩
   ·cases e
  ·cases e
 ·cases e
def iT (x:Str) (b:Bool):Str->Option Bool:=fun c=>if c=x then some b else none
def sA (x:Str):Str->Bool:=fun c=>decide (c=x)
theorem pB {x:Str} {C0:Addr} {b0:Bool} {R:Addr->Bool->Prop} (hn:PySem.W.nsIn K mainGlobals x=some (some (.ref C0))) (k:R C0 b0):∀ c C b,iT x b0 c=some b->PySem.W.nsIn K mainGlobals c=some (some (.ref C))->R C b:=fun c C b h n=>by
 unfold iT at h
 split at h
 ·next e=>subst e;cases h;rw [hn] at n;cases n;exact k
 ·cases h
theorem HK {x:Str} {C0 F:Addr} (hn:PySem.W.nsIn K mainGlobals x=some (some (.ref C0))) (k:PySem.W.mroIn K C0 (.ref F)=some true):∀ c C,sA x c=true->PySem.W.nsIn K mainGlobals c=some (some (.ref C))->PySem.W.mroIn K C (.ref F)=some true:=fun c C h n=>by
 have e:c=x:=of_decide_eq_true h
 subst e
 rw [hn] at n;cases n;exact k
abbrev ym:List Value:=[.type "ValueError",.type "Exception",.type "BaseException",.type "object"]
theorem HL:bootBuiltins "ValueError" = some (.type "ValueError"):=by decide +kernel
def wa (n5:Str->Option Bool) (d:D) (st1:Store) (Q:D->Store->Prop):Prop:=∃ i c fs b,d=.ref i/\st1[i]?=some (.exc c fs)/\n5 c=some b/\Q (.bl b) st1
theorem kc {x:Str} {b:Bool} {i:Nat} {fs:List (Str×D)} {st:Store} {Q:D->Store->Prop} (hi:st[i]?=some (.exc x fs)) (q:Q (.bl b) st):wa (iT x b) (.ref i) st Q:=⟨i,x,fs,b,rfl,hi,by unfold iT;rw [if_pos rfl],q⟩
theorem AV {f:ah->Dm D} {δ:ah} {st:Store} {n5:Str->Option Bool} {Q:D->Store->Prop}:Wp (jg n5 f δ st) Q↔Wp (f δ st) fun d st1=>wa n5 d st1 Q:=by
 constructor
 ·rintro ⟨d,st',e,q⟩
  obtain ⟨x,st1,e1,e⟩:=cj e
  refine ⟨x,st1,e1,?_⟩
  split at e
  ·split at e
   ·next c fs hj =>
    split at e
    ·next b hb=>cases e;exact ⟨_,c,fs,b,rfl,hj,hb,q⟩
    ·cases e
   ·cases e
  ·cases e
 ·rintro ⟨x,st1,e1,i,c,fs,b,rfl,hj,hb,q⟩
  refine ⟨.bl b,st1,?_,q⟩
  unfold jg
  rw [e1]
  simp [bnd,hj,hb]
end
section
variable {st:Store} {δ:ah} {N B C:ah->Store->Prop} {R:D->Store->Prop} {f g:ah->Dm Fl}
theorem AW (h:Ws (f δ st) N B C (fun d s=>aN d s=false/\R d s)):Ws (tM f δ st) N B C R:=by
 obtain ⟨fl,s1,e,q⟩:=h
 unfold tM
 rw [e]
 cases fl with
 | rt d=>refine ⟨.rt d,s1,?_,q.2⟩;simp [bnd,q.1]
 | nx δ1=>exact ⟨.nx δ1,s1,rfl,q⟩
 | bk δ1=>exact ⟨.bk δ1,s1,rfl,q⟩
 | ct δ1=>exact ⟨.ct δ1,s1,rfl,q⟩
theorem HM {c:Str} (h:R (.ref st.length) (st ++ [.exc c []])):Ws (jS c δ st) N B C R:=bh.mpr h
theorem sC {sub:Str->Bool} {i:Nat} {fs:ah->Dm Fl} (h:Ws (f δ st) N B C (fun d s=>(aN d s=false->R d s)/\(aN d s=true->catches sub d s=true/\Ws (fs (δ.set i (some d)) s) (fun δ2 s2=>N (δ2.set i none) s2) (fun _ _=>False) (fun _ _=>False) R))) :
  Ws (n4 f sub i fs δ st) N B C R:=by
 obtain ⟨fl,s1,e,q⟩:=h
 unfold n4
 rw [e]
 cases fl with
 | rt d =>
  cases hr:aN d s1 with
  | false=>refine ⟨.rt d,s1,?_,q.1 hr⟩;simp [bnd,hr]
  | true =>
   obtain ⟨hc,AU,s2,e2,q2⟩:=q.2 hr
   cases AU with
   | rt x=>refine ⟨.rt x,s2,?_,q2⟩;simp [bnd,hr,hc,e2]
   | nx δ1=>refine ⟨.nx (δ1.set i none),s2,?_,q2⟩;simp [bnd,hr,hc,e2]
   | bk δ1=>exact q2.elim
   | ct δ1=>exact q2.elim
 | nx δ1=>exact ⟨.nx δ1,s1,rfl,q⟩
 | bk δ1=>exact ⟨.bk δ1,s1,rfl,q⟩
 | ct δ1=>exact ⟨.ct δ1,s1,rfl,q⟩
end
end L4
namespace L4
open PySem PySem.Spec L2
section
variable {K:PySem.W.Frag}
end
end L4
namespace L4
open PySem PySem.Spec L2
section
variable {K:PySem.W.Frag} {ρ ρ':List Addr} {H H' H2:Hp} {st st':Store} {a:Addr}
def jT (F:List D->Dm D) (fa:ah->Dm (List D)):ah->Dm Fl:=fun δ st=>bnd (fa δ st) fun as st1=>bnd (F as st1) fun b st2=>if aN b st2=true then some (.rt b,st2) else some (.nx δ,st2)
end
section
variable {st:Store} {δ:ah} {N B C:ah->Store->Prop} {R:D->Store->Prop}
theorem HN {F:List D->Dm D} {fa:ah->Dm (List D)} (h:Wp (fa δ st) fun as s1=>Wp (F as s1) fun b s2=>(aN b s2=true->R b s2)/\(aN b s2=false->N δ s2)):Ws (jT F fa δ st) N B C R:=by
 obtain ⟨as,s1,e,b,s2,e2,q⟩:=h
 unfold jT
 rw [e]
 cases hr:aN b s2 with
 | true=>refine ⟨.rt b,s2,?_,q.1 hr⟩;simp [bnd,e2,hr]
 | false=>refine ⟨.nx δ,s2,?_,q.2 hr⟩;simp [bnd,e2,hr]
end
section
variable {K:PySem.W.Frag}
def jU (g g':D->D->Dm D) (fa fb fc:ah->Dm D):ah->Dm D:=fun δ st=>bnd (fa δ st) fun a st1=>bnd (fb δ st1) fun b st2=>bnd (g a b st2) fun z st3=>match z with
 | .bl true=>bnd (fc δ st3) fun c jV=>g' b c jV
 | .bl false=>some (.bl false,st3)
 | _=>none
theorem HP {r r':R2} {g g':D->D->Dm D} {ta tb tc:TE} {fa fb fc:ah->Dm D} (hr:iI K r g) (hr':iI K r' g') (ha:dQ K ta fa) (hb:dQ K tb fb) (hc:dQ K tc fc):dQ K (l8 r r' ta tb tc) (jU g g' fa fb fc):=by
 intro ρ σ H δ st v st' Q l rs e q
 obtain ⟨a,st1,e1,e⟩:=cj e
 obtain ⟨b,st2,e2,e⟩:=cj e
 obtain ⟨z,st3,e3,e⟩:=cj e
 refine ha ρ σ H δ st a st1 _ l rs e1 fun x H1 ρ1 m1 l1 r1=>hb ρ1 σ H1 δ st1 b st2 _ l1 (rs.mn m1) e2 fun y H2 ρ2 m2 l2 r2=>?_
 refine hr ρ2 H2 st2 x y a b z st3 _ l2 (r1.mn m2) r2 e3 fun w H3 ρ3 m3 l3 r3=>?_
 split at e
 ·obtain ⟨c,jV,e4,e⟩:=cj e
  cases r3
  refine ⟨true,rfl,?_⟩
  rw [if_pos rfl]
  refine hc ρ3 σ H3 δ st3 c jV _ l3 (rs.mn ((m1.trans m2).trans m3)) e4 fun u H4 ρ4 m4 l4 r4=>?_
  exact hr' ρ4 H4 jV y u b c v st' Q l4 (r2.mn (m3.trans m4)) r4 e fun v' H5 ρ5 m5 l5 r5=>q v' H5 ρ5 ((((m1.trans m2).trans m3).trans m4).trans m5) l5 r5
 ·cases e
  cases r3
  refine ⟨false,rfl,?_⟩
  rw [if_neg Bool.false_ne_true]
  exact q _ H3 ρ3 ((m1.trans m2).trans m3) l3 (.bl _)
 ·cases e
theorem Dy {g g':D->D->Dm D} {fa fb fc:ah->Dm D} {δ:ah} {st:Store} {Q:D->Store->Prop}:Wp (jU g g' fa fb fc δ st) Q↔Wp (fa δ st) fun a st1=>Wp (fb δ st1) fun b st2=>Wp (g a b st2) fun z st3=>(z=.bl true/\Wp (fc δ st3) fun c jV=>Wp (g' b c jV) Q)\/(z=.bl false/\Q (.bl false) st3):=by
 unfold jU
 rw [cW]
 constructor
 ·rintro ⟨a,st1,e1,b,st2,e2,h⟩
  obtain ⟨b',AX,qz,h'⟩:=cj e2
  obtain ⟨z,st3,e3,h''⟩:=cj h'
  refine ⟨a,st1,e1,b',AX,qz,z,st3,e3,?_⟩
  split at h''
  ·obtain ⟨c,jV,e4,e5⟩:=cj h''
   exact .inl ⟨rfl,c,jV,e4,b,st2,e5,h⟩
  ·cases h'';exact .inr ⟨rfl,h⟩
  ·cases h''
 ·rintro ⟨a,st1,e1,b,st2,e2,z,st3,e3,⟨rfl,c,jV,e4,v,jw,e5,h⟩ | ⟨rfl,h⟩⟩
  ·refine ⟨a,st1,e1,v,jw,?_,h⟩
   simp [bnd,e2,e3,e4,e5]
  ·refine ⟨a,st1,e1,.bl false,st3,?_,h⟩
   simp [bnd,e2,e3]
end
end L4
namespace L4
open PySem PySem.Spec L2
section
variable {K:PySem.W.Frag} {ρ:List Addr} {H:Hp} {st:Store}
end
section
variable {st:Store} {δ:ah} {Q:D->Store->Prop}
end
end L4
namespace L4
open PySem PySem.Spec L2
section
variable {K:PySem.W.Frag}
def gM:D->D->Dm D:=nH (fun i j=>decide (j≠0/\j.natAbs.log2 < 9000)) fun i j=>.int (i.fdiv j)
theorem yo:iI K (rI oS fun i j=>.int (i.fdiv j)) gM:=tu (fun i j h=>of_decide_eq_true (p:=j≠0/\j.natAbs.log2 < 9000) h) fun _ _ _ _=>.int _
end
section
variable {st:Store} {Q:D->Store->Prop}
theorem AY {i j:Int}:Wp (gM (.int i) (.int j) st) Q↔(j≠0/\j.natAbs.log2 < 9000)/\Q (.int (i.fdiv j)) st:=by unfold gM;rw [tK,decide_eq_true_eq]
end
end L4
namespace L4
open PySem PySem.Spec L2
def bJ (i j:Int):Bool:=(decide (-18446744073709551616 < i/\i < 18446744073709551616) || decide (-18446744073709551616 < j/\j < 18446744073709551616)) || (decide (Builtin.Int.intBits i<=60000000) && decide (Builtin.Int.intBits j<=60000000))
def bw:D->D->Dm D:=nH bJ fun i j=>.int (i * j)
section
variable {K:PySem.W.Frag}
theorem iA:iI K (rI kX fun i j=>.int (i * j)) bw:=tu (fun i j h=>by
 unfold bJ at h
 rw [Bool.or_eq_true,Bool.or_eq_true,Bool.and_eq_true,decide_eq_true_eq,decide_eq_true_eq,decide_eq_true_eq,decide_eq_true_eq] at h
 exact h) fun _ _ _ _=>.int _
end
section
variable {st:Store} {Q:D->Store->Prop}
theorem pC {i j:Int}:Wp (bw (.int i) (.int j) st) Q↔bJ i j=true/\Q (.int (i * j)) st:=by
 unfold bw;rw [tK]
theorem yp {i j:Int} (h:i.natAbs < 18446744073709551616):bJ i j=true:=by
 unfold bJ
 rw [decide_eq_true (show -18446744073709551616 < i/\i < 18446744073709551616 by omega)]
 rfl
theorem yq {i j:Int} {k:Nat} (hk:k<=60000000) (h:i.natAbs < P2 k) (h2:j.natAbs < P2 k):bJ i j=true:=by
 replace h:=oU h hk
 replace h2:=oU h2 hk
 unfold bJ
 rw [decide_eq_true h,decide_eq_true h2]
 simp
end
end L4
namespace L2
open PySem PySem.Spec
theorem yr {P:Program} {w:World} {X:Cx}:Passes (mj P w) X E0:=by
 rintro pins σ H s e s' I ⟨a,C,dx,H',rfl,os,bare,un,hok,x,h⟩
 exact (h H' (XS.refl x)).elim
end L2
namespace L4
open PySem PySem.Spec L2
def pD (F:List D->Dm D):List D->Dm D:=fun as st=>bnd (F as st) fun b st2=>if aN b st2=true then none else some (b,st2)
section
variable {K:PySem.W.Frag}
theorem yt {n:Nat} {F:List D->Dm D} {ta:TA} {fa:ah->Dm (List D)} (ha:lA K ta fa) (hn:∀ δ st as st',fa δ st=some (as,st')->as.length=n):dQ K (ma (tN K n F) [] E0 ta) (bF (pD F) fa):=by
 intro ρ σ H δ st b st' Q l rs e q
 obtain ⟨as,st1,e1,e⟩:=cj e
 obtain ⟨c,st2,e2,e⟩:=cj e
 by_cases hr:aN c st2=true
 ·rw [if_pos hr] at e;cases e
 ·rw [if_neg hr] at e
  cases e
  refine ha ρ σ H δ st as st1 _ l rs e1 fun vs H1 ρ1 m1 l1 r1=>⟨?_,ρ1,st1,as,b,st',l1,?_,e2,fun h=>absurd h hr,fun _ v H3 ρ3 m3 l3 r3=>?_⟩
  ·rw [List.append_nil,r1.length];exact hn _ _ _ _ e1
  ·rw [List.append_nil];exact r1
  ·exact q v H3 ρ3 (m1.trans m3) l3 r3
theorem HQ {n:Nat} {F:List D->Dm D} {ta:TA} {fa:ah->Dm (List D)} (ha:lA K ta fa) (hn:∀ δ st as st',fa δ st=some (as,st')->as.length=n):Dx K (fun W=>lV (mq (tN K n F) W ta)) (jT F fa):=by
 intro ρ σ H δ st fl st' E W l rs e q
 obtain ⟨as,st1,e1,e⟩:=cj e
 obtain ⟨b,st2,e2,e⟩:=cj e
 refine ha ρ σ H δ st as st1 _ l rs e1 fun vs H1 ρ1 m1 l1 r1=>⟨by rw [r1.length];exact hn _ _ _ _ e1,ρ1,st1,as,b,st2,l1,r1,e2,fun hr a H3 ρ3 m3 l3 r3=>?_,fun hr v H3 ρ3 m3 l3 r3=>?_⟩
 ·rw [if_pos hr] at e
  cases e
  exact ⟨a,rfl,q.1 hr a H3 ρ3 (m1.trans m3) l3 r3⟩
 ·rw [hr,if_neg Bool.false_ne_true] at e
  cases e
  exact q σ H3 ρ3 (m1.trans m3) l3 (rs.mn (m1.trans m3))
end
section
variable {st:Store} {Q:D->Store->Prop}
theorem sD {F:List D->Dm D} {as:List D}:Wp (pD F as st) Q↔Wp (F as st) fun b st2=>aN b st2=false/\Q b st2:=by
 unfold pD
 rw [cW]
 constructor
 ·rintro ⟨b,st2,e,h⟩
  refine ⟨b,st2,e,?_⟩
  by_cases hr:aN b st2=true
  ·rw [if_pos hr] at h;exact (dw.mp h).elim
  ·rw [if_neg hr,bh] at h;exact ⟨by simpa using hr,h⟩
 ·rintro ⟨b,st2,e,hr,h⟩
  refine ⟨b,st2,e,?_⟩
  show Wp (if aN b st2=true then none else some (b,st2)) Q
  rw [hr,if_neg Bool.false_ne_true,bh];exact h
end
end L4
namespace My
local macro_rules | `(tactic| kspl_open $h)=>`(tactic| (refine L4.fH ?_;intro _ $h;set_option simprocs false in simp only [L4.di]))
local macro_rules | `(tactic| w_how)=>`(tactic| set_option simprocs false in simp only [L4.di])
open PySem L2 L4
def top (i:Nat):Stmt:=PySem.Challenge.pw_shearfloor_k17_tables_written_as_words.main.body.getD i (.Pass ⟨0,0,0,0⟩)
structure Txt (mg:Str->Option Value):Prop where
 jW:mg "ValueError" = none
 wb:mg "all" = none
 sE:mg "bool" = none
 lq:mg "int" = none
 aQ:mg "isinstance" = none
 hU:mg "len" = none
 sF:mg "list" = none
 wc:mg "max" = none
 gn:mg "range" = none
 kL:mg "reversed" = none
 hV:mg "tuple" = none
structure XF (K:PySem.W.Frag) (mg:Str->Option Value) (ay aD a9 bA b6 bf bB bg:Addr):Prop where
 jC:mg "NoTable" = some (.ref ay)
 jX:mg "FloorError" = some (.ref aD)
 lH:mg "NoFloor" = some (.ref a9)
 mG:mg "NoName" = some (.ref bA)
 n6:mg "NoRow" = some (.ref b6)
 lI:mg "NoSlope" = some (.ref bf)
 mH:mg "NoText" = some (.ref bB)
 lJ:mg "TooMany" = some (.ref bg)
 aW:PySem.W.nsIn K mainGlobals "NoTable" = some (some (.ref ay))
 cI:PySem.W.nsIn K mainGlobals "FloorError" = some (some (.ref aD))
 eG:PySem.W.nsIn K mainGlobals "NoFloor" = some (some (.ref a9))
 fS:PySem.W.nsIn K mainGlobals "NoName" = some (some (.ref bA))
 hW:PySem.W.nsIn K mainGlobals "NoRow" = some (some (.ref b6))
 eH:PySem.W.nsIn K mainGlobals "NoSlope" = some (some (.ref bf))
 fT:PySem.W.nsIn K mainGlobals "NoText" = some (some (.ref bB))
 eI:PySem.W.nsIn K mainGlobals "TooMany" = some (some (.ref bg))
 cJ:PySem.W.excIn K aD ym "ValueError.__new__" = true
 eJ:PySem.W.excIn K ay ym "ValueError.__new__" = true
 cK:PySem.W.mroIn K ay (.ref aD)=some true
 k0:PySem.W.kitOne K (.ref ay) (.ref bf)=some false
 k1:PySem.W.kitOne K (.ref ay) (.ref ay)=some true
 k2:PySem.W.kitOne K (.ref ay) (.ref a9)=some false
 k3:PySem.W.kitOne K (.ref ay) (.ref bB)=some false
 k4:PySem.W.kitOne K (.ref ay) (.ref b6)=some false
 k5:PySem.W.kitOne K (.ref ay) (.ref bA)=some false
 k6:PySem.W.kitOne K (.ref ay) (.ref bg)=some false
 k7:PySem.W.kitOne K (.ref ay) (.type "ValueError")=some true
 bP:j7 K ay
theorem wd {K:PySem.W.Frag} {mg:Str->Option Value} {h:Heap} {ay aD a9 bA b6 bf bB bg:Addr} (KX:K.In h) (G:h.Ns mainGlobals mg) (aW:PySem.W.nsIn K mainGlobals "NoTable" = some (some (.ref ay))) (cI:PySem.W.nsIn K mainGlobals "FloorError" = some (some (.ref aD))) (eG:PySem.W.nsIn K mainGlobals "NoFloor" = some (some (.ref a9))) (fS:PySem.W.nsIn K mainGlobals "NoName" = some (some (.ref bA))) (hW:PySem.W.nsIn K mainGlobals "NoRow" = some (some (.ref b6))) (eH:PySem.W.nsIn K mainGlobals "NoSlope" = some (some (.ref bf))) (fT:PySem.W.nsIn K mainGlobals "NoText" = some (some (.ref bB))) (eI:PySem.W.nsIn K mainGlobals "TooMany" = some (some (.ref bg))) (cJ:PySem.W.excIn K aD ym "ValueError.__new__" = true) (eJ:PySem.W.excIn K ay ym "ValueError.__new__" = true) (cK:PySem.W.mroIn K ay (.ref aD)=some true) (k0:PySem.W.kitOne K (.ref ay) (.ref bf)=some false) (k1:PySem.W.kitOne K (.ref ay) (.ref ay)=some true) (k2:PySem.W.kitOne K (.ref ay) (.ref a9)=some false) (k3:PySem.W.kitOne K (.ref ay) (.ref bB)=some false) (k4:PySem.W.kitOne K (.ref ay) (.ref b6)=some false) (k5:PySem.W.kitOne K (.ref ay) (.ref bA)=some false) (k6:PySem.W.kitOne K (.ref ay) (.ref bg)=some false) (k7:PySem.W.kitOne K (.ref ay) (.type "ValueError")=some true) (bP:j7 K ay):XF K mg ay aD a9 bA b6 bf bB bg :=
 ⟨PySem.W.mg_of KX G aW,PySem.W.mg_of KX G cI,PySem.W.mg_of KX G eG,PySem.W.mg_of KX G fS,PySem.W.mg_of KX G hW,PySem.W.mg_of KX G eH,PySem.W.mg_of KX G fT,PySem.W.mg_of KX G eI,aW,cI,eG,fS,hW,eH,fT,eI,cJ,eJ,cK,k0,k1,k2,k3,k4,k5,k6,k7,bP⟩
section
variable {P:Program} {w:World} {K:PySem.W.Frag} {mg:Str->Option Value} {base:Heap}
def yu:ah->Dm Fl :=
 (aM (a6 (av cF (av iu (fC (.int 7901)) (af 1)) (fC (.int 24697))) (hName 2))
 (aM (ie (aL (av vn (af 1) (bF iQ (ae (af 0) aj)))) (a6 (av dR (af 0) (af 1)) (hName 2)) (ie (aL (av tw (bF iQ (ae (af 0) aj)) (fC (.int 0)))) (a6 (av cF (av iu (av iP (av dR (af 0) (av iP (af 1) (bF iQ (ae (af 0) aj)))) (fC (.int 2147483629))) (fC (.int 31))) (av iu (fC (.int 7901)) (af 1))) (hName 2)) cf))
 (aM (a6 (fC (.int 0)) (hName 3))
 (aM (ie (aL (av Al (af 2) (av mx (fC (.int 10)) (fC (.int 18))))) (a6 (af 2) (hName 3)) cf)
 (br (eP (ae (af 3) (ae (av cF (av iP (av mx (av cF (av iu (av iP (af 2) (fC (.int 2147483629))) (fC (.int 48271))) (av iu (fC (.int 40692)) (af 1))) (fC (.int 5))) (fC (.int 2147483629))) (fC (.int 1))) aj))))))))
def wg:List D->Dm D:=gG 4 yu
def wj:Stmt:=top 30
theorem tO:aI ["_law_script","_law_k","_law_cell","_law_own"] ["_law_script","_law_k"] (ax wj):=⟨rfl,rfl,rfl,by decide +kernel,rfl,by decide +kernel,by decide +kernel⟩
theorem HR {f:Addr} {fd:FuncData} (D:Def K mg "_law_feed" wj ["_law_script","_law_k"] f fd) (T:Txt mg)  :aH P w K mg base bZ 1 f fd ["_law_script","_law_k"] (cc K 2 wg):=by
 refine D.F.ok tO (fun vs H Q E h=>h.1) (fun cdv A outer s H vs Q E hr h=>?_)
 have hu:=hr.units
 have hu1:=ib hr
 refine ⟨_,(@b9 _ _ _ _ _ (@eA (i:=2) _ _ _ _ _ _ tO.nd rfl (by first | exact Or.inl rfl | exact Or.inr rfl) (aR ia (aR mM az (pv 1)) az) (by rfl) (by first | exact .inl rfl | exact .inr rfl | assumption))
  (@b9 _ _ _ _ _ (@i6 _ _ _ _ _ _ _ _ (g7 zy (pv 1) (i9 nt (by rfl) T.hU nu (@ai _ _ _ _ _ (pv 0) aE (by rfl))) (aK _)) (@ck _ _ _ (@eA (i:=2) _ _ _ _ _ _ tO.nd rfl (by first | exact Or.inl rfl | exact Or.inr rfl) (@bR _ _ _ _ _ _ _ j6 (pv 0) (pv 1) (fun _ _=>rfl)) (by rfl) (by first | exact .inl rfl | exact .inr rfl | assumption))) (@ck _ _ _ (@i6 _ _ _ _ _ _ _ _ (g7 xy (i9 nt (by rfl) T.hU nu (@ai _ _ _ _ _ (pv 0) aE (by rfl))) az (aK _)) (@ck _ _ _ (@eA (i:=2) _ _ _ _ _ _ tO.nd rfl (by first | exact Or.inl rfl | exact Or.inr rfl) (aR ia (aR mM (aR nh (@bR _ _ _ _ _ _ _ j6 (pv 0) (aR nh (pv 1) (i9 nt (by rfl) T.hU nu (@ai _ _ _ _ _ (pv 0) aE (by rfl)))) (fun _ _=>rfl)) az) az) (aR mM az (pv 1))) (by rfl) (by first | exact .inl rfl | exact .inr rfl | assumption))) jv)))
  (@b9 _ _ _ _ _ (@eA (i:=3) _ _ _ _ _ _ tO.nd rfl (by first | exact Or.inl rfl | exact Or.inr rfl) az (by rfl) (by first | exact .inl rfl | exact .inr rfl | assumption))
  (@b9 _ _ _ _ _ (@i6 _ _ _ _ _ _ _ _ (g7 uD (pv 2) (aR Bv az az) (aK _)) (@ck _ _ _ (@eA (i:=3) _ _ _ _ _ _ tO.nd rfl (by first | exact Or.inl rfl | exact Or.inr rfl) (pv 2) (by rfl) (by first | exact .inl rfl | exact .inr rfl | assumption))) jv)
  (@ck _ _ _ (@dS _ _ _ _ (@kq _ _ _ _ (@ai _ _ _ _ _ (pv 3) (@ai _ _ _ _ _ (aR ia (aR nh (aR Bv (aR ia (aR mM (aR nh (pv 2) az) az) (aR mM az (pv 1))) az) az) az) aE (by rfl)) (by rfl))))))))),?_⟩
 exact iz (b:=yu) (cg (dr (aw ig (aw mQ (aA _) (aq 1)) (aA _)) (bG 2))
  (cg (jm (gK (aw Am (aq 1) (jl nK (ao (aq 0) aG)))) (dr (aw jJ (aq 0) (aq 1)) (bG 2)) (jm (gK (aw xZ (jl nK (ao (aq 0) aG)) (aA _))) (dr (aw ig (aw mQ (aw nI (aw jJ (aq 0) (aw nI (aq 1) (jl nK (ao (aq 0) aG)))) (aA _)) (aA _)) (aw mQ (aA _) (aq 1))) (bG 2)) jB))
  (cg (dr (aA _) (bG 3))
  (cg (jm (gK (aw vo (aq 2) (aw CU (aA _) (aA _)))) (dr (aq 2) (bG 3)) jB)
  (dU (kr (ao (aq 3) (ao (aw ig (aw nI (aw CU (aw ig (aw mQ (aw nI (aq 2) (aA _)) (aA _)) (aw mQ (aA _) (aq 1))) (aA _)) (aA _)) (aA _)) aG)))))))) rfl h
def yw:ah->Dm Fl :=
 (aM (ie (aL (av tw (av dR (af 0) (fC (.int 0))) (fC (.int 0)))) (aM (a6 (av iP (av dR (af 0) (fC (.int 0))) (af 1)) (hName 2))
 (aM (a6 (av j8 (av dR (af 0) (fC (.int 0))) (af 1)) (hSub (af 0) (fC (.int 0))))
 (br (af 2)))) cf)
 (aM (a6 (av iP (av iu (av dR (af 0) (fC (.int 1))) (fC (.int 48271))) (fC (.int 2147483647))) (hName 3))
 (aM (a6 (av cF (av iP (av cF (av iu (af 3) (fC (.int 40692))) (fC (.int 30103))) (fC (.int 2147483399))) (fC (.int 1))) (hSub (af 0) (fC (.int 1))))
 (br (av iP (av j8 (av cF (av iu (af 3) (fC (.int 2147483647))) (av dR (af 0) (fC (.int 1)))) (fC (.int 8191))) (af 1))))))
def fE:List D->Dm D:=gG 4 yw
def pE:Stmt:=top 31
theorem AZ:aI ["_law_feed_here","_law_many","_law_digit","_law_one"] ["_law_feed_here","_law_many"] (ax pE):=⟨rfl,rfl,rfl,by decide +kernel,rfl,by decide +kernel,by decide +kernel⟩
theorem HS {f:Addr} {fd:FuncData} (D:Def K mg "_law_take" pE ["_law_feed_here","_law_many"] f fd) (T:Txt mg)  :aH P w K mg base bZ 1 f fd ["_law_feed_here","_law_many"] (cc K 2 fE):=by
 refine D.F.ok AZ (fun vs H Q E h=>h.1) (fun cdv A outer s H vs Q E hr h=>?_)
 have hu:=hr.units
 have hu1:=ib hr
 refine ⟨_,(@b9 _ _ _ _ _ (@i6 _ _ _ _ _ _ _ _ (g7 xy (@bR _ _ _ _ _ _ _ j6 (pv 0) az (fun _ _=>rfl)) az (aK _)) (@b9 _ _ _ _ _ (@eA (i:=2) _ _ _ _ _ _ AZ.nd rfl (by first | exact Or.inl rfl | exact Or.inr rfl) (aR nh (@bR _ _ _ _ _ _ _ j6 (pv 0) az (fun _ _=>rfl)) (pv 1)) (by rfl) (by first | exact .inl rfl | exact .inr rfl | assumption))
  (@b9 _ _ _ _ _ (oz (aR Bu (@bR _ _ _ _ _ _ _ j6 (pv 0) az (fun _ _=>rfl)) (pv 1)) (Bo (pv 0) az BS))
  (@ck _ _ _ (@dS _ _ _ _ (pv 2))))) jv)
  (@b9 _ _ _ _ _ (@eA (i:=3) _ _ _ _ _ _ AZ.nd rfl (by first | exact Or.inl rfl | exact Or.inr rfl) (aR nh (aR mM (@bR _ _ _ _ _ _ _ j6 (pv 0) az (fun _ _=>rfl)) az) az) (by rfl) (by first | exact .inl rfl | exact .inr rfl | assumption))
  (@b9 _ _ _ _ _ (oz (aR ia (aR nh (aR ia (aR mM (pv 3) az) az) az) az) (Bo (pv 0) az BS))
  (@ck _ _ _ (@dS _ _ _ _ (aR nh (aR Bu (aR ia (aR mM (pv 3) az) (@bR _ _ _ _ _ _ _ j6 (pv 0) az (fun _ _=>rfl))) az) (pv 1))))))),?_⟩
 exact iz (b:=yw) (cg (jm (gK (aw xZ (aw jJ (aq 0) (aA _)) (aA _))) (cg (dr (aw nI (aw jJ (aq 0) (aA _)) (aq 1)) (bG 2))
  (cg (dr (aw CT (aw jJ (aq 0) (aA _)) (aq 1)) (CZ (aq 0) (aA _)))
  (dU (aq 2)))) jB)
  (cg (dr (aw nI (aw mQ (aw jJ (aq 0) (aA _)) (aA _)) (aA _)) (bG 3))
  (cg (dr (aw ig (aw nI (aw ig (aw mQ (aq 3) (aA _)) (aA _)) (aA _)) (aA _)) (CZ (aq 0) (aA _)))
  (dU (aw nI (aw CT (aw ig (aw mQ (aq 3) (aA _)) (aw jJ (aq 0) (aA _))) (aA _)) (aq 1)))))) rfl h
def yx:ah->Dm Fl :=
 (aM (a6 (af 0) (iy 4 (aZ (hName 2) (aZ (hName 3) (aZ (hName 4) (aZ (hName 5) iR))))))
 (aM (a6 (af 1) (iy 4 (aZ (hName 6) (aZ (hName 7) (aZ (hName 8) (aZ (hName 9) iR))))))
 (br (aV (ae (av cF (av bw (af 2) (af 6)) (av bw (af 3) (af 8))) (ae (av cF (av bw (af 2) (af 7)) (av bw (af 3) (af 9))) (ae (av cF (av bw (af 4) (af 6)) (av bw (af 5) (af 8))) (ae (av cF (av bw (af 4) (af 7)) (av bw (af 5) (af 9))) aj))))))))
def wk:List D->Dm D:=gG 10 yx
def wm:Stmt:=top 33
theorem n8:aI ["_law_one","_law_other","_law_a","_law_b","_law_c","_law_d","_law_e","_law_f","_law_g","_law_h"] ["_law_one","_law_other"] (ax wm):=⟨rfl,rfl,rfl,by decide +kernel,rfl,by decide +kernel,by decide +kernel⟩
theorem HU {f:Addr} {fd:FuncData} (D:Def K mg "_law_times" wm ["_law_one","_law_other"] f fd) (T:Txt mg)  :aH P w K mg base bZ 1 f fd ["_law_one","_law_other"] (cc K 2 wk):=by
 refine D.F.ok n8 (fun vs H Q E h=>h.1) (fun cdv A outer s H vs Q E hr h=>?_)
 have hu:=hr.units
 have hu1:=ib hr
 refine ⟨_,(@b9 _ _ _ _ _ (oz (pv 0) (m9 (n:=4) rfl (gD (ek (i:=2) n8.nd rfl (by first | exact Or.inl rfl | exact Or.inr rfl)) (gD (ek (i:=3) n8.nd rfl (by first | exact Or.inl rfl | exact Or.inr rfl)) (gD (ek (i:=4) n8.nd rfl (by first | exact Or.inl rfl | exact Or.inr rfl)) (gD (ek (i:=5) n8.nd rfl (by first | exact Or.inl rfl | exact Or.inr rfl)) m8))))))
  (@b9 _ _ _ _ _ (oz (pv 1) (m9 (n:=4) rfl (gD (ek (i:=6) n8.nd rfl (by first | exact Or.inl rfl | exact Or.inr rfl)) (gD (ek (i:=7) n8.nd rfl (by first | exact Or.inl rfl | exact Or.inr rfl)) (gD (ek (i:=8) n8.nd rfl (by first | exact Or.inl rfl | exact Or.inr rfl)) (gD (ek (i:=9) n8.nd rfl (by first | exact Or.inl rfl | exact Or.inr rfl)) m8))))))
  (@ck _ _ _ (@dS _ _ _ _ (@de _ _ _ _ _ (@ai _ _ _ _ _ (aR ia (aR iq (pv 2) (pv 6)) (aR iq (pv 3) (pv 8))) (@ai _ _ _ _ _ (aR ia (aR iq (pv 2) (pv 7)) (aR iq (pv 3) (pv 9))) (@ai _ _ _ _ _ (aR ia (aR iq (pv 4) (pv 6)) (aR iq (pv 5) (pv 8))) (@ai _ _ _ _ _ (aR ia (aR iq (pv 4) (pv 7)) (aR iq (pv 5) (pv 9))) aE (by rfl)) (by rfl)) (by rfl)) (by rfl))))))),?_⟩
 exact iz (b:=yx) (cg (dr (aq 0) (nR (gF (bG 2) (gF (bG 3) (gF (bG 4) (gF (bG 5) nQ))))))
  (cg (dr (aq 1) (nR (gF (bG 6) (gF (bG 7) (gF (bG 8) (gF (bG 9) nQ))))))
  (dU (df (ao (aw ig (aw iA (aq 2) (aq 6)) (aw iA (aq 3) (aq 8))) (ao (aw ig (aw iA (aq 2) (aq 7)) (aw iA (aq 3) (aq 9))) (ao (aw ig (aw iA (aq 4) (aq 6)) (aw iA (aq 5) (aq 8))) (ao (aw ig (aw iA (aq 4) (aq 7)) (aw iA (aq 5) (aq 9))) aG)))))))) rfl h
def yy:ah->Dm Fl :=
 (aM (a6 (aV (ae (fC (.int 1)) (ae (fC (.int 0)) (ae (fC (.int 0)) (ae (fC (.int 1)) aj))))) (hName 1))
 (aM (jf (hJ (af 0)) (iy 2 (aZ (hName 2) (aZ (hName 3) iR))) (jf (eQ (ae (av dR (eP (ae (fC (.int 1)) (ae (af 3) aj))) (bF je (ae (av (gY false) (af 2) (fC (.str "t"))) aj))) aj)) (hName 4) (a6 (bF wk (ae (av dR (eP (ae (aV (ae (fC (.int 1)) (ae (af 3) (ae (fC (.int 0)) (ae (fC (.int 1)) aj))))) (ae (aV (ae (fC (.int 0)) (ae (mw jr (fC (.int 1))) (ae (fC (.int 1)) (ae (fC (.int 0)) aj))))) aj))) (bF je (ae (av (gY false) (af 2) (fC (.str "t"))) aj))) (ae (af 1) aj))) (hName 1))))
 (br (af 1))))
def lK:List D->Dm D:=gG 5 yy
def tP:Stmt:=top 34
theorem tQ:aI ["_law_word_here","_law_found","_law_letter","_law_k","_law_turn"] ["_law_word_here"] (ax tP):=⟨rfl,rfl,rfl,by decide +kernel,rfl,by decide +kernel,by decide +kernel⟩
theorem HV {f:Addr} {fd:FuncData} (D:Def K mg "_law_table" tP ["_law_word_here"] f fd) (T:Txt mg)  {dX:Addr} {dY:FuncData} (cy:Def K mg "_law_times" wm ["_law_one","_law_other"] dX dY) (fU:aH P w K mg base bZ 1 dX dY ["_law_one","_law_other"] (cc K 2 wk)):aH P w K mg base bZ 2 f fd ["_law_word_here"] (cc K 1 lK):=by
 refine D.F.ok tQ (fun vs H Q E h=>h.1) (fun cdv A outer s H vs Q E hr h=>?_)
 have hu:=hr.units
 have hu1:=ib hr
 refine ⟨_,(@b9 _ _ _ _ _ (@eA (i:=1) _ _ _ _ _ _ tQ.nd rfl (by first | exact Or.inl rfl | exact Or.inr rfl) (@de _ _ _ _ _ (@ai _ _ _ _ _ az (@ai _ _ _ _ _ az (@ai _ _ _ _ _ az (@ai _ _ _ _ _ az aE (by rfl)) (by rfl)) (by rfl)) (by rfl))) (by rfl) (by first | exact .inl rfl | exact .inr rfl | assumption))
  (@b9 _ _ _ _ _ (@oC _ _ _ _ _ _ _ _ PassesOwn.never rfl (sU (pv 0)) (m9 (n:=2) rfl (gD (ek (i:=2) tQ.nd rfl (by first | exact Or.inl rfl | exact Or.inr rfl)) (gD (ek (i:=3) tQ.nd rfl (by first | exact Or.inl rfl | exact Or.inr rfl)) m8))) (@ck _ _ _ (@oC _ _ _ _ _ _ _ _ PassesOwn.never rfl (sW rfl T.gn (@ai _ _ _ _ _ (@bR _ _ _ _ _ _ _ j6 (@kq _ _ _ _ (@ai _ _ _ _ _ az (@ai _ _ _ _ _ (pv 3) aE (by rfl)) (by rfl))) (qf zz (by rfl) T.lq xG (@ai _ _ _ _ _ (mO jq (pv 2) ju (aK _)) aE (by rfl))) (fun _ _=>rfl)) aE (by rfl))) (ek (i:=4) tQ.nd rfl (by first | exact Or.inl rfl | exact Or.inr rfl)) (@ck _ _ _ (@eA (i:=1) _ _ _ _ _ _ tQ.nd rfl (by first | exact Or.inl rfl | exact Or.inr rfl) (cG fU (hr.mono (by decide)) rfl cy.m cy.F.kp cy.b .nil aF (@ai _ _ _ _ _ (@bR _ _ _ _ _ _ _ j6 (@kq _ _ _ _ (@ai _ _ _ _ _ (@de _ _ _ _ _ (@ai _ _ _ _ _ az (@ai _ _ _ _ _ (pv 3) (@ai _ _ _ _ _ az (@ai _ _ _ _ _ az aE (by rfl)) (by rfl)) (by rfl)) (by rfl))) (@ai _ _ _ _ _ (@de _ _ _ _ _ (@ai _ _ _ _ _ az (@ai _ _ _ _ _ (oD oE az) (@ai _ _ _ _ _ az (@ai _ _ _ _ _ az aE (by rfl)) (by rfl)) (by rfl)) (by rfl))) aE (by rfl)) (by rfl))) (qf zz (by rfl) T.lq xG (@ai _ _ _ _ _ (mO jq (pv 2) ju (aK _)) aE (by rfl))) (fun _ _=>rfl)) (@ai _ _ _ _ _ (pv 1) aE (by rfl)) (by rfl))) (by rfl) (by first | exact .inl rfl | exact .inr rfl | assumption))) (by intro _;rfl))) (by intro _;rfl))
  (@ck _ _ _ (@dS _ _ _ _ (pv 1))))),?_⟩
 exact iz (b:=yy) (cg (dr (df (ao (aA _) (ao (aA _) (ao (aA _) (ao (aA _) aG))))) (bG 1))
  (cg (pb (tH (aq 0)) (nR (gF (bG 2) (gF (bG 3) nQ))) (pb (tI (ao (aw jJ (kr (ao (aA _) (ao (aq 3) aG))) (jl As (ao (aw jt (aq 2) (jA _)) aG))) aG)) (bG 4) (dr (cU (F:=wk) (ao (aw jJ (kr (ao (df (ao (aA _) (ao (aq 3) (ao (aA _) (ao (aA _) aG))))) (ao (df (ao (aA _) (ao (oZ qS (aA _)) (ao (aA _) (ao (aA _) aG))))) aG))) (jl As (ao (aw jt (aq 2) (jA _)) aG))) (ao (aq 1) aG)) (bu (bu (fun _ _ _ _ h=>cE h)))) (bG 1))))
  (dU (aq 1)))) rfl h
def yz:ah->Dm Fl :=
 (aM (a6 (aV (ae (af 0) (ae (af 1) (ae (fC (.int 1)) (ae (fC (.int 0)) (ae (fC (.int 0)) (ae (fC (.int 1)) aj))))))) (iy 6 (aZ (hName 2) (aZ (hName 3) (aZ (hName 4) (aZ (hName 5) (aZ (hName 6) (aZ (hName 7) iR))))))))
 (aM (jN (aL (av (gY true) (af 3) (fC (.int 0)))) (aM (a6 (av gM (af 2) (af 3)) (hName 8))
 (aM (kJ 2 3 (ae (af 3) (ae (av bN (af 2) (av bw (af 8) (af 3))) aj)))
 (aM (kJ 4 6 (ae (af 6) (ae (av bN (af 4) (av bw (af 8) (af 6))) aj)))
 (kJ 5 7 (ae (af 7) (ae (av bN (af 5) (av bw (af 8) (af 7))) aj)))))))
 (br (aV (ae (av gM (af 0) (af 2)) (ae (av bN (fC (.int 0)) (af 5)) (ae (av gM (af 1) (af 2)) (ae (af 4) aj))))))))
def wo:List D->Dm D:=gG 9 yz
def wq:Stmt:=top 40
theorem mI:aI ["_law_a","_law_c","_law_one","_law_other","_law_x","_law_y","_law_u","_law_v","_law_q"] ["_law_a","_law_c"] (ax wq):=⟨rfl,rfl,rfl,by decide +kernel,rfl,by decide +kernel,by decide +kernel⟩
theorem HW {f:Addr} {fd:FuncData} (D:Def K mg "_law_of_column" wq ["_law_a","_law_c"] f fd) (T:Txt mg)  :aH P w K mg base bZ 1 f fd ["_law_a","_law_c"] (cc K 2 wo):=by
 refine D.F.ok mI (fun vs H Q E h=>h.1) (fun cdv A outer s H vs Q E hr h=>?_)
 have hu:=hr.units
 have hu1:=ib hr
 refine ⟨_,(@b9 _ _ _ _ _ (oz (@de _ _ _ _ _ (@ai _ _ _ _ _ (pv 0) (@ai _ _ _ _ _ (pv 1) (@ai _ _ _ _ _ az (@ai _ _ _ _ _ az (@ai _ _ _ _ _ az (@ai _ _ _ _ _ az aE (by rfl)) (by rfl)) (by rfl)) (by rfl)) (by rfl)) (by rfl))) (m9 (n:=6) rfl (gD (ek (i:=2) mI.nd rfl (by first | exact Or.inl rfl | exact Or.inr rfl)) (gD (ek (i:=3) mI.nd rfl (by first | exact Or.inl rfl | exact Or.inr rfl)) (gD (ek (i:=4) mI.nd rfl (by first | exact Or.inl rfl | exact Or.inr rfl)) (gD (ek (i:=5) mI.nd rfl (by first | exact Or.inl rfl | exact Or.inr rfl)) (gD (ek (i:=6) mI.nd rfl (by first | exact Or.inl rfl | exact Or.inr rfl)) (gD (ek (i:=7) mI.nd rfl (by first | exact Or.inl rfl | exact Or.inr rfl)) m8))))))))
  (@b9 _ _ _ _ _ (Bp PassesOwn.never (g7 zx (pv 3) az (aK _)) (@b9 _ _ _ _ _ (@eA (i:=8) _ _ _ _ _ _ mI.nd rfl (by first | exact Or.inl rfl | exact Or.inr rfl) (aR xO (pv 2) (pv 3)) (by rfl) (by first | exact .inl rfl | exact .inr rfl | assumption))
  (@b9 _ _ _ _ _ (xt (i:=2) (j:=3) rfl mI.nd rfl rfl (by decide) rfl rfl (@ai _ _ _ _ _ (pv 3) (@ai _ _ _ _ _ (aR fK (pv 2) (aR iq (pv 8) (pv 3))) aE (by rfl)) (by rfl)) rfl)
  (@b9 _ _ _ _ _ (xt (i:=4) (j:=6) rfl mI.nd rfl rfl (by decide) rfl rfl (@ai _ _ _ _ _ (pv 6) (@ai _ _ _ _ _ (aR fK (pv 4) (aR iq (pv 8) (pv 6))) aE (by rfl)) (by rfl)) rfl)
  (@ck _ _ _ (xt (i:=5) (j:=7) rfl mI.nd rfl rfl (by decide) rfl rfl (@ai _ _ _ _ _ (pv 7) (@ai _ _ _ _ _ (aR fK (pv 5) (aR iq (pv 8) (pv 7))) aE (by rfl)) (by rfl)) rfl))))))
  (@ck _ _ _ (@dS _ _ _ _ (@de _ _ _ _ _ (@ai _ _ _ _ _ (aR xO (pv 0) (pv 2)) (@ai _ _ _ _ _ (aR fK az (pv 5)) (@ai _ _ _ _ _ (aR xO (pv 1) (pv 2)) (@ai _ _ _ _ _ (pv 4) aE (by rfl)) (by rfl)) (by rfl)) (by rfl))))))),?_⟩
 exact iz (b:=yz) (cg (dr (df (ao (aq 0) (ao (aq 1) (ao (aA _) (ao (aA _) (ao (aA _) (ao (aA _) aG))))))) (nR (gF (bG 2) (gF (bG 3) (gF (bG 4) (gF (bG 5) (gF (bG 6) (gF (bG 7) nQ))))))))
  (cg (C2 (gK (aw An (aq 3) (aA _))) (cg (dr (aw yo (aq 2) (aq 3)) (bG 8))
  (cg (x8 (ao (aq 3) (ao (aw fO (aq 2) (aw iA (aq 8) (aq 3))) aG)))
  (cg (x8 (ao (aq 6) (ao (aw fO (aq 4) (aw iA (aq 8) (aq 6))) aG)))
  (x8 (ao (aq 7) (ao (aw fO (aq 5) (aw iA (aq 8) (aq 7))) aG)))))))
  (dU (df (ao (aw yo (aq 0) (aq 2)) (ao (aw fO (aA _) (aq 5)) (ao (aw yo (aq 1) (aq 2)) (ao (aq 4) aG)))))))) rfl h
def yA:ah->Dm Fl :=
 (aM (a6 (eP aj) (hName 3))
 (aM (jf (eQ (ae (bF fE (ae (af 0) (ae (av cF (af 1) (fC (.int 1))) aj))) aj)) (hName 4) (ie (aL (av (gY false) (bF fE (ae (af 0) (ae (fC (.int 2)) aj))) (fC (.int 0)))) (j9 (vt "list" hG (af 3) (ae (aV (ae (fC (.str "t")) (ae (av cF (fC (.int 1)) (bF fE (ae (af 0) (ae (fC (.int 3)) aj)))) aj))) aj))) (aM (a6 (av cF (fC (.int 1)) (bF fE (ae (af 0) (ae (af 2) aj)))) (hName 4))
 (j9 (vt "list" hG (af 3) (ae (aV (ae (fC (.str "s")) (ae (av dR (eP (ae (af 4) (ae (av bN (fC (.int 0)) (af 4)) aj))) (bF fE (ae (af 0) (ae (fC (.int 2)) aj)))) aj))) aj))))))
 (br (bF iw (ae (af 3) aj)))))
def wt:List D->Dm D:=gG 5 yA
def wu:Stmt:=top 32
theorem yB:aI ["_law_feed_here","_law_most","_law_great","_law_found","_law_k"] ["_law_feed_here","_law_most","_law_great"] (ax wu):=⟨rfl,rfl,rfl,by decide +kernel,rfl,by decide +kernel,by decide +kernel⟩
theorem HX {f:Addr} {fd:FuncData} (D:Def K mg "_law_word" wu ["_law_feed_here","_law_most","_law_great"] f fd) (T:Txt mg)  {aX:Addr} {aY:FuncData} (ag:Def K mg "_law_take" pE ["_law_feed_here","_law_many"] aX aY) (aC:aH P w K mg base bZ 1 aX aY ["_law_feed_here","_law_many"] (cc K 2 fE)):aH P w K mg base bZ 2 f fd ["_law_feed_here","_law_most","_law_great"] (cc K 3 wt):=by
 refine D.F.ok yB (fun vs H Q E h=>h.1) (fun cdv A outer s H vs Q E hr h=>?_)
 have hu:=hr.units
 have hu1:=ib hr
 refine ⟨_,(@b9 _ _ _ _ _ (@eA (i:=3) _ _ _ _ _ _ yB.nd rfl (by first | exact Or.inl rfl | exact Or.inr rfl) (@kq _ _ _ _ aE) (by rfl) (by first | exact .inl rfl | exact .inr rfl | assumption))
  (@b9 _ _ _ _ _ (@oC _ _ _ _ _ _ _ _ PassesOwn.never rfl (sW rfl T.gn (@ai _ _ _ _ _ (cG aC (hr.mono (by decide)) rfl ag.m ag.F.kp ag.b .nil aF (@ai _ _ _ _ _ (pv 0) (@ai _ _ _ _ _ (aR ia (pv 1) az) aE (by rfl)) (by rfl))) aE (by rfl))) (ek (i:=4) yB.nd rfl (by first | exact Or.inl rfl | exact Or.inr rfl)) (@ck _ _ _ (@i6 _ _ _ _ _ _ _ _ (g7 jq (cG aC (hr.mono (by decide)) rfl ag.m ag.F.kp ag.b .nil aF (@ai _ _ _ _ _ (pv 0) (@ai _ _ _ _ _ az aE (by rfl)) (by rfl))) az (aK _)) (@ck _ _ _ (zt (oJ PySem.F.plainAttrs_list PySem.F.slot_list_append PySem.F.type_list_append BV (pv 3) (@ai _ _ _ _ _ (@de _ _ _ _ _ (@ai _ _ _ _ _ ju (@ai _ _ _ _ _ (aR ia az (cG aC (hr.mono (by decide)) rfl ag.m ag.F.kp ag.b .nil aF (@ai _ _ _ _ _ (pv 0) (@ai _ _ _ _ _ az aE (by rfl)) (by rfl)))) aE (by rfl)) (by rfl))) aE (by rfl))))) (@b9 _ _ _ _ _ (@eA (i:=4) _ _ _ _ _ _ yB.nd rfl (by first | exact Or.inl rfl | exact Or.inr rfl) (aR ia az (cG aC (hr.mono (by decide)) rfl ag.m ag.F.kp ag.b .nil aF (@ai _ _ _ _ _ (pv 0) (@ai _ _ _ _ _ (pv 2) aE (by rfl)) (by rfl)))) (by rfl) (by first | exact .inl rfl | exact .inr rfl | assumption))
  (@ck _ _ _ (zt (oJ PySem.F.plainAttrs_list PySem.F.slot_list_append PySem.F.type_list_append BV (pv 3) (@ai _ _ _ _ _ (@de _ _ _ _ _ (@ai _ _ _ _ _ ju (@ai _ _ _ _ _ (@bR _ _ _ _ _ _ _ j6 (@kq _ _ _ _ (@ai _ _ _ _ _ (pv 4) (@ai _ _ _ _ _ (aR fK az (pv 4)) aE (by rfl)) (by rfl))) (cG aC (hr.mono (by decide)) rfl ag.m ag.F.kp ag.b .nil aF (@ai _ _ _ _ _ (pv 0) (@ai _ _ _ _ _ az aE (by rfl)) (by rfl))) (fun _ _=>rfl)) aE (by rfl)) (by rfl))) aE (by rfl)))))))) (by intro _;rfl))
  (@ck _ _ _ (@dS _ _ _ _ (qf zD (by rfl) T.hV uN (@ai _ _ _ _ _ (pv 3) aE (by rfl))))))),?_⟩
 exact iz (b:=yA) (cg (dr (kr aG) (bG 3))
  (cg (pb (tI (ao (cU (F:=fE) (ao (aq 0) (ao (aw ig (aq 1) (aA _)) aG)) (bu (bu (fun _ _ _ _ h=>cE h)))) aG)) (bG 4) (jm (gK (aw jt (cU (F:=fE) (ao (aq 0) (ao (aA _) aG)) (bu (bu (fun _ _ _ _ h=>cE h)))) (aA _))) (C1 (o8 CY (aq 3) (ao (df (ao (jA _) (ao (aw ig (aA _) (cU (F:=fE) (ao (aq 0) (ao (aA _) aG)) (bu (bu (fun _ _ _ _ h=>cE h))))) aG))) aG))) (cg (dr (aw ig (aA _) (cU (F:=fE) (ao (aq 0) (ao (aq 2) aG)) (bu (bu (fun _ _ _ _ h=>cE h))))) (bG 4))
  (C1 (o8 CY (aq 3) (ao (df (ao (jA _) (ao (aw jJ (kr (ao (aq 4) (ao (aw fO (aA _) (aq 4)) aG))) (cU (F:=fE) (ao (aq 0) (ao (aA _) aG)) (bu (bu (fun _ _ _ _ h=>cE h))))) aG))) aG))))))
  (dU (jl Ar (ao (aq 3) aG))))) rfl h
def yC:ah->Dm Fl :=
 (aM (a6 (bF fE (ae (af 0) (ae (fC (.int 3)) aj))) (hName 1))
 (br (bF wt (ae (af 0) (ae (av dR (eP (ae (fC (.int 12)) (ae (fC (.int 6)) (ae (fC (.int 4)) aj)))) (af 1)) (ae (av dR (eP (ae (fC (.int 3)) (ae (fC (.int 20)) (ae (fC (.int 500)) aj)))) (af 1)) aj))))))
def wx:List D->Dm D:=gG 2 yC
def wy:Stmt:=top 35
theorem Dz:aI ["_law_feed_here","_law_form"] ["_law_feed_here"] (ax wy):=⟨rfl,rfl,rfl,by decide +kernel,rfl,by decide +kernel,by decide +kernel⟩
theorem HY {f:Addr} {fd:FuncData} (D:Def K mg "_law_any_word" wy ["_law_feed_here"] f fd) (T:Txt mg)  {aX:Addr} {aY:FuncData} (ag:Def K mg "_law_take" pE ["_law_feed_here","_law_many"] aX aY) (aC:aH P w K mg base bZ 1 aX aY ["_law_feed_here","_law_many"] (cc K 2 fE)) {eS:Addr} {eU:FuncData} (cY:Def K mg "_law_word" wu ["_law_feed_here","_law_most","_law_great"] eS eU) (gN:aH P w K mg base bZ 2 eS eU ["_law_feed_here","_law_most","_law_great"] (cc K 3 wt)):aH P w K mg base bZ 3 f fd ["_law_feed_here"] (cc K 1 wx):=by
 refine D.F.ok Dz (fun vs H Q E h=>h.1) (fun cdv A outer s H vs Q E hr h=>?_)
 have hu:=hr.units
 have hu1:=ib hr
 refine ⟨_,(@b9 _ _ _ _ _ (@eA (i:=1) _ _ _ _ _ _ Dz.nd rfl (by first | exact Or.inl rfl | exact Or.inr rfl) (cG aC (hr.mono (by decide)) rfl ag.m ag.F.kp ag.b .nil aF (@ai _ _ _ _ _ (pv 0) (@ai _ _ _ _ _ az aE (by rfl)) (by rfl))) (by rfl) (by first | exact .inl rfl | exact .inr rfl | assumption))
  (@ck _ _ _ (@dS _ _ _ _ (cG gN (hr.mono (by decide)) rfl cY.m cY.F.kp cY.b .nil aF (@ai _ _ _ _ _ (pv 0) (@ai _ _ _ _ _ (@bR _ _ _ _ _ _ _ j6 (@kq _ _ _ _ (@ai _ _ _ _ _ az (@ai _ _ _ _ _ az (@ai _ _ _ _ _ az aE (by rfl)) (by rfl)) (by rfl))) (pv 1) (fun _ _=>rfl)) (@ai _ _ _ _ _ (@bR _ _ _ _ _ _ _ j6 (@kq _ _ _ _ (@ai _ _ _ _ _ az (@ai _ _ _ _ _ az (@ai _ _ _ _ _ az aE (by rfl)) (by rfl)) (by rfl))) (pv 1) (fun _ _=>rfl)) aE (by rfl)) (by rfl)) (by rfl)))))),?_⟩
 exact iz (b:=yC) (cg (dr (cU (F:=fE) (ao (aq 0) (ao (aA _) aG)) (bu (bu (fun _ _ _ _ h=>cE h)))) (bG 1))
  (dU (cU (F:=wt) (ao (aq 0) (ao (aw jJ (kr (ao (aA _) (ao (aA _) (ao (aA _) aG)))) (aq 1)) (ao (aw jJ (kr (ao (aA _) (ao (aA _) (ao (aA _) aG)))) (aq 1)) aG))) (bu (bu (bu (fun _ _ _ _ h=>cE h))))))) rfl h
def yD:ah->Dm Fl :=
 (aM (a6 (bF fE (ae (af 0) (ae (fC (.int 6)) aj))) (hName 1))
 (aM (ie (aL (av (gY false) (af 1) (fC (.int 5)))) (aM (a6 (bF wo (ae (av cF (fC (.int 1)) (bF fE (ae (af 0) (ae (fC (.int 1000000)) aj)))) (ae (bF fE (ae (af 0) (ae (fC (.int 1000001)) aj))) aj))) (iy 4 (aZ (hName 2) (aZ (hName 3) (aZ (hName 4) (aZ (hName 5) iR))))))
 (aM (a6 (eP (ae (aV (ae (af 2) (ae (af 3) (ae (af 4) (ae (af 5) aj))))) (ae (aV (ae (af 5) (ae (av bN (fC (.int 0)) (af 3)) (ae (av bN (fC (.int 0)) (af 4)) (ae (af 2) aj))))) (ae (aV (ae (af 3) (ae (av bN (fC (.int 0)) (af 2)) (ae (af 5) (ae (av bN (fC (.int 0)) (af 4)) aj))))) (ae (aV (ae (av bN (fC (.int 0)) (af 2)) (ae (av bN (fC (.int 0)) (af 3)) (ae (av bN (fC (.int 0)) (af 4)) (ae (av bN (fC (.int 0)) (af 5)) aj))))) aj))))) (hName 6))
 (br (av dR (af 6) (bF fE (ae (af 0) (ae (fC (.int 4)) aj))))))) cf)
 (aM (ie (aL (av (gY false) (af 1) (fC (.int 4)))) (aM (a6 (bF lK (ae (av lp (aV (ae (aV (ae (fC (.str "t")) (ae (fC (.int 3)) aj))) (ae (aV (ae (fC (.str "s")) (ae (av bN (fC (.int 0)) (fC (.int 1))) aj))) (ae (aV (ae (fC (.str "t")) (ae (fC (.int 1)) aj))) (ae (aV (ae (fC (.str "s")) (ae (fC (.int 1)) aj))) aj))))) (av cF (fC (.int 1)) (bF fE (ae (af 0) (ae (fC (.int 14)) aj))))) aj)) (iy 4 (aZ (hName 2) (aZ (hName 3) (aZ (hName 4) (aZ (hName 5) iR))))))
 (br (av dR (eP (ae (aV (ae (af 2) (ae (af 3) (ae (af 4) (ae (af 5) aj))))) (ae (aV (ae (af 5) (ae (av bN (fC (.int 0)) (af 3)) (ae (av bN (fC (.int 0)) (af 4)) (ae (af 2) aj))))) (ae (aV (ae (af 3) (ae (av bN (fC (.int 0)) (af 2)) (ae (af 5) (ae (av bN (fC (.int 0)) (af 4)) aj))))) aj)))) (bF fE (ae (af 0) (ae (fC (.int 3)) aj)))))) cf)
 (aM (a6 (av bN (bF fE (ae (af 0) (ae (fC (.int 2000001)) aj))) (fC (.int 1000000))) (hName 7))
 (aM (ie (aL (av (gY false) (af 1) (fC (.int 0)))) (aM (a6 (eP (ae (aV (ae (fC (.int 1)) (ae (af 7) (ae (fC (.int 0)) (ae (fC (.int 1)) aj))))) (ae (aV (ae (av bN (fC (.int 0)) (fC (.int 1))) (ae (af 7) (ae (fC (.int 0)) (ae (av bN (fC (.int 0)) (fC (.int 1))) aj))))) (ae (aV (ae (fC (.int 1)) (ae (fC (.int 0)) (ae (af 7) (ae (fC (.int 1)) aj))))) (ae (aV (ae (av bN (fC (.int 0)) (fC (.int 1))) (ae (fC (.int 0)) (ae (af 7) (ae (av bN (fC (.int 0)) (fC (.int 1))) aj))))) aj))))) (hName 6))
 (br (av dR (av mz (af 6) (eP (ae (aV (ae (fC (.int 0)) (ae (av bN (fC (.int 0)) (fC (.int 1))) (ae (fC (.int 1)) (ae (af 7) aj))))) (ae (aV (ae (af 7) (ae (fC (.int 1)) (ae (av bN (fC (.int 0)) (fC (.int 1))) (ae (fC (.int 0)) aj))))) aj)))) (bF fE (ae (af 0) (ae (fC (.int 6)) aj)))))) cf)
 (aM (a6 (bF lK (ae (bF wx (ae (af 0) aj)) aj)) (iy 4 (aZ (hName 2) (aZ (hName 3) (aZ (hName 4) (aZ (hName 5) iR))))))
 (br (av dR (eP (ae (aV (ae (af 2) (ae (af 3) (ae (af 4) (ae (af 5) aj))))) (ae (aV (ae (af 2) (ae (af 3) (ae (af 4) (ae (af 5) aj))))) (ae (aV (ae (af 5) (ae (av bN (fC (.int 0)) (af 3)) (ae (av bN (fC (.int 0)) (af 4)) (ae (af 2) aj))))) aj)))) (av bN (af 1) (fC (.int 1)))))))))))
def wz:List D->Dm D:=gG 8 yD
def wA:Stmt:=top 41
theorem kd:aI ["_law_feed_here","_law_form","_law_a","_law_b","_law_c","_law_d","_law_some","_law_k"] ["_law_feed_here"] (ax wA):=⟨rfl,rfl,rfl,by decide +kernel,rfl,by decide +kernel,by decide +kernel⟩
theorem HZ {f:Addr} {fd:FuncData} (D:Def K mg "_law_drawn" wA ["_law_feed_here"] f fd) (T:Txt mg)  {aX:Addr} {aY:FuncData} (ag:Def K mg "_law_take" pE ["_law_feed_here","_law_many"] aX aY) (aC:aH P w K mg base bZ 1 aX aY ["_law_feed_here","_law_many"] (cc K 2 fE)) {b7:Addr} {b8:FuncData} (aJ:Def K mg "_law_table" tP ["_law_word_here"] b7 b8) (bO:aH P w K mg base bZ 2 b7 b8 ["_law_word_here"] (cc K 1 lK)) {cm:Addr} {cn:FuncData} (bz:Def K mg "_law_of_column" wq ["_law_a","_law_c"] cm cn) (dj:aH P w K mg base bZ 1 cm cn ["_law_a","_law_c"] (cc K 2 wo)) {cL:Addr} {cM:FuncData} (bK:Def K mg "_law_any_word" wy ["_law_feed_here"] cL cM) (dI:aH P w K mg base bZ 3 cL cM ["_law_feed_here"] (cc K 1 wx)):aH P w K mg base bZ 4 f fd ["_law_feed_here"] (cc K 1 wz):=by
 refine D.F.ok kd (fun vs H Q E h=>h.1) (fun cdv A outer s H vs Q E hr h=>?_)
 have hu:=hr.units
 have hu1:=ib hr
 refine ⟨_,(@b9 _ _ _ _ _ (@eA (i:=1) _ _ _ _ _ _ kd.nd rfl (by first | exact Or.inl rfl | exact Or.inr rfl) (cG aC (hr.mono (by decide)) rfl ag.m ag.F.kp ag.b .nil aF (@ai _ _ _ _ _ (pv 0) (@ai _ _ _ _ _ az aE (by rfl)) (by rfl))) (by rfl) (by first | exact .inl rfl | exact .inr rfl | assumption))
  (@b9 _ _ _ _ _ (@i6 _ _ _ _ _ _ _ _ (g7 jq (pv 1) az (aK _)) (@b9 _ _ _ _ _ (oz (cG dj (hr.mono (by decide)) rfl bz.m bz.F.kp bz.b .nil aF (@ai _ _ _ _ _ (aR ia az (cG aC (hr.mono (by decide)) rfl ag.m ag.F.kp ag.b .nil aF (@ai _ _ _ _ _ (pv 0) (@ai _ _ _ _ _ az aE (by rfl)) (by rfl)))) (@ai _ _ _ _ _ (cG aC (hr.mono (by decide)) rfl ag.m ag.F.kp ag.b .nil aF (@ai _ _ _ _ _ (pv 0) (@ai _ _ _ _ _ az aE (by rfl)) (by rfl))) aE (by rfl)) (by rfl))) (m9 (n:=4) rfl (gD (ek (i:=2) kd.nd rfl (by first | exact Or.inl rfl | exact Or.inr rfl)) (gD (ek (i:=3) kd.nd rfl (by first | exact Or.inl rfl | exact Or.inr rfl)) (gD (ek (i:=4) kd.nd rfl (by first | exact Or.inl rfl | exact Or.inr rfl)) (gD (ek (i:=5) kd.nd rfl (by first | exact Or.inl rfl | exact Or.inr rfl)) m8))))))
  (@b9 _ _ _ _ _ (@eA (i:=6) _ _ _ _ _ _ kd.nd rfl (by first | exact Or.inl rfl | exact Or.inr rfl) (@kq _ _ _ _ (@ai _ _ _ _ _ (@de _ _ _ _ _ (@ai _ _ _ _ _ (pv 2) (@ai _ _ _ _ _ (pv 3) (@ai _ _ _ _ _ (pv 4) (@ai _ _ _ _ _ (pv 5) aE (by rfl)) (by rfl)) (by rfl)) (by rfl))) (@ai _ _ _ _ _ (@de _ _ _ _ _ (@ai _ _ _ _ _ (pv 5) (@ai _ _ _ _ _ (aR fK az (pv 3)) (@ai _ _ _ _ _ (aR fK az (pv 4)) (@ai _ _ _ _ _ (pv 2) aE (by rfl)) (by rfl)) (by rfl)) (by rfl))) (@ai _ _ _ _ _ (@de _ _ _ _ _ (@ai _ _ _ _ _ (pv 3) (@ai _ _ _ _ _ (aR fK az (pv 2)) (@ai _ _ _ _ _ (pv 5) (@ai _ _ _ _ _ (aR fK az (pv 4)) aE (by rfl)) (by rfl)) (by rfl)) (by rfl))) (@ai _ _ _ _ _ (@de _ _ _ _ _ (@ai _ _ _ _ _ (aR fK az (pv 2)) (@ai _ _ _ _ _ (aR fK az (pv 3)) (@ai _ _ _ _ _ (aR fK az (pv 4)) (@ai _ _ _ _ _ (aR fK az (pv 5)) aE (by rfl)) (by rfl)) (by rfl)) (by rfl))) aE (by rfl)) (by rfl)) (by rfl)) (by rfl))) (by rfl) (by first | exact .inl rfl | exact .inr rfl | assumption))
  (@ck _ _ _ (@dS _ _ _ _ (@bR _ _ _ _ _ _ _ j6 (pv 6) (cG aC (hr.mono (by decide)) rfl ag.m ag.F.kp ag.b .nil aF (@ai _ _ _ _ _ (pv 0) (@ai _ _ _ _ _ az aE (by rfl)) (by rfl))) (fun _ _=>rfl)))))) jv)
  (@b9 _ _ _ _ _ (@i6 _ _ _ _ _ _ _ _ (g7 jq (pv 1) az (aK _)) (@b9 _ _ _ _ _ (oz (cG bO (hr.mono (by decide)) rfl aJ.m aJ.F.kp aJ.b .nil aF (@ai _ _ _ _ _ (aR Fv (@de _ _ _ _ _ (@ai _ _ _ _ _ (@de _ _ _ _ _ (@ai _ _ _ _ _ ju (@ai _ _ _ _ _ az aE (by rfl)) (by rfl))) (@ai _ _ _ _ _ (@de _ _ _ _ _ (@ai _ _ _ _ _ ju (@ai _ _ _ _ _ (aR fK az az) aE (by rfl)) (by rfl))) (@ai _ _ _ _ _ (@de _ _ _ _ _ (@ai _ _ _ _ _ ju (@ai _ _ _ _ _ az aE (by rfl)) (by rfl))) (@ai _ _ _ _ _ (@de _ _ _ _ _ (@ai _ _ _ _ _ ju (@ai _ _ _ _ _ az aE (by rfl)) (by rfl))) aE (by rfl)) (by rfl)) (by rfl)) (by rfl))) (aR ia az (cG aC (hr.mono (by decide)) rfl ag.m ag.F.kp ag.b .nil aF (@ai _ _ _ _ _ (pv 0) (@ai _ _ _ _ _ az aE (by rfl)) (by rfl))))) aE (by rfl))) (m9 (n:=4) rfl (gD (ek (i:=2) kd.nd rfl (by first | exact Or.inl rfl | exact Or.inr rfl)) (gD (ek (i:=3) kd.nd rfl (by first | exact Or.inl rfl | exact Or.inr rfl)) (gD (ek (i:=4) kd.nd rfl (by first | exact Or.inl rfl | exact Or.inr rfl)) (gD (ek (i:=5) kd.nd rfl (by first | exact Or.inl rfl | exact Or.inr rfl)) m8))))))
  (@ck _ _ _ (@dS _ _ _ _ (@bR _ _ _ _ _ _ _ j6 (@kq _ _ _ _ (@ai _ _ _ _ _ (@de _ _ _ _ _ (@ai _ _ _ _ _ (pv 2) (@ai _ _ _ _ _ (pv 3) (@ai _ _ _ _ _ (pv 4) (@ai _ _ _ _ _ (pv 5) aE (by rfl)) (by rfl)) (by rfl)) (by rfl))) (@ai _ _ _ _ _ (@de _ _ _ _ _ (@ai _ _ _ _ _ (pv 5) (@ai _ _ _ _ _ (aR fK az (pv 3)) (@ai _ _ _ _ _ (aR fK az (pv 4)) (@ai _ _ _ _ _ (pv 2) aE (by rfl)) (by rfl)) (by rfl)) (by rfl))) (@ai _ _ _ _ _ (@de _ _ _ _ _ (@ai _ _ _ _ _ (pv 3) (@ai _ _ _ _ _ (aR fK az (pv 2)) (@ai _ _ _ _ _ (pv 5) (@ai _ _ _ _ _ (aR fK az (pv 4)) aE (by rfl)) (by rfl)) (by rfl)) (by rfl))) aE (by rfl)) (by rfl)) (by rfl))) (cG aC (hr.mono (by decide)) rfl ag.m ag.F.kp ag.b .nil aF (@ai _ _ _ _ _ (pv 0) (@ai _ _ _ _ _ az aE (by rfl)) (by rfl))) (fun _ _=>rfl))))) jv)
  (@b9 _ _ _ _ _ (@eA (i:=7) _ _ _ _ _ _ kd.nd rfl (by first | exact Or.inl rfl | exact Or.inr rfl) (aR fK (cG aC (hr.mono (by decide)) rfl ag.m ag.F.kp ag.b .nil aF (@ai _ _ _ _ _ (pv 0) (@ai _ _ _ _ _ az aE (by rfl)) (by rfl))) az) (by rfl) (by first | exact .inl rfl | exact .inr rfl | assumption))
  (@b9 _ _ _ _ _ (@i6 _ _ _ _ _ _ _ _ (g7 jq (pv 1) az (aK _)) (@b9 _ _ _ _ _ (@eA (i:=6) _ _ _ _ _ _ kd.nd rfl (by first | exact Or.inl rfl | exact Or.inr rfl) (@kq _ _ _ _ (@ai _ _ _ _ _ (@de _ _ _ _ _ (@ai _ _ _ _ _ az (@ai _ _ _ _ _ (pv 7) (@ai _ _ _ _ _ az (@ai _ _ _ _ _ az aE (by rfl)) (by rfl)) (by rfl)) (by rfl))) (@ai _ _ _ _ _ (@de _ _ _ _ _ (@ai _ _ _ _ _ (aR fK az az) (@ai _ _ _ _ _ (pv 7) (@ai _ _ _ _ _ az (@ai _ _ _ _ _ (aR fK az az) aE (by rfl)) (by rfl)) (by rfl)) (by rfl))) (@ai _ _ _ _ _ (@de _ _ _ _ _ (@ai _ _ _ _ _ az (@ai _ _ _ _ _ az (@ai _ _ _ _ _ (pv 7) (@ai _ _ _ _ _ az aE (by rfl)) (by rfl)) (by rfl)) (by rfl))) (@ai _ _ _ _ _ (@de _ _ _ _ _ (@ai _ _ _ _ _ (aR fK az az) (@ai _ _ _ _ _ az (@ai _ _ _ _ _ (pv 7) (@ai _ _ _ _ _ (aR fK az az) aE (by rfl)) (by rfl)) (by rfl)) (by rfl))) aE (by rfl)) (by rfl)) (by rfl)) (by rfl))) (by rfl) (by first | exact .inl rfl | exact .inr rfl | assumption))
  (@ck _ _ _ (@dS _ _ _ _ (@bR _ _ _ _ _ _ _ j6 (aR BW (pv 6) (@kq _ _ _ _ (@ai _ _ _ _ _ (@de _ _ _ _ _ (@ai _ _ _ _ _ az (@ai _ _ _ _ _ (aR fK az az) (@ai _ _ _ _ _ az (@ai _ _ _ _ _ (pv 7) aE (by rfl)) (by rfl)) (by rfl)) (by rfl))) (@ai _ _ _ _ _ (@de _ _ _ _ _ (@ai _ _ _ _ _ (pv 7) (@ai _ _ _ _ _ az (@ai _ _ _ _ _ (aR fK az az) (@ai _ _ _ _ _ az aE (by rfl)) (by rfl)) (by rfl)) (by rfl))) aE (by rfl)) (by rfl)))) (cG aC (hr.mono (by decide)) rfl ag.m ag.F.kp ag.b .nil aF (@ai _ _ _ _ _ (pv 0) (@ai _ _ _ _ _ az aE (by rfl)) (by rfl))) (fun _ _=>rfl))))) jv)
  (@b9 _ _ _ _ _ (oz (cG bO (hr.mono (by decide)) rfl aJ.m aJ.F.kp aJ.b .nil aF (@ai _ _ _ _ _ (cG dI (hr.mono (by decide)) rfl bK.m bK.F.kp bK.b .nil aF (@ai _ _ _ _ _ (pv 0) aE (by rfl))) aE (by rfl))) (m9 (n:=4) rfl (gD (ek (i:=2) kd.nd rfl (by first | exact Or.inl rfl | exact Or.inr rfl)) (gD (ek (i:=3) kd.nd rfl (by first | exact Or.inl rfl | exact Or.inr rfl)) (gD (ek (i:=4) kd.nd rfl (by first | exact Or.inl rfl | exact Or.inr rfl)) (gD (ek (i:=5) kd.nd rfl (by first | exact Or.inl rfl | exact Or.inr rfl)) m8))))))
  (@ck _ _ _ (@dS _ _ _ _ (@bR _ _ _ _ _ _ _ j6 (@kq _ _ _ _ (@ai _ _ _ _ _ (@de _ _ _ _ _ (@ai _ _ _ _ _ (pv 2) (@ai _ _ _ _ _ (pv 3) (@ai _ _ _ _ _ (pv 4) (@ai _ _ _ _ _ (pv 5) aE (by rfl)) (by rfl)) (by rfl)) (by rfl))) (@ai _ _ _ _ _ (@de _ _ _ _ _ (@ai _ _ _ _ _ (pv 2) (@ai _ _ _ _ _ (pv 3) (@ai _ _ _ _ _ (pv 4) (@ai _ _ _ _ _ (pv 5) aE (by rfl)) (by rfl)) (by rfl)) (by rfl))) (@ai _ _ _ _ _ (@de _ _ _ _ _ (@ai _ _ _ _ _ (pv 5) (@ai _ _ _ _ _ (aR fK az (pv 3)) (@ai _ _ _ _ _ (aR fK az (pv 4)) (@ai _ _ _ _ _ (pv 2) aE (by rfl)) (by rfl)) (by rfl)) (by rfl))) aE (by rfl)) (by rfl)) (by rfl))) (aR fK (pv 1) az) (fun _ _=>rfl)))))))))),?_⟩
 exact iz (b:=yD) (cg (dr (cU (F:=fE) (ao (aq 0) (ao (aA _) aG)) (bu (bu (fun _ _ _ _ h=>cE h)))) (bG 1))
  (cg (jm (gK (aw jt (aq 1) (aA _))) (cg (dr (cU (F:=wo) (ao (aw ig (aA _) (cU (F:=fE) (ao (aq 0) (ao (aA _) aG)) (bu (bu (fun _ _ _ _ h=>cE h))))) (ao (cU (F:=fE) (ao (aq 0) (ao (aA _) aG)) (bu (bu (fun _ _ _ _ h=>cE h)))) aG)) (bu (bu (fun _ _ _ _ h=>cE h)))) (nR (gF (bG 2) (gF (bG 3) (gF (bG 4) (gF (bG 5) nQ))))))
  (cg (dr (kr (ao (df (ao (aq 2) (ao (aq 3) (ao (aq 4) (ao (aq 5) aG))))) (ao (df (ao (aq 5) (ao (aw fO (aA _) (aq 3)) (ao (aw fO (aA _) (aq 4)) (ao (aq 2) aG))))) (ao (df (ao (aq 3) (ao (aw fO (aA _) (aq 2)) (ao (aq 5) (ao (aw fO (aA _) (aq 4)) aG))))) (ao (df (ao (aw fO (aA _) (aq 2)) (ao (aw fO (aA _) (aq 3)) (ao (aw fO (aA _) (aq 4)) (ao (aw fO (aA _) (aq 5)) aG))))) aG))))) (bG 6))
  (dU (aw jJ (aq 6) (cU (F:=fE) (ao (aq 0) (ao (aA _) aG)) (bu (bu (fun _ _ _ _ h=>cE h)))))))) jB)
  (cg (jm (gK (aw jt (aq 1) (aA _))) (cg (dr (cU (F:=lK) (ao (aw HB (df (ao (df (ao (jA _) (ao (aA _) aG))) (ao (df (ao (jA _) (ao (aw fO (aA _) (aA _)) aG))) (ao (df (ao (jA _) (ao (aA _) aG))) (ao (df (ao (jA _) (ao (aA _) aG))) aG))))) (aw ig (aA _) (cU (F:=fE) (ao (aq 0) (ao (aA _) aG)) (bu (bu (fun _ _ _ _ h=>cE h)))))) aG) (bu (fun _ _ _ _ h=>cE h))) (nR (gF (bG 2) (gF (bG 3) (gF (bG 4) (gF (bG 5) nQ))))))
  (dU (aw jJ (kr (ao (df (ao (aq 2) (ao (aq 3) (ao (aq 4) (ao (aq 5) aG))))) (ao (df (ao (aq 5) (ao (aw fO (aA _) (aq 3)) (ao (aw fO (aA _) (aq 4)) (ao (aq 2) aG))))) (ao (df (ao (aq 3) (ao (aw fO (aA _) (aq 2)) (ao (aq 5) (ao (aw fO (aA _) (aq 4)) aG))))) aG)))) (cU (F:=fE) (ao (aq 0) (ao (aA _) aG)) (bu (bu (fun _ _ _ _ h=>cE h))))))) jB)
  (cg (dr (aw fO (cU (F:=fE) (ao (aq 0) (ao (aA _) aG)) (bu (bu (fun _ _ _ _ h=>cE h)))) (aA _)) (bG 7))
  (cg (jm (gK (aw jt (aq 1) (aA _))) (cg (dr (kr (ao (df (ao (aA _) (ao (aq 7) (ao (aA _) (ao (aA _) aG))))) (ao (df (ao (aw fO (aA _) (aA _)) (ao (aq 7) (ao (aA _) (ao (aw fO (aA _) (aA _)) aG))))) (ao (df (ao (aA _) (ao (aA _) (ao (aq 7) (ao (aA _) aG))))) (ao (df (ao (aw fO (aA _) (aA _)) (ao (aA _) (ao (aq 7) (ao (aw fO (aA _) (aA _)) aG))))) aG))))) (bG 6))
  (dU (aw jJ (aw CV (aq 6) (kr (ao (df (ao (aA _) (ao (aw fO (aA _) (aA _)) (ao (aA _) (ao (aq 7) aG))))) (ao (df (ao (aq 7) (ao (aA _) (ao (aw fO (aA _) (aA _)) (ao (aA _) aG))))) aG)))) (cU (F:=fE) (ao (aq 0) (ao (aA _) aG)) (bu (bu (fun _ _ _ _ h=>cE h))))))) jB)
  (cg (dr (cU (F:=lK) (ao (cU (F:=wx) (ao (aq 0) aG) (bu (fun _ _ _ _ h=>cE h))) aG) (bu (fun _ _ _ _ h=>cE h))) (nR (gF (bG 2) (gF (bG 3) (gF (bG 4) (gF (bG 5) nQ))))))
  (dU (aw jJ (kr (ao (df (ao (aq 2) (ao (aq 3) (ao (aq 4) (ao (aq 5) aG))))) (ao (df (ao (aq 2) (ao (aq 3) (ao (aq 4) (ao (aq 5) aG))))) (ao (df (ao (aq 5) (ao (aw fO (aA _) (aq 3)) (ao (aw fO (aA _) (aq 4)) (ao (aq 2) aG))))) aG)))) (aw fO (aq 1) (aA _)))))))))) rfl h
def yE:ah->Dm Fl :=
 (br (aV (ae (av cF (av bw (av aO (af 0) (fC (.int 0))) (av aO (af 1) (fC (.int 0)))) (av bw (av aO (af 0) (fC (.int 1))) (av aO (af 1) (fC (.int 1))))) (ae (av cF (av bw (av aO (af 0) (fC (.int 2))) (av aO (af 1) (fC (.int 0)))) (av bw (av aO (af 0) (fC (.int 3))) (av aO (af 1) (fC (.int 1))))) aj))))
def wB:List D->Dm D:=gG 2 yE
def wC:Stmt:=top 12
theorem Ic:aI ["table","pair"] ["table","pair"] (ax wC):=⟨rfl,rfl,rfl,by decide +kernel,rfl,by decide +kernel,by decide +kernel⟩
theorem Ie {f:Addr} {fd:FuncData} (D:Def K mg "led_pair" wC ["table","pair"] f fd) (T:Txt mg)  :aH P w K mg base bZ 1 f fd ["table","pair"] (cc K 2 wB):=by
 refine D.F.ok Ic (fun vs H Q E h=>h.1) (fun cdv A outer s H vs Q E hr h=>?_)
 have hu:=hr.units
 have hu1:=ib hr
 refine ⟨_,(@ck _ _ _ (@dS _ _ _ _ (@de _ _ _ _ _ (@ai _ _ _ _ _ (aR ia (aR iq (@bR _ _ _ _ _ _ _ cT (pv 0) az (fun _ _=>rfl)) (@bR _ _ _ _ _ _ _ cT (pv 1) az (fun _ _=>rfl))) (aR iq (@bR _ _ _ _ _ _ _ cT (pv 0) az (fun _ _=>rfl)) (@bR _ _ _ _ _ _ _ cT (pv 1) az (fun _ _=>rfl)))) (@ai _ _ _ _ _ (aR ia (aR iq (@bR _ _ _ _ _ _ _ cT (pv 0) az (fun _ _=>rfl)) (@bR _ _ _ _ _ _ _ cT (pv 1) az (fun _ _=>rfl))) (aR iq (@bR _ _ _ _ _ _ _ cT (pv 0) az (fun _ _=>rfl)) (@bR _ _ _ _ _ _ _ cT (pv 1) az (fun _ _=>rfl)))) aE (by rfl)) (by rfl))))),?_⟩
 exact iz (b:=yE) (dU (df (ao (aw ig (aw iA (aw cV (aq 0) (aA _)) (aw cV (aq 1) (aA _))) (aw iA (aw cV (aq 0) (aA _)) (aw cV (aq 1) (aA _)))) (ao (aw ig (aw iA (aw cV (aq 0) (aA _)) (aw cV (aq 1) (aA _))) (aw iA (aw cV (aq 0) (aA _)) (aw cV (aq 1) (aA _)))) aG)))) rfl h
def yF:ah->Dm Fl :=
 (aM (ie (aL (av (gY false) (af 0) (fC (.int 0)))) (br (aV aj)) cf)
 (br (aV (ae (aV (ae (fC (.str "s")) (ae (af 0) aj))) aj))))
def mU:List D->Dm D:=gG 1 yF
def tR:Stmt:=top 27
theorem Ig:aI ["k"] ["k"] (ax tR):=⟨rfl,rfl,rfl,by decide +kernel,rfl,by decide +kernel,by decide +kernel⟩
theorem Ih {f:Addr} {fd:FuncData} (D:Def K mg "shears" tR ["k"] f fd) (T:Txt mg)  :aH P w K mg base bZ 1 f fd ["k"] (cc K 1 mU):=by
 refine D.F.ok Ig (fun vs H Q E h=>h.1) (fun cdv A outer s H vs Q E hr h=>?_)
 have hu:=hr.units
 have hu1:=ib hr
 refine ⟨_,(@b9 _ _ _ _ _ (@i6 _ _ _ _ _ _ _ _ (g7 jq (pv 0) az (aK _)) (@ck _ _ _ (@dS _ _ _ _ (@de _ _ _ _ _ aE))) jv)
  (@ck _ _ _ (@dS _ _ _ _ (@de _ _ _ _ _ (@ai _ _ _ _ _ (@de _ _ _ _ _ (@ai _ _ _ _ _ ju (@ai _ _ _ _ _ (pv 0) aE (by rfl)) (by rfl))) aE (by rfl)))))),?_⟩
 exact iz (b:=yF) (cg (jm (gK (aw jt (aq 0) (aA _))) (dU (df aG)) jB)
  (dU (df (ao (df (ao (jA _) (ao (aq 0) aG))) aG)))) rfl h
def yG:ah->Dm Fl :=
 (br (aV (ae (av cF (av bw (av aO (af 0) (fC (.int 0))) (av aO (af 1) (fC (.int 0)))) (av bw (av aO (af 0) (fC (.int 1))) (av aO (af 1) (fC (.int 2))))) (ae (av cF (av bw (av aO (af 0) (fC (.int 0))) (av aO (af 1) (fC (.int 1)))) (av bw (av aO (af 0) (fC (.int 1))) (av aO (af 1) (fC (.int 3))))) (ae (av cF (av bw (av aO (af 0) (fC (.int 2))) (av aO (af 1) (fC (.int 0)))) (av bw (av aO (af 0) (fC (.int 3))) (av aO (af 1) (fC (.int 2))))) (ae (av cF (av bw (av aO (af 0) (fC (.int 2))) (av aO (af 1) (fC (.int 1)))) (av bw (av aO (af 0) (fC (.int 3))) (av aO (af 1) (fC (.int 3))))) aj))))))
def lr:List D->Dm D:=gG 2 yG
def pF:Stmt:=top 11
theorem Ii:aI ["one","other"] ["one","other"] (ax pF):=⟨rfl,rfl,rfl,by decide +kernel,rfl,by decide +kernel,by decide +kernel⟩
theorem Ij {f:Addr} {fd:FuncData} (D:Def K mg "times" pF ["one","other"] f fd) (T:Txt mg)  :aH P w K mg base bZ 1 f fd ["one","other"] (cc K 2 lr):=by
 refine D.F.ok Ii (fun vs H Q E h=>h.1) (fun cdv A outer s H vs Q E hr h=>?_)
 have hu:=hr.units
 have hu1:=ib hr
 refine ⟨_,(@ck _ _ _ (@dS _ _ _ _ (@de _ _ _ _ _ (@ai _ _ _ _ _ (aR ia (aR iq (@bR _ _ _ _ _ _ _ cT (pv 0) az (fun _ _=>rfl)) (@bR _ _ _ _ _ _ _ cT (pv 1) az (fun _ _=>rfl))) (aR iq (@bR _ _ _ _ _ _ _ cT (pv 0) az (fun _ _=>rfl)) (@bR _ _ _ _ _ _ _ cT (pv 1) az (fun _ _=>rfl)))) (@ai _ _ _ _ _ (aR ia (aR iq (@bR _ _ _ _ _ _ _ cT (pv 0) az (fun _ _=>rfl)) (@bR _ _ _ _ _ _ _ cT (pv 1) az (fun _ _=>rfl))) (aR iq (@bR _ _ _ _ _ _ _ cT (pv 0) az (fun _ _=>rfl)) (@bR _ _ _ _ _ _ _ cT (pv 1) az (fun _ _=>rfl)))) (@ai _ _ _ _ _ (aR ia (aR iq (@bR _ _ _ _ _ _ _ cT (pv 0) az (fun _ _=>rfl)) (@bR _ _ _ _ _ _ _ cT (pv 1) az (fun _ _=>rfl))) (aR iq (@bR _ _ _ _ _ _ _ cT (pv 0) az (fun _ _=>rfl)) (@bR _ _ _ _ _ _ _ cT (pv 1) az (fun _ _=>rfl)))) (@ai _ _ _ _ _ (aR ia (aR iq (@bR _ _ _ _ _ _ _ cT (pv 0) az (fun _ _=>rfl)) (@bR _ _ _ _ _ _ _ cT (pv 1) az (fun _ _=>rfl))) (aR iq (@bR _ _ _ _ _ _ _ cT (pv 0) az (fun _ _=>rfl)) (@bR _ _ _ _ _ _ _ cT (pv 1) az (fun _ _=>rfl)))) aE (by rfl)) (by rfl)) (by rfl)) (by rfl))))),?_⟩
 exact iz (b:=yG) (dU (df (ao (aw ig (aw iA (aw cV (aq 0) (aA _)) (aw cV (aq 1) (aA _))) (aw iA (aw cV (aq 0) (aA _)) (aw cV (aq 1) (aA _)))) (ao (aw ig (aw iA (aw cV (aq 0) (aA _)) (aw cV (aq 1) (aA _))) (aw iA (aw cV (aq 0) (aA _)) (aw cV (aq 1) (aA _)))) (ao (aw ig (aw iA (aw cV (aq 0) (aA _)) (aw cV (aq 1) (aA _))) (aw iA (aw cV (aq 0) (aA _)) (aw cV (aq 1) (aA _)))) (ao (aw ig (aw iA (aw cV (aq 0) (aA _)) (aw cV (aq 1) (aA _))) (aw iA (aw cV (aq 0) (aA _)) (aw cV (aq 1) (aA _)))) aG)))))) rfl h
def yH:ah->Dm Fl :=
 (aM (ie (aL (av (gY false) (av aO (af 0) (fC (.int 0))) (fC (.str "s")))) (br (aV (ae (fC (.int 1)) (ae (av aO (af 0) (fC (.int 1))) (ae (fC (.int 0)) (ae (fC (.int 1)) aj)))))) cf)
 (aM (a6 (fC (.tup [(.int 1),(.int 0),(.int 0),(.int 1)])) (hName 1))
 (aM (jf (eQ (ae (av aO (af 0) (fC (.int 1))) aj)) (hName 2) (a6 (bF lr (ae (fC (.tup [(.int 0),(.int (-1)),(.int 1),(.int 0)])) (ae (af 1) aj))) (hName 1)))
 (br (af 1)))))
def wD:List D->Dm D:=gG 3 yH
def wF:Stmt:=top 16
theorem yI:aI ["step","table","turn"] ["step"] (ax wF):=⟨rfl,rfl,rfl,by decide +kernel,rfl,by decide +kernel,by decide +kernel⟩
theorem Ik {f:Addr} {fd:FuncData} (D:Def K mg "step_table" wF ["step"] f fd) (T:Txt mg) {jh:V} (hZ:l9 K mg "QUARTER" jh (.tup [(.int 0),(.int (-1)),(.int 1),(.int 0)])) {fV:V} (dg:l9 K mg "UNMOVED" fV (.tup [(.int 1),(.int 0),(.int 0),(.int 1)])) {cZ:Addr} {c4:FuncData} (bC:Def K mg "times" pF ["one","other"] cZ c4) (dk:aH P w K mg base bZ 1 cZ c4 ["one","other"] (cc K 2 lr)):aH P w K mg base bZ 2 f fd ["step"] (cc K 1 wD):=by
 refine D.F.ok yI (fun vs H Q E h=>h.1) (fun cdv A outer s H vs Q E hr h=>?_)
 have hu:=hr.units
 have hu1:=ib hr
 refine ⟨_,(@b9 _ _ _ _ _ (@i6 _ _ _ _ _ _ _ _ (g7 jq (@bR _ _ _ _ _ _ _ cT (pv 0) az (fun _ _=>rfl)) ju (aK _)) (@ck _ _ _ (@dS _ _ _ _ (@de _ _ _ _ _ (@ai _ _ _ _ _ az (@ai _ _ _ _ _ (@bR _ _ _ _ _ _ _ cT (pv 0) az (fun _ _=>rfl)) (@ai _ _ _ _ _ az (@ai _ _ _ _ _ az aE (by rfl)) (by rfl)) (by rfl)) (by rfl))))) jv)
  (@b9 _ _ _ _ _ (@eA (i:=1) _ _ _ _ _ _ yI.nd rfl (by first | exact Or.inl rfl | exact Or.inr rfl) (AH dg rfl rfl (by decide)) (by rfl) (by first | exact .inl rfl | exact .inr rfl | assumption))
  (@b9 _ _ _ _ _ (@oC _ _ _ _ _ _ _ _ PassesOwn.never rfl (sW rfl T.gn (@ai _ _ _ _ _ (@bR _ _ _ _ _ _ _ cT (pv 0) az (fun _ _=>rfl)) aE (by rfl))) (ek (i:=2) yI.nd rfl (by first | exact Or.inl rfl | exact Or.inr rfl)) (@ck _ _ _ (@eA (i:=1) _ _ _ _ _ _ yI.nd rfl (by first | exact Or.inl rfl | exact Or.inr rfl) (cG dk (hr.mono (by decide)) rfl bC.m bC.F.kp bC.b .nil aF (@ai _ _ _ _ _ (AH hZ rfl rfl (by decide)) (@ai _ _ _ _ _ (pv 1) aE (by rfl)) (by rfl))) (by rfl) (by first | exact .inl rfl | exact .inr rfl | assumption))) (by intro _;rfl))
  (@ck _ _ _ (@dS _ _ _ _ (pv 1)))))),?_⟩
 exact iz (b:=yH) (cg (jm (gK (aw jt (aw cV (aq 0) (aA _)) (jA _))) (dU (df (ao (aA _) (ao (aw cV (aq 0) (aA _)) (ao (aA _) (ao (aA _) aG)))))) jB)
  (cg (dr (AI dg) (bG 1))
  (cg (pb (tI (ao (aw cV (aq 0) (aA _)) aG)) (bG 2) (dr (cU (F:=lr) (ao (AI hZ) (ao (aq 1) aG)) (bu (bu (fun _ _ _ _ h=>cE h)))) (bG 1)))
  (dU (aq 1))))) rfl h
def yJ:ah->Dm Fl :=
 (aM (a6 (fC (.tup [(.int 1),(.int 0),(.int 0),(.int 1)])) (hName 1))
 (aM (jf (hJ (af 0)) (hName 2) (a6 (bF lr (ae (bF wD (ae (af 2) aj)) (ae (af 1) aj))) (hName 1)))
 (br (af 1))))
def pG:List D->Dm D:=gG 3 yJ
def tS:Stmt:=top 17
theorem yK:aI ["word","table","step"] ["word"] (ax tS):=⟨rfl,rfl,rfl,by decide +kernel,rfl,by decide +kernel,by decide +kernel⟩
theorem Il {f:Addr} {fd:FuncData} (D:Def K mg "table_of" tS ["word"] f fd) (T:Txt mg) {fV:V} (dg:l9 K mg "UNMOVED" fV (.tup [(.int 1),(.int 0),(.int 0),(.int 1)])) {cZ:Addr} {c4:FuncData} (bC:Def K mg "times" pF ["one","other"] cZ c4) (dk:aH P w K mg base bZ 1 cZ c4 ["one","other"] (cc K 2 lr)) {dZ:Addr} {d5:FuncData} (cz:Def K mg "step_table" wF ["step"] dZ d5) (fW:aH P w K mg base bZ 2 dZ d5 ["step"] (cc K 1 wD)):aH P w K mg base bZ 3 f fd ["word"] (cc K 1 pG):=by
 refine D.F.ok yK (fun vs H Q E h=>h.1) (fun cdv A outer s H vs Q E hr h=>?_)
 have hu:=hr.units
 have hu1:=ib hr
 refine ⟨_,(@b9 _ _ _ _ _ (@eA (i:=1) _ _ _ _ _ _ yK.nd rfl (by first | exact Or.inl rfl | exact Or.inr rfl) (AH dg rfl rfl (by decide)) (by rfl) (by first | exact .inl rfl | exact .inr rfl | assumption))
  (@b9 _ _ _ _ _ (@oC _ _ _ _ _ _ _ _ PassesOwn.never rfl (sU (pv 0)) (ek (i:=2) yK.nd rfl (by first | exact Or.inl rfl | exact Or.inr rfl)) (@ck _ _ _ (@eA (i:=1) _ _ _ _ _ _ yK.nd rfl (by first | exact Or.inl rfl | exact Or.inr rfl) (cG dk (hr.mono (by decide)) rfl bC.m bC.F.kp bC.b .nil aF (@ai _ _ _ _ _ (cG fW (hr.mono (by decide)) rfl cz.m cz.F.kp cz.b .nil aF (@ai _ _ _ _ _ (pv 2) aE (by rfl))) (@ai _ _ _ _ _ (pv 1) aE (by rfl)) (by rfl))) (by rfl) (by first | exact .inl rfl | exact .inr rfl | assumption))) (by intro _;rfl))
  (@ck _ _ _ (@dS _ _ _ _ (pv 1))))),?_⟩
 exact iz (b:=yJ) (cg (dr (AI dg) (bG 1))
  (cg (pb (tH (aq 0)) (bG 2) (dr (cU (F:=lr) (ao (cU (F:=wD) (ao (aq 2) aG) (bu (fun _ _ _ _ h=>cE h))) (ao (aq 1) aG)) (bu (bu (fun _ _ _ _ h=>cE h)))) (bG 1)))
  (dU (aq 1)))) rfl h
def yL:ah->Dm Fl :=
 (br (av gM (av cF (av iu (fC (.int 2)) (af 0)) (af 1)) (av iu (fC (.int 2)) (af 1))))
def wG:List D->Dm D:=gG 2 yL
def wH:Stmt:=top 26
theorem Im:aI ["number","divisor"] ["number","divisor"] (ax wH):=⟨rfl,rfl,rfl,by decide +kernel,rfl,by decide +kernel,by decide +kernel⟩
theorem Io {f:Addr} {fd:FuncData} (D:Def K mg "nearest" wH ["number","divisor"] f fd) (T:Txt mg)  :aH P w K mg base bZ 1 f fd ["number","divisor"] (cc K 2 wG):=by
 refine D.F.ok Im (fun vs H Q E h=>h.1) (fun cdv A outer s H vs Q E hr h=>?_)
 have hu:=hr.units
 have hu1:=ib hr
 refine ⟨_,(@ck _ _ _ (@dS _ _ _ _ (aR xO (aR ia (aR mM az (pv 0)) (pv 1)) (aR mM az (pv 1))))),?_⟩
 exact iz (b:=yL) (dU (aw yo (aw ig (aw mQ (aA _) (aq 0)) (aq 1)) (aw mQ (aA _) (aq 1)))) rfl h
def yM:ah->Dm Fl :=
 (aM (a6 (aV aj) (hName 1))
 (aM (a6 (af 0) (hName 2))
 (aM (jN (aL (av (gY true) (av aO (af 2) (fC (.int 1))) (fC (.int 0)))) (aM (a6 (av fP (bF mU (ae (mw jr (bF wG (ae (av aO (af 2) (fC (.int 0))) (ae (av aO (af 2) (fC (.int 1))) aj)))) aj)) (aV (ae (aV (ae (fC (.str "t")) (ae (fC (.int 1)) aj))) aj))) (hName 3))
 (aM (a6 (bF wB (ae (bF pG (ae (af 3) aj)) (ae (af 2) aj))) (hName 2))
 (a6 (av fP (af 1) (af 3)) (hName 1)))))
 (br (af 1)))))
def wI:List D->Dm D:=gG 4 yM
def wJ:Stmt:=top 25
theorem tT:aI ["pair","gone","left","steps"] ["pair"] (ax wJ):=⟨rfl,rfl,rfl,by decide +kernel,rfl,by decide +kernel,by decide +kernel⟩
theorem Ip {f:Addr} {fd:FuncData} (D:Def K mg "level_steps" wJ ["pair"] f fd) (T:Txt mg)  {gp:Addr} {gq:FuncData} (dB:Def K mg "led_pair" wC ["table","pair"] gp gq) (iB:aH P w K mg base bZ 1 gp gq ["table","pair"] (cc K 2 wB)) {eV:Addr} {eW:FuncData} (bT:Def K mg "shears" tR ["k"] eV eW) (eX:aH P w K mg base bZ 1 eV eW ["k"] (cc K 1 mU)) {c5:Addr} {c6:FuncData} (bL:Def K mg "table_of" tS ["word"] c5 c6) (dC:aH P w K mg base bZ 3 c5 c6 ["word"] (cc K 1 pG)) {h8:Addr} {h9:FuncData} (eK:Def K mg "nearest" wH ["number","divisor"] h8 h9) (ji:aH P w K mg base bZ 1 h8 h9 ["number","divisor"] (cc K 2 wG)):aH P w K mg base bZ 4 f fd ["pair"] (cc K 1 wI):=by
 refine D.F.ok tT (fun vs H Q E h=>h.1) (fun cdv A outer s H vs Q E hr h=>?_)
 have hu:=hr.units
 have hu1:=ib hr
 refine ⟨_,(@b9 _ _ _ _ _ (@eA (i:=1) _ _ _ _ _ _ tT.nd rfl (by first | exact Or.inl rfl | exact Or.inr rfl) (@de _ _ _ _ _ aE) (by rfl) (by first | exact .inl rfl | exact .inr rfl | assumption))
  (@b9 _ _ _ _ _ (@eA (i:=2) _ _ _ _ _ _ tT.nd rfl (by first | exact Or.inl rfl | exact Or.inr rfl) (pv 0) (by rfl) (by first | exact .inl rfl | exact .inr rfl | assumption))
  (@b9 _ _ _ _ _ (Bp PassesOwn.never (g7 zx (@bR _ _ _ _ _ _ _ cT (pv 2) az (fun _ _=>rfl)) az (aK _)) (@b9 _ _ _ _ _ (@eA (i:=3) _ _ _ _ _ _ tT.nd rfl (by first | exact Or.inl rfl | exact Or.inr rfl) (aR oK (cG eX (hr.mono (by decide)) rfl bT.m bT.F.kp bT.b .nil aF (@ai _ _ _ _ _ (oD oE (cG ji (hr.mono (by decide)) rfl eK.m eK.F.kp eK.b .nil aF (@ai _ _ _ _ _ (@bR _ _ _ _ _ _ _ cT (pv 2) az (fun _ _=>rfl)) (@ai _ _ _ _ _ (@bR _ _ _ _ _ _ _ cT (pv 2) az (fun _ _=>rfl)) aE (by rfl)) (by rfl)))) aE (by rfl))) (@de _ _ _ _ _ (@ai _ _ _ _ _ (@de _ _ _ _ _ (@ai _ _ _ _ _ ju (@ai _ _ _ _ _ az aE (by rfl)) (by rfl))) aE (by rfl)))) (by rfl) (by first | exact .inl rfl | exact .inr rfl | assumption))
  (@b9 _ _ _ _ _ (@eA (i:=2) _ _ _ _ _ _ tT.nd rfl (by first | exact Or.inl rfl | exact Or.inr rfl) (cG iB (hr.mono (by decide)) rfl dB.m dB.F.kp dB.b .nil aF (@ai _ _ _ _ _ (cG dC (hr.mono (by decide)) rfl bL.m bL.F.kp bL.b .nil aF (@ai _ _ _ _ _ (pv 3) aE (by rfl))) (@ai _ _ _ _ _ (pv 2) aE (by rfl)) (by rfl))) (by rfl) (by first | exact .inl rfl | exact .inr rfl | assumption))
  (@ck _ _ _ (@eA (i:=1) _ _ _ _ _ _ tT.nd rfl (by first | exact Or.inl rfl | exact Or.inr rfl) (aR oK (pv 1) (pv 3)) (by rfl) (by first | exact .inl rfl | exact .inr rfl | assumption))))))
  (@ck _ _ _ (@dS _ _ _ _ (pv 1)))))),?_⟩
 exact iz (b:=yM) (cg (dr (df aG) (bG 1))
  (cg (dr (aq 0) (bG 2))
  (cg (C2 (gK (aw An (aw cV (aq 2) (aA _)) (aA _))) (cg (dr (aw o6 (cU (F:=mU) (ao (oZ qS (cU (F:=wG) (ao (aw cV (aq 2) (aA _)) (ao (aw cV (aq 2) (aA _)) aG)) (bu (bu (fun _ _ _ _ h=>cE h))))) aG) (bu (fun _ _ _ _ h=>cE h))) (df (ao (df (ao (jA _) (ao (aA _) aG))) aG))) (bG 3))
  (cg (dr (cU (F:=wB) (ao (cU (F:=pG) (ao (aq 3) aG) (bu (fun _ _ _ _ h=>cE h))) (ao (aq 2) aG)) (bu (bu (fun _ _ _ _ h=>cE h)))) (bG 2))
  (dr (aw o6 (aq 1) (aq 3)) (bG 1)))))
  (dU (aq 1))))) rfl h
def yN:ah->Dm Fl :=
 (aM (a6 (av cF (av aO (af 0) (fC (.int 1))) (av aO (af 1) (fC (.int 1)))) (hName 2))
 (aM (ie (aL (av (gY false) (av aO (af 0) (fC (.int 0))) (fC (.str "t")))) (a6 (av iP (af 2) (fC (.int 4))) (hName 2)) cf)
 (aM (ie (aL (av (gY false) (af 2) (fC (.int 0)))) (br (aV aj)) cf)
 (br (aV (ae (aV (ae (av aO (af 0) (fC (.int 0))) (ae (af 2) aj))) aj))))))
def wK:List D->Dm D:=gG 3 yN
def wL:Stmt:=top 18
theorem A0:aI ["one","other","number"] ["one","other"] (ax wL):=⟨rfl,rfl,rfl,by decide +kernel,rfl,by decide +kernel,by decide +kernel⟩
theorem Iq {f:Addr} {fd:FuncData} (D:Def K mg "joined" wL ["one","other"] f fd) (T:Txt mg)  :aH P w K mg base bZ 1 f fd ["one","other"] (cc K 2 wK):=by
 refine D.F.ok A0 (fun vs H Q E h=>h.1) (fun cdv A outer s H vs Q E hr h=>?_)
 have hu:=hr.units
 have hu1:=ib hr
 refine ⟨_,(@b9 _ _ _ _ _ (@eA (i:=2) _ _ _ _ _ _ A0.nd rfl (by first | exact Or.inl rfl | exact Or.inr rfl) (aR ia (@bR _ _ _ _ _ _ _ cT (pv 0) az (fun _ _=>rfl)) (@bR _ _ _ _ _ _ _ cT (pv 1) az (fun _ _=>rfl))) (by rfl) (by first | exact .inl rfl | exact .inr rfl | assumption))
  (@b9 _ _ _ _ _ (@i6 _ _ _ _ _ _ _ _ (g7 jq (@bR _ _ _ _ _ _ _ cT (pv 0) az (fun _ _=>rfl)) ju (aK _)) (@ck _ _ _ (@eA (i:=2) _ _ _ _ _ _ A0.nd rfl (by first | exact Or.inl rfl | exact Or.inr rfl) (aR nh (pv 2) az) (by rfl) (by first | exact .inl rfl | exact .inr rfl | assumption))) jv)
  (@b9 _ _ _ _ _ (@i6 _ _ _ _ _ _ _ _ (g7 jq (pv 2) az (aK _)) (@ck _ _ _ (@dS _ _ _ _ (@de _ _ _ _ _ aE))) jv)
  (@ck _ _ _ (@dS _ _ _ _ (@de _ _ _ _ _ (@ai _ _ _ _ _ (@de _ _ _ _ _ (@ai _ _ _ _ _ (@bR _ _ _ _ _ _ _ cT (pv 0) az (fun _ _=>rfl)) (@ai _ _ _ _ _ (pv 2) aE (by rfl)) (by rfl))) aE (by rfl)))))))),?_⟩
 exact iz (b:=yN) (cg (dr (aw ig (aw cV (aq 0) (aA _)) (aw cV (aq 1) (aA _))) (bG 2))
  (cg (jm (gK (aw jt (aw cV (aq 0) (aA _)) (jA _))) (dr (aw nI (aq 2) (aA _)) (bG 2)) jB)
  (cg (jm (gK (aw jt (aq 2) (aA _))) (dU (df aG)) jB)
  (dU (df (ao (df (ao (aw cV (aq 0) (aA _)) (ao (aq 2) aG))) aG)))))) rfl h
def yO:ah->Dm Fl :=
 (aM (a6 (aV aj) (hName 1))
 (aM (jf (hJ (af 0)) (hName 2) (ie (lC (aL (av tw (bF iQ (ae (af 1) aj)) (fC (.int 0)))) (aL (av (gY false) (av aO (av aO (af 1) (mw jr (fC (.int 1)))) (fC (.int 0))) (av aO (af 2) (fC (.int 0)))))) (a6 (av fP (qR my (af 1) gk (jd (mw jr (fC (.int 1))))) (bF wK (ae (av aO (af 1) (mw jr (fC (.int 1)))) (ae (af 2) aj)))) (hName 1)) (a6 (av fP (af 1) (aV (ae (af 2) aj))) (hName 1))))
 (br (af 1))))
def wM:List D->Dm D:=gG 3 yO
def wN:Stmt:=top 19
theorem wO:aI ["word","plain","step"] ["word"] (ax wN):=⟨rfl,rfl,rfl,by decide +kernel,rfl,by decide +kernel,by decide +kernel⟩
theorem Ir {f:Addr} {fd:FuncData} (D:Def K mg "made_plain" wN ["word"] f fd) (T:Txt mg)  {iZ:Addr} {i0:FuncData} (gu:Def K mg "joined" wL ["one","other"] iZ i0) (jY:aH P w K mg base bZ 1 iZ i0 ["one","other"] (cc K 2 wK)):aH P w K mg base bZ 2 f fd ["word"] (cc K 1 wM):=by
 refine D.F.ok wO (fun vs H Q E h=>h.1) (fun cdv A outer s H vs Q E hr h=>?_)
 have hu:=hr.units
 have hu1:=ib hr
 refine ⟨_,(@b9 _ _ _ _ _ (@eA (i:=1) _ _ _ _ _ _ wO.nd rfl (by first | exact Or.inl rfl | exact Or.inr rfl) (@de _ _ _ _ _ aE) (by rfl) (by first | exact .inl rfl | exact .inr rfl | assumption))
  (@b9 _ _ _ _ _ (@oC _ _ _ _ _ _ _ _ PassesOwn.never rfl (sU (pv 0)) (ek (i:=2) wO.nd rfl (by first | exact Or.inl rfl | exact Or.inr rfl)) (@ck _ _ _ (@i6 _ _ _ _ _ _ _ _ (PW.pt (zp (g7 xy (i9 nt (by rfl) T.hU nu (@ai _ _ _ _ _ (pv 1) aE (by rfl))) az (aK _)) (zo (g7 jq (@bR _ _ _ _ _ _ _ cT (@bR _ _ _ _ _ _ _ cT (pv 1) (oD oE az) (fun _ _=>rfl)) az (fun _ _=>rfl)) (@bR _ _ _ _ _ _ _ cT (pv 2) az (fun _ _=>rfl)) (aK _))))) (@ck _ _ _ (@eA (i:=1) _ _ _ _ _ _ wO.nd rfl (by first | exact Or.inl rfl | exact Or.inr rfl) (aR oK (xE zK (pv 1) xB (xC (oD oE az))) (cG jY (hr.mono (by decide)) rfl gu.m gu.F.kp gu.b .nil aF (@ai _ _ _ _ _ (@bR _ _ _ _ _ _ _ cT (pv 1) (oD oE az) (fun _ _=>rfl)) (@ai _ _ _ _ _ (pv 2) aE (by rfl)) (by rfl)))) (by rfl) (by first | exact .inl rfl | exact .inr rfl | assumption))) (@ck _ _ _ (@eA (i:=1) _ _ _ _ _ _ wO.nd rfl (by first | exact Or.inl rfl | exact Or.inr rfl) (aR oK (pv 1) (@de _ _ _ _ _ (@ai _ _ _ _ _ (pv 2) aE (by rfl)))) (by rfl) (by first | exact .inl rfl | exact .inr rfl | assumption))))) (by intro _;rfl))
  (@ck _ _ _ (@dS _ _ _ _ (pv 1))))),?_⟩
 exact iz (b:=yO) (cg (dr (df aG) (bG 1))
  (cg (pb (tH (aq 0)) (bG 2) (jm (Ak (gK (aw xZ (jl nK (ao (aq 1) aG)) (aA _))) (gK (aw jt (aw cV (aw cV (aq 1) (oZ qS (aA _))) (aA _)) (aw cV (aq 2) (aA _))))) (dr (aw o6 (xY Ao (aq 1) xW (xX (oZ qS (aA _)))) (cU (F:=wK) (ao (aw cV (aq 1) (oZ qS (aA _))) (ao (aq 2) aG)) (bu (bu (fun _ _ _ _ h=>cE h))))) (bG 1)) (dr (aw o6 (aq 1) (df (ao (aq 2) aG))) (bG 1))))
  (dU (aq 1)))) rfl h
def yP:ah->Dm Fl :=
 (br (bF wM (ae (av fP (af 0) (af 1)) aj)))
def pH:List D->Dm D:=gG 2 yP
def tU:Stmt:=top 20
theorem Iu:aI ["one","other"] ["one","other"] (ax tU):=⟨rfl,rfl,rfl,by decide +kernel,rfl,by decide +kernel,by decide +kernel⟩
theorem Iv {f:Addr} {fd:FuncData} (D:Def K mg "put_together" tU ["one","other"] f fd) (T:Txt mg)  {d6:Addr} {d7:FuncData} (cB:Def K mg "made_plain" wN ["word"] d6 d7) (fX:aH P w K mg base bZ 2 d6 d7 ["word"] (cc K 1 wM)):aH P w K mg base bZ 3 f fd ["one","other"] (cc K 2 pH):=by
 refine D.F.ok Iu (fun vs H Q E h=>h.1) (fun cdv A outer s H vs Q E hr h=>?_)
 have hu:=hr.units
 have hu1:=ib hr
 refine ⟨_,(@ck _ _ _ (@dS _ _ _ _ (cG fX (hr.mono (by decide)) rfl cB.m cB.F.kp cB.b .nil aF (@ai _ _ _ _ _ (aR oK (pv 0) (pv 1)) aE (by rfl))))),?_⟩
 exact iz (b:=yP) (dU (cU (F:=wM) (ao (aw o6 (aq 0) (aq 1)) aG) (bu (fun _ _ _ _ h=>cE h)))) rfl h
def yQ:ah->Dm Fl :=
 (br (iJ (av (gY false) (bF iQ (ae (af 0) aj)) (fC (.int 4))) (av (gY false) (av bN (av bw (av aO (af 0) (fC (.int 0))) (av aO (af 0) (fC (.int 3)))) (av bw (av aO (af 0) (fC (.int 1))) (av aO (af 0) (fC (.int 2))))) (fC (.int 1)))))
def wQ:List D->Dm D:=gG 1 yQ
def wR:Stmt:=top 10
theorem Iw:aI ["thing"] ["thing"] (ax wR):=⟨rfl,rfl,rfl,by decide +kernel,rfl,by decide +kernel,by decide +kernel⟩
theorem Iy {f:Addr} {fd:FuncData} (D:Def K mg "is_table" wR ["thing"] f fd) (T:Txt mg)  :aH P w K mg base bZ 1 f fd ["thing"] (cc K 1 wQ):=by
 refine D.F.ok Iw (fun vs H Q E h=>h.1) (fun cdv A outer s H vs Q E hr h=>?_)
 have hu:=hr.units
 have hu1:=ib hr
 refine ⟨_,(@ck _ _ _ (@dS _ _ _ _ (uo (mO jq (i9 nt (by rfl) T.hU nu (@ai _ _ _ _ _ (pv 0) aE (by rfl))) az (aK _)) (um (mO jq (aR fK (aR iq (@bR _ _ _ _ _ _ _ cT (pv 0) az (fun _ _=>rfl)) (@bR _ _ _ _ _ _ _ cT (pv 0) az (fun _ _=>rfl))) (aR iq (@bR _ _ _ _ _ _ _ cT (pv 0) az (fun _ _=>rfl)) (@bR _ _ _ _ _ _ _ cT (pv 0) az (fun _ _=>rfl)))) az (aK _)))))),?_⟩
 exact iz (b:=yQ) (dU (vk (aw jt (jl nK (ao (aq 0) aG)) (aA _)) (aw jt (aw fO (aw iA (aw cV (aq 0) (aA _)) (aw cV (aq 0) (aA _))) (aw iA (aw cV (aq 0) (aA _)) (aw cV (aq 0) (aA _)))) (aA _)))) rfl h
def yR:ah->Dm Fl :=
 (aM (ie (aL (av (gY false) (av aO (af 0) (fC (.int 0))) (fC (.int 1)))) (br (bF mU (ae (av aO (af 0) (fC (.int 1))) aj))) cf)
 (br (av fP (aV (ae (aV (ae (fC (.str "t")) (ae (fC (.int 2)) aj))) aj)) (bF mU (ae (mw jr (av aO (af 0) (fC (.int 1)))) aj)))))
def wU:List D->Dm D:=gG 1 yR
def wV:Stmt:=top 28
theorem Iz:aI ["table"] ["table"] (ax wV):=⟨rfl,rfl,rfl,by decide +kernel,rfl,by decide +kernel,by decide +kernel⟩
theorem IA {f:Addr} {fd:FuncData} (D:Def K mg "level_word" wV ["table"] f fd) (T:Txt mg)  {eV:Addr} {eW:FuncData} (bT:Def K mg "shears" tR ["k"] eV eW) (eX:aH P w K mg base bZ 1 eV eW ["k"] (cc K 1 mU)):aH P w K mg base bZ 2 f fd ["table"] (cc K 1 wU):=by
 refine D.F.ok Iz (fun vs H Q E h=>h.1) (fun cdv A outer s H vs Q E hr h=>?_)
 have hu:=hr.units
 have hu1:=ib hr
 refine ⟨_,(@b9 _ _ _ _ _ (@i6 _ _ _ _ _ _ _ _ (g7 jq (@bR _ _ _ _ _ _ _ cT (pv 0) az (fun _ _=>rfl)) az (aK _)) (@ck _ _ _ (@dS _ _ _ _ (cG eX (hr.mono (by decide)) rfl bT.m bT.F.kp bT.b .nil aF (@ai _ _ _ _ _ (@bR _ _ _ _ _ _ _ cT (pv 0) az (fun _ _=>rfl)) aE (by rfl))))) jv)
  (@ck _ _ _ (@dS _ _ _ _ (aR oK (@de _ _ _ _ _ (@ai _ _ _ _ _ (@de _ _ _ _ _ (@ai _ _ _ _ _ ju (@ai _ _ _ _ _ az aE (by rfl)) (by rfl))) aE (by rfl))) (cG eX (hr.mono (by decide)) rfl bT.m bT.F.kp bT.b .nil aF (@ai _ _ _ _ _ (oD oE (@bR _ _ _ _ _ _ _ cT (pv 0) az (fun _ _=>rfl))) aE (by rfl))))))),?_⟩
 exact iz (b:=yR) (cg (jm (gK (aw jt (aw cV (aq 0) (aA _)) (aA _))) (dU (cU (F:=mU) (ao (aw cV (aq 0) (aA _)) aG) (bu (fun _ _ _ _ h=>cE h)))) jB)
  (dU (aw o6 (df (ao (df (ao (jA _) (ao (aA _) aG))) aG)) (cU (F:=mU) (ao (oZ qS (aw cV (aq 0) (aA _))) aG) (bu (fun _ _ _ _ h=>cE h)))))) rfl h
def yS:ah->Dm Fl :=
 (aM (ie (aL (av (gY false) (av aO (af 0) (fC (.int 0))) (fC (.str "s")))) (br (aV (ae (fC (.str "s")) (ae (mw jr (av aO (af 0) (fC (.int 1)))) aj)))) cf)
 (br (aV (ae (fC (.str "t")) (ae (av bN (fC (.int 4)) (av aO (af 0) (fC (.int 1)))) aj)))))
def wW:List D->Dm D:=gG 1 yS
def wX:Stmt:=top 21
theorem IB:aI ["step"] ["step"] (ax wX):=⟨rfl,rfl,rfl,by decide +kernel,rfl,by decide +kernel,by decide +kernel⟩
theorem IC {f:Addr} {fd:FuncData} (D:Def K mg "back_step" wX ["step"] f fd) (T:Txt mg)  :aH P w K mg base bZ 1 f fd ["step"] (cc K 1 wW):=by
 refine D.F.ok IB (fun vs H Q E h=>h.1) (fun cdv A outer s H vs Q E hr h=>?_)
 have hu:=hr.units
 have hu1:=ib hr
 refine ⟨_,(@b9 _ _ _ _ _ (@i6 _ _ _ _ _ _ _ _ (g7 jq (@bR _ _ _ _ _ _ _ cT (pv 0) az (fun _ _=>rfl)) ju (aK _)) (@ck _ _ _ (@dS _ _ _ _ (@de _ _ _ _ _ (@ai _ _ _ _ _ ju (@ai _ _ _ _ _ (oD oE (@bR _ _ _ _ _ _ _ cT (pv 0) az (fun _ _=>rfl))) aE (by rfl)) (by rfl))))) jv)
  (@ck _ _ _ (@dS _ _ _ _ (@de _ _ _ _ _ (@ai _ _ _ _ _ ju (@ai _ _ _ _ _ (aR fK az (@bR _ _ _ _ _ _ _ cT (pv 0) az (fun _ _=>rfl))) aE (by rfl)) (by rfl)))))),?_⟩
 exact iz (b:=yS) (cg (jm (gK (aw jt (aw cV (aq 0) (aA _)) (jA _))) (dU (df (ao (jA _) (ao (oZ qS (aw cV (aq 0) (aA _))) aG)))) jB)
  (dU (df (ao (jA _) (ao (aw fO (aA _) (aw cV (aq 0) (aA _))) aG))))) rfl h
def yT:ah->Dm Fl :=
 (br (bF iw (ae (eE (ll (ae (af 0) aj)) 1 [] (hName 0) eF (bF wW (ae (af 0) aj))) aj)))
def mV:List D->Dm D:=gG 1 yT
def tV:Stmt:=top 22
theorem IE:aI ["word"] ["word"] (ax tV):=⟨rfl,rfl,rfl,by decide +kernel,rfl,by decide +kernel,by decide +kernel⟩
theorem IF {f:Addr} {fd:FuncData} (D:Def K mg "back_word" tV ["word"] f fd) (T:Txt mg)  {eY:Addr} {eZ:FuncData} (c7:Def K mg "back_step" wX ["step"] eY eZ) (gO:aH P w K mg base bZ 1 eY eZ ["step"] (cc K 1 wW)):aH P w K mg base bZ 2 f fd ["word"] (cc K 1 mV):=by
 refine D.F.ok IE (fun vs H Q E h=>h.1) (fun cdv A outer s H vs Q E hr h=>?_)
 have hu:=hr.units
 have hu1:=ib hr
 refine ⟨_,(@ck _ _ _ (@dS _ _ _ _ (qf zD (by rfl) T.hV uN (@ai _ _ _ _ _ (sZ (own:=["step"]) (fr:=[]) (js:=[]) rfl ⟨⟨rfl,by decide +kernel,by decide +kernel,by dsimp only [fL,bj,Cx.mL,Cx.wish,PyProof.Rows.envOfC,compEnvC,relabel,Env.kindOf];decide +kernel,by decide +kernel⟩,rfl⟩ (qC rfl T.kL (@ai _ _ _ _ _ (pv 0) aE (by rfl))) (fun _ _ _ _ _=>(ek (i:=0) (show ((["step"]:List Str) ++ ([]:List Str)).Nodup by decide +kernel) rfl (by first | exact Or.inl rfl | exact Or.inr rfl))) (fun _ _ _ _ _=>uV) (fun _ _ _ _ _=>(cG gO (hr.mono (by decide)) rfl c7.m c7.F.kp c7.b .nil aF (@ai _ _ _ _ _ (pv 0) aE (by rfl))))) aE (by rfl))))),?_⟩
 exact iz (b:=yT) (dU (jl Ar (ao (tJ (Hx (ao (aq 0) aG)) (bG 0) vw (cU (F:=wW) (ao (aq 0) aG) (bu (fun _ _ _ _ h=>cE h)))) aG))) rfl h
def tW:ah->Dm Fl :=
 (aM (ie (jc (aL (bF wQ (ae (af 0) aj)))) (jS "NoTable") (tM cf))
 (aM (tM (a6 (bF wI (ae (aV (ae (av aO (af 0) (fC (.int 0))) (ae (av aO (af 0) (fC (.int 2))) aj))) aj)) (hName 1)))
 (tM (br (bF pH (ae (bF wU (ae (bF lr (ae (bF pG (ae (af 1) aj)) (ae (af 0) aj))) aj)) (ae (bF mV (ae (af 1) aj)) aj)))))))
def ku:List D->Dm D:=gG 2 tW
def tX:Stmt:=top 24
theorem DA:aI ["table","gone"] ["table"] (ax tX):=⟨rfl,rfl,rfl,by decide +kernel,rfl,by decide +kernel,by decide +kernel⟩
theorem IG {f:Addr} {fd:FuncData} (D:Def K mg "word_of" tX ["table"] f fd) (T:Txt mg)  {ay aD a9 bA b6 bf bB bg:Addr} (Z:XF K mg ay aD a9 bA b6 bf bB bg) {dy:Addr} {dz:FuncData} (cb:Def K mg "level_steps" wJ ["pair"] dy dz) (e7:aH P w K mg base bZ 4 dy dz ["pair"] (cc K 1 wI)) {bD:Addr} {bE:FuncData} (aP:Def K mg "put_together" tU ["one","other"] bD bE) (bQ:aH P w K mg base bZ 3 bD bE ["one","other"] (cc K 2 pH)) {gw:Addr} {gA:FuncData} (dD:Def K mg "is_table" wR ["thing"] gw gA) (iC:aH P w K mg base bZ 1 gw gA ["thing"] (cc K 1 wQ)) {d8:Addr} {d9:FuncData} (cC:Def K mg "level_word" wV ["table"] d8 d9) (fY:aH P w K mg base bZ 2 d8 d9 ["table"] (cc K 1 wU)) {cu:Addr} {cw:FuncData} (aT:Def K mg "back_word" tV ["word"] cu cw) (cx:aH P w K mg base bZ 2 cu cw ["word"] (cc K 1 mV)) {cZ:Addr} {c4:FuncData} (bC:Def K mg "times" pF ["one","other"] cZ c4) (dk:aH P w K mg base bZ 1 cZ c4 ["one","other"] (cc K 2 lr)) {c5:Addr} {c6:FuncData} (bL:Def K mg "table_of" tS ["word"] c5 c6) (dC:aH P w K mg base bZ 3 c5 c6 ["word"] (cc K 1 pG)):aH P w K mg base (mj P w) 5 f fd ["table"] (tN K 1 ku):=by
 refine D.F.FV DA (fun vs H Q E h=>h.1) (fun cdv A outer s H vs Q E hr h=>?_)
 have hu:=hr.units
 have hu1:=ib hr
 refine ⟨_,(@b9 _ _ _ _ _ (@i6 _ _ _ _ _ _ _ _ (ot (oq (cG iC (hr.mono (by decide)) rfl dD.m dD.F.kp dD.b .nil aF (@ai _ _ _ _ _ (pv 0) aE (by rfl))))) (@ck _ _ _ (FH PySem.F.excBase_ValueError ⟨Z.jC,Z.eJ⟩ rfl)) jv)
  (@b9 _ _ _ _ _ (@eA (i:=1) _ _ _ _ _ _ DA.nd rfl (by first | exact Or.inl rfl | exact Or.inr rfl) (cG e7 (hr.mono (by decide)) rfl cb.m cb.F.kp cb.b .nil aF (@ai _ _ _ _ _ (@de _ _ _ _ _ (@ai _ _ _ _ _ (@bR _ _ _ _ _ _ _ cT (pv 0) az (fun _ _=>rfl)) (@ai _ _ _ _ _ (@bR _ _ _ _ _ _ _ cT (pv 0) az (fun _ _=>rfl)) aE (by rfl)) (by rfl))) aE (by rfl))) (by rfl) (by first | exact .inl rfl | exact .inr rfl | assumption))
  (@ck _ _ _ (@dS _ _ _ _ (cG bQ (hr.mono (by decide)) rfl aP.m aP.F.kp aP.b .nil aF (@ai _ _ _ _ _ (cG fY (hr.mono (by decide)) rfl cC.m cC.F.kp cC.b .nil aF (@ai _ _ _ _ _ (cG dk (hr.mono (by decide)) rfl bC.m bC.F.kp bC.b .nil aF (@ai _ _ _ _ _ (cG dC (hr.mono (by decide)) rfl bL.m bL.F.kp bL.b .nil aF (@ai _ _ _ _ _ (pv 1) aE (by rfl))) (@ai _ _ _ _ _ (pv 0) aE (by rfl)) (by rfl))) aE (by rfl))) (@ai _ _ _ _ _ (cG cx (hr.mono (by decide)) rfl aT.m aT.F.kp aT.b .nil aF (@ai _ _ _ _ _ (pv 1) aE (by rfl))) aE (by rfl)) (by rfl))))))),?_⟩
 exact sx (b:=tW) (Du (HF (o3 (o1 (cU (F:=wQ) (ao (aq 0) aG) (bu (fun _ _ _ _ h=>cE h))))) (HI Z.aW) (AR jB))
  (Du (AR (dr (cU (F:=wI) (ao (df (ao (aw cV (aq 0) (aA _)) (ao (aw cV (aq 0) (aA _)) aG))) aG) (bu (fun _ _ _ _ h=>cE h))) (bG 1)))
  (AR (dU (cU (F:=pH) (ao (cU (F:=wU) (ao (cU (F:=lr) (ao (cU (F:=pG) (ao (aq 1) aG) (bu (fun _ _ _ _ h=>cE h))) (ao (aq 0) aG)) (bu (bu (fun _ _ _ _ h=>cE h)))) aG) (bu (fun _ _ _ _ h=>cE h))) (ao (cU (F:=mV) (ao (aq 1) aG) (bu (fun _ _ _ _ h=>cE h))) aG)) (bu (bu (fun _ _ _ _ h=>cE h)))))))) rfl h
def yU:ah->Dm Fl :=
 (aM (a6 (eP (ae (jg (iT "NoTable" false) (af 0)) (ae (jg (iT "NoTable" false) (af 0)) (ae (jg (iT "NoTable" true) (af 0)) (ae (jg (iT "NoTable" false) (af 0)) aj))))) (hName 2))
 (aM (a6 (av mz (af 2) (eP (ae (jg (iT "NoTable" false) (af 0)) (ae (jg (iT "NoTable" false) (af 0)) (ae (jg (iT "NoTable" false) (af 0)) aj))))) (hName 2))
 (br (iJ (av (fF false) (af 2) (eE (eQ (ae (fC (.int 7)) aj)) 1 [1] (hName 0) eF (av (gY false) (af 0) (af 1)))) (jg (iT "NoTable" true) (af 0))))))
def wY:List D->Dm D:=gG 3 yU
def wZ:Stmt:=top 36
theorem A1:aI ["_law_e","_law_own","_law_some"] ["_law_e","_law_own"] (ax wZ):=⟨rfl,rfl,rfl,by decide +kernel,rfl,by decide +kernel,by decide +kernel⟩
theorem IH {f:Addr} {fd:FuncData} (D:Def K mg "_law_is_alone" wZ ["_law_e","_law_own"] f fd) (T:Txt mg)  {ay aD a9 bA b6 bf bB bg:Addr} (Z:XF K mg ay aD a9 bA b6 bf bB bg) :aH P w K mg base bZ 1 f fd ["_law_e","_law_own"] (cc K 2 wY):=by
 refine D.F.ok A1 (fun vs H Q E h=>h.1) (fun cdv A outer s H vs Q E hr h=>?_)
 have hu:=hr.units
 have hu1:=ib hr
 refine ⟨_,(@b9 _ _ _ _ _ (@eA (i:=2) _ _ _ _ _ _ A1.nd rfl (by first | exact Or.inl rfl | exact Or.inr rfl) (@kq _ _ _ _ (@ai _ _ _ _ _ (i9 oR (by rfl) T.aQ lP (@ai _ _ _ _ _ (pv 0) (@ai _ _ _ _ _ (oQ (jb.own Z.mH) rfl) aE (by rfl)) (by rfl))) (@ai _ _ _ _ _ (i9 oR (by rfl) T.aQ lP (@ai _ _ _ _ _ (pv 0) (@ai _ _ _ _ _ (oQ (jb.own Z.lH) rfl) aE (by rfl)) (by rfl))) (@ai _ _ _ _ _ (i9 oR (by rfl) T.aQ lP (@ai _ _ _ _ _ (pv 0) (@ai _ _ _ _ _ (oQ (jb.own Z.jC) rfl) aE (by rfl)) (by rfl))) (@ai _ _ _ _ _ (i9 oR (by rfl) T.aQ lP (@ai _ _ _ _ _ (pv 0) (@ai _ _ _ _ _ (oQ (jb.own Z.lI) rfl) aE (by rfl)) (by rfl))) aE (by rfl)) (by rfl)) (by rfl)) (by rfl))) (by rfl) (by first | exact .inl rfl | exact .inr rfl | assumption))
  (@b9 _ _ _ _ _ (@eA (i:=2) _ _ _ _ _ _ A1.nd rfl (by first | exact Or.inl rfl | exact Or.inr rfl) (aR BW (pv 2) (@kq _ _ _ _ (@ai _ _ _ _ _ (i9 oR (by rfl) T.aQ lP (@ai _ _ _ _ _ (pv 0) (@ai _ _ _ _ _ (oQ (jb.own Z.lJ) rfl) aE (by rfl)) (by rfl))) (@ai _ _ _ _ _ (i9 oR (by rfl) T.aQ lP (@ai _ _ _ _ _ (pv 0) (@ai _ _ _ _ _ (oQ (jb.own Z.mG) rfl) aE (by rfl)) (by rfl))) (@ai _ _ _ _ _ (i9 oR (by rfl) T.aQ lP (@ai _ _ _ _ _ (pv 0) (@ai _ _ _ _ _ (oQ (jb.own Z.n6) rfl) aE (by rfl)) (by rfl))) aE (by rfl)) (by rfl)) (by rfl)))) (by rfl) (by first | exact .inl rfl | exact .inr rfl | assumption))
  (@ck _ _ _ (@dS _ _ _ _ (uo (mO (B1 hu) (pv 2) (sZ (own:=["_law_k"]) (fr:=["_law_own"]) (js:=[1]) rfl ⟨⟨rfl,by decide +kernel,by decide +kernel,by dsimp only [fL,bj,Cx.mL,Cx.wish,PyProof.Rows.envOfC,compEnvC,relabel,Env.kindOf];decide +kernel,by decide +kernel⟩,rfl⟩ (sW rfl T.gn (@ai _ _ _ _ _ az aE (by rfl))) (fun _ _ _ _ _=>(ek (i:=0) (show ((["_law_k"]:List Str) ++ (["_law_own"]:List Str)).Nodup by decide +kernel) rfl (by first | exact Or.inl rfl | exact Or.inr rfl))) (fun _ _ _ _ _=>uV) (fun _ _ _ _ _=>(mO jq (pv 0) (pv 1) (aK _)))) (aK _)) (um (i9 oR (by rfl) T.aQ lP (@ai _ _ _ _ _ (pv 0) (@ai _ _ _ _ _ (oQ (jb.blt T.jW HL (by decide)) rfl) aE (by rfl)) (by rfl))))))))),?_⟩
 exact iz (b:=yU) (cg (dr (kr (ao (pA (aq 0) rfl (pB (R:=fun C b=>j7 K C/\PySem.W.kitOne K (.ref C) _=some b) Z.aW ⟨Z.bP,Z.k3⟩)) (ao (pA (aq 0) rfl (pB (R:=fun C b=>j7 K C/\PySem.W.kitOne K (.ref C) _=some b) Z.aW ⟨Z.bP,Z.k2⟩)) (ao (pA (aq 0) rfl (pB (R:=fun C b=>j7 K C/\PySem.W.kitOne K (.ref C) _=some b) Z.aW ⟨Z.bP,Z.k1⟩)) (ao (pA (aq 0) rfl (pB (R:=fun C b=>j7 K C/\PySem.W.kitOne K (.ref C) _=some b) Z.aW ⟨Z.bP,Z.k0⟩)) aG))))) (bG 2))
  (cg (dr (aw CV (aq 2) (kr (ao (pA (aq 0) rfl (pB (R:=fun C b=>j7 K C/\PySem.W.kitOne K (.ref C) _=some b) Z.aW ⟨Z.bP,Z.k6⟩)) (ao (pA (aq 0) rfl (pB (R:=fun C b=>j7 K C/\PySem.W.kitOne K (.ref C) _=some b) Z.aW ⟨Z.bP,Z.k5⟩)) (ao (pA (aq 0) rfl (pB (R:=fun C b=>j7 K C/\PySem.W.kitOne K (.ref C) _=some b) Z.aW ⟨Z.bP,Z.k4⟩)) aG))))) (bG 2))
  (dU (vk (aw (qT false) (aq 2) (tJ (tI (ao (aA _) aG)) (bG 0) vw (aw jt (aq 0) (aq 1)))) (pA (aq 0) rfl (pB (R:=fun C b=>j7 K C/\PySem.W.kitOne K (.ref C) _=some b) Z.aW ⟨Z.bP,Z.k7⟩)))))) rfl h
def yV:ah->Dm Fl :=
 (aM (a6 (fC .non) (hName 1))
 (aM (n4 (jT ku (ae (af 0) aj)) (sA "NoTable") 2 (a6 (af 2) (hName 1)))
 (br (iJ (av (nW true) (af 1) (fC .non)) (bF wY (ae (af 1) (ae (fC (.int 2)) aj)))))))
def n9:List D->Dm D:=gG 3 yV
def w4:Stmt:=top 38
theorem yW:aI ["_law_thing","_law_caught","_law_e"] ["_law_thing"] (ax w4):=⟨rfl,rfl,rfl,by decide +kernel,rfl,by decide +kernel,by decide +kernel⟩
theorem II {f:Addr} {fd:FuncData} (D:Def K mg "_law_none" w4 ["_law_thing"] f fd) (T:Txt mg)  {ay aD a9 bA b6 bf bB bg:Addr} (Z:XF K mg ay aD a9 bA b6 bf bB bg) {dJ:Addr} {dM:FuncData} (aS:Def K mg "word_of" tX ["table"] dJ dM) (cN:aH P w K mg base (mj P w) 5 dJ dM ["table"] (tN K 1 ku)) {cO:Addr} {cP:FuncData} (bM:Def K mg "_law_is_alone" wZ ["_law_e","_law_own"] cO cP) (dN:aH P w K mg base bZ 1 cO cP ["_law_e","_law_own"] (cc K 2 wY)):aH P w K mg base bZ 6 f fd ["_law_thing"] (cc K 1 n9):=by
 refine D.F.ok yW (fun vs H Q E h=>h.1) (fun cdv A outer s H vs Q E hr h=>?_)
 have hu:=hr.units
 have hu1:=ib hr
 refine ⟨_,(@b9 _ _ _ _ _ (@eA (i:=1) _ _ _ _ _ _ yW.nd rfl (by first | exact Or.inl rfl | exact Or.inr rfl) Bl (by rfl) (by first | exact .inl rfl | exact .inr rfl | assumption))
  (@b9 _ _ _ _ _ (qG (i:=2) (F:=aD) ⟨Z.jX,Z.cJ⟩ (by decide) rfl yW.nd rfl rfl (fun pins W=>(@ck _ _ _ (zt (FN cN (hr.mono (by decide)) rfl aS.m aS.F.kp aS.b (@ai _ _ _ _ _ (pv 0) aE (by rfl)))))) (fun a=>(@ck _ _ _ (@eA (i:=1) _ _ _ _ _ _ yW.nd rfl (by first | exact Or.inl rfl | exact Or.inr rfl) (pv 2) (by rfl) (by first | exact .inl rfl | exact .inr rfl | assumption)))))
  (@ck _ _ _ (@dS _ _ _ _ (uo (mO Hq (pv 1) Bl (aK _)) (um (cG dN (hr.mono (by decide)) rfl bM.m bM.F.kp bM.b .nil aF (@ai _ _ _ _ _ (pv 1) (@ai _ _ _ _ _ az aE (by rfl)) (by rfl))))))))),?_⟩
 exact iz (b:=yV) (cg (dr CQ (bG 1))
  (cg (sy (HQ (F:=ku) (ao (aq 0) aG) (bu (fun _ _ _ _ h=>cE h))) (dr (aq 2) (bG 1)) (HK Z.aW Z.cK))
  (dU (vk (aw (se true) (aq 1) CQ) (cU (F:=wY) (ao (aq 1) (ao (aA _) aG)) (bu (bu (fun _ _ _ _ h=>cE h)))))))) rfl h
def yX:ah->Dm Fl :=
 (br (bF iw (ae (eE (jO (mw kY (bF kZ (ae (af 0) aj)))) 2 [] (iy 2 (aZ (hName 0) (aZ (hName 1) iR))) eF (aV (ae (af 0) (ae (av dR (eP (ae (av bN (fC (.int 4)) (af 1)) (ae (av bN (fC (.int 0)) (af 1)) aj))) (bF je (ae (av (gY false) (af 0) (fC (.str "s"))) aj))) aj)))) aj)))
def w6:List D->Dm D:=gG 1 yX
def w8:Stmt:=top 39
theorem IJ:aI ["_law_word_here"] ["_law_word_here"] (ax w8):=⟨rfl,rfl,rfl,by decide +kernel,rfl,by decide +kernel,by decide +kernel⟩
theorem IK {f:Addr} {fd:FuncData} (D:Def K mg "_law_back" w8 ["_law_word_here"] f fd) (T:Txt mg)  :aH P w K mg base bZ 1 f fd ["_law_word_here"] (cc K 1 w6):=by
 refine D.F.ok IJ (fun vs H Q E h=>h.1) (fun cdv A outer s H vs Q E hr h=>?_)
 have hu:=hr.units
 have hu1:=ib hr
 refine ⟨_,(@ck _ _ _ (@dS _ _ _ _ (qf zD (by rfl) T.hV uN (@ai _ _ _ _ _ (sZ (own:=["_law_letter","_law_k"]) (fr:=[]) (js:=[]) rfl ⟨⟨rfl,by decide +kernel,by decide +kernel,by dsimp only [fL,bj,Cx.mL,Cx.wish,PyProof.Rows.envOfC,compEnvC,relabel,Env.kindOf];decide +kernel,by decide +kernel⟩,rfl⟩ (Ec (qv EU (qf ED (by rfl) T.sF EO (@ai _ _ _ _ _ (pv 0) aE (by rfl))))) (fun _ _ _ _ _=>(E9 (K:=K) (n:=2) rfl rfl (gD (ek (i:=0) (show ((["_law_letter","_law_k"]:List Str) ++ ([]:List Str)).Nodup by decide +kernel) rfl (by first | exact Or.inl rfl | exact Or.inr rfl)) (gD (ek (i:=1) (show ((["_law_letter","_law_k"]:List Str) ++ ([]:List Str)).Nodup by decide +kernel) rfl (by first | exact Or.inl rfl | exact Or.inr rfl)) m8)))) (fun _ _ _ _ _=>uV) (fun _ _ _ _ _=>(@de _ _ _ _ _ (@ai _ _ _ _ _ (pv 0) (@ai _ _ _ _ _ (@bR _ _ _ _ _ _ _ (Aa (K:=K) rfl) (@kq _ _ _ _ (@ai _ _ _ _ _ (aR fK az (pv 1)) (@ai _ _ _ _ _ (aR fK az (pv 1)) aE (by rfl)) (by rfl))) (qf zz (by rfl) T.lq xG (@ai _ _ _ _ _ (mO jq (pv 0) ju (aK _)) aE (by rfl))) (fun _ _=>rfl)) aE (by rfl)) (by rfl))))) aE (by rfl))))),?_⟩
 exact iz (b:=yX) (dU (jl Ar (ao (tJ (Gv (qP Gn (jl Gp (ao (aq 0) aG)))) (nR (gF (bG 0) (gF (bG 1) nQ))) vw (df (ao (aq 0) (ao (aw jJ (kr (ao (aw fO (aA _) (aq 1)) (ao (aw fO (aA _) (aq 1)) aG))) (jl As (ao (aw jt (aq 0) (jA _)) aG))) aG)))) aG))) rfl h
def yZ:ah->Dm Fl :=
 (aM (ie (lQ (jc (aL (bF jR (ae (af 0) (ae (fC (.ty "tuple")) aj))))) (jc (aL (bF lD (ae (eE (hJ (af 0)) 1 [] (hName 0) eF (iJ (bF jR (ae (af 0) (ae (fC (.ty "tuple")) aj))) (av (gY false) (bF iQ (ae (af 0) aj)) (fC (.int 2))))) aj))))) (br (fC (.bl false))) cf)
 (aM (jf (hJ (af 0)) (iy 2 (aZ (hName 1) (aZ (hName 2) iR))) (aM (ie (lQ (jc (aL (bF jR (ae (af 2) (ae (fC (.ty "int")) aj))))) (lQ (aL (bF jR (ae (af 2) (ae (fC (.ty "bool")) aj)))) (lQ (aL (av (gY false) (af 2) (fC (.int 0)))) (aL (av (lG true) (af 1) (aV (ae (fC (.str "s")) (ae (fC (.str "t")) aj)))))))) (br (fC (.bl false))) cf)
 (ie (lC (aL (av (gY false) (af 1) (fC (.str "t")))) (jc (aL (jU vn vn (fC (.int 0)) (af 2) (fC (.int 4)))))) (br (fC (.bl false))) cf)))
 (aM (a6 (eE (hJ (af 0)) 1 [] (hName 0) eF (av aO (af 0) (fC (.int 0)))) (hName 3))
 (br (av (fF false) (eE (eQ (ae (av bN (bF iQ (ae (af 3) aj)) (fC (.int 1))) aj)) 1 [3] (hName 0) (aL (av (gY false) (av dR (af 1) (af 0)) (av dR (af 1) (av cF (af 0) (fC (.int 1)))))) (af 0)) (eP aj))))))
def sG:List D->Dm D:=gG 4 yZ
def xa:Stmt:=top 37
theorem y1:aI ["_law_word_here","_law_letter","_law_k","_law_letters"] ["_law_word_here"] (ax xa):=⟨rfl,rfl,rfl,by decide +kernel,rfl,by decide +kernel,by decide +kernel⟩
theorem IL {f:Addr} {fd:FuncData} (D:Def K mg "_law_is_plain" xa ["_law_word_here"] f fd) (T:Txt mg)  :aH P w K mg base bZ 1 f fd ["_law_word_here"] (cc K 1 sG):=by
 refine D.F.ok y1 (fun vs H Q E h=>h.1) (fun cdv A outer s H vs Q E hr h=>?_)
 have hu:=hr.units
 have hu1:=ib hr
 refine ⟨_,(@b9 _ _ _ _ _ (@i6 _ _ _ _ _ _ _ _ (PW.pt (mZ (ot (oq (i9 yh (by rfl) T.aQ lP (@ai _ _ _ _ _ (pv 0) (@ai _ _ _ _ _ (uh (v:=.ty "tuple") rfl T.hV uN rfl) aE (by rfl)) (by rfl))))) (uk (ot (oq (i9 (E6 rfl) (by rfl) T.wb qr (@ai _ _ _ _ _ (sZ (own:=["_law_step"]) (fr:=[]) (js:=[]) rfl ⟨⟨rfl,by decide +kernel,by decide +kernel,by dsimp only [fL,bj,Cx.mL,Cx.wish,PyProof.Rows.envOfC,compEnvC,relabel,Env.kindOf];decide +kernel,by decide +kernel⟩,rfl⟩ (sU (pv 0)) (fun _ _ _ _ _=>(ek (i:=0) (show ((["_law_step"]:List Str) ++ ([]:List Str)).Nodup by decide +kernel) rfl (by first | exact Or.inl rfl | exact Or.inr rfl))) (fun _ _ _ _ _=>uV) (fun _ _ _ _ _=>(uo (i9 (Hv (K:=K) rfl) (by rfl) T.aQ lP (@ai _ _ _ _ _ (pv 0) (@ai _ _ _ _ _ (uh (v:=.ty "tuple") rfl T.hV uN rfl) aE (by rfl)) (by rfl))) (um (mO jq (i9 (E8 (K:=K) rfl) (by rfl) T.hU nu (@ai _ _ _ _ _ (pv 0) aE (by rfl))) az (aK _)))))) aE (by rfl)))))))) (@ck _ _ _ (@dS _ _ _ _ pW)) jv)
  (@b9 _ _ _ _ _ (@oC _ _ _ _ _ _ _ _ PassesOwn.never rfl (sU (pv 0)) (m9 (n:=2) rfl (gD (ek (i:=1) y1.nd rfl (by first | exact Or.inl rfl | exact Or.inr rfl)) (gD (ek (i:=2) y1.nd rfl (by first | exact Or.inl rfl | exact Or.inr rfl)) m8))) (@b9 _ _ _ _ _ (@i6 _ _ _ _ _ _ _ _ (PW.pt (mZ (ot (oq (i9 yh (by rfl) T.aQ lP (@ai _ _ _ _ _ (pv 2) (@ai _ _ _ _ _ (uh (v:=.ty "int") rfl T.lq xG rfl) aE (by rfl)) (by rfl))))) (mZ (oq (i9 yh (by rfl) T.aQ lP (@ai _ _ _ _ _ (pv 2) (@ai _ _ _ _ _ (uh (v:=.ty "bool") rfl T.sE EN rfl) aE (by rfl)) (by rfl)))) (mZ (g7 jq (pv 2) az (aK _)) (uk (g7 (Fb hu) (pv 1) (@de _ _ _ _ _ (@ai _ _ _ _ _ ju (@ai _ _ _ _ _ ju aE (by rfl)) (by rfl))) (by with_unfolding_all rfl))))))) (@ck _ _ _ (@dS _ _ _ _ pW)) jv)
  (@ck _ _ _ (@i6 _ _ _ _ _ _ _ _ (PW.pt (zp (g7 jq (pv 1) ju (aK _)) (zo (ot (Ei zy zy az (pv 2) az))))) (@ck _ _ _ (@dS _ _ _ _ pW)) jv))) (by intro _;rfl))
  (@b9 _ _ _ _ _ (@eA (i:=3) _ _ _ _ _ _ y1.nd rfl (by first | exact Or.inl rfl | exact Or.inr rfl) (sZ (own:=["_law_step"]) (fr:=[]) (js:=[]) rfl ⟨⟨rfl,by decide +kernel,by decide +kernel,by dsimp only [fL,bj,Cx.mL,Cx.wish,PyProof.Rows.envOfC,compEnvC,relabel,Env.kindOf];decide +kernel,by decide +kernel⟩,rfl⟩ (sU (pv 0)) (fun _ _ _ _ _=>(ek (i:=0) (show ((["_law_step"]:List Str) ++ ([]:List Str)).Nodup by decide +kernel) rfl (by first | exact Or.inl rfl | exact Or.inr rfl))) (fun _ _ _ _ _=>uV) (fun _ _ _ _ _=>(@bR _ _ _ _ _ _ _ (E7 (K:=K) rfl) (pv 0) az (fun _ _=>rfl)))) (by rfl) (by first | exact .inl rfl | exact .inr rfl | assumption))
  (@ck _ _ _ (@dS _ _ _ _ (mO (B1 hu) (sZ (own:=["_law_k"]) (fr:=["_law_letters"]) (js:=[3]) rfl ⟨⟨rfl,by decide +kernel,by decide +kernel,by dsimp only [fL,bj,Cx.mL,Cx.wish,PyProof.Rows.envOfC,compEnvC,relabel,Env.kindOf];decide +kernel,by decide +kernel⟩,rfl⟩ (sW rfl T.gn (@ai _ _ _ _ _ (aR fK (i9 nt (by rfl) T.hU nu (@ai _ _ _ _ _ (pv 3) aE (by rfl))) az) aE (by rfl))) (fun _ _ _ _ _=>(ek (i:=0) (show ((["_law_k"]:List Str) ++ (["_law_letters"]:List Str)).Nodup by decide +kernel) rfl (by first | exact Or.inl rfl | exact Or.inr rfl))) (fun _ _ _ _ _=>(qw (g7 jq (@bR _ _ _ _ _ _ _ (Aa (K:=K) rfl) (pv 1) (pv 0) (fun _ _=>rfl)) (@bR _ _ _ _ _ _ _ (Aa (K:=K) rfl) (pv 1) (aR ia (pv 0) az) (fun _ _=>rfl)) (aK _)))) (fun _ _ _ _ _=>(pv 0))) (@kq _ _ _ _ aE) (aK _))))))),?_⟩
 exact iz (b:=yZ) (cg (jm (nG (o3 (o1 (jl yi (ao (aq 0) (ao (xU _) aG))))) (o3 (o1 (jl qX (ao (tJ (tH (aq 0)) (bG 0) vw (vk (jl yi (ao (aq 0) (ao (xU _) aG))) (aw jt (jl nK (ao (aq 0) aG)) (aA _)))) aG))))) (dU (qO _)) jB)
  (cg (pb (tH (aq 0)) (nR (gF (bG 1) (gF (bG 2) nQ))) (cg (jm (nG (o3 (o1 (jl yi (ao (aq 2) (ao (xU _) aG))))) (nG (o1 (jl yi (ao (aq 2) (ao (xU _) aG)))) (nG (gK (aw jt (aq 2) (aA _))) (gK (aw (su true) (aq 1) (df (ao (jA _) (ao (jA _) aG)))))))) (dU (qO _)) jB)
  (jm (Ak (gK (aw jt (aq 1) (jA _))) (o3 (gK (HP Am Am (aA _) (aq 2) (aA _))))) (dU (qO _)) jB)))
  (cg (dr (tJ (tH (aq 0)) (bG 0) vw (aw cV (aq 0) (aA _))) (bG 3))
  (dU (aw (qT false) (tJ (tI (ao (aw fO (jl nK (ao (aq 3) aG)) (aA _)) aG)) (bG 0) (gK (aw jt (aw jJ (aq 1) (aq 0)) (aw jJ (aq 1) (aw ig (aq 0) (aA _))))) (aq 0)) (kr aG)))))) rfl h
def y2:ah->Dm Fl :=
 (aM (jf (eQ (ae (bF la (ae (fC (.int 3)) (ae (bF iQ (ae (qR nJ (af 0) gk (jd (fC (.int 8)))) aj)) aj))) aj)) (hName 1) (aM (a6 (bF wg (ae (af 0) (ae (af 1) aj))) (hName 2))
 (aM (kJ 3 4 (ae (bF fE (ae (af 2) (ae (fC (.int 4)) aj))) (ae (av cF (fC (.int 1)) (bF fE (ae (af 2) (ae (fC (.int 3)) aj)))) aj)))
 (aM (a6 (bF wz (ae (af 2) aj)) (hName 5))
 (aM (a6 (bF (pD ku) (ae (af 5) aj)) (hName 6))
 (aM (ie (lQ (aL (av (fF true) (bF mV (ae (af 6) aj)) (bF w6 (ae (af 6) aj)))) (aL (av (fF true) (bF pH (ae (af 6) (ae (bF mV (ae (af 6) aj)) aj))) (aV aj)))) (br (fC (.bl false))) cf)
 (aM (ie (lQ (jc (aL (bF sG (ae (af 6) aj)))) (lQ (aL (av tw (bF iQ (ae (af 6) aj)) (fC (.int 80)))) (lQ (aL (av (fF true) (bF lK (ae (af 6) aj)) (af 5))) (aL (av (fF true) (bF (pD ku) (ae (af 5) aj)) (af 6)))))) (br (fC (.bl false))) cf)
 (aM (a6 (bF lr (ae (af 5) (ae (af 5) aj))) (hName 7))
 (aM (ie (lQ (jc (aL (bF sG (ae (bF (pD ku) (ae (af 7) aj)) aj)))) (aL (av (fF true) (bF lK (ae (bF (pD ku) (ae (af 7) aj)) aj)) (af 7)))) (br (fC (.bl false))) cf)
 (aM (a6 (av fP (av fP (qR my (af 5) gk (jd (af 3))) (aV (ae (av cF (av aO (af 5) (af 3)) (af 4)) aj))) (qR my (af 5) (jd (av cF (af 3) (fC (.int 1)))) gk)) (hName 8))
 (ie (lC (aL (av (gY true) (av bN (av bw (av aO (af 8) (fC (.int 0))) (av aO (af 8) (fC (.int 3)))) (av bw (av aO (af 8) (fC (.int 1))) (av aO (af 8) (fC (.int 2))))) (fC (.int 1)))) (jc (aL (bF n9 (ae (af 8) aj))))) (br (fC (.bl false))) cf)))))))))))
 (br (iJ (bF n9 (ae (aV (ae (fC (.int 0)) (ae (fC (.int 0)) (ae (fC (.int 0)) (ae (fC (.int 0)) aj))))) aj)) (bF n9 (ae (aV (ae (av bN (fC (.int 0)) (fC (.int 1))) (ae (fC (.int 0)) (ae (fC (.int 0)) (ae (fC (.int 1)) aj))))) aj)))))
def A2:List D->Dm D:=gG 9 y2
def y3:Stmt:=top 42
theorem pI:aI ["_law_script","_law_k","_law_feed_here","_law_place","_law_by","_law_table_here","_law_word_here","_law_twice","_law_other"] ["_law_script"] (ax y3):=⟨rfl,rfl,rfl,by decide +kernel,rfl,by decide +kernel,by decide +kernel⟩
theorem sH {f:Addr} {fd:FuncData} (D:Def K mg "law" y3 ["_law_script"] f fd) (T:Txt mg)  {e8:Addr} {fe:FuncData} (c9:Def K mg "_law_feed" wj ["_law_script","_law_k"] e8 fe) (gP:aH P w K mg base bZ 1 e8 fe ["_law_script","_law_k"] (cc K 2 wg)) {ef:Addr} {eh:FuncData} (cD:Def K mg "_law_drawn" wA ["_law_feed_here"] ef eh) (fZ:aH P w K mg base bZ 4 ef eh ["_law_feed_here"] (cc K 1 wz)) {dJ:Addr} {dM:FuncData} (aS:Def K mg "word_of" tX ["table"] dJ dM) (cN:aH P w K mg base (mj P w) 5 dJ dM ["table"] (tN K 1 ku)) {cZ:Addr} {c4:FuncData} (bC:Def K mg "times" pF ["one","other"] cZ c4) (dk:aH P w K mg base bZ 1 cZ c4 ["one","other"] (cc K 2 lr)) {fg:Addr} {fj:FuncData} (bq:Def K mg "_law_none" w4 ["_law_thing"] fg fj) (dO:aH P w K mg base bZ 6 fg fj ["_law_thing"] (cc K 1 n9)) {aX:Addr} {aY:FuncData} (ag:Def K mg "_law_take" pE ["_law_feed_here","_law_many"] aX aY) (aC:aH P w K mg base bZ 1 aX aY ["_law_feed_here","_law_many"] (cc K 2 fE)) {cu:Addr} {cw:FuncData} (aT:Def K mg "back_word" tV ["word"] cu cw) (cx:aH P w K mg base bZ 2 cu cw ["word"] (cc K 1 mV)) {fm:Addr} {fq:FuncData} (da:Def K mg "_law_back" w8 ["_law_word_here"] fm fq) (gQ:aH P w K mg base bZ 1 fm fq ["_law_word_here"] (cc K 1 w6)) {bD:Addr} {bE:FuncData} (aP:Def K mg "put_together" tU ["one","other"] bD bE) (bQ:aH P w K mg base bZ 3 bD bE ["one","other"] (cc K 2 pH)) {cQ:Addr} {cR:FuncData} (aU:Def K mg "_law_is_plain" xa ["_law_word_here"] cQ cR) (cS:aH P w K mg base bZ 1 cQ cR ["_law_word_here"] (cc K 1 sG)) {b7:Addr} {b8:FuncData} (aJ:Def K mg "_law_table" tP ["_law_word_here"] b7 b8) (bO:aH P w K mg base bZ 2 b7 b8 ["_law_word_here"] (cc K 1 lK)):aH P w K mg base bZ 7 f fd ["_law_script"] (cc K 1 A2):=by
 refine D.F.ok pI (fun vs H Q E h=>h.1) (fun cdv A outer s H vs Q E hr h=>?_)
 have hu:=hr.units
 have hu1:=ib hr
 refine ⟨_,(@b9 _ _ _ _ _ (@oC _ _ _ _ _ _ _ _ PassesOwn.never rfl (sW rfl T.gn (@ai _ _ _ _ _ (i9 (Ej rfl) (by rfl) T.wc qq (@ai _ _ _ _ _ az (@ai _ _ _ _ _ (i9 nt (by rfl) T.hU nu (@ai _ _ _ _ _ (xE EC (pv 0) xB (xC az)) aE (by rfl))) aE (by rfl)) (by rfl))) aE (by rfl))) (ek (i:=1) pI.nd rfl (by first | exact Or.inl rfl | exact Or.inr rfl)) (@b9 _ _ _ _ _ (@eA (i:=2) _ _ _ _ _ _ pI.nd rfl (by first | exact Or.inl rfl | exact Or.inr rfl) (cG gP (hr.mono (by decide)) rfl c9.m c9.F.kp c9.b .nil aF (@ai _ _ _ _ _ (pv 0) (@ai _ _ _ _ _ (pv 1) aE (by rfl)) (by rfl))) (by rfl) (by first | exact .inl rfl | exact .inr rfl | assumption))
  (@b9 _ _ _ _ _ (xt (i:=3) (j:=4) rfl pI.nd rfl rfl (by decide) rfl rfl (@ai _ _ _ _ _ (cG aC (hr.mono (by decide)) rfl ag.m ag.F.kp ag.b .nil aF (@ai _ _ _ _ _ (pv 2) (@ai _ _ _ _ _ az aE (by rfl)) (by rfl))) (@ai _ _ _ _ _ (aR ia az (cG aC (hr.mono (by decide)) rfl ag.m ag.F.kp ag.b .nil aF (@ai _ _ _ _ _ (pv 2) (@ai _ _ _ _ _ az aE (by rfl)) (by rfl)))) aE (by rfl)) (by rfl)) rfl)
  (@b9 _ _ _ _ _ (@eA (i:=5) _ _ _ _ _ _ pI.nd rfl (by first | exact Or.inl rfl | exact Or.inr rfl) (cG fZ (hr.mono (by decide)) rfl cD.m cD.F.kp cD.b .nil aF (@ai _ _ _ _ _ (pv 2) aE (by rfl))) (by rfl) (by first | exact .inl rfl | exact .inr rfl | assumption))
  (@b9 _ _ _ _ _ (@eA (i:=6) _ _ _ _ _ _ pI.nd rfl (by first | exact Or.inl rfl | exact Or.inr rfl) (cG cN (hr.mono (by decide)) rfl aS.m aS.F.kp aS.b .nil yr (@ai _ _ _ _ _ (pv 5) aE (by rfl))) (by rfl) (by first | exact .inl rfl | exact .inr rfl | assumption))
  (@b9 _ _ _ _ _ (@i6 _ _ _ _ _ _ _ _ (PW.pt (mZ (g7 (uP hu) (cG cx (hr.mono (by decide)) rfl aT.m aT.F.kp aT.b .nil aF (@ai _ _ _ _ _ (pv 6) aE (by rfl))) (cG gQ (hr.mono (by decide)) rfl da.m da.F.kp da.b .nil aF (@ai _ _ _ _ _ (pv 6) aE (by rfl))) (aK _)) (uk (g7 (uP hu) (cG bQ (hr.mono (by decide)) rfl aP.m aP.F.kp aP.b .nil aF (@ai _ _ _ _ _ (pv 6) (@ai _ _ _ _ _ (cG cx (hr.mono (by decide)) rfl aT.m aT.F.kp aT.b .nil aF (@ai _ _ _ _ _ (pv 6) aE (by rfl))) aE (by rfl)) (by rfl))) (@de _ _ _ _ _ aE) (aK _))))) (@ck _ _ _ (@dS _ _ _ _ pW)) jv)
  (@b9 _ _ _ _ _ (@i6 _ _ _ _ _ _ _ _ (PW.pt (mZ (ot (oq (cG cS (hr.mono (by decide)) rfl aU.m aU.F.kp aU.b .nil aF (@ai _ _ _ _ _ (pv 6) aE (by rfl))))) (mZ (g7 xy (i9 nt (by rfl) T.hU nu (@ai _ _ _ _ _ (pv 6) aE (by rfl))) az (aK _)) (mZ (g7 (uP hu) (cG bO (hr.mono (by decide)) rfl aJ.m aJ.F.kp aJ.b .nil aF (@ai _ _ _ _ _ (pv 6) aE (by rfl))) (pv 5) (aK _)) (uk (g7 (uP hu) (cG cN (hr.mono (by decide)) rfl aS.m aS.F.kp aS.b .nil yr (@ai _ _ _ _ _ (pv 5) aE (by rfl))) (pv 6) (aK _))))))) (@ck _ _ _ (@dS _ _ _ _ pW)) jv)
  (@b9 _ _ _ _ _ (@eA (i:=7) _ _ _ _ _ _ pI.nd rfl (by first | exact Or.inl rfl | exact Or.inr rfl) (cG dk (hr.mono (by decide)) rfl bC.m bC.F.kp bC.b .nil aF (@ai _ _ _ _ _ (pv 5) (@ai _ _ _ _ _ (pv 5) aE (by rfl)) (by rfl))) (by rfl) (by first | exact .inl rfl | exact .inr rfl | assumption))
  (@b9 _ _ _ _ _ (@i6 _ _ _ _ _ _ _ _ (PW.pt (mZ (ot (oq (cG cS (hr.mono (by decide)) rfl aU.m aU.F.kp aU.b .nil aF (@ai _ _ _ _ _ (cG cN (hr.mono (by decide)) rfl aS.m aS.F.kp aS.b .nil yr (@ai _ _ _ _ _ (pv 7) aE (by rfl))) aE (by rfl))))) (uk (g7 (uP hu) (cG bO (hr.mono (by decide)) rfl aJ.m aJ.F.kp aJ.b .nil aF (@ai _ _ _ _ _ (cG cN (hr.mono (by decide)) rfl aS.m aS.F.kp aS.b .nil yr (@ai _ _ _ _ _ (pv 7) aE (by rfl))) aE (by rfl))) (pv 7) (aK _))))) (@ck _ _ _ (@dS _ _ _ _ pW)) jv)
  (@b9 _ _ _ _ _ (@eA (i:=8) _ _ _ _ _ _ pI.nd rfl (by first | exact Or.inl rfl | exact Or.inr rfl) (aR oK (aR oK (xE zK (pv 5) xB (xC (pv 3))) (@de _ _ _ _ _ (@ai _ _ _ _ _ (aR ia (@bR _ _ _ _ _ _ _ cT (pv 5) (pv 3) (fun _ _=>rfl)) (pv 4)) aE (by rfl)))) (xE zK (pv 5) (xC (aR ia (pv 3) az)) xB)) (by rfl) (by first | exact .inl rfl | exact .inr rfl | assumption))
  (@ck _ _ _ (@i6 _ _ _ _ _ _ _ _ (PW.pt (zp (g7 zx (aR fK (aR iq (@bR _ _ _ _ _ _ _ cT (pv 8) az (fun _ _=>rfl)) (@bR _ _ _ _ _ _ _ cT (pv 8) az (fun _ _=>rfl))) (aR iq (@bR _ _ _ _ _ _ _ cT (pv 8) az (fun _ _=>rfl)) (@bR _ _ _ _ _ _ _ cT (pv 8) az (fun _ _=>rfl)))) az (aK _)) (zo (ot (oq (cG dO (hr.mono (by decide)) rfl bq.m bq.F.kp bq.b .nil aF (@ai _ _ _ _ _ (pv 8) aE (by rfl)))))))) (@ck _ _ _ (@dS _ _ _ _ pW)) jv))))))))))) (by intro _;rfl))
  (@ck _ _ _ (@dS _ _ _ _ (uo (cG dO (hr.mono (by decide)) rfl bq.m bq.F.kp bq.b .nil aF (@ai _ _ _ _ _ (@de _ _ _ _ _ (@ai _ _ _ _ _ az (@ai _ _ _ _ _ az (@ai _ _ _ _ _ az (@ai _ _ _ _ _ az aE (by rfl)) (by rfl)) (by rfl)) (by rfl))) aE (by rfl))) (um (cG dO (hr.mono (by decide)) rfl bq.m bq.F.kp bq.b .nil aF (@ai _ _ _ _ _ (@de _ _ _ _ _ (@ai _ _ _ _ _ (aR fK az az) (@ai _ _ _ _ _ az (@ai _ _ _ _ _ az (@ai _ _ _ _ _ az aE (by rfl)) (by rfl)) (by rfl)) (by rfl))) aE (by rfl)))))))),?_⟩
 exact iz (b:=y2) (cg (pb (tI (ao (jl Gq (ao (aA _) (ao (jl nK (ao (xY qV (aq 0) xW (xX (aA _))) aG)) aG))) aG)) (bG 1) (cg (dr (cU (F:=wg) (ao (aq 0) (ao (aq 1) aG)) (bu (bu (fun _ _ _ _ h=>cE h)))) (bG 2))
  (cg (x8 (ao (cU (F:=fE) (ao (aq 2) (ao (aA _) aG)) (bu (bu (fun _ _ _ _ h=>cE h)))) (ao (aw ig (aA _) (cU (F:=fE) (ao (aq 2) (ao (aA _) aG)) (bu (bu (fun _ _ _ _ h=>cE h))))) aG)))
  (cg (dr (cU (F:=wz) (ao (aq 2) aG) (bu (fun _ _ _ _ h=>cE h))) (bG 5))
  (cg (dr (yt (F:=ku) (ao (aq 5) aG) (bu (fun _ _ _ _ h=>cE h))) (bG 6))
  (cg (jm (nG (gK (aw (qT true) (cU (F:=mV) (ao (aq 6) aG) (bu (fun _ _ _ _ h=>cE h))) (cU (F:=w6) (ao (aq 6) aG) (bu (fun _ _ _ _ h=>cE h))))) (gK (aw (qT true) (cU (F:=pH) (ao (aq 6) (ao (cU (F:=mV) (ao (aq 6) aG) (bu (fun _ _ _ _ h=>cE h))) aG)) (bu (bu (fun _ _ _ _ h=>cE h)))) (df aG)))) (dU (qO _)) jB)
  (cg (jm (nG (o3 (o1 (cU (F:=sG) (ao (aq 6) aG) (bu (fun _ _ _ _ h=>cE h))))) (nG (gK (aw xZ (jl nK (ao (aq 6) aG)) (aA _))) (nG (gK (aw (qT true) (cU (F:=lK) (ao (aq 6) aG) (bu (fun _ _ _ _ h=>cE h))) (aq 5))) (gK (aw (qT true) (yt (F:=ku) (ao (aq 5) aG) (bu (fun _ _ _ _ h=>cE h))) (aq 6)))))) (dU (qO _)) jB)
  (cg (dr (cU (F:=lr) (ao (aq 5) (ao (aq 5) aG)) (bu (bu (fun _ _ _ _ h=>cE h)))) (bG 7))
  (cg (jm (nG (o3 (o1 (cU (F:=sG) (ao (yt (F:=ku) (ao (aq 7) aG) (bu (fun _ _ _ _ h=>cE h))) aG) (bu (fun _ _ _ _ h=>cE h))))) (gK (aw (qT true) (cU (F:=lK) (ao (yt (F:=ku) (ao (aq 7) aG) (bu (fun _ _ _ _ h=>cE h))) aG) (bu (fun _ _ _ _ h=>cE h))) (aq 7)))) (dU (qO _)) jB)
  (cg (dr (aw o6 (aw o6 (xY Ao (aq 5) xW (xX (aq 3))) (df (ao (aw ig (aw cV (aq 5) (aq 3)) (aq 4)) aG))) (xY Ao (aq 5) (xX (aw ig (aq 3) (aA _))) xW)) (bG 8))
  (jm (Ak (gK (aw An (aw fO (aw iA (aw cV (aq 8) (aA _)) (aw cV (aq 8) (aA _))) (aw iA (aw cV (aq 8) (aA _)) (aw cV (aq 8) (aA _)))) (aA _))) (o3 (o1 (cU (F:=n9) (ao (aq 8) aG) (bu (fun _ _ _ _ h=>cE h)))))) (dU (qO _)) jB)))))))))))
  (dU (vk (cU (F:=n9) (ao (df (ao (aA _) (ao (aA _) (ao (aA _) (ao (aA _) aG))))) aG) (bu (fun _ _ _ _ h=>cE h))) (cU (F:=n9) (ao (df (ao (aw fO (aA _) (aA _)) (ao (aA _) (ao (aA _) (ao (aA _) aG))))) aG) (bu (fun _ _ _ _ h=>cE h)))))) rfl h
end
theorem ky {st:Store} {f:Nat} {n:Int} (hf:bI st f) (h0:0 < n) (h1:n < 1073741824):Wp (fE [.ref f,.int n] st) fun d st'=>∃ k:Int,d=.int k/\0<=k/\k < n/\bI st' f/\Ex [f] st st':=by
 obtain ⟨o,m,e,o0,m0,m1⟩:=hf
 have hfl:=mS e
 refine hR ?_
 show Ws (yw [some (.ref f),some (.int n),none,none] st) _ _ _ _
 unfold yw
 refine bX (iS ?_)
 set_option simprocs false in simp only [di,jQ e,nV e]
 refine ⟨fun ho=>?_,fun ho=>?_⟩
 ·refine bX (dW ?_)
  set_option simprocs false in simp only [di,jQ e]
  refine ⟨h0,bX (nS ?_)⟩
  set_option simprocs false in simp only [di,jQ e,nV e,(show jx [D.int o,D.int m].length 0=some 0 from vT)]
  refine ⟨⟨h0,h1⟩,fG ?_⟩
  w_how
  refine ⟨Int.emod_nonneg _ (by omega),Int.emod_lt_of_pos _ h0,⟨o / n,m,?_,Int.ediv_nonneg o0 (by omega),m0,m1⟩,Ex.refl.put (by simp)⟩
  rw [List.getElem?_set_self hfl]
 ·refine jn (bX (dW ?_))
  set_option simprocs false in simp only [di,jQ e]
  refine ⟨by omega,by omega,bX (nS ?_)⟩
  set_option simprocs false in simp only [di,jQ e,nV e,(show jx [D.int o,D.int m].length 1=some 1 from vU)]
  refine ⟨by omega,by omega,fG ?_⟩
  have e2:(st.set f (.lst [.int o,.int ((m * 48271 % 2147483647 * 40692 + 30103) % 2147483399 + 1)]))[f]?=some (.lst [.int o,.int ((m * 48271 % 2147483647 * 40692 + 30103) % 2147483399 + 1)]):=List.getElem?_set_self hfl
  set_option simprocs false in simp only [di,jQ e2]
  refine ⟨by omega,by omega,h0,Int.emod_nonneg _ (by omega),Int.emod_lt_of_pos _ h0,⟨_,_,e2,o0,by omega,by omega⟩,Ex.refl.put (by simp)⟩
theorem IP {st:Store} {a:Nat} {ns:List Int} {k:Nat} (hs:items st a=some (ns.map D.int)) (hk:k<=100):Wp (wg [.ref a,.int (k:Int)] st) fun d st'=>d=.ref st.length/\bI st' st.length/\Ex [] st st':=by
 refine hR ?_
 show Ws (yu [some (.ref a),some (.int (k:Int)),none,none] st) _ _ _ _
 unfold yu
 refine bX (dW ?_)
 w_how
 refine ⟨by omega,bX (Av (N:=fun δ st1=>st1=st/\∃ c:Int,δ=[some (.ref a),some (.int (k:Int)),some (.int c),none]) (iS ?_) ?_)⟩
 ·set_option simprocs false in simp only [di,hs]
  refine ⟨fun h=>dW ?_,fun h=>iS ?_⟩
  ·have h:=of_decide_eq_true h
   rw [List.length_map] at h
   set_option simprocs false in simp only [di,hs]
   refine ⟨.int (ns[k]'(by omega)),BR (by rw [List.getElem?_map,List.getElem?_eq_getElem];rfl),_,rfl⟩
  ·set_option simprocs false in simp only [di,hs]
   refine ⟨fun h=>dW ?_,fun h=>jn ⟨rfl,_,rfl⟩⟩
   have h:=of_decide_eq_true h
   obtain ⟨v,hv,hm⟩:=qu (xs:=ns.map D.int) (i:=(k:Int) % ((ns.map D.int).length:Int)) (Int.emod_nonneg _ (by omega)) (Int.emod_lt_of_pos _ h)
   obtain ⟨c,_,rfl⟩:=List.mem_map.mp hm
   set_option simprocs false in simp only [di,hs]
   refine ⟨h,_,hv,?_⟩
   w_how
   exact ⟨by omega,by omega,by omega,_,rfl⟩
 ·rintro δ st1 ⟨rfl,c,rfl⟩
  refine bX (dW ?_)
  w_how
  refine bX (Av (N:=fun δ st2=>st2=st1/\∃ o:Int,0<=o/\δ=[some (.ref a),some (.int (k:Int)),some (.int c),some (.int o)]) (iS ?_) ?_)
  ·w_how
   refine ⟨by decide,fun h=>dW ?_,fun h=>jn ⟨rfl,0,by decide,rfl⟩⟩
   have h:=of_decide_eq_true h
   w_how
   exact ⟨c,Int.le_trans (by decide) h,rfl⟩
  ·rintro δ st2 ⟨rfl,o,o0,rfl⟩
   refine fG ?_
   w_how
   have h1:0<=c % 2147483629:=Int.emod_nonneg _ (by decide)
   have h2:c % 2147483629 < 2147483629:=Int.emod_lt_of_pos _ (by decide)
   refine ⟨by omega,by omega,by omega,by omega,by omega,by rfl,⟨_,_,j2,o0,?_,?_⟩,Ex.cq _⟩
   ·have:=Int.emod_nonneg ((c % 2147483629 * 48271 + 40692 * (k:Int)) ^ (5:Int).toNat) (show (2147483629:Int)≠0 by decide)
    omega
   ·have:=Int.emod_lt_of_pos ((c % 2147483629 * 48271 + 40692 * (k:Int)) ^ (5:Int).toNat) (show (0:Int) < 2147483629 by decide)
    omega
def tY (g:Int) (s:dA):Prop:=(s.1=false->1<=s.2/\s.2<=3)/\(s.2.natAbs:Int)<=g/\s.2≠0
theorem A3 {st:Store} {f:Nat} {most great:Int} (hf:bI st f) (m0:0<=most) (m1:most<=100) (g0:3<=great) (g1:great<=1000):Wp (wt [.ref f,.int most,.int great] st) fun d st'=>∃ w:List dA,d=.tup (w.map bt)/\(∀ s∈w,tY great s)/\(w.length:Int)<=most/\bI st' f/\Ex [f] st st':=by
 have hfl:=hf.lt
 refine hR ?_
 show Ws (yA [some (.ref f),some (.int most),some (.int great),none,none] st) _ _ _ _
 unfold yA
 refine bX (dW ?_)
 kspl_open hQ
 refine ⟨rfl,hQ _ _ ?_⟩
 clear hQ
 show Ws _ _ _ _ _
 obtain ⟨d,st1,e1,c,rfl,c0,c1,f1,k1⟩:=ky (st:=st ++ [O.lst []]) (n:=most + 1) (hf.keep (Ex.cq _)) (by omega) (by omega)
 obtain ⟨m,rfl⟩:∃ m:Nat,c=(m:Int):=⟨c.toNat,by omega⟩
 have hl1:st1[st.length]?=some (.lst []):=k1.keep _ _ j2 (by simp;omega)
 have kx:Ex [f] st st1:=(Ex.cq _).trans k1
 refine bX (nU (a8 0 m) (fun i δ st2=>∃ (v4:Option D) (w:List dA),δ=[some (.ref f),some (.int most),some (.int great),some (.ref st.length),v4]/\st2[st.length]?=some (.lst (w.map bt))/\(∀ s∈w,tY great s)/\w.length<=i/\bI st2 f/\Ex [f] st st2) ?_ (by rw [kK];omega) ?_ ?_)
 ·kspl_open hQ
  refine ⟨_,_,e1,?_⟩
  exact ⟨_,rfl,by omega,hQ _ _ ⟨by rw [Int.toNat_natCast],none,[],rfl,hl1,(fun s hs=>nomatch hs),Nat.le_refl _,f1,kx⟩⟩
 ·rintro i d δ st2 hd ⟨v4,w,rfl,hl2,hw,hwl,f2,k2⟩
  have hil:=mS hd
  rw [kK] at hil
  have put:∀ (s:dA) (jw:Store),tY great s->bI jw f->jw[st.length]?=some (.lst (w.map bt))->Ex [f] st jw->∀ v4:Option D,∃ (IQ:Option D) (w':List dA),[some (.ref f),some (.int most),some (.int great),some (.ref st.length),v4]=[some (.ref f),some (.int most),some (.int great),some (.ref st.length),IQ]/\(jw.set st.length (.lst (w.map bt ++ [bt s])))[st.length]?=some (.lst (w'.map bt))/\(∀ s∈w',tY great s)/\w'.length<=i + 1/\bI (jw.set st.length (.lst (w.map bt ++ [bt s]))) f/\Ex [f] st (jw.set st.length (.lst (w.map bt ++ [bt s]))):=fun s jw os f5 h5 k5 v4=>by
   refine ⟨v4,w ++ [s],rfl,?_,fun s' hs'=>?_,by rw [List.length_append];simp;omega,f5.ne (by omega),k5.loc (Nat.le_refl _)⟩
   ·rw [List.getElem?_set_self (mS h5),List.map_append];rfl
   ·rcases List.mem_append.mp hs' with h | h
    ·exact hw s' h
    ·rw [List.mem_singleton.mp h];exact os
  kspl_open hQ
  refine hQ _ _ (iS ?_)
  clear hQ
  kspl_open hQ
  refine a7 (ky (n:=2) f2 (by decide) (by decide)) ?_
  rintro d' st3 ⟨b,rfl,b0,b1,f3,k3⟩
  have hl3:=k3.keep _ _ hl2 (by simp;omega)
  w_how
  refine hQ _ _ ⟨fun _=>C6 ?_,fun _=>bX (dW ?_)⟩
  ·clear hQ
   kspl_open hQ
   refine ⟨C9 (by rw [jQ hl3];rfl),?_⟩
   refine a7 (ky (n:=3) f3 (by decide) (by decide)) ?_
   rintro d' jV ⟨c,rfl,c0,c1,f4,k4⟩
   have xb:=k4.keep _ _ hl3 (by simp;omega)
   set_option simprocs false in simp only [di,nV xb]
   refine ⟨rfl,mT (by rw [List.length_map];omega),hQ _ _ ?_⟩
   exact put (false,1 + c) jV ⟨fun _=>⟨by show 1<=1 + c;omega,by show 1 + c<=3;omega⟩,by show ((1 + c).natAbs:Int)<=great;omega,by show 1 + c≠0;omega⟩ f4 xb ((k2.trans k3).trans k4) _
  ·clear hQ
   kspl_open hQ
   refine a7 (ky (n:=great) f3 (by omega) (by omega)) ?_
   rintro d' jV ⟨c,rfl,c0,c1,f4,k4⟩
   have xb:=k4.keep _ _ hl3 (by simp;omega)
   w_how
   refine hQ _ _ (C6 ?_)
   clear hQ
   kspl_open hQ
   refine ⟨C9 (by rw [jQ xb];rfl),rfl,?_⟩
   refine a7 (ky (n:=2) (f4.keep (Ex.cq [O.lst [D.int (1 + c),D.int (0 - (1 + c))]])) (by decide) (by decide)) ?_
   rintro d' jw ⟨g,rfl,JY,JZ,f5,k5⟩
   have xc:jw[jV.length]?=some (.lst [D.int (1 + c),D.int (0 - (1 + c))]):=k5.keep _ _ j2 (by have:=f4.lt;simp;omega)
   have DB:jw[st.length]?=some (.lst (w.map bt)):=k5.keep _ _ (lj xb) (by simp;omega)
   obtain ⟨sg,hsg,s1,s2⟩:∃ sg:Int,fM [D.int (1 + c),D.int (0 - (1 + c))] g=some (.int sg)/\(sg.natAbs:Int)<=great/\sg≠0:=by
    rcases (show g=0\/g=1 by omega) with rfl | rfl
    ·exact ⟨1 + c,pk _ _,by omega,by omega⟩
    ·exact ⟨0 - (1 + c),pq _ _ _,by omega,by omega⟩
   set_option simprocs false in simp only [di,jQ xc,hsg,nV DB]
   refine ⟨rfl,mT (by rw [List.length_map];omega),hQ _ _ ?_⟩
   exact put (true,sg) jw ⟨fun z=>Bool.noConfusion (show true=false from z),s1,s2⟩ f5 DB (((k2.trans k3).trans k4).trans ((Ex.cq _).trans k5)) _
 ·rintro δ st2 ⟨v4,w,rfl,hl2,hw,hwl,f2,k2⟩
  rw [kK] at hwl
  refine fG ?_
  refine fH ?_
  intro gR hQ
  set_option simprocs false in simp only [di,jQ hl2]
  exact hQ _ _ ⟨w,rfl,hw,by omega,f2,k2⟩
def dh (T:au.T4):D:=.tup [.int T.a,.int T.b,.int T.c,.int T.d]
def y4 (A B:au.T4):Prop:=∀ x∈[A.a,A.b,A.c,A.d],∀ y∈[B.a,B.b,B.c,B.d],bJ x y=true
theorem pJ {A B:au.T4} (h:A.le 18446744073709551615):y4 A B:=fun x hx y _=>by
 refine yp ?_
 obtain ⟨h1,h2,h3,h4⟩:=h
 simp only [List.mem_cons,List.not_mem_nil,or_false] at hx
 rcases hx with rfl | rfl | rfl | rfl <;> omega
theorem y6 {A B:au.T4} {M k:Nat} (hk:k<=60000000) (hM:M < P2 k) (h:A.le M) (h':B.le M):y4 A B:=fun x hx y hy=>by
 obtain ⟨h1,h2,h3,h4⟩:=h
 obtain ⟨g1,g2,g3,g4⟩:=h'
 simp only [List.mem_cons,List.not_mem_nil,or_false] at hx hy
 refine yq hk ?_ ?_
 ·rcases hx with rfl | rfl | rfl | rfl <;> omega
 ·rcases hy with rfl | rfl | rfl | rfl <;> omega
theorem y8 {st:Store} {A B:au.T4} (h:y4 A B):Wp (lr [dh A,dh B] st) fun d st'=>d=dh (A.mul B)/\Ex [] st st':=by
 refine hR ?_
 show Ws (yG [some (dh A),some (dh B)] st) _ _ _ _
 unfold yG dh
 refine fG ?_
 have hh:∀ x y:Int,x∈[A.a,A.b,A.c,A.d]->y∈[B.a,B.b,B.c,B.d]->bJ x y=true:=fun x y hx hy=>h x hx y hy
 have a1:∀ y∈[B.a,B.b,B.c,B.d],bJ A.a y=true:=h _ (by simp)
 have a2:∀ y∈[B.a,B.b,B.c,B.d],bJ A.b y=true:=h _ (by simp)
 have a3:∀ y∈[B.a,B.b,B.c,B.d],bJ A.c y=true:=h _ (by simp)
 have a4:∀ y∈[B.a,B.b,B.c,B.d],bJ A.d y=true:=h _ (by simp)
 refine fH ?_
 intro gR hQ
 set_option simprocs false in simp only [di,pC,at2,AF]
 exact ⟨a1 _ (by simp),a2 _ (by simp),a1 _ (by simp),a2 _ (by simp),a3 _ (by simp),a4 _ (by simp),a3 _ (by simp),a4 _ (by simp),rfl,hQ _ _ ⟨rfl,Ex.refl⟩⟩
theorem IU {st:Store} {s:dA} (h:au.cX s):Wp (wD [bt s] st) fun d st'=>d=dh (au.gC s)/\Ex [] st st':=by
 obtain ⟨b,k⟩:=s
 refine hR ?_
 show Ws (yH [some (bt (b,k)),none,none] st) _ _ _ _
 unfold yH bt
 cases b with
 | true =>
  refine bX (iS ?_)
  kspl_open hQ
  refine hQ _ _ ⟨fun _=>fG ?_,fun h=>absurd h (by decide)⟩
  clear hQ
  kspl_open hQ
  exact ⟨rfl,hQ _ _ ⟨rfl,Ex.refl⟩⟩
 | false =>
  obtain ⟨k1,k3⟩:=h.1 rfl
  simp only at k1 k3
  obtain ⟨j,rfl⟩:∃ j:Nat,k=(j:Int):=⟨k.toNat,by omega⟩
  refine bX (iS ?_)
  kspl_open hQ
  refine hQ _ _ ⟨fun h=>absurd h (by decide),fun _=>jn (bX (dW ?_))⟩
  clear hQ
  kspl_open hQ
  refine hQ _ _ ?_
  clear hQ
  show Ws _ _ _ _ _
  refine bX (nU (a8 0 j) (fun i δ st2=>∃ v:Option D,δ=[some (.tup [.str "t",.int (j:Int)]),some (dh (au.qp i)),v]/\Ex [] st st2) ?_ (by rw [kK];omega) ?_ ?_)
  ·kspl_open hQ
   exact ⟨by omega,hQ _ _ ⟨by rw [Int.toNat_natCast],none,rfl,Ex.refl⟩⟩
  ·rintro i d δ st2 hd ⟨v,rfl,k2⟩
   kspl_open hQ
   refine hQ _ _ (dW ?_)
   clear hQ
   kspl_open hQ
   refine a7 (y8 (A:=au.T4.qt) (B:=au.qp i) (pJ ⟨by decide,by decide,by decide,by decide⟩)) ?_
   rintro d st3 ⟨rfl,k3⟩
   exact hQ _ _ ⟨_,rfl,k2.trans k3⟩
  ·rintro δ st2 ⟨v,rfl,k2⟩
   rw [kK]
   refine fG ?_
   kspl_open hQ
   refine hQ _ _ ⟨?_,k2⟩
   show dh (au.qp j)=dh (au.qp (j:Int).toNat)
   rw [Int.toNat_natCast]
theorem DC {s:dA} {B:Nat} (h:au.cX s) (hs:s.2.natAbs<=B):(au.gC s).le (B + 1):=by
 have:=au.oW (T:=au.T4.one) (s:=s) (M:=1) (B:=B) ⟨by decide,by decide,by decide,by decide⟩ h hs
 rwa [au.T4.mul_one,Nat.mul_one] at this
theorem pK {T:au.T4} {M N:Nat} (h:T.le M) (hn:M<=N):T.le N:=⟨Nat.le_trans h.1 hn,Nat.le_trans h.2.1 hn,Nat.le_trans h.2.2.1 hn,Nat.le_trans h.2.2.2 hn⟩
theorem y9 {w:List dA} {b n:Nat} (hw:∀ s∈w,au.cX s/\s.2.natAbs + 1<=P2 b) (hn:w.length<=n):(au.aB w).le (P2 (b * n)):=by
 have:=au.CJ (B:=P2 b - 1) (n:=n) (w:=w) (fun s hs=>⟨(hw s hs).1,by have:=(hw s hs).2;omega⟩) hn
 rwa [show P2 b - 1 + 1=P2 b by have:=mr b;omega,qI] at this
theorem DE {st:Store} {w:List dA} {b:Nat} (hb:b<=50000) (hw:∀ s∈w,au.cX s/\s.2.natAbs + 1<=P2 b) (hl:w.length<=1000):Wp (pG [.tup (w.map bt)] st) fun d st'=>d=dh (au.aB w)/\Ex [] st st':=by
 refine hR ?_
 show Ws (yJ [some (.tup (w.map bt)),none,none] st) _ _ _ _
 unfold yJ
 refine bX (dW ?_)
 kspl_open hQ
 refine hQ _ _ ?_
 clear hQ
 show Ws _ _ _ _ _
 refine bX (nU (w.map bt) (fun i δ st2=>∃ v:Option D,δ=[some (.tup (w.map bt)),some (dh (au.aB (w.take i))),v]/\Ex [] st st2) ?_ (by rw [List.length_map];omega) ?_ ?_)
 ·kspl_open hQ
  exact hQ _ _ ⟨rfl,none,rfl,Ex.refl⟩
 ·rintro i d δ st2 hd ⟨v2,rfl,k2⟩
  rw [List.getElem?_map] at hd
  obtain ⟨s,hs,rfl⟩:=Option.map_eq_some_iff.mp hd
  obtain ⟨hil,es⟩:=List.getElem?_eq_some_iff.mp hs
  have hsw:=hw s (List.mem_of_getElem? hs)
  kspl_open hQ
  refine hQ _ _ (dW ?_)
  clear hQ
  kspl_open hQ
  refine a7 (IU hsw.1) ?_
  rintro d st3 ⟨rfl,k3⟩
  refine a7 (y8 (y6 (M:=P2 (b * 1000)) (k:=b * 1000 + 1) (by omega) (by rw [mv];have:=mr (b * 1000);omega) (pK (DC (B:=P2 b - 1) hsw.1 (by omega)) (by have:=mr b;have:=nD (show b<=b * 1000 by omega);omega)) (y9 (fun s hs=>hw s (List.mem_of_mem_take hs)) (by rw [List.length_take];omega)))) ?_
  rintro d jV ⟨rfl,k4⟩
  refine hQ _ _ ⟨some (bt s),?_,(k2.trans k3).trans k4⟩
  rw [List.take_succ_eq_append_getElem hil,au.oV,es]
  rfl
 ·rintro δ st2 ⟨v2,rfl,k2⟩
  rw [List.length_map,List.take_length]
  refine fG ?_
  kspl_open hQ
  exact hQ _ _ ⟨rfl,k2⟩
theorem IV {st:Store} {a b:dA}:Wp (wK [bt a,bt b] st) fun d st'=>d=.tup ((au.bS a b).map bt)/\Ex [] st st':=by
 obtain ⟨ab,ak⟩:=a
 obtain ⟨bb,bk⟩:=b
 refine hR ?_
 show Ws (yN [some (.tup [.str (if ab then "s" else "t"),.int ak]),some (.tup [.str (if bb then "s" else "t"),.int bk]),none] st) _ _ _ _
 unfold yN
 have hj:au.bS (ab,ak) (bb,bk)=if au.eO (ab,ak) (bb,bk)=0 then [] else [(ab,au.eO (ab,ak) (bb,bk))]:=rfl
 refine bX (dW ?_)
 kspl_open hQ
 refine hQ _ _ ?_
 clear hQ
 show Ws _ _ _ _ _
 refine bX (Av (N:=fun δ st1=>st1=st/\δ=[some (.tup [.str (if ab then "s" else "t"),.int ak]),some (.tup [.str (if bb then "s" else "t"),.int bk]),some (.int (au.eO (ab,ak) (bb,bk)))]) (iS ?_) ?_)
 ·kspl_open hQ
  refine hQ _ _ ⟨fun h=>dW ?_,fun h=>jn ⟨rfl,?_⟩⟩
  ·cases ab with
   | true=>exact absurd h (by decide)
   | false =>
    clear hQ
    kspl_open hQ
    exact ⟨by decide,hQ _ _ ⟨rfl,rfl⟩⟩
  ·cases ab with
   | true=>rfl
   | false=>exact absurd h (by decide)
 ·rintro δ st1 ⟨rfl,rfl⟩
  refine bX (iS ?_)
  kspl_open hQ
  refine hQ _ _ ⟨fun h=>fG ?_,fun h=>jn (fG ?_)⟩
  ·have h:=of_decide_eq_true h
   clear hQ
   kspl_open hQ
   refine ⟨rfl,hQ _ _ ⟨?_,Ex.refl⟩⟩
   rw [hj,if_pos h];rfl
  ·have h:=of_decide_eq_false h
   clear hQ
   kspl_open hQ
   refine ⟨rfl,rfl,hQ _ _ ⟨?_,Ex.refl⟩⟩
   rw [hj,if_neg h];rfl
theorem DF {xs:List D} {x:D}:fM (xs ++ [x]) (-1)=some x:=by
 unfold fM jx
 rw [List.length_append,if_neg (by decide),if_pos (by simp;omega)]
 simp only [Option.bind_some]
 have e:((-1:Int) + ((xs.length + [x].length:Nat):Int)).toNat=xs.length:=by simp only [List.length_singleton];omega
 rw [e];simp
theorem IW {xs:List D} {x:D}:cutD (xs ++ [x]) none (some (-1))=xs:=by
 have e1:HT.bY (xs ++ [x]).length 0 none=0:=rfl
 have e2:HT.bY (xs ++ [x]).length (xs ++ [x]).length (some (-1))=xs.length:=by
  unfold HT.bY
  simp only
  rw [if_pos (by decide),List.length_append,List.length_singleton];omega
 unfold cutD
 rw [e1,e2,List.drop_zero,Nat.sub_zero]
 simp
theorem IX (a b:Bool):(((if a=true then ("s" : Str) else "t")=(if b=true then ("s" : Str) else "t")))↔a=b:=by
 cases a <;> cases b <;> decide
theorem IY {st:Store} {w:List dA} (hl:w.length<=1000):Wp (wM [.tup (w.map bt)] st) fun d st'=>d=.tup ((au.jy w).reverse.map bt)/\Ex [] st st':=by
 refine hR ?_
 show Ws (yO [some (.tup (w.map bt)),none,none] st) _ _ _ _
 unfold yO
 refine bX (dW ?_)
 kspl_open hQ
 refine ⟨rfl,hQ _ _ ?_⟩
 clear hQ
 show Ws _ _ _ _ _
 refine bX (nU (w.map bt) (fun i δ st2=>∃ v:Option D,δ=[some (.tup (w.map bt)),some (.tup ((au.jy (w.take i)).reverse.map bt)),v]/\Ex [] st st2) ?_ (by rw [List.length_map];omega) ?_ ?_)
 ·kspl_open hQ
  exact hQ _ _ ⟨rfl,none,rfl,Ex.refl⟩
 ·rintro i d δ st2 hd ⟨v2,rfl,k2⟩
  rw [List.getElem?_map] at hd
  obtain ⟨s,hs,rfl⟩:=Option.map_eq_some_iff.mp hd
  obtain ⟨hil,es⟩:=List.getElem?_eq_some_iff.mp hs
  have ep:au.jy (w.take (i + 1))=au.b5 (au.jy (w.take i)) s:=by rw [List.take_succ_eq_append_getElem hil,au.FY,es];rfl
  have hpl:(au.jy (w.take i)).length<=1000:=by have:=au.CF (w.take i);rw [List.length_take] at this;omega
  rw [ep]
  clear ep
  generalize au.jy (w.take i)=l at hpl ⊢
  kspl_open hQ
  refine hQ _ _ (iS ?_)
  clear hQ
  kspl_open hQ
  cases l with
  | nil =>
   refine hQ _ _ ⟨fun h=>absurd h (by decide),fun _=>dW ?_⟩
   clear hQ
   kspl_open hQ
   exact ⟨rfl,rfl,hQ _ _ ⟨some (bt s),rfl,k2⟩⟩
  | cons t r =>
   have eg:(t :: r).reverse.map bt=r.reverse.map bt ++ [bt t]:=by simp
   rw [eg]
   have el:decide ((0:Int) < ((r.reverse.map bt ++ [bt t]).length:Nat))=true:=decide_eq_true (by simp)
   have es1:bt t=.tup [.str (if t.1 then "s" else "t"),.int t.2]:=rfl
   have IZ:bt s=.tup [.str (if s.1 then "s" else "t"),.int s.2]:=rfl
   have elt:(if t.1=true then ("s" : Str) else "t")=(if s.1=true then ("s" : Str) else "t")↔t.1=s.1:=IX _ _
   set_option simprocs false in simp only [di,DF,es1,IZ]
   rw [if_pos (by simp)]
   refine hQ _ _ ⟨fun h=>dW ?_,fun h=>dW ?_⟩
   ·have h:=elt.mp (of_decide_eq_true h)
    clear hQ
    kspl_open hQ
    rw [eg,IW]
    set_option simprocs false in simp only [di,DF]
    refine a7 IV ?_
    rintro d st3 ⟨rfl,k3⟩
    w_how
    refine ⟨mT ?_,hQ _ _ ⟨some (bt s),?_,k2.trans k3⟩⟩
    ·have:(au.bS t s).length<=1:=by unfold au.bS;split <;> simp
     simp only [List.length_map,List.length_reverse]
     simp only [List.length_cons] at hpl
     omega
    ·have ej:(au.bS t s).reverse=au.bS t s:=by unfold au.bS;split <;> rfl
     rw [au.nE,if_pos h,List.reverse_append,List.map_append,ej]
     rfl
   ·have h:=fun e=>of_decide_eq_false h (elt.mpr e)
    clear hQ
    kspl_open hQ
    refine ⟨rfl,mT ?_,hQ _ _ ⟨some (bt s),?_,k2⟩⟩
    ·simp only [List.length_map,List.length_reverse,List.length_singleton]
     omega
    ·have e2:(s :: t :: r).reverse.map bt=(t :: r).reverse.map bt ++ [bt s]:=by simp
     rw [au.nE,if_neg h,e2]
     rfl
 ·rintro δ st2 ⟨v2,rfl,k2⟩
  rw [List.length_map,List.take_length]
  refine fG ?_
  kspl_open hQ
  exact hQ _ _ ⟨rfl,k2⟩
theorem DG {st:Store} {v w:List dA} (hl:v.length + w.length<=1000):Wp (pH [.tup (v.map bt),.tup (w.map bt)] st) fun d st'=>d=.tup ((au.jy (v ++ w)).reverse.map bt)/\Ex [] st st':=by
 refine hR ?_
 show Ws (yP [some (.tup (v.map bt)),some (.tup (w.map bt))] st) _ _ _ _
 unfold yP
 refine fG ?_
 kspl_open hQ
 refine ⟨mT (by simp only [List.length_map];omega),?_⟩
 rw [<- List.map_append]
 refine a7 (IY (by rw [List.length_append];exact hl)) ?_
 rintro d st3 ⟨rfl,k3⟩
 exact hQ _ _ ⟨rfl,k3⟩
theorem I0 {st:Store} {s:dA}:Wp (wW [bt s] st) fun d st'=>d=bt (au.gX s)/\Ex [] st st':=by
 obtain ⟨b,k⟩:=s
 refine hR ?_
 show Ws (yS [some (.tup [.str (if b then "s" else "t"),.int k])] st) _ _ _ _
 unfold yS
 refine bX (iS ?_)
 cases b with
 | true =>
  kspl_open hQ
  refine hQ _ _ ⟨fun _=>fG ?_,fun h=>absurd h (by decide)⟩
  clear hQ
  kspl_open hQ
  exact ⟨rfl,hQ _ _ ⟨rfl,Ex.refl⟩⟩
 | false =>
  kspl_open hQ
  refine hQ _ _ ⟨fun h=>absurd h (by decide),fun _=>jn (fG ?_)⟩
  clear hQ
  kspl_open hQ
  exact ⟨rfl,hQ _ _ ⟨rfl,Ex.refl⟩⟩
theorem A4 {st:Store} {w:List dA} (hl:w.length<=1000):Wp (mV [.tup (w.map bt)] st) fun d st'=>d=.tup ((au.fD w).map bt)/\Ex [] st st':=by
 refine hR ?_
 show Ws (yT [some (.tup (w.map bt))] st) _ _ _ _
 unfold yT
 refine fG ?_
 kspl_open hQ
 refine Ht (w.reverse.map bt) (fun i y=>∃ s,w.reverse[i]?=some s/\y=bt (au.gX s)) (Ex [] st) ?_ (by rw [List.length_map,List.length_reverse];omega) ?_ ?_
 ·refine fH ?_
  intro oa iU
  set_option simprocs false in simp only [di,Hy]
  refine ⟨_,rfl,iU _ _ ⟨fun i st2 hi _=>?_,Ex.refl⟩⟩
  rw [<- List.map_reverse]
  exact vV _ st2 i st2 hi Ex.refl
 ·intro i d hd st1 k1
  rw [List.getElem?_map] at hd
  obtain ⟨s,hs,rfl⟩:=Option.map_eq_some_iff.mp hd
  kspl_open iU
  refine a7 I0 ?_
  rintro d st3 ⟨rfl,k3⟩
  exact iU _ _ ⟨⟨s,hs,rfl⟩,k1.trans k3⟩
 ·intro ys st' k' hy h
  w_how
  refine hQ _ _ ⟨?_,k'.app _⟩
  congr 1
  refine List.ext_getElem? fun i=>?_
  rw [List.length_map,List.length_reverse] at hy
  have eb:au.fD w=w.reverse.map au.gX:=by unfold au.fD;rw [List.map_reverse]
  rw [eb,List.getElem?_map,List.getElem?_map]
  rcases Nat.lt_or_ge i ys.length with hi | hi
  ·obtain ⟨s,hs,e⟩:=h i ys[i] (List.getElem?_eq_getElem hi)
   rw [hs,List.getElem?_eq_getElem hi,e];rfl
  ·rw [List.getElem?_eq_none hi,List.getElem?_eq_none (by rw [List.length_reverse];omega)];rfl
theorem DH {st:Store} {A B:au.T4} (h:y4 A B):Wp (wk [dh A,dh B] st) fun d st'=>d=dh (A.mul B)/\Ex [] st st':=by
 refine hR ?_
 show Ws (yx [some (dh A),some (dh B),none,none,none,none,none,none,none,none] st) _ _ _ _
 unfold yx dh
 have a1:∀ y∈[B.a,B.b,B.c,B.d],bJ A.a y=true:=h _ (by simp)
 have a2:∀ y∈[B.a,B.b,B.c,B.d],bJ A.b y=true:=h _ (by simp)
 have a3:∀ y∈[B.a,B.b,B.c,B.d],bJ A.c y=true:=h _ (by simp)
 have a4:∀ y∈[B.a,B.b,B.c,B.d],bJ A.d y=true:=h _ (by simp)
 refine bX (nS ?_)
 kspl_open hQ
 refine hQ _ _ ?_
 clear hQ
 kspl_open hQ
 refine ⟨rfl,hQ _ _ (bX (nS ?_))⟩
 clear hQ
 kspl_open hQ
 refine hQ _ _ ?_
 clear hQ
 kspl_open hQ
 refine ⟨rfl,hQ _ _ (fG ?_)⟩
 clear hQ
 refine fH ?_
 intro gR hQ
 set_option simprocs false in simp only [di,pC]
 exact ⟨a1 _ (by simp),a2 _ (by simp),a1 _ (by simp),a2 _ (by simp),a3 _ (by simp),a4 _ (by simp),a3 _ (by simp),a4 _ (by simp),rfl,hQ _ _ ⟨rfl,Ex.refl⟩⟩
theorem A5 {st:Store} {w:List dA} {b0:Nat} (hb0:b0<=50000) (hw:∀ s∈w,au.cX s/\s.2.natAbs + 1<=P2 b0) (hl:w.length<=1000):Wp (lK [.tup (w.map bt)] st) fun d st'=>d=dh (au.aB w)/\Ex [] st st':=by
 refine hR ?_
 show Ws (yy [some (.tup (w.map bt)),none,none,none,none] st) _ _ _ _
 unfold yy
 refine bX (dW ?_)
 kspl_open hQ
 refine ⟨rfl,hQ _ _ ?_⟩
 clear hQ
 show Ws _ _ _ _ _
 refine bX (nU (w.map bt) (fun i δ st2=>∃ v1 v2 v3:Option D,δ=[some (.tup (w.map bt)),some (dh (au.aB (w.take i))),v1,v2,v3]/\Ex [] st st2) ?_ (by rw [List.length_map];omega) ?_ ?_)
 ·kspl_open hQ
  exact hQ _ _ ⟨rfl,none,none,none,rfl,Ex.refl⟩
 ·rintro i d δ st2 hd ⟨v1,v2,v3,rfl,k2⟩
  rw [List.getElem?_map] at hd
  obtain ⟨s,hs,rfl⟩:=Option.map_eq_some_iff.mp hd
  obtain ⟨hil,es⟩:=List.getElem?_eq_some_iff.mp hs
  obtain ⟨hp,hb⟩:=hw s (List.mem_of_getElem? hs)
  have en:au.aB (w.take (i + 1))=(au.gC s).mul (au.aB (w.take i)):=by rw [List.take_succ_eq_append_getElem hil,au.oV,es]
  rw [en]
  clear en
  have hT:=y9 (w:=w.take i) (n:=1000) (fun s hs=>hw s (List.mem_of_mem_take hs)) (by rw [List.length_take];omega)
  generalize au.aB (w.take i)=T at hT ⊢
  obtain ⟨b,k⟩:=s
  have es1:bt (b,k)=.tup [.str (if b then "s" else "t"),.int k]:=rfl
  rw [es1]
  kspl_open hQ
  refine ⟨rfl,hQ _ _ ?_⟩
  clear hQ
  show Ws _ _ _ _ _
  cases b with
  | true =>
   refine nU (a8 0 1) (fun i δ st3=>∃ v3:Option D,δ=[some (.tup (w.map bt)),some (dh (if i=0 then T else (au.gC (true,k)).mul T)),some (.str "s"),some (.int k),v3]/\Ex [] st st3) ?_ (by rw [kK];omega) ?_ ?_
   ·kspl_open hQ
    refine ⟨rfl,.int 1,by rw [if_neg (by decide)];exact pk _ _,_,rfl,?_⟩
    exact ⟨by decide,hQ _ _ ⟨rfl,_,rfl,k2.trans (Ex.cq _)⟩⟩
   ·rintro i d δ st3 hd ⟨w3,rfl,k3⟩
    have hi0:i=0:=by have:=mS hd;rw [kK] at this;omega
    subst hi0
    kspl_open hQ
    refine hQ _ _ (dW ?_)
    clear hQ
    kspl_open hQ
    refine ⟨rfl,rfl,rfl,dh (au.gC (true,k)),by rw [if_neg (by decide)];exact pk _ _,?_⟩
    refine a7 (DH (A:=au.gC (true,k)) (B:=T) (y6 (M:=P2 (b0 * 1000)) (k:=b0 * 1000 + 1) (by omega) (by rw [mv];have:=mr (b0 * 1000);omega) (pK (DC (B:=P2 b0 - 1) hp (by omega)) (by have:=mr b0;have:=nD (show b0<=b0 * 1000 by omega);omega)) hT)) ?_
    rintro d jV ⟨rfl,k4⟩
    exact hQ _ _ ⟨_,rfl,(k3.trans (Ex.cq _)).trans k4⟩
   ·rintro δ st3 ⟨w3,rfl,k3⟩
    exact ⟨_,_,_,rfl,k3⟩
  | false =>
   obtain ⟨j1,j3⟩:=hp.1 rfl
   simp only at j1 j3
   obtain ⟨j,rfl⟩:∃ j:Nat,k=(j:Int):=⟨k.toNat,by omega⟩
   refine nU (a8 0 j) (fun i δ st3=>∃ v3:Option D,δ=[some (.tup (w.map bt)),some (dh ((au.qp i).mul T)),some (.str "t"),some (.int (j:Int)),v3]/\Ex [] st st3) ?_ (by rw [kK];omega) ?_ ?_
   ·kspl_open hQ
    refine ⟨rfl,.int (j:Int),by rw [if_pos (by decide)];exact pq _ _ _,_,rfl,?_⟩
    refine ⟨by omega,hQ _ _ ⟨by rw [Int.toNat_natCast],v3,?_,k2.trans (Ex.cq _)⟩⟩
    rw [show (au.qp 0).mul T=T from au.T4.one_mul T]
    rfl
   ·rintro i d δ st3 hd ⟨w3,rfl,k3⟩
    kspl_open hQ
    refine hQ _ _ (dW ?_)
    clear hQ
    kspl_open hQ
    refine ⟨rfl,rfl,rfl,dh au.T4.qt,by rw [if_pos (by decide)];exact pq _ _ _,?_⟩
    refine a7 (DH (A:=au.T4.qt) (B:=(au.qp i).mul T) (pJ ⟨by decide,by decide,by decide,by decide⟩)) ?_
    rintro d' jV ⟨rfl,k4⟩
    refine hQ _ _ ⟨some d,?_,(k3.trans (Ex.cq _)).trans k4⟩
    rw [show (au.qp (i + 1)).mul T=au.T4.qt.mul ((au.qp i).mul T) from au.T4.assoc _ _ _]
    rfl
   ·rintro δ st3 ⟨w3,rfl,k3⟩
    rw [kK]
    exact ⟨_,_,_,rfl,k3⟩
 ·rintro δ st2 ⟨v1,v2,v3,rfl,k2⟩
  rw [List.length_map,List.take_length]
  refine fG ?_
  kspl_open hQ
  exact hQ _ _ ⟨rfl,k2⟩
theorem DI {st:Store} {w:List dA} (hw:∀ s∈w,au.cX s/\s.2.natAbs<=1000000) (hl:w.length<=1000):Wp (lK [.tup (w.map bt)] st) fun d st'=>d=dh (au.aB w)/\Ex [] st st':=A5 (b0:=20) (by decide) (fun s hs=>⟨(hw s hs).1,Nat.le_trans (Nat.succ_le_succ (hw s hs).2) (by decide)⟩) hl
def mJ (s:dA):D×D:=(.str (if s.1 then "s" else "t"),.int s.2)
def sI:D×D->dA
 | (.str x,.int k)=>(decide (x="s"),k)
 | _=>(true,0)
theorem DJ (s:dA):sI (mJ s)=s:=by
 obtain ⟨b,k⟩:=s
 cases b <;> rfl
theorem Ja {st:Store} {w:List dA} (hl:w.length<=1000):Wp (w6 [.tup (w.map bt)] st) fun d st'=>d=.tup ((au.fD w).map bt)/\Ex [] st st':=by
 refine hR ?_
 show Ws (yX [some (.tup (w.map bt))] st) _ _ _ _
 unfold yX
 refine fG ?_
 kspl_open hQ
 refine Hw (w.reverse.map mJ) (fun p=>bt (au.gX (sI p))) ?_ (by rw [List.length_map,List.length_reverse];omega) ?_ ?_
 ·refine fH ?_
  intro oa iU
  set_option simprocs false in simp only [di,Hs]
  refine iU _ _ ⟨?_,(Ex.cq _).trans (Ex.cq _)⟩
  have e:(w.reverse.map mJ).map (fun p=>D.tup [p.1,p.2])=(w.map bt).reverse:=by
   rw [List.map_map,<- List.map_reverse];rfl
  rw [e]
  exact Ho (jQ j2)
 ·intro p hp st1 k1
  obtain ⟨s,hs,rfl⟩:=List.mem_map.mp hp
  rw [DJ]
  obtain ⟨b,k⟩:=s
  unfold mJ
  cases b with
  | true =>
   kspl_open iU
   refine ⟨rfl,.int (0 - k),by rw [if_pos (by decide)];exact pq _ _ _,rfl,iU _ _ ⟨?_,(Ex.cq _)⟩⟩
   show (D.tup [.str "s",.int (0 - k)])=.tup [.str "s",.int (-k)]
   rw [Int.zero_sub]
  | false =>
   kspl_open iU
   exact ⟨rfl,.int (4 - k),by rw [if_neg (by decide)];exact pk _ _,rfl,iU _ _ ⟨rfl,(Ex.cq _)⟩⟩
 ·intro st' k'
  w_how
  refine hQ _ _ ⟨?_,k'.app _⟩
  congr 1
  have eb:au.fD w=w.reverse.map au.gX:=by unfold au.fD;rw [List.map_reverse]
  rw [eb,List.map_map,List.map_map]
  refine List.map_congr_left fun s _=>?_
  show bt (au.gX (sI (mJ s)))=bt (au.gX s)
  rw [DJ]
theorem Jb {st:Store} {x y:Int} (hy:y≠0) (hb:y.natAbs < P2 100):Wp (wG [.int x,.int y] st) fun d st'=>d=.int (au.nr x y)/\Ex [] st st':=by
 have hl:(2 * y).natAbs.log2 < 9000:=by
  have h1:(2 * y).natAbs < 2 ^ 101:=by
   have e:P2 101=2 * P2 100:=mv 100
   show _ < P2 101
   omega
  have:=(Nat.log2_lt (n:=(2 * y).natAbs) (k:=101) (by omega)).mpr h1
  omega
 refine hR ?_
 show Ws (yL [some (.int x),some (.int y)] st) _ _ _ _
 unfold yL
 refine fG ?_
 refine fH ?_
 intro gR hQ
 set_option simprocs false in simp only [di,AY]
 exact ⟨.inl (by decide),.inl (by decide),⟨by omega,hl⟩,hQ _ _ ⟨rfl,Ex.refl⟩⟩
theorem A6 {st:Store} {k:Int}:Wp (mU [.int k] st) fun d st'=>d=.tup ((au.ly k).map bt)/\Ex [] st st':=by
 refine hR ?_
 show Ws (yF [some (.int k)] st) _ _ _ _
 unfold yF
 refine bX (iS ?_)
 kspl_open hQ
 refine hQ _ _ ⟨fun h=>fG ?_,fun h=>jn (fG ?_)⟩
 ·have h:k=0:=of_decide_eq_true h
  clear hQ
  kspl_open hQ
  refine ⟨rfl,hQ _ _ ⟨?_,Ex.refl⟩⟩
  unfold au.ly
  rw [if_pos h];rfl
 ·have h:¬ k=0:=of_decide_eq_false h
  clear hQ
  kspl_open hQ
  refine ⟨rfl,rfl,hQ _ _ ⟨?_,Ex.refl⟩⟩
  unfold au.ly
  rw [if_neg h];rfl
theorem Jc {st:Store} {T:au.T4} {x y:Int} (hT:T.le (P2 102)) (hx:x.natAbs<=P2 102) (hy:y.natAbs<=P2 102):Wp (wB [dh T,.tup [.int x,.int y]] st) fun d st'=>d=.tup [.int (T.a * x + T.b * y),.int (T.c * x + T.d * y)]/\Ex [] st st':=by
 have ok:∀ i j:Int,i.natAbs<=P2 102->j.natAbs<=P2 102->bJ i j=true:=fun i j hi hj=>by
  have e:P2 103=2 * P2 102:=mv 102
  have:=mr 102
  exact yq (k:=103) (by decide) (by omega) (by omega)
 obtain ⟨h1,h2,h3,h4⟩:=hT
 refine hR ?_
 show Ws (yE [some (dh T),some (.tup [.int x,.int y])] st) _ _ _ _
 unfold yE dh
 refine fG ?_
 refine fH ?_
 intro gR hQ
 set_option simprocs false in simp only [di,pC,at2,AF]
 exact ⟨ok _ _ h1 hx,ok _ _ h2 hy,ok _ _ h3 hx,ok _ _ h4 hy,rfl,hQ _ _ ⟨rfl,Ex.refl⟩⟩
theorem sJ {st:Store} {Q:D->Store->Prop} {x y:Int}:Wp (aO (.tup [.int x,.int y]) (.int 0) st) Q↔Q (.int x) st:=bh
theorem DK {st:Store} {Q:D->Store->Prop} {x y:Int}:Wp (aO (.tup [.int x,.int y]) (.int 1) st) Q↔Q (.int y) st:=bh
theorem kM {M k:Nat} (hM:M < 2 ^ k) (hk:k<=100):M < P2 100/\P2 101=2 * P2 100/\P2 102=2 * P2 101/\100 < P2 100:=⟨Nat.lt_of_lt_of_le hM (Nat.pow_le_pow_right (n:=2) (by decide) hk),mv 100,mv 101,CA 100⟩
theorem Jd {st:Store} {x y:Int} {M k:Nat} (hM:M < 2 ^ k) (hk:k<=100) (hx:x.natAbs<=M) (hy:y.natAbs<=M):Wp (wI [.tup [.int x,.int y]] st) fun d st'=>∃ g:List dA,d=.tup (g.map bt)/\au.Lv x y g/\(∀ s∈g,au.cX s/\s.2.natAbs<=M + 1)/\g.length<=2 * k/\(au.aB g).c * x + (au.aB g).d * y=0/\Ex [] st st':=by
 refine hR ?_
 show Ws (yM [some (.tup [.int x,.int y]),none,none,none] st) _ _ _ _
 unfold yM
 refine bX (dW ?_)
 refine fH ?_
 intro gR hQ
 w_how
 refine ⟨rfl,?_⟩
 refine hQ _ _ (bX (dW ?_))
 clear hQ
 refine fH ?_
 intro gR hQ
 w_how
 refine hQ _ _ (bX (C7 (fun m δ s=>∃ (g:List dA) (u v:Int) (r:Nat) (v3:Option D),m=k + 1 - r/\r<=k/\δ=[some (.tup [.int x,.int y]),some (.tup (g.map bt)),some (.tup [.int u,.int v]),v3]/\au.Dv M x y g u v r/\(au.It x y r=(g,u,v)/\∀ j,j < r->(au.It x y j).2.2≠0)/\Ex [] st s) (k + 1) (by show k + 1 < 1000000;omega) ⟨[],x,y,0,none,rfl,Nat.zero_le _,rfl,au.Dv.zero hx hy,⟨rfl,fun j hj=>absurd hj (Nat.not_lt_zero j)⟩,Ex.refl⟩ ?_))
 clear hQ
 rintro m δ s ⟨g,u,v,r,v3,rfl,hr,rfl,dv,⟨it,DL⟩,k1⟩
 have J0:=dv.ub
 obtain ⟨DM,DN,DO,DP⟩:=kM hM hk
 have J1:v.natAbs<=M:=Nat.le_trans (Nat.le_mul_of_pos_right _ (Nat.one_le_two_pow)) dv.vb
 refine fH ?_
 intro gR hQ
 set_option simprocs false in simp only [di,DK]
 refine hQ _ _ ⟨fun hc=>?_,fun hc=>?_⟩
 ·have hv:v≠0:=by simpa using hc
  have few:=dv.few (k:=k) hv hM
  have Je:=dv.step hv
  refine bX (dW ?_)
  clear hQ
  refine fH ?_
  intro gR hQ
  set_option simprocs false in simp only [di,sJ,DK]
  refine a7 (Jb hv (by omega)) ?_
  rintro d s1 ⟨rfl,k2⟩
  w_how
  refine a7 (A6) ?_
  rintro d s2 ⟨rfl,k3⟩
  w_how
  have hsl:=au.vg (-(au.nr u v))
  refine ⟨rfl,rfl,mT (by rw [List.length_map];show _ + 1<=_;omega),?_⟩
  have e1:((au.ly (-(au.nr u v))).map bt ++ [D.tup [D.str "t",D.int 1]])=(au.lz u v).map bt:=by
   unfold au.lz
   rw [List.map_append];rfl
  rw [e1]
  have xN:=au.CL (x:=u) hv
  refine hQ _ _ (bX (dW ?_))
  clear hQ
  refine fH ?_
  intro gR hQ
  w_how
  refine a7 (DE (b:=102) (w:=au.lz u v) (by decide) (fun s hs=>⟨(xN s hs).1,by have:=(xN s hs).2;omega⟩) (by have:=au.Ah u v;omega)) ?_
  rintro d s3 ⟨rfl,k4⟩
  have hnr:=au.CK (x:=u) hv
  refine a7 (Jc (T:=au.aB (au.lz u v)) (x:=u) (y:=v) (by rw [au.Ag];exact ⟨by show (0:Int).natAbs<=_;omega,by show (-1:Int).natAbs<=_;omega,by show (1:Int).natAbs<=_;omega,by show (-(au.nr u v)).natAbs<=_;omega⟩) (by omega) (by omega)) ?_
  rintro d s4 ⟨rfl,k5⟩
  rw [au.Ag]
  have e2:∀ q:Int,D.tup [.int ((0:Int) * u + -1 * v),.int (1 * u + -q * v)]=.tup [.int (-v),.int (u - q * v)]:=fun q=>by
   have a1:(0:Int) * u + -1 * v=-v:=by omega
   have a2:1 * u + -q * v=u - q * v:=by rw [Int.neg_mul];omega
   rw [a1,a2]
  show gR (D.tup [.int ((0:Int) * u + -1 * v),.int (1 * u + -(au.nr u v) * v)]) s4
  rw [e2]
  refine hQ _ _ (dW ?_)
  clear hQ
  refine fH ?_
  intro gR hQ
  w_how
  have A7:=dv.ln
  have hdl:=au.Ah u v
  refine ⟨mT (by rw [List.length_map,List.length_map];omega),hQ _ _ ⟨k + 1 - (r + 1),by omega,g ++ au.lz u v,_,_,r + 1,_,rfl,by omega,by rw [List.map_append];rfl,Je,⟨by show ((au.It x y r).1 ++ _,_,_)=_;rw [it],fun j hj=>by
   rcases Nat.lt_succ_iff_lt_or_eq.mp hj with h | rfl
   ·exact DL j h
   ·rw [it];exact hv⟩,(((k1.trans k2).trans k3).trans k4).trans k5⟩⟩
 ·have hv:v=0:=by simpa using hc
  refine fG ?_
  clear hQ
  refine fH ?_
  intro gR hQ
  w_how
  exact hQ _ _ ⟨g,rfl,⟨r,by rw [it],by rw [it];exact hv,DL⟩,dv.pr,by have:=dv.ln;omega,by rw [<- dv.vc];exact hv,k1⟩
theorem za {st:Store} {Q:D->Store->Prop} {T:au.T4}:Wp (aO (dh T) (.int 0) st) Q↔Q (.int T.a) st:=bh
theorem zb {st:Store} {Q:D->Store->Prop} {T:au.T4}:Wp (aO (dh T) (.int 1) st) Q↔Q (.int T.b) st:=bh
theorem A8 {st:Store} {Q:D->Store->Prop} {T:au.T4}:Wp (aO (dh T) (.int 2) st) Q↔Q (.int T.c) st:=bh
theorem DQ {st:Store} {Q:D->Store->Prop} {T:au.T4}:Wp (aO (dh T) (.int 3) st) Q↔Q (.int T.d) st:=bh
theorem DR {st:Store} {T:au.T4} (hl:T.le (P2 1000)):Wp (wQ [dh T] st) fun d st'=>d=.bl (decide (T.a * T.d - T.b * T.c=1))/\Ex [] st st':=by
 have ok:∀ i j:Int,i.natAbs<=P2 1000->j.natAbs<=P2 1000->bJ i j=true:=fun i j hi hj=>by
  have e:P2 1001=2 * P2 1000:=mv 1000
  have:=mr 1000
  exact yq (k:=1001) (by decide) (by omega) (by omega)
 refine hR ?_
 show Ws (yQ [some (dh T)] st) _ _ _ _
 unfold yQ
 refine fG ?_
 have hs:cH st (dh T)=some [.int T.a,.int T.b,.int T.c,.int T.d]:=rfl
 refine fH ?_
 intro gR hQ
 set_option simprocs false in simp only [di,hs,pC,za,zb,A8,DQ]
 obtain ⟨h1,h2,h3,h4⟩:=hl
 rw [if_pos (show decide ((([D.int T.a,D.int T.b,D.int T.c,D.int T.d]:List D).length:Int)=4)=true from rfl)]
 exact ⟨ok _ _ h1 h4,ok _ _ h2 h3,hQ _ _ ⟨rfl,Ex.refl⟩⟩
theorem Jf {st:Store} {A:au.T4}:Wp (wU [dh A] st) fun d st'=>d=.tup ((au.jz A).map bt)/\Ex [] st st':=by
 refine hR ?_
 show Ws (yR [some (dh A)] st) _ _ _ _
 unfold yR
 refine bX (iS ?_)
 refine fH ?_
 intro gR hQ
 set_option simprocs false in simp only [di,za]
 refine hQ _ _ ⟨fun h=>fG ?_,fun h=>jn (fG ?_)⟩
 ·have h:A.a=1:=of_decide_eq_true h
  clear hQ
  refine fH ?_
  intro gR hQ
  set_option simprocs false in simp only [di,zb]
  refine a7 (A6) ?_
  rintro d s1 ⟨rfl,k1⟩
  refine hQ _ _ ⟨?_,k1⟩
  unfold au.jz
  rw [if_pos h]
 ·have h:¬ A.a=1:=of_decide_eq_false h
  clear hQ
  refine fH ?_
  intro gR hQ
  set_option simprocs false in simp only [di,zb]
  refine ⟨rfl,rfl,?_⟩
  refine a7 (A6) ?_
  rintro d s1 ⟨rfl,k1⟩
  w_how
  have:=au.vg (-A.b)
  refine ⟨mT (by rw [List.length_map];show 1 + _<=_;omega),hQ _ _ ⟨?_,k1⟩⟩
  unfold au.jz
  rw [if_neg h]
  rfl
theorem Jg {T:au.T4} {g:List dA} {M k:Nat} (hM:M < 2 ^ k) (hk:k<=100) (hl:T.le (P2 1000)) (hg:∀ s∈g,au.cX s/\s.2.natAbs<=M + 1) (A7:g.length<=2 * k):∀ s∈au.jy (au.jz ((au.aB g).mul T) ++ au.fD g),s.2.natAbs + 1<=P2 22000:=by
 obtain ⟨DM,DN,DO,DP⟩:=kM hM hk
 have J2:M + 2<=P2 101:=by omega
 have hgt:=y9 (w:=g) (b:=101) (n:=200) (fun s hs=>⟨(hg s hs).1,by have:=(hg s hs).2;omega⟩) (by omega)
 have xf:∀ x y:Int,x.natAbs<=P2 (101 * 200)->y.natAbs<=P2 1000->(x * y).natAbs<=P2 21201:=fun x y hx hy=>by
  rw [Int.natAbs_mul]
  refine Nat.le_trans (Nat.mul_le_mul hx hy) ?_
  rw [Cz]
  exact nD (by decide)
 have hA:((au.aB g).mul T).b.natAbs<=P2 21202:=by
  have e:((au.aB g).mul T).b=(au.aB g).a * T.b + (au.aB g).b * T.d:=rfl
  have h1:=xf _ _ hgt.1 hl.2.1
  have h2:=xf _ _ hgt.2.1 hl.2.2.2
  have h3:P2 21202=2 * P2 21201:=mv 21201
  rw [e]
  omega
 have A9:P2 101<=P2 21202:=nD (by decide)
 have h7:21202 < P2 21202:=CA 21202
 generalize hB:P2 21202=B at hA A9 h7
 have hv:∀ s∈au.jz ((au.aB g).mul T),au.cX s/\s.2.natAbs<=B:=fun s hs=>by
  refine ⟨au.Ai _ s hs,?_⟩
  unfold au.jz at hs
  split at hs
  ·rw [(au.vf s hs).2];exact hA
  ·rcases List.mem_cons.mp hs with rfl | hs
   ·show (2:Int).natAbs<=B;omega
   ·rw [(au.vf s hs).2,Int.natAbs_neg];exact hA
 have hb:∀ s∈au.fD g,au.cX s/\s.2.natAbs<=B:=fun s hs=>by
  refine ⟨au.xQ (fun s hs=>(hg s hs).1) s hs,?_⟩
  unfold au.fD at hs
  obtain ⟨t,ht,rfl⟩:=List.mem_map.mp (List.mem_reverse.mp hs)
  obtain ⟨h1,h2⟩:=hg t ht
  obtain ⟨b,k⟩:=t
  cases b with
  | true=>show (-k).natAbs<=B;simp only at h2;omega
  | false=>have:=h1.1 rfl;simp only at this;show (4 - k).natAbs<=B;omega
 intro s hs
 have hq:=au.qJ (B:=B) (w:=au.jz ((au.aB g).mul T) ++ au.fD g) (fun s hs=>by
  rcases List.mem_append.mp hs with h | h
  ·exact hv s h
  ·exact hb s h) s hs
 have hlen:(au.jz ((au.aB g).mul T) ++ au.fD g).length<=256:=by
  rw [List.length_append]
  have h1:=au.CM ((au.aB g).mul T)
  have h2:(au.fD g).length=g.length:=by unfold au.fD;rw [List.length_reverse,List.length_map]
  omega
 have h3:s.2.natAbs<=256 * B:=Nat.le_trans hq (Nat.mul_le_mul_right _ hlen)
 have h4:P2 21210=256 * B:=by
  have:=Cz 8 21202
  rw [hB] at this
  rw [show (21210:Nat)=8 + 21202 from rfl,<- this]
  rfl
 have h5:P2 21211=2 * P2 21210:=mv 21210
 have h6:P2 21211<=P2 22000:=nD (by decide)
 omega
def og (T:au.T4) (w:List dA):Prop:=∃ g,au.Lv T.a T.c g/\w=(au.jy (au.jz ((au.aB g).mul T) ++ au.fD g)).reverse
theorem og.unique {T:au.T4} {v w:List dA} (a:og T v) (b:og T w):v=w:=by
 obtain ⟨g,l1,rfl⟩:=a
 obtain ⟨h,l2,rfl⟩:=b
 rw [l1.unique l2]
structure Wd (T:au.T4) (k:Nat) (w:List dA):Prop where
 is:og T w
 pl:∃ v,w=v.reverse/\au.Pl v
 nm:∀ s∈w,au.cX s/\s.2.natAbs + 1<=P2 22000
 ln:w.length<=2 * k + 2
 tb:au.aB w=T
theorem Jh {st:Store} {T:au.T4} {M k:Nat} (hM:M < 2 ^ k) (hk:k<=100) (ha:T.a.natAbs<=M) (hc:T.c.natAbs<=M) (hl:T.le (P2 1000)) (hd:T.a * T.d - T.b * T.c=1):Wp (ku [dh T] st) fun d st'=>aN d st'=false/\∃ w:List dA,d=.tup (w.map bt)/\Wd T k w/\Ex [] st st':=by
 refine hR ?_
 show Ws (tW [some (dh T),none] st) _ _ _ _
 unfold tW
 obtain ⟨DM,DN,DO,DP⟩:=kM hM hk
 refine bX (iS ?_)
 kspl_open hQ
 refine a7 (DR hl) ?_
 rintro d s1 ⟨rfl,k1⟩
 refine ⟨_,rfl,?_⟩
 refine hQ _ _ ⟨fun h=>absurd h (by simp [hd]),fun _=>AW (jn (bX (AW (dW ?_))))⟩
 clear hQ
 refine fH ?_
 intro gR hQ
 set_option simprocs false in simp only [di,za,A8]
 refine ⟨rfl,?_⟩
 refine a7 (Jd hM hk ha hc) ?_
 rintro d s2 ⟨g,rfl,Ji,hg,A7,h0,k2⟩
 refine hQ _ _ (AW (fG ?_))
 clear hQ
 kspl_open hQ
 have DS:∀ s∈g,au.cX s:=fun s hs=>(hg s hs).1
 have DT:∀ s∈g,au.cX s/\s.2.natAbs + 1<=P2 101:=fun s hs=>⟨(hg s hs).1,by have:=(hg s hs).2;omega⟩
 refine a7 (DE (b:=101) (w:=g) (by decide) DT (by omega)) ?_
 rintro d s3 ⟨rfl,k3⟩
 have hgt:=y9 (n:=200) DT (by omega)
 refine a7 (y8 (y6 (k:=101 * 200 + 1) (M:=P2 (101 * 200)) (by decide) (by have:=mr (101 * 200);have:=mv (101 * 200);omega) hgt (pK hl (nD (by decide))))) ?_
 rintro d s4 ⟨rfl,k4⟩
 refine a7 (Jf) ?_
 rintro d s5 ⟨rfl,k5⟩
 refine a7 (A4 (w:=g) (by omega)) ?_
 rintro d s6 ⟨rfl,k6⟩
 have J3:=au.CM ((au.aB g).mul T)
 have Jj:(au.fD g).length=g.length:=by unfold au.fD;rw [List.length_reverse,List.length_map]
 refine a7 (DG (v:=au.jz ((au.aB g).mul T)) (w:=au.fD g) (by omega)) ?_
 rintro d s7 ⟨rfl,k7⟩
 obtain ⟨e1,e2⟩:=au.Gf hd DS h0
 refine hQ _ _ ⟨rfl,rfl,_,rfl,⟨⟨g,Ji,rfl⟩,⟨_,rfl,au.CC fun s hs=>?_⟩,fun s hs=>⟨e2 s hs,Jg hM hk hl hg A7 s (List.mem_reverse.mp hs)⟩,?_,e1⟩,(((((k1.trans k2).trans k3).trans k4).trans k5).trans k6).trans k7⟩
 ·rcases List.mem_append.mp hs with h | h
  ·exact au.Ai _ s h
  ·exact au.xQ DS s h
 ·rw [List.length_reverse]
  have:=au.CF (au.jz ((au.aB g).mul T) ++ au.fD g)
  rw [List.length_append] at this
  omega
theorem Jk {st:Store} {T:au.T4} (hl:T.le (P2 1000)) (hd:T.a * T.d - T.b * T.c≠1):Wp (ku [dh T] st) fun d st'=>∃ i,d=.ref i/\st'[i]?=some (.exc "NoTable" [])/\Ex [] st st':=by
 refine hR ?_
 show Ws (tW [some (dh T),none] st) _ _ _ _
 unfold tW
 refine bX (iS ?_)
 kspl_open hQ
 refine a7 (DR hl) ?_
 rintro d s1 ⟨rfl,k1⟩
 refine ⟨_,rfl,hQ _ _ ⟨fun _=>HM ⟨_,rfl,j2,k1.trans (Ex.cq _)⟩,fun h=>absurd h (by simp [hd])⟩⟩
theorem DV {st:Store} {Q:D->Store->Prop} {a b:Nat} {L M:List Bool} (ha:items st a=some (L.map D.bl)) (hb:items st b=some (M.map D.bl)) (e:L=M):Wp (fF false (.ref a) (.ref b) st) Q↔Q (.bl true) st:=by
 subst e
 have p1:∀ (i:Nat),items st i=some (L.map D.bl)->gZ st 20 (.ref i)=some (.list (L.map PyData.bool)):=fun i h=>by
  simp only [gZ,h]
  rw [x5 (f:=gZ st 19) (g:=D.bl) (k:=PyData.bool) (fun _=>rfl) L]
  rfl
 have hc:PyData.canLay0 (.list (L.map PyData.bool))=true:=by
  show PyData.canLayAll0 (L.map PyData.bool)=true
  exact AK fun x hx=>by
   obtain ⟨d,_,rfl⟩:=List.mem_map.mp hx
   rfl
 have hd:PyData.depth (.list (L.map PyData.bool))<=1:=by
  show PyData.depthAll (L.map PyData.bool) + 1<=1
  have:=AL (n:=0) (l:=L.map PyData.bool) fun x hx=>by
   obtain ⟨d,_,rfl⟩:=List.mem_map.mp hx
   exact Nat.le_refl _
  omega
 have he:PyData.eqv (.list (L.map PyData.bool)) (.list (L.map PyData.bool))=true:=by
  rw [Hk]
  clear ha hb p1 hc hd
  induction L with
  | nil=>rfl
  | cons x r ih =>
   show (PyData.eqv (.bool x) (.bool x) && PyData.eqvAll (r.map PyData.bool) (r.map PyData.bool))=true
   rw [ih]
   cases x <;> rfl
 rw [Aw]
 constructor
 ·rintro ⟨p,q,e1,e2,_,h⟩
  rw [p1 a ha] at e1
  rw [p1 b hb] at e2
  cases e1
  cases e2
  rw [he] at h
  exact h
 ·intro h
  refine ⟨_,_,p1 a ha,p1 b hb,⟨hc,hc,by omega⟩,?_⟩
  rw [he]
  exact h
theorem Jl {st:Store} {i:Nat} (hi:st[i]?=some (.exc "NoTable" [])):Wp (wY [.ref i,.int 2] st) fun d st'=>d=.bl true/\Ex [] st st':=by
 refine hR ?_
 show Ws (yU [some (.ref i),some (.int 2),none] st) _ _ _ _
 unfold yU
 refine bX (dW ?_)
 refine fH ?_
 intro gR hQ
 set_option simprocs false in simp only [di,AV]
 refine kc hi (kc hi (kc hi (kc hi ?_)))
 refine ⟨rfl,?_⟩
 have hi1:=lj (m:=[O.lst [D.bl false,D.bl false,D.bl true,D.bl false]]) hi
 refine hQ _ _ (bX (dW ?_))
 clear hQ
 refine fH ?_
 intro gR hQ
 set_option simprocs false in simp only [di,AV]
 refine kc hi1 (kc hi1 (kc hi1 ?_))
 refine ⟨rfl,_,nV (lj j2),rfl,?_⟩
 generalize Jm:st ++ [O.lst [D.bl false,D.bl false,D.bl true,D.bl false]] ++ [O.lst [D.bl false,D.bl false,D.bl false]]=s3
 have k3:Ex [] st s3:=by rw [<- Jm];exact (Ex.cq _).trans (Ex.cq _)
 have Jn:s3[i]?=some (.exc "NoTable" []):=k3.keep _ _ hi (by simp)
 refine hQ _ _ (fG ?_)
 clear hQ
 kspl_open hQ
 refine AE (a8 0 7) (fun d=>.bl (decide (inD d=2))) ?_ (by rw [kK];decide) ?_ ?_
 ·kspl_open iU
  exact ⟨by omega,iU _ _ ⟨vV _ _,Ex.refl⟩⟩
 ·intro d hd st1 k1
  rw [De] at hd
  obtain ⟨x,hx,rfl⟩:=Dh hd
  refine fH ?_
  intro oa iU
  set_option simprocs false in simp only [di,List.map_cons,List.map_nil,List.getD_cons_succ,List.getD_cons_zero]
  exact iU _ _ ⟨rfl,Ex.refl⟩
 ·intro st' k'
  have hL:st'[s3.length]?=some (.lst ([false,false,true,false,false,false,false].map D.bl)):=k'.keep _ _ j2 (by simp)
  have Jo:st'[i]?=some (.exc "NoTable" []):=k'.keep _ _ (lj Jn) (by simp)
  rw [DV (L:=[false,false,true,false,false,false,false]) (M:=[false,false,true,false,false,false,false]) (jQ (lj hL)) (by rw [yc];rfl) rfl]
  refine ⟨true,rfl,?_⟩
  rw [if_pos rfl]
  set_option simprocs false in simp only [di,AV]
  exact kc (lj Jo) (hQ _ _ ⟨rfl,((k3.trans (Ex.cq _)).trans k').app _⟩)
theorem Ba {st:Store} {T:au.T4} (hl:T.le (P2 1000)) (hd:T.a * T.d - T.b * T.c≠1):Wp (n9 [dh T] st) fun d st'=>d=.bl true/\Ex [] st st':=by
 refine hR ?_
 show Ws (yV [some (dh T),none,none] st) _ _ _ _
 unfold yV
 refine bX (dW ?_)
 kspl_open hQ
 refine hQ _ _ (bX (sC (HN ?_)))
 clear hQ
 kspl_open hQ
 refine hQ _ _ ?_
 clear hQ
 refine a7 (Jk hl hd) ?_
 rintro d s1 ⟨i,rfl,hi,k1⟩
 have hr:aN (.ref i) s1=true:=by simp [aN,hi]
 refine ⟨fun _=>⟨fun h=>?_,fun _=>⟨by simp [catches,hi,sA],dW ?_⟩⟩,fun h=>?_⟩
 ·rw [hr] at h;cases h
 ·kspl_open hQ
  refine hQ _ _ (fG ?_)
  clear hQ
  refine fH ?_
  intro gR hQ
  set_option simprocs false in simp only [di,Hr]
  refine a7 (Jl hi) ?_
  rintro d s2 ⟨rfl,k2⟩
  exact hQ _ _ ⟨rfl,k1.trans k2⟩
 ·rw [hr] at h;cases h
theorem DW:∀ {v:List dA},au.Pl v->∀ (i:Nat) (a b:dA),v[i]?=some a->v[i + 1]?=some b->a.1≠b.1
 | [],_,i,a,b,h,_=>by simp at h
 | c :: r,h,0,a,b,h1,h2=>by
  simp only [List.getElem?_cons_zero,Option.some.injEq] at h1
  subst h1
  refine h.2.1 b ?_
  rw [List.getElem?_cons_succ] at h2
  rw [List.head?_eq_getElem?];exact h2
 | c :: r,h,i + 1,a,b,h1,h2=>DW h.2.2 i a b (by simpa using h1) (by simpa using h2)
theorem sL {v:List dA} (h:au.Pl v) {i:Nat} {a b:dA} (h1:v.reverse[i]?=some a) (h2:v.reverse[i + 1]?=some b):a.1≠b.1:=by
 have hl:=(List.getElem?_eq_some_iff.mp h2).1
 rw [List.length_reverse] at hl
 rw [List.getElem?_reverse (by omega)] at h1 h2
 have e:v.length - 1 - i=(v.length - 1 - (i + 1)) + 1:=by omega
 rw [e] at h1
 exact (DW h _ b a h2 h1).symm
theorem DX {ds:List D} {i:Nat} {d:D} (h:ds[i]?=some d):fM ds (i:Int)=some d:=by
 have:=(List.getElem?_eq_some_iff.mp h).1
 unfold fM jx
 rw [if_pos (by omega),if_pos (by omega)]
 simpa using h
def tZ (s:dA):D:=.str (if s.1 then "s" else "t")
theorem DY {st:Store} {w v:List dA} (e:w=v.reverse) (hv:au.Pl v) (hl:w.length<=1000):Wp (sG [.tup (w.map bt)] st) fun d st'=>d=.bl true/\Ex [] st st':=by
 have hp:∀ s∈w,au.cX s:=fun s hs=>hv.pr s (by rw [e] at hs;exact List.mem_reverse.mp hs)
 refine hR ?_
 show Ws (yZ [some (.tup (w.map bt)),none,none,none] st) _ _ _ _
 unfold yZ
 refine bX (iS ?_)
 kspl_open hQ
 rw [yf (T:="tuple") (cs:=["tuple"]) (b:=true) rfl rfl (by decide)]
 refine ⟨true,rfl,?_⟩
 rw [if_neg (by decide)]
 refine AE (w.map bt) (fun _=>.bl true) ?_ (by rw [List.length_map];omega) ?_ ?_
 ·kspl_open iU
  exact iU _ _ ⟨vV _ _,Ex.refl⟩
 ·intro d hd st1 k1
  obtain ⟨s,hs,rfl⟩:=List.mem_map.mp hd
  unfold bt
  kspl_open iU
  rw [yf (T:="tuple") (cs:=["tuple"]) (b:=true) rfl rfl (by decide)]
  refine ⟨true,rfl,?_⟩
  rw [if_pos rfl]
  exact iU _ _ ⟨rfl,Ex.refl⟩
 ·intro st1 k1
  w_how
  refine ⟨w.map fun _=>true,?_,?_⟩
  ·rw [List.map_map]
   exact x5 (f:=bV) (g:=fun _:dA=>D.bl true) (k:=fun _=>true) (fun _=>rfl) w
  rw [show (w.map fun _=>true).all id=true by simp]
  refine hQ _ _ ⟨fun z=>absurd z (by decide),fun _=>jn (bX (nU (w.map bt) (fun j δ s=>∃ v1 v2:Option D,δ=[some (.tup (w.map bt)),v1,v2,none]/\Ex [] st s) ?_ (by rw [List.length_map];omega) ?_ ?_))⟩
  ·clear hQ
   kspl_open hQ
   exact hQ _ _ ⟨rfl,none,none,rfl,k1.app _⟩
  ·rintro j d δ s hd ⟨v1,v2,rfl,ks⟩
   obtain ⟨a,ha,rfl⟩:=List.mem_map.mp (List.mem_of_getElem? hd)
   have pa:=hp a ha
   obtain ⟨b,k⟩:=a
   have es1:bt (b,k)=.tup [.str (if b then "s" else "t"),.int k]:=rfl
   rw [es1]
   clear hQ
   kspl_open hQ
   refine ⟨rfl,hQ _ _ (bX (iS ?_))⟩
   clear hQ
   kspl_open hQ
   rw [yf (T:="int") (cs:=["int"]) (b:=true) rfl rfl (by decide)]
   refine ⟨true,rfl,?_⟩
   rw [if_neg (by decide),yf (T:="int") (cs:=["bool"]) (b:=false) rfl rfl (by decide)]
   refine ⟨false,rfl,?_⟩
   rw [if_neg (by decide),if_neg (by rw [decide_eq_true_eq];exact pa.2)]
   have hsl:∀ b:Bool,pU 0 (.str (if b=true then "s" else "t" : Str)):=fun b=>by
    show PyData.canLay0 (.str (if b=true then "s" else "t" : Str))=true
    cases b <;> decide +kernel
   rw [sv (n:=0) (es:=[.str "s",.str "t"]) (hsl b) rfl (fun d hd=>by
    simp only [List.mem_cons,List.not_mem_nil,or_false] at hd
    rcases hd with rfl | rfl
    ·exact hsl true
    ·exact hsl false) (by decide)]
   refine ⟨rfl,_,rfl,?_⟩
   have hin:(D.str (if b=true then "s" else "t" : Str))∈[D.str "s",D.str "t"]:=by cases b <;> simp
   simp only [hin,decide_true,if_true,Bool.not_true]
   refine hQ _ _ ⟨fun z=>absurd z (by decide),fun _=>jn (iS ?_)⟩
   clear hQ
   cases b with
   | true =>
    refine fH ?_
    intro gR hQ
    set_option simprocs false in simp only [di,Dy]
    rw [if_neg (by decide)]
    exact hQ _ _ ⟨fun z=>absurd z (by decide),fun _=>jn ⟨_,_,rfl,ks⟩⟩
   | false =>
    have p3:=pa.1 rfl
    simp only at p3
    refine fH ?_
    intro gR hQ
    set_option simprocs false in simp only [di,Dy]
    rw [if_pos (by decide),decide_eq_true (show (0:Int) < k by omega),decide_eq_true (show k < 4 by omega)]
    exact .inl ⟨rfl,hQ _ _ ⟨fun z=>absurd z (by decide),fun _=>jn ⟨_,_,rfl,ks⟩⟩⟩
  ·rintro δ s ⟨v1,v2,rfl,ks⟩
   refine bX (dW ?_)
   clear hQ
   refine fH ?_
   intro gR hQ
   refine AE (w.map bt) (fun d=>match d with | .tup (x :: _)=>x | _=>.non) ?_ (by rw [List.length_map];omega) ?_ ?_
   ·kspl_open iU
    exact iU _ _ ⟨vV _ _,Ex.refl⟩
   ·intro d hd s1 k2
    obtain ⟨a,ha,rfl⟩:=List.mem_map.mp hd
    unfold bt
    kspl_open iU
    exact iU _ _ ⟨rfl,Ex.refl⟩
   ·intro s2 k2
    have eL:((w.map bt).map fun d=>match d with | .tup (x :: _)=>x | _=>D.non)=w.map tZ:=by rw [List.map_map];rfl
    rw [eL]
    refine hQ _ _ (fG ?_)
    clear hQ
    kspl_open hQ
    have hit:items (s2 ++ [O.lst (w.map tZ)]) s2.length=some (w.map tZ):=yc
    refine Hz (a8 0 (w.length - 1)) (fun _=>false) (fun d=>d) ?_ (by rw [kK];omega) ?_ ?_ ?_
    ·refine fH ?_
     intro oa iU
     set_option simprocs false in simp only [di,hit]
     rw [List.length_map]
     exact ⟨by omega,iU _ _ ⟨by rw [show ((w.length:Int) - 1).toNat=w.length - 1 by omega];exact vV _ _,Ex.refl⟩⟩
    ·intro d hd s3 k3
     rw [De] at hd
     obtain ⟨x,hx,rfl⟩:=Dh hd
     obtain ⟨x0,x1⟩:=au.FW.mp hx
     obtain ⟨j,rfl⟩:∃ j:Nat,x=(j:Int):=⟨x.toNat,by omega⟩
     have Bb:=Dg hit k3
     refine fH ?_
     intro oa iU
     set_option simprocs false in simp only [di,List.map_cons,List.map_nil,List.getD_cons_succ,List.getD_cons_zero,Bb]
     have e1:w[j]?=some w[j]:=List.getElem?_eq_getElem (by omega)
     have e2:w[j + 1]?=some w[j + 1]:=List.getElem?_eq_getElem (by omega)
     refine ⟨tZ w[j],DX (by rw [List.getElem?_map,e1];rfl),tZ w[j + 1],DX (i:=j + 1) (by rw [List.getElem?_map,e2];rfl),?_⟩
     have hne:=sL hv (i:=j) (by rw [<- e];exact e1) (by rw [<- e];exact e2)
     unfold tZ
     w_how
     refine iU _ _ ⟨?_,Ex.refl⟩
     rw [decide_eq_false_iff_not]
     generalize w[j].1=b1 at hne ⊢
     generalize w[j + 1].1=b2 at hne ⊢
     revert hne
     cases b1 <;> cases b2 <;> decide
    ·intro d hd z
     cases z
    ·intro s3 k3
     rw [List.filter_eq_nil_iff.mpr (fun _ _=>Bool.false_ne_true),List.map_nil]
     refine ⟨rfl,?_⟩
     refine (DV (L:=[]) (M:=[]) (jQ (lj j2)) yc rfl).mpr ?_
     exact hQ _ _ ⟨rfl,(((ks.trans k2).app _).trans k3).app _ |>.app _⟩
theorem Jp {st:Store} {a c:Int} (a0:1<=a) (a1:a<=1000000) (c0:0<=c) (c1:c<=1000000):Wp (wo [.int a,.int c] st) fun d st'=>∃ T:au.T4,d=dh T/\T.a * T.d - T.b * T.c=1/\T.le 1000000/\Ex [] st st':=by
 refine hR ?_
 show Ws (yz [some (.int a),some (.int c),none,none,none,none,none,none,none] st) _ _ _ _
 unfold yz
 refine bX (nS ?_)
 kspl_open hQ
 refine ⟨rfl,hQ _ _ ?_⟩
 clear hQ
 kspl_open hQ
 refine ⟨rfl,hQ _ _ ?_⟩
 clear hQ
 have lg:∀ p:Int,0<=p->p<=1000000->p≠0->p.natAbs.log2 < 9000:=fun p h0 h1 h2=>by
  have:=(Nat.log2_lt (n:=p.natAbs) (k:=20) (by omega)).mpr (by omega)
  omega
 refine bX (C7 (fun m δ s=>∃ (o p x y u v:Int) (r:Nat) (v8:Option D),m=50 - r/\r<=42/\δ=[some (.int a),some (.int c),some (.int o),some (.int p),some (.int x),some (.int y),some (.int u),some (.int v),v8]/\au.Eu a c o p x y u v r/\Ex [] st s) 50 (by decide) ⟨a,c,1,0,0,1,0,none,rfl,by decide,rfl,au.Eu.zero a0 a1 c0 c1,Ex.refl⟩ ?_)
 rintro m δ s ⟨o,p,x,y,u,v,r,v8,rfl,hr,rfl,eu,ks⟩
 have DZ:=eu.bo
 have Jq:=eu.bp
 have hp0:=eu.p0
 have CO:=eu.o0
 kspl_open hQ
 refine hQ _ _ ⟨fun hc=>?_,fun hc=>?_⟩
 ·have hp:p≠0:=by simpa using hc
  have few:=eu.few hp
  have Jr:=eu.step hp
  have hq:(o.fdiv p).natAbs < 18446744073709551616:=by
   rw [Int.fdiv_eq_ediv_of_nonneg o (by omega)]
   have h1:0<=o / p:=Int.ediv_nonneg (by omega) (by omega)
   have h2:o / p<=o:=Int.ediv_le_self _ (by omega)
   omega
  refine bX (dW ?_)
  clear hQ
  refine fH ?_
  intro gR hQ
  set_option simprocs false in simp only [di,AY]
  refine ⟨⟨hp,lg p hp0 Jq hp⟩,?_⟩
  generalize o.fdiv p=q at *
  refine hQ _ _ (bX (ya ?_))
  clear hQ
  refine fH ?_
  intro gR hQ
  set_option simprocs false in simp only [di,pC]
  refine ⟨yp hq,hQ _ _ ⟨_,_,rfl,bX (ya ?_)⟩⟩
  clear hQ
  refine fH ?_
  intro gR hQ
  set_option simprocs false in simp only [di,pC]
  refine ⟨yp hq,hQ _ _ ⟨_,_,rfl,ya ?_⟩⟩
  clear hQ
  refine fH ?_
  intro gR hQ
  set_option simprocs false in simp only [di,pC]
  refine ⟨yp hq,hQ _ _ ⟨_,_,rfl,50 - (r + 1),by omega,_,_,_,_,_,_,r + 1,_,rfl,by omega,rfl,Jr,ks⟩⟩
 ·have hp:p=0:=by simpa using hc
  subst hp
  obtain ⟨e,ea,ec,Js,Jt⟩:=eu.fin (by omega) (by omega)
  refine fG ?_
  clear hQ
  refine fH ?_
  intro gR hQ
  set_option simprocs false in simp only [di,AY]
  have fa:a.fdiv o=e * v:=by rw [ea];exact Int.mul_fdiv_cancel_left _ (by omega)
  have fc:c.fdiv o=-(e * u):=by rw [ec];exact Int.mul_fdiv_cancel_left _ (by omega)
  have ho:o≠0:=by omega
  rw [fa,fc]
  exact ⟨⟨ho,lg o (by omega) DZ ho⟩,⟨ho,lg o (by omega) DZ ho⟩,rfl,hQ _ _ ⟨⟨e * v,0 - y,-(e * u),x⟩,rfl,Js,Jt,ks⟩⟩
structure Dw (w:List dA):Prop where
 ok:∀ s∈w,tY 500 s
 ln:w.length<=12
 le:(au.aB w).le (P2 36)
theorem Dw.pr {w:List dA} (h:Dw w):∀ s∈w,au.cX s:=fun s hs=>⟨(h.ok s hs).1,(h.ok s hs).2.2⟩
theorem Dw.law {w:List dA} (h:Dw w):∀ s∈w,au.cX s/\s.2.natAbs<=1000000:=fun s hs=>⟨h.pr s hs,by have:=(h.ok s hs).2.1;omega⟩
theorem Dw.of {w:List dA} {g m:Nat} (hw:∀ s∈w,tY g s) (hl:w.length<=m) (hm:m<=12) (hg:g<=500) (hb:(g + 1) ^ m<=P2 36):Dw w :=
 ⟨fun s hs=>⟨(hw s hs).1,by have:=(hw s hs).2.1;omega,(hw s hs).2.2⟩,by omega,pK (au.CJ (B:=g) (n:=m) (fun s hs=>⟨⟨(hw s hs).1,(hw s hs).2.2⟩,by have:=(hw s hs).2.1;omega⟩) hl) hb⟩
theorem Ju {st:Store} {f:Nat} (hf:bI st f):Wp (wx [.ref f] st) fun d st'=>∃ w:List dA,d=.tup (w.map bt)/\Dw w/\bI st' f/\Ex [f] st st':=by
 refine hR ?_
 show Ws (yC [some (.ref f),none] st) _ _ _ _
 unfold yC
 refine bX (dW ?_)
 kspl_open hQ
 refine a7 (ky (n:=3) hf (by decide) (by decide)) ?_
 rintro d st1 ⟨c,rfl,c0,c1,f1,k1⟩
 refine hQ _ _ (fG ?_)
 clear hQ
 kspl_open hQ
 refine ⟨rfl,?_⟩
 have kx:Ex [] st1 (st1 ++ [O.lst [D.int 12,D.int 6,D.int 4]] ++ [O.lst [D.int 3,D.int 20,D.int 500]]):=(Ex.cq _).trans (Ex.cq _)
 have f3:=f1.keep kx
 rcases (show c=0\/c=1\/c=2 by omega) with rfl | rfl | rfl
 ·refine ⟨.int 12,rfl,rfl,.int 3,rfl,?_⟩
  refine a7 (A3 (most:=12) (great:=3) f3 (by decide) (by decide) (by decide) (by decide)) ?_
  rintro d jV ⟨w,rfl,hw,hwl,f4,k4⟩
  exact hQ _ _ ⟨w,rfl,Dw.of (g:=3) (m:=12) hw (by omega) (by decide) (by decide) (by decide),f4,(k1.trans kx.any).trans k4⟩
 ·refine ⟨.int 6,rfl,rfl,.int 20,rfl,?_⟩
  refine a7 (A3 (most:=6) (great:=20) f3 (by decide) (by decide) (by decide) (by decide)) ?_
  rintro d jV ⟨w,rfl,hw,hwl,f4,k4⟩
  exact hQ _ _ ⟨w,rfl,Dw.of (g:=20) (m:=6) hw (by omega) (by decide) (by decide) (by decide),f4,(k1.trans kx.any).trans k4⟩
 ·refine ⟨.int 4,rfl,rfl,.int 500,rfl,?_⟩
  refine a7 (A3 (most:=4) (great:=500) f3 (by decide) (by decide) (by decide) (by decide)) ?_
  rintro d jV ⟨w,rfl,hw,hwl,f4,k4⟩
  exact hQ _ _ ⟨w,rfl,Dw.of (g:=500) (m:=4) hw (by omega) (by decide) (by decide) (by decide),f4,(k1.trans kx.any).trans k4⟩
def Tb (T:au.T4):Prop:=T.a * T.d - T.b * T.c=1/\T.le (P2 36)
theorem sM {a b c d:Int} (h:Tb ⟨a,b,c,d⟩):Tb ⟨d,0 - b,0 - c,a⟩:=by
 obtain ⟨h1,h2,h3,h4,h5⟩:=h
 simp only at h1 h2 h3 h4 h5
 refine ⟨?_,h5,by show (0 - b).natAbs<=_;omega,by show (0 - c).natAbs<=_;omega,h2⟩
 show d * a - (0 - b) * (0 - c)=1
 rw [Int.zero_sub,Int.zero_sub,Int.neg_mul_neg,Int.mul_comm d a];exact h1
theorem xg {a b c d:Int} (h:Tb ⟨a,b,c,d⟩):Tb ⟨b,0 - a,d,0 - c⟩:=by
 obtain ⟨h1,h2,h3,h4,h5⟩:=h
 simp only at h1 h2 h3 h4 h5
 refine ⟨?_,h3,by show (0 - a).natAbs<=_;omega,h5,by show (0 - c).natAbs<=_;omega⟩
 show b * (0 - c) - (0 - a) * d=1
 rw [Int.zero_sub,Int.zero_sub,Int.mul_neg,Int.neg_mul];omega
theorem Bc {a b c d:Int} (h:Tb ⟨a,b,c,d⟩):Tb ⟨0 - a,0 - b,0 - c,0 - d⟩:=by
 obtain ⟨h1,h2,h3,h4,h5⟩:=h
 simp only at h1 h2 h3 h4 h5
 refine ⟨?_,by show (0 - a).natAbs<=_;omega,by show (0 - b).natAbs<=_;omega,by show (0 - c).natAbs<=_;omega,by show (0 - d).natAbs<=_;omega⟩
 show (0 - a) * (0 - d) - (0 - b) * (0 - c)=1
 rw [Int.zero_sub,Int.zero_sub,Int.zero_sub,Int.zero_sub,Int.neg_mul_neg,Int.neg_mul_neg];exact h1
def xh:List dA:=[(false,3),(true,-1),(false,1),(true,1)]
def iW (n:Nat):List dA:=(List.replicate n xh).flatten
theorem D0 (n:Nat):∀ s∈iW n,au.cX s/\s.2.natAbs<=1000000:=fun s hs=>by
 obtain ⟨l,hl,hs⟩:=List.mem_flatten.mp hs
 rw [(List.mem_replicate.mp hl).2] at hs
 simp only [xh,List.mem_cons,List.not_mem_nil,or_false] at hs
 rcases hs with rfl | rfl | rfl | rfl
 ·exact ⟨⟨fun _=>by decide,by decide⟩,by decide⟩
 ·exact ⟨⟨fun z=>Bool.noConfusion (show true=false from z),by decide⟩,by decide⟩
 ·exact ⟨⟨fun _=>by decide,by decide⟩,by decide⟩
 ·exact ⟨⟨fun z=>Bool.noConfusion (show true=false from z),by decide⟩,by decide⟩
theorem Jv (n:Nat):(iW n).length=n * 4:=by unfold iW;rw [L2.Ad];rfl
theorem sN:∀ n,n < 15->(au.aB (iW n)).le (P2 36):=by
 intro n hn
 have:∀ n,n < 15->(decide ((au.aB (iW n)).a.natAbs<=68719476736) && decide ((au.aB (iW n)).b.natAbs<=68719476736) && decide ((au.aB (iW n)).c.natAbs<=68719476736) && decide ((au.aB (iW n)).d.natAbs<=68719476736))=true:=by decide +kernel
 have h:=this n hn
 simp only [Bool.and_eq_true,decide_eq_true_eq] at h
 exact ⟨h.1.1.1,h.1.1.2,h.1.2,h.2⟩
theorem Jw {st:Store} {f:Nat} (hf:bI st f):Wp (wz [.ref f] st) fun d st'=>∃ T:au.T4,d=dh T/\Tb T/\bI st' f/\Ex [f] st st':=by
 refine hR ?_
 show Ws (yD [some (.ref f),none,none,none,none,none,none,none] st) _ _ _ _
 unfold yD
 refine bX (dW ?_)
 kspl_open hQ
 refine a7 (ky (n:=6) hf (by decide) (by decide)) ?_
 rintro d s1 ⟨fo,rfl,J4,J5,f1,k1⟩
 refine hQ _ _ (bX (iS ?_))
 clear hQ
 kspl_open hQ
 refine hQ _ _ ⟨fun hc=>bX (nS ?_),fun hc=>jn (bX (iS ?_))⟩
 ·clear hQ
  kspl_open hQ
  refine a7 (ky (n:=1000000) f1 (by decide) (by decide)) ?_
  rintro d s2 ⟨a,rfl,a0,a1,f2,k2⟩
  w_how
  refine a7 (ky (n:=1000001) f2 (by decide) (by decide)) ?_
  rintro d s3 ⟨c,rfl,c0,c1,f3,k3⟩
  refine a7 (Jp (a:=1 + a) (c:=c) (by omega) (by omega) c0 (by omega)) ?_
  rintro d s4 ⟨⟨a',b',c',d'⟩,rfl,hdt,hle,k4⟩
  have tb:Tb ⟨a',b',c',d'⟩:=⟨hdt,pK hle (by decide)⟩
  refine hQ _ _ ?_
  clear hQ
  unfold dh
  kspl_open hQ
  refine ⟨rfl,hQ _ _ (bX (dW ?_))⟩
  clear hQ
  kspl_open hQ
  refine ⟨rfl,rfl,rfl,rfl,rfl,?_⟩
  have f4:=f3.keep k4
  have hlt:=f4.lt
  refine hQ _ _ (fG ?_)
  clear hQ
  kspl_open hQ
  refine a7 (ky (n:=4) (f4.keep (Ex.cq [O.lst [D.tup [D.int a',D.int b',D.int c',D.int d'],D.tup [D.int d',D.int (0 - b'),D.int (0 - c'),D.int a'],D.tup [D.int b',D.int (0 - a'),D.int d',D.int (0 - c')],D.tup [D.int (0 - a'),D.int (0 - b'),D.int (0 - c'),D.int (0 - d')]]])) (by decide) (by decide)) ?_
  rintro d s5 ⟨e,rfl,e0,e1,f5,k5⟩
  have xc:=jQ (k5.keep _ _ (j2 (l:=s4) (o:=O.lst [D.tup [D.int a',D.int b',D.int c',D.int d'],D.tup [D.int d',D.int (0 - b'),D.int (0 - c'),D.int a'],D.tup [D.int b',D.int (0 - a'),D.int d',D.int (0 - c')],D.tup [D.int (0 - a'),D.int (0 - b'),D.int (0 - c'),D.int (0 - d')]])) (by simp;omega))
  set_option simprocs false in simp only [di,xc]
  have kk:Ex [f] st s5:=(((k1.trans k2).trans k3).trans k4.any).trans ((Ex.cq _).trans k5)
  rcases (show e=0\/e=1\/e=2\/e=3 by omega) with rfl | rfl | rfl | rfl
  ·exact ⟨_,pk _ _,hQ _ _ ⟨_,rfl,tb,f5,kk⟩⟩
  ·exact ⟨_,pq _ _ _,hQ _ _ ⟨_,rfl,sM tb,f5,kk⟩⟩
  ·exact ⟨_,at2 _ _ _ _,hQ _ _ ⟨_,rfl,xg tb,f5,kk⟩⟩
  ·exact ⟨_,AF _ _ _ _ _,hQ _ _ ⟨_,rfl,Bc tb,f5,kk⟩⟩
 ·clear hQ
  kspl_open hQ
  refine hQ _ _ ⟨fun hc4=>bX (nS ?_),fun hc4=>jn (bX (dW ?_))⟩
  ·clear hQ
   kspl_open hQ
   refine ⟨rfl,rfl,rfl,rfl,rfl,?_⟩
   refine a7 (ky (n:=14) f1 (by decide) (by decide)) ?_
   rintro d s2 ⟨e,rfl,e0,e1,f2,k2⟩
   set_option simprocs false in simp only [di,HC]
   obtain ⟨n,rfl⟩:∃ n:Nat,e=(n:Int) - 1:=⟨(e + 1).toNat,by omega⟩
   rw [show (1:Int) + ((n:Int) - 1)=(n:Int) by omega,Int.toNat_natCast]
   refine ⟨⟨by decide,by decide,by omega,by omega⟩,?_⟩
   have eB:(List.replicate n [D.tup [D.str (Str.ofString "t"),D.int 3],D.tup [D.str (Str.ofString "s"),D.int (0 - 1)],D.tup [D.str (Str.ofString "t"),D.int 1],D.tup [D.str (Str.ofString "s"),D.int 1]]).flatten=(iW n).map bt:=by
    unfold iW
    rw [List.map_flatten,List.map_replicate]
    rfl
   rw [eB]
   have hrl:=Jv n
   refine a7 (DI (D0 n) (by omega)) ?_
   rintro d s3 ⟨rfl,k3⟩
   have tb:Tb (au.aB (iW n)):=⟨au.xR fun s hs=>(D0 n s hs).1,sN n (by omega)⟩
   generalize au.aB (iW n)=T at tb ⊢
   obtain ⟨a',b',c',d'⟩:=T
   refine hQ _ _ ?_
   clear hQ
   unfold dh
   kspl_open hQ
   refine ⟨rfl,hQ _ _ (fG ?_)⟩
   clear hQ
   kspl_open hQ
   refine ⟨rfl,rfl,rfl,rfl,?_⟩
   have f3:=f2.keep k3
   have hlt:=f3.lt
   refine a7 (ky (n:=3) (f3.keep (Ex.cq [O.lst [D.tup [D.int a',D.int b',D.int c',D.int d'],D.tup [D.int d',D.int (0 - b'),D.int (0 - c'),D.int a'],D.tup [D.int b',D.int (0 - a'),D.int d',D.int (0 - c')]]])) (by decide) (by decide)) ?_
   rintro d s5 ⟨e,rfl,e0,e1,f5,k5⟩
   have xc:=jQ (k5.keep _ _ (j2 (l:=s3) (o:=O.lst [D.tup [D.int a',D.int b',D.int c',D.int d'],D.tup [D.int d',D.int (0 - b'),D.int (0 - c'),D.int a'],D.tup [D.int b',D.int (0 - a'),D.int d',D.int (0 - c')]])) (by simp;omega))
   set_option simprocs false in simp only [di,xc]
   have kk:Ex [f] st s5:=((k1.trans k2).trans k3.any).trans ((Ex.cq _).trans k5)
   rcases (show e=0\/e=1\/e=2 by omega) with rfl | rfl | rfl
   ·exact ⟨_,pk _ _,hQ _ _ ⟨_,rfl,tb,f5,kk⟩⟩
   ·exact ⟨_,pq _ _ _,hQ _ _ ⟨_,rfl,sM tb,f5,kk⟩⟩
   ·exact ⟨_,at2 _ _ _ _,hQ _ _ ⟨_,rfl,xg tb,f5,kk⟩⟩
  ·clear hQ
   kspl_open hQ
   refine a7 (ky (n:=2000001) f1 (by decide) (by decide)) ?_
   rintro d s2 ⟨e,rfl,e0,e1,f2,k2⟩
   w_how
   generalize hK:e - 1000000=K
   have Jx:K.natAbs<=1000000:=by omega
   refine hQ _ _ (bX (iS ?_))
   clear hQ
   kspl_open hQ
   refine hQ _ _ ⟨fun hc0=>bX (dW ?_),fun hc0=>jn (bX (nS ?_))⟩
   ·clear hQ
    kspl_open hQ
    refine ⟨rfl,rfl,rfl,rfl,rfl,?_⟩
    refine hQ _ _ (fG ?_)
    clear hQ
    kspl_open hQ
    refine ⟨rfl,rfl,rfl,rfl,?_⟩
    have hlt:=f2.lt
    generalize Jy:([D.tup [D.int 1,D.int K,D.int 0,D.int 1],D.tup [D.int (0 - 1),D.int K,D.int 0,D.int (0 - 1)],D.tup [D.int 1,D.int 0,D.int K,D.int 1],D.tup [D.int (0 - 1),D.int 0,D.int K,D.int (0 - 1)]] ++ [D.tup [D.int 0,D.int (0 - 1),D.int 1,D.int K],D.tup [D.int K,D.int 1,D.int (0 - 1),D.int 0]])=L6
    generalize Jz:(s2 ++ [O.lst [D.tup [D.int 1,D.int K,D.int 0,D.int 1],D.tup [D.int (0 - 1),D.int K,D.int 0,D.int (0 - 1)],D.tup [D.int 1,D.int 0,D.int K,D.int 1],D.tup [D.int (0 - 1),D.int 0,D.int K,D.int (0 - 1)]]] ++ [O.lst [D.tup [D.int 0,D.int (0 - 1),D.int 1,D.int K],D.tup [D.int K,D.int 1,D.int (0 - 1),D.int 0]]])=s5
    have D1:Ex [] s2 s5:=by rw [<- Jz];exact (Ex.cq _).trans (Ex.cq _)
    have f5:=f2.keep D1
    have JA:=f5.lt
    refine a7 (ky (n:=6) (f5.keep (Ex.cq [O.lst L6])) (by decide) (by decide)) ?_
    rintro d s6 ⟨e,rfl,e0,e1,f6,k6⟩
    have JB:=jQ (k6.keep _ _ (j2 (l:=s5) (o:=O.lst L6)) (by simp;omega))
    set_option simprocs false in simp only [di,JB]
    have kk:Ex [f] st s6:=((k1.trans k2).trans D1.any).trans ((Ex.cq _).trans k6)
    have hP:1000000<=P2 36:=by decide
    have one:(1:Int).natAbs<=P2 36:=by decide
    have t2:(0:Int).natAbs<=P2 36:=by decide
    have neg:(0 - 1:Int).natAbs<=P2 36:=by decide
    have kle:K.natAbs<=P2 36:=Nat.le_trans Jx hP
    rw [<- Jy]
    rcases (show e=0\/e=1\/e=2\/e=3\/e=4\/e=5 by omega) with rfl | rfl | rfl | rfl | rfl | rfl
    ·exact ⟨_,rfl,hQ _ _ ⟨⟨1,K,0,1⟩,rfl,⟨by show (1:Int) * 1 - K * 0=1;omega,one,kle,t2,one⟩,f6,kk⟩⟩
    ·exact ⟨_,rfl,hQ _ _ ⟨⟨0 - 1,K,0,0 - 1⟩,rfl,⟨by show (0 - 1:Int) * (0 - 1) - K * 0=1;omega,neg,kle,t2,neg⟩,f6,kk⟩⟩
    ·exact ⟨_,rfl,hQ _ _ ⟨⟨1,0,K,1⟩,rfl,⟨by show (1:Int) * 1 - 0 * K=1;omega,one,t2,kle,one⟩,f6,kk⟩⟩
    ·exact ⟨_,rfl,hQ _ _ ⟨⟨0 - 1,0,K,0 - 1⟩,rfl,⟨by show (0 - 1:Int) * (0 - 1) - 0 * K=1;omega,neg,t2,kle,neg⟩,f6,kk⟩⟩
    ·exact ⟨_,rfl,hQ _ _ ⟨⟨0,0 - 1,1,K⟩,rfl,⟨by show (0:Int) * K - (0 - 1) * 1=1;omega,t2,neg,one,kle⟩,f6,kk⟩⟩
    ·exact ⟨_,rfl,hQ _ _ ⟨⟨K,1,0 - 1,0⟩,rfl,⟨by show K * 0 - 1 * (0 - 1)=1;omega,kle,one,neg,t2⟩,f6,kk⟩⟩
   ·clear hQ
    kspl_open hQ
    refine a7 (Ju f2) ?_
    rintro d s3 ⟨w,rfl,hw,f3,k3⟩
    refine a7 (DI hw.law (by have:=hw.ln;omega)) ?_
    rintro d s4 ⟨rfl,k4⟩
    have tb:Tb (au.aB w):=⟨au.xR hw.pr,hw.le⟩
    generalize au.aB w=T at tb ⊢
    obtain ⟨a',b',c',d'⟩:=T
    refine hQ _ _ ?_
    clear hQ
    unfold dh
    kspl_open hQ
    refine ⟨rfl,hQ _ _ (fG ?_)⟩
    clear hQ
    kspl_open hQ
    refine ⟨rfl,rfl,rfl,rfl,?_⟩
    have hc5:¬ fo=5:=by simpa using hc
    have hc4:¬ fo=4:=by simpa using hc4
    have hc0:¬ fo=0:=by simpa using hc0
    have f4:=(f3.keep k4).keep (Ex.cq [O.lst [D.tup [D.int a',D.int b',D.int c',D.int d'],D.tup [D.int a',D.int b',D.int c',D.int d'],D.tup [D.int d',D.int (0 - b'),D.int (0 - c'),D.int a']]])
    have kk:Ex [f] st s4:=((k1.trans k2).trans k3).trans k4.any
    rcases (show fo=1\/fo=2\/fo=3 by omega) with rfl | rfl | rfl
    ·exact ⟨_,pk _ _,hQ _ _ ⟨_,rfl,tb,f4,kk.trans (Ex.cq _).any⟩⟩
    ·exact ⟨_,pq _ _ _,hQ _ _ ⟨_,rfl,tb,f4,kk.trans (Ex.cq _).any⟩⟩
    ·exact ⟨_,at2 _ _ _ _,hQ _ _ ⟨_,rfl,sM tb,f4,kk.trans (Ex.cq _).any⟩⟩
theorem D2 {st:Store} {Q:D->Store->Prop} {neg:Bool} {A B:au.T4}:Wp (fF neg (dh A) (dh B) st) Q↔Q (.bl (if neg then !decide ([A.a,A.b,A.c,A.d]=[B.a,B.b,B.c,B.d]) else decide ([A.a,A.b,A.c,A.d]=[B.a,B.b,B.c,B.d]))) st:=Hl (L:=[A.a,A.b,A.c,A.d]) (M:=[B.a,B.b,B.c,B.d])
theorem Bd {st:Store} {Q:D->Store->Prop} {v:List dA}:Wp (fF true (.tup (v.map bt)) (.tup (v.map bt)) st) Q↔Q (.bl false) st:=by
 rw [sr (n:=2) (Ds 0 v) (Ds 0 v) (by decide)]
 simp
theorem zc {st:Store} {T:au.T4} {M k:Nat} (hM:M < 2 ^ k) (hk:k<=100) (ha:T.a.natAbs<=M) (hc:T.c.natAbs<=M) (hl:T.le (P2 1000)) (hd:T.a * T.d - T.b * T.c=1):Wp (pD ku [dh T] st) fun d st'=>∃ w:List dA,d=.tup (w.map bt)/\Wd T k w/\Ex [] st st':=by
 rw [sD]
 refine a7 (Jh hM hk ha hc hl hd) ?_
 rintro d s1 ⟨hr,w,rfl,hw,k1⟩
 exact ⟨hr,w,rfl,hw,k1⟩
theorem pL {T:au.T4} (h:T.le (P2 36)):T.le (P2 1000):=pK h (nD (by decide))
def spT (T:au.T4) (j:Nat) (e:Int):au.T4:=match j with
 | 0=>⟨T.a + e,T.b,T.c,T.d⟩
 | 1=>⟨T.a,T.b + e,T.c,T.d⟩
 | 2=>⟨T.a,T.b,T.c + e,T.d⟩
 | _=>⟨T.a,T.b,T.c,T.d + e⟩
theorem xi {T:au.T4} {j:Nat} {e:Int} (h:T.le (P2 36)) (e0:1<=e) (e1:e<=3):(spT T j e).le (P2 1000):=by
 obtain ⟨h1,h2,h3,h4⟩:=h
 have hP:P2 36 + 3<=P2 37:=by decide
 have hQ:P2 37<=P2 1000:=nD (by decide)
 unfold spT
 split <;> refine ⟨?_,?_,?_,?_⟩ <;> simp only <;> omega
theorem sO {T:au.T4} {j:Nat} {e:Int} (hj:j < 4):∃ x,fM [D.int T.a,D.int T.b,D.int T.c,D.int T.d] (j:Int)=some (.int x)/\D.tup (cutD [D.int T.a,D.int T.b,D.int T.c,D.int T.d] none (some (j:Int)) ++ [.int (x + e)] ++ cutD [D.int T.a,D.int T.b,D.int T.c,D.int T.d] (some ((j:Int) + 1)) none)=dh (spT T j e):=by
 rcases (show j=0\/j=1\/j=2\/j=3 by omega) with rfl | rfl | rfl | rfl
 ·exact ⟨T.a,rfl,rfl⟩
 ·exact ⟨T.b,rfl,rfl⟩
 ·exact ⟨T.c,rfl,rfl⟩
 ·exact ⟨T.d,rfl,rfl⟩
theorem mK (ns:List Int) (hn:ns.length<=63):Wp (A2 [.ref 0] [.kF (ns.map D.int)]) fun d _=>d=.bl true:=by
 refine hR ?_
 show Ws (y2 [some (.ref 0),none,none,none,none,none,none,none,none] [.kF (ns.map D.int)]) _ _ _ _
 unfold y2
 have JC:(cutD (ns.map D.int) none (some (8:Int))).length<=8:=by
  have:=Hm (ns.map D.int) 8
  rw [show (some (8:Int))=some ((8:Nat):Int) from rfl,this,List.length_take];omega
 obtain ⟨m,hm,J7⟩:∃ m:Nat,(if ((cutD (ns.map D.int) none (some (8:Int))).length:Int) > 3 then ((cutD (ns.map D.int) none (some (8:Int))).length:Int) else 3)=(m:Int)/\m<=8:=by
  split
  ·exact ⟨_,rfl,JC⟩
  ·exact ⟨3,rfl,by decide⟩
 refine bX (nU (a8 0 m) (fun i δ st=>∃ (v1 v2 v3 v4 v5 v6 v7 v8:Option D),δ=[some (.ref 0),v1,v2,v3,v4,v5,v6,v7,v8]/\st[0]?=some (.kF (ns.map D.int))) ?_ (by rw [kK];omega) ?_ ?_)
 ·have JD:([O.kF (ns.map D.int)]:Store)[0]?=some (.kF (ns.map D.int)):=rfl
  refine fH ?_
  intro gR hQ
  set_option simprocs false in simp only [di,C8 JD,hm]
  exact ⟨by omega,hQ _ _ ⟨by rw [Int.toNat_natCast],none,none,none,none,none,none,none,none,rfl,rfl⟩⟩
 ·rintro i d δ st hd ⟨v1,v2,v3,v4,v5,v6,v7,v8,rfl,h0⟩
  have hil:=mS hd
  rw [kK] at hil
  rw [C4 hil,Int.zero_add] at hd
  cases hd
  kspl_open hQ
  refine hQ _ _ (bX (dW ?_))
  clear hQ
  kspl_open hQ
  refine a7 (IP (a:=0) (ns:=ns) (k:=i) (C8 h0) (by omega)) ?_
  rintro d s1 ⟨rfl,f1,k1⟩
  generalize hF:st.length=ff at f1 ⊢
  have J8:0 < ff:=by rw [<- hF];exact mS h0
  have h01:=k1.keep _ _ h0 (by simp)
  refine hQ _ _ (bX (ya ?_))
  clear hQ
  kspl_open hQ
  refine a7 (ky (n:=4) f1 (by decide) (by decide)) ?_
  rintro d s2 ⟨pl,rfl,p0,p1,f2,k2⟩
  obtain ⟨j,rfl⟩:∃ j:Nat,pl=(j:Int):=⟨pl.toNat,by omega⟩
  refine a7 (ky (n:=3) f2 (by decide) (by decide)) ?_
  rintro d s3 ⟨JE,rfl,b0,b1,f3,k3⟩
  w_how
  generalize hE:1 + JE=E
  refine hQ _ _ ⟨_,_,rfl,bX (dW ?_)⟩
  clear hQ
  kspl_open hQ
  refine a7 (Jw f3) ?_
  rintro d s4 ⟨T,rfl,⟨hdt,hle⟩,f4,k4⟩
  have JF:=((k2.trans k3).trans k4).keep _ _ h01 (by simp;omega)
  refine hQ _ _ (bX (dW ?_))
  clear hQ
  kspl_open hQ
  refine a7 (zc (M:=P2 36) (k:=37) (by decide) (by decide) hle.1 hle.2.2.1 (pL hle) hdt) ?_
  rintro d s5 ⟨w,rfl,hw,k5⟩
  have hwl:=hw.ln
  have Jj:(au.fD w).length=w.length:=by unfold au.fD;rw [List.length_reverse,List.length_map]
  have pw:∀ s∈w,au.cX s:=fun s hs=>(hw.nm s hs).1
  refine hQ _ _ (bX (iS ?_))
  clear hQ
  kspl_open hQ
  refine a7 (A4 (w:=w) (by omega)) ?_
  rintro d s6 ⟨rfl,k6⟩
  refine a7 (Ja (w:=w) (by omega)) ?_
  rintro d s7 ⟨rfl,k7⟩
  rw [Bd]
  refine ⟨_,rfl,?_⟩
  rw [if_neg (by decide)]
  refine a7 (A4 (w:=w) (by omega)) ?_
  rintro d s8 ⟨rfl,k8⟩
  refine a7 (DG (v:=w) (w:=au.fD w) (by omega)) ?_
  rintro d s9 ⟨rfl,k9⟩
  rw [au.CD pw]
  refine ⟨rfl,?_⟩
  show Wp (fF true (.tup (([]:List dA).map bt)) (.tup (([]:List dA).map bt)) s9) _
  rw [Bd (v:=[])]
  refine ⟨_,rfl,hQ _ _ ⟨fun z=>absurd z (by decide),fun _=>jn (bX (iS ?_))⟩⟩
  clear hQ
  kspl_open hQ
  obtain ⟨v,ev,hv⟩:=hw.pl
  refine a7 (DY ev hv (by omega)) ?_
  rintro d xK ⟨rfl,AQ⟩
  refine ⟨_,rfl,?_⟩
  rw [if_neg (by decide),List.length_map,if_neg (by rw [decide_eq_true_eq];omega)]
  refine a7 (A5 (b0:=22000) (by decide) hw.nm (by omega)) ?_
  rintro d J9 ⟨rfl,JG⟩
  rw [hw.tb,D2,if_pos rfl,decide_eq_true rfl]
  refine ⟨_,rfl,?_⟩
  rw [if_neg (by decide)]
  refine a7 (zc (M:=P2 36) (k:=37) (by decide) (by decide) hle.1 hle.2.2.1 (pL hle) hdt) ?_
  rintro d s12 ⟨w',rfl,JH,JI⟩
  have ew:=JH.is.unique hw.is
  subst ew
  rw [Bd]
  refine ⟨_,rfl,hQ _ _ ⟨fun z=>absurd z (by decide),fun _=>jn (bX (dW ?_))⟩⟩
  clear hQ
  kspl_open hQ
  refine a7 (y8 (A:=T) (B:=T) (y6 (M:=P2 36) (k:=37) (by decide) (by decide) hle hle)) ?_
  rintro d Ka ⟨rfl,JJ⟩
  have lL:(T.mul T).le (P2 73):=pK (au.T4.qN hle hle) (by decide)
  have sP:(T.mul T).a * (T.mul T).d - (T.mul T).b * (T.mul T).c=1:=by rw [au.CN,hdt];rfl
  have sQ:(T.mul T).le (P2 1000):=pK lL (nD (by decide))
  generalize T.mul T=S at lL sP sQ ⊢
  refine hQ _ _ (bX (iS ?_))
  clear hQ
  kspl_open hQ
  refine a7 (zc (M:=P2 73) (k:=74) (by decide) (by decide) lL.1 lL.2.2.1 sQ sP) ?_
  rintro d Kb ⟨u,rfl,hu,JK⟩
  obtain ⟨v',ev',hv'⟩:=hu.pl
  have Kc:=hu.ln
  refine a7 (DY ev' hv' (by omega)) ?_
  rintro d Kd ⟨rfl,JL⟩
  refine ⟨_,rfl,?_⟩
  rw [if_neg (by decide)]
  refine a7 (zc (M:=P2 73) (k:=74) (by decide) (by decide) lL.1 lL.2.2.1 sQ sP) ?_
  rintro d Ke ⟨u',rfl,Be,JM⟩
  have JN:=Be.ln
  refine a7 (A5 (b0:=22000) (by decide) Be.nm (by omega)) ?_
  rintro d JO ⟨rfl,JP⟩
  rw [Be.tb,D2,if_pos rfl,decide_eq_true rfl]
  refine ⟨_,rfl,hQ _ _ ⟨fun z=>absurd z (by decide),fun _=>jn (bX (dW ?_))⟩⟩
  clear hQ
  obtain ⟨x,hx,Bf⟩:=sO (T:=T) (j:=j) (e:=E) (by omega)
  unfold dh
  refine fH ?_
  intro gR hQ
  set_option simprocs false in simp only [di,hx]
  have hc1:=Df [D.int T.a,D.int T.b,D.int T.c,D.int T.d] none (some (j:Int))
  have hc2:=Df [D.int T.a,D.int T.b,D.int T.c,D.int T.d] (some ((j:Int) + 1)) none
  simp only [List.length_cons,List.length_nil] at hc1 hc2
  refine ⟨rfl,mT (by simp only [List.length_cons,List.length_nil];omega),mT (by rw [List.length_append];simp only [List.length_cons,List.length_nil];omega),?_⟩
  rw [Bf]
  have hok:=xi (j:=j) (e:=E) hle (by omega) (by omega)
  generalize spT T j E=R at hok ⊢
  refine hQ _ _ (iS ?_)
  clear hQ
  refine fH ?_
  intro gR hQ
  set_option simprocs false in simp only [di,pC,za,zb,A8,DQ]
  have ok:∀ i j:Int,i.natAbs<=P2 1000->j.natAbs<=P2 1000->bJ i j=true:=fun i j hi hj=>by
   have e:P2 1001=2 * P2 1000:=mv 1000
   have:=mr 1000
   exact yq (k:=1001) (by decide) (by omega) (by omega)
  have kA:Ex [] s4 JO:=((((((((((((k5.trans k6).trans k7).trans k8).trans k9).trans AQ).trans JG).trans JI).trans JJ).trans JK).trans JL).trans JM).trans JP)
  have xj:=kA.keep _ _ JF (by simp)
  refine ⟨ok _ _ hok.1 hok.2.2.2,ok _ _ hok.2.1 hok.2.2.1,?_⟩
  by_cases Bg:R.a * R.d - R.b * R.c=1
  ·rw [if_neg (by simp [Bg])]
   exact hQ _ _ ⟨fun z=>absurd z (by decide),fun _=>jn ⟨_,_,_,_,_,_,_,_,rfl,xj⟩⟩
  ·rw [if_pos (by simp [Bg])]
   refine a7 (Ba hok Bg) ?_
   rintro d Kf ⟨rfl,JQ⟩
   exact ⟨_,rfl,hQ _ _ ⟨fun z=>absurd z (by decide),fun _=>jn ⟨_,_,_,_,_,_,_,_,rfl,JQ.keep _ _ xj (by simp)⟩⟩⟩
 ·rintro δ s ⟨v1,v2,v3,v4,v5,v6,v7,v8,rfl,h0⟩
  refine fG ?_
  kspl_open hQ
  refine ⟨rfl,?_⟩
  refine a7 (Ba (T:=⟨0,0,0,0⟩) ⟨Nat.zero_le _,Nat.zero_le _,Nat.zero_le _,Nat.zero_le _⟩ (by decide)) ?_
  rintro d s1 ⟨rfl,k1⟩
  refine ⟨true,rfl,?_⟩
  rw [if_pos rfl]
  refine ⟨rfl,?_⟩
  refine a7 (Ba (T:=⟨0 - 1,0,0,1⟩) ⟨mr 1000,Nat.zero_le _,Nat.zero_le _,mr 1000⟩ (by decide)) ?_
  rintro d s2 ⟨rfl,k2⟩
  exact hQ _ _ rfl
theorem sR {P:Program} {w:World} {K:PySem.W.Frag} {mg:Str->Option Value} {base:Heap} (T:Txt mg) {ay aD a9 bA b6 bf bB bg:Addr} (Z:XF K mg ay aD a9 bA b6 bf bB bg) {jh:V} (hZ:l9 K mg "QUARTER" jh (.tup [(.int 0),(.int (-1)),(.int 1),(.int 0)])) {fV:V} (dg:l9 K mg "UNMOVED" fV (.tup [(.int 1),(.int 0),(.int 0),(.int 1)])) {e8:Addr} {fe:FuncData} (c9:Def K mg "_law_feed" wj ["_law_script","_law_k"] e8 fe) {aX:Addr} {aY:FuncData} (ag:Def K mg "_law_take" pE ["_law_feed_here","_law_many"] aX aY) {dX:Addr} {dY:FuncData} (cy:Def K mg "_law_times" wm ["_law_one","_law_other"] dX dY) {b7:Addr} {b8:FuncData} (aJ:Def K mg "_law_table" tP ["_law_word_here"] b7 b8) {cm:Addr} {cn:FuncData} (bz:Def K mg "_law_of_column" wq ["_law_a","_law_c"] cm cn) {eS:Addr} {eU:FuncData} (cY:Def K mg "_law_word" wu ["_law_feed_here","_law_most","_law_great"] eS eU) {cL:Addr} {cM:FuncData} (bK:Def K mg "_law_any_word" wy ["_law_feed_here"] cL cM) {ef:Addr} {eh:FuncData} (cD:Def K mg "_law_drawn" wA ["_law_feed_here"] ef eh) {gp:Addr} {gq:FuncData} (dB:Def K mg "led_pair" wC ["table","pair"] gp gq) {eV:Addr} {eW:FuncData} (bT:Def K mg "shears" tR ["k"] eV eW) {cZ:Addr} {c4:FuncData} (bC:Def K mg "times" pF ["one","other"] cZ c4) {dZ:Addr} {d5:FuncData} (cz:Def K mg "step_table" wF ["step"] dZ d5) {c5:Addr} {c6:FuncData} (bL:Def K mg "table_of" tS ["word"] c5 c6) {h8:Addr} {h9:FuncData} (eK:Def K mg "nearest" wH ["number","divisor"] h8 h9) {dy:Addr} {dz:FuncData} (cb:Def K mg "level_steps" wJ ["pair"] dy dz) {iZ:Addr} {i0:FuncData} (gu:Def K mg "joined" wL ["one","other"] iZ i0) {d6:Addr} {d7:FuncData} (cB:Def K mg "made_plain" wN ["word"] d6 d7) {bD:Addr} {bE:FuncData} (aP:Def K mg "put_together" tU ["one","other"] bD bE) {gw:Addr} {gA:FuncData} (dD:Def K mg "is_table" wR ["thing"] gw gA) {d8:Addr} {d9:FuncData} (cC:Def K mg "level_word" wV ["table"] d8 d9) {eY:Addr} {eZ:FuncData} (c7:Def K mg "back_step" wX ["step"] eY eZ) {cu:Addr} {cw:FuncData} (aT:Def K mg "back_word" tV ["word"] cu cw) {dJ:Addr} {dM:FuncData} (aS:Def K mg "word_of" tX ["table"] dJ dM) {cO:Addr} {cP:FuncData} (bM:Def K mg "_law_is_alone" wZ ["_law_e","_law_own"] cO cP) {fg:Addr} {fj:FuncData} (bq:Def K mg "_law_none" w4 ["_law_thing"] fg fj) {fm:Addr} {fq:FuncData} (da:Def K mg "_law_back" w8 ["_law_word_here"] fm fq) {cQ:Addr} {cR:FuncData} (aU:Def K mg "_law_is_plain" xa ["_law_word_here"] cQ cR) {xk:Addr} {xl:FuncData} (Bh:Def K mg "law" y3 ["_law_script"] xk xl):aH P w K mg base bZ 7 xk xl ["_law_script"] (cc K 1 A2):=by
 have gP:=HR (P:=P) (w:=w) (base:=base) c9 T
 have aC:=HS (P:=P) (w:=w) (base:=base) ag T
 have fU:=HU (P:=P) (w:=w) (base:=base) cy T
 have bO:=HV (P:=P) (w:=w) (base:=base) aJ T  cy fU
 have dj:=HW (P:=P) (w:=w) (base:=base) bz T
 have gN:=HX (P:=P) (w:=w) (base:=base) cY T  ag aC
 have dI:=HY (P:=P) (w:=w) (base:=base) bK T  ag aC cY gN
 have fZ:=HZ (P:=P) (w:=w) (base:=base) cD T  ag aC aJ bO bz dj bK dI
 have iB:=Ie (P:=P) (w:=w) (base:=base) dB T
 have eX:=Ih (P:=P) (w:=w) (base:=base) bT T
 have dk:=Ij (P:=P) (w:=w) (base:=base) bC T
 have fW:=Ik (P:=P) (w:=w) (base:=base) cz T hZ dg bC dk
 have dC:=Il (P:=P) (w:=w) (base:=base) bL T dg bC dk cz fW
 have ji:=Io (P:=P) (w:=w) (base:=base) eK T
 have e7:=Ip (P:=P) (w:=w) (base:=base) cb T  dB iB bT eX bL dC eK ji
 have jY:=Iq (P:=P) (w:=w) (base:=base) gu T
 have fX:=Ir (P:=P) (w:=w) (base:=base) cB T  gu jY
 have bQ:=Iv (P:=P) (w:=w) (base:=base) aP T  cB fX
 have iC:=Iy (P:=P) (w:=w) (base:=base) dD T
 have fY:=IA (P:=P) (w:=w) (base:=base) cC T  bT eX
 have gO:=IC (P:=P) (w:=w) (base:=base) c7 T
 have cx:=IF (P:=P) (w:=w) (base:=base) aT T  c7 gO
 have cN:=IG (P:=P) (w:=w) (base:=base) aS T  Z cb e7 aP bQ dD iC cC fY aT cx bC dk bL dC
 have dN:=IH (P:=P) (w:=w) (base:=base) bM T  Z
 have dO:=II (P:=P) (w:=w) (base:=base) bq T  Z aS cN bM dN
 have gQ:=IK (P:=P) (w:=w) (base:=base) da T
 have cS:=IL (P:=P) (w:=w) (base:=base) aU T
 have Bi:=sH (P:=P) (w:=w) (base:=base) Bh T  c9 gP cD fZ aS cN bC dk bq dO ag aC aT cx da gQ aP bQ aU cS aJ bO
 exact Bi
end My
open PySem PySem.W PyProof.Rows L2
theorem PySem.W.Fast.tw7550010508482135238:True:=trivial
theorem PySem.W.Fast.tw18066620944819548342:True:=trivial
theorem PySem.W.Fast.tw13661170958498575794:True:=trivial
theorem PySem.W.Fast.tw18167094999795762099:True:=trivial
theorem PySem.W.Fast.tw74793868595181496:True:=trivial
theorem PySem.W.Fast.tw2511645322285620743:True:=trivial
theorem PySem.W.Fast.tw12299458839013655087:True:=trivial
theorem PySem.W.Fast.tw4238892157634644454:True:=trivial
theorem PySem.W.Fast.tw7939441284002743095:True:=trivial
theorem PySem.W.Fast.tw18358117533675046534:True:=trivial
theorem PySem.W.Fast.tw4427805377537531256:True:=trivial
theorem PySem.W.Fast.tw8804905594346530214:True:=trivial
theorem PySem.W.Fast.tw10040667454406801743:True:=trivial
theorem PySem.W.Fast.tw10148517151952285938:True:=trivial
theorem PySem.W.Fast.tw11575324306721714356:True:=trivial
theorem PySem.W.Fast.tw5364849312325078943:True:=trivial
theorem PySem.W.Fast.tw3858803310440834611:True:=trivial
theorem PySem.W.Fast.tw11187614837621401065:True:=trivial
theorem PySem.W.Fast.tw13942774181783933036:True:=trivial
theorem PySem.W.Fast.tw1751207140769522174:True:=trivial
theorem PySem.W.Fast.tw17682727500762346066:True:=trivial
theorem PySem.W.Fast.tw4523455016426736281:True:=trivial
theorem PySem.W.Fast.tw15288512915116497903:True:=trivial
theorem PySem.W.Fast.tw13077733966816055954:True:=trivial
theorem PySem.W.Fast.tw17611958869219490739:True:=trivial
theorem PySem.W.Fast.tw2987604858049070567:True:=trivial
theorem PySem.W.Fast.tw1619713268544577873:True:=trivial
theorem PySem.W.Fast.tw11068050738702012249:True:=trivial
theorem PySem.W.Fast.tw628009335875009413:True:=trivial
theorem PySem.W.Fast.tw16371244805176666333:True:=trivial
theorem PySem.W.Fast.tw17956710518454573102:True:=trivial
theorem PySem.W.Fast.tw1763479577344911568:True:=trivial
theorem PySem.W.Fast.tw2230489890774510463:True:=trivial
theorem PySem.W.Fast.tw3975444213013708377:True:=trivial
theorem PySem.W.Fast.tw12183934864237641673:True:=trivial
theorem PySem.W.Fast.tw17898102288198084540:True:=trivial
theorem PySem.W.Fast.tw11617081282332027827:True:=trivial
theorem PySem.W.Fast.tw12654213636701776078:True:=trivial
theorem PySem.W.Fast.tw13869268728081666393:True:=trivial
theorem PySem.W.Fast.tw13547408239614100810:True:=trivial
theorem PySem.W.Fast.tw5987577547584985854:True:=trivial
theorem PySem.W.Fast.tw17436748878995763398:True:=trivial
theorem PySem.W.Fast.tw12735127053103453406:True:=trivial
theorem PySem.W.Fast.tw17195239893864473093:True:=trivial
theorem PySem.W.Fast.tw807910420354156960:True:=trivial
theorem PySem.W.Fast.tw14153598967057435525:True:=trivial
theorem PySem.W.Fast.tw3868115280068747274:True:=trivial
theorem PySem.W.Fast.tw13648949102639254424:True:=trivial
theorem PySem.W.Fast.tw8728434335839476400:True:=trivial
theorem PySem.W.Fast.tw5615876716445814268:True:=trivial
theorem PySem.W.Fast.tw8217118432766529950:True:=trivial
theorem PySem.W.Fast.tw12999526540249741258:True:=trivial
theorem PySem.W.Fast.tw8720003442454715987:True:=trivial
theorem PySem.W.Fast.tw12536591477195279669:True:=trivial
theorem PySem.W.Fast.tw2229139068020218471:True:=trivial
theorem PySem.W.Fast.tw8505302245015685447:True:=trivial
theorem PySem.W.Fast.tw11111380824574401770:True:=trivial
theorem PySem.W.Fast.tw17418310640896394573:True:=trivial
set_option maxRecDepth 100000 in
set_option maxHeartbeats 0 in
theorem PySem.Challenge.cw_shearfloor_k17_tables_written_as_words_holds : PySem.Challenge.rw_shearfloor_k17_tables_written_as_words.Holds := by
 w_on;o_law;k_head;(case hw=>w_witness2)
 k_fill
 refine L2.EM (l:=PySem.Challenge.rw_shearfloor_k17_tables_written_as_words) (n:=63) (k:=7) (x:="_law_script") (CX:=bZ) (sp:=L4.pe) rfl (by decide) rfl ⟨rfl,by decide,by decide,rfl⟩ (fun w h Y=>PySem.W.kIn_of Y) ?F ?S ?C
 case F =>
  intro w mg fa h KX G hmg
  have T:My.Txt mg:=by
   refine' ⟨mf KX G ?z0,mf KX G ?z1,mf KX G ?z2,mf KX G ?z3,mf KX G ?z4,mf KX G ?z5,mf KX G ?z6,mf KX G ?z7,mf KX G ?z8,mf KX G ?z9,mf KX G ?JR⟩
   (case z0=>k_is);(case z1=>k_is);(case z2=>k_is);(case z3=>k_is);(case z4=>k_is);(case z5=>k_is);(case z6=>k_is);(case z7=>k_is);(case z8=>k_is);(case z9=>k_is);(case JR=>k_is)
  have Z:∃ ay aD a9 bA b6 bf bB bg,My.XF (L2.KOf KX) mg ay aD a9 bA b6 bf bB bg:=by
   dsimp only [L2.KOf];refine' ⟨_,_,_,_,_,_,_,_,My.wd KX G ?aW ?cI ?eG ?fS ?hW ?eH ?fT ?eI ?cJ ?eJ ?cK ?k0 ?k1 ?k2 ?k3 ?k4 ?k5 ?k6 ?k7 ⟨?ke,?kf,?kg,?kh,?ki,?kj,?kl,?km⟩⟩
   (case aW=>k_is);(case cI=>k_is);(case eG=>k_is);(case fS=>k_is);(case hW=>k_is);(case eH=>k_is);(case fT=>k_is);(case eI=>k_is)
   (case cJ=>first | rfl | k_is | kernel_rfl);(case eJ=>first | rfl | k_is | kernel_rfl);(case cK=>first | rfl | k_is | kernel_rfl);(case k0=>first | rfl | k_is | kernel_rfl);(case k1=>first | rfl | k_is | kernel_rfl);(case k2=>first | rfl | k_is | kernel_rfl);(case k3=>first | rfl | k_is | kernel_rfl);(case k4=>first | rfl | k_is | kernel_rfl);(case k5=>first | rfl | k_is | kernel_rfl);(case k6=>first | rfl | k_is | kernel_rfl);(case k7=>first | rfl | k_is | kernel_rfl);(case ke=>first | rfl | k_is | kernel_rfl);(case kf=>first | rfl | k_is | kernel_rfl);(case kg=>first | rfl | k_is | kernel_rfl);(case kh=>first | rfl | k_is | kernel_rfl);(case ki=>first | rfl | k_is | kernel_rfl);(case kj=>first | rfl | k_is | kernel_rfl);(case kl=>first | rfl | k_is | kernel_rfl);(case km=>first | rfl | k_is | kernel_rfl)
  obtain ⟨_,_,_,_,_,_,_,_,Z⟩:=Z
  have iD:∃ v,L4.l9 (L2.KOf KX) mg "QUARTER" v (.tup [(.int 0),(.int (-1)),(.int 1),(.int 0)]):=by
   dsimp only [L2.KOf];refine' L4.Dq (vs:=[V.int 0,V.int (-1),V.int 1,V.int 0]) KX G ?a ?l ?o ?z ?v ?d
   (case a=>k_is);(case l=>k_is);(case o=>rfl);(case z=>decide);(case v=>exact (.cons ⟨_,rfl⟩ (.cons ⟨_,rfl⟩ (.cons ⟨_,rfl⟩ (.cons ⟨_,rfl⟩ .nil)))));(case d=>exact fun ρ H=>(.cons (.int _) (.cons (.int _) (.cons (.int _) (.cons (.int _) .nil)))))
  obtain ⟨_,iD⟩:=iD
  have iE:∃ v,L4.l9 (L2.KOf KX) mg "UNMOVED" v (.tup [(.int 1),(.int 0),(.int 0),(.int 1)]):=by
   dsimp only [L2.KOf];refine' L4.Dq (vs:=[V.int 1,V.int 0,V.int 0,V.int 1]) KX G ?a ?l ?o ?z ?v ?d
   (case a=>k_is);(case l=>k_is);(case o=>rfl);(case z=>decide);(case v=>exact (.cons ⟨_,rfl⟩ (.cons ⟨_,rfl⟩ (.cons ⟨_,rfl⟩ (.cons ⟨_,rfl⟩ .nil)))));(case d=>exact fun ρ H=>(.cons (.int _) (.cons (.int _) (.cons (.int _) (.cons (.int _) .nil)))))
  obtain ⟨_,iE⟩:=iE
  have f7:∃ f fd,Def (L2.KOf KX) mg "_law_feed" My.wj ["_law_script","_law_k"] f fd:=by
   dsimp only [L2.KOf];refine' ic KX G (fun _ _ _ _ _ _ us hl=>match us,hl with | [_,_],_=>rfl) ?a ?l ?c ?k
   (case a=>k_is);(case l=>k_is);(case c=>k_is);(case k=>k_is)
  obtain ⟨_,_,f7⟩:=f7
  have f9:∃ f fd,Def (L2.KOf KX) mg "_law_take" My.pE ["_law_feed_here","_law_many"] f fd:=by
   dsimp only [L2.KOf];refine' ic KX G (fun _ _ _ _ _ _ us hl=>match us,hl with | [_,_],_=>rfl) ?a ?l ?c ?k
   (case a=>k_is);(case l=>k_is);(case c=>k_is);(case k=>k_is)
  obtain ⟨_,_,f9⟩:=f9
  have ft:∃ f fd,Def (L2.KOf KX) mg "_law_times" My.wm ["_law_one","_law_other"] f fd:=by
   dsimp only [L2.KOf];refine' ic KX G (fun _ _ _ _ _ _ us hl=>match us,hl with | [_,_],_=>rfl) ?a ?l ?c ?k
   (case a=>k_is);(case l=>k_is);(case c=>k_is);(case k=>k_is)
  obtain ⟨_,_,ft⟩:=ft
  have fu:∃ f fd,Def (L2.KOf KX) mg "_law_table" My.tP ["_law_word_here"] f fd:=by
   dsimp only [L2.KOf];refine' ic KX G (fun _ _ _ _ _ _ us hl=>match us,hl with | [_],_=>rfl) ?a ?l ?c ?k
   (case a=>k_is);(case l=>k_is);(case c=>k_is);(case k=>k_is)
  obtain ⟨_,_,fu⟩:=fu
  have dc:∃ f fd,Def (L2.KOf KX) mg "_law_of_column" My.wq ["_law_a","_law_c"] f fd:=by
   dsimp only [L2.KOf];refine' ic KX G (fun _ _ _ _ _ _ us hl=>match us,hl with | [_,_],_=>rfl) ?a ?l ?c ?k
   (case a=>k_is);(case l=>k_is);(case c=>k_is);(case k=>k_is)
  obtain ⟨_,_,dc⟩:=dc
  have gb:∃ f fd,Def (L2.KOf KX) mg "_law_word" My.wu ["_law_feed_here","_law_most","_law_great"] f fd:=by
   dsimp only [L2.KOf];refine' ic KX G (fun _ _ _ _ _ _ us hl=>match us,hl with | [_,_,_],_=>rfl) ?a ?l ?c ?k
   (case a=>k_is);(case l=>k_is);(case c=>k_is);(case k=>k_is)
  obtain ⟨_,_,gb⟩:=gb
  have dm:∃ f fd,Def (L2.KOf KX) mg "_law_any_word" My.wy ["_law_feed_here"] f fd:=by
   dsimp only [L2.KOf];refine' ic KX G (fun _ _ _ _ _ _ us hl=>match us,hl with | [_],_=>rfl) ?a ?l ?c ?k
   (case a=>k_is);(case l=>k_is);(case c=>k_is);(case k=>k_is)
  obtain ⟨_,_,dm⟩:=dm
  have fw:∃ f fd,Def (L2.KOf KX) mg "_law_drawn" My.wA ["_law_feed_here"] f fd:=by
   dsimp only [L2.KOf];refine' ic KX G (fun _ _ _ _ _ _ us hl=>match us,hl with | [_],_=>rfl) ?a ?l ?c ?k
   (case a=>k_is);(case l=>k_is);(case c=>k_is);(case k=>k_is)
  obtain ⟨_,_,fw⟩:=fw
  have gS:∃ f fd,Def (L2.KOf KX) mg "led_pair" My.wC ["table","pair"] f fd:=by
   dsimp only [L2.KOf];refine' ic KX G (fun _ _ _ _ _ _ us hl=>match us,hl with | [_,_],_=>rfl) ?a ?l ?c ?k
   (case a=>k_is);(case l=>k_is);(case c=>k_is);(case k=>k_is)
  obtain ⟨_,_,gS⟩:=gS
  have jj:∃ f fd,Def (L2.KOf KX) mg "shears" My.tR ["k"] f fd:=by
   dsimp only [L2.KOf];refine' ic KX G (fun _ _ _ _ _ _ us hl=>match us,hl with | [_],_=>rfl) ?a ?l ?c ?k
   (case a=>k_is);(case l=>k_is);(case c=>k_is);(case k=>k_is)
  obtain ⟨_,_,jj⟩:=jj
  have jZ:∃ f fd,Def (L2.KOf KX) mg "times" My.pF ["one","other"] f fd:=by
   dsimp only [L2.KOf];refine' ic KX G (fun _ _ _ _ _ _ us hl=>match us,hl with | [_,_],_=>rfl) ?a ?l ?c ?k
   (case a=>k_is);(case l=>k_is);(case c=>k_is);(case k=>k_is)
  obtain ⟨_,_,jZ⟩:=jZ
  have fx:∃ f fd,Def (L2.KOf KX) mg "step_table" My.wF ["step"] f fd:=by
   dsimp only [L2.KOf];refine' ic KX G (fun _ _ _ _ _ _ us hl=>match us,hl with | [_],_=>rfl) ?a ?l ?c ?k
   (case a=>k_is);(case l=>k_is);(case c=>k_is);(case k=>k_is)
  obtain ⟨_,_,fx⟩:=fx
  have gU:∃ f fd,Def (L2.KOf KX) mg "table_of" My.tS ["word"] f fd:=by
   dsimp only [L2.KOf];refine' ic KX G (fun _ _ _ _ _ _ us hl=>match us,hl with | [_],_=>rfl) ?a ?l ?c ?k
   (case a=>k_is);(case l=>k_is);(case c=>k_is);(case k=>k_is)
  obtain ⟨_,_,gU⟩:=gU
  have iF:∃ f fd,Def (L2.KOf KX) mg "nearest" My.wH ["number","divisor"] f fd:=by
   dsimp only [L2.KOf];refine' ic KX G (fun _ _ _ _ _ _ us hl=>match us,hl with | [_,_],_=>rfl) ?a ?l ?c ?k
   (case a=>k_is);(case l=>k_is);(case c=>k_is);(case k=>k_is)
  obtain ⟨_,_,iF⟩:=iF
  have ez:∃ f fd,Def (L2.KOf KX) mg "level_steps" My.wJ ["pair"] f fd:=by
   dsimp only [L2.KOf];refine' ic KX G (fun _ _ _ _ _ _ us hl=>match us,hl with | [_],_=>rfl) ?a ?l ?c ?k
   (case a=>k_is);(case l=>k_is);(case c=>k_is);(case k=>k_is)
  obtain ⟨_,_,ez⟩:=ez
  have jk:∃ f fd,Def (L2.KOf KX) mg "joined" My.wL ["one","other"] f fd:=by
   dsimp only [L2.KOf];refine' ic KX G (fun _ _ _ _ _ _ us hl=>match us,hl with | [_,_],_=>rfl) ?a ?l ?c ?k
   (case a=>k_is);(case l=>k_is);(case c=>k_is);(case k=>k_is)
  obtain ⟨_,_,jk⟩:=jk
  have fz:∃ f fd,Def (L2.KOf KX) mg "made_plain" My.wN ["word"] f fd:=by
   dsimp only [L2.KOf];refine' ic KX G (fun _ _ _ _ _ _ us hl=>match us,hl with | [_],_=>rfl) ?a ?l ?c ?k
   (case a=>k_is);(case l=>k_is);(case c=>k_is);(case k=>k_is)
  obtain ⟨_,_,fz⟩:=fz
  have dP:∃ f fd,Def (L2.KOf KX) mg "put_together" My.tU ["one","other"] f fd:=by
   dsimp only [L2.KOf];refine' ic KX G (fun _ _ _ _ _ _ us hl=>match us,hl with | [_,_],_=>rfl) ?a ?l ?c ?k
   (case a=>k_is);(case l=>k_is);(case c=>k_is);(case k=>k_is)
  obtain ⟨_,_,dP⟩:=dP
  have gW:∃ f fd,Def (L2.KOf KX) mg "is_table" My.wR ["thing"] f fd:=by
   dsimp only [L2.KOf];refine' ic KX G (fun _ _ _ _ _ _ us hl=>match us,hl with | [_],_=>rfl) ?a ?l ?c ?k
   (case a=>k_is);(case l=>k_is);(case c=>k_is);(case k=>k_is)
  obtain ⟨_,_,gW⟩:=gW
  have fA:∃ f fd,Def (L2.KOf KX) mg "level_word" My.wV ["table"] f fd:=by
   dsimp only [L2.KOf];refine' ic KX G (fun _ _ _ _ _ _ us hl=>match us,hl with | [_],_=>rfl) ?a ?l ?c ?k
   (case a=>k_is);(case l=>k_is);(case c=>k_is);(case k=>k_is)
  obtain ⟨_,_,fA⟩:=fA
  have gf:∃ f fd,Def (L2.KOf KX) mg "back_step" My.wX ["step"] f fd:=by
   dsimp only [L2.KOf];refine' ic KX G (fun _ _ _ _ _ _ us hl=>match us,hl with | [_],_=>rfl) ?a ?l ?c ?k
   (case a=>k_is);(case l=>k_is);(case c=>k_is);(case k=>k_is)
  obtain ⟨_,_,gf⟩:=gf
  have gg:∃ f fd,Def (L2.KOf KX) mg "back_word" My.tV ["word"] f fd:=by
   dsimp only [L2.KOf];refine' ic KX G (fun _ _ _ _ _ _ us hl=>match us,hl with | [_],_=>rfl) ?a ?l ?c ?k
   (case a=>k_is);(case l=>k_is);(case c=>k_is);(case k=>k_is)
  obtain ⟨_,_,gg⟩:=gg
  have iG:∃ f fd,Def (L2.KOf KX) mg "word_of" My.tX ["table"] f fd:=by
   dsimp only [L2.KOf];refine' ic KX G (fun _ _ _ _ _ _ us hl=>match us,hl with | [_],_=>rfl) ?a ?l ?c ?k
   (case a=>k_is);(case l=>k_is);(case c=>k_is);(case k=>k_is)
  obtain ⟨_,_,iG⟩:=iG
  have dn:∃ f fd,Def (L2.KOf KX) mg "_law_is_alone" My.wZ ["_law_e","_law_own"] f fd:=by
   dsimp only [L2.KOf];refine' ic KX G (fun _ _ _ _ _ _ us hl=>match us,hl with | [_,_],_=>rfl) ?a ?l ?c ?k
   (case a=>k_is);(case l=>k_is);(case c=>k_is);(case k=>k_is)
  obtain ⟨_,_,dn⟩:=dn
  have gh:∃ f fd,Def (L2.KOf KX) mg "_law_none" My.w4 ["_law_thing"] f fd:=by
   dsimp only [L2.KOf];refine' ic KX G (fun _ _ _ _ _ _ us hl=>match us,hl with | [_],_=>rfl) ?a ?l ?c ?k
   (case a=>k_is);(case l=>k_is);(case c=>k_is);(case k=>k_is)
  obtain ⟨_,_,gh⟩:=gh
  have gi:∃ f fd,Def (L2.KOf KX) mg "_law_back" My.w8 ["_law_word_here"] f fd:=by
   dsimp only [L2.KOf];refine' ic KX G (fun _ _ _ _ _ _ us hl=>match us,hl with | [_],_=>rfl) ?a ?l ?c ?k
   (case a=>k_is);(case l=>k_is);(case c=>k_is);(case k=>k_is)
  obtain ⟨_,_,gi⟩:=gi
  have dq:∃ f fd,Def (L2.KOf KX) mg "_law_is_plain" My.xa ["_law_word_here"] f fd:=by
   dsimp only [L2.KOf];refine' ic KX G (fun _ _ _ _ _ _ us hl=>match us,hl with | [_],_=>rfl) ?a ?l ?c ?k
   (case a=>k_is);(case l=>k_is);(case c=>k_is);(case k=>k_is)
  obtain ⟨_,_,dq⟩:=dq
  have kn:∃ f fd,Def (L2.KOf KX) mg "law" My.y3 ["_law_script"] f fd:=by
   dsimp only [L2.KOf];refine' ic KX G (fun _ _ _ _ _ _ us hl=>match us,hl with | [_],_=>rfl) ?a ?l ?c ?k
   (case a=>k_is);(case l=>k_is);(case c=>k_is);(case k=>k_is)
  obtain ⟨_,_,kn⟩:=kn
  have e0:=hmg.symm.trans kn.m
  cases e0
  exact ⟨_,kn.ny,fun base _ _=>L4.rg (My.sR T Z iD iE f7 f9 ft fu dc gb dm fw gS jj jZ fx gU iF ez jk fz dP gW fA gf gg iG dn gh gi dq kn) fun ns hn=>let ⟨_,st,e,h⟩:=My.mK ns hn;⟨st,h ▸ e⟩⟩
 case S=>exact fun K H a ns hl hO hS=>⟨a,ns,rfl,hS.script hO,hl,fun _=>rfl⟩
 case C=>exact fun _ _ _ _ z=>z
