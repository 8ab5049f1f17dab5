import PyProof.Rows.All
import Wide.All
import OpenK.AllK
import Wide.FinOn
import Lean
import PyProof.EqAt
import PyProof.EqKinds
import PyProof.TupleCall
import PyProof.DictIter
import PyProof.EnumMake
import KE.KSortTup
import KE.KDictLaws
import KE.KDictSum
import PyProof.StrLawsTight
import KE.KIntText
import PyProof.MinMaxWalk
import PyProof.WalkInts
import KE.KIsAll
import PyProof.ExcInit
import PyProof.NsDelKeeps
import PyProof.ExcBaseAll.ValueError
import OpenK.KOwn
import PyProof.ExcAttrAll.ValueError
import PyProof.InstStoreFacts
import PyProof.NoPylong
import PySem.Challenge.RW_shearfloor_k22_led_by_tables
set_option Elab.async false
set_option linter.all false
set_option maxRecDepth 100000
set_option maxHeartbeats 4000000
set_option genSizeOf false
noncomputable section
namespace L2
open PySem PySem.Spec PyProof.Rows
abbrev Key:=Sum Int Str
def my:Key->Value->Bool
 | .inl k,v=>Value.isInt k v
 | .inr x,v=>Value.isStrOf x v
def EH (w:World):Key->Int
 | .inl k=>hashInt k
 | .inr x=>hashStr w x
theorem rj:∀ {k:Key} {v:Value},my k v=true->(∃ i t,k=Sum.inl i/\v=Value.int i t)\/(∃ x t,k=Sum.inr x/\v=Value.str x t)
 | .inl i,v,h=>by
  obtain ⟨t,e⟩:=Value.isInt_shape (k:=i) (v:=v) h
  exact .inl ⟨i,t,rfl,e⟩
 | .inr x,v,h=>by
  obtain ⟨t,e⟩:=Value.isStrOf_shape (x:=x) (v:=v) h
  exact .inr ⟨x,t,rfl,e⟩
theorem Lu (i:Int) (t:Tok):my (.inl i) (.int i t)=true:=by simp [my,Value.isInt]
theorem Lv (x:Str) (t:Tok):my (.inr x) (.str x t)=true:=by simp [my,Value.isStrOf]
theorem uq (a b:Int):decide ((Sum.inl a:Key)=Sum.inl b)=(a == b):=by
 by_cases e:a=b
 ·subst e;simp
 ·have h:¬ (Sum.inl a:Key)=Sum.inl b:=fun q=>e (Sum.inl.inj q)
  rw [decide_eq_false h]
  exact (beq_eq_false_iff_ne.mpr e).symm
theorem ur (a b:Str):decide ((Sum.inr a:Key)=Sum.inr b)=decide (a=b):=by
 by_cases e:a=b
 ·subst e;simp
 ·have h:¬ (Sum.inr a:Key)=Sum.inr b:=fun q=>e (Sum.inr.inj q)
  rw [decide_eq_false h,decide_eq_false e]
theorem uu (a:Int) (b:Str):decide ((Sum.inl a:Key)=Sum.inr b)=false:=decide_eq_false (fun q=>nomatch q)
theorem uv (a:Str) (b:Int):decide ((Sum.inr a:Key)=Sum.inl b)=false:=decide_eq_false (fun q=>nomatch q)
def cH (prog:Program) (w:World):PySem.KeyKind prog w Key where
 is:=my
 hash:=EH w
 inj:=fun v a b ha hb=>by
  rcases rj ha with ⟨i,t,rfl,rfl⟩ | ⟨x,t,rfl,rfl⟩
  ·rcases rj hb with ⟨j,u,rfl,e⟩ | ⟨y,u,rfl,e⟩
   ·injection e with e1 _;rw [e1]
   ·exact nomatch e
  ·rcases rj hb with ⟨j,u,rfl,e⟩ | ⟨y,u,rfl,e⟩
   ·exact nomatch e
   ·injection e with e1 _;rw [e1]
 byValue:=fun k v h=>by
  rcases rj h with ⟨i,t,rfl,rfl⟩ | ⟨x,t,rfl,rfl⟩ <;> rfl
 pyHash:=fun hv h=>by
  rcases rj hv with ⟨i,t,rfl,rfl⟩ | ⟨x,t,rfl,rfl⟩
  ·exact wpAny_pyHash_int h
  ·exact wpAny_pyHash_str h
 eqBool:=fun hu hv h=>by
  rcases rj hu with ⟨i,t,rfl,rfl⟩ | ⟨x,t,rfl,rfl⟩
  ·rcases rj hv with ⟨j,u,rfl,rfl⟩ | ⟨y,u,rfl,rfl⟩
   ·rw [uq] at h;exact wpAny_eqBool_int h
   ·rw [uu] at h;exact SeqAt.EqAt.int_str i t y u _ _ _ _ h
  ·rcases rj hv with ⟨j,u,rfl,rfl⟩ | ⟨y,u,rfl,rfl⟩
   ·rw [uv] at h;exact SeqAt.EqAt.str_int x t j u _ _ _ _ h
   ·rw [ur] at h;exact wpAny_eqBool_str h
 «strs»:=fun k x t v h=>by
  rcases rj h with ⟨i,u,rfl,e⟩ | ⟨y,u,rfl,e⟩
  ·exact nomatch e
  ·injection e with e1 _
   subst e1
   cases v <;> rfl
theorem Lw (prog:Program) (w:World) (i:Int) (t:Tok):(cH prog w).is (.inl i) (.int i t)=true:=Lu i t
theorem Lx (prog:Program) (w:World) (x:Str) (t:Tok):(cH prog w).is (.inr x) (.str x t)=true:=Lv x t
end L2
namespace L2
open PySem PySem.Spec PyProof.Rows
inductive V where
 | non | bl (b:Bool) | int (i:Int) | str (x:Str) | pK (b:Array UInt8) | EI (b:UInt64) | ref (a:Addr) | ty (n:String)
 deriving DecidableEq
def RelV:V->Value->Prop
 | .non,u=>u=Value.none
 | .bl b,u=>u=Value.bool b
 | .int i,u=>∃ t,u=Value.int i t
 | .str x,u=>∃ t,u=Value.str x t
 | .pK b,u=>∃ t,u=Value.bytes b t
 | .EI b,u=>∃ t,u=Value.float b t
 | .ref a,u=>u=Value.ref a
 | .ty n,u=>u=Value.type n
abbrev Vals:List V->List Value->Prop:=Paired RelV
theorem Vals.length {xs:List V} {us:List Value} (r:Vals xs us):xs.length=us.length:=Paired.length r
theorem Vals.get:∀ {xs:List V} {us:List Value} {i:Nat} {x:V},Vals xs us->xs[i]?=some x->∃ u,us[i]?=some u/\RelV x u
 | _,_,_,_,.nil,e=>by simp at e
 | _,_,0,_,.cons r _,e=>by simp at e;subst e;exact ⟨_,rfl,r⟩
 | _,_,i + 1,x,.cons _ t,e=>by
  obtain ⟨u,h1,h2⟩:=Vals.get (i:=i) (x:=x) t (by simpa using e)
  exact ⟨u,by simpa using h1,h2⟩
theorem Vals.set {x:V} {u:Value} (r:RelV x u):∀ {xs:List V} {us:List Value} (i:Nat),Vals xs us->Vals (xs.set i x) (us.set i u)
 | _,_,_,.nil=>.nil
 | _,_,0,.cons _ t=>.cons r t
 | _,_,i + 1,.cons q t=>.cons q (Vals.set r i t)
theorem Vals.append:∀ {xs ys:List V} {us ws:List Value},Vals xs us->Vals ys ws->Vals (xs ++ ys) (us ++ ws)
 | _,_,_,_,.nil,s=>s
 | _,_,_,_,.cons r t,s=>.cons r (Vals.append t s)
theorem Vals.take:∀ {xs:List V} {us:List Value} (n:Nat),Vals xs us->Vals (xs.take n) (us.take n)
 | _,_,0,_=>.nil
 | _,_,_ + 1,.nil=>.nil
 | _,_,n + 1,.cons r t=>.cons r (Vals.take n t)
theorem Vals.drop:∀ {xs:List V} {us:List Value} (n:Nat),Vals xs us->Vals (xs.drop n) (us.drop n)
 | _,_,0,r=>r
 | _,_,_ + 1,.nil=>.nil
 | _,_,n + 1,.cons _ t=>Vals.drop n t
def oY:Option V->Option Value->Prop
 | some v,some u=>RelV v u
 | none,none=>True
 | _,_=>False
def KV {κ:Type}:List (κ×V)->List (κ×Value)->Prop:=Paired fun (p:κ×V) (q:κ×Value)=>p.1=q.1/\RelV p.2 q.2
def kV:Key->V
 | .inl i=>.int i
 | .inr x=>.str x
set_option genInjectivity false in
inductive HO where
 /-- a list -/
 | lst (xs:List V)
 /-- a tuple (never changes) -/
 | tup (xs:List V)
 /-- a dict whose keys are ints and texts;one whose keys are tuples of ints and texts (the empty one is both) -/
 | dK (kvs:List (Key×V)) | dT (kvs:List (List Key×V))
 /-- a set of ints: its members,its size -/
 | set (S:Int->Bool) (n:Nat)
 /-- an instance of the class at C,its dict at dx,its attributes -/
 | ins (C dx:Addr) (fs:List (Str×V))
 /-- the dict of the instance at x -/
 | own (x:Addr)
 /-- the dict of an exception -/
 | xd (fs:List (Str×V))
 /-- a bound method,f of x -/
 | met (f x:Addr)
 /-- a range object lo,lo + 1,.. below hi -/
 | iF (lo hi:Int)
 /-- a thing that is known to the object (the script;a dict while a loop walks it): read,never written while it is so -/
 | mK (o:Obj) (u:HO)
 /-- a code yi table -/
 | uw (ps:Array Value)
 /-- any other thing,by what is true of its one object (a def of Hl own: Ly a S n:=HO.ext fun h=>..) -/
 | ext (φ:Heap->Prop)
abbrev Hp:=Addr->Option HO
def upd (H:Hp) (a:Addr) (o:HO):Hp:=fun b=>if b=a then some o else H b
theorem pk {H:Hp} {a:Addr} {o:HO}:upd H a o a=some o:=by unfold upd;rw [if_pos rfl]
theorem je {H:Hp} {a b:Addr} {o:HO} (h:b≠a):upd H a o b=H b:=by unfold upd;rw [if_neg h]
theorem EJ {H:Hp} {a b:Addr} {o u:HO} (h:H a=some o) (h':H b=some u) (d:o≠u):a≠b:=by
 intro e;subst e;rw [h] at h';exact d (Option.some.inj h')
theorem xu {H:Hp} {a b:Addr} {o:HO} (h:H a=some o) (h':H b=none):a≠b:=by
 intro e;subst e;rw [h] at h';cases h'
def lH (h:Heap) (a:Addr) (its:Array Value):Prop:=∃ o,h.get? a=some o/\o.cls=.type "tuple" /\ o.dict=none/\∃ n,o.data=.seq its n
theorem lH.tup {h:Heap} {a:Addr} {its:Array Value} (x:lH h a its):IsTup h a its:=let ⟨o,e,c,_,n,d⟩:=x;⟨o,e,c,n,d⟩
theorem lH.new (h:Heap) (its:Array Value):lH (h.push { cls:=.type "tuple",data:=.seq its }) h.objs.size its:=⟨_,Heap.get?_push_size _ rfl,rfl,rfl,_,rfl⟩
section
variable (P:Program) (w:World)
def cC (H:Hp) (h:Heap) (a:Addr):HO->Prop
 | .lst xs=>xs.length<=sizeLine/\∃ (its:List Value) (n:Nat),Vals xs its/\h.get? a=some { cls:=.type "list",data:=.seq its.toArray n }
 | .tup xs=>xs.length<=sizeLine/\∃ its:List Value,Vals xs its/\lH h a its.toArray
 | .dK kvs=>kvs.length<=sizeLine/\(a == sysModules)=false/\∃ vs,KV kvs vs/\h.DictOf (cH P w) a vs
 | .dT kvs=>kvs.length<=sizeLine/\(a == sysModules)=false/\∃ xs:List (List Key×Addr×Value),
   Paired (fun (p:List Key×V) (q:List Key×Addr×Value)=>p.1=q.1/\H q.2.1=some (.tup (p.1.map kV))/\RelV p.2 q.2.2) kvs xs /\
   ∃ o es ep,h.get? a=some o/\o.ExactDict/\o.data=.dict es ep/\es.toList=xs.map (entryOfKey (tupleKind (cH P w)))/\(xs.map (·.1)).Nodup
 | .set S n=>h.SetOf (intKind P w) a S n
 | .ins C dx fs=>H dx=some (.own a)/\fs.length<=1000/\dx≠a/\h.get? a=some (PySem.W.instObj C dx) /\
   ∃ mA,h.Ns1 dx mA/\(∀ f,oY (fs.lookup f) (mA f))/\PySem.Within mA (fs.map (·.1))
 | .own _=>∃ o,h.get? a=some o
 | .xd fs=>∃ mA,h.Ns1 a mA/\∀ f,oY (fs.lookup f) (mA f)
 | .iF lo hi=>∃ t u v,h.get? a=some { cls:=.type "range",data:=.fields #[.int lo t,.int hi u,.int 1 v] }
 | .mK o u=>h.get? a=some o/\cC H h a u
 | .uw ps=>h.get? a=some { cls:=.none,data:=.fields ps }
 | .met f x=>h.get? a=some (PySem.W.methodObj (.ref f) (.ref x))
 | .ext φ=>φ h/\(∃ o,h.get? a=some o)/\∀ h1 h2:Heap,φ h1->(∀ o,h1.get? a=some o->h2.get? a=some o)->φ h2
def j8 (H:Hp) (h:Heap):Prop:=∀ a o,H a=some o->cC P w H h a o
end
section
variable {P:Program} {w:World} {H H':Hp} {h h':Heap} {a:Addr} {o:HO}
theorem cC.lt (x:cC P w H h a o):a < h.objs.size:=by
 cases o with
 | lst xs=>obtain ⟨_,_,_,_,e⟩:=x;exact Heap.lt_size e
 | tup xs=>obtain ⟨_,_,_,_,e,_⟩:=x;exact Heap.lt_size e
 | dK kvs=>obtain ⟨_,_,_,_,o,_,_,e,_⟩:=x;exact Heap.lt_size e
 | dT kvs=>obtain ⟨_,_,_,_,o,_,_,e,_⟩:=x;exact Heap.lt_size e
 | set S n=>obtain ⟨o,_,_,_,e,_⟩:=x;exact Heap.lt_size e
 | ins C dx fs=>obtain ⟨_,_,_,e,_⟩:=x;exact Heap.lt_size e
 | own y=>obtain ⟨_,e⟩:=x;exact Heap.lt_size e
 | xd fs=>obtain ⟨_,⟨_,_,_,e,_⟩,_⟩:=x;exact Heap.lt_size e
 | iF lo hi=>obtain ⟨_,_,_,e⟩:=x;exact Heap.lt_size e
 | mK ob u=>obtain ⟨e,_⟩:=x;exact Heap.lt_size e
 | uw ps=>exact Heap.lt_size (show h.get? a=some _ from x)
 | met f y=>exact Heap.lt_size (show h.get? a=some _ from x)
 | ext φ=>obtain ⟨_,⟨_,e⟩,_⟩:=x;exact Heap.lt_size e
theorem Paired.ux {α β:Type} {F G:α->β->Prop}:∀ {l₁:List α} {l₂:List β},Paired F l₁ l₂->(∀ a b,F a b->G a b)->Paired G l₁ l₂
 | _,_,.nil,_=>.nil
 | _,_,.cons r t,f=>.cons (f _ _ r) (Paired.ux t f)
theorem cC.stay (x:cC P w H h a o) (k:∀ b u,(b=a\/H b=some (.own a))->h.get? b=some u->h'.get? b=some u)
  (ho:∀ b,H b=some (.own a)->H' b=some (.own a)) (ht:∀ b xs,H b=some (.tup xs)->H' b=some (.tup xs)):cC P w H' h' a o:=by
 induction o with
 | lst xs=>obtain ⟨z,its,n,r,e⟩:=x;exact ⟨z,its,n,r,k _ _ (.inl rfl) e⟩
 | tup xs=>obtain ⟨z,its,r,ob,e,c⟩:=x;exact ⟨z,its,r,ob,k _ _ (.inl rfl) e,c⟩
 | dK kvs=>obtain ⟨z,y,vs,r,ob,es,ep,e,c⟩:=x;exact ⟨z,y,vs,r,ob,es,ep,k _ _ (.inl rfl) e,c⟩
 | dT kvs =>
  obtain ⟨z,y,xs,r,ob,es,ep,e,c⟩:=x
  exact ⟨z,y,xs,Paired.ux r fun p q z=>⟨z.1,ht _ _ z.2.1,z.2.2⟩,ob,es,ep,k _ _ (.inl rfl) e,c⟩
 | set S n=>obtain ⟨ob,es,ep,t,e,c⟩:=x;exact ⟨ob,es,ep,t,k _ _ (.inl rfl) e,c⟩
 | ins C dx fs =>
  obtain ⟨d,z,ne,e,mA,⟨od,es,ep,e2,c⟩,r⟩:=x
  exact ⟨ho _ d,z,ne,k _ _ (.inl rfl) e,mA,⟨od,es,ep,k _ _ (.inr d) e2,c⟩,r⟩
 | own y=>obtain ⟨ob,e⟩:=x;exact ⟨ob,k _ _ (.inl rfl) e⟩
 | xd fs=>obtain ⟨mA,⟨od,es,ep,e,c⟩,r⟩:=x;exact ⟨mA,⟨od,es,ep,k _ _ (.inl rfl) e,c⟩,r⟩
 | iF lo hi=>obtain ⟨t,u,v,e⟩:=x;exact ⟨t,u,v,k _ _ (.inl rfl) e⟩
 | mK ob u ih=>obtain ⟨e,q⟩:=x;exact ⟨k _ _ (.inl rfl) e,ih q⟩
 | uw ps =>
  have e:h.get? a=some { cls:=.none,data:=.fields ps }:=x
  show h'.get? a=some { cls:=.none,data:=.fields ps }
  exact k a _ (.inl rfl) e
 | met f y =>
  have e:h.get? a=some (PySem.W.methodObj (.ref f) (.ref y)):=x
  show h'.get? a=some (PySem.W.methodObj (.ref f) (.ref y))
  exact k a _ (.inl rfl) e
 | ext φ=>obtain ⟨p,⟨o,e⟩,st⟩:=x;exact ⟨st _ _ p fun o q=>k _ _ (.inl rfl) q,⟨o,k _ _ (.inl rfl) e⟩,st⟩
theorem j8.lt (x:j8 P w H h) (e:H a=some o):a < h.objs.size:=(x a o e).lt
theorem j8.fresh (x:j8 P w H h) (e:h.objs.size<=a):H a=none:=by
 cases q:H a with
 | none=>rfl
 | some u=>exact absurd (Nat.lt_of_lt_of_le (x.lt q) e) (Nat.lt_irrefl _)
theorem j8.kept (x:j8 P w H h) (k:∀ b u,h.get? b=some u->h'.get? b=some u):j8 P w H h':=fun a o e =>
 (x a o e).stay (fun b u _ q=>k b u q) (fun _ q=>q) fun _ _ q=>q
theorem j8.laid (x:j8 P w H h) (k:∀ b u,h.get? b=some u->h'.get? b=some u) (hp:h.objs.size<=a) (new:cC P w (upd H a o) h' a o):j8 P w (upd H a o) h':=fun b u e=>by
 have hn:=x.fresh hp
 by_cases hb:b=a
 ·subst hb;rw [pk] at e;cases e;exact new
 ·rw [je hb] at e
  exact (x b u e).stay (fun c v _ q=>k c v q) (fun c q=>by rw [je (xu q hn)];exact q) fun c xs q=>by rw [je (xu q hn)];exact q
end
def Rd (H:Hp) (a:Addr) (u:HO):Prop:=H a=some u\/∃ o,H a=some (.mK o u)
theorem Rd.ok {P:Program} {w:World} {H:Hp} {h:Heap} {a:Addr} {u:HO} (r:Rd H a u) (x:j8 P w H h):cC P w H h a u:=by
 rcases r with r | ⟨o,r⟩
 ·exact x a u r
 ·obtain ⟨_,q⟩:=x a _ r
  exact q
def yj:Option HO->Prop
 | some (.lst _)=>True
 | some (.dK _)=>True
 | some (.dT _)=>True
 | some (.set _ _)=>True
 | some (.ins _ _ _)=>True
 | some (.ext _)=>True
 | _=>False
section
variable {P:Program} {w:World} {H:Hp} {h h':Heap} {x e:Addr} {o':HO}
theorem j8.write (ok:j8 P w H h) (mu:yj (H x)) (he:e=x\/H e=some (.own x)) (k:∀ b u,b≠e->h.get? b=some u->h'.get? b=some u) (xv:∃ u,h'.get? e=some u)
  (new:cC P w (upd H x o') h' x o'):j8 P w (upd H x o') h':=fun b u q=>by
 have yk:∀ c y,H c=some (.own y)->c≠x:=fun c y r z=>by subst z;rw [r] at mu;exact mu
 have EK:∀ c xs,H c=some (.tup xs)->c≠x:=fun c xs r z=>by subst z;rw [r] at mu;exact mu
 by_cases hb:b=x
 ·subst hb;rw [pk] at q;cases q;exact new
 ·rw [je hb] at q
  by_cases uy:b=e
  ·have q':H b=some (.own x):=by
    rcases he with z | z
    ·exact absurd (uy.trans z) hb
    ·rw [uy];exact z
   rw [q] at q';cases q'
   obtain ⟨v,hv⟩:=xv
   exact ⟨v,by rw [uy];exact hv⟩
  ·refine (ok b u q).stay (fun c v hc r=>k c v ?_ r) (fun c r=>by rw [je (yk c b r)];exact r) fun c xs r=>by rw [je (EK c xs r)];exact r
   rcases hc with rfl | hc
   ·exact uy
   ·rintro rfl
    rcases he with z | z
    ·exact yk c b hc z
    ·rw [hc] at z;cases z;exact hb rfl
end
structure Un (fs ex:List Addr) (H H':Hp) (h h':Heap):Prop where
 keep:∀ b o,h.get? b=some o->H b=none->b ∉ fs->b ∉ ex->h'.get? b=some o
 slot:∀ b o,h.get? b=some o->H b=none->b∈fs->b ∉ ex->∃ sl,h'.get? b=some { o with slots:=sl }
 free:∀ b o,h.get? b=some o->H b=none->b ∉ ex->H' b=none
 there:∀ b o,h.get? b=some o->b ∉ ex->∃ o',h'.get? b=some o'
 tups:∀ b xs,H b=some (.tup xs)->H' b=some (.tup xs)
 mL:∀ b o u,H b=some (.mK o u)->H' b=some (.mK o u)
 nK:∀ b ps,H b=some (.uw ps)->∃ more,H' b=some (.uw (ps ++ more))
section
variable {fs fs' ex ex':List Addr} {H H1 H2:Hp} {h h1 h2 h':Heap} {a x e:Addr} {o:HO}
theorem Un.any (u:Un fs ex H H1 h h1) {b:Addr} {ob:Obj} (q:h.get? b=some ob) (n:H b=none) (hx:b ∉ ex):∃ sl,h1.get? b=some { ob with slots:=sl }:=by
 by_cases hb:b∈fs
 ·exact u.slot b ob q n hb hx
 ·exact ⟨ob.slots,u.keep b ob q n hb hx⟩
theorem Un.kept (k:∀ b u,h.get? b=some u->h'.get? b=some u):Un fs ex H H h h' :=
 ⟨fun b ob q _ _ _=>k b ob q,fun b ob q _ _ _=>⟨ob.slots,k b ob q⟩,fun _ _ _ n _=>n,fun b ob q _=>⟨ob,k b ob q⟩,fun _ _ q=>q,fun _ _ _ q=>q,fun _ ps q=>⟨#[],by rw [q];simp⟩⟩
theorem Un.refl:Un fs ex H H h h:=Un.kept fun _ _ q=>q
theorem Un.laid (k:∀ b u,h.get? b=some u->h'.get? b=some u) (hp:h.objs.size<=a) (hn:H a=none):Un fs ex H (upd H a o) h h' where
 keep:=fun b u q _ _ _=>k b u q
 slot:=fun b u q _ _ _=>⟨u.slots,k b u q⟩
 free:=fun b u q n _=>by rw [je (Nat.ne_of_lt (Nat.lt_of_lt_of_le (Heap.lt_size q) hp))];exact n
 there:=fun b u q _=>⟨u,k b u q⟩
 tups:=fun b xs q=>by rw [je (xu q hn)];exact q
 mL:=fun b u xs q=>by rw [je (xu q hn)];exact q
 nK:=fun b ps q=>⟨#[],by rw [je (xu q hn),q];simp⟩
theorem Un.write (mu:yj (H x)) (he:e=x\/H e=some (.own x)) (k:∀ b u,b≠e->h.get? b=some u->h'.get? b=some u) (xv:∃ u,h'.get? e=some u):Un fs ex H (upd H x o) h h':=by
 have hx:∀ b,H b=none->b≠x:=fun b n z=>by subst z;rw [n] at mu;exact mu
 have hb:∀ b,H b=none->b≠e:=fun b n z=>by
  subst z
  rcases he with r | r
  ·exact hx b n r
  ·rw [n] at r;cases r
 have hm:∀ b u,H b=some u->¬ yj (some u)->b≠x:=fun b u q nm z=>by subst z;rw [q] at mu;exact nm mu
 refine ⟨fun b u q n _ _=>k b u (hb b n) q,fun b u q n _ _=>⟨u.slots,k b u (hb b n) q⟩,fun b u q n _=>by rw [je (hx b n)];exact n,fun b u q _=>?_,
  fun b xs q=>by rw [je (hm b _ q fun z=>z)];exact q,fun b u xs q=>by rw [je (hm b _ q fun z=>z)];exact q,fun b ps q=>⟨#[],by rw [je (hm b _ q fun z=>z),q];simp⟩⟩
 by_cases uy:b=e
 ·subst uy;exact xv
 ·exact ⟨u,k b u uy q⟩
end
def Ce (h:Heap) (H:Hp):List Addr:=(List.range h.objs.size).filter fun a=>(H a).isSome
def mM (h:Heap) (H:Hp):Heap:=PySem.W.hideAll h (Ce h H)
theorem Lz (h:Heap) (H:Hp):(mM h H).objs.size=h.objs.size:=PySem.W.hideAll_size _ _
theorem LA {h:Heap} {H:Hp} {b:Addr} {o:Obj} (e:h.get? b=some o) (n:H b=none):(mM h H).get? b=some o :=
 PySem.W.hideAll_get _ e fun hm=>by
  have q:(H b).isSome=true:=(List.mem_filter.mp hm).2
  rw [n] at q;simp at q
theorem LB {h:Heap} {H:Hp} {b:Addr} {o:Obj} (e:(mM h H).get? b=some o):h.get? b=some o/\H b=none:=by
 have e':h.get? b=some o:=PySem.W.of_hideAll (Ce h H) e
 refine ⟨e',?_⟩
 cases q:H b with
 | none=>rfl
 | some x =>
  have hm:b∈Ce h H:=List.mem_filter.mpr ⟨List.mem_range.mpr (Heap.lt_size e'),by simp [q]⟩
  have z:(mM h H).get? b=none:=PySem.W.hideAll_none (Ce h H) hm
  rw [z] at e;cases e
def rl (g h:Heap) (L:Addr):List (Addr×Obj):=(List.range h.objs.size).filterMap fun a=>if a=L\/(g.get? a).isSome=true then none else (h.get? a).map fun o=>(a,o)
def rest (g h:Heap) (L d:Addr):List (Addr×Obj):=(rl g h L).filter fun p=>decide (p.1≠d)
end L2
namespace L2
open PySem PySem.Spec PyProof.Rows
structure Mod (K:PySem.W.Frag) (mg:Str->Option Value) (base:Heap):Prop where
 EL:K.In base
 glob:base.Ns mainGlobals mg
 blt:∃ mb,base.Ns builtinsNs mb/\∀ x:Str,x≠"__name__" -> mb x=bootBuiltins x
 nolimit:base.NoLimit
set_option genInjectivity false in
structure Cx where
 prog:Program
 w:World
 K:PySem.W.Frag
 mg:Str->Option Value
 base:Heap
 A:Around
 N:List Str
 s₀:Shared
 H₀:Hp
 env:Env
 outer:List Env
 stack:List Env
 ex:List Addr
 fn:Str->Bool
 calm:Bool
 pn:List (Addr×Obj)
 xe:Value->Shared->Prop
def frs (l:List Env):List Addr:=l.filterMap (·.frame)
abbrev Cx.fs (X:Cx):List Addr:=frs X.outer
def EM (sc:Scope) (x:Str):Prop:=sc.names.lookup x=some .local\/sc.names.lookup x=some .cell\/sc.names.lookup x=some .free
def Loc (sc:Scope) (x:Str):Prop:=sc.names.lookup x=some .local\/sc.names.lookup x=some .cell
def Look (env:Env) (h:Heap) (m:Str->Option Value) (x:Str) (u:Value):Prop :=
 (env.kindOf x=some .local/\m x=some u)\/((env.kindOf x=some .cell\/env.kindOf x=some .free)/\∃ c,env.cells.lookup x=some c/\h.IsCell c (some u))
structure Cx.Ok (X:Cx):Prop where
 mod:Mod X.K X.mg X.base
 kind:X.env.scope.kind=.function
 glob:X.env.globals=mainGlobals
 blt:X.env.builtins=builtinsNs
 above:X.s₀.heap.objs.size<=X.env.locals
 inj:∀ x y c,X.env.cells.lookup x=some c->X.env.cells.lookup y=some c->x=y
 has:∀ x,(X.env.kindOf x=some .cell\/X.env.kindOf x=some .free)->∃ c,X.env.cells.lookup x=some c
 yl:∀ x c,X.fn x=true->X.env.cells.lookup x=some c->X.s₀.heap.objs.size<=c
 hd:X.calm=true->X.A.handled=none
 frames:X.A.frames=some X.stack
 stk:X.stack=X.outer\/(X.stack=X.env :: X.outer/\X.env.frame=some X.env.locals)
 Hm:∀ b∈X.ex,b≠X.env.locals/\∀ x c,X.env.cells.lookup x=some c->c≠b
 bs:∀ b o,X.base.get? b=some o->X.s₀.heap.get? b=some o/\X.H₀ b=none
 su:X.base.objs.size<=X.s₀.heap.objs.size
 pL:∀ b o,X.base.get? b=some o->b ∉ X.ex
 rm:∀ b∈X.ex,b ∉ X.fs
 lI:X.s₀.heap.FunFrames X.base X.outer
 xw:∀ b∈X.fs,X.H₀ b=none
structure Inv (X:Cx) (pins:List (Addr×Obj)) (σ:List (Option V)) (H:Hp) (s:Shared):Prop where
 ok:X.Ok
 os:s.os=X.s₀.os
 bare:AllBare s.gens
 base:Un X.fs X.ex X.H₀ H X.s₀.heap s.heap
 loc:∃ m,s.heap.Ns X.env.locals m/\∀ (i:Nat) (x:Str) (v:V),X.N[i]?=some x->σ[i]?=some (some v)->EM X.env.scope x->∃ u,RelV v u/\Look X.env s.heap m x u
 cell:∀ x c,X.env.cells.lookup x=some c->∃ v,s.heap.IsCell c v
 free:H X.env.locals=none
 jD:∀ x c,X.env.cells.lookup x=some c->H c=none
 pin:∀ p∈X.pn ++ pins,s.heap.get? p.1=some p.2/\H p.1=none/\p.1≠X.env.locals/\p.1 ∉ X.fs/\∀ v,p.2.data≠.cell v
 hok:j8 X.prog X.w H s.heap
 len:σ.length=X.N.length
section
variable {X:Cx} {pins:List (Addr×Obj)} {σ:List (Option V)} {H H':Hp} {s:Shared} {h':Heap}
theorem Cx.Ok.EN (ok:X.Ok) {b:Addr} {o:Obj} (e:X.base.get? b=some o):b ∉ X.fs:=fun hb=>by
 have:=(ok.lI.mem hb).1
 rw [e] at this;cases this
theorem Inv.bs (I:Inv X pins σ H s):∀ b o,X.base.get? b=some o->s.heap.get? b=some o/\H b=none:=fun b o e =>
 ⟨I.base.keep b o (I.ok.bs b o e).1 (I.ok.bs b o e).2 (I.ok.EN e) (I.ok.pL b o e),I.base.free b o (I.ok.bs b o e).1 (I.ok.bs b o e).2 (I.ok.pL b o e)⟩
theorem Inv.bk (I:Inv X pins σ H s):∀ b o,X.base.get? b=some o->s.heap.get? b=some o:=fun b o e=>(I.bs b o e).1
theorem Inv.mod (I:Inv X pins σ H s):Mod X.K X.mg X.base:=I.ok.mod
theorem Inv.Cf (I:Inv X pins σ H s):X.K.In s.heap:=I.ok.mod.EL.keeps I.bk
theorem Inv.lt (I:Inv X pins σ H s):X.env.locals < s.heap.objs.size:=let ⟨_,hn,_⟩:=I.loc;hn.lt
theorem Inv.sz (I:Inv X pins σ H s):X.s₀.heap.objs.size<=s.heap.objs.size:=Nat.le_trans I.ok.above (Nat.le_of_lt I.lt)
theorem Inv.ym (I:Inv X pins σ H s) {a:Addr} (h:s.heap.objs.size<=a):a ∉ X.fs:=fun hb=>by
 obtain ⟨_,o,ho,_⟩:=I.ok.lI.mem hb
 exact absurd (Nat.lt_of_lt_of_le (Heap.lt_size ho) (Nat.le_trans I.sz h)) (Nat.lt_irrefl _)
theorem Inv.uz (I:Inv X pins σ H s):∀ x c,X.env.cells.lookup x=some c->c≠X.env.locals:=fun x c e z=>by
 obtain ⟨v,o,ho,hd⟩:=I.cell x c e
 obtain ⟨m,⟨o',es,ep,ho',hd',_⟩,_⟩:=I.loc
 rw [z,ho'] at ho;cases ho;rw [hd'] at hd;cases hd
theorem Inv.lI (I:Inv X pins σ H s):s.heap.FunFrames X.base X.outer:=by
 have all:∀ (l:List Env),(∀ b∈frs l,b∈X.fs)->X.s₀.heap.FunFrames X.base l->s.heap.FunFrames X.base l:=by
  intro l
  induction l with
  | nil=>intro _ _;trivial
  | cons env r ih =>
   intro hs hl
   obtain ⟨hk,⟨L,o,hf,hn,ho,hd⟩,hr⟩:=hl
   have hL:L∈X.fs:=hs L (by unfold frs;rw [List.filterMap_cons,hf];exact List.mem_cons_self)
   obtain ⟨sl,e⟩:=I.base.slot L o ho (I.ok.xw L hL) hL fun z=>I.ok.rm L z hL
   exact ⟨hk,⟨L,_,hf,hn,e,hd⟩,ih (fun b hb=>hs b (by unfold frs;rw [List.filterMap_cons,hf];exact List.mem_cons_of_mem _ hb)) hr⟩
 exact all X.outer (fun _ hb=>hb) I.ok.lI
theorem Inv.stack (I:Inv X pins σ H s):s.heap.FunFrames X.base X.stack:=by
 rcases I.ok.stk with e | ⟨e,hf⟩
 ·rw [e];exact I.lI
 ·rw [e]
  obtain ⟨m,hn,_⟩:=I.loc
  refine .cons (by rw [I.ok.kind];decide) hf hn ?_ I.lI
  exact Heap.get?_none_of_le (Nat.le_trans I.ok.su I.ok.above)
theorem Inv.lJ (I:Inv X pins σ H s):∀ b∈frs X.stack,b∈X.env.locals :: X.fs:=fun b hb=>by
 rcases I.ok.stk with e | ⟨e,hf⟩
 ·rw [e] at hb;exact List.mem_cons_of_mem _ hb
 ·rw [e] at hb
  unfold frs at hb
  rw [List.filterMap_cons,hf] at hb
  exact hb
theorem Inv.oz (I:Inv X pins σ H s):∀ b∈frs X.stack,H b=none:=fun b hb=>by
 rcases List.mem_cons.mp (I.lJ b hb) with e | hb
 ·rw [e];exact I.free
 ·obtain ⟨_,o,ho,_⟩:=I.ok.lI.mem hb
  exact I.base.free b o ho (I.ok.xw b hb) fun z=>I.ok.rm b z hb
theorem Inv.step {g':Array GenState} {t':Nat} {d':Drawn} {ch:List Addr} (I:Inv X pins σ H s)
  (hch:∀ b∈ch,(b∈X.ex\/X.s₀.heap.objs.size<=b)/\b≠X.env.locals/\(∀ x c,X.env.cells.lookup x=some c->c≠b)/\∀ p∈X.pn ++ pins,p.1≠b)
  (keep:∀ b o,b≠X.env.locals->b ∉ X.fs->b ∉ ch->s.heap.get? b=some o->H b=none->h'.get? b=some o)
  (slot:∀ b o,b≠X.env.locals->b∈X.fs->b ∉ ch->s.heap.get? b=some o->H b=none->∃ sl,h'.get? b=some { o with slots:=sl }) (free:∀ b o,b ∉ ch->s.heap.get? b=some o->H b=none->H' b=none)
  (there:∀ b o,b ∉ ch->s.heap.get? b=some o->∃ o',h'.get? b=some o')
  (tups:∀ b xs,H b=some (.tup xs)->H' b=some (.tup xs)) (mL:∀ b o u,H b=some (.mK o u)->H' b=some (.mK o u)) (nK:∀ b ps,H b=some (.uw ps)->∃ more,H' b=some (.uw (ps ++ more)))
  (ns:∀ m,s.heap.Ns X.env.locals m->h'.Ns X.env.locals m) (hok:j8 X.prog X.w H' h') (hg:AllBare g') :
  Inv X pins σ H' { s with heap:=h',gens:=g',drawn:=d',toks:=t' }:=by
 have uA:∀ b o,X.s₀.heap.get? b=some o->b≠X.env.locals:=fun b o e=>Nat.ne_of_lt (Nat.lt_of_lt_of_le (Heap.lt_size e) I.ok.above)
 have Cg:∀ b o,X.s₀.heap.get? b=some o->b ∉ X.ex->b ∉ ch:=fun b o e hx hb=>by
  rcases (hch b hb).1 with z | z
  ·exact hx z
  ·exact absurd (Nat.lt_of_lt_of_le (Heap.lt_size e) z) (Nat.lt_irrefl _)
 have cellK:∀ x c,X.env.cells.lookup x=some c->∀ v,s.heap.IsCell c v->h'.IsCell c v:=fun x c e v ⟨o,ho,hd⟩=>by
  have yn:c ∉ ch:=fun z=>(hch c z).2.2.1 x c e rfl
  by_cases hc:c∈X.fs
  ·obtain ⟨sl,q⟩:=slot c o (I.uz x c e) hc yn ho (I.jD x c e)
   exact ⟨_,q,hd⟩
  ·exact ⟨o,keep c o (I.uz x c e) hc yn ho (I.jD x c e),hd⟩
 refine ⟨I.ok,I.os,hg,⟨fun b o e n hb hx=>?_,fun b o e n hb hx=>?_,fun b o e n hx=>?_,fun b o e hx=>?_,fun b xs e=>tups b xs (I.base.tups b xs e),fun b o xs e=>mL b o xs (I.base.mL b o xs e),fun b ps e=>?_⟩,?_,fun x c e=>?_,?_,fun x c e=>?_,fun p hp=>?_,hok,I.len⟩
 ·exact keep b o (uA b o e) hb (Cg b o e hx) (I.base.keep b o e n hb hx) (I.base.free b o e n hx)
 ·obtain ⟨sl,e1⟩:=I.base.slot b o e n hb hx
  obtain ⟨LC,e2⟩:=slot b _ (uA b o e) hb (Cg b o e hx) e1 (I.base.free b o e n hx)
  exact ⟨LC,e2⟩
 ·obtain ⟨o',e1⟩:=I.base.there b o e hx
  exact free b o' (Cg b o e hx) e1 (I.base.free b o e n hx)
 ·obtain ⟨o',e1⟩:=I.base.there b o e hx
  exact there b o' (Cg b o e hx) e1
 ·obtain ⟨m1,e1⟩:=I.base.nK b ps e
  obtain ⟨m2,e2⟩:=nK b _ e1
  exact ⟨m1 ++ m2,by rw [e2,Array.append_assoc]⟩
 ·obtain ⟨m,hn,hl⟩:=I.loc
  refine ⟨m,ns m hn,fun i x v e1 e2 e3=>?_⟩
  obtain ⟨u,r,l⟩:=hl i x v e1 e2 e3
  refine ⟨u,r,?_⟩
  rcases l with l | ⟨k,c,e,z⟩
  ·exact .inl l
  ·exact .inr ⟨k,c,e,cellK x c e _ z⟩
 ·obtain ⟨v,z⟩:=I.cell x c e
  exact ⟨v,cellK x c e v z⟩
 ·obtain ⟨m,⟨o,_,_,ho,_⟩,_⟩:=I.loc
  exact free _ o (fun z=>(hch _ z).2.1 rfl) ho I.free
 ·obtain ⟨v,o,ho,hd⟩:=I.cell x c e
  exact free c o (fun z=>(hch c z).2.2.1 x c e rfl) ho (I.jD x c e)
 ·obtain ⟨e,n,ne,nf,d⟩:=I.pin p hp
  have yn:p.1 ∉ ch:=fun z=>(hch p.1 z).2.2.2 p hp rfl
  exact ⟨keep p.1 p.2 ne nf yn e n,free p.1 p.2 yn e n,ne,nf,d⟩
theorem Inv.un {t':Nat} (I:Inv X pins σ H s) (u:Un X.fs [] H H' s.heap h') (hok:j8 X.prog X.w H' h'):Inv X pins σ H' { s with heap:=h',toks:=t' }:=by
 obtain ⟨m,⟨o,es,ep,ho,r⟩,_⟩:=id I.loc
 obtain ⟨sl,hL⟩:=u.any ho I.free (by simp)
 exact I.step (g':=s.gens) (d':=s.drawn) (ch:=[]) (fun _ z=>nomatch z) (fun b o _ hb _ e n=>u.keep b o e n hb (by simp)) (fun b o _ hb _ e n=>u.slot b o e n hb (by simp)) (fun b o _ e n=>u.free b o e n (by simp)) (fun b o _ e=>u.there b o e (by simp)) u.tups u.mL u.nK (fun m' hm=>by
  obtain ⟨o',es',EO,ho',r'⟩:=hm
  rw [ho] at ho';cases ho'
  exact ⟨_,es',EO,hL,r'⟩) hok I.bare
theorem Inv.call {g':Array GenState} {t':Nat} {d':Drawn} {ch:List Addr} (I:Inv X pins σ H s) (u:Un (frs X.stack) ch H H' s.heap h') (hok:j8 X.prog X.w H' h') (hg:AllBare g')
  (hch:∀ b∈ch,(b∈X.ex\/X.s₀.heap.objs.size<=b)/\b≠X.env.locals/\(∀ x c,X.env.cells.lookup x=some c->c≠b)/\∀ p∈X.pn ++ pins,p.1≠b) :
  Inv X pins σ H' { s with heap:=h',gens:=g',drawn:=d',toks:=t' }:=by
 obtain ⟨m,⟨o,es,ep,ho,r⟩,_⟩:=id I.loc
 obtain ⟨sl,hL⟩:=u.any ho I.free fun z=>(hch _ z).2.1 rfl
 exact I.step (ch:=ch) hch (fun b o hL hb hc e n=>u.keep b o e n (fun z=>(List.mem_cons.mp (I.lJ b z)).elim hL hb) hc) (fun b o _ _ hc e n=>u.any e n hc) (fun b o hc e n=>u.free b o e n hc) (fun b o hc e=>u.there b o e hc) u.tups u.mL u.nK (fun m' hm=>by
  obtain ⟨o',es',EO,ho',r'⟩:=hm
  rw [ho] at ho';cases ho'
  exact ⟨_,es',EO,hL,r'⟩) hok hg
theorem Inv.turned {t':Nat} {it:Addr} (I:Inv X pins σ H s) (k:∀ b o,b≠it->s.heap.get? b=some o->h'.get? b=some o) (hn:H it=none) (hL:it≠X.env.locals)
  (h1:it∈X.ex\/X.s₀.heap.objs.size<=it) (h2:∀ x c,X.env.cells.lookup x=some c->c≠it) (h3:∀ p∈X.pn ++ pins,p.1≠it):Inv X pins σ H { s with heap:=h',toks:=t' }:=by
 have yo:∀ b u,H b=some u->b≠it:=fun b u e z=>by rw [z,hn] at e;cases e
 refine I.step (g':=s.gens) (d':=s.drawn) (ch:=[it]) (fun b hb=>?_) (fun b o _ _ hc e _=>k b o (fun z=>hc (by simp [z])) e) (fun b o _ _ hc e _=>⟨o.slots,k b o (fun z=>hc (by simp [z])) e⟩) (fun _ _ _ _ n=>n)
  (fun b o hc e=>⟨o,k b o (fun z=>hc (by simp [z])) e⟩) (fun _ _ e=>e) (fun _ _ _ e=>e) (fun b ps e=>⟨#[],by rw [e];simp⟩) (fun m hm=>?_) (fun b u e=>?_) I.bare
 ·have e:b=it:=by simpa using hb
  subst e
  exact ⟨h1,hL,h2,h3⟩
 ·obtain ⟨o,es,ep,ho,r⟩:=hm
  exact ⟨o,es,ep,k _ o (Ne.symm hL) ho,r⟩
 ·refine (I.hok b u e).stay (fun c v hc q=>k c v ?_ q) (fun _ q=>q) fun _ _ q=>q
  rcases hc with z | z
  ·rw [z];exact yo b u e
  ·exact yo c _ z
theorem Inv.tok (I:Inv X pins σ H s) (t:Nat):Inv X pins σ H { s with toks:=t }:=I.un (h':=s.heap) (t':=t) Un.refl I.hok
theorem Inv.kept {t':Nat} (I:Inv X pins σ H s) (k:∀ b u,s.heap.get? b=some u->h'.get? b=some u):Inv X pins σ H { s with heap:=h',toks:=t' }:=I.un (Un.kept k) (I.hok.kept k)
theorem Inv.laid {a:Addr} {o:HO} {t':Nat} (I:Inv X pins σ H s) (k:∀ b u,s.heap.get? b=some u->h'.get? b=some u) (hp:s.heap.objs.size<=a) (new:cC X.prog X.w (upd H a o) h' a o) :
  Inv X pins σ (upd H a o) { s with heap:=h',toks:=t' }:=I.un (Un.laid k hp (I.hok.fresh hp)) (I.hok.laid k hp new)
theorem Inv.write {x e:Addr} {o:HO} {t':Nat} (I:Inv X pins σ H s) (mu:yj (H x)) (he:e=x\/H e=some (.own x)) (k:∀ b u,b≠e->s.heap.get? b=some u->h'.get? b=some u) (xv:∃ u,h'.get? e=some u)
  (new:cC X.prog X.w (upd H x o) h' x o):Inv X pins σ (upd H x o) { s with heap:=h',toks:=t' }:=I.un (Un.write mu he k xv) (I.hok.write mu he k xv new)
theorem Inv.lq {sv:List (Addr×Obj)} (I:Inv X pins σ H s) (h:∀ p∈sv,s.heap.get? p.1=some p.2/\H p.1=none/\p.1≠X.env.locals/\p.1 ∉ X.fs/\∀ v,p.2.data≠.cell v):Inv X sv σ H s :=
 ⟨I.ok,I.os,I.bare,I.base,I.loc,I.cell,I.free,I.jD,fun p hp=>(List.mem_append.mp hp).elim (fun z=>I.pin p (List.mem_append_left _ z)) (h p),I.hok,I.len⟩
theorem Hn {N:List Str} (hN:N.Nodup) {i j:Nat} {x:Str} (a:N[i]?=some x) (b:N[j]?=some x):i=j:=by
 obtain ⟨h1,e1⟩:=List.getElem?_eq_some_iff.mp a
 obtain ⟨h2,e2⟩:=List.getElem?_eq_some_iff.mp b
 exact (List.getElem_inj hN).mp (e1.trans e2.symm)
theorem Ho {M:Model} {A:Around} {E:Value->Shared->Prop} {i:Nat} {x:Str} {v:V} {u:Value} {Q:Unit->Shared->Prop} (I:Inv X pins σ H s) (hN:X.N.Nodup) (hi:X.N[i]?=some x) (hx:Loc X.env.scope x) (r:RelV v u)
  (h:∀ s',Inv X pins (σ.set i (some v)) H s'->(∃ a,Heap.SameBut a s.heap s'.heap/\(a=X.env.locals\/X.env.cells.lookup x=some a))->Q () s') (hf:X.fn x=true\/X.env.scope.names.lookup x=some .local:=by first | exact .inl rfl | exact .inr rfl | assumption):wpAny M A (storeName X.env x u) Q E s:=by
 obtain ⟨m,hn,hl⟩:=id I.loc
 have hcls:(X.env.scope.kind == .class || (X.env.scope.kind == .module && X.env.locals != X.env.globals))=false:=by rw [I.ok.kind];rfl
 have hiσ:i < σ.length:=by rw [I.len];exact (List.getElem?_eq_some_iff.mp hi).1
 have uz:=I.uz
 have tracked:∀ {a:Addr} {h':Heap},(∃ o,s.heap.get? a=some o/\H a=none)->Heap.SameBut a s.heap h'->j8 X.prog X.w H h':=fun {a h'} ha hs b ob e=>by
  obtain ⟨_,_,hfree⟩:=ha
  refine (I.hok b ob e).stay (fun c w' hc q=>(hs.2 c ?_).trans q) (fun _ q=>q) fun _ _ q=>q
  rintro rfl
  rcases hc with rfl | hc
  ·rw [hfree] at e;cases e
  ·rw [hfree] at hc;cases hc
 rcases hx with hk | hk
 ·refine wpAny_storeName_local hk hn (fun h' hn' hs=>?_) hcls
  obtain ⟨oL,_,_,LD,_⟩:=id hn
  refine h _ ⟨I.ok,I.os,I.bare,⟨fun b o e n hb hx=>?_,fun b o e n hb hx=>?_,I.base.free,fun b o e hx=>?_,I.base.tups,I.base.mL,I.base.nK⟩,⟨_,hn',fun j y v' e1 e2 e3=>?_⟩,fun y c e=>?_,I.free,I.jD,fun p hp=>?_,tracked ⟨oL,LD,I.free⟩ hs,by simpa using I.len⟩ ⟨_,hs,.inl rfl⟩
  ·exact (hs.2 b (Nat.ne_of_lt (Nat.lt_of_lt_of_le (Heap.lt_size e) I.ok.above))).trans (I.base.keep b o e n hb hx)
  ·obtain ⟨sl,e1⟩:=I.base.slot b o e n hb hx
   exact ⟨sl,(hs.2 b (Nat.ne_of_lt (Nat.lt_of_lt_of_le (Heap.lt_size e) I.ok.above))).trans e1⟩
  ·obtain ⟨o',e1⟩:=I.base.there b o e hx
   exact ⟨o',(hs.2 b (Nat.ne_of_lt (Nat.lt_of_lt_of_le (Heap.lt_size e) I.ok.above))).trans e1⟩
  ·by_cases hj:j=i
   ·subst hj
    rw [hi] at e1;cases e1
    rw [List.getElem?_set_self hiσ] at e2
    cases e2
    exact ⟨u,r,.inl ⟨hk,by simp⟩⟩
   ·rw [List.getElem?_set_ne (Ne.symm hj)] at e2
    obtain ⟨u',r',q⟩:=hl j y v' e1 e2 e3
    refine ⟨u',r',?_⟩
    rcases q with ⟨k,e⟩ | ⟨k,c,e,z⟩
    ·refine .inl ⟨k,?_⟩
     have:y≠x:=fun e=>hj (Hn hN e1 (e ▸ hi))
     simp [this,e]
    ·exact .inr ⟨k,c,e,z.sameBut hs (uz y c e)⟩
  ·obtain ⟨w',z⟩:=I.cell y c e
   exact ⟨w',z.sameBut hs (uz y c e)⟩
  ·obtain ⟨e,n,ne,nf,d⟩:=I.pin p hp
   exact ⟨(hs.2 p.1 ne).trans e,n,ne,nf,d⟩
 ·have hfn:X.fn x=true:=by
   rcases hf with z | z
   ·exact z
   ·rw [z] at hk;cases hk
  obtain ⟨c,hc⟩:=I.ok.has x (.inl hk)
  obtain ⟨w',z⟩:=I.cell x c hc
  refine wpAny_storeName_cell I.ok.kind hk hc z (fun h' hc' hs=>?_)
  obtain ⟨oc,hoc,ER⟩:=id z
  refine h { s with heap:=h' } ⟨I.ok,I.os,I.bare,⟨fun b o e n hb hx=>?_,fun b o e n hb hx=>?_,I.base.free,fun b o e hx=>?_,I.base.tups,I.base.mL,I.base.nK⟩,⟨m,hn.sameBut hs (Ne.symm (uz x c hc)),fun j y v' e1 e2 e3=>?_⟩,fun y c' e=>?_,I.free,I.jD,fun p hp=>?_,tracked ⟨oc,hoc,I.jD x c hc⟩ hs,by simpa using I.len⟩ ⟨c,hs,.inr hc⟩
  ·exact (hs.2 b (Nat.ne_of_lt (Nat.lt_of_lt_of_le (Heap.lt_size e) (I.ok.yl x c hfn hc)))).trans (I.base.keep b o e n hb hx)
  ·obtain ⟨sl,e1⟩:=I.base.slot b o e n hb hx
   exact ⟨sl,(hs.2 b (Nat.ne_of_lt (Nat.lt_of_lt_of_le (Heap.lt_size e) (I.ok.yl x c hfn hc)))).trans e1⟩
  ·obtain ⟨o',e1⟩:=I.base.there b o e hx
   exact ⟨o',(hs.2 b (Nat.ne_of_lt (Nat.lt_of_lt_of_le (Heap.lt_size e) (I.ok.yl x c hfn hc)))).trans e1⟩
  ·by_cases hj:j=i
   ·subst hj
    rw [hi] at e1;cases e1
    rw [List.getElem?_set_self hiσ] at e2
    cases e2
    exact ⟨u,r,.inr ⟨.inl hk,c,hc,hc'⟩⟩
   ·rw [List.getElem?_set_ne (Ne.symm hj)] at e2
    obtain ⟨u',r',q⟩:=hl j y v' e1 e2 e3
    refine ⟨u',r',?_⟩
    rcases q with q | ⟨k,c',e,z'⟩
    ·exact .inl q
    ·refine .inr ⟨k,c',e,z'.sameBut hs ?_⟩
     rintro rfl
     exact hj (Hn hN e1 (I.ok.inj _ _ _ e hc ▸ hi))
  ·by_cases hcc:c'=c
   ·subst hcc;exact ⟨_,hc'⟩
   ·obtain ⟨w2,z2⟩:=I.cell y c' e
    exact ⟨w2,z2.sameBut hs hcc⟩
  ·obtain ⟨e,n,ne,nf,d⟩:=I.pin p hp
   refine ⟨(hs.2 p.1 ?_).trans e,n,ne,nf,d⟩
   intro q
   rw [q,hoc] at e
   have q':oc=p.2:=Option.some.inj e
   exact d w' (by rw [<- q'];exact ER)
theorem Ci {M:Model} {A:Around} {E:Value->Shared->Prop} {i:Nat} {x:Str} {v:V} {u:Value} {Q:Unit->Shared->Prop} (I:Inv X pins σ H s) (hN:X.N.Nodup) (hi:X.N[i]?=some x) (hx:Loc X.env.scope x) (r:RelV v u)
  (h:∀ s',Inv X pins (σ.set i (some v)) H s'->Q () s') (hf:X.fn x=true\/X.env.scope.names.lookup x=some .local:=by first | exact .inl rfl | exact .inr rfl | assumption):wpAny M A (storeName X.env x u) Q E s :=
 Ho I hN hi hx r (fun s' I' _=>h s' I') hf
theorem Inv.yp {s':Shared} {ch:List Addr} (I:Inv X pins σ H s) (ho:s'.os=s.os) (u:Un (frs X.stack) ch H H' s.heap s'.heap) (hok:j8 X.prog X.w H' s'.heap) (hg:AllBare s'.gens)
  (hch:∀ b∈ch,(b∈X.ex\/X.s₀.heap.objs.size<=b)/\b≠X.env.locals/\(∀ x c,X.env.cells.lookup x=some c->c≠b)/\∀ p∈X.pn ++ pins,p.1≠b):Inv X pins σ H' s':=by
 obtain ⟨h',g',d',t',o'⟩:=s'
 have e:o'=s.os:=ho
 subst e
 exact I.call (g':=g') (t':=t') (d':=d') u hok hg hch
end
abbrev XK:=Value->Option Addr->Hp->Prop
abbrev St:=List (Option V)
abbrev VK:=V->Hp->Prop
abbrev TE:=St->Hp->VK->Prop
abbrev TT:=St->Hp->(Bool->Hp->Prop)->Prop
abbrev TA:=St->Hp->(List V->Hp->Prop)->Prop
set_option genInjectivity false in
structure Ends where
 nx:St->Hp->Prop
 rt:VK
 bk:St->Hp->Prop:=fun _ _=>False
 ct:St->Hp->Prop:=fun _ _=>False
abbrev TS:=Ends->St->Hp->Prop
def EP (X:Cx) (pins:List (Addr×Obj)) (σ:St) (Q:VK) (u:Value) (s':Shared):Prop:=∃ v H',Inv X pins σ H' s'/\RelV v u/\Q v H'
def TP (X:Cx) (pins:List (Addr×Obj)) (σ:St) (Q:Bool->Hp->Prop) (b:Bool) (s':Shared):Prop:=∃ H',Inv X pins σ H' s'/\Q b H'
def AP (X:Cx) (pins:List (Addr×Obj)) (σ:St) (Q:List V->Hp->Prop) (us:List Value) (s':Shared):Prop:=∃ vs H',Inv X pins σ H' s'/\Vals vs us/\Q vs H'
def SP (X:Cx) (pins:List (Addr×Obj)) (D:Ends) (f:Flow) (s':Shared):Prop :=
 match f with
 | .next=>∃ σ' H',Inv X pins σ' H' s'/\D.nx σ' H'
 | .brk=>∃ σ' H',Inv X pins σ' H' s'/\D.bk σ' H'
 | .cont=>∃ σ' H',Inv X pins σ' H' s'/\D.ct σ' H'
 | .ret u=>∃ v σ' H',Inv X pins σ' H' s'/\RelV v u/\D.rt v H'
def PE (X:Cx) (e:Expr) (t:TE):Prop :=
 ∀ (pins:List (Addr×Obj)) (s:Shared) (σ:St) (H:Hp) (Q:VK),Inv X pins σ H s->t σ H Q->wpAny (model X.prog X.w) X.A (eval e X.env) (EP X pins σ Q) X.xe s
def PT (X:Cx) (e:Expr) (t:TT):Prop :=
 ∀ (pins:List (Addr×Obj)) (s:Shared) (σ:St) (H:Hp) (Q:Bool->Hp->Prop),Inv X pins σ H s->t σ H Q->wpAny (model X.prog X.w) X.A (isTrue e X.env (eval e X.env)) (TP X pins σ Q) X.xe s
def PW (X:Cx) (e:Expr) (t:TT):Prop :=
 ∀ (whole:Sem Value) (pins:List (Addr×Obj)) (s:Shared) (σ:St) (H:Hp) (Q:Bool->Hp->Prop),Inv X pins σ H s->t σ H Q->wpAny (model X.prog X.w) X.A (isTrue e X.env whole) (TP X pins σ Q) X.xe s
theorem PW.pt {X:Cx} {e:Expr} {t:TT} (h:PW X e t):PT X e t:=h _
def PA (X:Cx) (es:List Expr) (t:TA):Prop :=
 ∀ (pos:Pos) (pins:List (Addr×Obj)) (s:Shared) (σ:St) (H:Hp) (Q:List V->Hp->Prop),Inv X pins σ H s->t σ H Q->wpAny (model X.prog X.w) X.A (spliced (backTo pos (starEach es X.env))) (AP X pins σ Q) X.xe s
def PS (X:Cx) (st:Stmt) (t:TS):Prop :=
 ∀ (pins:List (Addr×Obj)) (s:Shared) (σ:St) (H:Hp) (D:Ends),Inv X pins σ H s->t D σ H->wpAny (model X.prog X.w) X.A (exec st X.env) (SP X pins D) X.xe s
def oZ (X:Cx) (st:List Stmt) (t:TS):Prop :=
 ∀ (pins:List (Addr×Obj)) (s:Shared) (σ:St) (H:Hp) (D:Ends),Inv X pins σ H s->t D σ H->wpAny (model X.prog X.w) X.A (execs st X.env) (SP X pins D) X.xe s
theorem cy {α:Type} {t:Sem α} {Q Q':α->Shared->Prop} {M:Model} {A:Around} {E:Value->Shared->Prop} {s:Shared} (h:wpAny M A t Q E s) (hQ:∀ a s,Q a s->Q' a s):wpAny M A t Q' E s:=wpAny_mono h hQ fun _ _ x=>x
end L2
namespace L2
open PySem PySem.Spec PyProof.Rows
section
variable {X:Cx}
theorem bin {a b:Expr} {ta tb:TE} (ha:PE X a ta) (hb:PE X b tb) {pins:List (Addr×Obj)} {s:Shared} {σ:St} {H:Hp} {R:V->V->Hp->Prop} (I:Inv X pins σ H s) (h:ta σ H fun x H1=>tb σ H1 fun y H2=>R x y H2)
  {α:Type} {Q:α->Shared->Prop} {f:Value->Value->Sem α}
  (hf:∀ v u s2 x y H2,Inv X pins σ H2 s2->RelV x v->RelV y u->R x y H2->wpAny (model X.prog X.w) X.A (f v u) Q X.xe s2) :
  wpAny (model X.prog X.w) X.A (eval a X.env) (fun v s₁=>wpAny (model X.prog X.w) X.A (eval b X.env) (fun u s₂=>wpAny (model X.prog X.w) X.A (f v u) Q X.xe s₂) X.xe s₁) X.xe s:=by
 refine cy (ha pins s σ H _ I h) fun v s1 ⟨x,H1,I1,r1,q1⟩=>?_
 refine cy (hb pins s1 σ H1 _ I1 q1) fun u s2 ⟨y,H2,I2,r2,q2⟩=>?_
 exact hf v u s2 x y H2 I2 r1 r2 q2
def uB (i:Nat):TE:=fun σ H Q=>∃ v,σ[i]?=some (some v)/\Q v H
def tC (v:V):TE:=fun _ H Q=>Q v H
theorem uC {i:Nat} {x:Str} {pos:Pos} (hN:X.N[i]?=some x) (hv:EM X.env.scope x) (hd:(x == ("__debug__" : Str))=false:=by decide) (hcd:(x == ("__classdict__" : Str))=false:=by decide):PE X (.Name x pos) (uB i):=by
 intro pins s σ H Q I h
 obtain ⟨v,e,h⟩:=h
 obtain ⟨m,hn,hl⟩:=I.loc
 obtain ⟨u,r,l⟩:=hl i x v hN e hv
 have fin:EP X pins σ Q u s:=⟨v,H,I,r,h⟩
 rcases l with ⟨hk,hm⟩ | ⟨hk,c,hc,hcell⟩
 ·exact wpAny_Name (wpAny_loadName_local I.ok.kind hk hn hm fin) hd
 ·rcases hk with hk | hk
  ·exact wpAny_Name (wpAny_loadName_cell I.ok.kind hk hc hcell fin) hd
  ·exact wpAny_Name (wpAny_loadName_free I.ok.kind hk hc hcell fin hcd) hd
theorem aI {i j pos}:PE X (.Constant (.int i) j pos) (tC (.int i)):=fun _ _ _ H _ I h=>wpAny_Constant_int ⟨.int i,H,I.tok _,⟨_,rfl⟩,h⟩
theorem yq {b j pos}:PE X (.Constant (.bool b) j pos) (tC (.bl b)):=fun _ _ _ H _ I h=>Constant_bool ⟨.bl b,H,I,rfl,h⟩
theorem l8 {x j pos}:PE X (.Constant (.str x) j pos) (tC (.str x)):=fun _ _ _ H _ I h=>Calls.Constant_str ⟨.str x,H,I.tok _,⟨_,rfl⟩,h⟩
def Gl (X:Cx) (x:Str):Prop:=X.env.kindOf x=some .globalImplicit
theorem Hq {E:Value->Shared->Prop} {pins:List (Addr×Obj)} {s:Shared} {σ:St} {H:Hp} {x:Str} {u:Value} {pos:Pos} {Q:Value->Shared->Prop} (I:Inv X pins σ H s) (hg:Gl X x) (hm:X.mg x=some u) (h:Q u s)
  (hd:(x == ("__debug__" : Str))=false:=by decide):wpAny (model X.prog X.w) X.A (eval (.Name x pos) X.env) Q E s :=
 Calls.Name_function_global I.ok.kind hg (Calls.loadGlobal_global (by rw [I.ok.glob];exact I.mod.glob.keeps I.bk) hm h) hd
theorem yr {E:Value->Shared->Prop} {pins:List (Addr×Obj)} {s:Shared} {σ:St} {H:Hp} {x:Str} {u:Value} {pos:Pos} {Q:Value->Shared->Prop} (I:Inv X pins σ H s) (hg:Gl X x) (hm:X.mg x=none) (hv:bootBuiltins x=some u) (h:Q u s)
  (hn:x≠"__name__" := by decide) (hd:(x == ("__debug__" : Str))=false:=by decide):wpAny (model X.prog X.w) X.A (eval (.Name x pos) X.env) Q E s:=by
 obtain ⟨mb,h1,h2⟩:=I.mod.blt
 exact Calls.Name_function_global I.ok.kind hg (Calls.loadGlobal_builtin (by rw [I.ok.glob];exact I.mod.glob.keeps I.bk) hm (by rw [I.ok.blt];exact h1.keeps I.bk) ((h2 x hn).trans hv) h) hd
theorem LF {x:Str} {v:V} {u:Value} {pos:Pos} (hg:Gl X x) (hm:X.mg x=some u) (r:RelV v u) (hd:(x == ("__debug__" : Str))=false:=by decide):PE X (.Name x pos) (tC v) :=
 fun _ _ _ H _ I h=>Hq I hg hm ⟨v,H,I,r,h⟩ hd
variable {a b:Expr} {ta tb:TE} {pos:Pos}
def PC (X:Cx) (op:CmpOp) (a b:Expr) (t:TE):Prop :=
 ∀ (pins:List (Addr×Obj)) (s:Shared) (σ:St) (H:Hp) (Q:VK),Inv X pins σ H s->t σ H Q ->
  wpAny (model X.prog X.w) X.A (eval a X.env) (fun v s₁=>wpAny (model X.prog X.w) X.A (eval b X.env) (fun u s₂=>wpAny (model X.prog X.w) X.A (compareOp op v u) (EP X pins σ Q) X.xe s₂) X.xe s₁) X.xe s
theorem pM (b:Expr) {op:CmpOp} (h:op≠.In) (h2:op≠.NotIn):behindInMarks op b=false:=by
 have e1:(op == CmpOp.In)=false:=by cases op <;> first | rfl | exact absurd rfl h
 have e2:(op == CmpOp.NotIn)=false:=by cases op <;> first | rfl | exact absurd rfl h2
 cases b <;> simp [behindInMarks,e1,e2]
def tB (t:TE):TT:=fun σ H Q=>t σ H fun x H1=>∃ c,x=.bl c/\Q c H1
theorem uD {op:CmpOp} {t:TE} (h:PC X op a b t) (h1:behindInMarks op b=false:=by first | exact pM _ (by decide) (by decide) | rfl):PT X (.Compare a [op] [b] pos) (tB t):=by
 intro pins s σ H Q I hw
 refine wpAny_isTrue_Compare1 (cy (h pins s σ H _ I hw) fun v s1 h1=>cy h1 fun u s2 h2=>cy h2 fun c s3 ⟨x,H1,I1,r1,q1⟩=>?_) h1
 obtain ⟨d,rfl,q⟩:=q1
 cases r1
 exact wpAny_truthy_bool ⟨H1,I1,q⟩
theorem uE {e:Expr} {t:TE} (h:PE X e t) (he:∀ whole,isTrue e X.env whole=(do let v <- whole;standAt e.pos;holding [v] (truthy v)):=by intro _;rfl):PT X e (tB t):=by
 intro pins s σ H Q I hw
 refine isTrue_plain (cy (h pins s σ H _ I hw) fun v s1 ⟨x,H1,I1,r1,q1⟩=>?_) (he _)
 obtain ⟨d,rfl,q⟩:=q1
 cases r1
 exact wpAny_truthy_bool ⟨H1,I1,q⟩
variable {tA Cj:TT} {rest:List Expr}
def yt (t u:TT):TT:=fun σ H Q=>t σ H fun c H1=>if c=true then u σ H1 Q else Q false H1
def Hr (t u:TT):TT:=fun σ H Q=>t σ H fun c H1=>if c=true then Q true H1 else u σ H1 Q
def yu (t:TT):TT:=fun σ H Q=>t σ H fun c H1=>Q (!c) H1
theorem Hs (ha:PT X a tA):PW X (.BoolOp .And [a] pos) tA:=by
 intro wh pins s σ H Q I h
 refine isTrue_and (cy (ha pins s σ H Q I h) fun c s1 e=>?_)
 cases c with
 | true=>exact isTrue_and_nil e
 | false=>exact e
theorem ES (ha:PT X a tA):PW X (.BoolOp .Or [a] pos) tA:=by
 intro wh pins s σ H Q I h
 refine isTrue_or (cy (ha pins s σ H Q I h) fun c s1 e=>?_)
 cases c with
 | false=>exact isTrue_or_nil e
 | true=>exact e
theorem Ht (ha:PT X a tA) (hb:PW X (.BoolOp .And (b :: rest) pos) Cj):PW X (.BoolOp .And (a :: b :: rest) pos) (yt tA Cj):=by
 intro wh pins s σ H Q I h
 refine isTrue_and (cy (ha pins s σ H _ I h) fun c s1 ⟨H1,I1,q1⟩=>?_)
 cases c with
 | true=>exact hb wh pins s1 σ H1 Q I1 q1
 | false=>exact ⟨H1,I1,q1⟩
theorem ET (ha:PT X a tA) (hb:PW X (.BoolOp .Or (b :: rest) pos) Cj):PW X (.BoolOp .Or (a :: b :: rest) pos) (Hr tA Cj):=by
 intro wh pins s σ H Q I h
 refine isTrue_or (cy (ha pins s σ H _ I h) fun c s1 ⟨H1,I1,q1⟩=>?_)
 cases c with
 | true=>exact ⟨H1,I1,q1⟩
 | false=>exact hb wh pins s1 σ H1 Q I1 q1
theorem uF (ha:PT X a tA):PT X (.UnaryOp .Not a pos) (yu tA):=by
 intro pins s σ H Q I h
 exact isTrue_not (ha pins s σ H (fun c H1=>Q (!c) H1) I h)
def sx (ta tb:TE):TE:=fun σ H Q=>ta σ H fun x H1=>∃ c,x=.bl c/\if c=true then tb σ H1 Q else Q (.bl false) H1
theorem uG {op} {t:TE} (h:PE X a t):PE X (.BoolOp op [a] pos) t:=fun pins s σ H Q I hw=>BoolOp_one (h pins s σ H Q I hw)
theorem uH (ha:PE X a ta) (hb:PE X (.BoolOp .And (b :: rest) pos) tb):PE X (.BoolOp .And (a :: b :: rest) pos) (sx ta tb):=by
 intro pins s σ H Q I h
 refine BoolOp_and (cy (ha pins s σ H _ I h) fun v s1 ⟨x,H1,I1,r1,q1⟩=>?_)
 obtain ⟨c,rfl,q1⟩:=q1
 cases r1
 refine wpAny_truthy_bool ?_
 cases c with
 | true=>exact hb pins s1 σ H1 Q I1 q1
 | false=>exact ⟨.bl false,H1,I1,rfl,q1⟩
end
end L2
namespace L2
open PySem PySem.Spec PyProof.Rows
def jf (K:PySem.W.Frag) (H:Hp) (a:Addr) (xs:List V):Prop :=
 Rd H a (.lst xs) \/
  ∃ (o:Obj) (its:Array Value) (n:Nat),K.lookup a=some o/\o.cls=.type "list" /\ o.dict=none/\o.data=.seq its n/\its.size<=sizeLine/\Vals xs its.toList
def d9 (K:PySem.W.Frag) (H:Hp) (a:Addr) (xs:List V):Prop :=
 Rd H a (.tup xs) \/
  ∃ (o:Obj) (its:Array Value) (n:Nat),K.lookup a=some o/\o.cls=.type "tuple" /\ o.dict=none/\o.data=.seq its n/\its.size<=sizeLine/\Vals xs its.toList
def EU:Value->Option V
 | .none=>some .non
 | .bool b=>some (.bl b)
 | .int i _=>some (.int i)
 | .str x _=>some (.str x)
 | .bytes b _=>some (.pK b)
 | .float b _=>some (.EI b)
 | .ref a=>some (.ref a)
 | .type n=>some (.ty n)
 | _=>none
theorem RelV.abs {x:V} {u:Value} (r:RelV x u):EU u=some x:=by
 cases x with
 | non=>cases r;rfl
 | bl _=>cases r;rfl
 | int _=>obtain ⟨t,rfl⟩:=r;rfl
 | str _=>obtain ⟨t,rfl⟩:=r;rfl
 | pK _=>obtain ⟨t,rfl⟩:=r;rfl
 | EI _=>obtain ⟨t,rfl⟩:=r;rfl
 | ref _=>cases r;rfl
 | ty _=>cases r;rfl
theorem RelV.inj {x y:V} {u:Value} (r:RelV x u) (q:RelV y u):x=y:=Option.some.inj (r.abs.symm.trans q.abs)
theorem Vals.inj:∀ {xs ys:List V} {us:List Value},Vals xs us->Vals ys us->xs=ys
 | _,_,_,.nil,.nil=>rfl
 | _,_,_,.cons r t,.cons r' t'=>by rw [r.inj r',Vals.inj t t']
section
variable {X:Cx} {pins:List (Addr×Obj)} {σ:St} {H:Hp} {s:Shared} {a:Addr} {xs ys:List V}
theorem d9.of {K:PySem.W.Frag} (h:H a=some (.tup xs)):d9 K H a xs:=.inl (.inl h)
theorem Inv.list (I:Inv X pins σ H s) (h:jf X.K H a xs):∃ its:List Value,Vals xs its/\PlainL s.heap a its.toArray/\xs.length<=sizeLine:=by
 rcases h with h | ⟨o,its,n,hk,hc,hd,hs,hz,r⟩
 ·obtain ⟨z,its,n,r,e⟩:=h.ok I.hok
  exact ⟨its,r,⟨_,n,e,rfl,rfl,rfl⟩,z⟩
 ·refine ⟨its.toList,r,⟨o,n,I.Cf a o hk,hc,hd,by simpa using hs⟩,?_⟩
  have e:=r.length
  simp only [Array.length_toList] at e
  omega
theorem Inv.n9 (I:Inv X pins σ H s) (h:d9 X.K H a xs):∃ its:List Value,Vals xs its/\lH s.heap a its.toArray/\xs.length<=sizeLine:=by
 rcases h with h | ⟨o,its,n,hk,hc,hd0,hs,hz,r⟩
 ·obtain ⟨z,its,r,p⟩:=h.ok I.hok
  exact ⟨its,r,p,z⟩
 ·refine ⟨its.toList,r,⟨o,I.Cf a o hk,hc,hd0,n,by simpa using hs⟩,?_⟩
  have e:=r.length
  simp only [Array.length_toList] at e
  omega
theorem Inv.tuple (I:Inv X pins σ H s) (h:d9 X.K H a xs):∃ its:List Value,Vals xs its/\IsTup s.heap a its.toArray/\xs.length<=sizeLine :=
 let ⟨its,r,p,z⟩:=I.n9 h
 ⟨its,r,p.tup,z⟩
theorem Inv.nL (I:Inv X pins σ H s) (h:jf X.K H a xs) (h':jf X.K H a ys):xs=ys:=by
 obtain ⟨its,r,⟨o,n,e,_,_,d⟩,_⟩:=I.list h
 obtain ⟨its',r',⟨o',n',e',_,_,d'⟩,_⟩:=I.list h'
 rw [e] at e';cases e'
 rw [d] at d'
 injection d' with d1 _
 have:its=its':=by simpa using congrArg Array.toList d1
 subst this
 exact r.inj r'
theorem Inv.gu (I:Inv X pins σ H s) (h:d9 X.K H a xs) (h':d9 X.K H a ys):xs=ys:=by
 obtain ⟨its,r,⟨o,e,_,n,d⟩,_⟩:=I.tuple h
 obtain ⟨its',r',⟨o',e',_,n',d'⟩,_⟩:=I.tuple h'
 rw [e] at e';cases e'
 rw [d] at d'
 injection d' with d1 _
 have:its=its':=by simpa using congrArg Array.toList d1
 subst this
 exact r.inj r'
end
abbrev Cx.wish (X:Cx) (E:Value->Shared->Prop):Cx:={ X with xe:=E }
abbrev Cx.nM (X:Cx):Cx:=X.wish fun _ _=>False
theorem Cx.Ok.wish {X:Cx} (ok:X.Ok) (E:Value->Shared->Prop):(X.wish E).Ok :=
 ⟨ok.mod,ok.kind,ok.glob,ok.blt,ok.above,ok.inj,ok.has,ok.yl,ok.hd,ok.frames,ok.stk,ok.Hm,ok.bs,ok.su,ok.pL,ok.rm,ok.lI,ok.xw⟩
theorem Cx.Ok.iH {X:Cx} {E:Value->Shared->Prop} (ok:(X.wish E).Ok):X.Ok :=
 ⟨ok.mod,ok.kind,ok.glob,ok.blt,ok.above,ok.inj,ok.has,ok.yl,ok.hd,ok.frames,ok.stk,ok.Hm,ok.bs,ok.su,ok.pL,ok.rm,ok.lI,ok.xw⟩
section
variable {X:Cx} {pins:List (Addr×Obj)} {σ:St} {H:Hp} {s:Shared} {E:Value->Shared->Prop}
theorem Inv.wish (I:Inv X pins σ H s) (E:Value->Shared->Prop):Inv (X.wish E) pins σ H s:=⟨I.ok.wish E,I.os,I.bare,I.base,I.loc,I.cell,I.free,I.jD,I.pin,I.hok,I.len⟩
theorem Inv.iH (I:Inv (X.wish E) pins σ H s):Inv X pins σ H s:=⟨I.ok.iH,I.os,I.bare,I.base,I.loc,I.cell,I.free,I.jD,I.pin,I.hok,I.len⟩
theorem SP.iH {D:Ends} {f:Flow} {s':Shared} (h:SP (X.wish E) pins D f s'):SP X pins D f s':=by
 cases f with
 | next=>obtain ⟨σ',H',I,q⟩:=h;exact ⟨σ',H',I.iH,q⟩
 | brk=>obtain ⟨σ',H',I,q⟩:=h;exact ⟨σ',H',I.iH,q⟩
 | cont=>obtain ⟨σ',H',I,q⟩:=h;exact ⟨σ',H',I.iH,q⟩
 | ret u=>obtain ⟨v,σ',H',I,r,q⟩:=h;exact ⟨v,σ',H',I.iH,r,q⟩
theorem oZ.nM {st:List Stmt} {t:TS} (h:oZ X.nM st t):oZ X st t:=fun pins s σ H D I hw =>
 wpAny_mono (h pins s σ H D (I.wish _) hw) (fun _ _ q=>q.iH) fun _ _ z=>False.elim z
end
section
variable {X:Cx} {st:Stmt} {rest:List Stmt} {t u:TS} {e:Expr} {te:TE} {pos:Pos}
def sy:TS:=fun D σ H=>D.nx σ H
def yw (t u:TS):TS:=fun D σ H=>t { D with nx:=u D } σ H
theorem lr:oZ X [] sy:=fun _ _ σ H _ I h=>wpAny_execs_nil ⟨σ,H,I,h⟩
theorem bx (h1:PS X st t) (h2:oZ X rest u):oZ X (st :: rest) (yw t u):=by
 intro pins s σ H D I h
 refine wpAny_execs_cons (cy (h1 pins s σ H { D with nx:=u D } I h) fun f s1 q=>?_)
 cases f with
 | next =>
  obtain ⟨σ',H',I',q⟩:=q
  exact h2 pins s1 σ' H' D I' q
 | ret v=>exact q
 | brk=>exact q
 | cont=>exact q
theorem bA (h1:PS X st t):oZ X [st] t:=by
 intro pins s σ H D I h
 refine wpAny_execs_cons (cy (h1 pins s σ H D I h) fun f s1 q=>?_)
 cases f with
 | next=>exact wpAny_execs_nil q
 | ret v=>exact q
 | brk=>exact q
 | cont=>exact q
theorem Inv.quiet {pins:List (Addr×Obj)} {σ:St} {H:Hp} {s:Shared} (I:Inv X pins σ H s):interactive X.env=false:=by simp [interactive,I.ok.kind]
def sA (te:TE):TS:=fun D σ H=>te σ H fun _ H1=>D.nx σ H1
theorem sC (he:PE X e te) (hs:swapsWith e none pos.line X.env=pure false:=by rfl):PS X (.Expr e pos) (sA te):=by
 intro pins s σ H D I h
 exact wpAny_Expr_any (cy (he pins s σ H _ I h) fun v s1 ⟨x,H1,I1,r1,q1⟩=>⟨σ,H1,I1,q1⟩) I.quiet hs
def yx (te:TE):TS:=fun D σ H=>te σ H D.rt
theorem dr (he:PE X e te):PS X (.Return (some e) pos) (yx te):=by
 intro pins s σ H D I h
 exact wpAny_Return_some (cy (he pins s σ H _ I h) fun v s1 ⟨x,H1,I1,r1,q1⟩=>⟨x,σ,H1,I1,r1,q1⟩)
def yy (c:TT) (t u:TS):TS:=fun D σ H=>c σ H fun b H1=>if b=true then t D σ H1 else u D σ H1
theorem kz {c:Expr} {a b:List Stmt} {tc:TT} (hc:PT X c tc) (ha:oZ X a t) (hb:oZ X b u):PS X (.If c a b pos) (yy tc t u):=by
 intro pins s σ H D I h
 refine wpAny_If (cy (hc pins s σ H _ I h) fun d s1 ⟨H1,I1,q1⟩=>?_)
 cases d with
 | true=>exact ha pins s1 σ H1 D I1 q1
 | false=>exact hb pins s1 σ H1 D I1 q1
def pN:TS:=fun _ _ _=>False
theorem LG:PS X st pN:=fun _ _ _ _ _ _ h=>h.elim
end
abbrev TG:=V->St->Hp->(St->Hp->Prop)->Prop
abbrev qI:=List V->St->Hp->(St->Hp->Prop)->Prop
def PG (X:Cx) (target:Expr) (t:TG):Prop :=
 ∀ (pins:List (Addr×Obj)) (s:Shared) (σ:St) (H:Hp) (v:V) (u:Value) (Q:St->Hp->Prop),Inv X pins σ H s->RelV v u->t v σ H Q ->
  wpAny (model X.prog X.w) X.A (assign target X.env u) (fun _ s'=>∃ σ' H',Inv X pins σ' H' s'/\Q σ' H') X.xe s
def Ck (X:Cx) (ts:List Expr) (t:qI):Prop :=
 ∀ (pins:List (Addr×Obj)) (s:Shared) (σ:St) (H:Hp) (vs:List V) (us:List Value) (Q:St->Hp->Prop),Inv X pins σ H s->Vals vs us->t vs σ H Q ->
  wpAny (model X.prog X.w) X.A (assignInOrder ((assignEach ts X.env).map (·.2)) us) (fun _ s'=>∃ σ' H',Inv X pins σ' H' s'/\Q σ' H') X.xe s
abbrev uI:=V->V->V->Hp->(Hp->Prop)->Prop
def yz (X:Cx) (t:uI):Prop :=
 ∀ (pins:List (Addr×Obj)) (s:Shared) (σ:St) (H:Hp) (o i v:V) (ov iv u:Value) (Q:Hp->Prop),Inv X pins σ H s->RelV o ov->RelV i iv->RelV v u->t o i v H Q ->
  wpAny (model X.prog X.w) X.A (setItem ov iv u) (fun _ s'=>∃ H',Inv X pins σ H' s'/\Q H') X.xe s
section
variable {X:Cx} {pos:Pos}
def nO (i:Nat):TG:=fun v σ H Q=>Q (σ.set i (some v)) H
theorem eo {i:Nat} {x:Str} (hN:X.N.Nodup) (hi:X.N[i]?=some x) (hx:Loc X.env.scope x) (hf:X.fn x=true\/X.env.scope.names.lookup x=some .local:=by first | exact .inl rfl | exact .inr rfl | assumption):PG X (.Name x pos) (nO i):=by
 intro pins s σ H v u Q I r h
 exact wpAny_assign_Name (Ci I hN hi hx r (fun s' I'=>⟨_,H,I',h⟩) hf)
def yA:qI:=fun vs σ H Q=>vs=[]/\Q σ H
def sD (t:TG) (u:qI):qI:=fun vs σ H Q=>∃ v r,vs=v :: r/\t v σ H fun σ' H'=>u r σ' H' Q
theorem sE:Ck X [] yA:=by
 intro pins s σ H vs us Q I r h
 obtain ⟨e,h⟩:=h
 subst e
 cases r
 exact assignInOrder_nil ⟨σ,H,I,h⟩
theorem mz {e:Expr} {es:List Expr} {t:TG} {u:qI} (h1:PG X e t) (h2:Ck X es u)
  (hs:(assignEach (e :: es) X.env).map (·.2)=assign e X.env :: (assignEach es X.env).map (·.2):=by rfl):Ck X (e :: es) (sD t u):=by
 intro pins s σ H vs us Q I r h
 obtain ⟨v,vr,e1,h⟩:=h
 subst e1
 cases r with
 | cons r rr =>
  rw [hs]
  refine assignInOrder_cons (cy (h1 pins s σ H _ _ _ I r h) fun _ s1 ⟨σ1,H1,I1,q1⟩=>?_)
  exact h2 pins s1 σ1 H1 _ _ Q I1 rr q1
def yB (K:PySem.W.Frag) (n:Nat) (t:qI):TG:=fun v σ H Q=>∃ a xs,v=.ref a/\d9 K H a xs/\xs.length=n/\t xs σ H Q
theorem sF {es:List Expr} {k:Nat} {t:qI} {n:Nat} (hc:X.calm=true) (h:Ck X es t)
  (hn:(assignEach es X.env).length=n:=by rfl) (hst:(assignEach es X.env).findIdx? (·.1)=none:=by rfl):PG X (.Tuple es k pos) (yB X.K n t):=by
 intro pins s σ H v u Q I r hw
 obtain ⟨a,xs,e1,hq,hl,hw⟩:=hw
 subst e1
 cases r
 obtain ⟨its,rv,ht,hz⟩:=I.tuple hq
 refine assign_Tuple_tuple (I.ok.hd hc) ht (by simp [hn,<- hl,rv.length]) hst fun h' hx=>?_
 have I1:Inv X pins σ H { s with heap:=h' }:=I.kept (t':=s.toks) fun b o e=>hx b o (Nat.ne_of_lt (Heap.lt_size e)) e
 exact h pins _ σ H xs _ Q I1 (by simpa using rv) hw
def lK (to ti:TE) (t:uI):TG:=fun v σ H Q=>to σ H fun o H1=>ti σ H1 fun i H2=>t o i v H2 fun H3=>Q σ H3
theorem xx {o i:Expr} {to ti:TE} {t:uI} (ho:PE X o to) (hi:PE X i ti) (hs:yz X t)
  (ha:∀ v,assign (.Subscript o i pos) X.env v=(do
   let ov <- holding [v] (eval o X.env)
   let iv <- holding [v,ov] (eval i X.env)
   standAt pos
   holding [v,ov,iv] (setItem ov iv v)
   release [v,ov,iv] []):=by intro _;rfl):PG X (.Subscript o i pos) (lK to ti t):=by
 intro pins s σ H v u Q I r h
 rw [ha]
 refine wpAny_bind (wpAny_holding (cy (ho pins s σ H _ I h) fun ov s1 ⟨x,H1,I1,r1,q1⟩=>?_))
 refine wpAny_bind (wpAny_holding (cy (hi pins s1 σ H1 _ I1 q1) fun iv s2 ⟨y,H2,I2,r2,q2⟩=>?_))
 refine wpAny_bind (wpAny_standAt (wpAny_bind (wpAny_holding (cy (hs pins s2 σ H2 x y v ov iv u _ I2 r1 r2 r q2) fun _ s3 ⟨H3,I3,q3⟩=>?_))))
 exact wpAny_release ⟨σ,H3,I3,q3⟩
def rn (te:TE) (g:TG):TS:=fun D σ H=>te σ H fun x H1=>g x σ H1 D.nx
theorem rq {tg e:Expr} {te:TE} {g:TG} (he:PE X e te) (hg:PG X tg g) (hs:swapsWithSole [tg] e pos.line X.env=pure false:=by rfl) (hw:swappedStores [tg] e X.env=pure none:=by rfl)
  (h1:(assignEach [tg] X.env).map (·.2)=[assign tg X.env]:=by rfl):PS X (.Assign [tg] e pos) (rn te g):=by
 intro pins s σ H D I h
 refine wpAny_Assign_stores (cy (he pins s σ H _ I h) fun v s1 ⟨x,H1,I1,r1,q1⟩=>?_) hs hw
 rw [h1]
 exact cy (hg pins s1 σ H1 x v _ I1 r1 q1) fun _ s2 q=>q
theorem cq {i:Nat} {x:Str} {e:Expr} {te:TE} {pos':Pos} (hN:X.N.Nodup) (hi:X.N[i]?=some x) (hx:Loc X.env.scope x) (he:PE X e te) (hs:swapsWith e (some (.Name x pos')) pos.line X.env=pure false:=by rfl) (hf:X.fn x=true\/X.env.scope.names.lookup x=some .local:=by first | exact .inl rfl | exact .inr rfl | assumption) :
  PS X (.Assign [.Name x pos'] e pos) (rn te (nO i)):=by
 intro pins s σ H D I h
 refine wpAny_Assign_Name (cy (he pins s σ H _ I h) fun v s1 ⟨y,H1,I1,r1,q1⟩=>?_) hs
 exact Ci I1 hN hi hx r1 (fun s2 I2=>⟨_,H1,I2,q1⟩) hf
def yC (i j:Nat) (ta:TA):TS:=fun D σ H=>ta σ H fun vs H1=>∃ v w,vs=[v,w]/\D.nx ((σ.set i (some v)).set j (some w)) H1
theorem Hu {i j:Nat} {x y:Str} {a b:Expr} {ta:TA} {px py pt:Pos} {kt k2 EV} (hc:X.calm=true) (hN:X.N.Nodup) (hi:X.N[i]?=some x) (hj:X.N[j]?=some y) (hij:i≠j)
  (hx:X.env.scope.names.lookup x=some .local) (hy:X.env.scope.names.lookup y=some .local) (ha:PA X [a,b] ta)
  (hw:swappedStores [.Tuple [.Name x px,.Name y py] kt pt] (.Tuple [a,b] k2 EV) X.env=pure (some [x,y]))
  (hs:swapsWithSole [.Tuple [.Name x px,.Name y py] kt pt] (.Tuple [a,b] k2 EV) pos.line X.env=pure false:=by rfl) :
  PS X (.Assign [.Tuple [.Name x px,.Name y py] kt pt] (.Tuple [a,b] k2 EV) pos) (yC i j ta):=by
 intro pins s σ H D I h
 rw [exec_Assign_arm]
 refine wpAny_bind (wpAny_standAt ?_)
 rw [hs]
 refine wpAny_bind (wpAny_pure ?_)
 rw [if_neg (by decide)]
 refine wpAny_bind (Tuple_ (cy (ha _ pins s σ H _ I h) fun us s1 ⟨vs,H1,I1,r1,q1⟩=>?_))
 obtain ⟨v,w,e1,q1⟩:=q1
 subst e1
 obtain ⟨u1,u2,rfl,rv,rw'⟩:∃ u1 u2,us=[u1,u2]/\RelV v u1/\RelV w u2:=by
  cases r1 with
  | cons p q =>
   cases q with
   | cons p' q' =>
    cases q'
    exact ⟨_,_,rfl,p,p'⟩
 refine wpAny_newObj_type ?_ (by show 2<=sizeLine;decide)
 have I2:Inv X pins σ H1 { s1 with heap:=s1.heap.push { cls:=.type "tuple",data:=.seq [u1,u2].toArray } }:=I1.kept (t':=s1.toks) fun b o e=>Heap.get?_push_of_some _ e
 rw [hw]
 refine wpAny_bind (wpAny_pure ?_)
 show wpAny (model X.prog X.w) X.A (do rule "assign.swapped-stores";let items <- unpackItems (.ref s1.heap.objs.size) 2 none;assignInOrder [fun v=>bindName X.env y v,fun v=>bindName X.env x v] items.reverse;pure Flow.next) _ _ _
 refine wpAny_bind (wpAny_rule (wpAny_bind (unpackItems_tuple (items:=#[u1,u2]) (I.ok.hd hc) (IsTup.new s1.heap _) fun h' hx'=>?_)))
 have I3:=I2.kept (h':=h') (t':=s1.toks) fun b o e=>hx' b o (Nat.ne_of_lt (Heap.lt_size e)) e
 show wpAny _ _ (assignInOrder [fun v=>bindName X.env y v,fun v=>bindName X.env x v] [u2,u1] >>= fun _=>pure Flow.next) _ _ _
 refine wpAny_bind (assignInOrder_cons (wpAny_bindName (Ci I3 hN hj (.inl hy) rw' (fun s2 I4=>?_) (.inr hy))))
 refine assignInOrder_cons (wpAny_bindName (Ci I4 hN hi (.inl hx) rv (fun s3 I5=>assignInOrder_nil (wpAny_pure ?_)) (.inr hx)))
 rw [List.set_comm _ _ (Ne.symm hij)] at I5
 exact ⟨_,H1,I5,q1⟩
end
section
variable {X:Cx} {pos:Pos}
def pO (c:TT) (tb:TS):TS:=fun D σ H=>∃ W:Nat->St->Hp->Prop,(∃ m,W m σ H)/\∀ m σ H,W m σ H ->
 c σ H fun b H1=>if b=true then ∃ N:St->Hp->Prop,(∀ σ' H',N σ' H'->∃ m',m' < m/\W m' σ' H')/\tb { D with nx:=N,ct:=N,bk:=D.nx } σ H1 else D.nx σ H1
theorem xy {c:Expr} {body:List Stmt} {tc:TT} {tb:TS} (hp:PassesOwn (model X.prog X.w) X.A X.env X.xe) (hc:PT X c tc) (hb:oZ X body tb):PS X (.While c body [] pos) (pO tc tb):=by
 intro pins s σ H D I h
 obtain ⟨W,⟨m0,w0⟩,turn⟩:=h
 refine wpAny_While (codeAny_whileLoop (fun n s'=>∃ σ' H',Inv X pins σ' H' s'/\W n σ' H') ?_ m0 ⟨σ,H,I,w0⟩)
 rintro n s1 ⟨σ1,H1,I1,w1⟩
 refine wpAny_passesOwn hp (cy (hc pins s1 σ1 H1 _ I1 (turn n σ1 H1 w1)) fun b s2 ⟨H2,I2,q2⟩=>?_)
 cases b with
 | true =>
  obtain ⟨N,hN,q2⟩:=q2
  rw [if_pos rfl]
  refine wpAny_passesOwn hp (cy (hb pins s2 σ1 H2 _ I2 q2) fun f s3 q3=>?_)
  cases f with
  | next =>
   obtain ⟨σ3,H3,I3,n3⟩:=q3
   obtain ⟨m',hm,w3⟩:=hN σ3 H3 n3
   exact ⟨m',hm,σ3,H3,I3,w3⟩
  | cont =>
   obtain ⟨σ3,H3,I3,n3⟩:=q3
   obtain ⟨m',hm,w3⟩:=hN σ3 H3 n3
   exact ⟨m',hm,σ3,H3,I3,w3⟩
  | brk=>exact q3
  | ret v=>exact q3
 | false =>
  rw [if_neg Bool.false_ne_true]
  exact wpAny_execs_nil ⟨σ1,H2,I2,q2⟩
end
set_option genInjectivity false in
structure It where
 go:Nat->Hp->Prop
 rz:Nat->Hp->V->Hp->Prop
 stop:Nat->Hp->Prop
def kC (X:Cx) (pins:List (Addr×Obj)) (H:Hp) (b:Addr):Prop :=
 H b=none/\b≠X.env.locals/\b ∉ X.fs/\(b∈X.ex\/X.s₀.heap.objs.size<=b)/\(∀ x c,X.env.cells.lookup x=some c->c≠b)/\∀ p∈X.pn ++ pins,p.1≠b
theorem Inv.oa {X:Cx} {pins:List (Addr×Obj)} {σ:St} {H H':Hp} {s:Shared} {b:Addr} (I:Inv X pins σ H s) (hb:s.heap.objs.size<=b) (hn:H' b=none):kC X pins H' b:=by
 refine ⟨hn,Nat.ne_of_gt (Nat.lt_of_lt_of_le I.lt hb),I.ym hb,.inr (Nat.le_trans I.sz hb),fun x c e z=>?_,fun p hp z=>?_⟩
 ·obtain ⟨v,q⟩:=I.cell x c e
  exact absurd (Nat.lt_of_lt_of_le q.lt (by rw [z];exact hb)) (Nat.lt_irrefl _)
 ·exact absurd (Nat.lt_of_lt_of_le (Heap.lt_size (I.pin p hp).1) (by rw [z];exact hb)) (Nat.lt_irrefl _)
structure Turn (P:Program) (w:World) (K:PySem.W.Frag) (tg:Expr) (J:It) (fp:List Addr) (it:Addr) (tn:Nat->Heap->Prop):Prop where
 mem:it∈fp
 obj:∀ i h,tn i h->∀ b∈fp,∃ o,h.get? b=some o/\∀ v,o.data≠.cell v
 keep:∀ i h h',tn i h->(∀ b∈fp,∀ o,h.get? b=some o->h'.get? b=some o)->tn i h'
 item:∀ (X:Cx),X.prog=P->X.w=w->X.K=K->X.calm=true->∀ (i:Nat) (pins:List (Addr×Obj)) (s:Shared) (σ:St) (H:Hp) (E:Value->Shared->Prop),Inv X pins σ H s->(∀ b∈fp,kC X pins H b)->tn i s.heap->J.go i H ->
  wpAny (model P w) X.A (pyNext (.ref it)) (fun r s1=>∃ u,r=some u /\
   wpAny (model P w) X.A (letOwnedTupleGo tg (.ref it) u) (fun _ s2=>∃ x H',Inv X pins σ H' s2/\RelV x u/\J.rz i H x H'/\tn (i + 1) s2.heap/\∀ b∈fp,H' b=none) E s1) E s
 done:∀ (X:Cx),X.prog=P->X.w=w->X.K=K->X.calm=true->∀ (i:Nat) (pins:List (Addr×Obj)) (s:Shared) (σ:St) (H:Hp) (E:Value->Shared->Prop),Inv X pins σ H s->(∀ b∈fp,kC X pins H b)->tn i s.heap->J.stop i H ->
  wpAny (model P w) X.A (pyNext (.ref it)) (fun r s1=>r=none/\Inv X pins σ H s1) E s
 self:∀ (A:Around) (i:Nat) (s:Shared) (Q:Value->Shared->Prop) (E:Value->Shared->Prop),tn i s.heap->Q (.ref it) s->wpAny (model P w) A (pyIter (.ref it)) Q E s
abbrev TI:=St->Hp->(It->Hp->Prop)->Prop
def EW (X:Cx) (pins:List (Addr×Obj)) (σ:St) (tg:Expr) (R:It->Hp->Prop) (itv:Value) (s2:Shared):Prop :=
 ∃ (it:Addr) (fp:List Addr) (tn:Nat->Heap->Prop) (J:It) (H':Hp),itv=.ref it/\Inv X pins σ H' s2/\Turn X.prog X.w X.K tg J fp it tn/\tn 0 s2.heap/\(∀ b∈fp,kC X pins H' b)/\R J H'
def PI (X:Cx) (tg iter:Expr) (wi:TI):Prop :=
 ∀ (pins:List (Addr×Obj)) (s:Shared) (σ:St) (H:Hp) (R:It->Hp->Prop),Inv X pins σ H s->wi σ H R ->
  wpAny (model X.prog X.w) X.A (eval iter X.env) (fun v s1=>wpAny (model X.prog X.w) X.A (pyIter v) (EW X pins σ tg R) X.xe s1) X.xe s
theorem Cm {M:Model} {A:Around} {E:Value->Shared->Prop} {s:Shared} {tg:Expr} {it:Addr} {u:Value} {o:Obj} {n:String} {vs:Array Value} {Q:Unit->Shared->Prop} (ho:s.heap.get? it=some o) (hc:o.cls=.type n) (hd:o.data=.fields vs)
  (hn:["enumerate","zip","dict_itemiterator","dict_reverseitemiterator","odict_iterator","itertools.zip_longest","itertools.pairwise"].contains n=false) (hQ:Q () s):wpAny M A (letOwnedTupleGo tg (.ref it) u) Q E s:=by
 unfold letOwnedTupleGo
 cases tg <;> first
  | exact wpAny_pure hQ
  | (cases u <;> first
    | exact wpAny_pure hQ
    | (refine wpAny_bind (wpAny_load ho ?_)
       rw [hc,hd]
       show wpAny M A (if (["enumerate","zip","dict_itemiterator","dict_reverseitemiterator","odict_iterator","itertools.zip_longest","itertools.pairwise"].contains n && vs[0]? == some (rawInt _))=true then _ else _) Q E s
       rw [if_neg (by intro h;rw [hn,Bool.false_and] at h;cases h)]
       exact wpAny_pure hQ))
def Hv (K:PySem.W.Frag) (a:Addr):It :=
 ⟨fun i H=>∃ xs x,jf K H a xs/\xs[i]?=some x,fun i H x H'=>H'=H/\∀ xs,jf K H a xs->xs[i]?=some x,fun i H=>∃ xs,jf K H a xs/\xs.length<=i⟩
def Hw (K:PySem.W.Frag) (a:Addr):It :=
 ⟨fun i H=>∃ xs x,d9 K H a xs/\xs[i]?=some x,fun i H x H'=>H'=H/\∀ xs,d9 K H a xs->xs[i]?=some x,fun i H=>∃ xs,d9 K H a xs/\xs.length<=i⟩
def Cn (lo:Int) (n:Nat):It:=⟨fun i _=>i < n,fun i H x H'=>H'=H/\x=.int (lo + i),fun i _=>n<=i⟩
theorem LH {P:Program} {w:World} {K:PySem.W.Frag} {tg:Expr} (a it:Addr):Turn P w K tg (Hv K a) [it] it (fun i h=>h.IsListIter it a i) where
 mem:=by simp
 obj:=fun i h st b hb=>by
  have e:b=it:=by simpa using hb
  subst e
  obtain ⟨o,e,c,d⟩:=st
  exact ⟨o,e,fun v z=>by rw [d] at z;cases z⟩
 keep:=fun i h h' st k=>st.at fun o e=>k it (by simp) o e
 item:=by
  intro X hP hw hK hc i pins s σ H E I hf st hg
  subst hP hw hK
  obtain ⟨xs,x,hq,hx⟩:=hg
  obtain ⟨its,rv,p,hz⟩:=I.list hq
  obtain ⟨u,hu,ru⟩:=rv.get hx
  obtain ⟨f0,f1,f2,f3,f4,f5⟩:=hf it (by simp)
  refine wpAny_pyNext_list_item st p.isList (x:=u) (by simpa using hu) fun h' st' sb=>?_
  have I1:Inv X pins σ H { s with heap:=h' }:=I.turned (t':=s.toks) (fun b o hb e=>(sb.2 b hb).trans e) f0 f1 f3 f4 f5
  obtain ⟨o,e,c,d⟩:=id st'
  exact ⟨u,rfl,Cm (s:={ s with heap:=h' }) e c d (by decide) ⟨x,H,I1,ru,⟨rfl,fun ys hy=>by rw [I.nL hy hq];exact hx⟩,st',fun b hb=>(hf b hb).1⟩⟩
 done:=by
  intro X hP hw hK hc i pins s σ H E I hf st hg
  subst hP hw hK
  obtain ⟨xs,hq,hx⟩:=hg
  obtain ⟨its,rv,p,hz⟩:=I.list hq
  obtain ⟨f0,f1,f2,f3,f4,f5⟩:=hf it (by simp)
  have hl:=rv.length
  exact wpAny_pyNext_list_end (I.ok.hd hc) st p.isList (by simp;omega) fun h' eb=>⟨rfl,I.turned (t':=s.toks) (fun b o hb e=>eb b o hb e) f0 f1 f3 f4 f5⟩
 self:=fun _ _ _ _ _ st h=>wpAny_pyIter_listiter st h
theorem LI {P:Program} {w:World} {K:PySem.W.Frag} {tg:Expr} (a it:Addr):Turn P w K tg (Hw K a) [it] it (fun i h=>h.IsTupleIter it a i) where
 mem:=by simp
 obj:=fun i h st b hb=>by
  have e:b=it:=by simpa using hb
  subst e
  obtain ⟨o,e,c,d⟩:=st
  exact ⟨o,e,fun v z=>by rw [d] at z;cases z⟩
 keep:=fun i h h' st k=>st.at fun o e=>k it (by simp) o e
 item:=by
  intro X hP hw hK hc i pins s σ H E I hf st hg
  subst hP hw hK
  obtain ⟨xs,x,hq,hx⟩:=hg
  obtain ⟨its,rv,p,hz⟩:=I.tuple hq
  obtain ⟨u,hu,ru⟩:=rv.get hx
  obtain ⟨f0,f1,f2,f3,f4,f5⟩:=hf it (by simp)
  refine wpAny_pyNext_tuple_item st (show s.heap.IsTuple a its.toArray from p) (x:=u) (by simpa using hu) fun h' st' sb=>?_
  have I1:Inv X pins σ H { s with heap:=h' }:=I.turned (t':=s.toks) (fun b o hb e=>(sb.2 b hb).trans e) f0 f1 f3 f4 f5
  obtain ⟨o,e,c,d⟩:=id st'
  exact ⟨u,rfl,Cm (s:={ s with heap:=h' }) e c d (by decide) ⟨x,H,I1,ru,⟨rfl,fun ys hy=>by rw [I.gu hy hq];exact hx⟩,st',fun b hb=>(hf b hb).1⟩⟩
 done:=by
  intro X hP hw hK hc i pins s σ H E I hf st hg
  subst hP hw hK
  obtain ⟨xs,hq,hx⟩:=hg
  obtain ⟨its,rv,p,hz⟩:=I.tuple hq
  obtain ⟨f0,f1,f2,f3,f4,f5⟩:=hf it (by simp)
  have hl:=rv.length
  exact wpAny_pyNext_tuple_end (I.ok.hd hc) st (show s.heap.IsTuple a its.toArray from p) (by simp;omega) fun h' eb=>⟨rfl,I.turned (t':=s.toks) (fun b o hb e=>eb b o hb e) f0 f1 f3 f4 f5⟩
 self:=fun _ _ _ _ _ st h=>wpAny_pyIter_tupleiter st h
theorem LJ {P:Program} {w:World} {K:PySem.W.Frag} {tg:Expr} (it:Addr) (lo:Int) (n:Nat):Turn P w K tg (Cn lo n) [it] it (fun i h=>IsRangeIter h it (lo + (i:Nat) * 1) ((n:Int) - (i:Nat)) 1) where
 mem:=by simp
 obj:=fun i h st b hb=>by
  have e:b=it:=by simpa using hb
  subst e
  exact ⟨_,st,fun v z=>by
   have z':Data.fields _=Data.cell v:=z
   cases z'⟩
 keep:=fun i h h' st k=>k it (by simp) _ st
 item:=by
  intro X hP hw hK hc i pins s σ H E I hf st hg
  subst hP hw hK
  obtain ⟨f0,f1,f2,f3,f4,f5⟩:=hf it (by simp)
  have W:=Walks.range (prog:=X.prog) (w:=X.w) (I.ok.hd hc) it lo 1 n
  refine W.item i s _ _ hg st fun v h' tk hv st' kk=>?_
  obtain ⟨t,rfl⟩:=hv
  have I1:Inv X pins σ H { s with heap:=h',toks:=tk }:=I.turned (fun b o hb e=>kk b o (by simpa using hb) e) f0 f1 f3 f4 f5
  refine ⟨_,rfl,Cm (s:={ s with heap:=h',toks:=tk }) (n:="range_iterator") st' rfl rfl (by decide) ⟨.int (lo + i),H,I1,⟨t,?_⟩,⟨rfl,rfl⟩,st',fun b hb=>(hf b hb).1⟩⟩
  rw [Int.mul_one]
 done:=by
  intro X hP hw hK hc i pins s σ H E I hf st hg
  subst hP hw hK
  obtain ⟨f0,f1,f2,f3,f4,f5⟩:=hf it (by simp)
  exact wpAny_pyNext_range_end (I.ok.hd hc) st (by have:n<=i:=hg;omega) fun h' eb=>⟨rfl,I.turned (t':=s.toks) (fun b o hb e=>eb b o hb e) f0 f1 f3 f4 f5⟩
 self:=fun _ _ _ _ _ st h=>wpAny_pyIter_rangeiter st h
end L2
namespace L2
open PySem PySem.Spec PyProof.Rows
section
variable {X:Cx} {tg:Expr}
def pP (K:PySem.W.Frag) (tl:TE):TI:=fun σ H R=>tl σ H fun x H1=>∃ a,x=.ref a/\(∃ xs,jf K H1 a xs)/\R (Hv K a) H1
def yD (K:PySem.W.Frag) (tl:TE):TI:=fun σ H R=>tl σ H fun x H1=>∃ a,x=.ref a/\(∃ xs,d9 K H1 a xs)/\R (Hw K a) H1
theorem EX {l:Expr} {tl:TE} (hl:PE X l tl):PI X tg l (pP X.K tl):=by
 intro pins s σ H R I h
 refine cy (hl pins s σ H _ I h) fun v s1 ⟨x,H1,I1,r1,q1⟩=>?_
 obtain ⟨a,e,⟨xs,hq⟩,q⟩:=q1
 subst e
 cases r1
 obtain ⟨its,rv,p,hz⟩:=I1.list hq
 refine wpAny_pyIter_list p.isList ?_
 refine ⟨s1.heap.objs.size,[s1.heap.objs.size],_,_,H1,rfl,I1.kept (t':=s1.toks) fun b o e=>Heap.get?_push_of_some _ e,LH a _,⟨_,Heap.get?_push_size _ rfl,rfl,rfl⟩,fun b hb=>?_,q⟩
 have e:b=s1.heap.objs.size:=by simpa using hb
 subst e
 exact I1.oa (Nat.le_refl _) (I1.hok.fresh (Nat.le_refl _))
theorem o3 {l:Expr} {tl:TE} (hl:PE X l tl):PI X tg l (yD X.K tl):=by
 intro pins s σ H R I h
 refine cy (hl pins s σ H _ I h) fun v s1 ⟨x,H1,I1,r1,q1⟩=>?_
 obtain ⟨a,e,⟨xs,hq⟩,q⟩:=q1
 subst e
 cases r1
 obtain ⟨its,rv,p,hz⟩:=I1.tuple hq
 refine wpAny_pyIter_tuple (show s1.heap.IsTuple a its.toArray from p) ?_
 refine ⟨s1.heap.objs.size,[s1.heap.objs.size],_,_,H1,rfl,I1.kept (t':=s1.toks) fun b o e=>Heap.get?_push_of_some _ e,LI a _,⟨_,Heap.get?_push_size _ rfl,rfl,rfl⟩,fun b hb=>?_,q⟩
 have e:b=s1.heap.objs.size:=by simpa using hb
 subst e
 exact I1.oa (Nat.le_refl _) (I1.hok.fresh (Nat.le_refl _))
theorem LK {pins:List (Addr×Obj)} {σ:St} {H:Hp} {s:Shared} {R:It->Hp->Prop} {E:Value->Shared->Prop} {lo hi:Int} {t u v:Tok} {tk:Nat} (I:Inv X pins σ H s) (h1:-(2 ^ 62)<=lo) (h2:lo < 2 ^ 62) (h3:-(2 ^ 62)<=hi) (h4:hi < 2 ^ 62)
  (q:R (Cn lo (hi - lo).toNat) H):wpAny (model X.prog X.w) X.A (pyIter (.ref s.heap.objs.size)) (EW X pins σ tg R) E { s with heap:=s.heap.push { cls:=.type "range",data:=.fields #[.int lo t,.int hi u,.int 1 v] },toks:=tk }:=by
 refine wpAny_pyIter_range (IsRange.new ..) (small_one h1 h2 h3 h4) ?_
 have I1:Inv X pins σ H { s with heap:=s.heap.push { cls:=.type "range",data:=.fields #[.int lo t,.int hi u,.int 1 v] },toks:=tk }:=I.kept fun b o e=>Heap.get?_push_of_some _ e
 refine ⟨(s.heap.push { cls:=.type "range",data:=.fields #[.int lo t,.int hi u,.int 1 v] }).objs.size,[(s.heap.push { cls:=.type "range",data:=.fields #[.int lo t,.int hi u,.int 1 v] }).objs.size],_,_,H,rfl,
  I1.kept (t':=tk) fun b o e=>Heap.get?_push_of_some _ e,LJ _ lo (hi - lo).toNat,?_,fun b hb=>?_,q⟩
 ·have e1:lo + ((0:Nat):Int) * 1=lo:=by simp
  have e2:(((hi - lo).toNat:Nat):Int) - ((0:Nat):Int)=Builtin.Range.rangeSize lo hi 1:=by rw [rangeSize_one];split <;> omega
  show IsRangeIter _ _ (lo + ((0:Nat):Int) * 1) ((((hi - lo).toNat:Nat):Int) - ((0:Nat):Int)) 1
  rw [e1,e2]
  exact Heap.get?_push_size _ rfl
 ·have e:b=(s.heap.push { cls:=.type "range",data:=.fields #[.int lo t,.int hi u,.int 1 v] }).objs.size:=by simpa using hb
  subst e
  exact I1.oa (Nat.le_refl _) (I1.hok.fresh (Nat.le_refl _))
def sG (ta:TA):TI:=fun σ H R=>ta σ H fun vs H1=>∃ j:Int,vs=[.int j]/\-(2 ^ 62)<=j/\j < 2 ^ 62/\R (Cn 0 j.toNat) H1
theorem nZ {a:Expr} {ta:TA} {p pos:Pos} (hg:Gl X "range") (hm:X.mg "range" = none) (ha:PA X [a] ta) (hs:starEach [a] X.env=[(false,eval a X.env)]:=by rfl):PI X tg (.Call (.Name "range" p) [a] [] pos) (sG ta):=by
 intro pins s σ H R I h
 refine Call_ (yr I hg hm boot_range (PyProof.Rows.callWith_type1 (cy (ha pos pins s σ H _ I h) fun us s1 ⟨vs,H1,I1,r1,q1⟩=>?_) hs rfl))
 obtain ⟨j,e,q1,q2,q⟩:=q1
 subst e
 cases r1 with
 | cons r rr =>
  cases rr
  obtain ⟨t,rfl⟩:=r
  exact call_range_1 (LK I1 (by omega) (by omega) q1 q2 (by simpa using q))
def yE (wi:TI) (g:TG) (tb:TS):TS:=fun D σ H=>wi σ H fun J H1=>∃ W:Nat->Nat->St->Hp->Prop,(∃ m,W 0 m σ H1)/\∀ i m σ H,W i m σ H ->
 (J.stop i H/\D.nx σ H)\/(J.go i H/\∃ N:St->Hp->Prop,(∀ σ' H',N σ' H'->∃ m',m' < m/\W (i + 1) m' σ' H')/\∀ x H',J.rz i H x H'->g x σ H' fun σ2 H2=>tb { D with nx:=N,ct:=N,bk:=D.nx } σ2 H2)
def lL (fp:List Addr) (h:Heap):List (Addr×Obj):=fp.filterMap fun b=>(h.get? b).map fun o=>(b,o)
theorem Co {fp:List Addr} {h:Heap} {b:Addr} {o:Obj} (hb:b∈fp) (e:h.get? b=some o):(b,o)∈lL fp h:=List.mem_filterMap.mpr ⟨b,hb,by rw [e];rfl⟩
theorem LL {fp:List Addr} {h:Heap} {p:Addr×Obj} (hp:p∈lL fp h):p.1∈fp/\h.get? p.1=some p.2:=by
 obtain ⟨b,hb,e⟩:=List.mem_filterMap.mp hp
 cases q:h.get? b with
 | none=>rw [q] at e;cases e
 | some o =>
  rw [q] at e
  have e':(b,o)=p:=Option.some.inj e
  subst e'
  exact ⟨hb,q⟩
theorem Inv.pinned {pins:List (Addr×Obj)} {σ:St} {H:Hp} {s:Shared} {fp:List Addr} (I:Inv X pins σ H s) (hf:∀ b∈fp,kC X pins H b) (ho:∀ b∈fp,∃ o,s.heap.get? b=some o/\∀ v,o.data≠.cell v):Inv X (pins ++ lL fp s.heap) σ H s :=
 I.lq fun p hp=>(List.mem_append.mp hp).elim (fun z=>I.pin p (List.mem_append_right _ z)) fun z=>by
  obtain ⟨hb,e⟩:=LL z
  obtain ⟨f0,f1,f2,_⟩:=hf p.1 hb
  obtain ⟨o,e',d⟩:=ho p.1 hb
  rw [e] at e';cases e'
  exact ⟨e,f0,f1,f2,d⟩
theorem Inv.j9 {pins pl:List (Addr×Obj)} {σ:St} {H:Hp} {s:Shared} (I:Inv X (pins ++ pl) σ H s):Inv X pins σ H s:=I.lq fun p hp=>I.pin p (List.mem_append_right _ (List.mem_append_left _ hp))
theorem l9 {iter:Expr} {body:List Stmt} {wi:TI} {g:TG} {tb:TS} {pos:Pos} (hp:PassesOwn (model X.prog X.w) X.A X.env X.xe) (hc:X.calm=true) (hi:PI X tg iter wi) (hg:PG X tg g) (hb:oZ X body tb)
  (hs:∀ x,foldedSetIterable iter X.env x=pure x:=by intro _;rfl):PS X (.For tg iter body [] pos) (yE wi g tb):=by
 intro pins s σ H D I h
 refine wpAny_For (cy (hi pins s σ H _ I h) fun v s1 h1=>cy h1 fun itv s2 h2=>?_) hs
 obtain ⟨it,fp,tn,J,H2,e,I2,T,st2,f2,W,⟨m0,w0⟩,turn⟩:=h2
 subst e
 have stat:∀ {H':Hp},(∀ b∈fp,H' b=none)->∀ b∈fp,kC X pins H' b:=fun hn b hb=>⟨hn b hb,(f2 b hb).2⟩
 refine codeAny_forLoop_any (fun n s'=>∃ i σ' H',Inv X pins σ' H' s'/\tn i s'.heap/\(∀ b∈fp,H' b=none)/\W i n σ' H') ?_ m0 ⟨0,σ,H2,I2,st2,fun b hb=>(f2 b hb).1,w0⟩
 rintro n s3 ⟨i,σ3,H3,I3,st3,Hx,w3⟩
 rcases turn i n σ3 H3 w3 with ⟨stop,qn⟩ | ⟨go,N,hN,step⟩
 ·refine wpAny_passesOwn hp (cy (T.done X rfl rfl rfl hc i pins s3 σ3 H3 X.xe I3 (stat Hx) st3 stop) fun r s4 ⟨hr,I4⟩=>?_)
  subst hr
  exact wpAny_execs_nil ⟨σ3,H3,I4,qn⟩
 ·refine wpAny_passesOwn hp (cy (T.item X rfl rfl rfl hc i pins s3 σ3 H3 X.xe I3 (stat Hx) st3 go) fun r s4 ⟨u,hr,h4⟩=>?_)
  subst hr
  refine wpAny_passesOwn hp (cy h4 fun _ s5 ⟨x,H5,I5,r5,y5,jA,Cp⟩=>?_)
  have LM:=I5.pinned (stat Cp) (T.obj _ _ jA)
  refine wpAny_passesOwn hp (cy (hg _ s5 σ3 H5 x u _ LM r5 (step x H5 y5)) fun _ s6 ⟨σ6,H6,I6,q6⟩=>?_)
  refine wpAny_passesOwn hp (cy (hb _ s6 σ6 H6 _ I6 q6) fun f s7 q7=>?_)
  have again:∀ {σ7:St} {H7:Hp},Inv X (pins ++ lL fp s5.heap) σ7 H7 s7->N σ7 H7->∃ m,m < n/\∃ i σ' H',Inv X pins σ' H' s7/\tn i s7.heap/\(∀ b∈fp,H' b=none)/\W i m σ' H':=fun {σ7 H7} I7 n7=>by
   obtain ⟨m',hm,w7⟩:=hN σ7 H7 n7
   refine ⟨m',hm,i + 1,σ7,H7,I7.j9,T.keep _ _ _ jA fun b hb o e=>(I7.pin (b,o) (List.mem_append_right _ (List.mem_append_right _ (Co hb e)))).1,fun b hb=>?_,w7⟩
   obtain ⟨o,e,d⟩:=T.obj _ _ jA b hb
   exact (I7.pin (b,o) (List.mem_append_right _ (List.mem_append_right _ (Co hb e)))).2.1
  cases f with
  | next=>obtain ⟨σ7,H7,I7,n7⟩:=q7;exact again I7 n7
  | cont=>obtain ⟨σ7,H7,I7,n7⟩:=q7;exact again I7 n7
  | brk=>obtain ⟨σ7,H7,I7,q7⟩:=q7;exact ⟨σ7,H7,I7.j9,q7⟩
  | ret v=>obtain ⟨x7,σ7,H7,I7,r7,q7⟩:=q7;exact ⟨x7,σ7,H7,I7.j9,r7,q7⟩
end
end L2
namespace L2
open PySem PySem.Spec PyProof.Rows
abbrev R2:=V->V->Hp->VK->Prop
def kq (X:Cx) (f:Value->Value->Sem Value) (r:R2):Prop :=
 ∀ (pins:List (Addr×Obj)) (s:Shared) (σ:St) (H:Hp) (x y:V) (v u:Value) (Q:VK),Inv X pins σ H s->RelV x v->RelV y u->r x y H Q ->
  wpAny (model X.prog X.w) X.A (f v u) (EP X pins σ Q) X.xe s
def EY (X:Cx) (f:Value->Sem Value) (r:V->Hp->VK->Prop):Prop :=
 ∀ (pins:List (Addr×Obj)) (s:Shared) (σ:St) (H:Hp) (x:V) (v:Value) (Q:VK),Inv X pins σ H s->RelV x v->r x H Q ->
  wpAny (model X.prog X.w) X.A (f v) (EP X pins σ Q) X.xe s
def e7 (X:Cx) (f:Value) (r:List V->Hp->VK->Prop):Prop :=
 ∀ (pins:List (Addr×Obj)) (s:Shared) (σ:St) (H:Hp) (xs:List V) (us:List Value) (Q:VK),Inv X pins σ H s->Vals xs us->r xs H Q ->
  wpAny (model X.prog X.w) X.A (call f us) (EP X pins σ Q) X.xe s
def yF (r:R2) (ta tb:TE):TE:=fun σ H Q=>ta σ H fun x H1=>tb σ H1 fun y H2=>r x y H2 Q
def Hy (r:V->Hp->VK->Prop) (ta:TE):TE:=fun σ H Q=>ta σ H fun x H1=>r x H1 Q
def rI (C:Int->Int->Prop) (g:Int->Int->V):R2:=fun x y H Q=>∃ i j,x=.int i/\y=.int j/\C i j/\Q (g i j) H
def o4 (g:Int->Int->V):R2:=fun x y H Q=>∃ i j,x=.int i/\y=.int j/\Q (g i j) H
def rU (g:Int->V):V->Hp->VK->Prop:=fun x H Q=>∃ i,x=.int i/\Q (g i) H
section
variable {X:Cx} {a b c:Expr} {ta tb tc:TE} {pos:Pos}
theorem uJ (ha:PE X a ta) (hb:PE X b tb) {pins:List (Addr×Obj)} {s:Shared} {σ:St} {H:Hp} {R:V->V->Hp->Prop} (I:Inv X pins σ H s)
  (h:ta σ H fun x H1=>tb σ H1 fun y H2=>R x y H2) {Q:Value->Shared->Prop} {f:Value->Value->Sem Value}
  (hf:∀ v u s2 x y H2,Inv X pins σ H2 s2->RelV x v->RelV y u->R x y H2->wpAny (model X.prog X.w) X.A (f v u) Q X.xe s2) :
  wpAny (model X.prog X.w) X.A (eval a X.env) (fun v s₁=>wpAny (model X.prog X.w) X.A (eval b X.env) (fun u s₂=>wpAny (model X.prog X.w) X.A (f v u) Q X.xe s₂) X.xe s₁) X.xe s:=by
 refine cy (ha pins s σ H _ I h) fun v s1 ⟨x,H1,I1,r1,q1⟩=>?_
 refine cy (hb pins s1 σ H1 _ I1 q1) fun u s2 ⟨y,H2,I2,r2,q2⟩=>?_
 exact hf v u s2 x y H2 I2 r1 r2 q2
theorem bC {op:Operator} {r:R2} (ho:kq X (binaryOp op) r) (ha:PE X a ta) (hb:PE X b tb):PE X (.BinOp a op b pos) (yF r ta tb):=by
 intro pins s σ H Q I h
 exact wpAny_BinOp (uJ ha hb I h fun v u s2 x y H2 I2 rx ry q=>ho pins s2 σ H2 x y v u Q I2 rx ry q)
theorem qJ {op:UnaryOp} {r:V->Hp->VK->Prop} (ho:EY X (unaryOp op) r) (ha:PE X a ta):PE X (.UnaryOp op a pos) (Hy r ta):=by
 intro pins s σ H Q I h
 exact UnaryOp_ (cy (ha pins s σ H _ I h) fun v s1 ⟨x,H1,I1,r1,q1⟩=>ho pins s1 σ H1 x v Q I1 r1 q1)
theorem xA {f:Value->Value->Sem Value} {C:Int->Int->Prop} {g:Int->Int->Int}
  (rule:∀ (i j:Int) (t u:Tok) (s:Shared) (Q:Value->Shared->Prop) (E:Value->Shared->Prop),C i j->Q (.int (g i j) s.toks) { s with toks:=s.toks + 1 }->wpAny (model X.prog X.w) X.A (f (.int i t) (.int j u)) Q E s) :
  kq X f (rI C fun i j=>.int (g i j)):=by
 intro pins s σ H x y v u Q I rx ry h
 obtain ⟨i,j,rfl,rfl,hc,q⟩:=h
 obtain ⟨t,rfl⟩:=rx
 obtain ⟨t',rfl⟩:=ry
 exact rule i j t t' s _ _ hc ⟨.int (g i j),H,I.tok _,⟨_,rfl⟩,q⟩
theorem yG {f:Value->Value->Sem Value} {g:Int->Int->Int}
  (rule:∀ (i j:Int) (t u:Tok) (s:Shared) (Q:Value->Shared->Prop) (E:Value->Shared->Prop),Q (.int (g i j) s.toks) { s with toks:=s.toks + 1 }->wpAny (model X.prog X.w) X.A (f (.int i t) (.int j u)) Q E s) :
  kq X f (o4 fun i j=>.int (g i j)):=by
 intro pins s σ H x y v u Q I rx ry h
 obtain ⟨i,j,rfl,rfl,q⟩:=h
 obtain ⟨t,rfl⟩:=rx
 obtain ⟨t',rfl⟩:=ry
 exact rule i j t t' s _ _ ⟨.int (g i j),H,I.tok _,⟨_,rfl⟩,q⟩
theorem uK {f:Value->Value->Sem Value} {g:Int->Int->Bool}
  (rule:∀ (i j:Int) (t u:Tok) (s:Shared) (Q:Value->Shared->Prop) (E:Value->Shared->Prop),Q (.bool (g i j)) s->wpAny (model X.prog X.w) X.A (f (.int i t) (.int j u)) Q E s) :
  kq X f (o4 fun i j=>.bl (g i j)):=by
 intro pins s σ H x y v u Q I rx ry h
 obtain ⟨i,j,rfl,rfl,q⟩:=h
 obtain ⟨t,rfl⟩:=rx
 obtain ⟨t',rfl⟩:=ry
 exact rule i j t t' s _ _ ⟨.bl (g i j),H,I,rfl,q⟩
def yH (i j:Int):Prop:=0 < j/\j < 1073741824
def yI (i j:Int):Prop:=0<=j/\j<=1000000/\i.natAbs < 2 ^ 64
def pQ (i j:Int):Prop:=(-(2 ^ 64) < i/\i < 2 ^ 64)\/(-(2 ^ 64) < j/\j < 2 ^ 64)
theorem pQ.ok {i j:Int} (h:pQ i j):IntMulOk i j:=by
 rcases h with ⟨h1,h2⟩ | ⟨h1,h2⟩
 ·exact .of_left (intBits_le_64 h1 h2)
 ·exact .of_right (intBits_le_64 h1 h2)
theorem jZ:kq X (binaryOp .Add) (o4 fun i j=>.int (i + j)):=yG fun _ _ _ _ _ _ _ q=>add_int q
theorem xB:kq X (binaryOp .Sub) (o4 fun i j=>.int (i - j)):=yG fun _ _ _ _ _ _ _ q=>sub_int q
theorem qK:kq X (binaryOp .Mult) (rI pQ fun i j=>.int (i * j)):=xA fun _ _ _ _ _ _ _ hc q=>mul_int q hc.ok
theorem Hz:kq X (binaryOp .FloorDiv) (rI yH fun i j=>.int (i / j)):=xA fun i j _ _ _ _ _ hc q=>by
 have h1:(0:Int) < j:=hc.1
 have h2:j < 1073741824:=hc.2
 exact floordiv_int (by omega) (by rw [Int.fdiv_eq_ediv_of_nonneg i (by omega)];exact q) (.inl (PyProof.noPylong_small (by omega)))
theorem pq:kq X (binaryOp .Mod) (rI (fun _ j=>0 < j) fun i j=>.int (i % j)):=xA fun i j _ _ _ _ _ hc q=>by
 have h1:(0:Int) < j:=hc
 exact mod_int' (by omega) (by rw [Int.fmod_eq_emod_of_nonneg i (by omega)];exact q)
theorem HA:kq X (binaryOp .Pow) (rI yI fun i j=>.int (i ^ j.toNat)):=xA fun _ _ _ _ _ _ _ hc q=>pow_int_small hc.1 hc.2.1 hc.2.2 q
theorem LN {f:Value->Sem Value} {g:Int->Int}
  (rule:∀ (i:Int) (t:Tok) (s:Shared) (Q:Value->Shared->Prop) (E:Value->Shared->Prop),Q (.int (g i) s.toks) { s with toks:=s.toks + 1 }->wpAny (model X.prog X.w) X.A (f (.int i t)) Q E s) :
  EY X f (rU fun i=>.int (g i)):=by
 intro pins s σ H x v Q I rx h
 obtain ⟨i,rfl,q⟩:=h
 obtain ⟨t,rfl⟩:=rx
 exact rule i t s _ _ ⟨.int (g i),H,I.tok _,⟨_,rfl⟩,q⟩
theorem qL:EY X (unaryOp .USub) (rU fun i=>.int (-i)):=LN fun _ _ _ _ _ q=>neg_int q
end
def oe:V->V->Bool
 | .non,.non=>true | .non,.int _=>true | .int _,.non=>true | .non,.bl _=>true | .bl _,.non=>true | .non,.str _=>true | .str _,.non=>true
 | .int _,.int _=>true | .bl _,.bl _=>true | .str _,.str _=>true | .pK _,.pK _=>true
 | .int _,.str _=>true | .str _,.int _=>true | .bl _,.str _=>true | .str _,.bl _=>true
 | _,_=>false
def HB:R2:=fun x y H Q=>oe x y=true/\Q (.bl (decide (x=y))) H
def HC:R2:=fun x y H Q=>oe x y=true/\Q (.bl (!decide (x=y))) H
theorem HD {i j:Int}:decide (V.int i=V.int j)=(i == j):=by
 rw [Bool.eq_iff_iff]
 simp
theorem HE {i j:Bool}:decide (V.bl i=V.bl j)=(i == j):=by
 rw [Bool.eq_iff_iff]
 simp
theorem HF {i j:Str}:decide (V.str i=V.str j)=(i == j):=by
 rw [Bool.eq_iff_iff]
 simp
theorem HG {i j:Array UInt8}:decide (V.pK i=V.pK j)=(i.toList == j.toList):=by
 rw [Bool.eq_iff_iff]
 cases i
 cases j
 simp
section
variable {X:Cx} {a b c:Expr} {ta tb tc:TE} {pos:Pos}
theorem j4 {pins:List (Addr×Obj)} {σ:St} {H:Hp} {s:Shared} {Q:VK} {k k':Bool} (I:Inv X pins σ H s) (q:Q (.bl k) H) (e:k=k'):EP X pins σ Q (.bool k') s:=by
 subst e
 exact ⟨.bl k,H,I,rfl,q⟩
theorem nD:kq X (compareOp .Eq) HB:=by
 intro pins s σ H x y v u Q I rx ry h
 obtain ⟨hs,q⟩:=h
 cases x with
 | non =>
  cases rx
  cases y with
  | non=>cases ry;exact PySem.EqNone.eq_none_none (j4 I q (by simp))
  | bl j=>cases ry;exact PySem.EqNone.eq_none_bool (j4 I q (by simp))
  | int j=>obtain ⟨t',rfl⟩:=ry;exact PySem.EqNone.eq_none_int (j4 I q (by simp))
  | str j=>obtain ⟨t',rfl⟩:=ry;exact PySem.EqNone.eq_none_str (j4 I q (by simp))
  | _=>exact absurd (show false=true from hs) Bool.false_ne_true
 | bl i =>
  cases rx
  cases y with
  | non=>cases ry;exact PySem.EqNone.eq_bool_none (j4 I q (by simp))
  | bl j=>cases ry;exact eq_bool (j4 I q HE)
  | str j=>obtain ⟨t',rfl⟩:=ry;exact PySem.EqMixed.eq_bool_str (j4 I q (by simp))
  | _=>exact absurd (show false=true from hs) Bool.false_ne_true
 | int i =>
  obtain ⟨t,rfl⟩:=rx
  cases y with
  | non=>cases ry;exact PySem.EqNone.eq_int_none (j4 I q (by simp))
  | int j=>obtain ⟨t',rfl⟩:=ry;exact eq_int (j4 I q HD)
  | str j=>obtain ⟨t',rfl⟩:=ry;exact PySem.EqMixed.eq_int_str (j4 I q (by simp))
  | _=>exact absurd (show false=true from hs) Bool.false_ne_true
 | str i =>
  obtain ⟨t,rfl⟩:=rx
  cases y with
  | non=>cases ry;exact PySem.EqNone.eq_str_none (j4 I q (by simp))
  | bl j=>cases ry;exact PySem.EqMixed.eq_str_bool (j4 I q (by simp))
  | int j=>obtain ⟨t',rfl⟩:=ry;exact PySem.EqMixed.eq_str_int (j4 I q (by simp))
  | str j=>obtain ⟨t',rfl⟩:=ry;exact eq_str (j4 I q HF)
  | _=>exact absurd (show false=true from hs) Bool.false_ne_true
 | pK i =>
  obtain ⟨t,rfl⟩:=rx
  cases y with
  | pK j=>obtain ⟨t',rfl⟩:=ry;exact PySem.W.eq_bytes (j4 I q HG)
  | _=>exact absurd (show false=true from hs) Bool.false_ne_true
 | _=>cases y <;> exact absurd (show false=true from hs) Bool.false_ne_true
theorem Cq:kq X (compareOp .NotEq) HC:=by
 intro pins s σ H x y v u Q I rx ry h
 obtain ⟨hs,q⟩:=h
 cases x with
 | non =>
  cases rx
  cases y with
  | non=>cases ry;exact PySem.EqNone.ne_none_none (j4 I q (by simp))
  | bl j=>cases ry;exact PySem.EqNone.ne_none_bool (j4 I q (by simp))
  | int j=>obtain ⟨t',rfl⟩:=ry;exact PySem.EqNone.ne_none_int (j4 I q (by simp))
  | str j=>obtain ⟨t',rfl⟩:=ry;exact PySem.EqNone.ne_none_str (j4 I q (by simp))
  | _=>exact absurd (show false=true from hs) Bool.false_ne_true
 | bl i =>
  cases rx
  cases y with
  | non=>cases ry;exact PySem.EqNone.ne_bool_none (j4 I q (by simp))
  | bl j=>cases ry;exact ne_bool (j4 I q (congrArg not HE))
  | str j=>obtain ⟨t',rfl⟩:=ry;exact PySem.EqMixed.ne_bool_str (j4 I q (by simp))
  | _=>exact absurd (show false=true from hs) Bool.false_ne_true
 | int i =>
  obtain ⟨t,rfl⟩:=rx
  cases y with
  | non=>cases ry;exact PySem.EqNone.ne_int_none (j4 I q (by simp))
  | int j=>obtain ⟨t',rfl⟩:=ry;exact ne_int (j4 I q (congrArg not HD))
  | str j=>obtain ⟨t',rfl⟩:=ry;exact PySem.EqMixed.ne_int_str (j4 I q (by simp))
  | _=>exact absurd (show false=true from hs) Bool.false_ne_true
 | str i =>
  obtain ⟨t,rfl⟩:=rx
  cases y with
  | non=>cases ry;exact PySem.EqNone.ne_str_none (j4 I q (by simp))
  | bl j=>cases ry;exact PySem.EqMixed.ne_str_bool (j4 I q (by simp))
  | int j=>obtain ⟨t',rfl⟩:=ry;exact PySem.EqMixed.ne_str_int (j4 I q (by simp))
  | str j=>obtain ⟨t',rfl⟩:=ry;exact ne_str (j4 I q (congrArg not HF))
  | _=>exact absurd (show false=true from hs) Bool.false_ne_true
 | pK i =>
  obtain ⟨t,rfl⟩:=rx
  cases y with
  | pK j=>obtain ⟨t',rfl⟩:=ry;exact PySem.W.ne_bytes (j4 I q (congrArg not HG))
  | _=>exact absurd (show false=true from hs) Bool.false_ne_true
 | _=>cases y <;> exact absurd (show false=true from hs) Bool.false_ne_true
theorem Cr:kq X (compareOp .Lt) (o4 fun i j=>.bl (decide (i < j))):=uK fun _ _ _ _ _ _ _ q=>lt_int q
theorem EZ:kq X (compareOp .Gt) (o4 fun i j=>.bl (decide (j < i))):=uK fun _ _ _ _ _ _ _ q=>gt_int q
theorem yJ:kq X (compareOp .GtE) (o4 fun i j=>.bl (decide (j<=i))):=uK fun _ _ _ _ _ _ _ q=>ge_int q
theorem aS (b:Expr) {op:CmpOp} (h:op≠.In:=by decide) (h2:op≠.NotIn:=by decide):behindInMarks op b=false:=by
 have e1:(op == CmpOp.In)=false:=by cases op <;> first | rfl | exact absurd rfl h
 have e2:(op == CmpOp.NotIn)=false:=by cases op <;> first | rfl | exact absurd rfl h2
 cases b <;> simp [behindInMarks,e1,e2]
theorem Cs {op:CmpOp} {r:R2} (ho:kq X (compareOp op) r) (ha:PE X a ta) (hb:PE X b tb) (hm:behindInMarks op b=false):PE X (.Compare a [op] [b] pos) (yF r ta tb):=by
 intro pins s σ H Q I h
 exact wpAny_Compare1 (uJ ha hb I h fun v u s2 x y H2 I2 rx ry q=>ho pins s2 σ H2 x y v u Q I2 rx ry q) hm
def sH (t:TE):TT:=fun σ H Q=>t σ H fun x H'=>∃ k,x=.bl k/\Q k H'
theorem iA {op:CmpOp} {r:R2} (ho:kq X (compareOp op) r) (ha:PE X a ta) (hb:PE X b tb) (hm:behindInMarks op b=false):PT X (.Compare a [op] [b] pos) (sH (yF r ta tb)):=by
 intro pins s σ H Q I h
 refine wpAny_isTrue_Compare1 (cy (ha pins s σ H _ I h) fun v s1 ⟨x,H1,I1,r1,q1⟩=>cy (hb pins s1 σ H1 _ I1 q1) fun u s2 ⟨y,H2,I2,r2,q2⟩ =>
  cy (ho pins s2 σ H2 x y v u _ I2 r1 r2 q2) fun c s3 ⟨z,H3,I3,r3,k,e,q3⟩=>?_) hm
 subst e
 cases r3
 exact wpAny_truthy_bool ⟨H3,I3,q3⟩
theorem kD:(sizeLine:Nat) < 2 ^ 63:=by rw [sizeLine_eq];decide
theorem vals1 {x:V} {us:List Value} (r:Vals [x] us):∃ u,us=[u]/\RelV x u:=by
 cases r with
 | cons r1 r2=>cases r2;exact ⟨_,rfl,r1⟩
theorem vals2 {x y:V} {us:List Value} (r:Vals [x,y] us):∃ u w',us=[u,w']/\RelV x u/\RelV y w':=by
 cases r with
 | cons r1 r2 =>
  cases r2 with
  | cons r3 r4=>cases r4;exact ⟨_,_,rfl,r1,r3⟩
theorem LO (hc:X.calm=true):e7 X (.builtin "max") (fun xs H Q=>∃ i j,xs=[.int i,.int j]/\Q (.int (if j > i then j else i)) H):=by
 intro pins s σ H xs us Q I r h
 obtain ⟨i,j,rfl,q⟩:=h
 obtain ⟨u,w',rfl,⟨t,rfl⟩,⟨t',rfl⟩⟩:=vals2 r
 refine max_two_ints (I.ok.hd hc) fun h' tk k=>⟨_,H,I.kept k,?_,q⟩
 by_cases hj:j > i
 ·rw [if_pos hj,if_pos hj];exact ⟨_,rfl⟩
 ·rw [if_neg hj,if_neg hj];exact ⟨_,rfl⟩
theorem LP (hc:X.calm=true):e7 X (.builtin "min") (fun xs H Q=>∃ i j,xs=[.int i,.int j]/\Q (.int (if j < i then j else i)) H):=by
 intro pins s σ H xs us Q I r h
 obtain ⟨i,j,rfl,q⟩:=h
 obtain ⟨u,w',rfl,⟨t,rfl⟩,⟨t',rfl⟩⟩:=vals2 r
 refine min_two_ints (I.ok.hd hc) fun h' tk k=>⟨_,H,I.kept k,?_,q⟩
 by_cases hj:j < i
 ·rw [if_pos hj,if_pos hj];exact ⟨_,rfl⟩
 ·rw [if_neg hj,if_neg hj];exact ⟨_,rfl⟩
theorem HI:e7 X (.type "int") (fun xs H Q=>(∃ i,xs=[.int i]/\Q (.int i) H)\/∃ k,xs=[.bl k]/\Q (.int (if k then 1 else 0)) H):=by
 intro pins s σ H xs us Q I r h
 rcases h with ⟨i,rfl,q⟩ | ⟨k,rfl,q⟩
 ·obtain ⟨u,rfl,t,rfl⟩:=vals1 r
  exact call_int_int ⟨.int i,H,I,⟨_,rfl⟩,q⟩
 ·obtain ⟨u,rfl,r1⟩:=vals1 r
  cases r1
  exact call_int_bool ⟨.int (if k then 1 else 0),H,I.tok _,⟨_,rfl⟩,q⟩
end
end L2
namespace L2
open PySem PySem.Spec PyProof.Rows
section
variable {prog:Program} {w:World} {A:Around} {E:Value->Shared->Prop} {s:Shared} {K:PySem.W.Frag} {x dx C f:Addr} {mA:Str->Option Value} {name:Str} {v:Value}
end
section
variable {P:Program} {w:World} {H H':Hp} {h h':Heap} {a C dx:Addr} {fs fs':List (Str×V)}
end
structure pR (K:PySem.W.Frag) (C:Addr) (f:Str) (v:V) (u:Value):Prop where
 at_:PySem.W.findIn K (.ref C) f=some (some u)
 rel:RelV v u
 get:PySem.W.specialIn K u "__get__" = some none
 cp:PySem.W.copiedNames.contains f=false
section
variable {X:Cx} {pins:List (Addr×Obj)} {σ:St} {H:Hp} {s:Shared} {a C dx:Addr} {fs:List (Str×V)} {f:Str} {v:V} {A:Around} {E:Value->Shared->Prop}
end
section
variable {X:Cx} {o e value:Expr} {f:Str} {pos pos' tpos:Pos} {ta tv:TE}
end
section
variable {X:Cx} {pins:List (Addr×Obj)} {σ:St} {H:Hp} {s:Shared} {A:Around} {E:Value->Shared->Prop} {Q:Value->Shared->Prop} {c:Value} {b:Bool}
end
end L2
namespace L2
open PySem PySem.Spec PyProof.Rows
structure gw (k:Nat) (A:Around):Prop where
 hd:A.handled=none
 dp:A.depth + 3 * k + 5 < recursionLimit
 un:A.units + 16 * k + 200 < cLine
 gd:A.guards=some []
theorem gw.mono {j k:Nat} {A:Around} (r:gw k A) (h:j<=k):gw j A:=⟨r.hd,by have:=r.dp;omega,by have:=r.un;omega,r.gd⟩
theorem gw.deeper {k:Nat} {A:Around} (r:gw (k + 1) A) (env:Env):gw k (A.deeper env) :=
 ⟨r.hd,by have:=r.dp;show A.depth + 1 + 3 * k + 5 < _;omega,by have:=r.un;show A.units + 3 + 16 * k + 200 < _;omega,r.gd⟩
theorem gw.depth {k:Nat} {A:Around} (r:gw k A):A.depth < recursionLimit:=by have:=r.dp;omega
theorem gw.units {k:Nat} {A:Around} (r:gw k A):A.units + 64 < cLine:=by have:=r.un;omega
def yK:TA:=fun _ H Q=>Q [] H
def sI (ta:TE) (tr:TA):TA:=fun σ H Q=>ta σ H fun x H1=>tr σ H1 fun xs H2=>Q (x :: xs) H2
section
variable {X:Cx} {e:Expr} {es:List Expr} {te:TE} {t:TA} {pos:Pos}
theorem ax:PA X [] yK:=fun _ _ _ _ H Q I h=>Calls.spliced_nil ⟨[],H,I,.nil,h⟩
theorem ao (ha:PE X e te) (hr:PA X es t) (hs:starEach (e :: es) X.env=(false,eval e X.env) :: starEach es X.env:=by rfl):PA X (e :: es) (sI te t):=by
 intro pos pins s σ H Q I h
 rw [hs]
 show wpAny _ _ (spliced ((false,eval e X.env) :: backTo pos (starEach es X.env))) _ _ s
 refine Calls.spliced_cons (cy (ha pins s σ H _ I h) fun u s1 ⟨x,H1,I1,r1,q1⟩=>?_)
 exact cy (hr pos pins s1 σ H1 _ I1 q1) fun us s2 ⟨xs,H2,I2,r2,q2⟩=>⟨x :: xs,H2,I2,.cons r1 r2,q2⟩
def yL (t:TA):TE:=fun σ H Q=>t σ H fun xs H1=>xs.length<=sizeLine/\∀ p,H1 p=none->Q (.ref p) (upd H1 p (.tup xs))
def yM (t:TA):TE:=fun σ H Q=>t σ H fun xs H1=>xs.length<=sizeLine/\∀ p,H1 p=none->Q (.ref p) (upd H1 p (.lst xs))
theorem eB {x1} (h:PA X es t):PE X (.Tuple es x1 pos) (yL t):=by
 intro pins s σ H Q I hq
 refine wpAny_Tuple_spliced (cy (h pos pins s σ H _ I hq) fun us s1 ⟨xs,H1,I1,r,z,q⟩=>⟨by rw [<- r.length];exact z,?_⟩)
 have hf:H1 s1.heap.objs.size=none:=I1.hok.fresh (Nat.le_refl _)
 refine ⟨.ref s1.heap.objs.size,upd H1 s1.heap.objs.size (.tup xs),I1.laid (t':=s1.toks) (fun b u e=>Heap.get?_push_of_some _ e) (Nat.le_refl _) ?_,rfl,q _ hf⟩
 exact ⟨z,us,r,⟨_,Heap.get?_push_size _ rfl,rfl,rfl,_,rfl⟩⟩
theorem ml (h:PA X es t):PE X (.List es pos) (yM t):=by
 intro pins s σ H Q I hq
 refine wpAny_List_spliced (cy (h pos pins s σ H _ I hq) fun us s1 ⟨xs,H1,I1,r,z,q⟩=>⟨by rw [<- r.length];exact z,?_⟩)
 have hf:H1 s1.heap.objs.size=none:=I1.hok.fresh (Nat.le_refl _)
 refine ⟨.ref s1.heap.objs.size,upd H1 s1.heap.objs.size (.lst xs),I1.laid (t':=s1.toks) (fun b u e=>Heap.get?_push_of_some _ e) (Nat.le_refl _) ?_,rfl,q _ hf⟩
 exact ⟨z,us,0,r,Heap.get?_push_size _ rfl⟩
end
abbrev Sp:=List V->Hp->VK->XK->Prop
abbrev o5:=List Env->Hp->Shared->XK->Value->Shared->Prop
structure rA (P:Program) (w:World) (K:PySem.W.Frag) (mg:Str->Option Value) (base:Heap) (A:Around) (outer:List Env) (s:Shared) (H:Hp):Prop where
 frames:A.frames=some outer
 mod:Mod K mg base
 bs:∀ b o,base.get? b=some o->s.heap.get? b=some o/\H b=none
 su:base.objs.size<=s.heap.objs.size
 lI:s.heap.FunFrames base outer
 xw:∀ b∈frs outer,H b=none
 hok:j8 P w H s.heap
 bare:AllBare s.gens
def CE (outer:List Env) (P:Program) (w:World) (H:Hp) (s:Shared) (Q:VK) (u:Value) (s':Shared):Prop :=
 ∃ v H',s'.os=s.os/\AllBare s'.gens/\Un (frs outer) [] H H' s.heap s'.heap/\j8 P w H' s'.heap/\RelV v u/\Q v H'
def CR (CX:o5) (outer:List Env) (P:Program) (w:World) (H:Hp) (s:Shared) (Q:VK) (E:XK) (r:Result) (s':Shared):Prop :=
 match r with
 | .ok (.ret u)=>CE outer P w H s Q u s'
 | .ok _=>False
 | .error e=>CX outer H s E e s'
structure aD (P:Program) (w:World) (K:PySem.W.Frag) (mg:Str->Option Value) (base:Heap) (CX:o5) (k:Nat) (f:Addr) (fd:FuncData) (ps:List Str) (sp:Sp):Prop where
 len:∀ vs H Q E,sp vs H Q E->vs.length=ps.length
 run:∀ (A:Around) (outer:List Env) (s:Shared) (H:Hp) (args:Args) (us:List Value) (vs:List V) (Q:VK) (E:XK),gw k A->rA P w K mg base A outer s H->BindsTo s fd args (ps.zip us)->Vals vs us->sp vs H Q E ->
  codeAny (model P w) A (.call (.ref f) args) (CR CX outer P w H s Q E) s
theorem aD.imp {P:Program} {w:World} {K:PySem.W.Frag} {mg:Str->Option Value} {base:Heap} {CX:o5} {k:Nat} {f:Addr} {fd:FuncData} {ps:List Str} {sp HJ:Sp} (F:aD P w K mg base CX k f fd ps sp)
  (h:∀ vs H Q E,HJ vs H Q E->sp vs H Q E):aD P w K mg base CX k f fd ps HJ :=
 ⟨fun vs H Q E q=>F.len vs H Q E (h _ _ _ _ q),fun A outer s H args us vs Q E hr he hb hv hs=>F.run A outer s H args us vs Q E hr he hb hv (h _ _ _ _ hs)⟩
section
variable {X:Cx} {pins:List (Addr×Obj)} {σ:St} {H:Hp} {s s':Shared}
theorem Inv.E1 (I:Inv X pins σ H s):rA X.prog X.w X.K X.mg X.base X.A X.stack s H :=
 ⟨I.ok.frames,I.ok.mod,I.bs,Nat.le_trans I.ok.su I.sz,I.stack,I.oz,I.hok,I.bare⟩
theorem Inv.after {Q:VK} {u:Value} (I:Inv X pins σ H s) (h:CE X.stack X.prog X.w H s Q u s'):EP X pins σ Q u s':=by
 obtain ⟨v,H',os,bare,un,hok,r,q⟩:=h
 obtain ⟨hh,g,d,t,os'⟩:=s'
 obtain rfl:os'=s.os:=os
 exact ⟨v,H',I.call (h':=hh) (g':=g) (d':=d) (t':=t) (ch:=[]) un hok bare (fun b z=>absurd z (by simp)),r,q⟩
end
def sJ (sp:Sp) (sL:List V) (E:XK) (t:TA):TE:=fun σ H Q=>t σ H fun vs H1=>sp (vs ++ sL) H1 Q E
def Binds (K:PySem.W.Frag) (fd:FuncData) (ps:List Str) (ds:List Value):Prop :=
 ∀ (s:Shared) (us:List Value),K.In s.heap->(us ++ ds).length=ps.length->BindsTo s fd ⟨us,[]⟩ (ps.zip (us ++ ds))
theorem Binds.all {K:PySem.W.Frag} {fd:FuncData} {ps:List Str} (h:∀ us:List Value,us.length=ps.length->bindArgs fd ⟨us,[]⟩=pure (ps.zip us)):Binds K fd ps []:=fun s us _ hl=>by
 rw [List.append_nil] at hl ⊢
 exact .of_eq (h us hl)
def Passes (CX:o5) (X:Cx) (E:XK):Prop:=∀ (pins:List (Addr×Obj)) (σ:St) (H:Hp) (s:Shared) (e:Value) (s':Shared),Inv X pins σ H s->CX X.stack H s E e s'->X.xe e s'
section
variable {X:Cx} {CX:o5} {k:Nat} {f C:Addr} {fd:FuncData} {ps:List Str} {sp:Sp} {sL:List V} {ds:List Value} {E:XK} {x m:Str} {p pos apos:Pos} {e o:Expr} {es:List Expr} {ta:TE} {t:TA}
theorem uL {pins:List (Addr×Obj)} {σ:St} {H:Hp} {s:Shared} {Q:VK} {us:List Value} {vs:List V} (F:aD X.prog X.w X.K X.mg X.base CX k f fd ps sp) (hr:gw k X.A) (hb:Binds X.K fd ps ds) (hd:Vals sL ds) (hx:Passes CX X E)
  (I:Inv X pins σ H s) (r:Vals vs us) (h:sp (vs ++ sL) H Q E):wpAny (model X.prog X.w) X.A (call (.ref f) us) (EP X pins σ Q) X.xe s:=by
 have r2:Vals (vs ++ sL) (us ++ ds):=r.append hd
 have hl:(us ++ ds).length=ps.length:=by rw [<- r2.length];exact F.len _ _ _ _ h
 refine wpAny_call (codeAny_mono (F.run X.A X.stack s H ⟨us,[]⟩ (us ++ ds) (vs ++ sL) Q E hr I.E1 (hb s us I.Cf hl) r2 h) fun r s' hq=>?_)
 cases r with
 | error e=>exact hx pins σ H s e s' I hq
 | ok fl =>
  cases fl with
  | ret u=>exact I.after hq
  | next=>exact False.elim hq
  | brk=>exact False.elim hq
  | cont=>exact False.elim hq
theorem bY (F:aD X.prog X.w X.K X.mg X.base CX k f fd ps sp) (hr:gw k X.A) (hg:Gl X x) (hm:X.mg x=some (.ref f)) (hk:PySem.W.keepIn X.K (.ref f)=true) (hb:Binds X.K fd ps ds) (hd:Vals sL ds) (hx:Passes CX X E)
  (ha:PA X (e :: es) t) (hdb:(x == ("__debug__" : Str))=false:=by decide) (he:starEach (e :: es) X.env=(false,eval e X.env) :: starEach es X.env:=by rfl) (hpl:(backTo pos (starEach es X.env)).any (·.1)=false:=by rfl) :
  PE X (.Call (.Name x p) (e :: es) [] pos) (sJ sp sL E t):=by
 intro pins s σ H Q I h
 refine wpAny_Call_Name_kw (Hq I hg hm ?_ hdb)
 refine PySem.W.callWith_K (h₀:=X.base) I.ok.mod.EL hk (cy (ha pos pins s σ H _ I h) fun us s1 ⟨vs,H1,I1,r,q⟩=>⟨I1.Cf,?_⟩) he hpl
 exact uL F hr hb hd hx I1 r q
end
section
variable {X:Cx} {CX:o5} {k:Nat} {f C:Addr} {fd:FuncData} {ps ks:List Str} {sp:Sp} {E:XK} {x m:Str} {p pos apos kpos:Pos} {e o:Expr} {es:List Expr} {kws:List Keyword} {te ta:TE} {t tk:TA} {nm:Option Str}
variable {g:List Value->List Value->List Value} {gV:List V->List V->List V}
end
structure az (N P:List Str) (sc:Scope):Prop where
 kind:sc.kind=.function
 co:sc.isCoroutine=false
 gen:sc.isGenerator=false
 nd:N.Nodup
 pre:N.take P.length=P
 par:∀ x∈P,sc.names.lookup x=some .local\/sc.names.lookup x=some .cell
 uM:∀ y∈sc.names,y.2≠.free
theorem HK {kindOf:Str->Option NameKind} {x:Str}:∀ {binds:List (Str×Value)} {m:Str->Option Value},(∀ v,(x,v) ∉ binds)->bindL kindOf binds m x=m x
 | [],_,_=>rfl
 | (n,v) :: r,m,h=>by
  unfold bindL
  rw [HK fun w hw=>h w (List.mem_cons_of_mem _ hw)]
  split
  ·have:x≠n:=by rintro rfl;exact h v List.mem_cons_self
   simp [this]
  ·rfl
theorem HL {kindOf:Str->Option NameKind} {x:Str}:∀ {binds:List (Str×Value)} {m:Str->Option Value},(∀ v,(x,v) ∉ binds)->bindC kindOf binds m x=m x
 | [],_,_=>rfl
 | (n,v) :: r,m,h=>by
  unfold bindC
  rw [HL fun w hw=>h w (List.mem_cons_of_mem _ hw)]
  split
  ·rfl
  ·have:x≠n:=by rintro rfl;exact h v List.mem_cons_self
   simp [this]
theorem HM {kindOf:Str->Option NameKind} {x:Str} {v:Value}:∀ {P:List Str} {vs:List Value} {i:Nat} {m:Str->Option Value},P.Nodup->P[i]?=some x->vs[i]?=some v->kindOf x=some .local ->
  bindL kindOf (P.zip vs) m x=some v
 | [],_,_,_,_,h,_,_=>by simp at h
 | _ :: _,[],_,_,_,_,h,_=>by simp at h
 | p :: P,w :: vs,0,m,nd,h1,h2,hk=>by
  simp at h1 h2;subst h1;subst h2
  show bindL kindOf ((p,w) :: P.zip vs) m p=_
  unfold bindL
  rw [HK fun v hv=>(List.nodup_cons.mp nd).1 (List.of_mem_zip hv).1,if_pos hk]
  simp
 | p :: P,w :: vs,i + 1,m,nd,h1,h2,hk=>by
  show bindL kindOf ((p,w) :: P.zip vs) m x=_
  unfold bindL
  exact HM (i:=i) (List.nodup_cons.mp nd).2 (by simpa using h1) (by simpa using h2) hk
theorem HN {kindOf:Str->Option NameKind} {x:Str} {v:Value}:∀ {P:List Str} {vs:List Value} {i:Nat} {m:Str->Option Value},P.Nodup->P[i]?=some x->vs[i]?=some v->kindOf x≠some .local ->
  bindC kindOf (P.zip vs) m x=some v
 | [],_,_,_,_,h,_,_=>by simp at h
 | _ :: _,[],_,_,_,_,h,_=>by simp at h
 | p :: P,w :: vs,0,m,nd,h1,h2,hk=>by
  simp at h1 h2;subst h1;subst h2
  show bindC kindOf ((p,w) :: P.zip vs) m p=_
  unfold bindC
  rw [HL fun v hv=>(List.nodup_cons.mp nd).1 (List.of_mem_zip hv).1,if_neg hk]
  simp
 | p :: P,w :: vs,i + 1,m,nd,h1,h2,hk=>by
  show bindC kindOf ((p,w) :: P.zip vs) m x=_
  unfold bindC
  exact HN (i:=i) (List.nodup_cons.mp nd).2 (by simpa using h1) (by simpa using h2) hk
def start (N:List Str) (vs:List V):St:=vs.map some ++ List.replicate (N.length - vs.length) none
def gJ (CX:o5) (P:Program) (w:World) (K:PySem.W.Frag) (mg:Str->Option Value) (base:Heap) (N:List Str) (qual:Str) (scope:Scope) (f:Addr) (cd:Value) (A:Around) (outer:List Env) (s:Shared) (H:Hp) (E:XK):Cx where
 prog:=P
 w:=w
 K:=K
 mg:=mg
 base:=base
 A:=A.deeper (envOfC qual scope s.heap.objs.size f cd)
 N:=N
 s₀:=s
 H₀:=H
 env:=envOfC qual scope s.heap.objs.size f cd
 outer:=outer
 stack:=envOfC qual scope s.heap.objs.size f cd :: outer
 ex:=[]
 calm:=true
 fn:=fun _=>true
 pn:=[]
 xe:=fun e s'=>wpAny (model P w) (A.deeper (envOfC qual scope s.heap.objs.size f cd)) («leaving» (envOfC qual scope s.heap.objs.size f cd) e) (fun _ s''=>CX outer H s E e s'') (fun e' s''=>CX outer H s E e' s'') s'
theorem HP {sc:Scope} {n:Nat} {x:Str} (h:sc.names.lookup x=some .cell):∃ c,(cellsFrom n sc.names []).lookup x=some c:=by
 have q:=PySem.W.cellsFrom_some sc.names n [] (.inl h)
 exact Option.isSome_iff_exists.mp q
theorem LQ {CX:o5} {P:Program} {w:World} {K:PySem.W.Frag} {mg:Str->Option Value} {base:Heap} {N ps:List Str} {qual:Str} {scope:Scope} {f:Addr} {cd:Value} {A:Around} {outer:List Env} {s s1:Shared} {H:Hp} {E:XK} {us:List Value} {vs:List V}
  (S:az N ps scope) (hd:A.handled=none) (e0:rA P w K mg base A outer s H) (hl:vs.length=ps.length) (r:Vals vs us)
  (x:InCallC s s.heap.objs.size (bindL (envOfC qual scope s.heap.objs.size f cd).kindOf (ps.zip us) fun _=>none) (cellsFrom (s.heap.objs.size + 1) scope.names []) (bindC (envOfC qual scope s.heap.objs.size f cd).kindOf (ps.zip us) fun _=>none) s1) :
  Inv (gJ CX P w K mg base N qual scope f cd A outer s H E) [] (start N vs) H s1:=by
 have hpl:ps.length<=N.length:=by have:=congrArg List.length S.pre;rw [List.length_take] at this;omega
 obtain ⟨h1,tk,rfl,hk⟩:=x.done
 have yN:∀ b:Addr,b ∉ (gJ CX P w K mg base N qual scope f cd A outer s H E).ex:=fun b z=>absurd (show b∈([]:List Addr) from z) (by simp)
 refine ⟨⟨e0.mod,S.kind,rfl,rfl,Nat.le_refl _,fun y z c h1 h2=>?_,fun y hy=>?_,fun y c _ h=>?_,fun _=>hd,Around.frames_deeper e0.frames,.inr ⟨rfl,rfl⟩,fun b z=>absurd z (yN b),e0.bs,e0.su,fun b _ _=>yN b,fun b z=>absurd z (yN b),e0.lI,e0.xw⟩,
  rfl,e0.bare,Un.kept hk,⟨_,x.toInCall.ns,fun i y v h1 h2 h3=>?_⟩,fun y c h=>⟨_,x.cell y c h⟩,e0.hok.fresh (Nat.le_refl _),fun y c h=>?_,fun p hp=>absurd (show p∈([]:List (Addr×Obj)) from hp) (by simp),e0.hok.kept hk,?_⟩
 ·exact name_of_addr x.apart (PySem.mem_of_lookup h1) (PySem.mem_of_lookup h2)
 ·have hy:scope.names.lookup y=some .cell\/scope.names.lookup y=some .free:=hy
  rcases hy with hy | hy
  ·exact HP hy
  ·exact absurd rfl (S.uM _ (PySem.mem_of_lookup hy))
 ·exact Nat.le_of_lt (x.above y c (PySem.mem_of_lookup h))
 ·have hi:i < vs.length:=by
   unfold start at h2
   by_cases hi:i < vs.length
   ·exact hi
   ·rw [List.getElem?_append_right (by simpa using hi)] at h2
    rw [List.getElem?_replicate] at h2
    split at h2 <;> cases h2
  have ha:vs[i]?=some v:=by
   unfold start at h2
   rw [List.getElem?_append_left (by simpa using hi),List.getElem?_map] at h2
   cases e:vs[i]? with
   | none=>rw [e] at h2;cases h2
   | some a=>rw [e] at h2;cases h2;rfl
  obtain ⟨u,hu,rv⟩:=r.get ha
  have hp:ps[i]?=some y:=by
   rw [<- S.pre,List.getElem?_take_of_lt (by omega)];exact h1
  have HQ:ps.Nodup:=by rw [<- S.pre];exact S.nd.sublist (List.take_sublist _ _)
  refine ⟨u,rv,?_⟩
  rcases S.par y (List.mem_of_getElem? hp) with k | k
  ·exact .inl ⟨k,HM HQ hp hu k⟩
  ·obtain ⟨c,e⟩:=HP (n:=s.heap.objs.size + 1) k
   refine .inr ⟨.inl k,c,e,?_⟩
   have q:=x.cell y c e
   rw [HN HQ hp hu (by show scope.names.lookup y≠_;rw [k];decide)] at q
   exact q
 ·exact e0.hok.fresh (Nat.le_of_lt (x.above y c (PySem.mem_of_lookup h)))
 ·unfold start
  show _=N.length
  rw [List.length_append,List.length_map,List.length_replicate]
  omega
theorem yO {CX:o5} {P:Program} {w:World} {K:PySem.W.Frag} {mg:Str->Option Value} {base:Heap} {k:Nat} {f:Addr} {name qual:Str} {params:Arguments} {body:List Stmt} {scope:Scope} {dV kV doc pm cdv ct oc:Value} {an od:Option Addr}
  {osl:Array (Option Value)} {N ps:List Str} {sp:Sp} (lk:K.lookup f=some ⟨oc,od,.func (PySem.W.fnOf name qual params body scope dV kV doc pm an cdv ct),osl⟩) (hcd:PySem.W.codeIn K cdv qual=true) (S:az N ps scope)
  (len:∀ vs H Q E,sp vs H Q E->vs.length=ps.length)
  (hbody:∀ (A:Around) (outer:List Env) (s:Shared) (H:Hp) (vs:List V) (Q:VK) (E:XK),gw k (A.deeper (envOfC qual scope s.heap.objs.size f cdv))->sp vs H Q E ->
   ∃ t,oZ (gJ CX P w K mg base N qual scope f cdv A outer s H E) body t/\t { nx:=fun _ H'=>Q .non H',rt:=Q } (start N vs) H) :
  aD P w K mg base CX (k + 1) f (PySem.W.fnOf name qual params body scope dV kV doc pm an cdv ct) ps sp:=by
 refine ⟨len,fun A outer s H args us vs Q E hr e0 hb r qM=>?_⟩
 have hl:=len _ _ _ _ qM
 have KX:K.In s.heap:=e0.mod.EL.keeps fun b o e=>(e0.bs b o e).1
 have lim:s.heap.NoLimit:=e0.mod.nolimit.keeps fun b o e=>(e0.bs b o e).1
 have hkind:∀ y∈ps.zip us,scope.names.lookup y.1=some .local\/(scope.names.lookup y.1=some .cell/\((cellsFrom (s.heap.objs.size + 1) scope.names []).lookup y.1).isSome=true):=fun ⟨n,v⟩ hy=>by
  rcases S.par n (List.of_mem_zip hy).1 with q | q
  ·exact .inl q
  ·exact .inr ⟨q,PySem.W.cellsFrom_some _ _ _ (.inl q)⟩
 refine codeAny_call_function hr.depth (KX _ _ lk) rfl S.co S.gen rfl (PySem.W.codeRec_of KX hcd) (hb _ _ _ _ ?_)
 refine wpAny_newFunctionEnv_cells S.kind hkind fun env he s1 x=>?_
 subst he
 refine ⟨lim.keeps x.toInCall.keep,codeAny_func ?_⟩
 obtain ⟨t,ht,hq⟩:=hbody A outer s H vs Q E (hr.deeper _) qM
 have I:Inv (gJ CX P w K mg base N qual scope f cdv A outer s H E) [] (start N vs) H s1:=LQ S hr.hd e0 hl r x
 refine wpAny_mono (ht [] s1 (start N vs) H _ I hq) (fun fl s' hs=>?_) fun e s' hs=>hs
 have fin:∀ {σ':St} {H':Hp} {v:V} {u:Value},Inv (gJ CX P w K mg base N qual scope f cdv A outer s H E) [] σ' H' s'->RelV v u->Q v H'->CE outer P w H s Q u s' :=
  fun {σ' H' v u} J rv q=>⟨v,H',J.os,J.bare,J.base,J.hok,rv,q⟩
 cases fl with
 | ret u =>
  obtain ⟨v,σ',H',J,rv,q⟩:=hs
  exact fin J rv q
 | next =>
  obtain ⟨σ',H',J,q⟩:=hs
  exact fin (v:=V.non) (u:=Value.none) J rfl q
 | brk =>
  obtain ⟨_,_,_,q⟩:=hs
  exact False.elim q
 | cont =>
  obtain ⟨_,_,_,q⟩:=hs
  exact False.elim q
end L2
namespace L2
open PySem PySem.Spec PyProof.Rows
section
variable {X:Cx} {x:Str} {p pos:Pos} {e:Expr} {es:List Expr} {t:TA} {id T:String} {r:List V->Hp->VK->Prop}
def E2 (r:List V->Hp->VK->Prop) (t:TA):TE:=fun σ H Q=>t σ H fun vs H1=>r vs H1 Q
theorem j5 (hc:e7 X (.builtin id) r) (hg:Gl X x) (hm:X.mg x=none) (hv:bootBuiltins x=some (.builtin id)) (ha:PA X (e :: es) t) (hn:x≠"__name__" := by decide) (hdb:(x == ("__debug__" : Str))=false:=by decide)
  (he:starEach (e :: es) X.env=(false,eval e X.env) :: starEach es X.env:=by rfl) (hpl:(backTo pos (starEach es X.env)).any (·.1)=false:=by rfl):PE X (.Call (.Name x p) (e :: es) [] pos) (E2 r t):=by
 intro pins s σ H Q I h
 refine wpAny_Call_Name_kw (yr I hg hm hv ?_ hn hdb)
 exact PyProof.Rows.callWith_builtin1 (cy (ha pos pins s σ H _ I h) fun us s1 ⟨vs,H1,I1,r1,q1⟩=>hc pins s1 σ H1 vs us Q I1 r1 q1) he hpl
theorem fI (hc:e7 X (.type T) r) (hg:Gl X x) (hm:X.mg x=none) (hv:bootBuiltins x=some (.type T)) (ha:PA X (e :: es) t) (hn:x≠"__name__" := by decide) (hdb:(x == ("__debug__" : Str))=false:=by decide)
  (he:starEach (e :: es) X.env=(false,eval e X.env) :: starEach es X.env:=by rfl) (hpl:(backTo pos (starEach es X.env)).any (·.1)=false:=by rfl):PE X (.Call (.Name x p) (e :: es) [] pos) (E2 r t):=by
 intro pins s σ H Q I h
 refine wpAny_Call_Name_kw (yr I hg hm hv ?_ hn hdb)
 exact PyProof.Rows.callWith_type1 (cy (ha pos pins s σ H _ I h) fun us s1 ⟨vs,H1,I1,r1,q1⟩=>hc pins s1 σ H1 vs us Q I1 r1 q1) he hpl
end
end L2
namespace HT
open PySem PyProof.Rows
theorem LR (A:Around) (s:Shared) (a:Int) (t:Tok) (c:Int) (u:Tok):∃ e,SeqAt.EqAt A s (.int a t) (.int c u) e/\(e=true↔a=c) :=
 ⟨(a == c),SeqAt.EqAt.int_int a t c u,by simp⟩
section
open PySem.SeqAt
open PySem.AutoSeq1 (wpAny_loadPart')
open PySem.MeetsSeq PySem.MeetsSeq2 PySem.MeetsSeq3
end
section
variable {prog:Program} {w:World} {A:Around} {E:Value->Shared->Prop} {s:Shared}
theorem LS {t b:Addr} {vs ws:List Value} {Q:Value->Shared->Prop} (ht:IsTup s.heap t vs.toArray) (hb:IsTup s.heap b ws.toArray) (hv:vs≠[])
  (h1:ws=[]->Q (.ref t) s) (h2:ws≠[]->Q (.ref s.heap.objs.size) { s with heap:=s.heap.push { cls:=.type "tuple",data:=.seq (vs ++ ws).toArray } })
  (hsz:vs.length + ws.length<=sizeLine):wpAny (model prog w) A (binaryOp .Add (.ref t) (.ref b)) Q E s:=by
 obtain ⟨⟨cls,dd,data,sl⟩,ho,hc,n,hd⟩:=id ht
 obtain ⟨⟨E3,dd2,data2,sl2⟩,ho2,hc2,n2,hd2⟩:=id hb
 simp only at hc hd hc2 hd2
 subst hc hd hc2 hd2
 have e:vs.toArray ++ ws.toArray=(vs ++ ws).toArray:=by simp
 by_cases hw:ws=[]
 ·exact concat_meets ⟨_,ho,rfl⟩ ⟨_,ho2,rfl⟩ noFill_tuple_add seq_tuple_add PySem.F.slot_tuple_add PySem.F.entry_tuple_add (PySem.F.args_tuple_add_2 _ _)
   (tuple_addW1 t b vs.toArray ws.toArray n n2 dd dd2 sl sl2 (by simpa using hv) (by simp [hw])) ⟨ho,ho2,h1 hw⟩
 ·refine concat_meets ⟨_,ho,rfl⟩ ⟨_,ho2,rfl⟩ noFill_tuple_add seq_tuple_add PySem.F.slot_tuple_add PySem.F.entry_tuple_add (PySem.F.args_tuple_add_2 _ _)
   (tuple_addW2 t b vs.toArray ws.toArray n n2 dd dd2 sl sl2 (by simpa using hv) (by simpa using hw) (by rw [List.size_toArray,List.size_toArray];exact hsz)) ⟨ho,ho2,?_⟩
  rw [e]
  exact h2 hw
def cD (n d:Nat):Option Int->Nat
 | none=>d
 | some v=>if v < 0 then (v + (n:Int)).toNat else min v.toNat n
theorem HR (n d:Nat):cD n d none=d:=rfl
theorem HS (n d k:Nat):cD n d (some (k:Int))=min k n:=by
 show (if (k:Int) < 0 then ((k:Int) + (n:Int)).toNat else min (k:Int).toNat n)=min k n
 rw [if_neg (by omega),Int.toNat_natCast]
theorem uN (n d:Nat) (hd:d<=n) (o:Option Int):cD n d o<=n:=by
 cases o with
 | none=>exact hd
 | some v =>
  show (if v < 0 then (v + (n:Int)).toNat else min v.toNat n)<=n
  by_cases hv:v < 0
  ·rw [if_pos hv];omega
  ·rw [if_neg hv];exact Nat.min_le_right _ _
theorem HU (v:Int) (n d:Nat):(if v < 0 then max (v + (n:Int)) 0 else min v (n:Int))=((cD n d (some v):Nat):Int):=by
 show (if v < 0 then max (v + (n:Int)) 0 else min v (n:Int))=(((if v < 0 then (v + (n:Int)).toNat else min v.toNat n):Nat):Int)
 by_cases hv:v < 0
 ·simp only [if_pos hv];omega
 ·simp only [if_neg hv];omega
theorem LU (lo hi:Option Int) (n:Nat):Builtin.Slice.sliceAdjust lo hi 1 (n:Int)=(((cD n 0 lo:Nat):Int),((cD n n hi:Nat):Int)):=by
 have h1:¬ ((1:Int) < 0):=by omega
 unfold Builtin.Slice.sliceAdjust
 simp only [h1,if_false]
 refine Prod.ext ?_ ?_
 ·cases lo with
  | none=>rfl
  | some v=>exact HU v n 0
 ·cases hi with
  | none=>rfl
  | some v=>exact HU v n n
theorem LV (i j:Nat):Builtin.Slice.slicePlaces (i:Int) (j:Int) 1=j - i:=by
 unfold Builtin.Slice.slicePlaces
 have h1:(1:Int) > 0:=by omega
 simp only [h1,if_true,Int.ediv_one]
 split <;> omega
theorem HV {v:Value} {o:Option Int} {Q:Option Int->Shared->Prop} (p:IsPart v o) (h:Q o s):wpAny (model prog w) A (Builtin.Slice.slicePartIndex v) Q E s:=by
 cases p with
 | none=>exact slicePart_none h
 | int i t=>exact slicePart_int h
theorem HW {sl:Addr} {vl vu:Value} {lo hi:Option Int} {n:Nat} {Q:Int×Int×Nat->Shared->Prop} (hs:s.heap.IsSliceOf sl vl vu .none) (pl:IsPart vl lo) (pu:IsPart vu hi)
  (h:Q (((cD n 0 lo:Nat):Int),1,cD n n hi - cD n 0 lo) s):wpAny (model prog w) A (Builtin.Slice.sliceApplied (.ref sl) (pure (n:Int))) Q E s:=by
 obtain ⟨os,hos,hcs,hds⟩:=id hs
 unfold Builtin.Slice.sliceApplied Builtin.Slice.sliceFields
 refine wpAny_bind (wpAny_bind (wpAny_field hos hds (x:=vl) rfl (wpAny_bind (wpAny_field hos hds (x:=vu) rfl (wpAny_bind (wpAny_field hos hds (x:=.none) rfl (wpAny_pure ?_)))))))
 refine wpAny_bind (slicePart_none ?_)
 show wpAny _ _ (if ((1:Int) == 0)=true then _ else _) _ _ s
 rw [if_neg (by decide)]
 refine wpAny_bind (HV pl (wpAny_bind (HV pu (wpAny_bind (wpAny_pure ?_)))))
 show wpAny _ _ (match Builtin.Slice.sliceAdjust lo hi 1 (n:Int) with | (lo,hi)=>pure (lo,(1:Int),Builtin.Slice.slicePlaces lo hi 1)) _ _ s
 rw [LU lo hi n]
 show wpAny _ _ (pure (((cD n 0 lo:Nat):Int),(1:Int),Builtin.Slice.slicePlaces ((cD n 0 lo:Nat):Int) ((cD n n hi:Nat):Int) 1)) _ _ s
 rw [LV]
 exact wpAny_pure h
theorem LW (xs:Array Value) (i k:Nat):((List.range k).filterMap fun (m:Nat)=>xs[((i:Int) + (m:Int) * 1).toNat]?).toArray=((xs.toList.drop i).take k).toArray:=by
 have e:(fun (m:Nat)=>xs[((i:Int) + (m:Int) * 1).toNat]?)=fun m=>xs[i + m]?:=by
  funext m
  have:((i:Int) + (m:Int) * 1).toNat=i + m:=by omega
  rw [this]
 rw [e]
 have:=pick_run xs i k
 rw [List.filterMap_map] at this
 have e2:((fun x=>xs[x]?) ∘ fun x=>i + x)=fun m=>xs[i + m]?:=rfl
 rw [e2] at this
 rw [this]
theorem LX {t sl:Addr} {items:Array Value} {vl vu:Value} {lo hi:Option Int} {Q:Value->Shared->Prop} (ht:IsTup s.heap t items) (hs:s.heap.IsSliceOf sl vl vu .none) (pl:IsPart vl lo) (pu:IsPart vu hi)
  (hw:¬ (cD items.size 0 lo=0/\cD items.size items.size hi=items.size))
  (h:Q (.ref s.heap.objs.size) { s with heap:=s.heap.push { cls:=.type "tuple",data:=.seq ((items.toList.drop (cD items.size 0 lo)).take (cD items.size items.size hi - cD items.size 0 lo)).toArray } })
  (hsz:items.size<=sizeLine):wpAny (model prog w) A (getItem (.ref t) (.ref sl)) Q E s:=by
 have oA:sizeOk (.seq ((items.toList.drop (cD items.size 0 lo)).take (cD items.size items.size hi - cD items.size 0 lo)).toArray):=by
  show ((items.toList.drop (cD items.size 0 lo)).take (cD items.size items.size hi - cD items.size 0 lo)).toArray.size<=sizeLine
  rw [List.size_toArray,List.length_take,List.length_drop,Array.length_toList]
  omega
 have hj:cD items.size items.size hi<=items.size:=uN _ _ (Nat.le_refl _) hi
 obtain ⟨os,hos,hcs,hds⟩:=id hs
 have E4:s.TypeIs (.ref sl) "slice" := ⟨os,hos,hcs⟩
 unfold getItem
 try with_reducible refine wpAny_holding ?_
 first | refine wpAny_bind (wpAny_pure ?_) | skip
 refine wpAny_bind (wpAny_sequenceKey ht.typeIs (by decide) ?_)
 refine wpAny_bind (wpAny_callSpecial?_slot (name:=Str.ofString "__getitem__") ht.typeIs PyProof.Rows.slot_tuple_getitem
  (wpAny_call_entry PyProof.Rows.slot_tuple_getitem ht.typeIs entry_tuple_getitem ?_ (args_tuple_getitem _ _)))
 show wpAny _ _ (Builtin.Tuple.tupleItemsOf (.ref t) >>= _) _ _ s
 refine wpAny_bind (tupleItemsOf_ ht ?_)
 refine wpAny_bind (wpAny_typeOf E4 ?_)
 rw [if_pos (by decide)]
 refine wpAny_bind (HW hs pl pu ?_)
 have hno:¬ ((((cD items.size 0 lo:Nat):Int) == 0 && (1:Int) == 1 && (cD items.size items.size hi - cD items.size 0 lo) == items.size)=true):=by
  intro q
  rw [Bool.and_eq_true,Bool.and_eq_true] at q
  have q1:((cD items.size 0 lo:Nat):Int)=0:=eq_of_beq q.1.1
  have q2:cD items.size items.size hi - cD items.size 0 lo=items.size:=eq_of_beq q.2
  exact hw ⟨by omega,by omega⟩
 show wpAny _ _ (if (((cD items.size 0 lo:Nat):Int) == 0 && (1:Int) == 1 && (cD items.size items.size hi - cD items.size 0 lo) == items.size)=true then _ else _) _ _ s
 rw [if_neg hno,LW]
 first
  | exact wpAny_bind (m:=Builtin.Tuple.tupleExact _) (wpAny_newObj_type (wpAny_pure ⟨_,rfl,wpAny_pure h⟩) oA)
  | exact wpAny_bind (m:=Builtin.Tuple.tupleExact _) (wpAny_newObj_type (wpAny_bind (wpAny_pure (wpAny_pure ⟨_,rfl,wpAny_pure h⟩))) oA)
  | exact wpAny_bind (wpAny_bind (m:=Builtin.Tuple.tupleExact _) (wpAny_newObj_type (wpAny_pure (wpAny_pure ⟨_,rfl,wpAny_pure h⟩)) oA))
  | exact wpAny_bind (wpAny_bind (m:=Builtin.Tuple.tupleExact _) (wpAny_newObj_type (wpAny_pure ⟨_,rfl,wpAny_pure h⟩) oA))
end
end HT
namespace L2
open PySem PySem.Spec PyProof.Rows
abbrev TO:=St->Hp->(Option Int->Hp->Prop)->Prop
def PO (X:Cx) (e:Option Expr) (t:TO):Prop :=
 ∀ (pins:List (Addr×Obj)) (s:Shared) (σ:St) (H:Hp) (Q:Option Int->Hp->Prop),Inv X pins σ H s->t σ H Q ->
  wpAny (model X.prog X.w) X.A (evalPart e X.env) (fun u s'=>∃ o H',Inv X pins σ H' s'/\IsPart u o/\Q o H') X.xe s
def oB:TO:=fun _ H Q=>Q none H
def sM (t:TE):TO:=fun σ H Q=>t σ H fun x H1=>∃ i,x=.int i/\Q (some i) H1
theorem HX {ns:List Int}:∀ {us:List Value},Vals (ns.map V.int) us->IntsAre us ns:=by
 induction ns with
 | nil=>intro us r;rw [List.map_nil] at r;cases r;exact .nil
 | cons n ns ih =>
  intro us r
  rw [List.map_cons] at r
  cases r with
  | cons r1 r2 =>
   obtain ⟨t,e⟩:=r1
   subst e
   exact .cons n t (ih r2)
section
variable {X:Cx} {e:Expr} {te:TE} {lo hi:Option Expr} {tl th:TO} {pos p2:Pos}
theorem Ct:PO X none oB:=by
 intro pins s σ H Q I h
 rw [evalPart_none]
 exact wpAny_pure ⟨none,H,I,.none,h⟩
theorem Cu (h:PE X e te):PO X (some e) (sM te):=by
 intro pins s σ H Q I hw
 rw [evalPart_some]
 refine cy (h pins s σ H _ I hw) fun u s1 ⟨x,H1,I1,r1,q1⟩=>?_
 obtain ⟨i,rfl,q⟩:=q1
 obtain ⟨t,rfl⟩:=r1
 exact ⟨some i,H1,I1,.int i t,q⟩
def Cv (X:Cx) (r:V->Option Int->Option Int->Hp->VK->Prop):Prop :=
 ∀ (pins:List (Addr×Obj)) (s:Shared) (σ:St) (H:Hp) (x:V) (v vl vu:Value) (lo hi:Option Int) (sl:Addr) (Q:VK),Inv X pins σ H s->RelV x v->s.heap.IsSliceOf sl vl vu .none->IsPart vl lo->IsPart vu hi->r x lo hi H Q ->
  ∃ T id,typeLookup (.type T) "__getitem__" = pure (some (.builtin id))/\s.TypeIs v T/\wpAny (model X.prog X.w) X.A (getItem v (.ref sl)) (EP X pins σ Q) X.xe s
def HY (r:V->Option Int->Option Int->Hp->VK->Prop) (te:TE) (tl th:TO):TE:=fun σ H Q=>te σ H fun x H1=>tl σ H1 fun l H2=>th σ H2 fun u H3=>r x l u H3 Q
theorem Cw {r:V->Option Int->Option Int->Hp->VK->Prop} (hr:Cv X r) (he:PE X e te) (hl:PO X lo tl) (hu:PO X hi th):PE X (.Subscript e (.Slice lo hi none p2) pos) (HY r te tl th):=by
 intro pins s σ H Q I h
 refine Subscript_ (cy (he pins s σ H _ I h) fun v s1 ⟨x,H1,I1,r1,q1⟩=>?_)
 refine wpAny_Slice (cy (hl pins s1 σ H1 _ I1 q1) fun vl s2 ⟨l,H2,I2,pl,q2⟩=>cy (hu pins s2 σ H2 _ I2 q2) fun vu s3 ⟨u,H3,I3,pu,q3⟩=>?_)
 rw [evalPart_none]
 refine wpAny_pure ?_
 have I4:Inv X pins σ H3 { s3 with heap:=s3.heap.push { cls:=.type "slice",data:=.fields #[vl,vu,.none] } }:=I3.kept (t':=s3.toks) fun b ob q=>Heap.get?_push_of_some _ q
 obtain ⟨T,id,hT,ht,hg⟩:=hr pins { s3 with heap:=s3.heap.push { cls:=.type "slice",data:=.fields #[vl,vu,.none] } } σ H3 x v vl vu l u s3.heap.objs.size Q I4 r1 (Heap.IsSliceOf.new ..) pl pu q3
 show wpAny (model X.prog X.w) X.A (subscriptTail e (.Slice lo hi none p2) v (.ref s3.heap.objs.size)) (EP X pins σ Q) X.xe { s3 with heap:=s3.heap.push { cls:=.type "slice",data:=.fields #[vl,vu,.none] } }
 exact tail_any (ops:=[.ref s3.heap.objs.size,v]) ht hT hg (by with_unfolding_all rfl)
def lM (xs:List V) (lo hi:Option Int):List V:=(xs.drop (HT.cD xs.length 0 lo)).take (HT.cD xs.length xs.length hi - HT.cD xs.length 0 lo)
theorem HZ (xs:List V) (lo hi:Option Int):(lM xs lo hi).length<=xs.length:=by
 unfold lM
 rw [List.length_take,List.length_drop]
 omega
def E5 (K:PySem.W.Frag):V->Option Int->Option Int->Hp->VK->Prop:=fun x lo hi H Q=>∃ a xs,x=.ref a/\d9 K H a xs /\
 ¬ (HT.cD xs.length 0 lo=0/\HT.cD xs.length xs.length hi=xs.length)/\∀ p,H p=none->Q (.ref p) (upd H p (.tup (lM xs lo hi)))
theorem uO:Cv X (E5 X.K):=by
 intro pins s σ H x v vl vu lo hi sl Q I rx hs pl pu h
 obtain ⟨a,xs,rfl,hx,hw,q⟩:=h
 cases rx
 obtain ⟨its,r,ht,hz⟩:=I.tuple hx
 have hlen:its.toArray.size=xs.length:=by rw [List.size_toArray];exact r.length.symm
 refine ⟨"tuple",_,PyProof.Rows.slot_tuple_getitem.lookup,ht.typeIs,?_⟩
 refine HT.LX ht hs pl pu (by rw [hlen];exact hw) ?_ (by rw [hlen];exact hz)
 rw [hlen]
 refine ⟨.ref s.heap.objs.size,_,I.laid (t':=s.toks) (o:=.tup (lM xs lo hi)) (fun b ob q=>Heap.get?_push_of_some _ q) (Nat.le_refl _) ?_,rfl,q _ (I.hok.fresh (Nat.le_refl _))⟩
 exact ⟨Nat.le_trans (HZ xs lo hi) hz,_,(r.drop (HT.cD xs.length 0 lo)).take (HT.cD xs.length xs.length hi - HT.cD xs.length 0 lo),lH.new _ _⟩
def yP (K:PySem.W.Frag):R2:=fun x y H Q=>∃ a b xs ys,x=.ref a/\y=.ref b/\d9 K H a xs/\d9 K H b ys/\xs≠[]/\xs.length + ys.length<=sizeLine /\
 (ys=[]->Q (.ref a) H)/\(ys≠[]->∀ p,H p=none->Q (.ref p) (upd H p (.tup (xs ++ ys))))
theorem Vals.ka {xs:List V} {us:List Value} (r:Vals xs us):us=[]↔xs=[]:=by
 cases r with
 | nil=>simp
 | cons _ _=>simp
theorem LY:kq X (binaryOp .Add) (yP X.K):=by
 intro pins s σ H x y v u Q I rx ry h
 obtain ⟨a,b,xs,ys,rfl,rfl,ha,hb,hx,hz,q1,q2⟩:=h
 cases rx
 cases ry
 obtain ⟨its,r1,p1,_⟩:=I.tuple ha
 obtain ⟨its2,r2,p2,_⟩:=I.tuple hb
 refine HT.LS p1 p2 (fun z=>hx (r1.ka.mp z)) (fun z=>⟨.ref a,H,I,rfl,q1 (r2.ka.mp z)⟩) (fun z=>?_) (by rw [<- r1.length,<- r2.length];exact hz)
 refine ⟨.ref s.heap.objs.size,_,I.laid (t':=s.toks) (o:=.tup (xs ++ ys)) (fun b ob q=>Heap.get?_push_of_some _ q) (Nat.le_refl _) ?_,rfl,q2 (fun w=>z (r2.ka.mpr w)) _ (I.hok.fresh (Nat.le_refl _))⟩
 exact ⟨by rw [List.length_append];exact hz,_,r1.append r2,lH.new _ _⟩
end
end L2
namespace L2
open PySem PySem.Spec PyProof.Rows
def kX (n:Nat) (i:Int):Option Nat:=if 0<=i then (if i < n then some i.toNat else none) else if -(n:Int)<=i then some (i + n).toNat else none
def gK {α:Type} (xs:List α) (i:Int):Option α:=(kX xs.length i).bind fun j=>xs[j]?
theorem E6 {n:Nat} {i:Int} {j:Nat} (h:kX n i=some j):seqIndex? i n=some j/\j < n/\-(n:Int)<=i/\i < n:=by
 unfold kX at h
 by_cases h0:0<=i
 ·rw [if_pos h0] at h
  by_cases h1:i < n
  ·rw [if_pos h1] at h
   have e:i.toNat=j:=Option.some.inj h
   exact ⟨by rw [seqIndex_of h0 h1,e],by omega,by omega,h1⟩
  ·rw [if_neg h1] at h;cases h
 ·rw [if_neg h0] at h
  by_cases h1:-(n:Int)<=i
  ·rw [if_pos h1] at h
   have e:(i + n).toNat=j:=Option.some.inj h
   exact ⟨by rw [seqIndex_neg (by omega) h1,e],by omega,h1,by omega⟩
  ·rw [if_neg h1] at h;cases h
theorem Ic {α:Type} {xs:List α} {i:Int} {v:α} (h:gK xs i=some v):∃ j,seqIndex? i xs.length=some j/\xs[j]?=some v/\j < xs.length/\-(xs.length:Int)<=i/\i < xs.length:=by
 unfold gK at h
 cases e:kX xs.length i with
 | none=>rw [e] at h;cases h
 | some j =>
  rw [e] at h
  obtain ⟨h1,h2,h3,h4⟩:=E6 e
  exact ⟨j,h1,h,h2,h3,h4⟩
theorem xC {α:Type} {xs:List α} {j:Nat} {v:α} (h:xs[j]?=some v):gK xs (j:Int)=some v:=by
 have hj:j < xs.length:=(List.getElem?_eq_some_iff.mp h).1
 have e:kX xs.length (j:Int)=some j:=by
  unfold kX
  rw [if_pos (by omega),if_pos (by omega)];simp
 unfold gK;rw [e];exact h
def rB (b:Expr):Prop:=∀ o i,subscripted b false o i=operate [o,i] (getItem o i)
def Cy (X:Cx) (r:R2):Prop :=
 ∀ (value slice:Expr) (pins:List (Addr×Obj)) (s:Shared) (σ:St) (H:Hp) (x y:V) (v u:Value) (Q:VK),Inv X pins σ H s->RelV x v->RelV y u->r x y H Q ->
  subscripted slice false v u=operate [v,u] (getItem v u)->wpAny (model X.prog X.w) X.A (subscriptTail value slice v u) (EP X pins σ Q) X.xe s
def xD (X:Cx) (id:String) (r:V->List V->Hp->VK->Prop):Prop :=
 ∀ (pins:List (Addr×Obj)) (s:Shared) (σ:St) (H:Hp) (x:V) (xs:List V) (v:Value) (us:List Value) (Q:VK),Inv X pins σ H s->RelV x v->Vals xs us->r x xs H Q ->
  wpAny (model X.prog X.w) X.A (call (.builtin id) (v :: us)) (EP X pins σ Q) X.xe s
section
variable {X:Cx} {a b:Expr} {ta tb:TE} {pos:Pos}
theorem bE {r:R2} (hr:Cy X r) (ha:PE X a ta) (hb:PE X b tb) (hs:rB b):PE X (.Subscript a b pos) (yF r ta tb):=by
 intro pins s σ H Q I h
 exact Subscript_ (uJ ha hb I h fun v u s2 x y H2 I2 rx ry q=>hr a b pins s2 σ H2 x y v u Q I2 rx ry q (hs _ _))
def yQ (K:PySem.W.Frag):R2:=fun x y H Q=>∃ p xs i v,x=.ref p/\y=.int i/\jf K H p xs/\gK xs i=some v/\Q v H
def uP (K:PySem.W.Frag):R2:=fun x y H Q=>∃ p xs i v,x=.ref p/\y=.int i/\d9 K H p xs/\gK xs i=some v/\Q v H
theorem mB:Cy X (yQ X.K):=by
 intro value slice pins s σ H x y v u Q I rx ry h hs
 obtain ⟨p,xs,i,z,rfl,rfl,hq,he,q⟩:=h
 cases rx
 obtain ⟨t,rfl⟩:=ry
 obtain ⟨its,r,pl,hz⟩:=I.list hq
 obtain ⟨j,h1,h2,h3,h4,h5⟩:=Ic he
 obtain ⟨w,ew,rw'⟩:=r.get h2
 have hl:=r.length
 have hn:=kD
 have fin:EP X pins σ Q w s:=⟨z,H,I,rw',q⟩
 by_cases h0:0<=i
 ·have hj:i.toNat=j:=by
   rw [seqIndex_of h0 h5] at h1
   exact Option.some.inj h1
  exact item_listR pl.isList h0 (by omega) (by rw [hj];simpa using ew) fin hs
 ·have hj:(i + (its.toArray.size:Int)).toNat=j:=by
   rw [seqIndex_neg (by omega) h4] at h1
   rw [List.size_toArray,<- hl]
   exact Option.some.inj h1
  exact subscriptTail_builtinR (x:=w) pl.isList.typeIs slot_list_getitem.lookup
   (wpAny_getItem_list_neg (Q:=fun r s'=>r=w/\EP X pins σ Q r s') pl.isList (by omega) (by rw [List.size_toArray] <;> omega) (by omega) (by rw [hj];simpa using ew) ⟨rfl,fin⟩) hs
theorem cb:Cy X (uP X.K):=by
 intro value slice pins s σ H x y v u Q I rx ry h hs
 obtain ⟨p,xs,i,z,rfl,rfl,hq,he,q⟩:=h
 cases rx
 obtain ⟨t,rfl⟩:=ry
 obtain ⟨its,r,pl,hz⟩:=I.tuple hq
 obtain ⟨j,h1,h2,h3,h4,h5⟩:=Ic he
 obtain ⟨w,ew,rw'⟩:=r.get h2
 have hl:=r.length
 have hn:=kD
 have fin:EP X pins σ Q w s:=⟨z,H,I,rw',q⟩
 exact subscriptTail_builtinR (x:=w) pl.typeIs slot_tuple_getitem.lookup
  (getItem_tuple (j:=j) (Q:=fun r s'=>r=w/\EP X pins σ Q r s') pl (by omega) (by omega) (by rw [List.size_toArray,<- hl];exact h1) (by simpa using ew) ⟨rfl,fin⟩) hs
theorem LZ (its:List Value) (n j:Nat) (u:Value):Obj.mapSeq (·.setIfInBounds j u) { cls:=.type "list",data:=.seq its.toArray n }={ cls:=.type "list",data:=.seq (its.set j u).toArray n }:=by
 simp [Obj.mapSeq]
theorem Inv.lst {pins:List (Addr×Obj)} {σ:St} {H:Hp} {s:Shared} {p:Addr} {xs:List V} (I:Inv X pins σ H s) (h:H p=some (.lst xs)) :
  ∃ (its:List Value) (n:Nat),Vals xs its/\s.heap.get? p=some { cls:=.type "list",data:=.seq its.toArray n }/\xs.length<=sizeLine:=by
 obtain ⟨z,its,n,r,e⟩:=I.hok p _ h
 exact ⟨its,n,r,e,z⟩
theorem Inv.uQ {pins:List (Addr×Obj)} {σ:St} {H:Hp} {s:Shared} {p:Addr} {xs ys:List V} {its its':List Value} {n n':Nat} {f:Obj->Obj} (I:Inv X pins σ H s) (h:H p=some (.lst xs))
  (ho:s.heap.get? p=some { cls:=.type "list",data:=.seq its.toArray n }) (hf:f { cls:=.type "list",data:=.seq its.toArray n }={ cls:=.type "list",data:=.seq its'.toArray n' }) (r:Vals ys its') (hz:ys.length<=sizeLine) (t:Nat) :
  Inv X pins σ (upd H p (.lst ys)) { s with heap:=s.heap.update p f,toks:=t }:=by
 have e:(s.heap.update p f).get? p=some { cls:=.type "list",data:=.seq its'.toArray n' }:=by
  rw [Heap.get?_update_self f ho (by rw [hf] <;> rfl),hf]
 refine I.write (x:=p) (e:=p) (by rw [h];trivial) (.inl rfl) (fun b u hb q=>(Heap.get?_update_other _ _ (Ne.symm hb)).trans q) ⟨_,e⟩ ?_
 exact ⟨hz,its',n',r,e⟩
def sN:V->V->V->Hp->(Hp->Prop)->Prop:=fun o i v H Q=>∃ p xs k j,o=.ref p/\i=.int k/\H p=some (.lst xs)/\kX xs.length k=some j/\Q (upd H p (.lst (xs.set j v)))
theorem xE:yz X sN:=by
 intro pins s σ H o i v ov iv u Q I ro ri rv h
 obtain ⟨p,xs,k,j,rfl,rfl,hp,hj,q⟩:=h
 cases ro
 obtain ⟨t,rfl⟩:=ri
 obtain ⟨its,n,r,ho,hz⟩:=I.lst hp
 obtain ⟨h1,h2,h3,h4⟩:=E6 hj
 have hl:=r.length
 have hn:=kD
 have I':Inv X pins σ (upd H p (.lst (xs.set j v))) { s with heap:=s.heap.update p (Obj.mapSeq (·.setIfInBounds j u)) } :=
  I.uQ hp ho (LZ its n j u) (r.set rv j) (by rw [List.length_set];exact hz) s.toks
 by_cases h0:0<=k
 ·have hk:k.toNat=j:=by
   rw [seqIndex_of h0 h4] at h1
   exact Option.some.inj h1
  exact PySem.W.ki_setAt ho h0 (by omega) (by rw [List.size_toArray,<- hl];exact h4) (by rw [hk];exact ⟨_,I',q⟩)
 ·have hk:(k + (its.toArray.size:Int)).toNat=j:=by
   rw [seqIndex_neg (by omega) h3] at h1
   rw [List.size_toArray,<- hl]
   exact Option.some.inj h1
  exact PySem.W.ki_setBack ho (by omega) (by rw [List.size_toArray,<- hl];exact h3) (by omega) (by rw [hk];exact ⟨_,I',q⟩)
theorem L0 (lo hi:Option Int) (n:Nat):(sliceBounds lo hi none n).1=((HT.cD n 0 lo:Nat):Int)/\(sliceBounds lo hi none n).2.1=((HT.cD n n hi:Nat):Int)/\(sliceBounds lo hi none n).2.2=1:=by
 refine ⟨?_,?_,rfl⟩
 ·cases lo with
  | none=>simp [sliceBounds,HT.cD]
  | some i =>
   simp only [sliceBounds,HT.cD,Option.getD_none,show (1:Int) > 0 by decide,if_true]
   by_cases h:i < 0
   ·simp only [h,if_true] <;> omega
   ·simp only [h,if_false] <;> omega
 ·cases hi with
  | none=>simp [sliceBounds,HT.cD]
  | some i =>
   simp only [sliceBounds,HT.cD,Option.getD_none,show (1:Int) > 0 by decide,if_true]
   by_cases h:i < 0
   ·simp only [h,if_true] <;> omega
   ·simp only [h,if_false] <;> omega
theorem L3 (its:List Value) (lo hi:Option Int):slicePick its.toArray lo hi none=((its.drop (HT.cD its.length 0 lo)).take (HT.cD its.length its.length hi - HT.cD its.length 0 lo)).toArray:=by
 obtain ⟨h1,h2,h3⟩:=L0 lo hi its.toArray.size
 unfold slicePick
 rw [h1,h2,h3]
 simp only [sliceRange_one,pick_run,List.size_toArray] <;> rfl
def yR (K:PySem.W.Frag):V->Option Int->Option Int->Hp->VK->Prop:=fun x lo hi H Q=>∃ a xs,x=.ref a/\jf K H a xs/\∀ p,H p=none->Q (.ref p) (upd H p (.lst (lM xs lo hi)))
theorem L5:Cv X (yR X.K):=by
 intro pins s σ H x v vl vu lo hi sl Q I rx hs pl pu h
 obtain ⟨a,xs,rfl,hx,q⟩:=h
 cases rx
 obtain ⟨its,r,ht,hz⟩:=I.list hx
 have hlen:=r.length
 refine ⟨"list",_,slot_list_getitem.lookup,ht.isList.typeIs,?_⟩
 refine wpAny_getItem_list_slice ht.isList hs pl pu .none (by simp) ?_ (by rw [List.size_toArray] <;> omega)
 rw [L3,<- hlen]
 refine ⟨.ref s.heap.objs.size,_,I.laid (t':=s.toks) (o:=.lst (lM xs lo hi)) (fun b ob q=>Heap.get?_push_of_some _ q) (Nat.le_refl _) ?_,rfl,q _ (I.hok.fresh (Nat.le_refl _))⟩
 exact ⟨Nat.le_trans (HZ xs lo hi) hz,_,0,(r.drop (HT.cD xs.length 0 lo)).take (HT.cD xs.length xs.length hi - HT.cD xs.length 0 lo),Heap.get?_push_size _ rfl⟩
def jE:V->Bool
 | .non=>true
 | .bl _=>true
 | .int _=>true
 | .str _=>true
 | _=>false
def sO:V->V->Bool
 | .non,.non=>true
 | .bl a,.bl b=>a == b
 | .bl a,.int b=>(if a then 1 else 0) == b
 | .int a,.bl b=>a == (if b then 1 else 0)
 | .int a,.int b=>a == b
 | .str a,.str b=>a == b
 | _,_=>false
theorem uR {A:Around} {s:Shared} {y x:V} {u v:Value} (ry:RelV y u) (rx:RelV x v) (fy:jE y=true) (fx:jE x=true):SeqAt.EqAt A s u v (sO y x):=by
 cases y with
 | non =>
  cases ry
  cases x with
  | non=>cases rx;exact SeqAt.EqAt.same _
  | bl b=>cases rx;exact SeqAt.EqAt.none_bool b
  | int b=>obtain ⟨t,rfl⟩:=rx;exact SeqAt.EqAt.none_int b t
  | str b=>obtain ⟨t,rfl⟩:=rx;exact SeqAt.EqAt.none_str b t
  | _=>exact absurd (show false=true from fx) Bool.false_ne_true
 | bl a =>
  cases ry
  cases x with
  | non=>cases rx;exact SeqAt.EqAt.bool_none a
  | bl b=>cases rx;exact SeqAt.EqAt.bool_bool a b
  | int b=>obtain ⟨t,rfl⟩:=rx;exact SeqAt.EqAt.bool_int a b t
  | str b=>obtain ⟨t,rfl⟩:=rx;exact SeqAt.EqAt.bool_str a b t
  | _=>exact absurd (show false=true from fx) Bool.false_ne_true
 | int a =>
  obtain ⟨t',rfl⟩:=ry
  cases x with
  | non=>cases rx;exact SeqAt.EqAt.int_none a t'
  | bl b=>cases rx;exact SeqAt.EqAt.int_bool a t' b
  | int b=>obtain ⟨t,rfl⟩:=rx;exact SeqAt.EqAt.int_int a t' b t
  | str b=>obtain ⟨t,rfl⟩:=rx;exact SeqAt.EqAt.int_str a t' b t
  | _=>exact absurd (show false=true from fx) Bool.false_ne_true
 | str a =>
  obtain ⟨t',rfl⟩:=ry
  cases x with
  | non=>cases rx;exact SeqAt.EqAt.str_none a t'
  | bl b=>cases rx;exact SeqAt.EqAt.str_bool a t' b
  | int b=>obtain ⟨t,rfl⟩:=rx;exact SeqAt.EqAt.str_int a t' b t
  | str b=>obtain ⟨t,rfl⟩:=rx;exact SeqAt.EqAt.str_str a t' b t
  | _=>exact absurd (show false=true from fx) Bool.false_ne_true
 | _=>exact absurd (show false=true from fy) Bool.false_ne_true
def rC (x:V) (u:Value):Bool:=match u with
 | .none=>sO .non x
 | .bool b=>sO (.bl b) x
 | .int i _=>sO (.int i) x
 | .str z _=>sO (.str z) x
 | _=>false
theorem Ie {x y:V} {u:Value} (r:RelV y u) (f:jE y=true):rC x u=sO y x:=by
 cases y with
 | non=>cases r;rfl
 | bl b=>cases r;rfl
 | int i=>obtain ⟨t,rfl⟩:=r;rfl
 | str z=>obtain ⟨t,rfl⟩:=r;rfl
 | _=>exact absurd (show false=true from f) Bool.false_ne_true
theorem E7 {x:V}:∀ {xs:List V} {us:List Value},Vals xs us->xs.all jE=true->us.any (rC x)=xs.any fun y=>sO y x
 | _,_,.nil,_=>rfl
 | y :: xs,u :: us,.cons r t,f=>by
  rw [List.all_cons,Bool.and_eq_true] at f
  rw [List.any_cons,List.any_cons,Ie r f.1,E7 t f.2]
theorem E8 {A:Around} {s:Shared} {x:V} {v:Value} (rx:RelV x v) (fx:jE x=true):∀ {xs:List V} {us:List Value},Vals xs us->xs.all jE=true->∀ u∈us,SeqAt.EqAt A s u v (rC x u)
 | _,_,.nil,_=>fun u hu=>by cases hu
 | y :: xs,u :: us,.cons r t,f=>fun u' hu=>by
  rw [List.all_cons,Bool.and_eq_true] at f
  rcases List.mem_cons.mp hu with rfl | hu
  ·rw [Ie r f.1];exact uR r rx f.1 fx
  ·exact E8 rx fx t f.2 u' hu
def sP (x:V) (xs:List V):Bool:=xs.any fun y=>sO y x
def E9 (K:PySem.W.Frag) (neg:Bool):R2:=fun x y H Q=>∃ p xs,y=.ref p/\(jf K H p xs\/d9 K H p xs)/\jE x=true/\xs.all jE=true/\Q (.bl (if neg then !sP x xs else sP x xs)) H
theorem Cz:kq X (compareOp .NotIn) (E9 X.K true):=by
 intro pins s σ H x y v u Q I rx ry h
 obtain ⟨p,xs,rfl,hq,fx,fs,q⟩:=h
 cases ry
 rcases hq with hq | hq
 ·obtain ⟨its,r,pl,hz⟩:=I.list hq
  refine SeqAt.notIn_listAt (rC x) pl.isList (fun w hw=>E8 rx fx r fs w (by simpa using hw)) ⟨.bl _,H,I,rfl,?_⟩
  rw [show its.toArray.any (rC x)=its.any (rC x) by simp,E7 r fs]
  exact q
 ·obtain ⟨its,r,pl,hz⟩:=I.tuple hq
  refine SeqAt.notIn_tupleAt (rC x) pl (fun w hw=>E8 rx fx r fs w (by simpa using hw)) ⟨.bl _,H,I,rfl,?_⟩
  rw [show its.toArray.any (rC x)=its.any (rC x) by simp,E7 r fs]
  exact q
theorem lu:e7 X (.builtin "len") (fun xs H Q=>∃ p ys,xs=[.ref p]/\(jf X.K H p ys\/d9 X.K H p ys)/\Q (.int ys.length) H):=by
 intro pins s σ H xs us Q I r h
 obtain ⟨p,ys,rfl,hq,q⟩:=h
 obtain ⟨u,rfl,rx⟩:=vals1 r
 cases rx
 have hn:=kD
 rcases hq with hq | hq
 ·obtain ⟨its,r',pl,hz⟩:=I.list hq
  have hlen:=r'.length
  exact Calls.call_len_list pl.isList (by simp only [List.size_toArray] <;> omega) ⟨.int ys.length,H,I.tok _,⟨s.toks + 1,by rw [List.size_toArray,hlen]⟩,q⟩
 ·obtain ⟨its,r',pl,hz⟩:=I.tuple hq
  have hlen:=r'.length
  exact len_tuple pl (by simp only [List.size_toArray] <;> omega) ⟨.int ys.length,H,I.tok _,⟨s.toks + 1,by rw [List.size_toArray,hlen]⟩,q⟩
theorem Fb:e7 X (.type "list") (fun xs H Q=>∃ p ys,xs=[.ref p]/\(jf X.K H p ys\/d9 X.K H p ys)/\∀ l,H l=none->Q (.ref l) (upd H l (.lst ys))):=by
 intro pins s σ H xs us Q I r h
 obtain ⟨p,ys,rfl,hq,q⟩:=h
 obtain ⟨u,rfl,rx⟩:=vals1 r
 cases rx
 have fin:∀ (its:List Value),Vals ys its->ys.length<=sizeLine->∀ (h':Heap) (c':Nat),(∀ b o',s.heap.get? b=some o'->h'.get? b=some o') ->
   h'.get? s.heap.objs.size=some { cls:=.type "list",dict:=none,data:=.seq its.toArray c',slots:=#[] }->EP X pins σ Q (.ref s.heap.objs.size) { s with heap:=h' }:=fun its r' hz h' c' kp e =>
  ⟨.ref s.heap.objs.size,_,I.laid (t':=s.toks) kp (Nat.le_refl _) (show cC X.prog X.w _ h' _ (.lst ys) from ⟨hz,its,c',r',e⟩),rfl,q _ (I.hok.fresh (Nat.le_refl _))⟩
 rcases hq with hq | hq
 ·obtain ⟨its,r',pl,hz⟩:=I.list hq
  have hlen:=r'.length
  obtain ⟨o,ho,hc,n,hd⟩:=pl.isList
  exact call_list_seq p (.inl rfl) ho hc hd (fun h' c' kp e=>fin its r' hz h' c' kp e) (by simp only [List.size_toArray] <;> omega)
 ·obtain ⟨its,r',pl,hz⟩:=I.tuple hq
  have hlen:=r'.length
  obtain ⟨o,ho,hc,n,hd⟩:=pl
  exact call_list_seq p (.inr rfl) ho hc hd (fun h' c' kp e=>fin its r' hz h' c' kp e) (by simp only [List.size_toArray] <;> omega)
theorem nE:e7 X (.type "tuple") (fun xs H Q=>∃ p ys,xs=[.ref p]/\((jf X.K H p ys/\∀ l,H l=none->Q (.ref l) (upd H l (.tup ys)))\/(d9 X.K H p ys/\Q (.ref p) H))):=by
 intro pins s σ H xs us Q I r h
 obtain ⟨p,ys,rfl,h⟩:=h
 obtain ⟨u,rfl,rx⟩:=vals1 r
 cases rx
 rcases h with ⟨hq,q⟩ | ⟨hq,q⟩
 ·obtain ⟨its,r',pl,hz⟩:=I.list hq
  have hlen:=r'.length
  refine call_tuple_list pl.isList (fun h' kp=>?_) (by simp only [List.size_toArray] <;> omega)
  have I1:Inv X pins σ H { s with heap:=h' }:=I.kept (t':=s.toks) kp
  have I2:Inv X pins σ (upd H h'.objs.size (.tup ys)) { s with heap:=h'.push { cls:=.type "tuple",data:=.seq its.toArray } } :=
   I1.laid (t':=s.toks) (fun b o e=>Heap.get?_push_of_some _ e) (Nat.le_refl _) (show cC X.prog X.w _ _ _ (.tup ys) from ⟨hz,its,r',lH.new _ _⟩)
  exact ⟨.ref h'.objs.size,_,I2,rfl,q _ (I1.hok.fresh (Nat.le_refl _))⟩
 ·obtain ⟨its,r',pl,hz⟩:=I.tuple hq
  exact call_tuple_same pl ⟨.ref p,H,I,rfl,q⟩
def Fc (K:PySem.W.Frag) (T:String) (x:V) (H:Hp):Prop:=match x with
 | .str _=>T="str"
 | .int _=>T="int"
 | .ref p=>(T="list" /\ ∃ xs,jf K H p xs)\/(T="tuple" /\ ∃ xs,d9 K H p xs) \/
   (T="dict" /\ ((∃ kvs,H p=some (.dK kvs))\/∃ kvs,H p=some (.dT kvs)))\/(T="set" /\ ∃ S n,H p=some (.set S n))
 | _=>False
theorem uS {pins:List (Addr×Obj)} {σ:St} {H:Hp} {s:Shared} {T:String} {x:V} {v:Value} (I:Inv X pins σ H s) (r:RelV x v) (ty:Fc X.K T x H) :
  s.TypeIs v T/\∀ a,v=.ref a->∃ ob,s.heap.get? a=some ob/\ob.dict=none:=by
 cases x with
 | str z =>
  obtain ⟨t,rfl⟩:=r
  cases (show T="str" from ty)
  exact ⟨typeIs_str s z t,fun _ e=>nomatch e⟩
 | int i =>
  obtain ⟨t,rfl⟩:=r
  cases (show T="int" from ty)
  exact ⟨typeIs_int s i t,fun _ e=>nomatch e⟩
 | ref p =>
  cases r
  rcases ty with ⟨rfl,xs,hq⟩ | ⟨rfl,xs,hq⟩ | ⟨rfl,hk⟩ | ⟨rfl,S,n,hk⟩
  ·obtain ⟨its,_,pl,_⟩:=I.list hq
   refine ⟨pl.isList.typeIs,fun a e=>?_⟩
   cases e
   obtain ⟨o,n,e,c,hd,_⟩:=pl
   exact ⟨o,e,hd⟩
  ·obtain ⟨its,_,⟨o,e,c,d,_⟩,_⟩:=I.n9 hq
   refine ⟨⟨o,e,c⟩,fun a e2=>?_⟩
   cases e2
   exact ⟨o,e,d⟩
  ·have z:∃ o,s.heap.get? p=some o/\o.ExactDict:=by
    rcases hk with ⟨kvs,hk⟩ | ⟨kvs,hk⟩
    ·obtain ⟨_,_,_,_,o,_,_,e,ex,_⟩:=I.hok p _ hk
     exact ⟨o,e,ex⟩
    ·obtain ⟨_,_,_,_,o,_,_,e,ex,_⟩:=I.hok p _ hk
     exact ⟨o,e,ex⟩
   obtain ⟨o,e,ex⟩:=z
   refine ⟨⟨o,e,ex.1⟩,fun a e2=>?_⟩
   cases e2
   exact ⟨o,e,ex.2.1⟩
  ·obtain ⟨o,_,_,_,e,ex,_⟩:=I.hok p _ hk
   refine ⟨⟨o,e,ex.1⟩,fun a e2=>?_⟩
   cases e2
   exact ⟨o,e,ex.2.1⟩
 | _=>exact False.elim ty
def Fe (K:PySem.W.Frag) (T:String) (r:V->List V->Hp->VK->Prop) (to:TE) (t:TA):TE:=fun σ H Q=>to σ H fun x H1=>Fc K T x H1/\t σ H1 fun xs H2=>r x xs H2 Q
variable {o e:Expr} {es:List Expr} {to:TE} {t:TA} {name:Str} {apos cpos:Pos} {T id:String} {r:V->List V->Hp->VK->Prop}
theorem qN (pa:PlainAttrs T) (slot:Slot T name id) (hty:typeOf (.builtin id)=pure (.type "method_descriptor")) (hm:xD X id r) (ho:PE X o to) (ha:PA X (e :: es) t)
  (hbase:attributeBase o name X.env (eval o X.env)=eval o X.env:=by rfl)
  (hfew:((backTo cpos (starEach (e :: es) X.env)).all (fun x=>!x.1) && (backToKw cpos (keywordEach [] X.env)).all (fun x=>x.1.isSome)
   && decide ((e :: es).length + ([]:List Keyword).length + (if ([]:List Keyword).isEmpty then 0 else 1) < 30))=true:=by rfl)
  (hline:(apos.endLine == cpos.line)=true:=by rfl) (hs:starEach (e :: es) X.env=(false,eval e X.env) :: starEach es X.env:=by rfl) (hplain:(backTo cpos (starEach es X.env)).any (·.1)=false:=by rfl) :
  PE X (.Call (.Attribute o name apos) (e :: es) [] cpos) (Fe X.K T r to t):=by
 intro pins s σ H Q I h
 refine wpAny_Call_method_late hbase hfew hline rfl (cy (ho pins s σ H _ I h) fun v s1 ⟨x,H1,I1,r1,ty,q1⟩=>?_)
 obtain ⟨h1,h2⟩:=uS I1 r1 ty
 refine ⟨T,id,pa,slot,hty,h1,h2,?_⟩
 have hA:=ha cpos pins s1 σ H1 _ I1 q1
 rw [hs] at hA ⊢
 refine Calls.callWith_builtin (by show (false || (backTo cpos (starEach es X.env)).any (·.1))=false;rw [hplain] <;> rfl) (Calls.evalArgs_plain ?_)
 exact cy hA fun us s2 ⟨vs,H2,I2,r2,q2⟩=>hm pins s2 σ H2 x vs v us Q I2 r1 r2 q2
end
end L2
namespace L2
open PySem PySem.Spec PyProof.Rows
def Ig (X:Cx) (id:String) (r:V->List V->Hp->VK->Prop):Prop :=
 ∀ (pins:List (Addr×Obj)) (s:Shared) (σ:St) (H:Hp) (x:V) (xs:List V) (v:Value) (us:List Value) (Q:VK),Inv X pins σ H s->RelV x v->Vals xs us->r x xs H Q ->
  wpAny (model X.prog X.w) X.A (call (.builtin id) (v :: us)) (EP X pins σ Q) X.xe s
theorem Vals.one:∀ {x:V} {us:List Value},Vals [x] us->∃ u,us=[u]/\RelV x u
 | _,_,.cons r .nil=>⟨_,rfl,r⟩
theorem Vals.eraseIdx:∀ {xs:List V} {us:List Value} (i:Nat),Vals xs us->Vals (xs.eraseIdx i) (us.eraseIdx i)
 | _,_,_,.nil=>.nil
 | _,_,0,.cons _ t=>t
 | _,_,i + 1,.cons r t=>.cons r (Vals.eraseIdx i t)
theorem Vals.rep {xs:List V} {us:List Value} (h:Vals xs us):∀ k:Nat,Vals (List.replicate k xs).flatten (List.replicate k us).flatten
 | 0=>.nil
 | k + 1=>by
  rw [List.replicate_succ,List.replicate_succ,List.flatten_cons,List.flatten_cons]
  exact Vals.append h (Vals.rep h k)
theorem Ih {α:Type}:∀ (l:List α) (i:Nat),(l.eraseIdx i).length<=l.length
 | [],_=>Nat.le_refl _
 | _ :: _,0=>Nat.le_succ _
 | _ :: r,i + 1=>Nat.succ_le_succ (Ih r i)
theorem Ii (its:List Value):∀ (k:Nat) (acc:List Value),
  List.foldl (fun x1 x2=>x1 ++ x2) acc.toArray (List.replicate k its.toArray)=(acc ++ (List.replicate k its).flatten).toArray
 | 0,acc=>by simp
 | k + 1,acc=>by
  have e:acc.toArray ++ its.toArray=(acc ++ its).toArray:=by simp
  have e2:(acc ++ its) ++ (List.replicate k its).flatten=acc ++ (List.replicate (k + 1) its).flatten:=by
   rw [List.replicate_succ,List.flatten_cons,List.append_assoc]
  rw [<- e2,<- Ii its k (acc ++ its),<- e,List.replicate_succ,List.foldl_cons]
section
variable {X:Cx} {pins:List (Addr×Obj)} {σ:St} {H:Hp} {s:Shared} {l b:Addr} {xs ys zs:List V}
theorem Inv.yS {its its':List Value} {n:Nat} {f:Array Value->Array Value} {t':Nat} (I:Inv X pins σ H s) (hH:H l=some (.lst xs))
  (e:s.heap.get? l=some { cls:=.type "list",data:=.seq its.toArray n }) (hf:f its.toArray=its'.toArray) (hv:Vals ys its') (hz:ys.length<=sizeLine) :
  Inv X pins σ (upd H l (.lst ys)) { s with heap:=s.heap.update l (Obj.mapSeq f),toks:=t' }:=by
 have q:=PySem.IsL.update e f
 rw [hf] at q
 refine I.write (x:=l) (e:=l) (by rw [hH];exact trivial) (.inl rfl) (fun b' u hb hu=>(Heap.get?_update_other s.heap (Obj.mapSeq f) (Ne.symm hb)).trans hu) ⟨_,q⟩ ?_
 exact ⟨hz,its',_,hv,q⟩
theorem Inv.yT {its:List Value} {t':Nat} (I:Inv X pins σ H s) (hv:Vals ys its) (hz:ys.length<=sizeLine) :
  Inv X pins σ (upd H s.heap.objs.size (.lst ys)) { s with heap:=s.heap.push { cls:=.type "list",data:=.seq its.toArray },toks:=t' } :=
 I.laid (fun _ _ q=>Heap.get?_push_of_some _ q) (Nat.le_refl _) ⟨hz,its,0,hv,Heap.get?_push_size _ rfl⟩
theorem Inv.fresh (I:Inv X pins σ H s):H s.heap.objs.size=none:=I.hok.fresh (Nat.le_refl _)
theorem Inv.pS (I:Inv X pins σ H s) (hH:H l=some (.lst xs)):xs.length<=sizeLine/\∃ (its:List Value) (n:Nat),Vals xs its/\xs.length=its.length/\s.heap.get? l=some { cls:=.type "list",data:=.seq its.toArray n }:=by
 obtain ⟨z,its,n,r,e⟩:=I.hok l _ hH
 exact ⟨z,its,n,r,r.length,e⟩
theorem pT {n:Nat} (h:n<=sizeLine):Builtin.List.listTooLong n=false:=by
 unfold Builtin.List.listTooLong
 exact decide_eq_false (by omega)
end
section
variable {X:Cx}
def oC:V->List V->Hp->VK->Prop:=fun x vs H Q=>∃ l xs y,x=.ref l/\vs=[y]/\H l=some (.lst xs)/\xs.length < sizeLine/\Q .non (upd H l (.lst (xs ++ [y])))
theorem sQ:Ig X "list.append" oC:=by
 intro pins s σ H x vs v us Q I rx rv h
 obtain ⟨l,xs,y,rfl,rfl,hH,hz,q⟩:=h
 cases rx
 obtain ⟨u,rfl,ru⟩:=rv.one
 obtain ⟨z,its,n,r,hl,e⟩:=I.pS hH
 refine call_meets F.slot_list_append ⟨_,e,rfl⟩ F.entry_list_append (F.args_list_append_2 _ _) (PySem.list_append l its.toArray n u (by rw [List.size_toArray];omega)) ⟨e,?_⟩
 refine ⟨.non,_,I.yS (its':=its ++ [u]) hH e (by simp) (r.append (.cons ru .nil)) ?_,rfl,q⟩
 rw [List.length_append,List.length_singleton]
 omega
def pU:V->List V->Hp->VK->Prop:=fun x vs H Q=>∃ l xs i k y,x=.ref l/\vs=[.int i]/\H l=some (.lst xs)/\-(2 ^ 63)<=i/\i < 2 ^ 63/\seqIndex? i xs.length=some k/\xs[k]?=some y/\Q y (upd H l (.lst (xs.eraseIdx k)))
theorem L6:Ig X "list.pop" pU:=by
 intro pins s σ H x vs v us Q I rx rv h
 obtain ⟨l,xs,i,k,y,rfl,rfl,hH,h1,h2,hk,hy,q⟩:=h
 cases rx
 obtain ⟨u,rfl,ru⟩:=rv.one
 obtain ⟨t,rfl⟩:=ru
 obtain ⟨z,its,n,r,hl,e⟩:=I.pS hH
 obtain ⟨w,hw,rw'⟩:=r.get hy
 refine call_meets F.slot_list_pop ⟨_,e,rfl⟩ F.entry_list_pop (F.args_list_pop_2 _ _)
  (MeetsSeq.list_pop_at l its.toArray n i t k w (fitsIndex_both h1 h2) (by rw [List.size_toArray,<- hl];exact hk) (by rw [<- Array.getElem?_toList];exact hw) (by rw [List.size_toArray];omega)) ⟨e,?_⟩
 refine ⟨y,_,I.yS (its':=its.eraseIdx k) hH e ?_ (r.eraseIdx k) ?_,rw',q⟩
 ·show its.toArray.eraseIdxIfInBounds k=(its.eraseIdx k).toArray
  rw [List.eraseIdxIfInBounds_toArray]
 ·have:=Ih xs k
  omega
def yU:R2:=fun x y H Q=>∃ l b xs zs,x=.ref l/\y=.ref b/\H l=some (.lst xs)/\H b=some (.lst zs)/\xs.length + zs.length<=sizeLine/\∀ p,H p=none->Q (.ref p) (upd H p (.lst (xs ++ zs)))
theorem uT:kq X (binaryOp .Add) yU:=by
 intro pins s σ H x y v u Q I rx ry h
 obtain ⟨l,b,xs,zs,rfl,rfl,hH,hB,hz,q⟩:=h
 cases rx
 cases ry
 obtain ⟨z,its,n,r,hl,e⟩:=I.pS hH
 obtain ⟨z2,its2,n2,r2,hl2,e2⟩:=I.pS hB
 refine PySem.P.add_list e e2 ?_ (by rw [List.size_toArray,List.size_toArray];omega)
 have ea:its.toArray ++ its2.toArray=(its ++ its2).toArray:=by simp
 rw [ea]
 exact ⟨.ref _,_,I.yT (t':=s.toks) (r.append r2) (by rw [List.length_append];omega),rfl,q _ I.fresh⟩
def yV:R2:=fun x y H Q=>∃ l k xs,x=.ref l/\y=.int k/\H l=some (.lst xs)/\-(2 ^ 63)<=k/\k < 2 ^ 63/\xs.length * k.toNat<=sizeLine /\
 ∀ p,H p=none->Q (.ref p) (upd H p (.lst (List.replicate k.toNat xs).flatten))
theorem L7 {α:Type} (xs:List α) (k:Nat):(List.replicate k xs).flatten.length=k * xs.length:=by
 induction k with
 | zero=>simp
 | succ k ih=>rw [List.replicate_succ,List.flatten_cons,List.length_append,ih,Nat.succ_mul,Nat.add_comm]
theorem Ij:kq X (binaryOp .Mult) yV:=by
 intro pins s σ H x y v u Q I rx ry h
 obtain ⟨l,k,xs,rfl,rfl,hH,h1,h2,hz,q⟩:=h
 cases rx
 obtain ⟨t,rfl⟩:=ry
 obtain ⟨z,its,n,r,hl,e⟩:=I.pS hH
 have hlen:its.toArray.size * k.toNat<=sizeLine:=by rw [List.size_toArray,<- hl];exact hz
 have hcap:¬ its.toArray.size * k.toNat > (2 ^ 63 - 1) / 8:=by
  have:(sizeLine:Nat)<=(2 ^ 63 - 1) / 8:=by decide
  omega
 have hfit:¬ (!Builtin.List.listFitsIndex k)=true:=by
  rw [fitsIndex_both h1 h2]
  exact Bool.false_ne_true
 have yW:¬ Builtin.List.listTooLong (its.toArray.size * k.toNat)=true:=by
  rw [pT hlen]
  exact Bool.false_ne_true
 have hnew:List.foldl (fun x1 x2=>x1 ++ x2) #[] (List.replicate (if its.toArray.isEmpty=true then 0 else k.toNat) its.toArray)=(List.replicate k.toNat its).flatten.toArray:=by
  have f0:∀ m:Nat,List.foldl (fun x1 x2=>x1 ++ x2) #[] (List.replicate m its.toArray)=(List.replicate m its).flatten.toArray:=fun m=>by
   have:=Ii its m []
   rw [List.nil_append] at this
   exact this
  rw [f0]
  cases its with
  | nil=>simp
  | cons a r'=>rw [if_neg (by simp)]
 refine wpAny_binaryOp_repeat_ref (T:="list") (U:="int") (by decide) ⟨_,e,rfl⟩ (fun s'=>typeIs_int s' k t) noFill_list_mul F.fills_int_mul F.slot_int_rmul repeat_list F.slot_int_index.lookup
  (call_meets F.slot_int_rmul (typeIs_int s k t) F.entry_int_rmul (F.args_int_rmul_2 _ _) (int___rmul___int_list k t l its.toArray n)
   ⟨e,rfl,⟨_,e,rfl⟩,call_meets F.slot_list_mul ⟨_,e,rfl⟩ F.entry_list_mul (F.args_list_mul_2 _ _) (AutoListH.list___mul___list_int_3 l its.toArray n k t hfit hcap yW) ⟨e,?_⟩⟩)
 rw [hnew]
 exact ⟨.ref _,_,I.yT (t':=s.toks) (r.rep k.toNat) (by rw [L7,Nat.mul_comm];exact hz),rfl,q _ I.fresh⟩
end
section
variable {prog:Program} {w:World} {A:Around} {E:Value->Shared->Prop} {s:Shared}
end
section
variable {X:Cx}
end
end L2
namespace L2
open PySem PySem.Spec PyProof.Rows
section
variable {κ:Type} [DecidableEq κ]
def jF (kvs:List (κ×V)) (k:κ):Option V:=(kvs.find? fun kv=>decide (kv.1=k)).map (·.2)
def putK (kvs:List (κ×V)) (k:κ) (v:V):List (κ×V) :=
 if (kvs.any fun kv=>decide (kv.1=k))=true then kvs.map (fun kv=>if kv.1=k then (kv.1,v) else kv) else kvs ++ [(k,v)]
theorem Ff {p:κ×V} {r:List (κ×V)} {k:κ} (e:p.1=k):jF (p :: r) k=some p.2:=by simp [jF,List.find?_cons,e]
theorem Fg {p:κ×V} {r:List (κ×V)} {k:κ} (e:¬ p.1=k):jF (p :: r) k=jF r k:=by simp [jF,List.find?_cons,e]
theorem Ik (k:κ):∀ kvs:List (κ×V),(kvs.any fun kv=>decide (kv.1=k))=(jF kvs k).isSome
 | []=>rfl
 | p :: r=>by
  rw [List.any_cons]
  by_cases e:p.1=k
  ·simp only [Ff e,decide_eq_true e,Bool.true_or,Option.isSome_some]
  ·rw [Fg e,decide_eq_false e,Bool.false_or];exact Ik k r
theorem Il (kvs:List (κ×V)) (k:κ) (v:V):(putK kvs k v).length<=kvs.length + 1:=by
 unfold putK
 split
 ·rw [List.length_map];omega
 ·rw [List.length_append,List.length_cons,List.length_nil];omega
theorem oY.kE {o:Option V} {u:Option Value} (r:oY o u):o.isSome=u.isSome:=by
 cases o with
 | none=>cases u with
  | none=>rfl
  | some _=>exact (show False from r).elim
 | some _=>cases u with
  | none=>exact (show False from r).elim
  | some _=>rfl
theorem KV.val {kvs:List (κ×V)} {vs:List (κ×Value)} (r:KV kvs vs) (k:κ):oY (jF kvs k) (valueAt vs k):=by
 unfold KV at r
 induction r with
 | nil=>exact True.intro
 | @cons p q ps qs h t ih =>
  obtain ⟨h1,h2⟩:=h
  by_cases e:p.1=k
  ·have e':q.1=k:=h1.symm.trans e
   have b:valueAt (q :: qs) k=some q.2:=by simp [valueAt,List.find?_cons,e']
   rw [Ff e,b];exact h2
  ·have e':¬ q.1=k:=fun z=>e (h1.trans z)
   have b:valueAt (q :: qs) k=valueAt qs k:=by simp [valueAt,List.find?_cons,e']
   rw [Fg e,b];exact ih
theorem KV.any {kvs:List (κ×V)} {vs:List (κ×Value)} (r:KV kvs vs) (k:κ):(kvs.any fun kv=>decide (kv.1=k))=vs.any fun kv=>decide (kv.1=k):=by
 unfold KV at r
 induction r with
 | nil=>rfl
 | cons h t ih=>rw [List.any_cons,List.any_cons,ih,h.1]
theorem KV.repl {kvs:List (κ×V)} {vs:List (κ×Value)} (r:KV kvs vs) (k:κ) {y:V} {u:Value} (ry:RelV y u) :
  KV (kvs.map fun kv=>if kv.1=k then (kv.1,y) else kv) (vs.map fun kv=>if kv.1=k then (kv.1,u) else kv):=by
 unfold KV at r ⊢
 induction r with
 | nil=>exact .nil
 | @cons p q ps qs h t ih =>
  rw [List.map_cons,List.map_cons]
  refine .cons ?_ ih
  obtain ⟨h1,h2⟩:=h
  by_cases e:p.1=k
  ·rw [if_pos e,if_pos (h1.symm.trans e)];exact ⟨h1,ry⟩
  ·rw [if_neg e,if_neg (fun z=>e (h1.trans z))];exact ⟨h1,h2⟩
theorem KV.put {kvs:List (κ×V)} {vs:List (κ×Value)} (r:KV kvs vs) (k:κ) {y:V} {u:Value} (ry:RelV y u):KV (putK kvs k y) (stored vs k u):=by
 unfold putK stored
 rw [r.any k]
 by_cases e:(vs.any fun kv=>decide (kv.1=k))=true
 ·rw [if_pos e,if_pos e];exact r.repl k ry
 ·rw [if_neg e,if_neg e];exact Paired.snoc r ⟨rfl,ry⟩
theorem KV.length {kvs:List (κ×V)} {vs:List (κ×Value)} (r:KV kvs vs):kvs.length=vs.length:=Paired.length r
end
theorem Fh {P:Program} {w:World} {k:Key} {u:Value} (r:RelV (kV k) u):(cH P w).is k u=true:=by
 cases k with
 | inl i=>obtain ⟨t,e⟩:=(show ∃ t,u=Value.int i t from r);subst e;exact Lw P w i t
 | inr x=>obtain ⟨t,e⟩:=(show ∃ t,u=Value.str x t from r);subst e;exact Lx P w x t
theorem Im {P:Program} {w:World}:∀ {ks:List Key} {us:List Value},Vals (ks.map kV) us->ItemsAre (cH P w) ks us
 | [],_,r=>by rw [List.map_nil] at r;cases r;exact .nil
 | k :: ks,_,r=>by
  rw [List.map_cons] at r
  cases r with
  | cons h t=>exact .cons (Fh h) (Im t)
abbrev KT (H:Hp):List (List Key×V)->List (List Key×Addr×Value)->Prop:=Paired fun p q=>p.1=q.1/\H q.2.1=some (.tup (p.1.map kV))/\RelV p.2 q.2.2
theorem KT.val {H:Hp} {kvs:List (List Key×V)} {xs:List (List Key×Addr×Value)} (r:KT H kvs xs) (k:List Key):oY (jF kvs k) ((atKey xs k).map (·.2)):=by
 induction r with
 | nil=>exact True.intro
 | @cons p q ps qs h t ih =>
  obtain ⟨h1,_,h2⟩:=h
  by_cases e:p.1=k
  ·have e':q.1=k:=h1.symm.trans e
   have b:atKey (q :: qs) k=some q.2:=by simp [atKey,List.find?_cons,e']
   rw [Ff e,b];exact h2
  ·have e':¬ q.1=k:=fun z=>e (h1.trans z)
   have b:atKey (q :: qs) k=atKey qs k:=by simp [atKey,List.find?_cons,e']
   rw [Fg e,b];exact ih
theorem KT.repl {H:Hp} {kvs:List (List Key×V)} {xs:List (List Key×Addr×Value)} (r:KT H kvs xs) (k:List Key) {y:V} {u:Value} (ry:RelV y u) :
  KT H (kvs.map fun kv=>if kv.1=k then (kv.1,y) else kv) (xs.map (putAt k u)):=by
 induction r with
 | nil=>exact .nil
 | @cons p q ps qs h t ih =>
  rw [List.map_cons,List.map_cons]
  refine .cons ?_ ih
  obtain ⟨h1,h2,h3⟩:=h
  unfold putAt
  by_cases e:p.1=k
  ·rw [if_pos e,if_pos (h1.symm.trans e)];exact ⟨h1,h2,ry⟩
  ·rw [if_neg e,if_neg (fun z=>e (h1.trans z))];exact ⟨h1,h2,h3⟩
theorem KT.put {H:Hp} {kvs:List (List Key×V)} {xs:List (List Key×Addr×Value)} (r:KT H kvs xs) (k:List Key) {b:Addr} {y:V} {u:Value} (hb:H b=some (.tup (k.map kV))) (ry:RelV y u) :
  KT H (putK kvs k y) (storedH xs k b u):=by
 have e:(kvs.any fun kv=>decide (kv.1=k))=(atKey xs k).isSome:=by
  rw [Ik,(r.val k).kE,Option.isSome_map]
 unfold putK storedH
 rw [e]
 by_cases q:(atKey xs k).isSome=true
 ·rw [if_pos q,if_pos q];exact r.repl k ry
 ·rw [if_neg q,if_neg q];exact Paired.snoc r ⟨rfl,hb,ry⟩
theorem KT.keeps {H H':Hp} {kvs:List (List Key×V)} {xs:List (List Key×Addr×Value)} (r:KT H kvs xs) (ht:∀ b ys,H b=some (.tup ys)->H' b=some (.tup ys)):KT H' kvs xs :=
 Paired.ux r fun _ _ z=>⟨z.1,ht _ _ z.2.1,z.2.2⟩
section
variable {P:Program} {w:World} {H:Hp} {h:Heap} {a:Addr}
theorem sR {u:HO} (ok:j8 P w H h) (e:Rd H a u):cC P w H h a u:=e.ok ok
theorem sS {kvs:List (Key×V)} (ok:j8 P w H h) (e:Rd H a (.dK kvs)):kvs.length<=sizeLine/\(a == sysModules)=false/\∃ vs,KV kvs vs/\h.DictOf (cH P w) a vs :=
 show cC P w H h a (.dK kvs) from sR ok e
theorem yX {kvs:List (Key×V)} (ok:j8 P w H h) (e:H a=some (.dK kvs)):kvs.length<=sizeLine/\(a == sysModules)=false/\∃ vs,KV kvs vs/\h.DictOf (cH P w) a vs:=sS ok (.inl e)
theorem xF {ks:List Key} (ok:j8 P w H h) (e:H a=some (.tup (ks.map kV))):(tupleKind (cH P w)).is h ks a:=by
 obtain ⟨_,its,r,o,h1,h2,_,n,h3⟩:=(show cC P w H h a (.tup (ks.map kV)) from ok a _ e)
 exact ⟨o,its.toArray,n,h1,h2,h3,by simpa using Im r⟩
theorem sT {kvs:List (List Key×V)} (ok:j8 P w H h) (e:Rd H a (.dT kvs)):kvs.length<=sizeLine/\(a == sysModules)=false /\
  ∃ xs,KT H kvs xs/\h.DictOfH (tupleKind (cH P w)) a xs:=by
 obtain ⟨z,y,xs,r,o,es,ep,h1,h2,h3,h4,h5⟩:=(show cC P w H h a (.dT kvs) from sR ok e)
 refine ⟨z,y,xs,r,o,es,ep,h1,h2,h3,h4,fun x hx=>?_,h5⟩
 have all:∀ {l:List (List Key×V)} {m:List (List Key×Addr×Value)},KT H l m->∀ x∈m,(tupleKind (cH P w)).is h x.1 x.2.1:=by
  intro l m q
  induction q with
  | nil=>intro x hx;exact nomatch hx
  | @cons p q ps qs hq t ih =>
   intro x hx
   rcases List.mem_cons.mp hx with e | hx
   ·subst e
    exact xF ok (by rw [<- hq.1];exact hq.2.1)
   ·exact ih x hx
 exact all r x hx
theorem yZ {kvs:List (List Key×V)} (ok:j8 P w H h) (e:H a=some (.dT kvs)):kvs.length<=sizeLine/\(a == sysModules)=false /\
  ∃ xs,KT H kvs xs/\h.DictOfH (tupleKind (cH P w)) a xs:=sT ok (.inl e)
end
def pV (H:Hp) (a:Addr) (y:V) (r:Option V):Prop :=
 (∃ kvs k,Rd H a (.dK kvs)/\y=kV k/\r=jF kvs k)\/∃ kvs k b,Rd H a (.dT kvs)/\y=.ref b/\H b=some (.tup (k.map kV))/\r=jF kvs k
def pW (H:Hp) (a:Addr) (y v:V) (H':Hp):Prop :=
 (∃ kvs k,H a=some (.dK kvs)/\y=kV k/\kvs.length < sizeLine/\H'=upd H a (.dK (putK kvs k v))) \/
 ∃ kvs k b,H a=some (.dT kvs)/\y=.ref b/\H b=some (.tup (k.map kV))/\kvs.length < sizeLine/\H'=upd H a (.dT (putK kvs k v))
theorem pV.k {H:Hp} {a:Addr} {kvs:List (Key×V)} {k:Key} (e:H a=some (.dK kvs)):pV H a (kV k) (jF kvs k):=.inl ⟨kvs,k,.inl e,rfl,rfl⟩
theorem pW.k {H:Hp} {a:Addr} {kvs:List (Key×V)} {k:Key} {v:V} (e:H a=some (.dK kvs)) (hl:kvs.length < sizeLine):pW H a (kV k) v (upd H a (.dK (putK kvs k v))):=.inl ⟨kvs,k,e,rfl,hl,rfl⟩
section
variable {X:Cx} {pins:List (Addr×Obj)} {σ:St} {H:Hp} {s:Shared} {a:Addr} {y v:V} {u r:Value} {o:Option V} {A:Around} {E:Value->Shared->Prop}
theorem Inv.big (I:Inv X pins σ H s):sysModules < s.heap.objs.size:=by
 have h:mainGlobals < s.heap.objs.size:=(I.mod.glob.keeps I.bk).lt
 exact Nat.lt_trans (by decide) h
theorem L8 {Q:Value->Shared->Prop} (hu:A.units + 1 < cLine) (I:Inv X pins σ H s) (g:pV H a y o) (ry:RelV y u) (h:∀ s',Inv X pins σ H s'->Q (.bool (!o.isSome)) s') :
  wpAny (model X.prog X.w) A (compareOp .NotIn u (.ref a)) Q E s:=by
 rcases g with ⟨kvs,k,e,ey,l⟩ | ⟨kvs,k,b,e,ey,eb,l⟩
 ·subst ey
  obtain ⟨z,hd,vs,rel,dd⟩:=sS I.hok e
  refine wpAny_notIn_of (Fh ry) hd dd.mapOf ?_
  rw [<- (rel.val k).kE,<- l]
  exact h _ (I.tok _)
 ·subst ey
  cases (show u=Value.ref b from ry)
  obtain ⟨z,hd,xs,rel,dd⟩:=sT I.hok e
  refine wpAny_notIn_heap (tupleKind_room_in1 hu) (xF I.hok eb) hd dd ?_
  have q:=(rel.val k).kE
  rw [Option.isSome_map] at q
  rw [<- q,<- l]
  exact h _ (I.tok _)
theorem Io {h':Heap} {t':Nat} {ob:HO} (I:Inv X pins σ H s) (mu:yj (H a)) (hs:Heap.SameBut a s.heap h') (he:∃ q,h'.get? a=some q) (new:cC X.prog X.w (upd H a ob) h' a ob) :
  Inv X pins σ (upd H a ob) { s with heap:=h',toks:=t' } :=
 I.write (x:=a) (e:=a) mu (.inl rfl) (fun b q hb z=>(hs.2 b hb).trans z) he new
theorem uU {P:Program} {w:World} {H':Hp} {h':Heap} {kvs:List (Key×V)} {vs:List (Key×Value)} (z:kvs.length<=sizeLine) (hd:(a == sysModules)=false) (rel:KV kvs vs) (dd:h'.DictOf (cH P w) a vs) :
  cC P w H' h' a (.dK kvs):=⟨z,hd,vs,rel,dd⟩
theorem L9 {H':Hp} {Q:Unit->Shared->Prop} (hu:A.units + 1 < cLine) (I:Inv X pins σ H s) (g:pW H a y v H') (ry:RelV y u) (rv:RelV v r) (h:∀ s',Inv X pins σ H' s'->Q () s') :
  wpAny (model X.prog X.w) A (setItem (.ref a) u r) Q E s:=by
 rcases g with ⟨kvs,k,e,ey,l,eH⟩ | ⟨kvs,k,b,e,ey,eb,l,eH⟩
 ·subst ey eH
  obtain ⟨z,hd,vs,rel,dd⟩:=yX I.hok e
  have hz:vs.length<=sizeLine:=by rw [<- rel.length];exact z
  have hl:(putK kvs k v).length<=sizeLine:=by have:=Il kvs k v;omega
  refine wpAny_setItem_pairs (hsz:=hz) (Fh ry) dd fun h' CA hs=>h _ ?_
  have he:∃ q,h'.get? a=some q:=let ⟨q,_,_,hq,_⟩:=CA;⟨q,hq⟩
  exact Io I (by rw [e];exact True.intro) hs he (uU hl hd (rel.put k rv) CA)
 ·subst ey eH
  cases (show u=Value.ref b from ry)
  obtain ⟨z,hd,xs,rel,dd⟩:=yZ I.hok e
  have hz:xs.length<=sizeLine:=by rw [<- Paired.length rel];exact z
  have hl:(putK kvs k v).length<=sizeLine:=by have:=Il kvs k v;omega
  refine wpAny_setItem_heap (hsz:=hz) (tupleKind_room_in1 hu) (xF I.hok eb) dd fun h' CA hs=>h _ ?_
  obtain ⟨q,es,ep,hq,h2,h3,h4,_,h5⟩:=CA
  refine Io I (by rw [e];exact True.intro) hs ⟨q,hq⟩ ⟨hl,hd,_,(rel.put k eb rv).keeps fun c ys ec=>?_,q,es,ep,hq,h2,h3,h4,h5⟩
  rw [je (EJ ec e (fun z=>nomatch z))]
  exact ec
end
section
variable {X:Cx} {pins:List (Addr×Obj)} {σ:St} {H:Hp} {s:Shared} {a:Addr} {kvs:List (Key×V)} {k:Key} {u:Value} {A:Around} {E:Value->Shared->Prop}
end
def oD (ty td:TE):TE:=fun σ H Q=>ty σ H fun y H1=>td σ H1 fun x H2=>∃ a o,x=.ref a/\pV H2 a y o/\Q (.bl (!o.isSome)) H2
def sU (td ty tv:TE):TS:=fun D σ H=>tv σ H fun v H1=>td σ H1 fun x H2=>ty σ H2 fun y H3=>∃ a H4,x=.ref a/\pW H3 a y v H4/\D.nx σ H4
section
variable {X:Cx} {o i e value:Expr} {pos pos' tpos:Pos} {td ty tv:TE}
theorem Ma (hu:X.A.units + 1 < cLine) (hi:PE X i ty) (ho:PE X o td):PC X .NotIn i o (oD ty td):=by
 intro pins s σ H Q I h
 refine cy (hi pins s σ H _ I h) fun iv s1 ⟨y,H1,I1,ry,q1⟩=>cy (ho pins s1 σ H1 _ I1 q1) fun u s2 ⟨x,H2,I2,rx,a,ov,ex,g,q2⟩=>?_
 subst ex
 obtain rfl:u=Value.ref a:=rx
 exact L8 hu I2 g ry fun s3 I3=>⟨.bl (!ov.isSome),H2,I3,rfl,q2⟩
theorem Mb (hu:X.A.units + 1 < cLine) (ho:PE X o td) (hi:PE X i ty) (hv:PE X value tv) (hs:swapsWith value (some (.Subscript o i pos')) pos.line X.env=pure false) :
  PS X (.Assign [.Subscript o i pos'] value pos) (sU td ty tv):=by
 intro pins s σ H D I h
 refine wpAny_Assign_Subscript (cy (hv pins s σ H _ I h) fun r s1 ⟨v,H1,I1,rv,q1⟩=>cy (ho pins s1 σ H1 _ I1 q1) fun u s2 ⟨x,H2,I2,rx,q2⟩=>cy (hi pins s2 σ H2 _ I2 q2) fun iv s3 ⟨y,H3,I3,ry,a,H4,ex,g,q3⟩=>?_) hs
 subst ex
 obtain rfl:u=Value.ref a:=rx
 exact L9 hu I3 g ry rv fun s4 I4=>⟨σ,H4,I4,q3⟩
end
theorem Mc {P:Program} {w:World} {H:Hp} (h:Heap) (hb:sysModules < h.objs.size):cC P w H (h.push { cls:=.type "dict",data:=.dict #[] }) h.objs.size (.dK []) :=
 ⟨Nat.zero_le _,beq_eq_false_iff_ne.mpr (Ne.symm (Nat.ne_of_lt hb)),[],.nil,Heap.DictOf.new h⟩
def pX:TE:=fun _ H Q=>∀ p,H p=none->Q (.ref p) (upd H p (.dK []))
section
variable {X:Cx} {pos:Pos}
theorem Md:PE X (.Dict [] [] pos) pX:=fun pins s σ H Q I h =>
 wpAny_Dict_empty ⟨.ref s.heap.objs.size,_,I.laid (a:=s.heap.objs.size) (o:=.dK []) (t':=s.toks) (fun _ _ q=>Heap.get?_push_of_some _ q) (Nat.le_refl _) (Mc s.heap I.big),rfl,h _ (I.hok.fresh (Nat.le_refl _))⟩
end
section
variable {X:Cx} {pins:List (Addr×Obj)} {σ:St} {H:Hp} {s:Shared} {a:Addr} {y d:V} {u r:Value} {o:Option V} {A:Around} {E:Value->Shared->Prop}
end
section
variable {X:Cx} {o e f:Expr} {apos cpos:Pos} {td ty tx:TE}
end
section
variable {X:Cx} {pins:List (Addr×Obj)} {σ:St} {H:Hp} {s:Shared} {a:Addr} {kvs:List (Key×V)} {A:Around} {E:Value->Shared->Prop}
end
section
variable {X:Cx} {pins:List (Addr×Obj)} {σ:St} {H:Hp} {s:Shared} {a:Addr} {y:V} {u:Value} {A:Around} {E:Value->Shared->Prop}
end
end L2
namespace Ip
open PySem PySem.W PySem.Calls PyProof.Rows
theorem Me {P:Params} {h:Heap}:∀ (ns:List Int) (vs:List Value),WellAll P h vs (ns.map WData.int)->IntsAre vs ns:=by
 intro ns
 induction ns with
 | nil =>
  intro vs w
  rw [List.map_nil] at w
  cases w
  exact .nil
 | cons n ns ih =>
  intro vs w
  rw [List.map_cons] at w
  cases w with
  | cons a b =>
   cases a
   exact .cons _ _ (ih _ b)
theorem Mf {l:OpenLaw} {n:Nat} (hn:l.most=some n) {P:Params} {h:Heap} {args:List WData} {vals:List Value}
  (hpre:l.row.toRowW.claim.pre args=true) (hwl:WellAll P h vals args) :
  ∃ a vs ns,vals=[Value.ref a]/\args=[WData.list (ns.map WData.int)]/\h.get? a=some { cls:=.type "list",data:=.seq vs.toArray }/\IntsAre vs ns/\ns.length<=n:=by
 have hsh:WShape.hasAll [] args [.list .int]=true:=(pre_splitW hpre).1
 have hc:l.pre.holds [] { args:=args }=true:=(pre_splitW hpre).2
 obtain ⟨d,r,rfl,h1,h2⟩:=hasAllW_cons hsh
 obtain rfl:=hasAllW_nil h2
 obtain ⟨xs,rfl,h3⟩:=hasW_list h1
 obtain ⟨ns,rfl⟩:=items_int h3
 have hlen:ns.length<=n:=by
  unfold OpenLaw.pre at hc
  have h4:(WTm.not (.lt (.lit (.int (n:Int))) (.len (.arg 0)))).holds [] { args:=[.list (ns.map .int)] }=true:=by
   have h4:=(holds_andW hc).1
   rw [hn] at h4
   exact h4
  have h5:=condW_of h4 (w_not (w_lt w_lit (w_len_list (w_arg rfl))))
  rw [List.length_map] at h5
  refine Nat.le_of_not_lt fun q=>?_
  have q':(n:Int) < ((ns.length:Nat):Int):=by omega
  first
   | (rw [decide_eq_true q'] at h5;exact absurd h5 (by decide))
   | (simp at h5;omega)
 cases hwl with
 | cons w1 w2 =>
  cases w2
  cases w1 with
  | list ho hall=>exact ⟨_,_,ns,rfl,rfl,ho,Me ns _ hall,hlen⟩
theorem Mg (l:OpenLaw) (args:List WData):l.row.toRowW.claim.post args (.bool true) args=true :=
 postW_of (r:=l.row.toRowW) (X:=(true == true))
  (show WShape.has [] (.bool true) .bool=true by first | rfl | decide | simp [WShape.has,WShape.arms,WShape.armsAll])
  (show (WTm.eq .res (.lit (.bool true))).value [] { args:=args,res:=some (.bool true),after:=args }=some (.bool (true == true)) from w_eq_bool (w_res rfl) w_lit) rfl
theorem Mh {l:OpenLaw} {n:Nat} {q:Program} {loose:List Str} {XP:(Str->Option Value)->Heap->Prop} {YP:World->Heap->Prop} {d:DefRec}
  (hn:l.most=some n) (hdf:d.params.defaults=[])
  (call:∀ (w:World) (s₀ s₁:Shared) (mg mb:Str->Option Value) (fa:Addr) (o:Obj) (pm cd doc:Value) (a:Addr) (vs:List Value) (ns:List Int),
   Ground q loose [] XP w s₀ mg mb s₁.heap->YP w s₁.heap ->
   s₁.heap.get? fa=some o->o.data=.func (docDef d.name d.params d.body d.scope pm cd doc)->s₁.heap.CodeRec cd d.name->mg d.name=some (.ref fa) ->
   s₁.heap.get? a=some { cls:=.type "list",data:=.seq vs.toArray }->IntsAre vs ns->ns.length<=n->s₁.gens=#[] ->
   codeAny (model l.prog w) callerA (.call (.ref fa) ⟨[.ref a],[]⟩) (fun r s'=>r=.ok (.ret (.bool true))/\OldK s₁.heap s'.heap/\s'.os=s₁.os/\AllBare s'.gens) s₁) :
  WalkO q loose XP YP l.row.toRowW d [] (fun f vs=>PySem.call f vs):=by
 intro w s₀ s₁ mg mb G Y fa o pm cd doc dV kV ho hd hcd hD hmg hg args vals as hpre hlay hrd hwl hlo
 obtain rfl:dV=.none:=Dflts.none hD hdf
 obtain rfl:kV=.none:=Dflts.noKw hD
 obtain ⟨a,vs,ns,rfl,rfl,hobj,hints,hlen⟩:=Mf hn hpre hwl
 refine enter_call (codeAny_mono (call w s₀ s₁ mg mb fa o pm cd doc a vs ns G Y ho (fd_plain hd) hcd hmg hobj hints hlen hg) fun r s' hq=>?_)
 obtain ⟨rfl,h2,h3,h4⟩:=hq
 exact ⟨.inl ⟨.bool true,.bool true,[],rfl,fun _=>rfl,.bool true,Mg l _,fun _=>⟨List.Pairwise.nil,fun _ hm=>(nomatch hm)⟩⟩,h2,h3,h4⟩
section
variable {prog:Program} {w:World} {A:Around} {E:Value->Shared->Prop} {s:Shared} {K:Frag}
end
end Ip
namespace L2
open PySem PySem.Spec PyProof.Rows
theorem Iq:∀ {vs:List Value} {ns:List Int},IntsAre vs ns->Vals (ns.map V.int) vs
 | _,_,.nil=>.nil
 | _,_,.cons n t h=>.cons ⟨t,rfl⟩ (Iq h)
def Only (H:Hp):Prop:=∀ b,H b=none\/∃ o xs,H b=some (.mK o (.lst xs))
theorem Mi {P:Program} {w:World} {K:PySem.W.Frag} {mg mb:Str->Option Value} {CX:o5} {k:Nat} {fa a:Addr} {fd:FuncData} {x:Str} {sp:Sp} {s₁:Shared} {vs:List Value} {ns:List Int}
  (KX:K.In s₁.heap) (hns:s₁.heap.Ns mainGlobals mg) (hb:s₁.heap.Ns builtinsNs mb) (Mj:∀ x:Str,x≠"__name__" -> mb x=bootBuiltins x) (hlim:s₁.heap.NoLimit) (hg:s₁.gens=#[])
  (ha:s₁.heap.get? a=some { cls:=.type "list",data:=.seq vs.toArray }) (hi:IntsAre vs ns) (hl:ns.length<=sizeLine) (hr:gw k callerA)
  (F:∀ base:Heap,K.In base->base.Ns mainGlobals mg->aD P w K mg base CX k fa fd [x] sp) (hbind:∀ (s:Shared) (u:Value),BindsTo s fd ⟨[u],[]⟩ [(x,u)])
  (qM:∀ H:Hp,Only H->jf K H a (ns.map V.int)->sp [.ref a] H (fun v _=>v=.bl true) fun _ _ _=>False)
  (y2:∀ H e s',CX [] H s₁ (fun _ _ _=>False) e s'->False) :
  codeAny (model P w) callerA (.call (.ref fa) ⟨[.ref a],[]⟩) (fun r s'=>r=.ok (.ret (.bool true))/\OldK s₁.heap s'.heap/\s'.os=s₁.os/\AllBare s'.gens) s₁:=by
 have rv:=Iq hi
 have Fi:=hi.length
 have core:∀ H:Hp,Only H->jf K H a (ns.map V.int)->j8 P w H s₁.heap->(∀ b,H b≠none->b=a)->(H a≠none->K.lookup a=none) ->
   codeAny (model P w) callerA (.call (.ref fa) ⟨[.ref a],[]⟩) (fun r s'=>r=.ok (.ret (.bool true))/\OldK s₁.heap s'.heap/\s'.os=s₁.os/\AllBare s'.gens) s₁:=by
  intro H hO hS hok hA hK
  have oE:∀ {b:Addr} {o:Obj},s₁.heap.get? b=some o->H b=none->(mM s₁.heap H).get? b=some o:=fun e n=>LA e n
  have yN:∀ {b:Addr} {o:Obj} {es:Array DictEntry} {ep:Nat},s₁.heap.get? b=some o->o.data=.dict es ep->H b=none:=fun {b o es ep} e d=>by
   cases q:H b with
   | none=>rfl
   | some u =>
    have e':b=a:=hA b (by rw [q];simp)
    subst e'
    rw [ha] at e;cases e
    have d':Data.seq vs.toArray _=Data.dict es ep:=d
    cases d'
  have CB:∀ {b:Addr} {m:Str->Option Value},s₁.heap.Ns b m->(mM s₁.heap H).Ns b m:=fun {b m} ⟨o,es,ep,e,d,r⟩=>⟨o,es,ep,oE e (yN e d),d,r⟩
  have Ir:K.In (mM s₁.heap H):=fun b o e=>oE (KX b o e) (by
   cases q:H b with
   | none=>rfl
   | some u =>
    have e':b=a:=hA b (by rw [q];simp)
    subst e'
    rw [hK (by rw [q];simp)] at e;cases e)
  have hM:Mod K mg (mM s₁.heap H):=⟨Ir,CB hns,⟨mb,CB hb,Mj⟩,let ⟨mc,h1,h2⟩:=hlim;⟨mc,CB h1,h2⟩⟩
  have e0:rA P w K mg (mM s₁.heap H) callerA [] s₁ H:=⟨rfl,hM,fun b o e=>LB e,Nat.le_of_eq (Lz _ _),trivial,fun b hb=>absurd (show b∈([]:List Addr) from hb) (by simp),hok,.of_eq hg⟩
  refine codeAny_mono ((F _ Ir (CB hns)).run callerA [] s₁ H ⟨[.ref a],[]⟩ [.ref a] [.ref a] _ _ hr e0 (hbind s₁ (.ref a)) (.cons rfl .nil) (qM H hO hS)) fun r s' h=>?_
  cases r with
  | error e=>exact (y2 H e s' h).elim
  | ok fl =>
   cases fl with
   | next=>exact False.elim h
   | brk=>exact False.elim h
   | cont=>exact False.elim h
   | ret u =>
    obtain ⟨v,H',os,bare,un,Fj,r',q⟩:=h
    have q':v=.bl true:=q
    subst q'
    obtain rfl:u=Value.bool true:=r'
    refine ⟨rfl,OldK.of_keep fun b o e=>?_,os,bare⟩
    cases q:H b with
    | none=>exact un.keep b o e q (by intro z;exact absurd (show b∈([]:List Addr) from z) (by simp)) (by simp)
    | some u =>
     rcases hO b with z | ⟨ob,xs,z⟩
     ·rw [q] at z;cases z
     ·have z2:=un.mL b ob _ z
      obtain ⟨e1,_⟩:=hok b _ z
      obtain ⟨e2,_⟩:=Fj b _ z2
      rw [e] at e1;cases e1
      exact e2
 cases hk:K.lookup a with
 | some o =>
  have e:=KX a o hk
  rw [ha] at e
  cases e
  refine core (fun _=>none) (fun _=>.inl rfl) (.inr ⟨_,vs.toArray,_,hk,rfl,rfl,rfl,by rw [List.size_toArray,Fi];exact hl,by simpa using rv⟩) (fun b u z=>by have z':(none:Option HO)=some u:=z;cases z') (fun b z=>absurd rfl z) fun z=>absurd rfl z
 | none =>
  refine core (fun b=>if b=a then some (.mK { cls:=.type "list",data:=.seq vs.toArray } (.lst (ns.map V.int))) else none) (fun b=>?_) (.inl (.inr ⟨{ cls:=.type "list",data:=.seq vs.toArray },if_pos rfl⟩)) (fun b u z=>?_) (fun b z=>?_) fun _=>hk
  ·by_cases hb:b=a
   ·exact .inr ⟨_,_,if_pos hb⟩
   ·exact .inl (if_neg hb)
  ·by_cases hb:b=a
   ·have z':=(if_pos hb).symm.trans z
    cases z'
    subst hb
    exact ⟨ha,by rw [List.length_map];exact hl,vs,_,rv,ha⟩
   ·have z':=(if_neg hb).symm.trans z
    cases z'
  ·by_cases hb:b=a
   ·exact hb
   ·exact absurd (if_neg hb) z
end L2
namespace L2
open PySem PySem.Spec PyProof.Rows
abbrev KOf {K:PySem.W.Frag} {h:Heap} (_:K.In h):PySem.W.Frag:=K
theorem Mk {l:PySem.W.OpenLaw} {n k:Nat} {q:Program} {loose:List Str} {XP:(Str->Option Value)->Heap->Prop} {YP:World->Heap->Prop} {d:DefRec} {K:Params->PySem.W.Frag} {CX:World->o5} {sp:World->Sp} {x:Str}
  (hn:l.most=some n) (hn2:n<=sizeLine) (hdf:d.params.defaults=[]) (hr:gw k callerA)
  (hY:∀ (w:World) (h:Heap),YP w h->(K w.params).In h)
  (F:∀ (w:World) (mg:Str->Option Value) (fa:Addr) (h:Heap),(K w.params).In h->h.Ns mainGlobals mg->mg d.name=some (.ref fa) ->
   ∃ fd:FuncData,(∀ (s:Shared) (u:Value),BindsTo s fd ⟨[u],[]⟩ [(x,u)]) /\
    ∀ base:Heap,(K w.params).In base->base.Ns mainGlobals mg->aD l.prog w (K w.params) mg base (CX w) k fa fd [x] (sp w))
  (qM:∀ (w:World) (H:Hp) (a:Addr) (ns:List Int),ns.length<=n->Only H->jf (K w.params) H a (ns.map V.int)->sp w [.ref a] H (fun v _=>v=.bl true) fun _ _ _=>False)
  (y2:∀ (w:World) (H:Hp) (s:Shared) (e:Value) (s':Shared),CX w [] H s (fun _ _ _=>False) e s'->False) :
  PySem.W.WalkO q loose XP YP l.row.toRowW d [] (fun f vs=>PySem.call f vs):=by
 refine Ip.Mh hn hdf fun w s₀ s₁ mg mb fa o pm cd doc a vs ns G Y ho hd hcd hmg hobj hints hlen hg=>?_
 have KX:=hY w _ Y
 obtain ⟨fd,hb,hF⟩:=F w mg fa _ KX G.T.g hmg
 exact Mi KX G.T.g G.T.b G.T.builtins G.T.nolimit hg hobj hints (Nat.le_trans hlen hn2) hr hF hb (fun H hO hS=>qM w H a ns hlen hO hS) fun H e s'=>y2 w H s₁ e s'
theorem Ml {l:PySem.W.OpenLaw} {n k:Nat} {q:Program} {loose:List Str} {XP:(Str->Option Value)->Heap->Prop} {YP:World->Heap->Prop} {d:DefRec} {K:Params->PySem.W.Frag} {CX:o5} {sp:PySem.W.Frag->Sp} {x:Str}
  (hn:l.most=some n) (hn2:n<=sizeLine) (hdf:d.params.defaults=[]) (hr:gw k callerA)
  (hY:∀ (w:World) (h:Heap),YP w h->(K w.params).In h)
  (F:∀ (w:World) (mg:Str->Option Value) (fa:Addr) (h:Heap),(K w.params).In h->h.Ns mainGlobals mg->mg d.name=some (.ref fa) ->
   ∃ fd:FuncData,(∀ (s:Shared) (u:Value),BindsTo s fd ⟨[u],[]⟩ [(x,u)]) /\
    ∀ base:Heap,(K w.params).In base->base.Ns mainGlobals mg->aD l.prog w (K w.params) mg base CX k fa fd [x] (sp (K w.params)))
  (qM:∀ (K:PySem.W.Frag) (H:Hp) (a:Addr) (ns:List Int),ns.length<=n->Only H->jf K H a (ns.map V.int)->sp K [.ref a] H (fun v _=>v=.bl true) fun _ _ _=>False)
  (y2:∀ (H:Hp) (s:Shared) (e:Value) (s':Shared),CX [] H s (fun _ _ _=>False) e s'->False) :
  PySem.W.WalkO q loose XP YP l.row.toRowW d [] (fun f vs=>PySem.call f vs) :=
 Mk (K:=K) (CX:=fun _=>CX) (sp:=fun w=>sp (K w.params)) hn hn2 hdf hr hY F (fun w H a ns h1 h2 h3=>qM (K w.params) H a ns h1 h2 h3) fun _ H s e s'=>y2 H s e s'
end L2
namespace L2
open PySem PySem.Spec PyProof.Rows
def kb (s:Stmt):Arguments:=match s with
 | .FunctionDef _ a _ _ _ _ _ _ _ _=>a
 | _=>{ posonlyargs:=[],args:=[],vararg:=none,kwonlyargs:=[],kw_defaults:=[],kwarg:=none,defaults:=[] }
def jg (s:Stmt):List Stmt:=match s with
 | .FunctionDef _ _ b _ _ _ _ _ _ _=>b
 | _=>[]
def av (s:Stmt):Scope:=match s with
 | .FunctionDef _ _ _ _ _ _ sc _ _ _=>sc
 | _=>{ kind:=.function,names:=[],isGenerator:=false,isCoroutine:=false }
abbrev bh:o5:=fun _ _ _ _ _ _=>False
abbrev E0:XK:=fun _ _ _=>False
theorem aC {X:Cx}:Passes bh X E0:=fun _ _ _ _ _ _ _ h=>h.elim
structure CC (K:PySem.W.Frag) (x qual:Str) (st:Stmt) (f:Addr) (fd:FuncData):Prop where
 ex:∃ (oc:Value) (od:Option Addr) (kV doc pm:Value) (an:Option Addr) (cdv ct:Value) (osl:Array (Option Value)),
  fd=PySem.W.fnOf x qual (kb st) (jg st) (av st) .none kV doc pm an cdv ct/\K.lookup f=some ⟨oc,od,.func fd,osl⟩/\PySem.W.codeIn K cdv qual=true
 kp:PySem.W.keepIn K (.ref f)=true
section
variable {P:Program} {w:World} {K:PySem.W.Frag} {mg:Str->Option Value} {base:Heap}
theorem CC.ok {x qual:Str} {st:Stmt} {f:Addr} {fd:FuncData} {N ps:List Str} {k:Nat} {sp:Sp} (F:CC K x qual st f fd) (S:az N ps (av st)) (len:∀ vs H Q E,sp vs H Q E->vs.length=ps.length)
  (hbody:∀ (cdv:Value) (A:Around) (outer:List Env) (s:Shared) (H:Hp) (vs:List V) (Q:VK) (E:XK),gw k (A.deeper (envOfC qual (av st) s.heap.objs.size f cdv))->sp vs H Q E ->
   ∃ t,oZ (gJ bh P w K mg base N qual (av st) f cdv A outer s H E).nM (jg st) t/\t { nx:=fun _ H'=>Q .non H',rt:=Q } (start N vs) H):aD P w K mg base bh (k + 1) f fd ps sp:=by
 obtain ⟨oc,od,kV,doc,pm,an,cdv,ct,osl,rfl,lk,hcd⟩:=F.ex
 refine yO lk hcd S len fun A outer s H vs Q E hr qM=>?_
 obtain ⟨t,h,q⟩:=hbody cdv A outer s H vs Q E hr qM
 exact ⟨t,h.nM,q⟩
theorem uV {x qual:Str} {st:Stmt} {f:Addr} {oc:Value} {od an:Option Addr} {osl:Array (Option Value)} {kV doc pm cdv ct:Value} (l:K.lookup f=some ⟨oc,od,.func (PySem.W.fnOf x qual (kb st) (jg st) (av st) .none kV doc pm an cdv ct),osl⟩)
  (c:PySem.W.codeIn K cdv qual=true) (k:PySem.W.keepIn K (.ref f)=true):CC K x qual st f (PySem.W.fnOf x qual (kb st) (jg st) (av st) .none kV doc pm an cdv ct):=⟨⟨oc,od,kV,doc,pm,an,cdv,ct,osl,rfl,l,c⟩,k⟩
end
theorem e8 {A:Around} {k:Nat} (hr:gw k A):A.units + 1 < cLine:=Nat.lt_of_le_of_lt (Nat.add_le_add_left (by decide:1<=64) _) hr.units
section
variable {X:Cx}
theorem pv (i:Nat) {x:Str} {pos:Pos} (hN:X.N[i]?=some x:=by rfl) (hv:EM X.env.scope x:=by first | exact Or.inl rfl | exact Or.inr (Or.inl rfl) | exact Or.inr (Or.inr rfl)) (hd:(x == ("__debug__" : Str))=false:=by decide)
  (hcd:(x == ("__classdict__" : Str))=false:=by decide):PE X (.Name x pos) (uB i):=uC hN hv hd hcd
end
theorem o6 {A B:Prop} (h:B):if false=true then A else B:=by
 rw [if_neg Bool.false_ne_true]
 exact h
theorem o7 {A B:Prop} (h:A):if true=true then A else B:=by
 rw [if_pos rfl]
 exact h
def iE (H H':Hp):Prop:=∀ b o,H b=some o->H' b=some o
theorem iE.refl (H:Hp):iE H H:=fun _ _ h=>h
section
variable {X:Cx}
end
section
variable {κ:Type} [DecidableEq κ]
end
end L2
namespace L2
open PySem PySem.Spec PyProof.Rows
theorem lx:bootBuiltins "len" = some (.builtin "len"):=by decide +kernel
theorem Iu:bootBuiltins "int" = some (.type "int"):=by decide +kernel
theorem o8:bootBuiltins "list" = some (.type "list"):=by decide +kernel
theorem mN:bootBuiltins "tuple" = some (.type "tuple"):=by decide +kernel
theorem qO:bootBuiltins "range" = some (.type "range"):=by decide +kernel
theorem uW:bootBuiltins "max" = some (.builtin "max"):=by decide +kernel
theorem Fm:bootBuiltins "min" = some (.builtin "min"):=by decide +kernel
theorem Iv:bootBuiltins "repr" = some (.builtin "repr"):=by decide +kernel
theorem Mm:bootBuiltins "reversed" = some (.type "reversed"):=by decide +kernel
structure Kp (ch:List Addr) (H H':Hp):Prop where
 keep:∀ b o,H b=some o->b ∉ ch->H' b=some o
 tup:∀ b xs,H b=some (.tup xs)->H' b=some (.tup xs)
 mK:∀ b o u,H b=some (.mK o u)->H' b=some (.mK o u)
section
variable {ch:List Addr} {H H1 H2:Hp} {a l p:Addr} {o:HO} {xs ys:List V} {K:PySem.W.Frag}
theorem Kp.refl:Kp ch H H:=⟨fun _ _ h _=>h,fun _ _ h=>h,fun _ _ _ h=>h⟩
theorem Kp.of_same (h:iE H H1):Kp ch H H1:=⟨fun b o e _=>h b o e,fun b xs e=>h b _ e,fun b o u e=>h b _ e⟩
theorem Kp.put (h:Kp ch H H1) (ha:a∈ch) (e:H1 a=some (.lst xs)):Kp ch H (upd H1 a o) :=
 ⟨fun b u q n=>by rw [je (fun z=>n (by rw [z];exact ha))];exact h.keep b u q n,
   fun b u q=>by
  have r:=h.tup b u q
  rw [je (EJ r e (by intro z;cases z))];exact r,
   fun b u v q=>by
  have r:=h.mK b u v q
  rw [je (EJ r e (by intro z;cases z))];exact r⟩
theorem Kp.Fn (h:Kp ch H H1) (q:d9 K H a xs):d9 K H1 a xs:=by
 rcases q with (q | ⟨o,q⟩) | q
 ·exact .inl (.inl (h.tup a xs q))
 ·exact .inl (.inr ⟨o,h.mK a o _ q⟩)
 ·exact .inr q
def y3 (K:PySem.W.Frag) (H:Hp) (a:Addr) (xs:List V):Prop :=
 (∃ o,H a=some (.mK o (.lst xs))) \/
  ∃ (o:Obj) (its:Array Value) (n:Nat),K.lookup a=some o/\o.cls=.type "list" /\ o.dict=none/\o.data=.seq its n/\its.size<=sizeLine/\Vals xs its.toList
theorem y3.sq (h:y3 K H a xs):jf K H a xs:=h.elim (fun ⟨o,e⟩=>.inl (.inr ⟨o,e⟩)) .inr
theorem jf.script (hO:Only H) (q:jf K H a xs):y3 K H a xs:=by
 rcases q with (q | ⟨o,q⟩) | q
 ·rcases hO a with e | ⟨o,ys,e⟩
  ·rw [e] at q;cases q
  ·rw [e] at q;cases q
 ·exact .inl ⟨o,q⟩
 ·exact .inr q
theorem iE.up (h:H p=none):iE H (upd H p o):=fun b u e=>by rw [je (xu e h)];exact e
end
def mO (K:PySem.W.Frag) (H:Hp) (xs:List V) (Q:VK):Prop:=∀ p H',d9 K H' p xs->iE H H'->Q (.ref p) H'
section
variable {X:Cx}
theorem mO.new {K:PySem.W.Frag} {H:Hp} {xs:List V} {Q:VK} (h:mO K H xs Q):∀ p,H p=none->Q (.ref p) (upd H p (.tup xs)):=fun p hp=>h p _ (d9.of pk) (iE.up hp)
theorem mO.it {K:PySem.W.Frag} {H:Hp} {xs:List V} {Q:VK} {a:Addr} (h:mO K H xs Q) (q:d9 K H a xs):Q (.ref a) H:=h a H q (iE.refl H)
def pY (K:PySem.W.Frag):R2:=fun x y H Q=>∃ a b xs ys,x=.ref a/\y=.ref b/\d9 K H a xs/\d9 K H b ys/\xs.length + ys.length<=sizeLine/\mO K H (xs ++ ys) Q
theorem rD:kq X (binaryOp .Add) (pY X.K):=by
 intro pins s σ H x y v u Q I rx ry h
 obtain ⟨a,b,xs,ys,rfl,rfl,ha,hb,hz,q⟩:=h
 by_cases hx:xs=[]
 ·subst hx
  cases rx
  cases ry
  obtain ⟨its,r1,p1,_⟩:=I.tuple ha
  obtain ⟨its2,r2,p2,_⟩:=I.tuple hb
  have e:its=[]:=r1.ka.mpr rfl
  subst e
  obtain ⟨⟨cls,dd,data,sl⟩,ho,hc,n,hd⟩:=id p1
  obtain ⟨⟨E3,dd2,data2,sl2⟩,ho2,hc2,n2,hd2⟩:=id p2
  simp only at hc hd hc2 hd2
  subst hc hd hc2 hd2
  exact concat_meets ⟨_,ho,rfl⟩ ⟨_,ho2,rfl⟩ noFill_tuple_add seq_tuple_add PySem.F.slot_tuple_add PySem.F.entry_tuple_add (PySem.F.args_tuple_add_2 _ _)
   (tuple_addW0 a b #[] its2.toArray n n2 dd dd2 sl sl2 (by simp)) ⟨ho,ho2,⟨.ref b,H,I,rfl,q.it (by simpa using hb)⟩⟩
 ·exact LY pins s σ H _ _ v u Q I rx ry ⟨a,b,xs,ys,rfl,rfl,ha,hb,hx,hz,fun e=>q.it (by subst e;simpa using ha),fun _=>q.new⟩
theorem Mp {prog:Program} {w:World} {A:Around} {E:Value->Shared->Prop} {s:Shared} {t sl:Addr} {items:Array Value} {vl vu:Value} {lo hi:Option Int} {Q:Value->Shared->Prop} (ht:IsTup s.heap t items) (hs:s.heap.IsSliceOf sl vl vu .none) (pl:IsPart vl lo) (pu:IsPart vu hi)
  (hw:HT.cD items.size 0 lo=0/\HT.cD items.size items.size hi=items.size) (h:Q (.ref t) s):wpAny (model prog w) A (getItem (.ref t) (.ref sl)) Q E s:=by
 obtain ⟨os,hos,hcs,hds⟩:=id hs
 have E4:s.TypeIs (.ref sl) "slice" := ⟨os,hos,hcs⟩
 unfold getItem
 try with_reducible refine wpAny_holding ?_
 first | refine wpAny_bind (wpAny_pure ?_) | skip
 refine wpAny_bind (wpAny_sequenceKey ht.typeIs (by decide) ?_)
 refine wpAny_bind (wpAny_callSpecial?_slot (name:=Str.ofString "__getitem__") ht.typeIs PyProof.Rows.slot_tuple_getitem
  (wpAny_call_entry PyProof.Rows.slot_tuple_getitem ht.typeIs entry_tuple_getitem ?_ (args_tuple_getitem _ _)))
 show wpAny _ _ (Builtin.Tuple.tupleItemsOf (.ref t) >>= _) _ _ s
 refine wpAny_bind (tupleItemsOf_ ht ?_)
 refine wpAny_bind (wpAny_typeOf E4 ?_)
 rw [if_pos (by decide)]
 refine wpAny_bind (HT.HW hs pl pu ?_)
 have hyes:((((HT.cD items.size 0 lo:Nat):Int) == 0 && (1:Int) == 1 && (HT.cD items.size items.size hi - HT.cD items.size 0 lo) == items.size)=true):=by
  rw [hw.1,hw.2];simp
 show wpAny _ _ (if (((HT.cD items.size 0 lo:Nat):Int) == 0 && (1:Int) == 1 && (HT.cD items.size items.size hi - HT.cD items.size 0 lo) == items.size)=true then _ else _) _ _ s
 rw [if_pos hyes]
 obtain ⟨o,ho,hc,n,hd⟩:=id ht
 unfold Builtin.Tuple.tupleIsExact
 first
  | exact wpAny_bind (wpAny_bind (wpAny_typeOf (T:="tuple") ⟨o,ho,hc⟩ (wpAny_pure (wpAny_bind (wpAny_rule (wpAny_pure ⟨_,rfl,wpAny_pure h⟩))))))
  | exact wpAny_bind (wpAny_bind (wpAny_typeOf (T:="tuple") ⟨o,ho,hc⟩ (wpAny_pure (wpAny_bind (wpAny_rule (wpAny_bind (wpAny_pure ⟨_,rfl,wpAny_pure h⟩)))))))
  | trace_state
def sW (K:PySem.W.Frag):V->Option Int->Option Int->Hp->VK->Prop:=fun x lo hi H Q=>∃ a xs,x=.ref a/\d9 K H a xs/\mO K H (lM xs lo hi) Q
theorem Mq {xs:List V} {lo hi:Option Int} (h:HT.cD xs.length 0 lo=0/\HT.cD xs.length xs.length hi=xs.length):lM xs lo hi=xs:=by
 unfold lM;rw [h.1,h.2];simp
theorem Fp:Cv X (sW X.K):=by
 intro pins s σ H x v vl vu lo hi sl Q I rx hs pl pu h
 obtain ⟨a,xs,rfl,hx,q⟩:=h
 by_cases hw:HT.cD xs.length 0 lo=0/\HT.cD xs.length xs.length hi=xs.length
 ·cases rx
  obtain ⟨its,r,ht,hz⟩:=I.tuple hx
  have hlen:its.toArray.size=xs.length:=by rw [List.size_toArray];exact r.length.symm
  refine ⟨"tuple",_,PyProof.Rows.slot_tuple_getitem.lookup,ht.typeIs,?_⟩
  exact Mp ht hs pl pu (by rw [hlen];exact hw) ⟨.ref a,H,I,rfl,q.it (by rw [Mq hw];exact hx)⟩
 ·exact uO pins s σ H _ v vl vu lo hi sl Q I rx hs pl pu ⟨a,xs,rfl,hx,hw,q.new⟩
def fe (lo:Int) (n:Nat):List V:=(List.range n).map fun (k:Nat)=>V.int (lo + k)
theorem Mr (lo:Int) (n:Nat):(fe lo n).length=n:=by simp [fe]
theorem CD:e7 X (.type "range") (fun xs H Q=>∃ j:Int,xs=[.int j]/\∀ p,H p=none->Q (.ref p) (upd H p (.iF 0 j))):=by
 intro pins s σ H xs us Q I r h
 obtain ⟨j,rfl,q⟩:=h
 obtain ⟨u,rfl,t,rfl⟩:=vals1 r
 refine call_range_1 ⟨.ref s.heap.objs.size,_,I.laid (o:=.iF 0 j) (fun b o e=>Heap.get?_push_of_some _ e) (Nat.le_refl _) ?_,rfl,q _ (I.hok.fresh (Nat.le_refl _))⟩
 exact ⟨_,_,_,Heap.get?_push_size _ rfl⟩
theorem xG:e7 X (.type "range") (fun xs H Q=>∃ i j:Int,xs=[.int i,.int j]/\∀ p,H p=none->Q (.ref p) (upd H p (.iF i j))):=by
 intro pins s σ H xs us Q I r h
 obtain ⟨i,j,rfl,q⟩:=h
 obtain ⟨u,u',rfl,⟨t,rfl⟩,t',rfl⟩:=vals2 r
 refine call_range_2 ⟨.ref s.heap.objs.size,_,I.laid (o:=.iF i j) (fun b o e=>Heap.get?_push_of_some _ e) (Nat.le_refl _) ?_,rfl,q _ (I.hok.fresh (Nat.le_refl _))⟩
 exact ⟨_,_,_,Heap.get?_push_size _ rfl⟩
theorem Iw:∀ (n:Nat) (lo:Int) (us:List Value),us.length=n->(∀ (j:Nat) (v:Value),us[j]?=some v->∃ t,v=.int (lo + j * 1) t)->Vals (fe lo n) us
 | 0,lo,[],_,_=>.nil
 | 0,lo,_ :: _,h,_=>by simp at h
 | n + 1,lo,[],h,_=>by simp at h
 | n + 1,lo,u :: us,h,hv=>by
  have e:fe lo (n + 1)=V.int lo :: fe (lo + 1) n:=by
   unfold fe
   rw [List.range_succ_eq_map,List.map_cons,List.map_map]
   congr 1
   ·simp
   ·apply List.map_congr_left
    intro i _
    simp only [Function.comp]
    congr 1
    push_cast
    omega
  rw [e]
  obtain ⟨t,ht⟩:=hv 0 u rfl
  refine .cons ⟨t,by rw [ht];simp⟩ (Iw n (lo + 1) us (by simpa using h) fun j v hj=>?_)
  obtain ⟨t',ht'⟩:=hv (j + 1) v hj
  refine ⟨t',ht'.trans ?_⟩
  congr 1
  omega
theorem qP (hc:X.calm=true):e7 X (.type "list") (fun xs H Q=>∃ p lo hi,xs=[.ref p]/\H p=some (.iF lo hi)/\(-(2 ^ 62)<=lo/\lo < 2 ^ 62/\-(2 ^ 62)<=hi/\hi < 2 ^ 62)/\(hi - lo).toNat<=2 ^ 24 /\
  ∀ l,H l=none->Q (.ref l) (upd H l (.lst (fe lo (hi - lo).toNat)))):=by
 intro pins s σ H xs us Q I r h
 obtain ⟨p,lo,hi,rfl,hp,⟨b1,b2,b3,b4⟩,hz,q⟩:=h
 obtain ⟨u,rfl,ru⟩:=vals1 r
 cases ru
 obtain ⟨t,t',t'',e⟩:=(show cC X.prog X.w H s.heap p (.iF lo hi) from I.hok p _ hp)
 refine call_list_range (a:=lo) (b:=hi) (c:=1) (n:=(hi - lo).toNat) (I.ok.hd hc) (show IsRange s.heap p lo hi 1 t t' t'' from e) (small_one b1 b2 b3 b4) (by rw [rangeSize_one];split <;> omega) hz fun h' tk acc c kp hD hI=>?_
 refine ⟨.ref s.heap.objs.size,_,I.laid (t':=tk) (o:=.lst (fe lo (hi - lo).toNat)) kp (Nat.le_refl _) ?_,rfl,q _ (I.hok.fresh (Nat.le_refl _))⟩
 refine ⟨by rw [Mr];exact Nat.le_trans hz (by decide),acc.toList,c,Iw _ _ _ (by rw [Array.length_toList];exact hI.1) fun j v hj=>hI.2 j v (by rw [<- hj,Array.getElem?_toList]),by simpa using hD⟩
end
mutual
inductive Rep (K:PySem.W.Frag) (H:Hp):V->PyData->Prop
 | non:Rep K H .non .none
 | bl (b:Bool):Rep K H (.bl b) (.bool b)
 | int (i:Int):Rep K H (.int i) (.int i)
 | str (x:Str):Rep K H (.str x) (.str x)
 | tup {a:Addr} {xs:List V} {ds:List PyData}:d9 K H a xs->iI K H xs ds->Rep K H (.ref a) (.tuple ds)
 | lst {a:Addr} {xs:List V} {ds:List PyData}:jf K H a xs->iI K H xs ds->Rep K H (.ref a) (.list ds)
inductive iI (K:PySem.W.Frag) (H:Hp):List V->List PyData->Prop
 | nil:iI K H [] []
 | cons {v:V} {vs:List V} {d:PyData} {ds:List PyData}:Rep K H v d->iI K H vs ds->iI K H (v :: vs) (d :: ds)
end
section
variable {X:Cx} {pins:List (Addr×Obj)} {σ:St} {H:Hp} {s:Shared}
mutual
theorem Rep.reads (I:Inv X pins σ H s):∀ {v:V} {d:PyData} {u:Value},Rep X.K H v d->RelV v u->∃ as,Reads s.heap u d as
 | _,_,_,.non,r=>by cases r;exact ⟨_,.none⟩
 | _,_,_,.bl b,r=>by cases r;exact ⟨_,.bool b⟩
 | _,_,_,.int i,r=>by obtain ⟨t,rfl⟩:=r;exact ⟨_,.int i t⟩
 | _,_,_,.str x,r=>by obtain ⟨t,rfl⟩:=r;exact ⟨_,.str x t⟩
 | _,_,_,.tup q rs,r=>by
  cases r
  obtain ⟨its,rv,⟨o,e,c,n,hd⟩,_⟩:=I.tuple q
  obtain ⟨as,ra⟩:=iI.reads I rs rv
  exact ⟨_,.tuple e c hd (by simpa using ra)⟩
 | _,_,_,.lst q rs,r=>by
  cases r
  obtain ⟨its,rv,pl,_⟩:=I.list q
  obtain ⟨o,e,c,n,hd⟩:=pl.isList
  obtain ⟨as,ra⟩:=iI.reads I rs rv
  exact ⟨_,.list e c hd (by simpa using ra)⟩
theorem iI.reads (I:Inv X pins σ H s):∀ {vs:List V} {ds:List PyData} {us:List Value},iI X.K H vs ds->Vals vs us->∃ as,ReadsAll s.heap us ds as
 | _,_,_,.nil,r=>by cases r;exact ⟨_,.nil⟩
 | _,_,_,.cons h t,r=>by
  cases r with
  | cons r1 r2 =>
   obtain ⟨as,h1⟩:=Rep.reads I h r1
   obtain ⟨bs,h2⟩:=iI.reads I t r2
   exact ⟨_,.cons h1 h2⟩
end
def y4 (K:PySem.W.Frag) (neg:Bool):R2:=fun x y H Q=>∃ d e,Rep K H x d/\Rep K H y e/\PyData.canLay0 d=true/\PyData.canLay0 e=true/\min d.depth e.depth<=60/\Q (.bl (if neg then !PyData.eqv d e else PyData.eqv d e)) H
theorem uX (hu:X.A.units + 64 < cLine):kq X (compareOp .NotEq) (y4 X.K true):=by
 intro pins s σ H x y v u Q I rx ry h
 obtain ⟨d,e,hd,he,c1,c2,dp,q⟩:=h
 obtain ⟨as,ra⟩:=hd.reads I rx
 obtain ⟨bs,rb⟩:=he.reads I ry
 exact SeqAt.neOverData X.prog X.w X.A X.xe s v u d e as bs _ ra rb c1 c2 (by omega) ⟨.bl _,H,I,rfl,q⟩
end
section
variable {K:PySem.W.Frag} {H:Hp}
def bI (ns:List Int):List PyData:=ns.map PyData.int
theorem iI.ints:∀ (ns:List Int),iI K H (ns.map V.int) (bI ns)
 | []=>.nil
 | n :: r=>.cons (.int n) (iI.ints r)
theorem rE:∀ (ns:List Int),PyData.canLayAll0 (bI ns)=true
 | []=>rfl
 | n :: r=>by show (true && PyData.canLayAll0 (bI r))=true;rw [rE r];rfl
theorem uY:∀ (ns:List Int),PyData.depthAll (bI ns)=0
 | []=>rfl
 | n :: r=>by show max 0 (PyData.depthAll (bI r))=0;rw [uY r];rfl
theorem uZ:∀ (ns ms:List Int),PyData.eqvAll (bI ns) (bI ms)=decide (ns=ms)
 | [],[]=>rfl
 | [],_ :: _=>rfl
 | _ :: _,[]=>rfl
 | n :: ns,m :: ms=>by
  show ((n == m) && PyData.eqvAll (bI ns) (bI ms))=decide (n :: ns=m :: ms)
  rw [uZ ns ms]
  by_cases h:n=m
  ·subst h;simp
  ·simp [h]
end
end L2
namespace L2
open PySem PySem.Spec PyProof.Rows
structure Def (K:PySem.W.Frag) (mg:Str->Option Value) (x:Str) (st:Stmt) (ps:List Str) (f:Addr) (fd:FuncData):Prop where
 F:CC K x x st f fd
 be:∀ us:List Value,us.length=ps.length->bindArgs fd ⟨us,[]⟩=pure (ps.zip us)
 m:mg x=some (.ref f)
theorem Def.b {K:PySem.W.Frag} {mg:Str->Option Value} {x:Str} {st:Stmt} {ps:List Str} {f:Addr} {fd:FuncData} (D:Def K mg x st ps f fd):Binds K fd ps []:=.all D.be
theorem fg {K:PySem.W.Frag} {h:Heap} {mg:Str->Option Value} (X:K.In h) (G:h.Ns mainGlobals mg) {x:Str} {st:Stmt} {ps:List Str} {f:Addr} {oc:Value} {od an:Option Addr} {osl:Array (Option Value)} {kV doc pm cdv ct:Value}
  (hb:∀ (kV doc pm:Value) (an:Option Addr) (cdv ct:Value) (us:List Value),us.length=ps.length->bindArgs (PySem.W.fnOf x x (kb st) (jg st) (av st) .none kV doc pm an cdv ct) ⟨us,[]⟩=pure (ps.zip us))
  (a:PySem.W.nsIn K mainGlobals x=some (some (.ref f))) (l:K.lookup f=some ⟨oc,od,.func (PySem.W.fnOf x x (kb st) (jg st) (av st) .none kV doc pm an cdv ct),osl⟩)
  (c:PySem.W.codeIn K cdv x=true) (k:PySem.W.keepIn K (.ref f)=true):∃ f fd,Def K mg x st ps f fd :=
 ⟨f,_,uV l c k,hb kV doc pm an cdv ct,PySem.W.mg_of X G a⟩
theorem Def.rF {K:PySem.W.Frag} {mg:Str->Option Value} {x p:Str} {st:Stmt} {f:Addr} {fd:FuncData} (D:Def K mg x st [p] f fd) (s:Shared) (u:Value):BindsTo s fd ⟨[u],[]⟩ [(p,u)]:=.of_eq (D.be [u] rfl)
theorem qQ {K:PySem.W.Frag} {h:Heap} {mg:Str->Option Value} (X:K.In h) (G:h.Ns mainGlobals mg) {x:Str} (z:PySem.W.nsIn K mainGlobals x=some none):mg x=none:=PySem.W.mg_none_of X G z
theorem y6 {n j:Nat} (h:j < n):kX n (j:Int)=some j:=by
 unfold kX
 rw [if_pos (by omega),if_pos (by omega)]
 simp
theorem u3 {α:Type} {xs:List α} {i:Int} (h0:0<=i) (h1:i < xs.length):∃ v,gK xs i=some v/\v∈xs:=by
 have hi:i.toNat < xs.length:=by omega
 refine ⟨xs[i.toNat],?_,List.getElem_mem hi⟩
 have:=xC (xs:=xs) (j:=i.toNat) (v:=xs[i.toNat]) (by simp [hi])
 rwa [Int.toNat_of_nonneg h0] at this
theorem dT {c:Prop} [Decidable c] (h:decide c=true):c:=of_decide_eq_true h
end L2
namespace L2
open PySem PySem.Spec PyProof.Rows
section
variable {prog:Program} {w:World} {A:Around} {E:Value->Shared->Prop} {s:Shared}
end
section
variable {X:Cx} {e:Expr} {te:TE} {pos p0 p1 p2:Pos} {j:Nat}
end
end L2
namespace L2
open PySem PySem.Spec PyProof.Rows
section
variable {K:PySem.W.Frag} {f:Addr} {H0:Hp} {σ:St} {i:Nat} {t u ta tb:TE} {R R':V->Hp->Prop} {P P' P2:Int->Prop} {L M:Nat}
end
end L2
namespace L2
open PySem PySem.Spec PyProof.Rows
theorem y8:∀ (names:List (Str×NameKind)) (n:Nat) (acc:List (Str×Addr)),cellsFrom n names acc=cellsFrom n names [] ++ acc
 | [],_,_=>rfl
 | (x,k) :: r,n,acc=>by
  show (if k == .cell then cellsFrom (n + 1) r ((x,n) :: acc) else cellsFrom n r acc)=(if k == .cell then cellsFrom (n + 1) r [(x,n)] else cellsFrom n r []) ++ acc
  by_cases hk:(k == NameKind.cell)=true
  ·rw [if_pos hk,if_pos hk,y8 r (n + 1) ((x,n) :: acc),y8 r (n + 1) [(x,n)],List.append_assoc];rfl
  ·rw [if_neg hk,if_neg hk];exact y8 r n acc
theorem Fq {x:Str} {c:Addr}:∀ (names:List (Str×NameKind)) (n:Nat),(x,c)∈cellsFrom n names []->(x,NameKind.cell)∈names/\n<=c
 | [],_,h=>nomatch h
 | (y,k) :: r,n,h=>by
  have h':(x,c)∈(if k == .cell then cellsFrom (n + 1) r [(y,n)] else cellsFrom n r []):=h
  by_cases hk:(k == NameKind.cell)=true
  ·rw [if_pos hk,y8] at h'
   rcases List.mem_append.mp h' with h' | h'
   ·obtain ⟨h1,h2⟩:=Fq r (n + 1) h'
    exact ⟨List.mem_cons_of_mem _ h1,by omega⟩
   ·have e:(x,c)=(y,n):=by simpa using h'
    cases e
    have e2:k=NameKind.cell:=by simpa using hk
    subst e2
    exact ⟨List.mem_cons_self,Nat.le_refl _⟩
  ·rw [if_neg hk] at h'
   obtain ⟨h1,h2⟩:=Fq r n h'
   exact ⟨List.mem_cons_of_mem _ h1,h2⟩
theorem Fs {env:Env} (f:Str×NameKind->List (Str×Addr)->Sem (ForInStep (List (Str×Addr))))
  (hf:∀ name kind cs,f (name,kind) cs=if kind == .free then (do let c <- cellOf env name;pure (.yield ((name,c) :: cs))) else pure (.yield cs)) :
  ∀ (names:List (Str×NameKind)) (acc:List (Str×Addr)),(∀ y∈names,y.2=NameKind.free->∃ c,env.cells.lookup y.1=some c) ->
   ∃ cl,(forIn names acc f:Sem (List (Str×Addr)))=pure cl/\(∀ n c,(n,c)∈cl->(n,c)∈acc\/(env.cells.lookup n=some c/\(n,NameKind.free)∈names))/\(∀ p∈acc,p∈cl)/\∀ n,(n,NameKind.free)∈names->∃ c,(n,c)∈cl
 | [],acc,_=>⟨acc,by rw [List.forIn_nil],fun n c h=>.inl h,fun p h=>h,fun n h=>nomatch h⟩
 | (x,k) :: r,acc,h=>by
  have hr:∀ y∈r,y.2=NameKind.free->∃ c,env.cells.lookup y.1=some c:=fun y hy=>h y (List.mem_cons_of_mem _ hy)
  by_cases hk:k=NameKind.free
  ·subst hk
   obtain ⟨c,hc⟩:=h (x,.free) List.mem_cons_self rfl
   have e:cellOf env x=pure c:=by unfold cellOf;rw [hc]
   obtain ⟨cl,e1,h1,h2,h3⟩:=Fs f hf r ((x,c) :: acc) hr
   refine ⟨cl,?_,fun n d hd=>?_,fun p hp=>h2 p (List.mem_cons_of_mem _ hp),fun n hn=>?_⟩
   ·rw [List.forIn_cons,hf,if_pos (by rfl),e]
    exact e1
   ·rcases h1 n d hd with q | ⟨q,q'⟩
    ·rcases List.mem_cons.mp q with q | q
     ·cases q;exact .inr ⟨hc,List.mem_cons_self⟩
     ·exact .inl q
    ·exact .inr ⟨q,List.mem_cons_of_mem _ q'⟩
   ·rcases List.mem_cons.mp hn with q | q
    ·cases q;exact ⟨c,h2 _ List.mem_cons_self⟩
    ·exact h3 n q
  ·obtain ⟨cl,e1,h1,h2,h3⟩:=Fs f hf r acc hr
   have hb:¬ ((k == NameKind.free)=true):=by simpa using hk
   refine ⟨cl,?_,fun n d hd=>?_,h2,fun n hn=>?_⟩
   ·rw [List.forIn_cons,hf,if_neg hb]
    exact e1
   ·rcases h1 n d hd with q | ⟨q,q'⟩
    ·exact .inl q
    ·exact .inr ⟨q,List.mem_cons_of_mem _ q'⟩
   ·rcases List.mem_cons.mp hn with q | q
    ·cases q;exact absurd rfl hk
    ·exact h3 n q
theorem Iy {scope:Scope} {env:Env} (h:∀ y∈scope.names,y.2=NameKind.free->∃ c,env.cells.lookup y.1=some c) :
  ∃ cl,closureFor scope env=pure cl/\(∀ n c,(n,c)∈cl->env.cells.lookup n=some c/\(n,NameKind.free)∈scope.names)/\∀ n,(n,NameKind.free)∈scope.names->∃ c,(n,c)∈cl:=by
 have key:∀ (f:Str×NameKind->List (Str×Addr)->Sem (ForInStep (List (Str×Addr)))),(∀ name kind cs,f (name,kind) cs=if kind == .free then (do let c <- cellOf env name;pure (.yield ((name,c) :: cs))) else pure (.yield cs)) ->
   ∃ cl,((forIn scope.names [] f:Sem (List (Str×Addr))) >>= fun r=>pure r)=pure cl/\(∀ n c,(n,c)∈cl->env.cells.lookup n=some c/\(n,NameKind.free)∈scope.names)/\∀ n,(n,NameKind.free)∈scope.names->∃ c,(n,c)∈cl:=fun f hf=>by
  obtain ⟨cl,e,h1,_,h3⟩:=Fs f hf scope.names [] h
  refine ⟨cl,?_,fun n c hc=>(h1 n c hc).elim (fun z=>nomatch z) id,h3⟩
  rw [e]
  rfl
 simp only [closureFor]
 exact key _ fun name kind cs=>by cases hk:kind == NameKind.free <;> simp [hk]
theorem ltN {a b:Addr} (h:a < b):@LT.lt Nat _ a b:=h
theorem uA {a b:Addr} (h:@LT.lt Nat _ a b):a≠b:=Nat.ne_of_lt h
theorem Iz {a b:Addr} (h:@LT.lt Nat _ b a):a≠b:=Nat.ne_of_gt h
theorem Ms {M:Model} {A:Around} {E:Value->Shared->Prop} {s:Shared} {scope:Scope} {g:Addr} {cl:List (Str×Addr)} {q:Str} {env:Env} {Q:Env->Shared->Prop}
  (h:∀ h',h'.Ns s.heap.objs.size (fun _=>none)->(∀ b o,s.heap.get? b=some o->h'.get? b=some o)->CellsOk h' (s.heap.objs.size + 1) (cellsFrom (s.heap.objs.size + 1) scope.names []) ->
   Q { scope:=scope,locals:=s.heap.objs.size,globals:=g,cells:=cellsFrom (s.heap.objs.size + 1) scope.names cl,qual:=q,func:=none,code:=env.code,frame:=env.frame,builtins:=env.builtins } { s with heap:=h' }) :
  wpAny M A (newFunctionEnv scope g cl [] q none .none (some env)) Q E s:=by
 simp only [newFunctionEnv,Option.isSome_some,if_true]
 refine wpAny_bind (wpAny_alloc ?_)
 refine wpAny_bind (wpAny_layCells _ (fun name kind cells=>by cases hkc:kind == NameKind.cell <;> simp [hkc]) _ _ _ _ ?_)
 have ok:=cellsFrom_ok scope.names (s.heap.push { cls:=.type "dict",data:=.dict #[] }) (s.heap.objs.size + 1) [] ⟨fun _ _ hm=>(nomatch hm),List.Pairwise.nil⟩ (by rw [Heap.size_push];exact Nat.le_refl _)
 rw [Heap.size_push] at ok
 rw [show ({ s with heap:=s.heap.push { cls:=.type "dict",data:=.dict #[] } }:Shared).heap.objs.size=s.heap.objs.size + 1 from Heap.size_push ..]
 refine wpAny_bind ?_
 rw [List.forIn_nil]
 refine wpAny_pure (wpAny_pure ?_)
 exact h _ ((Heap.Ns.new s.heap (.type "dict")).keeps (pushCells_keeps _ _)) (fun b o e=>pushCells_keeps _ _ b o (Heap.get?_push_of_some _ e)) ok
def aU (X:Cx) (N:List Str) (scope:Scope) (cells:List (Str×Addr)) (C:Addr) (fp:List Addr) (s:Shared) (H:Hp):Cx where
 prog:=X.prog
 w:=X.w
 K:=X.K
 mg:=X.mg
 base:=X.base
 A:=X.A
 N:=N
 s₀:=s
 H₀:=H
 env:=compEnvC scope cells C X.env
 outer:=X.stack
 stack:=X.stack
 ex:=fp
 fn:=fun x=>decide (scope.names.lookup x=some .cell)
 calm:=X.calm
 pn:=[]
 xe:=fun _ _=>False
def pZ (scope sc:Scope):Scope :=
 { scope with names:=scope.names.map fun (n,k)=>if (k == .free && sc.kind == .function && sc.names.lookup n == some .cell) then (n,.cell) else (n,k) }
structure p3 (sc scope:Scope) (own fr:List Str):Prop where
 kind:scope.kind=.function
 nd:(own ++ fr).Nodup
 xH:(scope.names.map (·.1)).Nodup
 free:∀ y∈scope.names,y.2=.free->sc.names.lookup y.1=some .cell\/sc.names.lookup y.1=some .free
 Ft:∀ x∈fr,scope.names.lookup x=some .free
structure fj (X:Cx) (scope:Scope) (own fr:List Str) (js:List Nat):Prop where
 c:p3 X.env.scope scope own fr
 ix:js.map (fun j=>X.N[j]?)=fr.map some
theorem fj.kind {X:Cx} {scope:Scope} {own fr:List Str} {js:List Nat} (S:fj X scope own fr js):scope.kind=.function:=S.c.kind
theorem fj.xH {X:Cx} {scope:Scope} {own fr:List Str} {js:List Nat} (S:fj X scope own fr js):(scope.names.map (·.1)).Nodup:=S.c.xH
theorem fj.Ft {X:Cx} {scope:Scope} {own fr:List Str} {js:List Nat} (S:fj X scope own fr js):∀ x∈fr,scope.names.lookup x=some .free:=S.c.Ft
theorem fj.free {X:Cx} {scope:Scope} {own fr:List Str} {js:List Nat} (S:fj X scope own fr js):∀ y∈scope.names,y.2=.free->X.env.kindOf y.1=some .cell\/X.env.kindOf y.1=some .free:=S.c.free
theorem y9 {α:Type}:∀ {l:List (Str×α)} {n:Str} {c:α},(l.map (·.1)).Nodup->(n,c)∈l->l.lookup n=some c
 | (k,v) :: r,n,c,nd,h=>by
  obtain ⟨h1,h2⟩:=List.nodup_cons.mp nd
  rw [List.lookup_cons]
  rcases List.mem_cons.mp h with e | h
  ·cases e;simp
  ·have:(n == k)=false:=beq_eq_false_iff_ne.mpr fun e=>h1 (by rw [<- e];exact List.mem_map.mpr ⟨(n,c),h,rfl⟩)
   rw [this]
   exact y9 h2 h
theorem IA (scope:Scope) (env:Env) (x:Str):(relabel scope env).names.lookup x=none/\scope.names.lookup x=none \/
  ∃ k,scope.names.lookup x=some k/\(relabel scope env).names.lookup x=some (if (k == .free && env.scope.kind == .function && env.kindOf x == some .cell) then .cell else k):=by
 have key:∀ names:List (Str×NameKind),(names.map fun (n,k)=>if (k == NameKind.free && env.scope.kind == .function && env.kindOf n == some .cell) then (n,NameKind.cell) else (n,k)).lookup x=none/\names.lookup x=none \/
   ∃ k,names.lookup x=some k/\(names.map fun (n,k)=>if (k == NameKind.free && env.scope.kind == .function && env.kindOf n == some .cell) then (n,NameKind.cell) else (n,k)).lookup x=some (if (k == .free && env.scope.kind == .function && env.kindOf x == some .cell) then .cell else k):=by
  intro names
  induction names with
  | nil=>exact .inl ⟨rfl,rfl⟩
  | cons p r ih =>
   obtain ⟨n,k⟩:=p
   rw [List.map_cons]
   cases hx:x == n with
   | true =>
    have e:x=n:=by simpa using hx
    subst e
    refine .inr ⟨k,by simp [List.lookup_cons],?_⟩
    by_cases hc:(k == NameKind.free && env.scope.kind == .function && env.kindOf x == some .cell)=true
    ·simp only [if_pos hc];simp [List.lookup_cons]
    ·simp only [if_neg hc];simp [List.lookup_cons]
   | false =>
    have e1:∀ q:NameKind,(((n,q) :: (r.map fun (n,k)=>if (k == NameKind.free && env.scope.kind == .function && env.kindOf n == some .cell) then (n,NameKind.cell) else (n,k))).lookup x)=((r.map fun (n,k)=>if (k == NameKind.free && env.scope.kind == .function && env.kindOf n == some .cell) then (n,NameKind.cell) else (n,k)).lookup x):=fun q=>by rw [List.lookup_cons,hx]
    have e2:((n,k) :: r).lookup x=r.lookup x:=by rw [List.lookup_cons,hx]
    rw [e2]
    by_cases hc:(k == NameKind.free && env.scope.kind == .function && env.kindOf n == some .cell)=true
    ·simp only [if_pos hc];rw [e1];exact ih
    ·simp only [if_neg hc];rw [e1];exact ih
 exact key scope.names
def iJ (n:Nat) (js:List Nat) (σ:St):St:=List.replicate n none ++ js.map fun j=>σ.getD j none
theorem Inv.za {X:Cx} {pins:List (Addr×Obj)} {σ:St} {H:Hp} {s:Shared} {a:Addr} {o:HO} (I:Inv X pins σ H s) (f:kC X pins H a) (new:cC X.prog X.w (upd H a o) s.heap a o):Inv X pins σ (upd H a o) s:=by
 obtain ⟨f0,f1,f2,f3,f4,f5⟩:=f
 have ne:∀ b u,H b=some u->b≠a:=fun b u e z=>by rw [z,f0] at e;cases e
 refine I.step (h':=s.heap) (H':=upd H a o) (g':=s.gens) (d':=s.drawn) (t':=s.toks) (ch:=[a]) (fun b hb=>?_) (fun b u _ _ _ e _=>e) (fun b u _ _ _ e _=>⟨u.slots,e⟩) (fun b u hb e n=>?_) (fun b u _ e=>⟨u,e⟩)
  (fun b xs e=>by rw [je (ne b _ e)];exact e) (fun b u xs e=>by rw [je (ne b _ e)];exact e) (fun b ps e=>⟨#[],by rw [je (ne b _ e),e];simp⟩) (fun m hm=>hm) (fun b u e=>?_) I.bare
 ·have e:b=a:=by simpa using hb
  subst e
  exact ⟨f3,f1,f4,f5⟩
 ·rw [je (fun z=>hb (by simp [z]))];exact n
 ·by_cases hb:b=a
  ·subst hb;rw [pk] at e;cases e;exact new
  ·rw [je hb] at e
   exact (I.hok b u e).stay (fun c v _ q=>q) (fun c q=>by rw [je (ne c _ q)];exact q) fun c xs q=>by rw [je (ne c _ q)];exact q
def PF (X:Cx) (ifs:List Expr) (t:TT):Prop :=
 ∀ (pins:List (Addr×Obj)) (s:Shared) (σ:St) (H:Hp) (Q:Bool->Hp->Prop),Inv X pins σ H s->t σ H Q ->
  wpAny (model X.prog X.w) X.A (forIn ifs true fun c r=>if r=true then do let ok <- isTrue c X.env (eval c X.env);pure (ForInStep.yield ok) else pure (ForInStep.yield r)) (TP X pins σ Q) X.xe s
theorem p4 {X:Cx}:PF X [] (fun _ H Q=>Q true H):=fun _ _ _ H _ I h=>wpAny_tests_nil ⟨H,I,h⟩
theorem IB {X:Cx} {c:Expr} {t:TT} (h:PT X c t):PF X [c] t:=fun pins s σ H Q I hw=>wpAny_tests_one (h pins s σ H Q I hw)
theorem Mt {prog:Program} {w:World} {A:Around} {R:Result->Shared->Prop} {s:Shared} {elt target iter:Expr} {ifs:List Expr} {scope:Scope} {pos:Pos} {it acc:Value} {env:Env} (I:Nat->Shared->Prop)
  (turn:∀ n s,I n s->wpAny (model prog w) A (pyNext it) (fun r s₁=>match r with
   | none=>R (.ok .next) s₁
   | some v=>wpAny (model prog w) A (letOwnedTupleGo target it v) (fun _ s₁'=>wpAny (model prog w) A (assign target env v) (fun _ s₂ =>
     wpAny (model prog w) A (forIn ifs true fun c r=>if r=true then do let ok <- isTrue c env (eval c env);pure (ForInStep.yield ok) else pure (ForInStep.yield r)) (fun ok s₃ =>
      if ok=true then wpAny (model prog w) A (eval elt env) (fun x s₄ =>
       wpAny (model prog w) A (call (.builtin "list.append") [acc,x]) (fun _ s₅=>∃ m,m < n/\I m s₅) (fun _ _=>False) s₄) (fun _ _=>False) s₃
      else ∃ m,m < n/\I m s₃) (fun _ _=>False) s₂) (fun _ _=>False) s₁') (fun _ _=>False) s₁) (fun _ _=>False) s)
  (n:Nat) (h:I n s) :
  codeAny (model prog w) A (.compLoop (.ListComp elt [⟨target,iter,ifs,0⟩] scope pos) 0 it acc env) R s:=by
 refine codeAny_loop rfl I (fun n s hI=>?_) n h
 show wpAny _ A ((compTurn (.ListComp elt [⟨target,iter,ifs,0⟩] scope pos) 0 it acc env).onRaise (fun x=>do noteFrame x env;theTreesLotGoes x)) _ _ s
 refine wpAny_noted ?_
 rw [compTurn_list]
 refine wpAny_bind (wpAny_standAt (wpAny_bind (wpAny_mono (turn n s hI) (fun r s₁ h₁=>?_) fun _ _ h'=>h'.elim)))
 cases r with
 | none=>exact wpAny_pure h₁
 | some v =>
  refine wpAny_bind (wpAny_mono h₁ (fun _ s₁' h₁'=>?_) fun _ _ h'=>h'.elim)
  refine wpAny_bind (wpAny_mono h₁' (fun _ s₂ h₂=>wpAny_bind (wpAny_mono h₂ (fun ok s₃ h₃=>?_) fun _ _ h'=>h'.elim)) fun _ _ h'=>h'.elim)
  cases ok with
  | false=>exact wpAny_pure ⟨rfl,h₃⟩
  | true =>
   exact wpAny_bind (wpAny_bind (wpAny_mono h₃ (fun x s₄ h₄=>wpAny_bind (wpAny_mono h₄ (fun _ s₅ h₅=>wpAny_pure (wpAny_pure ⟨rfl,h₅⟩)) fun _ _ h'=>h'.elim)) fun _ _ h'=>h'.elim))
def u5 (J:It) (n:Nat) (js:List Nat) (g:TG) (tc:TT) (te:TE) (σ:St) (H1:Hp) (Q:VK):Prop :=
 ∃ W:Nat->Nat->List V->St->Hp->Prop,(∃ m,W 0 m [] (iJ n js σ) H1)/\∀ i m ys σ' H',W i m ys σ' H' ->
  ys.length < sizeLine/\((J.stop i H'/\∀ p,H' p=none->Q (.ref p) (upd H' p (.lst ys))) \/
   (J.go i H'/\∀ x H2,J.rz i H' x H2->g x σ' H2 fun σ2 H3=>tc σ2 H3 fun b H4=>if b=true then te σ2 H4 fun y H5=>∃ m',m' < m/\W (i + 1) m' (ys ++ [y]) σ2 H5 else ∃ m',m' < m/\W (i + 1) m' ys σ2 H4))
def p5 (wi:TI) (n:Nat) (js:List Nat) (g:TG) (tc:TT) (te:TE):TE:=fun σ H Q=>wi σ H fun J H1=>u5 J n js g tc te σ H1 Q
section
variable {X:Cx} {pins:List (Addr×Obj)} {σ:St} {tg iter elt:Expr} {ifs:List Expr} {scope:Scope} {pos:Pos} {own fr:List Str} {js:List Nat} {g:TG} {tc:TT} {te:TE} {wi:TI}
theorem IC {H2:Hp} {s2:Shared} {it:Addr} {fp:List Addr} {tn:Nat->Heap->Prop} {J:It} {Q:VK} {E:Value->Shared->Prop} {cl:List (Str×Addr)} {RR:Value->Addr->Result->Shared->Prop}
  (hc:X.calm=true) (S:fj X scope own fr js) (hg:∀ cells C fp s H,PG (aU X (own ++ fr) scope cells C fp s H) tg g) (hf:∀ cells C fp s H,PF (aU X (own ++ fr) scope cells C fp s H) ifs tc) (he:∀ cells C fp s H,PE (aU X (own ++ fr) scope cells C fp s H) elt te)
  (I2:Inv X pins σ H2 s2) (T:Turn X.prog X.w X.K tg J fp it tn) (st2:tn 0 s2.heap) (f2:∀ b∈fp,kC X pins H2 b)
  (og:∀ n c,(n,c)∈cl->X.env.cells.lookup n=some c/\(n,NameKind.free)∈scope.names) (p6:∀ n,(n,NameKind.free)∈scope.names->∃ c,(n,c)∈cl)
  (W:Nat->Nat->List V->St->Hp->Prop) (m0:Nat) (w0:W 0 m0 [] (iJ own.length js σ) H2)
  (turn:∀ i m ys σ' H',W i m ys σ' H'->ys.length < sizeLine/\((J.stop i H'/\∀ p,H' p=none->Q (.ref p) (upd H' p (.lst ys))) \/
   (J.go i H'/\∀ x H2,J.rz i H' x H2->g x σ' H2 fun σ2 H3=>tc σ2 H3 fun b H4=>if b=true then te σ2 H4 fun y H5=>∃ m',m' < m/\W (i + 1) m' (ys ++ [y]) σ2 H5 else ∃ m',m' < m/\W (i + 1) m' ys σ2 H4)))
  (fin:∀ (acc C:Addr) (H':Hp) (s':Shared) (v:V),v=.ref acc->Inv X pins σ H' s'->kC X pins H' C->(∃ m,s'.heap.Ns C m)->Q v H'->RR (.ref acc) C (.ok .next) s') :
  wpAny (model X.prog X.w) X.A (newList []) (fun acc s3=>wpAny (model X.prog X.w) X.A (newFunctionEnv scope X.env.globals cl [] X.env.qual none .none (some X.env)) (fun cenv s4 =>
   codeAny (model X.prog X.w) X.A (.compStart (.ListComp elt [⟨tg,iter,ifs,0⟩] scope pos) 0 (.ref it) acc { cenv with scope:=relabel scope X.env }) (RR acc cenv.locals) s4) E s3) E s2:=by
 refine wpAny_newObj_type ?_
 refine Ms fun h4 hns IE mP=>?_
 have hA:s2.heap.objs.size < (s2.heap.push { cls:=.type "list",data:=.seq ([]:List Value).toArray }).objs.size:=by rw [Heap.size_push];exact Nat.lt_succ_self _
 generalize hC:(s2.heap.push { cls:=.type "list",data:=.seq ([]:List Value).toArray }).objs.size=C at hns mP hA ⊢
 generalize hac:s2.heap.objs.size=acc at hA ⊢
 have Fu:acc≠C:=Nat.ne_of_lt hA
 have old:∀ b o,s2.heap.get? b=some o->h4.get? b=some o:=fun b o e=>IE b o (Heap.get?_push_of_some _ e)
 have hacc:h4.get? acc=some { cls:=.type "list",data:=.seq ([]:List Value).toArray }:=IE _ _ (by rw [<- hac];exact Heap.get?_push_size _ rfl)
 have Fv:∀ x c,(x,c)∈cellsFrom (C + 1) scope.names []->h4.IsCell c none/\C + 1<=c/\scope.names.lookup x=some .cell:=fun x c h=>⟨(mP.empty x c h).1,(mP.empty x c h).2,y9 S.xH (Fq _ _ h).1⟩
 have lk:∀ x c,(cellsFrom (C + 1) scope.names cl).lookup x=some c->(h4.IsCell c none/\C + 1<=c/\(x,c)∈cellsFrom (C + 1) scope.names [])\/(X.env.cells.lookup x=some c/\scope.names.lookup x=some .free):=fun x c h=>by
  rw [y8] at h
  rcases List.mem_append.mp (PySem.mem_of_lookup h) with q | q
  ·exact .inl ⟨(Fv x c q).1,(Fv x c q).2.1,q⟩
  ·exact .inr ⟨(og x c q).1,y9 S.xH (og x c q).2⟩
 have Fw:∀ x c,X.env.cells.lookup x=some c->c < s2.heap.objs.size:=fun x c h=>by
  obtain ⟨v,z⟩:=I2.cell x c h
  exact z.lt
 have oF:∀ x c,(cellsFrom (C + 1) scope.names cl).lookup x=some c->c≠C/\c≠acc/\H2 c=none/\∀ b∈fp,c≠b:=fun x c h=>by
  rcases lk x c h with ⟨_,h1,_⟩ | ⟨h1,_⟩
  ·refine ⟨Iz (by omega),Iz (by omega),I2.hok.fresh (by omega),fun b hb z=>?_⟩
   obtain ⟨o,e,_⟩:=T.obj 0 _ st2 b hb
   have:=ltN (Heap.lt_size e)
   rw [<- z] at this
   omega
  ·have:=ltN (Fw x c h1)
   exact ⟨uA (by omega),uA (by omega),I2.jD x c h1,fun b hb=>(f2 b hb).2.2.2.2.1 x c h1⟩
 have zb:∀ x,scope.names.lookup x=some .free->∃ c,X.env.cells.lookup x=some c/\(cellsFrom (C + 1) scope.names cl).lookup x=some c:=fun x h=>by
  obtain ⟨c,IF⟩:=p6 x (PySem.mem_of_lookup h)
  have hc1:=(og x c IF).1
  have hs:((cellsFrom (C + 1) scope.names cl).lookup x).isSome=true:=by
   refine PySem.W.cellsFrom_some scope.names (C + 1) cl (.inr ?_)
   cases q:cl.lookup x with
   | some d=>rfl
   | none =>
    exfalso
    have:∀ {l:List (Str×Addr)},(x,c)∈l->l.lookup x≠none:=by
     intro l
     induction l with
     | nil=>intro h;exact nomatch h
     | cons p r ih =>
      intro h z
      obtain ⟨k,v⟩:=p
      rw [List.lookup_cons] at z
      cases hb:x == k with
      | true=>rw [hb] at z;cases z
      | false =>
       rw [hb] at z
       rcases List.mem_cons.mp h with e | h
       ·cases e;simp at hb
       ·exact ih h z
    exact this IF q
  obtain ⟨d,hd⟩:=Option.isSome_iff_exists.mp hs
  rcases lk x d hd with ⟨_,_,h2⟩ | ⟨h1,_⟩
  ·have:=(Fv x d h2).2.2
   rw [h] at this;cases this
  ·rw [hc1] at h1;cases h1
   exact ⟨c,hc1,hd⟩
 have CF:∀ b∈fp,b≠C/\b≠acc:=fun b hb=>by
  obtain ⟨o,e,_⟩:=T.obj 0 _ st2 b hb
  have:=ltN (Heap.lt_size e)
  exact ⟨uA (by omega),uA (by omega)⟩
 have Mu:(relabel scope X.env).kind=.function:=S.kind
 have ok:(aU X (own ++ fr) scope (cellsFrom (C + 1) scope.names cl) C fp s2 H2).Ok:=by
  refine ⟨I2.ok.mod,Mu,I2.ok.glob,I2.ok.blt,?_,fun x y c h1 h2=>?_,fun x hx=>?_,fun x c hx h=>?_,I2.ok.hd,I2.ok.frames,.inl rfl,fun b hb=>⟨(CF b hb).1,fun x c h=>(oF x c h).2.2.2 b hb⟩,I2.bs,Nat.le_trans I2.ok.su I2.sz,fun b o e hb=>?_,fun b hb z=>?_,I2.stack,I2.oz⟩
  ·show s2.heap.objs.size<=C
   omega
  ·rcases lk x c h1 with ⟨_,q1,q2⟩ | ⟨q1,_⟩
   ·rcases lk y c h2 with ⟨_,r1,r2⟩ | ⟨r1,_⟩
    ·exact name_of_addr mP.apart q2 r2
    ·have:=ltN (Fw y c r1);omega
   ·rcases lk y c h2 with ⟨_,r1,r2⟩ | ⟨r1,_⟩
    ·have:=ltN (Fw x c q1);omega
    ·exact I2.ok.inj x y c q1 r1
  ·have hx':(relabel scope X.env).names.lookup x=some .cell\/(relabel scope X.env).names.lookup x=some .free:=hx
   rcases IA scope X.env x with ⟨e,_⟩ | ⟨k,e1,e2⟩
   ·rcases hx' with z | z <;> (rw [e] at z;cases z)
   ·by_cases hk:k=.free
    ·subst hk
     obtain ⟨c,_,h⟩:=zb x e1
     exact ⟨c,h⟩
    ·have hk':k=.cell:=by
      have hb:(k == NameKind.free)=false:=beq_eq_false_iff_ne.mpr hk
      rw [hb] at e2
      simp only [Bool.false_and,Bool.false_eq_true,if_false] at e2
      rcases hx' with z | z
      ·rw [e2] at z;exact Option.some.inj z
      ·rw [e2] at z;exact absurd (Option.some.inj z) hk
     subst hk'
     exact Option.isSome_iff_exists.mp (PySem.W.cellsFrom_some scope.names (C + 1) cl (.inl e1))
  ·have hx':scope.names.lookup x=some .cell:=of_decide_eq_true hx
   show s2.heap.objs.size<=c
   rcases lk x c h with ⟨_,q,_⟩ | ⟨_,q⟩
   ·omega
   ·rw [hx'] at q;cases q
  ·rcases (f2 b hb).2.2.2.1 with z | z
   ·exact I2.ok.pL b o e z
   ·have h1:@LT.lt Nat _ b X.base.objs.size:=Heap.lt_size e
    have h2:=I2.ok.su
    omega
  ·rcases List.mem_cons.mp (I2.lJ b z) with e | e
   ·exact (f2 b hb).2.1 e
   ·exact (f2 b hb).2.2.1 e
 have I4:Inv (aU X (own ++ fr) scope (cellsFrom (C + 1) scope.names cl) C fp s2 H2) [(acc,{ cls:=.type "list",data:=.seq ([]:List Value).toArray })] (iJ own.length js σ) H2 { s2 with heap:=h4 }:=by
  refine ⟨ok,rfl,I2.bare,Un.kept old,⟨_,hns,fun i x v e1 e2 e3=>?_⟩,fun x c h=>?_,I2.hok.fresh (by show s2.heap.objs.size<=C;omega),fun x c h=>(oF x c h).2.2.1,fun p hp=>?_,I2.hok.kept old,?_⟩
  ·have Fx:(own ++ fr)[i]?=some x:=e1
   unfold iJ at e2
   by_cases hi:i < own.length
   ·rw [List.getElem?_append_left (by simpa using hi),List.getElem?_replicate] at e2
    split at e2 <;> cases e2
   ·rw [List.getElem?_append_right (by simpa using hi),List.length_replicate,List.getElem?_map] at e2
    rw [List.getElem?_append_right (by omega)] at Fx
    cases hj:js[i - own.length]? with
    | none=>rw [hj] at e2;cases e2
    | some j =>
     rw [hj] at e2
     have zc:σ.getD j none=some v:=Option.some.inj e2
     have hN:X.N[j]?=some x:=by
      have q:=congrArg (fun l=>l[i - own.length]?) S.ix
      simp only [List.getElem?_map,hj,Fx,Option.map_some] at q
      exact Option.some.inj q
     have hσ:σ[j]?=some (some v):=by
      rw [List.getD_eq_getElem?_getD] at zc
      cases q:σ[j]? with
      | none=>rw [q] at zc;cases zc
      | some o=>rw [q] at zc;exact congrArg some zc
     have hfr:scope.names.lookup x=some .free:=S.Ft x (List.mem_of_getElem? Fx)
     have hk:=S.free _ (PySem.mem_of_lookup hfr) rfl
     obtain ⟨m,_,hl⟩:=I2.loc
     obtain ⟨u,ru,lo⟩:=hl j x v hN hσ (by rcases hk with k | k;exact .inr (.inl k);exact .inr (.inr k))
     refine ⟨u,ru,.inr ⟨?_,?_⟩⟩
     ·rcases IA scope X.env x with ⟨_,e⟩ | ⟨k,q1,q2⟩
      ·rw [hfr] at e;cases e
      ·rw [hfr] at q1;cases q1
       have Mv:(compEnvC scope (cellsFrom (C + 1) scope.names cl) C X.env).kindOf x=some (if (NameKind.free == .free && X.env.scope.kind == .function && X.env.kindOf x == some .cell)=true then .cell else .free):=q2
       rw [show (aU X (own ++ fr) scope (cellsFrom (C + 1) scope.names cl) C fp s2 H2).env.kindOf x=_ from Mv]
       split
       ·exact .inl rfl
       ·exact .inr rfl
     ·rcases lo with ⟨k,_⟩ | ⟨_,c,hc1,hc2⟩
      ·rcases hk with k' | k' <;> (rw [k] at k';cases k')
      ·obtain ⟨d,hd1,hd2⟩:=zb x hfr
       rw [hc1] at hd1;cases hd1
       exact ⟨c,hd2,hc2.keeps old⟩
  ·rcases lk x c h with ⟨q,_,_⟩ | ⟨q,_⟩
   ·exact ⟨_,q⟩
   ·obtain ⟨v,z⟩:=I2.cell x c q
    exact ⟨v,z.keeps old⟩
  ·have e:p=(acc,{ cls:=.type "list",data:=.seq ([]:List Value).toArray }):=by simpa [aU] using hp
   subst e
   refine ⟨hacc,I2.hok.fresh (by omega),Fu,fun z=>?_,fun v z=>nomatch z⟩
   rcases List.mem_cons.mp (I2.lJ acc z) with e | e
   ·have:=ltN I2.lt
    rw [<- e] at this
    omega
   ·exact I2.ym (by omega) e
  ·show (iJ own.length js σ).length=(own ++ fr).length
   have q:=congrArg List.length S.ix
   simp only [List.length_map] at q
   unfold iJ
   rw [List.length_append,List.length_replicate,List.length_map,List.length_append,q]
 have Fy:∀ {H':Hp} {ob:Obj},(∀ b∈fp,H' b=none)->∀ b∈fp,kC (aU X (own ++ fr) scope (cellsFrom (C + 1) scope.names cl) C fp s2 H2) [(acc,ob)] H' b:=fun {H' ob} hn b hb =>
  ⟨hn b hb,(CF b hb).1,fun z=>by
   rcases List.mem_cons.mp (I2.lJ b z) with e | e
   ·exact (f2 b hb).2.1 e
   ·exact (f2 b hb).2.2.1 e,.inl hb,fun x c h=>(oF x c h).2.2.2 b hb,fun p hp=>by
   have e:p=(acc,ob):=by simpa [aU] using hp
   subst e
   exact fun z=>(CF b hb).2 z.symm⟩
 have loop:codeAny (model X.prog X.w) X.A (.compLoop (.ListComp elt [⟨tg,iter,ifs,0⟩] scope pos) 0 (.ref it) (.ref acc) (compEnvC scope (cellsFrom (C + 1) scope.names cl) C X.env)) (RR (.ref acc) C) { s2 with heap:=h4 }:=by
  refine Mt (fun m s'=>∃ (i:Nat) (ys:List V) (its:List Value) (n:Nat) (σ':St) (H':Hp),Inv (aU X (own ++ fr) scope (cellsFrom (C + 1) scope.names cl) C fp s2 H2) [(acc,{ cls:=.type "list",data:=.seq its.toArray n })] σ' H' s'/\Vals ys its/\tn i s'.heap/\(∀ b∈fp,H' b=none)/\W i m ys σ' H') ?_ m0
   ⟨0,[],[],0,_,H2,I4,.nil,T.keep _ _ _ st2 fun b _ o e=>old b o e,fun b hb=>(f2 b hb).1,w0⟩
  rintro n s5 ⟨i,ys,its,en,σ5,H5,I5,rv,jA,Cp,w5⟩
  obtain ⟨hz,alt⟩:=turn i n ys σ5 H5 w5
  rcases alt with ⟨stop,qn⟩ | ⟨go,step⟩
  ·refine cy (T.done (aU X (own ++ fr) scope (cellsFrom (C + 1) scope.names cl) C fp s2 H2) rfl rfl rfl hc i _ s5 σ5 H5 _ I5 (Fy Cp) jA stop) fun r s6 ⟨hr,I6⟩=>?_
   subst hr
   show RR (.ref acc) C (.ok .next) s6
   have u:Un (frs X.stack) fp H2 H5 s2.heap s6.heap:=I6.base
   have J6:Inv X pins σ H5 s6:=I2.yp I6.os u I6.hok I6.bare fun b hb=>⟨(f2 b hb).2.2.2.1,(f2 b hb).2.1,(f2 b hb).2.2.2.2.1,(f2 b hb).2.2.2.2.2⟩
   have pacc:=I6.pin (acc,_) (List.mem_append_right _ List.mem_cons_self)
   have Fz:kC X pins H5 acc:=I2.oa (by omega) pacc.2.1
   have fC:kC X pins H5 C:=I2.oa (by omega) I6.free
   have K6:Inv X pins σ (upd H5 acc (.lst ys)) s6:=J6.za Fz ⟨Nat.le_of_lt hz,its,en,rv,pacc.1⟩
   obtain ⟨m,hm,_⟩:=I6.loc
   exact fin acc C _ s6 (.ref acc) rfl K6 ⟨by rw [je Fu.symm];exact fC.1,fC.2⟩ ⟨m,hm⟩ (qn acc pacc.2.1)
  ·refine cy (T.item (aU X (own ++ fr) scope (cellsFrom (C + 1) scope.names cl) C fp s2 H2) rfl rfl rfl hc i _ s5 σ5 H5 _ I5 (Fy Cp) jA go) fun r s6 ⟨u,hr,h6⟩=>?_
   subst hr
   refine cy h6 fun _ s7 ⟨x,H7,I7,r7,y7,oG,Mw⟩=>?_
   have Mx:=I7.pinned (Fy Mw) (T.obj _ _ oG)
   refine cy (hg _ _ _ _ _ _ s7 σ5 H7 x u _ Mx r7 (step x H7 y7)) fun _ s8 ⟨σ8,H8,I8,q8⟩=>?_
   refine cy (hf _ _ _ _ _ _ s8 σ8 H8 _ I8 q8) fun b s9 ⟨H9,I9,q9⟩=>?_
   have CG:∀ {s':Shared} {σ':St} {H':Hp},Inv (aU X (own ++ fr) scope (cellsFrom (C + 1) scope.names cl) C fp s2 H2) ([(acc,{ cls:=.type "list",data:=.seq its.toArray en })] ++ lL fp s7.heap) σ' H' s'->tn (i + 1) s'.heap/\∀ b∈fp,H' b=none:=fun {s' σ' H'} I' =>
    ⟨T.keep _ _ _ oG fun b hb o e=>(I'.pin (b,o) (List.mem_append_right _ (List.mem_append_right _ (Co hb e)))).1,fun b hb=>by
     obtain ⟨o,e,d⟩:=T.obj _ _ oG b hb
     exact (I'.pin (b,o) (List.mem_append_right _ (List.mem_append_right _ (Co hb e)))).2.1⟩
   cases b with
   | false =>
    obtain ⟨m',hm,w9⟩:=q9
    exact ⟨m',hm,i + 1,ys,its,en,σ8,H9,I9.j9,rv,(CG I9).1,(CG I9).2,w9⟩
   | true =>
    refine cy (he _ _ _ _ _ _ s9 σ8 H9 _ I9 q9) fun y FA ⟨yv,FC,CH,Mz,m',hm,MA⟩=>?_
    have pacc:=CH.pin (acc,_) (List.mem_append_right _ (List.mem_append_left _ List.mem_cons_self))
    have hlen:=rv.length
    refine wpAny_list_append_plain (items:=its.toArray) ⟨en,pacc.1⟩ (fun h11 ⟨IG,FD⟩ zd=>?_) (by simp only [List.size_toArray];omega)
    have cA:∀ x c,(cellsFrom (C + 1) scope.names cl).lookup x=some c->c≠acc:=fun x c h=>(oF x c h).2.1
    have Ia:Inv (aU X (own ++ fr) scope (cellsFrom (C + 1) scope.names cl) C fp s2 H2) [] σ8 FC FA:=CH.lq fun p hp=>nomatch hp
    have Ib:Inv (aU X (own ++ fr) scope (cellsFrom (C + 1) scope.names cl) C fp s2 H2) [] σ8 FC { FA with heap:=h11 }:=Ia.turned (it:=acc) (t':=FA.toks) (fun b o hb e=>(zd.2 b hb).trans e) pacc.2.1 Fu (.inr (by show s2.heap.objs.size<=acc;omega)) cA fun p hp=>nomatch (show p∈([]:List (Addr×Obj)) from by simpa [aU] using hp)
    refine ⟨m',hm,i + 1,ys ++ [yv],its ++ [y],IG,σ8,FC,Ib.lq fun p hp=>?_,rv.append (.cons Mz .nil),T.keep _ _ _ (CG CH).1 fun b hb o e=>(zd.2 b (CF b hb).2).trans e,(CG CH).2,MA⟩
    have e:p=(acc,{ cls:=.type "list",data:=.seq (its ++ [y]).toArray IG }):=by simpa using hp
    subst e
    exact ⟨by simpa using FD,pacc.2.1,pacc.2.2.1,pacc.2.2.2.1,fun v z=>nomatch z⟩
 exact codeAny_compStart_list loop (T.self X.A 0 _ _ _ (T.keep _ _ _ st2 fun b _ o e=>old b o e) loop)
theorem p7 (hc:X.calm=true) (S:fj X scope own fr js) (hi:PI X tg iter wi) (hg:∀ cells C fp s H,PG (aU X (own ++ fr) scope cells C fp s H) tg g) (hf:∀ cells C fp s H,PF (aU X (own ++ fr) scope cells C fp s H) ifs tc) (he:∀ cells C fp s H,PE (aU X (own ++ fr) scope cells C fp s H) elt te)
  (hs:∀ x,foldedSetIterable iter X.env x=pure x:=by intro _;rfl):PE X (.ListComp elt [⟨tg,iter,ifs,0⟩] scope pos) (p5 wi own.length js g tc te):=by
 intro pins s σ H Q I h
 obtain ⟨cl,hcl,og,p6⟩:=Iy (scope:=scope) (env:=X.env) fun y hy hk=>I.ok.has y.1 (S.free y hy hk)
 rw [eval_ListComp]
 refine wpAny_comprehension_free (use:=none) rfl hs hcl S.kind (fun y hy hk=>by rw [<- hk];exact y9 S.xH hy) (cy (hi pins s σ H _ I h) fun v s1 h1=>cy h1 fun itv s2 h2=>?_)
 obtain ⟨it,fp,tn,J,H2,e,I2,T,st2,f2,W,⟨m0,w0⟩,turn⟩:=h2
 subst e
 refine IC (RR:=fun acc C=>compPost (model X.prog X.w) X.A X.xe none (EP X pins σ Q) acc C) hc S hg hf he I2 T st2 f2 og p6 W m0 w0 turn ?_
 intro acc C H' s' v hv I' fC ⟨m,hm⟩ q
 subst hv
 obtain ⟨f0,f1,MB,f3,f4,f5⟩:=fC
 exact ⟨m,hm,fun h'' u6=>⟨.ref acc,H',I'.turned (it:=C) (t':=s'.toks) (fun b o hb e=>(u6.2 b hb).trans e) f0 f1 f3 f4 f5,rfl,q⟩⟩
theorem IH {i:Nat} {x:Str} {pos' spos:Pos} (hc:X.calm=true) (hN:X.N.Nodup) (hx:X.N[i]?=some x) (hl:X.env.scope.names.lookup x=some .local) (S:fj X scope own fr js) (hi:PI X tg iter wi) (hg:∀ cells C fp s H,PG (aU X (own ++ fr) scope cells C fp s H) tg g) (hf:∀ cells C fp s H,PF (aU X (own ++ fr) scope cells C fp s H) ifs tc) (he:∀ cells C fp s H,PE (aU X (own ++ fr) scope cells C fp s H) elt te)
  (hsw:swapsWith (.ListComp elt [⟨tg,iter,ifs,0⟩] scope pos) (some (.Name x pos')) spos.line X.env=pure true:=by rfl)
  (hs:∀ x,foldedSetIterable iter X.env x=pure x:=by intro _;rfl):PS X (.Assign [.Name x pos'] (.ListComp elt [⟨tg,iter,ifs,0⟩] scope pos) spos) (rn (p5 wi own.length js g tc te) (nO i)):=by
 intro pins s σ H D I h
 obtain ⟨cl,hcl,og,p6⟩:=Iy (scope:=scope) (env:=X.env) fun y hy hk=>I.ok.has y.1 (S.free y hy hk)
 rw [exec_Assign_Name_used _ _ _ _ hsw]
 refine wpAny_bind (wpAny_standAt (wpAny_bind ?_))
 show wpAny _ X.A (do let _ <- comprehension (.ListComp elt [⟨tg,iter,ifs,0⟩] scope pos) scope X.env _ (newList []) false (eval iter X.env) (some (assign (.Name x pos') X.env))) _ _ s
 refine wpAny_bind (wpAny_mono (wpAny_comprehension_free (use:=some (assign (.Name x pos') X.env)) (Q:=fun _ s'=>SP X pins D .next s') rfl hs hcl S.kind (fun y hy hk=>by rw [<- hk];exact y9 S.xH hy)
  (cy (hi pins s σ H _ I h) fun v s1 h1=>cy h1 fun itv s2 h2=>?_)) (fun _ s' hq=>wpAny_pure (wpAny_pure hq)) fun _ _ e=>e)
 obtain ⟨it,fp,tn,J,H2,e,I2,T,st2,f2,W,⟨m0,w0⟩,turn⟩:=h2
 subst e
 refine IC (Q:=fun v H'=>nO i v σ H' D.nx) (RR:=fun acc C=>compPost (model X.prog X.w) X.A X.xe (some (assign (.Name x pos') X.env)) (fun _ s'=>SP X pins D .next s') acc C) hc S hg hf he I2 T st2 f2 og p6 W m0 w0 turn ?_
 intro acc C H' s' v hv I' fC ⟨m,hm⟩ q
 subst hv
 obtain ⟨f0,f1,MB,f3,f4,f5⟩:=fC
 show wpAny _ X.A (assign (.Name x pos') X.env (.ref acc)) _ _ _
 refine wpAny_assign_Name (Ho I' hN hx (.inl hl) (show RelV (.ref acc) (.ref acc) from rfl) (fun s'' MC ⟨a,hs1,ha⟩=>?_) (.inr hl))
 have haC:a≠C:=by
  rcases ha with e | e
  ·rw [e];exact f1.symm
  ·exact f4 _ _ e
 exact ⟨m,hm.sameBut hs1 haC.symm,fun h'' u6=>⟨_,H',MC.turned (it:=C) (t':=s''.toks) (fun b o hb e=>(u6.2 b hb).trans e) f0 f1 f3 f4 f5,q⟩⟩
end
end L2
namespace L2
open PySem PySem.Spec PyProof.Rows
section
variable {X:Cx}
theorem II {k:Nat} (hr:gw k X.A):e7 X (.builtin "repr") (fun xs H Q=>∃ (x:V) (d:PyData),xs=[x]/\Rep X.K H x d/\d.showable=true/\d.canLay0=true/\d.shown.length<=sizeLine/\d.depth<=60/\Q (.str d.shown) H):=by
 intro pins s σ H xs us Q I r h
 obtain ⟨x,d,rfl,rp,sh,cl,sz,dp,q⟩:=h
 obtain ⟨u,rfl,ru⟩:=vals1 r
 obtain ⟨as,rd⟩:=rp.reads I ru
 have hu:=hr.units
 have big:∀ a,u=.ref a->wpAny (model X.prog X.w) X.A (call (.builtin "repr") [u]) (EP X pins σ Q) X.xe s:=fun a e=>by
  subst e
  exact repr_of_reads' rd sh (PyData.noDict_hsm (PyData.hasDict_of_canLay _ cl)) hr.gd (by omega) (fun _ _ e=>e) (fun h' u tk kp=>⟨.str _,H,I.kept kp,⟨_,rfl⟩,q⟩) sz
 cases rp with
 | non =>
  cases ru
  have e:PyData.shown .none="None" := by simp only [PyData.shown]
  rw [e] at q
  exact P.repr_of_none ⟨.str _,H,I.tok _,⟨_,rfl⟩,q⟩
 | bl b =>
  cases ru
  have e:PyData.shown (.bool b)=(if b=true then Str.ofString "True" else Str.ofString "False"):=by simp only [PyData.shown]
  rw [e] at q
  exact P.repr_of_bool ⟨.str _,H,I.tok _,⟨_,rfl⟩,q⟩
 | int i =>
  obtain ⟨t,rfl⟩:=ru
  have e:PyData.shown (.int i)=toString i:=by simp only [PyData.shown]
  rw [e] at q
  have MD:i.natAbs.log2 < 1920:=by simpa only [PyData.showable,decide_eq_true_eq] using sh
  exact P.repr_of_int MD ⟨.str _,H,I.tok _,⟨_,rfl⟩,q⟩
 | str x =>
  obtain ⟨t,rfl⟩:=ru
  have e:PyData.shown (.str x)=reprText x:=by simp only [PyData.shown]
  rw [e] at q sz
  exact P.repr_of_str ⟨.str _,H,I.tok _,⟨_,rfl⟩,q⟩ sz
 | tup _ _=>cases ru;exact big _ rfl
 | lst _ _=>cases ru;exact big _ rfl
end
section
variable {prog:Program} {w:World} {A:Around} {E:Value->Shared->Prop} {s:Shared}
end
section
variable {X:Cx}
end
mutual
def wD:PyData->Nat
 | .none=>4
 | .bool _=>5
 | .int _=>1921
 | .str x=>(reprText x).length
 | .list _=>0
 | .tuple xs=>mQ xs + 3
 | .dict _=>0
def mQ:List PyData->Nat
 | []=>0
 | x :: xs=>wD x + 2 + mQ xs
end
mutual
def sX:PyData->Bool
 | .none=>true
 | .bool _=>true
 | .int _=>true
 | .str _=>true
 | .list _=>false
 | .tuple xs=>nP xs
 | .dict _=>false
def nP:List PyData->Bool
 | []=>true
 | x :: xs=>sX x && nP xs
end
theorem ME (ts:List Str):(tupleText ts).length<=piled ts + 3:=by
 unfold tupleText
 rw [strLen_append,strLen_append]
 have e1:((("(" : String):Str)).length=1:=rfl
 have e3:(((if ts.length == 1 then ",)" else ")" : String):Str)).length<=2:=by split <;> decide
 rw [e1]
 by_cases h:ts=[]
 ·subst h
  have e4:(Str.join ", " []).length=0:=rfl
  rw [e4];omega
 ·have:=join_length_add ts h
  omega
mutual
theorem IJ:∀ (d:PyData),d.showable=true->sX d=true->d.shown.length<=wD d
 | .none,_,_=>by simp only [PyData.shown,wD];decide
 | .bool b,_,_=>by simp only [PyData.shown,wD];cases b <;> decide
 | .int i,h,_=>by
  simp only [PyData.shown,wD]
  exact int_text_len_1921 (by simpa only [PyData.showable,decide_eq_true_eq] using h)
 | .str x,_,_=>by simp only [PyData.shown,wD];exact Nat.le_refl _
 | .list _,_,h=>by simp only [sX] at h;cases h
 | .dict _,_,h=>by simp only [sX] at h;cases h
 | .tuple xs,h,h'=>by
  simp only [PyData.shown,wD]
  have:=IK xs (by simpa only [PyData.showable] using h) (by simpa only [sX] using h')
  have:=ME (PyData.shownAll xs)
  omega
theorem IK:∀ (ds:List PyData),PyData.showableAll ds=true->nP ds=true->piled (PyData.shownAll ds)<=mQ ds
 | [],_,_=>by simp only [PyData.shownAll,mQ,piled_nil];exact Nat.le_refl _
 | d :: ds,h,h'=>by
  simp only [PyData.showableAll,Bool.and_eq_true] at h
  simp only [nP,Bool.and_eq_true] at h'
  simp only [PyData.shownAll,mQ,piled_cons]
  have:=IJ d h.1 h'.1
  have:=IK ds h.2 h'.2
  omega
end
theorem IL:∀ (ns:List Int),mQ (bI ns)=1923 * ns.length
 | []=>rfl
 | n :: r=>by
  show wD (.int n) + 2 + mQ (bI r)=1923 * (r.length + 1)
  rw [IL r]
  simp only [wD];omega
section
variable {K:PySem.W.Frag} {ch:List Addr} {H H':Hp}
theorem IP:∀ (ns:List Int),nP (bI ns)=true
 | []=>rfl
 | n :: r=>by show (true && nP (bI r))=true;rw [IP r];rfl
end
def dw (ns:List Int):PyData:=.tuple (bI ns)
theorem MF (ns:List Int):sX (dw ns)=true:=by unfold dw;simp only [sX];exact IP ns
theorem IQ:∀ (rs:List (List Int)),nP (rs.map dw)=true
 | []=>rfl
 | r :: rs=>by rw [List.map_cons];simp only [nP];rw [MF,IQ rs];rfl
theorem CI:∀ (rs:List (List Int)),PyData.canLayAll0 (rs.map dw)=true
 | []=>rfl
 | r :: rs=>by
  show (PyData.canLayAll0 (bI r) && PyData.canLayAll0 (rs.map dw))=true
  rw [rE,CI rs];rfl
theorem FE:∀ (rs:List (List Int)),PyData.depthAll (rs.map dw)<=1
 | []=>Nat.zero_le _
 | r :: rs=>by
  show max (PyData.depthAll (bI r) + 1) (PyData.depthAll (rs.map dw))<=1
  have:=FE rs
  rw [uY];omega
def total (rs:List (List Int)):Nat:=(rs.map List.length).sum
theorem IU:∀ (rs:List (List Int)),mQ (rs.map dw)=1923 * total rs + 5 * rs.length
 | []=>rfl
 | r :: rs=>by
  show wD (dw r) + 2 + mQ (rs.map dw)=1923 * (r.length + total rs) + 5 * (rs.length + 1)
  rw [IU rs]
  unfold dw
  simp only [wD,IL];omega
def p8 (i:Int):Prop:=-1000000000000000000<=i/\i<=1000000000000000000
theorem p8.log {i:Int} (h:p8 i):i.natAbs.log2 < 1920:=by
 have h1:i.natAbs < 2 ^ 1920:=Nat.lt_of_lt_of_le (show i.natAbs < 2 ^ 64 by unfold p8 at h;omega) (Nat.pow_le_pow_right (n:=2) (by decide) (show 64<=1920 by decide))
 by_cases h0:i.natAbs=0
 ·rw [h0];decide
 ·exact (Nat.log2_lt h0).mpr h1
theorem IV:∀ {ns:List Int},(∀ i∈ns,p8 i)->PyData.showableAll (bI ns)=true
 | [],_=>rfl
 | n :: r,h=>by
  show (PyData.showable (.int n) && PyData.showableAll (bI r))=true
  rw [IV fun i hi=>h i (List.mem_cons_of_mem _ hi),Bool.and_true]
  simp only [PyData.showable,decide_eq_true_eq]
  exact (h n List.mem_cons_self).log
theorem IW:∀ {rs:List (List Int)},(∀ r∈rs,∀ i∈r,p8 i)->PyData.showableAll (rs.map dw)=true
 | [],_=>rfl
 | r :: rs,h=>by
  show (PyData.showable (dw r) && PyData.showableAll (rs.map dw))=true
  rw [IW fun r' hr=>h r' (List.mem_cons_of_mem _ hr),Bool.and_true]
  unfold dw
  simp only [PyData.showable]
  exact IV (h r List.mem_cons_self)
end L2
namespace L2
open PySem PySem.Spec PyProof.Rows
section
variable {X:Cx} {K:PySem.W.Frag}
theorem xI (hK:X.K=K):Cy X (uP K):=by subst hK;exact cb
theorem IX (hK:X.K=K):kq X (compareOp .NotIn) (E9 K true):=by subst hK;exact Cz
theorem MG (hK:X.K=K):e7 X (.builtin "len") (fun xs H Q=>∃ p ys,xs=[V.ref p]/\(jf K H p ys\/d9 K H p ys)/\Q (.int ys.length) H):=by subst hK;exact lu
theorem IY (hK:X.K=K):e7 X (.type "tuple") (fun xs H Q=>∃ p ys,xs=[V.ref p]/\((jf K H p ys/\∀ l,H l=none->Q (.ref l) (upd H l (.tup ys)))\/(d9 K H p ys/\Q (.ref p) H))):=by subst hK;exact nE
theorem MH {tg l:Expr} {tl:TE} (hK:X.K=K) (hl:PE X l tl):PI X tg l (pP K tl):=by subst hK;exact EX hl
end
end L2
namespace L2
open PySem PySem.Spec PyProof.Rows
section
variable {prog:Program} {w:World} {A:Around} {E:Value->Shared->Prop} {s:Shared}
theorem MI {j t:Addr} {i:Nat} {ys:Array Value} {y:Value} {Q:Value->Shared->Prop} (hj:s.heap.IsTupleIter j t i) (ht:s.heap.IsTuple t ys) (hy:ys[i]?=some y)
  (hQ:∀ h',h'.IsTupleIter j t (i + 1)->Heap.SameBut j s.heap h'->Q y { s with heap:=h' }):wpAny (model prog w) A (Builtin.SmallTypes.nextOf (.ref j)) Q E s:=by
 obtain ⟨r,hr,rc,rd⟩:=id hj
 obtain ⟨q,hq,_,nq,dq⟩:=ht
 unfold Builtin.SmallTypes.nextOf
 refine wpAny_bind (wpAny_callSpecial?_slot (name:=Str.ofString "__next__") hj.typeIs F.slot_tuple_iterator_next (wpAny_call_entry F.slot_tuple_iterator_next hj.typeIs F.entry_tuple_iterator_next ?_ (F.args_tuple_iterator_next_1 _)))
 show wpAny _ _ (PySem.field (.ref j) 0 >>= _) _ _ s
 refine wpAny_bind (wpAny_field hr rd (x:=.ref t) rfl ?_);show wpAny _ _ (if (Value.ref t == Value.none)=true then _ else _) _ _ s
 rw [if_neg (fun z:(Value.ref t == Value.none)=true=>Bool.false_ne_true z)];show wpAny _ _ (PySem.field (.ref j) 1 >>= _) _ _ s
 refine wpAny_bind (wpAny_field hr rd (x:=.int i 0) rfl ?_);show wpAny _ _ (seqItems? (.ref t) >>= _) _ _ s
 refine wpAny_bind (wpAny_seqItems hq dq ?_);simp only [Int.toNat_natCast,hy]
 refine wpAny_bind (wpAny_setField hr rd (by simp) (wpAny_pure ⟨y,rfl,wpAny_pure (hQ _ ⟨_,Heap.get?_update_self _ hr (Obj.isFreed_of_fields (Obj.data_mapFields rd _)),(Obj.cls_mapFields ..).trans rc,by rw [Obj.data_mapFields rd];simp [rawInt]⟩ (Heap.SameBut.update ..))⟩))
theorem MJ {j t:Addr} {i:Nat} {ys:Array Value} {Q:Value->Shared->Prop} (hh:A.handled=none) (hj:s.heap.IsTupleIter j t i) (ht:s.heap.IsTuple t ys) (hy:ys[i]?=none)
  (hE:∀ h' e,Heap.ExtBut j s.heap h'->(∃ o,h'.get? e=some o/\o.cls=.type "StopIteration")->E (.ref e) { s with heap:=h' }):wpAny (model prog w) A (Builtin.SmallTypes.nextOf (.ref j)) Q E s:=by
 obtain ⟨r,hr,rc,rd⟩:=id hj
 obtain ⟨q,hq,_,nq,dq⟩:=ht
 unfold Builtin.SmallTypes.nextOf
 refine wpAny_bind (wpAny_callSpecial?_slot (name:=Str.ofString "__next__") hj.typeIs F.slot_tuple_iterator_next (wpAny_call_entry F.slot_tuple_iterator_next hj.typeIs F.entry_tuple_iterator_next ?_ (F.args_tuple_iterator_next_1 _)))
 show wpAny _ _ (PySem.field (.ref j) 0 >>= _) _ _ s
 refine wpAny_bind (wpAny_field hr rd (x:=.ref t) rfl ?_);show wpAny _ _ (if (Value.ref t == Value.none)=true then _ else _) _ _ s
 rw [if_neg (fun z:(Value.ref t == Value.none)=true=>Bool.false_ne_true z)];show wpAny _ _ (PySem.field (.ref j) 1 >>= _) _ _ s
 refine wpAny_bind (wpAny_field hr rd (x:=.int i 0) rfl ?_);show wpAny _ _ (seqItems? (.ref t) >>= _) _ _ s
 refine wpAny_bind (wpAny_seqItems hq dq ?_);simp only [Int.toNat_natCast,hy]
 refine wpAny_bind (wpAny_rule (wpAny_bind (wpAny_setField hr rd (by simp) ?_)));show wpAny _ _ (newExc (.type "StopIteration") [] >>= _) _ _ _
 refine wpAny_bind ?_;simp only [newExc,newTuple]
 refine wpAny_bind (wpAny_newObj_type ?_ (by size_fits));refine wpAny_bind (m:=firstArgMember _ _) (wpAny_of_eq (a:=Value.none) (by first | rfl | (simp only [firstArgMember];rfl)) ?_)
 refine wpAny_newObj_type ?_ (by size_fits);simp only [raiseNew]
 refine wpAny_bind (wpAny_handled ?_);first | rw [show A.in1.handled=none from hh] | rw [hh]
 exact wpAny_bind (wpAny_pure (wpAny_throw (hE _ _ (((Heap.SameBut.update ..).extBut.push _).push _) ⟨_,Heap.get?_push_size _ rfl,rfl⟩)))
end
theorem p9 {prog:Program} {w:World} {A:Around} (hh:A.handled=none) (j t:Addr) (hne:t≠j) (ys:Array Value) :
  Draws prog w A j [j,t] ys.size (fun i v=>ys[i]?=some v) (fun i h=>h.IsTupleIter j t i/\h.IsTuple t ys) where
 live:=fun _ _ st=>let ⟨o,ho,_⟩:=st.1;⟨o,ho⟩
 frame:=fun _ _ _ st k=>⟨st.1.at fun o e=>k j (by simp) o e,let ⟨o,e,r⟩:=st.2;⟨o,k t (by simp) o e,r⟩⟩
 item:=fun i s Q E hi st hQ=>MI st.1 st.2 (y:=ys[i]) (by simp [hi]) fun h' a b=>hQ _ h' s.toks (by simp [hi]) ⟨a,st.2.extBut b.extBut hne⟩ b
 done:=fun s Q E st hE=>MJ hh st.1 st.2 (by simp) hE
theorem MK (l:Addr) (items:Array Value) (n:Nat) (dct:Option Addr) (sl:Array (Option Value)) :
  Meets (Builtin.«enumerate.__new__» ⟨[.type "enumerate",.ref l],[]⟩) (fun _ R s=>s.heap.get? l=some { cls:=.type "tuple",dict:=dct,data:=.seq items n,slots:=sl } /\
   R (.ok (.ret (.ref (s.heap.push { cls:=.type "tuple_iterator",data:=.fields #[.ref l,.int 0 0] }).objs.size)))
    { s with heap:=(s.heap.push { cls:=.type "tuple_iterator",data:=.fields #[.ref l,.int 0 0] }).push { cls:=.type "enumerate",data:=.fields #[.none,.bool false,.ref s.heap.objs.size,rawInt 0,.none,.none] } }) :=
 .of_wp fun prog w A R s h=>by
  obtain ⟨hp,g,d,tk,os⟩:=s;obtain ⟨hl,h⟩:=h
  have hsub:=sub_enumerate
  have hL:Heap.IsTuple (Shared.heap ⟨hp,g,d,tk,os⟩) l items:=⟨_,hl,rfl,n,rfl⟩
  wp_walk using AutoSeq1.wpAny_loadPart' hl
  refine wpAny_stack_any fun st=>wpAny_pure ?_
  split
  ·rename_i c _ _ _ _ _
   cases (c == Value.type "enumerate") <;> (wp_walk using AutoSeq1.wpAny_loadPart' hl,wpAny_pyIter_tuple hL;exact ⟨_,rfl,h⟩)
  ·wp_walk using AutoSeq1.wpAny_loadPart' hl,wpAny_pyIter_tuple hL
   exact ⟨_,rfl,h⟩
section
variable {prog:Program} {w:World} {A:Around} {E:Value->Shared->Prop} {s:Shared}
theorem ML {l:Addr} {ys:Array Value} {Q:Value->Shared->Prop} (ht:s.heap.IsTuple l ys)
  (h:∀ h',IsEnum h' (s.heap.objs.size + 1) s.heap.objs.size 0 .none->h'.IsTupleIter s.heap.objs.size l 0->h'.objs.size=s.heap.objs.size + 2 ->
   (∀ b o,s.heap.get? b=some o->h'.get? b=some o)->Q (.ref (s.heap.objs.size + 1)) { s with heap:=h' }):wpAny (model prog w) A (call (.type "enumerate") [.ref l]) Q E s:=by
 obtain ⟨⟨c,dct,dt,sl⟩,hl,hc,n,hd⟩:=ht
 cases (show c=.type "tuple" from hc)
 cases (show dt=.seq ys n from hd)
 refine callType_new F.called_enumerate (by decide) (F.typeCall_enumerate_1 _) (F.newCall_enumerate_1 _) (fun obj=>F.args_object_init_2 obj _) F.entry_enumerate_new (MK l ys n dct sl) ⟨hl,?_⟩
 have z:(s.heap.push { cls:=.type "tuple_iterator",data:=.fields #[.ref l,.int 0 0] }).objs.size=s.heap.objs.size + 1:=Heap.size_push ..
 show _/\_;rw [z]
 have en:IsEnum ((s.heap.push { cls:=.type "tuple_iterator",data:=.fields #[.ref l,.int 0 0] }).push { cls:=.type "enumerate",data:=.fields #[.none,.bool false,.ref s.heap.objs.size,rawInt 0,.none,.none] }) (s.heap.objs.size + 1) s.heap.objs.size 0 .none:=by
  have g:=Heap.get?_push_size (s.heap.push { cls:=.type "tuple_iterator",data:=.fields #[.ref l,.int 0 0] }) (o:={ cls:=.type "enumerate",data:=.fields #[.none,.bool false,.ref s.heap.objs.size,rawInt 0,.none,.none] }) rfl
  rw [z] at g
  exact g
 exact ⟨⟨_,en,rfl⟩,h _ en ⟨_,Heap.get?_push_of_some _ (Heap.get?_push_size _ rfl),rfl,rfl⟩ (by rw [Heap.size_push,z]) fun b o e=>Heap.get?_push_of_some _ (Heap.get?_push_of_some _ e)⟩
end
section
variable {X:Cx} {pins:List (Addr×Obj)} {σ:St} {H:Hp} {s:Shared} {h':Heap}
theorem Inv.rG {t':Nat} {ch:List Addr} (I:Inv X pins σ H s) (k:∀ b o,b ∉ ch->s.heap.get? b=some o->h'.get? b=some o) (f:∀ b∈ch,kC X pins H b):Inv X pins σ H { s with heap:=h',toks:=t' }:=by
 have yo:∀ b u,H b=some u->b ∉ ch:=fun b u e z=>by rw [(f b z).1] at e;cases e
 refine I.step (g':=s.gens) (d':=s.drawn) (ch:=ch) (fun b hb=>⟨(f b hb).2.2.2.1,(f b hb).2.1,(f b hb).2.2.2.2.1,(f b hb).2.2.2.2.2⟩) (fun b o _ _ hc e _=>k b o hc e) (fun b o _ _ hc e _=>⟨o.slots,k b o hc e⟩) (fun _ _ _ _ n=>n)
  (fun b o hc e=>⟨o,k b o hc e⟩) (fun _ _ e=>e) (fun _ _ _ e=>e) (fun b ps e=>⟨#[],by rw [e];simp⟩) (fun m hm=>?_) (fun b u e=>?_) I.bare
 ·obtain ⟨o,es,ep,ho,r⟩:=hm
  exact ⟨o,es,ep,k _ o (fun z=>(f _ z).2.1 rfl) ho,r⟩
 ·refine (I.hok b u e).stay (fun c v hc q=>k c v ?_ q) (fun _ q=>q) fun _ _ q=>q
  rcases hc with z | z
  ·rw [z];exact yo b u e
  ·exact yo c _ z
end
def IZ (K:PySem.W.Frag) (a:Addr):It :=
 ⟨fun i H=>∃ xs x,d9 K H a xs/\xs[i]?=some x,fun i H x H'=>∃ p y,x=.ref p/\H p=none/\H'=upd H p (.tup [.int i,y])/\∀ xs,d9 K H a xs->xs[i]?=some y,fun i H=>∃ xs,d9 K H a xs/\xs.length=i⟩
theorem MN {P:Program} {w:World} {K:PySem.W.Frag} {es:List Expr} {x1} {pos:Pos} (a e it:Addr) (hne:e≠it) :
  Turn P w K (.Tuple es x1 pos) (IZ K a) [e,it] e (fun i h=>(∃ old,IsEnum h e it i old)/\h.IsTupleIter it a i) where
 mem:=by simp
 obj:=fun i h st b hb=>by
  obtain ⟨⟨old,he⟩,o,e2,c,d⟩:=st
  rcases List.mem_cons.mp hb with rfl | hb
  ·exact ⟨_,he,fun v z=>by
    have z':Data.fields _=Data.cell v:=z
    cases z'⟩
  ·have q:b=it:=by simpa using hb
   subst q
   exact ⟨o,e2,fun v z=>by rw [d] at z;cases z⟩
 keep:=fun i h h' st k=>⟨let ⟨old,he⟩:=st.1;⟨old,k e (by simp) _ he⟩,st.2.at fun o q=>k it (by simp) o q⟩
 item:=by
  intro X hP hw hK hc i pins s σ H E I hf st hg
  subst hP hw hK
  obtain ⟨xs,x,hq,hx⟩:=hg
  obtain ⟨its,rv,p,hz⟩:=I.tuple hq
  obtain ⟨u,hu,ru⟩:=rv.get hx
  obtain ⟨⟨old,he⟩,hit⟩:=st
  have ht:s.heap.IsTuple a its.toArray:=p
  have FF:a≠it:=fun z=>by
   obtain ⟨o,e1,c1,_⟩:=hit
   obtain ⟨o2,e2,c2,_⟩:=ht
   rw [z,e1] at e2;cases e2
   exact absurd (c1.symm.trans c2) (by simp)
  have MO:e≠a:=fun z=>by
   obtain ⟨o2,e2,c2,_⟩:=ht
   rw [<- z,he] at e2;cases e2
   exact absurd c2 (by simp)
  have hl:=rv.length
  have hi:i < its.toArray.size:=by
   have:=List.getElem?_eq_some_iff.mp hu
   obtain ⟨q,_⟩:=this
   simpa using q
  refine wpAny_pyNext_enum_itemD (p9 (A:=X.A.in1) (I.ok.hd hc) it a FF its.toArray) he ⟨hit,ht⟩ hi hne (by simp [hne,MO]) fun y h1 tk hy ho hst hT hsz kk=>?_
  have ey:y=u:=by
   have:its.toArray[i]?=some u:=by simpa using hu
   exact Option.some.inj (hy.symm.trans this)
  subst ey
  refine ⟨_,rfl,wpAny_letOwnedTupleGo_enum ho fun h2 MP sb=>?_⟩
  have hel:@LT.lt Nat _ e s.heap.objs.size:=Heap.lt_size he
  have hil:@LT.lt Nat _ it s.heap.objs.size:=by obtain ⟨o,e1,_⟩:=hit;exact Heap.lt_size e1
  have MQ:H s.heap.objs.size=none:=I.hok.fresh (Nat.le_refl _)
  have sb':Heap.SameBut e h1 h2:=sb
  have I1:Inv X pins σ (upd H s.heap.objs.size (.tup [.int i,x])) { s with heap:=s.heap.push { cls:=.type "tuple",data:=.seq #[.int i tk,y] },toks:=s.toks } :=
   I.laid (fun b u e=>Heap.get?_push_of_some _ e) (Nat.le_refl _) ⟨(by decide:2<=sizeLine),[.int i tk,y],.cons ⟨tk,rfl⟩ (.cons ru .nil),⟨_,Heap.get?_push_size _ rfl,rfl,rfl,_,rfl⟩⟩
  have nn:∀ b∈[e,it],@LT.lt Nat _ b s.heap.objs.size:=fun b hb=>by
   rcases List.mem_cons.mp hb with rfl | hb
   ·exact hel
   ·have q:b=it:=by simpa using hb
    rw [q];exact hil
  have hn:∀ b∈[e,it],upd H s.heap.objs.size (.tup [.int i,x]) b=none:=fun b hb=>by
   unfold upd
   rw [if_neg (Nat.ne_of_lt (nn b hb))]
   exact (hf b hb).1
  have I2:Inv X pins σ (upd H s.heap.objs.size (.tup [.int i,x])) { s with heap:=h2,toks:=tk + 1 }:=by
   refine Inv.rG (s:={ s with heap:=s.heap.push { cls:=.type "tuple",data:=.seq #[.int i tk,y] },toks:=s.toks }) (h':=h2) I1 (ch:=[e,it]) (t':=tk + 1) (fun b o hb q=>?_) fun b hb=>⟨hn b hb,(hf b hb).2⟩
   have nb:b≠e/\b≠it:=by simpa using hb
   refine (sb'.2 b nb.1).trans ?_
   rcases Heap.get?_push_cases q with ⟨rfl,rfl⟩ | q
   ·exact hT
   ·exact kk b o nb.1 nb.2 q
  refine ⟨.ref s.heap.objs.size,_,I2,rfl,⟨_,x,rfl,MQ,rfl,fun ys rH=>by rw [I.gu rH hq];exact hx⟩,⟨⟨y,?_⟩,?_⟩,hn⟩
  ·have:((i + 1:Nat):Int)=(i:Int) + 1:=by omega
   rw [this];exact MP
  ·exact hst.1.extBut sb'.extBut (Ne.symm hne)
 done:=by
  intro X hP hw hK hc i pins s σ H E I hf st hg
  subst hP hw hK
  obtain ⟨xs,hq,hx⟩:=hg
  obtain ⟨its,rv,p,hz⟩:=I.tuple hq
  obtain ⟨⟨old,he⟩,hit⟩:=st
  have ht:s.heap.IsTuple a its.toArray:=p
  have FF:a≠it:=fun z=>by
   obtain ⟨o,e1,c1,_⟩:=hit
   obtain ⟨o2,e2,c2,_⟩:=ht
   rw [z,e1] at e2;cases e2
   exact absurd (c1.symm.trans c2) (by simp)
  have hl:=rv.length
  have ei:its.toArray.size=i:=by simp;omega
  refine wpAny_pyNext_enum_endD (p9 (A:=X.A.in1) (I.ok.hd hc) it a FF its.toArray) he (by rw [ei];exact ⟨hit,ht⟩) fun h1 eb=>⟨rfl,?_⟩
  obtain ⟨f0,f1,f2,f3,f4,f5⟩:=hf it (by simp)
  exact I.turned (t':=s.toks) (fun b o hb q=>eb b o hb q) f0 f1 f3 f4 f5
 self:=fun _ _ _ _ _ st h=>let ⟨_,he⟩:=st.1;wpAny_pyIter_enum he h
def sY (K:PySem.W.Frag) (ta:TA):TI:=fun σ H R=>ta σ H fun vs H1=>∃ a,vs=[.ref a]/\(∃ xs,d9 K H1 a xs)/\R (IZ K a) H1
theorem I0 {X:Cx} {es:List Expr} {x1} {p0:Pos} {l:Expr} {ta:TA} {p pos:Pos} (hg:Gl X "enumerate") (hm:X.mg "enumerate" = none) (ha:PA X [l] ta) (hs:starEach [l] X.env=[(false,eval l X.env)]:=by rfl) :
  PI X (.Tuple es x1 p0) (.Call (.Name "enumerate" p) [l] [] pos) (sY X.K ta):=by
 intro pins s σ H R I h
 refine Call_ (yr I hg hm boot_enumerate (PyProof.Rows.callWith_type1 (cy (ha pos pins s σ H _ I h) fun us s1 ⟨vs,H1,I1,r1,q1⟩=>?_) hs rfl))
 obtain ⟨a,e,⟨xs,hq⟩,q⟩:=q1
 subst e
 cases r1 with
 | cons r rr =>
  cases rr
  cases r
  obtain ⟨its,rv,p,hz⟩:=I1.tuple hq
  refine ML (show s1.heap.IsTuple a its.toArray from p) fun h1 he hi hsz kk=>?_
  refine wpAny_pyIter_enum he ?_
  refine ⟨s1.heap.objs.size + 1,[s1.heap.objs.size + 1,s1.heap.objs.size],_,_,H1,rfl,I1.kept (t':=s1.toks) kk,MN a _ _ (Nat.succ_ne_self _),⟨⟨_,he⟩,hi⟩,fun b hb=>?_,q⟩
  have hb':@LE.le Nat _ s1.heap.objs.size b:=by
   rcases List.mem_cons.mp hb with rfl | hb
   ·exact Nat.le_succ _
   ·have e:b=s1.heap.objs.size:=by simpa using hb
    rw [e];exact Nat.le_refl _
  exact I1.oa hb' (I1.hok.fresh hb')
end L2
namespace L2
open PySem PySem.Spec PyProof.Rows
section
open Sem (wp)
open PySem.AutoSeq1 (wpAny_loadPart')
open PySem.MeetsSeq PySem.MeetsSeq2 PySem.MeetsSeq3
theorem IntsAre.get {vs:List Value} {ns:List Int} (h:IntsAre vs ns):∀ {i:Nat} {n:Int},ns[i]?=some n->∃ t,vs[i]?=some (.int n t):=by
 induction h with
 | nil=>intro i n e;simp at e
 | cons a t h ih =>
  intro i n e
  cases i with
  | zero=>exact ⟨t,by simpa using e⟩
  | succ i=>simpa using ih (by simpa using e)
theorem qa (l:Addr) (items:Array Value) (n:Nat) (dd:Option Addr) (sl:Array (Option Value)) (ns:List Int) (hi:IntsAre items.toList ns) (v:Int) (t:Tok) (j:Nat) (hj:ns[j]?=some v) (hb:∀ i,i < j->ns[i]?≠some v) :
  Meets (Builtin.«tuple.index» ⟨[.ref l,.int v t],[]⟩)
   (fun _ R s=>s.heap.get? l=some { cls:=.type "tuple",dict:=dd,data:=.seq items n,slots:=sl }/\R (.ok (.ret (.int (j:Int) s.toks))) { s with toks:=s.toks + 1 }) :=
 .of_wp fun prog w A R s h=>by
  obtain ⟨hp,g,d,tk,os⟩:=s;obtain ⟨hl,h⟩:=h
  have z1:items.size=ns.length:=by rw [<- hi.length];simp
  have hjl:j < ns.length:=(List.getElem?_eq_some_iff.mp hj).1
  wp_walk using wpAny_loadPart' hl
  have key:wpAny (model prog w) A.in1 (forIn (m:=Sem) [:min items.size items.size] ((none,()):Option Fin×Unit) (fun (i:Nat) _ =>
    match items[i]? with
    | some y=>do
     let b <- eqBool y (Value.int v t)
     if b=true then do
      let r <- retInt (i:Int)
      pure (ForInStep.done (some r,()))
     else pure (ForInStep.yield (none,()))
    | _=>pure (ForInStep.yield (none,()))))
   (fun a s'=>a.1=some (.done (.ret (.int (j:Int) tk)))/\s'=⟨hp,g,d,tk + 1,os⟩) (fun e s'=>R (Except.error e) s') ⟨hp,g,d,tk,os⟩:=by
   rw [Std.Legacy.Range.forIn_eq_forIn_range']
   have ez:([:min items.size items.size]:Std.Legacy.Range).size=ns.length:=by
    simp [Std.Legacy.Range.size,z1]
   rw [ez]
   refine wpAny_forIn_list _ (fun rest b s'=>b.1=none/\s'=⟨hp,g,d,tk,os⟩/\∃ k,k<=j/\rest=List.range' k (ns.length - k) 1) _ ?_ ?_ _ _ ⟨rfl,rfl,0,Nat.zero_le _,by simp⟩
   ·rintro x rest b s' ⟨hb',rfl,k,hk,e⟩
    have el:ns.length - k=(ns.length - (k + 1)) + 1:=by omega
    rw [el,List.range'_succ] at e
    injection e with e1 e2
    subst e1
    have mS:x < ns.length:=by omega
    obtain ⟨t',ht'⟩:=IntsAre.get hi (List.getElem?_eq_getElem mS)
    have MR:items[x]?=some (.int ns[x] t'):=by rw [<- ht',Array.getElem?_toList]
    simp only [MR]
    obtain ⟨e,he,hiff⟩:=HT.LR A.in1 ⟨hp,g,d,tk,os⟩ ns[x] t' v t
    refine wpAny_bind (he prog w _ _ ?_)
    cases e with
    | true =>
     have ev:ns[x]=v:=hiff.mp rfl
     have MS:x=j:=by
      rcases Nat.lt_or_ge x j with h' | h'
      ·exact absurd (by rw [List.getElem?_eq_getElem mS,ev]) (hb x h')
      ·omega
     subst MS
     wp_walk
     first | exact ⟨rfl,rfl⟩ | trivial
    | false =>
     have ev:ns[x]≠v:=fun q=>absurd (hiff.mpr q) Bool.false_ne_true
     have:x≠j:=fun z=>ev (by subst z;rw [List.getElem?_eq_getElem mS] at hj;exact Option.some.inj hj)
     wp_walk
     exact ⟨rfl,rfl,x + 1,by omega,e2⟩
   ·rintro b s' ⟨hb',rfl,k,hk,e⟩
    have:(List.range' k (ns.length - k) 1).length=0:=by rw [<- e];rfl
    rw [List.length_range'] at this
    omega
  refine wpAny_mono key (fun a s' ha=>?_) (fun _ _ z=>z)
  obtain ⟨ha,rfl⟩:=ha
  obtain ⟨a1,a2⟩:=a
  cases (show a1=_ from ha)
  exact wpAny_pure ⟨_,rfl,h⟩
end
section
variable {X:Cx} {K:PySem.W.Frag}
def oh (K:PySem.W.Frag):V->List V->Hp->VK->Prop:=fun x vs H Q=>∃ (a:Addr) (ns:List Int) (v:Int) (j:Nat),x=.ref a/\vs=[.int v]/\d9 K H a (ns.map V.int)/\ns[j]?=some v/\(∀ i,i < j->ns[i]?≠some v)/\Q (.int (j:Int)) H
theorem MT:xD X "tuple.index" (oh X.K):=by
 intro pins s σ H x xs v us Q I rx rv h
 obtain ⟨a,ns,y,j,rfl,rfl,hq,hj,hb,q⟩:=h
 cases rx
 obtain ⟨u,rfl,t,rfl⟩:=vals1 rv
 obtain ⟨its,r,⟨⟨c,dd,dt,sl⟩,e,hc,hd,n,hdt⟩,hz⟩:=I.n9 hq
 cases (show c=.type "tuple" from hc)
 cases (show dt=.seq its.toArray n from hdt)
 refine call_meets F.slot_tuple_index ⟨_,e,rfl⟩ F.entry_tuple_index (F.args_tuple_index_2 _ _) (qa a its.toArray n dd sl ns (by simpa using HX r) y t j hj hb) ⟨e,?_⟩
 exact ⟨.int j,H,I.tok _,⟨_,rfl⟩,q⟩
theorem FG (hK:X.K=K):xD X "tuple.index" (oh K):=by subst hK;exact MT
theorem CJ {o e:Expr} {es:List Expr} {to:TE} {t:TA} {name:Str} {apos cpos:Pos} {T id:String} {r:V->List V->Hp->VK->Prop} (hK:X.K=K) (pa:PlainAttrs T) (slot:Slot T name id) (hty:typeOf (.builtin id)=pure (.type "method_descriptor")) (hm:xD X id r) (ho:PE X o to) (ha:PA X (e :: es) t)
  (hbase:attributeBase o name X.env (eval o X.env)=eval o X.env:=by rfl)
  (hfew:((backTo cpos (starEach (e :: es) X.env)).all (fun x=>!x.1) && (backToKw cpos (keywordEach [] X.env)).all (fun x=>x.1.isSome)
   && decide ((e :: es).length + ([]:List Keyword).length + (if ([]:List Keyword).isEmpty then 0 else 1) < 30))=true:=by rfl)
  (hline:(apos.endLine == cpos.line)=true:=by rfl) (hs:starEach (e :: es) X.env=(false,eval e X.env) :: starEach es X.env:=by rfl) (hplain:(backTo cpos (starEach es X.env)).any (·.1)=false:=by rfl) :
  PE X (.Call (.Attribute o name apos) (e :: es) [] cpos) (Fe K T r to t):=by subst hK;exact qN pa slot hty hm ho ha hbase hfew hline hs hplain
end
end L2
namespace L2
open PySem PySem.Spec PyProof.Rows
open Builtin.Str
section
variable {X:Cx} {K:PySem.W.Frag}
end
section
variable {X:Cx} {tg:Expr}
end
end L2
namespace L2
open PySem PySem.Spec PyProof.Rows
open Builtin.Str
section
variable {prog:Program} {w:World} {A:Around} {E:Value->Shared->Prop} {s:Shared}
end
set_option genInjectivity false in
inductive ZS where
 | tup (a:Addr) | lst (a:Addr) | str (x:Str)
def ZS.it (j:Addr) (i:Nat) (h:Heap):ZS->Prop
 | .tup a=>h.IsTupleIter j a i
 | .lst a=>h.IsListIter j a i
 | .str x=>∃ t,h.IsStrIter j "str_ascii_iterator" x t i\/h.IsStrIter j "str_iterator" x t i
def ZS.has (K:PySem.W.Frag) (H:Hp) (i:Nat) (v:V):ZS->Prop
 | .tup a=>∃ xs,d9 K H a xs/\xs[i]?=some v
 | .lst a=>∃ xs,jf K H a xs/\xs[i]?=some v
 | .str x=>∃ c,x.cps[i]?=some c/\v=.str ⟨#[c]⟩
def ZS.fin (K:PySem.W.Frag) (H:Hp) (i:Nat):ZS->Prop
 | .tup a=>∃ xs,d9 K H a xs/\xs.length=i
 | .lst a=>∃ xs,jf K H a xs/\xs.length=i
 | .str x=>x.cps.size=i
section
variable {X:Cx} {pins:List (Addr×Obj)} {σ:St} {H:Hp} {s:Shared}
end
theorem ZS.rJ {X:Cx} {pins:List (Addr×Obj)} {σ:St} {H:Hp} {s:Shared} {src:ZS} {i:Nat} {x y:V} (I:Inv X pins σ H s) (a:src.has X.K H i x) (b:src.has X.K H i y):y=x:=by
 cases src with
 | tup p =>
  obtain ⟨xs,h1,e1⟩:=a
  obtain ⟨ys,h2,e2⟩:=b
  rw [I.gu h2 h1] at e2
  rw [e1] at e2
  exact (Option.some.inj e2).symm
 | lst p =>
  obtain ⟨xs,h1,e1⟩:=a
  obtain ⟨ys,h2,e2⟩:=b
  rw [I.nL h2 h1] at e2
  rw [e1] at e2
  exact (Option.some.inj e2).symm
 | str z =>
  obtain ⟨c,h1,rfl⟩:=a
  obtain ⟨d,h2,rfl⟩:=b
  rw [h1] at h2
  cases h2
  rfl
def ZS.val (K:PySem.W.Frag) (H:Hp) (x:V):ZS->Prop
 | .tup a=>x=.ref a/\∃ xs,d9 K H a xs
 | .lst a=>x=.ref a/\∃ xs,jf K H a xs
 | .str z=>x=.str z
end L2
namespace L2
open PySem PySem.Spec PyProof.Rows
section
variable {X:Cx} {K:PySem.W.Frag}
end
end L2
namespace L2
open PySem PySem.Spec PyProof.Rows
open Builtin.Str
theorem ze:Slot "reversed" "__next__" "reversed.__next__" :=
 .of (owner:="reversed") (n:="__next__") (by rw [typeLookup_type,builtinLookup_eq_fast];kernel_rfl) (by decide +kernel) (by decide +kernel) (by decide +kernel)
  (by first | exact .inl (by decide +kernel) | exact .inr (by decide +kernel)) (by rw [isSubtype_type];kernel_rfl)
theorem Ja:Slot "reversed" "__iter__" "reversed.__iter__" :=
 .of (owner:="reversed") (n:="__iter__") (by rw [typeLookup_type,builtinLookup_eq_fast];kernel_rfl) (by decide +kernel) (by decide +kernel) (by decide +kernel)
  (by first | exact .inl (by decide +kernel) | exact .inr (by decide +kernel)) (by rw [isSubtype_type];kernel_rfl)
theorem Jb:entryFor table "reversed.__next__" = some Builtin.«reversed.__next__»:=entryFor_of_tree (by kernel_rfl)
theorem Jc (a:Value):argsOk "reversed.__next__" ⟨[a],[]⟩:=by unfold argsOk;kernel_rfl
theorem MU:entryFor table "reversed.__iter__" = some Builtin.«dict_keyiterator.__iter__» :=
 entryFor_alias (id':="dict_keyiterator.__iter__") (by kernel_rfl) (by first | rfl | decide +kernel) (by decide +kernel) (by kernel_rfl)
theorem MV (a:Value):argsOk "reversed.__iter__" ⟨[a],[]⟩:=by unfold argsOk;kernel_rfl
theorem MW:typeLookup (.type "tuple") "__reversed__" = pure none:=by rw [typeLookup_type,builtinLookup_eq_fast];kernel_rfl
theorem MX:typeLookup (.type "str") "__reversed__" = pure none:=by rw [typeLookup_type,builtinLookup_eq_fast];kernel_rfl
def kF (h:Heap) (a:Addr) (v:Value) (i:Int):Prop:=∃ o,h.get? a=some o/\o.cls=.type "reversed" /\ o.data=.fields #[v,rawInt i]
theorem kF.at {h h':Heap} {a:Addr} {v:Value} {i:Int} (x:kF h a v i) (e:∀ o,h.get? a=some o->h'.get? a=some o):kF h' a v i:=let ⟨o,ho,r⟩:=x;⟨o,e _ ho,r⟩
section
variable {prog:Program} {w:World} {A:Around} {E:Value->Shared->Prop} {s:Shared}
theorem kF.typeIs {a:Addr} {v:Value} {i:Int} (x:kF s.heap a v i):s.TypeIs (.ref a) "reversed" := let ⟨o,ho,hc,_⟩:=x;⟨o,ho,hc⟩
theorem Jd {it:Addr} {v:Value} {i:Int} {Q:Value->Shared->Prop} (hit:kF s.heap it v i) (h:Q (.ref it) s):wpAny (model prog w) A (pyIter (.ref it)) Q E s:=by
 refine wpAny_pyIter_slot hit.typeIs Ja (wpAny_call_entry Ja hit.typeIs MU ?_ (MV _))
 show wpAny _ _ (ret (.ref it)) _ _ s
 exact wpAny_pure ⟨_,rfl,"reversed",_,hit.typeIs,ze.lookup,h⟩
theorem MY {it:Addr} {T gid:String} {v:Value} {y:Value->Prop} {i:Nat} {Q:Option Value->Shared->Prop} (hit:kF s.heap it v (i:Int)) (hT:s.TypeIs v T) (hg:typeLookup (.type T) "__getitem__" = pure (some (.builtin gid)))
  (hget:∀ (A':Around) (E':Value->Shared->Prop) (Q':Value->Shared->Prop) (tk:Tok) (n:Nat),(∀ z k,y z->Q' z { s with toks:=k })->wpAny (model prog w) A' (getItem v (.int i tk)) Q' E' { s with toks:=n })
  (hQ:∀ x h' k,y x->kF h' it v ((i:Int) - 1)->Heap.SameBut it s.heap h'->Q (some x) { s with heap:=h',toks:=k }):wpAny (model prog w) A (pyNext (.ref it)) Q E s:=by
 obtain ⟨o,ho,hc,hd⟩:=id hit
 unfold pyNext
 refine wpAny_bind (wpAny_attempt (wpAny_callSpecial?_slot (name:=Str.ofString "__next__") hit.typeIs ze
  (wpAny_call_entry ze hit.typeIs Jb ?_ (Jc _))))
 unfold Builtin.«reversed.__next__»
 refine wpAny_bind (wpAny_of_eq (a:=(Value.ref it,[])) rfl ?_)
 try dsimp only
 refine wpAny_bind (wpAny_field ho hd (x:=v) rfl ?_)
 refine wpAny_bind (wpAny_field ho hd (x:=rawInt (i:Int)) rfl ?_)
 show wpAny _ _ (if (i:Int) < 0 then _ else _) _ _ s
 rw [if_neg (by omega)]
 refine wpAny_bind (wpAny_specialOf hT hg ?_)
 try dsimp only
 rw [if_neg (by simp)]
 refine wpAny_bind (wpAny_mkInt ?_)
 refine wpAny_bind (wpAny_attempt (hget _ _ _ _ _ fun x k hx=>?_))
 show wpAny _ _ (field (.ref it) 1 >>= _) _ _ _
 refine wpAny_bind (wpAny_field ho hd (x:=rawInt (i:Int)) rfl ?_)
 refine wpAny_bind (wpAny_setField ho hd (by simp) ?_)
 first
 | refine wpAny_pure ⟨x,rfl,wpAny_pure (hQ _ _ _ hx ?_ (Heap.SameBut.update ..))⟩
 | refine wpAny_pure ⟨x,rfl,wpAny_bind (wpAny_pure (wpAny_pure (hQ _ _ _ hx ?_ (Heap.SameBut.update ..))))⟩
 exact ⟨_,Heap.get?_update_self _ ho (Obj.isFreed_of_fields (Obj.data_mapFields hd _)),(Obj.cls_mapFields ..).trans hc,by rw [Obj.data_mapFields hd];simp [rawInt]⟩
theorem MZ {it:Addr} {v:Value} {i:Int} {Q:Option Value->Shared->Prop} (hh:A.handled=none) (hit:kF s.heap it v i) (hi:i < 0)
  (hQ:∀ h',Heap.ExtBut it s.heap h'->Q none { s with heap:=h' }):wpAny (model prog w) A (pyNext (.ref it)) Q E s:=by
 obtain ⟨o,ho,hc,hd⟩:=id hit
 unfold pyNext
 refine wpAny_bind (wpAny_attempt (wpAny_callSpecial?_slot (name:=Str.ofString "__next__") hit.typeIs ze
  (wpAny_call_entry ze hit.typeIs Jb ?_ (Jc _))))
 unfold Builtin.«reversed.__next__»
 refine wpAny_bind (wpAny_of_eq (a:=(Value.ref it,[])) rfl ?_)
 try dsimp only
 refine wpAny_bind (wpAny_field ho hd (x:=v) rfl ?_)
 refine wpAny_bind (wpAny_field ho hd (x:=rawInt i) rfl ?_)
 show wpAny _ _ (if i < 0 then _ else _) _ _ s
 rw [if_pos hi]
 refine wpAny_bind (wpAny_rule ?_)
 refine wpAny_bind ?_
 show wpAny _ _ (setField (.ref it) 1 (rawInt (-1)) >>= fun _=>setField (.ref it) 0 .none) _ _ _
 refine wpAny_bind (wpAny_setField ho hd (by simp) ?_)
 have M0:=Heap.get?_update_self (Obj.mapFields fun x=>x.setIfInBounds 1 (rawInt (-1))) ho (Obj.isFreed_of_fields (Obj.data_mapFields hd _))
 have hd1:=Obj.data_mapFields hd (fun x=>x.setIfInBounds 1 (rawInt (-1)))
 refine wpAny_setField M0 hd1 (by simp) ?_
 first
 | show wpAny _ _ (newExc (.type "StopIteration") [] >>= _) _ _ _
 | (refine wpAny_bind ?_;show wpAny _ _ (newExc (.type "StopIteration") [] >>= _) _ _ _)
 refine wpAny_bind ?_
 simp only [newExc,newTuple]
 refine wpAny_bind (wpAny_newObj_type ?_ (by size_fits))
 refine wpAny_bind (m:=firstArgMember _ _) (wpAny_of_eq (a:=Value.none) (by first | rfl | (simp only [firstArgMember];rfl)) ?_)
 refine wpAny_newObj_type ?_ (by size_fits)
 simp only [raiseNew]
 refine wpAny_bind (wpAny_handled ?_)
 first | rw [show A.in1.handled=none from hh] | rw [hh]
 refine wpAny_bind (wpAny_pure (wpAny_throw ?_))
 refine wpAny_bind (wpAny_isInstance (T:="StopIteration") (b:=true) ⟨_,Heap.get?_push_size _ rfl,rfl⟩ isSubtype_stop ?_)
 refine wpAny_pure (hQ _ ?_)
 have x2:Heap.ExtBut it s.heap ((s.heap.update it (Obj.mapFields fun x=>x.setIfInBounds 1 (rawInt (-1)))).update it (Obj.mapFields fun x=>x.setIfInBounds 0 .none)):=fun c o hc e=>(Heap.SameBut.update ..).extBut c o hc ((Heap.SameBut.update ..).extBut c o hc e)
 exact (x2.push _).push _
end
def Je (K:PySem.W.Frag) (src:ZS) (n:Nat):It:=⟨fun i H=>i < n/\∃ v,src.has K H (n - 1 - i) v,fun i H x H'=>H'=H/\∀ v,src.has K H (n - 1 - i) v->v=x,fun i _=>i=n⟩
theorem ZS.got {X:Cx} {pins:List (Addr×Obj)} {σ:St} {H:Hp} {s:Shared} {src:ZS} {u:Value} {x:V} {i:Nat} {v:V} (I:Inv X pins σ H s) (r:RelV x u) (hv:src.val X.K H x) (nl:∀ a,src≠.lst a) (hs:∀ z,src=.str z->z.length<=sizeLine) (h:src.has X.K H i v) :
  ∃ (T gid:String) (y:Value->Prop),s.TypeIs u T/\typeLookup (.type T) "__getitem__" = pure (some (.builtin gid))/\(∀ z,y z->RelV v z) /\
   ∀ (A':Around) (E':Value->Shared->Prop) (Q':Value->Shared->Prop) (tk:Tok) (n:Nat),(∀ z k,y z->Q' z { s with toks:=k })->wpAny (model X.prog X.w) A' (getItem u (.int i tk)) Q' E' { s with toks:=n }:=by
 have hn:=kD
 cases src with
 | lst a=>exact absurd rfl (nl a)
 | tup a =>
  obtain ⟨rfl,xs,hq⟩:=hv
  obtain ⟨xs',hq',hx⟩:=h
  rw [I.gu hq' hq] at hx
  cases r
  obtain ⟨its,rv,pl,hz⟩:=I.tuple hq
  obtain ⟨w,ew,rw'⟩:=rv.get hx
  have hl:=rv.length
  have hi:=(List.getElem?_eq_some_iff.mp hx).1
  refine ⟨"tuple",_,fun z=>z=w,pl.typeIs,slot_tuple_getitem.lookup,fun z e=>e ▸ rw',fun A' E' Q' tk n hq'=>?_⟩
  exact getItem_tuple (s:={ s with toks:=n }) (j:=i) pl (by omega) (by omega) (by rw [List.size_toArray];exact seqIndex_of (by omega) (by omega)) (by simpa using ew) (hq' w n rfl)
 | str z =>
  cases hv
  obtain ⟨c,hx,rfl⟩:=h
  obtain ⟨t,rfl⟩:=r
  have hi:=(Array.getElem?_eq_some_iff.mp hx).1
  have hl:z.length=z.cps.size:=rfl
  have SQ:=hs z rfl
  refine ⟨"str",_,fun y=>∃ t,y=.str ⟨#[c]⟩ t,typeIs_str s z t,slot_str_getitem.lookup,fun y hy=>hy,fun A' E' Q' tk n hq'=>?_⟩
  refine getItem_str (s:={ s with toks:=n }) (c:=c) (by
   have e1:decide ((i:Int) < -(2 ^ 63:Int))=false:=decide_eq_false (by omega)
   have e2:decide ((i:Int) >= 2 ^ 63)=false:=decide_eq_false (by omega)
   rw [e1,e2,Bool.or_false]) (by rw [seqIndex_of (by omega) (by omega)];simpa using hx) (hq' _ _ ⟨_,rfl⟩)
theorem M1 {P:Program} {w:World} {K:PySem.W.Frag} {tg:Expr} (src:ZS) (u:Value) (n:Nat) (it:Addr) (nl:∀ a,src≠.lst a) (hs:∀ z,src=.str z->z.length<=sizeLine) (x:V) (rx:RelV x u) (hsv:∀ (H:Hp) (v:V) (i:Nat),src.has K H i v->src.val K H x) :
  Turn P w K tg (Je K src n) [it] it (fun i h=>kF h it u ((n:Int) - 1 - (i:Nat))) where
 mem:=by simp
 obj:=fun i h st b hb=>by
  have e:b=it:=by simpa using hb
  subst e
  obtain ⟨o,e,c,d⟩:=st
  exact ⟨o,e,fun v z=>by rw [d] at z;cases z⟩
 keep:=fun i h h' st k=>st.at fun o e=>k it (by simp) o e
 item:=by
  intro X hP hw hK hc i pins s σ H E I hf st hg
  subst hP hw hK
  obtain ⟨hin,v,hv⟩:=hg
  obtain ⟨f0,f1,f2,f3,f4,f5⟩:=hf it (by simp)
  obtain ⟨T,gid,y,hT,hl,hy,hget⟩:=ZS.got I rx (hsv H v _ hv) nl hs hv
  have st':kF s.heap it u ((n - 1 - i:Nat):Int):=by
   have e:((n - 1 - i:Nat):Int)=(n:Int) - 1 - (i:Nat):=by omega
   rw [e];exact st
  refine MY st' hT hl hget fun z h' tk hz hr sb=>?_
  have I1:Inv X pins σ H { s with heap:=h',toks:=tk }:=I.turned (fun b o hb e=>(sb.2 b hb).trans e) f0 f1 f3 f4 f5
  have hr':kF h' it u ((n:Int) - 1 - ((i + 1:Nat):Int)):=by
   have e:(n:Int) - 1 - ((i + 1:Nat):Int)=((n - 1 - i:Nat):Int) - 1:=by omega
   rw [e];exact hr
  obtain ⟨o,e,c,d⟩:=id hr
  exact ⟨z,rfl,Cm (s:={ s with heap:=h',toks:=tk }) e c d (by decide) ⟨v,H,I1,hy z hz,⟨rfl,fun v' hv'=>ZS.rJ I hv hv'⟩,hr',fun b hb=>(hf b hb).1⟩⟩
 done:=by
  intro X hP hw hK hc i pins s σ H E I hf st hg
  subst hP hw hK
  have hg:i=n:=hg
  subst hg
  obtain ⟨f0,f1,f2,f3,f4,f5⟩:=hf it (by simp)
  exact MZ (I.ok.hd hc) st (by omega) fun h' eb=>⟨rfl,I.turned (t':=s.toks) (fun b o hb e=>eb b o hb e) f0 f1 f3 f4 f5⟩
 self:=fun _ _ _ _ _ st h=>Jd st h
theorem M3:Slot "reversed" "__init__" "object.__init__" :=
 .of (owner:="object") (n:="__init__") (by rw [typeLookup_type,builtinLookup_eq_fast];kernel_rfl) (by decide +kernel) (by decide +kernel) (by decide +kernel)
  (by first | exact .inl (by decide +kernel) | exact .inr (by decide +kernel)) (by rw [isSubtype_type];kernel_rfl)
theorem Jf:TypeCalled "reversed" "reversed.__new__" "object.__init__" :=
 ⟨by decide +kernel,by decide +kernel,⟨_,_,F.mro_reversed⟩,F.made_reversed,by decide +kernel,by rw [isSubtype_type];kernel_rfl,M3⟩
theorem Jg {u:Value} {T gid:String} {n:Nat} (h0:typeLookup (.type T) "__reversed__" = pure none) (h1:typeLookup (.type T) "__getitem__" = pure (some (.builtin gid))) (hsub:isSubtype (.type T) (.type "dict")=pure false)
  (FH:["tuple.__getitem__","str.__getitem__","bytes.__getitem__","bytearray.__getitem__","memoryview.__getitem__","numpy.ndarray.__getitem__","sqlite3.Row.__getitem__"].contains gid=true) :
  Meets (Builtin.«reversed.__new__» ⟨[.type "reversed",u],[]⟩) (fun _ R s=>s.TypeIs u T /\
   (∀ (prog:Program) (w:World) (A':Around) (E':Value->Shared->Prop) (Q':Value->Shared->Prop),(∀ t k,Q' (.int n t) { s with toks:=k })->wpAny (model prog w) A' (call (.builtin "len") [u]) Q' E' s) /\
   ∀ k,R (.ok (.ret (.ref s.heap.objs.size))) { s with heap:=s.heap.push { cls:=.type "reversed",data:=.fields #[u,rawInt ((n:Int) - 1)] },toks:=k }) :=
 .of_wp fun prog w A R s h=>by
 obtain ⟨hT,hlen,h⟩:=h
 unfold Builtin.«reversed.__new__»
 refine wpAny_bind (wpAny_of_eq (newClass_reversed _) ?_)
 try dsimp only
 refine wpAny_bind (wpAny_of_eq (a:=()) (by first | rfl | kernel_rfl) ?_)
 refine wpAny_bind (wpAny_of_eq (a:=()) (by first | rfl | kernel_rfl) ?_)
 try dsimp only
 refine wpAny_bind (wpAny_specialOf hT h0 ?_)
 try dsimp only
 refine wpAny_bind ?_
 show wpAny _ _ (isInstance u (.type "dict") >>= _) _ _ _
 refine wpAny_bind (wpAny_isInstance (b:=false) hT hsub ?_)
 rw [if_neg Bool.false_ne_true]
 refine wpAny_bind (wpAny_specialOf hT h1 ?_)
 show wpAny _ _ (if ["tuple.__getitem__","str.__getitem__","bytes.__getitem__","bytearray.__getitem__","memoryview.__getitem__","numpy.ndarray.__getitem__","sqlite3.Row.__getitem__"].contains gid=true then _ else _) _ _ _
 rw [if_pos FH]
 refine wpAny_pure ?_
 rw [if_neg (by simp)]
 refine wpAny_bind (hlen _ _ _ _ _ fun t k=>?_)
 refine wpAny_bind (wpAny_of_eq (a:=some (n:Int)) rfl ?_)
 try dsimp only
 refine wpAny_bind ?_
 show wpAny _ _ (newObj (.type "reversed") (.fields #[u,rawInt ((n:Int) - 1)])) _ _ _
 refine wpAny_newObj_type ?_
 exact wpAny_pure ⟨_,rfl,h k⟩
theorem M4:isSubtype (.type "tuple") (.type "dict")=pure false:=by rw [isSubtype_type];kernel_rfl
theorem M5:isSubtype (.type "str") (.type "dict")=pure false:=by rw [isSubtype_type];kernel_rfl
def zf (K:PySem.W.Frag) (ta:TA):TI:=fun σ H R=>ta σ H fun vs H1=>∃ (x:V) (src:ZS) (n:Nat),vs=[x]/\src.val K H1 x/\src.fin K H1 n/\(∀ a,src≠.lst a)/\(∀ z,src=.str z->z.length<=sizeLine)/\R (Je K src n) H1
theorem u7 {X:Cx} {tg l:Expr} {ta:TA} {p pos:Pos} (hg:Gl X "reversed") (hm:X.mg "reversed" = none) (ha:PA X [l] ta) (hs:starEach [l] X.env=[(false,eval l X.env)]:=by rfl) :
  PI X tg (.Call (.Name "reversed" p) [l] [] pos) (zf X.K ta):=by
 intro pins s σ H R I h
 refine Call_ (yr I hg hm Mm (PyProof.Rows.callWith_type1 (cy (ha pos pins s σ H _ I h) fun us s1 ⟨vs,H1,I1,r1,q1⟩=>?_) hs rfl))
 obtain ⟨x,src,n,e,hv,hn,nl,hz,q⟩:=q1
 subst e
 obtain ⟨u,rfl,r⟩:=vals1 r1
 ·have SR:=kD
  have hsv:∀ (H:Hp) (v:V) (i:Nat),src.has X.K H i v->src.val X.K H x:=fun H v i hh=>by
   cases src with
   | tup a=>obtain ⟨xs,h1,_⟩:=hh;exact ⟨hv.1,xs,h1⟩
   | lst a=>exact absurd rfl (nl a)
   | str z=>exact hv
  have fin:∀ k,wpAny (model X.prog X.w) X.A (pyIter (.ref s1.heap.objs.size)) (EW X pins σ tg R) X.xe { s1 with heap:=s1.heap.push { cls:=.type "reversed",data:=.fields #[u,rawInt ((n:Int) - 1)] },toks:=k }:=fun k=>by
   have g:kF (s1.heap.push { cls:=.type "reversed",data:=.fields #[u,rawInt ((n:Int) - 1)] }) s1.heap.objs.size u ((n:Int) - 1 - (0:Nat)):=⟨_,Heap.get?_push_size _ rfl,rfl,by simp⟩
   refine Jd g ?_
   refine ⟨s1.heap.objs.size,[s1.heap.objs.size],_,_,H1,rfl,I1.kept (t':=k) fun b o e=>Heap.get?_push_of_some _ e,M1 src u n _ nl hz x r hsv,g,fun b hb=>?_,q⟩
   have e:b=s1.heap.objs.size:=by simpa using hb
   subst e
   exact I1.oa (Nat.le_refl _) (I1.hok.fresh (Nat.le_refl _))
  cases src with
  | lst a=>exact absurd rfl (nl a)
  | tup a =>
   obtain ⟨rfl,xs,hq⟩:=id hv
   obtain ⟨xs',hq',hx⟩:=hn
   have hx:xs.length=n:=by rw [<- I1.gu hq' hq];exact hx
   cases r
   obtain ⟨its,rv,pl,hz'⟩:=I1.tuple hq
   have hl:=rv.length
   refine callType_new Jf (by decide) (F.typeCall_reversed_1 _) (F.newCall_reversed_1 _) (fun obj=>F.args_object_init_2 obj _) F.entry_reversed_new (Jg (n:=n) MW slot_tuple_getitem.lookup M4 (by decide)) ⟨pl.typeIs,fun prog w A' E' Q' hq=>?_,fun k=>⟨⟨_,Heap.get?_push_size _ rfl,rfl⟩,fin k⟩⟩
   have e:its.toArray.size=n:=by rw [List.size_toArray];omega
   refine len_tuple pl (by rw [e];omega) ?_
   rw [e]
   exact hq _ _
  | str z =>
   cases hv
   have hn:z.length=n:=hn
   have:=hz z rfl
   obtain ⟨t,rfl⟩:=r
   refine callType_new Jf (by decide) (F.typeCall_reversed_1 _) (F.newCall_reversed_1 _) (fun obj=>F.args_object_init_2 obj _) F.entry_reversed_new (Jg (n:=n) MX slot_str_getitem.lookup M5 (by decide)) ⟨typeIs_str _ z t,fun prog w A' E' Q' hq=>?_,fun k=>⟨⟨_,Heap.get?_push_size _ rfl,rfl⟩,fin k⟩⟩
   refine len_str (by omega) ?_
   rw [hn]
   exact hq _ _
end L2
namespace L2
open PySem PySem.Spec PyProof.Rows
open Builtin
section
variable {X:Cx}
end
theorem Jh:fillsNumberSlot (.type "tuple") "mul" = pure false :=
 PySem.fillsNumberSlot_seq (id:="tuple.__mul__") (r:=some (.builtin "tuple.__rmul__")) F.slot_tuple_mul.lookup (by decide +kernel) F.slot_tuple_rmul.lookup (by decide +kernel)
theorem Ji:seqRepeat? (.type "tuple")=pure (some (.builtin "tuple.__mul__")):=by
 unfold seqRepeat?
 rw [PySem.seqSlot_of (T:="tuple") (name:="__mul__") (id:="tuple.__mul__") F.slot_tuple_mul.lookup (by decide +kernel),PySem.seqSlot_of (T:="tuple") (name:="__rmul__") (id:="tuple.__rmul__") F.slot_tuple_rmul.lookup (by decide +kernel)]
 rfl
theorem Jj (a:Int) (t:Tok) (l:Addr) (items:Array Value) (n:Nat) (dd:Option Addr) (sl:Array (Option Value)) :
  Meets (Builtin.«int.__rmul__» ⟨[.int a t,.ref l],[]⟩) (fun _ R s=>s.heap.get? l=some { cls:=.type "tuple",dict:=dd,data:=.seq items n,slots:=sl }/\R (.ok (.ret Value.notImplemented)) s) :=
 .of_wp fun prog w A R s h=>by obtain ⟨hp,g,d,tk,os⟩:=s;obtain ⟨hl,h⟩:=h;wp_walk;exact ⟨_,rfl,h⟩
theorem M6 (t:Tok) (l:Addr) (items:Array Value) (n:Nat) (dd:Option Addr) (sl:Array (Option Value)) :
  Meets (Builtin.«tuple.__mul__» ⟨[.ref l,.int 1 t],[]⟩) (fun _ R s=>s.heap.get? l=some { cls:=.type "tuple",dict:=dd,data:=.seq items n,slots:=sl }/\R (.ok (.ret (.ref l))) s) :=
 .of_wp fun prog w A R s h=>by obtain ⟨hp,g,d,tk,os⟩:=s;obtain ⟨hl,h⟩:=h;wp_walk;exact ⟨_,rfl,h⟩
theorem M7 (t:Tok) (l:Addr) (n:Nat) (dd:Option Addr) (sl:Array (Option Value)) :
  Meets (Builtin.«tuple.__mul__» ⟨[.ref l,.int 0 t],[]⟩) (fun _ R s=>s.heap.get? l=some { cls:=.type "tuple",dict:=dd,data:=.seq #[] n,slots:=sl }/\R (.ok (.ret (.ref l))) s) :=
 .of_wp fun prog w A R s h=>by obtain ⟨hp,g,d,tk,os⟩:=s;obtain ⟨hl,h⟩:=h;wp_walk;exact ⟨_,rfl,h⟩
theorem M8 (t:Tok) (l:Addr) (i:Value) (r:List Value) (n:Nat) (dd:Option Addr) (sl:Array (Option Value)) :
  Meets (Builtin.«tuple.__mul__» ⟨[.ref l,.int 0 t],[]⟩) (fun _ R s=>s.heap.get? l=some { cls:=.type "tuple",dict:=dd,data:=.seq (i :: r).toArray n,slots:=sl }/\R (.ok (.ret (.ref s.heap.objs.size))) { s with heap:=s.heap.push { cls:=.type "tuple",data:=.seq #[] } }) :=
 .of_wp fun prog w A R s h=>by obtain ⟨hp,g,d,tk,os⟩:=s;obtain ⟨hl,h⟩:=h;wp_walk;exact ⟨_,rfl,h⟩
def zg (K:PySem.W.Frag):R2:=fun x y H Q=>∃ a k xs,x=.ref a/\y=.int k/\d9 K H a xs/\0<=k/\k<=1/\mO K H (if k=1 then xs else []) Q
theorem M9 {X:Cx}:kq X (binaryOp .Mult) (zg X.K):=by
 intro pins s σ H x y v u Q I rx ry h
 obtain ⟨a,k,xs,rfl,rfl,ha,hk1,hk2,q⟩:=h
 cases rx
 obtain ⟨t,rfl⟩:=ry
 obtain ⟨its,r1,p1,_⟩:=I.tuple ha
 obtain ⟨⟨cls,dd,data,sl⟩,ho,hc,n,hd⟩:=id p1
 simp only at hc hd
 subst hc hd
 refine wpAny_binaryOp_repeat_ref (T:="tuple") (U:="int") (by decide) ⟨_,ho,rfl⟩ (fun s'=>typeIs_int s' k t) Jh F.fills_int_mul F.slot_int_rmul Ji F.slot_int_index.lookup
  (call_meets F.slot_int_rmul (typeIs_int s k t) F.entry_int_rmul (F.args_int_rmul_2 _ _) (Jj k t a its.toArray n dd sl)
   ⟨ho,rfl,⟨_,ho,rfl⟩,?_⟩)
 by_cases h1:k=1
 ·subst h1
  rw [if_pos rfl] at q
  exact call_meets F.slot_tuple_mul ⟨_,ho,rfl⟩ F.entry_tuple_mul (F.args_tuple_mul_2 _ _) (M6 t a its.toArray n dd sl) ⟨ho,⟨.ref a,H,I,rfl,q.it ha⟩⟩
 ·rw [if_neg h1] at q
  have h0:k=0:=by omega
  subst h0
  cases its with
  | nil =>
   have e:xs=[]:=r1.ka.mp rfl
   exact call_meets F.slot_tuple_mul ⟨_,ho,rfl⟩ F.entry_tuple_mul (F.args_tuple_mul_2 _ _) (M7 t a n dd sl) ⟨ho,⟨.ref a,H,I,rfl,q.it (by rw [<- e];exact ha)⟩⟩
  | cons i r =>
   refine call_meets F.slot_tuple_mul ⟨_,ho,rfl⟩ F.entry_tuple_mul (F.args_tuple_mul_2 _ _) (M8 t a i r n dd sl) ⟨ho,?_⟩
   refine ⟨.ref s.heap.objs.size,_,I.laid (t':=s.toks) (o:=.tup []) (fun b ob q=>Heap.get?_push_of_some _ q) (Nat.le_refl _) ?_,rfl,q.new _ (I.hok.fresh (Nat.le_refl _))⟩
   exact ⟨by simp,_,.nil,lH.new _ _⟩
end L2
namespace L2
open PySem PySem.Spec PyProof.Rows
section
variable {prog:Program} {w:World} {A:Around} {E:Value->Shared->Prop} {s:Shared}
end
section
variable {X:Cx} {pos:Pos}
end
end L2
namespace L2
open PySem PySem.Spec PyProof.Rows
section
variable {prog:Program} {w:World} {A:Around} {E:Value->Shared->Prop} {s:Shared}
end
end L2
namespace L2
open PySem PySem.Spec PyProof.Rows
section
variable {prog:Program} {w:World} {A:Around} {E:Value->Shared->Prop} {s:Shared}
end
end L2
namespace L2
open PySem PySem.Spec PyProof.Rows
end L2
namespace L2
open PySem PySem.Spec PyProof.Rows
section
variable {X:Cx} {pos:Pos}
end
end L2
namespace L2
open PySem PySem.Spec PyProof.Rows
def DU (a:Addr) (xs:List (List Int×Addr×Value)):HO:=.ext fun h=>(a == sysModules)=false/\xs.length<=sizeLine/\∃ o es ep,h.get? a=some o/\o.ExactDict/\o.data=.dict es ep /\
 (∃ (P:Program) (w:World),es.toList=xs.map (entryOfKey (tupleKind (intKind P w))))/\(xs.map (·.1)).Nodup
section
variable {X:Cx} {pins:List (Addr×Obj)} {σ:St} {H:Hp} {s:Shared} {a b:Addr} {k:List Int} {xs:List (List Int×Addr×Value)}
end
section
variable {X:Cx} {o i e value:Expr} {pos pos' tpos:Pos} {td ty tv:TE}
end
end L2
namespace L2
open PySem PySem.Spec PyProof.Rows PySem.SeqAt PySem.MeetsSeq
def mT (A:Around) (s:Shared) (y x:Value) (r:Bool):Prop:=∀ (prog:Program) (w:World) (E Q:Value->Shared->Prop),Q (.bool r) s->wpAny (model prog w) A (richCompare .Lt y x) Q E s
def cT (e lt:Nat->Bool) (fin:Bool):List Nat->Bool
 | []=>fin
 | i :: r=>if e i then cT e lt fin r else lt i
theorem Na (l m:Addr) (a b:Array Value) (n1 n2:Nat) (d1 d2:Option Addr) (s1 s2:Array (Option Value)) (e lt:Nat->Bool) :
  Meets (Builtin.«tuple.__lt__» ⟨[.ref l,.ref m],[]⟩) (fun A R s=>s.heap.get? l=some { cls:=.type "tuple",dict:=d1,data:=.seq a n1,slots:=s1 }/\s.heap.get? m=some { cls:=.type "tuple",dict:=d2,data:=.seq b n2,slots:=s2 } /\
    (∀ j (h1:j < a.size) (h2:j < b.size),EqAt A.in1 s a[j] b[j] (e j))/\(∀ j (h1:j < a.size) (h2:j < b.size),e j=false->mT A.in1 s a[j] b[j] (lt j))/\R (.ok (.ret (.bool (cT e lt (decide (a.size < b.size)) (List.range (min a.size b.size)))))) s) :=
 .of_wp fun prog w A R s h=>by
  obtain ⟨hp,g,d,tk,os⟩:=s
  obtain ⟨hl,hm,he,hlt,h⟩:=h
  have f2:=AutoSeq1.sub_tuple_tuple
  have hZ:(a.toList.zip b.toList).length=min a.size b.size:=by simp
  wp_walk using wpAny_loadPart' hl,wpAny_loadPart' hm,wpAny_forIn_list _ (fun rest q s'=>q.1=none/\s'=⟨hp,g,d,tk,os⟩/\∃ i,rest=(a.toList.zip b.toList).drop i/\R (.ok (.ret (.bool (cT e lt (decide (a.size < b.size)) ((List.range (min a.size b.size)).drop i))))) ⟨hp,g,d,tk,os⟩) _
  case turn =>
   rintro ⟨y,x⟩ rest q s' ⟨hq,rfl,i,hz,hR⟩
   have hil:i < (a.toList.zip b.toList).length:=by
    rcases Nat.lt_or_ge i (a.toList.zip b.toList).length with k | k
    ·exact k
    ·rw [List.drop_of_length_le k] at hz;cases hz
   have hmn:i < min a.size b.size:=hZ ▸ hil
   have g1:i < a.size:=by omega
   have g2:i < b.size:=by omega
   rw [List.drop_eq_getElem_cons hil] at hz
   injection hz with hyx hrest
   have hy:y=a[i]:=by simpa using congrArg Prod.fst hyx
   have hx:x=b[i]:=by simpa using congrArg Prod.snd hyx
   subst hy hx
   have hd:(List.range (min a.size b.size)).drop i=i :: (List.range (min a.size b.size)).drop (i + 1):=by simp [List.drop_eq_getElem_cons,hmn]
   rw [hd,cT] at hR
   refine wpAny_bind (he i g1 g2 prog w _ _ ?_)
   cases hei:e i with
   | true =>
    rw [hei] at hR
    wp_walk
    exact ⟨rfl,rfl,i + 1,hrest,hR⟩
   | false =>
    rw [hei] at hR
    refine wpAny_bind (wpAny_rule (wpAny_bind (hlt i g1 g2 hei prog w _ _ ?_)))
    wp_walk
    exact ⟨_,rfl,hR⟩
  case fin =>
   rintro ⟨q1,q2⟩ s' ⟨hq,rfl,i,hz,hR⟩
   simp only at hq
   subst hq
   have hge:min a.size b.size<=i:=by
    rcases Nat.lt_or_ge i (a.toList.zip b.toList).length with k | k
    ·rw [List.drop_eq_getElem_cons k] at hz;cases hz
    ·exact hZ ▸ k
   rw [List.drop_of_length_le (by simpa using hge),cT] at hR
   wp_walk
   exact ⟨_,rfl,by simpa [Builtin.Tuple.tupleCompareSizes] using hR⟩
  case h =>
   exact ⟨rfl,rfl,0,rfl,by simpa using h⟩
theorem mT.tuples {A:Around} {s:Shared} {l m:Addr} {a b:Array Value} {e lt:Nat->Bool} (hl:s.heap.IsTuple l a) (hm:s.heap.IsTuple m b) (hu:A.units < cLine)
  (he:∀ j (h1:j < a.size) (h2:j < b.size),EqAt A.in1 s a[j] b[j] (e j)) (hlt:∀ j (h1:j < a.size) (h2:j < b.size),e j=false->mT A.in1 s a[j] b[j] (lt j)) :
  mT A s (.ref l) (.ref m) (cT e lt (decide (a.size < b.size)) (List.range (min a.size b.size))):=fun prog w E Q h=>by
 obtain ⟨⟨c1,d1,t1,s1⟩,o1,k1,n1,j1⟩:=hl
 obtain ⟨⟨c2,d2,t2,s2⟩,o2,k2,n2,j2⟩:=hm
 simp only at k1 j1 k2 j2
 subst k1 j1 k2 j2
 exact richCompare_meets_room (op:=.Lt) ⟨_,o1,rfl⟩ ⟨_,o2,rfl⟩ F.slot_tuple_lt F.entry_tuple_lt (F.args_tuple_lt_2 _ _) (Na l m a b n1 n2 d1 d2 s1 s2 e lt)
  ⟨o1,o2,he,hlt,show Value.bool (cT e lt (decide (a.size < b.size)) (List.range (min a.size b.size)))≠Value.notImplemented/\Q (.bool (cT e lt (decide (a.size < b.size)) (List.range (min a.size b.size)))) s from ⟨(fun x=>nomatch x),h⟩⟩ hu
mutual
def xJ:PyData->PyData->Bool
 | .int a,.int b=>decide (a < b)
 | .tuple xs,.tuple ys=>lN xs ys
 | _,_=>false
def lN:List PyData->List PyData->Bool
 | [],[]=>false
 | [],_ :: _=>true
 | _ :: _,[]=>false
 | x :: xs,y :: ys=>if PyData.eqv x y then lN xs ys else xJ x y
end
mutual
def qb:PyData->PyData->Bool
 | .int _,.int _=>true
 | .tuple xs,.tuple ys=>mU xs ys
 | _,_=>false
def mU:List PyData->List PyData->Bool
 | [],_=>true
 | _ :: _,[]=>true
 | x :: xs,y :: ys=>qb x y && mU xs ys
end
theorem Jk (e lt:Nat->Bool) (fin:Bool) (f:Nat->Nat):∀ l:List Nat,cT e lt fin (l.map f)=cT (fun i=>e (f i)) (fun i=>lt (f i)) fin l
 | []=>rfl
 | i :: r=>by
  show (if e (f i) then cT e lt fin (r.map f) else lt (f i))=if e (f i) then _ else lt (f i)
  rw [Jk e lt fin f r]
def oi (xs ys:List PyData) (j:Nat):Bool:=xJ (xs.getD j .none) (ys.getD j .none)
theorem Jl:∀ xs ys:List PyData,cT (pairEq xs ys) (oi xs ys) (decide (xs.length < ys.length)) (List.range (min xs.length ys.length))=lN xs ys
 | [],[]=>rfl
 | [],_ :: _=>by simp [cT,lN]
 | _ :: _,[]=>by simp [cT,lN]
 | x :: xs,y :: ys=>by
  have ih:=Jl xs ys
  have e1:min (x :: xs).length (y :: ys).length=min xs.length ys.length + 1:=by simp only [List.length_cons];omega
  have e2:decide ((x :: xs).length < (y :: ys).length)=decide (xs.length < ys.length):=by simp
  rw [e1,e2,List.range_succ_eq_map,cT,Jk]
  show (if PyData.eqv x y then cT (pairEq xs ys) (oi xs ys) (decide (xs.length < ys.length)) (List.range (min xs.length ys.length)) else xJ x y)=_
  rw [ih,lN]
mutual
theorem Jm:∀ (da db:PyData) (A:Around) (s:Shared) (a b:Value) (as bs:List Addr),Reads s.heap a da as->Reads s.heap b db bs->qb da db=true->da.canLay0=true->db.canLay0=true->A.units + min da.depth db.depth < cLine->mT A s a b (xJ da db)
 | .int x,.int y,A,s,_,_,_,_,ra,rb,_,_,_,_=>by
  cases ra with
  | int _ t =>
   cases rb with
   | int _ u=>exact fun prog w E Q h=>richCompare_gives (op:=.Lt) (typeIs_int s _ t) (typeIs_int s _ u) F.slot_int_lt F.entry_int_lt (F.args_int_lt_2 _ _) (gives_int_lt _ _ t u) (fun x=>nomatch x) h
 | .tuple xs,.tuple ys,A,s,_,_,_,_,ra,rb,ok,ha,hb,hu=>by
  cases ra with
  | @tuple l o vs n _ SS h1 h2 h3 h4 =>
   cases rb with
   | @tuple l' o' vs' n' _ SU k1 k2 k3 k4 =>
    have t1:s.heap.IsTuple l vs:=⟨_,h1,h2,_,h3⟩
    have t2:s.heap.IsTuple l' vs':=⟨_,k1,k2,_,k3⟩
    have n1:vs.size=xs.length:=by simpa using ReadsAll.length _ _ _ h4
    have n2:vs'.size=ys.length:=by simpa using ReadsAll.length _ _ _ k4
    show mT A s (.ref l) (.ref l') (lN xs ys)
    rw [<- Jl xs ys,<- n1,<- n2]
    refine mT.tuples t1 t2 (room_here hu) (fun j j1 j2=>?_) (fun j j1 j2 _=>?_)
    ·have z:=eqAt_readsAll xs ys A.in1 s vs.toList vs'.toList _ _ h4 k4 ha hb (room_in hu) j (by simpa using j1) (by simpa using j2)
     simpa using z
    ·have z:=Jn xs ys A.in1 s vs.toList vs'.toList _ _ h4 k4 ok ha hb (room_in hu) j (by simpa using j1) (by simpa using j2)
     simpa using z
 | .int _,.none,_,_,_,_,_,_,_,_,ok,_,_,_=>nomatch ok
 | .int _,.bool _,_,_,_,_,_,_,_,_,ok,_,_,_=>nomatch ok
 | .int _,.str _,_,_,_,_,_,_,_,_,ok,_,_,_=>nomatch ok
 | .int _,.list _,_,_,_,_,_,_,_,_,ok,_,_,_=>nomatch ok
 | .int _,.tuple _,_,_,_,_,_,_,_,_,ok,_,_,_=>nomatch ok
 | .int _,.dict _,_,_,_,_,_,_,_,_,ok,_,_,_=>nomatch ok
 | .tuple _,.none,_,_,_,_,_,_,_,_,ok,_,_,_=>nomatch ok
 | .tuple _,.bool _,_,_,_,_,_,_,_,_,ok,_,_,_=>nomatch ok
 | .tuple _,.int _,_,_,_,_,_,_,_,_,ok,_,_,_=>nomatch ok
 | .tuple _,.str _,_,_,_,_,_,_,_,_,ok,_,_,_=>nomatch ok
 | .tuple _,.list _,_,_,_,_,_,_,_,_,ok,_,_,_=>nomatch ok
 | .tuple _,.dict _,_,_,_,_,_,_,_,_,ok,_,_,_=>nomatch ok
 | .none,_,_,_,_,_,_,_,_,_,ok,_,_,_=>by simp [qb] at ok
 | .bool _,_,_,_,_,_,_,_,_,_,ok,_,_,_=>by simp [qb] at ok
 | .str _,_,_,_,_,_,_,_,_,_,ok,_,_,_=>by simp [qb] at ok
 | .list _,_,_,_,_,_,_,_,_,_,ok,_,_,_=>by simp [qb] at ok
 | .dict _,_,_,_,_,_,_,_,_,_,ok,_,_,_=>by simp [qb] at ok
theorem Jn:∀ (xs ys:List PyData) (A:Around) (s:Shared) (vs ws:List Value) (as bs:List Addr),ReadsAll s.heap vs xs as->ReadsAll s.heap ws ys bs->mU xs ys=true->PyData.canLayAll0 xs=true->PyData.canLayAll0 ys=true->A.units + min (PyData.depthAll xs) (PyData.depthAll ys) < cLine->∀ j (h1:j < vs.length) (h2:j < ws.length),mT A s vs[j] ws[j] (oi xs ys j)
 | [],_,_,_,_,_,_,_,ra,_,_,_,_,_,j,h1,_=>by cases ra;exact absurd h1 (Nat.not_lt_zero _)
 | _ :: _,[],_,_,_,_,_,_,_,rb,_,_,_,_,j,_,h2=>by cases rb;exact absurd h2 (Nat.not_lt_zero _)
 | x :: xs,y :: ys,A,s,_,_,_,_,ra,rb,ok,ha,hb,hu,j,h1,h2=>by
  have a':x.canLay0=true/\PyData.canLayAll0 xs=true:=by simpa [PyData.canLayAll0] using ha
  have b':y.canLay0=true/\PyData.canLayAll0 ys=true:=by simpa [PyData.canLayAll0] using hb
  have o':qb x y=true/\mU xs ys=true:=by simpa [mU] using ok
  cases ra with
  | cons r rs =>
   cases rb with
   | cons r' rs' =>
    cases j with
    | zero=>exact Jm x y A s _ _ _ _ r r' o'.1 a'.1 b'.1 (room_head hu)
    | succ j=>exact Jn xs ys A s _ _ _ _ rs rs' o'.2 a'.2 b'.2 (room_tail hu) j (Nat.lt_of_succ_lt_succ h1) (Nat.lt_of_succ_lt_succ h2)
end
section
variable {prog:Program} {w:World} {A:Around} {R:Result->Shared->Prop} {I:Addr} {fp wr:List Addr} {n:Nat} {P:Nat->Value->Prop} {St:Nat->Heap->Prop}
def iK (a b:Heap):Prop:=∀ x o,a.get? x=some o->b.get? x=some o
def u9 (A:Around) (h0:Heap) (P:Nat->Value->Prop) (bt:Nat->Nat->Bool):Prop:=∀ i j vi vj (s:Shared),iK h0 s.heap->P i vi->P j vj->mT A s vi vj (bt i j)
theorem CK:(toString "min" ++ toString ".loop" : String)="min.loop" := by decide
theorem FI (W:Walks prog w A.in1 I fp wr n P St) (bt:Nat->Nat->Bool) {h0:Heap} (hcmp:u9 A.in1 h0 P bt) (S:Addr) (hSf:S ∉ fp) (va:h0.get? S=none) (hw0:∀ b∈wr,h0.get? b=none) :
  ∀ (k j:Nat) (s:Shared) (vb:Value) (c:Nat),n - (j + 1)=k->j + 1<=n->St (j + 1) s.heap->P (argBest bt j) vb->iK h0 s.heap->s.heap.get? S=some { cls:=.type "list",dict:=none,data:=.seq #[vb,vb] c,slots:=#[] } ->
  (∀ v h' tk,P (argBest bt (n - 1)) v->iK h0 h'->R (.ok (.ret v)) { s with heap:=h',toks:=tk })->codeAny (model prog w) A (.builtin "min.loop" ⟨[.ref I,.none,.ref S],[]⟩) R s
 | 0,j,s,vb,c,hk,hj,hst,CL,hK,hS,hR=>by
  have zh:S ∉ wr:=fun z=>hSf (W.sub S z)
  have hin:n=j + 1:=by omega
  subst hin
  refine codeAny_builtin F.entry_min_loop ?_
  rw [Around.under_plainId F.plain_min_loop (A:=A) _]
  show wpAny (model prog w) A.in1 (seqItems? (.ref S) >>= _) _ _ _
  refine wpAny_bind (wpAny_seqItems hS rfl ?_)
  show wpAny (model prog w) A.in1 (tryCatch (pyNext (.ref I)) _ >>= _) _ _ _
  refine wpAny_bind (wpAny_tryCatch (W.done s _ _ hst fun h' tk hk'=>?_))
  have hS':=hk' S _ zh hS
  show wpAny (model prog w) A.in1 (updateSeq S (fun _=>#[]) >>= _) _ _ _
  refine wpAny_bind (wpAny_updateSeq hS' rfl (wpAny_bind (wpAny_letGo (wpAny_pure (hR vb _ tk CL fun b o e=>?_)))))
  have hb1:b ∉ wr:=fun z=>by rw [hw0 b z] at e;cases e
  have hb2:S≠b:=fun z=>by rw [<- z,va] at e;cases e
  exact (Heap.get?_update_other _ _ hb2).trans (hk' b o hb1 (hK b o e))
 | k + 1,j,s,vb,c,hk,hj,hst,CL,hK,hS,hR=>by
  have zh:S ∉ wr:=fun z=>hSf (W.sub S z)
  have hlt:j + 1 < n:=by omega
  refine codeAny_builtin F.entry_min_loop ?_
  rw [Around.under_plainId F.plain_min_loop (A:=A) _]
  show wpAny (model prog w) A.in1 (seqItems? (.ref S) >>= _) _ _ _
  refine wpAny_bind (wpAny_seqItems hS rfl ?_)
  show wpAny (model prog w) A.in1 (tryCatch (pyNext (.ref I)) _ >>= _) _ _ _
  refine wpAny_bind (wpAny_tryCatch (W.item (j + 1) s _ _ hlt hst fun v h' tk hP rK hk'=>?_))
  have hS':=hk' S _ zh hS
  have zi:iK h0 h':=fun b o e=>hk' b o (fun z=>by rw [hw0 b z] at e;cases e) (hK b o e)
  show wpAny (model prog w) A.in1 (tryCatch (holding [v,v] (richCompare .Lt v vb >>= _)) _ >>= _) _ _ _
  refine wpAny_bind (wpAny_tryCatch (wpAny_holding (wpAny_bind (hcmp (j + 1) (argBest bt j) v vb _ zi hP CL prog w _ _ ?_))))
  refine wpAny_bind (wpAny_holding (wpAny_truthy_bool (wpAny_bind (wpAny_letGo (wpAny_pure ?_)))))
  cases hb:bt (j + 1) (argBest bt j) with
  | true =>
   simp only [if_true]
   refine wpAny_bind (wpAny_updateSeq hS' rfl (wpAny_bind (wpAny_letGo ?_)))
   rw [CK]
   have FJ:iK h0 (h'.update S (Obj.mapSeq fun _=>#[v,v])):=fun b o e=>(Heap.get?_update_other _ _ (fun z=>by rw [<- z,va] at e;cases e)).trans (zi b o e)
   refine wpAny_pure ⟨plainId_quiet F.plain_min_loop _,FI W bt hcmp S hSf va hw0 k (j + 1) _ v _ (by omega) hlt (W.frame _ _ _ rK fun b FK o e=>?_) (by simp only [argBest,hb,if_true];exact hP) FJ (Heap.get?_update_self _ hS' rfl) fun v' h'' qc zj qd=>hR v' h'' qc zj qd⟩
   exact (Heap.get?_update_other _ _ (fun z:S=b=>hSf (z ▸ FK))).trans e
  | false =>
   simp only [Bool.false_eq_true,if_false]
   refine wpAny_bind (wpAny_letGo ?_)
   rw [CK]
   exact wpAny_pure ⟨plainId_quiet F.plain_min_loop _,FI W bt hcmp S hSf va hw0 k (j + 1) _ vb c (by omega) hlt rK (by simp only [argBest,hb,Bool.false_eq_true,if_false];exact CL) zi hS' fun v' h'' qc zj qd=>hR v' h'' qc zj qd⟩
theorem Nb (W:Walks prog w A.in1 I fp wr n P St) (bt:Nat->Nat->Bool) {h0:Heap} (hcmp:u9 A.in1 h0 P bt) (S:Addr) (hSf:S ∉ fp) (va:h0.get? S=none) (hw0:∀ b∈wr,h0.get? b=none) (hn:0 < n) {s:Shared} {c:Nat} (hst:St 0 s.heap) (hK:iK h0 s.heap)
  (hS:s.heap.get? S=some { cls:=.type "list",dict:=none,data:=.seq #[] c,slots:=#[] }) (hR:∀ v h' tk,P (argBest bt (n - 1)) v->iK h0 h'->R (.ok (.ret v)) { s with heap:=h',toks:=tk }) :
  codeAny (model prog w) A (.builtin "min.loop" ⟨[.ref I,.none,.ref S],[]⟩) R s:=by
 have zh:S ∉ wr:=fun z=>hSf (W.sub S z)
 refine codeAny_builtin F.entry_min_loop ?_
 rw [Around.under_plainId F.plain_min_loop (A:=A) _]
 show wpAny (model prog w) A.in1 (seqItems? (.ref S) >>= _) _ _ _
 refine wpAny_bind (wpAny_seqItems hS rfl ?_)
 show wpAny (model prog w) A.in1 (tryCatch (pyNext (.ref I)) _ >>= _) _ _ _
 refine wpAny_bind (wpAny_tryCatch (W.item 0 s _ _ hn hst fun v h' tk hP rK hk'=>?_))
 have hS':=hk' S _ zh hS
 have zi:iK h0 h':=fun b o e=>hk' b o (fun z=>by rw [hw0 b z] at e;cases e) (hK b o e)
 show wpAny (model prog w) A.in1 (updateSeq S (fun _=>#[v,v]) >>= _) _ _ _
 refine wpAny_bind (wpAny_updateSeq hS' rfl ?_)
 rw [CK]
 have FJ:iK h0 (h'.update S (Obj.mapSeq fun _=>#[v,v])):=fun b o e=>(Heap.get?_update_other _ _ (fun z=>by rw [<- z,va] at e;cases e)).trans (zi b o e)
 refine wpAny_pure ⟨plainId_quiet F.plain_min_loop _,FI W bt hcmp S hSf va hw0 _ 0 _ v _ rfl hn (W.frame _ _ _ rK fun b FK o e=>?_) hP FJ (Heap.get?_update_self _ hS' rfl) fun v' h'' qc zj qd=>hR v' h'' qc zj qd⟩
 exact (Heap.get?_update_other _ _ (fun z:S=b=>hSf (z ▸ FK))).trans e
end
section
variable {prog:Program} {w:World} {A:Around} {E:Value->Shared->Prop} {s:Shared}
theorem Nc {p:Addr} {its:Array Value} {bt:Nat->Nat->Bool} {Q:Value->Shared->Prop} (hh:A.handled=none) (hl:s.heap.IsList p its) (hn:0 < its.size) (hcmp:u9 A.in1 s.heap (fun i v=>its[i]?=some v) bt)
  (hQ:∀ v h' tk,its[argBest bt (its.size - 1)]?=some v->iK s.heap h'->Q v { s with heap:=h',toks:=tk }):wpAny (model prog w) A (call (.builtin "min") [.ref p]) Q E s:=by
 have hlt:p < s.heap.objs.size:=by obtain ⟨_,e,_⟩:=hl;exact Heap.lt_size e
 have e0:s.heap.get? s.heap.objs.size=none:=by
  cases q:s.heap.get? s.heap.objs.size with
  | none=>rfl
  | some o=>exact absurd (Heap.lt_size q) (Nat.lt_irrefl _)
 have e1:s.heap.get? (s.heap.objs.size + 1)=none:=by
  cases q:s.heap.get? (s.heap.objs.size + 1) with
  | none=>rfl
  | some o=>exact absurd (Heap.lt_size q) (Nat.not_lt_of_le (Nat.le_succ _))
 refine call_function_tree F.kind_min F.plain_min F.entry_min (F.args_min1 _) ?_
 show wpAny (model prog w) A.in1 (Builtin.Builtins.bindParams "min" ["key","default"] 0 ⟨[],[]⟩ >>= _) _ _ _
 refine wpAny_bind (wpAny_of_eq (show Builtin.Builtins.bindParams "min" ["key","default"] 0 ⟨[],[]⟩=pure [none,none] from rfl) (wpAny_bind (wpAny_pure ?_)))
 refine wpAny_bind (wpAny_pyIter_list hl (wpAny_bind (wpAny_newObj_type ?_)))
 have hsz:(s.heap.push { cls:=.type "list_iterator",data:=.fields #[.ref p,.int 0 0] }).objs.size=s.heap.objs.size + 1:=Heap.size_push ..
 have hne:p≠s.heap.objs.size:=Nat.ne_of_lt hlt
 rw [CK]
 have k1:iK s.heap ((s.heap.push { cls:=.type "list_iterator",data:=.fields #[.ref p,.int 0 0] }).push { cls:=.type "list",data:=.seq #[] }):=fun b o e=>Heap.get?_push_of_some _ (Heap.get?_push_of_some _ e)
 refine wpAny_pure ⟨plainId_quiet F.plain_min_loop _,?_⟩
 show codeAny (model prog w) A (.builtin "min.loop" ⟨[.ref s.heap.objs.size,.none,.ref (s.heap.push { cls:=.type "list_iterator",data:=.fields #[.ref p,.int 0 0] }).objs.size],[]⟩) _ _
 rw [hsz]
 refine Nb (c:=0) (Walks.list (A:=A.in1) hh s.heap.objs.size p hne its) bt hcmp (s.heap.objs.size + 1) (fun z=>?_) e1 (fun b hb=>?_) hn ?_ k1 ?_ fun v h' tk hv hk=>hQ v h' tk hv hk
 ·rcases List.mem_cons.mp z with z | z
  ·exact absurd z (Nat.succ_ne_self _)
  ·have:s.heap.objs.size + 1=p:=List.mem_singleton.mp z
   exact absurd hlt (by rw [<- this];exact Nat.not_lt_of_le (Nat.le_succ _))
 ·rw [List.mem_singleton.mp hb];exact e0
 ·exact ⟨⟨_,Heap.get?_push_of_some _ (Heap.get?_push_size _ rfl),rfl,rfl⟩,(hl.push _).push _⟩
 ·rw [<- hsz];exact Heap.get?_push_size _ rfl
end
theorem FL {h:Heap}:∀ {us:List Value} {ds:List PyData} {as:List Addr} {i:Nat} {v:Value},ReadsAll h us ds as->us[i]?=some v->∃ as',Reads h v (ds.getD i .none) as'/\ds.getD i .none∈ds
 | _,_,_,_,_,.nil,e=>by simp at e
 | _,_,_,0,_,.cons r _,e=>by simp at e;subst e;exact ⟨_,r,List.mem_cons_self⟩
 | _,_,_,i + 1,v,.cons _ rs,e=>by
  obtain ⟨as',r,m⟩:=FL (i:=i) (v:=v) rs (by simpa using e)
  exact ⟨as',r,List.mem_cons_of_mem _ m⟩
section
variable {X:Cx}
def rL (ds:List PyData) (i j:Nat):Bool:=xJ (ds.getD i .none) (ds.getD j .none)
def mC (ds:List PyData):Nat:=argBest (rL ds) (ds.length - 1)
def sZ (K:PySem.W.Frag):List V->Hp->VK->Prop:=fun xs H Q=>∃ (p:Addr) (vs:List V) (ds:List PyData),xs=[.ref p]/\jf K H p vs/\iI K H vs ds/\0 < ds.length/\(∀ a∈ds,∀ b∈ds,qb a b=true)/\(∀ a∈ds,a.canLay0=true/\a.depth<=50)/\∃ v,vs[mC ds]?=some v/\Q v H
theorem Jo (hc:X.calm=true) (hu:X.A.units + 64 < cLine):e7 X (.builtin "min") (sZ X.K):=by
 intro pins s σ H xs us Q I r h
 obtain ⟨p,vs,ds,rfl,hq,hr,hn,hok,hlay,v0,hv0,q⟩:=h
 obtain ⟨u,rfl,ru⟩:=vals1 r
 cases ru
 obtain ⟨its,rv,pl,_⟩:=I.list hq
 obtain ⟨as,ra⟩:=iI.reads I hr rv
 have hlen:its.length=ds.length:=ReadsAll.length _ _ _ ra
 refine Nc (bt:=rL ds) (I.ok.hd hc) pl.isList (by rw [List.size_toArray];omega) (fun i j vi vj s' hK hi hj=>?_) fun v h' tk hv hk=>?_
 ·have hi':its[i]?=some vi:=by simpa using hi
  have hj':its[j]?=some vj:=by simpa using hj
  obtain ⟨a1,r1,m1⟩:=FL ra hi'
  obtain ⟨a2,r2,m2⟩:=FL ra hj'
  have b1:=(hlay _ m1).2
  have b2:=(hlay _ m2).2
  exact Jm _ _ _ s' _ _ _ _ (Reads.keeps hK r1) (Reads.keeps hK r2) (hok _ m1 _ m2) (hlay _ m1).1 (hlay _ m2).1 (by show X.A.units + 1 + _ < cLine;omega)
 ·have hv':its[mC ds]?=some v:=by
   have e:its.toArray.size - 1=ds.length - 1:=by rw [List.size_toArray,hlen]
   rw [e] at hv
   unfold mC
   simpa using hv
  obtain ⟨u,Jp,ru⟩:=Vals.get rv hv0
  rw [hv'] at Jp
  cases Jp
  exact ⟨v0,H,I.kept hk,ru,q⟩
end
end L2
namespace L2
open PySem PySem.Spec PyProof.Rows PySem.W
section
variable {lt:Nat->Nat->Bool} {n0:Nat} {cmp:Nat->Nat->(Bool->Shared->Prop)->Shared->Prop} {s:Shared}
structure Ord (lt:Nat->Nat->Bool):Prop where
 tr:∀ a b c,lt b a=false->lt c b=false->lt c a=false
 as:∀ a b,lt a b=true->lt b a=false
def P (p:Array Nat) (i:Nat):Nat:=p.getD i 0
variable (o:Ord lt) (hn:0 < n0) (hc:∀ i j (C:Bool->Shared->Prop),i < n0->j < n0->C (lt i j) s->cmp i j C s)
include o hn hc
end
section
variable {prog:Program} {w:World} {A:Around} {E:Value->Shared->Prop} {s:Shared}
end
section
variable {prog:Program} {w:World} {A:Around} {E:Value->Shared->Prop} {s:Shared} {lt:Nat->Nat->Bool}
end
section
variable {X:Cx}
end
end L2
namespace L2
open PySem PySem.Spec PyProof.Rows
section
variable {X:Cx} {o e f:Expr} {apos cpos:Pos} {td ty tx:TE}
end
end L2
namespace L2
open PySem PySem.Spec PyProof.Rows PySem.W
section
variable {X:Cx} {o e:Expr} {t t' td:TE} {apos cpos pos p:Pos}
end
end L2
namespace L2
open PySem PySem.Spec PyProof.Rows
section
variable {X:Cx} {body:List Stmt} {h₀:ExceptHandler} {hs:List ExceptHandler} {pos:Pos} {t:TS}
end
end L2
namespace L2
open PySem PySem.Spec PyProof.Rows
section
variable {X:Cx} {K:PySem.W.Frag}
end
end L2
namespace L2
open PySem PySem.Spec PyProof.Rows
open Builtin
theorem Nd (k:Int) (t:Tok) (l:Addr) (items:Array Value) (n:Nat) (dd:Option Addr) (sl:Array (Option Value)) (hc0:(decide (k < -(2 ^ 63)) || decide (k >= 2 ^ 63))=false) (hc1:(items.isEmpty || k == 1)=false) (hc2:(decide (k<=0) || items.isEmpty)=false) (hc3:¬ (items.size:Int) * k > (2 ^ 63 - 1) / 8) (hc4:Builtin.Tuple.tupleTooMany ((items.size:Int) * k)=false) (hsz:((List.replicate k.toNat items).foldl (· ++ ·) #[]).size<=sizeLine) :
  Meets (Builtin.«tuple.__mul__» ⟨[.ref l,.int k t],[]⟩) (fun _ R s=>s.heap.get? l=some { cls:=.type "tuple",dict:=dd,data:=.seq items n,slots:=sl }/\R (.ok (.ret (.ref s.heap.objs.size))) { s with heap:=s.heap.push { cls:=.type "tuple",data:=.seq ((List.replicate k.toNat items).foldl (· ++ ·) #[]) } }) :=
 .of_wp fun prog w A R s h=>by
  obtain ⟨hp,g,d,tk,os⟩:=s;obtain ⟨hl,h⟩:=h
  wp_walk
  refine wpAny_ite_false (decide_eq_false (by rw [hc0];exact Bool.false_ne_true)) ?_
  wp_walk
  refine wpAny_ite_false (decide_eq_false hc3) ?_
  wp_walk
  exact ⟨_,rfl,h⟩
theorem Jq:∀ (l:List (Array Value)) (a:Array Value),(l.foldl (· ++ ·) a).toList=a.toList ++ (l.map Array.toList).flatten
 | [],a=>by simp
 | b :: l,a=>by rw [List.foldl_cons,Jq l (a ++ b)];simp
end L2
namespace L2
open PySem PySem.Spec PyProof.Rows
section
variable {X:Cx} {K:PySem.W.Frag}
def tf (K:PySem.W.Frag):R2:=fun x y H Q=>∃ a k xs,x=.ref a/\y=.int k/\d9 K H a xs/\0 < xs.length/\xs.length<=100/\0<=k/\k<=1000/\mO K H (List.replicate k.toNat xs).flatten Q
theorem Jr {α:Type} (l:List α):∀ n:Nat,(List.replicate n l).flatten.length=n * l.length
 | 0=>by simp
 | n + 1=>by rw [List.replicate_succ,List.flatten_cons,List.length_append,Jr l n,Nat.succ_mul];omega
theorem Nf {X:Cx}:kq X (binaryOp .Mult) (tf X.K):=by
 intro pins s σ H x y v u Q I rx ry h
 obtain ⟨a,k,xs,rfl,rfl,ha,SV,SW,hk1,hk2,q⟩:=h
 by_cases h1:k<=1
 ·refine M9 pins s σ H _ _ v u Q I rx ry ⟨a,k,xs,rfl,rfl,ha,hk1,h1,?_⟩
  by_cases h2:k=1
  ·subst h2
   have e:(List.replicate (1:Int).toNat xs).flatten=xs:=by simp
   rw [e] at q
   rw [if_pos rfl]
   exact q
  ·have h0:k=0:=by omega
   subst h0
   rw [if_neg h2]
   exact q
 ·cases rx
  obtain ⟨t,rfl⟩:=ry
  obtain ⟨its,r1,p1,_⟩:=I.tuple ha
  obtain ⟨⟨cls,dd,data,sl⟩,ho,hc,n,hd⟩:=id p1
  simp only at hc hd
  subst hc hd
  have hl1:its.length=xs.length:=r1.length.symm
  have hkn:k.toNat * its.length<=100000:=by
   have:k.toNat * its.length<=1000 * 100:=Nat.mul_le_mul (by omega) (by omega)
   omega
  have SX:100000<=sizeLine:=by decide
  have hal:((List.replicate k.toNat its.toArray).foldl (· ++ ·) #[]).toList=(List.replicate k.toNat its).flatten:=by rw [Jq];simp
  have hsz:((List.replicate k.toNat its.toArray).foldl (· ++ ·) #[]).size<=sizeLine:=by
   rw [<- Array.length_toList,hal,Jr]
   omega
  have CM:((its.toArray.size:Nat):Int) * k<=100000:=by
   rw [List.size_toArray]
   have e:((k.toNat * its.length:Nat):Int)=(its.length:Int) * k:=by rw [Int.natCast_mul,Int.toNat_of_nonneg hk1,Int.mul_comm]
   omega
  have hem:its.toArray.isEmpty=false:=by
   cases its with
   | nil=>simp at hl1;omega
   | cons i r=>rfl
  refine wpAny_binaryOp_repeat_ref (T:="tuple") (U:="int") (by decide) ⟨_,ho,rfl⟩ (fun s'=>typeIs_int s' k t) Jh F.fills_int_mul F.slot_int_rmul Ji F.slot_int_index.lookup
   (call_meets F.slot_int_rmul (typeIs_int s k t) F.entry_int_rmul (F.args_int_rmul_2 _ _) (Jj k t a its.toArray n dd sl)
    ⟨ho,rfl,⟨_,ho,rfl⟩,?_⟩)
  refine call_meets F.slot_tuple_mul ⟨_,ho,rfl⟩ F.entry_tuple_mul (F.args_tuple_mul_2 _ _) (Nd k t a its.toArray n dd sl ?_ ?_ ?_ ?_ ?_ hsz) ⟨ho,?_⟩
  ·simp;omega
  ·rw [hem];simp;omega
  ·rw [hem];simp;omega
  ·omega
  ·unfold Builtin.Tuple.tupleTooMany
   refine decide_eq_false ?_
   have:(100000:Int)<=(sizeLine:Int):=by decide
   omega
  ·obtain ⟨ar,e⟩:∃ ar:Array Value,ar=(List.replicate k.toNat its.toArray).foldl (· ++ ·) #[]:=⟨_,rfl⟩
   rw [<- e] at hal
   have rv:Vals (List.replicate k.toNat xs).flatten ar.toList:=by
    rw [hal]
    generalize k.toNat=m
    induction m with
    | zero=>exact .nil
    | succ m ih =>
     rw [List.replicate_succ,List.replicate_succ,List.flatten_cons,List.flatten_cons]
     exact r1.append ih
   rw [<- e]
   refine ⟨.ref s.heap.objs.size,_,I.laid (t':=s.toks) (o:=.tup (List.replicate k.toNat xs).flatten) (fun b ob q=>Heap.get?_push_of_some _ q) (Nat.le_refl _) ?_,rfl,q.new _ (I.hok.fresh (Nat.le_refl _))⟩
   refine ⟨?_,ar.toList,rv,?_⟩
   ·rw [rv.length,Array.length_toList,e];exact hsz
   ·have e3:ar.toList.toArray=ar:=by simp
    rw [e3]
    exact lH.new _ _
end
end L2
namespace L2
open PySem PySem.Spec PyProof.Rows PySem.W
section
variable {prog:Program} {w:World} {A:Around} {E:Value->Shared->Prop} {s:Shared}
end
end L2
namespace L2
open PySem PySem.Spec PyProof.Rows PySem.W
end L2
namespace L2
open PySem PySem.Spec PyProof.Rows
section
variable {M:Model} {A:Around} {E:Value->Shared->Prop} {s:Shared}
end
def Ng:Option Addr->Value
 | none=>.none
 | some T=>.ref T
def XO (a C:Addr) (dx tr:Option Addr):HO:=.ext fun h=>∃ o vs,h.get? a=some o/\o.cls=.ref C/\o.dict=dx/\o.data=.fields vs/\vs[1]?=some (Ng tr)
section
variable {P:Program} {w:World} {H H' H2:Hp} {h h':Heap} {a C T:Addr} {dx tr:Option Addr} {o:HO}
end
section
variable {X:Cx} {pins:List (Addr×Obj)} {σ:St} {H:Hp} {s:Shared} {a C:Addr} {dx:Option Addr}
end
section
variable {P:Program} {w:World} {K:PySem.W.Frag} {mg:Str->Option Value} {base:Heap} {N:List Str} {qual:Str} {scope:Scope} {f:Addr} {cd:Value} {A:Around} {outer:List Env} {s0:Shared} {H0:Hp} {E:XK}
end
section
open PySem.W
end
section
variable {X:Cx} {pins:List (Addr×Obj)} {σ:St} {H:Hp} {s:Shared} {a C:Addr} {dx:Option Addr}
end
section
variable {P:Program} {w:World} {K:PySem.W.Frag} {mg:Str->Option Value} {base:Heap} {N:List Str} {qual:Str} {scope:Scope} {f:Addr} {cd:Value} {A:Around} {outer:List Env} {s0:Shared} {H0:Hp} {E:XK}
end
end L2
namespace L2
open PySem PySem.Spec PyProof.Rows
section
variable {X:Cx} {pins:List (Addr×Obj)} {σ:St} {H:Hp} {s:Shared} {W:St->Addr->Hp->Prop} {a:Addr}
end
section
variable {X:Cx} {i:Nat} {x n:Str} {F:Addr} {bmB:List Value} {newId:String} {tb:(St->Addr->Hp->Prop)->TS} {ts:TS} {body suite:List Stmt} {b0:Stmt} {np hpos pos:Pos}
end
section
variable {X:Cx} {k:Nat} {f:Addr} {fd:FuncData} {ps:List Str} {sp:Sp} {x:Str} {p pos:Pos} {e:Expr} {es:List Expr} {t:TA} {pins:List (Addr×Obj)} {W:St->Addr->Hp->Prop}
end
end L2
namespace L2
open PySem PySem.Spec PyProof.Rows PySem.W
section
variable {prog:Program} {w:World} {A:Around} {E:Value->Shared->Prop} {s:Shared} {K:Frag} {a C:Addr} {ox:Obj} {odo:Option Obj} {name:Str}
end
section
variable {X:Cx} {x:Str} {c:Value} {v:V} {p pos:Pos} {e:Expr} {te:TE} {b:Bool}
end
end L2
namespace L2
open PySem PySem.Spec PyProof.Rows
section
variable {X:Cx}
end
end L2
namespace L2
open PySem PySem.Spec PyProof.Rows PySem.W PySem.Builtin PySem.Builtin.ObjectAttr
section
variable {prog:Program} {w:World} {A:Around} {E:Value->Shared->Prop} {s:Shared} {K:Frag} {a C:Addr} {ox:Obj} {odo:Option Obj} {name:Str} {v:Value}
end
section
variable {X:Cx} {pins:List (Addr×Obj)} {σ:St} {H:Hp} {s:Shared} {a C:Addr} {tr:Option Addr} {f:Str} {y:V} {u:Value}
variable {o value:Expr} {ta tv:TE} {pos pos':Pos}
end
end L2
namespace L2
open PySem PySem.Spec PyProof.Rows PySem.W
section
variable {prog:Program} {w:World} {A:Around} {E:Value->Shared->Prop} {h:Heap} {g:Array GenState} {d:Drawn} {t:Nat} {os:OsState}
variable {nm q:Str} {C N:Addr} {bs bm bmB:List Value} {hdct:Bool} {sn:List Str} {sub:List Value} {ab:Bool} {col:Option Bool} {dd:Option Addr} {k0 k1 k2 k3 k5:Option Value} {B newId initId:String}
end
section
variable {X:Cx} {k:Nat} {f C:Addr} {fd:FuncData} {ps:List Str} {sp:Sp} {x:Str} {p pos:Pos} {e:Expr} {es:List Expr} {t:TA} {B newId initId:String} {bmB:List Value}
end
section
variable {P:Program} {w:World} {K:Frag} {mg:Str->Option Value} {base:Heap} {N:List Str} {qual:Str} {scope:Scope} {f:Addr} {cd:Value} {A:Around} {outer:List Env} {s0:Shared} {H0:Hp} {E:XK}
end
end L2
namespace L2
open PySem PySem.Spec PyProof.Rows PySem.W
section
variable {X:Cx} {e:Expr} {te:TE} {f:Str} {pos:Pos}
end
end L2
namespace L2
open PySem PySem.Spec PyProof.Rows
section
variable {X:Cx}
def tj (i j:Int):Prop:=j≠0/\j.natAbs.log2 < 9000
theorem Nh:kq X (binaryOp .FloorDiv) (rI tj fun i j=>.int (i.fdiv j)):=xA fun _ j _ _ _ _ _ hc q=>floordiv_int hc.1 q (.inl (PyProof.noPylong_of_log2 hc.2))
end
end L2
namespace L2
open PySem PySem.Spec PyProof.Rows
open Builtin
def P2 (k:Nat):Nat:=2 ^ k
theorem Js (a b:Nat):P2 a * P2 b=P2 (a + b):=(Nat.pow_add 2 a b).symm
theorem zk {a b:Nat} (h:a<=b):P2 a<=P2 b:=Nat.pow_le_pow_right (by decide) h
theorem xK (a:Nat):0 < P2 a:=Nat.two_pow_pos a
theorem vd (a n:Nat):P2 a ^ n=P2 (a * n):=(Nat.pow_mul 2 a n).symm
theorem rM (a:Nat):P2 (a + 1)=2 * P2 a:=by unfold P2;rw [Nat.pow_succ,Nat.mul_comm]
theorem Jt (a:Nat):a < P2 a:=Nat.lt_two_pow_self
def oH (i j:Int):Prop:=pQ i j\/(Builtin.Int.intBits i<=60000000/\Builtin.Int.intBits j<=60000000)
theorem tm {i:Int} {k:Nat} (h:i.natAbs < P2 k) (hk:k<=60000000):Builtin.Int.intBits i<=60000000:=Nat.le_trans (PyProof.Rows.intBits_le h) hk
theorem oH.ok {i j:Int} (h:oH i j):IntMulOk i j:=by
 rcases h with h | ⟨h1,h2⟩
 ·exact h.ok
 ·exact PyProof.Rows.mulOk_of_bits (m:=60000000) (n:=60000000) h1 h2 (by decide)
section
variable {X:Cx}
theorem ma:kq X (binaryOp .Mult) (rI oH fun i j=>.int (i * j)):=xA fun _ _ _ _ _ _ _ hc q=>mul_int q hc.ok
end
end L2
namespace af
def upto (n:Nat):List Int:=(List.range n).map fun (k:Nat)=>(k:Int)
theorem nQ (n:Nat):(upto n).length=n:=by simp [upto]
theorem lg {n:Nat} {x:Int}:x∈upto n↔0<=x/\x < (n:Int):=by
 simp only [upto,List.mem_map,List.mem_range]
 constructor
 ·rintro ⟨k,hk,rfl⟩;omega
 ·rintro ⟨h1,h2⟩;exact ⟨x.toNat,by omega,by omega⟩
theorem Ni (n:Nat):(upto n).Pairwise (· < ·):=by
 unfold upto
 rw [List.pairwise_map]
 exact (List.pairwise_lt_range).imp fun h=>by omega
theorem Ju (n:Nat):(upto n).Nodup:=(Ni n).imp fun h=>by omega
theorem CN:∀ {xs ys:List Int},xs.Nodup->(∀ x∈xs,x∈ys)->ys.length<=xs.length->xs.Perm ys
 | [],ys,_,_,h=>by
  have:ys=[]:=List.eq_nil_of_length_eq_zero (by simpa using h)
  subst this;exact List.Perm.refl _
 | x :: xs,ys,hn,hs,hl=>by
  obtain ⟨h1,h2⟩:=List.nodup_cons.mp hn
  have hx:x∈ys:=hs x List.mem_cons_self
  have hp:=List.perm_cons_erase hx
  have hlen:(ys.erase x).length + 1=ys.length:=by have:=hp.length_eq;simpa using this.symm
  refine List.Perm.trans (List.Perm.cons x (CN (ys:=ys.erase x) h2 (fun y hy=>?_) ?_)) hp.symm
  ·have hne:y≠x:=fun e=>h1 (e ▸ hy)
   exact (List.mem_erase_of_ne hne).mpr (hs y (List.mem_cons_of_mem _ hy))
  ·simp at hl;omega
theorem FN {xs:List Int} (hn:xs.Nodup) (hb:∀ x∈xs,0<=x/\x < (xs.length:Int)):xs.Perm (upto xs.length):=by
 exact CN hn (fun x hx=>lg.mpr (hb x hx)) (by rw [nQ];exact Nat.le_refl _)
end af
namespace af
def app (xs:List Int) (i:Int):Int:=xs.getD i.toNat 0
def br (xs:List Int) (i:Int):Nat->Int
 | 0=>i
 | j + 1=>app xs (br xs i j)
def Tn (n:Nat) (xs:List Int):Prop:=xs.Perm (upto n)
theorem Tn.length {n:Nat} {xs:List Int} (h:Tn n xs):xs.length=n:=by rw [h.length_eq,nQ]
theorem Tn.nodup {n:Nat} {xs:List Int} (h:Tn n xs):xs.Nodup:=h.nodup_iff.mpr (Ju n)
theorem Tn.bound {n:Nat} {xs:List Int} (h:Tn n xs) {x:Int} (hx:x∈xs):0<=x/\x < (n:Int):=lg.mp (h.subset hx)
theorem nR {xs:List Int} {i:Int} (h0:0<=i) (h1:i < (xs.length:Int)):xs[i.toNat]?=some (app xs i):=by
 have:i.toNat < xs.length:=by omega
 unfold app
 rw [List.getD_eq_getElem?_getD,List.getElem?_eq_getElem this];rfl
theorem Nj {xs:List Int} {i:Int} (h0:0<=i) (h1:i < (xs.length:Int)):app xs i∈xs:=List.mem_of_getElem? (nR h0 h1)
theorem Tn.app {n:Nat} {xs:List Int} (h:Tn n xs) {i:Int} (h0:0<=i) (h1:i < (n:Int)):0<=app xs i/\app xs i < (n:Int):=h.bound (Nj h0 (by rw [h.length];exact h1))
theorem Tn.inj {n:Nat} {xs:List Int} (h:Tn n xs) {i j:Int} (i0:0<=i) (i1:i < (n:Int)) (j0:0<=j) (j1:j < (n:Int)) (e:af.app xs i=af.app xs j):i=j:=by
 have hl:=h.length
 have a:=nR i0 (by rw [hl];exact i1)
 have b:=nR j0 (by rw [hl];exact j1)
 rw [e] at a
 obtain ⟨ha,ea⟩:=List.getElem?_eq_some_iff.mp a
 obtain ⟨hb,eb⟩:=List.getElem?_eq_some_iff.mp b
 have:=(List.getElem_inj h.nodup).mp (ea.trans eb.symm)
 omega
theorem Tn.br {n:Nat} {xs:List Int} (h:Tn n xs) {i:Int} (h0:0<=i) (h1:i < (n:Int)):∀ j,0<=br xs i j/\br xs i j < (n:Int)
 | 0=>⟨h0,h1⟩
 | j + 1=>h.app (h.br h0 h1 j).1 (h.br h0 h1 j).2
theorem Tn.back {n:Nat} {xs:List Int} (h:Tn n xs) {i:Int} (h0:0<=i) (h1:i < (n:Int)):∀ (a d:Nat),af.br xs i a=af.br xs i (a + d)->af.br xs i d=i
 | 0,d,e=>by rw [Nat.zero_add] at e;exact e.symm
 | a + 1,d,e=>by
  have e':af.app xs (af.br xs i a)=af.app xs (af.br xs i (a + d)):=by
   have:a + 1 + d=(a + d) + 1:=by omega
   rw [this] at e
   exact e
  exact h.back h0 h1 a d (h.inj (h.br h0 h1 a).1 (h.br h0 h1 a).2 (h.br h0 h1 _).1 (h.br h0 h1 _).2 e')
theorem xM:∀ {xs ys:List Int},xs.Nodup->(∀ x∈xs,x∈ys)->xs.length<=ys.length
 | [],_,_,_=>Nat.zero_le _
 | x :: xs,ys,hn,hs=>by
  obtain ⟨h1,h2⟩:=List.nodup_cons.mp hn
  have hx:x∈ys:=hs x List.mem_cons_self
  have hp:=List.perm_cons_erase hx
  have hlen:(ys.erase x).length + 1=ys.length:=by have:=hp.length_eq;simpa using this.symm
  have:=xM (ys:=ys.erase x) h2 fun y hy=>(List.mem_erase_of_ne (a:=y) (b:=x) (fun e=>h1 (by rw [<- e];exact hy))).mpr (hs y (List.mem_cons_of_mem _ hy))
  simp only [List.length_cons]
  omega
def row (xs:List Int) (i:Int) (m:Nat):List Int:=(List.range (m + 1)).map (br xs i)
theorem Jv (xs:List Int) (i:Int) (m:Nat):row xs i (m + 1)=row xs i m ++ [br xs i (m + 1)]:=by
 unfold row;rw [List.range_succ,List.map_append];rfl
theorem qR (xs:List Int) (i:Int) (m:Nat):(row xs i m).length=m + 1:=by simp [row]
theorem CO {xs:List Int} {i:Int} {m:Nat} {x:Int}:x∈row xs i m↔∃ j,j<=m/\br xs i j=x:=by
 unfold row
 rw [List.mem_map]
 constructor
 ·rintro ⟨j,hj,e⟩;exact ⟨j,by have:=List.mem_range.mp hj;omega,e⟩
 ·rintro ⟨j,hj,e⟩;exact ⟨j,List.mem_range.mpr (by omega),e⟩
def NB (xs:List Int) (i:Int) (m:Nat):Prop:=∀ j,1<=j->j<=m->br xs i j≠i
theorem Tn.jG {n:Nat} {xs:List Int} (h:Tn n xs) {i:Int} (h0:0<=i) (h1:i < (n:Int)) {m:Nat} (nb:NB xs i m):m + 1<=n:=by
 have hn:(row xs i m).Nodup:=by
  unfold row List.Nodup
  rw [List.pairwise_map]
  refine List.Pairwise.imp_of_mem (R:=fun a b=>a < b) ?_ List.pairwise_lt_range
  intro a b ha hb hab e
  have ha':=List.mem_range.mp ha
  have hb':=List.mem_range.mp hb
  obtain ⟨d,rfl⟩:∃ d,b=a + d:=⟨b - a,by omega⟩
  exact nb d (by omega) (by omega) (h.back h0 h1 a d e)
 have:=xM hn (ys:=upto n) fun x hx=>by
  obtain ⟨j,_,rfl⟩:=CO.mp hx
  exact lg.mpr (h.br h0 h1 j)
 rw [qR,nQ] at this
 exact this
structure gL (xs:List Int) (i:Int) (r:List Int):Prop where
 ex:∃ m,r=row xs i m/\NB xs i m/\br xs i (m + 1)=i
theorem gL.mem {xs:List Int} {i:Int} {r:List Int} (a:gL xs i r):i∈r:=by
 obtain ⟨m,e1,_,_⟩:=a.ex
 rw [e1];exact CO.mpr ⟨0,Nat.zero_le _,rfl⟩
theorem gL.len {n:Nat} {xs:List Int} (h:Tn n xs) {i:Int} (h0:0<=i) (h1:i < (n:Int)) {r:List Int} (a:gL xs i r):r.length<=n:=by
 obtain ⟨m,e1,nb,_⟩:=a.ex
 rw [e1,qR];exact h.jG h0 h1 nb
theorem gL.bound {n:Nat} {xs:List Int} (h:Tn n xs) {i:Int} (h0:0<=i) (h1:i < (n:Int)) {r:List Int} (a:gL xs i r):∀ x∈r,0<=x/\x < (n:Int):=by
 obtain ⟨m,e1,nb,_⟩:=a.ex
 subst e1
 intro x hx
 obtain ⟨j,_,rfl⟩:=CO.mp hx
 exact h.br h0 h1 j
def out (left r:List Int):List Int:=left.filter fun k=>!r.contains k
inductive tu (xs:List Int):List Int->List (List Int)->Prop
 | nil:tu xs [] []
 | cons {i:Int} {left r:List Int} {rs:List (List Int)}:gL xs i r->tu xs (out (i :: left) r) rs->tu xs (i :: left) (r :: rs)
def from' (n k:Nat) (seen:Int->Bool):List Int:=(((List.range n).drop k).map fun (j:Nat)=>(j:Int)).filter fun x=>!seen x
theorem Nk (n:Nat) (seen:Int->Bool):from' n n seen=[]:=by
 unfold from';rw [List.drop_of_length_le (by simp)];rfl
theorem Nl {n k:Nat} (h:k < n) (seen:Int->Bool):from' n k seen=if seen (k:Int) then from' n (k + 1) seen else (k:Int) :: from' n (k + 1) seen:=by
 unfold from'
 rw [List.drop_eq_getElem_cons (by simpa using h),List.map_cons,List.filter_cons]
 simp only [List.getElem_range]
 cases hs:seen (k:Int) <;> simp
theorem Nm {n k:Nat} {seen:Int->Bool} {r:List Int}:out (from' n k seen) r=from' n k (fun x=>seen x || r.contains x):=by
 unfold out from'
 rw [List.filter_filter]
 congr 1
 funext x
 show (!r.contains x && !seen x)=!(seen x || r.contains x)
 cases seen x <;> cases r.contains x <;> rfl
theorem Nn (n:Nat):from' n 0 (fun _=>false)=upto n:=by
 unfold from' upto
 rw [List.drop_zero]
 simp
def oI (n:Nat):List Int:=((List.range (n - 1)).map fun (k:Nat)=>(1:Int) + k) ++ [0]
theorem Np:∀ n,n < 21->0 < n->(oI n).isPerm (upto n)=true:=by decide
theorem Jw {n:Nat} (h:n < 21) (h0:0 < n):Tn n (oI n):=List.isPerm_iff.mp (Np n h h0)
end af
namespace af
theorem zm {n:Nat} {xs:List Int} (h:xs.length=n):(upto n).map (app xs)=xs:=by
 apply List.ext_getElem
 ·rw [List.length_map,nQ,h]
 ·intro i h1 h2
  have e:=nR (xs:=xs) (i:=(i:Int)) (by omega) (by omega)
  simp only [Int.toNat_natCast] at e
  rw [List.getElem?_eq_getElem h2] at e
  rw [List.getElem_map]
  unfold upto
  simp only [List.getElem_map,List.getElem_range]
  exact (Option.some.inj e).symm
def inv (xs:List Int):List Int:=(upto xs.length).map fun i=>(xs.idxOf i:Int)
theorem CP (xs:List Int):(inv xs).length=xs.length:=by unfold inv;rw [List.length_map,nQ]
theorem zo {n i:Nat} (h:i < n):(upto n)[i]?=some (i:Int):=by
 unfold upto;rw [List.getElem?_map,List.getElem?_range h];rfl
theorem CQ {xs:List Int} {i:Int} (h0:0<=i) (h1:i < (xs.length:Int)):app (inv xs) i=(xs.idxOf i:Int):=by
 have e:=nR (xs:=inv xs) h0 (by rw [CP];exact h1)
 unfold inv at e
 rw [List.getElem?_map,zo (by omega)] at e
 have:=Option.some.inj e
 rw [<- inv] at this
 rw [<- this,Int.toNat_of_nonneg h0]
theorem Tn.mem {n:Nat} {xs:List Int} (h:Tn n xs) {i:Int} (h0:0<=i) (h1:i < (n:Int)):i∈xs:=h.symm.subset (lg.mpr ⟨h0,h1⟩)
theorem Tn.idx {n:Nat} {xs:List Int} (h:Tn n xs) {i:Int} (h0:0<=i) (h1:i < (n:Int)):xs.idxOf i < n:=by rw [<- h.length];exact List.idxOf_lt_length_of_mem (h.mem h0 h1)
theorem Tn.cI {n:Nat} {xs:List Int} (h:Tn n xs) {i:Int} (h0:0<=i) (h1:i < (n:Int)):af.app xs (af.app (inv xs) i)=i:=by
 rw [CQ h0 (by rw [h.length];exact h1)]
 have hl:=h.idx h0 h1
 have e:=nR (xs:=xs) (i:=(xs.idxOf i:Int)) (by omega) (by rw [h.length];omega)
 rw [Int.toNat_natCast,List.getElem?_eq_getElem (by rw [h.length];exact hl)] at e
 rw [<- Option.some.inj e]
 exact List.getElem_idxOf _
theorem Tn.lh {n:Nat} {xs:List Int} (h:Tn n xs) {i:Int} (h0:0<=i) (h1:i < (n:Int)):0<=af.app (inv xs) i/\af.app (inv xs) i < (n:Int):=by
 rw [CQ h0 (by rw [h.length];exact h1)]
 have:=h.idx h0 h1
 omega
theorem Tn.gx {n:Nat} {xs:List Int} (h:Tn n xs) {i:Int} (h0:0<=i) (h1:i < (n:Int)):af.app (inv xs) (af.app xs i)=i:=by
 obtain ⟨a0,a1⟩:=h.app h0 h1
 obtain ⟨b0,b1⟩:=h.lh a0 a1
 exact h.inj b0 b1 h0 h1 (h.cI a0 a1)
theorem Tn.aw {n:Nat} {xs:List Int} (h:Tn n xs):Tn n (inv xs):=by
 have hl:=h.length
 unfold Tn
 have e:(inv xs).length=n:=by rw [CP,hl]
 have:=FN (xs:=inv xs) ?_ ?_
 ·rw [e] at this;exact this
 ·unfold List.Nodup
  rw [List.pairwise_iff_getElem]
  intro i j hi hj hij z
  have a:=nR (xs:=inv xs) (i:=(i:Int)) (by omega) (by omega)
  have b:=nR (xs:=inv xs) (i:=(j:Int)) (by omega) (by omega)
  rw [Int.toNat_natCast,List.getElem?_eq_getElem hi] at a
  rw [Int.toNat_natCast,List.getElem?_eq_getElem hj] at b
  have a:=Option.some.inj a
  have b:=Option.some.inj b
  have c:=h.cI (i:=(i:Int)) (by omega) (by omega)
  have d:=h.cI (i:=(j:Int)) (by omega) (by omega)
  rw [<- a] at c
  rw [<- b,<- z] at d
  have:=c.symm.trans d
  omega
 ·intro x hx
  unfold inv at hx
  obtain ⟨i,hi,rfl⟩:=List.mem_map.mp hx
  have:=lg.mp hi
  rw [hl] at this
  have:=h.idx this.1 this.2
  rw [e];omega
theorem qS (xs:List Int) (i:Int) (j:Nat):∀ d,br xs (br xs i j) d=br xs i (j + d)
 | 0=>rfl
 | d + 1=>by show app xs (br xs (br xs i j) d)=app xs (br xs i (j + d));rw [qS xs i j d]
theorem Jx {xs:List Int} {i:Int} {L:Nat} (h:br xs i L=i) (a:Nat):br xs i (a + L)=br xs i a:=by
 rw [Nat.add_comm,<- qS xs i L a,h]
theorem zp {xs:List Int} {i:Int} {L:Nat} (h:br xs i L=i):∀ (q r:Nat),br xs i (r + L * q)=br xs i r
 | 0,r=>rfl
 | q + 1,r=>by rw [Nat.mul_succ,<- Nat.add_assoc,Jx h];exact zp h q r
theorem Jy {xs:List Int} {i:Int} {L:Nat} (h:br xs i L=i) (a:Nat):br xs i (a % L)=br xs i a:=by
 have:=zp h (a / L) (a % L)
 rw [Nat.mod_add_div] at this
 exact this.symm
def Jz (xs:List Int) (k i v:Int):Prop:=∃ m,NB xs i m/\br xs i (m + 1)=i/\v=br xs i (k % ((m + 1:Nat):Int)).toNat
theorem Tn.ve {n:Nat} {xs:List Int} (h:Tn n xs) {i:Int} (h0:0<=i) (h1:i < (n:Int)) {m:Nat} (nb:NB xs i m) (bk:af.br xs i (m + 1)=i) (j:Nat) (k:Int) :
  Jz xs k (af.br xs i j) (af.br xs i (((j:Int) + k) % ((m + 1:Nat):Int)).toNat):=by
 refine ⟨m,fun d d1 d2 e=>?_,?_,?_⟩
 ·rw [qS] at e
  exact nb d d1 d2 (h.back h0 h1 j d e.symm)
 ·rw [qS,Jx bk]
 ·rw [qS]
  rw [<- Jy bk (j + (k % ((m + 1:Nat):Int)).toNat)]
  congr 1
  have hL:(0:Int) < ((m + 1:Nat):Int):=by omega
  have k0:=Int.emod_nonneg k (Int.ne_of_gt hL)
  have e:(((j + (k % ((m + 1:Nat):Int)).toNat) % (m + 1):Nat):Int)=((j:Int) + k) % ((m + 1:Nat):Int):=by
   rw [Int.natCast_emod,Int.natCast_add,Int.toNat_of_nonneg k0,Int.add_emod_emod]
  rw [<- e,Int.toNat_natCast]
theorem tu.all {xs:List Int}:∀ {left:List Int} {rs:List (List Int)},tu xs left rs->(∀ r∈rs,∃ i∈left,gL xs i r)/\∀ x∈left,∃ r∈rs,x∈r:=by
 intro left rs a
 induction a with
 | nil=>exact ⟨fun r hr=>(nomatch hr),fun x hx=>(nomatch hx)⟩
 | cons h1 _ ih =>
  refine ⟨fun r hr=>?_,fun x hx=>?_⟩
  ·rcases List.mem_cons.mp hr with rfl | hr
   ·exact ⟨_,List.mem_cons_self,h1⟩
   ·obtain ⟨i,hi,r'⟩:=ih.1 r hr
    exact ⟨i,(List.mem_filter.mp hi).1,r'⟩
  ·rename_i i left r rs _
   by_cases hc:x∈r
   ·exact ⟨r,List.mem_cons_self,hc⟩
   ·obtain ⟨r',hr',hx'⟩:=ih.2 x (List.mem_filter.mpr ⟨hx,by simp [hc]⟩)
    exact ⟨r',List.mem_cons_of_mem _ hr',hx'⟩
theorem Nq {n:Nat} {xs:List Int} (h:Tn n xs):xs.map (app (inv xs))=upto n:=by
 have e:((upto n).map (app xs)).map (app (inv xs))=upto n:=by
  rw [List.map_map]
  conv=>rhs;rw [<- List.map_id (upto n)]
  apply List.map_congr_left
  intro x hx
  obtain ⟨a,b⟩:=lg.mp hx
  exact h.gx a b
 rw [zm h.length] at e
 exact e
theorem Nr {n:Nat} {xs:List Int} (h:Tn n xs):(inv xs).map (app xs)=upto n:=by
 have e:((upto n).map (app (inv xs))).map (app xs)=upto n:=by
  rw [List.map_map]
  conv=>rhs;rw [<- List.map_id (upto n)]
  apply List.map_congr_left
  intro x hx
  obtain ⟨a,b⟩:=lg.mp hx
  exact h.cI a b
 rw [zm (h.aw).length] at e
 exact e
end af
namespace af
inductive iG (xs ys:List Int):Int->Prop
 | zero:iG xs ys 0
 | r {x:Int}:iG xs ys x->iG xs ys (app xs x)
 | u {x:Int}:iG xs ys x->iG xs ys (app ys x)
theorem iG.bound {n:Nat} {xs ys:List Int} (hx:Tn n xs) (hy:Tn n ys) (h0:0 < n) {x:Int} (h:iG xs ys x):0<=x/\x < (n:Int):=by
 induction h with
 | zero=>omega
 | r _ ih=>exact hx.app ih.1 ih.2
 | u _ ih=>exact hy.app ih.1 ih.2
theorem iG.br {xs ys:List Int} {x:Int} (h:iG xs ys x):∀ k,iG xs ys (af.br xs x k)
 | 0=>h
 | k + 1=>.r (h.br k)
def mq (xs:List Int) (m:Nat):List Int:=(xs.set 0 (app xs m)).set m (app xs 0)
theorem Nt (xs:List Int) (m:Nat):(mq xs m).length=xs.length:=by simp [mq]
theorem FO {xs:List Int} {m:Nat} {v x:Int} (hm:m < xs.length) (h0:0<=x):app (xs.set m v) x=if x=(m:Int) then v else app xs x:=by
 unfold app
 rw [List.getD_eq_getElem?_getD,List.getD_eq_getElem?_getD]
 by_cases hx:x=(m:Int)
 ·rw [if_pos hx,hx,Int.toNat_natCast,List.getElem?_set_self hm];rfl
 ·rw [if_neg hx,List.getElem?_set_ne (by omega)]
theorem xN {xs:List Int} {m:Nat} (hm:m < xs.length) {x:Int} (h0:0<=x):app (mq xs m) x=if x=(m:Int) then app xs 0 else if x=0 then app xs m else app xs x:=by
 unfold mq
 rw [FO (by simpa using hm) h0,FO (by omega) h0]
 rfl
theorem vf {n:Nat} {xs:List Int} (h:Tn n xs) {m:Nat} (hm:m < n):Tn n (mq xs m):=by
 have hl:=h.length
 have e:(mq xs m).length=n:=by rw [Nt,hl]
 have:=FN (xs:=mq xs m) ?_ ?_
 ·unfold Tn;rw [e] at this;exact this
 ·unfold List.Nodup
  rw [List.pairwise_iff_getElem]
  intro i j hi hj hij z
  have a:=nR (xs:=mq xs m) (i:=(i:Int)) (by omega) (by omega)
  have b:=nR (xs:=mq xs m) (i:=(j:Int)) (by omega) (by omega)
  rw [Int.toNat_natCast,List.getElem?_eq_getElem hi] at a
  rw [Int.toNat_natCast,List.getElem?_eq_getElem hj] at b
  have a:=Option.some.inj a
  have b:=Option.some.inj b
  rw [xN (by omega) (by omega)] at a b
  rw [a,b] at z
  have inj:∀ p q:Int,0<=p->p < (n:Int)->0<=q->q < (n:Int)->app xs p=app xs q->p=q:=fun p q p0 p1 q0 q1=>h.inj p0 p1 q0 q1
  split at z <;> split at z <;> (try split at z) <;> (try split at z) <;> (first | omega | (have:=inj _ _ (by omega) (by omega) (by omega) (by omega) z;omega))
 ·intro x hx
  obtain ⟨i,hi,rfl⟩:=List.getElem_of_mem hx
  have a:=nR (xs:=mq xs m) (i:=(i:Int)) (by omega) (by omega)
  rw [Int.toNat_natCast,List.getElem?_eq_getElem hi] at a
  rw [Option.some.inj a,xN (by omega) (by omega),e]
  split
  ·exact h.app (by omega) (by omega)
  ·split
   ·exact h.app (by omega) (by omega)
   ·exact h.app (by omega) (by omega)
theorem Tn.rN {n:Nat} {xs:List Int} (h:Tn n xs) {i:Int} (h0:0<=i) (h1:i < (n:Int)):∃ m,NB xs i m/\af.br xs i (m + 1)=i:=by
 by_cases hb:∃ m,m < n/\af.br xs i (m + 1)=i
 ·-- the least
  have key:∀ b:Nat,(∃ m,m < b/\af.br xs i (m + 1)=i)->∃ m,NB xs i m/\af.br xs i (m + 1)=i:=by
   intro b
   induction b with
   | zero=>rintro ⟨m,hm,_⟩;omega
   | succ b ih =>
    rintro ⟨m,hm,e⟩
    by_cases hc:∃ m,m < b/\af.br xs i (m + 1)=i
    ·exact ih hc
    ·refine ⟨m,fun j j1 j2 z=>hc ⟨j - 1,by omega,?_⟩,e⟩
     have:j - 1 + 1=j:=by omega
     rw [this];exact z
  exact key n hb
 ·have nb:NB xs i n:=fun j j1 j2 z=>by
   refine hb ⟨j - 1,by omega,?_⟩
   have:j - 1 + 1=j:=by omega
   rw [this];exact z
  have:=h.jG h0 h1 nb
  omega
theorem Nu {n:Nat} {xs ys:List Int} (hx:Tn n xs) (hy:Tn n ys) {m:Nat} (hm:m < n) (nm:¬ iG xs ys (m:Int)):iG (mq xs m) ys (m:Int)/\∀ x,iG xs ys x->iG (mq xs m) ys x:=by
 have hl:=hx.length
 have m0:m≠0:=fun z=>nm (by rw [z];exact .zero)
 obtain ⟨M,nb,bk⟩:=hx.rN (i:=(m:Int)) (by omega) (by omega)
 have Nv:∀ j,af.br xs (m:Int) j≠0:=by
  intro j z
  have h':iG xs ys (af.br xs (af.br xs (m:Int) j) ((M + 1) * j)):=by rw [z];exact iG.zero.br _
  rw [qS] at h'
  have e2:af.br xs (m:Int) ((M + 1) * (j + 1))=(m:Int):=by
   have:=zp bk (j + 1) 0
   rw [Nat.zero_add] at this
   exact this
  have h3:=h'.br ((M + 1) * (j + 1) - (j + (M + 1) * j))
  rw [qS] at h3
  have e3:j + (M + 1) * j + ((M + 1) * (j + 1) - (j + (M + 1) * j))=if j + (M + 1) * j<=(M + 1) * (j + 1) then (M + 1) * (j + 1) else j + (M + 1) * j:=by split <;> omega
  rw [e3] at h3
  by_cases hc:j + (M + 1) * j<=(M + 1) * (j + 1)
  ·rw [if_pos hc,e2] at h3
   exact nm h3
  ·-- round as often as needed
   have h4:=h'.br ((M + 1) * (2 * j + 2) - (j + (M + 1) * j))
   rw [qS] at h4
   have hbig:j + (M + 1) * j<=(M + 1) * (2 * j + 2):=by
    have a1:(M + 1) * (2 * j + 2)=(M + 1) * j + ((M + 1) * j + (M + 1) * 2):=by rw [<- Nat.mul_add,<- Nat.mul_add];congr 1;omega
    have a2:j<=(M + 1) * j:=Nat.le_mul_of_pos_left j (by omega)
    omega
   have e5:j + (M + 1) * j + ((M + 1) * (2 * j + 2) - (j + (M + 1) * j))=(M + 1) * (2 * j + 2):=by omega
   rw [e5] at h4
   have:=zp bk (2 * j + 2) 0
   rw [Nat.zero_add] at this
   rw [this] at h4
   exact nm h4
 have ring:∀ j,j<=M->iG (mq xs m) ys (af.br xs (m:Int) (j + 1)):=by
  intro j
  induction j with
  | zero =>
   intro _
   have h1:iG (mq xs m) ys (af.app (mq xs m) 0):=.r .zero
   rw [xN (by omega) (by omega),if_neg (by omega),if_pos rfl] at h1
   exact h1
  | succ j ih =>
   intro hj
   have h1:=(ih (by omega)).r
   have b:=hx.br (i:=(m:Int)) (by omega) (by omega) (j + 1)
   rw [xN (by omega) b.1,if_neg (nb (j + 1) (by omega) (by omega)),if_neg (Nv (j + 1))] at h1
   exact h1
 have JA:iG (mq xs m) ys (m:Int):=by have:=ring M (Nat.le_refl _);rwa [bk] at this
 refine ⟨JA,fun x h=>?_⟩
 have hpos:0 < n:=by omega
 induction h with
 | zero=>exact .zero
 | r hx' ih =>
  rename_i x
  have b:=hx'.bound hx hy hpos
  by_cases h0:x=0
  ·have h1:=JA.r
   rw [xN (by omega) (by omega),if_pos rfl] at h1
   rw [h0];exact h1
  ·have Nw:x≠(m:Int):=fun z=>nm (by rw [<- z];exact hx')
   have h1:=ih.r
   rw [xN (by omega) b.1,if_neg Nw,if_neg h0] at h1
   exact h1
 | u _ ih=>exact ih.u
def Cl (xs ys F:List Int):Prop:=∀ x∈F,app xs x∈F/\app ys x∈F
theorem Cl.all {xs ys F:List Int} (h:Cl xs ys F) (h0:(0:Int)∈F) {x:Int} (r:iG xs ys x):x∈F:=by
 induction r with
 | zero=>exact h0
 | r _ ih=>exact (h _ ih).1
 | u _ ih=>exact (h _ ih).2
structure Fd (xs ys:List Int) (F:List Int):Prop where
 z:(0:Int)∈F
 nd:F.Nodup
 mt:∀ x∈F,iG xs ys x
theorem Fd.len {n:Nat} {xs ys F:List Int} (h:Fd xs ys F) (hx:Tn n xs) (hy:Tn n ys) (h0:0 < n):F.length<=n:=by
 have:=xM h.nd (ys:=upto n) fun x hx'=>lg.mpr ((h.mt x hx').bound hx hy h0)
 rw [nQ] at this
 exact this
theorem Fd.one (xs ys:List Int):Fd xs ys [0]:=⟨by simp,by simp,fun x hx=>(show x=0 by simpa using hx) ▸ .zero⟩
theorem round {xs ys F F1 F2:List Int} (d:Fd xs ys F) (d2:Fd xs ys F2) (p1:F <+: F1) (p2:F1 <+: F2) (c1:∀ x∈F,app xs x∈F1) (c2:∀ x∈F1,app ys x∈F2) {t:Nat} (h:Cl xs ys F\/t + 1<=F.length):Cl xs ys F2\/t + 1 + 1<=F2.length:=by
 have p:=p1.trans p2
 by_cases hc:Cl xs ys F
 ·refine .inl fun x hx=>?_
  have hF:=hc.all d.z (d2.mt x hx)
  exact ⟨p.subset (hc x hF).1,p.subset (hc x hF).2⟩
 ·have hl:=h.resolve_left hc
  by_cases he:F2.length<=F.length
  ·refine absurd ?_ hc
   have e2:F2=F:=(p.eq_of_length (by have:=p.length_le;omega)).symm
   have e1:F1=F:=by
    have a:=p1.length_le
    have b:=p2.length_le
    exact (p1.eq_of_length (by omega)).symm
   intro x hx
   refine ⟨?_,?_⟩
   ·have:=c1 x hx;rwa [e1] at this
   ·have:=c2 x (by rw [e1];exact hx);rwa [e2] at this
  ·exact .inr (by omega)
def qe (w n:Nat):List Int:=((List.range (w - 1)).map fun (k:Nat)=>(1:Int) + k) ++ [0] ++ ((List.range (n - w)).map fun (k:Nat)=>(w:Int) + k)
def rO (w n:Nat):List Int:=[(w:Int)] ++ ((List.range (w - 1)).map fun (k:Nat)=>(1:Int) + k) ++ ((List.range (n - (w + 1))).map fun (k:Nat)=>((w:Int) + 1) + k) ++ [0]
theorem Nx:∀ n,n < 21->∀ w,w < n + 1->0 < w->(qe w n).isPerm (upto n)=true:=by decide +kernel
theorem Ny:∀ n,n < 21->∀ w,w < n->0 < w->(rO w n).isPerm (upto n)=true:=by decide +kernel
theorem Nz {w n:Nat} (h:n < 21) (h1:w<=n) (h0:0 < w):Tn n (qe w n):=List.isPerm_iff.mp (Nx n h w (by omega) h0)
theorem NA {w n:Nat} (h:n < 21) (h1:w < n) (h0:0 < w):Tn n (rO w n):=List.isPerm_iff.mp (Ny n h w h1 h0)
theorem less {L L':List Int} {m:Int} (nd:L'.Nodup) (hs:∀ x∈L',x∈L) (hm:m∈L) (hm':m ∉ L'):L'.length < L.length:=by
 have hp:=List.perm_cons_erase hm
 have hlen:(L.erase m).length + 1=L.length:=by have:=hp.length_eq;simpa using this.symm
 have:=xM (ys:=L.erase m) nd fun x hx=>(List.mem_erase_of_ne (fun e=>hm' (by rw [<- e];exact hx))).mpr (hs x hx)
 omega
end af
namespace af
def aZ (xs ys:List Int):List Int:=xs.map (app ys)
theorem zq (xs ys:List Int):(aZ xs ys).length=xs.length:=by simp [aZ]
theorem oJ {n:Nat} {xs ys:List Int} (hx:xs.length=n) (hy:ys.length=n) (h:∀ s:Int,0<=s->s < (n:Int)->app xs s=app ys s):xs=ys:=by
 rw [<- zm hx,<- zm hy]
 apply List.map_congr_left
 intro s hs
 obtain ⟨h0,h1⟩:=lg.mp hs
 exact h s h0 h1
theorem nS {xs ys:List Int} {s:Int} (h0:0<=s) (h1:s < (xs.length:Int)):app (aZ xs ys) s=app ys (app xs s):=by
 have e:=nR (xs:=aZ xs ys) h0 (by rw [zq];exact h1)
 unfold aZ at e
 rw [List.getElem?_map,nR h0 h1] at e
 exact (Option.some.inj e).symm
theorem Tn.qf {n:Nat} {xs:List Int} (hl:xs.length=n) (hb:∀ s:Int,0<=s->s < (n:Int)->0<=af.app xs s/\af.app xs s < (n:Int)) (hi:∀ s t:Int,0<=s->s < (n:Int)->0<=t->t < (n:Int)->af.app xs s=af.app xs t->s=t):Tn n xs:=by
 have el:∀ (i:Nat) (h:i < xs.length),xs[i]=af.app xs (i:Int):=fun i h=>by
  have a:=nR (xs:=xs) (i:=(i:Int)) (by omega) (by omega)
  rw [Int.toNat_natCast,List.getElem?_eq_getElem h] at a
  exact Option.some.inj a
 have:=FN (xs:=xs) ?_ ?_
 ·unfold Tn;rw [hl] at this;exact this
 ·unfold List.Nodup
  rw [List.pairwise_iff_getElem]
  intro i j h1 h2 hij z
  rw [el i h1,el j h2] at z
  have:=hi i j (by omega) (by omega) (by omega) (by omega) z
  omega
 ·intro x hx
  obtain ⟨i,h,rfl⟩:=List.getElem_of_mem hx
  rw [el i h,hl]
  exact hb i (by omega) (by omega)
theorem Tn.aZ {n:Nat} {xs ys:List Int} (hx:Tn n xs) (hy:Tn n ys):Tn n (aZ xs ys):=by
 have hl:=hx.length
 refine Tn.qf (by rw [zq];exact hl) (fun s h0 h1=>?_) fun s t s0 s1 t0 t1 e=>?_
 ·rw [nS h0 (by omega)]
  obtain ⟨a,b⟩:=hx.app h0 h1
  exact hy.app a b
 ·rw [nS s0 (by omega),nS t0 (by omega)] at e
  obtain ⟨a,b⟩:=hx.app s0 s1
  obtain ⟨c,d⟩:=hx.app t0 t1
  exact hx.inj s0 s1 t0 t1 (hy.inj a b c d e)
theorem Tn.rP {n:Nat} {xs ys:List Int} (hx:Tn n xs) (hy:Tn n ys) {s:Int} (h0:0<=s) (h1:s < (n:Int)):af.app (inv (af.aZ xs ys)) s=af.app (inv xs) (af.app (inv ys) s):=by
 have hf:=hx.aZ hy
 obtain ⟨a0,a1⟩:=hy.lh h0 h1
 obtain ⟨b0,b1⟩:=hx.lh a0 a1
 obtain ⟨c0,c1⟩:=hf.lh h0 h1
 refine hf.inj c0 c1 b0 b1 ?_
 rw [hf.cI h0 h1,nS b0 (by rw [hx.length];exact b1),hx.cI a0 a1,hy.cI h0 h1]
def anew (xs p:List Int):List Int:=aZ (aZ (inv p) xs) p
theorem Tn.anew {n:Nat} {xs p:List Int} (hx:Tn n xs) (hp:Tn n p):Tn n (anew xs p):=(hp.aw.aZ hx).aZ hp
theorem Tn.gy {n:Nat} {xs p:List Int} (hx:Tn n xs) (hp:Tn n p) {s:Int} (h0:0<=s) (h1:s < (n:Int)):af.app (af.anew xs p) s=af.app p (af.app xs (af.app (inv p) s)):=by
 have hl:=hp.aw.length
 unfold af.anew
 rw [nS h0 (by rw [zq,hl];exact h1),nS h0 (by rw [hl];exact h1)]
theorem Tn.kc {n:Nat} {xs p:List Int} (hx:Tn n xs) (hp:Tn n p) {s:Int} (h0:0<=s) (h1:s < (n:Int)):af.app (af.anew xs p) (af.app p s)=af.app p (af.app xs s):=by
 obtain ⟨a,b⟩:=hp.app h0 h1
 rw [hx.gy hp a b,hp.gx h0 h1]
theorem Tn.mD {n:Nat} {xs p q:List Int} (hx:Tn n xs) (hp:Tn n p) (hq:Tn n q):af.anew (af.anew xs p) q=af.anew xs (af.aZ p q):=by
 have hf:=hp.aZ hq
 refine oJ (n:=n) ((hx.anew hp).anew hq).length (hx.anew hf).length fun s h0 h1=>?_
 obtain ⟨a0,a1⟩:=hq.lh h0 h1
 obtain ⟨b0,b1⟩:=hp.lh a0 a1
 obtain ⟨c0,c1⟩:=hx.app b0 b1
 rw [(hx.anew hp).gy hq h0 h1,hx.gy hp a0 a1,hx.gy hf h0 h1,hp.rP hq h0 h1,nS c0 (by rw [hp.length];exact c1)]
theorem Tn.mE {n:Nat} {xs p:List Int} (hx:Tn n xs) (hp:Tn n p):af.anew (af.anew xs p) (inv p)=xs:=by
 refine oJ (n:=n) ((hx.anew hp).anew hp.aw).length hx.length fun s h0 h1=>?_
 obtain ⟨a0,a1⟩:=hp.aw.lh h0 h1
 have e:af.app (inv (inv p)) s=af.app p s:=by
  obtain ⟨b0,b1⟩:=hp.app h0 h1
  refine hp.aw.inj a0 a1 b0 b1 ?_
  rw [hp.aw.cI h0 h1,hp.gx h0 h1]
 obtain ⟨b0,b1⟩:=hp.app h0 h1
 obtain ⟨c0,c1⟩:=hx.app h0 h1
 rw [(hx.anew hp).gy hp.aw h0 h1,e,hx.kc hp h0 h1,hp.gx c0 c1]
end af
namespace af
def cE (F:List Int) (x:Int):List Int:=if x∈F then F else F ++ [x]
theorem tw (F:List Int) (x:Int):F <+: cE F x:=by
 unfold cE;split
 ·exact List.prefix_refl _
 ·exact List.prefix_append _ _
theorem oK {F:List Int} {x y:Int}:y∈cE F x↔y∈F\/y=x:=by
 unfold cE;split
 ·next h=>exact ⟨.inl,fun z=>z.elim id fun e=>e ▸ h⟩
 ·rw [List.mem_append,List.mem_singleton]
theorem JB {F:List Int} {x:Int} (h:F.Nodup):(cE F x).Nodup:=by
 unfold cE;split
 ·exact h
 ·next hx =>
  rw [List.nodup_append]
  exact ⟨h,by simp,fun a ha b hb e=>hx (by rw [List.mem_singleton] at hb;rw [<- hb,<- e];exact ha)⟩
def visit (xs ys F:List Int) (x:Int):List Int:=cE (cE F (app xs x)) (app ys x)
def bf (xs ys:List Int) (s:Int):Nat->List Int
 | 0=>[s]
 | k + 1=>match (bf xs ys s k)[k]? with
  | some x=>visit xs ys (bf xs ys s k) x
  | none=>bf xs ys s k
theorem NC (xs ys:List Int) (s:Int) (k:Nat):bf xs ys s k <+: bf xs ys s (k + 1):=by
 show _ <+: (match (bf xs ys s k)[k]? with | some x=>visit xs ys (bf xs ys s k) x | none=>bf xs ys s k)
 split
 ·exact (tw _ _).trans (tw _ _)
 ·exact List.prefix_refl _
theorem xO (xs ys:List Int) (s:Int) (k:Nat):∀ d,bf xs ys s k <+: bf xs ys s (k + d)
 | 0=>List.prefix_refl _
 | d + 1=>(xO xs ys s k d).trans (NC xs ys s (k + d))
theorem vg (xs ys:List Int) (s:Int):∀ k,(bf xs ys s k).Nodup
 | 0=>by show [s].Nodup;simp
 | k + 1=>by
  show (match (bf xs ys s k)[k]? with | some x=>visit xs ys (bf xs ys s k) x | none=>bf xs ys s k).Nodup
  split
  ·exact JB (JB (vg xs ys s k))
  ·exact vg xs ys s k
theorem CS {xs ys:List Int} {s:Int} {k:Nat} (h:(bf xs ys s k).length<=k):∀ d,bf xs ys s (k + d)=bf xs ys s k
 | 0=>rfl
 | d + 1=>by
  have e:=CS h d
  show (match (bf xs ys s (k + d))[k + d]? with | some x=>visit xs ys (bf xs ys s (k + d)) x | none=>bf xs ys s (k + d))=_
  rw [e,List.getElem?_eq_none (by omega)]
section
variable {n:Nat} {xs ys:List Int} {s:Int}
theorem o9 (hx:Tn n xs) (hy:Tn n ys) (s0:0<=s) (s1:s < (n:Int)):∀ k,∀ x∈bf xs ys s k,0<=x/\x < (n:Int)
 | 0,x,h=>by rw [List.mem_singleton.mp (show x∈[s] from h)];exact ⟨s0,s1⟩
 | k + 1,x,h=>by
  have ih:=o9 hx hy s0 s1 k
  have h':x∈(match (bf xs ys s k)[k]? with | some y=>visit xs ys (bf xs ys s k) y | none=>bf xs ys s k):=h
  split at h'
  ·next y hy' =>
   obtain ⟨y0,y1⟩:=ih y (List.mem_of_getElem? hy')
   rcases oK.mp h' with h' | rfl
   ·rcases oK.mp h' with h' | rfl
    ·exact ih x h'
    ·exact hx.app y0 y1
   ·exact hy.app y0 y1
  ·exact ih x h'
theorem zt (hx:Tn n xs) (hy:Tn n ys) (s0:0<=s) (s1:s < (n:Int)) (k:Nat):(bf xs ys s k).length<=n:=by
 have:=xM (vg xs ys s k) (ys:=upto n) fun x h=>lg.mpr (o9 hx hy s0 s1 k x h)
 rw [nQ] at this
 exact this
theorem zu {k i:Nat} (hik:i<=k) {x:Int} (h:(bf xs ys s k)[i]?=some x):(bf xs ys s i)[i]?=some x:=by
 obtain ⟨d,rfl⟩:∃ d,k=i + d:=⟨k - i,by omega⟩
 by_cases hl:(bf xs ys s i).length<=i
 ·rw [CS hl d] at h
  exact h
 ·obtain ⟨t,e⟩:=xO xs ys s i d
  rw [<- e,List.getElem?_append_left (by omega)] at h
  exact h
theorem FP (hx:Tn n xs) (hy:Tn n ys) (s0:0<=s) (s1:s < (n:Int)):Cl xs ys (bf xs ys s n):=by
 intro x hm
 obtain ⟨i,hi,e⟩:=List.getElem_of_mem hm
 have hl:=zt hx hy s0 s1 n
 have hi':(bf xs ys s i)[i]?=some x:=zu (k:=n) (by omega) (by rw [List.getElem?_eq_getElem hi,e])
 have hs:visit xs ys (bf xs ys s i) x <+: bf xs ys s n:=by
  have:=xO xs ys s (i + 1) (n - (i + 1))
  rw [show i + 1 + (n - (i + 1))=n by omega] at this
  have e2:bf xs ys s (i + 1)=visit xs ys (bf xs ys s i) x:=by
   show (match (bf xs ys s i)[i]? with | some x=>visit xs ys (bf xs ys s i) x | none=>bf xs ys s i)=_
   rw [hi']
  rw [<- e2];exact this
 refine ⟨hs.subset ?_,hs.subset ?_⟩
 ·exact oK.mpr (.inl (oK.mpr (.inr rfl)))
 ·exact oK.mpr (.inr rfl)
theorem zv {zs F:List Int} (hz:Tn n zs) (nd:F.Nodup) (hb:∀ x∈F,0<=x/\x < (n:Int)) (hc:∀ x∈F,app zs x∈F) {y:Int} (y0:0<=y) (y1:y < (n:Int)) (h:app zs y∈F):y∈F:=by
 have ND:(F.map (app zs)).Nodup:=by
  unfold List.Nodup
  rw [List.pairwise_map]
  refine List.Pairwise.imp_of_mem (fun {a b} ha hb' hab e=>?_) nd
  obtain ⟨a0,a1⟩:=hb a ha
  obtain ⟨b0,b1⟩:=hb b hb'
  exact hab (hz.inj a0 a1 b0 b1 e)
 have pm:(F.map (app zs)).Perm F:=CN ND (fun x hx=>by obtain ⟨z,hz',rfl⟩:=List.mem_map.mp hx;exact hc z hz') (by simp)
 obtain ⟨z,xP,e⟩:=List.mem_map.mp (pm.symm.subset h)
 obtain ⟨z0,z1⟩:=hb z xP
 rw [<- hz.inj z0 z1 y0 y1 e];exact xP
theorem JC (hx:Tn n xs) (hy:Tn n ys) (s0:0<=s) (s1:s < (n:Int)) (all:∀ x:Int,0<=x->x < (n:Int)->iG xs ys x) {x:Int} (x0:0<=x) (x1:x < (n:Int)):x∈bf xs ys s n:=by
 have cl:=FP hx hy s0 s1
 have nd:=vg xs ys s n
 have bd:=o9 hx hy s0 s1 n
 have hs:s∈bf xs ys s n:=by
  have:=xO xs ys s 0 n
  rw [Nat.zero_add] at this
  exact this.subset (show s∈[s] by simp)
 have hpos:0 < n:=by omega
 have zero:∀ y,iG xs ys y->y∈bf xs ys s n->(0:Int)∈bf xs ys s n:=by
  intro y hr
  induction hr with
  | zero=>exact id
  | r h ih =>
   intro hm
   obtain ⟨a,b⟩:=h.bound hx hy hpos
   exact ih (zv hx nd bd (fun x hx'=>(cl x hx').1) a b hm)
  | u h ih =>
   intro hm
   obtain ⟨a,b⟩:=h.bound hx hy hpos
   exact ih (zv hy nd bd (fun x hx'=>(cl x hx').2) a b hm)
 exact cl.all (zero s (all s s0 s1) hs) (all x x0 x1)
theorem CT (hx:Tn n xs) (hy:Tn n ys) (s0:0<=s) (s1:s < (n:Int)) (all:∀ x:Int,0<=x->x < (n:Int)->iG xs ys x):Tn n (bf xs ys s n) :=
 CN (vg xs ys s n) (fun x h=>lg.mpr (o9 hx hy s0 s1 n x h)) (by
  have:=xM (Ju n) (ys:=bf xs ys s n) fun x h=>by obtain ⟨a,b⟩:=lg.mp h;exact JC hx hy s0 s1 all a b
  exact this)
theorem JD {p F:List Int} (hp:Tn n p) (hb:∀ x∈F,0<=x/\x < (n:Int)) {x:Int} (x0:0<=x) (x1:x < (n:Int)):cE (F.map (app p)) (app p x)=(cE F x).map (app p):=by
 unfold cE
 have e:app p x∈F.map (app p)↔x∈F:=⟨fun h=>by
  obtain ⟨y,hy,e⟩:=List.mem_map.mp h
  obtain ⟨y0,y1⟩:=hb y hy
  rw [<- hp.inj y0 y1 x0 x1 e];exact hy,fun h=>List.mem_map.mpr ⟨x,h,rfl⟩⟩
 by_cases h:x∈F
 ·rw [if_pos h,if_pos (e.mpr h)]
 ·rw [if_neg h,if_neg fun z=>h (e.mp z),List.map_append];rfl
theorem FQ {p:List Int} (hx:Tn n xs) (hy:Tn n ys) (hp:Tn n p) (s0:0<=s) (s1:s < (n:Int)):∀ k,bf (anew xs p) (anew ys p) (app p s) k=(bf xs ys s k).map (app p)
 | 0=>rfl
 | k + 1=>by
  have ih:=FQ hx hy hp s0 s1 k
  show (match (bf (anew xs p) (anew ys p) (app p s) k)[k]? with | some x=>visit (anew xs p) (anew ys p) (bf (anew xs p) (anew ys p) (app p s) k) x | none=>bf (anew xs p) (anew ys p) (app p s) k)=(match (bf xs ys s k)[k]? with | some x=>visit xs ys (bf xs ys s k) x | none=>bf xs ys s k).map (app p)
  rw [ih,List.getElem?_map]
  cases h:(bf xs ys s k)[k]? with
  | none=>rfl
  | some x =>
   obtain ⟨x0,x1⟩:=o9 hx hy s0 s1 k x (List.mem_of_getElem? h)
   obtain ⟨a0,a1⟩:=hx.app x0 x1
   obtain ⟨b0,b1⟩:=hy.app x0 x1
   show visit (anew xs p) (anew ys p) ((bf xs ys s k).map (app p)) (app p x)=(visit xs ys (bf xs ys s k) x).map (app p)
   unfold visit
   rw [hx.kc hp x0 x1,hy.kc hp x0 x1,JD hp (o9 hx hy s0 s1 k) a0 a1,JD hp (fun z hz=>?_) b0 b1]
   rcases oK.mp hz with hz | rfl
   ·exact o9 hx hy s0 s1 k z hz
   ·exact ⟨a0,a1⟩
end
def num (zs sq:List Int):List Int:=sq.map fun o=>(sq.idxOf (app zs o):Int)
theorem Tn.inv_inv {n:Nat} {p:List Int} (hp:Tn n p):inv (inv p)=p:=by
 refine oJ (n:=n) hp.aw.aw.length hp.length fun s h0 h1=>?_
 obtain ⟨a0,a1⟩:=hp.aw.lh h0 h1
 obtain ⟨b0,b1⟩:=hp.app h0 h1
 refine hp.aw.inj a0 a1 b0 b1 ?_
 rw [hp.aw.cI h0 h1,hp.gx h0 h1]
theorem CU {n:Nat} {zs sq:List Int} (hz:Tn n zs) (hs:Tn n sq):anew zs (inv sq)=num zs sq:=by
 unfold anew num aZ
 rw [hs.inv_inv,List.map_map]
 apply List.map_congr_left
 intro o ho
 obtain ⟨o0,o1⟩:=hs.bound ho
 obtain ⟨a0,a1⟩:=hz.app o0 o1
 exact CQ a0 (by rw [hs.length];exact a1)
theorem JE {n:Nat} {p:List Int} (hp:Tn n p):∀ {sq:List Int},(∀ x∈sq,0<=x/\x < (n:Int))->∀ {y:Int},0<=y->y < (n:Int)->(sq.map (app p)).idxOf (app p y)=sq.idxOf y
 | [],_,_,_,_=>rfl
 | a :: r,hb,y,y0,y1=>by
  obtain ⟨a0,a1⟩:=hb a List.mem_cons_self
  rw [List.map_cons,List.idxOf_cons,List.idxOf_cons,JE hp (fun x hx=>hb x (List.mem_cons_of_mem _ hx)) y0 y1]
  by_cases e:a=y
  ·rw [e];simp
  ·have e2:app p a≠app p y:=fun z=>e (hp.inj a0 a1 y0 y1 z)
   rw [show (a == y)=false by simpa using e,show (app p a == app p y)=false by simpa using e2]
theorem JF {n:Nat} {zs sq p:List Int} (hz:Tn n zs) (hp:Tn n p) (hb:∀ x∈sq,0<=x/\x < (n:Int)):num (anew zs p) (sq.map (app p))=num zs sq:=by
 unfold num
 rw [List.map_map]
 apply List.map_congr_left
 intro o ho
 obtain ⟨o0,o1⟩:=hb o ho
 obtain ⟨a0,a1⟩:=hz.app o0 o1
 show ((sq.map (app p)).idxOf (app (anew zs p) (app p o)):Int)=_
 rw [hz.kc hp o0 o1,JE hp hb a0 a1]
end af
namespace af
def pw (xs:List Int) (k i:Int):Int:=if 0<=k then br xs i k.toNat else br (inv xs) i (-k).toNat
section
variable {n:Nat} {xs:List Int} {i:Int}
theorem Tn.mV (h:Tn n xs) (i0:0<=i) (i1:i < (n:Int)):∀ (k m:Nat),af.br (inv xs) (af.br xs i m) k=if k<=m then af.br xs i (m - k) else af.br (inv xs) i (k - m)
 | 0,m=>by rw [if_pos (Nat.zero_le _),Nat.sub_zero];rfl
 | k + 1,m=>by
  show af.app (inv xs) (af.br (inv xs) (af.br xs i m) k)=_
  rw [h.mV i0 i1 k m]
  by_cases hk:k<=m
  ·rw [if_pos hk]
   by_cases hk1:k + 1<=m
   ·rw [if_pos hk1]
    obtain ⟨d,hd⟩:∃ d,m - k=d + 1:=⟨m - k - 1,by omega⟩
    rw [hd,show m - (k + 1)=d by omega]
    obtain ⟨a,b⟩:=h.br i0 i1 d
    exact h.gx a b
   ·rw [if_neg hk1,show m - k=0 by omega,show k + 1 - m=1 by omega]
    rfl
  ·rw [if_neg hk,if_neg (by omega),show k + 1 - m=(k - m) + 1 by omega]
   rfl
theorem Tn.qg (h:Tn n xs) (i0:0<=i) (i1:i < (n:Int)) (k m:Nat):af.br xs (af.br (inv xs) i m) k=if k<=m then af.br (inv xs) i (m - k) else af.br xs i (k - m):=by
 have:=h.aw.mV i0 i1 k m
 rw [h.inv_inv] at this
 exact this
theorem Tn.pw (h:Tn n xs) (i0:0<=i) (i1:i < (n:Int)) (k:Int):0<=af.pw xs k i/\af.pw xs k i < (n:Int):=by
 unfold af.pw
 split
 ·exact h.br i0 i1 _
 ·exact h.aw.br i0 i1 _
theorem Tn.pw_add (h:Tn n xs) (i0:0<=i) (i1:i < (n:Int)) (a b:Int):af.pw xs a (af.pw xs b i)=af.pw xs (a + b) i:=by
 by_cases ha:0<=a <;> by_cases hb:0<=b
 ·unfold af.pw
  rw [if_pos ha,if_pos hb,if_pos (by omega),qS]
  congr 1
  omega
 ·have e1:af.pw xs b i=af.br (inv xs) i (-b).toNat:=by unfold af.pw;rw [if_neg hb]
  have e2:∀ j,af.pw xs a j=af.br xs j a.toNat:=fun j=>by unfold af.pw;rw [if_pos ha]
  rw [e1,e2,h.qg i0 i1]
  unfold af.pw
  split
  ·split
   ·rw [show (-b).toNat - a.toNat=0 by omega,show (a + b).toNat=0 by omega];rfl
   ·congr 1;omega
  ·rw [if_pos (by omega)];congr 1;omega
 ·have e1:af.pw xs b i=af.br xs i b.toNat:=by unfold af.pw;rw [if_pos hb]
  have e2:∀ j,af.pw xs a j=af.br (inv xs) j (-a).toNat:=fun j=>by unfold af.pw;rw [if_neg ha]
  rw [e1,e2,h.mV i0 i1]
  unfold af.pw
  split
  ·rw [if_pos (by omega)];congr 1;omega
  ·rw [if_neg (by omega)];congr 1;omega
 ·unfold af.pw
  rw [if_neg ha,if_neg hb,if_neg (by omega),qS]
  congr 1
  omega
theorem Tn.pw_per (h:Tn n xs) (i0:0<=i) (i1:i < (n:Int)) {L:Nat} (hL:af.br xs i L=i) (q:Int):af.pw xs ((L:Int) * q) i=i:=by
 have pos:∀ m:Nat,af.pw xs ((L:Int) * (m:Int)) i=i:=fun m=>by
  unfold af.pw
  rw [if_pos (Int.mul_nonneg (by omega) (by omega)),show ((L:Int) * (m:Int)).toNat=0 + L * m by rw [<- Int.natCast_mul,Int.toNat_natCast];omega,zp hL]
  rfl
 by_cases hq:0<=q
 ·obtain ⟨m,rfl⟩:∃ m:Nat,q=(m:Int):=⟨q.toNat,by omega⟩
  exact pos m
 ·obtain ⟨m,rfl⟩:∃ m:Nat,q=-(m:Int):=⟨(-q).toNat,by omega⟩
  have:=h.pw_add i0 i1 ((L:Int) * -(m:Int)) ((L:Int) * (m:Int))
  rw [pos m] at this
  rw [this,Int.mul_neg,Int.add_left_neg]
  rfl
theorem Tn.vh (h:Tn n xs) (i0:0<=i) (i1:i < (n:Int)) {k v:Int} (o:Jz xs k i v):v=af.pw xs k i:=by
 obtain ⟨m,_,bk,rfl⟩:=o
 have m0:=Int.emod_nonneg k (show ((m + 1:Nat):Int)≠0 by omega)
 have e:af.br xs i (k % ((m + 1:Nat):Int)).toNat=af.pw xs (k % ((m + 1:Nat):Int)) i:=by unfold af.pw;rw [if_pos m0]
 rw [e]
 have e2:=h.pw_add i0 i1 (k % ((m + 1:Nat):Int)) (((m + 1:Nat):Int) * (k / ((m + 1:Nat):Int)))
 rw [h.pw_per i0 i1 bk,Int.emod_add_mul_ediv] at e2
 exact e2
end
def cF (xs:List Int) (k:Int):List Int:=(upto xs.length).map (pw xs k)
theorem zw (xs:List Int) (k:Int):(cF xs k).length=xs.length:=by simp [cF,nQ]
theorem oj {xs:List Int} {k s:Int} (s0:0<=s) (s1:s < (xs.length:Int)):app (cF xs k) s=pw xs k s:=by
 have e:=nR (xs:=cF xs k) s0 (by rw [zw];exact s1)
 unfold cF at e
 rw [List.getElem?_map,zo (by omega)] at e
 have:=Option.some.inj e
 rw [Int.toNat_of_nonneg s0] at this
 exact this.symm
theorem Tn.cF {n:Nat} {xs:List Int} (h:Tn n xs) (k:Int):Tn n (cF xs k):=by
 have hl:=h.length
 refine Tn.qf (by rw [zw];exact hl) (fun s s0 s1=>by rw [oj s0 (by omega)];exact h.pw s0 s1 k) fun s t s0 s1 t0 t1 e=>?_
 rw [oj s0 (by omega),oj t0 (by omega)] at e
 have e2:=congrArg (af.pw xs (-k)) e
 rw [h.pw_add s0 s1,h.pw_add t0 t1,Int.add_left_neg] at e2
 exact e2
def shr (xs ys:List Int) (k:Int):List Int:=aZ (cF xs (-k)) ys
theorem Tn.shr {n:Nat} {xs ys:List Int} (hx:Tn n xs) (hy:Tn n ys) (k:Int):Tn n (shr xs ys k):=(hx.cF (-k)).aZ hy
theorem Tn.ly {n:Nat} {xs ys:List Int} (hx:Tn n xs) {k s:Int} (s0:0<=s) (s1:s < (n:Int)):af.app (af.shr xs ys k) s=af.app ys (af.pw xs (-k) s):=by
 have hl:=hx.length
 unfold af.shr
 rw [nS s0 (by rw [zw,hl];exact s1),oj s0 (by rw [hl];exact s1)]
theorem Tn.rQ {n:Nat} {xs ys:List Int} (hx:Tn n xs) (hy:Tn n ys) (a b:Int):af.shr xs (af.shr xs ys a) b=af.shr xs ys (a + b):=by
 refine oJ (n:=n) (hx.shr (hx.shr hy a) b).length (hx.shr hy (a + b)).length fun s s0 s1=>?_
 obtain ⟨p0,p1⟩:=hx.pw s0 s1 (-b)
 rw [hx.ly s0 s1,hx.ly p0 p1,hx.ly s0 s1,hx.pw_add s0 s1,show -a + -b=-(a + b) by omega]
theorem Tn.qh {n:Nat} {xs ys:List Int} (hx:Tn n xs) (hy:Tn n ys):af.shr xs ys 0=ys:=by
 refine oJ (n:=n) (hx.shr hy 0).length hy.length fun s s0 s1=>?_
 rw [hx.ly s0 s1]
 rfl
end af
namespace af
def tb (l:Int->Nat) (p:Int->Int) (a b:Int):Bool:=if l a=l b\/l (p a)=l (p b) then false else (decide (l a < l b)).xor (decide (l (p a) < l (p b)))
section
variable {n:Nat} {L:List Int} {l:Int->Nat}
end
end af
namespace af
end af
namespace af
abbrev Sp:=Bool×Int
def df (s:Sp):Prop:=(s.1=false->1<=s.2/\s.2<=3)/\s.2≠0
def gM (a b:Sp):Int:=if a.1 then a.2 + b.2 else (a.2 + b.2) % 4
def cu (a b:Sp):List Sp:=if gM a b=0 then [] else [(a.1,gM a b)]
def cG:List Sp->Sp->List Sp
 | [],s=>[s]
 | t :: r,s=>if t.1=s.1 then cu t s ++ r else s :: t :: r
theorem rR (t:Sp) (r:List Sp) (s:Sp):cG (t :: r) s=if t.1=s.1 then cu t s ++ r else s :: t :: r:=rfl
def mW (w:List Sp):List Sp:=w.foldl cG []
def kY (s:Sp):Sp:=(s.1,if s.1 then -s.2 else 4 - s.2)
def jB (w:List Sp):List Sp:=(w.map kY).reverse
def Pl:List Sp->Prop
 | []=>True
 | a :: r=>df a/\(∀ b,r.head?=some b->a.1≠b.1)/\Pl r
theorem Pl.pr:∀ {l:List Sp},Pl l->∀ s∈l,df s
 | a :: r,h,s,hs=>by
  rcases List.mem_cons.mp hs with rfl | hs
  ·exact h.1
  ·exact Pl.pr h.2.2 s hs
theorem JG {a b:Sp} (ha:df a) (e:a.1=b.1):(gM a b=0/\cu a b=[])\/(df (a.1,gM a b)/\cu a b=[(a.1,gM a b)]):=by
 unfold cu
 by_cases h:gM a b=0
 ·exact .inl ⟨h,by rw [if_pos h]⟩
 ·refine .inr ⟨⟨fun hf=>?_,h⟩,by rw [if_neg h]⟩
  simp only at hf
  unfold gM at h ⊢
  simp only [hf,Bool.false_eq_true,if_false] at h ⊢
  omega
theorem Pl.push {l:List Sp} {s:Sp} (h:Pl l) (hs:df s):Pl (cG l s):=by
 cases l with
 | nil=>exact ⟨hs,fun b h=>(nomatch h),trivial⟩
 | cons t r =>
  rw [rR]
  split
  ·next e =>
   rcases JG h.1 e with ⟨_,ej⟩ | ⟨hp,ej⟩
   ·rw [ej];exact h.2.2
   ·rw [ej];exact ⟨hp,h.2.1,h.2.2⟩
  ·next e =>
   refine ⟨hs,fun b hb=>?_,h⟩
   cases hb
   exact fun e'=>e e'.symm
theorem Pl.fold {w:List Sp}:∀ {l:List Sp},Pl l->(∀ s∈w,df s)->Pl (w.foldl cG l):=by
 induction w with
 | nil=>exact fun h _=>h
 | cons s w ih=>exact fun h hw=>ih (h.push (hw s (List.mem_cons_self))) fun s' h'=>hw s' (List.mem_cons_of_mem _ h')
theorem vk {w:List Sp} (hw:∀ s∈w,df s):Pl (mW w):=Pl.fold (l:=[]) trivial hw
theorem NF {l:List Sp} {s:Sp} (h:∀ b,l.head?=some b->s.1≠b.1):cG l s=s :: l:=by
 cases l with
 | nil=>rfl
 | cons t r=>rw [rR,if_neg fun e=>h t rfl e.symm]
theorem NG (u v:List Sp):mW (u ++ v)=v.foldl cG (mW u):=by unfold mW;rw [List.foldl_append]
theorem zx {s:Sp} (h:df s):df (kY s):=by
 obtain ⟨b,k⟩:=s
 cases b with
 | true=>exact ⟨nofun,fun e=>h.2 (by have:-k=0:=e;show k=0;omega)⟩
 | false =>
  obtain ⟨h1,h2⟩:=h.1 rfl
  simp only at h1 h2
  exact ⟨fun _=>by show 1<=4 - k/\4 - k<=3;omega,by show 4 - k≠0;omega⟩
theorem NH {p:List Sp} {s:Sp} (hp:Pl p) (hs:df s):cG (cG p s) (kY s)=p:=by
 have e0:cu s (kY s)=[]:=by
  unfold cu gM kY
  cases hb:s.1 <;> simp <;> omega
 cases p with
 | nil =>
  show (if s.1=(kY s).1 then cu s (kY s) ++ [] else _)=_
  rw [if_pos (show s.1=(kY s).1 from rfl),e0];rfl
 | cons t r =>
  by_cases e:t.1=s.1
  ·have e1:cG (t :: r) s=cu t s ++ r:=by rw [rR,if_pos e]
   rw [e1]
   obtain ⟨tb,tk⟩:=t
   obtain ⟨sb,sk⟩:=s
   simp only at e
   subst e
   have ht:=hp.1
   rcases JG (b:=(tb,sk)) hp.1 rfl with ⟨h0,ej⟩ | ⟨CM,ej⟩
   ·rw [ej,List.nil_append]
    have eb:kY (tb,sk)=(tb,tk):=by
     unfold kY
     unfold gM at h0
     cases tb with
     | true=>simp only [if_true] at h0 ⊢;congr 1;omega
     | false =>
      have h1:=ht.1 rfl
      have h2:=hs.1 rfl
      simp only [Bool.false_eq_true,if_false] at h0 h1 h2 ⊢
      congr 1;omega
    rw [eb]
    exact NF hp.2.1
   ·rw [ej]
    show (if tb=(kY (tb,sk)).1 then cu (tb,gM (tb,tk) (tb,sk)) (kY (tb,sk)) ++ r else _)=_
    rw [if_pos (show tb=(kY (tb,sk)).1 from rfl)]
    have eb:gM (tb,gM (tb,tk) (tb,sk)) (kY (tb,sk))=tk:=by
     unfold gM kY
     cases tb with
     | true=>simp only [if_true];omega
     | false =>
      have h1:=ht.1 rfl
      have h2:=hs.1 rfl
      simp only [Bool.false_eq_true,if_false] at h1 h2 ⊢
      omega
    unfold cu
    rw [eb,if_neg ht.2]
    rfl
  ·have e1:cG (t :: r) s=s :: t :: r:=by rw [rR,if_neg e]
   rw [e1]
   show (if s.1=(kY s).1 then cu s (kY s) ++ (t :: r) else _)=_
   rw [if_pos (show s.1=(kY s).1 from rfl),e0];rfl
theorem NI {w:List Sp}:∀ {p:List Sp},Pl p->(∀ s∈w,df s)->(w ++ jB w).foldl cG p=p:=by
 induction w with
 | nil=>exact fun _ _=>rfl
 | cons s w ih =>
  intro p hp hw
  have e:(s :: w) ++ jB (s :: w)=s :: ((w ++ jB w) ++ [kY s]):=by unfold jB;simp
  rw [e]
  show ((w ++ jB w) ++ [kY s]).foldl cG (cG p s)=p
  have hs:=hw s (List.mem_cons_self)
  rw [List.foldl_append,ih (hp.push hs) fun s' h'=>hw s' (List.mem_cons_of_mem _ h')]
  exact NH hp hs
theorem NJ {w:List Sp} (hw:∀ s∈w,df s):mW (w ++ jB w)=[]:=NI (p:=[]) trivial hw
theorem NK {l:List Sp} {s:Sp} {M B:Nat} (h:∀ x∈l,x.2.natAbs<=M) (hs:s.2.natAbs<=B) (hp:df s) (hl:Pl l):∀ x∈cG l s,x.2.natAbs<=M + B:=by
 intro x hx
 cases l with
 | nil=>rcases List.mem_singleton.mp hx with rfl;omega
 | cons t r =>
  rw [rR] at hx
  have ht:=h t (List.mem_cons_self)
  split at hx
  ·next e0 =>
   rcases List.mem_append.mp hx with hx | hx
   ·unfold cu at hx
    split at hx
    ·exact (nomatch hx)
    ·rcases List.mem_singleton.mp hx with rfl
     show (gM t s).natAbs<=_
     unfold gM
     split
     ·omega
     ·next hb =>
      have:=hl.1.1 (by simpa using hb)
      have h2:=hp.1 (by rw [<- e0];simpa using hb)
      omega
   ·have:=h x (List.mem_cons_of_mem _ hx);omega
  ·rcases List.mem_cons.mp hx with rfl | hx
   ·omega
   ·have:=h x hx;omega
theorem NL {B:Nat} {w:List Sp}:∀ {l:List Sp} {M:Nat},(∀ x∈l,x.2.natAbs<=M)->Pl l->(∀ s∈w,df s/\s.2.natAbs<=B)->∀ x∈w.foldl cG l,x.2.natAbs<=M + w.length * B:=by
 induction w with
 | nil=>intro l M h _ _ x hx;have:=h x hx;omega
 | cons s w ih =>
  intro l M h hl hw x hx
  have hs:=hw s (List.mem_cons_self)
  have:=ih (NK h hs.2 hs.1 hl) (hl.push hs.1) (fun s' h'=>hw s' (List.mem_cons_of_mem _ h')) x hx
  rw [List.length_cons,Nat.succ_mul]
  omega
theorem vm {B:Nat} {w:List Sp} (hw:∀ s∈w,df s/\s.2.natAbs<=B):∀ x∈mW w,x.2.natAbs<=w.length * B:=fun x hx=>by
 have:=NL (l:=[]) (M:=0) nofun trivial hw x hx
 omega
theorem NM (l:List Sp) (s:Sp):(cG l s).length<=l.length + 1:=by
 cases l with
 | nil=>exact Nat.le_refl _
 | cons t r =>
  rw [rR]
  split
  ·unfold cu;split <;> simp <;> omega
  ·simp
theorem NN {w:List Sp}:∀ {l:List Sp},(w.foldl cG l).length<=l.length + w.length:=by
 induction w with
 | nil=>exact Nat.le_refl _
 | cons s w ih =>
  intro l
  have:=ih (l:=cG l s)
  have h2:=NM l s
  rw [List.length_cons]
  exact Nat.le_trans this (by omega)
theorem JH (w:List Sp):(mW w).length<=w.length:=by have:=NN (w:=w) (l:=[]);simpa [mW] using this
structure T4 where (a b c d:Int)
def T4.one:T4:=⟨1,0,0,1⟩
def T4.qt:T4:=⟨0,-1,1,0⟩
def T4.mul (x y:T4):T4:=⟨x.a * y.a + x.b * y.c,x.a * y.b + x.b * y.d,x.c * y.a + x.d * y.c,x.c * y.b + x.d * y.d⟩
def T4.qT (x:T4):T4:=⟨x.d,-x.b,-x.c,x.a⟩
theorem T4.ext' {x y:T4} (h1:x.a=y.a) (h2:x.b=y.b) (h3:x.c=y.c) (h4:x.d=y.d):x=y:=by cases x;cases y;simp only at h1 h2 h3 h4;subst h1 h2 h3 h4;rfl
theorem T4.assoc (x y z:T4):(x.mul y).mul z=x.mul (y.mul z):=by
 apply T4.ext' <;> simp only [T4.mul,Int.add_mul,Int.mul_add,Int.mul_assoc] <;> omega
theorem T4.one_mul (x:T4):T4.one.mul x=x:=by apply T4.ext' <;> simp [T4.mul,T4.one]
theorem T4.mul_one (x:T4):x.mul T4.one=x:=by apply T4.ext' <;> simp [T4.mul,T4.one]
theorem T4.rS (x y:T4):(x.mul y).qT=y.qT.mul x.qT:=by
 apply T4.ext' <;> simp only [T4.mul,T4.qT,Int.neg_mul,Int.mul_neg,Int.neg_neg,Int.mul_comm] <;> omega
def qp:Nat->T4
 | 0=>T4.one
 | n + 1=>T4.qt.mul (qp n)
def iL (s:Sp):T4:=if s.1 then ⟨1,s.2,0,1⟩ else qp s.2.toNat
def lj (T:T4) (w:List Sp):T4:=w.foldl (fun T s=>(iL s).mul T) T
def aH (w:List Sp):T4:=lj T4.one w
theorem NP (w:List Sp):∀ T:T4,lj T w=(aH w).mul T:=by
 induction w with
 | nil=>exact fun T=>(T4.one_mul T).symm
 | cons s w ih =>
  intro T
  show lj ((iL s).mul T) w=(lj ((iL s).mul T4.one) w).mul T
  rw [ih,ih,T4.mul_one,T4.assoc]
theorem pz (u v:List Sp):aH (u ++ v)=(aH v).mul (aH u):=by
 show lj T4.one (u ++ v)=_
 unfold lj
 rw [List.foldl_append]
 exact NP v _
theorem tD (u:List Sp) (s:Sp):aH (u ++ [s])=(iL s).mul (aH u):=by
 show lj T4.one (u ++ [s])=_
 unfold lj
 rw [List.foldl_append];rfl
theorem t3 {k:Int} (h:1<=k/\k<=3):k=1\/k=2\/k=3:=by omega
theorem NQ {t s:Sp} (ht:df t) (hs:df s) (e:t.1=s.1):aH (cu t s)=(iL s).mul (iL t):=by
 obtain ⟨tb,tk⟩:=t
 obtain ⟨sb,sk⟩:=s
 simp only at e
 subst e
 cases tb with
 | true =>
  have e2:(iL (true,sk)).mul (iL (true,tk))=⟨1,tk + sk,0,1⟩:=by apply T4.ext' <;> simp [T4.mul,iL] <;> omega
  rw [e2]
  unfold cu gM
  simp only [if_true]
  split
  ·next h=>rw [h];rfl
  ·rw [show aH [(true,tk + sk)]=(iL (true,tk + sk)).mul T4.one from rfl,T4.mul_one];rfl
 | false =>
  have h1:=ht.1 rfl
  have h2:=hs.1 rfl
  simp only at h1 h2
  rcases t3 h1 with rfl | rfl | rfl <;> rcases t3 h2 with rfl | rfl | rfl <;> rfl
theorem NR {l:List Sp} {s:Sp} (hl:Pl l) (hs:df s):aH (cG l s).reverse=(iL s).mul (aH l.reverse):=by
 cases l with
 | nil=>exact tD [] s
 | cons t r =>
  rw [rR]
  split
  ·next e =>
   rw [List.reverse_append,pz,List.reverse_cons,tD,<- T4.assoc]
   congr 1
   rw [<- NQ hl.1 hs e]
   unfold cu
   split <;> rfl
  ·rw [List.reverse_cons,tD]
theorem NS {w:List Sp}:∀ {l:List Sp},Pl l->(∀ s∈w,df s)->aH (w.foldl cG l).reverse=lj (aH l.reverse) w:=by
 induction w with
 | nil=>exact fun _ _=>rfl
 | cons s w ih =>
  intro l hl hw
  have hs:=hw s (List.mem_cons_self)
  show aH (w.foldl cG (cG l s)).reverse=lj ((iL s).mul (aH l.reverse)) w
  rw [ih (hl.push hs) fun s' h'=>hw s' (List.mem_cons_of_mem _ h'),NR hl hs]
theorem JI {w:List Sp} (hw:∀ s∈w,df s):aH (mW w).reverse=aH w:=NS (l:=[]) trivial hw
theorem vn {s:Sp} (h:df s):iL (kY s)=(iL s).qT:=by
 obtain ⟨b,k⟩:=s
 cases b with
 | true=>apply T4.ext' <;> simp [T4.qT,iL,kY]
 | false =>
  have h1:=h.1 rfl
  simp only at h1
  rcases t3 h1 with rfl | rfl | rfl <;> rfl
theorem FR {w:List Sp} (hw:∀ s∈w,df s):aH (jB w)=(aH w).qT:=by
 induction w with
 | nil=>rfl
 | cons s w ih =>
  have e:jB (s :: w)=jB w ++ [kY s]:=by unfold jB;simp
  have e2:aH (s :: w)=(aH w).mul (iL s):=by
   rw [show s :: w=[s] ++ w from rfl,pz]
   congr 1
   exact (tD [] s).trans (T4.mul_one _)
  rw [e,tD,ih fun s' h'=>hw s' (List.mem_cons_of_mem _ h'),vn (hw s (List.mem_cons_self)),e2,T4.rS]
def T4.le (x:T4) (M:Nat):Prop:=x.a.natAbs<=M/\x.b.natAbs<=M/\x.c.natAbs<=M/\x.d.natAbs<=M
theorem JJ {a c k:Int} {M B:Nat} (ha:a.natAbs<=M) (hc:c.natAbs<=M) (hk:k.natAbs<=B):(a + k * c).natAbs<=(B + 1) * M:=by
 have h1:(k * c).natAbs<=B * M:=by rw [Int.natAbs_mul];exact Nat.mul_le_mul hk hc
 rw [Nat.succ_mul]
 omega
theorem tG {T:T4} {s:Sp} {M B:Nat} (h:T.le M) (hp:df s) (hs:s.2.natAbs<=B):((iL s).mul T).le ((B + 1) * M):=by
 obtain ⟨b,k⟩:=s
 obtain ⟨ha,hb,hc,hd⟩:=h
 have hM:M<=(B + 1) * M:=by rw [Nat.succ_mul];omega
 cases b with
 | true =>
  refine ⟨?_,?_,?_,?_⟩ <;> simp only [T4.mul,iL,if_true,Int.one_mul,Int.zero_mul,Int.zero_add]
  ·exact JJ ha hc hs
  ·exact JJ hb hd hs
  ·omega
  ·omega
 | false =>
  have h1:=hp.1 rfl
  simp only at h1
  rcases t3 h1 with rfl | rfl | rfl <;> refine ⟨?_,?_,?_,?_⟩ <;> simp [T4.mul,iL,qp,T4.qt,T4.one] <;> omega
theorem vo {B:Nat} {w:List Sp}:∀ {T:T4} {M:Nat},T.le M->(∀ s∈w,df s/\s.2.natAbs<=B)->(lj T w).le ((B + 1) ^ w.length * M):=by
 induction w with
 | nil=>intro T M h _;simpa [lj] using h
 | cons s w ih =>
  intro T M h hw
  have hs:=hw s (List.mem_cons_self)
  have:=ih (tG h hs.1 hs.2) fun s' h'=>hw s' (List.mem_cons_of_mem _ h')
  rw [List.length_cons,Nat.pow_succ,Nat.mul_assoc]
  exact this
theorem JK {B n:Nat} {w:List Sp} (hw:∀ s∈w,df s/\s.2.natAbs<=B) (hn:w.length<=n):(aH w).le ((B + 1) ^ n):=by
 have h:=vo (T:=T4.one) (M:=1) ⟨by decide,by decide,by decide,by decide⟩ hw
 have h2:(B + 1) ^ w.length * 1<=(B + 1) ^ n:=by rw [Nat.mul_one];exact Nat.pow_le_pow_right (by omega) hn
 exact ⟨Nat.le_trans h.1 h2,Nat.le_trans h.2.1 h2,Nat.le_trans h.2.2.1 h2,Nat.le_trans h.2.2.2 h2⟩
end af
namespace af
def n4:List Int->List Int->Bool
 | [],[]=>false
 | [],_ :: _=>true
 | _ :: _,[]=>false
 | x :: xs,y :: ys=>if x=y then n4 xs ys else decide (x < y)
theorem CV:∀ xs:List Int,n4 xs xs=false
 | []=>rfl
 | x :: xs=>by unfold n4;rw [if_pos rfl];exact CV xs
theorem FT:∀ {xs ys zs:List Int},n4 xs ys=true->n4 ys zs=true->n4 xs zs=true
 | [],[],_,h,_=>by cases h
 | [],_ :: _,[],_,h=>by cases h
 | [],_ :: _,_ :: _,_,_=>rfl
 | _ :: _,[],_,h,_=>by cases h
 | _ :: _,_ :: _,[],_,h=>by cases h
 | x :: xs,y :: ys,z :: zs,h1,h2=>by
  unfold n4 at h1 h2 ⊢
  by_cases a:x=y
  ·rw [if_pos a] at h1
   by_cases b:y=z
   ·rw [if_pos b] at h2
    rw [if_pos (a.trans b)];exact FT h1 h2
   ·rw [if_neg b] at h2
    rw [if_neg (fun e=>b (a.symm.trans e))]
    rw [a];exact h2
  ·rw [if_neg a] at h1
   have h1:=of_decide_eq_true h1
   by_cases b:y=z
   ·rw [<- b,if_neg a];exact decide_eq_true h1
   ·rw [if_neg b] at h2
    have h2:=of_decide_eq_true h2
    rw [if_neg (by omega)];exact decide_eq_true (by omega)
theorem FU:∀ {xs ys:List Int},n4 xs ys=false->n4 ys xs=false->xs=ys
 | [],[],_,_=>rfl
 | [],_ :: _,h,_=>by cases h
 | _ :: _,[],_,h=>by cases h
 | x :: xs,y :: ys,h1,h2=>by
  unfold n4 at h1 h2
  by_cases a:x=y
  ·subst a
   rw [if_pos rfl] at h1 h2
   rw [FU h1 h2]
  ·rw [if_neg a] at h1
   rw [if_neg (Ne.symm a)] at h2
   have h1:=of_decide_eq_false h1
   have h2:=of_decide_eq_false h2
   omega
abbrev cz:=List Int×List Int
def lO (p q:cz):Bool:=if p.1=q.1 then n4 p.2 q.2 else n4 p.1 q.1
theorem JL (p:cz):lO p p=false:=by unfold lO;rw [if_pos rfl];exact CV _
theorem NT {p q r:cz} (h1:lO p q=true) (h2:lO q r=true):lO p r=true:=by
 unfold lO at h1 h2 ⊢
 by_cases a:p.1=q.1
 ·rw [if_pos a] at h1
  by_cases b:q.1=r.1
  ·rw [if_pos b] at h2
   rw [if_pos (a.trans b)];exact FT h1 h2
  ·rw [if_neg b] at h2
   rw [if_neg (fun e=>b (a.symm.trans e)),a];exact h2
 ·rw [if_neg a] at h1
  by_cases b:q.1=r.1
  ·rw [<- b,if_neg a];exact h1
  ·rw [if_neg b] at h2
   have h:=FT h1 h2
   rw [if_neg (fun e=>by rw [e,CV] at h;cases h)];exact h
theorem NU {p q:cz} (h1:lO p q=false) (h2:lO q p=false):p=q:=by
 unfold lO at h1 h2
 by_cases a:p.1=q.1
 ·rw [if_pos a] at h1
  rw [if_pos a.symm] at h2
  exact Prod.ext a (FU h1 h2)
 ·rw [if_neg a] at h1
  rw [if_neg (Ne.symm a)] at h2
  exact absurd (FU h1 h2) a
def lP:List cz->cz
 | []=>([],[])
 | p :: l=>l.foldl (fun b q=>if lO q b then q else b) p
def Lst (l:List cz) (p:cz):Prop:=p∈l/\∀ q∈l,lO q p=false
theorem Lst.unique {l m:List cz} {p q:cz} (a:Lst l p) (b:Lst m q) (h:∀ x,x∈l↔x∈m):p=q:=NU (b.2 p ((h p).mp a.1)) (a.2 q ((h q).mpr b.1))
theorem Lst.step {l:List cz} {b q:cz} (h:Lst l b):Lst (l ++ [q]) (if lO q b then q else b):=by
 split
 ·next hq =>
  refine ⟨List.mem_append_right _ (List.mem_singleton_self _),fun x hx=>?_⟩
  rcases List.mem_append.mp hx with hx | hx
  ·cases NV:lO x q with
   | false=>rfl
   | true=>have:=NT NV hq;rw [h.2 x hx] at this;cases this
  ·rw [List.mem_singleton.mp hx];exact JL q
 ·next hq =>
  refine ⟨List.mem_append_left _ h.1,fun x hx=>?_⟩
  rcases List.mem_append.mp hx with hx | hx
  ·exact h.2 x hx
  ·rw [List.mem_singleton.mp hx];simpa using hq
theorem Lst.fold:∀ (l pre:List cz) (b:cz),Lst pre b->Lst (pre ++ l) (l.foldl (fun b q=>if lO q b then q else b) b)
 | [],pre,b,h=>by rw [List.append_nil];exact h
 | q :: l,pre,b,h=>by
  have:=Lst.fold l (pre ++ [q]) _ (h.step (q:=q))
  rw [List.append_assoc] at this
  exact this
theorem FV {l:List cz} (h:l≠[]):Lst l (lP l):=by
 cases l with
 | nil=>exact absurd rfl h
 | cons p l=>exact Lst.fold l [p] p ⟨List.mem_singleton_self _,fun q hq=>by rw [List.mem_singleton.mp hq];exact JL p⟩
theorem NW {l m:List cz} (h:∀ x,x∈l↔x∈m) (hl:l≠[]):lP l=lP m:=by
 have hm:m≠[]:=fun e=>by
  obtain ⟨x,hx⟩:=List.exists_mem_of_ne_nil l hl
  have:=(h x).mp hx
  rw [e] at this
  cases this
 exact (FV hl).unique (FV hm) h
end af
namespace af
theorem tH (n:Nat):Tn n (upto n):=List.Perm.refl _
theorem CW {n:Nat} {s:Int} (s0:0<=s) (s1:s < (n:Int)):app (upto n) s=s:=by
 unfold app
 rw [List.getD_eq_getElem?_getD,zo (by omega),Option.getD_some];omega
section
variable {n:Nat} {a b c g x y:List Int}
theorem oM (ha:Tn n a) (hb:Tn n b) (hc:Tn n c):aZ (aZ a b) c=aZ a (aZ b c):=by
 refine oJ (n:=n) ((ha.aZ hb).aZ hc).length (ha.aZ (hb.aZ hc)).length fun s s0 s1=>?_
 obtain ⟨p0,p1⟩:=ha.app s0 s1
 rw [nS s0 (by rw [(ha.aZ hb).length];exact s1),nS s0 (by rw [ha.length];exact s1),nS s0 (by rw [ha.length];exact s1),nS p0 (by rw [hb.length];exact p1)]
theorem zy (ha:Tn n a):aZ a (inv a)=upto n:=Nq ha
theorem FW (ha:Tn n a):aZ (inv a) a=upto n:=Nr ha
theorem vp (ha:Tn n a):aZ a (upto n)=a:=by
 refine oJ (n:=n) (ha.aZ (tH n)).length ha.length fun s s0 s1=>?_
 obtain ⟨p0,p1⟩:=ha.app s0 s1
 rw [nS s0 (by rw [ha.length];exact s1),CW p0 p1]
theorem CY (ha:Tn n a):aZ (upto n) a=a:=by
 refine oJ (n:=n) ((tH n).aZ ha).length ha.length fun s s0 s1=>?_
 rw [nS s0 (by rw [(tH n).length];exact s1),CW s0 s1]
theorem CZ (ha:Tn n a) (hb:Tn n b) (h:aZ a b=upto n):inv a=b:=by
 have e:aZ (inv a) (aZ a b)=b:=by rw [<- oM ha.aw ha hb,FW ha,CY hb]
 rw [h,vp ha.aw] at e
 exact e
theorem tI (ha:Tn n a) (hb:Tn n b):inv (aZ a b)=aZ (inv b) (inv a):=by
 refine CZ (ha.aZ hb) (hb.aw.aZ ha.aw) ?_
 rw [oM ha hb (hb.aw.aZ ha.aw),<- oM hb hb.aw ha.aw,zy hb,CY ha.aw,zy ha]
theorem JM (ha:Tn n a) (hb:Tn n b):aZ (aZ a b) (inv b)=a:=by rw [oM ha hb hb.aw,zy hb,vp ha]
theorem FX (ha:Tn n a) (hb:Tn n b):aZ (aZ a (inv b)) b=a:=by rw [oM ha hb.aw hb,FW hb,vp ha]
theorem NX (ha:Tn n a) (hb:Tn n b):aZ a (aZ (inv a) b)=b:=by rw [<- oM ha ha.aw hb,zy ha,CY hb]
theorem zz (hx:Tn n x) (i j:Int):aZ (cF x i) (cF x j)=cF x (i + j):=by
 refine oJ (n:=n) ((hx.cF i).aZ (hx.cF j)).length (hx.cF (i + j)).length fun s s0 s1=>?_
 obtain ⟨p0,p1⟩:=hx.pw s0 s1 i
 have hl:=hx.length
 rw [nS s0 (by rw [zw,hl];exact s1),oj s0 (by rw [hl];exact s1),oj p0 (by rw [hl];exact p1),oj s0 (by rw [hl];exact s1),hx.pw_add s0 s1,Int.add_comm j i]
theorem FY (hx:Tn n x):cF x 0=upto n:=by
 refine oJ (n:=n) (hx.cF 0).length (tH n).length fun s s0 s1=>?_
 rw [oj s0 (by rw [hx.length];exact s1),CW s0 s1];rfl
theorem zA (hx:Tn n x):cF x 1=x:=by
 refine oJ (n:=n) (hx.cF 1).length hx.length fun s s0 s1=>?_
 rw [oj s0 (by rw [hx.length];exact s1)];rfl
theorem FZ (hx:Tn n x) (k:Int):inv (cF x k)=cF x (-k):=CZ (hx.cF k) (hx.cF (-k)) (by rw [zz hx,Int.add_right_neg,FY hx])
theorem F0 (hx:Tn n x):cF x (-1)=inv x:=by rw [<- FZ hx,zA hx]
theorem JN (hx:Tn n x) (k:Int):cF (inv x) k=cF x (-k):=by
 refine oJ (n:=n) (hx.aw.cF k).length (hx.cF (-k)).length fun s s0 s1=>?_
 rw [oj s0 (by rw [hx.aw.length];exact s1),oj s0 (by rw [hx.length];exact s1)]
 unfold pw
 by_cases h:0<=k
 ·rw [if_pos h]
  by_cases h0:k=0
  ·subst h0;rfl
  ·rw [if_neg (by omega),show -(-k)=k by omega]
 ·rw [if_neg h,if_pos (by omega),hx.inv_inv]
theorem JO (ha:Tn n a) (hb:Tn n b) (hg:Tn n g):aZ (anew a g) (anew b g)=anew (aZ a b) g:=by
 unfold anew
 have hi:=hg.aw
 rw [oM (hi.aZ ha) hg ((hi.aZ hb).aZ hg),oM hi hb hg,NX hg (hb.aZ hg),oM hi ha (hb.aZ hg),<- oM ha hb hg,<- oM hi (ha.aZ hb) hg]
theorem NY (hg:Tn n g):anew (upto n) g=upto n:=by unfold anew;rw [vp hg.aw,FW hg]
theorem JP (ha:Tn n a) (hg:Tn n g):inv (anew a g)=anew (inv a) g:=CZ (ha.anew hg) (ha.aw.anew hg) (by rw [JO ha ha.aw hg,zy ha,NY hg])
theorem F3 (hx:Tn n x) (hg:Tn n g) {i:Int} (i0:0<=i) (i1:i < (n:Int)):∀ k,br (anew x g) (app g i) k=app g (br x i k)
 | 0=>rfl
 | k + 1=>by
  obtain ⟨p0,p1⟩:=hx.br i0 i1 k
  show app (anew x g) (br (anew x g) (app g i) k)=app g (app x (br x i k))
  rw [F3 hx hg i0 i1 k,hx.kc hg p0 p1]
theorem NZ (hx:Tn n x) (hg:Tn n g) {i:Int} (i0:0<=i) (i1:i < (n:Int)) (k:Int):pw (anew x g) k (app g i)=app g (pw x k i):=by
 unfold pw
 split
 ·exact F3 hx hg i0 i1 _
 ·rw [JP hx hg];exact F3 hx.aw hg i0 i1 _
theorem N0 (hx:Tn n x) (hg:Tn n g) (k:Int):cF (anew x g) k=anew (cF x k) g:=by
 refine oJ (n:=n) ((hx.anew hg).cF k).length ((hx.cF k).anew hg).length fun s s0 s1=>?_
 obtain ⟨p0,p1⟩:=hg.lh s0 s1
 rw [oj s0 (by rw [(hx.anew hg).length];exact s1),(hx.cF k).gy hg s0 s1,oj p0 (by rw [hx.length];exact p1),<- NZ hx hg p0 p1,hg.cI s0 s1]
end
def Vf (n:Nat) (p:cz):Prop:=Tn n p.1/\Tn n p.2
def bN (n:Nat) (p q:cz):Prop:=∃ g,Tn n g/\q=(anew p.1 g,anew p.2 g)
def Sh (k:Int) (p:cz):cz:=(p.1,shr p.1 p.2 k)
def Qt (p:cz):cz:=(inv p.2,p.1)
section
variable {n:Nat} {p q r:cz}
theorem Vf.sh (h:Vf n p) (k:Int):Vf n (Sh k p):=⟨h.1,h.1.shr h.2 k⟩
theorem Vf.qt (h:Vf n p):Vf n (Qt p):=⟨h.2.aw,h.1⟩
theorem bN.refl (h:Vf n p):bN n p p:=⟨upto n,tH n,by
 have e:∀ a:List Int,Tn n a->anew a (upto n)=a:=fun a ha=>by
  unfold anew
  rw [CZ (tH n) (tH n) (vp (tH n)),CY ha,vp ha]
 rw [e _ h.1,e _ h.2]⟩
theorem bN.symm (h:Vf n p) (a:bN n p q):bN n q p:=by
 obtain ⟨g,hg,rfl⟩:=a
 exact ⟨inv g,hg.aw,by show p=(anew (anew p.1 g) (inv g),anew (anew p.2 g) (inv g));rw [h.1.mE hg,h.2.mE hg]⟩
theorem bN.trans (h:Vf n p) (a:bN n p q) (b:bN n q r):bN n p r:=by
 obtain ⟨g,hg,rfl⟩:=a
 obtain ⟨f,hf,rfl⟩:=b
 exact ⟨aZ g f,hg.aZ hf,by show (anew (anew p.1 g) f,anew (anew p.2 g) f)=_;rw [h.1.mD hg hf,h.2.mD hg hf]⟩
theorem bN.sh (h:Vf n p) (a:bN n p q) (k:Int):bN n (Sh k p) (Sh k q):=by
 obtain ⟨g,hg,rfl⟩:=a
 refine ⟨g,hg,?_⟩
 show (anew p.1 g,aZ (cF (anew p.1 g) (-k)) (anew p.2 g))=(anew p.1 g,anew (aZ (cF p.1 (-k)) p.2) g)
 rw [N0 h.1 hg,JO (h.1.cF _) h.2 hg]
theorem bN.qt (h:Vf n p) (a:bN n p q):bN n (Qt p) (Qt q):=by
 obtain ⟨g,hg,rfl⟩:=a
 refine ⟨g,hg,?_⟩
 show (inv (anew p.2 g),anew p.1 g)=(anew (inv p.2) g,anew p.1 g)
 rw [JP h.2 hg]
theorem zB (h:Vf n p) (j k:Int):Sh k (Sh j p)=Sh (j + k) p:=by
 show (p.1,shr p.1 (shr p.1 p.2 j) k)=(p.1,shr p.1 p.2 (j + k))
 rw [h.1.rQ h.2]
theorem rT (h:Vf n p):Sh 0 p=p:=by
 show (p.1,shr p.1 p.2 0)=p
 rw [h.1.qh h.2]
def Q2 (p:cz):cz:=(inv p.1,inv p.2)
theorem zC (p:cz):Qt (Qt p)=Q2 p:=rfl
theorem zD (h:Vf n p):Q2 (Q2 p)=p:=by
 show (inv (inv p.1),inv (inv p.2))=p
 rw [h.1.inv_inv,h.2.inv_inv]
theorem Vf.q2 (h:Vf n p):Vf n (Q2 p):=⟨h.1.aw,h.2.aw⟩
theorem bN.q2 (h:Vf n p) (a:bN n p q):bN n (Q2 p) (Q2 q):=bN.qt h.qt (bN.qt h a)
theorem tJ (h:Vf n p) (k:Int):bN n (Q2 (Sh k p)) (Sh k (Q2 p)):=by
 have hx:=h.1
 have hy:=h.2
 refine ⟨cF p.1 (-k),hx.cF _,?_⟩
 show (inv p.1,aZ (cF (inv p.1) (-k)) (inv p.2))=(anew (inv p.1) (cF p.1 (-k)),anew (inv (aZ (cF p.1 (-k)) p.2)) (cF p.1 (-k)))
 have e1:anew (inv p.1) (cF p.1 (-k))=inv p.1:=by
  unfold anew
  rw [FZ hx,<- F0 hx,zz hx,zz hx]
  congr 1;omega
 have e2:anew (inv (aZ (cF p.1 (-k)) p.2)) (cF p.1 (-k))=aZ (cF (inv p.1) (-k)) (inv p.2):=by
  unfold anew
  rw [tI (hx.cF _) hy,JN hx,FZ hx,oM (hx.cF _) (hy.aw.aZ (hx.cF _)) (hx.cF _),oM hy.aw (hx.cF _) (hx.cF _),zz hx,show - -k + -k=0 by omega,FY hx,vp hy.aw]
 rw [e1,e2]
theorem zE (h:Vf n p):bN n (Qt (Sh 1 (Qt p))) (Sh (-1) (Qt (Sh (-1) p))):=by
 have hx:=h.1
 have hy:=h.2
 have l:Qt (Sh 1 (Qt p))=(aZ (inv p.1) (inv p.2),inv p.2):=by
  show (inv (aZ (cF (inv p.2) (-1)) p.1),inv p.2)=_
  rw [JN hy,show -(-1:Int)=1 by omega,zA hy,tI hy hx]
 have r:Sh (-1) (Qt (Sh (-1) p))=(aZ (inv p.2) (inv p.1),inv p.2):=by
  show (inv (aZ (cF p.1 (-(-1))) p.2),aZ (cF (inv (aZ (cF p.1 (-(-1))) p.2)) (-(-1))) p.1)=_
  have hf:=hx.aZ hy
  rw [show -(-1:Int)=1 by omega,zA hx,zA hf.aw,tI hx hy,FX hy.aw hx]
 refine ⟨p.2,hy,?_⟩
 rw [l,r]
 show (aZ (inv p.2) (inv p.1),inv p.2)=(aZ (aZ (inv p.2) (aZ (inv p.1) (inv p.2))) p.2,aZ (aZ (inv p.2) (inv p.2)) p.2)
 rw [<- oM hy.aw hx.aw hy.aw,FX (hy.aw.aZ hx.aw) hy,FX hy.aw hy]
theorem vq (h:Vf n p):bN n (Qt (Sh (-1) (Qt p))) (Q2 (Sh 1 (Qt (Sh 1 p)))):=by
 have hx:=h.1
 have hy:=h.2
 have hu:=hx.aw.aZ hy
 have l:Qt (Sh (-1) (Qt p))=(aZ (inv p.1) p.2,inv p.2):=by
  show (inv (aZ (cF (inv p.2) (-(-1))) p.1),inv p.2)=_
  rw [show -(-1:Int)=1 by omega,zA hy.aw,tI hy.aw hx,hy.inv_inv]
 have r:Q2 (Sh 1 (Qt (Sh 1 p)))=(aZ (inv p.1) p.2,aZ (inv p.1) (aZ (inv p.2) p.1)):=by
  show (inv (inv (aZ (cF p.1 (-1)) p.2)),inv (aZ (cF (inv (aZ (cF p.1 (-1)) p.2)) (-1)) p.1))=_
  rw [F0 hx,F0 hu.aw,hu.inv_inv,tI hu hx,tI hx.aw hy,hx.inv_inv]
 refine ⟨aZ (inv p.2) p.1,hy.aw.aZ hx,?_⟩
 rw [l,r]
 show (aZ (inv p.1) p.2,aZ (inv p.1) (aZ (inv p.2) p.1))=(aZ (aZ (inv (aZ (inv p.2) p.1)) (aZ (inv p.1) p.2)) (aZ (inv p.2) p.1),aZ (aZ (inv (aZ (inv p.2) p.1)) (inv p.2)) (aZ (inv p.2) p.1))
 have eg:inv (aZ (inv p.2) p.1)=aZ (inv p.1) p.2:=by rw [tI hy.aw hx,hy.inv_inv]
 have N1:aZ (inv p.2) p.1=inv (aZ (inv p.1) p.2):=by rw [tI hx.aw hy,hx.inv_inv]
 rw [eg]
 have e1:aZ (aZ (aZ (inv p.1) p.2) (aZ (inv p.1) p.2)) (aZ (inv p.2) p.1)=aZ (inv p.1) p.2:=by rw [N1,JM hu hu]
 have e2:aZ (aZ (aZ (inv p.1) p.2) (inv p.2)) (aZ (inv p.2) p.1)=aZ (inv p.1) (aZ (inv p.2) p.1):=by rw [JM hx.aw hy]
 rw [e1,e2]
end
def act:Int->List Int->cz->cz
 | k,[],p=>Sh k p
 | k,j :: ks,p=>act j ks (Qt (Sh k p))
def tS (k:Int):T4:=⟨1,k,0,1⟩
def gH (k:Int):T4:=⟨0,-1,1,k⟩
def gA:Int->List Int->T4
 | k,[]=>tS k
 | k,j :: ks=>(gA j ks).mul (gH k)
def jC (e:Bool) (M:T4):T4:=if e then ⟨-M.a,-M.b,-M.c,-M.d⟩ else M
def nF (e:Bool) (p:cz):cz:=if e then Q2 p else p
theorem zF (e f:Bool) (M:T4):jC e (jC f M)=jC (e.xor f) M:=by
 cases e <;> cases f <;> simp [jC]
theorem zG (e:Bool) (M N:T4):(jC e M).mul N=jC e (M.mul N):=by
 cases e
 ·rfl
 ·unfold jC T4.mul;simp only [if_true];congr 1 <;> grind
section
variable {n:Nat} {p q r:cz}
theorem Vf.act:∀ {ks:List Int} {k:Int} {p:cz},Vf n p->Vf n (af.act k ks p)
 | [],k,p,h=>h.sh k
 | j :: ks,k,p,h=>Vf.act (ks:=ks) (h.sh k).qt
theorem bN.act:∀ {ks:List Int} {k:Int} {p q:cz},Vf n p->bN n p q->bN n (af.act k ks p) (af.act k ks q)
 | [],k,p,q,h,a=>bN.sh h a k
 | j :: ks,k,p,q,h,a=>bN.act (ks:=ks) (h.sh k).qt (bN.qt (h.sh k) (bN.sh h a k))
theorem bN.nF (h:Vf n p) (a:bN n p q) (e:Bool):bN n (af.nF e p) (af.nF e q):=by cases e;exact a;exact bN.q2 h a
theorem C0 (h:Vf n p) (e f:Bool):nF e (nF f p)=nF (e.xor f) p:=by
 cases e <;> cases f
 ·rfl
 ·rfl
 ·rfl
 ·exact zD h
theorem zH:∀ {ks:List Int} {k:Int} {p:cz},Vf n p->bN n (act k ks (Q2 p)) (Q2 (act k ks p))
 | [],k,p,h=>bN.symm (h.sh k).q2 (tJ h k)
 | j :: ks,k,p,h=>by
  have h1:bN n (Qt (Sh k (Q2 p))) (Qt (Q2 (Sh k p))):=bN.qt (h.q2.sh k) (bN.symm (h.sh k).q2 (tJ h k))
  have h2:=bN.act (ks:=ks) (k:=j) ((h.q2.sh k).qt) h1
  have h3:=zH (ks:=ks) (k:=j) (h.sh k).qt
  exact bN.trans (Vf.act (ks:=j :: ks) (k:=k) h.q2) h2 h3
theorem C1 {ks:List Int} {j k:Int} (h:Vf n p):act k ks (Sh j p)=act (j + k) ks p:=by
 cases ks with
 | nil=>exact zB h j k
 | cons i ks=>show act i ks (Qt (Sh k (Sh j p)))=act i ks (Qt (Sh (j + k) p));rw [zB h]
theorem JQ {ks:List Int} {k:Int} (h:Vf n p):act k ks (Qt p)=act 0 (k :: ks) p:=by show _=act k ks (Qt (Sh 0 p));rw [rT h]
theorem N2 {a b:Int} {ks:List Int} {j:Int} (hj:j=0\/j=1\/j=-1):∃ (k':Int) (ks':List Int) (f:Bool),ks'.length < ks.length + 2/\gA a (j :: b :: ks)=jC f (gA k' ks')/\∀ {n:Nat} {p:cz},Vf n p->bN n (act a (j :: b :: ks) p) (nF f (act k' ks' p)):=by
 rcases hj with rfl | rfl | rfl
 ·refine ⟨a + b,ks,true,by omega,?_,fun {n p} h=>?_⟩
  ·cases ks with
   | nil=>simp [gA,jC,T4.mul,tS,gH];omega
   | cons i ks =>
    show (((gA i ks).mul (gH b)).mul (gH 0)).mul (gH a)=jC true ((gA i ks).mul (gH (a + b)))
    rw [T4.assoc,T4.assoc]
    have:(gH b).mul ((gH 0).mul (gH a))=jC true (gH (a + b)):=by simp [jC,T4.mul,gH];omega
    rw [this]
    unfold jC T4.mul;simp only [if_true];congr 1 <;> grind
  ·show bN n (act b ks (Qt (Sh 0 (Qt (Sh a p))))) (Q2 (act (a + b) ks p))
   rw [rT (h.sh a).qt,zC,<- C1 h]
   exact zH (h.sh a)
 ·refine ⟨a - 1,(b - 1) :: ks,false,by simp,?_,fun {n p} h=>?_⟩
  ·cases ks with
   | nil=>simp [gA,jC,T4.mul,tS,gH];refine ⟨?_,?_⟩ <;> grind
   | cons i ks =>
    show (((gA i ks).mul (gH b)).mul (gH 1)).mul (gH a)=((gA i ks).mul (gH (b - 1))).mul (gH (a - 1))
    rw [T4.assoc,T4.assoc,T4.assoc]
    have:(gH b).mul ((gH 1).mul (gH a))=(gH (b - 1)).mul (gH (a - 1)):=by simp [T4.mul,gH];refine ⟨?_,?_,?_⟩ <;> grind
    rw [this]
  ·show bN n (act b ks (Qt (Sh 1 (Qt (Sh a p))))) (act (b - 1) ks (Qt (Sh (a - 1) p)))
   have h1:=bN.act (ks:=ks) (k:=b) ((h.sh a).qt.sh 1).qt (zE (h.sh a))
   rw [C1 ((h.sh a).sh (-1)).qt,zB h,show -1 + b=b - 1 by omega,show a + -1=a - 1 by omega] at h1
   exact h1
 ·refine ⟨a + 1,(b + 1) :: ks,true,by simp,?_,fun {n p} h=>?_⟩
  ·cases ks with
   | nil=>simp [gA,jC,T4.mul,tS,gH];refine ⟨?_,?_⟩ <;> grind
   | cons i ks =>
    show (((gA i ks).mul (gH b)).mul (gH (-1))).mul (gH a)=jC true (((gA i ks).mul (gH (b + 1))).mul (gH (a + 1)))
    rw [T4.assoc,T4.assoc,T4.assoc]
    have:(gH b).mul ((gH (-1)).mul (gH a))=jC true ((gH (b + 1)).mul (gH (a + 1))):=by simp [jC,T4.mul,gH];refine ⟨?_,?_,?_⟩ <;> grind
    rw [this]
    unfold jC T4.mul;simp only [if_true];congr 1 <;> grind
  ·show bN n (act b ks (Qt (Sh (-1) (Qt (Sh a p))))) (Q2 (act (b + 1) ks (Qt (Sh (a + 1) p))))
   have h1:=bN.act (ks:=ks) (k:=b) ((h.sh a).qt.sh (-1)).qt (vq (h.sh a))
   have h2:=zH (ks:=ks) (k:=b) (((h.sh a).sh 1).qt.sh 1)
   rw [C1 ((h.sh a).sh 1).qt,zB h,show 1 + b=b + 1 by omega] at h2
   have h3:=bN.trans (Vf.act (ks:=ks) (k:=b) ((h.sh a).qt.sh (-1)).qt) h1 (by rw [zB h] at *;exact h2)
   exact h3
def big:List Int->Prop
 | []=>True
 | [_]=>True
 | j :: b :: ks=>(2<=j\/j<=-2)/\big (b :: ks)
theorem JR:∀ (ks:List Int) (k:Int),big ks\/∃ (k':Int) (ks':List Int) (f:Bool),ks'.length < ks.length/\gA k ks=jC f (gA k' ks')/\∀ {n:Nat} {p:cz},Vf n p->bN n (act k ks p) (nF f (act k' ks' p))
 | [],_=>.inl trivial
 | [_],_=>.inl trivial
 | j :: b :: ks,k=>by
  by_cases hj:j=0\/j=1\/j=-1
  ·obtain ⟨k',ks',f,hl,hm,ha⟩:=N2 (a:=k) (b:=b) (ks:=ks) hj
   exact .inr ⟨k',ks',f,by simpa using hl,hm,ha⟩
  ·rcases JR (b :: ks) j with h | ⟨k',ks',f,hl,hm,ha⟩
   ·exact .inl ⟨by omega,h⟩
   ·refine .inr ⟨k,k' :: ks',f,by simpa using hl,?_,fun {n p} h=>?_⟩
    ·show (gA j (b :: ks)).mul (gH k)=jC f ((gA k' ks').mul (gH k))
     rw [hm,zG]
    ·exact ha (h.sh k).qt
theorem JS:∀ (ks:List Int) (k:Int),big ks->(ks=[]\/2<=k\/k<=-2)->(gA k ks).c.natAbs < (gA k ks).d.natAbs
 | [],k,_,_=>by show (0:Int).natAbs < (1:Int).natAbs;decide
 | j :: ks,k,h,hk=>by
  have hk:2<=k\/k<=-2:=by rcases hk with hk | hk;cases hk;exact hk
  have hj:ks=[]\/2<=j\/j<=-2:=by
   cases ks with
   | nil=>exact .inl rfl
   | cons b ks=>exact .inr h.1
  have hb:big ks:=by
   cases ks with
   | nil=>trivial
   | cons b ks=>exact h.2
  have ih:=JS ks j hb hj
  show ((gA j ks).c * 0 + (gA j ks).d * 1).natAbs < ((gA j ks).c * -1 + (gA j ks).d * k).natAbs
  generalize (gA j ks).c=c at ih
  generalize (gA j ks).d=d at ih
  rw [Int.mul_zero,Int.zero_add,Int.mul_one]
  have e:(d * k).natAbs=d.natAbs * k.natAbs:=Int.natAbs_mul d k
  have e2:d.natAbs * 2<=d.natAbs * k.natAbs:=Nat.mul_le_mul_left _ (by omega)
  omega
theorem zI {ks:List Int} {k:Int} (h:big ks) (hn:ks≠[]):(gA k ks).c≠0:=by
 cases ks with
 | nil=>exact absurd rfl hn
 | cons j ks =>
  have hj:ks=[]\/2<=j\/j<=-2:=by
   cases ks with
   | nil=>exact .inl rfl
   | cons b ks=>exact .inr h.1
  have hb:big ks:=by
   cases ks with
   | nil=>trivial
   | cons b ks=>exact h.2
  have ih:=JS ks j hb hj
  show (gA j ks).c * 0 + (gA j ks).d * 1≠0
  omega
theorem F4:∀ (m:Nat) (ks:List Int) (k:Int),ks.length<=m->∀ (e:Bool),gA k ks=jC e T4.one->∀ {n:Nat} {p:cz},Vf n p->bN n (act k ks p) (nF e p):=by
 intro m
 induction m with
 | zero =>
  intro ks k hl e hm n p h
  have:ks=[]:=List.eq_nil_of_length_eq_zero (by omega)
  subst this
  have hm:(⟨1,k,0,1⟩:T4)=jC e T4.one:=hm
  cases e with
  | false =>
   have hk:k=0:=congrArg T4.b hm
   subst hk
   show bN n (Sh 0 p) p
   rw [rT h];exact bN.refl h
  | true=>exact absurd (congrArg T4.a hm) (show ¬ (1:Int)=-1 by decide)
 | succ m ih =>
  intro ks k hl e hm n p h
  by_cases hn:ks=[]
  ·subst hn
   exact ih [] k (Nat.zero_le _) e hm h
  ·rcases JR ks k with hb | ⟨k',ks',f,hl',hm',ha⟩
   ·have:=zI (k:=k) hb hn
    rw [hm] at this
    exact absurd (by cases e <;> rfl) this
   ·have hm2:gA k' ks'=jC (f.xor e) T4.one:=by
     have:jC f (gA k ks)=gA k' ks':=by rw [hm',zF,Bool.xor_self];rfl
     rw [<- this,hm,zF]
    have h1:=ih ks' k' (by omega) (f.xor e) hm2 h
    have h2:=bN.trans h.act (ha h) (bN.nF h.act h1 f)
    rw [C0 h,<- Bool.xor_assoc,Bool.xor_self,Bool.false_xor] at h2
    exact h2
end
def nG:Nat->cz->cz
 | 0,p=>p
 | j + 1,p=>Qt (nG j p)
def stM (p:cz) (s:Sp):cz:=if s.1=true then Sh s.2 p else nG s.2.toNat p
def gB (p:cz) (w:List Sp):cz:=w.foldl stM p
section
variable {n:Nat} {p q:cz}
theorem Vf.nG (h:Vf n p):∀ j,Vf n (af.nG j p)
 | 0=>h
 | j + 1=>(Vf.nG h j).qt
theorem Vf.st (h:Vf n p) (s:Sp):Vf n (stM p s):=by
 unfold stM
 split
 ·exact h.sh _
 ·exact h.nG _
theorem Vf.ld:∀ {w:List Sp} {p:cz},Vf n p->Vf n (gB p w)
 | [],_,h=>h
 | s :: w,p,h=>Vf.ld (w:=w) (h.st s)
theorem bN.nG (h:Vf n p) (a:bN n p q):∀ j,bN n (af.nG j p) (af.nG j q)
 | 0=>a
 | j + 1=>bN.qt (h.nG j) (bN.nG h a j)
theorem bN.st (h:Vf n p) (a:bN n p q) (s:Sp):bN n (stM p s) (stM q s):=by
 unfold stM
 split
 ·exact bN.sh h a _
 ·exact bN.nG h a _
theorem bN.ld:∀ {w:List Sp} {p q:cz},Vf n p->bN n p q->bN n (gB p w) (gB q w)
 | [],_,_,_,a=>a
 | s :: w,p,q,h,a=>bN.ld (w:=w) (h.st s) (bN.st h a s)
theorem JT (p:cz) (u v:List Sp):gB p (u ++ v)=gB (gB p u) v:=by unfold gB;rw [List.foldl_append]
end
theorem JU (s:Sp) (w:List Sp):aH (s :: w)=(aH w).mul (iL s):=by
 have:=pz [s] w
 rw [show aH [s]=(iL s).mul T4.one from rfl,T4.mul_one] at this
 exact this
theorem JV (e:Bool) (M N:T4):M.mul (jC e N)=jC e (M.mul N):=by
 cases e
 ·rfl
 ·unfold jC T4.mul;simp only [if_true];congr 1 <;> grind
theorem vt (ks:List Int) (j k:Int):(gA k ks).mul (tS j)=gA (j + k) ks:=by
 cases ks with
 | nil=>simp [gA,T4.mul,tS]
 | cons i ks =>
  show ((gA i ks).mul (gH k)).mul (tS j)=(gA i ks).mul (gH (j + k))
  rw [T4.assoc]
  congr 1
  simp [T4.mul,gH,tS]
theorem vw (ks:List Int) (k:Int):(gA k ks).mul T4.qt=gA 0 (k :: ks):=rfl
theorem JW:∀ {w:List Sp},(∀ s∈w,df s)->∃ (k:Int) (ks:List Int) (f:Bool),aH w=jC f (gA k ks)/\∀ {n:Nat} {p:cz},Vf n p->bN n (gB p w) (nF f (act k ks p))
 | [],_=>⟨0,[],false,rfl,fun {n p} h=>by show bN n p (Sh 0 p);rw [rT h];exact bN.refl h⟩
 | s :: w,hw=>by
  obtain ⟨k,ks,f,hm,ha⟩:=JW (w:=w) fun x hx=>hw x (List.mem_cons_of_mem _ hx)
  have hs:=hw s List.mem_cons_self
  obtain ⟨b,j⟩:=s
  rw [JU,hm]
  cases b with
  | true =>
   refine ⟨j + k,ks,f,?_,fun {n p} h=>?_⟩
   ·rw [zG];congr 1;exact vt ks j k
   ·have:=ha (h.sh j)
    rw [C1 h] at this
    exact this
  | false =>
   have c:j=1\/j=2\/j=3:=t3 (hs.1 rfl)
   rcases c with rfl | rfl | rfl
   ·refine ⟨0,k :: ks,f,?_,fun {n p} h=>?_⟩
    ·rw [zG];congr 1
    ·have:=ha h.qt
     rw [JQ h] at this
     exact this
   ·refine ⟨k,ks,!f,?_,fun {n p} h=>?_⟩
    ·rw [zG,show iL (false,2)=jC true T4.one from rfl,JV,T4.mul_one,zF];cases f <;> rfl
    ·have h1:=ha h.q2
     have h2:=bN.trans (Vf.ld (w:=w) h.q2) h1 (bN.nF (Vf.act h.q2) (zH h) f)
     have e:nF f (Q2 (act k ks p))=nF (!f) (act k ks p):=by
      have:=C0 (p:=act k ks p) h.act f true
      rw [Bool.xor_true] at this
      exact this
     rw [e] at h2
     exact h2
   ·refine ⟨0,k :: ks,!f,?_,fun {n p} h=>?_⟩
    ·have e3:iL (false,3)=jC true T4.qt:=rfl
     rw [zG,e3,JV,zF,vw];cases f <;> rfl
    ·have h1:=ha (p:=Q2 (Qt p)) h.qt.q2
     have h2:=bN.trans (Vf.ld (w:=w) h.qt.q2) h1 (bN.nF (Vf.act h.qt.q2) (zH h.qt) f)
     have e:nF f (Q2 (act k ks (Qt p)))=nF (!f) (act 0 (k :: ks) p):=by
      have:=C0 (p:=act k ks (Qt p)) h.qt.act f true
      rw [Bool.xor_true] at this
      rw [<- JQ h]
      exact this
     rw [e] at h2
     exact h2
theorem JX {w:List Sp} (hw:∀ s∈w,df s) (h1:aH w=T4.one) {n:Nat} {p:cz} (h:Vf n p):bN n (gB p w) p:=by
 obtain ⟨k,ks,f,hm,ha⟩:=JW hw
 have e:gA k ks=jC f T4.one:=by
  have:jC f (aH w)=gA k ks:=by rw [hm,zF,Bool.xor_self];rfl
  rw [<- this,h1]
 have h2:=F4 ks.length ks k (Nat.le_refl _) f e h
 have h3:=bN.trans (Vf.ld h) (ha h) (bN.nF h.act h2 f)
 rw [C0 h,Bool.xor_self] at h3
 exact h3
theorem C2 {w:List Sp} (hw:∀ s∈w,df s):∀ s∈jB w,df s:=fun s hs=>by
 unfold jB at hs
 obtain ⟨t,ht,rfl⟩:=List.mem_map.mp (List.mem_reverse.mp hs)
 exact zx (hw t ht)
theorem JY {w:List Sp} (hw:∀ s∈w,df s):aH (w ++ jB w)=T4.one:=by
 have hp:∀ s∈w ++ jB w,df s:=fun s hs=>by
  rcases List.mem_append.mp hs with hs | hs
  ·exact hw s hs
  ·exact C2 hw s hs
 rw [<- JI hp,NJ hw];rfl
theorem C3 {w:List Sp} (hw:∀ s∈w,df s):(aH w).a * (aH w).d - (aH w).b * (aH w).c=1:=by
 have:=JY hw
 rw [pz,FR hw] at this
 have h:=congrArg T4.a this
 have h:(aH w).d * (aH w).a + -(aH w).b * (aH w).c=1:=h
 rw [Int.mul_comm (aH w).d,Int.neg_mul] at h
 omega
theorem JZ {M:T4} (h:M.a * M.d - M.b * M.c=1):M.mul M.qT=T4.one/\M.qT.mul M=T4.one:=by
 constructor <;> (apply T4.ext' <;> simp [T4.mul,T4.qT,T4.one] <;> grind)
theorem J0 {u w:List Sp} (hu:∀ s∈u,df s) (hw:∀ s∈w,df s) (e:aH u=aH w) {n:Nat} {p:cz} (h:Vf n p):bN n (gB p u) (gB p w):=by
 have hb:=C2 hw
 have h1:bN n (gB p (u ++ jB w)) p:=JX (fun s hs=>by
  rcases List.mem_append.mp hs with hs | hs
  ·exact hu s hs
  ·exact hb s hs) (by rw [pz,e,<- pz];exact JY hw) h
 rw [JT] at h1
 have h2:=bN.ld (w:=w) (Vf.ld (Vf.ld h)) h1
 rw [<- JT] at h2
 have h3:bN n (gB (gB p u) (jB w ++ w)) (gB p u):=JX (fun s hs=>by
  rcases List.mem_append.mp hs with hs | hs
  ·exact hb s hs
  ·exact hw s hs) (by rw [pz,FR hw];exact (JZ (C3 hw)).1) (Vf.ld h)
 exact bN.trans (Vf.ld h) (bN.symm (Vf.ld (Vf.ld h)) h3) h2
def pA (p:cz) (n:Nat) (s:Int):cz:=(num p.1 (bf p.1 p.2 s n),num p.2 (bf p.1 p.2 s n))
def lz (n:Nat) (p:cz):cz:=lP ((upto n).map (pA p n))
theorem F5 {n:Nat} {p q:cz} (n0:0 < n) (h:Vf n p) (a:bN n p q):lz n p=lz n q:=by
 obtain ⟨g,hg,rfl⟩:=a
 have key:∀ s:Int,0<=s->s < (n:Int)->pA (anew p.1 g,anew p.2 g) n (app g s)=pA p n s:=fun s s0 s1=>by
  show (num (anew p.1 g) (bf (anew p.1 g) (anew p.2 g) (app g s) n),num (anew p.2 g) (bf (anew p.1 g) (anew p.2 g) (app g s) n))=_
  have hb:=o9 h.1 h.2 s0 s1 n
  rw [FQ h.1 h.2 hg s0 s1 n,JF h.1 hg hb,JF h.2 hg hb]
  rfl
 refine NW (fun x=>?_) (fun e=>?_)
 ·constructor
  ·intro hx
   obtain ⟨s,hs,rfl⟩:=List.mem_map.mp hx
   obtain ⟨s0,s1⟩:=lg.mp hs
   exact List.mem_map.mpr ⟨app g s,lg.mpr (hg.app s0 s1),key s s0 s1⟩
  ·intro hx
   obtain ⟨t,ht,rfl⟩:=List.mem_map.mp hx
   obtain ⟨t0,t1⟩:=lg.mp ht
   obtain ⟨p0,p1⟩:=hg.lh t0 t1
   refine List.mem_map.mpr ⟨app (inv g) t,lg.mpr ⟨p0,p1⟩,?_⟩
   have:=key (app (inv g) t) p0 p1
   rw [hg.cI t0 t1] at this
   exact this.symm
 ·have:=congrArg List.length e
  rw [List.length_map,nQ] at this
  simp at this
  omega
end af
namespace af
section
variable {n:Nat} {p q:cz} {g h:List Int} {s t:Int}
structure Wh (n:Nat) (p:cz):Prop where
 v:Vf n p
 all:∀ x:Int,0<=x->x < (n:Int)->iG p.1 p.2 x
theorem Wh.bf (w:Wh n p) (s0:0<=s) (s1:s < (n:Int)):Tn n (bf p.1 p.2 s n):=CT w.v.1 w.v.2 s0 s1 w.all
theorem C4 (xs ys:List Int):∀ k,∀ y∈bf xs ys 0 k,iG xs ys y
 | 0,y,hy=>by rw [List.mem_singleton.mp (show y∈[(0:Int)] from hy)];exact .zero
 | k + 1,y,hy=>by
  have hy':y∈(match (bf xs ys 0 k)[k]? with | some x=>visit xs ys (bf xs ys 0 k) x | none=>bf xs ys 0 k):=hy
  split at hy'
  ·next z hz =>
   have tK:=C4 xs ys k z (List.mem_of_getElem? hz)
   rcases oK.mp hy' with hy' | rfl
   ·rcases oK.mp hy' with hy' | rfl
    ·exact C4 xs ys k y hy'
    ·exact tK.r
   ·exact tK.u
  ·exact C4 xs ys k y hy'
theorem tL (w:Wh n p) (v:Vf n q) (n0:0 < n) (h:∀ F:List Int,F.Nodup->(∀ x∈F,0<=x/\x < (n:Int))->Cl q.1 q.2 F->Cl p.1 p.2 F):Wh n q:=by
 refine ⟨v,fun x x0 x1=>C4 q.1 q.2 n x ?_⟩
 have c:=h (bf q.1 q.2 0 n) (vg _ _ _ _) (o9 v.1 v.2 (by decide) (by omega) n) (FP v.1 v.2 (by decide) (by omega))
 refine c.all ?_ (w.all x x0 x1)
 have:=xO q.1 q.2 0 0 n
 rw [Nat.zero_add] at this
 exact this.subset (show (0:Int)∈[(0:Int)] by simp)
theorem J1 {zs F:List Int} (hz:Tn n zs) (nd:F.Nodup) (hb:∀ x∈F,0<=x/\x < (n:Int)) (hc:∀ x∈F,app zs x∈F):∀ x∈F,app (inv zs) x∈F:=fun x hx=>by
 obtain ⟨x0,x1⟩:=hb x hx
 obtain ⟨a0,a1⟩:=hz.lh x0 x1
 exact zv hz nd hb hc a0 a1 (by rw [hz.cI x0 x1];exact hx)
theorem F6 {zs F:List Int} (hc:∀ x∈F,app zs x∈F) {x:Int} (hx:x∈F):∀ k,br zs x k∈F
 | 0=>hx
 | k + 1=>hc _ (F6 hc hx k)
theorem zJ {zs F:List Int} (hz:Tn n zs) (nd:F.Nodup) (hb:∀ x∈F,0<=x/\x < (n:Int)) (hc:∀ x∈F,app zs x∈F) (k:Int) {x:Int} (hx:x∈F):pw zs k x∈F:=by
 unfold pw
 split
 ·exact F6 hc hx _
 ·exact F6 (J1 hz nd hb hc) hx _
theorem Wh.sh (w:Wh n p) (n0:0 < n) (k:Int):Wh n (Sh k p):=by
 refine tL w (w.v.sh k) n0 fun F nd hb hc x hx=>⟨(hc x hx).1,?_⟩
 obtain ⟨x0,x1⟩:=hb x hx
 have h1:∀ x∈F,app p.1 x∈F:=fun x hx=>(hc x hx).1
 have hy:=zJ w.v.1 nd hb h1 k hx
 have:=(hc _ hy).2
 obtain ⟨y0,y1⟩:=hb _ hy
 have e:app (Sh k p).2 (pw p.1 k x)=app p.2 x:=by
  show app (shr p.1 p.2 k) (pw p.1 k x)=_
  unfold shr
  have hlen:(cF p.1 (-k)).length=n:=(w.v.1.cF (-k)).length
  rw [nS y0 (by rw [hlen];exact y1)]
  congr 1
  have e3:=zz w.v.1 k (-k)
  rw [Int.add_right_neg,FY w.v.1] at e3
  have e4:app (aZ (cF p.1 k) (cF p.1 (-k))) x=app (upto n) x:=by rw [e3]
  rw [CW x0 x1,nS x0 (by rw [(w.v.1.cF k).length];exact x1)] at e4
  have e5:app (cF p.1 k) x=pw p.1 k x:=oj x0 (by rw [w.v.1.length];exact x1)
  rw [e5] at e4
  exact e4
 rw [e] at this
 exact this
theorem Wh.qt (w:Wh n p) (n0:0 < n):Wh n (Qt p):=by
 refine tL w w.v.qt n0 fun F nd hb hc x hx=>⟨(hc x hx).2,?_⟩
 have:=J1 w.v.2.aw nd hb (fun x hx=>(hc x hx).1) x hx
 rw [w.v.2.inv_inv] at this
 exact this
def Od (xs ys F:List Int):Prop:=F[0]?=some 0/\∀ (k:Nat) (y:Int),F[k + 1]?=some y->∃ (j:Nat) (x:Int),j<=k/\F[j]?=some x/\(y=app xs x\/y=app ys x)
theorem Od.one (xs ys:List Int):Od xs ys [0]:=⟨rfl,fun k y h=>by cases h⟩
theorem Od.snoc {xs ys F:List Int} {x y:Int} (h:Od xs ys F) (hx:x∈F) (hy:y=app xs x\/y=app ys x):Od xs ys (F ++ [y]):=by
 have hl:0 < F.length:=List.length_pos_of_mem hx
 refine ⟨by rw [List.getElem?_append_left hl];exact h.1,fun k z hz=>?_⟩
 by_cases hk:k + 1 < F.length
 ·rw [List.getElem?_append_left hk] at hz
  obtain ⟨j,x',hj,hx',e⟩:=h.2 k z hz
  exact ⟨j,x',hj,by rw [List.getElem?_append_left (by omega)];exact hx',e⟩
 ·rw [List.getElem?_append_right (by omega)] at hz
  have hz:z=y:=by
   cases h3:k + 1 - F.length with
   | zero=>rw [h3] at hz;cases hz;rfl
   | succ m=>rw [h3] at hz;cases hz
  obtain ⟨j,hj,e⟩:=List.getElem_of_mem hx
  have mS:k + 1=F.length\/F.length < k + 1:=by omega
  refine ⟨j,x,by omega,by rw [List.getElem?_append_left hj,List.getElem?_eq_getElem hj,e],by rw [hz];exact hy⟩
structure Fo (xs ys F:List Int):Prop extends Fd xs ys F where
 od:Od xs ys F
theorem Fo.one (xs ys:List Int):Fo xs ys [0]:=⟨Fd.one xs ys,Od.one xs ys⟩
end
end af
namespace af
section
variable {n:Nat} {xs ys r r' r2:List Int} {i j x y:Int}
def Sm (xs ys r:List Int):Prop:=∀ s∈r,app ys (app xs s)=app xs (app ys s)
instance:Decidable (Sm xs ys r):=inferInstanceAs (Decidable (∀ s∈r,app ys (app xs s)=app xs (app ys s)))
end
end af
namespace af
section
variable {n:Nat} {xs ys:List Int} {rs:List (List Int)} {lows:List (List Int)} {B:List Int->List (List Int)}
end
section
variable {n:Nat} {c g:List Int} {rs rs':List (List Int)}
end
section
variable {n:Nat} {p q:cz} {g:List Int}
theorem Wh.nG (w:Wh n p) (n0:0 < n):∀ j,Wh n (af.nG j p)
 | 0=>w
 | j + 1=>(w.nG n0 j).qt n0
theorem Wh.st (w:Wh n p) (n0:0 < n) (s:Sp):Wh n (stM p s):=by
 unfold stM
 split
 ·exact w.sh n0 _
 ·exact w.nG n0 _
theorem Wh.ld (n0:0 < n):∀ {w:List Sp} {p:cz},Wh n p->Wh n (gB p w)
 | [],_,h=>h
 | s :: w,_,h=>Wh.ld n0 (w:=w) (h.st n0 s)
end
end af
namespace af
def nr (x y:Int):Int:=(2 * x + y).fdiv (2 * y)
theorem N3 (a b:Int) (hb:b≠0):(0 < b->0<=a - b * a.fdiv b/\a - b * a.fdiv b < b)/\(b < 0->b < a - b * a.fdiv b/\a - b * a.fdiv b<=0):=by
 have h1:=Int.mul_ediv_add_emod a b
 have h2:=Int.emod_nonneg a hb
 have h3:=Int.emod_lt a hb
 rw [Int.fdiv_eq_ediv]
 constructor
 ·intro h
  rw [if_pos (.inl (by omega)),Int.sub_zero]
  have:b.natAbs=b.toNat:=by omega
  constructor <;> omega
 ·intro h
  by_cases hd:b ∣ a
  ·rw [if_pos (.inr hd),Int.sub_zero]
   have:a % b=0:=Int.emod_eq_zero_of_dvd hd
   constructor <;> omega
  ·rw [if_neg (by rintro (z | z);omega;exact hd z),Int.mul_sub]
   have hne:a % b≠0:=fun z=>hd (Int.dvd_of_emod_eq_zero z)
   constructor <;> omega
theorem tM {x y:Int} (hy:y≠0):2 * (x - nr x y * y).natAbs<=y.natAbs:=by
 obtain ⟨h1,h2⟩:=N3 (2 * x + y) (2 * y) (by omega)
 have e:2 * x + y - 2 * y * (2 * x + y).fdiv (2 * y)=2 * (x - nr x y * y) + y:=by
  unfold nr
  rw [Int.mul_sub,Int.mul_comm ((2 * x + y).fdiv (2 * y)) y,Int.mul_assoc]
  omega
 rw [e] at h1 h2
 rcases (show 0 < y\/y < 0 by omega) with h | h
 ·have:=h1 (by omega);omega
 ·have:=h2 (by omega);omega
theorem J2 {x y:Int} (hy:y≠0):(nr x y).natAbs<=x.natAbs + 1:=by
 have h:=tM (x:=x) hy
 have h1:(nr x y * y).natAbs<=x.natAbs + (x - nr x y * y).natAbs:=by omega
 rw [Int.natAbs_mul] at h1
 have hy1:1<=y.natAbs:=by omega
 by_cases hq:(nr x y).natAbs<=x.natAbs + 1
 ·exact hq
 ·exfalso
  have h2:(x.natAbs + 2) * y.natAbs<=(nr x y).natAbs * y.natAbs:=Nat.mul_le_mul_right _ (by omega)
  have h3:(x.natAbs + 2) * y.natAbs=x.natAbs * y.natAbs + 2 * y.natAbs:=Nat.add_mul _ _ _
  have h4:x.natAbs<=x.natAbs * y.natAbs:=Nat.le_mul_of_pos_right _ hy1
  omega
def pb (k:Int):List Sp:=if k=0 then [] else [(true,k)]
theorem zK {k:Int}:∀ s∈pb k,df s/\s.2=k:=fun s hs=>by
 unfold pb at hs
 split at hs
 ·cases hs
 ·next h =>
  rw [List.mem_singleton.mp hs]
  exact ⟨⟨(fun z=>by cases z),h⟩,rfl⟩
theorem F7 (k:Int):aH (pb k)=⟨1,k,0,1⟩:=by
 unfold pb
 split
 ·next h=>rw [h];rfl
 ·show (iL (true,k)).mul T4.one=_
  rw [T4.mul_one];rfl
theorem zL (k:Int):(pb k).length<=1:=by unfold pb;split <;> simp
def pB (x y:Int):List Sp:=pb (-(nr x y)) ++ [(false,1)]
theorem F8 (x y:Int):aH (pB x y)=⟨0,-1,1,-(nr x y)⟩:=by
 unfold pB
 rw [tD,F7]
 apply T4.ext' <;> simp [T4.mul,iL,qp,T4.qt,T4.one]
theorem J3 {x y:Int} (hy:y≠0):∀ s∈pB x y,df s/\s.2.natAbs<=x.natAbs + 1:=fun s hs=>by
 have h:=J2 (x:=x) hy
 rcases List.mem_append.mp hs with hs | hs
 ·obtain ⟨h1,h2⟩:=zK s hs
  exact ⟨h1,by rw [h2];omega⟩
 ·rw [List.mem_singleton.mp hs]
  exact ⟨⟨fun _=>⟨by decide,by decide⟩,by decide⟩,by show 1<=_;omega⟩
theorem F9 (x y:Int):(pB x y).length<=2:=by unfold pB;rw [List.length_append];have:=zL (-(nr x y));simp;omega
structure Dv (M:Nat) (x y:Int) (g:List Sp) (u v:Int) (r:Nat):Prop where
 pr:∀ s∈g,df s/\s.2.natAbs<=M + 1
 ln:g.length<=2 * r
 ua:u=(aH g).a * x + (aH g).b * y
 vc:v=(aH g).c * x + (aH g).d * y
 ub:u.natAbs<=M
 vb:v.natAbs * 2 ^ r<=M
theorem Dv.zero {M:Nat} {x y:Int} (hx:x.natAbs<=M) (hy:y.natAbs<=M):Dv M x y [] x y 0 :=
 ⟨(fun s hs=>nomatch hs),Nat.le_refl _,by show x=1 * x + 0 * y;omega,by show y=0 * x + 1 * y;omega,hx,by omega⟩
theorem Dv.step {M r:Nat} {x y u v:Int} {g:List Sp} (h:Dv M x y g u v r) (hv:v≠0):Dv M x y (g ++ pB u v) (-v) (u - nr u v * v) (r + 1):=by
 have hl:=tM (x:=u) hv
 have hlen:=F9 u v
 have h2:1<=2 ^ r:=Nat.one_le_two_pow
 have vM:v.natAbs<=M:=Nat.le_trans (Nat.le_mul_of_pos_right _ h2) h.vb
 have e:aH (g ++ pB u v)=⟨-(aH g).c,-(aH g).d,(aH g).a - nr u v * (aH g).c,(aH g).b - nr u v * (aH g).d⟩:=by
  rw [pz,F8]
  apply T4.ext' <;> simp [T4.mul,Int.neg_mul] <;> omega
 refine ⟨fun s hs=>?_,by rw [List.length_append];have:=h.ln;omega,?_,?_,by omega,?_⟩
 ·rcases List.mem_append.mp hs with hs | hs
  ·exact h.pr s hs
  ·obtain ⟨h1,h3⟩:=J3 hv s hs
   exact ⟨h1,by have:=h.ub;omega⟩
 ·rw [e]
  show -v=-(aH g).c * x + -(aH g).d * y
  rw [h.vc,Int.neg_mul,Int.neg_mul];omega
 ·rw [e]
  show u - nr u v * v=((aH g).a - nr u v * (aH g).c) * x + ((aH g).b - nr u v * (aH g).d) * y
  generalize hq:nr u v=q
  rw [h.ua,h.vc,Int.sub_mul,Int.sub_mul,Int.mul_add,Int.mul_assoc,Int.mul_assoc]
  omega
 ·have:=h.vb
  have h3:(u - nr u v * v).natAbs * 2 ^ (r + 1)=2 * (u - nr u v * v).natAbs * 2 ^ r:=by rw [Nat.pow_succ,Nat.mul_comm (2 ^ r) 2,<- Nat.mul_assoc,Nat.mul_comm _ 2]
  rw [h3]
  exact Nat.le_trans (Nat.mul_le_mul_right _ hl) this
theorem Dv.few {M r k:Nat} {x y u v:Int} {g:List Sp} (h:Dv M x y g u v r) (hv:v≠0) (hM:M < 2 ^ k):r < k:=by
 have h1:2 ^ r<=M:=Nat.le_trans (Nat.le_mul_of_pos_left _ (by omega)) h.vb
 exact (Nat.pow_lt_pow_iff_right (by decide)).mp (Nat.lt_of_le_of_lt h1 hM)
def mX (A:T4):List Sp:=if A.a=1 then pb A.b else (false,2) :: pb (-A.b)
theorem N4 {a d:Int} (h:a * d=1):(a=1/\d=1)\/(a=-1/\d=-1):=by
 have h1:=congrArg Int.natAbs h
 rw [Int.natAbs_mul] at h1
 have h2:a.natAbs=1:=Nat.eq_one_of_dvd_one ⟨_,h1.symm⟩
 rcases (show a=1\/a=-1 by omega) with rfl | rfl
 ·exact .inl ⟨rfl,by omega⟩
 ·exact .inr ⟨rfl,by omega⟩
theorem N5 {A:T4} (hc:A.c=0) (hd:A.a * A.d - A.b * A.c=1):aH (mX A)=A:=by
 have h1:A.a * A.d=1:=by rw [hc,Int.mul_zero] at hd;omega
 unfold mX
 rcases N4 h1 with ⟨e1,e2⟩ | ⟨e1,e2⟩
 ·rw [if_pos e1,F7]
  exact T4.ext' e1.symm rfl hc.symm e2.symm
 ·rw [if_neg (by rw [e1];decide),JU,F7]
  apply T4.ext'
  ·simp [T4.mul,iL,qp,T4.qt,T4.one,e1]
  ·simp [T4.mul,iL,qp,T4.qt,T4.one]
  ·simp [T4.mul,iL,qp,T4.qt,T4.one,hc]
  ·simp [T4.mul,iL,qp,T4.qt,T4.one,e2]
theorem J4 (A:T4):∀ s∈mX A,df s:=fun s hs=>by
 unfold mX at hs
 split at hs
 ·exact (zK s hs).1
 ·rcases List.mem_cons.mp hs with rfl | hs
  ·exact ⟨fun _=>⟨by decide,by decide⟩,by decide⟩
  ·exact (zK s hs).1
theorem J5 (A:T4):(mX A).length<=2:=by
 unfold mX
 split
 ·have:=zL A.b;omega
 ·have:=zL (-A.b);simp;omega
theorem N6 (A B:T4):(A.mul B).a * (A.mul B).d - (A.mul B).b * (A.mul B).c=(A.a * A.d - A.b * A.c) * (B.a * B.d - B.b * B.c):=by
 simp only [T4.mul]
 grind
theorem N7 {T:T4} {g:List Sp} (hd:T.a * T.d - T.b * T.c=1) (hg:∀ s∈g,df s) (h0:(aH g).c * T.a + (aH g).d * T.c=0):aH (mW (mX ((aH g).mul T) ++ jB g)).reverse=T/\∀ s∈(mW (mX ((aH g).mul T) ++ jB g)).reverse,df s:=by
 have N8:((aH g).mul T).a * ((aH g).mul T).d - ((aH g).mul T).b * ((aH g).mul T).c=1:=by rw [N6,C3 hg,hd];rfl
 have N9:((aH g).mul T).c=0:=h0
 have pr:∀ s∈mX ((aH g).mul T) ++ jB g,df s:=fun s hs=>by
  rcases List.mem_append.mp hs with hs | hs
  ·exact J4 _ s hs
  ·exact C2 hg s hs
 refine ⟨?_,fun s hs=>(vk pr).pr s (List.mem_reverse.mp hs)⟩
 rw [JI pr,pz,N5 N9 N8,FR hg,<- T4.assoc,(JZ (C3 hg)).2,T4.one_mul]
end af
namespace L4
open PySem PySem.Spec L2
inductive D where
 | non | bl (b:Bool) | int (i:Int) | str (x:Str) | ty (n:String) | tup (ds:List D) | ref (i:Nat)
instance:Inhabited D:=⟨.non⟩
inductive O where
 | lst (ds:List D) | pd (ds:List D) | dct (kvs:List (Key×D)) | C5 (kvs:List (List Int×D)) | exc (c:Str) (fs:List (Str×D)) | any | iF (lo hi:Int)
abbrev Store:=List O
abbrev au:=List (Option D)
abbrev Dm (α:Type):=Store->Option (α×Store)
inductive Fl where
 | nx (δ:au) | bk (δ:au) | ct (δ:au) | rt (d:D)
mutual
inductive Rp (K:PySem.W.Frag) (ρ:List Addr) (H:Hp):V->D->Prop
 | non:Rp K ρ H .non .non
 | bl (b:Bool):Rp K ρ H (.bl b) (.bl b)
 | int (i:Int):Rp K ρ H (.int i) (.int i)
 | str (x:Str):Rp K ρ H (.str x) (.str x)
 | ty (n:String):Rp K ρ H (.ty n) (.ty n)
 | ref {a:Addr} {i:Nat}:ρ[i]?=some a->Rp K ρ H (.ref a) (.ref i)
 | tup {a:Addr} {vs:List V} {ds:List D}:d9 K H a vs->cB K ρ H vs ds->Rp K ρ H (.ref a) (.tup ds)
inductive cB (K:PySem.W.Frag) (ρ:List Addr) (H:Hp):List V->List D->Prop
 | nil:cB K ρ H [] []
 | cons {v:V} {vs:List V} {d:D} {ds:List D}:Rp K ρ H v d->cB K ρ H vs ds->cB K ρ H (v :: vs) (d :: ds)
end
structure Mn (K:PySem.W.Frag) (ρ:List Addr) (H:Hp) (ρ':List Addr) (H':Hp):Prop where
 r:∀ (i:Nat) (a:Addr),ρ[i]?=some a->ρ'[i]?=some a
 t:∀ a vs,d9 K H a vs->d9 K H' a vs
 f:∀ a o u,H a=some (.mK o u)->H' a=some (.mK o u)
 x:∀ a ws,H a=some (.xd ws)->H' a=some (.xd ws)
section
variable {K:PySem.W.Frag} {ρ ρ' ρ2:List Addr} {H H' H2:Hp}
theorem Mn.refl:Mn K ρ H ρ H:=⟨fun _ _ h=>h,fun _ _ h=>h,fun _ _ _ h=>h,fun _ _ h=>h⟩
theorem Mn.trans (m:Mn K ρ H ρ' H') (n:Mn K ρ' H' ρ2 H2):Mn K ρ H ρ2 H2:=⟨fun i a h=>n.r i a (m.r i a h),fun a vs h=>n.t a vs (m.t a vs h),fun a o u h=>n.f a o u (m.f a o u h),fun a ws h=>n.x a ws (m.x a ws h)⟩
mutual
theorem Rp.mn (m:Mn K ρ H ρ' H'):∀ {v:V} {d:D},Rp K ρ H v d->Rp K ρ' H' v d
 | _,_,.non=>.non
 | _,_,.bl b=>.bl b
 | _,_,.int i=>.int i
 | _,_,.str x=>.str x
 | _,_,.ty n=>.ty n
 | _,_,.ref e=>.ref (m.r _ _ e)
 | _,_,.tup q r=>.tup (m.t _ _ q) (cB.mn m r)
theorem cB.mn (m:Mn K ρ H ρ' H'):∀ {vs:List V} {ds:List D},cB K ρ H vs ds->cB K ρ' H' vs ds
 | _,_,.nil=>.nil
 | _,_,.cons a b=>.cons (Rp.mn m a) (cB.mn m b)
end
theorem cB.length:∀ {vs:List V} {ds:List D},cB K ρ H vs ds->vs.length=ds.length
 | _,_,.nil=>rfl
 | _,_,.cons _ r=>by rw [List.length_cons,List.length_cons,r.length]
theorem cB.got:∀ {vs:List V} {ds:List D},cB K ρ H vs ds->∀ {i:Nat} {d:D},ds[i]?=some d->∃ v,vs[i]?=some v/\Rp K ρ H v d
 | _,_,.nil,i,v,e=>by simp at e
 | _,_,.cons (v:=v) a b,0,d,e=>⟨v,by simp,by have:_=d:=Option.some.inj (by simpa using e);rw [<- this];exact a⟩
 | _,_,.cons a b,i + 1,d,e=>by
  obtain ⟨v,e1,r⟩:=cB.got b (i:=i) (by simpa using e)
  exact ⟨v,by simpa using e1,r⟩
theorem cB.append:∀ {vs:List V} {ds:List D} {ws:List V} {es:List D},cB K ρ H vs ds->cB K ρ H ws es->cB K ρ H (vs ++ ws) (ds ++ es)
 | _,_,_,_,.nil,s=>s
 | _,_,_,_,.cons a b,s=>.cons a (cB.append b s)
theorem cB.one {v:V} {d:D} (r:Rp K ρ H v d):cB K ρ H [v] [d]:=.cons r .nil
theorem cB.take:∀ {vs:List V} {ds:List D} (n:Nat),cB K ρ H vs ds->cB K ρ H (vs.take n) (ds.take n)
 | _,_,0,_=>.nil
 | _,_,_ + 1,.nil=>.nil
 | _,_,n + 1,.cons r t=>.cons r (cB.take n t)
theorem cB.drop:∀ {vs:List V} {ds:List D} (n:Nat),cB K ρ H vs ds->cB K ρ H (vs.drop n) (ds.drop n)
 | _,_,0,r=>r
 | _,_,_ + 1,.nil=>.nil
 | _,_,n + 1,.cons _ t=>cB.drop n t
theorem cB.set {v:V} {d:D} (r:Rp K ρ H v d):∀ {vs:List V} {ds:List D} (i:Nat),cB K ρ H vs ds->cB K ρ H (vs.set i v) (ds.set i d)
 | _,_,_,.nil=>.nil
 | _,_,0,.cons _ t=>.cons r t
 | _,_,i + 1,.cons q t=>.cons q (cB.set r i t)
theorem cB.erase:∀ {vs:List V} {ds:List D} (i:Nat),cB K ρ H vs ds->cB K ρ H (vs.eraseIdx i) (ds.eraseIdx i)
 | _,_,_,.nil=>.nil
 | _,_,0,.cons _ t=>t
 | _,_,i + 1,.cons q t=>.cons q (cB.erase i t)
theorem cB.flat {vs:List V} {ds:List D} (r:cB K ρ H vs ds):∀ n:Nat,cB K ρ H (List.replicate n vs).flatten (List.replicate n ds).flatten
 | 0=>.nil
 | n + 1=>by rw [List.replicate_succ,List.replicate_succ,List.flatten_cons,List.flatten_cons];exact r.append (r.flat n)
theorem cB.ints:∀ (ns:List Int),cB K ρ H (ns.map V.int) (ns.map D.int)
 | []=>.nil
 | n :: r=>.cons (.int n) (cB.ints r)
end
def Rs (K:PySem.W.Frag) (ρ:List Addr) (H:Hp) (σ:St) (δ:au):Prop:=σ.length=δ.length/\∀ (i:Nat) (d:D),δ[i]?=some (some d)->∃ v,σ[i]?=some (some v)/\Rp K ρ H v d
def Rk (K:PySem.W.Frag) (ρ:List Addr) (H:Hp):List (Key×V)->List (Key×D)->Prop:=Paired fun p q=>p.1=q.1/\Rp K ρ H p.2 q.2
def Ru (K:PySem.W.Frag) (ρ:List Addr) (H:Hp):List (List Int×D)->List (List Int×Addr×Value)->Prop:=Paired fun q x=>q.1=x.1/\d9 K H x.2.1 (x.1.map V.int)/\∃ v,RelV v x.2.2/\Rp K ρ H v q.2
def Xd (K:PySem.W.Frag) (ρ:List Addr) (H:Hp):Option Addr->List (Str×D)->Prop
 | none,fs=>fs=[]
 | some d,fs=>∃ ws,H d=some (.xd ws)/\∀ f e,fs.lookup f=some e->∃ v,ws.lookup f=some v/\Rp K ρ H v e
def tN (K:PySem.W.Frag) (ρ:List Addr) (H:Hp) (a:Addr):O->Prop
 | .lst ds=>∃ vs,H a=some (.lst vs)/\cB K ρ H vs ds
 | .pd ds=>∃ vs,y3 K H a vs/\cB K ρ H vs ds
 | .dct kvs=>∃ ws,H a=some (.dK ws)/\Rk K ρ H ws kvs
 | .C5 kvs=>∃ xs,H a=some (DU a xs)/\Ru K ρ H kvs xs
 | .exc c fs=>∃ C dx tr,PySem.W.nsIn K mainGlobals c=some (some (.ref C))/\H a=some (XO a C dx tr)/\Xd K ρ H dx fs
 | .any=>True
 | .iF lo hi=>H a=some (.iF lo hi)
def O.mut:O->Bool
 | .pd _=>false
 | .any=>false
 | _=>true
structure Rl (K:PySem.W.Frag) (ρ:List Addr) (H:Hp) (st:Store):Prop where
 len:ρ.length=st.length
 nd:∀ (i j:Nat) (a:Addr) (o o':O),ρ[i]?=some a->ρ[j]?=some a->st[i]?=some o->st[j]?=some o'->o.mut=true->o'.mut=true->i=j
 obj:∀ (i:Nat) (a:Addr) (o:O),ρ[i]?=some a->st[i]?=some o->tN K ρ H a o
section
variable {K:PySem.W.Frag} {ρ ρ' ρ2:List Addr} {H H' H2:Hp} {st st':Store} {a p:Addr} {i:Nat} {o o':O} {ho:HO} {σ:St} {δ:au}
theorem Rs.mn (h:Rs K ρ H σ δ) (m:Mn K ρ H ρ' H'):Rs K ρ' H' σ δ:=⟨h.1,fun i d e=>let ⟨v,e1,r⟩:=h.2 i d e;⟨v,e1,r.mn m⟩⟩
theorem Rk.mn (m:Mn K ρ H ρ' H') {ws:List (Key×V)} {kvs:List (Key×D)} (h:Rk K ρ H ws kvs):Rk K ρ' H' ws kvs:=by
 induction h with
 | nil=>exact .nil
 | cons a _ ih=>exact .cons ⟨a.1,a.2.mn m⟩ ih
theorem Ru.mn (m:Mn K ρ H ρ' H') {kvs:List (List Int×D)} {xs:List (List Int×Addr×Value)} (h:Ru K ρ H kvs xs):Ru K ρ' H' kvs xs:=by
 induction h with
 | nil=>exact .nil
 | cons a _ ih=>obtain ⟨a1,a2,v,a3,a4⟩:=a;exact .cons ⟨a1,m.t _ _ a2,v,a3,a4.mn m⟩ ih
theorem Xd.mn (m:Mn K ρ H ρ' H') {dx:Option Addr} {fs:List (Str×D)} (h:Xd K ρ H dx fs):Xd K ρ' H' dx fs:=by
 cases dx with
 | none=>exact h
 | some d=>obtain ⟨ws,e,q⟩:=h;exact ⟨ws,m.x _ _ e,fun f e' z=>let ⟨v,z1,z2⟩:=q f e' z;⟨v,z1,z2.mn m⟩⟩
theorem tN.keep (m:Mn K ρ H ρ' H') (h:∀ u,H a=some u->H' a=some u) (r:tN K ρ H a o):tN K ρ' H' a o:=by
 cases o with
 | lst ds=>obtain ⟨vs,e,q⟩:=r;exact ⟨vs,h _ e,q.mn m⟩
 | pd ds =>
  obtain ⟨vs,e,q⟩:=r
  refine ⟨vs,?_,q.mn m⟩
  rcases e with ⟨u,e⟩ | e
  ·exact .inl ⟨u,h _ e⟩
  ·exact .inr e
 | dct kvs=>obtain ⟨ws,e,q⟩:=r;exact ⟨ws,h _ e,q.mn m⟩
 | C5 kvs=>obtain ⟨ws,e,q⟩:=r;exact ⟨ws,h _ e,q.mn m⟩
 | exc c fs=>obtain ⟨C,dx,tr,n,e,q⟩:=r;exact ⟨C,dx,tr,n,h _ e,q.mn m⟩
 | any=>trivial
 | iF lo hi=>exact h _ r
theorem Mn.same (s:iE H H'):Mn K ρ H ρ H':=⟨fun _ _ h=>h,fun _ _ h=>(Kp.of_same (ch:=[]) s).Fn h,fun _ _ _ h=>s _ _ h,fun _ _ h=>s _ _ h⟩
theorem Rl.same (l:Rl K ρ H st) (s:iE H H'):Rl K ρ H' st:=⟨l.len,l.nd,fun i a o h1 h2=>(l.obj i a o h1 h2).keep (Mn.same s) fun u e=>s _ _ e⟩
theorem Rl.at (l:Rl K ρ H st) (h1:ρ[i]?=some a) (h2:st[i]?=some o) (hm:o.mut=true):∃ u,H a=some u/\∀ x y,u≠.mK x y:=by
 have r:=l.obj i a o h1 h2
 cases o with
 | lst ds=>obtain ⟨vs,e,_⟩:=r;exact ⟨_,e,fun x y z=>nomatch z⟩
 | pd ds=>cases hm
 | dct kvs=>obtain ⟨ws,e,_⟩:=r;exact ⟨_,e,fun x y z=>nomatch z⟩
 | C5 kvs=>obtain ⟨ws,e,_⟩:=r;exact ⟨_,e,fun x y z=>by cases z⟩
 | exc c fs=>obtain ⟨C,dx,tr,_,e,_⟩:=r;exact ⟨_,e,fun x y z=>by cases z⟩
 | any=>cases hm
 | iF lo hi=>exact ⟨_,r,fun x y z=>nomatch z⟩
theorem Mn.new (hp:H p=none):Mn K ρ H (ρ ++ [p]) (upd H p ho):=⟨fun i a h=>by
  obtain ⟨hi,_⟩:=List.getElem?_eq_some_iff.mp h
  rw [List.getElem?_append_left hi];exact h,fun _ _ h=>(Kp.of_same (ch:=[]) (iE.up hp)).Fn h,fun _ _ _ h=>iE.up hp _ _ h,fun _ _ h=>iE.up hp _ _ h⟩
theorem Rl.new (l:Rl K ρ H st) (hp:H p=none) (mk:tN K (ρ ++ [p]) (upd H p ho) p o):Rl K (ρ ++ [p]) (upd H p ho) (st ++ [o]):=by
 have m:Mn K ρ H (ρ ++ [p]) (upd H p ho):=Mn.new hp
 have split:∀ (i:Nat) (a:Addr) (o':O),(ρ ++ [p])[i]?=some a->(st ++ [o])[i]?=some o'->(ρ[i]?=some a/\st[i]?=some o')\/(i=ρ.length/\a=p/\o'=o):=fun i a o' h1 h2=>by
  by_cases hi:i < ρ.length
  ·rw [List.getElem?_append_left hi] at h1
   rw [List.getElem?_append_left (by rw [<- l.len];exact hi)] at h2
   exact .inl ⟨h1,h2⟩
  ·obtain ⟨hb,_⟩:=List.getElem?_eq_some_iff.mp h1
   rw [List.length_append,List.length_singleton] at hb
   have e:i=ρ.length:=by omega
   subst e
   rw [List.getElem?_append_right (Nat.le_refl _),Nat.sub_self] at h1
   rw [l.len,List.getElem?_append_right (Nat.le_refl _),Nat.sub_self] at h2
   exact .inr ⟨rfl,(Option.some.inj h1).symm,(Option.some.inj h2).symm⟩
 refine ⟨by rw [List.length_append,List.length_append,l.len];rfl,fun i j a u u' h1 h2 h3 h4 m1 m2=>?_,fun i a u h1 h2=>?_⟩
 ·rcases split i a u h1 h3 with ⟨g1,g2⟩ | ⟨rfl,rfl,rfl⟩ <;> rcases split j _ u' h2 h4 with ⟨k1,k2⟩ | ⟨k1,k2,k3⟩
  ·exact l.nd i j a u u' g1 k1 g2 k2 m1 m2
  ·subst k2
   obtain ⟨w,e,_⟩:=l.at g1 g2 m1
   rw [e] at hp;cases hp
  ·obtain ⟨w,e,_⟩:=l.at k1 k2 m2
   rw [e] at hp;cases hp
  ·exact k1.symm
 ·rcases split i a u h1 h2 with ⟨g1,g2⟩ | ⟨rfl,rfl,rfl⟩
  ·exact (l.obj i a u g1 g2).keep m fun w e=>iE.up hp _ _ e
  ·exact mk
theorem Rl.put (l:Rl K ρ H st) (hi:ρ[i]?=some a) (hs:st[i]?=some o) (hm:o.mut=true) (hm':o'.mut=true) (m:Mn K ρ H ρ (upd H a ho)) (r:tN K ρ (upd H a ho) a o'):Rl K ρ (upd H a ho) (st.set i o'):=by
 obtain ⟨w,ew,nf⟩:=l.at hi hs hm
 have Oa:i < st.length:=(List.getElem?_eq_some_iff.mp hs).1
 have old:∀ (j:Nat) (u:O),(st.set i o')[j]?=some u->(j=i/\u=o')\/(j≠i/\st[j]?=some u):=fun j u h=>by
  by_cases hj:i=j
  ·subst hj
   rw [List.getElem?_set_self Oa] at h
   exact .inl ⟨rfl,(Option.some.inj h).symm⟩
  ·rw [List.getElem?_set_ne hj] at h
   exact .inr ⟨fun z=>hj z.symm,h⟩
 refine ⟨by rw [List.length_set];exact l.len,fun j k b u u' h1 h2 h3 h4 m1 m2=>?_,fun j b u h1 h2=>?_⟩
 ·rcases old j u h3 with ⟨rfl,rfl⟩ | ⟨nj,g3⟩ <;> rcases old k u' h4 with ⟨rfl,rfl⟩ | ⟨nk,g4⟩
  ·rfl
  ·exact l.nd _ _ b o u' h1 h2 hs g4 hm m2
  ·exact l.nd _ _ b u o h1 h2 g3 hs m1 hm
  ·exact l.nd _ _ b u u' h1 h2 g3 g4 m1 m2
 ·rcases old j u h2 with ⟨rfl,rfl⟩ | ⟨nj,g2⟩
  ·rw [hi] at h1;cases h1;exact r
  ·by_cases hb:b=a
   ·subst hb
    cases u with
    | pd ds =>
     obtain ⟨vs,e,q⟩:=l.obj j b _ h1 g2
     refine ⟨vs,?_,q.mn m⟩
     rcases e with ⟨x,e⟩ | e
     ·rw [ew] at e;cases e;exact absurd rfl (nf _ _)
     ·exact .inr e
    | lst ds=>exact absurd (l.nd j i b _ o h1 hi g2 hs rfl hm) nj
    | C5 ds=>exact absurd (l.nd j i b _ o h1 hi g2 hs rfl hm) nj
    | exc c fs=>exact absurd (l.nd j i b _ o h1 hi g2 hs rfl hm) nj
    | dct ds=>exact absurd (l.nd j i b _ o h1 hi g2 hs rfl hm) nj
    | any=>trivial
    | iF lo up=>exact absurd (l.nd j i b _ o h1 hi g2 hs rfl hm) nj
   ·exact (l.obj j b u h1 g2).keep m fun w e=>by rw [je hb];exact e
theorem Mn.put {xs:List V} (e:H a=some (.lst xs)):Mn K ρ H ρ (upd H a ho):=⟨fun _ _ h=>h,fun b vs h=>(Kp.put (ch:=[a]) (o:=ho) Kp.refl (by simp) e).Fn h,fun b o u h=>by rw [je (fun z=>by rw [z,e] at h;cases h)];exact h,fun b ws h=>by rw [je (fun z=>by rw [z,e] at h;cases h)];exact h⟩
theorem Mn.putD {ws:List (Key×V)} (e:H a=some (.dK ws)):Mn K ρ H ρ (upd H a ho):=⟨fun _ _ h=>h,fun b vs q=>by
 have ne:∀ u,H b=some u->(∀ w,u≠.dK w)->b≠a:=fun u hu n z=>by rw [z,e] at hu;cases hu;exact n _ rfl
 rcases q with (q | ⟨o,q⟩) | q
 ·exact .inl (.inl (by rw [je (ne _ q fun w z=>nomatch z)];exact q))
 ·exact .inl (.inr ⟨o,by rw [je (ne _ q fun w z=>nomatch z)];exact q⟩)
 ·exact .inr q,fun b o u h=>by rw [je (fun z=>by rw [z,e] at h;cases h)];exact h,fun b ws h=>by rw [je (fun z=>by rw [z,e] at h;cases h)];exact h⟩
theorem Rl.newL {vs:List V} {ds:List D} (l:Rl K ρ H st) (hp:H p=none) (r:cB K ρ H vs ds):Rl K (ρ ++ [p]) (upd H p (.lst vs)) (st ++ [.lst ds]):=l.new hp ⟨vs,pk,r.mn (Mn.new hp)⟩
theorem Rl.newD {vs:List (Key×V)} {ds:List (Key×D)} (l:Rl K ρ H st) (hp:H p=none) (r:Rk K ρ H vs ds):Rl K (ρ ++ [p]) (upd H p (.dK vs)) (st ++ [.dct ds]):=l.new hp ⟨vs,pk,r.mn (Mn.new hp)⟩
theorem newR (l:Rl K ρ H st) (v:D:=.ref st.length):(ρ ++ [p])[st.length]?=some p:=by rw [<- l.len,List.getElem?_append_right (Nat.le_refl _),Nat.sub_self];rfl
theorem Rl.putL {vs:List V} {ds xs:List D} (l:Rl K ρ H st) (hi:ρ[i]?=some a) (hs:st[i]?=some (.lst xs)) (r:cB K ρ H vs ds):Rl K ρ (upd H a (.lst vs)) (st.set i (.lst ds))/\Mn K ρ H ρ (upd H a (.lst vs)):=by
 obtain ⟨ws,e,_⟩:=l.obj i a _ hi hs
 have m:Mn K ρ H ρ (upd H a (.lst vs)):=Mn.put e
 exact ⟨l.put hi hs rfl rfl m ⟨vs,pk,r.mn m⟩,m⟩
theorem Rl.vz {vs:List (Key×V)} {ds xs:List (Key×D)} (l:Rl K ρ H st) (hi:ρ[i]?=some a) (hs:st[i]?=some (.dct xs)) (r:Rk K ρ H vs ds):Rl K ρ (upd H a (.dK vs)) (st.set i (.dct ds))/\Mn K ρ H ρ (upd H a (.dK vs)):=by
 obtain ⟨ws,e,_⟩:=l.obj i a _ hi hs
 have m:Mn K ρ H ρ (upd H a (.dK vs)):=Mn.putD e
 exact ⟨l.put hi hs rfl rfl m ⟨vs,pk,r.mn m⟩,m⟩
def items (st:Store) (i:Nat):Option (List D):=match st[i]? with
 | some (.lst ds)=>some ds
 | some (.pd ds)=>some ds
 | _=>none
theorem Rl.items {ds:List D} (l:Rl K ρ H st) (hi:ρ[i]?=some a) (h:items st i=some ds):∃ vs,jf K H a vs/\cB K ρ H vs ds:=by
 unfold L4.items at h
 split at h
 ·next ds' hs=>cases h;obtain ⟨vs,e,r⟩:=l.obj i a _ hi hs;exact ⟨vs,.inl (.inl e),r⟩
 ·next ds' hs=>cases h;obtain ⟨vs,e,r⟩:=l.obj i a _ hi hs;exact ⟨vs,e.sq,r⟩
 ·cases h
end
def So (K:PySem.W.Frag) {α β:Type} (R:List Addr->Hp->α->β->Prop) (t:St->Hp->(α->Hp->Prop)->Prop) (f:au->Dm β):Prop :=
 ∀ (ρ:List Addr) (σ:St) (H:Hp) (δ:au) (st:Store) (b:β) (st':Store) (Q:α->Hp->Prop),Rl K ρ H st->Rs K ρ H σ δ->f δ st=some (b,st') ->
  (∀ a H' ρ',Mn K ρ H ρ' H'->Rl K ρ' H' st'->R ρ' H' a b->Q a H')->t σ H Q
abbrev gp (K:PySem.W.Frag) (t:TE) (f:au->Dm D):Prop:=So K (Rp K) t f
abbrev oN (K:PySem.W.Frag) (t:TT) (f:au->Dm Bool):Prop:=So K (fun _ _=>Eq) t f
abbrev pC (K:PySem.W.Frag) (t:TA) (f:au->Dm (List D)):Prop:=So K (cB K) t f
abbrev C6 (K:PySem.W.Frag) (t:TO) (f:au->Dm (Option Int)):Prop:=So K (fun _ _=>Eq) t f
def Ga (K:PySem.W.Frag) (r:V->Hp->VK->Prop) (g:D->Dm D):Prop :=
 ∀ (ρ:List Addr) (H:Hp) (st:Store) (x:V) (a:D) (b:D) (st':Store) (Q:VK),Rl K ρ H st->Rp K ρ H x a->g a st=some (b,st')->(∀ v H' ρ',Mn K ρ H ρ' H'->Rl K ρ' H' st'->Rp K ρ' H' v b->Q v H')->r x H Q
def lA (K:PySem.W.Frag) (r:R2) (g:D->D->Dm D):Prop :=
 ∀ (ρ:List Addr) (H:Hp) (st:Store) (x y:V) (a c:D) (b:D) (st':Store) (Q:VK),Rl K ρ H st->Rp K ρ H x a->Rp K ρ H y c->g a c st=some (b,st')->(∀ v H' ρ',Mn K ρ H ρ' H'->Rl K ρ' H' st'->Rp K ρ' H' v b->Q v H')->r x y H Q
def pD (K:PySem.W.Frag) (r:List V->Hp->VK->Prop) (g:List D->Dm D):Prop :=
 ∀ (ρ:List Addr) (H:Hp) (st:Store) (xs:List V) (as:List D) (b:D) (st':Store) (Q:VK),Rl K ρ H st->cB K ρ H xs as->g as st=some (b,st')->(∀ v H' ρ',Mn K ρ H ρ' H'->Rl K ρ' H' st'->Rp K ρ' H' v b->Q v H')->r xs H Q
def zM (K:PySem.W.Frag) (T:String) (r:V->List V->Hp->VK->Prop) (g:D->List D->Dm D):Prop :=
 ∀ (ρ:List Addr) (H:Hp) (st:Store) (x:V) (xs:List V) (a:D) (as:List D) (b:D) (st':Store) (Q:VK),Rl K ρ H st->Rp K ρ H x a->cB K ρ H xs as->g a as st=some (b,st')->(∀ v H' ρ',Mn K ρ H ρ' H'->Rl K ρ' H' st'->Rp K ρ' H' v b->Q v H')->r x xs H Q
def bnd {α β:Type} (m:Option (α×Store)) (k:α->Dm β):Option (β×Store):=match m with
 | some (a,st)=>k a st
 | none=>none
theorem dU {α β:Type} {m:Option (α×Store)} {k:α->Dm β} {r:β×Store} (h:bnd m k=some r):∃ a st,m=some (a,st)/\k a st=some r:=by
 cases m with
 | none=>cases h
 | some p=>exact ⟨p.1,p.2,rfl,h⟩
section
variable {K:PySem.W.Frag}
def ag (i:Nat):au->Dm D:=fun δ st=>match δ[i]? with
 | some (some d)=>some (d,st)
 | _=>none
theorem ai (i:Nat):gp K (uB i) (ag i):=by
 intro ρ σ H δ st b st' Q l rs e q
 unfold ag at e
 split at e
 ·next d hd=>cases e;obtain ⟨v,ev,r⟩:=rs.2 i _ hd;exact ⟨v,ev,q v H ρ .refl l r⟩
 ·cases e
def fC (d:D):au->Dm D:=fun _ st=>some (d,st)
theorem rV {v:V} {d:D} (h:∀ ρ H,Rp K ρ H v d):gp K (tC v) (fC d):=by
 intro ρ σ H δ st b st' Q l rs e q
 cases e
 exact q v H ρ .refl l (h ρ H)
theorem aJ (i:Int):gp K (tC (.int i)) (fC (.int i)):=rV fun _ _=>.int i
theorem zN (b:Bool):gp K (tC (.bl b)) (fC (.bl b)):=rV fun _ _=>.bl b
theorem md (x:Str):gp K (tC (.str x)) (fC (.str x)):=rV fun _ _=>.str x
def aA (g:D->D->Dm D) (fa fb:au->Dm D):au->Dm D:=fun δ st=>bnd (fa δ st) fun a st1=>bnd (fb δ st1) fun b st2=>g a b st2
theorem aB {r:R2} {g:D->D->Dm D} {ta tb:TE} {fa fb:au->Dm D} (hr:lA K r g) (ha:gp K ta fa) (hb:gp K tb fb):gp K (yF r ta tb) (aA g fa fb):=by
 intro ρ σ H δ st b st' Q l rs e q
 obtain ⟨a,st1,e1,e⟩:=dU e
 obtain ⟨c,st2,e2,e⟩:=dU e
 refine ha ρ σ H δ st a st1 _ l rs e1 fun x H1 ρ1 m1 l1 r1=>hb ρ1 σ H1 δ st1 c st2 _ l1 (rs.mn m1) e2 fun y H2 ρ2 m2 l2 r2=>?_
 exact hr ρ2 H2 st2 x y a c b st' Q l2 (r1.mn m2) r2 e fun v H3 ρ3 m3 l3 r3=>q v H3 ρ3 ((m1.trans m2).trans m3) l3 r3
def pE (g:D->Dm D) (fa:au->Dm D):au->Dm D:=fun δ st=>bnd (fa δ st) fun a st1=>g a st1
theorem qU {r:V->Hp->VK->Prop} {g:D->Dm D} {ta:TE} {fa:au->Dm D} (hr:Ga K r g) (ha:gp K ta fa):gp K (Hy r ta) (pE g fa):=by
 intro ρ σ H δ st b st' Q l rs e q
 obtain ⟨a,st1,e1,e⟩:=dU e
 exact ha ρ σ H δ st a st1 _ l rs e1 fun x H1 ρ1 m1 l1 r1=>hr ρ1 H1 st1 x a b st' Q l1 r1 e fun v H3 ρ3 m3 l3 r3=>q v H3 ρ3 (m1.trans m3) l3 r3
def ah:au->Dm (List D):=fun _ st=>some ([],st)
def ae (fa:au->Dm D) (fr:au->Dm (List D)):au->Dm (List D):=fun δ st=>bnd (fa δ st) fun a st1=>bnd (fr δ st1) fun r st2=>some (a :: r,st2)
theorem ay:pC K yK ah:=by
 intro ρ σ H δ st b st' Q l rs e q
 cases e
 exact q [] H ρ .refl l .nil
theorem aq {ta:TE} {tr:TA} {fa:au->Dm D} {fr:au->Dm (List D)} (ha:gp K ta fa) (hr:pC K tr fr):pC K (sI ta tr) (ae fa fr):=by
 intro ρ σ H δ st b st' Q l rs e q
 obtain ⟨a,st1,e1,e⟩:=dU e
 obtain ⟨c,st2,e2,e⟩:=dU e
 cases e
 exact ha ρ σ H δ st a st1 _ l rs e1 fun x H1 ρ1 m1 l1 r1=>hr ρ1 σ H1 δ st1 c _ _ l1 (rs.mn m1) e2 fun y H2 ρ2 m2 l2 r2=>q _ H2 ρ2 (m1.trans m2) l2 (.cons (r1.mn m2) r2)
def lim (n:Nat):Bool:=Nat.ble n 100000
theorem zO {n:Nat} (h:lim n=true):n<=sizeLine:=Nat.le_trans (Nat.le_of_ble_eq_true h) (by decide)
theorem Gb {n:Nat} (h:lim n=true):n < sizeLine:=Nat.lt_of_le_of_lt (Nat.le_of_ble_eq_true h) (by decide)
def bB (fa:au->Dm (List D)):au->Dm D:=fun δ st=>bnd (fa δ st) fun as st1=>if lim as.length=true then some (.tup as,st1) else none
theorem eC {ta:TA} {fa:au->Dm (List D)} (ha:pC K ta fa):gp K (yL ta) (bB fa):=by
 intro ρ σ H δ st b st' Q l rs e q
 obtain ⟨as,st1,e1,e⟩:=dU e
 split at e
 ·next hl =>
  cases e
  refine ha ρ σ H δ st as _ _ l rs e1 fun xs H1 ρ1 m1 l1 r1=>⟨by rw [r1.length];exact zO hl,fun p hp=>?_⟩
  have m2:Mn K ρ1 H1 ρ1 (upd H1 p (.tup xs)):=Mn.same (iE.up hp)
  exact q _ _ ρ1 (m1.trans m2) (l1.same (iE.up hp)) (.tup (d9.of pk) (r1.mn m2))
 ·cases e
def eD (fa:au->Dm (List D)):au->Dm D:=fun δ st=>bnd (fa δ st) fun as st1=>if lim as.length=true then some (.ref st1.length,st1 ++ [.lst as]) else none
theorem mr {ta:TA} {fa:au->Dm (List D)} (ha:pC K ta fa):gp K (yM ta) (eD fa):=by
 intro ρ σ H δ st b st' Q l rs e q
 obtain ⟨as,st1,e1,e⟩:=dU e
 split at e
 ·next hl =>
  cases e
  refine ha ρ σ H δ st as _ _ l rs e1 fun xs H1 ρ1 m1 l1 r1=>⟨by rw [r1.length];exact zO hl,fun p hp=>?_⟩
  exact q _ _ _ (m1.trans (Mn.new hp)) (l1.newL hp r1) (.ref (newR l1))
 ·cases e
def aP (fa:au->Dm D):au->Dm Bool:=fun δ st=>bnd (fa δ st) fun a st1=>match a with
 | .bl b=>some (b,st1)
 | _=>none
theorem gN {ta:TE} {fa:au->Dm D} (ha:gp K ta fa):oN K (sH ta) (aP fa):=by
 intro ρ σ H δ st b st' Q l rs e q
 obtain ⟨a,st1,e1,e⟩:=dU e
 cases a <;> simp at e
 obtain ⟨rfl,rfl⟩:=e
 refine ha ρ σ H δ st _ _ _ l rs e1 fun x H1 ρ1 m1 l1 r1=>?_
 cases r1
 exact ⟨_,rfl,q _ H1 ρ1 m1 l1 rfl⟩
theorem tO {ta:TE} {fa:au->Dm D} (ha:gp K ta fa):oN K (tB ta) (aP fa):=gN ha
def rW (fa:au->Dm Bool):au->Dm Bool:=fun δ st=>bnd (fa δ st) fun a st1=>some (!a,st1)
theorem vA {ta:TT} {fa:au->Dm Bool} (ha:oN K ta fa):oN K (yu ta) (rW fa):=by
 intro ρ σ H δ st b st' Q l rs e q
 obtain ⟨a,st1,e1,e⟩:=dU e
 cases e
 exact ha ρ σ H δ st _ _ _ l rs e1 fun x H1 ρ1 m1 l1 r1=>q _ H1 ρ1 m1 l1 (by rw [r1])
def qi (fa fb:au->Dm Bool):au->Dm Bool:=fun δ st=>bnd (fa δ st) fun a st1=>if a=true then fb δ st1 else some (false,st1)
def xQ (fa fb:au->Dm Bool):au->Dm Bool:=fun δ st=>bnd (fa δ st) fun a st1=>if a=true then some (true,st1) else fb δ st1
theorem J7 {ta tb:TT} {fa fb:au->Dm Bool} (ha:oN K ta fa) (hb:oN K tb fb):oN K (yt ta tb) (qi fa fb):=by
 intro ρ σ H δ st b st' Q l rs e q
 obtain ⟨a,st1,e1,e⟩:=dU e
 refine ha ρ σ H δ st _ _ _ l rs e1 fun x H1 ρ1 m1 l1 r1=>?_
 subst r1
 cases x with
 | true =>
  refine o7 ?_
  rw [if_pos rfl] at e
  exact hb ρ1 σ H1 δ st1 b st' _ l1 (rs.mn m1) e fun y H2 ρ2 m2 l2 r2=>q y H2 ρ2 (m1.trans m2) l2 r2
 | false =>
  refine o6 ?_
  rw [if_neg Bool.false_ne_true] at e
  cases e
  exact q _ H1 ρ1 m1 l1 rfl
theorem Gd {ta tb:TT} {fa fb:au->Dm Bool} (ha:oN K ta fa) (hb:oN K tb fb):oN K (Hr ta tb) (xQ fa fb):=by
 intro ρ σ H δ st b st' Q l rs e q
 obtain ⟨a,st1,e1,e⟩:=dU e
 refine ha ρ σ H δ st _ _ _ l rs e1 fun x H1 ρ1 m1 l1 r1=>?_
 subst r1
 cases x with
 | false =>
  refine o6 ?_
  rw [if_neg Bool.false_ne_true] at e
  exact hb ρ1 σ H1 δ st1 b st' _ l1 (rs.mn m1) e fun y H2 ρ2 m2 l2 r2=>q y H2 ρ2 (m1.trans m2) l2 r2
 | true =>
  refine o7 ?_
  rw [if_pos rfl] at e
  cases e
  exact q _ H1 ρ1 m1 l1 rfl
def oO (fa fb:au->Dm D):au->Dm D:=fun δ st=>bnd (aP fa δ st) fun a st1=>if a=true then fb δ st1 else some (.bl false,st1)
def zP (fa fb:au->Dm D):au->Dm D:=fun δ st=>bnd (aP fa δ st) fun a st1=>if a=true then some (.bl true,st1) else fb δ st1
def tP (fa:au->Dm D):au->Dm D:=fun δ st=>bnd (aP fa δ st) fun a st1=>some (.bl (!a),st1)
theorem Ob {fa:au->Dm D} {δ:au} {st st1:Store} {b:Bool} (h:aP fa δ st=some (b,st1)):fa δ st=some (.bl b,st1):=by
 obtain ⟨a,st2,e1,e⟩:=dU h
 cases a <;> simp at e
 obtain ⟨rfl,rfl⟩:=e
 exact e1
theorem Oc {ta tb:TE} {fa fb:au->Dm D} (ha:gp K ta fa) (hb:gp K tb fb):gp K (sx ta tb) (oO fa fb):=by
 intro ρ σ H δ st b st' Q l rs e q
 obtain ⟨a,st1,e1,e⟩:=dU e
 refine ha ρ σ H δ st _ _ _ l rs (Ob e1) fun x H1 ρ1 m1 l1 r1=>?_
 cases r1
 refine ⟨a,rfl,?_⟩
 cases a with
 | true =>
  refine o7 ?_
  rw [if_pos rfl] at e
  exact hb ρ1 σ H1 δ st1 b st' _ l1 (rs.mn m1) e fun y H2 ρ2 m2 l2 r2=>q y H2 ρ2 (m1.trans m2) l2 r2
 | false =>
  refine o6 ?_
  rw [if_neg Bool.false_ne_true] at e
  cases e
  exact q _ H1 ρ1 m1 l1 (.bl _)
def jH {β:Type} (c:au->Dm Bool) (fa fb:au->Dm β):au->Dm β:=fun δ st=>bnd (c δ st) fun a st1=>if a=true then fa δ st1 else fb δ st1
def jh:au->Dm (Option Int):=fun _ st=>some (none,st)
def lQ (fa:au->Dm D):au->Dm (Option Int):=fun δ st=>bnd (fa δ st) fun a st1=>match a with
 | .int i=>some (some i,st1)
 | _=>none
theorem C7:C6 K oB jh:=by
 intro ρ σ H δ st b st' Q l rs e q
 cases e
 exact q _ H ρ .refl l rfl
theorem C8 {ta:TE} {fa:au->Dm D} (ha:gp K ta fa):C6 K (sM ta) (lQ fa):=by
 intro ρ σ H δ st b st' Q l rs e q
 obtain ⟨a,st1,e1,e⟩:=dU e
 cases a <;> simp at e
 obtain ⟨rfl,rfl⟩:=e
 refine ha ρ σ H δ st _ _ _ l rs e1 fun x H1 ρ1 m1 l1 r1=>?_
 cases r1
 exact ⟨_,rfl,q _ H1 ρ1 m1 l1 rfl⟩
def vB (K:PySem.W.Frag) (r:V->Option Int->Option Int->Hp->VK->Prop) (g:D->Option Int->Option Int->Dm D):Prop :=
 ∀ lo hi,Ga K (fun x=>r x lo hi) (fun a=>g a lo hi)
def vC (g:D->Option Int->Option Int->Dm D) (fa:au->Dm D) (fl fh:au->Dm (Option Int)):au->Dm D:=fun δ st=>bnd (fa δ st) fun a st1=>bnd (fl δ st1) fun lo st2=>bnd (fh δ st2) fun hi st3=>g a lo hi st3
theorem C9 {r:V->Option Int->Option Int->Hp->VK->Prop} {g:D->Option Int->Option Int->Dm D} {ta:TE} {tl th:TO} {fa:au->Dm D} {fl fh:au->Dm (Option Int)} (hr:vB K r g) (ha:gp K ta fa) (hl:C6 K tl fl) (hh:C6 K th fh):gp K (HY r ta tl th) (vC g fa fl fh):=by
 intro ρ σ H δ st b st' Q l rs e q
 obtain ⟨a,st1,e1,e⟩:=dU e
 obtain ⟨lo,st2,e2,e⟩:=dU e
 obtain ⟨hi,st3,e3,e⟩:=dU e
 refine ha ρ σ H δ st a st1 _ l rs e1 fun x H1 ρ1 m1 l1 r1=>hl ρ1 σ H1 δ st1 lo st2 _ l1 (rs.mn m1) e2 fun y H2 ρ2 m2 l2 r2=>hh ρ2 σ H2 δ st2 hi st3 _ l2 (rs.mn (m1.trans m2)) e3 fun z H3 ρ3 m3 l3 r3=>?_
 subst r2 r3
 exact hr y z ρ3 H3 st3 x a b st' Q l3 (r1.mn (m2.trans m3)) e fun v H4 ρ4 m4 l4 r4=>q v H4 ρ4 (((m1.trans m2).trans m3).trans m4) l4 r4
def aR (g:List D->Dm D) (fa:au->Dm (List D)):au->Dm D:=fun δ st=>bnd (fa δ st) fun as st1=>g as st1
theorem cv {r:List V->Hp->VK->Prop} {g:List D->Dm D} {ta:TA} {fa:au->Dm (List D)} (hr:pD K r g) (ha:pC K ta fa):gp K (E2 r ta) (aR g fa):=by
 intro ρ σ H δ st b st' Q l rs e q
 obtain ⟨as,st1,e1,e⟩:=dU e
 exact ha ρ σ H δ st as st1 _ l rs e1 fun x H1 ρ1 m1 l1 r1=>hr ρ1 H1 st1 x as b st' Q l1 r1 e fun v H3 ρ3 m3 l3 r3=>q v H3 ρ3 (m1.trans m3) l3 r3
def bj (K:PySem.W.Frag) (n:Nat) (F:List D->Dm D):Sp:=fun vs H Q _=>vs.length=n/\∃ (ρ:List Addr) (st:Store) (ds:List D) (b:D) (st':Store),Rl K ρ H st/\cB K ρ H vs ds/\F ds st=some (b,st') /\
 ∀ v H' ρ',Mn K ρ H ρ' H'->Rl K ρ' H' st'->Rp K ρ' H' v b->Q v H'
theorem bZ {n:Nat} {F:List D->Dm D} {ta:TA} {fa:au->Dm (List D)} {E:XK} (ha:pC K ta fa) (hn:∀ δ st as st',fa δ st=some (as,st')->as.length=n):gp K (sJ (bj K n F) [] E ta) (aR F fa):=by
 intro ρ σ H δ st b st' Q l rs e q
 obtain ⟨as,st1,e1,e⟩:=dU e
 refine ha ρ σ H δ st as st1 _ l rs e1 fun vs H1 ρ1 m1 l1 r1=>⟨?_,ρ1,st1,as,b,st',l1,?_,e,fun v H3 ρ3 m3 l3 r3=>q v H3 ρ3 (m1.trans m3) l3 r3⟩
 ·rw [List.append_nil,r1.length];exact hn _ _ _ _ e1
 ·rw [List.append_nil];exact r1
theorem b5 {δ:au} {st st':Store} {as:List D} (h:ah δ st=some (as,st')):as.length=0:=by cases h;rfl
theorem aV {fa:au->Dm D} {fr:au->Dm (List D)} {n:Nat} (hr:∀ δ st as st',fr δ st=some (as,st')->as.length=n):∀ δ st as st',ae fa fr δ st=some (as,st')->as.length=n + 1:=fun δ st as st' h=>by
 obtain ⟨a,st1,e1,e⟩:=dU h
 obtain ⟨c,st2,e2,e⟩:=dU e
 cases e
 rw [List.length_cons,hr _ _ _ _ e2]
end
end L4
namespace L4
open PySem PySem.Spec L2
section
variable {K:PySem.W.Frag}
def tQ (h:Int->Int->D):D->D->Dm D
 | .int i,.int j,st=>some (h i j,st)
 | _,_,_=>none
theorem zQ {gv:Int->Int->V} {h:Int->Int->D} (hh:∀ i j ρ H,Rp K ρ H (gv i j) (h i j)):lA K (o4 gv) (tQ h):=by
 intro ρ H st x y a c b st' Q l rx ry e q
 unfold tQ at e
 split at e
 ·cases e;cases rx;cases ry;exact ⟨_,_,rfl,rfl,q _ H ρ .refl l (hh _ _ ρ H)⟩
 ·cases e
def rX (c:Int->Int->Bool) (h:Int->Int->D):D->D->Dm D
 | .int i,.int j,st=>if c i j=true then some (h i j,st) else none
 | _,_,_=>none
theorem xR {C:Int->Int->Prop} {c:Int->Int->Bool} {gv:Int->Int->V} {h:Int->Int->D} (hc:∀ i j,c i j=true->C i j) (hh:∀ i j ρ H,Rp K ρ H (gv i j) (h i j)):lA K (rI C gv) (rX c h):=by
 intro ρ H st x y a d b st' Q l rx ry e q
 unfold rX at e
 split at e
 ·split at e
  ·next hcc=>cases e;cases rx;cases ry;exact ⟨_,_,rfl,rfl,hc _ _ hcc,q _ H ρ .refl l (hh _ _ ρ H)⟩
  ·cases e
 ·cases e
def cV:D->D->Dm D:=tQ fun i j=>.int (i + j)
def lK:D->D->Dm D:=tQ fun i j=>.int (i - j)
def kG:D->D->Dm D:=rX (fun i j=>decide (-18446744073709551616 < i/\i < 18446744073709551616) || decide (-18446744073709551616 < j/\j < 18446744073709551616)) fun i j=>.int (i * j)
def nT:D->D->Dm D:=rX (fun i j=>decide (0 < j/\j < 1073741824)) fun i j=>.int (i / j)
def jI:D->D->Dm D:=rX (fun i j=>decide (0 < j)) fun i j=>.int (i % j)
def qj:D->D->Dm D:=rX (fun i j=>decide (0<=j/\j<=1000000/\i.natAbs < 18446744073709551616)) fun i j=>.int (i ^ j.toNat)
def xS:D->D->Dm D:=tQ fun i j=>.bl (decide (i < j))
def Oe:D->D->Dm D:=tQ fun i j=>.bl (decide (i<=j))
def zR:D->D->Dm D:=tQ fun i j=>.bl (decide (j < i))
def Ge:D->D->Dm D:=tQ fun i j=>.bl (decide (j<=i))
theorem j6:lA K (o4 fun i j=>.int (i + j)) cV:=zQ fun _ _ _ _=>.int _
theorem xT:lA K (o4 fun i j=>.int (i - j)) lK:=zQ fun _ _ _ _=>.int _
theorem qV:lA K (rI pQ fun i j=>.int (i * j)) kG:=xR (fun i j h=>by
 rw [Bool.or_eq_true,decide_eq_true_eq,decide_eq_true_eq] at h
 exact h) fun _ _ _ _=>.int _
theorem J8:lA K (rI yH fun i j=>.int (i / j)) nT:=xR (fun i j h=>of_decide_eq_true (p:=0 < j/\j < 1073741824) h) fun _ _ _ _=>.int _
theorem pF:lA K (rI (fun _ j=>0 < j) fun i j=>.int (i % j)) jI:=xR (fun i j h=>of_decide_eq_true h) fun _ _ _ _=>.int _
theorem J9:lA K (rI yI fun i j=>.int (i ^ j.toNat)) qj:=xR (fun i j h=>by have h:=of_decide_eq_true (p:=0<=j/\j<=1000000/\i.natAbs < 18446744073709551616) h;exact ⟨h.1,h.2.1,by omega⟩) fun _ _ _ _=>.int _
theorem Dc:lA K (o4 fun i j=>.bl (decide (i < j))) xS:=zQ fun _ _ _ _=>.bl _
theorem Gf:lA K (o4 fun i j=>.bl (decide (j < i))) zR:=zQ fun _ _ _ _=>.bl _
theorem zS:lA K (o4 fun i j=>.bl (decide (j<=i))) Ge:=zQ fun _ _ _ _=>.bl _
def kH:D->Dm D
 | .int i,st=>some (.int (-i),st)
 | _,_=>none
theorem qW:Ga K (rU fun i=>.int (-i)) kH:=by
 intro ρ H st x a b st' Q l rx e q
 unfold kH at e
 split at e
 ·cases e;cases rx;exact ⟨_,rfl,q _ H ρ .refl l (.int _)⟩
 ·cases e
def sV:D->Option V
 | .non=>some .non
 | .bl b=>some (.bl b)
 | .int i=>some (.int i)
 | .str x=>some (.str x)
 | _=>none
theorem xU {ρ:List Addr} {H:Hp} {x v:V} {a:D} (r:Rp K ρ H x a) (h:sV a=some v):x=v:=by
 cases r <;> first | (cases h;rfl) | cases h
def kr (neg:Bool):D->D->Dm D:=fun a b st=>match sV a,sV b with
 | some x,some y=>if oe x y=true then some (.bl (if neg then !decide (x=y) else decide (x=y)),st) else none
 | _,_=>none
theorem nH:lA K HB (kr false):=by
 intro ρ H st x y a c b st' Q l rx ry e q
 unfold kr at e
 split at e
 ·next u v h1 h2 =>
  split at e
  ·next hs=>cases e;cases xU rx h1;cases xU ry h2;exact ⟨hs,q _ H ρ .refl l (.bl _)⟩
  ·cases e
 ·cases e
theorem Dd:lA K HC (kr true):=by
 intro ρ H st x y a c b st' Q l rx ry e q
 unfold kr at e
 split at e
 ·next u v h1 h2 =>
  split at e
  ·next hs=>cases e;cases xU rx h1;cases xU ry h2;exact ⟨hs,q _ H ρ .refl l (.bl _)⟩
  ·cases e
 ·cases e
def cJ {α β:Type} (f:α->Option β):List α->Option (List β)
 | []=>some []
 | a :: r=>match f a,cJ f r with
  | some b,some s=>some (b :: s)
  | _,_=>none
theorem zT {α β:Type} {f:α->Option β} {a:α} {r:List α} {s:List β} (h:cJ f (a :: r)=some s):∃ b t,f a=some b/\cJ f r=some t/\s=b :: t:=by
 unfold cJ at h
 split at h
 ·next b t h1 h2=>cases h;exact ⟨b,t,h1,h2,rfl⟩
 ·cases h
theorem tR {α β γ:Type} {f:α->Option β} {g:γ->α} {k:γ->β} (h:∀ c,f (g c)=some (k c)):∀ l:List γ,cJ f (l.map g)=some (l.map k)
 | []=>rfl
 | c :: r=>by
  show cJ f (g c :: r.map g)=_
  unfold cJ
  rw [h c,tR h r]
  rfl
def gq (st:Store):Nat->D->Option PyData
 | 0,_=>none
 | _ + 1,.non=>some .none
 | _ + 1,.bl b=>some (.bool b)
 | _ + 1,.int i=>some (.int i)
 | _ + 1,.str x=>some (.str x)
 | _ + 1,.ty _=>none
 | n + 1,.tup ds=>(cJ (gq st n) ds).map PyData.tuple
 | n + 1,.ref i=>match items st i with
  | some ds=>(cJ (gq st n) ds).map PyData.list
  | none=>none
theorem zU {ρ:List Addr} {H:Hp} {st:Store} (l:Rl K ρ H st):∀ (n:Nat) {v:V} {d:D} {p:PyData},Rp K ρ H v d->gq st n d=some p->Rep K H v p
 | 0,_,_,_,_,h=>by simp [gq] at h
 | n + 1,v,d,p,r,h=>by
  have all:∀ {vs:List V} {ds:List D} {ps:List PyData},cB K ρ H vs ds->cJ (gq st n) ds=some ps->iI K H vs ps:=by
   intro vs ds ps rr
   induction vs generalizing ds ps with
   | nil=>intro hm;cases rr;cases hm;exact .nil
   | cons w ws ih =>
    intro hm
    cases rr with
    | cons ra rb =>
     obtain ⟨b,t,h1,h2,rfl⟩:=zT hm
     exact .cons (zU l n ra h1) (ih rb h2)
  cases r with
  | non=>simp [gq] at h;subst h;exact .non
  | bl b=>simp [gq] at h;subst h;exact .bl b
  | int i=>simp [gq] at h;subst h;exact .int i
  | str x=>simp [gq] at h;subst h;exact .str x
  | ty n=>simp [gq] at h
  | ref hi =>
   simp only [gq] at h
   split at h
   ·next ds hd =>
    obtain ⟨ps,h1,rfl⟩:=Option.map_eq_some_iff.mp h
    obtain ⟨vs,e,rr⟩:=l.items hi hd
    exact .lst e (all rr h1)
   ·cases h
  | tup q rr =>
   simp only [gq] at h
   obtain ⟨ps,h1,rfl⟩:=Option.map_eq_some_iff.mp h
   exact .tup q (all rr h1)
def gC (neg:Bool):D->D->Dm D:=fun a b st=>match gq st 20 a,gq st 20 b with
 | some p,some q=>if (PyData.canLay0 p && PyData.canLay0 q && decide (min p.depth q.depth<=60))=true then some (.bl (if neg then !PyData.eqv p q else PyData.eqv p q),st) else none
 | _,_=>none
theorem vD (neg:Bool):lA K (y4 K neg) (gC neg):=by
 intro ρ H st x y a c b st' Q l rx ry e q
 unfold gC at e
 split at e
 ·next u v h1 h2 =>
  split at e
  ·next hs =>
   cases e
   rw [Bool.and_eq_true,Bool.and_eq_true,decide_eq_true_eq] at hs
   exact ⟨u,v,zU l 20 rx h1,zU l 20 ry h2,hs.1.1,hs.1.2,hs.2,q _ H ρ .refl l (.bl _)⟩
  ·cases e
 ·cases e
theorem at_of {ρ:List Addr} {H:Hp} {vs:List V} {ds:List D} {i:Int} {d:D} (r:cB K ρ H vs ds) (h:gK ds i=some d):∃ v,gK vs i=some v/\Rp K ρ H v d:=by
 unfold gK at h ⊢
 rw [r.length]
 cases hx:kX ds.length i with
 | none=>rw [hx] at h;cases h
 | some j =>
  rw [hx] at h
  exact r.got h
def aK:D->D->Dm D
 | .tup ds,.int i,st=>match gK ds i with
  | some d=>some (d,st)
  | none=>none
 | _,_,_=>none
theorem bR:lA K (uP K) aK:=by
 intro ρ H st x y a c b st' Q l rx ry e q
 unfold aK at e
 split at e
 ·split at e
  ·next d hd =>
   cases e
   cases ry
   cases rx with
   | tup s r =>
    obtain ⟨v,hv,rv⟩:=at_of r hd
    exact ⟨_,_,_,v,rfl,rfl,s,hv,q v H ρ .refl l rv⟩
  ·cases e
 ·cases e
def fm:D->D->Dm D
 | .ref r,.int i,st=>match items st r with
  | some ds=>match gK ds i with
   | some d=>some (d,st)
   | none=>none
  | none=>none
 | _,_,_=>none
theorem mF:lA K (yQ K) fm:=by
 intro ρ H st x y a c b st' Q l rx ry e q
 unfold fm at e
 split at e
 ·split at e
  ·next ds hi =>
   split at e
   ·next d hd =>
    cases e
    cases ry
    cases rx with
    | ref hr =>
     obtain ⟨vs,s,r⟩:=l.items hr hi
     obtain ⟨v,hv,rv⟩:=at_of r hd
     exact ⟨_,_,_,v,rfl,rfl,s,hv,q v H ρ .refl l rv⟩
   ·cases e
  ·cases e
 ·cases e
def vE:D->D->Dm D
 | .str z,.int i,st=>if lim z.length=true then match gK z.cps.toList i with
   | some c=>some (.str ⟨#[c]⟩,st)
   | none=>none
  else none
 | _,_,_=>none
def cutD (xs:List D) (lo hi:Option Int):List D:=(xs.drop (HT.cD xs.length 0 lo)).take (HT.cD xs.length xs.length hi - HT.cD xs.length 0 lo)
theorem cB.cut {ρ:List Addr} {H:Hp} {vs:List V} {ds:List D} (r:cB K ρ H vs ds) (lo hi:Option Int):cB K ρ H (lM vs lo hi) (cutD ds lo hi):=by
 unfold lM cutD
 rw [r.length]
 exact (r.drop _).take _
def qk:D->Option Int->Option Int->Dm D
 | .tup ds,lo,hi,st=>some (.tup (cutD ds lo hi),st)
 | _,_,_,_=>none
theorem got {ρ:List Addr} {H:Hp} {st:Store} {vs:List V} {ds:List D} {Q:VK} (l:Rl K ρ H st) (r:cB K ρ H vs ds) (q:∀ v H' ρ',Mn K ρ H ρ' H'->Rl K ρ' H' st->Rp K ρ' H' v (.tup ds)->Q v H'):mO K H vs Q :=
 fun p H' s e=>q _ H' ρ (Mn.same e) (l.same e) (.tup s (r.mn (Mn.same e)))
theorem Gg:vB K (sW K) qk:=by
 intro lo hi ρ H st x a b st' Q l rx e q
 cases a with
 | tup ds =>
  cases e
  cases rx with
  | tup s r=>exact ⟨_,_,rfl,s,got l (r.cut lo hi) q⟩
 | _=>cases e
def rY:D->Option Int->Option Int->Dm D
 | .ref r,lo,hi,st=>match items st r with
  | some ds=>some (.ref st.length,st ++ [.lst (cutD ds lo hi)])
  | none=>none
 | _,_,_,_=>none
theorem vF:vB K (yR K) rY:=by
 intro lo hi ρ H st x a b st' Q l rx e q
 cases a with
 | ref i =>
  simp only [rY] at e
  split at e
  ·next ds hd =>
   cases e
   cases rx with
   | ref hr =>
    obtain ⟨vs,s,r⟩:=l.items hr hd
    exact ⟨_,_,rfl,s,fun p hp=>q _ _ _ (Mn.new hp) (l.newL hp (r.cut lo hi)) (.ref (newR l))⟩
  ·cases e
 | _=>cases e
def iB:D->D->Dm D
 | .tup a,.tup b,st=>if lim (a.length + b.length)=true then some (.tup (a ++ b),st) else none
 | _,_,_=>none
theorem rZ:lA K (pY K) iB:=by
 intro ρ H st x y a c b st' Q l rx ry e q
 unfold iB at e
 split at e
 ·split at e
  ·next hl =>
   cases e
   cases rx with
   | tup s r =>
    cases ry with
    | tup s' r'=>exact ⟨_,_,_,_,rfl,rfl,s,s',by rw [r.length,r'.length];exact zO hl,got l (r.append r') q⟩
  ·cases e
 ·cases e
def own (st:Store) (i:Nat):Option (List D):=match st[i]? with
 | some (.lst ds)=>some ds
 | _=>none
theorem qX {st:Store} {i:Nat} {ds:List D} (h:own st i=some ds):st[i]?=some (.lst ds):=by
 unfold own at h
 split at h
 ·next ds' hs=>cases h;exact hs
 ·cases h
def mv:D->D->Dm D
 | .ref i,.ref j,st=>match own st i,own st j with
  | some a,some b=>if lim (a.length + b.length)=true then some (.ref st.length,st ++ [.lst (a ++ b)]) else none
  | _,_=>none
 | _,_,_=>none
theorem vG:lA K yU mv:=by
 intro ρ H st x y a c b st' Q l rx ry e q
 unfold mv at e
 split at e
 ·split at e
  ·next a b h1 h2 =>
   split at e
   ·next hl =>
    cases e
    cases rx with
    | ref hi =>
     cases ry with
     | ref hj =>
      obtain ⟨vs,e1,r1⟩:=l.obj _ _ _ hi (qX h1)
      obtain ⟨ws,e2,r2⟩:=l.obj _ _ _ hj (qX h2)
      exact ⟨_,_,_,_,rfl,rfl,e1,e2,by rw [r1.length,r2.length];exact zO hl,fun p hp=>q _ _ _ (Mn.new hp) (l.newL hp (r1.append r2)) (.ref (newR l))⟩
   ·cases e
  ·cases e
 ·cases e
def ql:D->D->Dm D
 | .ref i,.int k,st=>match own st i with
  | some a=>if (decide (-9223372036854775808<=k/\k < 9223372036854775808) && lim (a.length * k.toNat))=true then some (.ref st.length,st ++ [.lst (List.replicate k.toNat a).flatten]) else none
  | _=>none
 | _,_,_=>none
theorem Ka {ρ:List Addr} {H:Hp}:∀ {ws vs:List V} {ds:List D},cB K ρ H ws ds->cJ sV ds=some vs->ws=vs
 | _,_,_,.nil,h=>by cases h;rfl
 | _,_,_,.cons a b,h=>by
  obtain ⟨x,t,h1,h2,rfl⟩:=zT h
  rw [xU a h1,Ka b h2]
theorem Kb {a:D} {v:V} (h:sV a=some v):jE v=true:=by cases a <;> first | (cases h;rfl) | cases h
theorem Kc:∀ {ds:List D} {vs:List V},cJ sV ds=some vs->vs.all jE=true
 | [],_,h=>by cases h;rfl
 | d :: r,_,h=>by
  obtain ⟨x,t,h1,h2,rfl⟩:=zT h
  rw [List.all_cons,Kb h1,Kc h2];rfl
def c4 (st:Store):D->Option (List D)
 | .tup ds=>some ds
 | .ref i=>items st i
 | _=>none
theorem De {ρ:List Addr} {H:Hp} {st:Store} {x:V} {a:D} {ds:List D} (l:Rl K ρ H st) (r:Rp K ρ H x a) (h:c4 st a=some ds):∃ p vs,x=.ref p/\(jf K H p vs\/d9 K H p vs)/\cB K ρ H vs ds:=by
 cases r <;> first | (cases h;done) | skip
 ·next hi=>obtain ⟨vs,s,r⟩:=l.items hi h;exact ⟨_,vs,rfl,.inl s,r⟩
 ·next s r=>cases h;exact ⟨_,_,rfl,.inr s,r⟩
def pH (neg:Bool):D->D->Dm D:=fun a c st=>match sV a,(c4 st c).bind (cJ sV) with
 | some x,some vs=>some (.bl (if neg then !sP x vs else sP x vs),st)
 | _,_=>none
theorem zV (neg:Bool):lA K (E9 K neg) (pH neg):=by
 intro ρ H st x y a c b st' Q l rx ry e q
 unfold pH at e
 split at e
 ·next u vs h1 h2 =>
  cases e
  obtain ⟨ds,h3,h4⟩:=Option.bind_eq_some_iff.mp h2
  obtain ⟨p,ws,rfl,s,r⟩:=De l ry h3
  cases xU rx h1
  cases Ka r h4
  exact ⟨p,_,rfl,s,Kb h1,Kc h4,q _ H ρ .refl l (.bl _)⟩
 ·cases e
theorem cB.one' {ρ:List Addr} {H:Hp} {vs:List V} {d:D} (r:cB K ρ H vs [d]):∃ v,vs=[v]/\Rp K ρ H v d:=by cases r with | cons a b=>cases b;exact ⟨_,rfl,a⟩
theorem cB.two' {ρ:List Addr} {H:Hp} {vs:List V} {d e:D} (r:cB K ρ H vs [d,e]):∃ v w,vs=[v,w]/\Rp K ρ H v d/\Rp K ρ H w e:=by
 cases r with
 | cons a b=>obtain ⟨w,rfl,r⟩:=b.one';exact ⟨_,_,rfl,a,r⟩
def dA:List D->Dm D
 | [a],st=>match c4 st a with
  | some ds=>some (.int ds.length,st)
  | none=>none
 | _,_=>none
theorem lB:pD K (fun xs H Q=>∃ p ys,xs=[.ref p]/\(jf K H p ys\/d9 K H p ys)/\Q (.int ys.length) H) dA:=by
 intro ρ H st xs as b st' Q l rx e q
 unfold dA at e
 split at e
 ·split at e
  ·next ds hd =>
   cases e
   obtain ⟨v,rfl,r⟩:=rx.one'
   obtain ⟨p,vs,rfl,s,r⟩:=De l r hd
   exact ⟨p,vs,rfl,s,q _ H ρ .refl l (by rw [r.length];exact .int _)⟩
  ·cases e
 ·cases e
def mG:List D->Dm D
 | [a],st=>match c4 st a with
  | some ds=>some (.ref st.length,st ++ [.lst ds])
  | none=>none
 | _,_=>none
theorem Gh:pD K (fun xs H Q=>∃ p ys,xs=[.ref p]/\(jf K H p ys\/d9 K H p ys)/\∀ l,H l=none->Q (.ref l) (upd H l (.lst ys))) mG:=by
 intro ρ H st xs as b st' Q l rx e q
 unfold mG at e
 split at e
 ·split at e
  ·next ds hd =>
   cases e
   obtain ⟨v,rfl,r⟩:=rx.one'
   obtain ⟨p,vs,rfl,s,r⟩:=De l r hd
   exact ⟨p,vs,rfl,s,fun p hp=>q _ _ _ (Mn.new hp) (l.newL hp r) (.ref (newR l))⟩
  ·cases e
 ·cases e
def bM:List D->Dm D
 | [a],st=>match c4 st a with
  | some ds=>some (.tup ds,st)
  | none=>none
 | _,_=>none
theorem mY:pD K (fun xs H Q=>∃ p ys,xs=[.ref p]/\((jf K H p ys/\∀ l,H l=none->Q (.ref l) (upd H l (.tup ys)))\/(d9 K H p ys/\Q (.ref p) H))) bM:=by
 intro ρ H st xs as b st' Q l rx e q
 unfold bM at e
 split at e
 ·split at e
  ·next ds hd =>
   cases e
   obtain ⟨v,rfl,r⟩:=rx.one'
   obtain ⟨p,vs,rfl,s,r'⟩:=De l r hd
   refine ⟨p,vs,rfl,?_⟩
   rcases s with s | s
   ·exact .inl ⟨s,(got l r' q).new⟩
   ·exact .inr ⟨s,(got l r' q).it s⟩
  ·cases e
 ·cases e
def oP:List D->Dm D
 | [.int i,.int j],st=>some (.int (if j > i then j else i),st)
 | _,_=>none
def oQ:List D->Dm D
 | [.int i,.int j],st=>some (.int (if j < i then j else i),st)
 | _,_=>none
theorem Og:pD K (fun xs H Q=>∃ i j,xs=[.int i,.int j]/\Q (.int (if j > i then j else i)) H) oP:=by
 intro ρ H st xs as b st' Q l rx e q
 unfold oP at e
 split at e
 ·cases e
  obtain ⟨v,w,rfl,r1,r2⟩:=rx.two'
  cases r1;cases r2
  exact ⟨_,_,rfl,q _ H ρ .refl l (.int _)⟩
 ·cases e
theorem Oh:pD K (fun xs H Q=>∃ i j,xs=[.int i,.int j]/\Q (.int (if j < i then j else i)) H) oQ:=by
 intro ρ H st xs as b st' Q l rx e q
 unfold oQ at e
 split at e
 ·cases e
  obtain ⟨v,w,rfl,r1,r2⟩:=rx.two'
  cases r1;cases r2
  exact ⟨_,_,rfl,q _ H ρ .refl l (.int _)⟩
 ·cases e
def mH:List D->Dm D
 | [.int i],st=>some (.int i,st)
 | [.bl k],st=>some (.int (if k then 1 else 0),st)
 | _,_=>none
theorem Kd:pD K (fun xs H Q=>(∃ i,xs=[.int i]/\Q (.int i) H)\/∃ k,xs=[.bl k]/\Q (.int (if k then 1 else 0)) H) mH:=by
 intro ρ H st xs as b st' Q l rx e q
 unfold mH at e
 split at e
 ·cases e
  obtain ⟨v,rfl,r⟩:=rx.one'
  cases r
  exact .inl ⟨_,rfl,q _ H ρ .refl l (.int _)⟩
 ·cases e
  obtain ⟨v,rfl,r⟩:=rx.one'
  cases r
  exact .inr ⟨_,rfl,q _ H ρ .refl l (.int _)⟩
 ·cases e
def gO:List D->Dm D
 | [.int j],st=>some (.ref st.length,st ++ [.iF 0 j])
 | _,_=>none
def eE:List D->Dm D
 | [.int i,.int j],st=>some (.ref st.length,st ++ [.iF i j])
 | _,_=>none
theorem Df:pD K (fun xs H Q=>∃ j:Int,xs=[.int j]/\∀ p,H p=none->Q (.ref p) (upd H p (.iF 0 j))) gO:=by
 intro ρ H st xs as b st' Q l rx e q
 unfold gO at e
 split at e
 ·cases e
  obtain ⟨v,rfl,r⟩:=rx.one'
  cases r
  exact ⟨_,rfl,fun p hp=>q _ _ _ (Mn.new hp) (l.new hp (show tN K _ _ p (.iF _ _) from pk)) (.ref (newR l))⟩
 ·cases e
theorem xV:pD K (fun xs H Q=>∃ i j:Int,xs=[.int i,.int j]/\∀ p,H p=none->Q (.ref p) (upd H p (.iF i j))) eE:=by
 intro ρ H st xs as b st' Q l rx e q
 unfold eE at e
 split at e
 ·cases e
  obtain ⟨v,w,rfl,r1,r2⟩:=rx.two'
  cases r1;cases r2
  exact ⟨_,_,rfl,fun p hp=>q _ _ _ (Mn.new hp) (l.new hp (show tN K _ _ p (.iF _ _) from pk)) (.ref (newR l))⟩
 ·cases e
def aE (lo:Int) (n:Nat):List D:=(List.range n).map fun (k:Nat)=>D.int (lo + k)
theorem Oi {ρ:List Addr} {H:Hp} (lo:Int) (n:Nat):cB K ρ H (fe lo n) (aE lo n):=by
 unfold fe aE
 induction (List.range n) with
 | nil=>exact .nil
 | cons a r ih=>exact .cons (.int _) ih
def pe (lo hi:Int):Bool:=decide (-4611686018427387904<=lo/\lo < 4611686018427387904/\-4611686018427387904<=hi/\hi < 4611686018427387904) && lim (hi - lo).toNat
theorem Ke {lo hi:Int} (h:pe lo hi=true):(-(2 ^ 62)<=lo/\lo < 2 ^ 62/\-(2 ^ 62)<=hi/\hi < 2 ^ 62)/\(hi - lo).toNat<=2 ^ 24:=by
 unfold pe at h
 rw [Bool.and_eq_true,decide_eq_true_eq] at h
 exact ⟨by omega,Nat.le_trans (Nat.le_of_ble_eq_true h.2) (by decide)⟩
def iC (st:Store):D->Option (Int×Int)
 | .ref i=>match st[i]? with
  | some (.iF lo hi)=>some (lo,hi)
  | _=>none
 | _=>none
theorem vH {ρ:List Addr} {H:Hp} {st:Store} {x:V} {a:D} {lo hi:Int} (l:Rl K ρ H st) (r:Rp K ρ H x a) (h:iC st a=some (lo,hi)):∃ p,x=.ref p/\H p=some (.iF lo hi):=by
 cases r <;> first | (cases h;done) | skip
 ·next hi' =>
  simp only [iC] at h
  split at h
  ·next lo' Oj hs=>cases h;exact ⟨_,rfl,l.obj _ _ _ hi' hs⟩
  ·cases h
def dB:List D->Dm D
 | [a],st=>match iC st a with
  | some (lo,hi)=>if pe lo hi=true then some (.ref st.length,st ++ [.lst (aE lo (hi - lo).toNat)]) else none
  | none=>none
 | _,_=>none
theorem qY:pD K (fun xs H Q=>∃ p lo hi,xs=[.ref p]/\H p=some (.iF lo hi)/\(-(2 ^ 62)<=lo/\lo < 2 ^ 62/\-(2 ^ 62)<=hi/\hi < 2 ^ 62)/\(hi - lo).toNat<=2 ^ 24 /\
  ∀ l,H l=none->Q (.ref l) (upd H l (.lst (fe lo (hi - lo).toNat)))) dB:=by
 intro ρ H st xs as b st' Q l rx e q
 unfold dB at e
 split at e
 ·split at e
  ·next lo hi hd =>
   split at e
   ·next ok =>
    cases e
    obtain ⟨v,rfl,r⟩:=rx.one'
    obtain ⟨p,rfl,s⟩:=vH l r hd
    exact ⟨p,lo,hi,rfl,s,(Ke ok).1,(Ke ok).2,fun p hp=>q _ _ _ (Mn.new hp) (l.newL hp (Oi lo _)) (.ref (newR l))⟩
   ·cases e
  ·cases e
 ·cases e
def r6:List D->Dm D
 | [a],st=>match iC st a with
  | some (lo,hi)=>if pe lo hi=true then some (.tup (aE lo (hi - lo).toNat),st) else none
  | none=>none
 | _,_=>none
def iV:D->Option Int
 | .int i=>some i
 | _=>none
theorem Gi {ρ:List Addr} {H:Hp}:∀ {ws:List V} {ds:List D} {ns:List Int},cB K ρ H ws ds->cJ iV ds=some ns->ws=ns.map V.int
 | _,_,_,.nil,h=>by cases h;rfl
 | _,_,_,.cons a b,h=>by
  obtain ⟨x,t,h1,h2,rfl⟩:=zT h
  rw [Gi b h2]
  cases a <;> first | (cases h1;rfl) | cases h1
def sortI (ns:List Int):List Int:=ns.mergeSort fun a b=>decide (a<=b)
def Dg:List D->Dm D
 | [a],st=>match (c4 st a).bind (cJ iV) with
  | some ns=>if ns.length < 64 then some (.ref st.length,st ++ [.lst ((sortI ns).map D.int)]) else none
  | none=>none
 | _,_=>none
def iM:List D->Dm D
 | [a],st=>match gq st 20 a with
  | some p=>if (p.showable && p.canLay0 && decide (p.shown.length<=sizeLine) && decide (p.depth<=60))=true then some (.str p.shown,st) else none
  | none=>none
 | _,_=>none
theorem Kf:pD K (fun xs H Q=>∃ (x:V) (d:PyData),xs=[x]/\Rep K H x d/\d.showable=true/\d.canLay0=true/\d.shown.length<=sizeLine/\d.depth<=60/\Q (.str d.shown) H) iM:=by
 intro ρ H st xs as b st' Q l rx e q
 unfold iM at e
 split at e
 ·split at e
  ·next p hp =>
   split at e
   ·next ok =>
    cases e
    rw [Bool.and_eq_true,Bool.and_eq_true,Bool.and_eq_true,decide_eq_true_eq,decide_eq_true_eq] at ok
    obtain ⟨v,rfl,r⟩:=rx.one'
    exact ⟨v,p,rfl,zU l 20 r hp,ok.1.1.1,ok.1.1.2,ok.1.2,ok.2,q _ H ρ .refl l (.str _)⟩
   ·cases e
  ·cases e
 ·cases e
def bV:D->Option Bool
 | .bl i=>some i
 | _=>none
def vI:List D->Dm D
 | [.ref i],st=>match (items st i).bind (cJ bV) with
  | some bs=>some (.bl (bs.all id),st)
  | none=>none
 | _,_=>none
def tT (T:String) (st:Store):D->Bool
 | .str _=>T == "str"
 | .tup _=>T == "tuple"
 | .ref i=>T == "list" && (items st i).isSome
 | _=>false
theorem vJ {ρ:List Addr} {H:Hp} {st:Store} {x:V} {a:D} {T:String} (l:Rl K ρ H st) (r:Rp K ρ H x a) (h:tT T st a=true):Fc K T x H:=by
 cases r <;> first | (cases h;done) | skip
 ·exact eq_of_beq h
 ·next hi =>
  simp only [tT,Bool.and_eq_true] at h
  obtain ⟨ds,hd⟩:=Option.isSome_iff_exists.mp h.2
  obtain ⟨vs,s,_⟩:=l.items hi hd
  exact .inl ⟨eq_of_beq h.1,vs,s⟩
 ·next s r=>exact .inr (.inl ⟨eq_of_beq h,_,s⟩)
def n5 (T:String) (g:D->List D->Dm D) (fo:au->Dm D) (fa:au->Dm (List D)):au->Dm D:=fun δ st=>bnd (fo δ st) fun o st1=>if tT T st1 o=true then bnd (fa δ st1) fun as st2=>g o as st2 else none
theorem pf {T:String} {r:V->List V->Hp->VK->Prop} {g:D->List D->Dm D} {to:TE} {ta:TA} {fo:au->Dm D} {fa:au->Dm (List D)} (hr:zM K T r g) (ho:gp K to fo) (ha:pC K ta fa):gp K (Fe K T r to ta) (n5 T g fo fa):=by
 intro ρ σ H δ st b st' Q l rs e q
 obtain ⟨o,st1,e1,e⟩:=dU e
 split at e
 ·next ht =>
  obtain ⟨as,st2,e2,e⟩:=dU e
  refine ho ρ σ H δ st o st1 _ l rs e1 fun x H1 ρ1 m1 l1 r1=>⟨vJ l1 r1 ht,ha ρ1 σ H1 δ st1 as st2 _ l1 (rs.mn m1) e2 fun xs H2 ρ2 m2 l2 r2=>?_⟩
  exact hr ρ2 H2 st2 x xs o as b st' Q l2 (r1.mn m2) r2 e fun v H3 ρ3 m3 l3 r3=>q v H3 ρ3 ((m1.trans m2).trans m3) l3 r3
 ·cases e
def dh:D->List D->Dm D
 | .ref i,[y],st=>match own st i with
  | some xs=>if lim xs.length=true then some (.non,st.set i (.lst (xs ++ [y]))) else none
  | none=>none
 | _,_,_=>none
theorem tU:zM K "list" oC dh:=by
 intro ρ H st x xs a as b st' Q l rx vK e q
 unfold dh at e
 split at e
 ·split at e
  ·next ys hy =>
   split at e
   ·next hl =>
    cases e
    obtain ⟨v,rfl,r⟩:=vK.one'
    cases rx with
    | ref hi =>
     obtain ⟨vs,e1,r1⟩:=l.obj _ _ _ hi (qX hy)
     obtain ⟨l2,m2⟩:=l.putL hi (qX hy) (r1.append (.one r))
     exact ⟨_,vs,v,rfl,rfl,e1,by rw [r1.length];exact Gb hl,q _ _ ρ m2 l2 .non⟩
   ·cases e
  ·cases e
 ·cases e
def mZ:D->List D->Dm D
 | .ref i,[.ref j],st=>match own st i,own st j with
  | some xs,some ys=>if lim (xs.length + ys.length)=true then some (.non,st.set i (.lst (xs ++ ys))) else none
  | _,_=>none
 | _,_,_=>none
def kI:D->List D->Dm D
 | .ref i,[.int k],st=>match own st i with
  | some xs=>if decide (-9223372036854775808<=k/\k < 9223372036854775808)=true then match seqIndex? k xs.length with
    | some j=>match xs[j]? with
     | some y=>some (y,st.set i (.lst (xs.eraseIdx j)))
     | none=>none
    | none=>none
   else none
  | none=>none
 | _,_,_=>none
theorem Ol:zM K "list" pU kI:=by
 intro ρ H st x xs a as b st' Q l rx vK e q
 unfold kI at e
 split at e
 ·split at e
  ·next ys hy =>
   split at e
   ·next hk =>
    split at e
    ·next j hj =>
     split at e
     ·next y hy' =>
      cases e
      obtain ⟨v,rfl,r⟩:=vK.one'
      cases r
      cases rx with
      | ref hi =>
       obtain ⟨vs,e1,r1⟩:=l.obj _ _ _ hi (qX hy)
       obtain ⟨w,hw,rw'⟩:=r1.got hy'
       obtain ⟨l2,m2⟩:=l.putL hi (qX hy) (r1.erase j)
       have hk:=of_decide_eq_true hk
       exact ⟨_,vs,_,j,w,rfl,rfl,e1,by omega,by omega,by rw [r1.length];exact hj,hw,q _ _ ρ m2 l2 (rw'.mn m2)⟩
     ·cases e
    ·cases e
   ·cases e
  ·cases e
 ·cases e
def gP:D->List D->Dm D
 | .tup ds,[.int v],st=>match cJ iV ds with
  | some ns=>match ns.findIdx? (fun i=>decide (i=v)) with
   | some j=>some (.int (j:Int),st)
   | none=>none
  | none=>none
 | _,_,_=>none
theorem Gj:zM K "tuple" (oh K) gP:=by
 intro ρ H st x xs a as b st' Q l rx vK e q
 unfold gP at e
 split at e
 ·split at e
  ·next ns hn =>
   split at e
   ·next j hj =>
    cases e
    obtain ⟨v,rfl,r⟩:=vK.one'
    cases r
    cases rx with
    | tup s r =>
     cases Gi r hn
     obtain ⟨h1,h2,h3⟩:=List.findIdx?_eq_some_iff_getElem.mp hj
     refine ⟨_,ns,_,j,rfl,rfl,s,?_,fun i hi z=>?_,q _ H ρ .refl l (.int _)⟩
     ·rw [List.getElem?_eq_getElem h1];exact congrArg some (of_decide_eq_true h2)
     ·have:=h3 i hi
      obtain ⟨hl,ez⟩:=List.getElem?_eq_some_iff.mp z
      rw [ez] at this
      simp at this
   ·cases e
  ·cases e
 ·cases e
def ji:D->List D->Dm D
 | .ref i,[.int v],st=>match (items st i).bind (cJ iV) with
  | some ns=>if v∈ns/\ns.length<=1000/\∀ i∈ns,-1000000000000000000<=i/\i<=1000000000000000000 then some (.int (ns.idxOf v:Int),st) else none
  | none=>none
 | _,_,_=>none
def zW (st:Store):D->Option String
 | .non=>some "NoneType"
 | .bl _=>some "bool"
 | .int _=>some "int"
 | .str _=>some "str"
 | .tup _=>some "tuple"
 | .ref i=>match st[i]? with
  | some (.lst _)=>some "list"
  | some (.dct _)=>some "dict"
  | _=>none
 | .ty _=>none
def m9:List D->Dm D
 | [a,.ty c],st=>match zW st a with
  | some T=>if T=c then some (.bl true,st) else none
  | none=>none
 | _,_=>none
end
end L4
namespace L4
open PySem PySem.Spec L2
section
variable {K:PySem.W.Frag}
theorem Kg:lA K yV ql:=by
 intro ρ H st x y a c b st' Q l rx ry e q
 unfold ql at e
 split at e
 ·split at e
  ·next ds hd =>
   split at e
   ·next ok =>
    cases e
    rw [Bool.and_eq_true,decide_eq_true_eq] at ok
    cases ry
    cases rx with
    | ref hi =>
     obtain ⟨vs,e1,r1⟩:=l.obj _ _ _ hi (qX hd)
     exact ⟨_,_,vs,rfl,rfl,e1,by omega,by omega,by rw [r1.length];exact zO ok.2,fun p hp=>q _ _ _ (Mn.new hp) (l.newL hp (r1.flat _)) (.ref (newR l))⟩
   ·cases e
  ·cases e
 ·cases e
theorem Rs.set {ρ:List Addr} {H:Hp} {σ:St} {δ:au} {v:V} {d:D} {i:Nat} (h:Rs K ρ H σ δ) (r:Rp K ρ H v d):Rs K ρ H (σ.set i (some v)) (δ.set i (some d)):=by
 refine ⟨by rw [List.length_set,List.length_set];exact h.1,fun j e hj=>?_⟩
 by_cases hij:i=j
 ·subst hij
  have hl:i < δ.length:=by
   have:=(List.getElem?_eq_some_iff.mp hj).1
   rwa [List.length_set] at this
  rw [List.getElem?_set_self hl] at hj
  cases hj
  exact ⟨v,by rw [List.getElem?_set_self (by rw [h.1];exact hl)],r⟩
 ·rw [List.getElem?_set_ne hij] at hj
  obtain ⟨w,hw,rw'⟩:=h.2 j e hj
  exact ⟨w,by rw [List.getElem?_set_ne hij];exact hw,rw'⟩
def vL (K:PySem.W.Frag) (g:TG) (f:D->au->Dm au):Prop :=
 ∀ (ρ:List Addr) (σ:St) (H:Hp) (δ:au) (st:Store) (v:V) (d:D) (δ':au) (st':Store) (Q:St->Hp->Prop),Rl K ρ H st->Rs K ρ H σ δ->Rp K ρ H v d->f d δ st=some (δ',st') ->
  (∀ σ' H' ρ',Mn K ρ H ρ' H'->Rl K ρ' H' st'->Rs K ρ' H' σ' δ'->Q σ' H')->g v σ H Q
def r9 (K:PySem.W.Frag) (g:qI) (f:List D->au->Dm au):Prop :=
 ∀ (ρ:List Addr) (σ:St) (H:Hp) (δ:au) (st:Store) (v:List V) (d:List D) (δ':au) (st':Store) (Q:St->Hp->Prop),Rl K ρ H st->Rs K ρ H σ δ->cB K ρ H v d->f d δ st=some (δ',st') ->
  (∀ σ' H' ρ',Mn K ρ H ρ' H'->Rl K ρ' H' st'->Rs K ρ' H' σ' δ'->Q σ' H')->g v σ H Q
def hName (i:Nat):D->au->Dm au:=fun d δ st=>some (δ.set i (some d),st)
theorem a5 (i:Nat):vL K (nO i) (hName i):=by
 intro ρ σ H δ st v d δ' st' Q l rs r e q
 cases e
 exact q _ H ρ .refl l (rs.set r)
def mw:List D->au->Dm au
 | [],δ,st=>some (δ,st)
 | _,_,_=>none
def cS (f:D->au->Dm au) (g:List D->au->Dm au):List D->au->Dm au
 | d :: ds,δ,st=>bnd (f d δ st) fun δ1 st1=>g ds δ1 st1
 | _,_,_=>none
theorem tV:r9 K yA mw:=by
 intro ρ σ H δ st v d δ' st' Q l rs r e q
 cases r with
 | nil=>cases e;exact ⟨rfl,q _ H ρ .refl l rs⟩
 | cons a b=>cases e
theorem mI {t:TG} {u:qI} {f:D->au->Dm au} {g:List D->au->Dm au} (hf:vL K t f) (hg:r9 K u g):r9 K (sD t u) (cS f g):=by
 intro ρ σ H δ st v d δ' st' Q l rs r e q
 cases r with
 | nil=>cases e
 | cons a b =>
  obtain ⟨δ1,st1,e1,e⟩:=dU e
  exact ⟨_,_,rfl,hf ρ σ H δ st _ _ δ1 st1 _ l rs a e1 fun σ1 H1 ρ1 m1 l1 r1=>hg ρ1 σ1 H1 δ1 st1 _ _ δ' st' Q l1 r1 (b.mn m1) e fun σ2 H2 ρ2 m2 l2 r2=>q σ2 H2 ρ2 (m1.trans m2) l2 r2⟩
def lR (n:Nat) (f:List D->au->Dm au):D->au->Dm au
 | .tup ds,δ,st=>if ds.length=n then f ds δ st else none
 | _,_,_=>none
theorem tW {n:Nat} {t:qI} {f:List D->au->Dm au} (hf:r9 K t f):vL K (yB K n t) (lR n f):=by
 intro ρ σ H δ st v d δ' st' Q l rs r e q
 cases r <;> first | (cases e;done) | skip
 ·next s r =>
  simp only [lR] at e
  split at e
  ·next hl=>exact ⟨_,_,rfl,s,by rw [r.length];exact hl,hf ρ σ H δ st _ _ δ' st' Q l rs r e q⟩
  ·cases e
def hSub (fo fi:au->Dm D):D->au->Dm au:=fun d δ st=>bnd (fo δ st) fun o st1=>bnd (fi δ st1) fun i st2=>match o,i with
 | .ref r,.int k=>match own st2 r with
  | some xs=>match kX xs.length k with
   | some j=>some (δ,st2.set r (.lst (xs.set j d)))
   | none=>none
  | none=>none
 | _,_=>none
theorem xW {to ti:TE} {fo fi:au->Dm D} (ho:gp K to fo) (hi:gp K ti fi):vL K (L2.lK to ti sN) (hSub fo fi):=by
 intro ρ σ H δ st v d δ' st' Q l rs r e q
 obtain ⟨o,st1,e1,e⟩:=dU e
 obtain ⟨i,st2,e2,e⟩:=dU e
 refine ho ρ σ H δ st o st1 _ l rs e1 fun x H1 ρ1 m1 l1 r1=>hi ρ1 σ H1 δ st1 i st2 _ l1 (rs.mn m1) e2 fun y H2 ρ2 m2 l2 r2=>?_
 split at e
 ·split at e
  ·next xs hx =>
   split at e
   ·next j hj =>
    cases e
    cases r2
    cases r1 with
    | ref hr =>
     have hr2:=m2.r _ _ hr
     obtain ⟨vs,e3,r3⟩:=l2.obj _ _ _ hr2 (qX hx)
     obtain ⟨l3,m3⟩:=l2.putL hr2 (qX hx) (r3.set (r.mn (m1.trans m2)) j)
     exact ⟨_,vs,_,j,rfl,rfl,e3,by rw [r3.length];exact hj,q σ _ ρ2 ((m1.trans m2).trans m3) l3 (rs.mn ((m1.trans m2).trans m3))⟩
   ·cases e
  ·cases e
 ·cases e
def Go (K:PySem.W.Frag) (ρ:List Addr) (H:Hp) (st':Store) (E:Ends):Fl->Prop
 | .nx δ=>∀ σ' H' ρ',Mn K ρ H ρ' H'->Rl K ρ' H' st'->Rs K ρ' H' σ' δ->E.nx σ' H'
 | .bk δ=>∀ σ' H' ρ',Mn K ρ H ρ' H'->Rl K ρ' H' st'->Rs K ρ' H' σ' δ->E.bk σ' H'
 | .ct δ=>∀ σ' H' ρ',Mn K ρ H ρ' H'->Rl K ρ' H' st'->Rs K ρ' H' σ' δ->E.ct σ' H'
 | .rt d=>∀ v H' ρ',Mn K ρ H ρ' H'->Rl K ρ' H' st'->Rp K ρ' H' v d->E.rt v H'
theorem Go.mn {ρ ρ1:List Addr} {H H1:Hp} {st':Store} {E:Ends} {fl:Fl} (g:Go K ρ H st' E fl) (m:Mn K ρ H ρ1 H1):Go K ρ1 H1 st' E fl:=by
 cases fl <;> exact fun v H' ρ' m' l r=>g v H' ρ' (m.trans m') l r
def nI (K:PySem.W.Frag) (t:TS) (f:au->Dm Fl):Prop :=
 ∀ (ρ:List Addr) (σ:St) (H:Hp) (δ:au) (st:Store) (fl:Fl) (st':Store) (E:Ends),Rl K ρ H st->Rs K ρ H σ δ->f δ st=some (fl,st')->Go K ρ H st' E fl->t E σ H
def b6:au->Dm Fl:=fun δ st=>some (.nx δ,st)
theorem lC:nI K sy b6:=by
 intro ρ σ H δ st fl st' E l rs e g
 cases e
 exact g σ H ρ .refl l rs
def aF (f g:au->Dm Fl):au->Dm Fl:=fun δ st=>bnd (f δ st) fun fl st1=>match fl with
 | .nx δ1=>g δ1 st1
 | x=>some (x,st1)
theorem bz {t u:TS} {f g:au->Dm Fl} (hf:nI K t f) (hg:nI K u g):nI K (yw t u) (aF f g):=by
 intro ρ σ H δ st fl st' E l rs e q
 obtain ⟨x,st1,e1,e⟩:=dU e
 refine hf ρ σ H δ st x st1 _ l rs e1 ?_
 cases x with
 | nx δ1=>exact fun σ1 H1 ρ1 m1 l1 r1=>hg ρ1 σ1 H1 δ1 st1 fl st' E l1 r1 e (q.mn m1)
 | bk δ1=>cases e;exact q
 | ct δ1=>cases e;exact q
 | rt d=>cases e;exact q
theorem kJ {c:TT} {t u:TS} {fc:au->Dm Bool} {f g:au->Dm Fl} (hc:oN K c fc) (hf:nI K t f) (hg:nI K u g):nI K (yy c t u) (jH fc f g):=by
 intro ρ σ H δ st fl st' E l rs e q
 obtain ⟨a,st1,e1,e⟩:=dU e
 refine hc ρ σ H δ st _ _ _ l rs e1 fun x H1 ρ1 m1 l1 r1=>?_
 subst r1
 cases x with
 | true =>
  refine o7 ?_
  rw [if_pos rfl] at e
  exact hf ρ1 σ H1 δ st1 fl st' E l1 (rs.mn m1) e (q.mn m1)
 | false =>
  refine o6 ?_
  rw [if_neg Bool.false_ne_true] at e
  exact hg ρ1 σ H1 δ st1 fl st' E l1 (rs.mn m1) e (q.mn m1)
def iN (f:au->Dm D):au->Dm Fl:=fun δ st=>bnd (f δ st) fun _ st1=>some (.nx δ,st1)
theorem tZ {t:TE} {f:au->Dm D} (hf:gp K t f):nI K (sA t) (iN f):=by
 intro ρ σ H δ st fl st' E l rs e q
 obtain ⟨a,st1,e1,e⟩:=dU e
 cases e
 exact hf ρ σ H δ st a _ _ l rs e1 fun x H1 ρ1 m1 l1 r1=>q σ H1 ρ1 m1 l1 (rs.mn m1)
def a7 (f:au->Dm D):au->Dm Fl:=fun δ st=>bnd (f δ st) fun d st1=>some (.rt d,st1)
theorem du {t:TE} {f:au->Dm D} (hf:gp K t f):nI K (yx t) (a7 f):=by
 intro ρ σ H δ st fl st' E l rs e q
 obtain ⟨a,st1,e1,e⟩:=dU e
 cases e
 exact hf ρ σ H δ st a _ _ l rs e1 fun x H1 ρ1 m1 l1 r1=>q x H1 ρ1 m1 l1 r1
def aM (f:au->Dm D) (h:D->au->Dm au):au->Dm Fl:=fun δ st=>bnd (f δ st) fun d st1=>bnd (h d δ st1) fun δ1 st2=>some (.nx δ1,st2)
theorem bQ {t:TE} {g:TG} {f:au->Dm D} {h:D->au->Dm au} (hf:gp K t f) (hh:vL K g h):nI K (rn t g) (aM f h):=by
 intro ρ σ H δ st fl st' E l rs e q
 obtain ⟨a,st1,e1,e⟩:=dU e
 obtain ⟨δ1,st2,e2,e⟩:=dU e
 cases e
 exact hf ρ σ H δ st a st1 _ l rs e1 fun x H1 ρ1 m1 l1 r1=>hh ρ1 σ H1 δ st1 x a δ1 _ _ l1 (rs.mn m1) r1 e2 fun σ2 H2 ρ2 m2 l2 r2=>q σ2 H2 ρ2 (m1.trans m2) l2 r2
def qm (i j:Nat) (fa:au->Dm (List D)):au->Dm Fl:=fun δ st=>bnd (fa δ st) fun as st1=>match as with
 | [a,b]=>some (.nx ((δ.set i (some a)).set j (some b)),st1)
 | _=>none
theorem Kh {i j:Nat} {t:TA} {fa:au->Dm (List D)} (ha:pC K t fa):nI K (yC i j t) (qm i j fa):=by
 intro ρ σ H δ st fl st' E l rs e q
 obtain ⟨as,st1,e1,e⟩:=dU e
 split at e
 ·cases e
  refine ha ρ σ H δ st _ _ _ l rs e1 fun x H1 ρ1 m1 l1 r1=>?_
  obtain ⟨v,w,rfl,r,r'⟩:=r1.two'
  exact ⟨v,w,rfl,q _ H1 ρ1 m1 l1 (((rs.mn m1).set r).set r')⟩
 ·cases e
def fq (c:au->Dm Bool) (b:au->Dm Fl):Nat->au->Dm Fl
 | 0,_,_=>none
 | n + 1,δ,st=>bnd (c δ st) fun t st1=>if t=true then bnd (b δ st1) fun fl st2=>match fl with
   | .nx δ2=>fq c b n δ2 st2
   | .ct δ2=>fq c b n δ2 st2
   | .bk δ2=>some (.nx δ2,st2)
   | .rt d=>some (.rt d,st2)
  else some (.nx δ,st1)
def fuel:Nat:=1000000
def iO (c:au->Dm Bool) (b:au->Dm Fl):au->Dm Fl:=fq c b fuel
theorem xX {tc:TT} {tb:TS} {c:au->Dm Bool} {b:au->Dm Fl} (hc:oN K tc c) (hb:nI K tb b):nI K (pO tc tb) (iO c b):=by
 intro ρ σ H δ st fl st' E l rs e q
 refine ⟨fun m σ1 H1=>∃ ρ1 δ1 st1,Mn K ρ H ρ1 H1/\Rl K ρ1 H1 st1/\Rs K ρ1 H1 σ1 δ1/\fq c b m δ1 st1=some (fl,st'),⟨fuel,ρ,δ,st,.refl,l,rs,e⟩,?_⟩
 rintro m σ1 H1 ⟨ρ1,δ1,st1,m1,l1,t4,e1⟩
 cases m with
 | zero=>cases e1
 | succ m =>
  obtain ⟨t,st2,e2,e1⟩:=dU e1
  refine hc ρ1 σ1 H1 δ1 st1 _ _ _ l1 t4 e2 fun x H2 ρ2 m2 l2 r2=>?_
  subst r2
  cases x with
  | true =>
   refine o7 ?_
   rw [if_pos rfl] at e1
   obtain ⟨f2,st3,e3,e1⟩:=dU e1
   refine ⟨fun σ3 H3=>∃ m',m' < m + 1/\∃ ρ1 δ1 st1,Mn K ρ H ρ1 H3/\Rl K ρ1 H3 st1/\Rs K ρ1 H3 σ3 δ1/\fq c b m' δ1 st1=some (fl,st'),fun _ _ h=>h,hb ρ2 σ1 H2 δ1 st2 f2 st3 _ l2 (t4.mn m2) e3 ?_⟩
   cases f2 with
   | nx δ3=>exact fun σ3 H3 ρ3 m3 l3 r3=>⟨m,Nat.lt_succ_self m,ρ3,δ3,st3,(m1.trans m2).trans m3,l3,r3,e1⟩
   | ct δ3=>exact fun σ3 H3 ρ3 m3 l3 r3=>⟨m,Nat.lt_succ_self m,ρ3,δ3,st3,(m1.trans m2).trans m3,l3,r3,e1⟩
   | bk δ3=>cases e1;exact q.mn (m1.trans m2)
   | rt d=>cases e1;exact q.mn (m1.trans m2)
  | false =>
   refine o6 ?_
   rw [if_neg Bool.false_ne_true] at e1
   cases e1
   exact q.mn (m1.trans m2) σ1 H2 ρ2 .refl l2 (t4.mn m2)
inductive Src where
 | fix (ds:List D) | live (i:Nat) | Om (i:Nat) | zl (i:Nat) (es:List D) | zr (ds:List D) (i:Nat)
def Src.at:Src->Nat->Store->Option (Option D)
 | .fix ds,i,_=>if i<=ds.length then some ds[i]? else none
 | .live r,i,st=>(items st r).map fun ds=>ds[i]?
 | .Om r,i,st=>(items st r).bind fun ds=>if i<=ds.length then some (ds.mapIdx fun i d=>D.tup [.int (i:Int),d])[i]? else none
 | .zl r es,i,st=>(items st r).bind fun ds=>if i<=(List.zipWith (fun a b=>D.tup [a,b]) ds es).length then some (List.zipWith (fun a b=>D.tup [a,b]) ds es)[i]? else none
 | .zr ds r,i,st=>(items st r).bind fun es=>if i<=(List.zipWith (fun a b=>D.tup [a,b]) ds es).length then some (List.zipWith (fun a b=>D.tup [a,b]) ds es)[i]? else none
theorem t5 {ds:List D} {i:Nat} {st:Store} {o:Option D} (h:Src.at (.fix ds) i st=some o):i<=ds.length/\ds[i]?=o:=by
 simp only [Src.at] at h
 split at h
 ·next hl=>exact ⟨hl,Option.some.inj h⟩
 ·cases h
def zX (K:PySem.W.Frag) (ρ:List Addr) (H:Hp) (J:It) (S:Src):Prop :=
 ∀ (ρ2:List Addr) (H2:Hp) (st2:Store) (i:Nat),Mn K ρ H ρ2 H2->Rl K ρ2 H2 st2 ->
  (S.at i st2=some none->J.stop i H2)/\∀ d,S.at i st2=some (some d)->J.go i H2/\∀ x H3,J.rz i H2 x H3->Mn K ρ2 H2 ρ2 H3/\Rl K ρ2 H3 st2/\Rp K ρ2 H3 x d
abbrev vN (K:PySem.W.Frag) (t:TI) (f:au->Dm Src):Prop:=So K (zX K) t f
def fY (S:Src) (g:D->au->Dm au) (b:au->Dm Fl):Nat->Nat->au->Dm Fl
 | 0,_,_,_=>none
 | n + 1,i,δ,st=>match S.at i st with
  | none=>none
  | some none=>some (.nx δ,st)
  | some (some d)=>bnd (g d δ st) fun δ1 st1=>bnd (b δ1 st1) fun fl st2=>match fl with
   | .nx δ2=>fY S g b n (i + 1) δ2 st2
   | .ct δ2=>fY S g b n (i + 1) δ2 st2
   | .bk δ2=>some (.nx δ2,st2)
   | .rt d=>some (.rt d,st2)
def dC (fi:au->Dm Src) (g:D->au->Dm au) (b:au->Dm Fl):au->Dm Fl:=fun δ st=>bnd (fi δ st) fun S st1=>fY S g b fuel 0 δ st1
theorem mf {wi:TI} {tg:TG} {tb:TS} {fi:au->Dm Src} {g:D->au->Dm au} {b:au->Dm Fl} (hi:vN K wi fi) (hg:vL K tg g) (hb:nI K tb b):nI K (yE wi tg tb) (dC fi g b):=by
 intro ρ σ H δ st fl st' E l rs e q
 obtain ⟨S,kK,e0,e⟩:=dU e
 refine hi ρ σ H δ st S kK _ l rs e0 fun J H0 ρ0 m0 l0 ok=>?_
 refine ⟨fun i m σ1 H1=>∃ ρ1 δ1 st1,Mn K ρ0 H0 ρ1 H1/\Rl K ρ1 H1 st1/\Rs K ρ1 H1 σ1 δ1/\fY S g b m i δ1 st1=some (fl,st'),⟨fuel,ρ0,δ,kK,.refl,l0,rs.mn m0,e⟩,?_⟩
 rintro i m σ1 H1 ⟨ρ1,δ1,st1,m1,l1,t4,e1⟩
 cases m with
 | zero=>cases e1
 | succ m =>
  obtain ⟨hstop,hgo⟩:=ok ρ1 H1 st1 i m1 l1
  unfold fY at e1
  split at e1
  ·cases e1
  ·next hs=>cases e1;exact .inl ⟨hstop hs,q.mn (m0.trans m1) σ1 H1 ρ1 .refl l1 t4⟩
  ·next d hs =>
   obtain ⟨δ2,st2,e2,e1⟩:=dU e1
   obtain ⟨f3,st3,e3,e1⟩:=dU e1
   obtain ⟨go,rz⟩:=hgo d hs
   refine .inr ⟨go,fun σ3 H3=>∃ m',m' < m + 1/\∃ ρ1 δ1 st1,Mn K ρ0 H0 ρ1 H3/\Rl K ρ1 H3 st1/\Rs K ρ1 H3 σ3 δ1/\fY S g b m' (i + 1) δ1 st1=some (fl,st'),fun _ _ h=>h,fun x H2 hy=>?_⟩
   obtain ⟨m2,l2,r2⟩:=rz x H2 hy
   refine hg ρ1 σ1 H2 δ1 st1 x d δ2 st2 _ l2 (t4.mn m2) r2 e2 fun σ4 H4 ρ4 m4 l4 r4=>hb ρ4 σ4 H4 δ2 st2 f3 st3 _ l4 r4 e3 ?_
   have m5:=((m1.trans m2).trans m4)
   cases f3 with
   | nx δ3=>exact fun σ5 H5 ρ5 m6 l5 r5=>⟨m,Nat.lt_succ_self m,ρ5,δ3,st3,m5.trans m6,l5,r5,e1⟩
   | ct δ3=>exact fun σ5 H5 ρ5 m6 l5 r5=>⟨m,Nat.lt_succ_self m,ρ5,δ3,st3,m5.trans m6,l5,r5,e1⟩
   | bk δ3=>cases e1;exact q.mn (m0.trans m5)
   | rt d=>cases e1;exact q.mn (m0.trans m5)
def er (fa:au->Dm D):au->Dm Src:=fun δ st=>bnd (fa δ st) fun a st1=>match a with
 | .tup ds=>some (.fix ds,st1)
 | _=>none
theorem pg {t:TE} {fa:au->Dm D} (ha:gp K t fa):vN K (yD K t) (er fa):=by
 intro ρ σ H δ st S st' Q l rs e q
 obtain ⟨a,st1,e1,e⟩:=dU e
 cases a <;> simp at e
 obtain ⟨rfl,rfl⟩:=e
 refine ha ρ σ H δ st _ _ _ l rs e1 fun x H1 ρ1 m1 l1 r1=>?_
 cases r1 with
 | tup s r =>
  refine ⟨_,rfl,⟨_,s⟩,q _ H1 ρ1 m1 l1 fun ρ2 H2 st2 i m2 l2=>⟨fun h=>?_,fun d h=>?_⟩⟩
  ·exact ⟨_,m2.t _ _ s,by rw [r.length];exact List.getElem?_eq_none_iff.mp (t5 h).2⟩
  ·obtain ⟨v,hv,rv⟩:=r.got (t5 h).2
   refine ⟨⟨_,v,m2.t _ _ s,hv⟩,fun x H3 y=>?_⟩
   obtain ⟨rfl,hx⟩:=y
   have:=hx _ (m2.t _ _ s)
   rw [hv] at this
   cases this
   exact ⟨.refl,l2,rv.mn m2⟩
def kL (fa:au->Dm D):au->Dm Src:=fun δ st=>bnd (fa δ st) fun a st1=>match a with
 | .ref i=>match items st1 i with
  | some _=>some (.live i,st1)
  | none=>none
 | _=>none
theorem Gk {t:TE} {fa:au->Dm D} (ha:gp K t fa):vN K (pP K t) (kL fa):=by
 intro ρ σ H δ st S st' Q l rs e q
 obtain ⟨a,st1,e1,e⟩:=dU e
 split at e
 ·next k =>
  split at e
  ·next ds hd =>
   cases e
   refine ha ρ σ H δ st _ _ _ l rs e1 fun x H1 ρ1 m1 l1 r1=>?_
   cases r1 with
   | ref hi =>
    obtain ⟨vs,s,r⟩:=l1.items hi hd
    refine ⟨_,rfl,⟨_,s⟩,q _ H1 ρ1 m1 l1 fun ρ2 H2 st2 i m2 l2=>⟨fun h=>?_,fun d h=>?_⟩⟩
    ·obtain ⟨Oo,hd2,h⟩:=Option.map_eq_some_iff.mp h
     obtain ⟨Ki,s2,r2⟩:=l2.items (m2.r _ _ hi) hd2
     exact ⟨Ki,s2,by rw [r2.length];exact List.getElem?_eq_none_iff.mp h⟩
    ·obtain ⟨Oo,hd2,h⟩:=Option.map_eq_some_iff.mp h
     obtain ⟨Ki,s2,r2⟩:=l2.items (m2.r _ _ hi) hd2
     obtain ⟨v,hv,rv⟩:=r2.got h
     refine ⟨⟨_,v,s2,hv⟩,fun x H3 y=>?_⟩
     obtain ⟨rfl,hx⟩:=y
     have:=hx _ s2
     rw [hv] at this
     cases this
     exact ⟨.refl,l2,rv⟩
  ·cases e
 ·cases e
def bS (fa:au->Dm (List D)):au->Dm Src:=fun δ st=>bnd (fa δ st) fun as st1=>match as with
 | [.int j]=>if decide (-4611686018427387904<=j/\j < 4611686018427387904)=true then some (.fix (aE 0 j.toNat),st1) else none
 | _=>none
def qo (fa:au->Dm (List D)):au->Dm Src:=fun δ st=>bnd (fa δ st) fun as st1=>match as with
 | [.int i,.int j]=>if decide ((-4611686018427387904<=i/\i < 4611686018427387904)/\-4611686018427387904<=j/\j < 4611686018427387904)=true then some (.fix (aE i (j - i).toNat),st1) else none
 | _=>none
theorem gI (lo:Int) (n:Nat):(aE lo n).length=n:=by simp [aE]
theorem Dh {lo:Int} {n k:Nat} (h:k < n):(aE lo n)[k]?=some (.int (lo + k)):=by simp [aE,h]
theorem vO {ρ:List Addr} {H:Hp} (lo:Int) (n:Nat):zX K ρ H (Cn lo n) (.fix (aE lo n)):=by
 intro ρ2 H2 st2 i m2 l2
 refine ⟨fun h=>?_,fun d h=>?_⟩
 ·have:=List.getElem?_eq_none_iff.mp (t5 h).2
  rw [gI] at this
  exact this
 ·have h:=(t5 h).2
  have hl:=(List.getElem?_eq_some_iff.mp h).1
  rw [gI] at hl
  rw [Dh hl] at h
  cases h
  refine ⟨hl,fun x H3 y=>?_⟩
  obtain ⟨rfl,rfl⟩:=y
  exact ⟨.refl,l2,.int _⟩
theorem n8 {t:TA} {fa:au->Dm (List D)} (ha:pC K t fa):vN K (sG t) (bS fa):=by
 intro ρ σ H δ st S st' Q l rs e q
 obtain ⟨as,st1,e1,e⟩:=dU e
 split at e
 ·split at e
  ·next ok =>
   cases e
   have ok:=of_decide_eq_true ok
   refine ha ρ σ H δ st _ _ _ l rs e1 fun x H1 ρ1 m1 l1 r1=>?_
   obtain ⟨v,rfl,r⟩:=r1.one'
   cases r
   exact ⟨_,rfl,by omega,by omega,q _ H1 ρ1 m1 l1 (vO 0 _)⟩
  ·cases e
 ·cases e
def kZ (ds:List D):List D:=ds.mapIdx fun i d=>.tup [.int (i:Int),d]
theorem zY (ds:List D):(kZ ds).length=ds.length:=by simp [kZ]
theorem Gm {ds:List D} {i:Nat} {x:D} (h:(kZ ds)[i]?=some x):∃ d,ds[i]?=some d/\x=.tup [.int (i:Int),d]:=by
 unfold kZ at h
 rw [List.getElem?_mapIdx] at h
 obtain ⟨d,h1,h2⟩:=Option.map_eq_some_iff.mp h
 exact ⟨d,h1,h2.symm⟩
def lS (fa:au->Dm (List D)):au->Dm Src:=fun δ st=>bnd (fa δ st) fun as st1=>match as with
 | [.tup ds]=>some (.fix (kZ ds),st1)
 | _=>none
theorem Kj {t:TA} {fa:au->Dm (List D)} (ha:pC K t fa):vN K (sY K t) (lS fa):=by
 intro ρ σ H δ st S st' Q l rs e q
 obtain ⟨as,st1,e1,e⟩:=dU e
 split at e
 ·cases e
  refine ha ρ σ H δ st _ _ _ l rs e1 fun x H1 ρ1 m1 l1 r1=>?_
  obtain ⟨v,rfl,r⟩:=r1.one'
  cases r with
  | tup s r =>
   refine ⟨_,rfl,⟨_,s⟩,q _ H1 ρ1 m1 l1 fun ρ2 H2 st2 i m2 l2=>⟨fun h=>?_,fun d h=>?_⟩⟩
   ·obtain ⟨h1,h2⟩:=t5 h
    have h2:=List.getElem?_eq_none_iff.mp h2
    rw [zY] at h1 h2
    exact ⟨_,m2.t _ _ s,by rw [r.length];omega⟩
   ·obtain ⟨h1,h2⟩:=t5 h
    obtain ⟨d',hd',rfl⟩:=Gm h2
    obtain ⟨v,hv,rv⟩:=r.got hd'
    refine ⟨⟨_,v,m2.t _ _ s,hv⟩,fun x H3 y=>?_⟩
    obtain ⟨p,z,rfl,hp,rfl,hx⟩:=y
    have:=hx _ (m2.t _ _ s)
    rw [hv] at this
    cases this
    have m3:Mn K ρ2 H2 ρ2 (upd H2 p (.tup [.int (i:Int),v])):=Mn.same (iE.up hp)
    exact ⟨m3,l2.same (iE.up hp),.tup (d9.of pk) (.cons (.int _) (.one ((rv.mn m2).mn m3)))⟩
 ·cases e
def gQ (S:Src) (g:D->au->Dm au) (tc:au->Dm Bool) (te:au->Dm D):Nat->Nat->List D->au->Dm (List D)
 | 0,_,_,_,_=>none
 | n + 1,i,ys,δ,st=>if lim ys.length=true then match S.at i st with
  | none=>none
  | some none=>some (ys,st)
  | some (some d)=>bnd (g d δ st) fun δ1 st1=>bnd (tc δ1 st1) fun t st2=>if t=true then bnd (te δ1 st2) fun y st3=>gQ S g tc te n (i + 1) (ys ++ [y]) δ1 st3 else gQ S g tc te n (i + 1) ys δ1 st2
  else none
def nU (n:Nat) (js:List Nat) (δ:au):au:=List.replicate n none ++ js.map fun j=>δ.getD j none
def di (fi:au->Dm Src) (n:Nat) (js:List Nat) (g:D->au->Dm au) (tc:au->Dm Bool) (te:au->Dm D):au->Dm D:=fun δ st=>bnd (fi δ st) fun S st1=>bnd (gQ S g tc te fuel 0 [] (nU n js δ) st1) fun ys st2=>some (.ref st2.length,st2 ++ [.lst ys])
theorem Rs.comp {ρ:List Addr} {H:Hp} {σ:St} {δ:au} (h:Rs K ρ H σ δ) (n:Nat) (js:List Nat):Rs K ρ H (iJ n js σ) (nU n js δ):=by
 unfold iJ nU
 refine ⟨by simp,fun i d hd=>?_⟩
 by_cases hi:i < n
 ·rw [List.getElem?_append_left (by simpa using hi),List.getElem?_replicate,if_pos hi] at hd
  cases hd
 ·rw [List.getElem?_append_right (by simpa using Nat.le_of_not_lt hi),List.getElem?_map] at hd
  rw [List.getElem?_append_right (by simpa using Nat.le_of_not_lt hi),List.getElem?_map]
  simp only [List.length_replicate] at hd ⊢
  cases hj:js[i - n]? with
  | none=>rw [hj] at hd;cases hd
  | some j =>
   rw [hj] at hd
   have hd:δ.getD j none=some d:=Option.some.inj hd
   rw [List.getD_eq_getElem?_getD] at hd
   have hd':δ[j]?=some (some d):=by
    cases hx:δ[j]? with
    | none=>rw [hx] at hd;cases hd
    | some y=>rw [hx] at hd;exact congrArg some hd
   obtain ⟨v,hv,r⟩:=h.2 j d hd'
   exact ⟨v,by show some (σ.getD j none)=_;rw [List.getD_eq_getElem?_getD,hv];rfl,r⟩
theorem ph {wi:TI} {tg:TG} {tc:TT} {te:TE} {fi:au->Dm Src} {n:Nat} {js:List Nat} {g:D->au->Dm au} {c:au->Dm Bool} {f:au->Dm D} (hi:vN K wi fi) (hg:vL K tg g) (hc:oN K tc c) (hf:gp K te f):gp K (p5 wi n js tg tc te) (di fi n js g c f):=by
 intro ρ σ H δ st b st' Q l rs e q
 obtain ⟨S,kK,e0,e⟩:=dU e
 obtain ⟨zs,nV,e9,e⟩:=dU e
 cases e
 refine hi ρ σ H δ st S kK _ l rs e0 fun J H0 ρ0 m0 l0 ok=>?_
 refine ⟨fun i m ys σ1 H1=>∃ ρ1 δ1 st1 ws,Mn K ρ0 H0 ρ1 H1/\Rl K ρ1 H1 st1/\Rs K ρ1 H1 σ1 δ1/\cB K ρ1 H1 ys ws/\gQ S g c f m i ws δ1 st1=some (zs,nV),⟨fuel,ρ0,_,kK,[],.refl,l0,(rs.mn m0).comp n js,.nil,e9⟩,?_⟩
 rintro i m ys σ1 H1 ⟨ρ1,δ1,st1,ws,m1,l1,t4,Di,e1⟩
 cases m with
 | zero=>cases e1
 | succ m =>
  obtain ⟨hstop,hgo⟩:=ok ρ1 H1 st1 i m1 l1
  unfold gQ at e1
  split at e1
  ·next hl =>
   refine ⟨by rw [Di.length];exact Gb hl,?_⟩
   split at e1
   ·cases e1
   ·next hs =>
    cases e1
    exact .inl ⟨hstop hs,fun p hp=>q _ _ _ ((m0.trans m1).trans (Mn.new hp)) (l1.newL hp Di) (.ref (newR l1))⟩
   ·next d hs =>
    obtain ⟨δ2,st2,e2,e1⟩:=dU e1
    obtain ⟨t,st3,e3,e1⟩:=dU e1
    obtain ⟨go,rz⟩:=hgo d hs
    refine .inr ⟨go,fun x H2 hy=>?_⟩
    obtain ⟨m2,l2,r2⟩:=rz x H2 hy
    refine hg ρ1 σ1 H2 δ1 st1 x d δ2 st2 _ l2 (t4.mn m2) r2 e2 fun σ4 H4 ρ4 m4 l4 r4=>hc ρ4 σ4 H4 δ2 st2 t st3 _ l4 r4 e3 fun t' H5 ρ5 m5 l5 r5=>?_
    subst r5
    have m6:=(((m1.trans m2).trans m4).trans m5)
    cases t' with
    | true =>
     refine o7 ?_
     rw [if_pos rfl] at e1
     obtain ⟨y,Dj,e6,e1⟩:=dU e1
     exact hf ρ5 σ4 H5 δ2 st3 y Dj _ l5 (r4.mn m5) e6 fun v H7 ρ7 m7 l7 r7=>⟨m,Nat.lt_succ_self m,ρ7,δ2,Dj,ws ++ [y],m6.trans m7,l7,r4.mn (m5.trans m7),(Di.mn (((m2.trans m4).trans m5).trans m7)).append (.one r7),e1⟩
    | false =>
     refine o6 ?_
     rw [if_neg Bool.false_ne_true] at e1
     exact ⟨m,Nat.lt_succ_self m,ρ5,δ2,st3,ws,m6,l5,r4.mn m5,Di.mn ((m2.trans m4).trans m5),e1⟩
  ·cases e1
def d6:au->Dm Bool:=fun _ st=>some (true,st)
def eA (n:Nat) (b:au->Dm Fl):List D->Dm D:=fun ds st=>bnd (b (ds.map some ++ List.replicate (n - ds.length) none) st) fun fl st1=>match fl with
 | .rt d=>some (d,st1)
 | .nx _=>some (.non,st1)
 | _=>none
theorem Rs.start {ρ:List Addr} {H:Hp} {vs:List V} {ds:List D} (r:cB K ρ H vs ds) (N:List Str):Rs K ρ H (start N vs) (ds.map some ++ List.replicate (N.length - ds.length) none):=by
 unfold L2.start
 rw [r.length]
 refine ⟨by simp [r.length],fun i d hd=>?_⟩
 by_cases hi:i < ds.length
 ·rw [List.getElem?_append_left (by simpa using hi),List.getElem?_map] at hd
  rw [List.getElem?_append_left (by rw [List.length_map,r.length];exact hi),List.getElem?_map]
  cases hx:ds[i]? with
  | none=>rw [hx] at hd;cases hd
  | some y =>
   rw [hx] at hd
   cases hd
   obtain ⟨v,hv,rv⟩:=r.got hx
   exact ⟨v,by rw [hv];rfl,rv⟩
 ·rw [List.getElem?_append_right (by simpa using Nat.le_of_not_lt hi),List.getElem?_replicate] at hd
  split at hd <;> cases hd
theorem ft {N:List Str} {k n:Nat} {t:TS} {b:au->Dm Fl} {vs:List V} {H:Hp} {Q:VK} {E:XK} (hb:nI K t b) (hn:N.length=n) (h:bj K k (eA n b) vs H Q E):t { nx:=fun _ H'=>Q .non H',rt:=Q } (start N vs) H:=by
 obtain ⟨hk,ρ,st,ds,d,st',l,r,e,q⟩:=h
 subst hn
 obtain ⟨fl,st1,e1,e⟩:=dU e
 refine hb ρ _ H _ st fl st1 _ l (Rs.start r N) e1 ?_
 cases fl with
 | rt v=>cases e;exact q
 | nx δ=>cases e;exact fun σ' H' ρ' m l' r'=>q .non H' ρ' m l' .non
 | bk δ=>cases e
 | ct δ=>cases e
end
end L4
namespace L4
open PySem PySem.Spec L2
section
variable {X:Cx} {K:PySem.W.Frag}
theorem Kk {N:List Str} {qq:Scope} {cells:List (Str×Addr)} {C:Addr} {fp:List Addr} {s:Shared} {H:Hp} {qr:Scope} {own fr:List Str} (h:p3 (pZ qq X.env.scope) qr own fr):p3 (aU X N qq cells C fp s H).env.scope qr own fr:=h
theorem qu:oN K (fun _ H Q=>Q true H) d6:=by
 intro ρ σ H δ st b st' Q l rs e q
 cases e
 exact q _ H ρ .refl l rfl
end
def t6 (K:PySem.W.Frag):Sp:=fun vs H Q _=>∃ (a:Addr) (ns:List Int),vs=[.ref a]/\y3 K H a (ns.map V.int)/\ns.length<=63/\∀ H',Q (.bl true) H'
theorem vP {P:Program} {w:World} {K:PySem.W.Frag} {mg:Str->Option Value} {base:Heap} {k:Nat} {f:Addr} {fd:FuncData} {ps:List Str} {F:List D->Dm D} (G:aD P w K mg base bh k f fd ps (bj K 1 F))
  (h:∀ ns:List Int,ns.length<=63->∃ st',F [.ref 0] [.pd (ns.map D.int)]=some (.bl true,st')):aD P w K mg base bh k f fd ps (t6 K):=by
 refine G.imp fun vs H Q E hs=>?_
 obtain ⟨a,ns,rfl,hS,hn,q⟩:=hs
 obtain ⟨st',e⟩:=h ns hn
 have one:∀ i (b:Addr),([a]:List Addr)[i]?=some b->i=0/\b=a:=fun i b h=>by
  cases i with
  | zero=>exact ⟨rfl,(Option.some.inj h).symm⟩
  | succ i=>simp at h
 refine ⟨rfl,[a],[.pd (ns.map D.int)],[.ref 0],.bl true,st',⟨rfl,fun i j b o o' h1 h2 _ _ _ _=>by rw [(one i b h1).1,(one j b h2).1],fun i b o h1 h2=>?_⟩,.one (.ref rfl),e,fun v H' ρ' m l r=>by cases r;exact q H'⟩
 obtain ⟨rfl,rfl⟩:=one i b h1
 cases (Option.some.inj h2)
 exact ⟨ns.map V.int,hS,cB.ints ns⟩
def Wp {α:Type} (m:Option (α×Store)) (Q:α->Store->Prop):Prop:=∃ a st,m=some (a,st)/\Q a st
section
variable {α β:Type} {Q Q':α->Store->Prop} {st:Store} {δ:au}
theorem a6 {m:Option (α×Store)} (h:Wp m Q) (hq:∀ a st,Q a st->Q' a st):Wp m Q':=let ⟨a,st,e,q⟩:=h;⟨a,st,e,hq a st q⟩
theorem bD {a:α}:Wp (some (a,st)) Q↔Q a st:=⟨fun ⟨_,_,e,q⟩=>by cases e;exact q,fun q=>⟨a,st,rfl,q⟩⟩
theorem fu:Wp (none:Option (α×Store)) Q↔False:=⟨fun ⟨_,_,e,_⟩=>(by cases e),False.elim⟩
theorem dg {R:β->Store->Prop} {m:Option (α×Store)} {k:α->Dm β}:Wp (bnd m k) R↔Wp m fun a st1=>Wp (k a st1) R:=by
 cases m with
 | none=>exact ⟨fun ⟨_,_,e,_⟩=>(by cases e),fun ⟨_,_,e,_⟩=>(by cases e)⟩
 | some p=>exact ⟨fun h=>⟨p.1,p.2,rfl,h⟩,fun ⟨a,s,e,h⟩=>by cases e;exact h⟩
theorem nc {c:Prop} [Decidable c] {m n:Option (α×Store)}:Wp (if c then m else n) Q↔if c then Wp m Q else Wp n Q:=by split <;> exact Iff.rfl
end
section
variable {st:Store} {δ:au} {Q:D->Store->Prop}
theorem vQ {i:Nat}:Wp (ag i δ st) Q↔∃ d,δ[i]?=some (some d)/\Q d st:=by
 unfold ag
 split
 ·next d hd=>rw [bD];exact ⟨fun h=>⟨d,hd,h⟩,fun ⟨e,he,h⟩=>by rw [hd] at he;cases he;exact h⟩
 ·next h=>rw [fu];exact ⟨False.elim,fun ⟨e,he,_⟩=>h e he⟩
theorem Gn {d:D}:Wp (fC d δ st) Q↔Q d st:=bD
theorem zZ {g:D->D->Dm D} {fa fb:au->Dm D}:Wp (aA g fa fb δ st) Q↔Wp (fa δ st) fun a st1=>Wp (fb δ st1) fun b st2=>Wp (g a b st2) Q:=by
 unfold aA;rw [dg];simp only [dg]
theorem Aa {g:D->Dm D} {fa:au->Dm D}:Wp (pE g fa δ st) Q↔Wp (fa δ st) fun a st1=>Wp (g a st1) Q:=dg
theorem Ab {g:List D->Dm D} {fa:au->Dm (List D)}:Wp (aR g fa δ st) Q↔Wp (fa δ st) fun a st1=>Wp (g a st1) Q:=dg
theorem vR {R:List D->Store->Prop}:Wp (ah δ st) R↔R [] st:=bD
theorem Oq {R:List D->Store->Prop} {fa:au->Dm D} {fr:au->Dm (List D)}:Wp (ae fa fr δ st) R↔Wp (fa δ st) fun a st1=>Wp (fr δ st1) fun r st2=>R (a :: r) st2:=by
 unfold ae;rw [dg];simp only [dg,bD]
theorem vS {fa:au->Dm (List D)}:Wp (bB fa δ st) Q↔Wp (fa δ st) fun as st1=>lim as.length=true/\Q (.tup as) st1:=by
 unfold bB;rw [dg];simp only [nc,bD,fu]
 constructor <;> exact fun h=>a6 h fun a s h=>by first | (split at h;exact ⟨by assumption,h⟩;exact h.elim) | (rw [if_pos h.1];exact h.2)
theorem vT {fa:au->Dm (List D)}:Wp (eD fa δ st) Q↔Wp (fa δ st) fun as st1=>lim as.length=true/\Q (.ref st1.length) (st1 ++ [.lst as]):=by
 unfold eD;rw [dg];simp only [nc,bD,fu]
 constructor <;> exact fun h=>a6 h fun a s h=>by first | (split at h;exact ⟨by assumption,h⟩;exact h.elim) | (rw [if_pos h.1];exact h.2)
theorem Ot {R:Bool->Store->Prop} {fa:au->Dm D}:Wp (aP fa δ st) R↔Wp (fa δ st) fun a st1=>∃ b,a=.bl b/\R b st1:=by
 unfold aP;rw [dg]
 constructor <;> refine fun h=>a6 h fun a s h=>?_
 ·cases a <;> simp only [bD,fu] at h
  exact ⟨_,rfl,h⟩
 ·obtain ⟨b,rfl,h⟩:=h
  exact bD.mpr h
theorem vU {R:Bool->Store->Prop} {fa:au->Dm Bool}:Wp (rW fa δ st) R↔Wp (fa δ st) fun a st1=>R (!a) st1:=by
 unfold rW;rw [dg];simp only [bD]
theorem vV {R:Bool->Store->Prop} {fa fb:au->Dm Bool}:Wp (qi fa fb δ st) R↔Wp (fa δ st) fun a st1=>if a=true then Wp (fb δ st1) R else R false st1:=by
 unfold qi;rw [dg];simp only [nc,bD]
theorem Ac {R:Bool->Store->Prop} {fa fb:au->Dm Bool}:Wp (xQ fa fb δ st) R↔Wp (fa δ st) fun a st1=>if a=true then R true st1 else Wp (fb δ st1) R:=by
 unfold xQ;rw [dg];simp only [nc,bD]
theorem t9 {α:Type} {R:α->Store->Prop} {c:au->Dm Bool} {fa fb:au->Dm α}:Wp (jH c fa fb δ st) R↔Wp (c δ st) fun a st1=>if a=true then Wp (fa δ st1) R else Wp (fb δ st1) R:=by
 unfold jH;rw [dg];simp only [nc]
theorem Ou {fa fb:au->Dm D}:Wp (oO fa fb δ st) Q↔Wp (aP fa δ st) fun a st1=>if a=true then Wp (fb δ st1) Q else Q (.bl false) st1:=by
 unfold oO;rw [dg];simp only [nc,bD]
theorem vW {fa fb:au->Dm D}:Wp (zP fa fb δ st) Q↔Wp (aP fa δ st) fun a st1=>if a=true then Q (.bl true) st1 else Wp (fb δ st1) Q:=by
 unfold zP;rw [dg];simp only [nc,bD]
theorem Ov {fa:au->Dm D}:Wp (tP fa δ st) Q↔Wp (aP fa δ st) fun a st1=>Q (.bl (!a)) st1:=by
 unfold tP;rw [dg];simp only [bD]
theorem Ow {R:Option Int->Store->Prop}:Wp (jh δ st) R↔R none st:=bD
theorem Ox {R:Option Int->Store->Prop} {fa:au->Dm D}:Wp (lQ fa δ st) R↔Wp (fa δ st) fun a st1=>∃ i,a=.int i/\R (some i) st1:=by
 unfold lQ;rw [dg]
 constructor <;> refine fun h=>a6 h fun a s h=>?_
 ·cases a <;> simp only [bD,fu] at h
  exact ⟨_,rfl,h⟩
 ·obtain ⟨b,rfl,h⟩:=h
  exact bD.mpr h
theorem Ad {g:D->Option Int->Option Int->Dm D} {fa:au->Dm D} {fl fh:au->Dm (Option Int)}:Wp (vC g fa fl fh δ st) Q↔Wp (fa δ st) fun a st1=>Wp (fl δ st1) fun lo st2=>Wp (fh δ st2) fun hi st3=>Wp (g a lo hi st3) Q:=by
 unfold vC;rw [dg];simp only [dg]
theorem Ae {T:String} {g:D->List D->Dm D} {fo:au->Dm D} {fa:au->Dm (List D)}:Wp (n5 T g fo fa δ st) Q↔Wp (fo δ st) fun o st1=>tT T st1 o=true/\Wp (fa δ st1) fun as st2=>Wp (g o as st2) Q:=by
 unfold n5;rw [dg];simp only [nc,dg,fu]
 constructor <;> exact fun h=>a6 h fun a s h=>by first | (split at h;exact ⟨by assumption,h⟩;exact h.elim) | (rw [if_pos h.1];exact h.2)
variable {i j:Int} {ds es:List D} {k:Nat}
theorem vX:Wp (cV (.int i) (.int j) st) Q↔Q (.int (i + j)) st:=bD
theorem vY:Wp (lK (.int i) (.int j) st) Q↔Q (.int (i - j)) st:=bD
theorem Af:Wp (xS (.int i) (.int j) st) Q↔Q (.bl (decide (i < j))) st:=bD
theorem Ag:Wp (Oe (.int i) (.int j) st) Q↔Q (.bl (decide (i<=j))) st:=bD
theorem Ah:Wp (zR (.int i) (.int j) st) Q↔Q (.bl (decide (j < i))) st:=bD
theorem Ai:Wp (Ge (.int i) (.int j) st) Q↔Q (.bl (decide (j<=i))) st:=bD
theorem vZ:Wp (kH (.int i) st) Q↔Q (.int (-i)) st:=bD
theorem xY {c:Int->Int->Bool} {h:Int->Int->D}:Wp (rX c h (.int i) (.int j) st) Q↔c i j=true/\Q (h i j) st:=by
 show Wp (if c i j=true then some (h i j,st) else none) Q↔_
 rw [nc,bD,fu]
 split
 ·next h=>exact ⟨fun q=>⟨h,q⟩,fun q=>q.2⟩
 ·next h=>exact ⟨False.elim,fun q=>h q.1⟩
theorem v9:Wp (kG (.int i) (.int j) st) Q↔((-18446744073709551616 < i/\i < 18446744073709551616)\/(-18446744073709551616 < j/\j < 18446744073709551616))/\Q (.int (i * j)) st:=by
 unfold kG;rw [xY,Bool.or_eq_true,decide_eq_true_eq,decide_eq_true_eq]
theorem Oy:Wp (nT (.int i) (.int j) st) Q↔(0 < j/\j < 1073741824)/\Q (.int (i / j)) st:=by unfold nT;rw [xY,decide_eq_true_eq]
theorem wa:Wp (jI (.int i) (.int j) st) Q↔0 < j/\Q (.int (i % j)) st:=by unfold jI;rw [xY,decide_eq_true_eq]
theorem wb:Wp (qj (.int i) (.int j) st) Q↔(0<=j/\j<=1000000/\i.natAbs < 18446744073709551616)/\Q (.int (i ^ j.toNat)) st:=by unfold qj;rw [xY,decide_eq_true_eq]
theorem wc {neg:Bool}:Wp (kr neg (.int i) (.int j) st) Q↔Q (.bl (if neg then !decide (i=j) else decide (i=j))) st:=by
 have e:decide (V.int i=V.int j)=decide (i=j):=by
  by_cases h:i=j
  ·subst h;simp
  ·simp [h]
 show Wp (if oe (V.int i) (V.int j)=true then some (D.bl (if neg then !decide (V.int i=V.int j) else decide (V.int i=V.int j)),st) else none) Q↔_
 rw [if_pos (show oe _ _=true from rfl),bD,e]
theorem wg {neg:Bool} {x y:Str}:Wp (kr neg (.str x) (.str y) st) Q↔Q (.bl (if neg then !decide (x=y) else decide (x=y))) st:=by
 have e:decide (V.str x=V.str y)=decide (x=y):=by
  by_cases h:x=y
  ·subst h;simp
  ·simp [h]
 show Wp (if oe (V.str x) (V.str y)=true then some (D.bl (if neg then !decide (V.str x=V.str y) else decide (V.str x=V.str y)),st) else none) Q↔_
 rw [if_pos (show oe _ _=true from rfl),bD,e]
theorem wj:Wp (aK (.tup ds) (.int i) st) Q↔∃ d,gK ds i=some d/\Q d st:=by
 show Wp (match gK ds i with | some d=>some (d,st) | none=>none) Q↔_
 cases gK ds i with
 | none=>rw [fu];exact ⟨False.elim,fun ⟨_,e,_⟩=>by cases e⟩
 | some d=>rw [bD];exact ⟨fun q=>⟨d,rfl,q⟩,fun ⟨_,e,q⟩=>by cases e;exact q⟩
theorem wk:Wp (fm (.ref k) (.int i) st) Q↔∃ ds d,items st k=some ds/\gK ds i=some d/\Q d st:=by
 show Wp (match items st k with | some ds=>(match gK ds i with | some d=>some (d,st) | none=>none) | none=>none) Q↔_
 cases items st k with
 | none=>rw [fu];exact ⟨False.elim,fun ⟨_,_,e,_⟩=>by cases e⟩
 | some ds =>
  show Wp (match gK ds i with | some d=>some (d,st) | none=>none) Q↔_
  cases h:gK ds i with
  | none=>rw [fu];exact ⟨False.elim,fun ⟨_,_,e,e',_⟩=>by cases e;rw [h] at e';cases e'⟩
  | some d=>rw [bD];exact ⟨fun q=>⟨ds,d,rfl,h,q⟩,fun ⟨_,_,e,e',q⟩=>by cases e;rw [h] at e';cases e';exact q⟩
theorem wm {lo hi:Option Int}:Wp (qk (.tup ds) lo hi st) Q↔Q (.tup (cutD ds lo hi)) st:=bD
theorem wo {lo hi:Option Int}:Wp (rY (.ref k) lo hi st) Q↔∃ ds,items st k=some ds/\Q (.ref st.length) (st ++ [.lst (cutD ds lo hi)]):=by
 show Wp (match items st k with | some ds=>some (D.ref st.length,st ++ [O.lst (cutD ds lo hi)]) | none=>none) Q↔_
 cases items st k with
 | none=>rw [fu];exact ⟨False.elim,fun ⟨_,e,_⟩=>by cases e⟩
 | some ds=>rw [bD];exact ⟨fun q=>⟨ds,rfl,q⟩,fun ⟨_,e,q⟩=>by cases e;exact q⟩
theorem Oz:Wp (iB (.tup ds) (.tup es) st) Q↔lim (ds.length + es.length)=true/\Q (.tup (ds ++ es)) st:=by
 show Wp (if lim (ds.length + es.length)=true then some (D.tup (ds ++ es),st) else none) Q↔_
 rw [nc,bD,fu]
 split
 ·next h=>exact ⟨fun q=>⟨h,q⟩,fun q=>q.2⟩
 ·next h=>exact ⟨False.elim,fun q=>h q.1⟩
theorem wq {a b:Nat}:Wp (mv (.ref a) (.ref b) st) Q↔∃ xs ys,own st a=some xs/\own st b=some ys/\lim (xs.length + ys.length)=true/\Q (.ref st.length) (st ++ [.lst (xs ++ ys)]):=by
 show Wp (match own st a,own st b with | some xs,some ys=>if lim (xs.length + ys.length)=true then some (D.ref st.length,st ++ [O.lst (xs ++ ys)]) else none | _,_=>none) Q↔_
 cases ha:own st a <;> cases hb:own st b
 ·simp only [fu];exact ⟨False.elim,fun ⟨_,_,e,_⟩=>by cases e⟩
 ·simp only [fu];exact ⟨False.elim,fun ⟨_,_,e,_⟩=>by cases e⟩
 ·simp only [fu];exact ⟨False.elim,fun ⟨_,_,_,e,_⟩=>by cases e⟩
 ·next xs ys =>
  show Wp (if lim (xs.length + ys.length)=true then some (D.ref st.length,st ++ [O.lst (xs ++ ys)]) else none) Q↔_
  rw [nc,bD,fu]
  split
  ·next h=>exact ⟨fun q=>⟨_,_,rfl,rfl,h,q⟩,fun ⟨_,_,e,e',_,q⟩=>by cases e;cases e';exact q⟩
  ·next h=>exact ⟨False.elim,fun ⟨_,_,e,e',q,_⟩=>by cases e;cases e';exact h q⟩
theorem wt {a:D}:Wp (dA [a] st) Q↔∃ ds,c4 st a=some ds/\Q (.int ds.length) st:=by
 show Wp (match c4 st a with | some ds=>some (D.int ds.length,st) | none=>none) Q↔_
 cases c4 st a with
 | none=>rw [fu];exact ⟨False.elim,fun ⟨_,e,_⟩=>by cases e⟩
 | some ds=>rw [bD];exact ⟨fun q=>⟨ds,rfl,q⟩,fun ⟨_,e,q⟩=>by cases e;exact q⟩
theorem OA {a:D}:Wp (mG [a] st) Q↔∃ ds,c4 st a=some ds/\Q (.ref st.length) (st ++ [.lst ds]):=by
 show Wp (match c4 st a with | some ds=>some (D.ref st.length,st ++ [O.lst ds]) | none=>none) Q↔_
 cases c4 st a with
 | none=>rw [fu];exact ⟨False.elim,fun ⟨_,e,_⟩=>by cases e⟩
 | some ds=>rw [bD];exact ⟨fun q=>⟨ds,rfl,q⟩,fun ⟨_,e,q⟩=>by cases e;exact q⟩
theorem OB {a:D}:Wp (bM [a] st) Q↔∃ ds,c4 st a=some ds/\Q (.tup ds) st:=by
 show Wp (match c4 st a with | some ds=>some (D.tup ds,st) | none=>none) Q↔_
 cases c4 st a with
 | none=>rw [fu];exact ⟨False.elim,fun ⟨_,e,_⟩=>by cases e⟩
 | some ds=>rw [bD];exact ⟨fun q=>⟨ds,rfl,q⟩,fun ⟨_,e,q⟩=>by cases e;exact q⟩
theorem OC:Wp (oP [.int i,.int j] st) Q↔Q (.int (if j > i then j else i)) st:=bD
theorem OD:Wp (oQ [.int i,.int j] st) Q↔Q (.int (if j < i then j else i)) st:=bD
theorem OE:Wp (mH [.int i] st) Q↔Q (.int i) st:=bD
theorem OG {b:Bool}:Wp (mH [.bl b] st) Q↔Q (.int (if b then 1 else 0)) st:=bD
theorem OH:Wp (gO [.int j] st) Q↔Q (.ref st.length) (st ++ [.iF 0 j]):=bD
theorem OI:Wp (eE [.int i,.int j] st) Q↔Q (.ref st.length) (st ++ [.iF i j]):=bD
theorem OJ {y:D}:Wp (dh (.ref k) [y] st) Q↔∃ xs,own st k=some xs/\lim xs.length=true/\Q .non (st.set k (.lst (xs ++ [y]))):=by
 show Wp (match own st k with | some xs=>if lim xs.length=true then some (D.non,st.set k (O.lst (xs ++ [y]))) else none | none=>none) Q↔_
 cases own st k with
 | none=>rw [fu];exact ⟨False.elim,fun ⟨_,e,_⟩=>by cases e⟩
 | some xs =>
  show Wp (if lim xs.length=true then some (D.non,st.set k (O.lst (xs ++ [y]))) else none) Q↔_
  rw [nc,bD,fu]
  split
  ·next h=>exact ⟨fun q=>⟨_,rfl,h,q⟩,fun ⟨_,e,_,q⟩=>by cases e;exact q⟩
  ·next h=>exact ⟨False.elim,fun ⟨_,e,q,_⟩=>by cases e;exact h q⟩
end
def Ws (m:Option (Fl×Store)) (N B C:au->Store->Prop) (R:D->Store->Prop):Prop:=Wp m fun fl st=>match fl with
 | .nx δ=>N δ st
 | .bk δ=>B δ st
 | .ct δ=>C δ st
 | .rt d=>R d st
section
variable {st:Store} {δ:au} {N B C:au->Store->Prop} {R:D->Store->Prop} {f g:au->Dm Fl} {e:au->Dm D}
theorem wx {m:Option (Fl×Store)} {N':au->Store->Prop} (h:Ws m N B C R) (hn:∀ δ st,N δ st->N' δ st):Ws m N' B C R:=a6 h fun fl st q=>by
 cases fl with
 | nx δ=>exact hn δ st q
 | bk δ=>exact q
 | ct δ=>exact q
 | rt d=>exact q
theorem bq (h:Ws (f δ st) (fun δ1 st1=>Ws (g δ1 st1) N B C R) B C R):Ws (aF f g δ st) N B C R:=by
 unfold Ws aF
 rw [dg]
 refine a6 h fun fl st1 q=>?_
 cases fl with
 | nx δ1=>exact q
 | bk δ1=>exact bD.mpr q
 | ct δ1=>exact bD.mpr q
 | rt d=>exact bD.mpr q
theorem ll (h:N δ st):Ws (b6 δ st) N B C R:=bD.mpr h
theorem qv {t:D->au->Dm au} (h:Wp (e δ st) fun d st1=>Wp (t d δ st1) N):Ws (aM e t δ st) N B C R:=by
 unfold Ws aM
 rw [dg]
 refine a6 h fun d st1 q=>?_
 rw [dg]
 exact a6 q fun δ1 st2 q=>bD.mpr q
theorem b7 {i:Nat} (h:Wp (e δ st) fun d st1=>N (δ.set i (some d)) st1):Ws (aM e (hName i) δ st) N B C R:=qv (a6 h fun d st1 q=>bD.mpr q)
theorem uc (h:Wp (e δ st) fun _ st1=>N δ st1):Ws (iN e δ st) N B C R:=by
 unfold Ws iN
 rw [dg]
 exact a6 h fun d st1 q=>bD.mpr q
theorem dD (h:Wp (e δ st) R):Ws (a7 e δ st) N B C R:=by
 unfold Ws a7
 rw [dg]
 exact a6 h fun d st1 q=>bD.mpr q
theorem jJ {c:au->Dm Bool} (h:Wp (c δ st) fun b st1=>(b=true->Ws (f δ st1) N B C R)/\(b=false->Ws (g δ st1) N B C R)):Ws (jH c f g δ st) N B C R:=by
 unfold Ws
 rw [t9]
 refine a6 h fun b st1 q=>?_
 cases b with
 | true=>rw [if_pos rfl];exact q.1 rfl
 | false=>rw [if_neg Bool.false_ne_true];exact q.2 rfl
theorem Kl {i j:Nat} {fa:au->Dm (List D)} (h:Wp (fa δ st) fun as st1=>∃ a b,as=[a,b]/\N ((δ.set i (some a)).set j (some b)) st1):Ws (qm i j fa δ st) N B C R:=by
 unfold Ws qm
 rw [dg]
 refine a6 h fun as st1 q=>?_
 obtain ⟨a,b,rfl,q⟩:=q
 exact bD.mpr q
theorem eU {n:Nat} {b:au->Dm Fl} {ds:List D} (h:Ws (b (ds.map some ++ List.replicate (n - ds.length) none) st) (fun _ st1=>R .non st1) (fun _ _=>False) (fun _ _=>False) R):Wp (eA n b ds st) R:=by
 unfold eA
 rw [dg]
 refine a6 h fun fl st1 q=>?_
 cases fl with
 | nx δ1=>exact bD.mpr q
 | bk δ1=>exact q.elim
 | ct δ1=>exact q.elim
 | rt d=>exact bD.mpr q
theorem xZ {c:au->Dm Bool} {b:au->Dm Fl} (W:Nat->au->Store->Prop) (m:Nat) (hm:m < fuel) (h0:W m δ st)
  (step:∀ m δ st,W m δ st->Wp (c δ st) fun t st1=>(t=true->Ws (b δ st1) (fun δ2 st2=>∃ m',m' < m/\W m' δ2 st2) N (fun δ2 st2=>∃ m',m' < m/\W m' δ2 st2) R)/\(t=false->N δ st1)):Ws (iO c b δ st) N B C R:=by
 have key:∀ (k m:Nat) (δ:au) (st:Store),m < k->W m δ st->Ws (fq c b k δ st) N B C R:=by
  intro k
  induction k with
  | zero=>intro m δ st h;exact absurd h (Nat.not_lt_zero _)
  | succ k ih =>
   intro m δ st hk hw
   unfold Ws fq
   rw [dg]
   refine a6 (step m δ st hw) fun t st1 q=>?_
   cases t with
   | false=>rw [if_neg Bool.false_ne_true];exact bD.mpr (q.2 rfl)
   | true =>
    rw [if_pos rfl,dg]
    refine a6 (q.1 rfl) fun fl st2 q=>?_
    cases fl with
    | nx δ2=>obtain ⟨m',hm',w⟩:=q;exact ih m' δ2 st2 (by omega) w
    | ct δ2=>obtain ⟨m',hm',w⟩:=q;exact ih m' δ2 st2 (by omega) w
    | bk δ2=>exact bD.mpr q
    | rt d=>exact bD.mpr q
 exact key fuel m δ st hm h0
theorem mh {fi:au->Dm Src} {t:D->au->Dm au} {b:au->Dm Fl} (ds:List D) (Pv:Nat->au->Store->Prop) (hi:Wp (fi δ st) fun S st1=>S=.fix ds/\Pv 0 δ st1) (hl:ds.length < 100000)
  (step:∀ i d δ st,ds[i]?=some d->Pv i δ st->Wp (t d δ st) fun δ1 st1=>Ws (b δ1 st1) (Pv (i + 1)) N (Pv (i + 1)) R) (fin:∀ δ st,Pv ds.length δ st->N δ st):Ws (dC fi t b δ st) N B C R:=by
 unfold Ws dC
 rw [dg]
 refine a6 hi fun S kK q=>?_
 obtain ⟨rfl,h0⟩:=q
 have key:∀ (k i:Nat) (δ:au) (st:Store),i<=ds.length->ds.length - i < k->Pv i δ st->Ws (fY (.fix ds) t b k i δ st) N B C R:=by
  intro k
  induction k with
  | zero=>intro i δ st _ h;exact absurd h (Nat.not_lt_zero _)
  | succ k ih =>
   intro i δ st hi hk hw
   unfold Ws fY
   have e:Src.at (.fix ds) i st=some ds[i]?:=by show (if i<=ds.length then some ds[i]? else none)=_;rw [if_pos hi]
   rw [e]
   cases hd:ds[i]? with
   | none =>
    have:=List.getElem?_eq_none_iff.mp hd
    have e:i=ds.length:=by omega
    exact bD.mpr (fin δ st (e ▸ hw))
   | some d =>
    have hlt:=(List.getElem?_eq_some_iff.mp hd).1
    show Wp (bnd _ _) _
    rw [dg]
    refine a6 (step i d δ st hd hw) fun δ1 st1 q=>?_
    rw [dg]
    refine a6 q fun fl st2 q=>?_
    cases fl with
    | nx δ2=>exact ih (i + 1) δ2 st2 (by omega) (by omega) q
    | ct δ2=>exact ih (i + 1) δ2 st2 (by omega) (by omega) q
    | bk δ2=>exact bD.mpr q
    | rt d=>exact bD.mpr q
 exact key fuel 0 δ kK (Nat.zero_le _) (Nat.lt_trans (by omega) (show 100000 < fuel by decide)) h0
theorem Km {fi:au->Dm Src} {t:D->au->Dm au} {b:au->Dm Fl} (ds:List D) (r:Nat) (Pv:Nat->au->Store->Prop) (hi:Wp (fi δ st) fun S st1=>S=.live r/\Pv 0 δ st1) (hl:ds.length < 100000) (hk:∀ i δ st,Pv i δ st->items st r=some ds)
  (step:∀ i d δ st,ds[i]?=some d->Pv i δ st->Wp (t d δ st) fun δ1 st1=>Ws (b δ1 st1) (Pv (i + 1)) N (Pv (i + 1)) R) (fin:∀ δ st,Pv ds.length δ st->N δ st):Ws (dC fi t b δ st) N B C R:=by
 unfold Ws dC
 rw [dg]
 refine a6 hi fun S kK q=>?_
 obtain ⟨rfl,h0⟩:=q
 have key:∀ (k i:Nat) (δ:au) (st:Store),i<=ds.length->ds.length - i < k->Pv i δ st->Ws (fY (.live r) t b k i δ st) N B C R:=by
  intro k
  induction k with
  | zero=>intro i δ st _ h;exact absurd h (Nat.not_lt_zero _)
  | succ k ih =>
   intro i δ st hi hk' hw
   unfold Ws fY
   have e:Src.at (.live r) i st=some ds[i]?:=by show (items st r).map _=_;rw [hk i δ st hw];rfl
   rw [e]
   cases hd:ds[i]? with
   | none =>
    have:=List.getElem?_eq_none_iff.mp hd
    have e:i=ds.length:=by omega
    exact bD.mpr (fin δ st (e ▸ hw))
   | some d =>
    have hlt:=(List.getElem?_eq_some_iff.mp hd).1
    show Wp (bnd _ _) _
    rw [dg]
    refine a6 (step i d δ st hd hw) fun δ1 st1 q=>?_
    rw [dg]
    refine a6 q fun fl st2 q=>?_
    cases fl with
    | nx δ2=>exact ih (i + 1) δ2 st2 (by omega) (by omega) q
    | ct δ2=>exact ih (i + 1) δ2 st2 (by omega) (by omega) q
    | bk δ2=>exact bD.mpr q
    | rt d=>exact bD.mpr q
 exact key fuel 0 δ kK (Nat.zero_le _) (Nat.lt_trans (by omega) (show 100000 < fuel by decide)) h0
theorem Gp {fi:au->Dm Src} {n:Nat} {js:List Nat} {t:D->au->Dm au} {c:au->Dm Bool} {f:au->Dm D} {Q:D->Store->Prop} (ds:List D) (Pv:Nat->List D->au->Store->Prop)
  (hi:Wp (fi δ st) fun S st1=>(∀ i ys δ st,i<=ds.length->Pv i ys δ st->S.at i st=some ds[i]?)/\Pv 0 [] (nU n js δ) st1) (hl:ds.length < 100000) (hy:∀ i ys δ st,Pv i ys δ st->ys.length<=i)
  (step:∀ i d ys δ st,ds[i]?=some d->Pv i ys δ st->Wp (t d δ st) fun δ1 st1=>Wp (c δ1 st1) fun b st2=>(b=true->Wp (f δ1 st2) fun y st3=>Pv (i + 1) (ys ++ [y]) δ1 st3)/\(b=false->Pv (i + 1) ys δ1 st2))
  (fin:∀ ys δ st,Pv ds.length ys δ st->Q (.ref st.length) (st ++ [.lst ys])):Wp (di fi n js t c f δ st) Q:=by
 unfold di
 rw [dg]
 refine a6 hi fun S kK q=>?_
 obtain ⟨hS,h0⟩:=q
 have key:∀ (k i:Nat) (ys:List D) (δ:au) (st:Store),i<=ds.length->ds.length - i < k->Pv i ys δ st->Wp (gQ S t c f k i ys δ st) fun zs nV=>∃ δ9,Pv ds.length zs δ9 nV:=by
  intro k
  induction k with
  | zero=>intro i ys δ st _ h;exact absurd h (Nat.not_lt_zero _)
  | succ k ih =>
   intro i ys δ st hi hk' hw
   unfold gQ
   have hlim:lim ys.length=true:=Nat.ble_eq_true_of_le (by have:=hy i ys δ st hw;omega)
   rw [if_pos hlim,hS i ys δ st hi hw]
   cases hd:ds[i]? with
   | none =>
    have:=List.getElem?_eq_none_iff.mp hd
    have e:i=ds.length:=by omega
    exact bD.mpr ⟨δ,e ▸ hw⟩
   | some d =>
    have hlt:=(List.getElem?_eq_some_iff.mp hd).1
    show Wp (bnd _ _) _
    rw [dg]
    refine a6 (step i d ys δ st hd hw) fun δ1 st1 q=>?_
    rw [dg]
    refine a6 q fun b st2 q=>?_
    cases b with
    | true =>
     rw [if_pos rfl,dg]
     exact a6 (q.1 rfl) fun y st3 q=>ih (i + 1) _ δ1 st3 (by omega) (by omega) q
    | false =>
     rw [if_neg Bool.false_ne_true]
     exact ih (i + 1) ys δ1 st2 (by omega) (by omega) (q.2 rfl)
 rw [dg]
 exact a6 (key fuel 0 [] _ kK (Nat.zero_le _) (Nat.lt_trans (by omega) (show 100000 < fuel by decide)) h0) fun zs nV ⟨δ9,q⟩=>bD.mpr (fin zs δ9 nV q)
end
end L4
namespace L4
open PySem PySem.Spec L2
def keyOf:D->Option Key
 | .int i=>some (.inl i)
 | .str x=>some (.inr x)
 | _=>none
def iP (st:Store):D->Option (List (Key×D))
 | .ref i=>match st[i]? with
  | some (.dct kvs)=>some kvs
  | _=>none
 | _=>none
def dy (kvs:List (Key×D)) (k:Key):Option D:=(kvs.find? fun kv=>decide (kv.1=k)).map (·.2)
def putD (kvs:List (Key×D)) (k:Key) (v:D):List (Key×D) :=
 if (kvs.any fun kv=>decide (kv.1=k))=true then kvs.map (fun kv=>if kv.1=k then (kv.1,v) else kv) else kvs ++ [(k,v)]
section
variable {K:PySem.W.Frag} {ρ:List Addr} {H:Hp} {st:Store}
theorem xF {x:V} {y:D} {k:Key} (r:Rp K ρ H x y) (h:keyOf y=some k):x=kV k:=by
 cases r <;> first | (cases h;rfl) | cases h
theorem Kn {x:V} {a:D} {kvs:List (Key×D)} (l:Rl K ρ H st) (r:Rp K ρ H x a) (h:iP st a=some kvs):∃ p i ws,x=.ref p/\a=.ref i/\ρ[i]?=some p/\st[i]?=some (.dct kvs)/\H p=some (.dK ws)/\Rk K ρ H ws kvs:=by
 cases r <;> first | (cases h;done) | skip
 next hi =>
  simp only [iP] at h
  split at h
  ·next kvs' hs =>
   cases h
   obtain ⟨ws,e,r⟩:=l.obj _ _ _ hi hs
   exact ⟨_,_,ws,rfl,rfl,hi,hs,e,r⟩
  ·cases h
theorem Rk.val {ws:List (Key×V)} {kvs:List (Key×D)} (r:Rk K ρ H ws kvs) (k:Key):(∀ d,dy kvs k=some d->∃ v,jF ws k=some v/\Rp K ρ H v d)/\(jF ws k).isSome=(dy kvs k).isSome:=by
 induction r with
 | nil=>exact ⟨fun d h=>(by cases h),rfl⟩
 | @cons p q ps qs h t ih =>
  obtain ⟨h1,h2⟩:=h
  unfold dy jF at ih ⊢
  rw [List.find?_cons,List.find?_cons]
  by_cases e:p.1=k
  ·rw [decide_eq_true e,decide_eq_true (h1 ▸ e)]
   exact ⟨fun d hd=>by cases hd;exact ⟨_,rfl,h2⟩,rfl⟩
  ·rw [decide_eq_false e,decide_eq_false (h1 ▸ e)]
   exact ih
theorem Rk.app {ws Ko:List (Key×V)} {kvs kvs':List (Key×D)} (r:Rk K ρ H ws kvs) (r':Rk K ρ H Ko kvs'):Rk K ρ H (ws ++ Ko) (kvs ++ kvs'):=by
 induction r with
 | nil=>exact r'
 | cons h _ ih=>exact .cons h ih
theorem Rk.put {ws:List (Key×V)} {kvs:List (Key×D)} {v:V} {d:D} (r:Rk K ρ H ws kvs) (k:Key) (rv:Rp K ρ H v d):Rk K ρ H (putK ws k v) (putD kvs k d):=by
 have hany:(ws.any fun kv=>decide (kv.1=k))=(kvs.any fun kv=>decide (kv.1=k)):=by
  induction r with
  | nil=>rfl
  | cons h _ ih=>rw [List.any_cons,List.any_cons,ih,h.1]
 have hmap:Rk K ρ H (ws.map fun kv=>if kv.1=k then (kv.1,v) else kv) (kvs.map fun kv=>if kv.1=k then (kv.1,d) else kv):=by
  clear hany
  induction r with
  | nil=>exact .nil
  | @cons p q ps qs h _ ih =>
   refine .cons ?_ ih
   dsimp only
   by_cases e:p.1=k
   ·rw [if_pos e,if_pos (h.1 ▸ e)];exact ⟨h.1,rv⟩
   ·rw [if_neg e,if_neg (h.1 ▸ e)];exact h
 unfold putK putD
 rw [hany]
 split
 ·exact hmap
 ·exact r.app (.cons ⟨rfl,rv⟩ .nil)
theorem Rk.length {ws:List (Key×V)} {kvs:List (Key×D)} (r:Rk K ρ H ws kvs):ws.length=kvs.length:=by
 induction r with
 | nil=>rfl
 | cons _ _ ih=>rw [List.length_cons,List.length_cons,ih]
end
section
variable {K:PySem.W.Frag}
def qw:au->Dm D:=fun _ st=>some (.ref st.length,st ++ [.dct []])
theorem OL:gp K pX qw:=by
 intro ρ σ H δ st b st' Q l rs e q
 cases e
 exact fun p hp=>q _ _ _ (Mn.new hp) (l.newD hp .nil) (.ref (newR l))
def ud (fd fy:au->Dm D):au->Dm D:=fun δ st=>bnd (fd δ st) fun x st1=>bnd (fy δ st1) fun y st2=>match iP st2 x,keyOf y with
 | some kvs,some k=>match dy kvs k with
  | some v=>some (v,st2)
  | none=>none
 | _,_=>none
def sa (neg:Bool) (fy fd:au->Dm D):au->Dm D:=fun δ st=>bnd (fy δ st) fun y st1=>bnd (fd δ st1) fun x st2=>match iP st2 x,keyOf y with
 | some kvs,some k=>some (.bl (if neg then !(dy kvs k).isSome else (dy kvs k).isSome),st2)
 | _,_=>none
theorem OM {td ty:TE} {fd fy:au->Dm D} (hy:gp K ty fy) (hd:gp K td fd):gp K (oD ty td) (sa true fy fd):=by
 intro ρ σ H δ st b st' Q l rs e q
 obtain ⟨y,st1,e1,e⟩:=dU e
 obtain ⟨x,st2,e2,e⟩:=dU e
 refine hy ρ σ H δ st y st1 _ l rs e1 fun vy H1 ρ1 m1 l1 r1=>hd ρ1 σ H1 δ st1 x st2 _ l1 (rs.mn m1) e2 fun vx H2 ρ2 m2 l2 r2=>?_
 split at e
 ·next kvs k hx hk =>
  cases e
  obtain ⟨p,i,ws,rfl,rfl,hi,hs,hp,rk⟩:=Kn l2 r2 hx
  refine ⟨p,jF ws k,rfl,by rw [xF r1 hk];exact pV.k hp,q _ H2 ρ2 (m1.trans m2) l2 ?_⟩
  rw [(rk.val k).2]
  exact .bl _
 ·cases e
def oR (fd fy fv:au->Dm D):au->Dm Fl:=fun δ st=>bnd (fv δ st) fun v st1=>bnd (fd δ st1) fun x st2=>bnd (fy δ st2) fun y st3=>match x,iP st3 x,keyOf y with
 | .ref i,some kvs,some k=>if lim kvs.length=true then some (.nx δ,st3.set i (.dct (putD kvs k v))) else none
 | _,_,_=>none
theorem OO {td ty tv:TE} {fd fy fv:au->Dm D} (hd:gp K td fd) (hy:gp K ty fy) (hv:gp K tv fv):nI K (sU td ty tv) (oR fd fy fv):=by
 intro ρ σ H δ st fl st' E l rs e q
 obtain ⟨v,st1,e1,e⟩:=dU e
 obtain ⟨x,st2,e2,e⟩:=dU e
 obtain ⟨y,st3,e3,e⟩:=dU e
 refine hv ρ σ H δ st v st1 _ l rs e1 fun vv H1 ρ1 m1 l1 r1=>hd ρ1 σ H1 δ st1 x st2 _ l1 (rs.mn m1) e2 fun vx H2 ρ2 m2 l2 r2=>hy ρ2 σ H2 δ st2 y st3 _ l2 (rs.mn (m1.trans m2)) e3 fun vy H3 ρ3 m3 l3 r3=>?_
 obtain ⟨i,rfl⟩:∃ i,x=.ref i:=by
  cases x <;> first | exact ⟨_,rfl⟩ | (simp at e;done) | cases e
 cases hx:iP st3 (.ref i) with
 | none=>rw [hx] at e;cases e
 | some kvs =>
 cases hk:keyOf y with
 | none=>rw [hx,hk] at e;cases e
 | some k =>
  rw [hx,hk] at e
  simp only at e
  split at e
  ·next hl =>
   cases e
   obtain ⟨p,j,ws,rfl,ej,hi,hs,hp,rk⟩:=Kn l3 (r2.mn m3) hx
   cases ej
   obtain ⟨l4,m4⟩:=l3.vz hi hs (rk.put k (r1.mn (m2.trans m3)))
   have mm:=((m1.trans m2).trans m3).trans m4
   refine ⟨p,_,rfl,?_,q σ _ ρ3 mm l4 (rs.mn mm)⟩
   rw [xF r3 hk]
   exact pW.k hp (by rw [rk.length];exact Gb hl)
  ·cases e
def Aj:au->Dm (List (D×D)):=fun _ st=>some ([],st)
def qx (fk fv:au->Dm D) (fr:au->Dm (List (D×D))):au->Dm (List (D×D)):=fun δ st=>bnd (fk δ st) fun k st1=>bnd (fv δ st1) fun v st2=>bnd (fr δ st2) fun r st3=>some ((k,v) :: r,st3)
def keysOf:List (D×D)->Option (List (Key×D))
 | []=>some []
 | (k,v) :: r=>match keyOf k,keysOf r with
  | some k',some r'=>some ((k',v) :: r')
  | _,_=>none
def qy (kvs more:List (Key×D)):List (Key×D):=more.foldl (fun acc kv=>putD acc kv.1 kv.2) kvs
def uf (fp:au->Dm (List (D×D))):au->Dm D:=fun δ st=>bnd (fp δ (st ++ [.dct []])) fun ps st2=>match st2[st.length]?,keysOf ps with
 | some (.dct []),some kvs=>if kvs.length<=15 then some (.ref st.length,st2.set st.length (.dct (qy [] kvs))) else none
 | _,_=>none
end
section
variable {st:Store} {δ:au} {Q:D->Store->Prop}
theorem OQ:Wp (qw δ st) Q↔Q (.ref st.length) (st ++ [.dct []]):=bD
theorem OR {fd fy:au->Dm D}:Wp (ud fd fy δ st) Q↔Wp (fd δ st) fun x st1=>Wp (fy δ st1) fun y st2=>∃ kvs k v,iP st2 x=some kvs/\keyOf y=some k/\dy kvs k=some v/\Q v st2:=by
 unfold ud;rw [dg];simp only [dg]
 constructor <;> refine fun h=>a6 h fun x s h=>a6 h fun y s2 h=>?_
 ·split at h
  ·next kvs k h1 h2 =>
   split at h
   ·next v h3=>exact ⟨kvs,k,v,by assumption,by assumption,h3,bD.mp h⟩
   ·exact (fu.mp h).elim
  ·exact (fu.mp h).elim
 ·obtain ⟨kvs,k,v,h1,h2,h3,h⟩:=h
  rw [h1,h2]
  simp only [h3]
  exact bD.mpr h
theorem wy {neg:Bool} {fd fy:au->Dm D}:Wp (sa neg fy fd δ st) Q↔Wp (fy δ st) fun y st1=>Wp (fd δ st1) fun x st2=>∃ kvs k,iP st2 x=some kvs/\keyOf y=some k/\Q (.bl (if neg then !(dy kvs k).isSome else (dy kvs k).isSome)) st2:=by
 unfold sa;rw [dg];simp only [dg]
 constructor <;> refine fun h=>a6 h fun x s h=>a6 h fun y s2 h=>?_
 ·split at h
  ·next kvs k h1 h2=>exact ⟨kvs,k,by assumption,by assumption,bD.mp h⟩
  ·exact (fu.mp h).elim
 ·obtain ⟨kvs,k,h1,h2,h⟩:=h
  rw [h1,h2]
  exact bD.mpr h
theorem OS {R:List (D×D)->Store->Prop}:Wp (Aj δ st) R↔R [] st:=bD
theorem OT {fk fv:au->Dm D} {fr:au->Dm (List (D×D))} {R:List (D×D)->Store->Prop}:Wp (qx fk fv fr δ st) R↔Wp (fk δ st) fun k st1=>Wp (fv δ st1) fun v st2=>Wp (fr δ st2) fun r st3=>R ((k,v) :: r) st3:=by
 unfold qx;rw [dg];simp only [dg,bD]
theorem OU {fp:au->Dm (List (D×D))}:Wp (uf fp δ st) Q↔Wp (fp δ (st ++ [.dct []])) fun ps st2=>st2[st.length]?=some (.dct [])/\∃ kvs,keysOf ps=some kvs/\kvs.length<=15/\Q (.ref st.length) (st2.set st.length (.dct (qy [] kvs))):=by
 unfold uf;rw [dg]
 constructor <;> refine fun h=>a6 h fun ps s h=>?_
 ·split at h
  ·next kvs h1 h2 =>
   rw [nc,bD,fu] at h
   split at h
   ·next hl=>exact ⟨by assumption,kvs,by assumption,hl,h⟩
   ·exact h.elim
  ·exact (fu.mp h).elim
 ·obtain ⟨h1,kvs,h2,h3,h⟩:=h
  rw [h1,h2]
  simp only [if_pos h3]
  exact bD.mpr h
theorem OV {fd fy fv:au->Dm D} {N B C:au->Store->Prop} {R:D->Store->Prop} (h:Wp (fv δ st) fun v st1=>Wp (fd δ st1) fun x st2=>Wp (fy δ st2) fun y st3=>∃ i kvs k,x=.ref i/\iP st3 x=some kvs/\keyOf y=some k/\lim kvs.length=true/\N δ (st3.set i (.dct (putD kvs k v)))):Ws (oR fd fy fv δ st) N B C R:=by
 unfold Ws oR
 rw [dg]
 refine a6 h fun v st1 h=>?_
 rw [dg]
 refine a6 h fun x st2 h=>?_
 rw [dg]
 refine a6 h fun y st3 h=>?_
 obtain ⟨i,kvs,k,rfl,h1,h2,h3,h⟩:=h
 rw [h1,h2]
 simp only [h3]
 exact bD.mpr h
end
end L4
namespace L4
open PySem PySem.Spec L2
structure Ex (c:List Nat) (st st':Store):Prop where
 len:st.length<=st'.length
 keep:∀ (i:Nat) (o:O),st[i]?=some o->i ∉ c->st'[i]?=some o
section
variable {c c':List Nat} {st st1 st2:Store} {i:Nat} {o:O} {ds:List D}
theorem Ex.refl:Ex c st st:=⟨Nat.le_refl _,fun _ _ h _=>h⟩
theorem Ex.trans (a:Ex c st st1) (b:Ex c st1 st2):Ex c st st2:=⟨Nat.le_trans a.len b.len,fun i o h n=>b.keep i o (a.keep i o h n) n⟩
theorem Ex.mono (a:Ex c st st1) (h:∀ x∈c,x∈c'):Ex c' st st1:=⟨a.len,fun i o e n=>a.keep i o e fun z=>n (h i z)⟩
theorem Ex.any (a:Ex [] st st1):Ex c st st1:=a.mono fun x h=>nomatch h
theorem iQ {α:Type} {l:List α} {i:Nat} {o:α} (h:l[i]?=some o):i < l.length:=(List.getElem?_eq_some_iff.mp h).1
theorem nJ {l m:List O} (h:l[i]?=some o):(l ++ m)[i]?=some o:=by rw [List.getElem?_append_left (iQ h)];exact h
theorem ku {l:List O}:(l ++ [o])[l.length]?=some o:=by rw [List.getElem?_append_right (Nat.le_refl _),Nat.sub_self];rfl
theorem Ex.app (a:Ex c st st1) (m:List O):Ex c st (st1 ++ m):=⟨by rw [List.length_append];exact Nat.le_trans a.len (Nat.le_add_right _ _),fun i o h n=>nJ (a.keep i o h n)⟩
theorem Ex.cc (m:List O):Ex c st (st ++ m):=Ex.refl.app m
theorem Ex.put (a:Ex c st st1) (h:i∈c):Ex c st (st1.set i o):=⟨by rw [List.length_set];exact a.len,fun j u e n=>by rw [List.getElem?_set_ne (fun z=>n (by rw [<- z];exact h))];exact a.keep j u e n⟩
theorem Ex.loc (a:Ex c st st1) (h:st.length<=i):Ex c st (st1.set i o):=⟨by rw [List.length_set];exact a.len,fun j u e n=>by rw [List.getElem?_set_ne (by have:=iQ e;omega)];exact a.keep j u e n⟩
theorem d8 (h:st[i]?=some (.lst ds)):items st i=some ds:=by unfold items;rw [h]
theorem OW (h:st[i]?=some (.pd ds)):items st i=some ds:=by unfold items;rw [h]
theorem mx (h:st[i]?=some (.lst ds)):own st i=some ds:=by unfold own;rw [h]
theorem Ak:items (st ++ [.lst ds]) st.length=some ds:=d8 ku
theorem OX:own (st ++ [.lst ds]) st.length=some ds:=mx ku
theorem OY {o':O}:items (st ++ [.lst ds] ++ [o']) st.length=some ds:=d8 (nJ ku)
theorem OZ {o':O}:own (st ++ [.lst ds] ++ [o']) st.length=some ds:=mx (nJ ku)
theorem O0 {o' o2:O}:items (st ++ [.lst ds] ++ [o'] ++ [o2]) st.length=some ds:=d8 (nJ (nJ ku))
theorem O1 {o' o2:O}:own (st ++ [.lst ds] ++ [o'] ++ [o2]) st.length=some ds:=mx (nJ (nJ ku))
theorem O2 {lo hi:Int}:iC (st ++ [.iF lo hi]) (.ref st.length)=some (lo,hi):=by simp only [iC,ku]
theorem O3:c4 st (.tup ds)=some ds:=rfl
theorem O4:c4 st (.ref i)=items st i:=rfl
theorem qZ (h:(items st i).isSome=true):tT "list" st (.ref i)=true:=by simp only [tT,h];rfl
theorem Gq:tT "tuple" st (.tup ds)=true:=by simp only [tT];rfl
theorem kd {n:Nat} (h:n<=100000):lim n=true:=Nat.ble_eq_true_of_le h
end
section
variable {st:Store} {Q:D->Store->Prop} {i j:Int} {k:Nat} {ds es:List D}
theorem O5 {a:D}:Wp (dB [a] st) Q↔∃ p,iC st a=some p/\pe p.1 p.2=true/\Q (.ref st.length) (st ++ [.lst (aE p.1 (p.2 - p.1).toNat)]):=by
 show Wp (match iC st a with | some (lo,hi)=>if pe lo hi=true then some (D.ref st.length,st ++ [O.lst (aE lo (hi - lo).toNat)]) else none | none=>none) Q↔_
 cases iC st a with
 | none=>rw [fu];exact ⟨False.elim,fun ⟨_,e,_⟩=>by cases e⟩
 | some p =>
  obtain ⟨lo,hi⟩:=p
  show Wp (if pe lo hi=true then some (D.ref st.length,st ++ [O.lst (aE lo (hi - lo).toNat)]) else none) Q↔_
  rw [nc,bD,fu]
  split
  ·next h=>exact ⟨fun q=>⟨_,rfl,h,q⟩,fun ⟨_,e,_,q⟩=>by cases e;exact q⟩
  ·next h=>exact ⟨False.elim,fun ⟨_,e,q,_⟩=>by cases e;exact h q⟩
theorem O6 {a:D}:Wp (r6 [a] st) Q↔∃ p,iC st a=some p/\pe p.1 p.2=true/\Q (.tup (aE p.1 (p.2 - p.1).toNat)) st:=by
 show Wp (match iC st a with | some (lo,hi)=>if pe lo hi=true then some (D.tup (aE lo (hi - lo).toNat),st) else none | none=>none) Q↔_
 cases iC st a with
 | none=>rw [fu];exact ⟨False.elim,fun ⟨_,e,_⟩=>by cases e⟩
 | some p =>
  obtain ⟨lo,hi⟩:=p
  show Wp (if pe lo hi=true then some (D.tup (aE lo (hi - lo).toNat),st) else none) Q↔_
  rw [nc,bD,fu]
  split
  ·next h=>exact ⟨fun q=>⟨_,rfl,h,q⟩,fun ⟨_,e,_,q⟩=>by cases e;exact q⟩
  ·next h=>exact ⟨False.elim,fun ⟨_,e,q,_⟩=>by cases e;exact h q⟩
theorem wz:Wp (ql (.ref k) (.int j) st) Q↔∃ xs,own st k=some xs/\(-9223372036854775808<=j/\j < 9223372036854775808)/\lim (xs.length * j.toNat)=true/\Q (.ref st.length) (st ++ [.lst (List.replicate j.toNat xs).flatten]):=by
 show Wp (match own st k with | some a=>if (decide (-9223372036854775808<=j/\j < 9223372036854775808) && lim (a.length * j.toNat))=true then some (D.ref st.length,st ++ [O.lst (List.replicate j.toNat a).flatten]) else none | _=>none) Q↔_
 cases own st k with
 | none=>simp only [fu];exact ⟨False.elim,fun ⟨_,e,_⟩=>by cases e⟩
 | some xs =>
  show Wp (if (decide (-9223372036854775808<=j/\j < 9223372036854775808) && lim (xs.length * j.toNat))=true then some (D.ref st.length,st ++ [O.lst (List.replicate j.toNat xs).flatten]) else none) Q↔_
  rw [nc,bD,fu]
  split
  ·next h=>rw [Bool.and_eq_true,decide_eq_true_eq] at h;exact ⟨fun q=>⟨_,rfl,h.1,h.2,q⟩,fun ⟨_,e,_,_,q⟩=>by cases e;exact q⟩
  ·next h=>rw [Bool.and_eq_true,decide_eq_true_eq] at h;exact ⟨False.elim,fun ⟨_,e,q,q',_⟩=>by cases e;exact h ⟨q,q'⟩⟩
theorem O7:Wp (kI (.ref k) [.int i] st) Q↔∃ xs j y,own st k=some xs/\(-9223372036854775808<=i/\i < 9223372036854775808)/\seqIndex? i xs.length=some j/\xs[j]?=some y/\Q y (st.set k (.lst (xs.eraseIdx j))):=by
 constructor
 ·rintro ⟨a,s,e,q⟩
  simp only [kI] at e
  split at e
  ·next xs hx =>
   split at e
   ·next hk =>
    split at e
    ·next j hj =>
     split at e
     ·next y hy=>cases e;exact ⟨xs,j,_,hx,of_decide_eq_true hk,hj,hy,q⟩
     ·cases e
    ·cases e
   ·cases e
  ·cases e
 ·rintro ⟨xs,j,y,hx,hk,hj,hy,q⟩
  refine ⟨_,_,?_,q⟩
  simp only [kI,hx,hj,hy,decide_eq_true hk]
  rfl
theorem O8 {b:Nat}:Wp (mZ (.ref k) [.ref b] st) Q↔∃ xs ys,own st k=some xs/\own st b=some ys/\lim (xs.length + ys.length)=true/\Q .non (st.set k (.lst (xs ++ ys))):=by
 constructor
 ·rintro ⟨a,s,e,q⟩
  simp only [mZ] at e
  split at e
  ·next xs ys hx hy =>
   split at e
   ·next hl=>cases e;exact ⟨xs,ys,hx,hy,hl,q⟩
   ·cases e
  ·cases e
 ·rintro ⟨xs,ys,hx,hy,hl,q⟩
  refine ⟨_,_,?_,q⟩
  simp only [mZ,hx,hy,hl]
  rfl
theorem Kq {v:Int}:Wp (gP (.tup ds) [.int v] st) Q↔∃ ns j,cJ iV ds=some ns/\ns.findIdx? (fun i=>decide (i=v))=some j/\Q (.int (j:Int)) st:=by
 constructor
 ·rintro ⟨a,s,e,q⟩
  simp only [gP] at e
  split at e
  ·next ns hn =>
   split at e
   ·next j hj=>cases e;exact ⟨ns,j,hn,hj,q⟩
   ·cases e
  ·cases e
 ·rintro ⟨ns,j,hn,hj,q⟩
  refine ⟨_,_,?_,q⟩
  simp only [gP,hn,hj]
theorem O9 {v:Int} {ns:List Int} (h:items st k=some (ns.map D.int)) (hv:v∈ns) (hl:ns.length<=1000) (hb:∀ i∈ns,-1000000000000000000<=i/\i<=1000000000000000000):Wp (ji (.ref k) [.int v] st) Q↔Q (.int (ns.idxOf v:Int)) st:=by
 have e:cJ iV (ns.map D.int)=some ns:=by
  have:=tR (f:=iV) (g:=D.int) (k:=id) (fun _=>rfl) ns
  rw [this,List.map_id]
 have e2:ji (.ref k) [.int v] st=some (.int (ns.idxOf v:Int),st):=by
  simp only [ji,h,Option.bind_some,e]
  rw [if_pos ⟨hv,hl,hb⟩]
 rw [e2,bD]
theorem wC:Wp (vI [.ref k] st) Q↔∃ ds bs,items st k=some ds/\cJ bV ds=some bs/\Q (.bl (bs.all id)) st:=by
 constructor
 ·rintro ⟨a,s,e,q⟩
  simp only [vI] at e
  split at e
  ·next bs hb =>
   cases e
   obtain ⟨ds,h1,h2⟩:=Option.bind_eq_some_iff.mp hb
   exact ⟨ds,bs,h1,h2,q⟩
  ·cases e
 ·rintro ⟨ds,bs,h1,h2,q⟩
  refine ⟨_,_,?_,q⟩
  simp only [vI,h1,Option.bind_some,h2]
theorem Al {neg:Bool} {a c:D}:Wp (pH neg a c st) Q↔∃ x ds vs,sV a=some x/\c4 st c=some ds/\cJ sV ds=some vs/\Q (.bl (if neg then !sP x vs else sP x vs)) st:=by
 constructor
 ·rintro ⟨b,s,e,q⟩
  simp only [pH] at e
  split at e
  ·next x vs h1 h2 =>
   cases e
   obtain ⟨ds,h3,h4⟩:=Option.bind_eq_some_iff.mp h2
   exact ⟨x,ds,vs,h1,h3,h4,q⟩
  ·cases e
 ·rintro ⟨x,ds,vs,h1,h2,h3,q⟩
  refine ⟨_,_,?_,q⟩
  simp only [pH,h1,h2,Option.bind_some,h3]
theorem Kr (ns:List Int):cJ sV (ns.map D.int)=some (ns.map V.int):=tR (f:=sV) (g:=D.int) (k:=V.int) (fun _=>rfl) ns
theorem Ks (ns:List Int):cJ iV (ns.map D.int)=some ns:=by
 have:=tR (f:=iV) (g:=D.int) (k:=id) (fun _=>rfl) ns
 rw [this,List.map_id]
theorem Gr {neg:Bool} {a b:D}:Wp (gC neg a b st) Q↔∃ p q,gq st 20 a=some p/\gq st 20 b=some q/\(PyData.canLay0 p=true/\PyData.canLay0 q=true/\min p.depth q.depth<=60)/\Q (.bl (if neg then !PyData.eqv p q else PyData.eqv p q)) st:=by
 constructor
 ·rintro ⟨c,s,e,q⟩
  simp only [gC] at e
  split at e
  ·next x y h1 h2 =>
   split at e
   ·next hs =>
    cases e
    rw [Bool.and_eq_true,Bool.and_eq_true,decide_eq_true_eq] at hs
    exact ⟨x,y,h1,h2,⟨hs.1.1,hs.1.2,hs.2⟩,q⟩
   ·cases e
  ·cases e
 ·rintro ⟨x,y,h1,h2,⟨h3,h4,h5⟩,q⟩
  refine ⟨_,_,?_,q⟩
  simp only [gC,h1,h2,h3,h4,decide_eq_true h5]
  rfl
theorem Pa {a:D}:Wp (iM [a] st) Q↔∃ p,gq st 20 a=some p/\(p.showable=true/\p.canLay0=true/\p.shown.length<=sizeLine/\p.depth<=60)/\Q (.str p.shown) st:=by
 constructor
 ·rintro ⟨c,s,e,q⟩
  simp only [iM] at e
  split at e
  ·next p h1 =>
   split at e
   ·next hs =>
    cases e
    rw [Bool.and_eq_true,Bool.and_eq_true,Bool.and_eq_true,decide_eq_true_eq,decide_eq_true_eq] at hs
    exact ⟨p,h1,⟨hs.1.1.1,hs.1.1.2,hs.1.2,hs.2⟩,q⟩
   ·cases e
  ·cases e
 ·rintro ⟨p,h1,⟨h3,h4,h5,h6⟩,q⟩
  refine ⟨_,_,?_,q⟩
  simp only [iM,h1,h3,h4,decide_eq_true h5,decide_eq_true h6]
  rfl
theorem wG {z:Str}:Wp (vE (.str z) (.int i) st) Q↔∃ c,lim z.length=true/\gK z.cps.toList i=some c/\Q (.str ⟨#[c]⟩) st:=by
 constructor
 ·rintro ⟨c,s,e,q⟩
  simp only [vE] at e
  split at e
  ·next h1 =>
   split at e
   ·next c hc=>cases e;exact ⟨c,h1,hc,q⟩
   ·cases e
  ·cases e
 ·rintro ⟨c,h1,h2,q⟩
  refine ⟨_,_,?_,q⟩
  simp only [vE,h1,h2]
  rfl
theorem Pb {δ:au} {fa:au->Dm (List D)} {R:Src->Store->Prop}:Wp (bS fa δ st) R↔Wp (fa δ st) fun as st1=>∃ j,as=[.int j]/\(-4611686018427387904<=j/\j < 4611686018427387904)/\R (.fix (aE 0 j.toNat)) st1:=by
 unfold bS;rw [dg]
 constructor <;> refine fun h=>a6 h fun as s h=>?_
 ·split at h
  ·next j =>
   rw [nc,bD,fu] at h
   split at h
   ·next hk=>exact ⟨j,rfl,of_decide_eq_true hk,h⟩
   ·exact h.elim
  ·exact (fu.mp h).elim
 ·obtain ⟨j,rfl,h1,h⟩:=h
  simp only [decide_eq_true h1,if_true]
  exact bD.mpr h
theorem Pc {δ:au} {fa:au->Dm (List D)} {R:Src->Store->Prop}:Wp (qo fa δ st) R↔Wp (fa δ st) fun as st1=>∃ i j,as=[.int i,.int j]/\((-4611686018427387904<=i/\i < 4611686018427387904)/\-4611686018427387904<=j/\j < 4611686018427387904)/\R (.fix (aE i (j - i).toNat)) st1:=by
 unfold qo;rw [dg]
 constructor <;> refine fun h=>a6 h fun as s h=>?_
 ·split at h
  ·next i j =>
   rw [nc,bD,fu] at h
   split at h
   ·next hk=>exact ⟨i,j,rfl,of_decide_eq_true hk,h⟩
   ·exact h.elim
  ·exact (fu.mp h).elim
 ·obtain ⟨i,j,rfl,h1,h⟩:=h
  simp only [decide_eq_true h1,if_true]
  exact bD.mpr h
theorem Pd {δ:au} {fa:au->Dm D} {R:Src->Store->Prop}:Wp (er fa δ st) R↔Wp (fa δ st) fun a st1=>∃ ds,a=.tup ds/\R (.fix ds) st1:=by
 unfold er;rw [dg]
 constructor <;> refine fun h=>a6 h fun a s h=>?_
 ·cases a <;> simp only [bD,fu] at h
  exact ⟨_,rfl,h⟩
 ·obtain ⟨j,rfl,h⟩:=h
  exact bD.mpr h
theorem Pe {δ:au} {fa:au->Dm D} {R:Src->Store->Prop}:Wp (kL fa δ st) R↔Wp (fa δ st) fun a st1=>∃ i ds,a=.ref i/\items st1 i=some ds/\R (.live i) st1:=by
 unfold kL;rw [dg]
 constructor <;> refine fun h=>a6 h fun a s h=>?_
 ·split at h
  ·split at h
   ·next i ds hd=>exact ⟨_,ds,rfl,hd,bD.mp h⟩
   ·exact (fu.mp h).elim
  ·exact (fu.mp h).elim
 ·obtain ⟨i,ds,rfl,hd,h⟩:=h
  simp only [hd]
  exact bD.mpr h
theorem Pf {δ:au} {fa:au->Dm (List D)} {R:Src->Store->Prop}:Wp (lS fa δ st) R↔Wp (fa δ st) fun as st1=>∃ ds,as=[.tup ds]/\R (.fix (kZ ds)) st1:=by
 unfold lS;rw [dg]
 constructor <;> refine fun h=>a6 h fun as s h=>?_
 ·split at h
  ·exact ⟨_,rfl,bD.mp h⟩
  ·exact (fu.mp h).elim
 ·obtain ⟨ds,rfl,h⟩:=h
  exact bD.mpr h
theorem Gs {i:Nat} {d:D} {δ:au} {R:au->Store->Prop}:Wp (hName i d δ st) R↔R (δ.set i (some d)) st:=bD
theorem Pg {δ:au} {R:au->Store->Prop}:Wp (mw [] δ st) R↔R δ st:=bD
theorem Ph {f:D->au->Dm au} {g:List D->au->Dm au} {d:D} {ds:List D} {δ:au} {R:au->Store->Prop}:Wp (cS f g (d :: ds) δ st) R↔Wp (f d δ st) fun δ1 st1=>Wp (g ds δ1 st1) R:=dg
theorem Pj {n:Nat} {f:List D->au->Dm au} {ds:List D} {δ:au} {R:au->Store->Prop}:Wp (lR n f (.tup ds) δ st) R↔ds.length=n/\Wp (f ds δ st) R:=by
 show Wp (if ds.length=n then f ds δ st else none) R↔_
 rw [nc,fu]
 split
 ·next h=>exact ⟨fun q=>⟨h,q⟩,fun q=>q.2⟩
 ·next h=>exact ⟨False.elim,fun q=>h q.1⟩
theorem Pk {fo fi:au->Dm D} {d:D} {δ:au} {R:au->Store->Prop}:Wp (hSub fo fi d δ st) R↔Wp (fo δ st) fun o st1=>Wp (fi δ st1) fun i st2=>∃ r k xs j,o=.ref r/\i=.int k/\own st2 r=some xs/\kX xs.length k=some j/\R δ (st2.set r (.lst (xs.set j d))):=by
 unfold hSub;rw [dg];simp only [dg]
 constructor <;> refine fun h=>a6 h fun o s h=>a6 h fun i s2 h=>?_
 ·split at h
  ·split at h
   ·next xs hx =>
    split at h
    ·next j hj=>exact ⟨_,_,xs,j,rfl,rfl,hx,hj,bD.mp h⟩
    ·exact (fu.mp h).elim
   ·exact (fu.mp h).elim
  ·exact (fu.mp h).elim
 ·obtain ⟨r,k,xs,j,rfl,rfl,hx,hj,h⟩:=h
  simp only [hx,hj]
  exact bD.mpr h
theorem Pm {a:D} {c:String}:Wp (m9 [a,.ty c] st) Q↔zW st a=some c/\Q (.bl true) st:=by
 constructor
 ·rintro ⟨b,s,e,q⟩
  simp only [m9] at e
  split at e
  ·next T hT =>
   split at e
   ·next h=>cases e;subst h;exact ⟨hT,q⟩
   ·cases e
  ·cases e
 ·rintro ⟨h,q⟩
  refine ⟨_,_,?_,q⟩
  simp only [m9,h,if_true]
theorem Gu {δ:au} {R:Bool->Store->Prop}:Wp (d6 δ st) R↔R true st:=bD
end
theorem Dk {α:Type} (x:α) (xs:List α):gK (x :: xs) 0=some x:=by
 unfold gK kX
 rw [if_pos (by decide),if_pos (by simp only [List.length_cons];omega)]
 rfl
theorem Dl {α:Type} (x y:α) (xs:List α):gK (x :: y :: xs) 1=some y:=by
 unfold gK kX
 rw [if_pos (by decide),if_pos (by simp only [List.length_cons];omega)]
 rfl
theorem wH {α:Type} {a:α} {l:List α}:(a :: l)[0]?=some a:=List.getElem?_cons_zero
theorem wI {α:Type} {a:α} {l:List α} {i:Nat}:(a :: l)[i + 1]?=l[i]?:=List.getElem?_cons_succ
theorem wJ {α:Type} {a b:α} {l:List α}:(a :: l).set 0 b=b :: l:=List.set_cons_zero
theorem wK {α:Type} {a b:α} {l:List α} {i:Nat}:(a :: l).set (i + 1) b=a :: l.set i b:=List.set_cons_succ
theorem wL {α:Type} (a b:α):(some a=some b)=(a=b):=Option.some.injEq a b
theorem Am {α:Type} {p:α->Prop} {a':α}:(∃ a,a'=a/\p a)↔p a':=exists_eq_left'
theorem Gv {α:Type} {p:α->Prop} {a':α}:(∃ a,a=a'/\p a)↔p a':=exists_eq_left
theorem An {α:Type} {p:α->Prop} {b:Prop}:(∃ x,b/\p x)↔b/\∃ x,p x:=exists_and_left
theorem Ao (a b:Int):(D.int a=D.int b)=(a=b):=D.int.injEq a b
theorem Gw (a b:Bool):(D.bl a=D.bl b)=(a=b):=D.bl.injEq a b
theorem Ap (a b:Str):(D.str a=D.str b)=(a=b):=D.str.injEq a b
theorem Aq (a b:List D):(D.tup a=D.tup b)=(a=b):=D.tup.injEq a b
theorem Ar (a b:Nat):(D.ref a=D.ref b)=(a=b):=D.ref.injEq a b
theorem wM {α:Type} (a:α) (l:List α) (b:α) (m:List α):(a :: l=b :: m)=(a=b/\l=m):=List.cons.injEq a l b m
theorem wN {α β:Type} (a:α) (b:β) (c:α) (d:β):((a,b)=(c,d))=(a=c/\b=d):=Prod.mk.injEq a b c d
theorem wO (p:Prop):(p/\True)=p:=and_true p
theorem wR (p:Prop):(True/\p)=p:=true_and p
theorem wU:(!true)=false:=rfl
theorem wV:(!false)=true:=rfl
theorem Gx:(false=true)=False:=by simp
theorem As {α:Type} {h:Decidable False} (t e:α):@ite α False h t e=e:=if_false t e
theorem Au {α:Type} {h:Decidable True} (t e:α):@ite α True h t e=t:=if_true t e
def bX:=And.intro @vQ (And.intro @Gn (And.intro @zZ (And.intro @Aa (And.intro @Ab (And.intro @vR (And.intro @Oq (And.intro @vS (And.intro @vT (And.intro @Ot (And.intro @vU (And.intro @vV (And.intro @Ac (And.intro @t9 (And.intro @Ou (And.intro @vW (And.intro @Ov (And.intro @Ow (And.intro @Ox (And.intro @Ad (And.intro @Ae (And.intro @vX (And.intro @vY (And.intro @Af (And.intro @Ag (And.intro @Ah (And.intro @Ai (And.intro @vZ (And.intro @v9 (And.intro @Oy (And.intro @wa (And.intro @wb (And.intro @wc (And.intro @wg (And.intro @wj (And.intro @wk (And.intro @wm (And.intro @wo (And.intro @Oz (And.intro @wq (And.intro @wt (And.intro @OA (And.intro @OB (And.intro @OC (And.intro @OD (And.intro @OE (And.intro @OG (And.intro @OH (And.intro @OI (And.intro @OJ (And.intro @OQ (And.intro @OR (And.intro @wy (And.intro @OS (And.intro @OT (And.intro @OU (And.intro @Ak (And.intro @OX (And.intro @OY (And.intro @OZ (And.intro @O0 (And.intro @O1 (And.intro @O2 (And.intro @O3 (And.intro @O4 (And.intro @O5 (And.intro @O6 (And.intro @wz (And.intro @O7 (And.intro @O8 (And.intro @Kq (And.intro @wC (And.intro @wG (And.intro @Pb (And.intro @Pc (And.intro @Pd (And.intro @Pe (And.intro @Pf (And.intro @Gs (And.intro @Pg (And.intro @Ph (And.intro @Pj (And.intro @Pk (And.intro @Pm (And.intro @Gu (And.intro @Dk (And.intro @Dl (And.intro @wH (And.intro @wI (And.intro @wJ (And.intro @wK (And.intro @wL (And.intro @Am (And.intro @Gv (And.intro @An (And.intro @Ao (And.intro @Gw (And.intro @Ap (And.intro @Aq (And.intro @Ar (And.intro @wM (And.intro @wN (And.intro @wO (And.intro @wR (And.intro @wU (And.intro @wV (And.intro @Gx (And.intro @As (@Au))))))))))))))))))))))))))))))))))))))))))))))))))))))))))))))))))))))))))))))))))))))))))))))))))))))))))))
theorem b8 {α:Type} {m:Option (α×Store)} {Q:α->Store->Prop} (h:∀ Q':α->Store->Prop,(∀ a st,Q a st->Q' a st)->Wp m Q'):Wp m Q:=h Q fun _ _ h=>h
end L4
namespace L4
open PySem PySem.Spec L2
section
variable {X:Cx} {K:PySem.W.Frag}
theorem Kt:∀ {ns:List Int},(∀ i∈ns,p8 i)->PyData.weightAll (bI ns)<=65 * ns.length
 | [],_=>by show PyData.weightAll []<=0;simp only [PyData.weightAll];exact Nat.le_refl _
 | n :: r,h=>by
  have ih:=Kt (ns:=r) fun i hi=>h i (List.mem_cons_of_mem _ hi)
  have hn:=h n List.mem_cons_self
  have hw:(PyData.int n).weight<=64:=by
   simp only [PyData.weight]
   split
   ·omega
   ·have:n.natAbs < 2 ^ 63:=by unfold p8 at hn;omega
    have h2:n.natAbs.log2 < 63:=by
     by_cases h0:n.natAbs=0
     ·rw [h0];decide
     ·exact (Nat.log2_lt h0).mpr this
    omega
  show PyData.weightAll (PyData.int n :: bI r)<=65 * (r.length + 1)
  simp only [PyData.weightAll]
  omega
def ng (K:PySem.W.Frag):V->List V->Hp->VK->Prop:=fun x vs H Q=>∃ (a:Addr) (ns:List Int) (v:Int),x=.ref a/\vs=[.int v]/\jf K H a (ns.map V.int)/\v∈ns/\ns.length<=1000/\(∀ i∈ns,p8 i)/\Q (.int (ns.idxOf v:Int)) H
theorem Pn:xD X "list.index" (ng X.K):=by
 intro pins s σ H x xs v us Q I rx rv h
 obtain ⟨a,ns,y,rfl,rfl,hq,hm,hl,hb,q⟩:=h
 cases rx
 obtain ⟨u,rfl,t,rfl⟩:=vals1 rv
 obtain ⟨its,r,pl,hz⟩:=I.list hq
 exact PyProof.Rows.index_list_ints (vs:=its) pl.isList (HX r) (by
  have hw:=Kt hb
  have c1:(PyData.list (List.map PyData.int ns)).canLay0=true:=rE ns
  have c2:(PyData.list (List.map PyData.int ns)).depth<=64:=by show PyData.depthAll (bI ns) + 1<=64;rw [uY];omega
  have c3:(PyData.list (List.map PyData.int ns)).weight<=2 ^ 20:=by simp only [PyData.weight];exact Nat.le_trans hw (by omega)
  show (_ && _ && _)=true
  rw [c1,decide_eq_true c2,decide_eq_true c3];rfl) hm ⟨.int _,H,I.tok _,⟨_,rfl⟩,q⟩
theorem Po (hK:X.K=K):xD X "list.index" (ng K):=by subst hK;exact Pn
theorem Pp:zM K "list" (ng K) ji:=by
 intro ρ H st x xs a as b st' Q l rx vK e q
 unfold ji at e
 split at e
 ·split at e
  ·next ns hn =>
   split at e
   ·next hm =>
    cases e
    obtain ⟨v,rfl,r⟩:=vK.one'
    cases r
    cases rx with
    | ref hi =>
     obtain ⟨ds,h1,h2⟩:=Option.bind_eq_some_iff.mp hn
     obtain ⟨vs,s,r⟩:=l.items hi h1
     cases Gi r h2
     exact ⟨_,ns,_,rfl,rfl,s,hm.1,hm.2.1,hm.2.2,q _ H ρ .refl l (.int _)⟩
   ·cases e
  ·cases e
 ·cases e
end
section
variable {st:Store} {Q:D->Store->Prop}
theorem Gy (n:Nat) (L:List Int):cJ (gq st (n + 1)) (L.map D.int)=some (bI L):=tR (f:=gq st (n + 1)) (g:=D.int) (k:=PyData.int) (fun _=>by simp only [gq]) L
theorem Ku (a b:List PyData):PyData.eqv (.list a) (.list b)=PyData.eqvAll a b:=by simp only [PyData.eqv]
theorem Av (a b:List PyData):PyData.eqv (.tuple a) (.tuple b)=PyData.eqvAll a b:=by simp only [PyData.eqv]
theorem Kv {neg:Bool} {a b:Nat} {L M:List Int} (ha:items st a=some (L.map D.int)) (hb:items st b=some (M.map D.int)):Wp (gC neg (.ref a) (.ref b) st) Q↔Q (.bl (if neg then !decide (L=M) else decide (L=M))) st:=by
 have p1:∀ (i:Nat) (N:List Int),items st i=some (N.map D.int)->gq st 20 (.ref i)=some (.list (bI N)):=fun i N h=>by
  simp only [gq,h]
  rw [Gy];rfl
 have dp:∀ N:List Int,PyData.depth (.list (bI N))<=1:=fun N=>by show PyData.depthAll (bI N) + 1<=1;rw [uY];omega
 rw [Gr]
 constructor
 ·rintro ⟨p,q,h1,h2,_,h⟩
  rw [p1 a L ha] at h1
  rw [p1 b M hb] at h2
  cases h1
  cases h2
  rw [Ku,uZ] at h
  exact h
 ·intro h
  refine ⟨_,_,p1 a L ha,p1 b M hb,⟨rE L,rE M,by have:=dp L;omega⟩,?_⟩
  rw [Ku,uZ]
  exact h
theorem Pq {neg:Bool} {L M:List Int}:Wp (gC neg (.tup (L.map D.int)) (.tup (M.map D.int)) st) Q↔Q (.bl (if neg then !decide (L=M) else decide (L=M))) st:=by
 have p1:∀ (N:List Int),gq st 20 (.tup (N.map D.int))=some (.tuple (bI N)):=fun N=>by
  simp only [gq]
  rw [Gy];rfl
 have dp:∀ N:List Int,PyData.depth (.tuple (bI N))<=1:=fun N=>by show PyData.depthAll (bI N) + 1<=1;rw [uY];omega
 rw [Gr]
 constructor
 ·rintro ⟨p,q,h1,h2,_,h⟩
  rw [p1 L] at h1
  rw [p1 M] at h2
  cases h1
  cases h2
  rw [Av,uZ] at h
  exact h
 ·intro h
  refine ⟨_,_,p1 L,p1 M,⟨rE L,rE M,by have:=dp L;omega⟩,?_⟩
  rw [Av,uZ]
  exact h
def x3 (rs:List (List Int)):D:=.tup (rs.map fun r=>.tup (r.map D.int))
def Dn (rs:List (List Int)):Prop:=rs.length<=60/\∀ r∈rs,r.length<=60/\∀ i∈r,p8 i
theorem Aw (rs:List (List Int)):gq st 20 (x3 rs)=some (.tuple (rs.map dw)):=by
 unfold x3
 simp only [gq]
 rw [tR (f:=gq st 19) (g:=fun r:List Int=>D.tup (r.map D.int)) (k:=dw) (fun r=>by simp only [gq];rw [Gy];rfl) rs]
 rfl
theorem Gz:∀ (rs ss:List (List Int)),PyData.eqvAll (rs.map dw) (ss.map dw)=decide (rs=ss)
 | [],[]=>rfl
 | [],_ :: _=>rfl
 | _ :: _,[]=>rfl
 | r :: rs,s :: ss=>by
  show (PyData.eqv (dw r) (dw s) && PyData.eqvAll (rs.map dw) (ss.map dw))=decide (r :: rs=s :: ss)
  rw [Gz rs ss]
  unfold dw
  rw [Av,uZ]
  by_cases h:r=s
  ·subst h;simp
  ·simp [h]
theorem Pr {neg:Bool} {rs ss:List (List Int)}:Wp (gC neg (x3 rs) (x3 ss) st) Q↔Q (.bl (if neg then !decide (rs=ss) else decide (rs=ss))) st:=by
 have dp:∀ rs:List (List Int),PyData.depth (.tuple (rs.map dw))<=2:=fun N=>by show PyData.depthAll (N.map dw) + 1<=2;have:=FE N;omega
 rw [Gr]
 constructor
 ·rintro ⟨p,q,h1,h2,_,h⟩
  rw [Aw] at h1 h2
  cases h1
  cases h2
  rw [Av,Gz] at h
  exact h
 ·intro h
  refine ⟨_,_,Aw rs,Aw ss,⟨CI rs,CI ss,by have:=dp rs;omega⟩,?_⟩
  rw [Av,Gz]
  exact h
theorem Kw:∀ (rs:List (List Int)),(∀ r∈rs,r.length<=60)->total rs<=rs.length * 60
 | [],_=>Nat.le_refl _
 | r :: l,h=>by
  have a:=h r List.mem_cons_self
  have b:=Kw l fun r hr=>h r (List.mem_cons_of_mem _ hr)
  show r.length + total l<=(l.length + 1) * 60
  omega
theorem Pt {rs:List (List Int)} (h:Dn rs):Wp (iM [x3 rs] st) Q↔Q (.str (PyData.shown (.tuple (rs.map fun r=>.tuple (r.map PyData.int))))) st:=by
 have s1:(PyData.tuple (rs.map dw)).showable=true:=by
  simp only [PyData.showable]
  exact IW fun r hr i hi=>(h.2 r hr).2 i hi
 have sz:(PyData.tuple (rs.map dw)).shown.length<=sizeLine:=by
  refine Nat.le_trans (IJ _ s1 (by simp only [sX];exact IQ rs)) ?_
  simp only [wD]
  rw [IU]
  have:=Kw rs fun r hr=>(h.2 r hr).1
  have:=h.1
  exact Nat.le_trans (show _<=8000000 by omega) (by decide)
 rw [Pa]
 constructor
 ·rintro ⟨p,h1,_,hq⟩
  rw [Aw] at h1
  cases h1
  exact hq
 ·intro hq
  exact ⟨_,Aw rs,⟨s1,CI rs,sz,by show PyData.depthAll _ + 1<=60;have:=FE rs;omega⟩,hq⟩
end
end L4
namespace L4
open PySem PySem.Spec L2
def bp (st:Store) (f:Nat):Prop:=∃ o m:Int,st[f]?=some (.lst [.int o,.int m])/\0<=o/\0<=m/\m < 4294967296
theorem Ax:kX 2 0=some 0:=by decide
theorem Ay:kX 2 1=some 1:=by decide
theorem om (n:Nat):aE 0 n=(af.upto n).map D.int:=by
 unfold aE af.upto
 rw [List.map_map]
 apply List.map_congr_left
 intro i _
 simp
theorem Pu (L:List Int) (j:Nat):(L.map D.int).eraseIdx j=(L.eraseIdx j).map D.int:=by
 induction L generalizing j with
 | nil=>rfl
 | cons a r ih =>
  cases j with
  | zero=>rfl
  | succ j=>show D.int a :: (r.map D.int).eraseIdx j=_;rw [ih];rfl
theorem Pw {L:List Int} {j:Nat} (h:j < L.length):(L[j] :: L.eraseIdx j).Perm L:=by
 induction L generalizing j with
 | nil=>exact absurd h (Nat.not_lt_zero _)
 | cons a r ih =>
  cases j with
  | zero=>exact List.Perm.refl _
  | succ j =>
   have:=ih (j:=j) (by simpa using h)
   exact (List.Perm.swap _ _ _).trans (this.cons a)
theorem bp.keep {st st':Store} {f:Nat} (h:bp st f) (e:Ex [] st st'):bp st' f:=by
 obtain ⟨o,m,e1,r⟩:=h
 exact ⟨o,m,e.keep _ _ e1 (by simp),r⟩
theorem bp.ne {st:Store} {f i:Nat} {o:O} (h:bp st f) (hi:i≠f):bp (st.set i o) f:=by
 obtain ⟨x,m,e1,r⟩:=h
 exact ⟨x,m,by rw [List.getElem?_set_ne hi];exact e1,r⟩
theorem bp.lt {st:Store} {f:Nat} (h:bp st f):f < st.length:=let ⟨_,_,e,_⟩:=h;iQ e
theorem oo {xs:List Int} {i:Int} (h0:0<=i) (h1:i < (xs.length:Int)):gK (xs.map D.int) i=some (.int (af.app xs i)):=by
 have e:(xs.map D.int)[i.toNat]?=some (.int (af.app xs i)):=by rw [List.getElem?_map,af.nR h0 h1];rfl
 have:=xC e
 rwa [Int.toNat_of_nonneg h0] at this
theorem Az {xs:List Int} {i:Nat} {d:D} (h:(xs.map D.int)[i]?=some d):∃ x,xs[i]?=some x/\d=.int x:=by
 rw [List.getElem?_map] at h
 obtain ⟨x,h1,h2⟩:=Option.map_eq_some_iff.mp h
 exact ⟨x,h1,h2.symm⟩
theorem GA (x:Int):∀ (ns:List Int),sP (.int x) (ns.map V.int)=ns.contains x
 | []=>rfl
 | n :: r=>by
  have e:=GA x r
  unfold sP at e ⊢
  rw [List.map_cons,List.any_cons,e,List.contains_cons]
  congr 1
  show (n == x)=(x == n)
  exact Bool.beq_comm
theorem Dp {st:Store} {Q:D->Store->Prop} {neg:Bool} {x:Int} {c:D} {ns:List Int} (hc:c4 st c=some (ns.map D.int)):Wp (pH neg (.int x) c st) Q↔Q (.bl (if neg then !ns.contains x else ns.contains x)) st:=by
 rw [Al]
 constructor
 ·rintro ⟨v,ds,vs,h1,h2,h3,h⟩
  cases h1
  rw [hc] at h2
  cases h2
  rw [Kr] at h3
  cases h3
  rw [GA] at h
  exact h
 ·intro h
  refine ⟨_,_,_,rfl,hc,Kr ns,?_⟩
  rw [GA]
  exact h
def bK (xs ys:List Int):D:=.tup [.tup (xs.map D.int),.tup (ys.map D.int)]
structure nh (kK st:Store) (f r u:Nat) (n:Nat) (X Y:List Int):Prop where
 hr:st[r]?=some (.lst (X.map D.int))
 hu:st[u]?=some (.lst (Y.map D.int))
 ne:r≠u
 r0:kK.length<=r
 u0:kK.length<=u
 tX:af.Tn n X
 tY:af.Tn n Y
 fd:bp st f
 ex:Ex [f] kK st
section
variable {kK st st':Store} {f r u n:Nat} {X Y Z:List Int} {o:O}
theorem nh.keep (h:nh kK st f r u n X Y) (e:Ex [] st st'):nh kK st' f r u n X Y:=⟨e.keep _ _ h.hr (by simp),e.keep _ _ h.hu (by simp),h.ne,h.r0,h.u0,h.tX,h.tY,h.fd.keep e,h.ex.trans e.any⟩
theorem nh.wW (h:nh kK st f r u n X Y) (t:af.Tn n Z):nh kK (st ++ [.lst (Z.map D.int)]) f st.length u n Z Y:=⟨ku,nJ h.hu,by have:=iQ h.hu;omega,h.ex.len,h.u0,t,h.tY,h.fd.keep (Ex.cc _),h.ex.app _⟩
theorem nh.wX (h:nh kK st f r u n X Y) (t:af.Tn n Z):nh kK (st ++ [.lst (Z.map D.int)]) f r st.length n X Z:=⟨nJ h.hr,ku,by have:=iQ h.hr;omega,h.r0,h.ex.len,h.tX,t,h.fd.keep (Ex.cc _),h.ex.app _⟩
theorem nh.put (h:nh kK st f r u n X Y) (t:af.Tn n Z) (hf:f < kK.length):nh kK (st.set r (.lst (Z.map D.int))) f r u n Z Y:=⟨List.getElem?_set_self (iQ h.hr),by rw [List.getElem?_set_ne h.ne];exact h.hu,h.ne,h.r0,h.u0,t,h.tY,h.fd.ne (by have:=h.r0;omega),h.ex.loc h.r0⟩
end
theorem Kx (n:Nat):(af.oI n).map D.int=aE 1 ((n:Int) - 1).toNat ++ [.int 0]:=by
 unfold af.oI aE
 rw [List.map_append,List.map_map,show ((n:Int) - 1).toNat=n - 1 by omega]
 rfl
theorem sd {lo hi:Int} (h:0<=lo/\lo<=10000/\0<=hi/\hi<=10000):pe lo hi=true:=by
 unfold pe;rw [Bool.and_eq_true,decide_eq_true_eq];exact ⟨by omega,kd (by omega)⟩
theorem wY (w n:Nat):(af.qe w n).map D.int=aE 1 ((w:Int) - 1).toNat ++ [.int 0] ++ aE (w:Int) ((n:Int) - (w:Int)).toNat:=by
 unfold af.qe aE
 rw [List.map_append,List.map_append,List.map_map,List.map_map,show ((w:Int) - 1).toNat=w - 1 by omega,show ((n:Int) - (w:Int)).toNat=n - w by omega]
 rfl
theorem Ky (xs:List D) (j:Nat):cutD xs none (some (j:Int))=xs.take j:=by
 unfold cutD
 rw [HT.HR,HT.HS,List.drop_zero,Nat.sub_zero,List.take_eq_take_iff];omega
theorem Px (xs:List D) (i:Nat):cutD xs (some (i:Int)) none=xs.drop i:=by
 unfold cutD
 rw [HT.HS,HT.HR]
 by_cases h:i<=xs.length
 ·rw [Nat.min_eq_left h,List.take_of_length_le (by rw [List.length_drop];exact Nat.le_refl _)]
 ·rw [Nat.min_eq_right (by omega),List.drop_eq_nil_of_le (Nat.le_refl _),List.drop_eq_nil_of_le (by omega)];simp
theorem wZ {w n:Nat} (h0:0 < w) (h:w < n):(af.rO w n).map D.int=cutD ([D.int (w:Int)] ++ aE 1 ((w:Int) - 1).toNat ++ aE ((w:Int) + 1) ((n:Int) - ((w:Int) + 1)).toNat ++ [.int 0]) none (some (n:Int)):=by
 rw [Ky,List.take_of_length_le (by simp [gI];omega)]
 unfold af.rO aE
 rw [List.map_append,List.map_append,List.map_append,List.map_map,List.map_map,show ((w:Int) - 1).toNat=w - 1 by omega,show ((n:Int) - ((w:Int) + 1)).toNat=n - (w + 1) by omega]
 rfl
def lp (n:Nat) (xs ys:List Int):Prop:=af.Tn n xs/\af.Tn n ys/\∀ x:Int,0<=x->x < (n:Int)->af.iG xs ys x
theorem Kz {xs:List Int} {v:Int} (h:v∈xs):xs.findIdx? (fun i=>decide (i=v))=some (xs.idxOf v):=by
 induction xs with
 | nil=>exact nomatch h
 | cons a r ih =>
  rw [List.findIdx?_cons]
  by_cases e:a=v
  ·subst e;simp
  ·have hm:v∈r:=by
    rcases List.mem_cons.mp h with h | h
    ·exact absurd h.symm e
    ·exact h
   rw [decide_eq_false e,ih hm,List.idxOf_cons,show (a == v)=false by simpa using e]
   rfl
def qz (S:Src) (ds:List D) (st:Store):Prop:=∀ (i:Nat) (st2:Store),i<=ds.length->Ex [] st st2->S.at i st2=some ds[i]?
theorem Py {st st':Store} {r:Nat} {ds:List D} (h:items st r=some ds) (e:Ex [] st st'):items st' r=some ds:=by
 unfold items at h ⊢
 cases hx:st[r]? with
 | none=>rw [hx] at h;cases h
 | some o=>rw [e.keep _ _ hx (by simp)];rw [hx] at h;exact h
theorem q4 (ds:List D) (st:Store):qz (.fix ds) ds st:=fun i st2 hi _=>by
 show (if i<=ds.length then some ds[i]? else none)=_
 rw [if_pos hi]
theorem Pz {ds:List D} {st:Store} {r:Nat} (h:items st r=some ds):qz (.live r) ds st:=fun i st2 hi e=>by
 show (items st2 r).map _=_
 rw [Py h e];rfl
theorem q5 {δ:au} {st:Store} {fi:au->Dm Src} {js:List Nat} {f:au->Dm D} {Q:D->Store->Prop} (ds:List D) (h:D->D) (hi:Wp (fi δ st) fun S st1=>qz S ds st1/\Ex [] st st1) (hl:ds.length < 100000)
  (step:∀ d∈ds,∀ st1,Ex [] st st1->Wp (f (some d :: js.map fun j=>δ.getD j none) st1) fun y st2=>y=h d/\Ex [] st1 st2) (fin:∀ st',Ex [] st st'->Q (.ref st'.length) (st' ++ [.lst (ds.map h)])):Wp (di fi 1 js (hName 0) d6 f δ st) Q:=by
 obtain ⟨S,st1,e1,hS,k1⟩:=hi
 refine Gp ds (fun i ys δ' j7=>(∃ v,δ'=v :: js.map fun j=>δ.getD j none)/\ys=(ds.take i).map h/\Ex [] st1 j7) ⟨S,st1,e1,fun i ys δ' j7 hi' hp=>hS i j7 hi' hp.2.2,⟨none,rfl⟩,rfl,Ex.refl⟩ hl ?_ ?_ ?_
 ·rintro i ys δ' j7 ⟨_,rfl,_⟩
  rw [List.length_map,List.length_take];omega
 ·rintro i d ys δ' j7 hd ⟨⟨v,rfl⟩,rfl,k8⟩
  rw [Gs]
  show Wp (d6 _ _) _
  rw [Gu]
  refine ⟨fun _=>?_,fun h=>absurd h (by decide)⟩
  refine a6 (step d (List.mem_of_getElem? hd) j7 (k1.trans k8)) ?_
  rintro y nV ⟨rfl,k9⟩
  refine ⟨⟨some d,rfl⟩,?_,k8.trans k9⟩
  obtain ⟨hlt,e⟩:=List.getElem?_eq_some_iff.mp hd
  rw [List.take_succ_eq_append_getElem hlt,List.map_append,e];rfl
 ·rintro ys δ' j7 ⟨_,rfl,k8⟩
  rw [List.take_length]
  exact fin j7 (k1.trans k8)
theorem ug {xs:List Int} {d:D} (h:d∈xs.map D.int):∃ x∈xs,d=.int x:=by
 obtain ⟨x,hx,rfl⟩:=List.mem_map.mp h
 exact ⟨x,hx,rfl⟩
theorem x4 {xs:List Int} {f:Int->Int} {h:D->D} (e:∀ x∈xs,h (.int x)=.int (f x)):(xs.map D.int).map h=(xs.map f).map D.int:=by
 rw [List.map_map,List.map_map]
 exact List.map_congr_left fun x hx=>e x hx
def inD:D->Int
 | .int i=>i
 | _=>0
def w4 (xs ys:List Int):Str:=PyData.shown (.tuple ([xs,ys].map fun r=>.tuple (r.map PyData.int)))
theorem GB {n:Nat} {xs ys:List Int} (tx:af.Tn n xs) (ty:af.Tn n ys) (hn:n<=60):Dn [xs,ys]:=by
 have small:∀ zs:List Int,af.Tn n zs->zs.length<=60/\∀ i∈zs,p8 i:=fun zs tz=>⟨by rw [tz.length];exact hn,fun i hi=>by have:=tz.bound hi;unfold p8;omega⟩
 refine ⟨by simp,fun r hr=>?_⟩
 rcases List.mem_cons.mp hr with rfl | hr
 ·exact small _ tx
 ·rw [List.mem_singleton.mp hr];exact small _ ty
section
variable {st:Store} {Q:D->Store->Prop}
theorem KA {xs ys:List Int} (h:Dn [xs,ys]):Wp (iM [bK xs ys] st) Q↔Q (.str (w4 xs ys)) st:=Pt (rs:=[xs,ys]) h
theorem Dq {neg:Bool} {xs ys zs ws:List Int}:Wp (gC neg (bK xs ys) (bK zs ws) st) Q↔Q (.bl (if neg then !decide ([xs,ys]=[zs,ws]) else decide ([xs,ys]=[zs,ws]))) st:=Pr (rs:=[xs,ys]) (ss:=[zs,ws])
end
theorem KC (zs:List Int):(zs.map D.int).map inD=zs:=by rw [List.map_map];exact List.map_id zs
theorem _root_.af.oS {n:Nat} {xs ys p:List Int} (fl:lp n xs ys) (tp:af.Tn n p) (n0:0 < n):lp n (af.anew xs p) (af.anew ys p):=by
 obtain ⟨tx,ty,all⟩:=fl
 have tX:=tx.anew tp
 have tY:=ty.anew tp
 refine ⟨tX,tY,fun x x0 x1=>?_⟩
 obtain ⟨a0,a1⟩:=tp.app (i:=0) (by decide) (by omega)
 have hb:∀ y:Int,0<=y->y < (n:Int)->y∈af.bf (af.anew xs p) (af.anew ys p) (af.app p 0) n:=fun y y0 y1=>by
  rw [af.FQ tx ty tp (by decide) (by omega) n]
  obtain ⟨b0,b1⟩:=tp.lh y0 y1
  exact List.mem_map.mpr ⟨af.app (af.inv p) y,af.JC tx ty (by decide) (by omega) all b0 b1,tp.cI y0 y1⟩
 have hF:=af.FP tX tY (s:=0) (by decide) (by omega)
 have nd:=af.vg (af.anew xs p) (af.anew ys p) 0 n
 have bd:=af.o9 tX tY (s:=0) (by decide) (by omega) n
 have PB:∀ k,∀ y∈af.bf (af.anew xs p) (af.anew ys p) 0 k,af.iG (af.anew xs p) (af.anew ys p) y:=by
  intro k
  induction k with
  | zero=>intro y hy;rw [List.mem_singleton.mp (show y∈[(0:Int)] from hy)];exact .zero
  | succ k ih =>
   intro y hy
   have hy':y∈(match (af.bf (af.anew xs p) (af.anew ys p) 0 k)[k]? with | some x=>af.visit (af.anew xs p) (af.anew ys p) (af.bf (af.anew xs p) (af.anew ys p) 0 k) x | none=>af.bf (af.anew xs p) (af.anew ys p) 0 k):=hy
   split at hy'
   ·next z hz =>
    have tK:=ih z (List.mem_of_getElem? hz)
    rcases af.oK.mp hy' with hy' | rfl
    ·rcases af.oK.mp hy' with hy' | rfl
     ·exact ih y hy'
     ·exact tK.r
    ·exact tK.u
   ·exact ih y hy'
 refine PB n x ?_
 have z0:(0:Int)∈af.bf (af.anew xs p) (af.anew ys p) 0 n:=by
  have:=af.xO (af.anew xs p) (af.anew ys p) 0 0 n
  rw [Nat.zero_add] at this
  exact this.subset (show (0:Int)∈[(0:Int)] by simp)
 have back:∀ k,(∃ y∈af.bf (af.anew xs p) (af.anew ys p) (af.app p 0) k,y∈af.bf (af.anew xs p) (af.anew ys p) 0 n)->af.app p 0∈af.bf (af.anew xs p) (af.anew ys p) 0 n:=by
  intro k
  induction k with
  | zero =>
   rintro ⟨y,hy,rH⟩
   rw [List.mem_singleton.mp (show y∈[af.app p 0] from hy)] at rH
   exact rH
  | succ k ih =>
   rintro ⟨y,hy,rH⟩
   have hy':y∈(match (af.bf (af.anew xs p) (af.anew ys p) (af.app p 0) k)[k]? with | some x=>af.visit (af.anew xs p) (af.anew ys p) (af.bf (af.anew xs p) (af.anew ys p) (af.app p 0) k) x | none=>af.bf (af.anew xs p) (af.anew ys p) (af.app p 0) k):=hy
   split at hy'
   ·next z hz =>
    have xP:=List.mem_of_getElem? hz
    obtain ⟨c0,c1⟩:=af.o9 tX tY a0 a1 k z xP
    rcases af.oK.mp hy' with hy' | rfl
    ·rcases af.oK.mp hy' with hy' | rfl
     ·exact ih ⟨y,hy',rH⟩
     ·exact ih ⟨z,xP,af.zv tX nd bd (fun x hx=>(hF x hx).1) c0 c1 rH⟩
    ·exact ih ⟨z,xP,af.zv tY nd bd (fun x hx=>(hF x hx).2) c0 c1 rH⟩
   ·exact ih ⟨y,hy',rH⟩
 have hp0:=back n ⟨0,hb 0 (by decide) (by omega),z0⟩
 have fwd:∀ k,∀ y∈af.bf (af.anew xs p) (af.anew ys p) (af.app p 0) k,y∈af.bf (af.anew xs p) (af.anew ys p) 0 n:=by
  intro k
  induction k with
  | zero=>intro y hy;rw [List.mem_singleton.mp (show y∈[af.app p 0] from hy)];exact hp0
  | succ k ih =>
   intro y hy
   have hy':y∈(match (af.bf (af.anew xs p) (af.anew ys p) (af.app p 0) k)[k]? with | some x=>af.visit (af.anew xs p) (af.anew ys p) (af.bf (af.anew xs p) (af.anew ys p) (af.app p 0) k) x | none=>af.bf (af.anew xs p) (af.anew ys p) (af.app p 0) k):=hy
   split at hy'
   ·next z hz =>
    have tK:=ih z (List.mem_of_getElem? hz)
    rcases af.oK.mp hy' with hy' | rfl
    ·rcases af.oK.mp hy' with hy' | rfl
     ·exact ih y hy'
     ·exact (hF z tK).1
    ·exact (hF z tK).2
   ·exact ih y hy'
 exact fwd n x (hb x x0 x1)
end L4
namespace L4
open PySem PySem.Spec L2
theorem w6 (p:Key×D) (r:List (Key×D)) (k:Key):dy (p :: r) k=if p.1=k then some p.2 else dy r k:=by
 unfold dy
 rw [List.find?_cons]
 by_cases e:p.1=k
 ·rw [decide_eq_true e,if_pos e];rfl
 ·rw [decide_eq_false e,if_neg e]
theorem PD (kvs:List (Key×D)) (k j:Key) (y:D):dy (putD kvs k y) j=if j=k then some y else dy kvs j:=by
 unfold putD
 by_cases a:(kvs.any fun kv=>decide (kv.1=k))=true
 ·rw [if_pos a]
  induction kvs with
  | nil=>simp at a
  | cons p r ih =>
   rw [List.map_cons,w6,w6]
   by_cases e:p.1=k
   ·rw [if_pos e]
    by_cases ej:j=k
    ·rw [if_pos ej,if_pos (show (p.1,y).1=j from e.trans ej.symm)]
    ·rw [if_neg ej,if_neg (show ¬ (p.1,y).1=j from fun z=>ej (z.symm.trans e)),if_neg (fun z=>ej (z.symm.trans e))]
     have:∀ l:List (Key×D),dy (l.map fun kv=>if kv.1=k then (kv.1,y) else kv) j=dy l j:=by
      intro l
      induction l with
      | nil=>rfl
      | cons q l ihl =>
       rw [List.map_cons,w6,w6,ihl]
       by_cases eq:q.1=k
       ·rw [if_pos eq,if_neg (show ¬ (q.1,y).1=j from fun z=>ej (z.symm.trans eq)),if_neg (fun z=>ej (z.symm.trans eq))]
       ·rw [if_neg eq]
     exact this r
   ·rw [if_neg e]
    have a':(r.any fun kv=>decide (kv.1=k))=true:=by
     rw [List.any_cons,decide_eq_false e,Bool.false_or] at a
     exact a
    rw [ih a']
    by_cases ej:j=k
    ·rw [if_pos ej,if_neg (fun z=>e (z.trans ej)),if_pos ej]
    ·rw [if_neg ej,if_neg ej]
 ·rw [if_neg a]
  induction kvs with
  | nil =>
   show dy [(k,y)] j=_
   rw [w6]
   by_cases ej:j=k
   ·rw [if_pos ej.symm,if_pos ej]
   ·rw [if_neg (fun z=>ej z.symm),if_neg ej]
  | cons p r ih =>
   have a':¬ (r.any fun kv=>decide (kv.1=k))=true:=fun z=>a (by rw [List.any_cons,z,Bool.or_true])
   have ep:p.1≠k:=fun z=>a (by rw [List.any_cons,decide_eq_true z,Bool.true_or])
   rw [List.cons_append,w6,ih a',w6]
   by_cases ej:j=k
   ·rw [if_pos ej,if_pos ej,if_neg (fun z=>ep (z.trans ej))]
   ·rw [if_neg ej,if_neg ej]
theorem PH (kvs:List (Key×D)) (k:Key) (v:D):(putD kvs k v).length<=kvs.length + 1:=by
 unfold putD
 split
 ·rw [List.length_map];omega
 ·rw [List.length_append,List.length_cons,List.length_nil];omega
theorem KD {st:Store} {i:Nat} {kvs:List (Key×D)} (h:st[i]?=some (.dct kvs)):iP st (.ref i)=some kvs:=by simp only [iP,h]
theorem KG (i:Int):keyOf (.int i)=some (.inl i):=rfl
theorem PJ {r:List Int} {j:Nat} (h:j < r.length) (x:Int):(r.take (j + 1)).contains x=((r.take j).contains x || x == r[j]):=by
 rw [List.take_succ_eq_append_getElem h,List.contains_append]
 congr 1
 show ([r[j]]:List Int).contains x=(x == r[j])
 rw [List.contains_cons,List.contains_nil,Bool.or_false]
end L4
namespace L4
open PySem PySem.Spec L2
abbrev fH:=Bool×Int
def bL (s:fH):D:=.tup [.str (if s.1 then "s" else "t"),.int s.2]
end L4
namespace L4
open PySem PySem.Spec L2
section
variable {X:Cx} {K:PySem.W.Frag}
end
end L4
namespace L4
open PySem PySem.Spec L2
section
variable {K:PySem.W.Frag}
end
section
variable {X:Cx}
end
theorem at2 {α:Type} (x y z:α) (xs:List α):gK (x :: y :: z :: xs) 2=some z:=by
 unfold gK kX
 rw [if_pos (by decide),if_pos (by simp only [List.length_cons];omega)]
 rfl
theorem KH {α:Type} (x y z u:α) (xs:List α):gK (x :: y :: z :: u :: xs) 3=some u:=by
 unfold gK kX
 rw [if_pos (by decide),if_pos (by simp only [List.length_cons];omega)]
 rfl
section
variable {st:Store} {Q:D->Store->Prop}
end
theorem PK {δ:au} {st:Store} {fi:au->Dm Src} {js:List Nat} {f:au->Dm D} {Q:D->Store->Prop} (ds:List D) (P:Nat->D->Prop) (I:Store->Prop)
  (hi:Wp (fi δ st) fun S st1=>(∀ i st2,i<=ds.length->I st2->S.at i st2=some ds[i]?)/\I st1) (hl:ds.length < 100000)
  (step:∀ i d,ds[i]?=some d->∀ st1,I st1->Wp (f (some d :: js.map fun j=>δ.getD j none) st1) fun y st2=>P i y/\I st2)
  (fin:∀ ys st',I st'->ys.length=ds.length->(∀ i y,ys[i]?=some y->P i y)->Q (.ref st'.length) (st' ++ [.lst ys])):Wp (di fi 1 js (hName 0) d6 f δ st) Q:=by
 obtain ⟨S,st1,e1,hS,k1⟩:=hi
 refine Gp ds (fun i ys δ' j7=>(∃ v,δ'=v :: js.map fun j=>δ.getD j none)/\ys.length=i/\(∀ i y,ys[i]?=some y->P i y)/\I j7) ⟨S,st1,e1,fun i ys δ' j7 hi' hp=>hS i j7 hi' hp.2.2.2,⟨none,rfl⟩,rfl,(fun i y h=>by simp at h),k1⟩ hl ?_ ?_ ?_
 ·rintro i ys δ' j7 ⟨_,h,_⟩
  omega
 ·rintro i d ys δ' j7 hd ⟨⟨v,rfl⟩,hlen,hP,k8⟩
  rw [Gs]
  show Wp (d6 _ _) _
  rw [Gu]
  refine ⟨fun _=>?_,fun h=>absurd h (by decide)⟩
  refine a6 (step i d hd j7 k8) ?_
  rintro y nV ⟨hp,k9⟩
  refine ⟨⟨some d,rfl⟩,by rw [List.length_append,hlen];rfl,fun j z hz=>?_,k9⟩
  by_cases hj:j < ys.length
  ·rw [List.getElem?_append_left hj] at hz;exact hP j z hz
  ·have hb:=iQ hz
   rw [List.length_append,List.length_singleton] at hb
   have e:j=ys.length:=by omega
   subst e
   rw [List.getElem?_append_right (Nat.le_refl _),Nat.sub_self] at hz
   cases hz
   rw [hlen];exact hp
 ·rintro ys δ' j7 ⟨_,hlen,hP,k8⟩
  exact fin ys j7 k8 hlen hP
end L4
namespace L4
open PySem PySem.Spec L2
def GC (x:Str):List D:=x.cps.toList.map fun c=>.str ⟨#[c]⟩
section
variable {K:PySem.W.Frag}
end
section
variable {st:Store} {Q:D->Store->Prop}
end
end L4
namespace L4
open PySem PySem.Spec L2
section
variable {K:PySem.W.Frag}
end
section
variable {st:Store}
end
section
variable {X:Cx} {K:PySem.W.Frag}
end
structure pR (K:PySem.W.Frag) (mg:Str->Option Value) (x:Str) (v:V) (d:D):Prop where
 ex:∃ u,mg x=some u/\RelV v u
 rp:∀ (ρ:List Addr) (H:Hp),Rp K ρ H v d
theorem GD {X:Cx} {K:PySem.W.Frag} {mg:Str->Option Value} {x:Str} {v:V} {d:D} {pos:Pos} (C:pR K mg x v d) (hg:Gl X x) (hX:X.mg=mg) (hd:(x == ("__debug__" : Str))=false):PE X (.Name x pos) (tC v):=by
 obtain ⟨u,h,r⟩:=C.ex
 subst hX
 exact LF hg h r hd
theorem GF {K:PySem.W.Frag} {mg:Str->Option Value} {x:Str} {v:V} {d:D} (C:pR K mg x v d):gp K (tC v) (fC d):=rV C.rp
theorem KI {K:PySem.W.Frag} {h:Heap} {mg:Str->Option Value} (X:K.In h) (G:h.Ns mainGlobals mg) {x:Str} {a:Addr} {od:Option Addr} {its:Array Value} {n:Nat} {sl:Array (Option Value)} {vs:List V} {ds:List D} (e:PySem.W.nsIn K mainGlobals x=some (some (.ref a))) (l:K.lookup a=some ⟨.type "tuple",od,.seq its n,sl⟩)
  (ho:od=none) (hz:its.size<=sizeLine) (hv:Vals vs its.toList) (hd:∀ (ρ:List Addr) (H:Hp),cB K ρ H vs ds):∃ v,pR K mg x v (.tup ds) :=
 ⟨.ref a,⟨_,PySem.W.mg_of X G e,rfl⟩,fun ρ H=>.tup (.inr ⟨_,its,n,l,rfl,ho,rfl,hz,hv⟩) (hd ρ H)⟩
end L4
namespace L4
open PySem PySem.Spec L2
end L4
namespace L4
open PySem PySem.Spec L2
section
variable {K:PySem.W.Frag}
theorem KJ {ρ:List Addr} {H:Hp} {st:Store} (l:Rl K ρ H st) (n:Nat):∀ {vs:List V} {ds:List D} {ps:List PyData},cB K ρ H vs ds->cJ (gq st n) ds=some ps->iI K H vs ps
 | _,_,_,.nil,h=>by cases h;exact .nil
 | _,_,_,.cons a b,h=>by
  obtain ⟨x,t,h1,h2,rfl⟩:=zT h
  exact .cons (zU l n a h1) (KJ l n b h2)
end
end L4
namespace L4
open PySem PySem.Spec L2
def Dr:D->Option (List D)
 | .tup ds=>some ds
 | .str x=>if x.length<=sizeLine then some (GC x) else none
 | _=>none
def oT (fa:au->Dm (List D)):au->Dm Src:=fun δ st=>bnd (fa δ st) fun as st1=>match as with
 | [a]=>match Dr a with
  | some ds=>some (.fix ds.reverse,st1)
  | none=>none
 | _=>none
section
variable {K:PySem.W.Frag}
theorem AA {ρ:List Addr} {H:Hp} {x:V} {a:D} {ds:List D} (r:Rp K ρ H x a) (h:Dr a=some ds):∃ src:ZS,src.val K H x/\(∀ a,src≠.lst a)/\(∀ z,src=.str z->z.length<=sizeLine)/\∀ (ρ2:List Addr) (H2:Hp),Mn K ρ H ρ2 H2->∀ i,(∀ d,ds[i]?=some d->∃ v,src.has K H2 i v/\Rp K ρ2 H2 v d)/\(i=ds.length->src.fin K H2 i):=by
 cases r with
 | non=>cases h
 | bl b=>cases h
 | int i=>cases h
 | ty n=>cases h
 | ref e=>cases h
 | str x =>
  unfold Dr at h
  simp only at h
  split at h
  ·next hx =>
   cases h
   refine ⟨.str x,rfl,nofun,fun z e=>by cases e;exact hx,fun ρ2 H2 m i=>⟨fun d hd=>?_,fun e=>?_⟩⟩
   ·unfold GC at hd
    rw [List.getElem?_map] at hd
    obtain ⟨c,hc,rfl⟩:=Option.map_eq_some_iff.mp hd
    have hc':x.cps[i]?=some c:=by simpa using hc
    exact ⟨_,⟨c,hc',rfl⟩,.str _⟩
   ·show x.cps.size=i
    rw [e];simp [GC]
  ·cases h
 | tup s r =>
  cases h
  refine ⟨.tup _,⟨rfl,_,s⟩,nofun,nofun,fun ρ2 H2 m i=>⟨fun d hd=>?_,fun e=>?_⟩⟩
  ·obtain ⟨v,hv,rv⟩:=r.got hd
   exact ⟨v,⟨_,m.t _ _ s,hv⟩,rv.mn m⟩
  ·exact ⟨_,m.t _ _ s,by rw [r.length];exact e.symm⟩
theorem PL {t:TA} {fa:au->Dm (List D)} (ha:pC K t fa):vN K (zf K t) (oT fa):=by
 intro ρ σ H δ st S st' Q l rs e q
 obtain ⟨as,st1,e1,e⟩:=dU e
 split at e
 ·next a =>
  split at e
  ·next ds h1 =>
   cases e
   refine ha ρ σ H δ st _ _ _ l rs e1 fun xs H1 ρ1 m1 l1 r1=>?_
   obtain ⟨x,rfl,rx⟩:=r1.one'
   obtain ⟨s1,v1,nl,hz,g1⟩:=AA rx h1
   refine ⟨x,s1,ds.length,rfl,v1,(g1 ρ1 H1 Mn.refl ds.length).2 rfl,nl,hz,q _ H1 ρ1 m1 l1 fun ρ2 H2 st2 i m2 l2=>⟨fun h=>?_,fun d h=>?_⟩⟩
   ·obtain ⟨hl,hn⟩:=t5 h
    have:=List.getElem?_eq_none_iff.mp hn
    simp only [List.length_reverse] at this hl
    exact (show i=ds.length by omega)
   ·have hd:=(t5 h).2
    have hi:i < ds.length:=by simpa using (List.getElem?_eq_some_iff.mp hd).1
    rw [List.getElem?_reverse hi] at hd
    obtain ⟨v,hv,rv⟩:=(g1 ρ2 H2 m2 _).1 d hd
    refine ⟨⟨hi,v,hv⟩,fun z H3 hz=>?_⟩
    obtain ⟨rfl,k1⟩:=hz
    cases k1 _ hv
    exact ⟨Mn.refl,l2,rv⟩
  ·cases e
 ·cases e
end
section
variable {st:Store}
theorem PN {δ:au} {fa:au->Dm (List D)} {R:Src->Store->Prop}:Wp (oT fa δ st) R↔Wp (fa δ st) fun as st1=>∃ a ds,as=[a]/\Dr a=some ds/\R (.fix ds.reverse) st1:=by
 unfold oT;rw [dg]
 constructor <;> refine fun h=>a6 h fun as s h=>?_
 ·split at h
  ·next a =>
   split at h
   ·next ds h1=>exact ⟨a,ds,rfl,h1,bD.mp h⟩
   ·exact (fu.mp h).elim
  ·exact (fu.mp h).elim
 ·obtain ⟨a,ds,rfl,h1,h⟩:=h
  simp only [h1]
  exact bD.mpr h
end
end L4
namespace L4
open PySem PySem.Spec L2
section
variable {K:PySem.W.Frag}
end
section
variable {st:Store} {Q:D->Store->Prop}
end
end L4
namespace L4
open PySem PySem.Spec L2
section
variable {K:PySem.W.Frag}
end
end L4
namespace L4
open PySem PySem.Spec L2
section
variable {K:PySem.W.Frag}
end
end L4
namespace L4
open PySem PySem.Spec L2
section
variable {K:PySem.W.Frag}
end
end L4
namespace L4
open PySem PySem.Spec L2
section
variable {K:PySem.W.Frag}
end
section
variable {δ:au} {st:Store} {N B C:au->Store->Prop} {R:D->Store->Prop}
end
end L4
namespace L4
open PySem PySem.Spec L2
section
variable {K:PySem.W.Frag}
end
section
variable {δ:au} {st:Store} {N B C:au->Store->Prop} {R:D->Store->Prop}
end
end L4
namespace L4
open PySem PySem.Spec L2
def oU (ps:List PyData):Bool:=decide (0 < ps.length) && ps.all (fun a=>ps.all fun b=>qb a b) && ps.all fun a=>a.canLay0 && decide (a.depth<=50)
def la:List D->Dm D
 | [.ref r],st=>match own st r with
  | some ds=>match cJ (gq st 20) ds with
   | some ps=>if oU ps=true then (match ds[mC ps]? with | some d=>some (d,st) | none=>none) else none
   | none=>none
  | none=>none
 | _,_=>none
section
variable {K:PySem.W.Frag}
theorem KL:pD K (sZ K) la:=by
 intro ρ H st xs as b st' Q l rx e q
 unfold la at e
 split at e
 ·next r kK =>
  split at e
  ·next ds hd =>
   split at e
   ·next ps hp =>
    split at e
    ·next hok =>
     split at e
     ·next d hd0 =>
      cases e
      obtain ⟨v,rfl,r⟩:=rx.one'
      cases r with
      | ref hi =>
       obtain ⟨vs,hs,rr⟩:=l.items hi (d8 (qX hd))
       obtain ⟨v,hv,rv⟩:=rr.got hd0
       simp only [oU,Bool.and_eq_true,decide_eq_true_eq,List.all_eq_true] at hok
       exact ⟨_,vs,ps,rfl,hs,KJ l 20 rr hp,hok.1.1,hok.1.2,hok.2,v,hv,q v H ρ .refl l rv⟩
     ·cases e
    ·cases e
   ·cases e
  ·cases e
 ·cases e
end
theorem PQ {st:Store} {Q:D->Store->Prop} {r:Nat} {ds:List D} {ps:List PyData} (h:own st r=some ds) (hp:cJ (gq st 20) ds=some ps) (hok:oU ps=true) {d:D} (hd:ds[mC ps]?=some d):Wp (la [.ref r] st) Q↔Q d st:=by
 have e:la [.ref r] st=some (d,st):=by simp only [la,h,hp,hok,hd,if_true]
 rw [e,bD]
def tupI (xs:List Int):PyData:=.tuple (xs.map PyData.int)
def jK (p:af.cz):PyData:=.tuple [tupI p.1,tupI p.2]
theorem GG:∀ xs ys:List Int,lN (xs.map PyData.int) (ys.map PyData.int)=af.n4 xs ys
 | [],[]=>rfl
 | [],_ :: _=>rfl
 | _ :: _,[]=>rfl
 | x :: xs,y :: ys=>by
  show (if (x == y)=true then lN (xs.map PyData.int) (ys.map PyData.int) else decide (x < y))=if x=y then af.n4 xs ys else decide (x < y)
  rw [GG xs ys]
  by_cases h:x=y
  ·rw [if_pos h,if_pos (by simp [h])]
  ·rw [if_neg h,if_neg (by simp [h])]
theorem KN (xs ys:List Int):PyData.eqv (tupI xs) (tupI ys)=decide (xs=ys):=uZ xs ys
theorem PR (p q:af.cz):xJ (jK p) (jK q)=af.lO p q:=by
 show (if PyData.eqv (tupI p.1) (tupI q.1)=true then (if PyData.eqv (tupI p.2) (tupI q.2)=true then false else lN (p.2.map PyData.int) (q.2.map PyData.int)) else lN (p.1.map PyData.int) (q.1.map PyData.int))=if p.1=q.1 then af.n4 p.2 q.2 else af.n4 p.1 q.1
 rw [KN,KN,GG,GG]
 by_cases a:p.1=q.1
 ·rw [if_pos a,if_pos (decide_eq_true a)]
  by_cases b:p.2=q.2
  ·rw [if_pos (decide_eq_true b),b,af.CV]
  ·rw [if_neg (by simp [b])]
 ·rw [if_neg a,if_neg (by simp [a])]
theorem GH:∀ xs ys:List Int,mU (xs.map PyData.int) (ys.map PyData.int)=true
 | [],_=>rfl
 | _ :: _,[]=>rfl
 | x :: xs,y :: ys=>by show (true && mU (xs.map PyData.int) (ys.map PyData.int))=true;rw [GH xs ys];rfl
theorem PU (p q:af.cz):qb (jK p) (jK q)=true:=by
 show (mU (p.1.map PyData.int) (q.1.map PyData.int) && (mU (p.2.map PyData.int) (q.2.map PyData.int) && true))=true
 rw [GH,GH];rfl
theorem PV (p:af.cz):(jK p).canLay0=true/\(jK p).depth<=50:=by
 refine ⟨?_,?_⟩
 ·show (PyData.canLayAll0 (bI p.1) && (PyData.canLayAll0 (bI p.2) && true))=true
  rw [rE,rE];rfl
 ·show max (PyData.depthAll (bI p.1) + 1) (max (PyData.depthAll (bI p.2) + 1) 0) + 1<=50
  rw [uY,uY];decide
theorem KO (l:List af.cz):∀ k,k < l.length->l[argBest (fun i j=>af.lO (l.getD i ([],[])) (l.getD j ([],[]))) k]?=some (af.lP (l.take (k + 1)))
 | 0,h=>by
  cases l with
  | nil=>simp at h
  | cons p l=>rfl
 | k + 1,h=>by
  have ih:=KO l k (by omega)
  generalize hb:argBest (fun i j=>af.lO (l.getD i ([],[])) (l.getD j ([],[]))) k=b at ih
  have e1:l.getD b ([],[])=af.lP (l.take (k + 1)):=by rw [List.getD_eq_getElem?_getD,ih];rfl
  have e2:af.lP (l.take (k + 1 + 1))=if af.lO (l.getD (k + 1) ([],[])) (af.lP (l.take (k + 1))) then l.getD (k + 1) ([],[]) else af.lP (l.take (k + 1)):=by
   have et:l.take (k + 1 + 1)=l.take (k + 1) ++ [l.getD (k + 1) ([],[])]:=by
    rw [List.take_succ_eq_append_getElem h,List.getD_eq_getElem?_getD,List.getElem?_eq_getElem h];rfl
   rw [et]
   cases l with
   | nil=>simp at h
   | cons p l =>
    show ((l.take k ++ [_]).foldl _ p)=_
    rw [List.foldl_append]
    rfl
  show l[if (af.lO (l.getD (k + 1) ([],[])) (l.getD (argBest _ k) ([],[])))=true then k + 1 else argBest _ k]?=_
  rw [hb,e1,e2]
  split
  ·rw [List.getD_eq_getElem?_getD,List.getElem?_eq_getElem h];rfl
  ·exact ih
theorem PX (st:Store) (p:af.cz):gq st 20 (bK p.1 p.2)=some (jK p):=by
 have h:∀ (m:Nat) (xs:List Int),cJ (gq st (m + 1)) (xs.map D.int)=some (xs.map PyData.int):=fun m xs=>by
  have:=tR (f:=gq st (m + 1)) (g:=D.int) (k:=PyData.int) (fun _=>rfl) xs
  exact this
 show (cJ (gq st 19) [D.tup (p.1.map D.int),D.tup (p.2.map D.int)]).map PyData.tuple=_
 have e1:gq st 19 (D.tup (p.1.map D.int))=some (tupI p.1):=by show (cJ (gq st 18) (p.1.map D.int)).map PyData.tuple=_;rw [h];rfl
 have e2:gq st 19 (D.tup (p.2.map D.int))=some (tupI p.2):=by show (cJ (gq st 18) (p.2.map D.int)).map PyData.tuple=_;rw [h];rfl
 simp only [cJ,e1,e2]
 rfl
theorem KP {st:Store} {Q:D->Store->Prop} {r:Nat} {l:List af.cz} (h:own st r=some (l.map fun p=>bK p.1 p.2)) (hn:0 < l.length):Wp (la [.ref r] st) Q↔Q (bK (af.lP l).1 (af.lP l).2) st:=by
 have hp:cJ (gq st 20) (l.map fun p=>bK p.1 p.2)=some (l.map jK):=tR (f:=gq st 20) (g:=fun p:af.cz=>bK p.1 p.2) (k:=jK) (fun p=>PX st p) l
 refine PQ h hp ?_ ?_
 ·simp only [oU,Bool.and_eq_true,decide_eq_true_eq,List.all_eq_true,List.length_map]
  refine ⟨⟨hn,fun a ha b hb=>?_⟩,fun a ha=>?_⟩
  ·obtain ⟨p,_,rfl⟩:=List.mem_map.mp ha
   obtain ⟨q,_,rfl⟩:=List.mem_map.mp hb
   exact PU p q
  ·obtain ⟨p,_,rfl⟩:=List.mem_map.mp ha
   exact PV p
 ·have hb:=KO l (l.length - 1) (by omega)
  rw [show l.length - 1 + 1=l.length by omega,List.take_length] at hb
  have e:∀ k,k < l.length->argBest (rL (l.map jK)) k=argBest (fun i j=>af.lO (l.getD i ([],[])) (l.getD j ([],[]))) k/\argBest (fun i j=>af.lO (l.getD i ([],[])) (l.getD j ([],[]))) k < l.length:=by
   intro k
   induction k with
   | zero=>intro hk;exact ⟨rfl,hk⟩
   | succ k ih =>
    intro hk
    obtain ⟨e1,e2⟩:=ih (by omega)
    have eb:rL (l.map jK) (k + 1) (argBest (rL (l.map jK)) k)=af.lO (l.getD (k + 1) ([],[])) (l.getD (argBest (fun i j=>af.lO (l.getD i ([],[])) (l.getD j ([],[]))) k) ([],[])):=by
     rw [e1]
     unfold rL
     rw [List.getD_eq_getElem?_getD,List.getD_eq_getElem?_getD,List.getElem?_map,List.getElem?_map,List.getElem?_eq_getElem hk,List.getElem?_eq_getElem e2,List.getD_eq_getElem?_getD,List.getD_eq_getElem?_getD,List.getElem?_eq_getElem hk,List.getElem?_eq_getElem e2]
     exact PR _ _
    refine ⟨?_,?_⟩
    ·show (if rL (l.map jK) (k + 1) (argBest (rL (l.map jK)) k)=true then k + 1 else argBest (rL (l.map jK)) k)=if _=true then k + 1 else _
     rw [eb,e1]
    ·show (if _=true then k + 1 else _) < l.length
     split
     ·exact hk
     ·exact e2
  unfold mC
  rw [List.length_map,(e (l.length - 1) (by omega)).1,List.getElem?_map,hb]
  rfl
end L4
namespace L4
open PySem PySem.Spec L2
section
variable {K:PySem.W.Frag}
end
end L4
namespace L4
open PySem PySem.Spec L2
section
variable {K:PySem.W.Frag}
end
section
variable {st:Store} {Q:D->Store->Prop} {i:Nat}
end
end L4
namespace L4
open PySem PySem.Spec L2
section
variable {K:PySem.W.Frag}
end
section
variable {st:Store} {Q:D->Store->Prop} {δ:au}
end
end L4
namespace L4
open PySem PySem.Spec L2
section
variable {K:PySem.W.Frag}
def qA:au->Dm Fl:=fun _ _=>none
theorem PY:nI K pN qA:=by
 intro ρ σ H δ st fl st' E l rs e q
 cases e
end
section
variable {st:Store} {Q:D->Store->Prop}
end
end L4
namespace L4
open PySem PySem.Spec L2
section
variable {K:PySem.W.Frag}
end
section
variable {st:Store} {δ:au}
end
end L4
namespace L4
open PySem PySem.Spec L2
section
variable {K:PySem.W.Frag}
end
end L4
namespace L4
open PySem PySem.Spec L2
section
variable {K:PySem.W.Frag}
end
end L4
namespace L4
open PySem PySem.Spec L2
section
variable {K:PySem.W.Frag}
def oV:D->D->Dm D
 | .tup ds,.int k,st=>if 0 < ds.length/\ds.length<=100/\0<=k/\k<=1000 then some (.tup (List.replicate k.toNat ds).flatten,st) else none
 | _,_,_=>none
theorem PZ:lA K (tf K) oV:=by
 intro ρ H st x y a c b st' Q l rx ry e q
 unfold oV at e
 split at e
 ·next ds k kK =>
  split at e
  ·next hk =>
   cases e
   cases rx with
   | tup s r =>
    cases ry
    refine ⟨_,_,_,rfl,rfl,s,by rw [r.length];exact hk.1,by rw [r.length];exact hk.2.1,hk.2.2.1,hk.2.2.2,?_⟩
    exact got l (r.flat _) q
  ·cases e
 ·cases e
end
section
variable {st:Store} {Q:D->Store->Prop}
theorem P0 {ds:List D} {k:Int}:Wp (oV (.tup ds) (.int k) st) Q↔(0 < ds.length/\ds.length<=100/\0<=k/\k<=1000)/\Q (.tup (List.replicate k.toNat ds).flatten) st:=by
 show Wp (if 0 < ds.length/\ds.length<=100/\0<=k/\k<=1000 then some (D.tup (List.replicate k.toNat ds).flatten,st) else none) Q↔_
 by_cases h:0 < ds.length/\ds.length<=100/\0<=k/\k<=1000
 ·rw [if_pos h,bD];exact ⟨fun q=>⟨h,q⟩,fun q=>q.2⟩
 ·rw [if_neg h];exact ⟨fun q=>(fu.mp q).elim,fun q=>absurd q.1 h⟩
end
end L4
namespace L4
open PySem PySem.Spec L2
section
variable {K:PySem.W.Frag}
end
end L4
namespace L4
open PySem PySem.Spec L2
section
variable {K:PySem.W.Frag}
def ni:D->D->Dm D:=rX (fun i j=>decide (j≠0/\j.natAbs.log2 < 9000)) fun i j=>.int (i.fdiv j)
theorem P1:lA K (rI tj fun i j=>.int (i.fdiv j)) ni:=xR (fun i j h=>of_decide_eq_true (p:=j≠0/\j.natAbs.log2 < 9000) h) fun _ _ _ _=>.int _
end
section
variable {st:Store} {Q:D->Store->Prop}
theorem P4 {i j:Int}:Wp (ni (.int i) (.int j) st) Q↔(j≠0/\j.natAbs.log2 < 9000)/\Q (.int (i.fdiv j)) st:=by unfold ni;rw [xY,decide_eq_true_eq]
end
end L4
namespace L4
open PySem PySem.Spec L2
def b9 (i j:Int):Bool:=(decide (-18446744073709551616 < i/\i < 18446744073709551616) || decide (-18446744073709551616 < j/\j < 18446744073709551616)) || (decide (Builtin.Int.intBits i<=60000000) && decide (Builtin.Int.intBits j<=60000000))
def cf:D->D->Dm D:=rX b9 fun i j=>.int (i * j)
section
variable {K:PySem.W.Frag}
theorem mj:lA K (rI oH fun i j=>.int (i * j)) cf:=xR (fun i j h=>by
 unfold b9 at h
 rw [Bool.or_eq_true,Bool.or_eq_true,Bool.and_eq_true,decide_eq_true_eq,decide_eq_true_eq,decide_eq_true_eq,decide_eq_true_eq] at h
 exact h) fun _ _ _ _=>.int _
end
section
variable {st:Store} {Q:D->Store->Prop}
theorem Ds {i j:Int}:Wp (cf (.int i) (.int j) st) Q↔b9 i j=true/\Q (.int (i * j)) st:=by
 unfold cf;rw [xY]
theorem P5 {i j:Int} (h:i.natAbs < 18446744073709551616):b9 i j=true:=by
 unfold b9
 rw [decide_eq_true (show -18446744073709551616 < i/\i < 18446744073709551616 by omega)]
 rfl
theorem GI {i j:Int} {k:Nat} (hk:k<=60000000) (h:i.natAbs < P2 k) (h2:j.natAbs < P2 k):b9 i j=true:=by
 replace h:=tm h hk
 replace h2:=tm h2 hk
 unfold b9
 rw [decide_eq_true h,decide_eq_true h2]
 simp
end
end L4
namespace My
local macro_rules | `(tactic| kspl_open $h)=>`(tactic| (refine L4.b8 ?_;intro _ $h;set_option simprocs false in simp only [L4.bX]))
local macro_rules | `(tactic| w_how)=>`(tactic| set_option simprocs false in simp only [L4.bX])
open PySem L2 L4
def top (i:Nat):Stmt:=PySem.Challenge.pw_shearfloor_k22_led_by_tables.main.body.getD i (.Pass ⟨0,0,0,0⟩)
structure Txt (mg:Str->Option Value):Prop where
 lb:mg "enumerate" = none
 uh:mg "int" = none
 cw:mg "len" = none
 dE:mg "list" = none
 AB:mg "max" = none
 qB:mg "min" = none
 aY:mg "range" = none
 qC:mg "repr" = none
 oq:mg "reversed" = none
 bG:mg "tuple" = none
section
variable {P:Program} {w:World} {K:PySem.W.Frag} {mg:Str->Option Value} {base:Heap}
def Dt:au->Dm Fl :=
 (aF (aM (aA cV (aA kG (fC (.int 7901)) (ag 1)) (fC (.int 24697))) (hName 2))
 (aF (jH (aP (aA xS (ag 1) (aR dA (ae (ag 0) ah)))) (aM (aA fm (ag 0) (ag 1)) (hName 2)) (jH (aP (aA zR (aR dA (ae (ag 0) ah)) (fC (.int 0)))) (aM (aA cV (aA kG (aA jI (aA fm (ag 0) (aA jI (ag 1) (aR dA (ae (ag 0) ah)))) (fC (.int 2147483629))) (fC (.int 31))) (aA kG (fC (.int 7901)) (ag 1))) (hName 2)) b6))
 (aF (aM (fC (.int 0)) (hName 3))
 (aF (jH (aP (aA Ge (ag 2) (aA qj (fC (.int 10)) (fC (.int 18))))) (aM (ag 2) (hName 3)) b6)
 (a7 (eD (ae (ag 3) (ae (aA cV (aA jI (aA qj (aA cV (aA kG (aA jI (ag 2) (fC (.int 2147483629))) (fC (.int 48271))) (aA kG (fC (.int 40692)) (ag 1))) (fC (.int 5))) (fC (.int 2147483629))) (fC (.int 1))) ah))))))))
def AE:List D->Dm D:=eA 4 Dt
def AF:Stmt:=top 43
theorem x5:az ["_law_script","_law_k","_law_cell","_law_own"] ["_law_script","_law_k"] (av AF):=⟨rfl,rfl,rfl,by decide +kernel,rfl,by decide +kernel,by decide +kernel⟩
theorem P6 {f:Addr} {fd:FuncData} (D:Def K mg "_law_feed" AF ["_law_script","_law_k"] f fd) (T:Txt mg)  :aD P w K mg base bh 1 f fd ["_law_script","_law_k"] (bj K 2 AE):=by
 refine D.F.ok x5 (fun vs H Q E h=>h.1) (fun cdv A outer s H vs Q E hr h=>?_)
 have hu:=hr.units
 have hu1:=e8 hr
 refine ⟨_,(@bx _ _ _ _ _ (@cq (i:=2) _ _ _ _ _ _ x5.nd rfl (by first | exact Or.inl rfl | exact Or.inr rfl) (bC jZ (bC qK aI (pv 1)) aI) (by rfl) (by first | exact .inl rfl | exact .inr rfl | assumption))
  (@bx _ _ _ _ _ (@kz _ _ _ _ _ _ _ _ (iA Cr (pv 1) (j5 lu (by rfl) T.cw lx (@ao _ _ _ _ _ (pv 0) ax (by rfl))) (aS _)) (@bA _ _ _ (@cq (i:=2) _ _ _ _ _ _ x5.nd rfl (by first | exact Or.inl rfl | exact Or.inr rfl) (@bE _ _ _ _ _ _ _ mB (pv 0) (pv 1) (fun _ _=>rfl)) (by rfl) (by first | exact .inl rfl | exact .inr rfl | assumption))) (@bA _ _ _ (@kz _ _ _ _ _ _ _ _ (iA EZ (j5 lu (by rfl) T.cw lx (@ao _ _ _ _ _ (pv 0) ax (by rfl))) aI (aS _)) (@bA _ _ _ (@cq (i:=2) _ _ _ _ _ _ x5.nd rfl (by first | exact Or.inl rfl | exact Or.inr rfl) (bC jZ (bC qK (bC pq (@bE _ _ _ _ _ _ _ mB (pv 0) (bC pq (pv 1) (j5 lu (by rfl) T.cw lx (@ao _ _ _ _ _ (pv 0) ax (by rfl)))) (fun _ _=>rfl)) aI) aI) (bC qK aI (pv 1))) (by rfl) (by first | exact .inl rfl | exact .inr rfl | assumption))) lr)))
  (@bx _ _ _ _ _ (@cq (i:=3) _ _ _ _ _ _ x5.nd rfl (by first | exact Or.inl rfl | exact Or.inr rfl) aI (by rfl) (by first | exact .inl rfl | exact .inr rfl | assumption))
  (@bx _ _ _ _ _ (@kz _ _ _ _ _ _ _ _ (iA yJ (pv 2) (bC HA aI aI) (aS _)) (@bA _ _ _ (@cq (i:=3) _ _ _ _ _ _ x5.nd rfl (by first | exact Or.inl rfl | exact Or.inr rfl) (pv 2) (by rfl) (by first | exact .inl rfl | exact .inr rfl | assumption))) lr)
  (@bA _ _ _ (@dr _ _ _ _ (@ml _ _ _ _ (@ao _ _ _ _ _ (pv 3) (@ao _ _ _ _ _ (bC jZ (bC pq (bC HA (bC jZ (bC qK (bC pq (pv 2) aI) aI) (bC qK aI (pv 1))) aI) aI) aI) ax (by rfl)) (by rfl))))))))),?_⟩
 exact ft (b:=Dt) (bz (bQ (aB j6 (aB qV (aJ _) (ai 1)) (aJ _)) (a5 2))
  (bz (kJ (gN (aB Dc (ai 1) (cv lB (aq (ai 0) ay)))) (bQ (aB mF (ai 0) (ai 1)) (a5 2)) (kJ (gN (aB Gf (cv lB (aq (ai 0) ay)) (aJ _))) (bQ (aB j6 (aB qV (aB pF (aB mF (ai 0) (aB pF (ai 1) (cv lB (aq (ai 0) ay)))) (aJ _)) (aJ _)) (aB qV (aJ _) (ai 1))) (a5 2)) lC))
  (bz (bQ (aJ _) (a5 3))
  (bz (kJ (gN (aB zS (ai 2) (aB J9 (aJ _) (aJ _)))) (bQ (ai 2) (a5 3)) lC)
  (du (mr (aq (ai 3) (aq (aB j6 (aB pF (aB J9 (aB j6 (aB qV (aB pF (ai 2) (aJ _)) (aJ _)) (aB qV (aJ _) (ai 1))) (aJ _)) (aJ _)) (aJ _)) ay)))))))) rfl h
def Du:au->Dm Fl :=
 (aF (jH (aP (aA zR (aA fm (ag 0) (fC (.int 0))) (fC (.int 0)))) (aF (aM (aA jI (aA fm (ag 0) (fC (.int 0))) (ag 1)) (hName 2))
 (aF (aM (aA nT (aA fm (ag 0) (fC (.int 0))) (ag 1)) (hSub (ag 0) (fC (.int 0))))
 (a7 (ag 2)))) b6)
 (aF (aM (aA jI (aA kG (aA fm (ag 0) (fC (.int 1))) (fC (.int 48271))) (fC (.int 2147483647))) (hName 3))
 (aF (aM (aA cV (aA jI (aA cV (aA kG (ag 3) (fC (.int 40692))) (fC (.int 30103))) (fC (.int 2147483399))) (fC (.int 1))) (hSub (ag 0) (fC (.int 1))))
 (a7 (aA jI (aA nT (aA cV (aA kG (ag 3) (fC (.int 2147483647))) (aA fm (ag 0) (fC (.int 1)))) (fC (.int 8191))) (ag 1))))))
def jL:List D->Dm D:=eA 4 Du
def se:Stmt:=top 44
theorem GJ:az ["_law_feed_here","_law_many","_law_digit","_law_one"] ["_law_feed_here","_law_many"] (av se):=⟨rfl,rfl,rfl,by decide +kernel,rfl,by decide +kernel,by decide +kernel⟩
theorem P7 {f:Addr} {fd:FuncData} (D:Def K mg "_law_take" se ["_law_feed_here","_law_many"] f fd) (T:Txt mg)  :aD P w K mg base bh 1 f fd ["_law_feed_here","_law_many"] (bj K 2 jL):=by
 refine D.F.ok GJ (fun vs H Q E h=>h.1) (fun cdv A outer s H vs Q E hr h=>?_)
 have hu:=hr.units
 have hu1:=e8 hr
 refine ⟨_,(@bx _ _ _ _ _ (@kz _ _ _ _ _ _ _ _ (iA EZ (@bE _ _ _ _ _ _ _ mB (pv 0) aI (fun _ _=>rfl)) aI (aS _)) (@bx _ _ _ _ _ (@cq (i:=2) _ _ _ _ _ _ GJ.nd rfl (by first | exact Or.inl rfl | exact Or.inr rfl) (bC pq (@bE _ _ _ _ _ _ _ mB (pv 0) aI (fun _ _=>rfl)) (pv 1)) (by rfl) (by first | exact .inl rfl | exact .inr rfl | assumption))
  (@bx _ _ _ _ _ (rq (bC Hz (@bE _ _ _ _ _ _ _ mB (pv 0) aI (fun _ _=>rfl)) (pv 1)) (xx (pv 0) aI xE))
  (@bA _ _ _ (@dr _ _ _ _ (pv 2))))) lr)
  (@bx _ _ _ _ _ (@cq (i:=3) _ _ _ _ _ _ GJ.nd rfl (by first | exact Or.inl rfl | exact Or.inr rfl) (bC pq (bC qK (@bE _ _ _ _ _ _ _ mB (pv 0) aI (fun _ _=>rfl)) aI) aI) (by rfl) (by first | exact .inl rfl | exact .inr rfl | assumption))
  (@bx _ _ _ _ _ (rq (bC jZ (bC pq (bC jZ (bC qK (pv 3) aI) aI) aI) aI) (xx (pv 0) aI xE))
  (@bA _ _ _ (@dr _ _ _ _ (bC pq (bC Hz (bC jZ (bC qK (pv 3) aI) (@bE _ _ _ _ _ _ _ mB (pv 0) aI (fun _ _=>rfl))) aI) (pv 1))))))),?_⟩
 exact ft (b:=Du) (bz (kJ (gN (aB Gf (aB mF (ai 0) (aJ _)) (aJ _))) (bz (bQ (aB pF (aB mF (ai 0) (aJ _)) (ai 1)) (a5 2))
  (bz (bQ (aB J8 (aB mF (ai 0) (aJ _)) (ai 1)) (xW (ai 0) (aJ _)))
  (du (ai 2)))) lC)
  (bz (bQ (aB pF (aB qV (aB mF (ai 0) (aJ _)) (aJ _)) (aJ _)) (a5 3))
  (bz (bQ (aB j6 (aB pF (aB j6 (aB qV (ai 3) (aJ _)) (aJ _)) (aJ _)) (aJ _)) (xW (ai 0) (aJ _)))
  (du (aB pF (aB J8 (aB j6 (aB qV (ai 3) (aJ _)) (aB mF (ai 0) (aJ _))) (aJ _)) (ai 1)))))) rfl h
def Dw:au->Dm Fl :=
 (aF (aM (eD ah) (hName 3))
 (aF (dC (bS (ae (aR jL (ae (ag 0) (ae (aA cV (ag 1) (fC (.int 1))) ah))) ah)) (hName 4) (jH (aP (aA (kr false) (aR jL (ae (ag 0) (ae (fC (.int 2)) ah))) (fC (.int 0)))) (iN (n5 "list" dh (ag 3) (ae (bB (ae (fC (.str "t")) (ae (aA cV (fC (.int 1)) (aR jL (ae (ag 0) (ae (fC (.int 3)) ah)))) ah))) ah))) (aF (aM (aA cV (fC (.int 1)) (aR jL (ae (ag 0) (ae (ag 2) ah)))) (hName 4))
 (iN (n5 "list" dh (ag 3) (ae (bB (ae (fC (.str "s")) (ae (aA fm (eD (ae (ag 4) (ae (aA lK (fC (.int 0)) (ag 4)) ah))) (aR jL (ae (ag 0) (ae (fC (.int 2)) ah)))) ah))) ah))))))
 (a7 (aR bM (ae (ag 3) ah)))))
def AG:List D->Dm D:=eA 5 Dw
def AH:Stmt:=top 48
theorem Dx:az ["_law_feed_here","_law_most","_law_great","_law_found","_law_k"] ["_law_feed_here","_law_most","_law_great"] (av AH):=⟨rfl,rfl,rfl,by decide +kernel,rfl,by decide +kernel,by decide +kernel⟩
theorem P8 {f:Addr} {fd:FuncData} (D:Def K mg "_law_word" AH ["_law_feed_here","_law_most","_law_great"] f fd) (T:Txt mg)  {aW:Addr} {aX:FuncData} (aj:Def K mg "_law_take" se ["_law_feed_here","_law_many"] aW aX) (aL:aD P w K mg base bh 1 aW aX ["_law_feed_here","_law_many"] (bj K 2 jL)):aD P w K mg base bh 2 f fd ["_law_feed_here","_law_most","_law_great"] (bj K 3 AG):=by
 refine D.F.ok Dx (fun vs H Q E h=>h.1) (fun cdv A outer s H vs Q E hr h=>?_)
 have hu:=hr.units
 have hu1:=e8 hr
 refine ⟨_,(@bx _ _ _ _ _ (@cq (i:=3) _ _ _ _ _ _ Dx.nd rfl (by first | exact Or.inl rfl | exact Or.inr rfl) (@ml _ _ _ _ ax) (by rfl) (by first | exact .inl rfl | exact .inr rfl | assumption))
  (@bx _ _ _ _ _ (@l9 _ _ _ _ _ _ _ _ PassesOwn.never rfl (nZ rfl T.aY (@ao _ _ _ _ _ (bY aL (hr.mono (by decide)) rfl aj.m aj.F.kp aj.b .nil aC (@ao _ _ _ _ _ (pv 0) (@ao _ _ _ _ _ (bC jZ (pv 1) aI) ax (by rfl)) (by rfl))) ax (by rfl))) (eo (i:=4) Dx.nd rfl (by first | exact Or.inl rfl | exact Or.inr rfl)) (@bA _ _ _ (@kz _ _ _ _ _ _ _ _ (iA nD (bY aL (hr.mono (by decide)) rfl aj.m aj.F.kp aj.b .nil aC (@ao _ _ _ _ _ (pv 0) (@ao _ _ _ _ _ aI ax (by rfl)) (by rfl))) aI (aS _)) (@bA _ _ _ (sC (qN PySem.F.plainAttrs_list PySem.F.slot_list_append PySem.F.type_list_append sQ (pv 3) (@ao _ _ _ _ _ (@eB _ _ _ _ _ (@ao _ _ _ _ _ l8 (@ao _ _ _ _ _ (bC jZ aI (bY aL (hr.mono (by decide)) rfl aj.m aj.F.kp aj.b .nil aC (@ao _ _ _ _ _ (pv 0) (@ao _ _ _ _ _ aI ax (by rfl)) (by rfl)))) ax (by rfl)) (by rfl))) ax (by rfl))))) (@bx _ _ _ _ _ (@cq (i:=4) _ _ _ _ _ _ Dx.nd rfl (by first | exact Or.inl rfl | exact Or.inr rfl) (bC jZ aI (bY aL (hr.mono (by decide)) rfl aj.m aj.F.kp aj.b .nil aC (@ao _ _ _ _ _ (pv 0) (@ao _ _ _ _ _ (pv 2) ax (by rfl)) (by rfl)))) (by rfl) (by first | exact .inl rfl | exact .inr rfl | assumption))
  (@bA _ _ _ (sC (qN PySem.F.plainAttrs_list PySem.F.slot_list_append PySem.F.type_list_append sQ (pv 3) (@ao _ _ _ _ _ (@eB _ _ _ _ _ (@ao _ _ _ _ _ l8 (@ao _ _ _ _ _ (@bE _ _ _ _ _ _ _ mB (@ml _ _ _ _ (@ao _ _ _ _ _ (pv 4) (@ao _ _ _ _ _ (bC xB aI (pv 4)) ax (by rfl)) (by rfl))) (bY aL (hr.mono (by decide)) rfl aj.m aj.F.kp aj.b .nil aC (@ao _ _ _ _ _ (pv 0) (@ao _ _ _ _ _ aI ax (by rfl)) (by rfl))) (fun _ _=>rfl)) ax (by rfl)) (by rfl))) ax (by rfl)))))))) (by intro _;rfl))
  (@bA _ _ _ (@dr _ _ _ _ (fI nE (by rfl) T.bG mN (@ao _ _ _ _ _ (pv 3) ax (by rfl))))))),?_⟩
 exact ft (b:=Dw) (bz (bQ (mr ay) (a5 3))
  (bz (mf (n8 (aq (bZ (F:=jL) (aq (ai 0) (aq (aB j6 (ai 1) (aJ _)) ay)) (aV (aV (fun _ _ _ _ h=>b5 h)))) ay)) (a5 4) (kJ (gN (aB nH (bZ (F:=jL) (aq (ai 0) (aq (aJ _) ay)) (aV (aV (fun _ _ _ _ h=>b5 h)))) (aJ _))) (tZ (pf tU (ai 3) (aq (eC (aq (md _) (aq (aB j6 (aJ _) (bZ (F:=jL) (aq (ai 0) (aq (aJ _) ay)) (aV (aV (fun _ _ _ _ h=>b5 h))))) ay))) ay))) (bz (bQ (aB j6 (aJ _) (bZ (F:=jL) (aq (ai 0) (aq (ai 2) ay)) (aV (aV (fun _ _ _ _ h=>b5 h))))) (a5 4))
  (tZ (pf tU (ai 3) (aq (eC (aq (md _) (aq (aB mF (mr (aq (ai 4) (aq (aB xT (aJ _) (ai 4)) ay))) (bZ (F:=jL) (aq (ai 0) (aq (aJ _) ay)) (aV (aV (fun _ _ _ _ h=>b5 h))))) ay))) ay))))))
  (du (cv mY (aq (ai 3) ay))))) rfl h
def Dy:au->Dm Fl :=
 (aF (aM (aR jL (ae (ag 0) (ae (fC (.int 4)) ah))) (hName 2))
 (aF (aM (aR jL (ae (ag 0) (ae (aA cV (aR dA (ae (ag 1) ah)) (fC (.int 1))) ah))) (hName 3))
 (aF (aM (aA cV (fC (.int 1)) (aR jL (ae (ag 0) (ae (fC (.int 9)) ah)))) (hName 4))
 (aF (aM (aA fm (eD (ae (bB (ae (bB (ae (fC (.str "t")) (ae (fC (.int 1)) ah))) (ae (bB (ae (fC (.str "t")) (ae (fC (.int 3)) ah))) ah))) (ae (bB (ae (bB (ae (fC (.str "s")) (ae (ag 4) ah))) (ae (bB (ae (fC (.str "s")) (ae (aA lK (fC (.int 0)) (ag 4)) ah))) ah))) (ae (aA oV (bB (ae (bB (ae (fC (.str "s")) (ae (fC (.int 1)) ah))) (ae (bB (ae (fC (.str "t")) (ae (fC (.int 1)) ah))) ah))) (fC (.int 6))) (ae (bB (ae (bB (ae (fC (.str "t")) (ae (fC (.int 2)) ah))) (ae (bB (ae (fC (.str "t")) (ae (fC (.int 2)) ah))) ah))) ah))))) (ag 2)) (hName 5))
 (a7 (aA iB (aA iB (vC qk (ag 1) jh (lQ (ag 3))) (ag 5)) (vC qk (ag 1) (lQ (ag 3)) jh)))))))
def AI:List D->Dm D:=eA 6 Dy
def AJ:Stmt:=top 58
theorem AK:az ["_law_feed_here","_law_word_here","_law_form_here","_law_at","_law_k","_law_more"] ["_law_feed_here","_law_word_here"] (av AJ):=⟨rfl,rfl,rfl,by decide +kernel,rfl,by decide +kernel,by decide +kernel⟩
theorem P9 {f:Addr} {fd:FuncData} (D:Def K mg "_law_longer" AJ ["_law_feed_here","_law_word_here"] f fd) (T:Txt mg)  {aW:Addr} {aX:FuncData} (aj:Def K mg "_law_take" se ["_law_feed_here","_law_many"] aW aX) (aL:aD P w K mg base bh 1 aW aX ["_law_feed_here","_law_many"] (bj K 2 jL)):aD P w K mg base bh 2 f fd ["_law_feed_here","_law_word_here"] (bj K 2 AI):=by
 refine D.F.ok AK (fun vs H Q E h=>h.1) (fun cdv A outer s H vs Q E hr h=>?_)
 have hu:=hr.units
 have hu1:=e8 hr
 refine ⟨_,(@bx _ _ _ _ _ (@cq (i:=2) _ _ _ _ _ _ AK.nd rfl (by first | exact Or.inl rfl | exact Or.inr rfl) (bY aL (hr.mono (by decide)) rfl aj.m aj.F.kp aj.b .nil aC (@ao _ _ _ _ _ (pv 0) (@ao _ _ _ _ _ aI ax (by rfl)) (by rfl))) (by rfl) (by first | exact .inl rfl | exact .inr rfl | assumption))
  (@bx _ _ _ _ _ (@cq (i:=3) _ _ _ _ _ _ AK.nd rfl (by first | exact Or.inl rfl | exact Or.inr rfl) (bY aL (hr.mono (by decide)) rfl aj.m aj.F.kp aj.b .nil aC (@ao _ _ _ _ _ (pv 0) (@ao _ _ _ _ _ (bC jZ (j5 lu (by rfl) T.cw lx (@ao _ _ _ _ _ (pv 1) ax (by rfl))) aI) ax (by rfl)) (by rfl))) (by rfl) (by first | exact .inl rfl | exact .inr rfl | assumption))
  (@bx _ _ _ _ _ (@cq (i:=4) _ _ _ _ _ _ AK.nd rfl (by first | exact Or.inl rfl | exact Or.inr rfl) (bC jZ aI (bY aL (hr.mono (by decide)) rfl aj.m aj.F.kp aj.b .nil aC (@ao _ _ _ _ _ (pv 0) (@ao _ _ _ _ _ aI ax (by rfl)) (by rfl)))) (by rfl) (by first | exact .inl rfl | exact .inr rfl | assumption))
  (@bx _ _ _ _ _ (@cq (i:=5) _ _ _ _ _ _ AK.nd rfl (by first | exact Or.inl rfl | exact Or.inr rfl) (@bE _ _ _ _ _ _ _ mB (@ml _ _ _ _ (@ao _ _ _ _ _ (@eB _ _ _ _ _ (@ao _ _ _ _ _ (@eB _ _ _ _ _ (@ao _ _ _ _ _ l8 (@ao _ _ _ _ _ aI ax (by rfl)) (by rfl))) (@ao _ _ _ _ _ (@eB _ _ _ _ _ (@ao _ _ _ _ _ l8 (@ao _ _ _ _ _ aI ax (by rfl)) (by rfl))) ax (by rfl)) (by rfl))) (@ao _ _ _ _ _ (@eB _ _ _ _ _ (@ao _ _ _ _ _ (@eB _ _ _ _ _ (@ao _ _ _ _ _ l8 (@ao _ _ _ _ _ (pv 4) ax (by rfl)) (by rfl))) (@ao _ _ _ _ _ (@eB _ _ _ _ _ (@ao _ _ _ _ _ l8 (@ao _ _ _ _ _ (bC xB aI (pv 4)) ax (by rfl)) (by rfl))) ax (by rfl)) (by rfl))) (@ao _ _ _ _ _ (bC Nf (@eB _ _ _ _ _ (@ao _ _ _ _ _ (@eB _ _ _ _ _ (@ao _ _ _ _ _ l8 (@ao _ _ _ _ _ aI ax (by rfl)) (by rfl))) (@ao _ _ _ _ _ (@eB _ _ _ _ _ (@ao _ _ _ _ _ l8 (@ao _ _ _ _ _ aI ax (by rfl)) (by rfl))) ax (by rfl)) (by rfl))) aI) (@ao _ _ _ _ _ (@eB _ _ _ _ _ (@ao _ _ _ _ _ (@eB _ _ _ _ _ (@ao _ _ _ _ _ l8 (@ao _ _ _ _ _ aI ax (by rfl)) (by rfl))) (@ao _ _ _ _ _ (@eB _ _ _ _ _ (@ao _ _ _ _ _ l8 (@ao _ _ _ _ _ aI ax (by rfl)) (by rfl))) ax (by rfl)) (by rfl))) ax (by rfl)) (by rfl)) (by rfl)) (by rfl))) (pv 2) (fun _ _=>rfl)) (by rfl) (by first | exact .inl rfl | exact .inr rfl | assumption))
  (@bA _ _ _ (@dr _ _ _ _ (bC rD (bC rD (Cw Fp (pv 1) Ct (Cu (pv 3))) (pv 5)) (Cw Fp (pv 1) (Cu (pv 3)) Ct)))))))),?_⟩
 exact ft (b:=Dy) (bz (bQ (bZ (F:=jL) (aq (ai 0) (aq (aJ _) ay)) (aV (aV (fun _ _ _ _ h=>b5 h)))) (a5 2))
  (bz (bQ (bZ (F:=jL) (aq (ai 0) (aq (aB j6 (cv lB (aq (ai 1) ay)) (aJ _)) ay)) (aV (aV (fun _ _ _ _ h=>b5 h)))) (a5 3))
  (bz (bQ (aB j6 (aJ _) (bZ (F:=jL) (aq (ai 0) (aq (aJ _) ay)) (aV (aV (fun _ _ _ _ h=>b5 h))))) (a5 4))
  (bz (bQ (aB mF (mr (aq (eC (aq (eC (aq (md _) (aq (aJ _) ay))) (aq (eC (aq (md _) (aq (aJ _) ay))) ay))) (aq (eC (aq (eC (aq (md _) (aq (ai 4) ay))) (aq (eC (aq (md _) (aq (aB xT (aJ _) (ai 4)) ay))) ay))) (aq (aB PZ (eC (aq (eC (aq (md _) (aq (aJ _) ay))) (aq (eC (aq (md _) (aq (aJ _) ay))) ay))) (aJ _)) (aq (eC (aq (eC (aq (md _) (aq (aJ _) ay))) (aq (eC (aq (md _) (aq (aJ _) ay))) ay))) ay))))) (ai 2)) (a5 5))
  (du (aB rZ (aB rZ (C9 Gg (ai 1) C7 (C8 (ai 3))) (ai 5)) (C9 Gg (ai 1) (C8 (ai 3)) C7))))))) rfl h
def Dz:au->Dm Fl :=
 (a7 (aR bM (ae (di (er (ag 0)) 1 [1] (hName 0) d6 (aR bM (ae (di (bS (ae (aR dA (ae (ag 1) ah)) ah)) 1 [0,1] (hName 0) d6 (aA aK (ag 2) (aA aK (ag 1) (n5 "tuple" gP (ag 2) (ae (ag 0) ah))))) ah))) ah)))
def ui:List D->Dm D:=eA 2 Dz
def x6:Stmt:=top 56
theorem Qa:az ["_law_floor_here","_law_p"] ["_law_floor_here","_law_p"] (av x6):=⟨rfl,rfl,rfl,by decide +kernel,rfl,by decide +kernel,by decide +kernel⟩
theorem Qb {f:Addr} {fd:FuncData} (D:Def K mg "_law_anew" x6 ["_law_floor_here","_law_p"] f fd) (T:Txt mg)  :aD P w K mg base bh 1 f fd ["_law_floor_here","_law_p"] (bj K 2 ui):=by
 refine D.F.ok Qa (fun vs H Q E h=>h.1) (fun cdv A outer s H vs Q E hr h=>?_)
 have hu:=hr.units
 have hu1:=e8 hr
 refine ⟨_,(@bA _ _ _ (@dr _ _ _ _ (fI nE (by rfl) T.bG mN (@ao _ _ _ _ _ (p7 (own:=["_law_turning_here"]) (fr:=["_law_p"]) (js:=[1]) rfl ⟨⟨rfl,by decide +kernel,by decide +kernel,by dsimp only [gJ,aU,Cx.nM,Cx.wish,PyProof.Rows.envOfC,compEnvC,relabel,Env.kindOf];decide +kernel,by decide +kernel⟩,rfl⟩ (o3 (pv 0)) (fun _ _ _ _ _=>(eo (i:=0) (show ((["_law_turning_here"]:List Str) ++ (["_law_p"]:List Str)).Nodup by decide +kernel) rfl (by first | exact Or.inl rfl | exact Or.inr rfl))) (fun _ _ _ _ _=>p4) (fun _ _ _ _ _=>(fI (IY (K:=K) rfl) (by rfl) T.bG mN (@ao _ _ _ _ _ (p7 (own:=["_law_s"]) (fr:=["_law_turning_here","_law_p"]) (js:=[0,1]) rfl ⟨Kk ⟨rfl,by decide +kernel,by decide +kernel,by dsimp only [gJ,Cx.nM,Cx.wish,PyProof.Rows.envOfC];decide +kernel,by decide +kernel⟩,rfl⟩ (nZ rfl T.aY (@ao _ _ _ _ _ (j5 (MG (K:=K) rfl) (by rfl) T.cw lx (@ao _ _ _ _ _ (pv 1) ax (by rfl))) ax (by rfl))) (fun _ _ _ _ _=>(eo (i:=0) (show ((["_law_s"]:List Str) ++ (["_law_turning_here","_law_p"]:List Str)).Nodup by decide +kernel) rfl (by first | exact Or.inl rfl | exact Or.inr rfl))) (fun _ _ _ _ _=>p4) (fun _ _ _ _ _=>(@bE _ _ _ _ _ _ _ (xI (K:=K) rfl) (pv 2) (@bE _ _ _ _ _ _ _ (xI (K:=K) rfl) (pv 1) (CJ (K:=K) rfl PySem.F.plainAttrs_tuple PySem.F.slot_tuple_index PySem.F.type_tuple_index (FG (K:=K) rfl) (pv 2) (@ao _ _ _ _ _ (pv 0) ax (by rfl))) (fun _ _=>rfl)) (fun _ _=>rfl)))) ax (by rfl))))) ax (by rfl))))),?_⟩
 exact ft (b:=Dz) (du (cv mY (aq (ph (pg (ai 0)) (a5 0) qu (cv mY (aq (ph (n8 (aq (cv lB (aq (ai 1) ay)) ay)) (a5 0) qu (aB bR (ai 2) (aB bR (ai 1) (pf Gj (ai 2) (aq (ai 0) ay))))) ay))) ay))) rfl h
def DA:au->Dm Fl :=
 (aF (aM (aR dB (ae (aR gO (ae (ag 1) ah)) ah)) (hName 2))
 (aF (aM (bB ah) (hName 3))
 (aF (iO (aP (aA (gC true) (ag 2) (eD ah))) (aM (aA iB (ag 3) (bB (ae (n5 "list" kI (ag 2) (ae (aR jL (ae (ag 0) (ae (aR dA (ae (ag 2) ah)) ah))) ah)) ah))) (hName 3)))
 (a7 (ag 3)))))
def pj:List D->Dm D:=eA 4 DA
def w8:Stmt:=top 45
theorem DB:az ["_law_feed_here","_law_n","_law_left","_law_found"] ["_law_feed_here","_law_n"] (av w8):=⟨rfl,rfl,rfl,by decide +kernel,rfl,by decide +kernel,by decide +kernel⟩
theorem Qc {f:Addr} {fd:FuncData} (D:Def K mg "_law_turning" w8 ["_law_feed_here","_law_n"] f fd) (T:Txt mg)  {aW:Addr} {aX:FuncData} (aj:Def K mg "_law_take" se ["_law_feed_here","_law_many"] aW aX) (aL:aD P w K mg base bh 1 aW aX ["_law_feed_here","_law_many"] (bj K 2 jL)):aD P w K mg base bh 2 f fd ["_law_feed_here","_law_n"] (bj K 2 pj):=by
 refine D.F.ok DB (fun vs H Q E h=>h.1) (fun cdv A outer s H vs Q E hr h=>?_)
 have hu:=hr.units
 have hu1:=e8 hr
 refine ⟨_,(@bx _ _ _ _ _ (@cq (i:=2) _ _ _ _ _ _ DB.nd rfl (by first | exact Or.inl rfl | exact Or.inr rfl) (fI (qP rfl) (by rfl) T.dE o8 (@ao _ _ _ _ _ (fI CD (by rfl) T.aY qO (@ao _ _ _ _ _ (pv 1) ax (by rfl))) ax (by rfl))) (by rfl) (by first | exact .inl rfl | exact .inr rfl | assumption))
  (@bx _ _ _ _ _ (@cq (i:=3) _ _ _ _ _ _ DB.nd rfl (by first | exact Or.inl rfl | exact Or.inr rfl) (@eB _ _ _ _ _ ax) (by rfl) (by first | exact .inl rfl | exact .inr rfl | assumption))
  (@bx _ _ _ _ _ (xy PassesOwn.never (iA (uX hu) (pv 2) (@ml _ _ _ _ ax) (aS _)) (@bA _ _ _ (@cq (i:=3) _ _ _ _ _ _ DB.nd rfl (by first | exact Or.inl rfl | exact Or.inr rfl) (bC rD (pv 3) (@eB _ _ _ _ _ (@ao _ _ _ _ _ (qN PySem.F.plainAttrs_list PySem.F.slot_list_pop PySem.F.type_list_pop L6 (pv 2) (@ao _ _ _ _ _ (bY aL (hr.mono (by decide)) rfl aj.m aj.F.kp aj.b .nil aC (@ao _ _ _ _ _ (pv 0) (@ao _ _ _ _ _ (j5 lu (by rfl) T.cw lx (@ao _ _ _ _ _ (pv 2) ax (by rfl))) ax (by rfl)) (by rfl))) ax (by rfl))) ax (by rfl)))) (by rfl) (by first | exact .inl rfl | exact .inr rfl | assumption))))
  (@bA _ _ _ (@dr _ _ _ _ (pv 3)))))),?_⟩
 exact ft (b:=DA) (bz (bQ (cv qY (aq (cv Df (aq (ai 1) ay)) ay)) (a5 2))
  (bz (bQ (eC ay) (a5 3))
  (bz (xX (gN (aB (vD true) (ai 2) (mr ay))) (bQ (aB rZ (ai 3) (eC (aq (pf Ol (ai 2) (aq (bZ (F:=jL) (aq (ai 0) (aq (cv lB (aq (ai 2) ay)) ay)) (aV (aV (fun _ _ _ _ h=>b5 h)))) ay)) ay))) (a5 3)))
  (du (ai 3))))) rfl h
def DC:au->Dm Fl :=
 (aF (aM (eD (ae (fC (.int 0)) ah)) (hName 1))
 (aF (dC (bS (ae (aA cV (fC (.int 1)) (aR dA (ae (aA aK (ag 0) (fC (.int 0))) ah))) ah)) (hName 2) (dC (er (ag 0)) (hName 3) (dC (kL (aR mG (ae (ag 1) ah))) (hName 4) (jH (aP (aA (pH true) (aA aK (ag 3) (ag 4)) (ag 1))) (iN (n5 "list" dh (ag 1) (ae (aA aK (ag 3) (ag 4)) ah))) b6))))
 (a7 (ag 1))))
def sf:List D->Dm D:=eA 5 DC
def AL:Stmt:=top 46
theorem AO:az ["_law_floor_here","_law_found","_law_turn","_law_turning_here","_law_one"] ["_law_floor_here"] (av AL):=⟨rfl,rfl,rfl,by decide +kernel,rfl,by decide +kernel,by decide +kernel⟩
theorem Qd {f:Addr} {fd:FuncData} (D:Def K mg "_law_met" AL ["_law_floor_here"] f fd) (T:Txt mg)  :aD P w K mg base bh 1 f fd ["_law_floor_here"] (bj K 1 sf):=by
 refine D.F.ok AO (fun vs H Q E h=>h.1) (fun cdv A outer s H vs Q E hr h=>?_)
 have hu:=hr.units
 have hu1:=e8 hr
 refine ⟨_,(@bx _ _ _ _ _ (@cq (i:=1) _ _ _ _ _ _ AO.nd rfl (by first | exact Or.inl rfl | exact Or.inr rfl) (@ml _ _ _ _ (@ao _ _ _ _ _ aI ax (by rfl))) (by rfl) (by first | exact .inl rfl | exact .inr rfl | assumption))
  (@bx _ _ _ _ _ (@l9 _ _ _ _ _ _ _ _ PassesOwn.never rfl (nZ rfl T.aY (@ao _ _ _ _ _ (bC jZ aI (j5 lu (by rfl) T.cw lx (@ao _ _ _ _ _ (@bE _ _ _ _ _ _ _ cb (pv 0) aI (fun _ _=>rfl)) ax (by rfl)))) ax (by rfl))) (eo (i:=2) AO.nd rfl (by first | exact Or.inl rfl | exact Or.inr rfl)) (@bA _ _ _ (@l9 _ _ _ _ _ _ _ _ PassesOwn.never rfl (o3 (pv 0)) (eo (i:=3) AO.nd rfl (by first | exact Or.inl rfl | exact Or.inr rfl)) (@bA _ _ _ (@l9 _ _ _ _ _ _ _ _ PassesOwn.never rfl (EX (fI Fb (by rfl) T.dE o8 (@ao _ _ _ _ _ (pv 1) ax (by rfl)))) (eo (i:=4) AO.nd rfl (by first | exact Or.inl rfl | exact Or.inr rfl)) (@bA _ _ _ (@kz _ _ _ _ _ _ _ _ (iA Cz (@bE _ _ _ _ _ _ _ cb (pv 3) (pv 4) (fun _ _=>rfl)) (pv 1) (by with_unfolding_all rfl)) (@bA _ _ _ (sC (qN PySem.F.plainAttrs_list PySem.F.slot_list_append PySem.F.type_list_append sQ (pv 1) (@ao _ _ _ _ _ (@bE _ _ _ _ _ _ _ cb (pv 3) (pv 4) (fun _ _=>rfl)) ax (by rfl))))) lr)) (by intro _;rfl))) (by intro _;rfl))) (by intro _;rfl))
  (@bA _ _ _ (@dr _ _ _ _ (pv 1))))),?_⟩
 exact ft (b:=DC) (bz (bQ (mr (aq (aJ _) ay)) (a5 1))
  (bz (mf (n8 (aq (aB j6 (aJ _) (cv lB (aq (aB bR (ai 0) (aJ _)) ay))) ay)) (a5 2) (mf (pg (ai 0)) (a5 3) (mf (Gk (cv Gh (aq (ai 1) ay))) (a5 4) (kJ (gN (aB (zV true) (aB bR (ai 3) (ai 4)) (ai 1))) (tZ (pf tU (ai 1) (aq (aB bR (ai 3) (ai 4)) ay))) lC))))
  (du (ai 1)))) rfl h
def DE:au->Dm Fl :=
 (aF (aM (aR jL (ae (ag 0) (ae (fC (.int 6)) ah))) (hName 2))
 (aF (qm 3 4 (ae (aR mG (ae (aR pj (ae (ag 0) (ae (ag 1) ah))) ah)) (ae (aR mG (ae (aR pj (ae (ag 0) (ae (ag 1) ah))) ah)) ah)))
 (aF (jH (aP (aA (kr false) (ag 2) (fC (.int 0)))) (aM (aA mv (aR dB (ae (aR eE (ae (fC (.int 1)) (ae (ag 1) ah))) ah)) (eD (ae (fC (.int 0)) ah))) (hName 3)) b6)
 (aF (jH (aP (aA (kr false) (ag 2) (fC (.int 1)))) (qm 3 4 (ae (aR dB (ae (aR gO (ae (ag 1) ah)) ah)) (ae (aA mv (aR dB (ae (aR eE (ae (fC (.int 1)) (ae (ag 1) ah))) ah)) (eD (ae (fC (.int 0)) ah))) ah))) b6)
 (aF (jH (aP (aA (kr false) (ag 2) (fC (.int 2)))) (aF (aM (aA cV (fC (.int 1)) (aR jL (ae (ag 0) (ae (ag 1) ah)))) (hName 5))
 (aF (aM (aA mv (aA mv (aR dB (ae (aR eE (ae (fC (.int 1)) (ae (ag 5) ah))) ah)) (eD (ae (fC (.int 0)) ah))) (aR dB (ae (aR eE (ae (ag 5) (ae (ag 1) ah))) ah))) (hName 3))
 (aF (aM (vC rY (aA mv (aA mv (aA mv (eD (ae (ag 5) ah)) (aR dB (ae (aR eE (ae (fC (.int 1)) (ae (ag 5) ah))) ah))) (aR dB (ae (aR eE (ae (aA cV (ag 5) (fC (.int 1))) (ae (ag 1) ah))) ah))) (eD (ae (fC (.int 0)) ah))) jh (lQ (ag 1))) (hName 4))
 (jH (aP (aA (kr false) (ag 5) (ag 1))) (aM (aR dB (ae (aR gO (ae (ag 1) ah)) ah)) (hName 4)) b6)))) b6)
 (aF (aM (bB (ae (aR bM (ae (ag 3) ah)) (ae (aR bM (ae (ag 4) ah)) ah))) (hName 6))
 (aF (aM (di (bS (ae (ag 1) ah)) 1 [6] (hName 0) (aP (aA (pH true) (ag 0) (aR sf (ae (ag 1) ah)))) (ag 0)) (hName 7))
 (aF (iO (aP (aA (gC true) (ag 7) (eD ah))) (aF (aM (aA fm (ag 7) (fC (.int 0))) (hName 8))
 (aF (aM (bB (ae (aA fm (ag 3) (ag 8)) (ae (aA fm (ag 3) (fC (.int 0))) ah))) (lR 2 (cS (hSub (ag 3) (fC (.int 0))) (cS (hSub (ag 3) (ag 8)) mw))))
 (aF (aM (bB (ae (aR bM (ae (ag 3) ah)) (ae (aR bM (ae (ag 4) ah)) ah))) (hName 6))
 (aM (di (bS (ae (ag 1) ah)) 1 [6] (hName 0) (aP (aA (pH true) (ag 0) (aR sf (ae (ag 1) ah)))) (ag 0)) (hName 7))))))
 (a7 (ag 6))))))))))
def AQ:List D->Dm D:=eA 9 DE
def AR:Stmt:=top 47
theorem oW:az ["_law_feed_here","_law_n","_law_form_here","_law_right","_law_up","_law_wide","_law_found","_law_apart","_law_m"] ["_law_feed_here","_law_n"] (av AR):=⟨rfl,rfl,rfl,by decide +kernel,rfl,by decide +kernel,by decide +kernel⟩
theorem Qe {f:Addr} {fd:FuncData} (D:Def K mg "_law_floor" AR ["_law_feed_here","_law_n"] f fd) (T:Txt mg)  {aW:Addr} {aX:FuncData} (aj:Def K mg "_law_take" se ["_law_feed_here","_law_many"] aW aX) (aL:aD P w K mg base bh 1 aW aX ["_law_feed_here","_law_many"] (bj K 2 jL)) {a8:Addr} {a9:FuncData} (aG:Def K mg "_law_turning" w8 ["_law_feed_here","_law_n"] a8 a9) (bg:aD P w K mg base bh 2 a8 a9 ["_law_feed_here","_law_n"] (bj K 2 pj)) {jk:Addr} {jl:FuncData} (cK:Def K mg "_law_met" AL ["_law_floor_here"] jk jl) (jm:aD P w K mg base bh 1 jk jl ["_law_floor_here"] (bj K 1 sf)):aD P w K mg base bh 3 f fd ["_law_feed_here","_law_n"] (bj K 2 AQ):=by
 refine D.F.ok oW (fun vs H Q E h=>h.1) (fun cdv A outer s H vs Q E hr h=>?_)
 have hu:=hr.units
 have hu1:=e8 hr
 refine ⟨_,(@bx _ _ _ _ _ (@cq (i:=2) _ _ _ _ _ _ oW.nd rfl (by first | exact Or.inl rfl | exact Or.inr rfl) (bY aL (hr.mono (by decide)) rfl aj.m aj.F.kp aj.b .nil aC (@ao _ _ _ _ _ (pv 0) (@ao _ _ _ _ _ aI ax (by rfl)) (by rfl))) (by rfl) (by first | exact .inl rfl | exact .inr rfl | assumption))
  (@bx _ _ _ _ _ (Hu (i:=3) (j:=4) rfl oW.nd rfl rfl (by decide) rfl rfl (@ao _ _ _ _ _ (fI Fb (by rfl) T.dE o8 (@ao _ _ _ _ _ (bY bg (hr.mono (by decide)) rfl aG.m aG.F.kp aG.b .nil aC (@ao _ _ _ _ _ (pv 0) (@ao _ _ _ _ _ (pv 1) ax (by rfl)) (by rfl))) ax (by rfl))) (@ao _ _ _ _ _ (fI Fb (by rfl) T.dE o8 (@ao _ _ _ _ _ (bY bg (hr.mono (by decide)) rfl aG.m aG.F.kp aG.b .nil aC (@ao _ _ _ _ _ (pv 0) (@ao _ _ _ _ _ (pv 1) ax (by rfl)) (by rfl))) ax (by rfl))) ax (by rfl)) (by rfl)) rfl)
  (@bx _ _ _ _ _ (@kz _ _ _ _ _ _ _ _ (iA nD (pv 2) aI (aS _)) (@bA _ _ _ (@cq (i:=3) _ _ _ _ _ _ oW.nd rfl (by first | exact Or.inl rfl | exact Or.inr rfl) (bC uT (fI (qP rfl) (by rfl) T.dE o8 (@ao _ _ _ _ _ (fI xG (by rfl) T.aY qO (@ao _ _ _ _ _ aI (@ao _ _ _ _ _ (pv 1) ax (by rfl)) (by rfl))) ax (by rfl))) (@ml _ _ _ _ (@ao _ _ _ _ _ aI ax (by rfl)))) (by rfl) (by first | exact .inl rfl | exact .inr rfl | assumption))) lr)
  (@bx _ _ _ _ _ (@kz _ _ _ _ _ _ _ _ (iA nD (pv 2) aI (aS _)) (@bA _ _ _ (Hu (i:=3) (j:=4) rfl oW.nd rfl rfl (by decide) rfl rfl (@ao _ _ _ _ _ (fI (qP rfl) (by rfl) T.dE o8 (@ao _ _ _ _ _ (fI CD (by rfl) T.aY qO (@ao _ _ _ _ _ (pv 1) ax (by rfl))) ax (by rfl))) (@ao _ _ _ _ _ (bC uT (fI (qP rfl) (by rfl) T.dE o8 (@ao _ _ _ _ _ (fI xG (by rfl) T.aY qO (@ao _ _ _ _ _ aI (@ao _ _ _ _ _ (pv 1) ax (by rfl)) (by rfl))) ax (by rfl))) (@ml _ _ _ _ (@ao _ _ _ _ _ aI ax (by rfl)))) ax (by rfl)) (by rfl)) rfl)) lr)
  (@bx _ _ _ _ _ (@kz _ _ _ _ _ _ _ _ (iA nD (pv 2) aI (aS _)) (@bx _ _ _ _ _ (@cq (i:=5) _ _ _ _ _ _ oW.nd rfl (by first | exact Or.inl rfl | exact Or.inr rfl) (bC jZ aI (bY aL (hr.mono (by decide)) rfl aj.m aj.F.kp aj.b .nil aC (@ao _ _ _ _ _ (pv 0) (@ao _ _ _ _ _ (pv 1) ax (by rfl)) (by rfl)))) (by rfl) (by first | exact .inl rfl | exact .inr rfl | assumption))
  (@bx _ _ _ _ _ (@cq (i:=3) _ _ _ _ _ _ oW.nd rfl (by first | exact Or.inl rfl | exact Or.inr rfl) (bC uT (bC uT (fI (qP rfl) (by rfl) T.dE o8 (@ao _ _ _ _ _ (fI xG (by rfl) T.aY qO (@ao _ _ _ _ _ aI (@ao _ _ _ _ _ (pv 5) ax (by rfl)) (by rfl))) ax (by rfl))) (@ml _ _ _ _ (@ao _ _ _ _ _ aI ax (by rfl)))) (fI (qP rfl) (by rfl) T.dE o8 (@ao _ _ _ _ _ (fI xG (by rfl) T.aY qO (@ao _ _ _ _ _ (pv 5) (@ao _ _ _ _ _ (pv 1) ax (by rfl)) (by rfl))) ax (by rfl)))) (by rfl) (by first | exact .inl rfl | exact .inr rfl | assumption))
  (@bx _ _ _ _ _ (@cq (i:=4) _ _ _ _ _ _ oW.nd rfl (by first | exact Or.inl rfl | exact Or.inr rfl) (Cw L5 (bC uT (bC uT (bC uT (@ml _ _ _ _ (@ao _ _ _ _ _ (pv 5) ax (by rfl))) (fI (qP rfl) (by rfl) T.dE o8 (@ao _ _ _ _ _ (fI xG (by rfl) T.aY qO (@ao _ _ _ _ _ aI (@ao _ _ _ _ _ (pv 5) ax (by rfl)) (by rfl))) ax (by rfl)))) (fI (qP rfl) (by rfl) T.dE o8 (@ao _ _ _ _ _ (fI xG (by rfl) T.aY qO (@ao _ _ _ _ _ (bC jZ (pv 5) aI) (@ao _ _ _ _ _ (pv 1) ax (by rfl)) (by rfl))) ax (by rfl)))) (@ml _ _ _ _ (@ao _ _ _ _ _ aI ax (by rfl)))) Ct (Cu (pv 1))) (by rfl) (by first | exact .inl rfl | exact .inr rfl | assumption))
  (@bA _ _ _ (@kz _ _ _ _ _ _ _ _ (iA nD (pv 5) (pv 1) (aS _)) (@bA _ _ _ (@cq (i:=4) _ _ _ _ _ _ oW.nd rfl (by first | exact Or.inl rfl | exact Or.inr rfl) (fI (qP rfl) (by rfl) T.dE o8 (@ao _ _ _ _ _ (fI CD (by rfl) T.aY qO (@ao _ _ _ _ _ (pv 1) ax (by rfl))) ax (by rfl))) (by rfl) (by first | exact .inl rfl | exact .inr rfl | assumption))) lr))))) lr)
  (@bx _ _ _ _ _ (@cq (i:=6) _ _ _ _ _ _ oW.nd rfl (by first | exact Or.inl rfl | exact Or.inr rfl) (@eB _ _ _ _ _ (@ao _ _ _ _ _ (fI nE (by rfl) T.bG mN (@ao _ _ _ _ _ (pv 3) ax (by rfl))) (@ao _ _ _ _ _ (fI nE (by rfl) T.bG mN (@ao _ _ _ _ _ (pv 4) ax (by rfl))) ax (by rfl)) (by rfl))) (by rfl) (by first | exact .inl rfl | exact .inr rfl | assumption))
  (@bx _ _ _ _ _ (IH (i:=7) (own:=["_law_s"]) (fr:=["_law_found"]) (js:=[6]) rfl oW.nd rfl rfl ⟨⟨rfl,by decide +kernel,by decide +kernel,by dsimp only [gJ,aU,Cx.nM,Cx.wish,PyProof.Rows.envOfC,compEnvC,relabel,Env.kindOf];decide +kernel,by decide +kernel⟩,rfl⟩ (nZ rfl T.aY (@ao _ _ _ _ _ (pv 1) ax (by rfl))) (fun _ _ _ _ _=>(eo (i:=0) (show ((["_law_s"]:List Str) ++ (["_law_found"]:List Str)).Nodup by decide +kernel) rfl (by first | exact Or.inl rfl | exact Or.inr rfl))) (fun _ _ _ _ _=>(IB (iA (IX (K:=K) rfl) (pv 0) (bY jm (hr.mono (by decide)) rfl cK.m cK.F.kp cK.b .nil aC (@ao _ _ _ _ _ (pv 1) ax (by rfl))) (by with_unfolding_all rfl)))) (fun _ _ _ _ _=>(pv 0)))
  (@bx _ _ _ _ _ (xy PassesOwn.never (iA (uX hu) (pv 7) (@ml _ _ _ _ ax) (aS _)) (@bx _ _ _ _ _ (@cq (i:=8) _ _ _ _ _ _ oW.nd rfl (by first | exact Or.inl rfl | exact Or.inr rfl) (@bE _ _ _ _ _ _ _ mB (pv 7) aI (fun _ _=>rfl)) (by rfl) (by first | exact .inl rfl | exact .inr rfl | assumption))
  (@bx _ _ _ _ _ (rq (@eB _ _ _ _ _ (@ao _ _ _ _ _ (@bE _ _ _ _ _ _ _ mB (pv 3) (pv 8) (fun _ _=>rfl)) (@ao _ _ _ _ _ (@bE _ _ _ _ _ _ _ mB (pv 3) aI (fun _ _=>rfl)) ax (by rfl)) (by rfl))) (sF (n:=2) rfl (mz (xx (pv 3) aI xE) (mz (xx (pv 3) (pv 8) xE) sE))))
  (@bx _ _ _ _ _ (@cq (i:=6) _ _ _ _ _ _ oW.nd rfl (by first | exact Or.inl rfl | exact Or.inr rfl) (@eB _ _ _ _ _ (@ao _ _ _ _ _ (fI nE (by rfl) T.bG mN (@ao _ _ _ _ _ (pv 3) ax (by rfl))) (@ao _ _ _ _ _ (fI nE (by rfl) T.bG mN (@ao _ _ _ _ _ (pv 4) ax (by rfl))) ax (by rfl)) (by rfl))) (by rfl) (by first | exact .inl rfl | exact .inr rfl | assumption))
  (@bA _ _ _ (IH (i:=7) (own:=["_law_s"]) (fr:=["_law_found"]) (js:=[6]) rfl oW.nd rfl rfl ⟨⟨rfl,by decide +kernel,by decide +kernel,by dsimp only [gJ,aU,Cx.nM,Cx.wish,PyProof.Rows.envOfC,compEnvC,relabel,Env.kindOf];decide +kernel,by decide +kernel⟩,rfl⟩ (nZ rfl T.aY (@ao _ _ _ _ _ (pv 1) ax (by rfl))) (fun _ _ _ _ _=>(eo (i:=0) (show ((["_law_s"]:List Str) ++ (["_law_found"]:List Str)).Nodup by decide +kernel) rfl (by first | exact Or.inl rfl | exact Or.inr rfl))) (fun _ _ _ _ _=>(IB (iA (IX (K:=K) rfl) (pv 0) (bY jm (hr.mono (by decide)) rfl cK.m cK.F.kp cK.b .nil aC (@ao _ _ _ _ _ (pv 1) ax (by rfl))) (by with_unfolding_all rfl)))) (fun _ _ _ _ _=>(pv 0))))))))
  (@bA _ _ _ (@dr _ _ _ _ (pv 6))))))))))),?_⟩
 exact ft (b:=DE) (bz (bQ (bZ (F:=jL) (aq (ai 0) (aq (aJ _) ay)) (aV (aV (fun _ _ _ _ h=>b5 h)))) (a5 2))
  (bz (Kh (aq (cv Gh (aq (bZ (F:=pj) (aq (ai 0) (aq (ai 1) ay)) (aV (aV (fun _ _ _ _ h=>b5 h)))) ay)) (aq (cv Gh (aq (bZ (F:=pj) (aq (ai 0) (aq (ai 1) ay)) (aV (aV (fun _ _ _ _ h=>b5 h)))) ay)) ay)))
  (bz (kJ (gN (aB nH (ai 2) (aJ _))) (bQ (aB vG (cv qY (aq (cv xV (aq (aJ _) (aq (ai 1) ay))) ay)) (mr (aq (aJ _) ay))) (a5 3)) lC)
  (bz (kJ (gN (aB nH (ai 2) (aJ _))) (Kh (aq (cv qY (aq (cv Df (aq (ai 1) ay)) ay)) (aq (aB vG (cv qY (aq (cv xV (aq (aJ _) (aq (ai 1) ay))) ay)) (mr (aq (aJ _) ay))) ay))) lC)
  (bz (kJ (gN (aB nH (ai 2) (aJ _))) (bz (bQ (aB j6 (aJ _) (bZ (F:=jL) (aq (ai 0) (aq (ai 1) ay)) (aV (aV (fun _ _ _ _ h=>b5 h))))) (a5 5))
  (bz (bQ (aB vG (aB vG (cv qY (aq (cv xV (aq (aJ _) (aq (ai 5) ay))) ay)) (mr (aq (aJ _) ay))) (cv qY (aq (cv xV (aq (ai 5) (aq (ai 1) ay))) ay))) (a5 3))
  (bz (bQ (C9 vF (aB vG (aB vG (aB vG (mr (aq (ai 5) ay)) (cv qY (aq (cv xV (aq (aJ _) (aq (ai 5) ay))) ay))) (cv qY (aq (cv xV (aq (aB j6 (ai 5) (aJ _)) (aq (ai 1) ay))) ay))) (mr (aq (aJ _) ay))) C7 (C8 (ai 1))) (a5 4))
  (kJ (gN (aB nH (ai 5) (ai 1))) (bQ (cv qY (aq (cv Df (aq (ai 1) ay)) ay)) (a5 4)) lC)))) lC)
  (bz (bQ (eC (aq (cv mY (aq (ai 3) ay)) (aq (cv mY (aq (ai 4) ay)) ay))) (a5 6))
  (bz (bQ (ph (n8 (aq (ai 1) ay)) (a5 0) (gN (aB (zV true) (ai 0) (bZ (F:=sf) (aq (ai 1) ay) (aV (fun _ _ _ _ h=>b5 h))))) (ai 0)) (a5 7))
  (bz (xX (gN (aB (vD true) (ai 7) (mr ay))) (bz (bQ (aB mF (ai 7) (aJ _)) (a5 8))
  (bz (bQ (eC (aq (aB mF (ai 3) (ai 8)) (aq (aB mF (ai 3) (aJ _)) ay))) (tW (mI (xW (ai 3) (aJ _)) (mI (xW (ai 3) (ai 8)) tV))))
  (bz (bQ (eC (aq (cv mY (aq (ai 3) ay)) (aq (cv mY (aq (ai 4) ay)) ay))) (a5 6))
  (bQ (ph (n8 (aq (ai 1) ay)) (a5 0) (gN (aB (zV true) (ai 0) (bZ (F:=sf) (aq (ai 1) ay) (aV (fun _ _ _ _ h=>b5 h))))) (ai 0)) (a5 7))))))
  (du (ai 6)))))))))) rfl h
def DF:au->Dm Fl :=
 (aF (aM (aA cV (fC (.int 1)) (aR jL (ae (ag 0) (ae (ag 1) ah)))) (hName 2))
 (a7 (aR ui (ae (aR AQ (ae (ag 0) (ae (ag 2) ah))) (ae (aR pj (ae (ag 0) (ae (ag 2) ah))) ah)))))
def AU:List D->Dm D:=eA 3 DF
def AV:Stmt:=top 57
theorem KQ:az ["_law_feed_here","_law_most","_law_n"] ["_law_feed_here","_law_most"] (av AV):=⟨rfl,rfl,rfl,by decide +kernel,rfl,by decide +kernel,by decide +kernel⟩
theorem Qf {f:Addr} {fd:FuncData} (D:Def K mg "_law_drawn" AV ["_law_feed_here","_law_most"] f fd) (T:Txt mg)  {cY:Addr} {cZ:FuncData} (bJ:Def K mg "_law_anew" x6 ["_law_floor_here","_law_p"] cY cZ) (dF:aD P w K mg base bh 1 cY cZ ["_law_floor_here","_law_p"] (bj K 2 ui)) {aW:Addr} {aX:FuncData} (aj:Def K mg "_law_take" se ["_law_feed_here","_law_many"] aW aX) (aL:aD P w K mg base bh 1 aW aX ["_law_feed_here","_law_many"] (bj K 2 jL)) {fJ:Addr} {fK:FuncData} (c5:Def K mg "_law_floor" AR ["_law_feed_here","_law_n"] fJ fK) (iR:aD P w K mg base bh 3 fJ fK ["_law_feed_here","_law_n"] (bj K 2 AQ)) {a8:Addr} {a9:FuncData} (aG:Def K mg "_law_turning" w8 ["_law_feed_here","_law_n"] a8 a9) (bg:aD P w K mg base bh 2 a8 a9 ["_law_feed_here","_law_n"] (bj K 2 pj)):aD P w K mg base bh 4 f fd ["_law_feed_here","_law_most"] (bj K 2 AU):=by
 refine D.F.ok KQ (fun vs H Q E h=>h.1) (fun cdv A outer s H vs Q E hr h=>?_)
 have hu:=hr.units
 have hu1:=e8 hr
 refine ⟨_,(@bx _ _ _ _ _ (@cq (i:=2) _ _ _ _ _ _ KQ.nd rfl (by first | exact Or.inl rfl | exact Or.inr rfl) (bC jZ aI (bY aL (hr.mono (by decide)) rfl aj.m aj.F.kp aj.b .nil aC (@ao _ _ _ _ _ (pv 0) (@ao _ _ _ _ _ (pv 1) ax (by rfl)) (by rfl)))) (by rfl) (by first | exact .inl rfl | exact .inr rfl | assumption))
  (@bA _ _ _ (@dr _ _ _ _ (bY dF (hr.mono (by decide)) rfl bJ.m bJ.F.kp bJ.b .nil aC (@ao _ _ _ _ _ (bY iR (hr.mono (by decide)) rfl c5.m c5.F.kp c5.b .nil aC (@ao _ _ _ _ _ (pv 0) (@ao _ _ _ _ _ (pv 2) ax (by rfl)) (by rfl))) (@ao _ _ _ _ _ (bY bg (hr.mono (by decide)) rfl aG.m aG.F.kp aG.b .nil aC (@ao _ _ _ _ _ (pv 0) (@ao _ _ _ _ _ (pv 2) ax (by rfl)) (by rfl))) ax (by rfl)) (by rfl)))))),?_⟩
 exact ft (b:=DF) (bz (bQ (aB j6 (aJ _) (bZ (F:=jL) (aq (ai 0) (aq (ai 1) ay)) (aV (aV (fun _ _ _ _ h=>b5 h))))) (a5 2))
  (du (bZ (F:=ui) (aq (bZ (F:=AQ) (aq (ai 0) (aq (ai 2) ay)) (aV (aV (fun _ _ _ _ h=>b5 h)))) (aq (bZ (F:=pj) (aq (ai 0) (aq (ai 2) ay)) (aV (aV (fun _ _ _ _ h=>b5 h)))) ay)) (aV (aV (fun _ _ _ _ h=>b5 h)))))) rfl h
def DG:au->Dm Fl :=
 (aF (aM (ag 0) (lR 4 (cS (hName 2) (cS (hName 3) (cS (hName 4) (cS (hName 5) mw))))))
 (aF (aM (ag 1) (lR 4 (cS (hName 6) (cS (hName 7) (cS (hName 8) (cS (hName 9) mw))))))
 (a7 (bB (ae (aA cV (aA cf (ag 2) (ag 6)) (aA cf (ag 3) (ag 8))) (ae (aA cV (aA cf (ag 2) (ag 7)) (aA cf (ag 3) (ag 9))) (ae (aA cV (aA cf (ag 4) (ag 6)) (aA cf (ag 5) (ag 8))) (ae (aA cV (aA cf (ag 4) (ag 7)) (aA cf (ag 5) (ag 9))) ah))))))))
def AW:List D->Dm D:=eA 10 DG
def AX:Stmt:=top 49
theorem si:az ["_law_one","_law_other","_law_a","_law_b","_law_c","_law_d","_law_e","_law_f","_law_g","_law_h"] ["_law_one","_law_other"] (av AX):=⟨rfl,rfl,rfl,by decide +kernel,rfl,by decide +kernel,by decide +kernel⟩
theorem Qg {f:Addr} {fd:FuncData} (D:Def K mg "_law_times" AX ["_law_one","_law_other"] f fd) (T:Txt mg)  :aD P w K mg base bh 1 f fd ["_law_one","_law_other"] (bj K 2 AW):=by
 refine D.F.ok si (fun vs H Q E h=>h.1) (fun cdv A outer s H vs Q E hr h=>?_)
 have hu:=hr.units
 have hu1:=e8 hr
 refine ⟨_,(@bx _ _ _ _ _ (rq (pv 0) (sF (n:=4) rfl (mz (eo (i:=2) si.nd rfl (by first | exact Or.inl rfl | exact Or.inr rfl)) (mz (eo (i:=3) si.nd rfl (by first | exact Or.inl rfl | exact Or.inr rfl)) (mz (eo (i:=4) si.nd rfl (by first | exact Or.inl rfl | exact Or.inr rfl)) (mz (eo (i:=5) si.nd rfl (by first | exact Or.inl rfl | exact Or.inr rfl)) sE))))))
  (@bx _ _ _ _ _ (rq (pv 1) (sF (n:=4) rfl (mz (eo (i:=6) si.nd rfl (by first | exact Or.inl rfl | exact Or.inr rfl)) (mz (eo (i:=7) si.nd rfl (by first | exact Or.inl rfl | exact Or.inr rfl)) (mz (eo (i:=8) si.nd rfl (by first | exact Or.inl rfl | exact Or.inr rfl)) (mz (eo (i:=9) si.nd rfl (by first | exact Or.inl rfl | exact Or.inr rfl)) sE))))))
  (@bA _ _ _ (@dr _ _ _ _ (@eB _ _ _ _ _ (@ao _ _ _ _ _ (bC jZ (bC ma (pv 2) (pv 6)) (bC ma (pv 3) (pv 8))) (@ao _ _ _ _ _ (bC jZ (bC ma (pv 2) (pv 7)) (bC ma (pv 3) (pv 9))) (@ao _ _ _ _ _ (bC jZ (bC ma (pv 4) (pv 6)) (bC ma (pv 5) (pv 8))) (@ao _ _ _ _ _ (bC jZ (bC ma (pv 4) (pv 7)) (bC ma (pv 5) (pv 9))) ax (by rfl)) (by rfl)) (by rfl)) (by rfl))))))),?_⟩
 exact ft (b:=DG) (bz (bQ (ai 0) (tW (mI (a5 2) (mI (a5 3) (mI (a5 4) (mI (a5 5) tV))))))
  (bz (bQ (ai 1) (tW (mI (a5 6) (mI (a5 7) (mI (a5 8) (mI (a5 9) tV))))))
  (du (eC (aq (aB j6 (aB mj (ai 2) (ai 6)) (aB mj (ai 3) (ai 8))) (aq (aB j6 (aB mj (ai 2) (ai 7)) (aB mj (ai 3) (ai 9))) (aq (aB j6 (aB mj (ai 4) (ai 6)) (aB mj (ai 5) (ai 8))) (aq (aB j6 (aB mj (ai 4) (ai 7)) (aB mj (ai 5) (ai 9))) ay)))))))) rfl h
def DH:au->Dm Fl :=
 (aF (aM (bB (ae (fC (.int 1)) (ae (fC (.int 0)) (ae (fC (.int 0)) (ae (fC (.int 1)) ah))))) (hName 1))
 (aF (dC (er (ag 0)) (lR 2 (cS (hName 2) (cS (hName 3) mw))) (dC (bS (ae (aA fm (eD (ae (fC (.int 1)) (ae (ag 3) ah))) (aR mH (ae (aA (kr false) (ag 2) (fC (.str "t"))) ah))) ah)) (hName 4) (aM (aR AW (ae (aA fm (eD (ae (bB (ae (fC (.int 1)) (ae (ag 3) (ae (fC (.int 0)) (ae (fC (.int 1)) ah))))) (ae (bB (ae (fC (.int 0)) (ae (pE kH (fC (.int 1))) (ae (fC (.int 1)) (ae (fC (.int 0)) ah))))) ah))) (aR mH (ae (aA (kr false) (ag 2) (fC (.str "t"))) ah))) (ae (ag 1) ah))) (hName 1))))
 (a7 (ag 1))))
def xa:List D->Dm D:=eA 5 DH
def AY:Stmt:=top 50
theorem x8:az ["_law_word_here","_law_found","_law_letter","_law_k","_law_turn"] ["_law_word_here"] (av AY):=⟨rfl,rfl,rfl,by decide +kernel,rfl,by decide +kernel,by decide +kernel⟩
theorem Qh {f:Addr} {fd:FuncData} (D:Def K mg "_law_table" AY ["_law_word_here"] f fd) (T:Txt mg)  {fL:Addr} {fM:FuncData} (c6:Def K mg "_law_times" AX ["_law_one","_law_other"] fL fM) (iS:aD P w K mg base bh 1 fL fM ["_law_one","_law_other"] (bj K 2 AW)):aD P w K mg base bh 2 f fd ["_law_word_here"] (bj K 1 xa):=by
 refine D.F.ok x8 (fun vs H Q E h=>h.1) (fun cdv A outer s H vs Q E hr h=>?_)
 have hu:=hr.units
 have hu1:=e8 hr
 refine ⟨_,(@bx _ _ _ _ _ (@cq (i:=1) _ _ _ _ _ _ x8.nd rfl (by first | exact Or.inl rfl | exact Or.inr rfl) (@eB _ _ _ _ _ (@ao _ _ _ _ _ aI (@ao _ _ _ _ _ aI (@ao _ _ _ _ _ aI (@ao _ _ _ _ _ aI ax (by rfl)) (by rfl)) (by rfl)) (by rfl))) (by rfl) (by first | exact .inl rfl | exact .inr rfl | assumption))
  (@bx _ _ _ _ _ (@l9 _ _ _ _ _ _ _ _ PassesOwn.never rfl (o3 (pv 0)) (sF (n:=2) rfl (mz (eo (i:=2) x8.nd rfl (by first | exact Or.inl rfl | exact Or.inr rfl)) (mz (eo (i:=3) x8.nd rfl (by first | exact Or.inl rfl | exact Or.inr rfl)) sE))) (@bA _ _ _ (@l9 _ _ _ _ _ _ _ _ PassesOwn.never rfl (nZ rfl T.aY (@ao _ _ _ _ _ (@bE _ _ _ _ _ _ _ mB (@ml _ _ _ _ (@ao _ _ _ _ _ aI (@ao _ _ _ _ _ (pv 3) ax (by rfl)) (by rfl))) (fI HI (by rfl) T.uh Iu (@ao _ _ _ _ _ (Cs nD (pv 2) l8 (aS _)) ax (by rfl))) (fun _ _=>rfl)) ax (by rfl))) (eo (i:=4) x8.nd rfl (by first | exact Or.inl rfl | exact Or.inr rfl)) (@bA _ _ _ (@cq (i:=1) _ _ _ _ _ _ x8.nd rfl (by first | exact Or.inl rfl | exact Or.inr rfl) (bY iS (hr.mono (by decide)) rfl c6.m c6.F.kp c6.b .nil aC (@ao _ _ _ _ _ (@bE _ _ _ _ _ _ _ mB (@ml _ _ _ _ (@ao _ _ _ _ _ (@eB _ _ _ _ _ (@ao _ _ _ _ _ aI (@ao _ _ _ _ _ (pv 3) (@ao _ _ _ _ _ aI (@ao _ _ _ _ _ aI ax (by rfl)) (by rfl)) (by rfl)) (by rfl))) (@ao _ _ _ _ _ (@eB _ _ _ _ _ (@ao _ _ _ _ _ aI (@ao _ _ _ _ _ (qJ qL aI) (@ao _ _ _ _ _ aI (@ao _ _ _ _ _ aI ax (by rfl)) (by rfl)) (by rfl)) (by rfl))) ax (by rfl)) (by rfl))) (fI HI (by rfl) T.uh Iu (@ao _ _ _ _ _ (Cs nD (pv 2) l8 (aS _)) ax (by rfl))) (fun _ _=>rfl)) (@ao _ _ _ _ _ (pv 1) ax (by rfl)) (by rfl))) (by rfl) (by first | exact .inl rfl | exact .inr rfl | assumption))) (by intro _;rfl))) (by intro _;rfl))
  (@bA _ _ _ (@dr _ _ _ _ (pv 1))))),?_⟩
 exact ft (b:=DH) (bz (bQ (eC (aq (aJ _) (aq (aJ _) (aq (aJ _) (aq (aJ _) ay))))) (a5 1))
  (bz (mf (pg (ai 0)) (tW (mI (a5 2) (mI (a5 3) tV))) (mf (n8 (aq (aB mF (mr (aq (aJ _) (aq (ai 3) ay))) (cv Kd (aq (aB nH (ai 2) (md _)) ay))) ay)) (a5 4) (bQ (bZ (F:=AW) (aq (aB mF (mr (aq (eC (aq (aJ _) (aq (ai 3) (aq (aJ _) (aq (aJ _) ay))))) (aq (eC (aq (aJ _) (aq (qU qW (aJ _)) (aq (aJ _) (aq (aJ _) ay))))) ay))) (cv Kd (aq (aB nH (ai 2) (md _)) ay))) (aq (ai 1) ay)) (aV (aV (fun _ _ _ _ h=>b5 h)))) (a5 1))))
  (du (ai 1)))) rfl h
def DI:au->Dm Fl :=
 (aF (aM (eD (ae (ag 1) ah)) (hName 2))
 (aF (dC (kL (aR dB (ae (aR gO (ae (aR dA (ae (aA aK (ag 0) (fC (.int 0))) ah)) ah)) ah))) (hName 3) (dC (er (ag 0)) (hName 4) (jH (qi (aP (aA xS (ag 3) (aR dA (ae (ag 2) ah)))) (aP (aA (pH true) (aA aK (ag 4) (aA fm (ag 2) (ag 3))) (ag 2)))) (iN (n5 "list" dh (ag 2) (ae (aA aK (ag 4) (aA fm (ag 2) (ag 3))) ah))) b6)))
 (a7 (aR bM (ae (di (er (ag 0)) 1 [2] (hName 0) d6 (aR bM (ae (di (kL (ag 1)) 1 [0,1] (hName 0) d6 (n5 "list" ji (ag 2) (ae (aA aK (ag 1) (ag 0)) ah))) ah))) ah)))))
def AZ:List D->Dm D:=eA 5 DI
def A0:Stmt:=top 55
theorem DJ:az ["_law_floor_here","_law_s","_law_called","_law_one","_law_turning_here"] ["_law_floor_here","_law_s"] (av A0):=⟨rfl,rfl,rfl,by decide +kernel,rfl,by decide +kernel,by decide +kernel⟩
theorem Qi {f:Addr} {fd:FuncData} (D:Def K mg "_law_numbered" A0 ["_law_floor_here","_law_s"] f fd) (T:Txt mg)  :aD P w K mg base bh 1 f fd ["_law_floor_here","_law_s"] (bj K 2 AZ):=by
 refine D.F.ok DJ (fun vs H Q E h=>h.1) (fun cdv A outer s H vs Q E hr h=>?_)
 have hu:=hr.units
 have hu1:=e8 hr
 refine ⟨_,(@bx _ _ _ _ _ (@cq (i:=2) _ _ _ _ _ _ DJ.nd rfl (by first | exact Or.inl rfl | exact Or.inr rfl) (@ml _ _ _ _ (@ao _ _ _ _ _ (pv 1) ax (by rfl))) (by rfl) (by first | exact .inl rfl | exact .inr rfl | assumption))
  (@bx _ _ _ _ _ (@l9 _ _ _ _ _ _ _ _ PassesOwn.never rfl (EX (fI (qP rfl) (by rfl) T.dE o8 (@ao _ _ _ _ _ (fI CD (by rfl) T.aY qO (@ao _ _ _ _ _ (j5 lu (by rfl) T.cw lx (@ao _ _ _ _ _ (@bE _ _ _ _ _ _ _ cb (pv 0) aI (fun _ _=>rfl)) ax (by rfl))) ax (by rfl))) ax (by rfl)))) (eo (i:=3) DJ.nd rfl (by first | exact Or.inl rfl | exact Or.inr rfl)) (@bA _ _ _ (@l9 _ _ _ _ _ _ _ _ PassesOwn.never rfl (o3 (pv 0)) (eo (i:=4) DJ.nd rfl (by first | exact Or.inl rfl | exact Or.inr rfl)) (@bA _ _ _ (@kz _ _ _ _ _ _ _ _ (PW.pt (Ht (iA Cr (pv 3) (j5 lu (by rfl) T.cw lx (@ao _ _ _ _ _ (pv 2) ax (by rfl))) (aS _)) (Hs (iA Cz (@bE _ _ _ _ _ _ _ cb (pv 4) (@bE _ _ _ _ _ _ _ mB (pv 2) (pv 3) (fun _ _=>rfl)) (fun _ _=>rfl)) (pv 2) (by with_unfolding_all rfl))))) (@bA _ _ _ (sC (qN PySem.F.plainAttrs_list PySem.F.slot_list_append PySem.F.type_list_append sQ (pv 2) (@ao _ _ _ _ _ (@bE _ _ _ _ _ _ _ cb (pv 4) (@bE _ _ _ _ _ _ _ mB (pv 2) (pv 3) (fun _ _=>rfl)) (fun _ _=>rfl)) ax (by rfl))))) lr)) (by intro _;rfl))) (by intro _;rfl))
  (@bA _ _ _ (@dr _ _ _ _ (fI nE (by rfl) T.bG mN (@ao _ _ _ _ _ (p7 (own:=["_law_turning_here"]) (fr:=["_law_called"]) (js:=[2]) rfl ⟨⟨rfl,by decide +kernel,by decide +kernel,by dsimp only [gJ,aU,Cx.nM,Cx.wish,PyProof.Rows.envOfC,compEnvC,relabel,Env.kindOf];decide +kernel,by decide +kernel⟩,rfl⟩ (o3 (pv 0)) (fun _ _ _ _ _=>(eo (i:=0) (show ((["_law_turning_here"]:List Str) ++ (["_law_called"]:List Str)).Nodup by decide +kernel) rfl (by first | exact Or.inl rfl | exact Or.inr rfl))) (fun _ _ _ _ _=>p4) (fun _ _ _ _ _=>(fI (IY (K:=K) rfl) (by rfl) T.bG mN (@ao _ _ _ _ _ (p7 (own:=["_law_one"]) (fr:=["_law_turning_here","_law_called"]) (js:=[0,1]) rfl ⟨Kk ⟨rfl,by decide +kernel,by decide +kernel,by dsimp only [gJ,Cx.nM,Cx.wish,PyProof.Rows.envOfC];decide +kernel,by decide +kernel⟩,rfl⟩ (MH (K:=K) rfl (pv 1)) (fun _ _ _ _ _=>(eo (i:=0) (show ((["_law_one"]:List Str) ++ (["_law_turning_here","_law_called"]:List Str)).Nodup by decide +kernel) rfl (by first | exact Or.inl rfl | exact Or.inr rfl))) (fun _ _ _ _ _=>p4) (fun _ _ _ _ _=>(CJ (K:=K) rfl PySem.F.plainAttrs_list PySem.F.slot_list_index PySem.F.type_list_index (Po (K:=K) rfl) (pv 2) (@ao _ _ _ _ _ (@bE _ _ _ _ _ _ _ (xI (K:=K) rfl) (pv 1) (pv 0) (fun _ _=>rfl)) ax (by rfl))))) ax (by rfl))))) ax (by rfl))))))),?_⟩
 exact ft (b:=DI) (bz (bQ (mr (aq (ai 1) ay)) (a5 2))
  (bz (mf (Gk (cv qY (aq (cv Df (aq (cv lB (aq (aB bR (ai 0) (aJ _)) ay)) ay)) ay))) (a5 3) (mf (pg (ai 0)) (a5 4) (kJ (J7 (gN (aB Dc (ai 3) (cv lB (aq (ai 2) ay)))) (gN (aB (zV true) (aB bR (ai 4) (aB mF (ai 2) (ai 3))) (ai 2)))) (tZ (pf tU (ai 2) (aq (aB bR (ai 4) (aB mF (ai 2) (ai 3))) ay))) lC)))
  (du (cv mY (aq (ph (pg (ai 0)) (a5 0) qu (cv mY (aq (ph (Gk (ai 1)) (a5 0) qu (pf Pp (ai 2) (aq (aB bR (ai 1) (ai 0)) ay))) ay))) ay))))) rfl h
def DK:au->Dm Fl :=
 (a7 (aR la (ae (di (bS (ae (aR dA (ae (aA aK (ag 0) (fC (.int 0))) ah)) ah)) 1 [0] (hName 0) d6 (aR AZ (ae (ag 1) (ae (ag 0) ah)))) ah)))
def sj:List D->Dm D:=eA 1 DK
def A1:Stmt:=top 54
theorem Qj:az ["_law_floor_here"] ["_law_floor_here"] (av A1):=⟨rfl,rfl,rfl,by decide +kernel,rfl,by decide +kernel,by decide +kernel⟩
theorem Qk {f:Addr} {fd:FuncData} (D:Def K mg "_law_form" A1 ["_law_floor_here"] f fd) (T:Txt mg)  {dj:Addr} {dk:FuncData} (bT:Def K mg "_law_numbered" A0 ["_law_floor_here","_law_s"] dj dk) (fw:aD P w K mg base bh 1 dj dk ["_law_floor_here","_law_s"] (bj K 2 AZ)):aD P w K mg base bh 2 f fd ["_law_floor_here"] (bj K 1 sj):=by
 refine D.F.ok Qj (fun vs H Q E h=>h.1) (fun cdv A outer s H vs Q E hr h=>?_)
 have hu:=hr.units
 have hu1:=e8 hr
 refine ⟨_,(@bA _ _ _ (@dr _ _ _ _ (j5 (Jo rfl hu) (by rfl) T.qB Fm (@ao _ _ _ _ _ (p7 (own:=["_law_s"]) (fr:=["_law_floor_here"]) (js:=[0]) rfl ⟨⟨rfl,by decide +kernel,by decide +kernel,by dsimp only [gJ,aU,Cx.nM,Cx.wish,PyProof.Rows.envOfC,compEnvC,relabel,Env.kindOf];decide +kernel,by decide +kernel⟩,rfl⟩ (nZ rfl T.aY (@ao _ _ _ _ _ (j5 lu (by rfl) T.cw lx (@ao _ _ _ _ _ (@bE _ _ _ _ _ _ _ cb (pv 0) aI (fun _ _=>rfl)) ax (by rfl))) ax (by rfl))) (fun _ _ _ _ _=>(eo (i:=0) (show ((["_law_s"]:List Str) ++ (["_law_floor_here"]:List Str)).Nodup by decide +kernel) rfl (by first | exact Or.inl rfl | exact Or.inr rfl))) (fun _ _ _ _ _=>p4) (fun _ _ _ _ _=>(bY fw (hr.mono (by decide)) rfl bT.m bT.F.kp bT.b .nil aC (@ao _ _ _ _ _ (pv 1) (@ao _ _ _ _ _ (pv 0) ax (by rfl)) (by rfl))))) ax (by rfl))))),?_⟩
 exact ft (b:=DK) (du (cv KL (aq (ph (n8 (aq (cv lB (aq (aB bR (ai 0) (aJ _)) ay)) ay)) (a5 0) qu (bZ (F:=AZ) (aq (ai 1) (aq (ai 0) ay)) (aV (aV (fun _ _ _ _ h=>b5 h))))) ay))) rfl h
def DL:au->Dm Fl :=
 (aF (jH (aP (aA xS (ag 2) (fC (.int 0)))) (aF (aM (aR bM (ae (di (bS (ae (aR dA (ae (ag 0) ah)) ah)) 1 [0] (hName 0) d6 (n5 "tuple" gP (ag 1) (ae (ag 0) ah))) ah)) (hName 0))
 (aM (aA lK (fC (.int 0)) (ag 2)) (hName 2))) b6)
 (aF (aM (eD (ae (ag 1) ah)) (hName 3))
 (aF (iO (aP (aA (kr true) (aA aK (ag 0) (aA fm (ag 3) (pE kH (fC (.int 1))))) (ag 1))) (iN (n5 "list" dh (ag 3) (ae (aA aK (ag 0) (aA fm (ag 3) (pE kH (fC (.int 1))))) ah))))
 (a7 (aA fm (ag 3) (aA jI (ag 2) (aR dA (ae (ag 3) ah))))))))
def A2:List D->Dm D:=eA 4 DL
def A3:Stmt:=top 51
theorem DM:az ["_law_turning_here","_law_s","_law_k","_law_ring"] ["_law_turning_here","_law_s","_law_k"] (av A3):=⟨rfl,rfl,rfl,by decide +kernel,rfl,by decide +kernel,by decide +kernel⟩
theorem Ql {f:Addr} {fd:FuncData} (D:Def K mg "_law_behind" A3 ["_law_turning_here","_law_s","_law_k"] f fd) (T:Txt mg)  :aD P w K mg base bh 1 f fd ["_law_turning_here","_law_s","_law_k"] (bj K 3 A2):=by
 refine D.F.ok DM (fun vs H Q E h=>h.1) (fun cdv A outer s H vs Q E hr h=>?_)
 have hu:=hr.units
 have hu1:=e8 hr
 refine ⟨_,(@bx _ _ _ _ _ (@kz _ _ _ _ _ _ _ _ (iA Cr (pv 2) aI (aS _)) (@bx _ _ _ _ _ (@cq (i:=0) _ _ _ _ _ _ DM.nd rfl (by first | exact Or.inl rfl | exact Or.inr rfl) (fI nE (by rfl) T.bG mN (@ao _ _ _ _ _ (p7 (own:=["_law_one"]) (fr:=["_law_turning_here"]) (js:=[0]) rfl ⟨⟨rfl,by decide +kernel,by decide +kernel,by dsimp only [gJ,aU,Cx.nM,Cx.wish,PyProof.Rows.envOfC,compEnvC,relabel,Env.kindOf];decide +kernel,by decide +kernel⟩,rfl⟩ (nZ rfl T.aY (@ao _ _ _ _ _ (j5 lu (by rfl) T.cw lx (@ao _ _ _ _ _ (pv 0) ax (by rfl))) ax (by rfl))) (fun _ _ _ _ _=>(eo (i:=0) (show ((["_law_one"]:List Str) ++ (["_law_turning_here"]:List Str)).Nodup by decide +kernel) rfl (by first | exact Or.inl rfl | exact Or.inr rfl))) (fun _ _ _ _ _=>p4) (fun _ _ _ _ _=>(CJ (K:=K) rfl PySem.F.plainAttrs_tuple PySem.F.slot_tuple_index PySem.F.type_tuple_index (FG (K:=K) rfl) (pv 1) (@ao _ _ _ _ _ (pv 0) ax (by rfl))))) ax (by rfl))) (by rfl) (by first | exact .inl rfl | exact .inr rfl | assumption))
  (@bA _ _ _ (@cq (i:=2) _ _ _ _ _ _ DM.nd rfl (by first | exact Or.inl rfl | exact Or.inr rfl) (bC xB aI (pv 2)) (by rfl) (by first | exact .inl rfl | exact .inr rfl | assumption)))) lr)
  (@bx _ _ _ _ _ (@cq (i:=3) _ _ _ _ _ _ DM.nd rfl (by first | exact Or.inl rfl | exact Or.inr rfl) (@ml _ _ _ _ (@ao _ _ _ _ _ (pv 1) ax (by rfl))) (by rfl) (by first | exact .inl rfl | exact .inr rfl | assumption))
  (@bx _ _ _ _ _ (xy PassesOwn.never (iA Cq (@bE _ _ _ _ _ _ _ cb (pv 0) (@bE _ _ _ _ _ _ _ mB (pv 3) (qJ qL aI) (fun _ _=>rfl)) (fun _ _=>rfl)) (pv 1) (aS _)) (@bA _ _ _ (sC (qN PySem.F.plainAttrs_list PySem.F.slot_list_append PySem.F.type_list_append sQ (pv 3) (@ao _ _ _ _ _ (@bE _ _ _ _ _ _ _ cb (pv 0) (@bE _ _ _ _ _ _ _ mB (pv 3) (qJ qL aI) (fun _ _=>rfl)) (fun _ _=>rfl)) ax (by rfl))))))
  (@bA _ _ _ (@dr _ _ _ _ (@bE _ _ _ _ _ _ _ mB (pv 3) (bC pq (pv 2) (j5 lu (by rfl) T.cw lx (@ao _ _ _ _ _ (pv 3) ax (by rfl)))) (fun _ _=>rfl))))))),?_⟩
 exact ft (b:=DL) (bz (kJ (gN (aB Dc (ai 2) (aJ _))) (bz (bQ (cv mY (aq (ph (n8 (aq (cv lB (aq (ai 0) ay)) ay)) (a5 0) qu (pf Gj (ai 1) (aq (ai 0) ay))) ay)) (a5 0))
  (bQ (aB xT (aJ _) (ai 2)) (a5 2))) lC)
  (bz (bQ (mr (aq (ai 1) ay)) (a5 3))
  (bz (xX (gN (aB Dd (aB bR (ai 0) (aB mF (ai 3) (qU qW (aJ _)))) (ai 1))) (tZ (pf tU (ai 3) (aq (aB bR (ai 0) (aB mF (ai 3) (qU qW (aJ _)))) ay))))
  (du (aB mF (ai 3) (aB pF (ai 2) (cv lB (aq (ai 3) ay)))))))) rfl h
def x9:au->Dm Fl :=
 (aF (aM (ag 0) (lR 2 (cS (hName 2) (cS (hName 3) mw))))
 (aF (jH (aP (aA (kr false) (aA aK (ag 1) (fC (.int 0))) (fC (.str "s")))) (a7 (bB (ae (ag 2) (ae (aR bM (ae (di (bS (ae (aR dA (ae (ag 3) ah)) ah)) 1 [1,2,3] (hName 0) d6 (aA aK (ag 3) (aR A2 (ae (ag 2) (ae (ag 0) (ae (aA lK (fC (.int 0)) (aA aK (ag 1) (fC (.int 1)))) ah)))))) ah)) ah)))) b6)
 (aF (dC (bS (ae (aA jI (aA aK (ag 1) (fC (.int 1))) (fC (.int 4))) ah)) (hName 4) (aM (bB (ae (aR bM (ae (di (bS (ae (aR dA (ae (ag 3) ah)) ah)) 1 [3] (hName 0) d6 (n5 "tuple" gP (ag 1) (ae (ag 0) ah))) ah)) (ae (ag 2) ah))) (lR 2 (cS (hName 2) (cS (hName 3) mw)))))
 (a7 (bB (ae (ag 2) (ae (ag 3) ah)))))))
def xb:List D->Dm D:=eA 5 x9
def A4:Stmt:=top 52
theorem ya:az ["_law_floor_here","_law_step","_law_right","_law_up","_law_turn"] ["_law_floor_here","_law_step"] (av A4):=⟨rfl,rfl,rfl,by decide +kernel,rfl,by decide +kernel,by decide +kernel⟩
theorem Qm {f:Addr} {fd:FuncData} (D:Def K mg "_law_stepped" A4 ["_law_floor_here","_law_step"] f fd) (T:Txt mg)  {eG:Addr} {eI:FuncData} (cL:Def K mg "_law_behind" A3 ["_law_turning_here","_law_s","_law_k"] eG eI) (gR:aD P w K mg base bh 1 eG eI ["_law_turning_here","_law_s","_law_k"] (bj K 3 A2)):aD P w K mg base bh 2 f fd ["_law_floor_here","_law_step"] (bj K 2 xb):=by
 refine D.F.ok ya (fun vs H Q E h=>h.1) (fun cdv A outer s H vs Q E hr h=>?_)
 have hu:=hr.units
 have hu1:=e8 hr
 refine ⟨_,(@bx _ _ _ _ _ (rq (pv 0) (sF (n:=2) rfl (mz (eo (i:=2) ya.nd rfl (by first | exact Or.inl rfl | exact Or.inr rfl)) (mz (eo (i:=3) ya.nd rfl (by first | exact Or.inl rfl | exact Or.inr rfl)) sE))))
  (@bx _ _ _ _ _ (@kz _ _ _ _ _ _ _ _ (iA nD (@bE _ _ _ _ _ _ _ cb (pv 1) aI (fun _ _=>rfl)) l8 (aS _)) (@bA _ _ _ (@dr _ _ _ _ (@eB _ _ _ _ _ (@ao _ _ _ _ _ (pv 2) (@ao _ _ _ _ _ (fI nE (by rfl) T.bG mN (@ao _ _ _ _ _ (p7 (own:=["_law_s"]) (fr:=["_law_step","_law_right","_law_up"]) (js:=[1,2,3]) rfl ⟨⟨rfl,by decide +kernel,by decide +kernel,by dsimp only [gJ,aU,Cx.nM,Cx.wish,PyProof.Rows.envOfC,compEnvC,relabel,Env.kindOf];decide +kernel,by decide +kernel⟩,rfl⟩ (nZ rfl T.aY (@ao _ _ _ _ _ (j5 lu (by rfl) T.cw lx (@ao _ _ _ _ _ (pv 3) ax (by rfl))) ax (by rfl))) (fun _ _ _ _ _=>(eo (i:=0) (show ((["_law_s"]:List Str) ++ (["_law_step","_law_right","_law_up"]:List Str)).Nodup by decide +kernel) rfl (by first | exact Or.inl rfl | exact Or.inr rfl))) (fun _ _ _ _ _=>p4) (fun _ _ _ _ _=>(@bE _ _ _ _ _ _ _ (xI (K:=K) rfl) (pv 3) (bY gR (hr.mono (by decide)) rfl cL.m cL.F.kp cL.b .nil aC (@ao _ _ _ _ _ (pv 2) (@ao _ _ _ _ _ (pv 0) (@ao _ _ _ _ _ (bC xB aI (@bE _ _ _ _ _ _ _ (xI (K:=K) rfl) (pv 1) aI (fun _ _=>rfl))) ax (by rfl)) (by rfl)) (by rfl))) (fun _ _=>rfl)))) ax (by rfl))) ax (by rfl)) (by rfl))))) lr)
  (@bx _ _ _ _ _ (@l9 _ _ _ _ _ _ _ _ PassesOwn.never rfl (nZ rfl T.aY (@ao _ _ _ _ _ (bC pq (@bE _ _ _ _ _ _ _ cb (pv 1) aI (fun _ _=>rfl)) aI) ax (by rfl))) (eo (i:=4) ya.nd rfl (by first | exact Or.inl rfl | exact Or.inr rfl)) (@bA _ _ _ (rq (@eB _ _ _ _ _ (@ao _ _ _ _ _ (fI nE (by rfl) T.bG mN (@ao _ _ _ _ _ (p7 (own:=["_law_s"]) (fr:=["_law_up"]) (js:=[3]) rfl ⟨⟨rfl,by decide +kernel,by decide +kernel,by dsimp only [gJ,aU,Cx.nM,Cx.wish,PyProof.Rows.envOfC,compEnvC,relabel,Env.kindOf];decide +kernel,by decide +kernel⟩,rfl⟩ (nZ rfl T.aY (@ao _ _ _ _ _ (j5 lu (by rfl) T.cw lx (@ao _ _ _ _ _ (pv 3) ax (by rfl))) ax (by rfl))) (fun _ _ _ _ _=>(eo (i:=0) (show ((["_law_s"]:List Str) ++ (["_law_up"]:List Str)).Nodup by decide +kernel) rfl (by first | exact Or.inl rfl | exact Or.inr rfl))) (fun _ _ _ _ _=>p4) (fun _ _ _ _ _=>(CJ (K:=K) rfl PySem.F.plainAttrs_tuple PySem.F.slot_tuple_index PySem.F.type_tuple_index (FG (K:=K) rfl) (pv 1) (@ao _ _ _ _ _ (pv 0) ax (by rfl))))) ax (by rfl))) (@ao _ _ _ _ _ (pv 2) ax (by rfl)) (by rfl))) (sF (n:=2) rfl (mz (eo (i:=2) ya.nd rfl (by first | exact Or.inl rfl | exact Or.inr rfl)) (mz (eo (i:=3) ya.nd rfl (by first | exact Or.inl rfl | exact Or.inr rfl)) sE))))) (by intro _;rfl))
  (@bA _ _ _ (@dr _ _ _ _ (@eB _ _ _ _ _ (@ao _ _ _ _ _ (pv 2) (@ao _ _ _ _ _ (pv 3) ax (by rfl)) (by rfl)))))))),?_⟩
 exact ft (b:=x9) (bz (bQ (ai 0) (tW (mI (a5 2) (mI (a5 3) tV))))
  (bz (kJ (gN (aB nH (aB bR (ai 1) (aJ _)) (md _))) (du (eC (aq (ai 2) (aq (cv mY (aq (ph (n8 (aq (cv lB (aq (ai 3) ay)) ay)) (a5 0) qu (aB bR (ai 3) (bZ (F:=A2) (aq (ai 2) (aq (ai 0) (aq (aB xT (aJ _) (aB bR (ai 1) (aJ _))) ay))) (aV (aV (aV (fun _ _ _ _ h=>b5 h))))))) ay)) ay)))) lC)
  (bz (mf (n8 (aq (aB pF (aB bR (ai 1) (aJ _)) (aJ _)) ay)) (a5 4) (bQ (eC (aq (cv mY (aq (ph (n8 (aq (cv lB (aq (ai 3) ay)) ay)) (a5 0) qu (pf Gj (ai 1) (aq (ai 0) ay))) ay)) (aq (ai 2) ay))) (tW (mI (a5 2) (mI (a5 3) tV)))))
  (du (eC (aq (ai 2) (aq (ai 3) ay))))))) rfl h
def DN:au->Dm Fl :=
 (aF (dC (er (ag 1)) (hName 2) (aM (aR xb (ae (ag 0) (ae (ag 2) ah))) (hName 0)))
 (a7 (ag 0)))
def xc:List D->Dm D:=eA 3 DN
def A5:Stmt:=top 53
theorem GK:az ["_law_floor_here","_law_word_here","_law_step"] ["_law_floor_here","_law_word_here"] (av A5):=⟨rfl,rfl,rfl,by decide +kernel,rfl,by decide +kernel,by decide +kernel⟩
theorem Qn {f:Addr} {fd:FuncData} (D:Def K mg "_law_led" A5 ["_law_floor_here","_law_word_here"] f fd) (T:Txt mg)  {dW:Addr} {dX:FuncData} (cj:Def K mg "_law_stepped" A4 ["_law_floor_here","_law_step"] dW dX) (fZ:aD P w K mg base bh 2 dW dX ["_law_floor_here","_law_step"] (bj K 2 xb)):aD P w K mg base bh 3 f fd ["_law_floor_here","_law_word_here"] (bj K 2 xc):=by
 refine D.F.ok GK (fun vs H Q E h=>h.1) (fun cdv A outer s H vs Q E hr h=>?_)
 have hu:=hr.units
 have hu1:=e8 hr
 refine ⟨_,(@bx _ _ _ _ _ (@l9 _ _ _ _ _ _ _ _ PassesOwn.never rfl (o3 (pv 1)) (eo (i:=2) GK.nd rfl (by first | exact Or.inl rfl | exact Or.inr rfl)) (@bA _ _ _ (@cq (i:=0) _ _ _ _ _ _ GK.nd rfl (by first | exact Or.inl rfl | exact Or.inr rfl) (bY fZ (hr.mono (by decide)) rfl cj.m cj.F.kp cj.b .nil aC (@ao _ _ _ _ _ (pv 0) (@ao _ _ _ _ _ (pv 2) ax (by rfl)) (by rfl))) (by rfl) (by first | exact .inl rfl | exact .inr rfl | assumption))) (by intro _;rfl))
  (@bA _ _ _ (@dr _ _ _ _ (pv 0)))),?_⟩
 exact ft (b:=DN) (bz (mf (pg (ai 1)) (a5 2) (bQ (bZ (F:=xb) (aq (ai 0) (aq (ai 2) ay)) (aV (aV (fun _ _ _ _ h=>b5 h)))) (a5 0)))
  (du (ai 0))) rfl h
def DO:au->Dm Fl :=
 (aF (aM (aA ql (eD (ae (fC (.int 0)) ah)) (aR dA (ae (ag 0) ah))) (hName 1))
 (aF (dC (lS (ae (ag 0) ah)) (lR 2 (cS (hName 2) (cS (hName 3) mw))) (aM (ag 2) (hSub (ag 1) (ag 3))))
 (a7 (aR bM (ae (ag 1) ah)))))
def qD:List D->Dm D:=eA 4 DO
def xf:Stmt:=top 5
theorem DP:az ["turning","back","number","led"] ["turning"] (av xf):=⟨rfl,rfl,rfl,by decide +kernel,rfl,by decide +kernel,by decide +kernel⟩
theorem Qo {f:Addr} {fd:FuncData} (D:Def K mg "turned_back" xf ["turning"] f fd) (T:Txt mg)  :aD P w K mg base bh 1 f fd ["turning"] (bj K 1 qD):=by
 refine D.F.ok DP (fun vs H Q E h=>h.1) (fun cdv A outer s H vs Q E hr h=>?_)
 have hu:=hr.units
 have hu1:=e8 hr
 refine ⟨_,(@bx _ _ _ _ _ (@cq (i:=1) _ _ _ _ _ _ DP.nd rfl (by first | exact Or.inl rfl | exact Or.inr rfl) (bC Ij (@ml _ _ _ _ (@ao _ _ _ _ _ aI ax (by rfl))) (j5 lu (by rfl) T.cw lx (@ao _ _ _ _ _ (pv 0) ax (by rfl)))) (by rfl) (by first | exact .inl rfl | exact .inr rfl | assumption))
  (@bx _ _ _ _ _ (@l9 _ _ _ _ _ _ _ _ PassesOwn.never rfl (I0 rfl T.lb (@ao _ _ _ _ _ (pv 0) ax (by rfl))) (sF (n:=2) rfl (mz (eo (i:=2) DP.nd rfl (by first | exact Or.inl rfl | exact Or.inr rfl)) (mz (eo (i:=3) DP.nd rfl (by first | exact Or.inl rfl | exact Or.inr rfl)) sE))) (@bA _ _ _ (rq (pv 2) (xx (pv 1) (pv 3) xE))) (by intro _;rfl))
  (@bA _ _ _ (@dr _ _ _ _ (fI nE (by rfl) T.bG mN (@ao _ _ _ _ _ (pv 1) ax (by rfl))))))),?_⟩
 exact ft (b:=DO) (bz (bQ (aB Kg (mr (aq (aJ _) ay)) (cv lB (aq (ai 0) ay))) (a5 1))
  (bz (mf (Kj (aq (ai 0) ay)) (tW (mI (a5 2) (mI (a5 3) tV))) (bQ (ai 2) (xW (ai 1) (ai 3))))
  (du (cv mY (aq (ai 1) ay))))) rfl h
def DQ:au->Dm Fl :=
 (a7 (aR bM (ae (di (er (ag 0)) 1 [1] (hName 0) d6 (aA aK (ag 1) (ag 0))) ah)))
def oX:List D->Dm D:=eA 2 DQ
def yb:Stmt:=top 4
theorem Qp:az ["one","other"] ["one","other"] (av yb):=⟨rfl,rfl,rfl,by decide +kernel,rfl,by decide +kernel,by decide +kernel⟩
theorem Qq {f:Addr} {fd:FuncData} (D:Def K mg "followed" yb ["one","other"] f fd) (T:Txt mg)  :aD P w K mg base bh 1 f fd ["one","other"] (bj K 2 oX):=by
 refine D.F.ok Qp (fun vs H Q E h=>h.1) (fun cdv A outer s H vs Q E hr h=>?_)
 have hu:=hr.units
 have hu1:=e8 hr
 refine ⟨_,(@bA _ _ _ (@dr _ _ _ _ (fI nE (by rfl) T.bG mN (@ao _ _ _ _ _ (p7 (own:=["number"]) (fr:=["other"]) (js:=[1]) rfl ⟨⟨rfl,by decide +kernel,by decide +kernel,by dsimp only [gJ,aU,Cx.nM,Cx.wish,PyProof.Rows.envOfC,compEnvC,relabel,Env.kindOf];decide +kernel,by decide +kernel⟩,rfl⟩ (o3 (pv 0)) (fun _ _ _ _ _=>(eo (i:=0) (show ((["number"]:List Str) ++ (["other"]:List Str)).Nodup by decide +kernel) rfl (by first | exact Or.inl rfl | exact Or.inr rfl))) (fun _ _ _ _ _=>p4) (fun _ _ _ _ _=>(@bE _ _ _ _ _ _ _ (xI (K:=K) rfl) (pv 1) (pv 0) (fun _ _=>rfl)))) ax (by rfl))))),?_⟩
 exact ft (b:=DQ) (du (cv mY (aq (ph (pg (ai 0)) (a5 0) qu (aB bR (ai 1) (ai 0))) ay))) rfl h
def DR:au->Dm Fl :=
 (aF (aM (aR qD (ae (ag 1) ah)) (hName 2))
 (aF (aM (aR oX (ae (aR oX (ae (ag 2) (ae (aA aK (ag 0) (fC (.int 0))) ah))) (ae (ag 1) ah))) (hName 3))
 (aF (aM (aR oX (ae (aR oX (ae (ag 2) (ae (aA aK (ag 0) (fC (.int 1))) ah))) (ae (ag 1) ah))) (hName 4))
 (a7 (bB (ae (ag 3) (ae (ag 4) ah)))))))
def A6:List D->Dm D:=eA 5 DR
def A7:Stmt:=top 12
theorem DS:az ["floor","p","back","right","up"] ["floor","p"] (av A7):=⟨rfl,rfl,rfl,by decide +kernel,rfl,by decide +kernel,by decide +kernel⟩
theorem Qr {f:Addr} {fd:FuncData} (D:Def K mg "called_anew" A7 ["floor","p"] f fd) (T:Txt mg)  {bu:Addr} {bw:FuncData} (aO:Def K mg "turned_back" xf ["turning"] bu bw) (bH:aD P w K mg base bh 1 bu bw ["turning"] (bj K 1 qD)) {dG:Addr} {dH:FuncData} (aT:Def K mg "followed" yb ["one","other"] dG dH) (cM:aD P w K mg base bh 1 dG dH ["one","other"] (bj K 2 oX)):aD P w K mg base bh 2 f fd ["floor","p"] (bj K 2 A6):=by
 refine D.F.ok DS (fun vs H Q E h=>h.1) (fun cdv A outer s H vs Q E hr h=>?_)
 have hu:=hr.units
 have hu1:=e8 hr
 refine ⟨_,(@bx _ _ _ _ _ (@cq (i:=2) _ _ _ _ _ _ DS.nd rfl (by first | exact Or.inl rfl | exact Or.inr rfl) (bY bH (hr.mono (by decide)) rfl aO.m aO.F.kp aO.b .nil aC (@ao _ _ _ _ _ (pv 1) ax (by rfl))) (by rfl) (by first | exact .inl rfl | exact .inr rfl | assumption))
  (@bx _ _ _ _ _ (@cq (i:=3) _ _ _ _ _ _ DS.nd rfl (by first | exact Or.inl rfl | exact Or.inr rfl) (bY cM (hr.mono (by decide)) rfl aT.m aT.F.kp aT.b .nil aC (@ao _ _ _ _ _ (bY cM (hr.mono (by decide)) rfl aT.m aT.F.kp aT.b .nil aC (@ao _ _ _ _ _ (pv 2) (@ao _ _ _ _ _ (@bE _ _ _ _ _ _ _ cb (pv 0) aI (fun _ _=>rfl)) ax (by rfl)) (by rfl))) (@ao _ _ _ _ _ (pv 1) ax (by rfl)) (by rfl))) (by rfl) (by first | exact .inl rfl | exact .inr rfl | assumption))
  (@bx _ _ _ _ _ (@cq (i:=4) _ _ _ _ _ _ DS.nd rfl (by first | exact Or.inl rfl | exact Or.inr rfl) (bY cM (hr.mono (by decide)) rfl aT.m aT.F.kp aT.b .nil aC (@ao _ _ _ _ _ (bY cM (hr.mono (by decide)) rfl aT.m aT.F.kp aT.b .nil aC (@ao _ _ _ _ _ (pv 2) (@ao _ _ _ _ _ (@bE _ _ _ _ _ _ _ cb (pv 0) aI (fun _ _=>rfl)) ax (by rfl)) (by rfl))) (@ao _ _ _ _ _ (pv 1) ax (by rfl)) (by rfl))) (by rfl) (by first | exact .inl rfl | exact .inr rfl | assumption))
  (@bA _ _ _ (@dr _ _ _ _ (@eB _ _ _ _ _ (@ao _ _ _ _ _ (pv 3) (@ao _ _ _ _ _ (pv 4) ax (by rfl)) (by rfl)))))))),?_⟩
 exact ft (b:=DR) (bz (bQ (bZ (F:=qD) (aq (ai 1) ay) (aV (fun _ _ _ _ h=>b5 h))) (a5 2))
  (bz (bQ (bZ (F:=oX) (aq (bZ (F:=oX) (aq (ai 2) (aq (aB bR (ai 0) (aJ _)) ay)) (aV (aV (fun _ _ _ _ h=>b5 h)))) (aq (ai 1) ay)) (aV (aV (fun _ _ _ _ h=>b5 h)))) (a5 3))
  (bz (bQ (bZ (F:=oX) (aq (bZ (F:=oX) (aq (ai 2) (aq (aB bR (ai 0) (aJ _)) ay)) (aV (aV (fun _ _ _ _ h=>b5 h)))) (aq (ai 1) ay)) (aV (aV (fun _ _ _ _ h=>b5 h)))) (a5 4))
  (du (eC (aq (ai 3) (aq (ai 4) ay))))))) rfl h
def DT:au->Dm Fl :=
 (aF (aM (eD (ae (ag 1) ah)) (hName 2))
 (aF (aM (fC (.int 0)) (hName 3))
 (aF (iO (aP (aA xS (ag 3) (aR dA (ae (ag 2) ah)))) (aF (dC (er (ag 0)) (hName 4) (aF (aM (aA aK (ag 4) (aA fm (ag 2) (ag 3))) (hName 5))
 (jH (aP (aA (pH true) (ag 5) (ag 2))) (iN (n5 "list" dh (ag 2) (ae (ag 5) ah))) b6)))
 (aM (aA cV (ag 3) (fC (.int 1))) (hName 3))))
 (a7 (aR bM (ae (ag 2) ah))))))
def A8:List D->Dm D:=eA 6 DT
def A9:Stmt:=top 10
theorem yc:az ["floor","s","squares","place","turning","reached"] ["floor","s"] (av A9):=⟨rfl,rfl,rfl,by decide +kernel,rfl,by decide +kernel,by decide +kernel⟩
theorem Qs {f:Addr} {fd:FuncData} (D:Def K mg "squares_from" A9 ["floor","s"] f fd) (T:Txt mg)  :aD P w K mg base bh 1 f fd ["floor","s"] (bj K 2 A8):=by
 refine D.F.ok yc (fun vs H Q E h=>h.1) (fun cdv A outer s H vs Q E hr h=>?_)
 have hu:=hr.units
 have hu1:=e8 hr
 refine ⟨_,(@bx _ _ _ _ _ (@cq (i:=2) _ _ _ _ _ _ yc.nd rfl (by first | exact Or.inl rfl | exact Or.inr rfl) (@ml _ _ _ _ (@ao _ _ _ _ _ (pv 1) ax (by rfl))) (by rfl) (by first | exact .inl rfl | exact .inr rfl | assumption))
  (@bx _ _ _ _ _ (@cq (i:=3) _ _ _ _ _ _ yc.nd rfl (by first | exact Or.inl rfl | exact Or.inr rfl) aI (by rfl) (by first | exact .inl rfl | exact .inr rfl | assumption))
  (@bx _ _ _ _ _ (xy PassesOwn.never (iA Cr (pv 3) (j5 lu (by rfl) T.cw lx (@ao _ _ _ _ _ (pv 2) ax (by rfl))) (aS _)) (@bx _ _ _ _ _ (@l9 _ _ _ _ _ _ _ _ PassesOwn.never rfl (o3 (pv 0)) (eo (i:=4) yc.nd rfl (by first | exact Or.inl rfl | exact Or.inr rfl)) (@bx _ _ _ _ _ (@cq (i:=5) _ _ _ _ _ _ yc.nd rfl (by first | exact Or.inl rfl | exact Or.inr rfl) (@bE _ _ _ _ _ _ _ cb (pv 4) (@bE _ _ _ _ _ _ _ mB (pv 2) (pv 3) (fun _ _=>rfl)) (fun _ _=>rfl)) (by rfl) (by first | exact .inl rfl | exact .inr rfl | assumption))
  (@bA _ _ _ (@kz _ _ _ _ _ _ _ _ (iA Cz (pv 5) (pv 2) (by with_unfolding_all rfl)) (@bA _ _ _ (sC (qN PySem.F.plainAttrs_list PySem.F.slot_list_append PySem.F.type_list_append sQ (pv 2) (@ao _ _ _ _ _ (pv 5) ax (by rfl))))) lr))) (by intro _;rfl))
  (@bA _ _ _ (@cq (i:=3) _ _ _ _ _ _ yc.nd rfl (by first | exact Or.inl rfl | exact Or.inr rfl) (bC jZ (pv 3) aI) (by rfl) (by first | exact .inl rfl | exact .inr rfl | assumption)))))
  (@bA _ _ _ (@dr _ _ _ _ (fI nE (by rfl) T.bG mN (@ao _ _ _ _ _ (pv 2) ax (by rfl)))))))),?_⟩
 exact ft (b:=DT) (bz (bQ (mr (aq (ai 1) ay)) (a5 2))
  (bz (bQ (aJ _) (a5 3))
  (bz (xX (gN (aB Dc (ai 3) (cv lB (aq (ai 2) ay)))) (bz (mf (pg (ai 0)) (a5 4) (bz (bQ (aB bR (ai 4) (aB mF (ai 2) (ai 3))) (a5 5))
  (kJ (gN (aB (zV true) (ai 5) (ai 2))) (tZ (pf tU (ai 2) (aq (ai 5) ay))) lC)))
  (bQ (aB j6 (ai 3) (aJ _)) (a5 3))))
  (du (cv mY (aq (ai 2) ay)))))) rfl h
def DV:au->Dm Fl :=
 (a7 (aR qD (ae (aR A8 (ae (ag 0) (ae (ag 1) ah))) ah)))
def Ba:List D->Dm D:=eA 2 DV
def Bb:Stmt:=top 13
theorem Qu:az ["floor","s"] ["floor","s"] (av Bb):=⟨rfl,rfl,rfl,by decide +kernel,rfl,by decide +kernel,by decide +kernel⟩
theorem Qv {f:Addr} {fd:FuncData} (D:Def K mg "numbering_from" Bb ["floor","s"] f fd) (T:Txt mg)  {bu:Addr} {bw:FuncData} (aO:Def K mg "turned_back" xf ["turning"] bu bw) (bH:aD P w K mg base bh 1 bu bw ["turning"] (bj K 1 qD)) {dY:Addr} {dZ:FuncData} (ck:Def K mg "squares_from" A9 ["floor","s"] dY dZ) (f6:aD P w K mg base bh 1 dY dZ ["floor","s"] (bj K 2 A8)):aD P w K mg base bh 2 f fd ["floor","s"] (bj K 2 Ba):=by
 refine D.F.ok Qu (fun vs H Q E h=>h.1) (fun cdv A outer s H vs Q E hr h=>?_)
 have hu:=hr.units
 have hu1:=e8 hr
 refine ⟨_,(@bA _ _ _ (@dr _ _ _ _ (bY bH (hr.mono (by decide)) rfl aO.m aO.F.kp aO.b .nil aC (@ao _ _ _ _ _ (bY f6 (hr.mono (by decide)) rfl ck.m ck.F.kp ck.b .nil aC (@ao _ _ _ _ _ (pv 0) (@ao _ _ _ _ _ (pv 1) ax (by rfl)) (by rfl))) ax (by rfl))))),?_⟩
 exact ft (b:=DV) (du (bZ (F:=qD) (aq (bZ (F:=A8) (aq (ai 0) (aq (ai 1) ay)) (aV (aV (fun _ _ _ _ h=>b5 h)))) ay) (aV (fun _ _ _ _ h=>b5 h)))) rfl h
def DW:au->Dm Fl :=
 (a7 (aR A6 (ae (ag 0) (ae (aR Ba (ae (ag 0) (ae (ag 1) ah))) ah))))
def Bc:List D->Dm D:=eA 2 DW
def Bd:Stmt:=top 14
theorem Qw:az ["floor","s"] ["floor","s"] (av Bd):=⟨rfl,rfl,rfl,by decide +kernel,rfl,by decide +kernel,by decide +kernel⟩
theorem Qx {f:Addr} {fd:FuncData} (D:Def K mg "numbered_from" Bd ["floor","s"] f fd) (T:Txt mg)  {eJ:Addr} {eK:FuncData} (cN:Def K mg "called_anew" A7 ["floor","p"] eJ eK) (gS:aD P w K mg base bh 2 eJ eK ["floor","p"] (bj K 2 A6)) {cW:Addr} {cX:FuncData} (bO:Def K mg "numbering_from" Bb ["floor","s"] cW cX) (ef:aD P w K mg base bh 2 cW cX ["floor","s"] (bj K 2 Ba)):aD P w K mg base bh 3 f fd ["floor","s"] (bj K 2 Bc):=by
 refine D.F.ok Qw (fun vs H Q E h=>h.1) (fun cdv A outer s H vs Q E hr h=>?_)
 have hu:=hr.units
 have hu1:=e8 hr
 refine ⟨_,(@bA _ _ _ (@dr _ _ _ _ (bY gS (hr.mono (by decide)) rfl cN.m cN.F.kp cN.b .nil aC (@ao _ _ _ _ _ (pv 0) (@ao _ _ _ _ _ (bY ef (hr.mono (by decide)) rfl bO.m bO.F.kp bO.b .nil aC (@ao _ _ _ _ _ (pv 0) (@ao _ _ _ _ _ (pv 1) ax (by rfl)) (by rfl))) ax (by rfl)) (by rfl))))),?_⟩
 exact ft (b:=DW) (du (bZ (F:=A6) (aq (ai 0) (aq (bZ (F:=Ba) (aq (ai 0) (aq (ai 1) ay)) (aV (aV (fun _ _ _ _ h=>b5 h)))) ay)) (aV (aV (fun _ _ _ _ h=>b5 h))))) rfl h
def DX:au->Dm Fl :=
 (a7 (aR la (ae (di (bS (ae (aR dA (ae (aA aK (ag 0) (fC (.int 0))) ah)) ah)) 1 [0] (hName 0) d6 (aR Bc (ae (ag 1) (ae (ag 0) ah)))) ah)))
def Be:List D->Dm D:=eA 1 DX
def Bf:Stmt:=top 15
theorem Qy:az ["floor"] ["floor"] (av Bf):=⟨rfl,rfl,rfl,by decide +kernel,rfl,by decide +kernel,by decide +kernel⟩
theorem Qz {f:Addr} {fd:FuncData} (D:Def K mg "form_of" Bf ["floor"] f fd) (T:Txt mg)  {dm:Addr} {dn:FuncData} (bU:Def K mg "numbered_from" Bd ["floor","s"] dm dn) (fz:aD P w K mg base bh 3 dm dn ["floor","s"] (bj K 2 Bc)):aD P w K mg base bh 4 f fd ["floor"] (bj K 1 Be):=by
 refine D.F.ok Qy (fun vs H Q E h=>h.1) (fun cdv A outer s H vs Q E hr h=>?_)
 have hu:=hr.units
 have hu1:=e8 hr
 refine ⟨_,(@bA _ _ _ (@dr _ _ _ _ (j5 (Jo rfl hu) (by rfl) T.qB Fm (@ao _ _ _ _ _ (p7 (own:=["s"]) (fr:=["floor"]) (js:=[0]) rfl ⟨⟨rfl,by decide +kernel,by decide +kernel,by dsimp only [gJ,aU,Cx.nM,Cx.wish,PyProof.Rows.envOfC,compEnvC,relabel,Env.kindOf];decide +kernel,by decide +kernel⟩,rfl⟩ (nZ rfl T.aY (@ao _ _ _ _ _ (j5 lu (by rfl) T.cw lx (@ao _ _ _ _ _ (@bE _ _ _ _ _ _ _ cb (pv 0) aI (fun _ _=>rfl)) ax (by rfl))) ax (by rfl))) (fun _ _ _ _ _=>(eo (i:=0) (show ((["s"]:List Str) ++ (["floor"]:List Str)).Nodup by decide +kernel) rfl (by first | exact Or.inl rfl | exact Or.inr rfl))) (fun _ _ _ _ _=>p4) (fun _ _ _ _ _=>(bY fz (hr.mono (by decide)) rfl bU.m bU.F.kp bU.b .nil aC (@ao _ _ _ _ _ (pv 1) (@ao _ _ _ _ _ (pv 0) ax (by rfl)) (by rfl))))) ax (by rfl))))),?_⟩
 exact ft (b:=DX) (du (cv KL (aq (ph (n8 (aq (cv lB (aq (aB bR (ai 0) (aJ _)) ay)) ay)) (a5 0) qu (bZ (F:=Bc) (aq (ai 1) (aq (ai 0) ay)) (aV (aV (fun _ _ _ _ h=>b5 h))))) ay))) rfl h
def DY:au->Dm Fl :=
 (aF (aM (eD (ae (ag 1) ah)) (hName 2))
 (aF (aM (aA aK (ag 0) (ag 1)) (hName 3))
 (aF (iO (aP (aA (kr true) (ag 3) (ag 1))) (aF (iN (n5 "list" dh (ag 2) (ae (ag 3) ah)))
 (aM (aA aK (ag 0) (ag 3)) (hName 3))))
 (a7 (aR bM (ae (ag 2) ah))))))
def Bg:List D->Dm D:=eA 4 DY
def Bh:Stmt:=top 7
theorem DZ:az ["turning","first","ring","reached"] ["turning","first"] (av Bh):=⟨rfl,rfl,rfl,by decide +kernel,rfl,by decide +kernel,by decide +kernel⟩
theorem QA {f:Addr} {fd:FuncData} (D:Def K mg "ring_from" Bh ["turning","first"] f fd) (T:Txt mg)  :aD P w K mg base bh 1 f fd ["turning","first"] (bj K 2 Bg):=by
 refine D.F.ok DZ (fun vs H Q E h=>h.1) (fun cdv A outer s H vs Q E hr h=>?_)
 have hu:=hr.units
 have hu1:=e8 hr
 refine ⟨_,(@bx _ _ _ _ _ (@cq (i:=2) _ _ _ _ _ _ DZ.nd rfl (by first | exact Or.inl rfl | exact Or.inr rfl) (@ml _ _ _ _ (@ao _ _ _ _ _ (pv 1) ax (by rfl))) (by rfl) (by first | exact .inl rfl | exact .inr rfl | assumption))
  (@bx _ _ _ _ _ (@cq (i:=3) _ _ _ _ _ _ DZ.nd rfl (by first | exact Or.inl rfl | exact Or.inr rfl) (@bE _ _ _ _ _ _ _ cb (pv 0) (pv 1) (fun _ _=>rfl)) (by rfl) (by first | exact .inl rfl | exact .inr rfl | assumption))
  (@bx _ _ _ _ _ (xy PassesOwn.never (iA Cq (pv 3) (pv 1) (aS _)) (@bx _ _ _ _ _ (sC (qN PySem.F.plainAttrs_list PySem.F.slot_list_append PySem.F.type_list_append sQ (pv 2) (@ao _ _ _ _ _ (pv 3) ax (by rfl))))
  (@bA _ _ _ (@cq (i:=3) _ _ _ _ _ _ DZ.nd rfl (by first | exact Or.inl rfl | exact Or.inr rfl) (@bE _ _ _ _ _ _ _ cb (pv 0) (pv 3) (fun _ _=>rfl)) (by rfl) (by first | exact .inl rfl | exact .inr rfl | assumption)))))
  (@bA _ _ _ (@dr _ _ _ _ (fI nE (by rfl) T.bG mN (@ao _ _ _ _ _ (pv 2) ax (by rfl)))))))),?_⟩
 exact ft (b:=DY) (bz (bQ (mr (aq (ai 1) ay)) (a5 2))
  (bz (bQ (aB bR (ai 0) (ai 1)) (a5 3))
  (bz (xX (gN (aB Dd (ai 3) (ai 1))) (bz (tZ (pf tU (ai 2) (aq (ai 3) ay)))
  (bQ (aB bR (ai 0) (ai 3)) (a5 3))))
  (du (cv mY (aq (ai 2) ay)))))) rfl h
def D0:au->Dm Fl :=
 (aF (aM (eD ah) (hName 1))
 (aF (aM qw (hName 2))
 (aF (dC (bS (ae (aR dA (ae (ag 0) ah)) ah)) (hName 3) (jH (aP (sa true (ag 3) (ag 2))) (aF (aM (aR Bg (ae (ag 0) (ae (ag 3) ah))) (hName 4))
 (aF (iN (n5 "list" dh (ag 1) (ae (ag 4) ah)))
 (dC (er (ag 4)) (hName 5) (oR (ag 2) (ag 5) (fC (.bl true)))))) b6))
 (a7 (aR bM (ae (ag 1) ah))))))
def Bi:List D->Dm D:=eA 6 D0
def Bj:Stmt:=top 8
theorem yd:az ["turning","rings","seen","first","ring","number"] ["turning"] (av Bj):=⟨rfl,rfl,rfl,by decide +kernel,rfl,by decide +kernel,by decide +kernel⟩
theorem QB {f:Addr} {fd:FuncData} (D:Def K mg "rings_of" Bj ["turning"] f fd) (T:Txt mg)  {gT:Addr} {gU:FuncData} (dI:Def K mg "ring_from" Bh ["turning","first"] gT gU) (jM:aD P w K mg base bh 1 gT gU ["turning","first"] (bj K 2 Bg)):aD P w K mg base bh 2 f fd ["turning"] (bj K 1 Bi):=by
 refine D.F.ok yd (fun vs H Q E h=>h.1) (fun cdv A outer s H vs Q E hr h=>?_)
 have hu:=hr.units
 have hu1:=e8 hr
 refine ⟨_,(@bx _ _ _ _ _ (@cq (i:=1) _ _ _ _ _ _ yd.nd rfl (by first | exact Or.inl rfl | exact Or.inr rfl) (@ml _ _ _ _ ax) (by rfl) (by first | exact .inl rfl | exact .inr rfl | assumption))
  (@bx _ _ _ _ _ (@cq (i:=2) _ _ _ _ _ _ yd.nd rfl (by first | exact Or.inl rfl | exact Or.inr rfl) Md (by rfl) (by first | exact .inl rfl | exact .inr rfl | assumption))
  (@bx _ _ _ _ _ (@l9 _ _ _ _ _ _ _ _ PassesOwn.never rfl (nZ rfl T.aY (@ao _ _ _ _ _ (j5 lu (by rfl) T.cw lx (@ao _ _ _ _ _ (pv 0) ax (by rfl))) ax (by rfl))) (eo (i:=3) yd.nd rfl (by first | exact Or.inl rfl | exact Or.inr rfl)) (@bA _ _ _ (@kz _ _ _ _ _ _ _ _ (uD (Ma hu1 (pv 3) (pv 2))) (@bx _ _ _ _ _ (@cq (i:=4) _ _ _ _ _ _ yd.nd rfl (by first | exact Or.inl rfl | exact Or.inr rfl) (bY jM (hr.mono (by decide)) rfl dI.m dI.F.kp dI.b .nil aC (@ao _ _ _ _ _ (pv 0) (@ao _ _ _ _ _ (pv 3) ax (by rfl)) (by rfl))) (by rfl) (by first | exact .inl rfl | exact .inr rfl | assumption))
  (@bx _ _ _ _ _ (sC (qN PySem.F.plainAttrs_list PySem.F.slot_list_append PySem.F.type_list_append sQ (pv 1) (@ao _ _ _ _ _ (pv 4) ax (by rfl))))
  (@bA _ _ _ (@l9 _ _ _ _ _ _ _ _ PassesOwn.never rfl (o3 (pv 4)) (eo (i:=5) yd.nd rfl (by first | exact Or.inl rfl | exact Or.inr rfl)) (@bA _ _ _ (Mb hu1 (pv 2) (pv 5) yq rfl)) (by intro _;rfl))))) lr)) (by intro _;rfl))
  (@bA _ _ _ (@dr _ _ _ _ (fI nE (by rfl) T.bG mN (@ao _ _ _ _ _ (pv 1) ax (by rfl)))))))),?_⟩
 exact ft (b:=D0) (bz (bQ (mr ay) (a5 1))
  (bz (bQ OL (a5 2))
  (bz (mf (n8 (aq (cv lB (aq (ai 0) ay)) ay)) (a5 3) (kJ (tO (OM (ai 3) (ai 2))) (bz (bQ (bZ (F:=Bg) (aq (ai 0) (aq (ai 3) ay)) (aV (aV (fun _ _ _ _ h=>b5 h)))) (a5 4))
  (bz (tZ (pf tU (ai 1) (aq (ai 4) ay)))
  (mf (pg (ai 4)) (a5 5) (OO (ai 2) (ai 5) (zN _))))) lC))
  (du (cv mY (aq (ai 1) ay)))))) rfl h
def D1:au->Dm Fl :=
 (aF (aM (aA ql (eD (ae (fC (.int 0)) ah)) (aR dA (ae (ag 0) ah))) (hName 2))
 (aF (dC (er (aR Bi (ae (ag 0) ah))) (hName 3) (dC (lS (ae (ag 3) ah)) (lR 2 (cS (hName 4) (cS (hName 5) mw))) (aM (aA aK (ag 3) (aA jI (aA cV (ag 4) (ag 1)) (aR dA (ae (ag 3) ah)))) (hSub (ag 2) (ag 5)))))
 (a7 (aR bM (ae (ag 2) ah)))))
def Bk:List D->Dm D:=eA 6 D1
def Bl:Stmt:=top 6
theorem Bm:az ["turning","k","led","ring","place","number"] ["turning","k"] (av Bl):=⟨rfl,rfl,rfl,by decide +kernel,rfl,by decide +kernel,by decide +kernel⟩
theorem QC {f:Addr} {fd:FuncData} (D:Def K mg "often" Bl ["turning","k"] f fd) (T:Txt mg)  {jn:Addr} {jo:FuncData} (eW:Def K mg "rings_of" Bj ["turning"] jn jo) (kM:aD P w K mg base bh 2 jn jo ["turning"] (bj K 1 Bi)):aD P w K mg base bh 3 f fd ["turning","k"] (bj K 2 Bk):=by
 refine D.F.ok Bm (fun vs H Q E h=>h.1) (fun cdv A outer s H vs Q E hr h=>?_)
 have hu:=hr.units
 have hu1:=e8 hr
 refine ⟨_,(@bx _ _ _ _ _ (@cq (i:=2) _ _ _ _ _ _ Bm.nd rfl (by first | exact Or.inl rfl | exact Or.inr rfl) (bC Ij (@ml _ _ _ _ (@ao _ _ _ _ _ aI ax (by rfl))) (j5 lu (by rfl) T.cw lx (@ao _ _ _ _ _ (pv 0) ax (by rfl)))) (by rfl) (by first | exact .inl rfl | exact .inr rfl | assumption))
  (@bx _ _ _ _ _ (@l9 _ _ _ _ _ _ _ _ PassesOwn.never rfl (o3 (bY kM (hr.mono (by decide)) rfl eW.m eW.F.kp eW.b .nil aC (@ao _ _ _ _ _ (pv 0) ax (by rfl)))) (eo (i:=3) Bm.nd rfl (by first | exact Or.inl rfl | exact Or.inr rfl)) (@bA _ _ _ (@l9 _ _ _ _ _ _ _ _ PassesOwn.never rfl (I0 rfl T.lb (@ao _ _ _ _ _ (pv 3) ax (by rfl))) (sF (n:=2) rfl (mz (eo (i:=4) Bm.nd rfl (by first | exact Or.inl rfl | exact Or.inr rfl)) (mz (eo (i:=5) Bm.nd rfl (by first | exact Or.inl rfl | exact Or.inr rfl)) sE))) (@bA _ _ _ (rq (@bE _ _ _ _ _ _ _ cb (pv 3) (bC pq (bC jZ (pv 4) (pv 1)) (j5 lu (by rfl) T.cw lx (@ao _ _ _ _ _ (pv 3) ax (by rfl)))) (fun _ _=>rfl)) (xx (pv 2) (pv 5) xE))) (by intro _;rfl))) (by intro _;rfl))
  (@bA _ _ _ (@dr _ _ _ _ (fI nE (by rfl) T.bG mN (@ao _ _ _ _ _ (pv 2) ax (by rfl))))))),?_⟩
 exact ft (b:=D1) (bz (bQ (aB Kg (mr (aq (aJ _) ay)) (cv lB (aq (ai 0) ay))) (a5 2))
  (bz (mf (pg (bZ (F:=Bi) (aq (ai 0) ay) (aV (fun _ _ _ _ h=>b5 h)))) (a5 3) (mf (Kj (aq (ai 3) ay)) (tW (mI (a5 4) (mI (a5 5) tV))) (bQ (aB bR (ai 3) (aB pF (aB j6 (ai 4) (ai 1)) (cv lB (aq (ai 3) ay)))) (xW (ai 2) (ai 5)))))
  (du (cv mY (aq (ai 2) ay))))) rfl h
def D2:au->Dm Fl :=
 (a7 (bB (ae (aA aK (ag 0) (fC (.int 0))) (ae (aR oX (ae (aR Bk (ae (aA aK (ag 0) (fC (.int 0))) (ae (pE kH (ag 1)) ah))) (ae (aA aK (ag 0) (fC (.int 1))) ah))) ah))))
def Bn:List D->Dm D:=eA 2 D2
def Bo:Stmt:=top 37
theorem QD:az ["floor","k"] ["floor","k"] (av Bo):=⟨rfl,rfl,rfl,by decide +kernel,rfl,by decide +kernel,by decide +kernel⟩
theorem QE {f:Addr} {fd:FuncData} (D:Def K mg "sheared" Bo ["floor","k"] f fd) (T:Txt mg)  {dG:Addr} {dH:FuncData} (aT:Def K mg "followed" yb ["one","other"] dG dH) (cM:aD P w K mg base bh 1 dG dH ["one","other"] (bj K 2 oX)) {nt:Addr} {nu:FuncData} (kN:Def K mg "often" Bl ["turning","k"] nt nu) (ot:aD P w K mg base bh 3 nt nu ["turning","k"] (bj K 2 Bk)):aD P w K mg base bh 4 f fd ["floor","k"] (bj K 2 Bn):=by
 refine D.F.ok QD (fun vs H Q E h=>h.1) (fun cdv A outer s H vs Q E hr h=>?_)
 have hu:=hr.units
 have hu1:=e8 hr
 refine ⟨_,(@bA _ _ _ (@dr _ _ _ _ (@eB _ _ _ _ _ (@ao _ _ _ _ _ (@bE _ _ _ _ _ _ _ cb (pv 0) aI (fun _ _=>rfl)) (@ao _ _ _ _ _ (bY cM (hr.mono (by decide)) rfl aT.m aT.F.kp aT.b .nil aC (@ao _ _ _ _ _ (bY ot (hr.mono (by decide)) rfl kN.m kN.F.kp kN.b .nil aC (@ao _ _ _ _ _ (@bE _ _ _ _ _ _ _ cb (pv 0) aI (fun _ _=>rfl)) (@ao _ _ _ _ _ (qJ qL (pv 1)) ax (by rfl)) (by rfl))) (@ao _ _ _ _ _ (@bE _ _ _ _ _ _ _ cb (pv 0) aI (fun _ _=>rfl)) ax (by rfl)) (by rfl))) ax (by rfl)) (by rfl))))),?_⟩
 exact ft (b:=D2) (du (eC (aq (aB bR (ai 0) (aJ _)) (aq (bZ (F:=oX) (aq (bZ (F:=Bk) (aq (aB bR (ai 0) (aJ _)) (aq (qU qW (ai 1)) ay)) (aV (aV (fun _ _ _ _ h=>b5 h)))) (aq (aB bR (ai 0) (aJ _)) ay)) (aV (aV (fun _ _ _ _ h=>b5 h)))) ay)))) rfl h
def D3:au->Dm Fl :=
 (a7 (bB (ae (aR qD (ae (aA aK (ag 0) (fC (.int 1))) ah)) (ae (aA aK (ag 0) (fC (.int 0))) ah))))
def Bp:List D->Dm D:=eA 1 D3
def Bq:Stmt:=top 38
theorem QF:az ["floor"] ["floor"] (av Bq):=⟨rfl,rfl,rfl,by decide +kernel,rfl,by decide +kernel,by decide +kernel⟩
theorem QG {f:Addr} {fd:FuncData} (D:Def K mg "quartered" Bq ["floor"] f fd) (T:Txt mg)  {bu:Addr} {bw:FuncData} (aO:Def K mg "turned_back" xf ["turning"] bu bw) (bH:aD P w K mg base bh 1 bu bw ["turning"] (bj K 1 qD)):aD P w K mg base bh 2 f fd ["floor"] (bj K 1 Bp):=by
 refine D.F.ok QF (fun vs H Q E h=>h.1) (fun cdv A outer s H vs Q E hr h=>?_)
 have hu:=hr.units
 have hu1:=e8 hr
 refine ⟨_,(@bA _ _ _ (@dr _ _ _ _ (@eB _ _ _ _ _ (@ao _ _ _ _ _ (bY bH (hr.mono (by decide)) rfl aO.m aO.F.kp aO.b .nil aC (@ao _ _ _ _ _ (@bE _ _ _ _ _ _ _ cb (pv 0) aI (fun _ _=>rfl)) ax (by rfl))) (@ao _ _ _ _ _ (@bE _ _ _ _ _ _ _ cb (pv 0) aI (fun _ _=>rfl)) ax (by rfl)) (by rfl))))),?_⟩
 exact ft (b:=D3) (du (eC (aq (bZ (F:=qD) (aq (aB bR (ai 0) (aJ _)) ay) (aV (fun _ _ _ _ h=>b5 h))) (aq (aB bR (ai 0) (aJ _)) ay)))) rfl h
def D4:au->Dm Fl :=
 (aF (jH (aP (aA (kr false) (aA aK (ag 1) (fC (.int 0))) (fC (.str "s")))) (a7 (aR Bn (ae (ag 0) (ae (aA aK (ag 1) (fC (.int 1))) ah)))) b6)
 (aF (aM (ag 0) (hName 2))
 (aF (dC (bS (ae (aA aK (ag 1) (fC (.int 1))) ah)) (hName 3) (aM (aR Bp (ae (ag 2) ah)) (hName 2)))
 (a7 (ag 2)))))
def Br:List D->Dm D:=eA 4 D4
def Bs:Stmt:=top 40
theorem D5:az ["floor","step","led","turn"] ["floor","step"] (av Bs):=⟨rfl,rfl,rfl,by decide +kernel,rfl,by decide +kernel,by decide +kernel⟩
theorem QH {f:Addr} {fd:FuncData} (D:Def K mg "led_by_step" Bs ["floor","step"] f fd) (T:Txt mg)  {ke:Addr} {kf:FuncData} (gD:Def K mg "sheared" Bo ["floor","k"] ke kf) (lT:aD P w K mg base bh 4 ke kf ["floor","k"] (bj K 2 Bn)) {gW:Addr} {gX:FuncData} (dJ:Def K mg "quartered" Bq ["floor"] gW gX) (jN:aD P w K mg base bh 2 gW gX ["floor"] (bj K 1 Bp)):aD P w K mg base bh 5 f fd ["floor","step"] (bj K 2 Br):=by
 refine D.F.ok D5 (fun vs H Q E h=>h.1) (fun cdv A outer s H vs Q E hr h=>?_)
 have hu:=hr.units
 have hu1:=e8 hr
 refine ⟨_,(@bx _ _ _ _ _ (@kz _ _ _ _ _ _ _ _ (iA nD (@bE _ _ _ _ _ _ _ cb (pv 1) aI (fun _ _=>rfl)) l8 (aS _)) (@bA _ _ _ (@dr _ _ _ _ (bY lT (hr.mono (by decide)) rfl gD.m gD.F.kp gD.b .nil aC (@ao _ _ _ _ _ (pv 0) (@ao _ _ _ _ _ (@bE _ _ _ _ _ _ _ cb (pv 1) aI (fun _ _=>rfl)) ax (by rfl)) (by rfl))))) lr)
  (@bx _ _ _ _ _ (@cq (i:=2) _ _ _ _ _ _ D5.nd rfl (by first | exact Or.inl rfl | exact Or.inr rfl) (pv 0) (by rfl) (by first | exact .inl rfl | exact .inr rfl | assumption))
  (@bx _ _ _ _ _ (@l9 _ _ _ _ _ _ _ _ PassesOwn.never rfl (nZ rfl T.aY (@ao _ _ _ _ _ (@bE _ _ _ _ _ _ _ cb (pv 1) aI (fun _ _=>rfl)) ax (by rfl))) (eo (i:=3) D5.nd rfl (by first | exact Or.inl rfl | exact Or.inr rfl)) (@bA _ _ _ (@cq (i:=2) _ _ _ _ _ _ D5.nd rfl (by first | exact Or.inl rfl | exact Or.inr rfl) (bY jN (hr.mono (by decide)) rfl dJ.m dJ.F.kp dJ.b .nil aC (@ao _ _ _ _ _ (pv 2) ax (by rfl))) (by rfl) (by first | exact .inl rfl | exact .inr rfl | assumption))) (by intro _;rfl))
  (@bA _ _ _ (@dr _ _ _ _ (pv 2)))))),?_⟩
 exact ft (b:=D4) (bz (kJ (gN (aB nH (aB bR (ai 1) (aJ _)) (md _))) (du (bZ (F:=Bn) (aq (ai 0) (aq (aB bR (ai 1) (aJ _)) ay)) (aV (aV (fun _ _ _ _ h=>b5 h))))) lC)
  (bz (bQ (ai 0) (a5 2))
  (bz (mf (n8 (aq (aB bR (ai 1) (aJ _)) ay)) (a5 3) (bQ (bZ (F:=Bp) (aq (ai 2) ay) (aV (fun _ _ _ _ h=>b5 h))) (a5 2)))
  (du (ai 2))))) rfl h
def D6:au->Dm Fl :=
 (aF (aM (ag 0) (hName 2))
 (aF (dC (er (ag 1)) (hName 3) (aM (aR Br (ae (ag 2) (ae (ag 3) ah))) (hName 2)))
 (a7 (ag 2))))
def Bt:List D->Dm D:=eA 4 D6
def Bu:Stmt:=top 39
theorem D7:az ["floor","word","led","step"] ["floor","word"] (av Bu):=⟨rfl,rfl,rfl,by decide +kernel,rfl,by decide +kernel,by decide +kernel⟩
theorem QI {f:Addr} {fd:FuncData} (D:Def K mg "led_by" Bu ["floor","word"] f fd) (T:Txt mg)  {eM:Addr} {eN:FuncData} (cO:Def K mg "led_by_step" Bs ["floor","step"] eM eN) (gY:aD P w K mg base bh 5 eM eN ["floor","step"] (bj K 2 Br)):aD P w K mg base bh 6 f fd ["floor","word"] (bj K 2 Bt):=by
 refine D.F.ok D7 (fun vs H Q E h=>h.1) (fun cdv A outer s H vs Q E hr h=>?_)
 have hu:=hr.units
 have hu1:=e8 hr
 refine ⟨_,(@bx _ _ _ _ _ (@cq (i:=2) _ _ _ _ _ _ D7.nd rfl (by first | exact Or.inl rfl | exact Or.inr rfl) (pv 0) (by rfl) (by first | exact .inl rfl | exact .inr rfl | assumption))
  (@bx _ _ _ _ _ (@l9 _ _ _ _ _ _ _ _ PassesOwn.never rfl (o3 (pv 1)) (eo (i:=3) D7.nd rfl (by first | exact Or.inl rfl | exact Or.inr rfl)) (@bA _ _ _ (@cq (i:=2) _ _ _ _ _ _ D7.nd rfl (by first | exact Or.inl rfl | exact Or.inr rfl) (bY gY (hr.mono (by decide)) rfl cO.m cO.F.kp cO.b .nil aC (@ao _ _ _ _ _ (pv 2) (@ao _ _ _ _ _ (pv 3) ax (by rfl)) (by rfl))) (by rfl) (by first | exact .inl rfl | exact .inr rfl | assumption))) (by intro _;rfl))
  (@bA _ _ _ (@dr _ _ _ _ (pv 2))))),?_⟩
 exact ft (b:=D6) (bz (bQ (ai 0) (a5 2))
  (bz (mf (pg (ai 1)) (a5 3) (bQ (bZ (F:=Br) (aq (ai 2) (aq (ai 3) ay)) (aV (aV (fun _ _ _ _ h=>b5 h)))) (a5 2)))
  (du (ai 2)))) rfl h
def D8:au->Dm Fl :=
 (a7 (bB (ae (aA cV (aA cf (aA aK (ag 0) (fC (.int 0))) (aA aK (ag 1) (fC (.int 0)))) (aA cf (aA aK (ag 0) (fC (.int 1))) (aA aK (ag 1) (fC (.int 1))))) (ae (aA cV (aA cf (aA aK (ag 0) (fC (.int 2))) (aA aK (ag 1) (fC (.int 0)))) (aA cf (aA aK (ag 0) (fC (.int 3))) (aA aK (ag 1) (fC (.int 1))))) ah))))
def Bv:List D->Dm D:=eA 2 D8
def Bw:Stmt:=top 19
theorem QJ:az ["table","pair"] ["table","pair"] (av Bw):=⟨rfl,rfl,rfl,by decide +kernel,rfl,by decide +kernel,by decide +kernel⟩
theorem QK {f:Addr} {fd:FuncData} (D:Def K mg "led_pair" Bw ["table","pair"] f fd) (T:Txt mg)  :aD P w K mg base bh 1 f fd ["table","pair"] (bj K 2 Bv):=by
 refine D.F.ok QJ (fun vs H Q E h=>h.1) (fun cdv A outer s H vs Q E hr h=>?_)
 have hu:=hr.units
 have hu1:=e8 hr
 refine ⟨_,(@bA _ _ _ (@dr _ _ _ _ (@eB _ _ _ _ _ (@ao _ _ _ _ _ (bC jZ (bC ma (@bE _ _ _ _ _ _ _ cb (pv 0) aI (fun _ _=>rfl)) (@bE _ _ _ _ _ _ _ cb (pv 1) aI (fun _ _=>rfl))) (bC ma (@bE _ _ _ _ _ _ _ cb (pv 0) aI (fun _ _=>rfl)) (@bE _ _ _ _ _ _ _ cb (pv 1) aI (fun _ _=>rfl)))) (@ao _ _ _ _ _ (bC jZ (bC ma (@bE _ _ _ _ _ _ _ cb (pv 0) aI (fun _ _=>rfl)) (@bE _ _ _ _ _ _ _ cb (pv 1) aI (fun _ _=>rfl))) (bC ma (@bE _ _ _ _ _ _ _ cb (pv 0) aI (fun _ _=>rfl)) (@bE _ _ _ _ _ _ _ cb (pv 1) aI (fun _ _=>rfl)))) ax (by rfl)) (by rfl))))),?_⟩
 exact ft (b:=D8) (du (eC (aq (aB j6 (aB mj (aB bR (ai 0) (aJ _)) (aB bR (ai 1) (aJ _))) (aB mj (aB bR (ai 0) (aJ _)) (aB bR (ai 1) (aJ _)))) (aq (aB j6 (aB mj (aB bR (ai 0) (aJ _)) (aB bR (ai 1) (aJ _))) (aB mj (aB bR (ai 0) (aJ _)) (aB bR (ai 1) (aJ _)))) ay)))) rfl h
def D9:au->Dm Fl :=
 (aF (jH (aP (aA (kr false) (ag 0) (fC (.int 0)))) (a7 (bB ah)) b6)
 (a7 (bB (ae (bB (ae (fC (.str "s")) (ae (ag 0) ah))) ah))))
def rf:List D->Dm D:=eA 1 D9
def ye:Stmt:=top 34
theorem QL:az ["k"] ["k"] (av ye):=⟨rfl,rfl,rfl,by decide +kernel,rfl,by decide +kernel,by decide +kernel⟩
theorem QM {f:Addr} {fd:FuncData} (D:Def K mg "shears" ye ["k"] f fd) (T:Txt mg)  :aD P w K mg base bh 1 f fd ["k"] (bj K 1 rf):=by
 refine D.F.ok QL (fun vs H Q E h=>h.1) (fun cdv A outer s H vs Q E hr h=>?_)
 have hu:=hr.units
 have hu1:=e8 hr
 refine ⟨_,(@bx _ _ _ _ _ (@kz _ _ _ _ _ _ _ _ (iA nD (pv 0) aI (aS _)) (@bA _ _ _ (@dr _ _ _ _ (@eB _ _ _ _ _ ax))) lr)
  (@bA _ _ _ (@dr _ _ _ _ (@eB _ _ _ _ _ (@ao _ _ _ _ _ (@eB _ _ _ _ _ (@ao _ _ _ _ _ l8 (@ao _ _ _ _ _ (pv 0) ax (by rfl)) (by rfl))) ax (by rfl)))))),?_⟩
 exact ft (b:=D9) (bz (kJ (gN (aB nH (ai 0) (aJ _))) (du (eC ay)) lC)
  (du (eC (aq (eC (aq (md _) (aq (ai 0) ay))) ay)))) rfl h
def Ea:au->Dm Fl :=
 (a7 (bB (ae (aA cV (aA cf (aA aK (ag 0) (fC (.int 0))) (aA aK (ag 1) (fC (.int 0)))) (aA cf (aA aK (ag 0) (fC (.int 1))) (aA aK (ag 1) (fC (.int 2))))) (ae (aA cV (aA cf (aA aK (ag 0) (fC (.int 0))) (aA aK (ag 1) (fC (.int 1)))) (aA cf (aA aK (ag 0) (fC (.int 1))) (aA aK (ag 1) (fC (.int 3))))) (ae (aA cV (aA cf (aA aK (ag 0) (fC (.int 2))) (aA aK (ag 1) (fC (.int 0)))) (aA cf (aA aK (ag 0) (fC (.int 3))) (aA aK (ag 1) (fC (.int 2))))) (ae (aA cV (aA cf (aA aK (ag 0) (fC (.int 2))) (aA aK (ag 1) (fC (.int 1)))) (aA cf (aA aK (ag 0) (fC (.int 3))) (aA aK (ag 1) (fC (.int 3))))) ah))))))
def qE:List D->Dm D:=eA 2 Ea
def xg:Stmt:=top 18
theorem QN:az ["one","other"] ["one","other"] (av xg):=⟨rfl,rfl,rfl,by decide +kernel,rfl,by decide +kernel,by decide +kernel⟩
theorem QO {f:Addr} {fd:FuncData} (D:Def K mg "times" xg ["one","other"] f fd) (T:Txt mg)  :aD P w K mg base bh 1 f fd ["one","other"] (bj K 2 qE):=by
 refine D.F.ok QN (fun vs H Q E h=>h.1) (fun cdv A outer s H vs Q E hr h=>?_)
 have hu:=hr.units
 have hu1:=e8 hr
 refine ⟨_,(@bA _ _ _ (@dr _ _ _ _ (@eB _ _ _ _ _ (@ao _ _ _ _ _ (bC jZ (bC ma (@bE _ _ _ _ _ _ _ cb (pv 0) aI (fun _ _=>rfl)) (@bE _ _ _ _ _ _ _ cb (pv 1) aI (fun _ _=>rfl))) (bC ma (@bE _ _ _ _ _ _ _ cb (pv 0) aI (fun _ _=>rfl)) (@bE _ _ _ _ _ _ _ cb (pv 1) aI (fun _ _=>rfl)))) (@ao _ _ _ _ _ (bC jZ (bC ma (@bE _ _ _ _ _ _ _ cb (pv 0) aI (fun _ _=>rfl)) (@bE _ _ _ _ _ _ _ cb (pv 1) aI (fun _ _=>rfl))) (bC ma (@bE _ _ _ _ _ _ _ cb (pv 0) aI (fun _ _=>rfl)) (@bE _ _ _ _ _ _ _ cb (pv 1) aI (fun _ _=>rfl)))) (@ao _ _ _ _ _ (bC jZ (bC ma (@bE _ _ _ _ _ _ _ cb (pv 0) aI (fun _ _=>rfl)) (@bE _ _ _ _ _ _ _ cb (pv 1) aI (fun _ _=>rfl))) (bC ma (@bE _ _ _ _ _ _ _ cb (pv 0) aI (fun _ _=>rfl)) (@bE _ _ _ _ _ _ _ cb (pv 1) aI (fun _ _=>rfl)))) (@ao _ _ _ _ _ (bC jZ (bC ma (@bE _ _ _ _ _ _ _ cb (pv 0) aI (fun _ _=>rfl)) (@bE _ _ _ _ _ _ _ cb (pv 1) aI (fun _ _=>rfl))) (bC ma (@bE _ _ _ _ _ _ _ cb (pv 0) aI (fun _ _=>rfl)) (@bE _ _ _ _ _ _ _ cb (pv 1) aI (fun _ _=>rfl)))) ax (by rfl)) (by rfl)) (by rfl)) (by rfl))))),?_⟩
 exact ft (b:=Ea) (du (eC (aq (aB j6 (aB mj (aB bR (ai 0) (aJ _)) (aB bR (ai 1) (aJ _))) (aB mj (aB bR (ai 0) (aJ _)) (aB bR (ai 1) (aJ _)))) (aq (aB j6 (aB mj (aB bR (ai 0) (aJ _)) (aB bR (ai 1) (aJ _))) (aB mj (aB bR (ai 0) (aJ _)) (aB bR (ai 1) (aJ _)))) (aq (aB j6 (aB mj (aB bR (ai 0) (aJ _)) (aB bR (ai 1) (aJ _))) (aB mj (aB bR (ai 0) (aJ _)) (aB bR (ai 1) (aJ _)))) (aq (aB j6 (aB mj (aB bR (ai 0) (aJ _)) (aB bR (ai 1) (aJ _))) (aB mj (aB bR (ai 0) (aJ _)) (aB bR (ai 1) (aJ _)))) ay)))))) rfl h
def Eb:au->Dm Fl :=
 (aF (jH (aP (aA (kr false) (aA aK (ag 0) (fC (.int 0))) (fC (.str "s")))) (a7 (bB (ae (fC (.int 1)) (ae (aA aK (ag 0) (fC (.int 1))) (ae (fC (.int 0)) (ae (fC (.int 1)) ah)))))) b6)
 (aF (aM (fC (.tup [(.int 1),(.int 0),(.int 0),(.int 1)])) (hName 1))
 (aF (dC (bS (ae (aA aK (ag 0) (fC (.int 1))) ah)) (hName 2) (aM (aR qE (ae (fC (.tup [(.int 0),(.int (-1)),(.int 1),(.int 0)])) (ae (ag 1) ah))) (hName 1)))
 (a7 (ag 1)))))
def Bx:List D->Dm D:=eA 3 Eb
def By:Stmt:=top 23
theorem Ec:az ["step","table","turn"] ["step"] (av By):=⟨rfl,rfl,rfl,by decide +kernel,rfl,by decide +kernel,by decide +kernel⟩
theorem QP {f:Addr} {fd:FuncData} (D:Def K mg "step_table" By ["step"] f fd) (T:Txt mg) {lU:V} (kg:pR K mg "QUARTER" lU (.tup [(.int 0),(.int (-1)),(.int 1),(.int 0)])) {iT:V} (d7:pR K mg "UNMOVED" iT (.tup [(.int 1),(.int 0),(.int 0),(.int 1)])) {f9:Addr} {gb:FuncData} (cU:Def K mg "times" xg ["one","other"] f9 gb) (gZ:aD P w K mg base bh 1 f9 gb ["one","other"] (bj K 2 qE)):aD P w K mg base bh 2 f fd ["step"] (bj K 1 Bx):=by
 refine D.F.ok Ec (fun vs H Q E h=>h.1) (fun cdv A outer s H vs Q E hr h=>?_)
 have hu:=hr.units
 have hu1:=e8 hr
 refine ⟨_,(@bx _ _ _ _ _ (@kz _ _ _ _ _ _ _ _ (iA nD (@bE _ _ _ _ _ _ _ cb (pv 0) aI (fun _ _=>rfl)) l8 (aS _)) (@bA _ _ _ (@dr _ _ _ _ (@eB _ _ _ _ _ (@ao _ _ _ _ _ aI (@ao _ _ _ _ _ (@bE _ _ _ _ _ _ _ cb (pv 0) aI (fun _ _=>rfl)) (@ao _ _ _ _ _ aI (@ao _ _ _ _ _ aI ax (by rfl)) (by rfl)) (by rfl)) (by rfl))))) lr)
  (@bx _ _ _ _ _ (@cq (i:=1) _ _ _ _ _ _ Ec.nd rfl (by first | exact Or.inl rfl | exact Or.inr rfl) (GD d7 rfl rfl (by decide)) (by rfl) (by first | exact .inl rfl | exact .inr rfl | assumption))
  (@bx _ _ _ _ _ (@l9 _ _ _ _ _ _ _ _ PassesOwn.never rfl (nZ rfl T.aY (@ao _ _ _ _ _ (@bE _ _ _ _ _ _ _ cb (pv 0) aI (fun _ _=>rfl)) ax (by rfl))) (eo (i:=2) Ec.nd rfl (by first | exact Or.inl rfl | exact Or.inr rfl)) (@bA _ _ _ (@cq (i:=1) _ _ _ _ _ _ Ec.nd rfl (by first | exact Or.inl rfl | exact Or.inr rfl) (bY gZ (hr.mono (by decide)) rfl cU.m cU.F.kp cU.b .nil aC (@ao _ _ _ _ _ (GD kg rfl rfl (by decide)) (@ao _ _ _ _ _ (pv 1) ax (by rfl)) (by rfl))) (by rfl) (by first | exact .inl rfl | exact .inr rfl | assumption))) (by intro _;rfl))
  (@bA _ _ _ (@dr _ _ _ _ (pv 1)))))),?_⟩
 exact ft (b:=Eb) (bz (kJ (gN (aB nH (aB bR (ai 0) (aJ _)) (md _))) (du (eC (aq (aJ _) (aq (aB bR (ai 0) (aJ _)) (aq (aJ _) (aq (aJ _) ay)))))) lC)
  (bz (bQ (GF d7) (a5 1))
  (bz (mf (n8 (aq (aB bR (ai 0) (aJ _)) ay)) (a5 2) (bQ (bZ (F:=qE) (aq (GF kg) (aq (ai 1) ay)) (aV (aV (fun _ _ _ _ h=>b5 h)))) (a5 1)))
  (du (ai 1))))) rfl h
def Ed:au->Dm Fl :=
 (aF (aM (fC (.tup [(.int 1),(.int 0),(.int 0),(.int 1)])) (hName 1))
 (aF (dC (er (ag 0)) (hName 2) (aM (aR qE (ae (aR Bx (ae (ag 2) ah)) (ae (ag 1) ah))) (hName 1)))
 (a7 (ag 1))))
def uj:List D->Dm D:=eA 3 Ed
def yf:Stmt:=top 24
theorem Ee:az ["word","table","step"] ["word"] (av yf):=⟨rfl,rfl,rfl,by decide +kernel,rfl,by decide +kernel,by decide +kernel⟩
theorem QQ {f:Addr} {fd:FuncData} (D:Def K mg "table_of" yf ["word"] f fd) (T:Txt mg) {iT:V} (d7:pR K mg "UNMOVED" iT (.tup [(.int 1),(.int 0),(.int 0),(.int 1)])) {f9:Addr} {gb:FuncData} (cU:Def K mg "times" xg ["one","other"] f9 gb) (gZ:aD P w K mg base bh 1 f9 gb ["one","other"] (bj K 2 qE)) {fN:Addr} {fO:FuncData} (c7:Def K mg "step_table" By ["step"] fN fO) (iU:aD P w K mg base bh 2 fN fO ["step"] (bj K 1 Bx)):aD P w K mg base bh 3 f fd ["word"] (bj K 1 uj):=by
 refine D.F.ok Ee (fun vs H Q E h=>h.1) (fun cdv A outer s H vs Q E hr h=>?_)
 have hu:=hr.units
 have hu1:=e8 hr
 refine ⟨_,(@bx _ _ _ _ _ (@cq (i:=1) _ _ _ _ _ _ Ee.nd rfl (by first | exact Or.inl rfl | exact Or.inr rfl) (GD d7 rfl rfl (by decide)) (by rfl) (by first | exact .inl rfl | exact .inr rfl | assumption))
  (@bx _ _ _ _ _ (@l9 _ _ _ _ _ _ _ _ PassesOwn.never rfl (o3 (pv 0)) (eo (i:=2) Ee.nd rfl (by first | exact Or.inl rfl | exact Or.inr rfl)) (@bA _ _ _ (@cq (i:=1) _ _ _ _ _ _ Ee.nd rfl (by first | exact Or.inl rfl | exact Or.inr rfl) (bY gZ (hr.mono (by decide)) rfl cU.m cU.F.kp cU.b .nil aC (@ao _ _ _ _ _ (bY iU (hr.mono (by decide)) rfl c7.m c7.F.kp c7.b .nil aC (@ao _ _ _ _ _ (pv 2) ax (by rfl))) (@ao _ _ _ _ _ (pv 1) ax (by rfl)) (by rfl))) (by rfl) (by first | exact .inl rfl | exact .inr rfl | assumption))) (by intro _;rfl))
  (@bA _ _ _ (@dr _ _ _ _ (pv 1))))),?_⟩
 exact ft (b:=Ed) (bz (bQ (GF d7) (a5 1))
  (bz (mf (pg (ai 0)) (a5 2) (bQ (bZ (F:=qE) (aq (bZ (F:=Bx) (aq (ai 2) ay) (aV (fun _ _ _ _ h=>b5 h))) (aq (ai 1) ay)) (aV (aV (fun _ _ _ _ h=>b5 h)))) (a5 1)))
  (du (ai 1)))) rfl h
def Ef:au->Dm Fl :=
 (a7 (aA ni (aA cV (aA kG (fC (.int 2)) (ag 0)) (ag 1)) (aA kG (fC (.int 2)) (ag 1))))
def Bz:List D->Dm D:=eA 2 Ef
def BA:Stmt:=top 33
theorem QR:az ["number","divisor"] ["number","divisor"] (av BA):=⟨rfl,rfl,rfl,by decide +kernel,rfl,by decide +kernel,by decide +kernel⟩
theorem QS {f:Addr} {fd:FuncData} (D:Def K mg "nearest" BA ["number","divisor"] f fd) (T:Txt mg)  :aD P w K mg base bh 1 f fd ["number","divisor"] (bj K 2 Bz):=by
 refine D.F.ok QR (fun vs H Q E h=>h.1) (fun cdv A outer s H vs Q E hr h=>?_)
 have hu:=hr.units
 have hu1:=e8 hr
 refine ⟨_,(@bA _ _ _ (@dr _ _ _ _ (bC Nh (bC jZ (bC qK aI (pv 0)) (pv 1)) (bC qK aI (pv 1))))),?_⟩
 exact ft (b:=Ef) (du (aB P1 (aB j6 (aB qV (aJ _) (ai 0)) (ai 1)) (aB qV (aJ _) (ai 1)))) rfl h
def Eg:au->Dm Fl :=
 (aF (aM (bB ah) (hName 1))
 (aF (aM (ag 0) (hName 2))
 (aF (iO (aP (aA (kr true) (aA aK (ag 2) (fC (.int 1))) (fC (.int 0)))) (aF (aM (aA iB (aR rf (ae (pE kH (aR Bz (ae (aA aK (ag 2) (fC (.int 0))) (ae (aA aK (ag 2) (fC (.int 1))) ah)))) ah)) (bB (ae (bB (ae (fC (.str "t")) (ae (fC (.int 1)) ah))) ah))) (hName 3))
 (aF (aM (aR Bv (ae (aR uj (ae (ag 3) ah)) (ae (ag 2) ah))) (hName 2))
 (aM (aA iB (ag 1) (ag 3)) (hName 1)))))
 (a7 (ag 1)))))
def BB:List D->Dm D:=eA 4 Eg
def BD:Stmt:=top 32
theorem yg:az ["pair","gone","left","steps"] ["pair"] (av BD):=⟨rfl,rfl,rfl,by decide +kernel,rfl,by decide +kernel,by decide +kernel⟩
theorem QT {f:Addr} {fd:FuncData} (D:Def K mg "level_steps" BD ["pair"] f fd) (T:Txt mg)  {jq:Addr} {jr:FuncData} (eX:Def K mg "led_pair" Bw ["table","pair"] jq jr) (kO:aD P w K mg base bh 1 jq jr ["table","pair"] (bj K 2 Bv)) {g5:Addr} {g7:FuncData} (cx:Def K mg "shears" ye ["k"] g5 g7) (g8:aD P w K mg base bh 1 g5 g7 ["k"] (bj K 1 rf)) {dM:Addr} {dN:FuncData} (bW:Def K mg "table_of" yf ["word"] dM dN) (eY:aD P w K mg base bh 3 dM dN ["word"] (bj K 1 uj)) {kh:Addr} {ki:FuncData} (gE:Def K mg "nearest" BA ["number","divisor"] kh ki) (lV:aD P w K mg base bh 1 kh ki ["number","divisor"] (bj K 2 Bz)):aD P w K mg base bh 4 f fd ["pair"] (bj K 1 BB):=by
 refine D.F.ok yg (fun vs H Q E h=>h.1) (fun cdv A outer s H vs Q E hr h=>?_)
 have hu:=hr.units
 have hu1:=e8 hr
 refine ⟨_,(@bx _ _ _ _ _ (@cq (i:=1) _ _ _ _ _ _ yg.nd rfl (by first | exact Or.inl rfl | exact Or.inr rfl) (@eB _ _ _ _ _ ax) (by rfl) (by first | exact .inl rfl | exact .inr rfl | assumption))
  (@bx _ _ _ _ _ (@cq (i:=2) _ _ _ _ _ _ yg.nd rfl (by first | exact Or.inl rfl | exact Or.inr rfl) (pv 0) (by rfl) (by first | exact .inl rfl | exact .inr rfl | assumption))
  (@bx _ _ _ _ _ (xy PassesOwn.never (iA Cq (@bE _ _ _ _ _ _ _ cb (pv 2) aI (fun _ _=>rfl)) aI (aS _)) (@bx _ _ _ _ _ (@cq (i:=3) _ _ _ _ _ _ yg.nd rfl (by first | exact Or.inl rfl | exact Or.inr rfl) (bC rD (bY g8 (hr.mono (by decide)) rfl cx.m cx.F.kp cx.b .nil aC (@ao _ _ _ _ _ (qJ qL (bY lV (hr.mono (by decide)) rfl gE.m gE.F.kp gE.b .nil aC (@ao _ _ _ _ _ (@bE _ _ _ _ _ _ _ cb (pv 2) aI (fun _ _=>rfl)) (@ao _ _ _ _ _ (@bE _ _ _ _ _ _ _ cb (pv 2) aI (fun _ _=>rfl)) ax (by rfl)) (by rfl)))) ax (by rfl))) (@eB _ _ _ _ _ (@ao _ _ _ _ _ (@eB _ _ _ _ _ (@ao _ _ _ _ _ l8 (@ao _ _ _ _ _ aI ax (by rfl)) (by rfl))) ax (by rfl)))) (by rfl) (by first | exact .inl rfl | exact .inr rfl | assumption))
  (@bx _ _ _ _ _ (@cq (i:=2) _ _ _ _ _ _ yg.nd rfl (by first | exact Or.inl rfl | exact Or.inr rfl) (bY kO (hr.mono (by decide)) rfl eX.m eX.F.kp eX.b .nil aC (@ao _ _ _ _ _ (bY eY (hr.mono (by decide)) rfl bW.m bW.F.kp bW.b .nil aC (@ao _ _ _ _ _ (pv 3) ax (by rfl))) (@ao _ _ _ _ _ (pv 2) ax (by rfl)) (by rfl))) (by rfl) (by first | exact .inl rfl | exact .inr rfl | assumption))
  (@bA _ _ _ (@cq (i:=1) _ _ _ _ _ _ yg.nd rfl (by first | exact Or.inl rfl | exact Or.inr rfl) (bC rD (pv 1) (pv 3)) (by rfl) (by first | exact .inl rfl | exact .inr rfl | assumption))))))
  (@bA _ _ _ (@dr _ _ _ _ (pv 1)))))),?_⟩
 exact ft (b:=Eg) (bz (bQ (eC ay) (a5 1))
  (bz (bQ (ai 0) (a5 2))
  (bz (xX (gN (aB Dd (aB bR (ai 2) (aJ _)) (aJ _))) (bz (bQ (aB rZ (bZ (F:=rf) (aq (qU qW (bZ (F:=Bz) (aq (aB bR (ai 2) (aJ _)) (aq (aB bR (ai 2) (aJ _)) ay)) (aV (aV (fun _ _ _ _ h=>b5 h))))) ay) (aV (fun _ _ _ _ h=>b5 h))) (eC (aq (eC (aq (md _) (aq (aJ _) ay))) ay))) (a5 3))
  (bz (bQ (bZ (F:=Bv) (aq (bZ (F:=uj) (aq (ai 3) ay) (aV (fun _ _ _ _ h=>b5 h))) (aq (ai 2) ay)) (aV (aV (fun _ _ _ _ h=>b5 h)))) (a5 2))
  (bQ (aB rZ (ai 1) (ai 3)) (a5 1)))))
  (du (ai 1))))) rfl h
def Eh:au->Dm Fl :=
 (aF (aM (aA cV (aA aK (ag 0) (fC (.int 1))) (aA aK (ag 1) (fC (.int 1)))) (hName 2))
 (aF (jH (aP (aA (kr false) (aA aK (ag 0) (fC (.int 0))) (fC (.str "t")))) (aM (aA jI (ag 2) (fC (.int 4))) (hName 2)) b6)
 (aF (jH (aP (aA (kr false) (ag 2) (fC (.int 0)))) (a7 (bB ah)) b6)
 (a7 (bB (ae (bB (ae (aA aK (ag 0) (fC (.int 0))) (ae (ag 2) ah))) ah))))))
def BE:List D->Dm D:=eA 3 Eh
def BF:Stmt:=top 25
theorem GL:az ["one","other","number"] ["one","other"] (av BF):=⟨rfl,rfl,rfl,by decide +kernel,rfl,by decide +kernel,by decide +kernel⟩
theorem QU {f:Addr} {fd:FuncData} (D:Def K mg "joined" BF ["one","other"] f fd) (T:Txt mg)  :aD P w K mg base bh 1 f fd ["one","other"] (bj K 2 BE):=by
 refine D.F.ok GL (fun vs H Q E h=>h.1) (fun cdv A outer s H vs Q E hr h=>?_)
 have hu:=hr.units
 have hu1:=e8 hr
 refine ⟨_,(@bx _ _ _ _ _ (@cq (i:=2) _ _ _ _ _ _ GL.nd rfl (by first | exact Or.inl rfl | exact Or.inr rfl) (bC jZ (@bE _ _ _ _ _ _ _ cb (pv 0) aI (fun _ _=>rfl)) (@bE _ _ _ _ _ _ _ cb (pv 1) aI (fun _ _=>rfl))) (by rfl) (by first | exact .inl rfl | exact .inr rfl | assumption))
  (@bx _ _ _ _ _ (@kz _ _ _ _ _ _ _ _ (iA nD (@bE _ _ _ _ _ _ _ cb (pv 0) aI (fun _ _=>rfl)) l8 (aS _)) (@bA _ _ _ (@cq (i:=2) _ _ _ _ _ _ GL.nd rfl (by first | exact Or.inl rfl | exact Or.inr rfl) (bC pq (pv 2) aI) (by rfl) (by first | exact .inl rfl | exact .inr rfl | assumption))) lr)
  (@bx _ _ _ _ _ (@kz _ _ _ _ _ _ _ _ (iA nD (pv 2) aI (aS _)) (@bA _ _ _ (@dr _ _ _ _ (@eB _ _ _ _ _ ax))) lr)
  (@bA _ _ _ (@dr _ _ _ _ (@eB _ _ _ _ _ (@ao _ _ _ _ _ (@eB _ _ _ _ _ (@ao _ _ _ _ _ (@bE _ _ _ _ _ _ _ cb (pv 0) aI (fun _ _=>rfl)) (@ao _ _ _ _ _ (pv 2) ax (by rfl)) (by rfl))) ax (by rfl)))))))),?_⟩
 exact ft (b:=Eh) (bz (bQ (aB j6 (aB bR (ai 0) (aJ _)) (aB bR (ai 1) (aJ _))) (a5 2))
  (bz (kJ (gN (aB nH (aB bR (ai 0) (aJ _)) (md _))) (bQ (aB pF (ai 2) (aJ _)) (a5 2)) lC)
  (bz (kJ (gN (aB nH (ai 2) (aJ _))) (du (eC ay)) lC)
  (du (eC (aq (eC (aq (aB bR (ai 0) (aJ _)) (aq (ai 2) ay))) ay)))))) rfl h
def Ei:au->Dm Fl :=
 (aF (aM (bB ah) (hName 1))
 (aF (dC (er (ag 0)) (hName 2) (jH (qi (aP (aA zR (aR dA (ae (ag 1) ah)) (fC (.int 0)))) (aP (aA (kr false) (aA aK (aA aK (ag 1) (pE kH (fC (.int 1)))) (fC (.int 0))) (aA aK (ag 2) (fC (.int 0)))))) (aM (aA iB (vC qk (ag 1) jh (lQ (pE kH (fC (.int 1))))) (aR BE (ae (aA aK (ag 1) (pE kH (fC (.int 1)))) (ae (ag 2) ah)))) (hName 1)) (aM (aA iB (ag 1) (bB (ae (ag 2) ah))) (hName 1))))
 (a7 (ag 1))))
def BG:List D->Dm D:=eA 3 Ei
def BH:Stmt:=top 26
theorem BI:az ["word","plain","step"] ["word"] (av BH):=⟨rfl,rfl,rfl,by decide +kernel,rfl,by decide +kernel,by decide +kernel⟩
theorem QV {f:Addr} {fd:FuncData} (D:Def K mg "made_plain" BH ["word"] f fd) (T:Txt mg)  {lD:Addr} {lE:FuncData} (jt:Def K mg "joined" BF ["one","other"] lD lE) (ny:aD P w K mg base bh 1 lD lE ["one","other"] (bj K 2 BE)):aD P w K mg base bh 2 f fd ["word"] (bj K 1 BG):=by
 refine D.F.ok BI (fun vs H Q E h=>h.1) (fun cdv A outer s H vs Q E hr h=>?_)
 have hu:=hr.units
 have hu1:=e8 hr
 refine ⟨_,(@bx _ _ _ _ _ (@cq (i:=1) _ _ _ _ _ _ BI.nd rfl (by first | exact Or.inl rfl | exact Or.inr rfl) (@eB _ _ _ _ _ ax) (by rfl) (by first | exact .inl rfl | exact .inr rfl | assumption))
  (@bx _ _ _ _ _ (@l9 _ _ _ _ _ _ _ _ PassesOwn.never rfl (o3 (pv 0)) (eo (i:=2) BI.nd rfl (by first | exact Or.inl rfl | exact Or.inr rfl)) (@bA _ _ _ (@kz _ _ _ _ _ _ _ _ (PW.pt (Ht (iA EZ (j5 lu (by rfl) T.cw lx (@ao _ _ _ _ _ (pv 1) ax (by rfl))) aI (aS _)) (Hs (iA nD (@bE _ _ _ _ _ _ _ cb (@bE _ _ _ _ _ _ _ cb (pv 1) (qJ qL aI) (fun _ _=>rfl)) aI (fun _ _=>rfl)) (@bE _ _ _ _ _ _ _ cb (pv 2) aI (fun _ _=>rfl)) (aS _))))) (@bA _ _ _ (@cq (i:=1) _ _ _ _ _ _ BI.nd rfl (by first | exact Or.inl rfl | exact Or.inr rfl) (bC rD (Cw Fp (pv 1) Ct (Cu (qJ qL aI))) (bY ny (hr.mono (by decide)) rfl jt.m jt.F.kp jt.b .nil aC (@ao _ _ _ _ _ (@bE _ _ _ _ _ _ _ cb (pv 1) (qJ qL aI) (fun _ _=>rfl)) (@ao _ _ _ _ _ (pv 2) ax (by rfl)) (by rfl)))) (by rfl) (by first | exact .inl rfl | exact .inr rfl | assumption))) (@bA _ _ _ (@cq (i:=1) _ _ _ _ _ _ BI.nd rfl (by first | exact Or.inl rfl | exact Or.inr rfl) (bC rD (pv 1) (@eB _ _ _ _ _ (@ao _ _ _ _ _ (pv 2) ax (by rfl)))) (by rfl) (by first | exact .inl rfl | exact .inr rfl | assumption))))) (by intro _;rfl))
  (@bA _ _ _ (@dr _ _ _ _ (pv 1))))),?_⟩
 exact ft (b:=Ei) (bz (bQ (eC ay) (a5 1))
  (bz (mf (pg (ai 0)) (a5 2) (kJ (J7 (gN (aB Gf (cv lB (aq (ai 1) ay)) (aJ _))) (gN (aB nH (aB bR (aB bR (ai 1) (qU qW (aJ _))) (aJ _)) (aB bR (ai 2) (aJ _))))) (bQ (aB rZ (C9 Gg (ai 1) C7 (C8 (qU qW (aJ _)))) (bZ (F:=BE) (aq (aB bR (ai 1) (qU qW (aJ _))) (aq (ai 2) ay)) (aV (aV (fun _ _ _ _ h=>b5 h))))) (a5 1)) (bQ (aB rZ (ai 1) (eC (aq (ai 2) ay))) (a5 1))))
  (du (ai 1)))) rfl h
def Ej:au->Dm Fl :=
 (a7 (aR BG (ae (aA iB (ag 0) (ag 1)) ah)))
def BJ:List D->Dm D:=eA 2 Ej
def BK:Stmt:=top 27
theorem QW:az ["one","other"] ["one","other"] (av BK):=⟨rfl,rfl,rfl,by decide +kernel,rfl,by decide +kernel,by decide +kernel⟩
theorem QX {f:Addr} {fd:FuncData} (D:Def K mg "put_together" BK ["one","other"] f fd) (T:Txt mg)  {fP:Addr} {fQ:FuncData} (c9:Def K mg "made_plain" BH ["word"] fP fQ) (iW:aD P w K mg base bh 2 fP fQ ["word"] (bj K 1 BG)):aD P w K mg base bh 3 f fd ["one","other"] (bj K 2 BJ):=by
 refine D.F.ok QW (fun vs H Q E h=>h.1) (fun cdv A outer s H vs Q E hr h=>?_)
 have hu:=hr.units
 have hu1:=e8 hr
 refine ⟨_,(@bA _ _ _ (@dr _ _ _ _ (bY iW (hr.mono (by decide)) rfl c9.m c9.F.kp c9.b .nil aC (@ao _ _ _ _ _ (bC rD (pv 0) (pv 1)) ax (by rfl))))),?_⟩
 exact ft (b:=Ej) (du (bZ (F:=BG) (aq (aB rZ (ai 0) (ai 1)) ay) (aV (fun _ _ _ _ h=>b5 h)))) rfl h
def Ek:au->Dm Fl :=
 (a7 (oO (aA (kr false) (aR dA (ae (ag 0) ah)) (fC (.int 4))) (aA (kr false) (aA lK (aA cf (aA aK (ag 0) (fC (.int 0))) (aA aK (ag 0) (fC (.int 3)))) (aA cf (aA aK (ag 0) (fC (.int 1))) (aA aK (ag 0) (fC (.int 2))))) (fC (.int 1)))))
def BL:List D->Dm D:=eA 1 Ek
def BM:Stmt:=top 17
theorem QY:az ["thing"] ["thing"] (av BM):=⟨rfl,rfl,rfl,by decide +kernel,rfl,by decide +kernel,by decide +kernel⟩
theorem QZ {f:Addr} {fd:FuncData} (D:Def K mg "is_table" BM ["thing"] f fd) (T:Txt mg)  :aD P w K mg base bh 1 f fd ["thing"] (bj K 1 BL):=by
 refine D.F.ok QY (fun vs H Q E h=>h.1) (fun cdv A outer s H vs Q E hr h=>?_)
 have hu:=hr.units
 have hu1:=e8 hr
 refine ⟨_,(@bA _ _ _ (@dr _ _ _ _ (uH (Cs nD (j5 lu (by rfl) T.cw lx (@ao _ _ _ _ _ (pv 0) ax (by rfl))) aI (aS _)) (uG (Cs nD (bC xB (bC ma (@bE _ _ _ _ _ _ _ cb (pv 0) aI (fun _ _=>rfl)) (@bE _ _ _ _ _ _ _ cb (pv 0) aI (fun _ _=>rfl))) (bC ma (@bE _ _ _ _ _ _ _ cb (pv 0) aI (fun _ _=>rfl)) (@bE _ _ _ _ _ _ _ cb (pv 0) aI (fun _ _=>rfl)))) aI (aS _)))))),?_⟩
 exact ft (b:=Ek) (du (Oc (aB nH (cv lB (aq (ai 0) ay)) (aJ _)) (aB nH (aB xT (aB mj (aB bR (ai 0) (aJ _)) (aB bR (ai 0) (aJ _))) (aB mj (aB bR (ai 0) (aJ _)) (aB bR (ai 0) (aJ _)))) (aJ _)))) rfl h
def El:au->Dm Fl :=
 (aF (jH (aP (aA (kr false) (aA aK (ag 0) (fC (.int 0))) (fC (.int 1)))) (a7 (aR rf (ae (aA aK (ag 0) (fC (.int 1))) ah))) b6)
 (a7 (aA iB (bB (ae (bB (ae (fC (.str "t")) (ae (fC (.int 2)) ah))) ah)) (aR rf (ae (pE kH (aA aK (ag 0) (fC (.int 1)))) ah)))))
def BN:List D->Dm D:=eA 1 El
def BO:Stmt:=top 35
theorem Q0:az ["table"] ["table"] (av BO):=⟨rfl,rfl,rfl,by decide +kernel,rfl,by decide +kernel,by decide +kernel⟩
theorem Q5 {f:Addr} {fd:FuncData} (D:Def K mg "level_word" BO ["table"] f fd) (T:Txt mg)  {g5:Addr} {g7:FuncData} (cx:Def K mg "shears" ye ["k"] g5 g7) (g8:aD P w K mg base bh 1 g5 g7 ["k"] (bj K 1 rf)):aD P w K mg base bh 2 f fd ["table"] (bj K 1 BN):=by
 refine D.F.ok Q0 (fun vs H Q E h=>h.1) (fun cdv A outer s H vs Q E hr h=>?_)
 have hu:=hr.units
 have hu1:=e8 hr
 refine ⟨_,(@bx _ _ _ _ _ (@kz _ _ _ _ _ _ _ _ (iA nD (@bE _ _ _ _ _ _ _ cb (pv 0) aI (fun _ _=>rfl)) aI (aS _)) (@bA _ _ _ (@dr _ _ _ _ (bY g8 (hr.mono (by decide)) rfl cx.m cx.F.kp cx.b .nil aC (@ao _ _ _ _ _ (@bE _ _ _ _ _ _ _ cb (pv 0) aI (fun _ _=>rfl)) ax (by rfl))))) lr)
  (@bA _ _ _ (@dr _ _ _ _ (bC rD (@eB _ _ _ _ _ (@ao _ _ _ _ _ (@eB _ _ _ _ _ (@ao _ _ _ _ _ l8 (@ao _ _ _ _ _ aI ax (by rfl)) (by rfl))) ax (by rfl))) (bY g8 (hr.mono (by decide)) rfl cx.m cx.F.kp cx.b .nil aC (@ao _ _ _ _ _ (qJ qL (@bE _ _ _ _ _ _ _ cb (pv 0) aI (fun _ _=>rfl))) ax (by rfl))))))),?_⟩
 exact ft (b:=El) (bz (kJ (gN (aB nH (aB bR (ai 0) (aJ _)) (aJ _))) (du (bZ (F:=rf) (aq (aB bR (ai 0) (aJ _)) ay) (aV (fun _ _ _ _ h=>b5 h)))) lC)
  (du (aB rZ (eC (aq (eC (aq (md _) (aq (aJ _) ay))) ay)) (bZ (F:=rf) (aq (qU qW (aB bR (ai 0) (aJ _))) ay) (aV (fun _ _ _ _ h=>b5 h)))))) rfl h
def Em:au->Dm Fl :=
 (aF (jH (aP (aA (kr false) (aA aK (ag 0) (fC (.int 0))) (fC (.str "s")))) (a7 (bB (ae (fC (.str "s")) (ae (pE kH (aA aK (ag 0) (fC (.int 1)))) ah)))) b6)
 (a7 (bB (ae (fC (.str "t")) (ae (aA lK (fC (.int 4)) (aA aK (ag 0) (fC (.int 1)))) ah)))))
def BP:List D->Dm D:=eA 1 Em
def BQ:Stmt:=top 28
theorem Q6:az ["step"] ["step"] (av BQ):=⟨rfl,rfl,rfl,by decide +kernel,rfl,by decide +kernel,by decide +kernel⟩
theorem Q7 {f:Addr} {fd:FuncData} (D:Def K mg "back_step" BQ ["step"] f fd) (T:Txt mg)  :aD P w K mg base bh 1 f fd ["step"] (bj K 1 BP):=by
 refine D.F.ok Q6 (fun vs H Q E h=>h.1) (fun cdv A outer s H vs Q E hr h=>?_)
 have hu:=hr.units
 have hu1:=e8 hr
 refine ⟨_,(@bx _ _ _ _ _ (@kz _ _ _ _ _ _ _ _ (iA nD (@bE _ _ _ _ _ _ _ cb (pv 0) aI (fun _ _=>rfl)) l8 (aS _)) (@bA _ _ _ (@dr _ _ _ _ (@eB _ _ _ _ _ (@ao _ _ _ _ _ l8 (@ao _ _ _ _ _ (qJ qL (@bE _ _ _ _ _ _ _ cb (pv 0) aI (fun _ _=>rfl))) ax (by rfl)) (by rfl))))) lr)
  (@bA _ _ _ (@dr _ _ _ _ (@eB _ _ _ _ _ (@ao _ _ _ _ _ l8 (@ao _ _ _ _ _ (bC xB aI (@bE _ _ _ _ _ _ _ cb (pv 0) aI (fun _ _=>rfl))) ax (by rfl)) (by rfl)))))),?_⟩
 exact ft (b:=Em) (bz (kJ (gN (aB nH (aB bR (ai 0) (aJ _)) (md _))) (du (eC (aq (md _) (aq (qU qW (aB bR (ai 0) (aJ _))) ay)))) lC)
  (du (eC (aq (md _) (aq (aB xT (aJ _) (aB bR (ai 0) (aJ _))) ay))))) rfl h
def En:au->Dm Fl :=
 (a7 (aR bM (ae (di (oT (ae (ag 0) ah)) 1 [] (hName 0) d6 (aR BP (ae (ag 0) ah))) ah)))
def BR:List D->Dm D:=eA 1 En
def BS:Stmt:=top 29
theorem Q8:az ["word"] ["word"] (av BS):=⟨rfl,rfl,rfl,by decide +kernel,rfl,by decide +kernel,by decide +kernel⟩
theorem Q9 {f:Addr} {fd:FuncData} (D:Def K mg "back_word" BS ["word"] f fd) (T:Txt mg)  {g9:Addr} {hJ:FuncData} (dO:Def K mg "back_step" BQ ["step"] g9 hJ) (jO:aD P w K mg base bh 1 g9 hJ ["step"] (bj K 1 BP)):aD P w K mg base bh 2 f fd ["word"] (bj K 1 BR):=by
 refine D.F.ok Q8 (fun vs H Q E h=>h.1) (fun cdv A outer s H vs Q E hr h=>?_)
 have hu:=hr.units
 have hu1:=e8 hr
 refine ⟨_,(@bA _ _ _ (@dr _ _ _ _ (fI nE (by rfl) T.bG mN (@ao _ _ _ _ _ (p7 (own:=["step"]) (fr:=[]) (js:=[]) rfl ⟨⟨rfl,by decide +kernel,by decide +kernel,by dsimp only [gJ,aU,Cx.nM,Cx.wish,PyProof.Rows.envOfC,compEnvC,relabel,Env.kindOf];decide +kernel,by decide +kernel⟩,rfl⟩ (u7 rfl T.oq (@ao _ _ _ _ _ (pv 0) ax (by rfl))) (fun _ _ _ _ _=>(eo (i:=0) (show ((["step"]:List Str) ++ ([]:List Str)).Nodup by decide +kernel) rfl (by first | exact Or.inl rfl | exact Or.inr rfl))) (fun _ _ _ _ _=>p4) (fun _ _ _ _ _=>(bY jO (hr.mono (by decide)) rfl dO.m dO.F.kp dO.b .nil aC (@ao _ _ _ _ _ (pv 0) ax (by rfl))))) ax (by rfl))))),?_⟩
 exact ft (b:=En) (du (cv mY (aq (ph (PL (aq (ai 0) ay)) (a5 0) qu (bZ (F:=BP) (aq (ai 0) ay) (aV (fun _ _ _ _ h=>b5 h)))) ay))) rfl h
def Eo:au->Dm Fl :=
 (aF (jH (rW (aP (aR BL (ae (ag 0) ah)))) qA b6)
 (aF (aM (aR BB (ae (bB (ae (aA aK (ag 0) (fC (.int 0))) (ae (aA aK (ag 0) (fC (.int 2))) ah))) ah)) (hName 1))
 (a7 (aR BJ (ae (aR BN (ae (aR qE (ae (aR uj (ae (ag 1) ah)) (ae (ag 0) ah))) ah)) (ae (aR BR (ae (ag 1) ah)) ah))))))
def BU:List D->Dm D:=eA 2 Eo
def BV:Stmt:=top 31
theorem KR:az ["table","gone"] ["table"] (av BV):=⟨rfl,rfl,rfl,by decide +kernel,rfl,by decide +kernel,by decide +kernel⟩
theorem Ra {f:Addr} {fd:FuncData} (D:Def K mg "word_of" BV ["table"] f fd) (T:Txt mg)  {eO:Addr} {eP:FuncData} (cP:Def K mg "level_steps" BD ["pair"] eO eP) (hU:aD P w K mg base bh 4 eO eP ["pair"] (bj K 1 BB)) {d0:Addr} {d3:FuncData} (cm:Def K mg "put_together" BK ["one","other"] d0 d3) (gf:aD P w K mg base bh 3 d0 d3 ["one","other"] (bj K 2 BJ)) {ju:Addr} {jv:FuncData} (eZ:Def K mg "is_table" BM ["thing"] ju jv) (kP:aD P w K mg base bh 1 ju jv ["thing"] (bj K 1 BL)) {fR:Addr} {fS:FuncData} (dc:Def K mg "level_word" BO ["table"] fR fS) (iX:aD P w K mg base bh 2 fR fS ["table"] (bj K 1 BN)) {hV:Addr} {hW:FuncData} (dP:Def K mg "back_word" BS ["word"] hV hW) (jP:aD P w K mg base bh 2 hV hW ["word"] (bj K 1 BR)) {f9:Addr} {gb:FuncData} (cU:Def K mg "times" xg ["one","other"] f9 gb) (gZ:aD P w K mg base bh 1 f9 gb ["one","other"] (bj K 2 qE)) {dM:Addr} {dN:FuncData} (bW:Def K mg "table_of" yf ["word"] dM dN) (eY:aD P w K mg base bh 3 dM dN ["word"] (bj K 1 uj)):aD P w K mg base bh 5 f fd ["table"] (bj K 1 BU):=by
 refine D.F.ok KR (fun vs H Q E h=>h.1) (fun cdv A outer s H vs Q E hr h=>?_)
 have hu:=hr.units
 have hu1:=e8 hr
 refine ⟨_,(@bx _ _ _ _ _ (@kz _ _ _ _ _ _ _ _ (uF (uE (bY kP (hr.mono (by decide)) rfl eZ.m eZ.F.kp eZ.b .nil aC (@ao _ _ _ _ _ (pv 0) ax (by rfl))))) (@bA _ _ _ LG) lr)
  (@bx _ _ _ _ _ (@cq (i:=1) _ _ _ _ _ _ KR.nd rfl (by first | exact Or.inl rfl | exact Or.inr rfl) (bY hU (hr.mono (by decide)) rfl cP.m cP.F.kp cP.b .nil aC (@ao _ _ _ _ _ (@eB _ _ _ _ _ (@ao _ _ _ _ _ (@bE _ _ _ _ _ _ _ cb (pv 0) aI (fun _ _=>rfl)) (@ao _ _ _ _ _ (@bE _ _ _ _ _ _ _ cb (pv 0) aI (fun _ _=>rfl)) ax (by rfl)) (by rfl))) ax (by rfl))) (by rfl) (by first | exact .inl rfl | exact .inr rfl | assumption))
  (@bA _ _ _ (@dr _ _ _ _ (bY gf (hr.mono (by decide)) rfl cm.m cm.F.kp cm.b .nil aC (@ao _ _ _ _ _ (bY iX (hr.mono (by decide)) rfl dc.m dc.F.kp dc.b .nil aC (@ao _ _ _ _ _ (bY gZ (hr.mono (by decide)) rfl cU.m cU.F.kp cU.b .nil aC (@ao _ _ _ _ _ (bY eY (hr.mono (by decide)) rfl bW.m bW.F.kp bW.b .nil aC (@ao _ _ _ _ _ (pv 1) ax (by rfl))) (@ao _ _ _ _ _ (pv 0) ax (by rfl)) (by rfl))) ax (by rfl))) (@ao _ _ _ _ _ (bY jP (hr.mono (by decide)) rfl dP.m dP.F.kp dP.b .nil aC (@ao _ _ _ _ _ (pv 1) ax (by rfl))) ax (by rfl)) (by rfl))))))),?_⟩
 exact ft (b:=Eo) (bz (kJ (vA (tO (bZ (F:=BL) (aq (ai 0) ay) (aV (fun _ _ _ _ h=>b5 h))))) PY lC)
  (bz (bQ (bZ (F:=BB) (aq (eC (aq (aB bR (ai 0) (aJ _)) (aq (aB bR (ai 0) (aJ _)) ay))) ay) (aV (fun _ _ _ _ h=>b5 h))) (a5 1))
  (du (bZ (F:=BJ) (aq (bZ (F:=BN) (aq (bZ (F:=qE) (aq (bZ (F:=uj) (aq (ai 1) ay) (aV (fun _ _ _ _ h=>b5 h))) (aq (ai 0) ay)) (aV (aV (fun _ _ _ _ h=>b5 h)))) ay) (aV (fun _ _ _ _ h=>b5 h))) (aq (bZ (F:=BR) (aq (ai 1) ay) (aV (fun _ _ _ _ h=>b5 h))) ay)) (aV (aV (fun _ _ _ _ h=>b5 h))))))) rfl h
def Ep:au->Dm Fl :=
 (a7 (aR Be (ae (aR Bt (ae (ag 0) (ae (aR BU (ae (ag 1) ah)) ah))) ah)))
def qF:List D->Dm D:=eA 2 Ep
def BW:Stmt:=top 41
theorem Rb:az ["floor","table"] ["floor","table"] (av BW):=⟨rfl,rfl,rfl,by decide +kernel,rfl,by decide +kernel,by decide +kernel⟩
theorem Rc {f:Addr} {fd:FuncData} (D:Def K mg "led_by_table" BW ["floor","table"] f fd) (T:Txt mg)  {kj:Addr} {kl:FuncData} (gF:Def K mg "form_of" Bf ["floor"] kj kl) (lW:aD P w K mg base bh 4 kj kl ["floor"] (bj K 1 Be)) {lF:Addr} {lG:FuncData} (jw:Def K mg "led_by" Bu ["floor","word"] lF lG) (nz:aD P w K mg base bh 6 lF lG ["floor","word"] (bj K 2 Bt)) {km:Addr} {kn:FuncData} (gG:Def K mg "word_of" BV ["table"] km kn) (lX:aD P w K mg base bh 5 km kn ["table"] (bj K 1 BU)):aD P w K mg base bh 7 f fd ["floor","table"] (bj K 2 qF):=by
 refine D.F.ok Rb (fun vs H Q E h=>h.1) (fun cdv A outer s H vs Q E hr h=>?_)
 have hu:=hr.units
 have hu1:=e8 hr
 refine ⟨_,(@bA _ _ _ (@dr _ _ _ _ (bY lW (hr.mono (by decide)) rfl gF.m gF.F.kp gF.b .nil aC (@ao _ _ _ _ _ (bY nz (hr.mono (by decide)) rfl jw.m jw.F.kp jw.b .nil aC (@ao _ _ _ _ _ (pv 0) (@ao _ _ _ _ _ (bY lX (hr.mono (by decide)) rfl gG.m gG.F.kp gG.b .nil aC (@ao _ _ _ _ _ (pv 1) ax (by rfl))) ax (by rfl)) (by rfl))) ax (by rfl))))),?_⟩
 exact ft (b:=Ep) (du (bZ (F:=Be) (aq (bZ (F:=Bt) (aq (ai 0) (aq (bZ (F:=BU) (aq (ai 1) ay) (aV (fun _ _ _ _ h=>b5 h))) ay)) (aV (aV (fun _ _ _ _ h=>b5 h)))) ay) (aV (fun _ _ _ _ h=>b5 h)))) rfl h
def Er:au->Dm Fl :=
 (aF (dC (bS (ae (aR oP (ae (fC (.int 2)) (ae (aR oQ (ae (fC (.int 4)) (ae (aR dA (ae (ag 0) ah)) ah))) ah))) ah)) (hName 1) (aF (aM (aR AE (ae (ag 0) (ae (ag 1) ah))) (hName 2))
 (aF (aM (aR AG (ae (ag 2) (ae (fC (.int 7)) (ae (fC (.int 6)) ah)))) (hName 3))
 (aF (aM (aR AI (ae (ag 2) (ae (ag 3) ah))) (hName 4))
 (aF (aM (aR AU (ae (ag 2) (ae (fC (.int 6)) ah))) (hName 5))
 (aF (aM (aR xa (ae (ag 3) ah)) (hName 6))
 (aF (aM (aR sj (ae (aR xc (ae (ag 5) (ae (ag 3) ah))) ah)) (hName 7))
 (aF (jH (xQ (aP (aA (gC true) (aR xa (ae (ag 4) ah)) (ag 6))) (aP (aA (gC true) (aR sj (ae (aR xc (ae (ag 5) (ae (ag 4) ah))) ah)) (ag 7)))) (a7 (fC (.bl false))) b6)
 (aF (aM (aR ui (ae (ag 5) (ae (aR pj (ae (ag 2) (ae (aR dA (ae (aA aK (ag 5) (fC (.int 0))) ah)) ah))) ah))) (hName 8))
 (aF (jH (xQ (aP (aA (kr true) (aR iM (ae (aR qF (ae (ag 5) (ae (ag 6) ah))) ah)) (aR iM (ae (ag 7) ah)))) (aP (aA (gC true) (aR qF (ae (ag 8) (ae (ag 6) ah))) (ag 7)))) (a7 (fC (.bl false))) b6)
 (jH (xQ (aP (aA (gC true) (aR qF (ae (ag 5) (ae (bB (ae (fC (.int 1)) (ae (fC (.int 0)) (ae (fC (.int 0)) (ae (fC (.int 1)) ah))))) ah))) (aR sj (ae (ag 5) ah)))) (aP (aA (gC true) (aR qF (ae (ag 5) (ae (ag 6) ah))) (ag 7)))) (a7 (fC (.bl false))) b6)))))))))))
 (a7 (fC (.bl true))))
def GN:List D->Dm D:=eA 9 Er
def Es:Stmt:=top 59
theorem sm:az ["_law_script","_law_k","_law_feed_here","_law_word_here","_law_longer_here","_law_floor_here","_law_table_here","_law_due","_law_other"] ["_law_script"] (av Es):=⟨rfl,rfl,rfl,by decide +kernel,rfl,by decide +kernel,by decide +kernel⟩
theorem xh {f:Addr} {fd:FuncData} (D:Def K mg "law" Es ["_law_script"] f fd) (T:Txt mg)  {h9:Addr} {ia:FuncData} (dQ:Def K mg "_law_feed" AF ["_law_script","_law_k"] h9 ia) (jQ:aD P w K mg base bh 1 h9 ia ["_law_script","_law_k"] (bj K 2 AE)) {ib:Addr} {ic:FuncData} (dR:Def K mg "_law_word" AH ["_law_feed_here","_law_most","_law_great"] ib ic) (jR:aD P w K mg base bh 2 ib ic ["_law_feed_here","_law_most","_law_great"] (bj K 3 AG)) {eR:Addr} {eT:FuncData} (cQ:Def K mg "_law_longer" AJ ["_law_feed_here","_law_word_here"] eR eT) (ie:aD P w K mg base bh 2 eR eT ["_law_feed_here","_law_word_here"] (bj K 2 AI)) {fT:Addr} {fU:FuncData} (de:Def K mg "_law_drawn" AV ["_law_feed_here","_law_most"] fT fU) (iY:aD P w K mg base bh 4 fT fU ["_law_feed_here","_law_most"] (bj K 2 AU)) {fV:Addr} {fW:FuncData} (bP:Def K mg "_law_table" AY ["_law_word_here"] fV fW) (fX:aD P w K mg base bh 2 fV fW ["_law_word_here"] (bj K 1 xa)) {ig:Addr} {ik:FuncData} (bF:Def K mg "_law_form" A1 ["_law_floor_here"] ig ik) (fA:aD P w K mg base bh 2 ig ik ["_law_floor_here"] (bj K 1 sj)) {cY:Addr} {cZ:FuncData} (bJ:Def K mg "_law_anew" x6 ["_law_floor_here","_law_p"] cY cZ) (dF:aD P w K mg base bh 1 cY cZ ["_law_floor_here","_law_p"] (bj K 2 ui)) {jx:Addr} {jy:FuncData} (cR:Def K mg "_law_led" A5 ["_law_floor_here","_law_word_here"] jx jy) (jz:aD P w K mg base bh 3 jx jy ["_law_floor_here","_law_word_here"] (bj K 2 xc)) {a8:Addr} {a9:FuncData} (aG:Def K mg "_law_turning" w8 ["_law_feed_here","_law_n"] a8 a9) (bg:aD P w K mg base bh 2 a8 a9 ["_law_feed_here","_law_n"] (bj K 2 pj)) {d4:Addr} {d5:FuncData} (aN:Def K mg "led_by_table" BW ["floor","table"] d4 d5) (cn:aD P w K mg base bh 7 d4 d5 ["floor","table"] (bj K 2 qF)):aD P w K mg base bh 8 f fd ["_law_script"] (bj K 1 GN):=by
 refine D.F.ok sm (fun vs H Q E h=>h.1) (fun cdv A outer s H vs Q E hr h=>?_)
 have hu:=hr.units
 have hu1:=e8 hr
 refine ⟨_,(@bx _ _ _ _ _ (@l9 _ _ _ _ _ _ _ _ PassesOwn.never rfl (nZ rfl T.aY (@ao _ _ _ _ _ (j5 (LO rfl) (by rfl) T.AB uW (@ao _ _ _ _ _ aI (@ao _ _ _ _ _ (j5 (LP rfl) (by rfl) T.qB Fm (@ao _ _ _ _ _ aI (@ao _ _ _ _ _ (j5 lu (by rfl) T.cw lx (@ao _ _ _ _ _ (pv 0) ax (by rfl))) ax (by rfl)) (by rfl))) ax (by rfl)) (by rfl))) ax (by rfl))) (eo (i:=1) sm.nd rfl (by first | exact Or.inl rfl | exact Or.inr rfl)) (@bx _ _ _ _ _ (@cq (i:=2) _ _ _ _ _ _ sm.nd rfl (by first | exact Or.inl rfl | exact Or.inr rfl) (bY jQ (hr.mono (by decide)) rfl dQ.m dQ.F.kp dQ.b .nil aC (@ao _ _ _ _ _ (pv 0) (@ao _ _ _ _ _ (pv 1) ax (by rfl)) (by rfl))) (by rfl) (by first | exact .inl rfl | exact .inr rfl | assumption))
  (@bx _ _ _ _ _ (@cq (i:=3) _ _ _ _ _ _ sm.nd rfl (by first | exact Or.inl rfl | exact Or.inr rfl) (bY jR (hr.mono (by decide)) rfl dR.m dR.F.kp dR.b .nil aC (@ao _ _ _ _ _ (pv 2) (@ao _ _ _ _ _ aI (@ao _ _ _ _ _ aI ax (by rfl)) (by rfl)) (by rfl))) (by rfl) (by first | exact .inl rfl | exact .inr rfl | assumption))
  (@bx _ _ _ _ _ (@cq (i:=4) _ _ _ _ _ _ sm.nd rfl (by first | exact Or.inl rfl | exact Or.inr rfl) (bY ie (hr.mono (by decide)) rfl cQ.m cQ.F.kp cQ.b .nil aC (@ao _ _ _ _ _ (pv 2) (@ao _ _ _ _ _ (pv 3) ax (by rfl)) (by rfl))) (by rfl) (by first | exact .inl rfl | exact .inr rfl | assumption))
  (@bx _ _ _ _ _ (@cq (i:=5) _ _ _ _ _ _ sm.nd rfl (by first | exact Or.inl rfl | exact Or.inr rfl) (bY iY (hr.mono (by decide)) rfl de.m de.F.kp de.b .nil aC (@ao _ _ _ _ _ (pv 2) (@ao _ _ _ _ _ aI ax (by rfl)) (by rfl))) (by rfl) (by first | exact .inl rfl | exact .inr rfl | assumption))
  (@bx _ _ _ _ _ (@cq (i:=6) _ _ _ _ _ _ sm.nd rfl (by first | exact Or.inl rfl | exact Or.inr rfl) (bY fX (hr.mono (by decide)) rfl bP.m bP.F.kp bP.b .nil aC (@ao _ _ _ _ _ (pv 3) ax (by rfl))) (by rfl) (by first | exact .inl rfl | exact .inr rfl | assumption))
  (@bx _ _ _ _ _ (@cq (i:=7) _ _ _ _ _ _ sm.nd rfl (by first | exact Or.inl rfl | exact Or.inr rfl) (bY fA (hr.mono (by decide)) rfl bF.m bF.F.kp bF.b .nil aC (@ao _ _ _ _ _ (bY jz (hr.mono (by decide)) rfl cR.m cR.F.kp cR.b .nil aC (@ao _ _ _ _ _ (pv 5) (@ao _ _ _ _ _ (pv 3) ax (by rfl)) (by rfl))) ax (by rfl))) (by rfl) (by first | exact .inl rfl | exact .inr rfl | assumption))
  (@bx _ _ _ _ _ (@kz _ _ _ _ _ _ _ _ (PW.pt (ET (iA (uX hu) (bY fX (hr.mono (by decide)) rfl bP.m bP.F.kp bP.b .nil aC (@ao _ _ _ _ _ (pv 4) ax (by rfl))) (pv 6) (aS _)) (ES (iA (uX hu) (bY fA (hr.mono (by decide)) rfl bF.m bF.F.kp bF.b .nil aC (@ao _ _ _ _ _ (bY jz (hr.mono (by decide)) rfl cR.m cR.F.kp cR.b .nil aC (@ao _ _ _ _ _ (pv 5) (@ao _ _ _ _ _ (pv 4) ax (by rfl)) (by rfl))) ax (by rfl))) (pv 7) (aS _))))) (@bA _ _ _ (@dr _ _ _ _ yq)) lr)
  (@bx _ _ _ _ _ (@cq (i:=8) _ _ _ _ _ _ sm.nd rfl (by first | exact Or.inl rfl | exact Or.inr rfl) (bY dF (hr.mono (by decide)) rfl bJ.m bJ.F.kp bJ.b .nil aC (@ao _ _ _ _ _ (pv 5) (@ao _ _ _ _ _ (bY bg (hr.mono (by decide)) rfl aG.m aG.F.kp aG.b .nil aC (@ao _ _ _ _ _ (pv 2) (@ao _ _ _ _ _ (j5 lu (by rfl) T.cw lx (@ao _ _ _ _ _ (@bE _ _ _ _ _ _ _ cb (pv 5) aI (fun _ _=>rfl)) ax (by rfl))) ax (by rfl)) (by rfl))) ax (by rfl)) (by rfl))) (by rfl) (by first | exact .inl rfl | exact .inr rfl | assumption))
  (@bx _ _ _ _ _ (@kz _ _ _ _ _ _ _ _ (PW.pt (ET (iA Cq (j5 (II hr) (by rfl) T.qC Iv (@ao _ _ _ _ _ (bY cn (hr.mono (by decide)) rfl aN.m aN.F.kp aN.b .nil aC (@ao _ _ _ _ _ (pv 5) (@ao _ _ _ _ _ (pv 6) ax (by rfl)) (by rfl))) ax (by rfl))) (j5 (II hr) (by rfl) T.qC Iv (@ao _ _ _ _ _ (pv 7) ax (by rfl))) (aS _)) (ES (iA (uX hu) (bY cn (hr.mono (by decide)) rfl aN.m aN.F.kp aN.b .nil aC (@ao _ _ _ _ _ (pv 8) (@ao _ _ _ _ _ (pv 6) ax (by rfl)) (by rfl))) (pv 7) (aS _))))) (@bA _ _ _ (@dr _ _ _ _ yq)) lr)
  (@bA _ _ _ (@kz _ _ _ _ _ _ _ _ (PW.pt (ET (iA (uX hu) (bY cn (hr.mono (by decide)) rfl aN.m aN.F.kp aN.b .nil aC (@ao _ _ _ _ _ (pv 5) (@ao _ _ _ _ _ (@eB _ _ _ _ _ (@ao _ _ _ _ _ aI (@ao _ _ _ _ _ aI (@ao _ _ _ _ _ aI (@ao _ _ _ _ _ aI ax (by rfl)) (by rfl)) (by rfl)) (by rfl))) ax (by rfl)) (by rfl))) (bY fA (hr.mono (by decide)) rfl bF.m bF.F.kp bF.b .nil aC (@ao _ _ _ _ _ (pv 5) ax (by rfl))) (aS _)) (ES (iA (uX hu) (bY cn (hr.mono (by decide)) rfl aN.m aN.F.kp aN.b .nil aC (@ao _ _ _ _ _ (pv 5) (@ao _ _ _ _ _ (pv 6) ax (by rfl)) (by rfl))) (pv 7) (aS _))))) (@bA _ _ _ (@dr _ _ _ _ yq)) lr))))))))))) (by intro _;rfl))
  (@bA _ _ _ (@dr _ _ _ _ yq))),?_⟩
 exact ft (b:=Er) (bz (mf (n8 (aq (cv Og (aq (aJ _) (aq (cv Oh (aq (aJ _) (aq (cv lB (aq (ai 0) ay)) ay))) ay))) ay)) (a5 1) (bz (bQ (bZ (F:=AE) (aq (ai 0) (aq (ai 1) ay)) (aV (aV (fun _ _ _ _ h=>b5 h)))) (a5 2))
  (bz (bQ (bZ (F:=AG) (aq (ai 2) (aq (aJ _) (aq (aJ _) ay))) (aV (aV (aV (fun _ _ _ _ h=>b5 h))))) (a5 3))
  (bz (bQ (bZ (F:=AI) (aq (ai 2) (aq (ai 3) ay)) (aV (aV (fun _ _ _ _ h=>b5 h)))) (a5 4))
  (bz (bQ (bZ (F:=AU) (aq (ai 2) (aq (aJ _) ay)) (aV (aV (fun _ _ _ _ h=>b5 h)))) (a5 5))
  (bz (bQ (bZ (F:=xa) (aq (ai 3) ay) (aV (fun _ _ _ _ h=>b5 h))) (a5 6))
  (bz (bQ (bZ (F:=sj) (aq (bZ (F:=xc) (aq (ai 5) (aq (ai 3) ay)) (aV (aV (fun _ _ _ _ h=>b5 h)))) ay) (aV (fun _ _ _ _ h=>b5 h))) (a5 7))
  (bz (kJ (Gd (gN (aB (vD true) (bZ (F:=xa) (aq (ai 4) ay) (aV (fun _ _ _ _ h=>b5 h))) (ai 6))) (gN (aB (vD true) (bZ (F:=sj) (aq (bZ (F:=xc) (aq (ai 5) (aq (ai 4) ay)) (aV (aV (fun _ _ _ _ h=>b5 h)))) ay) (aV (fun _ _ _ _ h=>b5 h))) (ai 7)))) (du (zN _)) lC)
  (bz (bQ (bZ (F:=ui) (aq (ai 5) (aq (bZ (F:=pj) (aq (ai 2) (aq (cv lB (aq (aB bR (ai 5) (aJ _)) ay)) ay)) (aV (aV (fun _ _ _ _ h=>b5 h)))) ay)) (aV (aV (fun _ _ _ _ h=>b5 h)))) (a5 8))
  (bz (kJ (Gd (gN (aB Dd (cv Kf (aq (bZ (F:=qF) (aq (ai 5) (aq (ai 6) ay)) (aV (aV (fun _ _ _ _ h=>b5 h)))) ay)) (cv Kf (aq (ai 7) ay)))) (gN (aB (vD true) (bZ (F:=qF) (aq (ai 8) (aq (ai 6) ay)) (aV (aV (fun _ _ _ _ h=>b5 h)))) (ai 7)))) (du (zN _)) lC)
  (kJ (Gd (gN (aB (vD true) (bZ (F:=qF) (aq (ai 5) (aq (eC (aq (aJ _) (aq (aJ _) (aq (aJ _) (aq (aJ _) ay))))) ay)) (aV (aV (fun _ _ _ _ h=>b5 h)))) (bZ (F:=sj) (aq (ai 5) ay) (aV (fun _ _ _ _ h=>b5 h))))) (gN (aB (vD true) (bZ (F:=qF) (aq (ai 5) (aq (ai 6) ay)) (aV (aV (fun _ _ _ _ h=>b5 h)))) (ai 7)))) (du (zN _)) lC)))))))))))
  (du (zN _))) rfl h
end
theorem pI {st:Store} {f:Nat} {n:Int} (hf:bp st f) (h0:0 < n) (h1:n < 1073741824):Wp (jL [.ref f,.int n] st) fun d st'=>∃ k:Int,d=.int k/\0<=k/\k < n/\bp st' f/\Ex [f] st st':=by
 obtain ⟨o,m,e,o0,m0,m1⟩:=hf
 have hfl:=iQ e
 refine eU ?_
 show Ws (Du [some (.ref f),some (.int n),none,none] st) _ _ _ _
 unfold Du
 refine bq (jJ ?_)
 set_option simprocs false in simp only [bX,d8 e,mx e]
 refine ⟨fun ho=>?_,fun ho=>?_⟩
 ·refine bq (b7 ?_)
  set_option simprocs false in simp only [bX,d8 e]
  refine ⟨h0,bq (qv ?_)⟩
  set_option simprocs false in simp only [bX,d8 e,mx e,(show kX [D.int o,D.int m].length 0=some 0 from Ax)]
  refine ⟨⟨h0,h1⟩,dD ?_⟩
  w_how
  refine ⟨Int.emod_nonneg _ (by omega),Int.emod_lt_of_pos _ h0,⟨o / n,m,?_,Int.ediv_nonneg o0 (by omega),m0,m1⟩,Ex.refl.put (by simp)⟩
  rw [List.getElem?_set_self hfl]
 ·refine ll (bq (b7 ?_))
  set_option simprocs false in simp only [bX,d8 e]
  refine ⟨by omega,by omega,bq (qv ?_)⟩
  set_option simprocs false in simp only [bX,d8 e,mx e,(show kX [D.int o,D.int m].length 1=some 1 from Ay)]
  refine ⟨by omega,by omega,dD ?_⟩
  have e2:(st.set f (.lst [.int o,.int ((m * 48271 % 2147483647 * 40692 + 30103) % 2147483399 + 1)]))[f]?=some (.lst [.int o,.int ((m * 48271 % 2147483647 * 40692 + 30103) % 2147483399 + 1)]):=List.getElem?_set_self hfl
  set_option simprocs false in simp only [bX,d8 e2]
  refine ⟨by omega,by omega,h0,Int.emod_nonneg _ (by omega),Int.emod_lt_of_pos _ h0,⟨_,_,e2,o0,by omega,by omega⟩,Ex.refl.put (by simp)⟩
theorem Rf {st:Store} {a:Nat} {ns:List Int} {k:Nat} (hs:items st a=some (ns.map D.int)) (hk:k<=100):Wp (AE [.ref a,.int (k:Int)] st) fun d st'=>d=.ref st.length/\bp st' st.length/\Ex [] st st':=by
 refine eU ?_
 show Ws (Dt [some (.ref a),some (.int (k:Int)),none,none] st) _ _ _ _
 unfold Dt
 refine bq (b7 ?_)
 w_how
 refine ⟨by omega,bq (wx (N:=fun δ st1=>st1=st/\∃ c:Int,δ=[some (.ref a),some (.int (k:Int)),some (.int c),none]) (jJ ?_) ?_)⟩
 ·set_option simprocs false in simp only [bX,hs]
  refine ⟨fun h=>b7 ?_,fun h=>jJ ?_⟩
  ·have h:=of_decide_eq_true h
   rw [List.length_map] at h
   set_option simprocs false in simp only [bX,hs]
   refine ⟨.int (ns[k]'(by omega)),xC (by rw [List.getElem?_map,List.getElem?_eq_getElem];rfl),_,rfl⟩
  ·set_option simprocs false in simp only [bX,hs]
   refine ⟨fun h=>b7 ?_,fun h=>ll ⟨rfl,_,rfl⟩⟩
   have h:=of_decide_eq_true h
   obtain ⟨v,hv,hm⟩:=u3 (xs:=ns.map D.int) (i:=(k:Int) % ((ns.map D.int).length:Int)) (Int.emod_nonneg _ (by omega)) (Int.emod_lt_of_pos _ h)
   obtain ⟨c,_,rfl⟩:=List.mem_map.mp hm
   set_option simprocs false in simp only [bX,hs]
   refine ⟨h,_,hv,?_⟩
   w_how
   exact ⟨by omega,by omega,by omega,_,rfl⟩
 ·rintro δ st1 ⟨rfl,c,rfl⟩
  refine bq (b7 ?_)
  w_how
  refine bq (wx (N:=fun δ st2=>st2=st1/\∃ o:Int,0<=o/\δ=[some (.ref a),some (.int (k:Int)),some (.int c),some (.int o)]) (jJ ?_) ?_)
  ·w_how
   refine ⟨by decide,fun h=>b7 ?_,fun h=>ll ⟨rfl,0,by decide,rfl⟩⟩
   have h:=of_decide_eq_true h
   w_how
   exact ⟨c,Int.le_trans (by decide) h,rfl⟩
  ·rintro δ st2 ⟨rfl,o,o0,rfl⟩
   refine dD ?_
   w_how
   have h1:0<=c % 2147483629:=Int.emod_nonneg _ (by decide)
   have h2:c % 2147483629 < 2147483629:=Int.emod_lt_of_pos _ (by decide)
   refine ⟨by omega,by omega,by omega,by omega,by omega,by rfl,⟨_,_,ku,o0,?_,?_⟩,Ex.cc _⟩
   ·have:=Int.emod_nonneg ((c % 2147483629 * 48271 + 40692 * (k:Int)) ^ (5:Int).toNat) (show (2147483629:Int)≠0 by decide)
    omega
   ·have:=Int.emod_lt_of_pos ((c % 2147483629 * 48271 + 40692 * (k:Int)) ^ (5:Int).toNat) (show (0:Int) < 2147483629 by decide)
    omega
theorem Et {st:Store} {f:Nat} {n:Nat} (hf:bp st f) (hn:n<=100):Wp (pj [.ref f,.int (n:Int)] st) fun d st'=>∃ xs:List Int,d=.tup (xs.map D.int)/\af.Tn n xs/\bp st' f/\Ex [f] st st':=by
 have hfl:=hf.lt
 refine eU ?_
 show Ws (DA [some (.ref f),some (.int (n:Int)),none,none] st) _ _ _ _
 unfold DA
 refine bq (b7 ?_)
 w_how
 have e1:((n:Int) - 0).toNat=n:=by omega
 rw [e1,om]
 refine ⟨by unfold pe;rw [Bool.and_eq_true,decide_eq_true_eq];exact ⟨by omega,kd (by omega)⟩,bq (b7 ?_)⟩
 w_how
 refine ⟨rfl,bq (xZ (fun m δ st2=>∃ L xs:List Int,m=L.length/\δ=[some (.ref f),some (.int (n:Int)),some (.ref (st ++ [O.iF 0 (n:Int)]).length),some (.tup (xs.map D.int))]/\st2[(st ++ [O.iF 0 (n:Int)]).length]?=some (.lst (L.map D.int))/\(xs ++ L).Perm (af.upto n)/\bp st2 f/\Ex [f] st st2) n (Nat.lt_of_le_of_lt hn (by decide)) ⟨af.upto n,[],(af.nQ n).symm,rfl,ku,List.Perm.refl _,hf.keep ((Ex.cc _).app _),(Ex.cc _).app _⟩ ?_)⟩
 have hl:(st ++ [O.iF 0 (n:Int)]).length≠f:=by rw [List.length_append];omega
 have hls:st.length<=(st ++ [O.iF 0 (n:Int)]).length:=by rw [List.length_append];omega
 generalize (st ++ [O.iF 0 (n:Int)]).length=l at hl hls ⊢
 rintro m δ st2 ⟨L,xs,rfl,rfl,hL,pm,hf2,k2⟩
 have hlen:(xs ++ L).length=n:=by rw [pm.length_eq,af.nQ]
 rw [List.length_append] at hlen
 refine b8 ?_
 intro dz hQ
 set_option simprocs false in simp only [bX,Kv (L:=L) (M:=[]) (st:=st2 ++ [O.lst []]) (d8 (nJ hL)) Ak]
 refine ⟨rfl,hQ _ _ ⟨fun h=>?_,fun h=>?_⟩⟩
 ·have hne:L≠[]:=by simpa using h
  have hpos:0 < L.length:=List.length_pos_iff.mpr hne
  have Eu:(st2 ++ [O.lst []])[l]?=some (.lst (L.map D.int)):=nJ hL
  have f3:bp (st2 ++ [O.lst []]) f:=hf2.keep (Ex.cc _)
  have k3:Ex [f] st (st2 ++ [O.lst []]):=k2.app _
  generalize (st2 ++ [O.lst []])=st3 at Eu f3 k3 ⊢
  refine b7 ?_
  refine b8 ?_
  intro dz hQ
  set_option simprocs false in simp only [bX,d8 Eu]
  refine ⟨qZ (by rw [d8 Eu];rfl),?_⟩
  refine a6 (pI (n:=((L.map D.int).length:Int)) f3 (by rw [List.length_map];omega) (by rw [List.length_map];omega)) ?_
  rintro d ky ⟨k,rfl,k0,k1,f4,k4⟩
  rw [List.length_map] at k1
  have KS:=k4.keep _ _ Eu (by simpa using hl)
  have mS:k.toNat < L.length:=by omega
  set_option simprocs false in simp only [bX,mx KS]
  have hk':((k.toNat:Nat):Int)=k:=Int.toNat_of_nonneg k0
  refine ⟨by omega,k.toNat,?_,D.int L[k.toNat],by rw [List.getElem?_map,List.getElem?_eq_getElem mS];rfl,rfl,kd ?_,hQ _ _ ⟨(L.eraseIdx k.toNat).length,?_,L.eraseIdx k.toNat,xs ++ [L[k.toNat]],rfl,?_,?_,?_,?_,?_⟩⟩
  ·rw [<- hk',Int.toNat_natCast]
   exact (E6 (y6 (by rw [List.length_map];exact mS))).1
  ·simp only [List.length_map,List.length_cons,List.length_nil];omega
  ·rw [List.length_eraseIdx,if_pos mS];omega
  ·rw [List.map_append];rfl
  ·rw [List.getElem?_set_self (iQ KS),Pu]
  ·refine List.Perm.trans ?_ pm
   rw [List.append_assoc]
   exact List.Perm.append_left xs (Pw mS)
  ·exact f4.ne hl
  ·exact (k3.trans k4).loc hls
 ·have he:L=[]:=by simpa using h
  subst he
  refine dD ?_
  kspl_open hQ
  exact hQ _ _ ⟨xs,rfl,by simpa [af.Tn] using pm,hf2.keep (Ex.cc _),k2.app _⟩
theorem Rg {st:Store} {xs ys:List Int} {n:Nat} (tx:af.Tn n xs) (ty:af.Tn n ys) (n0:0 < n) (hn:n<=100):Wp (sf [bK xs ys] st) fun d st'=>∃ (g:Nat) (F:List Int),d=.ref g/\items st' g=some (F.map D.int)/\(∀ x,x∈F↔af.iG xs ys x)/\F.length<=n/\af.Od xs ys F/\Ex [] st st':=by
 have hlx:=tx.length
 have yh:=ty.length
 refine eU ?_
 show Ws (DC [some (bK xs ys),none,none,none,none] st) _ _ _ _
 unfold DC
 refine bq (b7 ?_)
 kspl_open hQ
 refine ⟨rfl,hQ _ _ (bq (mh (aE 0 (n + 1)) (fun i δ st2=>∃ (v2 v3 v4:Option D) (F:List Int),δ=[some (bK xs ys),some (.ref st.length),v2,v3,v4]/\st2[st.length]?=some (.lst (F.map D.int))/\af.Fo xs ys F/\(af.Cl xs ys F\/i + 1<=F.length)/\Ex [] st st2) ?_ ?_ ?_ ?_))⟩
 ·unfold bK
  kspl_open hQ
  have e0:((1:Int) + ((xs.map D.int).length:Int)).toNat=n + 1:=by rw [List.length_map];omega
  refine ⟨by rw [List.length_map];omega,hQ _ _ ⟨by rw [e0],none,none,none,[0],rfl,ku,af.Fo.one xs ys,.inr (Nat.le_refl _),Ex.cc _⟩⟩
 ·rw [gI];omega
 ·rintro i d δ st2 hd ⟨v2,v3,v4,F,rfl,GO,hF,hcl,k2⟩
  kspl_open hQ
  refine hQ _ _ (mh [.tup (xs.map D.int),.tup (ys.map D.int)] (fun m δ st3=>∃ (v3 v4:Option D) (G:List Int),δ=[some (bK xs ys),some (.ref st.length),some d,v3,v4]/\st3[st.length]?=some (.lst (G.map D.int))/\af.Fo xs ys G /\
    (m=0->G=F)/\(m=1->F <+: G/\∀ x∈F,af.app xs x∈G)/\(2<=m->∃ F1,F <+: F1/\F1 <+: G/\(∀ x∈F,af.app xs x∈F1)/\∀ x∈F1,af.app ys x∈G)/\Ex [] st st3) ?_ (by simp) ?_ ?_)
  ·unfold bK
   kspl_open hQ
   exact hQ _ _ ⟨rfl,v3,v4,F,rfl,GO,hF,fun _=>rfl,fun z=>by omega,fun z=>by omega,k2⟩
  ·rintro m z δ st3 hm ⟨v3,v4,G,rfl,BX,hG,m0,m1,_,k3⟩
   have hm2:m < 2:=iQ hm
   obtain ⟨zs,rfl,hz,em⟩:∃ (zs:List Int),z=.tup (zs.map D.int)/\(zs=xs\/zs=ys)/\((m=0/\zs=xs)\/(m=1/\zs=ys)):=by
    rcases (show m=0\/m=1 by omega) with rfl | rfl
    ·exact ⟨xs,by simpa using hm.symm,.inl rfl,.inl ⟨rfl,rfl⟩⟩
    ·exact ⟨ys,by simpa using hm.symm,.inr rfl,.inr ⟨rfl,rfl⟩⟩
   have tz:af.Tn n zs:=by rcases hz with rfl | rfl;exact tx;exact ty
   have GP:=tz.length
   have go:∀ x,af.iG xs ys x->af.iG xs ys (af.app zs x):=fun x h=>by rcases hz with rfl | rfl;exact h.r;exact h.u
   kspl_open hQ
   refine hQ _ _ (Km (G.map D.int) st3.length (fun j δ ky=>∃ (v4:Option D) (G':List Int),δ=[some (bK xs ys),some (.ref st.length),some d,some (.tup (zs.map D.int)),v4]/\ky[st.length]?=some (.lst (G'.map D.int))/\ky[st3.length]?=some (.lst (G.map D.int))/\af.Fo xs ys G'/\G <+: G'/\(∀ i',i' < j->∀ x,G[i']?=some x->af.app zs x∈G')/\Ex [] st ky) ?_ ?_ ?_ ?_ ?_)
   ·refine b8 ?_
    intro dz hQ
    set_option simprocs false in simp only [bX,d8 BX]
    exact hQ _ _ ⟨rfl,v4,G,rfl,nJ BX,ku,hG,List.prefix_refl _,fun i' h=>absurd h (Nat.not_lt_zero _),k3.app _⟩
   ·rw [List.length_map]
    have:=hG.len tx ty n0
    omega
   ·rintro j δ ky ⟨_,_,_,_,h,_⟩
    exact d8 h
   ·rintro j SY δ ky hj0 ⟨v4,G',rfl,xi,pJ,xj,pG,hd',k4⟩
    obtain ⟨y,hj,rfl⟩:=Az hj0
    have hjl:=iQ hj
    have hR:=hG.mt _ (List.mem_of_getElem? hj)
    obtain ⟨y0,y1⟩:=hR.bound tx ty n0
    have at':=oo (xs:=zs) y0 (by rw [GP];exact y1)
    have hnext:∀ Ew:List Int,G' <+: Ew->af.app zs y∈Ew->∀ i',i' < j + 1->∀ x,G[i']?=some x->af.app zs x∈Ew:=fun Ew p h i' hi' x hx=>by
     by_cases e:i'=j
     ·subst e
      rw [hj] at hx
      cases hx;exact h
     ·exact p.subset (hd' i' (by omega) x hx)
    kspl_open hQ
    refine hQ _ _ (jJ ?_)
    refine b8 ?_
    intro iZ cg
    set_option simprocs false in simp only [bX,at',Dp (st:=ky) (c:=.ref st.length) (ns:=G') (d8 xi)]
    refine cg _ _ ⟨fun hcn=>?_,fun hcn=>?_⟩
    ·have hnm:af.app zs y ∉ G':=fun z=>by rw [List.contains_iff_mem.mpr z] at hcn;cases hcn
     have KU:af.Fo xs ys (G' ++ [af.app zs y]):=by
      refine ⟨⟨List.mem_append_left _ xj.z,?_,fun x hx=>?_⟩,xj.od.snoc (pG.subset (List.mem_of_getElem? hj)) (hz.imp (fun e=>by rw [e]) fun e=>by rw [e])⟩
      ·rw [List.nodup_append]
       refine ⟨xj.nd,by simp,fun x hx y' hy e=>hnm ?_⟩
       have e2:y'=af.app zs y:=by simpa using hy
       rw [<- e2,<- e];exact hx
      ·rcases List.mem_append.mp hx with h | h
       ·exact xj.mt x h
       ·have e2:x=af.app zs y:=by simpa using h
        rw [e2];exact go _ hR
     have hlen2:=KU.len tx ty n0
     rw [List.length_append] at hlen2
     refine uc ?_
     refine b8 ?_
     intro xk ou
     set_option simprocs false in simp only [bX,at',mx xi]
     refine ⟨qZ (by rw [d8 xi];rfl),kd (by rw [List.length_map];simp at hlen2;omega),ou _ _ ⟨_,G' ++ [af.app zs y],rfl,?_,?_,KU,pG.trans (List.prefix_append _ _),hnext _ (List.prefix_append _ _) (by simp),k4.loc (Nat.le_refl _)⟩⟩
     ·rw [List.getElem?_set_self (iQ xi),List.map_append];rfl
     ·rw [List.getElem?_set_ne (by have:=iQ BX;omega)];exact pJ
    ·have hcn:G'.contains (af.app zs y)=true:=by simpa using hcn
     exact ll ⟨_,G',rfl,xi,pJ,xj,pG,hnext G' (List.prefix_refl _) (List.contains_iff_mem.mp hcn),k4⟩
   ·rintro δ ky ⟨v4,G',rfl,xi,pJ,xj,pG,hd',k4⟩
    rw [List.length_map] at hd'
    have hall:∀ x∈G,af.app zs x∈G':=fun x hx=>by
     obtain ⟨i',hi',e⟩:=List.getElem_of_mem hx
     exact hd' i' hi' x (by rw [List.getElem?_eq_getElem hi',e])
    refine ⟨_,_,G',rfl,xi,xj,fun z=>by omega,fun z=>?_,fun z=>?_,k4⟩
    ·rcases em with ⟨rfl,rfl⟩ | ⟨rfl,_⟩
     ·have:=m0 rfl
      subst this
      exact ⟨pG,hall⟩
     ·omega
    ·rcases em with ⟨rfl,_⟩ | ⟨rfl,rfl⟩
     ·omega
     ·obtain ⟨p1,c1⟩:=m1 rfl
      exact ⟨G,p1,pG,c1,hall⟩
  ·rintro δ st3 ⟨v3,v4,G,rfl,BX,hG,_,_,m2,k3⟩
   obtain ⟨F1,p1,p2,c1,c2⟩:=m2 (Nat.le_refl 2)
   exact ⟨_,_,_,G,rfl,BX,hG,af.round hF.toFd hG.toFd p1 p2 c1 c2 hcl,k3⟩
 ·rintro δ st2 ⟨v2,v3,v4,F,rfl,GO,hF,hcl,k2⟩
  rw [gI] at hcl
  have hl:=hF.len tx ty n0
  have hc:af.Cl xs ys F:=hcl.resolve_right (by omega)
  refine dD ?_
  kspl_open hQ
  exact hQ _ _ ⟨_,F,rfl,d8 GO,fun x=>⟨hF.mt x,fun h=>hc.all hF.z h⟩,hl,hF.od,k2⟩
theorem Rh {st:Store} {xs ys:List Int} {n:Nat} (tx:af.Tn n xs) (ty:af.Tn n ys) (n0:0 < n) (hn:n<=100):Wp (sf [bK xs ys] st) fun d st'=>∃ (g:Nat) (F:List Int),d=.ref g/\items st' g=some (F.map D.int)/\(∀ x,x∈F↔af.iG xs ys x)/\F.length<=n/\Ex [] st st' :=
 a6 (Rg tx ty n0 hn) fun d st' ⟨g,F,h1,h2,h3,h4,_,h5⟩=>⟨g,F,h1,h2,h3,h4,h5⟩
theorem KW {st:Store} {δ:au} {X Y:List Int} {n:Nat} {Q:D->Store->Prop} (tX:af.Tn n X) (tY:af.Tn n Y) (n0:0 < n) (hn:n<=100) (h1:δ[1]?=some (some (.int (n:Int)))) (h6:δ[6]?=some (some (bK X Y)))
  (q:∀ (L:List Int) (st':Store),L.length<=n->L.Nodup->(∀ x,x∈L↔(0<=x/\x < (n:Int)/\¬ af.iG X Y x))->Ex [] st st'->Q (.ref st'.length) (st' ++ [.lst (L.map D.int)])) :
  Wp (di (bS (ae (ag 1) ah)) 1 [6] (hName 0) (aP (aA (pH true) (ag 0) (aR sf (ae (ag 1) ah)))) (ag 0) δ st) Q:=by
 have Ri:δ.getD 6 none=some (bK X Y):=by rw [List.getD_eq_getElem?_getD,h6];rfl
 refine Gp (aE 0 n) (fun j zs δ' j7=>∃ (v:Option D) (L:List Int),δ'=[v,some (bK X Y)]/\zs=L.map D.int/\L.length<=j/\L.Nodup/\(∀ x,x∈L↔(0<=x/\x < (j:Int)/\¬ af.iG X Y x))/\Ex [] st j7) ?_ (by rw [gI];omega) ?_ ?_ ?_
 ·refine b8 ?_
  intro dz hQ
  set_option simprocs false in simp only [bX,h1]
  refine ⟨by omega,hQ _ _ ⟨fun i ys δ st hi _=>?_,none,[],?_,rfl,Nat.le_refl _,List.nodup_nil,fun x=>⟨(fun h=>nomatch h),fun h=>by omega⟩,Ex.refl⟩⟩
  ·rw [Int.toNat_natCast]
   show (if i<=(aE 0 n).length then some (aE 0 n)[i]? else none)=_
   rw [if_pos hi]
  ·unfold nU
   simp only [List.map_cons,List.map_nil,Ri]
   rfl
 ·rintro j zs δ' j7 ⟨v,L,_,rfl,hl,_⟩
  rw [List.length_map];exact hl
 ·rintro j d zs δ' j7 hd ⟨v,L,rfl,rfl,uk,nd,hL,k8⟩
  have hjl:=iQ hd
  rw [gI] at hjl
  rw [Dh hjl] at hd
  cases hd
  rw [Int.zero_add]
  kspl_open hQ
  refine hQ _ _ ?_
  kspl_open cg
  refine a6 (Rh (st:=j7) tX tY n0 hn) ?_
  rintro d nV ⟨g,F,rfl,hg,hF,S0,k9⟩
  rw [Dp (c:=.ref g) (ns:=F) hg]
  refine ⟨_,rfl,cg _ _ ⟨fun hc=>?_,fun hc=>?_⟩⟩
  ·have hR:¬ af.iG X Y (j:Int):=fun h=>by rw [List.contains_iff_mem.mpr ((hF _).mpr h)] at hc;cases hc
   kspl_open ou
   refine ou _ _ ⟨_,L ++ [(j:Int)],rfl,by rw [List.map_append];rfl,by rw [List.length_append];simp;omega,?_,fun x=>?_,k8.trans k9⟩
   ·rw [List.nodup_append]
    refine ⟨nd,by simp,fun x hx y hy e=>?_⟩
    have e2:y=(j:Int):=by simpa using hy
    have:=((hL x).mp hx).2.1
    omega
   ·rw [List.mem_append,hL x]
    constructor
    ·rintro (⟨a1,a2,a3⟩ | h)
     ·exact ⟨a1,by omega,a3⟩
     ·have e2:x=(j:Int):=by simpa using h
      rw [e2];exact ⟨by omega,by omega,hR⟩
    ·rintro ⟨a1,a2,a3⟩
     rcases Int.lt_or_le x (j:Int) with h | h
     ·exact .inl ⟨a1,h,a3⟩
     ·exact .inr (by simp;omega)
  ·have hc:F.contains (j:Int)=true:=by simpa using hc
   have hR:=(hF _).mp (List.contains_iff_mem.mp hc)
   refine ⟨_,L,rfl,rfl,by omega,nd,fun x=>?_,k8.trans k9⟩
   rw [hL x]
   constructor
   ·rintro ⟨a1,a2,a3⟩;exact ⟨a1,by omega,a3⟩
   ·rintro ⟨a1,a2,a3⟩
    refine ⟨a1,?_,a3⟩
    rcases Int.lt_or_le x (j:Int) with h | h
    ·exact h
    ·exact absurd hR (by rw [show (j:Int)=x by omega];exact a3)
 ·rintro zs δ' j7 ⟨v,L,rfl,rfl,uk,nd,hL,k8⟩
  rw [gI] at uk hL
  exact q L j7 uk nd hL k8
theorem Rj {st:Store} {f n:Nat} (hf:bp st f) (n1:1<=n) (Rm:n<=20):Wp (AQ [.ref f,.int (n:Int)] st) fun d st'=>∃ xs ys:List Int,d=bK xs ys/\lp n xs ys/\bp st' f/\Ex [f] st st':=by
 have hfl:=hf.lt
 refine eU ?_
 show Ws (DE [some (.ref f),some (.int (n:Int)),none,none,none,none,none,none,none] st) _ _ _ _
 unfold DE
 refine bq (b7 ?_)
 kspl_open hQ
 refine a6 (pI (n:=6) hf (by decide) (by decide)) ?_
 rintro d st1 ⟨form,rfl,g0,g6,f1,k1⟩
 refine hQ _ _ (bq (Kl ?_))
 clear hQ
 kspl_open hQ
 refine a6 (Et (n:=n) f1 (by omega)) ?_
 rintro d st2 ⟨X,rfl,tX,f2,k2⟩
 w_how
 refine a6 (Et (n:=n) (f2.keep (Ex.cc [.lst (X.map D.int)])) (by omega)) ?_
 rintro d st3 ⟨Y,rfl,tY,f3,k3⟩
 w_how
 refine hQ _ _ ⟨_,_,rfl,?_⟩
 clear hQ
 have rg:st3[st2.length]?=some (.lst (X.map D.int)):=k3.keep _ _ ku (by have:=f2.lt;simp;omega)
 have two:nh st (st3 ++ [.lst (Y.map D.int)]) f st2.length st3.length n X Y:=⟨nJ rg,ku,by have:=iQ rg;omega,(k1.trans k2).len,((k1.trans k2).trans ((Ex.cc _).trans k3)).len,tX,tY,f3.keep (Ex.cc _),(((k1.trans k2).app _).trans k3).app _⟩
 show Ws _ _ _ _ _
 generalize (st3 ++ [O.lst (Y.map D.int)])=ky at two ⊢
 generalize st2.length=r at two ⊢
 generalize st3.length=u at two ⊢
 clear rg tX tY f3 k3 f2 k2 f1 k1
 refine bq (wx (N:=fun δ jA=>∃ (r u:Nat) (X Y:List Int),δ=[some (.ref f),some (.int (n:Int)),some (.int form),some (.ref r),some (.ref u),none,none,none,none]/\nh st jA f r u n X Y) (jJ ?_) ?_)
 ·kspl_open hQ
  refine hQ _ _ ⟨fun _=>b7 ?_,fun _=>ll ⟨r,u,X,Y,rfl,two⟩⟩
  kspl_open cg
  rw [<- Kx]
  refine ⟨sd (by omega),rfl,kd (by rw [gI];simp;omega),cg _ _ ⟨_,u,_,Y,rfl,(two.keep (((Ex.cc _).app _).app _)).wW (af.Jw (show n < 21 by omega) (by omega))⟩⟩
 rintro δ jA ⟨r,u,X,Y,rfl,two⟩
 refine bq (wx (N:=fun δ jA=>∃ (r u:Nat) (X Y:List Int),δ=[some (.ref f),some (.int (n:Int)),some (.int form),some (.ref r),some (.ref u),none,none,none,none]/\nh st jA f r u n X Y) (jJ ?_) ?_)
 ·kspl_open hQ
  refine hQ _ _ ⟨fun _=>Kl ?_,fun _=>ll ⟨r,u,X,Y,rfl,two⟩⟩
  kspl_open cg
  rw [<- Kx,show ((n:Int) - 0).toNat=n by omega,om]
  refine ⟨sd (by omega),sd (by omega),rfl,kd (by rw [gI];simp;omega),cg _ _ ⟨_,_,rfl,_,_,_,_,rfl,(((two.keep (Ex.cc [.iF 0 (n:Int)])).wW (Z:=af.upto n) (List.Perm.refl _)).keep (((Ex.cc _).app _).app _)).wX (af.Jw (show n < 21 by omega) (by omega))⟩⟩
 rintro δ Dj ⟨r,u,X,Y,rfl,two⟩
 refine bq (wx (N:=fun δ jA=>∃ (r u:Nat) (v5:Option D) (X Y:List Int),δ=[some (.ref f),some (.int (n:Int)),some (.int form),some (.ref r),some (.ref u),v5,none,none,none]/\nh st jA f r u n X Y) (jJ ?_) ?_)
 ·kspl_open hQ
  refine hQ _ _ ⟨fun _=>bq (b7 ?_),fun _=>ll ⟨r,u,none,X,Y,rfl,two⟩⟩
  kspl_open cg
  refine a6 (pI (n:=(n:Int)) two.fd (by omega) (by omega)) ?_
  rintro d oG ⟨w,rfl,w0,w1,f7,k7⟩
  obtain ⟨wd,rfl⟩:∃ wd:Nat,w=(wd:Int) - 1:=⟨(w + 1).toNat,by omega⟩
  have t7:nh st oG f r u n X Y:=⟨k7.keep _ _ two.hr (by have:=two.r0;simp;omega),k7.keep _ _ two.hu (by have:=two.u0;simp;omega),two.ne,two.r0,two.u0,two.tX,two.tY,f7,two.ex.trans k7⟩
  w_how
  rw [show (1:Int) + ((wd:Int) - 1)=(wd:Int) by omega]
  refine cg _ _ (bq (b7 ?_))
  clear cg hQ
  kspl_open cg
  rw [<- wY]
  refine ⟨sd (by omega),rfl,kd (by rw [gI];simp;omega),sd (by omega),kd (by rw [List.length_append,gI,gI];simp;omega),cg _ _ (bq (b7 ?_))⟩
  clear cg
  have t8:=(t7.keep ((((((Ex.cc [.iF 1 (wd:Int)]).app [.lst (aE 1 ((wd:Int) - 1).toNat)]).app [.lst [.int 0]]).app [.lst (aE 1 ((wd:Int) - 1).toNat ++ [.int 0])]).app [.iF (wd:Int) (n:Int)]).app [.lst (aE (wd:Int) ((n:Int) - (wd:Int)).toNat)])).wW (af.Nz (w:=wd) (show n < 21 by omega) (by omega) (by omega))
  generalize Rn:(oG ++ _ ++ _ ++ _ ++ _ ++ _ ++ _ ++ _:Store)=j7 at t8 ⊢
  generalize List.length _=r8 at t8 ⊢
  kspl_open cg
  refine ⟨rfl,sd (by omega),kd (by simp [gI];omega),sd (by omega),kd (by simp [gI];omega),rfl,kd (by simp [gI];omega),cg _ _ (jJ ?_)⟩
  clear cg
  generalize Ro:(j7 ++ _ ++ _ ++ _ ++ _ ++ _ ++ _ ++ _ ++ _ ++ _:Store)=Ey
  have tE:nh st Ey f r8 u n (af.qe wd n) Y:=by rw [<- Ro];exact t8.keep (((((((((Ex.cc _).app _).app _).app _).app _).app _).app _).app _).app _)
  kspl_open hQ
  refine hQ _ _ ⟨fun hw=>?_,fun hw=>?_⟩
  ·refine b7 ?_
   kspl_open cg
   rw [show ((n:Int) - 0).toNat=n by omega,om]
   exact ⟨sd (by omega),cg _ _ ⟨r8,_,_,_,_,rfl,(tE.keep ((Ex.cc _).app _)).wX (List.Perm.refl _)⟩⟩
  ·have hne:wd≠n:=fun z=>by simp [z] at hw
   have tF:=tE.wX (af.NA (w:=wd) (show n < 21 by omega) (by omega) (by omega))
   rw [wZ (by omega) (by omega)] at tF
   exact ll ⟨r8,_,_,_,_,rfl,tF⟩
 rintro δ oG ⟨r,u,v5,X,Y,rfl,two⟩
 have n0:0 < n:=by omega
 refine bq (b7 ?_)
 refine b8 ?_
 intro dz hQ
 set_option simprocs false in simp only [bX,d8 two.hr,d8 two.hu]
 refine ⟨rfl,hQ _ _ (bq (b7 (KW (X:=X) (Y:=Y) two.tX two.tY n0 (by omega) rfl rfl ?_)))⟩
 clear hQ
 intro L j7 uk nd hL k8
 have t8:=(two.keep k8).keep (Ex.cc [.lst (L.map D.int)])
 refine bq (xZ (fun mm δ nV=>∃ (pa:Nat) (X L:List Int) (v8:Option D),mm=L.length/\δ=[some (.ref f),some (.int (n:Int)),some (.int form),some (.ref r),some (.ref u),v5,some (bK X Y),some (.ref pa),v8]/\nh st nV f r u n X Y/\items nV pa=some (L.map D.int)/\L.length<=n/\L.Nodup/\(∀ x,x∈L↔(0<=x/\x < (n:Int)/\¬ af.iG X Y x))) L.length (Nat.lt_of_le_of_lt uk (Nat.lt_of_le_of_lt Rm (by decide))) ⟨_,X,L,none,rfl,rfl,t8,Ak,uk,nd,hL⟩ ?_)
 rintro mm δ nV ⟨pa,X,L,v8,rfl,rfl,two,hpa,uk,nd,hL⟩
 have S1:=two.tX.length
 have xl:items (nV ++ [O.lst []]) pa=some (L.map D.int):=by
  unfold items at hpa ⊢
  cases e:nV[pa]? with
  | none=>rw [e] at hpa;cases hpa
  | some o=>rw [nJ e];rw [e] at hpa;exact hpa
 refine b8 ?_
 intro dz hQ
 set_option simprocs false in simp only [bX,Kv (L:=L) (M:=[]) (st:=nV ++ [O.lst []]) xl Ak]
 refine ⟨rfl,hQ _ _ ⟨fun h=>?_,fun h=>?_⟩⟩
 ·have hne:L≠[]:=by simpa using h
  clear hQ
  obtain ⟨m,L1,rfl⟩:∃ m L1,L=m :: L1:=by cases L with | nil=>exact absurd rfl hne | cons m L1=>exact ⟨m,L1,rfl⟩
  obtain ⟨m0,m1,mR⟩:=(hL m).mp List.mem_cons_self
  have t2:=two.keep (Ex.cc [O.lst []])
  generalize (nV ++ [O.lst []])=Ey at xl t2 ⊢
  refine bq (b7 ?_)
  refine b8 ?_
  intro dz hQ
  set_option simprocs false in simp only [bX,xl,List.map_cons]
  refine hQ _ _ (bq (qv ?_))
  clear hQ
  refine b8 ?_
  intro dz hQ
  set_option simprocs false in simp only [bX,d8 t2.hr,oo (xs:=X) m0 (by omega),oo (xs:=X) (i:=0) (by decide) (by omega)]
  refine ⟨rfl,hQ _ _ ?_⟩
  clear hQ
  have i0:kX (X.map D.int).length 0=some 0:=y6 (j:=0) (by rw [List.length_map];omega)
  have im:kX ((X.map D.int).set 0 (.int (af.app X m))).length m=some m.toNat:=by
   rw [List.length_set]
   have:=y6 (n:=(X.map D.int).length) (j:=m.toNat) (by rw [List.length_map];omega)
   rwa [Int.toNat_of_nonneg m0] at this
  have rg:(Ey.set r (.lst ((X.map D.int).set 0 (.int (af.app X m)))))[r]?=some (.lst ((X.map D.int).set 0 (.int (af.app X m)))):=List.getElem?_set_self (iQ t2.hr)
  have eS:((X.map D.int).set 0 (.int (af.app X m))).set m.toNat (.int (af.app X 0))=(af.mq X m.toNat).map D.int:=by
   unfold af.mq
   rw [Int.toNat_of_nonneg m0,List.map_set,List.map_set]
  refine b8 ?_
  intro dz hQ
  set_option simprocs false in simp only [bX,mx t2.hr,mx rg,i0,im,eS]
  refine ⟨rfl,hQ _ _ (bq (b7 ?_))⟩
  clear hQ
  have tS:=af.vf t2.tX (m:=m.toNat) (by omega)
  have hmet:=af.Nu t2.tX t2.tY (m:=m.toNat) (by omega) (by rw [Int.toNat_of_nonneg m0];exact mR)
  rw [Int.toNat_of_nonneg m0] at hmet
  rw [List.set_set]
  have t3:=t2.put (Z:=af.mq X m.toNat) tS hfl
  generalize Ey.set r _=st3 at t3 ⊢
  refine b8 ?_
  intro dz hQ
  set_option simprocs false in simp only [bX,d8 t3.hr,d8 t3.hu]
  refine ⟨rfl,hQ _ _ (b7 (KW (X:=af.mq X m.toNat) (Y:=Y) t3.tX t3.tY n0 (by omega) rfl rfl ?_))⟩
  intro L' ky GQ KY hL' k4
  refine ⟨_,?_,ky.length,af.mq X m.toNat,L',_,rfl,rfl,(t3.keep k4).keep (Ex.cc _),Ak,GQ,KY,hL'⟩
  refine af.less (m:=m) KY (fun x hx=>?_) List.mem_cons_self (fun h=>((hL' m).mp h).2.2 hmet.1)
  obtain ⟨a1,a2,a3⟩:=(hL' x).mp hx
  exact (hL x).mpr ⟨a1,a2,fun h=>a3 (hmet.2 x h)⟩
 ·have he:L=[]:=by simpa using h
  subst he
  refine dD ?_
  kspl_open cg
  have t2:=two.keep (Ex.cc [O.lst []])
  refine cg _ _ ⟨X,Y,rfl,⟨t2.tX,t2.tY,fun x x0 x1=>?_⟩,t2.fd,t2.ex⟩
  exact Classical.byContradiction fun h=>nomatch (hL x).mpr ⟨x0,x1,h⟩
theorem GR {st:Store} {xs:List Int} {n:Nat} (tn:af.Tn n xs) (hn:n<=100):Wp (qD [.tup (xs.map D.int)] st) fun d st'=>d=.tup ((af.inv xs).map D.int)/\Ex [] st st':=by
 have hlen:=tn.length
 refine eU ?_
 show Ws (DO [some (.tup (xs.map D.int)),none,none,none] st) _ _ _ _
 unfold DO
 refine bq (b7 ?_)
 kspl_open hQ
 have e0:(((xs.map D.int).length:Int)).toNat=n:=by rw [List.length_map];omega
 have ez:(List.replicate n [D.int 0]).flatten=(List.replicate n (0:Int)).map D.int:=by
  induction n with
  | zero=>rfl
  | succ n ih=>simp [List.replicate_succ]
 rw [e0,ez]
 refine ⟨rfl,by rw [List.length_map];omega,kd (by simp;omega),hQ _ _ (bq (mh (kZ (xs.map D.int)) (fun k δ st2=>∃ (v2 v3:Option D) (bs:List Int),δ=[some (.tup (xs.map D.int)),some (.ref (st ++ [O.lst [D.int 0]]).length),v2,v3]/\st2[(st ++ [O.lst [D.int 0]]).length]?=some (.lst (bs.map D.int))/\bs.length=n/\(∀ j,j < k->∀ x,xs[j]?=some x->bs[x.toNat]?=some (j:Int))/\Ex [] st st2) ?_ ?_ ?_ ?_))⟩
 ·kspl_open hQ
  exact hQ _ _ ⟨rfl,none,none,_,rfl,ku,by simp,fun j hj=>absurd hj (Nat.not_lt_zero _),(Ex.cc _).app _⟩
 ·rw [zY,List.length_map];omega
 ·have BZ:st.length<=(st ++ [O.lst [D.int 0]]).length:=by simp
  generalize (st ++ [O.lst [D.int 0]]).length=B at BZ ⊢
  rintro k d δ st2 hd ⟨v2,v3,bs,rfl,hB,rh,sr,k2⟩
  obtain ⟨d',hd',rfl⟩:=Gm hd
  obtain ⟨x,hx,rfl⟩:=Az hd'
  obtain ⟨x0,x1⟩:=tn.bound (List.mem_of_getElem? hx)
  have mS:=iQ hx
  kspl_open hQ
  refine ⟨rfl,hQ _ _ (qv ?_)⟩
  have hix:kX (bs.map D.int).length x=some x.toNat:=by
   have:=y6 (n:=(bs.map D.int).length) (j:=x.toNat) (by rw [List.length_map];omega)
   rwa [Int.toNat_of_nonneg x0] at this
  have es:(bs.map D.int).set x.toNat (.int (k:Int))=(bs.set x.toNat (k:Int)).map D.int:=by rw [List.map_set]
  kspl_open cg
  refine cg _ _ ?_
  refine b8 ?_
  intro xk ou
  set_option simprocs false in simp only [bX,mx hB,hix,es]
  refine ou _ _ ⟨_,_,bs.set x.toNat (k:Int),rfl,List.getElem?_set_self (iQ hB),by rw [List.length_set];exact rh,fun j hj y hy=>?_,k2.loc BZ⟩
  by_cases hjk:j=k
  ·subst hjk
   rw [hx] at hy
   cases hy
   rw [List.getElem?_set_self (by rw [rh];omega)]
  ·obtain ⟨y0,y1⟩:=tn.bound (List.mem_of_getElem? hy)
   rw [List.getElem?_set_ne (fun z=>?_)]
   ·exact sr j (by omega) y hy
   ·obtain ⟨h1,e1⟩:=List.getElem?_eq_some_iff.mp hx
    obtain ⟨h2,e2⟩:=List.getElem?_eq_some_iff.mp hy
    exact hjk ((List.getElem_inj tn.nodup).mp (show xs[j]=xs[k] by omega))
 ·rintro δ st2 ⟨v2,v3,bs,rfl,hB,rh,sr,k2⟩
  rw [zY,List.length_map] at sr
  have eb:bs=af.inv xs:=by
   apply List.ext_getElem?
   intro i
   by_cases hi:i < n
   ·have hm:=tn.mem (i:=(i:Int)) (by omega) (by omega)
    have hil:=List.idxOf_lt_length_of_mem hm
    have:=sr (xs.idxOf (i:Int)) hil (i:Int) (by rw [List.getElem?_eq_getElem hil];exact congrArg some (List.getElem_idxOf hil))
    rw [Int.toNat_natCast] at this
    rw [this]
    have ea:=af.nR (xs:=af.inv xs) (i:=(i:Int)) (by omega) (by rw [af.CP];omega)
    rw [Int.toNat_natCast,af.CQ (by omega) (by omega)] at ea
    exact ea.symm
   ·rw [List.getElem?_eq_none (by omega),List.getElem?_eq_none (by rw [af.CP];omega)]
  subst eb
  refine dD ?_
  refine b8 ?_
  intro dz hQ
  set_option simprocs false in simp only [bX,d8 hB]
  exact hQ _ _ ⟨rfl,k2⟩
theorem B0 {st:Store} {xs ys:List Int} (hb:∀ x∈xs,0<=x/\x < (ys.length:Int)) (hn:xs.length<=100):Wp (oX [.tup (xs.map D.int),.tup (ys.map D.int)] st) fun d st'=>d=.tup ((af.aZ xs ys).map D.int)/\Ex [] st st':=by
 refine eU ?_
 show Ws (DQ [some (.tup (xs.map D.int)),some (.tup (ys.map D.int))] st) _ _ _ _
 unfold DQ
 refine dD ?_
 kspl_open hQ
 refine q5 (xs.map D.int) (fun d=>.int (af.app ys (inD d))) ?_ (by rw [List.length_map];omega) ?_ ?_
 ·kspl_open cg
  exact cg _ _ ⟨q4 _ _,Ex.refl⟩
 ·intro d hd st1 k1
  obtain ⟨x,hx,rfl⟩:=ug hd
  obtain ⟨x0,x1⟩:=hb x hx
  refine b8 ?_
  intro iZ cg
  set_option simprocs false in simp only [bX,List.map_cons,List.map_nil,List.getD_cons_succ,List.getD_cons_zero,oo (xs:=ys) x0 x1]
  exact cg _ _ ⟨rfl,Ex.refl⟩
 ·intro st' k'
  rw [x4 (f:=af.app ys) fun x hx=>rfl]
  w_how
  exact hQ _ _ ⟨rfl,k'.app _⟩
theorem Rq {st:Store} {xs ys p:List Int} {n:Nat} (tx:af.Tn n xs) (ty:af.Tn n ys) (tp:af.Tn n p) (hn:n<=100):Wp (A6 [bK xs ys,.tup (p.map D.int)] st) fun d st'=>d=bK (af.anew xs p) (af.anew ys p)/\Ex [] st st':=by
 have hlx:=tx.length
 have yh:=ty.length
 have B1:=tp.length
 have ti:=tp.aw
 have hli:=ti.length
 refine eU ?_
 show Ws (DR [some (bK xs ys),some (.tup (p.map D.int)),none,none,none] st) _ _ _ _
 unfold DR bK
 refine bq (b7 ?_)
 kspl_open hQ
 refine a6 (GR tp hn) ?_
 rintro d st1 ⟨rfl,k1⟩
 refine hQ _ _ (bq (b7 ?_))
 clear hQ
 kspl_open hQ
 refine a6 (B0 (xs:=af.inv p) (ys:=xs) (fun x hx=>by rw [hlx];exact ti.bound hx) (by omega)) ?_
 rintro d st2 ⟨rfl,k2⟩
 refine a6 (B0 (xs:=af.aZ (af.inv p) xs) (ys:=p) (fun x hx=>by rw [B1];exact (ti.aZ tx).bound hx) (by rw [af.zq];omega)) ?_
 rintro d st3 ⟨rfl,k3⟩
 refine hQ _ _ (bq (b7 ?_))
 clear hQ
 kspl_open hQ
 refine a6 (B0 (xs:=af.inv p) (ys:=ys) (fun x hx=>by rw [yh];exact ti.bound hx) (by omega)) ?_
 rintro d ky ⟨rfl,k4⟩
 refine a6 (B0 (xs:=af.aZ (af.inv p) ys) (ys:=p) (fun x hx=>by rw [B1];exact (ti.aZ ty).bound hx) (by rw [af.zq];omega)) ?_
 rintro d jA ⟨rfl,k5⟩
 refine hQ _ _ (dD ?_)
 clear hQ
 kspl_open hQ
 exact ⟨rfl,hQ _ _ ⟨rfl,(((k1.trans k2).trans k3).trans k4).trans k5⟩⟩
theorem KZ {F:List Int} {x:Int}:(!F.contains x)=true->af.cE F x=F ++ [x]:=fun h=>by
 unfold af.cE
 rw [if_neg fun z=>by rw [List.contains_iff_mem.mpr z] at h;cases h]
theorem K0 {F:List Int} {x:Int}:(!F.contains x)=false->af.cE F x=F:=fun h=>by
 unfold af.cE
 rw [if_pos (List.contains_iff_mem.mp (by simpa using h))]
theorem Rr {st:Store} {xs ys:List Int} {n:Nat} {s:Int} (tx:af.Tn n xs) (ty:af.Tn n ys) (hn:n<=100) (s0:0<=s) (s1:s < (n:Int)):Wp (A8 [bK xs ys,.int s] st) fun d st'=>d=.tup ((af.bf xs ys s n).map D.int)/\Ex [] st st':=by
 have hlx:=tx.length
 have yh:=ty.length
 refine eU ?_
 show Ws (DT [some (bK xs ys),some (.int s),none,none,none,none] st) _ _ _ _
 unfold DT
 refine bq (b7 ?_)
 kspl_open hQ
 refine ⟨rfl,hQ _ _ (bq (b7 ?_))⟩
 clear hQ
 kspl_open hQ
 refine hQ _ _ (bq (xZ (fun m δ st2=>∃ (k:Nat) (v4 v5:Option D),m=n - k/\δ=[some (bK xs ys),some (.int s),some (.ref st.length),some (.int (k:Int)),v4,v5]/\st2[st.length]?=some (.lst ((af.bf xs ys s k).map D.int))/\k<=(af.bf xs ys s k).length/\Ex [] st st2) n (Nat.lt_of_le_of_lt hn (by decide)) ⟨0,none,none,by omega,rfl,ku,Nat.zero_le _,Ex.cc _⟩ ?_))
 clear hQ
 rintro m δ st2 ⟨k,v4,v5,rfl,rfl,hl,hk,k2⟩
 have rh:=af.zt tx ty s0 s1 k
 refine b8 ?_
 intro dz hQ
 set_option simprocs false in simp only [bX,d8 hl]
 refine hQ _ _ ⟨fun hlt=>?_,fun hlt=>?_⟩
 ·clear hQ
  have hlt:=of_decide_eq_true hlt
  rw [List.length_map] at hlt
  have mS:k < (af.bf xs ys s k).length:=by omega
  obtain ⟨x,hx⟩:∃ x,(af.bf xs ys s k)[k]?=some x:=⟨_,List.getElem?_eq_getElem mS⟩
  obtain ⟨x0,x1⟩:=af.o9 tx ty s0 s1 k x (List.mem_of_getElem? hx)
  have e1:af.bf xs ys s (k + 1)=af.visit xs ys (af.bf xs ys s k) x:=by
   show (match (af.bf xs ys s k)[k]? with | some x=>af.visit xs ys (af.bf xs ys s k) x | none=>af.bf xs ys s k)=_
   rw [hx]
  have hb1:=af.zt tx ty s0 s1 (k + 1)
  rw [e1] at hb1
  have hp1:=(af.tw (af.cE (af.bf xs ys s k) (af.app xs x)) (af.app ys x)).length_le
  have hp0:=(af.tw (af.bf xs ys s k) (af.app xs x)).length_le
  change _<=(af.visit xs ys (af.bf xs ys s k) x).length at hp1
  refine bq (mh [.tup (xs.map D.int),.tup (ys.map D.int)] (fun m δ st3=>∃ (v4 v5:Option D) (G:List Int),δ=[some (bK xs ys),some (.int s),some (.ref st.length),some (.int (k:Int)),v4,v5]/\st3[st.length]?=some (.lst (G.map D.int))/\(m=0->G=af.bf xs ys s k)/\(m=1->G=af.cE (af.bf xs ys s k) (af.app xs x))/\(m=2->G=af.visit xs ys (af.bf xs ys s k) x)/\Ex [] st st3) ?_ (by simp) ?_ ?_)
  ·unfold bK
   kspl_open hQ
   exact hQ _ _ ⟨rfl,v4,v5,_,rfl,hl,fun _=>rfl,fun z=>by omega,fun z=>by omega,k2⟩
  ·rintro m z δ st3 hm ⟨v4,v5,G,rfl,hl3,g0,g1,_,k3⟩
   have hm2:m < 2:=iQ hm
   obtain ⟨zs,rfl,tz,em⟩:∃ (zs:List Int),z=.tup (zs.map D.int)/\af.Tn n zs/\((m=0/\zs=xs)\/(m=1/\zs=ys)):=by
    rcases (show m=0\/m=1 by omega) with rfl | rfl
    ·exact ⟨xs,by simpa using hm.symm,tx,.inl ⟨rfl,rfl⟩⟩
    ·exact ⟨ys,by simpa using hm.symm,ty,.inr ⟨rfl,rfl⟩⟩
   have hG:G.length<=100/\G[k]?=some x:=by
    rcases em with ⟨rfl,_⟩ | ⟨rfl,_⟩
    ·rw [g0 rfl];exact ⟨by omega,hx⟩
    ·rw [g1 rfl]
     refine ⟨by omega,?_⟩
     obtain ⟨t,e⟩:=af.tw (af.bf xs ys s k) (af.app xs x)
     rw [<- e,List.getElem?_append_left mS];exact hx
   have B2:∀ G',G'=af.cE G (af.app zs x)->(m + 1=0->G'=af.bf xs ys s k)/\(m + 1=1->G'=af.cE (af.bf xs ys s k) (af.app xs x))/\(m + 1=2->G'=af.visit xs ys (af.bf xs ys s k) x):=fun G' e=>by
    rcases em with ⟨rfl,rfl⟩ | ⟨rfl,rfl⟩
    ·exact ⟨fun z=>by omega,fun _=>by rw [e,g0 rfl],fun z=>by omega⟩
    ·exact ⟨fun z=>by omega,fun z=>by omega,fun _=>by rw [e,g1 rfl];rfl⟩
   have hat:gK (G.map D.int) (k:Int)=some (.int x):=xC (by rw [List.getElem?_map,hG.2];rfl)
   kspl_open hQ
   refine hQ _ _ (bq (b7 ?_))
   clear hQ
   refine b8 ?_
   intro dz hQ
   set_option simprocs false in simp only [bX,d8 hl3,hat,oo (xs:=zs) x0 (by rw [tz.length];exact x1)]
   refine hQ _ _ (jJ ?_)
   clear hQ
   refine b8 ?_
   intro dz hQ
   set_option simprocs false in simp only [bX,Dp (st:=st3) (c:=.ref st.length) (ns:=G) (d8 hl3)]
   refine hQ _ _ ⟨fun hc=>uc ?_,fun hc=>ll ?_⟩
   ·obtain ⟨n0,n1,n2⟩:=B2 (G ++ [af.app zs x]) (KZ hc).symm
    refine b8 ?_
    intro iZ cg
    set_option simprocs false in simp only [bX,mx hl3]
    refine ⟨qZ (by rw [d8 hl3];rfl),kd (by rw [List.length_map];omega),cg _ _ ⟨_,_,G ++ [af.app zs x],rfl,?_,n0,n1,n2,k3.loc (Nat.le_refl _)⟩⟩
    rw [List.getElem?_set_self (iQ hl3),List.map_append];rfl
   ·obtain ⟨n0,n1,n2⟩:=B2 G (K0 hc).symm
    exact ⟨_,_,G,rfl,hl3,n0,n1,n2,k3⟩
  ·rintro δ st3 ⟨v4,v5,G,rfl,hl3,_,_,g2,k3⟩
   have g2:=g2 rfl
   subst g2
   refine b7 ?_
   kspl_open hQ
   refine hQ _ _ ⟨n - (k + 1),by omega,k + 1,v4,v5,rfl,by simp,by rw [e1];exact hl3,by rw [e1];omega,k3⟩
 ·have hlt:=of_decide_eq_false hlt
  rw [List.length_map] at hlt
  have hle:(af.bf xs ys s k).length<=k:=by omega
  have e:af.bf xs ys s n=af.bf xs ys s k:=by
   have:=af.CS hle (n - k)
   rwa [show k + (n - k)=n by omega] at this
  refine dD ?_
  refine b8 ?_
  intro iZ cg
  set_option simprocs false in simp only [bX,d8 hl]
  rw [<- e]
  exact cg _ _ ⟨rfl,k2⟩
theorem Rt {st:Store} {xs:List Int} {n:Nat} {i:Int} (tn:af.Tn n xs) (hn:n<=100) (i0:0<=i) (i1:i < (n:Int)):Wp (Bg [.tup (xs.map D.int),.int i] st) fun d st'=>∃ r:List Int,d=.tup (r.map D.int)/\af.gL xs i r/\Ex [] st st':=by
 have hlen:=tn.length
 refine eU ?_
 show Ws (DY [some (.tup (xs.map D.int)),some (.int i),none,none] st) _ _ _ _
 unfold DY
 refine bq (b7 ?_)
 kspl_open hQ
 refine ⟨rfl,hQ _ _ (bq (b7 ?_))⟩
 clear hQ
 refine b8 ?_
 intro dz hQ
 set_option simprocs false in simp only [bX,oo (xs:=xs) i0 (by omega)]
 refine hQ _ _ (bq (xZ (fun m δ st2=>∃ k:Nat,m=n - (k + 1)/\δ=[some (.tup (xs.map D.int)),some (.int i),some (.ref st.length),some (.int (af.br xs i (k + 1)))]/\st2[st.length]?=some (.lst ((af.row xs i k).map D.int))/\af.NB xs i k/\Ex [] st st2) (n - 1) (Nat.lt_of_le_of_lt (show n - 1<=100 by omega) (by decide)) ⟨0,rfl,rfl,ku,fun j h1 h2=>by omega,Ex.cc _⟩ ?_))
 clear hQ
 rintro m δ st2 ⟨k,rfl,rfl,hL,nb,k2⟩
 have hrl:=tn.jG i0 i1 nb
 kspl_open hQ
 refine hQ _ _ ⟨fun hb=>?_,fun hb=>?_⟩
 ·have hb:af.br xs i (k + 1)≠i:=by simpa using hb
  have B3:af.NB xs i (k + 1):=fun j h1 h2=>by
   by_cases hj:j<=k
   ·exact nb j h1 hj
   ·have:j=k + 1:=by omega
    rw [this];exact hb
  have hle:=tn.jG i0 i1 B3
  have hit:=tn.br i0 i1 (k + 1)
  refine bq (uc ?_)
  refine b8 ?_
  intro iZ cg
  set_option simprocs false in simp only [bX,mx hL]
  refine ⟨qZ (by rw [d8 hL];rfl),kd (by rw [List.length_map,af.qR];omega),cg _ _ (b7 ?_)⟩
  clear cg
  refine b8 ?_
  intro iZ cg
  set_option simprocs false in simp only [bX,oo (xs:=xs) hit.1 (by omega)]
  refine cg _ _ ⟨n - (k + 1 + 1),by omega,k + 1,rfl,rfl,?_,B3,k2.loc (Nat.le_refl _)⟩
  rw [List.getElem?_set_self (iQ hL),af.Jv,List.map_append];rfl
 ·have hb:af.br xs i (k + 1)=i:=by simpa using hb
  refine dD ?_
  refine b8 ?_
  intro iZ cg
  set_option simprocs false in simp only [bX,d8 hL]
  exact cg _ _ ⟨_,rfl,⟨k,rfl,nb,hb⟩,k2⟩
theorem Rv {st:Store} {xs:List Int} {n:Nat} (tn:af.Tn n xs) (hn:n<=100):Wp (Bi [.tup (xs.map D.int)] st) fun d st'=>∃ rs:List (List Int),d=x3 rs/\af.tu xs (af.upto n) rs/\(∀ r∈rs,r.length<=n/\∀ x∈r,0<=x/\x < (n:Int))/\rs.length<=n/\Ex [] st st':=by
 have hlen:=tn.length
 refine eU ?_
 show Ws (D0 [some (.tup (xs.map D.int)),none,none,none,none,none] st) _ _ _ _
 unfold D0
 refine bq (b7 ?_)
 kspl_open hQ
 refine ⟨rfl,hQ _ _ (bq (b7 ?_))⟩
 clear hQ
 kspl_open hQ
 have eS:(st ++ [O.lst []]).length=st.length + 1:=by simp
 rw [eS]
 refine hQ _ _ (bq (mh (aE 0 n) (fun k δ st2=>∃ (v3 v4 v5:Option D) (rs:List (List Int)) (kvs:List (Key×D)),δ=[some (.tup (xs.map D.int)),some (.ref st.length),some (.ref (st.length + 1)),v3,v4,v5]/\st2[st.length]?=some (.lst (rs.map fun r=>.tup (r.map D.int)))/\st2[st.length + 1]?=some (.dct kvs) /\
   (∀ rest,af.tu xs (af.from' n k (fun x=>(dy kvs (Sum.inl x:Key)).isSome)) rest->af.tu xs (af.upto n) (rs ++ rest))/\(∀ r∈rs,r.length<=n/\∀ x∈r,0<=x/\x < (n:Int))/\rs.length<=k/\kvs.length<=k * n/\Ex [] st st2) ?_ (by rw [gI];omega) ?_ ?_))
 ·clear hQ
  kspl_open hQ
  rw [List.length_map,hlen]
  refine ⟨by omega,hQ _ _ ⟨by rw [Int.toNat_natCast],none,none,none,[],[],rfl,nJ ku,by rw [<- eS];exact ku,fun rest hrest=>?_,(fun r hr=>nomatch hr),Nat.le_refl _,Nat.zero_le _,(Ex.cc _).app _⟩⟩
  have e:af.from' n 0 (fun x=>(dy ([]:List (Key×D)) (Sum.inl x:Key)).isSome)=af.upto n:=af.Nn n
  rw [e] at hrest
  exact hrest
 ·rintro k d δ st2 hd ⟨v3,v4,v5,rs,kvs,rfl,Ez,EA,um,hb,hrl,mS,k2⟩
  have hk:=iQ hd
  rw [gI] at hk
  rw [Dh hk,Int.zero_add] at hd
  cases hd
  have hkn:k * n<=10000:=Nat.le_trans (Nat.mul_le_mul (show k<=100 by omega) hn) (by decide)
  clear hQ
  kspl_open hQ
  refine hQ _ _ (jJ ?_)
  clear hQ
  refine b8 ?_
  intro dz hQ
  set_option simprocs false in simp only [bX,KD EA,KG]
  have hfs:=af.Nl hk (fun x=>(dy kvs (Sum.inl x:Key)).isSome)
  refine hQ _ _ ⟨fun hs=>?_,fun hs=>?_⟩
  ·have GS:(dy kvs (Sum.inl (k:Int):Key)).isSome=false:=by simpa using hs
   simp only [GS,Bool.false_eq_true,if_false] at hfs
   clear hQ
   refine bq (b7 ?_)
   kspl_open hQ
   refine a6 (Rt tn hn (i:=(k:Int)) (by omega) (by omega)) ?_
   rintro d st3 ⟨r,rfl,mJ,k3⟩
   refine hQ _ _ (bq (uc ?_))
   clear hQ
   have GU:=k3.keep _ _ Ez (by simp)
   have Rw:=k3.keep _ _ EA (by simp)
   have GV:=mJ.len tn (by omega) (by omega)
   have hrb:=mJ.bound tn (by omega) (by omega)
   refine b8 ?_
   intro dz hQ
   set_option simprocs false in simp only [bX,mx GU]
   refine ⟨qZ (by rw [d8 GU];rfl),kd (by rw [List.length_map];omega),hQ _ _ ?_⟩
   clear hQ
   refine mh (r.map D.int) (fun j δ jA=>∃ (v5:Option D) (kvs':List (Key×D)),δ=[some (.tup (xs.map D.int)),some (.ref st.length),some (.ref (st.length + 1)),some (.int (k:Int)),some (.tup (r.map D.int)),v5]/\jA[st.length]?=some (.lst ((rs ++ [r]).map fun r=>.tup (r.map D.int)))/\jA[st.length + 1]?=some (.dct kvs') /\
     (∀ x:Int,(dy kvs' (Sum.inl x:Key)).isSome=((dy kvs (Sum.inl x:Key)).isSome || (r.take j).contains x))/\kvs'.length<=kvs.length + j/\Ex [] st jA) ?_ (by rw [List.length_map];omega) ?_ ?_
   ·kspl_open hQ
    refine hQ _ _ ⟨rfl,v5,kvs,rfl,?_,?_,fun x=>by simp,by omega,(k2.trans k3).loc (Nat.le_refl _)⟩
    ·rw [List.getElem?_set_self (iQ GU),List.map_append];rfl
    ·rw [List.getElem?_set_ne (by omega)];exact Rw
   ·rintro j y δ jA hj ⟨v5,kvs',rfl,GW,EB,EC,B4,k5⟩
    obtain ⟨x,hx,rfl⟩:=Az hj
    obtain ⟨hjl,ex⟩:=List.getElem?_eq_some_iff.mp hx
    subst ex
    kspl_open hQ
    refine hQ _ _ (OV ?_)
    clear hQ
    kspl_open hQ
    refine hQ _ _ ?_
    kspl_open cg
    refine cg _ _ ?_
    kspl_open ou
    refine ou _ _ ⟨_,kvs',_,rfl,KD EB,KG _,kd (by omega),_,_,rfl,?_,List.getElem?_set_self (iQ EB),fun x=>?_,?_,k5.loc (by omega)⟩
    ·rw [List.getElem?_set_ne (by omega)];exact GW
    ·rw [PD,PJ hjl]
     by_cases hx:x=r[j]
     ·subst hx;simp
     ·rw [if_neg (by intro z;exact hx (Sum.inl.inj z)),EC x]
      have:(x == r[j])=false:=beq_eq_false_iff_ne.mpr hx
      rw [this,Bool.or_false]
    ·have:=PH kvs' (Sum.inl r[j]:Key) (.bl true);omega
   ·rintro δ jA ⟨v5,kvs',rfl,GW,EB,EC,B4,k5⟩
    rw [List.length_map] at B4 EC
    refine ⟨_,_,_,rs ++ [r],kvs',rfl,GW,EB,fun rest hrest=>?_,fun r' hr'=>?_,by rw [List.length_append];simp;omega,by rw [Nat.succ_mul];omega,k5⟩
    ·have e:(fun x=>(dy kvs' (Sum.inl x:Key)).isSome)=fun x=>((dy kvs (Sum.inl x:Key)).isSome || r.contains x):=by
      funext x;rw [EC x,List.take_length]
     rw [e,<- af.Nm] at hrest
     rw [List.append_assoc]
     refine um _ ?_
     rw [hfs]
     refine .cons mJ ?_
     have e2:af.out ((k:Int) :: af.from' n (k + 1) (fun x=>(dy kvs (Sum.inl x:Key)).isSome)) r=af.out (af.from' n (k + 1) (fun x=>(dy kvs (Sum.inl x:Key)).isSome)) r:=by
      unfold af.out
      rw [List.filter_cons,if_neg (by simp [mJ.mem])]
     rw [e2]
     exact hrest
    ·rcases List.mem_append.mp hr' with h | h
     ·exact hb r' h
     ·have:r'=r:=by simpa using h
      subst this
      exact ⟨GV,hrb⟩
  ·have GS:(dy kvs (Sum.inl (k:Int):Key)).isSome=true:=by simpa using hs
   simp only [GS,if_true] at hfs
   exact ll ⟨_,_,_,rs,kvs,rfl,Ez,EA,fun rest hrest=>um rest (by rw [hfs];exact hrest),hb,by omega,by rw [Nat.succ_mul];omega,k2⟩
 ·rintro δ st2 ⟨v3,v4,v5,rs,kvs,rfl,Ez,EA,um,hb,hrl,mS,k2⟩
  rw [gI] at um hrl
  refine dD ?_
  clear hQ
  refine b8 ?_
  intro dz hQ
  set_option simprocs false in simp only [bX,d8 Ez]
  refine hQ _ _ ⟨rs,rfl,?_,hb,hrl,k2⟩
  have:=um [] (by rw [af.Nk];exact .nil)
  rwa [List.append_nil] at this
theorem Rx {rs:List (List Int)} {m:Nat} {d:D} (h:(rs.map fun r=>D.tup (r.map D.int))[m]?=some d):∃ r,rs[m]?=some r/\d=.tup (r.map D.int):=by
 rw [List.getElem?_map] at h
 obtain ⟨r,h1,h2⟩:=Option.map_eq_some_iff.mp h
 exact ⟨r,h1,h2.symm⟩
theorem K1 {xs:List Int} {i:Int} {m:Nat} {j:Int} (h0:0<=j) (h1:j < ((m + 1:Nat):Int)):gK ((af.row xs i m).map D.int) j=some (.int (af.br xs i j.toNat)):=by
 have e:((af.row xs i m).map D.int)[j.toNat]?=some (.int (af.br xs i j.toNat)):=by
  unfold af.row
  rw [List.map_map,List.getElem?_map,List.getElem?_range (by omega)];rfl
 have:=xC e
 rwa [Int.toNat_of_nonneg h0] at this
theorem K2 {bs:List Int} {m v x:Int} (h0:0<=m) (h1:m < (bs.length:Int)) (x0:0<=x):af.app (bs.set m.toNat v) x=if x=m then v else af.app bs x:=by
 have:=af.FO (xs:=bs) (m:=m.toNat) (v:=v) (x:=x) (by omega) x0
 rw [Int.toNat_of_nonneg h0] at this
 exact this
theorem Ry {st:Store} {xs:List Int} {n:Nat} {k:Int} (tn:af.Tn n xs) (hn:n<=100):Wp (Bk [.tup (xs.map D.int),.int k] st) fun d st'=>d=.tup ((af.cF xs k).map D.int)/\Ex [] st st':=by
 have hlen:=tn.length
 refine eU ?_
 show Ws (D1 [some (.tup (xs.map D.int)),some (.int k),none,none,none,none] st) _ _ _ _
 unfold D1
 refine bq (b7 ?_)
 kspl_open hQ
 have e0:(((xs.map D.int).length:Int)).toNat=n:=by rw [List.length_map];omega
 have ez:(List.replicate n [D.int 0]).flatten=(List.replicate n (0:Int)).map D.int:=by
  clear hlen tn hn e0
  induction n with
  | zero=>rfl
  | succ n ih=>simp [List.replicate_succ]
 rw [e0,ez]
 have BZ:st.length<=(st ++ [O.lst [D.int 0]]).length:=by simp
 refine ⟨rfl,by rw [List.length_map];omega,kd (by simp;omega),hQ _ _ ?_⟩
 clear hQ
 have GX:(st ++ [O.lst [D.int 0]] ++ [O.lst ((List.replicate n (0:Int)).map D.int)])[(st ++ [O.lst [D.int 0]]).length]?=some (.lst ((List.replicate n (0:Int)).map D.int)):=ku
 have kB:Ex [] st (st ++ [O.lst [D.int 0]] ++ [O.lst ((List.replicate n (0:Int)).map D.int)]):=(Ex.cc _).app _
 generalize (st ++ [O.lst [D.int 0]] ++ [O.lst ((List.replicate n (0:Int)).map D.int)])=Rz at GX kB ⊢
 generalize (st ++ [O.lst [D.int 0]]).length=B at BZ GX ⊢
 show Ws _ _ _ _ _
 obtain ⟨d,st2,e2,rs,rfl,um,hrb,hrl,k2⟩:=Rv (st:=Rz) tn hn
 refine bq (mh (rs.map fun r=>.tup (r.map D.int)) (fun m δ st3=>∃ (v3 v4 v5:Option D) (bs:List Int),δ=[some (.tup (xs.map D.int)),some (.int k),some (.ref B),v3,v4,v5]/\st3[B]?=some (.lst (bs.map D.int))/\bs.length=n/\(∀ j,j < m->∀ r,rs[j]?=some r->∀ x∈r,af.app bs x=af.pw xs k x)/\Ex [] st st3) ?_ (by rw [List.length_map];omega) ?_ ?_)
 ·kspl_open hQ
  refine ⟨_,_,e2,?_⟩
  exact ⟨_,rfl,hQ _ _ ⟨rfl,none,none,none,_,rfl,k2.keep _ _ GX (by simp),by simp,fun j hj=>absurd hj (Nat.not_lt_zero _),kB.trans k2⟩⟩
 ·rintro m d δ st3 hm ⟨v3,v4,v5,bs,rfl,GY,rh,sr,k3⟩
  obtain ⟨r,hr,rfl⟩:=Rx hm
  obtain ⟨i,hi,mJ⟩:=um.all.1 r (List.mem_of_getElem? hr)
  obtain ⟨i0,i1⟩:=af.lg.mp hi
  obtain ⟨M,rfl,nb,bk⟩:=mJ.ex
  have hM:=tn.jG i0 i1 nb
  kspl_open hQ
  refine hQ _ _ (mh (kZ ((af.row xs i M).map D.int)) (fun t δ ky=>∃ (v4 v5:Option D) (cs:List Int),δ=[some (.tup (xs.map D.int)),some (.int k),some (.ref B),some (.tup ((af.row xs i M).map D.int)),v4,v5]/\ky[B]?=some (.lst (cs.map D.int))/\cs.length=n/\(∀ x:Int,0<=x->x < (n:Int)->af.app bs x=af.pw xs k x->af.app cs x=af.pw xs k x)/\(∀ j,j < t->af.app cs (af.br xs i j)=af.pw xs k (af.br xs i j))/\Ex [] st ky) ?_ ?_ ?_ ?_)
  ·clear hQ
   kspl_open hQ
   exact hQ _ _ ⟨rfl,v4,v5,bs,rfl,GY,rh,fun _ _ _ h=>h,fun j hj=>absurd hj (Nat.not_lt_zero _),k3⟩
  ·rw [zY,List.length_map,af.qR];omega
  ·rintro t d δ ky hd ⟨v4,v5,cs,rfl,ED,hcl,hcs,hct,k4⟩
   obtain ⟨d',hd',rfl⟩:=Gm hd
   obtain ⟨y,hy,rfl⟩:=Az hd'
   have K3:=iQ hy
   rw [af.qR] at K3
   have ey:y=af.br xs i t:=by
    unfold af.row at hy
    rw [List.getElem?_map,List.getElem?_range K3] at hy
    exact (Option.some.inj hy).symm
   subst ey
   obtain ⟨x0,x1⟩:=tn.br i0 i1 t
   have hL:(0:Int) < ((M + 1:Nat):Int):=by omega
   have m0:=Int.emod_nonneg ((t:Int) + k) (Int.ne_of_gt hL)
   have m1:=Int.emod_lt_of_pos ((t:Int) + k) hL
   have eL:((((af.row xs i M).map D.int).length:Nat):Int)=((M + 1:Nat):Int):=by rw [List.length_map,af.qR]
   have hix:kX (cs.map D.int).length (af.br xs i t)=some (af.br xs i t).toNat:=by
    have:=y6 (n:=(cs.map D.int).length) (j:=(af.br xs i t).toNat) (by rw [List.length_map];omega)
    rwa [Int.toNat_of_nonneg x0] at this
   have es:∀ v:Int,(cs.map D.int).set (af.br xs i t).toNat (.int v)=(cs.set (af.br xs i t).toNat v).map D.int:=fun v=>by rw [List.map_set]
   clear hQ
   kspl_open hQ
   refine ⟨rfl,hQ _ _ (qv ?_)⟩
   clear hQ
   refine b8 ?_
   intro dz hQ
   set_option simprocs false in simp only [bX,eL,K1 m0 m1]
   refine ⟨hL,hQ _ _ ?_⟩
   clear hQ
   refine b8 ?_
   intro dz hQ
   set_option simprocs false in simp only [bX,mx ED,hix,es]
   have hat:=tn.vh x0 x1 (tn.ve i0 i1 nb bk t k)
   refine hQ _ _ ⟨_,_,_,rfl,List.getElem?_set_self (iQ ED),by rw [List.length_set];exact hcl,fun x h0 h1 h=>?_,fun j hj=>?_,k4.loc BZ⟩
   ·rw [K2 x0 (by omega) h0]
    split
    ·next e=>rw [e];exact hat
    ·exact hcs x h0 h1 h
   ·obtain ⟨y0,y1⟩:=tn.br i0 i1 j
    rw [K2 x0 (by omega) y0]
    split
    ·next e=>rw [e];exact hat
    ·next e =>
     by_cases RA:j=t
     ·rw [RA] at e;exact absurd rfl e
     ·exact hct j (by omega)
  ·rintro δ ky ⟨v4,v5,cs,rfl,ED,hcl,hcs,hct,k4⟩
   rw [zY,List.length_map,af.qR] at hct
   refine ⟨_,_,_,cs,rfl,ED,hcl,fun j hj r hr2 x hx=>?_,k4⟩
   by_cases RB:j=m
   ·subst RB
    rw [hr] at hr2
    cases hr2
    obtain ⟨jj,S2,rfl⟩:=af.CO.mp hx
    exact hct jj (by omega)
   ·obtain ⟨b0,b1⟩:=(hrb r (List.mem_of_getElem? hr2)).2 x hx
    exact hcs x b0 b1 (sr j (by omega) r hr2 x hx)
 ·rintro δ st3 ⟨v3,v4,v5,bs,rfl,GY,rh,sr,k3⟩
  rw [List.length_map] at sr
  have e:bs=af.cF xs k:=by
   refine af.oJ (n:=n) rh (by rw [af.zw];exact hlen) fun s s0 s1=>?_
   rw [af.oj s0 (by omega)]
   obtain ⟨r,hr',hx⟩:=um.all.2 s (af.lg.mpr ⟨s0,s1⟩)
   obtain ⟨j,hj,ej⟩:=List.getElem_of_mem hr'
   exact sr j hj r (by rw [List.getElem?_eq_getElem hj,ej]) s hx
  subst e
  refine dD ?_
  refine b8 ?_
  intro dz hQ
  set_option simprocs false in simp only [bX,d8 GY]
  exact hQ _ _ ⟨rfl,k3⟩
theorem RC {st:Store} {xs ys:List Int} {n:Nat} {k:Int} (tx:af.Tn n xs) (ty:af.Tn n ys) (hn:n<=100):Wp (Bn [bK xs ys,.int k] st) fun d st'=>d=bK xs (af.shr xs ys k)/\Ex [] st st':=by
 refine eU ?_
 show Ws (D2 [some (bK xs ys),some (.int k)] st) _ _ _ _
 unfold D2 bK
 refine dD ?_
 have tp:=tx.cF (-k)
 kspl_open hQ
 refine a6 (Ry (k:=-k) tx hn) ?_
 rintro d st1 ⟨rfl,k1⟩
 refine a6 (B0 (xs:=af.cF xs (-k)) (ys:=ys) (fun x hx=>by rw [ty.length];exact tp.bound hx) (by rw [tp.length];exact hn)) ?_
 rintro d st2 ⟨rfl,k2⟩
 exact ⟨rfl,hQ _ _ ⟨rfl,k1.trans k2⟩⟩
theorem RD {st:Store} {xs ys:List Int} {n:Nat} (tx:af.Tn n xs) (ty:af.Tn n ys) (hn:n<=100):Wp (Bp [bK xs ys] st) fun d st'=>d=bK (af.inv ys) xs/\Ex [] st st':=by
 refine eU ?_
 show Ws (D3 [some (bK xs ys)] st) _ _ _ _
 unfold D3 bK
 refine dD ?_
 kspl_open hQ
 refine a6 (GR ty hn) ?_
 rintro d st1 ⟨rfl,k1⟩
 exact ⟨rfl,hQ _ _ ⟨rfl,k1⟩⟩
theorem GZ {st:Store} {Q:D->Store->Prop} {xs:List Int} {v:Int} (h:v∈xs):Wp (gP (.tup (xs.map D.int)) [.int v] st) Q↔Q (.int (xs.idxOf v:Int)) st:=by
 rw [Kq]
 constructor
 ·rintro ⟨ns,j,h1,h2,q⟩
  rw [Ks] at h1
  cases h1
  rw [Kz h] at h2
  cases h2
  exact q
 ·intro q
  exact ⟨xs,_,Ks xs,Kz h,q⟩
theorem K4 {st:Store} {xs ys p:List Int} {n:Nat} (tx:af.Tn n xs) (ty:af.Tn n ys) (tp:af.Tn n p) (hn:n<=100):Wp (ui [bK xs ys,.tup (p.map D.int)] st) fun d st'=>d=bK (af.anew xs p) (af.anew ys p)/\Ex [] st st':=by
 have B1:=tp.length
 refine eU ?_
 show Ws (Dz [some (bK xs ys),some (.tup (p.map D.int))] st) _ _ _ _
 unfold Dz bK
 refine dD ?_
 kspl_open hQ
 refine q5 [.tup (xs.map D.int),.tup (ys.map D.int)] (fun d=>match d with | .tup ds=>.tup ((af.anew (ds.map inD) p).map D.int) | _=>.non) ?_ (by simp) ?_ ?_
 ·kspl_open cg
  exact cg _ _ ⟨q4 _ _,Ex.refl⟩
 ·intro d hd st1 k1
  obtain ⟨zs,rfl,tz⟩:∃ zs:List Int,d=.tup (zs.map D.int)/\af.Tn n zs:=by
   rcases List.mem_cons.mp hd with rfl | hd
   ·exact ⟨xs,rfl,tx⟩
   ·exact ⟨ys,List.mem_singleton.mp hd,ty⟩
  have GP:=tz.length
  refine b8 ?_
  intro iZ cg
  set_option simprocs false in simp only [bX,List.map_cons,List.map_nil,List.getD_cons_succ,List.getD_cons_zero]
  refine q5 (aE 0 n) (fun d=>.int (af.app p (af.app zs (p.idxOf (inD d):Int)))) ?_ (by rw [gI];omega) ?_ ?_
  ·kspl_open ou
   rw [List.length_map,B1]
   exact ⟨by omega,ou _ _ ⟨by rw [Int.toNat_natCast];exact q4 _ _,Ex.refl⟩⟩
  ·intro d hd st2 k2
   rw [om] at hd
   obtain ⟨x,hx,rfl⟩:=ug hd
   obtain ⟨x0,x1⟩:=af.lg.mp hx
   have hm:=tp.mem x0 x1
   have hi:=tp.idx x0 x1
   obtain ⟨a0,a1⟩:=tz.app (i:=(p.idxOf x:Int)) (by omega) (by omega)
   refine b8 ?_
   intro xk ou
   set_option simprocs false in simp only [bX,List.map_cons,List.map_nil,List.getD_cons_succ,List.getD_cons_zero,Gq,GZ hm,oo (xs:=zs) (i:=(p.idxOf x:Int)) (by omega) (by omega),oo (xs:=p) a0 (by omega)]
   exact ou _ _ ⟨rfl,Ex.refl⟩
  ·intro st' k'
   have e:(aE 0 n).map (fun d=>D.int (af.app p (af.app zs (p.idxOf (inD d):Int))))=(af.anew zs p).map D.int:=by
    rw [om,x4 (f:=fun x=>af.app p (af.app zs (p.idxOf x:Int))) fun x hx=>rfl]
    congr 1
    unfold af.anew af.aZ af.inv
    rw [List.map_map,List.map_map,B1]
    rfl
   rw [e]
   w_how
   refine cg _ _ ⟨?_,k'.app _⟩
   show D.tup _=D.tup ((af.anew ((zs.map D.int).map inD) p).map D.int)
   rw [List.map_map]
   congr 3
   exact (List.map_id zs).symm
 ·intro st' k'
  w_how
  refine hQ _ _ ⟨?_,k'.app _⟩
  have e:∀ zs:List Int,(zs.map D.int).map inD=zs:=fun zs=>by rw [List.map_map];exact List.map_id zs
  simp only [List.map_cons,List.map_nil,e]
theorem RE {st:Store} {f:Nat} {most:Int} (hf:bp st f) (m0:1<=most) (m8:most<=20):Wp (AU [.ref f,.int most] st) fun d st'=>∃ (n:Nat) (xs ys:List Int),d=bK xs ys/\lp n xs ys/\1<=n/\(n:Int)<=most/\bp st' f/\Ex [f] st st':=by
 refine eU ?_
 show Ws (DF [some (.ref f),some (.int most),none] st) _ _ _ _
 unfold DF
 refine bq (b7 ?_)
 kspl_open hQ
 refine a6 (pI (n:=most) hf (by omega) (by omega)) ?_
 rintro d st1 ⟨n1,rfl,S3,S4,f1,k1⟩
 w_how
 obtain ⟨n,rfl⟩:∃ n:Nat,n1=(n:Int) - 1:=⟨(n1 + 1).toNat,by omega⟩
 rw [show (1:Int) + ((n:Int) - 1)=(n:Int) by omega]
 refine hQ _ _ (dD ?_)
 clear hQ
 kspl_open hQ
 refine a6 (Rj (n:=n) f1 (by omega) (by omega)) ?_
 rintro d st2 ⟨xs,ys,rfl,fl,f2,k2⟩
 refine a6 (Et (n:=n) f2 (by omega)) ?_
 rintro d st3 ⟨p,rfl,tp,f3,k3⟩
 refine a6 (K4 fl.1 fl.2.1 tp (by omega)) ?_
 rintro d ky ⟨rfl,k4⟩
 exact hQ _ _ ⟨n,_,_,rfl,af.oS fl tp (by omega),by omega,by omega,f3.keep k4,(((k1.trans k2).trans k3).trans k4.any)⟩
theorem K5 {xs:List Int} {i:Int} {m:Nat}:gK ((af.row xs i m).map D.int) (-1)=some (.int (af.br xs i m)):=by
 have hl:((af.row xs i m).map D.int).length=m + 1:=by rw [List.length_map,af.qR]
 unfold gK kX
 rw [if_neg (by decide),hl,if_pos (by omega),Option.bind_some,show ((-1:Int) + ((m + 1:Nat):Int)).toNat=m by omega]
 unfold af.row
 rw [List.map_map,List.getElem?_map,List.getElem?_range (by omega)];rfl
theorem RF {st:Store} {xs:List Int} {n:Nat} {s k:Int} (tn:af.Tn n xs) (hn:n<=100) (s0:0<=s) (s1:s < (n:Int)):Wp (A2 [.tup (xs.map D.int),.int s,.int k] st) fun d st'=>d=.int (af.pw xs k s)/\Ex [] st st':=by
 have hlen:=tn.length
 refine eU ?_
 show Ws (DL [some (.tup (xs.map D.int)),some (.int s),some (.int k),none] st) _ _ _ _
 unfold DL
 refine bq (wx (N:=fun δ st1=>∃ (zs:List Int) (j:Nat),δ=[some (.tup (zs.map D.int)),some (.int s),some (.int (j:Int)),none]/\af.Tn n zs/\af.br zs s j=af.pw xs k s/\Ex [] st st1) (jJ ?_) ?_)
 ·kspl_open hQ
  refine hQ _ _ ⟨fun h=>?_,fun h=>ll ⟨xs,k.toNat,?_,tn,?_,Ex.refl⟩⟩
  ·have h:=of_decide_eq_true h
   clear hQ
   refine bq (b7 ?_)
   kspl_open hQ
   refine q5 (aE 0 n) (fun d=>.int (xs.idxOf (inD d):Int)) ?_ (by rw [gI];omega) ?_ ?_
   ·kspl_open cg
    rw [List.length_map,hlen]
    exact ⟨by omega,cg _ _ ⟨by rw [Int.toNat_natCast];exact q4 _ _,Ex.refl⟩⟩
   ·intro d hd oG k7
    rw [om] at hd
    obtain ⟨x,hx,rfl⟩:=ug hd
    obtain ⟨x0,x1⟩:=af.lg.mp hx
    refine b8 ?_
    intro iZ cg
    set_option simprocs false in simp only [bX,List.map_cons,List.map_nil,List.getD_cons_succ,List.getD_cons_zero,Gq,GZ (tn.mem x0 x1)]
    exact cg _ _ ⟨rfl,Ex.refl⟩
   ·intro oG k7
    have e:(aE 0 n).map (fun d=>D.int (xs.idxOf (inD d):Int))=(af.inv xs).map D.int:=by
     rw [om,x4 (f:=fun x=>(xs.idxOf x:Int)) fun x hx=>rfl]
     unfold af.inv
     rw [hlen]
    rw [e]
    w_how
    refine hQ _ _ (b7 ?_)
    clear hQ
    kspl_open hQ
    refine hQ _ _ ⟨af.inv xs,(-k).toNat,?_,tn.aw,?_,k7.app _⟩
    ·rw [show (0:Int) - k=(((-k).toNat:Nat):Int) by omega];rfl
    ·unfold af.pw;rw [if_neg (by omega)]
  ·have h:=of_decide_eq_false h
   rw [Int.toNat_of_nonneg (by omega)]
  ·have h:=of_decide_eq_false h
   unfold af.pw;rw [if_pos (by omega)]
 rintro δ st1 ⟨zs,j,rfl,tz,ej,k1⟩
 have GP:=tz.length
 refine bq (b7 ?_)
 kspl_open hQ
 refine ⟨rfl,hQ _ _ (bq (xZ (fun m δ st2=>∃ k:Nat,m=n - (k + 1)/\δ=[some (.tup (zs.map D.int)),some (.int s),some (.int (j:Int)),some (.ref st1.length)]/\st2[st1.length]?=some (.lst ((af.row zs s k).map D.int))/\af.NB zs s k/\Ex [] st1 st2) (n - 1) (Nat.lt_of_le_of_lt (show n - 1<=100 by omega) (by decide)) ⟨0,rfl,rfl,ku,fun j h1 h2=>by omega,Ex.cc _⟩ ?_))⟩
 clear hQ
 rintro m δ st2 ⟨k',rfl,rfl,hL,nb,k2⟩
 have hrl:=tz.jG s0 s1 nb
 obtain ⟨y0,y1⟩:=tz.br s0 s1 k'
 refine b8 ?_
 intro dz hQ
 set_option simprocs false in simp only [bX,d8 hL,K5,oo (xs:=zs) y0 (by omega)]
 refine hQ _ _ ⟨fun hb=>?_,fun hb=>?_⟩
 ·have hb:af.br zs s (k' + 1)≠s:=by show af.app zs (af.br zs s k')≠s;simpa using hb
  have B3:af.NB zs s (k' + 1):=fun j h1 h2=>by
   by_cases hj:j<=k'
   ·exact nb j h1 hj
   ·have:j=k' + 1:=by omega
    rw [this];exact hb
  have hle:=tz.jG s0 s1 B3
  refine uc ?_
  refine b8 ?_
  intro iZ cg
  set_option simprocs false in simp only [bX,d8 hL,K5,oo (xs:=zs) y0 (by omega),mx hL]
  refine ⟨qZ (by rw [d8 hL];rfl),kd (by rw [List.length_map,af.qR];omega),cg _ _ ⟨n - (k' + 1 + 1),by omega,k' + 1,rfl,rfl,?_,B3,k2.loc (Nat.le_refl _)⟩⟩
  rw [List.getElem?_set_self (iQ hL),af.Jv,List.map_append];rfl
 ·have hb:af.br zs s (k' + 1)=s:=by show af.app zs (af.br zs s k')=s;simpa using hb
  refine dD ?_
  have hpos:(0:Int) < ((k' + 1:Nat):Int):=by omega
  have eL:((((af.row zs s k').map D.int).length:Nat):Int)=((k' + 1:Nat):Int):=by rw [List.length_map,af.qR]
  refine b8 ?_
  intro iZ cg
  set_option simprocs false in simp only [bX,d8 hL,eL,K1 (Int.emod_nonneg (j:Int) (Int.ne_of_gt hpos)) (Int.emod_lt_of_pos (j:Int) hpos)]
  refine ⟨hpos,cg _ _ ⟨?_,k1.trans k2⟩⟩
  rw [<- ej,show ((j:Int) % ((k' + 1:Nat):Int)).toNat=j % (k' + 1) by omega,af.Jy hb]
theorem RG {st:Store} {xs ys:List Int} {n:Nat} {k:Int} (tx:af.Tn n xs) (ty:af.Tn n ys) (hn:n<=100):Wp (xb [bK xs ys,.tup [.str "s",.int k]] st) fun d st'=>d=bK xs (af.shr xs ys k)/\Ex [] st st':=by
 have hlx:=tx.length
 have yh:=ty.length
 refine eU ?_
 show Ws (x9 [some (bK xs ys),some (.tup [.str "s",.int k]),none,none,none] st) _ _ _ _
 unfold x9 bK
 refine bq (qv ?_)
 kspl_open hQ
 refine hQ _ _ ?_
 clear hQ
 kspl_open hQ
 refine ⟨rfl,hQ _ _ (bq (jJ ?_))⟩
 clear hQ
 kspl_open hQ
 refine hQ _ _ ⟨fun _=>dD ?_,fun h=>absurd h (by simp)⟩
 clear hQ
 kspl_open hQ
 refine q5 (aE 0 n) (fun d=>.int (af.app ys (af.pw xs (-k) (inD d)))) ?_ (by rw [gI];omega) ?_ ?_
 ·kspl_open cg
  rw [List.length_map,yh]
  exact ⟨by omega,cg _ _ ⟨by rw [Int.toNat_natCast];exact q4 _ _,Ex.refl⟩⟩
 ·intro d hd oG k7
  rw [om] at hd
  obtain ⟨x,hx,rfl⟩:=ug hd
  obtain ⟨x0,x1⟩:=af.lg.mp hx
  obtain ⟨p0,p1⟩:=tx.pw x0 x1 (-k)
  refine b8 ?_
  intro iZ cg
  set_option simprocs false in simp only [bX,List.map_cons,List.map_nil,List.getD_cons_succ,List.getD_cons_zero]
  refine a6 (RF (k:=0 - k) tx hn x0 x1) ?_
  rintro d j7 ⟨rfl,k8⟩
  rw [show (0:Int) - k=-k by omega]
  set_option simprocs false in simp only [bX,oo (xs:=ys) p0 (by omega)]
  exact cg _ _ ⟨rfl,k8⟩
 ·intro oG k7
  have e:(aE 0 n).map (fun d=>D.int (af.app ys (af.pw xs (-k) (inD d))))=(af.shr xs ys k).map D.int:=by
   rw [om,x4 (f:=fun x=>af.app ys (af.pw xs (-k) x)) fun x hx=>rfl]
   unfold af.shr af.aZ af.cF
   rw [hlx,List.map_map,List.map_map,List.map_map]
   rfl
  rw [e]
  w_how
  exact ⟨rfl,hQ _ _ ⟨rfl,k7.app _⟩⟩
def nA (xs ys:List Int):Nat->List Int×List Int
 | 0=>(xs,ys)
 | j + 1=>(af.inv (nA xs ys j).2,(nA xs ys j).1)
theorem B5 {n:Nat} {xs ys:List Int} (tx:af.Tn n xs) (ty:af.Tn n ys):∀ j,af.Tn n (nA xs ys j).1/\af.Tn n (nA xs ys j).2
 | 0=>⟨tx,ty⟩
 | j + 1=>⟨(B5 tx ty j).2.aw,(B5 tx ty j).1⟩
theorem RH {st:Store} {xs ys:List Int} {n j:Nat} (tx:af.Tn n xs) (ty:af.Tn n ys) (hn:n<=100) (hj:j < 4):Wp (xb [bK xs ys,.tup [.str "t",.int (j:Int)]] st) fun d st'=>d=bK (nA xs ys j).1 (nA xs ys j).2/\Ex [] st st':=by
 refine eU ?_
 show Ws (x9 [some (bK xs ys),some (.tup [.str "t",.int (j:Int)]),none,none,none] st) _ _ _ _
 unfold x9 bK
 refine bq (qv ?_)
 kspl_open hQ
 refine hQ _ _ ?_
 clear hQ
 kspl_open hQ
 refine ⟨rfl,hQ _ _ (bq (jJ ?_))⟩
 clear hQ
 kspl_open hQ
 refine hQ _ _ ⟨fun h=>absurd h (by decide),fun _=>ll (bq (mh (aE 0 j) (fun i δ st2=>∃ v4:Option D,δ=[some (.tup [.tup (xs.map D.int),.tup (ys.map D.int)]),some (.tup [.str "t",.int (j:Int)]),some (.tup ((nA xs ys i).1.map D.int)),some (.tup ((nA xs ys i).2.map D.int)),v4]/\Ex [] st st2) ?_ (by rw [gI];omega) ?_ ?_))⟩
 ·clear hQ
  kspl_open hQ
  rw [show (j:Int) % 4=(j:Int) by omega]
  exact ⟨by omega,by omega,hQ _ _ ⟨by rw [Int.toNat_natCast],none,rfl,Ex.refl⟩⟩
 ·rintro i d δ st2 hd ⟨v4,rfl,k2⟩
  obtain ⟨ta,tb⟩:=B5 tx ty i
  show Wp _ _
  have hlb:=tb.length
  generalize hzs:(nA xs ys i).2=zs at tb hlb ⊢
  clear hQ
  kspl_open hQ
  refine hQ _ _ (qv ?_)
  clear hQ
  kspl_open hQ
  refine q5 (aE 0 n) (fun d=>.int (zs.idxOf (inD d):Int)) ?_ (by rw [gI];omega) ?_ ?_
  ·kspl_open cg
   rw [List.length_map,hlb]
   exact ⟨by omega,cg _ _ ⟨by rw [Int.toNat_natCast];exact q4 _ _,Ex.refl⟩⟩
  ·intro d hd oG k7
   rw [om] at hd
   obtain ⟨x,hx,rfl⟩:=ug hd
   obtain ⟨x0,x1⟩:=af.lg.mp hx
   refine b8 ?_
   intro iZ cg
   set_option simprocs false in simp only [bX,List.map_cons,List.map_nil,List.getD_cons_succ,List.getD_cons_zero,Gq,GZ (tb.mem x0 x1)]
   exact cg _ _ ⟨rfl,Ex.refl⟩
  ·intro oG k7
   have e:(aE 0 n).map (fun d=>D.int (zs.idxOf (inD d):Int))=(af.inv zs).map D.int:=by
    rw [om,x4 (f:=fun x=>(zs.idxOf x:Int)) fun x hx=>rfl]
    unfold af.inv
    rw [hlb]
   rw [e]
   w_how
   refine ⟨rfl,hQ _ _ ?_⟩
   clear hQ
   kspl_open hQ
   refine ⟨rfl,hQ _ _ ⟨some d,?_,(k2.trans k7).app _⟩⟩
   rw [show (nA xs ys (i + 1)).1=af.inv (nA xs ys i).2 from rfl,show (nA xs ys (i + 1)).2=(nA xs ys i).1 from rfl,hzs]
 ·rintro δ st2 ⟨v4,rfl,k2⟩
  rw [gI]
  refine dD ?_
  clear hQ
  kspl_open hQ
  exact ⟨rfl,hQ _ _ ⟨rfl,k2⟩⟩
def B6 (s:fH):Prop:=s.1=false->1<=s.2/\s.2<=3
def iD (p:List Int×List Int) (s:fH):List Int×List Int:=if s.1=true then (p.1,af.shr p.1 p.2 s.2) else nA p.1 p.2 s.2.toNat
def ko (p:List Int×List Int) (w:List fH):List Int×List Int:=w.foldl iD p
theorem RI {n:Nat} {p:List Int×List Int} (h:af.Tn n p.1/\af.Tn n p.2) (s:fH):af.Tn n (iD p s).1/\af.Tn n (iD p s).2:=by
 unfold iD
 split
 ·exact ⟨h.1,h.1.shr h.2 _⟩
 ·exact B5 h.1 h.2 _
theorem G0 {n:Nat}:∀ {p:List Int×List Int},af.Tn n p.1/\af.Tn n p.2->∀ w:List fH,af.Tn n (ko p w).1/\af.Tn n (ko p w).2
 | _,h,[]=>h
 | _,h,s :: w=>G0 (RI h s) w
theorem RJ (p:List Int×List Int) (v w:List fH):ko p (v ++ w)=ko (ko p v) w:=by unfold ko;rw [List.foldl_append]
theorem K7 (p:List Int×List Int) (w:List fH) (s:fH):ko p (w ++ [s])=iD (ko p w) s:=by rw [RJ];rfl
def nW (p:List Int×List Int):D:=bK p.1 p.2
theorem RK {st:Store} {p:List Int×List Int} {n:Nat} {s:fH} (h:af.Tn n p.1/\af.Tn n p.2) (hn:n<=100) (hs:B6 s):Wp (xb [nW p,bL s] st) fun d st'=>d=nW (iD p s)/\Ex [] st st':=by
 obtain ⟨b,k⟩:=s
 cases b with
 | true=>exact RG (k:=k) h.1 h.2 hn
 | false =>
  obtain ⟨k1,k3⟩:=hs rfl
  obtain ⟨j,rfl⟩:∃ j:Nat,k=(j:Int):=⟨k.toNat,by simp only at k1;omega⟩
  have:=RH (st:=st) (j:=j) h.1 h.2 hn (by simp only at k3;omega)
  refine a6 this ?_
  rintro d st1 ⟨rfl,k1⟩
  refine ⟨?_,k1⟩
  unfold nW iD
  rw [if_neg (show ¬ (false=true) from Bool.false_ne_true),Int.toNat_natCast]
theorem K8 {st:Store} {p:List Int×List Int} {n:Nat} {w:List fH} (h:af.Tn n p.1/\af.Tn n p.2) (hn:n<=100) (hw:∀ s∈w,B6 s) (hl:w.length<=1000):Wp (xc [nW p,.tup (w.map bL)] st) fun d st'=>d=nW (ko p w)/\Ex [] st st':=by
 refine eU ?_
 show Ws (DN [some (nW p),some (.tup (w.map bL)),none] st) _ _ _ _
 unfold DN
 refine bq (mh (w.map bL) (fun i δ st2=>∃ v2:Option D,δ=[some (nW (ko p (w.take i))),some (.tup (w.map bL)),v2]/\Ex [] st st2) ?_ (by rw [List.length_map];omega) ?_ ?_)
 ·kspl_open hQ
  exact hQ _ _ ⟨rfl,none,rfl,Ex.refl⟩
 ·rintro i d δ st2 hd ⟨v2,rfl,k2⟩
  rw [List.getElem?_map] at hd
  obtain ⟨s,hs,rfl⟩:=Option.map_eq_some_iff.mp hd
  obtain ⟨hil,es⟩:=List.getElem?_eq_some_iff.mp hs
  kspl_open hQ
  refine hQ _ _ (b7 ?_)
  clear hQ
  kspl_open hQ
  refine a6 (RK (G0 h _) hn (hw s (List.mem_of_getElem? hs))) ?_
  rintro d st3 ⟨rfl,k3⟩
  refine hQ _ _ ⟨some (bL s),?_,k2.trans k3⟩
  rw [List.take_succ_eq_append_getElem hil,K7,es]
  rfl
 ·rintro δ st2 ⟨v2,rfl,k2⟩
  rw [List.length_map,List.take_length]
  refine dD ?_
  kspl_open hQ
  exact hQ _ _ ⟨rfl,k2⟩
theorem RL {st:Store} {p:List Int×List Int} {n:Nat} {s:fH} (h:af.Tn n p.1/\af.Tn n p.2) (hn:n<=100) (hs:B6 s):Wp (Br [nW p,bL s] st) fun d st'=>d=nW (iD p s)/\Ex [] st st':=by
 obtain ⟨b,k⟩:=s
 refine eU ?_
 show Ws (D4 [some (nW p),some (bL (b,k)),none,none] st) _ _ _ _
 unfold D4 bL
 cases b with
 | true =>
  refine bq (jJ ?_)
  kspl_open hQ
  refine hQ _ _ ⟨fun _=>dD ?_,fun z=>absurd z (by decide)⟩
  clear hQ
  kspl_open hQ
  refine a6 (RC (k:=k) h.1 h.2 hn) ?_
  rintro d st1 ⟨rfl,k1⟩
  exact hQ _ _ ⟨rfl,k1⟩
 | false =>
  obtain ⟨k1,k3⟩:=hs rfl
  obtain ⟨j,rfl⟩:∃ j:Nat,k=(j:Int):=⟨k.toNat,by simp only at k1;omega⟩
  refine bq (jJ ?_)
  kspl_open hQ
  refine hQ _ _ ⟨fun z=>absurd z (by decide),fun _=>ll (bq (b7 ?_))⟩
  clear hQ
  kspl_open hQ
  refine hQ _ _ (bq (mh (aE 0 j) (fun i δ st2=>∃ v3:Option D,δ=[some (nW p),some (bL (false,(j:Int))),some (bK (nA p.1 p.2 i).1 (nA p.1 p.2 i).2),v3]/\Ex [] st st2) ?_ (by rw [gI];simp only at k3;omega) ?_ ?_))
  ·clear hQ
   kspl_open hQ
   exact ⟨by simp only at k3;omega,hQ _ _ ⟨by rw [Int.toNat_natCast],none,rfl,Ex.refl⟩⟩
  ·rintro i d δ st2 hd ⟨v3,rfl,k2⟩
   obtain ⟨ta,tb⟩:=B5 h.1 h.2 i
   clear hQ
   kspl_open hQ
   refine hQ _ _ (b7 ?_)
   clear hQ
   kspl_open hQ
   refine a6 (RD ta tb hn) ?_
   rintro d' st3 ⟨rfl,k3⟩
   exact hQ _ _ ⟨some d,rfl,k2.trans k3⟩
  ·rintro δ st2 ⟨v3,rfl,k2⟩
   rw [gI]
   refine dD ?_
   clear hQ
   kspl_open hQ
   refine hQ _ _ ⟨?_,k2⟩
   unfold nW iD
   rw [if_neg (show ¬ (false=true) from Bool.false_ne_true),Int.toNat_natCast]
theorem RM {st:Store} {p:List Int×List Int} {n:Nat} {w:List fH} (h:af.Tn n p.1/\af.Tn n p.2) (hn:n<=100) (hw:∀ s∈w,B6 s) (hl:w.length<=1000):Wp (Bt [nW p,.tup (w.map bL)] st) fun d st'=>d=nW (ko p w)/\Ex [] st st':=by
 refine eU ?_
 show Ws (D6 [some (nW p),some (.tup (w.map bL)),none,none] st) _ _ _ _
 unfold D6
 refine bq (b7 ?_)
 kspl_open hQ
 refine hQ _ _ (bq (mh (w.map bL) (fun i δ st2=>∃ v2:Option D,δ=[some (nW p),some (.tup (w.map bL)),some (nW (ko p (w.take i))),v2]/\Ex [] st st2) ?_ (by rw [List.length_map];omega) ?_ ?_))
 ·clear hQ
  kspl_open hQ
  exact hQ _ _ ⟨rfl,none,rfl,Ex.refl⟩
 ·rintro i d δ st2 hd ⟨v2,rfl,k2⟩
  rw [List.getElem?_map] at hd
  obtain ⟨s,hs,rfl⟩:=Option.map_eq_some_iff.mp hd
  obtain ⟨hil,es⟩:=List.getElem?_eq_some_iff.mp hs
  clear hQ
  kspl_open hQ
  refine hQ _ _ (b7 ?_)
  clear hQ
  kspl_open hQ
  refine a6 (RL (G0 h _) hn (hw s (List.mem_of_getElem? hs))) ?_
  rintro d st3 ⟨rfl,k3⟩
  refine hQ _ _ ⟨some (bL s),?_,k2.trans k3⟩
  rw [List.take_succ_eq_append_getElem hil,K7,es]
  rfl
 ·rintro δ st2 ⟨v2,rfl,k2⟩
  rw [List.length_map,List.take_length]
  refine dD ?_
  clear hQ
  kspl_open hQ
  exact hQ _ _ ⟨rfl,k2⟩
def nX (g:Int) (s:fH):Prop:=(s.1=false->1<=s.2/\s.2<=3)/\(s.2.natAbs:Int)<=g/\s.2≠0
theorem RN {st:Store} {f:Nat} {most great:Int} (hf:bp st f) (m0:0<=most) (m1:most<=100) (g0:3<=great) (g1:great<=1000):Wp (AG [.ref f,.int most,.int great] st) fun d st'=>∃ w:List fH,d=.tup (w.map bL)/\(∀ s∈w,nX great s)/\(w.length:Int)<=most/\bp st' f/\Ex [f] st st':=by
 have hfl:=hf.lt
 refine eU ?_
 show Ws (Dw [some (.ref f),some (.int most),some (.int great),none,none] st) _ _ _ _
 unfold Dw
 refine bq (b7 ?_)
 kspl_open hQ
 refine ⟨rfl,hQ _ _ ?_⟩
 clear hQ
 show Ws _ _ _ _ _
 obtain ⟨d,st1,e1,c,rfl,c0,c1,f1,k1⟩:=pI (st:=st ++ [O.lst []]) (n:=most + 1) (hf.keep (Ex.cc _)) (by omega) (by omega)
 obtain ⟨m,rfl⟩:∃ m:Nat,c=(m:Int):=⟨c.toNat,by omega⟩
 have hl1:st1[st.length]?=some (.lst []):=k1.keep _ _ ku (by simp;omega)
 have kx:Ex [f] st st1:=(Ex.cc _).trans k1
 refine bq (mh (aE 0 m) (fun i δ st2=>∃ (v4:Option D) (w:List fH),δ=[some (.ref f),some (.int most),some (.int great),some (.ref st.length),v4]/\st2[st.length]?=some (.lst (w.map bL))/\(∀ s∈w,nX great s)/\w.length<=i/\bp st2 f/\Ex [f] st st2) ?_ (by rw [gI];omega) ?_ ?_)
 ·kspl_open hQ
  refine ⟨_,_,e1,?_⟩
  exact ⟨_,rfl,by omega,hQ _ _ ⟨by rw [Int.toNat_natCast],none,[],rfl,hl1,(fun s hs=>nomatch hs),Nat.le_refl _,f1,kx⟩⟩
 ·rintro i d δ st2 hd ⟨v4,w,rfl,hl2,hw,hwl,f2,k2⟩
  have hil:=iQ hd
  rw [gI] at hil
  have put:∀ (s:fH) (jA:Store),nX great s->bp jA f->jA[st.length]?=some (.lst (w.map bL))->Ex [f] st jA->∀ v4:Option D,∃ (RO:Option D) (w':List fH),[some (.ref f),some (.int most),some (.int great),some (.ref st.length),v4]=[some (.ref f),some (.int most),some (.int great),some (.ref st.length),RO]/\(jA.set st.length (.lst (w.map bL ++ [bL s])))[st.length]?=some (.lst (w'.map bL))/\(∀ s∈w',nX great s)/\w'.length<=i + 1/\bp (jA.set st.length (.lst (w.map bL ++ [bL s]))) f/\Ex [f] st (jA.set st.length (.lst (w.map bL ++ [bL s]))):=fun s jA os f5 h5 k5 v4=>by
   refine ⟨v4,w ++ [s],rfl,?_,fun s' hs'=>?_,by rw [List.length_append];simp;omega,f5.ne (by omega),k5.loc (Nat.le_refl _)⟩
   ·rw [List.getElem?_set_self (iQ h5),List.map_append];rfl
   ·rcases List.mem_append.mp hs' with h | h
    ·exact hw s' h
    ·rw [List.mem_singleton.mp h];exact os
  kspl_open hQ
  refine hQ _ _ (jJ ?_)
  clear hQ
  kspl_open hQ
  refine a6 (pI (n:=2) f2 (by decide) (by decide)) ?_
  rintro d' st3 ⟨b,rfl,b0,b1,f3,k3⟩
  have hl3:=k3.keep _ _ hl2 (by simp;omega)
  w_how
  refine hQ _ _ ⟨fun _=>uc ?_,fun _=>bq (b7 ?_)⟩
  ·clear hQ
   kspl_open hQ
   refine ⟨qZ (by rw [d8 hl3];rfl),?_⟩
   refine a6 (pI (n:=3) f3 (by decide) (by decide)) ?_
   rintro d' ky ⟨c,rfl,c0,c1,f4,k4⟩
   have pJ:=k4.keep _ _ hl3 (by simp;omega)
   set_option simprocs false in simp only [bX,mx pJ]
   refine ⟨rfl,kd (by rw [List.length_map];omega),hQ _ _ ?_⟩
   exact put (false,1 + c) ky ⟨fun _=>⟨by show 1<=1 + c;omega,by show 1 + c<=3;omega⟩,by show ((1 + c).natAbs:Int)<=great;omega,by show 1 + c≠0;omega⟩ f4 pJ ((k2.trans k3).trans k4) _
  ·clear hQ
   kspl_open hQ
   refine a6 (pI (n:=great) f3 (by omega) (by omega)) ?_
   rintro d' ky ⟨c,rfl,c0,c1,f4,k4⟩
   have pJ:=k4.keep _ _ hl3 (by simp;omega)
   w_how
   refine hQ _ _ (uc ?_)
   clear hQ
   kspl_open hQ
   refine ⟨qZ (by rw [d8 pJ];rfl),rfl,?_⟩
   refine a6 (pI (n:=2) (f4.keep (Ex.cc [O.lst [D.int (1 + c),D.int (0 - (1 + c))]])) (by decide) (by decide)) ?_
   rintro d' jA ⟨g,rfl,S5,S6,f5,k5⟩
   have RP:jA[ky.length]?=some (.lst [D.int (1 + c),D.int (0 - (1 + c))]):=k5.keep _ _ ku (by have:=f4.lt;simp;omega)
   have B4:jA[st.length]?=some (.lst (w.map bL)):=k5.keep _ _ (nJ pJ) (by simp;omega)
   obtain ⟨sg,hsg,s1,s2⟩:∃ sg:Int,gK [D.int (1 + c),D.int (0 - (1 + c))] g=some (.int sg)/\(sg.natAbs:Int)<=great/\sg≠0:=by
    rcases (show g=0\/g=1 by omega) with rfl | rfl
    ·exact ⟨1 + c,Dk _ _,by omega,by omega⟩
    ·exact ⟨0 - (1 + c),Dl _ _ _,by omega,by omega⟩
   set_option simprocs false in simp only [bX,d8 RP,hsg,mx B4]
   refine ⟨rfl,kd (by rw [List.length_map];omega),hQ _ _ ?_⟩
   exact put (true,sg) jA ⟨fun z=>Bool.noConfusion (show true=false from z),s1,s2⟩ f5 B4 (((k2.trans k3).trans k4).trans ((Ex.cc _).trans k5)) _
 ·rintro δ st2 ⟨v4,w,rfl,hl2,hw,hwl,f2,k2⟩
  rw [gI] at hwl
  refine dD ?_
  refine b8 ?_
  intro dz hQ
  set_option simprocs false in simp only [bX,d8 hl2]
  exact hQ _ _ ⟨w,rfl,hw,by omega,f2,k2⟩
def gs (T:af.T4):D:=.tup [.int T.a,.int T.b,.int T.c,.int T.d]
def EE (A B:af.T4):Prop:=∀ x∈[A.a,A.b,A.c,A.d],∀ y∈[B.a,B.b,B.c,B.d],b9 x y=true
theorem G1 {A B:af.T4} (h:A.le 18446744073709551615):EE A B:=fun x hx y _=>by
 refine P5 ?_
 obtain ⟨h1,h2,h3,h4⟩:=h
 simp only [List.mem_cons,List.not_mem_nil,or_false] at hx
 rcases hx with rfl | rfl | rfl | rfl <;> omega
theorem uo {A B:af.T4} {M k:Nat} (hk:k<=60000000) (hM:M < P2 k) (h:A.le M) (h':B.le M):EE A B:=fun x hx y hy=>by
 obtain ⟨h1,h2,h3,h4⟩:=h
 obtain ⟨g1,g2,g3,g4⟩:=h'
 simp only [List.mem_cons,List.not_mem_nil,or_false] at hx hy
 refine GI hk ?_ ?_
 ·rcases hx with rfl | rfl | rfl | rfl <;> omega
 ·rcases hy with rfl | rfl | rfl | rfl <;> omega
theorem G2 {st:Store} {A B:af.T4} (h:EE A B):Wp (qE [gs A,gs B] st) fun d st'=>d=gs (A.mul B)/\Ex [] st st':=by
 refine eU ?_
 show Ws (Ea [some (gs A),some (gs B)] st) _ _ _ _
 unfold Ea gs
 refine dD ?_
 have hh:∀ x y:Int,x∈[A.a,A.b,A.c,A.d]->y∈[B.a,B.b,B.c,B.d]->b9 x y=true:=fun x y hx hy=>h x hx y hy
 have a1:∀ y∈[B.a,B.b,B.c,B.d],b9 A.a y=true:=h _ (by simp)
 have a2:∀ y∈[B.a,B.b,B.c,B.d],b9 A.b y=true:=h _ (by simp)
 have a3:∀ y∈[B.a,B.b,B.c,B.d],b9 A.c y=true:=h _ (by simp)
 have a4:∀ y∈[B.a,B.b,B.c,B.d],b9 A.d y=true:=h _ (by simp)
 refine b8 ?_
 intro dz hQ
 set_option simprocs false in simp only [bX,Ds,at2,KH]
 exact ⟨a1 _ (by simp),a2 _ (by simp),a1 _ (by simp),a2 _ (by simp),a3 _ (by simp),a4 _ (by simp),a3 _ (by simp),a4 _ (by simp),rfl,hQ _ _ ⟨rfl,Ex.refl⟩⟩
theorem RQ {st:Store} {s:fH} (h:af.df s):Wp (Bx [bL s] st) fun d st'=>d=gs (af.iL s)/\Ex [] st st':=by
 obtain ⟨b,k⟩:=s
 refine eU ?_
 show Ws (Eb [some (bL (b,k)),none,none] st) _ _ _ _
 unfold Eb bL
 cases b with
 | true =>
  refine bq (jJ ?_)
  kspl_open hQ
  refine hQ _ _ ⟨fun _=>dD ?_,fun h=>absurd h (by decide)⟩
  clear hQ
  kspl_open hQ
  exact ⟨rfl,hQ _ _ ⟨rfl,Ex.refl⟩⟩
 | false =>
  obtain ⟨k1,k3⟩:=h.1 rfl
  simp only at k1 k3
  obtain ⟨j,rfl⟩:∃ j:Nat,k=(j:Int):=⟨k.toNat,by omega⟩
  refine bq (jJ ?_)
  kspl_open hQ
  refine hQ _ _ ⟨fun h=>absurd h (by decide),fun _=>ll (bq (b7 ?_))⟩
  clear hQ
  kspl_open hQ
  refine hQ _ _ ?_
  clear hQ
  show Ws _ _ _ _ _
  refine bq (mh (aE 0 j) (fun i δ st2=>∃ v:Option D,δ=[some (.tup [.str "t",.int (j:Int)]),some (gs (af.qp i)),v]/\Ex [] st st2) ?_ (by rw [gI];omega) ?_ ?_)
  ·kspl_open hQ
   exact ⟨by omega,hQ _ _ ⟨by rw [Int.toNat_natCast],none,rfl,Ex.refl⟩⟩
  ·rintro i d δ st2 hd ⟨v,rfl,k2⟩
   kspl_open hQ
   refine hQ _ _ (b7 ?_)
   clear hQ
   kspl_open hQ
   refine a6 (G2 (A:=af.T4.qt) (B:=af.qp i) (G1 ⟨by decide,by decide,by decide,by decide⟩)) ?_
   rintro d st3 ⟨rfl,k3⟩
   exact hQ _ _ ⟨_,rfl,k2.trans k3⟩
  ·rintro δ st2 ⟨v,rfl,k2⟩
   rw [gI]
   refine dD ?_
   kspl_open hQ
   refine hQ _ _ ⟨?_,k2⟩
   show gs (af.qp j)=gs (af.qp (j:Int).toNat)
   rw [Int.toNat_natCast]
theorem K9 {s:fH} {B:Nat} (h:af.df s) (hs:s.2.natAbs<=B):(af.iL s).le (B + 1):=by
 have:=af.tG (T:=af.T4.one) (s:=s) (M:=1) (B:=B) ⟨by decide,by decide,by decide,by decide⟩ h hs
 rwa [af.T4.mul_one,Nat.mul_one] at this
theorem B7 {T:af.T4} {M N:Nat} (h:T.le M) (hn:M<=N):T.le N:=⟨Nat.le_trans h.1 hn,Nat.le_trans h.2.1 hn,Nat.le_trans h.2.2.1 hn,Nat.le_trans h.2.2.2 hn⟩
theorem G3 {w:List fH} {b n:Nat} (hw:∀ s∈w,af.df s/\s.2.natAbs + 1<=P2 b) (hn:w.length<=n):(af.aH w).le (P2 (b * n)):=by
 have:=af.JK (B:=P2 b - 1) (n:=n) (w:=w) (fun s hs=>⟨(hw s hs).1,by have:=(hw s hs).2;omega⟩) hn
 rwa [show P2 b - 1 + 1=P2 b by have:=xK b;omega,vd] at this
theorem La {st:Store} {w:List fH} {b:Nat} (hb:b<=50000) (hw:∀ s∈w,af.df s/\s.2.natAbs + 1<=P2 b) (hl:w.length<=1000):Wp (uj [.tup (w.map bL)] st) fun d st'=>d=gs (af.aH w)/\Ex [] st st':=by
 refine eU ?_
 show Ws (Ed [some (.tup (w.map bL)),none,none] st) _ _ _ _
 unfold Ed
 refine bq (b7 ?_)
 kspl_open hQ
 refine hQ _ _ ?_
 clear hQ
 show Ws _ _ _ _ _
 refine bq (mh (w.map bL) (fun i δ st2=>∃ v:Option D,δ=[some (.tup (w.map bL)),some (gs (af.aH (w.take i))),v]/\Ex [] st st2) ?_ (by rw [List.length_map];omega) ?_ ?_)
 ·kspl_open hQ
  exact hQ _ _ ⟨rfl,none,rfl,Ex.refl⟩
 ·rintro i d δ st2 hd ⟨v2,rfl,k2⟩
  rw [List.getElem?_map] at hd
  obtain ⟨s,hs,rfl⟩:=Option.map_eq_some_iff.mp hd
  obtain ⟨hil,es⟩:=List.getElem?_eq_some_iff.mp hs
  have hsw:=hw s (List.mem_of_getElem? hs)
  kspl_open hQ
  refine hQ _ _ (b7 ?_)
  clear hQ
  kspl_open hQ
  refine a6 (RQ hsw.1) ?_
  rintro d st3 ⟨rfl,k3⟩
  refine a6 (G2 (uo (M:=P2 (b * 1000)) (k:=b * 1000 + 1) (by omega) (by rw [rM];have:=xK (b * 1000);omega) (B7 (K9 (B:=P2 b - 1) hsw.1 (by omega)) (by have:=xK b;have:=zk (show b<=b * 1000 by omega);omega)) (G3 (fun s hs=>hw s (List.mem_of_mem_take hs)) (by rw [List.length_take];omega)))) ?_
  rintro d ky ⟨rfl,k4⟩
  refine hQ _ _ ⟨some (bL s),?_,(k2.trans k3).trans k4⟩
  rw [List.take_succ_eq_append_getElem hil,af.tD,es]
  rfl
 ·rintro δ st2 ⟨v2,rfl,k2⟩
  rw [List.length_map,List.take_length]
  refine dD ?_
  kspl_open hQ
  exact hQ _ _ ⟨rfl,k2⟩
theorem RS {st:Store} {a b:fH}:Wp (BE [bL a,bL b] st) fun d st'=>d=.tup ((af.cu a b).map bL)/\Ex [] st st':=by
 obtain ⟨ab,ak⟩:=a
 obtain ⟨bb,bk⟩:=b
 refine eU ?_
 show Ws (Eh [some (.tup [.str (if ab then "s" else "t"),.int ak]),some (.tup [.str (if bb then "s" else "t"),.int bk]),none] st) _ _ _ _
 unfold Eh
 have hj:af.cu (ab,ak) (bb,bk)=if af.gM (ab,ak) (bb,bk)=0 then [] else [(ab,af.gM (ab,ak) (bb,bk))]:=rfl
 refine bq (b7 ?_)
 kspl_open hQ
 refine hQ _ _ ?_
 clear hQ
 show Ws _ _ _ _ _
 refine bq (wx (N:=fun δ st1=>st1=st/\δ=[some (.tup [.str (if ab then "s" else "t"),.int ak]),some (.tup [.str (if bb then "s" else "t"),.int bk]),some (.int (af.gM (ab,ak) (bb,bk)))]) (jJ ?_) ?_)
 ·kspl_open hQ
  refine hQ _ _ ⟨fun h=>b7 ?_,fun h=>ll ⟨rfl,?_⟩⟩
  ·cases ab with
   | true=>exact absurd h (by decide)
   | false =>
    clear hQ
    kspl_open hQ
    exact ⟨by decide,hQ _ _ ⟨rfl,rfl⟩⟩
  ·cases ab with
   | true=>rfl
   | false=>exact absurd h (by decide)
 ·rintro δ st1 ⟨rfl,rfl⟩
  refine bq (jJ ?_)
  kspl_open hQ
  refine hQ _ _ ⟨fun h=>dD ?_,fun h=>ll (dD ?_)⟩
  ·have h:=of_decide_eq_true h
   clear hQ
   kspl_open hQ
   refine ⟨rfl,hQ _ _ ⟨?_,Ex.refl⟩⟩
   rw [hj,if_pos h];rfl
  ·have h:=of_decide_eq_false h
   clear hQ
   kspl_open hQ
   refine ⟨rfl,rfl,hQ _ _ ⟨?_,Ex.refl⟩⟩
   rw [hj,if_neg h];rfl
theorem Lb {xs:List D} {x:D}:gK (xs ++ [x]) (-1)=some x:=by
 unfold gK kX
 rw [List.length_append,if_neg (by decide),if_pos (by simp;omega)]
 simp only [Option.bind_some]
 have e:((-1:Int) + ((xs.length + [x].length:Nat):Int)).toNat=xs.length:=by simp only [List.length_singleton];omega
 rw [e];simp
theorem RT {xs:List D} {x:D}:cutD (xs ++ [x]) none (some (-1))=xs:=by
 have e1:HT.cD (xs ++ [x]).length 0 none=0:=rfl
 have e2:HT.cD (xs ++ [x]).length (xs ++ [x]).length (some (-1))=xs.length:=by
  unfold HT.cD
  simp only
  rw [if_pos (by decide),List.length_append,List.length_singleton];omega
 unfold cutD
 rw [e1,e2,List.drop_zero,Nat.sub_zero]
 simp
theorem RU (a b:Bool):(((if a=true then ("s" : Str) else "t")=(if b=true then ("s" : Str) else "t")))↔a=b:=by
 cases a <;> cases b <;> decide
theorem RV {st:Store} {w:List fH} (hl:w.length<=1000):Wp (BG [.tup (w.map bL)] st) fun d st'=>d=.tup ((af.mW w).reverse.map bL)/\Ex [] st st':=by
 refine eU ?_
 show Ws (Ei [some (.tup (w.map bL)),none,none] st) _ _ _ _
 unfold Ei
 refine bq (b7 ?_)
 kspl_open hQ
 refine ⟨rfl,hQ _ _ ?_⟩
 clear hQ
 show Ws _ _ _ _ _
 refine bq (mh (w.map bL) (fun i δ st2=>∃ v:Option D,δ=[some (.tup (w.map bL)),some (.tup ((af.mW (w.take i)).reverse.map bL)),v]/\Ex [] st st2) ?_ (by rw [List.length_map];omega) ?_ ?_)
 ·kspl_open hQ
  exact hQ _ _ ⟨rfl,none,rfl,Ex.refl⟩
 ·rintro i d δ st2 hd ⟨v2,rfl,k2⟩
  rw [List.getElem?_map] at hd
  obtain ⟨s,hs,rfl⟩:=Option.map_eq_some_iff.mp hd
  obtain ⟨hil,es⟩:=List.getElem?_eq_some_iff.mp hs
  have ep:af.mW (w.take (i + 1))=af.cG (af.mW (w.take i)) s:=by rw [List.take_succ_eq_append_getElem hil,af.NG,es];rfl
  have hpl:(af.mW (w.take i)).length<=1000:=by have:=af.JH (w.take i);rw [List.length_take] at this;omega
  rw [ep]
  clear ep
  generalize af.mW (w.take i)=l at hpl ⊢
  kspl_open hQ
  refine hQ _ _ (jJ ?_)
  clear hQ
  kspl_open hQ
  cases l with
  | nil =>
   refine hQ _ _ ⟨fun h=>absurd h (by decide),fun _=>b7 ?_⟩
   clear hQ
   kspl_open hQ
   exact ⟨rfl,rfl,hQ _ _ ⟨some (bL s),rfl,k2⟩⟩
  | cons t r =>
   have eg:(t :: r).reverse.map bL=r.reverse.map bL ++ [bL t]:=by simp
   rw [eg]
   have el:decide ((0:Int) < ((r.reverse.map bL ++ [bL t]).length:Nat))=true:=decide_eq_true (by simp)
   have es1:bL t=.tup [.str (if t.1 then "s" else "t"),.int t.2]:=rfl
   have RW:bL s=.tup [.str (if s.1 then "s" else "t"),.int s.2]:=rfl
   have elt:(if t.1=true then ("s" : Str) else "t")=(if s.1=true then ("s" : Str) else "t")↔t.1=s.1:=RU _ _
   set_option simprocs false in simp only [bX,Lb,es1,RW]
   rw [if_pos (by simp)]
   refine hQ _ _ ⟨fun h=>b7 ?_,fun h=>b7 ?_⟩
   ·have h:=elt.mp (of_decide_eq_true h)
    clear hQ
    kspl_open hQ
    rw [eg,RT]
    set_option simprocs false in simp only [bX,Lb]
    refine a6 RS ?_
    rintro d st3 ⟨rfl,k3⟩
    w_how
    refine ⟨kd ?_,hQ _ _ ⟨some (bL s),?_,k2.trans k3⟩⟩
    ·have:(af.cu t s).length<=1:=by unfold af.cu;split <;> simp
     simp only [List.length_map,List.length_reverse]
     simp only [List.length_cons] at hpl
     omega
    ·have ej:(af.cu t s).reverse=af.cu t s:=by unfold af.cu;split <;> rfl
     rw [af.rR,if_pos h,List.reverse_append,List.map_append,ej]
     rfl
   ·have h:=fun e=>of_decide_eq_false h (elt.mpr e)
    clear hQ
    kspl_open hQ
    refine ⟨rfl,kd ?_,hQ _ _ ⟨some (bL s),?_,k2⟩⟩
    ·simp only [List.length_map,List.length_reverse,List.length_singleton]
     omega
    ·have e2:(s :: t :: r).reverse.map bL=(t :: r).reverse.map bL ++ [bL s]:=by simp
     rw [af.rR,if_neg h,e2]
     rfl
 ·rintro δ st2 ⟨v2,rfl,k2⟩
  rw [List.length_map,List.take_length]
  refine dD ?_
  kspl_open hQ
  exact hQ _ _ ⟨rfl,k2⟩
theorem RX {st:Store} {v w:List fH} (hl:v.length + w.length<=1000):Wp (BJ [.tup (v.map bL),.tup (w.map bL)] st) fun d st'=>d=.tup ((af.mW (v ++ w)).reverse.map bL)/\Ex [] st st':=by
 refine eU ?_
 show Ws (Ej [some (.tup (v.map bL)),some (.tup (w.map bL))] st) _ _ _ _
 unfold Ej
 refine dD ?_
 kspl_open hQ
 refine ⟨kd (by simp only [List.length_map];omega),?_⟩
 rw [<- List.map_append]
 refine a6 (RV (by rw [List.length_append];exact hl)) ?_
 rintro d st3 ⟨rfl,k3⟩
 exact hQ _ _ ⟨rfl,k3⟩
theorem RY {st:Store} {s:fH}:Wp (BP [bL s] st) fun d st'=>d=bL (af.kY s)/\Ex [] st st':=by
 obtain ⟨b,k⟩:=s
 refine eU ?_
 show Ws (Em [some (.tup [.str (if b then "s" else "t"),.int k])] st) _ _ _ _
 unfold Em
 refine bq (jJ ?_)
 cases b with
 | true =>
  kspl_open hQ
  refine hQ _ _ ⟨fun _=>dD ?_,fun h=>absurd h (by decide)⟩
  clear hQ
  kspl_open hQ
  exact ⟨rfl,hQ _ _ ⟨rfl,Ex.refl⟩⟩
 | false =>
  kspl_open hQ
  refine hQ _ _ ⟨fun h=>absurd h (by decide),fun _=>ll (dD ?_)⟩
  clear hQ
  kspl_open hQ
  exact ⟨rfl,hQ _ _ ⟨rfl,Ex.refl⟩⟩
theorem RZ {st:Store} {w:List fH} (hl:w.length<=1000):Wp (BR [.tup (w.map bL)] st) fun d st'=>d=.tup ((af.jB w).map bL)/\Ex [] st st':=by
 refine eU ?_
 show Ws (En [some (.tup (w.map bL))] st) _ _ _ _
 unfold En
 refine dD ?_
 kspl_open hQ
 refine PK (w.reverse.map bL) (fun i y=>∃ s,w.reverse[i]?=some s/\y=bL (af.kY s)) (Ex [] st) ?_ (by rw [List.length_map,List.length_reverse];omega) ?_ ?_
 ·refine b8 ?_
  intro iZ cg
  set_option simprocs false in simp only [bX,PN]
  refine ⟨_,rfl,cg _ _ ⟨fun i st2 hi _=>?_,Ex.refl⟩⟩
  rw [<- List.map_reverse]
  exact q4 _ st2 i st2 hi Ex.refl
 ·intro i d hd st1 k1
  rw [List.getElem?_map] at hd
  obtain ⟨s,hs,rfl⟩:=Option.map_eq_some_iff.mp hd
  kspl_open cg
  refine a6 RY ?_
  rintro d st3 ⟨rfl,k3⟩
  exact cg _ _ ⟨⟨s,hs,rfl⟩,k1.trans k3⟩
 ·intro ys st' k' hy h
  w_how
  refine hQ _ _ ⟨?_,k'.app _⟩
  congr 1
  refine List.ext_getElem? fun i=>?_
  rw [List.length_map,List.length_reverse] at hy
  have eb:af.jB w=w.reverse.map af.kY:=by unfold af.jB;rw [List.map_reverse]
  rw [eb,List.getElem?_map,List.getElem?_map]
  rcases Nat.lt_or_ge i ys.length with hi | hi
  ·obtain ⟨s,hs,e⟩:=h i ys[i] (List.getElem?_eq_getElem hi)
   rw [hs,List.getElem?_eq_getElem hi,e];rfl
  ·rw [List.getElem?_eq_none hi,List.getElem?_eq_none (by rw [List.length_reverse];omega)];rfl
theorem Lc {st:Store} {A B:af.T4} (h:EE A B):Wp (AW [gs A,gs B] st) fun d st'=>d=gs (A.mul B)/\Ex [] st st':=by
 refine eU ?_
 show Ws (DG [some (gs A),some (gs B),none,none,none,none,none,none,none,none] st) _ _ _ _
 unfold DG gs
 have a1:∀ y∈[B.a,B.b,B.c,B.d],b9 A.a y=true:=h _ (by simp)
 have a2:∀ y∈[B.a,B.b,B.c,B.d],b9 A.b y=true:=h _ (by simp)
 have a3:∀ y∈[B.a,B.b,B.c,B.d],b9 A.c y=true:=h _ (by simp)
 have a4:∀ y∈[B.a,B.b,B.c,B.d],b9 A.d y=true:=h _ (by simp)
 refine bq (qv ?_)
 kspl_open hQ
 refine hQ _ _ ?_
 clear hQ
 kspl_open hQ
 refine ⟨rfl,hQ _ _ (bq (qv ?_))⟩
 clear hQ
 kspl_open hQ
 refine hQ _ _ ?_
 clear hQ
 kspl_open hQ
 refine ⟨rfl,hQ _ _ (dD ?_)⟩
 clear hQ
 refine b8 ?_
 intro dz hQ
 set_option simprocs false in simp only [bX,Ds]
 exact ⟨a1 _ (by simp),a2 _ (by simp),a1 _ (by simp),a2 _ (by simp),a3 _ (by simp),a4 _ (by simp),a3 _ (by simp),a4 _ (by simp),rfl,hQ _ _ ⟨rfl,Ex.refl⟩⟩
theorem Ld {st:Store} {w:List fH} (hw:∀ s∈w,af.df s/\s.2.natAbs<=1000000) (hl:w.length<=1000):Wp (xa [.tup (w.map bL)] st) fun d st'=>d=gs (af.aH w)/\Ex [] st st':=by
 refine eU ?_
 show Ws (DH [some (.tup (w.map bL)),none,none,none,none] st) _ _ _ _
 unfold DH
 refine bq (b7 ?_)
 kspl_open hQ
 refine ⟨rfl,hQ _ _ ?_⟩
 clear hQ
 show Ws _ _ _ _ _
 refine bq (mh (w.map bL) (fun i δ st2=>∃ v1 v2 v3:Option D,δ=[some (.tup (w.map bL)),some (gs (af.aH (w.take i))),v1,v2,v3]/\Ex [] st st2) ?_ (by rw [List.length_map];omega) ?_ ?_)
 ·kspl_open hQ
  exact hQ _ _ ⟨rfl,none,none,none,rfl,Ex.refl⟩
 ·rintro i d δ st2 hd ⟨v1,v2,v3,rfl,k2⟩
  rw [List.getElem?_map] at hd
  obtain ⟨s,hs,rfl⟩:=Option.map_eq_some_iff.mp hd
  obtain ⟨hil,es⟩:=List.getElem?_eq_some_iff.mp hs
  obtain ⟨hp,hb⟩:=hw s (List.mem_of_getElem? hs)
  have en:af.aH (w.take (i + 1))=(af.iL s).mul (af.aH (w.take i)):=by rw [List.take_succ_eq_append_getElem hil,af.tD,es]
  rw [en]
  clear en
  generalize af.aH (w.take i)=T
  obtain ⟨b,k⟩:=s
  have es1:bL (b,k)=.tup [.str (if b then "s" else "t"),.int k]:=rfl
  rw [es1]
  kspl_open hQ
  refine ⟨rfl,hQ _ _ ?_⟩
  clear hQ
  show Ws _ _ _ _ _
  cases b with
  | true =>
   refine mh (aE 0 1) (fun i δ st3=>∃ v3:Option D,δ=[some (.tup (w.map bL)),some (gs (if i=0 then T else (af.iL (true,k)).mul T)),some (.str "s"),some (.int k),v3]/\Ex [] st st3) ?_ (by rw [gI];omega) ?_ ?_
   ·kspl_open hQ
    refine ⟨rfl,.int 1,by rw [if_neg (by decide)];exact Dk _ _,_,rfl,?_⟩
    exact ⟨by decide,hQ _ _ ⟨rfl,_,rfl,k2.trans (Ex.cc _)⟩⟩
   ·rintro i d δ st3 hd ⟨w3,rfl,k3⟩
    have hi0:i=0:=by have:=iQ hd;rw [gI] at this;omega
    subst hi0
    kspl_open hQ
    refine hQ _ _ (b7 ?_)
    clear hQ
    kspl_open hQ
    refine ⟨rfl,rfl,rfl,gs (af.iL (true,k)),by rw [if_neg (by decide)];exact Dk _ _,?_⟩
    refine a6 (Lc (A:=af.iL (true,k)) (B:=T) (G1 (B7 (K9 hp hb) (by decide)))) ?_
    rintro d ky ⟨rfl,k4⟩
    exact hQ _ _ ⟨_,rfl,(k3.trans (Ex.cc _)).trans k4⟩
   ·rintro δ st3 ⟨w3,rfl,k3⟩
    exact ⟨_,_,_,rfl,k3⟩
  | false =>
   obtain ⟨j1,j3⟩:=hp.1 rfl
   simp only at j1 j3
   obtain ⟨j,rfl⟩:∃ j:Nat,k=(j:Int):=⟨k.toNat,by omega⟩
   refine mh (aE 0 j) (fun i δ st3=>∃ v3:Option D,δ=[some (.tup (w.map bL)),some (gs ((af.qp i).mul T)),some (.str "t"),some (.int (j:Int)),v3]/\Ex [] st st3) ?_ (by rw [gI];omega) ?_ ?_
   ·kspl_open hQ
    refine ⟨rfl,.int (j:Int),by rw [if_pos (by decide)];exact Dl _ _ _,_,rfl,?_⟩
    refine ⟨by omega,hQ _ _ ⟨by rw [Int.toNat_natCast],v3,?_,k2.trans (Ex.cc _)⟩⟩
    rw [show (af.qp 0).mul T=T from af.T4.one_mul T]
    rfl
   ·rintro i d δ st3 hd ⟨w3,rfl,k3⟩
    kspl_open hQ
    refine hQ _ _ (b7 ?_)
    clear hQ
    kspl_open hQ
    refine ⟨rfl,rfl,rfl,gs af.T4.qt,by rw [if_pos (by decide)];exact Dl _ _ _,?_⟩
    refine a6 (Lc (A:=af.T4.qt) (B:=(af.qp i).mul T) (G1 ⟨by decide,by decide,by decide,by decide⟩)) ?_
    rintro d' ky ⟨rfl,k4⟩
    refine hQ _ _ ⟨some d,?_,(k3.trans (Ex.cc _)).trans k4⟩
    rw [show (af.qp (i + 1)).mul T=af.T4.qt.mul ((af.qp i).mul T) from af.T4.assoc _ _ _]
    rfl
   ·rintro δ st3 ⟨w3,rfl,k3⟩
    rw [gI]
    exact ⟨_,_,_,rfl,k3⟩
 ·rintro δ st2 ⟨v1,v2,v3,rfl,k2⟩
  rw [List.length_map,List.take_length]
  refine dD ?_
  kspl_open hQ
  exact hQ _ _ ⟨rfl,k2⟩
theorem R0 {st:Store} {x y:Int} (hy:y≠0) (hb:y.natAbs < P2 100):Wp (Bz [.int x,.int y] st) fun d st'=>d=.int (af.nr x y)/\Ex [] st st':=by
 have hl:(2 * y).natAbs.log2 < 9000:=by
  have h1:(2 * y).natAbs < 2 ^ 101:=by
   have e:P2 101=2 * P2 100:=rM 100
   show _ < P2 101
   omega
  have:=(Nat.log2_lt (n:=(2 * y).natAbs) (k:=101) (by omega)).mpr h1
  omega
 refine eU ?_
 show Ws (Ef [some (.int x),some (.int y)] st) _ _ _ _
 unfold Ef
 refine dD ?_
 refine b8 ?_
 intro dz hQ
 set_option simprocs false in simp only [bX,P4]
 exact ⟨.inl (by decide),.inl (by decide),⟨by omega,hl⟩,hQ _ _ ⟨rfl,Ex.refl⟩⟩
theorem G4 {st:Store} {k:Int}:Wp (rf [.int k] st) fun d st'=>d=.tup ((af.pb k).map bL)/\Ex [] st st':=by
 refine eU ?_
 show Ws (D9 [some (.int k)] st) _ _ _ _
 unfold D9
 refine bq (jJ ?_)
 kspl_open hQ
 refine hQ _ _ ⟨fun h=>dD ?_,fun h=>ll (dD ?_)⟩
 ·have h:k=0:=of_decide_eq_true h
  clear hQ
  kspl_open hQ
  refine ⟨rfl,hQ _ _ ⟨?_,Ex.refl⟩⟩
  unfold af.pb
  rw [if_pos h];rfl
 ·have h:¬ k=0:=of_decide_eq_false h
  clear hQ
  kspl_open hQ
  refine ⟨rfl,rfl,hQ _ _ ⟨?_,Ex.refl⟩⟩
  unfold af.pb
  rw [if_neg h];rfl
theorem R1 {st:Store} {T:af.T4} {x y:Int} (hT:T.le (P2 102)) (hx:x.natAbs<=P2 102) (hy:y.natAbs<=P2 102):Wp (Bv [gs T,.tup [.int x,.int y]] st) fun d st'=>d=.tup [.int (T.a * x + T.b * y),.int (T.c * x + T.d * y)]/\Ex [] st st':=by
 have ok:∀ i j:Int,i.natAbs<=P2 102->j.natAbs<=P2 102->b9 i j=true:=fun i j hi hj=>by
  have e:P2 103=2 * P2 102:=rM 102
  have:=xK 102
  exact GI (k:=103) (by decide) (by omega) (by omega)
 obtain ⟨h1,h2,h3,h4⟩:=hT
 refine eU ?_
 show Ws (D8 [some (gs T),some (.tup [.int x,.int y])] st) _ _ _ _
 unfold D8 gs
 refine dD ?_
 refine b8 ?_
 intro dz hQ
 set_option simprocs false in simp only [bX,Ds,at2,KH]
 exact ⟨ok _ _ h1 hx,ok _ _ h2 hy,ok _ _ h3 hx,ok _ _ h4 hy,rfl,hQ _ _ ⟨rfl,Ex.refl⟩⟩
theorem xm {st:Store} {Q:D->Store->Prop} {x y:Int}:Wp (aK (.tup [.int x,.int y]) (.int 0) st) Q↔Q (.int x) st:=bD
theorem Le {st:Store} {Q:D->Store->Prop} {x y:Int}:Wp (aK (.tup [.int x,.int y]) (.int 1) st) Q↔Q (.int y) st:=bD
theorem ow {M k:Nat} (hM:M < 2 ^ k) (hk:k<=100):M < P2 100/\P2 101=2 * P2 100/\P2 102=2 * P2 101/\100 < P2 100:=⟨Nat.lt_of_lt_of_le hM (Nat.pow_le_pow_right (n:=2) (by decide) hk),rM 100,rM 101,Jt 100⟩
theorem R3 {st:Store} {x y:Int} {M k:Nat} (hM:M < 2 ^ k) (hk:k<=100) (hx:x.natAbs<=M) (hy:y.natAbs<=M):Wp (BB [.tup [.int x,.int y]] st) fun d st'=>∃ g:List fH,d=.tup (g.map bL)/\(∀ s∈g,af.df s/\s.2.natAbs<=M + 1)/\g.length<=2 * k/\(af.aH g).c * x + (af.aH g).d * y=0/\Ex [] st st':=by
 refine eU ?_
 show Ws (Eg [some (.tup [.int x,.int y]),none,none,none] st) _ _ _ _
 unfold Eg
 refine bq (b7 ?_)
 refine b8 ?_
 intro dz hQ
 w_how
 refine ⟨rfl,?_⟩
 refine hQ _ _ (bq (b7 ?_))
 clear hQ
 refine b8 ?_
 intro dz hQ
 w_how
 refine hQ _ _ (bq (xZ (fun m δ s=>∃ (g:List fH) (u v:Int) (r:Nat) (v3:Option D),m=k + 1 - r/\r<=k/\δ=[some (.tup [.int x,.int y]),some (.tup (g.map bL)),some (.tup [.int u,.int v]),v3]/\af.Dv M x y g u v r/\Ex [] st s) (k + 1) (by show k + 1 < 1000000;omega) ⟨[],x,y,0,none,rfl,Nat.zero_le _,rfl,af.Dv.zero hx hy,Ex.refl⟩ ?_))
 clear hQ
 rintro m δ s ⟨g,u,v,r,v3,rfl,hr,rfl,dv,k1⟩
 have S7:=dv.ub
 obtain ⟨G5,Lf,Lg,Lh⟩:=ow hM hk
 have S8:v.natAbs<=M:=Nat.le_trans (Nat.le_mul_of_pos_right _ (Nat.one_le_two_pow)) dv.vb
 refine b8 ?_
 intro dz hQ
 set_option simprocs false in simp only [bX,Le]
 refine hQ _ _ ⟨fun hc=>?_,fun hc=>?_⟩
 ·have hv:v≠0:=by simpa using hc
  have few:=dv.few (k:=k) hv hM
  have R4:=dv.step hv
  refine bq (b7 ?_)
  clear hQ
  refine b8 ?_
  intro dz hQ
  set_option simprocs false in simp only [bX,xm,Le]
  refine a6 (R0 hv (by omega)) ?_
  rintro d s1 ⟨rfl,k2⟩
  w_how
  refine a6 (G4) ?_
  rintro d s2 ⟨rfl,k3⟩
  w_how
  have hsl:=af.zL (-(af.nr u v))
  refine ⟨rfl,rfl,kd (by rw [List.length_map];show _ + 1<=_;omega),?_⟩
  have e1:((af.pb (-(af.nr u v))).map bL ++ [D.tup [D.str "t",D.int 1]])=(af.pB u v).map bL:=by
   unfold af.pB
   rw [List.map_append];rfl
  rw [e1]
  have CM:=af.J3 (x:=u) hv
  refine hQ _ _ (bq (b7 ?_))
  clear hQ
  refine b8 ?_
  intro dz hQ
  w_how
  refine a6 (La (b:=102) (w:=af.pB u v) (by decide) (fun s hs=>⟨(CM s hs).1,by have:=(CM s hs).2;omega⟩) (by have:=af.F9 u v;omega)) ?_
  rintro d s3 ⟨rfl,k4⟩
  have hnr:=af.J2 (x:=u) hv
  refine a6 (R1 (T:=af.aH (af.pB u v)) (x:=u) (y:=v) (by rw [af.F8];exact ⟨by show (0:Int).natAbs<=_;omega,by show (-1:Int).natAbs<=_;omega,by show (1:Int).natAbs<=_;omega,by show (-(af.nr u v)).natAbs<=_;omega⟩) (by omega) (by omega)) ?_
  rintro d s4 ⟨rfl,k5⟩
  rw [af.F8]
  have e2:∀ q:Int,D.tup [.int ((0:Int) * u + -1 * v),.int (1 * u + -q * v)]=.tup [.int (-v),.int (u - q * v)]:=fun q=>by
   have a1:(0:Int) * u + -1 * v=-v:=by omega
   have a2:1 * u + -q * v=u - q * v:=by rw [Int.neg_mul];omega
   rw [a1,a2]
  show dz (D.tup [.int ((0:Int) * u + -1 * v),.int (1 * u + -(af.nr u v) * v)]) s4
  rw [e2]
  refine hQ _ _ (b7 ?_)
  clear hQ
  refine b8 ?_
  intro dz hQ
  w_how
  have G6:=dv.ln
  have hdl:=af.F9 u v
  refine ⟨kd (by rw [List.length_map,List.length_map];omega),hQ _ _ ⟨k + 1 - (r + 1),by omega,g ++ af.pB u v,_,_,r + 1,_,rfl,by omega,by rw [List.map_append];rfl,R4,(((k1.trans k2).trans k3).trans k4).trans k5⟩⟩
 ·have hv:v=0:=by simpa using hc
  refine dD ?_
  clear hQ
  refine b8 ?_
  intro dz hQ
  w_how
  exact hQ _ _ ⟨g,rfl,dv.pr,by have:=dv.ln;omega,by rw [<- dv.vc];exact hv,k1⟩
theorem G7 {st:Store} {Q:D->Store->Prop} {T:af.T4}:Wp (aK (gs T) (.int 0) st) Q↔Q (.int T.a) st:=bD
theorem G8 {st:Store} {Q:D->Store->Prop} {T:af.T4}:Wp (aK (gs T) (.int 1) st) Q↔Q (.int T.b) st:=bD
theorem Li {st:Store} {Q:D->Store->Prop} {T:af.T4}:Wp (aK (gs T) (.int 2) st) Q↔Q (.int T.c) st:=bD
theorem xn {st:Store} {Q:D->Store->Prop} {T:af.T4}:Wp (aK (gs T) (.int 3) st) Q↔Q (.int T.d) st:=bD
theorem R5 {st:Store} {T:af.T4} (hl:T.le (P2 100)):Wp (BL [gs T] st) fun d st'=>d=.bl (decide (T.a * T.d - T.b * T.c=1))/\Ex [] st st':=by
 have ok:∀ i j:Int,i.natAbs<=P2 100->j.natAbs<=P2 100->b9 i j=true:=fun i j hi hj=>by
  have e:P2 101=2 * P2 100:=rM 100
  have:=xK 100
  exact GI (k:=101) (by decide) (by omega) (by omega)
 refine eU ?_
 show Ws (Ek [some (gs T)] st) _ _ _ _
 unfold Ek
 refine dD ?_
 have hs:c4 st (gs T)=some [.int T.a,.int T.b,.int T.c,.int T.d]:=rfl
 refine b8 ?_
 intro dz hQ
 set_option simprocs false in simp only [bX,hs,Ds,G7,G8,Li,xn]
 obtain ⟨h1,h2,h3,h4⟩:=hl
 rw [if_pos (show decide ((([D.int T.a,D.int T.b,D.int T.c,D.int T.d]:List D).length:Int)=4)=true from rfl)]
 exact ⟨ok _ _ h1 h4,ok _ _ h2 h3,hQ _ _ ⟨rfl,Ex.refl⟩⟩
theorem R6 {st:Store} {A:af.T4}:Wp (BN [gs A] st) fun d st'=>d=.tup ((af.mX A).map bL)/\Ex [] st st':=by
 refine eU ?_
 show Ws (El [some (gs A)] st) _ _ _ _
 unfold El
 refine bq (jJ ?_)
 refine b8 ?_
 intro dz hQ
 set_option simprocs false in simp only [bX,G7]
 refine hQ _ _ ⟨fun h=>dD ?_,fun h=>ll (dD ?_)⟩
 ·have h:A.a=1:=of_decide_eq_true h
  clear hQ
  refine b8 ?_
  intro dz hQ
  set_option simprocs false in simp only [bX,G8]
  refine a6 (G4) ?_
  rintro d s1 ⟨rfl,k1⟩
  refine hQ _ _ ⟨?_,k1⟩
  unfold af.mX
  rw [if_pos h]
 ·have h:¬ A.a=1:=of_decide_eq_false h
  clear hQ
  refine b8 ?_
  intro dz hQ
  set_option simprocs false in simp only [bX,G8]
  refine ⟨rfl,rfl,?_⟩
  refine a6 (G4) ?_
  rintro d s1 ⟨rfl,k1⟩
  w_how
  have:=af.zL (-A.b)
  refine ⟨kd (by rw [List.length_map];show 1 + _<=_;omega),hQ _ _ ⟨?_,k1⟩⟩
  unfold af.mX
  rw [if_neg h]
  rfl
theorem R7 {T:af.T4} {g:List fH} {M k:Nat} (hM:M < 2 ^ k) (hk:k<=100) (hl:T.le M) (hg:∀ s∈g,af.df s/\s.2.natAbs<=M + 1) (G6:g.length<=2 * k):∀ s∈af.mW (af.mX ((af.aH g).mul T) ++ af.jB g),s.2.natAbs + 1<=P2 20400:=by
 obtain ⟨G5,Lf,Lg,Lh⟩:=ow hM hk
 have R8:M + 2<=P2 101:=by omega
 have hgt:=G3 (w:=g) (b:=101) (n:=200) (fun s hs=>⟨(hg s hs).1,by have:=(hg s hs).2;omega⟩) (by omega)
 have B8:∀ x y:Int,x.natAbs<=P2 (101 * 200)->y.natAbs<=M->(x * y).natAbs<=P2 20301:=fun x y hx hy=>by
  rw [Int.natAbs_mul]
  refine Nat.le_trans (Nat.mul_le_mul hx (Nat.le_trans hy (Nat.le_trans (Nat.le_add_right M 2) R8))) ?_
  rw [Js]
  exact zk (by decide)
 have hA:((af.aH g).mul T).b.natAbs<=P2 20302:=by
  have e:((af.aH g).mul T).b=(af.aH g).a * T.b + (af.aH g).b * T.d:=rfl
  have h1:=B8 _ _ hgt.1 hl.2.1
  have h2:=B8 _ _ hgt.2.1 hl.2.2.2
  have h3:P2 20302=2 * P2 20301:=rM 20301
  rw [e]
  omega
 have G9:P2 101<=P2 20302:=zk (by decide)
 have h7:20302 < P2 20302:=Jt 20302
 generalize hB:P2 20302=B at hA G9 h7
 have hv:∀ s∈af.mX ((af.aH g).mul T),af.df s/\s.2.natAbs<=B:=fun s hs=>by
  refine ⟨af.J4 _ s hs,?_⟩
  unfold af.mX at hs
  split at hs
  ·rw [(af.zK s hs).2];exact hA
  ·rcases List.mem_cons.mp hs with rfl | hs
   ·show (2:Int).natAbs<=B;omega
   ·rw [(af.zK s hs).2,Int.natAbs_neg];exact hA
 have hb:∀ s∈af.jB g,af.df s/\s.2.natAbs<=B:=fun s hs=>by
  refine ⟨af.C2 (fun s hs=>(hg s hs).1) s hs,?_⟩
  unfold af.jB at hs
  obtain ⟨t,ht,rfl⟩:=List.mem_map.mp (List.mem_reverse.mp hs)
  obtain ⟨h1,h2⟩:=hg t ht
  obtain ⟨b,k⟩:=t
  cases b with
  | true=>show (-k).natAbs<=B;simp only at h2;omega
  | false=>have:=h1.1 rfl;simp only at this;show (4 - k).natAbs<=B;omega
 intro s hs
 have hq:=af.vm (B:=B) (w:=af.mX ((af.aH g).mul T) ++ af.jB g) (fun s hs=>by
  rcases List.mem_append.mp hs with h | h
  ·exact hv s h
  ·exact hb s h) s hs
 have hlen:(af.mX ((af.aH g).mul T) ++ af.jB g).length<=256:=by
  rw [List.length_append]
  have h1:=af.J5 ((af.aH g).mul T)
  have h2:(af.jB g).length=g.length:=by unfold af.jB;rw [List.length_reverse,List.length_map]
  omega
 have h3:s.2.natAbs<=256 * B:=Nat.le_trans hq (Nat.mul_le_mul_right _ hlen)
 have h4:P2 20310=256 * B:=by
  have:=Js 8 20302
  rw [hB] at this
  rw [show (20310:Nat)=8 + 20302 from rfl,<- this]
  rfl
 have h5:P2 20311=2 * P2 20310:=rM 20310
 have h6:P2 20311<=P2 20400:=zk (by decide)
 omega
theorem R9 {st:Store} {T:af.T4} {M k:Nat} (hM:M < 2 ^ k) (hk:k<=100) (hl:T.le M) (hd:T.a * T.d - T.b * T.c=1):Wp (BU [gs T] st) fun d st'=>∃ w:List fH,d=.tup (w.map bL)/\(∀ s∈w,af.df s/\s.2.natAbs + 1<=P2 20400)/\w.length<=2 * k + 2/\af.aH w=T/\Ex [] st st':=by
 refine eU ?_
 show Ws (Eo [some (gs T),none] st) _ _ _ _
 unfold Eo
 refine bq (jJ ?_)
 kspl_open hQ
 obtain ⟨G5,Lf,Lg,Lh⟩:=ow hM hk
 refine a6 (R5 (B7 hl (by omega))) ?_
 rintro d s1 ⟨rfl,k1⟩
 refine ⟨_,rfl,?_⟩
 refine hQ _ _ ⟨fun h=>absurd h (by simp [hd]),fun _=>ll (bq (b7 ?_))⟩
 clear hQ
 refine b8 ?_
 intro dz hQ
 set_option simprocs false in simp only [bX,G7,Li]
 refine ⟨rfl,?_⟩
 refine a6 (R3 hM hk hl.1 hl.2.2.1) ?_
 rintro d s2 ⟨g,rfl,hg,G6,h0,k2⟩
 refine hQ _ _ (dD ?_)
 clear hQ
 kspl_open hQ
 have Sb:∀ s∈g,af.df s:=fun s hs=>(hg s hs).1
 have Lj:∀ s∈g,af.df s/\s.2.natAbs + 1<=P2 101:=fun s hs=>⟨(hg s hs).1,by have:=(hg s hs).2;omega⟩
 refine a6 (La (b:=101) (w:=g) (by decide) Lj (by omega)) ?_
 rintro d s3 ⟨rfl,k3⟩
 have hgt:=G3 (n:=200) Lj (by omega)
 refine a6 (G2 (uo (k:=101 * 200 + 1) (M:=P2 (101 * 200)) (by decide) (by have:=xK (101 * 200);have:=rM (101 * 200);omega) hgt (B7 hl (Nat.le_trans (Nat.le_of_lt G5) (zk (by decide)))))) ?_
 rintro d s4 ⟨rfl,k4⟩
 refine a6 (R6) ?_
 rintro d s5 ⟨rfl,k5⟩
 refine a6 (RZ (w:=g) (by omega)) ?_
 rintro d s6 ⟨rfl,k6⟩
 have uk:=af.J5 ((af.aH g).mul T)
 have rh:(af.jB g).length=g.length:=by unfold af.jB;rw [List.length_reverse,List.length_map]
 refine a6 (RX (v:=af.mX ((af.aH g).mul T)) (w:=af.jB g) (by omega)) ?_
 rintro d s7 ⟨rfl,k7⟩
 obtain ⟨e1,e2⟩:=af.N7 hd Sb h0
 refine hQ _ _ ⟨_,rfl,fun s hs=>⟨e2 s hs,R7 hM hk hl hg G6 s (List.mem_reverse.mp hs)⟩,?_,e1,(((((k1.trans k2).trans k3).trans k4).trans k5).trans k6).trans k7⟩
 rw [List.length_reverse]
 have:=af.JH (af.mX ((af.aH g).mul T) ++ af.jB g)
 rw [List.length_append] at this
 omega
theorem Sd {st:Store} {xs ys:List Int} {n:Nat} {s:Int} (fl:lp n xs ys) (hn:n<=100) (s0:0<=s) (s1:s < (n:Int)):Wp (Ba [bK xs ys,.int s] st) fun d st'=>d=.tup ((af.inv (af.bf xs ys s n)).map D.int)/\Ex [] st st':=by
 obtain ⟨tx,ty,all⟩:=fl
 refine eU ?_
 show Ws (DV [some (bK xs ys),some (.int s)] st) _ _ _ _
 unfold DV
 refine dD ?_
 kspl_open hQ
 refine a6 (Rr tx ty hn s0 s1) ?_
 rintro d st1 ⟨rfl,k1⟩
 refine a6 (GR (af.CT tx ty s0 s1 all) hn) ?_
 rintro d st2 ⟨rfl,k2⟩
 exact hQ _ _ ⟨rfl,k1.trans k2⟩
def xo (xs ys:List Int) (s:Int) (n:Nat):D:=bK (af.num xs (af.bf xs ys s n)) (af.num ys (af.bf xs ys s n))
theorem Se {st:Store} {xs ys:List Int} {n:Nat} {s:Int} (fl:lp n xs ys) (hn:n<=100) (s0:0<=s) (s1:s < (n:Int)):Wp (Bc [bK xs ys,.int s] st) fun d st'=>d=xo xs ys s n/\Ex [] st st':=by
 have Sf:=fl
 obtain ⟨tx,ty,all⟩:=fl
 have tb:=af.CT tx ty s0 s1 all
 refine eU ?_
 show Ws (DW [some (bK xs ys),some (.int s)] st) _ _ _ _
 unfold DW
 refine dD ?_
 kspl_open hQ
 refine a6 (Sd Sf hn s0 s1) ?_
 rintro d st1 ⟨rfl,k1⟩
 refine a6 (Rq tx ty tb.aw hn) ?_
 rintro d st2 ⟨rfl,k2⟩
 rw [af.CU tx tb,af.CU ty tb]
 exact hQ _ _ ⟨rfl,k1.trans k2⟩
theorem Sg {st:Store} {xs ys:List Int} {n:Nat} {s:Int} (fl:lp n xs ys) (hn:n<=100) (s0:0<=s) (s1:s < (n:Int)):Wp (AZ [bK xs ys,.int s] st) fun d st'=>d=xo xs ys s n/\Ex [] st st':=by
 obtain ⟨tx,ty,all⟩:=fl
 have hlx:=tx.length
 have yh:=ty.length
 refine eU ?_
 show Ws (DI [some (bK xs ys),some (.int s),none,none,none] st) _ _ _ _
 unfold DI
 refine bq (b7 ?_)
 kspl_open hQ
 refine ⟨rfl,hQ _ _ (bq (Km ((af.upto n).map D.int) (st.length + 2) (fun k δ st2=>∃ (v3 v4:Option D),δ=[some (bK xs ys),some (.int s),some (.ref st.length),v3,v4]/\st2[st.length]?=some (.lst ((af.bf xs ys s k).map D.int))/\st2[st.length + 2]?=some (.lst ((af.upto n).map D.int))/\Ex [] st st2) ?_ ?_ ?_ ?_ ?_))⟩
 ·clear hQ
  unfold bK
  kspl_open hQ
  rw [List.length_map,hlx,show ((n:Int) - 0).toNat=n by omega,om]
  have e:(st ++ [O.lst [D.int s]] ++ [O.iF 0 (n:Int)]).length=st.length + 2:=by simp
  rw [e]
  exact ⟨sd (by omega),hQ _ _ ⟨rfl,none,none,rfl,nJ (nJ ku),by rw [<- e];exact ku,((Ex.cc _).app _).app _⟩⟩
 ·rw [List.length_map,af.nQ];omega
 ·rintro k δ st2 ⟨_,_,_,_,h,_⟩
  exact d8 h
 ·rintro k d δ st2 hd ⟨v3,v4,rfl,hl,hr,k2⟩
  obtain ⟨x',hx',rfl⟩:=Az hd
  have hkn:=iQ hx'
  rw [af.nQ] at hkn
  rw [af.zo hkn] at hx'
  cases hx'
  have rh:=af.zt tx ty s0 s1 k
  have hb1:=af.zt tx ty s0 s1 (k + 1)
  clear hQ
  kspl_open hQ
  refine hQ _ _ ?_
  clear hQ
  by_cases mS:k < (af.bf xs ys s k).length
  ·obtain ⟨x,hx⟩:∃ x,(af.bf xs ys s k)[k]?=some x:=⟨_,List.getElem?_eq_getElem mS⟩
   obtain ⟨x0,x1⟩:=af.o9 tx ty s0 s1 k x (List.mem_of_getElem? hx)
   have e1:af.bf xs ys s (k + 1)=af.visit xs ys (af.bf xs ys s k) x:=by
    show (match (af.bf xs ys s k)[k]? with | some x=>af.visit xs ys (af.bf xs ys s k) x | none=>af.bf xs ys s k)=_
    rw [hx]
   rw [e1] at hb1 ⊢
   have hp1:=(af.tw (af.cE (af.bf xs ys s k) (af.app xs x)) (af.app ys x)).length_le
   have hp0:=(af.tw (af.bf xs ys s k) (af.app xs x)).length_le
   change _<=(af.visit xs ys (af.bf xs ys s k) x).length at hp1
   refine mh [.tup (xs.map D.int),.tup (ys.map D.int)] (fun m δ st3=>∃ (v4:Option D) (G:List Int),δ=[some (bK xs ys),some (.int s),some (.ref st.length),some (.int (k:Int)),v4]/\st3[st.length]?=some (.lst (G.map D.int))/\st3[st.length + 2]?=some (.lst ((af.upto n).map D.int))/\(m=0->G=af.bf xs ys s k)/\(m=1->G=af.cE (af.bf xs ys s k) (af.app xs x))/\(m=2->G=af.visit xs ys (af.bf xs ys s k) x)/\Ex [] st st3) ?_ (by simp) ?_ ?_
   ·unfold bK
    kspl_open hQ
    exact hQ _ _ ⟨rfl,v4,_,rfl,hl,hr,fun _=>rfl,fun z=>by omega,fun z=>by omega,k2⟩
   ·rintro m z δ st3 hm ⟨v4,G,rfl,hl3,rg,g0,g1,_,k3⟩
    have hm2:m < 2:=iQ hm
    obtain ⟨zs,rfl,tz,em⟩:∃ (zs:List Int),z=.tup (zs.map D.int)/\af.Tn n zs/\((m=0/\zs=xs)\/(m=1/\zs=ys)):=by
     rcases (show m=0\/m=1 by omega) with rfl | rfl
     ·exact ⟨xs,by simpa using hm.symm,tx,.inl ⟨rfl,rfl⟩⟩
     ·exact ⟨ys,by simpa using hm.symm,ty,.inr ⟨rfl,rfl⟩⟩
    have hG:G.length<=100/\G[k]?=some x/\k < G.length:=by
     rcases em with ⟨rfl,_⟩ | ⟨rfl,_⟩
     ·rw [g0 rfl];exact ⟨by omega,hx,mS⟩
     ·rw [g1 rfl]
      refine ⟨by omega,?_,by omega⟩
      obtain ⟨t,e⟩:=af.tw (af.bf xs ys s k) (af.app xs x)
      rw [<- e,List.getElem?_append_left mS];exact hx
    have B2:∀ G',G'=af.cE G (af.app zs x)->(m + 1=0->G'=af.bf xs ys s k)/\(m + 1=1->G'=af.cE (af.bf xs ys s k) (af.app xs x))/\(m + 1=2->G'=af.visit xs ys (af.bf xs ys s k) x):=fun G' e=>by
     rcases em with ⟨rfl,rfl⟩ | ⟨rfl,rfl⟩
     ·exact ⟨fun z=>by omega,fun _=>by rw [e,g0 rfl],fun z=>by omega⟩
     ·exact ⟨fun z=>by omega,fun z=>by omega,fun _=>by rw [e,g1 rfl];rfl⟩
    have hat:gK (G.map D.int) (k:Int)=some (.int x):=xC (by rw [List.getElem?_map,hG.2.1];rfl)
    have hdt:decide ((k:Int) < ((G.map D.int).length:Int))=true:=decide_eq_true (by rw [List.length_map];omega)
    kspl_open hQ
    refine hQ _ _ (jJ ?_)
    clear hQ
    refine b8 ?_
    intro dz hQ
    set_option simprocs false in simp only [bX,d8 hl3,hdt,hat,oo (xs:=zs) x0 (by rw [tz.length];exact x1),Dp (st:=st3) (c:=.ref st.length) (ns:=G) (d8 hl3)]
    refine hQ _ _ ⟨fun hc=>uc ?_,fun hc=>ll ?_⟩
    ·obtain ⟨n0,n1,n2⟩:=B2 (G ++ [af.app zs x]) (KZ hc).symm
     refine b8 ?_
     intro iZ cg
     set_option simprocs false in simp only [bX,d8 hl3,hat,oo (xs:=zs) x0 (by rw [tz.length];exact x1),mx hl3]
     refine ⟨qZ (by rw [d8 hl3];rfl),kd (by rw [List.length_map];omega),cg _ _ ⟨_,G ++ [af.app zs x],rfl,?_,?_,n0,n1,n2,k3.loc (Nat.le_refl _)⟩⟩
     ·rw [List.getElem?_set_self (iQ hl3),List.map_append];rfl
     ·rw [List.getElem?_set_ne (by omega)];exact rg
    ·obtain ⟨n0,n1,n2⟩:=B2 G (K0 hc).symm
     exact ⟨_,G,rfl,hl3,rg,n0,n1,n2,k3⟩
   ·rintro δ st3 ⟨v4,G,rfl,hl3,rg,_,_,g2,k3⟩
    have g2:=g2 rfl
    subst g2
    exact ⟨_,_,rfl,hl3,rg,k3⟩
  ·have e1:af.bf xs ys s (k + 1)=af.bf xs ys s k:=af.CS (k:=k) (by omega) 1
   rw [e1]
   have hdf:decide ((k:Int) < (((af.bf xs ys s k).map D.int).length:Int))=false:=decide_eq_false (by rw [List.length_map];omega)
   refine mh [.tup (xs.map D.int),.tup (ys.map D.int)] (fun m δ st3=>∃ (v4:Option D),δ=[some (bK xs ys),some (.int s),some (.ref st.length),some (.int (k:Int)),v4]/\st3=st2) ?_ (by simp) ?_ ?_
   ·unfold bK
    kspl_open hQ
    exact hQ _ _ ⟨rfl,v4,rfl,rfl⟩
   ·rintro m z δ st3 hm ⟨v4,rfl,rfl⟩
    kspl_open hQ
    refine hQ _ _ (jJ ?_)
    clear hQ
    refine b8 ?_
    intro dz hQ
    set_option simprocs false in simp only [bX,d8 hl,hdf]
    exact hQ _ _ ⟨fun h=>absurd h (by decide),fun _=>ll ⟨_,rfl,rfl⟩⟩
   ·rintro δ st3 ⟨v4,rfl,rfl⟩
    exact ⟨_,_,rfl,hl,hr,k2⟩
 ·rintro δ st2 ⟨v3,v4,rfl,hl,hr,k2⟩
  rw [List.length_map,af.nQ] at hl
  have tb:=af.CT tx ty s0 s1 all
  have hlb:=tb.length
  generalize Si:af.bf xs ys s n=sq at hl tb hlb ⊢
  clear hQ
  unfold bK
  refine dD ?_
  kspl_open hQ
  refine q5 [.tup (xs.map D.int),.tup (ys.map D.int)] (fun d=>match d with | .tup ds=>.tup ((af.num (ds.map inD) sq).map D.int) | _=>.non) ?_ (by simp) ?_ ?_
  ·kspl_open cg
   exact cg _ _ ⟨q4 _ _,Ex.refl⟩
  ·intro d hd st3 k3
   obtain ⟨zs,rfl,tz⟩:∃ zs:List Int,d=.tup (zs.map D.int)/\af.Tn n zs:=by
    rcases List.mem_cons.mp hd with rfl | hd
    ·exact ⟨xs,rfl,tx⟩
    ·exact ⟨ys,List.mem_singleton.mp hd,ty⟩
   have hl3:=k3.keep _ _ hl (by simp)
   refine b8 ?_
   intro iZ cg
   set_option simprocs false in simp only [bX,List.map_cons,List.map_nil,List.getD_cons_succ,List.getD_cons_zero]
   refine q5 (sq.map D.int) (fun d=>.int (sq.idxOf (af.app zs (inD d)):Int)) ?_ (by rw [List.length_map];omega) ?_ ?_
   ·kspl_open ou
    exact ⟨_,d8 hl3,ou _ _ ⟨Pz (d8 hl3),Ex.refl⟩⟩
   ·intro d hd ky k4
    obtain ⟨x,hx,rfl⟩:=ug hd
    obtain ⟨x0,x1⟩:=tb.bound hx
    obtain ⟨a0,a1⟩:=tz.app x0 x1
    have pJ:=k4.keep _ _ hl3 (by simp)
    refine b8 ?_
    intro xk ou
    set_option simprocs false in simp only [bX,List.map_cons,List.map_nil,List.getD_cons_succ,List.getD_cons_zero,oo (xs:=zs) x0 (by rw [tz.length];exact x1),O9 (d8 pJ) (tb.mem a0 a1) (by omega) (fun i hi=>by have:=tb.bound hi;omega)]
    exact ⟨qZ (by rw [d8 pJ];rfl),ou _ _ ⟨rfl,Ex.refl⟩⟩
   ·intro ky k4
    rw [x4 (f:=fun x=>(sq.idxOf (af.app zs x):Int)) fun x hx=>rfl]
    w_how
    refine cg _ _ ⟨?_,k4.app _⟩
    show D.tup _=D.tup ((af.num ((zs.map D.int).map inD) sq).map D.int)
    rw [KC]
    rfl
  ·intro st3 k3
   w_how
   refine hQ _ _ ⟨?_,(k2.trans k3).app _⟩
   simp only [List.map_cons,List.map_nil,KC]
   unfold xo
   rw [Si]
   rfl
theorem Lk {n:Nat} {xs ys:List Int} (fl:lp n xs ys):af.Wh n (xs,ys):=⟨⟨fl.1,fl.2.1⟩,fl.2.2⟩
theorem B9 {n:Nat} {p:af.cz} (w:af.Wh n p):lp n p.1 p.2:=⟨w.v.1,w.v.2,w.all⟩
theorem xq {n:Nat} (p:af.cz) (n0:0 < n):∃ s:Int,0<=s/\s < (n:Int)/\af.lz n p=af.pA p n s:=by
 have h:=(af.FV (l:=(af.upto n).map (af.pA p n)) (fun e=>by
  have:=congrArg List.length e
  rw [List.length_map,af.nQ] at this
  simp at this
  omega)).1
 obtain ⟨s,hs,e⟩:=List.mem_map.mp h
 obtain ⟨s0,s1⟩:=af.lg.mp hs
 exact ⟨s,s0,s1,e.symm⟩
theorem xr {n:Nat} {p:af.cz} (w:af.Wh n p) (n0:0 < n):af.bN n p (af.lz n p):=by
 obtain ⟨s,s0,s1,e⟩:=xq p n0
 have tb:=w.bf s0 s1
 refine ⟨af.inv (af.bf p.1 p.2 s n),tb.aw,?_⟩
 rw [e,af.CU w.v.1 tb,af.CU w.v.2 tb]
 rfl
theorem Ll {n:Nat} {p q:af.cz} (w:af.Wh n p) (n0:0 < n) (a:af.bN n p q):af.Wh n q:=by
 obtain ⟨g,tg,rfl⟩:=a
 have:=af.oS (B9 w) tg n0
 exact ⟨⟨this.1,this.2.1⟩,this.2.2⟩
theorem Lm (p:af.cz) (n:Nat):(aE 0 n).map (fun d=>bK (af.pA p n (inD d)).1 (af.pA p n (inD d)).2)=((af.upto n).map (af.pA p n)).map fun q=>bK q.1 q.2:=by
 rw [om,List.map_map,List.map_map]
 rfl
theorem Sj {st:Store} {xs ys:List Int} {n:Nat} (fl:lp n xs ys) (n0:0 < n) (hn:n<=20):Wp (Be [bK xs ys] st) fun d st'=>d=bK (af.lz n (xs,ys)).1 (af.lz n (xs,ys)).2/\Ex [] st st':=by
 have hlx:=fl.1.length
 refine eU ?_
 show Ws (DX [some (bK xs ys)] st) _ _ _ _
 unfold DX
 refine dD ?_
 kspl_open hQ
 refine q5 (aE 0 n) (fun d=>bK (af.pA (xs,ys) n (inD d)).1 (af.pA (xs,ys) n (inD d)).2) ?_ (by rw [gI];omega) ?_ ?_
 ·unfold bK
  kspl_open cg
  rw [List.length_map,hlx]
  exact ⟨by omega,cg _ _ ⟨by rw [Int.toNat_natCast];exact q4 _ _,Ex.refl⟩⟩
 ·intro d hd st2 k2
  rw [om] at hd
  obtain ⟨x,hx,rfl⟩:=ug hd
  obtain ⟨x0,x1⟩:=af.lg.mp hx
  refine b8 ?_
  intro iZ cg
  set_option simprocs false in simp only [bX,List.map_cons,List.map_nil,List.getD_cons_succ,List.getD_cons_zero]
  refine a6 (Se fl (by omega) x0 x1) ?_
  rintro d st3 ⟨rfl,k3⟩
  exact cg _ _ ⟨rfl,k3⟩
 ·intro st' k'
  rw [Lm,KP (mx ku) (by rw [List.length_map,af.nQ];exact n0)]
  exact hQ _ _ ⟨rfl,k'.app _⟩
theorem Ha {st:Store} {xs ys:List Int} {n:Nat} (fl:lp n xs ys) (n0:0 < n) (hn:n<=20):Wp (sj [bK xs ys] st) fun d st'=>d=bK (af.lz n (xs,ys)).1 (af.lz n (xs,ys)).2/\Ex [] st st':=by
 have hlx:=fl.1.length
 refine eU ?_
 show Ws (DK [some (bK xs ys)] st) _ _ _ _
 unfold DK
 refine dD ?_
 kspl_open hQ
 refine q5 (aE 0 n) (fun d=>bK (af.pA (xs,ys) n (inD d)).1 (af.pA (xs,ys) n (inD d)).2) ?_ (by rw [gI];omega) ?_ ?_
 ·unfold bK
  kspl_open cg
  rw [List.length_map,hlx]
  exact ⟨by omega,cg _ _ ⟨by rw [Int.toNat_natCast];exact q4 _ _,Ex.refl⟩⟩
 ·intro d hd st2 k2
  rw [om] at hd
  obtain ⟨x,hx,rfl⟩:=ug hd
  obtain ⟨x0,x1⟩:=af.lg.mp hx
  refine b8 ?_
  intro iZ cg
  set_option simprocs false in simp only [bX,List.map_cons,List.map_nil,List.getD_cons_succ,List.getD_cons_zero]
  refine a6 (Sg fl (by omega) x0 x1) ?_
  rintro d st3 ⟨rfl,k3⟩
  exact cg _ _ ⟨rfl,k3⟩
 ·intro st' k'
  rw [Lm,KP (mx ku) (by rw [List.length_map,af.nQ];exact n0)]
  exact hQ _ _ ⟨rfl,k'.app _⟩
theorem zm {n:Nat} {f:Int->Int} {x:Int} (x0:0<=x) (x1:x < (n:Int)):af.app ((af.upto n).map f) x=f x:=by
 unfold af.app
 rw [List.getD_eq_getElem?_getD,List.getElem?_map,af.zo (by omega)]
 show f ((x.toNat:Nat):Int)=f x
 rw [Int.toNat_of_nonneg x0]
theorem Hb {g:Int} {s:fH} (h:nX g s):af.df s:=⟨h.1,h.2.2⟩
theorem Ln {g:Int} {v w:List fH} (h1:∀ s∈v,nX g s) (h2:∀ s∈w,nX g s):∀ s∈v ++ w,nX g s:=fun s hs=>by
 rcases List.mem_append.mp hs with h | h
 ·exact h1 s h
 ·exact h2 s h
theorem Hc {w:List fH} (h:∀ s∈w,af.df s):∀ s∈w,B6 s:=fun s hs=>(h s hs).1
theorem Hd:∀ (w:List fH) (p:List Int×List Int),ko p w=af.gB p w:=by
 have hq:∀ (p:List Int×List Int) (j:Nat),nA p.1 p.2 j=af.nG j p:=fun p j=>by
  induction j with
  | zero=>rfl
  | succ j ih=>show (af.inv (nA p.1 p.2 j).2,(nA p.1 p.2 j).1)=af.Qt (af.nG j p);rw [ih];rfl
 have hs:∀ (p:List Int×List Int) (s:fH),iD p s=af.stM p s:=fun p s=>by
  unfold iD af.stM
  rw [hq]
  rfl
 intro w
 induction w with
 | nil=>intro p;rfl
 | cons s w ih =>
  intro p
  show ko (iD p s) w=af.gB (af.stM p s) w
  rw [hs,ih]
theorem Ca:∀ s∈([(false,1),(false,3)]:List fH),nX 9 s:=by
 intro s hs
 simp only [List.mem_cons,List.not_mem_nil,or_false] at hs
 rcases hs with rfl | rfl <;> exact ⟨fun _=>by decide,by decide,by decide⟩
def qG:List fH:=[(true,1),(false,1),(true,1),(false,1),(true,1),(false,1),(true,1),(false,1),(true,1),(false,1),(true,1),(false,1)]
theorem Sk:∀ s∈qG,nX 9 s:=by
 intro s hs
 simp only [qG,List.mem_cons,List.not_mem_nil,or_false] at hs
 rcases hs with rfl | rfl | rfl | rfl | rfl | rfl | rfl | rfl | rfl | rfl | rfl | rfl <;> exact ⟨fun _=>by decide,by decide,by decide⟩
theorem Sl:∀ s∈([(false,2),(false,2)]:List fH),nX 9 s:=by
 intro s hs
 simp only [List.mem_cons,List.not_mem_nil,or_false] at hs
 rcases hs with rfl | rfl <;> exact ⟨fun _=>by decide,by decide,by decide⟩
theorem Sn {k:Int} (h0:1<=k) (h1:k<=9):∀ s∈([(true,k),(true,0 - k)]:List fH),nX 9 s:=by
 intro s hs
 simp only [List.mem_cons,List.not_mem_nil,or_false] at hs
 rcases hs with rfl | rfl
 ·exact ⟨fun z=>Bool.noConfusion (show true=false from z),by show (k.natAbs:Int)<=9;omega,by show k≠0;omega⟩
 ·exact ⟨fun z=>Bool.noConfusion (show true=false from z),by show ((0 - k).natAbs:Int)<=9;omega,by show 0 - k≠0;omega⟩
theorem Sq (k:Int):af.aH [(true,k),(true,0 - k)]=af.T4.one:=by
 show (af.T4.mul ⟨1,0 - k,0,1⟩ (af.T4.mul ⟨1,k,0,1⟩ af.T4.one))=_
 apply af.T4.ext' <;> simp [af.T4.mul,af.T4.one] <;> omega
theorem Sr {st:Store} {f:Nat} {w:List fH} (hf:bp st f) (hw:∀ s∈w,nX 6 s) (hl:w.length<=7):Wp (AI [.ref f,.tup (w.map bL)] st) fun d st'=>∃ v:List fH,d=.tup (v.map bL)/\(∀ s∈v,nX 9 s)/\v.length<=19/\af.aH v=af.aH w/\bp st' f/\Ex [f] st st':=by
 refine eU ?_
 show Ws (Dy [some (.ref f),some (.tup (w.map bL)),none,none,none,none] st) _ _ _ _
 unfold Dy
 refine bq (b7 ?_)
 kspl_open hQ
 refine a6 (pI (n:=4) hf (by decide) (by decide)) ?_
 rintro d st1 ⟨c,rfl,c0,c1,f1,k1⟩
 refine hQ _ _ (bq (b7 ?_))
 clear hQ
 kspl_open hQ
 rw [List.length_map]
 refine a6 (pI (n:=(w.length:Int) + 1) f1 (by omega) (by omega)) ?_
 rintro d st2 ⟨at',rfl,a0,a1,f2,k2⟩
 obtain ⟨j,rfl⟩:∃ j:Nat,at'=(j:Int):=⟨at'.toNat,by omega⟩
 refine hQ _ _ (bq (b7 ?_))
 clear hQ
 kspl_open hQ
 refine a6 (pI (n:=9) f2 (by decide) (by decide)) ?_
 rintro d st3 ⟨k,rfl,k0,k9,f3,k3⟩
 w_how
 generalize hK:1 + k=K
 refine hQ _ _ (bq (b7 ?_))
 clear hQ
 refine b8 ?_
 intro dz hQ
 set_option simprocs false in simp only [bX,P0]
 refine ⟨rfl,rfl,rfl,rfl,rfl,rfl,rfl,rfl,rfl,⟨by decide,by decide,by decide,by decide⟩,rfl,rfl,rfl,rfl,?_⟩
 obtain ⟨u,hu,Ss,Sv,Sw⟩:∃ u:List fH,gK [D.tup [D.tup [D.str (Str.ofString "t"),D.int 1],D.tup [D.str (Str.ofString "t"),D.int 3]],D.tup [D.tup [D.str (Str.ofString "s"),D.int K],D.tup [D.str (Str.ofString "s"),D.int (0 - K)]],D.tup (List.replicate (Int.toNat 6) [D.tup [D.str (Str.ofString "s"),D.int 1],D.tup [D.str (Str.ofString "t"),D.int 1]]).flatten,D.tup [D.tup [D.str (Str.ofString "t"),D.int 2],D.tup [D.str (Str.ofString "t"),D.int 2]]] c=some (.tup (u.map bL))/\(∀ s∈u,nX 9 s)/\u.length<=12/\af.aH u=af.T4.one:=by
  rcases (show c=0\/c=1\/c=2\/c=3 by omega) with rfl | rfl | rfl | rfl
  ·exact ⟨[(false,1),(false,3)],rfl,Ca,by decide,rfl⟩
  ·exact ⟨[(true,K),(true,0 - K)],rfl,Sn (by omega) (by omega),by simp,Sq K⟩
  ·exact ⟨qG,rfl,Sk,by decide,rfl⟩
  ·exact ⟨[(false,2),(false,2)],rfl,Sl,by decide,rfl⟩
 refine ⟨_,hu,?_⟩
 refine hQ _ _ (dD ?_)
 clear hQ
 refine b8 ?_
 intro dz hQ
 set_option simprocs false in simp only [bX,Ky,Px]
 have S9:(List.take j (w.map bL)).length<=7:=by rw [List.length_take,List.length_map];omega
 have Ta:(List.drop j (w.map bL)).length<=7:=by rw [List.length_drop,List.length_map];omega
 refine ⟨kd (by rw [List.length_map];omega),kd (by rw [List.length_append,List.length_map];omega),?_⟩
 have eV:List.take j (w.map bL) ++ u.map bL ++ List.drop j (w.map bL)=(w.take j ++ u ++ w.drop j).map bL:=by
  rw [List.map_append,List.map_append,List.map_take,List.map_drop]
 rw [eV]
 have Lo:∀ s∈w,nX 9 s:=fun s hs=>⟨(hw s hs).1,by have:=(hw s hs).2.1;omega,(hw s hs).2.2⟩
 refine hQ _ _ ⟨_,rfl,Ln (Ln (fun s hs=>Lo s (List.mem_of_mem_take hs)) Ss) fun s hs=>Lo s (List.mem_of_mem_drop hs),?_,?_,f3.keep (Ex.cc _),((k1.trans k2).trans k3).trans (Ex.cc _).any⟩
 ·rw [List.length_append,List.length_append,List.length_take,List.length_drop];omega
 ·rw [af.pz,af.pz,Sw,af.T4.one_mul,<- af.pz,List.take_append_drop]
theorem EF {st:Store} {xs ys:List Int} {n:Nat} {w:List fH} (fl:lp n xs ys) (n0:0 < n) (hn:n<=20) {M k:Nat} (hM:M < 2 ^ k) (hk:k<=100) (hw:∀ s∈w,af.df s) (hl:(af.aH w).le M):Wp (qF [bK xs ys,gs (af.aH w)] st) fun d st'=>d=bK (af.lz n (af.gB (xs,ys) w)).1 (af.lz n (af.gB (xs,ys) w)).2/\Ex [] st st':=by
 have wh:=Lk fl
 refine eU ?_
 show Ws (Ep [some (bK xs ys),some (gs (af.aH w))] st) _ _ _ _
 unfold Ep
 refine dD ?_
 kspl_open hQ
 refine a6 (R9 hM hk hl (af.C3 hw)) ?_
 rintro d st1 ⟨u,rfl,Sx,Sv,eu,k1⟩
 have hu:∀ s∈u,af.df s:=fun s hs=>(Sx s hs).1
 refine a6 (RM (p:=(xs,ys)) ⟨fl.1,fl.2.1⟩ (by omega) (Hc hu) (by omega)) ?_
 rintro d st2 ⟨rfl,k2⟩
 rw [Hd]
 have wu:=wh.ld n0 (w:=u)
 refine a6 (Sj (xs:=(af.gB (xs,ys) u).1) (ys:=(af.gB (xs,ys) u).2) (B9 wu) n0 hn) ?_
 rintro d st3 ⟨rfl,k3⟩
 refine hQ _ _ ⟨?_,(k1.trans k2).trans k3⟩
 have e:af.lz n (af.gB (xs,ys) u)=af.lz n (af.gB (xs,ys) w):=af.F5 n0 wu.v (af.J0 hu hw eu wh.v)
 show bK (af.lz n (af.gB (xs,ys) u)).1 (af.lz n (af.gB (xs,ys) u)).2=_
 rw [e]
theorem Sy {st:Store} {Q:D->Store->Prop} {neg:Bool} {A B:af.T4}:Wp (gC neg (gs A) (gs B) st) Q↔Q (.bl (if neg then !decide ([A.a,A.b,A.c,A.d]=[B.a,B.b,B.c,B.d]) else decide ([A.a,A.b,A.c,A.d]=[B.a,B.b,B.c,B.d]))) st:=Pq (L:=[A.a,A.b,A.c,A.d]) (M:=[B.a,B.b,B.c,B.d])
theorem Lp {g:Int} (hg:g<=1000) {w:List fH} (h:∀ s∈w,nX g s):∀ s∈w,af.df s/\s.2.natAbs<=1000000:=fun s hs=>⟨Hb (h s hs),by have:=(h s hs).2.1;omega⟩
theorem qH (ns:List Int) (hn:ns.length<=63):Wp (GN [.ref 0] [.pd (ns.map D.int)]) fun d _=>d=.bl true:=by
 refine eU ?_
 show Ws (Er [some (.ref 0),none,none,none,none,none,none,none,none] [.pd (ns.map D.int)]) _ _ _ _
 unfold Er
 obtain ⟨m,hm,Tb⟩:∃ m:Nat,(if (if ((ns.map D.int).length:Int) < 4 then ((ns.map D.int).length:Int) else 4) > 2 then (if ((ns.map D.int).length:Int) < 4 then ((ns.map D.int).length:Int) else 4) else 2)=(m:Int)/\m<=4:=by
  by_cases h8:((ns.map D.int).length:Int) < 4
  ·rw [if_pos h8]
   by_cases h4:((ns.map D.int).length:Int) > 2
   ·rw [if_pos h4];exact ⟨(ns.map D.int).length,rfl,by omega⟩
   ·rw [if_neg h4];exact ⟨2,rfl,by omega⟩
  ·rw [if_neg h8];exact ⟨4,rfl,by omega⟩
 have Sz:items ([O.pd (ns.map D.int)]:Store) 0=some (ns.map D.int):=rfl
 refine bq (mh (aE 0 m) (fun i δ st=>∃ (v1 v2 v3 v4 v5 v6 v7 v8:Option D),δ=[some (.ref 0),v1,v2,v3,v4,v5,v6,v7,v8]/\st[0]?=some (.pd (ns.map D.int))) ?_ (by rw [gI];omega) ?_ ?_)
 ·refine b8 ?_
  intro dz hQ
  set_option simprocs false in simp only [bX,Sz,hm]
  exact ⟨by omega,hQ _ _ ⟨by rw [Int.toNat_natCast],none,none,none,none,none,none,none,none,rfl,rfl⟩⟩
 ·rintro i d δ st hd ⟨v1,v2,v3,v4,v5,v6,v7,v8,rfl,h0⟩
  have hil:=iQ hd
  rw [gI] at hil
  rw [Dh hil,Int.zero_add] at hd
  cases hd
  refine b8 ?_
  intro dz hQ
  w_how
  refine hQ _ _ (bq (b7 ?_))
  clear hQ
  refine b8 ?_
  intro dz hQ
  w_how
  refine a6 (Rf (a:=0) (ns:=ns) (k:=i) (OW h0) (by omega)) ?_
  rintro d st2 ⟨rfl,f2,k2⟩
  generalize hF:st.length=ff at f2 ⊢
  have Tc:0 < ff:=by rw [<- hF];exact iQ h0
  have h02:=k2.keep _ _ h0 (by simp)
  refine hQ _ _ (bq (b7 ?_))
  clear hQ
  refine b8 ?_
  intro dz hQ
  w_how
  refine a6 (RN (most:=7) (great:=6) f2 (by decide) (by decide) (by decide) (by decide)) ?_
  rintro d st3 ⟨w,rfl,hw,hwl,f3,k3⟩
  refine hQ _ _ (bq (b7 ?_))
  clear hQ
  refine b8 ?_
  intro dz hQ
  w_how
  refine a6 (Sr f3 hw (by omega)) ?_
  rintro d ky ⟨v,rfl,hv,hvl,Lq,f4,k4⟩
  refine hQ _ _ (bq (b7 ?_))
  clear hQ
  refine b8 ?_
  intro dz hQ
  w_how
  refine a6 (RE (most:=6) f4 (by decide) (by decide)) ?_
  rintro d jA ⟨n,xs,ys,rfl,fl,n1,n6,f5,k5⟩
  have n0:0 < n:=by omega
  have oy:n<=20:=by omega
  have wh:=Lk fl
  have pw:∀ s∈w,af.df s:=fun s hs=>Hb (hw s hs)
  have pv:∀ s∈v,af.df s:=fun s hs=>Hb (hv s hs)
  have hle:(af.aH w).le (P2 36):=B7 (af.JK (B:=6) (n:=7) (fun s hs=>⟨pw s hs,by have:=(hw s hs).2.1;omega⟩) (by omega)) (by decide)
  have EG:P2 36 < 2 ^ 37:=by decide
  refine hQ _ _ (bq (b7 ?_))
  clear hQ
  refine b8 ?_
  intro dz hQ
  w_how
  refine a6 (Ld (Lp (by decide) hw) (by omega)) ?_
  rintro d Dj ⟨rfl,k6⟩
  refine hQ _ _ (bq (b7 ?_))
  clear hQ
  refine b8 ?_
  intro dz hQ
  w_how
  refine a6 (K8 (p:=(xs,ys)) ⟨fl.1,fl.2.1⟩ (by omega) (Hc pw) (by omega)) ?_
  rintro d oG ⟨rfl,k7⟩
  rw [Hd]
  have wA:=wh.ld n0 (w:=w)
  have wB:=wh.ld n0 (w:=v)
  refine a6 (Ha (xs:=(af.gB (xs,ys) w).1) (ys:=(af.gB (xs,ys) w).2) (B9 wA) n0 oy) ?_
  rintro d j7 ⟨rfl,k8⟩
  have eF:af.lz n (af.gB (xs,ys) v)=af.lz n (af.gB (xs,ys) w):=af.F5 n0 wB.v (af.J0 pv pw Lq wh.v)
  have wF:=Ll wA n0 (xr wA n0)
  show dz (bK (af.lz n (af.gB (xs,ys) w)).1 (af.lz n (af.gB (xs,ys) w)).2) j7
  generalize He:af.lz n (af.gB (xs,ys) w)=F at eF wF ⊢
  have hok:Dn [F.1,F.2]:=GB wF.v.1 wF.v.2 (by omega)
  refine hQ _ _ (bq (jJ ?_))
  clear hQ
  refine b8 ?_
  intro dz hQ
  w_how
  refine a6 (Ld (Lp (by decide) hv) (by omega)) ?_
  rintro d nV ⟨rfl,k9⟩
  rw [Lq,Sy,if_pos rfl,decide_eq_true rfl]
  refine ⟨_,rfl,?_⟩
  rw [if_neg (by decide)]
  refine a6 (K8 (p:=(xs,ys)) ⟨fl.1,fl.2.1⟩ (by omega) (Hc pv) (by omega)) ?_
  rintro d SA ⟨rfl,Lr⟩
  rw [Hd]
  refine a6 (Ha (xs:=(af.gB (xs,ys) v).1) (ys:=(af.gB (xs,ys) v).2) (B9 wB) n0 oy) ?_
  rintro d Hf ⟨rfl,Ls⟩
  show Wp (gC true (bK (af.lz n (af.gB (xs,ys) v)).1 (af.lz n (af.gB (xs,ys) v)).2) (bK F.1 F.2) Hf) _
  rw [eF,Dq,if_pos rfl,decide_eq_true rfl]
  refine ⟨_,rfl,hQ _ _ ⟨fun z=>absurd z (by decide),fun _=>ll (bq (b7 ?_))⟩⟩
  clear hQ
  have SD:=f5.keep (((((k6.trans k7).trans k8).trans k9).trans Lr).trans Ls)
  unfold bK
  refine b8 ?_
  intro dz hQ
  w_how
  rw [List.length_map,fl.1.length]
  refine a6 (Et (n:=n) SD (by omega)) ?_
  rintro d Hg ⟨q,rfl,tq,Td,SE⟩
  refine a6 (K4 fl.1 fl.2.1 tq (by omega)) ?_
  rintro d SF ⟨rfl,SG⟩
  have aQ:af.bN n (xs,ys) (af.anew xs q,af.anew ys q):=⟨q,tq,rfl⟩
  have wQ:=Ll wh n0 aQ
  have eQ:af.lz n (af.gB (af.anew xs q,af.anew ys q) w)=F:=by
   rw [<- He]
   exact (af.F5 n0 wA.v (af.bN.ld (w:=w) wh.v aQ)).symm
  refine hQ _ _ (bq (jJ ?_))
  clear hQ
  refine b8 ?_
  intro dz hQ
  w_how
  refine a6 (EF (w:=w) fl n0 oy EG (by decide) pw hle) ?_
  rintro d Cb ⟨rfl,SH⟩
  rw [He]
  show Wp (iM [bK F.1 F.2] Cb) _
  set_option simprocs false in simp only [bX,KA hok]
  show Wp (iM [bK F.1 F.2] Cb) _
  set_option simprocs false in simp only [bX,KA hok]
  simp only [decide_true,Bool.not_true,if_true,if_false,Bool.false_eq_true]
  refine a6 (EF (xs:=af.anew xs q) (ys:=af.anew ys q) (w:=w) (B9 wQ) n0 oy EG (by decide) pw hle) ?_
  rintro d Hh ⟨rfl,SI⟩
  show Wp (gC true (bK (af.lz n (af.gB (af.anew xs q,af.anew ys q) w)).1 (af.lz n (af.gB (af.anew xs q,af.anew ys q) w)).2) (bK F.1 F.2) Hh) _
  rw [eQ,Dq,if_pos rfl,decide_eq_true rfl]
  refine ⟨_,rfl,hQ _ _ ⟨fun z=>absurd z (by decide),fun _=>ll (jJ ?_)⟩⟩
  clear hQ
  refine b8 ?_
  intro dz hQ
  w_how
  refine ⟨rfl,?_⟩
  refine a6 (EF (w:=[]) fl n0 oy EG (by decide) (fun s hs=>nomatch hs) ⟨by decide,by decide,by decide,by decide⟩) ?_
  rintro d SJ ⟨rfl,SK⟩
  refine a6 (Ha fl n0 oy) ?_
  rintro d SM ⟨rfl,SN⟩
  rw [show af.gB (xs,ys) []=(xs,ys) from rfl,Dq,if_pos rfl,decide_eq_true rfl]
  refine ⟨_,rfl,?_⟩
  rw [if_neg (by decide)]
  refine a6 (EF (w:=w) fl n0 oy EG (by decide) pw hle) ?_
  rintro d Hi ⟨rfl,SO⟩
  rw [He]
  show Wp (gC true (bK F.1 F.2) (bK F.1 F.2) Hi) _
  rw [Dq,if_pos rfl,decide_eq_true rfl]
  refine ⟨_,rfl,hQ _ _ ⟨fun z=>absurd z (by decide),fun _=>ll ⟨_,_,_,_,_,_,_,_,rfl,?_⟩⟩⟩
  have kA:Ex [ff] st2 Hg:=(((k3.trans k4).trans k5).trans (((((k6.trans k7).trans k8).trans k9).trans Lr).trans Ls).any).trans SE
  exact (((((SG.trans SH).trans SI).trans SK).trans SN).trans SO).keep _ _ (kA.keep _ _ h02 (by simp;omega)) (by simp)
 ·rintro δ s ⟨v1,v2,v3,v4,v5,v6,v7,v8,rfl,h0⟩
  refine dD ?_
  refine b8 ?_
  intro dz hQ
  w_how
  exact hQ _ _ rfl
theorem xt {P:Program} {w:World} {K:PySem.W.Frag} {mg:Str->Option Value} {base:Heap} (T:Txt mg) {lU:V} (kg:pR K mg "QUARTER" lU (.tup [(.int 0),(.int (-1)),(.int 1),(.int 0)])) {iT:V} (d7:pR K mg "UNMOVED" iT (.tup [(.int 1),(.int 0),(.int 0),(.int 1)])) {h9:Addr} {ia:FuncData} (dQ:Def K mg "_law_feed" AF ["_law_script","_law_k"] h9 ia) {aW:Addr} {aX:FuncData} (aj:Def K mg "_law_take" se ["_law_feed_here","_law_many"] aW aX) {ib:Addr} {ic:FuncData} (dR:Def K mg "_law_word" AH ["_law_feed_here","_law_most","_law_great"] ib ic) {eR:Addr} {eT:FuncData} (cQ:Def K mg "_law_longer" AJ ["_law_feed_here","_law_word_here"] eR eT) {cY:Addr} {cZ:FuncData} (bJ:Def K mg "_law_anew" x6 ["_law_floor_here","_law_p"] cY cZ) {a8:Addr} {a9:FuncData} (aG:Def K mg "_law_turning" w8 ["_law_feed_here","_law_n"] a8 a9) {jk:Addr} {jl:FuncData} (cK:Def K mg "_law_met" AL ["_law_floor_here"] jk jl) {fJ:Addr} {fK:FuncData} (c5:Def K mg "_law_floor" AR ["_law_feed_here","_law_n"] fJ fK) {fT:Addr} {fU:FuncData} (de:Def K mg "_law_drawn" AV ["_law_feed_here","_law_most"] fT fU) {fL:Addr} {fM:FuncData} (c6:Def K mg "_law_times" AX ["_law_one","_law_other"] fL fM) {fV:Addr} {fW:FuncData} (bP:Def K mg "_law_table" AY ["_law_word_here"] fV fW) {dj:Addr} {dk:FuncData} (bT:Def K mg "_law_numbered" A0 ["_law_floor_here","_law_s"] dj dk) {ig:Addr} {ik:FuncData} (bF:Def K mg "_law_form" A1 ["_law_floor_here"] ig ik) {eG:Addr} {eI:FuncData} (cL:Def K mg "_law_behind" A3 ["_law_turning_here","_law_s","_law_k"] eG eI) {dW:Addr} {dX:FuncData} (cj:Def K mg "_law_stepped" A4 ["_law_floor_here","_law_step"] dW dX) {jx:Addr} {jy:FuncData} (cR:Def K mg "_law_led" A5 ["_law_floor_here","_law_word_here"] jx jy) {bu:Addr} {bw:FuncData} (aO:Def K mg "turned_back" xf ["turning"] bu bw) {dG:Addr} {dH:FuncData} (aT:Def K mg "followed" yb ["one","other"] dG dH) {eJ:Addr} {eK:FuncData} (cN:Def K mg "called_anew" A7 ["floor","p"] eJ eK) {dY:Addr} {dZ:FuncData} (ck:Def K mg "squares_from" A9 ["floor","s"] dY dZ) {cW:Addr} {cX:FuncData} (bO:Def K mg "numbering_from" Bb ["floor","s"] cW cX) {dm:Addr} {dn:FuncData} (bU:Def K mg "numbered_from" Bd ["floor","s"] dm dn) {kj:Addr} {kl:FuncData} (gF:Def K mg "form_of" Bf ["floor"] kj kl) {gT:Addr} {gU:FuncData} (dI:Def K mg "ring_from" Bh ["turning","first"] gT gU) {jn:Addr} {jo:FuncData} (eW:Def K mg "rings_of" Bj ["turning"] jn jo) {nt:Addr} {nu:FuncData} (kN:Def K mg "often" Bl ["turning","k"] nt nu) {ke:Addr} {kf:FuncData} (gD:Def K mg "sheared" Bo ["floor","k"] ke kf) {gW:Addr} {gX:FuncData} (dJ:Def K mg "quartered" Bq ["floor"] gW gX) {eM:Addr} {eN:FuncData} (cO:Def K mg "led_by_step" Bs ["floor","step"] eM eN) {lF:Addr} {lG:FuncData} (jw:Def K mg "led_by" Bu ["floor","word"] lF lG) {jq:Addr} {jr:FuncData} (eX:Def K mg "led_pair" Bw ["table","pair"] jq jr) {g5:Addr} {g7:FuncData} (cx:Def K mg "shears" ye ["k"] g5 g7) {f9:Addr} {gb:FuncData} (cU:Def K mg "times" xg ["one","other"] f9 gb) {fN:Addr} {fO:FuncData} (c7:Def K mg "step_table" By ["step"] fN fO) {dM:Addr} {dN:FuncData} (bW:Def K mg "table_of" yf ["word"] dM dN) {kh:Addr} {ki:FuncData} (gE:Def K mg "nearest" BA ["number","divisor"] kh ki) {eO:Addr} {eP:FuncData} (cP:Def K mg "level_steps" BD ["pair"] eO eP) {lD:Addr} {lE:FuncData} (jt:Def K mg "joined" BF ["one","other"] lD lE) {fP:Addr} {fQ:FuncData} (c9:Def K mg "made_plain" BH ["word"] fP fQ) {d0:Addr} {d3:FuncData} (cm:Def K mg "put_together" BK ["one","other"] d0 d3) {ju:Addr} {jv:FuncData} (eZ:Def K mg "is_table" BM ["thing"] ju jv) {fR:Addr} {fS:FuncData} (dc:Def K mg "level_word" BO ["table"] fR fS) {g9:Addr} {hJ:FuncData} (dO:Def K mg "back_step" BQ ["step"] g9 hJ) {hV:Addr} {hW:FuncData} (dP:Def K mg "back_word" BS ["word"] hV hW) {km:Addr} {kn:FuncData} (gG:Def K mg "word_of" BV ["table"] km kn) {d4:Addr} {d5:FuncData} (aN:Def K mg "led_by_table" BW ["floor","table"] d4 d5) {Cc:Addr} {Cd:FuncData} (Hj:Def K mg "law" Es ["_law_script"] Cc Cd):aD P w K mg base bh 8 Cc Cd ["_law_script"] (bj K 1 GN):=by
 have jQ:=P6 (P:=P) (w:=w) (base:=base) dQ T
 have aL:=P7 (P:=P) (w:=w) (base:=base) aj T
 have jR:=P8 (P:=P) (w:=w) (base:=base) dR T  aj aL
 have ie:=P9 (P:=P) (w:=w) (base:=base) cQ T  aj aL
 have dF:=Qb (P:=P) (w:=w) (base:=base) bJ T
 have bg:=Qc (P:=P) (w:=w) (base:=base) aG T  aj aL
 have jm:=Qd (P:=P) (w:=w) (base:=base) cK T
 have iR:=Qe (P:=P) (w:=w) (base:=base) c5 T  aj aL aG bg cK jm
 have iY:=Qf (P:=P) (w:=w) (base:=base) de T  bJ dF aj aL c5 iR aG bg
 have iS:=Qg (P:=P) (w:=w) (base:=base) c6 T
 have fX:=Qh (P:=P) (w:=w) (base:=base) bP T  c6 iS
 have fw:=Qi (P:=P) (w:=w) (base:=base) bT T
 have fA:=Qk (P:=P) (w:=w) (base:=base) bF T  bT fw
 have gR:=Ql (P:=P) (w:=w) (base:=base) cL T
 have fZ:=Qm (P:=P) (w:=w) (base:=base) cj T  cL gR
 have jz:=Qn (P:=P) (w:=w) (base:=base) cR T  cj fZ
 have bH:=Qo (P:=P) (w:=w) (base:=base) aO T
 have cM:=Qq (P:=P) (w:=w) (base:=base) aT T
 have gS:=Qr (P:=P) (w:=w) (base:=base) cN T  aO bH aT cM
 have f6:=Qs (P:=P) (w:=w) (base:=base) ck T
 have ef:=Qv (P:=P) (w:=w) (base:=base) bO T  aO bH ck f6
 have fz:=Qx (P:=P) (w:=w) (base:=base) bU T  cN gS bO ef
 have lW:=Qz (P:=P) (w:=w) (base:=base) gF T  bU fz
 have jM:=QA (P:=P) (w:=w) (base:=base) dI T
 have kM:=QB (P:=P) (w:=w) (base:=base) eW T  dI jM
 have ot:=QC (P:=P) (w:=w) (base:=base) kN T  eW kM
 have lT:=QE (P:=P) (w:=w) (base:=base) gD T  aT cM kN ot
 have jN:=QG (P:=P) (w:=w) (base:=base) dJ T  aO bH
 have gY:=QH (P:=P) (w:=w) (base:=base) cO T  gD lT dJ jN
 have nz:=QI (P:=P) (w:=w) (base:=base) jw T  cO gY
 have kO:=QK (P:=P) (w:=w) (base:=base) eX T
 have g8:=QM (P:=P) (w:=w) (base:=base) cx T
 have gZ:=QO (P:=P) (w:=w) (base:=base) cU T
 have iU:=QP (P:=P) (w:=w) (base:=base) c7 T kg d7 cU gZ
 have eY:=QQ (P:=P) (w:=w) (base:=base) bW T d7 cU gZ c7 iU
 have lV:=QS (P:=P) (w:=w) (base:=base) gE T
 have hU:=QT (P:=P) (w:=w) (base:=base) cP T  eX kO cx g8 bW eY gE lV
 have ny:=QU (P:=P) (w:=w) (base:=base) jt T
 have iW:=QV (P:=P) (w:=w) (base:=base) c9 T  jt ny
 have gf:=QX (P:=P) (w:=w) (base:=base) cm T  c9 iW
 have kP:=QZ (P:=P) (w:=w) (base:=base) eZ T
 have iX:=Q5 (P:=P) (w:=w) (base:=base) dc T  cx g8
 have jO:=Q7 (P:=P) (w:=w) (base:=base) dO T
 have jP:=Q9 (P:=P) (w:=w) (base:=base) dP T  dO jO
 have lX:=Ra (P:=P) (w:=w) (base:=base) gG T  cP hU cm gf eZ kP dc iX dP jP cU gZ bW eY
 have cn:=Rc (P:=P) (w:=w) (base:=base) aN T  gF lW jw nz gG lX
 have Hk:=xh (P:=P) (w:=w) (base:=base) Hj T  dQ jQ dR jR cQ ie de iY bP fX bF fA bJ dF cR jz aG bg aN cn
 exact Hk
end My
open PySem PySem.W PyProof.Rows L2
theorem PySem.W.Fast.tw4533893158120248037:True:=trivial
theorem PySem.W.Fast.tw15167777480767263349:True:=trivial
theorem PySem.W.Fast.tw10244922335849887579:True:=trivial
theorem PySem.W.Fast.tw5781452280398266749:True:=trivial
theorem PySem.W.Fast.tw57402538975885687:True:=trivial
theorem PySem.W.Fast.tw11597913295263462705:True:=trivial
theorem PySem.W.Fast.tw16588935111329928804:True:=trivial
theorem PySem.W.Fast.tw18303545195685250522:True:=trivial
theorem PySem.W.Fast.tw13274691905097385353:True:=trivial
theorem PySem.W.Fast.tw14456797447454167890:True:=trivial
theorem PySem.W.Fast.tw14149212136131994931:True:=trivial
theorem PySem.W.Fast.tw5686123375201740984:True:=trivial
theorem PySem.W.Fast.tw13930796178331879513:True:=trivial
theorem PySem.W.Fast.tw9163017374765099434:True:=trivial
theorem PySem.W.Fast.tw6183228457572176753:True:=trivial
theorem PySem.W.Fast.tw15332389251282622617:True:=trivial
theorem PySem.W.Fast.tw8088342176839201848:True:=trivial
theorem PySem.W.Fast.tw15485063837692337512:True:=trivial
theorem PySem.W.Fast.tw9576274845358309881:True:=trivial
theorem PySem.W.Fast.tw6846622660614575396:True:=trivial
theorem PySem.W.Fast.tw2163545053214387809:True:=trivial
theorem PySem.W.Fast.tw17234615073609863511:True:=trivial
theorem PySem.W.Fast.tw10437827795970564434:True:=trivial
theorem PySem.W.Fast.tw13444545491603336598:True:=trivial
theorem PySem.W.Fast.tw1015511674831122464:True:=trivial
theorem PySem.W.Fast.tw13220653985073976038:True:=trivial
theorem PySem.W.Fast.tw202247663233992919:True:=trivial
theorem PySem.W.Fast.tw211349443274558882:True:=trivial
theorem PySem.W.Fast.tw272604443384099514:True:=trivial
theorem PySem.W.Fast.tw4864241807353898588:True:=trivial
theorem PySem.W.Fast.tw913483382911057944:True:=trivial
theorem PySem.W.Fast.tw10889277844746687772:True:=trivial
theorem PySem.W.Fast.tw6678280806921005743:True:=trivial
theorem PySem.W.Fast.tw10992066290878094284:True:=trivial
theorem PySem.W.Fast.tw7671020442969310068:True:=trivial
theorem PySem.W.Fast.tw9498175368839714189:True:=trivial
theorem PySem.W.Fast.tw15563268179507124501:True:=trivial
theorem PySem.W.Fast.tw1041899122667895355:True:=trivial
theorem PySem.W.Fast.tw16384782535865397724:True:=trivial
theorem PySem.W.Fast.tw4793195483199448797:True:=trivial
theorem PySem.W.Fast.tw9371352867800065844:True:=trivial
theorem PySem.W.Fast.tw18173922362431450961:True:=trivial
theorem PySem.W.Fast.tw18119489341178591773:True:=trivial
theorem PySem.W.Fast.tw7341363278177353490:True:=trivial
theorem PySem.W.Fast.tw6419055058394781501:True:=trivial
theorem PySem.W.Fast.tw8149362276672642237:True:=trivial
theorem PySem.W.Fast.tw16896159276631774865:True:=trivial
theorem PySem.W.Fast.tw15068658227801406425:True:=trivial
theorem PySem.W.Fast.tw8581735784305817566:True:=trivial
theorem PySem.W.Fast.tw7637806878466628985:True:=trivial
theorem PySem.W.Fast.tw15804813610001877543:True:=trivial
theorem PySem.W.Fast.tw10819890128646813004:True:=trivial
theorem PySem.W.Fast.tw5887006177123199508:True:=trivial
theorem PySem.W.Fast.tw2617295659773634223:True:=trivial
theorem PySem.W.Fast.tw15998595408956694546:True:=trivial
theorem PySem.W.Fast.tw1705797729158027894:True:=trivial
theorem PySem.W.Fast.tw4996494062337873234:True:=trivial
theorem PySem.W.Fast.tw13107000023486656031:True:=trivial
theorem PySem.W.Fast.tw12475961397314716262:True:=trivial
theorem PySem.W.Fast.tw15890805285160781555:True:=trivial
theorem PySem.W.Fast.tw6146319913099871639:True:=trivial
theorem PySem.W.Fast.tw4024184125653981212:True:=trivial
theorem PySem.W.Fast.tw7112178020389177426:True:=trivial
theorem PySem.W.Fast.tw10224100300339762254:True:=trivial
theorem PySem.W.Fast.tw6505681981424152163:True:=trivial
theorem PySem.W.Fast.tw15864685690171442160:True:=trivial
theorem PySem.W.Fast.tw13422624065644019115:True:=trivial
theorem PySem.W.Fast.tw17819833876850289521:True:=trivial
theorem PySem.W.Fast.tw7823665020228240517:True:=trivial
theorem PySem.W.Fast.tw10157088645831362956:True:=trivial
theorem PySem.W.Fast.tw16915220893753860645:True:=trivial
theorem PySem.W.Fast.tw4143078584560314622:True:=trivial
theorem PySem.W.Fast.tw6185415744033816670:True:=trivial
theorem PySem.W.Fast.tw7722282210489006340:True:=trivial
theorem PySem.W.Fast.tw9497225677601415913:True:=trivial
set_option maxRecDepth 100000 in
set_option maxHeartbeats 0 in
theorem PySem.Challenge.cw_shearfloor_k22_led_by_tables_holds : PySem.Challenge.rw_shearfloor_k22_led_by_tables.Holds := by
 w_on;o_law;k_head;(case hw=>w_witness2)
 k_fill
 refine L2.Ml (l:=PySem.Challenge.rw_shearfloor_k22_led_by_tables) (n:=63) (k:=8) (x:="_law_script") (CX:=bh) (sp:=L4.t6) rfl (by decide) rfl ⟨rfl,by decide,by decide,rfl⟩ (fun w h Y=>PySem.W.kIn_of Y) ?F ?S ?C
 case F =>
  intro w mg fa h KX G hmg
  have T:My.Txt mg:=by
   refine' ⟨qQ KX G ?z0,qQ KX G ?z1,qQ KX G ?z2,qQ KX G ?z3,qQ KX G ?z4,qQ KX G ?z5,qQ KX G ?z6,qQ KX G ?z7,qQ KX G ?z8,qQ KX G ?z9⟩
   (case z0=>k_is);(case z1=>k_is);(case z2=>k_is);(case z3=>k_is);(case z4=>k_is);(case z5=>k_is);(case z6=>k_is);(case z7=>k_is);(case z8=>k_is);(case z9=>k_is)
  have kQ:∃ v,L4.pR (L2.KOf KX) mg "QUARTER" v (.tup [(.int 0),(.int (-1)),(.int 1),(.int 0)]):=by
   dsimp only [L2.KOf];refine' L4.KI (vs:=[V.int 0,V.int (-1),V.int 1,V.int 0]) KX G ?a ?l ?o ?z ?v ?d
   (case a=>k_is);(case l=>k_is);(case o=>rfl);(case z=>decide);(case v=>exact (.cons ⟨_,rfl⟩ (.cons ⟨_,rfl⟩ (.cons ⟨_,rfl⟩ (.cons ⟨_,rfl⟩ .nil)))));(case d=>exact fun ρ H=>(.cons (.int _) (.cons (.int _) (.cons (.int _) (.cons (.int _) .nil)))))
  obtain ⟨_,kQ⟩:=kQ
  have kR:∃ v,L4.pR (L2.KOf KX) mg "UNMOVED" v (.tup [(.int 1),(.int 0),(.int 0),(.int 1)]):=by
   dsimp only [L2.KOf];refine' L4.KI (vs:=[V.int 1,V.int 0,V.int 0,V.int 1]) KX G ?a ?l ?o ?z ?v ?d
   (case a=>k_is);(case l=>k_is);(case o=>rfl);(case z=>decide);(case v=>exact (.cons ⟨_,rfl⟩ (.cons ⟨_,rfl⟩ (.cons ⟨_,rfl⟩ (.cons ⟨_,rfl⟩ .nil)))));(case d=>exact fun ρ H=>(.cons (.int _) (.cons (.int _) (.cons (.int _) (.cons (.int _) .nil)))))
  obtain ⟨_,kR⟩:=kR
  have i3:∃ f fd,Def (L2.KOf KX) mg "_law_feed" My.AF ["_law_script","_law_k"] f fd:=by
   dsimp only [L2.KOf];refine' fg KX G (fun _ _ _ _ _ _ us hl=>match us,hl with | [_,_],_=>rfl) ?a ?l ?c ?k
   (case a=>k_is);(case l=>k_is);(case c=>k_is);(case k=>k_is)
  obtain ⟨_,_,i3⟩:=i3
  have i5:∃ f fd,Def (L2.KOf KX) mg "_law_take" My.se ["_law_feed_here","_law_many"] f fd:=by
   dsimp only [L2.KOf];refine' fg KX G (fun _ _ _ _ _ _ us hl=>match us,hl with | [_,_],_=>rfl) ?a ?l ?c ?k
   (case a=>k_is);(case l=>k_is);(case c=>k_is);(case k=>k_is)
  obtain ⟨_,_,i5⟩:=i5
  have i6:∃ f fd,Def (L2.KOf KX) mg "_law_word" My.AH ["_law_feed_here","_law_most","_law_great"] f fd:=by
   dsimp only [L2.KOf];refine' fg KX G (fun _ _ _ _ _ _ us hl=>match us,hl with | [_,_,_],_=>rfl) ?a ?l ?c ?k
   (case a=>k_is);(case l=>k_is);(case c=>k_is);(case k=>k_is)
  obtain ⟨_,_,i6⟩:=i6
  have gg:∃ f fd,Def (L2.KOf KX) mg "_law_longer" My.AJ ["_law_feed_here","_law_word_here"] f fd:=by
   dsimp only [L2.KOf];refine' fg KX G (fun _ _ _ _ _ _ us hl=>match us,hl with | [_,_],_=>rfl) ?a ?l ?c ?k
   (case a=>k_is);(case l=>k_is);(case c=>k_is);(case k=>k_is)
  obtain ⟨_,_,gg⟩:=gg
  have i7:∃ f fd,Def (L2.KOf KX) mg "_law_anew" My.x6 ["_law_floor_here","_law_p"] f fd:=by
   dsimp only [L2.KOf];refine' fg KX G (fun _ _ _ _ _ _ us hl=>match us,hl with | [_,_],_=>rfl) ?a ?l ?c ?k
   (case a=>k_is);(case l=>k_is);(case c=>k_is);(case k=>k_is)
  obtain ⟨_,_,i7⟩:=i7
  have fB:∃ f fd,Def (L2.KOf KX) mg "_law_turning" My.w8 ["_law_feed_here","_law_n"] f fd:=by
   dsimp only [L2.KOf];refine' fg KX G (fun _ _ _ _ _ _ us hl=>match us,hl with | [_,_],_=>rfl) ?a ?l ?c ?k
   (case a=>k_is);(case l=>k_is);(case c=>k_is);(case k=>k_is)
  obtain ⟨_,_,fB⟩:=fB
  have jS:∃ f fd,Def (L2.KOf KX) mg "_law_met" My.AL ["_law_floor_here"] f fd:=by
   dsimp only [L2.KOf];refine' fg KX G (fun _ _ _ _ _ _ us hl=>match us,hl with | [_],_=>rfl) ?a ?l ?c ?k
   (case a=>k_is);(case l=>k_is);(case c=>k_is);(case k=>k_is)
  obtain ⟨_,_,jS⟩:=jS
  have il:∃ f fd,Def (L2.KOf KX) mg "_law_floor" My.AR ["_law_feed_here","_law_n"] f fd:=by
   dsimp only [L2.KOf];refine' fg KX G (fun _ _ _ _ _ _ us hl=>match us,hl with | [_,_],_=>rfl) ?a ?l ?c ?k
   (case a=>k_is);(case l=>k_is);(case c=>k_is);(case k=>k_is)
  obtain ⟨_,_,il⟩:=il
  have ip:∃ f fd,Def (L2.KOf KX) mg "_law_drawn" My.AV ["_law_feed_here","_law_most"] f fd:=by
   dsimp only [L2.KOf];refine' fg KX G (fun _ _ _ _ _ _ us hl=>match us,hl with | [_,_],_=>rfl) ?a ?l ?c ?k
   (case a=>k_is);(case l=>k_is);(case c=>k_is);(case k=>k_is)
  obtain ⟨_,_,ip⟩:=ip
  have iq:∃ f fd,Def (L2.KOf KX) mg "_law_times" My.AX ["_law_one","_law_other"] f fd:=by
   dsimp only [L2.KOf];refine' fg KX G (fun _ _ _ _ _ _ us hl=>match us,hl with | [_,_],_=>rfl) ?a ?l ?c ?k
   (case a=>k_is);(case l=>k_is);(case c=>k_is);(case k=>k_is)
  obtain ⟨_,_,iq⟩:=iq
  have iu:∃ f fd,Def (L2.KOf KX) mg "_law_table" My.AY ["_law_word_here"] f fd:=by
   dsimp only [L2.KOf];refine' fg KX G (fun _ _ _ _ _ _ us hl=>match us,hl with | [_],_=>rfl) ?a ?l ?c ?k
   (case a=>k_is);(case l=>k_is);(case c=>k_is);(case k=>k_is)
  obtain ⟨_,_,iu⟩:=iu
  have eh:∃ f fd,Def (L2.KOf KX) mg "_law_numbered" My.A0 ["_law_floor_here","_law_s"] f fd:=by
   dsimp only [L2.KOf];refine' fg KX G (fun _ _ _ _ _ _ us hl=>match us,hl with | [_,_],_=>rfl) ?a ?l ?c ?k
   (case a=>k_is);(case l=>k_is);(case c=>k_is);(case k=>k_is)
  obtain ⟨_,_,eh⟩:=eh
  have i9:∃ f fd,Def (L2.KOf KX) mg "_law_form" My.A1 ["_law_floor_here"] f fd:=by
   dsimp only [L2.KOf];refine' fg KX G (fun _ _ _ _ _ _ us hl=>match us,hl with | [_],_=>rfl) ?a ?l ?c ?k
   (case a=>k_is);(case l=>k_is);(case c=>k_is);(case k=>k_is)
  obtain ⟨_,_,i9⟩:=i9
  have gh:∃ f fd,Def (L2.KOf KX) mg "_law_behind" My.A3 ["_law_turning_here","_law_s","_law_k"] f fd:=by
   dsimp only [L2.KOf];refine' fg KX G (fun _ _ _ _ _ _ us hl=>match us,hl with | [_,_,_],_=>rfl) ?a ?l ?c ?k
   (case a=>k_is);(case l=>k_is);(case c=>k_is);(case k=>k_is)
  obtain ⟨_,_,gh⟩:=gh
  have fD:∃ f fd,Def (L2.KOf KX) mg "_law_stepped" My.A4 ["_law_floor_here","_law_step"] f fd:=by
   dsimp only [L2.KOf];refine' fg KX G (fun _ _ _ _ _ _ us hl=>match us,hl with | [_,_],_=>rfl) ?a ?l ?c ?k
   (case a=>k_is);(case l=>k_is);(case c=>k_is);(case k=>k_is)
  obtain ⟨_,_,fD⟩:=fD
  have jT:∃ f fd,Def (L2.KOf KX) mg "_law_led" My.A5 ["_law_floor_here","_law_word_here"] f fd:=by
   dsimp only [L2.KOf];refine' fg KX G (fun _ _ _ _ _ _ us hl=>match us,hl with | [_,_],_=>rfl) ?a ?l ?c ?k
   (case a=>k_is);(case l=>k_is);(case c=>k_is);(case k=>k_is)
  obtain ⟨_,_,jT⟩:=jT
  have gi:∃ f fd,Def (L2.KOf KX) mg "turned_back" My.xf ["turning"] f fd:=by
   dsimp only [L2.KOf];refine' fg KX G (fun _ _ _ _ _ _ us hl=>match us,hl with | [_],_=>rfl) ?a ?l ?c ?k
   (case a=>k_is);(case l=>k_is);(case c=>k_is);(case k=>k_is)
  obtain ⟨_,_,gi⟩:=gi
  have jU:∃ f fd,Def (L2.KOf KX) mg "followed" My.yb ["one","other"] f fd:=by
   dsimp only [L2.KOf];refine' fg KX G (fun _ _ _ _ _ _ us hl=>match us,hl with | [_,_],_=>rfl) ?a ?l ?c ?k
   (case a=>k_is);(case l=>k_is);(case c=>k_is);(case k=>k_is)
  obtain ⟨_,_,jU⟩:=jU
  have gj:∃ f fd,Def (L2.KOf KX) mg "called_anew" My.A7 ["floor","p"] f fd:=by
   dsimp only [L2.KOf];refine' fg KX G (fun _ _ _ _ _ _ us hl=>match us,hl with | [_,_],_=>rfl) ?a ?l ?c ?k
   (case a=>k_is);(case l=>k_is);(case c=>k_is);(case k=>k_is)
  obtain ⟨_,_,gj⟩:=gj
  have fE:∃ f fd,Def (L2.KOf KX) mg "squares_from" My.A9 ["floor","s"] f fd:=by
   dsimp only [L2.KOf];refine' fg KX G (fun _ _ _ _ _ _ us hl=>match us,hl with | [_,_],_=>rfl) ?a ?l ?c ?k
   (case a=>k_is);(case l=>k_is);(case c=>k_is);(case k=>k_is)
  obtain ⟨_,_,fE⟩:=fE
  have dS:∃ f fd,Def (L2.KOf KX) mg "numbering_from" My.Bb ["floor","s"] f fd:=by
   dsimp only [L2.KOf];refine' fg KX G (fun _ _ _ _ _ _ us hl=>match us,hl with | [_,_],_=>rfl) ?a ?l ?c ?k
   (case a=>k_is);(case l=>k_is);(case c=>k_is);(case k=>k_is)
  obtain ⟨_,_,dS⟩:=dS
  have ek:∃ f fd,Def (L2.KOf KX) mg "numbered_from" My.Bd ["floor","s"] f fd:=by
   dsimp only [L2.KOf];refine' fg KX G (fun _ _ _ _ _ _ us hl=>match us,hl with | [_,_],_=>rfl) ?a ?l ?c ?k
   (case a=>k_is);(case l=>k_is);(case c=>k_is);(case k=>k_is)
  obtain ⟨_,_,ek⟩:=ek
  have kS:∃ f fd,Def (L2.KOf KX) mg "form_of" My.Bf ["floor"] f fd:=by
   dsimp only [L2.KOf];refine' fg KX G (fun _ _ _ _ _ _ us hl=>match us,hl with | [_],_=>rfl) ?a ?l ?c ?k
   (case a=>k_is);(case l=>k_is);(case c=>k_is);(case k=>k_is)
  obtain ⟨_,_,kS⟩:=kS
  have ja:∃ f fd,Def (L2.KOf KX) mg "ring_from" My.Bh ["turning","first"] f fd:=by
   dsimp only [L2.KOf];refine' fg KX G (fun _ _ _ _ _ _ us hl=>match us,hl with | [_,_],_=>rfl) ?a ?l ?c ?k
   (case a=>k_is);(case l=>k_is);(case c=>k_is);(case k=>k_is)
  obtain ⟨_,_,ja⟩:=ja
  have jV:∃ f fd,Def (L2.KOf KX) mg "rings_of" My.Bj ["turning"] f fd:=by
   dsimp only [L2.KOf];refine' fg KX G (fun _ _ _ _ _ _ us hl=>match us,hl with | [_],_=>rfl) ?a ?l ?c ?k
   (case a=>k_is);(case l=>k_is);(case c=>k_is);(case k=>k_is)
  obtain ⟨_,_,jV⟩:=jV
  have nB:∃ f fd,Def (L2.KOf KX) mg "often" My.Bl ["turning","k"] f fd:=by
   dsimp only [L2.KOf];refine' fg KX G (fun _ _ _ _ _ _ us hl=>match us,hl with | [_,_],_=>rfl) ?a ?l ?c ?k
   (case a=>k_is);(case l=>k_is);(case c=>k_is);(case k=>k_is)
  obtain ⟨_,_,nB⟩:=nB
  have kT:∃ f fd,Def (L2.KOf KX) mg "sheared" My.Bo ["floor","k"] f fd:=by
   dsimp only [L2.KOf];refine' fg KX G (fun _ _ _ _ _ _ us hl=>match us,hl with | [_,_],_=>rfl) ?a ?l ?c ?k
   (case a=>k_is);(case l=>k_is);(case c=>k_is);(case k=>k_is)
  obtain ⟨_,_,kT⟩:=kT
  have jb:∃ f fd,Def (L2.KOf KX) mg "quartered" My.Bq ["floor"] f fd:=by
   dsimp only [L2.KOf];refine' fg KX G (fun _ _ _ _ _ _ us hl=>match us,hl with | [_],_=>rfl) ?a ?l ?c ?k
   (case a=>k_is);(case l=>k_is);(case c=>k_is);(case k=>k_is)
  obtain ⟨_,_,jb⟩:=jb
  have gk:∃ f fd,Def (L2.KOf KX) mg "led_by_step" My.Bs ["floor","step"] f fd:=by
   dsimp only [L2.KOf];refine' fg KX G (fun _ _ _ _ _ _ us hl=>match us,hl with | [_,_],_=>rfl) ?a ?l ?c ?k
   (case a=>k_is);(case l=>k_is);(case c=>k_is);(case k=>k_is)
  obtain ⟨_,_,gk⟩:=gk
  have lY:∃ f fd,Def (L2.KOf KX) mg "led_by" My.Bu ["floor","word"] f fd:=by
   dsimp only [L2.KOf];refine' fg KX G (fun _ _ _ _ _ _ us hl=>match us,hl with | [_,_],_=>rfl) ?a ?l ?c ?k
   (case a=>k_is);(case l=>k_is);(case c=>k_is);(case k=>k_is)
  obtain ⟨_,_,lY⟩:=lY
  have jW:∃ f fd,Def (L2.KOf KX) mg "led_pair" My.Bw ["table","pair"] f fd:=by
   dsimp only [L2.KOf];refine' fg KX G (fun _ _ _ _ _ _ us hl=>match us,hl with | [_,_],_=>rfl) ?a ?l ?c ?k
   (case a=>k_is);(case l=>k_is);(case c=>k_is);(case k=>k_is)
  obtain ⟨_,_,jW⟩:=jW
  have lZ:∃ f fd,Def (L2.KOf KX) mg "shears" My.ye ["k"] f fd:=by
   dsimp only [L2.KOf];refine' fg KX G (fun _ _ _ _ _ _ us hl=>match us,hl with | [_],_=>rfl) ?a ?l ?c ?k
   (case a=>k_is);(case l=>k_is);(case c=>k_is);(case k=>k_is)
  obtain ⟨_,_,lZ⟩:=lZ
  have nC:∃ f fd,Def (L2.KOf KX) mg "times" My.xg ["one","other"] f fd:=by
   dsimp only [L2.KOf];refine' fg KX G (fun _ _ _ _ _ _ us hl=>match us,hl with | [_,_],_=>rfl) ?a ?l ?c ?k
   (case a=>k_is);(case l=>k_is);(case c=>k_is);(case k=>k_is)
  obtain ⟨_,_,nC⟩:=nC
  have iw:∃ f fd,Def (L2.KOf KX) mg "step_table" My.By ["step"] f fd:=by
   dsimp only [L2.KOf];refine' fg KX G (fun _ _ _ _ _ _ us hl=>match us,hl with | [_],_=>rfl) ?a ?l ?c ?k
   (case a=>k_is);(case l=>k_is);(case c=>k_is);(case k=>k_is)
  obtain ⟨_,_,iw⟩:=iw
  have jX:∃ f fd,Def (L2.KOf KX) mg "table_of" My.yf ["word"] f fd:=by
   dsimp only [L2.KOf];refine' fg KX G (fun _ _ _ _ _ _ us hl=>match us,hl with | [_],_=>rfl) ?a ?l ?c ?k
   (case a=>k_is);(case l=>k_is);(case c=>k_is);(case k=>k_is)
  obtain ⟨_,_,jX⟩:=jX
  have kU:∃ f fd,Def (L2.KOf KX) mg "nearest" My.BA ["number","divisor"] f fd:=by
   dsimp only [L2.KOf];refine' fg KX G (fun _ _ _ _ _ _ us hl=>match us,hl with | [_,_],_=>rfl) ?a ?l ?c ?k
   (case a=>k_is);(case l=>k_is);(case c=>k_is);(case k=>k_is)
  obtain ⟨_,_,kU⟩:=kU
  have gn:∃ f fd,Def (L2.KOf KX) mg "level_steps" My.BD ["pair"] f fd:=by
   dsimp only [L2.KOf];refine' fg KX G (fun _ _ _ _ _ _ us hl=>match us,hl with | [_],_=>rfl) ?a ?l ?c ?k
   (case a=>k_is);(case l=>k_is);(case c=>k_is);(case k=>k_is)
  obtain ⟨_,_,gn⟩:=gn
  have l6:∃ f fd,Def (L2.KOf KX) mg "joined" My.BF ["one","other"] f fd:=by
   dsimp only [L2.KOf];refine' fg KX G (fun _ _ _ _ _ _ us hl=>match us,hl with | [_,_],_=>rfl) ?a ?l ?c ?k
   (case a=>k_is);(case l=>k_is);(case c=>k_is);(case k=>k_is)
  obtain ⟨_,_,l6⟩:=l6
  have iy:∃ f fd,Def (L2.KOf KX) mg "made_plain" My.BH ["word"] f fd:=by
   dsimp only [L2.KOf];refine' fg KX G (fun _ _ _ _ _ _ us hl=>match us,hl with | [_],_=>rfl) ?a ?l ?c ?k
   (case a=>k_is);(case l=>k_is);(case c=>k_is);(case k=>k_is)
  obtain ⟨_,_,iy⟩:=iy
  have fF:∃ f fd,Def (L2.KOf KX) mg "put_together" My.BK ["one","other"] f fd:=by
   dsimp only [L2.KOf];refine' fg KX G (fun _ _ _ _ _ _ us hl=>match us,hl with | [_,_],_=>rfl) ?a ?l ?c ?k
   (case a=>k_is);(case l=>k_is);(case c=>k_is);(case k=>k_is)
  obtain ⟨_,_,fF⟩:=fF
  have jY:∃ f fd,Def (L2.KOf KX) mg "is_table" My.BM ["thing"] f fd:=by
   dsimp only [L2.KOf];refine' fg KX G (fun _ _ _ _ _ _ us hl=>match us,hl with | [_],_=>rfl) ?a ?l ?c ?k
   (case a=>k_is);(case l=>k_is);(case c=>k_is);(case k=>k_is)
  obtain ⟨_,_,jY⟩:=jY
  have iz:∃ f fd,Def (L2.KOf KX) mg "level_word" My.BO ["table"] f fd:=by
   dsimp only [L2.KOf];refine' fg KX G (fun _ _ _ _ _ _ us hl=>match us,hl with | [_],_=>rfl) ?a ?l ?c ?k
   (case a=>k_is);(case l=>k_is);(case c=>k_is);(case k=>k_is)
  obtain ⟨_,_,iz⟩:=iz
  have jc:∃ f fd,Def (L2.KOf KX) mg "back_step" My.BQ ["step"] f fd:=by
   dsimp only [L2.KOf];refine' fg KX G (fun _ _ _ _ _ _ us hl=>match us,hl with | [_],_=>rfl) ?a ?l ?c ?k
   (case a=>k_is);(case l=>k_is);(case c=>k_is);(case k=>k_is)
  obtain ⟨_,_,jc⟩:=jc
  have jd:∃ f fd,Def (L2.KOf KX) mg "back_word" My.BS ["word"] f fd:=by
   dsimp only [L2.KOf];refine' fg KX G (fun _ _ _ _ _ _ us hl=>match us,hl with | [_],_=>rfl) ?a ?l ?c ?k
   (case a=>k_is);(case l=>k_is);(case c=>k_is);(case k=>k_is)
  obtain ⟨_,_,jd⟩:=jd
  have kW:∃ f fd,Def (L2.KOf KX) mg "word_of" My.BV ["table"] f fd:=by
   dsimp only [L2.KOf];refine' fg KX G (fun _ _ _ _ _ _ us hl=>match us,hl with | [_],_=>rfl) ?a ?l ?c ?k
   (case a=>k_is);(case l=>k_is);(case c=>k_is);(case k=>k_is)
  obtain ⟨_,_,kW⟩:=kW
  have fG:∃ f fd,Def (L2.KOf KX) mg "led_by_table" My.BW ["floor","table"] f fd:=by
   dsimp only [L2.KOf];refine' fg KX G (fun _ _ _ _ _ _ us hl=>match us,hl with | [_,_],_=>rfl) ?a ?l ?c ?k
   (case a=>k_is);(case l=>k_is);(case c=>k_is);(case k=>k_is)
  obtain ⟨_,_,fG⟩:=fG
  have nY:∃ f fd,Def (L2.KOf KX) mg "law" My.Es ["_law_script"] f fd:=by
   dsimp only [L2.KOf];refine' fg KX G (fun _ _ _ _ _ _ us hl=>match us,hl with | [_],_=>rfl) ?a ?l ?c ?k
   (case a=>k_is);(case l=>k_is);(case c=>k_is);(case k=>k_is)
  obtain ⟨_,_,nY⟩:=nY
  have e0:=hmg.symm.trans nY.m
  cases e0
  exact ⟨_,nY.rF,fun base _ _=>L4.vP (My.xt T kQ kR i3 i5 i6 gg i7 fB jS il ip iq iu eh i9 gh fD jT gi jU gj fE dS ek kS ja jV nB kT jb gk lY jW lZ nC iw jX kU gn l6 iy fF jY iz jc jd kW fG nY) fun ns hn=>let ⟨_,st,e,h⟩:=My.qH ns hn;⟨st,h ▸ e⟩⟩
 case S=>exact fun K H a ns hl hO hS=>⟨a,ns,rfl,hS.script hO,hl,fun _=>rfl⟩
 case C=>exact fun _ _ _ _ z=>z
