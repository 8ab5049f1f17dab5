import PyProof.Rows.All
import Wide.All
import OpenK.AllK
import Wide.FinOn
import Lean
import PyProof.EqAt
import PyProof.EqKinds
import PyProof.TupleCall
import PyProof.DictIter
import PyProof.EnumMake
import KE.KSortTup
import KE.KDictLaws
import KE.KDictSum
import PyProof.StrLawsTight
import KE.KIntText
import PyProof.MinMaxWalk
import PyProof.WalkInts
import KE.KIsAll
import PyProof.ExcInit
import PyProof.NsDelKeeps
import PyProof.ExcBaseAll.ValueError
import OpenK.KOwn
import PyProof.ExcAttrAll.ValueError
import PyProof.InstStoreFacts
import PyProof.NoPylong
import PySem.Challenge.RW_shearfloor_k41_whole_rows_part_the_table
set_option Elab.async false
set_option linter.all false
set_option maxRecDepth 100000
set_option maxHeartbeats 4000000
set_option genSizeOf false
noncomputable section
def Wv:=@List.length_map
def Ww:=@List.getElem?_eq_some_iff
def Wx:=@List.getElem?_eq_getElem
def Wy:=@Nat.le_refl
def Wz:=@List.length_append
def WA:=@List.mem_cons_self
def WB:=@List.getElem?_map
def WC:=@List.getElem?_set_self
def WD:=@Bool.false_ne_true
def WE:=@List.getElem?_set_ne
def WG:=@List.mem_of_getElem?
def WH:=@Int.toNat_natCast
def WI:=@List.getElem?_append_left
def WJ:=@Option.some.inj
def WK:=@List.mem_cons_of_mem
def WL:=@List.size_toArray
def WM:=@PySem.Heap.get?_push_of_some
def WN:=@List.getD_eq_getElem?_getD
def WO:=@Nat.le_trans
def WQ:=@List.mem_singleton
def WR:=@List.mem_map
def WS:=@List.map_append
def WT:=@List.getElem?_append_right
def WU:=@PySem.Heap.lt_size
def WV:=@PySem.Heap.get?_push_size
def WW:=@Bool.and_eq_true
def WX:=@List.mem_append
def WY:=@List.map_cons
def WZ:=@Option.map_eq_some_iff
def W0:=@List.mem_cons
def W2:=@List.length_cons
def W3:=@Int.toNat_of_nonneg
def W4:=@List.map_map
def W5:=@Nat.lt_of_lt_of_le
def W6:=@List.take_succ_eq_append_getElem
def W7:=@List.mem_append_right
def W8:=@Nat.zero_le
def W9:=@List.length_reverse
def Xa:=@List.getElem?_eq_none_iff
def Xb:=@Nat.ne_of_lt
def Xc:=@List.map_congr_left
def Xe:=@List.getD_cons_succ
def Xf:=@List.getD_cons_zero
def Xg:=@List.map_nil
def Xh:=@Nat.not_lt_zero
def Xi:=@List.replicate_succ
def Xj:=@List.length_set
def Xk:=@Nat.lt_of_le_of_lt
def Xl:=@Option.bind_eq_some_iff
def Xm:=@Nat.lt_succ_self
def Xn:=@List.mem_reverse
def Xo:=@PySem.Heap.get?_update_other
def Xp:=@Int.emod_nonneg
def Xq:=@List.take_length
def Xr:=@List.any_cons
def Xs:=@List.foldl_append
def Xt:=@List.find?_cons
def Xu:=@List.getElem_of_mem
def Xv:=@Nat.sub_self
def Xw:=@Option.bind_some
def Xy:=@List.length_singleton
def Xz:=@Bool.false_eq_true
def XA:=@Int.emod_lt_of_pos
def XB:=@List.contains_iff_mem
def XC:=@List.pairwise_iff_getElem
abbrev Zfr:=PySem.W.Frag
namespace L2
open PySem PySem.Spec PyProof.Rows
abbrev Key:=Sum Int Str
def n6:Key->Value->Bool
 | .inl k,v=>Value.isInt k v
 | .inr x,v=>Value.isStrOf x v
def Ho (w:World):Key->Int
 | .inl k=>hashInt k
 | .inr x=>hashStr w x
theorem tW:∀ {k:Key} {v:Value},n6 k v=true->(∃ i t,k=Sum.inl i/\v=Value.int i t)\/(∃ x t,k=Sum.inr x/\v=Value.str x t)
 | .inl i,v,h=>by
  obtain ⟨t,e⟩:=Value.isInt_shape (k:=i) (v:=v) h
  exact .inl ⟨i,t,rfl,e⟩
 | .inr x,v,h=>by
  obtain ⟨t,e⟩:=Value.isStrOf_shape (x:=x) (v:=v) h
  exact .inr ⟨x,t,rfl,e⟩
theorem OB (i:Int) (t:Tok):n6 (.inl i) (.int i t)=true:=by simp [n6,Value.isInt]
theorem OC (x:Str) (t:Tok):n6 (.inr x) (.str x t)=true:=by simp [n6,Value.isStrOf]
theorem wV (a b:Int):decide ((Sum.inl a:Key)=Sum.inl b)=(a == b):=by
 by_cases e:a=b
 ·subst e;simp
 ·have h:¬ (Sum.inl a:Key)=Sum.inl b:=fun q=>e (Sum.inl.inj q)
  rw [decide_eq_false h]
  exact (beq_eq_false_iff_ne.mpr e).symm
theorem wW (a b:Str):decide ((Sum.inr a:Key)=Sum.inr b)=decide (a=b):=by
 by_cases e:a=b
 ·subst e;simp
 ·have h:¬ (Sum.inr a:Key)=Sum.inr b:=fun q=>e (Sum.inr.inj q)
  rw [decide_eq_false h,decide_eq_false e]
theorem wX (a:Int) (b:Str):decide ((Sum.inl a:Key)=Sum.inr b)=false:=decide_eq_false (fun q=>nomatch q)
theorem wY (a:Str) (b:Int):decide ((Sum.inr a:Key)=Sum.inl b)=false:=decide_eq_false (fun q=>nomatch q)
def cR (prog:Program) (w:World):PySem.KeyKind prog w Key where
 is:=n6
 hash:=Ho w
 inj:=fun v a b ha hb=>by
  rcases tW ha with ⟨i,t,rfl,rfl⟩ | ⟨x,t,rfl,rfl⟩
  ·rcases tW hb with ⟨j,u,rfl,e⟩ | ⟨y,u,rfl,e⟩
   ·injection e with e1 _;rw [e1]
   ·exact nomatch e
  ·rcases tW hb with ⟨j,u,rfl,e⟩ | ⟨y,u,rfl,e⟩
   ·exact nomatch e
   ·injection e with e1 _;rw [e1]
 byValue:=fun k v h=>by
  rcases tW h with ⟨i,t,rfl,rfl⟩ | ⟨x,t,rfl,rfl⟩ <;> rfl
 pyHash:=fun hv h=>by
  rcases tW hv with ⟨i,t,rfl,rfl⟩ | ⟨x,t,rfl,rfl⟩
  ·exact wpAny_pyHash_int h
  ·exact wpAny_pyHash_str h
 eqBool:=fun hu hv h=>by
  rcases tW hu with ⟨i,t,rfl,rfl⟩ | ⟨x,t,rfl,rfl⟩
  ·rcases tW hv with ⟨j,u,rfl,rfl⟩ | ⟨y,u,rfl,rfl⟩
   ·rw [wV] at h;exact wpAny_eqBool_int h
   ·rw [wX] at h;exact SeqAt.EqAt.int_str i t y u _ _ _ _ h
  ·rcases tW hv with ⟨j,u,rfl,rfl⟩ | ⟨y,u,rfl,rfl⟩
   ·rw [wY] at h;exact SeqAt.EqAt.str_int x t j u _ _ _ _ h
   ·rw [wW] at h;exact wpAny_eqBool_str h
 «strs»:=fun k x t v h=>by
  rcases tW h with ⟨i,u,rfl,e⟩ | ⟨y,u,rfl,e⟩
  ·exact nomatch e
  ·injection e with e1 _
   subst e1
   cases v <;> rfl
theorem OD (prog:Program) (w:World) (i:Int) (t:Tok):(cR prog w).is (.inl i) (.int i t)=true:=OB i t
theorem OE (prog:Program) (w:World) (x:Str) (t:Tok):(cR prog w).is (.inr x) (.str x t)=true:=OC x t
inductive V where
 | non | bl (b:Bool) | int (i:Int) | str (x:Str) | rC (b:Array UInt8) | Hq (b:UInt64) | ref (a:Addr) | ty (n:String)
 deriving DecidableEq
def RelV:V->Value->Prop
 | .non,u=>u=Value.none
 | .bl b,u=>u=Value.bool b
 | .int i,u=>∃ t,u=Value.int i t
 | .str x,u=>∃ t,u=Value.str x t
 | .rC b,u=>∃ t,u=Value.bytes b t
 | .Hq b,u=>∃ t,u=Value.float b t
 | .ref a,u=>u=Value.ref a
 | .ty n,u=>u=Value.type n
abbrev Vals:List V->List Value->Prop:=Paired RelV
theorem Vals.length {xs:List V} {us:List Value} (r:Vals xs us):xs.length=us.length:=Paired.length r
theorem Vals.get:∀ {xs:List V} {us:List Value} {i:Nat} {x:V},Vals xs us->xs[i]?=some x->∃ u,us[i]?=some u/\RelV x u
 | _,_,_,_,.nil,e=>by simp at e
 | _,_,0,_,.cons r _,e=>by simp at e;subst e;exact ⟨_,rfl,r⟩
 | _,_,i + 1,x,.cons _ t,e=>by
  obtain ⟨u,h1,h2⟩:=Vals.get (i:=i) (x:=x) t (by simpa using e)
  exact ⟨u,by simpa using h1,h2⟩
theorem Vals.set {x:V} {u:Value} (r:RelV x u):∀ {xs:List V} {us:List Value} (i:Nat),Vals xs us->Vals (xs.set i x) (us.set i u)
 | _,_,_,.nil=>.nil
 | _,_,0,.cons _ t=>.cons r t
 | _,_,i + 1,.cons q t=>.cons q (Vals.set r i t)
theorem Vals.append:∀ {xs ys:List V} {us ws:List Value},Vals xs us->Vals ys ws->Vals (xs ++ ys) (us ++ ws)
 | _,_,_,_,.nil,s=>s
 | _,_,_,_,.cons r t,s=>.cons r (Vals.append t s)
theorem Vals.take:∀ {xs:List V} {us:List Value} (n:Nat),Vals xs us->Vals (xs.take n) (us.take n)
 | _,_,0,_=>.nil
 | _,_,_ + 1,.nil=>.nil
 | _,_,n + 1,.cons r t=>.cons r (Vals.take n t)
theorem Vals.drop:∀ {xs:List V} {us:List Value} (n:Nat),Vals xs us->Vals (xs.drop n) (us.drop n)
 | _,_,0,r=>r
 | _,_,_ + 1,.nil=>.nil
 | _,_,n + 1,.cons _ t=>Vals.drop n t
def qJ:Option V->Option Value->Prop
 | some v,some u=>RelV v u
 | none,none=>True
 | _,_=>False
def KV {κ:Type}:List (κ×V)->List (κ×Value)->Prop:=Paired fun (p:κ×V) (q:κ×Value)=>p.1=q.1/\RelV p.2 q.2
def kV:Key->V
 | .inl i=>.int i
 | .inr x=>.str x
set_option genInjectivity false in
inductive HO where
 /-- a list -/
 | lst (xs:List V)
 /-- a tuple (never changes) -/
 | tup (xs:List V)
 /-- a dict whose keys are ints and texts;one whose keys are tuples of ints and texts (the empty one is both) -/
 | dK (kvs:List (Key×V)) | dT (kvs:List (List Key×V))
 /-- a set of ints: its members,its size -/
 | set (S:Int->Bool) (n:Nat)
 /-- an instance of the class at C,its dict at dx,its attributes -/
 | ins (C dx:Addr) (fs:List (Str×V))
 /-- the dict of the instance at x -/
 | own (x:Addr)
 /-- the dict of an exception -/
 | xd (fs:List (Str×V))
 /-- a bound method,f of x -/
 | met (f x:Addr)
 /-- a range object lo,lo + 1,.. below hi -/
 | jH (lo hi:Int)
 /-- a thing that is known to the object (the script;a dict while a loop walks it): read,never written while it is so -/
 | oC (o:Obj) (u:HO)
 /-- a code A4 table -/
 | wZ (ps:Array Value)
 /-- any other thing,by what is true of its one object (a def of Ky own: OG a S n:=HO.ext fun h=>..) -/
 | ext (φ:Heap->Prop)
abbrev Hp:=Addr->Option HO
def upd (H:Hp) (a:Addr) (o:HO):Hp:=fun b=>if b=a then some o else H b
theorem q5 {H:Hp} {a:Addr} {o:HO}:upd H a o a=some o:=by unfold upd;rw [if_pos rfl]
theorem kf {H:Hp} {a b:Addr} {o:HO} (h:b≠a):upd H a o b=H b:=by unfold upd;rw [if_neg h]
theorem Hr {H:Hp} {a b:Addr} {o u:HO} (h:H a=some o) (h':H b=some u) (d:o≠u):a≠b:=by
 intro e;subst e;rw [h] at h';exact d (WJ h')
theorem zQ {H:Hp} {a b:Addr} {o:HO} (h:H a=some o) (h':H b=none):a≠b:=by
 intro e;subst e;rw [h] at h';cases h'
def oD (h:Heap) (a:Addr) (its:Array Value):Prop:=∃ o,h.get? a=some o/\o.cls=.type "tuple" /\ o.dict=none/\∃ n,o.data=.seq its n
theorem oD.tup {h:Heap} {a:Addr} {its:Array Value} (x:oD h a its):IsTup h a its:=let ⟨o,e,c,_,n,d⟩:=x;⟨o,e,c,n,d⟩
theorem oD.new (h:Heap) (its:Array Value):oD (h.push { cls:=.type "tuple",data:=.seq its }) h.objs.size its:=⟨_,WV _ rfl,rfl,rfl,_,rfl⟩
section
variable (P:Program) (w:World)
def cI (H:Hp) (h:Heap) (a:Addr):HO->Prop
 | .lst xs=>xs.length<=sizeLine/\∃ (its:List Value) (n:Nat),Vals xs its/\h.get? a=some { cls:=.type "list",data:=.seq its.toArray n }
 | .tup xs=>xs.length<=sizeLine/\∃ its:List Value,Vals xs its/\oD h a its.toArray
 | .dK kvs=>kvs.length<=sizeLine/\(a == sysModules)=false/\∃ vs,KV kvs vs/\h.DictOf (cR P w) a vs
 | .dT kvs=>kvs.length<=sizeLine/\(a == sysModules)=false/\∃ xs:List (List Key×Addr×Value),
   Paired (fun (p:List Key×V) (q:List Key×Addr×Value)=>p.1=q.1/\H q.2.1=some (.tup (p.1.map kV))/\RelV p.2 q.2.2) kvs xs /\
   ∃ o es ep,h.get? a=some o/\o.ExactDict/\o.data=.dict es ep/\es.toList=xs.map (entryOfKey (tupleKind (cR P w)))/\(xs.map (·.1)).Nodup
 | .set S n=>h.SetOf (intKind P w) a S n
 | .ins C dx fs=>H dx=some (.own a)/\fs.length<=1000/\dx≠a/\h.get? a=some (PySem.W.instObj C dx) /\
   ∃ mA,h.Ns1 dx mA/\(∀ f,qJ (fs.lookup f) (mA f))/\PySem.Within mA (fs.map (·.1))
 | .own _=>∃ o,h.get? a=some o
 | .xd fs=>∃ mA,h.Ns1 a mA/\∀ f,qJ (fs.lookup f) (mA f)
 | .jH lo hi=>∃ t u v,h.get? a=some { cls:=.type "range",data:=.fields #[.int lo t,.int hi u,.int 1 v] }
 | .oC o u=>h.get? a=some o/\cI H h a u
 | .wZ ps=>h.get? a=some { cls:=.none,data:=.fields ps }
 | .met f x=>h.get? a=some (PySem.W.methodObj (.ref f) (.ref x))
 | .ext φ=>φ h/\(∃ o,h.get? a=some o)/\∀ h1 h2:Heap,φ h1->(∀ o,h1.get? a=some o->h2.get? a=some o)->φ h2
def lK (H:Hp) (h:Heap):Prop:=∀ a o,H a=some o->cI P w H h a o
end
section
variable {P:Program} {w:World} {H H':Hp} {h h':Heap} {a:Addr} {o:HO}
theorem cI.lt (x:cI P w H h a o):a < h.objs.size:=by
 cases o with
 | lst xs=>obtain ⟨_,_,_,_,e⟩:=x;exact WU e
 | tup xs=>obtain ⟨_,_,_,_,e,_⟩:=x;exact WU e
 | dK kvs=>obtain ⟨_,_,_,_,o,_,_,e,_⟩:=x;exact WU e
 | dT kvs=>obtain ⟨_,_,_,_,o,_,_,e,_⟩:=x;exact WU e
 | set S n=>obtain ⟨o,_,_,_,e,_⟩:=x;exact WU e
 | ins C dx fs=>obtain ⟨_,_,_,e,_⟩:=x;exact WU e
 | own y=>obtain ⟨_,e⟩:=x;exact WU e
 | xd fs=>obtain ⟨_,⟨_,_,_,e,_⟩,_⟩:=x;exact WU e
 | jH lo hi=>obtain ⟨_,_,_,e⟩:=x;exact WU e
 | oC ob u=>obtain ⟨e,_⟩:=x;exact WU e
 | wZ ps=>exact WU (show h.get? a=some _ from x)
 | met f y=>exact WU (show h.get? a=some _ from x)
 | ext φ=>obtain ⟨_,⟨_,e⟩,_⟩:=x;exact WU e
theorem Paired.w4 {α β:Type} {F G:α->β->Prop}:∀ {l₁:List α} {l₂:List β},Paired F l₁ l₂->(∀ a b,F a b->G a b)->Paired G l₁ l₂
 | _,_,.nil,_=>.nil
 | _,_,.cons r t,f=>.cons (f _ _ r) (Paired.w4 t f)
theorem cI.stay (x:cI P w H h a o) (k:∀ b u,(b=a\/H b=some (.own a))->h.get? b=some u->h'.get? b=some u)
  (ho:∀ b,H b=some (.own a)->H' b=some (.own a)) (ht:∀ b xs,H b=some (.tup xs)->H' b=some (.tup xs)):cI P w H' h' a o:=by
 induction o with
 | lst xs=>obtain ⟨z,its,n,r,e⟩:=x;exact ⟨z,its,n,r,k _ _ (.inl rfl) e⟩
 | tup xs=>obtain ⟨z,its,r,ob,e,c⟩:=x;exact ⟨z,its,r,ob,k _ _ (.inl rfl) e,c⟩
 | dK kvs=>obtain ⟨z,y,vs,r,ob,es,ep,e,c⟩:=x;exact ⟨z,y,vs,r,ob,es,ep,k _ _ (.inl rfl) e,c⟩
 | dT kvs =>
  obtain ⟨z,y,xs,r,ob,es,ep,e,c⟩:=x
  exact ⟨z,y,xs,Paired.w4 r fun p q z=>⟨z.1,ht _ _ z.2.1,z.2.2⟩,ob,es,ep,k _ _ (.inl rfl) e,c⟩
 | set S n=>obtain ⟨ob,es,ep,t,e,c⟩:=x;exact ⟨ob,es,ep,t,k _ _ (.inl rfl) e,c⟩
 | ins C dx fs =>
  obtain ⟨d,z,ne,e,mA,⟨od,es,ep,e2,c⟩,r⟩:=x
  exact ⟨ho _ d,z,ne,k _ _ (.inl rfl) e,mA,⟨od,es,ep,k _ _ (.inr d) e2,c⟩,r⟩
 | own y=>obtain ⟨ob,e⟩:=x;exact ⟨ob,k _ _ (.inl rfl) e⟩
 | xd fs=>obtain ⟨mA,⟨od,es,ep,e,c⟩,r⟩:=x;exact ⟨mA,⟨od,es,ep,k _ _ (.inl rfl) e,c⟩,r⟩
 | jH lo hi=>obtain ⟨t,u,v,e⟩:=x;exact ⟨t,u,v,k _ _ (.inl rfl) e⟩
 | oC ob u ih=>obtain ⟨e,q⟩:=x;exact ⟨k _ _ (.inl rfl) e,ih q⟩
 | wZ ps =>
  have e:h.get? a=some { cls:=.none,data:=.fields ps }:=x
  show h'.get? a=some { cls:=.none,data:=.fields ps }
  exact k a _ (.inl rfl) e
 | met f y =>
  have e:h.get? a=some (PySem.W.methodObj (.ref f) (.ref y)):=x
  show h'.get? a=some (PySem.W.methodObj (.ref f) (.ref y))
  exact k a _ (.inl rfl) e
 | ext φ=>obtain ⟨p,⟨o,e⟩,st⟩:=x;exact ⟨st _ _ p fun o q=>k _ _ (.inl rfl) q,⟨o,k _ _ (.inl rfl) e⟩,st⟩
theorem lK.lt (x:lK P w H h) (e:H a=some o):a < h.objs.size:=(x a o e).lt
theorem lK.fresh (x:lK P w H h) (e:h.objs.size<=a):H a=none:=by
 cases q:H a with
 | none=>rfl
 | some u=>exact absurd (W5 (x.lt q) e) (Nat.lt_irrefl _)
theorem lK.kept (x:lK P w H h) (k:∀ b u,h.get? b=some u->h'.get? b=some u):lK P w H h':=fun a o e =>
 (x a o e).stay (fun b u _ q=>k b u q) (fun _ q=>q) fun _ _ q=>q
theorem lK.laid (x:lK P w H h) (k:∀ b u,h.get? b=some u->h'.get? b=some u) (hp:h.objs.size<=a) (new:cI P w (upd H a o) h' a o):lK P w (upd H a o) h':=fun b u e=>by
 have hn:=x.fresh hp
 by_cases hb:b=a
 ·subst hb;rw [q5] at e;cases e;exact new
 ·rw [kf hb] at e
  exact (x b u e).stay (fun c v _ q=>k c v q) (fun c q=>by rw [kf (zQ q hn)];exact q) fun c xs q=>by rw [kf (zQ q hn)];exact q
end
def Rd (H:Hp) (a:Addr) (u:HO):Prop:=H a=some u\/∃ o,H a=some (.oC o u)
theorem Rd.ok {P:Program} {w:World} {H:Hp} {h:Heap} {a:Addr} {u:HO} (r:Rd H a u) (x:lK P w H h):cI P w H h a u:=by
 rcases r with r | ⟨o,r⟩
 ·exact x a u r
 ·obtain ⟨_,q⟩:=x a _ r
  exact q
def A5:Option HO->Prop
 | some (.lst _)=>True
 | some (.dK _)=>True
 | some (.dT _)=>True
 | some (.set _ _)=>True
 | some (.ins _ _ _)=>True
 | some (.ext _)=>True
 | _=>False
section
variable {P:Program} {w:World} {H:Hp} {h h':Heap} {x e:Addr} {o':HO}
theorem lK.write (ok:lK P w H h) (mu:A5 (H x)) (he:e=x\/H e=some (.own x)) (k:∀ b u,b≠e->h.get? b=some u->h'.get? b=some u) (zR:∃ u,h'.get? e=some u)
  (new:cI P w (upd H x o') h' x o'):lK P w (upd H x o') h':=fun b u q=>by
 have A6:∀ c y,H c=some (.own y)->c≠x:=fun c y r z=>by subst z;rw [r] at mu;exact mu
 have Hs:∀ c xs,H c=some (.tup xs)->c≠x:=fun c xs r z=>by subst z;rw [r] at mu;exact mu
 by_cases hb:b=x
 ·subst hb;rw [q5] at q;cases q;exact new
 ·rw [kf hb] at q
  by_cases w6:b=e
  ·have q':H b=some (.own x):=by
    rcases he with z | z
    ·exact absurd (w6.trans z) hb
    ·rw [w6];exact z
   rw [q] at q';cases q'
   obtain ⟨v,hv⟩:=zR
   exact ⟨v,by rw [w6];exact hv⟩
  ·refine (ok b u q).stay (fun c v hc r=>k c v ?_ r) (fun c r=>by rw [kf (A6 c b r)];exact r) fun c xs r=>by rw [kf (Hs c xs r)];exact r
   rcases hc with rfl | hc
   ·exact w6
   ·rintro rfl
    rcases he with z | z
    ·exact A6 c b hc z
    ·rw [hc] at z;cases z;exact hb rfl
end
structure Un (fs ex:List Addr) (H H':Hp) (h h':Heap):Prop where
 keep:∀ b o,h.get? b=some o->H b=none->b ∉ fs->b ∉ ex->h'.get? b=some o
 slot:∀ b o,h.get? b=some o->H b=none->b∈fs->b ∉ ex->∃ sl,h'.get? b=some { o with slots:=sl }
 free:∀ b o,h.get? b=some o->H b=none->b ∉ ex->H' b=none
 there:∀ b o,h.get? b=some o->b ∉ ex->∃ o',h'.get? b=some o'
 tups:∀ b xs,H b=some (.tup xs)->H' b=some (.tup xs)
 oE:∀ b o u,H b=some (.oC o u)->H' b=some (.oC o u)
 o8:∀ b ps,H b=some (.wZ ps)->∃ more,H' b=some (.wZ (ps ++ more))
section
variable {fs fs' ex ex':List Addr} {H H1 H2:Hp} {h h1 h2 h':Heap} {a x e:Addr} {o:HO}
theorem Un.any (u:Un fs ex H H1 h h1) {b:Addr} {ob:Obj} (q:h.get? b=some ob) (n:H b=none) (hx:b ∉ ex):∃ sl,h1.get? b=some { ob with slots:=sl }:=by
 by_cases hb:b∈fs
 ·exact u.slot b ob q n hb hx
 ·exact ⟨ob.slots,u.keep b ob q n hb hx⟩
theorem Un.kept (k:∀ b u,h.get? b=some u->h'.get? b=some u):Un fs ex H H h h' :=
 ⟨fun b ob q _ _ _=>k b ob q,fun b ob q _ _ _=>⟨ob.slots,k b ob q⟩,fun _ _ _ n _=>n,fun b ob q _=>⟨ob,k b ob q⟩,fun _ _ q=>q,fun _ _ _ q=>q,fun _ ps q=>⟨#[],by rw [q];simp⟩⟩
theorem Un.refl:Un fs ex H H h h:=Un.kept fun _ _ q=>q
theorem Un.laid (k:∀ b u,h.get? b=some u->h'.get? b=some u) (hp:h.objs.size<=a) (hn:H a=none):Un fs ex H (upd H a o) h h' where
 keep:=fun b u q _ _ _=>k b u q
 slot:=fun b u q _ _ _=>⟨u.slots,k b u q⟩
 free:=fun b u q n _=>by rw [kf (Xb (W5 (WU q) hp))];exact n
 there:=fun b u q _=>⟨u,k b u q⟩
 tups:=fun b xs q=>by rw [kf (zQ q hn)];exact q
 oE:=fun b u xs q=>by rw [kf (zQ q hn)];exact q
 o8:=fun b ps q=>⟨#[],by rw [kf (zQ q hn),q];simp⟩
theorem Un.write (mu:A5 (H x)) (he:e=x\/H e=some (.own x)) (k:∀ b u,b≠e->h.get? b=some u->h'.get? b=some u) (zR:∃ u,h'.get? e=some u):Un fs ex H (upd H x o) h h':=by
 have hx:∀ b,H b=none->b≠x:=fun b n z=>by subst z;rw [n] at mu;exact mu
 have hb:∀ b,H b=none->b≠e:=fun b n z=>by
  subst z
  rcases he with r | r
  ·exact hx b n r
  ·rw [n] at r;cases r
 have hm:∀ b u,H b=some u->¬ A5 (some u)->b≠x:=fun b u q nm z=>by subst z;rw [q] at mu;exact nm mu
 refine ⟨fun b u q n _ _=>k b u (hb b n) q,fun b u q n _ _=>⟨u.slots,k b u (hb b n) q⟩,fun b u q n _=>by rw [kf (hx b n)];exact n,fun b u q _=>?_,
  fun b xs q=>by rw [kf (hm b _ q fun z=>z)];exact q,fun b u xs q=>by rw [kf (hm b _ q fun z=>z)];exact q,fun b ps q=>⟨#[],by rw [kf (hm b _ q fun z=>z),q];simp⟩⟩
 by_cases w6:b=e
 ·subst w6;exact zR
 ·exact ⟨u,k b u w6 q⟩
end
def ET (h:Heap) (H:Hp):List Addr:=(List.range h.objs.size).filter fun a=>(H a).isSome
def oG (h:Heap) (H:Hp):Heap:=PySem.W.hideAll h (ET h H)
theorem OH (h:Heap) (H:Hp):(oG h H).objs.size=h.objs.size:=PySem.W.hideAll_size _ _
theorem OI {h:Heap} {H:Hp} {b:Addr} {o:Obj} (e:h.get? b=some o) (n:H b=none):(oG h H).get? b=some o :=
 PySem.W.hideAll_get _ e fun hm=>by
  have q:(H b).isSome=true:=(List.mem_filter.mp hm).2
  rw [n] at q;simp at q
theorem OJ {h:Heap} {H:Hp} {b:Addr} {o:Obj} (e:(oG h H).get? b=some o):h.get? b=some o/\H b=none:=by
 have e':h.get? b=some o:=PySem.W.of_hideAll (ET h H) e
 refine ⟨e',?_⟩
 cases q:H b with
 | none=>rfl
 | some x =>
  have hm:b∈ET h H:=List.mem_filter.mpr ⟨List.mem_range.mpr (WU e'),by simp [q]⟩
  have z:(oG h H).get? b=none:=PySem.W.hideAll_none (ET h H) hm
  rw [z] at e;cases e
def tZ (g h:Heap) (L:Addr):List (Addr×Obj):=(List.range h.objs.size).filterMap fun a=>if a=L\/(g.get? a).isSome=true then none else (h.get? a).map fun o=>(a,o)
def rest (g h:Heap) (L d:Addr):List (Addr×Obj):=(tZ g h L).filter fun p=>decide (p.1≠d)
structure Mod (K:Zfr) (mg:Str->Option Value) (base:Heap):Prop where
 Ht:K.In base
 glob:base.Ns mainGlobals mg
 blt:∃ mb,base.Ns builtinsNs mb/\∀ x:Str,x≠"__name__" -> mb x=bootBuiltins x
 nolimit:base.NoLimit
set_option genInjectivity false in
structure Cx where
 prog:Program
 w:World
 K:Zfr
 mg:Str->Option Value
 base:Heap
 A:Around
 N:List Str
 s₀:Shared
 H₀:Hp
 env:Env
 outer:List Env
 stack:List Env
 ex:List Addr
 fn:Str->Bool
 calm:Bool
 pn:List (Addr×Obj)
 xe:Value->Shared->Prop
def frs (l:List Env):List Addr:=l.filterMap (·.frame)
abbrev Cx.fs (X:Cx):List Addr:=frs X.outer
def Hu (sc:Scope) (x:Str):Prop:=sc.names.lookup x=some .local\/sc.names.lookup x=some .cell\/sc.names.lookup x=some .free
def Loc (sc:Scope) (x:Str):Prop:=sc.names.lookup x=some .local\/sc.names.lookup x=some .cell
def Look (env:Env) (h:Heap) (m:Str->Option Value) (x:Str) (u:Value):Prop :=
 (env.kindOf x=some .local/\m x=some u)\/((env.kindOf x=some .cell\/env.kindOf x=some .free)/\∃ c,env.cells.lookup x=some c/\h.IsCell c (some u))
structure Cx.Ok (X:Cx):Prop where
 mod:Mod X.K X.mg X.base
 kind:X.env.scope.kind=.function
 glob:X.env.globals=mainGlobals
 blt:X.env.builtins=builtinsNs
 above:X.s₀.heap.objs.size<=X.env.locals
 inj:∀ x y c,X.env.cells.lookup x=some c->X.env.cells.lookup y=some c->x=y
 has:∀ x,(X.env.kindOf x=some .cell\/X.env.kindOf x=some .free)->∃ c,X.env.cells.lookup x=some c
 A7:∀ x c,X.fn x=true->X.env.cells.lookup x=some c->X.s₀.heap.objs.size<=c
 hd:X.calm=true->X.A.handled=none
 frames:X.A.frames=some X.stack
 stk:X.stack=X.outer\/(X.stack=X.env :: X.outer/\X.env.frame=some X.env.locals)
 Kz:∀ b∈X.ex,b≠X.env.locals/\∀ x c,X.env.cells.lookup x=some c->c≠b
 bs:∀ b o,X.base.get? b=some o->X.s₀.heap.get? b=some o/\X.H₀ b=none
 uU:X.base.objs.size<=X.s₀.heap.objs.size
 rD:∀ b o,X.base.get? b=some o->b ∉ X.ex
 t9:∀ b∈X.ex,b ∉ X.fs
 nC:X.s₀.heap.FunFrames X.base X.outer
 zS:∀ b∈X.fs,X.H₀ b=none
structure Inv (X:Cx) (pins:List (Addr×Obj)) (σ:List (Option V)) (H:Hp) (s:Shared):Prop where
 ok:X.Ok
 os:s.os=X.s₀.os
 bare:AllBare s.gens
 base:Un X.fs X.ex X.H₀ H X.s₀.heap s.heap
 loc:∃ m,s.heap.Ns X.env.locals m/\∀ (i:Nat) (x:Str) (v:V),X.N[i]?=some x->σ[i]?=some (some v)->Hu X.env.scope x->∃ u,RelV v u/\Look X.env s.heap m x u
 cell:∀ x c,X.env.cells.lookup x=some c->∃ v,s.heap.IsCell c v
 free:H X.env.locals=none
 kM:∀ x c,X.env.cells.lookup x=some c->H c=none
 pin:∀ p∈X.pn ++ pins,s.heap.get? p.1=some p.2/\H p.1=none/\p.1≠X.env.locals/\p.1 ∉ X.fs/\∀ v,p.2.data≠.cell v
 hok:lK X.prog X.w H s.heap
 len:σ.length=X.N.length
section
variable {X:Cx} {pins:List (Addr×Obj)} {σ:List (Option V)} {H H':Hp} {s:Shared} {h':Heap}
theorem Cx.Ok.Hv (ok:X.Ok) {b:Addr} {o:Obj} (e:X.base.get? b=some o):b ∉ X.fs:=fun hb=>by
 have:=(ok.nC.mem hb).1
 rw [e] at this;cases this
theorem Inv.bs (I:Inv X pins σ H s):∀ b o,X.base.get? b=some o->s.heap.get? b=some o/\H b=none:=fun b o e =>
 ⟨I.base.keep b o (I.ok.bs b o e).1 (I.ok.bs b o e).2 (I.ok.Hv e) (I.ok.rD b o e),I.base.free b o (I.ok.bs b o e).1 (I.ok.bs b o e).2 (I.ok.rD b o e)⟩
theorem Inv.bk (I:Inv X pins σ H s):∀ b o,X.base.get? b=some o->s.heap.get? b=some o:=fun b o e=>(I.bs b o e).1
theorem Inv.mod (I:Inv X pins σ H s):Mod X.K X.mg X.base:=I.ok.mod
theorem Inv.EU (I:Inv X pins σ H s):X.K.In s.heap:=I.ok.mod.Ht.keeps I.bk
theorem Inv.lt (I:Inv X pins σ H s):X.env.locals < s.heap.objs.size:=let ⟨_,hn,_⟩:=I.loc;hn.lt
theorem Inv.sz (I:Inv X pins σ H s):X.s₀.heap.objs.size<=s.heap.objs.size:=WO I.ok.above (Nat.le_of_lt I.lt)
theorem Inv.A8 (I:Inv X pins σ H s) {a:Addr} (h:s.heap.objs.size<=a):a ∉ X.fs:=fun hb=>by
 obtain ⟨_,o,ho,_⟩:=I.ok.nC.mem hb
 exact absurd (W5 (WU ho) (WO I.sz h)) (Nat.lt_irrefl _)
theorem Inv.w8 (I:Inv X pins σ H s):∀ x c,X.env.cells.lookup x=some c->c≠X.env.locals:=fun x c e z=>by
 obtain ⟨v,o,ho,hd⟩:=I.cell x c e
 obtain ⟨m,⟨o',es,ep,ho',hd',_⟩,_⟩:=I.loc
 rw [z,ho'] at ho;cases ho;rw [hd'] at hd;cases hd
theorem Inv.nC (I:Inv X pins σ H s):s.heap.FunFrames X.base X.outer:=by
 have all:∀ (l:List Env),(∀ b∈frs l,b∈X.fs)->X.s₀.heap.FunFrames X.base l->s.heap.FunFrames X.base l:=by
  intro l
  induction l with
  | nil=>intro _ _;trivial
  | cons env r ih =>
   intro hs hl
   obtain ⟨hk,⟨L,o,hf,hn,ho,hd⟩,hr⟩:=hl
   have hL:L∈X.fs:=hs L (by unfold frs;rw [List.filterMap_cons,hf];exact WA)
   obtain ⟨sl,e⟩:=I.base.slot L o ho (I.ok.zS L hL) hL fun z=>I.ok.t9 L z hL
   exact ⟨hk,⟨L,_,hf,hn,e,hd⟩,ih (fun b hb=>hs b (by unfold frs;rw [List.filterMap_cons,hf];exact WK _ hb)) hr⟩
 exact all X.outer (fun _ hb=>hb) I.ok.nC
theorem Inv.stack (I:Inv X pins σ H s):s.heap.FunFrames X.base X.stack:=by
 rcases I.ok.stk with e | ⟨e,hf⟩
 ·rw [e];exact I.nC
 ·rw [e]
  obtain ⟨m,hn,_⟩:=I.loc
  refine .cons (by rw [I.ok.kind];decide) hf hn ?_ I.nC
  exact Heap.get?_none_of_le (WO I.ok.uU I.ok.above)
theorem Inv.nD (I:Inv X pins σ H s):∀ b∈frs X.stack,b∈X.env.locals :: X.fs:=fun b hb=>by
 rcases I.ok.stk with e | ⟨e,hf⟩
 ·rw [e] at hb;exact WK _ hb
 ·rw [e] at hb
  unfold frs at hb
  rw [List.filterMap_cons,hf] at hb
  exact hb
theorem Inv.qf (I:Inv X pins σ H s):∀ b∈frs X.stack,H b=none:=fun b hb=>by
 rcases W0.mp (I.nD b hb) with e | hb
 ·rw [e];exact I.free
 ·obtain ⟨_,o,ho,_⟩:=I.ok.nC.mem hb
  exact I.base.free b o ho (I.ok.zS b hb) fun z=>I.ok.t9 b z hb
theorem Inv.step {g':Array GenState} {t':Nat} {d':Drawn} {ch:List Addr} (I:Inv X pins σ H s)
  (hch:∀ b∈ch,(b∈X.ex\/X.s₀.heap.objs.size<=b)/\b≠X.env.locals/\(∀ x c,X.env.cells.lookup x=some c->c≠b)/\∀ p∈X.pn ++ pins,p.1≠b)
  (keep:∀ b o,b≠X.env.locals->b ∉ X.fs->b ∉ ch->s.heap.get? b=some o->H b=none->h'.get? b=some o)
  (slot:∀ b o,b≠X.env.locals->b∈X.fs->b ∉ ch->s.heap.get? b=some o->H b=none->∃ sl,h'.get? b=some { o with slots:=sl }) (free:∀ b o,b ∉ ch->s.heap.get? b=some o->H b=none->H' b=none)
  (there:∀ b o,b ∉ ch->s.heap.get? b=some o->∃ o',h'.get? b=some o')
  (tups:∀ b xs,H b=some (.tup xs)->H' b=some (.tup xs)) (oE:∀ b o u,H b=some (.oC o u)->H' b=some (.oC o u)) (o8:∀ b ps,H b=some (.wZ ps)->∃ more,H' b=some (.wZ (ps ++ more)))
  (ns:∀ m,s.heap.Ns X.env.locals m->h'.Ns X.env.locals m) (hok:lK X.prog X.w H' h') (hg:AllBare g') :
  Inv X pins σ H' { s with heap:=h',gens:=g',drawn:=d',toks:=t' }:=by
 have xa:∀ b o,X.s₀.heap.get? b=some o->b≠X.env.locals:=fun b o e=>Xb (W5 (WU e) I.ok.above)
 have EV:∀ b o,X.s₀.heap.get? b=some o->b ∉ X.ex->b ∉ ch:=fun b o e hx hb=>by
  rcases (hch b hb).1 with z | z
  ·exact hx z
  ·exact absurd (W5 (WU e) z) (Nat.lt_irrefl _)
 have cellK:∀ x c,X.env.cells.lookup x=some c->∀ v,s.heap.IsCell c v->h'.IsCell c v:=fun x c e v ⟨o,ho,hd⟩=>by
  have A9:c ∉ ch:=fun z=>(hch c z).2.2.1 x c e rfl
  by_cases hc:c∈X.fs
  ·obtain ⟨sl,q⟩:=slot c o (I.w8 x c e) hc A9 ho (I.kM x c e)
   exact ⟨_,q,hd⟩
  ·exact ⟨o,keep c o (I.w8 x c e) hc A9 ho (I.kM x c e),hd⟩
 refine ⟨I.ok,I.os,hg,⟨fun b o e n hb hx=>?_,fun b o e n hb hx=>?_,fun b o e n hx=>?_,fun b o e hx=>?_,fun b xs e=>tups b xs (I.base.tups b xs e),fun b o xs e=>oE b o xs (I.base.oE b o xs e),fun b ps e=>?_⟩,?_,fun x c e=>?_,?_,fun x c e=>?_,fun p hp=>?_,hok,I.len⟩
 ·exact keep b o (xa b o e) hb (EV b o e hx) (I.base.keep b o e n hb hx) (I.base.free b o e n hx)
 ·obtain ⟨sl,e1⟩:=I.base.slot b o e n hb hx
  obtain ⟨OL,e2⟩:=slot b _ (xa b o e) hb (EV b o e hx) e1 (I.base.free b o e n hx)
  exact ⟨OL,e2⟩
 ·obtain ⟨o',e1⟩:=I.base.there b o e hx
  exact free b o' (EV b o e hx) e1 (I.base.free b o e n hx)
 ·obtain ⟨o',e1⟩:=I.base.there b o e hx
  exact there b o' (EV b o e hx) e1
 ·obtain ⟨m1,e1⟩:=I.base.o8 b ps e
  obtain ⟨m2,e2⟩:=o8 b _ e1
  exact ⟨m1 ++ m2,by rw [e2,Array.append_assoc]⟩
 ·obtain ⟨m,hn,hl⟩:=I.loc
  refine ⟨m,ns m hn,fun i x v e1 e2 e3=>?_⟩
  obtain ⟨u,r,l⟩:=hl i x v e1 e2 e3
  refine ⟨u,r,?_⟩
  rcases l with l | ⟨k,c,e,z⟩
  ·exact .inl l
  ·exact .inr ⟨k,c,e,cellK x c e _ z⟩
 ·obtain ⟨v,z⟩:=I.cell x c e
  exact ⟨v,cellK x c e v z⟩
 ·obtain ⟨m,⟨o,_,_,ho,_⟩,_⟩:=I.loc
  exact free _ o (fun z=>(hch _ z).2.1 rfl) ho I.free
 ·obtain ⟨v,o,ho,hd⟩:=I.cell x c e
  exact free c o (fun z=>(hch c z).2.2.1 x c e rfl) ho (I.kM x c e)
 ·obtain ⟨e,n,ne,nf,d⟩:=I.pin p hp
  have A9:p.1 ∉ ch:=fun z=>(hch p.1 z).2.2.2 p hp rfl
  exact ⟨keep p.1 p.2 ne nf A9 e n,free p.1 p.2 A9 e n,ne,nf,d⟩
theorem Inv.un {t':Nat} (I:Inv X pins σ H s) (u:Un X.fs [] H H' s.heap h') (hok:lK X.prog X.w H' h'):Inv X pins σ H' { s with heap:=h',toks:=t' }:=by
 obtain ⟨m,⟨o,es,ep,ho,r⟩,_⟩:=id I.loc
 obtain ⟨sl,hL⟩:=u.any ho I.free (by simp)
 exact I.step (g':=s.gens) (d':=s.drawn) (ch:=[]) (fun _ z=>nomatch z) (fun b o _ hb _ e n=>u.keep b o e n hb (by simp)) (fun b o _ hb _ e n=>u.slot b o e n hb (by simp)) (fun b o _ e n=>u.free b o e n (by simp)) (fun b o _ e=>u.there b o e (by simp)) u.tups u.oE u.o8 (fun m' hm=>by
  obtain ⟨o',es',Hw,ho',r'⟩:=hm
  rw [ho] at ho';cases ho'
  exact ⟨_,es',Hw,hL,r'⟩) hok I.bare
theorem Inv.call {g':Array GenState} {t':Nat} {d':Drawn} {ch:List Addr} (I:Inv X pins σ H s) (u:Un (frs X.stack) ch H H' s.heap h') (hok:lK X.prog X.w H' h') (hg:AllBare g')
  (hch:∀ b∈ch,(b∈X.ex\/X.s₀.heap.objs.size<=b)/\b≠X.env.locals/\(∀ x c,X.env.cells.lookup x=some c->c≠b)/\∀ p∈X.pn ++ pins,p.1≠b) :
  Inv X pins σ H' { s with heap:=h',gens:=g',drawn:=d',toks:=t' }:=by
 obtain ⟨m,⟨o,es,ep,ho,r⟩,_⟩:=id I.loc
 obtain ⟨sl,hL⟩:=u.any ho I.free fun z=>(hch _ z).2.1 rfl
 exact I.step (ch:=ch) hch (fun b o hL hb hc e n=>u.keep b o e n (fun z=>(W0.mp (I.nD b z)).elim hL hb) hc) (fun b o _ _ hc e n=>u.any e n hc) (fun b o hc e n=>u.free b o e n hc) (fun b o hc e=>u.there b o e hc) u.tups u.oE u.o8 (fun m' hm=>by
  obtain ⟨o',es',Hw,ho',r'⟩:=hm
  rw [ho] at ho';cases ho'
  exact ⟨_,es',Hw,hL,r'⟩) hok hg
theorem Inv.turned {t':Nat} {it:Addr} (I:Inv X pins σ H s) (k:∀ b o,b≠it->s.heap.get? b=some o->h'.get? b=some o) (hn:H it=none) (hL:it≠X.env.locals)
  (h1:it∈X.ex\/X.s₀.heap.objs.size<=it) (h2:∀ x c,X.env.cells.lookup x=some c->c≠it) (h3:∀ p∈X.pn ++ pins,p.1≠it):Inv X pins σ H { s with heap:=h',toks:=t' }:=by
 have Ba:∀ b u,H b=some u->b≠it:=fun b u e z=>by rw [z,hn] at e;cases e
 refine I.step (g':=s.gens) (d':=s.drawn) (ch:=[it]) (fun b hb=>?_) (fun b o _ _ hc e _=>k b o (fun z=>hc (by simp [z])) e) (fun b o _ _ hc e _=>⟨o.slots,k b o (fun z=>hc (by simp [z])) e⟩) (fun _ _ _ _ n=>n)
  (fun b o hc e=>⟨o,k b o (fun z=>hc (by simp [z])) e⟩) (fun _ _ e=>e) (fun _ _ _ e=>e) (fun b ps e=>⟨#[],by rw [e];simp⟩) (fun m hm=>?_) (fun b u e=>?_) I.bare
 ·have e:b=it:=by simpa using hb
  subst e
  exact ⟨h1,hL,h2,h3⟩
 ·obtain ⟨o,es,ep,ho,r⟩:=hm
  exact ⟨o,es,ep,k _ o (Ne.symm hL) ho,r⟩
 ·refine (I.hok b u e).stay (fun c v hc q=>k c v ?_ q) (fun _ q=>q) fun _ _ q=>q
  rcases hc with z | z
  ·rw [z];exact Ba b u e
  ·exact Ba c _ z
theorem Inv.tok (I:Inv X pins σ H s) (t:Nat):Inv X pins σ H { s with toks:=t }:=I.un (h':=s.heap) (t':=t) Un.refl I.hok
theorem Inv.kept {t':Nat} (I:Inv X pins σ H s) (k:∀ b u,s.heap.get? b=some u->h'.get? b=some u):Inv X pins σ H { s with heap:=h',toks:=t' }:=I.un (Un.kept k) (I.hok.kept k)
theorem Inv.laid {a:Addr} {o:HO} {t':Nat} (I:Inv X pins σ H s) (k:∀ b u,s.heap.get? b=some u->h'.get? b=some u) (hp:s.heap.objs.size<=a) (new:cI X.prog X.w (upd H a o) h' a o) :
  Inv X pins σ (upd H a o) { s with heap:=h',toks:=t' }:=I.un (Un.laid k hp (I.hok.fresh hp)) (I.hok.laid k hp new)
theorem Inv.write {x e:Addr} {o:HO} {t':Nat} (I:Inv X pins σ H s) (mu:A5 (H x)) (he:e=x\/H e=some (.own x)) (k:∀ b u,b≠e->s.heap.get? b=some u->h'.get? b=some u) (zR:∃ u,h'.get? e=some u)
  (new:cI X.prog X.w (upd H x o) h' x o):Inv X pins σ (upd H x o) { s with heap:=h',toks:=t' }:=I.un (Un.write mu he k zR) (I.hok.write mu he k zR new)
theorem Inv.nc {uV:List (Addr×Obj)} (I:Inv X pins σ H s) (h:∀ p∈uV,s.heap.get? p.1=some p.2/\H p.1=none/\p.1≠X.env.locals/\p.1 ∉ X.fs/\∀ v,p.2.data≠.cell v):Inv X uV σ H s :=
 ⟨I.ok,I.os,I.bare,I.base,I.loc,I.cell,I.free,I.kM,fun p hp=>(WX.mp hp).elim (fun z=>I.pin p (List.mem_append_left _ z)) (h p),I.hok,I.len⟩
theorem KA {N:List Str} (hN:N.Nodup) {i j:Nat} {x:Str} (a:N[i]?=some x) (b:N[j]?=some x):i=j:=by
 obtain ⟨h1,e1⟩:=Ww.mp a
 obtain ⟨h2,e2⟩:=Ww.mp b
 exact (List.getElem_inj hN).mp (e1.trans e2.symm)
theorem KC {M:Model} {A:Around} {E:Value->Shared->Prop} {i:Nat} {x:Str} {v:V} {u:Value} {Q:Unit->Shared->Prop} (I:Inv X pins σ H s) (hN:X.N.Nodup) (hi:X.N[i]?=some x) (hx:Loc X.env.scope x) (r:RelV v u)
  (h:∀ s',Inv X pins (σ.set i (some v)) H s'->(∃ a,Heap.SameBut a s.heap s'.heap/\(a=X.env.locals\/X.env.cells.lookup x=some a))->Q () s') (hf:X.fn x=true\/X.env.scope.names.lookup x=some .local:=by first | exact .inl rfl | exact .inr rfl | assumption):wpAny M A (storeName X.env x u) Q E s:=by
 obtain ⟨m,hn,hl⟩:=id I.loc
 have hcls:(X.env.scope.kind == .class || (X.env.scope.kind == .module && X.env.locals != X.env.globals))=false:=by rw [I.ok.kind];rfl
 have hiσ:i < σ.length:=by rw [I.len];exact (Ww.mp hi).1
 have w8:=I.w8
 have tracked:∀ {a:Addr} {h':Heap},(∃ o,s.heap.get? a=some o/\H a=none)->Heap.SameBut a s.heap h'->lK X.prog X.w H h':=fun {a h'} ha hs b ob e=>by
  obtain ⟨_,_,hfree⟩:=ha
  refine (I.hok b ob e).stay (fun c w' hc q=>(hs.2 c ?_).trans q) (fun _ q=>q) fun _ _ q=>q
  rintro rfl
  rcases hc with rfl | hc
  ·rw [hfree] at e;cases e
  ·rw [hfree] at hc;cases hc
 rcases hx with hk | hk
 ·refine wpAny_storeName_local hk hn (fun h' hn' hs=>?_) hcls
  obtain ⟨oL,_,_,OM,_⟩:=id hn
  refine h _ ⟨I.ok,I.os,I.bare,⟨fun b o e n hb hx=>?_,fun b o e n hb hx=>?_,I.base.free,fun b o e hx=>?_,I.base.tups,I.base.oE,I.base.o8⟩,⟨_,hn',fun j y v' e1 e2 e3=>?_⟩,fun y c e=>?_,I.free,I.kM,fun p hp=>?_,tracked ⟨oL,OM,I.free⟩ hs,by simpa using I.len⟩ ⟨_,hs,.inl rfl⟩
  ·exact (hs.2 b (Xb (W5 (WU e) I.ok.above))).trans (I.base.keep b o e n hb hx)
  ·obtain ⟨sl,e1⟩:=I.base.slot b o e n hb hx
   exact ⟨sl,(hs.2 b (Xb (W5 (WU e) I.ok.above))).trans e1⟩
  ·obtain ⟨o',e1⟩:=I.base.there b o e hx
   exact ⟨o',(hs.2 b (Xb (W5 (WU e) I.ok.above))).trans e1⟩
  ·by_cases hj:j=i
   ·subst hj
    rw [hi] at e1;cases e1
    rw [WC hiσ] at e2
    cases e2
    exact ⟨u,r,.inl ⟨hk,by simp⟩⟩
   ·rw [WE (Ne.symm hj)] at e2
    obtain ⟨u',r',q⟩:=hl j y v' e1 e2 e3
    refine ⟨u',r',?_⟩
    rcases q with ⟨k,e⟩ | ⟨k,c,e,z⟩
    ·refine .inl ⟨k,?_⟩
     have:y≠x:=fun e=>hj (KA hN e1 (e ▸ hi))
     simp [this,e]
    ·exact .inr ⟨k,c,e,z.sameBut hs (w8 y c e)⟩
  ·obtain ⟨w',z⟩:=I.cell y c e
   exact ⟨w',z.sameBut hs (w8 y c e)⟩
  ·obtain ⟨e,n,ne,nf,d⟩:=I.pin p hp
   exact ⟨(hs.2 p.1 ne).trans e,n,ne,nf,d⟩
 ·have hfn:X.fn x=true:=by
   rcases hf with z | z
   ·exact z
   ·rw [z] at hk;cases hk
  obtain ⟨c,hc⟩:=I.ok.has x (.inl hk)
  obtain ⟨w',z⟩:=I.cell x c hc
  refine wpAny_storeName_cell I.ok.kind hk hc z (fun h' hc' hs=>?_)
  obtain ⟨oc,hoc,Hx⟩:=id z
  refine h { s with heap:=h' } ⟨I.ok,I.os,I.bare,⟨fun b o e n hb hx=>?_,fun b o e n hb hx=>?_,I.base.free,fun b o e hx=>?_,I.base.tups,I.base.oE,I.base.o8⟩,⟨m,hn.sameBut hs (Ne.symm (w8 x c hc)),fun j y v' e1 e2 e3=>?_⟩,fun y c' e=>?_,I.free,I.kM,fun p hp=>?_,tracked ⟨oc,hoc,I.kM x c hc⟩ hs,by simpa using I.len⟩ ⟨c,hs,.inr hc⟩
  ·exact (hs.2 b (Xb (W5 (WU e) (I.ok.A7 x c hfn hc)))).trans (I.base.keep b o e n hb hx)
  ·obtain ⟨sl,e1⟩:=I.base.slot b o e n hb hx
   exact ⟨sl,(hs.2 b (Xb (W5 (WU e) (I.ok.A7 x c hfn hc)))).trans e1⟩
  ·obtain ⟨o',e1⟩:=I.base.there b o e hx
   exact ⟨o',(hs.2 b (Xb (W5 (WU e) (I.ok.A7 x c hfn hc)))).trans e1⟩
  ·by_cases hj:j=i
   ·subst hj
    rw [hi] at e1;cases e1
    rw [WC hiσ] at e2
    cases e2
    exact ⟨u,r,.inr ⟨.inl hk,c,hc,hc'⟩⟩
   ·rw [WE (Ne.symm hj)] at e2
    obtain ⟨u',r',q⟩:=hl j y v' e1 e2 e3
    refine ⟨u',r',?_⟩
    rcases q with q | ⟨k,c',e,z'⟩
    ·exact .inl q
    ·refine .inr ⟨k,c',e,z'.sameBut hs ?_⟩
     rintro rfl
     exact hj (KA hN e1 (I.ok.inj _ _ _ e hc ▸ hi))
  ·by_cases hcc:c'=c
   ·subst hcc;exact ⟨_,hc'⟩
   ·obtain ⟨w2,z2⟩:=I.cell y c' e
    exact ⟨w2,z2.sameBut hs hcc⟩
  ·obtain ⟨e,n,ne,nf,d⟩:=I.pin p hp
   refine ⟨(hs.2 p.1 ?_).trans e,n,ne,nf,d⟩
   intro q
   rw [q,hoc] at e
   have q':oc=p.2:=WJ e
   exact d w' (by rw [<- q'];exact Hx)
theorem EW {M:Model} {A:Around} {E:Value->Shared->Prop} {i:Nat} {x:Str} {v:V} {u:Value} {Q:Unit->Shared->Prop} (I:Inv X pins σ H s) (hN:X.N.Nodup) (hi:X.N[i]?=some x) (hx:Loc X.env.scope x) (r:RelV v u)
  (h:∀ s',Inv X pins (σ.set i (some v)) H s'->Q () s') (hf:X.fn x=true\/X.env.scope.names.lookup x=some .local:=by first | exact .inl rfl | exact .inr rfl | assumption):wpAny M A (storeName X.env x u) Q E s :=
 KC I hN hi hx r (fun s' I' _=>h s' I') hf
theorem Inv.Bb {s':Shared} {ch:List Addr} (I:Inv X pins σ H s) (ho:s'.os=s.os) (u:Un (frs X.stack) ch H H' s.heap s'.heap) (hok:lK X.prog X.w H' s'.heap) (hg:AllBare s'.gens)
  (hch:∀ b∈ch,(b∈X.ex\/X.s₀.heap.objs.size<=b)/\b≠X.env.locals/\(∀ x c,X.env.cells.lookup x=some c->c≠b)/\∀ p∈X.pn ++ pins,p.1≠b):Inv X pins σ H' s':=by
 obtain ⟨h',g',d',t',o'⟩:=s'
 have e:o'=s.os:=ho
 subst e
 exact I.call (g':=g') (t':=t') (d':=d') u hok hg hch
end
abbrev XK:=Value->Option Addr->Hp->Prop
abbrev St:=List (Option V)
abbrev VK:=V->Hp->Prop
abbrev TE:=St->Hp->VK->Prop
abbrev TT:=St->Hp->(Bool->Hp->Prop)->Prop
abbrev TA:=St->Hp->(List V->Hp->Prop)->Prop
set_option genInjectivity false in
structure Ends where
 nx:St->Hp->Prop
 rt:VK
 bk:St->Hp->Prop:=fun _ _=>False
 ct:St->Hp->Prop:=fun _ _=>False
abbrev TS:=Ends->St->Hp->Prop
def EP (X:Cx) (pins:List (Addr×Obj)) (σ:St) (Q:VK) (u:Value) (s':Shared):Prop:=∃ v H',Inv X pins σ H' s'/\RelV v u/\Q v H'
def TP (X:Cx) (pins:List (Addr×Obj)) (σ:St) (Q:Bool->Hp->Prop) (b:Bool) (s':Shared):Prop:=∃ H',Inv X pins σ H' s'/\Q b H'
def AP (X:Cx) (pins:List (Addr×Obj)) (σ:St) (Q:List V->Hp->Prop) (us:List Value) (s':Shared):Prop:=∃ vs H',Inv X pins σ H' s'/\Vals vs us/\Q vs H'
def SP (X:Cx) (pins:List (Addr×Obj)) (D:Ends) (f:Flow) (s':Shared):Prop :=
 match f with
 | .next=>∃ σ' H',Inv X pins σ' H' s'/\D.nx σ' H'
 | .brk=>∃ σ' H',Inv X pins σ' H' s'/\D.bk σ' H'
 | .cont=>∃ σ' H',Inv X pins σ' H' s'/\D.ct σ' H'
 | .ret u=>∃ v σ' H',Inv X pins σ' H' s'/\RelV v u/\D.rt v H'
def PE (X:Cx) (e:Expr) (t:TE):Prop :=
 ∀ (pins:List (Addr×Obj)) (s:Shared) (σ:St) (H:Hp) (Q:VK),Inv X pins σ H s->t σ H Q->wpAny (model X.prog X.w) X.A (eval e X.env) (EP X pins σ Q) X.xe s
def PT (X:Cx) (e:Expr) (t:TT):Prop :=
 ∀ (pins:List (Addr×Obj)) (s:Shared) (σ:St) (H:Hp) (Q:Bool->Hp->Prop),Inv X pins σ H s->t σ H Q->wpAny (model X.prog X.w) X.A (isTrue e X.env (eval e X.env)) (TP X pins σ Q) X.xe s
def PW (X:Cx) (e:Expr) (t:TT):Prop :=
 ∀ (whole:Sem Value) (pins:List (Addr×Obj)) (s:Shared) (σ:St) (H:Hp) (Q:Bool->Hp->Prop),Inv X pins σ H s->t σ H Q->wpAny (model X.prog X.w) X.A (isTrue e X.env whole) (TP X pins σ Q) X.xe s
theorem PW.pt {X:Cx} {e:Expr} {t:TT} (h:PW X e t):PT X e t:=h _
def PA (X:Cx) (es:List Expr) (t:TA):Prop :=
 ∀ (pos:Pos) (pins:List (Addr×Obj)) (s:Shared) (σ:St) (H:Hp) (Q:List V->Hp->Prop),Inv X pins σ H s->t σ H Q->wpAny (model X.prog X.w) X.A (spliced (backTo pos (starEach es X.env))) (AP X pins σ Q) X.xe s
def PS (X:Cx) (st:Stmt) (t:TS):Prop :=
 ∀ (pins:List (Addr×Obj)) (s:Shared) (σ:St) (H:Hp) (D:Ends),Inv X pins σ H s->t D σ H->wpAny (model X.prog X.w) X.A (exec st X.env) (SP X pins D) X.xe s
def qg (X:Cx) (st:List Stmt) (t:TS):Prop :=
 ∀ (pins:List (Addr×Obj)) (s:Shared) (σ:St) (H:Hp) (D:Ends),Inv X pins σ H s->t D σ H->wpAny (model X.prog X.w) X.A (execs st X.env) (SP X pins D) X.xe s
theorem cQ {α:Type} {t:Sem α} {Q Q':α->Shared->Prop} {M:Model} {A:Around} {E:Value->Shared->Prop} {s:Shared} (h:wpAny M A t Q E s) (hQ:∀ a s,Q a s->Q' a s):wpAny M A t Q' E s:=wpAny_mono h hQ fun _ _ x=>x
section
variable {X:Cx}
def xb (i:Nat):TE:=fun σ H Q=>∃ v,σ[i]?=some (some v)/\Q v H
def tC (v:V):TE:=fun _ H Q=>Q v H
theorem xc {i:Nat} {x:Str} {pos:Pos} (hN:X.N[i]?=some x) (hv:Hu X.env.scope x) (hd:(x == ("__debug__" : Str))=false:=by decide) (hcd:(x == ("__classdict__" : Str))=false:=by decide):PE X (.Name x pos) (xb i):=by
 intro pins s σ H Q I h
 obtain ⟨v,e,h⟩:=h
 obtain ⟨m,hn,hl⟩:=I.loc
 obtain ⟨u,r,l⟩:=hl i x v hN e hv
 have fin:EP X pins σ Q u s:=⟨v,H,I,r,h⟩
 rcases l with ⟨hk,hm⟩ | ⟨hk,c,hc,hcell⟩
 ·exact wpAny_Name (wpAny_loadName_local I.ok.kind hk hn hm fin) hd
 ·rcases hk with hk | hk
  ·exact wpAny_Name (wpAny_loadName_cell I.ok.kind hk hc hcell fin) hd
  ·exact wpAny_Name (wpAny_loadName_free I.ok.kind hk hc hcell fin hcd) hd
theorem aK {i j pos}:PE X (.Constant (.int i) j pos) (tC (.int i)):=fun _ _ _ H _ I h=>wpAny_Constant_int ⟨.int i,H,I.tok _,⟨_,rfl⟩,h⟩
theorem Bc {b j pos}:PE X (.Constant (.bool b) j pos) (tC (.bl b)):=fun _ _ _ H _ I h=>Constant_bool ⟨.bl b,H,I,rfl,h⟩
theorem KD {j pos}:PE X (.Constant .none j pos) (tC .non):=fun _ _ _ H _ I h=>Constant_none ⟨.non,H,I,rfl,h⟩
theorem o9 {x j pos}:PE X (.Constant (.str x) j pos) (tC (.str x)):=fun _ _ _ H _ I h=>Calls.Constant_str ⟨.str x,H,I.tok _,⟨_,rfl⟩,h⟩
def Gl (X:Cx) (x:Str):Prop:=X.env.kindOf x=some .globalImplicit
theorem KG {E:Value->Shared->Prop} {pins:List (Addr×Obj)} {s:Shared} {σ:St} {H:Hp} {x:Str} {u:Value} {pos:Pos} {Q:Value->Shared->Prop} (I:Inv X pins σ H s) (hg:Gl X x) (hm:X.mg x=some u) (h:Q u s)
  (hd:(x == ("__debug__" : Str))=false:=by decide):wpAny (model X.prog X.w) X.A (eval (.Name x pos) X.env) Q E s :=
 Calls.Name_function_global I.ok.kind hg (Calls.loadGlobal_global (by rw [I.ok.glob];exact I.mod.glob.keeps I.bk) hm h) hd
theorem zT {E:Value->Shared->Prop} {pins:List (Addr×Obj)} {s:Shared} {σ:St} {H:Hp} {x:Str} {u:Value} {pos:Pos} {Q:Value->Shared->Prop} (I:Inv X pins σ H s) (hg:Gl X x) (hm:X.mg x=none) (hv:bootBuiltins x=some u) (h:Q u s)
  (hn:x≠"__name__" := by decide) (hd:(x == ("__debug__" : Str))=false:=by decide):wpAny (model X.prog X.w) X.A (eval (.Name x pos) X.env) Q E s:=by
 obtain ⟨mb,h1,h2⟩:=I.mod.blt
 exact Calls.Name_function_global I.ok.kind hg (Calls.loadGlobal_builtin (by rw [I.ok.glob];exact I.mod.glob.keeps I.bk) hm (by rw [I.ok.blt];exact h1.keeps I.bk) ((h2 x hn).trans hv) h) hd
theorem OO {x:Str} {v:V} {u:Value} {pos:Pos} (hg:Gl X x) (hm:X.mg x=some u) (r:RelV v u) (hd:(x == ("__debug__" : Str))=false:=by decide):PE X (.Name x pos) (tC v) :=
 fun _ _ _ H _ I h=>KG I hg hm ⟨v,H,I,r,h⟩ hd
variable {a b:Expr} {ta tb:TE} {pos:Pos}
def PC (X:Cx) (op:CmpOp) (a b:Expr) (t:TE):Prop :=
 ∀ (pins:List (Addr×Obj)) (s:Shared) (σ:St) (H:Hp) (Q:VK),Inv X pins σ H s->t σ H Q ->
  wpAny (model X.prog X.w) X.A (eval a X.env) (fun v s₁=>wpAny (model X.prog X.w) X.A (eval b X.env) (fun u s₂=>wpAny (model X.prog X.w) X.A (compareOp op v u) (EP X pins σ Q) X.xe s₂) X.xe s₁) X.xe s
theorem rE (b:Expr) {op:CmpOp} (h:op≠.In) (h2:op≠.NotIn):behindInMarks op b=false:=by
 have e1:(op == CmpOp.In)=false:=by cases op <;> first | rfl | exact absurd rfl h
 have e2:(op == CmpOp.NotIn)=false:=by cases op <;> first | rfl | exact absurd rfl h2
 cases b <;> simp [behindInMarks,e1,e2]
def tB (t:TE):TT:=fun σ H Q=>t σ H fun x H1=>∃ c,x=.bl c/\Q c H1
theorem xf {op:CmpOp} {t:TE} (h:PC X op a b t) (h1:behindInMarks op b=false:=by first | exact rE _ (by decide) (by decide) | rfl):PT X (.Compare a [op] [b] pos) (tB t):=by
 intro pins s σ H Q I hw
 refine wpAny_isTrue_Compare1 (cQ (h pins s σ H _ I hw) fun v s1 h1=>cQ h1 fun u s2 h2=>cQ h2 fun c s3 ⟨x,H1,I1,r1,q1⟩=>?_) h1
 obtain ⟨d,rfl,q⟩:=q1
 cases r1
 exact wpAny_truthy_bool ⟨H1,I1,q⟩
theorem xg {e:Expr} {t:TE} (h:PE X e t) (he:∀ whole,isTrue e X.env whole=(do let v <- whole;standAt e.pos;holding [v] (truthy v)):=by intro _;rfl):PT X e (tB t):=by
 intro pins s σ H Q I hw
 refine isTrue_plain (cQ (h pins s σ H _ I hw) fun v s1 ⟨x,H1,I1,r1,q1⟩=>?_) (he _)
 obtain ⟨d,rfl,q⟩:=q1
 cases r1
 exact wpAny_truthy_bool ⟨H1,I1,q⟩
variable {tA KH:TT} {rest:List Expr}
def Bd (t u:TT):TT:=fun σ H Q=>t σ H fun c H1=>if c=true then u σ H1 Q else Q false H1
def Be (t:TT):TT:=fun σ H Q=>t σ H fun c H1=>Q (!c) H1
theorem Hy (ha:PT X a tA):PW X (.BoolOp .And [a] pos) tA:=by
 intro wh pins s σ H Q I h
 refine isTrue_and (cQ (ha pins s σ H Q I h) fun c s1 e=>?_)
 cases c with
 | true=>exact isTrue_and_nil e
 | false=>exact e
theorem Hz (ha:PT X a tA) (hb:PW X (.BoolOp .And (b :: rest) pos) KH):PW X (.BoolOp .And (a :: b :: rest) pos) (Bd tA KH):=by
 intro wh pins s σ H Q I h
 refine isTrue_and (cQ (ha pins s σ H _ I h) fun c s1 ⟨H1,I1,q1⟩=>?_)
 cases c with
 | true=>exact hb wh pins s1 σ H1 Q I1 q1
 | false=>exact ⟨H1,I1,q1⟩
theorem xh (ha:PT X a tA):PT X (.UnaryOp .Not a pos) (Be tA):=by
 intro pins s σ H Q I h
 exact isTrue_not (ha pins s σ H (fun c H1=>Q (!c) H1) I h)
def uW (ta tb:TE):TE:=fun σ H Q=>ta σ H fun x H1=>∃ c,x=.bl c/\if c=true then tb σ H1 Q else Q (.bl false) H1
theorem xi {op} {t:TE} (h:PE X a t):PE X (.BoolOp op [a] pos) t:=fun pins s σ H Q I hw=>BoolOp_one (h pins s σ H Q I hw)
theorem xj (ha:PE X a ta) (hb:PE X (.BoolOp .And (b :: rest) pos) tb):PE X (.BoolOp .And (a :: b :: rest) pos) (uW ta tb):=by
 intro pins s σ H Q I h
 refine BoolOp_and (cQ (ha pins s σ H _ I h) fun v s1 ⟨x,H1,I1,r1,q1⟩=>?_)
 obtain ⟨c,rfl,q1⟩:=q1
 cases r1
 refine wpAny_truthy_bool ?_
 cases c with
 | true=>exact hb pins s1 σ H1 Q I1 q1
 | false=>exact ⟨.bl false,H1,I1,rfl,q1⟩
end
def jy (K:Zfr) (H:Hp) (a:Addr) (xs:List V):Prop :=
 Rd H a (.lst xs) \/
  ∃ (o:Obj) (its:Array Value) (n:Nat),K.lookup a=some o/\o.cls=.type "list" /\ o.dict=none/\o.data=.seq its n/\its.size<=sizeLine/\Vals xs its.toList
def fj (K:Zfr) (H:Hp) (a:Addr) (xs:List V):Prop :=
 Rd H a (.tup xs) \/
  ∃ (o:Obj) (its:Array Value) (n:Nat),K.lookup a=some o/\o.cls=.type "tuple" /\ o.dict=none/\o.data=.seq its n/\its.size<=sizeLine/\Vals xs its.toList
def HA:Value->Option V
 | .none=>some .non
 | .bool b=>some (.bl b)
 | .int i _=>some (.int i)
 | .str x _=>some (.str x)
 | .bytes b _=>some (.rC b)
 | .float b _=>some (.Hq b)
 | .ref a=>some (.ref a)
 | .type n=>some (.ty n)
 | _=>none
theorem RelV.abs {x:V} {u:Value} (r:RelV x u):HA u=some x:=by
 cases x with
 | non=>cases r;rfl
 | bl _=>cases r;rfl
 | int _=>obtain ⟨t,rfl⟩:=r;rfl
 | str _=>obtain ⟨t,rfl⟩:=r;rfl
 | rC _=>obtain ⟨t,rfl⟩:=r;rfl
 | Hq _=>obtain ⟨t,rfl⟩:=r;rfl
 | ref _=>cases r;rfl
 | ty _=>cases r;rfl
theorem RelV.inj {x y:V} {u:Value} (r:RelV x u) (q:RelV y u):x=y:=WJ (r.abs.symm.trans q.abs)
theorem Vals.inj:∀ {xs ys:List V} {us:List Value},Vals xs us->Vals ys us->xs=ys
 | _,_,_,.nil,.nil=>rfl
 | _,_,_,.cons r t,.cons r' t'=>by rw [r.inj r',Vals.inj t t']
section
variable {X:Cx} {pins:List (Addr×Obj)} {σ:St} {H:Hp} {s:Shared} {a:Addr} {xs ys:List V}
theorem fj.of {K:Zfr} (h:H a=some (.tup xs)):fj K H a xs:=.inl (.inl h)
theorem Inv.list (I:Inv X pins σ H s) (h:jy X.K H a xs):∃ its:List Value,Vals xs its/\PlainL s.heap a its.toArray/\xs.length<=sizeLine:=by
 rcases h with h | ⟨o,its,n,hk,hc,hd,hs,hz,r⟩
 ·obtain ⟨z,its,n,r,e⟩:=h.ok I.hok
  exact ⟨its,r,⟨_,n,e,rfl,rfl,rfl⟩,z⟩
 ·refine ⟨its.toList,r,⟨o,n,I.EU a o hk,hc,hd,by simpa using hs⟩,?_⟩
  have e:=r.length
  simp only [Array.length_toList] at e
  omega
theorem Inv.pX (I:Inv X pins σ H s) (h:fj X.K H a xs):∃ its:List Value,Vals xs its/\oD s.heap a its.toArray/\xs.length<=sizeLine:=by
 rcases h with h | ⟨o,its,n,hk,hc,hd0,hs,hz,r⟩
 ·obtain ⟨z,its,r,p⟩:=h.ok I.hok
  exact ⟨its,r,p,z⟩
 ·refine ⟨its.toList,r,⟨o,I.EU a o hk,hc,hd0,n,by simpa using hs⟩,?_⟩
  have e:=r.length
  simp only [Array.length_toList] at e
  omega
theorem Inv.tuple (I:Inv X pins σ H s) (h:fj X.K H a xs):∃ its:List Value,Vals xs its/\IsTup s.heap a its.toArray/\xs.length<=sizeLine :=
 let ⟨its,r,p,z⟩:=I.pX h
 ⟨its,r,p.tup,z⟩
theorem Inv.pd (I:Inv X pins σ H s) (h:jy X.K H a xs) (h':jy X.K H a ys):xs=ys:=by
 obtain ⟨its,r,⟨o,n,e,_,_,d⟩,_⟩:=I.list h
 obtain ⟨its',r',⟨o',n',e',_,_,d'⟩,_⟩:=I.list h'
 rw [e] at e';cases e'
 rw [d] at d'
 injection d' with d1 _
 have:its=its':=by simpa using congrArg Array.toList d1
 subst this
 exact r.inj r'
theorem Inv.iy (I:Inv X pins σ H s) (h:fj X.K H a xs) (h':fj X.K H a ys):xs=ys:=by
 obtain ⟨its,r,⟨o,e,_,n,d⟩,_⟩:=I.tuple h
 obtain ⟨its',r',⟨o',e',_,n',d'⟩,_⟩:=I.tuple h'
 rw [e] at e';cases e'
 rw [d] at d'
 injection d' with d1 _
 have:its=its':=by simpa using congrArg Array.toList d1
 subst this
 exact r.inj r'
end
abbrev Cx.wish (X:Cx) (E:Value->Shared->Prop):Cx:={ X with xe:=E }
abbrev Cx.n8 (X:Cx):Cx:=X.wish fun _ _=>False
theorem Cx.Ok.wish {X:Cx} (ok:X.Ok) (E:Value->Shared->Prop):(X.wish E).Ok :=
 ⟨ok.mod,ok.kind,ok.glob,ok.blt,ok.above,ok.inj,ok.has,ok.A7,ok.hd,ok.frames,ok.stk,ok.Kz,ok.bs,ok.uU,ok.rD,ok.t9,ok.nC,ok.zS⟩
theorem Cx.Ok.jM {X:Cx} {E:Value->Shared->Prop} (ok:(X.wish E).Ok):X.Ok :=
 ⟨ok.mod,ok.kind,ok.glob,ok.blt,ok.above,ok.inj,ok.has,ok.A7,ok.hd,ok.frames,ok.stk,ok.Kz,ok.bs,ok.uU,ok.rD,ok.t9,ok.nC,ok.zS⟩
section
variable {X:Cx} {pins:List (Addr×Obj)} {σ:St} {H:Hp} {s:Shared} {E:Value->Shared->Prop}
theorem Inv.wish (I:Inv X pins σ H s) (E:Value->Shared->Prop):Inv (X.wish E) pins σ H s:=⟨I.ok.wish E,I.os,I.bare,I.base,I.loc,I.cell,I.free,I.kM,I.pin,I.hok,I.len⟩
theorem Inv.jM (I:Inv (X.wish E) pins σ H s):Inv X pins σ H s:=⟨I.ok.jM,I.os,I.bare,I.base,I.loc,I.cell,I.free,I.kM,I.pin,I.hok,I.len⟩
theorem SP.jM {D:Ends} {f:Flow} {s':Shared} (h:SP (X.wish E) pins D f s'):SP X pins D f s':=by
 cases f with
 | next=>obtain ⟨σ',H',I,q⟩:=h;exact ⟨σ',H',I.jM,q⟩
 | brk=>obtain ⟨σ',H',I,q⟩:=h;exact ⟨σ',H',I.jM,q⟩
 | cont=>obtain ⟨σ',H',I,q⟩:=h;exact ⟨σ',H',I.jM,q⟩
 | ret u=>obtain ⟨v,σ',H',I,r,q⟩:=h;exact ⟨v,σ',H',I.jM,r,q⟩
theorem qg.n8 {st:List Stmt} {t:TS} (h:qg X.n8 st t):qg X st t:=fun pins s σ H D I hw =>
 wpAny_mono (h pins s σ H D (I.wish _) hw) (fun _ _ q=>q.jM) fun _ _ z=>False.elim z
end
section
variable {X:Cx} {st:Stmt} {rest:List Stmt} {t u:TS} {e:Expr} {te:TE} {pos:Pos}
def uX:TS:=fun D σ H=>D.nx σ H
def Bf (t u:TS):TS:=fun D σ H=>t { D with nx:=u D } σ H
theorem kg:qg X [] uX:=fun _ _ σ H _ I h=>wpAny_execs_nil ⟨σ,H,I,h⟩
theorem aZ (h1:PS X st t) (h2:qg X rest u):qg X (st :: rest) (Bf t u):=by
 intro pins s σ H D I h
 refine wpAny_execs_cons (cQ (h1 pins s σ H { D with nx:=u D } I h) fun f s1 q=>?_)
 cases f with
 | next =>
  obtain ⟨σ',H',I',q⟩:=q
  exact h2 pins s1 σ' H' D I' q
 | ret v=>exact q
 | brk=>exact q
 | cont=>exact q
theorem bg (h1:PS X st t):qg X [st] t:=by
 intro pins s σ H D I h
 refine wpAny_execs_cons (cQ (h1 pins s σ H D I h) fun f s1 q=>?_)
 cases f with
 | next=>exact wpAny_execs_nil q
 | ret v=>exact q
 | brk=>exact q
 | cont=>exact q
theorem Inv.quiet {pins:List (Addr×Obj)} {σ:St} {H:Hp} {s:Shared} (I:Inv X pins σ H s):interactive X.env=false:=by simp [interactive,I.ok.kind]
def uY (te:TE):TS:=fun D σ H=>te σ H fun _ H1=>D.nx σ H1
theorem pM (he:PE X e te) (hs:swapsWith e none pos.line X.env=pure false:=by rfl):PS X (.Expr e pos) (uY te):=by
 intro pins s σ H D I h
 exact wpAny_Expr_any (cQ (he pins s σ H _ I h) fun v s1 ⟨x,H1,I1,r1,q1⟩=>⟨σ,H1,I1,q1⟩) I.quiet hs
def Bg (te:TE):TS:=fun D σ H=>te σ H D.rt
theorem dj (he:PE X e te):PS X (.Return (some e) pos) (Bg te):=by
 intro pins s σ H D I h
 exact wpAny_Return_some (cQ (he pins s σ H _ I h) fun v s1 ⟨x,H1,I1,r1,q1⟩=>⟨x,σ,H1,I1,r1,q1⟩)
def Bh (c:TT) (t u:TS):TS:=fun D σ H=>c σ H fun b H1=>if b=true then t D σ H1 else u D σ H1
theorem jC {c:Expr} {a b:List Stmt} {tc:TT} (hc:PT X c tc) (ha:qg X a t) (hb:qg X b u):PS X (.If c a b pos) (Bh tc t u):=by
 intro pins s σ H D I h
 refine wpAny_If (cQ (hc pins s σ H _ I h) fun d s1 ⟨H1,I1,q1⟩=>?_)
 cases d with
 | true=>exact ha pins s1 σ H1 D I1 q1
 | false=>exact hb pins s1 σ H1 D I1 q1
def rF:TS:=fun _ _ _=>False
theorem KI:PS X st rF:=fun _ _ _ _ _ _ h=>h.elim
end
abbrev TG:=V->St->Hp->(St->Hp->Prop)->Prop
abbrev tj:=List V->St->Hp->(St->Hp->Prop)->Prop
def PG (X:Cx) (target:Expr) (t:TG):Prop :=
 ∀ (pins:List (Addr×Obj)) (s:Shared) (σ:St) (H:Hp) (v:V) (u:Value) (Q:St->Hp->Prop),Inv X pins σ H s->RelV v u->t v σ H Q ->
  wpAny (model X.prog X.w) X.A (assign target X.env u) (fun _ s'=>∃ σ' H',Inv X pins σ' H' s'/\Q σ' H') X.xe s
def EX (X:Cx) (ts:List Expr) (t:tj):Prop :=
 ∀ (pins:List (Addr×Obj)) (s:Shared) (σ:St) (H:Hp) (vs:List V) (us:List Value) (Q:St->Hp->Prop),Inv X pins σ H s->Vals vs us->t vs σ H Q ->
  wpAny (model X.prog X.w) X.A (assignInOrder ((assignEach ts X.env).map (·.2)) us) (fun _ s'=>∃ σ' H',Inv X pins σ' H' s'/\Q σ' H') X.xe s
abbrev xk:=V->V->V->Hp->(Hp->Prop)->Prop
def Bi (X:Cx) (t:xk):Prop :=
 ∀ (pins:List (Addr×Obj)) (s:Shared) (σ:St) (H:Hp) (o i v:V) (ov iv u:Value) (Q:Hp->Prop),Inv X pins σ H s->RelV o ov->RelV i iv->RelV v u->t o i v H Q ->
  wpAny (model X.prog X.w) X.A (setItem ov iv u) (fun _ s'=>∃ H',Inv X pins σ H' s'/\Q H') X.xe s
section
variable {X:Cx} {pos:Pos}
def pe (i:Nat):TG:=fun v σ H Q=>Q (σ.set i (some v)) H
theorem dr {i:Nat} {x:Str} (hN:X.N.Nodup) (hi:X.N[i]?=some x) (hx:Loc X.env.scope x) (hf:X.fn x=true\/X.env.scope.names.lookup x=some .local:=by first | exact .inl rfl | exact .inr rfl | assumption):PG X (.Name x pos) (pe i):=by
 intro pins s σ H v u Q I r h
 exact wpAny_assign_Name (EW I hN hi hx r (fun s' I'=>⟨_,H,I',h⟩) hf)
def Bj:tj:=fun vs σ H Q=>vs=[]/\Q σ H
def uZ (t:TG) (u:tj):tj:=fun vs σ H Q=>∃ v r,vs=v :: r/\t v σ H fun σ' H'=>u r σ' H' Q
theorem tm:EX X [] Bj:=by
 intro pins s σ H vs us Q I r h
 obtain ⟨e,h⟩:=h
 subst e
 cases r
 exact assignInOrder_nil ⟨σ,H,I,h⟩
theorem mK {e:Expr} {es:List Expr} {t:TG} {u:tj} (h1:PG X e t) (h2:EX X es u)
  (hs:(assignEach (e :: es) X.env).map (·.2)=assign e X.env :: (assignEach es X.env).map (·.2):=by rfl):EX X (e :: es) (uZ t u):=by
 intro pins s σ H vs us Q I r h
 obtain ⟨v,vr,e1,h⟩:=h
 subst e1
 cases r with
 | cons r rr =>
  rw [hs]
  refine assignInOrder_cons (cQ (h1 pins s σ H _ _ _ I r h) fun _ s1 ⟨σ1,H1,I1,q1⟩=>?_)
  exact h2 pins s1 σ1 H1 _ _ Q I1 rr q1
def Bk (K:Zfr) (n:Nat) (t:tj):TG:=fun v σ H Q=>∃ a xs,v=.ref a/\fj K H a xs/\xs.length=n/\t xs σ H Q
theorem tq {es:List Expr} {k:Nat} {t:tj} {n:Nat} (hc:X.calm=true) (h:EX X es t)
  (hn:(assignEach es X.env).length=n:=by rfl) (hst:(assignEach es X.env).findIdx? (·.1)=none:=by rfl):PG X (.Tuple es k pos) (Bk X.K n t):=by
 intro pins s σ H v u Q I r hw
 obtain ⟨a,xs,e1,hq,hl,hw⟩:=hw
 subst e1
 cases r
 obtain ⟨its,rv,ht,hz⟩:=I.tuple hq
 refine assign_Tuple_tuple (I.ok.hd hc) ht (by simp [hn,<- hl,rv.length]) hst fun h' hx=>?_
 have I1:Inv X pins σ H { s with heap:=h' }:=I.kept (t':=s.toks) fun b o e=>hx b o (Xb (WU e)) e
 exact h pins _ σ H xs _ Q I1 (by simpa using rv) hw
def mZ (to ti:TE) (t:xk):TG:=fun v σ H Q=>to σ H fun o H1=>ti σ H1 fun i H2=>t o i v H2 fun H3=>Q σ H3
theorem zU {o i:Expr} {to ti:TE} {t:xk} (ho:PE X o to) (hi:PE X i ti) (hs:Bi X t)
  (ha:∀ v,assign (.Subscript o i pos) X.env v=(do
   let ov <- holding [v] (eval o X.env)
   let iv <- holding [v,ov] (eval i X.env)
   standAt pos
   holding [v,ov,iv] (setItem ov iv v)
   release [v,ov,iv] []):=by intro _;rfl):PG X (.Subscript o i pos) (mZ to ti t):=by
 intro pins s σ H v u Q I r h
 rw [ha]
 refine wpAny_bind (wpAny_holding (cQ (ho pins s σ H _ I h) fun ov s1 ⟨x,H1,I1,r1,q1⟩=>?_))
 refine wpAny_bind (wpAny_holding (cQ (hi pins s1 σ H1 _ I1 q1) fun iv s2 ⟨y,H2,I2,r2,q2⟩=>?_))
 refine wpAny_bind (wpAny_standAt (wpAny_bind (wpAny_holding (cQ (hs pins s2 σ H2 x y v ov iv u _ I2 r1 r2 r q2) fun _ s3 ⟨H3,I3,q3⟩=>?_))))
 exact wpAny_release ⟨σ,H3,I3,q3⟩
def uc (te:TE) (g:TG):TS:=fun D σ H=>te σ H fun x H1=>g x σ H1 D.nx
theorem ud {tg e:Expr} {te:TE} {g:TG} (he:PE X e te) (hg:PG X tg g) (hs:swapsWithSole [tg] e pos.line X.env=pure false:=by rfl) (hw:swappedStores [tg] e X.env=pure none:=by rfl)
  (h1:(assignEach [tg] X.env).map (·.2)=[assign tg X.env]:=by rfl):PS X (.Assign [tg] e pos) (uc te g):=by
 intro pins s σ H D I h
 refine wpAny_Assign_stores (cQ (he pins s σ H _ I h) fun v s1 ⟨x,H1,I1,r1,q1⟩=>?_) hs hw
 rw [h1]
 exact cQ (hg pins s1 σ H1 x v _ I1 r1 q1) fun _ s2 q=>q
theorem bR {i:Nat} {x:Str} {e:Expr} {te:TE} {pos':Pos} (hN:X.N.Nodup) (hi:X.N[i]?=some x) (hx:Loc X.env.scope x) (he:PE X e te) (hs:swapsWith e (some (.Name x pos')) pos.line X.env=pure false:=by rfl) (hf:X.fn x=true\/X.env.scope.names.lookup x=some .local:=by first | exact .inl rfl | exact .inr rfl | assumption) :
  PS X (.Assign [.Name x pos'] e pos) (uc te (pe i)):=by
 intro pins s σ H D I h
 refine wpAny_Assign_Name (cQ (he pins s σ H _ I h) fun v s1 ⟨y,H1,I1,r1,q1⟩=>?_) hs
 exact EW I1 hN hi hx r1 (fun s2 I2=>⟨_,H1,I2,q1⟩) hf
def Bl (i j:Nat) (ta:TA):TS:=fun D σ H=>ta σ H fun vs H1=>∃ v w,vs=[v,w]/\D.nx ((σ.set i (some v)).set j (some w)) H1
theorem KJ {i j:Nat} {x y:Str} {a b:Expr} {ta:TA} {px py pt:Pos} {kt k2 HB} (hc:X.calm=true) (hN:X.N.Nodup) (hi:X.N[i]?=some x) (hj:X.N[j]?=some y) (hij:i≠j)
  (hx:X.env.scope.names.lookup x=some .local) (hy:X.env.scope.names.lookup y=some .local) (ha:PA X [a,b] ta)
  (hw:swappedStores [.Tuple [.Name x px,.Name y py] kt pt] (.Tuple [a,b] k2 HB) X.env=pure (some [x,y]))
  (hs:swapsWithSole [.Tuple [.Name x px,.Name y py] kt pt] (.Tuple [a,b] k2 HB) pos.line X.env=pure false:=by rfl) :
  PS X (.Assign [.Tuple [.Name x px,.Name y py] kt pt] (.Tuple [a,b] k2 HB) pos) (Bl i j ta):=by
 intro pins s σ H D I h
 rw [exec_Assign_arm]
 refine wpAny_bind (wpAny_standAt ?_)
 rw [hs]
 refine wpAny_bind (wpAny_pure ?_)
 rw [if_neg (by decide)]
 refine wpAny_bind (Tuple_ (cQ (ha _ pins s σ H _ I h) fun us s1 ⟨vs,H1,I1,r1,q1⟩=>?_))
 obtain ⟨v,w,e1,q1⟩:=q1
 subst e1
 obtain ⟨u1,u2,rfl,rv,rw'⟩:∃ u1 u2,us=[u1,u2]/\RelV v u1/\RelV w u2:=by
  cases r1 with
  | cons p q =>
   cases q with
   | cons p' q' =>
    cases q'
    exact ⟨_,_,rfl,p,p'⟩
 refine wpAny_newObj_type ?_ (by show 2<=sizeLine;decide)
 have I2:Inv X pins σ H1 { s1 with heap:=s1.heap.push { cls:=.type "tuple",data:=.seq [u1,u2].toArray } }:=I1.kept (t':=s1.toks) fun b o e=>WM _ e
 rw [hw]
 refine wpAny_bind (wpAny_pure ?_)
 show wpAny (model X.prog X.w) X.A (do rule "assign.swapped-stores";let items <- unpackItems (.ref s1.heap.objs.size) 2 none;assignInOrder [fun v=>bindName X.env y v,fun v=>bindName X.env x v] items.reverse;pure Flow.next) _ _ _
 refine wpAny_bind (wpAny_rule (wpAny_bind (unpackItems_tuple (items:=#[u1,u2]) (I.ok.hd hc) (IsTup.new s1.heap _) fun h' hx'=>?_)))
 have I3:=I2.kept (h':=h') (t':=s1.toks) fun b o e=>hx' b o (Xb (WU e)) e
 show wpAny _ _ (assignInOrder [fun v=>bindName X.env y v,fun v=>bindName X.env x v] [u2,u1] >>= fun _=>pure Flow.next) _ _ _
 refine wpAny_bind (assignInOrder_cons (wpAny_bindName (EW I3 hN hj (.inl hy) rw' (fun s2 I4=>?_) (.inr hy))))
 refine assignInOrder_cons (wpAny_bindName (EW I4 hN hi (.inl hx) rv (fun s3 I5=>assignInOrder_nil (wpAny_pure ?_)) (.inr hx)))
 rw [List.set_comm _ _ (Ne.symm hij)] at I5
 exact ⟨_,H1,I5,q1⟩
end
section
variable {X:Cx} {pos:Pos}
def rG (c:TT) (tb:TS):TS:=fun D σ H=>∃ W:Nat->St->Hp->Prop,(∃ m,W m σ H)/\∀ m σ H,W m σ H ->
 c σ H fun b H1=>if b=true then ∃ N:St->Hp->Prop,(∀ σ' H',N σ' H'->∃ m',m' < m/\W m' σ' H')/\tb { D with nx:=N,ct:=N,bk:=D.nx } σ H1 else D.nx σ H1
theorem xl {c:Expr} {body:List Stmt} {tc:TT} {tb:TS} (hp:PassesOwn (model X.prog X.w) X.A X.env X.xe) (hc:PT X c tc) (hb:qg X body tb):PS X (.While c body [] pos) (rG tc tb):=by
 intro pins s σ H D I h
 obtain ⟨W,⟨m0,w0⟩,turn⟩:=h
 refine wpAny_While (codeAny_whileLoop (fun n s'=>∃ σ' H',Inv X pins σ' H' s'/\W n σ' H') ?_ m0 ⟨σ,H,I,w0⟩)
 rintro n s1 ⟨σ1,H1,I1,w1⟩
 refine wpAny_passesOwn hp (cQ (hc pins s1 σ1 H1 _ I1 (turn n σ1 H1 w1)) fun b s2 ⟨H2,I2,q2⟩=>?_)
 cases b with
 | true =>
  obtain ⟨N,hN,q2⟩:=q2
  rw [if_pos rfl]
  refine wpAny_passesOwn hp (cQ (hb pins s2 σ1 H2 _ I2 q2) fun f s3 q3=>?_)
  cases f with
  | next =>
   obtain ⟨σ3,H3,I3,n3⟩:=q3
   obtain ⟨m',hm,w3⟩:=hN σ3 H3 n3
   exact ⟨m',hm,σ3,H3,I3,w3⟩
  | cont =>
   obtain ⟨σ3,H3,I3,n3⟩:=q3
   obtain ⟨m',hm,w3⟩:=hN σ3 H3 n3
   exact ⟨m',hm,σ3,H3,I3,w3⟩
  | brk=>exact q3
  | ret v=>exact q3
 | false =>
  rw [if_neg WD]
  exact wpAny_execs_nil ⟨σ1,H2,I2,q2⟩
end
set_option genInjectivity false in
structure It where
 go:Nat->Hp->Prop
 uf:Nat->Hp->V->Hp->Prop
 stop:Nat->Hp->Prop
def mj (X:Cx) (pins:List (Addr×Obj)) (H:Hp) (b:Addr):Prop :=
 H b=none/\b≠X.env.locals/\b ∉ X.fs/\(b∈X.ex\/X.s₀.heap.objs.size<=b)/\(∀ x c,X.env.cells.lookup x=some c->c≠b)/\∀ p∈X.pn ++ pins,p.1≠b
theorem Inv.pY {X:Cx} {pins:List (Addr×Obj)} {σ:St} {H H':Hp} {s:Shared} {b:Addr} (I:Inv X pins σ H s) (hb:s.heap.objs.size<=b) (hn:H' b=none):mj X pins H' b:=by
 refine ⟨hn,Nat.ne_of_gt (W5 I.lt hb),I.A8 hb,.inr (WO I.sz hb),fun x c e z=>?_,fun p hp z=>?_⟩
 ·obtain ⟨v,q⟩:=I.cell x c e
  exact absurd (W5 q.lt (by rw [z];exact hb)) (Nat.lt_irrefl _)
 ·exact absurd (W5 (WU (I.pin p hp).1) (by rw [z];exact hb)) (Nat.lt_irrefl _)
structure Turn (P:Program) (w:World) (K:Zfr) (tg:Expr) (J:It) (fp:List Addr) (it:Addr) (tn:Nat->Heap->Prop):Prop where
 mem:it∈fp
 obj:∀ i h,tn i h->∀ b∈fp,∃ o,h.get? b=some o/\∀ v,o.data≠.cell v
 keep:∀ i h h',tn i h->(∀ b∈fp,∀ o,h.get? b=some o->h'.get? b=some o)->tn i h'
 item:∀ (X:Cx),X.prog=P->X.w=w->X.K=K->X.calm=true->∀ (i:Nat) (pins:List (Addr×Obj)) (s:Shared) (σ:St) (H:Hp) (E:Value->Shared->Prop),Inv X pins σ H s->(∀ b∈fp,mj X pins H b)->tn i s.heap->J.go i H ->
  wpAny (model P w) X.A (pyNext (.ref it)) (fun r s1=>∃ u,r=some u /\
   wpAny (model P w) X.A (letOwnedTupleGo tg (.ref it) u) (fun _ s2=>∃ x H',Inv X pins σ H' s2/\RelV x u/\J.uf i H x H'/\tn (i + 1) s2.heap/\∀ b∈fp,H' b=none) E s1) E s
 done:∀ (X:Cx),X.prog=P->X.w=w->X.K=K->X.calm=true->∀ (i:Nat) (pins:List (Addr×Obj)) (s:Shared) (σ:St) (H:Hp) (E:Value->Shared->Prop),Inv X pins σ H s->(∀ b∈fp,mj X pins H b)->tn i s.heap->J.stop i H ->
  wpAny (model P w) X.A (pyNext (.ref it)) (fun r s1=>r=none/\Inv X pins σ H s1) E s
 self:∀ (A:Around) (i:Nat) (s:Shared) (Q:Value->Shared->Prop) (E:Value->Shared->Prop),tn i s.heap->Q (.ref it) s->wpAny (model P w) A (pyIter (.ref it)) Q E s
abbrev TI:=St->Hp->(It->Hp->Prop)->Prop
def HC (X:Cx) (pins:List (Addr×Obj)) (σ:St) (tg:Expr) (R:It->Hp->Prop) (itv:Value) (s2:Shared):Prop :=
 ∃ (it:Addr) (fp:List Addr) (tn:Nat->Heap->Prop) (J:It) (H':Hp),itv=.ref it/\Inv X pins σ H' s2/\Turn X.prog X.w X.K tg J fp it tn/\tn 0 s2.heap/\(∀ b∈fp,mj X pins H' b)/\R J H'
def PI (X:Cx) (tg iter:Expr) (wi:TI):Prop :=
 ∀ (pins:List (Addr×Obj)) (s:Shared) (σ:St) (H:Hp) (R:It->Hp->Prop),Inv X pins σ H s->wi σ H R ->
  wpAny (model X.prog X.w) X.A (eval iter X.env) (fun v s1=>wpAny (model X.prog X.w) X.A (pyIter v) (HC X pins σ tg R) X.xe s1) X.xe s
theorem EY {M:Model} {A:Around} {E:Value->Shared->Prop} {s:Shared} {tg:Expr} {it:Addr} {u:Value} {o:Obj} {n:String} {vs:Array Value} {Q:Unit->Shared->Prop} (ho:s.heap.get? it=some o) (hc:o.cls=.type n) (hd:o.data=.fields vs)
  (hn:["enumerate","zip","dict_itemiterator","dict_reverseitemiterator","odict_iterator","itertools.zip_longest","itertools.pairwise"].contains n=false) (hQ:Q () s):wpAny M A (letOwnedTupleGo tg (.ref it) u) Q E s:=by
 unfold letOwnedTupleGo
 cases tg <;> first
  | exact wpAny_pure hQ
  | (cases u <;> first
    | exact wpAny_pure hQ
    | (refine wpAny_bind (wpAny_load ho ?_)
       rw [hc,hd]
       show wpAny M A (if (["enumerate","zip","dict_itemiterator","dict_reverseitemiterator","odict_iterator","itertools.zip_longest","itertools.pairwise"].contains n && vs[0]? == some (rawInt _))=true then _ else _) Q E s
       rw [if_neg (by intro h;rw [hn,Bool.false_and] at h;cases h)]
       exact wpAny_pure hQ))
def KL (K:Zfr) (a:Addr):It :=
 ⟨fun i H=>∃ xs x,jy K H a xs/\xs[i]?=some x,fun i H x H'=>H'=H/\∀ xs,jy K H a xs->xs[i]?=some x,fun i H=>∃ xs,jy K H a xs/\xs.length<=i⟩
def KN (K:Zfr) (a:Addr):It :=
 ⟨fun i H=>∃ xs x,fj K H a xs/\xs[i]?=some x,fun i H x H'=>H'=H/\∀ xs,fj K H a xs->xs[i]?=some x,fun i H=>∃ xs,fj K H a xs/\xs.length<=i⟩
def Bm (lo:Int) (n:Nat):It:=⟨fun i _=>i < n,fun i H x H'=>H'=H/\x=.int (lo + i),fun i _=>n<=i⟩
theorem OQ {P:Program} {w:World} {K:Zfr} {tg:Expr} (a it:Addr):Turn P w K tg (KL K a) [it] it (fun i h=>h.IsListIter it a i) where
 mem:=by simp
 obj:=fun i h st b hb=>by
  have e:b=it:=by simpa using hb
  subst e
  obtain ⟨o,e,c,d⟩:=st
  exact ⟨o,e,fun v z=>by rw [d] at z;cases z⟩
 keep:=fun i h h' st k=>st.at fun o e=>k it (by simp) o e
 item:=by
  intro X hP hw hK hc i pins s σ H E I hf st hg
  subst hP hw hK
  obtain ⟨xs,x,hq,hx⟩:=hg
  obtain ⟨its,rv,p,hz⟩:=I.list hq
  obtain ⟨u,hu,ru⟩:=rv.get hx
  obtain ⟨f0,f1,f2,f3,f4,f5⟩:=hf it (by simp)
  refine wpAny_pyNext_list_item st p.isList (x:=u) (by simpa using hu) fun h' st' sb=>?_
  have I1:Inv X pins σ H { s with heap:=h' }:=I.turned (t':=s.toks) (fun b o hb e=>(sb.2 b hb).trans e) f0 f1 f3 f4 f5
  obtain ⟨o,e,c,d⟩:=id st'
  exact ⟨u,rfl,EY (s:={ s with heap:=h' }) e c d (by decide) ⟨x,H,I1,ru,⟨rfl,fun ys hy=>by rw [I.pd hy hq];exact hx⟩,st',fun b hb=>(hf b hb).1⟩⟩
 done:=by
  intro X hP hw hK hc i pins s σ H E I hf st hg
  subst hP hw hK
  obtain ⟨xs,hq,hx⟩:=hg
  obtain ⟨its,rv,p,hz⟩:=I.list hq
  obtain ⟨f0,f1,f2,f3,f4,f5⟩:=hf it (by simp)
  have hl:=rv.length
  exact wpAny_pyNext_list_end (I.ok.hd hc) st p.isList (by simp;omega) fun h' eb=>⟨rfl,I.turned (t':=s.toks) (fun b o hb e=>eb b o hb e) f0 f1 f3 f4 f5⟩
 self:=fun _ _ _ _ _ st h=>wpAny_pyIter_listiter st h
theorem OR {P:Program} {w:World} {K:Zfr} {tg:Expr} (a it:Addr):Turn P w K tg (KN K a) [it] it (fun i h=>h.IsTupleIter it a i) where
 mem:=by simp
 obj:=fun i h st b hb=>by
  have e:b=it:=by simpa using hb
  subst e
  obtain ⟨o,e,c,d⟩:=st
  exact ⟨o,e,fun v z=>by rw [d] at z;cases z⟩
 keep:=fun i h h' st k=>st.at fun o e=>k it (by simp) o e
 item:=by
  intro X hP hw hK hc i pins s σ H E I hf st hg
  subst hP hw hK
  obtain ⟨xs,x,hq,hx⟩:=hg
  obtain ⟨its,rv,p,hz⟩:=I.tuple hq
  obtain ⟨u,hu,ru⟩:=rv.get hx
  obtain ⟨f0,f1,f2,f3,f4,f5⟩:=hf it (by simp)
  refine wpAny_pyNext_tuple_item st (show s.heap.IsTuple a its.toArray from p) (x:=u) (by simpa using hu) fun h' st' sb=>?_
  have I1:Inv X pins σ H { s with heap:=h' }:=I.turned (t':=s.toks) (fun b o hb e=>(sb.2 b hb).trans e) f0 f1 f3 f4 f5
  obtain ⟨o,e,c,d⟩:=id st'
  exact ⟨u,rfl,EY (s:={ s with heap:=h' }) e c d (by decide) ⟨x,H,I1,ru,⟨rfl,fun ys hy=>by rw [I.iy hy hq];exact hx⟩,st',fun b hb=>(hf b hb).1⟩⟩
 done:=by
  intro X hP hw hK hc i pins s σ H E I hf st hg
  subst hP hw hK
  obtain ⟨xs,hq,hx⟩:=hg
  obtain ⟨its,rv,p,hz⟩:=I.tuple hq
  obtain ⟨f0,f1,f2,f3,f4,f5⟩:=hf it (by simp)
  have hl:=rv.length
  exact wpAny_pyNext_tuple_end (I.ok.hd hc) st (show s.heap.IsTuple a its.toArray from p) (by simp;omega) fun h' eb=>⟨rfl,I.turned (t':=s.toks) (fun b o hb e=>eb b o hb e) f0 f1 f3 f4 f5⟩
 self:=fun _ _ _ _ _ st h=>wpAny_pyIter_tupleiter st h
theorem OS {P:Program} {w:World} {K:Zfr} {tg:Expr} (it:Addr) (lo:Int) (n:Nat):Turn P w K tg (Bm lo n) [it] it (fun i h=>IsRangeIter h it (lo + (i:Nat) * 1) ((n:Int) - (i:Nat)) 1) where
 mem:=by simp
 obj:=fun i h st b hb=>by
  have e:b=it:=by simpa using hb
  subst e
  exact ⟨_,st,fun v z=>by
   have z':Data.fields _=Data.cell v:=z
   cases z'⟩
 keep:=fun i h h' st k=>k it (by simp) _ st
 item:=by
  intro X hP hw hK hc i pins s σ H E I hf st hg
  subst hP hw hK
  obtain ⟨f0,f1,f2,f3,f4,f5⟩:=hf it (by simp)
  have W:=Walks.range (prog:=X.prog) (w:=X.w) (I.ok.hd hc) it lo 1 n
  refine W.item i s _ _ hg st fun v h' tk hv st' kk=>?_
  obtain ⟨t,rfl⟩:=hv
  have I1:Inv X pins σ H { s with heap:=h',toks:=tk }:=I.turned (fun b o hb e=>kk b o (by simpa using hb) e) f0 f1 f3 f4 f5
  refine ⟨_,rfl,EY (s:={ s with heap:=h',toks:=tk }) (n:="range_iterator") st' rfl rfl (by decide) ⟨.int (lo + i),H,I1,⟨t,?_⟩,⟨rfl,rfl⟩,st',fun b hb=>(hf b hb).1⟩⟩
  rw [Int.mul_one]
 done:=by
  intro X hP hw hK hc i pins s σ H E I hf st hg
  subst hP hw hK
  obtain ⟨f0,f1,f2,f3,f4,f5⟩:=hf it (by simp)
  exact wpAny_pyNext_range_end (I.ok.hd hc) st (by have:n<=i:=hg;omega) fun h' eb=>⟨rfl,I.turned (t':=s.toks) (fun b o hb e=>eb b o hb e) f0 f1 f3 f4 f5⟩
 self:=fun _ _ _ _ _ st h=>wpAny_pyIter_rangeiter st h
section
variable {X:Cx} {tg:Expr}
def rH (K:Zfr) (tl:TE):TI:=fun σ H R=>tl σ H fun x H1=>∃ a,x=.ref a/\(∃ xs,jy K H1 a xs)/\R (KL K a) H1
def Bn (K:Zfr) (tl:TE):TI:=fun σ H R=>tl σ H fun x H1=>∃ a,x=.ref a/\(∃ xs,fj K H1 a xs)/\R (KN K a) H1
theorem HD {l:Expr} {tl:TE} (hl:PE X l tl):PI X tg l (rH X.K tl):=by
 intro pins s σ H R I h
 refine cQ (hl pins s σ H _ I h) fun v s1 ⟨x,H1,I1,r1,q1⟩=>?_
 obtain ⟨a,e,⟨xs,hq⟩,q⟩:=q1
 subst e
 cases r1
 obtain ⟨its,rv,p,hz⟩:=I1.list hq
 refine wpAny_pyIter_list p.isList ?_
 refine ⟨s1.heap.objs.size,[s1.heap.objs.size],_,_,H1,rfl,I1.kept (t':=s1.toks) fun b o e=>WM _ e,OQ a _,⟨_,WV _ rfl,rfl,rfl⟩,fun b hb=>?_,q⟩
 have e:b=s1.heap.objs.size:=by simpa using hb
 subst e
 exact I1.pY (Wy _) (I1.hok.fresh (Wy _))
theorem pN {l:Expr} {tl:TE} (hl:PE X l tl):PI X tg l (Bn X.K tl):=by
 intro pins s σ H R I h
 refine cQ (hl pins s σ H _ I h) fun v s1 ⟨x,H1,I1,r1,q1⟩=>?_
 obtain ⟨a,e,⟨xs,hq⟩,q⟩:=q1
 subst e
 cases r1
 obtain ⟨its,rv,p,hz⟩:=I1.tuple hq
 refine wpAny_pyIter_tuple (show s1.heap.IsTuple a its.toArray from p) ?_
 refine ⟨s1.heap.objs.size,[s1.heap.objs.size],_,_,H1,rfl,I1.kept (t':=s1.toks) fun b o e=>WM _ e,OR a _,⟨_,WV _ rfl,rfl,rfl⟩,fun b hb=>?_,q⟩
 have e:b=s1.heap.objs.size:=by simpa using hb
 subst e
 exact I1.pY (Wy _) (I1.hok.fresh (Wy _))
theorem KO {pins:List (Addr×Obj)} {σ:St} {H:Hp} {s:Shared} {R:It->Hp->Prop} {E:Value->Shared->Prop} {lo hi:Int} {t u v:Tok} {tk:Nat} (I:Inv X pins σ H s) (h1:-(2 ^ 62)<=lo) (h2:lo < 2 ^ 62) (h3:-(2 ^ 62)<=hi) (h4:hi < 2 ^ 62)
  (q:R (Bm lo (hi - lo).toNat) H):wpAny (model X.prog X.w) X.A (pyIter (.ref s.heap.objs.size)) (HC X pins σ tg R) E { s with heap:=s.heap.push { cls:=.type "range",data:=.fields #[.int lo t,.int hi u,.int 1 v] },toks:=tk }:=by
 refine wpAny_pyIter_range (IsRange.new ..) (small_one h1 h2 h3 h4) ?_
 have I1:Inv X pins σ H { s with heap:=s.heap.push { cls:=.type "range",data:=.fields #[.int lo t,.int hi u,.int 1 v] },toks:=tk }:=I.kept fun b o e=>WM _ e
 refine ⟨(s.heap.push { cls:=.type "range",data:=.fields #[.int lo t,.int hi u,.int 1 v] }).objs.size,[(s.heap.push { cls:=.type "range",data:=.fields #[.int lo t,.int hi u,.int 1 v] }).objs.size],_,_,H,rfl,
  I1.kept (t':=tk) fun b o e=>WM _ e,OS _ lo (hi - lo).toNat,?_,fun b hb=>?_,q⟩
 ·have e1:lo + ((0:Nat):Int) * 1=lo:=by simp
  have e2:(((hi - lo).toNat:Nat):Int) - ((0:Nat):Int)=Builtin.Range.rangeSize lo hi 1:=by rw [rangeSize_one];split <;> omega
  show IsRangeIter _ _ (lo + ((0:Nat):Int) * 1) ((((hi - lo).toNat:Nat):Int) - ((0:Nat):Int)) 1
  rw [e1,e2]
  exact WV _ rfl
 ·have e:b=(s.heap.push { cls:=.type "range",data:=.fields #[.int lo t,.int hi u,.int 1 v] }).objs.size:=by simpa using hb
  subst e
  exact I1.pY (Wy _) (I1.hok.fresh (Wy _))
def u3 (ta:TA):TI:=fun σ H R=>ta σ H fun vs H1=>∃ j:Int,vs=[.int j]/\-(2 ^ 62)<=j/\j < 2 ^ 62/\R (Bm 0 j.toNat) H1
def u5 (ta:TA):TI:=fun σ H R=>ta σ H fun vs H1=>∃ i j:Int,vs=[.int i,.int j]/\(-(2 ^ 62)<=i/\i < 2 ^ 62/\-(2 ^ 62)<=j/\j < 2 ^ 62)/\R (Bm i (j - i).toNat) H1
theorem pg {a:Expr} {ta:TA} {p pos:Pos} (hg:Gl X "range") (hm:X.mg "range" = none) (ha:PA X [a] ta) (hs:starEach [a] X.env=[(false,eval a X.env)]:=by rfl):PI X tg (.Call (.Name "range" p) [a] [] pos) (u3 ta):=by
 intro pins s σ H R I h
 refine Call_ (zT I hg hm boot_range (PyProof.Rows.callWith_type1 (cQ (ha pos pins s σ H _ I h) fun us s1 ⟨vs,H1,I1,r1,q1⟩=>?_) hs rfl))
 obtain ⟨j,e,q1,q2,q⟩:=q1
 subst e
 cases r1 with
 | cons r rr =>
  cases rr
  obtain ⟨t,rfl⟩:=r
  exact call_range_1 (KO I1 (by omega) (by omega) q1 q2 (by simpa using q))
theorem OT {a b:Expr} {ta:TA} {p pos:Pos} (hg:Gl X "range") (hm:X.mg "range" = none) (ha:PA X [a,b] ta) (hs:starEach [a,b] X.env=[(false,eval a X.env),(false,eval b X.env)]:=by rfl) (hs2:starEach [b] X.env=[(false,eval b X.env)]:=by rfl) :
  PI X tg (.Call (.Name "range" p) [a,b] [] pos) (u5 ta):=by
 intro pins s σ H R I h
 refine Call_ (zT I hg hm boot_range (PyProof.Rows.callWith_type1 (cQ (ha pos pins s σ H _ I h) fun us s1 ⟨vs,H1,I1,r1,q1⟩=>?_) (by rw [hs,hs2]) (by rw [hs2];rfl)))
 obtain ⟨i,j,e,⟨q1,q2,q3,q4⟩,q⟩:=q1
 subst e
 cases r1 with
 | cons r rr =>
  cases rr with
  | cons r' rr =>
   cases rr
   obtain ⟨t,rfl⟩:=r
   obtain ⟨t',rfl⟩:=r'
   exact call_range_2 (KO I1 q1 q2 q3 q4 q)
def Bo (wi:TI) (g:TG) (tb:TS):TS:=fun D σ H=>wi σ H fun J H1=>∃ W:Nat->Nat->St->Hp->Prop,(∃ m,W 0 m σ H1)/\∀ i m σ H,W i m σ H ->
 (J.stop i H/\D.nx σ H)\/(J.go i H/\∃ N:St->Hp->Prop,(∀ σ' H',N σ' H'->∃ m',m' < m/\W (i + 1) m' σ' H')/\∀ x H',J.uf i H x H'->g x σ H' fun σ2 H2=>tb { D with nx:=N,ct:=N,bk:=D.nx } σ2 H2)
def nE (fp:List Addr) (h:Heap):List (Addr×Obj):=fp.filterMap fun b=>(h.get? b).map fun o=>(b,o)
theorem EZ {fp:List Addr} {h:Heap} {b:Addr} {o:Obj} (hb:b∈fp) (e:h.get? b=some o):(b,o)∈nE fp h:=List.mem_filterMap.mpr ⟨b,hb,by rw [e];rfl⟩
theorem OU {fp:List Addr} {h:Heap} {p:Addr×Obj} (hp:p∈nE fp h):p.1∈fp/\h.get? p.1=some p.2:=by
 obtain ⟨b,hb,e⟩:=List.mem_filterMap.mp hp
 cases q:h.get? b with
 | none=>rw [q] at e;cases e
 | some o =>
  rw [q] at e
  have e':(b,o)=p:=WJ e
  subst e'
  exact ⟨hb,q⟩
theorem Inv.pinned {pins:List (Addr×Obj)} {σ:St} {H:Hp} {s:Shared} {fp:List Addr} (I:Inv X pins σ H s) (hf:∀ b∈fp,mj X pins H b) (ho:∀ b∈fp,∃ o,s.heap.get? b=some o/\∀ v,o.data≠.cell v):Inv X (pins ++ nE fp s.heap) σ H s :=
 I.nc fun p hp=>(WX.mp hp).elim (fun z=>I.pin p (W7 _ z)) fun z=>by
  obtain ⟨hb,e⟩:=OU z
  obtain ⟨f0,f1,f2,_⟩:=hf p.1 hb
  obtain ⟨o,e',d⟩:=ho p.1 hb
  rw [e] at e';cases e'
  exact ⟨e,f0,f1,f2,d⟩
theorem Inv.lL {pins pl:List (Addr×Obj)} {σ:St} {H:Hp} {s:Shared} (I:Inv X (pins ++ pl) σ H s):Inv X pins σ H s:=I.nc fun p hp=>I.pin p (W7 _ (List.mem_append_left _ hp))
theorem mL {iter:Expr} {body:List Stmt} {wi:TI} {g:TG} {tb:TS} {pos:Pos} (hp:PassesOwn (model X.prog X.w) X.A X.env X.xe) (hc:X.calm=true) (hi:PI X tg iter wi) (hg:PG X tg g) (hb:qg X body tb)
  (hs:∀ x,foldedSetIterable iter X.env x=pure x:=by intro _;rfl):PS X (.For tg iter body [] pos) (Bo wi g tb):=by
 intro pins s σ H D I h
 refine wpAny_For (cQ (hi pins s σ H _ I h) fun v s1 h1=>cQ h1 fun itv s2 h2=>?_) hs
 obtain ⟨it,fp,tn,J,H2,e,I2,T,st2,f2,W,⟨m0,w0⟩,turn⟩:=h2
 subst e
 have stat:∀ {H':Hp},(∀ b∈fp,H' b=none)->∀ b∈fp,mj X pins H' b:=fun hn b hb=>⟨hn b hb,(f2 b hb).2⟩
 refine codeAny_forLoop_any (fun n s'=>∃ i σ' H',Inv X pins σ' H' s'/\tn i s'.heap/\(∀ b∈fp,H' b=none)/\W i n σ' H') ?_ m0 ⟨0,σ,H2,I2,st2,fun b hb=>(f2 b hb).1,w0⟩
 rintro n s3 ⟨i,σ3,H3,I3,st3,KP,w3⟩
 rcases turn i n σ3 H3 w3 with ⟨stop,qn⟩ | ⟨go,N,hN,step⟩
 ·refine wpAny_passesOwn hp (cQ (T.done X rfl rfl rfl hc i pins s3 σ3 H3 X.xe I3 (stat KP) st3 stop) fun r s4 ⟨hr,I4⟩=>?_)
  subst hr
  exact wpAny_execs_nil ⟨σ3,H3,I4,qn⟩
 ·refine wpAny_passesOwn hp (cQ (T.item X rfl rfl rfl hc i pins s3 σ3 H3 X.xe I3 (stat KP) st3 go) fun r s4 ⟨u,hr,h4⟩=>?_)
  subst hr
  refine wpAny_passesOwn hp (cQ h4 fun _ s5 ⟨x,H5,I5,r5,y5,kN,E1⟩=>?_)
  have OV:=I5.pinned (stat E1) (T.obj _ _ kN)
  refine wpAny_passesOwn hp (cQ (hg _ s5 σ3 H5 x u _ OV r5 (step x H5 y5)) fun _ s6 ⟨σ6,H6,I6,q6⟩=>?_)
  refine wpAny_passesOwn hp (cQ (hb _ s6 σ6 H6 _ I6 q6) fun f s7 q7=>?_)
  have again:∀ {σ7:St} {H7:Hp},Inv X (pins ++ nE fp s5.heap) σ7 H7 s7->N σ7 H7->∃ m,m < n/\∃ i σ' H',Inv X pins σ' H' s7/\tn i s7.heap/\(∀ b∈fp,H' b=none)/\W i m σ' H':=fun {σ7 H7} I7 n7=>by
   obtain ⟨m',hm,w7⟩:=hN σ7 H7 n7
   refine ⟨m',hm,i + 1,σ7,H7,I7.lL,T.keep _ _ _ kN fun b hb o e=>(I7.pin (b,o) (W7 _ (W7 _ (EZ hb e)))).1,fun b hb=>?_,w7⟩
   obtain ⟨o,e,d⟩:=T.obj _ _ kN b hb
   exact (I7.pin (b,o) (W7 _ (W7 _ (EZ hb e)))).2.1
  cases f with
  | next=>obtain ⟨σ7,H7,I7,n7⟩:=q7;exact again I7 n7
  | cont=>obtain ⟨σ7,H7,I7,n7⟩:=q7;exact again I7 n7
  | brk=>obtain ⟨σ7,H7,I7,q7⟩:=q7;exact ⟨σ7,H7,I7.lL,q7⟩
  | ret v=>obtain ⟨x7,σ7,H7,I7,r7,q7⟩:=q7;exact ⟨x7,σ7,H7,I7.lL,r7,q7⟩
end
abbrev R2:=V->V->Hp->VK->Prop
def kR (X:Cx) (f:Value->Value->Sem Value) (r:R2):Prop :=
 ∀ (pins:List (Addr×Obj)) (s:Shared) (σ:St) (H:Hp) (x y:V) (v u:Value) (Q:VK),Inv X pins σ H s->RelV x v->RelV y u->r x y H Q ->
  wpAny (model X.prog X.w) X.A (f v u) (EP X pins σ Q) X.xe s
def HE (X:Cx) (f:Value->Sem Value) (r:V->Hp->VK->Prop):Prop :=
 ∀ (pins:List (Addr×Obj)) (s:Shared) (σ:St) (H:Hp) (x:V) (v:Value) (Q:VK),Inv X pins σ H s->RelV x v->r x H Q ->
  wpAny (model X.prog X.w) X.A (f v) (EP X pins σ Q) X.xe s
def fV (X:Cx) (f:Value) (r:List V->Hp->VK->Prop):Prop :=
 ∀ (pins:List (Addr×Obj)) (s:Shared) (σ:St) (H:Hp) (xs:List V) (us:List Value) (Q:VK),Inv X pins σ H s->Vals xs us->r xs H Q ->
  wpAny (model X.prog X.w) X.A (call f us) (EP X pins σ Q) X.xe s
def Bp (r:R2) (ta tb:TE):TE:=fun σ H Q=>ta σ H fun x H1=>tb σ H1 fun y H2=>r x y H2 Q
def KQ (r:V->Hp->VK->Prop) (ta:TE):TE:=fun σ H Q=>ta σ H fun x H1=>r x H1 Q
def rI (C:Int->Int->Prop) (g:Int->Int->V):R2:=fun x y H Q=>∃ i j,x=.int i/\y=.int j/\C i j/\Q (g i j) H
def qK (g:Int->Int->V):R2:=fun x y H Q=>∃ i j,x=.int i/\y=.int j/\Q (g i j) H
def rU (g:Int->V):V->Hp->VK->Prop:=fun x H Q=>∃ i,x=.int i/\Q (g i) H
section
variable {X:Cx} {a b c:Expr} {ta tb tc:TE} {pos:Pos}
theorem xm (ha:PE X a ta) (hb:PE X b tb) {pins:List (Addr×Obj)} {s:Shared} {σ:St} {H:Hp} {R:V->V->Hp->Prop} (I:Inv X pins σ H s)
  (h:ta σ H fun x H1=>tb σ H1 fun y H2=>R x y H2) {Q:Value->Shared->Prop} {f:Value->Value->Sem Value}
  (hf:∀ v u s2 x y H2,Inv X pins σ H2 s2->RelV x v->RelV y u->R x y H2->wpAny (model X.prog X.w) X.A (f v u) Q X.xe s2) :
  wpAny (model X.prog X.w) X.A (eval a X.env) (fun v s₁=>wpAny (model X.prog X.w) X.A (eval b X.env) (fun u s₂=>wpAny (model X.prog X.w) X.A (f v u) Q X.xe s₂) X.xe s₁) X.xe s:=by
 refine cQ (ha pins s σ H _ I h) fun v s1 ⟨x,H1,I1,r1,q1⟩=>?_
 refine cQ (hb pins s1 σ H1 _ I1 q1) fun u s2 ⟨y,H2,I2,r2,q2⟩=>?_
 exact hf v u s2 x y H2 I2 r1 r2 q2
theorem bF {op:Operator} {r:R2} (ho:kR X (binaryOp op) r) (ha:PE X a ta) (hb:PE X b tb):PE X (.BinOp a op b pos) (Bp r ta tb):=by
 intro pins s σ H Q I h
 exact wpAny_BinOp (xm ha hb I h fun v u s2 x y H2 I2 rx ry q=>ho pins s2 σ H2 x y v u Q I2 rx ry q)
theorem rJ {op:UnaryOp} {r:V->Hp->VK->Prop} (ho:HE X (unaryOp op) r) (ha:PE X a ta):PE X (.UnaryOp op a pos) (KQ r ta):=by
 intro pins s σ H Q I h
 exact UnaryOp_ (cQ (ha pins s σ H _ I h) fun v s1 ⟨x,H1,I1,r1,q1⟩=>ho pins s1 σ H1 x v Q I1 r1 q1)
theorem zV {f:Value->Value->Sem Value} {C:Int->Int->Prop} {g:Int->Int->Int}
  (rule:∀ (i j:Int) (t u:Tok) (s:Shared) (Q:Value->Shared->Prop) (E:Value->Shared->Prop),C i j->Q (.int (g i j) s.toks) { s with toks:=s.toks + 1 }->wpAny (model X.prog X.w) X.A (f (.int i t) (.int j u)) Q E s) :
  kR X f (rI C fun i j=>.int (g i j)):=by
 intro pins s σ H x y v u Q I rx ry h
 obtain ⟨i,j,rfl,rfl,hc,q⟩:=h
 obtain ⟨t,rfl⟩:=rx
 obtain ⟨t',rfl⟩:=ry
 exact rule i j t t' s _ _ hc ⟨.int (g i j),H,I.tok _,⟨_,rfl⟩,q⟩
theorem Bq {f:Value->Value->Sem Value} {g:Int->Int->Int}
  (rule:∀ (i j:Int) (t u:Tok) (s:Shared) (Q:Value->Shared->Prop) (E:Value->Shared->Prop),Q (.int (g i j) s.toks) { s with toks:=s.toks + 1 }->wpAny (model X.prog X.w) X.A (f (.int i t) (.int j u)) Q E s) :
  kR X f (qK fun i j=>.int (g i j)):=by
 intro pins s σ H x y v u Q I rx ry h
 obtain ⟨i,j,rfl,rfl,q⟩:=h
 obtain ⟨t,rfl⟩:=rx
 obtain ⟨t',rfl⟩:=ry
 exact rule i j t t' s _ _ ⟨.int (g i j),H,I.tok _,⟨_,rfl⟩,q⟩
theorem xn {f:Value->Value->Sem Value} {g:Int->Int->Bool}
  (rule:∀ (i j:Int) (t u:Tok) (s:Shared) (Q:Value->Shared->Prop) (E:Value->Shared->Prop),Q (.bool (g i j)) s->wpAny (model X.prog X.w) X.A (f (.int i t) (.int j u)) Q E s) :
  kR X f (qK fun i j=>.bl (g i j)):=by
 intro pins s σ H x y v u Q I rx ry h
 obtain ⟨i,j,rfl,rfl,q⟩:=h
 obtain ⟨t,rfl⟩:=rx
 obtain ⟨t',rfl⟩:=ry
 exact rule i j t t' s _ _ ⟨.bl (g i j),H,I,rfl,q⟩
def Br (i j:Int):Prop:=0 < j/\j < 1073741824
def Bs (i j:Int):Prop:=0<=j/\j<=1000000/\i.natAbs < 2 ^ 64
def rK (i j:Int):Prop:=(-(2 ^ 64) < i/\i < 2 ^ 64)\/(-(2 ^ 64) < j/\j < 2 ^ 64)
theorem rK.ok {i j:Int} (h:rK i j):IntMulOk i j:=by
 rcases h with ⟨h1,h2⟩ | ⟨h1,h2⟩
 ·exact .of_left (intBits_le_64 h1 h2)
 ·exact .of_right (intBits_le_64 h1 h2)
theorem lH:kR X (binaryOp .Add) (qK fun i j=>.int (i + j)):=Bq fun _ _ _ _ _ _ _ q=>add_int q
theorem xo:kR X (binaryOp .Sub) (qK fun i j=>.int (i - j)):=Bq fun _ _ _ _ _ _ _ q=>sub_int q
theorem tu:kR X (binaryOp .Mult) (rI rK fun i j=>.int (i * j)):=zV fun _ _ _ _ _ _ _ hc q=>mul_int q hc.ok
theorem KR:kR X (binaryOp .FloorDiv) (rI Br fun i j=>.int (i / j)):=zV fun i j _ _ _ _ _ hc q=>by
 have h1:(0:Int) < j:=hc.1
 have h2:j < 1073741824:=hc.2
 exact floordiv_int (by omega) (by rw [Int.fdiv_eq_ediv_of_nonneg i (by omega)];exact q) (.inl (PyProof.noPylong_small (by omega)))
theorem qL:kR X (binaryOp .Mod) (rI (fun _ j=>0 < j) fun i j=>.int (i % j)):=zV fun i j _ _ _ _ _ hc q=>by
 have h1:(0:Int) < j:=hc
 exact mod_int' (by omega) (by rw [Int.fmod_eq_emod_of_nonneg i (by omega)];exact q)
theorem KS:kR X (binaryOp .Pow) (rI Bs fun i j=>.int (i ^ j.toNat)):=zV fun _ _ _ _ _ _ _ hc q=>pow_int_small hc.1 hc.2.1 hc.2.2 q
theorem OW {f:Value->Sem Value} {g:Int->Int}
  (rule:∀ (i:Int) (t:Tok) (s:Shared) (Q:Value->Shared->Prop) (E:Value->Shared->Prop),Q (.int (g i) s.toks) { s with toks:=s.toks + 1 }->wpAny (model X.prog X.w) X.A (f (.int i t)) Q E s) :
  HE X f (rU fun i=>.int (g i)):=by
 intro pins s σ H x v Q I rx h
 obtain ⟨i,rfl,q⟩:=h
 obtain ⟨t,rfl⟩:=rx
 exact rule i t s _ _ ⟨.int (g i),H,I.tok _,⟨_,rfl⟩,q⟩
theorem rL:HE X (unaryOp .USub) (rU fun i=>.int (-i)):=OW fun _ _ _ _ _ q=>neg_int q
end
def oH:V->V->Bool
 | .non,.non=>true | .non,.int _=>true | .int _,.non=>true | .non,.bl _=>true | .bl _,.non=>true | .non,.str _=>true | .str _,.non=>true
 | .int _,.int _=>true | .bl _,.bl _=>true | .str _,.str _=>true | .rC _,.rC _=>true
 | .int _,.str _=>true | .str _,.int _=>true | .bl _,.str _=>true | .str _,.bl _=>true
 | _,_=>false
def KU:R2:=fun x y H Q=>oH x y=true/\Q (.bl (decide (x=y))) H
def KW:R2:=fun x y H Q=>oH x y=true/\Q (.bl (!decide (x=y))) H
theorem KY {i j:Int}:decide (V.int i=V.int j)=(i == j):=by
 rw [Bool.eq_iff_iff]
 simp
theorem KZ {i j:Bool}:decide (V.bl i=V.bl j)=(i == j):=by
 rw [Bool.eq_iff_iff]
 simp
theorem K0 {i j:Str}:decide (V.str i=V.str j)=(i == j):=by
 rw [Bool.eq_iff_iff]
 simp
theorem K1 {i j:Array UInt8}:decide (V.rC i=V.rC j)=(i.toList == j.toList):=by
 rw [Bool.eq_iff_iff]
 cases i
 cases j
 simp
section
variable {X:Cx} {a b c:Expr} {ta tb tc:TE} {pos:Pos}
theorem kP {pins:List (Addr×Obj)} {σ:St} {H:Hp} {s:Shared} {Q:VK} {k k':Bool} (I:Inv X pins σ H s) (q:Q (.bl k) H) (e:k=k'):EP X pins σ Q (.bool k') s:=by
 subst e
 exact ⟨.bl k,H,I,rfl,q⟩
theorem n9:kR X (compareOp .Eq) KU:=by
 intro pins s σ H x y v u Q I rx ry h
 obtain ⟨hs,q⟩:=h
 cases x with
 | non =>
  cases rx
  cases y with
  | non=>cases ry;exact PySem.EqNone.eq_none_none (kP I q (by simp))
  | bl j=>cases ry;exact PySem.EqNone.eq_none_bool (kP I q (by simp))
  | int j=>obtain ⟨t',rfl⟩:=ry;exact PySem.EqNone.eq_none_int (kP I q (by simp))
  | str j=>obtain ⟨t',rfl⟩:=ry;exact PySem.EqNone.eq_none_str (kP I q (by simp))
  | _=>exact absurd (show false=true from hs) WD
 | bl i =>
  cases rx
  cases y with
  | non=>cases ry;exact PySem.EqNone.eq_bool_none (kP I q (by simp))
  | bl j=>cases ry;exact eq_bool (kP I q KZ)
  | str j=>obtain ⟨t',rfl⟩:=ry;exact PySem.EqMixed.eq_bool_str (kP I q (by simp))
  | _=>exact absurd (show false=true from hs) WD
 | int i =>
  obtain ⟨t,rfl⟩:=rx
  cases y with
  | non=>cases ry;exact PySem.EqNone.eq_int_none (kP I q (by simp))
  | int j=>obtain ⟨t',rfl⟩:=ry;exact eq_int (kP I q KY)
  | str j=>obtain ⟨t',rfl⟩:=ry;exact PySem.EqMixed.eq_int_str (kP I q (by simp))
  | _=>exact absurd (show false=true from hs) WD
 | str i =>
  obtain ⟨t,rfl⟩:=rx
  cases y with
  | non=>cases ry;exact PySem.EqNone.eq_str_none (kP I q (by simp))
  | bl j=>cases ry;exact PySem.EqMixed.eq_str_bool (kP I q (by simp))
  | int j=>obtain ⟨t',rfl⟩:=ry;exact PySem.EqMixed.eq_str_int (kP I q (by simp))
  | str j=>obtain ⟨t',rfl⟩:=ry;exact eq_str (kP I q K0)
  | _=>exact absurd (show false=true from hs) WD
 | rC i =>
  obtain ⟨t,rfl⟩:=rx
  cases y with
  | rC j=>obtain ⟨t',rfl⟩:=ry;exact PySem.W.eq_bytes (kP I q K1)
  | _=>exact absurd (show false=true from hs) WD
 | _=>cases y <;> exact absurd (show false=true from hs) WD
theorem Bt:kR X (compareOp .NotEq) KW:=by
 intro pins s σ H x y v u Q I rx ry h
 obtain ⟨hs,q⟩:=h
 cases x with
 | non =>
  cases rx
  cases y with
  | non=>cases ry;exact PySem.EqNone.ne_none_none (kP I q (by simp))
  | bl j=>cases ry;exact PySem.EqNone.ne_none_bool (kP I q (by simp))
  | int j=>obtain ⟨t',rfl⟩:=ry;exact PySem.EqNone.ne_none_int (kP I q (by simp))
  | str j=>obtain ⟨t',rfl⟩:=ry;exact PySem.EqNone.ne_none_str (kP I q (by simp))
  | _=>exact absurd (show false=true from hs) WD
 | bl i =>
  cases rx
  cases y with
  | non=>cases ry;exact PySem.EqNone.ne_bool_none (kP I q (by simp))
  | bl j=>cases ry;exact ne_bool (kP I q (congrArg not KZ))
  | str j=>obtain ⟨t',rfl⟩:=ry;exact PySem.EqMixed.ne_bool_str (kP I q (by simp))
  | _=>exact absurd (show false=true from hs) WD
 | int i =>
  obtain ⟨t,rfl⟩:=rx
  cases y with
  | non=>cases ry;exact PySem.EqNone.ne_int_none (kP I q (by simp))
  | int j=>obtain ⟨t',rfl⟩:=ry;exact ne_int (kP I q (congrArg not KY))
  | str j=>obtain ⟨t',rfl⟩:=ry;exact PySem.EqMixed.ne_int_str (kP I q (by simp))
  | _=>exact absurd (show false=true from hs) WD
 | str i =>
  obtain ⟨t,rfl⟩:=rx
  cases y with
  | non=>cases ry;exact PySem.EqNone.ne_str_none (kP I q (by simp))
  | bl j=>cases ry;exact PySem.EqMixed.ne_str_bool (kP I q (by simp))
  | int j=>obtain ⟨t',rfl⟩:=ry;exact PySem.EqMixed.ne_str_int (kP I q (by simp))
  | str j=>obtain ⟨t',rfl⟩:=ry;exact ne_str (kP I q (congrArg not K0))
  | _=>exact absurd (show false=true from hs) WD
 | rC i =>
  obtain ⟨t,rfl⟩:=rx
  cases y with
  | rC j=>obtain ⟨t',rfl⟩:=ry;exact PySem.W.ne_bytes (kP I q (congrArg not K1))
  | _=>exact absurd (show false=true from hs) WD
 | _=>cases y <;> exact absurd (show false=true from hs) WD
theorem zW:kR X (compareOp .Lt) (qK fun i j=>.bl (decide (i < j))):=xn fun _ _ _ _ _ _ _ q=>lt_int q
theorem zX:kR X (compareOp .Gt) (qK fun i j=>.bl (decide (j < i))):=xn fun _ _ _ _ _ _ _ q=>gt_int q
theorem Bu:kR X (compareOp .GtE) (qK fun i j=>.bl (decide (j<=i))):=xn fun _ _ _ _ _ _ _ q=>ge_int q
theorem xq:kR X (compareOp .Is) (fun x y H Q=>y=.non/\Q (.bl (decide (x=.non))) H):=by
 intro pins s σ H x y v u Q I rx ry h
 obtain ⟨rfl,q⟩:=h
 cases ry
 refine is_none_gen (kP I q ?_)
 cases x <;> first
  | (cases rx;rfl)
  | (obtain ⟨t,rfl⟩:=rx;rfl)
theorem aO (b:Expr) {op:CmpOp} (h:op≠.In:=by decide) (h2:op≠.NotIn:=by decide):behindInMarks op b=false:=by
 have e1:(op == CmpOp.In)=false:=by cases op <;> first | rfl | exact absurd rfl h
 have e2:(op == CmpOp.NotIn)=false:=by cases op <;> first | rfl | exact absurd rfl h2
 cases b <;> simp [behindInMarks,e1,e2]
theorem zY {op:CmpOp} {r:R2} (ho:kR X (compareOp op) r) (ha:PE X a ta) (hb:PE X b tb) (hm:behindInMarks op b=false):PE X (.Compare a [op] [b] pos) (Bp r ta tb):=by
 intro pins s σ H Q I h
 exact wpAny_Compare1 (xm ha hb I h fun v u s2 x y H2 I2 rx ry q=>ho pins s2 σ H2 x y v u Q I2 rx ry q) hm
def u6 (t:TE):TT:=fun σ H Q=>t σ H fun x H'=>∃ k,x=.bl k/\Q k H'
theorem fW {op:CmpOp} {r:R2} (ho:kR X (compareOp op) r) (ha:PE X a ta) (hb:PE X b tb) (hm:behindInMarks op b=false):PT X (.Compare a [op] [b] pos) (u6 (Bp r ta tb)):=by
 intro pins s σ H Q I h
 refine wpAny_isTrue_Compare1 (cQ (ha pins s σ H _ I h) fun v s1 ⟨x,H1,I1,r1,q1⟩=>cQ (hb pins s1 σ H1 _ I1 q1) fun u s2 ⟨y,H2,I2,r2,q2⟩ =>
  cQ (ho pins s2 σ H2 x y v u _ I2 r1 r2 q2) fun c s3 ⟨z,H3,I3,r3,k,e,q3⟩=>?_) hm
 subst e
 cases r3
 exact wpAny_truthy_bool ⟨H3,I3,q3⟩
theorem ml:(sizeLine:Nat) < 2 ^ 63:=by rw [sizeLine_eq];decide
theorem vals1 {x:V} {us:List Value} (r:Vals [x] us):∃ u,us=[u]/\RelV x u:=by
 cases r with
 | cons r1 r2=>cases r2;exact ⟨_,rfl,r1⟩
theorem vals2 {x y:V} {us:List Value} (r:Vals [x,y] us):∃ u w',us=[u,w']/\RelV x u/\RelV y w':=by
 cases r with
 | cons r1 r2 =>
  cases r2 with
  | cons r3 r4=>cases r4;exact ⟨_,_,rfl,r1,r3⟩
theorem OX:fV X (.builtin "abs") (fun xs H Q=>∃ i,xs=[.int i]/\Q (.int (if i < 0 then -i else i)) H):=by
 intro pins s σ H xs us Q I r h
 obtain ⟨i,rfl,q⟩:=h
 obtain ⟨u,rfl,t,rfl⟩:=vals1 r
 exact call_abs_int fun u tk=>⟨.int (if i < 0 then -i else i),H,I.tok _,⟨_,rfl⟩,q⟩
theorem OY (hc:X.calm=true):fV X (.builtin "max") (fun xs H Q=>∃ i j,xs=[.int i,.int j]/\Q (.int (if j > i then j else i)) H):=by
 intro pins s σ H xs us Q I r h
 obtain ⟨i,j,rfl,q⟩:=h
 obtain ⟨u,w',rfl,⟨t,rfl⟩,⟨t',rfl⟩⟩:=vals2 r
 refine max_two_ints (I.ok.hd hc) fun h' tk k=>⟨_,H,I.kept k,?_,q⟩
 by_cases hj:j > i
 ·rw [if_pos hj,if_pos hj];exact ⟨_,rfl⟩
 ·rw [if_neg hj,if_neg hj];exact ⟨_,rfl⟩
theorem OZ (hc:X.calm=true):fV X (.builtin "min") (fun xs H Q=>∃ i j,xs=[.int i,.int j]/\Q (.int (if j < i then j else i)) H):=by
 intro pins s σ H xs us Q I r h
 obtain ⟨i,j,rfl,q⟩:=h
 obtain ⟨u,w',rfl,⟨t,rfl⟩,⟨t',rfl⟩⟩:=vals2 r
 refine min_two_ints (I.ok.hd hc) fun h' tk k=>⟨_,H,I.kept k,?_,q⟩
 by_cases hj:j < i
 ·rw [if_pos hj,if_pos hj];exact ⟨_,rfl⟩
 ·rw [if_neg hj,if_neg hj];exact ⟨_,rfl⟩
theorem K2:fV X (.type "int") (fun xs H Q=>(∃ i,xs=[.int i]/\Q (.int i) H)\/∃ k,xs=[.bl k]/\Q (.int (if k then 1 else 0)) H):=by
 intro pins s σ H xs us Q I r h
 rcases h with ⟨i,rfl,q⟩ | ⟨k,rfl,q⟩
 ·obtain ⟨u,rfl,t,rfl⟩:=vals1 r
  exact call_int_int ⟨.int i,H,I,⟨_,rfl⟩,q⟩
 ·obtain ⟨u,rfl,r1⟩:=vals1 r
  cases r1
  exact call_int_bool ⟨.int (if k then 1 else 0),H,I.tok _,⟨_,rfl⟩,q⟩
end
section
variable {prog:Program} {w:World} {A:Around} {E:Value->Shared->Prop} {s:Shared} {K:Zfr} {x dx C f:Addr} {mA:Str->Option Value} {name:Str} {v:Value}
end
section
variable {P:Program} {w:World} {H H':Hp} {h h':Heap} {a C dx:Addr} {fs fs':List (Str×V)}
end
structure ph (K:Zfr) (C:Addr) (f:Str) (v:V) (u:Value):Prop where
 at_:PySem.W.findIn K (.ref C) f=some (some u)
 rel:RelV v u
 get:PySem.W.specialIn K u "__get__" = some none
 cp:PySem.W.copiedNames.contains f=false
section
variable {X:Cx} {pins:List (Addr×Obj)} {σ:St} {H:Hp} {s:Shared} {a C dx:Addr} {fs:List (Str×V)} {f:Str} {v:V} {A:Around} {E:Value->Shared->Prop}
end
section
variable {X:Cx} {o e value:Expr} {f:Str} {pos pos' tpos:Pos} {ta tv:TE}
end
section
variable {X:Cx} {pins:List (Addr×Obj)} {σ:St} {H:Hp} {s:Shared} {A:Around} {E:Value->Shared->Prop} {Q:Value->Shared->Prop} {c:Value} {b:Bool}
end
structure gw (k:Nat) (A:Around):Prop where
 hd:A.handled=none
 dp:A.depth + 3 * k + 5 < recursionLimit
 un:A.units + 16 * k + 200 < cLine
 gd:A.guards=some []
theorem gw.mono {j k:Nat} {A:Around} (r:gw k A) (h:j<=k):gw j A:=⟨r.hd,by have:=r.dp;omega,by have:=r.un;omega,r.gd⟩
theorem gw.deeper {k:Nat} {A:Around} (r:gw (k + 1) A) (env:Env):gw k (A.deeper env) :=
 ⟨r.hd,by have:=r.dp;show A.depth + 1 + 3 * k + 5 < _;omega,by have:=r.un;show A.units + 3 + 16 * k + 200 < _;omega,r.gd⟩
theorem gw.depth {k:Nat} {A:Around} (r:gw k A):A.depth < recursionLimit:=by have:=r.dp;omega
theorem gw.units {k:Nat} {A:Around} (r:gw k A):A.units + 64 < cLine:=by have:=r.un;omega
def Bv:TA:=fun _ H Q=>Q [] H
def u7 (ta:TE) (tr:TA):TA:=fun σ H Q=>ta σ H fun x H1=>tr σ H1 fun xs H2=>Q (x :: xs) H2
section
variable {X:Cx} {e:Expr} {es:List Expr} {te:TE} {t:TA} {pos:Pos}
theorem aA:PA X [] Bv:=fun _ _ _ _ H Q I h=>Calls.spliced_nil ⟨[],H,I,.nil,h⟩
theorem aj (ha:PE X e te) (hr:PA X es t) (hs:starEach (e :: es) X.env=(false,eval e X.env) :: starEach es X.env:=by rfl):PA X (e :: es) (u7 te t):=by
 intro pos pins s σ H Q I h
 rw [hs]
 show wpAny _ _ (spliced ((false,eval e X.env) :: backTo pos (starEach es X.env))) _ _ s
 refine Calls.spliced_cons (cQ (ha pins s σ H _ I h) fun u s1 ⟨x,H1,I1,r1,q1⟩=>?_)
 exact cQ (hr pos pins s1 σ H1 _ I1 q1) fun us s2 ⟨xs,H2,I2,r2,q2⟩=>⟨x :: xs,H2,I2,.cons r1 r2,q2⟩
def Bw (t:TA):TE:=fun σ H Q=>t σ H fun xs H1=>xs.length<=sizeLine/\∀ p,H1 p=none->Q (.ref p) (upd H1 p (.tup xs))
def Bx (t:TA):TE:=fun σ H Q=>t σ H fun xs H1=>xs.length<=sizeLine/\∀ p,H1 p=none->Q (.ref p) (upd H1 p (.lst xs))
theorem eW {x1} (h:PA X es t):PE X (.Tuple es x1 pos) (Bw t):=by
 intro pins s σ H Q I hq
 refine wpAny_Tuple_spliced (cQ (h pos pins s σ H _ I hq) fun us s1 ⟨xs,H1,I1,r,z,q⟩=>⟨by rw [<- r.length];exact z,?_⟩)
 have hf:H1 s1.heap.objs.size=none:=I1.hok.fresh (Wy _)
 refine ⟨.ref s1.heap.objs.size,upd H1 s1.heap.objs.size (.tup xs),I1.laid (t':=s1.toks) (fun b u e=>WM _ e) (Wy _) ?_,rfl,q _ hf⟩
 exact ⟨z,us,r,⟨_,WV _ rfl,rfl,rfl,_,rfl⟩⟩
theorem lM (h:PA X es t):PE X (.List es pos) (Bx t):=by
 intro pins s σ H Q I hq
 refine wpAny_List_spliced (cQ (h pos pins s σ H _ I hq) fun us s1 ⟨xs,H1,I1,r,z,q⟩=>⟨by rw [<- r.length];exact z,?_⟩)
 have hf:H1 s1.heap.objs.size=none:=I1.hok.fresh (Wy _)
 refine ⟨.ref s1.heap.objs.size,upd H1 s1.heap.objs.size (.lst xs),I1.laid (t':=s1.toks) (fun b u e=>WM _ e) (Wy _) ?_,rfl,q _ hf⟩
 exact ⟨z,us,0,r,WV _ rfl⟩
end
abbrev Sp:=List V->Hp->VK->XK->Prop
abbrev qh:=List Env->Hp->Shared->XK->Value->Shared->Prop
structure ug (P:Program) (w:World) (K:Zfr) (mg:Str->Option Value) (base:Heap) (A:Around) (outer:List Env) (s:Shared) (H:Hp):Prop where
 frames:A.frames=some outer
 mod:Mod K mg base
 bs:∀ b o,base.get? b=some o->s.heap.get? b=some o/\H b=none
 uU:base.objs.size<=s.heap.objs.size
 nC:s.heap.FunFrames base outer
 zS:∀ b∈frs outer,H b=none
 hok:lK P w H s.heap
 bare:AllBare s.gens
def CE (outer:List Env) (P:Program) (w:World) (H:Hp) (s:Shared) (Q:VK) (u:Value) (s':Shared):Prop :=
 ∃ v H',s'.os=s.os/\AllBare s'.gens/\Un (frs outer) [] H H' s.heap s'.heap/\lK P w H' s'.heap/\RelV v u/\Q v H'
def CR (CX:qh) (outer:List Env) (P:Program) (w:World) (H:Hp) (s:Shared) (Q:VK) (E:XK) (r:Result) (s':Shared):Prop :=
 match r with
 | .ok (.ret u)=>CE outer P w H s Q u s'
 | .ok _=>False
 | .error e=>CX outer H s E e s'
structure aE (P:Program) (w:World) (K:Zfr) (mg:Str->Option Value) (base:Heap) (CX:qh) (k:Nat) (f:Addr) (fd:FuncData) (ps:List Str) (sp:Sp):Prop where
 len:∀ vs H Q E,sp vs H Q E->vs.length=ps.length
 run:∀ (A:Around) (outer:List Env) (s:Shared) (H:Hp) (args:Args) (us:List Value) (vs:List V) (Q:VK) (E:XK),gw k A->ug P w K mg base A outer s H->BindsTo s fd args (ps.zip us)->Vals vs us->sp vs H Q E ->
  codeAny (model P w) A (.call (.ref f) args) (CR CX outer P w H s Q E) s
theorem aE.imp {P:Program} {w:World} {K:Zfr} {mg:Str->Option Value} {base:Heap} {CX:qh} {k:Nat} {f:Addr} {fd:FuncData} {ps:List Str} {sp K3:Sp} (F:aE P w K mg base CX k f fd ps sp)
  (h:∀ vs H Q E,K3 vs H Q E->sp vs H Q E):aE P w K mg base CX k f fd ps K3 :=
 ⟨fun vs H Q E q=>F.len vs H Q E (h _ _ _ _ q),fun A outer s H args us vs Q E hr he hb hv hs=>F.run A outer s H args us vs Q E hr he hb hv (h _ _ _ _ hs)⟩
section
variable {X:Cx} {pins:List (Addr×Obj)} {σ:St} {H:Hp} {s s':Shared}
theorem Inv.HF (I:Inv X pins σ H s):ug X.prog X.w X.K X.mg X.base X.A X.stack s H :=
 ⟨I.ok.frames,I.ok.mod,I.bs,WO I.ok.uU I.sz,I.stack,I.qf,I.hok,I.bare⟩
theorem Inv.after {Q:VK} {u:Value} (I:Inv X pins σ H s) (h:CE X.stack X.prog X.w H s Q u s'):EP X pins σ Q u s':=by
 obtain ⟨v,H',os,bare,un,hok,r,q⟩:=h
 obtain ⟨hh,g,d,t,os'⟩:=s'
 obtain rfl:os'=s.os:=os
 exact ⟨v,H',I.call (h':=hh) (g':=g) (d':=d) (t':=t) (ch:=[]) un hok bare (fun b z=>absurd z (by simp)),r,q⟩
end
def pj (sp:Sp) (oa:List V) (E:XK) (t:TA):TE:=fun σ H Q=>t σ H fun vs H1=>sp (vs ++ oa) H1 Q E
def Binds (K:Zfr) (fd:FuncData) (ps:List Str) (ds:List Value):Prop :=
 ∀ (s:Shared) (us:List Value),K.In s.heap->(us ++ ds).length=ps.length->BindsTo s fd ⟨us,[]⟩ (ps.zip (us ++ ds))
theorem Binds.all {K:Zfr} {fd:FuncData} {ps:List Str} (h:∀ us:List Value,us.length=ps.length->bindArgs fd ⟨us,[]⟩=pure (ps.zip us)):Binds K fd ps []:=fun s us _ hl=>by
 rw [List.append_nil] at hl ⊢
 exact .of_eq (h us hl)
def Passes (CX:qh) (X:Cx) (E:XK):Prop:=∀ (pins:List (Addr×Obj)) (σ:St) (H:Hp) (s:Shared) (e:Value) (s':Shared),Inv X pins σ H s->CX X.stack H s E e s'->X.xe e s'
section
variable {X:Cx} {CX:qh} {k:Nat} {f C:Addr} {fd:FuncData} {ps:List Str} {sp:Sp} {oa:List V} {ds:List Value} {E:XK} {x m:Str} {p pos apos:Pos} {e o:Expr} {es:List Expr} {ta:TE} {t:TA}
theorem xr {pins:List (Addr×Obj)} {σ:St} {H:Hp} {s:Shared} {Q:VK} {us:List Value} {vs:List V} (F:aE X.prog X.w X.K X.mg X.base CX k f fd ps sp) (hr:gw k X.A) (hb:Binds X.K fd ps ds) (hd:Vals oa ds) (hx:Passes CX X E)
  (I:Inv X pins σ H s) (r:Vals vs us) (h:sp (vs ++ oa) H Q E):wpAny (model X.prog X.w) X.A (call (.ref f) us) (EP X pins σ Q) X.xe s:=by
 have r2:Vals (vs ++ oa) (us ++ ds):=r.append hd
 have hl:(us ++ ds).length=ps.length:=by rw [<- r2.length];exact F.len _ _ _ _ h
 refine wpAny_call (codeAny_mono (F.run X.A X.stack s H ⟨us,[]⟩ (us ++ ds) (vs ++ oa) Q E hr I.HF (hb s us I.EU hl) r2 h) fun r s' hq=>?_)
 cases r with
 | error e=>exact hx pins σ H s e s' I hq
 | ok fl =>
  cases fl with
  | ret u=>exact I.after hq
  | next=>exact False.elim hq
  | brk=>exact False.elim hq
  | cont=>exact False.elim hq
theorem K4 (F:aE X.prog X.w X.K X.mg X.base CX k f fd ps sp) (hr:gw k X.A) (hg:Gl X x) (hm:X.mg x=some (.ref f)) (hk:PySem.W.keepIn X.K (.ref f)=true) (hb:Binds X.K fd ps ds) (hd:Vals oa ds) (hx:Passes CX X E)
  (ha:PA X (e :: es) t) (hdb:(x == ("__debug__" : Str))=false:=by decide) (he:starEach (e :: es) X.env=(false,eval e X.env) :: starEach es X.env:=by rfl) (hpl:(backTo pos (starEach es X.env)).any (·.1)=false:=by rfl) :
  PE X (.Call (.Name x p) (e :: es) [] pos) (pj sp oa E t):=by
 intro pins s σ H Q I h
 refine wpAny_Call_Name_kw (KG I hg hm ?_ hdb)
 refine PySem.W.callWith_K (h₀:=X.base) I.ok.mod.Ht hk (cQ (ha pos pins s σ H _ I h) fun us s1 ⟨vs,H1,I1,r,q⟩=>⟨I1.EU,?_⟩) he hpl
 exact xr F hr hb hd hx I1 r q
end
section
variable {X:Cx} {CX:qh} {k:Nat} {f C:Addr} {fd:FuncData} {ps ks:List Str} {sp:Sp} {E:XK} {x m:Str} {p pos apos kpos:Pos} {e o:Expr} {es:List Expr} {kws:List Keyword} {te ta:TE} {t tk:TA} {nm:Option Str}
variable {g:List Value->List Value->List Value} {gV:List V->List V->List V}
end
structure aD (N P:List Str) (sc:Scope):Prop where
 kind:sc.kind=.function
 co:sc.isCoroutine=false
 gen:sc.isGenerator=false
 nd:N.Nodup
 pre:N.take P.length=P
 par:∀ x∈P,sc.names.lookup x=some .local\/sc.names.lookup x=some .cell
 xt:∀ y∈sc.names,y.2≠.free
theorem K5 {kindOf:Str->Option NameKind} {x:Str}:∀ {binds:List (Str×Value)} {m:Str->Option Value},(∀ v,(x,v) ∉ binds)->bindL kindOf binds m x=m x
 | [],_,_=>rfl
 | (n,v) :: r,m,h=>by
  unfold bindL
  rw [K5 fun w hw=>h w (WK _ hw)]
  split
  ·have:x≠n:=by rintro rfl;exact h v WA
   simp [this]
  ·rfl
theorem K7 {kindOf:Str->Option NameKind} {x:Str}:∀ {binds:List (Str×Value)} {m:Str->Option Value},(∀ v,(x,v) ∉ binds)->bindC kindOf binds m x=m x
 | [],_,_=>rfl
 | (n,v) :: r,m,h=>by
  unfold bindC
  rw [K7 fun w hw=>h w (WK _ hw)]
  split
  ·rfl
  ·have:x≠n:=by rintro rfl;exact h v WA
   simp [this]
theorem K8 {kindOf:Str->Option NameKind} {x:Str} {v:Value}:∀ {P:List Str} {vs:List Value} {i:Nat} {m:Str->Option Value},P.Nodup->P[i]?=some x->vs[i]?=some v->kindOf x=some .local ->
  bindL kindOf (P.zip vs) m x=some v
 | [],_,_,_,_,h,_,_=>by simp at h
 | _ :: _,[],_,_,_,_,h,_=>by simp at h
 | p :: P,w :: vs,0,m,nd,h1,h2,hk=>by
  simp at h1 h2;subst h1;subst h2
  show bindL kindOf ((p,w) :: P.zip vs) m p=_
  unfold bindL
  rw [K5 fun v hv=>(List.nodup_cons.mp nd).1 (List.of_mem_zip hv).1,if_pos hk]
  simp
 | p :: P,w :: vs,i + 1,m,nd,h1,h2,hk=>by
  show bindL kindOf ((p,w) :: P.zip vs) m x=_
  unfold bindL
  exact K8 (i:=i) (List.nodup_cons.mp nd).2 (by simpa using h1) (by simpa using h2) hk
theorem K9 {kindOf:Str->Option NameKind} {x:Str} {v:Value}:∀ {P:List Str} {vs:List Value} {i:Nat} {m:Str->Option Value},P.Nodup->P[i]?=some x->vs[i]?=some v->kindOf x≠some .local ->
  bindC kindOf (P.zip vs) m x=some v
 | [],_,_,_,_,h,_,_=>by simp at h
 | _ :: _,[],_,_,_,_,h,_=>by simp at h
 | p :: P,w :: vs,0,m,nd,h1,h2,hk=>by
  simp at h1 h2;subst h1;subst h2
  show bindC kindOf ((p,w) :: P.zip vs) m p=_
  unfold bindC
  rw [K7 fun v hv=>(List.nodup_cons.mp nd).1 (List.of_mem_zip hv).1,if_neg hk]
  simp
 | p :: P,w :: vs,i + 1,m,nd,h1,h2,hk=>by
  show bindC kindOf ((p,w) :: P.zip vs) m x=_
  unfold bindC
  exact K9 (i:=i) (List.nodup_cons.mp nd).2 (by simpa using h1) (by simpa using h2) hk
def start (N:List Str) (vs:List V):St:=vs.map some ++ List.replicate (N.length - vs.length) none
def g9 (CX:qh) (P:Program) (w:World) (K:Zfr) (mg:Str->Option Value) (base:Heap) (N:List Str) (qual:Str) (scope:Scope) (f:Addr) (cd:Value) (A:Around) (outer:List Env) (s:Shared) (H:Hp) (E:XK):Cx where
 prog:=P
 w:=w
 K:=K
 mg:=mg
 base:=base
 A:=A.deeper (envOfC qual scope s.heap.objs.size f cd)
 N:=N
 s₀:=s
 H₀:=H
 env:=envOfC qual scope s.heap.objs.size f cd
 outer:=outer
 stack:=envOfC qual scope s.heap.objs.size f cd :: outer
 ex:=[]
 calm:=true
 fn:=fun _=>true
 pn:=[]
 xe:=fun e s'=>wpAny (model P w) (A.deeper (envOfC qual scope s.heap.objs.size f cd)) («leaving» (envOfC qual scope s.heap.objs.size f cd) e) (fun _ s''=>CX outer H s E e s'') (fun e' s''=>CX outer H s E e' s'') s'
theorem La {sc:Scope} {n:Nat} {x:Str} (h:sc.names.lookup x=some .cell):∃ c,(cellsFrom n sc.names []).lookup x=some c:=by
 have q:=PySem.W.cellsFrom_some sc.names n [] (.inl h)
 exact Option.isSome_iff_exists.mp q
theorem O0 {CX:qh} {P:Program} {w:World} {K:Zfr} {mg:Str->Option Value} {base:Heap} {N ps:List Str} {qual:Str} {scope:Scope} {f:Addr} {cd:Value} {A:Around} {outer:List Env} {s s1:Shared} {H:Hp} {E:XK} {us:List Value} {vs:List V}
  (S:aD N ps scope) (hd:A.handled=none) (e0:ug P w K mg base A outer s H) (hl:vs.length=ps.length) (r:Vals vs us)
  (x:InCallC s s.heap.objs.size (bindL (envOfC qual scope s.heap.objs.size f cd).kindOf (ps.zip us) fun _=>none) (cellsFrom (s.heap.objs.size + 1) scope.names []) (bindC (envOfC qual scope s.heap.objs.size f cd).kindOf (ps.zip us) fun _=>none) s1) :
  Inv (g9 CX P w K mg base N qual scope f cd A outer s H E) [] (start N vs) H s1:=by
 have hpl:ps.length<=N.length:=by have:=congrArg List.length S.pre;rw [List.length_take] at this;omega
 obtain ⟨h1,tk,rfl,hk⟩:=x.done
 have By:∀ b:Addr,b ∉ (g9 CX P w K mg base N qual scope f cd A outer s H E).ex:=fun b z=>absurd (show b∈([]:List Addr) from z) (by simp)
 refine ⟨⟨e0.mod,S.kind,rfl,rfl,Wy _,fun y z c h1 h2=>?_,fun y hy=>?_,fun y c _ h=>?_,fun _=>hd,Around.frames_deeper e0.frames,.inr ⟨rfl,rfl⟩,fun b z=>absurd z (By b),e0.bs,e0.uU,fun b _ _=>By b,fun b z=>absurd z (By b),e0.nC,e0.zS⟩,
  rfl,e0.bare,Un.kept hk,⟨_,x.toInCall.ns,fun i y v h1 h2 h3=>?_⟩,fun y c h=>⟨_,x.cell y c h⟩,e0.hok.fresh (Wy _),fun y c h=>?_,fun p hp=>absurd (show p∈([]:List (Addr×Obj)) from hp) (by simp),e0.hok.kept hk,?_⟩
 ·exact name_of_addr x.apart (PySem.mem_of_lookup h1) (PySem.mem_of_lookup h2)
 ·have hy:scope.names.lookup y=some .cell\/scope.names.lookup y=some .free:=hy
  rcases hy with hy | hy
  ·exact La hy
  ·exact absurd rfl (S.xt _ (PySem.mem_of_lookup hy))
 ·exact Nat.le_of_lt (x.above y c (PySem.mem_of_lookup h))
 ·have hi:i < vs.length:=by
   unfold start at h2
   by_cases hi:i < vs.length
   ·exact hi
   ·rw [WT (by simpa using hi)] at h2
    rw [List.getElem?_replicate] at h2
    split at h2 <;> cases h2
  have ha:vs[i]?=some v:=by
   unfold start at h2
   rw [WI (by simpa using hi),WB] at h2
   cases e:vs[i]? with
   | none=>rw [e] at h2;cases h2
   | some a=>rw [e] at h2;cases h2;rfl
  obtain ⟨u,hu,rv⟩:=r.get ha
  have hp:ps[i]?=some y:=by
   rw [<- S.pre,List.getElem?_take_of_lt (by omega)];exact h1
  have Lb:ps.Nodup:=by rw [<- S.pre];exact S.nd.sublist (List.take_sublist _ _)
  refine ⟨u,rv,?_⟩
  rcases S.par y (WG hp) with k | k
  ·exact .inl ⟨k,K8 Lb hp hu k⟩
  ·obtain ⟨c,e⟩:=La (n:=s.heap.objs.size + 1) k
   refine .inr ⟨.inl k,c,e,?_⟩
   have q:=x.cell y c e
   rw [K9 Lb hp hu (by show scope.names.lookup y≠_;rw [k];decide)] at q
   exact q
 ·exact e0.hok.fresh (Nat.le_of_lt (x.above y c (PySem.mem_of_lookup h)))
 ·unfold start
  show _=N.length
  rw [Wz,Wv,List.length_replicate]
  omega
theorem u9 {CX:qh} {P:Program} {w:World} {K:Zfr} {mg:Str->Option Value} {base:Heap} {k:Nat} {f:Addr} {name qual:Str} {params:Arguments} {body:List Stmt} {scope:Scope} {dV kV doc pm cdv ct oc:Value} {an od:Option Addr}
  {osl:Array (Option Value)} {N ps:List Str} {sp:Sp} (lk:K.lookup f=some ⟨oc,od,.func (PySem.W.fnOf name qual params body scope dV kV doc pm an cdv ct),osl⟩) (hcd:PySem.W.codeIn K cdv qual=true) (S:aD N ps scope)
  (len:∀ vs H Q E,sp vs H Q E->vs.length=ps.length)
  (hbody:∀ (A:Around) (outer:List Env) (s:Shared) (H:Hp) (vs:List V) (Q:VK) (E:XK),gw k (A.deeper (envOfC qual scope s.heap.objs.size f cdv))->sp vs H Q E ->
   ∃ t,qg (g9 CX P w K mg base N qual scope f cdv A outer s H E) body t/\t { nx:=fun _ H'=>Q .non H',rt:=Q } (start N vs) H) :
  aE P w K mg base CX (k + 1) f (PySem.W.fnOf name qual params body scope dV kV doc pm an cdv ct) ps sp:=by
 refine ⟨len,fun A outer s H args us vs Q E hr e0 hb r rf=>?_⟩
 have hl:=len _ _ _ _ rf
 have KX:K.In s.heap:=e0.mod.Ht.keeps fun b o e=>(e0.bs b o e).1
 have lim:s.heap.NoLimit:=e0.mod.nolimit.keeps fun b o e=>(e0.bs b o e).1
 have hkind:∀ y∈ps.zip us,scope.names.lookup y.1=some .local\/(scope.names.lookup y.1=some .cell/\((cellsFrom (s.heap.objs.size + 1) scope.names []).lookup y.1).isSome=true):=fun ⟨n,v⟩ hy=>by
  rcases S.par n (List.of_mem_zip hy).1 with q | q
  ·exact .inl q
  ·exact .inr ⟨q,PySem.W.cellsFrom_some _ _ _ (.inl q)⟩
 refine codeAny_call_function hr.depth (KX _ _ lk) rfl S.co S.gen rfl (PySem.W.codeRec_of KX hcd) (hb _ _ _ _ ?_)
 refine wpAny_newFunctionEnv_cells S.kind hkind fun env he s1 x=>?_
 subst he
 refine ⟨lim.keeps x.toInCall.keep,codeAny_func ?_⟩
 obtain ⟨t,ht,hq⟩:=hbody A outer s H vs Q E (hr.deeper _) rf
 have I:Inv (g9 CX P w K mg base N qual scope f cdv A outer s H E) [] (start N vs) H s1:=O0 S hr.hd e0 hl r x
 refine wpAny_mono (ht [] s1 (start N vs) H _ I hq) (fun fl s' hs=>?_) fun e s' hs=>hs
 have fin:∀ {σ':St} {H':Hp} {v:V} {u:Value},Inv (g9 CX P w K mg base N qual scope f cdv A outer s H E) [] σ' H' s'->RelV v u->Q v H'->CE outer P w H s Q u s' :=
  fun {σ' H' v u} J rv q=>⟨v,H',J.os,J.bare,J.base,J.hok,rv,q⟩
 cases fl with
 | ret u =>
  obtain ⟨v,σ',H',J,rv,q⟩:=hs
  exact fin J rv q
 | next =>
  obtain ⟨σ',H',J,q⟩:=hs
  exact fin (v:=V.non) (u:=Value.none) J rfl q
 | brk =>
  obtain ⟨_,_,_,q⟩:=hs
  exact False.elim q
 | cont =>
  obtain ⟨_,_,_,q⟩:=hs
  exact False.elim q
section
variable {X:Cx} {x:Str} {p pos:Pos} {e:Expr} {es:List Expr} {t:TA} {id T:String} {r:List V->Hp->VK->Prop}
def HG (r:List V->Hp->VK->Prop) (t:TA):TE:=fun σ H Q=>t σ H fun vs H1=>r vs H1 Q
theorem jN (hc:fV X (.builtin id) r) (hg:Gl X x) (hm:X.mg x=none) (hv:bootBuiltins x=some (.builtin id)) (ha:PA X (e :: es) t) (hn:x≠"__name__" := by decide) (hdb:(x == ("__debug__" : Str))=false:=by decide)
  (he:starEach (e :: es) X.env=(false,eval e X.env) :: starEach es X.env:=by rfl) (hpl:(backTo pos (starEach es X.env)).any (·.1)=false:=by rfl):PE X (.Call (.Name x p) (e :: es) [] pos) (HG r t):=by
 intro pins s σ H Q I h
 refine wpAny_Call_Name_kw (zT I hg hm hv ?_ hn hdb)
 exact PyProof.Rows.callWith_builtin1 (cQ (ha pos pins s σ H _ I h) fun us s1 ⟨vs,H1,I1,r1,q1⟩=>hc pins s1 σ H1 vs us Q I1 r1 q1) he hpl
theorem gx (hc:fV X (.type T) r) (hg:Gl X x) (hm:X.mg x=none) (hv:bootBuiltins x=some (.type T)) (ha:PA X (e :: es) t) (hn:x≠"__name__" := by decide) (hdb:(x == ("__debug__" : Str))=false:=by decide)
  (he:starEach (e :: es) X.env=(false,eval e X.env) :: starEach es X.env:=by rfl) (hpl:(backTo pos (starEach es X.env)).any (·.1)=false:=by rfl):PE X (.Call (.Name x p) (e :: es) [] pos) (HG r t):=by
 intro pins s σ H Q I h
 refine wpAny_Call_Name_kw (zT I hg hm hv ?_ hn hdb)
 exact PyProof.Rows.callWith_type1 (cQ (ha pos pins s σ H _ I h) fun us s1 ⟨vs,H1,I1,r1,q1⟩=>hc pins s1 σ H1 vs us Q I1 r1 q1) he hpl
end
end L2
namespace HT
open PySem PyProof.Rows
theorem O1 (A:Around) (s:Shared) (a:Int) (t:Tok) (c:Int) (u:Tok):∃ e,SeqAt.EqAt A s (.int a t) (.int c u) e/\(e=true↔a=c) :=
 ⟨(a == c),SeqAt.EqAt.int_int a t c u,by simp⟩
section
open PySem.SeqAt
open PySem.AutoSeq1 (wpAny_loadPart')
open PySem.MeetsSeq PySem.MeetsSeq2 PySem.MeetsSeq3
end
section
variable {prog:Program} {w:World} {A:Around} {E:Value->Shared->Prop} {s:Shared}
theorem O2 {t b:Addr} {vs ws:List Value} {Q:Value->Shared->Prop} (ht:IsTup s.heap t vs.toArray) (hb:IsTup s.heap b ws.toArray) (hv:vs≠[])
  (h1:ws=[]->Q (.ref t) s) (h2:ws≠[]->Q (.ref s.heap.objs.size) { s with heap:=s.heap.push { cls:=.type "tuple",data:=.seq (vs ++ ws).toArray } })
  (hsz:vs.length + ws.length<=sizeLine):wpAny (model prog w) A (binaryOp .Add (.ref t) (.ref b)) Q E s:=by
 obtain ⟨⟨cls,dd,data,sl⟩,ho,hc,n,hd⟩:=id ht
 obtain ⟨⟨HI,dd2,data2,sl2⟩,ho2,hc2,n2,hd2⟩:=id hb
 simp only at hc hd hc2 hd2
 subst hc hd hc2 hd2
 have e:vs.toArray ++ ws.toArray=(vs ++ ws).toArray:=by simp
 by_cases hw:ws=[]
 ·exact concat_meets ⟨_,ho,rfl⟩ ⟨_,ho2,rfl⟩ noFill_tuple_add seq_tuple_add PySem.F.slot_tuple_add PySem.F.entry_tuple_add (PySem.F.args_tuple_add_2 _ _)
   (tuple_addW1 t b vs.toArray ws.toArray n n2 dd dd2 sl sl2 (by simpa using hv) (by simp [hw])) ⟨ho,ho2,h1 hw⟩
 ·refine concat_meets ⟨_,ho,rfl⟩ ⟨_,ho2,rfl⟩ noFill_tuple_add seq_tuple_add PySem.F.slot_tuple_add PySem.F.entry_tuple_add (PySem.F.args_tuple_add_2 _ _)
   (tuple_addW2 t b vs.toArray ws.toArray n n2 dd dd2 sl sl2 (by simpa using hv) (by simpa using hw) (by rw [WL,WL];exact hsz)) ⟨ho,ho2,?_⟩
  rw [e]
  exact h2 hw
def cJ (n d:Nat):Option Int->Nat
 | none=>d
 | some v=>if v < 0 then (v + (n:Int)).toNat else min v.toNat n
theorem O3 (n d:Nat):cJ n d none=d:=rfl
theorem O4 (n d k:Nat):cJ n d (some (k:Int))=min k n:=by
 show (if (k:Int) < 0 then ((k:Int) + (n:Int)).toNat else min (k:Int).toNat n)=min k n
 rw [if_neg (by omega),WH]
theorem xu (n d:Nat) (hd:d<=n) (o:Option Int):cJ n d o<=n:=by
 cases o with
 | none=>exact hd
 | some v =>
  show (if v < 0 then (v + (n:Int)).toNat else min v.toNat n)<=n
  by_cases hv:v < 0
  ·rw [if_pos hv];omega
  ·rw [if_neg hv];exact Nat.min_le_right _ _
theorem Lc (v:Int) (n d:Nat):(if v < 0 then max (v + (n:Int)) 0 else min v (n:Int))=((cJ n d (some v):Nat):Int):=by
 show (if v < 0 then max (v + (n:Int)) 0 else min v (n:Int))=(((if v < 0 then (v + (n:Int)).toNat else min v.toNat n):Nat):Int)
 by_cases hv:v < 0
 ·simp only [if_pos hv];omega
 ·simp only [if_neg hv];omega
theorem O5 (lo hi:Option Int) (n:Nat):Builtin.Slice.sliceAdjust lo hi 1 (n:Int)=(((cJ n 0 lo:Nat):Int),((cJ n n hi:Nat):Int)):=by
 have h1:¬ ((1:Int) < 0):=by omega
 unfold Builtin.Slice.sliceAdjust
 simp only [h1,if_false]
 refine Prod.ext ?_ ?_
 ·cases lo with
  | none=>rfl
  | some v=>exact Lc v n 0
 ·cases hi with
  | none=>rfl
  | some v=>exact Lc v n n
theorem O6 (i j:Nat):Builtin.Slice.slicePlaces (i:Int) (j:Int) 1=j - i:=by
 unfold Builtin.Slice.slicePlaces
 have h1:(1:Int) > 0:=by omega
 simp only [h1,if_true,Int.ediv_one]
 split <;> omega
theorem Ld {v:Value} {o:Option Int} {Q:Option Int->Shared->Prop} (p:IsPart v o) (h:Q o s):wpAny (model prog w) A (Builtin.Slice.slicePartIndex v) Q E s:=by
 cases p with
 | none=>exact slicePart_none h
 | int i t=>exact slicePart_int h
theorem Le {sl:Addr} {vl vu:Value} {lo hi:Option Int} {n:Nat} {Q:Int×Int×Nat->Shared->Prop} (hs:s.heap.IsSliceOf sl vl vu .none) (pl:IsPart vl lo) (pu:IsPart vu hi)
  (h:Q (((cJ n 0 lo:Nat):Int),1,cJ n n hi - cJ n 0 lo) s):wpAny (model prog w) A (Builtin.Slice.sliceApplied (.ref sl) (pure (n:Int))) Q E s:=by
 obtain ⟨os,hos,hcs,hds⟩:=id hs
 unfold Builtin.Slice.sliceApplied Builtin.Slice.sliceFields
 refine wpAny_bind (wpAny_bind (wpAny_field hos hds (x:=vl) rfl (wpAny_bind (wpAny_field hos hds (x:=vu) rfl (wpAny_bind (wpAny_field hos hds (x:=.none) rfl (wpAny_pure ?_)))))))
 refine wpAny_bind (slicePart_none ?_)
 show wpAny _ _ (if ((1:Int) == 0)=true then _ else _) _ _ s
 rw [if_neg (by decide)]
 refine wpAny_bind (Ld pl (wpAny_bind (Ld pu (wpAny_bind (wpAny_pure ?_)))))
 show wpAny _ _ (match Builtin.Slice.sliceAdjust lo hi 1 (n:Int) with | (lo,hi)=>pure (lo,(1:Int),Builtin.Slice.slicePlaces lo hi 1)) _ _ s
 rw [O5 lo hi n]
 show wpAny _ _ (pure (((cJ n 0 lo:Nat):Int),(1:Int),Builtin.Slice.slicePlaces ((cJ n 0 lo:Nat):Int) ((cJ n n hi:Nat):Int) 1)) _ _ s
 rw [O6]
 exact wpAny_pure h
theorem O7 (xs:Array Value) (i k:Nat):((List.range k).filterMap fun (m:Nat)=>xs[((i:Int) + (m:Int) * 1).toNat]?).toArray=((xs.toList.drop i).take k).toArray:=by
 have e:(fun (m:Nat)=>xs[((i:Int) + (m:Int) * 1).toNat]?)=fun m=>xs[i + m]?:=by
  funext m
  have:((i:Int) + (m:Int) * 1).toNat=i + m:=by omega
  rw [this]
 rw [e]
 have:=pick_run xs i k
 rw [List.filterMap_map] at this
 have e2:((fun x=>xs[x]?) ∘ fun x=>i + x)=fun m=>xs[i + m]?:=rfl
 rw [e2] at this
 rw [this]
theorem O8 {t sl:Addr} {items:Array Value} {vl vu:Value} {lo hi:Option Int} {Q:Value->Shared->Prop} (ht:IsTup s.heap t items) (hs:s.heap.IsSliceOf sl vl vu .none) (pl:IsPart vl lo) (pu:IsPart vu hi)
  (hw:¬ (cJ items.size 0 lo=0/\cJ items.size items.size hi=items.size))
  (h:Q (.ref s.heap.objs.size) { s with heap:=s.heap.push { cls:=.type "tuple",data:=.seq ((items.toList.drop (cJ items.size 0 lo)).take (cJ items.size items.size hi - cJ items.size 0 lo)).toArray } })
  (hsz:items.size<=sizeLine):wpAny (model prog w) A (getItem (.ref t) (.ref sl)) Q E s:=by
 have qi:sizeOk (.seq ((items.toList.drop (cJ items.size 0 lo)).take (cJ items.size items.size hi - cJ items.size 0 lo)).toArray):=by
  show ((items.toList.drop (cJ items.size 0 lo)).take (cJ items.size items.size hi - cJ items.size 0 lo)).toArray.size<=sizeLine
  rw [WL,List.length_take,List.length_drop,Array.length_toList]
  omega
 have hj:cJ items.size items.size hi<=items.size:=xu _ _ (Wy _) hi
 obtain ⟨os,hos,hcs,hds⟩:=id hs
 have HJ:s.TypeIs (.ref sl) "slice" := ⟨os,hos,hcs⟩
 unfold getItem
 try with_reducible refine wpAny_holding ?_
 first | refine wpAny_bind (wpAny_pure ?_) | skip
 refine wpAny_bind (wpAny_sequenceKey ht.typeIs (by decide) ?_)
 refine wpAny_bind (wpAny_callSpecial?_slot (name:=Str.ofString "__getitem__") ht.typeIs PyProof.Rows.slot_tuple_getitem
  (wpAny_call_entry PyProof.Rows.slot_tuple_getitem ht.typeIs entry_tuple_getitem ?_ (args_tuple_getitem _ _)))
 show wpAny _ _ (Builtin.Tuple.tupleItemsOf (.ref t) >>= _) _ _ s
 refine wpAny_bind (tupleItemsOf_ ht ?_)
 refine wpAny_bind (wpAny_typeOf HJ ?_)
 rw [if_pos (by decide)]
 refine wpAny_bind (Le hs pl pu ?_)
 have hno:¬ ((((cJ items.size 0 lo:Nat):Int) == 0 && (1:Int) == 1 && (cJ items.size items.size hi - cJ items.size 0 lo) == items.size)=true):=by
  intro q
  rw [WW,WW] at q
  have q1:((cJ items.size 0 lo:Nat):Int)=0:=eq_of_beq q.1.1
  have q2:cJ items.size items.size hi - cJ items.size 0 lo=items.size:=eq_of_beq q.2
  exact hw ⟨by omega,by omega⟩
 show wpAny _ _ (if (((cJ items.size 0 lo:Nat):Int) == 0 && (1:Int) == 1 && (cJ items.size items.size hi - cJ items.size 0 lo) == items.size)=true then _ else _) _ _ s
 rw [if_neg hno,O7]
 first
  | exact wpAny_bind (m:=Builtin.Tuple.tupleExact _) (wpAny_newObj_type (wpAny_pure ⟨_,rfl,wpAny_pure h⟩) qi)
  | exact wpAny_bind (m:=Builtin.Tuple.tupleExact _) (wpAny_newObj_type (wpAny_bind (wpAny_pure (wpAny_pure ⟨_,rfl,wpAny_pure h⟩))) qi)
  | exact wpAny_bind (wpAny_bind (m:=Builtin.Tuple.tupleExact _) (wpAny_newObj_type (wpAny_pure (wpAny_pure ⟨_,rfl,wpAny_pure h⟩)) qi))
  | exact wpAny_bind (wpAny_bind (m:=Builtin.Tuple.tupleExact _) (wpAny_newObj_type (wpAny_pure ⟨_,rfl,wpAny_pure h⟩) qi))
end
end HT
namespace L2
open PySem PySem.Spec PyProof.Rows
abbrev TO:=St->Hp->(Option Int->Hp->Prop)->Prop
def PO (X:Cx) (e:Option Expr) (t:TO):Prop :=
 ∀ (pins:List (Addr×Obj)) (s:Shared) (σ:St) (H:Hp) (Q:Option Int->Hp->Prop),Inv X pins σ H s->t σ H Q ->
  wpAny (model X.prog X.w) X.A (evalPart e X.env) (fun u s'=>∃ o H',Inv X pins σ H' s'/\IsPart u o/\Q o H') X.xe s
def qj:TO:=fun _ H Q=>Q none H
def va (t:TE):TO:=fun σ H Q=>t σ H fun x H1=>∃ i,x=.int i/\Q (some i) H1
theorem Lf {ns:List Int}:∀ {us:List Value},Vals (ns.map V.int) us->IntsAre us ns:=by
 induction ns with
 | nil=>intro us r;rw [Xg] at r;cases r;exact .nil
 | cons n ns ih =>
  intro us r
  rw [WY] at r
  cases r with
  | cons r1 r2 =>
   obtain ⟨t,e⟩:=r1
   subst e
   exact .cons n t (ih r2)
section
variable {X:Cx} {e:Expr} {te:TE} {lo hi:Option Expr} {tl th:TO} {pos p2:Pos}
theorem Lg:PO X none qj:=by
 intro pins s σ H Q I h
 rw [evalPart_none]
 exact wpAny_pure ⟨none,H,I,.none,h⟩
theorem Lh (h:PE X e te):PO X (some e) (va te):=by
 intro pins s σ H Q I hw
 rw [evalPart_some]
 refine cQ (h pins s σ H _ I hw) fun u s1 ⟨x,H1,I1,r1,q1⟩=>?_
 obtain ⟨i,rfl,q⟩:=q1
 obtain ⟨t,rfl⟩:=r1
 exact ⟨some i,H1,I1,.int i t,q⟩
def E2 (X:Cx) (r:V->Option Int->Option Int->Hp->VK->Prop):Prop :=
 ∀ (pins:List (Addr×Obj)) (s:Shared) (σ:St) (H:Hp) (x:V) (v vl vu:Value) (lo hi:Option Int) (sl:Addr) (Q:VK),Inv X pins σ H s->RelV x v->s.heap.IsSliceOf sl vl vu .none->IsPart vl lo->IsPart vu hi->r x lo hi H Q ->
  ∃ T id,typeLookup (.type T) "__getitem__" = pure (some (.builtin id))/\s.TypeIs v T/\wpAny (model X.prog X.w) X.A (getItem v (.ref sl)) (EP X pins σ Q) X.xe s
def Li (r:V->Option Int->Option Int->Hp->VK->Prop) (te:TE) (tl th:TO):TE:=fun σ H Q=>te σ H fun x H1=>tl σ H1 fun l H2=>th σ H2 fun u H3=>r x l u H3 Q
theorem Lj {r:V->Option Int->Option Int->Hp->VK->Prop} (hr:E2 X r) (he:PE X e te) (hl:PO X lo tl) (hu:PO X hi th):PE X (.Subscript e (.Slice lo hi none p2) pos) (Li r te tl th):=by
 intro pins s σ H Q I h
 refine Subscript_ (cQ (he pins s σ H _ I h) fun v s1 ⟨x,H1,I1,r1,q1⟩=>?_)
 refine wpAny_Slice (cQ (hl pins s1 σ H1 _ I1 q1) fun vl s2 ⟨l,H2,I2,pl,q2⟩=>cQ (hu pins s2 σ H2 _ I2 q2) fun vu s3 ⟨u,H3,I3,pu,q3⟩=>?_)
 rw [evalPart_none]
 refine wpAny_pure ?_
 have I4:Inv X pins σ H3 { s3 with heap:=s3.heap.push { cls:=.type "slice",data:=.fields #[vl,vu,.none] } }:=I3.kept (t':=s3.toks) fun b ob q=>WM _ q
 obtain ⟨T,id,hT,ht,hg⟩:=hr pins { s3 with heap:=s3.heap.push { cls:=.type "slice",data:=.fields #[vl,vu,.none] } } σ H3 x v vl vu l u s3.heap.objs.size Q I4 r1 (Heap.IsSliceOf.new ..) pl pu q3
 show wpAny (model X.prog X.w) X.A (subscriptTail e (.Slice lo hi none p2) v (.ref s3.heap.objs.size)) (EP X pins σ Q) X.xe { s3 with heap:=s3.heap.push { cls:=.type "slice",data:=.fields #[vl,vu,.none] } }
 exact tail_any (ops:=[.ref s3.heap.objs.size,v]) ht hT hg (by with_unfolding_all rfl)
def nF (xs:List V) (lo hi:Option Int):List V:=(xs.drop (HT.cJ xs.length 0 lo)).take (HT.cJ xs.length xs.length hi - HT.cJ xs.length 0 lo)
theorem Lk (xs:List V) (lo hi:Option Int):(nF xs lo hi).length<=xs.length:=by
 unfold nF
 rw [List.length_take,List.length_drop]
 omega
def HK (K:Zfr):V->Option Int->Option Int->Hp->VK->Prop:=fun x lo hi H Q=>∃ a xs,x=.ref a/\fj K H a xs /\
 ¬ (HT.cJ xs.length 0 lo=0/\HT.cJ xs.length xs.length hi=xs.length)/\∀ p,H p=none->Q (.ref p) (upd H p (.tup (nF xs lo hi)))
theorem xv:E2 X (HK X.K):=by
 intro pins s σ H x v vl vu lo hi sl Q I rx hs pl pu h
 obtain ⟨a,xs,rfl,hx,hw,q⟩:=h
 cases rx
 obtain ⟨its,r,ht,hz⟩:=I.tuple hx
 have hlen:its.toArray.size=xs.length:=by rw [WL];exact r.length.symm
 refine ⟨"tuple",_,PyProof.Rows.slot_tuple_getitem.lookup,ht.typeIs,?_⟩
 refine HT.O8 ht hs pl pu (by rw [hlen];exact hw) ?_ (by rw [hlen];exact hz)
 rw [hlen]
 refine ⟨.ref s.heap.objs.size,_,I.laid (t':=s.toks) (o:=.tup (nF xs lo hi)) (fun b ob q=>WM _ q) (Wy _) ?_,rfl,q _ (I.hok.fresh (Wy _))⟩
 exact ⟨WO (Lk xs lo hi) hz,_,(r.drop (HT.cJ xs.length 0 lo)).take (HT.cJ xs.length xs.length hi - HT.cJ xs.length 0 lo),oD.new _ _⟩
def Bz (K:Zfr):R2:=fun x y H Q=>∃ a b xs ys,x=.ref a/\y=.ref b/\fj K H a xs/\fj K H b ys/\xs≠[]/\xs.length + ys.length<=sizeLine /\
 (ys=[]->Q (.ref a) H)/\(ys≠[]->∀ p,H p=none->Q (.ref p) (upd H p (.tup (xs ++ ys))))
theorem Vals.ng {xs:List V} {us:List Value} (r:Vals xs us):us=[]↔xs=[]:=by
 cases r with
 | nil=>simp
 | cons _ _=>simp
theorem O9:kR X (binaryOp .Add) (Bz X.K):=by
 intro pins s σ H x y v u Q I rx ry h
 obtain ⟨a,b,xs,ys,rfl,rfl,ha,hb,hx,hz,q1,q2⟩:=h
 cases rx
 cases ry
 obtain ⟨its,r1,p1,_⟩:=I.tuple ha
 obtain ⟨its2,r2,p2,_⟩:=I.tuple hb
 refine HT.O2 p1 p2 (fun z=>hx (r1.ng.mp z)) (fun z=>⟨.ref a,H,I,rfl,q1 (r2.ng.mp z)⟩) (fun z=>?_) (by rw [<- r1.length,<- r2.length];exact hz)
 refine ⟨.ref s.heap.objs.size,_,I.laid (t':=s.toks) (o:=.tup (xs ++ ys)) (fun b ob q=>WM _ q) (Wy _) ?_,rfl,q2 (fun w=>z (r2.ng.mpr w)) _ (I.hok.fresh (Wy _))⟩
 exact ⟨by rw [Wz];exact hz,_,r1.append r2,oD.new _ _⟩
end
def mM (n:Nat) (i:Int):Option Nat:=if 0<=i then (if i < n then some i.toNat else none) else if -(n:Int)<=i then some (i + n).toNat else none
def eE {α:Type} (xs:List α) (i:Int):Option α:=(mM xs.length i).bind fun j=>xs[j]?
theorem HL {n:Nat} {i:Int} {j:Nat} (h:mM n i=some j):seqIndex? i n=some j/\j < n/\-(n:Int)<=i/\i < n:=by
 unfold mM at h
 by_cases h0:0<=i
 ·rw [if_pos h0] at h
  by_cases h1:i < n
  ·rw [if_pos h1] at h
   have e:i.toNat=j:=WJ h
   exact ⟨by rw [seqIndex_of h0 h1,e],by omega,by omega,h1⟩
  ·rw [if_neg h1] at h;cases h
 ·rw [if_neg h0] at h
  by_cases h1:-(n:Int)<=i
  ·rw [if_pos h1] at h
   have e:(i + n).toNat=j:=WJ h
   exact ⟨by rw [seqIndex_neg (by omega) h1,e],by omega,h1,by omega⟩
  ·rw [if_neg h1] at h;cases h
theorem Ll {α:Type} {xs:List α} {i:Int} {v:α} (h:eE xs i=some v):∃ j,seqIndex? i xs.length=some j/\xs[j]?=some v/\j < xs.length/\-(xs.length:Int)<=i/\i < xs.length:=by
 unfold eE at h
 cases e:mM xs.length i with
 | none=>rw [e] at h;cases h
 | some j =>
  rw [e] at h
  obtain ⟨h1,h2,h3,h4⟩:=HL e
  exact ⟨j,h1,h,h2,h3,h4⟩
theorem zZ {α:Type} {xs:List α} {j:Nat} {v:α} (h:xs[j]?=some v):eE xs (j:Int)=some v:=by
 have hj:j < xs.length:=(Ww.mp h).1
 have e:mM xs.length (j:Int)=some j:=by
  unfold mM
  rw [if_pos (by omega),if_pos (by omega)];simp
 unfold eE;rw [e];exact h
def uh (b:Expr):Prop:=∀ o i,subscripted b false o i=operate [o,i] (getItem o i)
def BA (X:Cx) (r:R2):Prop :=
 ∀ (value slice:Expr) (pins:List (Addr×Obj)) (s:Shared) (σ:St) (H:Hp) (x y:V) (v u:Value) (Q:VK),Inv X pins σ H s->RelV x v->RelV y u->r x y H Q ->
  subscripted slice false v u=operate [v,u] (getItem v u)->wpAny (model X.prog X.w) X.A (subscriptTail value slice v u) (EP X pins σ Q) X.xe s
def vd (X:Cx) (id:String) (r:V->List V->Hp->VK->Prop):Prop :=
 ∀ (pins:List (Addr×Obj)) (s:Shared) (σ:St) (H:Hp) (x:V) (xs:List V) (v:Value) (us:List Value) (Q:VK),Inv X pins σ H s->RelV x v->Vals xs us->r x xs H Q ->
  wpAny (model X.prog X.w) X.A (call (.builtin id) (v :: us)) (EP X pins σ Q) X.xe s
section
variable {X:Cx} {a b:Expr} {ta tb:TE} {pos:Pos}
theorem bh {r:R2} (hr:BA X r) (ha:PE X a ta) (hb:PE X b tb) (hs:uh b):PE X (.Subscript a b pos) (Bp r ta tb):=by
 intro pins s σ H Q I h
 exact Subscript_ (xm ha hb I h fun v u s2 x y H2 I2 rx ry q=>hr a b pins s2 σ H2 x y v u Q I2 rx ry q (hs _ _))
def xw (K:Zfr):R2:=fun x y H Q=>∃ p xs i v,x=.ref p/\y=.int i/\jy K H p xs/\eE xs i=some v/\Q v H
def xx (K:Zfr):R2:=fun x y H Q=>∃ p xs i v,x=.ref p/\y=.int i/\fj K H p xs/\eE xs i=some v/\Q v H
theorem mN:BA X (xw X.K):=by
 intro value slice pins s σ H x y v u Q I rx ry h hs
 obtain ⟨p,xs,i,z,rfl,rfl,hq,he,q⟩:=h
 cases rx
 obtain ⟨t,rfl⟩:=ry
 obtain ⟨its,r,pl,hz⟩:=I.list hq
 obtain ⟨j,h1,h2,h3,h4,h5⟩:=Ll he
 obtain ⟨w,ew,rw'⟩:=r.get h2
 have hl:=r.length
 have hn:=ml
 have fin:EP X pins σ Q w s:=⟨z,H,I,rw',q⟩
 by_cases h0:0<=i
 ·have hj:i.toNat=j:=by
   rw [seqIndex_of h0 h5] at h1
   exact WJ h1
  exact item_listR pl.isList h0 (by omega) (by rw [hj];simpa using ew) fin hs
 ·have hj:(i + (its.toArray.size:Int)).toNat=j:=by
   rw [seqIndex_neg (by omega) h4] at h1
   rw [WL,<- hl]
   exact WJ h1
  exact subscriptTail_builtinR (x:=w) pl.isList.typeIs slot_list_getitem.lookup
   (wpAny_getItem_list_neg (Q:=fun r s'=>r=w/\EP X pins σ Q r s') pl.isList (by omega) (by rw [WL] <;> omega) (by omega) (by rw [hj];simpa using ew) ⟨rfl,fin⟩) hs
theorem cg:BA X (xx X.K):=by
 intro value slice pins s σ H x y v u Q I rx ry h hs
 obtain ⟨p,xs,i,z,rfl,rfl,hq,he,q⟩:=h
 cases rx
 obtain ⟨t,rfl⟩:=ry
 obtain ⟨its,r,pl,hz⟩:=I.tuple hq
 obtain ⟨j,h1,h2,h3,h4,h5⟩:=Ll he
 obtain ⟨w,ew,rw'⟩:=r.get h2
 have hl:=r.length
 have hn:=ml
 have fin:EP X pins σ Q w s:=⟨z,H,I,rw',q⟩
 exact subscriptTail_builtinR (x:=w) pl.typeIs slot_tuple_getitem.lookup
  (getItem_tuple (j:=j) (Q:=fun r s'=>r=w/\EP X pins σ Q r s') pl (by omega) (by omega) (by rw [WL,<- hl];exact h1) (by simpa using ew) ⟨rfl,fin⟩) hs
theorem Pa (its:List Value) (n j:Nat) (u:Value):Obj.mapSeq (·.setIfInBounds j u) { cls:=.type "list",data:=.seq its.toArray n }={ cls:=.type "list",data:=.seq (its.set j u).toArray n }:=by
 simp [Obj.mapSeq]
theorem Inv.lst {pins:List (Addr×Obj)} {σ:St} {H:Hp} {s:Shared} {p:Addr} {xs:List V} (I:Inv X pins σ H s) (h:H p=some (.lst xs)) :
  ∃ (its:List Value) (n:Nat),Vals xs its/\s.heap.get? p=some { cls:=.type "list",data:=.seq its.toArray n }/\xs.length<=sizeLine:=by
 obtain ⟨z,its,n,r,e⟩:=I.hok p _ h
 exact ⟨its,n,r,e,z⟩
theorem Inv.xy {pins:List (Addr×Obj)} {σ:St} {H:Hp} {s:Shared} {p:Addr} {xs ys:List V} {its its':List Value} {n n':Nat} {f:Obj->Obj} (I:Inv X pins σ H s) (h:H p=some (.lst xs))
  (ho:s.heap.get? p=some { cls:=.type "list",data:=.seq its.toArray n }) (hf:f { cls:=.type "list",data:=.seq its.toArray n }={ cls:=.type "list",data:=.seq its'.toArray n' }) (r:Vals ys its') (hz:ys.length<=sizeLine) (t:Nat) :
  Inv X pins σ (upd H p (.lst ys)) { s with heap:=s.heap.update p f,toks:=t }:=by
 have e:(s.heap.update p f).get? p=some { cls:=.type "list",data:=.seq its'.toArray n' }:=by
  rw [Heap.get?_update_self f ho (by rw [hf] <;> rfl),hf]
 refine I.write (x:=p) (e:=p) (by rw [h];trivial) (.inl rfl) (fun b u hb q=>(Xo _ _ (Ne.symm hb)).trans q) ⟨_,e⟩ ?_
 exact ⟨hz,its',n',r,e⟩
def ve:V->V->V->Hp->(Hp->Prop)->Prop:=fun o i v H Q=>∃ p xs k j,o=.ref p/\i=.int k/\H p=some (.lst xs)/\mM xs.length k=some j/\Q (upd H p (.lst (xs.set j v)))
theorem Aa:Bi X ve:=by
 intro pins s σ H o i v ov iv u Q I ro ri rv h
 obtain ⟨p,xs,k,j,rfl,rfl,hp,hj,q⟩:=h
 cases ro
 obtain ⟨t,rfl⟩:=ri
 obtain ⟨its,n,r,ho,hz⟩:=I.lst hp
 obtain ⟨h1,h2,h3,h4⟩:=HL hj
 have hl:=r.length
 have hn:=ml
 have I':Inv X pins σ (upd H p (.lst (xs.set j v))) { s with heap:=s.heap.update p (Obj.mapSeq (·.setIfInBounds j u)) } :=
  I.xy hp ho (Pa its n j u) (r.set rv j) (by rw [Xj];exact hz) s.toks
 by_cases h0:0<=k
 ·have hk:k.toNat=j:=by
   rw [seqIndex_of h0 h4] at h1
   exact WJ h1
  exact PySem.W.ki_setAt ho h0 (by omega) (by rw [WL,<- hl];exact h4) (by rw [hk];exact ⟨_,I',q⟩)
 ·have hk:(k + (its.toArray.size:Int)).toNat=j:=by
   rw [seqIndex_neg (by omega) h3] at h1
   rw [WL,<- hl]
   exact WJ h1
  exact PySem.W.ki_setBack ho (by omega) (by rw [WL,<- hl];exact h3) (by omega) (by rw [hk];exact ⟨_,I',q⟩)
theorem Pb (lo hi:Option Int) (n:Nat):(sliceBounds lo hi none n).1=((HT.cJ n 0 lo:Nat):Int)/\(sliceBounds lo hi none n).2.1=((HT.cJ n n hi:Nat):Int)/\(sliceBounds lo hi none n).2.2=1:=by
 refine ⟨?_,?_,rfl⟩
 ·cases lo with
  | none=>simp [sliceBounds,HT.cJ]
  | some i =>
   simp only [sliceBounds,HT.cJ,Option.getD_none,show (1:Int) > 0 by decide,if_true]
   by_cases h:i < 0
   ·simp only [h,if_true] <;> omega
   ·simp only [h,if_false] <;> omega
 ·cases hi with
  | none=>simp [sliceBounds,HT.cJ]
  | some i =>
   simp only [sliceBounds,HT.cJ,Option.getD_none,show (1:Int) > 0 by decide,if_true]
   by_cases h:i < 0
   ·simp only [h,if_true] <;> omega
   ·simp only [h,if_false] <;> omega
theorem Pc (its:List Value) (lo hi:Option Int):slicePick its.toArray lo hi none=((its.drop (HT.cJ its.length 0 lo)).take (HT.cJ its.length its.length hi - HT.cJ its.length 0 lo)).toArray:=by
 obtain ⟨h1,h2,h3⟩:=Pb lo hi its.toArray.size
 unfold slicePick
 rw [h1,h2,h3]
 simp only [sliceRange_one,pick_run,WL] <;> rfl
def BB (K:Zfr):V->Option Int->Option Int->Hp->VK->Prop:=fun x lo hi H Q=>∃ a xs,x=.ref a/\jy K H a xs/\∀ p,H p=none->Q (.ref p) (upd H p (.lst (nF xs lo hi)))
theorem Pd:E2 X (BB X.K):=by
 intro pins s σ H x v vl vu lo hi sl Q I rx hs pl pu h
 obtain ⟨a,xs,rfl,hx,q⟩:=h
 cases rx
 obtain ⟨its,r,ht,hz⟩:=I.list hx
 have hlen:=r.length
 refine ⟨"list",_,slot_list_getitem.lookup,ht.isList.typeIs,?_⟩
 refine wpAny_getItem_list_slice ht.isList hs pl pu .none (by simp) ?_ (by rw [WL] <;> omega)
 rw [Pc,<- hlen]
 refine ⟨.ref s.heap.objs.size,_,I.laid (t':=s.toks) (o:=.lst (nF xs lo hi)) (fun b ob q=>WM _ q) (Wy _) ?_,rfl,q _ (I.hok.fresh (Wy _))⟩
 exact ⟨WO (Lk xs lo hi) hz,_,0,(r.drop (HT.cJ xs.length 0 lo)).take (HT.cJ xs.length xs.length hi - HT.cJ xs.length 0 lo),WV _ rfl⟩
def kQ:V->Bool
 | .non=>true
 | .bl _=>true
 | .int _=>true
 | .str _=>true
 | _=>false
def vf:V->V->Bool
 | .non,.non=>true
 | .bl a,.bl b=>a == b
 | .bl a,.int b=>(if a then 1 else 0) == b
 | .int a,.bl b=>a == (if b then 1 else 0)
 | .int a,.int b=>a == b
 | .str a,.str b=>a == b
 | _,_=>false
theorem xA {A:Around} {s:Shared} {y x:V} {u v:Value} (ry:RelV y u) (rx:RelV x v) (fy:kQ y=true) (fx:kQ x=true):SeqAt.EqAt A s u v (vf y x):=by
 cases y with
 | non =>
  cases ry
  cases x with
  | non=>cases rx;exact SeqAt.EqAt.same _
  | bl b=>cases rx;exact SeqAt.EqAt.none_bool b
  | int b=>obtain ⟨t,rfl⟩:=rx;exact SeqAt.EqAt.none_int b t
  | str b=>obtain ⟨t,rfl⟩:=rx;exact SeqAt.EqAt.none_str b t
  | _=>exact absurd (show false=true from fx) WD
 | bl a =>
  cases ry
  cases x with
  | non=>cases rx;exact SeqAt.EqAt.bool_none a
  | bl b=>cases rx;exact SeqAt.EqAt.bool_bool a b
  | int b=>obtain ⟨t,rfl⟩:=rx;exact SeqAt.EqAt.bool_int a b t
  | str b=>obtain ⟨t,rfl⟩:=rx;exact SeqAt.EqAt.bool_str a b t
  | _=>exact absurd (show false=true from fx) WD
 | int a =>
  obtain ⟨t',rfl⟩:=ry
  cases x with
  | non=>cases rx;exact SeqAt.EqAt.int_none a t'
  | bl b=>cases rx;exact SeqAt.EqAt.int_bool a t' b
  | int b=>obtain ⟨t,rfl⟩:=rx;exact SeqAt.EqAt.int_int a t' b t
  | str b=>obtain ⟨t,rfl⟩:=rx;exact SeqAt.EqAt.int_str a t' b t
  | _=>exact absurd (show false=true from fx) WD
 | str a =>
  obtain ⟨t',rfl⟩:=ry
  cases x with
  | non=>cases rx;exact SeqAt.EqAt.str_none a t'
  | bl b=>cases rx;exact SeqAt.EqAt.str_bool a t' b
  | int b=>obtain ⟨t,rfl⟩:=rx;exact SeqAt.EqAt.str_int a t' b t
  | str b=>obtain ⟨t,rfl⟩:=rx;exact SeqAt.EqAt.str_str a t' b t
  | _=>exact absurd (show false=true from fx) WD
 | _=>exact absurd (show false=true from fy) WD
def ui (x:V) (u:Value):Bool:=match u with
 | .none=>vf .non x
 | .bool b=>vf (.bl b) x
 | .int i _=>vf (.int i) x
 | .str z _=>vf (.str z) x
 | _=>false
theorem Lm {x y:V} {u:Value} (r:RelV y u) (f:kQ y=true):ui x u=vf y x:=by
 cases y with
 | non=>cases r;rfl
 | bl b=>cases r;rfl
 | int i=>obtain ⟨t,rfl⟩:=r;rfl
 | str z=>obtain ⟨t,rfl⟩:=r;rfl
 | _=>exact absurd (show false=true from f) WD
theorem HM {x:V}:∀ {xs:List V} {us:List Value},Vals xs us->xs.all kQ=true->us.any (ui x)=xs.any fun y=>vf y x
 | _,_,.nil,_=>rfl
 | y :: xs,u :: us,.cons r t,f=>by
  rw [List.all_cons,WW] at f
  rw [Xr,Xr,Lm r f.1,HM t f.2]
theorem HN {A:Around} {s:Shared} {x:V} {v:Value} (rx:RelV x v) (fx:kQ x=true):∀ {xs:List V} {us:List Value},Vals xs us->xs.all kQ=true->∀ u∈us,SeqAt.EqAt A s u v (ui x u)
 | _,_,.nil,_=>fun u hu=>by cases hu
 | y :: xs,u :: us,.cons r t,f=>fun u' hu=>by
  rw [List.all_cons,WW] at f
  rcases W0.mp hu with rfl | hu
  ·rw [Lm r f.1];exact xA r rx f.1 fx
  ·exact HN rx fx t f.2 u' hu
def vg (x:V) (xs:List V):Bool:=xs.any fun y=>vf y x
def HP (K:Zfr) (neg:Bool):R2:=fun x y H Q=>∃ p xs,y=.ref p/\(jy K H p xs\/fj K H p xs)/\kQ x=true/\xs.all kQ=true/\Q (.bl (if neg then !vg x xs else vg x xs)) H
theorem E3:kR X (compareOp .NotIn) (HP X.K true):=by
 intro pins s σ H x y v u Q I rx ry h
 obtain ⟨p,xs,rfl,hq,fx,fs,q⟩:=h
 cases ry
 rcases hq with hq | hq
 ·obtain ⟨its,r,pl,hz⟩:=I.list hq
  refine SeqAt.notIn_listAt (ui x) pl.isList (fun w hw=>HN rx fx r fs w (by simpa using hw)) ⟨.bl _,H,I,rfl,?_⟩
  rw [show its.toArray.any (ui x)=its.any (ui x) by simp,HM r fs]
  exact q
 ·obtain ⟨its,r,pl,hz⟩:=I.tuple hq
  refine SeqAt.notIn_tupleAt (ui x) pl (fun w hw=>HN rx fx r fs w (by simpa using hw)) ⟨.bl _,H,I,rfl,?_⟩
  rw [show its.toArray.any (ui x)=its.any (ui x) by simp,HM r fs]
  exact q
theorem lO:fV X (.builtin "len") (fun xs H Q=>∃ p ys,xs=[.ref p]/\(jy X.K H p ys\/fj X.K H p ys)/\Q (.int ys.length) H):=by
 intro pins s σ H xs us Q I r h
 obtain ⟨p,ys,rfl,hq,q⟩:=h
 obtain ⟨u,rfl,rx⟩:=vals1 r
 cases rx
 have hn:=ml
 rcases hq with hq | hq
 ·obtain ⟨its,r',pl,hz⟩:=I.list hq
  have hlen:=r'.length
  exact Calls.call_len_list pl.isList (by simp only [WL] <;> omega) ⟨.int ys.length,H,I.tok _,⟨s.toks + 1,by rw [WL,hlen]⟩,q⟩
 ·obtain ⟨its,r',pl,hz⟩:=I.tuple hq
  have hlen:=r'.length
  exact len_tuple pl (by simp only [WL] <;> omega) ⟨.int ys.length,H,I.tok _,⟨s.toks + 1,by rw [WL,hlen]⟩,q⟩
theorem HQ:fV X (.type "list") (fun xs H Q=>∃ p ys,xs=[.ref p]/\(jy X.K H p ys\/fj X.K H p ys)/\∀ l,H l=none->Q (.ref l) (upd H l (.lst ys))):=by
 intro pins s σ H xs us Q I r h
 obtain ⟨p,ys,rfl,hq,q⟩:=h
 obtain ⟨u,rfl,rx⟩:=vals1 r
 cases rx
 have fin:∀ (its:List Value),Vals ys its->ys.length<=sizeLine->∀ (h':Heap) (c':Nat),(∀ b o',s.heap.get? b=some o'->h'.get? b=some o') ->
   h'.get? s.heap.objs.size=some { cls:=.type "list",dict:=none,data:=.seq its.toArray c',slots:=#[] }->EP X pins σ Q (.ref s.heap.objs.size) { s with heap:=h' }:=fun its r' hz h' c' kp e =>
  ⟨.ref s.heap.objs.size,_,I.laid (t':=s.toks) kp (Wy _) (show cI X.prog X.w _ h' _ (.lst ys) from ⟨hz,its,c',r',e⟩),rfl,q _ (I.hok.fresh (Wy _))⟩
 rcases hq with hq | hq
 ·obtain ⟨its,r',pl,hz⟩:=I.list hq
  have hlen:=r'.length
  obtain ⟨o,ho,hc,n,hd⟩:=pl.isList
  exact call_list_seq p (.inl rfl) ho hc hd (fun h' c' kp e=>fin its r' hz h' c' kp e) (by simp only [WL] <;> omega)
 ·obtain ⟨its,r',pl,hz⟩:=I.tuple hq
  have hlen:=r'.length
  obtain ⟨o,ho,hc,n,hd⟩:=pl
  exact call_list_seq p (.inr rfl) ho hc hd (fun h' c' kp e=>fin its r' hz h' c' kp e) (by simp only [WL] <;> omega)
theorem oe:fV X (.type "tuple") (fun xs H Q=>∃ p ys,xs=[.ref p]/\((jy X.K H p ys/\∀ l,H l=none->Q (.ref l) (upd H l (.tup ys)))\/(fj X.K H p ys/\Q (.ref p) H))):=by
 intro pins s σ H xs us Q I r h
 obtain ⟨p,ys,rfl,h⟩:=h
 obtain ⟨u,rfl,rx⟩:=vals1 r
 cases rx
 rcases h with ⟨hq,q⟩ | ⟨hq,q⟩
 ·obtain ⟨its,r',pl,hz⟩:=I.list hq
  have hlen:=r'.length
  refine call_tuple_list pl.isList (fun h' kp=>?_) (by simp only [WL] <;> omega)
  have I1:Inv X pins σ H { s with heap:=h' }:=I.kept (t':=s.toks) kp
  have I2:Inv X pins σ (upd H h'.objs.size (.tup ys)) { s with heap:=h'.push { cls:=.type "tuple",data:=.seq its.toArray } } :=
   I1.laid (t':=s.toks) (fun b o e=>WM _ e) (Wy _) (show cI X.prog X.w _ _ _ (.tup ys) from ⟨hz,its,r',oD.new _ _⟩)
  exact ⟨.ref h'.objs.size,_,I2,rfl,q _ (I1.hok.fresh (Wy _))⟩
 ·obtain ⟨its,r',pl,hz⟩:=I.tuple hq
  exact call_tuple_same pl ⟨.ref p,H,I,rfl,q⟩
def E4 (K:Zfr) (T:String) (x:V) (H:Hp):Prop:=match x with
 | .str _=>T="str"
 | .int _=>T="int"
 | .ref p=>(T="list" /\ ∃ xs,jy K H p xs)\/(T="tuple" /\ ∃ xs,fj K H p xs) \/
   (T="dict" /\ ((∃ kvs,H p=some (.dK kvs))\/∃ kvs,H p=some (.dT kvs)))\/(T="set" /\ ∃ S n,H p=some (.set S n))
 | _=>False
theorem Ln {pins:List (Addr×Obj)} {σ:St} {H:Hp} {s:Shared} {T:String} {x:V} {v:Value} (I:Inv X pins σ H s) (r:RelV x v) (ty:E4 X.K T x H) :
  s.TypeIs v T/\∀ a,v=.ref a->∃ ob,s.heap.get? a=some ob/\ob.dict=none:=by
 cases x with
 | str z =>
  obtain ⟨t,rfl⟩:=r
  cases (show T="str" from ty)
  exact ⟨typeIs_str s z t,fun _ e=>nomatch e⟩
 | int i =>
  obtain ⟨t,rfl⟩:=r
  cases (show T="int" from ty)
  exact ⟨typeIs_int s i t,fun _ e=>nomatch e⟩
 | ref p =>
  cases r
  rcases ty with ⟨rfl,xs,hq⟩ | ⟨rfl,xs,hq⟩ | ⟨rfl,hk⟩ | ⟨rfl,S,n,hk⟩
  ·obtain ⟨its,_,pl,_⟩:=I.list hq
   refine ⟨pl.isList.typeIs,fun a e=>?_⟩
   cases e
   obtain ⟨o,n,e,c,hd,_⟩:=pl
   exact ⟨o,e,hd⟩
  ·obtain ⟨its,_,⟨o,e,c,d,_⟩,_⟩:=I.pX hq
   refine ⟨⟨o,e,c⟩,fun a e2=>?_⟩
   cases e2
   exact ⟨o,e,d⟩
  ·have z:∃ o,s.heap.get? p=some o/\o.ExactDict:=by
    rcases hk with ⟨kvs,hk⟩ | ⟨kvs,hk⟩
    ·obtain ⟨_,_,_,_,o,_,_,e,ex,_⟩:=I.hok p _ hk
     exact ⟨o,e,ex⟩
    ·obtain ⟨_,_,_,_,o,_,_,e,ex,_⟩:=I.hok p _ hk
     exact ⟨o,e,ex⟩
   obtain ⟨o,e,ex⟩:=z
   refine ⟨⟨o,e,ex.1⟩,fun a e2=>?_⟩
   cases e2
   exact ⟨o,e,ex.2.1⟩
  ·obtain ⟨o,_,_,_,e,ex,_⟩:=I.hok p _ hk
   refine ⟨⟨o,e,ex.1⟩,fun a e2=>?_⟩
   cases e2
   exact ⟨o,e,ex.2.1⟩
 | _=>exact False.elim ty
def BD (K:Zfr) (T:String) (r:V->List V->Hp->VK->Prop) (to:TE):TE:=fun σ H Q=>to σ H fun x H1=>E4 K T x H1/\r x [] H1 Q
def HR (K:Zfr) (T:String) (r:V->List V->Hp->VK->Prop) (to:TE) (t:TA):TE:=fun σ H Q=>to σ H fun x H1=>E4 K T x H1/\t σ H1 fun xs H2=>r x xs H2 Q
variable {o e:Expr} {es:List Expr} {to:TE} {t:TA} {name:Str} {apos cpos:Pos} {T id:String} {r:V->List V->Hp->VK->Prop}
theorem xB (pa:PlainAttrs T) (slot:Slot T name id) (hty:typeOf (.builtin id)=pure (.type "method_descriptor")) (hm:vd X id r) (ho:PE X o to)
  (hbase:attributeBase o name X.env (eval o X.env)=eval o X.env:=by rfl) (hline:(apos.endLine == cpos.line)=true:=by rfl):PE X (.Call (.Attribute o name apos) [] [] cpos) (BD X.K T r to):=by
 intro pins s σ H Q I h
 refine wpAny_Call_method0_late hbase hline (cQ (ho pins s σ H _ I h) fun v s1 ⟨x,H1,I1,r1,ty,q1⟩=>?_)
 obtain ⟨h1,h2⟩:=Ln I1 r1 ty
 exact ⟨T,id,pa,slot,hty,h1,h2,Calls.callWith_builtin rfl (PySem.evalArgs_none (hm pins s1 σ H1 x [] v [] Q I1 r1 .nil q1))⟩
theorem og (pa:PlainAttrs T) (slot:Slot T name id) (hty:typeOf (.builtin id)=pure (.type "method_descriptor")) (hm:vd X id r) (ho:PE X o to) (ha:PA X (e :: es) t)
  (hbase:attributeBase o name X.env (eval o X.env)=eval o X.env:=by rfl)
  (hfew:((backTo cpos (starEach (e :: es) X.env)).all (fun x=>!x.1) && (backToKw cpos (keywordEach [] X.env)).all (fun x=>x.1.isSome)
   && decide ((e :: es).length + ([]:List Keyword).length + (if ([]:List Keyword).isEmpty then 0 else 1) < 30))=true:=by rfl)
  (hline:(apos.endLine == cpos.line)=true:=by rfl) (hs:starEach (e :: es) X.env=(false,eval e X.env) :: starEach es X.env:=by rfl) (hplain:(backTo cpos (starEach es X.env)).any (·.1)=false:=by rfl) :
  PE X (.Call (.Attribute o name apos) (e :: es) [] cpos) (HR X.K T r to t):=by
 intro pins s σ H Q I h
 refine wpAny_Call_method_late hbase hfew hline rfl (cQ (ho pins s σ H _ I h) fun v s1 ⟨x,H1,I1,r1,ty,q1⟩=>?_)
 obtain ⟨h1,h2⟩:=Ln I1 r1 ty
 refine ⟨T,id,pa,slot,hty,h1,h2,?_⟩
 have hA:=ha cpos pins s1 σ H1 _ I1 q1
 rw [hs] at hA ⊢
 refine Calls.callWith_builtin (by show (false || (backTo cpos (starEach es X.env)).any (·.1))=false;rw [hplain] <;> rfl) (Calls.evalArgs_plain ?_)
 exact cQ hA fun us s2 ⟨vs,H2,I2,r2,q2⟩=>hm pins s2 σ H2 x vs v us Q I2 r1 r2 q2
end
def HS (X:Cx) (id:String) (r:V->List V->Hp->VK->Prop):Prop :=
 ∀ (pins:List (Addr×Obj)) (s:Shared) (σ:St) (H:Hp) (x:V) (xs:List V) (v:Value) (us:List Value) (Q:VK),Inv X pins σ H s->RelV x v->Vals xs us->r x xs H Q ->
  wpAny (model X.prog X.w) X.A (call (.builtin id) (v :: us)) (EP X pins σ Q) X.xe s
theorem Vals.one:∀ {x:V} {us:List Value},Vals [x] us->∃ u,us=[u]/\RelV x u
 | _,_,.cons r .nil=>⟨_,rfl,r⟩
theorem Vals.zero:∀ {us:List Value},Vals [] us->us=[]
 | _,.nil=>rfl
theorem Vals.dropLast {xs:List V} {us:List Value} (h:Vals xs us):Vals xs.dropLast us.dropLast:=by
 induction h with
 | nil=>exact .nil
 | cons r t ih =>
  cases t with
  | nil=>exact .nil
  | cons q t'=>exact .cons r ih
theorem Vals.eraseIdx:∀ {xs:List V} {us:List Value} (i:Nat),Vals xs us->Vals (xs.eraseIdx i) (us.eraseIdx i)
 | _,_,_,.nil=>.nil
 | _,_,0,.cons _ t=>t
 | _,_,i + 1,.cons r t=>.cons r (Vals.eraseIdx i t)
theorem Vals.rep {xs:List V} {us:List Value} (h:Vals xs us):∀ k:Nat,Vals (List.replicate k xs).flatten (List.replicate k us).flatten
 | 0=>.nil
 | k + 1=>by
  rw [Xi,Xi,List.flatten_cons,List.flatten_cons]
  exact Vals.append h (Vals.rep h k)
theorem Pe {α:Type} (l:List α):l.eraseIdx (l.length - 1)=l.dropLast:=by
 induction l with
 | nil=>rfl
 | cons a r ih =>
  cases r with
  | nil=>rfl
  | cons b r =>
   have e:(a :: b :: r).length - 1=((b :: r).length - 1) + 1:=by
    have h1:(a :: b :: r).length=r.length + 2:=rfl
    have h2:(b :: r).length=r.length + 1:=rfl
    omega
   rw [e,List.eraseIdx_cons_succ,ih]
   all_goals rfl
theorem Lo {α:Type}:∀ (l:List α) (i:Nat),(l.eraseIdx i).length<=l.length
 | [],_=>Wy _
 | _ :: _,0=>Nat.le_succ _
 | _ :: r,i + 1=>Nat.succ_le_succ (Lo r i)
theorem Lp (its:List Value):∀ (k:Nat) (acc:List Value),
  List.foldl (fun x1 x2=>x1 ++ x2) acc.toArray (List.replicate k its.toArray)=(acc ++ (List.replicate k its).flatten).toArray
 | 0,acc=>by simp
 | k + 1,acc=>by
  have e:acc.toArray ++ its.toArray=(acc ++ its).toArray:=by simp
  have e2:(acc ++ its) ++ (List.replicate k its).flatten=acc ++ (List.replicate (k + 1) its).flatten:=by
   rw [Xi,List.flatten_cons,List.append_assoc]
  rw [<- e2,<- Lp its k (acc ++ its),<- e,Xi,List.foldl_cons]
section
variable {X:Cx} {pins:List (Addr×Obj)} {σ:St} {H:Hp} {s:Shared} {l b:Addr} {xs ys zs:List V}
theorem Inv.xC {its its':List Value} {n:Nat} {f:Array Value->Array Value} {t':Nat} (I:Inv X pins σ H s) (hH:H l=some (.lst xs))
  (e:s.heap.get? l=some { cls:=.type "list",data:=.seq its.toArray n }) (hf:f its.toArray=its'.toArray) (hv:Vals ys its') (hz:ys.length<=sizeLine) :
  Inv X pins σ (upd H l (.lst ys)) { s with heap:=s.heap.update l (Obj.mapSeq f),toks:=t' }:=by
 have q:=PySem.IsL.update e f
 rw [hf] at q
 refine I.write (x:=l) (e:=l) (by rw [hH];exact trivial) (.inl rfl) (fun b' u hb hu=>(Xo s.heap (Obj.mapSeq f) (Ne.symm hb)).trans hu) ⟨_,q⟩ ?_
 exact ⟨hz,its',_,hv,q⟩
theorem Inv.BE {its:List Value} {t':Nat} (I:Inv X pins σ H s) (hv:Vals ys its) (hz:ys.length<=sizeLine) :
  Inv X pins σ (upd H s.heap.objs.size (.lst ys)) { s with heap:=s.heap.push { cls:=.type "list",data:=.seq its.toArray },toks:=t' } :=
 I.laid (fun _ _ q=>WM _ q) (Wy _) ⟨hz,its,0,hv,WV _ rfl⟩
theorem Inv.fresh (I:Inv X pins σ H s):H s.heap.objs.size=none:=I.hok.fresh (Wy _)
theorem Inv.qM (I:Inv X pins σ H s) (hH:H l=some (.lst xs)):xs.length<=sizeLine/\∃ (its:List Value) (n:Nat),Vals xs its/\xs.length=its.length/\s.heap.get? l=some { cls:=.type "list",data:=.seq its.toArray n }:=by
 obtain ⟨z,its,n,r,e⟩:=I.hok l _ hH
 exact ⟨z,its,n,r,r.length,e⟩
theorem rM {n:Nat} (h:n<=sizeLine):Builtin.List.listTooLong n=false:=by
 unfold Builtin.List.listTooLong
 exact decide_eq_false (by omega)
end
section
variable {X:Cx}
def qk:V->List V->Hp->VK->Prop:=fun x vs H Q=>∃ l xs y,x=.ref l/\vs=[y]/\H l=some (.lst xs)/\xs.length < sizeLine/\Q .non (upd H l (.lst (xs ++ [y])))
theorem pO:HS X "list.append" qk:=by
 intro pins s σ H x vs v us Q I rx rv h
 obtain ⟨l,xs,y,rfl,rfl,hH,hz,q⟩:=h
 cases rx
 obtain ⟨u,rfl,ru⟩:=rv.one
 obtain ⟨z,its,n,r,hl,e⟩:=I.qM hH
 refine call_meets F.slot_list_append ⟨_,e,rfl⟩ F.entry_list_append (F.args_list_append_2 _ _) (PySem.list_append l its.toArray n u (by rw [WL];omega)) ⟨e,?_⟩
 refine ⟨.non,_,I.xC (its':=its ++ [u]) hH e (by simp) (r.append (.cons ru .nil)) ?_,rfl,q⟩
 rw [Wz,Xy]
 omega
def BF:V->List V->Hp->VK->Prop:=fun x vs H Q=>∃ l xs y,x=.ref l/\vs=[]/\H l=some (.lst xs)/\xs[xs.length - 1]?=some y/\Q y (upd H l (.lst xs.dropLast))
theorem xD:HS X "list.pop" BF:=by
 intro pins s σ H x vs v us Q I rx rv h
 obtain ⟨l,xs,y,rfl,rfl,hH,hy,q⟩:=h
 cases rx
 have Pf:=rv.zero
 subst Pf
 obtain ⟨z,its,n,r,hl,e⟩:=I.qM hH
 obtain ⟨u,hu,ru⟩:=r.get hy
 have hy':its.toArray[its.toArray.size - 1]?=some u:=by
  show its.toArray[its.length - 1]?=some u
  rw [<- Array.getElem?_toList,<- hl]
  exact hu
 refine call_meets F.slot_list_pop ⟨_,e,rfl⟩ F.entry_list_pop (F.args_list_pop_1 _) (MeetsSeq.list_pop_last l its.toArray n u hy' (by rw [WL];omega)) ⟨e,?_⟩
 refine ⟨y,_,I.xC (its':=its.dropLast) hH e ?_ r.dropLast ?_,ru,q⟩
 ·show its.toArray.eraseIdxIfInBounds (its.toArray.size - 1)=its.dropLast.toArray
  rw [WL,List.eraseIdxIfInBounds_toArray,Pe]
 ·rw [List.length_dropLast]
  omega
def rN:V->List V->Hp->VK->Prop:=fun x vs H Q=>∃ l xs i k y,x=.ref l/\vs=[.int i]/\H l=some (.lst xs)/\-(2 ^ 63)<=i/\i < 2 ^ 63/\seqIndex? i xs.length=some k/\xs[k]?=some y/\Q y (upd H l (.lst (xs.eraseIdx k)))
theorem Pg:HS X "list.pop" rN:=by
 intro pins s σ H x vs v us Q I rx rv h
 obtain ⟨l,xs,i,k,y,rfl,rfl,hH,h1,h2,hk,hy,q⟩:=h
 cases rx
 obtain ⟨u,rfl,ru⟩:=rv.one
 obtain ⟨t,rfl⟩:=ru
 obtain ⟨z,its,n,r,hl,e⟩:=I.qM hH
 obtain ⟨w,hw,rw'⟩:=r.get hy
 refine call_meets F.slot_list_pop ⟨_,e,rfl⟩ F.entry_list_pop (F.args_list_pop_2 _ _)
  (MeetsSeq.list_pop_at l its.toArray n i t k w (fitsIndex_both h1 h2) (by rw [WL,<- hl];exact hk) (by rw [<- Array.getElem?_toList];exact hw) (by rw [WL];omega)) ⟨e,?_⟩
 refine ⟨y,_,I.xC (its':=its.eraseIdx k) hH e ?_ (r.eraseIdx k) ?_,rw',q⟩
 ·show its.toArray.eraseIdxIfInBounds k=(its.eraseIdx k).toArray
  rw [List.eraseIdxIfInBounds_toArray]
 ·have:=Lo xs k
  omega
def BG:R2:=fun x y H Q=>∃ l b xs zs,x=.ref l/\y=.ref b/\H l=some (.lst xs)/\H b=some (.lst zs)/\xs.length + zs.length<=sizeLine/\∀ p,H p=none->Q (.ref p) (upd H p (.lst (xs ++ zs)))
theorem xE:kR X (binaryOp .Add) BG:=by
 intro pins s σ H x y v u Q I rx ry h
 obtain ⟨l,b,xs,zs,rfl,rfl,hH,hB,hz,q⟩:=h
 cases rx
 cases ry
 obtain ⟨z,its,n,r,hl,e⟩:=I.qM hH
 obtain ⟨z2,its2,n2,r2,hl2,e2⟩:=I.qM hB
 refine PySem.P.add_list e e2 ?_ (by rw [WL,WL];omega)
 have ea:its.toArray ++ its2.toArray=(its ++ its2).toArray:=by simp
 rw [ea]
 exact ⟨.ref _,_,I.BE (t':=s.toks) (r.append r2) (by rw [Wz];omega),rfl,q _ I.fresh⟩
def BH:R2:=fun x y H Q=>∃ l k xs,x=.ref l/\y=.int k/\H l=some (.lst xs)/\-(2 ^ 63)<=k/\k < 2 ^ 63/\xs.length * k.toNat<=sizeLine /\
 ∀ p,H p=none->Q (.ref p) (upd H p (.lst (List.replicate k.toNat xs).flatten))
theorem Ph {α:Type} (xs:List α) (k:Nat):(List.replicate k xs).flatten.length=k * xs.length:=by
 induction k with
 | zero=>simp
 | succ k ih=>rw [Xi,List.flatten_cons,Wz,ih,Nat.succ_mul,Nat.add_comm]
theorem Lq:kR X (binaryOp .Mult) BH:=by
 intro pins s σ H x y v u Q I rx ry h
 obtain ⟨l,k,xs,rfl,rfl,hH,h1,h2,hz,q⟩:=h
 cases rx
 obtain ⟨t,rfl⟩:=ry
 obtain ⟨z,its,n,r,hl,e⟩:=I.qM hH
 have hlen:its.toArray.size * k.toNat<=sizeLine:=by rw [WL,<- hl];exact hz
 have hcap:¬ its.toArray.size * k.toNat > (2 ^ 63 - 1) / 8:=by
  have:(sizeLine:Nat)<=(2 ^ 63 - 1) / 8:=by decide
  omega
 have hfit:¬ (!Builtin.List.listFitsIndex k)=true:=by
  rw [fitsIndex_both h1 h2]
  exact WD
 have BI:¬ Builtin.List.listTooLong (its.toArray.size * k.toNat)=true:=by
  rw [rM hlen]
  exact WD
 have hnew:List.foldl (fun x1 x2=>x1 ++ x2) #[] (List.replicate (if its.toArray.isEmpty=true then 0 else k.toNat) its.toArray)=(List.replicate k.toNat its).flatten.toArray:=by
  have f0:∀ m:Nat,List.foldl (fun x1 x2=>x1 ++ x2) #[] (List.replicate m its.toArray)=(List.replicate m its).flatten.toArray:=fun m=>by
   have:=Lp its m []
   rw [List.nil_append] at this
   exact this
  rw [f0]
  cases its with
  | nil=>simp
  | cons a r'=>rw [if_neg (by simp)]
 refine wpAny_binaryOp_repeat_ref (T:="list") (U:="int") (by decide) ⟨_,e,rfl⟩ (fun s'=>typeIs_int s' k t) noFill_list_mul F.fills_int_mul F.slot_int_rmul repeat_list F.slot_int_index.lookup
  (call_meets F.slot_int_rmul (typeIs_int s k t) F.entry_int_rmul (F.args_int_rmul_2 _ _) (int___rmul___int_list k t l its.toArray n)
   ⟨e,rfl,⟨_,e,rfl⟩,call_meets F.slot_list_mul ⟨_,e,rfl⟩ F.entry_list_mul (F.args_list_mul_2 _ _) (AutoListH.list___mul___list_int_3 l its.toArray n k t hfit hcap BI) ⟨e,?_⟩⟩)
 rw [hnew]
 exact ⟨.ref _,_,I.BE (t':=s.toks) (r.rep k.toNat) (by rw [Ph,Nat.mul_comm];exact hz),rfl,q _ I.fresh⟩
end
section
variable {prog:Program} {w:World} {A:Around} {E:Value->Shared->Prop} {s:Shared}
end
section
variable {X:Cx}
end
section
variable {κ:Type} [DecidableEq κ]
def kS (kvs:List (κ×V)) (k:κ):Option V:=(kvs.find? fun kv=>decide (kv.1=k)).map (·.2)
def putK (kvs:List (κ×V)) (k:κ) (v:V):List (κ×V) :=
 if (kvs.any fun kv=>decide (kv.1=k))=true then kvs.map (fun kv=>if kv.1=k then (kv.1,v) else kv) else kvs ++ [(k,v)]
theorem HU {p:κ×V} {r:List (κ×V)} {k:κ} (e:p.1=k):kS (p :: r) k=some p.2:=by simp [kS,Xt,e]
theorem HV {p:κ×V} {r:List (κ×V)} {k:κ} (e:¬ p.1=k):kS (p :: r) k=kS r k:=by simp [kS,Xt,e]
theorem Lr (k:κ):∀ kvs:List (κ×V),(kvs.any fun kv=>decide (kv.1=k))=(kS kvs k).isSome
 | []=>rfl
 | p :: r=>by
  rw [Xr]
  by_cases e:p.1=k
  ·simp only [HU e,decide_eq_true e,Bool.true_or,Option.isSome_some]
  ·rw [HV e,decide_eq_false e,Bool.false_or];exact Lr k r
theorem Ls (kvs:List (κ×V)) (k:κ) (v:V):(putK kvs k v).length<=kvs.length + 1:=by
 unfold putK
 split
 ·rw [Wv];omega
 ·rw [Wz,W2,List.length_nil];omega
theorem qJ.mq {o:Option V} {u:Option Value} (r:qJ o u):o.isSome=u.isSome:=by
 cases o with
 | none=>cases u with
  | none=>rfl
  | some _=>exact (show False from r).elim
 | some _=>cases u with
  | none=>exact (show False from r).elim
  | some _=>rfl
theorem KV.val {kvs:List (κ×V)} {vs:List (κ×Value)} (r:KV kvs vs) (k:κ):qJ (kS kvs k) (valueAt vs k):=by
 unfold KV at r
 induction r with
 | nil=>exact True.intro
 | @cons p q ps qs h t ih =>
  obtain ⟨h1,h2⟩:=h
  by_cases e:p.1=k
  ·have e':q.1=k:=h1.symm.trans e
   have b:valueAt (q :: qs) k=some q.2:=by simp [valueAt,Xt,e']
   rw [HU e,b];exact h2
  ·have e':¬ q.1=k:=fun z=>e (h1.trans z)
   have b:valueAt (q :: qs) k=valueAt qs k:=by simp [valueAt,Xt,e']
   rw [HV e,b];exact ih
theorem KV.any {kvs:List (κ×V)} {vs:List (κ×Value)} (r:KV kvs vs) (k:κ):(kvs.any fun kv=>decide (kv.1=k))=vs.any fun kv=>decide (kv.1=k):=by
 unfold KV at r
 induction r with
 | nil=>rfl
 | cons h t ih=>rw [Xr,Xr,ih,h.1]
theorem KV.repl {kvs:List (κ×V)} {vs:List (κ×Value)} (r:KV kvs vs) (k:κ) {y:V} {u:Value} (ry:RelV y u) :
  KV (kvs.map fun kv=>if kv.1=k then (kv.1,y) else kv) (vs.map fun kv=>if kv.1=k then (kv.1,u) else kv):=by
 unfold KV at r ⊢
 induction r with
 | nil=>exact .nil
 | @cons p q ps qs h t ih =>
  rw [WY,WY]
  refine .cons ?_ ih
  obtain ⟨h1,h2⟩:=h
  by_cases e:p.1=k
  ·rw [if_pos e,if_pos (h1.symm.trans e)];exact ⟨h1,ry⟩
  ·rw [if_neg e,if_neg (fun z=>e (h1.trans z))];exact ⟨h1,h2⟩
theorem KV.put {kvs:List (κ×V)} {vs:List (κ×Value)} (r:KV kvs vs) (k:κ) {y:V} {u:Value} (ry:RelV y u):KV (putK kvs k y) (stored vs k u):=by
 unfold putK stored
 rw [r.any k]
 by_cases e:(vs.any fun kv=>decide (kv.1=k))=true
 ·rw [if_pos e,if_pos e];exact r.repl k ry
 ·rw [if_neg e,if_neg e];exact Paired.snoc r ⟨rfl,ry⟩
theorem KV.length {kvs:List (κ×V)} {vs:List (κ×Value)} (r:KV kvs vs):kvs.length=vs.length:=Paired.length r
end
theorem HW {P:Program} {w:World} {k:Key} {u:Value} (r:RelV (kV k) u):(cR P w).is k u=true:=by
 cases k with
 | inl i=>obtain ⟨t,e⟩:=(show ∃ t,u=Value.int i t from r);subst e;exact OD P w i t
 | inr x=>obtain ⟨t,e⟩:=(show ∃ t,u=Value.str x t from r);subst e;exact OE P w x t
theorem Lu {P:Program} {w:World}:∀ {ks:List Key} {us:List Value},Vals (ks.map kV) us->ItemsAre (cR P w) ks us
 | [],_,r=>by rw [Xg] at r;cases r;exact .nil
 | k :: ks,_,r=>by
  rw [WY] at r
  cases r with
  | cons h t=>exact .cons (HW h) (Lu t)
abbrev KT (H:Hp):List (List Key×V)->List (List Key×Addr×Value)->Prop:=Paired fun p q=>p.1=q.1/\H q.2.1=some (.tup (p.1.map kV))/\RelV p.2 q.2.2
theorem KT.val {H:Hp} {kvs:List (List Key×V)} {xs:List (List Key×Addr×Value)} (r:KT H kvs xs) (k:List Key):qJ (kS kvs k) ((atKey xs k).map (·.2)):=by
 induction r with
 | nil=>exact True.intro
 | @cons p q ps qs h t ih =>
  obtain ⟨h1,_,h2⟩:=h
  by_cases e:p.1=k
  ·have e':q.1=k:=h1.symm.trans e
   have b:atKey (q :: qs) k=some q.2:=by simp [atKey,Xt,e']
   rw [HU e,b];exact h2
  ·have e':¬ q.1=k:=fun z=>e (h1.trans z)
   have b:atKey (q :: qs) k=atKey qs k:=by simp [atKey,Xt,e']
   rw [HV e,b];exact ih
theorem KT.repl {H:Hp} {kvs:List (List Key×V)} {xs:List (List Key×Addr×Value)} (r:KT H kvs xs) (k:List Key) {y:V} {u:Value} (ry:RelV y u) :
  KT H (kvs.map fun kv=>if kv.1=k then (kv.1,y) else kv) (xs.map (putAt k u)):=by
 induction r with
 | nil=>exact .nil
 | @cons p q ps qs h t ih =>
  rw [WY,WY]
  refine .cons ?_ ih
  obtain ⟨h1,h2,h3⟩:=h
  unfold putAt
  by_cases e:p.1=k
  ·rw [if_pos e,if_pos (h1.symm.trans e)];exact ⟨h1,h2,ry⟩
  ·rw [if_neg e,if_neg (fun z=>e (h1.trans z))];exact ⟨h1,h2,h3⟩
theorem KT.put {H:Hp} {kvs:List (List Key×V)} {xs:List (List Key×Addr×Value)} (r:KT H kvs xs) (k:List Key) {b:Addr} {y:V} {u:Value} (hb:H b=some (.tup (k.map kV))) (ry:RelV y u) :
  KT H (putK kvs k y) (storedH xs k b u):=by
 have e:(kvs.any fun kv=>decide (kv.1=k))=(atKey xs k).isSome:=by
  rw [Lr,(r.val k).mq,Option.isSome_map]
 unfold putK storedH
 rw [e]
 by_cases q:(atKey xs k).isSome=true
 ·rw [if_pos q,if_pos q];exact r.repl k ry
 ·rw [if_neg q,if_neg q];exact Paired.snoc r ⟨rfl,hb,ry⟩
theorem KT.keeps {H H':Hp} {kvs:List (List Key×V)} {xs:List (List Key×Addr×Value)} (r:KT H kvs xs) (ht:∀ b ys,H b=some (.tup ys)->H' b=some (.tup ys)):KT H' kvs xs :=
 Paired.w4 r fun _ _ z=>⟨z.1,ht _ _ z.2.1,z.2.2⟩
section
variable {P:Program} {w:World} {H:Hp} {h:Heap} {a:Addr}
theorem vh {u:HO} (ok:lK P w H h) (e:Rd H a u):cI P w H h a u:=e.ok ok
theorem vk {kvs:List (Key×V)} (ok:lK P w H h) (e:Rd H a (.dK kvs)):kvs.length<=sizeLine/\(a == sysModules)=false/\∃ vs,KV kvs vs/\h.DictOf (cR P w) a vs :=
 show cI P w H h a (.dK kvs) from vh ok e
theorem BJ {kvs:List (Key×V)} (ok:lK P w H h) (e:H a=some (.dK kvs)):kvs.length<=sizeLine/\(a == sysModules)=false/\∃ vs,KV kvs vs/\h.DictOf (cR P w) a vs:=vk ok (.inl e)
theorem Ab {ks:List Key} (ok:lK P w H h) (e:H a=some (.tup (ks.map kV))):(tupleKind (cR P w)).is h ks a:=by
 obtain ⟨_,its,r,o,h1,h2,_,n,h3⟩:=(show cI P w H h a (.tup (ks.map kV)) from ok a _ e)
 exact ⟨o,its.toArray,n,h1,h2,h3,by simpa using Lu r⟩
theorem vm {kvs:List (List Key×V)} (ok:lK P w H h) (e:Rd H a (.dT kvs)):kvs.length<=sizeLine/\(a == sysModules)=false /\
  ∃ xs,KT H kvs xs/\h.DictOfH (tupleKind (cR P w)) a xs:=by
 obtain ⟨z,y,xs,r,o,es,ep,h1,h2,h3,h4,h5⟩:=(show cI P w H h a (.dT kvs) from vh ok e)
 refine ⟨z,y,xs,r,o,es,ep,h1,h2,h3,h4,fun x hx=>?_,h5⟩
 have all:∀ {l:List (List Key×V)} {m:List (List Key×Addr×Value)},KT H l m->∀ x∈m,(tupleKind (cR P w)).is h x.1 x.2.1:=by
  intro l m q
  induction q with
  | nil=>intro x hx;exact nomatch hx
  | @cons p q ps qs hq t ih =>
   intro x hx
   rcases W0.mp hx with e | hx
   ·subst e
    exact Ab ok (by rw [<- hq.1];exact hq.2.1)
   ·exact ih x hx
 exact all r x hx
theorem BK {kvs:List (List Key×V)} (ok:lK P w H h) (e:H a=some (.dT kvs)):kvs.length<=sizeLine/\(a == sysModules)=false /\
  ∃ xs,KT H kvs xs/\h.DictOfH (tupleKind (cR P w)) a xs:=vm ok (.inl e)
end
def rO (H:Hp) (a:Addr) (y:V) (r:Option V):Prop :=
 (∃ kvs k,Rd H a (.dK kvs)/\y=kV k/\r=kS kvs k)\/∃ kvs k b,Rd H a (.dT kvs)/\y=.ref b/\H b=some (.tup (k.map kV))/\r=kS kvs k
def rP (H:Hp) (a:Addr) (y v:V) (H':Hp):Prop :=
 (∃ kvs k,H a=some (.dK kvs)/\y=kV k/\kvs.length < sizeLine/\H'=upd H a (.dK (putK kvs k v))) \/
 ∃ kvs k b,H a=some (.dT kvs)/\y=.ref b/\H b=some (.tup (k.map kV))/\kvs.length < sizeLine/\H'=upd H a (.dT (putK kvs k v))
theorem rO.k {H:Hp} {a:Addr} {kvs:List (Key×V)} {k:Key} (e:H a=some (.dK kvs)):rO H a (kV k) (kS kvs k):=.inl ⟨kvs,k,.inl e,rfl,rfl⟩
theorem rP.k {H:Hp} {a:Addr} {kvs:List (Key×V)} {k:Key} {v:V} (e:H a=some (.dK kvs)) (hl:kvs.length < sizeLine):rP H a (kV k) v (upd H a (.dK (putK kvs k v))):=.inl ⟨kvs,k,e,rfl,hl,rfl⟩
section
variable {X:Cx} {pins:List (Addr×Obj)} {σ:St} {H:Hp} {s:Shared} {a:Addr} {y v:V} {u r:Value} {o:Option V} {A:Around} {E:Value->Shared->Prop}
theorem Inv.big (I:Inv X pins σ H s):sysModules < s.heap.objs.size:=by
 have h:mainGlobals < s.heap.objs.size:=(I.mod.glob.keeps I.bk).lt
 exact Nat.lt_trans (by decide) h
theorem Pj {Q:Value->Shared->Prop} (hu:A.units + 1 < cLine) (I:Inv X pins σ H s) (g:rO H a y o) (ry:RelV y u) (h:∀ s',Inv X pins σ H s'->Q (.bool (!o.isSome)) s') :
  wpAny (model X.prog X.w) A (compareOp .NotIn u (.ref a)) Q E s:=by
 rcases g with ⟨kvs,k,e,ey,l⟩ | ⟨kvs,k,b,e,ey,eb,l⟩
 ·subst ey
  obtain ⟨z,hd,vs,rel,dd⟩:=vk I.hok e
  refine wpAny_notIn_of (HW ry) hd dd.mapOf ?_
  rw [<- (rel.val k).mq,<- l]
  exact h _ (I.tok _)
 ·subst ey
  cases (show u=Value.ref b from ry)
  obtain ⟨z,hd,xs,rel,dd⟩:=vm I.hok e
  refine wpAny_notIn_heap (tupleKind_room_in1 hu) (Ab I.hok eb) hd dd ?_
  have q:=(rel.val k).mq
  rw [Option.isSome_map] at q
  rw [<- q,<- l]
  exact h _ (I.tok _)
theorem Lv {h':Heap} {t':Nat} {ob:HO} (I:Inv X pins σ H s) (mu:A5 (H a)) (hs:Heap.SameBut a s.heap h') (he:∃ q,h'.get? a=some q) (new:cI X.prog X.w (upd H a ob) h' a ob) :
  Inv X pins σ (upd H a ob) { s with heap:=h',toks:=t' } :=
 I.write (x:=a) (e:=a) mu (.inl rfl) (fun b q hb z=>(hs.2 b hb).trans z) he new
theorem xF {P:Program} {w:World} {H':Hp} {h':Heap} {kvs:List (Key×V)} {vs:List (Key×Value)} (z:kvs.length<=sizeLine) (hd:(a == sysModules)=false) (rel:KV kvs vs) (dd:h'.DictOf (cR P w) a vs) :
  cI P w H' h' a (.dK kvs):=⟨z,hd,vs,rel,dd⟩
theorem Pk {H':Hp} {Q:Unit->Shared->Prop} (hu:A.units + 1 < cLine) (I:Inv X pins σ H s) (g:rP H a y v H') (ry:RelV y u) (rv:RelV v r) (h:∀ s',Inv X pins σ H' s'->Q () s') :
  wpAny (model X.prog X.w) A (setItem (.ref a) u r) Q E s:=by
 rcases g with ⟨kvs,k,e,ey,l,eH⟩ | ⟨kvs,k,b,e,ey,eb,l,eH⟩
 ·subst ey eH
  obtain ⟨z,hd,vs,rel,dd⟩:=BJ I.hok e
  have hz:vs.length<=sizeLine:=by rw [<- rel.length];exact z
  have hl:(putK kvs k v).length<=sizeLine:=by have:=Ls kvs k v;omega
  refine wpAny_setItem_pairs (hsz:=hz) (HW ry) dd fun h' E5 hs=>h _ ?_
  have he:∃ q,h'.get? a=some q:=let ⟨q,_,_,hq,_⟩:=E5;⟨q,hq⟩
  exact Lv I (by rw [e];exact True.intro) hs he (xF hl hd (rel.put k rv) E5)
 ·subst ey eH
  cases (show u=Value.ref b from ry)
  obtain ⟨z,hd,xs,rel,dd⟩:=BK I.hok e
  have hz:xs.length<=sizeLine:=by rw [<- Paired.length rel];exact z
  have hl:(putK kvs k v).length<=sizeLine:=by have:=Ls kvs k v;omega
  refine wpAny_setItem_heap (hsz:=hz) (tupleKind_room_in1 hu) (Ab I.hok eb) dd fun h' E5 hs=>h _ ?_
  obtain ⟨q,es,ep,hq,h2,h3,h4,_,h5⟩:=E5
  refine Lv I (by rw [e];exact True.intro) hs ⟨q,hq⟩ ⟨hl,hd,_,(rel.put k eb rv).keeps fun c ys ec=>?_,q,es,ep,hq,h2,h3,h4,h5⟩
  rw [kf (Hr ec e (fun z=>nomatch z))]
  exact ec
end
section
variable {X:Cx} {pins:List (Addr×Obj)} {σ:St} {H:Hp} {s:Shared} {a:Addr} {kvs:List (Key×V)} {k:Key} {u:Value} {A:Around} {E:Value->Shared->Prop}
end
def ql (ty td:TE):TE:=fun σ H Q=>ty σ H fun y H1=>td σ H1 fun x H2=>∃ a o,x=.ref a/\rO H2 a y o/\Q (.bl (!o.isSome)) H2
def vn (td ty tv:TE):TS:=fun D σ H=>tv σ H fun v H1=>td σ H1 fun x H2=>ty σ H2 fun y H3=>∃ a H4,x=.ref a/\rP H3 a y v H4/\D.nx σ H4
section
variable {X:Cx} {o i e value:Expr} {pos pos' tpos:Pos} {td ty tv:TE}
theorem Pm (hu:X.A.units + 1 < cLine) (hi:PE X i ty) (ho:PE X o td):PC X .NotIn i o (ql ty td):=by
 intro pins s σ H Q I h
 refine cQ (hi pins s σ H _ I h) fun iv s1 ⟨y,H1,I1,ry,q1⟩=>cQ (ho pins s1 σ H1 _ I1 q1) fun u s2 ⟨x,H2,I2,rx,a,ov,ex,g,q2⟩=>?_
 subst ex
 obtain rfl:u=Value.ref a:=rx
 exact Pj hu I2 g ry fun s3 I3=>⟨.bl (!ov.isSome),H2,I3,rfl,q2⟩
theorem Pn (hu:X.A.units + 1 < cLine) (ho:PE X o td) (hi:PE X i ty) (hv:PE X value tv) (hs:swapsWith value (some (.Subscript o i pos')) pos.line X.env=pure false) :
  PS X (.Assign [.Subscript o i pos'] value pos) (vn td ty tv):=by
 intro pins s σ H D I h
 refine wpAny_Assign_Subscript (cQ (hv pins s σ H _ I h) fun r s1 ⟨v,H1,I1,rv,q1⟩=>cQ (ho pins s1 σ H1 _ I1 q1) fun u s2 ⟨x,H2,I2,rx,q2⟩=>cQ (hi pins s2 σ H2 _ I2 q2) fun iv s3 ⟨y,H3,I3,ry,a,H4,ex,g,q3⟩=>?_) hs
 subst ex
 obtain rfl:u=Value.ref a:=rx
 exact Pk hu I3 g ry rv fun s4 I4=>⟨σ,H4,I4,q3⟩
end
theorem Po {P:Program} {w:World} {H:Hp} (h:Heap) (hb:sysModules < h.objs.size):cI P w H (h.push { cls:=.type "dict",data:=.dict #[] }) h.objs.size (.dK []) :=
 ⟨W8 _,beq_eq_false_iff_ne.mpr (Ne.symm (Xb hb)),[],.nil,Heap.DictOf.new h⟩
def rQ:TE:=fun _ H Q=>∀ p,H p=none->Q (.ref p) (upd H p (.dK []))
section
variable {X:Cx} {pos:Pos}
theorem Pp:PE X (.Dict [] [] pos) rQ:=fun pins s σ H Q I h =>
 wpAny_Dict_empty ⟨.ref s.heap.objs.size,_,I.laid (a:=s.heap.objs.size) (o:=.dK []) (t':=s.toks) (fun _ _ q=>WM _ q) (Wy _) (Po s.heap I.big),rfl,h _ (I.hok.fresh (Wy _))⟩
end
section
variable {X:Cx} {pins:List (Addr×Obj)} {σ:St} {H:Hp} {s:Shared} {a:Addr} {y d:V} {u r:Value} {o:Option V} {A:Around} {E:Value->Shared->Prop}
end
section
variable {X:Cx} {o e f:Expr} {apos cpos:Pos} {td ty tx:TE}
end
section
variable {X:Cx} {pins:List (Addr×Obj)} {σ:St} {H:Hp} {s:Shared} {a:Addr} {kvs:List (Key×V)} {A:Around} {E:Value->Shared->Prop}
end
section
variable {X:Cx} {pins:List (Addr×Obj)} {σ:St} {H:Hp} {s:Shared} {a:Addr} {y:V} {u:Value} {A:Around} {E:Value->Shared->Prop}
end
end L2
namespace Lw
open PySem PySem.W PySem.Calls PyProof.Rows
theorem Pq {P:Params} {h:Heap}:∀ (ns:List Int) (vs:List Value),WellAll P h vs (ns.map WData.int)->IntsAre vs ns:=by
 intro ns
 induction ns with
 | nil =>
  intro vs w
  rw [Xg] at w
  cases w
  exact .nil
 | cons n ns ih =>
  intro vs w
  rw [WY] at w
  cases w with
  | cons a b =>
   cases a
   exact .cons _ _ (ih _ b)
theorem Pr {l:OpenLaw} {n:Nat} (hn:l.most=some n) {P:Params} {h:Heap} {args:List WData} {vals:List Value}
  (hpre:l.row.toRowW.claim.pre args=true) (hwl:WellAll P h vals args) :
  ∃ a vs ns,vals=[Value.ref a]/\args=[WData.list (ns.map WData.int)]/\h.get? a=some { cls:=.type "list",data:=.seq vs.toArray }/\IntsAre vs ns/\ns.length<=n:=by
 have hsh:WShape.hasAll [] args [.list .int]=true:=(pre_splitW hpre).1
 have hc:l.pre.holds [] { args:=args }=true:=(pre_splitW hpre).2
 obtain ⟨d,r,rfl,h1,h2⟩:=hasAllW_cons hsh
 obtain rfl:=hasAllW_nil h2
 obtain ⟨xs,rfl,h3⟩:=hasW_list h1
 obtain ⟨ns,rfl⟩:=items_int h3
 have hlen:ns.length<=n:=by
  unfold OpenLaw.pre at hc
  have h4:(WTm.not (.lt (.lit (.int (n:Int))) (.len (.arg 0)))).holds [] { args:=[.list (ns.map .int)] }=true:=by
   have h4:=(holds_andW hc).1
   rw [hn] at h4
   exact h4
  have h5:=condW_of h4 (w_not (w_lt w_lit (w_len_list (w_arg rfl))))
  rw [Wv] at h5
  refine Nat.le_of_not_lt fun q=>?_
  have q':(n:Int) < ((ns.length:Nat):Int):=by omega
  first
   | (rw [decide_eq_true q'] at h5;exact absurd h5 (by decide))
   | (simp at h5;omega)
 cases hwl with
 | cons w1 w2 =>
  cases w2
  cases w1 with
  | list ho hall=>exact ⟨_,_,ns,rfl,rfl,ho,Pq ns _ hall,hlen⟩
theorem Pt (l:OpenLaw) (args:List WData):l.row.toRowW.claim.post args (.bool true) args=true :=
 postW_of (r:=l.row.toRowW) (X:=(true == true))
  (show WShape.has [] (.bool true) .bool=true by first | rfl | decide | simp [WShape.has,WShape.arms,WShape.armsAll])
  (show (WTm.eq .res (.lit (.bool true))).value [] { args:=args,res:=some (.bool true),after:=args }=some (.bool (true == true)) from w_eq_bool (w_res rfl) w_lit) rfl
theorem Pu {l:OpenLaw} {n:Nat} {q:Program} {loose:List Str} {XP:(Str->Option Value)->Heap->Prop} {YP:World->Heap->Prop} {d:DefRec}
  (hn:l.most=some n) (hdf:d.params.defaults=[])
  (call:∀ (w:World) (s₀ s₁:Shared) (mg mb:Str->Option Value) (fa:Addr) (o:Obj) (pm cd doc:Value) (a:Addr) (vs:List Value) (ns:List Int),
   Ground q loose [] XP w s₀ mg mb s₁.heap->YP w s₁.heap ->
   s₁.heap.get? fa=some o->o.data=.func (docDef d.name d.params d.body d.scope pm cd doc)->s₁.heap.CodeRec cd d.name->mg d.name=some (.ref fa) ->
   s₁.heap.get? a=some { cls:=.type "list",data:=.seq vs.toArray }->IntsAre vs ns->ns.length<=n->s₁.gens=#[] ->
   codeAny (model l.prog w) callerA (.call (.ref fa) ⟨[.ref a],[]⟩) (fun r s'=>r=.ok (.ret (.bool true))/\OldK s₁.heap s'.heap/\s'.os=s₁.os/\AllBare s'.gens) s₁) :
  WalkO q loose XP YP l.row.toRowW d [] (fun f vs=>PySem.call f vs):=by
 intro w s₀ s₁ mg mb G Y fa o pm cd doc dV kV ho hd hcd hD hmg hg args vals as hpre hlay hrd hwl hlo
 obtain rfl:dV=.none:=Dflts.none hD hdf
 obtain rfl:kV=.none:=Dflts.noKw hD
 obtain ⟨a,vs,ns,rfl,rfl,hobj,hints,hlen⟩:=Pr hn hpre hwl
 refine enter_call (codeAny_mono (call w s₀ s₁ mg mb fa o pm cd doc a vs ns G Y ho (fd_plain hd) hcd hmg hobj hints hlen hg) fun r s' hq=>?_)
 obtain ⟨rfl,h2,h3,h4⟩:=hq
 exact ⟨.inl ⟨.bool true,.bool true,[],rfl,fun _=>rfl,.bool true,Pt l _,fun _=>⟨List.Pairwise.nil,fun _ hm=>(nomatch hm)⟩⟩,h2,h3,h4⟩
section
variable {prog:Program} {w:World} {A:Around} {E:Value->Shared->Prop} {s:Shared} {K:Frag}
end
end Lw
namespace L2
open PySem PySem.Spec PyProof.Rows
theorem Lx:∀ {vs:List Value} {ns:List Int},IntsAre vs ns->Vals (ns.map V.int) vs
 | _,_,.nil=>.nil
 | _,_,.cons n t h=>.cons ⟨t,rfl⟩ (Lx h)
def Only (H:Hp):Prop:=∀ b,H b=none\/∃ o xs,H b=some (.oC o (.lst xs))
theorem Pw {P:Program} {w:World} {K:Zfr} {mg mb:Str->Option Value} {CX:qh} {k:Nat} {fa a:Addr} {fd:FuncData} {x:Str} {sp:Sp} {s₁:Shared} {vs:List Value} {ns:List Int}
  (KX:K.In s₁.heap) (hns:s₁.heap.Ns mainGlobals mg) (hb:s₁.heap.Ns builtinsNs mb) (Px:∀ x:Str,x≠"__name__" -> mb x=bootBuiltins x) (hlim:s₁.heap.NoLimit) (hg:s₁.gens=#[])
  (ha:s₁.heap.get? a=some { cls:=.type "list",data:=.seq vs.toArray }) (hi:IntsAre vs ns) (hl:ns.length<=sizeLine) (hr:gw k callerA)
  (F:∀ base:Heap,K.In base->base.Ns mainGlobals mg->aE P w K mg base CX k fa fd [x] sp) (hbind:∀ (s:Shared) (u:Value),BindsTo s fd ⟨[u],[]⟩ [(x,u)])
  (rf:∀ H:Hp,Only H->jy K H a (ns.map V.int)->sp [.ref a] H (fun v _=>v=.bl true) fun _ _ _=>False)
  (BL:∀ H e s',CX [] H s₁ (fun _ _ _=>False) e s'->False) :
  codeAny (model P w) callerA (.call (.ref fa) ⟨[.ref a],[]⟩) (fun r s'=>r=.ok (.ret (.bool true))/\OldK s₁.heap s'.heap/\s'.os=s₁.os/\AllBare s'.gens) s₁:=by
 have rv:=Lx hi
 have HX:=hi.length
 have core:∀ H:Hp,Only H->jy K H a (ns.map V.int)->lK P w H s₁.heap->(∀ b,H b≠none->b=a)->(H a≠none->K.lookup a=none) ->
   codeAny (model P w) callerA (.call (.ref fa) ⟨[.ref a],[]⟩) (fun r s'=>r=.ok (.ret (.bool true))/\OldK s₁.heap s'.heap/\s'.os=s₁.os/\AllBare s'.gens) s₁:=by
  intro H hO hS hok hA hK
  have qm:∀ {b:Addr} {o:Obj},s₁.heap.get? b=some o->H b=none->(oG s₁.heap H).get? b=some o:=fun e n=>OI e n
  have By:∀ {b:Addr} {o:Obj} {es:Array DictEntry} {ep:Nat},s₁.heap.get? b=some o->o.data=.dict es ep->H b=none:=fun {b o es ep} e d=>by
   cases q:H b with
   | none=>rfl
   | some u =>
    have e':b=a:=hA b (by rw [q];simp)
    subst e'
    rw [ha] at e;cases e
    have d':Data.seq vs.toArray _=Data.dict es ep:=d
    cases d'
  have E6:∀ {b:Addr} {m:Str->Option Value},s₁.heap.Ns b m->(oG s₁.heap H).Ns b m:=fun {b m} ⟨o,es,ep,e,d,r⟩=>⟨o,es,ep,qm e (By e d),d,r⟩
  have Ly:K.In (oG s₁.heap H):=fun b o e=>qm (KX b o e) (by
   cases q:H b with
   | none=>rfl
   | some u =>
    have e':b=a:=hA b (by rw [q];simp)
    subst e'
    rw [hK (by rw [q];simp)] at e;cases e)
  have hM:Mod K mg (oG s₁.heap H):=⟨Ly,E6 hns,⟨mb,E6 hb,Px⟩,let ⟨mc,h1,h2⟩:=hlim;⟨mc,E6 h1,h2⟩⟩
  have e0:ug P w K mg (oG s₁.heap H) callerA [] s₁ H:=⟨rfl,hM,fun b o e=>OJ e,Nat.le_of_eq (OH _ _),trivial,fun b hb=>absurd (show b∈([]:List Addr) from hb) (by simp),hok,.of_eq hg⟩
  refine codeAny_mono ((F _ Ly (E6 hns)).run callerA [] s₁ H ⟨[.ref a],[]⟩ [.ref a] [.ref a] _ _ hr e0 (hbind s₁ (.ref a)) (.cons rfl .nil) (rf H hO hS)) fun r s' h=>?_
  cases r with
  | error e=>exact (BL H e s' h).elim
  | ok fl =>
   cases fl with
   | next=>exact False.elim h
   | brk=>exact False.elim h
   | cont=>exact False.elim h
   | ret u =>
    obtain ⟨v,H',os,bare,un,HY,r',q⟩:=h
    have q':v=.bl true:=q
    subst q'
    obtain rfl:u=Value.bool true:=r'
    refine ⟨rfl,OldK.of_keep fun b o e=>?_,os,bare⟩
    cases q:H b with
    | none=>exact un.keep b o e q (by intro z;exact absurd (show b∈([]:List Addr) from z) (by simp)) (by simp)
    | some u =>
     rcases hO b with z | ⟨ob,xs,z⟩
     ·rw [q] at z;cases z
     ·have z2:=un.oE b ob _ z
      obtain ⟨e1,_⟩:=hok b _ z
      obtain ⟨e2,_⟩:=HY b _ z2
      rw [e] at e1;cases e1
      exact e2
 cases hk:K.lookup a with
 | some o =>
  have e:=KX a o hk
  rw [ha] at e
  cases e
  refine core (fun _=>none) (fun _=>.inl rfl) (.inr ⟨_,vs.toArray,_,hk,rfl,rfl,rfl,by rw [WL,HX];exact hl,by simpa using rv⟩) (fun b u z=>by have z':(none:Option HO)=some u:=z;cases z') (fun b z=>absurd rfl z) fun z=>absurd rfl z
 | none =>
  refine core (fun b=>if b=a then some (.oC { cls:=.type "list",data:=.seq vs.toArray } (.lst (ns.map V.int))) else none) (fun b=>?_) (.inl (.inr ⟨{ cls:=.type "list",data:=.seq vs.toArray },if_pos rfl⟩)) (fun b u z=>?_) (fun b z=>?_) fun _=>hk
  ·by_cases hb:b=a
   ·exact .inr ⟨_,_,if_pos hb⟩
   ·exact .inl (if_neg hb)
  ·by_cases hb:b=a
   ·have z':=(if_pos hb).symm.trans z
    cases z'
    subst hb
    exact ⟨ha,by rw [Wv];exact hl,vs,_,rv,ha⟩
   ·have z':=(if_neg hb).symm.trans z
    cases z'
  ·by_cases hb:b=a
   ·exact hb
   ·exact absurd (if_neg hb) z
abbrev KOf {K:Zfr} {h:Heap} (_:K.In h):Zfr:=K
theorem Py {l:PySem.W.OpenLaw} {n k:Nat} {q:Program} {loose:List Str} {XP:(Str->Option Value)->Heap->Prop} {YP:World->Heap->Prop} {d:DefRec} {K:Params->Zfr} {CX:World->qh} {sp:World->Sp} {x:Str}
  (hn:l.most=some n) (hn2:n<=sizeLine) (hdf:d.params.defaults=[]) (hr:gw k callerA)
  (hY:∀ (w:World) (h:Heap),YP w h->(K w.params).In h)
  (F:∀ (w:World) (mg:Str->Option Value) (fa:Addr) (h:Heap),(K w.params).In h->h.Ns mainGlobals mg->mg d.name=some (.ref fa) ->
   ∃ fd:FuncData,(∀ (s:Shared) (u:Value),BindsTo s fd ⟨[u],[]⟩ [(x,u)]) /\
    ∀ base:Heap,(K w.params).In base->base.Ns mainGlobals mg->aE l.prog w (K w.params) mg base (CX w) k fa fd [x] (sp w))
  (rf:∀ (w:World) (H:Hp) (a:Addr) (ns:List Int),ns.length<=n->Only H->jy (K w.params) H a (ns.map V.int)->sp w [.ref a] H (fun v _=>v=.bl true) fun _ _ _=>False)
  (BL:∀ (w:World) (H:Hp) (s:Shared) (e:Value) (s':Shared),CX w [] H s (fun _ _ _=>False) e s'->False) :
  PySem.W.WalkO q loose XP YP l.row.toRowW d [] (fun f vs=>PySem.call f vs):=by
 refine Lw.Pu hn hdf fun w s₀ s₁ mg mb fa o pm cd doc a vs ns G Y ho hd hcd hmg hobj hints hlen hg=>?_
 have KX:=hY w _ Y
 obtain ⟨fd,hb,hF⟩:=F w mg fa _ KX G.T.g hmg
 exact Pw KX G.T.g G.T.b G.T.builtins G.T.nolimit hg hobj hints (WO hlen hn2) hr hF hb (fun H hO hS=>rf w H a ns hlen hO hS) fun H e s'=>BL w H s₁ e s'
theorem Pz {l:PySem.W.OpenLaw} {n k:Nat} {q:Program} {loose:List Str} {XP:(Str->Option Value)->Heap->Prop} {YP:World->Heap->Prop} {d:DefRec} {K:Params->Zfr} {CX:qh} {sp:Zfr->Sp} {x:Str}
  (hn:l.most=some n) (hn2:n<=sizeLine) (hdf:d.params.defaults=[]) (hr:gw k callerA)
  (hY:∀ (w:World) (h:Heap),YP w h->(K w.params).In h)
  (F:∀ (w:World) (mg:Str->Option Value) (fa:Addr) (h:Heap),(K w.params).In h->h.Ns mainGlobals mg->mg d.name=some (.ref fa) ->
   ∃ fd:FuncData,(∀ (s:Shared) (u:Value),BindsTo s fd ⟨[u],[]⟩ [(x,u)]) /\
    ∀ base:Heap,(K w.params).In base->base.Ns mainGlobals mg->aE l.prog w (K w.params) mg base CX k fa fd [x] (sp (K w.params)))
  (rf:∀ (K:Zfr) (H:Hp) (a:Addr) (ns:List Int),ns.length<=n->Only H->jy K H a (ns.map V.int)->sp K [.ref a] H (fun v _=>v=.bl true) fun _ _ _=>False)
  (BL:∀ (H:Hp) (s:Shared) (e:Value) (s':Shared),CX [] H s (fun _ _ _=>False) e s'->False) :
  PySem.W.WalkO q loose XP YP l.row.toRowW d [] (fun f vs=>PySem.call f vs) :=
 Py (K:=K) (CX:=fun _=>CX) (sp:=fun w=>sp (K w.params)) hn hn2 hdf hr hY F (fun w H a ns h1 h2 h3=>rf (K w.params) H a ns h1 h2 h3) fun _ H s e s'=>BL H s e s'
def fq (s:Stmt):Arguments:=match s with
 | .FunctionDef _ a _ _ _ _ _ _ _ _=>a
 | _=>{ posonlyargs:=[],args:=[],vararg:=none,kwonlyargs:=[],kw_defaults:=[],kwarg:=none,defaults:=[] }
def du (s:Stmt):List Stmt:=match s with
 | .FunctionDef _ _ b _ _ _ _ _ _ _=>b
 | _=>[]
def au (s:Stmt):Scope:=match s with
 | .FunctionDef _ _ _ _ _ _ sc _ _ _=>sc
 | _=>{ kind:=.function,names:=[],isGenerator:=false,isCoroutine:=false }
abbrev a7:qh:=fun _ _ _ _ _ _=>False
abbrev E0:XK:=fun _ _ _=>False
theorem vo {X:Cx}:Passes a7 X E0:=fun _ _ _ _ _ _ _ h=>h.elim
structure E7 (K:Zfr) (x qual:Str) (st:Stmt) (f:Addr) (fd:FuncData):Prop where
 ex:∃ (oc:Value) (od:Option Addr) (kV doc pm:Value) (an:Option Addr) (cdv ct:Value) (osl:Array (Option Value)),
  fd=PySem.W.fnOf x qual (fq st) (du st) (au st) .none kV doc pm an cdv ct/\K.lookup f=some ⟨oc,od,.func fd,osl⟩/\PySem.W.codeIn K cdv qual=true
 kp:PySem.W.keepIn K (.ref f)=true
section
variable {P:Program} {w:World} {K:Zfr} {mg:Str->Option Value} {base:Heap}
theorem E7.ok {x qual:Str} {st:Stmt} {f:Addr} {fd:FuncData} {N ps:List Str} {k:Nat} {sp:Sp} (F:E7 K x qual st f fd) (S:aD N ps (au st)) (len:∀ vs H Q E,sp vs H Q E->vs.length=ps.length)
  (hbody:∀ (cdv:Value) (A:Around) (outer:List Env) (s:Shared) (H:Hp) (vs:List V) (Q:VK) (E:XK),gw k (A.deeper (envOfC qual (au st) s.heap.objs.size f cdv))->sp vs H Q E ->
   ∃ t,qg (g9 a7 P w K mg base N qual (au st) f cdv A outer s H E).n8 (du st) t/\t { nx:=fun _ H'=>Q .non H',rt:=Q } (start N vs) H):aE P w K mg base a7 (k + 1) f fd ps sp:=by
 obtain ⟨oc,od,kV,doc,pm,an,cdv,ct,osl,rfl,lk,hcd⟩:=F.ex
 refine u9 lk hcd S len fun A outer s H vs Q E hr rf=>?_
 obtain ⟨t,h,q⟩:=hbody cdv A outer s H vs Q E hr rf
 exact ⟨t,h.n8,q⟩
theorem xG {x qual:Str} {st:Stmt} {f:Addr} {oc:Value} {od an:Option Addr} {osl:Array (Option Value)} {kV doc pm cdv ct:Value} (l:K.lookup f=some ⟨oc,od,.func (PySem.W.fnOf x qual (fq st) (du st) (au st) .none kV doc pm an cdv ct),osl⟩)
  (c:PySem.W.codeIn K cdv qual=true) (k:PySem.W.keepIn K (.ref f)=true):E7 K x qual st f (PySem.W.fnOf x qual (fq st) (du st) (au st) .none kV doc pm an cdv ct):=⟨⟨oc,od,kV,doc,pm,an,cdv,ct,osl,rfl,l,c⟩,k⟩
end
theorem BM {A:Around} {k:Nat} (hr:gw k A):A.units + 1 < cLine:=Xk (Nat.add_le_add_left (by decide:1<=64) _) hr.units
section
variable {X:Cx}
theorem pv (i:Nat) {x:Str} {pos:Pos} (hN:X.N[i]?=some x:=by rfl) (hv:Hu X.env.scope x:=by first | exact Or.inl rfl | exact Or.inr (Or.inl rfl) | exact Or.inr (Or.inr rfl)) (hd:(x == ("__debug__" : Str))=false:=by decide)
  (hcd:(x == ("__classdict__" : Str))=false:=by decide):PE X (.Name x pos) (xb i):=xc hN hv hd hcd
end
theorem rR {A B:Prop} (h:B):if false=true then A else B:=by
 rw [if_neg WD]
 exact h
theorem rS {A B:Prop} (h:A):if true=true then A else B:=by
 rw [if_pos rfl]
 exact h
def jD (H H':Hp):Prop:=∀ b o,H b=some o->H' b=some o
theorem jD.refl (H:Hp):jD H H:=fun _ _ h=>h
section
variable {X:Cx}
end
section
variable {κ:Type} [DecidableEq κ]
end
theorem lP:bootBuiltins "len" = some (.builtin "len"):=by decide +kernel
theorem Lz:bootBuiltins "int" = some (.type "int"):=by decide +kernel
theorem qN:bootBuiltins "list" = some (.type "list"):=by decide +kernel
theorem oh:bootBuiltins "tuple" = some (.type "tuple"):=by decide +kernel
theorem tw:bootBuiltins "range" = some (.type "range"):=by decide +kernel
theorem LA:bootBuiltins "max" = some (.builtin "max"):=by decide +kernel
theorem HZ:bootBuiltins "min" = some (.builtin "min"):=by decide +kernel
theorem PB:bootBuiltins "reversed" = some (.type "reversed"):=by decide +kernel
structure Kp (ch:List Addr) (H H':Hp):Prop where
 keep:∀ b o,H b=some o->b ∉ ch->H' b=some o
 tup:∀ b xs,H b=some (.tup xs)->H' b=some (.tup xs)
 oC:∀ b o u,H b=some (.oC o u)->H' b=some (.oC o u)
section
variable {ch:List Addr} {H H1 H2:Hp} {a l p:Addr} {o:HO} {xs ys:List V} {K:Zfr}
theorem Kp.refl:Kp ch H H:=⟨fun _ _ h _=>h,fun _ _ h=>h,fun _ _ _ h=>h⟩
theorem Kp.of_same (h:jD H H1):Kp ch H H1:=⟨fun b o e _=>h b o e,fun b xs e=>h b _ e,fun b o u e=>h b _ e⟩
theorem Kp.put (h:Kp ch H H1) (ha:a∈ch) (e:H1 a=some (.lst xs)):Kp ch H (upd H1 a o) :=
 ⟨fun b u q n=>by rw [kf (fun z=>n (by rw [z];exact ha))];exact h.keep b u q n,
   fun b u q=>by
  have r:=h.tup b u q
  rw [kf (Hr r e (by intro z;cases z))];exact r,
   fun b u v q=>by
  have r:=h.oC b u v q
  rw [kf (Hr r e (by intro z;cases z))];exact r⟩
theorem Kp.Ie (h:Kp ch H H1) (q:fj K H a xs):fj K H1 a xs:=by
 rcases q with (q | ⟨o,q⟩) | q
 ·exact .inl (.inl (h.tup a xs q))
 ·exact .inl (.inr ⟨o,h.oC a o _ q⟩)
 ·exact .inr q
def BN (K:Zfr) (H:Hp) (a:Addr) (xs:List V):Prop :=
 (∃ o,H a=some (.oC o (.lst xs))) \/
  ∃ (o:Obj) (its:Array Value) (n:Nat),K.lookup a=some o/\o.cls=.type "list" /\ o.dict=none/\o.data=.seq its n/\its.size<=sizeLine/\Vals xs its.toList
theorem BN.sq (h:BN K H a xs):jy K H a xs:=h.elim (fun ⟨o,e⟩=>.inl (.inr ⟨o,e⟩)) .inr
theorem jy.script (hO:Only H) (q:jy K H a xs):BN K H a xs:=by
 rcases q with (q | ⟨o,q⟩) | q
 ·rcases hO a with e | ⟨o,ys,e⟩
  ·rw [e] at q;cases q
  ·rw [e] at q;cases q
 ·exact .inl ⟨o,q⟩
 ·exact .inr q
theorem jD.up (h:H p=none):jD H (upd H p o):=fun b u e=>by rw [kf (zQ e h)];exact e
end
def pZ (K:Zfr) (H:Hp) (xs:List V) (Q:VK):Prop:=∀ p H',fj K H' p xs->jD H H'->Q (.ref p) H'
section
variable {X:Cx}
theorem pZ.new {K:Zfr} {H:Hp} {xs:List V} {Q:VK} (h:pZ K H xs Q):∀ p,H p=none->Q (.ref p) (upd H p (.tup xs)):=fun p hp=>h p _ (fj.of q5) (jD.up hp)
theorem pZ.it {K:Zfr} {H:Hp} {xs:List V} {Q:VK} {a:Addr} (h:pZ K H xs Q) (q:fj K H a xs):Q (.ref a) H:=h a H q (jD.refl H)
def rT (K:Zfr):R2:=fun x y H Q=>∃ a b xs ys,x=.ref a/\y=.ref b/\fj K H a xs/\fj K H b ys/\xs.length + ys.length<=sizeLine/\pZ K H (xs ++ ys) Q
theorem vq:kR X (binaryOp .Add) (rT X.K):=by
 intro pins s σ H x y v u Q I rx ry h
 obtain ⟨a,b,xs,ys,rfl,rfl,ha,hb,hz,q⟩:=h
 by_cases hx:xs=[]
 ·subst hx
  cases rx
  cases ry
  obtain ⟨its,r1,p1,_⟩:=I.tuple ha
  obtain ⟨its2,r2,p2,_⟩:=I.tuple hb
  have e:its=[]:=r1.ng.mpr rfl
  subst e
  obtain ⟨⟨cls,dd,data,sl⟩,ho,hc,n,hd⟩:=id p1
  obtain ⟨⟨HI,dd2,data2,sl2⟩,ho2,hc2,n2,hd2⟩:=id p2
  simp only at hc hd hc2 hd2
  subst hc hd hc2 hd2
  exact concat_meets ⟨_,ho,rfl⟩ ⟨_,ho2,rfl⟩ noFill_tuple_add seq_tuple_add PySem.F.slot_tuple_add PySem.F.entry_tuple_add (PySem.F.args_tuple_add_2 _ _)
   (tuple_addW0 a b #[] its2.toArray n n2 dd dd2 sl sl2 (by simp)) ⟨ho,ho2,⟨.ref b,H,I,rfl,q.it (by simpa using hb)⟩⟩
 ·exact O9 pins s σ H _ _ v u Q I rx ry ⟨a,b,xs,ys,rfl,rfl,ha,hb,hx,hz,fun e=>q.it (by subst e;simpa using ha),fun _=>q.new⟩
theorem PD {prog:Program} {w:World} {A:Around} {E:Value->Shared->Prop} {s:Shared} {t sl:Addr} {items:Array Value} {vl vu:Value} {lo hi:Option Int} {Q:Value->Shared->Prop} (ht:IsTup s.heap t items) (hs:s.heap.IsSliceOf sl vl vu .none) (pl:IsPart vl lo) (pu:IsPart vu hi)
  (hw:HT.cJ items.size 0 lo=0/\HT.cJ items.size items.size hi=items.size) (h:Q (.ref t) s):wpAny (model prog w) A (getItem (.ref t) (.ref sl)) Q E s:=by
 obtain ⟨os,hos,hcs,hds⟩:=id hs
 have HJ:s.TypeIs (.ref sl) "slice" := ⟨os,hos,hcs⟩
 unfold getItem
 try with_reducible refine wpAny_holding ?_
 first | refine wpAny_bind (wpAny_pure ?_) | skip
 refine wpAny_bind (wpAny_sequenceKey ht.typeIs (by decide) ?_)
 refine wpAny_bind (wpAny_callSpecial?_slot (name:=Str.ofString "__getitem__") ht.typeIs PyProof.Rows.slot_tuple_getitem
  (wpAny_call_entry PyProof.Rows.slot_tuple_getitem ht.typeIs entry_tuple_getitem ?_ (args_tuple_getitem _ _)))
 show wpAny _ _ (Builtin.Tuple.tupleItemsOf (.ref t) >>= _) _ _ s
 refine wpAny_bind (tupleItemsOf_ ht ?_)
 refine wpAny_bind (wpAny_typeOf HJ ?_)
 rw [if_pos (by decide)]
 refine wpAny_bind (HT.Le hs pl pu ?_)
 have hyes:((((HT.cJ items.size 0 lo:Nat):Int) == 0 && (1:Int) == 1 && (HT.cJ items.size items.size hi - HT.cJ items.size 0 lo) == items.size)=true):=by
  rw [hw.1,hw.2];simp
 show wpAny _ _ (if (((HT.cJ items.size 0 lo:Nat):Int) == 0 && (1:Int) == 1 && (HT.cJ items.size items.size hi - HT.cJ items.size 0 lo) == items.size)=true then _ else _) _ _ s
 rw [if_pos hyes]
 obtain ⟨o,ho,hc,n,hd⟩:=id ht
 unfold Builtin.Tuple.tupleIsExact
 first
  | exact wpAny_bind (wpAny_bind (wpAny_typeOf (T:="tuple") ⟨o,ho,hc⟩ (wpAny_pure (wpAny_bind (wpAny_rule (wpAny_pure ⟨_,rfl,wpAny_pure h⟩))))))
  | exact wpAny_bind (wpAny_bind (wpAny_typeOf (T:="tuple") ⟨o,ho,hc⟩ (wpAny_pure (wpAny_bind (wpAny_rule (wpAny_bind (wpAny_pure ⟨_,rfl,wpAny_pure h⟩)))))))
  | trace_state
def vt (K:Zfr):V->Option Int->Option Int->Hp->VK->Prop:=fun x lo hi H Q=>∃ a xs,x=.ref a/\fj K H a xs/\pZ K H (nF xs lo hi) Q
theorem PH {xs:List V} {lo hi:Option Int} (h:HT.cJ xs.length 0 lo=0/\HT.cJ xs.length xs.length hi=xs.length):nF xs lo hi=xs:=by
 unfold nF;rw [h.1,h.2];simp
theorem PJ:E2 X (vt X.K):=by
 intro pins s σ H x v vl vu lo hi sl Q I rx hs pl pu h
 obtain ⟨a,xs,rfl,hx,q⟩:=h
 by_cases hw:HT.cJ xs.length 0 lo=0/\HT.cJ xs.length xs.length hi=xs.length
 ·cases rx
  obtain ⟨its,r,ht,hz⟩:=I.tuple hx
  have hlen:its.toArray.size=xs.length:=by rw [WL];exact r.length.symm
  refine ⟨"tuple",_,PyProof.Rows.slot_tuple_getitem.lookup,ht.typeIs,?_⟩
  exact PD ht hs pl pu (by rw [hlen];exact hw) ⟨.ref a,H,I,rfl,q.it (by rw [PH hw];exact hx)⟩
 ·exact xv pins s σ H _ v vl vu lo hi sl Q I rx hs pl pu ⟨a,xs,rfl,hx,hw,q.new⟩
def fX (lo:Int) (n:Nat):List V:=(List.range n).map fun (k:Nat)=>V.int (lo + k)
theorem PK (lo:Int) (n:Nat):(fX lo n).length=n:=by simp [fX]
theorem E8:fV X (.type "range") (fun xs H Q=>∃ j:Int,xs=[.int j]/\∀ p,H p=none->Q (.ref p) (upd H p (.jH 0 j))):=by
 intro pins s σ H xs us Q I r h
 obtain ⟨j,rfl,q⟩:=h
 obtain ⟨u,rfl,t,rfl⟩:=vals1 r
 refine call_range_1 ⟨.ref s.heap.objs.size,_,I.laid (o:=.jH 0 j) (fun b o e=>WM _ e) (Wy _) ?_,rfl,q _ (I.hok.fresh (Wy _))⟩
 exact ⟨_,_,_,WV _ rfl⟩
theorem Ac:fV X (.type "range") (fun xs H Q=>∃ i j:Int,xs=[.int i,.int j]/\∀ p,H p=none->Q (.ref p) (upd H p (.jH i j))):=by
 intro pins s σ H xs us Q I r h
 obtain ⟨i,j,rfl,q⟩:=h
 obtain ⟨u,u',rfl,⟨t,rfl⟩,t',rfl⟩:=vals2 r
 refine call_range_2 ⟨.ref s.heap.objs.size,_,I.laid (o:=.jH i j) (fun b o e=>WM _ e) (Wy _) ?_,rfl,q _ (I.hok.fresh (Wy _))⟩
 exact ⟨_,_,_,WV _ rfl⟩
theorem LB:∀ (n:Nat) (lo:Int) (us:List Value),us.length=n->(∀ (j:Nat) (v:Value),us[j]?=some v->∃ t,v=.int (lo + j * 1) t)->Vals (fX lo n) us
 | 0,lo,[],_,_=>.nil
 | 0,lo,_ :: _,h,_=>by simp at h
 | n + 1,lo,[],h,_=>by simp at h
 | n + 1,lo,u :: us,h,hv=>by
  have e:fX lo (n + 1)=V.int lo :: fX (lo + 1) n:=by
   unfold fX
   rw [List.range_succ_eq_map,WY,W4]
   congr 1
   ·simp
   ·apply Xc
    intro i _
    simp only [Function.comp]
    congr 1
    push_cast
    omega
  rw [e]
  obtain ⟨t,ht⟩:=hv 0 u rfl
  refine .cons ⟨t,by rw [ht];simp⟩ (LB n (lo + 1) us (by simpa using h) fun j v hj=>?_)
  obtain ⟨t',ht'⟩:=hv (j + 1) v hj
  refine ⟨t',ht'.trans ?_⟩
  congr 1
  omega
theorem tD (hc:X.calm=true):fV X (.type "list") (fun xs H Q=>∃ p lo hi,xs=[.ref p]/\H p=some (.jH lo hi)/\(-(2 ^ 62)<=lo/\lo < 2 ^ 62/\-(2 ^ 62)<=hi/\hi < 2 ^ 62)/\(hi - lo).toNat<=2 ^ 24 /\
  ∀ l,H l=none->Q (.ref l) (upd H l (.lst (fX lo (hi - lo).toNat)))):=by
 intro pins s σ H xs us Q I r h
 obtain ⟨p,lo,hi,rfl,hp,⟨b1,b2,b3,b4⟩,hz,q⟩:=h
 obtain ⟨u,rfl,ru⟩:=vals1 r
 cases ru
 obtain ⟨t,t',t'',e⟩:=(show cI X.prog X.w H s.heap p (.jH lo hi) from I.hok p _ hp)
 refine call_list_range (a:=lo) (b:=hi) (c:=1) (n:=(hi - lo).toNat) (I.ok.hd hc) (show IsRange s.heap p lo hi 1 t t' t'' from e) (small_one b1 b2 b3 b4) (by rw [rangeSize_one];split <;> omega) hz fun h' tk acc c kp hD hI=>?_
 refine ⟨.ref s.heap.objs.size,_,I.laid (t':=tk) (o:=.lst (fX lo (hi - lo).toNat)) kp (Wy _) ?_,rfl,q _ (I.hok.fresh (Wy _))⟩
 refine ⟨by rw [PK];exact WO hz (by decide),acc.toList,c,LB _ _ _ (by rw [Array.length_toList];exact hI.1) fun j v hj=>hI.2 j v (by rw [<- hj,Array.getElem?_toList]),by simpa using hD⟩
end
mutual
inductive Rep (K:Zfr) (H:Hp):V->PyData->Prop
 | non:Rep K H .non .none
 | bl (b:Bool):Rep K H (.bl b) (.bool b)
 | int (i:Int):Rep K H (.int i) (.int i)
 | str (x:Str):Rep K H (.str x) (.str x)
 | tup {a:Addr} {xs:List V} {ds:List PyData}:fj K H a xs->fY K H xs ds->Rep K H (.ref a) (.tuple ds)
 | lst {a:Addr} {xs:List V} {ds:List PyData}:jy K H a xs->fY K H xs ds->Rep K H (.ref a) (.list ds)
inductive fY (K:Zfr) (H:Hp):List V->List PyData->Prop
 | nil:fY K H [] []
 | cons {v:V} {vs:List V} {d:PyData} {ds:List PyData}:Rep K H v d->fY K H vs ds->fY K H (v :: vs) (d :: ds)
end
section
variable {X:Cx} {pins:List (Addr×Obj)} {σ:St} {H:Hp} {s:Shared}
mutual
theorem Rep.reads (I:Inv X pins σ H s):∀ {v:V} {d:PyData} {u:Value},Rep X.K H v d->RelV v u->∃ as,Reads s.heap u d as
 | _,_,_,.non,r=>by cases r;exact ⟨_,.none⟩
 | _,_,_,.bl b,r=>by cases r;exact ⟨_,.bool b⟩
 | _,_,_,.int i,r=>by obtain ⟨t,rfl⟩:=r;exact ⟨_,.int i t⟩
 | _,_,_,.str x,r=>by obtain ⟨t,rfl⟩:=r;exact ⟨_,.str x t⟩
 | _,_,_,.tup q rs,r=>by
  cases r
  obtain ⟨its,rv,⟨o,e,c,n,hd⟩,_⟩:=I.tuple q
  obtain ⟨as,ra⟩:=fY.reads I rs rv
  exact ⟨_,.tuple e c hd (by simpa using ra)⟩
 | _,_,_,.lst q rs,r=>by
  cases r
  obtain ⟨its,rv,pl,_⟩:=I.list q
  obtain ⟨o,e,c,n,hd⟩:=pl.isList
  obtain ⟨as,ra⟩:=fY.reads I rs rv
  exact ⟨_,.list e c hd (by simpa using ra)⟩
theorem fY.reads (I:Inv X pins σ H s):∀ {vs:List V} {ds:List PyData} {us:List Value},fY X.K H vs ds->Vals vs us->∃ as,ReadsAll s.heap us ds as
 | _,_,_,.nil,r=>by cases r;exact ⟨_,.nil⟩
 | _,_,_,.cons h t,r=>by
  cases r with
  | cons r1 r2 =>
   obtain ⟨as,h1⟩:=Rep.reads I h r1
   obtain ⟨bs,h2⟩:=fY.reads I t r2
   exact ⟨_,.cons h1 h2⟩
end
def xH (K:Zfr) (neg:Bool):R2:=fun x y H Q=>∃ d e,Rep K H x d/\Rep K H y e/\PyData.canLay0 d=true/\PyData.canLay0 e=true/\min d.depth e.depth<=60/\Q (.bl (if neg then !PyData.eqv d e else PyData.eqv d e)) H
theorem Ig (hu:X.A.units + 64 < cLine):kR X (compareOp .Eq) (xH X.K false):=by
 intro pins s σ H x y v u Q I rx ry h
 obtain ⟨d,e,hd,he,c1,c2,dp,q⟩:=h
 obtain ⟨as,ra⟩:=hd.reads I rx
 obtain ⟨bs,rb⟩:=he.reads I ry
 exact SeqAt.eqOverData X.prog X.w X.A X.xe s v u d e as bs _ ra rb c1 c2 (by omega) ⟨.bl _,H,I,rfl,q⟩
theorem Ih (hu:X.A.units + 64 < cLine):kR X (compareOp .NotEq) (xH X.K true):=by
 intro pins s σ H x y v u Q I rx ry h
 obtain ⟨d,e,hd,he,c1,c2,dp,q⟩:=h
 obtain ⟨as,ra⟩:=hd.reads I rx
 obtain ⟨bs,rb⟩:=he.reads I ry
 exact SeqAt.neOverData X.prog X.w X.A X.xe s v u d e as bs _ ra rb c1 c2 (by omega) ⟨.bl _,H,I,rfl,q⟩
end
section
variable {K:Zfr} {H:Hp}
def cV (ns:List Int):List PyData:=ns.map PyData.int
theorem xI:∀ (ns:List Int),PyData.canLayAll0 (cV ns)=true
 | []=>rfl
 | n :: r=>by show (true && PyData.canLayAll0 (cV r))=true;rw [xI r];rfl
theorem Ad:∀ (ns:List Int),PyData.depthAll (cV ns)=0
 | []=>rfl
 | n :: r=>by show max 0 (PyData.depthAll (cV r))=0;rw [Ad r];rfl
theorem BO:∀ (ns ms:List Int),PyData.eqvAll (cV ns) (cV ms)=decide (ns=ms)
 | [],[]=>rfl
 | [],_ :: _=>rfl
 | _ :: _,[]=>rfl
 | n :: ns,m :: ms=>by
  show ((n == m) && PyData.eqvAll (cV ns) (cV ms))=decide (n :: ns=m :: ms)
  rw [BO ns ms]
  by_cases h:n=m
  ·subst h;simp
  ·simp [h]
end
end L2
namespace L2
open PySem PySem.Spec PyProof.Rows
structure Def (K:Zfr) (mg:Str->Option Value) (x:Str) (st:Stmt) (ps:List Str) (f:Addr) (fd:FuncData):Prop where
 F:E7 K x x st f fd
 be:∀ us:List Value,us.length=ps.length->bindArgs fd ⟨us,[]⟩=pure (ps.zip us)
 m:mg x=some (.ref f)
theorem Def.b {K:Zfr} {mg:Str->Option Value} {x:Str} {st:Stmt} {ps:List Str} {f:Addr} {fd:FuncData} (D:Def K mg x st ps f fd):Binds K fd ps []:=.all D.be
theorem ft {K:Zfr} {h:Heap} {mg:Str->Option Value} (X:K.In h) (G:h.Ns mainGlobals mg) {x:Str} {st:Stmt} {ps:List Str} {f:Addr} {oc:Value} {od an:Option Addr} {osl:Array (Option Value)} {kV doc pm cdv ct:Value}
  (hb:∀ (kV doc pm:Value) (an:Option Addr) (cdv ct:Value) (us:List Value),us.length=ps.length->bindArgs (PySem.W.fnOf x x (fq st) (du st) (au st) .none kV doc pm an cdv ct) ⟨us,[]⟩=pure (ps.zip us))
  (a:PySem.W.nsIn K mainGlobals x=some (some (.ref f))) (l:K.lookup f=some ⟨oc,od,.func (PySem.W.fnOf x x (fq st) (du st) (au st) .none kV doc pm an cdv ct),osl⟩)
  (c:PySem.W.codeIn K cdv x=true) (k:PySem.W.keepIn K (.ref f)=true):∃ f fd,Def K mg x st ps f fd :=
 ⟨f,_,xG l c k,hb kV doc pm an cdv ct,PySem.W.mg_of X G a⟩
theorem Def.uj {K:Zfr} {mg:Str->Option Value} {x p:Str} {st:Stmt} {f:Addr} {fd:FuncData} (D:Def K mg x st [p] f fd) (s:Shared) (u:Value):BindsTo s fd ⟨[u],[]⟩ [(p,u)]:=.of_eq (D.be [u] rfl)
theorem tG {K:Zfr} {h:Heap} {mg:Str->Option Value} (X:K.In h) (G:h.Ns mainGlobals mg) {x:Str} (z:PySem.W.nsIn K mainGlobals x=some none):mg x=none:=PySem.W.mg_none_of X G z
theorem Ae {n j:Nat} (h:j < n):mM n (j:Int)=some j:=by
 unfold mM
 rw [if_pos (by omega),if_pos (by omega)]
 simp
theorem xJ {α:Type} {xs:List α} {i:Int} (h0:0<=i) (h1:i < xs.length):∃ v,eE xs i=some v/\v∈xs:=by
 have hi:i.toNat < xs.length:=by omega
 refine ⟨xs[i.toNat],?_,List.getElem_mem hi⟩
 have:=zZ (xs:=xs) (j:=i.toNat) (v:=xs[i.toNat]) (by simp [hi])
 rwa [W3 h0] at this
theorem dT {c:Prop} [Decidable c] (h:decide c=true):c:=of_decide_eq_true h
section
variable {prog:Program} {w:World} {A:Around} {E:Value->Shared->Prop} {s:Shared}
end
section
variable {X:Cx} {e:Expr} {te:TE} {pos p0 p1 p2:Pos} {j:Nat}
end
section
variable {K:Zfr} {f:Addr} {H0:Hp} {σ:St} {i:Nat} {t u ta tb:TE} {R R':V->Hp->Prop} {P P' P2:Int->Prop} {L M:Nat}
end
theorem BP:∀ (names:List (Str×NameKind)) (n:Nat) (acc:List (Str×Addr)),cellsFrom n names acc=cellsFrom n names [] ++ acc
 | [],_,_=>rfl
 | (x,k) :: r,n,acc=>by
  show (if k == .cell then cellsFrom (n + 1) r ((x,n) :: acc) else cellsFrom n r acc)=(if k == .cell then cellsFrom (n + 1) r [(x,n)] else cellsFrom n r []) ++ acc
  by_cases hk:(k == NameKind.cell)=true
  ·rw [if_pos hk,if_pos hk,BP r (n + 1) ((x,n) :: acc),BP r (n + 1) [(x,n)],List.append_assoc];rfl
  ·rw [if_neg hk,if_neg hk];exact BP r n acc
theorem Ii {x:Str} {c:Addr}:∀ (names:List (Str×NameKind)) (n:Nat),(x,c)∈cellsFrom n names []->(x,NameKind.cell)∈names/\n<=c
 | [],_,h=>nomatch h
 | (y,k) :: r,n,h=>by
  have h':(x,c)∈(if k == .cell then cellsFrom (n + 1) r [(y,n)] else cellsFrom n r []):=h
  by_cases hk:(k == NameKind.cell)=true
  ·rw [if_pos hk,BP] at h'
   rcases WX.mp h' with h' | h'
   ·obtain ⟨h1,h2⟩:=Ii r (n + 1) h'
    exact ⟨WK _ h1,by omega⟩
   ·have e:(x,c)=(y,n):=by simpa using h'
    cases e
    have e2:k=NameKind.cell:=by simpa using hk
    subst e2
    exact ⟨WA,Wy _⟩
  ·rw [if_neg hk] at h'
   obtain ⟨h1,h2⟩:=Ii r n h'
   exact ⟨WK _ h1,h2⟩
theorem Ij {env:Env} (f:Str×NameKind->List (Str×Addr)->Sem (ForInStep (List (Str×Addr))))
  (hf:∀ name kind cs,f (name,kind) cs=if kind == .free then (do let c <- cellOf env name;pure (.yield ((name,c) :: cs))) else pure (.yield cs)) :
  ∀ (names:List (Str×NameKind)) (acc:List (Str×Addr)),(∀ y∈names,y.2=NameKind.free->∃ c,env.cells.lookup y.1=some c) ->
   ∃ cl,(forIn names acc f:Sem (List (Str×Addr)))=pure cl/\(∀ n c,(n,c)∈cl->(n,c)∈acc\/(env.cells.lookup n=some c/\(n,NameKind.free)∈names))/\(∀ p∈acc,p∈cl)/\∀ n,(n,NameKind.free)∈names->∃ c,(n,c)∈cl
 | [],acc,_=>⟨acc,by rw [List.forIn_nil],fun n c h=>.inl h,fun p h=>h,fun n h=>nomatch h⟩
 | (x,k) :: r,acc,h=>by
  have hr:∀ y∈r,y.2=NameKind.free->∃ c,env.cells.lookup y.1=some c:=fun y hy=>h y (WK _ hy)
  by_cases hk:k=NameKind.free
  ·subst hk
   obtain ⟨c,hc⟩:=h (x,.free) WA rfl
   have e:cellOf env x=pure c:=by unfold cellOf;rw [hc]
   obtain ⟨cl,e1,h1,h2,h3⟩:=Ij f hf r ((x,c) :: acc) hr
   refine ⟨cl,?_,fun n d hd=>?_,fun p hp=>h2 p (WK _ hp),fun n hn=>?_⟩
   ·rw [List.forIn_cons,hf,if_pos (by rfl),e]
    exact e1
   ·rcases h1 n d hd with q | ⟨q,q'⟩
    ·rcases W0.mp q with q | q
     ·cases q;exact .inr ⟨hc,WA⟩
     ·exact .inl q
    ·exact .inr ⟨q,WK _ q'⟩
   ·rcases W0.mp hn with q | q
    ·cases q;exact ⟨c,h2 _ WA⟩
    ·exact h3 n q
  ·obtain ⟨cl,e1,h1,h2,h3⟩:=Ij f hf r acc hr
   have hb:¬ ((k == NameKind.free)=true):=by simpa using hk
   refine ⟨cl,?_,fun n d hd=>?_,h2,fun n hn=>?_⟩
   ·rw [List.forIn_cons,hf,if_neg hb]
    exact e1
   ·rcases h1 n d hd with q | ⟨q,q'⟩
    ·exact .inl q
    ·exact .inr ⟨q,WK _ q'⟩
   ·rcases W0.mp hn with q | q
    ·cases q;exact absurd rfl hk
    ·exact h3 n q
theorem LC {scope:Scope} {env:Env} (h:∀ y∈scope.names,y.2=NameKind.free->∃ c,env.cells.lookup y.1=some c) :
  ∃ cl,closureFor scope env=pure cl/\(∀ n c,(n,c)∈cl->env.cells.lookup n=some c/\(n,NameKind.free)∈scope.names)/\∀ n,(n,NameKind.free)∈scope.names->∃ c,(n,c)∈cl:=by
 have key:∀ (f:Str×NameKind->List (Str×Addr)->Sem (ForInStep (List (Str×Addr)))),(∀ name kind cs,f (name,kind) cs=if kind == .free then (do let c <- cellOf env name;pure (.yield ((name,c) :: cs))) else pure (.yield cs)) ->
   ∃ cl,((forIn scope.names [] f:Sem (List (Str×Addr))) >>= fun r=>pure r)=pure cl/\(∀ n c,(n,c)∈cl->env.cells.lookup n=some c/\(n,NameKind.free)∈scope.names)/\∀ n,(n,NameKind.free)∈scope.names->∃ c,(n,c)∈cl:=fun f hf=>by
  obtain ⟨cl,e,h1,_,h3⟩:=Ij f hf scope.names [] h
  refine ⟨cl,?_,fun n c hc=>(h1 n c hc).elim (fun z=>nomatch z) id,h3⟩
  rw [e]
  rfl
 simp only [closureFor]
 exact key _ fun name kind cs=>by cases hk:kind == NameKind.free <;> simp [hk]
theorem ltN {a b:Addr} (h:a < b):@LT.lt Nat _ a b:=h
theorem xa {a b:Addr} (h:@LT.lt Nat _ a b):a≠b:=Xb h
theorem LD {a b:Addr} (h:@LT.lt Nat _ b a):a≠b:=Nat.ne_of_gt h
theorem PL {M:Model} {A:Around} {E:Value->Shared->Prop} {s:Shared} {scope:Scope} {g:Addr} {cl:List (Str×Addr)} {q:Str} {env:Env} {Q:Env->Shared->Prop}
  (h:∀ h',h'.Ns s.heap.objs.size (fun _=>none)->(∀ b o,s.heap.get? b=some o->h'.get? b=some o)->CellsOk h' (s.heap.objs.size + 1) (cellsFrom (s.heap.objs.size + 1) scope.names []) ->
   Q { scope:=scope,locals:=s.heap.objs.size,globals:=g,cells:=cellsFrom (s.heap.objs.size + 1) scope.names cl,qual:=q,func:=none,code:=env.code,frame:=env.frame,builtins:=env.builtins } { s with heap:=h' }) :
  wpAny M A (newFunctionEnv scope g cl [] q none .none (some env)) Q E s:=by
 simp only [newFunctionEnv,Option.isSome_some,if_true]
 refine wpAny_bind (wpAny_alloc ?_)
 refine wpAny_bind (wpAny_layCells _ (fun name kind cells=>by cases hkc:kind == NameKind.cell <;> simp [hkc]) _ _ _ _ ?_)
 have ok:=cellsFrom_ok scope.names (s.heap.push { cls:=.type "dict",data:=.dict #[] }) (s.heap.objs.size + 1) [] ⟨fun _ _ hm=>(nomatch hm),List.Pairwise.nil⟩ (by rw [Heap.size_push];exact Wy _)
 rw [Heap.size_push] at ok
 rw [show ({ s with heap:=s.heap.push { cls:=.type "dict",data:=.dict #[] } }:Shared).heap.objs.size=s.heap.objs.size + 1 from Heap.size_push ..]
 refine wpAny_bind ?_
 rw [List.forIn_nil]
 refine wpAny_pure (wpAny_pure ?_)
 exact h _ ((Heap.Ns.new s.heap (.type "dict")).keeps (pushCells_keeps _ _)) (fun b o e=>pushCells_keeps _ _ b o (WM _ e)) ok
def aS (X:Cx) (N:List Str) (scope:Scope) (cells:List (Str×Addr)) (C:Addr) (fp:List Addr) (s:Shared) (H:Hp):Cx where
 prog:=X.prog
 w:=X.w
 K:=X.K
 mg:=X.mg
 base:=X.base
 A:=X.A
 N:=N
 s₀:=s
 H₀:=H
 env:=compEnvC scope cells C X.env
 outer:=X.stack
 stack:=X.stack
 ex:=fp
 fn:=fun x=>decide (scope.names.lookup x=some .cell)
 calm:=X.calm
 pn:=[]
 xe:=fun _ _=>False
def rV (scope sc:Scope):Scope :=
 { scope with names:=scope.names.map fun (n,k)=>if (k == .free && sc.kind == .function && sc.names.lookup n == some .cell) then (n,.cell) else (n,k) }
structure rW (sc scope:Scope) (own fr:List Str):Prop where
 kind:scope.kind=.function
 nd:(own ++ fr).Nodup
 Af:(scope.names.map (·.1)).Nodup
 free:∀ y∈scope.names,y.2=.free->sc.names.lookup y.1=some .cell\/sc.names.lookup y.1=some .free
 Ik:∀ x∈fr,scope.names.lookup x=some .free
structure fZ (X:Cx) (scope:Scope) (own fr:List Str) (js:List Nat):Prop where
 c:rW X.env.scope scope own fr
 ix:js.map (fun j=>X.N[j]?)=fr.map some
theorem fZ.kind {X:Cx} {scope:Scope} {own fr:List Str} {js:List Nat} (S:fZ X scope own fr js):scope.kind=.function:=S.c.kind
theorem fZ.Af {X:Cx} {scope:Scope} {own fr:List Str} {js:List Nat} (S:fZ X scope own fr js):(scope.names.map (·.1)).Nodup:=S.c.Af
theorem fZ.Ik {X:Cx} {scope:Scope} {own fr:List Str} {js:List Nat} (S:fZ X scope own fr js):∀ x∈fr,scope.names.lookup x=some .free:=S.c.Ik
theorem fZ.free {X:Cx} {scope:Scope} {own fr:List Str} {js:List Nat} (S:fZ X scope own fr js):∀ y∈scope.names,y.2=.free->X.env.kindOf y.1=some .cell\/X.env.kindOf y.1=some .free:=S.c.free
theorem BQ {α:Type}:∀ {l:List (Str×α)} {n:Str} {c:α},(l.map (·.1)).Nodup->(n,c)∈l->l.lookup n=some c
 | (k,v) :: r,n,c,nd,h=>by
  obtain ⟨h1,h2⟩:=List.nodup_cons.mp nd
  rw [List.lookup_cons]
  rcases W0.mp h with e | h
  ·cases e;simp
  ·have:(n == k)=false:=beq_eq_false_iff_ne.mpr fun e=>h1 (by rw [<- e];exact WR.mpr ⟨(n,c),h,rfl⟩)
   rw [this]
   exact BQ h2 h
theorem LF (scope:Scope) (env:Env) (x:Str):(relabel scope env).names.lookup x=none/\scope.names.lookup x=none \/
  ∃ k,scope.names.lookup x=some k/\(relabel scope env).names.lookup x=some (if (k == .free && env.scope.kind == .function && env.kindOf x == some .cell) then .cell else k):=by
 have key:∀ names:List (Str×NameKind),(names.map fun (n,k)=>if (k == NameKind.free && env.scope.kind == .function && env.kindOf n == some .cell) then (n,NameKind.cell) else (n,k)).lookup x=none/\names.lookup x=none \/
   ∃ k,names.lookup x=some k/\(names.map fun (n,k)=>if (k == NameKind.free && env.scope.kind == .function && env.kindOf n == some .cell) then (n,NameKind.cell) else (n,k)).lookup x=some (if (k == .free && env.scope.kind == .function && env.kindOf x == some .cell) then .cell else k):=by
  intro names
  induction names with
  | nil=>exact .inl ⟨rfl,rfl⟩
  | cons p r ih =>
   obtain ⟨n,k⟩:=p
   rw [WY]
   cases hx:x == n with
   | true =>
    have e:x=n:=by simpa using hx
    subst e
    refine .inr ⟨k,by simp [List.lookup_cons],?_⟩
    by_cases hc:(k == NameKind.free && env.scope.kind == .function && env.kindOf x == some .cell)=true
    ·simp only [if_pos hc];simp [List.lookup_cons]
    ·simp only [if_neg hc];simp [List.lookup_cons]
   | false =>
    have e1:∀ q:NameKind,(((n,q) :: (r.map fun (n,k)=>if (k == NameKind.free && env.scope.kind == .function && env.kindOf n == some .cell) then (n,NameKind.cell) else (n,k))).lookup x)=((r.map fun (n,k)=>if (k == NameKind.free && env.scope.kind == .function && env.kindOf n == some .cell) then (n,NameKind.cell) else (n,k)).lookup x):=fun q=>by rw [List.lookup_cons,hx]
    have e2:((n,k) :: r).lookup x=r.lookup x:=by rw [List.lookup_cons,hx]
    rw [e2]
    by_cases hc:(k == NameKind.free && env.scope.kind == .function && env.kindOf n == some .cell)=true
    ·simp only [if_pos hc];rw [e1];exact ih
    ·simp only [if_neg hc];rw [e1];exact ih
 exact key scope.names
def jO (n:Nat) (js:List Nat) (σ:St):St:=List.replicate n none ++ js.map fun j=>σ.getD j none
theorem Inv.BR {X:Cx} {pins:List (Addr×Obj)} {σ:St} {H:Hp} {s:Shared} {a:Addr} {o:HO} (I:Inv X pins σ H s) (f:mj X pins H a) (new:cI X.prog X.w (upd H a o) s.heap a o):Inv X pins σ (upd H a o) s:=by
 obtain ⟨f0,f1,f2,f3,f4,f5⟩:=f
 have ne:∀ b u,H b=some u->b≠a:=fun b u e z=>by rw [z,f0] at e;cases e
 refine I.step (h':=s.heap) (H':=upd H a o) (g':=s.gens) (d':=s.drawn) (t':=s.toks) (ch:=[a]) (fun b hb=>?_) (fun b u _ _ _ e _=>e) (fun b u _ _ _ e _=>⟨u.slots,e⟩) (fun b u hb e n=>?_) (fun b u _ e=>⟨u,e⟩)
  (fun b xs e=>by rw [kf (ne b _ e)];exact e) (fun b u xs e=>by rw [kf (ne b _ e)];exact e) (fun b ps e=>⟨#[],by rw [kf (ne b _ e),e];simp⟩) (fun m hm=>hm) (fun b u e=>?_) I.bare
 ·have e:b=a:=by simpa using hb
  subst e
  exact ⟨f3,f1,f4,f5⟩
 ·rw [kf (fun z=>hb (by simp [z]))];exact n
 ·by_cases hb:b=a
  ·subst hb;rw [q5] at e;cases e;exact new
  ·rw [kf hb] at e
   exact (I.hok b u e).stay (fun c v _ q=>q) (fun c q=>by rw [kf (ne c _ q)];exact q) fun c xs q=>by rw [kf (ne c _ q)];exact q
def PF (X:Cx) (ifs:List Expr) (t:TT):Prop :=
 ∀ (pins:List (Addr×Obj)) (s:Shared) (σ:St) (H:Hp) (Q:Bool->Hp->Prop),Inv X pins σ H s->t σ H Q ->
  wpAny (model X.prog X.w) X.A (forIn ifs true fun c r=>if r=true then do let ok <- isTrue c X.env (eval c X.env);pure (ForInStep.yield ok) else pure (ForInStep.yield r)) (TP X pins σ Q) X.xe s
theorem rg {X:Cx}:PF X [] (fun _ H Q=>Q true H):=fun _ _ _ H _ I h=>wpAny_tests_nil ⟨H,I,h⟩
theorem LG {X:Cx} {c:Expr} {t:TT} (h:PT X c t):PF X [c] t:=fun pins s σ H Q I hw=>wpAny_tests_one (h pins s σ H Q I hw)
theorem PN {prog:Program} {w:World} {A:Around} {R:Result->Shared->Prop} {s:Shared} {elt target iter:Expr} {ifs:List Expr} {scope:Scope} {pos:Pos} {it acc:Value} {env:Env} (I:Nat->Shared->Prop)
  (turn:∀ n s,I n s->wpAny (model prog w) A (pyNext it) (fun r s₁=>match r with
   | none=>R (.ok .next) s₁
   | some v=>wpAny (model prog w) A (letOwnedTupleGo target it v) (fun _ s₁'=>wpAny (model prog w) A (assign target env v) (fun _ s₂ =>
     wpAny (model prog w) A (forIn ifs true fun c r=>if r=true then do let ok <- isTrue c env (eval c env);pure (ForInStep.yield ok) else pure (ForInStep.yield r)) (fun ok s₃ =>
      if ok=true then wpAny (model prog w) A (eval elt env) (fun x s₄ =>
       wpAny (model prog w) A (call (.builtin "list.append") [acc,x]) (fun _ s₅=>∃ m,m < n/\I m s₅) (fun _ _=>False) s₄) (fun _ _=>False) s₃
      else ∃ m,m < n/\I m s₃) (fun _ _=>False) s₂) (fun _ _=>False) s₁') (fun _ _=>False) s₁) (fun _ _=>False) s)
  (n:Nat) (h:I n s) :
  codeAny (model prog w) A (.compLoop (.ListComp elt [⟨target,iter,ifs,0⟩] scope pos) 0 it acc env) R s:=by
 refine codeAny_loop rfl I (fun n s hI=>?_) n h
 show wpAny _ A ((compTurn (.ListComp elt [⟨target,iter,ifs,0⟩] scope pos) 0 it acc env).onRaise (fun x=>do noteFrame x env;theTreesLotGoes x)) _ _ s
 refine wpAny_noted ?_
 rw [compTurn_list]
 refine wpAny_bind (wpAny_standAt (wpAny_bind (wpAny_mono (turn n s hI) (fun r s₁ h₁=>?_) fun _ _ h'=>h'.elim)))
 cases r with
 | none=>exact wpAny_pure h₁
 | some v =>
  refine wpAny_bind (wpAny_mono h₁ (fun _ s₁' h₁'=>?_) fun _ _ h'=>h'.elim)
  refine wpAny_bind (wpAny_mono h₁' (fun _ s₂ h₂=>wpAny_bind (wpAny_mono h₂ (fun ok s₃ h₃=>?_) fun _ _ h'=>h'.elim)) fun _ _ h'=>h'.elim)
  cases ok with
  | false=>exact wpAny_pure ⟨rfl,h₃⟩
  | true =>
   exact wpAny_bind (wpAny_bind (wpAny_mono h₃ (fun x s₄ h₄=>wpAny_bind (wpAny_mono h₄ (fun _ s₅ h₅=>wpAny_pure (wpAny_pure ⟨rfl,h₅⟩)) fun _ _ h'=>h'.elim)) fun _ _ h'=>h'.elim))
def xK (J:It) (n:Nat) (js:List Nat) (g:TG) (tc:TT) (te:TE) (σ:St) (H1:Hp) (Q:VK):Prop :=
 ∃ W:Nat->Nat->List V->St->Hp->Prop,(∃ m,W 0 m [] (jO n js σ) H1)/\∀ i m ys σ' H',W i m ys σ' H' ->
  ys.length < sizeLine/\((J.stop i H'/\∀ p,H' p=none->Q (.ref p) (upd H' p (.lst ys))) \/
   (J.go i H'/\∀ x H2,J.uf i H' x H2->g x σ' H2 fun σ2 H3=>tc σ2 H3 fun b H4=>if b=true then te σ2 H4 fun y H5=>∃ m',m' < m/\W (i + 1) m' (ys ++ [y]) σ2 H5 else ∃ m',m' < m/\W (i + 1) m' ys σ2 H4))
def rX (wi:TI) (n:Nat) (js:List Nat) (g:TG) (tc:TT) (te:TE):TE:=fun σ H Q=>wi σ H fun J H1=>xK J n js g tc te σ H1 Q
section
variable {X:Cx} {pins:List (Addr×Obj)} {σ:St} {tg iter elt:Expr} {ifs:List Expr} {scope:Scope} {pos:Pos} {own fr:List Str} {js:List Nat} {g:TG} {tc:TT} {te:TE} {wi:TI}
theorem LH {H2:Hp} {s2:Shared} {it:Addr} {fp:List Addr} {tn:Nat->Heap->Prop} {J:It} {Q:VK} {E:Value->Shared->Prop} {cl:List (Str×Addr)} {RR:Value->Addr->Result->Shared->Prop}
  (hc:X.calm=true) (S:fZ X scope own fr js) (hg:∀ cells C fp s H,PG (aS X (own ++ fr) scope cells C fp s H) tg g) (hf:∀ cells C fp s H,PF (aS X (own ++ fr) scope cells C fp s H) ifs tc) (he:∀ cells C fp s H,PE (aS X (own ++ fr) scope cells C fp s H) elt te)
  (I2:Inv X pins σ H2 s2) (T:Turn X.prog X.w X.K tg J fp it tn) (st2:tn 0 s2.heap) (f2:∀ b∈fp,mj X pins H2 b)
  (p3:∀ n c,(n,c)∈cl->X.env.cells.lookup n=some c/\(n,NameKind.free)∈scope.names) (rY:∀ n,(n,NameKind.free)∈scope.names->∃ c,(n,c)∈cl)
  (W:Nat->Nat->List V->St->Hp->Prop) (m0:Nat) (w0:W 0 m0 [] (jO own.length js σ) H2)
  (turn:∀ i m ys σ' H',W i m ys σ' H'->ys.length < sizeLine/\((J.stop i H'/\∀ p,H' p=none->Q (.ref p) (upd H' p (.lst ys))) \/
   (J.go i H'/\∀ x H2,J.uf i H' x H2->g x σ' H2 fun σ2 H3=>tc σ2 H3 fun b H4=>if b=true then te σ2 H4 fun y H5=>∃ m',m' < m/\W (i + 1) m' (ys ++ [y]) σ2 H5 else ∃ m',m' < m/\W (i + 1) m' ys σ2 H4)))
  (fin:∀ (acc C:Addr) (H':Hp) (s':Shared) (v:V),v=.ref acc->Inv X pins σ H' s'->mj X pins H' C->(∃ m,s'.heap.Ns C m)->Q v H'->RR (.ref acc) C (.ok .next) s') :
  wpAny (model X.prog X.w) X.A (newList []) (fun acc s3=>wpAny (model X.prog X.w) X.A (newFunctionEnv scope X.env.globals cl [] X.env.qual none .none (some X.env)) (fun cenv s4 =>
   codeAny (model X.prog X.w) X.A (.compStart (.ListComp elt [⟨tg,iter,ifs,0⟩] scope pos) 0 (.ref it) acc { cenv with scope:=relabel scope X.env }) (RR acc cenv.locals) s4) E s3) E s2:=by
 refine wpAny_newObj_type ?_
 refine PL fun h4 hns LI oI=>?_
 have hA:s2.heap.objs.size < (s2.heap.push { cls:=.type "list",data:=.seq ([]:List Value).toArray }).objs.size:=by rw [Heap.size_push];exact Xm _
 generalize hC:(s2.heap.push { cls:=.type "list",data:=.seq ([]:List Value).toArray }).objs.size=C at hns oI hA ⊢
 generalize hac:s2.heap.objs.size=acc at hA ⊢
 have Il:acc≠C:=Xb hA
 have old:∀ b o,s2.heap.get? b=some o->h4.get? b=some o:=fun b o e=>LI b o (WM _ e)
 have hacc:h4.get? acc=some { cls:=.type "list",data:=.seq ([]:List Value).toArray }:=LI _ _ (by rw [<- hac];exact WV _ rfl)
 have Im:∀ x c,(x,c)∈cellsFrom (C + 1) scope.names []->h4.IsCell c none/\C + 1<=c/\scope.names.lookup x=some .cell:=fun x c h=>⟨(oI.empty x c h).1,(oI.empty x c h).2,BQ S.Af (Ii _ _ h).1⟩
 have lk:∀ x c,(cellsFrom (C + 1) scope.names cl).lookup x=some c->(h4.IsCell c none/\C + 1<=c/\(x,c)∈cellsFrom (C + 1) scope.names [])\/(X.env.cells.lookup x=some c/\scope.names.lookup x=some .free):=fun x c h=>by
  rw [BP] at h
  rcases WX.mp (PySem.mem_of_lookup h) with q | q
  ·exact .inl ⟨(Im x c q).1,(Im x c q).2.1,q⟩
  ·exact .inr ⟨(p3 x c q).1,BQ S.Af (p3 x c q).2⟩
 have Io:∀ x c,X.env.cells.lookup x=some c->c < s2.heap.objs.size:=fun x c h=>by
  obtain ⟨v,z⟩:=I2.cell x c h
  exact z.lt
 have qo:∀ x c,(cellsFrom (C + 1) scope.names cl).lookup x=some c->c≠C/\c≠acc/\H2 c=none/\∀ b∈fp,c≠b:=fun x c h=>by
  rcases lk x c h with ⟨_,h1,_⟩ | ⟨h1,_⟩
  ·refine ⟨LD (by omega),LD (by omega),I2.hok.fresh (by omega),fun b hb z=>?_⟩
   obtain ⟨o,e,_⟩:=T.obj 0 _ st2 b hb
   have:=ltN (WU e)
   rw [<- z] at this
   omega
  ·have:=ltN (Io x c h1)
   exact ⟨xa (by omega),xa (by omega),I2.kM x c h1,fun b hb=>(f2 b hb).2.2.2.2.1 x c h1⟩
 have BS:∀ x,scope.names.lookup x=some .free->∃ c,X.env.cells.lookup x=some c/\(cellsFrom (C + 1) scope.names cl).lookup x=some c:=fun x h=>by
  obtain ⟨c,LJ⟩:=rY x (PySem.mem_of_lookup h)
  have hc1:=(p3 x c LJ).1
  have hs:((cellsFrom (C + 1) scope.names cl).lookup x).isSome=true:=by
   refine PySem.W.cellsFrom_some scope.names (C + 1) cl (.inr ?_)
   cases q:cl.lookup x with
   | some d=>rfl
   | none =>
    exfalso
    have:∀ {l:List (Str×Addr)},(x,c)∈l->l.lookup x≠none:=by
     intro l
     induction l with
     | nil=>intro h;exact nomatch h
     | cons p r ih =>
      intro h z
      obtain ⟨k,v⟩:=p
      rw [List.lookup_cons] at z
      cases hb:x == k with
      | true=>rw [hb] at z;cases z
      | false =>
       rw [hb] at z
       rcases W0.mp h with e | h
       ·cases e;simp at hb
       ·exact ih h z
    exact this LJ q
  obtain ⟨d,hd⟩:=Option.isSome_iff_exists.mp hs
  rcases lk x d hd with ⟨_,_,h2⟩ | ⟨h1,_⟩
  ·have:=(Im x d h2).2.2
   rw [h] at this;cases this
  ·rw [hc1] at h1;cases h1
   exact ⟨c,hc1,hd⟩
 have E9:∀ b∈fp,b≠C/\b≠acc:=fun b hb=>by
  obtain ⟨o,e,_⟩:=T.obj 0 _ st2 b hb
  have:=ltN (WU e)
  exact ⟨xa (by omega),xa (by omega)⟩
 have PQ:(relabel scope X.env).kind=.function:=S.kind
 have ok:(aS X (own ++ fr) scope (cellsFrom (C + 1) scope.names cl) C fp s2 H2).Ok:=by
  refine ⟨I2.ok.mod,PQ,I2.ok.glob,I2.ok.blt,?_,fun x y c h1 h2=>?_,fun x hx=>?_,fun x c hx h=>?_,I2.ok.hd,I2.ok.frames,.inl rfl,fun b hb=>⟨(E9 b hb).1,fun x c h=>(qo x c h).2.2.2 b hb⟩,I2.bs,WO I2.ok.uU I2.sz,fun b o e hb=>?_,fun b hb z=>?_,I2.stack,I2.qf⟩
  ·show s2.heap.objs.size<=C
   omega
  ·rcases lk x c h1 with ⟨_,q1,q2⟩ | ⟨q1,_⟩
   ·rcases lk y c h2 with ⟨_,r1,r2⟩ | ⟨r1,_⟩
    ·exact name_of_addr oI.apart q2 r2
    ·have:=ltN (Io y c r1);omega
   ·rcases lk y c h2 with ⟨_,r1,r2⟩ | ⟨r1,_⟩
    ·have:=ltN (Io x c q1);omega
    ·exact I2.ok.inj x y c q1 r1
  ·have hx':(relabel scope X.env).names.lookup x=some .cell\/(relabel scope X.env).names.lookup x=some .free:=hx
   rcases LF scope X.env x with ⟨e,_⟩ | ⟨k,e1,e2⟩
   ·rcases hx' with z | z <;> (rw [e] at z;cases z)
   ·by_cases hk:k=.free
    ·subst hk
     obtain ⟨c,_,h⟩:=BS x e1
     exact ⟨c,h⟩
    ·have hk':k=.cell:=by
      have hb:(k == NameKind.free)=false:=beq_eq_false_iff_ne.mpr hk
      rw [hb] at e2
      simp only [Bool.false_and,Xz,if_false] at e2
      rcases hx' with z | z
      ·rw [e2] at z;exact WJ z
      ·rw [e2] at z;exact absurd (WJ z) hk
     subst hk'
     exact Option.isSome_iff_exists.mp (PySem.W.cellsFrom_some scope.names (C + 1) cl (.inl e1))
  ·have hx':scope.names.lookup x=some .cell:=of_decide_eq_true hx
   show s2.heap.objs.size<=c
   rcases lk x c h with ⟨_,q,_⟩ | ⟨_,q⟩
   ·omega
   ·rw [hx'] at q;cases q
  ·rcases (f2 b hb).2.2.2.1 with z | z
   ·exact I2.ok.rD b o e z
   ·have h1:@LT.lt Nat _ b X.base.objs.size:=WU e
    have h2:=I2.ok.uU
    omega
  ·rcases W0.mp (I2.nD b z) with e | e
   ·exact (f2 b hb).2.1 e
   ·exact (f2 b hb).2.2.1 e
 have I4:Inv (aS X (own ++ fr) scope (cellsFrom (C + 1) scope.names cl) C fp s2 H2) [(acc,{ cls:=.type "list",data:=.seq ([]:List Value).toArray })] (jO own.length js σ) H2 { s2 with heap:=h4 }:=by
  refine ⟨ok,rfl,I2.bare,Un.kept old,⟨_,hns,fun i x v e1 e2 e3=>?_⟩,fun x c h=>?_,I2.hok.fresh (by show s2.heap.objs.size<=C;omega),fun x c h=>(qo x c h).2.2.1,fun p hp=>?_,I2.hok.kept old,?_⟩
  ·have Ag:(own ++ fr)[i]?=some x:=e1
   unfold jO at e2
   by_cases hi:i < own.length
   ·rw [WI (by simpa using hi),List.getElem?_replicate] at e2
    split at e2 <;> cases e2
   ·rw [WT (by simpa using hi),List.length_replicate,WB] at e2
    rw [WT (by omega)] at Ag
    cases hj:js[i - own.length]? with
    | none=>rw [hj] at e2;cases e2
    | some j =>
     rw [hj] at e2
     have BU:σ.getD j none=some v:=WJ e2
     have hN:X.N[j]?=some x:=by
      have q:=congrArg (fun l=>l[i - own.length]?) S.ix
      simp only [WB,hj,Ag,Option.map_some] at q
      exact WJ q
     have hσ:σ[j]?=some (some v):=by
      rw [WN] at BU
      cases q:σ[j]? with
      | none=>rw [q] at BU;cases BU
      | some o=>rw [q] at BU;exact congrArg some BU
     have hfr:scope.names.lookup x=some .free:=S.Ik x (WG Ag)
     have hk:=S.free _ (PySem.mem_of_lookup hfr) rfl
     obtain ⟨m,_,hl⟩:=I2.loc
     obtain ⟨u,ru,lo⟩:=hl j x v hN hσ (by rcases hk with k | k;exact .inr (.inl k);exact .inr (.inr k))
     refine ⟨u,ru,.inr ⟨?_,?_⟩⟩
     ·rcases LF scope X.env x with ⟨_,e⟩ | ⟨k,q1,q2⟩
      ·rw [hfr] at e;cases e
      ·rw [hfr] at q1;cases q1
       have PR:(compEnvC scope (cellsFrom (C + 1) scope.names cl) C X.env).kindOf x=some (if (NameKind.free == .free && X.env.scope.kind == .function && X.env.kindOf x == some .cell)=true then .cell else .free):=q2
       rw [show (aS X (own ++ fr) scope (cellsFrom (C + 1) scope.names cl) C fp s2 H2).env.kindOf x=_ from PR]
       split
       ·exact .inl rfl
       ·exact .inr rfl
     ·rcases lo with ⟨k,_⟩ | ⟨_,c,hc1,hc2⟩
      ·rcases hk with k' | k' <;> (rw [k] at k';cases k')
      ·obtain ⟨d,hd1,hd2⟩:=BS x hfr
       rw [hc1] at hd1;cases hd1
       exact ⟨c,hd2,hc2.keeps old⟩
  ·rcases lk x c h with ⟨q,_,_⟩ | ⟨q,_⟩
   ·exact ⟨_,q⟩
   ·obtain ⟨v,z⟩:=I2.cell x c q
    exact ⟨v,z.keeps old⟩
  ·have e:p=(acc,{ cls:=.type "list",data:=.seq ([]:List Value).toArray }):=by simpa [aS] using hp
   subst e
   refine ⟨hacc,I2.hok.fresh (by omega),Il,fun z=>?_,fun v z=>nomatch z⟩
   rcases W0.mp (I2.nD acc z) with e | e
   ·have:=ltN I2.lt
    rw [<- e] at this
    omega
   ·exact I2.A8 (by omega) e
  ·show (jO own.length js σ).length=(own ++ fr).length
   have q:=congrArg List.length S.ix
   simp only [Wv] at q
   unfold jO
   rw [Wz,List.length_replicate,Wv,Wz,q]
 have Ip:∀ {H':Hp} {ob:Obj},(∀ b∈fp,H' b=none)->∀ b∈fp,mj (aS X (own ++ fr) scope (cellsFrom (C + 1) scope.names cl) C fp s2 H2) [(acc,ob)] H' b:=fun {H' ob} hn b hb =>
  ⟨hn b hb,(E9 b hb).1,fun z=>by
   rcases W0.mp (I2.nD b z) with e | e
   ·exact (f2 b hb).2.1 e
   ·exact (f2 b hb).2.2.1 e,.inl hb,fun x c h=>(qo x c h).2.2.2 b hb,fun p hp=>by
   have e:p=(acc,ob):=by simpa [aS] using hp
   subst e
   exact fun z=>(E9 b hb).2 z.symm⟩
 have loop:codeAny (model X.prog X.w) X.A (.compLoop (.ListComp elt [⟨tg,iter,ifs,0⟩] scope pos) 0 (.ref it) (.ref acc) (compEnvC scope (cellsFrom (C + 1) scope.names cl) C X.env)) (RR (.ref acc) C) { s2 with heap:=h4 }:=by
  refine PN (fun m s'=>∃ (i:Nat) (ys:List V) (its:List Value) (n:Nat) (σ':St) (H':Hp),Inv (aS X (own ++ fr) scope (cellsFrom (C + 1) scope.names cl) C fp s2 H2) [(acc,{ cls:=.type "list",data:=.seq its.toArray n })] σ' H' s'/\Vals ys its/\tn i s'.heap/\(∀ b∈fp,H' b=none)/\W i m ys σ' H') ?_ m0
   ⟨0,[],[],0,_,H2,I4,.nil,T.keep _ _ _ st2 fun b _ o e=>old b o e,fun b hb=>(f2 b hb).1,w0⟩
  rintro n s5 ⟨i,ys,its,en,σ5,H5,I5,rv,kN,E1,w5⟩
  obtain ⟨hz,alt⟩:=turn i n ys σ5 H5 w5
  rcases alt with ⟨stop,qn⟩ | ⟨go,step⟩
  ·refine cQ (T.done (aS X (own ++ fr) scope (cellsFrom (C + 1) scope.names cl) C fp s2 H2) rfl rfl rfl hc i _ s5 σ5 H5 _ I5 (Ip E1) kN stop) fun r s6 ⟨hr,I6⟩=>?_
   subst hr
   show RR (.ref acc) C (.ok .next) s6
   have u:Un (frs X.stack) fp H2 H5 s2.heap s6.heap:=I6.base
   have J6:Inv X pins σ H5 s6:=I2.Bb I6.os u I6.hok I6.bare fun b hb=>⟨(f2 b hb).2.2.2.1,(f2 b hb).2.1,(f2 b hb).2.2.2.2.1,(f2 b hb).2.2.2.2.2⟩
   have pacc:=I6.pin (acc,_) (W7 _ WA)
   have Iq:mj X pins H5 acc:=I2.pY (by omega) pacc.2.1
   have fC:mj X pins H5 C:=I2.pY (by omega) I6.free
   have K6:Inv X pins σ (upd H5 acc (.lst ys)) s6:=J6.BR Iq ⟨Nat.le_of_lt hz,its,en,rv,pacc.1⟩
   obtain ⟨m,hm,_⟩:=I6.loc
   exact fin acc C _ s6 (.ref acc) rfl K6 ⟨by rw [kf Il.symm];exact fC.1,fC.2⟩ ⟨m,hm⟩ (qn acc pacc.2.1)
  ·refine cQ (T.item (aS X (own ++ fr) scope (cellsFrom (C + 1) scope.names cl) C fp s2 H2) rfl rfl rfl hc i _ s5 σ5 H5 _ I5 (Ip E1) kN go) fun r s6 ⟨u,hr,h6⟩=>?_
   subst hr
   refine cQ h6 fun _ s7 ⟨x,H7,I7,r7,y7,qO,PU⟩=>?_
   have PV:=I7.pinned (Ip PU) (T.obj _ _ qO)
   refine cQ (hg _ _ _ _ _ _ s7 σ5 H7 x u _ PV r7 (step x H7 y7)) fun _ s8 ⟨σ8,H8,I8,q8⟩=>?_
   refine cQ (hf _ _ _ _ _ _ s8 σ8 H8 _ I8 q8) fun b s9 ⟨H9,I9,q9⟩=>?_
   have Fb:∀ {s':Shared} {σ':St} {H':Hp},Inv (aS X (own ++ fr) scope (cellsFrom (C + 1) scope.names cl) C fp s2 H2) ([(acc,{ cls:=.type "list",data:=.seq its.toArray en })] ++ nE fp s7.heap) σ' H' s'->tn (i + 1) s'.heap/\∀ b∈fp,H' b=none:=fun {s' σ' H'} I' =>
    ⟨T.keep _ _ _ qO fun b hb o e=>(I'.pin (b,o) (W7 _ (W7 _ (EZ hb e)))).1,fun b hb=>by
     obtain ⟨o,e,d⟩:=T.obj _ _ qO b hb
     exact (I'.pin (b,o) (W7 _ (W7 _ (EZ hb e)))).2.1⟩
   cases b with
   | false =>
    obtain ⟨m',hm,w9⟩:=q9
    exact ⟨m',hm,i + 1,ys,its,en,σ8,H9,I9.lL,rv,(Fb I9).1,(Fb I9).2,w9⟩
   | true =>
    refine cQ (he _ _ _ _ _ _ s9 σ8 H9 _ I9 q9) fun y Ir ⟨yv,Iu,Fc,PX,m',hm,PY⟩=>?_
    have pacc:=Fc.pin (acc,_) (W7 _ (List.mem_append_left _ WA))
    have hlen:=rv.length
    refine wpAny_list_append_plain (items:=its.toArray) ⟨en,pacc.1⟩ (fun h11 ⟨LK,Iv⟩ BV=>?_) (by simp only [WL];omega)
    have cA:∀ x c,(cellsFrom (C + 1) scope.names cl).lookup x=some c->c≠acc:=fun x c h=>(qo x c h).2.1
    have Ia:Inv (aS X (own ++ fr) scope (cellsFrom (C + 1) scope.names cl) C fp s2 H2) [] σ8 Iu Ir:=Fc.nc fun p hp=>nomatch hp
    have Ib:Inv (aS X (own ++ fr) scope (cellsFrom (C + 1) scope.names cl) C fp s2 H2) [] σ8 Iu { Ir with heap:=h11 }:=Ia.turned (it:=acc) (t':=Ir.toks) (fun b o hb e=>(BV.2 b hb).trans e) pacc.2.1 Il (.inr (by show s2.heap.objs.size<=acc;omega)) cA fun p hp=>nomatch (show p∈([]:List (Addr×Obj)) from by simpa [aS] using hp)
    refine ⟨m',hm,i + 1,ys ++ [yv],its ++ [y],LK,σ8,Iu,Ib.nc fun p hp=>?_,rv.append (.cons PX .nil),T.keep _ _ _ (Fb Fc).1 fun b hb o e=>(BV.2 b (E9 b hb).2).trans e,(Fb Fc).2,PY⟩
    have e:p=(acc,{ cls:=.type "list",data:=.seq (its ++ [y]).toArray LK }):=by simpa using hp
    subst e
    exact ⟨by simpa using Iv,pacc.2.1,pacc.2.2.1,pacc.2.2.2.1,fun v z=>nomatch z⟩
 exact codeAny_compStart_list loop (T.self X.A 0 _ _ _ (T.keep _ _ _ st2 fun b _ o e=>old b o e) loop)
theorem rh (hc:X.calm=true) (S:fZ X scope own fr js) (hi:PI X tg iter wi) (hg:∀ cells C fp s H,PG (aS X (own ++ fr) scope cells C fp s H) tg g) (hf:∀ cells C fp s H,PF (aS X (own ++ fr) scope cells C fp s H) ifs tc) (he:∀ cells C fp s H,PE (aS X (own ++ fr) scope cells C fp s H) elt te)
  (hs:∀ x,foldedSetIterable iter X.env x=pure x:=by intro _;rfl):PE X (.ListComp elt [⟨tg,iter,ifs,0⟩] scope pos) (rX wi own.length js g tc te):=by
 intro pins s σ H Q I h
 obtain ⟨cl,hcl,p3,rY⟩:=LC (scope:=scope) (env:=X.env) fun y hy hk=>I.ok.has y.1 (S.free y hy hk)
 rw [eval_ListComp]
 refine wpAny_comprehension_free (use:=none) rfl hs hcl S.kind (fun y hy hk=>by rw [<- hk];exact BQ S.Af hy) (cQ (hi pins s σ H _ I h) fun v s1 h1=>cQ h1 fun itv s2 h2=>?_)
 obtain ⟨it,fp,tn,J,H2,e,I2,T,st2,f2,W,⟨m0,w0⟩,turn⟩:=h2
 subst e
 refine LH (RR:=fun acc C=>compPost (model X.prog X.w) X.A X.xe none (EP X pins σ Q) acc C) hc S hg hf he I2 T st2 f2 p3 rY W m0 w0 turn ?_
 intro acc C H' s' v hv I' fC ⟨m,hm⟩ q
 subst hv
 obtain ⟨f0,f1,PZ,f3,f4,f5⟩:=fC
 exact ⟨m,hm,fun h'' xM=>⟨.ref acc,H',I'.turned (it:=C) (t':=s'.toks) (fun b o hb e=>(xM.2 b hb).trans e) f0 f1 f3 f4 f5,rfl,q⟩⟩
theorem LL {i:Nat} {x:Str} {pos' spos:Pos} (hc:X.calm=true) (hN:X.N.Nodup) (hx:X.N[i]?=some x) (hl:X.env.scope.names.lookup x=some .local) (S:fZ X scope own fr js) (hi:PI X tg iter wi) (hg:∀ cells C fp s H,PG (aS X (own ++ fr) scope cells C fp s H) tg g) (hf:∀ cells C fp s H,PF (aS X (own ++ fr) scope cells C fp s H) ifs tc) (he:∀ cells C fp s H,PE (aS X (own ++ fr) scope cells C fp s H) elt te)
  (hsw:swapsWith (.ListComp elt [⟨tg,iter,ifs,0⟩] scope pos) (some (.Name x pos')) spos.line X.env=pure true:=by rfl)
  (hs:∀ x,foldedSetIterable iter X.env x=pure x:=by intro _;rfl):PS X (.Assign [.Name x pos'] (.ListComp elt [⟨tg,iter,ifs,0⟩] scope pos) spos) (uc (rX wi own.length js g tc te) (pe i)):=by
 intro pins s σ H D I h
 obtain ⟨cl,hcl,p3,rY⟩:=LC (scope:=scope) (env:=X.env) fun y hy hk=>I.ok.has y.1 (S.free y hy hk)
 rw [exec_Assign_Name_used _ _ _ _ hsw]
 refine wpAny_bind (wpAny_standAt (wpAny_bind ?_))
 show wpAny _ X.A (do let _ <- comprehension (.ListComp elt [⟨tg,iter,ifs,0⟩] scope pos) scope X.env _ (newList []) false (eval iter X.env) (some (assign (.Name x pos') X.env))) _ _ s
 refine wpAny_bind (wpAny_mono (wpAny_comprehension_free (use:=some (assign (.Name x pos') X.env)) (Q:=fun _ s'=>SP X pins D .next s') rfl hs hcl S.kind (fun y hy hk=>by rw [<- hk];exact BQ S.Af hy)
  (cQ (hi pins s σ H _ I h) fun v s1 h1=>cQ h1 fun itv s2 h2=>?_)) (fun _ s' hq=>wpAny_pure (wpAny_pure hq)) fun _ _ e=>e)
 obtain ⟨it,fp,tn,J,H2,e,I2,T,st2,f2,W,⟨m0,w0⟩,turn⟩:=h2
 subst e
 refine LH (Q:=fun v H'=>pe i v σ H' D.nx) (RR:=fun acc C=>compPost (model X.prog X.w) X.A X.xe (some (assign (.Name x pos') X.env)) (fun _ s'=>SP X pins D .next s') acc C) hc S hg hf he I2 T st2 f2 p3 rY W m0 w0 turn ?_
 intro acc C H' s' v hv I' fC ⟨m,hm⟩ q
 subst hv
 obtain ⟨f0,f1,PZ,f3,f4,f5⟩:=fC
 show wpAny _ X.A (assign (.Name x pos') X.env (.ref acc)) _ _ _
 refine wpAny_assign_Name (KC I' hN hx (.inl hl) (show RelV (.ref acc) (.ref acc) from rfl) (fun s'' P0 ⟨a,hs1,ha⟩=>?_) (.inr hl))
 have haC:a≠C:=by
  rcases ha with e | e
  ·rw [e];exact f1.symm
  ·exact f4 _ _ e
 exact ⟨m,hm.sameBut hs1 haC.symm,fun h'' xM=>⟨_,H',P0.turned (it:=C) (t':=s''.toks) (fun b o hb e=>(xM.2 b hb).trans e) f0 f1 f3 f4 f5,q⟩⟩
end
section
variable {X:Cx}
end
section
variable {prog:Program} {w:World} {A:Around} {E:Value->Shared->Prop} {s:Shared}
end
section
variable {X:Cx}
end
mutual
def wD:PyData->Nat
 | .none=>4
 | .bool _=>5
 | .int _=>1921
 | .str x=>(reprText x).length
 | .list _=>0
 | .tuple xs=>BW xs + 3
 | .dict _=>0
def BW:List PyData->Nat
 | []=>0
 | x :: xs=>wD x + 2 + BW xs
end
section
variable {K:Zfr} {ch:List Addr} {H H':Hp}
end
def kT (ns:List Int):PyData:=.tuple (cV ns)
theorem Iw:∀ (rs:List (List Int)),PyData.canLayAll0 (rs.map kT)=true
 | []=>rfl
 | r :: rs=>by
  show (PyData.canLayAll0 (cV r) && PyData.canLayAll0 (rs.map kT))=true
  rw [xI,Iw rs];rfl
theorem LM:∀ (rs:List (List Int)),PyData.depthAll (rs.map kT)<=1
 | []=>W8 _
 | r :: rs=>by
  show max (PyData.depthAll (cV r) + 1) (PyData.depthAll (rs.map kT))<=1
  have:=LM rs
  rw [Ad];omega
def Iy (i:Int):Prop:=-1000000000000000000<=i/\i<=1000000000000000000
end L2
namespace L2
open PySem PySem.Spec PyProof.Rows
section
variable {X:Cx} {K:Zfr}
theorem tH (hK:X.K=K):BA X (xw K):=by subst hK;exact mN
theorem Ah (hK:X.K=K):BA X (xx K):=by subst hK;exact cg
theorem LN (hK:X.K=K):kR X (compareOp .NotIn) (HP K true):=by subst hK;exact E3
theorem P1 (hK:X.K=K):fV X (.type "tuple") (fun xs H Q=>∃ p ys,xs=[V.ref p]/\((jy K H p ys/\∀ l,H l=none->Q (.ref l) (upd H l (.tup ys)))\/(fj K H p ys/\Q (.ref p) H))):=by subst hK;exact oe
theorem P4 {tg l:Expr} {tl:TE} (hK:X.K=K) (hl:PE X l tl):PI X tg l (rH K tl):=by subst hK;exact HD hl
end
section
variable {prog:Program} {w:World} {A:Around} {E:Value->Shared->Prop} {s:Shared}
theorem P5 {j t:Addr} {i:Nat} {ys:Array Value} {y:Value} {Q:Value->Shared->Prop} (hj:s.heap.IsTupleIter j t i) (ht:s.heap.IsTuple t ys) (hy:ys[i]?=some y)
  (hQ:∀ h',h'.IsTupleIter j t (i + 1)->Heap.SameBut j s.heap h'->Q y { s with heap:=h' }):wpAny (model prog w) A (Builtin.SmallTypes.nextOf (.ref j)) Q E s:=by
 obtain ⟨r,hr,rc,rd⟩:=id hj
 obtain ⟨q,hq,_,nq,dq⟩:=ht
 unfold Builtin.SmallTypes.nextOf
 refine wpAny_bind (wpAny_callSpecial?_slot (name:=Str.ofString "__next__") hj.typeIs F.slot_tuple_iterator_next (wpAny_call_entry F.slot_tuple_iterator_next hj.typeIs F.entry_tuple_iterator_next ?_ (F.args_tuple_iterator_next_1 _)))
 show wpAny _ _ (PySem.field (.ref j) 0 >>= _) _ _ s
 refine wpAny_bind (wpAny_field hr rd (x:=.ref t) rfl ?_);show wpAny _ _ (if (Value.ref t == Value.none)=true then _ else _) _ _ s
 rw [if_neg (fun z:(Value.ref t == Value.none)=true=>WD z)];show wpAny _ _ (PySem.field (.ref j) 1 >>= _) _ _ s
 refine wpAny_bind (wpAny_field hr rd (x:=.int i 0) rfl ?_);show wpAny _ _ (seqItems? (.ref t) >>= _) _ _ s
 refine wpAny_bind (wpAny_seqItems hq dq ?_);simp only [WH,hy]
 refine wpAny_bind (wpAny_setField hr rd (by simp) (wpAny_pure ⟨y,rfl,wpAny_pure (hQ _ ⟨_,Heap.get?_update_self _ hr (Obj.isFreed_of_fields (Obj.data_mapFields rd _)),(Obj.cls_mapFields ..).trans rc,by rw [Obj.data_mapFields rd];simp [rawInt]⟩ (Heap.SameBut.update ..))⟩))
theorem P6 {j t:Addr} {i:Nat} {ys:Array Value} {Q:Value->Shared->Prop} (hh:A.handled=none) (hj:s.heap.IsTupleIter j t i) (ht:s.heap.IsTuple t ys) (hy:ys[i]?=none)
  (hE:∀ h' e,Heap.ExtBut j s.heap h'->(∃ o,h'.get? e=some o/\o.cls=.type "StopIteration")->E (.ref e) { s with heap:=h' }):wpAny (model prog w) A (Builtin.SmallTypes.nextOf (.ref j)) Q E s:=by
 obtain ⟨r,hr,rc,rd⟩:=id hj
 obtain ⟨q,hq,_,nq,dq⟩:=ht
 unfold Builtin.SmallTypes.nextOf
 refine wpAny_bind (wpAny_callSpecial?_slot (name:=Str.ofString "__next__") hj.typeIs F.slot_tuple_iterator_next (wpAny_call_entry F.slot_tuple_iterator_next hj.typeIs F.entry_tuple_iterator_next ?_ (F.args_tuple_iterator_next_1 _)))
 show wpAny _ _ (PySem.field (.ref j) 0 >>= _) _ _ s
 refine wpAny_bind (wpAny_field hr rd (x:=.ref t) rfl ?_);show wpAny _ _ (if (Value.ref t == Value.none)=true then _ else _) _ _ s
 rw [if_neg (fun z:(Value.ref t == Value.none)=true=>WD z)];show wpAny _ _ (PySem.field (.ref j) 1 >>= _) _ _ s
 refine wpAny_bind (wpAny_field hr rd (x:=.int i 0) rfl ?_);show wpAny _ _ (seqItems? (.ref t) >>= _) _ _ s
 refine wpAny_bind (wpAny_seqItems hq dq ?_);simp only [WH,hy]
 refine wpAny_bind (wpAny_rule (wpAny_bind (wpAny_setField hr rd (by simp) ?_)));show wpAny _ _ (newExc (.type "StopIteration") [] >>= _) _ _ _
 refine wpAny_bind ?_;simp only [newExc,newTuple]
 refine wpAny_bind (wpAny_newObj_type ?_ (by size_fits));refine wpAny_bind (m:=firstArgMember _ _) (wpAny_of_eq (a:=Value.none) (by first | rfl | (simp only [firstArgMember];rfl)) ?_)
 refine wpAny_newObj_type ?_ (by size_fits);simp only [raiseNew]
 refine wpAny_bind (wpAny_handled ?_);first | rw [show A.in1.handled=none from hh] | rw [hh]
 exact wpAny_bind (wpAny_pure (wpAny_throw (hE _ _ (((Heap.SameBut.update ..).extBut.push _).push _) ⟨_,WV _ rfl,rfl⟩)))
end
theorem rZ {prog:Program} {w:World} {A:Around} (hh:A.handled=none) (j t:Addr) (hne:t≠j) (ys:Array Value) :
  Draws prog w A j [j,t] ys.size (fun i v=>ys[i]?=some v) (fun i h=>h.IsTupleIter j t i/\h.IsTuple t ys) where
 live:=fun _ _ st=>let ⟨o,ho,_⟩:=st.1;⟨o,ho⟩
 frame:=fun _ _ _ st k=>⟨st.1.at fun o e=>k j (by simp) o e,let ⟨o,e,r⟩:=st.2;⟨o,k t (by simp) o e,r⟩⟩
 item:=fun i s Q E hi st hQ=>P5 st.1 st.2 (y:=ys[i]) (by simp [hi]) fun h' a b=>hQ _ h' s.toks (by simp [hi]) ⟨a,st.2.extBut b.extBut hne⟩ b
 done:=fun s Q E st hE=>P6 hh st.1 st.2 (by simp) hE
theorem P7 (l:Addr) (items:Array Value) (n:Nat) (dct:Option Addr) (sl:Array (Option Value)) :
  Meets (Builtin.«enumerate.__new__» ⟨[.type "enumerate",.ref l],[]⟩) (fun _ R s=>s.heap.get? l=some { cls:=.type "tuple",dict:=dct,data:=.seq items n,slots:=sl } /\
   R (.ok (.ret (.ref (s.heap.push { cls:=.type "tuple_iterator",data:=.fields #[.ref l,.int 0 0] }).objs.size)))
    { s with heap:=(s.heap.push { cls:=.type "tuple_iterator",data:=.fields #[.ref l,.int 0 0] }).push { cls:=.type "enumerate",data:=.fields #[.none,.bool false,.ref s.heap.objs.size,rawInt 0,.none,.none] } }) :=
 .of_wp fun prog w A R s h=>by
  obtain ⟨hp,g,d,tk,os⟩:=s;obtain ⟨hl,h⟩:=h
  have hsub:=sub_enumerate
  have hL:Heap.IsTuple (Shared.heap ⟨hp,g,d,tk,os⟩) l items:=⟨_,hl,rfl,n,rfl⟩
  wp_walk using AutoSeq1.wpAny_loadPart' hl
  refine wpAny_stack_any fun st=>wpAny_pure ?_
  split
  ·rename_i c _ _ _ _ _
   cases (c == Value.type "enumerate") <;> (wp_walk using AutoSeq1.wpAny_loadPart' hl,wpAny_pyIter_tuple hL;exact ⟨_,rfl,h⟩)
  ·wp_walk using AutoSeq1.wpAny_loadPart' hl,wpAny_pyIter_tuple hL
   exact ⟨_,rfl,h⟩
section
variable {prog:Program} {w:World} {A:Around} {E:Value->Shared->Prop} {s:Shared}
theorem P8 {l:Addr} {ys:Array Value} {Q:Value->Shared->Prop} (ht:s.heap.IsTuple l ys)
  (h:∀ h',IsEnum h' (s.heap.objs.size + 1) s.heap.objs.size 0 .none->h'.IsTupleIter s.heap.objs.size l 0->h'.objs.size=s.heap.objs.size + 2 ->
   (∀ b o,s.heap.get? b=some o->h'.get? b=some o)->Q (.ref (s.heap.objs.size + 1)) { s with heap:=h' }):wpAny (model prog w) A (call (.type "enumerate") [.ref l]) Q E s:=by
 obtain ⟨⟨c,dct,dt,sl⟩,hl,hc,n,hd⟩:=ht
 cases (show c=.type "tuple" from hc)
 cases (show dt=.seq ys n from hd)
 refine callType_new F.called_enumerate (by decide) (F.typeCall_enumerate_1 _) (F.newCall_enumerate_1 _) (fun obj=>F.args_object_init_2 obj _) F.entry_enumerate_new (P7 l ys n dct sl) ⟨hl,?_⟩
 have z:(s.heap.push { cls:=.type "tuple_iterator",data:=.fields #[.ref l,.int 0 0] }).objs.size=s.heap.objs.size + 1:=Heap.size_push ..
 show _/\_;rw [z]
 have en:IsEnum ((s.heap.push { cls:=.type "tuple_iterator",data:=.fields #[.ref l,.int 0 0] }).push { cls:=.type "enumerate",data:=.fields #[.none,.bool false,.ref s.heap.objs.size,rawInt 0,.none,.none] }) (s.heap.objs.size + 1) s.heap.objs.size 0 .none:=by
  have g:=WV (s.heap.push { cls:=.type "tuple_iterator",data:=.fields #[.ref l,.int 0 0] }) (o:={ cls:=.type "enumerate",data:=.fields #[.none,.bool false,.ref s.heap.objs.size,rawInt 0,.none,.none] }) rfl
  rw [z] at g
  exact g
 exact ⟨⟨_,en,rfl⟩,h _ en ⟨_,WM _ (WV _ rfl),rfl,rfl⟩ (by rw [Heap.size_push,z]) fun b o e=>WM _ (WM _ e)⟩
end
section
variable {X:Cx} {pins:List (Addr×Obj)} {σ:St} {H:Hp} {s:Shared} {h':Heap}
theorem Inv.uk {t':Nat} {ch:List Addr} (I:Inv X pins σ H s) (k:∀ b o,b ∉ ch->s.heap.get? b=some o->h'.get? b=some o) (f:∀ b∈ch,mj X pins H b):Inv X pins σ H { s with heap:=h',toks:=t' }:=by
 have Ba:∀ b u,H b=some u->b ∉ ch:=fun b u e z=>by rw [(f b z).1] at e;cases e
 refine I.step (g':=s.gens) (d':=s.drawn) (ch:=ch) (fun b hb=>⟨(f b hb).2.2.2.1,(f b hb).2.1,(f b hb).2.2.2.2.1,(f b hb).2.2.2.2.2⟩) (fun b o _ _ hc e _=>k b o hc e) (fun b o _ _ hc e _=>⟨o.slots,k b o hc e⟩) (fun _ _ _ _ n=>n)
  (fun b o hc e=>⟨o,k b o hc e⟩) (fun _ _ e=>e) (fun _ _ _ e=>e) (fun b ps e=>⟨#[],by rw [e];simp⟩) (fun m hm=>?_) (fun b u e=>?_) I.bare
 ·obtain ⟨o,es,ep,ho,r⟩:=hm
  exact ⟨o,es,ep,k _ o (fun z=>(f _ z).2.1 rfl) ho,r⟩
 ·refine (I.hok b u e).stay (fun c v hc q=>k c v ?_ q) (fun _ q=>q) fun _ _ q=>q
  rcases hc with z | z
  ·rw [z];exact Ba b u e
  ·exact Ba c _ z
end
def LO (K:Zfr) (a:Addr):It :=
 ⟨fun i H=>∃ xs x,fj K H a xs/\xs[i]?=some x,fun i H x H'=>∃ p y,x=.ref p/\H p=none/\H'=upd H p (.tup [.int i,y])/\∀ xs,fj K H a xs->xs[i]?=some y,fun i H=>∃ xs,fj K H a xs/\xs.length=i⟩
theorem P9 {P:Program} {w:World} {K:Zfr} {es:List Expr} {x1} {pos:Pos} (a e it:Addr) (hne:e≠it) :
  Turn P w K (.Tuple es x1 pos) (LO K a) [e,it] e (fun i h=>(∃ old,IsEnum h e it i old)/\h.IsTupleIter it a i) where
 mem:=by simp
 obj:=fun i h st b hb=>by
  obtain ⟨⟨old,he⟩,o,e2,c,d⟩:=st
  rcases W0.mp hb with rfl | hb
  ·exact ⟨_,he,fun v z=>by
    have z':Data.fields _=Data.cell v:=z
    cases z'⟩
  ·have q:b=it:=by simpa using hb
   subst q
   exact ⟨o,e2,fun v z=>by rw [d] at z;cases z⟩
 keep:=fun i h h' st k=>⟨let ⟨old,he⟩:=st.1;⟨old,k e (by simp) _ he⟩,st.2.at fun o q=>k it (by simp) o q⟩
 item:=by
  intro X hP hw hK hc i pins s σ H E I hf st hg
  subst hP hw hK
  obtain ⟨xs,x,hq,hx⟩:=hg
  obtain ⟨its,rv,p,hz⟩:=I.tuple hq
  obtain ⟨u,hu,ru⟩:=rv.get hx
  obtain ⟨⟨old,he⟩,hit⟩:=st
  have ht:s.heap.IsTuple a its.toArray:=p
  have Iz:a≠it:=fun z=>by
   obtain ⟨o,e1,c1,_⟩:=hit
   obtain ⟨o2,e2,c2,_⟩:=ht
   rw [z,e1] at e2;cases e2
   exact absurd (c1.symm.trans c2) (by simp)
  have Qa:e≠a:=fun z=>by
   obtain ⟨o2,e2,c2,_⟩:=ht
   rw [<- z,he] at e2;cases e2
   exact absurd c2 (by simp)
  have hl:=rv.length
  have hi:i < its.toArray.size:=by
   have:=Ww.mp hu
   obtain ⟨q,_⟩:=this
   simpa using q
  refine wpAny_pyNext_enum_itemD (rZ (A:=X.A.in1) (I.ok.hd hc) it a Iz its.toArray) he ⟨hit,ht⟩ hi hne (by simp [hne,Qa]) fun y h1 tk hy ho hst hT hsz kk=>?_
  have ey:y=u:=by
   have:its.toArray[i]?=some u:=by simpa using hu
   exact WJ (hy.symm.trans this)
  subst ey
  refine ⟨_,rfl,wpAny_letOwnedTupleGo_enum ho fun h2 Qb sb=>?_⟩
  have hel:@LT.lt Nat _ e s.heap.objs.size:=WU he
  have hil:@LT.lt Nat _ it s.heap.objs.size:=by obtain ⟨o,e1,_⟩:=hit;exact WU e1
  have IA:H s.heap.objs.size=none:=I.hok.fresh (Wy _)
  have sb':Heap.SameBut e h1 h2:=sb
  have I1:Inv X pins σ (upd H s.heap.objs.size (.tup [.int i,x])) { s with heap:=s.heap.push { cls:=.type "tuple",data:=.seq #[.int i tk,y] },toks:=s.toks } :=
   I.laid (fun b u e=>WM _ e) (Wy _) ⟨(by decide:2<=sizeLine),[.int i tk,y],.cons ⟨tk,rfl⟩ (.cons ru .nil),⟨_,WV _ rfl,rfl,rfl,_,rfl⟩⟩
  have nn:∀ b∈[e,it],@LT.lt Nat _ b s.heap.objs.size:=fun b hb=>by
   rcases W0.mp hb with rfl | hb
   ·exact hel
   ·have q:b=it:=by simpa using hb
    rw [q];exact hil
  have hn:∀ b∈[e,it],upd H s.heap.objs.size (.tup [.int i,x]) b=none:=fun b hb=>by
   unfold upd
   rw [if_neg (Xb (nn b hb))]
   exact (hf b hb).1
  have I2:Inv X pins σ (upd H s.heap.objs.size (.tup [.int i,x])) { s with heap:=h2,toks:=tk + 1 }:=by
   refine Inv.uk (s:={ s with heap:=s.heap.push { cls:=.type "tuple",data:=.seq #[.int i tk,y] },toks:=s.toks }) (h':=h2) I1 (ch:=[e,it]) (t':=tk + 1) (fun b o hb q=>?_) fun b hb=>⟨hn b hb,(hf b hb).2⟩
   have nb:b≠e/\b≠it:=by simpa using hb
   refine (sb'.2 b nb.1).trans ?_
   rcases Heap.get?_push_cases q with ⟨rfl,rfl⟩ | q
   ·exact hT
   ·exact kk b o nb.1 nb.2 q
  refine ⟨.ref s.heap.objs.size,_,I2,rfl,⟨_,x,rfl,IA,rfl,fun ys um=>by rw [I.iy um hq];exact hx⟩,⟨⟨y,?_⟩,?_⟩,hn⟩
  ·have:((i + 1:Nat):Int)=(i:Int) + 1:=by omega
   rw [this];exact Qb
  ·exact hst.1.extBut sb'.extBut (Ne.symm hne)
 done:=by
  intro X hP hw hK hc i pins s σ H E I hf st hg
  subst hP hw hK
  obtain ⟨xs,hq,hx⟩:=hg
  obtain ⟨its,rv,p,hz⟩:=I.tuple hq
  obtain ⟨⟨old,he⟩,hit⟩:=st
  have ht:s.heap.IsTuple a its.toArray:=p
  have Iz:a≠it:=fun z=>by
   obtain ⟨o,e1,c1,_⟩:=hit
   obtain ⟨o2,e2,c2,_⟩:=ht
   rw [z,e1] at e2;cases e2
   exact absurd (c1.symm.trans c2) (by simp)
  have hl:=rv.length
  have ei:its.toArray.size=i:=by simp;omega
  refine wpAny_pyNext_enum_endD (rZ (A:=X.A.in1) (I.ok.hd hc) it a Iz its.toArray) he (by rw [ei];exact ⟨hit,ht⟩) fun h1 eb=>⟨rfl,?_⟩
  obtain ⟨f0,f1,f2,f3,f4,f5⟩:=hf it (by simp)
  exact I.turned (t':=s.toks) (fun b o hb q=>eb b o hb q) f0 f1 f3 f4 f5
 self:=fun _ _ _ _ _ st h=>let ⟨_,he⟩:=st.1;wpAny_pyIter_enum he h
def vw (K:Zfr) (ta:TA):TI:=fun σ H R=>ta σ H fun vs H1=>∃ a,vs=[.ref a]/\(∃ xs,fj K H1 a xs)/\R (LO K a) H1
theorem LP {X:Cx} {es:List Expr} {x1} {p0:Pos} {l:Expr} {ta:TA} {p pos:Pos} (hg:Gl X "enumerate") (hm:X.mg "enumerate" = none) (ha:PA X [l] ta) (hs:starEach [l] X.env=[(false,eval l X.env)]:=by rfl) :
  PI X (.Tuple es x1 p0) (.Call (.Name "enumerate" p) [l] [] pos) (vw X.K ta):=by
 intro pins s σ H R I h
 refine Call_ (zT I hg hm boot_enumerate (PyProof.Rows.callWith_type1 (cQ (ha pos pins s σ H _ I h) fun us s1 ⟨vs,H1,I1,r1,q1⟩=>?_) hs rfl))
 obtain ⟨a,e,⟨xs,hq⟩,q⟩:=q1
 subst e
 cases r1 with
 | cons r rr =>
  cases rr
  cases r
  obtain ⟨its,rv,p,hz⟩:=I1.tuple hq
  refine P8 (show s1.heap.IsTuple a its.toArray from p) fun h1 he hi hsz kk=>?_
  refine wpAny_pyIter_enum he ?_
  refine ⟨s1.heap.objs.size + 1,[s1.heap.objs.size + 1,s1.heap.objs.size],_,_,H1,rfl,I1.kept (t':=s1.toks) kk,P9 a _ _ (Nat.succ_ne_self _),⟨⟨_,he⟩,hi⟩,fun b hb=>?_,q⟩
  have hb':@LE.le Nat _ s1.heap.objs.size b:=by
   rcases W0.mp hb with rfl | hb
   ·exact Nat.le_succ _
   ·have e:b=s1.heap.objs.size:=by simpa using hb
    rw [e];exact Wy _
  exact I1.pY hb' (I1.hok.fresh hb')
section
open Sem (wp)
open PySem.AutoSeq1 (wpAny_loadPart')
open PySem.MeetsSeq PySem.MeetsSeq2 PySem.MeetsSeq3
theorem IntsAre.get {vs:List Value} {ns:List Int} (h:IntsAre vs ns):∀ {i:Nat} {n:Int},ns[i]?=some n->∃ t,vs[i]?=some (.int n t):=by
 induction h with
 | nil=>intro i n e;simp at e
 | cons a t h ih =>
  intro i n e
  cases i with
  | zero=>exact ⟨t,by simpa using e⟩
  | succ i=>simpa using ih (by simpa using e)
theorem r6 (l:Addr) (items:Array Value) (n:Nat) (dd:Option Addr) (sl:Array (Option Value)) (ns:List Int) (hi:IntsAre items.toList ns) (v:Int) (t:Tok) (j:Nat) (hj:ns[j]?=some v) (hb:∀ i,i < j->ns[i]?≠some v) :
  Meets (Builtin.«tuple.index» ⟨[.ref l,.int v t],[]⟩)
   (fun _ R s=>s.heap.get? l=some { cls:=.type "tuple",dict:=dd,data:=.seq items n,slots:=sl }/\R (.ok (.ret (.int (j:Int) s.toks))) { s with toks:=s.toks + 1 }) :=
 .of_wp fun prog w A R s h=>by
  obtain ⟨hp,g,d,tk,os⟩:=s;obtain ⟨hl,h⟩:=h
  have z1:items.size=ns.length:=by rw [<- hi.length];simp
  have hjl:j < ns.length:=(Ww.mp hj).1
  wp_walk using wpAny_loadPart' hl
  have key:wpAny (model prog w) A.in1 (forIn (m:=Sem) [:min items.size items.size] ((none,()):Option Fin×Unit) (fun (i:Nat) _ =>
    match items[i]? with
    | some y=>do
     let b <- eqBool y (Value.int v t)
     if b=true then do
      let r <- retInt (i:Int)
      pure (ForInStep.done (some r,()))
     else pure (ForInStep.yield (none,()))
    | _=>pure (ForInStep.yield (none,()))))
   (fun a s'=>a.1=some (.done (.ret (.int (j:Int) tk)))/\s'=⟨hp,g,d,tk + 1,os⟩) (fun e s'=>R (Except.error e) s') ⟨hp,g,d,tk,os⟩:=by
   rw [Std.Legacy.Range.forIn_eq_forIn_range']
   have ez:([:min items.size items.size]:Std.Legacy.Range).size=ns.length:=by
    simp [Std.Legacy.Range.size,z1]
   rw [ez]
   refine wpAny_forIn_list _ (fun rest b s'=>b.1=none/\s'=⟨hp,g,d,tk,os⟩/\∃ k,k<=j/\rest=List.range' k (ns.length - k) 1) _ ?_ ?_ _ _ ⟨rfl,rfl,0,W8 _,by simp⟩
   ·rintro x rest b s' ⟨hb',rfl,k,hk,e⟩
    have el:ns.length - k=(ns.length - (k + 1)) + 1:=by omega
    rw [el,List.range'_succ] at e
    injection e with e1 e2
    subst e1
    have oJ:x < ns.length:=by omega
    obtain ⟨t',ht'⟩:=IntsAre.get hi (Wx oJ)
    have Qc:items[x]?=some (.int ns[x] t'):=by rw [<- ht',Array.getElem?_toList]
    simp only [Qc]
    obtain ⟨e,he,hiff⟩:=HT.O1 A.in1 ⟨hp,g,d,tk,os⟩ ns[x] t' v t
    refine wpAny_bind (he prog w _ _ ?_)
    cases e with
    | true =>
     have ev:ns[x]=v:=hiff.mp rfl
     have Qd:x=j:=by
      rcases Nat.lt_or_ge x j with h' | h'
      ·exact absurd (by rw [Wx oJ,ev]) (hb x h')
      ·omega
     subst Qd
     wp_walk
     first | exact ⟨rfl,rfl⟩ | trivial
    | false =>
     have ev:ns[x]≠v:=fun q=>absurd (hiff.mpr q) WD
     have:x≠j:=fun z=>ev (by subst z;rw [Wx oJ] at hj;exact WJ hj)
     wp_walk
     exact ⟨rfl,rfl,x + 1,by omega,e2⟩
   ·rintro b s' ⟨hb',rfl,k,hk,e⟩
    have:(List.range' k (ns.length - k) 1).length=0:=by rw [<- e];rfl
    rw [List.length_range'] at this
    omega
  refine wpAny_mono key (fun a s' ha=>?_) (fun _ _ z=>z)
  obtain ⟨ha,rfl⟩:=ha
  obtain ⟨a1,a2⟩:=a
  cases (show a1=_ from ha)
  exact wpAny_pure ⟨_,rfl,h⟩
end
section
variable {X:Cx} {K:Zfr}
def p4 (K:Zfr):V->List V->Hp->VK->Prop:=fun x vs H Q=>∃ (a:Addr) (ns:List Int) (v:Int) (j:Nat),x=.ref a/\vs=[.int v]/\fj K H a (ns.map V.int)/\ns[j]?=some v/\(∀ i,i < j->ns[i]?≠some v)/\Q (.int (j:Int)) H
theorem Qe:vd X "tuple.index" (p4 X.K):=by
 intro pins s σ H x xs v us Q I rx rv h
 obtain ⟨a,ns,y,j,rfl,rfl,hq,hj,hb,q⟩:=h
 cases rx
 obtain ⟨u,rfl,t,rfl⟩:=vals1 rv
 obtain ⟨its,r,⟨⟨c,dd,dt,sl⟩,e,hc,hd,n,hdt⟩,hz⟩:=I.pX hq
 cases (show c=.type "tuple" from hc)
 cases (show dt=.seq its.toArray n from hdt)
 refine call_meets F.slot_tuple_index ⟨_,e,rfl⟩ F.entry_tuple_index (F.args_tuple_index_2 _ _) (r6 a its.toArray n dd sl ns (by simpa using Lf r) y t j hj hb) ⟨e,?_⟩
 exact ⟨.int j,H,I.tok _,⟨_,rfl⟩,q⟩
theorem LQ (hK:X.K=K):vd X "tuple.index" (p4 K):=by subst hK;exact Qe
theorem IB {o e:Expr} {es:List Expr} {to:TE} {t:TA} {name:Str} {apos cpos:Pos} {T id:String} {r:V->List V->Hp->VK->Prop} (hK:X.K=K) (pa:PlainAttrs T) (slot:Slot T name id) (hty:typeOf (.builtin id)=pure (.type "method_descriptor")) (hm:vd X id r) (ho:PE X o to) (ha:PA X (e :: es) t)
  (hbase:attributeBase o name X.env (eval o X.env)=eval o X.env:=by rfl)
  (hfew:((backTo cpos (starEach (e :: es) X.env)).all (fun x=>!x.1) && (backToKw cpos (keywordEach [] X.env)).all (fun x=>x.1.isSome)
   && decide ((e :: es).length + ([]:List Keyword).length + (if ([]:List Keyword).isEmpty then 0 else 1) < 30))=true:=by rfl)
  (hline:(apos.endLine == cpos.line)=true:=by rfl) (hs:starEach (e :: es) X.env=(false,eval e X.env) :: starEach es X.env:=by rfl) (hplain:(backTo cpos (starEach es X.env)).any (·.1)=false:=by rfl) :
  PE X (.Call (.Attribute o name apos) (e :: es) [] cpos) (HR K T r to t):=by subst hK;exact og pa slot hty hm ho ha hbase hfew hline hs hplain
end
open Builtin.Str
section
variable {X:Cx} {K:Zfr}
theorem xN:bootBuiltins "abs" = some (.builtin "abs"):=by decide +kernel
end
section
variable {X:Cx} {tg:Expr}
end
end L2
namespace L2
open PySem PySem.Spec PyProof.Rows
open Builtin.Str
section
variable {prog:Program} {w:World} {A:Around} {E:Value->Shared->Prop} {s:Shared}
end
set_option genInjectivity false in
inductive ZS where
 | tup (a:Addr) | lst (a:Addr) | str (x:Str)
def ZS.has (K:Zfr) (H:Hp) (i:Nat) (v:V):ZS->Prop
 | .tup a=>∃ xs,fj K H a xs/\xs[i]?=some v
 | .lst a=>∃ xs,jy K H a xs/\xs[i]?=some v
 | .str x=>∃ c,x.cps[i]?=some c/\v=.str ⟨#[c]⟩
def ZS.fin (K:Zfr) (H:Hp) (i:Nat):ZS->Prop
 | .tup a=>∃ xs,fj K H a xs/\xs.length=i
 | .lst a=>∃ xs,jy K H a xs/\xs.length=i
 | .str x=>x.cps.size=i
section
variable {X:Cx} {pins:List (Addr×Obj)} {σ:St} {H:Hp} {s:Shared}
end
theorem ZS.uo {X:Cx} {pins:List (Addr×Obj)} {σ:St} {H:Hp} {s:Shared} {src:ZS} {i:Nat} {x y:V} (I:Inv X pins σ H s) (a:src.has X.K H i x) (b:src.has X.K H i y):y=x:=by
 cases src with
 | tup p =>
  obtain ⟨xs,h1,e1⟩:=a
  obtain ⟨ys,h2,e2⟩:=b
  rw [I.iy h2 h1] at e2
  rw [e1] at e2
  exact (WJ e2).symm
 | lst p =>
  obtain ⟨xs,h1,e1⟩:=a
  obtain ⟨ys,h2,e2⟩:=b
  rw [I.pd h2 h1] at e2
  rw [e1] at e2
  exact (WJ e2).symm
 | str z =>
  obtain ⟨c,h1,rfl⟩:=a
  obtain ⟨d,h2,rfl⟩:=b
  rw [h1] at h2
  cases h2
  rfl
def ZS.val (K:Zfr) (H:Hp) (x:V):ZS->Prop
 | .tup a=>x=.ref a/\∃ xs,fj K H a xs
 | .lst a=>x=.ref a/\∃ xs,jy K H a xs
 | .str z=>x=.str z
end L2
namespace L2
open PySem PySem.Spec PyProof.Rows
section
variable {X:Cx} {K:Zfr}
def eD (us:List Value) (ds:List PyData) (dx:PyData) (u:Value):Bool:=@decide (∃ (i:Nat) (d:PyData),us[i]?=some u/\ds[i]?=some d/\PyData.eqv d dx=true) (Classical.propDecidable _)
theorem fY.get:∀ {H:Hp} {vs:List V} {ds:List PyData},fY K H vs ds->∀ {i:Nat} {v:V},vs[i]?=some v->∃ d,ds[i]?=some d/\Rep K H v d
 | _,_,_,.nil,i,v,e=>by simp at e
 | _,_,_,.cons (d:=d) a b,0,v,e=>⟨d,by simp,by have:_=v:=WJ (by simpa using e);rw [<- this];exact a⟩
 | _,_,_,.cons a b,i + 1,v,e=>by
  obtain ⟨d,e1,r⟩:=fY.get b (i:=i) (by simpa using e)
  exact ⟨d,by simpa using e1,r⟩
theorem fY.uq:∀ {H:Hp} {vs:List V} {ds:List PyData},fY K H vs ds->vs.length=ds.length
 | _,_,_,.nil=>rfl
 | _,_,_,.cons _ r=>by rw [W2,W2,fY.uq r]
theorem Vals.BX {xs:List V} {us:List Value} (r:Vals xs us) {i:Nat} {u:Value} (h:us[i]?=some u):∃ v,xs[i]?=some v/\RelV v u:=by
 have hi:=(Ww.mp h).1
 have hl:=r.length
 obtain ⟨u',hu,ru⟩:=r.get (i:=i) (x:=xs[i]'(by omega)) (Wx _)
 rw [h] at hu
 cases hu
 exact ⟨_,Wx _,ru⟩
open Classical in
theorem IC {pins:List (Addr×Obj)} {σ:St} {H:Hp} {s:Shared} {xs:List V} {us:List Value} {ds:List PyData} {x:V} {v:Value} {dx:PyData} (hu:X.A.units + 64 < cLine) (I:Inv X pins σ H s) (r:Vals xs us) (hr:fY X.K H xs ds) (rx:RelV x v) (hx:Rep X.K H x dx) (c1:∀ d∈ds,d.canLay0=true) (c2:dx.canLay0=true) (c3:dx.depth<=60) :
  ∀ u∈us,SeqAt.EqAt X.A.in1 s u v (eD us ds dx u):=by
 intro u hm
 obtain ⟨bs,rb⟩:=hx.reads I rx
 have key:∀ (i:Nat) (d:PyData),us[i]?=some u->ds[i]?=some d->SeqAt.EqAt X.A.in1 s u v (PyData.eqv d dx):=fun i d h1 h2=>by
  obtain ⟨y,hy,ry⟩:=r.BX h1
  obtain ⟨d',hd',rd⟩:=hr.get hy
  rw [h2] at hd'
  cases hd'
  obtain ⟨as,ra⟩:=rd.reads I ry
  intro prog w E Q q
  refine SeqAt.eqBoolOverData prog w X.A.in1 E s u v d dx as bs Q ra rb (c1 _ (WG h2)) c2 ?_ q
  have:X.A.in1.units<=X.A.units + 2:=by
   first | exact Nat.le_add_right _ _ | (show X.A.units<=_;omega) | (show X.A.units + 1<=_;omega)
  omega
 obtain ⟨i,hi⟩:=List.getElem?_of_mem hm
 have hl1:=r.length
 have hl2:=hr.uq
 have hil:=(Ww.mp hi).1
 unfold eD
 by_cases h:∃ (i:Nat) (d:PyData),us[i]?=some u/\ds[i]?=some d/\PyData.eqv d dx=true
 ·rw [decide_eq_true h]
  obtain ⟨j,d,h1,h2,h3⟩:=h
  have:=key j d h1 h2
  rwa [h3] at this
 ·rw [decide_eq_false h]
  have h2:ds[i]?=some (ds[i]'(by omega)):=Wx _
  have k:=key i _ hi h2
  cases hb:PyData.eqv (ds[i]'(by omega)) dx with
  | true=>exact absurd ⟨i,_,hi,h2,hb⟩ h
  | false=>rwa [hb] at k
open Classical in
theorem xO {xs:List V} {us:List Value} {ds:List PyData} {dx:PyData} (h1:us.length=ds.length):us.any (eD us ds dx)=ds.any fun d=>PyData.eqv d dx:=by
 rw [Bool.eq_iff_iff,List.any_eq_true,List.any_eq_true]
 constructor
 ·rintro ⟨u,hu,h⟩
  unfold eD at h
  obtain ⟨i,d,_,h2,h3⟩:=of_decide_eq_true h
  exact ⟨d,WG h2,h3⟩
 ·rintro ⟨d,hd,h⟩
  obtain ⟨i,hi⟩:=List.getElem?_of_mem hd
  have hil:=(Ww.mp hi).1
  refine ⟨us[i]'(by omega),List.getElem_mem _,?_⟩
  unfold eD
  exact decide_eq_true ⟨i,d,Wx _,hi,h⟩
def BZ (K:Zfr) (neg:Bool):R2:=fun x y H Q=>∃ p xs ds dx,y=.ref p/\(jy K H p xs\/fj K H p xs)/\fY K H xs ds/\Rep K H x dx/\(∀ d∈ds,PyData.canLay0 d=true)/\PyData.canLay0 dx=true/\PyData.depth dx<=60/\Q (.bl (if neg then !ds.any (fun d=>PyData.eqv d dx) else ds.any fun d=>PyData.eqv d dx)) H
theorem LR (hu:X.A.units + 64 < cLine):kR X (compareOp .NotIn) (BZ X.K true):=by
 intro pins s σ H x y v u Q I rx ry h
 obtain ⟨p,xs,ds,dx,rfl,hq,hr,hx,c1,c2,c3,q⟩:=h
 cases ry
 have e2:∀ {its:List Value},Vals xs its->its.toArray.any (eD its ds dx)=ds.any fun d=>PyData.eqv d dx:=fun {its} r=>by
  rw [show its.toArray.any (eD its ds dx)=its.any (eD its ds dx) by simp]
  exact xO (xs:=xs) (by rw [<- r.length];exact hr.uq)
 rcases hq with hq | hq
 ·obtain ⟨its,r,pl,hz⟩:=I.list hq
  refine SeqAt.notIn_listAt (eD its ds dx) pl.isList (fun w hw=>IC hu I r hr rx hx c1 c2 c3 w (by simpa using hw)) ⟨.bl _,H,I,rfl,?_⟩
  rw [e2 r]
  exact q
 ·obtain ⟨its,r,pl,hz⟩:=I.tuple hq
  refine SeqAt.notIn_tupleAt (eD its ds dx) pl (fun w hw=>IC hu I r hr rx hx c1 c2 c3 w (by simpa using hw)) ⟨.bl _,H,I,rfl,?_⟩
  rw [e2 r]
  exact q
end
open Builtin.Str
theorem B0:Slot "reversed" "__next__" "reversed.__next__" :=
 .of (owner:="reversed") (n:="__next__") (by rw [typeLookup_type,builtinLookup_eq_fast];kernel_rfl) (by decide +kernel) (by decide +kernel) (by decide +kernel)
  (by first | exact .inl (by decide +kernel) | exact .inr (by decide +kernel)) (by rw [isSubtype_type];kernel_rfl)
theorem LS:Slot "reversed" "__iter__" "reversed.__iter__" :=
 .of (owner:="reversed") (n:="__iter__") (by rw [typeLookup_type,builtinLookup_eq_fast];kernel_rfl) (by decide +kernel) (by decide +kernel) (by decide +kernel)
  (by first | exact .inl (by decide +kernel) | exact .inr (by decide +kernel)) (by rw [isSubtype_type];kernel_rfl)
theorem LU:entryFor table "reversed.__next__" = some Builtin.«reversed.__next__»:=entryFor_of_tree (by kernel_rfl)
theorem LV (a:Value):argsOk "reversed.__next__" ⟨[a],[]⟩:=by unfold argsOk;kernel_rfl
theorem Qf:entryFor table "reversed.__iter__" = some Builtin.«dict_keyiterator.__iter__» :=
 entryFor_alias (id':="dict_keyiterator.__iter__") (by kernel_rfl) (by first | rfl | decide +kernel) (by decide +kernel) (by kernel_rfl)
theorem Qg (a:Value):argsOk "reversed.__iter__" ⟨[a],[]⟩:=by unfold argsOk;kernel_rfl
theorem Qh:typeLookup (.type "tuple") "__reversed__" = pure none:=by rw [typeLookup_type,builtinLookup_eq_fast];kernel_rfl
theorem Qi:typeLookup (.type "str") "__reversed__" = pure none:=by rw [typeLookup_type,builtinLookup_eq_fast];kernel_rfl
def mr (h:Heap) (a:Addr) (v:Value) (i:Int):Prop:=∃ o,h.get? a=some o/\o.cls=.type "reversed" /\ o.data=.fields #[v,rawInt i]
theorem mr.at {h h':Heap} {a:Addr} {v:Value} {i:Int} (x:mr h a v i) (e:∀ o,h.get? a=some o->h'.get? a=some o):mr h' a v i:=let ⟨o,ho,r⟩:=x;⟨o,e _ ho,r⟩
section
variable {prog:Program} {w:World} {A:Around} {E:Value->Shared->Prop} {s:Shared}
theorem mr.typeIs {a:Addr} {v:Value} {i:Int} (x:mr s.heap a v i):s.TypeIs (.ref a) "reversed" := let ⟨o,ho,hc,_⟩:=x;⟨o,ho,hc⟩
theorem LW {it:Addr} {v:Value} {i:Int} {Q:Value->Shared->Prop} (hit:mr s.heap it v i) (h:Q (.ref it) s):wpAny (model prog w) A (pyIter (.ref it)) Q E s:=by
 refine wpAny_pyIter_slot hit.typeIs LS (wpAny_call_entry LS hit.typeIs Qf ?_ (Qg _))
 show wpAny _ _ (ret (.ref it)) _ _ s
 exact wpAny_pure ⟨_,rfl,"reversed",_,hit.typeIs,B0.lookup,h⟩
theorem Qj {it:Addr} {T gid:String} {v:Value} {y:Value->Prop} {i:Nat} {Q:Option Value->Shared->Prop} (hit:mr s.heap it v (i:Int)) (hT:s.TypeIs v T) (hg:typeLookup (.type T) "__getitem__" = pure (some (.builtin gid)))
  (hget:∀ (A':Around) (E':Value->Shared->Prop) (Q':Value->Shared->Prop) (tk:Tok) (n:Nat),(∀ z k,y z->Q' z { s with toks:=k })->wpAny (model prog w) A' (getItem v (.int i tk)) Q' E' { s with toks:=n })
  (hQ:∀ x h' k,y x->mr h' it v ((i:Int) - 1)->Heap.SameBut it s.heap h'->Q (some x) { s with heap:=h',toks:=k }):wpAny (model prog w) A (pyNext (.ref it)) Q E s:=by
 obtain ⟨o,ho,hc,hd⟩:=id hit
 unfold pyNext
 refine wpAny_bind (wpAny_attempt (wpAny_callSpecial?_slot (name:=Str.ofString "__next__") hit.typeIs B0
  (wpAny_call_entry B0 hit.typeIs LU ?_ (LV _))))
 unfold Builtin.«reversed.__next__»
 refine wpAny_bind (wpAny_of_eq (a:=(Value.ref it,[])) rfl ?_)
 try dsimp only
 refine wpAny_bind (wpAny_field ho hd (x:=v) rfl ?_)
 refine wpAny_bind (wpAny_field ho hd (x:=rawInt (i:Int)) rfl ?_)
 show wpAny _ _ (if (i:Int) < 0 then _ else _) _ _ s
 rw [if_neg (by omega)]
 refine wpAny_bind (wpAny_specialOf hT hg ?_)
 try dsimp only
 rw [if_neg (by simp)]
 refine wpAny_bind (wpAny_mkInt ?_)
 refine wpAny_bind (wpAny_attempt (hget _ _ _ _ _ fun x k hx=>?_))
 show wpAny _ _ (field (.ref it) 1 >>= _) _ _ _
 refine wpAny_bind (wpAny_field ho hd (x:=rawInt (i:Int)) rfl ?_)
 refine wpAny_bind (wpAny_setField ho hd (by simp) ?_)
 first
 | refine wpAny_pure ⟨x,rfl,wpAny_pure (hQ _ _ _ hx ?_ (Heap.SameBut.update ..))⟩
 | refine wpAny_pure ⟨x,rfl,wpAny_bind (wpAny_pure (wpAny_pure (hQ _ _ _ hx ?_ (Heap.SameBut.update ..))))⟩
 exact ⟨_,Heap.get?_update_self _ ho (Obj.isFreed_of_fields (Obj.data_mapFields hd _)),(Obj.cls_mapFields ..).trans hc,by rw [Obj.data_mapFields hd];simp [rawInt]⟩
theorem Qk {it:Addr} {v:Value} {i:Int} {Q:Option Value->Shared->Prop} (hh:A.handled=none) (hit:mr s.heap it v i) (hi:i < 0)
  (hQ:∀ h',Heap.ExtBut it s.heap h'->Q none { s with heap:=h' }):wpAny (model prog w) A (pyNext (.ref it)) Q E s:=by
 obtain ⟨o,ho,hc,hd⟩:=id hit
 unfold pyNext
 refine wpAny_bind (wpAny_attempt (wpAny_callSpecial?_slot (name:=Str.ofString "__next__") hit.typeIs B0
  (wpAny_call_entry B0 hit.typeIs LU ?_ (LV _))))
 unfold Builtin.«reversed.__next__»
 refine wpAny_bind (wpAny_of_eq (a:=(Value.ref it,[])) rfl ?_)
 try dsimp only
 refine wpAny_bind (wpAny_field ho hd (x:=v) rfl ?_)
 refine wpAny_bind (wpAny_field ho hd (x:=rawInt i) rfl ?_)
 show wpAny _ _ (if i < 0 then _ else _) _ _ s
 rw [if_pos hi]
 refine wpAny_bind (wpAny_rule ?_)
 refine wpAny_bind ?_
 show wpAny _ _ (setField (.ref it) 1 (rawInt (-1)) >>= fun _=>setField (.ref it) 0 .none) _ _ _
 refine wpAny_bind (wpAny_setField ho hd (by simp) ?_)
 have Ql:=Heap.get?_update_self (Obj.mapFields fun x=>x.setIfInBounds 1 (rawInt (-1))) ho (Obj.isFreed_of_fields (Obj.data_mapFields hd _))
 have hd1:=Obj.data_mapFields hd (fun x=>x.setIfInBounds 1 (rawInt (-1)))
 refine wpAny_setField Ql hd1 (by simp) ?_
 first
 | show wpAny _ _ (newExc (.type "StopIteration") [] >>= _) _ _ _
 | (refine wpAny_bind ?_;show wpAny _ _ (newExc (.type "StopIteration") [] >>= _) _ _ _)
 refine wpAny_bind ?_
 simp only [newExc,newTuple]
 refine wpAny_bind (wpAny_newObj_type ?_ (by size_fits))
 refine wpAny_bind (m:=firstArgMember _ _) (wpAny_of_eq (a:=Value.none) (by first | rfl | (simp only [firstArgMember];rfl)) ?_)
 refine wpAny_newObj_type ?_ (by size_fits)
 simp only [raiseNew]
 refine wpAny_bind (wpAny_handled ?_)
 first | rw [show A.in1.handled=none from hh] | rw [hh]
 refine wpAny_bind (wpAny_pure (wpAny_throw ?_))
 refine wpAny_bind (wpAny_isInstance (T:="StopIteration") (b:=true) ⟨_,WV _ rfl,rfl⟩ isSubtype_stop ?_)
 refine wpAny_pure (hQ _ ?_)
 have x2:Heap.ExtBut it s.heap ((s.heap.update it (Obj.mapFields fun x=>x.setIfInBounds 1 (rawInt (-1)))).update it (Obj.mapFields fun x=>x.setIfInBounds 0 .none)):=fun c o hc e=>(Heap.SameBut.update ..).extBut c o hc ((Heap.SameBut.update ..).extBut c o hc e)
 exact (x2.push _).push _
end
def LX (K:Zfr) (src:ZS) (n:Nat):It:=⟨fun i H=>i < n/\∃ v,src.has K H (n - 1 - i) v,fun i H x H'=>H'=H/\∀ v,src.has K H (n - 1 - i) v->v=x,fun i _=>i=n⟩
theorem ZS.got {X:Cx} {pins:List (Addr×Obj)} {σ:St} {H:Hp} {s:Shared} {src:ZS} {u:Value} {x:V} {i:Nat} {v:V} (I:Inv X pins σ H s) (r:RelV x u) (hv:src.val X.K H x) (nl:∀ a,src≠.lst a) (hs:∀ z,src=.str z->z.length<=sizeLine) (h:src.has X.K H i v) :
  ∃ (T gid:String) (y:Value->Prop),s.TypeIs u T/\typeLookup (.type T) "__getitem__" = pure (some (.builtin gid))/\(∀ z,y z->RelV v z) /\
   ∀ (A':Around) (E':Value->Shared->Prop) (Q':Value->Shared->Prop) (tk:Tok) (n:Nat),(∀ z k,y z->Q' z { s with toks:=k })->wpAny (model X.prog X.w) A' (getItem u (.int i tk)) Q' E' { s with toks:=n }:=by
 have hn:=ml
 cases src with
 | lst a=>exact absurd rfl (nl a)
 | tup a =>
  obtain ⟨rfl,xs,hq⟩:=hv
  obtain ⟨xs',hq',hx⟩:=h
  rw [I.iy hq' hq] at hx
  cases r
  obtain ⟨its,rv,pl,hz⟩:=I.tuple hq
  obtain ⟨w,ew,rw'⟩:=rv.get hx
  have hl:=rv.length
  have hi:=(Ww.mp hx).1
  refine ⟨"tuple",_,fun z=>z=w,pl.typeIs,slot_tuple_getitem.lookup,fun z e=>e ▸ rw',fun A' E' Q' tk n hq'=>?_⟩
  exact getItem_tuple (s:={ s with toks:=n }) (j:=i) pl (by omega) (by omega) (by rw [WL];exact seqIndex_of (by omega) (by omega)) (by simpa using ew) (hq' w n rfl)
 | str z =>
  cases hv
  obtain ⟨c,hx,rfl⟩:=h
  obtain ⟨t,rfl⟩:=r
  have hi:=(Array.getElem?_eq_some_iff.mp hx).1
  have hl:z.length=z.cps.size:=rfl
  have V9:=hs z rfl
  refine ⟨"str",_,fun y=>∃ t,y=.str ⟨#[c]⟩ t,typeIs_str s z t,slot_str_getitem.lookup,fun y hy=>hy,fun A' E' Q' tk n hq'=>?_⟩
  refine getItem_str (s:={ s with toks:=n }) (c:=c) (by
   have e1:decide ((i:Int) < -(2 ^ 63:Int))=false:=decide_eq_false (by omega)
   have e2:decide ((i:Int) >= 2 ^ 63)=false:=decide_eq_false (by omega)
   rw [e1,e2,Bool.or_false]) (by rw [seqIndex_of (by omega) (by omega)];simpa using hx) (hq' _ _ ⟨_,rfl⟩)
theorem Qm {P:Program} {w:World} {K:Zfr} {tg:Expr} (src:ZS) (u:Value) (n:Nat) (it:Addr) (nl:∀ a,src≠.lst a) (hs:∀ z,src=.str z->z.length<=sizeLine) (x:V) (rx:RelV x u) (hsv:∀ (H:Hp) (v:V) (i:Nat),src.has K H i v->src.val K H x) :
  Turn P w K tg (LX K src n) [it] it (fun i h=>mr h it u ((n:Int) - 1 - (i:Nat))) where
 mem:=by simp
 obj:=fun i h st b hb=>by
  have e:b=it:=by simpa using hb
  subst e
  obtain ⟨o,e,c,d⟩:=st
  exact ⟨o,e,fun v z=>by rw [d] at z;cases z⟩
 keep:=fun i h h' st k=>st.at fun o e=>k it (by simp) o e
 item:=by
  intro X hP hw hK hc i pins s σ H E I hf st hg
  subst hP hw hK
  obtain ⟨hin,v,hv⟩:=hg
  obtain ⟨f0,f1,f2,f3,f4,f5⟩:=hf it (by simp)
  obtain ⟨T,gid,y,hT,hl,hy,hget⟩:=ZS.got I rx (hsv H v _ hv) nl hs hv
  have st':mr s.heap it u ((n - 1 - i:Nat):Int):=by
   have e:((n - 1 - i:Nat):Int)=(n:Int) - 1 - (i:Nat):=by omega
   rw [e];exact st
  refine Qj st' hT hl hget fun z h' tk hz hr sb=>?_
  have I1:Inv X pins σ H { s with heap:=h',toks:=tk }:=I.turned (fun b o hb e=>(sb.2 b hb).trans e) f0 f1 f3 f4 f5
  have hr':mr h' it u ((n:Int) - 1 - ((i + 1:Nat):Int)):=by
   have e:(n:Int) - 1 - ((i + 1:Nat):Int)=((n - 1 - i:Nat):Int) - 1:=by omega
   rw [e];exact hr
  obtain ⟨o,e,c,d⟩:=id hr
  exact ⟨z,rfl,EY (s:={ s with heap:=h',toks:=tk }) e c d (by decide) ⟨v,H,I1,hy z hz,⟨rfl,fun v' hv'=>ZS.uo I hv hv'⟩,hr',fun b hb=>(hf b hb).1⟩⟩
 done:=by
  intro X hP hw hK hc i pins s σ H E I hf st hg
  subst hP hw hK
  have hg:i=n:=hg
  subst hg
  obtain ⟨f0,f1,f2,f3,f4,f5⟩:=hf it (by simp)
  exact Qk (I.ok.hd hc) st (by omega) fun h' eb=>⟨rfl,I.turned (t':=s.toks) (fun b o hb e=>eb b o hb e) f0 f1 f3 f4 f5⟩
 self:=fun _ _ _ _ _ st h=>LW st h
theorem Qn:Slot "reversed" "__init__" "object.__init__" :=
 .of (owner:="object") (n:="__init__") (by rw [typeLookup_type,builtinLookup_eq_fast];kernel_rfl) (by decide +kernel) (by decide +kernel) (by decide +kernel)
  (by first | exact .inl (by decide +kernel) | exact .inr (by decide +kernel)) (by rw [isSubtype_type];kernel_rfl)
theorem LY:TypeCalled "reversed" "reversed.__new__" "object.__init__" :=
 ⟨by decide +kernel,by decide +kernel,⟨_,_,F.mro_reversed⟩,F.made_reversed,by decide +kernel,by rw [isSubtype_type];kernel_rfl,Qn⟩
theorem LZ {u:Value} {T gid:String} {n:Nat} (h0:typeLookup (.type T) "__reversed__" = pure none) (h1:typeLookup (.type T) "__getitem__" = pure (some (.builtin gid))) (hsub:isSubtype (.type T) (.type "dict")=pure false)
  (IE:["tuple.__getitem__","str.__getitem__","bytes.__getitem__","bytearray.__getitem__","memoryview.__getitem__","numpy.ndarray.__getitem__","sqlite3.Row.__getitem__"].contains gid=true) :
  Meets (Builtin.«reversed.__new__» ⟨[.type "reversed",u],[]⟩) (fun _ R s=>s.TypeIs u T /\
   (∀ (prog:Program) (w:World) (A':Around) (E':Value->Shared->Prop) (Q':Value->Shared->Prop),(∀ t k,Q' (.int n t) { s with toks:=k })->wpAny (model prog w) A' (call (.builtin "len") [u]) Q' E' s) /\
   ∀ k,R (.ok (.ret (.ref s.heap.objs.size))) { s with heap:=s.heap.push { cls:=.type "reversed",data:=.fields #[u,rawInt ((n:Int) - 1)] },toks:=k }) :=
 .of_wp fun prog w A R s h=>by
 obtain ⟨hT,hlen,h⟩:=h
 unfold Builtin.«reversed.__new__»
 refine wpAny_bind (wpAny_of_eq (newClass_reversed _) ?_)
 try dsimp only
 refine wpAny_bind (wpAny_of_eq (a:=()) (by first | rfl | kernel_rfl) ?_)
 refine wpAny_bind (wpAny_of_eq (a:=()) (by first | rfl | kernel_rfl) ?_)
 try dsimp only
 refine wpAny_bind (wpAny_specialOf hT h0 ?_)
 try dsimp only
 refine wpAny_bind ?_
 show wpAny _ _ (isInstance u (.type "dict") >>= _) _ _ _
 refine wpAny_bind (wpAny_isInstance (b:=false) hT hsub ?_)
 rw [if_neg WD]
 refine wpAny_bind (wpAny_specialOf hT h1 ?_)
 show wpAny _ _ (if ["tuple.__getitem__","str.__getitem__","bytes.__getitem__","bytearray.__getitem__","memoryview.__getitem__","numpy.ndarray.__getitem__","sqlite3.Row.__getitem__"].contains gid=true then _ else _) _ _ _
 rw [if_pos IE]
 refine wpAny_pure ?_
 rw [if_neg (by simp)]
 refine wpAny_bind (hlen _ _ _ _ _ fun t k=>?_)
 refine wpAny_bind (wpAny_of_eq (a:=some (n:Int)) rfl ?_)
 try dsimp only
 refine wpAny_bind ?_
 show wpAny _ _ (newObj (.type "reversed") (.fields #[u,rawInt ((n:Int) - 1)])) _ _ _
 refine wpAny_newObj_type ?_
 exact wpAny_pure ⟨_,rfl,h k⟩
theorem Qo:isSubtype (.type "tuple") (.type "dict")=pure false:=by rw [isSubtype_type];kernel_rfl
theorem Qp:isSubtype (.type "str") (.type "dict")=pure false:=by rw [isSubtype_type];kernel_rfl
def B1 (K:Zfr) (ta:TA):TI:=fun σ H R=>ta σ H fun vs H1=>∃ (x:V) (src:ZS) (n:Nat),vs=[x]/\src.val K H1 x/\src.fin K H1 n/\(∀ a,src≠.lst a)/\(∀ z,src=.str z->z.length<=sizeLine)/\R (LX K src n) H1
theorem xP {X:Cx} {tg l:Expr} {ta:TA} {p pos:Pos} (hg:Gl X "reversed") (hm:X.mg "reversed" = none) (ha:PA X [l] ta) (hs:starEach [l] X.env=[(false,eval l X.env)]:=by rfl) :
  PI X tg (.Call (.Name "reversed" p) [l] [] pos) (B1 X.K ta):=by
 intro pins s σ H R I h
 refine Call_ (zT I hg hm PB (PyProof.Rows.callWith_type1 (cQ (ha pos pins s σ H _ I h) fun us s1 ⟨vs,H1,I1,r1,q1⟩=>?_) hs rfl))
 obtain ⟨x,src,n,e,hv,hn,nl,hz,q⟩:=q1
 subst e
 obtain ⟨u,rfl,r⟩:=vals1 r1
 ·have Wa:=ml
  have hsv:∀ (H:Hp) (v:V) (i:Nat),src.has X.K H i v->src.val X.K H x:=fun H v i hh=>by
   cases src with
   | tup a=>obtain ⟨xs,h1,_⟩:=hh;exact ⟨hv.1,xs,h1⟩
   | lst a=>exact absurd rfl (nl a)
   | str z=>exact hv
  have fin:∀ k,wpAny (model X.prog X.w) X.A (pyIter (.ref s1.heap.objs.size)) (HC X pins σ tg R) X.xe { s1 with heap:=s1.heap.push { cls:=.type "reversed",data:=.fields #[u,rawInt ((n:Int) - 1)] },toks:=k }:=fun k=>by
   have g:mr (s1.heap.push { cls:=.type "reversed",data:=.fields #[u,rawInt ((n:Int) - 1)] }) s1.heap.objs.size u ((n:Int) - 1 - (0:Nat)):=⟨_,WV _ rfl,rfl,by simp⟩
   refine LW g ?_
   refine ⟨s1.heap.objs.size,[s1.heap.objs.size],_,_,H1,rfl,I1.kept (t':=k) fun b o e=>WM _ e,Qm src u n _ nl hz x r hsv,g,fun b hb=>?_,q⟩
   have e:b=s1.heap.objs.size:=by simpa using hb
   subst e
   exact I1.pY (Wy _) (I1.hok.fresh (Wy _))
  cases src with
  | lst a=>exact absurd rfl (nl a)
  | tup a =>
   obtain ⟨rfl,xs,hq⟩:=id hv
   obtain ⟨xs',hq',hx⟩:=hn
   have hx:xs.length=n:=by rw [<- I1.iy hq' hq];exact hx
   cases r
   obtain ⟨its,rv,pl,hz'⟩:=I1.tuple hq
   have hl:=rv.length
   refine callType_new LY (by decide) (F.typeCall_reversed_1 _) (F.newCall_reversed_1 _) (fun obj=>F.args_object_init_2 obj _) F.entry_reversed_new (LZ (n:=n) Qh slot_tuple_getitem.lookup Qo (by decide)) ⟨pl.typeIs,fun prog w A' E' Q' hq=>?_,fun k=>⟨⟨_,WV _ rfl,rfl⟩,fin k⟩⟩
   have e:its.toArray.size=n:=by rw [WL];omega
   refine len_tuple pl (by rw [e];omega) ?_
   rw [e]
   exact hq _ _
  | str z =>
   cases hv
   have hn:z.length=n:=hn
   have:=hz z rfl
   obtain ⟨t,rfl⟩:=r
   refine callType_new LY (by decide) (F.typeCall_reversed_1 _) (F.newCall_reversed_1 _) (fun obj=>F.args_object_init_2 obj _) F.entry_reversed_new (LZ (n:=n) Qi slot_str_getitem.lookup Qp (by decide)) ⟨typeIs_str _ z t,fun prog w A' E' Q' hq=>?_,fun k=>⟨⟨_,WV _ rfl,rfl⟩,fin k⟩⟩
   refine len_str (by omega) ?_
   rw [hn]
   exact hq _ _
end L2
namespace L2
open PySem PySem.Spec PyProof.Rows
open Builtin
section
variable {X:Cx}
end
end L2
namespace L2
open PySem PySem.Spec PyProof.Rows
section
variable {prog:Program} {w:World} {A:Around} {E:Value->Shared->Prop} {s:Shared}
end
section
variable {X:Cx} {pos:Pos}
end
section
variable {prog:Program} {w:World} {A:Around} {E:Value->Shared->Prop} {s:Shared}
end
section
variable {prog:Program} {w:World} {A:Around} {E:Value->Shared->Prop} {s:Shared}
end
section
variable {X:Cx} {pos:Pos}
end
def DU (a:Addr) (xs:List (List Int×Addr×Value)):HO:=.ext fun h=>(a == sysModules)=false/\xs.length<=sizeLine/\∃ o es ep,h.get? a=some o/\o.ExactDict/\o.data=.dict es ep /\
 (∃ (P:Program) (w:World),es.toList=xs.map (entryOfKey (tupleKind (intKind P w))))/\(xs.map (·.1)).Nodup
section
variable {X:Cx} {pins:List (Addr×Obj)} {σ:St} {H:Hp} {s:Shared} {a b:Addr} {k:List Int} {xs:List (List Int×Addr×Value)}
end
section
variable {X:Cx} {o i e value:Expr} {pos pos' tpos:Pos} {td ty tv:TE}
end
end L2
namespace L2
open PySem PySem.Spec PyProof.Rows PySem.SeqAt PySem.MeetsSeq
def oK (A:Around) (s:Shared) (y x:Value) (r:Bool):Prop:=∀ (prog:Program) (w:World) (E Q:Value->Shared->Prop),Q (.bool r) s->wpAny (model prog w) A (richCompare .Lt y x) Q E s
def cX (e lt:Nat->Bool) (fin:Bool):List Nat->Bool
 | []=>fin
 | i :: r=>if e i then cX e lt fin r else lt i
theorem Qq (l m:Addr) (a b:Array Value) (n1 n2:Nat) (d1 d2:Option Addr) (s1 s2:Array (Option Value)) (e lt:Nat->Bool) :
  Meets (Builtin.«tuple.__lt__» ⟨[.ref l,.ref m],[]⟩) (fun A R s=>s.heap.get? l=some { cls:=.type "tuple",dict:=d1,data:=.seq a n1,slots:=s1 }/\s.heap.get? m=some { cls:=.type "tuple",dict:=d2,data:=.seq b n2,slots:=s2 } /\
    (∀ j (h1:j < a.size) (h2:j < b.size),EqAt A.in1 s a[j] b[j] (e j))/\(∀ j (h1:j < a.size) (h2:j < b.size),e j=false->oK A.in1 s a[j] b[j] (lt j))/\R (.ok (.ret (.bool (cX e lt (decide (a.size < b.size)) (List.range (min a.size b.size)))))) s) :=
 .of_wp fun prog w A R s h=>by
  obtain ⟨hp,g,d,tk,os⟩:=s
  obtain ⟨hl,hm,he,hlt,h⟩:=h
  have f2:=AutoSeq1.sub_tuple_tuple
  have hZ:(a.toList.zip b.toList).length=min a.size b.size:=by simp
  wp_walk using wpAny_loadPart' hl,wpAny_loadPart' hm,wpAny_forIn_list _ (fun rest q s'=>q.1=none/\s'=⟨hp,g,d,tk,os⟩/\∃ i,rest=(a.toList.zip b.toList).drop i/\R (.ok (.ret (.bool (cX e lt (decide (a.size < b.size)) ((List.range (min a.size b.size)).drop i))))) ⟨hp,g,d,tk,os⟩) _
  case turn =>
   rintro ⟨y,x⟩ rest q s' ⟨hq,rfl,i,hz,hR⟩
   have hil:i < (a.toList.zip b.toList).length:=by
    rcases Nat.lt_or_ge i (a.toList.zip b.toList).length with k | k
    ·exact k
    ·rw [List.drop_of_length_le k] at hz;cases hz
   have hmn:i < min a.size b.size:=hZ ▸ hil
   have g1:i < a.size:=by omega
   have g2:i < b.size:=by omega
   rw [List.drop_eq_getElem_cons hil] at hz
   injection hz with hyx hrest
   have hy:y=a[i]:=by simpa using congrArg Prod.fst hyx
   have hx:x=b[i]:=by simpa using congrArg Prod.snd hyx
   subst hy hx
   have hd:(List.range (min a.size b.size)).drop i=i :: (List.range (min a.size b.size)).drop (i + 1):=by simp [List.drop_eq_getElem_cons,hmn]
   rw [hd,cX] at hR
   refine wpAny_bind (he i g1 g2 prog w _ _ ?_)
   cases hei:e i with
   | true =>
    rw [hei] at hR
    wp_walk
    exact ⟨rfl,rfl,i + 1,hrest,hR⟩
   | false =>
    rw [hei] at hR
    refine wpAny_bind (wpAny_rule (wpAny_bind (hlt i g1 g2 hei prog w _ _ ?_)))
    wp_walk
    exact ⟨_,rfl,hR⟩
  case fin =>
   rintro ⟨q1,q2⟩ s' ⟨hq,rfl,i,hz,hR⟩
   simp only at hq
   subst hq
   have hge:min a.size b.size<=i:=by
    rcases Nat.lt_or_ge i (a.toList.zip b.toList).length with k | k
    ·rw [List.drop_eq_getElem_cons k] at hz;cases hz
    ·exact hZ ▸ k
   rw [List.drop_of_length_le (by simpa using hge),cX] at hR
   wp_walk
   exact ⟨_,rfl,by simpa [Builtin.Tuple.tupleCompareSizes] using hR⟩
  case h =>
   exact ⟨rfl,rfl,0,rfl,by simpa using h⟩
theorem oK.tuples {A:Around} {s:Shared} {l m:Addr} {a b:Array Value} {e lt:Nat->Bool} (hl:s.heap.IsTuple l a) (hm:s.heap.IsTuple m b) (hu:A.units < cLine)
  (he:∀ j (h1:j < a.size) (h2:j < b.size),EqAt A.in1 s a[j] b[j] (e j)) (hlt:∀ j (h1:j < a.size) (h2:j < b.size),e j=false->oK A.in1 s a[j] b[j] (lt j)) :
  oK A s (.ref l) (.ref m) (cX e lt (decide (a.size < b.size)) (List.range (min a.size b.size))):=fun prog w E Q h=>by
 obtain ⟨⟨c1,d1,t1,s1⟩,o1,k1,n1,j1⟩:=hl
 obtain ⟨⟨c2,d2,t2,s2⟩,o2,k2,n2,j2⟩:=hm
 simp only at k1 j1 k2 j2
 subst k1 j1 k2 j2
 exact richCompare_meets_room (op:=.Lt) ⟨_,o1,rfl⟩ ⟨_,o2,rfl⟩ F.slot_tuple_lt F.entry_tuple_lt (F.args_tuple_lt_2 _ _) (Qq l m a b n1 n2 d1 d2 s1 s2 e lt)
  ⟨o1,o2,he,hlt,show Value.bool (cX e lt (decide (a.size < b.size)) (List.range (min a.size b.size)))≠Value.notImplemented/\Q (.bool (cX e lt (decide (a.size < b.size)) (List.range (min a.size b.size)))) s from ⟨(fun x=>nomatch x),h⟩⟩ hu
mutual
def Ai:PyData->PyData->Bool
 | .int a,.int b=>decide (a < b)
 | .tuple xs,.tuple ys=>nG xs ys
 | _,_=>false
def nG:List PyData->List PyData->Bool
 | [],[]=>false
 | [],_ :: _=>true
 | _ :: _,[]=>false
 | x :: xs,y :: ys=>if PyData.eqv x y then nG xs ys else Ai x y
end
mutual
def r9:PyData->PyData->Bool
 | .int _,.int _=>true
 | .tuple xs,.tuple ys=>oM xs ys
 | _,_=>false
def oM:List PyData->List PyData->Bool
 | [],_=>true
 | _ :: _,[]=>true
 | x :: xs,y :: ys=>r9 x y && oM xs ys
end
theorem L0 (e lt:Nat->Bool) (fin:Bool) (f:Nat->Nat):∀ l:List Nat,cX e lt fin (l.map f)=cX (fun i=>e (f i)) (fun i=>lt (f i)) fin l
 | []=>rfl
 | i :: r=>by
  show (if e (f i) then cX e lt fin (r.map f) else lt (f i))=if e (f i) then _ else lt (f i)
  rw [L0 e lt fin f r]
def p5 (xs ys:List PyData) (j:Nat):Bool:=Ai (xs.getD j .none) (ys.getD j .none)
theorem L3:∀ xs ys:List PyData,cX (pairEq xs ys) (p5 xs ys) (decide (xs.length < ys.length)) (List.range (min xs.length ys.length))=nG xs ys
 | [],[]=>rfl
 | [],_ :: _=>by simp [cX,nG]
 | _ :: _,[]=>by simp [cX,nG]
 | x :: xs,y :: ys=>by
  have ih:=L3 xs ys
  have e1:min (x :: xs).length (y :: ys).length=min xs.length ys.length + 1:=by simp only [W2];omega
  have e2:decide ((x :: xs).length < (y :: ys).length)=decide (xs.length < ys.length):=by simp
  rw [e1,e2,List.range_succ_eq_map,cX,L0]
  show (if PyData.eqv x y then cX (pairEq xs ys) (p5 xs ys) (decide (xs.length < ys.length)) (List.range (min xs.length ys.length)) else Ai x y)=_
  rw [ih,nG]
mutual
theorem L5:∀ (da db:PyData) (A:Around) (s:Shared) (a b:Value) (as bs:List Addr),Reads s.heap a da as->Reads s.heap b db bs->r9 da db=true->da.canLay0=true->db.canLay0=true->A.units + min da.depth db.depth < cLine->oK A s a b (Ai da db)
 | .int x,.int y,A,s,_,_,_,_,ra,rb,_,_,_,_=>by
  cases ra with
  | int _ t =>
   cases rb with
   | int _ u=>exact fun prog w E Q h=>richCompare_gives (op:=.Lt) (typeIs_int s _ t) (typeIs_int s _ u) F.slot_int_lt F.entry_int_lt (F.args_int_lt_2 _ _) (gives_int_lt _ _ t u) (fun x=>nomatch x) h
 | .tuple xs,.tuple ys,A,s,_,_,_,_,ra,rb,ok,ha,hb,hu=>by
  cases ra with
  | @tuple l o vs n _ Wb h1 h2 h3 h4 =>
   cases rb with
   | @tuple l' o' vs' n' _ Wc k1 k2 k3 k4 =>
    have t1:s.heap.IsTuple l vs:=⟨_,h1,h2,_,h3⟩
    have t2:s.heap.IsTuple l' vs':=⟨_,k1,k2,_,k3⟩
    have n1:vs.size=xs.length:=by simpa using ReadsAll.length _ _ _ h4
    have n2:vs'.size=ys.length:=by simpa using ReadsAll.length _ _ _ k4
    show oK A s (.ref l) (.ref l') (nG xs ys)
    rw [<- L3 xs ys,<- n1,<- n2]
    refine oK.tuples t1 t2 (room_here hu) (fun j j1 j2=>?_) (fun j j1 j2 _=>?_)
    ·have z:=eqAt_readsAll xs ys A.in1 s vs.toList vs'.toList _ _ h4 k4 ha hb (room_in hu) j (by simpa using j1) (by simpa using j2)
     simpa using z
    ·have z:=L6 xs ys A.in1 s vs.toList vs'.toList _ _ h4 k4 ok ha hb (room_in hu) j (by simpa using j1) (by simpa using j2)
     simpa using z
 | .int _,.none,_,_,_,_,_,_,_,_,ok,_,_,_=>nomatch ok
 | .int _,.bool _,_,_,_,_,_,_,_,_,ok,_,_,_=>nomatch ok
 | .int _,.str _,_,_,_,_,_,_,_,_,ok,_,_,_=>nomatch ok
 | .int _,.list _,_,_,_,_,_,_,_,_,ok,_,_,_=>nomatch ok
 | .int _,.tuple _,_,_,_,_,_,_,_,_,ok,_,_,_=>nomatch ok
 | .int _,.dict _,_,_,_,_,_,_,_,_,ok,_,_,_=>nomatch ok
 | .tuple _,.none,_,_,_,_,_,_,_,_,ok,_,_,_=>nomatch ok
 | .tuple _,.bool _,_,_,_,_,_,_,_,_,ok,_,_,_=>nomatch ok
 | .tuple _,.int _,_,_,_,_,_,_,_,_,ok,_,_,_=>nomatch ok
 | .tuple _,.str _,_,_,_,_,_,_,_,_,ok,_,_,_=>nomatch ok
 | .tuple _,.list _,_,_,_,_,_,_,_,_,ok,_,_,_=>nomatch ok
 | .tuple _,.dict _,_,_,_,_,_,_,_,_,ok,_,_,_=>nomatch ok
 | .none,_,_,_,_,_,_,_,_,_,ok,_,_,_=>by simp [r9] at ok
 | .bool _,_,_,_,_,_,_,_,_,_,ok,_,_,_=>by simp [r9] at ok
 | .str _,_,_,_,_,_,_,_,_,_,ok,_,_,_=>by simp [r9] at ok
 | .list _,_,_,_,_,_,_,_,_,_,ok,_,_,_=>by simp [r9] at ok
 | .dict _,_,_,_,_,_,_,_,_,_,ok,_,_,_=>by simp [r9] at ok
theorem L6:∀ (xs ys:List PyData) (A:Around) (s:Shared) (vs ws:List Value) (as bs:List Addr),ReadsAll s.heap vs xs as->ReadsAll s.heap ws ys bs->oM xs ys=true->PyData.canLayAll0 xs=true->PyData.canLayAll0 ys=true->A.units + min (PyData.depthAll xs) (PyData.depthAll ys) < cLine->∀ j (h1:j < vs.length) (h2:j < ws.length),oK A s vs[j] ws[j] (p5 xs ys j)
 | [],_,_,_,_,_,_,_,ra,_,_,_,_,_,j,h1,_=>by cases ra;exact absurd h1 (Xh _)
 | _ :: _,[],_,_,_,_,_,_,_,rb,_,_,_,_,j,_,h2=>by cases rb;exact absurd h2 (Xh _)
 | x :: xs,y :: ys,A,s,_,_,_,_,ra,rb,ok,ha,hb,hu,j,h1,h2=>by
  have a':x.canLay0=true/\PyData.canLayAll0 xs=true:=by simpa [PyData.canLayAll0] using ha
  have b':y.canLay0=true/\PyData.canLayAll0 ys=true:=by simpa [PyData.canLayAll0] using hb
  have o':r9 x y=true/\oM xs ys=true:=by simpa [oM] using ok
  cases ra with
  | cons r rs =>
   cases rb with
   | cons r' rs' =>
    cases j with
    | zero=>exact L5 x y A s _ _ _ _ r r' o'.1 a'.1 b'.1 (room_head hu)
    | succ j=>exact L6 xs ys A s _ _ _ _ rs rs' o'.2 a'.2 b'.2 (room_tail hu) j (Nat.lt_of_succ_lt_succ h1) (Nat.lt_of_succ_lt_succ h2)
end
section
variable {prog:Program} {w:World} {A:Around} {R:Result->Shared->Prop} {I:Addr} {fp wr:List Addr} {n:Nat} {P:Nat->Value->Prop} {St:Nat->Heap->Prop}
def jP (a b:Heap):Prop:=∀ x o,a.get? x=some o->b.get? x=some o
def xQ (A:Around) (h0:Heap) (P:Nat->Value->Prop) (bt:Nat->Nat->Bool):Prop:=∀ i j vi vj (s:Shared),jP h0 s.heap->P i vi->P j vj->oK A s vi vj (bt i j)
theorem Fe:(toString "min" ++ toString ".loop" : String)="min.loop" := by decide
theorem IF (W:Walks prog w A.in1 I fp wr n P St) (bt:Nat->Nat->Bool) {h0:Heap} (hcmp:xQ A.in1 h0 P bt) (S:Addr) (hSf:S ∉ fp) (xR:h0.get? S=none) (hw0:∀ b∈wr,h0.get? b=none) :
  ∀ (k j:Nat) (s:Shared) (vb:Value) (c:Nat),n - (j + 1)=k->j + 1<=n->St (j + 1) s.heap->P (argBest bt j) vb->jP h0 s.heap->s.heap.get? S=some { cls:=.type "list",dict:=none,data:=.seq #[vb,vb] c,slots:=#[] } ->
  (∀ v h' tk,P (argBest bt (n - 1)) v->jP h0 h'->R (.ok (.ret v)) { s with heap:=h',toks:=tk })->codeAny (model prog w) A (.builtin "min.loop" ⟨[.ref I,.none,.ref S],[]⟩) R s
 | 0,j,s,vb,c,hk,hj,hst,Ff,hK,hS,hR=>by
  have B2:S ∉ wr:=fun z=>hSf (W.sub S z)
  have hin:n=j + 1:=by omega
  subst hin
  refine codeAny_builtin F.entry_min_loop ?_
  rw [Around.under_plainId F.plain_min_loop (A:=A) _]
  show wpAny (model prog w) A.in1 (seqItems? (.ref S) >>= _) _ _ _
  refine wpAny_bind (wpAny_seqItems hS rfl ?_)
  show wpAny (model prog w) A.in1 (tryCatch (pyNext (.ref I)) _ >>= _) _ _ _
  refine wpAny_bind (wpAny_tryCatch (W.done s _ _ hst fun h' tk hk'=>?_))
  have hS':=hk' S _ B2 hS
  show wpAny (model prog w) A.in1 (updateSeq S (fun _=>#[]) >>= _) _ _ _
  refine wpAny_bind (wpAny_updateSeq hS' rfl (wpAny_bind (wpAny_letGo (wpAny_pure (hR vb _ tk Ff fun b o e=>?_)))))
  have hb1:b ∉ wr:=fun z=>by rw [hw0 b z] at e;cases e
  have hb2:S≠b:=fun z=>by rw [<- z,xR] at e;cases e
  exact (Xo _ _ hb2).trans (hk' b o hb1 (hK b o e))
 | k + 1,j,s,vb,c,hk,hj,hst,Ff,hK,hS,hR=>by
  have B2:S ∉ wr:=fun z=>hSf (W.sub S z)
  have hlt:j + 1 < n:=by omega
  refine codeAny_builtin F.entry_min_loop ?_
  rw [Around.under_plainId F.plain_min_loop (A:=A) _]
  show wpAny (model prog w) A.in1 (seqItems? (.ref S) >>= _) _ _ _
  refine wpAny_bind (wpAny_seqItems hS rfl ?_)
  show wpAny (model prog w) A.in1 (tryCatch (pyNext (.ref I)) _ >>= _) _ _ _
  refine wpAny_bind (wpAny_tryCatch (W.item (j + 1) s _ _ hlt hst fun v h' tk hP ur hk'=>?_))
  have hS':=hk' S _ B2 hS
  have B3:jP h0 h':=fun b o e=>hk' b o (fun z=>by rw [hw0 b z] at e;cases e) (hK b o e)
  show wpAny (model prog w) A.in1 (tryCatch (holding [v,v] (richCompare .Lt v vb >>= _)) _ >>= _) _ _ _
  refine wpAny_bind (wpAny_tryCatch (wpAny_holding (wpAny_bind (hcmp (j + 1) (argBest bt j) v vb _ B3 hP Ff prog w _ _ ?_))))
  refine wpAny_bind (wpAny_holding (wpAny_truthy_bool (wpAny_bind (wpAny_letGo (wpAny_pure ?_)))))
  cases hb:bt (j + 1) (argBest bt j) with
  | true =>
   simp only [if_true]
   refine wpAny_bind (wpAny_updateSeq hS' rfl (wpAny_bind (wpAny_letGo ?_)))
   rw [Fe]
   have IG:jP h0 (h'.update S (Obj.mapSeq fun _=>#[v,v])):=fun b o e=>(Xo _ _ (fun z=>by rw [<- z,xR] at e;cases e)).trans (B3 b o e)
   refine wpAny_pure ⟨plainId_quiet F.plain_min_loop _,IF W bt hcmp S hSf xR hw0 k (j + 1) _ v _ (by omega) hlt (W.frame _ _ _ ur fun b IH o e=>?_) (by simp only [argBest,hb,if_true];exact hP) IG (Heap.get?_update_self _ hS' rfl) fun v' h'' sa B4 sd=>hR v' h'' sa B4 sd⟩
   exact (Xo _ _ (fun z:S=b=>hSf (z ▸ IH))).trans e
  | false =>
   simp only [Xz,if_false]
   refine wpAny_bind (wpAny_letGo ?_)
   rw [Fe]
   exact wpAny_pure ⟨plainId_quiet F.plain_min_loop _,IF W bt hcmp S hSf xR hw0 k (j + 1) _ vb c (by omega) hlt ur (by simp only [argBest,hb,Xz,if_false];exact Ff) B3 hS' fun v' h'' sa B4 sd=>hR v' h'' sa B4 sd⟩
theorem Qr (W:Walks prog w A.in1 I fp wr n P St) (bt:Nat->Nat->Bool) {h0:Heap} (hcmp:xQ A.in1 h0 P bt) (S:Addr) (hSf:S ∉ fp) (xR:h0.get? S=none) (hw0:∀ b∈wr,h0.get? b=none) (hn:0 < n) {s:Shared} {c:Nat} (hst:St 0 s.heap) (hK:jP h0 s.heap)
  (hS:s.heap.get? S=some { cls:=.type "list",dict:=none,data:=.seq #[] c,slots:=#[] }) (hR:∀ v h' tk,P (argBest bt (n - 1)) v->jP h0 h'->R (.ok (.ret v)) { s with heap:=h',toks:=tk }) :
  codeAny (model prog w) A (.builtin "min.loop" ⟨[.ref I,.none,.ref S],[]⟩) R s:=by
 have B2:S ∉ wr:=fun z=>hSf (W.sub S z)
 refine codeAny_builtin F.entry_min_loop ?_
 rw [Around.under_plainId F.plain_min_loop (A:=A) _]
 show wpAny (model prog w) A.in1 (seqItems? (.ref S) >>= _) _ _ _
 refine wpAny_bind (wpAny_seqItems hS rfl ?_)
 show wpAny (model prog w) A.in1 (tryCatch (pyNext (.ref I)) _ >>= _) _ _ _
 refine wpAny_bind (wpAny_tryCatch (W.item 0 s _ _ hn hst fun v h' tk hP ur hk'=>?_))
 have hS':=hk' S _ B2 hS
 have B3:jP h0 h':=fun b o e=>hk' b o (fun z=>by rw [hw0 b z] at e;cases e) (hK b o e)
 show wpAny (model prog w) A.in1 (updateSeq S (fun _=>#[v,v]) >>= _) _ _ _
 refine wpAny_bind (wpAny_updateSeq hS' rfl ?_)
 rw [Fe]
 have IG:jP h0 (h'.update S (Obj.mapSeq fun _=>#[v,v])):=fun b o e=>(Xo _ _ (fun z=>by rw [<- z,xR] at e;cases e)).trans (B3 b o e)
 refine wpAny_pure ⟨plainId_quiet F.plain_min_loop _,IF W bt hcmp S hSf xR hw0 _ 0 _ v _ rfl hn (W.frame _ _ _ ur fun b IH o e=>?_) hP IG (Heap.get?_update_self _ hS' rfl) fun v' h'' sa B4 sd=>hR v' h'' sa B4 sd⟩
 exact (Xo _ _ (fun z:S=b=>hSf (z ▸ IH))).trans e
end
section
variable {prog:Program} {w:World} {A:Around} {E:Value->Shared->Prop} {s:Shared}
theorem Qs {p:Addr} {its:Array Value} {bt:Nat->Nat->Bool} {Q:Value->Shared->Prop} (hh:A.handled=none) (hl:s.heap.IsList p its) (hn:0 < its.size) (hcmp:xQ A.in1 s.heap (fun i v=>its[i]?=some v) bt)
  (hQ:∀ v h' tk,its[argBest bt (its.size - 1)]?=some v->jP s.heap h'->Q v { s with heap:=h',toks:=tk }):wpAny (model prog w) A (call (.builtin "min") [.ref p]) Q E s:=by
 have hlt:p < s.heap.objs.size:=by obtain ⟨_,e,_⟩:=hl;exact WU e
 have e0:s.heap.get? s.heap.objs.size=none:=by
  cases q:s.heap.get? s.heap.objs.size with
  | none=>rfl
  | some o=>exact absurd (WU q) (Nat.lt_irrefl _)
 have e1:s.heap.get? (s.heap.objs.size + 1)=none:=by
  cases q:s.heap.get? (s.heap.objs.size + 1) with
  | none=>rfl
  | some o=>exact absurd (WU q) (Nat.not_lt_of_le (Nat.le_succ _))
 refine call_function_tree F.kind_min F.plain_min F.entry_min (F.args_min1 _) ?_
 show wpAny (model prog w) A.in1 (Builtin.Builtins.bindParams "min" ["key","default"] 0 ⟨[],[]⟩ >>= _) _ _ _
 refine wpAny_bind (wpAny_of_eq (show Builtin.Builtins.bindParams "min" ["key","default"] 0 ⟨[],[]⟩=pure [none,none] from rfl) (wpAny_bind (wpAny_pure ?_)))
 refine wpAny_bind (wpAny_pyIter_list hl (wpAny_bind (wpAny_newObj_type ?_)))
 have hsz:(s.heap.push { cls:=.type "list_iterator",data:=.fields #[.ref p,.int 0 0] }).objs.size=s.heap.objs.size + 1:=Heap.size_push ..
 have hne:p≠s.heap.objs.size:=Xb hlt
 rw [Fe]
 have k1:jP s.heap ((s.heap.push { cls:=.type "list_iterator",data:=.fields #[.ref p,.int 0 0] }).push { cls:=.type "list",data:=.seq #[] }):=fun b o e=>WM _ (WM _ e)
 refine wpAny_pure ⟨plainId_quiet F.plain_min_loop _,?_⟩
 show codeAny (model prog w) A (.builtin "min.loop" ⟨[.ref s.heap.objs.size,.none,.ref (s.heap.push { cls:=.type "list_iterator",data:=.fields #[.ref p,.int 0 0] }).objs.size],[]⟩) _ _
 rw [hsz]
 refine Qr (c:=0) (Walks.list (A:=A.in1) hh s.heap.objs.size p hne its) bt hcmp (s.heap.objs.size + 1) (fun z=>?_) e1 (fun b hb=>?_) hn ?_ k1 ?_ fun v h' tk hv hk=>hQ v h' tk hv hk
 ·rcases W0.mp z with z | z
  ·exact absurd z (Nat.succ_ne_self _)
  ·have:s.heap.objs.size + 1=p:=WQ.mp z
   exact absurd hlt (by rw [<- this];exact Nat.not_lt_of_le (Nat.le_succ _))
 ·rw [WQ.mp hb];exact e0
 ·exact ⟨⟨_,WM _ (WV _ rfl),rfl,rfl⟩,(hl.push _).push _⟩
 ·rw [<- hsz];exact WV _ rfl
end
theorem II {h:Heap}:∀ {us:List Value} {ds:List PyData} {as:List Addr} {i:Nat} {v:Value},ReadsAll h us ds as->us[i]?=some v->∃ as',Reads h v (ds.getD i .none) as'/\ds.getD i .none∈ds
 | _,_,_,_,_,.nil,e=>by simp at e
 | _,_,_,0,_,.cons r _,e=>by simp at e;subst e;exact ⟨_,r,WA⟩
 | _,_,_,i + 1,v,.cons _ rs,e=>by
  obtain ⟨as',r,m⟩:=II (i:=i) (v:=v) rs (by simpa using e)
  exact ⟨as',r,WK _ m⟩
section
variable {X:Cx}
def uu (ds:List PyData) (i j:Nat):Bool:=Ai (ds.getD i .none) (ds.getD j .none)
def oi (ds:List PyData):Nat:=argBest (uu ds) (ds.length - 1)
def vz (K:Zfr):List V->Hp->VK->Prop:=fun xs H Q=>∃ (p:Addr) (vs:List V) (ds:List PyData),xs=[.ref p]/\jy K H p vs/\fY K H vs ds/\0 < ds.length/\(∀ a∈ds,∀ b∈ds,r9 a b=true)/\(∀ a∈ds,a.canLay0=true/\a.depth<=50)/\∃ v,vs[oi ds]?=some v/\Q v H
theorem L7 (hc:X.calm=true) (hu:X.A.units + 64 < cLine):fV X (.builtin "min") (vz X.K):=by
 intro pins s σ H xs us Q I r h
 obtain ⟨p,vs,ds,rfl,hq,hr,hn,hok,hlay,v0,hv0,q⟩:=h
 obtain ⟨u,rfl,ru⟩:=vals1 r
 cases ru
 obtain ⟨its,rv,pl,_⟩:=I.list hq
 obtain ⟨as,ra⟩:=fY.reads I hr rv
 have hlen:its.length=ds.length:=ReadsAll.length _ _ _ ra
 refine Qs (bt:=uu ds) (I.ok.hd hc) pl.isList (by rw [WL];omega) (fun i j vi vj s' hK hi hj=>?_) fun v h' tk hv hk=>?_
 ·have hi':its[i]?=some vi:=by simpa using hi
  have hj':its[j]?=some vj:=by simpa using hj
  obtain ⟨a1,r1,m1⟩:=II ra hi'
  obtain ⟨a2,r2,m2⟩:=II ra hj'
  have b1:=(hlay _ m1).2
  have b2:=(hlay _ m2).2
  exact L5 _ _ _ s' _ _ _ _ (Reads.keeps hK r1) (Reads.keeps hK r2) (hok _ m1 _ m2) (hlay _ m1).1 (hlay _ m2).1 (by show X.A.units + 1 + _ < cLine;omega)
 ·have hv':its[oi ds]?=some v:=by
   have e:its.toArray.size - 1=ds.length - 1:=by rw [WL,hlen]
   rw [e] at hv
   unfold oi
   simpa using hv
  obtain ⟨u,L8,ru⟩:=Vals.get rv hv0
  rw [hv'] at L8
  cases L8
  exact ⟨v0,H,I.kept hk,ru,q⟩
end
end L2
namespace L2
open PySem PySem.Spec PyProof.Rows PySem.W
section
variable {lt:Nat->Nat->Bool} {n0:Nat} {cmp:Nat->Nat->(Bool->Shared->Prop)->Shared->Prop} {s:Shared}
structure Ord (lt:Nat->Nat->Bool):Prop where
 tr:∀ a b c,lt b a=false->lt c b=false->lt c a=false
 as:∀ a b,lt a b=true->lt b a=false
def P (p:Array Nat) (i:Nat):Nat:=p.getD i 0
variable (o:Ord lt) (hn:0 < n0) (hc:∀ i j (C:Bool->Shared->Prop),i < n0->j < n0->C (lt i j) s->cmp i j C s)
include o hn hc
end
section
variable {prog:Program} {w:World} {A:Around} {E:Value->Shared->Prop} {s:Shared}
end
section
variable {prog:Program} {w:World} {A:Around} {E:Value->Shared->Prop} {s:Shared} {lt:Nat->Nat->Bool}
end
section
variable {X:Cx}
end
end L2
namespace L2
open PySem PySem.Spec PyProof.Rows
section
variable {X:Cx} {o e f:Expr} {apos cpos:Pos} {td ty tx:TE}
end
end L2
namespace L2
open PySem PySem.Spec PyProof.Rows PySem.W
section
variable {X:Cx} {o e:Expr} {t t' td:TE} {apos cpos pos p:Pos}
end
end L2
namespace L2
open PySem PySem.Spec PyProof.Rows
section
variable {X:Cx} {body:List Stmt} {h₀:ExceptHandler} {hs:List ExceptHandler} {pos:Pos} {t:TS}
end
section
variable {X:Cx} {K:Zfr}
end
open Builtin
end L2
namespace L2
open PySem PySem.Spec PyProof.Rows
section
variable {X:Cx} {K:Zfr}
theorem IJ:∀ {ns:List Int} {us:List Value} {i:Nat} {v:Value},Vals (ns.map V.int) us->us[i]?=some v->∃ n t,ns[i]?=some n/\v=.int n t
 | [],_,i,v,r,h=>by cases r;simp at h
 | b :: bs,_,0,v,r,h=>by
  cases r with
  | cons r1 r2 =>
   obtain ⟨t,rfl⟩:=r1
   simp at h
   exact ⟨b,t,rfl,h.symm⟩
 | b :: bs,_,i + 1,v,r,h=>by
  cases r with
  | cons r1 r2 =>
   obtain ⟨c,t,e1,e2⟩:=IJ (i:=i) r2 (by simpa using h)
   exact ⟨c,t,by simpa using e1,e2⟩
def nU (ns:List Int) (i j:Nat):Bool:=decide (ns.getD i 0 > ns.getD j 0)
theorem Qu (hc:X.calm=true):fV X (.builtin "max") (fun xs H Q=>∃ (p:Addr) (ns:List Int),xs=[.ref p]/\jy X.K H p (ns.map V.int)/\0 < ns.length/\∀ m,ns[argBest (nU ns) (ns.length - 1)]?=some m->Q (.int m) H):=by
 intro pins s σ H xs us Q I r h
 obtain ⟨p,ns,rfl,hq,hn,q⟩:=h
 obtain ⟨u,rfl,ru⟩:=vals1 r
 cases ru
 obtain ⟨its,rv,pl,_⟩:=I.list hq
 have hl:=pl.isList
 have hlt:p < s.heap.objs.size:=by obtain ⟨_,e,_⟩:=hl;exact WU e
 have hlen:=rv.length
 rw [Wv] at hlen
 have hh:X.A.in1.handled=none:=I.ok.hd hc
 refine call_max_walk (wpAny_pyIter_list hl ?_)
 refine ⟨s.heap.objs.size,[s.heap.objs.size,p],[s.heap.objs.size],its.toArray.size,_,_,nU ns,rfl,Walks.list (A:=X.A.in1) hh _ p (Xb hlt) its.toArray,⟨⟨_,WV _ rfl,rfl,rfl⟩,hl.push _⟩,?_,by rw [WL];omega,CmpOf.ints_gt (fun i=>ns.getD i 0) ?_,fun v h' tk hP hk=>?_⟩
 ·intro b hb
  have hz:(s.heap.push { cls:=.type "list_iterator",data:=.fields #[.ref p,.int 0 0] }).objs.size=s.heap.objs.size + 1:=size_push' _ _
  show b < (s.heap.push { cls:=.type "list_iterator",data:=.fields #[.ref p,.int 0 0] }).objs.size
  rw [hz]
  rcases W0.mp hb with rfl | hb
  ·exact Xm _
  ·rw [WQ.mp hb]
   exact Nat.lt_succ_of_lt hlt
 ·intro i v hP
  obtain ⟨n,t,e1,e2⟩:=IJ rv (by simpa using hP)
  exact ⟨t,by rw [e2,WN,e1];rfl⟩
 ·obtain ⟨n,t,e1,e2⟩:=IJ rv (by simpa using hP)
  rw [e2]
  rw [<- hlen] at e1
  exact ⟨.int _,H,I.kept (PyProof.Rows.LSm.kept_iter hk),⟨_,rfl⟩,q n e1⟩
end
end L2
namespace L2
open PySem PySem.Spec PyProof.Rows PySem.W
section
variable {prog:Program} {w:World} {A:Around} {E:Value->Shared->Prop} {s:Shared}
end
end L2
namespace L2
open PySem PySem.Spec PyProof.Rows
section
variable {M:Model} {A:Around} {E:Value->Shared->Prop} {s:Shared}
end
def Qv:Option Addr->Value
 | none=>.none
 | some T=>.ref T
def XO (a C:Addr) (dx tr:Option Addr):HO:=.ext fun h=>∃ o vs,h.get? a=some o/\o.cls=.ref C/\o.dict=dx/\o.data=.fields vs/\vs[1]?=some (Qv tr)
section
variable {P:Program} {w:World} {H H' H2:Hp} {h h':Heap} {a C T:Addr} {dx tr:Option Addr} {o:HO}
end
section
variable {X:Cx} {pins:List (Addr×Obj)} {σ:St} {H:Hp} {s:Shared} {a C:Addr} {dx:Option Addr}
end
section
variable {P:Program} {w:World} {K:Zfr} {mg:Str->Option Value} {base:Heap} {N:List Str} {qual:Str} {scope:Scope} {f:Addr} {cd:Value} {A:Around} {outer:List Env} {s0:Shared} {H0:Hp} {E:XK}
end
section
open PySem.W
end
section
variable {X:Cx} {pins:List (Addr×Obj)} {σ:St} {H:Hp} {s:Shared} {a C:Addr} {dx:Option Addr}
end
section
variable {P:Program} {w:World} {K:Zfr} {mg:Str->Option Value} {base:Heap} {N:List Str} {qual:Str} {scope:Scope} {f:Addr} {cd:Value} {A:Around} {outer:List Env} {s0:Shared} {H0:Hp} {E:XK}
end
section
variable {X:Cx} {pins:List (Addr×Obj)} {σ:St} {H:Hp} {s:Shared} {W:St->Addr->Hp->Prop} {a:Addr}
end
section
variable {X:Cx} {i:Nat} {x n:Str} {F:Addr} {bmB:List Value} {newId:String} {tb:(St->Addr->Hp->Prop)->TS} {ts:TS} {body suite:List Stmt} {b0:Stmt} {np hpos pos:Pos}
end
section
variable {X:Cx} {k:Nat} {f:Addr} {fd:FuncData} {ps:List Str} {sp:Sp} {x:Str} {p pos:Pos} {e:Expr} {es:List Expr} {t:TA} {pins:List (Addr×Obj)} {W:St->Addr->Hp->Prop}
end
end L2
namespace L2
open PySem PySem.Spec PyProof.Rows PySem.W
section
variable {prog:Program} {w:World} {A:Around} {E:Value->Shared->Prop} {s:Shared} {K:Frag} {a C:Addr} {ox:Obj} {odo:Option Obj} {name:Str}
end
section
variable {X:Cx} {x:Str} {c:Value} {v:V} {p pos:Pos} {e:Expr} {te:TE} {b:Bool}
end
end L2
namespace L2
open PySem PySem.Spec PyProof.Rows
section
variable {X:Cx}
end
end L2
namespace L2
open PySem PySem.Spec PyProof.Rows PySem.W PySem.Builtin PySem.Builtin.ObjectAttr
section
variable {prog:Program} {w:World} {A:Around} {E:Value->Shared->Prop} {s:Shared} {K:Frag} {a C:Addr} {ox:Obj} {odo:Option Obj} {name:Str} {v:Value}
end
section
variable {X:Cx} {pins:List (Addr×Obj)} {σ:St} {H:Hp} {s:Shared} {a C:Addr} {tr:Option Addr} {f:Str} {y:V} {u:Value}
variable {o value:Expr} {ta tv:TE} {pos pos':Pos}
end
end L2
namespace L2
open PySem PySem.Spec PyProof.Rows PySem.W
section
variable {prog:Program} {w:World} {A:Around} {E:Value->Shared->Prop} {h:Heap} {g:Array GenState} {d:Drawn} {t:Nat} {os:OsState}
variable {nm q:Str} {C N:Addr} {bs bm bmB:List Value} {hdct:Bool} {sn:List Str} {sub:List Value} {ab:Bool} {col:Option Bool} {dd:Option Addr} {k0 k1 k2 k3 k5:Option Value} {B newId initId:String}
end
section
variable {X:Cx} {k:Nat} {f C:Addr} {fd:FuncData} {ps:List Str} {sp:Sp} {x:Str} {p pos:Pos} {e:Expr} {es:List Expr} {t:TA} {B newId initId:String} {bmB:List Value}
end
section
variable {P:Program} {w:World} {K:Frag} {mg:Str->Option Value} {base:Heap} {N:List Str} {qual:Str} {scope:Scope} {f:Addr} {cd:Value} {A:Around} {outer:List Env} {s0:Shared} {H0:Hp} {E:XK}
end
section
variable {X:Cx} {e:Expr} {te:TE} {f:Str} {pos:Pos}
end
end L2
namespace L2
open PySem PySem.Spec PyProof.Rows
section
variable {X:Cx} {K:Zfr}
def qq (K:Zfr):V->List V->Hp->VK->Prop:=fun x vs H Q=>∃ (a:Addr) (ys:List V) (ds:List PyData) (y:V) (dy:PyData) (j:Nat),x=.ref a/\vs=[y]/\jy K H a ys/\fY K H ys ds/\Rep K H y dy/\(∀ d∈ds,PyData.canLay0 d=true)/\PyData.canLay0 dy=true/\PyData.depth dy<=60 /\
 ds.length<=1000/\(∃ d,ds[j]?=some d/\PyData.eqv d dy=true)/\(∀ i d,i < j->ds[i]?=some d->PyData.eqv d dy=false)/\Q (.int (j:Int)) H
theorem L9 (hu:X.A.units + 64 < cLine):vd X "list.index" (qq X.K):=by
 intro pins s σ H x xs v us Q I rx rv h
 obtain ⟨a,ys,ds,y,dy,j,rfl,rfl,hq,hr,hy,c1,c2,c3,hl,hit,hno,q⟩:=h
 cases rx
 obtain ⟨u,rfl,ru⟩:=vals1 rv
 obtain ⟨its,r,pl,hz⟩:=I.list hq
 obtain ⟨⟨c,dd,dt,sl⟩,e,hc,n,hdt⟩:=pl.isList
 cases (show c=.type "list" from hc)
 cases (show dt=.seq its.toArray n from hdt)
 have hlen:its.length=ds.length:=by rw [<- r.length];exact hr.uq
 obtain ⟨d0,hd0,Qw⟩:=hit
 have hjl:j < ds.length:=(Ww.mp hd0).1
 have rd:∀ (i:Nat) (w:Value) (d:PyData),its[i]?=some w->ds[i]?=some d->∃ as,Reads s.heap w d as:=fun i w d h1 h2=>by
  obtain ⟨z,hz',rz⟩:=r.BX h1
  obtain ⟨d',hd',rp⟩:=hr.get hz'
  rw [h2] at hd'
  cases hd'
  exact rp.reads I rz
 refine call_meets F.slot_list_index ⟨_,e,rfl⟩ F.entry_list_index (F.args_list_index_2 _ _) (PySem.SeqAt.list_indexAt a its.toArray n dd sl u (eD its ds dy) j (by simp;omega) (by omega) ?_ fun m hm Qx=>?_) ⟨e,fun z hz=>?_,⟨.int _,H,I.tok _,⟨_,rfl⟩,q⟩⟩
 ·unfold eD
  refine @decide_eq_true _ (Classical.propDecidable _) ⟨j,d0,?_,hd0,Qw⟩
  simp [show j < its.length by omega]
 ·unfold eD
  refine @decide_eq_false _ (Classical.propDecidable _) ?_
  rintro ⟨i,d,h1,h2,h3⟩
  have hm2:m < its.length:=by simpa using hm
  have Qy:its[m]?=some (its.toArray[m]):=by simp [hm2]
  obtain ⟨dm,Ma⟩:∃ dm,ds[m]?=some dm:=⟨ds[m]'(by omega),Wx _⟩
  obtain ⟨as,ra⟩:=rd i _ d h1 h2
  obtain ⟨bs,rb⟩:=rd m _ dm Qy Ma
  have ed:d=dm:=(Reads.unique ra _ _ rb).1
  rw [ed,hno m dm Qx Ma] at h3
  cases h3
 ·exact IC hu I r hr ru hy c1 c2 (by first | exact c3 | (intro d hd;omega)) z (by simpa using hz)
end
section
variable {X:Cx}
def vA (i j:Int):Prop:=j≠0/\j.natAbs.log2 < 9000
theorem Qz:kR X (binaryOp .FloorDiv) (rI vA fun i j=>.int (i.fdiv j)):=zV fun _ j _ _ _ _ _ hc q=>floordiv_int hc.1 q (.inl (PyProof.noPylong_of_log2 hc.2))
end
open Builtin
def P2 (k:Nat):Nat:=2 ^ k
theorem Mb (a b:Nat):P2 a * P2 b=P2 (a + b):=(Nat.pow_add 2 a b).symm
theorem B5 {a b:Nat} (h:a<=b):P2 a<=P2 b:=Nat.pow_le_pow_right (by decide) h
theorem Aj (a:Nat):0 < P2 a:=Nat.two_pow_pos a
theorem xS (a n:Nat):P2 a ^ n=P2 (a * n):=(Nat.pow_mul 2 a n).symm
theorem uv (a:Nat):P2 (a + 1)=2 * P2 a:=by unfold P2;rw [Nat.pow_succ,Nat.mul_comm]
theorem Mc (a:Nat):a < P2 a:=Nat.lt_two_pow_self
def qr (i j:Int):Prop:=rK i j\/(Builtin.Int.intBits i<=60000000/\Builtin.Int.intBits j<=60000000)
theorem vB {i:Int} {k:Nat} (h:i.natAbs < P2 k) (hk:k<=60000000):Builtin.Int.intBits i<=60000000:=WO (PyProof.Rows.intBits_le h) hk
theorem qr.ok {i j:Int} (h:qr i j):IntMulOk i j:=by
 rcases h with h | ⟨h1,h2⟩
 ·exact h.ok
 ·exact PyProof.Rows.mulOk_of_bits (m:=60000000) (n:=60000000) h1 h2 (by decide)
section
variable {X:Cx}
theorem nV:kR X (binaryOp .Mult) (rI qr fun i j=>.int (i * j)):=zV fun _ _ _ _ _ _ _ hc q=>mul_int q hc.ok
end
end L2
namespace L2
open PySem PySem.Spec PySem.W PyProof.Rows
structure xT (K:Zfr) (x qual:Str) (st:Stmt) (f:Addr) (fd:FuncData):Prop where
 ex:∃ (oc:Value) (od:Option Addr) (dV kV doc pm:Value) (an:Option Addr) (cdv ct:Value) (osl:Array (Option Value)),
  fd=PySem.W.fnOf x qual (fq st) (du st) (au st) dV kV doc pm an cdv ct/\K.lookup f=some ⟨oc,od,.func fd,osl⟩/\PySem.W.codeIn K cdv qual=true
 kp:PySem.W.keepIn K (.ref f)=true
theorem xT.ok {P:Program} {w:World} {K:Zfr} {mg:Str->Option Value} {base:Heap} {x qual:Str} {st:Stmt} {f:Addr} {fd:FuncData} {N ps:List Str} {k:Nat} {sp:Sp} (F:xT K x qual st f fd) (S:aD N ps (au st)) (len:∀ vs H Q E,sp vs H Q E->vs.length=ps.length)
  (hbody:∀ (cdv:Value) (A:Around) (outer:List Env) (s:Shared) (H:Hp) (vs:List V) (Q:VK) (E:XK),gw k (A.deeper (envOfC qual (au st) s.heap.objs.size f cdv))->sp vs H Q E ->
   ∃ t,qg (g9 a7 P w K mg base N qual (au st) f cdv A outer s H E).n8 (du st) t/\t { nx:=fun _ H'=>Q .non H',rt:=Q } (start N vs) H):aE P w K mg base a7 (k + 1) f fd ps sp:=by
 obtain ⟨oc,od,dV,kV,doc,pm,an,cdv,ct,osl,rfl,lk,hcd⟩:=F.ex
 refine u9 lk hcd S len fun A outer s H vs Q E hr rf=>?_
 obtain ⟨t,h,q⟩:=hbody cdv A outer s H vs Q E hr rf
 exact ⟨t,h.n8,q⟩
structure se (K:Zfr) (mg:Str->Option Value) (x:Str) (st:Stmt) (ps:List Str) (oa:List V) (f:Addr) (fd:FuncData):Prop where
 F:xT K x x st f fd
 b:Binds K fd ps []
 bd:∃ ds,Vals oa ds/\Binds K fd ps ds
 m:mg x=some (.ref f)
def sf (x:Str) (st:Stmt) (ps:List Str) (d m:Nat):Prop :=
 ∀ (T:Addr) (kV doc pm:Value) (an:Option Addr) (cdv ct:Value) (us ds:List Value),us.length=m->ds.length=d ->
  ∃ k:Option (Array Value)->Sem (List (Str×Value)),bindArgs (PySem.W.fnOf x x (fq st) (du st) (au st) (.ref T) kV doc pm an cdv ct) ⟨us,[]⟩=seqItems? (.ref T) >>= k/\k (some ds.toArray)=pure (ps.zip (us ++ ds.drop (m + d - ps.length)))
theorem QA {K:Zfr} {h:Heap} {mg:Str->Option Value} (X:K.In h) (G:h.Ns mainGlobals mg) {x:Str} {st:Stmt} {ps:List Str} {oa:List V} {f T:Addr} {oc QB:Value} {od an od':Option Addr} {osl IK:Array (Option Value)} {kV doc pm cdv ct:Value} {its:Array Value} {n d:Nat}
  (hl:d<=ps.length) (hb:sf x st ps d (ps.length - d)) (hb2:sf x st ps d ps.length)
  (a:PySem.W.nsIn K mainGlobals x=some (some (.ref f))) (l:K.lookup f=some ⟨oc,od,.func (PySem.W.fnOf x x (fq st) (du st) (au st) (.ref T) kV doc pm an cdv ct),osl⟩)
  (lT:K.lookup T=some ⟨QB,od',.seq its n,IK⟩) (ei:its.toList.length=d) (hv:Vals oa its.toList)
  (c:PySem.W.codeIn K cdv x=true) (k:PySem.W.keepIn K (.ref f)=true):∃ f fd,se K mg x st ps oa f fd:=by
 have key:∀ m (s:Shared) (us:List Value),sf x st ps d m->K.In s.heap->us.length=m->BindsTo s (PySem.W.fnOf x x (fq st) (du st) (au st) (.ref T) kV doc pm an cdv ct) ⟨us,[]⟩ (ps.zip (us ++ its.toList.drop (m + d - ps.length))):=fun m s us h KX hu=>by
  obtain ⟨kk,h1,h2⟩:=h T kV doc pm an cdv ct us its.toList hu ei
  exact BindsTo.of_defaults rfl (KX _ _ lT) rfl h1 (by rw [Array.toArray_toList] at h2;exact h2)
 refine ⟨f,_,⟨⟨oc,od,.ref T,kV,doc,pm,an,cdv,ct,osl,rfl,l,c⟩,k⟩,fun s us KX hu=>?_,⟨its.toList,hv,fun s us KX hu=>?_⟩,PySem.W.mg_of X G a⟩
 ·rw [List.append_nil] at hu ⊢
  have:=key ps.length s us hb2 KX hu
  rw [show ps.length + d - ps.length=its.toList.length by omega,List.drop_length,List.append_nil] at this
  exact this
 ·rw [Wz] at hu
  have:=key (ps.length - d) s us hb KX (by omega)
  rw [show ps.length - d + d - ps.length=0 by omega,List.drop_zero] at this
  exact this
section
variable {X:Cx} {CX:qh} {k:Nat} {f:Addr} {fd:FuncData} {ps:List Str} {sp:Sp} {x:Str} {oa:List V} {E:XK} {e:Expr} {es:List Expr} {t:TA} {p pos:Pos}
theorem QC (F:aE X.prog X.w X.K X.mg X.base CX k f fd ps sp) (hr:gw k X.A) (hg:Gl X x) (hm:X.mg x=some (.ref f)) (hk:PySem.W.keepIn X.K (.ref f)=true) (hb:∃ ds,Vals oa ds/\Binds X.K fd ps ds) (hx:Passes CX X E)
  (ha:PA X (e :: es) t) (hdb:(x == ("__debug__" : Str))=false:=by decide) (he:starEach (e :: es) X.env=(false,eval e X.env) :: starEach es X.env:=by rfl) (hpl:(backTo pos (starEach es X.env)).any (·.1)=false:=by rfl) :
  PE X (.Call (.Name x p) (e :: es) [] pos) (pj sp oa E t):=by
 obtain ⟨ds,hd,hb⟩:=hb
 exact K4 F hr hg hm hk hb hd hx ha hdb he hpl
end
end L2
namespace af
def upto (n:Nat):List Int:=(List.range n).map fun (k:Nat)=>(k:Int)
theorem pk (n:Nat):(upto n).length=n:=by simp [upto]
theorem nh {n:Nat} {x:Int}:x∈upto n↔0<=x/\x < (n:Int):=by
 simp only [upto,WR,List.mem_range]
 constructor
 ·rintro ⟨k,hk,rfl⟩;omega
 ·rintro ⟨h1,h2⟩;exact ⟨x.toNat,by omega,by omega⟩
theorem QD (n:Nat):(upto n).Pairwise (· < ·):=by
 unfold upto
 rw [List.pairwise_map]
 exact (List.pairwise_lt_range).imp fun h=>by omega
theorem Md (n:Nat):(upto n).Nodup:=(QD n).imp fun h=>by omega
theorem Fg:∀ {xs ys:List Int},xs.Nodup->(∀ x∈xs,x∈ys)->ys.length<=xs.length->xs.Perm ys
 | [],ys,_,_,h=>by
  have:ys=[]:=List.eq_nil_of_length_eq_zero (by simpa using h)
  subst this;exact List.Perm.refl _
 | x :: xs,ys,hn,hs,hl=>by
  obtain ⟨h1,h2⟩:=List.nodup_cons.mp hn
  have hx:x∈ys:=hs x WA
  have hp:=List.perm_cons_erase hx
  have hlen:(ys.erase x).length + 1=ys.length:=by have:=hp.length_eq;simpa using this.symm
  refine List.Perm.trans (List.Perm.cons x (Fg (ys:=ys.erase x) h2 (fun y hy=>?_) ?_)) hp.symm
  ·have hne:y≠x:=fun e=>h1 (e ▸ hy)
   exact (List.mem_erase_of_ne hne).mpr (hs y (WK _ hy))
  ·simp at hl;omega
theorem IL {xs:List Int} (hn:xs.Nodup) (hb:∀ x∈xs,0<=x/\x < (xs.length:Int)):xs.Perm (upto xs.length):=by
 exact Fg hn (fun x hx=>nh.mpr (hb x hx)) (by rw [pk];exact Wy _)
end af
namespace af
def app (xs:List Int) (i:Int):Int:=xs.getD i.toNat 0
def bB (xs:List Int) (i:Int):Nat->Int
 | 0=>i
 | j + 1=>app xs (bB xs i j)
def Tn (n:Nat) (xs:List Int):Prop:=xs.Perm (upto n)
theorem Tn.length {n:Nat} {xs:List Int} (h:Tn n xs):xs.length=n:=by rw [h.length_eq,pk]
theorem Tn.nodup {n:Nat} {xs:List Int} (h:Tn n xs):xs.Nodup:=h.nodup_iff.mpr (Md n)
theorem Tn.bound {n:Nat} {xs:List Int} (h:Tn n xs) {x:Int} (hx:x∈xs):0<=x/\x < (n:Int):=nh.mp (h.subset hx)
theorem pq {xs:List Int} {i:Int} (h0:0<=i) (h1:i < (xs.length:Int)):xs[i.toNat]?=some (app xs i):=by
 have:i.toNat < xs.length:=by omega
 unfold app
 rw [WN,Wx this];rfl
theorem QE {xs:List Int} {i:Int} (h0:0<=i) (h1:i < (xs.length:Int)):app xs i∈xs:=WG (pq h0 h1)
theorem Tn.app {n:Nat} {xs:List Int} (h:Tn n xs) {i:Int} (h0:0<=i) (h1:i < (n:Int)):0<=app xs i/\app xs i < (n:Int):=h.bound (QE h0 (by rw [h.length];exact h1))
theorem Tn.inj {n:Nat} {xs:List Int} (h:Tn n xs) {i j:Int} (i0:0<=i) (i1:i < (n:Int)) (j0:0<=j) (j1:j < (n:Int)) (e:af.app xs i=af.app xs j):i=j:=by
 have hl:=h.length
 have a:=pq i0 (by rw [hl];exact i1)
 have b:=pq j0 (by rw [hl];exact j1)
 rw [e] at a
 obtain ⟨ha,ea⟩:=Ww.mp a
 obtain ⟨hb,eb⟩:=Ww.mp b
 have:=(List.getElem_inj h.nodup).mp (ea.trans eb.symm)
 omega
theorem Tn.bB {n:Nat} {xs:List Int} (h:Tn n xs) {i:Int} (h0:0<=i) (h1:i < (n:Int)):∀ j,0<=bB xs i j/\bB xs i j < (n:Int)
 | 0=>⟨h0,h1⟩
 | j + 1=>h.app (h.bB h0 h1 j).1 (h.bB h0 h1 j).2
theorem Tn.back {n:Nat} {xs:List Int} (h:Tn n xs) {i:Int} (h0:0<=i) (h1:i < (n:Int)):∀ (a d:Nat),af.bB xs i a=af.bB xs i (a + d)->af.bB xs i d=i
 | 0,d,e=>by rw [Nat.zero_add] at e;exact e.symm
 | a + 1,d,e=>by
  have e':af.app xs (af.bB xs i a)=af.app xs (af.bB xs i (a + d)):=by
   have:a + 1 + d=(a + d) + 1:=by omega
   rw [this] at e
   exact e
  exact h.back h0 h1 a d (h.inj (h.bB h0 h1 a).1 (h.bB h0 h1 a).2 (h.bB h0 h1 _).1 (h.bB h0 h1 _).2 e')
theorem Ak:∀ {xs ys:List Int},xs.Nodup->(∀ x∈xs,x∈ys)->xs.length<=ys.length
 | [],_,_,_=>W8 _
 | x :: xs,ys,hn,hs=>by
  obtain ⟨h1,h2⟩:=List.nodup_cons.mp hn
  have hx:x∈ys:=hs x WA
  have hp:=List.perm_cons_erase hx
  have hlen:(ys.erase x).length + 1=ys.length:=by have:=hp.length_eq;simpa using this.symm
  have:=Ak (ys:=ys.erase x) h2 fun y hy=>(List.mem_erase_of_ne (a:=y) (b:=x) (fun e=>h1 (by rw [<- e];exact hy))).mpr (hs y (WK _ hy))
  simp only [W2]
  omega
def row (xs:List Int) (i:Int) (m:Nat):List Int:=(List.range (m + 1)).map (bB xs i)
theorem Me (xs:List Int) (i:Int) (m:Nat):row xs i (m + 1)=row xs i m ++ [bB xs i (m + 1)]:=by
 unfold row;rw [List.range_succ,WS];rfl
theorem tI (xs:List Int) (i:Int) (m:Nat):(row xs i m).length=m + 1:=by simp [row]
theorem Fh {xs:List Int} {i:Int} {m:Nat} {x:Int}:x∈row xs i m↔∃ j,j<=m/\bB xs i j=x:=by
 unfold row
 rw [WR]
 constructor
 ·rintro ⟨j,hj,e⟩;exact ⟨j,by have:=List.mem_range.mp hj;omega,e⟩
 ·rintro ⟨j,hj,e⟩;exact ⟨j,List.mem_range.mpr (by omega),e⟩
def NB (xs:List Int) (i:Int) (m:Nat):Prop:=∀ j,1<=j->j<=m->bB xs i j≠i
theorem Tn.kU {n:Nat} {xs:List Int} (h:Tn n xs) {i:Int} (h0:0<=i) (h1:i < (n:Int)) {m:Nat} (nb:NB xs i m):m + 1<=n:=by
 have hn:(row xs i m).Nodup:=by
  unfold row List.Nodup
  rw [List.pairwise_map]
  refine List.Pairwise.imp_of_mem (R:=fun a b=>a < b) ?_ List.pairwise_lt_range
  intro a b ha hb hab e
  have ha':=List.mem_range.mp ha
  have hb':=List.mem_range.mp hb
  obtain ⟨d,rfl⟩:∃ d,b=a + d:=⟨b - a,by omega⟩
  exact nb d (by omega) (by omega) (h.back h0 h1 a d e)
 have:=Ak hn (ys:=upto n) fun x hx=>by
  obtain ⟨j,_,rfl⟩:=Fh.mp hx
  exact nh.mpr (h.bB h0 h1 j)
 rw [tI,pk] at this
 exact this
structure iG (xs:List Int) (i:Int) (r:List Int):Prop where
 ex:∃ m,r=row xs i m/\NB xs i m/\bB xs i (m + 1)=i
theorem iG.mem {xs:List Int} {i:Int} {r:List Int} (a:iG xs i r):i∈r:=by
 obtain ⟨m,e1,_,_⟩:=a.ex
 rw [e1];exact Fh.mpr ⟨0,W8 _,rfl⟩
theorem iG.len {n:Nat} {xs:List Int} (h:Tn n xs) {i:Int} (h0:0<=i) (h1:i < (n:Int)) {r:List Int} (a:iG xs i r):r.length<=n:=by
 obtain ⟨m,e1,nb,_⟩:=a.ex
 rw [e1,tI];exact h.kU h0 h1 nb
theorem iG.bound {n:Nat} {xs:List Int} (h:Tn n xs) {i:Int} (h0:0<=i) (h1:i < (n:Int)) {r:List Int} (a:iG xs i r):∀ x∈r,0<=x/\x < (n:Int):=by
 obtain ⟨m,e1,nb,_⟩:=a.ex
 subst e1
 intro x hx
 obtain ⟨j,_,rfl⟩:=Fh.mp hx
 exact h.bB h0 h1 j
def out (left r:List Int):List Int:=left.filter fun k=>!r.contains k
inductive vC (xs:List Int):List Int->List (List Int)->Prop
 | nil:vC xs [] []
 | cons {i:Int} {left r:List Int} {rs:List (List Int)}:iG xs i r->vC xs (out (i :: left) r) rs->vC xs (i :: left) (r :: rs)
def from' (n k:Nat) (seen:Int->Bool):List Int:=(((List.range n).drop k).map fun (j:Nat)=>(j:Int)).filter fun x=>!seen x
theorem QF (n:Nat) (seen:Int->Bool):from' n n seen=[]:=by
 unfold from';rw [List.drop_of_length_le (by simp)];rfl
theorem QG {n k:Nat} (h:k < n) (seen:Int->Bool):from' n k seen=if seen (k:Int) then from' n (k + 1) seen else (k:Int) :: from' n (k + 1) seen:=by
 unfold from'
 rw [List.drop_eq_getElem_cons (by simpa using h),WY,List.filter_cons]
 simp only [List.getElem_range]
 cases hs:seen (k:Int) <;> simp
theorem QH {n k:Nat} {seen:Int->Bool} {r:List Int}:out (from' n k seen) r=from' n k (fun x=>seen x || r.contains x):=by
 unfold out from'
 rw [List.filter_filter]
 congr 1
 funext x
 show (!r.contains x && !seen x)=!(seen x || r.contains x)
 cases seen x <;> cases r.contains x <;> rfl
theorem QI (n:Nat):from' n 0 (fun _=>false)=upto n:=by
 unfold from' upto
 rw [List.drop_zero]
 simp
def qu (n:Nat):List Int:=((List.range (n - 1)).map fun (k:Nat)=>(1:Int) + k) ++ [0]
theorem QJ:∀ n,n < 21->0 < n->(qu n).isPerm (upto n)=true:=by decide
theorem Mf {n:Nat} (h:n < 21) (h0:0 < n):Tn n (qu n):=List.isPerm_iff.mp (QJ n h h0)
end af
namespace af
theorem B6 {n:Nat} {xs:List Int} (h:xs.length=n):(upto n).map (app xs)=xs:=by
 apply List.ext_getElem
 ·rw [Wv,pk,h]
 ·intro i h1 h2
  have e:=pq (xs:=xs) (i:=(i:Int)) (by omega) (by omega)
  simp only [WH] at e
  rw [Wx h2] at e
  rw [List.getElem_map]
  unfold upto
  simp only [List.getElem_map,List.getElem_range]
  exact (WJ e).symm
def inv (xs:List Int):List Int:=(upto xs.length).map fun i=>(xs.idxOf i:Int)
theorem Fi (xs:List Int):(inv xs).length=xs.length:=by unfold inv;rw [Wv,pk]
theorem B7 {n i:Nat} (h:i < n):(upto n)[i]?=some (i:Int):=by
 unfold upto;rw [WB,List.getElem?_range h];rfl
theorem Fj {xs:List Int} {i:Int} (h0:0<=i) (h1:i < (xs.length:Int)):app (inv xs) i=(xs.idxOf i:Int):=by
 have e:=pq (xs:=inv xs) h0 (by rw [Fi];exact h1)
 unfold inv at e
 rw [WB,B7 (by omega)] at e
 have:=WJ e
 rw [<- inv] at this
 rw [<- this,W3 h0]
theorem Tn.mem {n:Nat} {xs:List Int} (h:Tn n xs) {i:Int} (h0:0<=i) (h1:i < (n:Int)):i∈xs:=h.symm.subset (nh.mpr ⟨h0,h1⟩)
theorem Tn.idx {n:Nat} {xs:List Int} (h:Tn n xs) {i:Int} (h0:0<=i) (h1:i < (n:Int)):xs.idxOf i < n:=by rw [<- h.length];exact List.idxOf_lt_length_of_mem (h.mem h0 h1)
theorem Tn.cS {n:Nat} {xs:List Int} (h:Tn n xs) {i:Int} (h0:0<=i) (h1:i < (n:Int)):af.app xs (af.app (inv xs) i)=i:=by
 rw [Fj h0 (by rw [h.length];exact h1)]
 have hl:=h.idx h0 h1
 have e:=pq (xs:=xs) (i:=(xs.idxOf i:Int)) (by omega) (by rw [h.length];omega)
 rw [WH,Wx (by rw [h.length];exact hl)] at e
 rw [<- WJ e]
 exact List.getElem_idxOf _
theorem Tn.m8 {n:Nat} {xs:List Int} (h:Tn n xs) {i:Int} (h0:0<=i) (h1:i < (n:Int)):0<=af.app (inv xs) i/\af.app (inv xs) i < (n:Int):=by
 rw [Fj h0 (by rw [h.length];exact h1)]
 have:=h.idx h0 h1
 omega
theorem Tn.iz {n:Nat} {xs:List Int} (h:Tn n xs) {i:Int} (h0:0<=i) (h1:i < (n:Int)):af.app (inv xs) (af.app xs i)=i:=by
 obtain ⟨a0,a1⟩:=h.app h0 h1
 obtain ⟨b0,b1⟩:=h.m8 a0 a1
 exact h.inj b0 b1 h0 h1 (h.cS a0 a1)
theorem Tn.aG {n:Nat} {xs:List Int} (h:Tn n xs):Tn n (inv xs):=by
 have hl:=h.length
 unfold Tn
 have e:(inv xs).length=n:=by rw [Fi,hl]
 have:=IL (xs:=inv xs) ?_ ?_
 ·rw [e] at this;exact this
 ·unfold List.Nodup
  rw [XC]
  intro i j hi hj hij z
  have a:=pq (xs:=inv xs) (i:=(i:Int)) (by omega) (by omega)
  have b:=pq (xs:=inv xs) (i:=(j:Int)) (by omega) (by omega)
  rw [WH,Wx hi] at a
  rw [WH,Wx hj] at b
  have a:=WJ a
  have b:=WJ b
  have c:=h.cS (i:=(i:Int)) (by omega) (by omega)
  have d:=h.cS (i:=(j:Int)) (by omega) (by omega)
  rw [<- a] at c
  rw [<- b,<- z] at d
  have:=c.symm.trans d
  omega
 ·intro x hx
  unfold inv at hx
  obtain ⟨i,hi,rfl⟩:=WR.mp hx
  have:=nh.mp hi
  rw [hl] at this
  have:=h.idx this.1 this.2
  rw [e];omega
theorem tJ (xs:List Int) (i:Int) (j:Nat):∀ d,bB xs (bB xs i j) d=bB xs i (j + d)
 | 0=>rfl
 | d + 1=>by show app xs (bB xs (bB xs i j) d)=app xs (bB xs i (j + d));rw [tJ xs i j d]
theorem Mg {xs:List Int} {i:Int} {L:Nat} (h:bB xs i L=i) (a:Nat):bB xs i (a + L)=bB xs i a:=by
 rw [Nat.add_comm,<- tJ xs i L a,h]
theorem B8 {xs:List Int} {i:Int} {L:Nat} (h:bB xs i L=i):∀ (q r:Nat),bB xs i (r + L * q)=bB xs i r
 | 0,r=>rfl
 | q + 1,r=>by rw [Nat.mul_succ,<- Nat.add_assoc,Mg h];exact B8 h q r
theorem Mh {xs:List Int} {i:Int} {L:Nat} (h:bB xs i L=i) (a:Nat):bB xs i (a % L)=bB xs i a:=by
 have:=B8 h (a / L) (a % L)
 rw [Nat.mod_add_div] at this
 exact this.symm
def Mi (xs:List Int) (k i v:Int):Prop:=∃ m,NB xs i m/\bB xs i (m + 1)=i/\v=bB xs i (k % ((m + 1:Nat):Int)).toNat
theorem Tn.xU {n:Nat} {xs:List Int} (h:Tn n xs) {i:Int} (h0:0<=i) (h1:i < (n:Int)) {m:Nat} (nb:NB xs i m) (bk:af.bB xs i (m + 1)=i) (j:Nat) (k:Int) :
  Mi xs k (af.bB xs i j) (af.bB xs i (((j:Int) + k) % ((m + 1:Nat):Int)).toNat):=by
 refine ⟨m,fun d d1 d2 e=>?_,?_,?_⟩
 ·rw [tJ] at e
  exact nb d d1 d2 (h.back h0 h1 j d e.symm)
 ·rw [tJ,Mg bk]
 ·rw [tJ]
  rw [<- Mh bk (j + (k % ((m + 1:Nat):Int)).toNat)]
  congr 1
  have hL:(0:Int) < ((m + 1:Nat):Int):=by omega
  have k0:=Xp k (Int.ne_of_gt hL)
  have e:(((j + (k % ((m + 1:Nat):Int)).toNat) % (m + 1):Nat):Int)=((j:Int) + k) % ((m + 1:Nat):Int):=by
   rw [Int.natCast_emod,Int.natCast_add,W3 k0,Int.add_emod_emod]
  rw [<- e,WH]
theorem vC.all {xs:List Int}:∀ {left:List Int} {rs:List (List Int)},vC xs left rs->(∀ r∈rs,∃ i∈left,iG xs i r)/\∀ x∈left,∃ r∈rs,x∈r:=by
 intro left rs a
 induction a with
 | nil=>exact ⟨fun r hr=>(nomatch hr),fun x hx=>(nomatch hx)⟩
 | cons h1 _ ih =>
  refine ⟨fun r hr=>?_,fun x hx=>?_⟩
  ·rcases W0.mp hr with rfl | hr
   ·exact ⟨_,WA,h1⟩
   ·obtain ⟨i,hi,r'⟩:=ih.1 r hr
    exact ⟨i,(List.mem_filter.mp hi).1,r'⟩
  ·rename_i i left r rs _
   by_cases hc:x∈r
   ·exact ⟨r,WA,hc⟩
   ·obtain ⟨r',hr',hx'⟩:=ih.2 x (List.mem_filter.mpr ⟨hx,by simp [hc]⟩)
    exact ⟨r',WK _ hr',hx'⟩
theorem QK {n:Nat} {xs:List Int} (h:Tn n xs):xs.map (app (inv xs))=upto n:=by
 have e:((upto n).map (app xs)).map (app (inv xs))=upto n:=by
  rw [W4]
  conv=>rhs;rw [<- List.map_id (upto n)]
  apply Xc
  intro x hx
  obtain ⟨a,b⟩:=nh.mp hx
  exact h.iz a b
 rw [B6 h.length] at e
 exact e
theorem QL {n:Nat} {xs:List Int} (h:Tn n xs):(inv xs).map (app xs)=upto n:=by
 have e:((upto n).map (app (inv xs))).map (app xs)=upto n:=by
  rw [W4]
  conv=>rhs;rw [<- List.map_id (upto n)]
  apply Xc
  intro x hx
  obtain ⟨a,b⟩:=nh.mp hx
  exact h.cS a b
 rw [B6 (h.aG).length] at e
 exact e
end af
namespace af
inductive jI (xs ys:List Int):Int->Prop
 | zero:jI xs ys 0
 | r {x:Int}:jI xs ys x->jI xs ys (app xs x)
 | u {x:Int}:jI xs ys x->jI xs ys (app ys x)
theorem jI.bound {n:Nat} {xs ys:List Int} (hx:Tn n xs) (hy:Tn n ys) (h0:0 < n) {x:Int} (h:jI xs ys x):0<=x/\x < (n:Int):=by
 induction h with
 | zero=>omega
 | r _ ih=>exact hx.app ih.1 ih.2
 | u _ ih=>exact hy.app ih.1 ih.2
theorem jI.bB {xs ys:List Int} {x:Int} (h:jI xs ys x):∀ k,jI xs ys (af.bB xs x k)
 | 0=>h
 | k + 1=>.r (h.bB k)
def nY (xs:List Int) (m:Nat):List Int:=(xs.set 0 (app xs m)).set m (app xs 0)
theorem QM (xs:List Int) (m:Nat):(nY xs m).length=xs.length:=by simp [nY]
theorem IP {xs:List Int} {m:Nat} {v x:Int} (hm:m < xs.length) (h0:0<=x):app (xs.set m v) x=if x=(m:Int) then v else app xs x:=by
 unfold app
 rw [WN,WN]
 by_cases hx:x=(m:Int)
 ·rw [if_pos hx,hx,WH,WC hm];rfl
 ·rw [if_neg hx,WE (by omega)]
theorem Al {xs:List Int} {m:Nat} (hm:m < xs.length) {x:Int} (h0:0<=x):app (nY xs m) x=if x=(m:Int) then app xs 0 else if x=0 then app xs m else app xs x:=by
 unfold nY
 rw [IP (by simpa using hm) h0,IP (by omega) h0]
 rfl
theorem xV {n:Nat} {xs:List Int} (h:Tn n xs) {m:Nat} (hm:m < n):Tn n (nY xs m):=by
 have hl:=h.length
 have e:(nY xs m).length=n:=by rw [QM,hl]
 have:=IL (xs:=nY xs m) ?_ ?_
 ·unfold Tn;rw [e] at this;exact this
 ·unfold List.Nodup
  rw [XC]
  intro i j hi hj hij z
  have a:=pq (xs:=nY xs m) (i:=(i:Int)) (by omega) (by omega)
  have b:=pq (xs:=nY xs m) (i:=(j:Int)) (by omega) (by omega)
  rw [WH,Wx hi] at a
  rw [WH,Wx hj] at b
  have a:=WJ a
  have b:=WJ b
  rw [Al (by omega) (by omega)] at a b
  rw [a,b] at z
  have inj:∀ p q:Int,0<=p->p < (n:Int)->0<=q->q < (n:Int)->app xs p=app xs q->p=q:=fun p q p0 p1 q0 q1=>h.inj p0 p1 q0 q1
  split at z <;> split at z <;> (try split at z) <;> (try split at z) <;> (first | omega | (have:=inj _ _ (by omega) (by omega) (by omega) (by omega) z;omega))
 ·intro x hx
  obtain ⟨i,hi,rfl⟩:=Xu hx
  have a:=pq (xs:=nY xs m) (i:=(i:Int)) (by omega) (by omega)
  rw [WH,Wx hi] at a
  rw [WJ a,Al (by omega) (by omega),e]
  split
  ·exact h.app (by omega) (by omega)
  ·split
   ·exact h.app (by omega) (by omega)
   ·exact h.app (by omega) (by omega)
theorem Tn.uw {n:Nat} {xs:List Int} (h:Tn n xs) {i:Int} (h0:0<=i) (h1:i < (n:Int)):∃ m,NB xs i m/\af.bB xs i (m + 1)=i:=by
 by_cases hb:∃ m,m < n/\af.bB xs i (m + 1)=i
 ·-- the least
  have key:∀ b:Nat,(∃ m,m < b/\af.bB xs i (m + 1)=i)->∃ m,NB xs i m/\af.bB xs i (m + 1)=i:=by
   intro b
   induction b with
   | zero=>rintro ⟨m,hm,_⟩;omega
   | succ b ih =>
    rintro ⟨m,hm,e⟩
    by_cases hc:∃ m,m < b/\af.bB xs i (m + 1)=i
    ·exact ih hc
    ·refine ⟨m,fun j j1 j2 z=>hc ⟨j - 1,by omega,?_⟩,e⟩
     have:j - 1 + 1=j:=by omega
     rw [this];exact z
  exact key n hb
 ·have nb:NB xs i n:=fun j j1 j2 z=>by
   refine hb ⟨j - 1,by omega,?_⟩
   have:j - 1 + 1=j:=by omega
   rw [this];exact z
  have:=h.kU h0 h1 nb
  omega
theorem QN {n:Nat} {xs ys:List Int} (hx:Tn n xs) (hy:Tn n ys) {m:Nat} (hm:m < n) (nm:¬ jI xs ys (m:Int)):jI (nY xs m) ys (m:Int)/\∀ x,jI xs ys x->jI (nY xs m) ys x:=by
 have hl:=hx.length
 have m0:m≠0:=fun z=>nm (by rw [z];exact .zero)
 obtain ⟨M,nb,bk⟩:=hx.uw (i:=(m:Int)) (by omega) (by omega)
 have QO:∀ j,af.bB xs (m:Int) j≠0:=by
  intro j z
  have h':jI xs ys (af.bB xs (af.bB xs (m:Int) j) ((M + 1) * j)):=by rw [z];exact jI.zero.bB _
  rw [tJ] at h'
  have e2:af.bB xs (m:Int) ((M + 1) * (j + 1))=(m:Int):=by
   have:=B8 bk (j + 1) 0
   rw [Nat.zero_add] at this
   exact this
  have h3:=h'.bB ((M + 1) * (j + 1) - (j + (M + 1) * j))
  rw [tJ] at h3
  have e3:j + (M + 1) * j + ((M + 1) * (j + 1) - (j + (M + 1) * j))=if j + (M + 1) * j<=(M + 1) * (j + 1) then (M + 1) * (j + 1) else j + (M + 1) * j:=by split <;> omega
  rw [e3] at h3
  by_cases hc:j + (M + 1) * j<=(M + 1) * (j + 1)
  ·rw [if_pos hc,e2] at h3
   exact nm h3
  ·-- round as often as needed
   have h4:=h'.bB ((M + 1) * (2 * j + 2) - (j + (M + 1) * j))
   rw [tJ] at h4
   have hbig:j + (M + 1) * j<=(M + 1) * (2 * j + 2):=by
    have a1:(M + 1) * (2 * j + 2)=(M + 1) * j + ((M + 1) * j + (M + 1) * 2):=by rw [<- Nat.mul_add,<- Nat.mul_add];congr 1;omega
    have a2:j<=(M + 1) * j:=Nat.le_mul_of_pos_left j (by omega)
    omega
   have e5:j + (M + 1) * j + ((M + 1) * (2 * j + 2) - (j + (M + 1) * j))=(M + 1) * (2 * j + 2):=by omega
   rw [e5] at h4
   have:=B8 bk (2 * j + 2) 0
   rw [Nat.zero_add] at this
   rw [this] at h4
   exact nm h4
 have ring:∀ j,j<=M->jI (nY xs m) ys (af.bB xs (m:Int) (j + 1)):=by
  intro j
  induction j with
  | zero =>
   intro _
   have h1:jI (nY xs m) ys (af.app (nY xs m) 0):=.r .zero
   rw [Al (by omega) (by omega),if_neg (by omega),if_pos rfl] at h1
   exact h1
  | succ j ih =>
   intro hj
   have h1:=(ih (by omega)).r
   have b:=hx.bB (i:=(m:Int)) (by omega) (by omega) (j + 1)
   rw [Al (by omega) b.1,if_neg (nb (j + 1) (by omega) (by omega)),if_neg (QO (j + 1))] at h1
   exact h1
 have Mj:jI (nY xs m) ys (m:Int):=by have:=ring M (Wy _);rwa [bk] at this
 refine ⟨Mj,fun x h=>?_⟩
 have hpos:0 < n:=by omega
 induction h with
 | zero=>exact .zero
 | r hx' ih =>
  rename_i x
  have b:=hx'.bound hx hy hpos
  by_cases h0:x=0
  ·have h1:=Mj.r
   rw [Al (by omega) (by omega),if_pos rfl] at h1
   rw [h0];exact h1
  ·have QP:x≠(m:Int):=fun z=>nm (by rw [<- z];exact hx')
   have h1:=ih.r
   rw [Al (by omega) b.1,if_neg QP,if_neg h0] at h1
   exact h1
 | u _ ih=>exact ih.u
def Cl (xs ys F:List Int):Prop:=∀ x∈F,app xs x∈F/\app ys x∈F
theorem Cl.all {xs ys F:List Int} (h:Cl xs ys F) (h0:(0:Int)∈F) {x:Int} (r:jI xs ys x):x∈F:=by
 induction r with
 | zero=>exact h0
 | r _ ih=>exact (h _ ih).1
 | u _ ih=>exact (h _ ih).2
structure Fd (xs ys:List Int) (F:List Int):Prop where
 z:(0:Int)∈F
 nd:F.Nodup
 mt:∀ x∈F,jI xs ys x
theorem Fd.len {n:Nat} {xs ys F:List Int} (h:Fd xs ys F) (hx:Tn n xs) (hy:Tn n ys) (h0:0 < n):F.length<=n:=by
 have:=Ak h.nd (ys:=upto n) fun x hx'=>nh.mpr ((h.mt x hx').bound hx hy h0)
 rw [pk] at this
 exact this
theorem Fd.one (xs ys:List Int):Fd xs ys [0]:=⟨by simp,by simp,fun x hx=>(show x=0 by simpa using hx) ▸ .zero⟩
theorem round {xs ys F F1 F2:List Int} (d:Fd xs ys F) (d2:Fd xs ys F2) (p1:F <+: F1) (p2:F1 <+: F2) (c1:∀ x∈F,app xs x∈F1) (c2:∀ x∈F1,app ys x∈F2) {t:Nat} (h:Cl xs ys F\/t + 1<=F.length):Cl xs ys F2\/t + 1 + 1<=F2.length:=by
 have p:=p1.trans p2
 by_cases hc:Cl xs ys F
 ·refine .inl fun x hx=>?_
  have hF:=hc.all d.z (d2.mt x hx)
  exact ⟨p.subset (hc x hF).1,p.subset (hc x hF).2⟩
 ·have hl:=h.resolve_left hc
  by_cases he:F2.length<=F.length
  ·refine absurd ?_ hc
   have e2:F2=F:=(p.eq_of_length (by have:=p.length_le;omega)).symm
   have e1:F1=F:=by
    have a:=p1.length_le
    have b:=p2.length_le
    exact (p1.eq_of_length (by omega)).symm
   intro x hx
   refine ⟨?_,?_⟩
   ·have:=c1 x hx;rwa [e1] at this
   ·have:=c2 x (by rw [e1];exact hx);rwa [e2] at this
  ·exact .inr (by omega)
def si (w n:Nat):List Int:=((List.range (w - 1)).map fun (k:Nat)=>(1:Int) + k) ++ [0] ++ ((List.range (n - w)).map fun (k:Nat)=>(w:Int) + k)
def ux (w n:Nat):List Int:=[(w:Int)] ++ ((List.range (w - 1)).map fun (k:Nat)=>(1:Int) + k) ++ ((List.range (n - (w + 1))).map fun (k:Nat)=>((w:Int) + 1) + k) ++ [0]
theorem QQ:∀ n,n < 21->∀ w,w < n + 1->0 < w->(si w n).isPerm (upto n)=true:=by decide +kernel
theorem QR:∀ n,n < 21->∀ w,w < n->0 < w->(ux w n).isPerm (upto n)=true:=by decide +kernel
theorem QS {w n:Nat} (h:n < 21) (h1:w<=n) (h0:0 < w):Tn n (si w n):=List.isPerm_iff.mp (QQ n h w (by omega) h0)
theorem QT {w n:Nat} (h:n < 21) (h1:w < n) (h0:0 < w):Tn n (ux w n):=List.isPerm_iff.mp (QR n h w h1 h0)
theorem less {L L':List Int} {m:Int} (nd:L'.Nodup) (hs:∀ x∈L',x∈L) (hm:m∈L) (hm':m ∉ L'):L'.length < L.length:=by
 have hp:=List.perm_cons_erase hm
 have hlen:(L.erase m).length + 1=L.length:=by have:=hp.length_eq;simpa using this.symm
 have:=Ak (ys:=L.erase m) nd fun x hx=>(List.mem_erase_of_ne (fun e=>hm' (by rw [<- e];exact hx))).mpr (hs x hx)
 omega
end af
namespace af
def a8 (xs ys:List Int):List Int:=xs.map (app ys)
theorem B9 (xs ys:List Int):(a8 xs ys).length=xs.length:=by simp [a8]
theorem qv {n:Nat} {xs ys:List Int} (hx:xs.length=n) (hy:ys.length=n) (h:∀ s:Int,0<=s->s < (n:Int)->app xs s=app ys s):xs=ys:=by
 rw [<- B6 hx,<- B6 hy]
 apply Xc
 intro s hs
 obtain ⟨h0,h1⟩:=nh.mp hs
 exact h s h0 h1
theorem pz {xs ys:List Int} {s:Int} (h0:0<=s) (h1:s < (xs.length:Int)):app (a8 xs ys) s=app ys (app xs s):=by
 have e:=pq (xs:=a8 xs ys) h0 (by rw [B9];exact h1)
 unfold a8 at e
 rw [WB,pq h0 h1] at e
 exact (WJ e).symm
theorem Tn.sj {n:Nat} {xs:List Int} (hl:xs.length=n) (hb:∀ s:Int,0<=s->s < (n:Int)->0<=af.app xs s/\af.app xs s < (n:Int)) (hi:∀ s t:Int,0<=s->s < (n:Int)->0<=t->t < (n:Int)->af.app xs s=af.app xs t->s=t):Tn n xs:=by
 have el:∀ (i:Nat) (h:i < xs.length),xs[i]=af.app xs (i:Int):=fun i h=>by
  have a:=pq (xs:=xs) (i:=(i:Int)) (by omega) (by omega)
  rw [WH,Wx h] at a
  exact WJ a
 have:=IL (xs:=xs) ?_ ?_
 ·unfold Tn;rw [hl] at this;exact this
 ·unfold List.Nodup
  rw [XC]
  intro i j h1 h2 hij z
  rw [el i h1,el j h2] at z
  have:=hi i j (by omega) (by omega) (by omega) (by omega) z
  omega
 ·intro x hx
  obtain ⟨i,h,rfl⟩:=Xu hx
  rw [el i h,hl]
  exact hb i (by omega) (by omega)
theorem Tn.a8 {n:Nat} {xs ys:List Int} (hx:Tn n xs) (hy:Tn n ys):Tn n (a8 xs ys):=by
 have hl:=hx.length
 refine Tn.sj (by rw [B9];exact hl) (fun s h0 h1=>?_) fun s t s0 s1 t0 t1 e=>?_
 ·rw [pz h0 (by omega)]
  obtain ⟨a,b⟩:=hx.app h0 h1
  exact hy.app a b
 ·rw [pz s0 (by omega),pz t0 (by omega)] at e
  obtain ⟨a,b⟩:=hx.app s0 s1
  obtain ⟨c,d⟩:=hx.app t0 t1
  exact hx.inj s0 s1 t0 t1 (hy.inj a b c d e)
theorem Tn.uy {n:Nat} {xs ys:List Int} (hx:Tn n xs) (hy:Tn n ys) {s:Int} (h0:0<=s) (h1:s < (n:Int)):af.app (inv (af.a8 xs ys)) s=af.app (inv xs) (af.app (inv ys) s):=by
 have hf:=hx.a8 hy
 obtain ⟨a0,a1⟩:=hy.m8 h0 h1
 obtain ⟨b0,b1⟩:=hx.m8 a0 a1
 obtain ⟨c0,c1⟩:=hf.m8 h0 h1
 refine hf.inj c0 c1 b0 b1 ?_
 rw [hf.cS h0 h1,pz b0 (by rw [hx.length];exact b1),hx.cS a0 a1,hy.cS h0 h1]
def anew (xs p:List Int):List Int:=a8 (a8 (inv p) xs) p
theorem Tn.anew {n:Nat} {xs p:List Int} (hx:Tn n xs) (hp:Tn n p):Tn n (anew xs p):=(hp.aG.a8 hx).a8 hp
theorem Tn.iA {n:Nat} {xs p:List Int} (hx:Tn n xs) (hp:Tn n p) {s:Int} (h0:0<=s) (h1:s < (n:Int)):af.app (af.anew xs p) s=af.app p (af.app xs (af.app (inv p) s)):=by
 have hl:=hp.aG.length
 unfold af.anew
 rw [pz h0 (by rw [B9,hl];exact h1),pz h0 (by rw [hl];exact h1)]
theorem Tn.lQ {n:Nat} {xs p:List Int} (hx:Tn n xs) (hp:Tn n p) {s:Int} (h0:0<=s) (h1:s < (n:Int)):af.app (af.anew xs p) (af.app p s)=af.app p (af.app xs s):=by
 obtain ⟨a,b⟩:=hp.app h0 h1
 rw [hx.iA hp a b,hp.iz h0 h1]
theorem Tn.oj {n:Nat} {xs p q:List Int} (hx:Tn n xs) (hp:Tn n p) (hq:Tn n q):af.anew (af.anew xs p) q=af.anew xs (af.a8 p q):=by
 have hf:=hp.a8 hq
 refine qv (n:=n) ((hx.anew hp).anew hq).length (hx.anew hf).length fun s h0 h1=>?_
 obtain ⟨a0,a1⟩:=hq.m8 h0 h1
 obtain ⟨b0,b1⟩:=hp.m8 a0 a1
 obtain ⟨c0,c1⟩:=hx.app b0 b1
 rw [(hx.anew hp).iA hq h0 h1,hx.iA hp a0 a1,hx.iA hf h0 h1,hp.uy hq h0 h1,pz c0 (by rw [hp.length];exact c1)]
theorem Tn.om {n:Nat} {xs p:List Int} (hx:Tn n xs) (hp:Tn n p):af.anew (af.anew xs p) (inv p)=xs:=by
 refine qv (n:=n) ((hx.anew hp).anew hp.aG).length hx.length fun s h0 h1=>?_
 obtain ⟨a0,a1⟩:=hp.aG.m8 h0 h1
 have e:af.app (inv (inv p)) s=af.app p s:=by
  obtain ⟨b0,b1⟩:=hp.app h0 h1
  refine hp.aG.inj a0 a1 b0 b1 ?_
  rw [hp.aG.cS h0 h1,hp.iz h0 h1]
 obtain ⟨b0,b1⟩:=hp.app h0 h1
 obtain ⟨c0,c1⟩:=hx.app h0 h1
 rw [(hx.anew hp).iA hp.aG h0 h1,e,hx.lQ hp h0 h1,hp.iz c0 c1]
end af
namespace af
def cK (F:List Int) (x:Int):List Int:=if x∈F then F else F ++ [x]
theorem vD (F:List Int) (x:Int):F <+: cK F x:=by
 unfold cK;split
 ·exact List.prefix_refl _
 ·exact List.prefix_append _ _
theorem qw {F:List Int} {x y:Int}:y∈cK F x↔y∈F\/y=x:=by
 unfold cK;split
 ·next h=>exact ⟨.inl,fun z=>z.elim id fun e=>e ▸ h⟩
 ·rw [WX,WQ]
theorem Mk {F:List Int} {x:Int} (h:F.Nodup):(cK F x).Nodup:=by
 unfold cK;split
 ·exact h
 ·next hx =>
  rw [List.nodup_append]
  exact ⟨h,by simp,fun a ha b hb e=>hx (by rw [WQ] at hb;rw [<- hb,<- e];exact ha)⟩
def visit (xs ys F:List Int) (x:Int):List Int:=cK (cK F (app xs x)) (app ys x)
def bf (xs ys:List Int) (s:Int):Nat->List Int
 | 0=>[s]
 | k + 1=>match (bf xs ys s k)[k]? with
  | some x=>visit xs ys (bf xs ys s k) x
  | none=>bf xs ys s k
theorem QU (xs ys:List Int) (s:Int) (k:Nat):bf xs ys s k <+: bf xs ys s (k + 1):=by
 show _ <+: (match (bf xs ys s k)[k]? with | some x=>visit xs ys (bf xs ys s k) x | none=>bf xs ys s k)
 split
 ·exact (vD _ _).trans (vD _ _)
 ·exact List.prefix_refl _
theorem Am (xs ys:List Int) (s:Int) (k:Nat):∀ d,bf xs ys s k <+: bf xs ys s (k + d)
 | 0=>List.prefix_refl _
 | d + 1=>(Am xs ys s k d).trans (QU xs ys s (k + d))
theorem xW (xs ys:List Int) (s:Int):∀ k,(bf xs ys s k).Nodup
 | 0=>by show [s].Nodup;simp
 | k + 1=>by
  show (match (bf xs ys s k)[k]? with | some x=>visit xs ys (bf xs ys s k) x | none=>bf xs ys s k).Nodup
  split
  ·exact Mk (Mk (xW xs ys s k))
  ·exact xW xs ys s k
theorem Fm {xs ys:List Int} {s:Int} {k:Nat} (h:(bf xs ys s k).length<=k):∀ d,bf xs ys s (k + d)=bf xs ys s k
 | 0=>rfl
 | d + 1=>by
  have e:=Fm h d
  show (match (bf xs ys s (k + d))[k + d]? with | some x=>visit xs ys (bf xs ys s (k + d)) x | none=>bf xs ys s (k + d))=_
  rw [e,List.getElem?_eq_none (by omega)]
section
variable {n:Nat} {xs ys:List Int} {s:Int}
theorem qP (hx:Tn n xs) (hy:Tn n ys) (s0:0<=s) (s1:s < (n:Int)):∀ k,∀ x∈bf xs ys s k,0<=x/\x < (n:Int)
 | 0,x,h=>by rw [WQ.mp (show x∈[s] from h)];exact ⟨s0,s1⟩
 | k + 1,x,h=>by
  have ih:=qP hx hy s0 s1 k
  have h':x∈(match (bf xs ys s k)[k]? with | some y=>visit xs ys (bf xs ys s k) y | none=>bf xs ys s k):=h
  split at h'
  ·next y hy' =>
   obtain ⟨y0,y1⟩:=ih y (WG hy')
   rcases qw.mp h' with h' | rfl
   ·rcases qw.mp h' with h' | rfl
    ·exact ih x h'
    ·exact hx.app y0 y1
   ·exact hy.app y0 y1
  ·exact ih x h'
theorem Ca (hx:Tn n xs) (hy:Tn n ys) (s0:0<=s) (s1:s < (n:Int)) (k:Nat):(bf xs ys s k).length<=n:=by
 have:=Ak (xW xs ys s k) (ys:=upto n) fun x h=>nh.mpr (qP hx hy s0 s1 k x h)
 rw [pk] at this
 exact this
theorem Cb {k i:Nat} (hik:i<=k) {x:Int} (h:(bf xs ys s k)[i]?=some x):(bf xs ys s i)[i]?=some x:=by
 obtain ⟨d,rfl⟩:∃ d,k=i + d:=⟨k - i,by omega⟩
 by_cases hl:(bf xs ys s i).length<=i
 ·rw [Fm hl d] at h
  exact h
 ·obtain ⟨t,e⟩:=Am xs ys s i d
  rw [<- e,WI (by omega)] at h
  exact h
theorem IQ (hx:Tn n xs) (hy:Tn n ys) (s0:0<=s) (s1:s < (n:Int)):Cl xs ys (bf xs ys s n):=by
 intro x hm
 obtain ⟨i,hi,e⟩:=Xu hm
 have hl:=Ca hx hy s0 s1 n
 have hi':(bf xs ys s i)[i]?=some x:=Cb (k:=n) (by omega) (by rw [Wx hi,e])
 have hs:visit xs ys (bf xs ys s i) x <+: bf xs ys s n:=by
  have:=Am xs ys s (i + 1) (n - (i + 1))
  rw [show i + 1 + (n - (i + 1))=n by omega] at this
  have e2:bf xs ys s (i + 1)=visit xs ys (bf xs ys s i) x:=by
   show (match (bf xs ys s i)[i]? with | some x=>visit xs ys (bf xs ys s i) x | none=>bf xs ys s i)=_
   rw [hi']
  rw [<- e2];exact this
 refine ⟨hs.subset ?_,hs.subset ?_⟩
 ·exact qw.mpr (.inl (qw.mpr (.inr rfl)))
 ·exact qw.mpr (.inr rfl)
theorem Cc {zs F:List Int} (hz:Tn n zs) (nd:F.Nodup) (hb:∀ x∈F,0<=x/\x < (n:Int)) (hc:∀ x∈F,app zs x∈F) {y:Int} (y0:0<=y) (y1:y < (n:Int)) (h:app zs y∈F):y∈F:=by
 have QV:(F.map (app zs)).Nodup:=by
  unfold List.Nodup
  rw [List.pairwise_map]
  refine List.Pairwise.imp_of_mem (fun {a b} ha hb' hab e=>?_) nd
  obtain ⟨a0,a1⟩:=hb a ha
  obtain ⟨b0,b1⟩:=hb b hb'
  exact hab (hz.inj a0 a1 b0 b1 e)
 have pm:(F.map (app zs)).Perm F:=Fg QV (fun x hx=>by obtain ⟨z,hz',rfl⟩:=WR.mp hx;exact hc z hz') (by simp)
 obtain ⟨z,An,e⟩:=WR.mp (pm.symm.subset h)
 obtain ⟨z0,z1⟩:=hb z An
 rw [<- hz.inj z0 z1 y0 y1 e];exact An
theorem Ml (hx:Tn n xs) (hy:Tn n ys) (s0:0<=s) (s1:s < (n:Int)) (all:∀ x:Int,0<=x->x < (n:Int)->jI xs ys x) {x:Int} (x0:0<=x) (x1:x < (n:Int)):x∈bf xs ys s n:=by
 have cl:=IQ hx hy s0 s1
 have nd:=xW xs ys s n
 have bd:=qP hx hy s0 s1 n
 have hs:s∈bf xs ys s n:=by
  have:=Am xs ys s 0 n
  rw [Nat.zero_add] at this
  exact this.subset (show s∈[s] by simp)
 have hpos:0 < n:=by omega
 have zero:∀ y,jI xs ys y->y∈bf xs ys s n->(0:Int)∈bf xs ys s n:=by
  intro y hr
  induction hr with
  | zero=>exact id
  | r h ih =>
   intro hm
   obtain ⟨a,b⟩:=h.bound hx hy hpos
   exact ih (Cc hx nd bd (fun x hx'=>(cl x hx').1) a b hm)
  | u h ih =>
   intro hm
   obtain ⟨a,b⟩:=h.bound hx hy hpos
   exact ih (Cc hy nd bd (fun x hx'=>(cl x hx').2) a b hm)
 exact cl.all (zero s (all s s0 s1) hs) (all x x0 x1)
theorem Fn (hx:Tn n xs) (hy:Tn n ys) (s0:0<=s) (s1:s < (n:Int)) (all:∀ x:Int,0<=x->x < (n:Int)->jI xs ys x):Tn n (bf xs ys s n) :=
 Fg (xW xs ys s n) (fun x h=>nh.mpr (qP hx hy s0 s1 n x h)) (by
  have:=Ak (Md n) (ys:=bf xs ys s n) fun x h=>by obtain ⟨a,b⟩:=nh.mp h;exact Ml hx hy s0 s1 all a b
  exact this)
theorem Mm {p F:List Int} (hp:Tn n p) (hb:∀ x∈F,0<=x/\x < (n:Int)) {x:Int} (x0:0<=x) (x1:x < (n:Int)):cK (F.map (app p)) (app p x)=(cK F x).map (app p):=by
 unfold cK
 have e:app p x∈F.map (app p)↔x∈F:=⟨fun h=>by
  obtain ⟨y,hy,e⟩:=WR.mp h
  obtain ⟨y0,y1⟩:=hb y hy
  rw [<- hp.inj y0 y1 x0 x1 e];exact hy,fun h=>WR.mpr ⟨x,h,rfl⟩⟩
 by_cases h:x∈F
 ·rw [if_pos h,if_pos (e.mpr h)]
 ·rw [if_neg h,if_neg fun z=>h (e.mp z),WS];rfl
theorem IU {p:List Int} (hx:Tn n xs) (hy:Tn n ys) (hp:Tn n p) (s0:0<=s) (s1:s < (n:Int)):∀ k,bf (anew xs p) (anew ys p) (app p s) k=(bf xs ys s k).map (app p)
 | 0=>rfl
 | k + 1=>by
  have ih:=IU hx hy hp s0 s1 k
  show (match (bf (anew xs p) (anew ys p) (app p s) k)[k]? with | some x=>visit (anew xs p) (anew ys p) (bf (anew xs p) (anew ys p) (app p s) k) x | none=>bf (anew xs p) (anew ys p) (app p s) k)=(match (bf xs ys s k)[k]? with | some x=>visit xs ys (bf xs ys s k) x | none=>bf xs ys s k).map (app p)
  rw [ih,WB]
  cases h:(bf xs ys s k)[k]? with
  | none=>rfl
  | some x =>
   obtain ⟨x0,x1⟩:=qP hx hy s0 s1 k x (WG h)
   obtain ⟨a0,a1⟩:=hx.app x0 x1
   obtain ⟨b0,b1⟩:=hy.app x0 x1
   show visit (anew xs p) (anew ys p) ((bf xs ys s k).map (app p)) (app p x)=(visit xs ys (bf xs ys s k) x).map (app p)
   unfold visit
   rw [hx.lQ hp x0 x1,hy.lQ hp x0 x1,Mm hp (qP hx hy s0 s1 k) a0 a1,Mm hp (fun z hz=>?_) b0 b1]
   rcases qw.mp hz with hz | rfl
   ·exact qP hx hy s0 s1 k z hz
   ·exact ⟨a0,a1⟩
end
def num (zs sq:List Int):List Int:=sq.map fun o=>(sq.idxOf (app zs o):Int)
theorem Tn.inv_inv {n:Nat} {p:List Int} (hp:Tn n p):inv (inv p)=p:=by
 refine qv (n:=n) hp.aG.aG.length hp.length fun s h0 h1=>?_
 obtain ⟨a0,a1⟩:=hp.aG.m8 h0 h1
 obtain ⟨b0,b1⟩:=hp.app h0 h1
 refine hp.aG.inj a0 a1 b0 b1 ?_
 rw [hp.aG.cS h0 h1,hp.iz h0 h1]
theorem Fp {n:Nat} {zs sq:List Int} (hz:Tn n zs) (hs:Tn n sq):anew zs (inv sq)=num zs sq:=by
 unfold anew num a8
 rw [hs.inv_inv,W4]
 apply Xc
 intro o ho
 obtain ⟨o0,o1⟩:=hs.bound ho
 obtain ⟨a0,a1⟩:=hz.app o0 o1
 exact Fj a0 (by rw [hs.length];exact a1)
theorem Mp {n:Nat} {p:List Int} (hp:Tn n p):∀ {sq:List Int},(∀ x∈sq,0<=x/\x < (n:Int))->∀ {y:Int},0<=y->y < (n:Int)->(sq.map (app p)).idxOf (app p y)=sq.idxOf y
 | [],_,_,_,_=>rfl
 | a :: r,hb,y,y0,y1=>by
  obtain ⟨a0,a1⟩:=hb a WA
  rw [WY,List.idxOf_cons,List.idxOf_cons,Mp hp (fun x hx=>hb x (WK _ hx)) y0 y1]
  by_cases e:a=y
  ·rw [e];simp
  ·have e2:app p a≠app p y:=fun z=>e (hp.inj a0 a1 y0 y1 z)
   rw [show (a == y)=false by simpa using e,show (app p a == app p y)=false by simpa using e2]
theorem Mq {n:Nat} {zs sq p:List Int} (hz:Tn n zs) (hp:Tn n p) (hb:∀ x∈sq,0<=x/\x < (n:Int)):num (anew zs p) (sq.map (app p))=num zs sq:=by
 unfold num
 rw [W4]
 apply Xc
 intro o ho
 obtain ⟨o0,o1⟩:=hb o ho
 obtain ⟨a0,a1⟩:=hz.app o0 o1
 show ((sq.map (app p)).idxOf (app (anew zs p) (app p o)):Int)=_
 rw [hz.lQ hp o0 o1,Mp hp hb a0 a1]
end af
namespace af
def pw (xs:List Int) (k i:Int):Int:=if 0<=k then bB xs i k.toNat else bB (inv xs) i (-k).toNat
section
variable {n:Nat} {xs:List Int} {i:Int}
theorem Tn.oN (h:Tn n xs) (i0:0<=i) (i1:i < (n:Int)):∀ (k m:Nat),af.bB (inv xs) (af.bB xs i m) k=if k<=m then af.bB xs i (m - k) else af.bB (inv xs) i (k - m)
 | 0,m=>by rw [if_pos (W8 _),Nat.sub_zero];rfl
 | k + 1,m=>by
  show af.app (inv xs) (af.bB (inv xs) (af.bB xs i m) k)=_
  rw [h.oN i0 i1 k m]
  by_cases hk:k<=m
  ·rw [if_pos hk]
   by_cases hk1:k + 1<=m
   ·rw [if_pos hk1]
    obtain ⟨d,hd⟩:∃ d,m - k=d + 1:=⟨m - k - 1,by omega⟩
    rw [hd,show m - (k + 1)=d by omega]
    obtain ⟨a,b⟩:=h.bB i0 i1 d
    exact h.iz a b
   ·rw [if_neg hk1,show m - k=0 by omega,show k + 1 - m=1 by omega]
    rfl
  ·rw [if_neg hk,if_neg (by omega),show k + 1 - m=(k - m) + 1 by omega]
   rfl
theorem Tn.sm (h:Tn n xs) (i0:0<=i) (i1:i < (n:Int)) (k m:Nat):af.bB xs (af.bB (inv xs) i m) k=if k<=m then af.bB (inv xs) i (m - k) else af.bB xs i (k - m):=by
 have:=h.aG.oN i0 i1 k m
 rw [h.inv_inv] at this
 exact this
theorem Tn.pw (h:Tn n xs) (i0:0<=i) (i1:i < (n:Int)) (k:Int):0<=af.pw xs k i/\af.pw xs k i < (n:Int):=by
 unfold af.pw
 split
 ·exact h.bB i0 i1 _
 ·exact h.aG.bB i0 i1 _
theorem Tn.pw_add (h:Tn n xs) (i0:0<=i) (i1:i < (n:Int)) (a b:Int):af.pw xs a (af.pw xs b i)=af.pw xs (a + b) i:=by
 by_cases ha:0<=a <;> by_cases hb:0<=b
 ·unfold af.pw
  rw [if_pos ha,if_pos hb,if_pos (by omega),tJ]
  congr 1
  omega
 ·have e1:af.pw xs b i=af.bB (inv xs) i (-b).toNat:=by unfold af.pw;rw [if_neg hb]
  have e2:∀ j,af.pw xs a j=af.bB xs j a.toNat:=fun j=>by unfold af.pw;rw [if_pos ha]
  rw [e1,e2,h.sm i0 i1]
  unfold af.pw
  split
  ·split
   ·rw [show (-b).toNat - a.toNat=0 by omega,show (a + b).toNat=0 by omega];rfl
   ·congr 1;omega
  ·rw [if_pos (by omega)];congr 1;omega
 ·have e1:af.pw xs b i=af.bB xs i b.toNat:=by unfold af.pw;rw [if_pos hb]
  have e2:∀ j,af.pw xs a j=af.bB (inv xs) j (-a).toNat:=fun j=>by unfold af.pw;rw [if_neg ha]
  rw [e1,e2,h.oN i0 i1]
  unfold af.pw
  split
  ·rw [if_pos (by omega)];congr 1;omega
  ·rw [if_neg (by omega)];congr 1;omega
 ·unfold af.pw
  rw [if_neg ha,if_neg hb,if_neg (by omega),tJ]
  congr 1
  omega
theorem Tn.pw_per (h:Tn n xs) (i0:0<=i) (i1:i < (n:Int)) {L:Nat} (hL:af.bB xs i L=i) (q:Int):af.pw xs ((L:Int) * q) i=i:=by
 have pos:∀ m:Nat,af.pw xs ((L:Int) * (m:Int)) i=i:=fun m=>by
  unfold af.pw
  rw [if_pos (Int.mul_nonneg (by omega) (by omega)),show ((L:Int) * (m:Int)).toNat=0 + L * m by rw [<- Int.natCast_mul,WH];omega,B8 hL]
  rfl
 by_cases hq:0<=q
 ·obtain ⟨m,rfl⟩:∃ m:Nat,q=(m:Int):=⟨q.toNat,by omega⟩
  exact pos m
 ·obtain ⟨m,rfl⟩:∃ m:Nat,q=-(m:Int):=⟨(-q).toNat,by omega⟩
  have:=h.pw_add i0 i1 ((L:Int) * -(m:Int)) ((L:Int) * (m:Int))
  rw [pos m] at this
  rw [this,Int.mul_neg,Int.add_left_neg]
  rfl
theorem Tn.xX (h:Tn n xs) (i0:0<=i) (i1:i < (n:Int)) {k v:Int} (o:Mi xs k i v):v=af.pw xs k i:=by
 obtain ⟨m,_,bk,rfl⟩:=o
 have m0:=Xp k (show ((m + 1:Nat):Int)≠0 by omega)
 have e:af.bB xs i (k % ((m + 1:Nat):Int)).toNat=af.pw xs (k % ((m + 1:Nat):Int)) i:=by unfold af.pw;rw [if_pos m0]
 rw [e]
 have e2:=h.pw_add i0 i1 (k % ((m + 1:Nat):Int)) (((m + 1:Nat):Int) * (k / ((m + 1:Nat):Int)))
 rw [h.pw_per i0 i1 bk,Int.emod_add_mul_ediv] at e2
 exact e2
end
def cC (xs:List Int) (k:Int):List Int:=(upto xs.length).map (pw xs k)
theorem Cd (xs:List Int) (k:Int):(cC xs k).length=xs.length:=by simp [cC,pk]
theorem p6 {xs:List Int} {k s:Int} (s0:0<=s) (s1:s < (xs.length:Int)):app (cC xs k) s=pw xs k s:=by
 have e:=pq (xs:=cC xs k) s0 (by rw [Cd];exact s1)
 unfold cC at e
 rw [WB,B7 (by omega)] at e
 have:=WJ e
 rw [W3 s0] at this
 exact this.symm
theorem Tn.cC {n:Nat} {xs:List Int} (h:Tn n xs) (k:Int):Tn n (cC xs k):=by
 have hl:=h.length
 refine Tn.sj (by rw [Cd];exact hl) (fun s s0 s1=>by rw [p6 s0 (by omega)];exact h.pw s0 s1 k) fun s t s0 s1 t0 t1 e=>?_
 rw [p6 s0 (by omega),p6 t0 (by omega)] at e
 have e2:=congrArg (af.pw xs (-k)) e
 rw [h.pw_add s0 s1,h.pw_add t0 t1,Int.add_left_neg] at e2
 exact e2
def shr (xs ys:List Int) (k:Int):List Int:=a8 (cC xs (-k)) ys
theorem Tn.shr {n:Nat} {xs ys:List Int} (hx:Tn n xs) (hy:Tn n ys) (k:Int):Tn n (shr xs ys k):=(hx.cC (-k)).a8 hy
theorem Tn.ni {n:Nat} {xs ys:List Int} (hx:Tn n xs) {k s:Int} (s0:0<=s) (s1:s < (n:Int)):af.app (af.shr xs ys k) s=af.app ys (af.pw xs (-k) s):=by
 have hl:=hx.length
 unfold af.shr
 rw [pz s0 (by rw [Cd,hl];exact s1),p6 s0 (by rw [hl];exact s1)]
theorem Tn.uz {n:Nat} {xs ys:List Int} (hx:Tn n xs) (hy:Tn n ys) (a b:Int):af.shr xs (af.shr xs ys a) b=af.shr xs ys (a + b):=by
 refine qv (n:=n) (hx.shr (hx.shr hy a) b).length (hx.shr hy (a + b)).length fun s s0 s1=>?_
 obtain ⟨p0,p1⟩:=hx.pw s0 s1 (-b)
 rw [hx.ni s0 s1,hx.ni p0 p1,hx.ni s0 s1,hx.pw_add s0 s1,show -a + -b=-(a + b) by omega]
theorem Tn.sr {n:Nat} {xs ys:List Int} (hx:Tn n xs) (hy:Tn n ys):af.shr xs ys 0=ys:=by
 refine qv (n:=n) (hx.shr hy 0).length hy.length fun s s0 s1=>?_
 rw [hx.ni s0 s1]
 rfl
end af
namespace af
def tb (l:Int->Nat) (p:Int->Int) (a b:Int):Bool:=if l a=l b\/l (p a)=l (p b) then false else (decide (l a < l b)).xor (decide (l (p a) < l (p b)))
section
variable {n:Nat} {L:List Int} {l:Int->Nat}
end
end af
namespace af
end af
namespace af
abbrev Sp:=Bool×Int
def cw (s:Sp):Prop:=(s.1=false->1<=s.2/\s.2<=3)/\s.2≠0
def iB (a b:Sp):Int:=if a.1 then a.2 + b.2 else (a.2 + b.2) % 4
def cx (a b:Sp):List Sp:=if iB a b=0 then [] else [(a.1,iB a b)]
def bP:List Sp->Sp->List Sp
 | [],s=>[s]
 | t :: r,s=>if t.1=s.1 then cx t s ++ r else s :: t :: r
theorem tK (t:Sp) (r:List Sp) (s:Sp):bP (t :: r) s=if t.1=s.1 then cx t s ++ r else s :: t :: r:=rfl
def jz (w:List Sp):List Sp:=w.foldl bP []
def mO (s:Sp):Sp:=(s.1,if s.1 then -s.2 else 4 - s.2)
def d3 (w:List Sp):List Sp:=(w.map mO).reverse
def Pl:List Sp->Prop
 | []=>True
 | a :: r=>cw a/\(∀ b,r.head?=some b->a.1≠b.1)/\Pl r
theorem Pl.pr:∀ {l:List Sp},Pl l->∀ s∈l,cw s
 | a :: r,h,s,hs=>by
  rcases W0.mp hs with rfl | hs
  ·exact h.1
  ·exact Pl.pr h.2.2 s hs
theorem Mr {a b:Sp} (ha:cw a) (e:a.1=b.1):(iB a b=0/\cx a b=[])\/(cw (a.1,iB a b)/\cx a b=[(a.1,iB a b)]):=by
 unfold cx
 by_cases h:iB a b=0
 ·exact .inl ⟨h,by rw [if_pos h]⟩
 ·refine .inr ⟨⟨fun hf=>?_,h⟩,by rw [if_neg h]⟩
  simp only at hf
  unfold iB at h ⊢
  simp only [hf,Xz,if_false] at h ⊢
  omega
theorem Pl.push {l:List Sp} {s:Sp} (h:Pl l) (hs:cw s):Pl (bP l s):=by
 cases l with
 | nil=>exact ⟨hs,fun b h=>(nomatch h),trivial⟩
 | cons t r =>
  rw [tK]
  split
  ·next e =>
   rcases Mr h.1 e with ⟨_,ej⟩ | ⟨hp,ej⟩
   ·rw [ej];exact h.2.2
   ·rw [ej];exact ⟨hp,h.2.1,h.2.2⟩
  ·next e =>
   refine ⟨hs,fun b hb=>?_,h⟩
   cases hb
   exact fun e'=>e e'.symm
theorem Pl.fold {w:List Sp}:∀ {l:List Sp},Pl l->(∀ s∈w,cw s)->Pl (w.foldl bP l):=by
 induction w with
 | nil=>exact fun h _=>h
 | cons s w ih=>exact fun h hw=>ih (h.push (hw s (WA))) fun s' h'=>hw s' (WK _ h')
theorem Ms {w:List Sp} (hw:∀ s∈w,cw s):Pl (jz w):=Pl.fold (l:=[]) trivial hw
theorem IV {l:List Sp} {s:Sp} (h:∀ b,l.head?=some b->s.1≠b.1):bP l s=s :: l:=by
 cases l with
 | nil=>rfl
 | cons t r=>rw [tK,if_neg fun e=>h t rfl e.symm]
theorem Pl.oo:∀ {l:List Sp},Pl l->jz l.reverse=l
 | [],_=>rfl
 | a :: r,h=>by
  unfold jz
  rw [List.reverse_cons,Xs]
  show bP (jz r.reverse) a=_
  rw [Pl.oo h.2.2,IV h.2.1]
theorem IW (u v:List Sp):jz (u ++ v)=v.foldl bP (jz u):=by unfold jz;rw [Xs]
theorem Ce {s:Sp} (h:cw s):cw (mO s):=by
 obtain ⟨b,k⟩:=s
 cases b with
 | true=>exact ⟨nofun,fun e=>h.2 (by have:-k=0:=e;show k=0;omega)⟩
 | false =>
  obtain ⟨h1,h2⟩:=h.1 rfl
  simp only at h1 h2
  exact ⟨fun _=>by show 1<=4 - k/\4 - k<=3;omega,by show 4 - k≠0;omega⟩
theorem QW {p:List Sp} {s:Sp} (hp:Pl p) (hs:cw s):bP (bP p s) (mO s)=p:=by
 have e0:cx s (mO s)=[]:=by
  unfold cx iB mO
  cases hb:s.1 <;> simp <;> omega
 cases p with
 | nil =>
  show (if s.1=(mO s).1 then cx s (mO s) ++ [] else _)=_
  rw [if_pos (show s.1=(mO s).1 from rfl),e0];rfl
 | cons t r =>
  by_cases e:t.1=s.1
  ·have e1:bP (t :: r) s=cx t s ++ r:=by rw [tK,if_pos e]
   rw [e1]
   obtain ⟨tb,tk⟩:=t
   obtain ⟨sb,sk⟩:=s
   simp only at e
   subst e
   have ht:=hp.1
   rcases Mr (b:=(tb,sk)) hp.1 rfl with ⟨h0,ej⟩ | ⟨IX,ej⟩
   ·rw [ej,List.nil_append]
    have eb:mO (tb,sk)=(tb,tk):=by
     unfold mO
     unfold iB at h0
     cases tb with
     | true=>simp only [if_true] at h0 ⊢;congr 1;omega
     | false =>
      have h1:=ht.1 rfl
      have h2:=hs.1 rfl
      simp only [Xz,if_false] at h0 h1 h2 ⊢
      congr 1;omega
    rw [eb]
    exact IV hp.2.1
   ·rw [ej]
    show (if tb=(mO (tb,sk)).1 then cx (tb,iB (tb,tk) (tb,sk)) (mO (tb,sk)) ++ r else _)=_
    rw [if_pos (show tb=(mO (tb,sk)).1 from rfl)]
    have eb:iB (tb,iB (tb,tk) (tb,sk)) (mO (tb,sk))=tk:=by
     unfold iB mO
     cases tb with
     | true=>simp only [if_true];omega
     | false =>
      have h1:=ht.1 rfl
      have h2:=hs.1 rfl
      simp only [Xz,if_false] at h1 h2 ⊢
      omega
    unfold cx
    rw [eb,if_neg ht.2]
    rfl
  ·have e1:bP (t :: r) s=s :: t :: r:=by rw [tK,if_neg e]
   rw [e1]
   show (if s.1=(mO s).1 then cx s (mO s) ++ (t :: r) else _)=_
   rw [if_pos (show s.1=(mO s).1 from rfl),e0];rfl
theorem QX {w:List Sp}:∀ {p:List Sp},Pl p->(∀ s∈w,cw s)->(w ++ d3 w).foldl bP p=p:=by
 induction w with
 | nil=>exact fun _ _=>rfl
 | cons s w ih =>
  intro p hp hw
  have e:(s :: w) ++ d3 (s :: w)=s :: ((w ++ d3 w) ++ [mO s]):=by unfold d3;simp
  rw [e]
  show ((w ++ d3 w) ++ [mO s]).foldl bP (bP p s)=p
  have hs:=hw s (WA)
  rw [Xs,ih (hp.push hs) fun s' h'=>hw s' (WK _ h')]
  exact QW hp hs
theorem QY {w:List Sp} (hw:∀ s∈w,cw s):jz (w ++ d3 w)=[]:=QX (p:=[]) trivial hw
theorem Mt {l:List Sp} {s:Sp} {M B:Nat} (h:∀ x∈l,x.2.natAbs<=M) (hs:s.2.natAbs<=B) (hp:cw s) (hl:Pl l):∀ x∈bP l s,x.2.natAbs<=M + B:=by
 intro x hx
 cases l with
 | nil=>rcases WQ.mp hx with rfl;omega
 | cons t r =>
  rw [tK] at hx
  have ht:=h t (WA)
  split at hx
  ·next e0 =>
   rcases WX.mp hx with hx | hx
   ·unfold cx at hx
    split at hx
    ·exact (nomatch hx)
    ·rcases WQ.mp hx with rfl
     show (iB t s).natAbs<=_
     unfold iB
     split
     ·omega
     ·next hb =>
      have:=hl.1.1 (by simpa using hb)
      have h2:=hp.1 (by rw [<- e0];simpa using hb)
      omega
   ·have:=h x (WK _ hx);omega
  ·rcases W0.mp hx with rfl | hx
   ·omega
   ·have:=h x hx;omega
theorem QZ {B:Nat} {w:List Sp}:∀ {l:List Sp} {M:Nat},(∀ x∈l,x.2.natAbs<=M)->Pl l->(∀ s∈w,cw s/\s.2.natAbs<=B)->∀ x∈w.foldl bP l,x.2.natAbs<=M + w.length * B:=by
 induction w with
 | nil=>intro l M h _ _ x hx;have:=h x hx;omega
 | cons s w ih =>
  intro l M h hl hw x hx
  have hs:=hw s (WA)
  have:=ih (Mt h hs.2 hs.1 hl) (hl.push hs.1) (fun s' h'=>hw s' (WK _ h')) x hx
  rw [W2,Nat.succ_mul]
  omega
theorem xY {B:Nat} {w:List Sp} (hw:∀ s∈w,cw s/\s.2.natAbs<=B):∀ x∈jz w,x.2.natAbs<=w.length * B:=fun x hx=>by
 have:=QZ (l:=[]) (M:=0) nofun trivial hw x hx
 omega
theorem Q0 (l:List Sp) (s:Sp):(bP l s).length<=l.length + 1:=by
 cases l with
 | nil=>exact Wy _
 | cons t r =>
  rw [tK]
  split
  ·unfold cx;split <;> simp <;> omega
  ·simp
theorem Q5 {w:List Sp}:∀ {l:List Sp},(w.foldl bP l).length<=l.length + w.length:=by
 induction w with
 | nil=>exact Wy _
 | cons s w ih =>
  intro l
  have:=ih (l:=bP l s)
  have h2:=Q0 l s
  rw [W2]
  exact WO this (by omega)
theorem Fq (w:List Sp):(jz w).length<=w.length:=by have:=Q5 (w:=w) (l:=[]);simpa [jz] using this
structure T4 where (a b c d:Int)
def T4.one:T4:=⟨1,0,0,1⟩
def T4.qt:T4:=⟨0,-1,1,0⟩
def T4.mul (x y:T4):T4:=⟨x.a * y.a + x.b * y.c,x.a * y.b + x.b * y.d,x.c * y.a + x.d * y.c,x.c * y.b + x.d * y.d⟩
def T4.qx (x:T4):T4:=⟨x.d,-x.b,-x.c,x.a⟩
theorem T4.ext' {x y:T4} (h1:x.a=y.a) (h2:x.b=y.b) (h3:x.c=y.c) (h4:x.d=y.d):x=y:=by cases x;cases y;simp only at h1 h2 h3 h4;subst h1 h2 h3 h4;rfl
theorem T4.assoc (x y z:T4):(x.mul y).mul z=x.mul (y.mul z):=by
 apply T4.ext' <;> simp only [T4.mul,Int.add_mul,Int.mul_add,Int.mul_assoc] <;> omega
theorem T4.one_mul (x:T4):T4.one.mul x=x:=by apply T4.ext' <;> simp [T4.mul,T4.one]
theorem T4.mul_one (x:T4):x.mul T4.one=x:=by apply T4.ext' <;> simp [T4.mul,T4.one]
theorem T4.uA (x y:T4):(x.mul y).qx=y.qx.mul x.qx:=by
 apply T4.ext' <;> simp only [T4.mul,T4.qx,Int.neg_mul,Int.mul_neg,Int.neg_neg,Int.mul_comm] <;> omega
def qp:Nat->T4
 | 0=>T4.one
 | n + 1=>T4.qt.mul (qp n)
def jQ (s:Sp):T4:=if s.1 then ⟨1,s.2,0,1⟩ else qp s.2.toNat
def m9 (T:T4) (w:List Sp):T4:=w.foldl (fun T s=>(jQ s).mul T) T
def ax (w:List Sp):T4:=m9 T4.one w
theorem Q6 (w:List Sp):∀ T:T4,m9 T w=(ax w).mul T:=by
 induction w with
 | nil=>exact fun T=>(T4.one_mul T).symm
 | cons s w ih =>
  intro T
  show m9 ((jQ s).mul T) w=(m9 ((jQ s).mul T4.one) w).mul T
  rw [ih,ih,T4.mul_one,T4.assoc]
theorem p7 (u v:List Sp):ax (u ++ v)=(ax v).mul (ax u):=by
 show m9 T4.one (u ++ v)=_
 unfold m9
 rw [Xs]
 exact Q6 v _
theorem vE (u:List Sp) (s:Sp):ax (u ++ [s])=(jQ s).mul (ax u):=by
 show m9 T4.one (u ++ [s])=_
 unfold m9
 rw [Xs];rfl
theorem t3 {k:Int} (h:1<=k/\k<=3):k=1\/k=2\/k=3:=by omega
theorem Q7 {t s:Sp} (ht:cw t) (hs:cw s) (e:t.1=s.1):ax (cx t s)=(jQ s).mul (jQ t):=by
 obtain ⟨tb,tk⟩:=t
 obtain ⟨sb,sk⟩:=s
 simp only at e
 subst e
 cases tb with
 | true =>
  have e2:(jQ (true,sk)).mul (jQ (true,tk))=⟨1,tk + sk,0,1⟩:=by apply T4.ext' <;> simp [T4.mul,jQ] <;> omega
  rw [e2]
  unfold cx iB
  simp only [if_true]
  split
  ·next h=>rw [h];rfl
  ·rw [show ax [(true,tk + sk)]=(jQ (true,tk + sk)).mul T4.one from rfl,T4.mul_one];rfl
 | false =>
  have h1:=ht.1 rfl
  have h2:=hs.1 rfl
  simp only at h1 h2
  rcases t3 h1 with rfl | rfl | rfl <;> rcases t3 h2 with rfl | rfl | rfl <;> rfl
theorem Q8 {l:List Sp} {s:Sp} (hl:Pl l) (hs:cw s):ax (bP l s).reverse=(jQ s).mul (ax l.reverse):=by
 cases l with
 | nil=>exact vE [] s
 | cons t r =>
  rw [tK]
  split
  ·next e =>
   rw [List.reverse_append,p7,List.reverse_cons,vE,<- T4.assoc]
   congr 1
   rw [<- Q7 hl.1 hs e]
   unfold cx
   split <;> rfl
  ·rw [List.reverse_cons,vE]
theorem Q9 {w:List Sp}:∀ {l:List Sp},Pl l->(∀ s∈w,cw s)->ax (w.foldl bP l).reverse=m9 (ax l.reverse) w:=by
 induction w with
 | nil=>exact fun _ _=>rfl
 | cons s w ih =>
  intro l hl hw
  have hs:=hw s (WA)
  show ax (w.foldl bP (bP l s)).reverse=m9 ((jQ s).mul (ax l.reverse)) w
  rw [ih (hl.push hs) fun s' h'=>hw s' (WK _ h'),Q8 hl hs]
theorem IY {w:List Sp} (hw:∀ s∈w,cw s):ax (jz w).reverse=ax w:=Q9 (l:=[]) trivial hw
theorem xZ {s:Sp} (h:cw s):jQ (mO s)=(jQ s).qx:=by
 obtain ⟨b,k⟩:=s
 cases b with
 | true=>apply T4.ext' <;> simp [T4.qx,jQ,mO]
 | false =>
  have h1:=h.1 rfl
  simp only at h1
  rcases t3 h1 with rfl | rfl | rfl <;> rfl
theorem vF {w:List Sp} (hw:∀ s∈w,cw s):ax (d3 w)=(ax w).qx:=by
 induction w with
 | nil=>rfl
 | cons s w ih =>
  have e:d3 (s :: w)=d3 w ++ [mO s]:=by unfold d3;simp
  have e2:ax (s :: w)=(ax w).mul (jQ s):=by
   rw [show s :: w=[s] ++ w from rfl,p7]
   congr 1
   exact (vE [] s).trans (T4.mul_one _)
  rw [e,vE,ih fun s' h'=>hw s' (WK _ h'),xZ (hw s (WA)),e2,T4.uA]
def T4.le (x:T4) (M:Nat):Prop:=x.a.natAbs<=M/\x.b.natAbs<=M/\x.c.natAbs<=M/\x.d.natAbs<=M
theorem Mu {a c k:Int} {M B:Nat} (ha:a.natAbs<=M) (hc:c.natAbs<=M) (hk:k.natAbs<=B):(a + k * c).natAbs<=(B + 1) * M:=by
 have h1:(k * c).natAbs<=B * M:=by rw [Int.natAbs_mul];exact Nat.mul_le_mul hk hc
 rw [Nat.succ_mul]
 omega
theorem vG {T:T4} {s:Sp} {M B:Nat} (h:T.le M) (hp:cw s) (hs:s.2.natAbs<=B):((jQ s).mul T).le ((B + 1) * M):=by
 obtain ⟨b,k⟩:=s
 obtain ⟨ha,hb,hc,hd⟩:=h
 have hM:M<=(B + 1) * M:=by rw [Nat.succ_mul];omega
 cases b with
 | true =>
  refine ⟨?_,?_,?_,?_⟩ <;> simp only [T4.mul,jQ,if_true,Int.one_mul,Int.zero_mul,Int.zero_add]
  ·exact Mu ha hc hs
  ·exact Mu hb hd hs
  ·omega
  ·omega
 | false =>
  have h1:=hp.1 rfl
  simp only at h1
  rcases t3 h1 with rfl | rfl | rfl <;> refine ⟨?_,?_,?_,?_⟩ <;> simp [T4.mul,jQ,qp,T4.qt,T4.one] <;> omega
theorem x3 {B:Nat} {w:List Sp}:∀ {T:T4} {M:Nat},T.le M->(∀ s∈w,cw s/\s.2.natAbs<=B)->(m9 T w).le ((B + 1) ^ w.length * M):=by
 induction w with
 | nil=>intro T M h _;simpa [m9] using h
 | cons s w ih =>
  intro T M h hw
  have hs:=hw s (WA)
  have:=ih (vG h hs.1 hs.2) fun s' h'=>hw s' (WK _ h')
  rw [W2,Nat.pow_succ,Nat.mul_assoc]
  exact this
theorem IZ {B n:Nat} {w:List Sp} (hw:∀ s∈w,cw s/\s.2.natAbs<=B) (hn:w.length<=n):(ax w).le ((B + 1) ^ n):=by
 have h:=x3 (T:=T4.one) (M:=1) ⟨by decide,by decide,by decide,by decide⟩ hw
 have h2:(B + 1) ^ w.length * 1<=(B + 1) ^ n:=by rw [Nat.mul_one];exact Nat.pow_le_pow_right (by omega) hn
 exact ⟨WO h.1 h2,WO h.2.1 h2,WO h.2.2.1 h2,WO h.2.2.2 h2⟩
end af
namespace af
def pP:List Int->List Int->Bool
 | [],[]=>false
 | [],_ :: _=>true
 | _ :: _,[]=>false
 | x :: xs,y :: ys=>if x=y then pP xs ys else decide (x < y)
theorem Fs:∀ xs:List Int,pP xs xs=false
 | []=>rfl
 | x :: xs=>by unfold pP;rw [if_pos rfl];exact Fs xs
theorem Ja:∀ {xs ys zs:List Int},pP xs ys=true->pP ys zs=true->pP xs zs=true
 | [],[],_,h,_=>by cases h
 | [],_ :: _,[],_,h=>by cases h
 | [],_ :: _,_ :: _,_,_=>rfl
 | _ :: _,[],_,h,_=>by cases h
 | _ :: _,_ :: _,[],_,h=>by cases h
 | x :: xs,y :: ys,z :: zs,h1,h2=>by
  unfold pP at h1 h2 ⊢
  by_cases a:x=y
  ·rw [if_pos a] at h1
   by_cases b:y=z
   ·rw [if_pos b] at h2
    rw [if_pos (a.trans b)];exact Ja h1 h2
   ·rw [if_neg b] at h2
    rw [if_neg (fun e=>b (a.symm.trans e))]
    rw [a];exact h2
  ·rw [if_neg a] at h1
   have h1:=of_decide_eq_true h1
   by_cases b:y=z
   ·rw [<- b,if_neg a];exact decide_eq_true h1
   ·rw [if_neg b] at h2
    have h2:=of_decide_eq_true h2
    rw [if_neg (by omega)];exact decide_eq_true (by omega)
theorem Jb:∀ {xs ys:List Int},pP xs ys=false->pP ys xs=false->xs=ys
 | [],[],_,_=>rfl
 | [],_ :: _,h,_=>by cases h
 | _ :: _,[],_,h=>by cases h
 | x :: xs,y :: ys,h1,h2=>by
  unfold pP at h1 h2
  by_cases a:x=y
  ·subst a
   rw [if_pos rfl] at h1 h2
   rw [Jb h1 h2]
  ·rw [if_neg a] at h1
   rw [if_neg (Ne.symm a)] at h2
   have h1:=of_decide_eq_false h1
   have h2:=of_decide_eq_false h2
   omega
abbrev a9:=List Int×List Int
def nH (p q:a9):Bool:=if p.1=q.1 then pP p.2 q.2 else pP p.1 q.1
theorem Mv (p:a9):nH p p=false:=by unfold nH;rw [if_pos rfl];exact Fs _
theorem Ra {p q r:a9} (h1:nH p q=true) (h2:nH q r=true):nH p r=true:=by
 unfold nH at h1 h2 ⊢
 by_cases a:p.1=q.1
 ·rw [if_pos a] at h1
  by_cases b:q.1=r.1
  ·rw [if_pos b] at h2
   rw [if_pos (a.trans b)];exact Ja h1 h2
  ·rw [if_neg b] at h2
   rw [if_neg (fun e=>b (a.symm.trans e)),a];exact h2
 ·rw [if_neg a] at h1
  by_cases b:q.1=r.1
  ·rw [<- b,if_neg a];exact h1
  ·rw [if_neg b] at h2
   have h:=Ja h1 h2
   rw [if_neg (fun e=>by rw [e,Fs] at h;cases h)];exact h
theorem Rb {p q:a9} (h1:nH p q=false) (h2:nH q p=false):p=q:=by
 unfold nH at h1 h2
 by_cases a:p.1=q.1
 ·rw [if_pos a] at h1
  rw [if_pos a.symm] at h2
  exact Prod.ext a (Jb h1 h2)
 ·rw [if_neg a] at h1
  rw [if_neg (Ne.symm a)] at h2
  exact absurd (Jb h1 h2) a
def nI:List a9->a9
 | []=>([],[])
 | p :: l=>l.foldl (fun b q=>if nH q b then q else b) p
def Lst (l:List a9) (p:a9):Prop:=p∈l/\∀ q∈l,nH q p=false
theorem Lst.unique {l m:List a9} {p q:a9} (a:Lst l p) (b:Lst m q) (h:∀ x,x∈l↔x∈m):p=q:=Rb (b.2 p ((h p).mp a.1)) (a.2 q ((h q).mpr b.1))
theorem Lst.step {l:List a9} {b q:a9} (h:Lst l b):Lst (l ++ [q]) (if nH q b then q else b):=by
 split
 ·next hq =>
  refine ⟨W7 _ (List.mem_singleton_self _),fun x hx=>?_⟩
  rcases WX.mp hx with hx | hx
  ·cases Rc:nH x q with
   | false=>rfl
   | true=>have:=Ra Rc hq;rw [h.2 x hx] at this;cases this
  ·rw [WQ.mp hx];exact Mv q
 ·next hq =>
  refine ⟨List.mem_append_left _ h.1,fun x hx=>?_⟩
  rcases WX.mp hx with hx | hx
  ·exact h.2 x hx
  ·rw [WQ.mp hx];simpa using hq
theorem Lst.fold:∀ (l pre:List a9) (b:a9),Lst pre b->Lst (pre ++ l) (l.foldl (fun b q=>if nH q b then q else b) b)
 | [],pre,b,h=>by rw [List.append_nil];exact h
 | q :: l,pre,b,h=>by
  have:=Lst.fold l (pre ++ [q]) _ (h.step (q:=q))
  rw [List.append_assoc] at this
  exact this
theorem Jc {l:List a9} (h:l≠[]):Lst l (nI l):=by
 cases l with
 | nil=>exact absurd rfl h
 | cons p l=>exact Lst.fold l [p] p ⟨List.mem_singleton_self _,fun q hq=>by rw [WQ.mp hq];exact Mv p⟩
theorem Rf {l m:List a9} (h:∀ x,x∈l↔x∈m) (hl:l≠[]):nI l=nI m:=by
 have hm:m≠[]:=fun e=>by
  obtain ⟨x,hx⟩:=List.exists_mem_of_ne_nil l hl
  have:=(h x).mp hx
  rw [e] at this
  cases this
 exact (Jc hl).unique (Jc hm) h
end af
namespace af
theorem vH (n:Nat):Tn n (upto n):=List.Perm.refl _
theorem Ft {n:Nat} {s:Int} (s0:0<=s) (s1:s < (n:Int)):app (upto n) s=s:=by
 unfold app
 rw [WN,B7 (by omega),Option.getD_some];omega
section
variable {n:Nat} {a b c g x y:List Int}
theorem qy (ha:Tn n a) (hb:Tn n b) (hc:Tn n c):a8 (a8 a b) c=a8 a (a8 b c):=by
 refine qv (n:=n) ((ha.a8 hb).a8 hc).length (ha.a8 (hb.a8 hc)).length fun s s0 s1=>?_
 obtain ⟨p0,p1⟩:=ha.app s0 s1
 rw [pz s0 (by rw [(ha.a8 hb).length];exact s1),pz s0 (by rw [ha.length];exact s1),pz s0 (by rw [ha.length];exact s1),pz p0 (by rw [hb.length];exact p1)]
theorem Cf (ha:Tn n a):a8 a (inv a)=upto n:=QK ha
theorem Jd (ha:Tn n a):a8 (inv a) a=upto n:=QL ha
theorem x4 (ha:Tn n a):a8 a (upto n)=a:=by
 refine qv (n:=n) (ha.a8 (vH n)).length ha.length fun s s0 s1=>?_
 obtain ⟨p0,p1⟩:=ha.app s0 s1
 rw [pz s0 (by rw [ha.length];exact s1),Ft p0 p1]
theorem Fu (ha:Tn n a):a8 (upto n) a=a:=by
 refine qv (n:=n) ((vH n).a8 ha).length ha.length fun s s0 s1=>?_
 rw [pz s0 (by rw [(vH n).length];exact s1),Ft s0 s1]
theorem Fv (ha:Tn n a) (hb:Tn n b) (h:a8 a b=upto n):inv a=b:=by
 have e:a8 (inv a) (a8 a b)=b:=by rw [<- qy ha.aG ha hb,Jd ha,Fu hb]
 rw [h,x4 ha.aG] at e
 exact e
theorem vI (ha:Tn n a) (hb:Tn n b):inv (a8 a b)=a8 (inv b) (inv a):=by
 refine Fv (ha.a8 hb) (hb.aG.a8 ha.aG) ?_
 rw [qy ha hb (hb.aG.a8 ha.aG),<- qy hb hb.aG ha.aG,Cf hb,Fu ha.aG,Cf ha]
theorem Mw (ha:Tn n a) (hb:Tn n b):a8 (a8 a b) (inv b)=a:=by rw [qy ha hb hb.aG,Cf hb,x4 ha]
theorem Je (ha:Tn n a) (hb:Tn n b):a8 (a8 a (inv b)) b=a:=by rw [qy ha hb.aG hb,Jd hb,x4 ha]
theorem Rg (ha:Tn n a) (hb:Tn n b):a8 a (a8 (inv a) b)=b:=by rw [<- qy ha ha.aG hb,Cf ha,Fu hb]
theorem Cg (hx:Tn n x) (i j:Int):a8 (cC x i) (cC x j)=cC x (i + j):=by
 refine qv (n:=n) ((hx.cC i).a8 (hx.cC j)).length (hx.cC (i + j)).length fun s s0 s1=>?_
 obtain ⟨p0,p1⟩:=hx.pw s0 s1 i
 have hl:=hx.length
 rw [pz s0 (by rw [Cd,hl];exact s1),p6 s0 (by rw [hl];exact s1),p6 p0 (by rw [hl];exact p1),p6 s0 (by rw [hl];exact s1),hx.pw_add s0 s1,Int.add_comm j i]
theorem Jf (hx:Tn n x):cC x 0=upto n:=by
 refine qv (n:=n) (hx.cC 0).length (vH n).length fun s s0 s1=>?_
 rw [p6 s0 (by rw [hx.length];exact s1),Ft s0 s1];rfl
theorem Ci (hx:Tn n x):cC x 1=x:=by
 refine qv (n:=n) (hx.cC 1).length hx.length fun s s0 s1=>?_
 rw [p6 s0 (by rw [hx.length];exact s1)];rfl
theorem Jg (hx:Tn n x) (k:Int):inv (cC x k)=cC x (-k):=Fv (hx.cC k) (hx.cC (-k)) (by rw [Cg hx,Int.add_right_neg,Jf hx])
theorem Jh (hx:Tn n x):cC x (-1)=inv x:=by rw [<- Jg hx,Ci hx]
theorem Mx (hx:Tn n x) (k:Int):cC (inv x) k=cC x (-k):=by
 refine qv (n:=n) (hx.aG.cC k).length (hx.cC (-k)).length fun s s0 s1=>?_
 rw [p6 s0 (by rw [hx.aG.length];exact s1),p6 s0 (by rw [hx.length];exact s1)]
 unfold pw
 by_cases h:0<=k
 ·rw [if_pos h]
  by_cases h0:k=0
  ·subst h0;rfl
  ·rw [if_neg (by omega),show -(-k)=k by omega]
 ·rw [if_neg h,if_pos (by omega),hx.inv_inv]
theorem Mz (ha:Tn n a) (hb:Tn n b) (hg:Tn n g):a8 (anew a g) (anew b g)=anew (a8 a b) g:=by
 unfold anew
 have hi:=hg.aG
 rw [qy (hi.a8 ha) hg ((hi.a8 hb).a8 hg),qy hi hb hg,Rg hg (hb.a8 hg),qy hi ha (hb.a8 hg),<- qy ha hb hg,<- qy hi (ha.a8 hb) hg]
theorem Rh (hg:Tn n g):anew (upto n) g=upto n:=by unfold anew;rw [x4 hg.aG,Jd hg]
theorem MA (ha:Tn n a) (hg:Tn n g):inv (anew a g)=anew (inv a) g:=Fv (ha.anew hg) (ha.aG.anew hg) (by rw [Mz ha ha.aG hg,Cf ha,Rh hg])
theorem Ji (hx:Tn n x) (hg:Tn n g) {i:Int} (i0:0<=i) (i1:i < (n:Int)):∀ k,bB (anew x g) (app g i) k=app g (bB x i k)
 | 0=>rfl
 | k + 1=>by
  obtain ⟨p0,p1⟩:=hx.bB i0 i1 k
  show app (anew x g) (bB (anew x g) (app g i) k)=app g (app x (bB x i k))
  rw [Ji hx hg i0 i1 k,hx.lQ hg p0 p1]
theorem Ri (hx:Tn n x) (hg:Tn n g) {i:Int} (i0:0<=i) (i1:i < (n:Int)) (k:Int):pw (anew x g) k (app g i)=app g (pw x k i):=by
 unfold pw
 split
 ·exact Ji hx hg i0 i1 _
 ·rw [MA hx hg];exact Ji hx.aG hg i0 i1 _
theorem Rj (hx:Tn n x) (hg:Tn n g) (k:Int):cC (anew x g) k=anew (cC x k) g:=by
 refine qv (n:=n) ((hx.anew hg).cC k).length ((hx.cC k).anew hg).length fun s s0 s1=>?_
 obtain ⟨p0,p1⟩:=hg.m8 s0 s1
 rw [p6 s0 (by rw [(hx.anew hg).length];exact s1),(hx.cC k).iA hg s0 s1,p6 p0 (by rw [hx.length];exact p1),<- Ri hx hg p0 p1,hg.cS s0 s1]
end
def Vf (n:Nat) (p:a9):Prop:=Tn n p.1/\Tn n p.2
def bJ (n:Nat) (p q:a9):Prop:=∃ g,Tn n g/\q=(anew p.1 g,anew p.2 g)
def Sh (k:Int) (p:a9):a9:=(p.1,shr p.1 p.2 k)
def Qt (p:a9):a9:=(inv p.2,p.1)
section
variable {n:Nat} {p q r:a9}
theorem Vf.sh (h:Vf n p) (k:Int):Vf n (Sh k p):=⟨h.1,h.1.shr h.2 k⟩
theorem Vf.qt (h:Vf n p):Vf n (Qt p):=⟨h.2.aG,h.1⟩
theorem bJ.refl (h:Vf n p):bJ n p p:=⟨upto n,vH n,by
 have e:∀ a:List Int,Tn n a->anew a (upto n)=a:=fun a ha=>by
  unfold anew
  rw [Fv (vH n) (vH n) (x4 (vH n)),Fu ha,x4 ha]
 rw [e _ h.1,e _ h.2]⟩
theorem bJ.symm (h:Vf n p) (a:bJ n p q):bJ n q p:=by
 obtain ⟨g,hg,rfl⟩:=a
 exact ⟨inv g,hg.aG,by show p=(anew (anew p.1 g) (inv g),anew (anew p.2 g) (inv g));rw [h.1.om hg,h.2.om hg]⟩
theorem bJ.trans (h:Vf n p) (a:bJ n p q) (b:bJ n q r):bJ n p r:=by
 obtain ⟨g,hg,rfl⟩:=a
 obtain ⟨f,hf,rfl⟩:=b
 exact ⟨a8 g f,hg.a8 hf,by show (anew (anew p.1 g) f,anew (anew p.2 g) f)=_;rw [h.1.oj hg hf,h.2.oj hg hf]⟩
theorem bJ.sh (h:Vf n p) (a:bJ n p q) (k:Int):bJ n (Sh k p) (Sh k q):=by
 obtain ⟨g,hg,rfl⟩:=a
 refine ⟨g,hg,?_⟩
 show (anew p.1 g,a8 (cC (anew p.1 g) (-k)) (anew p.2 g))=(anew p.1 g,anew (a8 (cC p.1 (-k)) p.2) g)
 rw [Rj h.1 hg,Mz (h.1.cC _) h.2 hg]
theorem bJ.qt (h:Vf n p) (a:bJ n p q):bJ n (Qt p) (Qt q):=by
 obtain ⟨g,hg,rfl⟩:=a
 refine ⟨g,hg,?_⟩
 show (inv (anew p.2 g),anew p.1 g)=(anew (inv p.2) g,anew p.1 g)
 rw [MA h.2 hg]
theorem Cj (h:Vf n p) (j k:Int):Sh k (Sh j p)=Sh (j + k) p:=by
 show (p.1,shr p.1 (shr p.1 p.2 j) k)=(p.1,shr p.1 p.2 (j + k))
 rw [h.1.uz h.2]
theorem uB (h:Vf n p):Sh 0 p=p:=by
 show (p.1,shr p.1 p.2 0)=p
 rw [h.1.sr h.2]
def Q2 (p:a9):a9:=(inv p.1,inv p.2)
theorem Ck (p:a9):Qt (Qt p)=Q2 p:=rfl
theorem Cm (h:Vf n p):Q2 (Q2 p)=p:=by
 show (inv (inv p.1),inv (inv p.2))=p
 rw [h.1.inv_inv,h.2.inv_inv]
theorem Vf.q2 (h:Vf n p):Vf n (Q2 p):=⟨h.1.aG,h.2.aG⟩
theorem bJ.q2 (h:Vf n p) (a:bJ n p q):bJ n (Q2 p) (Q2 q):=bJ.qt h.qt (bJ.qt h a)
theorem vJ (h:Vf n p) (k:Int):bJ n (Q2 (Sh k p)) (Sh k (Q2 p)):=by
 have hx:=h.1
 have hy:=h.2
 refine ⟨cC p.1 (-k),hx.cC _,?_⟩
 show (inv p.1,a8 (cC (inv p.1) (-k)) (inv p.2))=(anew (inv p.1) (cC p.1 (-k)),anew (inv (a8 (cC p.1 (-k)) p.2)) (cC p.1 (-k)))
 have e1:anew (inv p.1) (cC p.1 (-k))=inv p.1:=by
  unfold anew
  rw [Jg hx,<- Jh hx,Cg hx,Cg hx]
  congr 1;omega
 have e2:anew (inv (a8 (cC p.1 (-k)) p.2)) (cC p.1 (-k))=a8 (cC (inv p.1) (-k)) (inv p.2):=by
  unfold anew
  rw [vI (hx.cC _) hy,Mx hx,Jg hx,qy (hx.cC _) (hy.aG.a8 (hx.cC _)) (hx.cC _),qy hy.aG (hx.cC _) (hx.cC _),Cg hx,show - -k + -k=0 by omega,Jf hx,x4 hy.aG]
 rw [e1,e2]
theorem Cn (h:Vf n p):bJ n (Qt (Sh 1 (Qt p))) (Sh (-1) (Qt (Sh (-1) p))):=by
 have hx:=h.1
 have hy:=h.2
 have l:Qt (Sh 1 (Qt p))=(a8 (inv p.1) (inv p.2),inv p.2):=by
  show (inv (a8 (cC (inv p.2) (-1)) p.1),inv p.2)=_
  rw [Mx hy,show -(-1:Int)=1 by omega,Ci hy,vI hy hx]
 have r:Sh (-1) (Qt (Sh (-1) p))=(a8 (inv p.2) (inv p.1),inv p.2):=by
  show (inv (a8 (cC p.1 (-(-1))) p.2),a8 (cC (inv (a8 (cC p.1 (-(-1))) p.2)) (-(-1))) p.1)=_
  have hf:=hx.a8 hy
  rw [show -(-1:Int)=1 by omega,Ci hx,Ci hf.aG,vI hx hy,Je hy.aG hx]
 refine ⟨p.2,hy,?_⟩
 rw [l,r]
 show (a8 (inv p.2) (inv p.1),inv p.2)=(a8 (a8 (inv p.2) (a8 (inv p.1) (inv p.2))) p.2,a8 (a8 (inv p.2) (inv p.2)) p.2)
 rw [<- qy hy.aG hx.aG hy.aG,Je (hy.aG.a8 hx.aG) hy,Je hy.aG hy]
theorem x5 (h:Vf n p):bJ n (Qt (Sh (-1) (Qt p))) (Q2 (Sh 1 (Qt (Sh 1 p)))):=by
 have hx:=h.1
 have hy:=h.2
 have hu:=hx.aG.a8 hy
 have l:Qt (Sh (-1) (Qt p))=(a8 (inv p.1) p.2,inv p.2):=by
  show (inv (a8 (cC (inv p.2) (-(-1))) p.1),inv p.2)=_
  rw [show -(-1:Int)=1 by omega,Ci hy.aG,vI hy.aG hx,hy.inv_inv]
 have r:Q2 (Sh 1 (Qt (Sh 1 p)))=(a8 (inv p.1) p.2,a8 (inv p.1) (a8 (inv p.2) p.1)):=by
  show (inv (inv (a8 (cC p.1 (-1)) p.2)),inv (a8 (cC (inv (a8 (cC p.1 (-1)) p.2)) (-1)) p.1))=_
  rw [Jh hx,Jh hu.aG,hu.inv_inv,vI hu hx,vI hx.aG hy,hx.inv_inv]
 refine ⟨a8 (inv p.2) p.1,hy.aG.a8 hx,?_⟩
 rw [l,r]
 show (a8 (inv p.1) p.2,a8 (inv p.1) (a8 (inv p.2) p.1))=(a8 (a8 (inv (a8 (inv p.2) p.1)) (a8 (inv p.1) p.2)) (a8 (inv p.2) p.1),a8 (a8 (inv (a8 (inv p.2) p.1)) (inv p.2)) (a8 (inv p.2) p.1))
 have eg:inv (a8 (inv p.2) p.1)=a8 (inv p.1) p.2:=by rw [vI hy.aG hx,hy.inv_inv]
 have Rm:a8 (inv p.2) p.1=inv (a8 (inv p.1) p.2):=by rw [vI hx.aG hy,hx.inv_inv]
 rw [eg]
 have e1:a8 (a8 (a8 (inv p.1) p.2) (a8 (inv p.1) p.2)) (a8 (inv p.2) p.1)=a8 (inv p.1) p.2:=by rw [Rm,Mw hu hu]
 have e2:a8 (a8 (a8 (inv p.1) p.2) (inv p.2)) (a8 (inv p.2) p.1)=a8 (inv p.1) (a8 (inv p.2) p.1):=by rw [Mw hx.aG hy]
 rw [e1,e2]
end
def act:Int->List Int->a9->a9
 | k,[],p=>Sh k p
 | k,j :: ks,p=>act j ks (Qt (Sh k p))
def tS (k:Int):T4:=⟨1,k,0,1⟩
def iF (k:Int):T4:=⟨0,-1,1,k⟩
def iC:Int->List Int->T4
 | k,[]=>tS k
 | k,j :: ks=>(iC j ks).mul (iF k)
def kK (e:Bool) (M:T4):T4:=if e then ⟨-M.a,-M.b,-M.c,-M.d⟩ else M
def o5 (e:Bool) (p:a9):a9:=if e then Q2 p else p
theorem Cp (e f:Bool) (M:T4):kK e (kK f M)=kK (e.xor f) M:=by
 cases e <;> cases f <;> simp [kK]
theorem Cq (e:Bool) (M N:T4):(kK e M).mul N=kK e (M.mul N):=by
 cases e
 ·rfl
 ·unfold kK T4.mul;simp only [if_true];congr 1 <;> grind
section
variable {n:Nat} {p q r:a9}
theorem Vf.act:∀ {ks:List Int} {k:Int} {p:a9},Vf n p->Vf n (af.act k ks p)
 | [],k,p,h=>h.sh k
 | j :: ks,k,p,h=>Vf.act (ks:=ks) (h.sh k).qt
theorem bJ.act:∀ {ks:List Int} {k:Int} {p q:a9},Vf n p->bJ n p q->bJ n (af.act k ks p) (af.act k ks q)
 | [],k,p,q,h,a=>bJ.sh h a k
 | j :: ks,k,p,q,h,a=>bJ.act (ks:=ks) (h.sh k).qt (bJ.qt (h.sh k) (bJ.sh h a k))
theorem bJ.o5 (h:Vf n p) (a:bJ n p q) (e:Bool):bJ n (af.o5 e p) (af.o5 e q):=by cases e;exact a;exact bJ.q2 h a
theorem Fw (h:Vf n p) (e f:Bool):o5 e (o5 f p)=o5 (e.xor f) p:=by
 cases e <;> cases f
 ·rfl
 ·rfl
 ·rfl
 ·exact Cm h
theorem Cr:∀ {ks:List Int} {k:Int} {p:a9},Vf n p->bJ n (act k ks (Q2 p)) (Q2 (act k ks p))
 | [],k,p,h=>bJ.symm (h.sh k).q2 (vJ h k)
 | j :: ks,k,p,h=>by
  have h1:bJ n (Qt (Sh k (Q2 p))) (Qt (Q2 (Sh k p))):=bJ.qt (h.q2.sh k) (bJ.symm (h.sh k).q2 (vJ h k))
  have h2:=bJ.act (ks:=ks) (k:=j) ((h.q2.sh k).qt) h1
  have h3:=Cr (ks:=ks) (k:=j) (h.sh k).qt
  exact bJ.trans (Vf.act (ks:=j :: ks) (k:=k) h.q2) h2 h3
theorem Fx {ks:List Int} {j k:Int} (h:Vf n p):act k ks (Sh j p)=act (j + k) ks p:=by
 cases ks with
 | nil=>exact Cj h j k
 | cons i ks=>show act i ks (Qt (Sh k (Sh j p)))=act i ks (Qt (Sh (j + k) p));rw [Cj h]
theorem MB {ks:List Int} {k:Int} (h:Vf n p):act k ks (Qt p)=act 0 (k :: ks) p:=by show _=act k ks (Qt (Sh 0 p));rw [uB h]
theorem Rn {a b:Int} {ks:List Int} {j:Int} (hj:j=0\/j=1\/j=-1):∃ (k':Int) (ks':List Int) (f:Bool),ks'.length < ks.length + 2/\iC a (j :: b :: ks)=kK f (iC k' ks')/\∀ {n:Nat} {p:a9},Vf n p->bJ n (act a (j :: b :: ks) p) (o5 f (act k' ks' p)):=by
 rcases hj with rfl | rfl | rfl
 ·refine ⟨a + b,ks,true,by omega,?_,fun {n p} h=>?_⟩
  ·cases ks with
   | nil=>simp [iC,kK,T4.mul,tS,iF];omega
   | cons i ks =>
    show (((iC i ks).mul (iF b)).mul (iF 0)).mul (iF a)=kK true ((iC i ks).mul (iF (a + b)))
    rw [T4.assoc,T4.assoc]
    have:(iF b).mul ((iF 0).mul (iF a))=kK true (iF (a + b)):=by simp [kK,T4.mul,iF];omega
    rw [this]
    unfold kK T4.mul;simp only [if_true];congr 1 <;> grind
  ·show bJ n (act b ks (Qt (Sh 0 (Qt (Sh a p))))) (Q2 (act (a + b) ks p))
   rw [uB (h.sh a).qt,Ck,<- Fx h]
   exact Cr (h.sh a)
 ·refine ⟨a - 1,(b - 1) :: ks,false,by simp,?_,fun {n p} h=>?_⟩
  ·cases ks with
   | nil=>simp [iC,kK,T4.mul,tS,iF];refine ⟨?_,?_⟩ <;> grind
   | cons i ks =>
    show (((iC i ks).mul (iF b)).mul (iF 1)).mul (iF a)=((iC i ks).mul (iF (b - 1))).mul (iF (a - 1))
    rw [T4.assoc,T4.assoc,T4.assoc]
    have:(iF b).mul ((iF 1).mul (iF a))=(iF (b - 1)).mul (iF (a - 1)):=by simp [T4.mul,iF];refine ⟨?_,?_,?_⟩ <;> grind
    rw [this]
  ·show bJ n (act b ks (Qt (Sh 1 (Qt (Sh a p))))) (act (b - 1) ks (Qt (Sh (a - 1) p)))
   have h1:=bJ.act (ks:=ks) (k:=b) ((h.sh a).qt.sh 1).qt (Cn (h.sh a))
   rw [Fx ((h.sh a).sh (-1)).qt,Cj h,show -1 + b=b - 1 by omega,show a + -1=a - 1 by omega] at h1
   exact h1
 ·refine ⟨a + 1,(b + 1) :: ks,true,by simp,?_,fun {n p} h=>?_⟩
  ·cases ks with
   | nil=>simp [iC,kK,T4.mul,tS,iF];refine ⟨?_,?_⟩ <;> grind
   | cons i ks =>
    show (((iC i ks).mul (iF b)).mul (iF (-1))).mul (iF a)=kK true (((iC i ks).mul (iF (b + 1))).mul (iF (a + 1)))
    rw [T4.assoc,T4.assoc,T4.assoc]
    have:(iF b).mul ((iF (-1)).mul (iF a))=kK true ((iF (b + 1)).mul (iF (a + 1))):=by simp [kK,T4.mul,iF];refine ⟨?_,?_,?_⟩ <;> grind
    rw [this]
    unfold kK T4.mul;simp only [if_true];congr 1 <;> grind
  ·show bJ n (act b ks (Qt (Sh (-1) (Qt (Sh a p))))) (Q2 (act (b + 1) ks (Qt (Sh (a + 1) p))))
   have h1:=bJ.act (ks:=ks) (k:=b) ((h.sh a).qt.sh (-1)).qt (x5 (h.sh a))
   have h2:=Cr (ks:=ks) (k:=b) (((h.sh a).sh 1).qt.sh 1)
   rw [Fx ((h.sh a).sh 1).qt,Cj h,show 1 + b=b + 1 by omega] at h2
   have h3:=bJ.trans (Vf.act (ks:=ks) (k:=b) ((h.sh a).qt.sh (-1)).qt) h1 (by rw [Cj h] at *;exact h2)
   exact h3
def big:List Int->Prop
 | []=>True
 | [_]=>True
 | j :: b :: ks=>(2<=j\/j<=-2)/\big (b :: ks)
theorem MC:∀ (ks:List Int) (k:Int),big ks\/∃ (k':Int) (ks':List Int) (f:Bool),ks'.length < ks.length/\iC k ks=kK f (iC k' ks')/\∀ {n:Nat} {p:a9},Vf n p->bJ n (act k ks p) (o5 f (act k' ks' p))
 | [],_=>.inl trivial
 | [_],_=>.inl trivial
 | j :: b :: ks,k=>by
  by_cases hj:j=0\/j=1\/j=-1
  ·obtain ⟨k',ks',f,hl,hm,ha⟩:=Rn (a:=k) (b:=b) (ks:=ks) hj
   exact .inr ⟨k',ks',f,by simpa using hl,hm,ha⟩
  ·rcases MC (b :: ks) j with h | ⟨k',ks',f,hl,hm,ha⟩
   ·exact .inl ⟨by omega,h⟩
   ·refine .inr ⟨k,k' :: ks',f,by simpa using hl,?_,fun {n p} h=>?_⟩
    ·show (iC j (b :: ks)).mul (iF k)=kK f ((iC k' ks').mul (iF k))
     rw [hm,Cq]
    ·exact ha (h.sh k).qt
theorem MD:∀ (ks:List Int) (k:Int),big ks->(ks=[]\/2<=k\/k<=-2)->(iC k ks).c.natAbs < (iC k ks).d.natAbs
 | [],k,_,_=>by show (0:Int).natAbs < (1:Int).natAbs;decide
 | j :: ks,k,h,hk=>by
  have hk:2<=k\/k<=-2:=by rcases hk with hk | hk;cases hk;exact hk
  have hj:ks=[]\/2<=j\/j<=-2:=by
   cases ks with
   | nil=>exact .inl rfl
   | cons b ks=>exact .inr h.1
  have hb:big ks:=by
   cases ks with
   | nil=>trivial
   | cons b ks=>exact h.2
  have ih:=MD ks j hb hj
  show ((iC j ks).c * 0 + (iC j ks).d * 1).natAbs < ((iC j ks).c * -1 + (iC j ks).d * k).natAbs
  generalize (iC j ks).c=c at ih
  generalize (iC j ks).d=d at ih
  rw [Int.mul_zero,Int.zero_add,Int.mul_one]
  have e:(d * k).natAbs=d.natAbs * k.natAbs:=Int.natAbs_mul d k
  have e2:d.natAbs * 2<=d.natAbs * k.natAbs:=Nat.mul_le_mul_left _ (by omega)
  omega
theorem Cs {ks:List Int} {k:Int} (h:big ks) (hn:ks≠[]):(iC k ks).c≠0:=by
 cases ks with
 | nil=>exact absurd rfl hn
 | cons j ks =>
  have hj:ks=[]\/2<=j\/j<=-2:=by
   cases ks with
   | nil=>exact .inl rfl
   | cons b ks=>exact .inr h.1
  have hb:big ks:=by
   cases ks with
   | nil=>trivial
   | cons b ks=>exact h.2
  have ih:=MD ks j hb hj
  show (iC j ks).c * 0 + (iC j ks).d * 1≠0
  omega
theorem Jj:∀ (m:Nat) (ks:List Int) (k:Int),ks.length<=m->∀ (e:Bool),iC k ks=kK e T4.one->∀ {n:Nat} {p:a9},Vf n p->bJ n (act k ks p) (o5 e p):=by
 intro m
 induction m with
 | zero =>
  intro ks k hl e hm n p h
  have:ks=[]:=List.eq_nil_of_length_eq_zero (by omega)
  subst this
  have hm:(⟨1,k,0,1⟩:T4)=kK e T4.one:=hm
  cases e with
  | false =>
   have hk:k=0:=congrArg T4.b hm
   subst hk
   show bJ n (Sh 0 p) p
   rw [uB h];exact bJ.refl h
  | true=>exact absurd (congrArg T4.a hm) (show ¬ (1:Int)=-1 by decide)
 | succ m ih =>
  intro ks k hl e hm n p h
  by_cases hn:ks=[]
  ·subst hn
   exact ih [] k (W8 _) e hm h
  ·rcases MC ks k with hb | ⟨k',ks',f,hl',hm',ha⟩
   ·have:=Cs (k:=k) hb hn
    rw [hm] at this
    exact absurd (by cases e <;> rfl) this
   ·have hm2:iC k' ks'=kK (f.xor e) T4.one:=by
     have:kK f (iC k ks)=iC k' ks':=by rw [hm',Cp,Bool.xor_self];rfl
     rw [<- this,hm,Cp]
    have h1:=ih ks' k' (by omega) (f.xor e) hm2 h
    have h2:=bJ.trans h.act (ha h) (bJ.o5 h.act h1 f)
    rw [Fw h,<- Bool.xor_assoc,Bool.xor_self,Bool.false_xor] at h2
    exact h2
end
def ot:Nat->a9->a9
 | 0,p=>p
 | j + 1,p=>Qt (ot j p)
def stM (p:a9) (s:Sp):a9:=if s.1=true then Sh s.2 p else ot s.2.toNat p
def gA (p:a9) (w:List Sp):a9:=w.foldl stM p
section
variable {n:Nat} {p q:a9}
theorem Vf.ot (h:Vf n p):∀ j,Vf n (af.ot j p)
 | 0=>h
 | j + 1=>(Vf.ot h j).qt
theorem Vf.st (h:Vf n p) (s:Sp):Vf n (stM p s):=by
 unfold stM
 split
 ·exact h.sh _
 ·exact h.ot _
theorem Vf.ld:∀ {w:List Sp} {p:a9},Vf n p->Vf n (gA p w)
 | [],_,h=>h
 | s :: w,p,h=>Vf.ld (w:=w) (h.st s)
theorem bJ.ot (h:Vf n p) (a:bJ n p q):∀ j,bJ n (af.ot j p) (af.ot j q)
 | 0=>a
 | j + 1=>bJ.qt (h.ot j) (bJ.ot h a j)
theorem bJ.st (h:Vf n p) (a:bJ n p q) (s:Sp):bJ n (stM p s) (stM q s):=by
 unfold stM
 split
 ·exact bJ.sh h a _
 ·exact bJ.ot h a _
theorem bJ.ld:∀ {w:List Sp} {p q:a9},Vf n p->bJ n p q->bJ n (gA p w) (gA q w)
 | [],_,_,_,a=>a
 | s :: w,p,q,h,a=>bJ.ld (w:=w) (h.st s) (bJ.st h a s)
theorem x6 (p:a9) (u v:List Sp):gA p (u ++ v)=gA (gA p u) v:=by unfold gA;rw [Xs]
end
theorem ME (s:Sp) (w:List Sp):ax (s :: w)=(ax w).mul (jQ s):=by
 have:=p7 [s] w
 rw [show ax [s]=(jQ s).mul T4.one from rfl,T4.mul_one] at this
 exact this
theorem MF (e:Bool) (M N:T4):M.mul (kK e N)=kK e (M.mul N):=by
 cases e
 ·rfl
 ·unfold kK T4.mul;simp only [if_true];congr 1 <;> grind
theorem x8 (ks:List Int) (j k:Int):(iC k ks).mul (tS j)=iC (j + k) ks:=by
 cases ks with
 | nil=>simp [iC,T4.mul,tS]
 | cons i ks =>
  show ((iC i ks).mul (iF k)).mul (tS j)=(iC i ks).mul (iF (j + k))
  rw [T4.assoc]
  congr 1
  simp [T4.mul,iF,tS]
theorem x9 (ks:List Int) (k:Int):(iC k ks).mul T4.qt=iC 0 (k :: ks):=rfl
theorem MG:∀ {w:List Sp},(∀ s∈w,cw s)->∃ (k:Int) (ks:List Int) (f:Bool),ax w=kK f (iC k ks)/\∀ {n:Nat} {p:a9},Vf n p->bJ n (gA p w) (o5 f (act k ks p))
 | [],_=>⟨0,[],false,rfl,fun {n p} h=>by show bJ n p (Sh 0 p);rw [uB h];exact bJ.refl h⟩
 | s :: w,hw=>by
  obtain ⟨k,ks,f,hm,ha⟩:=MG (w:=w) fun x hx=>hw x (WK _ hx)
  have hs:=hw s WA
  obtain ⟨b,j⟩:=s
  rw [ME,hm]
  cases b with
  | true =>
   refine ⟨j + k,ks,f,?_,fun {n p} h=>?_⟩
   ·rw [Cq];congr 1;exact x8 ks j k
   ·have:=ha (h.sh j)
    rw [Fx h] at this
    exact this
  | false =>
   have c:j=1\/j=2\/j=3:=t3 (hs.1 rfl)
   rcases c with rfl | rfl | rfl
   ·refine ⟨0,k :: ks,f,?_,fun {n p} h=>?_⟩
    ·rw [Cq];congr 1
    ·have:=ha h.qt
     rw [MB h] at this
     exact this
   ·refine ⟨k,ks,!f,?_,fun {n p} h=>?_⟩
    ·rw [Cq,show jQ (false,2)=kK true T4.one from rfl,MF,T4.mul_one,Cp];cases f <;> rfl
    ·have h1:=ha h.q2
     have h2:=bJ.trans (Vf.ld (w:=w) h.q2) h1 (bJ.o5 (Vf.act h.q2) (Cr h) f)
     have e:o5 f (Q2 (act k ks p))=o5 (!f) (act k ks p):=by
      have:=Fw (p:=act k ks p) h.act f true
      rw [Bool.xor_true] at this
      exact this
     rw [e] at h2
     exact h2
   ·refine ⟨0,k :: ks,!f,?_,fun {n p} h=>?_⟩
    ·have e3:jQ (false,3)=kK true T4.qt:=rfl
     rw [Cq,e3,MF,Cp,x9];cases f <;> rfl
    ·have h1:=ha (p:=Q2 (Qt p)) h.qt.q2
     have h2:=bJ.trans (Vf.ld (w:=w) h.qt.q2) h1 (bJ.o5 (Vf.act h.qt.q2) (Cr h.qt) f)
     have e:o5 f (Q2 (act k ks (Qt p)))=o5 (!f) (act 0 (k :: ks) p):=by
      have:=Fw (p:=act k ks (Qt p)) h.qt.act f true
      rw [Bool.xor_true] at this
      rw [<- MB h]
      exact this
     rw [e] at h2
     exact h2
theorem MH {w:List Sp} (hw:∀ s∈w,cw s) (h1:ax w=T4.one) {n:Nat} {p:a9} (h:Vf n p):bJ n (gA p w) p:=by
 obtain ⟨k,ks,f,hm,ha⟩:=MG hw
 have e:iC k ks=kK f T4.one:=by
  have:kK f (ax w)=iC k ks:=by rw [hm,Cp,Bool.xor_self];rfl
  rw [<- this,h1]
 have h2:=Jj ks.length ks k (Wy _) f e h
 have h3:=bJ.trans (Vf.ld h) (ha h) (bJ.o5 h.act h2 f)
 rw [Fw h,Bool.xor_self] at h3
 exact h3
theorem ya {w:List Sp} (hw:∀ s∈w,cw s):∀ s∈d3 w,cw s:=fun s hs=>by
 unfold d3 at hs
 obtain ⟨t,ht,rfl⟩:=WR.mp (Xn.mp hs)
 exact Ce (hw t ht)
theorem Fy {w:List Sp} (hw:∀ s∈w,cw s):ax (w ++ d3 w)=T4.one:=by
 have hp:∀ s∈w ++ d3 w,cw s:=fun s hs=>by
  rcases WX.mp hs with hs | hs
  ·exact hw s hs
  ·exact ya hw s hs
 rw [<- IY hp,QY hw];rfl
theorem Fz {w:List Sp} (hw:∀ s∈w,cw s):(ax w).a * (ax w).d - (ax w).b * (ax w).c=1:=by
 have:=Fy hw
 rw [p7,vF hw] at this
 have h:=congrArg T4.a this
 have h:(ax w).d * (ax w).a + -(ax w).b * (ax w).c=1:=h
 rw [Int.mul_comm (ax w).d,Int.neg_mul] at h
 omega
theorem MI {M:T4} (h:M.a * M.d - M.b * M.c=1):M.mul M.qx=T4.one/\M.qx.mul M=T4.one:=by
 constructor <;> (apply T4.ext' <;> simp [T4.mul,T4.qx,T4.one] <;> grind)
theorem FA {u w:List Sp} (hu:∀ s∈u,cw s) (hw:∀ s∈w,cw s) (e:ax u=ax w) {n:Nat} {p:a9} (h:Vf n p):bJ n (gA p u) (gA p w):=by
 have hb:=ya hw
 have h1:bJ n (gA p (u ++ d3 w)) p:=MH (fun s hs=>by
  rcases WX.mp hs with hs | hs
  ·exact hu s hs
  ·exact hb s hs) (by rw [p7,e,<- p7];exact Fy hw) h
 rw [x6] at h1
 have h2:=bJ.ld (w:=w) (Vf.ld (Vf.ld h)) h1
 rw [<- x6] at h2
 have h3:bJ n (gA (gA p u) (d3 w ++ w)) (gA p u):=MH (fun s hs=>by
  rcases WX.mp hs with hs | hs
  ·exact hb s hs
  ·exact hw s hs) (by rw [p7,vF hw];exact (MI (Fz hw)).1) (Vf.ld h)
 exact bJ.trans (Vf.ld h) (bJ.symm (Vf.ld (Vf.ld h)) h3) h2
def rj (p:a9) (n:Nat) (s:Int):a9:=(num p.1 (bf p.1 p.2 s n),num p.2 (bf p.1 p.2 s n))
def bL (n:Nat) (p:a9):a9:=nI ((upto n).map (rj p n))
theorem vK {n:Nat} {p q:a9} (n0:0 < n) (h:Vf n p) (a:bJ n p q):bL n p=bL n q:=by
 obtain ⟨g,hg,rfl⟩:=a
 have key:∀ s:Int,0<=s->s < (n:Int)->rj (anew p.1 g,anew p.2 g) n (app g s)=rj p n s:=fun s s0 s1=>by
  show (num (anew p.1 g) (bf (anew p.1 g) (anew p.2 g) (app g s) n),num (anew p.2 g) (bf (anew p.1 g) (anew p.2 g) (app g s) n))=_
  have hb:=qP h.1 h.2 s0 s1 n
  rw [IU h.1 h.2 hg s0 s1 n,Mq h.1 hg hb,Mq h.2 hg hb]
  rfl
 refine Rf (fun x=>?_) (fun e=>?_)
 ·constructor
  ·intro hx
   obtain ⟨s,hs,rfl⟩:=WR.mp hx
   obtain ⟨s0,s1⟩:=nh.mp hs
   exact WR.mpr ⟨app g s,nh.mpr (hg.app s0 s1),key s s0 s1⟩
  ·intro hx
   obtain ⟨t,ht,rfl⟩:=WR.mp hx
   obtain ⟨t0,t1⟩:=nh.mp ht
   obtain ⟨p0,p1⟩:=hg.m8 t0 t1
   refine WR.mpr ⟨app (inv g) t,nh.mpr ⟨p0,p1⟩,?_⟩
   have:=key (app (inv g) t) p0 p1
   rw [hg.cS t0 t1] at this
   exact this.symm
 ·have:=congrArg List.length e
  rw [Wv,pk] at this
  simp at this
  omega
end af
namespace af
section
variable {n:Nat} {p q:a9} {g h:List Int} {s t:Int}
structure Wh (n:Nat) (p:a9):Prop where
 v:Vf n p
 all:∀ x:Int,0<=x->x < (n:Int)->jI p.1 p.2 x
theorem Wh.bf (w:Wh n p) (s0:0<=s) (s1:s < (n:Int)):Tn n (bf p.1 p.2 s n):=Fn w.v.1 w.v.2 s0 s1 w.all
theorem FC (xs ys:List Int):∀ k,∀ y∈bf xs ys 0 k,jI xs ys y
 | 0,y,hy=>by rw [WQ.mp (show y∈[(0:Int)] from hy)];exact .zero
 | k + 1,y,hy=>by
  have hy':y∈(match (bf xs ys 0 k)[k]? with | some x=>visit xs ys (bf xs ys 0 k) x | none=>bf xs ys 0 k):=hy
  split at hy'
  ·next z hz =>
   have vL:=FC xs ys k z (WG hz)
   rcases qw.mp hy' with hy' | rfl
   ·rcases qw.mp hy' with hy' | rfl
    ·exact FC xs ys k y hy'
    ·exact vL.r
   ·exact vL.u
  ·exact FC xs ys k y hy'
theorem vN (w:Wh n p) (v:Vf n q) (n0:0 < n) (h:∀ F:List Int,F.Nodup->(∀ x∈F,0<=x/\x < (n:Int))->Cl q.1 q.2 F->Cl p.1 p.2 F):Wh n q:=by
 refine ⟨v,fun x x0 x1=>FC q.1 q.2 n x ?_⟩
 have c:=h (bf q.1 q.2 0 n) (xW _ _ _ _) (qP v.1 v.2 (by decide) (by omega) n) (IQ v.1 v.2 (by decide) (by omega))
 refine c.all ?_ (w.all x x0 x1)
 have:=Am q.1 q.2 0 0 n
 rw [Nat.zero_add] at this
 exact this.subset (show (0:Int)∈[(0:Int)] by simp)
theorem MJ {zs F:List Int} (hz:Tn n zs) (nd:F.Nodup) (hb:∀ x∈F,0<=x/\x < (n:Int)) (hc:∀ x∈F,app zs x∈F):∀ x∈F,app (inv zs) x∈F:=fun x hx=>by
 obtain ⟨x0,x1⟩:=hb x hx
 obtain ⟨a0,a1⟩:=hz.m8 x0 x1
 exact Cc hz nd hb hc a0 a1 (by rw [hz.cS x0 x1];exact hx)
theorem Jk {zs F:List Int} (hc:∀ x∈F,app zs x∈F) {x:Int} (hx:x∈F):∀ k,bB zs x k∈F
 | 0=>hx
 | k + 1=>hc _ (Jk hc hx k)
theorem Ct {zs F:List Int} (hz:Tn n zs) (nd:F.Nodup) (hb:∀ x∈F,0<=x/\x < (n:Int)) (hc:∀ x∈F,app zs x∈F) (k:Int) {x:Int} (hx:x∈F):pw zs k x∈F:=by
 unfold pw
 split
 ·exact Jk hc hx _
 ·exact Jk (MJ hz nd hb hc) hx _
theorem Wh.sh (w:Wh n p) (n0:0 < n) (k:Int):Wh n (Sh k p):=by
 refine vN w (w.v.sh k) n0 fun F nd hb hc x hx=>⟨(hc x hx).1,?_⟩
 obtain ⟨x0,x1⟩:=hb x hx
 have h1:∀ x∈F,app p.1 x∈F:=fun x hx=>(hc x hx).1
 have hy:=Ct w.v.1 nd hb h1 k hx
 have:=(hc _ hy).2
 obtain ⟨y0,y1⟩:=hb _ hy
 have e:app (Sh k p).2 (pw p.1 k x)=app p.2 x:=by
  show app (shr p.1 p.2 k) (pw p.1 k x)=_
  unfold shr
  have hlen:(cC p.1 (-k)).length=n:=(w.v.1.cC (-k)).length
  rw [pz y0 (by rw [hlen];exact y1)]
  congr 1
  have e3:=Cg w.v.1 k (-k)
  rw [Int.add_right_neg,Jf w.v.1] at e3
  have e4:app (a8 (cC p.1 k) (cC p.1 (-k))) x=app (upto n) x:=by rw [e3]
  rw [Ft x0 x1,pz x0 (by rw [(w.v.1.cC k).length];exact x1)] at e4
  have e5:app (cC p.1 k) x=pw p.1 k x:=p6 x0 (by rw [w.v.1.length];exact x1)
  rw [e5] at e4
  exact e4
 rw [e] at this
 exact this
theorem Wh.qt (w:Wh n p) (n0:0 < n):Wh n (Qt p):=by
 refine vN w w.v.qt n0 fun F nd hb hc x hx=>⟨(hc x hx).2,?_⟩
 have:=MJ w.v.2.aG nd hb (fun x hx=>(hc x hx).1) x hx
 rw [w.v.2.inv_inv] at this
 exact this
def Od (xs ys F:List Int):Prop:=F[0]?=some 0/\∀ (k:Nat) (y:Int),F[k + 1]?=some y->∃ (j:Nat) (x:Int),j<=k/\F[j]?=some x/\(y=app xs x\/y=app ys x)
theorem Od.one (xs ys:List Int):Od xs ys [0]:=⟨rfl,fun k y h=>by cases h⟩
theorem Od.snoc {xs ys F:List Int} {x y:Int} (h:Od xs ys F) (hx:x∈F) (hy:y=app xs x\/y=app ys x):Od xs ys (F ++ [y]):=by
 have hl:0 < F.length:=List.length_pos_of_mem hx
 refine ⟨by rw [WI hl];exact h.1,fun k z hz=>?_⟩
 by_cases hk:k + 1 < F.length
 ·rw [WI hk] at hz
  obtain ⟨j,x',hj,hx',e⟩:=h.2 k z hz
  exact ⟨j,x',hj,by rw [WI (by omega)];exact hx',e⟩
 ·rw [WT (by omega)] at hz
  have hz:z=y:=by
   cases h3:k + 1 - F.length with
   | zero=>rw [h3] at hz;cases hz;rfl
   | succ m=>rw [h3] at hz;cases hz
  obtain ⟨j,hj,e⟩:=Xu hx
  have oJ:k + 1=F.length\/F.length < k + 1:=by omega
  refine ⟨j,x,by omega,by rw [WI hj,Wx hj,e],by rw [hz];exact hy⟩
structure Fo (xs ys F:List Int):Prop extends Fd xs ys F where
 od:Od xs ys F
theorem Fo.one (xs ys:List Int):Fo xs ys [0]:=⟨Fd.one xs ys,Od.one xs ys⟩
end
end af
namespace af
section
variable {n:Nat} {xs ys r r' r2:List Int} {i j x y:Int}
def Sm (xs ys r:List Int):Prop:=∀ s∈r,app ys (app xs s)=app xs (app ys s)
instance:Decidable (Sm xs ys r):=inferInstanceAs (Decidable (∀ s∈r,app ys (app xs s)=app xs (app ys s)))
end
end af
namespace af
section
variable {n:Nat} {xs ys:List Int} {rs:List (List Int)} {lows:List (List Int)} {B:List Int->List (List Int)}
end
section
variable {n:Nat} {c g:List Int} {rs rs':List (List Int)}
end
section
variable {n:Nat} {p q:a9} {g:List Int}
theorem Wh.ot (w:Wh n p) (n0:0 < n):∀ j,Wh n (af.ot j p)
 | 0=>w
 | j + 1=>(w.ot n0 j).qt n0
theorem Wh.st (w:Wh n p) (n0:0 < n) (s:Sp):Wh n (stM p s):=by
 unfold stM
 split
 ·exact w.sh n0 _
 ·exact w.ot n0 _
theorem Wh.ld (n0:0 < n):∀ {w:List Sp} {p:a9},Wh n p->Wh n (gA p w)
 | [],_,h=>h
 | s :: w,_,h=>Wh.ld n0 (w:=w) (h.st n0 s)
end
end af
namespace af
def nr (x y:Int):Int:=(2 * x + y).fdiv (2 * y)
theorem Ro (a b:Int) (hb:b≠0):(0 < b->0<=a - b * a.fdiv b/\a - b * a.fdiv b < b)/\(b < 0->b < a - b * a.fdiv b/\a - b * a.fdiv b<=0):=by
 have h1:=Int.mul_ediv_add_emod a b
 have h2:=Xp a hb
 have h3:=Int.emod_lt a hb
 rw [Int.fdiv_eq_ediv]
 constructor
 ·intro h
  rw [if_pos (.inl (by omega)),Int.sub_zero]
  have:b.natAbs=b.toNat:=by omega
  constructor <;> omega
 ·intro h
  by_cases hd:b ∣ a
  ·rw [if_pos (.inr hd),Int.sub_zero]
   have:a % b=0:=Int.emod_eq_zero_of_dvd hd
   constructor <;> omega
  ·rw [if_neg (by rintro (z | z);omega;exact hd z),Int.mul_sub]
   have hne:a % b≠0:=fun z=>hd (Int.dvd_of_emod_eq_zero z)
   constructor <;> omega
theorem vO {x y:Int} (hy:y≠0):2 * (x - nr x y * y).natAbs<=y.natAbs:=by
 obtain ⟨h1,h2⟩:=Ro (2 * x + y) (2 * y) (by omega)
 have e:2 * x + y - 2 * y * (2 * x + y).fdiv (2 * y)=2 * (x - nr x y * y) + y:=by
  unfold nr
  rw [Int.mul_sub,Int.mul_comm ((2 * x + y).fdiv (2 * y)) y,Int.mul_assoc]
  omega
 rw [e] at h1 h2
 rcases (show 0 < y\/y < 0 by omega) with h | h
 ·have:=h1 (by omega);omega
 ·have:=h2 (by omega);omega
theorem MK {x y:Int} (hy:y≠0):(nr x y).natAbs<=x.natAbs + 1:=by
 have h:=vO (x:=x) hy
 have h1:(nr x y * y).natAbs<=x.natAbs + (x - nr x y * y).natAbs:=by omega
 rw [Int.natAbs_mul] at h1
 have hy1:1<=y.natAbs:=by omega
 by_cases hq:(nr x y).natAbs<=x.natAbs + 1
 ·exact hq
 ·exfalso
  have h2:(x.natAbs + 2) * y.natAbs<=(nr x y).natAbs * y.natAbs:=Nat.mul_le_mul_right _ (by omega)
  have h3:(x.natAbs + 2) * y.natAbs=x.natAbs * y.natAbs + 2 * y.natAbs:=Nat.add_mul _ _ _
  have h4:x.natAbs<=x.natAbs * y.natAbs:=Nat.le_mul_of_pos_right _ hy1
  omega
def qQ (k:Int):List Sp:=if k=0 then [] else [(true,k)]
theorem Cu {k:Int}:∀ s∈qQ k,cw s/\s.2=k:=fun s hs=>by
 unfold qQ at hs
 split at hs
 ·cases hs
 ·next h =>
  rw [WQ.mp hs]
  exact ⟨⟨(fun z=>by cases z),h⟩,rfl⟩
theorem Jl (k:Int):ax (qQ k)=⟨1,k,0,1⟩:=by
 unfold qQ
 split
 ·next h=>rw [h];rfl
 ·show (jQ (true,k)).mul T4.one=_
  rw [T4.mul_one];rfl
theorem Cv (k:Int):(qQ k).length<=1:=by unfold qQ;split <;> simp
def rl (x y:Int):List Sp:=qQ (-(nr x y)) ++ [(false,1)]
theorem Jm (x y:Int):ax (rl x y)=⟨0,-1,1,-(nr x y)⟩:=by
 unfold rl
 rw [vE,Jl]
 apply T4.ext' <;> simp [T4.mul,jQ,qp,T4.qt,T4.one]
theorem ML {x y:Int} (hy:y≠0):∀ s∈rl x y,cw s/\s.2.natAbs<=x.natAbs + 1:=fun s hs=>by
 have h:=MK (x:=x) hy
 rcases WX.mp hs with hs | hs
 ·obtain ⟨h1,h2⟩:=Cu s hs
  exact ⟨h1,by rw [h2];omega⟩
 ·rw [WQ.mp hs]
  exact ⟨⟨fun _=>⟨by decide,by decide⟩,by decide⟩,by show 1<=_;omega⟩
theorem Jn (x y:Int):(rl x y).length<=2:=by unfold rl;rw [Wz];have:=Cv (-(nr x y));simp;omega
structure Dv (M:Nat) (x y:Int) (g:List Sp) (u v:Int) (r:Nat):Prop where
 pr:∀ s∈g,cw s/\s.2.natAbs<=M + 1
 ln:g.length<=2 * r
 ua:u=(ax g).a * x + (ax g).b * y
 vc:v=(ax g).c * x + (ax g).d * y
 ub:u.natAbs<=M
 vb:v.natAbs * 2 ^ r<=M
theorem Dv.zero {M:Nat} {x y:Int} (hx:x.natAbs<=M) (hy:y.natAbs<=M):Dv M x y [] x y 0 :=
 ⟨(fun s hs=>nomatch hs),Wy _,by show x=1 * x + 0 * y;omega,by show y=0 * x + 1 * y;omega,hx,by omega⟩
theorem Dv.step {M r:Nat} {x y u v:Int} {g:List Sp} (h:Dv M x y g u v r) (hv:v≠0):Dv M x y (g ++ rl u v) (-v) (u - nr u v * v) (r + 1):=by
 have hl:=vO (x:=u) hv
 have hlen:=Jn u v
 have h2:1<=2 ^ r:=Nat.one_le_two_pow
 have vM:v.natAbs<=M:=WO (Nat.le_mul_of_pos_right _ h2) h.vb
 have e:ax (g ++ rl u v)=⟨-(ax g).c,-(ax g).d,(ax g).a - nr u v * (ax g).c,(ax g).b - nr u v * (ax g).d⟩:=by
  rw [p7,Jm]
  apply T4.ext' <;> simp [T4.mul,Int.neg_mul] <;> omega
 refine ⟨fun s hs=>?_,by rw [Wz];have:=h.ln;omega,?_,?_,by omega,?_⟩
 ·rcases WX.mp hs with hs | hs
  ·exact h.pr s hs
  ·obtain ⟨h1,h3⟩:=ML hv s hs
   exact ⟨h1,by have:=h.ub;omega⟩
 ·rw [e]
  show -v=-(ax g).c * x + -(ax g).d * y
  rw [h.vc,Int.neg_mul,Int.neg_mul];omega
 ·rw [e]
  show u - nr u v * v=((ax g).a - nr u v * (ax g).c) * x + ((ax g).b - nr u v * (ax g).d) * y
  generalize hq:nr u v=q
  rw [h.ua,h.vc,Int.sub_mul,Int.sub_mul,Int.mul_add,Int.mul_assoc,Int.mul_assoc]
  omega
 ·have:=h.vb
  have h3:(u - nr u v * v).natAbs * 2 ^ (r + 1)=2 * (u - nr u v * v).natAbs * 2 ^ r:=by rw [Nat.pow_succ,Nat.mul_comm (2 ^ r) 2,<- Nat.mul_assoc,Nat.mul_comm _ 2]
  rw [h3]
  exact WO (Nat.mul_le_mul_right _ hl) this
theorem Dv.few {M r k:Nat} {x y u v:Int} {g:List Sp} (h:Dv M x y g u v r) (hv:v≠0) (hM:M < 2 ^ k):r < k:=by
 have h1:2 ^ r<=M:=WO (Nat.le_mul_of_pos_left _ (by omega)) h.vb
 exact (Nat.pow_lt_pow_iff_right (by decide)).mp (Xk h1 hM)
def oO (A:T4):List Sp:=if A.a=1 then qQ A.b else (false,2) :: qQ (-A.b)
theorem Rq {a d:Int} (h:a * d=1):(a=1/\d=1)\/(a=-1/\d=-1):=by
 have h1:=congrArg Int.natAbs h
 rw [Int.natAbs_mul] at h1
 have h2:a.natAbs=1:=Nat.eq_one_of_dvd_one ⟨_,h1.symm⟩
 rcases (show a=1\/a=-1 by omega) with rfl | rfl
 ·exact .inl ⟨rfl,by omega⟩
 ·exact .inr ⟨rfl,by omega⟩
theorem Rr {A:T4} (hc:A.c=0) (hd:A.a * A.d - A.b * A.c=1):ax (oO A)=A:=by
 have h1:A.a * A.d=1:=by rw [hc,Int.mul_zero] at hd;omega
 unfold oO
 rcases Rq h1 with ⟨e1,e2⟩ | ⟨e1,e2⟩
 ·rw [if_pos e1,Jl]
  exact T4.ext' e1.symm rfl hc.symm e2.symm
 ·rw [if_neg (by rw [e1];decide),ME,Jl]
  apply T4.ext'
  ·simp [T4.mul,jQ,qp,T4.qt,T4.one,e1]
  ·simp [T4.mul,jQ,qp,T4.qt,T4.one]
  ·simp [T4.mul,jQ,qp,T4.qt,T4.one,hc]
  ·simp [T4.mul,jQ,qp,T4.qt,T4.one,e2]
theorem MN (A:T4):∀ s∈oO A,cw s:=fun s hs=>by
 unfold oO at hs
 split at hs
 ·exact (Cu s hs).1
 ·rcases W0.mp hs with rfl | hs
  ·exact ⟨fun _=>⟨by decide,by decide⟩,by decide⟩
  ·exact (Cu s hs).1
theorem MO (A:T4):(oO A).length<=2:=by
 unfold oO
 split
 ·have:=Cv A.b;omega
 ·have:=Cv (-A.b);simp;omega
theorem Rt (A B:T4):(A.mul B).a * (A.mul B).d - (A.mul B).b * (A.mul B).c=(A.a * A.d - A.b * A.c) * (B.a * B.d - B.b * B.c):=by
 simp only [T4.mul]
 grind
theorem Rv {T:T4} {g:List Sp} (hd:T.a * T.d - T.b * T.c=1) (hg:∀ s∈g,cw s) (h0:(ax g).c * T.a + (ax g).d * T.c=0):ax (jz (oO ((ax g).mul T) ++ d3 g)).reverse=T/\∀ s∈(jz (oO ((ax g).mul T) ++ d3 g)).reverse,cw s:=by
 have Rw:((ax g).mul T).a * ((ax g).mul T).d - ((ax g).mul T).b * ((ax g).mul T).c=1:=by rw [Rt,Fz hg,hd];rfl
 have Rx:((ax g).mul T).c=0:=h0
 have pr:∀ s∈oO ((ax g).mul T) ++ d3 g,cw s:=fun s hs=>by
  rcases WX.mp hs with hs | hs
  ·exact MN _ s hs
  ·exact ya hg s hs
 refine ⟨?_,fun s hs=>(Ms pr).pr s (Xn.mp hs)⟩
 rw [IY pr,p7,Rr Rx Rw,vF hg,<- T4.assoc,(MI (Fz hg)).2,T4.one_mul]
end af
namespace af
section
variable {n:Nat} {p q:a9}
theorem Cw (p:a9) (n0:0 < n):∃ s:Int,0<=s/\s < (n:Int)/\bL n p=rj p n s:=by
 have h:=(Jc (l:=(upto n).map (rj p n)) (fun e=>by
  have:=congrArg List.length e
  rw [Wv,pk] at this
  simp at this
  omega)).1
 obtain ⟨s,hs,e⟩:=WR.mp h
 obtain ⟨s0,s1⟩:=nh.mp hs
 exact ⟨s,s0,s1,e.symm⟩
end
end af
namespace L4
open PySem PySem.Spec L2
inductive D where
 | non | bl (b:Bool) | int (i:Int) | str (x:Str) | ty (n:String) | tup (ds:List D) | ref (i:Nat)
instance:Inhabited D:=⟨.non⟩
inductive O where
 | lst (ds:List D) | pQ (ds:List D) | dct (kvs:List (Key×D)) | FD (kvs:List (List Int×D)) | exc (c:Str) (fs:List (Str×D)) | any | jH (lo hi:Int)
abbrev Store:=List O
abbrev av:=List (Option D)
abbrev Dm (α:Type):=Store->Option (α×Store)
inductive Fl where
 | nx (δ:av) | bk (δ:av) | ct (δ:av) | rt (d:D)
mutual
inductive Rp (K:Zfr) (ρ:List Addr) (H:Hp):V->D->Prop
 | non:Rp K ρ H .non .non
 | bl (b:Bool):Rp K ρ H (.bl b) (.bl b)
 | int (i:Int):Rp K ρ H (.int i) (.int i)
 | str (x:Str):Rp K ρ H (.str x) (.str x)
 | ty (n:String):Rp K ρ H (.ty n) (.ty n)
 | ref {a:Addr} {i:Nat}:ρ[i]?=some a->Rp K ρ H (.ref a) (.ref i)
 | tup {a:Addr} {vs:List V} {ds:List D}:fj K H a vs->cG K ρ H vs ds->Rp K ρ H (.ref a) (.tup ds)
inductive cG (K:Zfr) (ρ:List Addr) (H:Hp):List V->List D->Prop
 | nil:cG K ρ H [] []
 | cons {v:V} {vs:List V} {d:D} {ds:List D}:Rp K ρ H v d->cG K ρ H vs ds->cG K ρ H (v :: vs) (d :: ds)
end
structure Mn (K:Zfr) (ρ:List Addr) (H:Hp) (ρ':List Addr) (H':Hp):Prop where
 r:∀ (i:Nat) (a:Addr),ρ[i]?=some a->ρ'[i]?=some a
 t:∀ a vs,fj K H a vs->fj K H' a vs
 f:∀ a o u,H a=some (.oC o u)->H' a=some (.oC o u)
 x:∀ a ws,H a=some (.xd ws)->H' a=some (.xd ws)
section
variable {K:Zfr} {ρ ρ' ρ2:List Addr} {H H' H2:Hp}
theorem Mn.refl:Mn K ρ H ρ H:=⟨fun _ _ h=>h,fun _ _ h=>h,fun _ _ _ h=>h,fun _ _ h=>h⟩
theorem Mn.trans (m:Mn K ρ H ρ' H') (n:Mn K ρ' H' ρ2 H2):Mn K ρ H ρ2 H2:=⟨fun i a h=>n.r i a (m.r i a h),fun a vs h=>n.t a vs (m.t a vs h),fun a o u h=>n.f a o u (m.f a o u h),fun a ws h=>n.x a ws (m.x a ws h)⟩
mutual
theorem Rp.mn (m:Mn K ρ H ρ' H'):∀ {v:V} {d:D},Rp K ρ H v d->Rp K ρ' H' v d
 | _,_,.non=>.non
 | _,_,.bl b=>.bl b
 | _,_,.int i=>.int i
 | _,_,.str x=>.str x
 | _,_,.ty n=>.ty n
 | _,_,.ref e=>.ref (m.r _ _ e)
 | _,_,.tup q r=>.tup (m.t _ _ q) (cG.mn m r)
theorem cG.mn (m:Mn K ρ H ρ' H'):∀ {vs:List V} {ds:List D},cG K ρ H vs ds->cG K ρ' H' vs ds
 | _,_,.nil=>.nil
 | _,_,.cons a b=>.cons (Rp.mn m a) (cG.mn m b)
end
theorem cG.length:∀ {vs:List V} {ds:List D},cG K ρ H vs ds->vs.length=ds.length
 | _,_,.nil=>rfl
 | _,_,.cons _ r=>by rw [W2,W2,r.length]
theorem cG.got:∀ {vs:List V} {ds:List D},cG K ρ H vs ds->∀ {i:Nat} {d:D},ds[i]?=some d->∃ v,vs[i]?=some v/\Rp K ρ H v d
 | _,_,.nil,i,v,e=>by simp at e
 | _,_,.cons (v:=v) a b,0,d,e=>⟨v,by simp,by have:_=d:=WJ (by simpa using e);rw [<- this];exact a⟩
 | _,_,.cons a b,i + 1,d,e=>by
  obtain ⟨v,e1,r⟩:=cG.got b (i:=i) (by simpa using e)
  exact ⟨v,by simpa using e1,r⟩
theorem cG.append:∀ {vs:List V} {ds:List D} {ws:List V} {es:List D},cG K ρ H vs ds->cG K ρ H ws es->cG K ρ H (vs ++ ws) (ds ++ es)
 | _,_,_,_,.nil,s=>s
 | _,_,_,_,.cons a b,s=>.cons a (cG.append b s)
theorem cG.one {v:V} {d:D} (r:Rp K ρ H v d):cG K ρ H [v] [d]:=.cons r .nil
theorem cG.take:∀ {vs:List V} {ds:List D} (n:Nat),cG K ρ H vs ds->cG K ρ H (vs.take n) (ds.take n)
 | _,_,0,_=>.nil
 | _,_,_ + 1,.nil=>.nil
 | _,_,n + 1,.cons r t=>.cons r (cG.take n t)
theorem cG.drop:∀ {vs:List V} {ds:List D} (n:Nat),cG K ρ H vs ds->cG K ρ H (vs.drop n) (ds.drop n)
 | _,_,0,r=>r
 | _,_,_ + 1,.nil=>.nil
 | _,_,n + 1,.cons _ t=>cG.drop n t
theorem cG.set {v:V} {d:D} (r:Rp K ρ H v d):∀ {vs:List V} {ds:List D} (i:Nat),cG K ρ H vs ds->cG K ρ H (vs.set i v) (ds.set i d)
 | _,_,_,.nil=>.nil
 | _,_,0,.cons _ t=>.cons r t
 | _,_,i + 1,.cons q t=>.cons q (cG.set r i t)
theorem cG.erase:∀ {vs:List V} {ds:List D} (i:Nat),cG K ρ H vs ds->cG K ρ H (vs.eraseIdx i) (ds.eraseIdx i)
 | _,_,_,.nil=>.nil
 | _,_,0,.cons _ t=>t
 | _,_,i + 1,.cons q t=>.cons q (cG.erase i t)
theorem cG.flat {vs:List V} {ds:List D} (r:cG K ρ H vs ds):∀ n:Nat,cG K ρ H (List.replicate n vs).flatten (List.replicate n ds).flatten
 | 0=>.nil
 | n + 1=>by rw [Xi,Xi,List.flatten_cons,List.flatten_cons];exact r.append (r.flat n)
theorem cG.ints:∀ (ns:List Int),cG K ρ H (ns.map V.int) (ns.map D.int)
 | []=>.nil
 | n :: r=>.cons (.int n) (cG.ints r)
end
def Rs (K:Zfr) (ρ:List Addr) (H:Hp) (σ:St) (δ:av):Prop:=σ.length=δ.length/\∀ (i:Nat) (d:D),δ[i]?=some (some d)->∃ v,σ[i]?=some (some v)/\Rp K ρ H v d
def Rk (K:Zfr) (ρ:List Addr) (H:Hp):List (Key×V)->List (Key×D)->Prop:=Paired fun p q=>p.1=q.1/\Rp K ρ H p.2 q.2
def Ru (K:Zfr) (ρ:List Addr) (H:Hp):List (List Int×D)->List (List Int×Addr×Value)->Prop:=Paired fun q x=>q.1=x.1/\fj K H x.2.1 (x.1.map V.int)/\∃ v,RelV v x.2.2/\Rp K ρ H v q.2
def Xd (K:Zfr) (ρ:List Addr) (H:Hp):Option Addr->List (Str×D)->Prop
 | none,fs=>fs=[]
 | some d,fs=>∃ ws,H d=some (.xd ws)/\∀ f e,fs.lookup f=some e->∃ v,ws.lookup f=some v/\Rp K ρ H v e
def vP (K:Zfr) (ρ:List Addr) (H:Hp) (a:Addr):O->Prop
 | .lst ds=>∃ vs,H a=some (.lst vs)/\cG K ρ H vs ds
 | .pQ ds=>∃ vs,BN K H a vs/\cG K ρ H vs ds
 | .dct kvs=>∃ ws,H a=some (.dK ws)/\Rk K ρ H ws kvs
 | .FD kvs=>∃ xs,H a=some (DU a xs)/\Ru K ρ H kvs xs
 | .exc c fs=>∃ C dx tr,PySem.W.nsIn K mainGlobals c=some (some (.ref C))/\H a=some (XO a C dx tr)/\Xd K ρ H dx fs
 | .any=>True
 | .jH lo hi=>H a=some (.jH lo hi)
def O.mut:O->Bool
 | .pQ _=>false
 | .any=>false
 | _=>true
structure Rl (K:Zfr) (ρ:List Addr) (H:Hp) (st:Store):Prop where
 len:ρ.length=st.length
 nd:∀ (i j:Nat) (a:Addr) (o o':O),ρ[i]?=some a->ρ[j]?=some a->st[i]?=some o->st[j]?=some o'->o.mut=true->o'.mut=true->i=j
 obj:∀ (i:Nat) (a:Addr) (o:O),ρ[i]?=some a->st[i]?=some o->vP K ρ H a o
section
variable {K:Zfr} {ρ ρ' ρ2:List Addr} {H H' H2:Hp} {st st':Store} {a p:Addr} {i:Nat} {o o':O} {ho:HO} {σ:St} {δ:av}
theorem Rs.mn (h:Rs K ρ H σ δ) (m:Mn K ρ H ρ' H'):Rs K ρ' H' σ δ:=⟨h.1,fun i d e=>let ⟨v,e1,r⟩:=h.2 i d e;⟨v,e1,r.mn m⟩⟩
theorem Rk.mn (m:Mn K ρ H ρ' H') {ws:List (Key×V)} {kvs:List (Key×D)} (h:Rk K ρ H ws kvs):Rk K ρ' H' ws kvs:=by
 induction h with
 | nil=>exact .nil
 | cons a _ ih=>exact .cons ⟨a.1,a.2.mn m⟩ ih
theorem Ru.mn (m:Mn K ρ H ρ' H') {kvs:List (List Int×D)} {xs:List (List Int×Addr×Value)} (h:Ru K ρ H kvs xs):Ru K ρ' H' kvs xs:=by
 induction h with
 | nil=>exact .nil
 | cons a _ ih=>obtain ⟨a1,a2,v,a3,a4⟩:=a;exact .cons ⟨a1,m.t _ _ a2,v,a3,a4.mn m⟩ ih
theorem Xd.mn (m:Mn K ρ H ρ' H') {dx:Option Addr} {fs:List (Str×D)} (h:Xd K ρ H dx fs):Xd K ρ' H' dx fs:=by
 cases dx with
 | none=>exact h
 | some d=>obtain ⟨ws,e,q⟩:=h;exact ⟨ws,m.x _ _ e,fun f e' z=>let ⟨v,z1,z2⟩:=q f e' z;⟨v,z1,z2.mn m⟩⟩
theorem vP.keep (m:Mn K ρ H ρ' H') (h:∀ u,H a=some u->H' a=some u) (r:vP K ρ H a o):vP K ρ' H' a o:=by
 cases o with
 | lst ds=>obtain ⟨vs,e,q⟩:=r;exact ⟨vs,h _ e,q.mn m⟩
 | pQ ds =>
  obtain ⟨vs,e,q⟩:=r
  refine ⟨vs,?_,q.mn m⟩
  rcases e with ⟨u,e⟩ | e
  ·exact .inl ⟨u,h _ e⟩
  ·exact .inr e
 | dct kvs=>obtain ⟨ws,e,q⟩:=r;exact ⟨ws,h _ e,q.mn m⟩
 | FD kvs=>obtain ⟨ws,e,q⟩:=r;exact ⟨ws,h _ e,q.mn m⟩
 | exc c fs=>obtain ⟨C,dx,tr,n,e,q⟩:=r;exact ⟨C,dx,tr,n,h _ e,q.mn m⟩
 | any=>trivial
 | jH lo hi=>exact h _ r
theorem Mn.same (s:jD H H'):Mn K ρ H ρ H':=⟨fun _ _ h=>h,fun _ _ h=>(Kp.of_same (ch:=[]) s).Ie h,fun _ _ _ h=>s _ _ h,fun _ _ h=>s _ _ h⟩
theorem Rl.same (l:Rl K ρ H st) (s:jD H H'):Rl K ρ H' st:=⟨l.len,l.nd,fun i a o h1 h2=>(l.obj i a o h1 h2).keep (Mn.same s) fun u e=>s _ _ e⟩
theorem Rl.at (l:Rl K ρ H st) (h1:ρ[i]?=some a) (h2:st[i]?=some o) (hm:o.mut=true):∃ u,H a=some u/\∀ x y,u≠.oC x y:=by
 have r:=l.obj i a o h1 h2
 cases o with
 | lst ds=>obtain ⟨vs,e,_⟩:=r;exact ⟨_,e,fun x y z=>nomatch z⟩
 | pQ ds=>cases hm
 | dct kvs=>obtain ⟨ws,e,_⟩:=r;exact ⟨_,e,fun x y z=>nomatch z⟩
 | FD kvs=>obtain ⟨ws,e,_⟩:=r;exact ⟨_,e,fun x y z=>by cases z⟩
 | exc c fs=>obtain ⟨C,dx,tr,_,e,_⟩:=r;exact ⟨_,e,fun x y z=>by cases z⟩
 | any=>cases hm
 | jH lo hi=>exact ⟨_,r,fun x y z=>nomatch z⟩
theorem Mn.new (hp:H p=none):Mn K ρ H (ρ ++ [p]) (upd H p ho):=⟨fun i a h=>by
  obtain ⟨hi,_⟩:=Ww.mp h
  rw [WI hi];exact h,fun _ _ h=>(Kp.of_same (ch:=[]) (jD.up hp)).Ie h,fun _ _ _ h=>jD.up hp _ _ h,fun _ _ h=>jD.up hp _ _ h⟩
theorem Rl.new (l:Rl K ρ H st) (hp:H p=none) (mk:vP K (ρ ++ [p]) (upd H p ho) p o):Rl K (ρ ++ [p]) (upd H p ho) (st ++ [o]):=by
 have m:Mn K ρ H (ρ ++ [p]) (upd H p ho):=Mn.new hp
 have split:∀ (i:Nat) (a:Addr) (o':O),(ρ ++ [p])[i]?=some a->(st ++ [o])[i]?=some o'->(ρ[i]?=some a/\st[i]?=some o')\/(i=ρ.length/\a=p/\o'=o):=fun i a o' h1 h2=>by
  by_cases hi:i < ρ.length
  ·rw [WI hi] at h1
   rw [WI (by rw [<- l.len];exact hi)] at h2
   exact .inl ⟨h1,h2⟩
  ·obtain ⟨hb,_⟩:=Ww.mp h1
   rw [Wz,Xy] at hb
   have e:i=ρ.length:=by omega
   subst e
   rw [WT (Wy _),Xv] at h1
   rw [l.len,WT (Wy _),Xv] at h2
   exact .inr ⟨rfl,(WJ h1).symm,(WJ h2).symm⟩
 refine ⟨by rw [Wz,Wz,l.len];rfl,fun i j a u u' h1 h2 h3 h4 m1 m2=>?_,fun i a u h1 h2=>?_⟩
 ·rcases split i a u h1 h3 with ⟨g1,g2⟩ | ⟨rfl,rfl,rfl⟩ <;> rcases split j _ u' h2 h4 with ⟨k1,k2⟩ | ⟨k1,k2,k3⟩
  ·exact l.nd i j a u u' g1 k1 g2 k2 m1 m2
  ·subst k2
   obtain ⟨w,e,_⟩:=l.at g1 g2 m1
   rw [e] at hp;cases hp
  ·obtain ⟨w,e,_⟩:=l.at k1 k2 m2
   rw [e] at hp;cases hp
  ·exact k1.symm
 ·rcases split i a u h1 h2 with ⟨g1,g2⟩ | ⟨rfl,rfl,rfl⟩
  ·exact (l.obj i a u g1 g2).keep m fun w e=>jD.up hp _ _ e
  ·exact mk
theorem Rl.put (l:Rl K ρ H st) (hi:ρ[i]?=some a) (hs:st[i]?=some o) (hm:o.mut=true) (hm':o'.mut=true) (m:Mn K ρ H ρ (upd H a ho)) (r:vP K ρ (upd H a ho) a o'):Rl K ρ (upd H a ho) (st.set i o'):=by
 obtain ⟨w,ew,nf⟩:=l.at hi hs hm
 have Ry:i < st.length:=(Ww.mp hs).1
 have old:∀ (j:Nat) (u:O),(st.set i o')[j]?=some u->(j=i/\u=o')\/(j≠i/\st[j]?=some u):=fun j u h=>by
  by_cases hj:i=j
  ·subst hj
   rw [WC Ry] at h
   exact .inl ⟨rfl,(WJ h).symm⟩
  ·rw [WE hj] at h
   exact .inr ⟨fun z=>hj z.symm,h⟩
 refine ⟨by rw [Xj];exact l.len,fun j k b u u' h1 h2 h3 h4 m1 m2=>?_,fun j b u h1 h2=>?_⟩
 ·rcases old j u h3 with ⟨rfl,rfl⟩ | ⟨nj,g3⟩ <;> rcases old k u' h4 with ⟨rfl,rfl⟩ | ⟨nk,g4⟩
  ·rfl
  ·exact l.nd _ _ b o u' h1 h2 hs g4 hm m2
  ·exact l.nd _ _ b u o h1 h2 g3 hs m1 hm
  ·exact l.nd _ _ b u u' h1 h2 g3 g4 m1 m2
 ·rcases old j u h2 with ⟨rfl,rfl⟩ | ⟨nj,g2⟩
  ·rw [hi] at h1;cases h1;exact r
  ·by_cases hb:b=a
   ·subst hb
    cases u with
    | pQ ds =>
     obtain ⟨vs,e,q⟩:=l.obj j b _ h1 g2
     refine ⟨vs,?_,q.mn m⟩
     rcases e with ⟨x,e⟩ | e
     ·rw [ew] at e;cases e;exact absurd rfl (nf _ _)
     ·exact .inr e
    | lst ds=>exact absurd (l.nd j i b _ o h1 hi g2 hs rfl hm) nj
    | FD ds=>exact absurd (l.nd j i b _ o h1 hi g2 hs rfl hm) nj
    | exc c fs=>exact absurd (l.nd j i b _ o h1 hi g2 hs rfl hm) nj
    | dct ds=>exact absurd (l.nd j i b _ o h1 hi g2 hs rfl hm) nj
    | any=>trivial
    | jH lo up=>exact absurd (l.nd j i b _ o h1 hi g2 hs rfl hm) nj
   ·exact (l.obj j b u h1 g2).keep m fun w e=>by rw [kf hb];exact e
theorem Mn.put {xs:List V} (e:H a=some (.lst xs)):Mn K ρ H ρ (upd H a ho):=⟨fun _ _ h=>h,fun b vs h=>(Kp.put (ch:=[a]) (o:=ho) Kp.refl (by simp) e).Ie h,fun b o u h=>by rw [kf (fun z=>by rw [z,e] at h;cases h)];exact h,fun b ws h=>by rw [kf (fun z=>by rw [z,e] at h;cases h)];exact h⟩
theorem Mn.putD {ws:List (Key×V)} (e:H a=some (.dK ws)):Mn K ρ H ρ (upd H a ho):=⟨fun _ _ h=>h,fun b vs q=>by
 have ne:∀ u,H b=some u->(∀ w,u≠.dK w)->b≠a:=fun u hu n z=>by rw [z,e] at hu;cases hu;exact n _ rfl
 rcases q with (q | ⟨o,q⟩) | q
 ·exact .inl (.inl (by rw [kf (ne _ q fun w z=>nomatch z)];exact q))
 ·exact .inl (.inr ⟨o,by rw [kf (ne _ q fun w z=>nomatch z)];exact q⟩)
 ·exact .inr q,fun b o u h=>by rw [kf (fun z=>by rw [z,e] at h;cases h)];exact h,fun b ws h=>by rw [kf (fun z=>by rw [z,e] at h;cases h)];exact h⟩
theorem Rl.newL {vs:List V} {ds:List D} (l:Rl K ρ H st) (hp:H p=none) (r:cG K ρ H vs ds):Rl K (ρ ++ [p]) (upd H p (.lst vs)) (st ++ [.lst ds]):=l.new hp ⟨vs,q5,r.mn (Mn.new hp)⟩
theorem Rl.newD {vs:List (Key×V)} {ds:List (Key×D)} (l:Rl K ρ H st) (hp:H p=none) (r:Rk K ρ H vs ds):Rl K (ρ ++ [p]) (upd H p (.dK vs)) (st ++ [.dct ds]):=l.new hp ⟨vs,q5,r.mn (Mn.new hp)⟩
theorem newR (l:Rl K ρ H st) (v:D:=.ref st.length):(ρ ++ [p])[st.length]?=some p:=by rw [<- l.len,WT (Wy _),Xv];rfl
theorem Rl.putL {vs:List V} {ds xs:List D} (l:Rl K ρ H st) (hi:ρ[i]?=some a) (hs:st[i]?=some (.lst xs)) (r:cG K ρ H vs ds):Rl K ρ (upd H a (.lst vs)) (st.set i (.lst ds))/\Mn K ρ H ρ (upd H a (.lst vs)):=by
 obtain ⟨ws,e,_⟩:=l.obj i a _ hi hs
 have m:Mn K ρ H ρ (upd H a (.lst vs)):=Mn.put e
 exact ⟨l.put hi hs rfl rfl m ⟨vs,q5,r.mn m⟩,m⟩
theorem Rl.yb {vs:List (Key×V)} {ds xs:List (Key×D)} (l:Rl K ρ H st) (hi:ρ[i]?=some a) (hs:st[i]?=some (.dct xs)) (r:Rk K ρ H vs ds):Rl K ρ (upd H a (.dK vs)) (st.set i (.dct ds))/\Mn K ρ H ρ (upd H a (.dK vs)):=by
 obtain ⟨ws,e,_⟩:=l.obj i a _ hi hs
 have m:Mn K ρ H ρ (upd H a (.dK vs)):=Mn.putD e
 exact ⟨l.put hi hs rfl rfl m ⟨vs,q5,r.mn m⟩,m⟩
def items (st:Store) (i:Nat):Option (List D):=match st[i]? with
 | some (.lst ds)=>some ds
 | some (.pQ ds)=>some ds
 | _=>none
theorem Rl.items {ds:List D} (l:Rl K ρ H st) (hi:ρ[i]?=some a) (h:items st i=some ds):∃ vs,jy K H a vs/\cG K ρ H vs ds:=by
 unfold L4.items at h
 split at h
 ·next ds' hs=>cases h;obtain ⟨vs,e,r⟩:=l.obj i a _ hi hs;exact ⟨vs,.inl (.inl e),r⟩
 ·next ds' hs=>cases h;obtain ⟨vs,e,r⟩:=l.obj i a _ hi hs;exact ⟨vs,e.sq,r⟩
 ·cases h
end
def So (K:Zfr) {α β:Type} (R:List Addr->Hp->α->β->Prop) (t:St->Hp->(α->Hp->Prop)->Prop) (f:av->Dm β):Prop :=
 ∀ (ρ:List Addr) (σ:St) (H:Hp) (δ:av) (st:Store) (b:β) (st':Store) (Q:α->Hp->Prop),Rl K ρ H st->Rs K ρ H σ δ->f δ st=some (b,st') ->
  (∀ a H' ρ',Mn K ρ H ρ' H'->Rl K ρ' H' st'->R ρ' H' a b->Q a H')->t σ H Q
abbrev gs (K:Zfr) (t:TE) (f:av->Dm D):Prop:=So K (Rp K) t f
abbrev su (K:Zfr) (t:TT) (f:av->Dm Bool):Prop:=So K (fun _ _=>Eq) t f
abbrev qz (K:Zfr) (t:TA) (f:av->Dm (List D)):Prop:=So K (cG K) t f
abbrev FE (K:Zfr) (t:TO) (f:av->Dm (Option Int)):Prop:=So K (fun _ _=>Eq) t f
def Jo (K:Zfr) (r:V->Hp->VK->Prop) (g:D->Dm D):Prop :=
 ∀ (ρ:List Addr) (H:Hp) (st:Store) (x:V) (a:D) (b:D) (st':Store) (Q:VK),Rl K ρ H st->Rp K ρ H x a->g a st=some (b,st')->(∀ v H' ρ',Mn K ρ H ρ' H'->Rl K ρ' H' st'->Rp K ρ' H' v b->Q v H')->r x H Q
def mP (K:Zfr) (r:R2) (g:D->D->Dm D):Prop :=
 ∀ (ρ:List Addr) (H:Hp) (st:Store) (x y:V) (a c:D) (b:D) (st':Store) (Q:VK),Rl K ρ H st->Rp K ρ H x a->Rp K ρ H y c->g a c st=some (b,st')->(∀ v H' ρ',Mn K ρ H ρ' H'->Rl K ρ' H' st'->Rp K ρ' H' v b->Q v H')->r x y H Q
def qR (K:Zfr) (r:List V->Hp->VK->Prop) (g:List D->Dm D):Prop :=
 ∀ (ρ:List Addr) (H:Hp) (st:Store) (xs:List V) (as:List D) (b:D) (st':Store) (Q:VK),Rl K ρ H st->cG K ρ H xs as->g as st=some (b,st')->(∀ v H' ρ',Mn K ρ H ρ' H'->Rl K ρ' H' st'->Rp K ρ' H' v b->Q v H')->r xs H Q
def vQ (K:Zfr) (T:String) (r:V->List V->Hp->VK->Prop) (g:D->List D->Dm D):Prop :=
 ∀ (ρ:List Addr) (H:Hp) (st:Store) (x:V) (xs:List V) (a:D) (as:List D) (b:D) (st':Store) (Q:VK),Rl K ρ H st->Rp K ρ H x a->cG K ρ H xs as->g a as st=some (b,st')->(∀ v H' ρ',Mn K ρ H ρ' H'->Rl K ρ' H' st'->Rp K ρ' H' v b->Q v H')->r x xs H Q
def bnd {α β:Type} (m:Option (α×Store)) (k:α->Dm β):Option (β×Store):=match m with
 | some (a,st)=>k a st
 | none=>none
theorem dN {α β:Type} {m:Option (α×Store)} {k:α->Dm β} {r:β×Store} (h:bnd m k=some r):∃ a st,m=some (a,st)/\k a st=some r:=by
 cases m with
 | none=>cases h
 | some p=>exact ⟨p.1,p.2,rfl,h⟩
section
variable {K:Zfr}
def ag (i:Nat):av->Dm D:=fun δ st=>match δ[i]? with
 | some (some d)=>some (d,st)
 | _=>none
theorem ai (i:Nat):gs K (xb i) (ag i):=by
 intro ρ σ H δ st b st' Q l rs e q
 unfold ag at e
 split at e
 ·next d hd=>cases e;obtain ⟨v,ev,r⟩:=rs.2 i _ hd;exact ⟨v,ev,q v H ρ .refl l r⟩
 ·cases e
def fC (d:D):av->Dm D:=fun _ st=>some (d,st)
theorem sv {v:V} {d:D} (h:∀ ρ H,Rp K ρ H v d):gs K (tC v) (fC d):=by
 intro ρ σ H δ st b st' Q l rs e q
 cases e
 exact q v H ρ .refl l (h ρ H)
theorem aL (i:Int):gs K (tC (.int i)) (fC (.int i)):=sv fun _ _=>.int i
theorem Cy (b:Bool):gs K (tC (.bl b)) (fC (.bl b)):=sv fun _ _=>.bl b
theorem pA (x:Str):gs K (tC (.str x)) (fC (.str x)):=sv fun _ _=>.str x
theorem MP:gs K (tC .non) (fC .non):=sv fun _ _=>.non
def ay (g:D->D->Dm D) (fa fb:av->Dm D):av->Dm D:=fun δ st=>bnd (fa δ st) fun a st1=>bnd (fb δ st1) fun b st2=>g a b st2
theorem aC {r:R2} {g:D->D->Dm D} {ta tb:TE} {fa fb:av->Dm D} (hr:mP K r g) (ha:gs K ta fa) (hb:gs K tb fb):gs K (Bp r ta tb) (ay g fa fb):=by
 intro ρ σ H δ st b st' Q l rs e q
 obtain ⟨a,st1,e1,e⟩:=dN e
 obtain ⟨c,st2,e2,e⟩:=dN e
 refine ha ρ σ H δ st a st1 _ l rs e1 fun x H1 ρ1 m1 l1 r1=>hb ρ1 σ H1 δ st1 c st2 _ l1 (rs.mn m1) e2 fun y H2 ρ2 m2 l2 r2=>?_
 exact hr ρ2 H2 st2 x y a c b st' Q l2 (r1.mn m2) r2 e fun v H3 ρ3 m3 l3 r3=>q v H3 ρ3 ((m1.trans m2).trans m3) l3 r3
def qS (g:D->Dm D) (fa:av->Dm D):av->Dm D:=fun δ st=>bnd (fa δ st) fun a st1=>g a st1
theorem sx {r:V->Hp->VK->Prop} {g:D->Dm D} {ta:TE} {fa:av->Dm D} (hr:Jo K r g) (ha:gs K ta fa):gs K (KQ r ta) (qS g fa):=by
 intro ρ σ H δ st b st' Q l rs e q
 obtain ⟨a,st1,e1,e⟩:=dN e
 exact ha ρ σ H δ st a st1 _ l rs e1 fun x H1 ρ1 m1 l1 r1=>hr ρ1 H1 st1 x a b st' Q l1 r1 e fun v H3 ρ3 m3 l3 r3=>q v H3 ρ3 (m1.trans m3) l3 r3
def ah:av->Dm (List D):=fun _ st=>some ([],st)
def ae (fa:av->Dm D) (fr:av->Dm (List D)):av->Dm (List D):=fun δ st=>bnd (fa δ st) fun a st1=>bnd (fr δ st1) fun r st2=>some (a :: r,st2)
theorem aB:qz K Bv ah:=by
 intro ρ σ H δ st b st' Q l rs e q
 cases e
 exact q [] H ρ .refl l .nil
theorem ao {ta:TE} {tr:TA} {fa:av->Dm D} {fr:av->Dm (List D)} (ha:gs K ta fa) (hr:qz K tr fr):qz K (u7 ta tr) (ae fa fr):=by
 intro ρ σ H δ st b st' Q l rs e q
 obtain ⟨a,st1,e1,e⟩:=dN e
 obtain ⟨c,st2,e2,e⟩:=dN e
 cases e
 exact ha ρ σ H δ st a st1 _ l rs e1 fun x H1 ρ1 m1 l1 r1=>hr ρ1 σ H1 δ st1 c _ _ l1 (rs.mn m1) e2 fun y H2 ρ2 m2 l2 r2=>q _ H2 ρ2 (m1.trans m2) l2 (.cons (r1.mn m2) r2)
def lim (n:Nat):Bool:=Nat.ble n 100000
theorem Cz {n:Nat} (h:lim n=true):n<=sizeLine:=WO (Nat.le_of_ble_eq_true h) (by decide)
theorem Jp {n:Nat} (h:lim n=true):n < sizeLine:=Xk (Nat.le_of_ble_eq_true h) (by decide)
def bq (fa:av->Dm (List D)):av->Dm D:=fun δ st=>bnd (fa δ st) fun as st1=>if lim as.length=true then some (.tup as,st1) else none
theorem eX {ta:TA} {fa:av->Dm (List D)} (ha:qz K ta fa):gs K (Bw ta) (bq fa):=by
 intro ρ σ H δ st b st' Q l rs e q
 obtain ⟨as,st1,e1,e⟩:=dN e
 split at e
 ·next hl =>
  cases e
  refine ha ρ σ H δ st as _ _ l rs e1 fun xs H1 ρ1 m1 l1 r1=>⟨by rw [r1.length];exact Cz hl,fun p hp=>?_⟩
  have m2:Mn K ρ1 H1 ρ1 (upd H1 p (.tup xs)):=Mn.same (jD.up hp)
  exact q _ _ ρ1 (m1.trans m2) (l1.same (jD.up hp)) (.tup (fj.of q5) (r1.mn m2))
 ·cases e
def cZ (fa:av->Dm (List D)):av->Dm D:=fun δ st=>bnd (fa δ st) fun as st1=>if lim as.length=true then some (.ref st1.length,st1 ++ [.lst as]) else none
theorem lR {ta:TA} {fa:av->Dm (List D)} (ha:qz K ta fa):gs K (Bx ta) (cZ fa):=by
 intro ρ σ H δ st b st' Q l rs e q
 obtain ⟨as,st1,e1,e⟩:=dN e
 split at e
 ·next hl =>
  cases e
  refine ha ρ σ H δ st as _ _ l rs e1 fun xs H1 ρ1 m1 l1 r1=>⟨by rw [r1.length];exact Cz hl,fun p hp=>?_⟩
  exact q _ _ _ (m1.trans (Mn.new hp)) (l1.newL hp r1) (.ref (newR l1))
 ·cases e
def aJ (fa:av->Dm D):av->Dm Bool:=fun δ st=>bnd (fa δ st) fun a st1=>match a with
 | .bl b=>some (b,st1)
 | _=>none
theorem fR {ta:TE} {fa:av->Dm D} (ha:gs K ta fa):su K (u6 ta) (aJ fa):=by
 intro ρ σ H δ st b st' Q l rs e q
 obtain ⟨a,st1,e1,e⟩:=dN e
 cases a <;> simp at e
 obtain ⟨rfl,rfl⟩:=e
 refine ha ρ σ H δ st _ _ _ l rs e1 fun x H1 ρ1 m1 l1 r1=>?_
 cases r1
 exact ⟨_,rfl,q _ H1 ρ1 m1 l1 rfl⟩
theorem vR {ta:TE} {fa:av->Dm D} (ha:gs K ta fa):su K (tB ta) (aJ fa):=fR ha
def uC (fa:av->Dm Bool):av->Dm Bool:=fun δ st=>bnd (fa δ st) fun a st1=>some (!a,st1)
theorem yc {ta:TT} {fa:av->Dm Bool} (ha:su K ta fa):su K (Be ta) (uC fa):=by
 intro ρ σ H δ st b st' Q l rs e q
 obtain ⟨a,st1,e1,e⟩:=dN e
 cases e
 exact ha ρ σ H δ st _ _ _ l rs e1 fun x H1 ρ1 m1 l1 r1=>q _ H1 ρ1 m1 l1 (by rw [r1])
def qT (fa fb:av->Dm Bool):av->Dm Bool:=fun δ st=>bnd (fa δ st) fun a st1=>if a=true then fb δ st1 else some (false,st1)
def MQ (fa fb:av->Dm Bool):av->Dm Bool:=fun δ st=>bnd (fa δ st) fun a st1=>if a=true then some (true,st1) else fb δ st1
theorem Jq {ta tb:TT} {fa fb:av->Dm Bool} (ha:su K ta fa) (hb:su K tb fb):su K (Bd ta tb) (qT fa fb):=by
 intro ρ σ H δ st b st' Q l rs e q
 obtain ⟨a,st1,e1,e⟩:=dN e
 refine ha ρ σ H δ st _ _ _ l rs e1 fun x H1 ρ1 m1 l1 r1=>?_
 subst r1
 cases x with
 | true =>
  refine rS ?_
  rw [if_pos rfl] at e
  exact hb ρ1 σ H1 δ st1 b st' _ l1 (rs.mn m1) e fun y H2 ρ2 m2 l2 r2=>q y H2 ρ2 (m1.trans m2) l2 r2
 | false =>
  refine rR ?_
  rw [if_neg WD] at e
  cases e
  exact q _ H1 ρ1 m1 l1 rfl
def qA (fa fb:av->Dm D):av->Dm D:=fun δ st=>bnd (aJ fa δ st) fun a st1=>if a=true then fb δ st1 else some (.bl false,st1)
def CA (fa fb:av->Dm D):av->Dm D:=fun δ st=>bnd (aJ fa δ st) fun a st1=>if a=true then some (.bl true,st1) else fb δ st1
def vS (fa:av->Dm D):av->Dm D:=fun δ st=>bnd (aJ fa δ st) fun a st1=>some (.bl (!a),st1)
theorem Rz {fa:av->Dm D} {δ:av} {st st1:Store} {b:Bool} (h:aJ fa δ st=some (b,st1)):fa δ st=some (.bl b,st1):=by
 obtain ⟨a,st2,e1,e⟩:=dN h
 cases a <;> simp at e
 obtain ⟨rfl,rfl⟩:=e
 exact e1
theorem RA {ta tb:TE} {fa fb:av->Dm D} (ha:gs K ta fa) (hb:gs K tb fb):gs K (uW ta tb) (qA fa fb):=by
 intro ρ σ H δ st b st' Q l rs e q
 obtain ⟨a,st1,e1,e⟩:=dN e
 refine ha ρ σ H δ st _ _ _ l rs (Rz e1) fun x H1 ρ1 m1 l1 r1=>?_
 cases r1
 refine ⟨a,rfl,?_⟩
 cases a with
 | true =>
  refine rS ?_
  rw [if_pos rfl] at e
  exact hb ρ1 σ H1 δ st1 b st' _ l1 (rs.mn m1) e fun y H2 ρ2 m2 l2 r2=>q y H2 ρ2 (m1.trans m2) l2 r2
 | false =>
  refine rR ?_
  rw [if_neg WD] at e
  cases e
  exact q _ H1 ρ1 m1 l1 (.bl _)
def eP {β:Type} (c:av->Dm Bool) (fa fb:av->Dm β):av->Dm β:=fun δ st=>bnd (c δ st) fun a st1=>if a=true then fa δ st1 else fb δ st1
def nt:av->Dm (Option Int):=fun _ st=>some (none,st)
def pB (fa:av->Dm D):av->Dm (Option Int):=fun δ st=>bnd (fa δ st) fun a st1=>match a with
 | .int i=>some (some i,st1)
 | _=>none
theorem MR:FE K qj nt:=by
 intro ρ σ H δ st b st' Q l rs e q
 cases e
 exact q _ H ρ .refl l rfl
theorem MS {ta:TE} {fa:av->Dm D} (ha:gs K ta fa):FE K (va ta) (pB fa):=by
 intro ρ σ H δ st b st' Q l rs e q
 obtain ⟨a,st1,e1,e⟩:=dN e
 cases a <;> simp at e
 obtain ⟨rfl,rfl⟩:=e
 refine ha ρ σ H δ st _ _ _ l rs e1 fun x H1 ρ1 m1 l1 r1=>?_
 cases r1
 exact ⟨_,rfl,q _ H1 ρ1 m1 l1 rfl⟩
def yd (K:Zfr) (r:V->Option Int->Option Int->Hp->VK->Prop) (g:D->Option Int->Option Int->Dm D):Prop :=
 ∀ lo hi,Jo K (fun x=>r x lo hi) (fun a=>g a lo hi)
def CB (g:D->Option Int->Option Int->Dm D) (fa:av->Dm D) (fl fh:av->Dm (Option Int)):av->Dm D:=fun δ st=>bnd (fa δ st) fun a st1=>bnd (fl δ st1) fun lo st2=>bnd (fh δ st2) fun hi st3=>g a lo hi st3
theorem vT {r:V->Option Int->Option Int->Hp->VK->Prop} {g:D->Option Int->Option Int->Dm D} {ta:TE} {tl th:TO} {fa:av->Dm D} {fl fh:av->Dm (Option Int)} (hr:yd K r g) (ha:gs K ta fa) (hl:FE K tl fl) (hh:FE K th fh):gs K (Li r ta tl th) (CB g fa fl fh):=by
 intro ρ σ H δ st b st' Q l rs e q
 obtain ⟨a,st1,e1,e⟩:=dN e
 obtain ⟨lo,st2,e2,e⟩:=dN e
 obtain ⟨hi,st3,e3,e⟩:=dN e
 refine ha ρ σ H δ st a st1 _ l rs e1 fun x H1 ρ1 m1 l1 r1=>hl ρ1 σ H1 δ st1 lo st2 _ l1 (rs.mn m1) e2 fun y H2 ρ2 m2 l2 r2=>hh ρ2 σ H2 δ st2 hi st3 _ l2 (rs.mn (m1.trans m2)) e3 fun z H3 ρ3 m3 l3 r3=>?_
 subst r2 r3
 exact hr y z ρ3 H3 st3 x a b st' Q l3 (r1.mn (m2.trans m3)) e fun v H4 ρ4 m4 l4 r4=>q v H4 ρ4 (((m1.trans m2).trans m3).trans m4) l4 r4
def aN (g:List D->Dm D) (fa:av->Dm (List D)):av->Dm D:=fun δ st=>bnd (fa δ st) fun as st1=>g as st1
theorem cq {r:List V->Hp->VK->Prop} {g:List D->Dm D} {ta:TA} {fa:av->Dm (List D)} (hr:qR K r g) (ha:qz K ta fa):gs K (HG r ta) (aN g fa):=by
 intro ρ σ H δ st b st' Q l rs e q
 obtain ⟨as,st1,e1,e⟩:=dN e
 exact ha ρ σ H δ st as st1 _ l rs e1 fun x H1 ρ1 m1 l1 r1=>hr ρ1 H1 st1 x as b st' Q l1 r1 e fun v H3 ρ3 m3 l3 r3=>q v H3 ρ3 (m1.trans m3) l3 r3
def bj (K:Zfr) (n:Nat) (F:List D->Dm D):Sp:=fun vs H Q _=>vs.length=n/\∃ (ρ:List Addr) (st:Store) (ds:List D) (b:D) (st':Store),Rl K ρ H st/\cG K ρ H vs ds/\F ds st=some (b,st') /\
 ∀ v H' ρ',Mn K ρ H ρ' H'->Rl K ρ' H' st'->Rp K ρ' H' v b->Q v H'
theorem cb {n:Nat} {F:List D->Dm D} {ta:TA} {fa:av->Dm (List D)} {E:XK} (ha:qz K ta fa) (hn:∀ δ st as st',fa δ st=some (as,st')->as.length=n):gs K (pj (bj K n F) [] E ta) (aN F fa):=by
 intro ρ σ H δ st b st' Q l rs e q
 obtain ⟨as,st1,e1,e⟩:=dN e
 refine ha ρ σ H δ st as st1 _ l rs e1 fun vs H1 ρ1 m1 l1 r1=>⟨?_,ρ1,st1,as,b,st',l1,?_,e,fun v H3 ρ3 m3 l3 r3=>q v H3 ρ3 (m1.trans m3) l3 r3⟩
 ·rw [List.append_nil,r1.length];exact hn _ _ _ _ e1
 ·rw [List.append_nil];exact r1
theorem RB {δ:av} {st st':Store} {as:List D} (h:ah δ st=some (as,st')):as.length=0:=by cases h;rfl
theorem FF {fa:av->Dm D} {fr:av->Dm (List D)} {n:Nat} (hr:∀ δ st as st',fr δ st=some (as,st')->as.length=n):∀ δ st as st',ae fa fr δ st=some (as,st')->as.length=n + 1:=fun δ st as st' h=>by
 obtain ⟨a,st1,e1,e⟩:=dN h
 obtain ⟨c,st2,e2,e⟩:=dN e
 cases e
 rw [W2,hr _ _ _ _ e2]
end
end L4
namespace L4
open PySem PySem.Spec L2
section
variable {K:Zfr}
def vU (h:Int->Int->D):D->D->Dm D
 | .int i,.int j,st=>some (h i j,st)
 | _,_,_=>none
theorem CC {gv:Int->Int->V} {h:Int->Int->D} (hh:∀ i j ρ H,Rp K ρ H (gv i j) (h i j)):mP K (qK gv) (vU h):=by
 intro ρ H st x y a c b st' Q l rx ry e q
 unfold vU at e
 split at e
 ·cases e;cases rx;cases ry;exact ⟨_,_,rfl,rfl,q _ H ρ .refl l (hh _ _ ρ H)⟩
 ·cases e
def uD (c:Int->Int->Bool) (h:Int->Int->D):D->D->Dm D
 | .int i,.int j,st=>if c i j=true then some (h i j,st) else none
 | _,_,_=>none
theorem Ao {C:Int->Int->Prop} {c:Int->Int->Bool} {gv:Int->Int->V} {h:Int->Int->D} (hc:∀ i j,c i j=true->C i j) (hh:∀ i j ρ H,Rp K ρ H (gv i j) (h i j)):mP K (rI C gv) (uD c h):=by
 intro ρ H st x y a d b st' Q l rx ry e q
 unfold uD at e
 split at e
 ·split at e
  ·next hcc=>cases e;cases rx;cases ry;exact ⟨_,_,rfl,rfl,hc _ _ hcc,q _ H ρ .refl l (hh _ _ ρ H)⟩
  ·cases e
 ·cases e
def c4:D->D->Dm D:=vU fun i j=>.int (i + j)
def mZ:D->D->Dm D:=vU fun i j=>.int (i - j)
def mv:D->D->Dm D:=uD (fun i j=>decide (-18446744073709551616 < i/\i < 18446744073709551616) || decide (-18446744073709551616 < j/\j < 18446744073709551616)) fun i j=>.int (i * j)
def pC:D->D->Dm D:=uD (fun i j=>decide (0 < j/\j < 1073741824)) fun i j=>.int (i / j)
def jR:D->D->Dm D:=uD (fun i j=>decide (0 < j)) fun i j=>.int (i % j)
def sy:D->D->Dm D:=uD (fun i j=>decide (0<=j/\j<=1000000/\i.natAbs < 18446744073709551616)) fun i j=>.int (i ^ j.toNat)
def vV:D->D->Dm D:=vU fun i j=>.bl (decide (i < j))
def RC:D->D->Dm D:=vU fun i j=>.bl (decide (i<=j))
def uE:D->D->Dm D:=vU fun i j=>.bl (decide (j < i))
def Jr:D->D->Dm D:=vU fun i j=>.bl (decide (j<=i))
theorem lI:mP K (qK fun i j=>.int (i + j)) c4:=CC fun _ _ _ _=>.int _
theorem ye:mP K (qK fun i j=>.int (i - j)) mZ:=CC fun _ _ _ _=>.int _
theorem tL:mP K (rI rK fun i j=>.int (i * j)) mv:=Ao (fun i j h=>by
 rw [Bool.or_eq_true,decide_eq_true_eq,decide_eq_true_eq] at h
 exact h) fun _ _ _ _=>.int _
theorem MT:mP K (rI Br fun i j=>.int (i / j)) pC:=Ao (fun i j h=>of_decide_eq_true (p:=0 < j/\j < 1073741824) h) fun _ _ _ _=>.int _
theorem qU:mP K (rI (fun _ j=>0 < j) fun i j=>.int (i % j)) jR:=Ao (fun i j h=>of_decide_eq_true h) fun _ _ _ _=>.int _
theorem MU:mP K (rI Bs fun i j=>.int (i ^ j.toNat)) sy:=Ao (fun i j h=>by have h:=of_decide_eq_true (p:=0<=j/\j<=1000000/\i.natAbs < 18446744073709551616) h;exact ⟨h.1,h.2.1,by omega⟩) fun _ _ _ _=>.int _
theorem Ap:mP K (qK fun i j=>.bl (decide (i < j))) vV:=CC fun _ _ _ _=>.bl _
theorem Aq:mP K (qK fun i j=>.bl (decide (j < i))) uE:=CC fun _ _ _ _=>.bl _
theorem CD:mP K (qK fun i j=>.bl (decide (j<=i))) Jr:=CC fun _ _ _ _=>.bl _
def lS:D->Dm D
 | .int i,st=>some (.int (-i),st)
 | _,_=>none
theorem sA:Jo K (rU fun i=>.int (-i)) lS:=by
 intro ρ H st x a b st' Q l rx e q
 unfold lS at e
 split at e
 ·cases e;cases rx;exact ⟨_,rfl,q _ H ρ .refl l (.int _)⟩
 ·cases e
def sV:D->Option V
 | .non=>some .non
 | .bl b=>some (.bl b)
 | .int i=>some (.int i)
 | .str x=>some (.str x)
 | _=>none
theorem Ar {ρ:List Addr} {H:Hp} {x v:V} {a:D} (r:Rp K ρ H x a) (h:sV a=some v):x=v:=by
 cases r <;> first | (cases h;rfl) | cases h
def jE (neg:Bool):D->D->Dm D:=fun a b st=>match sV a,sV b with
 | some x,some y=>if oH x y=true then some (.bl (if neg then !decide (x=y) else decide (x=y)),st) else none
 | _,_=>none
theorem ou:mP K KU (jE false):=by
 intro ρ H st x y a c b st' Q l rx ry e q
 unfold jE at e
 split at e
 ·next u v h1 h2 =>
  split at e
  ·next hs=>cases e;cases Ar rx h1;cases Ar ry h2;exact ⟨hs,q _ H ρ .refl l (.bl _)⟩
  ·cases e
 ·cases e
theorem CF:mP K KW (jE true):=by
 intro ρ H st x y a c b st' Q l rx ry e q
 unfold jE at e
 split at e
 ·next u v h1 h2 =>
  split at e
  ·next hs=>cases e;cases Ar rx h1;cases Ar ry h2;exact ⟨hs,q _ H ρ .refl l (.bl _)⟩
  ·cases e
 ·cases e
def cn {α β:Type} (f:α->Option β):List α->Option (List β)
 | []=>some []
 | a :: r=>match f a,cn f r with
  | some b,some s=>some (b :: s)
  | _,_=>none
theorem CG {α β:Type} {f:α->Option β} {a:α} {r:List α} {s:List β} (h:cn f (a :: r)=some s):∃ b t,f a=some b/\cn f r=some t/\s=b :: t:=by
 unfold cn at h
 split at h
 ·next b t h1 h2=>cases h;exact ⟨b,t,h1,h2,rfl⟩
 ·cases h
theorem vW {α β γ:Type} {f:α->Option β} {g:γ->α} {k:γ->β} (h:∀ c,f (g c)=some (k c)):∀ l:List γ,cn f (l.map g)=some (l.map k)
 | []=>rfl
 | c :: r=>by
  show cn f (g c :: r.map g)=_
  unfold cn
  rw [h c,vW h r]
  rfl
def fS (st:Store):Nat->D->Option PyData
 | 0,_=>none
 | _ + 1,.non=>some .none
 | _ + 1,.bl b=>some (.bool b)
 | _ + 1,.int i=>some (.int i)
 | _ + 1,.str x=>some (.str x)
 | _ + 1,.ty _=>none
 | n + 1,.tup ds=>(cn (fS st n) ds).map PyData.tuple
 | n + 1,.ref i=>match items st i with
  | some ds=>(cn (fS st n) ds).map PyData.list
  | none=>none
theorem As {ρ:List Addr} {H:Hp} {st:Store} (l:Rl K ρ H st):∀ (n:Nat) {v:V} {d:D} {p:PyData},Rp K ρ H v d->fS st n d=some p->Rep K H v p
 | 0,_,_,_,_,h=>by simp [fS] at h
 | n + 1,v,d,p,r,h=>by
  have all:∀ {vs:List V} {ds:List D} {ps:List PyData},cG K ρ H vs ds->cn (fS st n) ds=some ps->fY K H vs ps:=by
   intro vs ds ps rr
   induction vs generalizing ds ps with
   | nil=>intro hm;cases rr;cases hm;exact .nil
   | cons w ws ih =>
    intro hm
    cases rr with
    | cons ra rb =>
     obtain ⟨b,t,h1,h2,rfl⟩:=CG hm
     exact .cons (As l n ra h1) (ih rb h2)
  cases r with
  | non=>simp [fS] at h;subst h;exact .non
  | bl b=>simp [fS] at h;subst h;exact .bl b
  | int i=>simp [fS] at h;subst h;exact .int i
  | str x=>simp [fS] at h;subst h;exact .str x
  | ty n=>simp [fS] at h
  | ref hi =>
   simp only [fS] at h
   split at h
   ·next ds hd =>
    obtain ⟨ps,h1,rfl⟩:=WZ.mp h
    obtain ⟨vs,e,rr⟩:=l.items hi hd
    exact .lst e (all rr h1)
   ·cases h
  | tup q rr =>
   simp only [fS] at h
   obtain ⟨ps,h1,rfl⟩:=WZ.mp h
   exact .tup q (all rr h1)
def iH (neg:Bool):D->D->Dm D:=fun a b st=>match fS st 20 a,fS st 20 b with
 | some p,some q=>if (PyData.canLay0 p && PyData.canLay0 q && decide (min p.depth q.depth<=60))=true then some (.bl (if neg then !PyData.eqv p q else PyData.eqv p q),st) else none
 | _,_=>none
theorem Au (neg:Bool):mP K (xH K neg) (iH neg):=by
 intro ρ H st x y a c b st' Q l rx ry e q
 unfold iH at e
 split at e
 ·next u v h1 h2 =>
  split at e
  ·next hs =>
   cases e
   rw [WW,WW,decide_eq_true_eq] at hs
   exact ⟨u,v,As l 20 rx h1,As l 20 ry h2,hs.1.1,hs.1.2,hs.2,q _ H ρ .refl l (.bl _)⟩
  ·cases e
 ·cases e
theorem at_of {ρ:List Addr} {H:Hp} {vs:List V} {ds:List D} {i:Int} {d:D} (r:cG K ρ H vs ds) (h:eE ds i=some d):∃ v,eE vs i=some v/\Rp K ρ H v d:=by
 unfold eE at h ⊢
 rw [r.length]
 cases hx:mM ds.length i with
 | none=>rw [hx] at h;cases h
 | some j =>
  rw [hx] at h
  exact r.got h
def aM:D->D->Dm D
 | .tup ds,.int i,st=>match eE ds i with
  | some d=>some (d,st)
  | none=>none
 | _,_,_=>none
theorem bU:mP K (xx K) aM:=by
 intro ρ H st x y a c b st' Q l rx ry e q
 unfold aM at e
 split at e
 ·split at e
  ·next d hd =>
   cases e
   cases ry
   cases rx with
   | tup s r =>
    obtain ⟨v,hv,rv⟩:=at_of r hd
    exact ⟨_,_,_,v,rfl,rfl,s,hv,q v H ρ .refl l rv⟩
  ·cases e
 ·cases e
def cc:D->D->Dm D
 | .ref r,.int i,st=>match items st r with
  | some ds=>match eE ds i with
   | some d=>some (d,st)
   | none=>none
  | none=>none
 | _,_,_=>none
theorem jS:mP K (xw K) cc:=by
 intro ρ H st x y a c b st' Q l rx ry e q
 unfold cc at e
 split at e
 ·split at e
  ·next ds hi =>
   split at e
   ·next d hd =>
    cases e
    cases ry
    cases rx with
    | ref hr =>
     obtain ⟨vs,s,r⟩:=l.items hr hi
     obtain ⟨v,hv,rv⟩:=at_of r hd
     exact ⟨_,_,_,v,rfl,rfl,s,hv,q v H ρ .refl l rv⟩
   ·cases e
  ·cases e
 ·cases e
def yf:D->D->Dm D
 | .str z,.int i,st=>if lim z.length=true then match eE z.cps.toList i with
   | some c=>some (.str ⟨#[c]⟩,st)
   | none=>none
  else none
 | _,_,_=>none
def cutD (xs:List D) (lo hi:Option Int):List D:=(xs.drop (HT.cJ xs.length 0 lo)).take (HT.cJ xs.length xs.length hi - HT.cJ xs.length 0 lo)
theorem cG.cut {ρ:List Addr} {H:Hp} {vs:List V} {ds:List D} (r:cG K ρ H vs ds) (lo hi:Option Int):cG K ρ H (nF vs lo hi) (cutD ds lo hi):=by
 unfold nF cutD
 rw [r.length]
 exact (r.drop _).take _
def yg:D->Option Int->Option Int->Dm D
 | .tup ds,lo,hi,st=>some (.tup (cutD ds lo hi),st)
 | _,_,_,_=>none
theorem got {ρ:List Addr} {H:Hp} {st:Store} {vs:List V} {ds:List D} {Q:VK} (l:Rl K ρ H st) (r:cG K ρ H vs ds) (q:∀ v H' ρ',Mn K ρ H ρ' H'->Rl K ρ' H' st->Rp K ρ' H' v (.tup ds)->Q v H'):pZ K H vs Q :=
 fun p H' s e=>q _ H' ρ (Mn.same e) (l.same e) (.tup s (r.mn (Mn.same e)))
theorem yh:yd K (vt K) yg:=by
 intro lo hi ρ H st x a b st' Q l rx e q
 cases a with
 | tup ds =>
  cases e
  cases rx with
  | tup s r=>exact ⟨_,_,rfl,s,got l (r.cut lo hi) q⟩
 | _=>cases e
def uF:D->Option Int->Option Int->Dm D
 | .ref r,lo,hi,st=>match items st r with
  | some ds=>some (.ref st.length,st ++ [.lst (cutD ds lo hi)])
  | none=>none
 | _,_,_,_=>none
theorem yi:yd K (BB K) uF:=by
 intro lo hi ρ H st x a b st' Q l rx e q
 cases a with
 | ref i =>
  simp only [uF] at e
  split at e
  ·next ds hd =>
   cases e
   cases rx with
   | ref hr =>
    obtain ⟨vs,s,r⟩:=l.items hr hd
    exact ⟨_,_,rfl,s,fun p hp=>q _ _ _ (Mn.new hp) (l.newL hp (r.cut lo hi)) (.ref (newR l))⟩
  ·cases e
 | _=>cases e
def jA:D->D->Dm D
 | .tup a,.tup b,st=>if lim (a.length + b.length)=true then some (.tup (a ++ b),st) else none
 | _,_,_=>none
theorem vX:mP K (rT K) jA:=by
 intro ρ H st x y a c b st' Q l rx ry e q
 unfold jA at e
 split at e
 ·split at e
  ·next hl =>
   cases e
   cases rx with
   | tup s r =>
    cases ry with
    | tup s' r'=>exact ⟨_,_,_,_,rfl,rfl,s,s',by rw [r.length,r'.length];exact Cz hl,got l (r.append r') q⟩
  ·cases e
 ·cases e
def own (st:Store) (i:Nat):Option (List D):=match st[i]? with
 | some (.lst ds)=>some ds
 | _=>none
theorem rm {st:Store} {i:Nat} {ds:List D} (h:own st i=some ds):st[i]?=some (.lst ds):=by
 unfold own at h
 split at h
 ·next ds' hs=>cases h;exact hs
 ·cases h
def nZ:D->D->Dm D
 | .ref i,.ref j,st=>match own st i,own st j with
  | some a,some b=>if lim (a.length + b.length)=true then some (.ref st.length,st ++ [.lst (a ++ b)]) else none
  | _,_=>none
 | _,_,_=>none
theorem yj:mP K BG nZ:=by
 intro ρ H st x y a c b st' Q l rx ry e q
 unfold nZ at e
 split at e
 ·split at e
  ·next a b h1 h2 =>
   split at e
   ·next hl =>
    cases e
    cases rx with
    | ref hi =>
     cases ry with
     | ref hj =>
      obtain ⟨vs,e1,r1⟩:=l.obj _ _ _ hi (rm h1)
      obtain ⟨ws,e2,r2⟩:=l.obj _ _ _ hj (rm h2)
      exact ⟨_,_,_,_,rfl,rfl,e1,e2,by rw [r1.length,r2.length];exact Cz hl,fun p hp=>q _ _ _ (Mn.new hp) (l.newL hp (r1.append r2)) (.ref (newR l))⟩
   ·cases e
  ·cases e
 ·cases e
def sC:D->D->Dm D
 | .ref i,.int k,st=>match own st i with
  | some a=>if (decide (-9223372036854775808<=k/\k < 9223372036854775808) && lim (a.length * k.toNat))=true then some (.ref st.length,st ++ [.lst (List.replicate k.toNat a).flatten]) else none
  | _=>none
 | _,_,_=>none
theorem MV {ρ:List Addr} {H:Hp}:∀ {ws vs:List V} {ds:List D},cG K ρ H ws ds->cn sV ds=some vs->ws=vs
 | _,_,_,.nil,h=>by cases h;rfl
 | _,_,_,.cons a b,h=>by
  obtain ⟨x,t,h1,h2,rfl⟩:=CG h
  rw [Ar a h1,MV b h2]
theorem MW {a:D} {v:V} (h:sV a=some v):kQ v=true:=by cases a <;> first | (cases h;rfl) | cases h
theorem MX:∀ {ds:List D} {vs:List V},cn sV ds=some vs->vs.all kQ=true
 | [],_,h=>by cases h;rfl
 | d :: r,_,h=>by
  obtain ⟨x,t,h1,h2,rfl⟩:=CG h
  rw [List.all_cons,MW h1,MX h2];rfl
def cL (st:Store):D->Option (List D)
 | .tup ds=>some ds
 | .ref i=>items st i
 | _=>none
theorem FG {ρ:List Addr} {H:Hp} {st:Store} {x:V} {a:D} {ds:List D} (l:Rl K ρ H st) (r:Rp K ρ H x a) (h:cL st a=some ds):∃ p vs,x=.ref p/\(jy K H p vs\/fj K H p vs)/\cG K ρ H vs ds:=by
 cases r <;> first | (cases h;done) | skip
 ·next hi=>obtain ⟨vs,s,r⟩:=l.items hi h;exact ⟨_,vs,rfl,.inl s,r⟩
 ·next s r=>cases h;exact ⟨_,_,rfl,.inr s,r⟩
def rn (neg:Bool):D->D->Dm D:=fun a c st=>match sV a,(cL st c).bind (cn sV) with
 | some x,some vs=>some (.bl (if neg then !vg x vs else vg x vs),st)
 | _,_=>none
theorem CH (neg:Bool):mP K (HP K neg) (rn neg):=by
 intro ρ H st x y a c b st' Q l rx ry e q
 unfold rn at e
 split at e
 ·next u vs h1 h2 =>
  cases e
  obtain ⟨ds,h3,h4⟩:=Xl.mp h2
  obtain ⟨p,ws,rfl,s,r⟩:=FG l ry h3
  cases Ar rx h1
  cases MV r h4
  exact ⟨p,_,rfl,s,MW h1,MX h4,q _ H ρ .refl l (.bl _)⟩
 ·cases e
theorem cG.one' {ρ:List Addr} {H:Hp} {vs:List V} {d:D} (r:cG K ρ H vs [d]):∃ v,vs=[v]/\Rp K ρ H v d:=by cases r with | cons a b=>cases b;exact ⟨_,rfl,a⟩
theorem cG.two' {ρ:List Addr} {H:Hp} {vs:List V} {d e:D} (r:cG K ρ H vs [d,e]):∃ v w,vs=[v,w]/\Rp K ρ H v d/\Rp K ρ H w e:=by
 cases r with
 | cons a b=>obtain ⟨w,rfl,r⟩:=b.one';exact ⟨_,_,rfl,a,r⟩
def cY:List D->Dm D
 | [a],st=>match cL st a with
  | some ds=>some (.int ds.length,st)
  | none=>none
 | _,_=>none
theorem lU:qR K (fun xs H Q=>∃ p ys,xs=[.ref p]/\(jy K H p ys\/fj K H p ys)/\Q (.int ys.length) H) cY:=by
 intro ρ H st xs as b st' Q l rx e q
 unfold cY at e
 split at e
 ·split at e
  ·next ds hd =>
   cases e
   obtain ⟨v,rfl,r⟩:=rx.one'
   obtain ⟨p,vs,rfl,s,r⟩:=FG l r hd
   exact ⟨p,vs,rfl,s,q _ H ρ .refl l (by rw [r.length];exact .int _)⟩
  ·cases e
 ·cases e
def ow:List D->Dm D
 | [a],st=>match cL st a with
  | some ds=>some (.ref st.length,st ++ [.lst ds])
  | none=>none
 | _,_=>none
theorem Js:qR K (fun xs H Q=>∃ p ys,xs=[.ref p]/\(jy K H p ys\/fj K H p ys)/\∀ l,H l=none->Q (.ref l) (upd H l (.lst ys))) ow:=by
 intro ρ H st xs as b st' Q l rx e q
 unfold ow at e
 split at e
 ·split at e
  ·next ds hd =>
   cases e
   obtain ⟨v,rfl,r⟩:=rx.one'
   obtain ⟨p,vs,rfl,s,r⟩:=FG l r hd
   exact ⟨p,vs,rfl,s,fun p hp=>q _ _ _ (Mn.new hp) (l.newL hp r) (.ref (newR l))⟩
  ·cases e
 ·cases e
def bM:List D->Dm D
 | [a],st=>match cL st a with
  | some ds=>some (.tup ds,st)
  | none=>none
 | _,_=>none
theorem oy:qR K (fun xs H Q=>∃ p ys,xs=[.ref p]/\((jy K H p ys/\∀ l,H l=none->Q (.ref l) (upd H l (.tup ys)))\/(fj K H p ys/\Q (.ref p) H))) bM:=by
 intro ρ H st xs as b st' Q l rx e q
 unfold bM at e
 split at e
 ·split at e
  ·next ds hd =>
   cases e
   obtain ⟨v,rfl,r⟩:=rx.one'
   obtain ⟨p,vs,rfl,s,r'⟩:=FG l r hd
   refine ⟨p,vs,rfl,?_⟩
   rcases s with s | s
   ·exact .inl ⟨s,(got l r' q).new⟩
   ·exact .inr ⟨s,(got l r' q).it s⟩
  ·cases e
 ·cases e
def pD:List D->Dm D
 | [.int i,.int j],st=>some (.int (if j > i then j else i),st)
 | _,_=>none
def pE:List D->Dm D
 | [.int i,.int j],st=>some (.int (if j < i then j else i),st)
 | _,_=>none
theorem RD:qR K (fun xs H Q=>∃ i j,xs=[.int i,.int j]/\Q (.int (if j > i then j else i)) H) pD:=by
 intro ρ H st xs as b st' Q l rx e q
 unfold pD at e
 split at e
 ·cases e
  obtain ⟨v,w,rfl,r1,r2⟩:=rx.two'
  cases r1;cases r2
  exact ⟨_,_,rfl,q _ H ρ .refl l (.int _)⟩
 ·cases e
theorem RE:qR K (fun xs H Q=>∃ i j,xs=[.int i,.int j]/\Q (.int (if j < i then j else i)) H) pE:=by
 intro ρ H st xs as b st' Q l rx e q
 unfold pE at e
 split at e
 ·cases e
  obtain ⟨v,w,rfl,r1,r2⟩:=rx.two'
  cases r1;cases r2
  exact ⟨_,_,rfl,q _ H ρ .refl l (.int _)⟩
 ·cases e
def oz:List D->Dm D
 | [.int i],st=>some (.int i,st)
 | [.bl k],st=>some (.int (if k then 1 else 0),st)
 | _,_=>none
theorem MY:qR K (fun xs H Q=>(∃ i,xs=[.int i]/\Q (.int i) H)\/∃ k,xs=[.bl k]/\Q (.int (if k then 1 else 0)) H) oz:=by
 intro ρ H st xs as b st' Q l rx e q
 unfold oz at e
 split at e
 ·cases e
  obtain ⟨v,rfl,r⟩:=rx.one'
  cases r
  exact .inl ⟨_,rfl,q _ H ρ .refl l (.int _)⟩
 ·cases e
  obtain ⟨v,rfl,r⟩:=rx.one'
  cases r
  exact .inr ⟨_,rfl,q _ H ρ .refl l (.int _)⟩
 ·cases e
def iI:List D->Dm D
 | [.int j],st=>some (.ref st.length,st ++ [.jH 0 j])
 | _,_=>none
def fu:List D->Dm D
 | [.int i,.int j],st=>some (.ref st.length,st ++ [.jH i j])
 | _,_=>none
theorem FH:qR K (fun xs H Q=>∃ j:Int,xs=[.int j]/\∀ p,H p=none->Q (.ref p) (upd H p (.jH 0 j))) iI:=by
 intro ρ H st xs as b st' Q l rx e q
 unfold iI at e
 split at e
 ·cases e
  obtain ⟨v,rfl,r⟩:=rx.one'
  cases r
  exact ⟨_,rfl,fun p hp=>q _ _ _ (Mn.new hp) (l.new hp (show vP K _ _ p (.jH _ _) from q5)) (.ref (newR l))⟩
 ·cases e
theorem Av:qR K (fun xs H Q=>∃ i j:Int,xs=[.int i,.int j]/\∀ p,H p=none->Q (.ref p) (upd H p (.jH i j))) fu:=by
 intro ρ H st xs as b st' Q l rx e q
 unfold fu at e
 split at e
 ·cases e
  obtain ⟨v,w,rfl,r1,r2⟩:=rx.two'
  cases r1;cases r2
  exact ⟨_,_,rfl,fun p hp=>q _ _ _ (Mn.new hp) (l.new hp (show vP K _ _ p (.jH _ _) from q5)) (.ref (newR l))⟩
 ·cases e
def aH (lo:Int) (n:Nat):List D:=(List.range n).map fun (k:Nat)=>D.int (lo + k)
theorem RF {ρ:List Addr} {H:Hp} (lo:Int) (n:Nat):cG K ρ H (fX lo n) (aH lo n):=by
 unfold fX aH
 induction (List.range n) with
 | nil=>exact .nil
 | cons a r ih=>exact .cons (.int _) ih
def qV (lo hi:Int):Bool:=decide (-4611686018427387904<=lo/\lo < 4611686018427387904/\-4611686018427387904<=hi/\hi < 4611686018427387904) && lim (hi - lo).toNat
theorem MZ {lo hi:Int} (h:qV lo hi=true):(-(2 ^ 62)<=lo/\lo < 2 ^ 62/\-(2 ^ 62)<=hi/\hi < 2 ^ 62)/\(hi - lo).toNat<=2 ^ 24:=by
 unfold qV at h
 rw [WW,decide_eq_true_eq] at h
 exact ⟨by omega,WO (Nat.le_of_ble_eq_true h.2) (by decide)⟩
def jB (st:Store):D->Option (Int×Int)
 | .ref i=>match st[i]? with
  | some (.jH lo hi)=>some (lo,hi)
  | _=>none
 | _=>none
theorem yk {ρ:List Addr} {H:Hp} {st:Store} {x:V} {a:D} {lo hi:Int} (l:Rl K ρ H st) (r:Rp K ρ H x a) (h:jB st a=some (lo,hi)):∃ p,x=.ref p/\H p=some (.jH lo hi):=by
 cases r <;> first | (cases h;done) | skip
 ·next hi' =>
  simp only [jB] at h
  split at h
  ·next lo' RG hs=>cases h;exact ⟨_,rfl,l.obj _ _ _ hi' hs⟩
  ·cases h
def dP:List D->Dm D
 | [a],st=>match jB st a with
  | some (lo,hi)=>if qV lo hi=true then some (.ref st.length,st ++ [.lst (aH lo (hi - lo).toNat)]) else none
  | none=>none
 | _,_=>none
theorem tM:qR K (fun xs H Q=>∃ p lo hi,xs=[.ref p]/\H p=some (.jH lo hi)/\(-(2 ^ 62)<=lo/\lo < 2 ^ 62/\-(2 ^ 62)<=hi/\hi < 2 ^ 62)/\(hi - lo).toNat<=2 ^ 24 /\
  ∀ l,H l=none->Q (.ref l) (upd H l (.lst (fX lo (hi - lo).toNat)))) dP:=by
 intro ρ H st xs as b st' Q l rx e q
 unfold dP at e
 split at e
 ·split at e
  ·next lo hi hd =>
   split at e
   ·next ok =>
    cases e
    obtain ⟨v,rfl,r⟩:=rx.one'
    obtain ⟨p,rfl,s⟩:=yk l r hd
    exact ⟨p,lo,hi,rfl,s,(MZ ok).1,(MZ ok).2,fun p hp=>q _ _ _ (Mn.new hp) (l.newL hp (RF lo _)) (.ref (newR l))⟩
   ·cases e
  ·cases e
 ·cases e
def uG:List D->Dm D
 | [a],st=>match jB st a with
  | some (lo,hi)=>if qV lo hi=true then some (.tup (aH lo (hi - lo).toNat),st) else none
  | none=>none
 | _,_=>none
def iV:D->Option Int
 | .int i=>some i
 | _=>none
theorem FI {ρ:List Addr} {H:Hp}:∀ {ws:List V} {ds:List D} {ns:List Int},cG K ρ H ws ds->cn iV ds=some ns->ws=ns.map V.int
 | _,_,_,.nil,h=>by cases h;rfl
 | _,_,_,.cons a b,h=>by
  obtain ⟨x,t,h1,h2,rfl⟩:=CG h
  rw [FI b h2]
  cases a <;> first | (cases h1;rfl) | cases h1
def bV:D->Option Bool
 | .bl i=>some i
 | _=>none
def yl:List D->Dm D
 | [.ref i],st=>match (items st i).bind (cn bV) with
  | some bs=>some (.bl (bs.all id),st)
  | none=>none
 | _,_=>none
def tN (T:String) (st:Store):D->Bool
 | .str _=>T == "str"
 | .tup _=>T == "tuple"
 | .ref i=>T == "list" && (items st i).isSome
 | _=>false
theorem M0 {ρ:List Addr} {H:Hp} {st:Store} {x:V} {a:D} {T:String} (l:Rl K ρ H st) (r:Rp K ρ H x a) (h:tN T st a=true):E4 K T x H:=by
 cases r <;> first | (cases h;done) | skip
 ·exact eq_of_beq h
 ·next hi =>
  simp only [tN,WW] at h
  obtain ⟨ds,hd⟩:=Option.isSome_iff_exists.mp h.2
  obtain ⟨vs,s,_⟩:=l.items hi hd
  exact .inl ⟨eq_of_beq h.1,vs,s⟩
 ·next s r=>exact .inr (.inl ⟨eq_of_beq h,_,s⟩)
def kh (T:String) (g:D->List D->Dm D) (fo:av->Dm D) (fa:av->Dm (List D)):av->Dm D:=fun δ st=>bnd (fo δ st) fun o st1=>if tN T st1 o=true then bnd (fa δ st1) fun as st2=>g o as st2 else none
theorem nW {T:String} {r:V->List V->Hp->VK->Prop} {g:D->List D->Dm D} {to:TE} {ta:TA} {fo:av->Dm D} {fa:av->Dm (List D)} (hr:vQ K T r g) (ho:gs K to fo) (ha:qz K ta fa):gs K (HR K T r to ta) (kh T g fo fa):=by
 intro ρ σ H δ st b st' Q l rs e q
 obtain ⟨o,st1,e1,e⟩:=dN e
 split at e
 ·next ht =>
  obtain ⟨as,st2,e2,e⟩:=dN e
  refine ho ρ σ H δ st o st1 _ l rs e1 fun x H1 ρ1 m1 l1 r1=>⟨M0 l1 r1 ht,ha ρ1 σ H1 δ st1 as st2 _ l1 (rs.mn m1) e2 fun xs H2 ρ2 m2 l2 r2=>?_⟩
  exact hr ρ2 H2 st2 x xs o as b st' Q l2 (r1.mn m2) r2 e fun v H3 ρ3 m3 l3 r3=>q v H3 ρ3 ((m1.trans m2).trans m3) l3 r3
 ·cases e
def a5:D->List D->Dm D
 | .ref i,[y],st=>match own st i with
  | some xs=>if lim xs.length=true then some (.non,st.set i (.lst (xs ++ [y]))) else none
  | none=>none
 | _,_,_=>none
theorem pR:vQ K "list" qk a5:=by
 intro ρ H st x xs a as b st' Q l rx sD e q
 unfold a5 at e
 split at e
 ·split at e
  ·next ys hy =>
   split at e
   ·next hl =>
    cases e
    obtain ⟨v,rfl,r⟩:=sD.one'
    cases rx with
    | ref hi =>
     obtain ⟨vs,e1,r1⟩:=l.obj _ _ _ hi (rm hy)
     obtain ⟨l2,m2⟩:=l.putL hi (rm hy) (r1.append (.one r))
     exact ⟨_,vs,v,rfl,rfl,e1,by rw [r1.length];exact Jp hl,q _ _ ρ m2 l2 .non⟩
   ·cases e
  ·cases e
 ·cases e
def oP:D->List D->Dm D
 | .ref i,[.ref j],st=>match own st i,own st j with
  | some xs,some ys=>if lim (xs.length + ys.length)=true then some (.non,st.set i (.lst (xs ++ ys))) else none
  | _,_=>none
 | _,_,_=>none
def mw:D->List D->Dm D
 | .ref i,[.int k],st=>match own st i with
  | some xs=>if decide (-9223372036854775808<=k/\k < 9223372036854775808)=true then match seqIndex? k xs.length with
    | some j=>match xs[j]? with
     | some y=>some (y,st.set i (.lst (xs.eraseIdx j)))
     | none=>none
    | none=>none
   else none
  | none=>none
 | _,_,_=>none
theorem RH:vQ K "list" rN mw:=by
 intro ρ H st x xs a as b st' Q l rx sD e q
 unfold mw at e
 split at e
 ·split at e
  ·next ys hy =>
   split at e
   ·next hk =>
    split at e
    ·next j hj =>
     split at e
     ·next y hy' =>
      cases e
      obtain ⟨v,rfl,r⟩:=sD.one'
      cases r
      cases rx with
      | ref hi =>
       obtain ⟨vs,e1,r1⟩:=l.obj _ _ _ hi (rm hy)
       obtain ⟨w,hw,rw'⟩:=r1.got hy'
       obtain ⟨l2,m2⟩:=l.putL hi (rm hy) (r1.erase j)
       have hk:=of_decide_eq_true hk
       exact ⟨_,vs,_,j,w,rfl,rfl,e1,by omega,by omega,by rw [r1.length];exact hj,hw,q _ _ ρ m2 l2 (rw'.mn m2)⟩
     ·cases e
    ·cases e
   ·cases e
  ·cases e
 ·cases e
def jT:D->List D->Dm D
 | .tup ds,[.int v],st=>match cn iV ds with
  | some ns=>match ns.findIdx? (fun i=>decide (i=v)) with
   | some j=>some (.int (j:Int),st)
   | none=>none
  | none=>none
 | _,_,_=>none
theorem M1:vQ K "tuple" (p4 K) jT:=by
 intro ρ H st x xs a as b st' Q l rx sD e q
 unfold jT at e
 split at e
 ·split at e
  ·next ns hn =>
   split at e
   ·next j hj =>
    cases e
    obtain ⟨v,rfl,r⟩:=sD.one'
    cases r
    cases rx with
    | tup s r =>
     cases FI r hn
     obtain ⟨h1,h2,h3⟩:=List.findIdx?_eq_some_iff_getElem.mp hj
     refine ⟨_,ns,_,j,rfl,rfl,s,?_,fun i hi z=>?_,q _ H ρ .refl l (.int _)⟩
     ·rw [Wx h1];exact congrArg some (of_decide_eq_true h2)
     ·have:=h3 i hi
      obtain ⟨hl,ez⟩:=Ww.mp z
      rw [ez] at this
      simp at this
   ·cases e
  ·cases e
 ·cases e
def ki:D->List D->Dm D
 | .ref i,[.int v],st=>match (items st i).bind (cn iV) with
  | some ns=>if v∈ns/\ns.length<=1000/\∀ i∈ns,-1000000000000000000<=i/\i<=1000000000000000000 then some (.int (ns.idxOf v:Int),st) else none
  | none=>none
 | _,_,_=>none
def CI (st:Store):D->Option String
 | .non=>some "NoneType"
 | .bl _=>some "bool"
 | .int _=>some "int"
 | .str _=>some "str"
 | .tup _=>some "tuple"
 | .ref i=>match st[i]? with
  | some (.lst _)=>some "list"
  | some (.dct _)=>some "dict"
  | _=>none
 | .ty _=>none
def oQ:List D->Dm D
 | [a,.ty c],st=>match CI st a with
  | some T=>if T=c then some (.bl true,st) else none
  | none=>none
 | _,_=>none
end
section
variable {K:Zfr}
theorem M3:mP K BH sC:=by
 intro ρ H st x y a c b st' Q l rx ry e q
 unfold sC at e
 split at e
 ·split at e
  ·next ds hd =>
   split at e
   ·next ok =>
    cases e
    rw [WW,decide_eq_true_eq] at ok
    cases ry
    cases rx with
    | ref hi =>
     obtain ⟨vs,e1,r1⟩:=l.obj _ _ _ hi (rm hd)
     exact ⟨_,_,vs,rfl,rfl,e1,by omega,by omega,by rw [r1.length];exact Cz ok.2,fun p hp=>q _ _ _ (Mn.new hp) (l.newL hp (r1.flat _)) (.ref (newR l))⟩
   ·cases e
  ·cases e
 ·cases e
theorem Rs.set {ρ:List Addr} {H:Hp} {σ:St} {δ:av} {v:V} {d:D} {i:Nat} (h:Rs K ρ H σ δ) (r:Rp K ρ H v d):Rs K ρ H (σ.set i (some v)) (δ.set i (some d)):=by
 refine ⟨by rw [Xj,Xj];exact h.1,fun j e hj=>?_⟩
 by_cases hij:i=j
 ·subst hij
  have hl:i < δ.length:=by
   have:=(Ww.mp hj).1
   rwa [Xj] at this
  rw [WC hl] at hj
  cases hj
  exact ⟨v,by rw [WC (by rw [h.1];exact hl)],r⟩
 ·rw [WE hij] at hj
  obtain ⟨w,hw,rw'⟩:=h.2 j e hj
  exact ⟨w,by rw [WE hij];exact hw,rw'⟩
def ym (K:Zfr) (g:TG) (f:D->av->Dm av):Prop :=
 ∀ (ρ:List Addr) (σ:St) (H:Hp) (δ:av) (st:Store) (v:V) (d:D) (δ':av) (st':Store) (Q:St->Hp->Prop),Rl K ρ H st->Rs K ρ H σ δ->Rp K ρ H v d->f d δ st=some (δ',st') ->
  (∀ σ' H' ρ',Mn K ρ H ρ' H'->Rl K ρ' H' st'->Rs K ρ' H' σ' δ'->Q σ' H')->g v σ H Q
def uH (K:Zfr) (g:tj) (f:List D->av->Dm av):Prop :=
 ∀ (ρ:List Addr) (σ:St) (H:Hp) (δ:av) (st:Store) (v:List V) (d:List D) (δ':av) (st':Store) (Q:St->Hp->Prop),Rl K ρ H st->Rs K ρ H σ δ->cG K ρ H v d->f d δ st=some (δ',st') ->
  (∀ σ' H' ρ',Mn K ρ H ρ' H'->Rl K ρ' H' st'->Rs K ρ' H' σ' δ'->Q σ' H')->g v σ H Q
def hName (i:Nat):D->av->Dm av:=fun d δ st=>some (δ.set i (some d),st)
theorem aR (i:Nat):ym K (pe i) (hName i):=by
 intro ρ σ H δ st v d δ' st' Q l rs r e q
 cases e
 exact q _ H ρ .refl l (rs.set r)
def lV:List D->av->Dm av
 | [],δ,st=>some (δ,st)
 | _,_,_=>none
def bA (f:D->av->Dm av) (g:List D->av->Dm av):List D->av->Dm av
 | d :: ds,δ,st=>bnd (f d δ st) fun δ1 st1=>g ds δ1 st1
 | _,_,_=>none
theorem tO:uH K Bj lV:=by
 intro ρ σ H δ st v d δ' st' Q l rs r e q
 cases r with
 | nil=>cases e;exact ⟨rfl,q _ H ρ .refl l rs⟩
 | cons a b=>cases e
theorem mQ {t:TG} {u:tj} {f:D->av->Dm av} {g:List D->av->Dm av} (hf:ym K t f) (hg:uH K u g):uH K (uZ t u) (bA f g):=by
 intro ρ σ H δ st v d δ' st' Q l rs r e q
 cases r with
 | nil=>cases e
 | cons a b =>
  obtain ⟨δ1,st1,e1,e⟩:=dN e
  exact ⟨_,_,rfl,hf ρ σ H δ st _ _ δ1 st1 _ l rs a e1 fun σ1 H1 ρ1 m1 l1 r1=>hg ρ1 σ1 H1 δ1 st1 _ _ δ' st' Q l1 r1 (b.mn m1) e fun σ2 H2 ρ2 m2 l2 r2=>q σ2 H2 ρ2 (m1.trans m2) l2 r2⟩
def kW (n:Nat) (f:List D->av->Dm av):D->av->Dm av
 | .tup ds,δ,st=>if ds.length=n then f ds δ st else none
 | _,_,_=>none
theorem tP {n:Nat} {t:tj} {f:List D->av->Dm av} (hf:uH K t f):ym K (Bk K n t) (kW n f):=by
 intro ρ σ H δ st v d δ' st' Q l rs r e q
 cases r <;> first | (cases e;done) | skip
 ·next s r =>
  simp only [kW] at e
  split at e
  ·next hl=>exact ⟨_,_,rfl,s,by rw [r.length];exact hl,hf ρ σ H δ st _ _ δ' st' Q l rs r e q⟩
  ·cases e
def hSub (fo fi:av->Dm D):D->av->Dm av:=fun d δ st=>bnd (fo δ st) fun o st1=>bnd (fi δ st1) fun i st2=>match o,i with
 | .ref r,.int k=>match own st2 r with
  | some xs=>match mM xs.length k with
   | some j=>some (δ,st2.set r (.lst (xs.set j d)))
   | none=>none
  | none=>none
 | _,_=>none
theorem Aw {to ti:TE} {fo fi:av->Dm D} (ho:gs K to fo) (hi:gs K ti fi):ym K (L2.mZ to ti ve) (hSub fo fi):=by
 intro ρ σ H δ st v d δ' st' Q l rs r e q
 obtain ⟨o,st1,e1,e⟩:=dN e
 obtain ⟨i,st2,e2,e⟩:=dN e
 refine ho ρ σ H δ st o st1 _ l rs e1 fun x H1 ρ1 m1 l1 r1=>hi ρ1 σ H1 δ st1 i st2 _ l1 (rs.mn m1) e2 fun y H2 ρ2 m2 l2 r2=>?_
 split at e
 ·split at e
  ·next xs hx =>
   split at e
   ·next j hj =>
    cases e
    cases r2
    cases r1 with
    | ref hr =>
     have hr2:=m2.r _ _ hr
     obtain ⟨vs,e3,r3⟩:=l2.obj _ _ _ hr2 (rm hx)
     obtain ⟨l3,m3⟩:=l2.putL hr2 (rm hx) (r3.set (r.mn (m1.trans m2)) j)
     exact ⟨_,vs,_,j,rfl,rfl,e3,by rw [r3.length];exact hj,q σ _ ρ2 ((m1.trans m2).trans m3) l3 (rs.mn ((m1.trans m2).trans m3))⟩
   ·cases e
  ·cases e
 ·cases e
def Go (K:Zfr) (ρ:List Addr) (H:Hp) (st':Store) (E:Ends):Fl->Prop
 | .nx δ=>∀ σ' H' ρ',Mn K ρ H ρ' H'->Rl K ρ' H' st'->Rs K ρ' H' σ' δ->E.nx σ' H'
 | .bk δ=>∀ σ' H' ρ',Mn K ρ H ρ' H'->Rl K ρ' H' st'->Rs K ρ' H' σ' δ->E.bk σ' H'
 | .ct δ=>∀ σ' H' ρ',Mn K ρ H ρ' H'->Rl K ρ' H' st'->Rs K ρ' H' σ' δ->E.ct σ' H'
 | .rt d=>∀ v H' ρ',Mn K ρ H ρ' H'->Rl K ρ' H' st'->Rp K ρ' H' v d->E.rt v H'
theorem Go.mn {ρ ρ1:List Addr} {H H1:Hp} {st':Store} {E:Ends} {fl:Fl} (g:Go K ρ H st' E fl) (m:Mn K ρ H ρ1 H1):Go K ρ1 H1 st' E fl:=by
 cases fl <;> exact fun v H' ρ' m' l r=>g v H' ρ' (m.trans m') l r
def o6 (K:Zfr) (t:TS) (f:av->Dm Fl):Prop :=
 ∀ (ρ:List Addr) (σ:St) (H:Hp) (δ:av) (st:Store) (fl:Fl) (st':Store) (E:Ends),Rl K ρ H st->Rs K ρ H σ δ->f δ st=some (fl,st')->Go K ρ H st' E fl->t E σ H
def aU:av->Dm Fl:=fun δ st=>some (.nx δ,st)
theorem kj:o6 K uX aU:=by
 intro ρ σ H δ st fl st' E l rs e g
 cases e
 exact g σ H ρ .refl l rs
def az (f g:av->Dm Fl):av->Dm Fl:=fun δ st=>bnd (f δ st) fun fl st1=>match fl with
 | .nx δ1=>g δ1 st1
 | x=>some (x,st1)
theorem a6 {t u:TS} {f g:av->Dm Fl} (hf:o6 K t f) (hg:o6 K u g):o6 K (Bf t u) (az f g):=by
 intro ρ σ H δ st fl st' E l rs e q
 obtain ⟨x,st1,e1,e⟩:=dN e
 refine hf ρ σ H δ st x st1 _ l rs e1 ?_
 cases x with
 | nx δ1=>exact fun σ1 H1 ρ1 m1 l1 r1=>hg ρ1 σ1 H1 δ1 st1 fl st' E l1 r1 e (q.mn m1)
 | bk δ1=>cases e;exact q
 | ct δ1=>cases e;exact q
 | rt d=>cases e;exact q
theorem jF {c:TT} {t u:TS} {fc:av->Dm Bool} {f g:av->Dm Fl} (hc:su K c fc) (hf:o6 K t f) (hg:o6 K u g):o6 K (Bh c t u) (eP fc f g):=by
 intro ρ σ H δ st fl st' E l rs e q
 obtain ⟨a,st1,e1,e⟩:=dN e
 refine hc ρ σ H δ st _ _ _ l rs e1 fun x H1 ρ1 m1 l1 r1=>?_
 subst r1
 cases x with
 | true =>
  refine rS ?_
  rw [if_pos rfl] at e
  exact hf ρ1 σ H1 δ st1 fl st' E l1 (rs.mn m1) e (q.mn m1)
 | false =>
  refine rR ?_
  rw [if_neg WD] at e
  exact hg ρ1 σ H1 δ st1 fl st' E l1 (rs.mn m1) e (q.mn m1)
def cy (f:av->Dm D):av->Dm Fl:=fun δ st=>bnd (f δ st) fun _ st1=>some (.nx δ,st1)
theorem pS {t:TE} {f:av->Dm D} (hf:gs K t f):o6 K (uY t) (cy f):=by
 intro ρ σ H δ st fl st' E l rs e q
 obtain ⟨a,st1,e1,e⟩:=dN e
 cases e
 exact hf ρ σ H δ st a _ _ l rs e1 fun x H1 ρ1 m1 l1 r1=>q σ H1 ρ1 m1 l1 (rs.mn m1)
def aV (f:av->Dm D):av->Dm Fl:=fun δ st=>bnd (f δ st) fun d st1=>some (.rt d,st1)
theorem dk {t:TE} {f:av->Dm D} (hf:gs K t f):o6 K (Bg t) (aV f):=by
 intro ρ σ H δ st fl st' E l rs e q
 obtain ⟨a,st1,e1,e⟩:=dN e
 cases e
 exact hf ρ σ H δ st a _ _ l rs e1 fun x H1 ρ1 m1 l1 r1=>q x H1 ρ1 m1 l1 r1
def aI (f:av->Dm D) (h:D->av->Dm av):av->Dm Fl:=fun δ st=>bnd (f δ st) fun d st1=>bnd (h d δ st1) fun δ1 st2=>some (.nx δ1,st2)
theorem bI {t:TE} {g:TG} {f:av->Dm D} {h:D->av->Dm av} (hf:gs K t f) (hh:ym K g h):o6 K (uc t g) (aI f h):=by
 intro ρ σ H δ st fl st' E l rs e q
 obtain ⟨a,st1,e1,e⟩:=dN e
 obtain ⟨δ1,st2,e2,e⟩:=dN e
 cases e
 exact hf ρ σ H δ st a st1 _ l rs e1 fun x H1 ρ1 m1 l1 r1=>hh ρ1 σ H1 δ st1 x a δ1 _ _ l1 (rs.mn m1) r1 e2 fun σ2 H2 ρ2 m2 l2 r2=>q σ2 H2 ρ2 (m1.trans m2) l2 r2
def sE (i j:Nat) (fa:av->Dm (List D)):av->Dm Fl:=fun δ st=>bnd (fa δ st) fun as st1=>match as with
 | [a,b]=>some (.nx ((δ.set i (some a)).set j (some b)),st1)
 | _=>none
theorem M4 {i j:Nat} {t:TA} {fa:av->Dm (List D)} (ha:qz K t fa):o6 K (Bl i j t) (sE i j fa):=by
 intro ρ σ H δ st fl st' E l rs e q
 obtain ⟨as,st1,e1,e⟩:=dN e
 split at e
 ·cases e
  refine ha ρ σ H δ st _ _ _ l rs e1 fun x H1 ρ1 m1 l1 r1=>?_
  obtain ⟨v,w,rfl,r,r'⟩:=r1.two'
  exact ⟨v,w,rfl,q _ H1 ρ1 m1 l1 (((rs.mn m1).set r).set r')⟩
 ·cases e
def f9 (c:av->Dm Bool) (b:av->Dm Fl):Nat->av->Dm Fl
 | 0,_,_=>none
 | n + 1,δ,st=>bnd (c δ st) fun t st1=>if t=true then bnd (b δ st1) fun fl st2=>match fl with
   | .nx δ2=>f9 c b n δ2 st2
   | .ct δ2=>f9 c b n δ2 st2
   | .bk δ2=>some (.nx δ2,st2)
   | .rt d=>some (.rt d,st2)
  else some (.nx δ,st1)
def fuel:Nat:=1000000
def iJ (c:av->Dm Bool) (b:av->Dm Fl):av->Dm Fl:=f9 c b fuel
theorem yn {tc:TT} {tb:TS} {c:av->Dm Bool} {b:av->Dm Fl} (hc:su K tc c) (hb:o6 K tb b):o6 K (rG tc tb) (iJ c b):=by
 intro ρ σ H δ st fl st' E l rs e q
 refine ⟨fun m σ1 H1=>∃ ρ1 δ1 st1,Mn K ρ H ρ1 H1/\Rl K ρ1 H1 st1/\Rs K ρ1 H1 σ1 δ1/\f9 c b m δ1 st1=some (fl,st'),⟨fuel,ρ,δ,st,.refl,l,rs,e⟩,?_⟩
 rintro m σ1 H1 ⟨ρ1,δ1,st1,m1,l1,vY,e1⟩
 cases m with
 | zero=>cases e1
 | succ m =>
  obtain ⟨t,st2,e2,e1⟩:=dN e1
  refine hc ρ1 σ1 H1 δ1 st1 _ _ _ l1 vY e2 fun x H2 ρ2 m2 l2 r2=>?_
  subst r2
  cases x with
  | true =>
   refine rS ?_
   rw [if_pos rfl] at e1
   obtain ⟨f2,st3,e3,e1⟩:=dN e1
   refine ⟨fun σ3 H3=>∃ m',m' < m + 1/\∃ ρ1 δ1 st1,Mn K ρ H ρ1 H3/\Rl K ρ1 H3 st1/\Rs K ρ1 H3 σ3 δ1/\f9 c b m' δ1 st1=some (fl,st'),fun _ _ h=>h,hb ρ2 σ1 H2 δ1 st2 f2 st3 _ l2 (vY.mn m2) e3 ?_⟩
   cases f2 with
   | nx δ3=>exact fun σ3 H3 ρ3 m3 l3 r3=>⟨m,Xm m,ρ3,δ3,st3,(m1.trans m2).trans m3,l3,r3,e1⟩
   | ct δ3=>exact fun σ3 H3 ρ3 m3 l3 r3=>⟨m,Xm m,ρ3,δ3,st3,(m1.trans m2).trans m3,l3,r3,e1⟩
   | bk δ3=>cases e1;exact q.mn (m1.trans m2)
   | rt d=>cases e1;exact q.mn (m1.trans m2)
  | false =>
   refine rR ?_
   rw [if_neg WD] at e1
   cases e1
   exact q.mn (m1.trans m2) σ1 H2 ρ2 .refl l2 (vY.mn m2)
inductive Src where
 | fix (ds:List D) | live (i:Nat) | RI (i:Nat) | zl (i:Nat) (es:List D) | zr (ds:List D) (i:Nat)
def Src.at:Src->Nat->Store->Option (Option D)
 | .fix ds,i,_=>if i<=ds.length then some ds[i]? else none
 | .live r,i,st=>(items st r).map fun ds=>ds[i]?
 | .RI r,i,st=>(items st r).bind fun ds=>if i<=ds.length then some (ds.mapIdx fun i d=>D.tup [.int (i:Int),d])[i]? else none
 | .zl r es,i,st=>(items st r).bind fun ds=>if i<=(List.zipWith (fun a b=>D.tup [a,b]) ds es).length then some (List.zipWith (fun a b=>D.tup [a,b]) ds es)[i]? else none
 | .zr ds r,i,st=>(items st r).bind fun es=>if i<=(List.zipWith (fun a b=>D.tup [a,b]) ds es).length then some (List.zipWith (fun a b=>D.tup [a,b]) ds es)[i]? else none
theorem vZ {ds:List D} {i:Nat} {st:Store} {o:Option D} (h:Src.at (.fix ds) i st=some o):i<=ds.length/\ds[i]?=o:=by
 simp only [Src.at] at h
 split at h
 ·next hl=>exact ⟨hl,WJ h⟩
 ·cases h
def CJ (K:Zfr) (ρ:List Addr) (H:Hp) (J:It) (S:Src):Prop :=
 ∀ (ρ2:List Addr) (H2:Hp) (st2:Store) (i:Nat),Mn K ρ H ρ2 H2->Rl K ρ2 H2 st2 ->
  (S.at i st2=some none->J.stop i H2)/\∀ d,S.at i st2=some (some d)->J.go i H2/\∀ x H3,J.uf i H2 x H3->Mn K ρ2 H2 ρ2 H3/\Rl K ρ2 H3 st2/\Rp K ρ2 H3 x d
abbrev wa (K:Zfr) (t:TI) (f:av->Dm Src):Prop:=So K (CJ K) t f
def hJ (S:Src) (g:D->av->Dm av) (b:av->Dm Fl):Nat->Nat->av->Dm Fl
 | 0,_,_,_=>none
 | n + 1,i,δ,st=>match S.at i st with
  | none=>none
  | some none=>some (.nx δ,st)
  | some (some d)=>bnd (g d δ st) fun δ1 st1=>bnd (b δ1 st1) fun fl st2=>match fl with
   | .nx δ2=>hJ S g b n (i + 1) δ2 st2
   | .ct δ2=>hJ S g b n (i + 1) δ2 st2
   | .bk δ2=>some (.nx δ2,st2)
   | .rt d=>some (.rt d,st2)
def cT (fi:av->Dm Src) (g:D->av->Dm av) (b:av->Dm Fl):av->Dm Fl:=fun δ st=>bnd (fi δ st) fun S st1=>hJ S g b fuel 0 δ st1
theorem mS {wi:TI} {tg:TG} {tb:TS} {fi:av->Dm Src} {g:D->av->Dm av} {b:av->Dm Fl} (hi:wa K wi fi) (hg:ym K tg g) (hb:o6 K tb b):o6 K (Bo wi tg tb) (cT fi g b):=by
 intro ρ σ H δ st fl st' E l rs e q
 obtain ⟨S,lW,e0,e⟩:=dN e
 refine hi ρ σ H δ st S lW _ l rs e0 fun J H0 ρ0 m0 l0 ok=>?_
 refine ⟨fun i m σ1 H1=>∃ ρ1 δ1 st1,Mn K ρ0 H0 ρ1 H1/\Rl K ρ1 H1 st1/\Rs K ρ1 H1 σ1 δ1/\hJ S g b m i δ1 st1=some (fl,st'),⟨fuel,ρ0,δ,lW,.refl,l0,rs.mn m0,e⟩,?_⟩
 rintro i m σ1 H1 ⟨ρ1,δ1,st1,m1,l1,vY,e1⟩
 cases m with
 | zero=>cases e1
 | succ m =>
  obtain ⟨hstop,hgo⟩:=ok ρ1 H1 st1 i m1 l1
  unfold hJ at e1
  split at e1
  ·cases e1
  ·next hs=>cases e1;exact .inl ⟨hstop hs,q.mn (m0.trans m1) σ1 H1 ρ1 .refl l1 vY⟩
  ·next d hs =>
   obtain ⟨δ2,st2,e2,e1⟩:=dN e1
   obtain ⟨f3,st3,e3,e1⟩:=dN e1
   obtain ⟨go,uf⟩:=hgo d hs
   refine .inr ⟨go,fun σ3 H3=>∃ m',m' < m + 1/\∃ ρ1 δ1 st1,Mn K ρ0 H0 ρ1 H3/\Rl K ρ1 H3 st1/\Rs K ρ1 H3 σ3 δ1/\hJ S g b m' (i + 1) δ1 st1=some (fl,st'),fun _ _ h=>h,fun x H2 hy=>?_⟩
   obtain ⟨m2,l2,r2⟩:=uf x H2 hy
   refine hg ρ1 σ1 H2 δ1 st1 x d δ2 st2 _ l2 (vY.mn m2) r2 e2 fun σ4 H4 ρ4 m4 l4 r4=>hb ρ4 σ4 H4 δ2 st2 f3 st3 _ l4 r4 e3 ?_
   have m5:=((m1.trans m2).trans m4)
   cases f3 with
   | nx δ3=>exact fun σ5 H5 ρ5 m6 l5 r5=>⟨m,Xm m,ρ5,δ3,st3,m5.trans m6,l5,r5,e1⟩
   | ct δ3=>exact fun σ5 H5 ρ5 m6 l5 r5=>⟨m,Xm m,ρ5,δ3,st3,m5.trans m6,l5,r5,e1⟩
   | bk δ3=>cases e1;exact q.mn (m0.trans m5)
   | rt d=>cases e1;exact q.mn (m0.trans m5)
def cW (fa:av->Dm D):av->Dm Src:=fun δ st=>bnd (fa δ st) fun a st1=>match a with
 | .tup ds=>some (.fix ds,st1)
 | _=>none
theorem pT {t:TE} {fa:av->Dm D} (ha:gs K t fa):wa K (Bn K t) (cW fa):=by
 intro ρ σ H δ st S st' Q l rs e q
 obtain ⟨a,st1,e1,e⟩:=dN e
 cases a <;> simp at e
 obtain ⟨rfl,rfl⟩:=e
 refine ha ρ σ H δ st _ _ _ l rs e1 fun x H1 ρ1 m1 l1 r1=>?_
 cases r1 with
 | tup s r =>
  refine ⟨_,rfl,⟨_,s⟩,q _ H1 ρ1 m1 l1 fun ρ2 H2 st2 i m2 l2=>⟨fun h=>?_,fun d h=>?_⟩⟩
  ·exact ⟨_,m2.t _ _ s,by rw [r.length];exact Xa.mp (vZ h).2⟩
  ·obtain ⟨v,hv,rv⟩:=r.got (vZ h).2
   refine ⟨⟨_,v,m2.t _ _ s,hv⟩,fun x H3 y=>?_⟩
   obtain ⟨rfl,hx⟩:=y
   have:=hx _ (m2.t _ _ s)
   rw [hv] at this
   cases this
   exact ⟨.refl,l2,rv.mn m2⟩
def my (fa:av->Dm D):av->Dm Src:=fun δ st=>bnd (fa δ st) fun a st1=>match a with
 | .ref i=>match items st1 i with
  | some _=>some (.live i,st1)
  | none=>none
 | _=>none
theorem Jt {t:TE} {fa:av->Dm D} (ha:gs K t fa):wa K (rH K t) (my fa):=by
 intro ρ σ H δ st S st' Q l rs e q
 obtain ⟨a,st1,e1,e⟩:=dN e
 split at e
 ·next k =>
  split at e
  ·next ds hd =>
   cases e
   refine ha ρ σ H δ st _ _ _ l rs e1 fun x H1 ρ1 m1 l1 r1=>?_
   cases r1 with
   | ref hi =>
    obtain ⟨vs,s,r⟩:=l1.items hi hd
    refine ⟨_,rfl,⟨_,s⟩,q _ H1 ρ1 m1 l1 fun ρ2 H2 st2 i m2 l2=>⟨fun h=>?_,fun d h=>?_⟩⟩
    ·obtain ⟨RJ,hd2,h⟩:=WZ.mp h
     obtain ⟨M5,s2,r2⟩:=l2.items (m2.r _ _ hi) hd2
     exact ⟨M5,s2,by rw [r2.length];exact Xa.mp h⟩
    ·obtain ⟨RJ,hd2,h⟩:=WZ.mp h
     obtain ⟨M5,s2,r2⟩:=l2.items (m2.r _ _ hi) hd2
     obtain ⟨v,hv,rv⟩:=r2.got h
     refine ⟨⟨_,v,s2,hv⟩,fun x H3 y=>?_⟩
     obtain ⟨rfl,hx⟩:=y
     have:=hx _ s2
     rw [hv] at this
     cases this
     exact ⟨.refl,l2,rv⟩
  ·cases e
 ·cases e
def bW (fa:av->Dm (List D)):av->Dm Src:=fun δ st=>bnd (fa δ st) fun as st1=>match as with
 | [.int j]=>if decide (-4611686018427387904<=j/\j < 4611686018427387904)=true then some (.fix (aH 0 j.toNat),st1) else none
 | _=>none
def nJ (fa:av->Dm (List D)):av->Dm Src:=fun δ st=>bnd (fa δ st) fun as st1=>match as with
 | [.int i,.int j]=>if decide ((-4611686018427387904<=i/\i < 4611686018427387904)/\-4611686018427387904<=j/\j < 4611686018427387904)=true then some (.fix (aH i (j - i).toNat),st1) else none
 | _=>none
theorem gu (lo:Int) (n:Nat):(aH lo n).length=n:=by simp [aH]
theorem yo {lo:Int} {n k:Nat} (h:k < n):(aH lo n)[k]?=some (.int (lo + k)):=by simp [aH,h]
theorem M6 {ρ:List Addr} {H:Hp} (lo:Int) (n:Nat):CJ K ρ H (Bm lo n) (.fix (aH lo n)):=by
 intro ρ2 H2 st2 i m2 l2
 refine ⟨fun h=>?_,fun d h=>?_⟩
 ·have:=Xa.mp (vZ h).2
  rw [gu] at this
  exact this
 ·have h:=(vZ h).2
  have hl:=(Ww.mp h).1
  rw [gu] at hl
  rw [yo hl] at h
  cases h
  refine ⟨hl,fun x H3 y=>?_⟩
  obtain ⟨rfl,rfl⟩:=y
  exact ⟨.refl,l2,.int _⟩
theorem pF {t:TA} {fa:av->Dm (List D)} (ha:qz K t fa):wa K (u3 t) (bW fa):=by
 intro ρ σ H δ st S st' Q l rs e q
 obtain ⟨as,st1,e1,e⟩:=dN e
 split at e
 ·split at e
  ·next ok =>
   cases e
   have ok:=of_decide_eq_true ok
   refine ha ρ σ H δ st _ _ _ l rs e1 fun x H1 ρ1 m1 l1 r1=>?_
   obtain ⟨v,rfl,r⟩:=r1.one'
   cases r
   exact ⟨_,rfl,by omega,by omega,q _ H1 ρ1 m1 l1 (M6 0 _)⟩
  ·cases e
 ·cases e
theorem RK {t:TA} {fa:av->Dm (List D)} (ha:qz K t fa):wa K (u5 t) (nJ fa):=by
 intro ρ σ H δ st S st' Q l rs e q
 obtain ⟨as,st1,e1,e⟩:=dN e
 split at e
 ·split at e
  ·next ok =>
   cases e
   have ok:=of_decide_eq_true ok
   refine ha ρ σ H δ st _ _ _ l rs e1 fun x H1 ρ1 m1 l1 r1=>?_
   obtain ⟨v,w,rfl,r,r'⟩:=r1.two'
   cases r
   cases r'
   exact ⟨_,_,rfl,by omega,q _ H1 ρ1 m1 l1 (M6 _ _)⟩
  ·cases e
 ·cases e
def mT (ds:List D):List D:=ds.mapIdx fun i d=>.tup [.int (i:Int),d]
theorem CK (ds:List D):(mT ds).length=ds.length:=by simp [mT]
theorem Ju {ds:List D} {i:Nat} {x:D} (h:(mT ds)[i]?=some x):∃ d,ds[i]?=some d/\x=.tup [.int (i:Int),d]:=by
 unfold mT at h
 rw [List.getElem?_mapIdx] at h
 obtain ⟨d,h1,h2⟩:=WZ.mp h
 exact ⟨d,h1,h2.symm⟩
def nK (fa:av->Dm (List D)):av->Dm Src:=fun δ st=>bnd (fa δ st) fun as st1=>match as with
 | [.tup ds]=>some (.fix (mT ds),st1)
 | _=>none
theorem M7 {t:TA} {fa:av->Dm (List D)} (ha:qz K t fa):wa K (vw K t) (nK fa):=by
 intro ρ σ H δ st S st' Q l rs e q
 obtain ⟨as,st1,e1,e⟩:=dN e
 split at e
 ·cases e
  refine ha ρ σ H δ st _ _ _ l rs e1 fun x H1 ρ1 m1 l1 r1=>?_
  obtain ⟨v,rfl,r⟩:=r1.one'
  cases r with
  | tup s r =>
   refine ⟨_,rfl,⟨_,s⟩,q _ H1 ρ1 m1 l1 fun ρ2 H2 st2 i m2 l2=>⟨fun h=>?_,fun d h=>?_⟩⟩
   ·obtain ⟨h1,h2⟩:=vZ h
    have h2:=Xa.mp h2
    rw [CK] at h1 h2
    exact ⟨_,m2.t _ _ s,by rw [r.length];omega⟩
   ·obtain ⟨h1,h2⟩:=vZ h
    obtain ⟨d',hd',rfl⟩:=Ju h2
    obtain ⟨v,hv,rv⟩:=r.got hd'
    refine ⟨⟨_,v,m2.t _ _ s,hv⟩,fun x H3 y=>?_⟩
    obtain ⟨p,z,rfl,hp,rfl,hx⟩:=y
    have:=hx _ (m2.t _ _ s)
    rw [hv] at this
    cases this
    have m3:Mn K ρ2 H2 ρ2 (upd H2 p (.tup [.int (i:Int),v])):=Mn.same (jD.up hp)
    exact ⟨m3,l2.same (jD.up hp),.tup (fj.of q5) (.cons (.int _) (.one ((rv.mn m2).mn m3)))⟩
 ·cases e
def iK (S:Src) (g:D->av->Dm av) (tc:av->Dm Bool) (te:av->Dm D):Nat->Nat->List D->av->Dm (List D)
 | 0,_,_,_,_=>none
 | n + 1,i,ys,δ,st=>if lim ys.length=true then match S.at i st with
  | none=>none
  | some none=>some (ys,st)
  | some (some d)=>bnd (g d δ st) fun δ1 st1=>bnd (tc δ1 st1) fun t st2=>if t=true then bnd (te δ1 st2) fun y st3=>iK S g tc te n (i + 1) (ys ++ [y]) δ1 st3 else iK S g tc te n (i + 1) ys δ1 st2
  else none
def pH (n:Nat) (js:List Nat) (δ:av):av:=List.replicate n none ++ js.map fun j=>δ.getD j none
def c5 (fi:av->Dm Src) (n:Nat) (js:List Nat) (g:D->av->Dm av) (tc:av->Dm Bool) (te:av->Dm D):av->Dm D:=fun δ st=>bnd (fi δ st) fun S st1=>bnd (iK S g tc te fuel 0 [] (pH n js δ) st1) fun ys st2=>some (.ref st2.length,st2 ++ [.lst ys])
theorem Rs.comp {ρ:List Addr} {H:Hp} {σ:St} {δ:av} (h:Rs K ρ H σ δ) (n:Nat) (js:List Nat):Rs K ρ H (jO n js σ) (pH n js δ):=by
 unfold jO pH
 refine ⟨by simp,fun i d hd=>?_⟩
 by_cases hi:i < n
 ·rw [WI (by simpa using hi),List.getElem?_replicate,if_pos hi] at hd
  cases hd
 ·rw [WT (by simpa using Nat.le_of_not_lt hi),WB] at hd
  rw [WT (by simpa using Nat.le_of_not_lt hi),WB]
  simp only [List.length_replicate] at hd ⊢
  cases hj:js[i - n]? with
  | none=>rw [hj] at hd;cases hd
  | some j =>
   rw [hj] at hd
   have hd:δ.getD j none=some d:=WJ hd
   rw [WN] at hd
   have hd':δ[j]?=some (some d):=by
    cases hx:δ[j]? with
    | none=>rw [hx] at hd;cases hd
    | some y=>rw [hx] at hd;exact congrArg some hd
   obtain ⟨v,hv,r⟩:=h.2 j d hd'
   exact ⟨v,by show some (σ.getD j none)=_;rw [WN,hv];rfl,r⟩
theorem qB {wi:TI} {tg:TG} {tc:TT} {te:TE} {fi:av->Dm Src} {n:Nat} {js:List Nat} {g:D->av->Dm av} {c:av->Dm Bool} {f:av->Dm D} (hi:wa K wi fi) (hg:ym K tg g) (hc:su K tc c) (hf:gs K te f):gs K (rX wi n js tg tc te) (c5 fi n js g c f):=by
 intro ρ σ H δ st b st' Q l rs e q
 obtain ⟨S,lW,e0,e⟩:=dN e
 obtain ⟨zs,pV,e9,e⟩:=dN e
 cases e
 refine hi ρ σ H δ st S lW _ l rs e0 fun J H0 ρ0 m0 l0 ok=>?_
 refine ⟨fun i m ys σ1 H1=>∃ ρ1 δ1 st1 ws,Mn K ρ0 H0 ρ1 H1/\Rl K ρ1 H1 st1/\Rs K ρ1 H1 σ1 δ1/\cG K ρ1 H1 ys ws/\iK S g c f m i ws δ1 st1=some (zs,pV),⟨fuel,ρ0,_,lW,[],.refl,l0,(rs.mn m0).comp n js,.nil,e9⟩,?_⟩
 rintro i m ys σ1 H1 ⟨ρ1,δ1,st1,ws,m1,l1,vY,FJ,e1⟩
 cases m with
 | zero=>cases e1
 | succ m =>
  obtain ⟨hstop,hgo⟩:=ok ρ1 H1 st1 i m1 l1
  unfold iK at e1
  split at e1
  ·next hl =>
   refine ⟨by rw [FJ.length];exact Jp hl,?_⟩
   split at e1
   ·cases e1
   ·next hs =>
    cases e1
    exact .inl ⟨hstop hs,fun p hp=>q _ _ _ ((m0.trans m1).trans (Mn.new hp)) (l1.newL hp FJ) (.ref (newR l1))⟩
   ·next d hs =>
    obtain ⟨δ2,st2,e2,e1⟩:=dN e1
    obtain ⟨t,st3,e3,e1⟩:=dN e1
    obtain ⟨go,uf⟩:=hgo d hs
    refine .inr ⟨go,fun x H2 hy=>?_⟩
    obtain ⟨m2,l2,r2⟩:=uf x H2 hy
    refine hg ρ1 σ1 H2 δ1 st1 x d δ2 st2 _ l2 (vY.mn m2) r2 e2 fun σ4 H4 ρ4 m4 l4 r4=>hc ρ4 σ4 H4 δ2 st2 t st3 _ l4 r4 e3 fun t' H5 ρ5 m5 l5 r5=>?_
    subst r5
    have m6:=(((m1.trans m2).trans m4).trans m5)
    cases t' with
    | true =>
     refine rS ?_
     rw [if_pos rfl] at e1
     obtain ⟨y,Jv,e6,e1⟩:=dN e1
     exact hf ρ5 σ4 H5 δ2 st3 y Jv _ l5 (r4.mn m5) e6 fun v H7 ρ7 m7 l7 r7=>⟨m,Xm m,ρ7,δ2,Jv,ws ++ [y],m6.trans m7,l7,r4.mn (m5.trans m7),(FJ.mn (((m2.trans m4).trans m5).trans m7)).append (.one r7),e1⟩
    | false =>
     refine rR ?_
     rw [if_neg WD] at e1
     exact ⟨m,Xm m,ρ5,δ2,st3,ws,m6,l5,r4.mn m5,FJ.mn ((m2.trans m4).trans m5),e1⟩
  ·cases e1
def dw:av->Dm Bool:=fun _ st=>some (true,st)
def eI (n:Nat) (b:av->Dm Fl):List D->Dm D:=fun ds st=>bnd (b (ds.map some ++ List.replicate (n - ds.length) none) st) fun fl st1=>match fl with
 | .rt d=>some (d,st1)
 | .nx _=>some (.non,st1)
 | _=>none
theorem Rs.start {ρ:List Addr} {H:Hp} {vs:List V} {ds:List D} (r:cG K ρ H vs ds) (N:List Str):Rs K ρ H (start N vs) (ds.map some ++ List.replicate (N.length - ds.length) none):=by
 unfold L2.start
 rw [r.length]
 refine ⟨by simp [r.length],fun i d hd=>?_⟩
 by_cases hi:i < ds.length
 ·rw [WI (by simpa using hi),WB] at hd
  rw [WI (by rw [Wv,r.length];exact hi),WB]
  cases hx:ds[i]? with
  | none=>rw [hx] at hd;cases hd
  | some y =>
   rw [hx] at hd
   cases hd
   obtain ⟨v,hv,rv⟩:=r.got hx
   exact ⟨v,by rw [hv];rfl,rv⟩
 ·rw [WT (by simpa using Nat.le_of_not_lt hi),List.getElem?_replicate] at hd
  split at hd <;> cases hd
theorem fm {N:List Str} {k n:Nat} {t:TS} {b:av->Dm Fl} {vs:List V} {H:Hp} {Q:VK} {E:XK} (hb:o6 K t b) (hn:N.length=n) (h:bj K k (eI n b) vs H Q E):t { nx:=fun _ H'=>Q .non H',rt:=Q } (start N vs) H:=by
 obtain ⟨hk,ρ,st,ds,d,st',l,r,e,q⟩:=h
 subst hn
 obtain ⟨fl,st1,e1,e⟩:=dN e
 refine hb ρ _ H _ st fl st1 _ l (Rs.start r N) e1 ?_
 cases fl with
 | rt v=>cases e;exact q
 | nx δ=>cases e;exact fun σ' H' ρ' m l' r'=>q .non H' ρ' m l' .non
 | bk δ=>cases e
 | ct δ=>cases e
end
section
variable {X:Cx} {K:Zfr}
theorem RL {N:List Str} {sF:Scope} {cells:List (Str×Addr)} {C:Addr} {fp:List Addr} {s:Shared} {H:Hp} {sG:Scope} {own fr:List Str} (h:rW (rV sF X.env.scope) sG own fr):rW (aS X N sF cells C fp s H).env.scope sG own fr:=h
theorem rq:su K (fun _ H Q=>Q true H) dw:=by
 intro ρ σ H δ st b st' Q l rs e q
 cases e
 exact q _ H ρ .refl l rfl
end
def wb (K:Zfr):Sp:=fun vs H Q _=>∃ (a:Addr) (ns:List Int),vs=[.ref a]/\BN K H a (ns.map V.int)/\ns.length<=63/\∀ H',Q (.bl true) H'
theorem yp {P:Program} {w:World} {K:Zfr} {mg:Str->Option Value} {base:Heap} {k:Nat} {f:Addr} {fd:FuncData} {ps:List Str} {F:List D->Dm D} (G:aE P w K mg base a7 k f fd ps (bj K 1 F))
  (h:∀ ns:List Int,ns.length<=63->∃ st',F [.ref 0] [.pQ (ns.map D.int)]=some (.bl true,st')):aE P w K mg base a7 k f fd ps (wb K):=by
 refine G.imp fun vs H Q E hs=>?_
 obtain ⟨a,ns,rfl,hS,hn,q⟩:=hs
 obtain ⟨st',e⟩:=h ns hn
 have one:∀ i (b:Addr),([a]:List Addr)[i]?=some b->i=0/\b=a:=fun i b h=>by
  cases i with
  | zero=>exact ⟨rfl,(WJ h).symm⟩
  | succ i=>simp at h
 refine ⟨rfl,[a],[.pQ (ns.map D.int)],[.ref 0],.bl true,st',⟨rfl,fun i j b o o' h1 h2 _ _ _ _=>by rw [(one i b h1).1,(one j b h2).1],fun i b o h1 h2=>?_⟩,.one (.ref rfl),e,fun v H' ρ' m l r=>by cases r;exact q H'⟩
 obtain ⟨rfl,rfl⟩:=one i b h1
 cases (WJ h2)
 exact ⟨ns.map V.int,hS,cG.ints ns⟩
def Wp {α:Type} (m:Option (α×Store)) (Q:α->Store->Prop):Prop:=∃ a st,m=some (a,st)/\Q a st
section
variable {α β:Type} {Q Q':α->Store->Prop} {st:Store} {δ:av}
theorem aY {m:Option (α×Store)} (h:Wp m Q) (hq:∀ a st,Q a st->Q' a st):Wp m Q':=let ⟨a,st,e,q⟩:=h;⟨a,st,e,hq a st q⟩
theorem bu {a:α}:Wp (some (a,st)) Q↔Q a st:=⟨fun ⟨_,_,e,q⟩=>by cases e;exact q,fun q=>⟨a,st,rfl,q⟩⟩
theorem gb:Wp (none:Option (α×Store)) Q↔False:=⟨fun ⟨_,_,e,_⟩=>(by cases e),False.elim⟩
theorem dn {R:β->Store->Prop} {m:Option (α×Store)} {k:α->Dm β}:Wp (bnd m k) R↔Wp m fun a st1=>Wp (k a st1) R:=by
 cases m with
 | none=>exact ⟨fun ⟨_,_,e,_⟩=>(by cases e),fun ⟨_,_,e,_⟩=>(by cases e)⟩
 | some p=>exact ⟨fun h=>⟨p.1,p.2,rfl,h⟩,fun ⟨a,s,e,h⟩=>by cases e;exact h⟩
theorem oA {c:Prop} [Decidable c] {m n:Option (α×Store)}:Wp (if c then m else n) Q↔if c then Wp m Q else Wp n Q:=by split <;> exact Iff.rfl
end
section
variable {st:Store} {δ:av} {Q:D->Store->Prop}
theorem yq {i:Nat}:Wp (ag i δ st) Q↔∃ d,δ[i]?=some (some d)/\Q d st:=by
 unfold ag
 split
 ·next d hd=>rw [bu];exact ⟨fun h=>⟨d,hd,h⟩,fun ⟨e,he,h⟩=>by rw [hd] at he;cases he;exact h⟩
 ·next h=>rw [gb];exact ⟨False.elim,fun ⟨e,he,_⟩=>h e he⟩
theorem Jw {d:D}:Wp (fC d δ st) Q↔Q d st:=bu
theorem CL {g:D->D->Dm D} {fa fb:av->Dm D}:Wp (ay g fa fb δ st) Q↔Wp (fa δ st) fun a st1=>Wp (fb δ st1) fun b st2=>Wp (g a b st2) Q:=by
 unfold ay;rw [dn];simp only [dn]
theorem CM {g:D->Dm D} {fa:av->Dm D}:Wp (qS g fa δ st) Q↔Wp (fa δ st) fun a st1=>Wp (g a st1) Q:=dn
theorem CN {g:List D->Dm D} {fa:av->Dm (List D)}:Wp (aN g fa δ st) Q↔Wp (fa δ st) fun a st1=>Wp (g a st1) Q:=dn
theorem yr {R:List D->Store->Prop}:Wp (ah δ st) R↔R [] st:=bu
theorem RM {R:List D->Store->Prop} {fa:av->Dm D} {fr:av->Dm (List D)}:Wp (ae fa fr δ st) R↔Wp (fa δ st) fun a st1=>Wp (fr δ st1) fun r st2=>R (a :: r) st2:=by
 unfold ae;rw [dn];simp only [dn,bu]
theorem yt {fa:av->Dm (List D)}:Wp (bq fa δ st) Q↔Wp (fa δ st) fun as st1=>lim as.length=true/\Q (.tup as) st1:=by
 unfold bq;rw [dn];simp only [oA,bu,gb]
 constructor <;> exact fun h=>aY h fun a s h=>by first | (split at h;exact ⟨by assumption,h⟩;exact h.elim) | (rw [if_pos h.1];exact h.2)
theorem yu {fa:av->Dm (List D)}:Wp (cZ fa δ st) Q↔Wp (fa δ st) fun as st1=>lim as.length=true/\Q (.ref st1.length) (st1 ++ [.lst as]):=by
 unfold cZ;rw [dn];simp only [oA,bu,gb]
 constructor <;> exact fun h=>aY h fun a s h=>by first | (split at h;exact ⟨by assumption,h⟩;exact h.elim) | (rw [if_pos h.1];exact h.2)
theorem RN {R:Bool->Store->Prop} {fa:av->Dm D}:Wp (aJ fa δ st) R↔Wp (fa δ st) fun a st1=>∃ b,a=.bl b/\R b st1:=by
 unfold aJ;rw [dn]
 constructor <;> refine fun h=>aY h fun a s h=>?_
 ·cases a <;> simp only [bu,gb] at h
  exact ⟨_,rfl,h⟩
 ·obtain ⟨b,rfl,h⟩:=h
  exact bu.mpr h
theorem yw {R:Bool->Store->Prop} {fa:av->Dm Bool}:Wp (uC fa δ st) R↔Wp (fa δ st) fun a st1=>R (!a) st1:=by
 unfold uC;rw [dn];simp only [bu]
theorem yx {R:Bool->Store->Prop} {fa fb:av->Dm Bool}:Wp (qT fa fb δ st) R↔Wp (fa δ st) fun a st1=>if a=true then Wp (fb δ st1) R else R false st1:=by
 unfold qT;rw [dn];simp only [oA,bu]
theorem CO {R:Bool->Store->Prop} {fa fb:av->Dm Bool}:Wp (MQ fa fb δ st) R↔Wp (fa δ st) fun a st1=>if a=true then R true st1 else Wp (fb δ st1) R:=by
 unfold MQ;rw [dn];simp only [oA,bu]
theorem wc {α:Type} {R:α->Store->Prop} {c:av->Dm Bool} {fa fb:av->Dm α}:Wp (eP c fa fb δ st) R↔Wp (c δ st) fun a st1=>if a=true then Wp (fa δ st1) R else Wp (fb δ st1) R:=by
 unfold eP;rw [dn];simp only [oA]
theorem RO {fa fb:av->Dm D}:Wp (qA fa fb δ st) Q↔Wp (aJ fa δ st) fun a st1=>if a=true then Wp (fb δ st1) Q else Q (.bl false) st1:=by
 unfold qA;rw [dn];simp only [oA,bu]
theorem yy {fa fb:av->Dm D}:Wp (CA fa fb δ st) Q↔Wp (aJ fa δ st) fun a st1=>if a=true then Q (.bl true) st1 else Wp (fb δ st1) Q:=by
 unfold CA;rw [dn];simp only [oA,bu]
theorem RP {fa:av->Dm D}:Wp (vS fa δ st) Q↔Wp (aJ fa δ st) fun a st1=>Q (.bl (!a)) st1:=by
 unfold vS;rw [dn];simp only [bu]
theorem RQ {R:Option Int->Store->Prop}:Wp (nt δ st) R↔R none st:=bu
theorem RS {R:Option Int->Store->Prop} {fa:av->Dm D}:Wp (pB fa δ st) R↔Wp (fa δ st) fun a st1=>∃ i,a=.int i/\R (some i) st1:=by
 unfold pB;rw [dn]
 constructor <;> refine fun h=>aY h fun a s h=>?_
 ·cases a <;> simp only [bu,gb] at h
  exact ⟨_,rfl,h⟩
 ·obtain ⟨b,rfl,h⟩:=h
  exact bu.mpr h
theorem CP {g:D->Option Int->Option Int->Dm D} {fa:av->Dm D} {fl fh:av->Dm (Option Int)}:Wp (CB g fa fl fh δ st) Q↔Wp (fa δ st) fun a st1=>Wp (fl δ st1) fun lo st2=>Wp (fh δ st2) fun hi st3=>Wp (g a lo hi st3) Q:=by
 unfold CB;rw [dn];simp only [dn]
theorem CQ {T:String} {g:D->List D->Dm D} {fo:av->Dm D} {fa:av->Dm (List D)}:Wp (kh T g fo fa δ st) Q↔Wp (fo δ st) fun o st1=>tN T st1 o=true/\Wp (fa δ st1) fun as st2=>Wp (g o as st2) Q:=by
 unfold kh;rw [dn];simp only [oA,dn,gb]
 constructor <;> exact fun h=>aY h fun a s h=>by first | (split at h;exact ⟨by assumption,h⟩;exact h.elim) | (rw [if_pos h.1];exact h.2)
variable {i j:Int} {ds es:List D} {k:Nat}
theorem yz:Wp (c4 (.int i) (.int j) st) Q↔Q (.int (i + j)) st:=bu
theorem yA:Wp (mZ (.int i) (.int j) st) Q↔Q (.int (i - j)) st:=bu
theorem CT:Wp (vV (.int i) (.int j) st) Q↔Q (.bl (decide (i < j))) st:=bu
theorem CU:Wp (RC (.int i) (.int j) st) Q↔Q (.bl (decide (i<=j))) st:=bu
theorem CV:Wp (uE (.int i) (.int j) st) Q↔Q (.bl (decide (j < i))) st:=bu
theorem CW:Wp (Jr (.int i) (.int j) st) Q↔Q (.bl (decide (j<=i))) st:=bu
theorem yB:Wp (lS (.int i) st) Q↔Q (.int (-i)) st:=bu
theorem Ax {c:Int->Int->Bool} {h:Int->Int->D}:Wp (uD c h (.int i) (.int j) st) Q↔c i j=true/\Q (h i j) st:=by
 show Wp (if c i j=true then some (h i j,st) else none) Q↔_
 rw [oA,bu,gb]
 split
 ·next h=>exact ⟨fun q=>⟨h,q⟩,fun q=>q.2⟩
 ·next h=>exact ⟨False.elim,fun q=>h q.1⟩
theorem yC:Wp (mv (.int i) (.int j) st) Q↔((-18446744073709551616 < i/\i < 18446744073709551616)\/(-18446744073709551616 < j/\j < 18446744073709551616))/\Q (.int (i * j)) st:=by
 unfold mv;rw [Ax,Bool.or_eq_true,decide_eq_true_eq,decide_eq_true_eq]
theorem RT:Wp (pC (.int i) (.int j) st) Q↔(0 < j/\j < 1073741824)/\Q (.int (i / j)) st:=by unfold pC;rw [Ax,decide_eq_true_eq]
theorem yD:Wp (jR (.int i) (.int j) st) Q↔0 < j/\Q (.int (i % j)) st:=by unfold jR;rw [Ax,decide_eq_true_eq]
theorem yE:Wp (sy (.int i) (.int j) st) Q↔(0<=j/\j<=1000000/\i.natAbs < 18446744073709551616)/\Q (.int (i ^ j.toNat)) st:=by unfold sy;rw [Ax,decide_eq_true_eq]
theorem yF {neg:Bool}:Wp (jE neg (.int i) (.int j) st) Q↔Q (.bl (if neg then !decide (i=j) else decide (i=j))) st:=by
 have e:decide (V.int i=V.int j)=decide (i=j):=by
  by_cases h:i=j
  ·subst h;simp
  ·simp [h]
 show Wp (if oH (V.int i) (V.int j)=true then some (D.bl (if neg then !decide (V.int i=V.int j) else decide (V.int i=V.int j)),st) else none) Q↔_
 rw [if_pos (show oH _ _=true from rfl),bu,e]
theorem yG {neg:Bool} {x y:Str}:Wp (jE neg (.str x) (.str y) st) Q↔Q (.bl (if neg then !decide (x=y) else decide (x=y))) st:=by
 have e:decide (V.str x=V.str y)=decide (x=y):=by
  by_cases h:x=y
  ·subst h;simp
  ·simp [h]
 show Wp (if oH (V.str x) (V.str y)=true then some (D.bl (if neg then !decide (V.str x=V.str y) else decide (V.str x=V.str y)),st) else none) Q↔_
 rw [if_pos (show oH _ _=true from rfl),bu,e]
theorem yH:Wp (aM (.tup ds) (.int i) st) Q↔∃ d,eE ds i=some d/\Q d st:=by
 show Wp (match eE ds i with | some d=>some (d,st) | none=>none) Q↔_
 cases eE ds i with
 | none=>rw [gb];exact ⟨False.elim,fun ⟨_,e,_⟩=>by cases e⟩
 | some d=>rw [bu];exact ⟨fun q=>⟨d,rfl,q⟩,fun ⟨_,e,q⟩=>by cases e;exact q⟩
theorem yI:Wp (cc (.ref k) (.int i) st) Q↔∃ ds d,items st k=some ds/\eE ds i=some d/\Q d st:=by
 show Wp (match items st k with | some ds=>(match eE ds i with | some d=>some (d,st) | none=>none) | none=>none) Q↔_
 cases items st k with
 | none=>rw [gb];exact ⟨False.elim,fun ⟨_,_,e,_⟩=>by cases e⟩
 | some ds =>
  show Wp (match eE ds i with | some d=>some (d,st) | none=>none) Q↔_
  cases h:eE ds i with
  | none=>rw [gb];exact ⟨False.elim,fun ⟨_,_,e,e',_⟩=>by cases e;rw [h] at e';cases e'⟩
  | some d=>rw [bu];exact ⟨fun q=>⟨ds,d,rfl,h,q⟩,fun ⟨_,_,e,e',q⟩=>by cases e;rw [h] at e';cases e';exact q⟩
theorem yJ {lo hi:Option Int}:Wp (yg (.tup ds) lo hi st) Q↔Q (.tup (cutD ds lo hi)) st:=bu
theorem yK {lo hi:Option Int}:Wp (uF (.ref k) lo hi st) Q↔∃ ds,items st k=some ds/\Q (.ref st.length) (st ++ [.lst (cutD ds lo hi)]):=by
 show Wp (match items st k with | some ds=>some (D.ref st.length,st ++ [O.lst (cutD ds lo hi)]) | none=>none) Q↔_
 cases items st k with
 | none=>rw [gb];exact ⟨False.elim,fun ⟨_,e,_⟩=>by cases e⟩
 | some ds=>rw [bu];exact ⟨fun q=>⟨ds,rfl,q⟩,fun ⟨_,e,q⟩=>by cases e;exact q⟩
theorem RU:Wp (jA (.tup ds) (.tup es) st) Q↔lim (ds.length + es.length)=true/\Q (.tup (ds ++ es)) st:=by
 show Wp (if lim (ds.length + es.length)=true then some (D.tup (ds ++ es),st) else none) Q↔_
 rw [oA,bu,gb]
 split
 ·next h=>exact ⟨fun q=>⟨h,q⟩,fun q=>q.2⟩
 ·next h=>exact ⟨False.elim,fun q=>h q.1⟩
theorem yL {a b:Nat}:Wp (nZ (.ref a) (.ref b) st) Q↔∃ xs ys,own st a=some xs/\own st b=some ys/\lim (xs.length + ys.length)=true/\Q (.ref st.length) (st ++ [.lst (xs ++ ys)]):=by
 show Wp (match own st a,own st b with | some xs,some ys=>if lim (xs.length + ys.length)=true then some (D.ref st.length,st ++ [O.lst (xs ++ ys)]) else none | _,_=>none) Q↔_
 cases ha:own st a <;> cases hb:own st b
 ·simp only [gb];exact ⟨False.elim,fun ⟨_,_,e,_⟩=>by cases e⟩
 ·simp only [gb];exact ⟨False.elim,fun ⟨_,_,e,_⟩=>by cases e⟩
 ·simp only [gb];exact ⟨False.elim,fun ⟨_,_,_,e,_⟩=>by cases e⟩
 ·next xs ys =>
  show Wp (if lim (xs.length + ys.length)=true then some (D.ref st.length,st ++ [O.lst (xs ++ ys)]) else none) Q↔_
  rw [oA,bu,gb]
  split
  ·next h=>exact ⟨fun q=>⟨_,_,rfl,rfl,h,q⟩,fun ⟨_,_,e,e',_,q⟩=>by cases e;cases e';exact q⟩
  ·next h=>exact ⟨False.elim,fun ⟨_,_,e,e',q,_⟩=>by cases e;cases e';exact h q⟩
theorem yM {a:D}:Wp (cY [a] st) Q↔∃ ds,cL st a=some ds/\Q (.int ds.length) st:=by
 show Wp (match cL st a with | some ds=>some (D.int ds.length,st) | none=>none) Q↔_
 cases cL st a with
 | none=>rw [gb];exact ⟨False.elim,fun ⟨_,e,_⟩=>by cases e⟩
 | some ds=>rw [bu];exact ⟨fun q=>⟨ds,rfl,q⟩,fun ⟨_,e,q⟩=>by cases e;exact q⟩
theorem RV {a:D}:Wp (ow [a] st) Q↔∃ ds,cL st a=some ds/\Q (.ref st.length) (st ++ [.lst ds]):=by
 show Wp (match cL st a with | some ds=>some (D.ref st.length,st ++ [O.lst ds]) | none=>none) Q↔_
 cases cL st a with
 | none=>rw [gb];exact ⟨False.elim,fun ⟨_,e,_⟩=>by cases e⟩
 | some ds=>rw [bu];exact ⟨fun q=>⟨ds,rfl,q⟩,fun ⟨_,e,q⟩=>by cases e;exact q⟩
theorem RW {a:D}:Wp (bM [a] st) Q↔∃ ds,cL st a=some ds/\Q (.tup ds) st:=by
 show Wp (match cL st a with | some ds=>some (D.tup ds,st) | none=>none) Q↔_
 cases cL st a with
 | none=>rw [gb];exact ⟨False.elim,fun ⟨_,e,_⟩=>by cases e⟩
 | some ds=>rw [bu];exact ⟨fun q=>⟨ds,rfl,q⟩,fun ⟨_,e,q⟩=>by cases e;exact q⟩
theorem RX:Wp (pD [.int i,.int j] st) Q↔Q (.int (if j > i then j else i)) st:=bu
theorem RY:Wp (pE [.int i,.int j] st) Q↔Q (.int (if j < i then j else i)) st:=bu
theorem RZ:Wp (oz [.int i] st) Q↔Q (.int i) st:=bu
theorem R0 {b:Bool}:Wp (oz [.bl b] st) Q↔Q (.int (if b then 1 else 0)) st:=bu
theorem R1:Wp (iI [.int j] st) Q↔Q (.ref st.length) (st ++ [.jH 0 j]):=bu
theorem R3:Wp (fu [.int i,.int j] st) Q↔Q (.ref st.length) (st ++ [.jH i j]):=bu
theorem R4 {y:D}:Wp (a5 (.ref k) [y] st) Q↔∃ xs,own st k=some xs/\lim xs.length=true/\Q .non (st.set k (.lst (xs ++ [y]))):=by
 show Wp (match own st k with | some xs=>if lim xs.length=true then some (D.non,st.set k (O.lst (xs ++ [y]))) else none | none=>none) Q↔_
 cases own st k with
 | none=>rw [gb];exact ⟨False.elim,fun ⟨_,e,_⟩=>by cases e⟩
 | some xs =>
  show Wp (if lim xs.length=true then some (D.non,st.set k (O.lst (xs ++ [y]))) else none) Q↔_
  rw [oA,bu,gb]
  split
  ·next h=>exact ⟨fun q=>⟨_,rfl,h,q⟩,fun ⟨_,e,_,q⟩=>by cases e;exact q⟩
  ·next h=>exact ⟨False.elim,fun ⟨_,e,q,_⟩=>by cases e;exact h q⟩
end
def Ws (m:Option (Fl×Store)) (N B C:av->Store->Prop) (R:D->Store->Prop):Prop:=Wp m fun fl st=>match fl with
 | .nx δ=>N δ st
 | .bk δ=>B δ st
 | .ct δ=>C δ st
 | .rt d=>R d st
section
variable {st:Store} {δ:av} {N B C:av->Store->Prop} {R:D->Store->Prop} {f g:av->Dm Fl} {e:av->Dm D}
theorem yN {m:Option (Fl×Store)} {N':av->Store->Prop} (h:Ws m N B C R) (hn:∀ δ st,N δ st->N' δ st):Ws m N' B C R:=aY h fun fl st q=>by
 cases fl with
 | nx δ=>exact hn δ st q
 | bk δ=>exact q
 | ct δ=>exact q
 | rt d=>exact q
theorem aW (h:Ws (f δ st) (fun δ1 st1=>Ws (g δ1 st1) N B C R) B C R):Ws (az f g δ st) N B C R:=by
 unfold Ws az
 rw [dn]
 refine aY h fun fl st1 q=>?_
 cases fl with
 | nx δ1=>exact q
 | bk δ1=>exact bu.mpr q
 | ct δ1=>exact bu.mpr q
 | rt d=>exact bu.mpr q
theorem jJ (h:N δ st):Ws (aU δ st) N B C R:=bu.mpr h
theorem sH {t:D->av->Dm av} (h:Wp (e δ st) fun d st1=>Wp (t d δ st1) N):Ws (aI e t δ st) N B C R:=by
 unfold Ws aI
 rw [dn]
 refine aY h fun d st1 q=>?_
 rw [dn]
 exact aY q fun δ1 st2 q=>bu.mpr q
theorem bO {i:Nat} (h:Wp (e δ st) fun d st1=>N (δ.set i (some d)) st1):Ws (aI e (hName i) δ st) N B C R:=sH (aY h fun d st1 q=>bu.mpr q)
theorem pW (h:Wp (e δ st) fun _ st1=>N δ st1):Ws (cy e δ st) N B C R:=by
 unfold Ws cy
 rw [dn]
 exact aY h fun d st1 q=>bu.mpr q
theorem dz (h:Wp (e δ st) R):Ws (aV e δ st) N B C R:=by
 unfold Ws aV
 rw [dn]
 exact aY h fun d st1 q=>bu.mpr q
theorem iD {c:av->Dm Bool} (h:Wp (c δ st) fun b st1=>(b=true->Ws (f δ st1) N B C R)/\(b=false->Ws (g δ st1) N B C R)):Ws (eP c f g δ st) N B C R:=by
 unfold Ws
 rw [wc]
 refine aY h fun b st1 q=>?_
 cases b with
 | true=>rw [if_pos rfl];exact q.1 rfl
 | false=>rw [if_neg WD];exact q.2 rfl
theorem M8 {i j:Nat} {fa:av->Dm (List D)} (h:Wp (fa δ st) fun as st1=>∃ a b,as=[a,b]/\N ((δ.set i (some a)).set j (some b)) st1):Ws (sE i j fa δ st) N B C R:=by
 unfold Ws sE
 rw [dn]
 refine aY h fun as st1 q=>?_
 obtain ⟨a,b,rfl,q⟩:=q
 exact bu.mpr q
theorem eY {n:Nat} {b:av->Dm Fl} {ds:List D} (h:Ws (b (ds.map some ++ List.replicate (n - ds.length) none) st) (fun _ st1=>R .non st1) (fun _ _=>False) (fun _ _=>False) R):Wp (eI n b ds st) R:=by
 unfold eI
 rw [dn]
 refine aY h fun fl st1 q=>?_
 cases fl with
 | nx δ1=>exact bu.mpr q
 | bk δ1=>exact q.elim
 | ct δ1=>exact q.elim
 | rt d=>exact bu.mpr q
theorem yO {c:av->Dm Bool} {b:av->Dm Fl} (W:Nat->av->Store->Prop) (m:Nat) (hm:m < fuel) (h0:W m δ st)
  (step:∀ m δ st,W m δ st->Wp (c δ st) fun t st1=>(t=true->Ws (b δ st1) (fun δ2 st2=>∃ m',m' < m/\W m' δ2 st2) N (fun δ2 st2=>∃ m',m' < m/\W m' δ2 st2) R)/\(t=false->N δ st1)):Ws (iJ c b δ st) N B C R:=by
 have key:∀ (k m:Nat) (δ:av) (st:Store),m < k->W m δ st->Ws (f9 c b k δ st) N B C R:=by
  intro k
  induction k with
  | zero=>intro m δ st h;exact absurd h (Xh _)
  | succ k ih =>
   intro m δ st hk hw
   unfold Ws f9
   rw [dn]
   refine aY (step m δ st hw) fun t st1 q=>?_
   cases t with
   | false=>rw [if_neg WD];exact bu.mpr (q.2 rfl)
   | true =>
    rw [if_pos rfl,dn]
    refine aY (q.1 rfl) fun fl st2 q=>?_
    cases fl with
    | nx δ2=>obtain ⟨m',hm',w⟩:=q;exact ih m' δ2 st2 (by omega) w
    | ct δ2=>obtain ⟨m',hm',w⟩:=q;exact ih m' δ2 st2 (by omega) w
    | bk δ2=>exact bu.mpr q
    | rt d=>exact bu.mpr q
 exact key fuel m δ st hm h0
theorem mU {fi:av->Dm Src} {t:D->av->Dm av} {b:av->Dm Fl} (ds:List D) (Pv:Nat->av->Store->Prop) (hi:Wp (fi δ st) fun S st1=>S=.fix ds/\Pv 0 δ st1) (hl:ds.length < 100000)
  (step:∀ i d δ st,ds[i]?=some d->Pv i δ st->Wp (t d δ st) fun δ1 st1=>Ws (b δ1 st1) (Pv (i + 1)) N (Pv (i + 1)) R) (fin:∀ δ st,Pv ds.length δ st->N δ st):Ws (cT fi t b δ st) N B C R:=by
 unfold Ws cT
 rw [dn]
 refine aY hi fun S lW q=>?_
 obtain ⟨rfl,h0⟩:=q
 have key:∀ (k i:Nat) (δ:av) (st:Store),i<=ds.length->ds.length - i < k->Pv i δ st->Ws (hJ (.fix ds) t b k i δ st) N B C R:=by
  intro k
  induction k with
  | zero=>intro i δ st _ h;exact absurd h (Xh _)
  | succ k ih =>
   intro i δ st hi hk hw
   unfold Ws hJ
   have e:Src.at (.fix ds) i st=some ds[i]?:=by show (if i<=ds.length then some ds[i]? else none)=_;rw [if_pos hi]
   rw [e]
   cases hd:ds[i]? with
   | none =>
    have:=Xa.mp hd
    have e:i=ds.length:=by omega
    exact bu.mpr (fin δ st (e ▸ hw))
   | some d =>
    have hlt:=(Ww.mp hd).1
    show Wp (bnd _ _) _
    rw [dn]
    refine aY (step i d δ st hd hw) fun δ1 st1 q=>?_
    rw [dn]
    refine aY q fun fl st2 q=>?_
    cases fl with
    | nx δ2=>exact ih (i + 1) δ2 st2 (by omega) (by omega) q
    | ct δ2=>exact ih (i + 1) δ2 st2 (by omega) (by omega) q
    | bk δ2=>exact bu.mpr q
    | rt d=>exact bu.mpr q
 exact key fuel 0 δ lW (W8 _) (Nat.lt_trans (by omega) (show 100000 < fuel by decide)) h0
theorem M9 {fi:av->Dm Src} {t:D->av->Dm av} {b:av->Dm Fl} (ds:List D) (r:Nat) (Pv:Nat->av->Store->Prop) (hi:Wp (fi δ st) fun S st1=>S=.live r/\Pv 0 δ st1) (hl:ds.length < 100000) (hk:∀ i δ st,Pv i δ st->items st r=some ds)
  (step:∀ i d δ st,ds[i]?=some d->Pv i δ st->Wp (t d δ st) fun δ1 st1=>Ws (b δ1 st1) (Pv (i + 1)) N (Pv (i + 1)) R) (fin:∀ δ st,Pv ds.length δ st->N δ st):Ws (cT fi t b δ st) N B C R:=by
 unfold Ws cT
 rw [dn]
 refine aY hi fun S lW q=>?_
 obtain ⟨rfl,h0⟩:=q
 have key:∀ (k i:Nat) (δ:av) (st:Store),i<=ds.length->ds.length - i < k->Pv i δ st->Ws (hJ (.live r) t b k i δ st) N B C R:=by
  intro k
  induction k with
  | zero=>intro i δ st _ h;exact absurd h (Xh _)
  | succ k ih =>
   intro i δ st hi hk' hw
   unfold Ws hJ
   have e:Src.at (.live r) i st=some ds[i]?:=by show (items st r).map _=_;rw [hk i δ st hw];rfl
   rw [e]
   cases hd:ds[i]? with
   | none =>
    have:=Xa.mp hd
    have e:i=ds.length:=by omega
    exact bu.mpr (fin δ st (e ▸ hw))
   | some d =>
    have hlt:=(Ww.mp hd).1
    show Wp (bnd _ _) _
    rw [dn]
    refine aY (step i d δ st hd hw) fun δ1 st1 q=>?_
    rw [dn]
    refine aY q fun fl st2 q=>?_
    cases fl with
    | nx δ2=>exact ih (i + 1) δ2 st2 (by omega) (by omega) q
    | ct δ2=>exact ih (i + 1) δ2 st2 (by omega) (by omega) q
    | bk δ2=>exact bu.mpr q
    | rt d=>exact bu.mpr q
 exact key fuel 0 δ lW (W8 _) (Nat.lt_trans (by omega) (show 100000 < fuel by decide)) h0
theorem Jx {fi:av->Dm Src} {n:Nat} {js:List Nat} {t:D->av->Dm av} {c:av->Dm Bool} {f:av->Dm D} {Q:D->Store->Prop} (ds:List D) (Pv:Nat->List D->av->Store->Prop)
  (hi:Wp (fi δ st) fun S st1=>(∀ i ys δ st,i<=ds.length->Pv i ys δ st->S.at i st=some ds[i]?)/\Pv 0 [] (pH n js δ) st1) (hl:ds.length < 100000) (hy:∀ i ys δ st,Pv i ys δ st->ys.length<=i)
  (step:∀ i d ys δ st,ds[i]?=some d->Pv i ys δ st->Wp (t d δ st) fun δ1 st1=>Wp (c δ1 st1) fun b st2=>(b=true->Wp (f δ1 st2) fun y st3=>Pv (i + 1) (ys ++ [y]) δ1 st3)/\(b=false->Pv (i + 1) ys δ1 st2))
  (fin:∀ ys δ st,Pv ds.length ys δ st->Q (.ref st.length) (st ++ [.lst ys])):Wp (c5 fi n js t c f δ st) Q:=by
 unfold c5
 rw [dn]
 refine aY hi fun S lW q=>?_
 obtain ⟨hS,h0⟩:=q
 have key:∀ (k i:Nat) (ys:List D) (δ:av) (st:Store),i<=ds.length->ds.length - i < k->Pv i ys δ st->Wp (iK S t c f k i ys δ st) fun zs pV=>∃ δ9,Pv ds.length zs δ9 pV:=by
  intro k
  induction k with
  | zero=>intro i ys δ st _ h;exact absurd h (Xh _)
  | succ k ih =>
   intro i ys δ st hi hk' hw
   unfold iK
   have hlim:lim ys.length=true:=Nat.ble_eq_true_of_le (by have:=hy i ys δ st hw;omega)
   rw [if_pos hlim,hS i ys δ st hi hw]
   cases hd:ds[i]? with
   | none =>
    have:=Xa.mp hd
    have e:i=ds.length:=by omega
    exact bu.mpr ⟨δ,e ▸ hw⟩
   | some d =>
    have hlt:=(Ww.mp hd).1
    show Wp (bnd _ _) _
    rw [dn]
    refine aY (step i d ys δ st hd hw) fun δ1 st1 q=>?_
    rw [dn]
    refine aY q fun b st2 q=>?_
    cases b with
    | true =>
     rw [if_pos rfl,dn]
     exact aY (q.1 rfl) fun y st3 q=>ih (i + 1) _ δ1 st3 (by omega) (by omega) q
    | false =>
     rw [if_neg WD]
     exact ih (i + 1) ys δ1 st2 (by omega) (by omega) (q.2 rfl)
 rw [dn]
 exact aY (key fuel 0 [] _ lW (W8 _) (Nat.lt_trans (by omega) (show 100000 < fuel by decide)) h0) fun zs pV ⟨δ9,q⟩=>bu.mpr (fin zs δ9 pV q)
end
def keyOf:D->Option Key
 | .int i=>some (.inl i)
 | .str x=>some (.inr x)
 | _=>none
def jU (st:Store):D->Option (List (Key×D))
 | .ref i=>match st[i]? with
  | some (.dct kvs)=>some kvs
  | _=>none
 | _=>none
def dM (kvs:List (Key×D)) (k:Key):Option D:=(kvs.find? fun kv=>decide (kv.1=k)).map (·.2)
def putD (kvs:List (Key×D)) (k:Key) (v:D):List (Key×D) :=
 if (kvs.any fun kv=>decide (kv.1=k))=true then kvs.map (fun kv=>if kv.1=k then (kv.1,v) else kv) else kvs ++ [(k,v)]
section
variable {K:Zfr} {ρ:List Addr} {H:Hp} {st:Store}
theorem Ab {x:V} {y:D} {k:Key} (r:Rp K ρ H x y) (h:keyOf y=some k):x=kV k:=by
 cases r <;> first | (cases h;rfl) | cases h
theorem Na {x:V} {a:D} {kvs:List (Key×D)} (l:Rl K ρ H st) (r:Rp K ρ H x a) (h:jU st a=some kvs):∃ p i ws,x=.ref p/\a=.ref i/\ρ[i]?=some p/\st[i]?=some (.dct kvs)/\H p=some (.dK ws)/\Rk K ρ H ws kvs:=by
 cases r <;> first | (cases h;done) | skip
 next hi =>
  simp only [jU] at h
  split at h
  ·next kvs' hs =>
   cases h
   obtain ⟨ws,e,r⟩:=l.obj _ _ _ hi hs
   exact ⟨_,_,ws,rfl,rfl,hi,hs,e,r⟩
  ·cases h
theorem Rk.val {ws:List (Key×V)} {kvs:List (Key×D)} (r:Rk K ρ H ws kvs) (k:Key):(∀ d,dM kvs k=some d->∃ v,kS ws k=some v/\Rp K ρ H v d)/\(kS ws k).isSome=(dM kvs k).isSome:=by
 induction r with
 | nil=>exact ⟨fun d h=>(by cases h),rfl⟩
 | @cons p q ps qs h t ih =>
  obtain ⟨h1,h2⟩:=h
  unfold dM kS at ih ⊢
  rw [Xt,Xt]
  by_cases e:p.1=k
  ·rw [decide_eq_true e,decide_eq_true (h1 ▸ e)]
   exact ⟨fun d hd=>by cases hd;exact ⟨_,rfl,h2⟩,rfl⟩
  ·rw [decide_eq_false e,decide_eq_false (h1 ▸ e)]
   exact ih
theorem Rk.app {ws Ay:List (Key×V)} {kvs kvs':List (Key×D)} (r:Rk K ρ H ws kvs) (r':Rk K ρ H Ay kvs'):Rk K ρ H (ws ++ Ay) (kvs ++ kvs'):=by
 induction r with
 | nil=>exact r'
 | cons h _ ih=>exact .cons h ih
theorem Rk.put {ws:List (Key×V)} {kvs:List (Key×D)} {v:V} {d:D} (r:Rk K ρ H ws kvs) (k:Key) (rv:Rp K ρ H v d):Rk K ρ H (putK ws k v) (putD kvs k d):=by
 have hany:(ws.any fun kv=>decide (kv.1=k))=(kvs.any fun kv=>decide (kv.1=k)):=by
  induction r with
  | nil=>rfl
  | cons h _ ih=>rw [Xr,Xr,ih,h.1]
 have hmap:Rk K ρ H (ws.map fun kv=>if kv.1=k then (kv.1,v) else kv) (kvs.map fun kv=>if kv.1=k then (kv.1,d) else kv):=by
  clear hany
  induction r with
  | nil=>exact .nil
  | @cons p q ps qs h _ ih =>
   refine .cons ?_ ih
   dsimp only
   by_cases e:p.1=k
   ·rw [if_pos e,if_pos (h.1 ▸ e)];exact ⟨h.1,rv⟩
   ·rw [if_neg e,if_neg (h.1 ▸ e)];exact h
 unfold putK putD
 rw [hany]
 split
 ·exact hmap
 ·exact r.app (.cons ⟨rfl,rv⟩ .nil)
theorem Rk.length {ws:List (Key×V)} {kvs:List (Key×D)} (r:Rk K ρ H ws kvs):ws.length=kvs.length:=by
 induction r with
 | nil=>rfl
 | cons _ _ ih=>rw [W2,W2,ih]
end
section
variable {K:Zfr}
def sI:av->Dm D:=fun _ st=>some (.ref st.length,st ++ [.dct []])
theorem R5:gs K rQ sI:=by
 intro ρ σ H δ st b st' Q l rs e q
 cases e
 exact fun p hp=>q _ _ _ (Mn.new hp) (l.newD hp .nil) (.ref (newR l))
def wg (fd fy:av->Dm D):av->Dm D:=fun δ st=>bnd (fd δ st) fun x st1=>bnd (fy δ st1) fun y st2=>match jU st2 x,keyOf y with
 | some kvs,some k=>match dM kvs k with
  | some v=>some (v,st2)
  | none=>none
 | _,_=>none
def uI (neg:Bool) (fy fd:av->Dm D):av->Dm D:=fun δ st=>bnd (fy δ st) fun y st1=>bnd (fd δ st1) fun x st2=>match jU st2 x,keyOf y with
 | some kvs,some k=>some (.bl (if neg then !(dM kvs k).isSome else (dM kvs k).isSome),st2)
 | _,_=>none
theorem R6 {td ty:TE} {fd fy:av->Dm D} (hy:gs K ty fy) (hd:gs K td fd):gs K (ql ty td) (uI true fy fd):=by
 intro ρ σ H δ st b st' Q l rs e q
 obtain ⟨y,st1,e1,e⟩:=dN e
 obtain ⟨x,st2,e2,e⟩:=dN e
 refine hy ρ σ H δ st y st1 _ l rs e1 fun vy H1 ρ1 m1 l1 r1=>hd ρ1 σ H1 δ st1 x st2 _ l1 (rs.mn m1) e2 fun vx H2 ρ2 m2 l2 r2=>?_
 split at e
 ·next kvs k hx hk =>
  cases e
  obtain ⟨p,i,ws,rfl,rfl,hi,hs,hp,rk⟩:=Na l2 r2 hx
  refine ⟨p,kS ws k,rfl,by rw [Ab r1 hk];exact rO.k hp,q _ H2 ρ2 (m1.trans m2) l2 ?_⟩
  rw [(rk.val k).2]
  exact .bl _
 ·cases e
def qC (fd fy fv:av->Dm D):av->Dm Fl:=fun δ st=>bnd (fv δ st) fun v st1=>bnd (fd δ st1) fun x st2=>bnd (fy δ st2) fun y st3=>match x,jU st3 x,keyOf y with
 | .ref i,some kvs,some k=>if lim kvs.length=true then some (.nx δ,st3.set i (.dct (putD kvs k v))) else none
 | _,_,_=>none
theorem R7 {td ty tv:TE} {fd fy fv:av->Dm D} (hd:gs K td fd) (hy:gs K ty fy) (hv:gs K tv fv):o6 K (vn td ty tv) (qC fd fy fv):=by
 intro ρ σ H δ st fl st' E l rs e q
 obtain ⟨v,st1,e1,e⟩:=dN e
 obtain ⟨x,st2,e2,e⟩:=dN e
 obtain ⟨y,st3,e3,e⟩:=dN e
 refine hv ρ σ H δ st v st1 _ l rs e1 fun vv H1 ρ1 m1 l1 r1=>hd ρ1 σ H1 δ st1 x st2 _ l1 (rs.mn m1) e2 fun vx H2 ρ2 m2 l2 r2=>hy ρ2 σ H2 δ st2 y st3 _ l2 (rs.mn (m1.trans m2)) e3 fun vy H3 ρ3 m3 l3 r3=>?_
 obtain ⟨i,rfl⟩:∃ i,x=.ref i:=by
  cases x <;> first | exact ⟨_,rfl⟩ | (simp at e;done) | cases e
 cases hx:jU st3 (.ref i) with
 | none=>rw [hx] at e;cases e
 | some kvs =>
 cases hk:keyOf y with
 | none=>rw [hx,hk] at e;cases e
 | some k =>
  rw [hx,hk] at e
  simp only at e
  split at e
  ·next hl =>
   cases e
   obtain ⟨p,j,ws,rfl,ej,hi,hs,hp,rk⟩:=Na l3 (r2.mn m3) hx
   cases ej
   obtain ⟨l4,m4⟩:=l3.yb hi hs (rk.put k (r1.mn (m2.trans m3)))
   have mm:=((m1.trans m2).trans m3).trans m4
   refine ⟨p,_,rfl,?_,q σ _ ρ3 mm l4 (rs.mn mm)⟩
   rw [Ab r3 hk]
   exact rP.k hp (by rw [rk.length];exact Jp hl)
  ·cases e
def CY:av->Dm (List (D×D)):=fun _ st=>some ([],st)
def sJ (fk fv:av->Dm D) (fr:av->Dm (List (D×D))):av->Dm (List (D×D)):=fun δ st=>bnd (fk δ st) fun k st1=>bnd (fv δ st1) fun v st2=>bnd (fr δ st2) fun r st3=>some ((k,v) :: r,st3)
def keysOf:List (D×D)->Option (List (Key×D))
 | []=>some []
 | (k,v) :: r=>match keyOf k,keysOf r with
  | some k',some r'=>some ((k',v) :: r')
  | _,_=>none
def sL (kvs more:List (Key×D)):List (Key×D):=more.foldl (fun acc kv=>putD acc kv.1 kv.2) kvs
def wj (fp:av->Dm (List (D×D))):av->Dm D:=fun δ st=>bnd (fp δ (st ++ [.dct []])) fun ps st2=>match st2[st.length]?,keysOf ps with
 | some (.dct []),some kvs=>if kvs.length<=15 then some (.ref st.length,st2.set st.length (.dct (sL [] kvs))) else none
 | _,_=>none
end
section
variable {st:Store} {δ:av} {Q:D->Store->Prop}
theorem R8:Wp (sI δ st) Q↔Q (.ref st.length) (st ++ [.dct []]):=bu
theorem R9 {fd fy:av->Dm D}:Wp (wg fd fy δ st) Q↔Wp (fd δ st) fun x st1=>Wp (fy δ st1) fun y st2=>∃ kvs k v,jU st2 x=some kvs/\keyOf y=some k/\dM kvs k=some v/\Q v st2:=by
 unfold wg;rw [dn];simp only [dn]
 constructor <;> refine fun h=>aY h fun x s h=>aY h fun y s2 h=>?_
 ·split at h
  ·next kvs k h1 h2 =>
   split at h
   ·next v h3=>exact ⟨kvs,k,v,by assumption,by assumption,h3,bu.mp h⟩
   ·exact (gb.mp h).elim
  ·exact (gb.mp h).elim
 ·obtain ⟨kvs,k,v,h1,h2,h3,h⟩:=h
  rw [h1,h2]
  simp only [h3]
  exact bu.mpr h
theorem yP {neg:Bool} {fd fy:av->Dm D}:Wp (uI neg fy fd δ st) Q↔Wp (fy δ st) fun y st1=>Wp (fd δ st1) fun x st2=>∃ kvs k,jU st2 x=some kvs/\keyOf y=some k/\Q (.bl (if neg then !(dM kvs k).isSome else (dM kvs k).isSome)) st2:=by
 unfold uI;rw [dn];simp only [dn]
 constructor <;> refine fun h=>aY h fun x s h=>aY h fun y s2 h=>?_
 ·split at h
  ·next kvs k h1 h2=>exact ⟨kvs,k,by assumption,by assumption,bu.mp h⟩
  ·exact (gb.mp h).elim
 ·obtain ⟨kvs,k,h1,h2,h⟩:=h
  rw [h1,h2]
  exact bu.mpr h
theorem Sb {R:List (D×D)->Store->Prop}:Wp (CY δ st) R↔R [] st:=bu
theorem Sd {fk fv:av->Dm D} {fr:av->Dm (List (D×D))} {R:List (D×D)->Store->Prop}:Wp (sJ fk fv fr δ st) R↔Wp (fk δ st) fun k st1=>Wp (fv δ st1) fun v st2=>Wp (fr δ st2) fun r st3=>R ((k,v) :: r) st3:=by
 unfold sJ;rw [dn];simp only [dn,bu]
theorem Se {fp:av->Dm (List (D×D))}:Wp (wj fp δ st) Q↔Wp (fp δ (st ++ [.dct []])) fun ps st2=>st2[st.length]?=some (.dct [])/\∃ kvs,keysOf ps=some kvs/\kvs.length<=15/\Q (.ref st.length) (st2.set st.length (.dct (sL [] kvs))):=by
 unfold wj;rw [dn]
 constructor <;> refine fun h=>aY h fun ps s h=>?_
 ·split at h
  ·next kvs h1 h2 =>
   rw [oA,bu,gb] at h
   split at h
   ·next hl=>exact ⟨by assumption,kvs,by assumption,hl,h⟩
   ·exact h.elim
  ·exact (gb.mp h).elim
 ·obtain ⟨h1,kvs,h2,h3,h⟩:=h
  rw [h1,h2]
  simp only [if_pos h3]
  exact bu.mpr h
theorem Sf {fd fy fv:av->Dm D} {N B C:av->Store->Prop} {R:D->Store->Prop} (h:Wp (fv δ st) fun v st1=>Wp (fd δ st1) fun x st2=>Wp (fy δ st2) fun y st3=>∃ i kvs k,x=.ref i/\jU st3 x=some kvs/\keyOf y=some k/\lim kvs.length=true/\N δ (st3.set i (.dct (putD kvs k v)))):Ws (qC fd fy fv δ st) N B C R:=by
 unfold Ws qC
 rw [dn]
 refine aY h fun v st1 h=>?_
 rw [dn]
 refine aY h fun x st2 h=>?_
 rw [dn]
 refine aY h fun y st3 h=>?_
 obtain ⟨i,kvs,k,rfl,h1,h2,h3,h⟩:=h
 rw [h1,h2]
 simp only [h3]
 exact bu.mpr h
end
structure Ex (c:List Nat) (st st':Store):Prop where
 len:st.length<=st'.length
 keep:∀ (i:Nat) (o:O),st[i]?=some o->i ∉ c->st'[i]?=some o
section
variable {c c':List Nat} {st st1 st2:Store} {i:Nat} {o:O} {ds:List D}
theorem Ex.refl:Ex c st st:=⟨Wy _,fun _ _ h _=>h⟩
theorem Ex.trans (a:Ex c st st1) (b:Ex c st1 st2):Ex c st st2:=⟨WO a.len b.len,fun i o h n=>b.keep i o (a.keep i o h n) n⟩
theorem Ex.mono (a:Ex c st st1) (h:∀ x∈c,x∈c'):Ex c' st st1:=⟨a.len,fun i o e n=>a.keep i o e fun z=>n (h i z)⟩
theorem Ex.any (a:Ex [] st st1):Ex c st st1:=a.mono fun x h=>nomatch h
theorem eU {α:Type} {l:List α} {i:Nat} {o:α} (h:l[i]?=some o):i < l.length:=(Ww.mp h).1
theorem kX {l m:List O} (h:l[i]?=some o):(l ++ m)[i]?=some o:=by rw [WI (eU h)];exact h
theorem jK {l:List O}:(l ++ [o])[l.length]?=some o:=by rw [WT (Wy _),Xv];rfl
theorem Ex.app (a:Ex c st st1) (m:List O):Ex c st (st1 ++ m):=⟨by rw [Wz];exact WO a.len (Nat.le_add_right _ _),fun i o h n=>kX (a.keep i o h n)⟩
theorem Ex.cH (m:List O):Ex c st (st ++ m):=Ex.refl.app m
theorem Ex.put (a:Ex c st st1) (h:i∈c):Ex c st (st1.set i o):=⟨by rw [Xj];exact a.len,fun j u e n=>by rw [WE (fun z=>n (by rw [<- z];exact h))];exact a.keep j u e n⟩
theorem Ex.loc (a:Ex c st st1) (h:st.length<=i):Ex c st (st1.set i o):=⟨by rw [Xj];exact a.len,fun j u e n=>by rw [WE (by have:=eU e;omega)];exact a.keep j u e n⟩
theorem bQ (h:st[i]?=some (.lst ds)):items st i=some ds:=by unfold items;rw [h]
theorem Jy (h:st[i]?=some (.pQ ds)):items st i=some ds:=by unfold items;rw [h]
theorem lJ (h:st[i]?=some (.lst ds)):own st i=some ds:=by unfold own;rw [h]
theorem uJ:items (st ++ [.lst ds]) st.length=some ds:=bQ jK
theorem Sg:own (st ++ [.lst ds]) st.length=some ds:=lJ jK
theorem Si {o':O}:items (st ++ [.lst ds] ++ [o']) st.length=some ds:=bQ (kX jK)
theorem Sj {o':O}:own (st ++ [.lst ds] ++ [o']) st.length=some ds:=lJ (kX jK)
theorem Sk {o' o2:O}:items (st ++ [.lst ds] ++ [o'] ++ [o2]) st.length=some ds:=bQ (kX (kX jK))
theorem Sl {o' o2:O}:own (st ++ [.lst ds] ++ [o'] ++ [o2]) st.length=some ds:=lJ (kX (kX jK))
theorem Sn {lo hi:Int}:jB (st ++ [.jH lo hi]) (.ref st.length)=some (lo,hi):=by simp only [jB,jK]
theorem Sq:cL st (.tup ds)=some ds:=rfl
theorem Sr:cL st (.ref i)=items st i:=rfl
theorem n4 (h:(items st i).isSome=true):tN "list" st (.ref i)=true:=by simp only [tN,h];rfl
theorem Nb:tN "tuple" st (.tup ds)=true:=by simp only [tN];rfl
theorem jL {n:Nat} (h:n<=100000):lim n=true:=Nat.ble_eq_true_of_le h
end
section
variable {st:Store} {Q:D->Store->Prop} {i j:Int} {k:Nat} {ds es:List D}
theorem Ss {a:D}:Wp (dP [a] st) Q↔∃ p,jB st a=some p/\qV p.1 p.2=true/\Q (.ref st.length) (st ++ [.lst (aH p.1 (p.2 - p.1).toNat)]):=by
 show Wp (match jB st a with | some (lo,hi)=>if qV lo hi=true then some (D.ref st.length,st ++ [O.lst (aH lo (hi - lo).toNat)]) else none | none=>none) Q↔_
 cases jB st a with
 | none=>rw [gb];exact ⟨False.elim,fun ⟨_,e,_⟩=>by cases e⟩
 | some p =>
  obtain ⟨lo,hi⟩:=p
  show Wp (if qV lo hi=true then some (D.ref st.length,st ++ [O.lst (aH lo (hi - lo).toNat)]) else none) Q↔_
  rw [oA,bu,gb]
  split
  ·next h=>exact ⟨fun q=>⟨_,rfl,h,q⟩,fun ⟨_,e,_,q⟩=>by cases e;exact q⟩
  ·next h=>exact ⟨False.elim,fun ⟨_,e,q,_⟩=>by cases e;exact h q⟩
theorem Sv {a:D}:Wp (uG [a] st) Q↔∃ p,jB st a=some p/\qV p.1 p.2=true/\Q (.tup (aH p.1 (p.2 - p.1).toNat)) st:=by
 show Wp (match jB st a with | some (lo,hi)=>if qV lo hi=true then some (D.tup (aH lo (hi - lo).toNat),st) else none | none=>none) Q↔_
 cases jB st a with
 | none=>rw [gb];exact ⟨False.elim,fun ⟨_,e,_⟩=>by cases e⟩
 | some p =>
  obtain ⟨lo,hi⟩:=p
  show Wp (if qV lo hi=true then some (D.tup (aH lo (hi - lo).toNat),st) else none) Q↔_
  rw [oA,bu,gb]
  split
  ·next h=>exact ⟨fun q=>⟨_,rfl,h,q⟩,fun ⟨_,e,_,q⟩=>by cases e;exact q⟩
  ·next h=>exact ⟨False.elim,fun ⟨_,e,q,_⟩=>by cases e;exact h q⟩
theorem yQ:Wp (sC (.ref k) (.int j) st) Q↔∃ xs,own st k=some xs/\(-9223372036854775808<=j/\j < 9223372036854775808)/\lim (xs.length * j.toNat)=true/\Q (.ref st.length) (st ++ [.lst (List.replicate j.toNat xs).flatten]):=by
 show Wp (match own st k with | some a=>if (decide (-9223372036854775808<=j/\j < 9223372036854775808) && lim (a.length * j.toNat))=true then some (D.ref st.length,st ++ [O.lst (List.replicate j.toNat a).flatten]) else none | _=>none) Q↔_
 cases own st k with
 | none=>simp only [gb];exact ⟨False.elim,fun ⟨_,e,_⟩=>by cases e⟩
 | some xs =>
  show Wp (if (decide (-9223372036854775808<=j/\j < 9223372036854775808) && lim (xs.length * j.toNat))=true then some (D.ref st.length,st ++ [O.lst (List.replicate j.toNat xs).flatten]) else none) Q↔_
  rw [oA,bu,gb]
  split
  ·next h=>rw [WW,decide_eq_true_eq] at h;exact ⟨fun q=>⟨_,rfl,h.1,h.2,q⟩,fun ⟨_,e,_,_,q⟩=>by cases e;exact q⟩
  ·next h=>rw [WW,decide_eq_true_eq] at h;exact ⟨False.elim,fun ⟨_,e,q,q',_⟩=>by cases e;exact h ⟨q,q'⟩⟩
theorem Sw:Wp (mw (.ref k) [.int i] st) Q↔∃ xs j y,own st k=some xs/\(-9223372036854775808<=i/\i < 9223372036854775808)/\seqIndex? i xs.length=some j/\xs[j]?=some y/\Q y (st.set k (.lst (xs.eraseIdx j))):=by
 constructor
 ·rintro ⟨a,s,e,q⟩
  simp only [mw] at e
  split at e
  ·next xs hx =>
   split at e
   ·next hk =>
    split at e
    ·next j hj =>
     split at e
     ·next y hy=>cases e;exact ⟨xs,j,_,hx,of_decide_eq_true hk,hj,hy,q⟩
     ·cases e
    ·cases e
   ·cases e
  ·cases e
 ·rintro ⟨xs,j,y,hx,hk,hj,hy,q⟩
  refine ⟨_,_,?_,q⟩
  simp only [mw,hx,hj,hy,decide_eq_true hk]
  rfl
theorem Sx {b:Nat}:Wp (oP (.ref k) [.ref b] st) Q↔∃ xs ys,own st k=some xs/\own st b=some ys/\lim (xs.length + ys.length)=true/\Q .non (st.set k (.lst (xs ++ ys))):=by
 constructor
 ·rintro ⟨a,s,e,q⟩
  simp only [oP] at e
  split at e
  ·next xs ys hx hy =>
   split at e
   ·next hl=>cases e;exact ⟨xs,ys,hx,hy,hl,q⟩
   ·cases e
  ·cases e
 ·rintro ⟨xs,ys,hx,hy,hl,q⟩
  refine ⟨_,_,?_,q⟩
  simp only [oP,hx,hy,hl]
  rfl
theorem Nc {v:Int}:Wp (jT (.tup ds) [.int v] st) Q↔∃ ns j,cn iV ds=some ns/\ns.findIdx? (fun i=>decide (i=v))=some j/\Q (.int (j:Int)) st:=by
 constructor
 ·rintro ⟨a,s,e,q⟩
  simp only [jT] at e
  split at e
  ·next ns hn =>
   split at e
   ·next j hj=>cases e;exact ⟨ns,j,hn,hj,q⟩
   ·cases e
  ·cases e
 ·rintro ⟨ns,j,hn,hj,q⟩
  refine ⟨_,_,?_,q⟩
  simp only [jT,hn,hj]
theorem Sy {v:Int} {ns:List Int} (h:items st k=some (ns.map D.int)) (hv:v∈ns) (hl:ns.length<=1000) (hb:∀ i∈ns,-1000000000000000000<=i/\i<=1000000000000000000):Wp (ki (.ref k) [.int v] st) Q↔Q (.int (ns.idxOf v:Int)) st:=by
 have e:cn iV (ns.map D.int)=some ns:=by
  have:=vW (f:=iV) (g:=D.int) (k:=id) (fun _=>rfl) ns
  rw [this,List.map_id]
 have e2:ki (.ref k) [.int v] st=some (.int (ns.idxOf v:Int),st):=by
  simp only [ki,h,Xw,e]
  rw [if_pos ⟨hv,hl,hb⟩]
 rw [e2,bu]
theorem yR:Wp (yl [.ref k] st) Q↔∃ ds bs,items st k=some ds/\cn bV ds=some bs/\Q (.bl (bs.all id)) st:=by
 constructor
 ·rintro ⟨a,s,e,q⟩
  simp only [yl] at e
  split at e
  ·next bs hb =>
   cases e
   obtain ⟨ds,h1,h2⟩:=Xl.mp hb
   exact ⟨ds,bs,h1,h2,q⟩
  ·cases e
 ·rintro ⟨ds,bs,h1,h2,q⟩
  refine ⟨_,_,?_,q⟩
  simp only [yl,h1,Xw,h2]
theorem CZ {neg:Bool} {a c:D}:Wp (rn neg a c st) Q↔∃ x ds vs,sV a=some x/\cL st c=some ds/\cn sV ds=some vs/\Q (.bl (if neg then !vg x vs else vg x vs)) st:=by
 constructor
 ·rintro ⟨b,s,e,q⟩
  simp only [rn] at e
  split at e
  ·next x vs h1 h2 =>
   cases e
   obtain ⟨ds,h3,h4⟩:=Xl.mp h2
   exact ⟨x,ds,vs,h1,h3,h4,q⟩
  ·cases e
 ·rintro ⟨x,ds,vs,h1,h2,h3,q⟩
  refine ⟨_,_,?_,q⟩
  simp only [rn,h1,h2,Xw,h3]
theorem Nd (ns:List Int):cn sV (ns.map D.int)=some (ns.map V.int):=vW (f:=sV) (g:=D.int) (k:=V.int) (fun _=>rfl) ns
theorem Jz (ns:List Int):cn iV (ns.map D.int)=some ns:=by
 have:=vW (f:=iV) (g:=D.int) (k:=id) (fun _=>rfl) ns
 rw [this,List.map_id]
theorem JA {neg:Bool} {a b:D}:Wp (iH neg a b st) Q↔∃ p q,fS st 20 a=some p/\fS st 20 b=some q/\(PyData.canLay0 p=true/\PyData.canLay0 q=true/\min p.depth q.depth<=60)/\Q (.bl (if neg then !PyData.eqv p q else PyData.eqv p q)) st:=by
 constructor
 ·rintro ⟨c,s,e,q⟩
  simp only [iH] at e
  split at e
  ·next x y h1 h2 =>
   split at e
   ·next hs =>
    cases e
    rw [WW,WW,decide_eq_true_eq] at hs
    exact ⟨x,y,h1,h2,⟨hs.1.1,hs.1.2,hs.2⟩,q⟩
   ·cases e
  ·cases e
 ·rintro ⟨x,y,h1,h2,⟨h3,h4,h5⟩,q⟩
  refine ⟨_,_,?_,q⟩
  simp only [iH,h1,h2,h3,h4,decide_eq_true h5]
  rfl
theorem yS {z:Str}:Wp (yf (.str z) (.int i) st) Q↔∃ c,lim z.length=true/\eE z.cps.toList i=some c/\Q (.str ⟨#[c]⟩) st:=by
 constructor
 ·rintro ⟨c,s,e,q⟩
  simp only [yf] at e
  split at e
  ·next h1 =>
   split at e
   ·next c hc=>cases e;exact ⟨c,h1,hc,q⟩
   ·cases e
  ·cases e
 ·rintro ⟨c,h1,h2,q⟩
  refine ⟨_,_,?_,q⟩
  simp only [yf,h1,h2]
  rfl
theorem Sz {δ:av} {fa:av->Dm (List D)} {R:Src->Store->Prop}:Wp (bW fa δ st) R↔Wp (fa δ st) fun as st1=>∃ j,as=[.int j]/\(-4611686018427387904<=j/\j < 4611686018427387904)/\R (.fix (aH 0 j.toNat)) st1:=by
 unfold bW;rw [dn]
 constructor <;> refine fun h=>aY h fun as s h=>?_
 ·split at h
  ·next j =>
   rw [oA,bu,gb] at h
   split at h
   ·next hk=>exact ⟨j,rfl,of_decide_eq_true hk,h⟩
   ·exact h.elim
  ·exact (gb.mp h).elim
 ·obtain ⟨j,rfl,h1,h⟩:=h
  simp only [decide_eq_true h1,if_true]
  exact bu.mpr h
theorem SA {δ:av} {fa:av->Dm (List D)} {R:Src->Store->Prop}:Wp (nJ fa δ st) R↔Wp (fa δ st) fun as st1=>∃ i j,as=[.int i,.int j]/\((-4611686018427387904<=i/\i < 4611686018427387904)/\-4611686018427387904<=j/\j < 4611686018427387904)/\R (.fix (aH i (j - i).toNat)) st1:=by
 unfold nJ;rw [dn]
 constructor <;> refine fun h=>aY h fun as s h=>?_
 ·split at h
  ·next i j =>
   rw [oA,bu,gb] at h
   split at h
   ·next hk=>exact ⟨i,j,rfl,of_decide_eq_true hk,h⟩
   ·exact h.elim
  ·exact (gb.mp h).elim
 ·obtain ⟨i,j,rfl,h1,h⟩:=h
  simp only [decide_eq_true h1,if_true]
  exact bu.mpr h
theorem SD {δ:av} {fa:av->Dm D} {R:Src->Store->Prop}:Wp (cW fa δ st) R↔Wp (fa δ st) fun a st1=>∃ ds,a=.tup ds/\R (.fix ds) st1:=by
 unfold cW;rw [dn]
 constructor <;> refine fun h=>aY h fun a s h=>?_
 ·cases a <;> simp only [bu,gb] at h
  exact ⟨_,rfl,h⟩
 ·obtain ⟨j,rfl,h⟩:=h
  exact bu.mpr h
theorem SE {δ:av} {fa:av->Dm D} {R:Src->Store->Prop}:Wp (my fa δ st) R↔Wp (fa δ st) fun a st1=>∃ i ds,a=.ref i/\items st1 i=some ds/\R (.live i) st1:=by
 unfold my;rw [dn]
 constructor <;> refine fun h=>aY h fun a s h=>?_
 ·split at h
  ·split at h
   ·next i ds hd=>exact ⟨_,ds,rfl,hd,bu.mp h⟩
   ·exact (gb.mp h).elim
  ·exact (gb.mp h).elim
 ·obtain ⟨i,ds,rfl,hd,h⟩:=h
  simp only [hd]
  exact bu.mpr h
theorem SF {δ:av} {fa:av->Dm (List D)} {R:Src->Store->Prop}:Wp (nK fa δ st) R↔Wp (fa δ st) fun as st1=>∃ ds,as=[.tup ds]/\R (.fix (mT ds)) st1:=by
 unfold nK;rw [dn]
 constructor <;> refine fun h=>aY h fun as s h=>?_
 ·split at h
  ·exact ⟨_,rfl,bu.mp h⟩
  ·exact (gb.mp h).elim
 ·obtain ⟨ds,rfl,h⟩:=h
  exact bu.mpr h
theorem JB {i:Nat} {d:D} {δ:av} {R:av->Store->Prop}:Wp (hName i d δ st) R↔R (δ.set i (some d)) st:=bu
theorem SG {δ:av} {R:av->Store->Prop}:Wp (lV [] δ st) R↔R δ st:=bu
theorem SH {f:D->av->Dm av} {g:List D->av->Dm av} {d:D} {ds:List D} {δ:av} {R:av->Store->Prop}:Wp (bA f g (d :: ds) δ st) R↔Wp (f d δ st) fun δ1 st1=>Wp (g ds δ1 st1) R:=dn
theorem SI {n:Nat} {f:List D->av->Dm av} {ds:List D} {δ:av} {R:av->Store->Prop}:Wp (kW n f (.tup ds) δ st) R↔ds.length=n/\Wp (f ds δ st) R:=by
 show Wp (if ds.length=n then f ds δ st else none) R↔_
 rw [oA,gb]
 split
 ·next h=>exact ⟨fun q=>⟨h,q⟩,fun q=>q.2⟩
 ·next h=>exact ⟨False.elim,fun q=>h q.1⟩
theorem SJ {fo fi:av->Dm D} {d:D} {δ:av} {R:av->Store->Prop}:Wp (hSub fo fi d δ st) R↔Wp (fo δ st) fun o st1=>Wp (fi δ st1) fun i st2=>∃ r k xs j,o=.ref r/\i=.int k/\own st2 r=some xs/\mM xs.length k=some j/\R δ (st2.set r (.lst (xs.set j d))):=by
 unfold hSub;rw [dn];simp only [dn]
 constructor <;> refine fun h=>aY h fun o s h=>aY h fun i s2 h=>?_
 ·split at h
  ·split at h
   ·next xs hx =>
    split at h
    ·next j hj=>exact ⟨_,_,xs,j,rfl,rfl,hx,hj,bu.mp h⟩
    ·exact (gb.mp h).elim
   ·exact (gb.mp h).elim
  ·exact (gb.mp h).elim
 ·obtain ⟨r,k,xs,j,rfl,rfl,hx,hj,h⟩:=h
  simp only [hx,hj]
  exact bu.mpr h
theorem SK {a:D} {c:String}:Wp (oQ [a,.ty c] st) Q↔CI st a=some c/\Q (.bl true) st:=by
 constructor
 ·rintro ⟨b,s,e,q⟩
  simp only [oQ] at e
  split at e
  ·next T hT =>
   split at e
   ·next h=>cases e;subst h;exact ⟨hT,q⟩
   ·cases e
  ·cases e
 ·rintro ⟨h,q⟩
  refine ⟨_,_,?_,q⟩
  simp only [oQ,h,if_true]
theorem JC {δ:av} {R:Bool->Store->Prop}:Wp (dw δ st) R↔R true st:=bu
end
theorem FK {α:Type} (x:α) (xs:List α):eE (x :: xs) 0=some x:=by
 unfold eE mM
 rw [if_pos (by decide),if_pos (by simp only [W2];omega)]
 rfl
theorem FL {α:Type} (x y:α) (xs:List α):eE (x :: y :: xs) 1=some y:=by
 unfold eE mM
 rw [if_pos (by decide),if_pos (by simp only [W2];omega)]
 rfl
theorem yT {α:Type} {a:α} {l:List α}:(a :: l)[0]?=some a:=List.getElem?_cons_zero
theorem yU {α:Type} {a:α} {l:List α} {i:Nat}:(a :: l)[i + 1]?=l[i]?:=List.getElem?_cons_succ
theorem yV {α:Type} {a b:α} {l:List α}:(a :: l).set 0 b=b :: l:=List.set_cons_zero
theorem yW {α:Type} {a b:α} {l:List α} {i:Nat}:(a :: l).set (i + 1) b=a :: l.set i b:=List.set_cons_succ
theorem yX {α:Type} (a b:α):(some a=some b)=(a=b):=Option.some.injEq a b
theorem C0 {α:Type} {p:α->Prop} {a':α}:(∃ a,a'=a/\p a)↔p a':=exists_eq_left'
theorem JD {α:Type} {p:α->Prop} {a':α}:(∃ a,a=a'/\p a)↔p a':=exists_eq_left
theorem C1 {α:Type} {p:α->Prop} {b:Prop}:(∃ x,b/\p x)↔b/\∃ x,p x:=exists_and_left
theorem C2 (a b:Int):(D.int a=D.int b)=(a=b):=D.int.injEq a b
theorem JE (a b:Bool):(D.bl a=D.bl b)=(a=b):=D.bl.injEq a b
theorem C3 (a b:Str):(D.str a=D.str b)=(a=b):=D.str.injEq a b
theorem C4 (a b:List D):(D.tup a=D.tup b)=(a=b):=D.tup.injEq a b
theorem C5 (a b:Nat):(D.ref a=D.ref b)=(a=b):=D.ref.injEq a b
theorem yZ {α:Type} (a:α) (l:List α) (b:α) (m:List α):(a :: l=b :: m)=(a=b/\l=m):=List.cons.injEq a l b m
theorem y2 {α β:Type} (a:α) (b:β) (c:α) (d:β):((a,b)=(c,d))=(a=c/\b=d):=Prod.mk.injEq a b c d
theorem y3 (p:Prop):(p/\True)=p:=and_true p
theorem y4 (p:Prop):(True/\p)=p:=true_and p
theorem y6:(!true)=false:=rfl
theorem y8:(!false)=true:=rfl
theorem JF:(false=true)=False:=by simp
theorem C6 {α:Type} {h:Decidable False} (t e:α):@ite α False h t e=e:=if_false t e
theorem C7 {α:Type} {h:Decidable True} (t e:α):@ite α True h t e=t:=if_true t e
def bH:=And.intro @yq (And.intro @Jw (And.intro @CL (And.intro @CM (And.intro @CN (And.intro @yr (And.intro @RM (And.intro @yt (And.intro @yu (And.intro @RN (And.intro @yw (And.intro @yx (And.intro @CO (And.intro @wc (And.intro @RO (And.intro @yy (And.intro @RP (And.intro @RQ (And.intro @RS (And.intro @CP (And.intro @CQ (And.intro @yz (And.intro @yA (And.intro @CT (And.intro @CU (And.intro @CV (And.intro @CW (And.intro @yB (And.intro @yC (And.intro @RT (And.intro @yD (And.intro @yE (And.intro @yF (And.intro @yG (And.intro @yH (And.intro @yI (And.intro @yJ (And.intro @yK (And.intro @RU (And.intro @yL (And.intro @yM (And.intro @RV (And.intro @RW (And.intro @RX (And.intro @RY (And.intro @RZ (And.intro @R0 (And.intro @R1 (And.intro @R3 (And.intro @R4 (And.intro @R8 (And.intro @R9 (And.intro @yP (And.intro @Sb (And.intro @Sd (And.intro @Se (And.intro @uJ (And.intro @Sg (And.intro @Si (And.intro @Sj (And.intro @Sk (And.intro @Sl (And.intro @Sn (And.intro @Sq (And.intro @Sr (And.intro @Ss (And.intro @Sv (And.intro @yQ (And.intro @Sw (And.intro @Sx (And.intro @Nc (And.intro @yR (And.intro @yS (And.intro @Sz (And.intro @SA (And.intro @SD (And.intro @SE (And.intro @SF (And.intro @JB (And.intro @SG (And.intro @SH (And.intro @SI (And.intro @SJ (And.intro @SK (And.intro @JC (And.intro @FK (And.intro @FL (And.intro @yT (And.intro @yU (And.intro @yV (And.intro @yW (And.intro @yX (And.intro @C0 (And.intro @JD (And.intro @C1 (And.intro @C2 (And.intro @JE (And.intro @C3 (And.intro @C4 (And.intro @C5 (And.intro @yZ (And.intro @y2 (And.intro @y3 (And.intro @y4 (And.intro @y6 (And.intro @y8 (And.intro @JF (And.intro @C6 (@C7))))))))))))))))))))))))))))))))))))))))))))))))))))))))))))))))))))))))))))))))))))))))))))))))))))))))))))
theorem b9 {α:Type} {m:Option (α×Store)} {Q:α->Store->Prop} (h:∀ Q':α->Store->Prop,(∀ a st,Q a st->Q' a st)->Wp m Q'):Wp m Q:=h Q fun _ _ h=>h
section
variable {X:Cx} {K:Zfr}
theorem Nf:∀ {ns:List Int},(∀ i∈ns,Iy i)->PyData.weightAll (cV ns)<=65 * ns.length
 | [],_=>by show PyData.weightAll []<=0;simp only [PyData.weightAll];exact Wy _
 | n :: r,h=>by
  have ih:=Nf (ns:=r) fun i hi=>h i (WK _ hi)
  have hn:=h n WA
  have hw:(PyData.int n).weight<=64:=by
   simp only [PyData.weight]
   split
   ·omega
   ·have:n.natAbs < 2 ^ 63:=by unfold Iy at hn;omega
    have h2:n.natAbs.log2 < 63:=by
     by_cases h0:n.natAbs=0
     ·rw [h0];decide
     ·exact (Nat.log2_lt h0).mpr this
    omega
  show PyData.weightAll (PyData.int n :: cV r)<=65 * (r.length + 1)
  simp only [PyData.weightAll]
  omega
def oR (K:Zfr):V->List V->Hp->VK->Prop:=fun x vs H Q=>∃ (a:Addr) (ns:List Int) (v:Int),x=.ref a/\vs=[.int v]/\jy K H a (ns.map V.int)/\v∈ns/\ns.length<=1000/\(∀ i∈ns,Iy i)/\Q (.int (ns.idxOf v:Int)) H
theorem SM:vd X "list.index" (oR X.K):=by
 intro pins s σ H x xs v us Q I rx rv h
 obtain ⟨a,ns,y,rfl,rfl,hq,hm,hl,hb,q⟩:=h
 cases rx
 obtain ⟨u,rfl,t,rfl⟩:=vals1 rv
 obtain ⟨its,r,pl,hz⟩:=I.list hq
 exact PyProof.Rows.index_list_ints (vs:=its) pl.isList (Lf r) (by
  have hw:=Nf hb
  have c1:(PyData.list (List.map PyData.int ns)).canLay0=true:=xI ns
  have c2:(PyData.list (List.map PyData.int ns)).depth<=64:=by show PyData.depthAll (cV ns) + 1<=64;rw [Ad];omega
  have c3:(PyData.list (List.map PyData.int ns)).weight<=2 ^ 20:=by simp only [PyData.weight];exact WO hw (by omega)
  show (_ && _ && _)=true
  rw [c1,decide_eq_true c2,decide_eq_true c3];rfl) hm ⟨.int _,H,I.tok _,⟨_,rfl⟩,q⟩
theorem SN (hK:X.K=K):vd X "list.index" (oR K):=by subst hK;exact SM
theorem SO:vQ K "list" (oR K) ki:=by
 intro ρ H st x xs a as b st' Q l rx sD e q
 unfold ki at e
 split at e
 ·split at e
  ·next ns hn =>
   split at e
   ·next hm =>
    cases e
    obtain ⟨v,rfl,r⟩:=sD.one'
    cases r
    cases rx with
    | ref hi =>
     obtain ⟨ds,h1,h2⟩:=Xl.mp hn
     obtain ⟨vs,s,r⟩:=l.items hi h1
     cases FI r h2
     exact ⟨_,ns,_,rfl,rfl,s,hm.1,hm.2.1,hm.2.2,q _ H ρ .refl l (.int _)⟩
   ·cases e
  ·cases e
 ·cases e
end
section
variable {st:Store} {Q:D->Store->Prop}
theorem Ng (n:Nat) (L:List Int):cn (fS st (n + 1)) (L.map D.int)=some (cV L):=vW (f:=fS st (n + 1)) (g:=D.int) (k:=PyData.int) (fun _=>by simp only [fS]) L
theorem JG (a b:List PyData):PyData.eqv (.list a) (.list b)=PyData.eqvAll a b:=by simp only [PyData.eqv]
theorem FN (a b:List PyData):PyData.eqv (.tuple a) (.tuple b)=PyData.eqvAll a b:=by simp only [PyData.eqv]
theorem Nh {neg:Bool} {a b:Nat} {L M:List Int} (ha:items st a=some (L.map D.int)) (hb:items st b=some (M.map D.int)):Wp (iH neg (.ref a) (.ref b) st) Q↔Q (.bl (if neg then !decide (L=M) else decide (L=M))) st:=by
 have p1:∀ (i:Nat) (N:List Int),items st i=some (N.map D.int)->fS st 20 (.ref i)=some (.list (cV N)):=fun i N h=>by
  simp only [fS,h]
  rw [Ng];rfl
 have dp:∀ N:List Int,PyData.depth (.list (cV N))<=1:=fun N=>by show PyData.depthAll (cV N) + 1<=1;rw [Ad];omega
 rw [JA]
 constructor
 ·rintro ⟨p,q,h1,h2,_,h⟩
  rw [p1 a L ha] at h1
  rw [p1 b M hb] at h2
  cases h1
  cases h2
  rw [JG,BO] at h
  exact h
 ·intro h
  refine ⟨_,_,p1 a L ha,p1 b M hb,⟨xI L,xI M,by have:=dp L;omega⟩,?_⟩
  rw [JG,BO]
  exact h
def C8 (rs:List (List Int)):D:=.tup (rs.map fun r=>.tup (r.map D.int))
theorem JH (rs:List (List Int)):fS st 20 (C8 rs)=some (.tuple (rs.map kT)):=by
 unfold C8
 simp only [fS]
 rw [vW (f:=fS st 19) (g:=fun r:List Int=>D.tup (r.map D.int)) (k:=kT) (fun r=>by simp only [fS];rw [Ng];rfl) rs]
 rfl
theorem JI:∀ (rs ss:List (List Int)),PyData.eqvAll (rs.map kT) (ss.map kT)=decide (rs=ss)
 | [],[]=>rfl
 | [],_ :: _=>rfl
 | _ :: _,[]=>rfl
 | r :: rs,s :: ss=>by
  show (PyData.eqv (kT r) (kT s) && PyData.eqvAll (rs.map kT) (ss.map kT))=decide (r :: rs=s :: ss)
  rw [JI rs ss]
  unfold kT
  rw [FN,BO]
  by_cases h:r=s
  ·subst h;simp
  ·simp [h]
theorem SQ {neg:Bool} {rs ss:List (List Int)}:Wp (iH neg (C8 rs) (C8 ss) st) Q↔Q (.bl (if neg then !decide (rs=ss) else decide (rs=ss))) st:=by
 have dp:∀ rs:List (List Int),PyData.depth (.tuple (rs.map kT))<=2:=fun N=>by show PyData.depthAll (N.map kT) + 1<=2;have:=LM N;omega
 rw [JA]
 constructor
 ·rintro ⟨p,q,h1,h2,_,h⟩
  rw [JH] at h1 h2
  cases h1
  cases h2
  rw [FN,JI] at h
  exact h
 ·intro h
  refine ⟨_,_,JH rs,JH ss,⟨Iw rs,Iw ss,by have:=dp rs;omega⟩,?_⟩
  rw [FN,JI]
  exact h
end
def bN (st:Store) (f:Nat):Prop:=∃ o m:Int,st[f]?=some (.lst [.int o,.int m])/\0<=o/\0<=m/\m < 4294967296
theorem C9:mM 2 0=some 0:=by decide
theorem Dc:mM 2 1=some 1:=by decide
theorem qW (n:Nat):aH 0 n=(af.upto n).map D.int:=by
 unfold aH af.upto
 rw [W4]
 apply Xc
 intro i _
 simp
theorem SR (L:List Int) (j:Nat):(L.map D.int).eraseIdx j=(L.eraseIdx j).map D.int:=by
 induction L generalizing j with
 | nil=>rfl
 | cons a r ih =>
  cases j with
  | zero=>rfl
  | succ j=>show D.int a :: (r.map D.int).eraseIdx j=_;rw [ih];rfl
theorem SS {L:List Int} {j:Nat} (h:j < L.length):(L[j] :: L.eraseIdx j).Perm L:=by
 induction L generalizing j with
 | nil=>exact absurd h (Xh _)
 | cons a r ih =>
  cases j with
  | zero=>exact List.Perm.refl _
  | succ j =>
   have:=ih (j:=j) (by simpa using h)
   exact (List.Perm.swap _ _ _).trans (this.cons a)
theorem bN.keep {st st':Store} {f:Nat} (h:bN st f) (e:Ex [] st st'):bN st' f:=by
 obtain ⟨o,m,e1,r⟩:=h
 exact ⟨o,m,e.keep _ _ e1 (by simp),r⟩
theorem bN.ne {st:Store} {f i:Nat} {o:O} (h:bN st f) (hi:i≠f):bN (st.set i o) f:=by
 obtain ⟨x,m,e1,r⟩:=h
 exact ⟨x,m,by rw [WE hi];exact e1,r⟩
theorem bN.lt {st:Store} {f:Nat} (h:bN st f):f < st.length:=let ⟨_,_,e,_⟩:=h;eU e
theorem qX {xs:List Int} {i:Int} (h0:0<=i) (h1:i < (xs.length:Int)):eE (xs.map D.int) i=some (.int (af.app xs i)):=by
 have e:(xs.map D.int)[i.toNat]?=some (.int (af.app xs i)):=by rw [WB,af.pq h0 h1];rfl
 have:=zZ e
 rwa [W3 h0] at this
theorem Dd {xs:List Int} {i:Nat} {d:D} (h:(xs.map D.int)[i]?=some d):∃ x,xs[i]?=some x/\d=.int x:=by
 rw [WB] at h
 obtain ⟨x,h1,h2⟩:=WZ.mp h
 exact ⟨x,h1,h2.symm⟩
theorem JJ (x:Int):∀ (ns:List Int),vg (.int x) (ns.map V.int)=ns.contains x
 | []=>rfl
 | n :: r=>by
  have e:=JJ x r
  unfold vg at e ⊢
  rw [WY,Xr,e,List.contains_cons]
  congr 1
  show (n == x)=(x == n)
  exact Bool.beq_comm
theorem FO {st:Store} {Q:D->Store->Prop} {neg:Bool} {x:Int} {c:D} {ns:List Int} (hc:cL st c=some (ns.map D.int)):Wp (rn neg (.int x) c st) Q↔Q (.bl (if neg then !ns.contains x else ns.contains x)) st:=by
 rw [CZ]
 constructor
 ·rintro ⟨v,ds,vs,h1,h2,h3,h⟩
  cases h1
  rw [hc] at h2
  cases h2
  rw [Nd] at h3
  cases h3
  rw [JJ] at h
  exact h
 ·intro h
  refine ⟨_,_,_,rfl,hc,Nd ns,?_⟩
  rw [JJ]
  exact h
def bX (xs ys:List Int):D:=.tup [.tup (xs.map D.int),.tup (ys.map D.int)]
structure oS (lW st:Store) (f r u:Nat) (n:Nat) (X Y:List Int):Prop where
 hr:st[r]?=some (.lst (X.map D.int))
 hu:st[u]?=some (.lst (Y.map D.int))
 ne:r≠u
 r0:lW.length<=r
 u0:lW.length<=u
 tX:af.Tn n X
 tY:af.Tn n Y
 fd:bN st f
 ex:Ex [f] lW st
section
variable {lW st st':Store} {f r u n:Nat} {X Y Z:List Int} {o:O}
theorem oS.keep (h:oS lW st f r u n X Y) (e:Ex [] st st'):oS lW st' f r u n X Y:=⟨e.keep _ _ h.hr (by simp),e.keep _ _ h.hu (by simp),h.ne,h.r0,h.u0,h.tX,h.tY,h.fd.keep e,h.ex.trans e.any⟩
theorem oS.y9 (h:oS lW st f r u n X Y) (t:af.Tn n Z):oS lW (st ++ [.lst (Z.map D.int)]) f st.length u n Z Y:=⟨jK,kX h.hu,by have:=eU h.hu;omega,h.ex.len,h.u0,t,h.tY,h.fd.keep (Ex.cH _),h.ex.app _⟩
theorem oS.za (h:oS lW st f r u n X Y) (t:af.Tn n Z):oS lW (st ++ [.lst (Z.map D.int)]) f r st.length n X Z:=⟨kX h.hr,jK,by have:=eU h.hr;omega,h.r0,h.ex.len,h.tX,t,h.fd.keep (Ex.cH _),h.ex.app _⟩
theorem oS.put (h:oS lW st f r u n X Y) (t:af.Tn n Z) (hf:f < lW.length):oS lW (st.set r (.lst (Z.map D.int))) f r u n Z Y:=⟨WC (eU h.hr),by rw [WE h.ne];exact h.hu,h.ne,h.r0,h.u0,t,h.tY,h.fd.ne (by have:=h.r0;omega),h.ex.loc h.r0⟩
end
theorem Ni (n:Nat):(af.qu n).map D.int=aH 1 ((n:Int) - 1).toNat ++ [.int 0]:=by
 unfold af.qu aH
 rw [WS,W4,show ((n:Int) - 1).toNat=n - 1 by omega]
 rfl
theorem uK {lo hi:Int} (h:0<=lo/\lo<=10000/\0<=hi/\hi<=10000):qV lo hi=true:=by
 unfold qV;rw [WW,decide_eq_true_eq];exact ⟨by omega,jL (by omega)⟩
theorem zb (w n:Nat):(af.si w n).map D.int=aH 1 ((w:Int) - 1).toNat ++ [.int 0] ++ aH (w:Int) ((n:Int) - (w:Int)).toNat:=by
 unfold af.si aH
 rw [WS,WS,W4,W4,show ((w:Int) - 1).toNat=w - 1 by omega,show ((n:Int) - (w:Int)).toNat=n - w by omega]
 rfl
theorem SU (xs:List D) (j:Nat):cutD xs none (some (j:Int))=xs.take j:=by
 unfold cutD
 rw [HT.O3,HT.O4,List.drop_zero,Nat.sub_zero,List.take_eq_take_iff];omega
theorem zc {w n:Nat} (h0:0 < w) (h:w < n):(af.ux w n).map D.int=cutD ([D.int (w:Int)] ++ aH 1 ((w:Int) - 1).toNat ++ aH ((w:Int) + 1) ((n:Int) - ((w:Int) + 1)).toNat ++ [.int 0]) none (some (n:Int)):=by
 rw [SU,List.take_of_length_le (by simp [gu];omega)]
 unfold af.ux aH
 rw [WS,WS,WS,W4,W4,show ((w:Int) - 1).toNat=w - 1 by omega,show ((n:Int) - ((w:Int) + 1)).toNat=n - (w + 1) by omega]
 rfl
def nL (n:Nat) (xs ys:List Int):Prop:=af.Tn n xs/\af.Tn n ys/\∀ x:Int,0<=x->x < (n:Int)->af.jI xs ys x
theorem Nj {xs:List Int} {v:Int} (h:v∈xs):xs.findIdx? (fun i=>decide (i=v))=some (xs.idxOf v):=by
 induction xs with
 | nil=>exact nomatch h
 | cons a r ih =>
  rw [List.findIdx?_cons]
  by_cases e:a=v
  ·subst e;simp
  ·have hm:v∈r:=by
    rcases W0.mp h with h | h
    ·exact absurd h.symm e
    ·exact h
   rw [decide_eq_false e,ih hm,List.idxOf_cons,show (a == v)=false by simpa using e]
   rfl
def sM (S:Src) (ds:List D) (st:Store):Prop:=∀ (i:Nat) (st2:Store),i<=ds.length->Ex [] st st2->S.at i st2=some ds[i]?
theorem SV {st st':Store} {r:Nat} {ds:List D} (h:items st r=some ds) (e:Ex [] st st'):items st' r=some ds:=by
 unfold items at h ⊢
 cases hx:st[r]? with
 | none=>rw [hx] at h;cases h
 | some o=>rw [e.keep _ _ hx (by simp)];rw [hx] at h;exact h
theorem sN (ds:List D) (st:Store):sM (.fix ds) ds st:=fun i st2 hi _=>by
 show (if i<=ds.length then some ds[i]? else none)=_
 rw [if_pos hi]
theorem SW {ds:List D} {st:Store} {r:Nat} (h:items st r=some ds):sM (.live r) ds st:=fun i st2 hi e=>by
 show (items st2 r).map _=_
 rw [SV h e];rfl
theorem sO {δ:av} {st:Store} {fi:av->Dm Src} {js:List Nat} {f:av->Dm D} {Q:D->Store->Prop} (ds:List D) (h:D->D) (hi:Wp (fi δ st) fun S st1=>sM S ds st1/\Ex [] st st1) (hl:ds.length < 100000)
  (step:∀ d∈ds,∀ st1,Ex [] st st1->Wp (f (some d :: js.map fun j=>δ.getD j none) st1) fun y st2=>y=h d/\Ex [] st1 st2) (fin:∀ st',Ex [] st st'->Q (.ref st'.length) (st' ++ [.lst (ds.map h)])):Wp (c5 fi 1 js (hName 0) dw f δ st) Q:=by
 obtain ⟨S,st1,e1,hS,k1⟩:=hi
 refine Jx ds (fun i ys δ' mh=>(∃ v,δ'=v :: js.map fun j=>δ.getD j none)/\ys=(ds.take i).map h/\Ex [] st1 mh) ⟨S,st1,e1,fun i ys δ' mh hi' hp=>hS i mh hi' hp.2.2,⟨none,rfl⟩,rfl,Ex.refl⟩ hl ?_ ?_ ?_
 ·rintro i ys δ' mh ⟨_,rfl,_⟩
  rw [Wv,List.length_take];omega
 ·rintro i d ys δ' mh hd ⟨⟨v,rfl⟩,rfl,k8⟩
  rw [JB]
  show Wp (dw _ _) _
  rw [JC]
  refine ⟨fun _=>?_,fun h=>absurd h (by decide)⟩
  refine aY (step d (WG hd) mh (k1.trans k8)) ?_
  rintro y pV ⟨rfl,k9⟩
  refine ⟨⟨some d,rfl⟩,?_,k8.trans k9⟩
  obtain ⟨hlt,e⟩:=Ww.mp hd
  rw [W6 hlt,WS,e];rfl
 ·rintro ys δ' mh ⟨_,rfl,k8⟩
  rw [Xq]
  exact fin mh (k1.trans k8)
theorem wk {xs:List Int} {d:D} (h:d∈xs.map D.int):∃ x∈xs,d=.int x:=by
 obtain ⟨x,hx,rfl⟩:=WR.mp h
 exact ⟨x,hx,rfl⟩
theorem Az {xs:List Int} {f:Int->Int} {h:D->D} (e:∀ x∈xs,h (.int x)=.int (f x)):(xs.map D.int).map h=(xs.map f).map D.int:=by
 rw [W4,W4]
 exact Xc fun x hx=>e x hx
def inD:D->Int
 | .int i=>i
 | _=>0
section
variable {st:Store} {Q:D->Store->Prop}
theorem JK {neg:Bool} {xs ys zs ws:List Int}:Wp (iH neg (bX xs ys) (bX zs ws) st) Q↔Q (.bl (if neg then !decide ([xs,ys]=[zs,ws]) else decide ([xs,ys]=[zs,ws]))) st:=SQ (rs:=[xs,ys]) (ss:=[zs,ws])
end
theorem Nk (zs:List Int):(zs.map D.int).map inD=zs:=by rw [W4];exact List.map_id zs
theorem _root_.af.uL {n:Nat} {xs ys p:List Int} (fl:nL n xs ys) (tp:af.Tn n p) (n0:0 < n):nL n (af.anew xs p) (af.anew ys p):=by
 obtain ⟨tx,ty,all⟩:=fl
 have tX:=tx.anew tp
 have tY:=ty.anew tp
 refine ⟨tX,tY,fun x x0 x1=>?_⟩
 obtain ⟨a0,a1⟩:=tp.app (i:=0) (by decide) (by omega)
 have hb:∀ y:Int,0<=y->y < (n:Int)->y∈af.bf (af.anew xs p) (af.anew ys p) (af.app p 0) n:=fun y y0 y1=>by
  rw [af.IU tx ty tp (by decide) (by omega) n]
  obtain ⟨b0,b1⟩:=tp.m8 y0 y1
  exact WR.mpr ⟨af.app (af.inv p) y,af.Ml tx ty (by decide) (by omega) all b0 b1,tp.cS y0 y1⟩
 have hF:=af.IQ tX tY (s:=0) (by decide) (by omega)
 have nd:=af.xW (af.anew xs p) (af.anew ys p) 0 n
 have bd:=af.qP tX tY (s:=0) (by decide) (by omega) n
 have SX:∀ k,∀ y∈af.bf (af.anew xs p) (af.anew ys p) 0 k,af.jI (af.anew xs p) (af.anew ys p) y:=by
  intro k
  induction k with
  | zero=>intro y hy;rw [WQ.mp (show y∈[(0:Int)] from hy)];exact .zero
  | succ k ih =>
   intro y hy
   have hy':y∈(match (af.bf (af.anew xs p) (af.anew ys p) 0 k)[k]? with | some x=>af.visit (af.anew xs p) (af.anew ys p) (af.bf (af.anew xs p) (af.anew ys p) 0 k) x | none=>af.bf (af.anew xs p) (af.anew ys p) 0 k):=hy
   split at hy'
   ·next z hz =>
    have vL:=ih z (WG hz)
    rcases af.qw.mp hy' with hy' | rfl
    ·rcases af.qw.mp hy' with hy' | rfl
     ·exact ih y hy'
     ·exact vL.r
    ·exact vL.u
   ·exact ih y hy'
 refine SX n x ?_
 have z0:(0:Int)∈af.bf (af.anew xs p) (af.anew ys p) 0 n:=by
  have:=af.Am (af.anew xs p) (af.anew ys p) 0 0 n
  rw [Nat.zero_add] at this
  exact this.subset (show (0:Int)∈[(0:Int)] by simp)
 have back:∀ k,(∃ y∈af.bf (af.anew xs p) (af.anew ys p) (af.app p 0) k,y∈af.bf (af.anew xs p) (af.anew ys p) 0 n)->af.app p 0∈af.bf (af.anew xs p) (af.anew ys p) 0 n:=by
  intro k
  induction k with
  | zero =>
   rintro ⟨y,hy,um⟩
   rw [WQ.mp (show y∈[af.app p 0] from hy)] at um
   exact um
  | succ k ih =>
   rintro ⟨y,hy,um⟩
   have hy':y∈(match (af.bf (af.anew xs p) (af.anew ys p) (af.app p 0) k)[k]? with | some x=>af.visit (af.anew xs p) (af.anew ys p) (af.bf (af.anew xs p) (af.anew ys p) (af.app p 0) k) x | none=>af.bf (af.anew xs p) (af.anew ys p) (af.app p 0) k):=hy
   split at hy'
   ·next z hz =>
    have An:=WG hz
    obtain ⟨c0,c1⟩:=af.qP tX tY a0 a1 k z An
    rcases af.qw.mp hy' with hy' | rfl
    ·rcases af.qw.mp hy' with hy' | rfl
     ·exact ih ⟨y,hy',um⟩
     ·exact ih ⟨z,An,af.Cc tX nd bd (fun x hx=>(hF x hx).1) c0 c1 um⟩
    ·exact ih ⟨z,An,af.Cc tY nd bd (fun x hx=>(hF x hx).2) c0 c1 um⟩
   ·exact ih ⟨y,hy',um⟩
 have hp0:=back n ⟨0,hb 0 (by decide) (by omega),z0⟩
 have fwd:∀ k,∀ y∈af.bf (af.anew xs p) (af.anew ys p) (af.app p 0) k,y∈af.bf (af.anew xs p) (af.anew ys p) 0 n:=by
  intro k
  induction k with
  | zero=>intro y hy;rw [WQ.mp (show y∈[af.app p 0] from hy)];exact hp0
  | succ k ih =>
   intro y hy
   have hy':y∈(match (af.bf (af.anew xs p) (af.anew ys p) (af.app p 0) k)[k]? with | some x=>af.visit (af.anew xs p) (af.anew ys p) (af.bf (af.anew xs p) (af.anew ys p) (af.app p 0) k) x | none=>af.bf (af.anew xs p) (af.anew ys p) (af.app p 0) k):=hy
   split at hy'
   ·next z hz =>
    have vL:=ih z (WG hz)
    rcases af.qw.mp hy' with hy' | rfl
    ·rcases af.qw.mp hy' with hy' | rfl
     ·exact ih y hy'
     ·exact (hF z vL).1
    ·exact (hF z vL).2
   ·exact ih y hy'
 exact fwd n x (hb x x0 x1)
theorem zd (p:Key×D) (r:List (Key×D)) (k:Key):dM (p :: r) k=if p.1=k then some p.2 else dM r k:=by
 unfold dM
 rw [Xt]
 by_cases e:p.1=k
 ·rw [decide_eq_true e,if_pos e];rfl
 ·rw [decide_eq_false e,if_neg e]
theorem SY (kvs:List (Key×D)) (k j:Key) (y:D):dM (putD kvs k y) j=if j=k then some y else dM kvs j:=by
 unfold putD
 by_cases a:(kvs.any fun kv=>decide (kv.1=k))=true
 ·rw [if_pos a]
  induction kvs with
  | nil=>simp at a
  | cons p r ih =>
   rw [WY,zd,zd]
   by_cases e:p.1=k
   ·rw [if_pos e]
    by_cases ej:j=k
    ·rw [if_pos ej,if_pos (show (p.1,y).1=j from e.trans ej.symm)]
    ·rw [if_neg ej,if_neg (show ¬ (p.1,y).1=j from fun z=>ej (z.symm.trans e)),if_neg (fun z=>ej (z.symm.trans e))]
     have:∀ l:List (Key×D),dM (l.map fun kv=>if kv.1=k then (kv.1,y) else kv) j=dM l j:=by
      intro l
      induction l with
      | nil=>rfl
      | cons q l ihl =>
       rw [WY,zd,zd,ihl]
       by_cases eq:q.1=k
       ·rw [if_pos eq,if_neg (show ¬ (q.1,y).1=j from fun z=>ej (z.symm.trans eq)),if_neg (fun z=>ej (z.symm.trans eq))]
       ·rw [if_neg eq]
     exact this r
   ·rw [if_neg e]
    have a':(r.any fun kv=>decide (kv.1=k))=true:=by
     rw [Xr,decide_eq_false e,Bool.false_or] at a
     exact a
    rw [ih a']
    by_cases ej:j=k
    ·rw [if_pos ej,if_neg (fun z=>e (z.trans ej)),if_pos ej]
    ·rw [if_neg ej,if_neg ej]
 ·rw [if_neg a]
  induction kvs with
  | nil =>
   show dM [(k,y)] j=_
   rw [zd]
   by_cases ej:j=k
   ·rw [if_pos ej.symm,if_pos ej]
   ·rw [if_neg (fun z=>ej z.symm),if_neg ej]
  | cons p r ih =>
   have a':¬ (r.any fun kv=>decide (kv.1=k))=true:=fun z=>a (by rw [Xr,z,Bool.or_true])
   have ep:p.1≠k:=fun z=>a (by rw [Xr,decide_eq_true z,Bool.true_or])
   rw [List.cons_append,zd,ih a',zd]
   by_cases ej:j=k
   ·rw [if_pos ej,if_pos ej,if_neg (fun z=>ep (z.trans ej))]
   ·rw [if_neg ej,if_neg ej]
theorem S0 (kvs:List (Key×D)) (k:Key) (v:D):(putD kvs k v).length<=kvs.length + 1:=by
 unfold putD
 split
 ·rw [Wv];omega
 ·rw [Wz,W2,List.length_nil];omega
theorem Nl {st:Store} {i:Nat} {kvs:List (Key×D)} (h:st[i]?=some (.dct kvs)):jU st (.ref i)=some kvs:=by simp only [jU,h]
theorem Nm (i:Int):keyOf (.int i)=some (.inl i):=rfl
theorem S1 {r:List Int} {j:Nat} (h:j < r.length) (x:Int):(r.take (j + 1)).contains x=((r.take j).contains x || x == r[j]):=by
 rw [W6 h,List.contains_append]
 congr 1
 show ([r[j]]:List Int).contains x=(x == r[j])
 rw [List.contains_cons,List.contains_nil,Bool.or_false]
abbrev df:=Bool×Int
def bp (s:df):D:=.tup [.str (if s.1 then "s" else "t"),.int s.2]
section
variable {X:Cx} {K:Zfr}
end
section
variable {K:Zfr}
def qY (neg:Bool):D->D->Dm D
 | .bl a,.bl b,st=>some (.bl (if neg then !decide (a=b) else decide (a=b)),st)
 | _,_,_=>none
def De (neg:Bool):R2:=fun x y H Q=>∃ a b,x=.bl a/\y=.bl b/\Q (.bl (if neg then !decide (a=b) else decide (a=b))) H
theorem ze (neg:Bool):mP K (De neg) (qY neg):=by
 intro ρ H st x y a c b st' Q l rx ry e q
 unfold qY at e
 split at e
 ·cases e
  cases rx
  cases ry
  exact ⟨_,_,rfl,rfl,q _ H ρ .refl l (.bl _)⟩
 ·cases e
def sP (neg:Bool):D->D->Dm D
 | a,.non,st=>some (.bl (match a with | .non=>!neg | _=>neg),st)
 | _,_,_=>none
def wm (neg:Bool):R2:=fun x y H Q=>y=.non/\Q (.bl (if neg then !decide (x=.non) else decide (x=.non))) H
theorem zf (neg:Bool):mP K (wm neg) (sP neg):=by
 intro ρ H st x y a c b st' Q l rx ry e q
 unfold sP at e
 split at e
 ·cases e
  cases ry
  refine ⟨rfl,?_⟩
  have k:=q _ H ρ .refl l (.bl _)
  cases rx <;> cases neg <;> exact k
 ·cases e
def sQ:List D->Dm D
 | [.int i],st=>some (.int (if i < 0 then -i else i),st)
 | _,_=>none
theorem zg:qR K (fun xs H Q=>∃ i,xs=[V.int i]/\Q (.int (if i < 0 then -i else i)) H) sQ:=by
 intro ρ H st xs as b st' Q l rx e q
 unfold sQ at e
 split at e
 ·cases e
  obtain ⟨v,rfl,r⟩:=rx.one'
  cases r
  exact ⟨_,rfl,q _ H ρ .refl l (.int _)⟩
 ·cases e
end
section
variable {X:Cx}
theorem S2:kR X (compareOp .IsNot) (De true):=by
 intro pins s σ H x y v u Q I rx ry h
 obtain ⟨a,b,rfl,rfl,q⟩:=h
 cases rx
 cases ry
 exact PyProof.Rows.isnot_bool (kP I q (by cases a <;> cases b <;> rfl))
theorem S3:kR X (compareOp .Is) (wm false):=xq
end
theorem at2 {α:Type} (x y z:α) (xs:List α):eE (x :: y :: z :: xs) 2=some z:=by
 unfold eE mM
 rw [if_pos (by decide),if_pos (by simp only [W2];omega)]
 rfl
theorem Nn {α:Type} (x y z u:α) (xs:List α):eE (x :: y :: z :: u :: xs) 3=some u:=by
 unfold eE mM
 rw [if_pos (by decide),if_pos (by simp only [W2];omega)]
 rfl
section
variable {st:Store} {Q:D->Store->Prop}
theorem zh {neg a b:Bool}:Wp (qY neg (.bl a) (.bl b) st) Q↔Q (.bl (if neg then !decide (a=b) else decide (a=b))) st:=bu
theorem S4 {neg:Bool}:Wp (sP neg .non .non st) Q↔Q (.bl (!neg)) st:=bu
theorem S5 {neg:Bool} {i:List D}:Wp (sP neg (.tup i) .non st) Q↔Q (.bl neg) st:=bu
theorem zi {i:Int}:Wp (sQ [.int i] st) Q↔Q (.int (if i < 0 then -i else i)) st:=bu
theorem zj {neg a b:Bool}:Wp (jE neg (.bl a) (.bl b) st) Q↔Q (.bl (if neg then !decide (a=b) else decide (a=b))) st:=by
 have e:decide (V.bl a=V.bl b)=decide (a=b):=by
  by_cases h:a=b
  ·subst h;simp
  ·simp [h]
 show Wp (if oH (V.bl a) (V.bl b)=true then some (D.bl (if neg then !decide (V.bl a=V.bl b) else decide (V.bl a=V.bl b)),st) else none) Q↔_
 rw [if_pos (show oH _ _=true from rfl),bu,e]
end
theorem S6 {δ:av} {st:Store} {fi:av->Dm Src} {js:List Nat} {f:av->Dm D} {Q:D->Store->Prop} (ds:List D) (P:Nat->D->Prop) (I:Store->Prop)
  (hi:Wp (fi δ st) fun S st1=>(∀ i st2,i<=ds.length->I st2->S.at i st2=some ds[i]?)/\I st1) (hl:ds.length < 100000)
  (step:∀ i d,ds[i]?=some d->∀ st1,I st1->Wp (f (some d :: js.map fun j=>δ.getD j none) st1) fun y st2=>P i y/\I st2)
  (fin:∀ ys st',I st'->ys.length=ds.length->(∀ i y,ys[i]?=some y->P i y)->Q (.ref st'.length) (st' ++ [.lst ys])):Wp (c5 fi 1 js (hName 0) dw f δ st) Q:=by
 obtain ⟨S,st1,e1,hS,k1⟩:=hi
 refine Jx ds (fun i ys δ' mh=>(∃ v,δ'=v :: js.map fun j=>δ.getD j none)/\ys.length=i/\(∀ i y,ys[i]?=some y->P i y)/\I mh) ⟨S,st1,e1,fun i ys δ' mh hi' hp=>hS i mh hi' hp.2.2.2,⟨none,rfl⟩,rfl,(fun i y h=>by simp at h),k1⟩ hl ?_ ?_ ?_
 ·rintro i ys δ' mh ⟨_,h,_⟩
  omega
 ·rintro i d ys δ' mh hd ⟨⟨v,rfl⟩,hlen,hP,k8⟩
  rw [JB]
  show Wp (dw _ _) _
  rw [JC]
  refine ⟨fun _=>?_,fun h=>absurd h (by decide)⟩
  refine aY (step i d hd mh k8) ?_
  rintro y pV ⟨hp,k9⟩
  refine ⟨⟨some d,rfl⟩,by rw [Wz,hlen];rfl,fun j z hz=>?_,k9⟩
  by_cases hj:j < ys.length
  ·rw [WI hj] at hz;exact hP j z hz
  ·have hb:=eU hz
   rw [Wz,Xy] at hb
   have e:j=ys.length:=by omega
   subst e
   rw [WT (Wy _),Xv] at hz
   cases hz
   rw [hlen];exact hp
 ·rintro ys δ' mh ⟨_,hlen,hP,k8⟩
  exact fin ys mh k8 hlen hP
def qZ (x:Str):List D:=x.cps.toList.map fun c=>.str ⟨#[c]⟩
section
variable {K:Zfr}
end
section
variable {st:Store} {Q:D->Store->Prop}
end
section
variable {K:Zfr}
end
section
variable {st:Store}
end
section
variable {X:Cx} {K:Zfr}
end
structure ph (K:Zfr) (mg:Str->Option Value) (x:Str) (v:V) (d:D):Prop where
 ex:∃ u,mg x=some u/\RelV v u
 rp:∀ (ρ:List Addr) (H:Hp),Rp K ρ H v d
theorem Df {X:Cx} {K:Zfr} {mg:Str->Option Value} {x:Str} {v:V} {d:D} {pos:Pos} (C:ph K mg x v d) (hg:Gl X x) (hX:X.mg=mg) (hd:(x == ("__debug__" : Str))=false):PE X (.Name x pos) (tC v):=by
 obtain ⟨u,h,r⟩:=C.ex
 subst hX
 exact OO hg h r hd
theorem Dg {K:Zfr} {mg:Str->Option Value} {x:Str} {v:V} {d:D} (C:ph K mg x v d):gs K (tC v) (fC d):=sv C.rp
theorem FP {K:Zfr} {h:Heap} {mg:Str->Option Value} (X:K.In h) (G:h.Ns mainGlobals mg) {x:Str} {a:Addr} {od:Option Addr} {its:Array Value} {n:Nat} {sl:Array (Option Value)} {vs:List V} {ds:List D} (e:PySem.W.nsIn K mainGlobals x=some (some (.ref a))) (l:K.lookup a=some ⟨.type "tuple",od,.seq its n,sl⟩)
  (ho:od=none) (hz:its.size<=sizeLine) (hv:Vals vs its.toList) (hd:∀ (ρ:List Addr) (H:Hp),cG K ρ H vs ds):∃ v,ph K mg x v (.tup ds) :=
 ⟨.ref a,⟨_,PySem.W.mg_of X G e,rfl⟩,fun ρ H=>.tup (.inr ⟨_,its,n,l,rfl,ho,rfl,hz,hv⟩) (hd ρ H)⟩
def pU:Nat->D->Prop
 | _,.int _=>True
 | _,.str x=>PyData.canLay0 (.str x)=true
 | _,.non=>True
 | n + 1,.tup ds=>∀ d∈ds,pU n d
 | _,_=>False
def jG:Nat->D->PyData
 | _,.int i=>.int i
 | _,.str x=>.str x
 | n + 1,.tup ds=>.tuple (ds.map (jG n))
 | _,_=>.none
theorem Dh {α β:Type} {f:α->Option β} {g:α->β}:∀ {l:List α},(∀ x∈l,f x=some (g x))->cn f l=some (l.map g)
 | [],_=>rfl
 | a :: r,h=>by
  have h1:=h a WA
  have h2:=Dh (f:=f) (g:=g) (l:=r) fun x hx=>h x (WK _ hx)
  simp only [cn,h1,h2,WY]
theorem AA:∀ (n:Nat) (d:D),pU n d->∀ (m:Nat),n < m->∀ st,fS st m d=some (jG n d)
 | n,.int i,_,m + 1,_,st=>by cases n <;> rfl
 | n,.str x,_,m + 1,_,st=>by cases n <;> rfl
 | n,.non,_,m + 1,_,st=>by cases n <;> rfl
 | n,.bl b,h,_,_,_=>by cases n <;> exact h.elim
 | n,.ty b,h,_,_,_=>by cases n <;> exact h.elim
 | n,.ref b,h,_,_,_=>by cases n <;> exact h.elim
 | 0,.tup ds,h,_,_,_=>h.elim
 | n + 1,.tup ds,h,m + 1,hm,st=>by
  simp only [fS]
  rw [Dh (g:=jG n) fun x hx=>AA n x (h x hx) m (by omega) st]
  rfl
theorem JL:∀ {l:List PyData},(∀ x∈l,x.canLay0=true)->PyData.canLayAll0 l=true
 | [],_=>rfl
 | a :: r,h=>by
  simp only [PyData.canLayAll0,h a WA,JL fun x hx=>h x (WK _ hx),Bool.and_self]
theorem JM {n:Nat}:∀ {l:List PyData},(∀ x∈l,x.depth<=n)->PyData.depthAll l<=n
 | [],_=>W8 _
 | a :: r,h=>by
  have h1:=h a WA
  have h2:=JM fun x hx=>h x (WK _ hx)
  simp only [PyData.depthAll]
  omega
theorem wo:∀ (n:Nat) (d:D),pU n d->(jG n d).canLay0=true/\(jG n d).depth<=n
 | n,.int i,_=>by cases n <;> exact ⟨rfl,W8 _⟩
 | n,.str x,h=>by cases n <;> exact ⟨h,W8 _⟩
 | n,.non,_=>by cases n <;> exact ⟨rfl,W8 _⟩
 | n,.bl b,h=>by cases n <;> exact h.elim
 | n,.ty b,h=>by cases n <;> exact h.elim
 | n,.ref b,h=>by cases n <;> exact h.elim
 | 0,.tup ds,h=>h.elim
 | n + 1,.tup ds,h=>by
  refine ⟨?_,?_⟩
  ·show PyData.canLayAll0 (ds.map (jG n))=true
   exact JL fun x hx=>by
    obtain ⟨d,hd,rfl⟩:=WR.mp hx
    exact (wo n d (h d hd)).1
  ·show PyData.depthAll (ds.map (jG n)) + 1<=n + 1
   have:=JM (n:=n) (l:=ds.map (jG n)) fun x hx=>by
    obtain ⟨d,hd,rfl⟩:=WR.mp hx
    exact (wo n d (h d hd)).2
   omega
theorem JN {n:Nat} (ih:∀ a b:D,pU n a->pU n b->(PyData.eqv (jG n a) (jG n b)=true↔a=b)):∀ (l m:List D),(∀ x∈l,pU n x)->(∀ x∈m,pU n x)->(PyData.eqvAll (l.map (jG n)) (m.map (jG n))=true↔l=m)
 | [],[],_,_=>by simp [PyData.eqvAll]
 | [],_ :: _,_,_=>by simp [PyData.eqvAll]
 | _ :: _,[],_,_=>by simp [PyData.eqvAll]
 | a :: l,b :: m,h1,h2=>by
  have e1:=ih a b (h1 a WA) (h2 b WA)
  have e2:=JN ih l m (fun x hx=>h1 x (WK _ hx)) fun x hx=>h2 x (WK _ hx)
  simp only [WY,PyData.eqvAll,WW,e1,e2,List.cons.injEq]
theorem Di:∀ (n:Nat) (a b:D),pU n a->pU n b->(PyData.eqv (jG n a) (jG n b)=true↔a=b):=by
 intro n
 induction n with
 | zero =>
  intro a b ha hb
  cases a <;> first | exact ha.elim | skip
  all_goals (cases b <;> first | exact hb.elim | simp [jG,PyData.eqv])
 | succ n ih =>
  intro a b ha hb
  cases a <;> first | exact ha.elim | skip
  all_goals (cases b <;> first | exact hb.elim | skip)
  all_goals first
   | (simp [jG,PyData.eqv];done)
   | skip
  next l m =>
   have:=JN ih l m ha hb
   show PyData.eqv (.tuple (l.map (jG n))) (.tuple (m.map (jG n)))=true↔_
   rw [FN,this]
   constructor
   ·rintro rfl;rfl
   ·intro h;exact D.tup.inj h
theorem Np (n:Nat) (L:List Int):pU (n + 1) (.tup (L.map D.int)):=fun d hd=>by
 obtain ⟨x,_,rfl⟩:=WR.mp hd
 cases n <;> trivial
theorem Dj (n:Nat) (s:df):pU (n + 1) (bp s):=fun d hd=>by
 have hd:d=.str (if s.1 then "s" else "t")\/d=.int s.2:=by simpa [bp] using hd
 rcases hd with rfl | rfl
 ·have h:PyData.canLay0 (.str (if s.1=true then "s" else "t" : Str))=true:=by cases s.1 <;> decide +kernel
  cases n <;> exact h
 ·cases n <;> trivial
theorem wt (n:Nat) (xs ys:List Int):pU (n + 2) (bX xs ys):=fun d hd=>by
 have hd:d=.tup (xs.map D.int)\/d=.tup (ys.map D.int):=by simpa [bX] using hd
 rcases hd with rfl | rfl
 ·exact Np n xs
 ·exact Np n ys
def pI (neg:Bool):D->D->Dm D:=fun a c st=>match fS st 20 a,(cL st c).bind (cn (fS st 19)) with
 | some dx,some ds=>if dx.canLay0 && ds.all PyData.canLay0 && decide (dx.depth<=60) then some (.bl (if neg then !ds.any (fun d=>PyData.eqv d dx) else ds.any fun d=>PyData.eqv d dx),st) else none
 | _,_=>none
section
variable {K:Zfr}
theorem FQ {ρ:List Addr} {H:Hp} {st:Store} (l:Rl K ρ H st) (n:Nat):∀ {vs:List V} {ds:List D} {ps:List PyData},cG K ρ H vs ds->cn (fS st n) ds=some ps->fY K H vs ps
 | _,_,_,.nil,h=>by cases h;exact .nil
 | _,_,_,.cons a b,h=>by
  obtain ⟨x,t,h1,h2,rfl⟩:=CG h
  exact .cons (As l n a h1) (FQ l n b h2)
theorem Nq (neg:Bool):mP K (BZ K neg) (pI neg):=by
 intro ρ H st x y a c b st' Q l rx ry e q
 unfold pI at e
 split at e
 ·next dx ds h1 h2 =>
  split at e
  ·next ok =>
   cases e
   rw [WW,WW,decide_eq_true_eq,List.all_eq_true] at ok
   obtain ⟨es,h3,h4⟩:=Xl.mp h2
   obtain ⟨p,xs,rfl,hq,rr⟩:∃ p xs,y=.ref p/\(jy K H p xs\/fj K H p xs)/\cG K ρ H xs es:=by
    cases ry with
    | non=>cases h3
    | bl _=>cases h3
    | int _=>cases h3
    | str _=>cases h3
    | ty _=>cases h3
    | ref hi=>obtain ⟨vs,s,r⟩:=l.items hi h3;exact ⟨_,vs,rfl,.inl s,r⟩
    | tup s r=>cases h3;exact ⟨_,_,rfl,.inr s,r⟩
   exact ⟨p,xs,ds,dx,rfl,hq,FQ l 19 rr h4,As l 20 rx h1,ok.1.2,ok.1.1,ok.2,q _ H ρ .refl l (.bl _)⟩
  ·cases e
 ·cases e
end
open Classical in
theorem Nr {st:Store} {Q:D->Store->Prop} {neg:Bool} {n:Nat} {a c:D} {es:List D} (ha:pU n a) (hc:cL st c=some es) (he:∀ e∈es,pU n e) (hn:n<=15):Wp (pI neg a c st) Q↔Q (.bl (if neg then !decide (a∈es) else decide (a∈es))) st:=by
 have h1:=AA n a ha 20 (by omega) st
 have h2:cn (fS st 19) es=some (es.map (jG n)):=Dh fun x hx=>AA n x (he x hx) 19 (by omega) st
 have ea:(es.map (jG n)).any (fun d=>PyData.eqv d (jG n a))=decide (a∈es):=by
  rw [Bool.eq_iff_iff,List.any_eq_true,decide_eq_true_eq]
  constructor
  ·rintro ⟨d,hd,h⟩
   obtain ⟨x,hx,rfl⟩:=WR.mp hd
   rw [<- (Di n x a (he x hx) ha).mp h]
   exact hx
  ·intro h
   exact ⟨_,WR.mpr ⟨a,h,rfl⟩,(Di n a a ha ha).mpr rfl⟩
 have l1:=wo n a ha
 have l2:(es.map (jG n)).all PyData.canLay0=true:=by
  rw [List.all_eq_true]
  intro d hd
  obtain ⟨x,hx,rfl⟩:=WR.mp hd
  exact (wo n x (he x hx)).1
 have e:pI neg a c st=some (.bl (if neg then !decide (a∈es) else decide (a∈es)),st):=by
  unfold pI
  simp only [h1,hc,Xw,h2,ea,l1.1,l2,Bool.true_and,decide_eq_true_eq]
  rw [if_pos (by omega)]
 rw [e,bu]
def FR:D->Option (List D)
 | .tup ds=>some ds
 | .str x=>if x.length<=sizeLine then some (qZ x) else none
 | _=>none
def qD (fa:av->Dm (List D)):av->Dm Src:=fun δ st=>bnd (fa δ st) fun as st1=>match as with
 | [a]=>match FR a with
  | some ds=>some (.fix ds.reverse,st1)
  | none=>none
 | _=>none
section
variable {K:Zfr}
theorem Dk {ρ:List Addr} {H:Hp} {x:V} {a:D} {ds:List D} (r:Rp K ρ H x a) (h:FR a=some ds):∃ src:ZS,src.val K H x/\(∀ a,src≠.lst a)/\(∀ z,src=.str z->z.length<=sizeLine)/\∀ (ρ2:List Addr) (H2:Hp),Mn K ρ H ρ2 H2->∀ i,(∀ d,ds[i]?=some d->∃ v,src.has K H2 i v/\Rp K ρ2 H2 v d)/\(i=ds.length->src.fin K H2 i):=by
 cases r with
 | non=>cases h
 | bl b=>cases h
 | int i=>cases h
 | ty n=>cases h
 | ref e=>cases h
 | str x =>
  unfold FR at h
  simp only at h
  split at h
  ·next hx =>
   cases h
   refine ⟨.str x,rfl,nofun,fun z e=>by cases e;exact hx,fun ρ2 H2 m i=>⟨fun d hd=>?_,fun e=>?_⟩⟩
   ·unfold qZ at hd
    rw [WB] at hd
    obtain ⟨c,hc,rfl⟩:=WZ.mp hd
    have hc':x.cps[i]?=some c:=by simpa using hc
    exact ⟨_,⟨c,hc',rfl⟩,.str _⟩
   ·show x.cps.size=i
    rw [e];simp [qZ]
  ·cases h
 | tup s r =>
  cases h
  refine ⟨.tup _,⟨rfl,_,s⟩,nofun,nofun,fun ρ2 H2 m i=>⟨fun d hd=>?_,fun e=>?_⟩⟩
  ·obtain ⟨v,hv,rv⟩:=r.got hd
   exact ⟨v,⟨_,m.t _ _ s,hv⟩,rv.mn m⟩
  ·exact ⟨_,m.t _ _ s,by rw [r.length];exact e.symm⟩
theorem S7 {t:TA} {fa:av->Dm (List D)} (ha:qz K t fa):wa K (B1 K t) (qD fa):=by
 intro ρ σ H δ st S st' Q l rs e q
 obtain ⟨as,st1,e1,e⟩:=dN e
 split at e
 ·next a =>
  split at e
  ·next ds h1 =>
   cases e
   refine ha ρ σ H δ st _ _ _ l rs e1 fun xs H1 ρ1 m1 l1 r1=>?_
   obtain ⟨x,rfl,rx⟩:=r1.one'
   obtain ⟨s1,v1,nl,hz,g1⟩:=Dk rx h1
   refine ⟨x,s1,ds.length,rfl,v1,(g1 ρ1 H1 Mn.refl ds.length).2 rfl,nl,hz,q _ H1 ρ1 m1 l1 fun ρ2 H2 st2 i m2 l2=>⟨fun h=>?_,fun d h=>?_⟩⟩
   ·obtain ⟨hl,hn⟩:=vZ h
    have:=Xa.mp hn
    simp only [W9] at this hl
    exact (show i=ds.length by omega)
   ·have hd:=(vZ h).2
    have hi:i < ds.length:=by simpa using (Ww.mp hd).1
    rw [List.getElem?_reverse hi] at hd
    obtain ⟨v,hv,rv⟩:=(g1 ρ2 H2 m2 _).1 d hd
    refine ⟨⟨hi,v,hv⟩,fun z H3 hz=>?_⟩
    obtain ⟨rfl,k1⟩:=hz
    cases k1 _ hv
    exact ⟨Mn.refl,l2,rv⟩
  ·cases e
 ·cases e
end
section
variable {st:Store}
theorem S8 {δ:av} {fa:av->Dm (List D)} {R:Src->Store->Prop}:Wp (qD fa δ st) R↔Wp (fa δ st) fun as st1=>∃ a ds,as=[a]/\FR a=some ds/\R (.fix ds.reverse) st1:=by
 unfold qD;rw [dn]
 constructor <;> refine fun h=>aY h fun as s h=>?_
 ·split at h
  ·next a =>
   split at h
   ·next ds h1=>exact ⟨a,ds,rfl,h1,bu.mp h⟩
   ·exact (gb.mp h).elim
  ·exact (gb.mp h).elim
 ·obtain ⟨a,ds,rfl,h1,h⟩:=h
  simp only [h1]
  exact bu.mpr h
end
section
variable {K:Zfr}
end
section
variable {st:Store} {Q:D->Store->Prop}
end
section
variable {K:Zfr}
end
section
variable {K:Zfr}
end
section
variable {K:Zfr}
end
section
variable {K:Zfr}
end
section
variable {δ:av} {st:Store} {N B C:av->Store->Prop} {R:D->Store->Prop}
end
section
variable {K:Zfr}
end
section
variable {δ:av} {st:Store} {N B C:av->Store->Prop} {R:D->Store->Prop}
end
def qE (ps:List PyData):Bool:=decide (0 < ps.length) && ps.all (fun a=>ps.all fun b=>r9 a b) && ps.all fun a=>a.canLay0 && decide (a.depth<=50)
def mV:List D->Dm D
 | [.ref r],st=>match own st r with
  | some ds=>match cn (fS st 20) ds with
   | some ps=>if qE ps=true then (match ds[oi ps]? with | some d=>some (d,st) | none=>none) else none
   | none=>none
  | none=>none
 | _,_=>none
section
variable {K:Zfr}
theorem Nt:qR K (vz K) mV:=by
 intro ρ H st xs as b st' Q l rx e q
 unfold mV at e
 split at e
 ·next r lW =>
  split at e
  ·next ds hd =>
   split at e
   ·next ps hp =>
    split at e
    ·next hok =>
     split at e
     ·next d hd0 =>
      cases e
      obtain ⟨v,rfl,r⟩:=rx.one'
      cases r with
      | ref hi =>
       obtain ⟨vs,hs,rr⟩:=l.items hi (bQ (rm hd))
       obtain ⟨v,hv,rv⟩:=rr.got hd0
       simp only [qE,WW,decide_eq_true_eq,List.all_eq_true] at hok
       exact ⟨_,vs,ps,rfl,hs,FQ l 20 rr hp,hok.1.1,hok.1.2,hok.2,v,hv,q v H ρ .refl l rv⟩
     ·cases e
    ·cases e
   ·cases e
  ·cases e
 ·cases e
end
theorem S9 {st:Store} {Q:D->Store->Prop} {r:Nat} {ds:List D} {ps:List PyData} (h:own st r=some ds) (hp:cn (fS st 20) ds=some ps) (hok:qE ps=true) {d:D} (hd:ds[oi ps]?=some d):Wp (mV [.ref r] st) Q↔Q d st:=by
 have e:mV [.ref r] st=some (d,st):=by simp only [mV,h,hp,hok,hd,if_true]
 rw [e,bu]
def tupI (xs:List Int):PyData:=.tuple (xs.map PyData.int)
def kY (p:af.a9):PyData:=.tuple [tupI p.1,tupI p.2]
theorem JO:∀ xs ys:List Int,nG (xs.map PyData.int) (ys.map PyData.int)=af.pP xs ys
 | [],[]=>rfl
 | [],_ :: _=>rfl
 | _ :: _,[]=>rfl
 | x :: xs,y :: ys=>by
  show (if (x == y)=true then nG (xs.map PyData.int) (ys.map PyData.int) else decide (x < y))=if x=y then af.pP xs ys else decide (x < y)
  rw [JO xs ys]
  by_cases h:x=y
  ·rw [if_pos h,if_pos (by simp [h])]
  ·rw [if_neg h,if_neg (by simp [h])]
theorem Nu (xs ys:List Int):PyData.eqv (tupI xs) (tupI ys)=decide (xs=ys):=BO xs ys
theorem Ta (p q:af.a9):Ai (kY p) (kY q)=af.nH p q:=by
 show (if PyData.eqv (tupI p.1) (tupI q.1)=true then (if PyData.eqv (tupI p.2) (tupI q.2)=true then false else nG (p.2.map PyData.int) (q.2.map PyData.int)) else nG (p.1.map PyData.int) (q.1.map PyData.int))=if p.1=q.1 then af.pP p.2 q.2 else af.pP p.1 q.1
 rw [Nu,Nu,JO,JO]
 by_cases a:p.1=q.1
 ·rw [if_pos a,if_pos (decide_eq_true a)]
  by_cases b:p.2=q.2
  ·rw [if_pos (decide_eq_true b),b,af.Fs]
  ·rw [if_neg (by simp [b])]
 ·rw [if_neg a,if_neg (by simp [a])]
theorem JP:∀ xs ys:List Int,oM (xs.map PyData.int) (ys.map PyData.int)=true
 | [],_=>rfl
 | _ :: _,[]=>rfl
 | x :: xs,y :: ys=>by show (true && oM (xs.map PyData.int) (ys.map PyData.int))=true;rw [JP xs ys];rfl
theorem Tb (p q:af.a9):r9 (kY p) (kY q)=true:=by
 show (oM (p.1.map PyData.int) (q.1.map PyData.int) && (oM (p.2.map PyData.int) (q.2.map PyData.int) && true))=true
 rw [JP,JP];rfl
theorem Tc (p:af.a9):(kY p).canLay0=true/\(kY p).depth<=50:=by
 refine ⟨?_,?_⟩
 ·show (PyData.canLayAll0 (cV p.1) && (PyData.canLayAll0 (cV p.2) && true))=true
  rw [xI,xI];rfl
 ·show max (PyData.depthAll (cV p.1) + 1) (max (PyData.depthAll (cV p.2) + 1) 0) + 1<=50
  rw [Ad,Ad];decide
theorem Nv (l:List af.a9):∀ k,k < l.length->l[argBest (fun i j=>af.nH (l.getD i ([],[])) (l.getD j ([],[]))) k]?=some (af.nI (l.take (k + 1)))
 | 0,h=>by
  cases l with
  | nil=>simp at h
  | cons p l=>rfl
 | k + 1,h=>by
  have ih:=Nv l k (by omega)
  generalize hb:argBest (fun i j=>af.nH (l.getD i ([],[])) (l.getD j ([],[]))) k=b at ih
  have e1:l.getD b ([],[])=af.nI (l.take (k + 1)):=by rw [WN,ih];rfl
  have e2:af.nI (l.take (k + 1 + 1))=if af.nH (l.getD (k + 1) ([],[])) (af.nI (l.take (k + 1))) then l.getD (k + 1) ([],[]) else af.nI (l.take (k + 1)):=by
   have et:l.take (k + 1 + 1)=l.take (k + 1) ++ [l.getD (k + 1) ([],[])]:=by
    rw [W6 h,WN,Wx h];rfl
   rw [et]
   cases l with
   | nil=>simp at h
   | cons p l =>
    show ((l.take k ++ [_]).foldl _ p)=_
    rw [Xs]
    rfl
  show l[if (af.nH (l.getD (k + 1) ([],[])) (l.getD (argBest _ k) ([],[])))=true then k + 1 else argBest _ k]?=_
  rw [hb,e1,e2]
  split
  ·rw [WN,Wx h];rfl
  ·exact ih
theorem Td (st:Store) (p:af.a9):fS st 20 (bX p.1 p.2)=some (kY p):=by
 have h:∀ (m:Nat) (xs:List Int),cn (fS st (m + 1)) (xs.map D.int)=some (xs.map PyData.int):=fun m xs=>by
  have:=vW (f:=fS st (m + 1)) (g:=D.int) (k:=PyData.int) (fun _=>rfl) xs
  exact this
 show (cn (fS st 19) [D.tup (p.1.map D.int),D.tup (p.2.map D.int)]).map PyData.tuple=_
 have e1:fS st 19 (D.tup (p.1.map D.int))=some (tupI p.1):=by show (cn (fS st 18) (p.1.map D.int)).map PyData.tuple=_;rw [h];rfl
 have e2:fS st 19 (D.tup (p.2.map D.int))=some (tupI p.2):=by show (cn (fS st 18) (p.2.map D.int)).map PyData.tuple=_;rw [h];rfl
 simp only [cn,e1,e2]
 rfl
theorem Nw {st:Store} {Q:D->Store->Prop} {r:Nat} {l:List af.a9} (h:own st r=some (l.map fun p=>bX p.1 p.2)) (hn:0 < l.length):Wp (mV [.ref r] st) Q↔Q (bX (af.nI l).1 (af.nI l).2) st:=by
 have hp:cn (fS st 20) (l.map fun p=>bX p.1 p.2)=some (l.map kY):=vW (f:=fS st 20) (g:=fun p:af.a9=>bX p.1 p.2) (k:=kY) (fun p=>Td st p) l
 refine S9 h hp ?_ ?_
 ·simp only [qE,WW,decide_eq_true_eq,List.all_eq_true,Wv]
  refine ⟨⟨hn,fun a ha b hb=>?_⟩,fun a ha=>?_⟩
  ·obtain ⟨p,_,rfl⟩:=WR.mp ha
   obtain ⟨q,_,rfl⟩:=WR.mp hb
   exact Tb p q
  ·obtain ⟨p,_,rfl⟩:=WR.mp ha
   exact Tc p
 ·have hb:=Nv l (l.length - 1) (by omega)
  rw [show l.length - 1 + 1=l.length by omega,Xq] at hb
  have e:∀ k,k < l.length->argBest (uu (l.map kY)) k=argBest (fun i j=>af.nH (l.getD i ([],[])) (l.getD j ([],[]))) k/\argBest (fun i j=>af.nH (l.getD i ([],[])) (l.getD j ([],[]))) k < l.length:=by
   intro k
   induction k with
   | zero=>intro hk;exact ⟨rfl,hk⟩
   | succ k ih =>
    intro hk
    obtain ⟨e1,e2⟩:=ih (by omega)
    have eb:uu (l.map kY) (k + 1) (argBest (uu (l.map kY)) k)=af.nH (l.getD (k + 1) ([],[])) (l.getD (argBest (fun i j=>af.nH (l.getD i ([],[])) (l.getD j ([],[]))) k) ([],[])):=by
     rw [e1]
     unfold uu
     rw [WN,WN,WB,WB,Wx hk,Wx e2,WN,WN,Wx hk,Wx e2]
     exact Ta _ _
    refine ⟨?_,?_⟩
    ·show (if uu (l.map kY) (k + 1) (argBest (uu (l.map kY)) k)=true then k + 1 else argBest (uu (l.map kY)) k)=if _=true then k + 1 else _
     rw [eb,e1]
    ·show (if _=true then k + 1 else _) < l.length
     split
     ·exact hk
     ·exact e2
  unfold oi
  rw [Wv,(e (l.length - 1) (by omega)).1,WB,hb]
  rfl
section
variable {K:Zfr}
end
section
variable {K:Zfr}
def uM (T:String) (g:D->List D->Dm D) (fo:av->Dm D):av->Dm D:=fun δ st=>bnd (fo δ st) fun o st1=>if tN T st1 o=true then g o [] st1 else none
theorem zk {T:String} {r:V->List V->Hp->VK->Prop} {g:D->List D->Dm D} {to:TE} {fo:av->Dm D} (hr:vQ K T r g) (ho:gs K to fo):gs K (BD K T r to) (uM T g fo):=by
 intro ρ σ H δ st b st' Q l rs e q
 obtain ⟨o,st1,e1,e⟩:=dN e
 split at e
 ·next ht =>
  refine ho ρ σ H δ st o st1 _ l rs e1 fun x H1 ρ1 m1 l1 r1=>⟨M0 l1 r1 ht,?_⟩
  exact hr ρ1 H1 st1 x [] o [] b st' Q l1 r1 .nil e fun v H3 ρ3 m3 l3 r3=>q v H3 ρ3 (m1.trans m3) l3 r3
 ·cases e
end
section
variable {st:Store} {Q:D->Store->Prop} {i:Nat}
theorem Dl {α:Type} {m:Option (α×Store)} {R R':α->Store->Prop} (h:∀ a s,R a s↔R' a s):Wp m R↔Wp m R':=by
 have e:R=R':=funext fun a=>funext fun s=>propext (h a s)
 rw [e]
theorem zm {T:String} {g:D->List D->Dm D} {fo:av->Dm D} {δ:av}:Wp (uM T g fo δ st) Q↔Wp (fo δ st) fun o st1=>tN T st1 o=true/\Wp (g o [] st1) Q:=by
 unfold uM
 rw [dn]
 refine Dl fun o st1=>?_
 rw [oA,gb]
 split
 ·next h=>exact ⟨fun q=>⟨h,q⟩,fun q=>q.2⟩
 ·next h=>exact ⟨False.elim,fun q=>h q.1⟩
end
section
variable {K:Zfr}
end
section
variable {st:Store} {Q:D->Store->Prop} {δ:av}
end
section
variable {K:Zfr}
def p8:av->Dm Fl:=fun _ _=>none
theorem Ny:o6 K rF p8:=by
 intro ρ σ H δ st fl st' E l rs e q
 cases e
end
section
variable {st:Store} {Q:D->Store->Prop}
end
section
variable {K:Zfr}
end
section
variable {st:Store} {δ:av}
end
section
variable {K:Zfr}
end
section
variable {K:Zfr}
end
section
variable {K:Zfr}
def Nz:List D->Dm D
 | [.str x],st=>match PySem.intText? x with
  | some n=>if x.length<=640 then some (.int n,st) else none
  | none=>none
 | _,_=>none
def nM:List D->Dm D
 | [.ref i],st=>match (items st i).bind (cn iV) with
  | some ns=>match ns[argBest (nU ns) (ns.length - 1)]? with
   | some m=>some (.int m,st)
   | none=>none
  | none=>none
 | _,_=>none
theorem Te:qR K (fun xs H Q=>∃ (p:Addr) (ns:List Int),xs=[.ref p]/\jy K H p (ns.map V.int)/\0 < ns.length/\∀ m,ns[argBest (nU ns) (ns.length - 1)]?=some m->Q (.int m) H) nM:=by
 intro ρ H st xs as b st' Q l rx e q
 unfold nM at e
 split at e
 ·split at e
  ·next ns hd =>
   split at e
   ·next m hm =>
    cases e
    obtain ⟨v,rfl,r⟩:=rx.one'
    obtain ⟨ds,h3,h4⟩:=Xl.mp hd
    cases r with
    | ref hi =>
     obtain ⟨vs,s,r⟩:=l.items hi h3
     cases FI r h4
     refine ⟨_,ns,rfl,s,?_,fun m' hm'=>?_⟩
     ·have:=(Ww.mp hm).1
      omega
     ·rw [hm] at hm'
      cases hm'
      exact q _ H ρ .refl l (.int _)
   ·cases e
  ·cases e
 ·cases e
end
section
variable {st:Store} {Q:D->Store->Prop}
theorem NA (ns:List Int):∀ k,k < ns.length->argBest (nU ns) k<=k/\∀ i,i<=k->ns.getD i 0<=ns.getD (argBest (nU ns) k) 0
 | 0,h=>⟨Wy _,fun i hi=>by rw [show i=0 by omega];exact Int.le_refl _⟩
 | k + 1,h=>by
  obtain ⟨h1,h2⟩:=NA ns k (by omega)
  show (if nU ns (k + 1) (argBest (nU ns) k)=true then k + 1 else argBest (nU ns) k)<=k + 1/\∀ i,i<=k + 1->ns.getD i 0<=ns.getD (if nU ns (k + 1) (argBest (nU ns) k)=true then k + 1 else argBest (nU ns) k) 0
  by_cases hc:ns.getD (k + 1) 0 > ns.getD (argBest (nU ns) k) 0
  ·rw [if_pos (show nU ns (k + 1) (argBest (nU ns) k)=true from decide_eq_true hc)]
   refine ⟨Wy _,fun i hi=>?_⟩
   by_cases hik:i<=k
   ·have:=h2 i hik;omega
   ·rw [show i=k + 1 by omega];exact Int.le_refl _
  ·rw [if_neg (show ¬ nU ns (k + 1) (argBest (nU ns) k)=true from fun z=>hc (of_decide_eq_true z))]
   refine ⟨by omega,fun i hi=>?_⟩
   by_cases hik:i<=k
   ·exact h2 i hik
   ·rw [show i=k + 1 by omega];omega
theorem Tf {r:Nat} {ns:List Int} (h:items st r=some (ns.map D.int)) (hn:ns≠[]):∃ m:Int,m∈ns/\(∀ y∈ns,y<=m)/\∀ Q:D->Store->Prop,Wp (nM [.ref r] st) Q↔Q (.int m) st:=by
 have hl:0 < ns.length:=List.length_pos_iff.mpr hn
 obtain ⟨h1,h2⟩:=NA ns (ns.length - 1) (by omega)
 have hlt:argBest (nU ns) (ns.length - 1) < ns.length:=by omega
 have e0:ns.getD (argBest (nU ns) (ns.length - 1)) 0=ns[argBest (nU ns) (ns.length - 1)]:=by rw [WN,Wx hlt];rfl
 refine ⟨ns[argBest (nU ns) (ns.length - 1)],List.getElem_mem _,fun y hy=>?_,fun Q=>?_⟩
 ·obtain ⟨i,hi,rfl⟩:=Xu hy
  have:=h2 i (by omega)
  rw [e0,WN (i:=i),Wx hi] at this
  exact this
 ·have e:nM [.ref r] st=some (.int ns[argBest (nU ns) (ns.length - 1)],st):=by
   simp only [nM,h,Xw,Jz,Wx hlt]
  rw [e,bu]
end
section
variable {K:Zfr}
end
section
variable {K:Zfr}
def oT:D->D->Dm D:=uD (fun i j=>decide (j≠0/\j.natAbs.log2 < 9000)) fun i j=>.int (i.fdiv j)
theorem Tg:mP K (rI vA fun i j=>.int (i.fdiv j)) oT:=Ao (fun i j h=>of_decide_eq_true (p:=j≠0/\j.natAbs.log2 < 9000) h) fun _ _ _ _=>.int _
end
section
variable {st:Store} {Q:D->Store->Prop}
theorem Ti {i j:Int}:Wp (oT (.int i) (.int j) st) Q↔(j≠0/\j.natAbs.log2 < 9000)/\Q (.int (i.fdiv j)) st:=by unfold oT;rw [Ax,decide_eq_true_eq]
end
def cv (i j:Int):Bool:=(decide (-18446744073709551616 < i/\i < 18446744073709551616) || decide (-18446744073709551616 < j/\j < 18446744073709551616)) || (decide (Builtin.Int.intBits i<=60000000) && decide (Builtin.Int.intBits j<=60000000))
def cz:D->D->Dm D:=uD cv fun i j=>.int (i * j)
section
variable {K:Zfr}
theorem nX:mP K (rI qr fun i j=>.int (i * j)) cz:=Ao (fun i j h=>by
 unfold cv at h
 rw [Bool.or_eq_true,Bool.or_eq_true,WW,decide_eq_true_eq,decide_eq_true_eq,decide_eq_true_eq,decide_eq_true_eq] at h
 exact h) fun _ _ _ _=>.int _
end
section
variable {st:Store} {Q:D->Store->Prop}
theorem FT {i j:Int}:Wp (cz (.int i) (.int j) st) Q↔cv i j=true/\Q (.int (i * j)) st:=by
 unfold cz;rw [Ax]
theorem Tj {i j:Int} (h:i.natAbs < 18446744073709551616):cv i j=true:=by
 unfold cv
 rw [decide_eq_true (show -18446744073709551616 < i/\i < 18446744073709551616 by omega)]
 rfl
theorem JQ {i j:Int} {k:Nat} (hk:k<=60000000) (h:i.natAbs < P2 k) (h2:j.natAbs < P2 k):cv i j=true:=by
 replace h:=vB h hk
 replace h2:=vB h2 hk
 unfold cv
 rw [decide_eq_true h,decide_eq_true h2]
 simp
end
def d5:D->List D->Dm D
 | .ref k,[a],st=>match fS st 20 a,(items st k).bind (cn (fS st 19)) with
  | some dx,some ds=>match ds.findIdx? fun d=>PyData.eqv d dx with
   | some j=>if dx.canLay0 && ds.all PyData.canLay0 && decide (dx.depth<=60) && decide (ds.length<=1000) then some (.int (j:Int),st) else none
   | none=>none
  | _,_=>none
 | _,_,_=>none
section
variable {K:Zfr}
theorem NC:vQ K "list" (qq K) d5:=by
 intro ρ H st x xs a as b st' Q l rx sD e q
 unfold d5 at e
 split at e
 ·split at e
  ·next dx ds h1 h2 =>
   split at e
   ·next j hj =>
    split at e
    ·next ok =>
     cases e
     rw [WW,WW,WW,decide_eq_true_eq,decide_eq_true_eq,List.all_eq_true] at ok
     obtain ⟨es,h3,h4⟩:=Xl.mp h2
     obtain ⟨y,rfl,r⟩:=sD.one'
     cases rx with
     | ref hi =>
      obtain ⟨vs,s,rr⟩:=l.items hi h3
      obtain ⟨hjl,hj1,hj2⟩:=List.findIdx?_eq_some_iff_getElem.mp hj
      exact ⟨_,vs,ds,y,dx,j,rfl,rfl,s,FQ l 19 rr h4,As l 20 r h1,ok.1.1.2,ok.1.1.1,ok.1.2,ok.2,⟨_,Wx hjl,hj1⟩,fun i d hij hd=>by
       obtain ⟨hil,rfl⟩:=Ww.mp hd
       simpa using hj2 i hij,q _ H ρ .refl l (.int _)⟩
    ·cases e
   ·cases e
  ·cases e
 ·cases e
end
theorem ND {st:Store} {Q:D->Store->Prop} {n k j:Nat} {a:D} {es:List D} (ha:pU n a) (hc:items st k=some es) (he:∀ e∈es,pU n e) (hn:n<=15) (hl:es.length<=1000) (hj:es[j]?=some a) (hno:∀ i e,i < j->es[i]?=some e->e≠a):Wp (d5 (.ref k) [a] st) Q↔Q (.int (j:Int)) st:=by
 have h1:=AA n a ha 20 (by omega) st
 have h2:cn (fS st 19) es=some (es.map (jG n)):=Dh fun x hx=>AA n x (he x hx) 19 (by omega) st
 obtain ⟨hjl,To⟩:=Ww.mp hj
 have hf:(es.map (jG n)).findIdx? (fun d=>PyData.eqv d (jG n a))=some j:=by
  refine List.findIdx?_eq_some_iff_getElem.mpr ⟨by simpa using hjl,?_,fun i hij=>?_⟩
  ·rw [List.getElem_map,To]
   exact (Di n a a ha ha).mpr rfl
  ·have hil:i < es.length:=by omega
   rw [List.getElem_map]
   have hm:es[i]∈es:=List.getElem_mem hil
   intro h
   exact hno i es[i] hij (Wx hil) ((Di n es[i] a (he _ hm) ha).mp h)
 have l1:=wo n a ha
 have l2:(es.map (jG n)).all PyData.canLay0=true:=by
  rw [List.all_eq_true]
  intro d hd
  obtain ⟨x,hx,rfl⟩:=WR.mp hd
  exact (wo n x (he x hx)).1
 have e:d5 (.ref k) [a] st=some (.int (j:Int),st):=by
  unfold d5
  simp only [h1,hc,Xw,h2,hf,l1.1,l2,Bool.true_and,Wv,decide_eq_true_eq,WW]
  rw [if_pos ⟨by omega,hl⟩]
 rw [e,bu]
def uN:D->List D->Dm D
 | .ref i,[],st=>match own st i with
  | some xs=>match xs[xs.length - 1]? with
   | some y=>some (y,st.set i (.lst xs.dropLast))
   | none=>none
  | none=>none
 | _,_,_=>none
section
variable {K:Zfr}
theorem zo:vQ K "list" BF uN:=by
 intro ρ H st x xs a as b st' Q l rx sD e q
 unfold uN at e
 split at e
 ·split at e
  ·next ys hy =>
   split at e
   ·next y hl =>
    cases e
    cases sD
    cases rx with
    | ref hi =>
     obtain ⟨vs,e1,r1⟩:=l.obj _ _ _ hi (rm hy)
     obtain ⟨v,hv,rv⟩:=r1.got hl
     have hlen:=r1.length
     have r2:cG K ρ H vs.dropLast ys.dropLast:=by
      rw [List.dropLast_eq_take,List.dropLast_eq_take,hlen]
      exact r1.take _
     obtain ⟨l2,m2⟩:=l.putL hi (rm hy) r2
     exact ⟨_,vs,v,rfl,rfl,e1,by rw [hlen];exact hv,q _ _ ρ m2 l2 (rv.mn m2)⟩
   ·cases e
  ·cases e
 ·cases e
end
section
variable {st:Store} {Q:D->Store->Prop} {i:Nat}
theorem zp {xs:List D} {y:D} (h:own st i=some (xs ++ [y])):Wp (uN (.ref i) [] st) Q↔Q y (st.set i (.lst xs)):=by
 have e:(xs ++ [y])[(xs ++ [y]).length - 1]?=some y:=by simp
 have e2:(xs ++ [y]).dropLast=xs:=by simp
 show Wp (match own st i with | some xs=>(match xs[xs.length - 1]? with | some y=>some (y,st.set i (O.lst xs.dropLast)) | none=>none) | none=>none) Q↔_
 rw [h]
 dsimp only
 rw [e,e2]
 exact bu
end
end L4
namespace af
abbrev CS:=List a9×List (List Sp)×List (Nat×Nat)
def aX (n:Nat) (fs:List a9) (ws:List (List Sp)) (k:Nat) (s:Sp):List a9×List (List Sp)×Nat :=
 if bL n (stM (fs.getD k ([],[])) s)∈fs then (fs,ws,fs.idxOf (bL n (stM (fs.getD k ([],[])) s))) else (fs ++ [bL n (stM (fs.getD k ([],[])) s)],ws ++ [(jz (ws.getD k [] ++ [s])).reverse],fs.length)
def kZ (n:Nat) (c:CS):List a9×List (List Sp)×Nat:=aX n c.1 c.2.1 c.2.2.length (true,1)
def jV (n:Nat) (c:CS):List a9×List (List Sp)×Nat:=aX n (kZ n c).1 (kZ n c).2.1 c.2.2.length (false,1)
def JR (n:Nat) (c:CS):CS:=((jV n c).1,(jV n c).2.1,c.2.2 ++ [((kZ n c).2.2,(jV n c).2.2)])
def ch (n:Nat) (p:a9):Nat->CS
 | 0=>([bL n p],[[]],[])
 | i + 1=>JR n (ch n p i)
structure GR (n:Nat) (p:a9) (fs:List a9) (ws:List (List Sp)):Prop where
 nd:fs.Nodup
 own:∀ q∈fs,Wh n q/\bL n q=q
 wl:ws.length=fs.length
 hd:fs[0]?=some (bL n p)
 wd:∀ (k:Nat) (w:List Sp),ws[k]?=some w->Pl w.reverse/\w.length<=k/\(∀ s∈w,s.2.natAbs<=k + 3)/\∃ q,fs[k]?=some q/\bJ n (gA p w) q
def Tp (n:Nat) (fs:List a9) (ls:List (Nat×Nat)):Prop:=∀ (k:Nat) (l:Nat×Nat),ls[k]?=some l->∃ p,fs[k]?=some p/\fs[l.1]?=some (bL n (stM p (true,1)))/\fs[l.2]?=some (bL n (stM p (false,1)))
structure GC (n:Nat) (p:a9) (c:CS) (i:Nat):Prop where
 r:GR n p c.1 c.2.1
 ll:c.2.2.length=i
 le:i<=c.1.length
 ld:Tp n c.1 c.2.2
section
variable {n:Nat} {p:a9}
theorem GR.few {fs:List a9} {ws:List (List Sp)} (g:GR n p fs ws):0 < fs.length:=(Ww.mp g.hd).1
theorem FU (w:Wh n p) (n0:0 < n):Wh n (bL n p)/\bL n (bL n p)=bL n p/\bJ n p (bL n p):=by
 obtain ⟨s,s0,s1,e⟩:=Cw p n0
 have tb:=w.bf s0 s1
 have a:bJ n p (bL n p):=⟨inv (bf p.1 p.2 s n),tb.aG,by rw [e,Fp w.v.1 tb,Fp w.v.2 tb];rfl⟩
 have wq:Wh n (bL n p):=by
  obtain ⟨g,tg,eq⟩:=a
  have:=uL (xs:=p.1) (ys:=p.2) ⟨w.v.1,w.v.2,w.all⟩ tg n0
  rw [eq]
  exact ⟨⟨this.1,this.2.1⟩,this.2.2⟩
 exact ⟨wq,(vK n0 w.v a).symm,a⟩
theorem Tq {fs:List a9} {q:a9} (h:q∈fs):fs[fs.idxOf q]?=some q:=by
 have hl:=List.idxOf_lt_length_of_mem h
 rw [Wx hl,List.getElem_idxOf]
theorem Tr {w:List Sp} {k:Nat} {s:Sp} (hp:Pl w.reverse) (hn:∀ a∈w,a.2.natAbs<=k + 3) (hs:s=(true,1)\/s=(false,1)):Pl (jz (w ++ [s]))/\∀ a∈(jz (w ++ [s])),a.2.natAbs<=k + 1 + 3:=by
 have ps:cw s:=by rcases hs with rfl | rfl <;> exact ⟨fun _=>by decide,by decide⟩
 have ew:jz w=w.reverse:=by
  have:=Pl.oo hp
  rwa [List.reverse_reverse] at this
 have e:jz (w ++ [s])=bP w.reverse s:=by
  rw [IW,ew];rfl
 rw [e]
 refine ⟨hp.push ps,fun a ha=>?_⟩
 have s1:s.2.natAbs<=1:=by rcases hs with rfl | rfl <;> decide
 exact Mt (M:=k + 3) (B:=1) (fun x hx=>hn x (Xn.mp hx)) s1 ps hp a ha
theorem tQ {fs:List a9} {ws:List (List Sp)} {k:Nat} {s:Sp} (n0:0 < n) (g:GR n p fs ws) (vp:Vf n p) (hk:k < fs.length) (hs:s=(true,1)\/s=(false,1)) :
  GR n p (aX n fs ws k s).1 (aX n fs ws k s).2.1/\(∀ (i:Nat) (q:a9),fs[i]?=some q->(aX n fs ws k s).1[i]?=some q)/\fs.length<=(aX n fs ws k s).1.length/\(aX n fs ws k s).1.length<=fs.length + 1/\∃ q,fs[k]?=some q/\(aX n fs ws k s).1[(aX n fs ws k s).2.2]?=some (bL n (stM q s)):=by
 have ek:fs[k]?=some (fs.getD k ([],[])):=by rw [WN,Wx hk];rfl
 generalize hq:fs.getD k ([],[])=q at ek
 obtain ⟨wq,oq⟩:=g.own q (WG ek)
 have Dn:=wq.st n0 s
 obtain ⟨wF,oF,aF⟩:=FU Dn n0
 unfold aX
 rw [hq]
 by_cases hm:bL n (stM q s)∈fs
 ·rw [if_pos hm]
  exact ⟨g,fun _ _ h=>h,Wy _,Nat.le_succ _,q,ek,Tq hm⟩
 ·rw [if_neg hm]
  have Ts:k < ws.length:=by rw [g.wl];exact hk
  have ew:ws[k]?=some (ws.getD k []):=by rw [WN,Wx Ts];rfl
  generalize ws.getD k []=w at ew
  obtain ⟨pw,lw,nw,q',eq',aw⟩:=g.wd k w ew
  rw [ek] at eq'
  cases eq'
  obtain ⟨pl,nl⟩:=Tr (k:=k) pw nw hs
  refine ⟨⟨List.nodup_append.mpr ⟨g.nd,by simp,fun x hx y hy e=>hm (by rw [<- WQ.mp hy,<- e];exact hx)⟩,fun q' hq'=>?_,by rw [Wz,Wz,g.wl];rfl,by rw [WI g.few];exact g.hd,fun i v hv=>?_⟩,fun i q' h=>by rw [WI (Ww.mp h).1];exact h,by rw [Wz];omega,by rw [Wz];exact Wy _,q,ek,?_⟩
  ·rcases WX.mp hq' with h | h
   ·exact g.own q' h
   ·rw [WQ.mp h];exact ⟨wF,oF⟩
  ·by_cases hi:i < ws.length
   ·rw [WI hi] at hv
    obtain ⟨a1,a2,a3,q',b1,b2⟩:=g.wd i v hv
    exact ⟨a1,a2,a3,q',by rw [WI (Ww.mp b1).1];exact b1,b2⟩
   ·have hi2:i=ws.length:=by
     have:=(Ww.mp hv).1
     rw [Wz] at this
     have:i < ws.length + 1:=this
     omega
    subst hi2
    rw [WT (Wy _),Xv] at hv
    cases (show some _=some v from hv)
    refine ⟨by rw [List.reverse_reverse];exact pl,?_,fun a ha=>?_,bL n (stM q s),?_,?_⟩
    ·rw [W9]
     have:=Fq (w ++ [s])
     rw [Wz] at this
     have:(jz (w ++ [s])).length<=w.length + 1:=this
     omega
    ·have:=nl a (Xn.mp ha)
     omega
    ·rw [g.wl,WT (Wy _),Xv];rfl
    ·have cC:∀ a∈w ++ [s],cw a:=fun a ha=>by
      rcases WX.mp ha with h | h
      ·exact Pl.pr pw a (Xn.mpr h)
      ·rw [WQ.mp h]
       rcases hs with rfl | rfl <;> exact ⟨fun _=>by decide,by decide⟩
     have e1:ax (jz (w ++ [s])).reverse=ax (w ++ [s]):=IY cC
     have pp:∀ a∈(jz (w ++ [s])).reverse,cw a:=fun a ha=>Pl.pr pl a (Xn.mp ha)
     have a1:=FA pp cC e1 vp
     have a2:bJ n (gA p (w ++ [s])) (stM q s):=by
      rw [x6]
      exact bJ.st vp.ld aw s
     exact bJ.trans vp.ld (bJ.trans vp.ld a1 a2) aF
  ·rw [WT (Wy _),Xv];rfl
theorem zq (n0:0 < n) (w:Wh n p):∀ i:Nat,(∀ j,j < i->j < (ch n p j).1.length)->GC n p (ch n p i) i
 | 0,_=>by
  obtain ⟨wF,oF,aF⟩:=FU w n0
  exact ⟨⟨by show [bL n p].Nodup;simp,fun q hq=>by rw [WQ.mp hq];exact ⟨wF,oF⟩,rfl,rfl,fun k v hv=>by
   cases k with
   | zero =>
    cases (show some []=some v from hv)
    exact ⟨trivial,Wy _,(fun s hs=>nomatch hs),_,rfl,aF⟩
   | succ k=>cases (show none=some v from hv)⟩,rfl,W8 _,fun k l hl=>nomatch hl⟩
 | i + 1,h=>by
  have g:=zq n0 w i fun j hj=>h j (by omega)
  have hi:=h i (by omega)
  have ny:=g.ll
  have vp:=w.v
  have r1:=tQ (s:=(true,1)) n0 g.r vp (k:=(ch n p i).2.2.length) (by omega) (.inl rfl)
  have r2:=tQ (s:=(false,1)) n0 r1.1 vp (k:=(ch n p i).2.2.length) (by have:=r1.2.2.1;omega) (.inr rfl)
  refine ⟨r2.1,by show ((ch n p i).2.2 ++ [_]).length=i + 1;rw [Wz,ny];rfl,?_,fun k l hl=>?_⟩
  ·have a:=r1.2.2.1
   have b:=r2.2.2.1
   show i + 1<=(jV n (ch n p i)).1.length
   unfold jV kZ
   omega
  ·have hl:((ch n p i).2.2 ++ [((kZ n (ch n p i)).2.2,(jV n (ch n p i)).2.2)])[k]?=some l:=hl
   by_cases hk:k < (ch n p i).2.2.length
   ·rw [WI hk] at hl
    obtain ⟨q,b1,b2,b3⟩:=g.ld k l hl
    exact ⟨q,r2.2.1 _ _ (r1.2.1 _ _ b1),r2.2.1 _ _ (r1.2.1 _ _ b2),r2.2.1 _ _ (r1.2.1 _ _ b3)⟩
   ·have hk2:k=(ch n p i).2.2.length:=by
     have:=(Ww.mp hl).1
     rw [Wz] at this
     have:k < (ch n p i).2.2.length + 1:=this
     omega
    subst hk2
    rw [WT (Wy _),Xv] at hl
    cases (show some _=some l from hl)
    obtain ⟨q1,c1,c2⟩:=r1.2.2.2.2
    obtain ⟨q2,d1,d2⟩:=r2.2.2.2.2
    have:q2=q1:=by
     have:=r1.2.1 _ _ c1
     rw [d1] at this
     exact WJ this
    subst this
    exact ⟨q2,r2.2.1 _ _ d1,r2.2.1 _ _ c2,d2⟩
structure Full (n:Nat) (p:a9) (c:CS) (N:Nat):Prop extends GC n p c N where
 fl:c.1.length=N
end
end af
namespace af
def Tl:Nat->List (List Int)
 | 1=>[[0]]
 | 2=>[[0,1],[1,0]]
 | 3=>[[0,1,2],[0,2,1],[1,0,2],[1,2,0],[2,0,1],[2,1,0]]
 | _=>[]
theorem zt:∀ a∈([0,1]:List Int),∀ b∈([0,1]:List Int),[a,b].Nodup->[a,b]∈Tl 2:=by decide +kernel
theorem Tt:∀ a∈([0,1,2]:List Int),∀ b∈([0,1,2]:List Int),∀ c∈([0,1,2]:List Int),[a,b,c].Nodup->[a,b,c]∈Tl 3:=by decide +kernel
theorem NF {n:Nat} (n0:0 < n) (n3:n<=3) {xs:List Int} (t:Tn n xs):xs∈Tl n:=by
 have hl:=t.length
 have hb:∀ x∈xs,x∈upto n:=fun x hx=>t.subset hx
 have nd:=t.nodup
 clear t
 match n,n0,n3,xs,hl with
 | 1,_,_,[x],_ =>
  have h1:=hb x WA
  rw [WQ.mp (show x∈[0] from h1)]
  exact WA
 | 2,_,_,[x,y],_=>exact zt x (hb x WA) y (hb y (.tail _ WA)) nd
 | 3,_,_,[x,y,z],_=>exact Tt x (hb x WA) y (hb y (.tail _ WA)) z (hb z (.tail _ (.tail _ WA))) nd
def Ul (n:Nat):List a9:=((Tl n).flatMap fun x=>(Tl n).map fun y=>(x,y)).filter fun q=>decide (bL n q=q)
theorem zu {n:Nat} (n0:0 < n) (n3:n<=3) {q:a9} (w:Wh n q) (h:bL n q=q):q∈Ul n:=by
 unfold Ul
 refine List.mem_filter.mpr ⟨List.mem_flatMap.mpr ⟨q.1,NF n0 n3 w.v.1,WR.mpr ⟨q.2,NF n0 n3 w.v.2,rfl⟩⟩,by rw [h];exact decide_eq_true rfl⟩
theorem NG:∀ {m l:List a9},m.Nodup->(∀ x∈m,x∈l)->m.length<=l.length
 | [],_,_,_=>W8 _
 | a :: m,l,nd,hs=>by
  have NH:=List.nodup_cons.mp nd
  have ha:=hs a WA
  have:=NG (m:=m) (l:=l.erase a) NH.2 fun y hy=>by
   have Tv:y≠a:=fun z=>NH.1 (z ▸ hy)
   exact (List.mem_erase_of_ne Tv).mpr (hs y (WK _ hy))
  rw [List.length_erase_of_mem ha] at this
  have hp:0 < l.length:=List.length_pos_of_mem ha
  simp
  omega
theorem JS {n:Nat} {p q:a9} (n0:0 < n) (wp:Wh n p) (wq:Wh n q) (e:bL n p=bL n q):bJ n p q:=by
 obtain ⟨_,_,a⟩:=FU wp n0
 obtain ⟨_,_,b⟩:=FU wq n0
 rw [e] at a
 exact bJ.trans wp.v a (bJ.symm wq.v b)
theorem zv {w:List Sp} (hw:∀ s∈w,cw s):ax (d3 w ++ w)=T4.one:=by
 have hb:=ya hw
 have h:=Fy hb
 rw [p7] at h ⊢
 rw [vF hb,vF hw] at h
 rw [vF hw]
 have ea:(ax w).qx.qx=ax w:=by
  apply T4.ext' <;> simp only [T4.qx,Int.neg_neg]
 rw [ea] at h
 exact h
end af
namespace af
theorem Tw {n:Nat} {p:a9} {u v:List Sp} (n0:0 < n) (wp:Wh n p) (hu:∀ s∈u,cw s) (hv:∀ s∈v,cw s):bL n (gA p (u ++ d3 v))=bL n p↔bL n (gA p u)=bL n (gA p v):=by
 have hb:=ya hv
 have app:∀ {x y:List Sp},(∀ s∈x,cw s)->(∀ s∈y,cw s)->∀ s∈x ++ y,cw s:=fun {x y} hx hy s hs=>by rcases WX.mp hs with h | h;exact hx s h;exact hy s h
 constructor
 ·intro h
  have a:=JS n0 (wp.ld n0 (w:=u ++ d3 v)) wp h
  have b:=bJ.ld (w:=v) (wp.ld n0 (w:=u ++ d3 v)).v a
  rw [<- x6] at b
  have e:ax (u ++ d3 v ++ v)=ax u:=by
   rw [List.append_assoc,p7,zv hv,T4.one_mul]
  have c:=FA (app (app hu hb) hv) hu e wp.v
  have d:=vK n0 (wp.ld n0 (w:=u ++ d3 v ++ v)).v b
  have d':=vK n0 (wp.ld n0 (w:=u ++ d3 v ++ v)).v c
  exact d'.symm.trans d
 ·intro h
  have a:=JS n0 (wp.ld n0 (w:=u)) (wp.ld n0 (w:=v)) h
  have b:=bJ.ld (w:=d3 v) (wp.ld n0 (w:=u)).v a
  rw [<- x6,<- x6] at b
  have c:=FA (u:=v ++ d3 v) (w:=[]) (app hv hb) (fun s hs=>nomatch hs) (Fy hv) wp.v
  have d:=vK n0 (wp.ld n0 (w:=u ++ d3 v)).v b
  have d':=vK n0 (wp.ld n0 (w:=v ++ d3 v)).v c
  exact d.trans d'
theorem Tx {n:Nat} {p:a9} {u v:List Sp} (n0:0 < n) (wp:Wh n p) (h1:bL n (gA p u)=bL n p) (h2:bL n (gA p v)=bL n p):bL n (gA p (u ++ v))=bL n p:=by
 have a:=JS n0 (wp.ld n0 (w:=u)) wp h1
 have b:=bJ.ld (w:=v) (wp.ld n0 (w:=u)).v a
 rw [<- x6] at b
 exact (vK n0 (wp.ld n0 (w:=u ++ v)).v b).trans h2
theorem JT:(Ul 1).length<=16/\(Ul 2).length<=16/\(Ul 3).length<=16:=by decide +kernel
theorem Tz {n:Nat} (n0:0 < n) (n3:n<=3) {fs:List a9} (nd:fs.Nodup) (own:∀ q∈fs,Wh n q/\bL n q=q):fs.length<=16:=by
 have h:=NG (l:=Ul n) nd fun q hq=>zu n0 n3 (own q hq).1 (own q hq).2
 rcases (show n=1\/n=2\/n=3 by omega) with rfl | rfl | rfl
 ·exact WO h JT.1
 ·exact WO h JT.2.1
 ·exact WO h JT.2.2
theorem TB {n:Nat} {p:a9} (n0:0 < n) (n3:n<=3) (w:Wh n p):∃ N,Full n p (ch n p N) N/\(∀ j,j < N->j < (ch n p j).1.length)/\N<=16:=by
 have key:∀ m,(∃ N,N<=m/\Full n p (ch n p N) N/\(∀ j,j < N->j < (ch n p j).1.length))\/∀ j,j<=m->j < (ch n p j).1.length:=fun m=>by
  induction m with
  | zero =>
   right
   intro j hj
   have:j=0:=by omega
   subst this
   exact Nat.one_pos
  | succ m ih =>
   rcases ih with ⟨N,h1,h2,h3⟩ | h
   ·exact .inl ⟨N,by omega,h2,h3⟩
   ·have g:=zq n0 w (m + 1) fun j hj=>h j (by omega)
    by_cases e:m + 1 < (ch n p (m + 1)).1.length
    ·right
     intro j hj
     rcases Nat.lt_or_ge j (m + 1) with z | z
     ·exact h j (by omega)
     ·have:j=m + 1:=by omega
      subst this;exact e
    ·have:=g.le
     exact .inl ⟨m + 1,Wy _,{ toGC:=g,fl:=by omega },fun j hj=>h j (by omega)⟩
 rcases key 16 with ⟨N,h1,h2,h3⟩ | h
 ·exact ⟨N,h2,h3,h1⟩
 ·have g:=zq n0 w 16 fun j hj=>h j (by omega)
  have:=Tz n0 n3 g.r.nd g.r.own
  have:=h 16 (Wy _)
  omega
end af
namespace L4
open PySem PySem.Spec L2
section
variable {K:Zfr}
theorem TC {n m:Nat} {F:List D->Dm D} {ta:TA} {fa:av->Dm (List D)} {E:XK} {oa:List V} {FV:List D} (ha:qz K ta fa) (hn:∀ δ st as st',fa δ st=some (as,st')->as.length=m) (hm:m + oa.length=n) (hd:∀ ρ H,cG K ρ H oa FV):gs K (pj (bj K n F) oa E ta) (aN (fun as=>F (as ++ FV)) fa):=by
 intro ρ σ H δ st b st' Q l rs e q
 obtain ⟨as,st1,e1,e⟩:=dN e
 refine ha ρ σ H δ st as st1 _ l rs e1 fun vs H1 ρ1 m1 l1 r1=>⟨?_,ρ1,st1,as ++ FV,b,st',l1,?_,e,fun v H3 ρ3 m3 l3 r3=>q v H3 ρ3 (m1.trans m3) l3 r3⟩
 ·rw [Wz,r1.length,hn _ _ _ _ e1];exact hm
 ·exact r1.append (hd _ _)
end
end L4
namespace My
local macro_rules | `(tactic| w_up)=>`(tactic| first | exact .inl rfl | exact .inr rfl | assumption)
local macro_rules | `(tactic| w_fin)=>`(tactic| decide +kernel)
local macro_rules | `(tactic| kspl_open $h)=>`(tactic| (refine L4.b9 ?_;intro _ $h;set_option simprocs false in simp only [L4.bH]))
local macro_rules | `(tactic| w_how)=>`(tactic| set_option simprocs false in simp only [L4.bH])
open PySem L2 L4
theorem TF:∀ δ st as st',ah δ st=some (as,st')->as.length=0:=fun _ _ _ _ h=>RB h
theorem kL {f1:av->Dm D}:∀ δ st as st',ae f1 ah δ st=some (as,st')->as.length=1:=FF TF
theorem eZ {f1 f2:av->Dm D}:∀ δ st as st',ae f2 (ae f1 ah) δ st=some (as,st')->as.length=2:=FF kL
theorem JU {f1 f2 f3:av->Dm D}:∀ δ st as st',ae f3 (ae f2 (ae f1 ah)) δ st=some (as,st')->as.length=3:=FF eZ
theorem NI {f1 f2 f3 f4:av->Dm D}:∀ δ st as st',ae f4 (ae f3 (ae f2 (ae f1 ah))) δ st=some (as,st')->as.length=4:=FF JU
theorem cf {X:Cx} {k k':Nat} {f:Addr} {fd:FuncData} {ps:List Str} {sp:Sp} {x:Str} {st:Stmt} {e:Expr} {es:List Expr} {t:TA} {p pos:Pos} (F:aE X.prog X.w X.K X.mg X.base a7 k f fd ps sp) (D:Def X.K X.mg x st ps f fd) (hr:gw k' X.A) (hk:k<=k') (hg:Gl X x) (ha:PA X (e :: es) t) (hdb:(x == ("__debug__" : Str))=false:=by decide) (he:starEach (e :: es) X.env=(false,eval e X.env) :: starEach es X.env:=by rfl) (hpl:(backTo pos (starEach es X.env)).any (·.1)=false:=by rfl):PE X (.Call (.Name x p) (e :: es) [] pos) (pj sp [] E0 t):=K4 F (hr.mono hk) hg D.m D.F.kp D.b .nil vo ha hdb he hpl
def top (i:Nat):Stmt:=PySem.Challenge.pw_shearfloor_k41_whole_rows_part_the_table.main.body.getD i (.Pass ⟨0,0,0,0⟩)
structure Txt (mg:Str->Option Value):Prop where
 Dp:mg "abs" = none
 mW:mg "enumerate" = none
 wx:mg "int" = none
 bS:mg "len" = none
 dQ:mg "list" = none
 wy:mg "max" = none
 sR:mg "min" = none
 aT:mg "range" = none
 p9:mg "reversed" = none
 bG:mg "tuple" = none
section
variable {P:Program} {w:World} {K:Zfr} {mg:Str->Option Value} {base:Heap}
def FW:av->Dm Fl :=
 (az (aI (ay c4 (ay mv (fC (.int 7901)) (ag 1)) (fC (.int 24697))) (hName 2))
 (az (eP (aJ (ay vV (ag 1) (aN cY (ae (ag 0) ah)))) (aI (ay cc (ag 0) (ag 1)) (hName 2)) (eP (aJ (ay uE (aN cY (ae (ag 0) ah)) (fC (.int 0)))) (aI (ay c4 (ay mv (ay jR (ay cc (ag 0) (ay jR (ag 1) (aN cY (ae (ag 0) ah)))) (fC (.int 2147483629))) (fC (.int 31))) (ay mv (fC (.int 7901)) (ag 1))) (hName 2)) aU))
 (az (aI (fC (.int 0)) (hName 3))
 (az (eP (aJ (ay Jr (ag 2) (ay sy (fC (.int 10)) (fC (.int 18))))) (aI (ag 2) (hName 3)) aU)
 (aV (cZ (ae (ag 3) (ae (ay c4 (ay jR (ay sy (ay c4 (ay mv (ay jR (ag 2) (fC (.int 2147483629))) (fC (.int 48271))) (ay mv (fC (.int 40692)) (ag 1))) (fC (.int 5))) (fC (.int 2147483629))) (fC (.int 1))) ah))))))))
def wz:List D->Dm D:=eI 4 FW
def Dq:Stmt:=top 51
theorem AB:aD ["_law_script","_law_k","_law_cell","_law_own"] ["_law_script","_law_k"] (au Dq):=⟨rfl,rfl,rfl,by w_fin,rfl,by w_fin,by w_fin⟩
theorem TH {f:Addr} {fd:FuncData} (D:Def K mg "_law_feed" Dq ["_law_script","_law_k"] f fd) (T:Txt mg)  :aE P w K mg base a7 1 f fd ["_law_script","_law_k"] (bj K 2 wz):=by
 refine D.F.ok AB (fun _ _ _ _ h=>h.1) (fun c A o s H v Q E hr h=>?_)
 refine ⟨_,(@aZ _ _ _ _ _ (@bR (i:=2) _ _ _ _ _ _ AB.nd rfl (by w_up) (bF lH (bF tu aK (pv 1)) aK) (by rfl) (by w_up))
  (@aZ _ _ _ _ _ (@jC _ _ _ _ _ _ _ _ (fW zW (pv 1) (jN lO (by rfl) T.bS lP (@aj _ _ _ _ _ (pv 0) aA (by rfl))) (aO _)) (@bg _ _ _ (@bR (i:=2) _ _ _ _ _ _ AB.nd rfl (by w_up) (@bh _ _ _ _ _ _ _ mN (pv 0) (pv 1) (fun _ _=>rfl)) (by rfl) (by w_up))) (@bg _ _ _ (@jC _ _ _ _ _ _ _ _ (fW zX (jN lO (by rfl) T.bS lP (@aj _ _ _ _ _ (pv 0) aA (by rfl))) aK (aO _)) (@bg _ _ _ (@bR (i:=2) _ _ _ _ _ _ AB.nd rfl (by w_up) (bF lH (bF tu (bF qL (@bh _ _ _ _ _ _ _ mN (pv 0) (bF qL (pv 1) (jN lO (by rfl) T.bS lP (@aj _ _ _ _ _ (pv 0) aA (by rfl)))) (fun _ _=>rfl)) aK) aK) (bF tu aK (pv 1))) (by rfl) (by w_up))) kg)))
  (@aZ _ _ _ _ _ (@bR (i:=3) _ _ _ _ _ _ AB.nd rfl (by w_up) aK (by rfl) (by w_up))
  (@aZ _ _ _ _ _ (@jC _ _ _ _ _ _ _ _ (fW Bu (pv 2) (bF KS aK aK) (aO _)) (@bg _ _ _ (@bR (i:=3) _ _ _ _ _ _ AB.nd rfl (by w_up) (pv 2) (by rfl) (by w_up))) kg)
  (@bg _ _ _ (@dj _ _ _ _ (@lM _ _ _ _ (@aj _ _ _ _ _ (pv 3) (@aj _ _ _ _ _ (bF lH (bF qL (bF KS (bF lH (bF tu (bF qL (pv 2) aK) aK) (bF tu aK (pv 1))) aK) aK) aK) aA (by rfl)) (by rfl))))))))),?_⟩
 exact fm (b:=FW) (a6 (bI (aC lI (aC tL (aL _) (ai 1)) (aL _)) (aR 2))
  (a6 (jF (fR (aC Ap (ai 1) (cq lU (ao (ai 0) aB)))) (bI (aC jS (ai 0) (ai 1)) (aR 2)) (jF (fR (aC Aq (cq lU (ao (ai 0) aB)) (aL _))) (bI (aC lI (aC tL (aC qU (aC jS (ai 0) (aC qU (ai 1) (cq lU (ao (ai 0) aB)))) (aL _)) (aL _)) (aC tL (aL _) (ai 1))) (aR 2)) kj))
  (a6 (bI (aL _) (aR 3))
  (a6 (jF (fR (aC CD (ai 2) (aC MU (aL _) (aL _)))) (bI (ai 2) (aR 3)) kj)
  (dk (lR (ao (ai 3) (ao (aC lI (aC qU (aC MU (aC lI (aC tL (aC qU (ai 2) (aL _)) (aL _)) (aC tL (aL _) (ai 1))) (aL _)) (aL _)) (aL _)) aB)))))))) rfl h
def FX:av->Dm Fl :=
 (az (eP (aJ (ay uE (ay cc (ag 0) (fC (.int 0))) (fC (.int 0)))) (az (aI (ay jR (ay cc (ag 0) (fC (.int 0))) (ag 1)) (hName 2))
 (az (aI (ay pC (ay cc (ag 0) (fC (.int 0))) (ag 1)) (hSub (ag 0) (fC (.int 0))))
 (aV (ag 2)))) aU)
 (az (aI (ay jR (ay mv (ay cc (ag 0) (fC (.int 1))) (fC (.int 48271))) (fC (.int 2147483647))) (hName 3))
 (az (aI (ay c4 (ay jR (ay c4 (ay mv (ag 3) (fC (.int 40692))) (fC (.int 30103))) (fC (.int 2147483399))) (fC (.int 1))) (hSub (ag 0) (fC (.int 1))))
 (aV (ay jR (ay pC (ay c4 (ay mv (ag 3) (fC (.int 2147483647))) (ay cc (ag 0) (fC (.int 1)))) (fC (.int 8191))) (ag 1))))))
def mX:List D->Dm D:=eI 4 FX
def wC:Stmt:=top 52
theorem JV:aD ["_law_feed_here","_law_many","_law_digit","_law_one"] ["_law_feed_here","_law_many"] (au wC):=⟨rfl,rfl,rfl,by w_fin,rfl,by w_fin,by w_fin⟩
theorem TJ {f:Addr} {fd:FuncData} (D:Def K mg "_law_take" wC ["_law_feed_here","_law_many"] f fd) (T:Txt mg)  :aE P w K mg base a7 1 f fd ["_law_feed_here","_law_many"] (bj K 2 mX):=by
 refine D.F.ok JV (fun _ _ _ _ h=>h.1) (fun c A o s H v Q E hr h=>?_)
 refine ⟨_,(@aZ _ _ _ _ _ (@jC _ _ _ _ _ _ _ _ (fW zX (@bh _ _ _ _ _ _ _ mN (pv 0) aK (fun _ _=>rfl)) aK (aO _)) (@aZ _ _ _ _ _ (@bR (i:=2) _ _ _ _ _ _ JV.nd rfl (by w_up) (bF qL (@bh _ _ _ _ _ _ _ mN (pv 0) aK (fun _ _=>rfl)) (pv 1)) (by rfl) (by w_up))
  (@aZ _ _ _ _ _ (ud (bF KR (@bh _ _ _ _ _ _ _ mN (pv 0) aK (fun _ _=>rfl)) (pv 1)) (zU (pv 0) aK Aa))
  (@bg _ _ _ (@dj _ _ _ _ (pv 2))))) kg)
  (@aZ _ _ _ _ _ (@bR (i:=3) _ _ _ _ _ _ JV.nd rfl (by w_up) (bF qL (bF tu (@bh _ _ _ _ _ _ _ mN (pv 0) aK (fun _ _=>rfl)) aK) aK) (by rfl) (by w_up))
  (@aZ _ _ _ _ _ (ud (bF lH (bF qL (bF lH (bF tu (pv 3) aK) aK) aK) aK) (zU (pv 0) aK Aa))
  (@bg _ _ _ (@dj _ _ _ _ (bF qL (bF KR (bF lH (bF tu (pv 3) aK) (@bh _ _ _ _ _ _ _ mN (pv 0) aK (fun _ _=>rfl))) aK) (pv 1))))))),?_⟩
 exact fm (b:=FX) (a6 (jF (fR (aC Aq (aC jS (ai 0) (aL _)) (aL _))) (a6 (bI (aC qU (aC jS (ai 0) (aL _)) (ai 1)) (aR 2))
  (a6 (bI (aC MT (aC jS (ai 0) (aL _)) (ai 1)) (Aw (ai 0) (aL _)))
  (dk (ai 2)))) kj)
  (a6 (bI (aC qU (aC tL (aC jS (ai 0) (aL _)) (aL _)) (aL _)) (aR 3))
  (a6 (bI (aC lI (aC qU (aC lI (aC tL (ai 3) (aL _)) (aL _)) (aL _)) (aL _)) (Aw (ai 0) (aL _)))
  (dk (aC qU (aC MT (aC lI (aC tL (ai 3) (aL _)) (aC jS (ai 0) (aL _))) (aL _)) (ai 1)))))) rfl h
def FY:av->Dm Fl :=
 (az (aI (aN dP (ae (aN iI (ae (ag 1) ah)) ah)) (hName 2))
 (az (aI (bq ah) (hName 3))
 (az (iJ (aJ (ay (iH true) (ag 2) (cZ ah))) (aI (ay jA (ag 3) (bq (ae (kh "list" mw (ag 2) (ae (aN mX (ae (ag 0) (ae (aN cY (ae (ag 2) ah)) ah))) ah)) ah))) (hName 3)))
 (aV (ag 3)))))
def zw:List D->Dm D:=eI 4 FY
def Dr:Stmt:=top 53
theorem FZ:aD ["_law_feed_here","_law_n","_law_left","_law_found"] ["_law_feed_here","_law_n"] (au Dr):=⟨rfl,rfl,rfl,by w_fin,rfl,by w_fin,by w_fin⟩
theorem TK {f:Addr} {fd:FuncData} (D:Def K mg "_law_turning" Dr ["_law_feed_here","_law_n"] f fd) (T:Txt mg)  {bw:Addr} {bx:FuncData} (aP:Def K mg "_law_take" wC ["_law_feed_here","_law_many"] bw bx) (aQ:aE P w K mg base a7 1 bw bx ["_law_feed_here","_law_many"] (bj K 2 mX)):aE P w K mg base a7 2 f fd ["_law_feed_here","_law_n"] (bj K 2 zw):=by
 refine D.F.ok FZ (fun _ _ _ _ h=>h.1) (fun c A o s H v Q E hr h=>?_)
 have hu:=hr.units
 refine ⟨_,(@aZ _ _ _ _ _ (@bR (i:=2) _ _ _ _ _ _ FZ.nd rfl (by w_up) (gx (tD rfl) (by rfl) T.dQ qN (@aj _ _ _ _ _ (gx E8 (by rfl) T.aT tw (@aj _ _ _ _ _ (pv 1) aA (by rfl))) aA (by rfl))) (by rfl) (by w_up))
  (@aZ _ _ _ _ _ (@bR (i:=3) _ _ _ _ _ _ FZ.nd rfl (by w_up) (@eW _ _ _ _ _ aA) (by rfl) (by w_up))
  (@aZ _ _ _ _ _ (xl PassesOwn.never (fW (Ih hu) (pv 2) (@lM _ _ _ _ aA) (aO _)) (@bg _ _ _ (@bR (i:=3) _ _ _ _ _ _ FZ.nd rfl (by w_up) (bF vq (pv 3) (@eW _ _ _ _ _ (@aj _ _ _ _ _ (og PySem.F.plainAttrs_list PySem.F.slot_list_pop PySem.F.type_list_pop Pg (pv 2) (@aj _ _ _ _ _ (cf aQ aP hr (by decide) rfl (@aj _ _ _ _ _ (pv 0) (@aj _ _ _ _ _ (jN lO (by rfl) T.bS lP (@aj _ _ _ _ _ (pv 2) aA (by rfl))) aA (by rfl)) (by rfl))) aA (by rfl))) aA (by rfl)))) (by rfl) (by w_up))))
  (@bg _ _ _ (@dj _ _ _ _ (pv 3)))))),?_⟩
 exact fm (b:=FY) (a6 (bI (cq tM (ao (cq FH (ao (ai 1) aB)) aB)) (aR 2))
  (a6 (bI (eX aB) (aR 3))
  (a6 (yn (fR (aC (Au true) (ai 2) (lR aB))) (bI (aC vX (ai 3) (eX (ao (nW RH (ai 2) (ao (cb (F:=mX) (ao (ai 0) (ao (cq lU (ao (ai 2) aB)) aB)) eZ) aB)) aB))) (aR 3)))
  (dk (ai 3))))) rfl h
def F0:av->Dm Fl :=
 (az (aI (cZ (ae (fC (.int 0)) ah)) (hName 1))
 (az (cT (bW (ae (ay c4 (fC (.int 1)) (aN cY (ae (ay aM (ag 0) (fC (.int 0))) ah))) ah)) (hName 2) (cT (cW (ag 0)) (hName 3) (cT (my (aN ow (ae (ag 1) ah))) (hName 4) (eP (aJ (ay (rn true) (ay aM (ag 3) (ag 4)) (ag 1))) (cy (kh "list" a5 (ag 1) (ae (ay aM (ag 3) (ag 4)) ah))) aU))))
 (aV (ag 1))))
def uO:List D->Dm D:=eI 5 F0
def Ds:Stmt:=top 54
theorem Dt:aD ["_law_floor_here","_law_found","_law_turn","_law_turning_here","_law_one"] ["_law_floor_here"] (au Ds):=⟨rfl,rfl,rfl,by w_fin,rfl,by w_fin,by w_fin⟩
theorem TL {f:Addr} {fd:FuncData} (D:Def K mg "_law_met" Ds ["_law_floor_here"] f fd) (T:Txt mg)  :aE P w K mg base a7 1 f fd ["_law_floor_here"] (bj K 1 uO):=by
 refine D.F.ok Dt (fun _ _ _ _ h=>h.1) (fun c A o s H v Q E hr h=>?_)
 refine ⟨_,(@aZ _ _ _ _ _ (@bR (i:=1) _ _ _ _ _ _ Dt.nd rfl (by w_up) (@lM _ _ _ _ (@aj _ _ _ _ _ aK aA (by rfl))) (by rfl) (by w_up))
  (@aZ _ _ _ _ _ (@mL _ _ _ _ _ _ _ _ PassesOwn.never rfl (pg rfl T.aT (@aj _ _ _ _ _ (bF lH aK (jN lO (by rfl) T.bS lP (@aj _ _ _ _ _ (@bh _ _ _ _ _ _ _ cg (pv 0) aK (fun _ _=>rfl)) aA (by rfl)))) aA (by rfl))) (dr (i:=2) Dt.nd rfl (by w_up)) (@bg _ _ _ (@mL _ _ _ _ _ _ _ _ PassesOwn.never rfl (pN (pv 0)) (dr (i:=3) Dt.nd rfl (by w_up)) (@bg _ _ _ (@mL _ _ _ _ _ _ _ _ PassesOwn.never rfl (HD (gx HQ (by rfl) T.dQ qN (@aj _ _ _ _ _ (pv 1) aA (by rfl)))) (dr (i:=4) Dt.nd rfl (by w_up)) (@bg _ _ _ (@jC _ _ _ _ _ _ _ _ (fW E3 (@bh _ _ _ _ _ _ _ cg (pv 3) (pv 4) (fun _ _=>rfl)) (pv 1) (by with_unfolding_all rfl)) (@bg _ _ _ (pM (og PySem.F.plainAttrs_list PySem.F.slot_list_append PySem.F.type_list_append pO (pv 1) (@aj _ _ _ _ _ (@bh _ _ _ _ _ _ _ cg (pv 3) (pv 4) (fun _ _=>rfl)) aA (by rfl))))) kg)) (by intro _;rfl))) (by intro _;rfl))) (by intro _;rfl))
  (@bg _ _ _ (@dj _ _ _ _ (pv 1))))),?_⟩
 exact fm (b:=F0) (a6 (bI (lR (ao (aL _) aB)) (aR 1))
  (a6 (mS (pF (ao (aC lI (aL _) (cq lU (ao (aC bU (ai 0) (aL _)) aB))) aB)) (aR 2) (mS (pT (ai 0)) (aR 3) (mS (Jt (cq Js (ao (ai 1) aB))) (aR 4) (jF (fR (aC (CH true) (aC bU (ai 3) (ai 4)) (ai 1))) (pS (nW pR (ai 1) (ao (aC bU (ai 3) (ai 4)) aB))) kj))))
  (dk (ai 1)))) rfl h
def F3:av->Dm Fl :=
 (az (aI (aN mX (ae (ag 0) (ae (fC (.int 6)) ah))) (hName 2))
 (az (sE 3 4 (ae (aN ow (ae (aN zw (ae (ag 0) (ae (ag 1) ah))) ah)) (ae (aN ow (ae (aN zw (ae (ag 0) (ae (ag 1) ah))) ah)) ah)))
 (az (eP (aJ (ay (jE false) (ag 2) (fC (.int 0)))) (aI (ay nZ (aN dP (ae (aN fu (ae (fC (.int 1)) (ae (ag 1) ah))) ah)) (cZ (ae (fC (.int 0)) ah))) (hName 3)) aU)
 (az (eP (aJ (ay (jE false) (ag 2) (fC (.int 1)))) (sE 3 4 (ae (aN dP (ae (aN iI (ae (ag 1) ah)) ah)) (ae (ay nZ (aN dP (ae (aN fu (ae (fC (.int 1)) (ae (ag 1) ah))) ah)) (cZ (ae (fC (.int 0)) ah))) ah))) aU)
 (az (eP (aJ (ay (jE false) (ag 2) (fC (.int 2)))) (az (aI (ay c4 (fC (.int 1)) (aN mX (ae (ag 0) (ae (ag 1) ah)))) (hName 5))
 (az (aI (ay nZ (ay nZ (aN dP (ae (aN fu (ae (fC (.int 1)) (ae (ag 5) ah))) ah)) (cZ (ae (fC (.int 0)) ah))) (aN dP (ae (aN fu (ae (ag 5) (ae (ag 1) ah))) ah))) (hName 3))
 (az (aI (CB uF (ay nZ (ay nZ (ay nZ (cZ (ae (ag 5) ah)) (aN dP (ae (aN fu (ae (fC (.int 1)) (ae (ag 5) ah))) ah))) (aN dP (ae (aN fu (ae (ay c4 (ag 5) (fC (.int 1))) (ae (ag 1) ah))) ah))) (cZ (ae (fC (.int 0)) ah))) nt (pB (ag 1))) (hName 4))
 (eP (aJ (ay (jE false) (ag 5) (ag 1))) (aI (aN dP (ae (aN iI (ae (ag 1) ah)) ah)) (hName 4)) aU)))) aU)
 (az (aI (bq (ae (aN bM (ae (ag 3) ah)) (ae (aN bM (ae (ag 4) ah)) ah))) (hName 6))
 (az (aI (c5 (bW (ae (ag 1) ah)) 1 [6] (hName 0) (aJ (ay (rn true) (ag 0) (aN uO (ae (ag 1) ah)))) (ag 0)) (hName 7))
 (az (iJ (aJ (ay (iH true) (ag 7) (cZ ah))) (az (aI (ay cc (ag 7) (fC (.int 0))) (hName 8))
 (az (aI (bq (ae (ay cc (ag 3) (ag 8)) (ae (ay cc (ag 3) (fC (.int 0))) ah))) (kW 2 (bA (hSub (ag 3) (fC (.int 0))) (bA (hSub (ag 3) (ag 8)) lV))))
 (az (aI (bq (ae (aN bM (ae (ag 3) ah)) (ae (aN bM (ae (ag 4) ah)) ah))) (hName 6))
 (aI (c5 (bW (ae (ag 1) ah)) 1 [6] (hName 0) (aJ (ay (rn true) (ag 0) (aN uO (ae (ag 1) ah)))) (ag 0)) (hName 7))))))
 (aV (ag 6))))))))))
def zx:List D->Dm D:=eI 9 F3
def Du:Stmt:=top 55
theorem qF:aD ["_law_feed_here","_law_n","_law_form_here","_law_right","_law_up","_law_wide","_law_found","_law_apart","_law_m"] ["_law_feed_here","_law_n"] (au Du):=⟨rfl,rfl,rfl,by w_fin,rfl,by w_fin,by w_fin⟩
theorem TM {f:Addr} {fd:FuncData} (D:Def K mg "_law_floor" Du ["_law_feed_here","_law_n"] f fd) (T:Txt mg)  {bw:Addr} {bx:FuncData} (aP:Def K mg "_law_take" wC ["_law_feed_here","_law_many"] bw bx) (aQ:aE P w K mg base a7 1 bw bx ["_law_feed_here","_law_many"] (bj K 2 mX)) {d6:Addr} {d7:FuncData} (c6:Def K mg "_law_turning" Dr ["_law_feed_here","_law_n"] d6 d7) (d8:aE P w K mg base a7 2 d6 d7 ["_law_feed_here","_law_n"] (bj K 2 zw)) {kl:Addr} {km:FuncData} (iE:Def K mg "_law_met" Ds ["_law_floor_here"] kl km) (kn:aE P w K mg base a7 1 kl km ["_law_floor_here"] (bj K 1 uO)):aE P w K mg base a7 3 f fd ["_law_feed_here","_law_n"] (bj K 2 zx):=by
 refine D.F.ok qF (fun _ _ _ _ h=>h.1) (fun c A o s H v Q E hr h=>?_)
 have hu:=hr.units
 refine ⟨_,(@aZ _ _ _ _ _ (@bR (i:=2) _ _ _ _ _ _ qF.nd rfl (by w_up) (cf aQ aP hr (by decide) rfl (@aj _ _ _ _ _ (pv 0) (@aj _ _ _ _ _ aK aA (by rfl)) (by rfl))) (by rfl) (by w_up))
  (@aZ _ _ _ _ _ (KJ (i:=3) (j:=4) rfl qF.nd rfl rfl (by decide) rfl rfl (@aj _ _ _ _ _ (gx HQ (by rfl) T.dQ qN (@aj _ _ _ _ _ (cf d8 c6 hr (by decide) rfl (@aj _ _ _ _ _ (pv 0) (@aj _ _ _ _ _ (pv 1) aA (by rfl)) (by rfl))) aA (by rfl))) (@aj _ _ _ _ _ (gx HQ (by rfl) T.dQ qN (@aj _ _ _ _ _ (cf d8 c6 hr (by decide) rfl (@aj _ _ _ _ _ (pv 0) (@aj _ _ _ _ _ (pv 1) aA (by rfl)) (by rfl))) aA (by rfl))) aA (by rfl)) (by rfl)) rfl)
  (@aZ _ _ _ _ _ (@jC _ _ _ _ _ _ _ _ (fW n9 (pv 2) aK (aO _)) (@bg _ _ _ (@bR (i:=3) _ _ _ _ _ _ qF.nd rfl (by w_up) (bF xE (gx (tD rfl) (by rfl) T.dQ qN (@aj _ _ _ _ _ (gx Ac (by rfl) T.aT tw (@aj _ _ _ _ _ aK (@aj _ _ _ _ _ (pv 1) aA (by rfl)) (by rfl))) aA (by rfl))) (@lM _ _ _ _ (@aj _ _ _ _ _ aK aA (by rfl)))) (by rfl) (by w_up))) kg)
  (@aZ _ _ _ _ _ (@jC _ _ _ _ _ _ _ _ (fW n9 (pv 2) aK (aO _)) (@bg _ _ _ (KJ (i:=3) (j:=4) rfl qF.nd rfl rfl (by decide) rfl rfl (@aj _ _ _ _ _ (gx (tD rfl) (by rfl) T.dQ qN (@aj _ _ _ _ _ (gx E8 (by rfl) T.aT tw (@aj _ _ _ _ _ (pv 1) aA (by rfl))) aA (by rfl))) (@aj _ _ _ _ _ (bF xE (gx (tD rfl) (by rfl) T.dQ qN (@aj _ _ _ _ _ (gx Ac (by rfl) T.aT tw (@aj _ _ _ _ _ aK (@aj _ _ _ _ _ (pv 1) aA (by rfl)) (by rfl))) aA (by rfl))) (@lM _ _ _ _ (@aj _ _ _ _ _ aK aA (by rfl)))) aA (by rfl)) (by rfl)) rfl)) kg)
  (@aZ _ _ _ _ _ (@jC _ _ _ _ _ _ _ _ (fW n9 (pv 2) aK (aO _)) (@aZ _ _ _ _ _ (@bR (i:=5) _ _ _ _ _ _ qF.nd rfl (by w_up) (bF lH aK (cf aQ aP hr (by decide) rfl (@aj _ _ _ _ _ (pv 0) (@aj _ _ _ _ _ (pv 1) aA (by rfl)) (by rfl)))) (by rfl) (by w_up))
  (@aZ _ _ _ _ _ (@bR (i:=3) _ _ _ _ _ _ qF.nd rfl (by w_up) (bF xE (bF xE (gx (tD rfl) (by rfl) T.dQ qN (@aj _ _ _ _ _ (gx Ac (by rfl) T.aT tw (@aj _ _ _ _ _ aK (@aj _ _ _ _ _ (pv 5) aA (by rfl)) (by rfl))) aA (by rfl))) (@lM _ _ _ _ (@aj _ _ _ _ _ aK aA (by rfl)))) (gx (tD rfl) (by rfl) T.dQ qN (@aj _ _ _ _ _ (gx Ac (by rfl) T.aT tw (@aj _ _ _ _ _ (pv 5) (@aj _ _ _ _ _ (pv 1) aA (by rfl)) (by rfl))) aA (by rfl)))) (by rfl) (by w_up))
  (@aZ _ _ _ _ _ (@bR (i:=4) _ _ _ _ _ _ qF.nd rfl (by w_up) (Lj Pd (bF xE (bF xE (bF xE (@lM _ _ _ _ (@aj _ _ _ _ _ (pv 5) aA (by rfl))) (gx (tD rfl) (by rfl) T.dQ qN (@aj _ _ _ _ _ (gx Ac (by rfl) T.aT tw (@aj _ _ _ _ _ aK (@aj _ _ _ _ _ (pv 5) aA (by rfl)) (by rfl))) aA (by rfl)))) (gx (tD rfl) (by rfl) T.dQ qN (@aj _ _ _ _ _ (gx Ac (by rfl) T.aT tw (@aj _ _ _ _ _ (bF lH (pv 5) aK) (@aj _ _ _ _ _ (pv 1) aA (by rfl)) (by rfl))) aA (by rfl)))) (@lM _ _ _ _ (@aj _ _ _ _ _ aK aA (by rfl)))) Lg (Lh (pv 1))) (by rfl) (by w_up))
  (@bg _ _ _ (@jC _ _ _ _ _ _ _ _ (fW n9 (pv 5) (pv 1) (aO _)) (@bg _ _ _ (@bR (i:=4) _ _ _ _ _ _ qF.nd rfl (by w_up) (gx (tD rfl) (by rfl) T.dQ qN (@aj _ _ _ _ _ (gx E8 (by rfl) T.aT tw (@aj _ _ _ _ _ (pv 1) aA (by rfl))) aA (by rfl))) (by rfl) (by w_up))) kg))))) kg)
  (@aZ _ _ _ _ _ (@bR (i:=6) _ _ _ _ _ _ qF.nd rfl (by w_up) (@eW _ _ _ _ _ (@aj _ _ _ _ _ (gx oe (by rfl) T.bG oh (@aj _ _ _ _ _ (pv 3) aA (by rfl))) (@aj _ _ _ _ _ (gx oe (by rfl) T.bG oh (@aj _ _ _ _ _ (pv 4) aA (by rfl))) aA (by rfl)) (by rfl))) (by rfl) (by w_up))
  (@aZ _ _ _ _ _ (LL (i:=7) (own:=["_law_s"]) (fr:=["_law_found"]) (js:=[6]) rfl qF.nd rfl rfl ⟨⟨rfl,by w_fin,by w_fin,by dsimp only [g9,aS,Cx.n8,Cx.wish,PyProof.Rows.envOfC,compEnvC,relabel,Env.kindOf];decide +kernel,by w_fin⟩,rfl⟩ (pg rfl T.aT (@aj _ _ _ _ _ (pv 1) aA (by rfl))) (fun _ _ _ _ _=>(dr (i:=0) (show ((["_law_s"]:List Str) ++ (["_law_found"]:List Str)).Nodup by w_fin) rfl (by w_up))) (fun _ _ _ _ _=>(LG (fW (LN (K:=K) rfl) (pv 0) (cf kn iE hr (by decide) rfl (@aj _ _ _ _ _ (pv 1) aA (by rfl))) (by with_unfolding_all rfl)))) (fun _ _ _ _ _=>(pv 0)))
  (@aZ _ _ _ _ _ (xl PassesOwn.never (fW (Ih hu) (pv 7) (@lM _ _ _ _ aA) (aO _)) (@aZ _ _ _ _ _ (@bR (i:=8) _ _ _ _ _ _ qF.nd rfl (by w_up) (@bh _ _ _ _ _ _ _ mN (pv 7) aK (fun _ _=>rfl)) (by rfl) (by w_up))
  (@aZ _ _ _ _ _ (ud (@eW _ _ _ _ _ (@aj _ _ _ _ _ (@bh _ _ _ _ _ _ _ mN (pv 3) (pv 8) (fun _ _=>rfl)) (@aj _ _ _ _ _ (@bh _ _ _ _ _ _ _ mN (pv 3) aK (fun _ _=>rfl)) aA (by rfl)) (by rfl))) (tq (n:=2) rfl (mK (zU (pv 3) aK Aa) (mK (zU (pv 3) (pv 8) Aa) tm))))
  (@aZ _ _ _ _ _ (@bR (i:=6) _ _ _ _ _ _ qF.nd rfl (by w_up) (@eW _ _ _ _ _ (@aj _ _ _ _ _ (gx oe (by rfl) T.bG oh (@aj _ _ _ _ _ (pv 3) aA (by rfl))) (@aj _ _ _ _ _ (gx oe (by rfl) T.bG oh (@aj _ _ _ _ _ (pv 4) aA (by rfl))) aA (by rfl)) (by rfl))) (by rfl) (by w_up))
  (@bg _ _ _ (LL (i:=7) (own:=["_law_s"]) (fr:=["_law_found"]) (js:=[6]) rfl qF.nd rfl rfl ⟨⟨rfl,by w_fin,by w_fin,by dsimp only [g9,aS,Cx.n8,Cx.wish,PyProof.Rows.envOfC,compEnvC,relabel,Env.kindOf];decide +kernel,by w_fin⟩,rfl⟩ (pg rfl T.aT (@aj _ _ _ _ _ (pv 1) aA (by rfl))) (fun _ _ _ _ _=>(dr (i:=0) (show ((["_law_s"]:List Str) ++ (["_law_found"]:List Str)).Nodup by w_fin) rfl (by w_up))) (fun _ _ _ _ _=>(LG (fW (LN (K:=K) rfl) (pv 0) (cf kn iE hr (by decide) rfl (@aj _ _ _ _ _ (pv 1) aA (by rfl))) (by with_unfolding_all rfl)))) (fun _ _ _ _ _=>(pv 0))))))))
  (@bg _ _ _ (@dj _ _ _ _ (pv 6))))))))))),?_⟩
 exact fm (b:=F3) (a6 (bI (cb (F:=mX) (ao (ai 0) (ao (aL _) aB)) eZ) (aR 2))
  (a6 (M4 (ao (cq Js (ao (cb (F:=zw) (ao (ai 0) (ao (ai 1) aB)) eZ) aB)) (ao (cq Js (ao (cb (F:=zw) (ao (ai 0) (ao (ai 1) aB)) eZ) aB)) aB)))
  (a6 (jF (fR (aC ou (ai 2) (aL _))) (bI (aC yj (cq tM (ao (cq Av (ao (aL _) (ao (ai 1) aB))) aB)) (lR (ao (aL _) aB))) (aR 3)) kj)
  (a6 (jF (fR (aC ou (ai 2) (aL _))) (M4 (ao (cq tM (ao (cq FH (ao (ai 1) aB)) aB)) (ao (aC yj (cq tM (ao (cq Av (ao (aL _) (ao (ai 1) aB))) aB)) (lR (ao (aL _) aB))) aB))) kj)
  (a6 (jF (fR (aC ou (ai 2) (aL _))) (a6 (bI (aC lI (aL _) (cb (F:=mX) (ao (ai 0) (ao (ai 1) aB)) eZ)) (aR 5))
  (a6 (bI (aC yj (aC yj (cq tM (ao (cq Av (ao (aL _) (ao (ai 5) aB))) aB)) (lR (ao (aL _) aB))) (cq tM (ao (cq Av (ao (ai 5) (ao (ai 1) aB))) aB))) (aR 3))
  (a6 (bI (vT yi (aC yj (aC yj (aC yj (lR (ao (ai 5) aB)) (cq tM (ao (cq Av (ao (aL _) (ao (ai 5) aB))) aB))) (cq tM (ao (cq Av (ao (aC lI (ai 5) (aL _)) (ao (ai 1) aB))) aB))) (lR (ao (aL _) aB))) MR (MS (ai 1))) (aR 4))
  (jF (fR (aC ou (ai 5) (ai 1))) (bI (cq tM (ao (cq FH (ao (ai 1) aB)) aB)) (aR 4)) kj)))) kj)
  (a6 (bI (eX (ao (cq oy (ao (ai 3) aB)) (ao (cq oy (ao (ai 4) aB)) aB))) (aR 6))
  (a6 (bI (qB (pF (ao (ai 1) aB)) (aR 0) (fR (aC (CH true) (ai 0) (cb (F:=uO) (ao (ai 1) aB) kL))) (ai 0)) (aR 7))
  (a6 (yn (fR (aC (Au true) (ai 7) (lR aB))) (a6 (bI (aC jS (ai 7) (aL _)) (aR 8))
  (a6 (bI (eX (ao (aC jS (ai 3) (ai 8)) (ao (aC jS (ai 3) (aL _)) aB))) (tP (mQ (Aw (ai 3) (aL _)) (mQ (Aw (ai 3) (ai 8)) tO))))
  (a6 (bI (eX (ao (cq oy (ao (ai 3) aB)) (ao (cq oy (ao (ai 4) aB)) aB))) (aR 6))
  (bI (qB (pF (ao (ai 1) aB)) (aR 0) (fR (aC (CH true) (ai 0) (cb (F:=uO) (ao (ai 1) aB) kL))) (ai 0)) (aR 7))))))
  (dk (ai 6)))))))))) rfl h
def F4:av->Dm Fl :=
 (az (aI (ay sC (cZ (ae (fC (.int 0)) ah)) (aN cY (ae (ag 0) ah))) (hName 1))
 (az (cT (nK (ae (ag 0) ah)) (kW 2 (bA (hName 2) (bA (hName 3) lV))) (aI (ag 2) (hSub (ag 1) (ag 3))))
 (aV (aN bM (ae (ag 1) ah)))))
def sS:List D->Dm D:=eI 4 F4
def zy:Stmt:=top 6
theorem F5:aD ["turning","back","number","led"] ["turning"] (au zy):=⟨rfl,rfl,rfl,by w_fin,rfl,by w_fin,by w_fin⟩
theorem TN {f:Addr} {fd:FuncData} (D:Def K mg "turned_back" zy ["turning"] f fd) (T:Txt mg)  :aE P w K mg base a7 1 f fd ["turning"] (bj K 1 sS):=by
 refine D.F.ok F5 (fun _ _ _ _ h=>h.1) (fun c A o s H v Q E hr h=>?_)
 refine ⟨_,(@aZ _ _ _ _ _ (@bR (i:=1) _ _ _ _ _ _ F5.nd rfl (by w_up) (bF Lq (@lM _ _ _ _ (@aj _ _ _ _ _ aK aA (by rfl))) (jN lO (by rfl) T.bS lP (@aj _ _ _ _ _ (pv 0) aA (by rfl)))) (by rfl) (by w_up))
  (@aZ _ _ _ _ _ (@mL _ _ _ _ _ _ _ _ PassesOwn.never rfl (LP rfl T.mW (@aj _ _ _ _ _ (pv 0) aA (by rfl))) (tq (n:=2) rfl (mK (dr (i:=2) F5.nd rfl (by w_up)) (mK (dr (i:=3) F5.nd rfl (by w_up)) tm))) (@bg _ _ _ (ud (pv 2) (zU (pv 1) (pv 3) Aa))) (by intro _;rfl))
  (@bg _ _ _ (@dj _ _ _ _ (gx oe (by rfl) T.bG oh (@aj _ _ _ _ _ (pv 1) aA (by rfl))))))),?_⟩
 exact fm (b:=F4) (a6 (bI (aC M3 (lR (ao (aL _) aB)) (cq lU (ao (ai 0) aB))) (aR 1))
  (a6 (mS (M7 (ao (ai 0) aB)) (tP (mQ (aR 2) (mQ (aR 3) tO))) (bI (ai 2) (Aw (ai 1) (ai 3))))
  (dk (cq oy (ao (ai 1) aB))))) rfl h
def F6:av->Dm Fl :=
 (aV (aN bM (ae (c5 (cW (ag 0)) 1 [1] (hName 0) dw (ay aM (ag 1) (ag 0))) ah)))
def qG:List D->Dm D:=eI 2 F6
def AE:Stmt:=top 5
theorem TQ:aD ["one","other"] ["one","other"] (au AE):=⟨rfl,rfl,rfl,by w_fin,rfl,by w_fin,by w_fin⟩
theorem TR {f:Addr} {fd:FuncData} (D:Def K mg "followed" AE ["one","other"] f fd) (T:Txt mg)  :aE P w K mg base a7 1 f fd ["one","other"] (bj K 2 qG):=by
 refine D.F.ok TQ (fun _ _ _ _ h=>h.1) (fun c A o s H v Q E hr h=>?_)
 refine ⟨_,(@bg _ _ _ (@dj _ _ _ _ (gx oe (by rfl) T.bG oh (@aj _ _ _ _ _ (rh (own:=["number"]) (fr:=["other"]) (js:=[1]) rfl ⟨⟨rfl,by w_fin,by w_fin,by dsimp only [g9,aS,Cx.n8,Cx.wish,PyProof.Rows.envOfC,compEnvC,relabel,Env.kindOf];decide +kernel,by w_fin⟩,rfl⟩ (pN (pv 0)) (fun _ _ _ _ _=>(dr (i:=0) (show ((["number"]:List Str) ++ (["other"]:List Str)).Nodup by w_fin) rfl (by w_up))) (fun _ _ _ _ _=>rg) (fun _ _ _ _ _=>(@bh _ _ _ _ _ _ _ (Ah (K:=K) rfl) (pv 1) (pv 0) (fun _ _=>rfl)))) aA (by rfl))))),?_⟩
 exact fm (b:=F6) (dk (cq oy (ao (qB (pT (ai 0)) (aR 0) rq (aC bU (ai 1) (ai 0))) aB))) rfl h
def F7:av->Dm Fl :=
 (az (aI (aN sS (ae (ag 1) ah)) (hName 2))
 (az (aI (aN qG (ae (aN qG (ae (ag 2) (ae (ay aM (ag 0) (fC (.int 0))) ah))) (ae (ag 1) ah))) (hName 3))
 (az (aI (aN qG (ae (aN qG (ae (ag 2) (ae (ay aM (ag 0) (fC (.int 1))) ah))) (ae (ag 1) ah))) (hName 4))
 (aV (bq (ae (ag 3) (ae (ag 4) ah)))))))
def Dw:List D->Dm D:=eI 5 F7
def Dx:Stmt:=top 13
theorem F8:aD ["floor","p","back","right","up"] ["floor","p"] (au Dx):=⟨rfl,rfl,rfl,by w_fin,rfl,by w_fin,by w_fin⟩
theorem TU {f:Addr} {fd:FuncData} (D:Def K mg "called_anew" Dx ["floor","p"] f fd) (T:Txt mg)  {bC:Addr} {bD:FuncData} (bE:Def K mg "turned_back" zy ["turning"] bC bD) (bK:aE P w K mg base a7 1 bC bD ["turning"] (bj K 1 sS)) {dR:Addr} {dS:FuncData} (cD:Def K mg "followed" AE ["one","other"] dR dS) (cU:aE P w K mg base a7 1 dR dS ["one","other"] (bj K 2 qG)):aE P w K mg base a7 2 f fd ["floor","p"] (bj K 2 Dw):=by
 refine D.F.ok F8 (fun _ _ _ _ h=>h.1) (fun c A o s H v Q E hr h=>?_)
 refine ⟨_,(@aZ _ _ _ _ _ (@bR (i:=2) _ _ _ _ _ _ F8.nd rfl (by w_up) (cf bK bE hr (by decide) rfl (@aj _ _ _ _ _ (pv 1) aA (by rfl))) (by rfl) (by w_up))
  (@aZ _ _ _ _ _ (@bR (i:=3) _ _ _ _ _ _ F8.nd rfl (by w_up) (cf cU cD hr (by decide) rfl (@aj _ _ _ _ _ (cf cU cD hr (by decide) rfl (@aj _ _ _ _ _ (pv 2) (@aj _ _ _ _ _ (@bh _ _ _ _ _ _ _ cg (pv 0) aK (fun _ _=>rfl)) aA (by rfl)) (by rfl))) (@aj _ _ _ _ _ (pv 1) aA (by rfl)) (by rfl))) (by rfl) (by w_up))
  (@aZ _ _ _ _ _ (@bR (i:=4) _ _ _ _ _ _ F8.nd rfl (by w_up) (cf cU cD hr (by decide) rfl (@aj _ _ _ _ _ (cf cU cD hr (by decide) rfl (@aj _ _ _ _ _ (pv 2) (@aj _ _ _ _ _ (@bh _ _ _ _ _ _ _ cg (pv 0) aK (fun _ _=>rfl)) aA (by rfl)) (by rfl))) (@aj _ _ _ _ _ (pv 1) aA (by rfl)) (by rfl))) (by rfl) (by w_up))
  (@bg _ _ _ (@dj _ _ _ _ (@eW _ _ _ _ _ (@aj _ _ _ _ _ (pv 3) (@aj _ _ _ _ _ (pv 4) aA (by rfl)) (by rfl)))))))),?_⟩
 exact fm (b:=F7) (a6 (bI (cb (F:=sS) (ao (ai 1) aB) kL) (aR 2))
  (a6 (bI (cb (F:=qG) (ao (cb (F:=qG) (ao (ai 2) (ao (aC bU (ai 0) (aL _)) aB)) eZ) (ao (ai 1) aB)) eZ) (aR 3))
  (a6 (bI (cb (F:=qG) (ao (cb (F:=qG) (ao (ai 2) (ao (aC bU (ai 0) (aL _)) aB)) eZ) (ao (ai 1) aB)) eZ) (aR 4))
  (dk (eX (ao (ai 3) (ao (ai 4) aB))))))) rfl h
def F9:av->Dm Fl :=
 (az (aI (cZ (ae (ag 1) ah)) (hName 2))
 (az (aI (fC (.int 0)) (hName 3))
 (az (iJ (aJ (ay vV (ag 3) (aN cY (ae (ag 2) ah)))) (az (cT (cW (ag 0)) (hName 4) (az (aI (ay aM (ag 4) (ay cc (ag 2) (ag 3))) (hName 5))
 (eP (aJ (ay (rn true) (ag 5) (ag 2))) (cy (kh "list" a5 (ag 2) (ae (ag 5) ah))) aU)))
 (aI (ay c4 (ag 3) (fC (.int 1))) (hName 3))))
 (aV (aN bM (ae (ag 2) ah))))))
def Dy:List D->Dm D:=eI 6 F9
def Dz:Stmt:=top 11
theorem AF:aD ["floor","s","squares","place","turning","reached"] ["floor","s"] (au Dz):=⟨rfl,rfl,rfl,by w_fin,rfl,by w_fin,by w_fin⟩
theorem TV {f:Addr} {fd:FuncData} (D:Def K mg "squares_from" Dz ["floor","s"] f fd) (T:Txt mg)  :aE P w K mg base a7 1 f fd ["floor","s"] (bj K 2 Dy):=by
 refine D.F.ok AF (fun _ _ _ _ h=>h.1) (fun c A o s H v Q E hr h=>?_)
 refine ⟨_,(@aZ _ _ _ _ _ (@bR (i:=2) _ _ _ _ _ _ AF.nd rfl (by w_up) (@lM _ _ _ _ (@aj _ _ _ _ _ (pv 1) aA (by rfl))) (by rfl) (by w_up))
  (@aZ _ _ _ _ _ (@bR (i:=3) _ _ _ _ _ _ AF.nd rfl (by w_up) aK (by rfl) (by w_up))
  (@aZ _ _ _ _ _ (xl PassesOwn.never (fW zW (pv 3) (jN lO (by rfl) T.bS lP (@aj _ _ _ _ _ (pv 2) aA (by rfl))) (aO _)) (@aZ _ _ _ _ _ (@mL _ _ _ _ _ _ _ _ PassesOwn.never rfl (pN (pv 0)) (dr (i:=4) AF.nd rfl (by w_up)) (@aZ _ _ _ _ _ (@bR (i:=5) _ _ _ _ _ _ AF.nd rfl (by w_up) (@bh _ _ _ _ _ _ _ cg (pv 4) (@bh _ _ _ _ _ _ _ mN (pv 2) (pv 3) (fun _ _=>rfl)) (fun _ _=>rfl)) (by rfl) (by w_up))
  (@bg _ _ _ (@jC _ _ _ _ _ _ _ _ (fW E3 (pv 5) (pv 2) (by with_unfolding_all rfl)) (@bg _ _ _ (pM (og PySem.F.plainAttrs_list PySem.F.slot_list_append PySem.F.type_list_append pO (pv 2) (@aj _ _ _ _ _ (pv 5) aA (by rfl))))) kg))) (by intro _;rfl))
  (@bg _ _ _ (@bR (i:=3) _ _ _ _ _ _ AF.nd rfl (by w_up) (bF lH (pv 3) aK) (by rfl) (by w_up)))))
  (@bg _ _ _ (@dj _ _ _ _ (gx oe (by rfl) T.bG oh (@aj _ _ _ _ _ (pv 2) aA (by rfl)))))))),?_⟩
 exact fm (b:=F9) (a6 (bI (lR (ao (ai 1) aB)) (aR 2))
  (a6 (bI (aL _) (aR 3))
  (a6 (yn (fR (aC Ap (ai 3) (cq lU (ao (ai 2) aB)))) (a6 (mS (pT (ai 0)) (aR 4) (a6 (bI (aC bU (ai 4) (aC jS (ai 2) (ai 3))) (aR 5))
  (jF (fR (aC (CH true) (ai 5) (ai 2))) (pS (nW pR (ai 2) (ao (ai 5) aB))) kj)))
  (bI (aC lI (ai 3) (aL _)) (aR 3))))
  (dk (cq oy (ao (ai 2) aB)))))) rfl h
def Ga:av->Dm Fl :=
 (aV (aN sS (ae (aN Dy (ae (ag 0) (ae (ag 1) ah))) ah)))
def DA:List D->Dm D:=eI 2 Ga
def DB:Stmt:=top 14
theorem TX:aD ["floor","s"] ["floor","s"] (au DB):=⟨rfl,rfl,rfl,by w_fin,rfl,by w_fin,by w_fin⟩
theorem TY {f:Addr} {fd:FuncData} (D:Def K mg "numbering_from" DB ["floor","s"] f fd) (T:Txt mg)  {bC:Addr} {bD:FuncData} (bE:Def K mg "turned_back" zy ["turning"] bC bD) (bK:aE P w K mg base a7 1 bC bD ["turning"] (bj K 1 sS)) {d9:Addr} {eh:FuncData} (eo:Def K mg "squares_from" Dz ["floor","s"] d9 eh) (hU:aE P w K mg base a7 1 d9 eh ["floor","s"] (bj K 2 Dy)):aE P w K mg base a7 2 f fd ["floor","s"] (bj K 2 DA):=by
 refine D.F.ok TX (fun _ _ _ _ h=>h.1) (fun c A o s H v Q E hr h=>?_)
 refine ⟨_,(@bg _ _ _ (@dj _ _ _ _ (cf bK bE hr (by decide) rfl (@aj _ _ _ _ _ (cf hU eo hr (by decide) rfl (@aj _ _ _ _ _ (pv 0) (@aj _ _ _ _ _ (pv 1) aA (by rfl)) (by rfl))) aA (by rfl))))),?_⟩
 exact fm (b:=Ga) (dk (cb (F:=sS) (ao (cb (F:=Dy) (ao (ai 0) (ao (ai 1) aB)) eZ) aB) kL)) rfl h
def Gb:av->Dm Fl :=
 (aV (aN Dw (ae (ag 0) (ae (aN DA (ae (ag 0) (ae (ag 1) ah))) ah))))
def DC:List D->Dm D:=eI 2 Gb
def DE:Stmt:=top 15
theorem T1:aD ["floor","s"] ["floor","s"] (au DE):=⟨rfl,rfl,rfl,by w_fin,rfl,by w_fin,by w_fin⟩
theorem T2 {f:Addr} {fd:FuncData} (D:Def K mg "numbered_from" DE ["floor","s"] f fd) (T:Txt mg)  {fw:Addr} {fz:FuncData} (fA:Def K mg "called_anew" Dx ["floor","p"] fw fz) (iL:aE P w K mg base a7 2 fw fz ["floor","p"] (bj K 2 Dw)) {c7:Addr} {c9:FuncData} (dc:Def K mg "numbering_from" DB ["floor","s"] c7 c9) (e7:aE P w K mg base a7 2 c7 c9 ["floor","s"] (bj K 2 DA)):aE P w K mg base a7 3 f fd ["floor","s"] (bj K 2 DC):=by
 refine D.F.ok T1 (fun _ _ _ _ h=>h.1) (fun c A o s H v Q E hr h=>?_)
 refine ⟨_,(@bg _ _ _ (@dj _ _ _ _ (cf iL fA hr (by decide) rfl (@aj _ _ _ _ _ (pv 0) (@aj _ _ _ _ _ (cf e7 dc hr (by decide) rfl (@aj _ _ _ _ _ (pv 0) (@aj _ _ _ _ _ (pv 1) aA (by rfl)) (by rfl))) aA (by rfl)) (by rfl))))),?_⟩
 exact fm (b:=Gb) (dk (cb (F:=Dw) (ao (ai 0) (ao (cb (F:=DA) (ao (ai 0) (ao (ai 1) aB)) eZ) aB)) eZ)) rfl h
def Gd:av->Dm Fl :=
 (aV (aN mV (ae (c5 (bW (ae (aN cY (ae (ay aM (ag 0) (fC (.int 0))) ah)) ah)) 1 [0] (hName 0) dw (aN DC (ae (ag 1) (ae (ag 0) ah)))) ah)))
def qH:List D->Dm D:=eI 1 Gd
def wG:Stmt:=top 16
theorem T3:aD ["floor"] ["floor"] (au wG):=⟨rfl,rfl,rfl,by w_fin,rfl,by w_fin,by w_fin⟩
theorem T5 {f:Addr} {fd:FuncData} (D:Def K mg "form_of" wG ["floor"] f fd) (T:Txt mg)  {dA:Addr} {dB:FuncData} (dC:Def K mg "numbered_from" DE ["floor","s"] dA dB) (gf:aE P w K mg base a7 3 dA dB ["floor","s"] (bj K 2 DC)):aE P w K mg base a7 4 f fd ["floor"] (bj K 1 qH):=by
 refine D.F.ok T3 (fun _ _ _ _ h=>h.1) (fun c A o s H v Q E hr h=>?_)
 have hu:=hr.units
 refine ⟨_,(@bg _ _ _ (@dj _ _ _ _ (jN (L7 rfl hu) (by rfl) T.sR HZ (@aj _ _ _ _ _ (rh (own:=["s"]) (fr:=["floor"]) (js:=[0]) rfl ⟨⟨rfl,by w_fin,by w_fin,by dsimp only [g9,aS,Cx.n8,Cx.wish,PyProof.Rows.envOfC,compEnvC,relabel,Env.kindOf];decide +kernel,by w_fin⟩,rfl⟩ (pg rfl T.aT (@aj _ _ _ _ _ (jN lO (by rfl) T.bS lP (@aj _ _ _ _ _ (@bh _ _ _ _ _ _ _ cg (pv 0) aK (fun _ _=>rfl)) aA (by rfl))) aA (by rfl))) (fun _ _ _ _ _=>(dr (i:=0) (show ((["s"]:List Str) ++ (["floor"]:List Str)).Nodup by w_fin) rfl (by w_up))) (fun _ _ _ _ _=>rg) (fun _ _ _ _ _=>(cf gf dC hr (by decide) rfl (@aj _ _ _ _ _ (pv 1) (@aj _ _ _ _ _ (pv 0) aA (by rfl)) (by rfl))))) aA (by rfl))))),?_⟩
 exact fm (b:=Gd) (dk (cq Nt (ao (qB (pF (ao (cq lU (ao (aC bU (ai 0) (aL _)) aB)) aB)) (aR 0) rq (cb (F:=DC) (ao (ai 1) (ao (ai 0) aB)) eZ)) aB))) rfl h
def Ge:av->Dm Fl :=
 (az (aI (cZ (ae (ag 1) ah)) (hName 2))
 (az (aI (ay aM (ag 0) (ag 1)) (hName 3))
 (az (iJ (aJ (ay (jE true) (ag 3) (ag 1))) (az (cy (kh "list" a5 (ag 2) (ae (ag 3) ah)))
 (aI (ay aM (ag 0) (ag 3)) (hName 3))))
 (aV (aN bM (ae (ag 2) ah))))))
def DF:List D->Dm D:=eI 4 Ge
def DG:Stmt:=top 8
theorem Gf:aD ["turning","first","ring","reached"] ["turning","first"] (au DG):=⟨rfl,rfl,rfl,by w_fin,rfl,by w_fin,by w_fin⟩
theorem T6 {f:Addr} {fd:FuncData} (D:Def K mg "ring_from" DG ["turning","first"] f fd) (T:Txt mg)  :aE P w K mg base a7 1 f fd ["turning","first"] (bj K 2 DF):=by
 refine D.F.ok Gf (fun _ _ _ _ h=>h.1) (fun c A o s H v Q E hr h=>?_)
 refine ⟨_,(@aZ _ _ _ _ _ (@bR (i:=2) _ _ _ _ _ _ Gf.nd rfl (by w_up) (@lM _ _ _ _ (@aj _ _ _ _ _ (pv 1) aA (by rfl))) (by rfl) (by w_up))
  (@aZ _ _ _ _ _ (@bR (i:=3) _ _ _ _ _ _ Gf.nd rfl (by w_up) (@bh _ _ _ _ _ _ _ cg (pv 0) (pv 1) (fun _ _=>rfl)) (by rfl) (by w_up))
  (@aZ _ _ _ _ _ (xl PassesOwn.never (fW Bt (pv 3) (pv 1) (aO _)) (@aZ _ _ _ _ _ (pM (og PySem.F.plainAttrs_list PySem.F.slot_list_append PySem.F.type_list_append pO (pv 2) (@aj _ _ _ _ _ (pv 3) aA (by rfl))))
  (@bg _ _ _ (@bR (i:=3) _ _ _ _ _ _ Gf.nd rfl (by w_up) (@bh _ _ _ _ _ _ _ cg (pv 0) (pv 3) (fun _ _=>rfl)) (by rfl) (by w_up)))))
  (@bg _ _ _ (@dj _ _ _ _ (gx oe (by rfl) T.bG oh (@aj _ _ _ _ _ (pv 2) aA (by rfl)))))))),?_⟩
 exact fm (b:=Ge) (a6 (bI (lR (ao (ai 1) aB)) (aR 2))
  (a6 (bI (aC bU (ai 0) (ai 1)) (aR 3))
  (a6 (yn (fR (aC CF (ai 3) (ai 1))) (a6 (pS (nW pR (ai 2) (ao (ai 3) aB)))
  (bI (aC bU (ai 0) (ai 3)) (aR 3))))
  (dk (cq oy (ao (ai 2) aB)))))) rfl h
def Gg:av->Dm Fl :=
 (az (aI (cZ ah) (hName 1))
 (az (aI sI (hName 2))
 (az (cT (bW (ae (aN cY (ae (ag 0) ah)) ah)) (hName 3) (eP (aJ (uI true (ag 3) (ag 2))) (az (aI (aN DF (ae (ag 0) (ae (ag 3) ah))) (hName 4))
 (az (cy (kh "list" a5 (ag 1) (ae (ag 4) ah)))
 (cT (cW (ag 4)) (hName 5) (qC (ag 2) (ag 5) (fC (.bl true)))))) aU))
 (aV (aN bM (ae (ag 1) ah))))))
def DH:List D->Dm D:=eI 6 Gg
def DI:Stmt:=top 9
theorem AG:aD ["turning","rings","seen","first","ring","number"] ["turning"] (au DI):=⟨rfl,rfl,rfl,by w_fin,rfl,by w_fin,by w_fin⟩
theorem T7 {f:Addr} {fd:FuncData} (D:Def K mg "rings_of" DI ["turning"] f fd) (T:Txt mg)  {iM:Addr} {iN:FuncData} (iO:Def K mg "ring_from" DG ["turning","first"] iM iN) (lg:aE P w K mg base a7 1 iM iN ["turning","first"] (bj K 2 DF)):aE P w K mg base a7 2 f fd ["turning"] (bj K 1 DH):=by
 refine D.F.ok AG (fun _ _ _ _ h=>h.1) (fun c A o s H v Q E hr h=>?_)
 have hu1:=BM hr
 refine ⟨_,(@aZ _ _ _ _ _ (@bR (i:=1) _ _ _ _ _ _ AG.nd rfl (by w_up) (@lM _ _ _ _ aA) (by rfl) (by w_up))
  (@aZ _ _ _ _ _ (@bR (i:=2) _ _ _ _ _ _ AG.nd rfl (by w_up) Pp (by rfl) (by w_up))
  (@aZ _ _ _ _ _ (@mL _ _ _ _ _ _ _ _ PassesOwn.never rfl (pg rfl T.aT (@aj _ _ _ _ _ (jN lO (by rfl) T.bS lP (@aj _ _ _ _ _ (pv 0) aA (by rfl))) aA (by rfl))) (dr (i:=3) AG.nd rfl (by w_up)) (@bg _ _ _ (@jC _ _ _ _ _ _ _ _ (xf (Pm hu1 (pv 3) (pv 2))) (@aZ _ _ _ _ _ (@bR (i:=4) _ _ _ _ _ _ AG.nd rfl (by w_up) (cf lg iO hr (by decide) rfl (@aj _ _ _ _ _ (pv 0) (@aj _ _ _ _ _ (pv 3) aA (by rfl)) (by rfl))) (by rfl) (by w_up))
  (@aZ _ _ _ _ _ (pM (og PySem.F.plainAttrs_list PySem.F.slot_list_append PySem.F.type_list_append pO (pv 1) (@aj _ _ _ _ _ (pv 4) aA (by rfl))))
  (@bg _ _ _ (@mL _ _ _ _ _ _ _ _ PassesOwn.never rfl (pN (pv 4)) (dr (i:=5) AG.nd rfl (by w_up)) (@bg _ _ _ (Pn hu1 (pv 2) (pv 5) Bc rfl)) (by intro _;rfl))))) kg)) (by intro _;rfl))
  (@bg _ _ _ (@dj _ _ _ _ (gx oe (by rfl) T.bG oh (@aj _ _ _ _ _ (pv 1) aA (by rfl)))))))),?_⟩
 exact fm (b:=Gg) (a6 (bI (lR aB) (aR 1))
  (a6 (bI R5 (aR 2))
  (a6 (mS (pF (ao (cq lU (ao (ai 0) aB)) aB)) (aR 3) (jF (vR (R6 (ai 3) (ai 2))) (a6 (bI (cb (F:=DF) (ao (ai 0) (ao (ai 3) aB)) eZ) (aR 4))
  (a6 (pS (nW pR (ai 1) (ao (ai 4) aB)))
  (mS (pT (ai 4)) (aR 5) (R7 (ai 2) (ai 5) (Cy _))))) kj))
  (dk (cq oy (ao (ai 1) aB)))))) rfl h
def Gh:av->Dm Fl :=
 (az (aI (ay sC (cZ (ae (fC (.int 0)) ah)) (aN cY (ae (ag 0) ah))) (hName 2))
 (az (cT (cW (aN DH (ae (ag 0) ah))) (hName 3) (cT (nK (ae (ag 3) ah)) (kW 2 (bA (hName 4) (bA (hName 5) lV))) (aI (ay aM (ag 3) (ay jR (ay c4 (ag 4) (ag 1)) (aN cY (ae (ag 3) ah)))) (hSub (ag 2) (ag 5)))))
 (aV (aN bM (ae (ag 2) ah)))))
def DJ:List D->Dm D:=eI 6 Gh
def DK:Stmt:=top 7
theorem DL:aD ["turning","k","led","ring","place","number"] ["turning","k"] (au DK):=⟨rfl,rfl,rfl,by w_fin,rfl,by w_fin,by w_fin⟩
theorem T8 {f:Addr} {fd:FuncData} (D:Def K mg "often" DK ["turning","k"] f fd) (T:Txt mg)  {ko:Addr} {kq:FuncData} (kr:Def K mg "rings_of" DI ["turning"] ko kq) (mz:aE P w K mg base a7 2 ko kq ["turning"] (bj K 1 DH)):aE P w K mg base a7 3 f fd ["turning","k"] (bj K 2 DJ):=by
 refine D.F.ok DL (fun _ _ _ _ h=>h.1) (fun c A o s H v Q E hr h=>?_)
 refine ⟨_,(@aZ _ _ _ _ _ (@bR (i:=2) _ _ _ _ _ _ DL.nd rfl (by w_up) (bF Lq (@lM _ _ _ _ (@aj _ _ _ _ _ aK aA (by rfl))) (jN lO (by rfl) T.bS lP (@aj _ _ _ _ _ (pv 0) aA (by rfl)))) (by rfl) (by w_up))
  (@aZ _ _ _ _ _ (@mL _ _ _ _ _ _ _ _ PassesOwn.never rfl (pN (cf mz kr hr (by decide) rfl (@aj _ _ _ _ _ (pv 0) aA (by rfl)))) (dr (i:=3) DL.nd rfl (by w_up)) (@bg _ _ _ (@mL _ _ _ _ _ _ _ _ PassesOwn.never rfl (LP rfl T.mW (@aj _ _ _ _ _ (pv 3) aA (by rfl))) (tq (n:=2) rfl (mK (dr (i:=4) DL.nd rfl (by w_up)) (mK (dr (i:=5) DL.nd rfl (by w_up)) tm))) (@bg _ _ _ (ud (@bh _ _ _ _ _ _ _ cg (pv 3) (bF qL (bF lH (pv 4) (pv 1)) (jN lO (by rfl) T.bS lP (@aj _ _ _ _ _ (pv 3) aA (by rfl)))) (fun _ _=>rfl)) (zU (pv 2) (pv 5) Aa))) (by intro _;rfl))) (by intro _;rfl))
  (@bg _ _ _ (@dj _ _ _ _ (gx oe (by rfl) T.bG oh (@aj _ _ _ _ _ (pv 2) aA (by rfl))))))),?_⟩
 exact fm (b:=Gh) (a6 (bI (aC M3 (lR (ao (aL _) aB)) (cq lU (ao (ai 0) aB))) (aR 2))
  (a6 (mS (pT (cb (F:=DH) (ao (ai 0) aB) kL)) (aR 3) (mS (M7 (ao (ai 3) aB)) (tP (mQ (aR 4) (mQ (aR 5) tO))) (bI (aC bU (ai 3) (aC qU (aC lI (ai 4) (ai 1)) (cq lU (ao (ai 3) aB)))) (Aw (ai 2) (ai 5)))))
  (dk (cq oy (ao (ai 2) aB))))) rfl h
def Gi:av->Dm Fl :=
 (aV (bq (ae (ay aM (ag 0) (fC (.int 0))) (ae (aN qG (ae (aN DJ (ae (ay aM (ag 0) (fC (.int 0))) (ae (qS lS (ag 1)) ah))) (ae (ay aM (ag 0) (fC (.int 1))) ah))) ah))))
def DM:List D->Dm D:=eI 2 Gi
def DN:Stmt:=top 38
theorem T9:aD ["floor","k"] ["floor","k"] (au DN):=⟨rfl,rfl,rfl,by w_fin,rfl,by w_fin,by w_fin⟩
theorem Ua {f:Addr} {fd:FuncData} (D:Def K mg "sheared" DN ["floor","k"] f fd) (T:Txt mg)  {dR:Addr} {dS:FuncData} (cD:Def K mg "followed" AE ["one","other"] dR dS) (cU:aE P w K mg base a7 1 dR dS ["one","other"] (bj K 2 qG)) {oU:Addr} {oV:FuncData} (oW:Def K mg "often" DK ["turning","k"] oU oV) (qa:aE P w K mg base a7 3 oU oV ["turning","k"] (bj K 2 DJ)):aE P w K mg base a7 4 f fd ["floor","k"] (bj K 2 DM):=by
 refine D.F.ok T9 (fun _ _ _ _ h=>h.1) (fun c A o s H v Q E hr h=>?_)
 refine ⟨_,(@bg _ _ _ (@dj _ _ _ _ (@eW _ _ _ _ _ (@aj _ _ _ _ _ (@bh _ _ _ _ _ _ _ cg (pv 0) aK (fun _ _=>rfl)) (@aj _ _ _ _ _ (cf cU cD hr (by decide) rfl (@aj _ _ _ _ _ (cf qa oW hr (by decide) rfl (@aj _ _ _ _ _ (@bh _ _ _ _ _ _ _ cg (pv 0) aK (fun _ _=>rfl)) (@aj _ _ _ _ _ (rJ rL (pv 1)) aA (by rfl)) (by rfl))) (@aj _ _ _ _ _ (@bh _ _ _ _ _ _ _ cg (pv 0) aK (fun _ _=>rfl)) aA (by rfl)) (by rfl))) aA (by rfl)) (by rfl))))),?_⟩
 exact fm (b:=Gi) (dk (eX (ao (aC bU (ai 0) (aL _)) (ao (cb (F:=qG) (ao (cb (F:=DJ) (ao (aC bU (ai 0) (aL _)) (ao (sx sA (ai 1)) aB)) eZ) (ao (aC bU (ai 0) (aL _)) aB)) eZ) aB)))) rfl h
def Gj:av->Dm Fl :=
 (aV (bq (ae (aN sS (ae (ay aM (ag 0) (fC (.int 1))) ah)) (ae (ay aM (ag 0) (fC (.int 0))) ah))))
def DO:List D->Dm D:=eI 1 Gj
def DP:Stmt:=top 39
theorem Ub:aD ["floor"] ["floor"] (au DP):=⟨rfl,rfl,rfl,by w_fin,rfl,by w_fin,by w_fin⟩
theorem Uc {f:Addr} {fd:FuncData} (D:Def K mg "quartered" DP ["floor"] f fd) (T:Txt mg)  {bC:Addr} {bD:FuncData} (bE:Def K mg "turned_back" zy ["turning"] bC bD) (bK:aE P w K mg base a7 1 bC bD ["turning"] (bj K 1 sS)):aE P w K mg base a7 2 f fd ["floor"] (bj K 1 DO):=by
 refine D.F.ok Ub (fun _ _ _ _ h=>h.1) (fun c A o s H v Q E hr h=>?_)
 refine ⟨_,(@bg _ _ _ (@dj _ _ _ _ (@eW _ _ _ _ _ (@aj _ _ _ _ _ (cf bK bE hr (by decide) rfl (@aj _ _ _ _ _ (@bh _ _ _ _ _ _ _ cg (pv 0) aK (fun _ _=>rfl)) aA (by rfl))) (@aj _ _ _ _ _ (@bh _ _ _ _ _ _ _ cg (pv 0) aK (fun _ _=>rfl)) aA (by rfl)) (by rfl))))),?_⟩
 exact fm (b:=Gj) (dk (eX (ao (cb (F:=sS) (ao (aC bU (ai 0) (aL _)) aB) kL) (ao (aC bU (ai 0) (aL _)) aB)))) rfl h
def Gk:av->Dm Fl :=
 (az (eP (aJ (ay (jE false) (ay aM (ag 1) (fC (.int 0))) (fC (.str "s")))) (aV (aN DM (ae (ag 0) (ae (ay aM (ag 1) (fC (.int 1))) ah)))) aU)
 (az (aI (ag 0) (hName 2))
 (az (cT (bW (ae (ay aM (ag 1) (fC (.int 1))) ah)) (hName 3) (aI (aN DO (ae (ag 2) ah)) (hName 2)))
 (aV (ag 2)))))
def DQ:List D->Dm D:=eI 4 Gk
def DR:Stmt:=top 41
theorem Gm:aD ["floor","step","led","turn"] ["floor","step"] (au DR):=⟨rfl,rfl,rfl,by w_fin,rfl,by w_fin,by w_fin⟩
theorem Ud {f:Addr} {fd:FuncData} (D:Def K mg "led_by_step" DR ["floor","step"] f fd) (T:Txt mg)  {lX:Addr} {lY:FuncData} (lZ:Def K mg "sheared" DN ["floor","k"] lX lY) (nO:aE P w K mg base a7 4 lX lY ["floor","k"] (bj K 2 DM)) {iP:Addr} {iQ:FuncData} (iR:Def K mg "quartered" DP ["floor"] iP iQ) (lh:aE P w K mg base a7 2 iP iQ ["floor"] (bj K 1 DO)):aE P w K mg base a7 5 f fd ["floor","step"] (bj K 2 DQ):=by
 refine D.F.ok Gm (fun _ _ _ _ h=>h.1) (fun c A o s H v Q E hr h=>?_)
 refine ⟨_,(@aZ _ _ _ _ _ (@jC _ _ _ _ _ _ _ _ (fW n9 (@bh _ _ _ _ _ _ _ cg (pv 1) aK (fun _ _=>rfl)) o9 (aO _)) (@bg _ _ _ (@dj _ _ _ _ (cf nO lZ hr (by decide) rfl (@aj _ _ _ _ _ (pv 0) (@aj _ _ _ _ _ (@bh _ _ _ _ _ _ _ cg (pv 1) aK (fun _ _=>rfl)) aA (by rfl)) (by rfl))))) kg)
  (@aZ _ _ _ _ _ (@bR (i:=2) _ _ _ _ _ _ Gm.nd rfl (by w_up) (pv 0) (by rfl) (by w_up))
  (@aZ _ _ _ _ _ (@mL _ _ _ _ _ _ _ _ PassesOwn.never rfl (pg rfl T.aT (@aj _ _ _ _ _ (@bh _ _ _ _ _ _ _ cg (pv 1) aK (fun _ _=>rfl)) aA (by rfl))) (dr (i:=3) Gm.nd rfl (by w_up)) (@bg _ _ _ (@bR (i:=2) _ _ _ _ _ _ Gm.nd rfl (by w_up) (cf lh iR hr (by decide) rfl (@aj _ _ _ _ _ (pv 2) aA (by rfl))) (by rfl) (by w_up))) (by intro _;rfl))
  (@bg _ _ _ (@dj _ _ _ _ (pv 2)))))),?_⟩
 exact fm (b:=Gk) (a6 (jF (fR (aC ou (aC bU (ai 1) (aL _)) (pA _))) (dk (cb (F:=DM) (ao (ai 0) (ao (aC bU (ai 1) (aL _)) aB)) eZ)) kj)
  (a6 (bI (ai 0) (aR 2))
  (a6 (mS (pF (ao (aC bU (ai 1) (aL _)) aB)) (aR 3) (bI (cb (F:=DO) (ao (ai 2) aB) kL) (aR 2)))
  (dk (ai 2))))) rfl h
def Gn:av->Dm Fl :=
 (az (aI (ag 0) (hName 2))
 (az (cT (cW (ag 1)) (hName 3) (aI (aN DQ (ae (ag 2) (ae (ag 3) ah))) (hName 2)))
 (aV (ag 2))))
def wH:List D->Dm D:=eI 4 Gn
def AH:Stmt:=top 40
theorem Gp:aD ["floor","word","led","step"] ["floor","word"] (au AH):=⟨rfl,rfl,rfl,by w_fin,rfl,by w_fin,by w_fin⟩
theorem Ue {f:Addr} {fd:FuncData} (D:Def K mg "led_by" AH ["floor","word"] f fd) (T:Txt mg)  {fB:Addr} {fD:FuncData} (fE:Def K mg "led_by_step" DR ["floor","step"] fB fD) (iS:aE P w K mg base a7 5 fB fD ["floor","step"] (bj K 2 DQ)):aE P w K mg base a7 6 f fd ["floor","word"] (bj K 2 wH):=by
 refine D.F.ok Gp (fun _ _ _ _ h=>h.1) (fun c A o s H v Q E hr h=>?_)
 refine ⟨_,(@aZ _ _ _ _ _ (@bR (i:=2) _ _ _ _ _ _ Gp.nd rfl (by w_up) (pv 0) (by rfl) (by w_up))
  (@aZ _ _ _ _ _ (@mL _ _ _ _ _ _ _ _ PassesOwn.never rfl (pN (pv 1)) (dr (i:=3) Gp.nd rfl (by w_up)) (@bg _ _ _ (@bR (i:=2) _ _ _ _ _ _ Gp.nd rfl (by w_up) (cf iS fE hr (by decide) rfl (@aj _ _ _ _ _ (pv 2) (@aj _ _ _ _ _ (pv 3) aA (by rfl)) (by rfl))) (by rfl) (by w_up))) (by intro _;rfl))
  (@bg _ _ _ (@dj _ _ _ _ (pv 2))))),?_⟩
 exact fm (b:=Gn) (a6 (bI (ai 0) (aR 2))
  (a6 (mS (pT (ai 1)) (aR 3) (bI (cb (F:=DQ) (ao (ai 2) (ao (ai 3) aB)) eZ) (aR 2)))
  (dk (ai 2)))) rfl h
def Gq:av->Dm Fl :=
 (az (aI (ay c4 (ay aM (ag 0) (fC (.int 1))) (ay aM (ag 1) (fC (.int 1)))) (hName 2))
 (az (eP (aJ (ay (jE false) (ay aM (ag 0) (fC (.int 0))) (fC (.str "t")))) (aI (ay jR (ag 2) (fC (.int 4))) (hName 2)) aU)
 (az (eP (aJ (ay (jE false) (ag 2) (fC (.int 0)))) (aV (bq ah)) aU)
 (aV (bq (ae (bq (ae (ay aM (ag 0) (fC (.int 0))) (ae (ag 2) ah))) ah))))))
def DS:List D->Dm D:=eI 3 Gq
def DT:Stmt:=top 26
theorem JW:aD ["one","other","number"] ["one","other"] (au DT):=⟨rfl,rfl,rfl,by w_fin,rfl,by w_fin,by w_fin⟩
theorem Ug {f:Addr} {fd:FuncData} (D:Def K mg "joined" DT ["one","other"] f fd) (T:Txt mg)  :aE P w K mg base a7 1 f fd ["one","other"] (bj K 2 DS):=by
 refine D.F.ok JW (fun _ _ _ _ h=>h.1) (fun c A o s H v Q E hr h=>?_)
 refine ⟨_,(@aZ _ _ _ _ _ (@bR (i:=2) _ _ _ _ _ _ JW.nd rfl (by w_up) (bF lH (@bh _ _ _ _ _ _ _ cg (pv 0) aK (fun _ _=>rfl)) (@bh _ _ _ _ _ _ _ cg (pv 1) aK (fun _ _=>rfl))) (by rfl) (by w_up))
  (@aZ _ _ _ _ _ (@jC _ _ _ _ _ _ _ _ (fW n9 (@bh _ _ _ _ _ _ _ cg (pv 0) aK (fun _ _=>rfl)) o9 (aO _)) (@bg _ _ _ (@bR (i:=2) _ _ _ _ _ _ JW.nd rfl (by w_up) (bF qL (pv 2) aK) (by rfl) (by w_up))) kg)
  (@aZ _ _ _ _ _ (@jC _ _ _ _ _ _ _ _ (fW n9 (pv 2) aK (aO _)) (@bg _ _ _ (@dj _ _ _ _ (@eW _ _ _ _ _ aA))) kg)
  (@bg _ _ _ (@dj _ _ _ _ (@eW _ _ _ _ _ (@aj _ _ _ _ _ (@eW _ _ _ _ _ (@aj _ _ _ _ _ (@bh _ _ _ _ _ _ _ cg (pv 0) aK (fun _ _=>rfl)) (@aj _ _ _ _ _ (pv 2) aA (by rfl)) (by rfl))) aA (by rfl)))))))),?_⟩
 exact fm (b:=Gq) (a6 (bI (aC lI (aC bU (ai 0) (aL _)) (aC bU (ai 1) (aL _))) (aR 2))
  (a6 (jF (fR (aC ou (aC bU (ai 0) (aL _)) (pA _))) (bI (aC qU (ai 2) (aL _)) (aR 2)) kj)
  (a6 (jF (fR (aC ou (ai 2) (aL _))) (dk (eX aB)) kj)
  (dk (eX (ao (eX (ao (aC bU (ai 0) (aL _)) (ao (ai 2) aB))) aB)))))) rfl h
def Gr:av->Dm Fl :=
 (az (aI (bq ah) (hName 1))
 (az (cT (cW (ag 0)) (hName 2) (eP (qT (aJ (ay uE (aN cY (ae (ag 1) ah)) (fC (.int 0)))) (aJ (ay (jE false) (ay aM (ay aM (ag 1) (qS lS (fC (.int 1)))) (fC (.int 0))) (ay aM (ag 2) (fC (.int 0)))))) (aI (ay jA (CB yg (ag 1) nt (pB (qS lS (fC (.int 1))))) (aN DS (ae (ay aM (ag 1) (qS lS (fC (.int 1)))) (ae (ag 2) ah)))) (hName 1)) (aI (ay jA (ag 1) (bq (ae (ag 2) ah))) (hName 1))))
 (aV (ag 1))))
def DV:List D->Dm D:=eI 3 Gr
def DW:Stmt:=top 27
theorem DX:aD ["word","plain","step"] ["word"] (au DW):=⟨rfl,rfl,rfl,by w_fin,rfl,by w_fin,by w_fin⟩
theorem Uh {f:Addr} {fd:FuncData} (D:Def K mg "made_plain" DW ["word"] f fd) (T:Txt mg)  {nz:Addr} {nA:FuncData} (nB:Def K mg "joined" DT ["one","other"] nz nA) (oX:aE P w K mg base a7 1 nz nA ["one","other"] (bj K 2 DS)):aE P w K mg base a7 2 f fd ["word"] (bj K 1 DV):=by
 refine D.F.ok DX (fun _ _ _ _ h=>h.1) (fun c A o s H v Q E hr h=>?_)
 refine ⟨_,(@aZ _ _ _ _ _ (@bR (i:=1) _ _ _ _ _ _ DX.nd rfl (by w_up) (@eW _ _ _ _ _ aA) (by rfl) (by w_up))
  (@aZ _ _ _ _ _ (@mL _ _ _ _ _ _ _ _ PassesOwn.never rfl (pN (pv 0)) (dr (i:=2) DX.nd rfl (by w_up)) (@bg _ _ _ (@jC _ _ _ _ _ _ _ _ (PW.pt (Hz (fW zX (jN lO (by rfl) T.bS lP (@aj _ _ _ _ _ (pv 1) aA (by rfl))) aK (aO _)) (Hy (fW n9 (@bh _ _ _ _ _ _ _ cg (@bh _ _ _ _ _ _ _ cg (pv 1) (rJ rL aK) (fun _ _=>rfl)) aK (fun _ _=>rfl)) (@bh _ _ _ _ _ _ _ cg (pv 2) aK (fun _ _=>rfl)) (aO _))))) (@bg _ _ _ (@bR (i:=1) _ _ _ _ _ _ DX.nd rfl (by w_up) (bF vq (Lj PJ (pv 1) Lg (Lh (rJ rL aK))) (cf oX nB hr (by decide) rfl (@aj _ _ _ _ _ (@bh _ _ _ _ _ _ _ cg (pv 1) (rJ rL aK) (fun _ _=>rfl)) (@aj _ _ _ _ _ (pv 2) aA (by rfl)) (by rfl)))) (by rfl) (by w_up))) (@bg _ _ _ (@bR (i:=1) _ _ _ _ _ _ DX.nd rfl (by w_up) (bF vq (pv 1) (@eW _ _ _ _ _ (@aj _ _ _ _ _ (pv 2) aA (by rfl)))) (by rfl) (by w_up))))) (by intro _;rfl))
  (@bg _ _ _ (@dj _ _ _ _ (pv 1))))),?_⟩
 exact fm (b:=Gr) (a6 (bI (eX aB) (aR 1))
  (a6 (mS (pT (ai 0)) (aR 2) (jF (Jq (fR (aC Aq (cq lU (ao (ai 1) aB)) (aL _))) (fR (aC ou (aC bU (aC bU (ai 1) (sx sA (aL _))) (aL _)) (aC bU (ai 2) (aL _))))) (bI (aC vX (vT yh (ai 1) MR (MS (sx sA (aL _)))) (cb (F:=DS) (ao (aC bU (ai 1) (sx sA (aL _))) (ao (ai 2) aB)) eZ)) (aR 1)) (bI (aC vX (ai 1) (eX (ao (ai 2) aB))) (aR 1))))
  (dk (ai 1)))) rfl h
def Gs:av->Dm Fl :=
 (aV (aN DV (ae (ay jA (ag 0) (ag 1)) ah)))
def wI:List D->Dm D:=eI 2 Gs
def AI:Stmt:=top 28
theorem Ui:aD ["one","other"] ["one","other"] (au AI):=⟨rfl,rfl,rfl,by w_fin,rfl,by w_fin,by w_fin⟩
theorem Uj {f:Addr} {fd:FuncData} (D:Def K mg "put_together" AI ["one","other"] f fd) (T:Txt mg)  {gB:Addr} {gC:FuncData} (gD:Def K mg "made_plain" DW ["word"] gB gC) (jW:aE P w K mg base a7 2 gB gC ["word"] (bj K 1 DV)):aE P w K mg base a7 3 f fd ["one","other"] (bj K 2 wI):=by
 refine D.F.ok Ui (fun _ _ _ _ h=>h.1) (fun c A o s H v Q E hr h=>?_)
 refine ⟨_,(@bg _ _ _ (@dj _ _ _ _ (cf jW gD hr (by decide) rfl (@aj _ _ _ _ _ (bF vq (pv 0) (pv 1)) aA (by rfl))))),?_⟩
 exact fm (b:=Gs) (dk (cb (F:=DV) (ao (aC vX (ai 0) (ai 1)) aB) kL)) rfl h
def Gu:av->Dm Fl :=
 (az (aI (aN qH (ae (aN wH (ae (ay cc (ag 0) (ag 2)) (ae (bq (ae (ag 3) ah)) ah))) ah)) (hName 4))
 (az (eP (aJ (ay (pI true) (ag 4) (ag 0))) (az (cy (kh "list" a5 (ag 0) (ae (ag 4) ah)))
 (cy (kh "list" a5 (ag 1) (ae (aN wI (ae (ay cc (ag 1) (ag 2)) (ae (bq (ae (ag 3) ah)) ah))) ah)))) aU)
 (aV (kh "list" d5 (ag 0) (ae (ag 4) ah)))))
def zz:List D->Dm D:=eI 5 Gu
def DY:Stmt:=top 47
theorem NJ:aD ["forms","words","place","step","form"] ["forms","words","place","step"] (au DY):=⟨rfl,rfl,rfl,by w_fin,rfl,by w_fin,by w_fin⟩
theorem Uk {f:Addr} {fd:FuncData} (D:Def K mg "row_led_to" DY ["forms","words","place","step"] f fd) (T:Txt mg)  {cj:Addr} {ck:FuncData} (cm:Def K mg "form_of" wG ["floor"] cj ck) (cB:aE P w K mg base a7 4 cj ck ["floor"] (bj K 1 qH)) {iT:Addr} {iU:FuncData} (iW:Def K mg "led_by" AH ["floor","word"] iT iU) (ku:aE P w K mg base a7 6 iT iU ["floor","word"] (bj K 2 wH)) {bY:Addr} {bZ:FuncData} (b5:Def K mg "put_together" AI ["one","other"] bY bZ) (cE:aE P w K mg base a7 3 bY bZ ["one","other"] (bj K 2 wI)):aE P w K mg base a7 7 f fd ["forms","words","place","step"] (bj K 4 zz):=by
 refine D.F.ok NJ (fun _ _ _ _ h=>h.1) (fun c A o s H v Q E hr h=>?_)
 have hu:=hr.units
 refine ⟨_,(@aZ _ _ _ _ _ (@bR (i:=4) _ _ _ _ _ _ NJ.nd rfl (by w_up) (cf cB cm hr (by decide) rfl (@aj _ _ _ _ _ (cf ku iW hr (by decide) rfl (@aj _ _ _ _ _ (@bh _ _ _ _ _ _ _ mN (pv 0) (pv 2) (fun _ _=>rfl)) (@aj _ _ _ _ _ (@eW _ _ _ _ _ (@aj _ _ _ _ _ (pv 3) aA (by rfl))) aA (by rfl)) (by rfl))) aA (by rfl))) (by rfl) (by w_up))
  (@aZ _ _ _ _ _ (@jC _ _ _ _ _ _ _ _ (fW (LR hu) (pv 4) (pv 0) (by with_unfolding_all rfl)) (@aZ _ _ _ _ _ (pM (og PySem.F.plainAttrs_list PySem.F.slot_list_append PySem.F.type_list_append pO (pv 0) (@aj _ _ _ _ _ (pv 4) aA (by rfl))))
  (@bg _ _ _ (pM (og PySem.F.plainAttrs_list PySem.F.slot_list_append PySem.F.type_list_append pO (pv 1) (@aj _ _ _ _ _ (cf cE b5 hr (by decide) rfl (@aj _ _ _ _ _ (@bh _ _ _ _ _ _ _ mN (pv 1) (pv 2) (fun _ _=>rfl)) (@aj _ _ _ _ _ (@eW _ _ _ _ _ (@aj _ _ _ _ _ (pv 3) aA (by rfl))) aA (by rfl)) (by rfl))) aA (by rfl)))))) kg)
  (@bg _ _ _ (@dj _ _ _ _ (og PySem.F.plainAttrs_list PySem.F.slot_list_index PySem.F.type_list_index (L9 hu) (pv 0) (@aj _ _ _ _ _ (pv 4) aA (by rfl))))))),?_⟩
 exact fm (b:=Gu) (a6 (bI (cb (F:=qH) (ao (cb (F:=wH) (ao (aC jS (ai 0) (ai 2)) (ao (eX (ao (ai 3) aB)) aB)) eZ) aB) kL) (aR 4))
  (a6 (jF (fR (aC (Nq true) (ai 4) (ai 0))) (a6 (pS (nW pR (ai 0) (ao (ai 4) aB)))
  (pS (nW pR (ai 1) (ao (cb (F:=wI) (ao (aC jS (ai 1) (ai 2)) (ao (eX (ao (ai 3) aB)) aB)) eZ) aB)))) kj)
  (dk (nW NC (ai 0) (ao (ai 4) aB))))) rfl h
def Gv:av->Dm Fl :=
 (az (aI (cZ (ae (aN qH (ae (ag 0) ah)) ah)) (hName 2))
 (az (aI (cZ (ae (bq ah) ah)) (hName 3))
 (az (aI (cZ ah) (hName 4))
 (az (iJ (aJ (ay vV (aN cY (ae (ag 4) ah)) (aN cY (ae (ag 2) ah)))) (az (eP (aJ (ay uE (aN cY (ae (ag 2) ah)) (ag 1))) p8 aU)
 (az (aI (aN cY (ae (ag 4) ah)) (hName 5))
 (az (aI (aN zz (ae (ag 2) (ae (ag 3) (ae (ag 5) (ae (fC (.tup [(.str "s"),(.int 1)])) ah))))) (hName 6))
 (az (aI (aN zz (ae (ag 2) (ae (ag 3) (ae (ag 5) (ae (fC (.tup [(.str "t"),(.int 1)])) ah))))) (hName 7))
 (cy (kh "list" a5 (ag 4) (ae (bq (ae (ag 6) (ae (ag 7) ah))) ah))))))))
 (aV (aN bM (ae (c5 (bW (ae (aN cY (ae (ag 2) ah)) ah)) 1 [2,3,4] (hName 0) dw (bq (ae (ay cc (ag 1) (ag 0)) (ae (ay cc (ag 2) (ag 0)) (ae (ay aM (ay cc (ag 3) (ag 0)) (fC (.int 0))) (ae (ay aM (ay cc (ag 3) (ag 0)) (fC (.int 1))) ah)))))) ah)))))))
def zA:List D->Dm D:=eI 8 Gv
def DZ:Stmt:=top 46
theorem zB:aD ["floor","most","forms","words","leads","place","s","t"] ["floor","most"] (au DZ):=⟨rfl,rfl,rfl,by w_fin,rfl,by w_fin,by w_fin⟩
theorem Um {f:Addr} {fd:FuncData} (D:se K mg "chart_of" DZ ["floor","most"] [V.int 60] f fd) (T:Txt mg) {e8:V} (de:ph K mg "QUARTER_charts" e8 (.tup [(.str "t"),(.int 1)])) {qb:V} (oY:ph K mg "SHEAR" qb (.tup [(.str "s"),(.int 1)])) {cj:Addr} {ck:FuncData} (cm:Def K mg "form_of" wG ["floor"] cj ck) (cB:aE P w K mg base a7 4 cj ck ["floor"] (bj K 1 qH)) {gE:Addr} {gF:FuncData} (eJ:Def K mg "row_led_to" DY ["forms","words","place","step"] gE gF) (gG:aE P w K mg base a7 7 gE gF ["forms","words","place","step"] (bj K 4 zz)):aE P w K mg base a7 8 f fd ["floor","most"] (bj K 2 zA):=by
 refine D.F.ok zB (fun _ _ _ _ h=>h.1) (fun c A o s H v Q E hr h=>?_)
 refine ⟨_,(@aZ _ _ _ _ _ (@bR (i:=2) _ _ _ _ _ _ zB.nd rfl (by w_up) (@lM _ _ _ _ (@aj _ _ _ _ _ (cf cB cm hr (by decide) rfl (@aj _ _ _ _ _ (pv 0) aA (by rfl))) aA (by rfl))) (by rfl) (by w_up))
  (@aZ _ _ _ _ _ (@bR (i:=3) _ _ _ _ _ _ zB.nd rfl (by w_up) (@lM _ _ _ _ (@aj _ _ _ _ _ (@eW _ _ _ _ _ aA) aA (by rfl))) (by rfl) (by w_up))
  (@aZ _ _ _ _ _ (@bR (i:=4) _ _ _ _ _ _ zB.nd rfl (by w_up) (@lM _ _ _ _ aA) (by rfl) (by w_up))
  (@aZ _ _ _ _ _ (xl PassesOwn.never (fW zW (jN lO (by rfl) T.bS lP (@aj _ _ _ _ _ (pv 4) aA (by rfl))) (jN lO (by rfl) T.bS lP (@aj _ _ _ _ _ (pv 2) aA (by rfl))) (aO _)) (@aZ _ _ _ _ _ (@jC _ _ _ _ _ _ _ _ (fW zX (jN lO (by rfl) T.bS lP (@aj _ _ _ _ _ (pv 2) aA (by rfl))) (pv 1) (aO _)) (@bg _ _ _ KI) kg)
  (@aZ _ _ _ _ _ (@bR (i:=5) _ _ _ _ _ _ zB.nd rfl (by w_up) (jN lO (by rfl) T.bS lP (@aj _ _ _ _ _ (pv 4) aA (by rfl))) (by rfl) (by w_up))
  (@aZ _ _ _ _ _ (@bR (i:=6) _ _ _ _ _ _ zB.nd rfl (by w_up) (cf gG eJ hr (by decide) rfl (@aj _ _ _ _ _ (pv 2) (@aj _ _ _ _ _ (pv 3) (@aj _ _ _ _ _ (pv 5) (@aj _ _ _ _ _ (Df oY rfl rfl (by decide)) aA (by rfl)) (by rfl)) (by rfl)) (by rfl))) (by rfl) (by w_up))
  (@aZ _ _ _ _ _ (@bR (i:=7) _ _ _ _ _ _ zB.nd rfl (by w_up) (cf gG eJ hr (by decide) rfl (@aj _ _ _ _ _ (pv 2) (@aj _ _ _ _ _ (pv 3) (@aj _ _ _ _ _ (pv 5) (@aj _ _ _ _ _ (Df de rfl rfl (by decide)) aA (by rfl)) (by rfl)) (by rfl)) (by rfl))) (by rfl) (by w_up))
  (@bg _ _ _ (pM (og PySem.F.plainAttrs_list PySem.F.slot_list_append PySem.F.type_list_append pO (pv 4) (@aj _ _ _ _ _ (@eW _ _ _ _ _ (@aj _ _ _ _ _ (pv 6) (@aj _ _ _ _ _ (pv 7) aA (by rfl)) (by rfl))) aA (by rfl))))))))))
  (@bg _ _ _ (@dj _ _ _ _ (gx oe (by rfl) T.bG oh (@aj _ _ _ _ _ (rh (own:=["k"]) (fr:=["forms","words","leads"]) (js:=[2,3,4]) rfl ⟨⟨rfl,by w_fin,by w_fin,by dsimp only [g9,aS,Cx.n8,Cx.wish,PyProof.Rows.envOfC,compEnvC,relabel,Env.kindOf];decide +kernel,by w_fin⟩,rfl⟩ (pg rfl T.aT (@aj _ _ _ _ _ (jN lO (by rfl) T.bS lP (@aj _ _ _ _ _ (pv 2) aA (by rfl))) aA (by rfl))) (fun _ _ _ _ _=>(dr (i:=0) (show ((["k"]:List Str) ++ (["forms","words","leads"]:List Str)).Nodup by w_fin) rfl (by w_up))) (fun _ _ _ _ _=>rg) (fun _ _ _ _ _=>(@eW _ _ _ _ _ (@aj _ _ _ _ _ (@bh _ _ _ _ _ _ _ (tH (K:=K) rfl) (pv 1) (pv 0) (fun _ _=>rfl)) (@aj _ _ _ _ _ (@bh _ _ _ _ _ _ _ (tH (K:=K) rfl) (pv 2) (pv 0) (fun _ _=>rfl)) (@aj _ _ _ _ _ (@bh _ _ _ _ _ _ _ (Ah (K:=K) rfl) (@bh _ _ _ _ _ _ _ (tH (K:=K) rfl) (pv 3) (pv 0) (fun _ _=>rfl)) aK (fun _ _=>rfl)) (@aj _ _ _ _ _ (@bh _ _ _ _ _ _ _ (Ah (K:=K) rfl) (@bh _ _ _ _ _ _ _ (tH (K:=K) rfl) (pv 3) (pv 0) (fun _ _=>rfl)) aK (fun _ _=>rfl)) aA (by rfl)) (by rfl)) (by rfl)) (by rfl))))) aA (by rfl))))))))),?_⟩
 exact fm (b:=Gv) (a6 (bI (lR (ao (cb (F:=qH) (ao (ai 0) aB) kL) aB)) (aR 2))
  (a6 (bI (lR (ao (eX aB) aB)) (aR 3))
  (a6 (bI (lR aB) (aR 4))
  (a6 (yn (fR (aC Ap (cq lU (ao (ai 4) aB)) (cq lU (ao (ai 2) aB)))) (a6 (jF (fR (aC Aq (cq lU (ao (ai 2) aB)) (ai 1))) Ny kj)
  (a6 (bI (cq lU (ao (ai 4) aB)) (aR 5))
  (a6 (bI (cb (F:=zz) (ao (ai 2) (ao (ai 3) (ao (ai 5) (ao (Dg oY) aB)))) NI) (aR 6))
  (a6 (bI (cb (F:=zz) (ao (ai 2) (ao (ai 3) (ao (ai 5) (ao (Dg de) aB)))) NI) (aR 7))
  (pS (nW pR (ai 4) (ao (eX (ao (ai 6) (ao (ai 7) aB))) aB))))))))
  (dk (cq oy (ao (qB (pF (ao (cq lU (ao (ai 2) aB)) aB)) (aR 0) rq (eX (ao (aC jS (ai 1) (ai 0)) (ao (aC jS (ai 2) (ai 0)) (ao (aC bU (aC jS (ai 3) (ai 0)) (aL _)) (ao (aC bU (aC jS (ai 3) (ai 0)) (aL _)) aB)))))) aB))))))) rfl h
def Gw:av->Dm Fl :=
 (az (aI (cZ (ae (ag 1) ah)) (hName 2))
 (az (cT (my (aN dP (ae (aN iI (ae (aN cY (ae (ay aM (ag 0) (fC (.int 0))) ah)) ah)) ah))) (hName 3) (cT (cW (ag 0)) (hName 4) (eP (qT (aJ (ay vV (ag 3) (aN cY (ae (ag 2) ah)))) (aJ (ay (rn true) (ay aM (ag 4) (ay cc (ag 2) (ag 3))) (ag 2)))) (cy (kh "list" a5 (ag 2) (ae (ay aM (ag 4) (ay cc (ag 2) (ag 3))) ah))) aU)))
 (aV (aN bM (ae (c5 (cW (ag 0)) 1 [2] (hName 0) dw (aN bM (ae (c5 (my (ag 1)) 1 [0,1] (hName 0) dw (kh "list" ki (ag 2) (ae (ay aM (ag 1) (ag 0)) ah))) ah))) ah)))))
def D0:List D->Dm D:=eI 5 Gw
def D1:Stmt:=top 60
theorem Gx:aD ["_law_floor_here","_law_s","_law_called","_law_one","_law_turning_here"] ["_law_floor_here","_law_s"] (au D1):=⟨rfl,rfl,rfl,by w_fin,rfl,by w_fin,by w_fin⟩
theorem Uo {f:Addr} {fd:FuncData} (D:Def K mg "_law_numbered" D1 ["_law_floor_here","_law_s"] f fd) (T:Txt mg)  :aE P w K mg base a7 1 f fd ["_law_floor_here","_law_s"] (bj K 2 D0):=by
 refine D.F.ok Gx (fun _ _ _ _ h=>h.1) (fun c A o s H v Q E hr h=>?_)
 refine ⟨_,(@aZ _ _ _ _ _ (@bR (i:=2) _ _ _ _ _ _ Gx.nd rfl (by w_up) (@lM _ _ _ _ (@aj _ _ _ _ _ (pv 1) aA (by rfl))) (by rfl) (by w_up))
  (@aZ _ _ _ _ _ (@mL _ _ _ _ _ _ _ _ PassesOwn.never rfl (HD (gx (tD rfl) (by rfl) T.dQ qN (@aj _ _ _ _ _ (gx E8 (by rfl) T.aT tw (@aj _ _ _ _ _ (jN lO (by rfl) T.bS lP (@aj _ _ _ _ _ (@bh _ _ _ _ _ _ _ cg (pv 0) aK (fun _ _=>rfl)) aA (by rfl))) aA (by rfl))) aA (by rfl)))) (dr (i:=3) Gx.nd rfl (by w_up)) (@bg _ _ _ (@mL _ _ _ _ _ _ _ _ PassesOwn.never rfl (pN (pv 0)) (dr (i:=4) Gx.nd rfl (by w_up)) (@bg _ _ _ (@jC _ _ _ _ _ _ _ _ (PW.pt (Hz (fW zW (pv 3) (jN lO (by rfl) T.bS lP (@aj _ _ _ _ _ (pv 2) aA (by rfl))) (aO _)) (Hy (fW E3 (@bh _ _ _ _ _ _ _ cg (pv 4) (@bh _ _ _ _ _ _ _ mN (pv 2) (pv 3) (fun _ _=>rfl)) (fun _ _=>rfl)) (pv 2) (by with_unfolding_all rfl))))) (@bg _ _ _ (pM (og PySem.F.plainAttrs_list PySem.F.slot_list_append PySem.F.type_list_append pO (pv 2) (@aj _ _ _ _ _ (@bh _ _ _ _ _ _ _ cg (pv 4) (@bh _ _ _ _ _ _ _ mN (pv 2) (pv 3) (fun _ _=>rfl)) (fun _ _=>rfl)) aA (by rfl))))) kg)) (by intro _;rfl))) (by intro _;rfl))
  (@bg _ _ _ (@dj _ _ _ _ (gx oe (by rfl) T.bG oh (@aj _ _ _ _ _ (rh (own:=["_law_turning_here"]) (fr:=["_law_called"]) (js:=[2]) rfl ⟨⟨rfl,by w_fin,by w_fin,by dsimp only [g9,aS,Cx.n8,Cx.wish,PyProof.Rows.envOfC,compEnvC,relabel,Env.kindOf];decide +kernel,by w_fin⟩,rfl⟩ (pN (pv 0)) (fun _ _ _ _ _=>(dr (i:=0) (show ((["_law_turning_here"]:List Str) ++ (["_law_called"]:List Str)).Nodup by w_fin) rfl (by w_up))) (fun _ _ _ _ _=>rg) (fun _ _ _ _ _=>(gx (P1 (K:=K) rfl) (by rfl) T.bG oh (@aj _ _ _ _ _ (rh (own:=["_law_one"]) (fr:=["_law_turning_here","_law_called"]) (js:=[0,1]) rfl ⟨RL ⟨rfl,by w_fin,by w_fin,by dsimp only [g9,Cx.n8,Cx.wish,PyProof.Rows.envOfC];decide +kernel,by w_fin⟩,rfl⟩ (P4 (K:=K) rfl (pv 1)) (fun _ _ _ _ _=>(dr (i:=0) (show ((["_law_one"]:List Str) ++ (["_law_turning_here","_law_called"]:List Str)).Nodup by w_fin) rfl (by w_up))) (fun _ _ _ _ _=>rg) (fun _ _ _ _ _=>(IB (K:=K) rfl PySem.F.plainAttrs_list PySem.F.slot_list_index PySem.F.type_list_index (SN (K:=K) rfl) (pv 2) (@aj _ _ _ _ _ (@bh _ _ _ _ _ _ _ (Ah (K:=K) rfl) (pv 1) (pv 0) (fun _ _=>rfl)) aA (by rfl))))) aA (by rfl))))) aA (by rfl))))))),?_⟩
 exact fm (b:=Gw) (a6 (bI (lR (ao (ai 1) aB)) (aR 2))
  (a6 (mS (Jt (cq tM (ao (cq FH (ao (cq lU (ao (aC bU (ai 0) (aL _)) aB)) aB)) aB))) (aR 3) (mS (pT (ai 0)) (aR 4) (jF (Jq (fR (aC Ap (ai 3) (cq lU (ao (ai 2) aB)))) (fR (aC (CH true) (aC bU (ai 4) (aC jS (ai 2) (ai 3))) (ai 2)))) (pS (nW pR (ai 2) (ao (aC bU (ai 4) (aC jS (ai 2) (ai 3))) aB))) kj)))
  (dk (cq oy (ao (qB (pT (ai 0)) (aR 0) rq (cq oy (ao (qB (Jt (ai 1)) (aR 0) rq (nW SO (ai 2) (ao (aC bU (ai 1) (ai 0)) aB))) aB))) aB))))) rfl h
def Gy:av->Dm Fl :=
 (aV (aN mV (ae (c5 (bW (ae (aN cY (ae (ay aM (ag 0) (fC (.int 0))) ah)) ah)) 1 [0] (hName 0) dw (aN D0 (ae (ag 1) (ae (ag 0) ah)))) ah)))
def rA:List D->Dm D:=eI 1 Gy
def AJ:Stmt:=top 61
theorem Up:aD ["_law_floor_here"] ["_law_floor_here"] (au AJ):=⟨rfl,rfl,rfl,by w_fin,rfl,by w_fin,by w_fin⟩
theorem Uq {f:Addr} {fd:FuncData} (D:Def K mg "_law_form" AJ ["_law_floor_here"] f fd) (T:Txt mg)  {dD:Addr} {dE:FuncData} (dF:Def K mg "_law_numbered" D1 ["_law_floor_here","_law_s"] dD dE) (gg:aE P w K mg base a7 1 dD dE ["_law_floor_here","_law_s"] (bj K 2 D0)):aE P w K mg base a7 2 f fd ["_law_floor_here"] (bj K 1 rA):=by
 refine D.F.ok Up (fun _ _ _ _ h=>h.1) (fun c A o s H v Q E hr h=>?_)
 have hu:=hr.units
 refine ⟨_,(@bg _ _ _ (@dj _ _ _ _ (jN (L7 rfl hu) (by rfl) T.sR HZ (@aj _ _ _ _ _ (rh (own:=["_law_s"]) (fr:=["_law_floor_here"]) (js:=[0]) rfl ⟨⟨rfl,by w_fin,by w_fin,by dsimp only [g9,aS,Cx.n8,Cx.wish,PyProof.Rows.envOfC,compEnvC,relabel,Env.kindOf];decide +kernel,by w_fin⟩,rfl⟩ (pg rfl T.aT (@aj _ _ _ _ _ (jN lO (by rfl) T.bS lP (@aj _ _ _ _ _ (@bh _ _ _ _ _ _ _ cg (pv 0) aK (fun _ _=>rfl)) aA (by rfl))) aA (by rfl))) (fun _ _ _ _ _=>(dr (i:=0) (show ((["_law_s"]:List Str) ++ (["_law_floor_here"]:List Str)).Nodup by w_fin) rfl (by w_up))) (fun _ _ _ _ _=>rg) (fun _ _ _ _ _=>(cf gg dF hr (by decide) rfl (@aj _ _ _ _ _ (pv 1) (@aj _ _ _ _ _ (pv 0) aA (by rfl)) (by rfl))))) aA (by rfl))))),?_⟩
 exact fm (b:=Gy) (dk (cq Nt (ao (qB (pF (ao (cq lU (ao (aC bU (ai 0) (aL _)) aB)) aB)) (aR 0) rq (cb (F:=D0) (ao (ai 1) (ao (ai 0) aB)) eZ)) aB))) rfl h
def Gz:av->Dm Fl :=
 (az (eP (aJ (ay vV (ag 2) (fC (.int 0)))) (az (aI (aN bM (ae (c5 (bW (ae (aN cY (ae (ag 0) ah)) ah)) 1 [0] (hName 0) dw (kh "tuple" jT (ag 1) (ae (ag 0) ah))) ah)) (hName 0))
 (aI (ay mZ (fC (.int 0)) (ag 2)) (hName 2))) aU)
 (az (aI (cZ (ae (ag 1) ah)) (hName 3))
 (az (iJ (aJ (ay (jE true) (ay aM (ag 0) (ay cc (ag 3) (qS lS (fC (.int 1))))) (ag 1))) (cy (kh "list" a5 (ag 3) (ae (ay aM (ag 0) (ay cc (ag 3) (qS lS (fC (.int 1))))) ah))))
 (aV (ay cc (ag 3) (ay jR (ag 2) (aN cY (ae (ag 3) ah))))))))
def D2:List D->Dm D:=eI 4 Gz
def D3:Stmt:=top 57
theorem GA:aD ["_law_turning_here","_law_s","_law_k","_law_ring"] ["_law_turning_here","_law_s","_law_k"] (au D3):=⟨rfl,rfl,rfl,by w_fin,rfl,by w_fin,by w_fin⟩
theorem Ur {f:Addr} {fd:FuncData} (D:Def K mg "_law_behind" D3 ["_law_turning_here","_law_s","_law_k"] f fd) (T:Txt mg)  :aE P w K mg base a7 1 f fd ["_law_turning_here","_law_s","_law_k"] (bj K 3 D2):=by
 refine D.F.ok GA (fun _ _ _ _ h=>h.1) (fun c A o s H v Q E hr h=>?_)
 refine ⟨_,(@aZ _ _ _ _ _ (@jC _ _ _ _ _ _ _ _ (fW zW (pv 2) aK (aO _)) (@aZ _ _ _ _ _ (@bR (i:=0) _ _ _ _ _ _ GA.nd rfl (by w_up) (gx oe (by rfl) T.bG oh (@aj _ _ _ _ _ (rh (own:=["_law_one"]) (fr:=["_law_turning_here"]) (js:=[0]) rfl ⟨⟨rfl,by w_fin,by w_fin,by dsimp only [g9,aS,Cx.n8,Cx.wish,PyProof.Rows.envOfC,compEnvC,relabel,Env.kindOf];decide +kernel,by w_fin⟩,rfl⟩ (pg rfl T.aT (@aj _ _ _ _ _ (jN lO (by rfl) T.bS lP (@aj _ _ _ _ _ (pv 0) aA (by rfl))) aA (by rfl))) (fun _ _ _ _ _=>(dr (i:=0) (show ((["_law_one"]:List Str) ++ (["_law_turning_here"]:List Str)).Nodup by w_fin) rfl (by w_up))) (fun _ _ _ _ _=>rg) (fun _ _ _ _ _=>(IB (K:=K) rfl PySem.F.plainAttrs_tuple PySem.F.slot_tuple_index PySem.F.type_tuple_index (LQ (K:=K) rfl) (pv 1) (@aj _ _ _ _ _ (pv 0) aA (by rfl))))) aA (by rfl))) (by rfl) (by w_up))
  (@bg _ _ _ (@bR (i:=2) _ _ _ _ _ _ GA.nd rfl (by w_up) (bF xo aK (pv 2)) (by rfl) (by w_up)))) kg)
  (@aZ _ _ _ _ _ (@bR (i:=3) _ _ _ _ _ _ GA.nd rfl (by w_up) (@lM _ _ _ _ (@aj _ _ _ _ _ (pv 1) aA (by rfl))) (by rfl) (by w_up))
  (@aZ _ _ _ _ _ (xl PassesOwn.never (fW Bt (@bh _ _ _ _ _ _ _ cg (pv 0) (@bh _ _ _ _ _ _ _ mN (pv 3) (rJ rL aK) (fun _ _=>rfl)) (fun _ _=>rfl)) (pv 1) (aO _)) (@bg _ _ _ (pM (og PySem.F.plainAttrs_list PySem.F.slot_list_append PySem.F.type_list_append pO (pv 3) (@aj _ _ _ _ _ (@bh _ _ _ _ _ _ _ cg (pv 0) (@bh _ _ _ _ _ _ _ mN (pv 3) (rJ rL aK) (fun _ _=>rfl)) (fun _ _=>rfl)) aA (by rfl))))))
  (@bg _ _ _ (@dj _ _ _ _ (@bh _ _ _ _ _ _ _ mN (pv 3) (bF qL (pv 2) (jN lO (by rfl) T.bS lP (@aj _ _ _ _ _ (pv 3) aA (by rfl)))) (fun _ _=>rfl))))))),?_⟩
 exact fm (b:=Gz) (a6 (jF (fR (aC Ap (ai 2) (aL _))) (a6 (bI (cq oy (ao (qB (pF (ao (cq lU (ao (ai 0) aB)) aB)) (aR 0) rq (nW M1 (ai 1) (ao (ai 0) aB))) aB)) (aR 0))
  (bI (aC ye (aL _) (ai 2)) (aR 2))) kj)
  (a6 (bI (lR (ao (ai 1) aB)) (aR 3))
  (a6 (yn (fR (aC CF (aC bU (ai 0) (aC jS (ai 3) (sx sA (aL _)))) (ai 1))) (pS (nW pR (ai 3) (ao (aC bU (ai 0) (aC jS (ai 3) (sx sA (aL _)))) aB))))
  (dk (aC jS (ai 3) (aC qU (ai 2) (cq lU (ao (ai 3) aB)))))))) rfl h
def AK:av->Dm Fl :=
 (az (aI (ag 0) (kW 2 (bA (hName 2) (bA (hName 3) lV))))
 (az (eP (aJ (ay (jE false) (ay aM (ag 1) (fC (.int 0))) (fC (.str "s")))) (aV (bq (ae (ag 2) (ae (aN bM (ae (c5 (bW (ae (aN cY (ae (ag 3) ah)) ah)) 1 [1,2,3] (hName 0) dw (ay aM (ag 3) (aN D2 (ae (ag 2) (ae (ag 0) (ae (ay mZ (fC (.int 0)) (ay aM (ag 1) (fC (.int 1)))) ah)))))) ah)) ah)))) aU)
 (az (cT (bW (ae (ay jR (ay aM (ag 1) (fC (.int 1))) (fC (.int 4))) ah)) (hName 4) (aI (bq (ae (aN bM (ae (c5 (bW (ae (aN cY (ae (ag 3) ah)) ah)) 1 [3] (hName 0) dw (kh "tuple" jT (ag 1) (ae (ag 0) ah))) ah)) (ae (ag 2) ah))) (kW 2 (bA (hName 2) (bA (hName 3) lV)))))
 (aV (bq (ae (ag 2) (ae (ag 3) ah)))))))
def sT:List D->Dm D:=eI 5 AK
def AL:Stmt:=top 58
theorem AO:aD ["_law_floor_here","_law_step","_law_right","_law_up","_law_turn"] ["_law_floor_here","_law_step"] (au AL):=⟨rfl,rfl,rfl,by w_fin,rfl,by w_fin,by w_fin⟩
theorem Us {f:Addr} {fd:FuncData} (D:Def K mg "_law_stepped" AL ["_law_floor_here","_law_step"] f fd) (T:Txt mg)  {fF:Addr} {fG:FuncData} (fH:Def K mg "_law_behind" D3 ["_law_turning_here","_law_s","_law_k"] fF fG) (iX:aE P w K mg base a7 1 fF fG ["_law_turning_here","_law_s","_law_k"] (bj K 3 D2)):aE P w K mg base a7 2 f fd ["_law_floor_here","_law_step"] (bj K 2 sT):=by
 refine D.F.ok AO (fun _ _ _ _ h=>h.1) (fun c A o s H v Q E hr h=>?_)
 refine ⟨_,(@aZ _ _ _ _ _ (ud (pv 0) (tq (n:=2) rfl (mK (dr (i:=2) AO.nd rfl (by w_up)) (mK (dr (i:=3) AO.nd rfl (by w_up)) tm))))
  (@aZ _ _ _ _ _ (@jC _ _ _ _ _ _ _ _ (fW n9 (@bh _ _ _ _ _ _ _ cg (pv 1) aK (fun _ _=>rfl)) o9 (aO _)) (@bg _ _ _ (@dj _ _ _ _ (@eW _ _ _ _ _ (@aj _ _ _ _ _ (pv 2) (@aj _ _ _ _ _ (gx oe (by rfl) T.bG oh (@aj _ _ _ _ _ (rh (own:=["_law_s"]) (fr:=["_law_step","_law_right","_law_up"]) (js:=[1,2,3]) rfl ⟨⟨rfl,by w_fin,by w_fin,by dsimp only [g9,aS,Cx.n8,Cx.wish,PyProof.Rows.envOfC,compEnvC,relabel,Env.kindOf];decide +kernel,by w_fin⟩,rfl⟩ (pg rfl T.aT (@aj _ _ _ _ _ (jN lO (by rfl) T.bS lP (@aj _ _ _ _ _ (pv 3) aA (by rfl))) aA (by rfl))) (fun _ _ _ _ _=>(dr (i:=0) (show ((["_law_s"]:List Str) ++ (["_law_step","_law_right","_law_up"]:List Str)).Nodup by w_fin) rfl (by w_up))) (fun _ _ _ _ _=>rg) (fun _ _ _ _ _=>(@bh _ _ _ _ _ _ _ (Ah (K:=K) rfl) (pv 3) (cf iX fH hr (by decide) rfl (@aj _ _ _ _ _ (pv 2) (@aj _ _ _ _ _ (pv 0) (@aj _ _ _ _ _ (bF xo aK (@bh _ _ _ _ _ _ _ (Ah (K:=K) rfl) (pv 1) aK (fun _ _=>rfl))) aA (by rfl)) (by rfl)) (by rfl))) (fun _ _=>rfl)))) aA (by rfl))) aA (by rfl)) (by rfl))))) kg)
  (@aZ _ _ _ _ _ (@mL _ _ _ _ _ _ _ _ PassesOwn.never rfl (pg rfl T.aT (@aj _ _ _ _ _ (bF qL (@bh _ _ _ _ _ _ _ cg (pv 1) aK (fun _ _=>rfl)) aK) aA (by rfl))) (dr (i:=4) AO.nd rfl (by w_up)) (@bg _ _ _ (ud (@eW _ _ _ _ _ (@aj _ _ _ _ _ (gx oe (by rfl) T.bG oh (@aj _ _ _ _ _ (rh (own:=["_law_s"]) (fr:=["_law_up"]) (js:=[3]) rfl ⟨⟨rfl,by w_fin,by w_fin,by dsimp only [g9,aS,Cx.n8,Cx.wish,PyProof.Rows.envOfC,compEnvC,relabel,Env.kindOf];decide +kernel,by w_fin⟩,rfl⟩ (pg rfl T.aT (@aj _ _ _ _ _ (jN lO (by rfl) T.bS lP (@aj _ _ _ _ _ (pv 3) aA (by rfl))) aA (by rfl))) (fun _ _ _ _ _=>(dr (i:=0) (show ((["_law_s"]:List Str) ++ (["_law_up"]:List Str)).Nodup by w_fin) rfl (by w_up))) (fun _ _ _ _ _=>rg) (fun _ _ _ _ _=>(IB (K:=K) rfl PySem.F.plainAttrs_tuple PySem.F.slot_tuple_index PySem.F.type_tuple_index (LQ (K:=K) rfl) (pv 1) (@aj _ _ _ _ _ (pv 0) aA (by rfl))))) aA (by rfl))) (@aj _ _ _ _ _ (pv 2) aA (by rfl)) (by rfl))) (tq (n:=2) rfl (mK (dr (i:=2) AO.nd rfl (by w_up)) (mK (dr (i:=3) AO.nd rfl (by w_up)) tm))))) (by intro _;rfl))
  (@bg _ _ _ (@dj _ _ _ _ (@eW _ _ _ _ _ (@aj _ _ _ _ _ (pv 2) (@aj _ _ _ _ _ (pv 3) aA (by rfl)) (by rfl)))))))),?_⟩
 exact fm (b:=AK) (a6 (bI (ai 0) (tP (mQ (aR 2) (mQ (aR 3) tO))))
  (a6 (jF (fR (aC ou (aC bU (ai 1) (aL _)) (pA _))) (dk (eX (ao (ai 2) (ao (cq oy (ao (qB (pF (ao (cq lU (ao (ai 3) aB)) aB)) (aR 0) rq (aC bU (ai 3) (cb (F:=D2) (ao (ai 2) (ao (ai 0) (ao (aC ye (aL _) (aC bU (ai 1) (aL _))) aB))) JU))) aB)) aB)))) kj)
  (a6 (mS (pF (ao (aC qU (aC bU (ai 1) (aL _)) (aL _)) aB)) (aR 4) (bI (eX (ao (cq oy (ao (qB (pF (ao (cq lU (ao (ai 3) aB)) aB)) (aR 0) rq (nW M1 (ai 1) (ao (ai 0) aB))) aB)) (ao (ai 2) aB))) (tP (mQ (aR 2) (mQ (aR 3) tO)))))
  (dk (eX (ao (ai 2) (ao (ai 3) aB))))))) rfl h
def GB:av->Dm Fl :=
 (az (aI (cZ ah) (hName 1))
 (az (cT (cW (ag 0)) (kW 2 (bA (hName 2) (bA (hName 3) lV))) (az (eP (qT (aJ (ay (iH true) (ag 1) (cZ ah))) (aJ (ay (jE false) (ay aM (ay cc (ag 1) (qS lS (fC (.int 1)))) (fC (.int 0))) (ag 2)))) (aI (ay c4 (ay aM (uM "list" uN (ag 1)) (fC (.int 1))) (ag 3)) (hName 3)) aU)
 (az (eP (aJ (ay (jE false) (ag 2) (fC (.str "t")))) (aI (ay jR (ag 3) (fC (.int 4))) (hName 3)) aU)
 (eP (aJ (ay (jE true) (ag 3) (fC (.int 0)))) (cy (kh "list" a5 (ag 1) (ae (bq (ae (ag 2) (ae (ag 3) ah))) ah))) aU))))
 (aV (aN bM (ae (ag 1) ah)))))
def AQ:List D->Dm D:=eI 4 GB
def D4:Stmt:=top 64
theorem AR:aD ["_law_word_here","_law_found","_law_letter","_law_k"] ["_law_word_here"] (au D4):=⟨rfl,rfl,rfl,by w_fin,rfl,by w_fin,by w_fin⟩
theorem Ut {f:Addr} {fd:FuncData} (D:Def K mg "_law_plain" D4 ["_law_word_here"] f fd) (T:Txt mg)  :aE P w K mg base a7 1 f fd ["_law_word_here"] (bj K 1 AQ):=by
 refine D.F.ok AR (fun _ _ _ _ h=>h.1) (fun c A o s H v Q E hr h=>?_)
 have hu:=hr.units
 refine ⟨_,(@aZ _ _ _ _ _ (@bR (i:=1) _ _ _ _ _ _ AR.nd rfl (by w_up) (@lM _ _ _ _ aA) (by rfl) (by w_up))
  (@aZ _ _ _ _ _ (@mL _ _ _ _ _ _ _ _ PassesOwn.never rfl (pN (pv 0)) (tq (n:=2) rfl (mK (dr (i:=2) AR.nd rfl (by w_up)) (mK (dr (i:=3) AR.nd rfl (by w_up)) tm))) (@aZ _ _ _ _ _ (@jC _ _ _ _ _ _ _ _ (PW.pt (Hz (fW (Ih hu) (pv 1) (@lM _ _ _ _ aA) (aO _)) (Hy (fW n9 (@bh _ _ _ _ _ _ _ cg (@bh _ _ _ _ _ _ _ mN (pv 1) (rJ rL aK) (fun _ _=>rfl)) aK (fun _ _=>rfl)) (pv 2) (aO _))))) (@bg _ _ _ (@bR (i:=3) _ _ _ _ _ _ AR.nd rfl (by w_up) (bF lH (@bh _ _ _ _ _ _ _ cg (xB PySem.F.plainAttrs_list PySem.F.slot_list_pop PySem.F.type_list_pop xD (pv 1)) aK (fun _ _=>rfl)) (pv 3)) (by rfl) (by w_up))) kg)
  (@aZ _ _ _ _ _ (@jC _ _ _ _ _ _ _ _ (fW n9 (pv 2) o9 (aO _)) (@bg _ _ _ (@bR (i:=3) _ _ _ _ _ _ AR.nd rfl (by w_up) (bF qL (pv 3) aK) (by rfl) (by w_up))) kg)
  (@bg _ _ _ (@jC _ _ _ _ _ _ _ _ (fW Bt (pv 3) aK (aO _)) (@bg _ _ _ (pM (og PySem.F.plainAttrs_list PySem.F.slot_list_append PySem.F.type_list_append pO (pv 1) (@aj _ _ _ _ _ (@eW _ _ _ _ _ (@aj _ _ _ _ _ (pv 2) (@aj _ _ _ _ _ (pv 3) aA (by rfl)) (by rfl))) aA (by rfl))))) kg)))) (by intro _;rfl))
  (@bg _ _ _ (@dj _ _ _ _ (gx oe (by rfl) T.bG oh (@aj _ _ _ _ _ (pv 1) aA (by rfl))))))),?_⟩
 exact fm (b:=GB) (a6 (bI (lR aB) (aR 1))
  (a6 (mS (pT (ai 0)) (tP (mQ (aR 2) (mQ (aR 3) tO))) (a6 (jF (Jq (fR (aC (Au true) (ai 1) (lR aB))) (fR (aC ou (aC bU (aC jS (ai 1) (sx sA (aL _))) (aL _)) (ai 2)))) (bI (aC lI (aC bU (zk zo (ai 1)) (aL _)) (ai 3)) (aR 3)) kj)
  (a6 (jF (fR (aC ou (ai 2) (pA _))) (bI (aC qU (ai 3) (aL _)) (aR 3)) kj)
  (jF (fR (aC CF (ai 3) (aL _))) (pS (nW pR (ai 1) (ao (eX (ao (ai 2) (ao (ai 3) aB))) aB))) kj))))
  (dk (cq oy (ao (ai 1) aB))))) rfl h
def GD:av->Dm Fl :=
 (az (aI (cZ (ae (aN rA (ae (ag 0) ah)) ah)) (hName 2))
 (az (aI (cZ (ae (bq ah) ah)) (hName 3))
 (az (aI (cZ ah) (hName 4))
 (az (cT (bW (ae (ag 1) ah)) (hName 5) (eP (aJ (ay vV (ag 5) (aN cY (ae (ag 2) ah)))) (az (cy (kh "list" a5 (ag 4) (ae (cZ ah) ah)))
 (az (cT (cW (bq (ae (bq (ae (fC (.str "s")) (ae (fC (.int 1)) ah))) (ae (bq (ae (fC (.str "t")) (ae (fC (.int 1)) ah))) ah)))) (hName 6) (az (aI (aN rA (ae (aN sT (ae (ay cc (ag 2) (ag 5)) (ae (ag 6) ah))) ah)) (hName 7))
 (az (eP (aJ (ay (pI true) (ag 7) (ag 2))) (az (cy (kh "list" a5 (ag 2) (ae (ag 7) ah)))
 (cy (kh "list" a5 (ag 3) (ae (aN AQ (ae (ay jA (ay cc (ag 3) (ag 5)) (bq (ae (ag 6) ah))) ah)) ah)))) aU)
 (cy (kh "list" a5 (ay cc (ag 4) (ag 5)) (ae (kh "list" d5 (ag 2) (ae (ag 7) ah)) ah))))))
 (eP (aJ (ay uE (aN cY (ae (ag 2) ah)) (ag 1))) (aV (fC .non)) aU))) aU))
 (aV (aN bM (ae (c5 (bW (ae (aN cY (ae (ag 2) ah)) ah)) 1 [2,3,4] (hName 0) dw (bq (ae (ay cc (ag 1) (ag 0)) (ae (ay cc (ag 2) (ag 0)) (ae (ay cc (ay cc (ag 3) (ag 0)) (fC (.int 0))) (ae (ay cc (ay cc (ag 3) (ag 0)) (fC (.int 1))) ah)))))) ah)))))))
def D5:List D->Dm D:=eI 8 GD
def D6:Stmt:=top 65
theorem zC:aD ["_law_floor_here","_law_most","_law_forms","_law_words","_law_links","_law_at","_law_step","_law_fresh"] ["_law_floor_here","_law_most"] (au D6):=⟨rfl,rfl,rfl,by w_fin,rfl,by w_fin,by w_fin⟩
theorem Uu {f:Addr} {fd:FuncData} (D:Def K mg "_law_chart" D6 ["_law_floor_here","_law_most"] f fd) (T:Txt mg)  {dg:Addr} {dh:FuncData} (cM:Def K mg "_law_form" AJ ["_law_floor_here"] dg dh) (di:aE P w K mg base a7 2 dg dh ["_law_floor_here"] (bj K 1 rA)) {b6:Addr} {b7:FuncData} (b8:Def K mg "_law_stepped" AL ["_law_floor_here","_law_step"] b6 b7) (cF:aE P w K mg base a7 2 b6 b7 ["_law_floor_here","_law_step"] (bj K 2 sT)) {gH:Addr} {gI:FuncData} (gJ:Def K mg "_law_plain" D4 ["_law_word_here"] gH gI) (jX:aE P w K mg base a7 1 gH gI ["_law_word_here"] (bj K 1 AQ)):aE P w K mg base a7 3 f fd ["_law_floor_here","_law_most"] (bj K 2 D5):=by
 refine D.F.ok zC (fun _ _ _ _ h=>h.1) (fun c A o s H v Q E hr h=>?_)
 have hu:=hr.units
 refine ⟨_,(@aZ _ _ _ _ _ (@bR (i:=2) _ _ _ _ _ _ zC.nd rfl (by w_up) (@lM _ _ _ _ (@aj _ _ _ _ _ (cf di cM hr (by decide) rfl (@aj _ _ _ _ _ (pv 0) aA (by rfl))) aA (by rfl))) (by rfl) (by w_up))
  (@aZ _ _ _ _ _ (@bR (i:=3) _ _ _ _ _ _ zC.nd rfl (by w_up) (@lM _ _ _ _ (@aj _ _ _ _ _ (@eW _ _ _ _ _ aA) aA (by rfl))) (by rfl) (by w_up))
  (@aZ _ _ _ _ _ (@bR (i:=4) _ _ _ _ _ _ zC.nd rfl (by w_up) (@lM _ _ _ _ aA) (by rfl) (by w_up))
  (@aZ _ _ _ _ _ (@mL _ _ _ _ _ _ _ _ PassesOwn.never rfl (pg rfl T.aT (@aj _ _ _ _ _ (pv 1) aA (by rfl))) (dr (i:=5) zC.nd rfl (by w_up)) (@bg _ _ _ (@jC _ _ _ _ _ _ _ _ (fW zW (pv 5) (jN lO (by rfl) T.bS lP (@aj _ _ _ _ _ (pv 2) aA (by rfl))) (aO _)) (@aZ _ _ _ _ _ (pM (og PySem.F.plainAttrs_list PySem.F.slot_list_append PySem.F.type_list_append pO (pv 4) (@aj _ _ _ _ _ (@lM _ _ _ _ aA) aA (by rfl))))
  (@aZ _ _ _ _ _ (@mL _ _ _ _ _ _ _ _ PassesOwn.never rfl (pN (@eW _ _ _ _ _ (@aj _ _ _ _ _ (@eW _ _ _ _ _ (@aj _ _ _ _ _ o9 (@aj _ _ _ _ _ aK aA (by rfl)) (by rfl))) (@aj _ _ _ _ _ (@eW _ _ _ _ _ (@aj _ _ _ _ _ o9 (@aj _ _ _ _ _ aK aA (by rfl)) (by rfl))) aA (by rfl)) (by rfl)))) (dr (i:=6) zC.nd rfl (by w_up)) (@aZ _ _ _ _ _ (@bR (i:=7) _ _ _ _ _ _ zC.nd rfl (by w_up) (cf di cM hr (by decide) rfl (@aj _ _ _ _ _ (cf cF b8 hr (by decide) rfl (@aj _ _ _ _ _ (@bh _ _ _ _ _ _ _ mN (pv 2) (pv 5) (fun _ _=>rfl)) (@aj _ _ _ _ _ (pv 6) aA (by rfl)) (by rfl))) aA (by rfl))) (by rfl) (by w_up))
  (@aZ _ _ _ _ _ (@jC _ _ _ _ _ _ _ _ (fW (LR hu) (pv 7) (pv 2) (by with_unfolding_all rfl)) (@aZ _ _ _ _ _ (pM (og PySem.F.plainAttrs_list PySem.F.slot_list_append PySem.F.type_list_append pO (pv 2) (@aj _ _ _ _ _ (pv 7) aA (by rfl))))
  (@bg _ _ _ (pM (og PySem.F.plainAttrs_list PySem.F.slot_list_append PySem.F.type_list_append pO (pv 3) (@aj _ _ _ _ _ (cf jX gJ hr (by decide) rfl (@aj _ _ _ _ _ (bF vq (@bh _ _ _ _ _ _ _ mN (pv 3) (pv 5) (fun _ _=>rfl)) (@eW _ _ _ _ _ (@aj _ _ _ _ _ (pv 6) aA (by rfl)))) aA (by rfl))) aA (by rfl)))))) kg)
  (@bg _ _ _ (pM (og PySem.F.plainAttrs_list PySem.F.slot_list_append PySem.F.type_list_append pO (@bh _ _ _ _ _ _ _ mN (pv 4) (pv 5) (fun _ _=>rfl)) (@aj _ _ _ _ _ (og PySem.F.plainAttrs_list PySem.F.slot_list_index PySem.F.type_list_index (L9 hu) (pv 2) (@aj _ _ _ _ _ (pv 7) aA (by rfl))) aA (by rfl))))))) (by intro _;rfl))
  (@bg _ _ _ (@jC _ _ _ _ _ _ _ _ (fW zX (jN lO (by rfl) T.bS lP (@aj _ _ _ _ _ (pv 2) aA (by rfl))) (pv 1) (aO _)) (@bg _ _ _ (@dj _ _ _ _ KD)) kg)))) kg)) (by intro _;rfl))
  (@bg _ _ _ (@dj _ _ _ _ (gx oe (by rfl) T.bG oh (@aj _ _ _ _ _ (rh (own:=["_law_at"]) (fr:=["_law_forms","_law_words","_law_links"]) (js:=[2,3,4]) rfl ⟨⟨rfl,by w_fin,by w_fin,by dsimp only [g9,aS,Cx.n8,Cx.wish,PyProof.Rows.envOfC,compEnvC,relabel,Env.kindOf];decide +kernel,by w_fin⟩,rfl⟩ (pg rfl T.aT (@aj _ _ _ _ _ (jN lO (by rfl) T.bS lP (@aj _ _ _ _ _ (pv 2) aA (by rfl))) aA (by rfl))) (fun _ _ _ _ _=>(dr (i:=0) (show ((["_law_at"]:List Str) ++ (["_law_forms","_law_words","_law_links"]:List Str)).Nodup by w_fin) rfl (by w_up))) (fun _ _ _ _ _=>rg) (fun _ _ _ _ _=>(@eW _ _ _ _ _ (@aj _ _ _ _ _ (@bh _ _ _ _ _ _ _ (tH (K:=K) rfl) (pv 1) (pv 0) (fun _ _=>rfl)) (@aj _ _ _ _ _ (@bh _ _ _ _ _ _ _ (tH (K:=K) rfl) (pv 2) (pv 0) (fun _ _=>rfl)) (@aj _ _ _ _ _ (@bh _ _ _ _ _ _ _ (tH (K:=K) rfl) (@bh _ _ _ _ _ _ _ (tH (K:=K) rfl) (pv 3) (pv 0) (fun _ _=>rfl)) aK (fun _ _=>rfl)) (@aj _ _ _ _ _ (@bh _ _ _ _ _ _ _ (tH (K:=K) rfl) (@bh _ _ _ _ _ _ _ (tH (K:=K) rfl) (pv 3) (pv 0) (fun _ _=>rfl)) aK (fun _ _=>rfl)) aA (by rfl)) (by rfl)) (by rfl)) (by rfl))))) aA (by rfl))))))))),?_⟩
 exact fm (b:=GD) (a6 (bI (lR (ao (cb (F:=rA) (ao (ai 0) aB) kL) aB)) (aR 2))
  (a6 (bI (lR (ao (eX aB) aB)) (aR 3))
  (a6 (bI (lR aB) (aR 4))
  (a6 (mS (pF (ao (ai 1) aB)) (aR 5) (jF (fR (aC Ap (ai 5) (cq lU (ao (ai 2) aB)))) (a6 (pS (nW pR (ai 4) (ao (lR aB) aB)))
  (a6 (mS (pT (eX (ao (eX (ao (pA _) (ao (aL _) aB))) (ao (eX (ao (pA _) (ao (aL _) aB))) aB)))) (aR 6) (a6 (bI (cb (F:=rA) (ao (cb (F:=sT) (ao (aC jS (ai 2) (ai 5)) (ao (ai 6) aB)) eZ) aB) kL) (aR 7))
  (a6 (jF (fR (aC (Nq true) (ai 7) (ai 2))) (a6 (pS (nW pR (ai 2) (ao (ai 7) aB)))
  (pS (nW pR (ai 3) (ao (cb (F:=AQ) (ao (aC vX (aC jS (ai 3) (ai 5)) (eX (ao (ai 6) aB))) aB) kL) aB)))) kj)
  (pS (nW pR (aC jS (ai 4) (ai 5)) (ao (nW NC (ai 2) (ao (ai 7) aB)) aB))))))
  (jF (fR (aC Aq (cq lU (ao (ai 2) aB)) (ai 1))) (dk MP) kj))) kj))
  (dk (cq oy (ao (qB (pF (ao (cq lU (ao (ai 2) aB)) aB)) (aR 0) rq (eX (ao (aC jS (ai 1) (ai 0)) (ao (aC jS (ai 2) (ai 0)) (ao (aC jS (aC jS (ai 3) (ai 0)) (aL _)) (ao (aC jS (aC jS (ai 3) (ai 0)) (aL _)) aB)))))) aB))))))) rfl h
def GF:av->Dm Fl :=
 (az (aI (cZ ah) (hName 3))
 (az (cT (bW (ae (aN mX (ae (ag 0) (ae (ay c4 (ag 1) (fC (.int 1))) ah))) ah)) (hName 4) (eP (aJ (ay (jE false) (aN mX (ae (ag 0) (ae (fC (.int 2)) ah))) (fC (.int 0)))) (cy (kh "list" a5 (ag 3) (ae (bq (ae (fC (.str "t")) (ae (ay c4 (fC (.int 1)) (aN mX (ae (ag 0) (ae (fC (.int 3)) ah)))) ah))) ah))) (az (aI (ay c4 (fC (.int 1)) (aN mX (ae (ag 0) (ae (ag 2) ah)))) (hName 4))
 (cy (kh "list" a5 (ag 3) (ae (bq (ae (fC (.str "s")) (ae (ay cc (cZ (ae (ag 4) (ae (ay mZ (fC (.int 0)) (ag 4)) ah))) (aN mX (ae (ag 0) (ae (fC (.int 2)) ah)))) ah))) ah))))))
 (aV (aN bM (ae (ag 3) ah)))))
def AU:List D->Dm D:=eI 5 GF
def D7:Stmt:=top 56
theorem GG:aD ["_law_feed_here","_law_most","_law_great","_law_found","_law_k"] ["_law_feed_here","_law_most","_law_great"] (au D7):=⟨rfl,rfl,rfl,by w_fin,rfl,by w_fin,by w_fin⟩
theorem Uv {f:Addr} {fd:FuncData} (D:Def K mg "_law_word" D7 ["_law_feed_here","_law_most","_law_great"] f fd) (T:Txt mg)  {bw:Addr} {bx:FuncData} (aP:Def K mg "_law_take" wC ["_law_feed_here","_law_many"] bw bx) (aQ:aE P w K mg base a7 1 bw bx ["_law_feed_here","_law_many"] (bj K 2 mX)):aE P w K mg base a7 2 f fd ["_law_feed_here","_law_most","_law_great"] (bj K 3 AU):=by
 refine D.F.ok GG (fun _ _ _ _ h=>h.1) (fun c A o s H v Q E hr h=>?_)
 refine ⟨_,(@aZ _ _ _ _ _ (@bR (i:=3) _ _ _ _ _ _ GG.nd rfl (by w_up) (@lM _ _ _ _ aA) (by rfl) (by w_up))
  (@aZ _ _ _ _ _ (@mL _ _ _ _ _ _ _ _ PassesOwn.never rfl (pg rfl T.aT (@aj _ _ _ _ _ (cf aQ aP hr (by decide) rfl (@aj _ _ _ _ _ (pv 0) (@aj _ _ _ _ _ (bF lH (pv 1) aK) aA (by rfl)) (by rfl))) aA (by rfl))) (dr (i:=4) GG.nd rfl (by w_up)) (@bg _ _ _ (@jC _ _ _ _ _ _ _ _ (fW n9 (cf aQ aP hr (by decide) rfl (@aj _ _ _ _ _ (pv 0) (@aj _ _ _ _ _ aK aA (by rfl)) (by rfl))) aK (aO _)) (@bg _ _ _ (pM (og PySem.F.plainAttrs_list PySem.F.slot_list_append PySem.F.type_list_append pO (pv 3) (@aj _ _ _ _ _ (@eW _ _ _ _ _ (@aj _ _ _ _ _ o9 (@aj _ _ _ _ _ (bF lH aK (cf aQ aP hr (by decide) rfl (@aj _ _ _ _ _ (pv 0) (@aj _ _ _ _ _ aK aA (by rfl)) (by rfl)))) aA (by rfl)) (by rfl))) aA (by rfl))))) (@aZ _ _ _ _ _ (@bR (i:=4) _ _ _ _ _ _ GG.nd rfl (by w_up) (bF lH aK (cf aQ aP hr (by decide) rfl (@aj _ _ _ _ _ (pv 0) (@aj _ _ _ _ _ (pv 2) aA (by rfl)) (by rfl)))) (by rfl) (by w_up))
  (@bg _ _ _ (pM (og PySem.F.plainAttrs_list PySem.F.slot_list_append PySem.F.type_list_append pO (pv 3) (@aj _ _ _ _ _ (@eW _ _ _ _ _ (@aj _ _ _ _ _ o9 (@aj _ _ _ _ _ (@bh _ _ _ _ _ _ _ mN (@lM _ _ _ _ (@aj _ _ _ _ _ (pv 4) (@aj _ _ _ _ _ (bF xo aK (pv 4)) aA (by rfl)) (by rfl))) (cf aQ aP hr (by decide) rfl (@aj _ _ _ _ _ (pv 0) (@aj _ _ _ _ _ aK aA (by rfl)) (by rfl))) (fun _ _=>rfl)) aA (by rfl)) (by rfl))) aA (by rfl)))))))) (by intro _;rfl))
  (@bg _ _ _ (@dj _ _ _ _ (gx oe (by rfl) T.bG oh (@aj _ _ _ _ _ (pv 3) aA (by rfl))))))),?_⟩
 exact fm (b:=GF) (a6 (bI (lR aB) (aR 3))
  (a6 (mS (pF (ao (cb (F:=mX) (ao (ai 0) (ao (aC lI (ai 1) (aL _)) aB)) eZ) aB)) (aR 4) (jF (fR (aC ou (cb (F:=mX) (ao (ai 0) (ao (aL _) aB)) eZ) (aL _))) (pS (nW pR (ai 3) (ao (eX (ao (pA _) (ao (aC lI (aL _) (cb (F:=mX) (ao (ai 0) (ao (aL _) aB)) eZ)) aB))) aB))) (a6 (bI (aC lI (aL _) (cb (F:=mX) (ao (ai 0) (ao (ai 2) aB)) eZ)) (aR 4))
  (pS (nW pR (ai 3) (ao (eX (ao (pA _) (ao (aC jS (lR (ao (ai 4) (ao (aC ye (aL _) (ai 4)) aB))) (cb (F:=mX) (ao (ai 0) (ao (aL _) aB)) eZ)) aB))) aB))))))
  (dk (cq oy (ao (ai 3) aB))))) rfl h
def GH:av->Dm Fl :=
 (az (aI (ag 0) (kW 4 (bA (hName 2) (bA (hName 3) (bA (hName 4) (bA (hName 5) lV))))))
 (az (aI (ag 1) (kW 4 (bA (hName 6) (bA (hName 7) (bA (hName 8) (bA (hName 9) lV))))))
 (aV (bq (ae (ay c4 (ay cz (ag 2) (ag 6)) (ay cz (ag 3) (ag 8))) (ae (ay c4 (ay cz (ag 2) (ag 7)) (ay cz (ag 3) (ag 9))) (ae (ay c4 (ay cz (ag 4) (ag 6)) (ay cz (ag 5) (ag 8))) (ae (ay c4 (ay cz (ag 4) (ag 7)) (ay cz (ag 5) (ag 9))) ah))))))))
def qI:List D->Dm D:=eI 10 GH
def AV:Stmt:=top 62
theorem uP:aD ["_law_one","_law_other","_law_a","_law_b","_law_c","_law_d","_law_e","_law_f","_law_g","_law_h"] ["_law_one","_law_other"] (au AV):=⟨rfl,rfl,rfl,by w_fin,rfl,by w_fin,by w_fin⟩
theorem Uw {f:Addr} {fd:FuncData} (D:Def K mg "_law_times" AV ["_law_one","_law_other"] f fd) (T:Txt mg)  :aE P w K mg base a7 1 f fd ["_law_one","_law_other"] (bj K 2 qI):=by
 refine D.F.ok uP (fun _ _ _ _ h=>h.1) (fun c A o s H v Q E hr h=>?_)
 refine ⟨_,(@aZ _ _ _ _ _ (ud (pv 0) (tq (n:=4) rfl (mK (dr (i:=2) uP.nd rfl (by w_up)) (mK (dr (i:=3) uP.nd rfl (by w_up)) (mK (dr (i:=4) uP.nd rfl (by w_up)) (mK (dr (i:=5) uP.nd rfl (by w_up)) tm))))))
  (@aZ _ _ _ _ _ (ud (pv 1) (tq (n:=4) rfl (mK (dr (i:=6) uP.nd rfl (by w_up)) (mK (dr (i:=7) uP.nd rfl (by w_up)) (mK (dr (i:=8) uP.nd rfl (by w_up)) (mK (dr (i:=9) uP.nd rfl (by w_up)) tm))))))
  (@bg _ _ _ (@dj _ _ _ _ (@eW _ _ _ _ _ (@aj _ _ _ _ _ (bF lH (bF nV (pv 2) (pv 6)) (bF nV (pv 3) (pv 8))) (@aj _ _ _ _ _ (bF lH (bF nV (pv 2) (pv 7)) (bF nV (pv 3) (pv 9))) (@aj _ _ _ _ _ (bF lH (bF nV (pv 4) (pv 6)) (bF nV (pv 5) (pv 8))) (@aj _ _ _ _ _ (bF lH (bF nV (pv 4) (pv 7)) (bF nV (pv 5) (pv 9))) aA (by rfl)) (by rfl)) (by rfl)) (by rfl))))))),?_⟩
 exact fm (b:=GH) (a6 (bI (ai 0) (tP (mQ (aR 2) (mQ (aR 3) (mQ (aR 4) (mQ (aR 5) tO))))))
  (a6 (bI (ai 1) (tP (mQ (aR 6) (mQ (aR 7) (mQ (aR 8) (mQ (aR 9) tO))))))
  (dk (eX (ao (aC lI (aC nX (ai 2) (ai 6)) (aC nX (ai 3) (ai 8))) (ao (aC lI (aC nX (ai 2) (ai 7)) (aC nX (ai 3) (ai 9))) (ao (aC lI (aC nX (ai 4) (ai 6)) (aC nX (ai 5) (ai 8))) (ao (aC lI (aC nX (ai 4) (ai 7)) (aC nX (ai 5) (ai 9))) aB)))))))) rfl h
def GI:av->Dm Fl :=
 (az (aI (bq (ae (fC (.int 1)) (ae (fC (.int 0)) (ae (fC (.int 0)) (ae (fC (.int 1)) ah))))) (hName 1))
 (az (cT (cW (ag 0)) (kW 2 (bA (hName 2) (bA (hName 3) lV))) (cT (bW (ae (ay cc (cZ (ae (fC (.int 1)) (ae (ag 3) ah))) (aN oz (ae (ay (jE false) (ag 2) (fC (.str "t"))) ah))) ah)) (hName 4) (aI (aN qI (ae (ay cc (cZ (ae (bq (ae (fC (.int 1)) (ae (ag 3) (ae (fC (.int 0)) (ae (fC (.int 1)) ah))))) (ae (bq (ae (fC (.int 0)) (ae (qS lS (fC (.int 1))) (ae (fC (.int 1)) (ae (fC (.int 0)) ah))))) ah))) (aN oz (ae (ay (jE false) (ag 2) (fC (.str "t"))) ah))) (ae (ag 1) ah))) (hName 1))))
 (aV (ag 1))))
def tR:List D->Dm D:=eI 5 GI
def D8:Stmt:=top 63
theorem AW:aD ["_law_word_here","_law_found","_law_letter","_law_k","_law_turn"] ["_law_word_here"] (au D8):=⟨rfl,rfl,rfl,by w_fin,rfl,by w_fin,by w_fin⟩
theorem Ux {f:Addr} {fd:FuncData} (D:Def K mg "_law_table" D8 ["_law_word_here"] f fd) (T:Txt mg)  {cN:Addr} {cO:FuncData} (cu:Def K mg "_law_times" AV ["_law_one","_law_other"] cN cO) (cP:aE P w K mg base a7 1 cN cO ["_law_one","_law_other"] (bj K 2 qI)):aE P w K mg base a7 2 f fd ["_law_word_here"] (bj K 1 tR):=by
 refine D.F.ok AW (fun _ _ _ _ h=>h.1) (fun c A o s H v Q E hr h=>?_)
 refine ⟨_,(@aZ _ _ _ _ _ (@bR (i:=1) _ _ _ _ _ _ AW.nd rfl (by w_up) (@eW _ _ _ _ _ (@aj _ _ _ _ _ aK (@aj _ _ _ _ _ aK (@aj _ _ _ _ _ aK (@aj _ _ _ _ _ aK aA (by rfl)) (by rfl)) (by rfl)) (by rfl))) (by rfl) (by w_up))
  (@aZ _ _ _ _ _ (@mL _ _ _ _ _ _ _ _ PassesOwn.never rfl (pN (pv 0)) (tq (n:=2) rfl (mK (dr (i:=2) AW.nd rfl (by w_up)) (mK (dr (i:=3) AW.nd rfl (by w_up)) tm))) (@bg _ _ _ (@mL _ _ _ _ _ _ _ _ PassesOwn.never rfl (pg rfl T.aT (@aj _ _ _ _ _ (@bh _ _ _ _ _ _ _ mN (@lM _ _ _ _ (@aj _ _ _ _ _ aK (@aj _ _ _ _ _ (pv 3) aA (by rfl)) (by rfl))) (gx K2 (by rfl) T.wx Lz (@aj _ _ _ _ _ (zY n9 (pv 2) o9 (aO _)) aA (by rfl))) (fun _ _=>rfl)) aA (by rfl))) (dr (i:=4) AW.nd rfl (by w_up)) (@bg _ _ _ (@bR (i:=1) _ _ _ _ _ _ AW.nd rfl (by w_up) (cf cP cu hr (by decide) rfl (@aj _ _ _ _ _ (@bh _ _ _ _ _ _ _ mN (@lM _ _ _ _ (@aj _ _ _ _ _ (@eW _ _ _ _ _ (@aj _ _ _ _ _ aK (@aj _ _ _ _ _ (pv 3) (@aj _ _ _ _ _ aK (@aj _ _ _ _ _ aK aA (by rfl)) (by rfl)) (by rfl)) (by rfl))) (@aj _ _ _ _ _ (@eW _ _ _ _ _ (@aj _ _ _ _ _ aK (@aj _ _ _ _ _ (rJ rL aK) (@aj _ _ _ _ _ aK (@aj _ _ _ _ _ aK aA (by rfl)) (by rfl)) (by rfl)) (by rfl))) aA (by rfl)) (by rfl))) (gx K2 (by rfl) T.wx Lz (@aj _ _ _ _ _ (zY n9 (pv 2) o9 (aO _)) aA (by rfl))) (fun _ _=>rfl)) (@aj _ _ _ _ _ (pv 1) aA (by rfl)) (by rfl))) (by rfl) (by w_up))) (by intro _;rfl))) (by intro _;rfl))
  (@bg _ _ _ (@dj _ _ _ _ (pv 1))))),?_⟩
 exact fm (b:=GI) (a6 (bI (eX (ao (aL _) (ao (aL _) (ao (aL _) (ao (aL _) aB))))) (aR 1))
  (a6 (mS (pT (ai 0)) (tP (mQ (aR 2) (mQ (aR 3) tO))) (mS (pF (ao (aC jS (lR (ao (aL _) (ao (ai 3) aB))) (cq MY (ao (aC ou (ai 2) (pA _)) aB))) aB)) (aR 4) (bI (cb (F:=qI) (ao (aC jS (lR (ao (eX (ao (aL _) (ao (ai 3) (ao (aL _) (ao (aL _) aB))))) (ao (eX (ao (aL _) (ao (sx sA (aL _)) (ao (aL _) (ao (aL _) aB))))) aB))) (cq MY (ao (aC ou (ai 2) (pA _)) aB))) (ao (ai 1) aB)) eZ) (aR 1))))
  (dk (ai 1)))) rfl h
def GJ:av->Dm Fl :=
 (az (cT (cW (ag 1)) (hName 2) (aI (aN sT (ae (ag 0) (ae (ag 2) ah))) (hName 0)))
 (aV (ag 0)))
def AX:List D->Dm D:=eI 3 GJ
def D9:Stmt:=top 59
theorem JX:aD ["_law_floor_here","_law_word_here","_law_step"] ["_law_floor_here","_law_word_here"] (au D9):=⟨rfl,rfl,rfl,by w_fin,rfl,by w_fin,by w_fin⟩
theorem Uy {f:Addr} {fd:FuncData} (D:Def K mg "_law_led" D9 ["_law_floor_here","_law_word_here"] f fd) (T:Txt mg)  {b6:Addr} {b7:FuncData} (b8:Def K mg "_law_stepped" AL ["_law_floor_here","_law_step"] b6 b7) (cF:aE P w K mg base a7 2 b6 b7 ["_law_floor_here","_law_step"] (bj K 2 sT)):aE P w K mg base a7 3 f fd ["_law_floor_here","_law_word_here"] (bj K 2 AX):=by
 refine D.F.ok JX (fun _ _ _ _ h=>h.1) (fun c A o s H v Q E hr h=>?_)
 refine ⟨_,(@aZ _ _ _ _ _ (@mL _ _ _ _ _ _ _ _ PassesOwn.never rfl (pN (pv 1)) (dr (i:=2) JX.nd rfl (by w_up)) (@bg _ _ _ (@bR (i:=0) _ _ _ _ _ _ JX.nd rfl (by w_up) (cf cF b8 hr (by decide) rfl (@aj _ _ _ _ _ (pv 0) (@aj _ _ _ _ _ (pv 2) aA (by rfl)) (by rfl))) (by rfl) (by w_up))) (by intro _;rfl))
  (@bg _ _ _ (@dj _ _ _ _ (pv 0)))),?_⟩
 exact fm (b:=GJ) (a6 (mS (pT (ai 1)) (aR 2) (bI (cb (F:=sT) (ao (ai 0) (ao (ai 2) aB)) eZ) (aR 0)))
  (dk (ai 0))) rfl h
def GK:av->Dm Fl :=
 (aV (bq (ae (ay c4 (ay cz (ay aM (ag 0) (fC (.int 0))) (ay aM (ag 1) (fC (.int 0)))) (ay cz (ay aM (ag 0) (fC (.int 1))) (ay aM (ag 1) (fC (.int 1))))) (ae (ay c4 (ay cz (ay aM (ag 0) (fC (.int 2))) (ay aM (ag 1) (fC (.int 0)))) (ay cz (ay aM (ag 0) (fC (.int 3))) (ay aM (ag 1) (fC (.int 1))))) ah))))
def Ea:List D->Dm D:=eI 2 GK
def Eb:Stmt:=top 20
theorem Uz:aD ["table","pair"] ["table","pair"] (au Eb):=⟨rfl,rfl,rfl,by w_fin,rfl,by w_fin,by w_fin⟩
theorem UA {f:Addr} {fd:FuncData} (D:Def K mg "led_pair" Eb ["table","pair"] f fd) (T:Txt mg)  :aE P w K mg base a7 1 f fd ["table","pair"] (bj K 2 Ea):=by
 refine D.F.ok Uz (fun _ _ _ _ h=>h.1) (fun c A o s H v Q E hr h=>?_)
 refine ⟨_,(@bg _ _ _ (@dj _ _ _ _ (@eW _ _ _ _ _ (@aj _ _ _ _ _ (bF lH (bF nV (@bh _ _ _ _ _ _ _ cg (pv 0) aK (fun _ _=>rfl)) (@bh _ _ _ _ _ _ _ cg (pv 1) aK (fun _ _=>rfl))) (bF nV (@bh _ _ _ _ _ _ _ cg (pv 0) aK (fun _ _=>rfl)) (@bh _ _ _ _ _ _ _ cg (pv 1) aK (fun _ _=>rfl)))) (@aj _ _ _ _ _ (bF lH (bF nV (@bh _ _ _ _ _ _ _ cg (pv 0) aK (fun _ _=>rfl)) (@bh _ _ _ _ _ _ _ cg (pv 1) aK (fun _ _=>rfl))) (bF nV (@bh _ _ _ _ _ _ _ cg (pv 0) aK (fun _ _=>rfl)) (@bh _ _ _ _ _ _ _ cg (pv 1) aK (fun _ _=>rfl)))) aA (by rfl)) (by rfl))))),?_⟩
 exact fm (b:=GK) (dk (eX (ao (aC lI (aC nX (aC bU (ai 0) (aL _)) (aC bU (ai 1) (aL _))) (aC nX (aC bU (ai 0) (aL _)) (aC bU (ai 1) (aL _)))) (ao (aC lI (aC nX (aC bU (ai 0) (aL _)) (aC bU (ai 1) (aL _))) (aC nX (aC bU (ai 0) (aL _)) (aC bU (ai 1) (aL _)))) aB)))) rfl h
def GL:av->Dm Fl :=
 (az (eP (aJ (ay (jE false) (ag 0) (fC (.int 0)))) (aV (bq ah)) aU)
 (aV (bq (ae (bq (ae (fC (.str "s")) (ae (ag 0) ah))) ah))))
def tT:List D->Dm D:=eI 1 GL
def AY:Stmt:=top 35
theorem UB:aD ["k"] ["k"] (au AY):=⟨rfl,rfl,rfl,by w_fin,rfl,by w_fin,by w_fin⟩
theorem UC {f:Addr} {fd:FuncData} (D:Def K mg "shears" AY ["k"] f fd) (T:Txt mg)  :aE P w K mg base a7 1 f fd ["k"] (bj K 1 tT):=by
 refine D.F.ok UB (fun _ _ _ _ h=>h.1) (fun c A o s H v Q E hr h=>?_)
 refine ⟨_,(@aZ _ _ _ _ _ (@jC _ _ _ _ _ _ _ _ (fW n9 (pv 0) aK (aO _)) (@bg _ _ _ (@dj _ _ _ _ (@eW _ _ _ _ _ aA))) kg)
  (@bg _ _ _ (@dj _ _ _ _ (@eW _ _ _ _ _ (@aj _ _ _ _ _ (@eW _ _ _ _ _ (@aj _ _ _ _ _ o9 (@aj _ _ _ _ _ (pv 0) aA (by rfl)) (by rfl))) aA (by rfl)))))),?_⟩
 exact fm (b:=GL) (a6 (jF (fR (aC ou (ai 0) (aL _))) (dk (eX aB)) kj)
  (dk (eX (ao (eX (ao (pA _) (ao (ai 0) aB))) aB)))) rfl h
def GN:av->Dm Fl :=
 (aV (bq (ae (ay c4 (ay cz (ay aM (ag 0) (fC (.int 0))) (ay aM (ag 1) (fC (.int 0)))) (ay cz (ay aM (ag 0) (fC (.int 1))) (ay aM (ag 1) (fC (.int 2))))) (ae (ay c4 (ay cz (ay aM (ag 0) (fC (.int 0))) (ay aM (ag 1) (fC (.int 1)))) (ay cz (ay aM (ag 0) (fC (.int 1))) (ay aM (ag 1) (fC (.int 3))))) (ae (ay c4 (ay cz (ay aM (ag 0) (fC (.int 2))) (ay aM (ag 1) (fC (.int 0)))) (ay cz (ay aM (ag 0) (fC (.int 3))) (ay aM (ag 1) (fC (.int 2))))) (ae (ay c4 (ay cz (ay aM (ag 0) (fC (.int 2))) (ay aM (ag 1) (fC (.int 1)))) (ay cz (ay aM (ag 0) (fC (.int 3))) (ay aM (ag 1) (fC (.int 3))))) ah))))))
def sU:List D->Dm D:=eI 2 GN
def zD:Stmt:=top 19
theorem UD:aD ["one","other"] ["one","other"] (au zD):=⟨rfl,rfl,rfl,by w_fin,rfl,by w_fin,by w_fin⟩
theorem UE {f:Addr} {fd:FuncData} (D:Def K mg "times" zD ["one","other"] f fd) (T:Txt mg)  :aE P w K mg base a7 1 f fd ["one","other"] (bj K 2 sU):=by
 refine D.F.ok UD (fun _ _ _ _ h=>h.1) (fun c A o s H v Q E hr h=>?_)
 refine ⟨_,(@bg _ _ _ (@dj _ _ _ _ (@eW _ _ _ _ _ (@aj _ _ _ _ _ (bF lH (bF nV (@bh _ _ _ _ _ _ _ cg (pv 0) aK (fun _ _=>rfl)) (@bh _ _ _ _ _ _ _ cg (pv 1) aK (fun _ _=>rfl))) (bF nV (@bh _ _ _ _ _ _ _ cg (pv 0) aK (fun _ _=>rfl)) (@bh _ _ _ _ _ _ _ cg (pv 1) aK (fun _ _=>rfl)))) (@aj _ _ _ _ _ (bF lH (bF nV (@bh _ _ _ _ _ _ _ cg (pv 0) aK (fun _ _=>rfl)) (@bh _ _ _ _ _ _ _ cg (pv 1) aK (fun _ _=>rfl))) (bF nV (@bh _ _ _ _ _ _ _ cg (pv 0) aK (fun _ _=>rfl)) (@bh _ _ _ _ _ _ _ cg (pv 1) aK (fun _ _=>rfl)))) (@aj _ _ _ _ _ (bF lH (bF nV (@bh _ _ _ _ _ _ _ cg (pv 0) aK (fun _ _=>rfl)) (@bh _ _ _ _ _ _ _ cg (pv 1) aK (fun _ _=>rfl))) (bF nV (@bh _ _ _ _ _ _ _ cg (pv 0) aK (fun _ _=>rfl)) (@bh _ _ _ _ _ _ _ cg (pv 1) aK (fun _ _=>rfl)))) (@aj _ _ _ _ _ (bF lH (bF nV (@bh _ _ _ _ _ _ _ cg (pv 0) aK (fun _ _=>rfl)) (@bh _ _ _ _ _ _ _ cg (pv 1) aK (fun _ _=>rfl))) (bF nV (@bh _ _ _ _ _ _ _ cg (pv 0) aK (fun _ _=>rfl)) (@bh _ _ _ _ _ _ _ cg (pv 1) aK (fun _ _=>rfl)))) aA (by rfl)) (by rfl)) (by rfl)) (by rfl))))),?_⟩
 exact fm (b:=GN) (dk (eX (ao (aC lI (aC nX (aC bU (ai 0) (aL _)) (aC bU (ai 1) (aL _))) (aC nX (aC bU (ai 0) (aL _)) (aC bU (ai 1) (aL _)))) (ao (aC lI (aC nX (aC bU (ai 0) (aL _)) (aC bU (ai 1) (aL _))) (aC nX (aC bU (ai 0) (aL _)) (aC bU (ai 1) (aL _)))) (ao (aC lI (aC nX (aC bU (ai 0) (aL _)) (aC bU (ai 1) (aL _))) (aC nX (aC bU (ai 0) (aL _)) (aC bU (ai 1) (aL _)))) (ao (aC lI (aC nX (aC bU (ai 0) (aL _)) (aC bU (ai 1) (aL _))) (aC nX (aC bU (ai 0) (aL _)) (aC bU (ai 1) (aL _)))) aB)))))) rfl h
def GO:av->Dm Fl :=
 (az (eP (aJ (ay (jE false) (ay aM (ag 0) (fC (.int 0))) (fC (.str "s")))) (aV (bq (ae (fC (.int 1)) (ae (ay aM (ag 0) (fC (.int 1))) (ae (fC (.int 0)) (ae (fC (.int 1)) ah)))))) aU)
 (az (aI (fC (.tup [(.int 1),(.int 0),(.int 0),(.int 1)])) (hName 1))
 (az (cT (bW (ae (ay aM (ag 0) (fC (.int 1))) ah)) (hName 2) (aI (aN sU (ae (fC (.tup [(.int 0),(.int (-1)),(.int 1),(.int 0)])) (ae (ag 1) ah))) (hName 1)))
 (aV (ag 1)))))
def Ec:List D->Dm D:=eI 3 GO
def Ed:Stmt:=top 24
theorem GP:aD ["step","table","turn"] ["step"] (au Ed):=⟨rfl,rfl,rfl,by w_fin,rfl,by w_fin,by w_fin⟩
theorem UG {f:Addr} {fd:FuncData} (D:Def K mg "step_table" Ed ["step"] f fd) (T:Txt mg) {gh:V} (dG:ph K mg "QUARTER_words" gh (.tup [(.int 0),(.int (-1)),(.int 1),(.int 0)])) {jY:V} (eM:ph K mg "UNMOVED" jY (.tup [(.int 1),(.int 0),(.int 0),(.int 1)])) {hV:Addr} {h8:FuncData} (h9:Def K mg "times" zD ["one","other"] hV h8) (iY:aE P w K mg base a7 1 hV h8 ["one","other"] (bj K 2 sU)):aE P w K mg base a7 2 f fd ["step"] (bj K 1 Ec):=by
 refine D.F.ok GP (fun _ _ _ _ h=>h.1) (fun c A o s H v Q E hr h=>?_)
 refine ⟨_,(@aZ _ _ _ _ _ (@jC _ _ _ _ _ _ _ _ (fW n9 (@bh _ _ _ _ _ _ _ cg (pv 0) aK (fun _ _=>rfl)) o9 (aO _)) (@bg _ _ _ (@dj _ _ _ _ (@eW _ _ _ _ _ (@aj _ _ _ _ _ aK (@aj _ _ _ _ _ (@bh _ _ _ _ _ _ _ cg (pv 0) aK (fun _ _=>rfl)) (@aj _ _ _ _ _ aK (@aj _ _ _ _ _ aK aA (by rfl)) (by rfl)) (by rfl)) (by rfl))))) kg)
  (@aZ _ _ _ _ _ (@bR (i:=1) _ _ _ _ _ _ GP.nd rfl (by w_up) (Df eM rfl rfl (by decide)) (by rfl) (by w_up))
  (@aZ _ _ _ _ _ (@mL _ _ _ _ _ _ _ _ PassesOwn.never rfl (pg rfl T.aT (@aj _ _ _ _ _ (@bh _ _ _ _ _ _ _ cg (pv 0) aK (fun _ _=>rfl)) aA (by rfl))) (dr (i:=2) GP.nd rfl (by w_up)) (@bg _ _ _ (@bR (i:=1) _ _ _ _ _ _ GP.nd rfl (by w_up) (cf iY h9 hr (by decide) rfl (@aj _ _ _ _ _ (Df dG rfl rfl (by decide)) (@aj _ _ _ _ _ (pv 1) aA (by rfl)) (by rfl))) (by rfl) (by w_up))) (by intro _;rfl))
  (@bg _ _ _ (@dj _ _ _ _ (pv 1)))))),?_⟩
 exact fm (b:=GO) (a6 (jF (fR (aC ou (aC bU (ai 0) (aL _)) (pA _))) (dk (eX (ao (aL _) (ao (aC bU (ai 0) (aL _)) (ao (aL _) (ao (aL _) aB)))))) kj)
  (a6 (bI (Dg eM) (aR 1))
  (a6 (mS (pF (ao (aC bU (ai 0) (aL _)) aB)) (aR 2) (bI (cb (F:=sU) (ao (Dg dG) (ao (ai 1) aB)) eZ) (aR 1)))
  (dk (ai 1))))) rfl h
def GQ:av->Dm Fl :=
 (az (aI (fC (.tup [(.int 1),(.int 0),(.int 0),(.int 1)])) (hName 1))
 (az (cT (cW (ag 0)) (hName 2) (aI (aN sU (ae (aN Ec (ae (ag 2) ah)) (ae (ag 1) ah))) (hName 1)))
 (aV (ag 1))))
def wJ:List D->Dm D:=eI 3 GQ
def AZ:Stmt:=top 25
theorem GS:aD ["word","table","step"] ["word"] (au AZ):=⟨rfl,rfl,rfl,by w_fin,rfl,by w_fin,by w_fin⟩
theorem UH {f:Addr} {fd:FuncData} (D:Def K mg "table_of" AZ ["word"] f fd) (T:Txt mg) {jY:V} (eM:ph K mg "UNMOVED" jY (.tup [(.int 1),(.int 0),(.int 0),(.int 1)])) {hV:Addr} {h8:FuncData} (h9:Def K mg "times" zD ["one","other"] hV h8) (iY:aE P w K mg base a7 1 hV h8 ["one","other"] (bj K 2 sU)) {gK:Addr} {gL:FuncData} (gM:Def K mg "step_table" Ed ["step"] gK gL) (jZ:aE P w K mg base a7 2 gK gL ["step"] (bj K 1 Ec)):aE P w K mg base a7 3 f fd ["word"] (bj K 1 wJ):=by
 refine D.F.ok GS (fun _ _ _ _ h=>h.1) (fun c A o s H v Q E hr h=>?_)
 refine ⟨_,(@aZ _ _ _ _ _ (@bR (i:=1) _ _ _ _ _ _ GS.nd rfl (by w_up) (Df eM rfl rfl (by decide)) (by rfl) (by w_up))
  (@aZ _ _ _ _ _ (@mL _ _ _ _ _ _ _ _ PassesOwn.never rfl (pN (pv 0)) (dr (i:=2) GS.nd rfl (by w_up)) (@bg _ _ _ (@bR (i:=1) _ _ _ _ _ _ GS.nd rfl (by w_up) (cf iY h9 hr (by decide) rfl (@aj _ _ _ _ _ (cf jZ gM hr (by decide) rfl (@aj _ _ _ _ _ (pv 2) aA (by rfl))) (@aj _ _ _ _ _ (pv 1) aA (by rfl)) (by rfl))) (by rfl) (by w_up))) (by intro _;rfl))
  (@bg _ _ _ (@dj _ _ _ _ (pv 1))))),?_⟩
 exact fm (b:=GQ) (a6 (bI (Dg eM) (aR 1))
  (a6 (mS (pT (ai 0)) (aR 2) (bI (cb (F:=sU) (ao (cb (F:=Ec) (ao (ai 2) aB) kL) (ao (ai 1) aB)) eZ) (aR 1)))
  (dk (ai 1)))) rfl h
def GU:av->Dm Fl :=
 (aV (ay oT (ay c4 (ay mv (fC (.int 2)) (ag 0)) (ag 1)) (ay mv (fC (.int 2)) (ag 1))))
def Ee:List D->Dm D:=eI 2 GU
def Ef:Stmt:=top 34
theorem UI:aD ["number","divisor"] ["number","divisor"] (au Ef):=⟨rfl,rfl,rfl,by w_fin,rfl,by w_fin,by w_fin⟩
theorem UJ {f:Addr} {fd:FuncData} (D:Def K mg "nearest" Ef ["number","divisor"] f fd) (T:Txt mg)  :aE P w K mg base a7 1 f fd ["number","divisor"] (bj K 2 Ee):=by
 refine D.F.ok UI (fun _ _ _ _ h=>h.1) (fun c A o s H v Q E hr h=>?_)
 refine ⟨_,(@bg _ _ _ (@dj _ _ _ _ (bF Qz (bF lH (bF tu aK (pv 0)) (pv 1)) (bF tu aK (pv 1))))),?_⟩
 exact fm (b:=GU) (dk (aC Tg (aC lI (aC tL (aL _) (ai 0)) (ai 1)) (aC tL (aL _) (ai 1)))) rfl h
def GV:av->Dm Fl :=
 (az (aI (bq ah) (hName 1))
 (az (aI (ag 0) (hName 2))
 (az (iJ (aJ (ay (jE true) (ay aM (ag 2) (fC (.int 1))) (fC (.int 0)))) (az (aI (ay jA (aN tT (ae (qS lS (aN Ee (ae (ay aM (ag 2) (fC (.int 0))) (ae (ay aM (ag 2) (fC (.int 1))) ah)))) ah)) (bq (ae (bq (ae (fC (.str "t")) (ae (fC (.int 1)) ah))) ah))) (hName 3))
 (az (aI (aN Ea (ae (aN wJ (ae (ag 3) ah)) (ae (ag 2) ah))) (hName 2))
 (aI (ay jA (ag 1) (ag 3)) (hName 1)))))
 (aV (ag 1)))))
def Eg:List D->Dm D:=eI 4 GV
def Eh:Stmt:=top 33
theorem A0:aD ["pair","gone","left","steps"] ["pair"] (au Eh):=⟨rfl,rfl,rfl,by w_fin,rfl,by w_fin,by w_fin⟩
theorem UK {f:Addr} {fd:FuncData} (D:Def K mg "level_steps" Eh ["pair"] f fd) (T:Txt mg)  {ky:Addr} {kz:FuncData} (kA:Def K mg "led_pair" Eb ["table","pair"] ky kz) (mB:aE P w K mg base a7 1 ky kz ["table","pair"] (bj K 2 Ea)) {iZ:Addr} {i3:FuncData} (gO:Def K mg "shears" AY ["k"] iZ i3) (i5:aE P w K mg base a7 1 iZ i3 ["k"] (bj K 1 tT)) {dU:Addr} {dW:FuncData} (dX:Def K mg "table_of" AZ ["word"] dU dW) (fT:aE P w K mg base a7 3 dU dW ["word"] (bj K 1 wJ)) {l6:Addr} {l8:FuncData} (l9:Def K mg "nearest" Ef ["number","divisor"] l6 l8) (nP:aE P w K mg base a7 1 l6 l8 ["number","divisor"] (bj K 2 Ee)):aE P w K mg base a7 4 f fd ["pair"] (bj K 1 Eg):=by
 refine D.F.ok A0 (fun _ _ _ _ h=>h.1) (fun c A o s H v Q E hr h=>?_)
 refine ⟨_,(@aZ _ _ _ _ _ (@bR (i:=1) _ _ _ _ _ _ A0.nd rfl (by w_up) (@eW _ _ _ _ _ aA) (by rfl) (by w_up))
  (@aZ _ _ _ _ _ (@bR (i:=2) _ _ _ _ _ _ A0.nd rfl (by w_up) (pv 0) (by rfl) (by w_up))
  (@aZ _ _ _ _ _ (xl PassesOwn.never (fW Bt (@bh _ _ _ _ _ _ _ cg (pv 2) aK (fun _ _=>rfl)) aK (aO _)) (@aZ _ _ _ _ _ (@bR (i:=3) _ _ _ _ _ _ A0.nd rfl (by w_up) (bF vq (cf i5 gO hr (by decide) rfl (@aj _ _ _ _ _ (rJ rL (cf nP l9 hr (by decide) rfl (@aj _ _ _ _ _ (@bh _ _ _ _ _ _ _ cg (pv 2) aK (fun _ _=>rfl)) (@aj _ _ _ _ _ (@bh _ _ _ _ _ _ _ cg (pv 2) aK (fun _ _=>rfl)) aA (by rfl)) (by rfl)))) aA (by rfl))) (@eW _ _ _ _ _ (@aj _ _ _ _ _ (@eW _ _ _ _ _ (@aj _ _ _ _ _ o9 (@aj _ _ _ _ _ aK aA (by rfl)) (by rfl))) aA (by rfl)))) (by rfl) (by w_up))
  (@aZ _ _ _ _ _ (@bR (i:=2) _ _ _ _ _ _ A0.nd rfl (by w_up) (cf mB kA hr (by decide) rfl (@aj _ _ _ _ _ (cf fT dX hr (by decide) rfl (@aj _ _ _ _ _ (pv 3) aA (by rfl))) (@aj _ _ _ _ _ (pv 2) aA (by rfl)) (by rfl))) (by rfl) (by w_up))
  (@bg _ _ _ (@bR (i:=1) _ _ _ _ _ _ A0.nd rfl (by w_up) (bF vq (pv 1) (pv 3)) (by rfl) (by w_up))))))
  (@bg _ _ _ (@dj _ _ _ _ (pv 1)))))),?_⟩
 exact fm (b:=GV) (a6 (bI (eX aB) (aR 1))
  (a6 (bI (ai 0) (aR 2))
  (a6 (yn (fR (aC CF (aC bU (ai 2) (aL _)) (aL _))) (a6 (bI (aC vX (cb (F:=tT) (ao (sx sA (cb (F:=Ee) (ao (aC bU (ai 2) (aL _)) (ao (aC bU (ai 2) (aL _)) aB)) eZ)) aB) kL) (eX (ao (eX (ao (pA _) (ao (aL _) aB))) aB))) (aR 3))
  (a6 (bI (cb (F:=Ea) (ao (cb (F:=wJ) (ao (ai 3) aB) kL) (ao (ai 2) aB)) eZ) (aR 2))
  (bI (aC vX (ai 1) (ai 3)) (aR 1)))))
  (dk (ai 1))))) rfl h
def GW:av->Dm Fl :=
 (aV (qA (ay (jE false) (aN cY (ae (ag 0) ah)) (fC (.int 4))) (ay (jE false) (ay mZ (ay cz (ay aM (ag 0) (fC (.int 0))) (ay aM (ag 0) (fC (.int 3)))) (ay cz (ay aM (ag 0) (fC (.int 1))) (ay aM (ag 0) (fC (.int 2))))) (fC (.int 1)))))
def Ei:List D->Dm D:=eI 1 GW
def Ej:Stmt:=top 18
theorem UL:aD ["thing"] ["thing"] (au Ej):=⟨rfl,rfl,rfl,by w_fin,rfl,by w_fin,by w_fin⟩
theorem UM {f:Addr} {fd:FuncData} (D:Def K mg "is_table" Ej ["thing"] f fd) (T:Txt mg)  :aE P w K mg base a7 1 f fd ["thing"] (bj K 1 Ei):=by
 refine D.F.ok UL (fun _ _ _ _ h=>h.1) (fun c A o s H v Q E hr h=>?_)
 refine ⟨_,(@bg _ _ _ (@dj _ _ _ _ (xj (zY n9 (jN lO (by rfl) T.bS lP (@aj _ _ _ _ _ (pv 0) aA (by rfl))) aK (aO _)) (xi (zY n9 (bF xo (bF nV (@bh _ _ _ _ _ _ _ cg (pv 0) aK (fun _ _=>rfl)) (@bh _ _ _ _ _ _ _ cg (pv 0) aK (fun _ _=>rfl))) (bF nV (@bh _ _ _ _ _ _ _ cg (pv 0) aK (fun _ _=>rfl)) (@bh _ _ _ _ _ _ _ cg (pv 0) aK (fun _ _=>rfl)))) aK (aO _)))))),?_⟩
 exact fm (b:=GW) (dk (RA (aC ou (cq lU (ao (ai 0) aB)) (aL _)) (aC ou (aC ye (aC nX (aC bU (ai 0) (aL _)) (aC bU (ai 0) (aL _))) (aC nX (aC bU (ai 0) (aL _)) (aC bU (ai 0) (aL _)))) (aL _)))) rfl h
def GX:av->Dm Fl :=
 (az (eP (aJ (ay (jE false) (ay aM (ag 0) (fC (.int 0))) (fC (.int 1)))) (aV (aN tT (ae (ay aM (ag 0) (fC (.int 1))) ah))) aU)
 (aV (ay jA (bq (ae (bq (ae (fC (.str "t")) (ae (fC (.int 2)) ah))) ah)) (aN tT (ae (qS lS (ay aM (ag 0) (fC (.int 1)))) ah)))))
def Ek:List D->Dm D:=eI 1 GX
def El:Stmt:=top 36
theorem UN:aD ["table"] ["table"] (au El):=⟨rfl,rfl,rfl,by w_fin,rfl,by w_fin,by w_fin⟩
theorem UO {f:Addr} {fd:FuncData} (D:Def K mg "level_word" El ["table"] f fd) (T:Txt mg)  {iZ:Addr} {i3:FuncData} (gO:Def K mg "shears" AY ["k"] iZ i3) (i5:aE P w K mg base a7 1 iZ i3 ["k"] (bj K 1 tT)):aE P w K mg base a7 2 f fd ["table"] (bj K 1 Ek):=by
 refine D.F.ok UN (fun _ _ _ _ h=>h.1) (fun c A o s H v Q E hr h=>?_)
 refine ⟨_,(@aZ _ _ _ _ _ (@jC _ _ _ _ _ _ _ _ (fW n9 (@bh _ _ _ _ _ _ _ cg (pv 0) aK (fun _ _=>rfl)) aK (aO _)) (@bg _ _ _ (@dj _ _ _ _ (cf i5 gO hr (by decide) rfl (@aj _ _ _ _ _ (@bh _ _ _ _ _ _ _ cg (pv 0) aK (fun _ _=>rfl)) aA (by rfl))))) kg)
  (@bg _ _ _ (@dj _ _ _ _ (bF vq (@eW _ _ _ _ _ (@aj _ _ _ _ _ (@eW _ _ _ _ _ (@aj _ _ _ _ _ o9 (@aj _ _ _ _ _ aK aA (by rfl)) (by rfl))) aA (by rfl))) (cf i5 gO hr (by decide) rfl (@aj _ _ _ _ _ (rJ rL (@bh _ _ _ _ _ _ _ cg (pv 0) aK (fun _ _=>rfl))) aA (by rfl))))))),?_⟩
 exact fm (b:=GX) (a6 (jF (fR (aC ou (aC bU (ai 0) (aL _)) (aL _))) (dk (cb (F:=tT) (ao (aC bU (ai 0) (aL _)) aB) kL)) kj)
  (dk (aC vX (eX (ao (eX (ao (pA _) (ao (aL _) aB))) aB)) (cb (F:=tT) (ao (sx sA (aC bU (ai 0) (aL _))) aB) kL)))) rfl h
def GY:av->Dm Fl :=
 (az (eP (aJ (ay (jE false) (ay aM (ag 0) (fC (.int 0))) (fC (.str "s")))) (aV (bq (ae (fC (.str "s")) (ae (qS lS (ay aM (ag 0) (fC (.int 1)))) ah)))) aU)
 (aV (bq (ae (fC (.str "t")) (ae (ay mZ (fC (.int 4)) (ay aM (ag 0) (fC (.int 1)))) ah)))))
def Em:List D->Dm D:=eI 1 GY
def En:Stmt:=top 29
theorem UP:aD ["step"] ["step"] (au En):=⟨rfl,rfl,rfl,by w_fin,rfl,by w_fin,by w_fin⟩
theorem UQ {f:Addr} {fd:FuncData} (D:Def K mg "back_step" En ["step"] f fd) (T:Txt mg)  :aE P w K mg base a7 1 f fd ["step"] (bj K 1 Em):=by
 refine D.F.ok UP (fun _ _ _ _ h=>h.1) (fun c A o s H v Q E hr h=>?_)
 refine ⟨_,(@aZ _ _ _ _ _ (@jC _ _ _ _ _ _ _ _ (fW n9 (@bh _ _ _ _ _ _ _ cg (pv 0) aK (fun _ _=>rfl)) o9 (aO _)) (@bg _ _ _ (@dj _ _ _ _ (@eW _ _ _ _ _ (@aj _ _ _ _ _ o9 (@aj _ _ _ _ _ (rJ rL (@bh _ _ _ _ _ _ _ cg (pv 0) aK (fun _ _=>rfl))) aA (by rfl)) (by rfl))))) kg)
  (@bg _ _ _ (@dj _ _ _ _ (@eW _ _ _ _ _ (@aj _ _ _ _ _ o9 (@aj _ _ _ _ _ (bF xo aK (@bh _ _ _ _ _ _ _ cg (pv 0) aK (fun _ _=>rfl))) aA (by rfl)) (by rfl)))))),?_⟩
 exact fm (b:=GY) (a6 (jF (fR (aC ou (aC bU (ai 0) (aL _)) (pA _))) (dk (eX (ao (pA _) (ao (sx sA (aC bU (ai 0) (aL _))) aB)))) kj)
  (dk (eX (ao (pA _) (ao (aC ye (aL _) (aC bU (ai 0) (aL _))) aB))))) rfl h
def GZ:av->Dm Fl :=
 (aV (aN bM (ae (c5 (qD (ae (ag 0) ah)) 1 [] (hName 0) dw (aN Em (ae (ag 0) ah))) ah)))
def Eo:List D->Dm D:=eI 1 GZ
def Ep:Stmt:=top 30
theorem UR:aD ["word"] ["word"] (au Ep):=⟨rfl,rfl,rfl,by w_fin,rfl,by w_fin,by w_fin⟩
theorem US {f:Addr} {fd:FuncData} (D:Def K mg "back_word" Ep ["word"] f fd) (T:Txt mg)  {i6:Addr} {i7:FuncData} (i9:Def K mg "back_step" En ["step"] i6 i7) (lj:aE P w K mg base a7 1 i6 i7 ["step"] (bj K 1 Em)):aE P w K mg base a7 2 f fd ["word"] (bj K 1 Eo):=by
 refine D.F.ok UR (fun _ _ _ _ h=>h.1) (fun c A o s H v Q E hr h=>?_)
 refine ⟨_,(@bg _ _ _ (@dj _ _ _ _ (gx oe (by rfl) T.bG oh (@aj _ _ _ _ _ (rh (own:=["step"]) (fr:=[]) (js:=[]) rfl ⟨⟨rfl,by w_fin,by w_fin,by dsimp only [g9,aS,Cx.n8,Cx.wish,PyProof.Rows.envOfC,compEnvC,relabel,Env.kindOf];decide +kernel,by w_fin⟩,rfl⟩ (xP rfl T.p9 (@aj _ _ _ _ _ (pv 0) aA (by rfl))) (fun _ _ _ _ _=>(dr (i:=0) (show ((["step"]:List Str) ++ ([]:List Str)).Nodup by w_fin) rfl (by w_up))) (fun _ _ _ _ _=>rg) (fun _ _ _ _ _=>(cf lj i9 hr (by decide) rfl (@aj _ _ _ _ _ (pv 0) aA (by rfl))))) aA (by rfl))))),?_⟩
 exact fm (b:=GZ) (dk (cq oy (ao (qB (S7 (ao (ai 0) aB)) (aR 0) rq (cb (F:=Em) (ao (ai 0) aB) kL)) aB))) rfl h
def G0:av->Dm Fl :=
 (az (eP (uC (aJ (aN Ei (ae (ag 0) ah)))) p8 aU)
 (az (aI (aN Eg (ae (bq (ae (ay aM (ag 0) (fC (.int 0))) (ae (ay aM (ag 0) (fC (.int 2))) ah))) ah)) (hName 1))
 (aV (aN wI (ae (aN Ek (ae (aN sU (ae (aN wJ (ae (ag 1) ah)) (ae (ag 0) ah))) ah)) (ae (aN Eo (ae (ag 1) ah)) ah))))))
def Er:List D->Dm D:=eI 2 G0
def Es:Stmt:=top 32
theorem NK:aD ["table","gone"] ["table"] (au Es):=⟨rfl,rfl,rfl,by w_fin,rfl,by w_fin,by w_fin⟩
theorem UT {f:Addr} {fd:FuncData} (D:Def K mg "word_of" Es ["table"] f fd) (T:Txt mg)  {fI:Addr} {fJ:FuncData} (fK:Def K mg "level_steps" Eh ["pair"] fI fJ) (ja:aE P w K mg base a7 4 fI fJ ["pair"] (bj K 1 Eg)) {bY:Addr} {bZ:FuncData} (b5:Def K mg "put_together" AI ["one","other"] bY bZ) (cE:aE P w K mg base a7 3 bY bZ ["one","other"] (bj K 2 wI)) {kC:Addr} {kD:FuncData} (kE:Def K mg "is_table" Ej ["thing"] kC kD) (mC:aE P w K mg base a7 1 kC kD ["thing"] (bj K 1 Ei)) {gP:Addr} {gQ:FuncData} (gR:Def K mg "level_word" El ["table"] gP gQ) (j4:aE P w K mg base a7 2 gP gQ ["table"] (bj K 1 Ek)) {jb:Addr} {jc:FuncData} (jd:Def K mg "back_word" Ep ["word"] jb jc) (lp:aE P w K mg base a7 2 jb jc ["word"] (bj K 1 Eo)) {hV:Addr} {h8:FuncData} (h9:Def K mg "times" zD ["one","other"] hV h8) (iY:aE P w K mg base a7 1 hV h8 ["one","other"] (bj K 2 sU)) {dU:Addr} {dW:FuncData} (dX:Def K mg "table_of" AZ ["word"] dU dW) (fT:aE P w K mg base a7 3 dU dW ["word"] (bj K 1 wJ)):aE P w K mg base a7 5 f fd ["table"] (bj K 1 Er):=by
 refine D.F.ok NK (fun _ _ _ _ h=>h.1) (fun c A o s H v Q E hr h=>?_)
 refine ⟨_,(@aZ _ _ _ _ _ (@jC _ _ _ _ _ _ _ _ (xh (xg (cf mC kE hr (by decide) rfl (@aj _ _ _ _ _ (pv 0) aA (by rfl))))) (@bg _ _ _ KI) kg)
  (@aZ _ _ _ _ _ (@bR (i:=1) _ _ _ _ _ _ NK.nd rfl (by w_up) (cf ja fK hr (by decide) rfl (@aj _ _ _ _ _ (@eW _ _ _ _ _ (@aj _ _ _ _ _ (@bh _ _ _ _ _ _ _ cg (pv 0) aK (fun _ _=>rfl)) (@aj _ _ _ _ _ (@bh _ _ _ _ _ _ _ cg (pv 0) aK (fun _ _=>rfl)) aA (by rfl)) (by rfl))) aA (by rfl))) (by rfl) (by w_up))
  (@bg _ _ _ (@dj _ _ _ _ (cf cE b5 hr (by decide) rfl (@aj _ _ _ _ _ (cf j4 gR hr (by decide) rfl (@aj _ _ _ _ _ (cf iY h9 hr (by decide) rfl (@aj _ _ _ _ _ (cf fT dX hr (by decide) rfl (@aj _ _ _ _ _ (pv 1) aA (by rfl))) (@aj _ _ _ _ _ (pv 0) aA (by rfl)) (by rfl))) aA (by rfl))) (@aj _ _ _ _ _ (cf lp jd hr (by decide) rfl (@aj _ _ _ _ _ (pv 1) aA (by rfl))) aA (by rfl)) (by rfl))))))),?_⟩
 exact fm (b:=G0) (a6 (jF (yc (vR (cb (F:=Ei) (ao (ai 0) aB) kL))) Ny kj)
  (a6 (bI (cb (F:=Eg) (ao (eX (ao (aC bU (ai 0) (aL _)) (ao (aC bU (ai 0) (aL _)) aB))) aB) kL) (aR 1))
  (dk (cb (F:=wI) (ao (cb (F:=Ek) (ao (cb (F:=sU) (ao (cb (F:=wJ) (ao (ai 1) aB) kL) (ao (ai 0) aB)) eZ) aB) kL) (ao (cb (F:=Eo) (ao (ai 1) aB) kL) aB)) eZ)))) rfl h
def G1:av->Dm Fl :=
 (aV (aN qH (ae (aN wH (ae (ag 0) (ae (aN Er (ae (ag 1) ah)) ah))) ah)))
def Et:List D->Dm D:=eI 2 G1
def Eu:Stmt:=top 42
theorem UU:aD ["floor","table"] ["floor","table"] (au Eu):=⟨rfl,rfl,rfl,by w_fin,rfl,by w_fin,by w_fin⟩
theorem UW {f:Addr} {fd:FuncData} (D:Def K mg "led_by_table" Eu ["floor","table"] f fd) (T:Txt mg)  {cj:Addr} {ck:FuncData} (cm:Def K mg "form_of" wG ["floor"] cj ck) (cB:aE P w K mg base a7 4 cj ck ["floor"] (bj K 1 qH)) {iT:Addr} {iU:FuncData} (iW:Def K mg "led_by" AH ["floor","word"] iT iU) (ku:aE P w K mg base a7 6 iT iU ["floor","word"] (bj K 2 wH)) {ma:Addr} {md:FuncData} (mf:Def K mg "word_of" Es ["table"] ma md) (nQ:aE P w K mg base a7 5 ma md ["table"] (bj K 1 Er)):aE P w K mg base a7 7 f fd ["floor","table"] (bj K 2 Et):=by
 refine D.F.ok UU (fun _ _ _ _ h=>h.1) (fun c A o s H v Q E hr h=>?_)
 refine ⟨_,(@bg _ _ _ (@dj _ _ _ _ (cf cB cm hr (by decide) rfl (@aj _ _ _ _ _ (cf ku iW hr (by decide) rfl (@aj _ _ _ _ _ (pv 0) (@aj _ _ _ _ _ (cf nQ mf hr (by decide) rfl (@aj _ _ _ _ _ (pv 1) aA (by rfl))) aA (by rfl)) (by rfl))) aA (by rfl))))),?_⟩
 exact fm (b:=G1) (dk (cb (F:=qH) (ao (cb (F:=wH) (ao (ai 0) (ao (cb (F:=Er) (ao (ai 1) aB) kL) aB)) eZ) aB) kL)) rfl h
def G2:av->Dm Fl :=
 (aV (ay (iH false) (aN Et (ae (ag 0) (ae (ag 1) ah))) (aN qH (ae (ag 0) ah))))
def sW:List D->Dm D:=eI 2 G2
def Ew:Stmt:=top 49
theorem UX:aD ["floor","table"] ["floor","table"] (au Ew):=⟨rfl,rfl,rfl,by w_fin,rfl,by w_fin,by w_fin⟩
theorem UY {f:Addr} {fd:FuncData} (D:Def K mg "is_of_group" Ew ["floor","table"] f fd) (T:Txt mg)  {eA:Addr} {eB:FuncData} (eC:Def K mg "led_by_table" Eu ["floor","table"] eA eB) (ie:aE P w K mg base a7 7 eA eB ["floor","table"] (bj K 2 Et)) {cj:Addr} {ck:FuncData} (cm:Def K mg "form_of" wG ["floor"] cj ck) (cB:aE P w K mg base a7 4 cj ck ["floor"] (bj K 1 qH)):aE P w K mg base a7 8 f fd ["floor","table"] (bj K 2 sW):=by
 refine D.F.ok UX (fun _ _ _ _ h=>h.1) (fun c A o s H v Q E hr h=>?_)
 have hu:=hr.units
 refine ⟨_,(@bg _ _ _ (@dj _ _ _ _ (zY (Ig hu) (cf ie eC hr (by decide) rfl (@aj _ _ _ _ _ (pv 0) (@aj _ _ _ _ _ (pv 1) aA (by rfl)) (by rfl))) (cf cB cm hr (by decide) rfl (@aj _ _ _ _ _ (pv 0) aA (by rfl))) (aO _)))),?_⟩
 exact fm (b:=G2) (dk (aC (Au false) (cb (F:=Et) (ao (ai 0) (ao (ai 1) aB)) eZ) (cb (F:=qH) (ao (ai 0) aB) kL))) rfl h
def G3:av->Dm Fl :=
 (aV (bq (ae (ay aM (ag 0) (fC (.int 3))) (ae (ay mZ (fC (.int 0)) (ay aM (ag 0) (fC (.int 1)))) (ae (ay mZ (fC (.int 0)) (ay aM (ag 0) (fC (.int 2)))) (ae (ay aM (ag 0) (fC (.int 0))) ah))))))
def zE:List D->Dm D:=eI 1 G3
def Ey:Stmt:=top 66
theorem UZ:aD ["_law_table_here"] ["_law_table_here"] (au Ey):=⟨rfl,rfl,rfl,by w_fin,rfl,by w_fin,by w_fin⟩
theorem U0 {f:Addr} {fd:FuncData} (D:Def K mg "_law_undone" Ey ["_law_table_here"] f fd) (T:Txt mg)  :aE P w K mg base a7 1 f fd ["_law_table_here"] (bj K 1 zE):=by
 refine D.F.ok UZ (fun _ _ _ _ h=>h.1) (fun c A o s H v Q E hr h=>?_)
 refine ⟨_,(@bg _ _ _ (@dj _ _ _ _ (@eW _ _ _ _ _ (@aj _ _ _ _ _ (@bh _ _ _ _ _ _ _ cg (pv 0) aK (fun _ _=>rfl)) (@aj _ _ _ _ _ (bF xo aK (@bh _ _ _ _ _ _ _ cg (pv 0) aK (fun _ _=>rfl))) (@aj _ _ _ _ _ (bF xo aK (@bh _ _ _ _ _ _ _ cg (pv 0) aK (fun _ _=>rfl))) (@aj _ _ _ _ _ (@bh _ _ _ _ _ _ _ cg (pv 0) aK (fun _ _=>rfl)) aA (by rfl)) (by rfl)) (by rfl)) (by rfl))))),?_⟩
 exact fm (b:=G3) (dk (eX (ao (aC bU (ai 0) (aL _)) (ao (aC ye (aL _) (aC bU (ai 0) (aL _))) (ao (aC ye (aL _) (aC bU (ai 0) (aL _))) (ao (aC bU (ai 0) (aL _)) aB)))))) rfl h
def G4:av->Dm Fl :=
 (az (aI (aN wz (ae (ag 0) (ae (fC (.int 1)) ah))) (hName 1))
 (az (aI (aN zx (ae (ag 1) (ae (ay c4 (fC (.int 1)) (aN mX (ae (ag 1) (ae (fC (.int 5)) ah)))) ah))) (hName 2))
 (az (eP (aJ (ay (sP false) (aN D5 (ae (ag 2) (ae (fC (.int 16)) ah))) (fC .non))) (aI (aN zx (ae (ag 1) (ae (ay c4 (fC (.int 1)) (aN mX (ae (ag 1) (ae (fC (.int 3)) ah)))) ah))) (hName 2)) aU)
 (az (aI (aN (fun as=>zA (as ++ [.int 60])) (ae (ag 2) ah)) (hName 3))
 (az (aI (bq (ae (fC (.int 1)) (ae (fC (.int 0)) (ae (fC (.int 0)) (ae (fC (.int 1)) ah))))) (hName 4))
 (az (cT (nJ (ae (fC (.int 2)) (ae (aN pD (ae (fC (.int 4)) (ae (aN pE (ae (fC (.int 7)) (ae (aN cY (ae (ag 0) ah)) ah))) ah))) ah))) (hName 5) (az (aI (aN wz (ae (ag 0) (ae (ag 5) ah))) (hName 1))
 (az (aI (aN AU (ae (ag 1) (ae (fC (.int 5)) (ae (fC (.int 4)) ah)))) (hName 6))
 (az (aI (aN tR (ae (ag 6) ah)) (hName 7))
 (az (aI (aN rA (ae (aN AX (ae (ag 2) (ae (ag 6) ah))) ah)) (hName 8))
 (az (cT (cW (ag 3)) (kW 4 (bA (hName 9) (bA (hName 10) (bA (hName 11) (bA (hName 12) lV))))) (az (aI (aN qI (ae (aN zE (ae (aN tR (ae (ag 10) ah)) ah)) (ae (ag 7) ah))) (hName 13))
 (az (eP (aJ (ay (jE true) (aN sW (ae (ag 2) (ae (ag 13) ah))) (ay (iH false) (ag 9) (ag 8)))) (aV (fC (.bl false))) aU)
 (eP (aJ (ay (iH false) (ag 9) (ag 8))) (aI (aN qI (ae (ag 13) (ae (ag 4) ah))) (hName 4)) aU))))
 (az (eP (aJ (ay uE (aN nM (ae (c5 (cW (ag 4)) 1 [] (hName 0) dw (aN sQ (ae (ag 0) ah))) ah)) (fC (.int 1000000)))) (aI (bq (ae (fC (.int 1)) (ae (fC (.int 0)) (ae (fC (.int 0)) (ae (fC (.int 1)) ah))))) (hName 4)) aU)
 (eP (aJ (ay (qY true) (aN sW (ae (ag 2) (ae (ag 4) ah))) (fC (.bl true)))) (aV (fC (.bl false))) aU))))))))
 (aV (fC (.bl true)))))))))
def JY:List D->Dm D:=eI 14 G4
def G5:Stmt:=top 67
theorem o7:aD ["_law_script","_law_feed_here","_law_floor_here","_law_chart_here","_law_own","_law_k","_law_word_here","_law_table_here","_law_goal","_law_here","_law_way","_law_s","_law_t","_law_rest"] ["_law_script"] (au G5):=⟨rfl,rfl,rfl,by w_fin,rfl,by w_fin,by w_fin⟩
theorem zF {f:Addr} {fd:FuncData} (D:Def K mg "law" G5 ["_law_script"] f fd) (T:Txt mg)  {je:Addr} {jf:FuncData} (gi:Def K mg "_law_feed" Dq ["_law_script","_law_k"] je jf) (jg:aE P w K mg base a7 1 je jf ["_law_script","_law_k"] (bj K 2 wz)) {gS:Addr} {gT:FuncData} (eN:Def K mg "_law_floor" Du ["_law_feed_here","_law_n"] gS gT) (gU:aE P w K mg base a7 3 gS gT ["_law_feed_here","_law_n"] (bj K 2 zx)) {kF:Addr} {kG:FuncData} (fU:se K mg "chart_of" DZ ["floor","most"] [V.int 60] kF kG) (mD:aE P w K mg base a7 8 kF kG ["floor","most"] (bj K 2 zA)) {gW:Addr} {gX:FuncData} (gY:Def K mg "_law_chart" D6 ["_law_floor_here","_law_most"] gW gX) (j5:aE P w K mg base a7 3 gW gX ["_law_floor_here","_law_most"] (bj K 2 D5)) {jh:Addr} {ji:FuncData} (jk:Def K mg "_law_word" D7 ["_law_feed_here","_law_most","_law_great"] jh ji) (lq:aE P w K mg base a7 2 jh ji ["_law_feed_here","_law_most","_law_great"] (bj K 3 AU)) {gZ:Addr} {g5:FuncData} (eO:Def K mg "_law_table" D8 ["_law_word_here"] gZ g5) (g7:aE P w K mg base a7 2 gZ g5 ["_law_word_here"] (bj K 1 tR)) {dg:Addr} {dh:FuncData} (cM:Def K mg "_law_form" AJ ["_law_floor_here"] dg dh) (di:aE P w K mg base a7 2 dg dh ["_law_floor_here"] (bj K 1 rA)) {bw:Addr} {bx:FuncData} (aP:Def K mg "_law_take" wC ["_law_feed_here","_law_many"] bw bx) (aQ:aE P w K mg base a7 1 bw bx ["_law_feed_here","_law_many"] (bj K 2 mX)) {kH:Addr} {kI:FuncData} (kJ:Def K mg "_law_led" D9 ["_law_floor_here","_law_word_here"] kH kI) (mE:aE P w K mg base a7 3 kH kI ["_law_floor_here","_law_word_here"] (bj K 2 AX)) {cN:Addr} {cO:FuncData} (cu:Def K mg "_law_times" AV ["_law_one","_law_other"] cN cO) (cP:aE P w K mg base a7 1 cN cO ["_law_one","_law_other"] (bj K 2 qI)) {fL:Addr} {fM:FuncData} (dH:Def K mg "is_of_group" Ew ["floor","table"] fL fM) (fN:aE P w K mg base a7 8 fL fM ["floor","table"] (bj K 2 sW)) {fO:Addr} {fP:FuncData} (fQ:Def K mg "_law_undone" Ey ["_law_table_here"] fO fP) (jl:aE P w K mg base a7 1 fO fP ["_law_table_here"] (bj K 1 zE)):aE P w K mg base a7 9 f fd ["_law_script"] (bj K 1 JY):=by
 refine D.F.ok o7 (fun _ _ _ _ h=>h.1) (fun c A o s H v Q E hr h=>?_)
 have hu:=hr.units
 refine ⟨_,(@aZ _ _ _ _ _ (@bR (i:=1) _ _ _ _ _ _ o7.nd rfl (by w_up) (cf jg gi hr (by decide) rfl (@aj _ _ _ _ _ (pv 0) (@aj _ _ _ _ _ aK aA (by rfl)) (by rfl))) (by rfl) (by w_up))
  (@aZ _ _ _ _ _ (@bR (i:=2) _ _ _ _ _ _ o7.nd rfl (by w_up) (cf gU eN hr (by decide) rfl (@aj _ _ _ _ _ (pv 1) (@aj _ _ _ _ _ (bF lH aK (cf aQ aP hr (by decide) rfl (@aj _ _ _ _ _ (pv 1) (@aj _ _ _ _ _ aK aA (by rfl)) (by rfl)))) aA (by rfl)) (by rfl))) (by rfl) (by w_up))
  (@aZ _ _ _ _ _ (@jC _ _ _ _ _ _ _ _ (fW S3 (cf j5 gY hr (by decide) rfl (@aj _ _ _ _ _ (pv 2) (@aj _ _ _ _ _ aK aA (by rfl)) (by rfl))) KD (aO _)) (@bg _ _ _ (@bR (i:=2) _ _ _ _ _ _ o7.nd rfl (by w_up) (cf gU eN hr (by decide) rfl (@aj _ _ _ _ _ (pv 1) (@aj _ _ _ _ _ (bF lH aK (cf aQ aP hr (by decide) rfl (@aj _ _ _ _ _ (pv 1) (@aj _ _ _ _ _ aK aA (by rfl)) (by rfl)))) aA (by rfl)) (by rfl))) (by rfl) (by w_up))) kg)
  (@aZ _ _ _ _ _ (@bR (i:=3) _ _ _ _ _ _ o7.nd rfl (by w_up) (QC mD (hr.mono (by decide)) rfl fU.m fU.F.kp fU.bd vo (@aj _ _ _ _ _ (pv 2) aA (by rfl))) (by rfl) (by w_up))
  (@aZ _ _ _ _ _ (@bR (i:=4) _ _ _ _ _ _ o7.nd rfl (by w_up) (@eW _ _ _ _ _ (@aj _ _ _ _ _ aK (@aj _ _ _ _ _ aK (@aj _ _ _ _ _ aK (@aj _ _ _ _ _ aK aA (by rfl)) (by rfl)) (by rfl)) (by rfl))) (by rfl) (by w_up))
  (@aZ _ _ _ _ _ (@mL _ _ _ _ _ _ _ _ PassesOwn.never rfl (OT rfl T.aT (@aj _ _ _ _ _ aK (@aj _ _ _ _ _ (jN (OY rfl) (by rfl) T.wy LA (@aj _ _ _ _ _ aK (@aj _ _ _ _ _ (jN (OZ rfl) (by rfl) T.sR HZ (@aj _ _ _ _ _ aK (@aj _ _ _ _ _ (jN lO (by rfl) T.bS lP (@aj _ _ _ _ _ (pv 0) aA (by rfl))) aA (by rfl)) (by rfl))) aA (by rfl)) (by rfl))) aA (by rfl)) (by rfl))) (dr (i:=5) o7.nd rfl (by w_up)) (@aZ _ _ _ _ _ (@bR (i:=1) _ _ _ _ _ _ o7.nd rfl (by w_up) (cf jg gi hr (by decide) rfl (@aj _ _ _ _ _ (pv 0) (@aj _ _ _ _ _ (pv 5) aA (by rfl)) (by rfl))) (by rfl) (by w_up))
  (@aZ _ _ _ _ _ (@bR (i:=6) _ _ _ _ _ _ o7.nd rfl (by w_up) (cf lq jk hr (by decide) rfl (@aj _ _ _ _ _ (pv 1) (@aj _ _ _ _ _ aK (@aj _ _ _ _ _ aK aA (by rfl)) (by rfl)) (by rfl))) (by rfl) (by w_up))
  (@aZ _ _ _ _ _ (@bR (i:=7) _ _ _ _ _ _ o7.nd rfl (by w_up) (cf g7 eO hr (by decide) rfl (@aj _ _ _ _ _ (pv 6) aA (by rfl))) (by rfl) (by w_up))
  (@aZ _ _ _ _ _ (@bR (i:=8) _ _ _ _ _ _ o7.nd rfl (by w_up) (cf di cM hr (by decide) rfl (@aj _ _ _ _ _ (cf mE kJ hr (by decide) rfl (@aj _ _ _ _ _ (pv 2) (@aj _ _ _ _ _ (pv 6) aA (by rfl)) (by rfl))) aA (by rfl))) (by rfl) (by w_up))
  (@aZ _ _ _ _ _ (@mL _ _ _ _ _ _ _ _ PassesOwn.never rfl (pN (pv 3)) (tq (n:=4) rfl (mK (dr (i:=9) o7.nd rfl (by w_up)) (mK (dr (i:=10) o7.nd rfl (by w_up)) (mK (dr (i:=11) o7.nd rfl (by w_up)) (mK (dr (i:=12) o7.nd rfl (by w_up)) tm))))) (@aZ _ _ _ _ _ (@bR (i:=13) _ _ _ _ _ _ o7.nd rfl (by w_up) (cf cP cu hr (by decide) rfl (@aj _ _ _ _ _ (cf jl fQ hr (by decide) rfl (@aj _ _ _ _ _ (cf g7 eO hr (by decide) rfl (@aj _ _ _ _ _ (pv 10) aA (by rfl))) aA (by rfl))) (@aj _ _ _ _ _ (pv 7) aA (by rfl)) (by rfl))) (by rfl) (by w_up))
  (@aZ _ _ _ _ _ (@jC _ _ _ _ _ _ _ _ (fW Bt (cf fN dH hr (by decide) rfl (@aj _ _ _ _ _ (pv 2) (@aj _ _ _ _ _ (pv 13) aA (by rfl)) (by rfl))) (zY (Ig hu) (pv 9) (pv 8) (aO _)) (aO _)) (@bg _ _ _ (@dj _ _ _ _ Bc)) kg)
  (@bg _ _ _ (@jC _ _ _ _ _ _ _ _ (fW (Ig hu) (pv 9) (pv 8) (aO _)) (@bg _ _ _ (@bR (i:=4) _ _ _ _ _ _ o7.nd rfl (by w_up) (cf cP cu hr (by decide) rfl (@aj _ _ _ _ _ (pv 13) (@aj _ _ _ _ _ (pv 4) aA (by rfl)) (by rfl))) (by rfl) (by w_up))) kg)))) (by intro _;rfl))
  (@aZ _ _ _ _ _ (@jC _ _ _ _ _ _ _ _ (fW zX (jN (Qu rfl) (by rfl) T.wy LA (@aj _ _ _ _ _ (rh (own:=["_law_one"]) (fr:=[]) (js:=[]) rfl ⟨⟨rfl,by w_fin,by w_fin,by dsimp only [g9,aS,Cx.n8,Cx.wish,PyProof.Rows.envOfC,compEnvC,relabel,Env.kindOf];decide +kernel,by w_fin⟩,rfl⟩ (pN (pv 4)) (fun _ _ _ _ _=>(dr (i:=0) (show ((["_law_one"]:List Str) ++ ([]:List Str)).Nodup by w_fin) rfl (by w_up))) (fun _ _ _ _ _=>rg) (fun _ _ _ _ _=>(jN OX (by rfl) T.Dp xN (@aj _ _ _ _ _ (pv 0) aA (by rfl))))) aA (by rfl))) aK (aO _)) (@bg _ _ _ (@bR (i:=4) _ _ _ _ _ _ o7.nd rfl (by w_up) (@eW _ _ _ _ _ (@aj _ _ _ _ _ aK (@aj _ _ _ _ _ aK (@aj _ _ _ _ _ aK (@aj _ _ _ _ _ aK aA (by rfl)) (by rfl)) (by rfl)) (by rfl))) (by rfl) (by w_up))) kg)
  (@bg _ _ _ (@jC _ _ _ _ _ _ _ _ (fW S2 (cf fN dH hr (by decide) rfl (@aj _ _ _ _ _ (pv 2) (@aj _ _ _ _ _ (pv 4) aA (by rfl)) (by rfl))) Bc (aO _)) (@bg _ _ _ (@dj _ _ _ _ Bc)) kg)))))))) (by intro _;rfl))
  (@bg _ _ _ (@dj _ _ _ _ Bc)))))))),?_⟩
 exact fm (b:=G4) (a6 (bI (cb (F:=wz) (ao (ai 0) (ao (aL _) aB)) eZ) (aR 1))
  (a6 (bI (cb (F:=zx) (ao (ai 1) (ao (aC lI (aL _) (cb (F:=mX) (ao (ai 1) (ao (aL _) aB)) eZ)) aB)) eZ) (aR 2))
  (a6 (jF (fR (aC (zf false) (cb (F:=D5) (ao (ai 2) (ao (aL _) aB)) eZ) MP)) (bI (cb (F:=zx) (ao (ai 1) (ao (aC lI (aL _) (cb (F:=mX) (ao (ai 1) (ao (aL _) aB)) eZ)) aB)) eZ) (aR 2)) kj)
  (a6 (bI (TC (m:=1) (F:=zA) (FV:=[.int 60]) (ao (ai 2) aB) kL rfl (fun _ _=>.cons (.int _) (.nil))) (aR 3))
  (a6 (bI (eX (ao (aL _) (ao (aL _) (ao (aL _) (ao (aL _) aB))))) (aR 4))
  (a6 (mS (RK (ao (aL _) (ao (cq RD (ao (aL _) (ao (cq RE (ao (aL _) (ao (cq lU (ao (ai 0) aB)) aB))) aB))) aB))) (aR 5) (a6 (bI (cb (F:=wz) (ao (ai 0) (ao (ai 5) aB)) eZ) (aR 1))
  (a6 (bI (cb (F:=AU) (ao (ai 1) (ao (aL _) (ao (aL _) aB))) JU) (aR 6))
  (a6 (bI (cb (F:=tR) (ao (ai 6) aB) kL) (aR 7))
  (a6 (bI (cb (F:=rA) (ao (cb (F:=AX) (ao (ai 2) (ao (ai 6) aB)) eZ) aB) kL) (aR 8))
  (a6 (mS (pT (ai 3)) (tP (mQ (aR 9) (mQ (aR 10) (mQ (aR 11) (mQ (aR 12) tO))))) (a6 (bI (cb (F:=qI) (ao (cb (F:=zE) (ao (cb (F:=tR) (ao (ai 10) aB) kL) aB) kL) (ao (ai 7) aB)) eZ) (aR 13))
  (a6 (jF (fR (aC CF (cb (F:=sW) (ao (ai 2) (ao (ai 13) aB)) eZ) (aC (Au false) (ai 9) (ai 8)))) (dk (Cy _)) kj)
  (jF (fR (aC (Au false) (ai 9) (ai 8))) (bI (cb (F:=qI) (ao (ai 13) (ao (ai 4) aB)) eZ) (aR 4)) kj))))
  (a6 (jF (fR (aC Aq (cq Te (ao (qB (pT (ai 4)) (aR 0) rq (cq zg (ao (ai 0) aB))) aB)) (aL _))) (bI (eX (ao (aL _) (ao (aL _) (ao (aL _) (ao (aL _) aB))))) (aR 4)) kj)
  (jF (fR (aC (ze true) (cb (F:=sW) (ao (ai 2) (ao (ai 4) aB)) eZ) (Cy _))) (dk (Cy _)) kj))))))))
  (dk (Cy _)))))))) rfl h
end
theorem tU {st:Store} {f:Nat} {n:Int} (hf:bN st f) (h0:0 < n) (h1:n < 1073741824):Wp (mX [.ref f,.int n] st) fun d st'=>∃ k:Int,d=.int k/\0<=k/\k < n/\bN st' f/\Ex [f] st st':=by
 obtain ⟨o,m,e,o0,m0,m1⟩:=hf
 have hfl:=eU e
 refine eY ?_
 show Ws (FX [some (.ref f),some (.int n),none,none] st) _ _ _ _
 unfold FX
 refine aW (iD ?_)
 set_option simprocs false in simp only [bH,bQ e,lJ e]
 refine ⟨fun ho=>?_,fun ho=>?_⟩
 ·refine aW (bO ?_)
  set_option simprocs false in simp only [bH,bQ e]
  refine ⟨h0,aW (sH ?_)⟩
  set_option simprocs false in simp only [bH,bQ e,lJ e,(show mM [D.int o,D.int m].length 0=some 0 from C9)]
  refine ⟨⟨h0,h1⟩,dz ?_⟩
  w_how
  refine ⟨Xp _ (by omega),XA _ h0,⟨o / n,m,?_,Int.ediv_nonneg o0 (by omega),m0,m1⟩,Ex.refl.put (by simp)⟩
  rw [WC hfl]
 ·refine jJ (aW (bO ?_))
  set_option simprocs false in simp only [bH,bQ e]
  refine ⟨by omega,by omega,aW (sH ?_)⟩
  set_option simprocs false in simp only [bH,bQ e,lJ e,(show mM [D.int o,D.int m].length 1=some 1 from Dc)]
  refine ⟨by omega,by omega,dz ?_⟩
  have e2:(st.set f (.lst [.int o,.int ((m * 48271 % 2147483647 * 40692 + 30103) % 2147483399 + 1)]))[f]?=some (.lst [.int o,.int ((m * 48271 % 2147483647 * 40692 + 30103) % 2147483399 + 1)]):=WC hfl
  set_option simprocs false in simp only [bH,bQ e2]
  refine ⟨by omega,by omega,h0,Xp _ (by omega),XA _ h0,⟨_,_,e2,o0,by omega,by omega⟩,Ex.refl.put (by simp)⟩
theorem NL {st:Store} {a:Nat} {ns:List Int} {k:Nat} (hs:items st a=some (ns.map D.int)) (hk:k<=100):Wp (wz [.ref a,.int (k:Int)] st) fun d st'=>d=.ref st.length/\bN st' st.length/\Ex [] st st':=by
 refine eY ?_
 show Ws (FW [some (.ref a),some (.int (k:Int)),none,none] st) _ _ _ _
 unfold FW
 refine aW (bO ?_)
 w_how
 refine ⟨by omega,aW (yN (N:=fun δ st1=>st1=st/\∃ c:Int,δ=[some (.ref a),some (.int (k:Int)),some (.int c),none]) (iD ?_) ?_)⟩
 ·set_option simprocs false in simp only [bH,hs]
  refine ⟨fun h=>bO ?_,fun h=>iD ?_⟩
  ·have h:=of_decide_eq_true h
   rw [Wv] at h
   set_option simprocs false in simp only [bH,hs]
   refine ⟨.int (ns[k]'(by omega)),zZ (by rw [WB,Wx];rfl),_,rfl⟩
  ·set_option simprocs false in simp only [bH,hs]
   refine ⟨fun h=>bO ?_,fun h=>jJ ⟨rfl,_,rfl⟩⟩
   have h:=of_decide_eq_true h
   obtain ⟨v,hv,hm⟩:=xJ (xs:=ns.map D.int) (i:=(k:Int) % ((ns.map D.int).length:Int)) (Xp _ (by omega)) (XA _ h)
   obtain ⟨c,_,rfl⟩:=WR.mp hm
   set_option simprocs false in simp only [bH,hs]
   refine ⟨h,_,hv,?_⟩
   w_how
   exact ⟨by omega,by omega,by omega,_,rfl⟩
 ·rintro δ st1 ⟨rfl,c,rfl⟩
  refine aW (bO ?_)
  w_how
  refine aW (yN (N:=fun δ st2=>st2=st1/\∃ o:Int,0<=o/\δ=[some (.ref a),some (.int (k:Int)),some (.int c),some (.int o)]) (iD ?_) ?_)
  ·w_how
   refine ⟨by decide,fun h=>bO ?_,fun h=>jJ ⟨rfl,0,by decide,rfl⟩⟩
   have h:=of_decide_eq_true h
   w_how
   exact ⟨c,Int.le_trans (by decide) h,rfl⟩
  ·rintro δ st2 ⟨rfl,o,o0,rfl⟩
   refine dz ?_
   w_how
   have h1:0<=c % 2147483629:=Xp _ (by decide)
   have h2:c % 2147483629 < 2147483629:=XA _ (by decide)
   refine ⟨by omega,by omega,by omega,by omega,by omega,by rfl,⟨_,_,jK,o0,?_,?_⟩,Ex.cH _⟩
   ·have:=Xp ((c % 2147483629 * 48271 + 40692 * (k:Int)) ^ (5:Int).toNat) (show (2147483629:Int)≠0 by decide)
    omega
   ·have:=XA ((c % 2147483629 * 48271 + 40692 * (k:Int)) ^ (5:Int).toNat) (show (0:Int) < 2147483629 by decide)
    omega
theorem NM {st:Store} {f:Nat} {n:Nat} (hf:bN st f) (hn:n<=100):Wp (zw [.ref f,.int (n:Int)] st) fun d st'=>∃ xs:List Int,d=.tup (xs.map D.int)/\af.Tn n xs/\bN st' f/\Ex [f] st st':=by
 have hfl:=hf.lt
 refine eY ?_
 show Ws (FY [some (.ref f),some (.int (n:Int)),none,none] st) _ _ _ _
 unfold FY
 refine aW (bO ?_)
 w_how
 have e1:((n:Int) - 0).toNat=n:=by omega
 rw [e1,qW]
 refine ⟨by unfold qV;rw [WW,decide_eq_true_eq];exact ⟨by omega,jL (by omega)⟩,aW (bO ?_)⟩
 w_how
 refine ⟨rfl,aW (yO (fun m δ st2=>∃ L xs:List Int,m=L.length/\δ=[some (.ref f),some (.int (n:Int)),some (.ref (st ++ [O.jH 0 (n:Int)]).length),some (.tup (xs.map D.int))]/\st2[(st ++ [O.jH 0 (n:Int)]).length]?=some (.lst (L.map D.int))/\(xs ++ L).Perm (af.upto n)/\bN st2 f/\Ex [f] st st2) n (Xk hn (by decide)) ⟨af.upto n,[],(af.pk n).symm,rfl,jK,List.Perm.refl _,hf.keep ((Ex.cH _).app _),(Ex.cH _).app _⟩ ?_)⟩
 have hl:(st ++ [O.jH 0 (n:Int)]).length≠f:=by rw [Wz];omega
 have hls:st.length<=(st ++ [O.jH 0 (n:Int)]).length:=by rw [Wz];omega
 generalize (st ++ [O.jH 0 (n:Int)]).length=l at hl hls ⊢
 rintro m δ st2 ⟨L,xs,rfl,rfl,hL,pm,hf2,k2⟩
 have hlen:(xs ++ L).length=n:=by rw [pm.length_eq,af.pk]
 rw [Wz] at hlen
 refine b9 ?_
 intro dI hQ
 set_option simprocs false in simp only [bH,Nh (L:=L) (M:=[]) (st:=st2 ++ [O.lst []]) (bQ (kX hL)) uJ]
 refine ⟨rfl,hQ _ _ ⟨fun h=>?_,fun h=>?_⟩⟩
 ·have hne:L≠[]:=by simpa using h
  have hpos:0 < L.length:=List.length_pos_iff.mpr hne
  have G6:(st2 ++ [O.lst []])[l]?=some (.lst (L.map D.int)):=kX hL
  have f3:bN (st2 ++ [O.lst []]) f:=hf2.keep (Ex.cH _)
  have k3:Ex [f] st (st2 ++ [O.lst []]):=k2.app _
  generalize (st2 ++ [O.lst []])=st3 at G6 f3 k3 ⊢
  refine bO ?_
  refine b9 ?_
  intro dI hQ
  set_option simprocs false in simp only [bH,bQ G6]
  refine ⟨n4 (by rw [bQ G6];rfl),?_⟩
  refine aY (tU (n:=((L.map D.int).length:Int)) f3 (by rw [Wv];omega) (by rw [Wv];omega)) ?_
  rintro d mY ⟨k,rfl,k0,k1,f4,k4⟩
  rw [Wv] at k1
  have NN:=k4.keep _ _ G6 (by simpa using hl)
  have oJ:k.toNat < L.length:=by omega
  set_option simprocs false in simp only [bH,lJ NN]
  have hk':((k.toNat:Nat):Int)=k:=W3 k0
  refine ⟨by omega,k.toNat,?_,D.int L[k.toNat],by rw [WB,Wx oJ];rfl,rfl,jL ?_,hQ _ _ ⟨(L.eraseIdx k.toNat).length,?_,L.eraseIdx k.toNat,xs ++ [L[k.toNat]],rfl,?_,?_,?_,?_,?_⟩⟩
  ·rw [<- hk',WH]
   exact (HL (Ae (by rw [Wv];exact oJ))).1
  ·simp only [Wv,W2,List.length_nil];omega
  ·rw [List.length_eraseIdx,if_pos oJ];omega
  ·rw [WS];rfl
  ·rw [WC (eU NN),SR]
  ·refine List.Perm.trans ?_ pm
   rw [List.append_assoc]
   exact List.Perm.append_left xs (SS oJ)
  ·exact f4.ne hl
  ·exact (k3.trans k4).loc hls
 ·have he:L=[]:=by simpa using h
  subst he
  refine dz ?_
  kspl_open hQ
  exact hQ _ _ ⟨xs,rfl,by simpa [af.Tn] using pm,hf2.keep (Ex.cH _),k2.app _⟩
theorem U1 {st:Store} {xs ys:List Int} {n:Nat} (tx:af.Tn n xs) (ty:af.Tn n ys) (n0:0 < n) (hn:n<=100):Wp (uO [bX xs ys] st) fun d st'=>∃ (g:Nat) (F:List Int),d=.ref g/\items st' g=some (F.map D.int)/\(∀ x,x∈F↔af.jI xs ys x)/\F.length<=n/\af.Od xs ys F/\Ex [] st st':=by
 have hlx:=tx.length
 have A1:=ty.length
 refine eY ?_
 show Ws (F0 [some (bX xs ys),none,none,none,none] st) _ _ _ _
 unfold F0
 refine aW (bO ?_)
 kspl_open hQ
 refine ⟨rfl,hQ _ _ (aW (mU (aH 0 (n + 1)) (fun i δ st2=>∃ (v2 v3 v4:Option D) (F:List Int),δ=[some (bX xs ys),some (.ref st.length),v2,v3,v4]/\st2[st.length]?=some (.lst (F.map D.int))/\af.Fo xs ys F/\(af.Cl xs ys F\/i + 1<=F.length)/\Ex [] st st2) ?_ ?_ ?_ ?_))⟩
 ·unfold bX
  kspl_open hQ
  have e0:((1:Int) + ((xs.map D.int).length:Int)).toNat=n + 1:=by rw [Wv];omega
  refine ⟨by rw [Wv];omega,hQ _ _ ⟨by rw [e0],none,none,none,[0],rfl,jK,af.Fo.one xs ys,.inr (Wy _),Ex.cH _⟩⟩
 ·rw [gu];omega
 ·rintro i d δ st2 hd ⟨v2,v3,v4,F,rfl,JZ,hF,hcl,k2⟩
  kspl_open hQ
  refine hQ _ _ (mU [.tup (xs.map D.int),.tup (ys.map D.int)] (fun m δ st3=>∃ (v3 v4:Option D) (G:List Int),δ=[some (bX xs ys),some (.ref st.length),some d,v3,v4]/\st3[st.length]?=some (.lst (G.map D.int))/\af.Fo xs ys G /\
    (m=0->G=F)/\(m=1->F <+: G/\∀ x∈F,af.app xs x∈G)/\(2<=m->∃ F1,F <+: F1/\F1 <+: G/\(∀ x∈F,af.app xs x∈F1)/\∀ x∈F1,af.app ys x∈G)/\Ex [] st st3) ?_ (by simp) ?_ ?_)
  ·unfold bX
   kspl_open hQ
   exact hQ _ _ ⟨rfl,v3,v4,F,rfl,JZ,hF,fun _=>rfl,fun z=>by omega,fun z=>by omega,k2⟩
  ·rintro m z δ st3 hm ⟨v3,v4,G,rfl,Ez,hG,m0,m1,_,k3⟩
   have hm2:m < 2:=eU hm
   obtain ⟨zs,rfl,hz,em⟩:∃ (zs:List Int),z=.tup (zs.map D.int)/\(zs=xs\/zs=ys)/\((m=0/\zs=xs)\/(m=1/\zs=ys)):=by
    rcases (show m=0\/m=1 by omega) with rfl | rfl
    ·exact ⟨xs,by simpa using hm.symm,.inl rfl,.inl ⟨rfl,rfl⟩⟩
    ·exact ⟨ys,by simpa using hm.symm,.inr rfl,.inr ⟨rfl,rfl⟩⟩
   have tz:af.Tn n zs:=by rcases hz with rfl | rfl;exact tx;exact ty
   have NP:=tz.length
   have go:∀ x,af.jI xs ys x->af.jI xs ys (af.app zs x):=fun x h=>by rcases hz with rfl | rfl;exact h.r;exact h.u
   kspl_open hQ
   refine hQ _ _ (M9 (G.map D.int) st3.length (fun j δ mY=>∃ (v4:Option D) (G':List Int),δ=[some (bX xs ys),some (.ref st.length),some d,some (.tup (zs.map D.int)),v4]/\mY[st.length]?=some (.lst (G'.map D.int))/\mY[st3.length]?=some (.lst (G.map D.int))/\af.Fo xs ys G'/\G <+: G'/\(∀ i',i' < j->∀ x,G[i']?=some x->af.app zs x∈G')/\Ex [] st mY) ?_ ?_ ?_ ?_ ?_)
   ·refine b9 ?_
    intro dI hQ
    set_option simprocs false in simp only [bH,bQ Ez]
    exact hQ _ _ ⟨rfl,v4,G,rfl,kX Ez,jK,hG,List.prefix_refl _,fun i' h=>absurd h (Xh _),k3.app _⟩
   ·rw [Wv]
    have:=hG.len tx ty n0
    omega
   ·rintro j δ mY ⟨_,_,_,_,h,_⟩
    exact bQ h
   ·rintro j Wd δ mY hj0 ⟨v4,G',rfl,zG,rB,zH,pG,hd',k4⟩
    obtain ⟨y,hj,rfl⟩:=Dd hj0
    have hjl:=eU hj
    have hR:=hG.mt _ (WG hj)
    obtain ⟨y0,y1⟩:=hR.bound tx ty n0
    have at':=qX (xs:=zs) y0 (by rw [NP];exact y1)
    have hnext:∀ G7:List Int,G' <+: G7->af.app zs y∈G7->∀ i',i' < j + 1->∀ x,G[i']?=some x->af.app zs x∈G7:=fun G7 p h i' hi' x hx=>by
     by_cases e:i'=j
     ·subst e
      rw [hj] at hx
      cases hx;exact h
     ·exact p.subset (hd' i' (by omega) x hx)
    kspl_open hQ
    refine hQ _ _ (iD ?_)
    refine b9 ?_
    intro gy bT
    set_option simprocs false in simp only [bH,at',FO (st:=mY) (c:=.ref st.length) (ns:=G') (bQ zG)]
    refine bT _ _ ⟨fun hcn=>?_,fun hcn=>?_⟩
    ·have hnm:af.app zs y ∉ G':=fun z=>by rw [XB.mpr z] at hcn;cases hcn
     have NQ:af.Fo xs ys (G' ++ [af.app zs y]):=by
      refine ⟨⟨List.mem_append_left _ zH.z,?_,fun x hx=>?_⟩,zH.od.snoc (pG.subset (WG hj)) (hz.imp (fun e=>by rw [e]) fun e=>by rw [e])⟩
      ·rw [List.nodup_append]
       refine ⟨zH.nd,by simp,fun x hx y' hy e=>hnm ?_⟩
       have e2:y'=af.app zs y:=by simpa using hy
       rw [<- e2,<- e];exact hx
      ·rcases WX.mp hx with h | h
       ·exact zH.mt x h
       ·have e2:x=af.app zs y:=by simpa using h
        rw [e2];exact go _ hR
     have hlen2:=NQ.len tx ty n0
     rw [Wz] at hlen2
     refine pW ?_
     refine b9 ?_
     intro EA sX
     set_option simprocs false in simp only [bH,at',lJ zG]
     refine ⟨n4 (by rw [bQ zG];rfl),jL (by rw [Wv];simp at hlen2;omega),sX _ _ ⟨_,G' ++ [af.app zs y],rfl,?_,?_,NQ,pG.trans (List.prefix_append _ _),hnext _ (List.prefix_append _ _) (by simp),k4.loc (Wy _)⟩⟩
     ·rw [WC (eU zG),WS];rfl
     ·rw [WE (by have:=eU Ez;omega)];exact rB
    ·have hcn:G'.contains (af.app zs y)=true:=by simpa using hcn
     exact jJ ⟨_,G',rfl,zG,rB,zH,pG,hnext G' (List.prefix_refl _) (XB.mp hcn),k4⟩
   ·rintro δ mY ⟨v4,G',rfl,zG,rB,zH,pG,hd',k4⟩
    rw [Wv] at hd'
    have hall:∀ x∈G,af.app zs x∈G':=fun x hx=>by
     obtain ⟨i',hi',e⟩:=Xu hx
     exact hd' i' hi' x (by rw [Wx hi',e])
    refine ⟨_,_,G',rfl,zG,zH,fun z=>by omega,fun z=>?_,fun z=>?_,k4⟩
    ·rcases em with ⟨rfl,rfl⟩ | ⟨rfl,_⟩
     ·have:=m0 rfl
      subst this
      exact ⟨pG,hall⟩
     ·omega
    ·rcases em with ⟨rfl,_⟩ | ⟨rfl,rfl⟩
     ·omega
     ·obtain ⟨p1,c1⟩:=m1 rfl
      exact ⟨G,p1,pG,c1,hall⟩
  ·rintro δ st3 ⟨v3,v4,G,rfl,Ez,hG,_,_,m2,k3⟩
   obtain ⟨F1,p1,p2,c1,c2⟩:=m2 (Wy 2)
   exact ⟨_,_,_,G,rfl,Ez,hG,af.round hF.toFd hG.toFd p1 p2 c1 c2 hcl,k3⟩
 ·rintro δ st2 ⟨v2,v3,v4,F,rfl,JZ,hF,hcl,k2⟩
  rw [gu] at hcl
  have hl:=hF.len tx ty n0
  have hc:af.Cl xs ys F:=hcl.resolve_right (by omega)
  refine dz ?_
  kspl_open hQ
  exact hQ _ _ ⟨_,F,rfl,bQ JZ,fun x=>⟨hF.mt x,fun h=>hc.all hF.z h⟩,hl,hF.od,k2⟩
theorem U2 {st:Store} {xs ys:List Int} {n:Nat} (tx:af.Tn n xs) (ty:af.Tn n ys) (n0:0 < n) (hn:n<=100):Wp (uO [bX xs ys] st) fun d st'=>∃ (g:Nat) (F:List Int),d=.ref g/\items st' g=some (F.map D.int)/\(∀ x,x∈F↔af.jI xs ys x)/\F.length<=n/\Ex [] st st' :=
 aY (U1 tx ty n0 hn) fun d st' ⟨g,F,h1,h2,h3,h4,_,h5⟩=>⟨g,F,h1,h2,h3,h4,h5⟩
theorem NR {st:Store} {δ:av} {X Y:List Int} {n:Nat} {Q:D->Store->Prop} (tX:af.Tn n X) (tY:af.Tn n Y) (n0:0 < n) (hn:n<=100) (h1:δ[1]?=some (some (.int (n:Int)))) (h6:δ[6]?=some (some (bX X Y)))
  (q:∀ (L:List Int) (st':Store),L.length<=n->L.Nodup->(∀ x,x∈L↔(0<=x/\x < (n:Int)/\¬ af.jI X Y x))->Ex [] st st'->Q (.ref st'.length) (st' ++ [.lst (L.map D.int)])) :
  Wp (c5 (bW (ae (ag 1) ah)) 1 [6] (hName 0) (aJ (ay (rn true) (ag 0) (aN uO (ae (ag 1) ah)))) (ag 0) δ st) Q:=by
 have U3:δ.getD 6 none=some (bX X Y):=by rw [WN,h6];rfl
 refine Jx (aH 0 n) (fun j zs δ' mh=>∃ (v:Option D) (L:List Int),δ'=[v,some (bX X Y)]/\zs=L.map D.int/\L.length<=j/\L.Nodup/\(∀ x,x∈L↔(0<=x/\x < (j:Int)/\¬ af.jI X Y x))/\Ex [] st mh) ?_ (by rw [gu];omega) ?_ ?_ ?_
 ·refine b9 ?_
  intro dI hQ
  set_option simprocs false in simp only [bH,h1]
  refine ⟨by omega,hQ _ _ ⟨fun i ys δ st hi _=>?_,none,[],?_,rfl,Wy _,List.nodup_nil,fun x=>⟨(fun h=>nomatch h),fun h=>by omega⟩,Ex.refl⟩⟩
  ·rw [WH]
   show (if i<=(aH 0 n).length then some (aH 0 n)[i]? else none)=_
   rw [if_pos hi]
  ·unfold pH
   simp only [WY,Xg,U3]
   rfl
 ·rintro j zs δ' mh ⟨v,L,_,rfl,hl,_⟩
  rw [Wv];exact hl
 ·rintro j d zs δ' mh hd ⟨v,L,rfl,rfl,ny,nd,hL,k8⟩
  have hjl:=eU hd
  rw [gu] at hjl
  rw [yo hjl] at hd
  cases hd
  rw [Int.zero_add]
  kspl_open hQ
  refine hQ _ _ ?_
  kspl_open bT
  refine aY (U2 (st:=mh) tX tY n0 hn) ?_
  rintro d pV ⟨g,F,rfl,hg,hF,Wf,k9⟩
  rw [FO (c:=.ref g) (ns:=F) hg]
  refine ⟨_,rfl,bT _ _ ⟨fun hc=>?_,fun hc=>?_⟩⟩
  ·have hR:¬ af.jI X Y (j:Int):=fun h=>by rw [XB.mpr ((hF _).mpr h)] at hc;cases hc
   kspl_open sX
   refine sX _ _ ⟨_,L ++ [(j:Int)],rfl,by rw [WS];rfl,by rw [Wz];simp;omega,?_,fun x=>?_,k8.trans k9⟩
   ·rw [List.nodup_append]
    refine ⟨nd,by simp,fun x hx y hy e=>?_⟩
    have e2:y=(j:Int):=by simpa using hy
    have:=((hL x).mp hx).2.1
    omega
   ·rw [WX,hL x]
    constructor
    ·rintro (⟨a1,a2,a3⟩ | h)
     ·exact ⟨a1,by omega,a3⟩
     ·have e2:x=(j:Int):=by simpa using h
      rw [e2];exact ⟨by omega,by omega,hR⟩
    ·rintro ⟨a1,a2,a3⟩
     rcases Int.lt_or_le x (j:Int) with h | h
     ·exact .inl ⟨a1,h,a3⟩
     ·exact .inr (by simp;omega)
  ·have hc:F.contains (j:Int)=true:=by simpa using hc
   have hR:=(hF _).mp (XB.mp hc)
   refine ⟨_,L,rfl,rfl,by omega,nd,fun x=>?_,k8.trans k9⟩
   rw [hL x]
   constructor
   ·rintro ⟨a1,a2,a3⟩;exact ⟨a1,by omega,a3⟩
   ·rintro ⟨a1,a2,a3⟩
    refine ⟨a1,?_,a3⟩
    rcases Int.lt_or_le x (j:Int) with h | h
    ·exact h
    ·exact absurd hR (by rw [show (j:Int)=x by omega];exact a3)
 ·rintro zs δ' mh ⟨v,L,rfl,rfl,ny,nd,hL,k8⟩
  rw [gu] at ny hL
  exact q L mh ny nd hL k8
theorem NS {st:Store} {f n:Nat} (hf:bN st f) (n1:1<=n) (NT:n<=20):Wp (zx [.ref f,.int (n:Int)] st) fun d st'=>∃ xs ys:List Int,d=bX xs ys/\nL n xs ys/\bN st' f/\Ex [f] st st':=by
 have hfl:=hf.lt
 refine eY ?_
 show Ws (F3 [some (.ref f),some (.int (n:Int)),none,none,none,none,none,none,none] st) _ _ _ _
 unfold F3
 refine aW (bO ?_)
 kspl_open hQ
 refine aY (tU (n:=6) hf (by decide) (by decide)) ?_
 rintro d st1 ⟨form,rfl,g0,g6,f1,k1⟩
 refine hQ _ _ (aW (M8 ?_))
 clear hQ
 kspl_open hQ
 refine aY (NM (n:=n) f1 (by omega)) ?_
 rintro d st2 ⟨X,rfl,tX,f2,k2⟩
 w_how
 refine aY (NM (n:=n) (f2.keep (Ex.cH [.lst (X.map D.int)])) (by omega)) ?_
 rintro d st3 ⟨Y,rfl,tY,f3,k3⟩
 w_how
 refine hQ _ _ ⟨_,_,rfl,?_⟩
 clear hQ
 have pJ:st3[st2.length]?=some (.lst (X.map D.int)):=k3.keep _ _ jK (by have:=f2.lt;simp;omega)
 have two:oS st (st3 ++ [.lst (Y.map D.int)]) f st2.length st3.length n X Y:=⟨kX pJ,jK,by have:=eU pJ;omega,(k1.trans k2).len,((k1.trans k2).trans ((Ex.cH _).trans k3)).len,tX,tY,f3.keep (Ex.cH _),(((k1.trans k2).app _).trans k3).app _⟩
 show Ws _ _ _ _ _
 generalize (st3 ++ [O.lst (Y.map D.int)])=mY at two ⊢
 generalize st2.length=r at two ⊢
 generalize st3.length=u at two ⊢
 clear pJ tX tY f3 k3 f2 k2 f1 k1
 refine aW (yN (N:=fun δ kN=>∃ (r u:Nat) (X Y:List Int),δ=[some (.ref f),some (.int (n:Int)),some (.int form),some (.ref r),some (.ref u),none,none,none,none]/\oS st kN f r u n X Y) (iD ?_) ?_)
 ·kspl_open hQ
  refine hQ _ _ ⟨fun _=>bO ?_,fun _=>jJ ⟨r,u,X,Y,rfl,two⟩⟩
  kspl_open bT
  rw [<- Ni]
  refine ⟨uK (by omega),rfl,jL (by rw [gu];simp;omega),bT _ _ ⟨_,u,_,Y,rfl,(two.keep (((Ex.cH _).app _).app _)).y9 (af.Mf (show n < 21 by omega) (by omega))⟩⟩
 rintro δ kN ⟨r,u,X,Y,rfl,two⟩
 refine aW (yN (N:=fun δ kN=>∃ (r u:Nat) (X Y:List Int),δ=[some (.ref f),some (.int (n:Int)),some (.int form),some (.ref r),some (.ref u),none,none,none,none]/\oS st kN f r u n X Y) (iD ?_) ?_)
 ·kspl_open hQ
  refine hQ _ _ ⟨fun _=>M8 ?_,fun _=>jJ ⟨r,u,X,Y,rfl,two⟩⟩
  kspl_open bT
  rw [<- Ni,show ((n:Int) - 0).toNat=n by omega,qW]
  refine ⟨uK (by omega),uK (by omega),rfl,jL (by rw [gu];simp;omega),bT _ _ ⟨_,_,rfl,_,_,_,_,rfl,(((two.keep (Ex.cH [.jH 0 (n:Int)])).y9 (Z:=af.upto n) (List.Perm.refl _)).keep (((Ex.cH _).app _).app _)).za (af.Mf (show n < 21 by omega) (by omega))⟩⟩
 rintro δ Jv ⟨r,u,X,Y,rfl,two⟩
 refine aW (yN (N:=fun δ kN=>∃ (r u:Nat) (v5:Option D) (X Y:List Int),δ=[some (.ref f),some (.int (n:Int)),some (.int form),some (.ref r),some (.ref u),v5,none,none,none]/\oS st kN f r u n X Y) (iD ?_) ?_)
 ·kspl_open hQ
  refine hQ _ _ ⟨fun _=>aW (bO ?_),fun _=>jJ ⟨r,u,none,X,Y,rfl,two⟩⟩
  kspl_open bT
  refine aY (tU (n:=(n:Int)) two.fd (by omega) (by omega)) ?_
  rintro d qO ⟨w,rfl,w0,w1,f7,k7⟩
  obtain ⟨wd,rfl⟩:∃ wd:Nat,w=(wd:Int) - 1:=⟨(w + 1).toNat,by omega⟩
  have t7:oS st qO f r u n X Y:=⟨k7.keep _ _ two.hr (by have:=two.r0;simp;omega),k7.keep _ _ two.hu (by have:=two.u0;simp;omega),two.ne,two.r0,two.u0,two.tX,two.tY,f7,two.ex.trans k7⟩
  w_how
  rw [show (1:Int) + ((wd:Int) - 1)=(wd:Int) by omega]
  refine bT _ _ (aW (bO ?_))
  clear bT hQ
  kspl_open bT
  rw [<- zb]
  refine ⟨uK (by omega),rfl,jL (by rw [gu];simp;omega),uK (by omega),jL (by rw [Wz,gu,gu];simp;omega),bT _ _ (aW (bO ?_))⟩
  clear bT
  have t8:=(t7.keep ((((((Ex.cH [.jH 1 (wd:Int)]).app [.lst (aH 1 ((wd:Int) - 1).toNat)]).app [.lst [.int 0]]).app [.lst (aH 1 ((wd:Int) - 1).toNat ++ [.int 0])]).app [.jH (wd:Int) (n:Int)]).app [.lst (aH (wd:Int) ((n:Int) - (wd:Int)).toNat)])).y9 (af.QS (w:=wd) (show n < 21 by omega) (by omega) (by omega))
  generalize U4:(qO ++ _ ++ _ ++ _ ++ _ ++ _ ++ _ ++ _:Store)=mh at t8 ⊢
  generalize List.length _=r8 at t8 ⊢
  kspl_open bT
  refine ⟨rfl,uK (by omega),jL (by simp [gu];omega),uK (by omega),jL (by simp [gu];omega),rfl,jL (by simp [gu];omega),bT _ _ (iD ?_)⟩
  clear bT
  generalize U5:(mh ++ _ ++ _ ++ _ ++ _ ++ _ ++ _ ++ _ ++ _ ++ _:Store)=G8
  have tE:oS st G8 f r8 u n (af.si wd n) Y:=by rw [<- U5];exact t8.keep (((((((((Ex.cH _).app _).app _).app _).app _).app _).app _).app _).app _)
  kspl_open hQ
  refine hQ _ _ ⟨fun hw=>?_,fun hw=>?_⟩
  ·refine bO ?_
   kspl_open bT
   rw [show ((n:Int) - 0).toNat=n by omega,qW]
   exact ⟨uK (by omega),bT _ _ ⟨r8,_,_,_,_,rfl,(tE.keep ((Ex.cH _).app _)).za (List.Perm.refl _)⟩⟩
  ·have hne:wd≠n:=fun z=>by simp [z] at hw
   have tF:=tE.za (af.QT (w:=wd) (show n < 21 by omega) (by omega) (by omega))
   rw [zc (by omega) (by omega)] at tF
   exact jJ ⟨r8,_,_,_,_,rfl,tF⟩
 rintro δ qO ⟨r,u,v5,X,Y,rfl,two⟩
 have n0:0 < n:=by omega
 refine aW (bO ?_)
 refine b9 ?_
 intro dI hQ
 set_option simprocs false in simp only [bH,bQ two.hr,bQ two.hu]
 refine ⟨rfl,hQ _ _ (aW (bO (NR (X:=X) (Y:=Y) two.tX two.tY n0 (by omega) rfl rfl ?_)))⟩
 clear hQ
 intro L mh ny nd hL k8
 have t8:=(two.keep k8).keep (Ex.cH [.lst (L.map D.int)])
 refine aW (yO (fun mm δ pV=>∃ (pa:Nat) (X L:List Int) (v8:Option D),mm=L.length/\δ=[some (.ref f),some (.int (n:Int)),some (.int form),some (.ref r),some (.ref u),v5,some (bX X Y),some (.ref pa),v8]/\oS st pV f r u n X Y/\items pV pa=some (L.map D.int)/\L.length<=n/\L.Nodup/\(∀ x,x∈L↔(0<=x/\x < (n:Int)/\¬ af.jI X Y x))) L.length (Xk ny (Xk NT (by decide))) ⟨_,X,L,none,rfl,rfl,t8,uJ,ny,nd,hL⟩ ?_)
 rintro mm δ pV ⟨pa,X,L,v8,rfl,rfl,two,hpa,ny,nd,hL⟩
 have Wg:=two.tX.length
 have zI:items (pV ++ [O.lst []]) pa=some (L.map D.int):=by
  unfold items at hpa ⊢
  cases e:pV[pa]? with
  | none=>rw [e] at hpa;cases hpa
  | some o=>rw [kX e];rw [e] at hpa;exact hpa
 refine b9 ?_
 intro dI hQ
 set_option simprocs false in simp only [bH,Nh (L:=L) (M:=[]) (st:=pV ++ [O.lst []]) zI uJ]
 refine ⟨rfl,hQ _ _ ⟨fun h=>?_,fun h=>?_⟩⟩
 ·have hne:L≠[]:=by simpa using h
  clear hQ
  obtain ⟨m,L1,rfl⟩:∃ m L1,L=m :: L1:=by cases L with | nil=>exact absurd rfl hne | cons m L1=>exact ⟨m,L1,rfl⟩
  obtain ⟨m0,m1,mR⟩:=(hL m).mp WA
  have t2:=two.keep (Ex.cH [O.lst []])
  generalize (pV ++ [O.lst []])=G8 at zI t2 ⊢
  refine aW (bO ?_)
  refine b9 ?_
  intro dI hQ
  set_option simprocs false in simp only [bH,zI,WY]
  refine hQ _ _ (aW (sH ?_))
  clear hQ
  refine b9 ?_
  intro dI hQ
  set_option simprocs false in simp only [bH,bQ t2.hr,qX (xs:=X) m0 (by omega),qX (xs:=X) (i:=0) (by decide) (by omega)]
  refine ⟨rfl,hQ _ _ ?_⟩
  clear hQ
  have i0:mM (X.map D.int).length 0=some 0:=Ae (j:=0) (by rw [Wv];omega)
  have im:mM ((X.map D.int).set 0 (.int (af.app X m))).length m=some m.toNat:=by
   rw [Xj]
   have:=Ae (n:=(X.map D.int).length) (j:=m.toNat) (by rw [Wv];omega)
   rwa [W3 m0] at this
  have pJ:(G8.set r (.lst ((X.map D.int).set 0 (.int (af.app X m)))))[r]?=some (.lst ((X.map D.int).set 0 (.int (af.app X m)))):=WC (eU t2.hr)
  have eS:((X.map D.int).set 0 (.int (af.app X m))).set m.toNat (.int (af.app X 0))=(af.nY X m.toNat).map D.int:=by
   unfold af.nY
   rw [W3 m0,List.map_set,List.map_set]
  refine b9 ?_
  intro dI hQ
  set_option simprocs false in simp only [bH,lJ t2.hr,lJ pJ,i0,im,eS]
  refine ⟨rfl,hQ _ _ (aW (bO ?_))⟩
  clear hQ
  have tS:=af.xV t2.tX (m:=m.toNat) (by omega)
  have hmet:=af.QN t2.tX t2.tY (m:=m.toNat) (by omega) (by rw [W3 m0];exact mR)
  rw [W3 m0] at hmet
  rw [List.set_set]
  have t3:=t2.put (Z:=af.nY X m.toNat) tS hfl
  generalize G8.set r _=st3 at t3 ⊢
  refine b9 ?_
  intro dI hQ
  set_option simprocs false in simp only [bH,bQ t3.hr,bQ t3.hu]
  refine ⟨rfl,hQ _ _ (bO (NR (X:=af.nY X m.toNat) (Y:=Y) t3.tX t3.tY n0 (by omega) rfl rfl ?_))⟩
  intro L' mY J0 NU hL' k4
  refine ⟨_,?_,mY.length,af.nY X m.toNat,L',_,rfl,rfl,(t3.keep k4).keep (Ex.cH _),uJ,J0,NU,hL'⟩
  refine af.less (m:=m) NU (fun x hx=>?_) WA (fun h=>((hL' m).mp h).2.2 hmet.1)
  obtain ⟨a1,a2,a3⟩:=(hL' x).mp hx
  exact (hL x).mpr ⟨a1,a2,fun h=>a3 (hmet.2 x h)⟩
 ·have he:L=[]:=by simpa using h
  subst he
  refine dz ?_
  kspl_open bT
  have t2:=two.keep (Ex.cH [O.lst []])
  refine bT _ _ ⟨X,Y,rfl,⟨t2.tX,t2.tY,fun x x0 x1=>?_⟩,t2.fd,t2.ex⟩
  exact Classical.byContradiction fun h=>nomatch (hL x).mpr ⟨x0,x1,h⟩
theorem J1 {st:Store} {xs:List Int} {n:Nat} (tn:af.Tn n xs) (hn:n<=100):Wp (sS [.tup (xs.map D.int)] st) fun d st'=>d=.tup ((af.inv xs).map D.int)/\Ex [] st st':=by
 have hlen:=tn.length
 refine eY ?_
 show Ws (F4 [some (.tup (xs.map D.int)),none,none,none] st) _ _ _ _
 unfold F4
 refine aW (bO ?_)
 kspl_open hQ
 have e0:(((xs.map D.int).length:Int)).toNat=n:=by rw [Wv];omega
 have ez:(List.replicate n [D.int 0]).flatten=(List.replicate n (0:Int)).map D.int:=by
  induction n with
  | zero=>rfl
  | succ n ih=>simp [Xi]
 rw [e0,ez]
 refine ⟨rfl,by rw [Wv];omega,jL (by simp;omega),hQ _ _ (aW (mU (mT (xs.map D.int)) (fun k δ st2=>∃ (v2 v3:Option D) (bs:List Int),δ=[some (.tup (xs.map D.int)),some (.ref (st ++ [O.lst [D.int 0]]).length),v2,v3]/\st2[(st ++ [O.lst [D.int 0]]).length]?=some (.lst (bs.map D.int))/\bs.length=n/\(∀ j,j < k->∀ x,xs[j]?=some x->bs[x.toNat]?=some (j:Int))/\Ex [] st st2) ?_ ?_ ?_ ?_))⟩
 ·kspl_open hQ
  exact hQ _ _ ⟨rfl,none,none,_,rfl,jK,by simp,fun j hj=>absurd hj (Xh _),(Ex.cH _).app _⟩
 ·rw [CK,Wv];omega
 ·have EB:st.length<=(st ++ [O.lst [D.int 0]]).length:=by simp
  generalize (st ++ [O.lst [D.int 0]]).length=B at EB ⊢
  rintro k d δ st2 hd ⟨v2,v3,bs,rfl,hB,tV,uQ,k2⟩
  obtain ⟨d',hd',rfl⟩:=Ju hd
  obtain ⟨x,hx,rfl⟩:=Dd hd'
  obtain ⟨x0,x1⟩:=tn.bound (WG hx)
  have oJ:=eU hx
  kspl_open hQ
  refine ⟨rfl,hQ _ _ (sH ?_)⟩
  have hix:mM (bs.map D.int).length x=some x.toNat:=by
   have:=Ae (n:=(bs.map D.int).length) (j:=x.toNat) (by rw [Wv];omega)
   rwa [W3 x0] at this
  have es:(bs.map D.int).set x.toNat (.int (k:Int))=(bs.set x.toNat (k:Int)).map D.int:=by rw [List.map_set]
  kspl_open bT
  refine bT _ _ ?_
  refine b9 ?_
  intro EA sX
  set_option simprocs false in simp only [bH,lJ hB,hix,es]
  refine sX _ _ ⟨_,_,bs.set x.toNat (k:Int),rfl,WC (eU hB),by rw [Xj];exact tV,fun j hj y hy=>?_,k2.loc EB⟩
  by_cases hjk:j=k
  ·subst hjk
   rw [hx] at hy
   cases hy
   rw [WC (by rw [tV];omega)]
  ·obtain ⟨y0,y1⟩:=tn.bound (WG hy)
   rw [WE (fun z=>?_)]
   ·exact uQ j (by omega) y hy
   ·obtain ⟨h1,e1⟩:=Ww.mp hx
    obtain ⟨h2,e2⟩:=Ww.mp hy
    exact hjk ((List.getElem_inj tn.nodup).mp (show xs[j]=xs[k] by omega))
 ·rintro δ st2 ⟨v2,v3,bs,rfl,hB,tV,uQ,k2⟩
  rw [CK,Wv] at uQ
  have eb:bs=af.inv xs:=by
   apply List.ext_getElem?
   intro i
   by_cases hi:i < n
   ·have hm:=tn.mem (i:=(i:Int)) (by omega) (by omega)
    have hil:=List.idxOf_lt_length_of_mem hm
    have:=uQ (xs.idxOf (i:Int)) hil (i:Int) (by rw [Wx hil];exact congrArg some (List.getElem_idxOf hil))
    rw [WH] at this
    rw [this]
    have ea:=af.pq (xs:=af.inv xs) (i:=(i:Int)) (by omega) (by rw [af.Fi];omega)
    rw [WH,af.Fj (by omega) (by omega)] at ea
    exact ea.symm
   ·rw [List.getElem?_eq_none (by omega),List.getElem?_eq_none (by rw [af.Fi];omega)]
  subst eb
  refine dz ?_
  refine b9 ?_
  intro dI hQ
  set_option simprocs false in simp only [bH,bQ hB]
  exact hQ _ _ ⟨rfl,k2⟩
theorem EC {st:Store} {xs ys:List Int} (hb:∀ x∈xs,0<=x/\x < (ys.length:Int)) (hn:xs.length<=100):Wp (qG [.tup (xs.map D.int),.tup (ys.map D.int)] st) fun d st'=>d=.tup ((af.a8 xs ys).map D.int)/\Ex [] st st':=by
 refine eY ?_
 show Ws (F6 [some (.tup (xs.map D.int)),some (.tup (ys.map D.int))] st) _ _ _ _
 unfold F6
 refine dz ?_
 kspl_open hQ
 refine sO (xs.map D.int) (fun d=>.int (af.app ys (inD d))) ?_ (by rw [Wv];omega) ?_ ?_
 ·kspl_open bT
  exact bT _ _ ⟨sN _ _,Ex.refl⟩
 ·intro d hd st1 k1
  obtain ⟨x,hx,rfl⟩:=wk hd
  obtain ⟨x0,x1⟩:=hb x hx
  refine b9 ?_
  intro gy bT
  set_option simprocs false in simp only [bH,WY,Xg,Xe,Xf,qX (xs:=ys) x0 x1]
  exact bT _ _ ⟨rfl,Ex.refl⟩
 ·intro st' k'
  rw [Az (f:=af.app ys) fun x hx=>rfl]
  w_how
  exact hQ _ _ ⟨rfl,k'.app _⟩
theorem U6 {st:Store} {xs ys p:List Int} {n:Nat} (tx:af.Tn n xs) (ty:af.Tn n ys) (tp:af.Tn n p) (hn:n<=100):Wp (Dw [bX xs ys,.tup (p.map D.int)] st) fun d st'=>d=bX (af.anew xs p) (af.anew ys p)/\Ex [] st st':=by
 have hlx:=tx.length
 have A1:=ty.length
 have NV:=tp.length
 have ti:=tp.aG
 have hli:=ti.length
 refine eY ?_
 show Ws (F7 [some (bX xs ys),some (.tup (p.map D.int)),none,none,none] st) _ _ _ _
 unfold F7 bX
 refine aW (bO ?_)
 kspl_open hQ
 refine aY (J1 tp hn) ?_
 rintro d st1 ⟨rfl,k1⟩
 refine hQ _ _ (aW (bO ?_))
 clear hQ
 kspl_open hQ
 refine aY (EC (xs:=af.inv p) (ys:=xs) (fun x hx=>by rw [hlx];exact ti.bound hx) (by omega)) ?_
 rintro d st2 ⟨rfl,k2⟩
 refine aY (EC (xs:=af.a8 (af.inv p) xs) (ys:=p) (fun x hx=>by rw [NV];exact (ti.a8 tx).bound hx) (by rw [af.B9];omega)) ?_
 rintro d st3 ⟨rfl,k3⟩
 refine hQ _ _ (aW (bO ?_))
 clear hQ
 kspl_open hQ
 refine aY (EC (xs:=af.inv p) (ys:=ys) (fun x hx=>by rw [A1];exact ti.bound hx) (by omega)) ?_
 rintro d mY ⟨rfl,k4⟩
 refine aY (EC (xs:=af.a8 (af.inv p) ys) (ys:=p) (fun x hx=>by rw [NV];exact (ti.a8 ty).bound hx) (by rw [af.B9];omega)) ?_
 rintro d kN ⟨rfl,k5⟩
 refine hQ _ _ (dz ?_)
 clear hQ
 kspl_open hQ
 exact ⟨rfl,hQ _ _ ⟨rfl,(((k1.trans k2).trans k3).trans k4).trans k5⟩⟩
theorem NW {F:List Int} {x:Int}:(!F.contains x)=true->af.cK F x=F ++ [x]:=fun h=>by
 unfold af.cK
 rw [if_neg fun z=>by rw [XB.mpr z] at h;cases h]
theorem NX {F:List Int} {x:Int}:(!F.contains x)=false->af.cK F x=F:=fun h=>by
 unfold af.cK
 rw [if_pos (XB.mp (by simpa using h))]
theorem U7 {st:Store} {xs ys:List Int} {n:Nat} {s:Int} (tx:af.Tn n xs) (ty:af.Tn n ys) (hn:n<=100) (s0:0<=s) (s1:s < (n:Int)):Wp (Dy [bX xs ys,.int s] st) fun d st'=>d=.tup ((af.bf xs ys s n).map D.int)/\Ex [] st st':=by
 have hlx:=tx.length
 have A1:=ty.length
 refine eY ?_
 show Ws (F9 [some (bX xs ys),some (.int s),none,none,none,none] st) _ _ _ _
 unfold F9
 refine aW (bO ?_)
 kspl_open hQ
 refine ⟨rfl,hQ _ _ (aW (bO ?_))⟩
 clear hQ
 kspl_open hQ
 refine hQ _ _ (aW (yO (fun m δ st2=>∃ (k:Nat) (v4 v5:Option D),m=n - k/\δ=[some (bX xs ys),some (.int s),some (.ref st.length),some (.int (k:Int)),v4,v5]/\st2[st.length]?=some (.lst ((af.bf xs ys s k).map D.int))/\k<=(af.bf xs ys s k).length/\Ex [] st st2) n (Xk hn (by decide)) ⟨0,none,none,by omega,rfl,jK,W8 _,Ex.cH _⟩ ?_))
 clear hQ
 rintro m δ st2 ⟨k,v4,v5,rfl,rfl,hl,hk,k2⟩
 have tV:=af.Ca tx ty s0 s1 k
 refine b9 ?_
 intro dI hQ
 set_option simprocs false in simp only [bH,bQ hl]
 refine hQ _ _ ⟨fun hlt=>?_,fun hlt=>?_⟩
 ·clear hQ
  have hlt:=of_decide_eq_true hlt
  rw [Wv] at hlt
  have oJ:k < (af.bf xs ys s k).length:=by omega
  obtain ⟨x,hx⟩:∃ x,(af.bf xs ys s k)[k]?=some x:=⟨_,Wx oJ⟩
  obtain ⟨x0,x1⟩:=af.qP tx ty s0 s1 k x (WG hx)
  have e1:af.bf xs ys s (k + 1)=af.visit xs ys (af.bf xs ys s k) x:=by
   show (match (af.bf xs ys s k)[k]? with | some x=>af.visit xs ys (af.bf xs ys s k) x | none=>af.bf xs ys s k)=_
   rw [hx]
  have hb1:=af.Ca tx ty s0 s1 (k + 1)
  rw [e1] at hb1
  have hp1:=(af.vD (af.cK (af.bf xs ys s k) (af.app xs x)) (af.app ys x)).length_le
  have hp0:=(af.vD (af.bf xs ys s k) (af.app xs x)).length_le
  change _<=(af.visit xs ys (af.bf xs ys s k) x).length at hp1
  refine aW (mU [.tup (xs.map D.int),.tup (ys.map D.int)] (fun m δ st3=>∃ (v4 v5:Option D) (G:List Int),δ=[some (bX xs ys),some (.int s),some (.ref st.length),some (.int (k:Int)),v4,v5]/\st3[st.length]?=some (.lst (G.map D.int))/\(m=0->G=af.bf xs ys s k)/\(m=1->G=af.cK (af.bf xs ys s k) (af.app xs x))/\(m=2->G=af.visit xs ys (af.bf xs ys s k) x)/\Ex [] st st3) ?_ (by simp) ?_ ?_)
  ·unfold bX
   kspl_open hQ
   exact hQ _ _ ⟨rfl,v4,v5,_,rfl,hl,fun _=>rfl,fun z=>by omega,fun z=>by omega,k2⟩
  ·rintro m z δ st3 hm ⟨v4,v5,G,rfl,hl3,g0,g1,_,k3⟩
   have hm2:m < 2:=eU hm
   obtain ⟨zs,rfl,tz,em⟩:∃ (zs:List Int),z=.tup (zs.map D.int)/\af.Tn n zs/\((m=0/\zs=xs)\/(m=1/\zs=ys)):=by
    rcases (show m=0\/m=1 by omega) with rfl | rfl
    ·exact ⟨xs,by simpa using hm.symm,tx,.inl ⟨rfl,rfl⟩⟩
    ·exact ⟨ys,by simpa using hm.symm,ty,.inr ⟨rfl,rfl⟩⟩
   have hG:G.length<=100/\G[k]?=some x:=by
    rcases em with ⟨rfl,_⟩ | ⟨rfl,_⟩
    ·rw [g0 rfl];exact ⟨by omega,hx⟩
    ·rw [g1 rfl]
     refine ⟨by omega,?_⟩
     obtain ⟨t,e⟩:=af.vD (af.bf xs ys s k) (af.app xs x)
     rw [<- e,WI oJ];exact hx
   have ED:∀ G',G'=af.cK G (af.app zs x)->(m + 1=0->G'=af.bf xs ys s k)/\(m + 1=1->G'=af.cK (af.bf xs ys s k) (af.app xs x))/\(m + 1=2->G'=af.visit xs ys (af.bf xs ys s k) x):=fun G' e=>by
    rcases em with ⟨rfl,rfl⟩ | ⟨rfl,rfl⟩
    ·exact ⟨fun z=>by omega,fun _=>by rw [e,g0 rfl],fun z=>by omega⟩
    ·exact ⟨fun z=>by omega,fun z=>by omega,fun _=>by rw [e,g1 rfl];rfl⟩
   have hat:eE (G.map D.int) (k:Int)=some (.int x):=zZ (by rw [WB,hG.2];rfl)
   kspl_open hQ
   refine hQ _ _ (aW (bO ?_))
   clear hQ
   refine b9 ?_
   intro dI hQ
   set_option simprocs false in simp only [bH,bQ hl3,hat,qX (xs:=zs) x0 (by rw [tz.length];exact x1)]
   refine hQ _ _ (iD ?_)
   clear hQ
   refine b9 ?_
   intro dI hQ
   set_option simprocs false in simp only [bH,FO (st:=st3) (c:=.ref st.length) (ns:=G) (bQ hl3)]
   refine hQ _ _ ⟨fun hc=>pW ?_,fun hc=>jJ ?_⟩
   ·obtain ⟨n0,n1,n2⟩:=ED (G ++ [af.app zs x]) (NW hc).symm
    refine b9 ?_
    intro gy bT
    set_option simprocs false in simp only [bH,lJ hl3]
    refine ⟨n4 (by rw [bQ hl3];rfl),jL (by rw [Wv];omega),bT _ _ ⟨_,_,G ++ [af.app zs x],rfl,?_,n0,n1,n2,k3.loc (Wy _)⟩⟩
    rw [WC (eU hl3),WS];rfl
   ·obtain ⟨n0,n1,n2⟩:=ED G (NX hc).symm
    exact ⟨_,_,G,rfl,hl3,n0,n1,n2,k3⟩
  ·rintro δ st3 ⟨v4,v5,G,rfl,hl3,_,_,g2,k3⟩
   have g2:=g2 rfl
   subst g2
   refine bO ?_
   kspl_open hQ
   refine hQ _ _ ⟨n - (k + 1),by omega,k + 1,v4,v5,rfl,by simp,by rw [e1];exact hl3,by rw [e1];omega,k3⟩
 ·have hlt:=of_decide_eq_false hlt
  rw [Wv] at hlt
  have hle:(af.bf xs ys s k).length<=k:=by omega
  have e:af.bf xs ys s n=af.bf xs ys s k:=by
   have:=af.Fm hle (n - k)
   rwa [show k + (n - k)=n by omega] at this
  refine dz ?_
  refine b9 ?_
  intro gy bT
  set_option simprocs false in simp only [bH,bQ hl]
  rw [<- e]
  exact bT _ _ ⟨rfl,k2⟩
theorem U8 {st:Store} {xs:List Int} {n:Nat} {i:Int} (tn:af.Tn n xs) (hn:n<=100) (i0:0<=i) (i1:i < (n:Int)):Wp (DF [.tup (xs.map D.int),.int i] st) fun d st'=>∃ r:List Int,d=.tup (r.map D.int)/\af.iG xs i r/\Ex [] st st':=by
 have hlen:=tn.length
 refine eY ?_
 show Ws (Ge [some (.tup (xs.map D.int)),some (.int i),none,none] st) _ _ _ _
 unfold Ge
 refine aW (bO ?_)
 kspl_open hQ
 refine ⟨rfl,hQ _ _ (aW (bO ?_))⟩
 clear hQ
 refine b9 ?_
 intro dI hQ
 set_option simprocs false in simp only [bH,qX (xs:=xs) i0 (by omega)]
 refine hQ _ _ (aW (yO (fun m δ st2=>∃ k:Nat,m=n - (k + 1)/\δ=[some (.tup (xs.map D.int)),some (.int i),some (.ref st.length),some (.int (af.bB xs i (k + 1)))]/\st2[st.length]?=some (.lst ((af.row xs i k).map D.int))/\af.NB xs i k/\Ex [] st st2) (n - 1) (Xk (show n - 1<=100 by omega) (by decide)) ⟨0,rfl,rfl,jK,fun j h1 h2=>by omega,Ex.cH _⟩ ?_))
 clear hQ
 rintro m δ st2 ⟨k,rfl,rfl,hL,nb,k2⟩
 have hrl:=tn.kU i0 i1 nb
 kspl_open hQ
 refine hQ _ _ ⟨fun hb=>?_,fun hb=>?_⟩
 ·have hb:af.bB xs i (k + 1)≠i:=by simpa using hb
  have EE:af.NB xs i (k + 1):=fun j h1 h2=>by
   by_cases hj:j<=k
   ·exact nb j h1 hj
   ·have:j=k + 1:=by omega
    rw [this];exact hb
  have hle:=tn.kU i0 i1 EE
  have hit:=tn.bB i0 i1 (k + 1)
  refine aW (pW ?_)
  refine b9 ?_
  intro gy bT
  set_option simprocs false in simp only [bH,lJ hL]
  refine ⟨n4 (by rw [bQ hL];rfl),jL (by rw [Wv,af.tI];omega),bT _ _ (bO ?_)⟩
  clear bT
  refine b9 ?_
  intro gy bT
  set_option simprocs false in simp only [bH,qX (xs:=xs) hit.1 (by omega)]
  refine bT _ _ ⟨n - (k + 1 + 1),by omega,k + 1,rfl,rfl,?_,EE,k2.loc (Wy _)⟩
  rw [WC (eU hL),af.Me,WS];rfl
 ·have hb:af.bB xs i (k + 1)=i:=by simpa using hb
  refine dz ?_
  refine b9 ?_
  intro gy bT
  set_option simprocs false in simp only [bH,bQ hL]
  exact bT _ _ ⟨_,rfl,⟨k,rfl,nb,hb⟩,k2⟩
theorem U9 {st:Store} {xs:List Int} {n:Nat} (tn:af.Tn n xs) (hn:n<=100):Wp (DH [.tup (xs.map D.int)] st) fun d st'=>∃ rs:List (List Int),d=C8 rs/\af.vC xs (af.upto n) rs/\(∀ r∈rs,r.length<=n/\∀ x∈r,0<=x/\x < (n:Int))/\rs.length<=n/\Ex [] st st':=by
 have hlen:=tn.length
 refine eY ?_
 show Ws (Gg [some (.tup (xs.map D.int)),none,none,none,none,none] st) _ _ _ _
 unfold Gg
 refine aW (bO ?_)
 kspl_open hQ
 refine ⟨rfl,hQ _ _ (aW (bO ?_))⟩
 clear hQ
 kspl_open hQ
 have eS:(st ++ [O.lst []]).length=st.length + 1:=by simp
 rw [eS]
 refine hQ _ _ (aW (mU (aH 0 n) (fun k δ st2=>∃ (v3 v4 v5:Option D) (rs:List (List Int)) (kvs:List (Key×D)),δ=[some (.tup (xs.map D.int)),some (.ref st.length),some (.ref (st.length + 1)),v3,v4,v5]/\st2[st.length]?=some (.lst (rs.map fun r=>.tup (r.map D.int)))/\st2[st.length + 1]?=some (.dct kvs) /\
   (∀ rest,af.vC xs (af.from' n k (fun x=>(dM kvs (Sum.inl x:Key)).isSome)) rest->af.vC xs (af.upto n) (rs ++ rest))/\(∀ r∈rs,r.length<=n/\∀ x∈r,0<=x/\x < (n:Int))/\rs.length<=k/\kvs.length<=k * n/\Ex [] st st2) ?_ (by rw [gu];omega) ?_ ?_))
 ·clear hQ
  kspl_open hQ
  rw [Wv,hlen]
  refine ⟨by omega,hQ _ _ ⟨by rw [WH],none,none,none,[],[],rfl,kX jK,by rw [<- eS];exact jK,fun rest hrest=>?_,(fun r hr=>nomatch hr),Wy _,W8 _,(Ex.cH _).app _⟩⟩
  have e:af.from' n 0 (fun x=>(dM ([]:List (Key×D)) (Sum.inl x:Key)).isSome)=af.upto n:=af.QI n
  rw [e] at hrest
  exact hrest
 ·rintro k d δ st2 hd ⟨v3,v4,v5,rs,kvs,rfl,G9,Ha,wK,hb,hrl,oJ,k2⟩
  have hk:=eU hd
  rw [gu] at hk
  rw [yo hk,Int.zero_add] at hd
  cases hd
  have hkn:k * n<=10000:=WO (Nat.mul_le_mul (show k<=100 by omega) hn) (by decide)
  clear hQ
  kspl_open hQ
  refine hQ _ _ (iD ?_)
  clear hQ
  refine b9 ?_
  intro dI hQ
  set_option simprocs false in simp only [bH,Nl Ha,Nm]
  have hfs:=af.QG hk (fun x=>(dM kvs (Sum.inl x:Key)).isSome)
  refine hQ _ _ ⟨fun hs=>?_,fun hs=>?_⟩
  ·have J3:(dM kvs (Sum.inl (k:Int):Key)).isSome=false:=by simpa using hs
   simp only [J3,Xz,if_false] at hfs
   clear hQ
   refine aW (bO ?_)
   kspl_open hQ
   refine aY (U8 tn hn (i:=(k:Int)) (by omega) (by omega)) ?_
   rintro d st3 ⟨r,rfl,oB,k3⟩
   refine hQ _ _ (aW (pW ?_))
   clear hQ
   have J4:=k3.keep _ _ G9 (by simp)
   have Va:=k3.keep _ _ Ha (by simp)
   have J5:=oB.len tn (by omega) (by omega)
   have hrb:=oB.bound tn (by omega) (by omega)
   refine b9 ?_
   intro dI hQ
   set_option simprocs false in simp only [bH,lJ J4]
   refine ⟨n4 (by rw [bQ J4];rfl),jL (by rw [Wv];omega),hQ _ _ ?_⟩
   clear hQ
   refine mU (r.map D.int) (fun j δ kN=>∃ (v5:Option D) (kvs':List (Key×D)),δ=[some (.tup (xs.map D.int)),some (.ref st.length),some (.ref (st.length + 1)),some (.int (k:Int)),some (.tup (r.map D.int)),v5]/\kN[st.length]?=some (.lst ((rs ++ [r]).map fun r=>.tup (r.map D.int)))/\kN[st.length + 1]?=some (.dct kvs') /\
     (∀ x:Int,(dM kvs' (Sum.inl x:Key)).isSome=((dM kvs (Sum.inl x:Key)).isSome || (r.take j).contains x))/\kvs'.length<=kvs.length + j/\Ex [] st kN) ?_ (by rw [Wv];omega) ?_ ?_
   ·kspl_open hQ
    refine hQ _ _ ⟨rfl,v5,kvs,rfl,?_,?_,fun x=>by simp,by omega,(k2.trans k3).loc (Wy _)⟩
    ·rw [WC (eU J4),WS];rfl
    ·rw [WE (by omega)];exact Va
   ·rintro j y δ kN hj ⟨v5,kvs',rfl,J7,Hb,Hc,EF,k5⟩
    obtain ⟨x,hx,rfl⟩:=Dd hj
    obtain ⟨hjl,ex⟩:=Ww.mp hx
    subst ex
    kspl_open hQ
    refine hQ _ _ (Sf ?_)
    clear hQ
    kspl_open hQ
    refine hQ _ _ ?_
    kspl_open bT
    refine bT _ _ ?_
    kspl_open sX
    refine sX _ _ ⟨_,kvs',_,rfl,Nl Hb,Nm _,jL (by omega),_,_,rfl,?_,WC (eU Hb),fun x=>?_,?_,k5.loc (by omega)⟩
    ·rw [WE (by omega)];exact J7
    ·rw [SY,S1 hjl]
     by_cases hx:x=r[j]
     ·subst hx;simp
     ·rw [if_neg (by intro z;exact hx (Sum.inl.inj z)),Hc x]
      have:(x == r[j])=false:=beq_eq_false_iff_ne.mpr hx
      rw [this,Bool.or_false]
    ·have:=S0 kvs' (Sum.inl r[j]:Key) (.bl true);omega
   ·rintro δ kN ⟨v5,kvs',rfl,J7,Hb,Hc,EF,k5⟩
    rw [Wv] at EF Hc
    refine ⟨_,_,_,rs ++ [r],kvs',rfl,J7,Hb,fun rest hrest=>?_,fun r' hr'=>?_,by rw [Wz];simp;omega,by rw [Nat.succ_mul];omega,k5⟩
    ·have e:(fun x=>(dM kvs' (Sum.inl x:Key)).isSome)=fun x=>((dM kvs (Sum.inl x:Key)).isSome || r.contains x):=by
      funext x;rw [Hc x,Xq]
     rw [e,<- af.QH] at hrest
     rw [List.append_assoc]
     refine wK _ ?_
     rw [hfs]
     refine .cons oB ?_
     have e2:af.out ((k:Int) :: af.from' n (k + 1) (fun x=>(dM kvs (Sum.inl x:Key)).isSome)) r=af.out (af.from' n (k + 1) (fun x=>(dM kvs (Sum.inl x:Key)).isSome)) r:=by
      unfold af.out
      rw [List.filter_cons,if_neg (by simp [oB.mem])]
     rw [e2]
     exact hrest
    ·rcases WX.mp hr' with h | h
     ·exact hb r' h
     ·have:r'=r:=by simpa using h
      subst this
      exact ⟨J5,hrb⟩
  ·have J3:(dM kvs (Sum.inl (k:Int):Key)).isSome=true:=by simpa using hs
   simp only [J3,if_true] at hfs
   exact jJ ⟨_,_,_,rs,kvs,rfl,G9,Ha,fun rest hrest=>wK rest (by rw [hfs];exact hrest),hb,by omega,by rw [Nat.succ_mul];omega,k2⟩
 ·rintro δ st2 ⟨v3,v4,v5,rs,kvs,rfl,G9,Ha,wK,hb,hrl,oJ,k2⟩
  rw [gu] at wK hrl
  refine dz ?_
  clear hQ
  refine b9 ?_
  intro dI hQ
  set_option simprocs false in simp only [bH,bQ G9]
  refine hQ _ _ ⟨rs,rfl,?_,hb,hrl,k2⟩
  have:=wK [] (by rw [af.QF];exact .nil)
  rwa [List.append_nil] at this
theorem Vb {rs:List (List Int)} {m:Nat} {d:D} (h:(rs.map fun r=>D.tup (r.map D.int))[m]?=some d):∃ r,rs[m]?=some r/\d=.tup (r.map D.int):=by
 rw [WB] at h
 obtain ⟨r,h1,h2⟩:=WZ.mp h
 exact ⟨r,h1,h2.symm⟩
theorem NY {xs:List Int} {i:Int} {m:Nat} {j:Int} (h0:0<=j) (h1:j < ((m + 1:Nat):Int)):eE ((af.row xs i m).map D.int) j=some (.int (af.bB xs i j.toNat)):=by
 have e:((af.row xs i m).map D.int)[j.toNat]?=some (.int (af.bB xs i j.toNat)):=by
  unfold af.row
  rw [W4,WB,List.getElem?_range (by omega)];rfl
 have:=zZ e
 rwa [W3 h0] at this
theorem NZ {bs:List Int} {m v x:Int} (h0:0<=m) (h1:m < (bs.length:Int)) (x0:0<=x):af.app (bs.set m.toNat v) x=if x=m then v else af.app bs x:=by
 have:=af.IP (xs:=bs) (m:=m.toNat) (v:=v) (x:=x) (by omega) x0
 rw [W3 h0] at this
 exact this
theorem Vc {st:Store} {xs:List Int} {n:Nat} {k:Int} (tn:af.Tn n xs) (hn:n<=100):Wp (DJ [.tup (xs.map D.int),.int k] st) fun d st'=>d=.tup ((af.cC xs k).map D.int)/\Ex [] st st':=by
 have hlen:=tn.length
 refine eY ?_
 show Ws (Gh [some (.tup (xs.map D.int)),some (.int k),none,none,none,none] st) _ _ _ _
 unfold Gh
 refine aW (bO ?_)
 kspl_open hQ
 have e0:(((xs.map D.int).length:Int)).toNat=n:=by rw [Wv];omega
 have ez:(List.replicate n [D.int 0]).flatten=(List.replicate n (0:Int)).map D.int:=by
  clear hlen tn hn e0
  induction n with
  | zero=>rfl
  | succ n ih=>simp [Xi]
 rw [e0,ez]
 have EB:st.length<=(st ++ [O.lst [D.int 0]]).length:=by simp
 refine ⟨rfl,by rw [Wv];omega,jL (by simp;omega),hQ _ _ ?_⟩
 clear hQ
 have J8:(st ++ [O.lst [D.int 0]] ++ [O.lst ((List.replicate n (0:Int)).map D.int)])[(st ++ [O.lst [D.int 0]]).length]?=some (.lst ((List.replicate n (0:Int)).map D.int)):=jK
 have kB:Ex [] st (st ++ [O.lst [D.int 0]] ++ [O.lst ((List.replicate n (0:Int)).map D.int)]):=(Ex.cH _).app _
 generalize (st ++ [O.lst [D.int 0]] ++ [O.lst ((List.replicate n (0:Int)).map D.int)])=Vd at J8 kB ⊢
 generalize (st ++ [O.lst [D.int 0]]).length=B at EB J8 ⊢
 show Ws _ _ _ _ _
 obtain ⟨d,st2,e2,rs,rfl,wK,hrb,hrl,k2⟩:=U9 (st:=Vd) tn hn
 refine aW (mU (rs.map fun r=>.tup (r.map D.int)) (fun m δ st3=>∃ (v3 v4 v5:Option D) (bs:List Int),δ=[some (.tup (xs.map D.int)),some (.int k),some (.ref B),v3,v4,v5]/\st3[B]?=some (.lst (bs.map D.int))/\bs.length=n/\(∀ j,j < m->∀ r,rs[j]?=some r->∀ x∈r,af.app bs x=af.pw xs k x)/\Ex [] st st3) ?_ (by rw [Wv];omega) ?_ ?_)
 ·kspl_open hQ
  refine ⟨_,_,e2,?_⟩
  exact ⟨_,rfl,hQ _ _ ⟨rfl,none,none,none,_,rfl,k2.keep _ _ J8 (by simp),by simp,fun j hj=>absurd hj (Xh _),kB.trans k2⟩⟩
 ·rintro m d δ st3 hm ⟨v3,v4,v5,bs,rfl,J9,tV,uQ,k3⟩
  obtain ⟨r,hr,rfl⟩:=Vb hm
  obtain ⟨i,hi,oB⟩:=wK.all.1 r (WG hr)
  obtain ⟨i0,i1⟩:=af.nh.mp hi
  obtain ⟨M,rfl,nb,bk⟩:=oB.ex
  have hM:=tn.kU i0 i1 nb
  kspl_open hQ
  refine hQ _ _ (mU (mT ((af.row xs i M).map D.int)) (fun t δ mY=>∃ (v4 v5:Option D) (cs:List Int),δ=[some (.tup (xs.map D.int)),some (.int k),some (.ref B),some (.tup ((af.row xs i M).map D.int)),v4,v5]/\mY[B]?=some (.lst (cs.map D.int))/\cs.length=n/\(∀ x:Int,0<=x->x < (n:Int)->af.app bs x=af.pw xs k x->af.app cs x=af.pw xs k x)/\(∀ j,j < t->af.app cs (af.bB xs i j)=af.pw xs k (af.bB xs i j))/\Ex [] st mY) ?_ ?_ ?_ ?_)
  ·clear hQ
   kspl_open hQ
   exact hQ _ _ ⟨rfl,v4,v5,bs,rfl,J9,tV,fun _ _ _ h=>h,fun j hj=>absurd hj (Xh _),k3⟩
  ·rw [CK,Wv,af.tI];omega
  ·rintro t d δ mY hd ⟨v4,v5,cs,rfl,Hd,hcl,hcs,hct,k4⟩
   obtain ⟨d',hd',rfl⟩:=Ju hd
   obtain ⟨y,hy,rfl⟩:=Dd hd'
   have N0:=eU hy
   rw [af.tI] at N0
   have ey:y=af.bB xs i t:=by
    unfold af.row at hy
    rw [WB,List.getElem?_range N0] at hy
    exact (WJ hy).symm
   subst ey
   obtain ⟨x0,x1⟩:=tn.bB i0 i1 t
   have hL:(0:Int) < ((M + 1:Nat):Int):=by omega
   have m0:=Xp ((t:Int) + k) (Int.ne_of_gt hL)
   have m1:=XA ((t:Int) + k) hL
   have eL:((((af.row xs i M).map D.int).length:Nat):Int)=((M + 1:Nat):Int):=by rw [Wv,af.tI]
   have hix:mM (cs.map D.int).length (af.bB xs i t)=some (af.bB xs i t).toNat:=by
    have:=Ae (n:=(cs.map D.int).length) (j:=(af.bB xs i t).toNat) (by rw [Wv];omega)
    rwa [W3 x0] at this
   have es:∀ v:Int,(cs.map D.int).set (af.bB xs i t).toNat (.int v)=(cs.set (af.bB xs i t).toNat v).map D.int:=fun v=>by rw [List.map_set]
   clear hQ
   kspl_open hQ
   refine ⟨rfl,hQ _ _ (sH ?_)⟩
   clear hQ
   refine b9 ?_
   intro dI hQ
   set_option simprocs false in simp only [bH,eL,NY m0 m1]
   refine ⟨hL,hQ _ _ ?_⟩
   clear hQ
   refine b9 ?_
   intro dI hQ
   set_option simprocs false in simp only [bH,lJ Hd,hix,es]
   have hat:=tn.xX x0 x1 (tn.xU i0 i1 nb bk t k)
   refine hQ _ _ ⟨_,_,_,rfl,WC (eU Hd),by rw [Xj];exact hcl,fun x h0 h1 h=>?_,fun j hj=>?_,k4.loc EB⟩
   ·rw [NZ x0 (by omega) h0]
    split
    ·next e=>rw [e];exact hat
    ·exact hcs x h0 h1 h
   ·obtain ⟨y0,y1⟩:=tn.bB i0 i1 j
    rw [NZ x0 (by omega) y0]
    split
    ·next e=>rw [e];exact hat
    ·next e =>
     by_cases Ve:j=t
     ·rw [Ve] at e;exact absurd rfl e
     ·exact hct j (by omega)
  ·rintro δ mY ⟨v4,v5,cs,rfl,Hd,hcl,hcs,hct,k4⟩
   rw [CK,Wv,af.tI] at hct
   refine ⟨_,_,_,cs,rfl,Hd,hcl,fun j hj r hr2 x hx=>?_,k4⟩
   by_cases Vg:j=m
   ·subst Vg
    rw [hr] at hr2
    cases hr2
    obtain ⟨jj,Wi,rfl⟩:=af.Fh.mp hx
    exact hct jj (by omega)
   ·obtain ⟨b0,b1⟩:=(hrb r (WG hr2)).2 x hx
    exact hcs x b0 b1 (uQ j (by omega) r hr2 x hx)
 ·rintro δ st3 ⟨v3,v4,v5,bs,rfl,J9,tV,uQ,k3⟩
  rw [Wv] at uQ
  have e:bs=af.cC xs k:=by
   refine af.qv (n:=n) tV (by rw [af.Cd];exact hlen) fun s s0 s1=>?_
   rw [af.p6 s0 (by omega)]
   obtain ⟨r,hr',hx⟩:=wK.all.2 s (af.nh.mpr ⟨s0,s1⟩)
   obtain ⟨j,hj,ej⟩:=Xu hr'
   exact uQ j hj r (by rw [Wx hj,ej]) s hx
  subst e
  refine dz ?_
  refine b9 ?_
  intro dI hQ
  set_option simprocs false in simp only [bH,bQ J9]
  exact hQ _ _ ⟨rfl,k3⟩
theorem Vh {st:Store} {xs ys:List Int} {n:Nat} {k:Int} (tx:af.Tn n xs) (ty:af.Tn n ys) (hn:n<=100):Wp (DM [bX xs ys,.int k] st) fun d st'=>d=bX xs (af.shr xs ys k)/\Ex [] st st':=by
 refine eY ?_
 show Ws (Gi [some (bX xs ys),some (.int k)] st) _ _ _ _
 unfold Gi bX
 refine dz ?_
 have tp:=tx.cC (-k)
 kspl_open hQ
 refine aY (Vc (k:=-k) tx hn) ?_
 rintro d st1 ⟨rfl,k1⟩
 refine aY (EC (xs:=af.cC xs (-k)) (ys:=ys) (fun x hx=>by rw [ty.length];exact tp.bound hx) (by rw [tp.length];exact hn)) ?_
 rintro d st2 ⟨rfl,k2⟩
 exact ⟨rfl,hQ _ _ ⟨rfl,k1.trans k2⟩⟩
theorem Vi {st:Store} {xs ys:List Int} {n:Nat} (tx:af.Tn n xs) (ty:af.Tn n ys) (hn:n<=100):Wp (DO [bX xs ys] st) fun d st'=>d=bX (af.inv ys) xs/\Ex [] st st':=by
 refine eY ?_
 show Ws (Gj [some (bX xs ys)] st) _ _ _ _
 unfold Gj bX
 refine dz ?_
 kspl_open hQ
 refine aY (J1 ty hn) ?_
 rintro d st1 ⟨rfl,k1⟩
 exact ⟨rfl,hQ _ _ ⟨rfl,k1⟩⟩
theorem N1 {st:Store} {Q:D->Store->Prop} {xs:List Int} {v:Int} (h:v∈xs):Wp (jT (.tup (xs.map D.int)) [.int v] st) Q↔Q (.int (xs.idxOf v:Int)) st:=by
 rw [Nc]
 constructor
 ·rintro ⟨ns,j,h1,h2,q⟩
  rw [Jz] at h1
  cases h1
  rw [Nj h] at h2
  cases h2
  exact q
 ·intro q
  exact ⟨xs,_,Jz xs,Nj h,q⟩
theorem N2 {xs:List Int} {i:Int} {m:Nat}:eE ((af.row xs i m).map D.int) (-1)=some (.int (af.bB xs i m)):=by
 have hl:((af.row xs i m).map D.int).length=m + 1:=by rw [Wv,af.tI]
 unfold eE mM
 rw [if_neg (by decide),hl,if_pos (by omega),Xw,show ((-1:Int) + ((m + 1:Nat):Int)).toNat=m by omega]
 unfold af.row
 rw [W4,WB,List.getElem?_range (by omega)];rfl
theorem Vj {st:Store} {xs:List Int} {n:Nat} {s k:Int} (tn:af.Tn n xs) (hn:n<=100) (s0:0<=s) (s1:s < (n:Int)):Wp (D2 [.tup (xs.map D.int),.int s,.int k] st) fun d st'=>d=.int (af.pw xs k s)/\Ex [] st st':=by
 have hlen:=tn.length
 refine eY ?_
 show Ws (Gz [some (.tup (xs.map D.int)),some (.int s),some (.int k),none] st) _ _ _ _
 unfold Gz
 refine aW (yN (N:=fun δ st1=>∃ (zs:List Int) (j:Nat),δ=[some (.tup (zs.map D.int)),some (.int s),some (.int (j:Int)),none]/\af.Tn n zs/\af.bB zs s j=af.pw xs k s/\Ex [] st st1) (iD ?_) ?_)
 ·kspl_open hQ
  refine hQ _ _ ⟨fun h=>?_,fun h=>jJ ⟨xs,k.toNat,?_,tn,?_,Ex.refl⟩⟩
  ·have h:=of_decide_eq_true h
   clear hQ
   refine aW (bO ?_)
   kspl_open hQ
   refine sO (aH 0 n) (fun d=>.int (xs.idxOf (inD d):Int)) ?_ (by rw [gu];omega) ?_ ?_
   ·kspl_open bT
    rw [Wv,hlen]
    exact ⟨by omega,bT _ _ ⟨by rw [WH];exact sN _ _,Ex.refl⟩⟩
   ·intro d hd qO k7
    rw [qW] at hd
    obtain ⟨x,hx,rfl⟩:=wk hd
    obtain ⟨x0,x1⟩:=af.nh.mp hx
    refine b9 ?_
    intro gy bT
    set_option simprocs false in simp only [bH,WY,Xg,Xe,Xf,Nb,N1 (tn.mem x0 x1)]
    exact bT _ _ ⟨rfl,Ex.refl⟩
   ·intro qO k7
    have e:(aH 0 n).map (fun d=>D.int (xs.idxOf (inD d):Int))=(af.inv xs).map D.int:=by
     rw [qW,Az (f:=fun x=>(xs.idxOf x:Int)) fun x hx=>rfl]
     unfold af.inv
     rw [hlen]
    rw [e]
    w_how
    refine hQ _ _ (bO ?_)
    clear hQ
    kspl_open hQ
    refine hQ _ _ ⟨af.inv xs,(-k).toNat,?_,tn.aG,?_,k7.app _⟩
    ·rw [show (0:Int) - k=(((-k).toNat:Nat):Int) by omega];rfl
    ·unfold af.pw;rw [if_neg (by omega)]
  ·have h:=of_decide_eq_false h
   rw [W3 (by omega)]
  ·have h:=of_decide_eq_false h
   unfold af.pw;rw [if_pos (by omega)]
 rintro δ st1 ⟨zs,j,rfl,tz,ej,k1⟩
 have NP:=tz.length
 refine aW (bO ?_)
 kspl_open hQ
 refine ⟨rfl,hQ _ _ (aW (yO (fun m δ st2=>∃ k:Nat,m=n - (k + 1)/\δ=[some (.tup (zs.map D.int)),some (.int s),some (.int (j:Int)),some (.ref st1.length)]/\st2[st1.length]?=some (.lst ((af.row zs s k).map D.int))/\af.NB zs s k/\Ex [] st1 st2) (n - 1) (Xk (show n - 1<=100 by omega) (by decide)) ⟨0,rfl,rfl,jK,fun j h1 h2=>by omega,Ex.cH _⟩ ?_))⟩
 clear hQ
 rintro m δ st2 ⟨k',rfl,rfl,hL,nb,k2⟩
 have hrl:=tz.kU s0 s1 nb
 obtain ⟨y0,y1⟩:=tz.bB s0 s1 k'
 refine b9 ?_
 intro dI hQ
 set_option simprocs false in simp only [bH,bQ hL,N2,qX (xs:=zs) y0 (by omega)]
 refine hQ _ _ ⟨fun hb=>?_,fun hb=>?_⟩
 ·have hb:af.bB zs s (k' + 1)≠s:=by show af.app zs (af.bB zs s k')≠s;simpa using hb
  have EE:af.NB zs s (k' + 1):=fun j h1 h2=>by
   by_cases hj:j<=k'
   ·exact nb j h1 hj
   ·have:j=k' + 1:=by omega
    rw [this];exact hb
  have hle:=tz.kU s0 s1 EE
  refine pW ?_
  refine b9 ?_
  intro gy bT
  set_option simprocs false in simp only [bH,bQ hL,N2,qX (xs:=zs) y0 (by omega),lJ hL]
  refine ⟨n4 (by rw [bQ hL];rfl),jL (by rw [Wv,af.tI];omega),bT _ _ ⟨n - (k' + 1 + 1),by omega,k' + 1,rfl,rfl,?_,EE,k2.loc (Wy _)⟩⟩
  rw [WC (eU hL),af.Me,WS];rfl
 ·have hb:af.bB zs s (k' + 1)=s:=by show af.app zs (af.bB zs s k')=s;simpa using hb
  refine dz ?_
  have hpos:(0:Int) < ((k' + 1:Nat):Int):=by omega
  have eL:((((af.row zs s k').map D.int).length:Nat):Int)=((k' + 1:Nat):Int):=by rw [Wv,af.tI]
  refine b9 ?_
  intro gy bT
  set_option simprocs false in simp only [bH,bQ hL,eL,NY (Xp (j:Int) (Int.ne_of_gt hpos)) (XA (j:Int) hpos)]
  refine ⟨hpos,bT _ _ ⟨?_,k1.trans k2⟩⟩
  rw [<- ej,show ((j:Int) % ((k' + 1:Nat):Int)).toNat=j % (k' + 1) by omega,af.Mh hb]
theorem Vk {st:Store} {xs ys:List Int} {n:Nat} {k:Int} (tx:af.Tn n xs) (ty:af.Tn n ys) (hn:n<=100):Wp (sT [bX xs ys,.tup [.str "s",.int k]] st) fun d st'=>d=bX xs (af.shr xs ys k)/\Ex [] st st':=by
 have hlx:=tx.length
 have A1:=ty.length
 refine eY ?_
 show Ws (AK [some (bX xs ys),some (.tup [.str "s",.int k]),none,none,none] st) _ _ _ _
 unfold AK bX
 refine aW (sH ?_)
 kspl_open hQ
 refine hQ _ _ ?_
 clear hQ
 kspl_open hQ
 refine ⟨rfl,hQ _ _ (aW (iD ?_))⟩
 clear hQ
 kspl_open hQ
 refine hQ _ _ ⟨fun _=>dz ?_,fun h=>absurd h (by simp)⟩
 clear hQ
 kspl_open hQ
 refine sO (aH 0 n) (fun d=>.int (af.app ys (af.pw xs (-k) (inD d)))) ?_ (by rw [gu];omega) ?_ ?_
 ·kspl_open bT
  rw [Wv,A1]
  exact ⟨by omega,bT _ _ ⟨by rw [WH];exact sN _ _,Ex.refl⟩⟩
 ·intro d hd qO k7
  rw [qW] at hd
  obtain ⟨x,hx,rfl⟩:=wk hd
  obtain ⟨x0,x1⟩:=af.nh.mp hx
  obtain ⟨p0,p1⟩:=tx.pw x0 x1 (-k)
  refine b9 ?_
  intro gy bT
  set_option simprocs false in simp only [bH,WY,Xg,Xe,Xf]
  refine aY (Vj (k:=0 - k) tx hn x0 x1) ?_
  rintro d mh ⟨rfl,k8⟩
  rw [show (0:Int) - k=-k by omega]
  set_option simprocs false in simp only [bH,qX (xs:=ys) p0 (by omega)]
  exact bT _ _ ⟨rfl,k8⟩
 ·intro qO k7
  have e:(aH 0 n).map (fun d=>D.int (af.app ys (af.pw xs (-k) (inD d))))=(af.shr xs ys k).map D.int:=by
   rw [qW,Az (f:=fun x=>af.app ys (af.pw xs (-k) x)) fun x hx=>rfl]
   unfold af.shr af.a8 af.cC
   rw [hlx,W4,W4,W4]
   rfl
  rw [e]
  w_how
  exact ⟨rfl,hQ _ _ ⟨rfl,k7.app _⟩⟩
def n5 (xs ys:List Int):Nat->List Int×List Int
 | 0=>(xs,ys)
 | j + 1=>(af.inv (n5 xs ys j).2,(n5 xs ys j).1)
theorem EG {n:Nat} {xs ys:List Int} (tx:af.Tn n xs) (ty:af.Tn n ys):∀ j,af.Tn n (n5 xs ys j).1/\af.Tn n (n5 xs ys j).2
 | 0=>⟨tx,ty⟩
 | j + 1=>⟨(EG tx ty j).2.aG,(EG tx ty j).1⟩
theorem Vl {st:Store} {xs ys:List Int} {n j:Nat} (tx:af.Tn n xs) (ty:af.Tn n ys) (hn:n<=100) (hj:j < 4):Wp (sT [bX xs ys,.tup [.str "t",.int (j:Int)]] st) fun d st'=>d=bX (n5 xs ys j).1 (n5 xs ys j).2/\Ex [] st st':=by
 refine eY ?_
 show Ws (AK [some (bX xs ys),some (.tup [.str "t",.int (j:Int)]),none,none,none] st) _ _ _ _
 unfold AK bX
 refine aW (sH ?_)
 kspl_open hQ
 refine hQ _ _ ?_
 clear hQ
 kspl_open hQ
 refine ⟨rfl,hQ _ _ (aW (iD ?_))⟩
 clear hQ
 kspl_open hQ
 refine hQ _ _ ⟨fun h=>absurd h (by decide),fun _=>jJ (aW (mU (aH 0 j) (fun i δ st2=>∃ v4:Option D,δ=[some (.tup [.tup (xs.map D.int),.tup (ys.map D.int)]),some (.tup [.str "t",.int (j:Int)]),some (.tup ((n5 xs ys i).1.map D.int)),some (.tup ((n5 xs ys i).2.map D.int)),v4]/\Ex [] st st2) ?_ (by rw [gu];omega) ?_ ?_))⟩
 ·clear hQ
  kspl_open hQ
  rw [show (j:Int) % 4=(j:Int) by omega]
  exact ⟨by omega,by omega,hQ _ _ ⟨by rw [WH],none,rfl,Ex.refl⟩⟩
 ·rintro i d δ st2 hd ⟨v4,rfl,k2⟩
  obtain ⟨ta,tb⟩:=EG tx ty i
  show Wp _ _
  have hlb:=tb.length
  generalize hzs:(n5 xs ys i).2=zs at tb hlb ⊢
  clear hQ
  kspl_open hQ
  refine hQ _ _ (sH ?_)
  clear hQ
  kspl_open hQ
  refine sO (aH 0 n) (fun d=>.int (zs.idxOf (inD d):Int)) ?_ (by rw [gu];omega) ?_ ?_
  ·kspl_open bT
   rw [Wv,hlb]
   exact ⟨by omega,bT _ _ ⟨by rw [WH];exact sN _ _,Ex.refl⟩⟩
  ·intro d hd qO k7
   rw [qW] at hd
   obtain ⟨x,hx,rfl⟩:=wk hd
   obtain ⟨x0,x1⟩:=af.nh.mp hx
   refine b9 ?_
   intro gy bT
   set_option simprocs false in simp only [bH,WY,Xg,Xe,Xf,Nb,N1 (tb.mem x0 x1)]
   exact bT _ _ ⟨rfl,Ex.refl⟩
  ·intro qO k7
   have e:(aH 0 n).map (fun d=>D.int (zs.idxOf (inD d):Int))=(af.inv zs).map D.int:=by
    rw [qW,Az (f:=fun x=>(zs.idxOf x:Int)) fun x hx=>rfl]
    unfold af.inv
    rw [hlb]
   rw [e]
   w_how
   refine ⟨rfl,hQ _ _ ?_⟩
   clear hQ
   kspl_open hQ
   refine ⟨rfl,hQ _ _ ⟨some d,?_,(k2.trans k7).app _⟩⟩
   rw [show (n5 xs ys (i + 1)).1=af.inv (n5 xs ys i).2 from rfl,show (n5 xs ys (i + 1)).2=(n5 xs ys i).1 from rfl,hzs]
 ·rintro δ st2 ⟨v4,rfl,k2⟩
  rw [gu]
  refine dz ?_
  clear hQ
  kspl_open hQ
  exact ⟨rfl,hQ _ _ ⟨rfl,k2⟩⟩
def EH (s:df):Prop:=s.1=false->1<=s.2/\s.2<=3
def g8 (p:List Int×List Int) (s:df):List Int×List Int:=if s.1=true then (p.1,af.shr p.1 p.2 s.2) else n5 p.1 p.2 s.2.toNat
def lx (p:List Int×List Int) (w:List df):List Int×List Int:=w.foldl g8 p
theorem Vm {n:Nat} {p:List Int×List Int} (h:af.Tn n p.1/\af.Tn n p.2) (s:df):af.Tn n (g8 p s).1/\af.Tn n (g8 p s).2:=by
 unfold g8
 split
 ·exact ⟨h.1,h.1.shr h.2 _⟩
 ·exact EG h.1 h.2 _
theorem Ka {n:Nat}:∀ {p:List Int×List Int},af.Tn n p.1/\af.Tn n p.2->∀ w:List df,af.Tn n (lx p w).1/\af.Tn n (lx p w).2
 | _,h,[]=>h
 | _,h,s :: w=>Ka (Vm h s) w
theorem Vn (p:List Int×List Int) (v w:List df):lx p (v ++ w)=lx (lx p v) w:=by unfold lx;rw [Xs]
theorem N3 (p:List Int×List Int) (w:List df) (s:df):lx p (w ++ [s])=g8 (lx p w) s:=by rw [Vn];rfl
def bz (p:List Int×List Int):D:=bX p.1 p.2
theorem N4 {st:Store} {p:List Int×List Int} {n:Nat} {s:df} (h:af.Tn n p.1/\af.Tn n p.2) (hn:n<=100) (hs:EH s):Wp (sT [bz p,bp s] st) fun d st'=>d=bz (g8 p s)/\Ex [] st st':=by
 obtain ⟨b,k⟩:=s
 cases b with
 | true=>exact Vk (k:=k) h.1 h.2 hn
 | false =>
  obtain ⟨k1,k3⟩:=hs rfl
  obtain ⟨j,rfl⟩:∃ j:Nat,k=(j:Int):=⟨k.toNat,by simp only at k1;omega⟩
  have:=Vl (st:=st) (j:=j) h.1 h.2 hn (by simp only at k3;omega)
  refine aY this ?_
  rintro d st1 ⟨rfl,k1⟩
  refine ⟨?_,k1⟩
  unfold bz g8
  rw [if_neg (show ¬ (false=true) from WD),WH]
theorem Vo {st:Store} {p:List Int×List Int} {n:Nat} {w:List df} (h:af.Tn n p.1/\af.Tn n p.2) (hn:n<=100) (hw:∀ s∈w,EH s) (hl:w.length<=1000):Wp (AX [bz p,.tup (w.map bp)] st) fun d st'=>d=bz (lx p w)/\Ex [] st st':=by
 refine eY ?_
 show Ws (GJ [some (bz p),some (.tup (w.map bp)),none] st) _ _ _ _
 unfold GJ
 refine aW (mU (w.map bp) (fun i δ st2=>∃ v2:Option D,δ=[some (bz (lx p (w.take i))),some (.tup (w.map bp)),v2]/\Ex [] st st2) ?_ (by rw [Wv];omega) ?_ ?_)
 ·kspl_open hQ
  exact hQ _ _ ⟨rfl,none,rfl,Ex.refl⟩
 ·rintro i d δ st2 hd ⟨v2,rfl,k2⟩
  rw [WB] at hd
  obtain ⟨s,hs,rfl⟩:=WZ.mp hd
  obtain ⟨hil,es⟩:=Ww.mp hs
  kspl_open hQ
  refine hQ _ _ (bO ?_)
  clear hQ
  kspl_open hQ
  refine aY (N4 (Ka h _) hn (hw s (WG hs))) ?_
  rintro d st3 ⟨rfl,k3⟩
  refine hQ _ _ ⟨some (bp s),?_,k2.trans k3⟩
  rw [W6 hil,N3,es]
  rfl
 ·rintro δ st2 ⟨v2,rfl,k2⟩
  rw [Wv,Xq]
  refine dz ?_
  kspl_open hQ
  exact hQ _ _ ⟨rfl,k2⟩
theorem Vp {st:Store} {p:List Int×List Int} {n:Nat} {s:df} (h:af.Tn n p.1/\af.Tn n p.2) (hn:n<=100) (hs:EH s):Wp (DQ [bz p,bp s] st) fun d st'=>d=bz (g8 p s)/\Ex [] st st':=by
 obtain ⟨b,k⟩:=s
 refine eY ?_
 show Ws (Gk [some (bz p),some (bp (b,k)),none,none] st) _ _ _ _
 unfold Gk bp
 cases b with
 | true =>
  refine aW (iD ?_)
  kspl_open hQ
  refine hQ _ _ ⟨fun _=>dz ?_,fun z=>absurd z (by decide)⟩
  clear hQ
  kspl_open hQ
  refine aY (Vh (k:=k) h.1 h.2 hn) ?_
  rintro d st1 ⟨rfl,k1⟩
  exact hQ _ _ ⟨rfl,k1⟩
 | false =>
  obtain ⟨k1,k3⟩:=hs rfl
  obtain ⟨j,rfl⟩:∃ j:Nat,k=(j:Int):=⟨k.toNat,by simp only at k1;omega⟩
  refine aW (iD ?_)
  kspl_open hQ
  refine hQ _ _ ⟨fun z=>absurd z (by decide),fun _=>jJ (aW (bO ?_))⟩
  clear hQ
  kspl_open hQ
  refine hQ _ _ (aW (mU (aH 0 j) (fun i δ st2=>∃ v3:Option D,δ=[some (bz p),some (bp (false,(j:Int))),some (bX (n5 p.1 p.2 i).1 (n5 p.1 p.2 i).2),v3]/\Ex [] st st2) ?_ (by rw [gu];simp only at k3;omega) ?_ ?_))
  ·clear hQ
   kspl_open hQ
   exact ⟨by simp only at k3;omega,hQ _ _ ⟨by rw [WH],none,rfl,Ex.refl⟩⟩
  ·rintro i d δ st2 hd ⟨v3,rfl,k2⟩
   obtain ⟨ta,tb⟩:=EG h.1 h.2 i
   clear hQ
   kspl_open hQ
   refine hQ _ _ (bO ?_)
   clear hQ
   kspl_open hQ
   refine aY (Vi ta tb hn) ?_
   rintro d' st3 ⟨rfl,k3⟩
   exact hQ _ _ ⟨some d,rfl,k2.trans k3⟩
  ·rintro δ st2 ⟨v3,rfl,k2⟩
   rw [gu]
   refine dz ?_
   clear hQ
   kspl_open hQ
   refine hQ _ _ ⟨?_,k2⟩
   unfold bz g8
   rw [if_neg (show ¬ (false=true) from WD),WH]
theorem N5 {st:Store} {p:List Int×List Int} {n:Nat} {w:List df} (h:af.Tn n p.1/\af.Tn n p.2) (hn:n<=100) (hw:∀ s∈w,EH s) (hl:w.length<=1000):Wp (wH [bz p,.tup (w.map bp)] st) fun d st'=>d=bz (lx p w)/\Ex [] st st':=by
 refine eY ?_
 show Ws (Gn [some (bz p),some (.tup (w.map bp)),none,none] st) _ _ _ _
 unfold Gn
 refine aW (bO ?_)
 kspl_open hQ
 refine hQ _ _ (aW (mU (w.map bp) (fun i δ st2=>∃ v2:Option D,δ=[some (bz p),some (.tup (w.map bp)),some (bz (lx p (w.take i))),v2]/\Ex [] st st2) ?_ (by rw [Wv];omega) ?_ ?_))
 ·clear hQ
  kspl_open hQ
  exact hQ _ _ ⟨rfl,none,rfl,Ex.refl⟩
 ·rintro i d δ st2 hd ⟨v2,rfl,k2⟩
  rw [WB] at hd
  obtain ⟨s,hs,rfl⟩:=WZ.mp hd
  obtain ⟨hil,es⟩:=Ww.mp hs
  clear hQ
  kspl_open hQ
  refine hQ _ _ (bO ?_)
  clear hQ
  kspl_open hQ
  refine aY (Vp (Ka h _) hn (hw s (WG hs))) ?_
  rintro d st3 ⟨rfl,k3⟩
  refine hQ _ _ ⟨some (bp s),?_,k2.trans k3⟩
  rw [W6 hil,N3,es]
  rfl
 ·rintro δ st2 ⟨v2,rfl,k2⟩
  rw [Wv,Xq]
  refine dz ?_
  clear hQ
  kspl_open hQ
  exact hQ _ _ ⟨rfl,k2⟩
def A2 (g:Int) (s:df):Prop:=(s.1=false->1<=s.2/\s.2<=3)/\(s.2.natAbs:Int)<=g/\s.2≠0
theorem Vq {st:Store} {f:Nat} {most great:Int} (hf:bN st f) (m0:0<=most) (m1:most<=100) (g0:3<=great) (g1:great<=1000):Wp (AU [.ref f,.int most,.int great] st) fun d st'=>∃ w:List df,d=.tup (w.map bp)/\(∀ s∈w,A2 great s)/\(w.length:Int)<=most/\bN st' f/\Ex [f] st st':=by
 have hfl:=hf.lt
 refine eY ?_
 show Ws (GF [some (.ref f),some (.int most),some (.int great),none,none] st) _ _ _ _
 unfold GF
 refine aW (bO ?_)
 kspl_open hQ
 refine ⟨rfl,hQ _ _ ?_⟩
 clear hQ
 show Ws _ _ _ _ _
 obtain ⟨d,st1,e1,c,rfl,c0,c1,f1,k1⟩:=tU (st:=st ++ [O.lst []]) (n:=most + 1) (hf.keep (Ex.cH _)) (by omega) (by omega)
 obtain ⟨m,rfl⟩:∃ m:Nat,c=(m:Int):=⟨c.toNat,by omega⟩
 have hl1:st1[st.length]?=some (.lst []):=k1.keep _ _ jK (by simp;omega)
 have kx:Ex [f] st st1:=(Ex.cH _).trans k1
 refine aW (mU (aH 0 m) (fun i δ st2=>∃ (v4:Option D) (w:List df),δ=[some (.ref f),some (.int most),some (.int great),some (.ref st.length),v4]/\st2[st.length]?=some (.lst (w.map bp))/\(∀ s∈w,A2 great s)/\w.length<=i/\bN st2 f/\Ex [f] st st2) ?_ (by rw [gu];omega) ?_ ?_)
 ·kspl_open hQ
  refine ⟨_,_,e1,?_⟩
  exact ⟨_,rfl,by omega,hQ _ _ ⟨by rw [WH],none,[],rfl,hl1,(fun s hs=>nomatch hs),Wy _,f1,kx⟩⟩
 ·rintro i d δ st2 hd ⟨v4,w,rfl,hl2,hw,hwl,f2,k2⟩
  have hil:=eU hd
  rw [gu] at hil
  have put:∀ (s:df) (kN:Store),A2 great s->bN kN f->kN[st.length]?=some (.lst (w.map bp))->Ex [f] st kN->∀ v4:Option D,∃ (Vr:Option D) (w':List df),[some (.ref f),some (.int most),some (.int great),some (.ref st.length),v4]=[some (.ref f),some (.int most),some (.int great),some (.ref st.length),Vr]/\(kN.set st.length (.lst (w.map bp ++ [bp s])))[st.length]?=some (.lst (w'.map bp))/\(∀ s∈w',A2 great s)/\w'.length<=i + 1/\bN (kN.set st.length (.lst (w.map bp ++ [bp s]))) f/\Ex [f] st (kN.set st.length (.lst (w.map bp ++ [bp s]))):=fun s kN os f5 h5 k5 v4=>by
   refine ⟨v4,w ++ [s],rfl,?_,fun s' hs'=>?_,by rw [Wz];simp;omega,f5.ne (by omega),k5.loc (Wy _)⟩
   ·rw [WC (eU h5),WS];rfl
   ·rcases WX.mp hs' with h | h
    ·exact hw s' h
    ·rw [WQ.mp h];exact os
  kspl_open hQ
  refine hQ _ _ (iD ?_)
  clear hQ
  kspl_open hQ
  refine aY (tU (n:=2) f2 (by decide) (by decide)) ?_
  rintro d' st3 ⟨b,rfl,b0,b1,f3,k3⟩
  have hl3:=k3.keep _ _ hl2 (by simp;omega)
  w_how
  refine hQ _ _ ⟨fun _=>pW ?_,fun _=>aW (bO ?_)⟩
  ·clear hQ
   kspl_open hQ
   refine ⟨n4 (by rw [bQ hl3];rfl),?_⟩
   refine aY (tU (n:=3) f3 (by decide) (by decide)) ?_
   rintro d' mY ⟨c,rfl,c0,c1,f4,k4⟩
   have rB:=k4.keep _ _ hl3 (by simp;omega)
   set_option simprocs false in simp only [bH,lJ rB]
   refine ⟨rfl,jL (by rw [Wv];omega),hQ _ _ ?_⟩
   exact put (false,1 + c) mY ⟨fun _=>⟨by show 1<=1 + c;omega,by show 1 + c<=3;omega⟩,by show ((1 + c).natAbs:Int)<=great;omega,by show 1 + c≠0;omega⟩ f4 rB ((k2.trans k3).trans k4) _
  ·clear hQ
   kspl_open hQ
   refine aY (tU (n:=great) f3 (by omega) (by omega)) ?_
   rintro d' mY ⟨c,rfl,c0,c1,f4,k4⟩
   have rB:=k4.keep _ _ hl3 (by simp;omega)
   w_how
   refine hQ _ _ (pW ?_)
   clear hQ
   kspl_open hQ
   refine ⟨n4 (by rw [bQ rB];rfl),rfl,?_⟩
   refine aY (tU (n:=2) (f4.keep (Ex.cH [O.lst [D.int (1 + c),D.int (0 - (1 + c))]])) (by decide) (by decide)) ?_
   rintro d' kN ⟨g,rfl,Wj,Wk,f5,k5⟩
   have Vs:kN[mY.length]?=some (.lst [D.int (1 + c),D.int (0 - (1 + c))]):=k5.keep _ _ jK (by have:=f4.lt;simp;omega)
   have EF:kN[st.length]?=some (.lst (w.map bp)):=k5.keep _ _ (kX rB) (by simp;omega)
   obtain ⟨sg,hsg,s1,s2⟩:∃ sg:Int,eE [D.int (1 + c),D.int (0 - (1 + c))] g=some (.int sg)/\(sg.natAbs:Int)<=great/\sg≠0:=by
    rcases (show g=0\/g=1 by omega) with rfl | rfl
    ·exact ⟨1 + c,FK _ _,by omega,by omega⟩
    ·exact ⟨0 - (1 + c),FL _ _ _,by omega,by omega⟩
   set_option simprocs false in simp only [bH,bQ Vs,hsg,lJ EF]
   refine ⟨rfl,jL (by rw [Wv];omega),hQ _ _ ?_⟩
   exact put (true,sg) kN ⟨fun z=>Bool.noConfusion (show true=false from z),s1,s2⟩ f5 EF (((k2.trans k3).trans k4).trans ((Ex.cH _).trans k5)) _
 ·rintro δ st2 ⟨v4,w,rfl,hl2,hw,hwl,f2,k2⟩
  rw [gu] at hwl
  refine dz ?_
  refine b9 ?_
  intro dI hQ
  set_option simprocs false in simp only [bH,bQ hl2]
  exact hQ _ _ ⟨w,rfl,hw,by omega,f2,k2⟩
def eV (T:af.T4):D:=.tup [.int T.a,.int T.b,.int T.c,.int T.d]
def He (A B:af.T4):Prop:=∀ x∈[A.a,A.b,A.c,A.d],∀ y∈[B.a,B.b,B.c,B.d],cv x y=true
theorem Kb {A B:af.T4} (h:A.le 18446744073709551615):He A B:=fun x hx y _=>by
 refine Tj ?_
 obtain ⟨h1,h2,h3,h4⟩:=h
 simp only [W0,List.not_mem_nil,or_false] at hx
 rcases hx with rfl | rfl | rfl | rfl <;> omega
theorem Hf {A B:af.T4} {M k:Nat} (hk:k<=60000000) (hM:M < P2 k) (h:A.le M) (h':B.le M):He A B:=fun x hx y hy=>by
 obtain ⟨h1,h2,h3,h4⟩:=h
 obtain ⟨g1,g2,g3,g4⟩:=h'
 simp only [W0,List.not_mem_nil,or_false] at hx hy
 refine JQ hk ?_ ?_
 ·rcases hx with rfl | rfl | rfl | rfl <;> omega
 ·rcases hy with rfl | rfl | rfl | rfl <;> omega
theorem Kc {st:Store} {A B:af.T4} (h:He A B):Wp (sU [eV A,eV B] st) fun d st'=>d=eV (A.mul B)/\Ex [] st st':=by
 refine eY ?_
 show Ws (GN [some (eV A),some (eV B)] st) _ _ _ _
 unfold GN eV
 refine dz ?_
 have hh:∀ x y:Int,x∈[A.a,A.b,A.c,A.d]->y∈[B.a,B.b,B.c,B.d]->cv x y=true:=fun x y hx hy=>h x hx y hy
 have a1:∀ y∈[B.a,B.b,B.c,B.d],cv A.a y=true:=h _ (by simp)
 have a2:∀ y∈[B.a,B.b,B.c,B.d],cv A.b y=true:=h _ (by simp)
 have a3:∀ y∈[B.a,B.b,B.c,B.d],cv A.c y=true:=h _ (by simp)
 have a4:∀ y∈[B.a,B.b,B.c,B.d],cv A.d y=true:=h _ (by simp)
 refine b9 ?_
 intro dI hQ
 set_option simprocs false in simp only [bH,FT,at2,Nn]
 exact ⟨a1 _ (by simp),a2 _ (by simp),a1 _ (by simp),a2 _ (by simp),a3 _ (by simp),a4 _ (by simp),a3 _ (by simp),a4 _ (by simp),rfl,hQ _ _ ⟨rfl,Ex.refl⟩⟩
theorem Vt {st:Store} {s:df} (h:af.cw s):Wp (Ec [bp s] st) fun d st'=>d=eV (af.jQ s)/\Ex [] st st':=by
 obtain ⟨b,k⟩:=s
 refine eY ?_
 show Ws (GO [some (bp (b,k)),none,none] st) _ _ _ _
 unfold GO bp
 cases b with
 | true =>
  refine aW (iD ?_)
  kspl_open hQ
  refine hQ _ _ ⟨fun _=>dz ?_,fun h=>absurd h (by decide)⟩
  clear hQ
  kspl_open hQ
  exact ⟨rfl,hQ _ _ ⟨rfl,Ex.refl⟩⟩
 | false =>
  obtain ⟨k1,k3⟩:=h.1 rfl
  simp only at k1 k3
  obtain ⟨j,rfl⟩:∃ j:Nat,k=(j:Int):=⟨k.toNat,by omega⟩
  refine aW (iD ?_)
  kspl_open hQ
  refine hQ _ _ ⟨fun h=>absurd h (by decide),fun _=>jJ (aW (bO ?_))⟩
  clear hQ
  kspl_open hQ
  refine hQ _ _ ?_
  clear hQ
  show Ws _ _ _ _ _
  refine aW (mU (aH 0 j) (fun i δ st2=>∃ v:Option D,δ=[some (.tup [.str "t",.int (j:Int)]),some (eV (af.qp i)),v]/\Ex [] st st2) ?_ (by rw [gu];omega) ?_ ?_)
  ·kspl_open hQ
   exact ⟨by omega,hQ _ _ ⟨by rw [WH],none,rfl,Ex.refl⟩⟩
  ·rintro i d δ st2 hd ⟨v,rfl,k2⟩
   kspl_open hQ
   refine hQ _ _ (bO ?_)
   clear hQ
   kspl_open hQ
   refine aY (Kc (A:=af.T4.qt) (B:=af.qp i) (Kb ⟨by decide,by decide,by decide,by decide⟩)) ?_
   rintro d st3 ⟨rfl,k3⟩
   exact hQ _ _ ⟨_,rfl,k2.trans k3⟩
  ·rintro δ st2 ⟨v,rfl,k2⟩
   rw [gu]
   refine dz ?_
   kspl_open hQ
   refine hQ _ _ ⟨?_,k2⟩
   show eV (af.qp j)=eV (af.qp (j:Int).toNat)
   rw [WH]
theorem N6 {s:df} {B:Nat} (h:af.cw s) (hs:s.2.natAbs<=B):(af.jQ s).le (B + 1):=by
 have:=af.vG (T:=af.T4.one) (s:=s) (M:=1) (B:=B) ⟨by decide,by decide,by decide,by decide⟩ h hs
 rwa [af.T4.mul_one,Nat.mul_one] at this
theorem uR {T:af.T4} {M N:Nat} (h:T.le M) (hn:M<=N):T.le N:=⟨WO h.1 hn,WO h.2.1 hn,WO h.2.2.1 hn,WO h.2.2.2 hn⟩
theorem Kd {w:List df} {b n:Nat} (hw:∀ s∈w,af.cw s/\s.2.natAbs + 1<=P2 b) (hn:w.length<=n):(af.ax w).le (P2 (b * n)):=by
 have:=af.IZ (B:=P2 b - 1) (n:=n) (w:=w) (fun s hs=>⟨(hw s hs).1,by have:=(hw s hs).2;omega⟩) hn
 rwa [show P2 b - 1 + 1=P2 b by have:=Aj b;omega,xS] at this
theorem N7 {st:Store} {w:List df} {b:Nat} (hb:b<=50000) (hw:∀ s∈w,af.cw s/\s.2.natAbs + 1<=P2 b) (hl:w.length<=1000):Wp (wJ [.tup (w.map bp)] st) fun d st'=>d=eV (af.ax w)/\Ex [] st st':=by
 refine eY ?_
 show Ws (GQ [some (.tup (w.map bp)),none,none] st) _ _ _ _
 unfold GQ
 refine aW (bO ?_)
 kspl_open hQ
 refine hQ _ _ ?_
 clear hQ
 show Ws _ _ _ _ _
 refine aW (mU (w.map bp) (fun i δ st2=>∃ v:Option D,δ=[some (.tup (w.map bp)),some (eV (af.ax (w.take i))),v]/\Ex [] st st2) ?_ (by rw [Wv];omega) ?_ ?_)
 ·kspl_open hQ
  exact hQ _ _ ⟨rfl,none,rfl,Ex.refl⟩
 ·rintro i d δ st2 hd ⟨v2,rfl,k2⟩
  rw [WB] at hd
  obtain ⟨s,hs,rfl⟩:=WZ.mp hd
  obtain ⟨hil,es⟩:=Ww.mp hs
  have hsw:=hw s (WG hs)
  kspl_open hQ
  refine hQ _ _ (bO ?_)
  clear hQ
  kspl_open hQ
  refine aY (Vt hsw.1) ?_
  rintro d st3 ⟨rfl,k3⟩
  refine aY (Kc (Hf (M:=P2 (b * 1000)) (k:=b * 1000 + 1) (by omega) (by rw [uv];have:=Aj (b * 1000);omega) (uR (N6 (B:=P2 b - 1) hsw.1 (by omega)) (by have:=Aj b;have:=B5 (show b<=b * 1000 by omega);omega)) (Kd (fun s hs=>hw s (List.mem_of_mem_take hs)) (by rw [List.length_take];omega)))) ?_
  rintro d mY ⟨rfl,k4⟩
  refine hQ _ _ ⟨some (bp s),?_,(k2.trans k3).trans k4⟩
  rw [W6 hil,af.vE,es]
  rfl
 ·rintro δ st2 ⟨v2,rfl,k2⟩
  rw [Wv,Xq]
  refine dz ?_
  kspl_open hQ
  exact hQ _ _ ⟨rfl,k2⟩
theorem Vu {st:Store} {a b:df}:Wp (DS [bp a,bp b] st) fun d st'=>d=.tup ((af.cx a b).map bp)/\Ex [] st st':=by
 obtain ⟨ab,ak⟩:=a
 obtain ⟨bb,bk⟩:=b
 refine eY ?_
 show Ws (Gq [some (.tup [.str (if ab then "s" else "t"),.int ak]),some (.tup [.str (if bb then "s" else "t"),.int bk]),none] st) _ _ _ _
 unfold Gq
 have hj:af.cx (ab,ak) (bb,bk)=if af.iB (ab,ak) (bb,bk)=0 then [] else [(ab,af.iB (ab,ak) (bb,bk))]:=rfl
 refine aW (bO ?_)
 kspl_open hQ
 refine hQ _ _ ?_
 clear hQ
 show Ws _ _ _ _ _
 refine aW (yN (N:=fun δ st1=>st1=st/\δ=[some (.tup [.str (if ab then "s" else "t"),.int ak]),some (.tup [.str (if bb then "s" else "t"),.int bk]),some (.int (af.iB (ab,ak) (bb,bk)))]) (iD ?_) ?_)
 ·kspl_open hQ
  refine hQ _ _ ⟨fun h=>bO ?_,fun h=>jJ ⟨rfl,?_⟩⟩
  ·cases ab with
   | true=>exact absurd h (by decide)
   | false =>
    clear hQ
    kspl_open hQ
    exact ⟨by decide,hQ _ _ ⟨rfl,rfl⟩⟩
  ·cases ab with
   | true=>rfl
   | false=>exact absurd h (by decide)
 ·rintro δ st1 ⟨rfl,rfl⟩
  refine aW (iD ?_)
  kspl_open hQ
  refine hQ _ _ ⟨fun h=>dz ?_,fun h=>jJ (dz ?_)⟩
  ·have h:=of_decide_eq_true h
   clear hQ
   kspl_open hQ
   refine ⟨rfl,hQ _ _ ⟨?_,Ex.refl⟩⟩
   rw [hj,if_pos h];rfl
  ·have h:=of_decide_eq_false h
   clear hQ
   kspl_open hQ
   refine ⟨rfl,rfl,hQ _ _ ⟨?_,Ex.refl⟩⟩
   rw [hj,if_neg h];rfl
theorem Ke {xs:List D} {x:D}:eE (xs ++ [x]) (-1)=some x:=by
 unfold eE mM
 rw [Wz,if_neg (by decide),if_pos (by simp;omega)]
 simp only [Xw]
 have e:((-1:Int) + ((xs.length + [x].length:Nat):Int)).toNat=xs.length:=by simp only [Xy];omega
 rw [e];simp
theorem Vv {xs:List D} {x:D}:cutD (xs ++ [x]) none (some (-1))=xs:=by
 have e1:HT.cJ (xs ++ [x]).length 0 none=0:=rfl
 have e2:HT.cJ (xs ++ [x]).length (xs ++ [x]).length (some (-1))=xs.length:=by
  unfold HT.cJ
  simp only
  rw [if_pos (by decide),Wz,Xy];omega
 unfold cutD
 rw [e1,e2,List.drop_zero,Nat.sub_zero]
 simp
theorem Vw (a b:Bool):(((if a=true then ("s" : Str) else "t")=(if b=true then ("s" : Str) else "t")))↔a=b:=by
 cases a <;> cases b <;> decide
theorem Vx {st:Store} {w:List df} (hl:w.length<=1000):Wp (DV [.tup (w.map bp)] st) fun d st'=>d=.tup ((af.jz w).reverse.map bp)/\Ex [] st st':=by
 refine eY ?_
 show Ws (Gr [some (.tup (w.map bp)),none,none] st) _ _ _ _
 unfold Gr
 refine aW (bO ?_)
 kspl_open hQ
 refine ⟨rfl,hQ _ _ ?_⟩
 clear hQ
 show Ws _ _ _ _ _
 refine aW (mU (w.map bp) (fun i δ st2=>∃ v:Option D,δ=[some (.tup (w.map bp)),some (.tup ((af.jz (w.take i)).reverse.map bp)),v]/\Ex [] st st2) ?_ (by rw [Wv];omega) ?_ ?_)
 ·kspl_open hQ
  exact hQ _ _ ⟨rfl,none,rfl,Ex.refl⟩
 ·rintro i d δ st2 hd ⟨v2,rfl,k2⟩
  rw [WB] at hd
  obtain ⟨s,hs,rfl⟩:=WZ.mp hd
  obtain ⟨hil,es⟩:=Ww.mp hs
  have ep:af.jz (w.take (i + 1))=af.bP (af.jz (w.take i)) s:=by rw [W6 hil,af.IW,es];rfl
  have hpl:(af.jz (w.take i)).length<=1000:=by have:=af.Fq (w.take i);rw [List.length_take] at this;omega
  rw [ep]
  clear ep
  generalize af.jz (w.take i)=l at hpl ⊢
  kspl_open hQ
  refine hQ _ _ (iD ?_)
  clear hQ
  kspl_open hQ
  cases l with
  | nil =>
   refine hQ _ _ ⟨fun h=>absurd h (by decide),fun _=>bO ?_⟩
   clear hQ
   kspl_open hQ
   exact ⟨rfl,rfl,hQ _ _ ⟨some (bp s),rfl,k2⟩⟩
  | cons t r =>
   have eg:(t :: r).reverse.map bp=r.reverse.map bp ++ [bp t]:=by simp
   rw [eg]
   have el:decide ((0:Int) < ((r.reverse.map bp ++ [bp t]).length:Nat))=true:=decide_eq_true (by simp)
   have es1:bp t=.tup [.str (if t.1 then "s" else "t"),.int t.2]:=rfl
   have Hg:bp s=.tup [.str (if s.1 then "s" else "t"),.int s.2]:=rfl
   have elt:(if t.1=true then ("s" : Str) else "t")=(if s.1=true then ("s" : Str) else "t")↔t.1=s.1:=Vw _ _
   set_option simprocs false in simp only [bH,Ke,es1,Hg]
   rw [if_pos (by simp)]
   refine hQ _ _ ⟨fun h=>bO ?_,fun h=>bO ?_⟩
   ·have h:=elt.mp (of_decide_eq_true h)
    clear hQ
    kspl_open hQ
    rw [eg,Vv]
    set_option simprocs false in simp only [bH,Ke]
    refine aY Vu ?_
    rintro d st3 ⟨rfl,k3⟩
    w_how
    refine ⟨jL ?_,hQ _ _ ⟨some (bp s),?_,k2.trans k3⟩⟩
    ·have:(af.cx t s).length<=1:=by unfold af.cx;split <;> simp
     simp only [Wv,W9]
     simp only [W2] at hpl
     omega
    ·have ej:(af.cx t s).reverse=af.cx t s:=by unfold af.cx;split <;> rfl
     rw [af.tK,if_pos h,List.reverse_append,WS,ej]
     rfl
   ·have h:=fun e=>of_decide_eq_false h (elt.mpr e)
    clear hQ
    kspl_open hQ
    refine ⟨rfl,jL ?_,hQ _ _ ⟨some (bp s),?_,k2⟩⟩
    ·simp only [Wv,W9,Xy]
     omega
    ·have e2:(s :: t :: r).reverse.map bp=(t :: r).reverse.map bp ++ [bp s]:=by simp
     rw [af.tK,if_neg h,e2]
     rfl
 ·rintro δ st2 ⟨v2,rfl,k2⟩
  rw [Wv,Xq]
  refine dz ?_
  kspl_open hQ
  exact hQ _ _ ⟨rfl,k2⟩
theorem N8 {st:Store} {v w:List df} (hl:v.length + w.length<=1000):Wp (wI [.tup (v.map bp),.tup (w.map bp)] st) fun d st'=>d=.tup ((af.jz (v ++ w)).reverse.map bp)/\Ex [] st st':=by
 refine eY ?_
 show Ws (Gs [some (.tup (v.map bp)),some (.tup (w.map bp))] st) _ _ _ _
 unfold Gs
 refine dz ?_
 kspl_open hQ
 refine ⟨jL (by simp only [Wv];omega),?_⟩
 rw [<- WS]
 refine aY (Vx (by rw [Wz];exact hl)) ?_
 rintro d st3 ⟨rfl,k3⟩
 exact hQ _ _ ⟨rfl,k3⟩
theorem Vy {st:Store} {s:df}:Wp (Em [bp s] st) fun d st'=>d=bp (af.mO s)/\Ex [] st st':=by
 obtain ⟨b,k⟩:=s
 refine eY ?_
 show Ws (GY [some (.tup [.str (if b then "s" else "t"),.int k])] st) _ _ _ _
 unfold GY
 refine aW (iD ?_)
 cases b with
 | true =>
  kspl_open hQ
  refine hQ _ _ ⟨fun _=>dz ?_,fun h=>absurd h (by decide)⟩
  clear hQ
  kspl_open hQ
  exact ⟨rfl,hQ _ _ ⟨rfl,Ex.refl⟩⟩
 | false =>
  kspl_open hQ
  refine hQ _ _ ⟨fun h=>absurd h (by decide),fun _=>jJ (dz ?_)⟩
  clear hQ
  kspl_open hQ
  exact ⟨rfl,hQ _ _ ⟨rfl,Ex.refl⟩⟩
theorem Vz {st:Store} {w:List df} (hl:w.length<=1000):Wp (Eo [.tup (w.map bp)] st) fun d st'=>d=.tup ((af.d3 w).map bp)/\Ex [] st st':=by
 refine eY ?_
 show Ws (GZ [some (.tup (w.map bp))] st) _ _ _ _
 unfold GZ
 refine dz ?_
 kspl_open hQ
 refine S6 (w.reverse.map bp) (fun i y=>∃ s,w.reverse[i]?=some s/\y=bp (af.mO s)) (Ex [] st) ?_ (by rw [Wv,W9];omega) ?_ ?_
 ·refine b9 ?_
  intro gy bT
  set_option simprocs false in simp only [bH,S8]
  refine ⟨_,rfl,bT _ _ ⟨fun i st2 hi _=>?_,Ex.refl⟩⟩
  rw [<- List.map_reverse]
  exact sN _ st2 i st2 hi Ex.refl
 ·intro i d hd st1 k1
  rw [WB] at hd
  obtain ⟨s,hs,rfl⟩:=WZ.mp hd
  kspl_open bT
  refine aY Vy ?_
  rintro d st3 ⟨rfl,k3⟩
  exact bT _ _ ⟨⟨s,hs,rfl⟩,k1.trans k3⟩
 ·intro ys st' k' hy h
  w_how
  refine hQ _ _ ⟨?_,k'.app _⟩
  congr 1
  refine List.ext_getElem? fun i=>?_
  rw [Wv,W9] at hy
  have eb:af.d3 w=w.reverse.map af.mO:=by unfold af.d3;rw [List.map_reverse]
  rw [eb,WB,WB]
  rcases Nat.lt_or_ge i ys.length with hi | hi
  ·obtain ⟨s,hs,e⟩:=h i ys[i] (Wx hi)
   rw [hs,Wx hi,e];rfl
  ·rw [List.getElem?_eq_none hi,List.getElem?_eq_none (by rw [W9];omega)];rfl
theorem Hh {st:Store} {A B:af.T4} (h:He A B):Wp (qI [eV A,eV B] st) fun d st'=>d=eV (A.mul B)/\Ex [] st st':=by
 refine eY ?_
 show Ws (GH [some (eV A),some (eV B),none,none,none,none,none,none,none,none] st) _ _ _ _
 unfold GH eV
 have a1:∀ y∈[B.a,B.b,B.c,B.d],cv A.a y=true:=h _ (by simp)
 have a2:∀ y∈[B.a,B.b,B.c,B.d],cv A.b y=true:=h _ (by simp)
 have a3:∀ y∈[B.a,B.b,B.c,B.d],cv A.c y=true:=h _ (by simp)
 have a4:∀ y∈[B.a,B.b,B.c,B.d],cv A.d y=true:=h _ (by simp)
 refine aW (sH ?_)
 kspl_open hQ
 refine hQ _ _ ?_
 clear hQ
 kspl_open hQ
 refine ⟨rfl,hQ _ _ (aW (sH ?_))⟩
 clear hQ
 kspl_open hQ
 refine hQ _ _ ?_
 clear hQ
 kspl_open hQ
 refine ⟨rfl,hQ _ _ (dz ?_)⟩
 clear hQ
 refine b9 ?_
 intro dI hQ
 set_option simprocs false in simp only [bH,FT]
 exact ⟨a1 _ (by simp),a2 _ (by simp),a1 _ (by simp),a2 _ (by simp),a3 _ (by simp),a4 _ (by simp),a3 _ (by simp),a4 _ (by simp),rfl,hQ _ _ ⟨rfl,Ex.refl⟩⟩
theorem N9 {st:Store} {w:List df} (hw:∀ s∈w,af.cw s/\s.2.natAbs<=1000000) (hl:w.length<=1000):Wp (tR [.tup (w.map bp)] st) fun d st'=>d=eV (af.ax w)/\Ex [] st st':=by
 refine eY ?_
 show Ws (GI [some (.tup (w.map bp)),none,none,none,none] st) _ _ _ _
 unfold GI
 refine aW (bO ?_)
 kspl_open hQ
 refine ⟨rfl,hQ _ _ ?_⟩
 clear hQ
 show Ws _ _ _ _ _
 refine aW (mU (w.map bp) (fun i δ st2=>∃ v1 v2 v3:Option D,δ=[some (.tup (w.map bp)),some (eV (af.ax (w.take i))),v1,v2,v3]/\Ex [] st st2) ?_ (by rw [Wv];omega) ?_ ?_)
 ·kspl_open hQ
  exact hQ _ _ ⟨rfl,none,none,none,rfl,Ex.refl⟩
 ·rintro i d δ st2 hd ⟨v1,v2,v3,rfl,k2⟩
  rw [WB] at hd
  obtain ⟨s,hs,rfl⟩:=WZ.mp hd
  obtain ⟨hil,es⟩:=Ww.mp hs
  obtain ⟨hp,hb⟩:=hw s (WG hs)
  have en:af.ax (w.take (i + 1))=(af.jQ s).mul (af.ax (w.take i)):=by rw [W6 hil,af.vE,es]
  rw [en]
  clear en
  generalize af.ax (w.take i)=T
  obtain ⟨b,k⟩:=s
  have es1:bp (b,k)=.tup [.str (if b then "s" else "t"),.int k]:=rfl
  rw [es1]
  kspl_open hQ
  refine ⟨rfl,hQ _ _ ?_⟩
  clear hQ
  show Ws _ _ _ _ _
  cases b with
  | true =>
   refine mU (aH 0 1) (fun i δ st3=>∃ v3:Option D,δ=[some (.tup (w.map bp)),some (eV (if i=0 then T else (af.jQ (true,k)).mul T)),some (.str "s"),some (.int k),v3]/\Ex [] st st3) ?_ (by rw [gu];omega) ?_ ?_
   ·kspl_open hQ
    refine ⟨rfl,.int 1,by rw [if_neg (by decide)];exact FK _ _,_,rfl,?_⟩
    exact ⟨by decide,hQ _ _ ⟨rfl,_,rfl,k2.trans (Ex.cH _)⟩⟩
   ·rintro i d δ st3 hd ⟨w3,rfl,k3⟩
    have hi0:i=0:=by have:=eU hd;rw [gu] at this;omega
    subst hi0
    kspl_open hQ
    refine hQ _ _ (bO ?_)
    clear hQ
    kspl_open hQ
    refine ⟨rfl,rfl,rfl,eV (af.jQ (true,k)),by rw [if_neg (by decide)];exact FK _ _,?_⟩
    refine aY (Hh (A:=af.jQ (true,k)) (B:=T) (Kb (uR (N6 hp hb) (by decide)))) ?_
    rintro d mY ⟨rfl,k4⟩
    exact hQ _ _ ⟨_,rfl,(k3.trans (Ex.cH _)).trans k4⟩
   ·rintro δ st3 ⟨w3,rfl,k3⟩
    exact ⟨_,_,_,rfl,k3⟩
  | false =>
   obtain ⟨j1,j3⟩:=hp.1 rfl
   simp only at j1 j3
   obtain ⟨j,rfl⟩:∃ j:Nat,k=(j:Int):=⟨k.toNat,by omega⟩
   refine mU (aH 0 j) (fun i δ st3=>∃ v3:Option D,δ=[some (.tup (w.map bp)),some (eV ((af.qp i).mul T)),some (.str "t"),some (.int (j:Int)),v3]/\Ex [] st st3) ?_ (by rw [gu];omega) ?_ ?_
   ·kspl_open hQ
    refine ⟨rfl,.int (j:Int),by rw [if_pos (by decide)];exact FL _ _ _,_,rfl,?_⟩
    refine ⟨by omega,hQ _ _ ⟨by rw [WH],v3,?_,k2.trans (Ex.cH _)⟩⟩
    rw [show (af.qp 0).mul T=T from af.T4.one_mul T]
    rfl
   ·rintro i d δ st3 hd ⟨w3,rfl,k3⟩
    kspl_open hQ
    refine hQ _ _ (bO ?_)
    clear hQ
    kspl_open hQ
    refine ⟨rfl,rfl,rfl,eV af.T4.qt,by rw [if_pos (by decide)];exact FL _ _ _,?_⟩
    refine aY (Hh (A:=af.T4.qt) (B:=(af.qp i).mul T) (Kb ⟨by decide,by decide,by decide,by decide⟩)) ?_
    rintro d' mY ⟨rfl,k4⟩
    refine hQ _ _ ⟨some d,?_,(k3.trans (Ex.cH _)).trans k4⟩
    rw [show (af.qp (i + 1)).mul T=af.T4.qt.mul ((af.qp i).mul T) from af.T4.assoc _ _ _]
    rfl
   ·rintro δ st3 ⟨w3,rfl,k3⟩
    rw [gu]
    exact ⟨_,_,_,rfl,k3⟩
 ·rintro δ st2 ⟨v1,v2,v3,rfl,k2⟩
  rw [Wv,Xq]
  refine dz ?_
  kspl_open hQ
  exact hQ _ _ ⟨rfl,k2⟩
theorem VA {st:Store} {x y:Int} (hy:y≠0) (hb:y.natAbs < P2 100):Wp (Ee [.int x,.int y] st) fun d st'=>d=.int (af.nr x y)/\Ex [] st st':=by
 have hl:(2 * y).natAbs.log2 < 9000:=by
  have h1:(2 * y).natAbs < 2 ^ 101:=by
   have e:P2 101=2 * P2 100:=uv 100
   show _ < P2 101
   omega
  have:=(Nat.log2_lt (n:=(2 * y).natAbs) (k:=101) (by omega)).mpr h1
  omega
 refine eY ?_
 show Ws (GU [some (.int x),some (.int y)] st) _ _ _ _
 unfold GU
 refine dz ?_
 refine b9 ?_
 intro dI hQ
 set_option simprocs false in simp only [bH,Ti]
 exact ⟨.inl (by decide),.inl (by decide),⟨by omega,hl⟩,hQ _ _ ⟨rfl,Ex.refl⟩⟩
theorem Kf {st:Store} {k:Int}:Wp (tT [.int k] st) fun d st'=>d=.tup ((af.qQ k).map bp)/\Ex [] st st':=by
 refine eY ?_
 show Ws (GL [some (.int k)] st) _ _ _ _
 unfold GL
 refine aW (iD ?_)
 kspl_open hQ
 refine hQ _ _ ⟨fun h=>dz ?_,fun h=>jJ (dz ?_)⟩
 ·have h:k=0:=of_decide_eq_true h
  clear hQ
  kspl_open hQ
  refine ⟨rfl,hQ _ _ ⟨?_,Ex.refl⟩⟩
  unfold af.qQ
  rw [if_pos h];rfl
 ·have h:¬ k=0:=of_decide_eq_false h
  clear hQ
  kspl_open hQ
  refine ⟨rfl,rfl,hQ _ _ ⟨?_,Ex.refl⟩⟩
  unfold af.qQ
  rw [if_neg h];rfl
theorem VB {st:Store} {T:af.T4} {x y:Int} (hT:T.le (P2 102)) (hx:x.natAbs<=P2 102) (hy:y.natAbs<=P2 102):Wp (Ea [eV T,.tup [.int x,.int y]] st) fun d st'=>d=.tup [.int (T.a * x + T.b * y),.int (T.c * x + T.d * y)]/\Ex [] st st':=by
 have ok:∀ i j:Int,i.natAbs<=P2 102->j.natAbs<=P2 102->cv i j=true:=fun i j hi hj=>by
  have e:P2 103=2 * P2 102:=uv 102
  have:=Aj 102
  exact JQ (k:=103) (by decide) (by omega) (by omega)
 obtain ⟨h1,h2,h3,h4⟩:=hT
 refine eY ?_
 show Ws (GK [some (eV T),some (.tup [.int x,.int y])] st) _ _ _ _
 unfold GK eV
 refine dz ?_
 refine b9 ?_
 intro dI hQ
 set_option simprocs false in simp only [bH,FT,at2,Nn]
 exact ⟨ok _ _ h1 hx,ok _ _ h2 hy,ok _ _ h3 hx,ok _ _ h4 hy,rfl,hQ _ _ ⟨rfl,Ex.refl⟩⟩
theorem zJ {st:Store} {Q:D->Store->Prop} {x y:Int}:Wp (aM (.tup [.int x,.int y]) (.int 0) st) Q↔Q (.int x) st:=bu
theorem Oa {st:Store} {Q:D->Store->Prop} {x y:Int}:Wp (aM (.tup [.int x,.int y]) (.int 1) st) Q↔Q (.int y) st:=bu
theorem qc {M k:Nat} (hM:M < 2 ^ k) (hk:k<=100):M < P2 100/\P2 101=2 * P2 100/\P2 102=2 * P2 101/\100 < P2 100:=⟨W5 hM (Nat.pow_le_pow_right (n:=2) (by decide) hk),uv 100,uv 101,Mc 100⟩
theorem VC {st:Store} {x y:Int} {M k:Nat} (hM:M < 2 ^ k) (hk:k<=100) (hx:x.natAbs<=M) (hy:y.natAbs<=M):Wp (Eg [.tup [.int x,.int y]] st) fun d st'=>∃ g:List df,d=.tup (g.map bp)/\(∀ s∈g,af.cw s/\s.2.natAbs<=M + 1)/\g.length<=2 * k/\(af.ax g).c * x + (af.ax g).d * y=0/\Ex [] st st':=by
 refine eY ?_
 show Ws (GV [some (.tup [.int x,.int y]),none,none,none] st) _ _ _ _
 unfold GV
 refine aW (bO ?_)
 refine b9 ?_
 intro dI hQ
 w_how
 refine ⟨rfl,?_⟩
 refine hQ _ _ (aW (bO ?_))
 clear hQ
 refine b9 ?_
 intro dI hQ
 w_how
 refine hQ _ _ (aW (yO (fun m δ s=>∃ (g:List df) (u v:Int) (r:Nat) (v3:Option D),m=k + 1 - r/\r<=k/\δ=[some (.tup [.int x,.int y]),some (.tup (g.map bp)),some (.tup [.int u,.int v]),v3]/\af.Dv M x y g u v r/\Ex [] st s) (k + 1) (by show k + 1 < 1000000;omega) ⟨[],x,y,0,none,rfl,W8 _,rfl,af.Dv.zero hx hy,Ex.refl⟩ ?_))
 clear hQ
 rintro m δ s ⟨g,u,v,r,v3,rfl,hr,rfl,dv,k1⟩
 have Wl:=dv.ub
 obtain ⟨Kg,Ob,Oc,Oe⟩:=qc hM hk
 have Wm:v.natAbs<=M:=WO (Nat.le_mul_of_pos_right _ (Nat.one_le_two_pow)) dv.vb
 refine b9 ?_
 intro dI hQ
 set_option simprocs false in simp only [bH,Oa]
 refine hQ _ _ ⟨fun hc=>?_,fun hc=>?_⟩
 ·have hv:v≠0:=by simpa using hc
  have few:=dv.few (k:=k) hv hM
  have VD:=dv.step hv
  refine aW (bO ?_)
  clear hQ
  refine b9 ?_
  intro dI hQ
  set_option simprocs false in simp only [bH,zJ,Oa]
  refine aY (VA hv (by omega)) ?_
  rintro d s1 ⟨rfl,k2⟩
  w_how
  refine aY (Kf) ?_
  rintro d s2 ⟨rfl,k3⟩
  w_how
  have hsl:=af.Cv (-(af.nr u v))
  refine ⟨rfl,rfl,jL (by rw [Wv];show _ + 1<=_;omega),?_⟩
  have e1:((af.qQ (-(af.nr u v))).map bp ++ [D.tup [D.str "t",D.int 1]])=(af.rl u v).map bp:=by
   unfold af.rl
   rw [WS];rfl
  rw [e1]
  have IX:=af.ML (x:=u) hv
  refine hQ _ _ (aW (bO ?_))
  clear hQ
  refine b9 ?_
  intro dI hQ
  w_how
  refine aY (N7 (b:=102) (w:=af.rl u v) (by decide) (fun s hs=>⟨(IX s hs).1,by have:=(IX s hs).2;omega⟩) (by have:=af.Jn u v;omega)) ?_
  rintro d s3 ⟨rfl,k4⟩
  have hnr:=af.MK (x:=u) hv
  refine aY (VB (T:=af.ax (af.rl u v)) (x:=u) (y:=v) (by rw [af.Jm];exact ⟨by show (0:Int).natAbs<=_;omega,by show (-1:Int).natAbs<=_;omega,by show (1:Int).natAbs<=_;omega,by show (-(af.nr u v)).natAbs<=_;omega⟩) (by omega) (by omega)) ?_
  rintro d s4 ⟨rfl,k5⟩
  rw [af.Jm]
  have e2:∀ q:Int,D.tup [.int ((0:Int) * u + -1 * v),.int (1 * u + -q * v)]=.tup [.int (-v),.int (u - q * v)]:=fun q=>by
   have a1:(0:Int) * u + -1 * v=-v:=by omega
   have a2:1 * u + -q * v=u - q * v:=by rw [Int.neg_mul];omega
   rw [a1,a2]
  show dI (D.tup [.int ((0:Int) * u + -1 * v),.int (1 * u + -(af.nr u v) * v)]) s4
  rw [e2]
  refine hQ _ _ (bO ?_)
  clear hQ
  refine b9 ?_
  intro dI hQ
  w_how
  have EI:=dv.ln
  have hdl:=af.Jn u v
  refine ⟨jL (by rw [Wv,Wv];omega),hQ _ _ ⟨k + 1 - (r + 1),by omega,g ++ af.rl u v,_,_,r + 1,_,rfl,by omega,by rw [WS];rfl,VD,(((k1.trans k2).trans k3).trans k4).trans k5⟩⟩
 ·have hv:v=0:=by simpa using hc
  refine dz ?_
  clear hQ
  refine b9 ?_
  intro dI hQ
  w_how
  exact hQ _ _ ⟨g,rfl,dv.pr,by have:=dv.ln;omega,by rw [<- dv.vc];exact hv,k1⟩
theorem Hi {st:Store} {Q:D->Store->Prop} {T:af.T4}:Wp (aM (eV T) (.int 0) st) Q↔Q (.int T.a) st:=bu
theorem Hj {st:Store} {Q:D->Store->Prop} {T:af.T4}:Wp (aM (eV T) (.int 1) st) Q↔Q (.int T.b) st:=bu
theorem Kh {st:Store} {Q:D->Store->Prop} {T:af.T4}:Wp (aM (eV T) (.int 2) st) Q↔Q (.int T.c) st:=bu
theorem Og {st:Store} {Q:D->Store->Prop} {T:af.T4}:Wp (aM (eV T) (.int 3) st) Q↔Q (.int T.d) st:=bu
theorem VE {st:Store} {T:af.T4} (hl:T.le (P2 100)):Wp (Ei [eV T] st) fun d st'=>d=.bl (decide (T.a * T.d - T.b * T.c=1))/\Ex [] st st':=by
 have ok:∀ i j:Int,i.natAbs<=P2 100->j.natAbs<=P2 100->cv i j=true:=fun i j hi hj=>by
  have e:P2 101=2 * P2 100:=uv 100
  have:=Aj 100
  exact JQ (k:=101) (by decide) (by omega) (by omega)
 refine eY ?_
 show Ws (GW [some (eV T)] st) _ _ _ _
 unfold GW
 refine dz ?_
 have hs:cL st (eV T)=some [.int T.a,.int T.b,.int T.c,.int T.d]:=rfl
 refine b9 ?_
 intro dI hQ
 set_option simprocs false in simp only [bH,hs,FT,Hi,Hj,Kh,Og]
 obtain ⟨h1,h2,h3,h4⟩:=hl
 rw [if_pos (show decide ((([D.int T.a,D.int T.b,D.int T.c,D.int T.d]:List D).length:Int)=4)=true from rfl)]
 exact ⟨ok _ _ h1 h4,ok _ _ h2 h3,hQ _ _ ⟨rfl,Ex.refl⟩⟩
theorem VF {st:Store} {A:af.T4}:Wp (Ek [eV A] st) fun d st'=>d=.tup ((af.oO A).map bp)/\Ex [] st st':=by
 refine eY ?_
 show Ws (GX [some (eV A)] st) _ _ _ _
 unfold GX
 refine aW (iD ?_)
 refine b9 ?_
 intro dI hQ
 set_option simprocs false in simp only [bH,Hi]
 refine hQ _ _ ⟨fun h=>dz ?_,fun h=>jJ (dz ?_)⟩
 ·have h:A.a=1:=of_decide_eq_true h
  clear hQ
  refine b9 ?_
  intro dI hQ
  set_option simprocs false in simp only [bH,Hj]
  refine aY (Kf) ?_
  rintro d s1 ⟨rfl,k1⟩
  refine hQ _ _ ⟨?_,k1⟩
  unfold af.oO
  rw [if_pos h]
 ·have h:¬ A.a=1:=of_decide_eq_false h
  clear hQ
  refine b9 ?_
  intro dI hQ
  set_option simprocs false in simp only [bH,Hj]
  refine ⟨rfl,rfl,?_⟩
  refine aY (Kf) ?_
  rintro d s1 ⟨rfl,k1⟩
  w_how
  have:=af.Cv (-A.b)
  refine ⟨jL (by rw [Wv];show 1 + _<=_;omega),hQ _ _ ⟨?_,k1⟩⟩
  unfold af.oO
  rw [if_neg h]
  rfl
theorem VG {T:af.T4} {g:List df} {M k:Nat} (hM:M < 2 ^ k) (hk:k<=100) (hl:T.le M) (hg:∀ s∈g,af.cw s/\s.2.natAbs<=M + 1) (EI:g.length<=2 * k):∀ s∈af.jz (af.oO ((af.ax g).mul T) ++ af.d3 g),s.2.natAbs + 1<=P2 20400:=by
 obtain ⟨Kg,Ob,Oc,Oe⟩:=qc hM hk
 have VH:M + 2<=P2 101:=by omega
 have hgt:=Kd (w:=g) (b:=101) (n:=200) (fun s hs=>⟨(hg s hs).1,by have:=(hg s hs).2;omega⟩) (by omega)
 have EJ:∀ x y:Int,x.natAbs<=P2 (101 * 200)->y.natAbs<=M->(x * y).natAbs<=P2 20301:=fun x y hx hy=>by
  rw [Int.natAbs_mul]
  refine WO (Nat.mul_le_mul hx (WO hy (WO (Nat.le_add_right M 2) VH))) ?_
  rw [Mb]
  exact B5 (by decide)
 have hA:((af.ax g).mul T).b.natAbs<=P2 20302:=by
  have e:((af.ax g).mul T).b=(af.ax g).a * T.b + (af.ax g).b * T.d:=rfl
  have h1:=EJ _ _ hgt.1 hl.2.1
  have h2:=EJ _ _ hgt.2.1 hl.2.2.2
  have h3:P2 20302=2 * P2 20301:=uv 20301
  rw [e]
  omega
 have Ki:P2 101<=P2 20302:=B5 (by decide)
 have h7:20302 < P2 20302:=Mc 20302
 generalize hB:P2 20302=B at hA Ki h7
 have hv:∀ s∈af.oO ((af.ax g).mul T),af.cw s/\s.2.natAbs<=B:=fun s hs=>by
  refine ⟨af.MN _ s hs,?_⟩
  unfold af.oO at hs
  split at hs
  ·rw [(af.Cu s hs).2];exact hA
  ·rcases W0.mp hs with rfl | hs
   ·show (2:Int).natAbs<=B;omega
   ·rw [(af.Cu s hs).2,Int.natAbs_neg];exact hA
 have hb:∀ s∈af.d3 g,af.cw s/\s.2.natAbs<=B:=fun s hs=>by
  refine ⟨af.ya (fun s hs=>(hg s hs).1) s hs,?_⟩
  unfold af.d3 at hs
  obtain ⟨t,ht,rfl⟩:=WR.mp (Xn.mp hs)
  obtain ⟨h1,h2⟩:=hg t ht
  obtain ⟨b,k⟩:=t
  cases b with
  | true=>show (-k).natAbs<=B;simp only at h2;omega
  | false=>have:=h1.1 rfl;simp only at this;show (4 - k).natAbs<=B;omega
 intro s hs
 have hq:=af.xY (B:=B) (w:=af.oO ((af.ax g).mul T) ++ af.d3 g) (fun s hs=>by
  rcases WX.mp hs with h | h
  ·exact hv s h
  ·exact hb s h) s hs
 have hlen:(af.oO ((af.ax g).mul T) ++ af.d3 g).length<=256:=by
  rw [Wz]
  have h1:=af.MO ((af.ax g).mul T)
  have h2:(af.d3 g).length=g.length:=by unfold af.d3;rw [W9,Wv]
  omega
 have h3:s.2.natAbs<=256 * B:=WO hq (Nat.mul_le_mul_right _ hlen)
 have h4:P2 20310=256 * B:=by
  have:=Mb 8 20302
  rw [hB] at this
  rw [show (20310:Nat)=8 + 20302 from rfl,<- this]
  rfl
 have h5:P2 20311=2 * P2 20310:=uv 20310
 have h6:P2 20311<=P2 20400:=B5 (by decide)
 omega
theorem VI {st:Store} {T:af.T4} {M k:Nat} (hM:M < 2 ^ k) (hk:k<=100) (hl:T.le M) (hd:T.a * T.d - T.b * T.c=1):Wp (Er [eV T] st) fun d st'=>∃ w:List df,d=.tup (w.map bp)/\(∀ s∈w,af.cw s/\s.2.natAbs + 1<=P2 20400)/\w.length<=2 * k + 2/\af.ax w=T/\Ex [] st st':=by
 refine eY ?_
 show Ws (G0 [some (eV T),none] st) _ _ _ _
 unfold G0
 refine aW (iD ?_)
 kspl_open hQ
 obtain ⟨Kg,Ob,Oc,Oe⟩:=qc hM hk
 refine aY (VE (uR hl (by omega))) ?_
 rintro d s1 ⟨rfl,k1⟩
 refine ⟨_,rfl,?_⟩
 refine hQ _ _ ⟨fun h=>absurd h (by simp [hd]),fun _=>jJ (aW (bO ?_))⟩
 clear hQ
 refine b9 ?_
 intro dI hQ
 set_option simprocs false in simp only [bH,Hi,Kh]
 refine ⟨rfl,?_⟩
 refine aY (VC hM hk hl.1 hl.2.2.1) ?_
 rintro d s2 ⟨g,rfl,hg,EI,h0,k2⟩
 refine hQ _ _ (dz ?_)
 clear hQ
 kspl_open hQ
 have VJ:∀ s∈g,af.cw s:=fun s hs=>(hg s hs).1
 have Oh:∀ s∈g,af.cw s/\s.2.natAbs + 1<=P2 101:=fun s hs=>⟨(hg s hs).1,by have:=(hg s hs).2;omega⟩
 refine aY (N7 (b:=101) (w:=g) (by decide) Oh (by omega)) ?_
 rintro d s3 ⟨rfl,k3⟩
 have hgt:=Kd (n:=200) Oh (by omega)
 refine aY (Kc (Hf (k:=101 * 200 + 1) (M:=P2 (101 * 200)) (by decide) (by have:=Aj (101 * 200);have:=uv (101 * 200);omega) hgt (uR hl (WO (Nat.le_of_lt Kg) (B5 (by decide)))))) ?_
 rintro d s4 ⟨rfl,k4⟩
 refine aY (VF) ?_
 rintro d s5 ⟨rfl,k5⟩
 refine aY (Vz (w:=g) (by omega)) ?_
 rintro d s6 ⟨rfl,k6⟩
 have ny:=af.MO ((af.ax g).mul T)
 have tV:(af.d3 g).length=g.length:=by unfold af.d3;rw [W9,Wv]
 refine aY (N8 (v:=af.oO ((af.ax g).mul T)) (w:=af.d3 g) (by omega)) ?_
 rintro d s7 ⟨rfl,k7⟩
 obtain ⟨e1,e2⟩:=af.Rv hd VJ h0
 refine hQ _ _ ⟨_,rfl,fun s hs=>⟨e2 s hs,VG hM hk hl hg EI s (Xn.mp hs)⟩,?_,e1,(((((k1.trans k2).trans k3).trans k4).trans k5).trans k6).trans k7⟩
 rw [W9]
 have:=af.Fq (af.oO ((af.ax g).mul T) ++ af.d3 g)
 rw [Wz] at this
 omega
theorem VL {st:Store} {xs ys:List Int} {n:Nat} {s:Int} (fl:nL n xs ys) (hn:n<=100) (s0:0<=s) (s1:s < (n:Int)):Wp (DA [bX xs ys,.int s] st) fun d st'=>d=.tup ((af.inv (af.bf xs ys s n)).map D.int)/\Ex [] st st':=by
 obtain ⟨tx,ty,all⟩:=fl
 refine eY ?_
 show Ws (Ga [some (bX xs ys),some (.int s)] st) _ _ _ _
 unfold Ga
 refine dz ?_
 kspl_open hQ
 refine aY (U7 tx ty hn s0 s1) ?_
 rintro d st1 ⟨rfl,k1⟩
 refine aY (J1 (af.Fn tx ty s0 s1 all) hn) ?_
 rintro d st2 ⟨rfl,k2⟩
 exact hQ _ _ ⟨rfl,k1.trans k2⟩
def zK (xs ys:List Int) (s:Int) (n:Nat):D:=bX (af.num xs (af.bf xs ys s n)) (af.num ys (af.bf xs ys s n))
theorem VM {st:Store} {xs ys:List Int} {n:Nat} {s:Int} (fl:nL n xs ys) (hn:n<=100) (s0:0<=s) (s1:s < (n:Int)):Wp (DC [bX xs ys,.int s] st) fun d st'=>d=zK xs ys s n/\Ex [] st st':=by
 have Kj:=fl
 obtain ⟨tx,ty,all⟩:=fl
 have tb:=af.Fn tx ty s0 s1 all
 refine eY ?_
 show Ws (Gb [some (bX xs ys),some (.int s)] st) _ _ _ _
 unfold Gb
 refine dz ?_
 kspl_open hQ
 refine aY (VL Kj hn s0 s1) ?_
 rintro d st1 ⟨rfl,k1⟩
 refine aY (U6 tx ty tb.aG hn) ?_
 rintro d st2 ⟨rfl,k2⟩
 rw [af.Fp tx tb,af.Fp ty tb]
 exact hQ _ _ ⟨rfl,k1.trans k2⟩
theorem VN {st:Store} {xs ys:List Int} {n:Nat} {s:Int} (fl:nL n xs ys) (hn:n<=100) (s0:0<=s) (s1:s < (n:Int)):Wp (D0 [bX xs ys,.int s] st) fun d st'=>d=zK xs ys s n/\Ex [] st st':=by
 obtain ⟨tx,ty,all⟩:=fl
 have hlx:=tx.length
 have A1:=ty.length
 refine eY ?_
 show Ws (Gw [some (bX xs ys),some (.int s),none,none,none] st) _ _ _ _
 unfold Gw
 refine aW (bO ?_)
 kspl_open hQ
 refine ⟨rfl,hQ _ _ (aW (M9 ((af.upto n).map D.int) (st.length + 2) (fun k δ st2=>∃ (v3 v4:Option D),δ=[some (bX xs ys),some (.int s),some (.ref st.length),v3,v4]/\st2[st.length]?=some (.lst ((af.bf xs ys s k).map D.int))/\st2[st.length + 2]?=some (.lst ((af.upto n).map D.int))/\Ex [] st st2) ?_ ?_ ?_ ?_ ?_))⟩
 ·clear hQ
  unfold bX
  kspl_open hQ
  rw [Wv,hlx,show ((n:Int) - 0).toNat=n by omega,qW]
  have e:(st ++ [O.lst [D.int s]] ++ [O.jH 0 (n:Int)]).length=st.length + 2:=by simp
  rw [e]
  exact ⟨uK (by omega),hQ _ _ ⟨rfl,none,none,rfl,kX (kX jK),by rw [<- e];exact jK,((Ex.cH _).app _).app _⟩⟩
 ·rw [Wv,af.pk];omega
 ·rintro k δ st2 ⟨_,_,_,_,h,_⟩
  exact bQ h
 ·rintro k d δ st2 hd ⟨v3,v4,rfl,hl,hr,k2⟩
  obtain ⟨x',hx',rfl⟩:=Dd hd
  have hkn:=eU hx'
  rw [af.pk] at hkn
  rw [af.B7 hkn] at hx'
  cases hx'
  have tV:=af.Ca tx ty s0 s1 k
  have hb1:=af.Ca tx ty s0 s1 (k + 1)
  clear hQ
  kspl_open hQ
  refine hQ _ _ ?_
  clear hQ
  by_cases oJ:k < (af.bf xs ys s k).length
  ·obtain ⟨x,hx⟩:∃ x,(af.bf xs ys s k)[k]?=some x:=⟨_,Wx oJ⟩
   obtain ⟨x0,x1⟩:=af.qP tx ty s0 s1 k x (WG hx)
   have e1:af.bf xs ys s (k + 1)=af.visit xs ys (af.bf xs ys s k) x:=by
    show (match (af.bf xs ys s k)[k]? with | some x=>af.visit xs ys (af.bf xs ys s k) x | none=>af.bf xs ys s k)=_
    rw [hx]
   rw [e1] at hb1 ⊢
   have hp1:=(af.vD (af.cK (af.bf xs ys s k) (af.app xs x)) (af.app ys x)).length_le
   have hp0:=(af.vD (af.bf xs ys s k) (af.app xs x)).length_le
   change _<=(af.visit xs ys (af.bf xs ys s k) x).length at hp1
   refine mU [.tup (xs.map D.int),.tup (ys.map D.int)] (fun m δ st3=>∃ (v4:Option D) (G:List Int),δ=[some (bX xs ys),some (.int s),some (.ref st.length),some (.int (k:Int)),v4]/\st3[st.length]?=some (.lst (G.map D.int))/\st3[st.length + 2]?=some (.lst ((af.upto n).map D.int))/\(m=0->G=af.bf xs ys s k)/\(m=1->G=af.cK (af.bf xs ys s k) (af.app xs x))/\(m=2->G=af.visit xs ys (af.bf xs ys s k) x)/\Ex [] st st3) ?_ (by simp) ?_ ?_
   ·unfold bX
    kspl_open hQ
    exact hQ _ _ ⟨rfl,v4,_,rfl,hl,hr,fun _=>rfl,fun z=>by omega,fun z=>by omega,k2⟩
   ·rintro m z δ st3 hm ⟨v4,G,rfl,hl3,pJ,g0,g1,_,k3⟩
    have hm2:m < 2:=eU hm
    obtain ⟨zs,rfl,tz,em⟩:∃ (zs:List Int),z=.tup (zs.map D.int)/\af.Tn n zs/\((m=0/\zs=xs)\/(m=1/\zs=ys)):=by
     rcases (show m=0\/m=1 by omega) with rfl | rfl
     ·exact ⟨xs,by simpa using hm.symm,tx,.inl ⟨rfl,rfl⟩⟩
     ·exact ⟨ys,by simpa using hm.symm,ty,.inr ⟨rfl,rfl⟩⟩
    have hG:G.length<=100/\G[k]?=some x/\k < G.length:=by
     rcases em with ⟨rfl,_⟩ | ⟨rfl,_⟩
     ·rw [g0 rfl];exact ⟨by omega,hx,oJ⟩
     ·rw [g1 rfl]
      refine ⟨by omega,?_,by omega⟩
      obtain ⟨t,e⟩:=af.vD (af.bf xs ys s k) (af.app xs x)
      rw [<- e,WI oJ];exact hx
    have ED:∀ G',G'=af.cK G (af.app zs x)->(m + 1=0->G'=af.bf xs ys s k)/\(m + 1=1->G'=af.cK (af.bf xs ys s k) (af.app xs x))/\(m + 1=2->G'=af.visit xs ys (af.bf xs ys s k) x):=fun G' e=>by
     rcases em with ⟨rfl,rfl⟩ | ⟨rfl,rfl⟩
     ·exact ⟨fun z=>by omega,fun _=>by rw [e,g0 rfl],fun z=>by omega⟩
     ·exact ⟨fun z=>by omega,fun z=>by omega,fun _=>by rw [e,g1 rfl];rfl⟩
    have hat:eE (G.map D.int) (k:Int)=some (.int x):=zZ (by rw [WB,hG.2.1];rfl)
    have hdt:decide ((k:Int) < ((G.map D.int).length:Int))=true:=decide_eq_true (by rw [Wv];omega)
    kspl_open hQ
    refine hQ _ _ (iD ?_)
    clear hQ
    refine b9 ?_
    intro dI hQ
    set_option simprocs false in simp only [bH,bQ hl3,hdt,hat,qX (xs:=zs) x0 (by rw [tz.length];exact x1),FO (st:=st3) (c:=.ref st.length) (ns:=G) (bQ hl3)]
    refine hQ _ _ ⟨fun hc=>pW ?_,fun hc=>jJ ?_⟩
    ·obtain ⟨n0,n1,n2⟩:=ED (G ++ [af.app zs x]) (NW hc).symm
     refine b9 ?_
     intro gy bT
     set_option simprocs false in simp only [bH,bQ hl3,hat,qX (xs:=zs) x0 (by rw [tz.length];exact x1),lJ hl3]
     refine ⟨n4 (by rw [bQ hl3];rfl),jL (by rw [Wv];omega),bT _ _ ⟨_,G ++ [af.app zs x],rfl,?_,?_,n0,n1,n2,k3.loc (Wy _)⟩⟩
     ·rw [WC (eU hl3),WS];rfl
     ·rw [WE (by omega)];exact pJ
    ·obtain ⟨n0,n1,n2⟩:=ED G (NX hc).symm
     exact ⟨_,G,rfl,hl3,pJ,n0,n1,n2,k3⟩
   ·rintro δ st3 ⟨v4,G,rfl,hl3,pJ,_,_,g2,k3⟩
    have g2:=g2 rfl
    subst g2
    exact ⟨_,_,rfl,hl3,pJ,k3⟩
  ·have e1:af.bf xs ys s (k + 1)=af.bf xs ys s k:=af.Fm (k:=k) (by omega) 1
   rw [e1]
   have hdf:decide ((k:Int) < (((af.bf xs ys s k).map D.int).length:Int))=false:=decide_eq_false (by rw [Wv];omega)
   refine mU [.tup (xs.map D.int),.tup (ys.map D.int)] (fun m δ st3=>∃ (v4:Option D),δ=[some (bX xs ys),some (.int s),some (.ref st.length),some (.int (k:Int)),v4]/\st3=st2) ?_ (by simp) ?_ ?_
   ·unfold bX
    kspl_open hQ
    exact hQ _ _ ⟨rfl,v4,rfl,rfl⟩
   ·rintro m z δ st3 hm ⟨v4,rfl,rfl⟩
    kspl_open hQ
    refine hQ _ _ (iD ?_)
    clear hQ
    refine b9 ?_
    intro dI hQ
    set_option simprocs false in simp only [bH,bQ hl,hdf]
    exact hQ _ _ ⟨fun h=>absurd h (by decide),fun _=>jJ ⟨_,rfl,rfl⟩⟩
   ·rintro δ st3 ⟨v4,rfl,rfl⟩
    exact ⟨_,_,rfl,hl,hr,k2⟩
 ·rintro δ st2 ⟨v3,v4,rfl,hl,hr,k2⟩
  rw [Wv,af.pk] at hl
  have tb:=af.Fn tx ty s0 s1 all
  have hlb:=tb.length
  generalize EK:af.bf xs ys s n=sq at hl tb hlb ⊢
  clear hQ
  unfold bX
  refine dz ?_
  kspl_open hQ
  refine sO [.tup (xs.map D.int),.tup (ys.map D.int)] (fun d=>match d with | .tup ds=>.tup ((af.num (ds.map inD) sq).map D.int) | _=>.non) ?_ (by simp) ?_ ?_
  ·kspl_open bT
   exact bT _ _ ⟨sN _ _,Ex.refl⟩
  ·intro d hd st3 k3
   obtain ⟨zs,rfl,tz⟩:∃ zs:List Int,d=.tup (zs.map D.int)/\af.Tn n zs:=by
    rcases W0.mp hd with rfl | hd
    ·exact ⟨xs,rfl,tx⟩
    ·exact ⟨ys,WQ.mp hd,ty⟩
   have hl3:=k3.keep _ _ hl (by simp)
   refine b9 ?_
   intro gy bT
   set_option simprocs false in simp only [bH,WY,Xg,Xe,Xf]
   refine sO (sq.map D.int) (fun d=>.int (sq.idxOf (af.app zs (inD d)):Int)) ?_ (by rw [Wv];omega) ?_ ?_
   ·kspl_open sX
    exact ⟨_,bQ hl3,sX _ _ ⟨SW (bQ hl3),Ex.refl⟩⟩
   ·intro d hd mY k4
    obtain ⟨x,hx,rfl⟩:=wk hd
    obtain ⟨x0,x1⟩:=tb.bound hx
    obtain ⟨a0,a1⟩:=tz.app x0 x1
    have rB:=k4.keep _ _ hl3 (by simp)
    refine b9 ?_
    intro EA sX
    set_option simprocs false in simp only [bH,WY,Xg,Xe,Xf,qX (xs:=zs) x0 (by rw [tz.length];exact x1),Sy (bQ rB) (tb.mem a0 a1) (by omega) (fun i hi=>by have:=tb.bound hi;omega)]
    exact ⟨n4 (by rw [bQ rB];rfl),sX _ _ ⟨rfl,Ex.refl⟩⟩
   ·intro mY k4
    rw [Az (f:=fun x=>(sq.idxOf (af.app zs x):Int)) fun x hx=>rfl]
    w_how
    refine bT _ _ ⟨?_,k4.app _⟩
    show D.tup _=D.tup ((af.num ((zs.map D.int).map inD) sq).map D.int)
    rw [Nk]
    rfl
  ·intro st3 k3
   w_how
   refine hQ _ _ ⟨?_,(k2.trans k3).app _⟩
   simp only [WY,Xg,Nk]
   unfold zK
   rw [EK]
   rfl
theorem Kk {n:Nat} {xs ys:List Int} (fl:nL n xs ys):af.Wh n (xs,ys):=⟨⟨fl.1,fl.2.1⟩,fl.2.2⟩
theorem wL {n:Nat} {p:af.a9} (w:af.Wh n p):nL n p.1 p.2:=⟨w.v.1,w.v.2,w.all⟩
theorem Oi (p:af.a9) (n:Nat):(aH 0 n).map (fun d=>bX (af.rj p n (inD d)).1 (af.rj p n (inD d)).2)=((af.upto n).map (af.rj p n)).map fun q=>bX q.1 q.2:=by
 rw [qW,W4,W4]
 rfl
theorem Hk {st:Store} {xs ys:List Int} {n:Nat} (fl:nL n xs ys) (n0:0 < n) (hn:n<=20):Wp (qH [bX xs ys] st) fun d st'=>d=bX (af.bL n (xs,ys)).1 (af.bL n (xs,ys)).2/\Ex [] st st':=by
 have hlx:=fl.1.length
 refine eY ?_
 show Ws (Gd [some (bX xs ys)] st) _ _ _ _
 unfold Gd
 refine dz ?_
 kspl_open hQ
 refine sO (aH 0 n) (fun d=>bX (af.rj (xs,ys) n (inD d)).1 (af.rj (xs,ys) n (inD d)).2) ?_ (by rw [gu];omega) ?_ ?_
 ·unfold bX
  kspl_open bT
  rw [Wv,hlx]
  exact ⟨by omega,bT _ _ ⟨by rw [WH];exact sN _ _,Ex.refl⟩⟩
 ·intro d hd st2 k2
  rw [qW] at hd
  obtain ⟨x,hx,rfl⟩:=wk hd
  obtain ⟨x0,x1⟩:=af.nh.mp hx
  refine b9 ?_
  intro gy bT
  set_option simprocs false in simp only [bH,WY,Xg,Xe,Xf]
  refine aY (VM fl (by omega) x0 x1) ?_
  rintro d st3 ⟨rfl,k3⟩
  exact bT _ _ ⟨rfl,k3⟩
 ·intro st' k'
  rw [Oi,Nw (lJ jK) (by rw [Wv,af.pk];exact n0)]
  exact hQ _ _ ⟨rfl,k'.app _⟩
theorem Kl {st:Store} {xs ys:List Int} {n:Nat} (fl:nL n xs ys) (n0:0 < n) (hn:n<=20):Wp (rA [bX xs ys] st) fun d st'=>d=bX (af.bL n (xs,ys)).1 (af.bL n (xs,ys)).2/\Ex [] st st':=by
 have hlx:=fl.1.length
 refine eY ?_
 show Ws (Gy [some (bX xs ys)] st) _ _ _ _
 unfold Gy
 refine dz ?_
 kspl_open hQ
 refine sO (aH 0 n) (fun d=>bX (af.rj (xs,ys) n (inD d)).1 (af.rj (xs,ys) n (inD d)).2) ?_ (by rw [gu];omega) ?_ ?_
 ·unfold bX
  kspl_open bT
  rw [Wv,hlx]
  exact ⟨by omega,bT _ _ ⟨by rw [WH];exact sN _ _,Ex.refl⟩⟩
 ·intro d hd st2 k2
  rw [qW] at hd
  obtain ⟨x,hx,rfl⟩:=wk hd
  obtain ⟨x0,x1⟩:=af.nh.mp hx
  refine b9 ?_
  intro gy bT
  set_option simprocs false in simp only [bH,WY,Xg,Xe,Xf]
  refine aY (VN fl (by omega) x0 x1) ?_
  rintro d st3 ⟨rfl,k3⟩
  exact bT _ _ ⟨rfl,k3⟩
 ·intro st' k'
  rw [Oi,Nw (lJ jK) (by rw [Wv,af.pk];exact n0)]
  exact hQ _ _ ⟨rfl,k'.app _⟩
theorem B6 {n:Nat} {f:Int->Int} {x:Int} (x0:0<=x) (x1:x < (n:Int)):af.app ((af.upto n).map f) x=f x:=by
 unfold af.app
 rw [WN,WB,af.B7 (by omega)]
 show f ((x.toNat:Nat):Int)=f x
 rw [W3 x0]
theorem Oj {g:Int} {s:df} (h:A2 g s):af.cw s:=⟨h.1,h.2.2⟩
theorem Ol {w:List df} (h:∀ s∈w,af.cw s):∀ s∈w,EH s:=fun s hs=>(h s hs).1
theorem Om:∀ (w:List df) (p:List Int×List Int),lx p w=af.gA p w:=by
 have hq:∀ (p:List Int×List Int) (j:Nat),n5 p.1 p.2 j=af.ot j p:=fun p j=>by
  induction j with
  | zero=>rfl
  | succ j ih=>show (af.inv (n5 p.1 p.2 j).2,(n5 p.1 p.2 j).1)=af.Qt (af.ot j p);rw [ih];rfl
 have hs:∀ (p:List Int×List Int) (s:df),g8 p s=af.stM p s:=fun p s=>by
  unfold g8 af.stM
  rw [hq]
  rfl
 intro w
 induction w with
 | nil=>intro p;rfl
 | cons s w ih =>
  intro p
  show lx (g8 p s) w=af.gA (af.stM p s) w
  rw [hs,ih]
open Classical in
theorem VO {st:Store} {Q:D->Store->Prop} {neg:Bool} {n a b:Nat} {ds es:List D} (ha:items st a=some ds) (hb:items st b=some es) (h1:∀ d∈ds,pU n d) (h2:∀ d∈es,pU n d) (hn:n<=14):Wp (iH neg (.ref a) (.ref b) st) Q↔Q (.bl (if neg then !decide (ds=es) else decide (ds=es))) st:=by
 have p1:∀ (i:Nat) (l:List D),items st i=some l->(∀ d∈l,pU n d)->fS st 20 (.ref i)=some (.list (l.map (jG n))):=fun i l h hl=>by
  simp only [fS,h]
  rw [Dh (g:=jG n) fun x hx=>AA n x (hl x hx) 19 (by omega) st]
  rfl
 have e:PyData.eqv (.list (ds.map (jG n))) (.list (es.map (jG n)))=decide (ds=es):=by
  rw [JG]
  have:=JN (Di n) ds es h1 h2
  cases h:PyData.eqvAll (ds.map (jG n)) (es.map (jG n)) with
  | true=>exact (decide_eq_true (this.mp h)).symm
  | false=>exact (decide_eq_false fun z=>by rw [this.mpr z] at h;cases h).symm
 have ly:∀ l:List D,(∀ d∈l,pU n d)->PyData.canLay0 (.list (l.map (jG n)))=true/\PyData.depth (.list (l.map (jG n)))<=n + 1:=fun l hl=>by
  refine ⟨?_,?_⟩
  ·show PyData.canLayAll0 (l.map (jG n))=true
   exact JL fun x hx=>by
    obtain ⟨d,hd,rfl⟩:=WR.mp hx
    exact (wo n d (hl d hd)).1
  ·show PyData.depthAll (l.map (jG n)) + 1<=n + 1
   have:=JM (n:=n) (l:=l.map (jG n)) fun x hx=>by
    obtain ⟨d,hd,rfl⟩:=WR.mp hx
    exact (wo n d (hl d hd)).2
   omega
 rw [JA]
 constructor
 ·rintro ⟨p,q,e1,e2,_,h⟩
  rw [p1 a ds ha h1] at e1
  rw [p1 b es hb h2] at e2
  cases e1
  cases e2
  rw [e] at h
  exact h
 ·intro h
  refine ⟨_,_,p1 a ds ha h1,p1 b es hb h2,⟨(ly ds h1).1,(ly es h2).1,?_⟩,?_⟩
  ·have:=(ly ds h1).2
   omega
  ·rw [e];exact h
theorem Oo {R:List df} {b:Bool} {k:Int} (pa:af.cw (b,k)) (h:∀ (t:df) (r:List df),R=t :: r->t.1≠b):af.bP R (b,k)=(if (if b=true then k else k % 4)=0 then R else (b,if b=true then k else k % 4) :: R):=by
 have e:(if b=true then k else k % 4)=k:=by
  cases b with
  | true=>rfl
  | false =>
   have:=pa.1 rfl
   simp only at this
   rw [if_neg WD];omega
 rw [e,if_neg pa.2]
 exact af.IV fun t ht=>by
  cases R with
  | nil=>cases ht
  | cons x r=>cases ht;exact fun z=>h _ _ rfl z.symm
theorem Km {st s2:Store} {w0:D} {b:Bool} {k':Int} {R' X:List df} {N B C:av->Store->Prop} {R:D->Store->Prop} (h2:s2[st.length]?=some (.lst (R'.reverse.map bp))) (k2:Ex [] st s2) (hl:R'.length<=1000) (ep:X=(if (if b=true then k' else k' % 4)=0 then R' else (b,if b=true then k' else k' % 4) :: R'))
  (hN:∀ (v3:Option D) (s:Store),s[st.length]?=some (.lst (X.reverse.map bp))->Ex [] st s->N [some w0,some (.ref st.length),some (.str (if b then "s" else "t")),v3] s) :
  Ws (az (eP (aJ (ay (jE false) (ag 2) (fC (.str "t")))) (aI (ay jR (ag 3) (fC (.int 4))) (hName 3)) aU) (eP (aJ (ay (jE true) (ag 3) (fC (.int 0)))) (cy (kh "list" a5 (ag 1) (ae (bq (ae (ag 2) (ae (ag 3) ah))) ah))) aU) [some w0,some (.ref st.length),some (.str (if b then "s" else "t")),some (.int k')] s2) N B C R:=by
 have fin:∀ kk:Int,kk=(if b=true then k' else k' % 4)->Ws (eP (aJ (ay (jE true) (ag 3) (fC (.int 0)))) (cy (kh "list" a5 (ag 1) (ae (bq (ae (ag 2) (ae (ag 3) ah))) ah))) aU [some w0,some (.ref st.length),some (.str (if b then "s" else "t")),some (.int kk)] s2) N B C R:=fun kk hk=>by
  rw [<- hk] at ep
  refine iD ?_
  kspl_open hQ
  by_cases z:kk=0
  ·refine hQ _ _ ⟨fun y=>absurd z (by simpa using y),fun _=>jJ (hN _ _ ?_ k2)⟩
   rw [ep,if_pos z];exact h2
  ·refine hQ _ _ ⟨fun _=>pW ?_,fun y=>absurd y (by simp [z])⟩
   clear hQ
   refine b9 ?_
   intro dI hQ
   set_option simprocs false in simp only [bH,lJ h2]
   refine ⟨n4 (by rw [bQ h2];rfl),rfl,jL (by rw [Wv,W9];omega),hQ _ _ (hN _ _ ?_ (k2.loc (Wy _)))⟩
   rw [WC (eU h2),ep,if_neg z,List.reverse_cons,WS]
   rfl
 refine aW (iD ?_)
 cases b with
 | true =>
  kspl_open hQ
  exact hQ _ _ ⟨fun z=>absurd z (by decide),fun _=>jJ (fin k' rfl)⟩
 | false =>
  kspl_open hQ
  refine hQ _ _ ⟨fun _=>bO ?_,fun z=>absurd z (by decide)⟩
  clear hQ
  kspl_open hQ
  exact ⟨by decide,hQ _ _ (fin (k' % 4) rfl)⟩
theorem VP {st:Store} {w:List df} (hw:∀ s∈w,af.cw s) (hl:w.length<=1000):Wp (AQ [.tup (w.map bp)] st) fun d st'=>d=.tup ((af.jz w).reverse.map bp)/\Ex [] st st':=by
 refine eY ?_
 show Ws (GB [some (.tup (w.map bp)),none,none,none] st) _ _ _ _
 unfold GB
 refine aW (bO ?_)
 kspl_open hQ
 refine ⟨rfl,hQ _ _ ?_⟩
 clear hQ
 show Ws _ _ _ _ _
 refine aW (mU (w.map bp) (fun i δ s=>∃ v2 v3:Option D,δ=[some (.tup (w.map bp)),some (.ref st.length),v2,v3]/\s[st.length]?=some (.lst ((af.jz (w.take i)).reverse.map bp))/\Ex [] st s) ?_ (by rw [Wv];omega) ?_ ?_)
 ·kspl_open hQ
  exact hQ _ _ ⟨rfl,none,none,rfl,jK,Ex.cH _⟩
 ·rintro i d δ s hd ⟨v2,v3,rfl,hs,kx⟩
  rw [WB] at hd
  obtain ⟨a,ha,rfl⟩:=WZ.mp hd
  obtain ⟨hi,ea⟩:=Ww.mp ha
  have pa:=hw a (WG ha)
  have et:af.jz (w.take (i + 1))=af.bP (af.jz (w.take i)) a:=by
   rw [W6 hi,af.IW,ea];rfl
  have hlen:=af.Fq (w.take i)
  rw [List.length_take] at hlen
  have pl:af.Pl (af.jz (w.take i)):=af.Ms fun s hs=>hw s (List.mem_of_mem_take hs)
  rw [et]
  generalize af.jz (w.take i)=R at hs hlen pl ⊢
  obtain ⟨b,k⟩:=a
  have es1:bp (b,k)=.tup [.str (if b then "s" else "t"),.int k]:=rfl
  rw [es1]
  kspl_open hQ
  refine ⟨rfl,hQ _ _ (aW (iD ?_))⟩
  clear hQ
  refine b9 ?_
  intro dI hQ
  set_option simprocs false in simp only [bH,bQ hs]
  refine ⟨rfl,?_⟩
  have VQ:∀ d∈R.reverse.map bp,pU 1 d:=fun d hd=>by
   obtain ⟨x,_,rfl⟩:=WR.mp hd
   exact Dj 0 x
  rw [VO (n:=1) (ds:=R.reverse.map bp) (es:=[]) (bQ (kX hs)) uJ VQ (fun d hd=>nomatch hd) (by decide)]
  have hs1:=kX (m:=[O.lst []]) hs
  have Hl:Ex [] st (s ++ [O.lst []]):=kx.app _
  generalize s ++ [O.lst []]=s1 at hs1 Hl ⊢
  have EL:∀ (t:df) (r:List df),R=t :: r->R.reverse.map bp=r.reverse.map bp ++ [bp t]:=fun t r e=>by rw [e,List.reverse_cons,WS];rfl
  cases R with
  | nil =>
   refine ⟨false,by simp,?_⟩
   rw [if_neg (by decide)]
   refine hQ _ _ ⟨fun z=>absurd z (by decide),fun _=>jJ ?_⟩
   refine Km (X:=af.bP [] (b,k)) hs1 Hl (by simp) ?_ fun v3 s h1 h2=>⟨_,_,rfl,h1,h2⟩
   exact Oo (R:=[]) pa (by simp)
  | cons t r =>
   have e1:=EL t r rfl
   refine ⟨true,by simp,?_⟩
   rw [if_pos rfl,bQ hs1,e1]
   refine ⟨_,rfl,bp t,Ke,?_⟩
   obtain ⟨bt,kt⟩:=t
   have Hg:bp (bt,kt)=.tup [.str (if bt then "s" else "t"),.int kt]:=rfl
   rw [Hg]
   w_how
   have eD:decide ((if bt=true then ("s" : Str) else "t")=if b=true then ("s" : Str) else "t")=decide (bt=b):=by cases bt <;> cases b <;> decide
   rw [eD]
   by_cases hb:bt=b
   ·subst hb
    refine hQ _ _ ⟨fun _=>bO ?_,fun z=>absurd z (by simp)⟩
    clear hQ
    rw [e1] at hs1
    refine b9 ?_
    intro dI hQ
    set_option simprocs false in simp only [bH,zm]
    refine ⟨n4 (by rw [bQ hs1];rfl),?_⟩
    rw [zp (lJ hs1),Hg]
    w_how
    refine hQ _ _ ?_
    have hs2:(s1.set st.length (.lst (r.reverse.map bp)))[st.length]?=some (.lst (r.reverse.map bp)):=WC (eU hs1)
    refine Km (X:=af.bP ((bt,kt) :: r) (bt,k)) hs2 (Hl.loc (Wy _)) (by rw [W2] at hlen;omega) ?_ fun v3 s h1 h2=>⟨_,_,rfl,h1,h2⟩
    rw [af.tK,if_pos rfl]
    unfold af.cx af.iB
    cases bt <;> simp <;> split <;> rfl
   ·refine hQ _ _ ⟨fun z=>absurd (of_decide_eq_true z) hb,fun _=>jJ ?_⟩
    refine Km (X:=af.bP ((bt,kt) :: r) (b,k)) hs1 Hl (by omega) ?_ fun v3 s h1 h2=>⟨_,_,rfl,h1,h2⟩
    exact Oo (R:=(bt,kt) :: r) pa (fun t r e=>by cases e;exact hb)
 ·rintro δ s ⟨v2,v3,rfl,hs,kx⟩
  rw [Wv,Xq] at hs
  refine dz ?_
  refine b9 ?_
  intro dI hQ
  set_option simprocs false in simp only [bH,bQ hs]
  exact hQ _ _ ⟨rfl,kx⟩
theorem VR {st:Store} {xs ys:List Int} {n:Nat} {w:List df} (fl:nL n xs ys) (n0:0 < n) (hn:n<=20) {M k:Nat} (hM:M < 2 ^ k) (hk:k<=100) (hw:∀ s∈w,af.cw s) (hl:(af.ax w).le M):Wp (Et [bX xs ys,eV (af.ax w)] st) fun d st'=>d=bX (af.bL n (af.gA (xs,ys) w)).1 (af.bL n (af.gA (xs,ys) w)).2/\Ex [] st st':=by
 have wh:=Kk fl
 refine eY ?_
 show Ws (G1 [some (bX xs ys),some (eV (af.ax w))] st) _ _ _ _
 unfold G1
 refine dz ?_
 kspl_open hQ
 refine aY (VI hM hk hl (af.Fz hw)) ?_
 rintro d st1 ⟨u,rfl,VS,Wn,eu,k1⟩
 have hu:∀ s∈u,af.cw s:=fun s hs=>(VS s hs).1
 refine aY (N5 (p:=(xs,ys)) ⟨fl.1,fl.2.1⟩ (by omega) (Ol hu) (by omega)) ?_
 rintro d st2 ⟨rfl,k2⟩
 rw [Om]
 have wu:=wh.ld n0 (w:=u)
 refine aY (Hk (xs:=(af.gA (xs,ys) u).1) (ys:=(af.gA (xs,ys) u).2) (wL wu) n0 hn) ?_
 rintro d st3 ⟨rfl,k3⟩
 refine hQ _ _ ⟨?_,(k1.trans k2).trans k3⟩
 have e:af.bL n (af.gA (xs,ys) u)=af.bL n (af.gA (xs,ys) w):=af.vK n0 wu.v (af.FA hu hw eu wh.v)
 show bX (af.bL n (af.gA (xs,ys) u)).1 (af.bL n (af.gA (xs,ys) u)).2=_
 rw [e]
theorem Oq (p:List Int×List Int) (s:df):g8 p s=af.stM p s:=by
 have hq:∀ j,n5 p.1 p.2 j=af.ot j p:=fun j=>by
  induction j with
  | zero=>rfl
  | succ j ih=>show _=_;unfold n5 af.ot;rw [ih];rfl
 unfold g8 af.stM
 split
 ·rfl
 ·exact hq _
theorem Kn {p q:af.a9} (h:bz p=bz q):p=q:=by
 have h:D.tup [.tup (p.1.map D.int),.tup (p.2.map D.int)]=D.tup [.tup (q.1.map D.int),.tup (q.2.map D.int)]:=h
 injection h with h
 injection h with h1 h2
 injection h2 with h2 _
 have inj:∀ {x y:List Int},D.tup (x.map D.int)=D.tup (y.map D.int)->x=y:=fun {x y} e=>by
  injection e with e
  have:=congrArg (List.map inD) e
  rw [W4,W4] at this
  exact (List.map_id x).symm.trans (this.trans (List.map_id y))
 exact Prod.ext (inj h1) (inj h2)
theorem sY {α:Type} {fs:List α} {g:α->D} {k:Nat} {p:α} (h:fs[k]?=some p):eE (fs.map g) (k:Int)=some (g p):=by
 have hk:k < fs.length:=(Ww.mp h).1
 unfold eE
 rw [Ae (by rw [Wv];exact hk)]
 show (fs.map g)[k]?=_
 rw [WB,h];rfl
theorem Ot {fs:List af.a9} {F:af.a9} {j:Nat} (nd:fs.Nodup) (hj:fs[j]?=some F):∀ i e,i < j->(fs.map bz)[i]?=some e->e≠bz F:=fun i e hij he z=>by
 rw [WB] at he
 obtain ⟨q,hq,rfl⟩:=WZ.mp he
 have:=Kn z
 subst this
 obtain ⟨g1,g2⟩:=Ww.mp hq
 obtain ⟨g3,g4⟩:=Ww.mp hj
 exact XC.mp nd i j g1 g3 hij (by rw [g2,g4])
theorem dJ {α:Type} {l:List α} {k:Nat} {d:α} (h:k < l.length):l[k]?=some (l.getD k d):=by rw [WN,Wx h];rfl
def wD (w:List df):D:=.tup (w.map bp)
theorem Ou {s:Store} {a b c r n k:Nat} {p:af.a9} {fs:List af.a9} {ws:List (List df)} {rs:List Nat} {L:List Int} {s1:df} {v0 v1 v7:Option D} {N B C:av->Store->Prop} {R:D->Store->Prop}
  (n0:0 < n) (hn:n<=20) (hs:s1=(true,1)\/s1=(false,1)) (ab:a≠b) (ac:a≠c) (bc:b≠c) (ar:a≠r) (br:b≠r) (cr:c≠r)
  (ha:s[a]?=some (.lst (fs.map bz))) (hb:s[b]?=some (.lst (ws.map wD))) (hc:s[c]?=some (.lst (rs.map D.ref))) (hr:s[r]?=some (.lst (L.map D.int))) (hrk:rs[k]?=some r)
  (g:af.GR n p fs ws) (vp:af.Vf n p) (hk:k < fs.length) (few:fs.length<=100) (hL:L.length<=5)
  (hN:∀ (v:Option D) (s':Store),s'[a]?=some (.lst ((af.aX n fs ws k s1).1.map bz))->s'[b]?=some (.lst ((af.aX n fs ws k s1).2.1.map wD))->s'[c]?=some (.lst (rs.map D.ref))->s'[r]?=some (.lst ((L ++ [((af.aX n fs ws k s1).2.2:Int)]).map D.int))->Ex [a,b,r] s s'->N [v0,v1,some (.ref a),some (.ref b),some (.ref c),some (.int (k:Int)),some (bp s1),v] s') :
  Ws ((az (aI (aN rA (ae (aN sT (ae (ay cc (ag 2) (ag 5)) (ae (ag 6) ah))) ah)) (hName 7))
 (az (eP (aJ (ay (pI true) (ag 7) (ag 2))) (az (cy (kh "list" a5 (ag 2) (ae (ag 7) ah)))
 (cy (kh "list" a5 (ag 3) (ae (aN AQ (ae (ay jA (ay cc (ag 3) (ag 5)) (bq (ae (ag 6) ah))) ah)) ah)))) aU)
 (cy (kh "list" a5 (ay cc (ag 4) (ag 5)) (ae (kh "list" d5 (ag 2) (ae (ag 7) ah)) ah))))) [v0,v1,some (.ref a),some (.ref b),some (.ref c),some (.int (k:Int)),some (bp s1),v7] s) N B C R:=by
 have ek:=dJ (d:=(([],[]):af.a9)) hk
 have hkw:k < ws.length:=by rw [g.wl];exact hk
 have ew:=dJ (d:=([]:List df)) hkw
 have ps:af.cw s1:=by rcases hs with rfl | rfl <;> exact ⟨fun _=>by decide,by decide⟩
 have gN:=af.tQ n0 g vp hk hs
 have lN:(af.aX n fs ws k s1).1.length<=101:=by have:=gN.2.2.2.1;omega
 generalize hq:fs.getD k ([],[])=q at ek
 generalize hw:ws.getD k []=w at ew
 obtain ⟨wq,oq⟩:=g.own q (WG ek)
 obtain ⟨pw,lw,nw,-⟩:=g.wd k w ew
 have hat:eE (fs.map bz) (k:Int)=some (bz q):=sY ek
 have Ko:eE (rs.map D.ref) (k:Int)=some (.ref r):=sY hrk
 refine aW (bO ?_)
 refine b9 ?_
 intro dI hQ
 set_option simprocs false in simp only [bH,bQ ha,hat]
 refine aY (N4 (p:=q) (s:=s1) ⟨wq.v.1,wq.v.2⟩ (by omega) ps.1) ?_
 rintro d t1 ⟨rfl,k1⟩
 rw [Oq]
 have Dn:=wq.st n0 s1
 have eS:bz (af.stM q s1)=bX (af.stM q s1).1 (af.stM q s1).2:=rfl
 rw [eS]
 refine aY (Kl (wL Dn) n0 hn) ?_
 rintro d t2 ⟨rfl,k2⟩
 have eF:bX (af.bL n ((af.stM q s1).1,(af.stM q s1).2)).1 (af.bL n ((af.stM q s1).1,(af.stM q s1).2)).2=bz (af.bL n (af.stM q s1)):=rfl
 rw [eF]
 have sZ:=k1.trans k2
 have ha2:=sZ.keep _ _ ha (by simp)
 have hb2:=sZ.keep _ _ hb (by simp)
 have hc2:=sZ.keep _ _ hc (by simp)
 have hr2:=sZ.keep _ _ hr (by simp)
 have pf:∀ q:af.a9,pU 2 (bz q):=fun q=>wt 0 _ _
 have rest:∀ {s3:Store},s3[a]?=some (.lst ((af.aX n fs ws k s1).1.map bz))->s3[b]?=some (.lst ((af.aX n fs ws k s1).2.1.map wD))->s3[c]?=some (.lst (rs.map D.ref))->s3[r]?=some (.lst (L.map D.int))->Ex [a,b,r] s s3->(af.aX n fs ws k s1).1[(af.aX n fs ws k s1).2.2]?=some (af.bL n (af.stM q s1)) ->
   Ws ((cy (kh "list" a5 (ay cc (ag 4) (ag 5)) (ae (kh "list" d5 (ag 2) (ae (ag 7) ah)) ah))) [v0,v1,some (.ref a),some (.ref b),some (.ref c),some (.int (k:Int)),some (bp s1),some (bz (af.bL n (af.stM q s1)))] s3) N B C R:=by
  intro s3 qd qe hc3 pJ k3 hj
  refine pW ?_
  refine b9 ?_
  intro gy bT
  set_option simprocs false in simp only [bH,bQ hc3,Ko]
  refine ⟨n4 (by rw [bQ pJ];rfl),n4 (by rw [bQ qd];rfl),?_⟩
  rw [ND (n:=2) (j:=(af.aX n fs ws k s1).2.2) (pf _) (bQ qd) (fun e he=>by obtain ⟨q,_,rfl⟩:=WR.mp he;exact pf q) (by decide) (by rw [Wv];omega) (by rw [WB,hj];rfl) (Ot gN.1.nd hj)]
  set_option simprocs false in simp only [bH,lJ pJ]
  refine ⟨jL (by rw [Wv];omega),bT _ _ (hN _ _ ?_ ?_ ?_ ?_ ?_)⟩
  ·rw [WE (Ne.symm ar)];exact qd
  ·rw [WE (Ne.symm br)];exact qe
  ·rw [WE (Ne.symm cr)];exact hc3
  ·rw [WC (eU pJ),WS];rfl
  ·exact k3.put (by simp)
 have hj:(af.aX n fs ws k s1).1[(af.aX n fs ws k s1).2.2]?=some (af.bL n (af.stM q s1)):=by
  obtain ⟨q',h1,h2⟩:=gN.2.2.2.2
  rw [ek] at h1;cases h1;exact h2
 refine hQ _ _ (aW (iD ?_))
 clear hQ
 kspl_open hQ
 have EK:cL t2 (.ref a)=some (fs.map bz):=bQ ha2
 rw [Nr (n:=2) (es:=fs.map bz) (pf _) EK (fun e he=>by obtain ⟨q,_,rfl⟩:=WR.mp he;exact pf q) (by decide)]
 by_cases hm:af.bL n (af.stM q s1)∈fs
 ·have hm':bz (af.bL n (af.stM q s1))∈fs.map bz:=WR.mpr ⟨_,hm,rfl⟩
  have eR:af.aX n fs ws k s1=(fs,ws,fs.idxOf (af.bL n (af.stM q s1))):=by unfold af.aX;rw [hq,if_pos hm]
  refine ⟨false,by simp [hm'],hQ _ _ ⟨fun z=>(nomatch z),fun _=>jJ (rest ?_ ?_ hc2 hr2 sZ.any hj)⟩⟩
  ·rw [eR];exact ha2
  ·rw [eR];exact hb2
 ·have hm':bz (af.bL n (af.stM q s1)) ∉ fs.map bz:=fun z=>by
   obtain ⟨q',h1,h2⟩:=WR.mp z
   exact hm (Kn h2 ▸ h1)
  have eR:af.aX n fs ws k s1=(fs ++ [af.bL n (af.stM q s1)],ws ++ [(af.jz (w ++ [s1])).reverse],fs.length):=by unfold af.aX;rw [hq,hw,if_neg hm]
  refine ⟨true,by simp [hm'],hQ _ _ ⟨fun _=>?_,fun z=>(nomatch z)⟩⟩
  clear hQ
  refine aW (pW ?_)
  refine b9 ?_
  intro dI hQ
  set_option simprocs false in simp only [bH,lJ ha2]
  refine ⟨n4 (by rw [bQ ha2];rfl),jL (by rw [Wv];omega),hQ _ _ (pW ?_)⟩
  clear hQ
  have em:fs.map bz ++ [bz (af.bL n (af.stM q s1))]=(af.aX n fs ws k s1).1.map bz:=by rw [eR,WS];rfl
  rw [em]
  have qd:(t2.set a (.lst ((af.aX n fs ws k s1).1.map bz)))[a]?=some (.lst ((af.aX n fs ws k s1).1.map bz)):=WC (eU ha2)
  have qe:(t2.set a (.lst ((af.aX n fs ws k s1).1.map bz)))[b]?=some (.lst (ws.map wD)):=by rw [WE ab];exact hb2
  have hc3:(t2.set a (.lst ((af.aX n fs ws k s1).1.map bz)))[c]?=some (.lst (rs.map D.ref)):=by rw [WE ac];exact hc2
  have pJ:(t2.set a (.lst ((af.aX n fs ws k s1).1.map bz)))[r]?=some (.lst (L.map D.int)):=by rw [WE ar];exact hr2
  have k3:Ex [a,b,r] s (t2.set a (.lst ((af.aX n fs ws k s1).1.map bz))):=(sZ.any).put (by simp)
  generalize t2.set a (.lst ((af.aX n fs ws k s1).1.map bz))=s3 at qd qe hc3 pJ k3 ⊢
  have zL:eE (ws.map wD) (k:Int)=some (wD w):=sY ew
  refine b9 ?_
  intro dI hQ
  set_option simprocs false in simp only [bH,bQ qe,zL]
  refine ⟨n4 (by rw [bQ qe];rfl),rfl,?_⟩
  have e1:w.map bp ++ [bp s1]=(w ++ [s1]).map bp:=by rw [WS];rfl
  unfold wD
  w_how
  rw [e1]
  refine ⟨jL (by rw [Wv];show _ + 1<=_;omega),?_⟩
  have cC:∀ x∈w ++ [s1],af.cw x:=fun x hx=>by
   rcases WX.mp hx with h | h
   ·exact af.Pl.pr pw x (Xn.mpr h)
   ·rw [WQ.mp h];exact ps
  refine aY (VP (w:=w ++ [s1]) cC (by rw [Wz];show _ + 1<=_;omega)) ?_
  rintro d s4 ⟨rfl,k4⟩
  have EM:=k4.keep _ _ qd (by simp)
  have zM:=k4.keep _ _ qe (by simp)
  have hc4:=k4.keep _ _ hc3 (by simp)
  have VT:=k4.keep _ _ pJ (by simp)
  set_option simprocs false in simp only [bH,lJ zM]
  refine ⟨jL (by rw [Wv,g.wl];omega),hQ _ _ (rest ?_ ?_ ?_ ?_ ((k3.trans k4.any).put (by simp)) hj)⟩
  ·rw [WE (Ne.symm ab)];exact EM
  ·rw [WC (eU zM),eR,WS];rfl
  ·rw [WE bc];exact hc4
  ·rw [WE br];exact VT
def zN (p:af.a9) (w:List df) (l:Nat×Nat):D:=.tup [bz p,wD w,.int (l.1:Int),.int (l.2:Int)]
def qZ (c:af.CS) (N:Nat):D:=.tup ((List.range N).map fun k=>zN (c.1.getD k ([],[])) (c.2.1.getD k []) (c.2.2.getD k (0,0)))
structure uS (st s:Store) (ia ib ic:Nat) (fs:List af.a9) (ws:List (List df)) (ls:List (Nat×Nat)) (rs:List Nat):Prop where
 a:s[ia]?=some (.lst (fs.map bz))
 b:s[ib]?=some (.lst (ws.map wD))
 c:s[ic]?=some (.lst (rs.map D.ref))
 l:ls.length<=rs.length
 r:∀ (k r:Nat) (l:Nat×Nat),rs[k]?=some r->ls[k]?=some l->s[r]?=some (.lst [.int (l.1:Int),.int (l.2:Int)])
 h:∀ r∈rs,ic < r/\r < s.length
 e:Ex [] st s
theorem EN {x y:D}:eE [x,y] 0=some x:=rfl
theorem EO {x y:D}:eE [x,y] 1=some y:=rfl
theorem VU {st:Store} {p:af.a9} {n most:Nat} (w0:af.Wh n p) (n0:0 < n) (hn:n<=20) (m1:1<=most) (VW:most<=60):Wp (D5 [bz p,.int (most:Int)] st) fun d st'=>Ex [] st st'/\((∃ N,N<=most/\af.Full n p (af.ch n p N) N/\(∀ j,j < N->j < (af.ch n p j).1.length)/\d=qZ (af.ch n p N) N)\/(d=.non/\∃ i,(∀ j,j < i->j < (af.ch n p j).1.length)/\most < (af.ch n p i).1.length)):=by
 refine eY ?_
 show Ws (GD [some (bz p),some (.int (most:Int)),none,none,none,none,none,none] st) _ _ _ _
 unfold GD
 refine aW (bO ?_)
 kspl_open hQ
 refine aY (Kl (wL w0) n0 hn) ?_
 rintro d s1 ⟨rfl,k1⟩
 refine ⟨rfl,hQ _ _ (aW (bO ?_))⟩
 clear hQ
 kspl_open hQ
 refine ⟨rfl,rfl,hQ _ _ (aW (bO ?_))⟩
 clear hQ
 kspl_open hQ
 refine ⟨rfl,hQ _ _ ?_⟩
 clear hQ
 have eF:bX (af.bL n (p.1,p.2)).1 (af.bL n (p.1,p.2)).2=bz (af.bL n p):=rfl
 rw [eF]
 obtain ⟨a,b,c,s2,ea,eb,ec,es,ab,bc,la,I0⟩:∃ (a b c:Nat) (s2:Store),s1.length=a/\(s1 ++ [O.lst [bz (af.bL n p)]]).length=b/\(s1 ++ [O.lst [bz (af.bL n p)]] ++ [O.lst [D.tup []]]).length=c/\s1 ++ [O.lst [bz (af.bL n p)]] ++ [O.lst [D.tup []]] ++ [O.lst []]=s2/\a < b/\b < c/\st.length<=a/\uS st s2 a b c (af.ch n p 0).1 (af.ch n p 0).2.1 (af.ch n p 0).2.2 [] :=
  ⟨_,_,_,_,rfl,rfl,rfl,rfl,by simp,by simp,k1.len,kX (kX jK),kX jK,jK,Wy _,(fun k r l h=>nomatch h),(fun r h=>nomatch h),((k1.app _).app _).app _⟩
 rw [ea,eb,ec,es]
 refine aW (mU (aH 0 most) (fun i δ s=>∃ (v5 v6 v7:Option D) (j:Nat) (rs:List Nat),δ=[some (bz p),some (.int (most:Int)),some (.ref a),some (.ref b),some (.ref c),v5,v6,v7]/\j<=i/\(∀ j',j' < j->j' < (af.ch n p j').1.length)/\(af.ch n p j).1.length<=most/\(j=i\/(af.ch n p j).1.length=j)/\rs.length=j/\uS st s a b c (af.ch n p j).1 (af.ch n p j).2.1 (af.ch n p j).2.2 rs) ?_ (by rw [gu];omega) ?_ ?_)
 ·kspl_open hQ
  refine ⟨by omega,hQ _ _ ⟨by rw [WH],none,none,none,0,[],rfl,Wy _,(fun j' h=>nomatch h),(show 1<=most from m1),.inl rfl,rfl,I0⟩⟩
 ·rintro i d δ s hd ⟨v5,v6,v7,j,rs,rfl,hj,pr,few,jo,hrs,I⟩
  have hi:i < most:=by have:=eU hd;rw [gu] at this;exact this
  rw [yo hi,Int.zero_add] at hd
  cases hd
  have g:=af.zq n0 w0 j pr
  kspl_open hQ
  refine hQ _ _ (iD ?_)
  clear hQ
  refine b9 ?_
  intro dI hQ
  set_option simprocs false in simp only [bH,bQ I.a]
  rw [Wv]
  refine hQ _ _ ⟨fun z=>?_,fun z=>jJ ?_⟩
  ·have z:i < (af.ch n p j).1.length:=by have:=of_decide_eq_true z;omega
   have ej:j=i:=by rcases jo with h | h <;> omega
   subst ej
   clear hQ
   have ny:=g.ll
   have EI:=g.le
   refine aW (pW ?_)
   kspl_open hQ
   have Ic:=kX (m:=[O.lst []]) I.c
   refine ⟨n4 (by rw [bQ I.c];rfl),rfl,_,lJ Ic,jL (by rw [Wv];omega),hQ _ _ ?_⟩
   clear hQ
   have er:rs.map D.ref ++ [D.ref s.length]=(rs ++ [s.length]).map D.ref:=by rw [WS];rfl
   rw [er]
   have lc:=eU I.c
   have I1:uS st ((s ++ [O.lst []]).set c (.lst ((rs ++ [s.length]).map D.ref))) a b c (af.ch n p j).1 (af.ch n p j).2.1 (af.ch n p j).2.2 (rs ++ [s.length]):=by
    refine ⟨?_,?_,WC (eU Ic),by rw [Wz];have:=I.l;omega,fun k r l h1 h2=>?_,fun r hr=>?_,?_⟩
    ·rw [WE (by omega)];exact kX I.a
    ·rw [WE (by omega)];exact kX I.b
    ·have hk:k < rs.length:=by have:=(Ww.mp h2).1;omega
     rw [WI hk] at h1
     have hc:=I.h r (WG h1)
     rw [WE (by omega)]
     exact kX (I.r k r l h1 h2)
    ·rw [Xj,Wz]
     rcases WX.mp hr with h | h
     ·have:=I.h r h;exact ⟨this.1,Nat.lt_succ_of_lt this.2⟩
     ·rw [WQ.mp h];exact ⟨lc,Xm _⟩
    ·exact (I.e.app _).loc (by omega)
   have hr1:((s ++ [O.lst []]).set c (.lst ((rs ++ [s.length]).map D.ref)))[s.length]?=some (.lst (([]:List Int).map D.int)):=by
    rw [WE (by omega)];exact jK
   have hrk:(rs ++ [s.length])[j]?=some s.length:=by rw [WT (by omega),hrs,Xv];rfl
   have old:∀ r∈rs,r≠s.length:=fun r h=>by have:=I.h r h;omega
   have VX:c < s.length:=lc
   generalize (s ++ [O.lst []]).set c (.lst ((rs ++ [s.length]).map D.ref))=s3 at I1 hr1
   generalize s.length=r at I1 hr1 hrk old VX
   have r1:=af.tQ (s:=(true,1)) n0 g.r w0.v (k:=j) z (.inl rfl)
   have r2:=af.tQ (s:=(false,1)) n0 r1.1 w0.v (k:=j) (by have:=r1.2.2.1;omega) (.inr rfl)
   have eS:af.kZ n (af.ch n p j)=af.aX n (af.ch n p j).1 (af.ch n p j).2.1 j (true,1):=by unfold af.kZ;rw [ny]
   have eT:af.jV n (af.ch n p j)=af.aX n (af.aX n (af.ch n p j).1 (af.ch n p j).2.1 j (true,1)).1 (af.aX n (af.ch n p j).1 (af.ch n p j).2.1 j (true,1)).2.1 j (false,1):=by unfold af.jV;rw [eS,ny]
   have mk:∀ {fs fs':List af.a9} {ws Ay:List (List df)} {s s':Store},uS st s a b c fs ws (af.ch n p j).2.2 (rs ++ [r])->s'[a]?=some (.lst (fs'.map bz))->s'[b]?=some (.lst (Ay.map wD))->s'[c]?=some (.lst ((rs ++ [r]).map D.ref))->Ex [a,b,r] s s'->uS st s' a b c fs' Ay (af.ch n p j).2.2 (rs ++ [r]):=by
    intro fs fs' ws Ay s s' J h1 h2 h3 k
    refine ⟨h1,h2,h3,J.l,fun i r' l e1 e2=>?_,fun r' hr=>?_,⟨WO J.e.len k.len,fun i o e n=>k.keep i o (J.e.keep i o e n) (by have:=eU e;simp;omega)⟩⟩
    ·have hk:i < rs.length:=by have:=(Ww.mp e2).1;omega
     have Ag:=e1
     rw [WI hk] at Ag
     have hm:=WG Ag
     have hc:=J.h r' (WG e1)
     have:=old r' hm
     exact k.keep _ _ (J.r i r' l e1 e2) (by simp;omega)
    ·have hc:=J.h r' hr
     exact ⟨hc.1,W5 hc.2 k.len⟩
   refine aW (mU [bp (true,1),bp (false,1)] (fun m δ s=>∃ (v6 v7:Option D),δ=[some (bz p),some (.int (most:Int)),some (.ref a),some (.ref b),some (.ref c),some (.int (j:Int)),v6,v7]/\((m=0/\uS st s a b c (af.ch n p j).1 (af.ch n p j).2.1 (af.ch n p j).2.2 (rs ++ [r])/\s[r]?=some (.lst (([]:List Int).map D.int)))\/(m=1/\uS st s a b c (af.kZ n (af.ch n p j)).1 (af.kZ n (af.ch n p j)).2.1 (af.ch n p j).2.2 (rs ++ [r])/\s[r]?=some (.lst (([((af.kZ n (af.ch n p j)).2.2:Int)]:List Int).map D.int)))\/(m=2/\uS st s a b c (af.jV n (af.ch n p j)).1 (af.jV n (af.ch n p j)).2.1 (af.ch n p j).2.2 (rs ++ [r])/\s[r]?=some (.lst (([((af.kZ n (af.ch n p j)).2.2:Int),((af.jV n (af.ch n p j)).2.2:Int)]:List Int).map D.int))))) ?_ (by decide) ?_ ?_)
   ·kspl_open hQ
    exact ⟨rfl,rfl,rfl,hQ _ _ ⟨rfl,v6,v7,rfl,.inl ⟨rfl,I1,hr1⟩⟩⟩
   ·rintro m d δ s5 hd ⟨v6,v7,rfl,hm⟩
    kspl_open hQ
    refine hQ _ _ ?_
    clear hQ
    rcases hm with ⟨rfl,J,hr⟩ | ⟨rfl,J,hr⟩ | ⟨rfl,J,hr⟩
    ·cases (show some (bp (true,1))=some d from hd)
     refine Ou (s1:=(true,1)) n0 hn (.inl rfl) (by omega) (by omega) (by omega) (by omega) (by omega) (by omega) J.a J.b J.c hr hrk g.r w0.v z (by omega) (by simp) fun v s' h1 h2 h3 h4 h5=>?_
     refine ⟨_,v,rfl,.inr (.inl ⟨rfl,?_,?_⟩)⟩
     ·rw [eS];exact mk J h1 h2 h3 h5
     ·rw [eS];exact h4
    ·cases (show some (bp (false,1))=some d from hd)
     rw [eS] at J hr
     refine Ou (s1:=(false,1)) n0 hn (.inr rfl) (by omega) (by omega) (by omega) (by omega) (by omega) (by omega) J.a J.b J.c hr hrk r1.1 w0.v (by have:=r1.2.2.1;omega) (by have:=r1.2.2.2.1;omega) (by simp) fun v s' h1 h2 h3 h4 h5=>?_
     refine ⟨_,v,rfl,.inr (.inr ⟨rfl,?_,?_⟩)⟩
     ·rw [eT];exact mk J h1 h2 h3 h5
     ·rw [eT,eS];exact h4
    ·cases (show none=some d from hd)
   ·rintro δ s5 ⟨v6,v7,rfl,⟨h,_⟩ | ⟨h,_⟩ | ⟨_,J,hr⟩⟩
    ·cases h
    ·cases h
    have Hm:∀ j',j' < j + 1->j' < (af.ch n p j').1.length:=fun j' h=>by
     rcases Nat.lt_or_ge j' j with h' | h'
     ·exact pr j' h'
     ·have:j'=j:=by omega
      subst this;exact z
    have J2:uS st s5 a b c (af.ch n p (j + 1)).1 (af.ch n p (j + 1)).2.1 (af.ch n p (j + 1)).2.2 (rs ++ [r]):=by
     refine ⟨J.a,J.b,J.c,?_,fun k r' l e1 e2=>?_,J.h,J.e⟩
     ·show ((af.ch n p j).2.2 ++ [_]).length<=_
      rw [Wz,Wz,ny,hrs];exact Wy _
     ·have e2:((af.ch n p j).2.2 ++ [((af.kZ n (af.ch n p j)).2.2,(af.jV n (af.ch n p j)).2.2)])[k]?=some l:=e2
      by_cases hk:k < (af.ch n p j).2.2.length
      ·rw [WI hk] at e2
       exact J.r k r' l e1 e2
      ·have hk2:k=j:=by
        have:=(Ww.mp e2).1
        rw [Wz] at this
        have:k < (af.ch n p j).2.2.length + 1:=this
        omega
       subst hk2
       rw [WT (by omega),ny,Xv] at e2
       cases (show some _=some l from e2)
       rw [hrk] at e1
       cases e1
       exact hr
    refine iD ?_
    refine b9 ?_
    intro dI hQ
    set_option simprocs false in simp only [bH,bQ J2.a]
    rw [Wv]
    refine hQ _ _ ⟨fun y=>dz ?_,fun y=>jJ ⟨_,_,_,j + 1,_,rfl,Wy _,Hm,?_,.inl rfl,?_,J2⟩⟩
    ·clear hQ
     kspl_open hQ
     exact hQ _ _ ⟨J2.e,.inr ⟨rfl,j + 1,Hm,by have:=of_decide_eq_true y;omega⟩⟩
    ·have:=of_decide_eq_false y;omega
    ·rw [Wz,hrs];rfl
  ·have z:¬ i < (af.ch n p j).1.length:=by have:=of_decide_eq_false z;omega
   have:=g.le
   exact ⟨_,_,_,j,rs,rfl,by omega,pr,few,by omega,hrs,I⟩
 ·rintro δ s ⟨v5,v6,v7,j,rs,rfl,hj,pr,few,jo,hrs,I⟩
  rw [gu] at hj jo
  have g:=af.zq n0 w0 j pr
  have EI:=g.le
  have Kq:(af.ch n p j).1.length=j:=by rcases jo with h | h <;> omega
  have wM:af.Full n p (af.ch n p j) j:={ toGC:=g,fl:=Kq }
  refine dz ?_
  kspl_open hQ
  generalize hC:af.ch n p j=C at I g Kq wM
  refine sO (aH 0 j) (fun d=>zN (C.1.getD (inD d).toNat ([],[])) (C.2.1.getD (inD d).toNat []) (C.2.2.getD (inD d).toNat (0,0))) ?_ (by rw [gu];omega) ?_ ?_
  ·refine b9 ?_
   intro gy bT
   set_option simprocs false in simp only [bH,bQ I.a]
   rw [Wv,Kq]
   exact ⟨by omega,bT _ _ ⟨by rw [WH];exact sN _ _,Ex.refl⟩⟩
  ·intro d hd s5 k5
   obtain ⟨i,hi⟩:=List.getElem?_of_mem hd
   have hil:=eU hi
   rw [gu] at hil
   rw [yo hil,Int.zero_add] at hi
   cases hi
   have hwl:=g.r.wl
   have ny:=g.ll
   have ef:=dJ (d:=(([],[]):af.a9)) (show i < C.1.length by omega)
   have ew:=dJ (d:=([]:List df)) (show i < C.2.1.length by omega)
   have el:=dJ (d:=((0,0):Nat×Nat)) (show i < C.2.2.length by omega)
   have er:=dJ (d:=0) (show i < rs.length by omega)
   have hR:=k5.keep _ _ (I.r i _ _ er el) (by simp)
   have a1:eE (C.1.map bz) (i:Int)=some (bz (C.1.getD i ([],[]))):=sY ef
   have a2:eE (C.2.1.map wD) (i:Int)=some (wD (C.2.1.getD i [])):=sY ew
   have a3:eE (rs.map D.ref) (i:Int)=some (.ref (rs.getD i 0)):=sY er
   have Kr:=k5.keep _ _ I.a (by simp)
   have Ks:=k5.keep _ _ I.b (by simp)
   have hc5:=k5.keep _ _ I.c (by simp)
   generalize rs.getD i 0=r at hR a3
   refine b9 ?_
   intro gy bT
   set_option simprocs false in simp only [bH,WY,Xg,Xe,Xf,bQ Kr,bQ Ks,bQ hc5,a1,a2,a3,bQ hR,EN,EO]
   exact ⟨rfl,bT _ _ ⟨rfl,Ex.refl⟩⟩
  ·intro s5 k5
   refine ⟨_,uJ,hQ _ _ ⟨(I.e.trans k5).app _,.inl ⟨j,by omega,by rw [hC];exact wM,pr,?_⟩⟩⟩
   rw [hC]
   unfold qZ
   congr 1
   unfold aH
   rw [W4]
   refine Xc fun i _=>?_
   show zN _ _ _=_
   simp only [Function.comp,inD,Int.zero_add,WH]
theorem wN {n:Nat} {p:af.a9} (n0:0 < n) (w:af.Wh n p):∀ (N j:Nat),(∀ i,i < N->i < (af.ch n p i).1.length)->j<=N->(af.ch n p j).1.length<=(af.ch n p N).1.length
 | 0,j,_,hj=>by
  have:j=0:=by omega
  subst this
  exact Wy _
 | N + 1,j,pr,hj=>by
  by_cases e:j=N + 1
  ·subst e;exact Wy _
  ·have h1:=wN n0 w N j (fun i hi=>pr i (by omega)) (by omega)
   have g:=af.zq n0 w N fun i hi=>pr i (by omega)
   have hN:=pr N (by omega)
   have ny:=g.ll
   have r1:=af.tQ (s:=(true,1)) n0 g.r w.v (k:=(af.ch n p N).2.2.length) (by omega) (.inl rfl)
   have r2:=af.tQ (s:=(false,1)) n0 r1.1 w.v (k:=(af.ch n p N).2.2.length) (by have:=r1.2.2.1;omega) (.inr rfl)
   have a:=r1.2.2.1
   have b:=r2.2.2.1
   have:(af.ch n p N).1.length<=(af.ch n p (N + 1)).1.length:=WO a b
   omega
theorem Ov {st:Store} {a b n k:Nat} {p:af.a9} {fs:List af.a9} {ws:List (List df)} {s1:df} (n0:0 < n) (hn:n<=20) (hs:s1=(true,1)\/s1=(false,1)) (ab:a≠b) (ha:st[a]?=some (.lst (fs.map bz))) (hb:st[b]?=some (.lst (ws.map wD))) (g:af.GR n p fs ws) (vp:af.Vf n p) (hk:k < fs.length) (few:fs.length<=100) :
  Wp (zz [.ref a,.ref b,.int (k:Int),bp s1] st) fun d st'=>d=.int ((af.aX n fs ws k s1).2.2:Int)/\st'[a]?=some (.lst ((af.aX n fs ws k s1).1.map bz))/\st'[b]?=some (.lst ((af.aX n fs ws k s1).2.1.map wD))/\Ex [a,b] st st':=by
 refine eY ?_
 show Ws (Gu [some (.ref a),some (.ref b),some (.int (k:Int)),some (bp s1),none] st) _ _ _ _
 unfold Gu
 have ek:=dJ (d:=(([],[]):af.a9)) hk
 have hkw:k < ws.length:=by rw [g.wl];exact hk
 have ew:=dJ (d:=([]:List df)) hkw
 have ps:af.cw s1:=by rcases hs with rfl | rfl <;> exact ⟨fun _=>by decide,by decide⟩
 have gN:=af.tQ n0 g vp hk hs
 have lN:(af.aX n fs ws k s1).1.length<=101:=by have:=gN.2.2.2.1;omega
 generalize hq:fs.getD k ([],[])=q at ek
 generalize hw:ws.getD k []=w at ew
 obtain ⟨wq,oq⟩:=g.own q (WG ek)
 obtain ⟨pw,lw,nw,-⟩:=g.wd k w ew
 have hat:eE (fs.map bz) (k:Int)=some (bz q):=sY ek
 refine aW (bO ?_)
 refine b9 ?_
 intro dI hQ
 set_option simprocs false in simp only [bH,bQ ha,hat]
 refine ⟨rfl,?_⟩
 have hw1:(D.tup [bp s1])=.tup ([s1].map bp):=rfl
 rw [hw1]
 refine aY (N5 (p:=q) (w:=[s1]) ⟨wq.v.1,wq.v.2⟩ (by omega) (fun x hx=>by rw [WQ.mp hx];exact ps.1) (show 1<=1000 by decide)) ?_
 rintro d t1 ⟨rfl,k1⟩
 have e1:lx q [s1]=af.stM q s1:=Oq q s1
 rw [e1]
 have Dn:=wq.st n0 s1
 have eS:bz (af.stM q s1)=bX (af.stM q s1).1 (af.stM q s1).2:=rfl
 rw [eS]
 refine aY (Hk (wL Dn) n0 hn) ?_
 rintro d t2 ⟨rfl,k2⟩
 have eF:bX (af.bL n ((af.stM q s1).1,(af.stM q s1).2)).1 (af.bL n ((af.stM q s1).1,(af.stM q s1).2)).2=bz (af.bL n (af.stM q s1)):=rfl
 rw [eF]
 have sZ:=k1.trans k2
 have ha2:=sZ.keep _ _ ha (by simp)
 have hb2:=sZ.keep _ _ hb (by simp)
 have pf:∀ q:af.a9,pU 2 (bz q):=fun q=>wt 0 _ _
 have hj:(af.aX n fs ws k s1).1[(af.aX n fs ws k s1).2.2]?=some (af.bL n (af.stM q s1)):=by
  obtain ⟨q',h1,h2⟩:=gN.2.2.2.2
  rw [ek] at h1;cases h1;exact h2
 have rest:∀ {s3:Store},s3[a]?=some (.lst ((af.aX n fs ws k s1).1.map bz))->s3[b]?=some (.lst ((af.aX n fs ws k s1).2.1.map wD))->Ex [a,b] st s3 ->
   Ws ((aV (kh "list" d5 (ag 0) (ae (ag 4) ah))) [some (.ref a),some (.ref b),some (.int (k:Int)),some (bp s1),some (bz (af.bL n (af.stM q s1)))] s3) (fun _ st1=>D.non=D.int ((af.aX n fs ws k s1).2.2:Int)/\st1[a]?=some (.lst ((af.aX n fs ws k s1).1.map bz))/\st1[b]?=some (.lst ((af.aX n fs ws k s1).2.1.map wD))/\Ex [a,b] st st1) (fun _ _=>False) (fun _ _=>False) (fun d st1=>d=D.int ((af.aX n fs ws k s1).2.2:Int)/\st1[a]?=some (.lst ((af.aX n fs ws k s1).1.map bz))/\st1[b]?=some (.lst ((af.aX n fs ws k s1).2.1.map wD))/\Ex [a,b] st st1):=by
  intro s3 qd qe k3
  refine dz ?_
  kspl_open bT
  refine ⟨n4 (by rw [bQ qd];rfl),?_⟩
  rw [ND (n:=2) (j:=(af.aX n fs ws k s1).2.2) (pf _) (bQ qd) (fun e he=>by obtain ⟨q,_,rfl⟩:=WR.mp he;exact pf q) (by decide) (by rw [Wv];omega) (by rw [WB,hj];rfl) (Ot gN.1.nd hj)]
  exact bT _ _ ⟨rfl,qd,qe,k3⟩
 refine hQ _ _ (aW (iD ?_))
 clear hQ
 kspl_open hQ
 have EK:cL t2 (.ref a)=some (fs.map bz):=bQ ha2
 rw [Nr (n:=2) (es:=fs.map bz) (pf _) EK (fun e he=>by obtain ⟨q,_,rfl⟩:=WR.mp he;exact pf q) (by decide)]
 by_cases hm:af.bL n (af.stM q s1)∈fs
 ·have hm':bz (af.bL n (af.stM q s1))∈fs.map bz:=WR.mpr ⟨_,hm,rfl⟩
  have eR:af.aX n fs ws k s1=(fs,ws,fs.idxOf (af.bL n (af.stM q s1))):=by unfold af.aX;rw [hq,if_pos hm]
  refine ⟨false,by simp [hm'],hQ _ _ ⟨fun z=>(nomatch z),fun _=>jJ (rest ?_ ?_ sZ.any)⟩⟩
  ·rw [eR];exact ha2
  ·rw [eR];exact hb2
 ·have hm':bz (af.bL n (af.stM q s1)) ∉ fs.map bz:=fun z=>by
   obtain ⟨q',h1,h2⟩:=WR.mp z
   exact hm (Kn h2 ▸ h1)
  have eR:af.aX n fs ws k s1=(fs ++ [af.bL n (af.stM q s1)],ws ++ [(af.jz (w ++ [s1])).reverse],fs.length):=by unfold af.aX;rw [hq,hw,if_neg hm]
  refine ⟨true,by simp [hm'],hQ _ _ ⟨fun _=>?_,fun z=>(nomatch z)⟩⟩
  clear hQ
  refine aW (pW ?_)
  refine b9 ?_
  intro dI hQ
  set_option simprocs false in simp only [bH,lJ ha2]
  refine ⟨n4 (by rw [bQ ha2];rfl),jL (by rw [Wv];omega),hQ _ _ (pW ?_)⟩
  clear hQ
  have em:fs.map bz ++ [bz (af.bL n (af.stM q s1))]=(af.aX n fs ws k s1).1.map bz:=by rw [eR,WS];rfl
  rw [em]
  have qd:(t2.set a (.lst ((af.aX n fs ws k s1).1.map bz)))[a]?=some (.lst ((af.aX n fs ws k s1).1.map bz)):=WC (eU ha2)
  have qe:(t2.set a (.lst ((af.aX n fs ws k s1).1.map bz)))[b]?=some (.lst (ws.map wD)):=by rw [WE ab];exact hb2
  have k3:Ex [a,b] st (t2.set a (.lst ((af.aX n fs ws k s1).1.map bz))):=(sZ.any).put (by simp)
  generalize t2.set a (.lst ((af.aX n fs ws k s1).1.map bz))=s3 at qd qe k3 ⊢
  have zL:eE (ws.map wD) (k:Int)=some (.tup (w.map bp)):=sY (g:=wD) ew
  refine b9 ?_
  intro dI hQ
  set_option simprocs false in simp only [bH,bQ qe,zL]
  refine ⟨n4 (by rw [bQ qe];rfl),rfl,?_⟩
  rw [hw1]
  refine aY (N8 (v:=w) (w:=[s1]) (by show _ + 1<=_;omega)) ?_
  rintro d s4 ⟨rfl,k4⟩
  have EM:=k4.keep _ _ qd (by simp)
  have zM:=k4.keep _ _ qe (by simp)
  set_option simprocs false in simp only [bH,lJ zM]
  refine ⟨jL (by rw [Wv,g.wl];omega),hQ _ _ (rest ?_ ?_ ((k3.trans k4.any).put (by simp)))⟩
  ·rw [WE (Ne.symm ab)];exact EM
  ·rw [WC (eU zM),eR,WS];rfl
def zO (l:Nat×Nat):D:=.tup [.int (l.1:Int),.int (l.2:Int)]
theorem VY {st:Store} {p:af.a9} {n N most:Nat} (w0:af.Wh n p) (n0:0 < n) (hn:n<=20) (F:af.Full n p (af.ch n p N) N) (pr:∀ j,j < N->j < (af.ch n p j).1.length) (hN:N<=most) (VW:most<=60):Wp (zA [bz p,.int (most:Int)] st) fun d st'=>d=qZ (af.ch n p N) N/\Ex [] st st':=by
 refine eY ?_
 show Ws (Gv [some (bz p),some (.int (most:Int)),none,none,none,none,none,none] st) _ _ _ _
 unfold Gv
 refine aW (bO ?_)
 kspl_open hQ
 refine aY (Hk (wL w0) n0 hn) ?_
 rintro d s1 ⟨rfl,k1⟩
 refine ⟨rfl,hQ _ _ (aW (bO ?_))⟩
 clear hQ
 kspl_open hQ
 refine ⟨rfl,rfl,hQ _ _ (aW (bO ?_))⟩
 clear hQ
 kspl_open hQ
 refine ⟨rfl,hQ _ _ ?_⟩
 clear hQ
 have eF:bX (af.bL n (p.1,p.2)).1 (af.bL n (p.1,p.2)).2=bz (af.bL n p):=rfl
 rw [eF]
 obtain ⟨a,b,c,s2,ea,eb,ec,es,ab,bc,la,ha,hb,hc,kx⟩:∃ (a b c:Nat) (s2:Store),s1.length=a/\(s1 ++ [O.lst [bz (af.bL n p)]]).length=b/\(s1 ++ [O.lst [bz (af.bL n p)]] ++ [O.lst [D.tup []]]).length=c/\s1 ++ [O.lst [bz (af.bL n p)]] ++ [O.lst [D.tup []]] ++ [O.lst []]=s2/\a < b/\b < c/\st.length<=a/\s2[a]?=some (.lst ((af.ch n p 0).1.map bz))/\s2[b]?=some (.lst ((af.ch n p 0).2.1.map wD))/\s2[c]?=some (.lst ((af.ch n p 0).2.2.map zO))/\Ex [] st s2 :=
  ⟨_,_,_,_,rfl,rfl,rfl,rfl,by simp,by simp,k1.len,kX (kX jK),kX jK,jK,((k1.app _).app _).app _⟩
 rw [ea,eb,ec,es]
 refine aW (yO (fun m δ s=>∃ (v5 v6 v7:Option D) (j:Nat),δ=[some (bz p),some (.int (most:Int)),some (.ref a),some (.ref b),some (.ref c),v5,v6,v7]/\m + j=N/\s[a]?=some (.lst ((af.ch n p j).1.map bz))/\s[b]?=some (.lst ((af.ch n p j).2.1.map wD))/\s[c]?=some (.lst ((af.ch n p j).2.2.map zO))/\Ex [] st s) N (by show N < 1000000;omega) ⟨none,none,none,0,rfl,rfl,ha,hb,hc,kx⟩ ?_)
 rintro m δ s ⟨v5,v6,v7,j,rfl,hm,ha,hb,hc,k⟩
 have g:=af.zq n0 w0 j fun i hi=>pr i (by omega)
 have ny:=g.ll
 have up:=wN n0 w0 N j pr (by omega)
 have hfl:=F.fl
 refine b9 ?_
 intro dI hQ
 set_option simprocs false in simp only [bH,bQ ha,bQ hc]
 rw [Wv,Wv,ny]
 refine hQ _ _ ⟨fun z=>aW (iD ?_),fun z=>dz ?_⟩
 ·have z:j < (af.ch n p j).1.length:=by have:=of_decide_eq_true z;omega
  clear hQ
  refine b9 ?_
  intro dI hQ
  set_option simprocs false in simp only [bH,bQ ha]
  rw [Wv]
  refine hQ _ _ ⟨fun y=>?_,fun y=>jJ (aW (bO ?_))⟩
  ·have:=of_decide_eq_true y
   omega
  ·clear hQ
   have Wo:j < N:=by
    rcases Nat.lt_or_ge j N with h | h
    ·exact h
    ·have:j=N:=by omega
     subst this
     omega
   refine b9 ?_
   intro dI hQ
   set_option simprocs false in simp only [bH,bQ hc]
   rw [Wv,ny]
   refine hQ _ _ (aW (bO ?_))
   clear hQ
   kspl_open hQ
   have es1:D.tup [D.str (Str.ofString "s"),D.int 1]=bp (true,1):=rfl
   have VZ:D.tup [D.str (Str.ofString "t"),D.int 1]=bp (false,1):=rfl
   rw [es1]
   have r1:=af.tQ (s:=(true,1)) n0 g.r w0.v (k:=j) z (.inl rfl)
   have r2:=af.tQ (s:=(false,1)) n0 r1.1 w0.v (k:=j) (by have:=r1.2.2.1;omega) (.inr rfl)
   refine aY (Ov (s1:=(true,1)) (k:=j) n0 hn (.inl rfl) (by omega) ha hb g.r w0.v z (by omega)) ?_
   rintro d s3 ⟨rfl,qd,qe,k3⟩
   have hc3:=k3.keep _ _ hc (by simp;omega)
   refine hQ _ _ (aW (bO ?_))
   clear hQ
   kspl_open hQ
   rw [VZ]
   refine aY (Ov (s1:=(false,1)) (k:=j) n0 hn (.inr rfl) (by omega) qd qe r1.1 w0.v (by have:=r1.2.2.1;omega) (by have:=r1.2.2.2.1;omega)) ?_
   rintro d s4 ⟨rfl,EM,zM,k4⟩
   have hc4:=k4.keep _ _ hc3 (by simp;omega)
   refine hQ _ _ (pW ?_)
   clear hQ
   refine b9 ?_
   intro dI hQ
   set_option simprocs false in simp only [bH,lJ hc4]
   have eS:af.kZ n (af.ch n p j)=af.aX n (af.ch n p j).1 (af.ch n p j).2.1 j (true,1):=by unfold af.kZ;rw [ny]
   have eT:af.jV n (af.ch n p j)=af.aX n (af.aX n (af.ch n p j).1 (af.ch n p j).2.1 j (true,1)).1 (af.aX n (af.ch n p j).1 (af.ch n p j).2.1 j (true,1)).2.1 j (false,1):=by unfold af.jV;rw [eS,ny]
   have kd:∀ {x y:Store},Ex [] st x->Ex [a,b] x y->Ex [] st y:=fun {x y} h g=>⟨WO h.len g.len,fun i o e n=>g.keep i o (h.keep i o e n) (by have:=eU e;simp;omega)⟩
   have k5:Ex [] st s4:=kd (kd k k3) k4
   refine ⟨n4 (by rw [bQ hc4];rfl),rfl,jL (by rw [Wv];omega),hQ _ _ ⟨m - 1,by omega,_,_,_,j + 1,rfl,by omega,?_,?_,?_,k5.loc (by omega)⟩⟩
   ·rw [WE (by omega)]
    show _=some (O.lst ((af.jV n (af.ch n p j)).1.map bz))
    rw [eT];exact EM
   ·rw [WE (by omega)]
    show _=some (O.lst ((af.jV n (af.ch n p j)).2.1.map wD))
    rw [eT];exact zM
   ·rw [WC (eU hc4)]
    show _=some (O.lst (((af.ch n p j).2.2 ++ [((af.kZ n (af.ch n p j)).2.2,(af.jV n (af.ch n p j)).2.2)]).map zO))
    rw [WS,eT,eS];rfl
 ·have z:¬ j < (af.ch n p j).1.length:=by have:=of_decide_eq_false z;omega
  have ej:j=N:=by
   rcases Nat.lt_or_ge j N with h | h
   ·exact absurd (pr j h) z
   ·omega
  subst ej
  clear hQ
  kspl_open hQ
  generalize hC:af.ch n p j=C at ha hb hc g F hfl ny
  refine sO (aH 0 j) (fun d=>zN (C.1.getD (inD d).toNat ([],[])) (C.2.1.getD (inD d).toNat []) (C.2.2.getD (inD d).toNat (0,0))) ?_ (by rw [gu];omega) ?_ ?_
  ·refine b9 ?_
   intro gy bT
   set_option simprocs false in simp only [bH,bQ ha]
   rw [Wv,hfl]
   exact ⟨by omega,bT _ _ ⟨by rw [WH];exact sN _ _,Ex.refl⟩⟩
  ·intro d hd s5 k5
   obtain ⟨i,hi⟩:=List.getElem?_of_mem hd
   have hil:=eU hi
   rw [gu] at hil
   rw [yo hil,Int.zero_add] at hi
   cases hi
   have hwl:=g.r.wl
   have ef:=dJ (d:=(([],[]):af.a9)) (show i < C.1.length by omega)
   have ew:=dJ (d:=([]:List df)) (show i < C.2.1.length by omega)
   have el:=dJ (d:=((0,0):Nat×Nat)) (show i < C.2.2.length by omega)
   have a1:eE (C.1.map bz) (i:Int)=some (bz (C.1.getD i ([],[]))):=sY ef
   have a2:eE (C.2.1.map wD) (i:Int)=some (wD (C.2.1.getD i [])):=sY ew
   have a3:eE (C.2.2.map zO) (i:Int)=some (zO (C.2.2.getD i (0,0))):=sY el
   have g0:∀ {l:Nat×Nat} {s:Store} {Q:D->Store->Prop},Wp (aM (zO l) (.int 0) s) Q↔Q (.int (l.1:Int)) s:=bu
   have g1:∀ {l:Nat×Nat} {s:Store} {Q:D->Store->Prop},Wp (aM (zO l) (.int 1) s) Q↔Q (.int (l.2:Int)) s:=bu
   have Kr:=k5.keep _ _ ha (by simp)
   have Ks:=k5.keep _ _ hb (by simp)
   have hc5:=k5.keep _ _ hc (by simp)
   refine b9 ?_
   intro gy bT
   set_option simprocs false in simp only [bH,WY,Xg,Xe,Xf,bQ Kr,bQ Ks,bQ hc5,a1,a2,a3,g0,g1]
   exact ⟨rfl,bT _ _ ⟨rfl,Ex.refl⟩⟩
  ·intro s5 k5
   refine ⟨_,uJ,hQ _ _ ⟨?_,(k.trans k5).app _⟩⟩
   rw [hC]
   unfold qZ
   congr 1
   unfold aH
   rw [W4]
   refine Xc fun i _=>?_
   show zN _ _ _=_
   simp only [Function.comp,inD,Int.zero_add,WH]
theorem wO {p q:af.a9}:[p.1,p.2]=[q.1,q.2]↔p=q:=⟨fun z=>by injection z with z1 z2;injection z2 with z2 _;exact Prod.ext z1 z2,fun z=>by rw [z]⟩
theorem Ow {st:Store} {p:af.a9} {n M k:Nat} {w:List df} (w0:af.Wh n p) (n0:0 < n) (hn:n<=20) (hM:M < 2 ^ k) (hk:k<=100) (hw:∀ s∈w,af.cw s) (hl:(af.ax w).le M):Wp (sW [bz p,eV (af.ax w)] st) fun d st'=>d=.bl (decide (af.bL n (af.gA p w)=af.bL n p))/\Ex [] st st':=by
 refine eY ?_
 show Ws (G2 [some (bz p),some (eV (af.ax w))] st) _ _ _ _
 unfold G2
 refine dz ?_
 kspl_open hQ
 refine aY (VR (xs:=p.1) (ys:=p.2) (w:=w) (wL w0) n0 hn hM hk hw hl) ?_
 rintro d t1 ⟨rfl,k1⟩
 refine aY (Hk (xs:=p.1) (ys:=p.2) (wL w0) n0 hn) ?_
 rintro d t2 ⟨rfl,k2⟩
 rw [JK]
 refine hQ _ _ ⟨?_,k1.trans k2⟩
 rw [if_neg (by decide)]
 rw [show (((p.1,p.2):af.a9))=p from rfl]
 rw [decide_eq_decide.mpr (wO (p:=af.bL n (af.gA p w)) (q:=af.bL n p))]
theorem V0 {st:Store} {w:List df} (hw:∀ s∈w,af.cw s):Wp (zE [eV (af.ax w)] st) fun d st'=>d=eV (af.ax (af.d3 w))/\Ex [] st st':=by
 refine eY ?_
 show Ws (G3 [some (eV (af.ax w))] st) _ _ _ _
 unfold G3
 refine dz ?_
 refine b9 ?_
 intro dI hQ
 set_option simprocs false in simp only [bH,Hi,Hj,Kh,Og]
 refine ⟨rfl,hQ _ _ ⟨?_,Ex.refl⟩⟩
 rw [af.vF hw]
 unfold eV af.T4.qx
 simp only [Int.zero_sub]
theorem Ox {A B:af.T4} {M N:Nat} (ha:A.le M) (hb:B.le N):(A.mul B).le (2 * (M * N)):=by
 have key:∀ {a b c d:Int},a.natAbs<=M->b.natAbs<=N->c.natAbs<=M->d.natAbs<=N->(a * b + c * d).natAbs<=2 * (M * N):=fun {a b c d} h1 h2 h3 h4=>by
  have e1:(a * b).natAbs<=M * N:=by rw [Int.natAbs_mul];exact Nat.mul_le_mul h1 h2
  have e2:(c * d).natAbs<=M * N:=by rw [Int.natAbs_mul];exact Nat.mul_le_mul h3 h4
  have:=Int.natAbs_add_le (a * b) (c * d)
  omega
 obtain ⟨a1,a2,a3,a4⟩:=ha
 obtain ⟨b1,b2,b3,b4⟩:=hb
 exact ⟨key a1 b1 a2 b3,key a1 b2 a2 b4,key a3 b1 a4 b3,key a3 b2 a4 b4⟩
def pK (k:Int):Int:=if k < 0 then -k else k
def Kp (n:Nat) (p:af.a9) (M:Nat) (d:D):Prop:=∃ o:List df,d=eV (af.ax o)/\(∀ s∈o,af.cw s)/\(af.ax o).le M/\af.bL n (af.gA p o)=af.bL n p
theorem Kp.more {n:Nat} {p:af.a9} {M N:Nat} {d:D} (h:Kp n p M d) (hm:M<=N):Kp n p N d:=by
 obtain ⟨o,h1,h2,h3,h4⟩:=h
 exact ⟨o,h1,h2,uR h3 hm,h4⟩
theorem Kp.one {n:Nat} {p:af.a9}:Kp n p 1000000 (.tup [.int 1,.int 0,.int 0,.int 1]):=⟨[],rfl,(fun s hs=>nomatch hs),⟨by decide,by decide,by decide,by decide⟩,rfl⟩
theorem V1 {s:Store} {n N:Nat} {p:af.a9} {C:af.CS} {w:List df} {d4:D} {v0 v1 v5 v9 v10 v11 wQ wR:Option D} {Nx B Co:av->Store->Prop} {R:D->Store->Prop} (w0:af.Wh n p) (n0:0 < n) (hn:n<=20) (F:af.Full n p C N) (hN:N<=16) (hw:∀ s∈w,A2 4 s) (hl:w.length<=5) (k4:Kp n p 1000000 d4)
  (Oy:∀ (d:D) (a b c e f:Option D) (s':Store),Kp n p (2 ^ 98) d->Ex [] s s'->Nx [v0,v1,some (bz p),some (qZ C N),some d,v5,some (wD w),some (eV (af.ax w)),some (bz (af.bL n (af.gA p w))),a,b,c,e,f] s') :
  Ws ((cT (cW (ag 3)) (kW 4 (bA (hName 9) (bA (hName 10) (bA (hName 11) (bA (hName 12) lV))))) (az (aI (aN qI (ae (aN zE (ae (aN tR (ae (ag 10) ah)) ah)) (ae (ag 7) ah))) (hName 13))
 (az (eP (aJ (ay (jE true) (aN sW (ae (ag 2) (ae (ag 13) ah))) (ay (iH false) (ag 9) (ag 8)))) (aV (fC (.bl false))) aU)
 (eP (aJ (ay (iH false) (ag 9) (ag 8))) (aI (aN qI (ae (ag 13) (ae (ag 4) ah))) (hName 4)) aU)))) [v0,v1,some (bz p),some (qZ C N),some d4,v5,some (wD w),some (eV (af.ax w)),some (bz (af.bL n (af.gA p w))),v9,v10,v11,wQ,wR] s) Nx B Co R:=by
 have pw:∀ s∈w,af.cw s:=fun s hs=>Oj (hw s hs)
 have lw:(af.ax w).le (5 ^ 5):=af.IZ (B:=4) (fun s hs=>⟨pw s hs,by have:=(hw s hs).2.1;omega⟩) hl
 generalize hG:af.bL n (af.gA p w)=G at Oy ⊢
 have hwl:=F.r.wl
 have hfl:=F.fl
 have ny:=F.ll
 refine mU ((List.range N).map fun k=>zN (C.1.getD k ([],[])) (C.2.1.getD k []) (C.2.2.getD k (0,0))) (fun i δ s'=>∃ (d:D) (a b c e f:Option D),δ=[v0,v1,some (bz p),some (qZ C N),some d,v5,some (wD w),some (eV (af.ax w)),some (bz G),a,b,c,e,f]/\(((∀ k,k < i->C.1.getD k ([],[])≠G)/\Kp n p 1000000 d)\/((∃ k,k < i/\C.1.getD k ([],[])=G)/\Kp n p (2 ^ 98) d))/\Ex [] s s') ?_ (by rw [Wv,List.length_range];omega) ?_ ?_
 ·kspl_open hQ
  exact ⟨_,rfl,hQ _ _ ⟨rfl,_,_,_,_,_,_,rfl,.inl ⟨fun k hk=>absurd hk (Xh k),k4⟩,Ex.refl⟩⟩
 ·rintro i d δ s1 hd ⟨dO,a,b,c,e,f,rfl,inv,k1⟩
  have hi:i < N:=by have:=eU hd;rw [Wv,List.length_range] at this;exact this
  rw [WB,List.getElem?_range hi] at hd
  cases hd
  have ef:=dJ (d:=(([],[]):af.a9)) (show i < C.1.length by omega)
  have ew:=dJ (d:=([]:List df)) (show i < C.2.1.length by omega)
  obtain ⟨pu,lu,nu,q',hq',aq⟩:=F.r.wd i _ ew
  rw [ef] at hq'
  cases hq'
  dsimp only
  have nd:=F.r.nd
  have oq:=F.r.own _ (WG ef)
  generalize hq:C.1.getD i ([],[])=q at ef aq oq ⊢
  generalize C.2.1.getD i []=u at ew pu lu nu aq ⊢
  generalize C.2.2.getD i (0,0)=l
  have A3:∀ s∈u,af.cw s:=fun s hs=>af.Pl.pr pu s (Xn.mpr hs)
  have pb:=af.ya A3
  have V2:(af.ax u).le (19 ^ 15):=af.IZ (B:=18) (fun s hs=>⟨A3 s hs,by have:=nu s hs;omega⟩) (by omega)
  have lb:(af.ax (af.d3 u)).le (19 ^ 15):=by
   rw [af.vF A3]
   obtain ⟨h1,h2,h3,h4⟩:=V2
   exact ⟨h4,by show (-(af.ax u).b).natAbs<=_;rw [Int.natAbs_neg];exact h2,by show (-(af.ax u).c).natAbs<=_;rw [Int.natAbs_neg];exact h3,h1⟩
  have lr:(af.ax (w ++ af.d3 u)).le (2 ^ 77):=by
   rw [af.p7]
   exact uR (Ox lb lw) (by decide)
  have pr:∀ s∈w ++ af.d3 u,af.cw s:=fun s hs=>by
   rcases WX.mp hs with h | h
   ·exact pw s h
   ·exact pb s h
  have key:af.bL n (af.gA p (w ++ af.d3 u))=af.bL n p↔q=G:=by
   rw [af.Tw n0 w0 pw A3,hG,af.vK n0 (w0.ld n0 (w:=u)).v aq,oq.2]
   exact ⟨fun h=>h.symm,fun h=>h.symm⟩
  unfold zN
  kspl_open hQ
  refine ⟨rfl,hQ _ _ (aW (bO ?_))⟩
  clear hQ
  kspl_open hQ
  unfold wD
  refine aY (N9 (w:=u) (fun s hs=>⟨A3 s hs,by have:=nu s hs;omega⟩) (by omega)) ?_
  rintro d s2 ⟨rfl,k2⟩
  refine aY (V0 (w:=u) A3) ?_
  rintro d s3 ⟨rfl,k3⟩
  refine aY (Hh (A:=af.ax (af.d3 u)) (B:=af.ax w) (Hf (M:=19 ^ 15) (k:=64) (by decide) (by decide) lb (uR lw (by decide)))) ?_
  rintro d s4 ⟨rfl,V3⟩
  rw [<- af.p7]
  refine hQ _ _ (aW (iD ?_))
  clear hQ
  kspl_open hQ
  refine aY (Ow (w:=w ++ af.d3 u) w0 n0 hn (M:=2 ^ 77) (k:=78) (by decide) (by decide) pr lr) ?_
  rintro d s5 ⟨rfl,k5⟩
  have Oz:Ex [] s s5:=k1.trans (((k2.trans k3).trans V3).trans k5)
  have eQ:bz q=bX q.1 q.2:=rfl
  have eG:bz G=bX G.1 G.2:=rfl
  have eD:decide ([q.1,q.2]=[G.1,G.2])=decide (q=G):=decide_eq_decide.mpr wO
  have eK:decide (af.bL n (af.gA p (w ++ af.d3 u))=af.bL n p)=decide (q=G):=decide_eq_decide.mpr key
  rw [eQ,eG,JK,if_neg (by decide),eD,eK,zj,if_pos rfl,decide_eq_true rfl]
  refine ⟨_,rfl,hQ _ _ ⟨fun z=>absurd z (by decide),fun _=>jJ (iD ?_)⟩⟩
  clear hQ
  kspl_open hQ
  rw [eQ,eG,JK,if_neg (by decide),eD]
  refine ⟨_,rfl,hQ _ _ ⟨fun z=>bO ?_,fun z=>jJ ?_⟩⟩
  ·have z:q=G:=of_decide_eq_true z
   clear hQ
   have kO:Kp n p 1000000 dO:=by
    rcases inv with ⟨_,h⟩ | ⟨⟨k,hk,e⟩,_⟩
    ·exact h
    ·exfalso
     have ek:=dJ (d:=(([],[]):af.a9)) (show k < C.1.length by omega)
     rw [e] at ek
     rw [z] at ef
     obtain ⟨g1,g2⟩:=Ww.mp ek
     obtain ⟨g3,g4⟩:=Ww.mp ef
     exact XC.mp nd k i g1 g3 hk (by rw [g2,g4])
   obtain ⟨o,rfl,po,lo,go⟩:=kO
   kspl_open hQ
   refine aY (Hh (A:=af.ax (w ++ af.d3 u)) (B:=af.ax o) (Hf (M:=2 ^ 77) (k:=78) (by decide) (by decide) lr (uR lo (by decide)))) ?_
   rintro d s6 ⟨rfl,k6⟩
   rw [<- af.p7]
   refine hQ _ _ ⟨_,_,_,_,_,_,rfl,.inr ⟨⟨i,Xm i,by rw [hq];exact z⟩,o ++ (w ++ af.d3 u),rfl,fun s hs=>?_,?_,af.Tx n0 w0 go (key.mpr z)⟩,Oz.trans k6⟩
   ·rcases WX.mp hs with h | h
    ·exact po s h
    ·exact pr s h
   ·rw [af.p7]
    exact uR (Ox lr lo) (by decide)
  ·have z:q≠G:=of_decide_eq_false z
   refine ⟨_,_,_,_,_,_,rfl,?_,Oz⟩
   rcases inv with ⟨h1,h2⟩ | ⟨⟨k,hk,e⟩,h2⟩
   ·refine .inl ⟨fun k hk=>?_,h2⟩
    rcases Nat.lt_or_ge k i with h | h
    ·exact h1 k h
    ·have:k=i:=by omega
     subst this
     rw [hq];exact z
   ·exact .inr ⟨⟨k,by omega,e⟩,h2⟩
 ·rintro δ s1 ⟨dO,a,b,c,e,f,rfl,inv,k1⟩
  refine Oy _ _ _ _ _ _ _ ?_ k1
  rcases inv with ⟨_,h⟩ | ⟨_,h⟩
  ·exact h.more (by decide)
  ·exact h
theorem wU {s:Store} {n:Nat} {p:af.a9} {d:D} {v0 v1 v3 v5 v6 v7 v8 v9 v10 v11 wQ wR:Option D} {Nx B Co:av->Store->Prop} {R:D->Store->Prop} (w0:af.Wh n p) (n0:0 < n) (hn:n<=20) (k:Kp n p 1000000 d) (hN:∀ s',Ex [] s s'->Nx [v0,v1,some (bz p),v3,some d,v5,v6,v7,v8,v9,v10,v11,wQ,wR] s') :
  Ws ((eP (aJ (ay (qY true) (aN sW (ae (ag 2) (ae (ag 4) ah))) (fC (.bl true)))) (aV (fC (.bl false))) aU) [v0,v1,some (bz p),v3,some d,v5,v6,v7,v8,v9,v10,v11,wQ,wR] s) Nx B Co R:=by
 obtain ⟨o,rfl,po,lo,go⟩:=k
 refine iD ?_
 kspl_open hQ
 refine aY (Ow (w:=o) w0 n0 hn (M:=1000000) (k:=20) (by decide) (by decide) po lo) ?_
 rintro d s1 ⟨rfl,k1⟩
 rw [decide_eq_true go,zh]
 exact ⟨_,rfl,hQ _ _ ⟨fun z=>absurd z (by decide),fun _=>jJ (hN _ k1)⟩⟩
theorem tf (ns:List Int) (hns:ns.length<=63):Wp (JY [.ref 0] [.pQ (ns.map D.int)]) fun d _=>d=.bl true:=by
 refine eY ?_
 show Ws (G4 [some (.ref 0),none,none,none,none,none,none,none,none,none,none,none,none,none] [.pQ (ns.map D.int)]) _ _ _ _
 unfold G4
 have Hn:([O.pQ (ns.map D.int)]:Store)[0]?=some (.pQ (ns.map D.int)):=rfl
 generalize ([O.pQ (ns.map D.int)]:Store)=lW at Hn
 refine aW (bO ?_)
 kspl_open hQ
 rw [show (D.int 1)=.int ((1:Nat):Int) from rfl]
 refine aY (NL (a:=0) (ns:=ns) (k:=1) (Jy Hn) (by decide)) ?_
 rintro d t1 ⟨rfl,f1,k1⟩
 have V4:0 < lW.length:=eU Hn
 have h01:=k1.keep _ _ Hn (by simp)
 generalize lW.length=f at f1 V4
 refine hQ _ _ (aW (bO ?_))
 clear hQ
 kspl_open hQ
 refine aY (tU (n:=5) f1 (by decide) (by decide)) ?_
 rintro d t2 ⟨n1,rfl,Wq,Wr,f2,k2⟩
 w_how
 obtain ⟨n,hn1⟩:∃ n:Nat,(1:Int) + n1=(n:Int):=⟨(1 + n1).toNat,by omega⟩
 rw [hn1]
 refine aY (NS (n:=n) f2 (by omega) (by omega)) ?_
 rintro d t3 ⟨xs,ys,rfl,fl,f3,k3⟩
 have Kt:=(k2.trans k3).keep _ _ h01 (by simp;omega)
 have wA:=Kk fl
 refine hQ _ _ (aW (iD ?_))
 clear hQ
 kspl_open hQ
 refine aY (VU (p:=(xs,ys)) (most:=16) wA (show 0 < n by omega) (by omega) (by decide) (by decide)) ?_
 rintro d t4 ⟨k4,hc⟩
 have OA:=k4.keep _ _ Kt (by simp)
 have f4:=f3.keep k4
 have main:∀ (n N:Nat) (p:af.a9) (v1:Option D) (t:Store),af.Wh n p->0 < n->n<=20->N<=16->af.Full n p (af.ch n p N) N->(∀ j,j < N->j < (af.ch n p j).1.length)->t[0]?=some (.pQ (ns.map D.int)) ->
   Ws ((az (aI (aN (fun as=>zA (as ++ [.int 60])) (ae (ag 2) ah)) (hName 3))
 (az (aI (bq (ae (fC (.int 1)) (ae (fC (.int 0)) (ae (fC (.int 0)) (ae (fC (.int 1)) ah))))) (hName 4))
 (az (cT (nJ (ae (fC (.int 2)) (ae (aN pD (ae (fC (.int 4)) (ae (aN pE (ae (fC (.int 7)) (ae (aN cY (ae (ag 0) ah)) ah))) ah))) ah))) (hName 5) (az (aI (aN wz (ae (ag 0) (ae (ag 5) ah))) (hName 1))
 (az (aI (aN AU (ae (ag 1) (ae (fC (.int 5)) (ae (fC (.int 4)) ah)))) (hName 6))
 (az (aI (aN tR (ae (ag 6) ah)) (hName 7))
 (az (aI (aN rA (ae (aN AX (ae (ag 2) (ae (ag 6) ah))) ah)) (hName 8))
 (az (cT (cW (ag 3)) (kW 4 (bA (hName 9) (bA (hName 10) (bA (hName 11) (bA (hName 12) lV))))) (az (aI (aN qI (ae (aN zE (ae (aN tR (ae (ag 10) ah)) ah)) (ae (ag 7) ah))) (hName 13))
 (az (eP (aJ (ay (jE true) (aN sW (ae (ag 2) (ae (ag 13) ah))) (ay (iH false) (ag 9) (ag 8)))) (aV (fC (.bl false))) aU)
 (eP (aJ (ay (iH false) (ag 9) (ag 8))) (aI (aN qI (ae (ag 13) (ae (ag 4) ah))) (hName 4)) aU))))
 (az (eP (aJ (ay uE (aN nM (ae (c5 (cW (ag 4)) 1 [] (hName 0) dw (aN sQ (ae (ag 0) ah))) ah)) (fC (.int 1000000)))) (aI (bq (ae (fC (.int 1)) (ae (fC (.int 0)) (ae (fC (.int 0)) (ae (fC (.int 1)) ah))))) (hName 4)) aU)
 (eP (aJ (ay (qY true) (aN sW (ae (ag 2) (ae (ag 4) ah))) (fC (.bl true)))) (aV (fC (.bl false))) aU))))))))
 (aV (fC (.bl true)))))) [some (.ref 0),v1,some (bz p),none,none,none,none,none,none,none,none,none,none,none] t) (fun _ _=>D.non=D.bl true) (fun _ _=>False) (fun _ _=>False) (fun d _=>d=D.bl true):=by
  intro n N p v1 t w0 n0 hn hN F pr h0
  refine aW (bO ?_)
  kspl_open hQ
  rw [show (D.int 60)=.int ((60:Nat):Int) from rfl]
  show Wp (zA [bz p,.int ((60:Nat):Int)] t) _
  refine aY (VY (most:=60) w0 n0 hn F pr (by omega) (by decide)) ?_
  rintro d s1 ⟨rfl,e1⟩
  have h01:=e1.keep _ _ h0 (by simp)
  generalize af.ch n p N=C at F
  refine hQ _ _ (aW (bO ?_))
  clear hQ
  kspl_open hQ
  refine ⟨rfl,hQ _ _ ?_⟩
  clear hQ
  obtain ⟨m,hm,V5⟩:∃ m:Nat,(if (if (ns.length:Int) < 7 then (ns.length:Int) else 7) > 4 then (if (ns.length:Int) < 7 then (ns.length:Int) else 7) else 4)=(m:Int) + 2/\m<=8:=by
   refine ⟨((if (if (ns.length:Int) < 7 then (ns.length:Int) else 7) > 4 then (if (ns.length:Int) < 7 then (ns.length:Int) else 7) else 4) - 2).toNat,?_,?_⟩ <;> split <;> split <;> omega
  refine aW (mU (aH 2 m) (fun i δ s=>∃ (v1 v5 v6 v7 v8 v9 v10 v11 wQ wR:Option D) (d4:D),δ=[some (.ref 0),v1,some (bz p),some (qZ C N),some d4,v5,v6,v7,v8,v9,v10,v11,wQ,wR]/\s[0]?=some (.pQ (ns.map D.int))/\Kp n p 1000000 d4) ?_ (by rw [gu];omega) ?_ ?_)
  ·refine b9 ?_
   intro dI hQ
   set_option simprocs false in simp only [bH,Jy h01]
   rw [Wv,hm]
   exact ⟨2,(m:Int) + 2,⟨rfl,rfl⟩,⟨⟨by decide,by decide⟩,by omega,by omega⟩,hQ _ _ ⟨by rw [show ((m:Int) + 2 - 2).toNat=m by omega],_,_,_,_,_,_,_,_,_,_,_,rfl,h01,Kp.one⟩⟩
  ·rintro i d δ s hd ⟨v1,v5,v6,v7,v8,v9,v10,v11,wQ,wR,d4,rfl,h0,kp⟩
   have hil:=eU hd
   rw [gu] at hil
   rw [yo hil] at hd
   cases hd
   kspl_open hQ
   refine hQ _ _ (aW (bO ?_))
   clear hQ
   kspl_open hQ
   rw [show (2:Int) + (i:Int)=((2 + i:Nat):Int) by omega]
   refine aY (NL (a:=0) (ns:=ns) (k:=2 + i) (Jy h0) (by omega)) ?_
   rintro d s2 ⟨rfl,f2,e2⟩
   have h02:=e2.keep _ _ h0 (by simp)
   have IA:s.length≠0:=by have:=eU h0;omega
   generalize s.length=f at f2 IA
   refine hQ _ _ (aW (bO ?_))
   clear hQ
   kspl_open hQ
   refine aY (Vq (most:=5) (great:=4) f2 (by decide) (by decide) (by decide) (by decide)) ?_
   rintro d s3 ⟨w,rfl,hw,wl,f3,e3⟩
   have Kt:=e3.keep _ _ h02 (by simp;omega)
   have pw:∀ s∈w,af.cw s:=fun s hs=>Oj (hw s hs)
   refine hQ _ _ (aW (bO ?_))
   clear hQ
   kspl_open hQ
   refine aY (N9 (w:=w) (fun s hs=>⟨pw s hs,by have:=(hw s hs).2.1;omega⟩) (by omega)) ?_
   rintro d s4 ⟨rfl,e4⟩
   refine hQ _ _ (aW (bO ?_))
   clear hQ
   kspl_open hQ
   refine aY (Vo (p:=p) (w:=w) ⟨w0.v.1,w0.v.2⟩ (by omega) (Ol pw) (by omega)) ?_
   rintro d s5 ⟨rfl,e5⟩
   rw [Om]
   refine aY (Kl (xs:=(af.gA p w).1) (ys:=(af.gA p w).2) (wL (w0.ld n0 (w:=w))) n0 hn) ?_
   rintro d s6 ⟨rfl,e6⟩
   have Ku:=((e4.trans e5).trans e6).keep _ _ Kt (by simp)
   refine hQ _ _ (aW ?_)
   clear hQ
   refine V1 (w:=w) w0 n0 hn F hN hw (by omega) kp fun d a b c e f' s' kd k'=>?_
   have V6:=k'.keep _ _ Ku (by simp)
   obtain ⟨o,rfl,po,lo,go⟩:=kd
   refine aW (iD ?_)
   kspl_open hQ
   have eT:eV (af.ax o)=.tup ([(af.ax o).a,(af.ax o).b,(af.ax o).c,(af.ax o).d].map D.int):=rfl
   refine sO ([(af.ax o).a,(af.ax o).b,(af.ax o).c,(af.ax o).d].map D.int) (fun d=>.int (pK (inD d))) ?_ (show 4 < 100000 by decide) ?_ ?_
   ·kspl_open bT
    exact ⟨_,rfl,bT _ _ ⟨sN _ _,Ex.refl⟩⟩
   ·intro d hd s3 k3
    obtain ⟨x,hx,rfl⟩:=wk hd
    refine b9 ?_
    intro gy bT
    set_option simprocs false in simp only [bH,zi]
    exact bT _ _ ⟨rfl,Ex.refl⟩
   ·intro s3 k3
    rw [Az (f:=pK) fun x hx=>rfl]
    obtain ⟨mx,Wt,uT,hW⟩:=Tf (st:=s3 ++ [O.lst (([(af.ax o).a,(af.ax o).b,(af.ax o).c,(af.ax o).d].map pK).map D.int)]) (r:=s3.length) (ns:=[(af.ax o).a,(af.ax o).b,(af.ax o).c,(af.ax o).d].map pK) uJ (by simp)
    rw [hW]
    w_how
    have Kv:=kX (m:=[O.lst (([(af.ax o).a,(af.ax o).b,(af.ax o).c,(af.ax o).d].map pK).map D.int)]) (k3.keep _ _ V6 (by simp))
    generalize s3 ++ [O.lst (([(af.ax o).a,(af.ax o).b,(af.ax o).c,(af.ax o).d].map pK).map D.int)]=s8 at Kv ⊢
    refine hQ _ _ ⟨fun hc=>bO ?_,fun hc=>jJ ?_⟩
    ·clear hQ
     kspl_open hQ
     refine ⟨rfl,hQ _ _ ?_⟩
     exact wU w0 n0 hn Kp.one fun s9 k9=>⟨_,_,_,_,_,_,_,_,_,_,_,rfl,k9.keep _ _ Kv (by simp),Kp.one⟩
    ·have hc:mx<=1000000:=by have:=of_decide_eq_false hc;omega
     have ab:∀ x:Int,pK x<=mx->x.natAbs<=1000000:=fun x h=>by
      unfold pK at h
      split at h <;> omega
     have hle:(af.ax o).le 1000000:=⟨ab _ (uT _ (by simp)),ab _ (uT _ (by simp)),ab _ (uT _ (by simp)),ab _ (uT _ (by simp))⟩
     have kk:Kp n p 1000000 (eV (af.ax o)):=⟨o,rfl,po,hle,go⟩
     exact wU w0 n0 hn kk fun s9 k9=>⟨_,_,_,_,_,_,_,_,_,_,_,rfl,k9.keep _ _ Kv (by simp),kk⟩
  ·rintro δ s ⟨v1,v5,v6,v7,v8,v9,v10,v11,wQ,wR,d4,rfl,h0,kp⟩
   refine dz ?_
   kspl_open hQ
   exact hQ _ _ rfl
 rcases hc with ⟨N,V7,hF,pr,rfl⟩ | ⟨rfl,i,pr,hi⟩
 ·obtain ⟨ds,V8⟩:∃ ds,qZ (af.ch n (xs,ys) N) N=.tup ds:=⟨_,rfl⟩
  rw [V8,S5]
  exact ⟨_,rfl,hQ _ _ ⟨fun z=>(nomatch z),fun _=>jJ (main n N (xs,ys) _ _ wA (by omega) (by omega) V7 hF pr OA)⟩⟩
 ·rw [S4]
  refine ⟨_,rfl,hQ _ _ ⟨fun _=>bO ?_,fun z=>(nomatch z)⟩⟩
  clear hQ
  kspl_open hQ
  refine aY (tU (n:=3) f4 (by decide) (by decide)) ?_
  rintro d t5 ⟨n2,rfl,NT,Wu,f5,k5⟩
  w_how
  obtain ⟨n',hn2⟩:∃ n':Nat,(1:Int) + n2=(n':Int):=⟨(1 + n2).toNat,by omega⟩
  rw [hn2]
  refine aY (NS (n:=n') f5 (by omega) (by omega)) ?_
  rintro d t6 ⟨xs',ys',rfl,Kj,f6,k6⟩
  have Ku:=(k5.trans k6).keep _ _ OA (by simp;omega)
  have wB:=Kk Kj
  obtain ⟨N,hF,Hm,hN⟩:=af.TB (n:=n') (p:=(xs',ys')) (by omega) (by omega) wB
  refine hQ _ _ (main n' N (xs',ys') _ _ wB (by omega) (by omega) hN hF Hm Ku)
theorem zP {P:Program} {w:World} {K:Zfr} {mg:Str->Option Value} {base:Heap} (T:Txt mg) {e8:V} (de:ph K mg "QUARTER_charts" e8 (.tup [(.str "t"),(.int 1)])) {gh:V} (dG:ph K mg "QUARTER_words" gh (.tup [(.int 0),(.int (-1)),(.int 1),(.int 0)])) {qb:V} (oY:ph K mg "SHEAR" qb (.tup [(.str "s"),(.int 1)])) {jY:V} (eM:ph K mg "UNMOVED" jY (.tup [(.int 1),(.int 0),(.int 0),(.int 1)])) {je:Addr} {jf:FuncData} (gi:Def K mg "_law_feed" Dq ["_law_script","_law_k"] je jf) {bw:Addr} {bx:FuncData} (aP:Def K mg "_law_take" wC ["_law_feed_here","_law_many"] bw bx) {d6:Addr} {d7:FuncData} (c6:Def K mg "_law_turning" Dr ["_law_feed_here","_law_n"] d6 d7) {kl:Addr} {km:FuncData} (iE:Def K mg "_law_met" Ds ["_law_floor_here"] kl km) {gS:Addr} {gT:FuncData} (eN:Def K mg "_law_floor" Du ["_law_feed_here","_law_n"] gS gT) {bC:Addr} {bD:FuncData} (bE:Def K mg "turned_back" zy ["turning"] bC bD) {dR:Addr} {dS:FuncData} (cD:Def K mg "followed" AE ["one","other"] dR dS) {fw:Addr} {fz:FuncData} (fA:Def K mg "called_anew" Dx ["floor","p"] fw fz) {d9:Addr} {eh:FuncData} (eo:Def K mg "squares_from" Dz ["floor","s"] d9 eh) {c7:Addr} {c9:FuncData} (dc:Def K mg "numbering_from" DB ["floor","s"] c7 c9) {dA:Addr} {dB:FuncData} (dC:Def K mg "numbered_from" DE ["floor","s"] dA dB) {cj:Addr} {ck:FuncData} (cm:Def K mg "form_of" wG ["floor"] cj ck) {iM:Addr} {iN:FuncData} (iO:Def K mg "ring_from" DG ["turning","first"] iM iN) {ko:Addr} {kq:FuncData} (kr:Def K mg "rings_of" DI ["turning"] ko kq) {oU:Addr} {oV:FuncData} (oW:Def K mg "often" DK ["turning","k"] oU oV) {lX:Addr} {lY:FuncData} (lZ:Def K mg "sheared" DN ["floor","k"] lX lY) {iP:Addr} {iQ:FuncData} (iR:Def K mg "quartered" DP ["floor"] iP iQ) {fB:Addr} {fD:FuncData} (fE:Def K mg "led_by_step" DR ["floor","step"] fB fD) {iT:Addr} {iU:FuncData} (iW:Def K mg "led_by" AH ["floor","word"] iT iU) {nz:Addr} {nA:FuncData} (nB:Def K mg "joined" DT ["one","other"] nz nA) {gB:Addr} {gC:FuncData} (gD:Def K mg "made_plain" DW ["word"] gB gC) {bY:Addr} {bZ:FuncData} (b5:Def K mg "put_together" AI ["one","other"] bY bZ) {gE:Addr} {gF:FuncData} (eJ:Def K mg "row_led_to" DY ["forms","words","place","step"] gE gF) {kF:Addr} {kG:FuncData} (fU:se K mg "chart_of" DZ ["floor","most"] [V.int 60] kF kG) {dD:Addr} {dE:FuncData} (dF:Def K mg "_law_numbered" D1 ["_law_floor_here","_law_s"] dD dE) {dg:Addr} {dh:FuncData} (cM:Def K mg "_law_form" AJ ["_law_floor_here"] dg dh) {fF:Addr} {fG:FuncData} (fH:Def K mg "_law_behind" D3 ["_law_turning_here","_law_s","_law_k"] fF fG) {b6:Addr} {b7:FuncData} (b8:Def K mg "_law_stepped" AL ["_law_floor_here","_law_step"] b6 b7) {gH:Addr} {gI:FuncData} (gJ:Def K mg "_law_plain" D4 ["_law_word_here"] gH gI) {gW:Addr} {gX:FuncData} (gY:Def K mg "_law_chart" D6 ["_law_floor_here","_law_most"] gW gX) {jh:Addr} {ji:FuncData} (jk:Def K mg "_law_word" D7 ["_law_feed_here","_law_most","_law_great"] jh ji) {cN:Addr} {cO:FuncData} (cu:Def K mg "_law_times" AV ["_law_one","_law_other"] cN cO) {gZ:Addr} {g5:FuncData} (eO:Def K mg "_law_table" D8 ["_law_word_here"] gZ g5) {kH:Addr} {kI:FuncData} (kJ:Def K mg "_law_led" D9 ["_law_floor_here","_law_word_here"] kH kI) {ky:Addr} {kz:FuncData} (kA:Def K mg "led_pair" Eb ["table","pair"] ky kz) {iZ:Addr} {i3:FuncData} (gO:Def K mg "shears" AY ["k"] iZ i3) {hV:Addr} {h8:FuncData} (h9:Def K mg "times" zD ["one","other"] hV h8) {gK:Addr} {gL:FuncData} (gM:Def K mg "step_table" Ed ["step"] gK gL) {dU:Addr} {dW:FuncData} (dX:Def K mg "table_of" AZ ["word"] dU dW) {l6:Addr} {l8:FuncData} (l9:Def K mg "nearest" Ef ["number","divisor"] l6 l8) {fI:Addr} {fJ:FuncData} (fK:Def K mg "level_steps" Eh ["pair"] fI fJ) {kC:Addr} {kD:FuncData} (kE:Def K mg "is_table" Ej ["thing"] kC kD) {gP:Addr} {gQ:FuncData} (gR:Def K mg "level_word" El ["table"] gP gQ) {i6:Addr} {i7:FuncData} (i9:Def K mg "back_step" En ["step"] i6 i7) {jb:Addr} {jc:FuncData} (jd:Def K mg "back_word" Ep ["word"] jb jc) {ma:Addr} {md:FuncData} (mf:Def K mg "word_of" Es ["table"] ma md) {eA:Addr} {eB:FuncData} (eC:Def K mg "led_by_table" Eu ["floor","table"] eA eB) {fL:Addr} {fM:FuncData} (dH:Def K mg "is_of_group" Ew ["floor","table"] fL fM) {fO:Addr} {fP:FuncData} (fQ:Def K mg "_law_undone" Ey ["_law_table_here"] fO fP) {ER:Addr} {ES:FuncData} (Kw:Def K mg "law" G5 ["_law_script"] ER ES):aE P w K mg base a7 9 ER ES ["_law_script"] (bj K 1 JY):=by
 have jg:=TH (P:=P) (w:=w) (base:=base) gi T
 have aQ:=TJ (P:=P) (w:=w) (base:=base) aP T
 have d8:=TK (P:=P) (w:=w) (base:=base) c6 T  aP aQ
 have kn:=TL (P:=P) (w:=w) (base:=base) iE T
 have gU:=TM (P:=P) (w:=w) (base:=base) eN T  aP aQ c6 d8 iE kn
 have bK:=TN (P:=P) (w:=w) (base:=base) bE T
 have cU:=TR (P:=P) (w:=w) (base:=base) cD T
 have iL:=TU (P:=P) (w:=w) (base:=base) fA T  bE bK cD cU
 have hU:=TV (P:=P) (w:=w) (base:=base) eo T
 have e7:=TY (P:=P) (w:=w) (base:=base) dc T  bE bK eo hU
 have gf:=T2 (P:=P) (w:=w) (base:=base) dC T  fA iL dc e7
 have cB:=T5 (P:=P) (w:=w) (base:=base) cm T  dC gf
 have lg:=T6 (P:=P) (w:=w) (base:=base) iO T
 have mz:=T7 (P:=P) (w:=w) (base:=base) kr T  iO lg
 have qa:=T8 (P:=P) (w:=w) (base:=base) oW T  kr mz
 have nO:=Ua (P:=P) (w:=w) (base:=base) lZ T  cD cU oW qa
 have lh:=Uc (P:=P) (w:=w) (base:=base) iR T  bE bK
 have iS:=Ud (P:=P) (w:=w) (base:=base) fE T  lZ nO iR lh
 have ku:=Ue (P:=P) (w:=w) (base:=base) iW T  fE iS
 have oX:=Ug (P:=P) (w:=w) (base:=base) nB T
 have jW:=Uh (P:=P) (w:=w) (base:=base) gD T  nB oX
 have cE:=Uj (P:=P) (w:=w) (base:=base) b5 T  gD jW
 have gG:=Uk (P:=P) (w:=w) (base:=base) eJ T  cm cB iW ku b5 cE
 have mD:=Um (P:=P) (w:=w) (base:=base) fU T de oY cm cB eJ gG
 have gg:=Uo (P:=P) (w:=w) (base:=base) dF T
 have di:=Uq (P:=P) (w:=w) (base:=base) cM T  dF gg
 have iX:=Ur (P:=P) (w:=w) (base:=base) fH T
 have cF:=Us (P:=P) (w:=w) (base:=base) b8 T  fH iX
 have jX:=Ut (P:=P) (w:=w) (base:=base) gJ T
 have j5:=Uu (P:=P) (w:=w) (base:=base) gY T  cM di b8 cF gJ jX
 have lq:=Uv (P:=P) (w:=w) (base:=base) jk T  aP aQ
 have cP:=Uw (P:=P) (w:=w) (base:=base) cu T
 have g7:=Ux (P:=P) (w:=w) (base:=base) eO T  cu cP
 have mE:=Uy (P:=P) (w:=w) (base:=base) kJ T  b8 cF
 have mB:=UA (P:=P) (w:=w) (base:=base) kA T
 have i5:=UC (P:=P) (w:=w) (base:=base) gO T
 have iY:=UE (P:=P) (w:=w) (base:=base) h9 T
 have jZ:=UG (P:=P) (w:=w) (base:=base) gM T dG eM h9 iY
 have fT:=UH (P:=P) (w:=w) (base:=base) dX T eM h9 iY gM jZ
 have nP:=UJ (P:=P) (w:=w) (base:=base) l9 T
 have ja:=UK (P:=P) (w:=w) (base:=base) fK T  kA mB gO i5 dX fT l9 nP
 have mC:=UM (P:=P) (w:=w) (base:=base) kE T
 have j4:=UO (P:=P) (w:=w) (base:=base) gR T  gO i5
 have lj:=UQ (P:=P) (w:=w) (base:=base) i9 T
 have lp:=US (P:=P) (w:=w) (base:=base) jd T  i9 lj
 have nQ:=UT (P:=P) (w:=w) (base:=base) mf T  fK ja b5 cE kE mC gR j4 jd lp h9 iY dX fT
 have ie:=UW (P:=P) (w:=w) (base:=base) eC T  cm cB iW ku mf nQ
 have fN:=UY (P:=P) (w:=w) (base:=base) dH T  eC ie cm cB
 have jl:=U0 (P:=P) (w:=w) (base:=base) fQ T
 have Kx:=zF (P:=P) (w:=w) (base:=base) Kw T  gi jg eN gU fU mD gY j5 jk lq eO g7 cM di aP aQ kJ mE cu cP dH fN fQ jl
 exact Kx
end My
open PySem PySem.W PyProof.Rows L2
namespace PySem.W.Fast
theorem tw15845497822025917175:True:=⟨⟩
theorem tw10213560588381087243:True:=⟨⟩
theorem tw15844091612656779197:True:=⟨⟩
theorem tw8611006056593943830:True:=⟨⟩
theorem tw3326291796646576023:True:=⟨⟩
theorem tw8281990878637349609:True:=⟨⟩
theorem tw8004590083525124386:True:=⟨⟩
theorem tw704353394691171041:True:=⟨⟩
theorem tw12685543335095820770:True:=⟨⟩
theorem tw632185327719975140:True:=⟨⟩
theorem tw9719769411333737534:True:=⟨⟩
theorem tw17291961352135435706:True:=⟨⟩
theorem tw5531855925502726303:True:=⟨⟩
theorem tw11438358729375315500:True:=⟨⟩
theorem tw18085063058037392848:True:=⟨⟩
theorem tw14635683997679821465:True:=⟨⟩
theorem tw10738945718757938571:True:=⟨⟩
theorem tw8673459644598250431:True:=⟨⟩
theorem tw5071394254277382593:True:=⟨⟩
theorem tw15697788125652865798:True:=⟨⟩
theorem tw8420962908545251722:True:=⟨⟩
theorem tw561838807980077397:True:=⟨⟩
theorem tw5830535383734483814:True:=⟨⟩
theorem tw10023040167572850180:True:=⟨⟩
theorem tw536124622210659502:True:=⟨⟩
theorem tw7316896567180253251:True:=⟨⟩
theorem tw13352935719345052115:True:=⟨⟩
theorem tw10287871456159176333:True:=⟨⟩
theorem tw13818936263244983921:True:=⟨⟩
theorem tw5314888096718481601:True:=⟨⟩
theorem tw4958533000164184013:True:=⟨⟩
theorem tw15491034001777905637:True:=⟨⟩
theorem tw18406357604517378974:True:=⟨⟩
theorem tw16586689618837269950:True:=⟨⟩
theorem tw2866009361223417987:True:=⟨⟩
theorem tw5965521379723261920:True:=⟨⟩
theorem tw4277295385173490147:True:=⟨⟩
theorem tw3076970269561656572:True:=⟨⟩
theorem tw17426328174545171899:True:=⟨⟩
theorem tw15110630963394883788:True:=⟨⟩
theorem tw5810572418667092157:True:=⟨⟩
theorem tw10140510337313857381:True:=⟨⟩
theorem tw13413992501588314698:True:=⟨⟩
theorem tw9128908810160956401:True:=⟨⟩
theorem tw8925178544661033589:True:=⟨⟩
theorem tw10180791023706975176:True:=⟨⟩
theorem tw18040502245843504172:True:=⟨⟩
theorem tw7475313717110749659:True:=⟨⟩
theorem tw10092759756253394835:True:=⟨⟩
theorem tw12382488405517495784:True:=⟨⟩
theorem tw12349547798920760767:True:=⟨⟩
theorem tw12580436796026879461:True:=⟨⟩
theorem tw11881802048659027434:True:=⟨⟩
theorem tw12607872639347509285:True:=⟨⟩
theorem tw6820126544673411885:True:=⟨⟩
theorem tw13589026259798133137:True:=⟨⟩
theorem tw13855963358243501782:True:=⟨⟩
theorem tw4596180006143960623:True:=⟨⟩
theorem tw18070423572330775884:True:=⟨⟩
theorem tw696653318577928349:True:=⟨⟩
theorem tw7630277155472680134:True:=⟨⟩
theorem tw4862917887005351497:True:=⟨⟩
theorem tw6814911350717609316:True:=⟨⟩
theorem tw12949432846990100535:True:=⟨⟩
theorem tw5315429563211355126:True:=⟨⟩
theorem tw14099524534724048130:True:=⟨⟩
theorem tw13107309580472447084:True:=⟨⟩
theorem tw10700154519590621752:True:=⟨⟩
theorem tw511625045155698554:True:=⟨⟩
theorem tw1953060452171948235:True:=⟨⟩
theorem tw2316980988519337399:True:=⟨⟩
theorem tw530134795469986635:True:=⟨⟩
theorem tw741655155933699043:True:=⟨⟩
theorem tw13928487535884485163:True:=⟨⟩
theorem tw3113582195801167611:True:=⟨⟩
theorem tw8183603341491690907:True:=⟨⟩
theorem tw899789933721889881:True:=⟨⟩
theorem tw8623451196674626790:True:=⟨⟩
theorem tw9688437491027064487:True:=⟨⟩
end PySem.W.Fast
set_option maxRecDepth 100000 in
set_option maxHeartbeats 0 in
theorem PySem.Challenge.cw_shearfloor_k41_whole_rows_part_the_table_holds : PySem.Challenge.rw_shearfloor_k41_whole_rows_part_the_table.Holds := by
 w_on;o_law;k_head;(case hw=>w_witness2)
 k_fill
 refine L2.Pz (l:=PySem.Challenge.rw_shearfloor_k41_whole_rows_part_the_table) (n:=63) (k:=9) (x:="_law_script") (CX:=a7) (sp:=L4.wb) rfl (by decide) rfl ⟨rfl,by decide,by decide,rfl⟩ (fun w h Y=>PySem.W.kIn_of Y) ?F ?S ?C
 case F =>
  intro w mg fa h KX G hmg
  have T:My.Txt mg:=by
   refine' ⟨tG KX G ?z0,tG KX G ?z1,tG KX G ?z2,tG KX G ?z3,tG KX G ?z4,tG KX G ?z5,tG KX G ?z6,tG KX G ?z7,tG KX G ?z8,tG KX G ?z9⟩
   (case z0=>k_is);(case z1=>k_is);(case z2=>k_is);(case z3=>k_is);(case z4=>k_is);(case z5=>k_is);(case z6=>k_is);(case z7=>k_is);(case z8=>k_is);(case z9=>k_is)
  have dY:∃ v,L4.ph (L2.KOf KX) mg "QUARTER_charts" v (.tup [(.str "t"),(.int 1)]):=by
   dsimp only [L2.KOf];refine' L4.FP (vs:=[V.str "t",V.int 1]) KX G ?a ?l ?o ?z ?v ?d
   (case a=>k_is);(case l=>k_is);(case o=>rfl);(case z=>decide);(case v=>exact (.cons ⟨_,rfl⟩ (.cons ⟨_,rfl⟩ .nil)));(case d=>exact fun ρ H=>(.cons (.str _) (.cons (.int _) .nil)))
  obtain ⟨_,dY⟩:=dY
  have fe:∃ v,L4.ph (L2.KOf KX) mg "QUARTER_words" v (.tup [(.int 0),(.int (-1)),(.int 1),(.int 0)]):=by
   dsimp only [L2.KOf];refine' L4.FP (vs:=[V.int 0,V.int (-1),V.int 1,V.int 0]) KX G ?a ?l ?o ?z ?v ?d
   (case a=>k_is);(case l=>k_is);(case o=>rfl);(case z=>decide);(case v=>exact (.cons ⟨_,rfl⟩ (.cons ⟨_,rfl⟩ (.cons ⟨_,rfl⟩ (.cons ⟨_,rfl⟩ .nil)))));(case d=>exact fun ρ H=>(.cons (.int _) (.cons (.int _) (.cons (.int _) (.cons (.int _) .nil)))))
  obtain ⟨_,fe⟩:=fe
  have oZ:∃ v,L4.ph (L2.KOf KX) mg "SHEAR" v (.tup [(.str "s"),(.int 1)]):=by
   dsimp only [L2.KOf];refine' L4.FP (vs:=[V.str "s",V.int 1]) KX G ?a ?l ?o ?z ?v ?d
   (case a=>k_is);(case l=>k_is);(case o=>rfl);(case z=>decide);(case v=>exact (.cons ⟨_,rfl⟩ (.cons ⟨_,rfl⟩ .nil)));(case d=>exact fun ρ H=>(.cons (.str _) (.cons (.int _) .nil)))
  obtain ⟨_,oZ⟩:=oZ
  have mF:∃ v,L4.ph (L2.KOf KX) mg "UNMOVED" v (.tup [(.int 1),(.int 0),(.int 0),(.int 1)]):=by
   dsimp only [L2.KOf];refine' L4.FP (vs:=[V.int 1,V.int 0,V.int 0,V.int 1]) KX G ?a ?l ?o ?z ?v ?d
   (case a=>k_is);(case l=>k_is);(case o=>rfl);(case z=>decide);(case v=>exact (.cons ⟨_,rfl⟩ (.cons ⟨_,rfl⟩ (.cons ⟨_,rfl⟩ (.cons ⟨_,rfl⟩ .nil)))));(case d=>exact fun ρ H=>(.cons (.int _) (.cons (.int _) (.cons (.int _) (.cons (.int _) .nil)))))
  obtain ⟨_,mF⟩:=mF
  have j6:∃ f fd,Def (L2.KOf KX) mg "_law_feed" My.Dq ["_law_script","_law_k"] f fd:=by
   dsimp only [L2.KOf];refine' ft KX G (fun _ _ _ _ _ _ us hl=>match us,hl with | [_,_],_=>rfl) ?a ?l ?c ?k
   (case a=>k_is);(case l=>k_is);(case c=>k_is);(case k=>k_is)
  obtain ⟨_,_,j6⟩:=j6
  have j7:∃ f fd,Def (L2.KOf KX) mg "_law_take" My.wC ["_law_feed_here","_law_many"] f fd:=by
   dsimp only [L2.KOf];refine' ft KX G (fun _ _ _ _ _ _ us hl=>match us,hl with | [_,_],_=>rfl) ?a ?l ?c ?k
   (case a=>k_is);(case l=>k_is);(case c=>k_is);(case k=>k_is)
  obtain ⟨_,_,j7⟩:=j7
  have gj:∃ f fd,Def (L2.KOf KX) mg "_law_turning" My.Dr ["_law_feed_here","_law_n"] f fd:=by
   dsimp only [L2.KOf];refine' ft KX G (fun _ _ _ _ _ _ us hl=>match us,hl with | [_,_],_=>rfl) ?a ?l ?c ?k
   (case a=>k_is);(case l=>k_is);(case c=>k_is);(case k=>k_is)
  obtain ⟨_,_,gj⟩:=gj
  have lz:∃ f fd,Def (L2.KOf KX) mg "_law_met" My.Ds ["_law_floor_here"] f fd:=by
   dsimp only [L2.KOf];refine' ft KX G (fun _ _ _ _ _ _ us hl=>match us,hl with | [_],_=>rfl) ?a ?l ?c ?k
   (case a=>k_is);(case l=>k_is);(case c=>k_is);(case k=>k_is)
  obtain ⟨_,_,lz⟩:=lz
  have jm:∃ f fd,Def (L2.KOf KX) mg "_law_floor" My.Du ["_law_feed_here","_law_n"] f fd:=by
   dsimp only [L2.KOf];refine' ft KX G (fun _ _ _ _ _ _ us hl=>match us,hl with | [_,_],_=>rfl) ?a ?l ?c ?k
   (case a=>k_is);(case l=>k_is);(case c=>k_is);(case k=>k_is)
  obtain ⟨_,_,jm⟩:=jm
  have ig:∃ f fd,Def (L2.KOf KX) mg "turned_back" My.zy ["turning"] f fd:=by
   dsimp only [L2.KOf];refine' ft KX G (fun _ _ _ _ _ _ us hl=>match us,hl with | [_],_=>rfl) ?a ?l ?c ?k
   (case a=>k_is);(case l=>k_is);(case c=>k_is);(case k=>k_is)
  obtain ⟨_,_,ig⟩:=ig
  have lA:∃ f fd,Def (L2.KOf KX) mg "followed" My.AE ["one","other"] f fd:=by
   dsimp only [L2.KOf];refine' ft KX G (fun _ _ _ _ _ _ us hl=>match us,hl with | [_,_],_=>rfl) ?a ?l ?c ?k
   (case a=>k_is);(case l=>k_is);(case c=>k_is);(case k=>k_is)
  obtain ⟨_,_,lA⟩:=lA
  have ik:∃ f fd,Def (L2.KOf KX) mg "called_anew" My.Dx ["floor","p"] f fd:=by
   dsimp only [L2.KOf];refine' ft KX G (fun _ _ _ _ _ _ us hl=>match us,hl with | [_,_],_=>rfl) ?a ?l ?c ?k
   (case a=>k_is);(case l=>k_is);(case c=>k_is);(case k=>k_is)
  obtain ⟨_,_,ik⟩:=ik
  have gk:∃ f fd,Def (L2.KOf KX) mg "squares_from" My.Dz ["floor","s"] f fd:=by
   dsimp only [L2.KOf];refine' ft KX G (fun _ _ _ _ _ _ us hl=>match us,hl with | [_,_],_=>rfl) ?a ?l ?c ?k
   (case a=>k_is);(case l=>k_is);(case c=>k_is);(case k=>k_is)
  obtain ⟨_,_,gk⟩:=gk
  have dZ:∃ f fd,Def (L2.KOf KX) mg "numbering_from" My.DB ["floor","s"] f fd:=by
   dsimp only [L2.KOf];refine' ft KX G (fun _ _ _ _ _ _ us hl=>match us,hl with | [_,_],_=>rfl) ?a ?l ?c ?k
   (case a=>k_is);(case l=>k_is);(case c=>k_is);(case k=>k_is)
  obtain ⟨_,_,dZ⟩:=dZ
  have ff:∃ f fd,Def (L2.KOf KX) mg "numbered_from" My.DE ["floor","s"] f fd:=by
   dsimp only [L2.KOf];refine' ft KX G (fun _ _ _ _ _ _ us hl=>match us,hl with | [_,_],_=>rfl) ?a ?l ?c ?k
   (case a=>k_is);(case l=>k_is);(case c=>k_is);(case k=>k_is)
  obtain ⟨_,_,ff⟩:=ff
  have mG:∃ f fd,Def (L2.KOf KX) mg "form_of" My.wG ["floor"] f fd:=by
   dsimp only [L2.KOf];refine' ft KX G (fun _ _ _ _ _ _ us hl=>match us,hl with | [_],_=>rfl) ?a ?l ?c ?k
   (case a=>k_is);(case l=>k_is);(case c=>k_is);(case k=>k_is)
  obtain ⟨_,_,mG⟩:=mG
  have j8:∃ f fd,Def (L2.KOf KX) mg "ring_from" My.DG ["turning","first"] f fd:=by
   dsimp only [L2.KOf];refine' ft KX G (fun _ _ _ _ _ _ us hl=>match us,hl with | [_,_],_=>rfl) ?a ?l ?c ?k
   (case a=>k_is);(case l=>k_is);(case c=>k_is);(case k=>k_is)
  obtain ⟨_,_,j8⟩:=j8
  have lB:∃ f fd,Def (L2.KOf KX) mg "rings_of" My.DI ["turning"] f fd:=by
   dsimp only [L2.KOf];refine' ft KX G (fun _ _ _ _ _ _ us hl=>match us,hl with | [_],_=>rfl) ?a ?l ?c ?k
   (case a=>k_is);(case l=>k_is);(case c=>k_is);(case k=>k_is)
  obtain ⟨_,_,lB⟩:=lB
  have o3:∃ f fd,Def (L2.KOf KX) mg "often" My.DK ["turning","k"] f fd:=by
   dsimp only [L2.KOf];refine' ft KX G (fun _ _ _ _ _ _ us hl=>match us,hl with | [_,_],_=>rfl) ?a ?l ?c ?k
   (case a=>k_is);(case l=>k_is);(case c=>k_is);(case k=>k_is)
  obtain ⟨_,_,o3⟩:=o3
  have mH:∃ f fd,Def (L2.KOf KX) mg "sheared" My.DN ["floor","k"] f fd:=by
   dsimp only [L2.KOf];refine' ft KX G (fun _ _ _ _ _ _ us hl=>match us,hl with | [_,_],_=>rfl) ?a ?l ?c ?k
   (case a=>k_is);(case l=>k_is);(case c=>k_is);(case k=>k_is)
  obtain ⟨_,_,mH⟩:=mH
  have j9:∃ f fd,Def (L2.KOf KX) mg "quartered" My.DP ["floor"] f fd:=by
   dsimp only [L2.KOf];refine' ft KX G (fun _ _ _ _ _ _ us hl=>match us,hl with | [_],_=>rfl) ?a ?l ?c ?k
   (case a=>k_is);(case l=>k_is);(case c=>k_is);(case k=>k_is)
  obtain ⟨_,_,j9⟩:=j9
  have il:∃ f fd,Def (L2.KOf KX) mg "led_by_step" My.DR ["floor","step"] f fd:=by
   dsimp only [L2.KOf];refine' ft KX G (fun _ _ _ _ _ _ us hl=>match us,hl with | [_,_],_=>rfl) ?a ?l ?c ?k
   (case a=>k_is);(case l=>k_is);(case c=>k_is);(case k=>k_is)
  obtain ⟨_,_,il⟩:=il
  have nR:∃ f fd,Def (L2.KOf KX) mg "led_by" My.AH ["floor","word"] f fd:=by
   dsimp only [L2.KOf];refine' ft KX G (fun _ _ _ _ _ _ us hl=>match us,hl with | [_,_],_=>rfl) ?a ?l ?c ?k
   (case a=>k_is);(case l=>k_is);(case c=>k_is);(case k=>k_is)
  obtain ⟨_,_,nR⟩:=nR
  have nS:∃ f fd,Def (L2.KOf KX) mg "joined" My.DT ["one","other"] f fd:=by
   dsimp only [L2.KOf];refine' ft KX G (fun _ _ _ _ _ _ us hl=>match us,hl with | [_,_],_=>rfl) ?a ?l ?c ?k
   (case a=>k_is);(case l=>k_is);(case c=>k_is);(case k=>k_is)
  obtain ⟨_,_,nS⟩:=nS
  have jn:∃ f fd,Def (L2.KOf KX) mg "made_plain" My.DW ["word"] f fd:=by
   dsimp only [L2.KOf];refine' ft KX G (fun _ _ _ _ _ _ us hl=>match us,hl with | [_],_=>rfl) ?a ?l ?c ?k
   (case a=>k_is);(case l=>k_is);(case c=>k_is);(case k=>k_is)
  obtain ⟨_,_,jn⟩:=jn
  have gn:∃ f fd,Def (L2.KOf KX) mg "put_together" My.AI ["one","other"] f fd:=by
   dsimp only [L2.KOf];refine' ft KX G (fun _ _ _ _ _ _ us hl=>match us,hl with | [_,_],_=>rfl) ?a ?l ?c ?k
   (case a=>k_is);(case l=>k_is);(case c=>k_is);(case k=>k_is)
  obtain ⟨_,_,gn⟩:=gn
  have jq:∃ f fd,Def (L2.KOf KX) mg "row_led_to" My.DY ["forms","words","place","step"] f fd:=by
   dsimp only [L2.KOf];refine' ft KX G (fun _ _ _ _ _ _ us hl=>match us,hl with | [_,_,_,_],_=>rfl) ?a ?l ?c ?k
   (case a=>k_is);(case l=>k_is);(case c=>k_is);(case k=>k_is)
  obtain ⟨_,_,jq⟩:=jq
  have lC:∃ f fd,se (L2.KOf KX) mg "chart_of" My.DZ ["floor","most"] [V.int 60] f fd:=by
   dsimp only [L2.KOf];refine' QA (d:=1) KX G (by decide) (fun _ _ _ _ _ _ _ us ds hl hd=>match us,ds,hl,hd with | [_],[_],_,_=>⟨_,rfl,rfl⟩) (fun _ _ _ _ _ _ _ us ds hl hd=>match us,ds,hl,hd with | [_,_],[_],_,_=>⟨_,rfl,rfl⟩) ?a ?l ?lT ?e ?v ?c ?k
   (case a=>k_is);(case l=>k_is);(case lT=>k_is);(case e=>rfl);(case v=>exact .cons ⟨_,rfl⟩ (.nil));(case c=>k_is);(case k=>k_is)
  obtain ⟨_,_,lC⟩:=lC
  have fg:∃ f fd,Def (L2.KOf KX) mg "_law_numbered" My.D1 ["_law_floor_here","_law_s"] f fd:=by
   dsimp only [L2.KOf];refine' ft KX G (fun _ _ _ _ _ _ us hl=>match us,hl with | [_,_],_=>rfl) ?a ?l ?c ?k
   (case a=>k_is);(case l=>k_is);(case c=>k_is);(case k=>k_is)
  obtain ⟨_,_,fg⟩:=fg
  have ka:∃ f fd,Def (L2.KOf KX) mg "_law_form" My.AJ ["_law_floor_here"] f fd:=by
   dsimp only [L2.KOf];refine' ft KX G (fun _ _ _ _ _ _ us hl=>match us,hl with | [_],_=>rfl) ?a ?l ?c ?k
   (case a=>k_is);(case l=>k_is);(case c=>k_is);(case k=>k_is)
  obtain ⟨_,_,ka⟩:=ka
  have ip:∃ f fd,Def (L2.KOf KX) mg "_law_behind" My.D3 ["_law_turning_here","_law_s","_law_k"] f fd:=by
   dsimp only [L2.KOf];refine' ft KX G (fun _ _ _ _ _ _ us hl=>match us,hl with | [_,_,_],_=>rfl) ?a ?l ?c ?k
   (case a=>k_is);(case l=>k_is);(case c=>k_is);(case k=>k_is)
  obtain ⟨_,_,ip⟩:=ip
  have gp:∃ f fd,Def (L2.KOf KX) mg "_law_stepped" My.AL ["_law_floor_here","_law_step"] f fd:=by
   dsimp only [L2.KOf];refine' ft KX G (fun _ _ _ _ _ _ us hl=>match us,hl with | [_,_],_=>rfl) ?a ?l ?c ?k
   (case a=>k_is);(case l=>k_is);(case c=>k_is);(case k=>k_is)
  obtain ⟨_,_,gp⟩:=gp
  have jr:∃ f fd,Def (L2.KOf KX) mg "_law_plain" My.D4 ["_law_word_here"] f fd:=by
   dsimp only [L2.KOf];refine' ft KX G (fun _ _ _ _ _ _ us hl=>match us,hl with | [_],_=>rfl) ?a ?l ?c ?k
   (case a=>k_is);(case l=>k_is);(case c=>k_is);(case k=>k_is)
  obtain ⟨_,_,jr⟩:=jr
  have jt:∃ f fd,Def (L2.KOf KX) mg "_law_chart" My.D6 ["_law_floor_here","_law_most"] f fd:=by
   dsimp only [L2.KOf];refine' ft KX G (fun _ _ _ _ _ _ us hl=>match us,hl with | [_,_],_=>rfl) ?a ?l ?c ?k
   (case a=>k_is);(case l=>k_is);(case c=>k_is);(case k=>k_is)
  obtain ⟨_,_,jt⟩:=jt
  have kb:∃ f fd,Def (L2.KOf KX) mg "_law_word" My.D7 ["_law_feed_here","_law_most","_law_great"] f fd:=by
   dsimp only [L2.KOf];refine' ft KX G (fun _ _ _ _ _ _ us hl=>match us,hl with | [_,_,_],_=>rfl) ?a ?l ?c ?k
   (case a=>k_is);(case l=>k_is);(case c=>k_is);(case k=>k_is)
  obtain ⟨_,_,kb⟩:=kb
  have ju:∃ f fd,Def (L2.KOf KX) mg "_law_times" My.AV ["_law_one","_law_other"] f fd:=by
   dsimp only [L2.KOf];refine' ft KX G (fun _ _ _ _ _ _ us hl=>match us,hl with | [_,_],_=>rfl) ?a ?l ?c ?k
   (case a=>k_is);(case l=>k_is);(case c=>k_is);(case k=>k_is)
  obtain ⟨_,_,ju⟩:=ju
  have jv:∃ f fd,Def (L2.KOf KX) mg "_law_table" My.D8 ["_law_word_here"] f fd:=by
   dsimp only [L2.KOf];refine' ft KX G (fun _ _ _ _ _ _ us hl=>match us,hl with | [_],_=>rfl) ?a ?l ?c ?k
   (case a=>k_is);(case l=>k_is);(case c=>k_is);(case k=>k_is)
  obtain ⟨_,_,jv⟩:=jv
  have lD:∃ f fd,Def (L2.KOf KX) mg "_law_led" My.D9 ["_law_floor_here","_law_word_here"] f fd:=by
   dsimp only [L2.KOf];refine' ft KX G (fun _ _ _ _ _ _ us hl=>match us,hl with | [_,_],_=>rfl) ?a ?l ?c ?k
   (case a=>k_is);(case l=>k_is);(case c=>k_is);(case k=>k_is)
  obtain ⟨_,_,lD⟩:=lD
  have lE:∃ f fd,Def (L2.KOf KX) mg "led_pair" My.Eb ["table","pair"] f fd:=by
   dsimp only [L2.KOf];refine' ft KX G (fun _ _ _ _ _ _ us hl=>match us,hl with | [_,_],_=>rfl) ?a ?l ?c ?k
   (case a=>k_is);(case l=>k_is);(case c=>k_is);(case k=>k_is)
  obtain ⟨_,_,lE⟩:=lE
  have nT:∃ f fd,Def (L2.KOf KX) mg "shears" My.AY ["k"] f fd:=by
   dsimp only [L2.KOf];refine' ft KX G (fun _ _ _ _ _ _ us hl=>match us,hl with | [_],_=>rfl) ?a ?l ?c ?k
   (case a=>k_is);(case l=>k_is);(case c=>k_is);(case k=>k_is)
  obtain ⟨_,_,nT⟩:=nT
  have o4:∃ f fd,Def (L2.KOf KX) mg "times" My.zD ["one","other"] f fd:=by
   dsimp only [L2.KOf];refine' ft KX G (fun _ _ _ _ _ _ us hl=>match us,hl with | [_,_],_=>rfl) ?a ?l ?c ?k
   (case a=>k_is);(case l=>k_is);(case c=>k_is);(case k=>k_is)
  obtain ⟨_,_,o4⟩:=o4
  have jw:∃ f fd,Def (L2.KOf KX) mg "step_table" My.Ed ["step"] f fd:=by
   dsimp only [L2.KOf];refine' ft KX G (fun _ _ _ _ _ _ us hl=>match us,hl with | [_],_=>rfl) ?a ?l ?c ?k
   (case a=>k_is);(case l=>k_is);(case c=>k_is);(case k=>k_is)
  obtain ⟨_,_,jw⟩:=jw
  have lF:∃ f fd,Def (L2.KOf KX) mg "table_of" My.AZ ["word"] f fd:=by
   dsimp only [L2.KOf];refine' ft KX G (fun _ _ _ _ _ _ us hl=>match us,hl with | [_],_=>rfl) ?a ?l ?c ?k
   (case a=>k_is);(case l=>k_is);(case c=>k_is);(case k=>k_is)
  obtain ⟨_,_,lF⟩:=lF
  have mI:∃ f fd,Def (L2.KOf KX) mg "nearest" My.Ef ["number","divisor"] f fd:=by
   dsimp only [L2.KOf];refine' ft KX G (fun _ _ _ _ _ _ us hl=>match us,hl with | [_,_],_=>rfl) ?a ?l ?c ?k
   (case a=>k_is);(case l=>k_is);(case c=>k_is);(case k=>k_is)
  obtain ⟨_,_,mI⟩:=mI
  have iq:∃ f fd,Def (L2.KOf KX) mg "level_steps" My.Eh ["pair"] f fd:=by
   dsimp only [L2.KOf];refine' ft KX G (fun _ _ _ _ _ _ us hl=>match us,hl with | [_],_=>rfl) ?a ?l ?c ?k
   (case a=>k_is);(case l=>k_is);(case c=>k_is);(case k=>k_is)
  obtain ⟨_,_,iq⟩:=iq
  have lG:∃ f fd,Def (L2.KOf KX) mg "is_table" My.Ej ["thing"] f fd:=by
   dsimp only [L2.KOf];refine' ft KX G (fun _ _ _ _ _ _ us hl=>match us,hl with | [_],_=>rfl) ?a ?l ?c ?k
   (case a=>k_is);(case l=>k_is);(case c=>k_is);(case k=>k_is)
  obtain ⟨_,_,lG⟩:=lG
  have jx:∃ f fd,Def (L2.KOf KX) mg "level_word" My.El ["table"] f fd:=by
   dsimp only [L2.KOf];refine' ft KX G (fun _ _ _ _ _ _ us hl=>match us,hl with | [_],_=>rfl) ?a ?l ?c ?k
   (case a=>k_is);(case l=>k_is);(case c=>k_is);(case k=>k_is)
  obtain ⟨_,_,jx⟩:=jx
  have kc:∃ f fd,Def (L2.KOf KX) mg "back_step" My.En ["step"] f fd:=by
   dsimp only [L2.KOf];refine' ft KX G (fun _ _ _ _ _ _ us hl=>match us,hl with | [_],_=>rfl) ?a ?l ?c ?k
   (case a=>k_is);(case l=>k_is);(case c=>k_is);(case k=>k_is)
  obtain ⟨_,_,kc⟩:=kc
  have ke:∃ f fd,Def (L2.KOf KX) mg "back_word" My.Ep ["word"] f fd:=by
   dsimp only [L2.KOf];refine' ft KX G (fun _ _ _ _ _ _ us hl=>match us,hl with | [_],_=>rfl) ?a ?l ?c ?k
   (case a=>k_is);(case l=>k_is);(case c=>k_is);(case k=>k_is)
  obtain ⟨_,_,ke⟩:=ke
  have mJ:∃ f fd,Def (L2.KOf KX) mg "word_of" My.Es ["table"] f fd:=by
   dsimp only [L2.KOf];refine' ft KX G (fun _ _ _ _ _ _ us hl=>match us,hl with | [_],_=>rfl) ?a ?l ?c ?k
   (case a=>k_is);(case l=>k_is);(case c=>k_is);(case k=>k_is)
  obtain ⟨_,_,mJ⟩:=mJ
  have gq:∃ f fd,Def (L2.KOf KX) mg "led_by_table" My.Eu ["floor","table"] f fd:=by
   dsimp only [L2.KOf];refine' ft KX G (fun _ _ _ _ _ _ us hl=>match us,hl with | [_,_],_=>rfl) ?a ?l ?c ?k
   (case a=>k_is);(case l=>k_is);(case c=>k_is);(case k=>k_is)
  obtain ⟨_,_,gq⟩:=gq
  have iu:∃ f fd,Def (L2.KOf KX) mg "is_of_group" My.Ew ["floor","table"] f fd:=by
   dsimp only [L2.KOf];refine' ft KX G (fun _ _ _ _ _ _ us hl=>match us,hl with | [_,_],_=>rfl) ?a ?l ?c ?k
   (case a=>k_is);(case l=>k_is);(case c=>k_is);(case k=>k_is)
  obtain ⟨_,_,iu⟩:=iu
  have iw:∃ f fd,Def (L2.KOf KX) mg "_law_undone" My.Ey ["_law_table_here"] f fd:=by
   dsimp only [L2.KOf];refine' ft KX G (fun _ _ _ _ _ _ us hl=>match us,hl with | [_],_=>rfl) ?a ?l ?c ?k
   (case a=>k_is);(case l=>k_is);(case c=>k_is);(case k=>k_is)
  obtain ⟨_,_,iw⟩:=iw
  have pL:∃ f fd,Def (L2.KOf KX) mg "law" My.G5 ["_law_script"] f fd:=by
   dsimp only [L2.KOf];refine' ft KX G (fun _ _ _ _ _ _ us hl=>match us,hl with | [_],_=>rfl) ?a ?l ?c ?k
   (case a=>k_is);(case l=>k_is);(case c=>k_is);(case k=>k_is)
  obtain ⟨_,_,pL⟩:=pL
  have e0:=hmg.symm.trans pL.m
  cases e0
  exact ⟨_,pL.uj,fun base _ _=>L4.yp (My.zP T dY fe oZ mF j6 j7 gj lz jm ig lA ik gk dZ ff mG j8 lB o3 mH j9 il nR nS jn gn jq lC fg ka ip gp jr jt kb ju jv lD lE nT o4 jw lF mI iq lG jx kc ke mJ gq iu iw pL) fun ns hn=>let ⟨_,st,e,h⟩:=My.tf ns hn;⟨st,h ▸ e⟩⟩
 case S=>exact fun K H a ns hl hO hS=>⟨a,ns,rfl,hS.script hO,hl,fun _=>rfl⟩
 case C=>exact fun _ _ _ _ z=>z
