import PyProof.Rows.All
import Wide.All
import OpenK.AllK
import Wide.FinOn
import Lean
import PyProof.EqAt
import PyProof.EqKinds
import PyProof.TupleCall
import PyProof.DictIter
import PyProof.EnumMake
import KE.KSortTup
import KE.KDictLaws
import KE.KDictSum
import PyProof.StrLawsTight
import KE.KIntText
import PyProof.MinMaxWalk
import PyProof.WalkInts
import KE.KIsAll
import PyProof.ExcInit
import PyProof.NsDelKeeps
import PyProof.ExcBaseAll.ValueError
import OpenK.KOwn
import PyProof.ExcAttrAll.ValueError
import PyProof.InstStoreFacts
import KE.KFind
import PyProof.NoPylong
import PySem.Challenge.RW_shearfloor_k68_whole_spoilt_charts
set_option Elab.async false
set_option linter.all false
set_option maxRecDepth 100000
set_option maxHeartbeats 4000000
set_option genSizeOf false
noncomputable section
def Vd:=@List.length_map
def Ve:=@List.getElem?_eq_some_iff
def Vg:=@List.getElem?_eq_getElem
def Vh:=@Nat.le_refl
def Vi:=@List.getElem?_set_self
def Vj:=@List.length_append
def Vk:=@List.mem_of_getElem?
def Vl:=@List.mem_cons_self
def Vm:=@List.getElem?_map
def Vn:=@List.mem_map
def Vo:=@Bool.false_ne_true
def Vp:=@List.mem_cons_of_mem
def Vq:=@List.getElem?_set_ne
def Vr:=@Int.toNat_natCast
def Vs:=@Option.some.inj
def Vt:=@List.getElem?_append_left
def Vu:=@List.size_toArray
def Vv:=@List.getD_eq_getElem?_getD
def Vw:=@PySem.Heap.get?_push_of_some
def Vx:=@List.map_append
def Vy:=@List.map_cons
def Vz:=@List.mem_singleton
def VA:=@List.getElem?_append_right
def VB:=@List.map_map
def VC:=@Bool.false_eq_true
def VD:=@PySem.Heap.lt_size
def VE:=@Bool.and_eq_true
def VF:=@List.mem_cons
def VG:=@List.mem_append
def VH:=@Int.toNat_of_nonneg
def VI:=@PySem.Heap.get?_push_size
def VJ:=@List.length_cons
def VL:=@Nat.le_trans
def VM:=@List.take_succ_eq_append_getElem
def VN:=@List.mem_append_right
def VO:=@Nat.lt_of_lt_of_le
def VP:=@List.getD_cons_succ
def VQ:=@List.getD_cons_zero
def VR:=@Option.map_eq_some_iff
def VS:=@List.map_congr_left
def VT:=@List.map_nil
def VU:=@List.length_set
def VW:=@Nat.zero_le
def VX:=@List.getElem?_of_mem
def VY:=@Nat.not_lt_zero
def VZ:=@Nat.ne_of_lt
def V0:=@List.nodup_cons
def V1:=@List.getElem?_eq_none_iff
def V2:=@List.replicate_succ
def V3:=@List.contains_iff_mem
def V4:=@Option.bind_eq_some_iff
def V5:=@PySem.Heap.get?_update_other
def V6:=@List.length_take
def V7:=@Nat.lt_of_le_of_lt
def V8:=@List.getElem_mem
def V9:=@List.any_cons
def Wa:=@List.foldl_append
def Wb:=@List.find?_cons
def Wc:=@Int.emod_nonneg
def Wd:=@List.map_id
def Wf:=@Nat.lt_succ_self
def Wg:=@List.mem_reverse
def Wi:=@Option.bind_some
def Wj:=@List.take_length
def Wk:=@Int.emod_lt_of_pos
def Wl:=@List.pairwise_iff_getElem
def Wm:=@List.mem_erase_of_ne
def Wn:=@Nat.sub_self
def Wo:=@List.getElem_of_mem
def Wq:=@List.lookup_cons
def Wr:=@List.append_nil
def Wt:=@List.length_singleton
def Wu:=@List.flatten_cons
def Wv:=@List.mem_append_left
def Ww:=@List.drop_eq_getElem_cons
def Wx:=@List.findIdx?_eq_some_iff_getElem
def Wy:=@PySem.Heap.size_push
def Wz:=@Option.isSome_iff_exists
def WA:=@Int.zero_add
def WB:=@List.all_eq_true
def WC:=@List.getElem?_range
def WD:=@List.eraseIdxIfInBounds_toArray
def WE:=@List.getElem?_replicate
def WG:=@Bool.eq_iff_iff
def WH:=@List.take_of_length_le
def WI:=@List.append_assoc
def WJ:=@List.reverse_cons
def WK:=@List.mem_range
def WL:=@List.length_replicate
def WM:=@PySem.Heap.get?_update_self
def WN:=@Array.getElem?_toList
def WO:=@List.Perm.refl
def WQ:=@Nat.zero_add
def WR:=@List.map_set
def WS:=@List.idxOf_lt_length_of_mem
def WT:=@List.length_drop
def WU:=@List.perm_cons_erase
def WV:=@List.getElem_map
def WW:=@List.prefix_refl
def WX:=@Nat.lt_irrefl
def WY:=@Array.length_toList
def WZ:=@List.length_reverse
def W0:=@List.mem_filter
def W2:=@List.mem_or_eq_of_mem_set
def W3:=@Nat.lt_or_ge
def W4:=@List.length_erase_of_mem
def W5:=@List.eraseIdx_cons_succ
def W6:=@List.nodup_append
def W7:=@List.length_range
def W8:=@Nat.le_succ
def W9:=@List.drop_of_length_le
def Xa:=@Nat.le_of_not_lt
def Xb:=@List.not_mem_nil
def Xc:=@List.getElem?_eq_none
def Xe:=@Nat.le_of_ble_eq_true
def Xf:=@List.idxOf_cons
def Xg:=@List.eq_nil_of_length_eq_zero
def Xh:=@List.filterMap_cons
def Xi:=@List.drop_zero
def Xj:=@List.getElem_idxOf
def Xk:=@List.prefix_append
def Xl:=@Bool.xor_self
def Xm:=@List.pairwise_map
def Xn:=@Int.add_right_neg
def Xo:=@Nat.le_of_lt
def Xp:=@List.getElem_inj
def Xr:=@Nat.lt_trans
def Xs:=@List.any_eq_true
abbrev Zfr:=PySem.W.Frag
namespace L2
open PySem PySem.Spec PyProof.Rows
abbrev Key:=Sum Int Str
def nr:Key->Value->Bool
 | .inl k,v=>Value.isInt k v
 | .inr x,v=>Value.isStrOf x v
def GD (w:World):Key->Int
 | .inl k=>hashInt k
 | .inr x=>hashStr w x
theorem sW:∀ {k:Key} {v:Value},nr k v=true->(∃ i t,k=Sum.inl i/\v=Value.int i t)\/(∃ x t,k=Sum.inr x/\v=Value.str x t)
 | .inl i,v,h=>by
  obtain ⟨t,e⟩:=Value.isInt_shape (k:=i) (v:=v) h
  exact .inl ⟨i,t,rfl,e⟩
 | .inr x,v,h=>by
  obtain ⟨t,e⟩:=Value.isStrOf_shape (x:=x) (v:=v) h
  exact .inr ⟨x,t,rfl,e⟩
theorem Nq (i:Int) (t:Tok):nr (.inl i) (.int i t)=true:=by simp [nr,Value.isInt]
theorem Nr (x:Str) (t:Tok):nr (.inr x) (.str x t)=true:=by simp [nr,Value.isStrOf]
theorem vI (a b:Int):decide ((Sum.inl a:Key)=Sum.inl b)=(a == b):=by
 by_cases e:a=b
 ·subst e;simp
 ·have h:¬ (Sum.inl a:Key)=Sum.inl b:=fun q=>e (Sum.inl.inj q)
  rw [decide_eq_false h]
  exact (beq_eq_false_iff_ne.mpr e).symm
theorem vJ (a b:Str):decide ((Sum.inr a:Key)=Sum.inr b)=decide (a=b):=by
 by_cases e:a=b
 ·subst e;simp
 ·have h:¬ (Sum.inr a:Key)=Sum.inr b:=fun q=>e (Sum.inr.inj q)
  rw [decide_eq_false h,decide_eq_false e]
theorem vK (a:Int) (b:Str):decide ((Sum.inl a:Key)=Sum.inr b)=false:=decide_eq_false (fun q=>nomatch q)
theorem vL (a:Str) (b:Int):decide ((Sum.inr a:Key)=Sum.inl b)=false:=decide_eq_false (fun q=>nomatch q)
def cU (prog:Program) (w:World):PySem.KeyKind prog w Key where
 is:=nr
 hash:=GD w
 inj:=fun v a b ha hb=>by
  rcases sW ha with ⟨i,t,rfl,rfl⟩ | ⟨x,t,rfl,rfl⟩
  ·rcases sW hb with ⟨j,u,rfl,e⟩ | ⟨y,u,rfl,e⟩
   ·injection e with e1 _;rw [e1]
   ·exact nomatch e
  ·rcases sW hb with ⟨j,u,rfl,e⟩ | ⟨y,u,rfl,e⟩
   ·exact nomatch e
   ·injection e with e1 _;rw [e1]
 byValue:=fun k v h=>by
  rcases sW h with ⟨i,t,rfl,rfl⟩ | ⟨x,t,rfl,rfl⟩ <;> rfl
 pyHash:=fun hv h=>by
  rcases sW hv with ⟨i,t,rfl,rfl⟩ | ⟨x,t,rfl,rfl⟩
  ·exact wpAny_pyHash_int h
  ·exact wpAny_pyHash_str h
 eqBool:=fun hu hv h=>by
  rcases sW hu with ⟨i,t,rfl,rfl⟩ | ⟨x,t,rfl,rfl⟩
  ·rcases sW hv with ⟨j,u,rfl,rfl⟩ | ⟨y,u,rfl,rfl⟩
   ·rw [vI] at h;exact wpAny_eqBool_int h
   ·rw [vK] at h;exact SeqAt.EqAt.int_str i t y u _ _ _ _ h
  ·rcases sW hv with ⟨j,u,rfl,rfl⟩ | ⟨y,u,rfl,rfl⟩
   ·rw [vL] at h;exact SeqAt.EqAt.str_int x t j u _ _ _ _ h
   ·rw [vJ] at h;exact wpAny_eqBool_str h
 «strs»:=fun k x t v h=>by
  rcases sW h with ⟨i,u,rfl,e⟩ | ⟨y,u,rfl,e⟩
  ·exact nomatch e
  ·injection e with e1 _
   subst e1
   cases v <;> rfl
theorem Nt (prog:Program) (w:World) (i:Int) (t:Tok):(cU prog w).is (.inl i) (.int i t)=true:=Nq i t
theorem Nu (prog:Program) (w:World) (x:Str) (t:Tok):(cU prog w).is (.inr x) (.str x t)=true:=Nr x t
inductive V where
 | non | bl (b:Bool) | int (i:Int) | str (x:Str) | qU (b:Array UInt8) | ze (b:UInt64) | ref (a:Addr) | ty (n:String)
 deriving DecidableEq
def RelV:V->Value->Prop
 | .non,u=>u=Value.none
 | .bl b,u=>u=Value.bool b
 | .int i,u=>∃ t,u=Value.int i t
 | .str x,u=>∃ t,u=Value.str x t
 | .qU b,u=>∃ t,u=Value.bytes b t
 | .ze b,u=>∃ t,u=Value.float b t
 | .ref a,u=>u=Value.ref a
 | .ty n,u=>u=Value.type n
abbrev Vals:List V->List Value->Prop:=Paired RelV
theorem Vals.length {xs:List V} {us:List Value} (r:Vals xs us):xs.length=us.length:=Paired.length r
theorem Vals.get:∀ {xs:List V} {us:List Value} {i:Nat} {x:V},Vals xs us->xs[i]?=some x->∃ u,us[i]?=some u/\RelV x u
 | _,_,_,_,.nil,e=>by simp at e
 | _,_,0,_,.cons r _,e=>by simp at e;subst e;exact ⟨_,rfl,r⟩
 | _,_,i + 1,x,.cons _ t,e=>by
  obtain ⟨u,h1,h2⟩:=Vals.get (i:=i) (x:=x) t (by simpa using e)
  exact ⟨u,by simpa using h1,h2⟩
theorem Vals.set {x:V} {u:Value} (r:RelV x u):∀ {xs:List V} {us:List Value} (i:Nat),Vals xs us->Vals (xs.set i x) (us.set i u)
 | _,_,_,.nil=>.nil
 | _,_,0,.cons _ t=>.cons r t
 | _,_,i + 1,.cons q t=>.cons q (Vals.set r i t)
theorem Vals.append:∀ {xs ys:List V} {us ws:List Value},Vals xs us->Vals ys ws->Vals (xs ++ ys) (us ++ ws)
 | _,_,_,_,.nil,s=>s
 | _,_,_,_,.cons r t,s=>.cons r (Vals.append t s)
theorem Vals.take:∀ {xs:List V} {us:List Value} (n:Nat),Vals xs us->Vals (xs.take n) (us.take n)
 | _,_,0,_=>.nil
 | _,_,_ + 1,.nil=>.nil
 | _,_,n + 1,.cons r t=>.cons r (Vals.take n t)
theorem Vals.drop:∀ {xs:List V} {us:List Value} (n:Nat),Vals xs us->Vals (xs.drop n) (us.drop n)
 | _,_,0,r=>r
 | _,_,_ + 1,.nil=>.nil
 | _,_,n + 1,.cons _ t=>Vals.drop n t
def ql:Option V->Option Value->Prop
 | some v,some u=>RelV v u
 | none,none=>True
 | _,_=>False
def KV {κ:Type}:List (κ×V)->List (κ×Value)->Prop:=Paired fun (p:κ×V) (q:κ×Value)=>p.1=q.1/\RelV p.2 q.2
def kV:Key->V
 | .inl i=>.int i
 | .inr x=>.str x
set_option genInjectivity false in
inductive HO where
 /-- a list -/
 | lst (xs:List V)
 /-- a tuple (never changes) -/
 | tup (xs:List V)
 /-- a dict whose keys are ints and texts;one whose keys are tuples of ints and texts (the empty one is both) -/
 | dK (kvs:List (Key×V)) | dT (kvs:List (List Key×V))
 /-- a set of ints: its members,its size -/
 | set (S:Int->Bool) (n:Nat)
 /-- an instance of the class at C,its dict at dx,its attributes -/
 | ins (C dx:Addr) (fs:List (Str×V))
 /-- the dict of the instance at x -/
 | own (x:Addr)
 /-- the dict of an exception -/
 | xd (fs:List (Str×V))
 /-- a bound method,f of x -/
 | met (f x:Addr)
 /-- a range object lo,lo + 1,.. below hi -/
 | jC (lo hi:Int)
 /-- a thing that is known to the object (the script;a dict while a loop walks it): read,never written while it is so -/
 | ml (o:Obj) (u:HO)
 /-- a code As table -/
 | vM (ps:Array Value)
 /-- any other thing,by what is true of its one object (a def of JR own: Nv a S n:=HO.ext fun h=>..) -/
 | ext (φ:Heap->Prop)
abbrev Hp:=Addr->Option HO
def upd (H:Hp) (a:Addr) (o:HO):Hp:=fun b=>if b=a then some o else H b
theorem qI {H:Hp} {a:Addr} {o:HO}:upd H a o a=some o:=by unfold upd;rw [if_pos rfl]
theorem jZ {H:Hp} {a b:Addr} {o:HO} (h:b≠a):upd H a o b=H b:=by unfold upd;rw [if_neg h]
theorem GF {H:Hp} {a b:Addr} {o u:HO} (h:H a=some o) (h':H b=some u) (d:o≠u):a≠b:=by
 intro e;subst e;rw [h] at h';exact d (Vs h')
theorem zf {H:Hp} {a b:Addr} {o:HO} (h:H a=some o) (h':H b=none):a≠b:=by
 intro e;subst e;rw [h] at h';cases h'
def nH (h:Heap) (a:Addr) (its:Array Value):Prop:=∃ o,h.get? a=some o/\o.cls=.type "tuple" /\ o.dict=none/\∃ n,o.data=.seq its n
theorem nH.tup {h:Heap} {a:Addr} {its:Array Value} (x:nH h a its):IsTup h a its:=let ⟨o,e,c,_,n,d⟩:=x;⟨o,e,c,n,d⟩
theorem nH.new (h:Heap) (its:Array Value):nH (h.push { cls:=.type "tuple",data:=.seq its }) h.objs.size its:=⟨_,VI _ rfl,rfl,rfl,_,rfl⟩
section
variable (P:Program) (w:World)
def cy (H:Hp) (h:Heap) (a:Addr):HO->Prop
 | .lst xs=>xs.length<=sizeLine/\∃ (its:List Value) (n:Nat),Vals xs its/\h.get? a=some { cls:=.type "list",data:=.seq its.toArray n }
 | .tup xs=>xs.length<=sizeLine/\∃ its:List Value,Vals xs its/\nH h a its.toArray
 | .dK kvs=>kvs.length<=sizeLine/\(a == sysModules)=false/\∃ vs,KV kvs vs/\h.DictOf (cU P w) a vs
 | .dT kvs=>kvs.length<=sizeLine/\(a == sysModules)=false/\∃ xs:List (List Key×Addr×Value),
   Paired (fun (p:List Key×V) (q:List Key×Addr×Value)=>p.1=q.1/\H q.2.1=some (.tup (p.1.map kV))/\RelV p.2 q.2.2) kvs xs /\
   ∃ o es ep,h.get? a=some o/\o.ExactDict/\o.data=.dict es ep/\es.toList=xs.map (entryOfKey (tupleKind (cU P w)))/\(xs.map (·.1)).Nodup
 | .set S n=>h.SetOf (intKind P w) a S n
 | .ins C dx fs=>H dx=some (.own a)/\fs.length<=1000/\dx≠a/\h.get? a=some (PySem.W.instObj C dx) /\
   ∃ mA,h.Ns1 dx mA/\(∀ f,ql (fs.lookup f) (mA f))/\PySem.Within mA (fs.map (·.1))
 | .own _=>∃ o,h.get? a=some o
 | .xd fs=>∃ mA,h.Ns1 a mA/\∀ f,ql (fs.lookup f) (mA f)
 | .jC lo hi=>∃ t u v,h.get? a=some { cls:=.type "range",data:=.fields #[.int lo t,.int hi u,.int 1 v] }
 | .ml o u=>h.get? a=some o/\cy H h a u
 | .vM ps=>h.get? a=some { cls:=.none,data:=.fields ps }
 | .met f x=>h.get? a=some (PySem.W.methodObj (.ref f) (.ref x))
 | .ext φ=>φ h/\(∃ o,h.get? a=some o)/\∀ h1 h2:Heap,φ h1->(∀ o,h1.get? a=some o->h2.get? a=some o)->φ h2
def kY (H:Hp) (h:Heap):Prop:=∀ a o,H a=some o->cy P w H h a o
end
section
variable {P:Program} {w:World} {H H':Hp} {h h':Heap} {a:Addr} {o:HO}
theorem cy.lt (x:cy P w H h a o):a < h.objs.size:=by
 cases o with
 | lst xs=>obtain ⟨_,_,_,_,e⟩:=x;exact VD e
 | tup xs=>obtain ⟨_,_,_,_,e,_⟩:=x;exact VD e
 | dK kvs=>obtain ⟨_,_,_,_,o,_,_,e,_⟩:=x;exact VD e
 | dT kvs=>obtain ⟨_,_,_,_,o,_,_,e,_⟩:=x;exact VD e
 | set S n=>obtain ⟨o,_,_,_,e,_⟩:=x;exact VD e
 | ins C dx fs=>obtain ⟨_,_,_,e,_⟩:=x;exact VD e
 | own y=>obtain ⟨_,e⟩:=x;exact VD e
 | xd fs=>obtain ⟨_,⟨_,_,_,e,_⟩,_⟩:=x;exact VD e
 | jC lo hi=>obtain ⟨_,_,_,e⟩:=x;exact VD e
 | ml ob u=>obtain ⟨e,_⟩:=x;exact VD e
 | vM ps=>exact VD (show h.get? a=some _ from x)
 | met f y=>exact VD (show h.get? a=some _ from x)
 | ext φ=>obtain ⟨_,⟨_,e⟩,_⟩:=x;exact VD e
theorem Paired.vN {α β:Type} {F G:α->β->Prop}:∀ {l₁:List α} {l₂:List β},Paired F l₁ l₂->(∀ a b,F a b->G a b)->Paired G l₁ l₂
 | _,_,.nil,_=>.nil
 | _,_,.cons r t,f=>.cons (f _ _ r) (Paired.vN t f)
theorem cy.stay (x:cy P w H h a o) (k:∀ b u,(b=a\/H b=some (.own a))->h.get? b=some u->h'.get? b=some u)
  (ho:∀ b,H b=some (.own a)->H' b=some (.own a)) (ht:∀ b xs,H b=some (.tup xs)->H' b=some (.tup xs)):cy P w H' h' a o:=by
 induction o with
 | lst xs=>obtain ⟨z,its,n,r,e⟩:=x;exact ⟨z,its,n,r,k _ _ (.inl rfl) e⟩
 | tup xs=>obtain ⟨z,its,r,ob,e,c⟩:=x;exact ⟨z,its,r,ob,k _ _ (.inl rfl) e,c⟩
 | dK kvs=>obtain ⟨z,y,vs,r,ob,es,ep,e,c⟩:=x;exact ⟨z,y,vs,r,ob,es,ep,k _ _ (.inl rfl) e,c⟩
 | dT kvs =>
  obtain ⟨z,y,xs,r,ob,es,ep,e,c⟩:=x
  exact ⟨z,y,xs,Paired.vN r fun p q z=>⟨z.1,ht _ _ z.2.1,z.2.2⟩,ob,es,ep,k _ _ (.inl rfl) e,c⟩
 | set S n=>obtain ⟨ob,es,ep,t,e,c⟩:=x;exact ⟨ob,es,ep,t,k _ _ (.inl rfl) e,c⟩
 | ins C dx fs =>
  obtain ⟨d,z,ne,e,mA,⟨od,es,ep,e2,c⟩,r⟩:=x
  exact ⟨ho _ d,z,ne,k _ _ (.inl rfl) e,mA,⟨od,es,ep,k _ _ (.inr d) e2,c⟩,r⟩
 | own y=>obtain ⟨ob,e⟩:=x;exact ⟨ob,k _ _ (.inl rfl) e⟩
 | xd fs=>obtain ⟨mA,⟨od,es,ep,e,c⟩,r⟩:=x;exact ⟨mA,⟨od,es,ep,k _ _ (.inl rfl) e,c⟩,r⟩
 | jC lo hi=>obtain ⟨t,u,v,e⟩:=x;exact ⟨t,u,v,k _ _ (.inl rfl) e⟩
 | ml ob u ih=>obtain ⟨e,q⟩:=x;exact ⟨k _ _ (.inl rfl) e,ih q⟩
 | vM ps =>
  have e:h.get? a=some { cls:=.none,data:=.fields ps }:=x
  show h'.get? a=some { cls:=.none,data:=.fields ps }
  exact k a _ (.inl rfl) e
 | met f y =>
  have e:h.get? a=some (PySem.W.methodObj (.ref f) (.ref y)):=x
  show h'.get? a=some (PySem.W.methodObj (.ref f) (.ref y))
  exact k a _ (.inl rfl) e
 | ext φ=>obtain ⟨p,⟨o,e⟩,st⟩:=x;exact ⟨st _ _ p fun o q=>k _ _ (.inl rfl) q,⟨o,k _ _ (.inl rfl) e⟩,st⟩
theorem kY.lt (x:kY P w H h) (e:H a=some o):a < h.objs.size:=(x a o e).lt
theorem kY.fresh (x:kY P w H h) (e:h.objs.size<=a):H a=none:=by
 cases q:H a with
 | none=>rfl
 | some u=>exact absurd (VO (x.lt q) e) (WX _)
theorem kY.kept (x:kY P w H h) (k:∀ b u,h.get? b=some u->h'.get? b=some u):kY P w H h':=fun a o e =>
 (x a o e).stay (fun b u _ q=>k b u q) (fun _ q=>q) fun _ _ q=>q
theorem kY.laid (x:kY P w H h) (k:∀ b u,h.get? b=some u->h'.get? b=some u) (hp:h.objs.size<=a) (new:cy P w (upd H a o) h' a o):kY P w (upd H a o) h':=fun b u e=>by
 have hn:=x.fresh hp
 by_cases hb:b=a
 ·subst hb;rw [qI] at e;cases e;exact new
 ·rw [jZ hb] at e
  exact (x b u e).stay (fun c v _ q=>k c v q) (fun c q=>by rw [jZ (zf q hn)];exact q) fun c xs q=>by rw [jZ (zf q hn)];exact q
end
def Rd (H:Hp) (a:Addr) (u:HO):Prop:=H a=some u\/∃ o,H a=some (.ml o u)
theorem Rd.ok {P:Program} {w:World} {H:Hp} {h:Heap} {a:Addr} {u:HO} (r:Rd H a u) (x:kY P w H h):cy P w H h a u:=by
 rcases r with r | ⟨o,r⟩
 ·exact x a u r
 ·obtain ⟨_,q⟩:=x a _ r
  exact q
def Au:Option HO->Prop
 | some (.lst _)=>True
 | some (.dK _)=>True
 | some (.dT _)=>True
 | some (.set _ _)=>True
 | some (.ins _ _ _)=>True
 | some (.ext _)=>True
 | _=>False
section
variable {P:Program} {w:World} {H:Hp} {h h':Heap} {x e:Addr} {o':HO}
theorem kY.write (ok:kY P w H h) (mu:Au (H x)) (he:e=x\/H e=some (.own x)) (k:∀ b u,b≠e->h.get? b=some u->h'.get? b=some u) (zg:∃ u,h'.get? e=some u)
  (new:cy P w (upd H x o') h' x o'):kY P w (upd H x o') h':=fun b u q=>by
 have Av:∀ c y,H c=some (.own y)->c≠x:=fun c y r z=>by subst z;rw [r] at mu;exact mu
 have GG:∀ c xs,H c=some (.tup xs)->c≠x:=fun c xs r z=>by subst z;rw [r] at mu;exact mu
 by_cases hb:b=x
 ·subst hb;rw [qI] at q;cases q;exact new
 ·rw [jZ hb] at q
  by_cases vO:b=e
  ·have q':H b=some (.own x):=by
    rcases he with z | z
    ·exact absurd (vO.trans z) hb
    ·rw [vO];exact z
   rw [q] at q';cases q'
   obtain ⟨v,hv⟩:=zg
   exact ⟨v,by rw [vO];exact hv⟩
  ·refine (ok b u q).stay (fun c v hc r=>k c v ?_ r) (fun c r=>by rw [jZ (Av c b r)];exact r) fun c xs r=>by rw [jZ (GG c xs r)];exact r
   rcases hc with rfl | hc
   ·exact vO
   ·rintro rfl
    rcases he with z | z
    ·exact Av c b hc z
    ·rw [hc] at z;cases z;exact hb rfl
end
structure Un (fs ex:List Addr) (H H':Hp) (h h':Heap):Prop where
 keep:∀ b o,h.get? b=some o->H b=none->b ∉ fs->b ∉ ex->h'.get? b=some o
 slot:∀ b o,h.get? b=some o->H b=none->b∈fs->b ∉ ex->∃ sl,h'.get? b=some { o with slots:=sl }
 free:∀ b o,h.get? b=some o->H b=none->b ∉ ex->H' b=none
 there:∀ b o,h.get? b=some o->b ∉ ex->∃ o',h'.get? b=some o'
 tups:∀ b xs,H b=some (.tup xs)->H' b=some (.tup xs)
 nI:∀ b o u,H b=some (.ml o u)->H' b=some (.ml o u)
 oE:∀ b ps,H b=some (.vM ps)->∃ more,H' b=some (.vM (ps ++ more))
section
variable {fs fs' ex ex':List Addr} {H H1 H2:Hp} {h h1 h2 h':Heap} {a x e:Addr} {o:HO}
theorem Un.any (u:Un fs ex H H1 h h1) {b:Addr} {ob:Obj} (q:h.get? b=some ob) (n:H b=none) (hx:b ∉ ex):∃ sl,h1.get? b=some { ob with slots:=sl }:=by
 by_cases hb:b∈fs
 ·exact u.slot b ob q n hb hx
 ·exact ⟨ob.slots,u.keep b ob q n hb hx⟩
theorem Un.kept (k:∀ b u,h.get? b=some u->h'.get? b=some u):Un fs ex H H h h' :=
 ⟨fun b ob q _ _ _=>k b ob q,fun b ob q _ _ _=>⟨ob.slots,k b ob q⟩,fun _ _ _ n _=>n,fun b ob q _=>⟨ob,k b ob q⟩,fun _ _ q=>q,fun _ _ _ q=>q,fun _ ps q=>⟨#[],by rw [q];simp⟩⟩
theorem Un.refl:Un fs ex H H h h:=Un.kept fun _ _ q=>q
theorem Un.laid (k:∀ b u,h.get? b=some u->h'.get? b=some u) (hp:h.objs.size<=a) (hn:H a=none):Un fs ex H (upd H a o) h h' where
 keep:=fun b u q _ _ _=>k b u q
 slot:=fun b u q _ _ _=>⟨u.slots,k b u q⟩
 free:=fun b u q n _=>by rw [jZ (VZ (VO (VD q) hp))];exact n
 there:=fun b u q _=>⟨u,k b u q⟩
 tups:=fun b xs q=>by rw [jZ (zf q hn)];exact q
 nI:=fun b u xs q=>by rw [jZ (zf q hn)];exact q
 oE:=fun b ps q=>⟨#[],by rw [jZ (zf q hn),q];simp⟩
theorem Un.write (mu:Au (H x)) (he:e=x\/H e=some (.own x)) (k:∀ b u,b≠e->h.get? b=some u->h'.get? b=some u) (zg:∃ u,h'.get? e=some u):Un fs ex H (upd H x o) h h':=by
 have hx:∀ b,H b=none->b≠x:=fun b n z=>by subst z;rw [n] at mu;exact mu
 have hb:∀ b,H b=none->b≠e:=fun b n z=>by
  subst z
  rcases he with r | r
  ·exact hx b n r
  ·rw [n] at r;cases r
 have hm:∀ b u,H b=some u->¬ Au (some u)->b≠x:=fun b u q nm z=>by subst z;rw [q] at mu;exact nm mu
 refine ⟨fun b u q n _ _=>k b u (hb b n) q,fun b u q n _ _=>⟨u.slots,k b u (hb b n) q⟩,fun b u q n _=>by rw [jZ (hx b n)];exact n,fun b u q _=>?_,
  fun b xs q=>by rw [jZ (hm b _ q fun z=>z)];exact q,fun b u xs q=>by rw [jZ (hm b _ q fun z=>z)];exact q,fun b ps q=>⟨#[],by rw [jZ (hm b _ q fun z=>z),q];simp⟩⟩
 by_cases vO:b=e
 ·subst vO;exact zg
 ·exact ⟨u,k b u vO q⟩
end
def D4 (h:Heap) (H:Hp):List Addr:=(List.range h.objs.size).filter fun a=>(H a).isSome
def nJ (h:Heap) (H:Hp):Heap:=PySem.W.hideAll h (D4 h H)
theorem Nw (h:Heap) (H:Hp):(nJ h H).objs.size=h.objs.size:=PySem.W.hideAll_size _ _
theorem Ny {h:Heap} {H:Hp} {b:Addr} {o:Obj} (e:h.get? b=some o) (n:H b=none):(nJ h H).get? b=some o :=
 PySem.W.hideAll_get _ e fun hm=>by
  have q:(H b).isSome=true:=(W0.mp hm).2
  rw [n] at q;simp at q
theorem Nz {h:Heap} {H:Hp} {b:Addr} {o:Obj} (e:(nJ h H).get? b=some o):h.get? b=some o/\H b=none:=by
 have e':h.get? b=some o:=PySem.W.of_hideAll (D4 h H) e
 refine ⟨e',?_⟩
 cases q:H b with
 | none=>rfl
 | some x =>
  have hm:b∈D4 h H:=W0.mpr ⟨WK.mpr (VD e'),by simp [q]⟩
  have z:(nJ h H).get? b=none:=PySem.W.hideAll_none (D4 h H) hm
  rw [z] at e;cases e
def sX (g h:Heap) (L:Addr):List (Addr×Obj):=(List.range h.objs.size).filterMap fun a=>if a=L\/(g.get? a).isSome=true then none else (h.get? a).map fun o=>(a,o)
def rest (g h:Heap) (L d:Addr):List (Addr×Obj):=(sX g h L).filter fun p=>decide (p.1≠d)
structure Mod (K:Zfr) (mg:Str->Option Value) (base:Heap):Prop where
 GH:K.In base
 glob:base.Ns mainGlobals mg
 blt:∃ mb,base.Ns builtinsNs mb/\∀ x:Str,x≠"__name__" -> mb x=bootBuiltins x
 nolimit:base.NoLimit
set_option genInjectivity false in
structure Cx where
 prog:Program
 w:World
 K:Zfr
 mg:Str->Option Value
 base:Heap
 A:Around
 N:List Str
 s₀:Shared
 H₀:Hp
 env:Env
 outer:List Env
 stack:List Env
 ex:List Addr
 fn:Str->Bool
 calm:Bool
 pn:List (Addr×Obj)
 xe:Value->Shared->Prop
def frs (l:List Env):List Addr:=l.filterMap (·.frame)
abbrev Cx.fs (X:Cx):List Addr:=frs X.outer
def GI (sc:Scope) (x:Str):Prop:=sc.names.lookup x=some .local\/sc.names.lookup x=some .cell\/sc.names.lookup x=some .free
def Loc (sc:Scope) (x:Str):Prop:=sc.names.lookup x=some .local\/sc.names.lookup x=some .cell
def Look (env:Env) (h:Heap) (m:Str->Option Value) (x:Str) (u:Value):Prop :=
 (env.kindOf x=some .local/\m x=some u)\/((env.kindOf x=some .cell\/env.kindOf x=some .free)/\∃ c,env.cells.lookup x=some c/\h.IsCell c (some u))
structure Cx.Ok (X:Cx):Prop where
 mod:Mod X.K X.mg X.base
 kind:X.env.scope.kind=.function
 glob:X.env.globals=mainGlobals
 blt:X.env.builtins=builtinsNs
 above:X.s₀.heap.objs.size<=X.env.locals
 inj:∀ x y c,X.env.cells.lookup x=some c->X.env.cells.lookup y=some c->x=y
 has:∀ x,(X.env.kindOf x=some .cell\/X.env.kindOf x=some .free)->∃ c,X.env.cells.lookup x=some c
 Aw:∀ x c,X.fn x=true->X.env.cells.lookup x=some c->X.s₀.heap.objs.size<=c
 hd:X.calm=true->X.A.handled=none
 frames:X.A.frames=some X.stack
 stk:X.stack=X.outer\/(X.stack=X.env :: X.outer/\X.env.frame=some X.env.locals)
 JS:∀ b∈X.ex,b≠X.env.locals/\∀ x c,X.env.cells.lookup x=some c->c≠b
 bs:∀ b o,X.base.get? b=some o->X.s₀.heap.get? b=some o/\X.H₀ b=none
 uu:X.base.objs.size<=X.s₀.heap.objs.size
 qV:∀ b o,X.base.get? b=some o->b ∉ X.ex
 sY:∀ b∈X.ex,b ∉ X.fs
 mq:X.s₀.heap.FunFrames X.base X.outer
 zh:∀ b∈X.fs,X.H₀ b=none
structure Inv (X:Cx) (pins:List (Addr×Obj)) (σ:List (Option V)) (H:Hp) (s:Shared):Prop where
 ok:X.Ok
 os:s.os=X.s₀.os
 bare:AllBare s.gens
 base:Un X.fs X.ex X.H₀ H X.s₀.heap s.heap
 loc:∃ m,s.heap.Ns X.env.locals m/\∀ (i:Nat) (x:Str) (v:V),X.N[i]?=some x->σ[i]?=some (some v)->GI X.env.scope x->∃ u,RelV v u/\Look X.env s.heap m x u
 cell:∀ x c,X.env.cells.lookup x=some c->∃ v,s.heap.IsCell c v
 free:H X.env.locals=none
 kr:∀ x c,X.env.cells.lookup x=some c->H c=none
 pin:∀ p∈X.pn ++ pins,s.heap.get? p.1=some p.2/\H p.1=none/\p.1≠X.env.locals/\p.1 ∉ X.fs/\∀ v,p.2.data≠.cell v
 hok:kY X.prog X.w H s.heap
 len:σ.length=X.N.length
section
variable {X:Cx} {pins:List (Addr×Obj)} {σ:List (Option V)} {H H':Hp} {s:Shared} {h':Heap}
theorem Cx.Ok.GJ (ok:X.Ok) {b:Addr} {o:Obj} (e:X.base.get? b=some o):b ∉ X.fs:=fun hb=>by
 have:=(ok.mq.mem hb).1
 rw [e] at this;cases this
theorem Inv.bs (I:Inv X pins σ H s):∀ b o,X.base.get? b=some o->s.heap.get? b=some o/\H b=none:=fun b o e =>
 ⟨I.base.keep b o (I.ok.bs b o e).1 (I.ok.bs b o e).2 (I.ok.GJ e) (I.ok.qV b o e),I.base.free b o (I.ok.bs b o e).1 (I.ok.bs b o e).2 (I.ok.qV b o e)⟩
theorem Inv.bk (I:Inv X pins σ H s):∀ b o,X.base.get? b=some o->s.heap.get? b=some o:=fun b o e=>(I.bs b o e).1
theorem Inv.mod (I:Inv X pins σ H s):Mod X.K X.mg X.base:=I.ok.mod
theorem Inv.zi (I:Inv X pins σ H s):X.K.In s.heap:=I.ok.mod.GH.keeps I.bk
theorem Inv.lt (I:Inv X pins σ H s):X.env.locals < s.heap.objs.size:=let ⟨_,hn,_⟩:=I.loc;hn.lt
theorem Inv.sz (I:Inv X pins σ H s):X.s₀.heap.objs.size<=s.heap.objs.size:=VL I.ok.above (Xo I.lt)
theorem Inv.Ax (I:Inv X pins σ H s) {a:Addr} (h:s.heap.objs.size<=a):a ∉ X.fs:=fun hb=>by
 obtain ⟨_,o,ho,_⟩:=I.ok.mq.mem hb
 exact absurd (VO (VD ho) (VL I.sz h)) (WX _)
theorem Inv.vP (I:Inv X pins σ H s):∀ x c,X.env.cells.lookup x=some c->c≠X.env.locals:=fun x c e z=>by
 obtain ⟨v,o,ho,hd⟩:=I.cell x c e
 obtain ⟨m,⟨o',es,ep,ho',hd',_⟩,_⟩:=I.loc
 rw [z,ho'] at ho;cases ho;rw [hd'] at hd;cases hd
theorem Inv.mq (I:Inv X pins σ H s):s.heap.FunFrames X.base X.outer:=by
 have all:∀ (l:List Env),(∀ b∈frs l,b∈X.fs)->X.s₀.heap.FunFrames X.base l->s.heap.FunFrames X.base l:=by
  intro l
  induction l with
  | nil=>intro _ _;trivial
  | cons env r ih =>
   intro hs hl
   obtain ⟨hk,⟨L,o,hf,hn,ho,hd⟩,hr⟩:=hl
   have hL:L∈X.fs:=hs L (by unfold frs;rw [Xh,hf];exact Vl)
   obtain ⟨sl,e⟩:=I.base.slot L o ho (I.ok.zh L hL) hL fun z=>I.ok.sY L z hL
   exact ⟨hk,⟨L,_,hf,hn,e,hd⟩,ih (fun b hb=>hs b (by unfold frs;rw [Xh,hf];exact Vp _ hb)) hr⟩
 exact all X.outer (fun _ hb=>hb) I.ok.mq
theorem Inv.stack (I:Inv X pins σ H s):s.heap.FunFrames X.base X.stack:=by
 rcases I.ok.stk with e | ⟨e,hf⟩
 ·rw [e];exact I.mq
 ·rw [e]
  obtain ⟨m,hn,_⟩:=I.loc
  refine .cons (by rw [I.ok.kind];decide) hf hn ?_ I.mq
  exact Heap.get?_none_of_le (VL I.ok.uu I.ok.above)
theorem Inv.mr (I:Inv X pins σ H s):∀ b∈frs X.stack,b∈X.env.locals :: X.fs:=fun b hb=>by
 rcases I.ok.stk with e | ⟨e,hf⟩
 ·rw [e] at hb;exact Vp _ hb
 ·rw [e] at hb
  unfold frs at hb
  rw [Xh,hf] at hb
  exact hb
theorem Inv.pK (I:Inv X pins σ H s):∀ b∈frs X.stack,H b=none:=fun b hb=>by
 rcases VF.mp (I.mr b hb) with e | hb
 ·rw [e];exact I.free
 ·obtain ⟨_,o,ho,_⟩:=I.ok.mq.mem hb
  exact I.base.free b o ho (I.ok.zh b hb) fun z=>I.ok.sY b z hb
theorem Inv.step {g':Array GenState} {t':Nat} {d':Drawn} {ch:List Addr} (I:Inv X pins σ H s)
  (hch:∀ b∈ch,(b∈X.ex\/X.s₀.heap.objs.size<=b)/\b≠X.env.locals/\(∀ x c,X.env.cells.lookup x=some c->c≠b)/\∀ p∈X.pn ++ pins,p.1≠b)
  (keep:∀ b o,b≠X.env.locals->b ∉ X.fs->b ∉ ch->s.heap.get? b=some o->H b=none->h'.get? b=some o)
  (slot:∀ b o,b≠X.env.locals->b∈X.fs->b ∉ ch->s.heap.get? b=some o->H b=none->∃ sl,h'.get? b=some { o with slots:=sl }) (free:∀ b o,b ∉ ch->s.heap.get? b=some o->H b=none->H' b=none)
  (there:∀ b o,b ∉ ch->s.heap.get? b=some o->∃ o',h'.get? b=some o')
  (tups:∀ b xs,H b=some (.tup xs)->H' b=some (.tup xs)) (nI:∀ b o u,H b=some (.ml o u)->H' b=some (.ml o u)) (oE:∀ b ps,H b=some (.vM ps)->∃ more,H' b=some (.vM (ps ++ more)))
  (ns:∀ m,s.heap.Ns X.env.locals m->h'.Ns X.env.locals m) (hok:kY X.prog X.w H' h') (hg:AllBare g') :
  Inv X pins σ H' { s with heap:=h',gens:=g',drawn:=d',toks:=t' }:=by
 have vQ:∀ b o,X.s₀.heap.get? b=some o->b≠X.env.locals:=fun b o e=>VZ (VO (VD e) I.ok.above)
 have D5:∀ b o,X.s₀.heap.get? b=some o->b ∉ X.ex->b ∉ ch:=fun b o e hx hb=>by
  rcases (hch b hb).1 with z | z
  ·exact hx z
  ·exact absurd (VO (VD e) z) (WX _)
 have cellK:∀ x c,X.env.cells.lookup x=some c->∀ v,s.heap.IsCell c v->h'.IsCell c v:=fun x c e v ⟨o,ho,hd⟩=>by
  have Ay:c ∉ ch:=fun z=>(hch c z).2.2.1 x c e rfl
  by_cases hc:c∈X.fs
  ·obtain ⟨sl,q⟩:=slot c o (I.vP x c e) hc Ay ho (I.kr x c e)
   exact ⟨_,q,hd⟩
  ·exact ⟨o,keep c o (I.vP x c e) hc Ay ho (I.kr x c e),hd⟩
 refine ⟨I.ok,I.os,hg,⟨fun b o e n hb hx=>?_,fun b o e n hb hx=>?_,fun b o e n hx=>?_,fun b o e hx=>?_,fun b xs e=>tups b xs (I.base.tups b xs e),fun b o xs e=>nI b o xs (I.base.nI b o xs e),fun b ps e=>?_⟩,?_,fun x c e=>?_,?_,fun x c e=>?_,fun p hp=>?_,hok,I.len⟩
 ·exact keep b o (vQ b o e) hb (D5 b o e hx) (I.base.keep b o e n hb hx) (I.base.free b o e n hx)
 ·obtain ⟨sl,e1⟩:=I.base.slot b o e n hb hx
  obtain ⟨NA,e2⟩:=slot b _ (vQ b o e) hb (D5 b o e hx) e1 (I.base.free b o e n hx)
  exact ⟨NA,e2⟩
 ·obtain ⟨o',e1⟩:=I.base.there b o e hx
  exact free b o' (D5 b o e hx) e1 (I.base.free b o e n hx)
 ·obtain ⟨o',e1⟩:=I.base.there b o e hx
  exact there b o' (D5 b o e hx) e1
 ·obtain ⟨m1,e1⟩:=I.base.oE b ps e
  obtain ⟨m2,e2⟩:=oE b _ e1
  exact ⟨m1 ++ m2,by rw [e2,Array.append_assoc]⟩
 ·obtain ⟨m,hn,hl⟩:=I.loc
  refine ⟨m,ns m hn,fun i x v e1 e2 e3=>?_⟩
  obtain ⟨u,r,l⟩:=hl i x v e1 e2 e3
  refine ⟨u,r,?_⟩
  rcases l with l | ⟨k,c,e,z⟩
  ·exact .inl l
  ·exact .inr ⟨k,c,e,cellK x c e _ z⟩
 ·obtain ⟨v,z⟩:=I.cell x c e
  exact ⟨v,cellK x c e v z⟩
 ·obtain ⟨m,⟨o,_,_,ho,_⟩,_⟩:=I.loc
  exact free _ o (fun z=>(hch _ z).2.1 rfl) ho I.free
 ·obtain ⟨v,o,ho,hd⟩:=I.cell x c e
  exact free c o (fun z=>(hch c z).2.2.1 x c e rfl) ho (I.kr x c e)
 ·obtain ⟨e,n,ne,nf,d⟩:=I.pin p hp
  have Ay:p.1 ∉ ch:=fun z=>(hch p.1 z).2.2.2 p hp rfl
  exact ⟨keep p.1 p.2 ne nf Ay e n,free p.1 p.2 Ay e n,ne,nf,d⟩
theorem Inv.un {t':Nat} (I:Inv X pins σ H s) (u:Un X.fs [] H H' s.heap h') (hok:kY X.prog X.w H' h'):Inv X pins σ H' { s with heap:=h',toks:=t' }:=by
 obtain ⟨m,⟨o,es,ep,ho,r⟩,_⟩:=id I.loc
 obtain ⟨sl,hL⟩:=u.any ho I.free (by simp)
 exact I.step (g':=s.gens) (d':=s.drawn) (ch:=[]) (fun _ z=>nomatch z) (fun b o _ hb _ e n=>u.keep b o e n hb (by simp)) (fun b o _ hb _ e n=>u.slot b o e n hb (by simp)) (fun b o _ e n=>u.free b o e n (by simp)) (fun b o _ e=>u.there b o e (by simp)) u.tups u.nI u.oE (fun m' hm=>by
  obtain ⟨o',es',GK,ho',r'⟩:=hm
  rw [ho] at ho';cases ho'
  exact ⟨_,es',GK,hL,r'⟩) hok I.bare
theorem Inv.call {g':Array GenState} {t':Nat} {d':Drawn} {ch:List Addr} (I:Inv X pins σ H s) (u:Un (frs X.stack) ch H H' s.heap h') (hok:kY X.prog X.w H' h') (hg:AllBare g')
  (hch:∀ b∈ch,(b∈X.ex\/X.s₀.heap.objs.size<=b)/\b≠X.env.locals/\(∀ x c,X.env.cells.lookup x=some c->c≠b)/\∀ p∈X.pn ++ pins,p.1≠b) :
  Inv X pins σ H' { s with heap:=h',gens:=g',drawn:=d',toks:=t' }:=by
 obtain ⟨m,⟨o,es,ep,ho,r⟩,_⟩:=id I.loc
 obtain ⟨sl,hL⟩:=u.any ho I.free fun z=>(hch _ z).2.1 rfl
 exact I.step (ch:=ch) hch (fun b o hL hb hc e n=>u.keep b o e n (fun z=>(VF.mp (I.mr b z)).elim hL hb) hc) (fun b o _ _ hc e n=>u.any e n hc) (fun b o hc e n=>u.free b o e n hc) (fun b o hc e=>u.there b o e hc) u.tups u.nI u.oE (fun m' hm=>by
  obtain ⟨o',es',GK,ho',r'⟩:=hm
  rw [ho] at ho';cases ho'
  exact ⟨_,es',GK,hL,r'⟩) hok hg
theorem Inv.turned {t':Nat} {it:Addr} (I:Inv X pins σ H s) (k:∀ b o,b≠it->s.heap.get? b=some o->h'.get? b=some o) (hn:H it=none) (hL:it≠X.env.locals)
  (h1:it∈X.ex\/X.s₀.heap.objs.size<=it) (h2:∀ x c,X.env.cells.lookup x=some c->c≠it) (h3:∀ p∈X.pn ++ pins,p.1≠it):Inv X pins σ H { s with heap:=h',toks:=t' }:=by
 have Az:∀ b u,H b=some u->b≠it:=fun b u e z=>by rw [z,hn] at e;cases e
 refine I.step (g':=s.gens) (d':=s.drawn) (ch:=[it]) (fun b hb=>?_) (fun b o _ _ hc e _=>k b o (fun z=>hc (by simp [z])) e) (fun b o _ _ hc e _=>⟨o.slots,k b o (fun z=>hc (by simp [z])) e⟩) (fun _ _ _ _ n=>n)
  (fun b o hc e=>⟨o,k b o (fun z=>hc (by simp [z])) e⟩) (fun _ _ e=>e) (fun _ _ _ e=>e) (fun b ps e=>⟨#[],by rw [e];simp⟩) (fun m hm=>?_) (fun b u e=>?_) I.bare
 ·have e:b=it:=by simpa using hb
  subst e
  exact ⟨h1,hL,h2,h3⟩
 ·obtain ⟨o,es,ep,ho,r⟩:=hm
  exact ⟨o,es,ep,k _ o (Ne.symm hL) ho,r⟩
 ·refine (I.hok b u e).stay (fun c v hc q=>k c v ?_ q) (fun _ q=>q) fun _ _ q=>q
  rcases hc with z | z
  ·rw [z];exact Az b u e
  ·exact Az c _ z
theorem Inv.tok (I:Inv X pins σ H s) (t:Nat):Inv X pins σ H { s with toks:=t }:=I.un (h':=s.heap) (t':=t) Un.refl I.hok
theorem Inv.kept {t':Nat} (I:Inv X pins σ H s) (k:∀ b u,s.heap.get? b=some u->h'.get? b=some u):Inv X pins σ H { s with heap:=h',toks:=t' }:=I.un (Un.kept k) (I.hok.kept k)
theorem Inv.laid {a:Addr} {o:HO} {t':Nat} (I:Inv X pins σ H s) (k:∀ b u,s.heap.get? b=some u->h'.get? b=some u) (hp:s.heap.objs.size<=a) (new:cy X.prog X.w (upd H a o) h' a o) :
  Inv X pins σ (upd H a o) { s with heap:=h',toks:=t' }:=I.un (Un.laid k hp (I.hok.fresh hp)) (I.hok.laid k hp new)
theorem Inv.write {x e:Addr} {o:HO} {t':Nat} (I:Inv X pins σ H s) (mu:Au (H x)) (he:e=x\/H e=some (.own x)) (k:∀ b u,b≠e->s.heap.get? b=some u->h'.get? b=some u) (zg:∃ u,h'.get? e=some u)
  (new:cy X.prog X.w (upd H x o) h' x o):Inv X pins σ (upd H x o) { s with heap:=h',toks:=t' }:=I.un (Un.write mu he k zg) (I.hok.write mu he k zg new)
theorem Inv.l8 {uv:List (Addr×Obj)} (I:Inv X pins σ H s) (h:∀ p∈uv,s.heap.get? p.1=some p.2/\H p.1=none/\p.1≠X.env.locals/\p.1 ∉ X.fs/\∀ v,p.2.data≠.cell v):Inv X uv σ H s :=
 ⟨I.ok,I.os,I.bare,I.base,I.loc,I.cell,I.free,I.kr,fun p hp=>(VG.mp hp).elim (fun z=>I.pin p (Wv _ z)) (h p),I.hok,I.len⟩
theorem JT {N:List Str} (hN:N.Nodup) {i j:Nat} {x:Str} (a:N[i]?=some x) (b:N[j]?=some x):i=j:=by
 obtain ⟨h1,e1⟩:=Ve.mp a
 obtain ⟨h2,e2⟩:=Ve.mp b
 exact (Xp hN).mp (e1.trans e2.symm)
theorem JU {M:Model} {A:Around} {E:Value->Shared->Prop} {i:Nat} {x:Str} {v:V} {u:Value} {Q:Unit->Shared->Prop} (I:Inv X pins σ H s) (hN:X.N.Nodup) (hi:X.N[i]?=some x) (hx:Loc X.env.scope x) (r:RelV v u)
  (h:∀ s',Inv X pins (σ.set i (some v)) H s'->(∃ a,Heap.SameBut a s.heap s'.heap/\(a=X.env.locals\/X.env.cells.lookup x=some a))->Q () s') (hf:X.fn x=true\/X.env.scope.names.lookup x=some .local:=by first | exact .inl rfl | exact .inr rfl | assumption):wpAny M A (storeName X.env x u) Q E s:=by
 obtain ⟨m,hn,hl⟩:=id I.loc
 have hcls:(X.env.scope.kind == .class || (X.env.scope.kind == .module && X.env.locals != X.env.globals))=false:=by rw [I.ok.kind];rfl
 have hiσ:i < σ.length:=by rw [I.len];exact (Ve.mp hi).1
 have vP:=I.vP
 have tracked:∀ {a:Addr} {h':Heap},(∃ o,s.heap.get? a=some o/\H a=none)->Heap.SameBut a s.heap h'->kY X.prog X.w H h':=fun {a h'} ha hs b ob e=>by
  obtain ⟨_,_,hfree⟩:=ha
  refine (I.hok b ob e).stay (fun c w' hc q=>(hs.2 c ?_).trans q) (fun _ q=>q) fun _ _ q=>q
  rintro rfl
  rcases hc with rfl | hc
  ·rw [hfree] at e;cases e
  ·rw [hfree] at hc;cases hc
 rcases hx with hk | hk
 ·refine wpAny_storeName_local hk hn (fun h' hn' hs=>?_) hcls
  obtain ⟨oL,_,_,NC,_⟩:=id hn
  refine h _ ⟨I.ok,I.os,I.bare,⟨fun b o e n hb hx=>?_,fun b o e n hb hx=>?_,I.base.free,fun b o e hx=>?_,I.base.tups,I.base.nI,I.base.oE⟩,⟨_,hn',fun j y v' e1 e2 e3=>?_⟩,fun y c e=>?_,I.free,I.kr,fun p hp=>?_,tracked ⟨oL,NC,I.free⟩ hs,by simpa using I.len⟩ ⟨_,hs,.inl rfl⟩
  ·exact (hs.2 b (VZ (VO (VD e) I.ok.above))).trans (I.base.keep b o e n hb hx)
  ·obtain ⟨sl,e1⟩:=I.base.slot b o e n hb hx
   exact ⟨sl,(hs.2 b (VZ (VO (VD e) I.ok.above))).trans e1⟩
  ·obtain ⟨o',e1⟩:=I.base.there b o e hx
   exact ⟨o',(hs.2 b (VZ (VO (VD e) I.ok.above))).trans e1⟩
  ·by_cases hj:j=i
   ·subst hj
    rw [hi] at e1;cases e1
    rw [Vi hiσ] at e2
    cases e2
    exact ⟨u,r,.inl ⟨hk,by simp⟩⟩
   ·rw [Vq (Ne.symm hj)] at e2
    obtain ⟨u',r',q⟩:=hl j y v' e1 e2 e3
    refine ⟨u',r',?_⟩
    rcases q with ⟨k,e⟩ | ⟨k,c,e,z⟩
    ·refine .inl ⟨k,?_⟩
     have:y≠x:=fun e=>hj (JT hN e1 (e ▸ hi))
     simp [this,e]
    ·exact .inr ⟨k,c,e,z.sameBut hs (vP y c e)⟩
  ·obtain ⟨w',z⟩:=I.cell y c e
   exact ⟨w',z.sameBut hs (vP y c e)⟩
  ·obtain ⟨e,n,ne,nf,d⟩:=I.pin p hp
   exact ⟨(hs.2 p.1 ne).trans e,n,ne,nf,d⟩
 ·have hfn:X.fn x=true:=by
   rcases hf with z | z
   ·exact z
   ·rw [z] at hk;cases hk
  obtain ⟨c,hc⟩:=I.ok.has x (.inl hk)
  obtain ⟨w',z⟩:=I.cell x c hc
  refine wpAny_storeName_cell I.ok.kind hk hc z (fun h' hc' hs=>?_)
  obtain ⟨oc,hoc,GL⟩:=id z
  refine h { s with heap:=h' } ⟨I.ok,I.os,I.bare,⟨fun b o e n hb hx=>?_,fun b o e n hb hx=>?_,I.base.free,fun b o e hx=>?_,I.base.tups,I.base.nI,I.base.oE⟩,⟨m,hn.sameBut hs (Ne.symm (vP x c hc)),fun j y v' e1 e2 e3=>?_⟩,fun y c' e=>?_,I.free,I.kr,fun p hp=>?_,tracked ⟨oc,hoc,I.kr x c hc⟩ hs,by simpa using I.len⟩ ⟨c,hs,.inr hc⟩
  ·exact (hs.2 b (VZ (VO (VD e) (I.ok.Aw x c hfn hc)))).trans (I.base.keep b o e n hb hx)
  ·obtain ⟨sl,e1⟩:=I.base.slot b o e n hb hx
   exact ⟨sl,(hs.2 b (VZ (VO (VD e) (I.ok.Aw x c hfn hc)))).trans e1⟩
  ·obtain ⟨o',e1⟩:=I.base.there b o e hx
   exact ⟨o',(hs.2 b (VZ (VO (VD e) (I.ok.Aw x c hfn hc)))).trans e1⟩
  ·by_cases hj:j=i
   ·subst hj
    rw [hi] at e1;cases e1
    rw [Vi hiσ] at e2
    cases e2
    exact ⟨u,r,.inr ⟨.inl hk,c,hc,hc'⟩⟩
   ·rw [Vq (Ne.symm hj)] at e2
    obtain ⟨u',r',q⟩:=hl j y v' e1 e2 e3
    refine ⟨u',r',?_⟩
    rcases q with q | ⟨k,c',e,z'⟩
    ·exact .inl q
    ·refine .inr ⟨k,c',e,z'.sameBut hs ?_⟩
     rintro rfl
     exact hj (JT hN e1 (I.ok.inj _ _ _ e hc ▸ hi))
  ·by_cases hcc:c'=c
   ·subst hcc;exact ⟨_,hc'⟩
   ·obtain ⟨w2,z2⟩:=I.cell y c' e
    exact ⟨w2,z2.sameBut hs hcc⟩
  ·obtain ⟨e,n,ne,nf,d⟩:=I.pin p hp
   refine ⟨(hs.2 p.1 ?_).trans e,n,ne,nf,d⟩
   intro q
   rw [q,hoc] at e
   have q':oc=p.2:=Vs e
   exact d w' (by rw [<- q'];exact GL)
theorem D6 {M:Model} {A:Around} {E:Value->Shared->Prop} {i:Nat} {x:Str} {v:V} {u:Value} {Q:Unit->Shared->Prop} (I:Inv X pins σ H s) (hN:X.N.Nodup) (hi:X.N[i]?=some x) (hx:Loc X.env.scope x) (r:RelV v u)
  (h:∀ s',Inv X pins (σ.set i (some v)) H s'->Q () s') (hf:X.fn x=true\/X.env.scope.names.lookup x=some .local:=by first | exact .inl rfl | exact .inr rfl | assumption):wpAny M A (storeName X.env x u) Q E s :=
 JU I hN hi hx r (fun s' I' _=>h s' I') hf
theorem Inv.AA {s':Shared} {ch:List Addr} (I:Inv X pins σ H s) (ho:s'.os=s.os) (u:Un (frs X.stack) ch H H' s.heap s'.heap) (hok:kY X.prog X.w H' s'.heap) (hg:AllBare s'.gens)
  (hch:∀ b∈ch,(b∈X.ex\/X.s₀.heap.objs.size<=b)/\b≠X.env.locals/\(∀ x c,X.env.cells.lookup x=some c->c≠b)/\∀ p∈X.pn ++ pins,p.1≠b):Inv X pins σ H' s':=by
 obtain ⟨h',g',d',t',o'⟩:=s'
 have e:o'=s.os:=ho
 subst e
 exact I.call (g':=g') (t':=t') (d':=d') u hok hg hch
end
abbrev XK:=Value->Option Addr->Hp->Prop
abbrev St:=List (Option V)
abbrev VK:=V->Hp->Prop
abbrev TE:=St->Hp->VK->Prop
abbrev TT:=St->Hp->(Bool->Hp->Prop)->Prop
abbrev TA:=St->Hp->(List V->Hp->Prop)->Prop
set_option genInjectivity false in
structure Ends where
 nx:St->Hp->Prop
 rt:VK
 bk:St->Hp->Prop:=fun _ _=>False
 ct:St->Hp->Prop:=fun _ _=>False
abbrev TS:=Ends->St->Hp->Prop
def EP (X:Cx) (pins:List (Addr×Obj)) (σ:St) (Q:VK) (u:Value) (s':Shared):Prop:=∃ v H',Inv X pins σ H' s'/\RelV v u/\Q v H'
def TP (X:Cx) (pins:List (Addr×Obj)) (σ:St) (Q:Bool->Hp->Prop) (b:Bool) (s':Shared):Prop:=∃ H',Inv X pins σ H' s'/\Q b H'
def AP (X:Cx) (pins:List (Addr×Obj)) (σ:St) (Q:List V->Hp->Prop) (us:List Value) (s':Shared):Prop:=∃ vs H',Inv X pins σ H' s'/\Vals vs us/\Q vs H'
def SP (X:Cx) (pins:List (Addr×Obj)) (D:Ends) (f:Flow) (s':Shared):Prop :=
 match f with
 | .next=>∃ σ' H',Inv X pins σ' H' s'/\D.nx σ' H'
 | .brk=>∃ σ' H',Inv X pins σ' H' s'/\D.bk σ' H'
 | .cont=>∃ σ' H',Inv X pins σ' H' s'/\D.ct σ' H'
 | .ret u=>∃ v σ' H',Inv X pins σ' H' s'/\RelV v u/\D.rt v H'
def PE (X:Cx) (e:Expr) (t:TE):Prop :=
 ∀ (pins:List (Addr×Obj)) (s:Shared) (σ:St) (H:Hp) (Q:VK),Inv X pins σ H s->t σ H Q->wpAny (model X.prog X.w) X.A (eval e X.env) (EP X pins σ Q) X.xe s
def PT (X:Cx) (e:Expr) (t:TT):Prop :=
 ∀ (pins:List (Addr×Obj)) (s:Shared) (σ:St) (H:Hp) (Q:Bool->Hp->Prop),Inv X pins σ H s->t σ H Q->wpAny (model X.prog X.w) X.A (isTrue e X.env (eval e X.env)) (TP X pins σ Q) X.xe s
def PW (X:Cx) (e:Expr) (t:TT):Prop :=
 ∀ (whole:Sem Value) (pins:List (Addr×Obj)) (s:Shared) (σ:St) (H:Hp) (Q:Bool->Hp->Prop),Inv X pins σ H s->t σ H Q->wpAny (model X.prog X.w) X.A (isTrue e X.env whole) (TP X pins σ Q) X.xe s
theorem PW.pt {X:Cx} {e:Expr} {t:TT} (h:PW X e t):PT X e t:=h _
def PA (X:Cx) (es:List Expr) (t:TA):Prop :=
 ∀ (pos:Pos) (pins:List (Addr×Obj)) (s:Shared) (σ:St) (H:Hp) (Q:List V->Hp->Prop),Inv X pins σ H s->t σ H Q->wpAny (model X.prog X.w) X.A (spliced (backTo pos (starEach es X.env))) (AP X pins σ Q) X.xe s
def PS (X:Cx) (st:Stmt) (t:TS):Prop :=
 ∀ (pins:List (Addr×Obj)) (s:Shared) (σ:St) (H:Hp) (D:Ends),Inv X pins σ H s->t D σ H->wpAny (model X.prog X.w) X.A (exec st X.env) (SP X pins D) X.xe s
def pL (X:Cx) (st:List Stmt) (t:TS):Prop :=
 ∀ (pins:List (Addr×Obj)) (s:Shared) (σ:St) (H:Hp) (D:Ends),Inv X pins σ H s->t D σ H->wpAny (model X.prog X.w) X.A (execs st X.env) (SP X pins D) X.xe s
theorem cN {α:Type} {t:Sem α} {Q Q':α->Shared->Prop} {M:Model} {A:Around} {E:Value->Shared->Prop} {s:Shared} (h:wpAny M A t Q E s) (hQ:∀ a s,Q a s->Q' a s):wpAny M A t Q' E s:=wpAny_mono h hQ fun _ _ x=>x
section
variable {X:Cx}
def vR (i:Nat):TE:=fun σ H Q=>∃ v,σ[i]?=some (some v)/\Q v H
def tC (v:V):TE:=fun _ H Q=>Q v H
theorem vS {i:Nat} {x:Str} {pos:Pos} (hN:X.N[i]?=some x) (hv:GI X.env.scope x) (hd:(x == ("__debug__" : Str))=false:=by decide) (hcd:(x == ("__classdict__" : Str))=false:=by decide):PE X (.Name x pos) (vR i):=by
 intro pins s σ H Q I h
 obtain ⟨v,e,h⟩:=h
 obtain ⟨m,hn,hl⟩:=I.loc
 obtain ⟨u,r,l⟩:=hl i x v hN e hv
 have fin:EP X pins σ Q u s:=⟨v,H,I,r,h⟩
 rcases l with ⟨hk,hm⟩ | ⟨hk,c,hc,hcell⟩
 ·exact wpAny_Name (wpAny_loadName_local I.ok.kind hk hn hm fin) hd
 ·rcases hk with hk | hk
  ·exact wpAny_Name (wpAny_loadName_cell I.ok.kind hk hc hcell fin) hd
  ·exact wpAny_Name (wpAny_loadName_free I.ok.kind hk hc hcell fin hcd) hd
theorem aO {i j pos}:PE X (.Constant (.int i) j pos) (tC (.int i)):=fun _ _ _ H _ I h=>wpAny_Constant_int ⟨.int i,H,I.tok _,⟨_,rfl⟩,h⟩
theorem pM {b j pos}:PE X (.Constant (.bool b) j pos) (tC (.bl b)):=fun _ _ _ H _ I h=>Constant_bool ⟨.bl b,H,I,rfl,h⟩
theorem JV {j pos}:PE X (.Constant .none j pos) (tC .non):=fun _ _ _ H _ I h=>Constant_none ⟨.non,H,I,rfl,h⟩
theorem pN {x j pos}:PE X (.Constant (.str x) j pos) (tC (.str x)):=fun _ _ _ H _ I h=>Calls.Constant_str ⟨.str x,H,I.tok _,⟨_,rfl⟩,h⟩
def Gl (X:Cx) (x:Str):Prop:=X.env.kindOf x=some .globalImplicit
theorem JW {E:Value->Shared->Prop} {pins:List (Addr×Obj)} {s:Shared} {σ:St} {H:Hp} {x:Str} {u:Value} {pos:Pos} {Q:Value->Shared->Prop} (I:Inv X pins σ H s) (hg:Gl X x) (hm:X.mg x=some u) (h:Q u s)
  (hd:(x == ("__debug__" : Str))=false:=by decide):wpAny (model X.prog X.w) X.A (eval (.Name x pos) X.env) Q E s :=
 Calls.Name_function_global I.ok.kind hg (Calls.loadGlobal_global (by rw [I.ok.glob];exact I.mod.glob.keeps I.bk) hm h) hd
theorem zj {E:Value->Shared->Prop} {pins:List (Addr×Obj)} {s:Shared} {σ:St} {H:Hp} {x:Str} {u:Value} {pos:Pos} {Q:Value->Shared->Prop} (I:Inv X pins σ H s) (hg:Gl X x) (hm:X.mg x=none) (hv:bootBuiltins x=some u) (h:Q u s)
  (hn:x≠"__name__" := by decide) (hd:(x == ("__debug__" : Str))=false:=by decide):wpAny (model X.prog X.w) X.A (eval (.Name x pos) X.env) Q E s:=by
 obtain ⟨mb,h1,h2⟩:=I.mod.blt
 exact Calls.Name_function_global I.ok.kind hg (Calls.loadGlobal_builtin (by rw [I.ok.glob];exact I.mod.glob.keeps I.bk) hm (by rw [I.ok.blt];exact h1.keeps I.bk) ((h2 x hn).trans hv) h) hd
theorem ND {x:Str} {v:V} {u:Value} {pos:Pos} (hg:Gl X x) (hm:X.mg x=some u) (r:RelV v u) (hd:(x == ("__debug__" : Str))=false:=by decide):PE X (.Name x pos) (tC v) :=
 fun _ _ _ H _ I h=>JW I hg hm ⟨v,H,I,r,h⟩ hd
theorem NF {x:Str} {v:V} {u:Value} {pos:Pos} (hg:Gl X x) (hm:X.mg x=none) (hv:bootBuiltins x=some u) (r:RelV v u) (hn:x≠"__name__" := by decide) (hd:(x == ("__debug__" : Str))=false:=by decide):PE X (.Name x pos) (tC v) :=
 fun _ _ _ H _ I h=>zj I hg hm hv ⟨v,H,I,r,h⟩ hn hd
variable {a b:Expr} {ta tb:TE} {pos:Pos}
def PC (X:Cx) (op:CmpOp) (a b:Expr) (t:TE):Prop :=
 ∀ (pins:List (Addr×Obj)) (s:Shared) (σ:St) (H:Hp) (Q:VK),Inv X pins σ H s->t σ H Q ->
  wpAny (model X.prog X.w) X.A (eval a X.env) (fun v s₁=>wpAny (model X.prog X.w) X.A (eval b X.env) (fun u s₂=>wpAny (model X.prog X.w) X.A (compareOp op v u) (EP X pins σ Q) X.xe s₂) X.xe s₁) X.xe s
theorem qW (b:Expr) {op:CmpOp} (h:op≠.In) (h2:op≠.NotIn):behindInMarks op b=false:=by
 have e1:(op == CmpOp.In)=false:=by cases op <;> first | rfl | exact absurd rfl h
 have e2:(op == CmpOp.NotIn)=false:=by cases op <;> first | rfl | exact absurd rfl h2
 cases b <;> simp [behindInMarks,e1,e2]
def tB (t:TE):TT:=fun σ H Q=>t σ H fun x H1=>∃ c,x=.bl c/\Q c H1
theorem vT {op:CmpOp} {t:TE} (h:PC X op a b t) (h1:behindInMarks op b=false:=by first | exact qW _ (by decide) (by decide) | rfl):PT X (.Compare a [op] [b] pos) (tB t):=by
 intro pins s σ H Q I hw
 refine wpAny_isTrue_Compare1 (cN (h pins s σ H _ I hw) fun v s1 h1=>cN h1 fun u s2 h2=>cN h2 fun c s3 ⟨x,H1,I1,r1,q1⟩=>?_) h1
 obtain ⟨d,rfl,q⟩:=q1
 cases r1
 exact wpAny_truthy_bool ⟨H1,I1,q⟩
theorem D7 {e:Expr} {t:TE} (h:PE X e t) (he:∀ whole,isTrue e X.env whole=(do let v <- whole;standAt e.pos;holding [v] (truthy v)):=by intro _;rfl):PT X e (tB t):=by
 intro pins s σ H Q I hw
 refine isTrue_plain (cN (h pins s σ H _ I hw) fun v s1 ⟨x,H1,I1,r1,q1⟩=>?_) (he _)
 obtain ⟨d,rfl,q⟩:=q1
 cases r1
 exact wpAny_truthy_bool ⟨H1,I1,q⟩
variable {tA D8:TT} {rest:List Expr}
def AB (t u:TT):TT:=fun σ H Q=>t σ H fun c H1=>if c=true then u σ H1 Q else Q false H1
def JX (t u:TT):TT:=fun σ H Q=>t σ H fun c H1=>if c=true then Q true H1 else u σ H1 Q
def AE (t:TT):TT:=fun σ H Q=>t σ H fun c H1=>Q (!c) H1
theorem D9 (ha:PT X a tA):PW X (.BoolOp .And [a] pos) tA:=by
 intro wh pins s σ H Q I h
 refine isTrue_and (cN (ha pins s σ H Q I h) fun c s1 e=>?_)
 cases c with
 | true=>exact isTrue_and_nil e
 | false=>exact e
theorem zk (ha:PT X a tA):PW X (.BoolOp .Or [a] pos) tA:=by
 intro wh pins s σ H Q I h
 refine isTrue_or (cN (ha pins s σ H Q I h) fun c s1 e=>?_)
 cases c with
 | false=>exact isTrue_or_nil e
 | true=>exact e
theorem Ea (ha:PT X a tA) (hb:PW X (.BoolOp .And (b :: rest) pos) D8):PW X (.BoolOp .And (a :: b :: rest) pos) (AB tA D8):=by
 intro wh pins s σ H Q I h
 refine isTrue_and (cN (ha pins s σ H _ I h) fun c s1 ⟨H1,I1,q1⟩=>?_)
 cases c with
 | true=>exact hb wh pins s1 σ H1 Q I1 q1
 | false=>exact ⟨H1,I1,q1⟩
theorem vU (ha:PT X a tA) (hb:PW X (.BoolOp .Or (b :: rest) pos) D8):PW X (.BoolOp .Or (a :: b :: rest) pos) (JX tA D8):=by
 intro wh pins s σ H Q I h
 refine isTrue_or (cN (ha pins s σ H _ I h) fun c s1 ⟨H1,I1,q1⟩=>?_)
 cases c with
 | true=>exact ⟨H1,I1,q1⟩
 | false=>exact hb wh pins s1 σ H1 Q I1 q1
theorem GN (ha:PT X a tA):PT X (.UnaryOp .Not a pos) (AE tA):=by
 intro pins s σ H Q I h
 exact isTrue_not (ha pins s σ H (fun c H1=>Q (!c) H1) I h)
def uw (ta tb:TE):TE:=fun σ H Q=>ta σ H fun x H1=>∃ c,x=.bl c/\if c=true then tb σ H1 Q else Q (.bl false) H1
theorem JY {op} {t:TE} (h:PE X a t):PE X (.BoolOp op [a] pos) t:=fun pins s σ H Q I hw=>BoolOp_one (h pins s σ H Q I hw)
theorem GO (ha:PE X a ta) (hb:PE X (.BoolOp .And (b :: rest) pos) tb):PE X (.BoolOp .And (a :: b :: rest) pos) (uw ta tb):=by
 intro pins s σ H Q I h
 refine BoolOp_and (cN (ha pins s σ H _ I h) fun v s1 ⟨x,H1,I1,r1,q1⟩=>?_)
 obtain ⟨c,rfl,q1⟩:=q1
 cases r1
 refine wpAny_truthy_bool ?_
 cases c with
 | true=>exact hb pins s1 σ H1 Q I1 q1
 | false=>exact ⟨.bl false,H1,I1,rfl,q1⟩
end
def j3 (K:Zfr) (H:Hp) (a:Addr) (xs:List V):Prop :=
 Rd H a (.lst xs) \/
  ∃ (o:Obj) (its:Array Value) (n:Nat),K.lookup a=some o/\o.cls=.type "list" /\ o.dict=none/\o.data=.seq its n/\its.size<=sizeLine/\Vals xs its.toList
def ft (K:Zfr) (H:Hp) (a:Addr) (xs:List V):Prop :=
 Rd H a (.tup xs) \/
  ∃ (o:Obj) (its:Array Value) (n:Nat),K.lookup a=some o/\o.cls=.type "tuple" /\ o.dict=none/\o.data=.seq its n/\its.size<=sizeLine/\Vals xs its.toList
def GP:Value->Option V
 | .none=>some .non
 | .bool b=>some (.bl b)
 | .int i _=>some (.int i)
 | .str x _=>some (.str x)
 | .bytes b _=>some (.qU b)
 | .float b _=>some (.ze b)
 | .ref a=>some (.ref a)
 | .type n=>some (.ty n)
 | _=>none
theorem RelV.abs {x:V} {u:Value} (r:RelV x u):GP u=some x:=by
 cases x with
 | non=>cases r;rfl
 | bl _=>cases r;rfl
 | int _=>obtain ⟨t,rfl⟩:=r;rfl
 | str _=>obtain ⟨t,rfl⟩:=r;rfl
 | qU _=>obtain ⟨t,rfl⟩:=r;rfl
 | ze _=>obtain ⟨t,rfl⟩:=r;rfl
 | ref _=>cases r;rfl
 | ty _=>cases r;rfl
theorem RelV.inj {x y:V} {u:Value} (r:RelV x u) (q:RelV y u):x=y:=Vs (r.abs.symm.trans q.abs)
theorem Vals.inj:∀ {xs ys:List V} {us:List Value},Vals xs us->Vals ys us->xs=ys
 | _,_,_,.nil,.nil=>rfl
 | _,_,_,.cons r t,.cons r' t'=>by rw [r.inj r',Vals.inj t t']
section
variable {X:Cx} {pins:List (Addr×Obj)} {σ:St} {H:Hp} {s:Shared} {a:Addr} {xs ys:List V}
theorem ft.of {K:Zfr} (h:H a=some (.tup xs)):ft K H a xs:=.inl (.inl h)
theorem Inv.list (I:Inv X pins σ H s) (h:j3 X.K H a xs):∃ its:List Value,Vals xs its/\PlainL s.heap a its.toArray/\xs.length<=sizeLine:=by
 rcases h with h | ⟨o,its,n,hk,hc,hd,hs,hz,r⟩
 ·obtain ⟨z,its,n,r,e⟩:=h.ok I.hok
  exact ⟨its,r,⟨_,n,e,rfl,rfl,rfl⟩,z⟩
 ·refine ⟨its.toList,r,⟨o,n,I.zi a o hk,hc,hd,by simpa using hs⟩,?_⟩
  have e:=r.length
  simp only [WY] at e
  omega
theorem Inv.nK (I:Inv X pins σ H s) (h:ft X.K H a xs):∃ its:List Value,Vals xs its/\nH s.heap a its.toArray/\xs.length<=sizeLine:=by
 rcases h with h | ⟨o,its,n,hk,hc,hd0,hs,hz,r⟩
 ·obtain ⟨z,its,r,p⟩:=h.ok I.hok
  exact ⟨its,r,p,z⟩
 ·refine ⟨its.toList,r,⟨o,I.zi a o hk,hc,hd0,n,by simpa using hs⟩,?_⟩
  have e:=r.length
  simp only [WY] at e
  omega
theorem Inv.tuple (I:Inv X pins σ H s) (h:ft X.K H a xs):∃ its:List Value,Vals xs its/\IsTup s.heap a its.toArray/\xs.length<=sizeLine :=
 let ⟨its,r,p,z⟩:=I.nK h
 ⟨its,r,p.tup,z⟩
theorem Inv.qX (I:Inv X pins σ H s) (h:j3 X.K H a xs) (h':j3 X.K H a ys):xs=ys:=by
 obtain ⟨its,r,⟨o,n,e,_,_,d⟩,_⟩:=I.list h
 obtain ⟨its',r',⟨o',n',e',_,_,d'⟩,_⟩:=I.list h'
 rw [e] at e';cases e'
 rw [d] at d'
 injection d' with d1 _
 have:its=its':=by simpa using congrArg Array.toList d1
 subst this
 exact r.inj r'
theorem Inv.nt (I:Inv X pins σ H s) (h:ft X.K H a xs) (h':ft X.K H a ys):xs=ys:=by
 obtain ⟨its,r,⟨o,e,_,n,d⟩,_⟩:=I.tuple h
 obtain ⟨its',r',⟨o',e',_,n',d'⟩,_⟩:=I.tuple h'
 rw [e] at e';cases e'
 rw [d] at d'
 injection d' with d1 _
 have:its=its':=by simpa using congrArg Array.toList d1
 subst this
 exact r.inj r'
end
abbrev Cx.wish (X:Cx) (E:Value->Shared->Prop):Cx:={ X with xe:=E }
abbrev Cx.lU (X:Cx):Cx:=X.wish fun _ _=>False
theorem Cx.Ok.wish {X:Cx} (ok:X.Ok) (E:Value->Shared->Prop):(X.wish E).Ok :=
 ⟨ok.mod,ok.kind,ok.glob,ok.blt,ok.above,ok.inj,ok.has,ok.Aw,ok.hd,ok.frames,ok.stk,ok.JS,ok.bs,ok.uu,ok.qV,ok.sY,ok.mq,ok.zh⟩
theorem Cx.Ok.jE {X:Cx} {E:Value->Shared->Prop} (ok:(X.wish E).Ok):X.Ok :=
 ⟨ok.mod,ok.kind,ok.glob,ok.blt,ok.above,ok.inj,ok.has,ok.Aw,ok.hd,ok.frames,ok.stk,ok.JS,ok.bs,ok.uu,ok.qV,ok.sY,ok.mq,ok.zh⟩
section
variable {X:Cx} {pins:List (Addr×Obj)} {σ:St} {H:Hp} {s:Shared} {E:Value->Shared->Prop}
theorem Inv.wish (I:Inv X pins σ H s) (E:Value->Shared->Prop):Inv (X.wish E) pins σ H s:=⟨I.ok.wish E,I.os,I.bare,I.base,I.loc,I.cell,I.free,I.kr,I.pin,I.hok,I.len⟩
theorem Inv.jE (I:Inv (X.wish E) pins σ H s):Inv X pins σ H s:=⟨I.ok.jE,I.os,I.bare,I.base,I.loc,I.cell,I.free,I.kr,I.pin,I.hok,I.len⟩
theorem SP.jE {D:Ends} {f:Flow} {s':Shared} (h:SP (X.wish E) pins D f s'):SP X pins D f s':=by
 cases f with
 | next=>obtain ⟨σ',H',I,q⟩:=h;exact ⟨σ',H',I.jE,q⟩
 | brk=>obtain ⟨σ',H',I,q⟩:=h;exact ⟨σ',H',I.jE,q⟩
 | cont=>obtain ⟨σ',H',I,q⟩:=h;exact ⟨σ',H',I.jE,q⟩
 | ret u=>obtain ⟨v,σ',H',I,r,q⟩:=h;exact ⟨v,σ',H',I.jE,r,q⟩
theorem pL.lU {st:List Stmt} {t:TS} (h:pL X.lU st t):pL X st t:=fun pins s σ H D I hw =>
 wpAny_mono (h pins s σ H D (I.wish _) hw) (fun _ _ q=>q.jE) fun _ _ z=>False.elim z
end
section
variable {X:Cx} {st:Stmt} {rest:List Stmt} {t u:TS} {e:Expr} {te:TE} {pos:Pos}
def ux:TS:=fun D σ H=>D.nx σ H
def AF (t u:TS):TS:=fun D σ H=>t { D with nx:=u D } σ H
theorem gy:pL X [] ux:=fun _ _ σ H _ I h=>wpAny_execs_nil ⟨σ,H,I,h⟩
theorem aZ (h1:PS X st t) (h2:pL X rest u):pL X (st :: rest) (AF t u):=by
 intro pins s σ H D I h
 refine wpAny_execs_cons (cN (h1 pins s σ H { D with nx:=u D } I h) fun f s1 q=>?_)
 cases f with
 | next =>
  obtain ⟨σ',H',I',q⟩:=q
  exact h2 pins s1 σ' H' D I' q
 | ret v=>exact q
 | brk=>exact q
 | cont=>exact q
theorem bq (h1:PS X st t):pL X [st] t:=by
 intro pins s σ H D I h
 refine wpAny_execs_cons (cN (h1 pins s σ H D I h) fun f s1 q=>?_)
 cases f with
 | next=>exact wpAny_execs_nil q
 | ret v=>exact q
 | brk=>exact q
 | cont=>exact q
theorem Inv.quiet {pins:List (Addr×Obj)} {σ:St} {H:Hp} {s:Shared} (I:Inv X pins σ H s):interactive X.env=false:=by simp [interactive,I.ok.kind]
def uy (te:TE):TS:=fun D σ H=>te σ H fun _ H1=>D.nx σ H1
theorem mQ (he:PE X e te) (hs:swapsWith e none pos.line X.env=pure false:=by rfl):PS X (.Expr e pos) (uy te):=by
 intro pins s σ H D I h
 exact wpAny_Expr_any (cN (he pins s σ H _ I h) fun v s1 ⟨x,H1,I1,r1,q1⟩=>⟨σ,H1,I1,q1⟩) I.quiet hs
def AG (te:TE):TS:=fun D σ H=>te σ H D.rt
theorem dZ (he:PE X e te):PS X (.Return (some e) pos) (AG te):=by
 intro pins s σ H D I h
 exact wpAny_Return_some (cN (he pins s σ H _ I h) fun v s1 ⟨x,H1,I1,r1,q1⟩=>⟨x,σ,H1,I1,r1,q1⟩)
def AH (c:TT) (t u:TS):TS:=fun D σ H=>c σ H fun b H1=>if b=true then t D σ H1 else u D σ H1
theorem fz {c:Expr} {a b:List Stmt} {tc:TT} (hc:PT X c tc) (ha:pL X a t) (hb:pL X b u):PS X (.If c a b pos) (AH tc t u):=by
 intro pins s σ H D I h
 refine wpAny_If (cN (hc pins s σ H _ I h) fun d s1 ⟨H1,I1,q1⟩=>?_)
 cases d with
 | true=>exact ha pins s1 σ H1 D I1 q1
 | false=>exact hb pins s1 σ H1 D I1 q1
def qY:TS:=fun _ _ _=>False
theorem NG:PS X st qY:=fun _ _ _ _ _ _ h=>h.elim
end
abbrev TG:=V->St->Hp->(St->Hp->Prop)->Prop
abbrev sv:=List V->St->Hp->(St->Hp->Prop)->Prop
def PG (X:Cx) (target:Expr) (t:TG):Prop :=
 ∀ (pins:List (Addr×Obj)) (s:Shared) (σ:St) (H:Hp) (v:V) (u:Value) (Q:St->Hp->Prop),Inv X pins σ H s->RelV v u->t v σ H Q ->
  wpAny (model X.prog X.w) X.A (assign target X.env u) (fun _ s'=>∃ σ' H',Inv X pins σ' H' s'/\Q σ' H') X.xe s
def Eb (X:Cx) (ts:List Expr) (t:sv):Prop :=
 ∀ (pins:List (Addr×Obj)) (s:Shared) (σ:St) (H:Hp) (vs:List V) (us:List Value) (Q:St->Hp->Prop),Inv X pins σ H s->Vals vs us->t vs σ H Q ->
  wpAny (model X.prog X.w) X.A (assignInOrder ((assignEach ts X.env).map (·.2)) us) (fun _ s'=>∃ σ' H',Inv X pins σ' H' s'/\Q σ' H') X.xe s
abbrev vV:=V->V->V->Hp->(Hp->Prop)->Prop
def AI (X:Cx) (t:vV):Prop :=
 ∀ (pins:List (Addr×Obj)) (s:Shared) (σ:St) (H:Hp) (o i v:V) (ov iv u:Value) (Q:Hp->Prop),Inv X pins σ H s->RelV o ov->RelV i iv->RelV v u->t o i v H Q ->
  wpAny (model X.prog X.w) X.A (setItem ov iv u) (fun _ s'=>∃ H',Inv X pins σ H' s'/\Q H') X.xe s
section
variable {X:Cx} {pos:Pos}
def oG (i:Nat):TG:=fun v σ H Q=>Q (σ.set i (some v)) H
theorem de {i:Nat} {x:Str} (hN:X.N.Nodup) (hi:X.N[i]?=some x) (hx:Loc X.env.scope x) (hf:X.fn x=true\/X.env.scope.names.lookup x=some .local:=by first | exact .inl rfl | exact .inr rfl | assumption):PG X (.Name x pos) (oG i):=by
 intro pins s σ H v u Q I r h
 exact wpAny_assign_Name (D6 I hN hi hx r (fun s' I'=>⟨_,H,I',h⟩) hf)
def AJ:sv:=fun vs σ H Q=>vs=[]/\Q σ H
def uz (t:TG) (u:sv):sv:=fun vs σ H Q=>∃ v r,vs=v :: r/\t v σ H fun σ' H'=>u r σ' H' Q
theorem qJ:Eb X [] AJ:=by
 intro pins s σ H vs us Q I r h
 obtain ⟨e,h⟩:=h
 subst e
 cases r
 exact assignInOrder_nil ⟨σ,H,I,h⟩
theorem lr {e:Expr} {es:List Expr} {t:TG} {u:sv} (h1:PG X e t) (h2:Eb X es u)
  (hs:(assignEach (e :: es) X.env).map (·.2)=assign e X.env :: (assignEach es X.env).map (·.2):=by rfl):Eb X (e :: es) (uz t u):=by
 intro pins s σ H vs us Q I r h
 obtain ⟨v,vr,e1,h⟩:=h
 subst e1
 cases r with
 | cons r rr =>
  rw [hs]
  refine assignInOrder_cons (cN (h1 pins s σ H _ _ _ I r h) fun _ s1 ⟨σ1,H1,I1,q1⟩=>?_)
  exact h2 pins s1 σ1 H1 _ _ Q I1 rr q1
def AK (K:Zfr) (n:Nat) (t:sv):TG:=fun v σ H Q=>∃ a xs,v=.ref a/\ft K H a xs/\xs.length=n/\t xs σ H Q
theorem qK {es:List Expr} {k:Nat} {t:sv} {n:Nat} (hc:X.calm=true) (h:Eb X es t)
  (hn:(assignEach es X.env).length=n:=by rfl) (hst:(assignEach es X.env).findIdx? (·.1)=none:=by rfl):PG X (.Tuple es k pos) (AK X.K n t):=by
 intro pins s σ H v u Q I r hw
 obtain ⟨a,xs,e1,hq,hl,hw⟩:=hw
 subst e1
 cases r
 obtain ⟨its,rv,ht,hz⟩:=I.tuple hq
 refine assign_Tuple_tuple (I.ok.hd hc) ht (by simp [hn,<- hl,rv.length]) hst fun h' hx=>?_
 have I1:Inv X pins σ H { s with heap:=h' }:=I.kept (t':=s.toks) fun b o e=>hx b o (VZ (VD e)) e
 exact h pins _ σ H xs _ Q I1 (by simpa using rv) hw
def mS (to ti:TE) (t:vV):TG:=fun v σ H Q=>to σ H fun o H1=>ti σ H1 fun i H2=>t o i v H2 fun H3=>Q σ H3
theorem pO {o i:Expr} {to ti:TE} {t:vV} (ho:PE X o to) (hi:PE X i ti) (hs:AI X t)
  (ha:∀ v,assign (.Subscript o i pos) X.env v=(do
   let ov <- holding [v] (eval o X.env)
   let iv <- holding [v,ov] (eval i X.env)
   standAt pos
   holding [v,ov,iv] (setItem ov iv v)
   release [v,ov,iv] []):=by intro _;rfl):PG X (.Subscript o i pos) (mS to ti t):=by
 intro pins s σ H v u Q I r h
 rw [ha]
 refine wpAny_bind (wpAny_holding (cN (ho pins s σ H _ I h) fun ov s1 ⟨x,H1,I1,r1,q1⟩=>?_))
 refine wpAny_bind (wpAny_holding (cN (hi pins s1 σ H1 _ I1 q1) fun iv s2 ⟨y,H2,I2,r2,q2⟩=>?_))
 refine wpAny_bind (wpAny_standAt (wpAny_bind (wpAny_holding (cN (hs pins s2 σ H2 x y v ov iv u _ I2 r1 r2 r q2) fun _ s3 ⟨H3,I3,q3⟩=>?_))))
 exact wpAny_release ⟨σ,H3,I3,q3⟩
def sZ (te:TE) (g:TG):TS:=fun D σ H=>te σ H fun x H1=>g x σ H1 D.nx
theorem o4 {tg e:Expr} {te:TE} {g:TG} (he:PE X e te) (hg:PG X tg g) (hs:swapsWithSole [tg] e pos.line X.env=pure false:=by rfl) (hw:swappedStores [tg] e X.env=pure none:=by rfl)
  (h1:(assignEach [tg] X.env).map (·.2)=[assign tg X.env]:=by rfl):PS X (.Assign [tg] e pos) (sZ te g):=by
 intro pins s σ H D I h
 refine wpAny_Assign_stores (cN (he pins s σ H _ I h) fun v s1 ⟨x,H1,I1,r1,q1⟩=>?_) hs hw
 rw [h1]
 exact cN (hg pins s1 σ H1 x v _ I1 r1 q1) fun _ s2 q=>q
theorem cn {i:Nat} {x:Str} {e:Expr} {te:TE} {pos':Pos} (hN:X.N.Nodup) (hi:X.N[i]?=some x) (hx:Loc X.env.scope x) (he:PE X e te) (hs:swapsWith e (some (.Name x pos')) pos.line X.env=pure false:=by rfl) (hf:X.fn x=true\/X.env.scope.names.lookup x=some .local:=by first | exact .inl rfl | exact .inr rfl | assumption) :
  PS X (.Assign [.Name x pos'] e pos) (sZ te (oG i)):=by
 intro pins s σ H D I h
 refine wpAny_Assign_Name (cN (he pins s σ H _ I h) fun v s1 ⟨y,H1,I1,r1,q1⟩=>?_) hs
 exact D6 I1 hN hi hx r1 (fun s2 I2=>⟨_,H1,I2,q1⟩) hf
def AL (i j:Nat) (ta:TA):TS:=fun D σ H=>ta σ H fun vs H1=>∃ v w,vs=[v,w]/\D.nx ((σ.set i (some v)).set j (some w)) H1
theorem JZ {i j:Nat} {x y:Str} {a b:Expr} {ta:TA} {px py pt:Pos} {kt k2 GQ} (hc:X.calm=true) (hN:X.N.Nodup) (hi:X.N[i]?=some x) (hj:X.N[j]?=some y) (hij:i≠j)
  (hx:X.env.scope.names.lookup x=some .local) (hy:X.env.scope.names.lookup y=some .local) (ha:PA X [a,b] ta)
  (hw:swappedStores [.Tuple [.Name x px,.Name y py] kt pt] (.Tuple [a,b] k2 GQ) X.env=pure (some [x,y]))
  (hs:swapsWithSole [.Tuple [.Name x px,.Name y py] kt pt] (.Tuple [a,b] k2 GQ) pos.line X.env=pure false:=by rfl) :
  PS X (.Assign [.Tuple [.Name x px,.Name y py] kt pt] (.Tuple [a,b] k2 GQ) pos) (AL i j ta):=by
 intro pins s σ H D I h
 rw [exec_Assign_arm]
 refine wpAny_bind (wpAny_standAt ?_)
 rw [hs]
 refine wpAny_bind (wpAny_pure ?_)
 rw [if_neg (by decide)]
 refine wpAny_bind (Tuple_ (cN (ha _ pins s σ H _ I h) fun us s1 ⟨vs,H1,I1,r1,q1⟩=>?_))
 obtain ⟨v,w,e1,q1⟩:=q1
 subst e1
 obtain ⟨u1,u2,rfl,rv,rw'⟩:∃ u1 u2,us=[u1,u2]/\RelV v u1/\RelV w u2:=by
  cases r1 with
  | cons p q =>
   cases q with
   | cons p' q' =>
    cases q'
    exact ⟨_,_,rfl,p,p'⟩
 refine wpAny_newObj_type ?_ (by show 2<=sizeLine;decide)
 have I2:Inv X pins σ H1 { s1 with heap:=s1.heap.push { cls:=.type "tuple",data:=.seq [u1,u2].toArray } }:=I1.kept (t':=s1.toks) fun b o e=>Vw _ e
 rw [hw]
 refine wpAny_bind (wpAny_pure ?_)
 show wpAny (model X.prog X.w) X.A (do rule "assign.swapped-stores";let items <- unpackItems (.ref s1.heap.objs.size) 2 none;assignInOrder [fun v=>bindName X.env y v,fun v=>bindName X.env x v] items.reverse;pure Flow.next) _ _ _
 refine wpAny_bind (wpAny_rule (wpAny_bind (unpackItems_tuple (items:=#[u1,u2]) (I.ok.hd hc) (IsTup.new s1.heap _) fun h' hx'=>?_)))
 have I3:=I2.kept (h':=h') (t':=s1.toks) fun b o e=>hx' b o (VZ (VD e)) e
 show wpAny _ _ (assignInOrder [fun v=>bindName X.env y v,fun v=>bindName X.env x v] [u2,u1] >>= fun _=>pure Flow.next) _ _ _
 refine wpAny_bind (assignInOrder_cons (wpAny_bindName (D6 I3 hN hj (.inl hy) rw' (fun s2 I4=>?_) (.inr hy))))
 refine assignInOrder_cons (wpAny_bindName (D6 I4 hN hi (.inl hx) rv (fun s3 I5=>assignInOrder_nil (wpAny_pure ?_)) (.inr hx)))
 rw [List.set_comm _ _ (Ne.symm hij)] at I5
 exact ⟨_,H1,I5,q1⟩
end
section
variable {X:Cx} {pos:Pos}
def qZ (c:TT) (tb:TS):TS:=fun D σ H=>∃ W:Nat->St->Hp->Prop,(∃ m,W m σ H)/\∀ m σ H,W m σ H ->
 c σ H fun b H1=>if b=true then ∃ N:St->Hp->Prop,(∀ σ' H',N σ' H'->∃ m',m' < m/\W m' σ' H')/\tb { D with nx:=N,ct:=N,bk:=D.nx } σ H1 else D.nx σ H1
theorem zm {c:Expr} {body:List Stmt} {tc:TT} {tb:TS} (hp:PassesOwn (model X.prog X.w) X.A X.env X.xe) (hc:PT X c tc) (hb:pL X body tb):PS X (.While c body [] pos) (qZ tc tb):=by
 intro pins s σ H D I h
 obtain ⟨W,⟨m0,w0⟩,turn⟩:=h
 refine wpAny_While (codeAny_whileLoop (fun n s'=>∃ σ' H',Inv X pins σ' H' s'/\W n σ' H') ?_ m0 ⟨σ,H,I,w0⟩)
 rintro n s1 ⟨σ1,H1,I1,w1⟩
 refine wpAny_passesOwn hp (cN (hc pins s1 σ1 H1 _ I1 (turn n σ1 H1 w1)) fun b s2 ⟨H2,I2,q2⟩=>?_)
 cases b with
 | true =>
  obtain ⟨N,hN,q2⟩:=q2
  rw [if_pos rfl]
  refine wpAny_passesOwn hp (cN (hb pins s2 σ1 H2 _ I2 q2) fun f s3 q3=>?_)
  cases f with
  | next =>
   obtain ⟨σ3,H3,I3,n3⟩:=q3
   obtain ⟨m',hm,w3⟩:=hN σ3 H3 n3
   exact ⟨m',hm,σ3,H3,I3,w3⟩
  | cont =>
   obtain ⟨σ3,H3,I3,n3⟩:=q3
   obtain ⟨m',hm,w3⟩:=hN σ3 H3 n3
   exact ⟨m',hm,σ3,H3,I3,w3⟩
  | brk=>exact q3
  | ret v=>exact q3
 | false =>
  rw [if_neg Vo]
  exact wpAny_execs_nil ⟨σ1,H2,I2,q2⟩
end
set_option genInjectivity false in
structure It where
 go:Nat->Hp->Prop
 tf:Nat->Hp->V->Hp->Prop
 stop:Nat->Hp->Prop
def lC (X:Cx) (pins:List (Addr×Obj)) (H:Hp) (b:Addr):Prop :=
 H b=none/\b≠X.env.locals/\b ∉ X.fs/\(b∈X.ex\/X.s₀.heap.objs.size<=b)/\(∀ x c,X.env.cells.lookup x=some c->c≠b)/\∀ p∈X.pn ++ pins,p.1≠b
theorem Inv.qm {X:Cx} {pins:List (Addr×Obj)} {σ:St} {H H':Hp} {s:Shared} {b:Addr} (I:Inv X pins σ H s) (hb:s.heap.objs.size<=b) (hn:H' b=none):lC X pins H' b:=by
 refine ⟨hn,Nat.ne_of_gt (VO I.lt hb),I.Ax hb,.inr (VL I.sz hb),fun x c e z=>?_,fun p hp z=>?_⟩
 ·obtain ⟨v,q⟩:=I.cell x c e
  exact absurd (VO q.lt (by rw [z];exact hb)) (WX _)
 ·exact absurd (VO (VD (I.pin p hp).1) (by rw [z];exact hb)) (WX _)
structure Turn (P:Program) (w:World) (K:Zfr) (tg:Expr) (J:It) (fp:List Addr) (it:Addr) (tn:Nat->Heap->Prop):Prop where
 mem:it∈fp
 obj:∀ i h,tn i h->∀ b∈fp,∃ o,h.get? b=some o/\∀ v,o.data≠.cell v
 keep:∀ i h h',tn i h->(∀ b∈fp,∀ o,h.get? b=some o->h'.get? b=some o)->tn i h'
 item:∀ (X:Cx),X.prog=P->X.w=w->X.K=K->X.calm=true->∀ (i:Nat) (pins:List (Addr×Obj)) (s:Shared) (σ:St) (H:Hp) (E:Value->Shared->Prop),Inv X pins σ H s->(∀ b∈fp,lC X pins H b)->tn i s.heap->J.go i H ->
  wpAny (model P w) X.A (pyNext (.ref it)) (fun r s1=>∃ u,r=some u /\
   wpAny (model P w) X.A (letOwnedTupleGo tg (.ref it) u) (fun _ s2=>∃ x H',Inv X pins σ H' s2/\RelV x u/\J.tf i H x H'/\tn (i + 1) s2.heap/\∀ b∈fp,H' b=none) E s1) E s
 done:∀ (X:Cx),X.prog=P->X.w=w->X.K=K->X.calm=true->∀ (i:Nat) (pins:List (Addr×Obj)) (s:Shared) (σ:St) (H:Hp) (E:Value->Shared->Prop),Inv X pins σ H s->(∀ b∈fp,lC X pins H b)->tn i s.heap->J.stop i H ->
  wpAny (model P w) X.A (pyNext (.ref it)) (fun r s1=>r=none/\Inv X pins σ H s1) E s
 self:∀ (A:Around) (i:Nat) (s:Shared) (Q:Value->Shared->Prop) (E:Value->Shared->Prop),tn i s.heap->Q (.ref it) s->wpAny (model P w) A (pyIter (.ref it)) Q E s
abbrev TI:=St->Hp->(It->Hp->Prop)->Prop
def J0 (X:Cx) (pins:List (Addr×Obj)) (σ:St) (tg:Expr) (R:It->Hp->Prop) (itv:Value) (s2:Shared):Prop :=
 ∃ (it:Addr) (fp:List Addr) (tn:Nat->Heap->Prop) (J:It) (H':Hp),itv=.ref it/\Inv X pins σ H' s2/\Turn X.prog X.w X.K tg J fp it tn/\tn 0 s2.heap/\(∀ b∈fp,lC X pins H' b)/\R J H'
def PI (X:Cx) (tg iter:Expr) (wi:TI):Prop :=
 ∀ (pins:List (Addr×Obj)) (s:Shared) (σ:St) (H:Hp) (R:It->Hp->Prop),Inv X pins σ H s->wi σ H R ->
  wpAny (model X.prog X.w) X.A (eval iter X.env) (fun v s1=>wpAny (model X.prog X.w) X.A (pyIter v) (J0 X pins σ tg R) X.xe s1) X.xe s
theorem GS {M:Model} {A:Around} {E:Value->Shared->Prop} {s:Shared} {tg:Expr} {it:Addr} {u:Value} {o:Obj} {n:String} {vs:Array Value} {Q:Unit->Shared->Prop} (ho:s.heap.get? it=some o) (hc:o.cls=.type n) (hd:o.data=.fields vs)
  (hn:["enumerate","zip","dict_itemiterator","dict_reverseitemiterator","odict_iterator","itertools.zip_longest","itertools.pairwise"].contains n=false) (hQ:Q () s):wpAny M A (letOwnedTupleGo tg (.ref it) u) Q E s:=by
 unfold letOwnedTupleGo
 cases tg <;> first
  | exact wpAny_pure hQ
  | (cases u <;> first
    | exact wpAny_pure hQ
    | (refine wpAny_bind (wpAny_load ho ?_)
       rw [hc,hd]
       show wpAny M A (if (["enumerate","zip","dict_itemiterator","dict_reverseitemiterator","odict_iterator","itertools.zip_longest","itertools.pairwise"].contains n && vs[0]? == some (rawInt _))=true then _ else _) Q E s
       rw [if_neg (by intro h;rw [hn,Bool.false_and] at h;cases h)]
       exact wpAny_pure hQ))
def J1 (K:Zfr) (a:Addr):It :=
 ⟨fun i H=>∃ xs x,j3 K H a xs/\xs[i]?=some x,fun i H x H'=>H'=H/\∀ xs,j3 K H a xs->xs[i]?=some x,fun i H=>∃ xs,j3 K H a xs/\xs.length<=i⟩
def J3 (K:Zfr) (a:Addr):It :=
 ⟨fun i H=>∃ xs x,ft K H a xs/\xs[i]?=some x,fun i H x H'=>H'=H/\∀ xs,ft K H a xs->xs[i]?=some x,fun i H=>∃ xs,ft K H a xs/\xs.length<=i⟩
def AO (lo:Int) (n:Nat):It:=⟨fun i _=>i < n,fun i H x H'=>H'=H/\x=.int (lo + i),fun i _=>n<=i⟩
theorem NH {P:Program} {w:World} {K:Zfr} {tg:Expr} (a it:Addr):Turn P w K tg (J1 K a) [it] it (fun i h=>h.IsListIter it a i) where
 mem:=by simp
 obj:=fun i h st b hb=>by
  have e:b=it:=by simpa using hb
  subst e
  obtain ⟨o,e,c,d⟩:=st
  exact ⟨o,e,fun v z=>by rw [d] at z;cases z⟩
 keep:=fun i h h' st k=>st.at fun o e=>k it (by simp) o e
 item:=by
  intro X hP hw hK hc i pins s σ H E I hf st hg
  subst hP hw hK
  obtain ⟨xs,x,hq,hx⟩:=hg
  obtain ⟨its,rv,p,hz⟩:=I.list hq
  obtain ⟨u,hu,ru⟩:=rv.get hx
  obtain ⟨f0,f1,f2,f3,f4,f5⟩:=hf it (by simp)
  refine wpAny_pyNext_list_item st p.isList (x:=u) (by simpa using hu) fun h' st' sb=>?_
  have I1:Inv X pins σ H { s with heap:=h' }:=I.turned (t':=s.toks) (fun b o hb e=>(sb.2 b hb).trans e) f0 f1 f3 f4 f5
  obtain ⟨o,e,c,d⟩:=id st'
  exact ⟨u,rfl,GS (s:={ s with heap:=h' }) e c d (by decide) ⟨x,H,I1,ru,⟨rfl,fun ys hy=>by rw [I.qX hy hq];exact hx⟩,st',fun b hb=>(hf b hb).1⟩⟩
 done:=by
  intro X hP hw hK hc i pins s σ H E I hf st hg
  subst hP hw hK
  obtain ⟨xs,hq,hx⟩:=hg
  obtain ⟨its,rv,p,hz⟩:=I.list hq
  obtain ⟨f0,f1,f2,f3,f4,f5⟩:=hf it (by simp)
  have hl:=rv.length
  exact wpAny_pyNext_list_end (I.ok.hd hc) st p.isList (by simp;omega) fun h' eb=>⟨rfl,I.turned (t':=s.toks) (fun b o hb e=>eb b o hb e) f0 f1 f3 f4 f5⟩
 self:=fun _ _ _ _ _ st h=>wpAny_pyIter_listiter st h
theorem NI {P:Program} {w:World} {K:Zfr} {tg:Expr} (a it:Addr):Turn P w K tg (J3 K a) [it] it (fun i h=>h.IsTupleIter it a i) where
 mem:=by simp
 obj:=fun i h st b hb=>by
  have e:b=it:=by simpa using hb
  subst e
  obtain ⟨o,e,c,d⟩:=st
  exact ⟨o,e,fun v z=>by rw [d] at z;cases z⟩
 keep:=fun i h h' st k=>st.at fun o e=>k it (by simp) o e
 item:=by
  intro X hP hw hK hc i pins s σ H E I hf st hg
  subst hP hw hK
  obtain ⟨xs,x,hq,hx⟩:=hg
  obtain ⟨its,rv,p,hz⟩:=I.tuple hq
  obtain ⟨u,hu,ru⟩:=rv.get hx
  obtain ⟨f0,f1,f2,f3,f4,f5⟩:=hf it (by simp)
  refine wpAny_pyNext_tuple_item st (show s.heap.IsTuple a its.toArray from p) (x:=u) (by simpa using hu) fun h' st' sb=>?_
  have I1:Inv X pins σ H { s with heap:=h' }:=I.turned (t':=s.toks) (fun b o hb e=>(sb.2 b hb).trans e) f0 f1 f3 f4 f5
  obtain ⟨o,e,c,d⟩:=id st'
  exact ⟨u,rfl,GS (s:={ s with heap:=h' }) e c d (by decide) ⟨x,H,I1,ru,⟨rfl,fun ys hy=>by rw [I.nt hy hq];exact hx⟩,st',fun b hb=>(hf b hb).1⟩⟩
 done:=by
  intro X hP hw hK hc i pins s σ H E I hf st hg
  subst hP hw hK
  obtain ⟨xs,hq,hx⟩:=hg
  obtain ⟨its,rv,p,hz⟩:=I.tuple hq
  obtain ⟨f0,f1,f2,f3,f4,f5⟩:=hf it (by simp)
  have hl:=rv.length
  exact wpAny_pyNext_tuple_end (I.ok.hd hc) st (show s.heap.IsTuple a its.toArray from p) (by simp;omega) fun h' eb=>⟨rfl,I.turned (t':=s.toks) (fun b o hb e=>eb b o hb e) f0 f1 f3 f4 f5⟩
 self:=fun _ _ _ _ _ st h=>wpAny_pyIter_tupleiter st h
theorem NJ {P:Program} {w:World} {K:Zfr} {tg:Expr} (it:Addr) (lo:Int) (n:Nat):Turn P w K tg (AO lo n) [it] it (fun i h=>IsRangeIter h it (lo + (i:Nat) * 1) ((n:Int) - (i:Nat)) 1) where
 mem:=by simp
 obj:=fun i h st b hb=>by
  have e:b=it:=by simpa using hb
  subst e
  exact ⟨_,st,fun v z=>by
   have z':Data.fields _=Data.cell v:=z
   cases z'⟩
 keep:=fun i h h' st k=>k it (by simp) _ st
 item:=by
  intro X hP hw hK hc i pins s σ H E I hf st hg
  subst hP hw hK
  obtain ⟨f0,f1,f2,f3,f4,f5⟩:=hf it (by simp)
  have W:=Walks.range (prog:=X.prog) (w:=X.w) (I.ok.hd hc) it lo 1 n
  refine W.item i s _ _ hg st fun v h' tk hv st' kk=>?_
  obtain ⟨t,rfl⟩:=hv
  have I1:Inv X pins σ H { s with heap:=h',toks:=tk }:=I.turned (fun b o hb e=>kk b o (by simpa using hb) e) f0 f1 f3 f4 f5
  refine ⟨_,rfl,GS (s:={ s with heap:=h',toks:=tk }) (n:="range_iterator") st' rfl rfl (by decide) ⟨.int (lo + i),H,I1,⟨t,?_⟩,⟨rfl,rfl⟩,st',fun b hb=>(hf b hb).1⟩⟩
  rw [Int.mul_one]
 done:=by
  intro X hP hw hK hc i pins s σ H E I hf st hg
  subst hP hw hK
  obtain ⟨f0,f1,f2,f3,f4,f5⟩:=hf it (by simp)
  exact wpAny_pyNext_range_end (I.ok.hd hc) st (by have:n<=i:=hg;omega) fun h' eb=>⟨rfl,I.turned (t':=s.toks) (fun b o hb e=>eb b o hb e) f0 f1 f3 f4 f5⟩
 self:=fun _ _ _ _ _ st h=>wpAny_pyIter_rangeiter st h
section
variable {X:Cx} {tg:Expr}
def q5 (K:Zfr) (tl:TE):TI:=fun σ H R=>tl σ H fun x H1=>∃ a,x=.ref a/\(∃ xs,j3 K H1 a xs)/\R (J1 K a) H1
def AQ (K:Zfr) (tl:TE):TI:=fun σ H R=>tl σ H fun x H1=>∃ a,x=.ref a/\(∃ xs,ft K H1 a xs)/\R (J3 K a) H1
theorem AR {l:Expr} {tl:TE} (hl:PE X l tl):PI X tg l (q5 X.K tl):=by
 intro pins s σ H R I h
 refine cN (hl pins s σ H _ I h) fun v s1 ⟨x,H1,I1,r1,q1⟩=>?_
 obtain ⟨a,e,⟨xs,hq⟩,q⟩:=q1
 subst e
 cases r1
 obtain ⟨its,rv,p,hz⟩:=I1.list hq
 refine wpAny_pyIter_list p.isList ?_
 refine ⟨s1.heap.objs.size,[s1.heap.objs.size],_,_,H1,rfl,I1.kept (t':=s1.toks) fun b o e=>Vw _ e,NH a _,⟨_,VI _ rfl,rfl,rfl⟩,fun b hb=>?_,q⟩
 have e:b=s1.heap.objs.size:=by simpa using hb
 subst e
 exact I1.qm (Vh _) (I1.hok.fresh (Vh _))
theorem om {l:Expr} {tl:TE} (hl:PE X l tl):PI X tg l (AQ X.K tl):=by
 intro pins s σ H R I h
 refine cN (hl pins s σ H _ I h) fun v s1 ⟨x,H1,I1,r1,q1⟩=>?_
 obtain ⟨a,e,⟨xs,hq⟩,q⟩:=q1
 subst e
 cases r1
 obtain ⟨its,rv,p,hz⟩:=I1.tuple hq
 refine wpAny_pyIter_tuple (show s1.heap.IsTuple a its.toArray from p) ?_
 refine ⟨s1.heap.objs.size,[s1.heap.objs.size],_,_,H1,rfl,I1.kept (t':=s1.toks) fun b o e=>Vw _ e,NI a _,⟨_,VI _ rfl,rfl,rfl⟩,fun b hb=>?_,q⟩
 have e:b=s1.heap.objs.size:=by simpa using hb
 subst e
 exact I1.qm (Vh _) (I1.hok.fresh (Vh _))
theorem J4 {pins:List (Addr×Obj)} {σ:St} {H:Hp} {s:Shared} {R:It->Hp->Prop} {E:Value->Shared->Prop} {lo hi:Int} {t u v:Tok} {tk:Nat} (I:Inv X pins σ H s) (h1:-(2 ^ 62)<=lo) (h2:lo < 2 ^ 62) (h3:-(2 ^ 62)<=hi) (h4:hi < 2 ^ 62)
  (q:R (AO lo (hi - lo).toNat) H):wpAny (model X.prog X.w) X.A (pyIter (.ref s.heap.objs.size)) (J0 X pins σ tg R) E { s with heap:=s.heap.push { cls:=.type "range",data:=.fields #[.int lo t,.int hi u,.int 1 v] },toks:=tk }:=by
 refine wpAny_pyIter_range (IsRange.new ..) (small_one h1 h2 h3 h4) ?_
 have I1:Inv X pins σ H { s with heap:=s.heap.push { cls:=.type "range",data:=.fields #[.int lo t,.int hi u,.int 1 v] },toks:=tk }:=I.kept fun b o e=>Vw _ e
 refine ⟨(s.heap.push { cls:=.type "range",data:=.fields #[.int lo t,.int hi u,.int 1 v] }).objs.size,[(s.heap.push { cls:=.type "range",data:=.fields #[.int lo t,.int hi u,.int 1 v] }).objs.size],_,_,H,rfl,
  I1.kept (t':=tk) fun b o e=>Vw _ e,NJ _ lo (hi - lo).toNat,?_,fun b hb=>?_,q⟩
 ·have e1:lo + ((0:Nat):Int) * 1=lo:=by simp
  have e2:(((hi - lo).toNat:Nat):Int) - ((0:Nat):Int)=Builtin.Range.rangeSize lo hi 1:=by rw [rangeSize_one];split <;> omega
  show IsRangeIter _ _ (lo + ((0:Nat):Int) * 1) ((((hi - lo).toNat:Nat):Int) - ((0:Nat):Int)) 1
  rw [e1,e2]
  exact VI _ rfl
 ·have e:b=(s.heap.push { cls:=.type "range",data:=.fields #[.int lo t,.int hi u,.int 1 v] }).objs.size:=by simpa using hb
  subst e
  exact I1.qm (Vh _) (I1.hok.fresh (Vh _))
def uA (ta:TA):TI:=fun σ H R=>ta σ H fun vs H1=>∃ j:Int,vs=[.int j]/\-(2 ^ 62)<=j/\j < 2 ^ 62/\R (AO 0 j.toNat) H1
def uB (ta:TA):TI:=fun σ H R=>ta σ H fun vs H1=>∃ i j:Int,vs=[.int i,.int j]/\(-(2 ^ 62)<=i/\i < 2 ^ 62/\-(2 ^ 62)<=j/\j < 2 ^ 62)/\R (AO i (j - i).toNat) H1
theorem oo {a:Expr} {ta:TA} {p pos:Pos} (hg:Gl X "range") (hm:X.mg "range" = none) (ha:PA X [a] ta) (hs:starEach [a] X.env=[(false,eval a X.env)]:=by rfl):PI X tg (.Call (.Name "range" p) [a] [] pos) (uA ta):=by
 intro pins s σ H R I h
 refine Call_ (zj I hg hm boot_range (PyProof.Rows.callWith_type1 (cN (ha pos pins s σ H _ I h) fun us s1 ⟨vs,H1,I1,r1,q1⟩=>?_) hs rfl))
 obtain ⟨j,e,q1,q2,q⟩:=q1
 subst e
 cases r1 with
 | cons r rr =>
  cases rr
  obtain ⟨t,rfl⟩:=r
  exact call_range_1 (J4 I1 (by omega) (by omega) q1 q2 (by simpa using q))
theorem NK {a b:Expr} {ta:TA} {p pos:Pos} (hg:Gl X "range") (hm:X.mg "range" = none) (ha:PA X [a,b] ta) (hs:starEach [a,b] X.env=[(false,eval a X.env),(false,eval b X.env)]:=by rfl) (hs2:starEach [b] X.env=[(false,eval b X.env)]:=by rfl) :
  PI X tg (.Call (.Name "range" p) [a,b] [] pos) (uB ta):=by
 intro pins s σ H R I h
 refine Call_ (zj I hg hm boot_range (PyProof.Rows.callWith_type1 (cN (ha pos pins s σ H _ I h) fun us s1 ⟨vs,H1,I1,r1,q1⟩=>?_) (by rw [hs,hs2]) (by rw [hs2];rfl)))
 obtain ⟨i,j,e,⟨q1,q2,q3,q4⟩,q⟩:=q1
 subst e
 cases r1 with
 | cons r rr =>
  cases rr with
  | cons r' rr =>
   cases rr
   obtain ⟨t,rfl⟩:=r
   obtain ⟨t',rfl⟩:=r'
   exact call_range_2 (J4 I1 q1 q2 q3 q4 q)
def AU (wi:TI) (g:TG) (tb:TS):TS:=fun D σ H=>wi σ H fun J H1=>∃ W:Nat->Nat->St->Hp->Prop,(∃ m,W 0 m σ H1)/\∀ i m σ H,W i m σ H ->
 (J.stop i H/\D.nx σ H)\/(J.go i H/\∃ N:St->Hp->Prop,(∀ σ' H',N σ' H'->∃ m',m' < m/\W (i + 1) m' σ' H')/\∀ x H',J.tf i H x H'->g x σ H' fun σ2 H2=>tb { D with nx:=N,ct:=N,bk:=D.nx } σ2 H2)
def mv (fp:List Addr) (h:Heap):List (Addr×Obj):=fp.filterMap fun b=>(h.get? b).map fun o=>(b,o)
theorem Ec {fp:List Addr} {h:Heap} {b:Addr} {o:Obj} (hb:b∈fp) (e:h.get? b=some o):(b,o)∈mv fp h:=List.mem_filterMap.mpr ⟨b,hb,by rw [e];rfl⟩
theorem NL {fp:List Addr} {h:Heap} {p:Addr×Obj} (hp:p∈mv fp h):p.1∈fp/\h.get? p.1=some p.2:=by
 obtain ⟨b,hb,e⟩:=List.mem_filterMap.mp hp
 cases q:h.get? b with
 | none=>rw [q] at e;cases e
 | some o =>
  rw [q] at e
  have e':(b,o)=p:=Vs e
  subst e'
  exact ⟨hb,q⟩
theorem Inv.pinned {pins:List (Addr×Obj)} {σ:St} {H:Hp} {s:Shared} {fp:List Addr} (I:Inv X pins σ H s) (hf:∀ b∈fp,lC X pins H b) (ho:∀ b∈fp,∃ o,s.heap.get? b=some o/\∀ v,o.data≠.cell v):Inv X (pins ++ mv fp s.heap) σ H s :=
 I.l8 fun p hp=>(VG.mp hp).elim (fun z=>I.pin p (VN _ z)) fun z=>by
  obtain ⟨hb,e⟩:=NL z
  obtain ⟨f0,f1,f2,_⟩:=hf p.1 hb
  obtain ⟨o,e',d⟩:=ho p.1 hb
  rw [e] at e';cases e'
  exact ⟨e,f0,f1,f2,d⟩
theorem Inv.kZ {pins pl:List (Addr×Obj)} {σ:St} {H:Hp} {s:Shared} (I:Inv X (pins ++ pl) σ H s):Inv X pins σ H s:=I.l8 fun p hp=>I.pin p (VN _ (Wv _ hp))
theorem lD {iter:Expr} {body:List Stmt} {wi:TI} {g:TG} {tb:TS} {pos:Pos} (hp:PassesOwn (model X.prog X.w) X.A X.env X.xe) (hc:X.calm=true) (hi:PI X tg iter wi) (hg:PG X tg g) (hb:pL X body tb)
  (hs:∀ x,foldedSetIterable iter X.env x=pure x:=by intro _;rfl):PS X (.For tg iter body [] pos) (AU wi g tb):=by
 intro pins s σ H D I h
 refine wpAny_For (cN (hi pins s σ H _ I h) fun v s1 h1=>cN h1 fun itv s2 h2=>?_) hs
 obtain ⟨it,fp,tn,J,H2,e,I2,T,st2,f2,W,⟨m0,w0⟩,turn⟩:=h2
 subst e
 have stat:∀ {H':Hp},(∀ b∈fp,H' b=none)->∀ b∈fp,lC X pins H' b:=fun hn b hb=>⟨hn b hb,(f2 b hb).2⟩
 refine codeAny_forLoop_any (fun n s'=>∃ i σ' H',Inv X pins σ' H' s'/\tn i s'.heap/\(∀ b∈fp,H' b=none)/\W i n σ' H') ?_ m0 ⟨0,σ,H2,I2,st2,fun b hb=>(f2 b hb).1,w0⟩
 rintro n s3 ⟨i,σ3,H3,I3,st3,J5,w3⟩
 rcases turn i n σ3 H3 w3 with ⟨stop,qn⟩ | ⟨go,N,hN,step⟩
 ·refine wpAny_passesOwn hp (cN (T.done X rfl rfl rfl hc i pins s3 σ3 H3 X.xe I3 (stat J5) st3 stop) fun r s4 ⟨hr,I4⟩=>?_)
  subst hr
  exact wpAny_execs_nil ⟨σ3,H3,I4,qn⟩
 ·refine wpAny_passesOwn hp (cN (T.item X rfl rfl rfl hc i pins s3 σ3 H3 X.xe I3 (stat J5) st3 go) fun r s4 ⟨u,hr,h4⟩=>?_)
  subst hr
  refine wpAny_passesOwn hp (cN h4 fun _ s5 ⟨x,H5,I5,r5,y5,ku,Ed⟩=>?_)
  have NM:=I5.pinned (stat Ed) (T.obj _ _ ku)
  refine wpAny_passesOwn hp (cN (hg _ s5 σ3 H5 x u _ NM r5 (step x H5 y5)) fun _ s6 ⟨σ6,H6,I6,q6⟩=>?_)
  refine wpAny_passesOwn hp (cN (hb _ s6 σ6 H6 _ I6 q6) fun f s7 q7=>?_)
  have again:∀ {σ7:St} {H7:Hp},Inv X (pins ++ mv fp s5.heap) σ7 H7 s7->N σ7 H7->∃ m,m < n/\∃ i σ' H',Inv X pins σ' H' s7/\tn i s7.heap/\(∀ b∈fp,H' b=none)/\W i m σ' H':=fun {σ7 H7} I7 n7=>by
   obtain ⟨m',hm,w7⟩:=hN σ7 H7 n7
   refine ⟨m',hm,i + 1,σ7,H7,I7.kZ,T.keep _ _ _ ku fun b hb o e=>(I7.pin (b,o) (VN _ (VN _ (Ec hb e)))).1,fun b hb=>?_,w7⟩
   obtain ⟨o,e,d⟩:=T.obj _ _ ku b hb
   exact (I7.pin (b,o) (VN _ (VN _ (Ec hb e)))).2.1
  cases f with
  | next=>obtain ⟨σ7,H7,I7,n7⟩:=q7;exact again I7 n7
  | cont=>obtain ⟨σ7,H7,I7,n7⟩:=q7;exact again I7 n7
  | brk=>obtain ⟨σ7,H7,I7,q7⟩:=q7;exact ⟨σ7,H7,I7.kZ,q7⟩
  | ret v=>obtain ⟨x7,σ7,H7,I7,r7,q7⟩:=q7;exact ⟨x7,σ7,H7,I7.kZ,r7,q7⟩
end
abbrev R2:=V->V->Hp->VK->Prop
def kz (X:Cx) (f:Value->Value->Sem Value) (r:R2):Prop :=
 ∀ (pins:List (Addr×Obj)) (s:Shared) (σ:St) (H:Hp) (x y:V) (v u:Value) (Q:VK),Inv X pins σ H s->RelV x v->RelV y u->r x y H Q ->
  wpAny (model X.prog X.w) X.A (f v u) (EP X pins σ Q) X.xe s
def GU (X:Cx) (f:Value->Sem Value) (r:V->Hp->VK->Prop):Prop :=
 ∀ (pins:List (Addr×Obj)) (s:Shared) (σ:St) (H:Hp) (x:V) (v:Value) (Q:VK),Inv X pins σ H s->RelV x v->r x H Q ->
  wpAny (model X.prog X.w) X.A (f v) (EP X pins σ Q) X.xe s
def fX (X:Cx) (f:Value) (r:List V->Hp->VK->Prop):Prop :=
 ∀ (pins:List (Addr×Obj)) (s:Shared) (σ:St) (H:Hp) (xs:List V) (us:List Value) (Q:VK),Inv X pins σ H s->Vals xs us->r xs H Q ->
  wpAny (model X.prog X.w) X.A (call f us) (EP X pins σ Q) X.xe s
def AV (r:R2) (ta tb:TE):TE:=fun σ H Q=>ta σ H fun x H1=>tb σ H1 fun y H2=>r x y H2 Q
def J7 (r:V->Hp->VK->Prop) (ta:TE):TE:=fun σ H Q=>ta σ H fun x H1=>r x H1 Q
def rI (C:Int->Int->Prop) (g:Int->Int->V):R2:=fun x y H Q=>∃ i j,x=.int i/\y=.int j/\C i j/\Q (g i j) H
def pe (g:Int->Int->V):R2:=fun x y H Q=>∃ i j,x=.int i/\y=.int j/\Q (g i j) H
def rU (g:Int->V):V->Hp->VK->Prop:=fun x H Q=>∃ i,x=.int i/\Q (g i) H
section
variable {X:Cx} {a b c:Expr} {ta tb tc:TE} {pos:Pos}
theorem vW (ha:PE X a ta) (hb:PE X b tb) {pins:List (Addr×Obj)} {s:Shared} {σ:St} {H:Hp} {R:V->V->Hp->Prop} (I:Inv X pins σ H s)
  (h:ta σ H fun x H1=>tb σ H1 fun y H2=>R x y H2) {Q:Value->Shared->Prop} {f:Value->Value->Sem Value}
  (hf:∀ v u s2 x y H2,Inv X pins σ H2 s2->RelV x v->RelV y u->R x y H2->wpAny (model X.prog X.w) X.A (f v u) Q X.xe s2) :
  wpAny (model X.prog X.w) X.A (eval a X.env) (fun v s₁=>wpAny (model X.prog X.w) X.A (eval b X.env) (fun u s₂=>wpAny (model X.prog X.w) X.A (f v u) Q X.xe s₂) X.xe s₁) X.xe s:=by
 refine cN (ha pins s σ H _ I h) fun v s1 ⟨x,H1,I1,r1,q1⟩=>?_
 refine cN (hb pins s1 σ H1 _ I1 q1) fun u s2 ⟨y,H2,I2,r2,q2⟩=>?_
 exact hf v u s2 x y H2 I2 r1 r2 q2
theorem cX {op:Operator} {r:R2} (ho:kz X (binaryOp op) r) (ha:PE X a ta) (hb:PE X b tb):PE X (.BinOp a op b pos) (AV r ta tb):=by
 intro pins s σ H Q I h
 exact wpAny_BinOp (vW ha hb I h fun v u s2 x y H2 I2 rx ry q=>ho pins s2 σ H2 x y v u Q I2 rx ry q)
theorem vX {op:UnaryOp} {r:V->Hp->VK->Prop} (ho:GU X (unaryOp op) r) (ha:PE X a ta):PE X (.UnaryOp op a pos) (J7 r ta):=by
 intro pins s σ H Q I h
 exact UnaryOp_ (cN (ha pins s σ H _ I h) fun v s1 ⟨x,H1,I1,r1,q1⟩=>ho pins s1 σ H1 x v Q I1 r1 q1)
theorem Ee {f:Value->Value->Sem Value} {C:Int->Int->Prop} {g:Int->Int->Int}
  (rule:∀ (i j:Int) (t u:Tok) (s:Shared) (Q:Value->Shared->Prop) (E:Value->Shared->Prop),C i j->Q (.int (g i j) s.toks) { s with toks:=s.toks + 1 }->wpAny (model X.prog X.w) X.A (f (.int i t) (.int j u)) Q E s) :
  kz X f (rI C fun i j=>.int (g i j)):=by
 intro pins s σ H x y v u Q I rx ry h
 obtain ⟨i,j,rfl,rfl,hc,q⟩:=h
 obtain ⟨t,rfl⟩:=rx
 obtain ⟨t',rfl⟩:=ry
 exact rule i j t t' s _ _ hc ⟨.int (g i j),H,I.tok _,⟨_,rfl⟩,q⟩
theorem AW {f:Value->Value->Sem Value} {g:Int->Int->Int}
  (rule:∀ (i j:Int) (t u:Tok) (s:Shared) (Q:Value->Shared->Prop) (E:Value->Shared->Prop),Q (.int (g i j) s.toks) { s with toks:=s.toks + 1 }->wpAny (model X.prog X.w) X.A (f (.int i t) (.int j u)) Q E s) :
  kz X f (pe fun i j=>.int (g i j)):=by
 intro pins s σ H x y v u Q I rx ry h
 obtain ⟨i,j,rfl,rfl,q⟩:=h
 obtain ⟨t,rfl⟩:=rx
 obtain ⟨t',rfl⟩:=ry
 exact rule i j t t' s _ _ ⟨.int (g i j),H,I.tok _,⟨_,rfl⟩,q⟩
theorem tj {f:Value->Value->Sem Value} {g:Int->Int->Bool}
  (rule:∀ (i j:Int) (t u:Tok) (s:Shared) (Q:Value->Shared->Prop) (E:Value->Shared->Prop),Q (.bool (g i j)) s->wpAny (model X.prog X.w) X.A (f (.int i t) (.int j u)) Q E s) :
  kz X f (pe fun i j=>.bl (g i j)):=by
 intro pins s σ H x y v u Q I rx ry h
 obtain ⟨i,j,rfl,rfl,q⟩:=h
 obtain ⟨t,rfl⟩:=rx
 obtain ⟨t',rfl⟩:=ry
 exact rule i j t t' s _ _ ⟨.bl (g i j),H,I,rfl,q⟩
def AX (i j:Int):Prop:=0 < j/\j < 1073741824
def AY (i j:Int):Prop:=0<=j/\j<=1000000/\i.natAbs < 2 ^ 64
def tm (i j:Int):Prop:=(-(2 ^ 64) < i/\i < 2 ^ 64)\/(-(2 ^ 64) < j/\j < 2 ^ 64)
theorem tm.ok {i j:Int} (h:tm i j):IntMulOk i j:=by
 rcases h with ⟨h1,h2⟩ | ⟨h1,h2⟩
 ·exact .of_left (intBits_le_64 h1 h2)
 ·exact .of_right (intBits_le_64 h1 h2)
theorem mT:kz X (binaryOp .Add) (pe fun i j=>.int (i + j)):=AW fun _ _ _ _ _ _ _ q=>add_int q
theorem AZ:kz X (binaryOp .Sub) (pe fun i j=>.int (i - j)):=AW fun _ _ _ _ _ _ _ q=>sub_int q
theorem tq:kz X (binaryOp .Mult) (rI tm fun i j=>.int (i * j)):=Ee fun _ _ _ _ _ _ _ hc q=>mul_int q hc.ok
theorem J8:kz X (binaryOp .FloorDiv) (rI AX fun i j=>.int (i / j)):=Ee fun i j _ _ _ _ _ hc q=>by
 have h1:(0:Int) < j:=hc.1
 have h2:j < 1073741824:=hc.2
 exact floordiv_int (by omega) (by rw [Int.fdiv_eq_ediv_of_nonneg i (by omega)];exact q) (.inl (PyProof.noPylong_small (by omega)))
theorem qo:kz X (binaryOp .Mod) (rI (fun _ j=>0 < j) fun i j=>.int (i % j)):=Ee fun i j _ _ _ _ _ hc q=>by
 have h1:(0:Int) < j:=hc
 exact mod_int' (by omega) (by rw [Int.fmod_eq_emod_of_nonneg i (by omega)];exact q)
theorem J9:kz X (binaryOp .Pow) (rI AY fun i j=>.int (i ^ j.toNat)):=Ee fun _ _ _ _ _ _ _ hc q=>pow_int_small hc.1 hc.2.1 hc.2.2 q
theorem NN {f:Value->Sem Value} {g:Int->Int}
  (rule:∀ (i:Int) (t:Tok) (s:Shared) (Q:Value->Shared->Prop) (E:Value->Shared->Prop),Q (.int (g i) s.toks) { s with toks:=s.toks + 1 }->wpAny (model X.prog X.w) X.A (f (.int i t)) Q E s) :
  GU X f (rU fun i=>.int (g i)):=by
 intro pins s σ H x v Q I rx h
 obtain ⟨i,rfl,q⟩:=h
 obtain ⟨t,rfl⟩:=rx
 exact rule i t s _ _ ⟨.int (g i),H,I.tok _,⟨_,rfl⟩,q⟩
theorem vY:GU X (unaryOp .USub) (rU fun i=>.int (-i)):=NN fun _ _ _ _ _ q=>neg_int q
end
def nL:V->V->Bool
 | .non,.non=>true | .non,.int _=>true | .int _,.non=>true | .non,.bl _=>true | .bl _,.non=>true | .non,.str _=>true | .str _,.non=>true
 | .int _,.int _=>true | .bl _,.bl _=>true | .str _,.str _=>true | .qU _,.qU _=>true
 | .int _,.str _=>true | .str _,.int _=>true | .bl _,.str _=>true | .str _,.bl _=>true
 | _,_=>false
def Ka:R2:=fun x y H Q=>nL x y=true/\Q (.bl (decide (x=y))) H
def Kb:R2:=fun x y H Q=>nL x y=true/\Q (.bl (!decide (x=y))) H
theorem Kc {i j:Int}:decide (V.int i=V.int j)=(i == j):=by
 rw [WG]
 simp
theorem Kd {i j:Bool}:decide (V.bl i=V.bl j)=(i == j):=by
 rw [WG]
 simp
theorem Ke {i j:Str}:decide (V.str i=V.str j)=(i == j):=by
 rw [WG]
 simp
theorem Kf {i j:Array UInt8}:decide (V.qU i=V.qU j)=(i.toList == j.toList):=by
 rw [WG]
 cases i
 cases j
 simp
section
variable {X:Cx} {a b c:Expr} {ta tb tc:TE} {pos:Pos}
theorem kA {pins:List (Addr×Obj)} {σ:St} {H:Hp} {s:Shared} {Q:VK} {k k':Bool} (I:Inv X pins σ H s) (q:Q (.bl k) H) (e:k=k'):EP X pins σ Q (.bool k') s:=by
 subst e
 exact ⟨.bl k,H,I,rfl,q⟩
theorem mK:kz X (compareOp .Eq) Ka:=by
 intro pins s σ H x y v u Q I rx ry h
 obtain ⟨hs,q⟩:=h
 cases x with
 | non =>
  cases rx
  cases y with
  | non=>cases ry;exact PySem.EqNone.eq_none_none (kA I q (by simp))
  | bl j=>cases ry;exact PySem.EqNone.eq_none_bool (kA I q (by simp))
  | int j=>obtain ⟨t',rfl⟩:=ry;exact PySem.EqNone.eq_none_int (kA I q (by simp))
  | str j=>obtain ⟨t',rfl⟩:=ry;exact PySem.EqNone.eq_none_str (kA I q (by simp))
  | _=>exact absurd (show false=true from hs) Vo
 | bl i =>
  cases rx
  cases y with
  | non=>cases ry;exact PySem.EqNone.eq_bool_none (kA I q (by simp))
  | bl j=>cases ry;exact eq_bool (kA I q Kd)
  | str j=>obtain ⟨t',rfl⟩:=ry;exact PySem.EqMixed.eq_bool_str (kA I q (by simp))
  | _=>exact absurd (show false=true from hs) Vo
 | int i =>
  obtain ⟨t,rfl⟩:=rx
  cases y with
  | non=>cases ry;exact PySem.EqNone.eq_int_none (kA I q (by simp))
  | int j=>obtain ⟨t',rfl⟩:=ry;exact eq_int (kA I q Kc)
  | str j=>obtain ⟨t',rfl⟩:=ry;exact PySem.EqMixed.eq_int_str (kA I q (by simp))
  | _=>exact absurd (show false=true from hs) Vo
 | str i =>
  obtain ⟨t,rfl⟩:=rx
  cases y with
  | non=>cases ry;exact PySem.EqNone.eq_str_none (kA I q (by simp))
  | bl j=>cases ry;exact PySem.EqMixed.eq_str_bool (kA I q (by simp))
  | int j=>obtain ⟨t',rfl⟩:=ry;exact PySem.EqMixed.eq_str_int (kA I q (by simp))
  | str j=>obtain ⟨t',rfl⟩:=ry;exact eq_str (kA I q Ke)
  | _=>exact absurd (show false=true from hs) Vo
 | qU i =>
  obtain ⟨t,rfl⟩:=rx
  cases y with
  | qU j=>obtain ⟨t',rfl⟩:=ry;exact PySem.W.eq_bytes (kA I q Kf)
  | _=>exact absurd (show false=true from hs) Vo
 | _=>cases y <;> exact absurd (show false=true from hs) Vo
theorem zo:kz X (compareOp .NotEq) Kb:=by
 intro pins s σ H x y v u Q I rx ry h
 obtain ⟨hs,q⟩:=h
 cases x with
 | non =>
  cases rx
  cases y with
  | non=>cases ry;exact PySem.EqNone.ne_none_none (kA I q (by simp))
  | bl j=>cases ry;exact PySem.EqNone.ne_none_bool (kA I q (by simp))
  | int j=>obtain ⟨t',rfl⟩:=ry;exact PySem.EqNone.ne_none_int (kA I q (by simp))
  | str j=>obtain ⟨t',rfl⟩:=ry;exact PySem.EqNone.ne_none_str (kA I q (by simp))
  | _=>exact absurd (show false=true from hs) Vo
 | bl i =>
  cases rx
  cases y with
  | non=>cases ry;exact PySem.EqNone.ne_bool_none (kA I q (by simp))
  | bl j=>cases ry;exact ne_bool (kA I q (congrArg not Kd))
  | str j=>obtain ⟨t',rfl⟩:=ry;exact PySem.EqMixed.ne_bool_str (kA I q (by simp))
  | _=>exact absurd (show false=true from hs) Vo
 | int i =>
  obtain ⟨t,rfl⟩:=rx
  cases y with
  | non=>cases ry;exact PySem.EqNone.ne_int_none (kA I q (by simp))
  | int j=>obtain ⟨t',rfl⟩:=ry;exact ne_int (kA I q (congrArg not Kc))
  | str j=>obtain ⟨t',rfl⟩:=ry;exact PySem.EqMixed.ne_int_str (kA I q (by simp))
  | _=>exact absurd (show false=true from hs) Vo
 | str i =>
  obtain ⟨t,rfl⟩:=rx
  cases y with
  | non=>cases ry;exact PySem.EqNone.ne_str_none (kA I q (by simp))
  | bl j=>cases ry;exact PySem.EqMixed.ne_str_bool (kA I q (by simp))
  | int j=>obtain ⟨t',rfl⟩:=ry;exact PySem.EqMixed.ne_str_int (kA I q (by simp))
  | str j=>obtain ⟨t',rfl⟩:=ry;exact ne_str (kA I q (congrArg not Ke))
  | _=>exact absurd (show false=true from hs) Vo
 | qU i =>
  obtain ⟨t,rfl⟩:=rx
  cases y with
  | qU j=>obtain ⟨t',rfl⟩:=ry;exact PySem.W.ne_bytes (kA I q (congrArg not Kf))
  | _=>exact absurd (show false=true from hs) Vo
 | _=>cases y <;> exact absurd (show false=true from hs) Vo
theorem tu:kz X (compareOp .Lt) (pe fun i j=>.bl (decide (i < j))):=tj fun _ _ _ _ _ _ _ q=>lt_int q
theorem A0:kz X (compareOp .LtE) (pe fun i j=>.bl (decide (i<=j))):=tj fun _ _ _ _ _ _ _ q=>le_int q
theorem zp:kz X (compareOp .Gt) (pe fun i j=>.bl (decide (j < i))):=tj fun _ _ _ _ _ _ _ q=>gt_int q
theorem uC:kz X (compareOp .GtE) (pe fun i j=>.bl (decide (j<=i))):=tj fun _ _ _ _ _ _ _ q=>ge_int q
theorem vZ:kz X (compareOp .Is) (fun x y H Q=>y=.non/\Q (.bl (decide (x=.non))) H):=by
 intro pins s σ H x y v u Q I rx ry h
 obtain ⟨rfl,q⟩:=h
 cases ry
 refine is_none_gen (kA I q ?_)
 cases x <;> first
  | (cases rx;rfl)
  | (obtain ⟨t,rfl⟩:=rx;rfl)
theorem aH (b:Expr) {op:CmpOp} (h:op≠.In:=by decide) (h2:op≠.NotIn:=by decide):behindInMarks op b=false:=by
 have e1:(op == CmpOp.In)=false:=by cases op <;> first | rfl | exact absurd rfl h
 have e2:(op == CmpOp.NotIn)=false:=by cases op <;> first | rfl | exact absurd rfl h2
 cases b <;> simp [behindInMarks,e1,e2]
theorem A1 {op:CmpOp} {r:R2} (ho:kz X (compareOp op) r) (ha:PE X a ta) (hb:PE X b tb) (hm:behindInMarks op b=false):PE X (.Compare a [op] [b] pos) (AV r ta tb):=by
 intro pins s σ H Q I h
 exact wpAny_Compare1 (vW ha hb I h fun v u s2 x y H2 I2 rx ry q=>ho pins s2 σ H2 x y v u Q I2 rx ry q) hm
def uD (t:TE):TT:=fun σ H Q=>t σ H fun x H'=>∃ k,x=.bl k/\Q k H'
theorem df {op:CmpOp} {r:R2} (ho:kz X (compareOp op) r) (ha:PE X a ta) (hb:PE X b tb) (hm:behindInMarks op b=false):PT X (.Compare a [op] [b] pos) (uD (AV r ta tb)):=by
 intro pins s σ H Q I h
 refine wpAny_isTrue_Compare1 (cN (ha pins s σ H _ I h) fun v s1 ⟨x,H1,I1,r1,q1⟩=>cN (hb pins s1 σ H1 _ I1 q1) fun u s2 ⟨y,H2,I2,r2,q2⟩ =>
  cN (ho pins s2 σ H2 x y v u _ I2 r1 r2 q2) fun c s3 ⟨z,H3,I3,r3,k,e,q3⟩=>?_) hm
 subst e
 cases r3
 exact wpAny_truthy_bool ⟨H3,I3,q3⟩
theorem nM:(sizeLine:Nat) < 2 ^ 63:=by rw [sizeLine_eq];decide
theorem vals1 {x:V} {us:List Value} (r:Vals [x] us):∃ u,us=[u]/\RelV x u:=by
 cases r with
 | cons r1 r2=>cases r2;exact ⟨_,rfl,r1⟩
theorem vals2 {x y:V} {us:List Value} (r:Vals [x,y] us):∃ u w',us=[u,w']/\RelV x u/\RelV y w':=by
 cases r with
 | cons r1 r2 =>
  cases r2 with
  | cons r3 r4=>cases r4;exact ⟨_,_,rfl,r1,r3⟩
theorem GV (hc:X.calm=true):fX X (.builtin "max") (fun xs H Q=>∃ i j,xs=[.int i,.int j]/\Q (.int (if j > i then j else i)) H):=by
 intro pins s σ H xs us Q I r h
 obtain ⟨i,j,rfl,q⟩:=h
 obtain ⟨u,w',rfl,⟨t,rfl⟩,⟨t',rfl⟩⟩:=vals2 r
 refine max_two_ints (I.ok.hd hc) fun h' tk k=>⟨_,H,I.kept k,?_,q⟩
 by_cases hj:j > i
 ·rw [if_pos hj,if_pos hj];exact ⟨_,rfl⟩
 ·rw [if_neg hj,if_neg hj];exact ⟨_,rfl⟩
theorem NP (hc:X.calm=true):fX X (.builtin "min") (fun xs H Q=>∃ i j,xs=[.int i,.int j]/\Q (.int (if j < i then j else i)) H):=by
 intro pins s σ H xs us Q I r h
 obtain ⟨i,j,rfl,q⟩:=h
 obtain ⟨u,w',rfl,⟨t,rfl⟩,⟨t',rfl⟩⟩:=vals2 r
 refine min_two_ints (I.ok.hd hc) fun h' tk k=>⟨_,H,I.kept k,?_,q⟩
 by_cases hj:j < i
 ·rw [if_pos hj,if_pos hj];exact ⟨_,rfl⟩
 ·rw [if_neg hj,if_neg hj];exact ⟨_,rfl⟩
theorem NQ:fX X (.type "int") (fun xs H Q=>(∃ i,xs=[.int i]/\Q (.int i) H)\/∃ k,xs=[.bl k]/\Q (.int (if k then 1 else 0)) H):=by
 intro pins s σ H xs us Q I r h
 rcases h with ⟨i,rfl,q⟩ | ⟨k,rfl,q⟩
 ·obtain ⟨u,rfl,t,rfl⟩:=vals1 r
  exact call_int_int ⟨.int i,H,I,⟨_,rfl⟩,q⟩
 ·obtain ⟨u,rfl,r1⟩:=vals1 r
  cases r1
  exact call_int_bool ⟨.int (if k then 1 else 0),H,I.tok _,⟨_,rfl⟩,q⟩
end
section
variable {prog:Program} {w:World} {A:Around} {E:Value->Shared->Prop} {s:Shared} {K:Zfr} {x dx C f:Addr} {mA:Str->Option Value} {name:Str} {v:Value}
end
section
variable {P:Program} {w:World} {H H':Hp} {h h':Heap} {a C dx:Addr} {fs fs':List (Str×V)}
end
structure NR (K:Zfr) (C:Addr):Prop where
 pg:PySem.W.plainGet K C Str.empty=true
 hd:PySem.W.hasDictIn K C=true
 po:PySem.W.plainOver K C=true
 sa:PySem.W.findIn K (.ref C) "__setattr__" = some (some (.builtin "object.__setattr__"))
structure sx (K:Zfr) (C:Addr) (f:Str) (v:V) (u:Value):Prop where
 at_:PySem.W.findIn K (.ref C) f=some (some u)
 rel:RelV v u
 get:PySem.W.specialIn K u "__get__" = some none
 cp:PySem.W.copiedNames.contains f=false
section
variable {X:Cx} {pins:List (Addr×Obj)} {σ:St} {H:Hp} {s:Shared} {a C dx:Addr} {fs:List (Str×V)} {f:Str} {v:V} {A:Around} {E:Value->Shared->Prop}
end
section
variable {X:Cx} {o e value:Expr} {f:Str} {pos pos' tpos:Pos} {ta tv:TE}
end
section
variable {X:Cx} {pins:List (Addr×Obj)} {σ:St} {H:Hp} {s:Shared} {A:Around} {E:Value->Shared->Prop} {Q:Value->Shared->Prop} {c:Value} {b:Bool}
inductive lV (K:Zfr) (H:Hp):V->Value->Prop where
 | non:lV K H .non (.type "NoneType")
 | bl (x:Bool):lV K H (.bl x) (.type "bool")
 | int (i:Int):lV K H (.int i) (.type "int")
 | str (x:Str):lV K H (.str x) (.type "str")
 | ze (x:UInt64):lV K H (.ze x) (.type "float")
 | lst {a:Addr} {xs:List V} (e:H a=some (.lst xs)):lV K H (.ref a) (.type "list")
 | ml {a:Addr} {o:Obj} {xs:List V} (e:H a=some (.ml o (.lst xs))):lV K H (.ref a) (.type "list")
 | tup {a:Addr} {xs:List V} (e:H a=some (.tup xs)):lV K H (.ref a) (.type "tuple")
 | dK {a:Addr} {kvs:List (Key×V)} (e:H a=some (.dK kvs)):lV K H (.ref a) (.type "dict")
 | dT {a:Addr} {kvs:List (List Key×V)} (e:H a=some (.dT kvs)):lV K H (.ref a) (.type "dict")
 | ins {a C dx:Addr} {fs:List (Str×V)} (e:H a=some (.ins C dx fs)) (cl:NR K C) (ha:PySem.W.findIn K (.ref C) "__class__" = some (some (.builtin "object.__class__")))
   (hn:PySem.W.specialIn K (.builtin "object.__class__") "__get__" = some (some (.builtin "getset_descriptor.__get__"))) (htk:PySem.W.takesIn K (.builtin "object.__class__")=some true)
   (hm:PySem.W.mroIn K C (.type "object")=some true):lV K H (.ref a) (.ref C)
end
structure gB (k:Nat) (A:Around):Prop where
 hd:A.handled=none
 dp:A.depth + 3 * k + 5 < recursionLimit
 un:A.units + 16 * k + 200 < cLine
 gd:A.guards=some []
theorem gB.mono {j k:Nat} {A:Around} (r:gB k A) (h:j<=k):gB j A:=⟨r.hd,by have:=r.dp;omega,by have:=r.un;omega,r.gd⟩
theorem gB.deeper {k:Nat} {A:Around} (r:gB (k + 1) A) (env:Env):gB k (A.deeper env) :=
 ⟨r.hd,by have:=r.dp;show A.depth + 1 + 3 * k + 5 < _;omega,by have:=r.un;show A.units + 3 + 16 * k + 200 < _;omega,r.gd⟩
theorem gB.depth {k:Nat} {A:Around} (r:gB k A):A.depth < recursionLimit:=by have:=r.dp;omega
theorem gB.units {k:Nat} {A:Around} (r:gB k A):A.units + 64 < cLine:=by have:=r.un;omega
def A2:TA:=fun _ H Q=>Q [] H
def uE (ta:TE) (tr:TA):TA:=fun σ H Q=>ta σ H fun x H1=>tr σ H1 fun xs H2=>Q (x :: xs) H2
section
variable {X:Cx} {e:Expr} {es:List Expr} {te:TE} {t:TA} {pos:Pos}
theorem ax:PA X [] A2:=fun _ _ _ _ H Q I h=>Calls.spliced_nil ⟨[],H,I,.nil,h⟩
theorem aj (ha:PE X e te) (hr:PA X es t) (hs:starEach (e :: es) X.env=(false,eval e X.env) :: starEach es X.env:=by rfl):PA X (e :: es) (uE te t):=by
 intro pos pins s σ H Q I h
 rw [hs]
 show wpAny _ _ (spliced ((false,eval e X.env) :: backTo pos (starEach es X.env))) _ _ s
 refine Calls.spliced_cons (cN (ha pins s σ H _ I h) fun u s1 ⟨x,H1,I1,r1,q1⟩=>?_)
 exact cN (hr pos pins s1 σ H1 _ I1 q1) fun us s2 ⟨xs,H2,I2,r2,q2⟩=>⟨x :: xs,H2,I2,.cons r1 r2,q2⟩
def A3 (t:TA):TE:=fun σ H Q=>t σ H fun xs H1=>xs.length<=sizeLine/\∀ p,H1 p=none->Q (.ref p) (upd H1 p (.tup xs))
def A4 (t:TA):TE:=fun σ H Q=>t σ H fun xs H1=>xs.length<=sizeLine/\∀ p,H1 p=none->Q (.ref p) (upd H1 p (.lst xs))
theorem eY {x1} (h:PA X es t):PE X (.Tuple es x1 pos) (A3 t):=by
 intro pins s σ H Q I hq
 refine wpAny_Tuple_spliced (cN (h pos pins s σ H _ I hq) fun us s1 ⟨xs,H1,I1,r,z,q⟩=>⟨by rw [<- r.length];exact z,?_⟩)
 have hf:H1 s1.heap.objs.size=none:=I1.hok.fresh (Vh _)
 refine ⟨.ref s1.heap.objs.size,upd H1 s1.heap.objs.size (.tup xs),I1.laid (t':=s1.toks) (fun b u e=>Vw _ e) (Vh _) ?_,rfl,q _ hf⟩
 exact ⟨z,us,r,⟨_,VI _ rfl,rfl,rfl,_,rfl⟩⟩
theorem kn (h:PA X es t):PE X (.List es pos) (A4 t):=by
 intro pins s σ H Q I hq
 refine wpAny_List_spliced (cN (h pos pins s σ H _ I hq) fun us s1 ⟨xs,H1,I1,r,z,q⟩=>⟨by rw [<- r.length];exact z,?_⟩)
 have hf:H1 s1.heap.objs.size=none:=I1.hok.fresh (Vh _)
 refine ⟨.ref s1.heap.objs.size,upd H1 s1.heap.objs.size (.lst xs),I1.laid (t':=s1.toks) (fun b u e=>Vw _ e) (Vh _) ?_,rfl,q _ hf⟩
 exact ⟨z,us,0,r,VI _ rfl⟩
end
abbrev Sp:=List V->Hp->VK->XK->Prop
abbrev pP:=List Env->Hp->Shared->XK->Value->Shared->Prop
structure tw (P:Program) (w:World) (K:Zfr) (mg:Str->Option Value) (base:Heap) (A:Around) (outer:List Env) (s:Shared) (H:Hp):Prop where
 frames:A.frames=some outer
 mod:Mod K mg base
 bs:∀ b o,base.get? b=some o->s.heap.get? b=some o/\H b=none
 uu:base.objs.size<=s.heap.objs.size
 mq:s.heap.FunFrames base outer
 zh:∀ b∈frs outer,H b=none
 hok:kY P w H s.heap
 bare:AllBare s.gens
def CE (outer:List Env) (P:Program) (w:World) (H:Hp) (s:Shared) (Q:VK) (u:Value) (s':Shared):Prop :=
 ∃ v H',s'.os=s.os/\AllBare s'.gens/\Un (frs outer) [] H H' s.heap s'.heap/\kY P w H' s'.heap/\RelV v u/\Q v H'
def CR (CX:pP) (outer:List Env) (P:Program) (w:World) (H:Hp) (s:Shared) (Q:VK) (E:XK) (r:Result) (s':Shared):Prop :=
 match r with
 | .ok (.ret u)=>CE outer P w H s Q u s'
 | .ok _=>False
 | .error e=>CX outer H s E e s'
structure aI (P:Program) (w:World) (K:Zfr) (mg:Str->Option Value) (base:Heap) (CX:pP) (k:Nat) (f:Addr) (fd:FuncData) (ps:List Str) (sp:Sp):Prop where
 len:∀ vs H Q E,sp vs H Q E->vs.length=ps.length
 run:∀ (A:Around) (outer:List Env) (s:Shared) (H:Hp) (args:Args) (us:List Value) (vs:List V) (Q:VK) (E:XK),gB k A->tw P w K mg base A outer s H->BindsTo s fd args (ps.zip us)->Vals vs us->sp vs H Q E ->
  codeAny (model P w) A (.call (.ref f) args) (CR CX outer P w H s Q E) s
theorem aI.imp {P:Program} {w:World} {K:Zfr} {mg:Str->Option Value} {base:Heap} {CX:pP} {k:Nat} {f:Addr} {fd:FuncData} {ps:List Str} {sp Kg:Sp} (F:aI P w K mg base CX k f fd ps sp)
  (h:∀ vs H Q E,Kg vs H Q E->sp vs H Q E):aI P w K mg base CX k f fd ps Kg :=
 ⟨fun vs H Q E q=>F.len vs H Q E (h _ _ _ _ q),fun A outer s H args us vs Q E hr he hb hv hs=>F.run A outer s H args us vs Q E hr he hb hv (h _ _ _ _ hs)⟩
section
variable {X:Cx} {pins:List (Addr×Obj)} {σ:St} {H:Hp} {s s':Shared}
theorem Inv.GW (I:Inv X pins σ H s):tw X.prog X.w X.K X.mg X.base X.A X.stack s H :=
 ⟨I.ok.frames,I.ok.mod,I.bs,VL I.ok.uu I.sz,I.stack,I.pK,I.hok,I.bare⟩
theorem Inv.after {Q:VK} {u:Value} (I:Inv X pins σ H s) (h:CE X.stack X.prog X.w H s Q u s'):EP X pins σ Q u s':=by
 obtain ⟨v,H',os,bare,un,hok,r,q⟩:=h
 obtain ⟨hh,g,d,t,os'⟩:=s'
 obtain rfl:os'=s.os:=os
 exact ⟨v,H',I.call (h':=hh) (g':=g) (d':=d) (t':=t) (ch:=[]) un hok bare (fun b z=>absurd z (by simp)),r,q⟩
end
def oH (sp:Sp) (ny:List V) (E:XK) (t:TA):TE:=fun σ H Q=>t σ H fun vs H1=>sp (vs ++ ny) H1 Q E
def Binds (K:Zfr) (fd:FuncData) (ps:List Str) (ds:List Value):Prop :=
 ∀ (s:Shared) (us:List Value),K.In s.heap->(us ++ ds).length=ps.length->BindsTo s fd ⟨us,[]⟩ (ps.zip (us ++ ds))
theorem Binds.all {K:Zfr} {fd:FuncData} {ps:List Str} (h:∀ us:List Value,us.length=ps.length->bindArgs fd ⟨us,[]⟩=pure (ps.zip us)):Binds K fd ps []:=fun s us _ hl=>by
 rw [Wr] at hl ⊢
 exact .of_eq (h us hl)
def Passes (CX:pP) (X:Cx) (E:XK):Prop:=∀ (pins:List (Addr×Obj)) (σ:St) (H:Hp) (s:Shared) (e:Value) (s':Shared),Inv X pins σ H s->CX X.stack H s E e s'->X.xe e s'
section
variable {X:Cx} {CX:pP} {k:Nat} {f C:Addr} {fd:FuncData} {ps:List Str} {sp:Sp} {ny:List V} {ds:List Value} {E:XK} {x m:Str} {p pos apos:Pos} {e o:Expr} {es:List Expr} {ta:TE} {t:TA}
theorem wb {pins:List (Addr×Obj)} {σ:St} {H:Hp} {s:Shared} {Q:VK} {us:List Value} {vs:List V} (F:aI X.prog X.w X.K X.mg X.base CX k f fd ps sp) (hr:gB k X.A) (hb:Binds X.K fd ps ds) (hd:Vals ny ds) (hx:Passes CX X E)
  (I:Inv X pins σ H s) (r:Vals vs us) (h:sp (vs ++ ny) H Q E):wpAny (model X.prog X.w) X.A (call (.ref f) us) (EP X pins σ Q) X.xe s:=by
 have r2:Vals (vs ++ ny) (us ++ ds):=r.append hd
 have hl:(us ++ ds).length=ps.length:=by rw [<- r2.length];exact F.len _ _ _ _ h
 refine wpAny_call (codeAny_mono (F.run X.A X.stack s H ⟨us,[]⟩ (us ++ ds) (vs ++ ny) Q E hr I.GW (hb s us I.zi hl) r2 h) fun r s' hq=>?_)
 cases r with
 | error e=>exact hx pins σ H s e s' I hq
 | ok fl =>
  cases fl with
  | ret u=>exact I.after hq
  | next=>exact False.elim hq
  | brk=>exact False.elim hq
  | cont=>exact False.elim hq
theorem Kh (F:aI X.prog X.w X.K X.mg X.base CX k f fd ps sp) (hr:gB k X.A) (hg:Gl X x) (hm:X.mg x=some (.ref f)) (hk:PySem.W.keepIn X.K (.ref f)=true) (hb:Binds X.K fd ps ds) (hd:Vals ny ds) (hx:Passes CX X E)
  (ha:PA X (e :: es) t) (hdb:(x == ("__debug__" : Str))=false:=by decide) (he:starEach (e :: es) X.env=(false,eval e X.env) :: starEach es X.env:=by rfl) (hpl:(backTo pos (starEach es X.env)).any (·.1)=false:=by rfl) :
  PE X (.Call (.Name x p) (e :: es) [] pos) (oH sp ny E t):=by
 intro pins s σ H Q I h
 refine wpAny_Call_Name_kw (JW I hg hm ?_ hdb)
 refine PySem.W.callWith_K (h₀:=X.base) I.ok.mod.GH hk (cN (ha pos pins s σ H _ I h) fun us s1 ⟨vs,H1,I1,r,q⟩=>⟨I1.zi,?_⟩) he hpl
 exact wb F hr hb hd hx I1 r q
end
section
variable {X:Cx} {CX:pP} {k:Nat} {f C:Addr} {fd:FuncData} {ps ks:List Str} {sp:Sp} {E:XK} {x m:Str} {p pos apos kpos:Pos} {e o:Expr} {es:List Expr} {kws:List Keyword} {te ta:TE} {t tk:TA} {nm:Option Str}
variable {g:List Value->List Value->List Value} {gV:List V->List V->List V}
end
structure aL (N P:List Str) (sc:Scope):Prop where
 kind:sc.kind=.function
 co:sc.isCoroutine=false
 gen:sc.isGenerator=false
 nd:N.Nodup
 pre:N.take P.length=P
 par:∀ x∈P,sc.names.lookup x=some .local\/sc.names.lookup x=some .cell
 wc:∀ y∈sc.names,y.2≠.free
theorem Ki {kindOf:Str->Option NameKind} {x:Str}:∀ {binds:List (Str×Value)} {m:Str->Option Value},(∀ v,(x,v) ∉ binds)->bindL kindOf binds m x=m x
 | [],_,_=>rfl
 | (n,v) :: r,m,h=>by
  unfold bindL
  rw [Ki fun w hw=>h w (Vp _ hw)]
  split
  ·have:x≠n:=by rintro rfl;exact h v Vl
   simp [this]
  ·rfl
theorem Kj {kindOf:Str->Option NameKind} {x:Str}:∀ {binds:List (Str×Value)} {m:Str->Option Value},(∀ v,(x,v) ∉ binds)->bindC kindOf binds m x=m x
 | [],_,_=>rfl
 | (n,v) :: r,m,h=>by
  unfold bindC
  rw [Kj fun w hw=>h w (Vp _ hw)]
  split
  ·rfl
  ·have:x≠n:=by rintro rfl;exact h v Vl
   simp [this]
theorem Kk {kindOf:Str->Option NameKind} {x:Str} {v:Value}:∀ {P:List Str} {vs:List Value} {i:Nat} {m:Str->Option Value},P.Nodup->P[i]?=some x->vs[i]?=some v->kindOf x=some .local ->
  bindL kindOf (P.zip vs) m x=some v
 | [],_,_,_,_,h,_,_=>by simp at h
 | _ :: _,[],_,_,_,_,h,_=>by simp at h
 | p :: P,w :: vs,0,m,nd,h1,h2,hk=>by
  simp at h1 h2;subst h1;subst h2
  show bindL kindOf ((p,w) :: P.zip vs) m p=_
  unfold bindL
  rw [Ki fun v hv=>(V0.mp nd).1 (List.of_mem_zip hv).1,if_pos hk]
  simp
 | p :: P,w :: vs,i + 1,m,nd,h1,h2,hk=>by
  show bindL kindOf ((p,w) :: P.zip vs) m x=_
  unfold bindL
  exact Kk (i:=i) (V0.mp nd).2 (by simpa using h1) (by simpa using h2) hk
theorem Kl {kindOf:Str->Option NameKind} {x:Str} {v:Value}:∀ {P:List Str} {vs:List Value} {i:Nat} {m:Str->Option Value},P.Nodup->P[i]?=some x->vs[i]?=some v->kindOf x≠some .local ->
  bindC kindOf (P.zip vs) m x=some v
 | [],_,_,_,_,h,_,_=>by simp at h
 | _ :: _,[],_,_,_,_,h,_=>by simp at h
 | p :: P,w :: vs,0,m,nd,h1,h2,hk=>by
  simp at h1 h2;subst h1;subst h2
  show bindC kindOf ((p,w) :: P.zip vs) m p=_
  unfold bindC
  rw [Kj fun v hv=>(V0.mp nd).1 (List.of_mem_zip hv).1,if_neg hk]
  simp
 | p :: P,w :: vs,i + 1,m,nd,h1,h2,hk=>by
  show bindC kindOf ((p,w) :: P.zip vs) m x=_
  unfold bindC
  exact Kl (i:=i) (V0.mp nd).2 (by simpa using h1) (by simpa using h2) hk
def start (N:List Str) (vs:List V):St:=vs.map some ++ List.replicate (N.length - vs.length) none
def eV (CX:pP) (P:Program) (w:World) (K:Zfr) (mg:Str->Option Value) (base:Heap) (N:List Str) (qual:Str) (scope:Scope) (f:Addr) (cd:Value) (A:Around) (outer:List Env) (s:Shared) (H:Hp) (E:XK):Cx where
 prog:=P
 w:=w
 K:=K
 mg:=mg
 base:=base
 A:=A.deeper (envOfC qual scope s.heap.objs.size f cd)
 N:=N
 s₀:=s
 H₀:=H
 env:=envOfC qual scope s.heap.objs.size f cd
 outer:=outer
 stack:=envOfC qual scope s.heap.objs.size f cd :: outer
 ex:=[]
 calm:=true
 fn:=fun _=>true
 pn:=[]
 xe:=fun e s'=>wpAny (model P w) (A.deeper (envOfC qual scope s.heap.objs.size f cd)) («leaving» (envOfC qual scope s.heap.objs.size f cd) e) (fun _ s''=>CX outer H s E e s'') (fun e' s''=>CX outer H s E e' s'') s'
theorem Km {sc:Scope} {n:Nat} {x:Str} (h:sc.names.lookup x=some .cell):∃ c,(cellsFrom n sc.names []).lookup x=some c:=by
 have q:=PySem.W.cellsFrom_some sc.names n [] (.inl h)
 exact Wz.mp q
theorem NS {CX:pP} {P:Program} {w:World} {K:Zfr} {mg:Str->Option Value} {base:Heap} {N ps:List Str} {qual:Str} {scope:Scope} {f:Addr} {cd:Value} {A:Around} {outer:List Env} {s s1:Shared} {H:Hp} {E:XK} {us:List Value} {vs:List V}
  (S:aL N ps scope) (hd:A.handled=none) (e0:tw P w K mg base A outer s H) (hl:vs.length=ps.length) (r:Vals vs us)
  (x:InCallC s s.heap.objs.size (bindL (envOfC qual scope s.heap.objs.size f cd).kindOf (ps.zip us) fun _=>none) (cellsFrom (s.heap.objs.size + 1) scope.names []) (bindC (envOfC qual scope s.heap.objs.size f cd).kindOf (ps.zip us) fun _=>none) s1) :
  Inv (eV CX P w K mg base N qual scope f cd A outer s H E) [] (start N vs) H s1:=by
 have hpl:ps.length<=N.length:=by have:=congrArg List.length S.pre;rw [V6] at this;omega
 obtain ⟨h1,tk,rfl,hk⟩:=x.done
 have A5:∀ b:Addr,b ∉ (eV CX P w K mg base N qual scope f cd A outer s H E).ex:=fun b z=>absurd (show b∈([]:List Addr) from z) (by simp)
 refine ⟨⟨e0.mod,S.kind,rfl,rfl,Vh _,fun y z c h1 h2=>?_,fun y hy=>?_,fun y c _ h=>?_,fun _=>hd,Around.frames_deeper e0.frames,.inr ⟨rfl,rfl⟩,fun b z=>absurd z (A5 b),e0.bs,e0.uu,fun b _ _=>A5 b,fun b z=>absurd z (A5 b),e0.mq,e0.zh⟩,
  rfl,e0.bare,Un.kept hk,⟨_,x.toInCall.ns,fun i y v h1 h2 h3=>?_⟩,fun y c h=>⟨_,x.cell y c h⟩,e0.hok.fresh (Vh _),fun y c h=>?_,fun p hp=>absurd (show p∈([]:List (Addr×Obj)) from hp) (by simp),e0.hok.kept hk,?_⟩
 ·exact name_of_addr x.apart (PySem.mem_of_lookup h1) (PySem.mem_of_lookup h2)
 ·have hy:scope.names.lookup y=some .cell\/scope.names.lookup y=some .free:=hy
  rcases hy with hy | hy
  ·exact Km hy
  ·exact absurd rfl (S.wc _ (PySem.mem_of_lookup hy))
 ·exact Xo (x.above y c (PySem.mem_of_lookup h))
 ·have hi:i < vs.length:=by
   unfold start at h2
   by_cases hi:i < vs.length
   ·exact hi
   ·rw [VA (by simpa using hi)] at h2
    rw [WE] at h2
    split at h2 <;> cases h2
  have ha:vs[i]?=some v:=by
   unfold start at h2
   rw [Vt (by simpa using hi),Vm] at h2
   cases e:vs[i]? with
   | none=>rw [e] at h2;cases h2
   | some a=>rw [e] at h2;cases h2;rfl
  obtain ⟨u,hu,rv⟩:=r.get ha
  have hp:ps[i]?=some y:=by
   rw [<- S.pre,List.getElem?_take_of_lt (by omega)];exact h1
  have Kn:ps.Nodup:=by rw [<- S.pre];exact S.nd.sublist (List.take_sublist _ _)
  refine ⟨u,rv,?_⟩
  rcases S.par y (Vk hp) with k | k
  ·exact .inl ⟨k,Kk Kn hp hu k⟩
  ·obtain ⟨c,e⟩:=Km (n:=s.heap.objs.size + 1) k
   refine .inr ⟨.inl k,c,e,?_⟩
   have q:=x.cell y c e
   rw [Kl Kn hp hu (by show scope.names.lookup y≠_;rw [k];decide)] at q
   exact q
 ·exact e0.hok.fresh (Xo (x.above y c (PySem.mem_of_lookup h)))
 ·unfold start
  show _=N.length
  rw [Vj,Vd,WL]
  omega
theorem uF {CX:pP} {P:Program} {w:World} {K:Zfr} {mg:Str->Option Value} {base:Heap} {k:Nat} {f:Addr} {name qual:Str} {params:Arguments} {body:List Stmt} {scope:Scope} {dV kV doc pm cdv ct oc:Value} {an od:Option Addr}
  {osl:Array (Option Value)} {N ps:List Str} {sp:Sp} (lk:K.lookup f=some ⟨oc,od,.func (PySem.W.fnOf name qual params body scope dV kV doc pm an cdv ct),osl⟩) (hcd:PySem.W.codeIn K cdv qual=true) (S:aL N ps scope)
  (len:∀ vs H Q E,sp vs H Q E->vs.length=ps.length)
  (hbody:∀ (A:Around) (outer:List Env) (s:Shared) (H:Hp) (vs:List V) (Q:VK) (E:XK),gB k (A.deeper (envOfC qual scope s.heap.objs.size f cdv))->sp vs H Q E ->
   ∃ t,pL (eV CX P w K mg base N qual scope f cdv A outer s H E) body t/\t { nx:=fun _ H'=>Q .non H',rt:=Q } (start N vs) H) :
  aI P w K mg base CX (k + 1) f (PySem.W.fnOf name qual params body scope dV kV doc pm an cdv ct) ps sp:=by
 refine ⟨len,fun A outer s H args us vs Q E hr e0 hb r qL=>?_⟩
 have hl:=len _ _ _ _ qL
 have KX:K.In s.heap:=e0.mod.GH.keeps fun b o e=>(e0.bs b o e).1
 have lim:s.heap.NoLimit:=e0.mod.nolimit.keeps fun b o e=>(e0.bs b o e).1
 have hkind:∀ y∈ps.zip us,scope.names.lookup y.1=some .local\/(scope.names.lookup y.1=some .cell/\((cellsFrom (s.heap.objs.size + 1) scope.names []).lookup y.1).isSome=true):=fun ⟨n,v⟩ hy=>by
  rcases S.par n (List.of_mem_zip hy).1 with q | q
  ·exact .inl q
  ·exact .inr ⟨q,PySem.W.cellsFrom_some _ _ _ (.inl q)⟩
 refine codeAny_call_function hr.depth (KX _ _ lk) rfl S.co S.gen rfl (PySem.W.codeRec_of KX hcd) (hb _ _ _ _ ?_)
 refine wpAny_newFunctionEnv_cells S.kind hkind fun env he s1 x=>?_
 subst he
 refine ⟨lim.keeps x.toInCall.keep,codeAny_func ?_⟩
 obtain ⟨t,ht,hq⟩:=hbody A outer s H vs Q E (hr.deeper _) qL
 have I:Inv (eV CX P w K mg base N qual scope f cdv A outer s H E) [] (start N vs) H s1:=NS S hr.hd e0 hl r x
 refine wpAny_mono (ht [] s1 (start N vs) H _ I hq) (fun fl s' hs=>?_) fun e s' hs=>hs
 have fin:∀ {σ':St} {H':Hp} {v:V} {u:Value},Inv (eV CX P w K mg base N qual scope f cdv A outer s H E) [] σ' H' s'->RelV v u->Q v H'->CE outer P w H s Q u s' :=
  fun {σ' H' v u} J rv q=>⟨v,H',J.os,J.bare,J.base,J.hok,rv,q⟩
 cases fl with
 | ret u =>
  obtain ⟨v,σ',H',J,rv,q⟩:=hs
  exact fin J rv q
 | next =>
  obtain ⟨σ',H',J,q⟩:=hs
  exact fin (v:=V.non) (u:=Value.none) J rfl q
 | brk =>
  obtain ⟨_,_,_,q⟩:=hs
  exact False.elim q
 | cont =>
  obtain ⟨_,_,_,q⟩:=hs
  exact False.elim q
section
variable {X:Cx} {x:Str} {p pos:Pos} {e:Expr} {es:List Expr} {t:TA} {id T:String} {r:List V->Hp->VK->Prop}
def GX (r:List V->Hp->VK->Prop) (t:TA):TE:=fun σ H Q=>t σ H fun vs H1=>r vs H1 Q
theorem fT (hc:fX X (.builtin id) r) (hg:Gl X x) (hm:X.mg x=none) (hv:bootBuiltins x=some (.builtin id)) (ha:PA X (e :: es) t) (hn:x≠"__name__" := by decide) (hdb:(x == ("__debug__" : Str))=false:=by decide)
  (he:starEach (e :: es) X.env=(false,eval e X.env) :: starEach es X.env:=by rfl) (hpl:(backTo pos (starEach es X.env)).any (·.1)=false:=by rfl):PE X (.Call (.Name x p) (e :: es) [] pos) (GX r t):=by
 intro pins s σ H Q I h
 refine wpAny_Call_Name_kw (zj I hg hm hv ?_ hn hdb)
 exact PyProof.Rows.callWith_builtin1 (cN (ha pos pins s σ H _ I h) fun us s1 ⟨vs,H1,I1,r1,q1⟩=>hc pins s1 σ H1 vs us Q I1 r1 q1) he hpl
theorem fA (hc:fX X (.type T) r) (hg:Gl X x) (hm:X.mg x=none) (hv:bootBuiltins x=some (.type T)) (ha:PA X (e :: es) t) (hn:x≠"__name__" := by decide) (hdb:(x == ("__debug__" : Str))=false:=by decide)
  (he:starEach (e :: es) X.env=(false,eval e X.env) :: starEach es X.env:=by rfl) (hpl:(backTo pos (starEach es X.env)).any (·.1)=false:=by rfl):PE X (.Call (.Name x p) (e :: es) [] pos) (GX r t):=by
 intro pins s σ H Q I h
 refine wpAny_Call_Name_kw (zj I hg hm hv ?_ hn hdb)
 exact PyProof.Rows.callWith_type1 (cN (ha pos pins s σ H _ I h) fun us s1 ⟨vs,H1,I1,r1,q1⟩=>hc pins s1 σ H1 vs us Q I1 r1 q1) he hpl
end
end L2
namespace HT
open PySem PyProof.Rows
theorem NT (A:Around) (s:Shared) (a:Int) (t:Tok) (c:Int) (u:Tok):∃ e,SeqAt.EqAt A s (.int a t) (.int c u) e/\(e=true↔a=c) :=
 ⟨(a == c),SeqAt.EqAt.int_int a t c u,by simp⟩
section
open PySem.SeqAt
open PySem.AutoSeq1 (wpAny_loadPart')
open PySem.MeetsSeq PySem.MeetsSeq2 PySem.MeetsSeq3
end
section
variable {prog:Program} {w:World} {A:Around} {E:Value->Shared->Prop} {s:Shared}
theorem NU {t b:Addr} {vs ws:List Value} {Q:Value->Shared->Prop} (ht:IsTup s.heap t vs.toArray) (hb:IsTup s.heap b ws.toArray) (hv:vs≠[])
  (h1:ws=[]->Q (.ref t) s) (h2:ws≠[]->Q (.ref s.heap.objs.size) { s with heap:=s.heap.push { cls:=.type "tuple",data:=.seq (vs ++ ws).toArray } })
  (hsz:vs.length + ws.length<=sizeLine):wpAny (model prog w) A (binaryOp .Add (.ref t) (.ref b)) Q E s:=by
 obtain ⟨⟨cls,dd,data,sl⟩,ho,hc,n,hd⟩:=id ht
 obtain ⟨⟨GY,dd2,data2,sl2⟩,ho2,hc2,n2,hd2⟩:=id hb
 simp only at hc hd hc2 hd2
 subst hc hd hc2 hd2
 have e:vs.toArray ++ ws.toArray=(vs ++ ws).toArray:=by simp
 by_cases hw:ws=[]
 ·exact concat_meets ⟨_,ho,rfl⟩ ⟨_,ho2,rfl⟩ noFill_tuple_add seq_tuple_add PySem.F.slot_tuple_add PySem.F.entry_tuple_add (PySem.F.args_tuple_add_2 _ _)
   (tuple_addW1 t b vs.toArray ws.toArray n n2 dd dd2 sl sl2 (by simpa using hv) (by simp [hw])) ⟨ho,ho2,h1 hw⟩
 ·refine concat_meets ⟨_,ho,rfl⟩ ⟨_,ho2,rfl⟩ noFill_tuple_add seq_tuple_add PySem.F.slot_tuple_add PySem.F.entry_tuple_add (PySem.F.args_tuple_add_2 _ _)
   (tuple_addW2 t b vs.toArray ws.toArray n n2 dd dd2 sl sl2 (by simpa using hv) (by simpa using hw) (by rw [Vu,Vu];exact hsz)) ⟨ho,ho2,?_⟩
  rw [e]
  exact h2 hw
def cO (n d:Nat):Option Int->Nat
 | none=>d
 | some v=>if v < 0 then (v + (n:Int)).toNat else min v.toNat n
theorem NV (n d:Nat):cO n d none=d:=rfl
theorem NW (n d k:Nat):cO n d (some (k:Int))=min k n:=by
 show (if (k:Int) < 0 then ((k:Int) + (n:Int)).toNat else min (k:Int).toNat n)=min k n
 rw [if_neg (by omega),Vr]
theorem wg (n d:Nat) (hd:d<=n) (o:Option Int):cO n d o<=n:=by
 cases o with
 | none=>exact hd
 | some v =>
  show (if v < 0 then (v + (n:Int)).toNat else min v.toNat n)<=n
  by_cases hv:v < 0
  ·rw [if_pos hv];omega
  ·rw [if_neg hv];exact Nat.min_le_right _ _
theorem Ko (v:Int) (n d:Nat):(if v < 0 then max (v + (n:Int)) 0 else min v (n:Int))=((cO n d (some v):Nat):Int):=by
 show (if v < 0 then max (v + (n:Int)) 0 else min v (n:Int))=(((if v < 0 then (v + (n:Int)).toNat else min v.toNat n):Nat):Int)
 by_cases hv:v < 0
 ·simp only [if_pos hv];omega
 ·simp only [if_neg hv];omega
theorem NX (lo hi:Option Int) (n:Nat):Builtin.Slice.sliceAdjust lo hi 1 (n:Int)=(((cO n 0 lo:Nat):Int),((cO n n hi:Nat):Int)):=by
 have h1:¬ ((1:Int) < 0):=by omega
 unfold Builtin.Slice.sliceAdjust
 simp only [h1,if_false]
 refine Prod.ext ?_ ?_
 ·cases lo with
  | none=>rfl
  | some v=>exact Ko v n 0
 ·cases hi with
  | none=>rfl
  | some v=>exact Ko v n n
theorem NY (i j:Nat):Builtin.Slice.slicePlaces (i:Int) (j:Int) 1=j - i:=by
 unfold Builtin.Slice.slicePlaces
 have h1:(1:Int) > 0:=by omega
 simp only [h1,if_true,Int.ediv_one]
 split <;> omega
theorem Kq {v:Value} {o:Option Int} {Q:Option Int->Shared->Prop} (p:IsPart v o) (h:Q o s):wpAny (model prog w) A (Builtin.Slice.slicePartIndex v) Q E s:=by
 cases p with
 | none=>exact slicePart_none h
 | int i t=>exact slicePart_int h
theorem Kr {sl:Addr} {vl vu:Value} {lo hi:Option Int} {n:Nat} {Q:Int×Int×Nat->Shared->Prop} (hs:s.heap.IsSliceOf sl vl vu .none) (pl:IsPart vl lo) (pu:IsPart vu hi)
  (h:Q (((cO n 0 lo:Nat):Int),1,cO n n hi - cO n 0 lo) s):wpAny (model prog w) A (Builtin.Slice.sliceApplied (.ref sl) (pure (n:Int))) Q E s:=by
 obtain ⟨os,hos,hcs,hds⟩:=id hs
 unfold Builtin.Slice.sliceApplied Builtin.Slice.sliceFields
 refine wpAny_bind (wpAny_bind (wpAny_field hos hds (x:=vl) rfl (wpAny_bind (wpAny_field hos hds (x:=vu) rfl (wpAny_bind (wpAny_field hos hds (x:=.none) rfl (wpAny_pure ?_)))))))
 refine wpAny_bind (slicePart_none ?_)
 show wpAny _ _ (if ((1:Int) == 0)=true then _ else _) _ _ s
 rw [if_neg (by decide)]
 refine wpAny_bind (Kq pl (wpAny_bind (Kq pu (wpAny_bind (wpAny_pure ?_)))))
 show wpAny _ _ (match Builtin.Slice.sliceAdjust lo hi 1 (n:Int) with | (lo,hi)=>pure (lo,(1:Int),Builtin.Slice.slicePlaces lo hi 1)) _ _ s
 rw [NX lo hi n]
 show wpAny _ _ (pure (((cO n 0 lo:Nat):Int),(1:Int),Builtin.Slice.slicePlaces ((cO n 0 lo:Nat):Int) ((cO n n hi:Nat):Int) 1)) _ _ s
 rw [NY]
 exact wpAny_pure h
theorem NZ (xs:Array Value) (i k:Nat):((List.range k).filterMap fun (m:Nat)=>xs[((i:Int) + (m:Int) * 1).toNat]?).toArray=((xs.toList.drop i).take k).toArray:=by
 have e:(fun (m:Nat)=>xs[((i:Int) + (m:Int) * 1).toNat]?)=fun m=>xs[i + m]?:=by
  funext m
  have:((i:Int) + (m:Int) * 1).toNat=i + m:=by omega
  rw [this]
 rw [e]
 have:=pick_run xs i k
 rw [List.filterMap_map] at this
 have e2:((fun x=>xs[x]?) ∘ fun x=>i + x)=fun m=>xs[i + m]?:=rfl
 rw [e2] at this
 rw [this]
theorem N1 {t sl:Addr} {items:Array Value} {vl vu:Value} {lo hi:Option Int} {Q:Value->Shared->Prop} (ht:IsTup s.heap t items) (hs:s.heap.IsSliceOf sl vl vu .none) (pl:IsPart vl lo) (pu:IsPart vu hi)
  (hw:¬ (cO items.size 0 lo=0/\cO items.size items.size hi=items.size))
  (h:Q (.ref s.heap.objs.size) { s with heap:=s.heap.push { cls:=.type "tuple",data:=.seq ((items.toList.drop (cO items.size 0 lo)).take (cO items.size items.size hi - cO items.size 0 lo)).toArray } })
  (hsz:items.size<=sizeLine):wpAny (model prog w) A (getItem (.ref t) (.ref sl)) Q E s:=by
 have pQ:sizeOk (.seq ((items.toList.drop (cO items.size 0 lo)).take (cO items.size items.size hi - cO items.size 0 lo)).toArray):=by
  show ((items.toList.drop (cO items.size 0 lo)).take (cO items.size items.size hi - cO items.size 0 lo)).toArray.size<=sizeLine
  rw [Vu,V6,WT,WY]
  omega
 have hj:cO items.size items.size hi<=items.size:=wg _ _ (Vh _) hi
 obtain ⟨os,hos,hcs,hds⟩:=id hs
 have GZ:s.TypeIs (.ref sl) "slice" := ⟨os,hos,hcs⟩
 unfold getItem
 try with_reducible refine wpAny_holding ?_
 first | refine wpAny_bind (wpAny_pure ?_) | skip
 refine wpAny_bind (wpAny_sequenceKey ht.typeIs (by decide) ?_)
 refine wpAny_bind (wpAny_callSpecial?_slot (name:=Str.ofString "__getitem__") ht.typeIs PyProof.Rows.slot_tuple_getitem
  (wpAny_call_entry PyProof.Rows.slot_tuple_getitem ht.typeIs entry_tuple_getitem ?_ (args_tuple_getitem _ _)))
 show wpAny _ _ (Builtin.Tuple.tupleItemsOf (.ref t) >>= _) _ _ s
 refine wpAny_bind (tupleItemsOf_ ht ?_)
 refine wpAny_bind (wpAny_typeOf GZ ?_)
 rw [if_pos (by decide)]
 refine wpAny_bind (Kr hs pl pu ?_)
 have hno:¬ ((((cO items.size 0 lo:Nat):Int) == 0 && (1:Int) == 1 && (cO items.size items.size hi - cO items.size 0 lo) == items.size)=true):=by
  intro q
  rw [VE,VE] at q
  have q1:((cO items.size 0 lo:Nat):Int)=0:=eq_of_beq q.1.1
  have q2:cO items.size items.size hi - cO items.size 0 lo=items.size:=eq_of_beq q.2
  exact hw ⟨by omega,by omega⟩
 show wpAny _ _ (if (((cO items.size 0 lo:Nat):Int) == 0 && (1:Int) == 1 && (cO items.size items.size hi - cO items.size 0 lo) == items.size)=true then _ else _) _ _ s
 rw [if_neg hno,NZ]
 first
  | exact wpAny_bind (m:=Builtin.Tuple.tupleExact _) (wpAny_newObj_type (wpAny_pure ⟨_,rfl,wpAny_pure h⟩) pQ)
  | exact wpAny_bind (m:=Builtin.Tuple.tupleExact _) (wpAny_newObj_type (wpAny_bind (wpAny_pure (wpAny_pure ⟨_,rfl,wpAny_pure h⟩))) pQ)
  | exact wpAny_bind (wpAny_bind (m:=Builtin.Tuple.tupleExact _) (wpAny_newObj_type (wpAny_pure (wpAny_pure ⟨_,rfl,wpAny_pure h⟩)) pQ))
  | exact wpAny_bind (wpAny_bind (m:=Builtin.Tuple.tupleExact _) (wpAny_newObj_type (wpAny_pure ⟨_,rfl,wpAny_pure h⟩) pQ))
end
end HT
namespace L2
open PySem PySem.Spec PyProof.Rows
abbrev TO:=St->Hp->(Option Int->Hp->Prop)->Prop
def PO (X:Cx) (e:Option Expr) (t:TO):Prop :=
 ∀ (pins:List (Addr×Obj)) (s:Shared) (σ:St) (H:Hp) (Q:Option Int->Hp->Prop),Inv X pins σ H s->t σ H Q ->
  wpAny (model X.prog X.w) X.A (evalPart e X.env) (fun u s'=>∃ o H',Inv X pins σ H' s'/\IsPart u o/\Q o H') X.xe s
def pR:TO:=fun _ H Q=>Q none H
def uG (t:TE):TO:=fun σ H Q=>t σ H fun x H1=>∃ i,x=.int i/\Q (some i) H1
theorem G0 {ns:List Int}:∀ {us:List Value},Vals (ns.map V.int) us->IntsAre us ns:=by
 induction ns with
 | nil=>intro us r;rw [VT] at r;cases r;exact .nil
 | cons n ns ih =>
  intro us r
  rw [Vy] at r
  cases r with
  | cons r1 r2 =>
   obtain ⟨t,e⟩:=r1
   subst e
   exact .cons n t (ih r2)
section
variable {X:Cx} {e:Expr} {te:TE} {lo hi:Option Expr} {tl th:TO} {pos p2:Pos}
theorem Ef:PO X none pR:=by
 intro pins s σ H Q I h
 rw [evalPart_none]
 exact wpAny_pure ⟨none,H,I,.none,h⟩
theorem Eg (h:PE X e te):PO X (some e) (uG te):=by
 intro pins s σ H Q I hw
 rw [evalPart_some]
 refine cN (h pins s σ H _ I hw) fun u s1 ⟨x,H1,I1,r1,q1⟩=>?_
 obtain ⟨i,rfl,q⟩:=q1
 obtain ⟨t,rfl⟩:=r1
 exact ⟨some i,H1,I1,.int i t,q⟩
def Eh (X:Cx) (r:V->Option Int->Option Int->Hp->VK->Prop):Prop :=
 ∀ (pins:List (Addr×Obj)) (s:Shared) (σ:St) (H:Hp) (x:V) (v vl vu:Value) (lo hi:Option Int) (sl:Addr) (Q:VK),Inv X pins σ H s->RelV x v->s.heap.IsSliceOf sl vl vu .none->IsPart vl lo->IsPart vu hi->r x lo hi H Q ->
  ∃ T id,typeLookup (.type T) "__getitem__" = pure (some (.builtin id))/\s.TypeIs v T/\wpAny (model X.prog X.w) X.A (getItem v (.ref sl)) (EP X pins σ Q) X.xe s
def Ks (r:V->Option Int->Option Int->Hp->VK->Prop) (te:TE) (tl th:TO):TE:=fun σ H Q=>te σ H fun x H1=>tl σ H1 fun l H2=>th σ H2 fun u H3=>r x l u H3 Q
theorem Ei {r:V->Option Int->Option Int->Hp->VK->Prop} (hr:Eh X r) (he:PE X e te) (hl:PO X lo tl) (hu:PO X hi th):PE X (.Subscript e (.Slice lo hi none p2) pos) (Ks r te tl th):=by
 intro pins s σ H Q I h
 refine Subscript_ (cN (he pins s σ H _ I h) fun v s1 ⟨x,H1,I1,r1,q1⟩=>?_)
 refine wpAny_Slice (cN (hl pins s1 σ H1 _ I1 q1) fun vl s2 ⟨l,H2,I2,pl,q2⟩=>cN (hu pins s2 σ H2 _ I2 q2) fun vu s3 ⟨u,H3,I3,pu,q3⟩=>?_)
 rw [evalPart_none]
 refine wpAny_pure ?_
 have I4:Inv X pins σ H3 { s3 with heap:=s3.heap.push { cls:=.type "slice",data:=.fields #[vl,vu,.none] } }:=I3.kept (t':=s3.toks) fun b ob q=>Vw _ q
 obtain ⟨T,id,hT,ht,hg⟩:=hr pins { s3 with heap:=s3.heap.push { cls:=.type "slice",data:=.fields #[vl,vu,.none] } } σ H3 x v vl vu l u s3.heap.objs.size Q I4 r1 (Heap.IsSliceOf.new ..) pl pu q3
 show wpAny (model X.prog X.w) X.A (subscriptTail e (.Slice lo hi none p2) v (.ref s3.heap.objs.size)) (EP X pins σ Q) X.xe { s3 with heap:=s3.heap.push { cls:=.type "slice",data:=.fields #[vl,vu,.none] } }
 exact tail_any (ops:=[.ref s3.heap.objs.size,v]) ht hT hg (by with_unfolding_all rfl)
def mw (xs:List V) (lo hi:Option Int):List V:=(xs.drop (HT.cO xs.length 0 lo)).take (HT.cO xs.length xs.length hi - HT.cO xs.length 0 lo)
theorem Kt (xs:List V) (lo hi:Option Int):(mw xs lo hi).length<=xs.length:=by
 unfold mw
 rw [V6,WT]
 omega
def G1 (K:Zfr):V->Option Int->Option Int->Hp->VK->Prop:=fun x lo hi H Q=>∃ a xs,x=.ref a/\ft K H a xs /\
 ¬ (HT.cO xs.length 0 lo=0/\HT.cO xs.length xs.length hi=xs.length)/\∀ p,H p=none->Q (.ref p) (upd H p (.tup (mw xs lo hi)))
theorem wj:Eh X (G1 X.K):=by
 intro pins s σ H x v vl vu lo hi sl Q I rx hs pl pu h
 obtain ⟨a,xs,rfl,hx,hw,q⟩:=h
 cases rx
 obtain ⟨its,r,ht,hz⟩:=I.tuple hx
 have hlen:its.toArray.size=xs.length:=by rw [Vu];exact r.length.symm
 refine ⟨"tuple",_,PyProof.Rows.slot_tuple_getitem.lookup,ht.typeIs,?_⟩
 refine HT.N1 ht hs pl pu (by rw [hlen];exact hw) ?_ (by rw [hlen];exact hz)
 rw [hlen]
 refine ⟨.ref s.heap.objs.size,_,I.laid (t':=s.toks) (o:=.tup (mw xs lo hi)) (fun b ob q=>Vw _ q) (Vh _) ?_,rfl,q _ (I.hok.fresh (Vh _))⟩
 exact ⟨VL (Kt xs lo hi) hz,_,(r.drop (HT.cO xs.length 0 lo)).take (HT.cO xs.length xs.length hi - HT.cO xs.length 0 lo),nH.new _ _⟩
def A6 (K:Zfr):R2:=fun x y H Q=>∃ a b xs ys,x=.ref a/\y=.ref b/\ft K H a xs/\ft K H b ys/\xs≠[]/\xs.length + ys.length<=sizeLine /\
 (ys=[]->Q (.ref a) H)/\(ys≠[]->∀ p,H p=none->Q (.ref p) (upd H p (.tup (xs ++ ys))))
theorem Vals.l9 {xs:List V} {us:List Value} (r:Vals xs us):us=[]↔xs=[]:=by
 cases r with
 | nil=>simp
 | cons _ _=>simp
theorem N2:kz X (binaryOp .Add) (A6 X.K):=by
 intro pins s σ H x y v u Q I rx ry h
 obtain ⟨a,b,xs,ys,rfl,rfl,ha,hb,hx,hz,q1,q2⟩:=h
 cases rx
 cases ry
 obtain ⟨its,r1,p1,_⟩:=I.tuple ha
 obtain ⟨its2,r2,p2,_⟩:=I.tuple hb
 refine HT.NU p1 p2 (fun z=>hx (r1.l9.mp z)) (fun z=>⟨.ref a,H,I,rfl,q1 (r2.l9.mp z)⟩) (fun z=>?_) (by rw [<- r1.length,<- r2.length];exact hz)
 refine ⟨.ref s.heap.objs.size,_,I.laid (t':=s.toks) (o:=.tup (xs ++ ys)) (fun b ob q=>Vw _ q) (Vh _) ?_,rfl,q2 (fun w=>z (r2.l9.mpr w)) _ (I.hok.fresh (Vh _))⟩
 exact ⟨by rw [Vj];exact hz,_,r1.append r2,nH.new _ _⟩
end
def lW (n:Nat) (i:Int):Option Nat:=if 0<=i then (if i < n then some i.toNat else none) else if -(n:Int)<=i then some (i + n).toNat else none
def d5 {α:Type} (xs:List α) (i:Int):Option α:=(lW xs.length i).bind fun j=>xs[j]?
theorem G2 {n:Nat} {i:Int} {j:Nat} (h:lW n i=some j):seqIndex? i n=some j/\j < n/\-(n:Int)<=i/\i < n:=by
 unfold lW at h
 by_cases h0:0<=i
 ·rw [if_pos h0] at h
  by_cases h1:i < n
  ·rw [if_pos h1] at h
   have e:i.toNat=j:=Vs h
   exact ⟨by rw [seqIndex_of h0 h1,e],by omega,by omega,h1⟩
  ·rw [if_neg h1] at h;cases h
 ·rw [if_neg h0] at h
  by_cases h1:-(n:Int)<=i
  ·rw [if_pos h1] at h
   have e:(i + n).toNat=j:=Vs h
   exact ⟨by rw [seqIndex_neg (by omega) h1,e],by omega,h1,by omega⟩
  ·rw [if_neg h1] at h;cases h
theorem Ku {α:Type} {xs:List α} {i:Int} {v:α} (h:d5 xs i=some v):∃ j,seqIndex? i xs.length=some j/\xs[j]?=some v/\j < xs.length/\-(xs.length:Int)<=i/\i < xs.length:=by
 unfold d5 at h
 cases e:lW xs.length i with
 | none=>rw [e] at h;cases h
 | some j =>
  rw [e] at h
  obtain ⟨h1,h2,h3,h4⟩:=G2 e
  exact ⟨j,h1,h,h2,h3,h4⟩
theorem zq {α:Type} {xs:List α} {j:Nat} {v:α} (h:xs[j]?=some v):d5 xs (j:Int)=some v:=by
 have hj:j < xs.length:=(Ve.mp h).1
 have e:lW xs.length (j:Int)=some j:=by
  unfold lW
  rw [if_pos (by omega),if_pos (by omega)];simp
 unfold d5;rw [e];exact h
def tD (b:Expr):Prop:=∀ o i,subscripted b false o i=operate [o,i] (getItem o i)
def A7 (X:Cx) (r:R2):Prop :=
 ∀ (value slice:Expr) (pins:List (Addr×Obj)) (s:Shared) (σ:St) (H:Hp) (x y:V) (v u:Value) (Q:VK),Inv X pins σ H s->RelV x v->RelV y u->r x y H Q ->
  subscripted slice false v u=operate [v,u] (getItem v u)->wpAny (model X.prog X.w) X.A (subscriptTail value slice v u) (EP X pins σ Q) X.xe s
def uH (X:Cx) (id:String) (r:V->List V->Hp->VK->Prop):Prop :=
 ∀ (pins:List (Addr×Obj)) (s:Shared) (σ:St) (H:Hp) (x:V) (xs:List V) (v:Value) (us:List Value) (Q:VK),Inv X pins σ H s->RelV x v->Vals xs us->r x xs H Q ->
  wpAny (model X.prog X.w) X.A (call (.builtin id) (v :: us)) (EP X pins σ Q) X.xe s
section
variable {X:Cx} {a b:Expr} {ta tb:TE} {pos:Pos}
theorem bJ {r:R2} (hr:A7 X r) (ha:PE X a ta) (hb:PE X b tb) (hs:tD b):PE X (.Subscript a b pos) (AV r ta tb):=by
 intro pins s σ H Q I h
 exact Subscript_ (vW ha hb I h fun v u s2 x y H2 I2 rx ry q=>hr a b pins s2 σ H2 x y v u Q I2 rx ry q (hs _ _))
def wm (K:Zfr):R2:=fun x y H Q=>∃ p xs i v,x=.ref p/\y=.int i/\j3 K H p xs/\d5 xs i=some v/\Q v H
def wo (K:Zfr):R2:=fun x y H Q=>∃ p xs i v,x=.ref p/\y=.int i/\ft K H p xs/\d5 xs i=some v/\Q v H
theorem iL:A7 X (wm X.K):=by
 intro value slice pins s σ H x y v u Q I rx ry h hs
 obtain ⟨p,xs,i,z,rfl,rfl,hq,he,q⟩:=h
 cases rx
 obtain ⟨t,rfl⟩:=ry
 obtain ⟨its,r,pl,hz⟩:=I.list hq
 obtain ⟨j,h1,h2,h3,h4,h5⟩:=Ku he
 obtain ⟨w,ew,rw'⟩:=r.get h2
 have hl:=r.length
 have hn:=nM
 have fin:EP X pins σ Q w s:=⟨z,H,I,rw',q⟩
 by_cases h0:0<=i
 ·have hj:i.toNat=j:=by
   rw [seqIndex_of h0 h5] at h1
   exact Vs h1
  exact item_listR pl.isList h0 (by omega) (by rw [hj];simpa using ew) fin hs
 ·have hj:(i + (its.toArray.size:Int)).toNat=j:=by
   rw [seqIndex_neg (by omega) h4] at h1
   rw [Vu,<- hl]
   exact Vs h1
  exact subscriptTail_builtinR (x:=w) pl.isList.typeIs slot_list_getitem.lookup
   (wpAny_getItem_list_neg (Q:=fun r s'=>r=w/\EP X pins σ Q r s') pl.isList (by omega) (by rw [Vu] <;> omega) (by omega) (by rw [hj];simpa using ew) ⟨rfl,fin⟩) hs
theorem e7:A7 X (wo X.K):=by
 intro value slice pins s σ H x y v u Q I rx ry h hs
 obtain ⟨p,xs,i,z,rfl,rfl,hq,he,q⟩:=h
 cases rx
 obtain ⟨t,rfl⟩:=ry
 obtain ⟨its,r,pl,hz⟩:=I.tuple hq
 obtain ⟨j,h1,h2,h3,h4,h5⟩:=Ku he
 obtain ⟨w,ew,rw'⟩:=r.get h2
 have hl:=r.length
 have hn:=nM
 have fin:EP X pins σ Q w s:=⟨z,H,I,rw',q⟩
 exact subscriptTail_builtinR (x:=w) pl.typeIs slot_tuple_getitem.lookup
  (getItem_tuple (j:=j) (Q:=fun r s'=>r=w/\EP X pins σ Q r s') pl (by omega) (by omega) (by rw [Vu,<- hl];exact h1) (by simpa using ew) ⟨rfl,fin⟩) hs
theorem N3 (its:List Value) (n j:Nat) (u:Value):Obj.mapSeq (·.setIfInBounds j u) { cls:=.type "list",data:=.seq its.toArray n }={ cls:=.type "list",data:=.seq (its.set j u).toArray n }:=by
 simp [Obj.mapSeq]
theorem Inv.lst {pins:List (Addr×Obj)} {σ:St} {H:Hp} {s:Shared} {p:Addr} {xs:List V} (I:Inv X pins σ H s) (h:H p=some (.lst xs)) :
  ∃ (its:List Value) (n:Nat),Vals xs its/\s.heap.get? p=some { cls:=.type "list",data:=.seq its.toArray n }/\xs.length<=sizeLine:=by
 obtain ⟨z,its,n,r,e⟩:=I.hok p _ h
 exact ⟨its,n,r,e,z⟩
theorem Inv.wt {pins:List (Addr×Obj)} {σ:St} {H:Hp} {s:Shared} {p:Addr} {xs ys:List V} {its its':List Value} {n n':Nat} {f:Obj->Obj} (I:Inv X pins σ H s) (h:H p=some (.lst xs))
  (ho:s.heap.get? p=some { cls:=.type "list",data:=.seq its.toArray n }) (hf:f { cls:=.type "list",data:=.seq its.toArray n }={ cls:=.type "list",data:=.seq its'.toArray n' }) (r:Vals ys its') (hz:ys.length<=sizeLine) (t:Nat) :
  Inv X pins σ (upd H p (.lst ys)) { s with heap:=s.heap.update p f,toks:=t }:=by
 have e:(s.heap.update p f).get? p=some { cls:=.type "list",data:=.seq its'.toArray n' }:=by
  rw [WM f ho (by rw [hf] <;> rfl),hf]
 refine I.write (x:=p) (e:=p) (by rw [h];trivial) (.inl rfl) (fun b u hb q=>(V5 _ _ (Ne.symm hb)).trans q) ⟨_,e⟩ ?_
 exact ⟨hz,its',n',r,e⟩
def uI:V->V->V->Hp->(Hp->Prop)->Prop:=fun o i v H Q=>∃ p xs k j,o=.ref p/\i=.int k/\H p=some (.lst xs)/\lW xs.length k=some j/\Q (upd H p (.lst (xs.set j v)))
theorem pS:AI X uI:=by
 intro pins s σ H o i v ov iv u Q I ro ri rv h
 obtain ⟨p,xs,k,j,rfl,rfl,hp,hj,q⟩:=h
 cases ro
 obtain ⟨t,rfl⟩:=ri
 obtain ⟨its,n,r,ho,hz⟩:=I.lst hp
 obtain ⟨h1,h2,h3,h4⟩:=G2 hj
 have hl:=r.length
 have hn:=nM
 have I':Inv X pins σ (upd H p (.lst (xs.set j v))) { s with heap:=s.heap.update p (Obj.mapSeq (·.setIfInBounds j u)) } :=
  I.wt hp ho (N3 its n j u) (r.set rv j) (by rw [VU];exact hz) s.toks
 by_cases h0:0<=k
 ·have hk:k.toNat=j:=by
   rw [seqIndex_of h0 h4] at h1
   exact Vs h1
  exact PySem.W.ki_setAt ho h0 (by omega) (by rw [Vu,<- hl];exact h4) (by rw [hk];exact ⟨_,I',q⟩)
 ·have hk:(k + (its.toArray.size:Int)).toNat=j:=by
   rw [seqIndex_neg (by omega) h3] at h1
   rw [Vu,<- hl]
   exact Vs h1
  exact PySem.W.ki_setBack ho (by omega) (by rw [Vu,<- hl];exact h3) (by omega) (by rw [hk];exact ⟨_,I',q⟩)
theorem N4 (lo hi:Option Int) (n:Nat):(sliceBounds lo hi none n).1=((HT.cO n 0 lo:Nat):Int)/\(sliceBounds lo hi none n).2.1=((HT.cO n n hi:Nat):Int)/\(sliceBounds lo hi none n).2.2=1:=by
 refine ⟨?_,?_,rfl⟩
 ·cases lo with
  | none=>simp [sliceBounds,HT.cO]
  | some i =>
   simp only [sliceBounds,HT.cO,Option.getD_none,show (1:Int) > 0 by decide,if_true]
   by_cases h:i < 0
   ·simp only [h,if_true] <;> omega
   ·simp only [h,if_false] <;> omega
 ·cases hi with
  | none=>simp [sliceBounds,HT.cO]
  | some i =>
   simp only [sliceBounds,HT.cO,Option.getD_none,show (1:Int) > 0 by decide,if_true]
   by_cases h:i < 0
   ·simp only [h,if_true] <;> omega
   ·simp only [h,if_false] <;> omega
theorem N5 (its:List Value) (lo hi:Option Int):slicePick its.toArray lo hi none=((its.drop (HT.cO its.length 0 lo)).take (HT.cO its.length its.length hi - HT.cO its.length 0 lo)).toArray:=by
 obtain ⟨h1,h2,h3⟩:=N4 lo hi its.toArray.size
 unfold slicePick
 rw [h1,h2,h3]
 simp only [sliceRange_one,pick_run,Vu] <;> rfl
def A8 (K:Zfr):V->Option Int->Option Int->Hp->VK->Prop:=fun x lo hi H Q=>∃ a xs,x=.ref a/\j3 K H a xs/\∀ p,H p=none->Q (.ref p) (upd H p (.lst (mw xs lo hi)))
theorem G3:Eh X (A8 X.K):=by
 intro pins s σ H x v vl vu lo hi sl Q I rx hs pl pu h
 obtain ⟨a,xs,rfl,hx,q⟩:=h
 cases rx
 obtain ⟨its,r,ht,hz⟩:=I.list hx
 have hlen:=r.length
 refine ⟨"list",_,slot_list_getitem.lookup,ht.isList.typeIs,?_⟩
 refine wpAny_getItem_list_slice ht.isList hs pl pu .none (by simp) ?_ (by rw [Vu] <;> omega)
 rw [N5,<- hlen]
 refine ⟨.ref s.heap.objs.size,_,I.laid (t':=s.toks) (o:=.lst (mw xs lo hi)) (fun b ob q=>Vw _ q) (Vh _) ?_,rfl,q _ (I.hok.fresh (Vh _))⟩
 exact ⟨VL (Kt xs lo hi) hz,_,0,(r.drop (HT.cO xs.length 0 lo)).take (HT.cO xs.length xs.length hi - HT.cO xs.length 0 lo),VI _ rfl⟩
def ky:V->Bool
 | .non=>true
 | .bl _=>true
 | .int _=>true
 | .str _=>true
 | _=>false
def uJ:V->V->Bool
 | .non,.non=>true
 | .bl a,.bl b=>a == b
 | .bl a,.int b=>(if a then 1 else 0) == b
 | .int a,.bl b=>a == (if b then 1 else 0)
 | .int a,.int b=>a == b
 | .str a,.str b=>a == b
 | _,_=>false
theorem wu {A:Around} {s:Shared} {y x:V} {u v:Value} (ry:RelV y u) (rx:RelV x v) (fy:ky y=true) (fx:ky x=true):SeqAt.EqAt A s u v (uJ y x):=by
 cases y with
 | non =>
  cases ry
  cases x with
  | non=>cases rx;exact SeqAt.EqAt.same _
  | bl b=>cases rx;exact SeqAt.EqAt.none_bool b
  | int b=>obtain ⟨t,rfl⟩:=rx;exact SeqAt.EqAt.none_int b t
  | str b=>obtain ⟨t,rfl⟩:=rx;exact SeqAt.EqAt.none_str b t
  | _=>exact absurd (show false=true from fx) Vo
 | bl a =>
  cases ry
  cases x with
  | non=>cases rx;exact SeqAt.EqAt.bool_none a
  | bl b=>cases rx;exact SeqAt.EqAt.bool_bool a b
  | int b=>obtain ⟨t,rfl⟩:=rx;exact SeqAt.EqAt.bool_int a b t
  | str b=>obtain ⟨t,rfl⟩:=rx;exact SeqAt.EqAt.bool_str a b t
  | _=>exact absurd (show false=true from fx) Vo
 | int a =>
  obtain ⟨t',rfl⟩:=ry
  cases x with
  | non=>cases rx;exact SeqAt.EqAt.int_none a t'
  | bl b=>cases rx;exact SeqAt.EqAt.int_bool a t' b
  | int b=>obtain ⟨t,rfl⟩:=rx;exact SeqAt.EqAt.int_int a t' b t
  | str b=>obtain ⟨t,rfl⟩:=rx;exact SeqAt.EqAt.int_str a t' b t
  | _=>exact absurd (show false=true from fx) Vo
 | str a =>
  obtain ⟨t',rfl⟩:=ry
  cases x with
  | non=>cases rx;exact SeqAt.EqAt.str_none a t'
  | bl b=>cases rx;exact SeqAt.EqAt.str_bool a t' b
  | int b=>obtain ⟨t,rfl⟩:=rx;exact SeqAt.EqAt.str_int a t' b t
  | str b=>obtain ⟨t,rfl⟩:=rx;exact SeqAt.EqAt.str_str a t' b t
  | _=>exact absurd (show false=true from fx) Vo
 | _=>exact absurd (show false=true from fy) Vo
def tG (x:V) (u:Value):Bool:=match u with
 | .none=>uJ .non x
 | .bool b=>uJ (.bl b) x
 | .int i _=>uJ (.int i) x
 | .str z _=>uJ (.str z) x
 | _=>false
theorem Kv {x y:V} {u:Value} (r:RelV y u) (f:ky y=true):tG x u=uJ y x:=by
 cases y with
 | non=>cases r;rfl
 | bl b=>cases r;rfl
 | int i=>obtain ⟨t,rfl⟩:=r;rfl
 | str z=>obtain ⟨t,rfl⟩:=r;rfl
 | _=>exact absurd (show false=true from f) Vo
theorem G4 {x:V}:∀ {xs:List V} {us:List Value},Vals xs us->xs.all ky=true->us.any (tG x)=xs.any fun y=>uJ y x
 | _,_,.nil,_=>rfl
 | y :: xs,u :: us,.cons r t,f=>by
  rw [List.all_cons,VE] at f
  rw [V9,V9,Kv r f.1,G4 t f.2]
theorem G5 {A:Around} {s:Shared} {x:V} {v:Value} (rx:RelV x v) (fx:ky x=true):∀ {xs:List V} {us:List Value},Vals xs us->xs.all ky=true->∀ u∈us,SeqAt.EqAt A s u v (tG x u)
 | _,_,.nil,_=>fun u hu=>by cases hu
 | y :: xs,u :: us,.cons r t,f=>fun u' hu=>by
  rw [List.all_cons,VE] at f
  rcases VF.mp hu with rfl | hu
  ·rw [Kv r f.1];exact wu r rx f.1 fx
  ·exact G5 rx fx t f.2 u' hu
def uK (x:V) (xs:List V):Bool:=xs.any fun y=>uJ y x
def G6 (K:Zfr) (neg:Bool):R2:=fun x y H Q=>∃ p xs,y=.ref p/\(j3 K H p xs\/ft K H p xs)/\ky x=true/\xs.all ky=true/\Q (.bl (if neg then !uK x xs else uK x xs)) H
theorem Ej:kz X (compareOp .NotIn) (G6 X.K true):=by
 intro pins s σ H x y v u Q I rx ry h
 obtain ⟨p,xs,rfl,hq,fx,fs,q⟩:=h
 cases ry
 rcases hq with hq | hq
 ·obtain ⟨its,r,pl,hz⟩:=I.list hq
  refine SeqAt.notIn_listAt (tG x) pl.isList (fun w hw=>G5 rx fx r fs w (by simpa using hw)) ⟨.bl _,H,I,rfl,?_⟩
  rw [show its.toArray.any (tG x)=its.any (tG x) by simp,G4 r fs]
  exact q
 ·obtain ⟨its,r,pl,hz⟩:=I.tuple hq
  refine SeqAt.notIn_tupleAt (tG x) pl (fun w hw=>G5 rx fx r fs w (by simpa using hw)) ⟨.bl _,H,I,rfl,?_⟩
  rw [show its.toArray.any (tG x)=its.any (tG x) by simp,G4 r fs]
  exact q
theorem iz:fX X (.builtin "len") (fun xs H Q=>∃ p ys,xs=[.ref p]/\(j3 X.K H p ys\/ft X.K H p ys)/\Q (.int ys.length) H):=by
 intro pins s σ H xs us Q I r h
 obtain ⟨p,ys,rfl,hq,q⟩:=h
 obtain ⟨u,rfl,rx⟩:=vals1 r
 cases rx
 have hn:=nM
 rcases hq with hq | hq
 ·obtain ⟨its,r',pl,hz⟩:=I.list hq
  have hlen:=r'.length
  exact Calls.call_len_list pl.isList (by simp only [Vu] <;> omega) ⟨.int ys.length,H,I.tok _,⟨s.toks + 1,by rw [Vu,hlen]⟩,q⟩
 ·obtain ⟨its,r',pl,hz⟩:=I.tuple hq
  have hlen:=r'.length
  exact len_tuple pl (by simp only [Vu] <;> omega) ⟨.int ys.length,H,I.tok _,⟨s.toks + 1,by rw [Vu,hlen]⟩,q⟩
theorem A9:fX X (.type "list") (fun xs H Q=>∃ p ys,xs=[.ref p]/\(j3 X.K H p ys\/ft X.K H p ys)/\∀ l,H l=none->Q (.ref l) (upd H l (.lst ys))):=by
 intro pins s σ H xs us Q I r h
 obtain ⟨p,ys,rfl,hq,q⟩:=h
 obtain ⟨u,rfl,rx⟩:=vals1 r
 cases rx
 have fin:∀ (its:List Value),Vals ys its->ys.length<=sizeLine->∀ (h':Heap) (c':Nat),(∀ b o',s.heap.get? b=some o'->h'.get? b=some o') ->
   h'.get? s.heap.objs.size=some { cls:=.type "list",dict:=none,data:=.seq its.toArray c',slots:=#[] }->EP X pins σ Q (.ref s.heap.objs.size) { s with heap:=h' }:=fun its r' hz h' c' kp e =>
  ⟨.ref s.heap.objs.size,_,I.laid (t':=s.toks) kp (Vh _) (show cy X.prog X.w _ h' _ (.lst ys) from ⟨hz,its,c',r',e⟩),rfl,q _ (I.hok.fresh (Vh _))⟩
 rcases hq with hq | hq
 ·obtain ⟨its,r',pl,hz⟩:=I.list hq
  have hlen:=r'.length
  obtain ⟨o,ho,hc,n,hd⟩:=pl.isList
  exact call_list_seq p (.inl rfl) ho hc hd (fun h' c' kp e=>fin its r' hz h' c' kp e) (by simp only [Vu] <;> omega)
 ·obtain ⟨its,r',pl,hz⟩:=I.tuple hq
  have hlen:=r'.length
  obtain ⟨o,ho,hc,n,hd⟩:=pl
  exact call_list_seq p (.inr rfl) ho hc hd (fun h' c' kp e=>fin its r' hz h' c' kp e) (by simp only [Vu] <;> omega)
theorem mL:fX X (.type "tuple") (fun xs H Q=>∃ p ys,xs=[.ref p]/\((j3 X.K H p ys/\∀ l,H l=none->Q (.ref l) (upd H l (.tup ys)))\/(ft X.K H p ys/\Q (.ref p) H))):=by
 intro pins s σ H xs us Q I r h
 obtain ⟨p,ys,rfl,h⟩:=h
 obtain ⟨u,rfl,rx⟩:=vals1 r
 cases rx
 rcases h with ⟨hq,q⟩ | ⟨hq,q⟩
 ·obtain ⟨its,r',pl,hz⟩:=I.list hq
  have hlen:=r'.length
  refine call_tuple_list pl.isList (fun h' kp=>?_) (by simp only [Vu] <;> omega)
  have I1:Inv X pins σ H { s with heap:=h' }:=I.kept (t':=s.toks) kp
  have I2:Inv X pins σ (upd H h'.objs.size (.tup ys)) { s with heap:=h'.push { cls:=.type "tuple",data:=.seq its.toArray } } :=
   I1.laid (t':=s.toks) (fun b o e=>Vw _ e) (Vh _) (show cy X.prog X.w _ _ _ (.tup ys) from ⟨hz,its,r',nH.new _ _⟩)
  exact ⟨.ref h'.objs.size,_,I2,rfl,q _ (I1.hok.fresh (Vh _))⟩
 ·obtain ⟨its,r',pl,hz⟩:=I.tuple hq
  exact call_tuple_same pl ⟨.ref p,H,I,rfl,q⟩
def Ek (K:Zfr) (T:String) (x:V) (H:Hp):Prop:=match x with
 | .str _=>T="str"
 | .int _=>T="int"
 | .ref p=>(T="list" /\ ∃ xs,j3 K H p xs)\/(T="tuple" /\ ∃ xs,ft K H p xs) \/
   (T="dict" /\ ((∃ kvs,H p=some (.dK kvs))\/∃ kvs,H p=some (.dT kvs)))\/(T="set" /\ ∃ S n,H p=some (.set S n))
 | _=>False
theorem Kw {pins:List (Addr×Obj)} {σ:St} {H:Hp} {s:Shared} {T:String} {x:V} {v:Value} (I:Inv X pins σ H s) (r:RelV x v) (ty:Ek X.K T x H) :
  s.TypeIs v T/\∀ a,v=.ref a->∃ ob,s.heap.get? a=some ob/\ob.dict=none:=by
 cases x with
 | str z =>
  obtain ⟨t,rfl⟩:=r
  cases (show T="str" from ty)
  exact ⟨typeIs_str s z t,fun _ e=>nomatch e⟩
 | int i =>
  obtain ⟨t,rfl⟩:=r
  cases (show T="int" from ty)
  exact ⟨typeIs_int s i t,fun _ e=>nomatch e⟩
 | ref p =>
  cases r
  rcases ty with ⟨rfl,xs,hq⟩ | ⟨rfl,xs,hq⟩ | ⟨rfl,hk⟩ | ⟨rfl,S,n,hk⟩
  ·obtain ⟨its,_,pl,_⟩:=I.list hq
   refine ⟨pl.isList.typeIs,fun a e=>?_⟩
   cases e
   obtain ⟨o,n,e,c,hd,_⟩:=pl
   exact ⟨o,e,hd⟩
  ·obtain ⟨its,_,⟨o,e,c,d,_⟩,_⟩:=I.nK hq
   refine ⟨⟨o,e,c⟩,fun a e2=>?_⟩
   cases e2
   exact ⟨o,e,d⟩
  ·have z:∃ o,s.heap.get? p=some o/\o.ExactDict:=by
    rcases hk with ⟨kvs,hk⟩ | ⟨kvs,hk⟩
    ·obtain ⟨_,_,_,_,o,_,_,e,ex,_⟩:=I.hok p _ hk
     exact ⟨o,e,ex⟩
    ·obtain ⟨_,_,_,_,o,_,_,e,ex,_⟩:=I.hok p _ hk
     exact ⟨o,e,ex⟩
   obtain ⟨o,e,ex⟩:=z
   refine ⟨⟨o,e,ex.1⟩,fun a e2=>?_⟩
   cases e2
   exact ⟨o,e,ex.2.1⟩
  ·obtain ⟨o,_,_,_,e,ex,_⟩:=I.hok p _ hk
   refine ⟨⟨o,e,ex.1⟩,fun a e2=>?_⟩
   cases e2
   exact ⟨o,e,ex.2.1⟩
 | _=>exact False.elim ty
def Ba (K:Zfr) (T:String) (r:V->List V->Hp->VK->Prop) (to:TE):TE:=fun σ H Q=>to σ H fun x H1=>Ek K T x H1/\r x [] H1 Q
def G7 (K:Zfr) (T:String) (r:V->List V->Hp->VK->Prop) (to:TE) (t:TA):TE:=fun σ H Q=>to σ H fun x H1=>Ek K T x H1/\t σ H1 fun xs H2=>r x xs H2 Q
variable {o e:Expr} {es:List Expr} {to:TE} {t:TA} {name:Str} {apos cpos:Pos} {T id:String} {r:V->List V->Hp->VK->Prop}
theorem wx (pa:PlainAttrs T) (slot:Slot T name id) (hty:typeOf (.builtin id)=pure (.type "method_descriptor")) (hm:uH X id r) (ho:PE X o to)
  (hbase:attributeBase o name X.env (eval o X.env)=eval o X.env:=by rfl) (hline:(apos.endLine == cpos.line)=true:=by rfl):PE X (.Call (.Attribute o name apos) [] [] cpos) (Ba X.K T r to):=by
 intro pins s σ H Q I h
 refine wpAny_Call_method0_late hbase hline (cN (ho pins s σ H _ I h) fun v s1 ⟨x,H1,I1,r1,ty,q1⟩=>?_)
 obtain ⟨h1,h2⟩:=Kw I1 r1 ty
 exact ⟨T,id,pa,slot,hty,h1,h2,Calls.callWith_builtin rfl (PySem.evalArgs_none (hm pins s1 σ H1 x [] v [] Q I1 r1 .nil q1))⟩
theorem lE (pa:PlainAttrs T) (slot:Slot T name id) (hty:typeOf (.builtin id)=pure (.type "method_descriptor")) (hm:uH X id r) (ho:PE X o to) (ha:PA X (e :: es) t)
  (hbase:attributeBase o name X.env (eval o X.env)=eval o X.env:=by rfl)
  (hfew:((backTo cpos (starEach (e :: es) X.env)).all (fun x=>!x.1) && (backToKw cpos (keywordEach [] X.env)).all (fun x=>x.1.isSome)
   && decide ((e :: es).length + ([]:List Keyword).length + (if ([]:List Keyword).isEmpty then 0 else 1) < 30))=true:=by rfl)
  (hline:(apos.endLine == cpos.line)=true:=by rfl) (hs:starEach (e :: es) X.env=(false,eval e X.env) :: starEach es X.env:=by rfl) (hplain:(backTo cpos (starEach es X.env)).any (·.1)=false:=by rfl) :
  PE X (.Call (.Attribute o name apos) (e :: es) [] cpos) (G7 X.K T r to t):=by
 intro pins s σ H Q I h
 refine wpAny_Call_method_late hbase hfew hline rfl (cN (ho pins s σ H _ I h) fun v s1 ⟨x,H1,I1,r1,ty,q1⟩=>?_)
 obtain ⟨h1,h2⟩:=Kw I1 r1 ty
 refine ⟨T,id,pa,slot,hty,h1,h2,?_⟩
 have hA:=ha cpos pins s1 σ H1 _ I1 q1
 rw [hs] at hA ⊢
 refine Calls.callWith_builtin (by show (false || (backTo cpos (starEach es X.env)).any (·.1))=false;rw [hplain] <;> rfl) (Calls.evalArgs_plain ?_)
 exact cN hA fun us s2 ⟨vs,H2,I2,r2,q2⟩=>hm pins s2 σ H2 x vs v us Q I2 r1 r2 q2
end
def Bb (X:Cx) (id:String) (r:V->List V->Hp->VK->Prop):Prop :=
 ∀ (pins:List (Addr×Obj)) (s:Shared) (σ:St) (H:Hp) (x:V) (xs:List V) (v:Value) (us:List Value) (Q:VK),Inv X pins σ H s->RelV x v->Vals xs us->r x xs H Q ->
  wpAny (model X.prog X.w) X.A (call (.builtin id) (v :: us)) (EP X pins σ Q) X.xe s
theorem Vals.one:∀ {x:V} {us:List Value},Vals [x] us->∃ u,us=[u]/\RelV x u
 | _,_,.cons r .nil=>⟨_,rfl,r⟩
theorem Vals.zero:∀ {us:List Value},Vals [] us->us=[]
 | _,.nil=>rfl
theorem Vals.dropLast {xs:List V} {us:List Value} (h:Vals xs us):Vals xs.dropLast us.dropLast:=by
 induction h with
 | nil=>exact .nil
 | cons r t ih =>
  cases t with
  | nil=>exact .nil
  | cons q t'=>exact .cons r ih
theorem Vals.eraseIdx:∀ {xs:List V} {us:List Value} (i:Nat),Vals xs us->Vals (xs.eraseIdx i) (us.eraseIdx i)
 | _,_,_,.nil=>.nil
 | _,_,0,.cons _ t=>t
 | _,_,i + 1,.cons r t=>.cons r (Vals.eraseIdx i t)
theorem Vals.rep {xs:List V} {us:List Value} (h:Vals xs us):∀ k:Nat,Vals (List.replicate k xs).flatten (List.replicate k us).flatten
 | 0=>.nil
 | k + 1=>by
  rw [V2,V2,Wu,Wu]
  exact Vals.append h (Vals.rep h k)
theorem N6 {α:Type} (l:List α):l.eraseIdx (l.length - 1)=l.dropLast:=by
 induction l with
 | nil=>rfl
 | cons a r ih =>
  cases r with
  | nil=>rfl
  | cons b r =>
   have e:(a :: b :: r).length - 1=((b :: r).length - 1) + 1:=by
    have h1:(a :: b :: r).length=r.length + 2:=rfl
    have h2:(b :: r).length=r.length + 1:=rfl
    omega
   rw [e,W5,ih]
   all_goals rfl
theorem Kx {α:Type}:∀ (l:List α) (i:Nat),(l.eraseIdx i).length<=l.length
 | [],_=>Vh _
 | _ :: _,0=>W8 _
 | _ :: r,i + 1=>Nat.succ_le_succ (Kx r i)
theorem Ky (its:List Value):∀ (k:Nat) (acc:List Value),
  List.foldl (fun x1 x2=>x1 ++ x2) acc.toArray (List.replicate k its.toArray)=(acc ++ (List.replicate k its).flatten).toArray
 | 0,acc=>by simp
 | k + 1,acc=>by
  have e:acc.toArray ++ its.toArray=(acc ++ its).toArray:=by simp
  have e2:(acc ++ its) ++ (List.replicate k its).flatten=acc ++ (List.replicate (k + 1) its).flatten:=by
   rw [V2,Wu,WI]
  rw [<- e2,<- Ky its k (acc ++ its),<- e,V2,List.foldl_cons]
section
variable {X:Cx} {pins:List (Addr×Obj)} {σ:St} {H:Hp} {s:Shared} {l b:Addr} {xs ys zs:List V}
theorem Inv.rf {its its':List Value} {n:Nat} {f:Array Value->Array Value} {t':Nat} (I:Inv X pins σ H s) (hH:H l=some (.lst xs))
  (e:s.heap.get? l=some { cls:=.type "list",data:=.seq its.toArray n }) (hf:f its.toArray=its'.toArray) (hv:Vals ys its') (hz:ys.length<=sizeLine) :
  Inv X pins σ (upd H l (.lst ys)) { s with heap:=s.heap.update l (Obj.mapSeq f),toks:=t' }:=by
 have q:=PySem.IsL.update e f
 rw [hf] at q
 refine I.write (x:=l) (e:=l) (by rw [hH];exact trivial) (.inl rfl) (fun b' u hb hu=>(V5 s.heap (Obj.mapSeq f) (Ne.symm hb)).trans hu) ⟨_,q⟩ ?_
 exact ⟨hz,its',_,hv,q⟩
theorem Inv.Bc {its:List Value} {t':Nat} (I:Inv X pins σ H s) (hv:Vals ys its) (hz:ys.length<=sizeLine) :
  Inv X pins σ (upd H s.heap.objs.size (.lst ys)) { s with heap:=s.heap.push { cls:=.type "list",data:=.seq its.toArray },toks:=t' } :=
 I.laid (fun _ _ q=>Vw _ q) (Vh _) ⟨hz,its,0,hv,VI _ rfl⟩
theorem Inv.fresh (I:Inv X pins σ H s):H s.heap.objs.size=none:=I.hok.fresh (Vh _)
theorem Inv.oI (I:Inv X pins σ H s) (hH:H l=some (.lst xs)):xs.length<=sizeLine/\∃ (its:List Value) (n:Nat),Vals xs its/\xs.length=its.length/\s.heap.get? l=some { cls:=.type "list",data:=.seq its.toArray n }:=by
 obtain ⟨z,its,n,r,e⟩:=I.hok l _ hH
 exact ⟨z,its,n,r,r.length,e⟩
theorem rg {n:Nat} (h:n<=sizeLine):Builtin.List.listTooLong n=false:=by
 unfold Builtin.List.listTooLong
 exact decide_eq_false (by omega)
end
section
variable {X:Cx}
def pT:V->List V->Hp->VK->Prop:=fun x vs H Q=>∃ l xs y,x=.ref l/\vs=[y]/\H l=some (.lst xs)/\xs.length < sizeLine/\Q .non (upd H l (.lst (xs ++ [y])))
theorem oJ:Bb X "list.append" pT:=by
 intro pins s σ H x vs v us Q I rx rv h
 obtain ⟨l,xs,y,rfl,rfl,hH,hz,q⟩:=h
 cases rx
 obtain ⟨u,rfl,ru⟩:=rv.one
 obtain ⟨z,its,n,r,hl,e⟩:=I.oI hH
 refine call_meets F.slot_list_append ⟨_,e,rfl⟩ F.entry_list_append (F.args_list_append_2 _ _) (PySem.list_append l its.toArray n u (by rw [Vu];omega)) ⟨e,?_⟩
 refine ⟨.non,_,I.rf (its':=its ++ [u]) hH e (by simp) (r.append (.cons ru .nil)) ?_,rfl,q⟩
 rw [Vj,Wt]
 omega
def Bd:V->List V->Hp->VK->Prop:=fun x vs H Q=>∃ l xs y,x=.ref l/\vs=[]/\H l=some (.lst xs)/\xs[xs.length - 1]?=some y/\Q y (upd H l (.lst xs.dropLast))
theorem wz:Bb X "list.pop" Bd:=by
 intro pins s σ H x vs v us Q I rx rv h
 obtain ⟨l,xs,y,rfl,rfl,hH,hy,q⟩:=h
 cases rx
 have N7:=rv.zero
 subst N7
 obtain ⟨z,its,n,r,hl,e⟩:=I.oI hH
 obtain ⟨u,hu,ru⟩:=r.get hy
 have hy':its.toArray[its.toArray.size - 1]?=some u:=by
  show its.toArray[its.length - 1]?=some u
  rw [<- WN,<- hl]
  exact hu
 refine call_meets F.slot_list_pop ⟨_,e,rfl⟩ F.entry_list_pop (F.args_list_pop_1 _) (MeetsSeq.list_pop_last l its.toArray n u hy' (by rw [Vu];omega)) ⟨e,?_⟩
 refine ⟨y,_,I.rf (its':=its.dropLast) hH e ?_ r.dropLast ?_,ru,q⟩
 ·show its.toArray.eraseIdxIfInBounds (its.toArray.size - 1)=its.dropLast.toArray
  rw [Vu,WD,N6]
 ·rw [List.length_dropLast]
  omega
def rh:V->List V->Hp->VK->Prop:=fun x vs H Q=>∃ l xs i k y,x=.ref l/\vs=[.int i]/\H l=some (.lst xs)/\-(2 ^ 63)<=i/\i < 2 ^ 63/\seqIndex? i xs.length=some k/\xs[k]?=some y/\Q y (upd H l (.lst (xs.eraseIdx k)))
theorem Kz:Bb X "list.pop" rh:=by
 intro pins s σ H x vs v us Q I rx rv h
 obtain ⟨l,xs,i,k,y,rfl,rfl,hH,h1,h2,hk,hy,q⟩:=h
 cases rx
 obtain ⟨u,rfl,ru⟩:=rv.one
 obtain ⟨t,rfl⟩:=ru
 obtain ⟨z,its,n,r,hl,e⟩:=I.oI hH
 obtain ⟨w,hw,rw'⟩:=r.get hy
 refine call_meets F.slot_list_pop ⟨_,e,rfl⟩ F.entry_list_pop (F.args_list_pop_2 _ _)
  (MeetsSeq.list_pop_at l its.toArray n i t k w (fitsIndex_both h1 h2) (by rw [Vu,<- hl];exact hk) (by rw [<- WN];exact hw) (by rw [Vu];omega)) ⟨e,?_⟩
 refine ⟨y,_,I.rf (its':=its.eraseIdx k) hH e ?_ (r.eraseIdx k) ?_,rw',q⟩
 ·show its.toArray.eraseIdxIfInBounds k=(its.eraseIdx k).toArray
  rw [WD]
 ·have:=Kx xs k
  omega
def Be:R2:=fun x y H Q=>∃ l b xs zs,x=.ref l/\y=.ref b/\H l=some (.lst xs)/\H b=some (.lst zs)/\xs.length + zs.length<=sizeLine/\∀ p,H p=none->Q (.ref p) (upd H p (.lst (xs ++ zs)))
theorem wC:kz X (binaryOp .Add) Be:=by
 intro pins s σ H x y v u Q I rx ry h
 obtain ⟨l,b,xs,zs,rfl,rfl,hH,hB,hz,q⟩:=h
 cases rx
 cases ry
 obtain ⟨z,its,n,r,hl,e⟩:=I.oI hH
 obtain ⟨z2,its2,n2,r2,hl2,e2⟩:=I.oI hB
 refine PySem.P.add_list e e2 ?_ (by rw [Vu,Vu];omega)
 have ea:its.toArray ++ its2.toArray=(its ++ its2).toArray:=by simp
 rw [ea]
 exact ⟨.ref _,_,I.Bc (t':=s.toks) (r.append r2) (by rw [Vj];omega),rfl,q _ I.fresh⟩
def Bf:R2:=fun x y H Q=>∃ l k xs,x=.ref l/\y=.int k/\H l=some (.lst xs)/\-(2 ^ 63)<=k/\k < 2 ^ 63/\xs.length * k.toNat<=sizeLine /\
 ∀ p,H p=none->Q (.ref p) (upd H p (.lst (List.replicate k.toNat xs).flatten))
theorem N8 {α:Type} (xs:List α) (k:Nat):(List.replicate k xs).flatten.length=k * xs.length:=by
 induction k with
 | zero=>simp
 | succ k ih=>rw [V2,Wu,Vj,ih,Nat.succ_mul,Nat.add_comm]
theorem KA:kz X (binaryOp .Mult) Bf:=by
 intro pins s σ H x y v u Q I rx ry h
 obtain ⟨l,k,xs,rfl,rfl,hH,h1,h2,hz,q⟩:=h
 cases rx
 obtain ⟨t,rfl⟩:=ry
 obtain ⟨z,its,n,r,hl,e⟩:=I.oI hH
 have hlen:its.toArray.size * k.toNat<=sizeLine:=by rw [Vu,<- hl];exact hz
 have hcap:¬ its.toArray.size * k.toNat > (2 ^ 63 - 1) / 8:=by
  have:(sizeLine:Nat)<=(2 ^ 63 - 1) / 8:=by decide
  omega
 have hfit:¬ (!Builtin.List.listFitsIndex k)=true:=by
  rw [fitsIndex_both h1 h2]
  exact Vo
 have Bg:¬ Builtin.List.listTooLong (its.toArray.size * k.toNat)=true:=by
  rw [rg hlen]
  exact Vo
 have hnew:List.foldl (fun x1 x2=>x1 ++ x2) #[] (List.replicate (if its.toArray.isEmpty=true then 0 else k.toNat) its.toArray)=(List.replicate k.toNat its).flatten.toArray:=by
  have f0:∀ m:Nat,List.foldl (fun x1 x2=>x1 ++ x2) #[] (List.replicate m its.toArray)=(List.replicate m its).flatten.toArray:=fun m=>by
   have:=Ky its m []
   rw [List.nil_append] at this
   exact this
  rw [f0]
  cases its with
  | nil=>simp
  | cons a r'=>rw [if_neg (by simp)]
 refine wpAny_binaryOp_repeat_ref (T:="list") (U:="int") (by decide) ⟨_,e,rfl⟩ (fun s'=>typeIs_int s' k t) noFill_list_mul F.fills_int_mul F.slot_int_rmul repeat_list F.slot_int_index.lookup
  (call_meets F.slot_int_rmul (typeIs_int s k t) F.entry_int_rmul (F.args_int_rmul_2 _ _) (int___rmul___int_list k t l its.toArray n)
   ⟨e,rfl,⟨_,e,rfl⟩,call_meets F.slot_list_mul ⟨_,e,rfl⟩ F.entry_list_mul (F.args_list_mul_2 _ _) (AutoListH.list___mul___list_int_3 l its.toArray n k t hfit hcap Bg) ⟨e,?_⟩⟩)
 rw [hnew]
 exact ⟨.ref _,_,I.Bc (t':=s.toks) (r.rep k.toNat) (by rw [N8,Nat.mul_comm];exact hz),rfl,q _ I.fresh⟩
end
section
variable {prog:Program} {w:World} {A:Around} {E:Value->Shared->Prop} {s:Shared}
end
section
variable {X:Cx}
end
section
variable {κ:Type} [DecidableEq κ]
def kC (kvs:List (κ×V)) (k:κ):Option V:=(kvs.find? fun kv=>decide (kv.1=k)).map (·.2)
def putK (kvs:List (κ×V)) (k:κ) (v:V):List (κ×V) :=
 if (kvs.any fun kv=>decide (kv.1=k))=true then kvs.map (fun kv=>if kv.1=k then (kv.1,v) else kv) else kvs ++ [(k,v)]
theorem G8 {p:κ×V} {r:List (κ×V)} {k:κ} (e:p.1=k):kC (p :: r) k=some p.2:=by simp [kC,Wb,e]
theorem G9 {p:κ×V} {r:List (κ×V)} {k:κ} (e:¬ p.1=k):kC (p :: r) k=kC r k:=by simp [kC,Wb,e]
theorem KC (k:κ):∀ kvs:List (κ×V),(kvs.any fun kv=>decide (kv.1=k))=(kC kvs k).isSome
 | []=>rfl
 | p :: r=>by
  rw [V9]
  by_cases e:p.1=k
  ·simp only [G8 e,decide_eq_true e,Bool.true_or,Option.isSome_some]
  ·rw [G9 e,decide_eq_false e,Bool.false_or];exact KC k r
theorem KD (kvs:List (κ×V)) (k:κ) (v:V):(putK kvs k v).length<=kvs.length + 1:=by
 unfold putK
 split
 ·rw [Vd];omega
 ·rw [Vj,VJ,List.length_nil];omega
theorem ql.lF {o:Option V} {u:Option Value} (r:ql o u):o.isSome=u.isSome:=by
 cases o with
 | none=>cases u with
  | none=>rfl
  | some _=>exact (show False from r).elim
 | some _=>cases u with
  | none=>exact (show False from r).elim
  | some _=>rfl
theorem KV.val {kvs:List (κ×V)} {vs:List (κ×Value)} (r:KV kvs vs) (k:κ):ql (kC kvs k) (valueAt vs k):=by
 unfold KV at r
 induction r with
 | nil=>exact True.intro
 | @cons p q ps qs h t ih =>
  obtain ⟨h1,h2⟩:=h
  by_cases e:p.1=k
  ·have e':q.1=k:=h1.symm.trans e
   have b:valueAt (q :: qs) k=some q.2:=by simp [valueAt,Wb,e']
   rw [G8 e,b];exact h2
  ·have e':¬ q.1=k:=fun z=>e (h1.trans z)
   have b:valueAt (q :: qs) k=valueAt qs k:=by simp [valueAt,Wb,e']
   rw [G9 e,b];exact ih
theorem KV.any {kvs:List (κ×V)} {vs:List (κ×Value)} (r:KV kvs vs) (k:κ):(kvs.any fun kv=>decide (kv.1=k))=vs.any fun kv=>decide (kv.1=k):=by
 unfold KV at r
 induction r with
 | nil=>rfl
 | cons h t ih=>rw [V9,V9,ih,h.1]
theorem KV.repl {kvs:List (κ×V)} {vs:List (κ×Value)} (r:KV kvs vs) (k:κ) {y:V} {u:Value} (ry:RelV y u) :
  KV (kvs.map fun kv=>if kv.1=k then (kv.1,y) else kv) (vs.map fun kv=>if kv.1=k then (kv.1,u) else kv):=by
 unfold KV at r ⊢
 induction r with
 | nil=>exact .nil
 | @cons p q ps qs h t ih =>
  rw [Vy,Vy]
  refine .cons ?_ ih
  obtain ⟨h1,h2⟩:=h
  by_cases e:p.1=k
  ·rw [if_pos e,if_pos (h1.symm.trans e)];exact ⟨h1,ry⟩
  ·rw [if_neg e,if_neg (fun z=>e (h1.trans z))];exact ⟨h1,h2⟩
theorem KV.put {kvs:List (κ×V)} {vs:List (κ×Value)} (r:KV kvs vs) (k:κ) {y:V} {u:Value} (ry:RelV y u):KV (putK kvs k y) (stored vs k u):=by
 unfold putK stored
 rw [r.any k]
 by_cases e:(vs.any fun kv=>decide (kv.1=k))=true
 ·rw [if_pos e,if_pos e];exact r.repl k ry
 ·rw [if_neg e,if_neg e];exact Paired.snoc r ⟨rfl,ry⟩
theorem KV.length {kvs:List (κ×V)} {vs:List (κ×Value)} (r:KV kvs vs):kvs.length=vs.length:=Paired.length r
end
theorem Ha {P:Program} {w:World} {k:Key} {u:Value} (r:RelV (kV k) u):(cU P w).is k u=true:=by
 cases k with
 | inl i=>obtain ⟨t,e⟩:=(show ∃ t,u=Value.int i t from r);subst e;exact Nt P w i t
 | inr x=>obtain ⟨t,e⟩:=(show ∃ t,u=Value.str x t from r);subst e;exact Nu P w x t
theorem KG {P:Program} {w:World}:∀ {ks:List Key} {us:List Value},Vals (ks.map kV) us->ItemsAre (cU P w) ks us
 | [],_,r=>by rw [VT] at r;cases r;exact .nil
 | k :: ks,_,r=>by
  rw [Vy] at r
  cases r with
  | cons h t=>exact .cons (Ha h) (KG t)
abbrev KT (H:Hp):List (List Key×V)->List (List Key×Addr×Value)->Prop:=Paired fun p q=>p.1=q.1/\H q.2.1=some (.tup (p.1.map kV))/\RelV p.2 q.2.2
theorem KT.val {H:Hp} {kvs:List (List Key×V)} {xs:List (List Key×Addr×Value)} (r:KT H kvs xs) (k:List Key):ql (kC kvs k) ((atKey xs k).map (·.2)):=by
 induction r with
 | nil=>exact True.intro
 | @cons p q ps qs h t ih =>
  obtain ⟨h1,_,h2⟩:=h
  by_cases e:p.1=k
  ·have e':q.1=k:=h1.symm.trans e
   have b:atKey (q :: qs) k=some q.2:=by simp [atKey,Wb,e']
   rw [G8 e,b];exact h2
  ·have e':¬ q.1=k:=fun z=>e (h1.trans z)
   have b:atKey (q :: qs) k=atKey qs k:=by simp [atKey,Wb,e']
   rw [G9 e,b];exact ih
theorem KT.repl {H:Hp} {kvs:List (List Key×V)} {xs:List (List Key×Addr×Value)} (r:KT H kvs xs) (k:List Key) {y:V} {u:Value} (ry:RelV y u) :
  KT H (kvs.map fun kv=>if kv.1=k then (kv.1,y) else kv) (xs.map (putAt k u)):=by
 induction r with
 | nil=>exact .nil
 | @cons p q ps qs h t ih =>
  rw [Vy,Vy]
  refine .cons ?_ ih
  obtain ⟨h1,h2,h3⟩:=h
  unfold putAt
  by_cases e:p.1=k
  ·rw [if_pos e,if_pos (h1.symm.trans e)];exact ⟨h1,h2,ry⟩
  ·rw [if_neg e,if_neg (fun z=>e (h1.trans z))];exact ⟨h1,h2,h3⟩
theorem KT.put {H:Hp} {kvs:List (List Key×V)} {xs:List (List Key×Addr×Value)} (r:KT H kvs xs) (k:List Key) {b:Addr} {y:V} {u:Value} (hb:H b=some (.tup (k.map kV))) (ry:RelV y u) :
  KT H (putK kvs k y) (storedH xs k b u):=by
 have e:(kvs.any fun kv=>decide (kv.1=k))=(atKey xs k).isSome:=by
  rw [KC,(r.val k).lF,Option.isSome_map]
 unfold putK storedH
 rw [e]
 by_cases q:(atKey xs k).isSome=true
 ·rw [if_pos q,if_pos q];exact r.repl k ry
 ·rw [if_neg q,if_neg q];exact Paired.snoc r ⟨rfl,hb,ry⟩
theorem KT.keeps {H H':Hp} {kvs:List (List Key×V)} {xs:List (List Key×Addr×Value)} (r:KT H kvs xs) (ht:∀ b ys,H b=some (.tup ys)->H' b=some (.tup ys)):KT H' kvs xs :=
 Paired.vN r fun _ _ z=>⟨z.1,ht _ _ z.2.1,z.2.2⟩
section
variable {P:Program} {w:World} {H:Hp} {h:Heap} {a:Addr}
theorem uL {u:HO} (ok:kY P w H h) (e:Rd H a u):cy P w H h a u:=e.ok ok
theorem uM {kvs:List (Key×V)} (ok:kY P w H h) (e:Rd H a (.dK kvs)):kvs.length<=sizeLine/\(a == sysModules)=false/\∃ vs,KV kvs vs/\h.DictOf (cU P w) a vs :=
 show cy P w H h a (.dK kvs) from uL ok e
theorem Bh {kvs:List (Key×V)} (ok:kY P w H h) (e:H a=some (.dK kvs)):kvs.length<=sizeLine/\(a == sysModules)=false/\∃ vs,KV kvs vs/\h.DictOf (cU P w) a vs:=uM ok (.inl e)
theorem zt {ks:List Key} (ok:kY P w H h) (e:H a=some (.tup (ks.map kV))):(tupleKind (cU P w)).is h ks a:=by
 obtain ⟨_,its,r,o,h1,h2,_,n,h3⟩:=(show cy P w H h a (.tup (ks.map kV)) from ok a _ e)
 exact ⟨o,its.toArray,n,h1,h2,h3,by simpa using KG r⟩
theorem uN {kvs:List (List Key×V)} (ok:kY P w H h) (e:Rd H a (.dT kvs)):kvs.length<=sizeLine/\(a == sysModules)=false /\
  ∃ xs,KT H kvs xs/\h.DictOfH (tupleKind (cU P w)) a xs:=by
 obtain ⟨z,y,xs,r,o,es,ep,h1,h2,h3,h4,h5⟩:=(show cy P w H h a (.dT kvs) from uL ok e)
 refine ⟨z,y,xs,r,o,es,ep,h1,h2,h3,h4,fun x hx=>?_,h5⟩
 have all:∀ {l:List (List Key×V)} {m:List (List Key×Addr×Value)},KT H l m->∀ x∈m,(tupleKind (cU P w)).is h x.1 x.2.1:=by
  intro l m q
  induction q with
  | nil=>intro x hx;exact nomatch hx
  | @cons p q ps qs hq t ih =>
   intro x hx
   rcases VF.mp hx with e | hx
   ·subst e
    exact zt ok (by rw [<- hq.1];exact hq.2.1)
   ·exact ih x hx
 exact all r x hx
theorem Bi {kvs:List (List Key×V)} (ok:kY P w H h) (e:H a=some (.dT kvs)):kvs.length<=sizeLine/\(a == sysModules)=false /\
  ∃ xs,KT H kvs xs/\h.DictOfH (tupleKind (cU P w)) a xs:=uN ok (.inl e)
end
def rj (H:Hp) (a:Addr) (y:V) (r:Option V):Prop :=
 (∃ kvs k,Rd H a (.dK kvs)/\y=kV k/\r=kC kvs k)\/∃ kvs k b,Rd H a (.dT kvs)/\y=.ref b/\H b=some (.tup (k.map kV))/\r=kC kvs k
def rl (H:Hp) (a:Addr) (y v:V) (H':Hp):Prop :=
 (∃ kvs k,H a=some (.dK kvs)/\y=kV k/\kvs.length < sizeLine/\H'=upd H a (.dK (putK kvs k v))) \/
 ∃ kvs k b,H a=some (.dT kvs)/\y=.ref b/\H b=some (.tup (k.map kV))/\kvs.length < sizeLine/\H'=upd H a (.dT (putK kvs k v))
theorem rj.k {H:Hp} {a:Addr} {kvs:List (Key×V)} {k:Key} (e:H a=some (.dK kvs)):rj H a (kV k) (kC kvs k):=.inl ⟨kvs,k,.inl e,rfl,rfl⟩
theorem rl.k {H:Hp} {a:Addr} {kvs:List (Key×V)} {k:Key} {v:V} (e:H a=some (.dK kvs)) (hl:kvs.length < sizeLine):rl H a (kV k) v (upd H a (.dK (putK kvs k v))):=.inl ⟨kvs,k,e,rfl,hl,rfl⟩
section
variable {X:Cx} {pins:List (Addr×Obj)} {σ:St} {H:Hp} {s:Shared} {a:Addr} {y v:V} {u r:Value} {o:Option V} {A:Around} {E:Value->Shared->Prop}
theorem Inv.big (I:Inv X pins σ H s):sysModules < s.heap.objs.size:=by
 have h:mainGlobals < s.heap.objs.size:=(I.mod.glob.keeps I.bk).lt
 exact Xr (by decide) h
theorem N9 {Q:Value->Shared->Prop} (hu:A.units + 1 < cLine) (I:Inv X pins σ H s) (g:rj H a y o) (ry:RelV y u) (h:∀ s',Inv X pins σ H s'->Q (.bool (!o.isSome)) s') :
  wpAny (model X.prog X.w) A (compareOp .NotIn u (.ref a)) Q E s:=by
 rcases g with ⟨kvs,k,e,ey,l⟩ | ⟨kvs,k,b,e,ey,eb,l⟩
 ·subst ey
  obtain ⟨z,hd,vs,rel,dd⟩:=uM I.hok e
  refine wpAny_notIn_of (Ha ry) hd dd.mapOf ?_
  rw [<- (rel.val k).lF,<- l]
  exact h _ (I.tok _)
 ·subst ey
  cases (show u=Value.ref b from ry)
  obtain ⟨z,hd,xs,rel,dd⟩:=uN I.hok e
  refine wpAny_notIn_heap (tupleKind_room_in1 hu) (zt I.hok eb) hd dd ?_
  have q:=(rel.val k).lF
  rw [Option.isSome_map] at q
  rw [<- q,<- l]
  exact h _ (I.tok _)
theorem KH {h':Heap} {t':Nat} {ob:HO} (I:Inv X pins σ H s) (mu:Au (H a)) (hs:Heap.SameBut a s.heap h') (he:∃ q,h'.get? a=some q) (new:cy X.prog X.w (upd H a ob) h' a ob) :
  Inv X pins σ (upd H a ob) { s with heap:=h',toks:=t' } :=
 I.write (x:=a) (e:=a) mu (.inl rfl) (fun b q hb z=>(hs.2 b hb).trans z) he new
theorem wG {P:Program} {w:World} {H':Hp} {h':Heap} {kvs:List (Key×V)} {vs:List (Key×Value)} (z:kvs.length<=sizeLine) (hd:(a == sysModules)=false) (rel:KV kvs vs) (dd:h'.DictOf (cU P w) a vs) :
  cy P w H' h' a (.dK kvs):=⟨z,hd,vs,rel,dd⟩
theorem Oa {H':Hp} {Q:Unit->Shared->Prop} (hu:A.units + 1 < cLine) (I:Inv X pins σ H s) (g:rl H a y v H') (ry:RelV y u) (rv:RelV v r) (h:∀ s',Inv X pins σ H' s'->Q () s') :
  wpAny (model X.prog X.w) A (setItem (.ref a) u r) Q E s:=by
 rcases g with ⟨kvs,k,e,ey,l,eH⟩ | ⟨kvs,k,b,e,ey,eb,l,eH⟩
 ·subst ey eH
  obtain ⟨z,hd,vs,rel,dd⟩:=Bh I.hok e
  have hz:vs.length<=sizeLine:=by rw [<- rel.length];exact z
  have hl:(putK kvs k v).length<=sizeLine:=by have:=KD kvs k v;omega
  refine wpAny_setItem_pairs (hsz:=hz) (Ha ry) dd fun h' El hs=>h _ ?_
  have he:∃ q,h'.get? a=some q:=let ⟨q,_,_,hq,_⟩:=El;⟨q,hq⟩
  exact KH I (by rw [e];exact True.intro) hs he (wG hl hd (rel.put k rv) El)
 ·subst ey eH
  cases (show u=Value.ref b from ry)
  obtain ⟨z,hd,xs,rel,dd⟩:=Bi I.hok e
  have hz:xs.length<=sizeLine:=by rw [<- Paired.length rel];exact z
  have hl:(putK kvs k v).length<=sizeLine:=by have:=KD kvs k v;omega
  refine wpAny_setItem_heap (hsz:=hz) (tupleKind_room_in1 hu) (zt I.hok eb) dd fun h' El hs=>h _ ?_
  obtain ⟨q,es,ep,hq,h2,h3,h4,_,h5⟩:=El
  refine KH I (by rw [e];exact True.intro) hs ⟨q,hq⟩ ⟨hl,hd,_,(rel.put k eb rv).keeps fun c ys ec=>?_,q,es,ep,hq,h2,h3,h4,h5⟩
  rw [jZ (GF ec e (fun z=>nomatch z))]
  exact ec
end
section
variable {X:Cx} {pins:List (Addr×Obj)} {σ:St} {H:Hp} {s:Shared} {a:Addr} {kvs:List (Key×V)} {k:Key} {u:Value} {A:Around} {E:Value->Shared->Prop}
end
def pV (ty td:TE):TE:=fun σ H Q=>ty σ H fun y H1=>td σ H1 fun x H2=>∃ a o,x=.ref a/\rj H2 a y o/\Q (.bl (!o.isSome)) H2
def uO (td ty tv:TE):TS:=fun D σ H=>tv σ H fun v H1=>td σ H1 fun x H2=>ty σ H2 fun y H3=>∃ a H4,x=.ref a/\rl H3 a y v H4/\D.nx σ H4
section
variable {X:Cx} {o i e value:Expr} {pos pos' tpos:Pos} {td ty tv:TE}
theorem Ob (hu:X.A.units + 1 < cLine) (hi:PE X i ty) (ho:PE X o td):PC X .NotIn i o (pV ty td):=by
 intro pins s σ H Q I h
 refine cN (hi pins s σ H _ I h) fun iv s1 ⟨y,H1,I1,ry,q1⟩=>cN (ho pins s1 σ H1 _ I1 q1) fun u s2 ⟨x,H2,I2,rx,a,ov,ex,g,q2⟩=>?_
 subst ex
 obtain rfl:u=Value.ref a:=rx
 exact N9 hu I2 g ry fun s3 I3=>⟨.bl (!ov.isSome),H2,I3,rfl,q2⟩
theorem Oc (hu:X.A.units + 1 < cLine) (ho:PE X o td) (hi:PE X i ty) (hv:PE X value tv) (hs:swapsWith value (some (.Subscript o i pos')) pos.line X.env=pure false) :
  PS X (.Assign [.Subscript o i pos'] value pos) (uO td ty tv):=by
 intro pins s σ H D I h
 refine wpAny_Assign_Subscript (cN (hv pins s σ H _ I h) fun r s1 ⟨v,H1,I1,rv,q1⟩=>cN (ho pins s1 σ H1 _ I1 q1) fun u s2 ⟨x,H2,I2,rx,q2⟩=>cN (hi pins s2 σ H2 _ I2 q2) fun iv s3 ⟨y,H3,I3,ry,a,H4,ex,g,q3⟩=>?_) hs
 subst ex
 obtain rfl:u=Value.ref a:=rx
 exact Oa hu I3 g ry rv fun s4 I4=>⟨σ,H4,I4,q3⟩
end
theorem Oe {P:Program} {w:World} {H:Hp} (h:Heap) (hb:sysModules < h.objs.size):cy P w H (h.push { cls:=.type "dict",data:=.dict #[] }) h.objs.size (.dK []) :=
 ⟨VW _,beq_eq_false_iff_ne.mpr (Ne.symm (VZ hb)),[],.nil,Heap.DictOf.new h⟩
def rm:TE:=fun _ H Q=>∀ p,H p=none->Q (.ref p) (upd H p (.dK []))
section
variable {X:Cx} {pos:Pos}
theorem Og:PE X (.Dict [] [] pos) rm:=fun pins s σ H Q I h =>
 wpAny_Dict_empty ⟨.ref s.heap.objs.size,_,I.laid (a:=s.heap.objs.size) (o:=.dK []) (t':=s.toks) (fun _ _ q=>Vw _ q) (Vh _) (Oe s.heap I.big),rfl,h _ (I.hok.fresh (Vh _))⟩
end
section
variable {X:Cx} {pins:List (Addr×Obj)} {σ:St} {H:Hp} {s:Shared} {a:Addr} {y d:V} {u r:Value} {o:Option V} {A:Around} {E:Value->Shared->Prop}
end
section
variable {X:Cx} {o e f:Expr} {apos cpos:Pos} {td ty tx:TE}
end
section
variable {X:Cx} {pins:List (Addr×Obj)} {σ:St} {H:Hp} {s:Shared} {a:Addr} {kvs:List (Key×V)} {A:Around} {E:Value->Shared->Prop}
end
section
variable {X:Cx} {pins:List (Addr×Obj)} {σ:St} {H:Hp} {s:Shared} {a:Addr} {y:V} {u:Value} {A:Around} {E:Value->Shared->Prop}
end
end L2
namespace KI
open PySem PySem.W PySem.Calls PyProof.Rows
theorem Oh {P:Params} {h:Heap}:∀ (ns:List Int) (vs:List Value),WellAll P h vs (ns.map WData.int)->IntsAre vs ns:=by
 intro ns
 induction ns with
 | nil =>
  intro vs w
  rw [VT] at w
  cases w
  exact .nil
 | cons n ns ih =>
  intro vs w
  rw [Vy] at w
  cases w with
  | cons a b =>
   cases a
   exact .cons _ _ (ih _ b)
theorem Oi {l:OpenLaw} {n:Nat} (hn:l.most=some n) {P:Params} {h:Heap} {args:List WData} {vals:List Value}
  (hpre:l.row.toRowW.claim.pre args=true) (hwl:WellAll P h vals args) :
  ∃ a vs ns,vals=[Value.ref a]/\args=[WData.list (ns.map WData.int)]/\h.get? a=some { cls:=.type "list",data:=.seq vs.toArray }/\IntsAre vs ns/\ns.length<=n:=by
 have hsh:WShape.hasAll [] args [.list .int]=true:=(pre_splitW hpre).1
 have hc:l.pre.holds [] { args:=args }=true:=(pre_splitW hpre).2
 obtain ⟨d,r,rfl,h1,h2⟩:=hasAllW_cons hsh
 obtain rfl:=hasAllW_nil h2
 obtain ⟨xs,rfl,h3⟩:=hasW_list h1
 obtain ⟨ns,rfl⟩:=items_int h3
 have hlen:ns.length<=n:=by
  unfold OpenLaw.pre at hc
  have h4:(WTm.not (.lt (.lit (.int (n:Int))) (.len (.arg 0)))).holds [] { args:=[.list (ns.map .int)] }=true:=by
   have h4:=(holds_andW hc).1
   rw [hn] at h4
   exact h4
  have h5:=condW_of h4 (w_not (w_lt w_lit (w_len_list (w_arg rfl))))
  rw [Vd] at h5
  refine Xa fun q=>?_
  have q':(n:Int) < ((ns.length:Nat):Int):=by omega
  first
   | (rw [decide_eq_true q'] at h5;exact absurd h5 (by decide))
   | (simp at h5;omega)
 cases hwl with
 | cons w1 w2 =>
  cases w2
  cases w1 with
  | list ho hall=>exact ⟨_,_,ns,rfl,rfl,ho,Oh ns _ hall,hlen⟩
theorem Oj (l:OpenLaw) (args:List WData):l.row.toRowW.claim.post args (.bool true) args=true :=
 postW_of (r:=l.row.toRowW) (X:=(true == true))
  (show WShape.has [] (.bool true) .bool=true by first | rfl | decide | simp [WShape.has,WShape.arms,WShape.armsAll])
  (show (WTm.eq .res (.lit (.bool true))).value [] { args:=args,res:=some (.bool true),after:=args }=some (.bool (true == true)) from w_eq_bool (w_res rfl) w_lit) rfl
theorem Ol {l:OpenLaw} {n:Nat} {q:Program} {loose:List Str} {XP:(Str->Option Value)->Heap->Prop} {YP:World->Heap->Prop} {d:DefRec}
  (hn:l.most=some n) (hdf:d.params.defaults=[])
  (call:∀ (w:World) (s₀ s₁:Shared) (mg mb:Str->Option Value) (fa:Addr) (o:Obj) (pm cd doc:Value) (a:Addr) (vs:List Value) (ns:List Int),
   Ground q loose [] XP w s₀ mg mb s₁.heap->YP w s₁.heap ->
   s₁.heap.get? fa=some o->o.data=.func (docDef d.name d.params d.body d.scope pm cd doc)->s₁.heap.CodeRec cd d.name->mg d.name=some (.ref fa) ->
   s₁.heap.get? a=some { cls:=.type "list",data:=.seq vs.toArray }->IntsAre vs ns->ns.length<=n->s₁.gens=#[] ->
   codeAny (model l.prog w) callerA (.call (.ref fa) ⟨[.ref a],[]⟩) (fun r s'=>r=.ok (.ret (.bool true))/\OldK s₁.heap s'.heap/\s'.os=s₁.os/\AllBare s'.gens) s₁) :
  WalkO q loose XP YP l.row.toRowW d [] (fun f vs=>PySem.call f vs):=by
 intro w s₀ s₁ mg mb G Y fa o pm cd doc dV kV ho hd hcd hD hmg hg args vals as hpre hlay hrd hwl hlo
 obtain rfl:dV=.none:=Dflts.none hD hdf
 obtain rfl:kV=.none:=Dflts.noKw hD
 obtain ⟨a,vs,ns,rfl,rfl,hobj,hints,hlen⟩:=Oi hn hpre hwl
 refine enter_call (codeAny_mono (call w s₀ s₁ mg mb fa o pm cd doc a vs ns G Y ho (fd_plain hd) hcd hmg hobj hints hlen hg) fun r s' hq=>?_)
 obtain ⟨rfl,h2,h3,h4⟩:=hq
 exact ⟨.inl ⟨.bool true,.bool true,[],rfl,fun _=>rfl,.bool true,Oj l _,fun _=>⟨List.Pairwise.nil,fun _ hm=>(nomatch hm)⟩⟩,h2,h3,h4⟩
section
variable {prog:Program} {w:World} {A:Around} {E:Value->Shared->Prop} {s:Shared} {K:Frag}
end
end KI
namespace L2
open PySem PySem.Spec PyProof.Rows
theorem KJ:∀ {vs:List Value} {ns:List Int},IntsAre vs ns->Vals (ns.map V.int) vs
 | _,_,.nil=>.nil
 | _,_,.cons n t h=>.cons ⟨t,rfl⟩ (KJ h)
def Only (H:Hp):Prop:=∀ b,H b=none\/∃ o xs,H b=some (.ml o (.lst xs))
theorem Om {P:Program} {w:World} {K:Zfr} {mg mb:Str->Option Value} {CX:pP} {k:Nat} {fa a:Addr} {fd:FuncData} {x:Str} {sp:Sp} {s₁:Shared} {vs:List Value} {ns:List Int}
  (KX:K.In s₁.heap) (hns:s₁.heap.Ns mainGlobals mg) (hb:s₁.heap.Ns builtinsNs mb) (Oo:∀ x:Str,x≠"__name__" -> mb x=bootBuiltins x) (hlim:s₁.heap.NoLimit) (hg:s₁.gens=#[])
  (ha:s₁.heap.get? a=some { cls:=.type "list",data:=.seq vs.toArray }) (hi:IntsAre vs ns) (hl:ns.length<=sizeLine) (hr:gB k callerA)
  (F:∀ base:Heap,K.In base->base.Ns mainGlobals mg->aI P w K mg base CX k fa fd [x] sp) (hbind:∀ (s:Shared) (u:Value),BindsTo s fd ⟨[u],[]⟩ [(x,u)])
  (qL:∀ H:Hp,Only H->j3 K H a (ns.map V.int)->sp [.ref a] H (fun v _=>v=.bl true) fun _ _ _=>False)
  (Bj:∀ H e s',CX [] H s₁ (fun _ _ _=>False) e s'->False) :
  codeAny (model P w) callerA (.call (.ref fa) ⟨[.ref a],[]⟩) (fun r s'=>r=.ok (.ret (.bool true))/\OldK s₁.heap s'.heap/\s'.os=s₁.os/\AllBare s'.gens) s₁:=by
 have rv:=KJ hi
 have Hb:=hi.length
 have core:∀ H:Hp,Only H->j3 K H a (ns.map V.int)->kY P w H s₁.heap->(∀ b,H b≠none->b=a)->(H a≠none->K.lookup a=none) ->
   codeAny (model P w) callerA (.call (.ref fa) ⟨[.ref a],[]⟩) (fun r s'=>r=.ok (.ret (.bool true))/\OldK s₁.heap s'.heap/\s'.os=s₁.os/\AllBare s'.gens) s₁:=by
  intro H hO hS hok hA hK
  have pW:∀ {b:Addr} {o:Obj},s₁.heap.get? b=some o->H b=none->(nJ s₁.heap H).get? b=some o:=fun e n=>Ny e n
  have A5:∀ {b:Addr} {o:Obj} {es:Array DictEntry} {ep:Nat},s₁.heap.get? b=some o->o.data=.dict es ep->H b=none:=fun {b o es ep} e d=>by
   cases q:H b with
   | none=>rfl
   | some u =>
    have e':b=a:=hA b (by rw [q];simp)
    subst e'
    rw [ha] at e;cases e
    have d':Data.seq vs.toArray _=Data.dict es ep:=d
    cases d'
  have Em:∀ {b:Addr} {m:Str->Option Value},s₁.heap.Ns b m->(nJ s₁.heap H).Ns b m:=fun {b m} ⟨o,es,ep,e,d,r⟩=>⟨o,es,ep,pW e (A5 e d),d,r⟩
  have KL:K.In (nJ s₁.heap H):=fun b o e=>pW (KX b o e) (by
   cases q:H b with
   | none=>rfl
   | some u =>
    have e':b=a:=hA b (by rw [q];simp)
    subst e'
    rw [hK (by rw [q];simp)] at e;cases e)
  have hM:Mod K mg (nJ s₁.heap H):=⟨KL,Em hns,⟨mb,Em hb,Oo⟩,let ⟨mc,h1,h2⟩:=hlim;⟨mc,Em h1,h2⟩⟩
  have e0:tw P w K mg (nJ s₁.heap H) callerA [] s₁ H:=⟨rfl,hM,fun b o e=>Nz e,Nat.le_of_eq (Nw _ _),trivial,fun b hb=>absurd (show b∈([]:List Addr) from hb) (by simp),hok,.of_eq hg⟩
  refine codeAny_mono ((F _ KL (Em hns)).run callerA [] s₁ H ⟨[.ref a],[]⟩ [.ref a] [.ref a] _ _ hr e0 (hbind s₁ (.ref a)) (.cons rfl .nil) (qL H hO hS)) fun r s' h=>?_
  cases r with
  | error e=>exact (Bj H e s' h).elim
  | ok fl =>
   cases fl with
   | next=>exact False.elim h
   | brk=>exact False.elim h
   | cont=>exact False.elim h
   | ret u =>
    obtain ⟨v,H',os,bare,un,Hc,r',q⟩:=h
    have q':v=.bl true:=q
    subst q'
    obtain rfl:u=Value.bool true:=r'
    refine ⟨rfl,OldK.of_keep fun b o e=>?_,os,bare⟩
    cases q:H b with
    | none=>exact un.keep b o e q (by intro z;exact absurd (show b∈([]:List Addr) from z) (by simp)) (by simp)
    | some u =>
     rcases hO b with z | ⟨ob,xs,z⟩
     ·rw [q] at z;cases z
     ·have z2:=un.nI b ob _ z
      obtain ⟨e1,_⟩:=hok b _ z
      obtain ⟨e2,_⟩:=Hc b _ z2
      rw [e] at e1;cases e1
      exact e2
 cases hk:K.lookup a with
 | some o =>
  have e:=KX a o hk
  rw [ha] at e
  cases e
  refine core (fun _=>none) (fun _=>.inl rfl) (.inr ⟨_,vs.toArray,_,hk,rfl,rfl,rfl,by rw [Vu,Hb];exact hl,by simpa using rv⟩) (fun b u z=>by have z':(none:Option HO)=some u:=z;cases z') (fun b z=>absurd rfl z) fun z=>absurd rfl z
 | none =>
  refine core (fun b=>if b=a then some (.ml { cls:=.type "list",data:=.seq vs.toArray } (.lst (ns.map V.int))) else none) (fun b=>?_) (.inl (.inr ⟨{ cls:=.type "list",data:=.seq vs.toArray },if_pos rfl⟩)) (fun b u z=>?_) (fun b z=>?_) fun _=>hk
  ·by_cases hb:b=a
   ·exact .inr ⟨_,_,if_pos hb⟩
   ·exact .inl (if_neg hb)
  ·by_cases hb:b=a
   ·have z':=(if_pos hb).symm.trans z
    cases z'
    subst hb
    exact ⟨ha,by rw [Vd];exact hl,vs,_,rv,ha⟩
   ·have z':=(if_neg hb).symm.trans z
    cases z'
  ·by_cases hb:b=a
   ·exact hb
   ·exact absurd (if_neg hb) z
abbrev KOf {K:Zfr} {h:Heap} (_:K.In h):Zfr:=K
theorem Oq {l:PySem.W.OpenLaw} {n k:Nat} {q:Program} {loose:List Str} {XP:(Str->Option Value)->Heap->Prop} {YP:World->Heap->Prop} {d:DefRec} {K:Params->Zfr} {CX:World->pP} {sp:World->Sp} {x:Str}
  (hn:l.most=some n) (hn2:n<=sizeLine) (hdf:d.params.defaults=[]) (hr:gB k callerA)
  (hY:∀ (w:World) (h:Heap),YP w h->(K w.params).In h)
  (F:∀ (w:World) (mg:Str->Option Value) (fa:Addr) (h:Heap),(K w.params).In h->h.Ns mainGlobals mg->mg d.name=some (.ref fa) ->
   ∃ fd:FuncData,(∀ (s:Shared) (u:Value),BindsTo s fd ⟨[u],[]⟩ [(x,u)]) /\
    ∀ base:Heap,(K w.params).In base->base.Ns mainGlobals mg->aI l.prog w (K w.params) mg base (CX w) k fa fd [x] (sp w))
  (qL:∀ (w:World) (H:Hp) (a:Addr) (ns:List Int),ns.length<=n->Only H->j3 (K w.params) H a (ns.map V.int)->sp w [.ref a] H (fun v _=>v=.bl true) fun _ _ _=>False)
  (Bj:∀ (w:World) (H:Hp) (s:Shared) (e:Value) (s':Shared),CX w [] H s (fun _ _ _=>False) e s'->False) :
  PySem.W.WalkO q loose XP YP l.row.toRowW d [] (fun f vs=>PySem.call f vs):=by
 refine KI.Ol hn hdf fun w s₀ s₁ mg mb fa o pm cd doc a vs ns G Y ho hd hcd hmg hobj hints hlen hg=>?_
 have KX:=hY w _ Y
 obtain ⟨fd,hb,hF⟩:=F w mg fa _ KX G.T.g hmg
 exact Om KX G.T.g G.T.b G.T.builtins G.T.nolimit hg hobj hints (VL hlen hn2) hr hF hb (fun H hO hS=>qL w H a ns hlen hO hS) fun H e s'=>Bj w H s₁ e s'
theorem Ot {l:PySem.W.OpenLaw} {n k:Nat} {q:Program} {loose:List Str} {XP:(Str->Option Value)->Heap->Prop} {YP:World->Heap->Prop} {d:DefRec} {K:Params->Zfr} {CX:pP} {sp:Zfr->Sp} {x:Str}
  (hn:l.most=some n) (hn2:n<=sizeLine) (hdf:d.params.defaults=[]) (hr:gB k callerA)
  (hY:∀ (w:World) (h:Heap),YP w h->(K w.params).In h)
  (F:∀ (w:World) (mg:Str->Option Value) (fa:Addr) (h:Heap),(K w.params).In h->h.Ns mainGlobals mg->mg d.name=some (.ref fa) ->
   ∃ fd:FuncData,(∀ (s:Shared) (u:Value),BindsTo s fd ⟨[u],[]⟩ [(x,u)]) /\
    ∀ base:Heap,(K w.params).In base->base.Ns mainGlobals mg->aI l.prog w (K w.params) mg base CX k fa fd [x] (sp (K w.params)))
  (qL:∀ (K:Zfr) (H:Hp) (a:Addr) (ns:List Int),ns.length<=n->Only H->j3 K H a (ns.map V.int)->sp K [.ref a] H (fun v _=>v=.bl true) fun _ _ _=>False)
  (Bj:∀ (H:Hp) (s:Shared) (e:Value) (s':Shared),CX [] H s (fun _ _ _=>False) e s'->False) :
  PySem.W.WalkO q loose XP YP l.row.toRowW d [] (fun f vs=>PySem.call f vs) :=
 Oq (K:=K) (CX:=fun _=>CX) (sp:=fun w=>sp (K w.params)) hn hn2 hdf hr hY F (fun w H a ns h1 h2 h3=>qL (K w.params) H a ns h1 h2 h3) fun _ H s e s'=>Bj H s e s'
def fB (s:Stmt):Arguments:=match s with
 | .FunctionDef _ a _ _ _ _ _ _ _ _=>a
 | _=>{ posonlyargs:=[],args:=[],vararg:=none,kwonlyargs:=[],kw_defaults:=[],kwarg:=none,defaults:=[] }
def dP (s:Stmt):List Stmt:=match s with
 | .FunctionDef _ _ b _ _ _ _ _ _ _=>b
 | _=>[]
def av (s:Stmt):Scope:=match s with
 | .FunctionDef _ _ _ _ _ _ sc _ _ _=>sc
 | _=>{ kind:=.function,names:=[],isGenerator:=false,isCoroutine:=false }
abbrev bH:pP:=fun _ _ _ _ _ _=>False
abbrev E0:XK:=fun _ _ _=>False
theorem uP {X:Cx}:Passes bH X E0:=fun _ _ _ _ _ _ _ h=>h.elim
structure En (K:Zfr) (x qual:Str) (st:Stmt) (f:Addr) (fd:FuncData):Prop where
 ex:∃ (oc:Value) (od:Option Addr) (kV doc pm:Value) (an:Option Addr) (cdv ct:Value) (osl:Array (Option Value)),
  fd=PySem.W.fnOf x qual (fB st) (dP st) (av st) .none kV doc pm an cdv ct/\K.lookup f=some ⟨oc,od,.func fd,osl⟩/\PySem.W.codeIn K cdv qual=true
 kp:PySem.W.keepIn K (.ref f)=true
section
variable {P:Program} {w:World} {K:Zfr} {mg:Str->Option Value} {base:Heap}
theorem En.ok {x qual:Str} {st:Stmt} {f:Addr} {fd:FuncData} {N ps:List Str} {k:Nat} {sp:Sp} (F:En K x qual st f fd) (S:aL N ps (av st)) (len:∀ vs H Q E,sp vs H Q E->vs.length=ps.length)
  (hbody:∀ (cdv:Value) (A:Around) (outer:List Env) (s:Shared) (H:Hp) (vs:List V) (Q:VK) (E:XK),gB k (A.deeper (envOfC qual (av st) s.heap.objs.size f cdv))->sp vs H Q E ->
   ∃ t,pL (eV bH P w K mg base N qual (av st) f cdv A outer s H E).lU (dP st) t/\t { nx:=fun _ H'=>Q .non H',rt:=Q } (start N vs) H):aI P w K mg base bH (k + 1) f fd ps sp:=by
 obtain ⟨oc,od,kV,doc,pm,an,cdv,ct,osl,rfl,lk,hcd⟩:=F.ex
 refine uF lk hcd S len fun A outer s H vs Q E hr qL=>?_
 obtain ⟨t,h,q⟩:=hbody cdv A outer s H vs Q E hr qL
 exact ⟨t,h.lU,q⟩
theorem wH {x qual:Str} {st:Stmt} {f:Addr} {oc:Value} {od an:Option Addr} {osl:Array (Option Value)} {kV doc pm cdv ct:Value} (l:K.lookup f=some ⟨oc,od,.func (PySem.W.fnOf x qual (fB st) (dP st) (av st) .none kV doc pm an cdv ct),osl⟩)
  (c:PySem.W.codeIn K cdv qual=true) (k:PySem.W.keepIn K (.ref f)=true):En K x qual st f (PySem.W.fnOf x qual (fB st) (dP st) (av st) .none kV doc pm an cdv ct):=⟨⟨oc,od,kV,doc,pm,an,cdv,ct,osl,rfl,l,c⟩,k⟩
end
theorem Bk {A:Around} {k:Nat} (hr:gB k A):A.units + 1 < cLine:=V7 (Nat.add_le_add_left (by decide:1<=64) _) hr.units
section
variable {X:Cx}
theorem pv (i:Nat) {x:Str} {pos:Pos} (hN:X.N[i]?=some x:=by rfl) (hv:GI X.env.scope x:=by first | exact Or.inl rfl | exact Or.inr (Or.inl rfl) | exact Or.inr (Or.inr rfl)) (hd:(x == ("__debug__" : Str))=false:=by decide)
  (hcd:(x == ("__classdict__" : Str))=false:=by decide):PE X (.Name x pos) (vR i):=vS hN hv hd hcd
end
theorem qq {A B:Prop} (h:B):if false=true then A else B:=by
 rw [if_neg Vo]
 exact h
theorem qr {A B:Prop} (h:A):if true=true then A else B:=by
 rw [if_pos rfl]
 exact h
def jA (H H':Hp):Prop:=∀ b o,H b=some o->H' b=some o
theorem jA.refl (H:Hp):jA H H:=fun _ _ h=>h
section
variable {X:Cx}
end
section
variable {κ:Type} [DecidableEq κ]
end
theorem iA:bootBuiltins "len" = some (.builtin "len"):=by decide +kernel
theorem wI:bootBuiltins "int" = some (.type "int"):=by decide +kernel
theorem Ou:bootBuiltins "bool" = some (.type "bool"):=by decide +kernel
theorem ph:bootBuiltins "list" = some (.type "list"):=by decide +kernel
theorem mx:bootBuiltins "tuple" = some (.type "tuple"):=by decide +kernel
theorem sy:bootBuiltins "range" = some (.type "range"):=by decide +kernel
theorem Ov:bootBuiltins "isinstance" = some (.builtin "isinstance"):=by decide +kernel
theorem Hd:bootBuiltins "max" = some (.builtin "max"):=by decide +kernel
theorem He:bootBuiltins "min" = some (.builtin "min"):=by decide +kernel
structure Kp (ch:List Addr) (H H':Hp):Prop where
 keep:∀ b o,H b=some o->b ∉ ch->H' b=some o
 tup:∀ b xs,H b=some (.tup xs)->H' b=some (.tup xs)
 ml:∀ b o u,H b=some (.ml o u)->H' b=some (.ml o u)
section
variable {ch:List Addr} {H H1 H2:Hp} {a l p:Addr} {o:HO} {xs ys:List V} {K:Zfr}
theorem Kp.refl:Kp ch H H:=⟨fun _ _ h _=>h,fun _ _ h=>h,fun _ _ _ h=>h⟩
theorem Kp.of_same (h:jA H H1):Kp ch H H1:=⟨fun b o e _=>h b o e,fun b xs e=>h b _ e,fun b o u e=>h b _ e⟩
theorem Kp.put (h:Kp ch H H1) (ha:a∈ch) (e:H1 a=some (.lst xs)):Kp ch H (upd H1 a o) :=
 ⟨fun b u q n=>by rw [jZ (fun z=>n (by rw [z];exact ha))];exact h.keep b u q n,
   fun b u q=>by
  have r:=h.tup b u q
  rw [jZ (GF r e (by intro z;cases z))];exact r,
   fun b u v q=>by
  have r:=h.ml b u v q
  rw [jZ (GF r e (by intro z;cases z))];exact r⟩
theorem Kp.Hf (h:Kp ch H H1) (q:ft K H a xs):ft K H1 a xs:=by
 rcases q with (q | ⟨o,q⟩) | q
 ·exact .inl (.inl (h.tup a xs q))
 ·exact .inl (.inr ⟨o,h.ml a o _ q⟩)
 ·exact .inr q
def Bl (K:Zfr) (H:Hp) (a:Addr) (xs:List V):Prop :=
 (∃ o,H a=some (.ml o (.lst xs))) \/
  ∃ (o:Obj) (its:Array Value) (n:Nat),K.lookup a=some o/\o.cls=.type "list" /\ o.dict=none/\o.data=.seq its n/\its.size<=sizeLine/\Vals xs its.toList
theorem Bl.sq (h:Bl K H a xs):j3 K H a xs:=h.elim (fun ⟨o,e⟩=>.inl (.inr ⟨o,e⟩)) .inr
theorem j3.script (hO:Only H) (q:j3 K H a xs):Bl K H a xs:=by
 rcases q with (q | ⟨o,q⟩) | q
 ·rcases hO a with e | ⟨o,ys,e⟩
  ·rw [e] at q;cases q
  ·rw [e] at q;cases q
 ·exact .inl ⟨o,q⟩
 ·exact .inr q
theorem jA.up (h:H p=none):jA H (upd H p o):=fun b u e=>by rw [jZ (zf e h)];exact e
end
def pj (K:Zfr) (H:Hp) (xs:List V) (Q:VK):Prop:=∀ p H',ft K H' p xs->jA H H'->Q (.ref p) H'
section
variable {X:Cx}
theorem pj.new {K:Zfr} {H:Hp} {xs:List V} {Q:VK} (h:pj K H xs Q):∀ p,H p=none->Q (.ref p) (upd H p (.tup xs)):=fun p hp=>h p _ (ft.of qI) (jA.up hp)
theorem pj.it {K:Zfr} {H:Hp} {xs:List V} {Q:VK} {a:Addr} (h:pj K H xs Q) (q:ft K H a xs):Q (.ref a) H:=h a H q (jA.refl H)
def rn (K:Zfr):R2:=fun x y H Q=>∃ a b xs ys,x=.ref a/\y=.ref b/\ft K H a xs/\ft K H b ys/\xs.length + ys.length<=sizeLine/\pj K H (xs ++ ys) Q
theorem wJ:kz X (binaryOp .Add) (rn X.K):=by
 intro pins s σ H x y v u Q I rx ry h
 obtain ⟨a,b,xs,ys,rfl,rfl,ha,hb,hz,q⟩:=h
 by_cases hx:xs=[]
 ·subst hx
  cases rx
  cases ry
  obtain ⟨its,r1,p1,_⟩:=I.tuple ha
  obtain ⟨its2,r2,p2,_⟩:=I.tuple hb
  have e:its=[]:=r1.l9.mpr rfl
  subst e
  obtain ⟨⟨cls,dd,data,sl⟩,ho,hc,n,hd⟩:=id p1
  obtain ⟨⟨GY,dd2,data2,sl2⟩,ho2,hc2,n2,hd2⟩:=id p2
  simp only at hc hd hc2 hd2
  subst hc hd hc2 hd2
  exact concat_meets ⟨_,ho,rfl⟩ ⟨_,ho2,rfl⟩ noFill_tuple_add seq_tuple_add PySem.F.slot_tuple_add PySem.F.entry_tuple_add (PySem.F.args_tuple_add_2 _ _)
   (tuple_addW0 a b #[] its2.toArray n n2 dd dd2 sl sl2 (by simp)) ⟨ho,ho2,⟨.ref b,H,I,rfl,q.it (by simpa using hb)⟩⟩
 ·exact N2 pins s σ H _ _ v u Q I rx ry ⟨a,b,xs,ys,rfl,rfl,ha,hb,hx,hz,fun e=>q.it (by subst e;simpa using ha),fun _=>q.new⟩
theorem Ow {prog:Program} {w:World} {A:Around} {E:Value->Shared->Prop} {s:Shared} {t sl:Addr} {items:Array Value} {vl vu:Value} {lo hi:Option Int} {Q:Value->Shared->Prop} (ht:IsTup s.heap t items) (hs:s.heap.IsSliceOf sl vl vu .none) (pl:IsPart vl lo) (pu:IsPart vu hi)
  (hw:HT.cO items.size 0 lo=0/\HT.cO items.size items.size hi=items.size) (h:Q (.ref t) s):wpAny (model prog w) A (getItem (.ref t) (.ref sl)) Q E s:=by
 obtain ⟨os,hos,hcs,hds⟩:=id hs
 have GZ:s.TypeIs (.ref sl) "slice" := ⟨os,hos,hcs⟩
 unfold getItem
 try with_reducible refine wpAny_holding ?_
 first | refine wpAny_bind (wpAny_pure ?_) | skip
 refine wpAny_bind (wpAny_sequenceKey ht.typeIs (by decide) ?_)
 refine wpAny_bind (wpAny_callSpecial?_slot (name:=Str.ofString "__getitem__") ht.typeIs PyProof.Rows.slot_tuple_getitem
  (wpAny_call_entry PyProof.Rows.slot_tuple_getitem ht.typeIs entry_tuple_getitem ?_ (args_tuple_getitem _ _)))
 show wpAny _ _ (Builtin.Tuple.tupleItemsOf (.ref t) >>= _) _ _ s
 refine wpAny_bind (tupleItemsOf_ ht ?_)
 refine wpAny_bind (wpAny_typeOf GZ ?_)
 rw [if_pos (by decide)]
 refine wpAny_bind (HT.Kr hs pl pu ?_)
 have hyes:((((HT.cO items.size 0 lo:Nat):Int) == 0 && (1:Int) == 1 && (HT.cO items.size items.size hi - HT.cO items.size 0 lo) == items.size)=true):=by
  rw [hw.1,hw.2];simp
 show wpAny _ _ (if (((HT.cO items.size 0 lo:Nat):Int) == 0 && (1:Int) == 1 && (HT.cO items.size items.size hi - HT.cO items.size 0 lo) == items.size)=true then _ else _) _ _ s
 rw [if_pos hyes]
 obtain ⟨o,ho,hc,n,hd⟩:=id ht
 unfold Builtin.Tuple.tupleIsExact
 first
  | exact wpAny_bind (wpAny_bind (wpAny_typeOf (T:="tuple") ⟨o,ho,hc⟩ (wpAny_pure (wpAny_bind (wpAny_rule (wpAny_pure ⟨_,rfl,wpAny_pure h⟩))))))
  | exact wpAny_bind (wpAny_bind (wpAny_typeOf (T:="tuple") ⟨o,ho,hc⟩ (wpAny_pure (wpAny_bind (wpAny_rule (wpAny_bind (wpAny_pure ⟨_,rfl,wpAny_pure h⟩)))))))
  | trace_state
def uQ (K:Zfr):V->Option Int->Option Int->Hp->VK->Prop:=fun x lo hi H Q=>∃ a xs,x=.ref a/\ft K H a xs/\pj K H (mw xs lo hi) Q
theorem Ox {xs:List V} {lo hi:Option Int} (h:HT.cO xs.length 0 lo=0/\HT.cO xs.length xs.length hi=xs.length):mw xs lo hi=xs:=by
 unfold mw;rw [h.1,h.2];simp
theorem Oy:Eh X (uQ X.K):=by
 intro pins s σ H x v vl vu lo hi sl Q I rx hs pl pu h
 obtain ⟨a,xs,rfl,hx,q⟩:=h
 by_cases hw:HT.cO xs.length 0 lo=0/\HT.cO xs.length xs.length hi=xs.length
 ·cases rx
  obtain ⟨its,r,ht,hz⟩:=I.tuple hx
  have hlen:its.toArray.size=xs.length:=by rw [Vu];exact r.length.symm
  refine ⟨"tuple",_,PyProof.Rows.slot_tuple_getitem.lookup,ht.typeIs,?_⟩
  exact Ow ht hs pl pu (by rw [hlen];exact hw) ⟨.ref a,H,I,rfl,q.it (by rw [Ox hw];exact hx)⟩
 ·exact wj pins s σ H _ v vl vu lo hi sl Q I rx hs pl pu ⟨a,xs,rfl,hx,hw,q.new⟩
def fY (lo:Int) (n:Nat):List V:=(List.range n).map fun (k:Nat)=>V.int (lo + k)
theorem Oz (lo:Int) (n:Nat):(fY lo n).length=n:=by simp [fY]
theorem Eo:fX X (.type "range") (fun xs H Q=>∃ j:Int,xs=[.int j]/\∀ p,H p=none->Q (.ref p) (upd H p (.jC 0 j))):=by
 intro pins s σ H xs us Q I r h
 obtain ⟨j,rfl,q⟩:=h
 obtain ⟨u,rfl,t,rfl⟩:=vals1 r
 refine call_range_1 ⟨.ref s.heap.objs.size,_,I.laid (o:=.jC 0 j) (fun b o e=>Vw _ e) (Vh _) ?_,rfl,q _ (I.hok.fresh (Vh _))⟩
 exact ⟨_,_,_,VI _ rfl⟩
theorem zu:fX X (.type "range") (fun xs H Q=>∃ i j:Int,xs=[.int i,.int j]/\∀ p,H p=none->Q (.ref p) (upd H p (.jC i j))):=by
 intro pins s σ H xs us Q I r h
 obtain ⟨i,j,rfl,q⟩:=h
 obtain ⟨u,u',rfl,⟨t,rfl⟩,t',rfl⟩:=vals2 r
 refine call_range_2 ⟨.ref s.heap.objs.size,_,I.laid (o:=.jC i j) (fun b o e=>Vw _ e) (Vh _) ?_,rfl,q _ (I.hok.fresh (Vh _))⟩
 exact ⟨_,_,_,VI _ rfl⟩
theorem KN:∀ (n:Nat) (lo:Int) (us:List Value),us.length=n->(∀ (j:Nat) (v:Value),us[j]?=some v->∃ t,v=.int (lo + j * 1) t)->Vals (fY lo n) us
 | 0,lo,[],_,_=>.nil
 | 0,lo,_ :: _,h,_=>by simp at h
 | n + 1,lo,[],h,_=>by simp at h
 | n + 1,lo,u :: us,h,hv=>by
  have e:fY lo (n + 1)=V.int lo :: fY (lo + 1) n:=by
   unfold fY
   rw [List.range_succ_eq_map,Vy,VB]
   congr 1
   ·simp
   ·apply VS
    intro i _
    simp only [Function.comp]
    congr 1
    push_cast
    omega
  rw [e]
  obtain ⟨t,ht⟩:=hv 0 u rfl
  refine .cons ⟨t,by rw [ht];simp⟩ (KN n (lo + 1) us (by simpa using h) fun j v hj=>?_)
  obtain ⟨t',ht'⟩:=hv (j + 1) v hj
  refine ⟨t',ht'.trans ?_⟩
  congr 1
  omega
theorem sA (hc:X.calm=true):fX X (.type "list") (fun xs H Q=>∃ p lo hi,xs=[.ref p]/\H p=some (.jC lo hi)/\(-(2 ^ 62)<=lo/\lo < 2 ^ 62/\-(2 ^ 62)<=hi/\hi < 2 ^ 62)/\(hi - lo).toNat<=2 ^ 24 /\
  ∀ l,H l=none->Q (.ref l) (upd H l (.lst (fY lo (hi - lo).toNat)))):=by
 intro pins s σ H xs us Q I r h
 obtain ⟨p,lo,hi,rfl,hp,⟨b1,b2,b3,b4⟩,hz,q⟩:=h
 obtain ⟨u,rfl,ru⟩:=vals1 r
 cases ru
 obtain ⟨t,t',t'',e⟩:=(show cy X.prog X.w H s.heap p (.jC lo hi) from I.hok p _ hp)
 refine call_list_range (a:=lo) (b:=hi) (c:=1) (n:=(hi - lo).toNat) (I.ok.hd hc) (show IsRange s.heap p lo hi 1 t t' t'' from e) (small_one b1 b2 b3 b4) (by rw [rangeSize_one];split <;> omega) hz fun h' tk acc c kp hD hI=>?_
 refine ⟨.ref s.heap.objs.size,_,I.laid (t':=tk) (o:=.lst (fY lo (hi - lo).toNat)) kp (Vh _) ?_,rfl,q _ (I.hok.fresh (Vh _))⟩
 refine ⟨by rw [Oz];exact VL hz (by decide),acc.toList,c,KN _ _ _ (by rw [WY];exact hI.1) fun j v hj=>hI.2 j v (by rw [<- hj,WN]),by simpa using hD⟩
end
mutual
inductive Rep (K:Zfr) (H:Hp):V->PyData->Prop
 | non:Rep K H .non .none
 | bl (b:Bool):Rep K H (.bl b) (.bool b)
 | int (i:Int):Rep K H (.int i) (.int i)
 | str (x:Str):Rep K H (.str x) (.str x)
 | tup {a:Addr} {xs:List V} {ds:List PyData}:ft K H a xs->fZ K H xs ds->Rep K H (.ref a) (.tuple ds)
 | lst {a:Addr} {xs:List V} {ds:List PyData}:j3 K H a xs->fZ K H xs ds->Rep K H (.ref a) (.list ds)
inductive fZ (K:Zfr) (H:Hp):List V->List PyData->Prop
 | nil:fZ K H [] []
 | cons {v:V} {vs:List V} {d:PyData} {ds:List PyData}:Rep K H v d->fZ K H vs ds->fZ K H (v :: vs) (d :: ds)
end
section
variable {X:Cx} {pins:List (Addr×Obj)} {σ:St} {H:Hp} {s:Shared}
mutual
theorem Rep.reads (I:Inv X pins σ H s):∀ {v:V} {d:PyData} {u:Value},Rep X.K H v d->RelV v u->∃ as,Reads s.heap u d as
 | _,_,_,.non,r=>by cases r;exact ⟨_,.none⟩
 | _,_,_,.bl b,r=>by cases r;exact ⟨_,.bool b⟩
 | _,_,_,.int i,r=>by obtain ⟨t,rfl⟩:=r;exact ⟨_,.int i t⟩
 | _,_,_,.str x,r=>by obtain ⟨t,rfl⟩:=r;exact ⟨_,.str x t⟩
 | _,_,_,.tup q rs,r=>by
  cases r
  obtain ⟨its,rv,⟨o,e,c,n,hd⟩,_⟩:=I.tuple q
  obtain ⟨as,ra⟩:=fZ.reads I rs rv
  exact ⟨_,.tuple e c hd (by simpa using ra)⟩
 | _,_,_,.lst q rs,r=>by
  cases r
  obtain ⟨its,rv,pl,_⟩:=I.list q
  obtain ⟨o,e,c,n,hd⟩:=pl.isList
  obtain ⟨as,ra⟩:=fZ.reads I rs rv
  exact ⟨_,.list e c hd (by simpa using ra)⟩
theorem fZ.reads (I:Inv X pins σ H s):∀ {vs:List V} {ds:List PyData} {us:List Value},fZ X.K H vs ds->Vals vs us->∃ as,ReadsAll s.heap us ds as
 | _,_,_,.nil,r=>by cases r;exact ⟨_,.nil⟩
 | _,_,_,.cons h t,r=>by
  cases r with
  | cons r1 r2 =>
   obtain ⟨as,h1⟩:=Rep.reads I h r1
   obtain ⟨bs,h2⟩:=fZ.reads I t r2
   exact ⟨_,.cons h1 h2⟩
end
def tH (K:Zfr) (neg:Bool):R2:=fun x y H Q=>∃ d e,Rep K H x d/\Rep K H y e/\PyData.canLay0 d=true/\PyData.canLay0 e=true/\min d.depth e.depth<=60/\Q (.bl (if neg then !PyData.eqv d e else PyData.eqv d e)) H
theorem Bm (hu:X.A.units + 64 < cLine):kz X (compareOp .Eq) (tH X.K false):=by
 intro pins s σ H x y v u Q I rx ry h
 obtain ⟨d,e,hd,he,c1,c2,dp,q⟩:=h
 obtain ⟨as,ra⟩:=hd.reads I rx
 obtain ⟨bs,rb⟩:=he.reads I ry
 exact SeqAt.eqOverData X.prog X.w X.A X.xe s v u d e as bs _ ra rb c1 c2 (by omega) ⟨.bl _,H,I,rfl,q⟩
theorem uR (hu:X.A.units + 64 < cLine):kz X (compareOp .NotEq) (tH X.K true):=by
 intro pins s σ H x y v u Q I rx ry h
 obtain ⟨d,e,hd,he,c1,c2,dp,q⟩:=h
 obtain ⟨as,ra⟩:=hd.reads I rx
 obtain ⟨bs,rb⟩:=he.reads I ry
 exact SeqAt.neOverData X.prog X.w X.A X.xe s v u d e as bs _ ra rb c1 c2 (by omega) ⟨.bl _,H,I,rfl,q⟩
end
section
variable {K:Zfr} {H:Hp}
def cY (ns:List Int):List PyData:=ns.map PyData.int
theorem wK:∀ (ns:List Int),PyData.canLayAll0 (cY ns)=true
 | []=>rfl
 | n :: r=>by show (true && PyData.canLayAll0 (cY r))=true;rw [wK r];rfl
theorem zv:∀ (ns:List Int),PyData.depthAll (cY ns)=0
 | []=>rfl
 | n :: r=>by show max 0 (PyData.depthAll (cY r))=0;rw [zv r];rfl
theorem Bn:∀ (ns ms:List Int),PyData.eqvAll (cY ns) (cY ms)=decide (ns=ms)
 | [],[]=>rfl
 | [],_ :: _=>rfl
 | _ :: _,[]=>rfl
 | n :: ns,m :: ms=>by
  show ((n == m) && PyData.eqvAll (cY ns) (cY ms))=decide (n :: ns=m :: ms)
  rw [Bn ns ms]
  by_cases h:n=m
  ·subst h;simp
  ·simp [h]
end
end L2
namespace L2
open PySem PySem.Spec PyProof.Rows
structure Def (K:Zfr) (mg:Str->Option Value) (x:Str) (st:Stmt) (ps:List Str) (f:Addr) (fd:FuncData):Prop where
 F:En K x x st f fd
 be:∀ us:List Value,us.length=ps.length->bindArgs fd ⟨us,[]⟩=pure (ps.zip us)
 m:mg x=some (.ref f)
theorem Def.b {K:Zfr} {mg:Str->Option Value} {x:Str} {st:Stmt} {ps:List Str} {f:Addr} {fd:FuncData} (D:Def K mg x st ps f fd):Binds K fd ps []:=.all D.be
theorem iM {K:Zfr} {h:Heap} {mg:Str->Option Value} (X:K.In h) (G:h.Ns mainGlobals mg) {x:Str} {st:Stmt} {ps:List Str} {f:Addr} {oc:Value} {od an:Option Addr} {osl:Array (Option Value)} {kV doc pm cdv ct:Value}
  (hb:∀ (kV doc pm:Value) (an:Option Addr) (cdv ct:Value) (us:List Value),us.length=ps.length->bindArgs (PySem.W.fnOf x x (fB st) (dP st) (av st) .none kV doc pm an cdv ct) ⟨us,[]⟩=pure (ps.zip us))
  (a:PySem.W.nsIn K mainGlobals x=some (some (.ref f))) (l:K.lookup f=some ⟨oc,od,.func (PySem.W.fnOf x x (fB st) (dP st) (av st) .none kV doc pm an cdv ct),osl⟩)
  (c:PySem.W.codeIn K cdv x=true) (k:PySem.W.keepIn K (.ref f)=true):∃ f fd,Def K mg x st ps f fd :=
 ⟨f,_,wH l c k,hb kV doc pm an cdv ct,PySem.W.mg_of X G a⟩
theorem Def.tI {K:Zfr} {mg:Str->Option Value} {x p:Str} {st:Stmt} {f:Addr} {fd:FuncData} (D:Def K mg x st [p] f fd) (s:Shared) (u:Value):BindsTo s fd ⟨[u],[]⟩ [(p,u)]:=.of_eq (D.be [u] rfl)
theorem sC {K:Zfr} {h:Heap} {mg:Str->Option Value} (X:K.In h) (G:h.Ns mainGlobals mg) {x:Str} (z:PySem.W.nsIn K mainGlobals x=some none):mg x=none:=PySem.W.mg_none_of X G z
theorem wL {n j:Nat} (h:j < n):lW n (j:Int)=some j:=by
 unfold lW
 rw [if_pos (by omega),if_pos (by omega)]
 simp
theorem wM {α:Type} {xs:List α} {i:Int} (h0:0<=i) (h1:i < xs.length):∃ v,d5 xs i=some v/\v∈xs:=by
 have hi:i.toNat < xs.length:=by omega
 refine ⟨xs[i.toNat],?_,V8 hi⟩
 have:=zq (xs:=xs) (j:=i.toNat) (v:=xs[i.toNat]) (by simp [hi])
 rwa [VH h0] at this
theorem dT {c:Prop} [Decidable c] (h:decide c=true):c:=of_decide_eq_true h
section
variable {prog:Program} {w:World} {A:Around} {E:Value->Shared->Prop} {s:Shared}
end
section
variable {X:Cx} {e:Expr} {te:TE} {pos p0 p1 p2:Pos} {j:Nat}
end
section
variable {K:Zfr} {f:Addr} {H0:Hp} {σ:St} {i:Nat} {t u ta tb:TE} {R R':V->Hp->Prop} {P P' P2:Int->Prop} {L M:Nat}
end
theorem Bo:∀ (names:List (Str×NameKind)) (n:Nat) (acc:List (Str×Addr)),cellsFrom n names acc=cellsFrom n names [] ++ acc
 | [],_,_=>rfl
 | (x,k) :: r,n,acc=>by
  show (if k == .cell then cellsFrom (n + 1) r ((x,n) :: acc) else cellsFrom n r acc)=(if k == .cell then cellsFrom (n + 1) r [(x,n)] else cellsFrom n r []) ++ acc
  by_cases hk:(k == NameKind.cell)=true
  ·rw [if_pos hk,if_pos hk,Bo r (n + 1) ((x,n) :: acc),Bo r (n + 1) [(x,n)],WI];rfl
  ·rw [if_neg hk,if_neg hk];exact Bo r n acc
theorem Hg {x:Str} {c:Addr}:∀ (names:List (Str×NameKind)) (n:Nat),(x,c)∈cellsFrom n names []->(x,NameKind.cell)∈names/\n<=c
 | [],_,h=>nomatch h
 | (y,k) :: r,n,h=>by
  have h':(x,c)∈(if k == .cell then cellsFrom (n + 1) r [(y,n)] else cellsFrom n r []):=h
  by_cases hk:(k == NameKind.cell)=true
  ·rw [if_pos hk,Bo] at h'
   rcases VG.mp h' with h' | h'
   ·obtain ⟨h1,h2⟩:=Hg r (n + 1) h'
    exact ⟨Vp _ h1,by omega⟩
   ·have e:(x,c)=(y,n):=by simpa using h'
    cases e
    have e2:k=NameKind.cell:=by simpa using hk
    subst e2
    exact ⟨Vl,Vh _⟩
  ·rw [if_neg hk] at h'
   obtain ⟨h1,h2⟩:=Hg r n h'
   exact ⟨Vp _ h1,h2⟩
theorem Hi {env:Env} (f:Str×NameKind->List (Str×Addr)->Sem (ForInStep (List (Str×Addr))))
  (hf:∀ name kind cs,f (name,kind) cs=if kind == .free then (do let c <- cellOf env name;pure (.yield ((name,c) :: cs))) else pure (.yield cs)) :
  ∀ (names:List (Str×NameKind)) (acc:List (Str×Addr)),(∀ y∈names,y.2=NameKind.free->∃ c,env.cells.lookup y.1=some c) ->
   ∃ cl,(forIn names acc f:Sem (List (Str×Addr)))=pure cl/\(∀ n c,(n,c)∈cl->(n,c)∈acc\/(env.cells.lookup n=some c/\(n,NameKind.free)∈names))/\(∀ p∈acc,p∈cl)/\∀ n,(n,NameKind.free)∈names->∃ c,(n,c)∈cl
 | [],acc,_=>⟨acc,by rw [List.forIn_nil],fun n c h=>.inl h,fun p h=>h,fun n h=>nomatch h⟩
 | (x,k) :: r,acc,h=>by
  have hr:∀ y∈r,y.2=NameKind.free->∃ c,env.cells.lookup y.1=some c:=fun y hy=>h y (Vp _ hy)
  by_cases hk:k=NameKind.free
  ·subst hk
   obtain ⟨c,hc⟩:=h (x,.free) Vl rfl
   have e:cellOf env x=pure c:=by unfold cellOf;rw [hc]
   obtain ⟨cl,e1,h1,h2,h3⟩:=Hi f hf r ((x,c) :: acc) hr
   refine ⟨cl,?_,fun n d hd=>?_,fun p hp=>h2 p (Vp _ hp),fun n hn=>?_⟩
   ·rw [List.forIn_cons,hf,if_pos (by rfl),e]
    exact e1
   ·rcases h1 n d hd with q | ⟨q,q'⟩
    ·rcases VF.mp q with q | q
     ·cases q;exact .inr ⟨hc,Vl⟩
     ·exact .inl q
    ·exact .inr ⟨q,Vp _ q'⟩
   ·rcases VF.mp hn with q | q
    ·cases q;exact ⟨c,h2 _ Vl⟩
    ·exact h3 n q
  ·obtain ⟨cl,e1,h1,h2,h3⟩:=Hi f hf r acc hr
   have hb:¬ ((k == NameKind.free)=true):=by simpa using hk
   refine ⟨cl,?_,fun n d hd=>?_,h2,fun n hn=>?_⟩
   ·rw [List.forIn_cons,hf,if_neg hb]
    exact e1
   ·rcases h1 n d hd with q | ⟨q,q'⟩
    ·exact .inl q
    ·exact .inr ⟨q,Vp _ q'⟩
   ·rcases VF.mp hn with q | q
    ·cases q;exact absurd rfl hk
    ·exact h3 n q
theorem KO {scope:Scope} {env:Env} (h:∀ y∈scope.names,y.2=NameKind.free->∃ c,env.cells.lookup y.1=some c) :
  ∃ cl,closureFor scope env=pure cl/\(∀ n c,(n,c)∈cl->env.cells.lookup n=some c/\(n,NameKind.free)∈scope.names)/\∀ n,(n,NameKind.free)∈scope.names->∃ c,(n,c)∈cl:=by
 have key:∀ (f:Str×NameKind->List (Str×Addr)->Sem (ForInStep (List (Str×Addr)))),(∀ name kind cs,f (name,kind) cs=if kind == .free then (do let c <- cellOf env name;pure (.yield ((name,c) :: cs))) else pure (.yield cs)) ->
   ∃ cl,((forIn scope.names [] f:Sem (List (Str×Addr))) >>= fun r=>pure r)=pure cl/\(∀ n c,(n,c)∈cl->env.cells.lookup n=some c/\(n,NameKind.free)∈scope.names)/\∀ n,(n,NameKind.free)∈scope.names->∃ c,(n,c)∈cl:=fun f hf=>by
  obtain ⟨cl,e,h1,_,h3⟩:=Hi f hf scope.names [] h
  refine ⟨cl,?_,fun n c hc=>(h1 n c hc).elim (fun z=>nomatch z) id,h3⟩
  rw [e]
  rfl
 simp only [closureFor]
 exact key _ fun name kind cs=>by cases hk:kind == NameKind.free <;> simp [hk]
theorem ltN {a b:Addr} (h:a < b):@LT.lt Nat _ a b:=h
theorem vQ {a b:Addr} (h:@LT.lt Nat _ a b):a≠b:=VZ h
theorem KP {a b:Addr} (h:@LT.lt Nat _ b a):a≠b:=Nat.ne_of_gt h
theorem OA {M:Model} {A:Around} {E:Value->Shared->Prop} {s:Shared} {scope:Scope} {g:Addr} {cl:List (Str×Addr)} {q:Str} {env:Env} {Q:Env->Shared->Prop}
  (h:∀ h',h'.Ns s.heap.objs.size (fun _=>none)->(∀ b o,s.heap.get? b=some o->h'.get? b=some o)->CellsOk h' (s.heap.objs.size + 1) (cellsFrom (s.heap.objs.size + 1) scope.names []) ->
   Q { scope:=scope,locals:=s.heap.objs.size,globals:=g,cells:=cellsFrom (s.heap.objs.size + 1) scope.names cl,qual:=q,func:=none,code:=env.code,frame:=env.frame,builtins:=env.builtins } { s with heap:=h' }) :
  wpAny M A (newFunctionEnv scope g cl [] q none .none (some env)) Q E s:=by
 simp only [newFunctionEnv,Option.isSome_some,if_true]
 refine wpAny_bind (wpAny_alloc ?_)
 refine wpAny_bind (wpAny_layCells _ (fun name kind cells=>by cases hkc:kind == NameKind.cell <;> simp [hkc]) _ _ _ _ ?_)
 have ok:=cellsFrom_ok scope.names (s.heap.push { cls:=.type "dict",data:=.dict #[] }) (s.heap.objs.size + 1) [] ⟨fun _ _ hm=>(nomatch hm),List.Pairwise.nil⟩ (by rw [Wy];exact Vh _)
 rw [Wy] at ok
 rw [show ({ s with heap:=s.heap.push { cls:=.type "dict",data:=.dict #[] } }:Shared).heap.objs.size=s.heap.objs.size + 1 from Wy ..]
 refine wpAny_bind ?_
 rw [List.forIn_nil]
 refine wpAny_pure (wpAny_pure ?_)
 exact h _ ((Heap.Ns.new s.heap (.type "dict")).keeps (pushCells_keeps _ _)) (fun b o e=>pushCells_keeps _ _ b o (Vw _ e)) ok
def aS (X:Cx) (N:List Str) (scope:Scope) (cells:List (Str×Addr)) (C:Addr) (fp:List Addr) (s:Shared) (H:Hp):Cx where
 prog:=X.prog
 w:=X.w
 K:=X.K
 mg:=X.mg
 base:=X.base
 A:=X.A
 N:=N
 s₀:=s
 H₀:=H
 env:=compEnvC scope cells C X.env
 outer:=X.stack
 stack:=X.stack
 ex:=fp
 fn:=fun x=>decide (scope.names.lookup x=some .cell)
 calm:=X.calm
 pn:=[]
 xe:=fun _ _=>False
def rq (scope sc:Scope):Scope :=
 { scope with names:=scope.names.map fun (n,k)=>if (k == .free && sc.kind == .function && sc.names.lookup n == some .cell) then (n,.cell) else (n,k) }
structure rA (sc scope:Scope) (own fr:List Str):Prop where
 kind:scope.kind=.function
 nd:(own ++ fr).Nodup
 zw:(scope.names.map (·.1)).Nodup
 free:∀ y∈scope.names,y.2=.free->sc.names.lookup y.1=some .cell\/sc.names.lookup y.1=some .free
 Hj:∀ x∈fr,scope.names.lookup x=some .free
structure f9 (X:Cx) (scope:Scope) (own fr:List Str) (js:List Nat):Prop where
 c:rA X.env.scope scope own fr
 ix:js.map (fun j=>X.N[j]?)=fr.map some
theorem f9.kind {X:Cx} {scope:Scope} {own fr:List Str} {js:List Nat} (S:f9 X scope own fr js):scope.kind=.function:=S.c.kind
theorem f9.zw {X:Cx} {scope:Scope} {own fr:List Str} {js:List Nat} (S:f9 X scope own fr js):(scope.names.map (·.1)).Nodup:=S.c.zw
theorem f9.Hj {X:Cx} {scope:Scope} {own fr:List Str} {js:List Nat} (S:f9 X scope own fr js):∀ x∈fr,scope.names.lookup x=some .free:=S.c.Hj
theorem f9.free {X:Cx} {scope:Scope} {own fr:List Str} {js:List Nat} (S:f9 X scope own fr js):∀ y∈scope.names,y.2=.free->X.env.kindOf y.1=some .cell\/X.env.kindOf y.1=some .free:=S.c.free
theorem Bp {α:Type}:∀ {l:List (Str×α)} {n:Str} {c:α},(l.map (·.1)).Nodup->(n,c)∈l->l.lookup n=some c
 | (k,v) :: r,n,c,nd,h=>by
  obtain ⟨h1,h2⟩:=V0.mp nd
  rw [Wq]
  rcases VF.mp h with e | h
  ·cases e;simp
  ·have:(n == k)=false:=beq_eq_false_iff_ne.mpr fun e=>h1 (by rw [<- e];exact Vn.mpr ⟨(n,c),h,rfl⟩)
   rw [this]
   exact Bp h2 h
theorem KQ (scope:Scope) (env:Env) (x:Str):(relabel scope env).names.lookup x=none/\scope.names.lookup x=none \/
  ∃ k,scope.names.lookup x=some k/\(relabel scope env).names.lookup x=some (if (k == .free && env.scope.kind == .function && env.kindOf x == some .cell) then .cell else k):=by
 have key:∀ names:List (Str×NameKind),(names.map fun (n,k)=>if (k == NameKind.free && env.scope.kind == .function && env.kindOf n == some .cell) then (n,NameKind.cell) else (n,k)).lookup x=none/\names.lookup x=none \/
   ∃ k,names.lookup x=some k/\(names.map fun (n,k)=>if (k == NameKind.free && env.scope.kind == .function && env.kindOf n == some .cell) then (n,NameKind.cell) else (n,k)).lookup x=some (if (k == .free && env.scope.kind == .function && env.kindOf x == some .cell) then .cell else k):=by
  intro names
  induction names with
  | nil=>exact .inl ⟨rfl,rfl⟩
  | cons p r ih =>
   obtain ⟨n,k⟩:=p
   rw [Vy]
   cases hx:x == n with
   | true =>
    have e:x=n:=by simpa using hx
    subst e
    refine .inr ⟨k,by simp [Wq],?_⟩
    by_cases hc:(k == NameKind.free && env.scope.kind == .function && env.kindOf x == some .cell)=true
    ·simp only [if_pos hc];simp [Wq]
    ·simp only [if_neg hc];simp [Wq]
   | false =>
    have e1:∀ q:NameKind,(((n,q) :: (r.map fun (n,k)=>if (k == NameKind.free && env.scope.kind == .function && env.kindOf n == some .cell) then (n,NameKind.cell) else (n,k))).lookup x)=((r.map fun (n,k)=>if (k == NameKind.free && env.scope.kind == .function && env.kindOf n == some .cell) then (n,NameKind.cell) else (n,k)).lookup x):=fun q=>by rw [Wq,hx]
    have e2:((n,k) :: r).lookup x=r.lookup x:=by rw [Wq,hx]
    rw [e2]
    by_cases hc:(k == NameKind.free && env.scope.kind == .function && env.kindOf n == some .cell)=true
    ·simp only [if_pos hc];rw [e1];exact ih
    ·simp only [if_neg hc];rw [e1];exact ih
 exact key scope.names
def jF (n:Nat) (js:List Nat) (σ:St):St:=List.replicate n none ++ js.map fun j=>σ.getD j none
theorem Inv.Bq {X:Cx} {pins:List (Addr×Obj)} {σ:St} {H:Hp} {s:Shared} {a:Addr} {o:HO} (I:Inv X pins σ H s) (f:lC X pins H a) (new:cy X.prog X.w (upd H a o) s.heap a o):Inv X pins σ (upd H a o) s:=by
 obtain ⟨f0,f1,f2,f3,f4,f5⟩:=f
 have ne:∀ b u,H b=some u->b≠a:=fun b u e z=>by rw [z,f0] at e;cases e
 refine I.step (h':=s.heap) (H':=upd H a o) (g':=s.gens) (d':=s.drawn) (t':=s.toks) (ch:=[a]) (fun b hb=>?_) (fun b u _ _ _ e _=>e) (fun b u _ _ _ e _=>⟨u.slots,e⟩) (fun b u hb e n=>?_) (fun b u _ e=>⟨u,e⟩)
  (fun b xs e=>by rw [jZ (ne b _ e)];exact e) (fun b u xs e=>by rw [jZ (ne b _ e)];exact e) (fun b ps e=>⟨#[],by rw [jZ (ne b _ e),e];simp⟩) (fun m hm=>hm) (fun b u e=>?_) I.bare
 ·have e:b=a:=by simpa using hb
  subst e
  exact ⟨f3,f1,f4,f5⟩
 ·rw [jZ (fun z=>hb (by simp [z]))];exact n
 ·by_cases hb:b=a
  ·subst hb;rw [qI] at e;cases e;exact new
  ·rw [jZ hb] at e
   exact (I.hok b u e).stay (fun c v _ q=>q) (fun c q=>by rw [jZ (ne c _ q)];exact q) fun c xs q=>by rw [jZ (ne c _ q)];exact q
def PF (X:Cx) (ifs:List Expr) (t:TT):Prop :=
 ∀ (pins:List (Addr×Obj)) (s:Shared) (σ:St) (H:Hp) (Q:Bool->Hp->Prop),Inv X pins σ H s->t σ H Q ->
  wpAny (model X.prog X.w) X.A (forIn ifs true fun c r=>if r=true then do let ok <- isTrue c X.env (eval c X.env);pure (ForInStep.yield ok) else pure (ForInStep.yield r)) (TP X pins σ Q) X.xe s
theorem o5 {X:Cx}:PF X [] (fun _ H Q=>Q true H):=fun _ _ _ H _ I h=>wpAny_tests_nil ⟨H,I,h⟩
theorem Hk {X:Cx} {c:Expr} {t:TT} (h:PT X c t):PF X [c] t:=fun pins s σ H Q I hw=>wpAny_tests_one (h pins s σ H Q I hw)
theorem OB {prog:Program} {w:World} {A:Around} {R:Result->Shared->Prop} {s:Shared} {elt target iter:Expr} {ifs:List Expr} {scope:Scope} {pos:Pos} {it acc:Value} {env:Env} (I:Nat->Shared->Prop)
  (turn:∀ n s,I n s->wpAny (model prog w) A (pyNext it) (fun r s₁=>match r with
   | none=>R (.ok .next) s₁
   | some v=>wpAny (model prog w) A (letOwnedTupleGo target it v) (fun _ s₁'=>wpAny (model prog w) A (assign target env v) (fun _ s₂ =>
     wpAny (model prog w) A (forIn ifs true fun c r=>if r=true then do let ok <- isTrue c env (eval c env);pure (ForInStep.yield ok) else pure (ForInStep.yield r)) (fun ok s₃ =>
      if ok=true then wpAny (model prog w) A (eval elt env) (fun x s₄ =>
       wpAny (model prog w) A (call (.builtin "list.append") [acc,x]) (fun _ s₅=>∃ m,m < n/\I m s₅) (fun _ _=>False) s₄) (fun _ _=>False) s₃
      else ∃ m,m < n/\I m s₃) (fun _ _=>False) s₂) (fun _ _=>False) s₁') (fun _ _=>False) s₁) (fun _ _=>False) s)
  (n:Nat) (h:I n s) :
  codeAny (model prog w) A (.compLoop (.ListComp elt [⟨target,iter,ifs,0⟩] scope pos) 0 it acc env) R s:=by
 refine codeAny_loop rfl I (fun n s hI=>?_) n h
 show wpAny _ A ((compTurn (.ListComp elt [⟨target,iter,ifs,0⟩] scope pos) 0 it acc env).onRaise (fun x=>do noteFrame x env;theTreesLotGoes x)) _ _ s
 refine wpAny_noted ?_
 rw [compTurn_list]
 refine wpAny_bind (wpAny_standAt (wpAny_bind (wpAny_mono (turn n s hI) (fun r s₁ h₁=>?_) fun _ _ h'=>h'.elim)))
 cases r with
 | none=>exact wpAny_pure h₁
 | some v =>
  refine wpAny_bind (wpAny_mono h₁ (fun _ s₁' h₁'=>?_) fun _ _ h'=>h'.elim)
  refine wpAny_bind (wpAny_mono h₁' (fun _ s₂ h₂=>wpAny_bind (wpAny_mono h₂ (fun ok s₃ h₃=>?_) fun _ _ h'=>h'.elim)) fun _ _ h'=>h'.elim)
  cases ok with
  | false=>exact wpAny_pure ⟨rfl,h₃⟩
  | true =>
   exact wpAny_bind (wpAny_bind (wpAny_mono h₃ (fun x s₄ h₄=>wpAny_bind (wpAny_mono h₄ (fun _ s₅ h₅=>wpAny_pure (wpAny_pure ⟨rfl,h₅⟩)) fun _ _ h'=>h'.elim)) fun _ _ h'=>h'.elim))
def wN (J:It) (n:Nat) (js:List Nat) (g:TG) (tc:TT) (te:TE) (σ:St) (H1:Hp) (Q:VK):Prop :=
 ∃ W:Nat->Nat->List V->St->Hp->Prop,(∃ m,W 0 m [] (jF n js σ) H1)/\∀ i m ys σ' H',W i m ys σ' H' ->
  ys.length < sizeLine/\((J.stop i H'/\∀ p,H' p=none->Q (.ref p) (upd H' p (.lst ys))) \/
   (J.go i H'/\∀ x H2,J.tf i H' x H2->g x σ' H2 fun σ2 H3=>tc σ2 H3 fun b H4=>if b=true then te σ2 H4 fun y H5=>∃ m',m' < m/\W (i + 1) m' (ys ++ [y]) σ2 H5 else ∃ m',m' < m/\W (i + 1) m' ys σ2 H4))
def rB (wi:TI) (n:Nat) (js:List Nat) (g:TG) (tc:TT) (te:TE):TE:=fun σ H Q=>wi σ H fun J H1=>wN J n js g tc te σ H1 Q
section
variable {X:Cx} {pins:List (Addr×Obj)} {σ:St} {tg iter elt:Expr} {ifs:List Expr} {scope:Scope} {pos:Pos} {own fr:List Str} {js:List Nat} {g:TG} {tc:TT} {te:TE} {wi:TI}
theorem KR {H2:Hp} {s2:Shared} {it:Addr} {fp:List Addr} {tn:Nat->Heap->Prop} {J:It} {Q:VK} {E:Value->Shared->Prop} {cl:List (Str×Addr)} {RR:Value->Addr->Result->Shared->Prop}
  (hc:X.calm=true) (S:f9 X scope own fr js) (hg:∀ cells C fp s H,PG (aS X (own ++ fr) scope cells C fp s H) tg g) (hf:∀ cells C fp s H,PF (aS X (own ++ fr) scope cells C fp s H) ifs tc) (he:∀ cells C fp s H,PE (aS X (own ++ fr) scope cells C fp s H) elt te)
  (I2:Inv X pins σ H2 s2) (T:Turn X.prog X.w X.K tg J fp it tn) (st2:tn 0 s2.heap) (f2:∀ b∈fp,lC X pins H2 b)
  (pk:∀ n c,(n,c)∈cl->X.env.cells.lookup n=some c/\(n,NameKind.free)∈scope.names) (rC:∀ n,(n,NameKind.free)∈scope.names->∃ c,(n,c)∈cl)
  (W:Nat->Nat->List V->St->Hp->Prop) (m0:Nat) (w0:W 0 m0 [] (jF own.length js σ) H2)
  (turn:∀ i m ys σ' H',W i m ys σ' H'->ys.length < sizeLine/\((J.stop i H'/\∀ p,H' p=none->Q (.ref p) (upd H' p (.lst ys))) \/
   (J.go i H'/\∀ x H2,J.tf i H' x H2->g x σ' H2 fun σ2 H3=>tc σ2 H3 fun b H4=>if b=true then te σ2 H4 fun y H5=>∃ m',m' < m/\W (i + 1) m' (ys ++ [y]) σ2 H5 else ∃ m',m' < m/\W (i + 1) m' ys σ2 H4)))
  (fin:∀ (acc C:Addr) (H':Hp) (s':Shared) (v:V),v=.ref acc->Inv X pins σ H' s'->lC X pins H' C->(∃ m,s'.heap.Ns C m)->Q v H'->RR (.ref acc) C (.ok .next) s') :
  wpAny (model X.prog X.w) X.A (newList []) (fun acc s3=>wpAny (model X.prog X.w) X.A (newFunctionEnv scope X.env.globals cl [] X.env.qual none .none (some X.env)) (fun cenv s4 =>
   codeAny (model X.prog X.w) X.A (.compStart (.ListComp elt [⟨tg,iter,ifs,0⟩] scope pos) 0 (.ref it) acc { cenv with scope:=relabel scope X.env }) (RR acc cenv.locals) s4) E s3) E s2:=by
 refine wpAny_newObj_type ?_
 refine OA fun h4 hns KS nO=>?_
 have hA:s2.heap.objs.size < (s2.heap.push { cls:=.type "list",data:=.seq ([]:List Value).toArray }).objs.size:=by rw [Wy];exact Wf _
 generalize hC:(s2.heap.push { cls:=.type "list",data:=.seq ([]:List Value).toArray }).objs.size=C at hns nO hA ⊢
 generalize hac:s2.heap.objs.size=acc at hA ⊢
 have Hl:acc≠C:=VZ hA
 have old:∀ b o,s2.heap.get? b=some o->h4.get? b=some o:=fun b o e=>KS b o (Vw _ e)
 have hacc:h4.get? acc=some { cls:=.type "list",data:=.seq ([]:List Value).toArray }:=KS _ _ (by rw [<- hac];exact VI _ rfl)
 have Hm:∀ x c,(x,c)∈cellsFrom (C + 1) scope.names []->h4.IsCell c none/\C + 1<=c/\scope.names.lookup x=some .cell:=fun x c h=>⟨(nO.empty x c h).1,(nO.empty x c h).2,Bp S.zw (Hg _ _ h).1⟩
 have lk:∀ x c,(cellsFrom (C + 1) scope.names cl).lookup x=some c->(h4.IsCell c none/\C + 1<=c/\(x,c)∈cellsFrom (C + 1) scope.names [])\/(X.env.cells.lookup x=some c/\scope.names.lookup x=some .free):=fun x c h=>by
  rw [Bo] at h
  rcases VG.mp (PySem.mem_of_lookup h) with q | q
  ·exact .inl ⟨(Hm x c q).1,(Hm x c q).2.1,q⟩
  ·exact .inr ⟨(pk x c q).1,Bp S.zw (pk x c q).2⟩
 have Hn:∀ x c,X.env.cells.lookup x=some c->c < s2.heap.objs.size:=fun x c h=>by
  obtain ⟨v,z⟩:=I2.cell x c h
  exact z.lt
 have pX:∀ x c,(cellsFrom (C + 1) scope.names cl).lookup x=some c->c≠C/\c≠acc/\H2 c=none/\∀ b∈fp,c≠b:=fun x c h=>by
  rcases lk x c h with ⟨_,h1,_⟩ | ⟨h1,_⟩
  ·refine ⟨KP (by omega),KP (by omega),I2.hok.fresh (by omega),fun b hb z=>?_⟩
   obtain ⟨o,e,_⟩:=T.obj 0 _ st2 b hb
   have:=ltN (VD e)
   rw [<- z] at this
   omega
  ·have:=ltN (Hn x c h1)
   exact ⟨vQ (by omega),vQ (by omega),I2.kr x c h1,fun b hb=>(f2 b hb).2.2.2.2.1 x c h1⟩
 have Br:∀ x,scope.names.lookup x=some .free->∃ c,X.env.cells.lookup x=some c/\(cellsFrom (C + 1) scope.names cl).lookup x=some c:=fun x h=>by
  obtain ⟨c,KU⟩:=rC x (PySem.mem_of_lookup h)
  have hc1:=(pk x c KU).1
  have hs:((cellsFrom (C + 1) scope.names cl).lookup x).isSome=true:=by
   refine PySem.W.cellsFrom_some scope.names (C + 1) cl (.inr ?_)
   cases q:cl.lookup x with
   | some d=>rfl
   | none =>
    exfalso
    have:∀ {l:List (Str×Addr)},(x,c)∈l->l.lookup x≠none:=by
     intro l
     induction l with
     | nil=>intro h;exact nomatch h
     | cons p r ih =>
      intro h z
      obtain ⟨k,v⟩:=p
      rw [Wq] at z
      cases hb:x == k with
      | true=>rw [hb] at z;cases z
      | false =>
       rw [hb] at z
       rcases VF.mp h with e | h
       ·cases e;simp at hb
       ·exact ih h z
    exact this KU q
  obtain ⟨d,hd⟩:=Wz.mp hs
  rcases lk x d hd with ⟨_,_,h2⟩ | ⟨h1,_⟩
  ·have:=(Hm x d h2).2.2
   rw [h] at this;cases this
  ·rw [hc1] at h1;cases h1
   exact ⟨c,hc1,hd⟩
 have Ep:∀ b∈fp,b≠C/\b≠acc:=fun b hb=>by
  obtain ⟨o,e,_⟩:=T.obj 0 _ st2 b hb
  have:=ltN (VD e)
  exact ⟨vQ (by omega),vQ (by omega)⟩
 have OC:(relabel scope X.env).kind=.function:=S.kind
 have ok:(aS X (own ++ fr) scope (cellsFrom (C + 1) scope.names cl) C fp s2 H2).Ok:=by
  refine ⟨I2.ok.mod,OC,I2.ok.glob,I2.ok.blt,?_,fun x y c h1 h2=>?_,fun x hx=>?_,fun x c hx h=>?_,I2.ok.hd,I2.ok.frames,.inl rfl,fun b hb=>⟨(Ep b hb).1,fun x c h=>(pX x c h).2.2.2 b hb⟩,I2.bs,VL I2.ok.uu I2.sz,fun b o e hb=>?_,fun b hb z=>?_,I2.stack,I2.pK⟩
  ·show s2.heap.objs.size<=C
   omega
  ·rcases lk x c h1 with ⟨_,q1,q2⟩ | ⟨q1,_⟩
   ·rcases lk y c h2 with ⟨_,r1,r2⟩ | ⟨r1,_⟩
    ·exact name_of_addr nO.apart q2 r2
    ·have:=ltN (Hn y c r1);omega
   ·rcases lk y c h2 with ⟨_,r1,r2⟩ | ⟨r1,_⟩
    ·have:=ltN (Hn x c q1);omega
    ·exact I2.ok.inj x y c q1 r1
  ·have hx':(relabel scope X.env).names.lookup x=some .cell\/(relabel scope X.env).names.lookup x=some .free:=hx
   rcases KQ scope X.env x with ⟨e,_⟩ | ⟨k,e1,e2⟩
   ·rcases hx' with z | z <;> (rw [e] at z;cases z)
   ·by_cases hk:k=.free
    ·subst hk
     obtain ⟨c,_,h⟩:=Br x e1
     exact ⟨c,h⟩
    ·have hk':k=.cell:=by
      have hb:(k == NameKind.free)=false:=beq_eq_false_iff_ne.mpr hk
      rw [hb] at e2
      simp only [Bool.false_and,VC,if_false] at e2
      rcases hx' with z | z
      ·rw [e2] at z;exact Vs z
      ·rw [e2] at z;exact absurd (Vs z) hk
     subst hk'
     exact Wz.mp (PySem.W.cellsFrom_some scope.names (C + 1) cl (.inl e1))
  ·have hx':scope.names.lookup x=some .cell:=of_decide_eq_true hx
   show s2.heap.objs.size<=c
   rcases lk x c h with ⟨_,q,_⟩ | ⟨_,q⟩
   ·omega
   ·rw [hx'] at q;cases q
  ·rcases (f2 b hb).2.2.2.1 with z | z
   ·exact I2.ok.qV b o e z
   ·have h1:@LT.lt Nat _ b X.base.objs.size:=VD e
    have h2:=I2.ok.uu
    omega
  ·rcases VF.mp (I2.mr b z) with e | e
   ·exact (f2 b hb).2.1 e
   ·exact (f2 b hb).2.2.1 e
 have I4:Inv (aS X (own ++ fr) scope (cellsFrom (C + 1) scope.names cl) C fp s2 H2) [(acc,{ cls:=.type "list",data:=.seq ([]:List Value).toArray })] (jF own.length js σ) H2 { s2 with heap:=h4 }:=by
  refine ⟨ok,rfl,I2.bare,Un.kept old,⟨_,hns,fun i x v e1 e2 e3=>?_⟩,fun x c h=>?_,I2.hok.fresh (by show s2.heap.objs.size<=C;omega),fun x c h=>(pX x c h).2.2.1,fun p hp=>?_,I2.hok.kept old,?_⟩
  ·have zx:(own ++ fr)[i]?=some x:=e1
   unfold jF at e2
   by_cases hi:i < own.length
   ·rw [Vt (by simpa using hi),WE] at e2
    split at e2 <;> cases e2
   ·rw [VA (by simpa using hi),WL,Vm] at e2
    rw [VA (by omega)] at zx
    cases hj:js[i - own.length]? with
    | none=>rw [hj] at e2;cases e2
    | some j =>
     rw [hj] at e2
     have Bs:σ.getD j none=some v:=Vs e2
     have hN:X.N[j]?=some x:=by
      have q:=congrArg (fun l=>l[i - own.length]?) S.ix
      simp only [Vm,hj,zx,Option.map_some] at q
      exact Vs q
     have hσ:σ[j]?=some (some v):=by
      rw [Vv] at Bs
      cases q:σ[j]? with
      | none=>rw [q] at Bs;cases Bs
      | some o=>rw [q] at Bs;exact congrArg some Bs
     have hfr:scope.names.lookup x=some .free:=S.Hj x (Vk zx)
     have hk:=S.free _ (PySem.mem_of_lookup hfr) rfl
     obtain ⟨m,_,hl⟩:=I2.loc
     obtain ⟨u,ru,lo⟩:=hl j x v hN hσ (by rcases hk with k | k;exact .inr (.inl k);exact .inr (.inr k))
     refine ⟨u,ru,.inr ⟨?_,?_⟩⟩
     ·rcases KQ scope X.env x with ⟨_,e⟩ | ⟨k,q1,q2⟩
      ·rw [hfr] at e;cases e
      ·rw [hfr] at q1;cases q1
       have OD:(compEnvC scope (cellsFrom (C + 1) scope.names cl) C X.env).kindOf x=some (if (NameKind.free == .free && X.env.scope.kind == .function && X.env.kindOf x == some .cell)=true then .cell else .free):=q2
       rw [show (aS X (own ++ fr) scope (cellsFrom (C + 1) scope.names cl) C fp s2 H2).env.kindOf x=_ from OD]
       split
       ·exact .inl rfl
       ·exact .inr rfl
     ·rcases lo with ⟨k,_⟩ | ⟨_,c,hc1,hc2⟩
      ·rcases hk with k' | k' <;> (rw [k] at k';cases k')
      ·obtain ⟨d,hd1,hd2⟩:=Br x hfr
       rw [hc1] at hd1;cases hd1
       exact ⟨c,hd2,hc2.keeps old⟩
  ·rcases lk x c h with ⟨q,_,_⟩ | ⟨q,_⟩
   ·exact ⟨_,q⟩
   ·obtain ⟨v,z⟩:=I2.cell x c q
    exact ⟨v,z.keeps old⟩
  ·have e:p=(acc,{ cls:=.type "list",data:=.seq ([]:List Value).toArray }):=by simpa [aS] using hp
   subst e
   refine ⟨hacc,I2.hok.fresh (by omega),Hl,fun z=>?_,fun v z=>nomatch z⟩
   rcases VF.mp (I2.mr acc z) with e | e
   ·have:=ltN I2.lt
    rw [<- e] at this
    omega
   ·exact I2.Ax (by omega) e
  ·show (jF own.length js σ).length=(own ++ fr).length
   have q:=congrArg List.length S.ix
   simp only [Vd] at q
   unfold jF
   rw [Vj,WL,Vd,Vj,q]
 have Ho:∀ {H':Hp} {ob:Obj},(∀ b∈fp,H' b=none)->∀ b∈fp,lC (aS X (own ++ fr) scope (cellsFrom (C + 1) scope.names cl) C fp s2 H2) [(acc,ob)] H' b:=fun {H' ob} hn b hb =>
  ⟨hn b hb,(Ep b hb).1,fun z=>by
   rcases VF.mp (I2.mr b z) with e | e
   ·exact (f2 b hb).2.1 e
   ·exact (f2 b hb).2.2.1 e,.inl hb,fun x c h=>(pX x c h).2.2.2 b hb,fun p hp=>by
   have e:p=(acc,ob):=by simpa [aS] using hp
   subst e
   exact fun z=>(Ep b hb).2 z.symm⟩
 have loop:codeAny (model X.prog X.w) X.A (.compLoop (.ListComp elt [⟨tg,iter,ifs,0⟩] scope pos) 0 (.ref it) (.ref acc) (compEnvC scope (cellsFrom (C + 1) scope.names cl) C X.env)) (RR (.ref acc) C) { s2 with heap:=h4 }:=by
  refine OB (fun m s'=>∃ (i:Nat) (ys:List V) (its:List Value) (n:Nat) (σ':St) (H':Hp),Inv (aS X (own ++ fr) scope (cellsFrom (C + 1) scope.names cl) C fp s2 H2) [(acc,{ cls:=.type "list",data:=.seq its.toArray n })] σ' H' s'/\Vals ys its/\tn i s'.heap/\(∀ b∈fp,H' b=none)/\W i m ys σ' H') ?_ m0
   ⟨0,[],[],0,_,H2,I4,.nil,T.keep _ _ _ st2 fun b _ o e=>old b o e,fun b hb=>(f2 b hb).1,w0⟩
  rintro n s5 ⟨i,ys,its,en,σ5,H5,I5,rv,ku,Ed,w5⟩
  obtain ⟨hz,alt⟩:=turn i n ys σ5 H5 w5
  rcases alt with ⟨stop,qn⟩ | ⟨go,step⟩
  ·refine cN (T.done (aS X (own ++ fr) scope (cellsFrom (C + 1) scope.names cl) C fp s2 H2) rfl rfl rfl hc i _ s5 σ5 H5 _ I5 (Ho Ed) ku stop) fun r s6 ⟨hr,I6⟩=>?_
   subst hr
   show RR (.ref acc) C (.ok .next) s6
   have u:Un (frs X.stack) fp H2 H5 s2.heap s6.heap:=I6.base
   have J6:Inv X pins σ H5 s6:=I2.AA I6.os u I6.hok I6.bare fun b hb=>⟨(f2 b hb).2.2.2.1,(f2 b hb).2.1,(f2 b hb).2.2.2.2.1,(f2 b hb).2.2.2.2.2⟩
   have pacc:=I6.pin (acc,_) (VN _ Vl)
   have Hq:lC X pins H5 acc:=I2.qm (by omega) pacc.2.1
   have fC:lC X pins H5 C:=I2.qm (by omega) I6.free
   have K6:Inv X pins σ (upd H5 acc (.lst ys)) s6:=J6.Bq Hq ⟨Xo hz,its,en,rv,pacc.1⟩
   obtain ⟨m,hm,_⟩:=I6.loc
   exact fin acc C _ s6 (.ref acc) rfl K6 ⟨by rw [jZ Hl.symm];exact fC.1,fC.2⟩ ⟨m,hm⟩ (qn acc pacc.2.1)
  ·refine cN (T.item (aS X (own ++ fr) scope (cellsFrom (C + 1) scope.names cl) C fp s2 H2) rfl rfl rfl hc i _ s5 σ5 H5 _ I5 (Ho Ed) ku go) fun r s6 ⟨u,hr,h6⟩=>?_
   subst hr
   refine cN h6 fun _ s7 ⟨x,H7,I7,r7,y7,qu,OE⟩=>?_
   have OG:=I7.pinned (Ho OE) (T.obj _ _ qu)
   refine cN (hg _ _ _ _ _ _ s7 σ5 H7 x u _ OG r7 (step x H7 y7)) fun _ s8 ⟨σ8,H8,I8,q8⟩=>?_
   refine cN (hf _ _ _ _ _ _ s8 σ8 H8 _ I8 q8) fun b s9 ⟨H9,I9,q9⟩=>?_
   have Er:∀ {s':Shared} {σ':St} {H':Hp},Inv (aS X (own ++ fr) scope (cellsFrom (C + 1) scope.names cl) C fp s2 H2) ([(acc,{ cls:=.type "list",data:=.seq its.toArray en })] ++ mv fp s7.heap) σ' H' s'->tn (i + 1) s'.heap/\∀ b∈fp,H' b=none:=fun {s' σ' H'} I' =>
    ⟨T.keep _ _ _ qu fun b hb o e=>(I'.pin (b,o) (VN _ (VN _ (Ec hb e)))).1,fun b hb=>by
     obtain ⟨o,e,d⟩:=T.obj _ _ qu b hb
     exact (I'.pin (b,o) (VN _ (VN _ (Ec hb e)))).2.1⟩
   cases b with
   | false =>
    obtain ⟨m',hm,w9⟩:=q9
    exact ⟨m',hm,i + 1,ys,its,en,σ8,H9,I9.kZ,rv,(Er I9).1,(Er I9).2,w9⟩
   | true =>
    refine cN (he _ _ _ _ _ _ s9 σ8 H9 _ I9 q9) fun y Es ⟨yv,Hr,Et,OH,m',hm,OI⟩=>?_
    have pacc:=Et.pin (acc,_) (VN _ (Wv _ Vl))
    have hlen:=rv.length
    refine wpAny_list_append_plain (items:=its.toArray) ⟨en,pacc.1⟩ (fun h11 ⟨KW,Hs⟩ Bt=>?_) (by simp only [Vu];omega)
    have cA:∀ x c,(cellsFrom (C + 1) scope.names cl).lookup x=some c->c≠acc:=fun x c h=>(pX x c h).2.1
    have Ia:Inv (aS X (own ++ fr) scope (cellsFrom (C + 1) scope.names cl) C fp s2 H2) [] σ8 Hr Es:=Et.l8 fun p hp=>nomatch hp
    have Ib:Inv (aS X (own ++ fr) scope (cellsFrom (C + 1) scope.names cl) C fp s2 H2) [] σ8 Hr { Es with heap:=h11 }:=Ia.turned (it:=acc) (t':=Es.toks) (fun b o hb e=>(Bt.2 b hb).trans e) pacc.2.1 Hl (.inr (by show s2.heap.objs.size<=acc;omega)) cA fun p hp=>nomatch (show p∈([]:List (Addr×Obj)) from by simpa [aS] using hp)
    refine ⟨m',hm,i + 1,ys ++ [yv],its ++ [y],KW,σ8,Hr,Ib.l8 fun p hp=>?_,rv.append (.cons OH .nil),T.keep _ _ _ (Er Et).1 fun b hb o e=>(Bt.2 b (Ep b hb).2).trans e,(Er Et).2,OI⟩
    have e:p=(acc,{ cls:=.type "list",data:=.seq (its ++ [y]).toArray KW }):=by simpa using hp
    subst e
    exact ⟨by simpa using Hs,pacc.2.1,pacc.2.2.1,pacc.2.2.2.1,fun v z=>nomatch z⟩
 exact codeAny_compStart_list loop (T.self X.A 0 _ _ _ (T.keep _ _ _ st2 fun b _ o e=>old b o e) loop)
theorem pY (hc:X.calm=true) (S:f9 X scope own fr js) (hi:PI X tg iter wi) (hg:∀ cells C fp s H,PG (aS X (own ++ fr) scope cells C fp s H) tg g) (hf:∀ cells C fp s H,PF (aS X (own ++ fr) scope cells C fp s H) ifs tc) (he:∀ cells C fp s H,PE (aS X (own ++ fr) scope cells C fp s H) elt te)
  (hs:∀ x,foldedSetIterable iter X.env x=pure x:=by intro _;rfl):PE X (.ListComp elt [⟨tg,iter,ifs,0⟩] scope pos) (rB wi own.length js g tc te):=by
 intro pins s σ H Q I h
 obtain ⟨cl,hcl,pk,rC⟩:=KO (scope:=scope) (env:=X.env) fun y hy hk=>I.ok.has y.1 (S.free y hy hk)
 rw [eval_ListComp]
 refine wpAny_comprehension_free (use:=none) rfl hs hcl S.kind (fun y hy hk=>by rw [<- hk];exact Bp S.zw hy) (cN (hi pins s σ H _ I h) fun v s1 h1=>cN h1 fun itv s2 h2=>?_)
 obtain ⟨it,fp,tn,J,H2,e,I2,T,st2,f2,W,⟨m0,w0⟩,turn⟩:=h2
 subst e
 refine KR (RR:=fun acc C=>compPost (model X.prog X.w) X.A X.xe none (EP X pins σ Q) acc C) hc S hg hf he I2 T st2 f2 pk rC W m0 w0 turn ?_
 intro acc C H' s' v hv I' fC ⟨m,hm⟩ q
 subst hv
 obtain ⟨f0,f1,Ht,f3,f4,f5⟩:=fC
 exact ⟨m,hm,fun h'' wO=>⟨.ref acc,H',I'.turned (it:=C) (t':=s'.toks) (fun b o hb e=>(wO.2 b hb).trans e) f0 f1 f3 f4 f5,rfl,q⟩⟩
theorem Bu {i:Nat} {x:Str} {pos' spos:Pos} (hc:X.calm=true) (hN:X.N.Nodup) (hx:X.N[i]?=some x) (hl:X.env.scope.names.lookup x=some .local) (S:f9 X scope own fr js) (hi:PI X tg iter wi) (hg:∀ cells C fp s H,PG (aS X (own ++ fr) scope cells C fp s H) tg g) (hf:∀ cells C fp s H,PF (aS X (own ++ fr) scope cells C fp s H) ifs tc) (he:∀ cells C fp s H,PE (aS X (own ++ fr) scope cells C fp s H) elt te)
  (hsw:swapsWith (.ListComp elt [⟨tg,iter,ifs,0⟩] scope pos) (some (.Name x pos')) spos.line X.env=pure true:=by rfl)
  (hs:∀ x,foldedSetIterable iter X.env x=pure x:=by intro _;rfl):PS X (.Assign [.Name x pos'] (.ListComp elt [⟨tg,iter,ifs,0⟩] scope pos) spos) (sZ (rB wi own.length js g tc te) (oG i)):=by
 intro pins s σ H D I h
 obtain ⟨cl,hcl,pk,rC⟩:=KO (scope:=scope) (env:=X.env) fun y hy hk=>I.ok.has y.1 (S.free y hy hk)
 rw [exec_Assign_Name_used _ _ _ _ hsw]
 refine wpAny_bind (wpAny_standAt (wpAny_bind ?_))
 show wpAny _ X.A (do let _ <- comprehension (.ListComp elt [⟨tg,iter,ifs,0⟩] scope pos) scope X.env _ (newList []) false (eval iter X.env) (some (assign (.Name x pos') X.env))) _ _ s
 refine wpAny_bind (wpAny_mono (wpAny_comprehension_free (use:=some (assign (.Name x pos') X.env)) (Q:=fun _ s'=>SP X pins D .next s') rfl hs hcl S.kind (fun y hy hk=>by rw [<- hk];exact Bp S.zw hy)
  (cN (hi pins s σ H _ I h) fun v s1 h1=>cN h1 fun itv s2 h2=>?_)) (fun _ s' hq=>wpAny_pure (wpAny_pure hq)) fun _ _ e=>e)
 obtain ⟨it,fp,tn,J,H2,e,I2,T,st2,f2,W,⟨m0,w0⟩,turn⟩:=h2
 subst e
 refine KR (Q:=fun v H'=>oG i v σ H' D.nx) (RR:=fun acc C=>compPost (model X.prog X.w) X.A X.xe (some (assign (.Name x pos') X.env)) (fun _ s'=>SP X pins D .next s') acc C) hc S hg hf he I2 T st2 f2 pk rC W m0 w0 turn ?_
 intro acc C H' s' v hv I' fC ⟨m,hm⟩ q
 subst hv
 obtain ⟨f0,f1,Ht,f3,f4,f5⟩:=fC
 show wpAny _ X.A (assign (.Name x pos') X.env (.ref acc)) _ _ _
 refine wpAny_assign_Name (JU I' hN hx (.inl hl) (show RelV (.ref acc) (.ref acc) from rfl) (fun s'' OJ ⟨a,hs1,ha⟩=>?_) (.inr hl))
 have haC:a≠C:=by
  rcases ha with e | e
  ·rw [e];exact f1.symm
  ·exact f4 _ _ e
 exact ⟨m,hm.sameBut hs1 haC.symm,fun h'' wO=>⟨_,H',OJ.turned (it:=C) (t':=s''.toks) (fun b o hb e=>(wO.2 b hb).trans e) f0 f1 f3 f4 f5,q⟩⟩
end
section
variable {X:Cx}
end
section
variable {prog:Program} {w:World} {A:Around} {E:Value->Shared->Prop} {s:Shared}
end
section
variable {X:Cx}
end
mutual
def wD:PyData->Nat
 | .none=>4
 | .bool _=>5
 | .int _=>1921
 | .str x=>(reprText x).length
 | .list _=>0
 | .tuple xs=>Bv xs + 3
 | .dict _=>0
def Bv:List PyData->Nat
 | []=>0
 | x :: xs=>wD x + 2 + Bv xs
end
section
variable {K:Zfr} {ch:List Addr} {H H':Hp}
end
def kD (ns:List Int):PyData:=.tuple (cY ns)
theorem Hu:∀ (rs:List (List Int)),PyData.canLayAll0 (rs.map kD)=true
 | []=>rfl
 | r :: rs=>by
  show (PyData.canLayAll0 (cY r) && PyData.canLayAll0 (rs.map kD))=true
  rw [wK,Hu rs];rfl
theorem KY:∀ (rs:List (List Int)),PyData.depthAll (rs.map kD)<=1
 | []=>VW _
 | r :: rs=>by
  show max (PyData.depthAll (cY r) + 1) (PyData.depthAll (rs.map kD))<=1
  have:=KY rs
  rw [zv];omega
def Hv (i:Int):Prop:=-1000000000000000000<=i/\i<=1000000000000000000
end L2
namespace L2
open PySem PySem.Spec PyProof.Rows
section
variable {X:Cx} {K:Zfr}
theorem sD (hK:X.K=K):A7 X (wm K):=by subst hK;exact iL
theorem qM (hK:X.K=K):A7 X (wo K):=by subst hK;exact e7
theorem KZ (hK:X.K=K):kz X (compareOp .NotIn) (G6 K true):=by subst hK;exact Ej
theorem OL (hK:X.K=K) (hu:X.A.units + 64 < cLine):kz X (compareOp .Eq) (tH K false):=by subst hK;exact Bm hu
theorem OM (hK:X.K=K):fX X (.builtin "len") (fun xs H Q=>∃ p ys,xs=[V.ref p]/\(j3 K H p ys\/ft K H p ys)/\Q (.int ys.length) H):=by subst hK;exact iz
theorem K0 (hK:X.K=K):fX X (.type "tuple") (fun xs H Q=>∃ p ys,xs=[V.ref p]/\((j3 K H p ys/\∀ l,H l=none->Q (.ref l) (upd H l (.tup ys)))\/(ft K H p ys/\Q (.ref p) H))):=by subst hK;exact mL
theorem OO {tg l:Expr} {tl:TE} (hK:X.K=K) (hl:PE X l tl):PI X tg l (q5 K tl):=by subst hK;exact AR hl
end
section
variable {prog:Program} {w:World} {A:Around} {E:Value->Shared->Prop} {s:Shared}
theorem OQ {j t:Addr} {i:Nat} {ys:Array Value} {y:Value} {Q:Value->Shared->Prop} (hj:s.heap.IsTupleIter j t i) (ht:s.heap.IsTuple t ys) (hy:ys[i]?=some y)
  (hQ:∀ h',h'.IsTupleIter j t (i + 1)->Heap.SameBut j s.heap h'->Q y { s with heap:=h' }):wpAny (model prog w) A (Builtin.SmallTypes.nextOf (.ref j)) Q E s:=by
 obtain ⟨r,hr,rc,rd⟩:=id hj
 obtain ⟨q,hq,_,nq,dq⟩:=ht
 unfold Builtin.SmallTypes.nextOf
 refine wpAny_bind (wpAny_callSpecial?_slot (name:=Str.ofString "__next__") hj.typeIs F.slot_tuple_iterator_next (wpAny_call_entry F.slot_tuple_iterator_next hj.typeIs F.entry_tuple_iterator_next ?_ (F.args_tuple_iterator_next_1 _)))
 show wpAny _ _ (PySem.field (.ref j) 0 >>= _) _ _ s
 refine wpAny_bind (wpAny_field hr rd (x:=.ref t) rfl ?_);show wpAny _ _ (if (Value.ref t == Value.none)=true then _ else _) _ _ s
 rw [if_neg (fun z:(Value.ref t == Value.none)=true=>Vo z)];show wpAny _ _ (PySem.field (.ref j) 1 >>= _) _ _ s
 refine wpAny_bind (wpAny_field hr rd (x:=.int i 0) rfl ?_);show wpAny _ _ (seqItems? (.ref t) >>= _) _ _ s
 refine wpAny_bind (wpAny_seqItems hq dq ?_);simp only [Vr,hy]
 refine wpAny_bind (wpAny_setField hr rd (by simp) (wpAny_pure ⟨y,rfl,wpAny_pure (hQ _ ⟨_,WM _ hr (Obj.isFreed_of_fields (Obj.data_mapFields rd _)),(Obj.cls_mapFields ..).trans rc,by rw [Obj.data_mapFields rd];simp [rawInt]⟩ (Heap.SameBut.update ..))⟩))
theorem OR {j t:Addr} {i:Nat} {ys:Array Value} {Q:Value->Shared->Prop} (hh:A.handled=none) (hj:s.heap.IsTupleIter j t i) (ht:s.heap.IsTuple t ys) (hy:ys[i]?=none)
  (hE:∀ h' e,Heap.ExtBut j s.heap h'->(∃ o,h'.get? e=some o/\o.cls=.type "StopIteration")->E (.ref e) { s with heap:=h' }):wpAny (model prog w) A (Builtin.SmallTypes.nextOf (.ref j)) Q E s:=by
 obtain ⟨r,hr,rc,rd⟩:=id hj
 obtain ⟨q,hq,_,nq,dq⟩:=ht
 unfold Builtin.SmallTypes.nextOf
 refine wpAny_bind (wpAny_callSpecial?_slot (name:=Str.ofString "__next__") hj.typeIs F.slot_tuple_iterator_next (wpAny_call_entry F.slot_tuple_iterator_next hj.typeIs F.entry_tuple_iterator_next ?_ (F.args_tuple_iterator_next_1 _)))
 show wpAny _ _ (PySem.field (.ref j) 0 >>= _) _ _ s
 refine wpAny_bind (wpAny_field hr rd (x:=.ref t) rfl ?_);show wpAny _ _ (if (Value.ref t == Value.none)=true then _ else _) _ _ s
 rw [if_neg (fun z:(Value.ref t == Value.none)=true=>Vo z)];show wpAny _ _ (PySem.field (.ref j) 1 >>= _) _ _ s
 refine wpAny_bind (wpAny_field hr rd (x:=.int i 0) rfl ?_);show wpAny _ _ (seqItems? (.ref t) >>= _) _ _ s
 refine wpAny_bind (wpAny_seqItems hq dq ?_);simp only [Vr,hy]
 refine wpAny_bind (wpAny_rule (wpAny_bind (wpAny_setField hr rd (by simp) ?_)));show wpAny _ _ (newExc (.type "StopIteration") [] >>= _) _ _ _
 refine wpAny_bind ?_;simp only [newExc,newTuple]
 refine wpAny_bind (wpAny_newObj_type ?_ (by size_fits));refine wpAny_bind (m:=firstArgMember _ _) (wpAny_of_eq (a:=Value.none) (by first | rfl | (simp only [firstArgMember];rfl)) ?_)
 refine wpAny_newObj_type ?_ (by size_fits);simp only [raiseNew]
 refine wpAny_bind (wpAny_handled ?_);first | rw [show A.in1.handled=none from hh] | rw [hh]
 exact wpAny_bind (wpAny_pure (wpAny_throw (hE _ _ (((Heap.SameBut.update ..).extBut.push _).push _) ⟨_,VI _ rfl,rfl⟩)))
end
theorem rD {prog:Program} {w:World} {A:Around} (hh:A.handled=none) (j t:Addr) (hne:t≠j) (ys:Array Value) :
  Draws prog w A j [j,t] ys.size (fun i v=>ys[i]?=some v) (fun i h=>h.IsTupleIter j t i/\h.IsTuple t ys) where
 live:=fun _ _ st=>let ⟨o,ho,_⟩:=st.1;⟨o,ho⟩
 frame:=fun _ _ _ st k=>⟨st.1.at fun o e=>k j (by simp) o e,let ⟨o,e,r⟩:=st.2;⟨o,k t (by simp) o e,r⟩⟩
 item:=fun i s Q E hi st hQ=>OQ st.1 st.2 (y:=ys[i]) (by simp [hi]) fun h' a b=>hQ _ h' s.toks (by simp [hi]) ⟨a,st.2.extBut b.extBut hne⟩ b
 done:=fun s Q E st hE=>OR hh st.1 st.2 (by simp) hE
theorem OS (l:Addr) (items:Array Value) (n:Nat) (dct:Option Addr) (sl:Array (Option Value)) :
  Meets (Builtin.«enumerate.__new__» ⟨[.type "enumerate",.ref l],[]⟩) (fun _ R s=>s.heap.get? l=some { cls:=.type "tuple",dict:=dct,data:=.seq items n,slots:=sl } /\
   R (.ok (.ret (.ref (s.heap.push { cls:=.type "tuple_iterator",data:=.fields #[.ref l,.int 0 0] }).objs.size)))
    { s with heap:=(s.heap.push { cls:=.type "tuple_iterator",data:=.fields #[.ref l,.int 0 0] }).push { cls:=.type "enumerate",data:=.fields #[.none,.bool false,.ref s.heap.objs.size,rawInt 0,.none,.none] } }) :=
 .of_wp fun prog w A R s h=>by
  obtain ⟨hp,g,d,tk,os⟩:=s;obtain ⟨hl,h⟩:=h
  have hsub:=sub_enumerate
  have hL:Heap.IsTuple (Shared.heap ⟨hp,g,d,tk,os⟩) l items:=⟨_,hl,rfl,n,rfl⟩
  wp_walk using AutoSeq1.wpAny_loadPart' hl
  refine wpAny_stack_any fun st=>wpAny_pure ?_
  split
  ·rename_i c _ _ _ _ _
   cases (c == Value.type "enumerate") <;> (wp_walk using AutoSeq1.wpAny_loadPart' hl,wpAny_pyIter_tuple hL;exact ⟨_,rfl,h⟩)
  ·wp_walk using AutoSeq1.wpAny_loadPart' hl,wpAny_pyIter_tuple hL
   exact ⟨_,rfl,h⟩
section
variable {prog:Program} {w:World} {A:Around} {E:Value->Shared->Prop} {s:Shared}
theorem OT {l:Addr} {ys:Array Value} {Q:Value->Shared->Prop} (ht:s.heap.IsTuple l ys)
  (h:∀ h',IsEnum h' (s.heap.objs.size + 1) s.heap.objs.size 0 .none->h'.IsTupleIter s.heap.objs.size l 0->h'.objs.size=s.heap.objs.size + 2 ->
   (∀ b o,s.heap.get? b=some o->h'.get? b=some o)->Q (.ref (s.heap.objs.size + 1)) { s with heap:=h' }):wpAny (model prog w) A (call (.type "enumerate") [.ref l]) Q E s:=by
 obtain ⟨⟨c,dct,dt,sl⟩,hl,hc,n,hd⟩:=ht
 cases (show c=.type "tuple" from hc)
 cases (show dt=.seq ys n from hd)
 refine callType_new F.called_enumerate (by decide) (F.typeCall_enumerate_1 _) (F.newCall_enumerate_1 _) (fun obj=>F.args_object_init_2 obj _) F.entry_enumerate_new (OS l ys n dct sl) ⟨hl,?_⟩
 have z:(s.heap.push { cls:=.type "tuple_iterator",data:=.fields #[.ref l,.int 0 0] }).objs.size=s.heap.objs.size + 1:=Wy ..
 show _/\_;rw [z]
 have en:IsEnum ((s.heap.push { cls:=.type "tuple_iterator",data:=.fields #[.ref l,.int 0 0] }).push { cls:=.type "enumerate",data:=.fields #[.none,.bool false,.ref s.heap.objs.size,rawInt 0,.none,.none] }) (s.heap.objs.size + 1) s.heap.objs.size 0 .none:=by
  have g:=VI (s.heap.push { cls:=.type "tuple_iterator",data:=.fields #[.ref l,.int 0 0] }) (o:={ cls:=.type "enumerate",data:=.fields #[.none,.bool false,.ref s.heap.objs.size,rawInt 0,.none,.none] }) rfl
  rw [z] at g
  exact g
 exact ⟨⟨_,en,rfl⟩,h _ en ⟨_,Vw _ (VI _ rfl),rfl,rfl⟩ (by rw [Wy,z]) fun b o e=>Vw _ (Vw _ e)⟩
end
section
variable {X:Cx} {pins:List (Addr×Obj)} {σ:St} {H:Hp} {s:Shared} {h':Heap}
theorem Inv.tJ {t':Nat} {ch:List Addr} (I:Inv X pins σ H s) (k:∀ b o,b ∉ ch->s.heap.get? b=some o->h'.get? b=some o) (f:∀ b∈ch,lC X pins H b):Inv X pins σ H { s with heap:=h',toks:=t' }:=by
 have Az:∀ b u,H b=some u->b ∉ ch:=fun b u e z=>by rw [(f b z).1] at e;cases e
 refine I.step (g':=s.gens) (d':=s.drawn) (ch:=ch) (fun b hb=>⟨(f b hb).2.2.2.1,(f b hb).2.1,(f b hb).2.2.2.2.1,(f b hb).2.2.2.2.2⟩) (fun b o _ _ hc e _=>k b o hc e) (fun b o _ _ hc e _=>⟨o.slots,k b o hc e⟩) (fun _ _ _ _ n=>n)
  (fun b o hc e=>⟨o,k b o hc e⟩) (fun _ _ e=>e) (fun _ _ _ e=>e) (fun b ps e=>⟨#[],by rw [e];simp⟩) (fun m hm=>?_) (fun b u e=>?_) I.bare
 ·obtain ⟨o,es,ep,ho,r⟩:=hm
  exact ⟨o,es,ep,k _ o (fun z=>(f _ z).2.1 rfl) ho,r⟩
 ·refine (I.hok b u e).stay (fun c v hc q=>k c v ?_ q) (fun _ q=>q) fun _ _ q=>q
  rcases hc with z | z
  ·rw [z];exact Az b u e
  ·exact Az c _ z
end
def K1 (K:Zfr) (a:Addr):It :=
 ⟨fun i H=>∃ xs x,ft K H a xs/\xs[i]?=some x,fun i H x H'=>∃ p y,x=.ref p/\H p=none/\H'=upd H p (.tup [.int i,y])/\∀ xs,ft K H a xs->xs[i]?=some y,fun i H=>∃ xs,ft K H a xs/\xs.length=i⟩
theorem OU {P:Program} {w:World} {K:Zfr} {es:List Expr} {x1} {pos:Pos} (a e it:Addr) (hne:e≠it) :
  Turn P w K (.Tuple es x1 pos) (K1 K a) [e,it] e (fun i h=>(∃ old,IsEnum h e it i old)/\h.IsTupleIter it a i) where
 mem:=by simp
 obj:=fun i h st b hb=>by
  obtain ⟨⟨old,he⟩,o,e2,c,d⟩:=st
  rcases VF.mp hb with rfl | hb
  ·exact ⟨_,he,fun v z=>by
    have z':Data.fields _=Data.cell v:=z
    cases z'⟩
  ·have q:b=it:=by simpa using hb
   subst q
   exact ⟨o,e2,fun v z=>by rw [d] at z;cases z⟩
 keep:=fun i h h' st k=>⟨let ⟨old,he⟩:=st.1;⟨old,k e (by simp) _ he⟩,st.2.at fun o q=>k it (by simp) o q⟩
 item:=by
  intro X hP hw hK hc i pins s σ H E I hf st hg
  subst hP hw hK
  obtain ⟨xs,x,hq,hx⟩:=hg
  obtain ⟨its,rv,p,hz⟩:=I.tuple hq
  obtain ⟨u,hu,ru⟩:=rv.get hx
  obtain ⟨⟨old,he⟩,hit⟩:=st
  have ht:s.heap.IsTuple a its.toArray:=p
  have Hw:a≠it:=fun z=>by
   obtain ⟨o,e1,c1,_⟩:=hit
   obtain ⟨o2,e2,c2,_⟩:=ht
   rw [z,e1] at e2;cases e2
   exact absurd (c1.symm.trans c2) (by simp)
  have OV:e≠a:=fun z=>by
   obtain ⟨o2,e2,c2,_⟩:=ht
   rw [<- z,he] at e2;cases e2
   exact absurd c2 (by simp)
  have hl:=rv.length
  have hi:i < its.toArray.size:=by
   have:=Ve.mp hu
   obtain ⟨q,_⟩:=this
   simpa using q
  refine wpAny_pyNext_enum_itemD (rD (A:=X.A.in1) (I.ok.hd hc) it a Hw its.toArray) he ⟨hit,ht⟩ hi hne (by simp [hne,OV]) fun y h1 tk hy ho hst hT hsz kk=>?_
  have ey:y=u:=by
   have:its.toArray[i]?=some u:=by simpa using hu
   exact Vs (hy.symm.trans this)
  subst ey
  refine ⟨_,rfl,wpAny_letOwnedTupleGo_enum ho fun h2 OW sb=>?_⟩
  have hel:@LT.lt Nat _ e s.heap.objs.size:=VD he
  have hil:@LT.lt Nat _ it s.heap.objs.size:=by obtain ⟨o,e1,_⟩:=hit;exact VD e1
  have Hx:H s.heap.objs.size=none:=I.hok.fresh (Vh _)
  have sb':Heap.SameBut e h1 h2:=sb
  have I1:Inv X pins σ (upd H s.heap.objs.size (.tup [.int i,x])) { s with heap:=s.heap.push { cls:=.type "tuple",data:=.seq #[.int i tk,y] },toks:=s.toks } :=
   I.laid (fun b u e=>Vw _ e) (Vh _) ⟨(by decide:2<=sizeLine),[.int i tk,y],.cons ⟨tk,rfl⟩ (.cons ru .nil),⟨_,VI _ rfl,rfl,rfl,_,rfl⟩⟩
  have nn:∀ b∈[e,it],@LT.lt Nat _ b s.heap.objs.size:=fun b hb=>by
   rcases VF.mp hb with rfl | hb
   ·exact hel
   ·have q:b=it:=by simpa using hb
    rw [q];exact hil
  have hn:∀ b∈[e,it],upd H s.heap.objs.size (.tup [.int i,x]) b=none:=fun b hb=>by
   unfold upd
   rw [if_neg (VZ (nn b hb))]
   exact (hf b hb).1
  have I2:Inv X pins σ (upd H s.heap.objs.size (.tup [.int i,x])) { s with heap:=h2,toks:=tk + 1 }:=by
   refine Inv.tJ (s:={ s with heap:=s.heap.push { cls:=.type "tuple",data:=.seq #[.int i tk,y] },toks:=s.toks }) (h':=h2) I1 (ch:=[e,it]) (t':=tk + 1) (fun b o hb q=>?_) fun b hb=>⟨hn b hb,(hf b hb).2⟩
   have nb:b≠e/\b≠it:=by simpa using hb
   refine (sb'.2 b nb.1).trans ?_
   rcases Heap.get?_push_cases q with ⟨rfl,rfl⟩ | q
   ·exact hT
   ·exact kk b o nb.1 nb.2 q
  refine ⟨.ref s.heap.objs.size,_,I2,rfl,⟨_,x,rfl,Hx,rfl,fun ys tK=>by rw [I.nt tK hq];exact hx⟩,⟨⟨y,?_⟩,?_⟩,hn⟩
  ·have:((i + 1:Nat):Int)=(i:Int) + 1:=by omega
   rw [this];exact OW
  ·exact hst.1.extBut sb'.extBut (Ne.symm hne)
 done:=by
  intro X hP hw hK hc i pins s σ H E I hf st hg
  subst hP hw hK
  obtain ⟨xs,hq,hx⟩:=hg
  obtain ⟨its,rv,p,hz⟩:=I.tuple hq
  obtain ⟨⟨old,he⟩,hit⟩:=st
  have ht:s.heap.IsTuple a its.toArray:=p
  have Hw:a≠it:=fun z=>by
   obtain ⟨o,e1,c1,_⟩:=hit
   obtain ⟨o2,e2,c2,_⟩:=ht
   rw [z,e1] at e2;cases e2
   exact absurd (c1.symm.trans c2) (by simp)
  have hl:=rv.length
  have ei:its.toArray.size=i:=by simp;omega
  refine wpAny_pyNext_enum_endD (rD (A:=X.A.in1) (I.ok.hd hc) it a Hw its.toArray) he (by rw [ei];exact ⟨hit,ht⟩) fun h1 eb=>⟨rfl,?_⟩
  obtain ⟨f0,f1,f2,f3,f4,f5⟩:=hf it (by simp)
  exact I.turned (t':=s.toks) (fun b o hb q=>eb b o hb q) f0 f1 f3 f4 f5
 self:=fun _ _ _ _ _ st h=>let ⟨_,he⟩:=st.1;wpAny_pyIter_enum he h
def uS (K:Zfr) (ta:TA):TI:=fun σ H R=>ta σ H fun vs H1=>∃ a,vs=[.ref a]/\(∃ xs,ft K H1 a xs)/\R (K1 K a) H1
theorem Eu {X:Cx} {es:List Expr} {x1} {p0:Pos} {l:Expr} {ta:TA} {p pos:Pos} (hg:Gl X "enumerate") (hm:X.mg "enumerate" = none) (ha:PA X [l] ta) (hs:starEach [l] X.env=[(false,eval l X.env)]:=by rfl) :
  PI X (.Tuple es x1 p0) (.Call (.Name "enumerate" p) [l] [] pos) (uS X.K ta):=by
 intro pins s σ H R I h
 refine Call_ (zj I hg hm boot_enumerate (PyProof.Rows.callWith_type1 (cN (ha pos pins s σ H _ I h) fun us s1 ⟨vs,H1,I1,r1,q1⟩=>?_) hs rfl))
 obtain ⟨a,e,⟨xs,hq⟩,q⟩:=q1
 subst e
 cases r1 with
 | cons r rr =>
  cases rr
  cases r
  obtain ⟨its,rv,p,hz⟩:=I1.tuple hq
  refine OT (show s1.heap.IsTuple a its.toArray from p) fun h1 he hi hsz kk=>?_
  refine wpAny_pyIter_enum he ?_
  refine ⟨s1.heap.objs.size + 1,[s1.heap.objs.size + 1,s1.heap.objs.size],_,_,H1,rfl,I1.kept (t':=s1.toks) kk,OU a _ _ (Nat.succ_ne_self _),⟨⟨_,he⟩,hi⟩,fun b hb=>?_,q⟩
  have hb':@LE.le Nat _ s1.heap.objs.size b:=by
   rcases VF.mp hb with rfl | hb
   ·exact W8 _
   ·have e:b=s1.heap.objs.size:=by simpa using hb
    rw [e];exact Vh _
  exact I1.qm hb' (I1.hok.fresh hb')
section
open Sem (wp)
open PySem.AutoSeq1 (wpAny_loadPart')
open PySem.MeetsSeq PySem.MeetsSeq2 PySem.MeetsSeq3
theorem IntsAre.get {vs:List Value} {ns:List Int} (h:IntsAre vs ns):∀ {i:Nat} {n:Int},ns[i]?=some n->∃ t,vs[i]?=some (.int n t):=by
 induction h with
 | nil=>intro i n e;simp at e
 | cons a t h ih =>
  intro i n e
  cases i with
  | zero=>exact ⟨t,by simpa using e⟩
  | succ i=>simpa using ih (by simpa using e)
theorem rE (l:Addr) (items:Array Value) (n:Nat) (dd:Option Addr) (sl:Array (Option Value)) (ns:List Int) (hi:IntsAre items.toList ns) (v:Int) (t:Tok) (j:Nat) (hj:ns[j]?=some v) (hb:∀ i,i < j->ns[i]?≠some v) :
  Meets (Builtin.«tuple.index» ⟨[.ref l,.int v t],[]⟩)
   (fun _ R s=>s.heap.get? l=some { cls:=.type "tuple",dict:=dd,data:=.seq items n,slots:=sl }/\R (.ok (.ret (.int (j:Int) s.toks))) { s with toks:=s.toks + 1 }) :=
 .of_wp fun prog w A R s h=>by
  obtain ⟨hp,g,d,tk,os⟩:=s;obtain ⟨hl,h⟩:=h
  have z1:items.size=ns.length:=by rw [<- hi.length];simp
  have hjl:j < ns.length:=(Ve.mp hj).1
  wp_walk using wpAny_loadPart' hl
  have key:wpAny (model prog w) A.in1 (forIn (m:=Sem) [:min items.size items.size] ((none,()):Option Fin×Unit) (fun (i:Nat) _ =>
    match items[i]? with
    | some y=>do
     let b <- eqBool y (Value.int v t)
     if b=true then do
      let r <- retInt (i:Int)
      pure (ForInStep.done (some r,()))
     else pure (ForInStep.yield (none,()))
    | _=>pure (ForInStep.yield (none,()))))
   (fun a s'=>a.1=some (.done (.ret (.int (j:Int) tk)))/\s'=⟨hp,g,d,tk + 1,os⟩) (fun e s'=>R (Except.error e) s') ⟨hp,g,d,tk,os⟩:=by
   rw [Std.Legacy.Range.forIn_eq_forIn_range']
   have ez:([:min items.size items.size]:Std.Legacy.Range).size=ns.length:=by
    simp [Std.Legacy.Range.size,z1]
   rw [ez]
   refine wpAny_forIn_list _ (fun rest b s'=>b.1=none/\s'=⟨hp,g,d,tk,os⟩/\∃ k,k<=j/\rest=List.range' k (ns.length - k) 1) _ ?_ ?_ _ _ ⟨rfl,rfl,0,VW _,by simp⟩
   ·rintro x rest b s' ⟨hb',rfl,k,hk,e⟩
    have el:ns.length - k=(ns.length - (k + 1)) + 1:=by omega
    rw [el,List.range'_succ] at e
    injection e with e1 e2
    subst e1
    have mU:x < ns.length:=by omega
    obtain ⟨t',ht'⟩:=IntsAre.get hi (Vg mU)
    have OX:items[x]?=some (.int ns[x] t'):=by rw [<- ht',WN]
    simp only [OX]
    obtain ⟨e,he,hiff⟩:=HT.NT A.in1 ⟨hp,g,d,tk,os⟩ ns[x] t' v t
    refine wpAny_bind (he prog w _ _ ?_)
    cases e with
    | true =>
     have ev:ns[x]=v:=hiff.mp rfl
     have OY:x=j:=by
      rcases W3 x j with h' | h'
      ·exact absurd (by rw [Vg mU,ev]) (hb x h')
      ·omega
     subst OY
     wp_walk
     first | exact ⟨rfl,rfl⟩ | trivial
    | false =>
     have ev:ns[x]≠v:=fun q=>absurd (hiff.mpr q) Vo
     have:x≠j:=fun z=>ev (by subst z;rw [Vg mU] at hj;exact Vs hj)
     wp_walk
     exact ⟨rfl,rfl,x + 1,by omega,e2⟩
   ·rintro b s' ⟨hb',rfl,k,hk,e⟩
    have:(List.range' k (ns.length - k) 1).length=0:=by rw [<- e];rfl
    rw [List.length_range'] at this
    omega
  refine wpAny_mono key (fun a s' ha=>?_) (fun _ _ z=>z)
  obtain ⟨ha,rfl⟩:=ha
  obtain ⟨a1,a2⟩:=a
  cases (show a1=_ from ha)
  exact wpAny_pure ⟨_,rfl,h⟩
end
section
variable {X:Cx} {K:Zfr}
def pq (K:Zfr):V->List V->Hp->VK->Prop:=fun x vs H Q=>∃ (a:Addr) (ns:List Int) (v:Int) (j:Nat),x=.ref a/\vs=[.int v]/\ft K H a (ns.map V.int)/\ns[j]?=some v/\(∀ i,i < j->ns[i]?≠some v)/\Q (.int (j:Int)) H
theorem OZ:uH X "tuple.index" (pq X.K):=by
 intro pins s σ H x xs v us Q I rx rv h
 obtain ⟨a,ns,y,j,rfl,rfl,hq,hj,hb,q⟩:=h
 cases rx
 obtain ⟨u,rfl,t,rfl⟩:=vals1 rv
 obtain ⟨its,r,⟨⟨c,dd,dt,sl⟩,e,hc,hd,n,hdt⟩,hz⟩:=I.nK hq
 cases (show c=.type "tuple" from hc)
 cases (show dt=.seq its.toArray n from hdt)
 refine call_meets F.slot_tuple_index ⟨_,e,rfl⟩ F.entry_tuple_index (F.args_tuple_index_2 _ _) (rE a its.toArray n dd sl ns (by simpa using G0 r) y t j hj hb) ⟨e,?_⟩
 exact ⟨.int j,H,I.tok _,⟨_,rfl⟩,q⟩
theorem Hy (hK:X.K=K):uH X "tuple.index" (pq K):=by subst hK;exact OZ
theorem Ew {o e:Expr} {es:List Expr} {to:TE} {t:TA} {name:Str} {apos cpos:Pos} {T id:String} {r:V->List V->Hp->VK->Prop} (hK:X.K=K) (pa:PlainAttrs T) (slot:Slot T name id) (hty:typeOf (.builtin id)=pure (.type "method_descriptor")) (hm:uH X id r) (ho:PE X o to) (ha:PA X (e :: es) t)
  (hbase:attributeBase o name X.env (eval o X.env)=eval o X.env:=by rfl)
  (hfew:((backTo cpos (starEach (e :: es) X.env)).all (fun x=>!x.1) && (backToKw cpos (keywordEach [] X.env)).all (fun x=>x.1.isSome)
   && decide ((e :: es).length + ([]:List Keyword).length + (if ([]:List Keyword).isEmpty then 0 else 1) < 30))=true:=by rfl)
  (hline:(apos.endLine == cpos.line)=true:=by rfl) (hs:starEach (e :: es) X.env=(false,eval e X.env) :: starEach es X.env:=by rfl) (hplain:(backTo cpos (starEach es X.env)).any (·.1)=false:=by rfl) :
  PE X (.Call (.Attribute o name apos) (e :: es) [] cpos) (G7 K T r to t):=by subst hK;exact lE pa slot hty hm ho ha hbase hfew hline hs hplain
end
open Builtin.Str
section
variable {X:Cx} {K:Zfr}
end
section
variable {X:Cx} {tg:Expr}
end
end L2
namespace L2
open PySem PySem.Spec PyProof.Rows
open Builtin.Str
section
variable {prog:Program} {w:World} {A:Around} {E:Value->Shared->Prop} {s:Shared}
end
section
variable {X:Cx} {pins:List (Addr×Obj)} {σ:St} {H:Hp} {s:Shared}
end
end L2
namespace L2
open PySem PySem.Spec PyProof.Rows
section
variable {X:Cx} {K:Zfr}
def eD (us:List Value) (ds:List PyData) (dx:PyData) (u:Value):Bool:=@decide (∃ (i:Nat) (d:PyData),us[i]?=some u/\ds[i]?=some d/\PyData.eqv d dx=true) (Classical.propDecidable _)
theorem fZ.get:∀ {H:Hp} {vs:List V} {ds:List PyData},fZ K H vs ds->∀ {i:Nat} {v:V},vs[i]?=some v->∃ d,ds[i]?=some d/\Rep K H v d
 | _,_,_,.nil,i,v,e=>by simp at e
 | _,_,_,.cons (d:=d) a b,0,v,e=>⟨d,by simp,by have:_=v:=Vs (by simpa using e);rw [<- this];exact a⟩
 | _,_,_,.cons a b,i + 1,v,e=>by
  obtain ⟨d,e1,r⟩:=fZ.get b (i:=i) (by simpa using e)
  exact ⟨d,by simpa using e1,r⟩
theorem fZ.rF:∀ {H:Hp} {vs:List V} {ds:List PyData},fZ K H vs ds->vs.length=ds.length
 | _,_,_,.nil=>rfl
 | _,_,_,.cons _ r=>by rw [VJ,VJ,fZ.rF r]
theorem Vals.Bw {xs:List V} {us:List Value} (r:Vals xs us) {i:Nat} {u:Value} (h:us[i]?=some u):∃ v,xs[i]?=some v/\RelV v u:=by
 have hi:=(Ve.mp h).1
 have hl:=r.length
 obtain ⟨u',hu,ru⟩:=r.get (i:=i) (x:=xs[i]'(by omega)) (Vg _)
 rw [h] at hu
 cases hu
 exact ⟨_,Vg _,ru⟩
open Classical in
theorem Bx {pins:List (Addr×Obj)} {σ:St} {H:Hp} {s:Shared} {xs:List V} {us:List Value} {ds:List PyData} {x:V} {v:Value} {dx:PyData} (hu:X.A.units + 64 < cLine) (I:Inv X pins σ H s) (r:Vals xs us) (hr:fZ X.K H xs ds) (rx:RelV x v) (hx:Rep X.K H x dx) (c1:∀ d∈ds,d.canLay0=true) (c2:dx.canLay0=true) (c3:dx.depth<=60) :
  ∀ u∈us,SeqAt.EqAt X.A.in1 s u v (eD us ds dx u):=by
 intro u hm
 obtain ⟨bs,rb⟩:=hx.reads I rx
 have key:∀ (i:Nat) (d:PyData),us[i]?=some u->ds[i]?=some d->SeqAt.EqAt X.A.in1 s u v (PyData.eqv d dx):=fun i d h1 h2=>by
  obtain ⟨y,hy,ry⟩:=r.Bw h1
  obtain ⟨d',hd',rd⟩:=hr.get hy
  rw [h2] at hd'
  cases hd'
  obtain ⟨as,ra⟩:=rd.reads I ry
  intro prog w E Q q
  refine SeqAt.eqBoolOverData prog w X.A.in1 E s u v d dx as bs Q ra rb (c1 _ (Vk h2)) c2 ?_ q
  have:X.A.in1.units<=X.A.units + 2:=by
   first | exact Nat.le_add_right _ _ | (show X.A.units<=_;omega) | (show X.A.units + 1<=_;omega)
  omega
 obtain ⟨i,hi⟩:=VX hm
 have hl1:=r.length
 have hl2:=hr.rF
 have hil:=(Ve.mp hi).1
 unfold eD
 by_cases h:∃ (i:Nat) (d:PyData),us[i]?=some u/\ds[i]?=some d/\PyData.eqv d dx=true
 ·rw [decide_eq_true h]
  obtain ⟨j,d,h1,h2,h3⟩:=h
  have:=key j d h1 h2
  rwa [h3] at this
 ·rw [decide_eq_false h]
  have h2:ds[i]?=some (ds[i]'(by omega)):=Vg _
  have k:=key i _ hi h2
  cases hb:PyData.eqv (ds[i]'(by omega)) dx with
  | true=>exact absurd ⟨i,_,hi,h2,hb⟩ h
  | false=>rwa [hb] at k
open Classical in
theorem K2 {xs:List V} {us:List Value} {ds:List PyData} {dx:PyData} (h1:us.length=ds.length):us.any (eD us ds dx)=ds.any fun d=>PyData.eqv d dx:=by
 rw [WG,Xs,Xs]
 constructor
 ·rintro ⟨u,hu,h⟩
  unfold eD at h
  obtain ⟨i,d,_,h2,h3⟩:=of_decide_eq_true h
  exact ⟨d,Vk h2,h3⟩
 ·rintro ⟨d,hd,h⟩
  obtain ⟨i,hi⟩:=VX hd
  have hil:=(Ve.mp hi).1
  refine ⟨us[i]'(by omega),V8 _,?_⟩
  unfold eD
  exact decide_eq_true ⟨i,d,Vg _,hi,h⟩
def wQ (K:Zfr) (neg:Bool):R2:=fun x y H Q=>∃ p xs ds dx,y=.ref p/\(j3 K H p xs\/ft K H p xs)/\fZ K H xs ds/\Rep K H x dx/\(∀ d∈ds,PyData.canLay0 d=true)/\PyData.canLay0 dx=true/\PyData.depth dx<=60/\Q (.bl (if neg then !ds.any (fun d=>PyData.eqv d dx) else ds.any fun d=>PyData.eqv d dx)) H
theorem K3 (hu:X.A.units + 64 < cLine):kz X (compareOp .In) (wQ X.K false):=by
 intro pins s σ H x y v u Q I rx ry h
 obtain ⟨p,xs,ds,dx,rfl,hq,hr,hx,c1,c2,c3,q⟩:=h
 cases ry
 have e2:∀ {its:List Value},Vals xs its->its.toArray.any (eD its ds dx)=ds.any fun d=>PyData.eqv d dx:=fun {its} r=>by
  rw [show its.toArray.any (eD its ds dx)=its.any (eD its ds dx) by simp]
  exact K2 (xs:=xs) (by rw [<- r.length];exact hr.rF)
 rcases hq with hq | hq
 ·obtain ⟨its,r,pl,hz⟩:=I.list hq
  refine SeqAt.in_listAt (eD its ds dx) pl.isList (fun w hw=>Bx hu I r hr rx hx c1 c2 c3 w (by simpa using hw)) ⟨.bl _,H,I,rfl,?_⟩
  rw [e2 r]
  exact q
 ·obtain ⟨its,r,pl,hz⟩:=I.tuple hq
  refine SeqAt.in_tupleAt (eD its ds dx) pl (fun w hw=>Bx hu I r hr rx hx c1 c2 c3 w (by simpa using hw)) ⟨.bl _,H,I,rfl,?_⟩
  rw [e2 r]
  exact q
theorem K4 (hu:X.A.units + 64 < cLine):kz X (compareOp .NotIn) (wQ X.K true):=by
 intro pins s σ H x y v u Q I rx ry h
 obtain ⟨p,xs,ds,dx,rfl,hq,hr,hx,c1,c2,c3,q⟩:=h
 cases ry
 have e2:∀ {its:List Value},Vals xs its->its.toArray.any (eD its ds dx)=ds.any fun d=>PyData.eqv d dx:=fun {its} r=>by
  rw [show its.toArray.any (eD its ds dx)=its.any (eD its ds dx) by simp]
  exact K2 (xs:=xs) (by rw [<- r.length];exact hr.rF)
 rcases hq with hq | hq
 ·obtain ⟨its,r,pl,hz⟩:=I.list hq
  refine SeqAt.notIn_listAt (eD its ds dx) pl.isList (fun w hw=>Bx hu I r hr rx hx c1 c2 c3 w (by simpa using hw)) ⟨.bl _,H,I,rfl,?_⟩
  rw [e2 r]
  exact q
 ·obtain ⟨its,r,pl,hz⟩:=I.tuple hq
  refine SeqAt.notIn_tupleAt (eD its ds dx) pl (fun w hw=>Bx hu I r hr rx hx c1 c2 c3 w (by simpa using hw)) ⟨.bl _,H,I,rfl,?_⟩
  rw [e2 r]
  exact q
end
open Builtin.Str
section
variable {prog:Program} {w:World} {A:Around} {E:Value->Shared->Prop} {s:Shared}
end
end L2
namespace L2
open PySem PySem.Spec PyProof.Rows
open Builtin
section
variable {X:Cx}
end
end L2
namespace L2
open PySem PySem.Spec PyProof.Rows
section
variable {prog:Program} {w:World} {A:Around} {E:Value->Shared->Prop} {s:Shared}
end
section
variable {X:Cx} {pos:Pos}
end
section
variable {prog:Program} {w:World} {A:Around} {E:Value->Shared->Prop} {s:Shared}
end
section
variable {prog:Program} {w:World} {A:Around} {E:Value->Shared->Prop} {s:Shared}
end
section
variable {X:Cx} {pos:Pos}
end
def DU (a:Addr) (xs:List (List Int×Addr×Value)):HO:=.ext fun h=>(a == sysModules)=false/\xs.length<=sizeLine/\∃ o es ep,h.get? a=some o/\o.ExactDict/\o.data=.dict es ep /\
 (∃ (P:Program) (w:World),es.toList=xs.map (entryOfKey (tupleKind (intKind P w))))/\(xs.map (·.1)).Nodup
section
variable {X:Cx} {pins:List (Addr×Obj)} {σ:St} {H:Hp} {s:Shared} {a b:Addr} {k:List Int} {xs:List (List Int×Addr×Value)}
end
section
variable {X:Cx} {o i e value:Expr} {pos pos' tpos:Pos} {td ty tv:TE}
end
end L2
namespace L2
open PySem PySem.Spec PyProof.Rows PySem.SeqAt PySem.MeetsSeq
def nP (A:Around) (s:Shared) (y x:Value) (r:Bool):Prop:=∀ (prog:Program) (w:World) (E Q:Value->Shared->Prop),Q (.bool r) s->wpAny (model prog w) A (richCompare .Lt y x) Q E s
def c5 (e lt:Nat->Bool) (fin:Bool):List Nat->Bool
 | []=>fin
 | i :: r=>if e i then c5 e lt fin r else lt i
theorem O0 (l m:Addr) (a b:Array Value) (n1 n2:Nat) (d1 d2:Option Addr) (s1 s2:Array (Option Value)) (e lt:Nat->Bool) :
  Meets (Builtin.«tuple.__lt__» ⟨[.ref l,.ref m],[]⟩) (fun A R s=>s.heap.get? l=some { cls:=.type "tuple",dict:=d1,data:=.seq a n1,slots:=s1 }/\s.heap.get? m=some { cls:=.type "tuple",dict:=d2,data:=.seq b n2,slots:=s2 } /\
    (∀ j (h1:j < a.size) (h2:j < b.size),EqAt A.in1 s a[j] b[j] (e j))/\(∀ j (h1:j < a.size) (h2:j < b.size),e j=false->nP A.in1 s a[j] b[j] (lt j))/\R (.ok (.ret (.bool (c5 e lt (decide (a.size < b.size)) (List.range (min a.size b.size)))))) s) :=
 .of_wp fun prog w A R s h=>by
  obtain ⟨hp,g,d,tk,os⟩:=s
  obtain ⟨hl,hm,he,hlt,h⟩:=h
  have f2:=AutoSeq1.sub_tuple_tuple
  have hZ:(a.toList.zip b.toList).length=min a.size b.size:=by simp
  wp_walk using wpAny_loadPart' hl,wpAny_loadPart' hm,wpAny_forIn_list _ (fun rest q s'=>q.1=none/\s'=⟨hp,g,d,tk,os⟩/\∃ i,rest=(a.toList.zip b.toList).drop i/\R (.ok (.ret (.bool (c5 e lt (decide (a.size < b.size)) ((List.range (min a.size b.size)).drop i))))) ⟨hp,g,d,tk,os⟩) _
  case turn =>
   rintro ⟨y,x⟩ rest q s' ⟨hq,rfl,i,hz,hR⟩
   have hil:i < (a.toList.zip b.toList).length:=by
    rcases W3 i (a.toList.zip b.toList).length with k | k
    ·exact k
    ·rw [W9 k] at hz;cases hz
   have hmn:i < min a.size b.size:=hZ ▸ hil
   have g1:i < a.size:=by omega
   have g2:i < b.size:=by omega
   rw [Ww hil] at hz
   injection hz with hyx hrest
   have hy:y=a[i]:=by simpa using congrArg Prod.fst hyx
   have hx:x=b[i]:=by simpa using congrArg Prod.snd hyx
   subst hy hx
   have hd:(List.range (min a.size b.size)).drop i=i :: (List.range (min a.size b.size)).drop (i + 1):=by simp [Ww,hmn]
   rw [hd,c5] at hR
   refine wpAny_bind (he i g1 g2 prog w _ _ ?_)
   cases hei:e i with
   | true =>
    rw [hei] at hR
    wp_walk
    exact ⟨rfl,rfl,i + 1,hrest,hR⟩
   | false =>
    rw [hei] at hR
    refine wpAny_bind (wpAny_rule (wpAny_bind (hlt i g1 g2 hei prog w _ _ ?_)))
    wp_walk
    exact ⟨_,rfl,hR⟩
  case fin =>
   rintro ⟨q1,q2⟩ s' ⟨hq,rfl,i,hz,hR⟩
   simp only at hq
   subst hq
   have hge:min a.size b.size<=i:=by
    rcases W3 i (a.toList.zip b.toList).length with k | k
    ·rw [Ww k] at hz;cases hz
    ·exact hZ ▸ k
   rw [W9 (by simpa using hge),c5] at hR
   wp_walk
   exact ⟨_,rfl,by simpa [Builtin.Tuple.tupleCompareSizes] using hR⟩
  case h =>
   exact ⟨rfl,rfl,0,rfl,by simpa using h⟩
theorem nP.tuples {A:Around} {s:Shared} {l m:Addr} {a b:Array Value} {e lt:Nat->Bool} (hl:s.heap.IsTuple l a) (hm:s.heap.IsTuple m b) (hu:A.units < cLine)
  (he:∀ j (h1:j < a.size) (h2:j < b.size),EqAt A.in1 s a[j] b[j] (e j)) (hlt:∀ j (h1:j < a.size) (h2:j < b.size),e j=false->nP A.in1 s a[j] b[j] (lt j)) :
  nP A s (.ref l) (.ref m) (c5 e lt (decide (a.size < b.size)) (List.range (min a.size b.size))):=fun prog w E Q h=>by
 obtain ⟨⟨c1,d1,t1,s1⟩,o1,k1,n1,j1⟩:=hl
 obtain ⟨⟨c2,d2,t2,s2⟩,o2,k2,n2,j2⟩:=hm
 simp only at k1 j1 k2 j2
 subst k1 j1 k2 j2
 exact richCompare_meets_room (op:=.Lt) ⟨_,o1,rfl⟩ ⟨_,o2,rfl⟩ F.slot_tuple_lt F.entry_tuple_lt (F.args_tuple_lt_2 _ _) (O0 l m a b n1 n2 d1 d2 s1 s2 e lt)
  ⟨o1,o2,he,hlt,show Value.bool (c5 e lt (decide (a.size < b.size)) (List.range (min a.size b.size)))≠Value.notImplemented/\Q (.bool (c5 e lt (decide (a.size < b.size)) (List.range (min a.size b.size)))) s from ⟨(fun x=>nomatch x),h⟩⟩ hu
mutual
def zy:PyData->PyData->Bool
 | .int a,.int b=>decide (a < b)
 | .tuple xs,.tuple ys=>my xs ys
 | _,_=>false
def my:List PyData->List PyData->Bool
 | [],[]=>false
 | [],_ :: _=>true
 | _ :: _,[]=>false
 | x :: xs,y :: ys=>if PyData.eqv x y then my xs ys else zy x y
end
mutual
def rG:PyData->PyData->Bool
 | .int _,.int _=>true
 | .tuple xs,.tuple ys=>nQ xs ys
 | _,_=>false
def nQ:List PyData->List PyData->Bool
 | [],_=>true
 | _ :: _,[]=>true
 | x :: xs,y :: ys=>rG x y && nQ xs ys
end
theorem K5 (e lt:Nat->Bool) (fin:Bool) (f:Nat->Nat):∀ l:List Nat,c5 e lt fin (l.map f)=c5 (fun i=>e (f i)) (fun i=>lt (f i)) fin l
 | []=>rfl
 | i :: r=>by
  show (if e (f i) then c5 e lt fin (r.map f) else lt (f i))=if e (f i) then _ else lt (f i)
  rw [K5 e lt fin f r]
def pz (xs ys:List PyData) (j:Nat):Bool:=zy (xs.getD j .none) (ys.getD j .none)
theorem K7:∀ xs ys:List PyData,c5 (pairEq xs ys) (pz xs ys) (decide (xs.length < ys.length)) (List.range (min xs.length ys.length))=my xs ys
 | [],[]=>rfl
 | [],_ :: _=>by simp [c5,my]
 | _ :: _,[]=>by simp [c5,my]
 | x :: xs,y :: ys=>by
  have ih:=K7 xs ys
  have e1:min (x :: xs).length (y :: ys).length=min xs.length ys.length + 1:=by simp only [VJ];omega
  have e2:decide ((x :: xs).length < (y :: ys).length)=decide (xs.length < ys.length):=by simp
  rw [e1,e2,List.range_succ_eq_map,c5,K5]
  show (if PyData.eqv x y then c5 (pairEq xs ys) (pz xs ys) (decide (xs.length < ys.length)) (List.range (min xs.length ys.length)) else zy x y)=_
  rw [ih,my]
mutual
theorem K8:∀ (da db:PyData) (A:Around) (s:Shared) (a b:Value) (as bs:List Addr),Reads s.heap a da as->Reads s.heap b db bs->rG da db=true->da.canLay0=true->db.canLay0=true->A.units + min da.depth db.depth < cLine->nP A s a b (zy da db)
 | .int x,.int y,A,s,_,_,_,_,ra,rb,_,_,_,_=>by
  cases ra with
  | int _ t =>
   cases rb with
   | int _ u=>exact fun prog w E Q h=>richCompare_gives (op:=.Lt) (typeIs_int s _ t) (typeIs_int s _ u) F.slot_int_lt F.entry_int_lt (F.args_int_lt_2 _ _) (gives_int_lt _ _ t u) (fun x=>nomatch x) h
 | .tuple xs,.tuple ys,A,s,_,_,_,_,ra,rb,ok,ha,hb,hu=>by
  cases ra with
  | @tuple l o vs n _ UH h1 h2 h3 h4 =>
   cases rb with
   | @tuple l' o' vs' n' _ UI k1 k2 k3 k4 =>
    have t1:s.heap.IsTuple l vs:=⟨_,h1,h2,_,h3⟩
    have t2:s.heap.IsTuple l' vs':=⟨_,k1,k2,_,k3⟩
    have n1:vs.size=xs.length:=by simpa using ReadsAll.length _ _ _ h4
    have n2:vs'.size=ys.length:=by simpa using ReadsAll.length _ _ _ k4
    show nP A s (.ref l) (.ref l') (my xs ys)
    rw [<- K7 xs ys,<- n1,<- n2]
    refine nP.tuples t1 t2 (room_here hu) (fun j j1 j2=>?_) (fun j j1 j2 _=>?_)
    ·have z:=eqAt_readsAll xs ys A.in1 s vs.toList vs'.toList _ _ h4 k4 ha hb (room_in hu) j (by simpa using j1) (by simpa using j2)
     simpa using z
    ·have z:=K9 xs ys A.in1 s vs.toList vs'.toList _ _ h4 k4 ok ha hb (room_in hu) j (by simpa using j1) (by simpa using j2)
     simpa using z
 | .int _,.none,_,_,_,_,_,_,_,_,ok,_,_,_=>nomatch ok
 | .int _,.bool _,_,_,_,_,_,_,_,_,ok,_,_,_=>nomatch ok
 | .int _,.str _,_,_,_,_,_,_,_,_,ok,_,_,_=>nomatch ok
 | .int _,.list _,_,_,_,_,_,_,_,_,ok,_,_,_=>nomatch ok
 | .int _,.tuple _,_,_,_,_,_,_,_,_,ok,_,_,_=>nomatch ok
 | .int _,.dict _,_,_,_,_,_,_,_,_,ok,_,_,_=>nomatch ok
 | .tuple _,.none,_,_,_,_,_,_,_,_,ok,_,_,_=>nomatch ok
 | .tuple _,.bool _,_,_,_,_,_,_,_,_,ok,_,_,_=>nomatch ok
 | .tuple _,.int _,_,_,_,_,_,_,_,_,ok,_,_,_=>nomatch ok
 | .tuple _,.str _,_,_,_,_,_,_,_,_,ok,_,_,_=>nomatch ok
 | .tuple _,.list _,_,_,_,_,_,_,_,_,ok,_,_,_=>nomatch ok
 | .tuple _,.dict _,_,_,_,_,_,_,_,_,ok,_,_,_=>nomatch ok
 | .none,_,_,_,_,_,_,_,_,_,ok,_,_,_=>by simp [rG] at ok
 | .bool _,_,_,_,_,_,_,_,_,_,ok,_,_,_=>by simp [rG] at ok
 | .str _,_,_,_,_,_,_,_,_,_,ok,_,_,_=>by simp [rG] at ok
 | .list _,_,_,_,_,_,_,_,_,_,ok,_,_,_=>by simp [rG] at ok
 | .dict _,_,_,_,_,_,_,_,_,_,ok,_,_,_=>by simp [rG] at ok
theorem K9:∀ (xs ys:List PyData) (A:Around) (s:Shared) (vs ws:List Value) (as bs:List Addr),ReadsAll s.heap vs xs as->ReadsAll s.heap ws ys bs->nQ xs ys=true->PyData.canLayAll0 xs=true->PyData.canLayAll0 ys=true->A.units + min (PyData.depthAll xs) (PyData.depthAll ys) < cLine->∀ j (h1:j < vs.length) (h2:j < ws.length),nP A s vs[j] ws[j] (pz xs ys j)
 | [],_,_,_,_,_,_,_,ra,_,_,_,_,_,j,h1,_=>by cases ra;exact absurd h1 (VY _)
 | _ :: _,[],_,_,_,_,_,_,_,rb,_,_,_,_,j,_,h2=>by cases rb;exact absurd h2 (VY _)
 | x :: xs,y :: ys,A,s,_,_,_,_,ra,rb,ok,ha,hb,hu,j,h1,h2=>by
  have a':x.canLay0=true/\PyData.canLayAll0 xs=true:=by simpa [PyData.canLayAll0] using ha
  have b':y.canLay0=true/\PyData.canLayAll0 ys=true:=by simpa [PyData.canLayAll0] using hb
  have o':rG x y=true/\nQ xs ys=true:=by simpa [nQ] using ok
  cases ra with
  | cons r rs =>
   cases rb with
   | cons r' rs' =>
    cases j with
    | zero=>exact K8 x y A s _ _ _ _ r r' o'.1 a'.1 b'.1 (room_head hu)
    | succ j=>exact K9 xs ys A s _ _ _ _ rs rs' o'.2 a'.2 b'.2 (room_tail hu) j (Nat.lt_of_succ_lt_succ h1) (Nat.lt_of_succ_lt_succ h2)
end
section
variable {prog:Program} {w:World} {A:Around} {R:Result->Shared->Prop} {I:Addr} {fp wr:List Addr} {n:Nat} {P:Nat->Value->Prop} {St:Nat->Heap->Prop}
def jG (a b:Heap):Prop:=∀ x o,a.get? x=some o->b.get? x=some o
def wR (A:Around) (h0:Heap) (P:Nat->Value->Prop) (bt:Nat->Nat->Bool):Prop:=∀ i j vi vj (s:Shared),jG h0 s.heap->P i vi->P j vj->nP A s vi vj (bt i j)
theorem Ey:(toString "min" ++ toString ".loop" : String)="min.loop" := by decide
theorem Hz (W:Walks prog w A.in1 I fp wr n P St) (bt:Nat->Nat->Bool) {h0:Heap} (hcmp:wR A.in1 h0 P bt) (S:Addr) (hSf:S ∉ fp) (wU:h0.get? S=none) (hw0:∀ b∈wr,h0.get? b=none) :
  ∀ (k j:Nat) (s:Shared) (vb:Value) (c:Nat),n - (j + 1)=k->j + 1<=n->St (j + 1) s.heap->P (argBest bt j) vb->jG h0 s.heap->s.heap.get? S=some { cls:=.type "list",dict:=none,data:=.seq #[vb,vb] c,slots:=#[] } ->
  (∀ v h' tk,P (argBest bt (n - 1)) v->jG h0 h'->R (.ok (.ret v)) { s with heap:=h',toks:=tk })->codeAny (model prog w) A (.builtin "min.loop" ⟨[.ref I,.none,.ref S],[]⟩) R s
 | 0,j,s,vb,c,hk,hj,hst,Ez,hK,hS,hR=>by
  have By:S ∉ wr:=fun z=>hSf (W.sub S z)
  have hin:n=j + 1:=by omega
  subst hin
  refine codeAny_builtin F.entry_min_loop ?_
  rw [Around.under_plainId F.plain_min_loop (A:=A) _]
  show wpAny (model prog w) A.in1 (seqItems? (.ref S) >>= _) _ _ _
  refine wpAny_bind (wpAny_seqItems hS rfl ?_)
  show wpAny (model prog w) A.in1 (tryCatch (pyNext (.ref I)) _ >>= _) _ _ _
  refine wpAny_bind (wpAny_tryCatch (W.done s _ _ hst fun h' tk hk'=>?_))
  have hS':=hk' S _ By hS
  show wpAny (model prog w) A.in1 (updateSeq S (fun _=>#[]) >>= _) _ _ _
  refine wpAny_bind (wpAny_updateSeq hS' rfl (wpAny_bind (wpAny_letGo (wpAny_pure (hR vb _ tk Ez fun b o e=>?_)))))
  have hb1:b ∉ wr:=fun z=>by rw [hw0 b z] at e;cases e
  have hb2:S≠b:=fun z=>by rw [<- z,wU] at e;cases e
  exact (V5 _ _ hb2).trans (hk' b o hb1 (hK b o e))
 | k + 1,j,s,vb,c,hk,hj,hst,Ez,hK,hS,hR=>by
  have By:S ∉ wr:=fun z=>hSf (W.sub S z)
  have hlt:j + 1 < n:=by omega
  refine codeAny_builtin F.entry_min_loop ?_
  rw [Around.under_plainId F.plain_min_loop (A:=A) _]
  show wpAny (model prog w) A.in1 (seqItems? (.ref S) >>= _) _ _ _
  refine wpAny_bind (wpAny_seqItems hS rfl ?_)
  show wpAny (model prog w) A.in1 (tryCatch (pyNext (.ref I)) _ >>= _) _ _ _
  refine wpAny_bind (wpAny_tryCatch (W.item (j + 1) s _ _ hlt hst fun v h' tk hP tL hk'=>?_))
  have hS':=hk' S _ By hS
  have Bz:jG h0 h':=fun b o e=>hk' b o (fun z=>by rw [hw0 b z] at e;cases e) (hK b o e)
  show wpAny (model prog w) A.in1 (tryCatch (holding [v,v] (richCompare .Lt v vb >>= _)) _ >>= _) _ _ _
  refine wpAny_bind (wpAny_tryCatch (wpAny_holding (wpAny_bind (hcmp (j + 1) (argBest bt j) v vb _ Bz hP Ez prog w _ _ ?_))))
  refine wpAny_bind (wpAny_holding (wpAny_truthy_bool (wpAny_bind (wpAny_letGo (wpAny_pure ?_)))))
  cases hb:bt (j + 1) (argBest bt j) with
  | true =>
   simp only [if_true]
   refine wpAny_bind (wpAny_updateSeq hS' rfl (wpAny_bind (wpAny_letGo ?_)))
   rw [Ey]
   have HA:jG h0 (h'.update S (Obj.mapSeq fun _=>#[v,v])):=fun b o e=>(V5 _ _ (fun z=>by rw [<- z,wU] at e;cases e)).trans (Bz b o e)
   refine wpAny_pure ⟨plainId_quiet F.plain_min_loop _,Hz W bt hcmp S hSf wU hw0 k (j + 1) _ v _ (by omega) hlt (W.frame _ _ _ tL fun b HB o e=>?_) (by simp only [argBest,hb,if_true];exact hP) HA (WM _ hS' rfl) fun v' h'' rH BA rJ=>hR v' h'' rH BA rJ⟩
   exact (V5 _ _ (fun z:S=b=>hSf (z ▸ HB))).trans e
  | false =>
   simp only [VC,if_false]
   refine wpAny_bind (wpAny_letGo ?_)
   rw [Ey]
   exact wpAny_pure ⟨plainId_quiet F.plain_min_loop _,Hz W bt hcmp S hSf wU hw0 k (j + 1) _ vb c (by omega) hlt tL (by simp only [argBest,hb,VC,if_false];exact Ez) Bz hS' fun v' h'' rH BA rJ=>hR v' h'' rH BA rJ⟩
theorem O1 (W:Walks prog w A.in1 I fp wr n P St) (bt:Nat->Nat->Bool) {h0:Heap} (hcmp:wR A.in1 h0 P bt) (S:Addr) (hSf:S ∉ fp) (wU:h0.get? S=none) (hw0:∀ b∈wr,h0.get? b=none) (hn:0 < n) {s:Shared} {c:Nat} (hst:St 0 s.heap) (hK:jG h0 s.heap)
  (hS:s.heap.get? S=some { cls:=.type "list",dict:=none,data:=.seq #[] c,slots:=#[] }) (hR:∀ v h' tk,P (argBest bt (n - 1)) v->jG h0 h'->R (.ok (.ret v)) { s with heap:=h',toks:=tk }) :
  codeAny (model prog w) A (.builtin "min.loop" ⟨[.ref I,.none,.ref S],[]⟩) R s:=by
 have By:S ∉ wr:=fun z=>hSf (W.sub S z)
 refine codeAny_builtin F.entry_min_loop ?_
 rw [Around.under_plainId F.plain_min_loop (A:=A) _]
 show wpAny (model prog w) A.in1 (seqItems? (.ref S) >>= _) _ _ _
 refine wpAny_bind (wpAny_seqItems hS rfl ?_)
 show wpAny (model prog w) A.in1 (tryCatch (pyNext (.ref I)) _ >>= _) _ _ _
 refine wpAny_bind (wpAny_tryCatch (W.item 0 s _ _ hn hst fun v h' tk hP tL hk'=>?_))
 have hS':=hk' S _ By hS
 have Bz:jG h0 h':=fun b o e=>hk' b o (fun z=>by rw [hw0 b z] at e;cases e) (hK b o e)
 show wpAny (model prog w) A.in1 (updateSeq S (fun _=>#[v,v]) >>= _) _ _ _
 refine wpAny_bind (wpAny_updateSeq hS' rfl ?_)
 rw [Ey]
 have HA:jG h0 (h'.update S (Obj.mapSeq fun _=>#[v,v])):=fun b o e=>(V5 _ _ (fun z=>by rw [<- z,wU] at e;cases e)).trans (Bz b o e)
 refine wpAny_pure ⟨plainId_quiet F.plain_min_loop _,Hz W bt hcmp S hSf wU hw0 _ 0 _ v _ rfl hn (W.frame _ _ _ tL fun b HB o e=>?_) hP HA (WM _ hS' rfl) fun v' h'' rH BA rJ=>hR v' h'' rH BA rJ⟩
 exact (V5 _ _ (fun z:S=b=>hSf (z ▸ HB))).trans e
end
section
variable {prog:Program} {w:World} {A:Around} {E:Value->Shared->Prop} {s:Shared}
theorem O2 {p:Addr} {its:Array Value} {bt:Nat->Nat->Bool} {Q:Value->Shared->Prop} (hh:A.handled=none) (hl:s.heap.IsList p its) (hn:0 < its.size) (hcmp:wR A.in1 s.heap (fun i v=>its[i]?=some v) bt)
  (hQ:∀ v h' tk,its[argBest bt (its.size - 1)]?=some v->jG s.heap h'->Q v { s with heap:=h',toks:=tk }):wpAny (model prog w) A (call (.builtin "min") [.ref p]) Q E s:=by
 have hlt:p < s.heap.objs.size:=by obtain ⟨_,e,_⟩:=hl;exact VD e
 have e0:s.heap.get? s.heap.objs.size=none:=by
  cases q:s.heap.get? s.heap.objs.size with
  | none=>rfl
  | some o=>exact absurd (VD q) (WX _)
 have e1:s.heap.get? (s.heap.objs.size + 1)=none:=by
  cases q:s.heap.get? (s.heap.objs.size + 1) with
  | none=>rfl
  | some o=>exact absurd (VD q) (Nat.not_lt_of_le (W8 _))
 refine call_function_tree F.kind_min F.plain_min F.entry_min (F.args_min1 _) ?_
 show wpAny (model prog w) A.in1 (Builtin.Builtins.bindParams "min" ["key","default"] 0 ⟨[],[]⟩ >>= _) _ _ _
 refine wpAny_bind (wpAny_of_eq (show Builtin.Builtins.bindParams "min" ["key","default"] 0 ⟨[],[]⟩=pure [none,none] from rfl) (wpAny_bind (wpAny_pure ?_)))
 refine wpAny_bind (wpAny_pyIter_list hl (wpAny_bind (wpAny_newObj_type ?_)))
 have hsz:(s.heap.push { cls:=.type "list_iterator",data:=.fields #[.ref p,.int 0 0] }).objs.size=s.heap.objs.size + 1:=Wy ..
 have hne:p≠s.heap.objs.size:=VZ hlt
 rw [Ey]
 have k1:jG s.heap ((s.heap.push { cls:=.type "list_iterator",data:=.fields #[.ref p,.int 0 0] }).push { cls:=.type "list",data:=.seq #[] }):=fun b o e=>Vw _ (Vw _ e)
 refine wpAny_pure ⟨plainId_quiet F.plain_min_loop _,?_⟩
 show codeAny (model prog w) A (.builtin "min.loop" ⟨[.ref s.heap.objs.size,.none,.ref (s.heap.push { cls:=.type "list_iterator",data:=.fields #[.ref p,.int 0 0] }).objs.size],[]⟩) _ _
 rw [hsz]
 refine O1 (c:=0) (Walks.list (A:=A.in1) hh s.heap.objs.size p hne its) bt hcmp (s.heap.objs.size + 1) (fun z=>?_) e1 (fun b hb=>?_) hn ?_ k1 ?_ fun v h' tk hv hk=>hQ v h' tk hv hk
 ·rcases VF.mp z with z | z
  ·exact absurd z (Nat.succ_ne_self _)
  ·have:s.heap.objs.size + 1=p:=Vz.mp z
   exact absurd hlt (by rw [<- this];exact Nat.not_lt_of_le (W8 _))
 ·rw [Vz.mp hb];exact e0
 ·exact ⟨⟨_,Vw _ (VI _ rfl),rfl,rfl⟩,(hl.push _).push _⟩
 ·rw [<- hsz];exact VI _ rfl
end
theorem HC {h:Heap}:∀ {us:List Value} {ds:List PyData} {as:List Addr} {i:Nat} {v:Value},ReadsAll h us ds as->us[i]?=some v->∃ as',Reads h v (ds.getD i .none) as'/\ds.getD i .none∈ds
 | _,_,_,_,_,.nil,e=>by simp at e
 | _,_,_,0,_,.cons r _,e=>by simp at e;subst e;exact ⟨_,r,Vl⟩
 | _,_,_,i + 1,v,.cons _ rs,e=>by
  obtain ⟨as',r,m⟩:=HC (i:=i) (v:=v) rs (by simpa using e)
  exact ⟨as',r,Vp _ m⟩
section
variable {X:Cx}
def tM (ds:List PyData) (i j:Nat):Bool:=zy (ds.getD i .none) (ds.getD j .none)
def nz (ds:List PyData):Nat:=argBest (tM ds) (ds.length - 1)
def uT (K:Zfr):List V->Hp->VK->Prop:=fun xs H Q=>∃ (p:Addr) (vs:List V) (ds:List PyData),xs=[.ref p]/\j3 K H p vs/\fZ K H vs ds/\0 < ds.length/\(∀ a∈ds,∀ b∈ds,rG a b=true)/\(∀ a∈ds,a.canLay0=true/\a.depth<=50)/\∃ v,vs[nz ds]?=some v/\Q v H
theorem La (hc:X.calm=true) (hu:X.A.units + 64 < cLine):fX X (.builtin "min") (uT X.K):=by
 intro pins s σ H xs us Q I r h
 obtain ⟨p,vs,ds,rfl,hq,hr,hn,hok,hlay,v0,hv0,q⟩:=h
 obtain ⟨u,rfl,ru⟩:=vals1 r
 cases ru
 obtain ⟨its,rv,pl,_⟩:=I.list hq
 obtain ⟨as,ra⟩:=fZ.reads I hr rv
 have hlen:its.length=ds.length:=ReadsAll.length _ _ _ ra
 refine O2 (bt:=tM ds) (I.ok.hd hc) pl.isList (by rw [Vu];omega) (fun i j vi vj s' hK hi hj=>?_) fun v h' tk hv hk=>?_
 ·have hi':its[i]?=some vi:=by simpa using hi
  have hj':its[j]?=some vj:=by simpa using hj
  obtain ⟨a1,r1,m1⟩:=HC ra hi'
  obtain ⟨a2,r2,m2⟩:=HC ra hj'
  have b1:=(hlay _ m1).2
  have b2:=(hlay _ m2).2
  exact K8 _ _ _ s' _ _ _ _ (Reads.keeps hK r1) (Reads.keeps hK r2) (hok _ m1 _ m2) (hlay _ m1).1 (hlay _ m2).1 (by show X.A.units + 1 + _ < cLine;omega)
 ·have hv':its[nz ds]?=some v:=by
   have e:its.toArray.size - 1=ds.length - 1:=by rw [Vu,hlen]
   rw [e] at hv
   unfold nz
   simpa using hv
  obtain ⟨u,Lb,ru⟩:=Vals.get rv hv0
  rw [hv'] at Lb
  cases Lb
  exact ⟨v0,H,I.kept hk,ru,q⟩
end
end L2
namespace L2
open PySem PySem.Spec PyProof.Rows PySem.W
section
variable {lt:Nat->Nat->Bool} {n0:Nat} {cmp:Nat->Nat->(Bool->Shared->Prop)->Shared->Prop} {s:Shared}
structure Ord (lt:Nat->Nat->Bool):Prop where
 tr:∀ a b c,lt b a=false->lt c b=false->lt c a=false
 as:∀ a b,lt a b=true->lt b a=false
def P (p:Array Nat) (i:Nat):Nat:=p.getD i 0
variable (o:Ord lt) (hn:0 < n0) (hc:∀ i j (C:Bool->Shared->Prop),i < n0->j < n0->C (lt i j) s->cmp i j C s)
include o hn hc
end
section
variable {prog:Program} {w:World} {A:Around} {E:Value->Shared->Prop} {s:Shared}
end
section
variable {prog:Program} {w:World} {A:Around} {E:Value->Shared->Prop} {s:Shared} {lt:Nat->Nat->Bool}
end
section
variable {X:Cx}
end
end L2
namespace L2
open PySem PySem.Spec PyProof.Rows
section
variable {X:Cx} {o e f:Expr} {apos cpos:Pos} {td ty tx:TE}
end
end L2
namespace L2
open PySem PySem.Spec PyProof.Rows PySem.W
section
variable {X:Cx} {o e:Expr} {t t' td:TE} {apos cpos pos p:Pos}
end
end L2
namespace L2
open PySem PySem.Spec PyProof.Rows
section
variable {X:Cx} {body:List Stmt} {h₀:ExceptHandler} {hs:List ExceptHandler} {pos:Pos} {t:TS}
end
section
variable {X:Cx} {K:Zfr}
end
open Builtin
end L2
namespace L2
open PySem PySem.Spec PyProof.Rows
section
variable {X:Cx} {K:Zfr}
end
end L2
namespace L2
open PySem PySem.Spec PyProof.Rows PySem.W
section
variable {prog:Program} {w:World} {A:Around} {E:Value->Shared->Prop} {s:Shared}
end
end L2
namespace L2
open PySem PySem.Spec PyProof.Rows
section
variable {M:Model} {A:Around} {E:Value->Shared->Prop} {s:Shared}
end
def O3:Option Addr->Value
 | none=>.none
 | some T=>.ref T
def XO (a C:Addr) (dx tr:Option Addr):HO:=.ext fun h=>∃ o vs,h.get? a=some o/\o.cls=.ref C/\o.dict=dx/\o.data=.fields vs/\vs[1]?=some (O3 tr)
section
variable {P:Program} {w:World} {H H' H2:Hp} {h h':Heap} {a C T:Addr} {dx tr:Option Addr} {o:HO}
end
section
variable {X:Cx} {pins:List (Addr×Obj)} {σ:St} {H:Hp} {s:Shared} {a C:Addr} {dx:Option Addr}
end
section
variable {P:Program} {w:World} {K:Zfr} {mg:Str->Option Value} {base:Heap} {N:List Str} {qual:Str} {scope:Scope} {f:Addr} {cd:Value} {A:Around} {outer:List Env} {s0:Shared} {H0:Hp} {E:XK}
end
section
open PySem.W
end
section
variable {X:Cx} {pins:List (Addr×Obj)} {σ:St} {H:Hp} {s:Shared} {a C:Addr} {dx:Option Addr}
end
section
variable {P:Program} {w:World} {K:Zfr} {mg:Str->Option Value} {base:Heap} {N:List Str} {qual:Str} {scope:Scope} {f:Addr} {cd:Value} {A:Around} {outer:List Env} {s0:Shared} {H0:Hp} {E:XK}
end
section
variable {X:Cx} {pins:List (Addr×Obj)} {σ:St} {H:Hp} {s:Shared} {W:St->Addr->Hp->Prop} {a:Addr}
end
section
variable {X:Cx} {i:Nat} {x n:Str} {F:Addr} {bmB:List Value} {newId:String} {tb:(St->Addr->Hp->Prop)->TS} {ts:TS} {body suite:List Stmt} {b0:Stmt} {np hpos pos:Pos}
end
section
variable {X:Cx} {k:Nat} {f:Addr} {fd:FuncData} {ps:List Str} {sp:Sp} {x:Str} {p pos:Pos} {e:Expr} {es:List Expr} {t:TA} {pins:List (Addr×Obj)} {W:St->Addr->Hp->Prop}
end
end L2
namespace L2
open PySem PySem.Spec PyProof.Rows PySem.W
section
variable {prog:Program} {w:World} {A:Around} {E:Value->Shared->Prop} {s:Shared} {K:Frag} {a C:Addr} {ox:Obj} {odo:Option Obj} {name:Str}
end
section
variable {X:Cx} {x:Str} {c:Value} {v:V} {p pos:Pos} {e:Expr} {te:TE} {b:Bool}
end
end L2
namespace L2
open PySem PySem.Spec PyProof.Rows
section
variable {X:Cx}
end
end L2
namespace L2
open PySem PySem.Spec PyProof.Rows PySem.W PySem.Builtin PySem.Builtin.ObjectAttr
section
variable {prog:Program} {w:World} {A:Around} {E:Value->Shared->Prop} {s:Shared} {K:Frag} {a C:Addr} {ox:Obj} {odo:Option Obj} {name:Str} {v:Value}
end
section
variable {X:Cx} {pins:List (Addr×Obj)} {σ:St} {H:Hp} {s:Shared} {a C:Addr} {tr:Option Addr} {f:Str} {y:V} {u:Value}
variable {o value:Expr} {ta tv:TE} {pos pos':Pos}
end
end L2
namespace L2
open PySem PySem.Spec PyProof.Rows PySem.W
section
variable {prog:Program} {w:World} {A:Around} {E:Value->Shared->Prop} {h:Heap} {g:Array GenState} {d:Drawn} {t:Nat} {os:OsState}
variable {nm q:Str} {C N:Addr} {bs bm bmB:List Value} {hdct:Bool} {sn:List Str} {sub:List Value} {ab:Bool} {col:Option Bool} {dd:Option Addr} {k0 k1 k2 k3 k5:Option Value} {B newId initId:String}
end
section
variable {X:Cx} {k:Nat} {f C:Addr} {fd:FuncData} {ps:List Str} {sp:Sp} {x:Str} {p pos:Pos} {e:Expr} {es:List Expr} {t:TA} {B newId initId:String} {bmB:List Value}
end
section
variable {P:Program} {w:World} {K:Frag} {mg:Str->Option Value} {base:Heap} {N:List Str} {qual:Str} {scope:Scope} {f:Addr} {cd:Value} {A:Around} {outer:List Env} {s0:Shared} {H0:Hp} {E:XK}
end
section
variable {X:Cx} {e:Expr} {te:TE} {f:Str} {pos:Pos}
end
end L2
namespace L2
open PySem PySem.Spec PyProof.Rows
section
variable {X:Cx} {K:Zfr}
def pZ (K:Zfr):V->List V->Hp->VK->Prop:=fun x vs H Q=>∃ (a:Addr) (ys:List V) (ds:List PyData) (y:V) (dy:PyData) (j:Nat),x=.ref a/\vs=[y]/\j3 K H a ys/\fZ K H ys ds/\Rep K H y dy/\(∀ d∈ds,PyData.canLay0 d=true)/\PyData.canLay0 dy=true/\PyData.depth dy<=60 /\
 ds.length<=1000/\(∃ d,ds[j]?=some d/\PyData.eqv d dy=true)/\(∀ i d,i < j->ds[i]?=some d->PyData.eqv d dy=false)/\Q (.int (j:Int)) H
theorem Lc (hu:X.A.units + 64 < cLine):uH X "list.index" (pZ X.K):=by
 intro pins s σ H x xs v us Q I rx rv h
 obtain ⟨a,ys,ds,y,dy,j,rfl,rfl,hq,hr,hy,c1,c2,c3,hl,hit,hno,q⟩:=h
 cases rx
 obtain ⟨u,rfl,ru⟩:=vals1 rv
 obtain ⟨its,r,pl,hz⟩:=I.list hq
 obtain ⟨⟨c,dd,dt,sl⟩,e,hc,n,hdt⟩:=pl.isList
 cases (show c=.type "list" from hc)
 cases (show dt=.seq its.toArray n from hdt)
 have hlen:its.length=ds.length:=by rw [<- r.length];exact hr.rF
 obtain ⟨d0,hd0,O4⟩:=hit
 have hjl:j < ds.length:=(Ve.mp hd0).1
 have rd:∀ (i:Nat) (w:Value) (d:PyData),its[i]?=some w->ds[i]?=some d->∃ as,Reads s.heap w d as:=fun i w d h1 h2=>by
  obtain ⟨z,hz',rz⟩:=r.Bw h1
  obtain ⟨d',hd',rp⟩:=hr.get hz'
  rw [h2] at hd'
  cases hd'
  exact rp.reads I rz
 refine call_meets F.slot_list_index ⟨_,e,rfl⟩ F.entry_list_index (F.args_list_index_2 _ _) (PySem.SeqAt.list_indexAt a its.toArray n dd sl u (eD its ds dy) j (by simp;omega) (by omega) ?_ fun m hm O5=>?_) ⟨e,fun z hz=>?_,⟨.int _,H,I.tok _,⟨_,rfl⟩,q⟩⟩
 ·unfold eD
  refine @decide_eq_true _ (Classical.propDecidable _) ⟨j,d0,?_,hd0,O4⟩
  simp [show j < its.length by omega]
 ·unfold eD
  refine @decide_eq_false _ (Classical.propDecidable _) ?_
  rintro ⟨i,d,h1,h2,h3⟩
  have hm2:m < its.length:=by simpa using hm
  have O6:its[m]?=some (its.toArray[m]):=by simp [hm2]
  obtain ⟨dm,Ld⟩:∃ dm,ds[m]?=some dm:=⟨ds[m]'(by omega),Vg _⟩
  obtain ⟨as,ra⟩:=rd i _ d h1 h2
  obtain ⟨bs,rb⟩:=rd m _ dm O6 Ld
  have ed:d=dm:=(Reads.unique ra _ _ rb).1
  rw [ed,hno m dm O5 Ld] at h3
  cases h3
 ·exact Bx hu I r hr ru hy c1 c2 (by first | exact c3 | (intro d hd;omega)) z (by simpa using hz)
end
section
variable {X:Cx}
def p3:V->List V->Hp->VK->Prop:=fun x vs H Q=>∃ l xs k y,x=.ref l/\vs=[.int k,y]/\H l=some (.lst xs)/\0<=k/\k < 2 ^ 62/\xs.length < sizeLine/\Q .non (upd H l (.lst (xs.take k.toNat ++ y :: xs.drop k.toNat)))
theorem Le:Bb X "list.insert" p3:=by
 intro pins s σ H x vs v us Q I rx rv h
 obtain ⟨l,xs,k,y,rfl,rfl,hH,k0,k1,hz,q⟩:=h
 cases rx
 cases rv with
 | cons r1 rv =>
 cases rv with
 | cons r2 rv =>
 cases rv
 rename_i u1 u2
 obtain ⟨t,rfl⟩:=r1
 obtain ⟨z,its,n,r,hl,e⟩:=I.oI hH
 have hf:Builtin.List.listFitsIndex k=true:=fitsIndex_both (by omega) (by omega)
 refine call_meets F.slot_list_insert ⟨_,e,rfl⟩ F.entry_list_insert (F.args_list_insert_3 _ _ _)
  (AutoSeq1.list_insert_list_int_val_1 l its.toArray n k t u2 (by simp [hf]) (by rw [Vu];omega)) ⟨e,?_⟩
 refine ⟨.non,_,I.rf (its':=its.take k.toNat ++ u2 :: its.drop k.toNat) hH e ?_ ((r.take k.toNat).append (.cons r2 (r.drop k.toNat))) ?_,rfl,q⟩
 ·dsimp only
  rw [if_neg (by omega)]
  simp
  by_cases h:k.toNat<=its.length
  ·rw [Nat.min_eq_left h,WH (l:=its.drop k.toNat) (by rw [WT];omega)]
  ·rw [Nat.min_eq_right (by omega),WH (l:=its) (i:=k.toNat) (by omega),WH (l:=its) (i:=its.length) (Vh _),List.drop_eq_nil_of_le (as:=its) (i:=k.toNat) (by omega),List.drop_eq_nil_of_le (as:=its) (i:=its.length) (Vh _),List.take_nil]
 ·rw [Vj,VJ,V6,WT]
  omega
theorem HD {α β:Type} (f:α->β):∀ (l:List α) (i:Nat),(l.eraseIdx i).map f=(l.map f).eraseIdx i
 | [],_=>rfl
 | _ :: _,0=>rfl
 | a :: l,i + 1=>by rw [W5,Vy,Vy,W5,HD f l i]
theorem O7 {k:Int}:∀ {its:List Value} {ns:List Int},IntsAre its ns->k∈ns->PySem.W.kf_ints its=true/\PySem.W.kf_at k its=some (ns.idxOf k):=by
 intro its ns h
 have all:PySem.W.kf_ints its=true:=by
  induction h with
  | nil=>rfl
  | cons n t h ih=>exact ih
 refine fun hk=>⟨all,?_⟩
 clear all
 induction h with
 | nil=>cases hk
 | cons n t h ih =>
  rename_i vs ns
  unfold PySem.W.kf_at
  by_cases e:n=k
  ·subst e
   simp [isInt]
  ·have hm:k∈ns:=by rcases VF.mp hk with h | h;exact absurd h.symm e;exact h
   have e1:isInt k (.int n t)=false:=by simp [isInt,e]
   rw [e1,ih hm]
   have:(n == k)=false:=by simp [e]
   rw [Xf,this]
   rfl
def oK (K:Zfr):V->List V->Hp->VK->Prop:=fun x vs H Q=>∃ (l:Addr) (ns:List Int) (k:Int),x=.ref l/\vs=[.int k]/\H l=some (.lst (ns.map V.int))/\k∈ns/\Q .non (upd H l (.lst ((ns.erase k).map V.int)))
theorem O8:Bb X "list.remove" (oK X.K):=by
 intro pins s σ H x vs v us Q I rx rv h
 obtain ⟨l,ns,k,rfl,rfl,hH,hk,q⟩:=h
 cases rx
 obtain ⟨u,rfl,ru⟩:=rv.one
 obtain ⟨t,rfl⟩:=ru
 obtain ⟨z,its,n,r,hl,e⟩:=I.oI hH
 obtain ⟨h1,h2⟩:=O7 (G0 r) hk
 obtain ⟨a,b,c⟩:=PySem.W.kf_at_spec h2
 have hz':its.toArray.size<=sizeLine:=by rw [Vu];omega
 refine call_meets F.slot_list_remove ⟨_,e,rfl⟩ F.entry_list_remove (F.args_list_remove_2 _ _)
  (MeetsSeq.list_remove l its.toArray n (.int k t) (isInt k) (fun y hy=>PySem.W.kf_eq h1 y (by simpa using hy)) (ns.idxOf k) (by simpa using a) (by simpa using b) (fun i hi hlt=>by simpa using c i (by simpa using hi) hlt) hz') ⟨e,?_⟩
 refine ⟨.non,_,I.rf (its':=its.eraseIdx (ns.idxOf k)) hH e ?_ ?_ ?_,rfl,q⟩
 ·show its.toArray.eraseIdxIfInBounds (ns.idxOf k)=(its.eraseIdx (ns.idxOf k)).toArray
  rw [WD]
 ·rw [List.erase_eq_eraseIdx_of_idxOf (by rfl),HD]
  exact r.eraseIdx _
 ·have:=W4 hk
  rw [Vd]
  rw [Vd] at z
  omega
end
section
variable {X:Cx}
end
open Builtin
def P2 (k:Nat):Nat:=2 ^ k
section
variable {X:Cx}
end
end L2
namespace L2
open PySem PySem.Spec PySem.W PyProof.Rows
structure wV (K:Zfr) (x qual:Str) (st:Stmt) (f:Addr) (fd:FuncData):Prop where
 ex:∃ (oc:Value) (od:Option Addr) (dV kV doc pm:Value) (an:Option Addr) (cdv ct:Value) (osl:Array (Option Value)),
  fd=PySem.W.fnOf x qual (fB st) (dP st) (av st) dV kV doc pm an cdv ct/\K.lookup f=some ⟨oc,od,.func fd,osl⟩/\PySem.W.codeIn K cdv qual=true
 kp:PySem.W.keepIn K (.ref f)=true
theorem wV.ok {P:Program} {w:World} {K:Zfr} {mg:Str->Option Value} {base:Heap} {x qual:Str} {st:Stmt} {f:Addr} {fd:FuncData} {N ps:List Str} {k:Nat} {sp:Sp} (F:wV K x qual st f fd) (S:aL N ps (av st)) (len:∀ vs H Q E,sp vs H Q E->vs.length=ps.length)
  (hbody:∀ (cdv:Value) (A:Around) (outer:List Env) (s:Shared) (H:Hp) (vs:List V) (Q:VK) (E:XK),gB k (A.deeper (envOfC qual (av st) s.heap.objs.size f cdv))->sp vs H Q E ->
   ∃ t,pL (eV bH P w K mg base N qual (av st) f cdv A outer s H E).lU (dP st) t/\t { nx:=fun _ H'=>Q .non H',rt:=Q } (start N vs) H):aI P w K mg base bH (k + 1) f fd ps sp:=by
 obtain ⟨oc,od,dV,kV,doc,pm,an,cdv,ct,osl,rfl,lk,hcd⟩:=F.ex
 refine uF lk hcd S len fun A outer s H vs Q E hr qL=>?_
 obtain ⟨t,h,q⟩:=hbody cdv A outer s H vs Q E hr qL
 exact ⟨t,h.lU,q⟩
structure rK (K:Zfr) (mg:Str->Option Value) (x:Str) (st:Stmt) (ps:List Str) (ny:List V) (f:Addr) (fd:FuncData):Prop where
 F:wV K x x st f fd
 b:Binds K fd ps []
 bd:∃ ds,Vals ny ds/\Binds K fd ps ds
 m:mg x=some (.ref f)
def rL (x:Str) (st:Stmt) (ps:List Str) (d m:Nat):Prop :=
 ∀ (T:Addr) (kV doc pm:Value) (an:Option Addr) (cdv ct:Value) (us ds:List Value),us.length=m->ds.length=d ->
  ∃ k:Option (Array Value)->Sem (List (Str×Value)),bindArgs (PySem.W.fnOf x x (fB st) (dP st) (av st) (.ref T) kV doc pm an cdv ct) ⟨us,[]⟩=seqItems? (.ref T) >>= k/\k (some ds.toArray)=pure (ps.zip (us ++ ds.drop (m + d - ps.length)))
theorem O9 {K:Zfr} {h:Heap} {mg:Str->Option Value} (X:K.In h) (G:h.Ns mainGlobals mg) {x:Str} {st:Stmt} {ps:List Str} {ny:List V} {f T:Addr} {oc Pa:Value} {od an od':Option Addr} {osl HE:Array (Option Value)} {kV doc pm cdv ct:Value} {its:Array Value} {n d:Nat}
  (hl:d<=ps.length) (hb:rL x st ps d (ps.length - d)) (hb2:rL x st ps d ps.length)
  (a:PySem.W.nsIn K mainGlobals x=some (some (.ref f))) (l:K.lookup f=some ⟨oc,od,.func (PySem.W.fnOf x x (fB st) (dP st) (av st) (.ref T) kV doc pm an cdv ct),osl⟩)
  (lT:K.lookup T=some ⟨Pa,od',.seq its n,HE⟩) (ei:its.toList.length=d) (hv:Vals ny its.toList)
  (c:PySem.W.codeIn K cdv x=true) (k:PySem.W.keepIn K (.ref f)=true):∃ f fd,rK K mg x st ps ny f fd:=by
 have key:∀ m (s:Shared) (us:List Value),rL x st ps d m->K.In s.heap->us.length=m->BindsTo s (PySem.W.fnOf x x (fB st) (dP st) (av st) (.ref T) kV doc pm an cdv ct) ⟨us,[]⟩ (ps.zip (us ++ its.toList.drop (m + d - ps.length))):=fun m s us h KX hu=>by
  obtain ⟨kk,h1,h2⟩:=h T kV doc pm an cdv ct us its.toList hu ei
  exact BindsTo.of_defaults rfl (KX _ _ lT) rfl h1 (by rw [Array.toArray_toList] at h2;exact h2)
 refine ⟨f,_,⟨⟨oc,od,.ref T,kV,doc,pm,an,cdv,ct,osl,rfl,l,c⟩,k⟩,fun s us KX hu=>?_,⟨its.toList,hv,fun s us KX hu=>?_⟩,PySem.W.mg_of X G a⟩
 ·rw [Wr] at hu ⊢
  have:=key ps.length s us hb2 KX hu
  rw [show ps.length + d - ps.length=its.toList.length by omega,List.drop_length,Wr] at this
  exact this
 ·rw [Vj] at hu
  have:=key (ps.length - d) s us hb KX (by omega)
  rw [show ps.length - d + d - ps.length=0 by omega,Xi] at this
  exact this
section
variable {X:Cx} {CX:pP} {k:Nat} {f:Addr} {fd:FuncData} {ps:List Str} {sp:Sp} {x:Str} {ny:List V} {E:XK} {e:Expr} {es:List Expr} {t:TA} {p pos:Pos}
theorem Pb (F:aI X.prog X.w X.K X.mg X.base CX k f fd ps sp) (hr:gB k X.A) (hg:Gl X x) (hm:X.mg x=some (.ref f)) (hk:PySem.W.keepIn X.K (.ref f)=true) (hb:∃ ds,Vals ny ds/\Binds X.K fd ps ds) (hx:Passes CX X E)
  (ha:PA X (e :: es) t) (hdb:(x == ("__debug__" : Str))=false:=by decide) (he:starEach (e :: es) X.env=(false,eval e X.env) :: starEach es X.env:=by rfl) (hpl:(backTo pos (starEach es X.env)).any (·.1)=false:=by rfl) :
  PE X (.Call (.Name x p) (e :: es) [] pos) (oH sp ny E t):=by
 obtain ⟨ds,hd,hb⟩:=hb
 exact Kh F hr hg hm hk hb hd hx ha hdb he hpl
end
end L2
namespace af
def upto (n:Nat):List Int:=(List.range n).map fun (k:Nat)=>(k:Int)
theorem oM (n:Nat):(upto n).length=n:=by simp [upto]
theorem lQ {n:Nat} {x:Int}:x∈upto n↔0<=x/\x < (n:Int):=by
 simp only [upto,Vn,WK]
 constructor
 ·rintro ⟨k,hk,rfl⟩;omega
 ·rintro ⟨h1,h2⟩;exact ⟨x.toNat,by omega,by omega⟩
theorem Pc (n:Nat):(upto n).Pairwise (· < ·):=by
 unfold upto
 rw [Xm]
 exact (List.pairwise_lt_range).imp fun h=>by omega
theorem Lf (n:Nat):(upto n).Nodup:=(Pc n).imp fun h=>by omega
theorem EA:∀ {xs ys:List Int},xs.Nodup->(∀ x∈xs,x∈ys)->ys.length<=xs.length->xs.Perm ys
 | [],ys,_,_,h=>by
  have:ys=[]:=Xg (by simpa using h)
  subst this;exact WO _
 | x :: xs,ys,hn,hs,hl=>by
  obtain ⟨h1,h2⟩:=V0.mp hn
  have hx:x∈ys:=hs x Vl
  have hp:=WU hx
  have hlen:(ys.erase x).length + 1=ys.length:=by have:=hp.length_eq;simpa using this.symm
  refine List.Perm.trans (List.Perm.cons x (EA (ys:=ys.erase x) h2 (fun y hy=>?_) ?_)) hp.symm
  ·have hne:y≠x:=fun e=>h1 (e ▸ hy)
   exact (Wm hne).mpr (hs y (Vp _ hy))
  ·simp at hl;omega
theorem HF {xs:List Int} (hn:xs.Nodup) (hb:∀ x∈xs,0<=x/\x < (xs.length:Int)):xs.Perm (upto xs.length):=by
 exact EA hn (fun x hx=>lQ.mpr (hb x hx)) (by rw [oM];exact Vh _)
end af
namespace af
def app (xs:List Int) (i:Int):Int:=xs.getD i.toNat 0
def bL (xs:List Int) (i:Int):Nat->Int
 | 0=>i
 | j + 1=>app xs (bL xs i j)
def Tn (n:Nat) (xs:List Int):Prop:=xs.Perm (upto n)
theorem Tn.length {n:Nat} {xs:List Int} (h:Tn n xs):xs.length=n:=by rw [h.length_eq,oM]
theorem Tn.nodup {n:Nat} {xs:List Int} (h:Tn n xs):xs.Nodup:=h.nodup_iff.mpr (Lf n)
theorem Tn.bound {n:Nat} {xs:List Int} (h:Tn n xs) {x:Int} (hx:x∈xs):0<=x/\x < (n:Int):=lQ.mp (h.subset hx)
theorem oN {xs:List Int} {i:Int} (h0:0<=i) (h1:i < (xs.length:Int)):xs[i.toNat]?=some (app xs i):=by
 have:i.toNat < xs.length:=by omega
 unfold app
 rw [Vv,Vg this];rfl
theorem Pd {xs:List Int} {i:Int} (h0:0<=i) (h1:i < (xs.length:Int)):app xs i∈xs:=Vk (oN h0 h1)
theorem Tn.app {n:Nat} {xs:List Int} (h:Tn n xs) {i:Int} (h0:0<=i) (h1:i < (n:Int)):0<=app xs i/\app xs i < (n:Int):=h.bound (Pd h0 (by rw [h.length];exact h1))
theorem Tn.inj {n:Nat} {xs:List Int} (h:Tn n xs) {i j:Int} (i0:0<=i) (i1:i < (n:Int)) (j0:0<=j) (j1:j < (n:Int)) (e:af.app xs i=af.app xs j):i=j:=by
 have hl:=h.length
 have a:=oN i0 (by rw [hl];exact i1)
 have b:=oN j0 (by rw [hl];exact j1)
 rw [e] at a
 obtain ⟨ha,ea⟩:=Ve.mp a
 obtain ⟨hb,eb⟩:=Ve.mp b
 have:=(Xp h.nodup).mp (ea.trans eb.symm)
 omega
theorem Tn.bL {n:Nat} {xs:List Int} (h:Tn n xs) {i:Int} (h0:0<=i) (h1:i < (n:Int)):∀ j,0<=bL xs i j/\bL xs i j < (n:Int)
 | 0=>⟨h0,h1⟩
 | j + 1=>h.app (h.bL h0 h1 j).1 (h.bL h0 h1 j).2
theorem Tn.back {n:Nat} {xs:List Int} (h:Tn n xs) {i:Int} (h0:0<=i) (h1:i < (n:Int)):∀ (a d:Nat),af.bL xs i a=af.bL xs i (a + d)->af.bL xs i d=i
 | 0,d,e=>by rw [WQ] at e;exact e.symm
 | a + 1,d,e=>by
  have e':af.app xs (af.bL xs i a)=af.app xs (af.bL xs i (a + d)):=by
   have:a + 1 + d=(a + d) + 1:=by omega
   rw [this] at e
   exact e
  exact h.back h0 h1 a d (h.inj (h.bL h0 h1 a).1 (h.bL h0 h1 a).2 (h.bL h0 h1 _).1 (h.bL h0 h1 _).2 e')
theorem zz:∀ {xs ys:List Int},xs.Nodup->(∀ x∈xs,x∈ys)->xs.length<=ys.length
 | [],_,_,_=>VW _
 | x :: xs,ys,hn,hs=>by
  obtain ⟨h1,h2⟩:=V0.mp hn
  have hx:x∈ys:=hs x Vl
  have hp:=WU hx
  have hlen:(ys.erase x).length + 1=ys.length:=by have:=hp.length_eq;simpa using this.symm
  have:=zz (ys:=ys.erase x) h2 fun y hy=>(Wm (a:=y) (b:=x) (fun e=>h1 (by rw [<- e];exact hy))).mpr (hs y (Vp _ hy))
  simp only [VJ]
  omega
def row (xs:List Int) (i:Int) (m:Nat):List Int:=(List.range (m + 1)).map (bL xs i)
theorem Lg (xs:List Int) (i:Int) (m:Nat):row xs i (m + 1)=row xs i m ++ [bL xs i (m + 1)]:=by
 unfold row;rw [List.range_succ,Vx];rfl
theorem sE (xs:List Int) (i:Int) (m:Nat):(row xs i m).length=m + 1:=by simp [row]
theorem EB {xs:List Int} {i:Int} {m:Nat} {x:Int}:x∈row xs i m↔∃ j,j<=m/\bL xs i j=x:=by
 unfold row
 rw [Vn]
 constructor
 ·rintro ⟨j,hj,e⟩;exact ⟨j,by have:=WK.mp hj;omega,e⟩
 ·rintro ⟨j,hj,e⟩;exact ⟨j,WK.mpr (by omega),e⟩
def NB (xs:List Int) (i:Int) (m:Nat):Prop:=∀ j,1<=j->j<=m->bL xs i j≠i
theorem Tn.kE {n:Nat} {xs:List Int} (h:Tn n xs) {i:Int} (h0:0<=i) (h1:i < (n:Int)) {m:Nat} (nb:NB xs i m):m + 1<=n:=by
 have hn:(row xs i m).Nodup:=by
  unfold row List.Nodup
  rw [Xm]
  refine List.Pairwise.imp_of_mem (R:=fun a b=>a < b) ?_ List.pairwise_lt_range
  intro a b ha hb hab e
  have ha':=WK.mp ha
  have hb':=WK.mp hb
  obtain ⟨d,rfl⟩:∃ d,b=a + d:=⟨b - a,by omega⟩
  exact nb d (by omega) (by omega) (h.back h0 h1 a d e)
 have:=zz hn (ys:=upto n) fun x hx=>by
  obtain ⟨j,_,rfl⟩:=EB.mp hx
  exact lQ.mpr (h.bL h0 h1 j)
 rw [sE,oM] at this
 exact this
structure iQ (xs:List Int) (i:Int) (r:List Int):Prop where
 ex:∃ m,r=row xs i m/\NB xs i m/\bL xs i (m + 1)=i
theorem iQ.mem {xs:List Int} {i:Int} {r:List Int} (a:iQ xs i r):i∈r:=by
 obtain ⟨m,e1,_,_⟩:=a.ex
 rw [e1];exact EB.mpr ⟨0,VW _,rfl⟩
theorem iQ.len {n:Nat} {xs:List Int} (h:Tn n xs) {i:Int} (h0:0<=i) (h1:i < (n:Int)) {r:List Int} (a:iQ xs i r):r.length<=n:=by
 obtain ⟨m,e1,nb,_⟩:=a.ex
 rw [e1,sE];exact h.kE h0 h1 nb
theorem iQ.bound {n:Nat} {xs:List Int} (h:Tn n xs) {i:Int} (h0:0<=i) (h1:i < (n:Int)) {r:List Int} (a:iQ xs i r):∀ x∈r,0<=x/\x < (n:Int):=by
 obtain ⟨m,e1,nb,_⟩:=a.ex
 subst e1
 intro x hx
 obtain ⟨j,_,rfl⟩:=EB.mp hx
 exact h.bL h0 h1 j
def out (left r:List Int):List Int:=left.filter fun k=>!r.contains k
inductive uU (xs:List Int):List Int->List (List Int)->Prop
 | nil:uU xs [] []
 | cons {i:Int} {left r:List Int} {rs:List (List Int)}:iQ xs i r->uU xs (out (i :: left) r) rs->uU xs (i :: left) (r :: rs)
def from' (n k:Nat) (seen:Int->Bool):List Int:=(((List.range n).drop k).map fun (j:Nat)=>(j:Int)).filter fun x=>!seen x
theorem Pe (n:Nat) (seen:Int->Bool):from' n n seen=[]:=by
 unfold from';rw [W9 (by simp)];rfl
theorem Pf {n k:Nat} (h:k < n) (seen:Int->Bool):from' n k seen=if seen (k:Int) then from' n (k + 1) seen else (k:Int) :: from' n (k + 1) seen:=by
 unfold from'
 rw [Ww (by simpa using h),Vy,List.filter_cons]
 simp only [List.getElem_range]
 cases hs:seen (k:Int) <;> simp
theorem Pg {n k:Nat} {seen:Int->Bool} {r:List Int}:out (from' n k seen) r=from' n k (fun x=>seen x || r.contains x):=by
 unfold out from'
 rw [List.filter_filter]
 congr 1
 funext x
 show (!r.contains x && !seen x)=!(seen x || r.contains x)
 cases seen x <;> cases r.contains x <;> rfl
theorem Ph (n:Nat):from' n 0 (fun _=>false)=upto n:=by
 unfold from' upto
 rw [Xi]
 simp
def p4 (n:Nat):List Int:=((List.range (n - 1)).map fun (k:Nat)=>(1:Int) + k) ++ [0]
theorem Pj:∀ n,n < 21->0 < n->(p4 n).isPerm (upto n)=true:=by decide
theorem Lh {n:Nat} (h:n < 21) (h0:0 < n):Tn n (p4 n):=List.isPerm_iff.mp (Pj n h h0)
end af
namespace af
theorem BB {n:Nat} {xs:List Int} (h:xs.length=n):(upto n).map (app xs)=xs:=by
 apply List.ext_getElem
 ·rw [Vd,oM,h]
 ·intro i h1 h2
  have e:=oN (xs:=xs) (i:=(i:Int)) (by omega) (by omega)
  simp only [Vr] at e
  rw [Vg h2] at e
  rw [WV]
  unfold upto
  simp only [WV,List.getElem_range]
  exact (Vs e).symm
def inv (xs:List Int):List Int:=(upto xs.length).map fun i=>(xs.idxOf i:Int)
theorem BD (xs:List Int):(inv xs).length=xs.length:=by unfold inv;rw [Vd,oM]
theorem BE {n i:Nat} (h:i < n):(upto n)[i]?=some (i:Int):=by
 unfold upto;rw [Vm,WC h];rfl
theorem EC {xs:List Int} {i:Int} (h0:0<=i) (h1:i < (xs.length:Int)):app (inv xs) i=(xs.idxOf i:Int):=by
 have e:=oN (xs:=inv xs) h0 (by rw [BD];exact h1)
 unfold inv at e
 rw [Vm,BE (by omega)] at e
 have:=Vs e
 rw [<- inv] at this
 rw [<- this,VH h0]
theorem Tn.mem {n:Nat} {xs:List Int} (h:Tn n xs) {i:Int} (h0:0<=i) (h1:i < (n:Int)):i∈xs:=h.symm.subset (lQ.mpr ⟨h0,h1⟩)
theorem Tn.idx {n:Nat} {xs:List Int} (h:Tn n xs) {i:Int} (h0:0<=i) (h1:i < (n:Int)):xs.idxOf i < n:=by rw [<- h.length];exact WS (h.mem h0 h1)
theorem Tn.cV {n:Nat} {xs:List Int} (h:Tn n xs) {i:Int} (h0:0<=i) (h1:i < (n:Int)):af.app xs (af.app (inv xs) i)=i:=by
 rw [EC h0 (by rw [h.length];exact h1)]
 have hl:=h.idx h0 h1
 have e:=oN (xs:=xs) (i:=(xs.idxOf i:Int)) (by omega) (by rw [h.length];omega)
 rw [Vr,Vg (by rw [h.length];exact hl)] at e
 rw [<- Vs e]
 exact Xj _
theorem Tn.lX {n:Nat} {xs:List Int} (h:Tn n xs) {i:Int} (h0:0<=i) (h1:i < (n:Int)):0<=af.app (inv xs) i/\af.app (inv xs) i < (n:Int):=by
 rw [EC h0 (by rw [h.length];exact h1)]
 have:=h.idx h0 h1
 omega
theorem Tn.gb {n:Nat} {xs:List Int} (h:Tn n xs) {i:Int} (h0:0<=i) (h1:i < (n:Int)):af.app (inv xs) (af.app xs i)=i:=by
 obtain ⟨a0,a1⟩:=h.app h0 h1
 obtain ⟨b0,b1⟩:=h.lX a0 a1
 exact h.inj b0 b1 h0 h1 (h.cV a0 a1)
theorem Tn.aB {n:Nat} {xs:List Int} (h:Tn n xs):Tn n (inv xs):=by
 have hl:=h.length
 unfold Tn
 have e:(inv xs).length=n:=by rw [BD,hl]
 have:=HF (xs:=inv xs) ?_ ?_
 ·rw [e] at this;exact this
 ·unfold List.Nodup
  rw [Wl]
  intro i j hi hj hij z
  have a:=oN (xs:=inv xs) (i:=(i:Int)) (by omega) (by omega)
  have b:=oN (xs:=inv xs) (i:=(j:Int)) (by omega) (by omega)
  rw [Vr,Vg hi] at a
  rw [Vr,Vg hj] at b
  have a:=Vs a
  have b:=Vs b
  have c:=h.cV (i:=(i:Int)) (by omega) (by omega)
  have d:=h.cV (i:=(j:Int)) (by omega) (by omega)
  rw [<- a] at c
  rw [<- b,<- z] at d
  have:=c.symm.trans d
  omega
 ·intro x hx
  unfold inv at hx
  obtain ⟨i,hi,rfl⟩:=Vn.mp hx
  have:=lQ.mp hi
  rw [hl] at this
  have:=h.idx this.1 this.2
  rw [e];omega
theorem sF (xs:List Int) (i:Int) (j:Nat):∀ d,bL xs (bL xs i j) d=bL xs i (j + d)
 | 0=>rfl
 | d + 1=>by show app xs (bL xs (bL xs i j) d)=app xs (bL xs i (j + d));rw [sF xs i j d]
theorem Li {xs:List Int} {i:Int} {L:Nat} (h:bL xs i L=i) (a:Nat):bL xs i (a + L)=bL xs i a:=by
 rw [Nat.add_comm,<- sF xs i L a,h]
theorem BF {xs:List Int} {i:Int} {L:Nat} (h:bL xs i L=i):∀ (q r:Nat),bL xs i (r + L * q)=bL xs i r
 | 0,r=>rfl
 | q + 1,r=>by rw [Nat.mul_succ,<- Nat.add_assoc,Li h];exact BF h q r
theorem Lj {xs:List Int} {i:Int} {L:Nat} (h:bL xs i L=i) (a:Nat):bL xs i (a % L)=bL xs i a:=by
 have:=BF h (a / L) (a % L)
 rw [Nat.mod_add_div] at this
 exact this.symm
def Lk (xs:List Int) (k i v:Int):Prop:=∃ m,NB xs i m/\bL xs i (m + 1)=i/\v=bL xs i (k % ((m + 1:Nat):Int)).toNat
theorem Tn.wW {n:Nat} {xs:List Int} (h:Tn n xs) {i:Int} (h0:0<=i) (h1:i < (n:Int)) {m:Nat} (nb:NB xs i m) (bk:af.bL xs i (m + 1)=i) (j:Nat) (k:Int) :
  Lk xs k (af.bL xs i j) (af.bL xs i (((j:Int) + k) % ((m + 1:Nat):Int)).toNat):=by
 refine ⟨m,fun d d1 d2 e=>?_,?_,?_⟩
 ·rw [sF] at e
  exact nb d d1 d2 (h.back h0 h1 j d e.symm)
 ·rw [sF,Li bk]
 ·rw [sF]
  rw [<- Lj bk (j + (k % ((m + 1:Nat):Int)).toNat)]
  congr 1
  have hL:(0:Int) < ((m + 1:Nat):Int):=by omega
  have k0:=Wc k (Int.ne_of_gt hL)
  have e:(((j + (k % ((m + 1:Nat):Int)).toNat) % (m + 1):Nat):Int)=((j:Int) + k) % ((m + 1:Nat):Int):=by
   rw [Int.natCast_emod,Int.natCast_add,VH k0,Int.add_emod_emod]
  rw [<- e,Vr]
theorem uU.all {xs:List Int}:∀ {left:List Int} {rs:List (List Int)},uU xs left rs->(∀ r∈rs,∃ i∈left,iQ xs i r)/\∀ x∈left,∃ r∈rs,x∈r:=by
 intro left rs a
 induction a with
 | nil=>exact ⟨fun r hr=>(nomatch hr),fun x hx=>(nomatch hx)⟩
 | cons h1 _ ih =>
  refine ⟨fun r hr=>?_,fun x hx=>?_⟩
  ·rcases VF.mp hr with rfl | hr
   ·exact ⟨_,Vl,h1⟩
   ·obtain ⟨i,hi,r'⟩:=ih.1 r hr
    exact ⟨i,(W0.mp hi).1,r'⟩
  ·rename_i i left r rs _
   by_cases hc:x∈r
   ·exact ⟨r,Vl,hc⟩
   ·obtain ⟨r',hr',hx'⟩:=ih.2 x (W0.mpr ⟨hx,by simp [hc]⟩)
    exact ⟨r',Vp _ hr',hx'⟩
theorem Pk {n:Nat} {xs:List Int} (h:Tn n xs):xs.map (app (inv xs))=upto n:=by
 have e:((upto n).map (app xs)).map (app (inv xs))=upto n:=by
  rw [VB]
  conv=>rhs;rw [<- Wd (upto n)]
  apply VS
  intro x hx
  obtain ⟨a,b⟩:=lQ.mp hx
  exact h.gb a b
 rw [BB h.length] at e
 exact e
theorem Pm {n:Nat} {xs:List Int} (h:Tn n xs):(inv xs).map (app xs)=upto n:=by
 have e:((upto n).map (app (inv xs))).map (app xs)=upto n:=by
  rw [VB]
  conv=>rhs;rw [<- Wd (upto n)]
  apply VS
  intro x hx
  obtain ⟨a,b⟩:=lQ.mp hx
  exact h.cV a b
 rw [BB (h.aB).length] at e
 exact e
end af
namespace af
inductive jD (xs ys:List Int):Int->Prop
 | zero:jD xs ys 0
 | r {x:Int}:jD xs ys x->jD xs ys (app xs x)
 | u {x:Int}:jD xs ys x->jD xs ys (app ys x)
theorem jD.bound {n:Nat} {xs ys:List Int} (hx:Tn n xs) (hy:Tn n ys) (h0:0 < n) {x:Int} (h:jD xs ys x):0<=x/\x < (n:Int):=by
 induction h with
 | zero=>omega
 | r _ ih=>exact hx.app ih.1 ih.2
 | u _ ih=>exact hy.app ih.1 ih.2
theorem jD.bL {xs ys:List Int} {x:Int} (h:jD xs ys x):∀ k,jD xs ys (af.bL xs x k)
 | 0=>h
 | k + 1=>.r (h.bL k)
def mV (xs:List Int) (m:Nat):List Int:=(xs.set 0 (app xs m)).set m (app xs 0)
theorem Pn (xs:List Int) (m:Nat):(mV xs m).length=xs.length:=by simp [mV]
theorem HG {xs:List Int} {m:Nat} {v x:Int} (hm:m < xs.length) (h0:0<=x):app (xs.set m v) x=if x=(m:Int) then v else app xs x:=by
 unfold app
 rw [Vv,Vv]
 by_cases hx:x=(m:Int)
 ·rw [if_pos hx,hx,Vr,Vi hm];rfl
 ·rw [if_neg hx,Vq (by omega)]
theorem zA {xs:List Int} {m:Nat} (hm:m < xs.length) {x:Int} (h0:0<=x):app (mV xs m) x=if x=(m:Int) then app xs 0 else if x=0 then app xs m else app xs x:=by
 unfold mV
 rw [HG (by simpa using hm) h0,HG (by omega) h0]
 rfl
theorem wX {n:Nat} {xs:List Int} (h:Tn n xs) {m:Nat} (hm:m < n):Tn n (mV xs m):=by
 have hl:=h.length
 have e:(mV xs m).length=n:=by rw [Pn,hl]
 have:=HF (xs:=mV xs m) ?_ ?_
 ·unfold Tn;rw [e] at this;exact this
 ·unfold List.Nodup
  rw [Wl]
  intro i j hi hj hij z
  have a:=oN (xs:=mV xs m) (i:=(i:Int)) (by omega) (by omega)
  have b:=oN (xs:=mV xs m) (i:=(j:Int)) (by omega) (by omega)
  rw [Vr,Vg hi] at a
  rw [Vr,Vg hj] at b
  have a:=Vs a
  have b:=Vs b
  rw [zA (by omega) (by omega)] at a b
  rw [a,b] at z
  have inj:∀ p q:Int,0<=p->p < (n:Int)->0<=q->q < (n:Int)->app xs p=app xs q->p=q:=fun p q p0 p1 q0 q1=>h.inj p0 p1 q0 q1
  split at z <;> split at z <;> (try split at z) <;> (try split at z) <;> (first | omega | (have:=inj _ _ (by omega) (by omega) (by omega) (by omega) z;omega))
 ·intro x hx
  obtain ⟨i,hi,rfl⟩:=Wo hx
  have a:=oN (xs:=mV xs m) (i:=(i:Int)) (by omega) (by omega)
  rw [Vr,Vg hi] at a
  rw [Vs a,zA (by omega) (by omega),e]
  split
  ·exact h.app (by omega) (by omega)
  ·split
   ·exact h.app (by omega) (by omega)
   ·exact h.app (by omega) (by omega)
theorem Tn.tN {n:Nat} {xs:List Int} (h:Tn n xs) {i:Int} (h0:0<=i) (h1:i < (n:Int)):∃ m,NB xs i m/\af.bL xs i (m + 1)=i:=by
 by_cases hb:∃ m,m < n/\af.bL xs i (m + 1)=i
 ·-- the least
  have key:∀ b:Nat,(∃ m,m < b/\af.bL xs i (m + 1)=i)->∃ m,NB xs i m/\af.bL xs i (m + 1)=i:=by
   intro b
   induction b with
   | zero=>rintro ⟨m,hm,_⟩;omega
   | succ b ih =>
    rintro ⟨m,hm,e⟩
    by_cases hc:∃ m,m < b/\af.bL xs i (m + 1)=i
    ·exact ih hc
    ·refine ⟨m,fun j j1 j2 z=>hc ⟨j - 1,by omega,?_⟩,e⟩
     have:j - 1 + 1=j:=by omega
     rw [this];exact z
  exact key n hb
 ·have nb:NB xs i n:=fun j j1 j2 z=>by
   refine hb ⟨j - 1,by omega,?_⟩
   have:j - 1 + 1=j:=by omega
   rw [this];exact z
  have:=h.kE h0 h1 nb
  omega
theorem Po {n:Nat} {xs ys:List Int} (hx:Tn n xs) (hy:Tn n ys) {m:Nat} (hm:m < n) (nm:¬ jD xs ys (m:Int)):jD (mV xs m) ys (m:Int)/\∀ x,jD xs ys x->jD (mV xs m) ys x:=by
 have hl:=hx.length
 have m0:m≠0:=fun z=>nm (by rw [z];exact .zero)
 obtain ⟨M,nb,bk⟩:=hx.tN (i:=(m:Int)) (by omega) (by omega)
 have Pp:∀ j,af.bL xs (m:Int) j≠0:=by
  intro j z
  have h':jD xs ys (af.bL xs (af.bL xs (m:Int) j) ((M + 1) * j)):=by rw [z];exact jD.zero.bL _
  rw [sF] at h'
  have e2:af.bL xs (m:Int) ((M + 1) * (j + 1))=(m:Int):=by
   have:=BF bk (j + 1) 0
   rw [WQ] at this
   exact this
  have h3:=h'.bL ((M + 1) * (j + 1) - (j + (M + 1) * j))
  rw [sF] at h3
  have e3:j + (M + 1) * j + ((M + 1) * (j + 1) - (j + (M + 1) * j))=if j + (M + 1) * j<=(M + 1) * (j + 1) then (M + 1) * (j + 1) else j + (M + 1) * j:=by split <;> omega
  rw [e3] at h3
  by_cases hc:j + (M + 1) * j<=(M + 1) * (j + 1)
  ·rw [if_pos hc,e2] at h3
   exact nm h3
  ·-- round as often as needed
   have h4:=h'.bL ((M + 1) * (2 * j + 2) - (j + (M + 1) * j))
   rw [sF] at h4
   have hbig:j + (M + 1) * j<=(M + 1) * (2 * j + 2):=by
    have a1:(M + 1) * (2 * j + 2)=(M + 1) * j + ((M + 1) * j + (M + 1) * 2):=by rw [<- Nat.mul_add,<- Nat.mul_add];congr 1;omega
    have a2:j<=(M + 1) * j:=Nat.le_mul_of_pos_left j (by omega)
    omega
   have e5:j + (M + 1) * j + ((M + 1) * (2 * j + 2) - (j + (M + 1) * j))=(M + 1) * (2 * j + 2):=by omega
   rw [e5] at h4
   have:=BF bk (2 * j + 2) 0
   rw [WQ] at this
   rw [this] at h4
   exact nm h4
 have ring:∀ j,j<=M->jD (mV xs m) ys (af.bL xs (m:Int) (j + 1)):=by
  intro j
  induction j with
  | zero =>
   intro _
   have h1:jD (mV xs m) ys (af.app (mV xs m) 0):=.r .zero
   rw [zA (by omega) (by omega),if_neg (by omega),if_pos rfl] at h1
   exact h1
  | succ j ih =>
   intro hj
   have h1:=(ih (by omega)).r
   have b:=hx.bL (i:=(m:Int)) (by omega) (by omega) (j + 1)
   rw [zA (by omega) b.1,if_neg (nb (j + 1) (by omega) (by omega)),if_neg (Pp (j + 1))] at h1
   exact h1
 have Ll:jD (mV xs m) ys (m:Int):=by have:=ring M (Vh _);rwa [bk] at this
 refine ⟨Ll,fun x h=>?_⟩
 have hpos:0 < n:=by omega
 induction h with
 | zero=>exact .zero
 | r hx' ih =>
  rename_i x
  have b:=hx'.bound hx hy hpos
  by_cases h0:x=0
  ·have h1:=Ll.r
   rw [zA (by omega) (by omega),if_pos rfl] at h1
   rw [h0];exact h1
  ·have Pq:x≠(m:Int):=fun z=>nm (by rw [<- z];exact hx')
   have h1:=ih.r
   rw [zA (by omega) b.1,if_neg Pq,if_neg h0] at h1
   exact h1
 | u _ ih=>exact ih.u
def Cl (xs ys F:List Int):Prop:=∀ x∈F,app xs x∈F/\app ys x∈F
theorem Cl.all {xs ys F:List Int} (h:Cl xs ys F) (h0:(0:Int)∈F) {x:Int} (r:jD xs ys x):x∈F:=by
 induction r with
 | zero=>exact h0
 | r _ ih=>exact (h _ ih).1
 | u _ ih=>exact (h _ ih).2
structure Fd (xs ys:List Int) (F:List Int):Prop where
 z:(0:Int)∈F
 nd:F.Nodup
 mt:∀ x∈F,jD xs ys x
theorem Fd.len {n:Nat} {xs ys F:List Int} (h:Fd xs ys F) (hx:Tn n xs) (hy:Tn n ys) (h0:0 < n):F.length<=n:=by
 have:=zz h.nd (ys:=upto n) fun x hx'=>lQ.mpr ((h.mt x hx').bound hx hy h0)
 rw [oM] at this
 exact this
theorem Fd.one (xs ys:List Int):Fd xs ys [0]:=⟨by simp,by simp,fun x hx=>(show x=0 by simpa using hx) ▸ .zero⟩
theorem round {xs ys F F1 F2:List Int} (d:Fd xs ys F) (d2:Fd xs ys F2) (p1:F <+: F1) (p2:F1 <+: F2) (c1:∀ x∈F,app xs x∈F1) (c2:∀ x∈F1,app ys x∈F2) {t:Nat} (h:Cl xs ys F\/t + 1<=F.length):Cl xs ys F2\/t + 1 + 1<=F2.length:=by
 have p:=p1.trans p2
 by_cases hc:Cl xs ys F
 ·refine .inl fun x hx=>?_
  have hF:=hc.all d.z (d2.mt x hx)
  exact ⟨p.subset (hc x hF).1,p.subset (hc x hF).2⟩
 ·have hl:=h.resolve_left hc
  by_cases he:F2.length<=F.length
  ·refine absurd ?_ hc
   have e2:F2=F:=(p.eq_of_length (by have:=p.length_le;omega)).symm
   have e1:F1=F:=by
    have a:=p1.length_le
    have b:=p2.length_le
    exact (p1.eq_of_length (by omega)).symm
   intro x hx
   refine ⟨?_,?_⟩
   ·have:=c1 x hx;rwa [e1] at this
   ·have:=c2 x (by rw [e1];exact hx);rwa [e2] at this
  ·exact .inr (by omega)
def rM (w n:Nat):List Int:=((List.range (w - 1)).map fun (k:Nat)=>(1:Int) + k) ++ [0] ++ ((List.range (n - w)).map fun (k:Nat)=>(w:Int) + k)
def tO (w n:Nat):List Int:=[(w:Int)] ++ ((List.range (w - 1)).map fun (k:Nat)=>(1:Int) + k) ++ ((List.range (n - (w + 1))).map fun (k:Nat)=>((w:Int) + 1) + k) ++ [0]
theorem Pr:∀ n,n < 21->∀ w,w < n + 1->0 < w->(rM w n).isPerm (upto n)=true:=by decide +kernel
theorem Pt:∀ n,n < 21->∀ w,w < n->0 < w->(tO w n).isPerm (upto n)=true:=by decide +kernel
theorem Pu {w n:Nat} (h:n < 21) (h1:w<=n) (h0:0 < w):Tn n (rM w n):=List.isPerm_iff.mp (Pr n h w (by omega) h0)
theorem Pw {w n:Nat} (h:n < 21) (h1:w < n) (h0:0 < w):Tn n (tO w n):=List.isPerm_iff.mp (Pt n h w h1 h0)
theorem less {L L':List Int} {m:Int} (nd:L'.Nodup) (hs:∀ x∈L',x∈L) (hm:m∈L) (hm':m ∉ L'):L'.length < L.length:=by
 have hp:=WU hm
 have hlen:(L.erase m).length + 1=L.length:=by have:=hp.length_eq;simpa using this.symm
 have:=zz (ys:=L.erase m) nd fun x hx=>(Wm (fun e=>hm' (by rw [<- e];exact hx))).mpr (hs x hx)
 omega
end af
namespace af
def bh (xs ys:List Int):List Int:=xs.map (app ys)
theorem BG (xs ys:List Int):(bh xs ys).length=xs.length:=by simp [bh]
theorem p5 {n:Nat} {xs ys:List Int} (hx:xs.length=n) (hy:ys.length=n) (h:∀ s:Int,0<=s->s < (n:Int)->app xs s=app ys s):xs=ys:=by
 rw [<- BB hx,<- BB hy]
 apply VS
 intro s hs
 obtain ⟨h0,h1⟩:=lQ.mp hs
 exact h s h0 h1
theorem ot {xs ys:List Int} {s:Int} (h0:0<=s) (h1:s < (xs.length:Int)):app (bh xs ys) s=app ys (app xs s):=by
 have e:=oN (xs:=bh xs ys) h0 (by rw [BG];exact h1)
 unfold bh at e
 rw [Vm,oN h0 h1] at e
 exact (Vs e).symm
theorem Tn.rN {n:Nat} {xs:List Int} (hl:xs.length=n) (hb:∀ s:Int,0<=s->s < (n:Int)->0<=af.app xs s/\af.app xs s < (n:Int)) (hi:∀ s t:Int,0<=s->s < (n:Int)->0<=t->t < (n:Int)->af.app xs s=af.app xs t->s=t):Tn n xs:=by
 have el:∀ (i:Nat) (h:i < xs.length),xs[i]=af.app xs (i:Int):=fun i h=>by
  have a:=oN (xs:=xs) (i:=(i:Int)) (by omega) (by omega)
  rw [Vr,Vg h] at a
  exact Vs a
 have:=HF (xs:=xs) ?_ ?_
 ·unfold Tn;rw [hl] at this;exact this
 ·unfold List.Nodup
  rw [Wl]
  intro i j h1 h2 hij z
  rw [el i h1,el j h2] at z
  have:=hi i j (by omega) (by omega) (by omega) (by omega) z
  omega
 ·intro x hx
  obtain ⟨i,h,rfl⟩:=Wo hx
  rw [el i h,hl]
  exact hb i (by omega) (by omega)
theorem Tn.bh {n:Nat} {xs ys:List Int} (hx:Tn n xs) (hy:Tn n ys):Tn n (bh xs ys):=by
 have hl:=hx.length
 refine Tn.rN (by rw [BG];exact hl) (fun s h0 h1=>?_) fun s t s0 s1 t0 t1 e=>?_
 ·rw [ot h0 (by omega)]
  obtain ⟨a,b⟩:=hx.app h0 h1
  exact hy.app a b
 ·rw [ot s0 (by omega),ot t0 (by omega)] at e
  obtain ⟨a,b⟩:=hx.app s0 s1
  obtain ⟨c,d⟩:=hx.app t0 t1
  exact hx.inj s0 s1 t0 t1 (hy.inj a b c d e)
theorem Tn.tP {n:Nat} {xs ys:List Int} (hx:Tn n xs) (hy:Tn n ys) {s:Int} (h0:0<=s) (h1:s < (n:Int)):af.app (inv (af.bh xs ys)) s=af.app (inv xs) (af.app (inv ys) s):=by
 have hf:=hx.bh hy
 obtain ⟨a0,a1⟩:=hy.lX h0 h1
 obtain ⟨b0,b1⟩:=hx.lX a0 a1
 obtain ⟨c0,c1⟩:=hf.lX h0 h1
 refine hf.inj c0 c1 b0 b1 ?_
 rw [hf.cV h0 h1,ot b0 (by rw [hx.length];exact b1),hx.cV a0 a1,hy.cV h0 h1]
def anew (xs p:List Int):List Int:=bh (bh (inv p) xs) p
theorem Tn.anew {n:Nat} {xs p:List Int} (hx:Tn n xs) (hp:Tn n p):Tn n (anew xs p):=(hp.aB.bh hx).bh hp
theorem Tn.iB {n:Nat} {xs p:List Int} (hx:Tn n xs) (hp:Tn n p) {s:Int} (h0:0<=s) (h1:s < (n:Int)):af.app (af.anew xs p) s=af.app p (af.app xs (af.app (inv p) s)):=by
 have hl:=hp.aB.length
 unfold af.anew
 rw [ot h0 (by rw [BG,hl];exact h1),ot h0 (by rw [hl];exact h1)]
theorem Tn.lg {n:Nat} {xs p:List Int} (hx:Tn n xs) (hp:Tn n p) {s:Int} (h0:0<=s) (h1:s < (n:Int)):af.app (af.anew xs p) (af.app p s)=af.app p (af.app xs s):=by
 obtain ⟨a,b⟩:=hp.app h0 h1
 rw [hx.iB hp a b,hp.gb h0 h1]
theorem Tn.lG {n:Nat} {xs p q:List Int} (hx:Tn n xs) (hp:Tn n p) (hq:Tn n q):af.anew (af.anew xs p) q=af.anew xs (af.bh p q):=by
 have hf:=hp.bh hq
 refine p5 (n:=n) ((hx.anew hp).anew hq).length (hx.anew hf).length fun s h0 h1=>?_
 obtain ⟨a0,a1⟩:=hq.lX h0 h1
 obtain ⟨b0,b1⟩:=hp.lX a0 a1
 obtain ⟨c0,c1⟩:=hx.app b0 b1
 rw [(hx.anew hp).iB hq h0 h1,hx.iB hp a0 a1,hx.iB hf h0 h1,hp.tP hq h0 h1,ot c0 (by rw [hp.length];exact c1)]
theorem Tn.lH {n:Nat} {xs p:List Int} (hx:Tn n xs) (hp:Tn n p):af.anew (af.anew xs p) (inv p)=xs:=by
 refine p5 (n:=n) ((hx.anew hp).anew hp.aB).length hx.length fun s h0 h1=>?_
 obtain ⟨a0,a1⟩:=hp.aB.lX h0 h1
 have e:af.app (inv (inv p)) s=af.app p s:=by
  obtain ⟨b0,b1⟩:=hp.app h0 h1
  refine hp.aB.inj a0 a1 b0 b1 ?_
  rw [hp.aB.cV h0 h1,hp.gb h0 h1]
 obtain ⟨b0,b1⟩:=hp.app h0 h1
 obtain ⟨c0,c1⟩:=hx.app h0 h1
 rw [(hx.anew hp).iB hp.aB h0 h1,e,hx.lg hp h0 h1,hp.gb c0 c1]
end af
namespace af
def cP (F:List Int) (x:Int):List Int:=if x∈F then F else F ++ [x]
theorem uV (F:List Int) (x:Int):F <+: cP F x:=by
 unfold cP;split
 ·exact WW _
 ·exact Xk _ _
theorem p6 {F:List Int} {x y:Int}:y∈cP F x↔y∈F\/y=x:=by
 unfold cP;split
 ·next h=>exact ⟨.inl,fun z=>z.elim id fun e=>e ▸ h⟩
 ·rw [VG,Vz]
theorem Lm {F:List Int} {x:Int} (h:F.Nodup):(cP F x).Nodup:=by
 unfold cP;split
 ·exact h
 ·next hx =>
  rw [W6]
  exact ⟨h,by simp,fun a ha b hb e=>hx (by rw [Vz] at hb;rw [<- hb,<- e];exact ha)⟩
def visit (xs ys F:List Int) (x:Int):List Int:=cP (cP F (app xs x)) (app ys x)
def bf (xs ys:List Int) (s:Int):Nat->List Int
 | 0=>[s]
 | k + 1=>match (bf xs ys s k)[k]? with
  | some x=>visit xs ys (bf xs ys s k) x
  | none=>bf xs ys s k
theorem Px (xs ys:List Int) (s:Int) (k:Nat):bf xs ys s k <+: bf xs ys s (k + 1):=by
 show _ <+: (match (bf xs ys s k)[k]? with | some x=>visit xs ys (bf xs ys s k) x | none=>bf xs ys s k)
 split
 ·exact (uV _ _).trans (uV _ _)
 ·exact WW _
theorem wY (xs ys:List Int) (s:Int) (k:Nat):∀ d,bf xs ys s k <+: bf xs ys s (k + d)
 | 0=>WW _
 | d + 1=>(wY xs ys s k d).trans (Px xs ys s (k + d))
theorem wZ (xs ys:List Int) (s:Int):∀ k,(bf xs ys s k).Nodup
 | 0=>by show [s].Nodup;simp
 | k + 1=>by
  show (match (bf xs ys s k)[k]? with | some x=>visit xs ys (bf xs ys s k) x | none=>bf xs ys s k).Nodup
  split
  ·exact Lm (Lm (wZ xs ys s k))
  ·exact wZ xs ys s k
theorem ED {xs ys:List Int} {s:Int} {k:Nat} (h:(bf xs ys s k).length<=k):∀ d,bf xs ys s (k + d)=bf xs ys s k
 | 0=>rfl
 | d + 1=>by
  have e:=ED h d
  show (match (bf xs ys s (k + d))[k + d]? with | some x=>visit xs ys (bf xs ys s (k + d)) x | none=>bf xs ys s (k + d))=_
  rw [e,Xc (by omega)]
section
variable {n:Nat} {xs ys:List Int} {s:Int}
theorem qv (hx:Tn n xs) (hy:Tn n ys) (s0:0<=s) (s1:s < (n:Int)):∀ k,∀ x∈bf xs ys s k,0<=x/\x < (n:Int)
 | 0,x,h=>by rw [Vz.mp (show x∈[s] from h)];exact ⟨s0,s1⟩
 | k + 1,x,h=>by
  have ih:=qv hx hy s0 s1 k
  have h':x∈(match (bf xs ys s k)[k]? with | some y=>visit xs ys (bf xs ys s k) y | none=>bf xs ys s k):=h
  split at h'
  ·next y hy' =>
   obtain ⟨y0,y1⟩:=ih y (Vk hy')
   rcases p6.mp h' with h' | rfl
   ·rcases p6.mp h' with h' | rfl
    ·exact ih x h'
    ·exact hx.app y0 y1
   ·exact hy.app y0 y1
  ·exact ih x h'
theorem BH (hx:Tn n xs) (hy:Tn n ys) (s0:0<=s) (s1:s < (n:Int)) (k:Nat):(bf xs ys s k).length<=n:=by
 have:=zz (wZ xs ys s k) (ys:=upto n) fun x h=>lQ.mpr (qv hx hy s0 s1 k x h)
 rw [oM] at this
 exact this
theorem BI {k i:Nat} (hik:i<=k) {x:Int} (h:(bf xs ys s k)[i]?=some x):(bf xs ys s i)[i]?=some x:=by
 obtain ⟨d,rfl⟩:∃ d,k=i + d:=⟨k - i,by omega⟩
 by_cases hl:(bf xs ys s i).length<=i
 ·rw [ED hl d] at h
  exact h
 ·obtain ⟨t,e⟩:=wY xs ys s i d
  rw [<- e,Vt (by omega)] at h
  exact h
theorem HI (hx:Tn n xs) (hy:Tn n ys) (s0:0<=s) (s1:s < (n:Int)):Cl xs ys (bf xs ys s n):=by
 intro x hm
 obtain ⟨i,hi,e⟩:=Wo hm
 have hl:=BH hx hy s0 s1 n
 have hi':(bf xs ys s i)[i]?=some x:=BI (k:=n) (by omega) (by rw [Vg hi,e])
 have hs:visit xs ys (bf xs ys s i) x <+: bf xs ys s n:=by
  have:=wY xs ys s (i + 1) (n - (i + 1))
  rw [show i + 1 + (n - (i + 1))=n by omega] at this
  have e2:bf xs ys s (i + 1)=visit xs ys (bf xs ys s i) x:=by
   show (match (bf xs ys s i)[i]? with | some x=>visit xs ys (bf xs ys s i) x | none=>bf xs ys s i)=_
   rw [hi']
  rw [<- e2];exact this
 refine ⟨hs.subset ?_,hs.subset ?_⟩
 ·exact p6.mpr (.inl (p6.mpr (.inr rfl)))
 ·exact p6.mpr (.inr rfl)
theorem BJ {zs F:List Int} (hz:Tn n zs) (nd:F.Nodup) (hb:∀ x∈F,0<=x/\x < (n:Int)) (hc:∀ x∈F,app zs x∈F) {y:Int} (y0:0<=y) (y1:y < (n:Int)) (h:app zs y∈F):y∈F:=by
 have Py:(F.map (app zs)).Nodup:=by
  unfold List.Nodup
  rw [Xm]
  refine List.Pairwise.imp_of_mem (fun {a b} ha hb' hab e=>?_) nd
  obtain ⟨a0,a1⟩:=hb a ha
  obtain ⟨b0,b1⟩:=hb b hb'
  exact hab (hz.inj a0 a1 b0 b1 e)
 have pm:(F.map (app zs)).Perm F:=EA Py (fun x hx=>by obtain ⟨z,hz',rfl⟩:=Vn.mp hx;exact hc z hz') (by simp)
 obtain ⟨z,zB,e⟩:=Vn.mp (pm.symm.subset h)
 obtain ⟨z0,z1⟩:=hb z zB
 rw [<- hz.inj z0 z1 y0 y1 e];exact zB
theorem Ln (hx:Tn n xs) (hy:Tn n ys) (s0:0<=s) (s1:s < (n:Int)) (all:∀ x:Int,0<=x->x < (n:Int)->jD xs ys x) {x:Int} (x0:0<=x) (x1:x < (n:Int)):x∈bf xs ys s n:=by
 have cl:=HI hx hy s0 s1
 have nd:=wZ xs ys s n
 have bd:=qv hx hy s0 s1 n
 have hs:s∈bf xs ys s n:=by
  have:=wY xs ys s 0 n
  rw [WQ] at this
  exact this.subset (show s∈[s] by simp)
 have hpos:0 < n:=by omega
 have zero:∀ y,jD xs ys y->y∈bf xs ys s n->(0:Int)∈bf xs ys s n:=by
  intro y hr
  induction hr with
  | zero=>exact id
  | r h ih =>
   intro hm
   obtain ⟨a,b⟩:=h.bound hx hy hpos
   exact ih (BJ hx nd bd (fun x hx'=>(cl x hx').1) a b hm)
  | u h ih =>
   intro hm
   obtain ⟨a,b⟩:=h.bound hx hy hpos
   exact ih (BJ hy nd bd (fun x hx'=>(cl x hx').2) a b hm)
 exact cl.all (zero s (all s s0 s1) hs) (all x x0 x1)
theorem EE (hx:Tn n xs) (hy:Tn n ys) (s0:0<=s) (s1:s < (n:Int)) (all:∀ x:Int,0<=x->x < (n:Int)->jD xs ys x):Tn n (bf xs ys s n) :=
 EA (wZ xs ys s n) (fun x h=>lQ.mpr (qv hx hy s0 s1 n x h)) (by
  have:=zz (Lf n) (ys:=bf xs ys s n) fun x h=>by obtain ⟨a,b⟩:=lQ.mp h;exact Ln hx hy s0 s1 all a b
  exact this)
theorem Lo {p F:List Int} (hp:Tn n p) (hb:∀ x∈F,0<=x/\x < (n:Int)) {x:Int} (x0:0<=x) (x1:x < (n:Int)):cP (F.map (app p)) (app p x)=(cP F x).map (app p):=by
 unfold cP
 have e:app p x∈F.map (app p)↔x∈F:=⟨fun h=>by
  obtain ⟨y,hy,e⟩:=Vn.mp h
  obtain ⟨y0,y1⟩:=hb y hy
  rw [<- hp.inj y0 y1 x0 x1 e];exact hy,fun h=>Vn.mpr ⟨x,h,rfl⟩⟩
 by_cases h:x∈F
 ·rw [if_pos h,if_pos (e.mpr h)]
 ·rw [if_neg h,if_neg fun z=>h (e.mp z),Vx];rfl
theorem HJ {p:List Int} (hx:Tn n xs) (hy:Tn n ys) (hp:Tn n p) (s0:0<=s) (s1:s < (n:Int)):∀ k,bf (anew xs p) (anew ys p) (app p s) k=(bf xs ys s k).map (app p)
 | 0=>rfl
 | k + 1=>by
  have ih:=HJ hx hy hp s0 s1 k
  show (match (bf (anew xs p) (anew ys p) (app p s) k)[k]? with | some x=>visit (anew xs p) (anew ys p) (bf (anew xs p) (anew ys p) (app p s) k) x | none=>bf (anew xs p) (anew ys p) (app p s) k)=(match (bf xs ys s k)[k]? with | some x=>visit xs ys (bf xs ys s k) x | none=>bf xs ys s k).map (app p)
  rw [ih,Vm]
  cases h:(bf xs ys s k)[k]? with
  | none=>rfl
  | some x =>
   obtain ⟨x0,x1⟩:=qv hx hy s0 s1 k x (Vk h)
   obtain ⟨a0,a1⟩:=hx.app x0 x1
   obtain ⟨b0,b1⟩:=hy.app x0 x1
   show visit (anew xs p) (anew ys p) ((bf xs ys s k).map (app p)) (app p x)=(visit xs ys (bf xs ys s k) x).map (app p)
   unfold visit
   rw [hx.lg hp x0 x1,hy.lg hp x0 x1,Lo hp (qv hx hy s0 s1 k) a0 a1,Lo hp (fun z hz=>?_) b0 b1]
   rcases p6.mp hz with hz | rfl
   ·exact qv hx hy s0 s1 k z hz
   ·exact ⟨a0,a1⟩
end
def num (zs sq:List Int):List Int:=sq.map fun o=>(sq.idxOf (app zs o):Int)
theorem Tn.inv_inv {n:Nat} {p:List Int} (hp:Tn n p):inv (inv p)=p:=by
 refine p5 (n:=n) hp.aB.aB.length hp.length fun s h0 h1=>?_
 obtain ⟨a0,a1⟩:=hp.aB.lX h0 h1
 obtain ⟨b0,b1⟩:=hp.app h0 h1
 refine hp.aB.inj a0 a1 b0 b1 ?_
 rw [hp.aB.cV h0 h1,hp.gb h0 h1]
theorem uW {n:Nat} {zs sq:List Int} (hz:Tn n zs) (hs:Tn n sq):anew zs (inv sq)=num zs sq:=by
 unfold anew num bh
 rw [hs.inv_inv,VB]
 apply VS
 intro o ho
 obtain ⟨o0,o1⟩:=hs.bound ho
 obtain ⟨a0,a1⟩:=hz.app o0 o1
 exact EC a0 (by rw [hs.length];exact a1)
theorem Lp {n:Nat} {p:List Int} (hp:Tn n p):∀ {sq:List Int},(∀ x∈sq,0<=x/\x < (n:Int))->∀ {y:Int},0<=y->y < (n:Int)->(sq.map (app p)).idxOf (app p y)=sq.idxOf y
 | [],_,_,_,_=>rfl
 | a :: r,hb,y,y0,y1=>by
  obtain ⟨a0,a1⟩:=hb a Vl
  rw [Vy,Xf,Xf,Lp hp (fun x hx=>hb x (Vp _ hx)) y0 y1]
  by_cases e:a=y
  ·rw [e];simp
  ·have e2:app p a≠app p y:=fun z=>e (hp.inj a0 a1 y0 y1 z)
   rw [show (a == y)=false by simpa using e,show (app p a == app p y)=false by simpa using e2]
theorem Lq {n:Nat} {zs sq p:List Int} (hz:Tn n zs) (hp:Tn n p) (hb:∀ x∈sq,0<=x/\x < (n:Int)):num (anew zs p) (sq.map (app p))=num zs sq:=by
 unfold num
 rw [VB]
 apply VS
 intro o ho
 obtain ⟨o0,o1⟩:=hb o ho
 obtain ⟨a0,a1⟩:=hz.app o0 o1
 show ((sq.map (app p)).idxOf (app (anew zs p) (app p o)):Int)=_
 rw [hz.lg hp o0 o1,Lp hp hb a0 a1]
end af
namespace af
def pw (xs:List Int) (k i:Int):Int:=if 0<=k then bL xs i k.toNat else bL (inv xs) i (-k).toNat
section
variable {n:Nat} {xs:List Int} {i:Int}
theorem Tn.nR (h:Tn n xs) (i0:0<=i) (i1:i < (n:Int)):∀ (k m:Nat),af.bL (inv xs) (af.bL xs i m) k=if k<=m then af.bL xs i (m - k) else af.bL (inv xs) i (k - m)
 | 0,m=>by rw [if_pos (VW _),Nat.sub_zero];rfl
 | k + 1,m=>by
  show af.app (inv xs) (af.bL (inv xs) (af.bL xs i m) k)=_
  rw [h.nR i0 i1 k m]
  by_cases hk:k<=m
  ·rw [if_pos hk]
   by_cases hk1:k + 1<=m
   ·rw [if_pos hk1]
    obtain ⟨d,hd⟩:∃ d,m - k=d + 1:=⟨m - k - 1,by omega⟩
    rw [hd,show m - (k + 1)=d by omega]
    obtain ⟨a,b⟩:=h.bL i0 i1 d
    exact h.gb a b
   ·rw [if_neg hk1,show m - k=0 by omega,show k + 1 - m=1 by omega]
    rfl
  ·rw [if_neg hk,if_neg (by omega),show k + 1 - m=(k - m) + 1 by omega]
   rfl
theorem Tn.rO (h:Tn n xs) (i0:0<=i) (i1:i < (n:Int)) (k m:Nat):af.bL xs (af.bL (inv xs) i m) k=if k<=m then af.bL (inv xs) i (m - k) else af.bL xs i (k - m):=by
 have:=h.aB.nR i0 i1 k m
 rw [h.inv_inv] at this
 exact this
theorem Tn.pw (h:Tn n xs) (i0:0<=i) (i1:i < (n:Int)) (k:Int):0<=af.pw xs k i/\af.pw xs k i < (n:Int):=by
 unfold af.pw
 split
 ·exact h.bL i0 i1 _
 ·exact h.aB.bL i0 i1 _
theorem Tn.pw_add (h:Tn n xs) (i0:0<=i) (i1:i < (n:Int)) (a b:Int):af.pw xs a (af.pw xs b i)=af.pw xs (a + b) i:=by
 by_cases ha:0<=a <;> by_cases hb:0<=b
 ·unfold af.pw
  rw [if_pos ha,if_pos hb,if_pos (by omega),sF]
  congr 1
  omega
 ·have e1:af.pw xs b i=af.bL (inv xs) i (-b).toNat:=by unfold af.pw;rw [if_neg hb]
  have e2:∀ j,af.pw xs a j=af.bL xs j a.toNat:=fun j=>by unfold af.pw;rw [if_pos ha]
  rw [e1,e2,h.rO i0 i1]
  unfold af.pw
  split
  ·split
   ·rw [show (-b).toNat - a.toNat=0 by omega,show (a + b).toNat=0 by omega];rfl
   ·congr 1;omega
  ·rw [if_pos (by omega)];congr 1;omega
 ·have e1:af.pw xs b i=af.bL xs i b.toNat:=by unfold af.pw;rw [if_pos hb]
  have e2:∀ j,af.pw xs a j=af.bL (inv xs) j (-a).toNat:=fun j=>by unfold af.pw;rw [if_neg ha]
  rw [e1,e2,h.nR i0 i1]
  unfold af.pw
  split
  ·rw [if_pos (by omega)];congr 1;omega
  ·rw [if_neg (by omega)];congr 1;omega
 ·unfold af.pw
  rw [if_neg ha,if_neg hb,if_neg (by omega),sF]
  congr 1
  omega
theorem Tn.pw_per (h:Tn n xs) (i0:0<=i) (i1:i < (n:Int)) {L:Nat} (hL:af.bL xs i L=i) (q:Int):af.pw xs ((L:Int) * q) i=i:=by
 have pos:∀ m:Nat,af.pw xs ((L:Int) * (m:Int)) i=i:=fun m=>by
  unfold af.pw
  rw [if_pos (Int.mul_nonneg (by omega) (by omega)),show ((L:Int) * (m:Int)).toNat=0 + L * m by rw [<- Int.natCast_mul,Vr];omega,BF hL]
  rfl
 by_cases hq:0<=q
 ·obtain ⟨m,rfl⟩:∃ m:Nat,q=(m:Int):=⟨q.toNat,by omega⟩
  exact pos m
 ·obtain ⟨m,rfl⟩:∃ m:Nat,q=-(m:Int):=⟨(-q).toNat,by omega⟩
  have:=h.pw_add i0 i1 ((L:Int) * -(m:Int)) ((L:Int) * (m:Int))
  rw [pos m] at this
  rw [this,Int.mul_neg,Int.add_left_neg]
  rfl
theorem Tn.w4 (h:Tn n xs) (i0:0<=i) (i1:i < (n:Int)) {k v:Int} (o:Lk xs k i v):v=af.pw xs k i:=by
 obtain ⟨m,_,bk,rfl⟩:=o
 have m0:=Wc k (show ((m + 1:Nat):Int)≠0 by omega)
 have e:af.bL xs i (k % ((m + 1:Nat):Int)).toNat=af.pw xs (k % ((m + 1:Nat):Int)) i:=by unfold af.pw;rw [if_pos m0]
 rw [e]
 have e2:=h.pw_add i0 i1 (k % ((m + 1:Nat):Int)) (((m + 1:Nat):Int) * (k / ((m + 1:Nat):Int)))
 rw [h.pw_per i0 i1 bk,Int.emod_add_mul_ediv] at e2
 exact e2
end
def cK (xs:List Int) (k:Int):List Int:=(upto xs.length).map (pw xs k)
theorem BK (xs:List Int) (k:Int):(cK xs k).length=xs.length:=by simp [cK,oM]
theorem pA {xs:List Int} {k s:Int} (s0:0<=s) (s1:s < (xs.length:Int)):app (cK xs k) s=pw xs k s:=by
 have e:=oN (xs:=cK xs k) s0 (by rw [BK];exact s1)
 unfold cK at e
 rw [Vm,BE (by omega)] at e
 have:=Vs e
 rw [VH s0] at this
 exact this.symm
theorem Tn.cK {n:Nat} {xs:List Int} (h:Tn n xs) (k:Int):Tn n (cK xs k):=by
 have hl:=h.length
 refine Tn.rN (by rw [BK];exact hl) (fun s s0 s1=>by rw [pA s0 (by omega)];exact h.pw s0 s1 k) fun s t s0 s1 t0 t1 e=>?_
 rw [pA s0 (by omega),pA t0 (by omega)] at e
 have e2:=congrArg (af.pw xs (-k)) e
 rw [h.pw_add s0 s1,h.pw_add t0 t1,Int.add_left_neg] at e2
 exact e2
def shr (xs ys:List Int) (k:Int):List Int:=bh (cK xs (-k)) ys
theorem Tn.shr {n:Nat} {xs ys:List Int} (hx:Tn n xs) (hy:Tn n ys) (k:Int):Tn n (shr xs ys k):=(hx.cK (-k)).bh hy
theorem Tn.ma {n:Nat} {xs ys:List Int} (hx:Tn n xs) {k s:Int} (s0:0<=s) (s1:s < (n:Int)):af.app (af.shr xs ys k) s=af.app ys (af.pw xs (-k) s):=by
 have hl:=hx.length
 unfold af.shr
 rw [ot s0 (by rw [BK,hl];exact s1),pA s0 (by rw [hl];exact s1)]
theorem Tn.tQ {n:Nat} {xs ys:List Int} (hx:Tn n xs) (hy:Tn n ys) (a b:Int):af.shr xs (af.shr xs ys a) b=af.shr xs ys (a + b):=by
 refine p5 (n:=n) (hx.shr (hx.shr hy a) b).length (hx.shr hy (a + b)).length fun s s0 s1=>?_
 obtain ⟨p0,p1⟩:=hx.pw s0 s1 (-b)
 rw [hx.ma s0 s1,hx.ma p0 p1,hx.ma s0 s1,hx.pw_add s0 s1,show -a + -b=-(a + b) by omega]
theorem Tn.rP {n:Nat} {xs ys:List Int} (hx:Tn n xs) (hy:Tn n ys):af.shr xs ys 0=ys:=by
 refine p5 (n:=n) (hx.shr hy 0).length hy.length fun s s0 s1=>?_
 rw [hx.ma s0 s1]
 rfl
end af
namespace af
def tb (l:Int->Nat) (p:Int->Int) (a b:Int):Bool:=if l a=l b\/l (p a)=l (p b) then false else (decide (l a < l b)).xor (decide (l (p a) < l (p b)))
section
variable {n:Nat} {L:List Int} {l:Int->Nat}
end
end af
namespace af
end af
namespace af
abbrev Sp:=Bool×Int
def gE (s:Sp):Prop:=(s.1=false->1<=s.2/\s.2<=3)/\s.2≠0
def iC (a b:Sp):Int:=if a.1 then a.2 + b.2 else (a.2 + b.2) % 4
def cI (a b:Sp):List Sp:=if iC a b=0 then [] else [(a.1,iC a b)]
def cm:List Sp->Sp->List Sp
 | [],s=>[s]
 | t :: r,s=>if t.1=s.1 then cI t s ++ r else s :: t :: r
theorem sG (t:Sp) (r:List Sp) (s:Sp):cm (t :: r) s=if t.1=s.1 then cI t s ++ r else s :: t :: r:=rfl
def j4 (w:List Sp):List Sp:=w.foldl cm []
def mz (s:Sp):Sp:=(s.1,if s.1 then -s.2 else 4 - s.2)
def o6 (w:List Sp):List Sp:=(w.map mz).reverse
def Pl:List Sp->Prop
 | []=>True
 | a :: r=>gE a/\(∀ b,r.head?=some b->a.1≠b.1)/\Pl r
theorem Pl.pr:∀ {l:List Sp},Pl l->∀ s∈l,gE s
 | a :: r,h,s,hs=>by
  rcases VF.mp hs with rfl | hs
  ·exact h.1
  ·exact Pl.pr h.2.2 s hs
theorem Lr {a b:Sp} (ha:gE a) (e:a.1=b.1):(iC a b=0/\cI a b=[])\/(gE (a.1,iC a b)/\cI a b=[(a.1,iC a b)]):=by
 unfold cI
 by_cases h:iC a b=0
 ·exact .inl ⟨h,by rw [if_pos h]⟩
 ·refine .inr ⟨⟨fun hf=>?_,h⟩,by rw [if_neg h]⟩
  simp only at hf
  unfold iC at h ⊢
  simp only [hf,VC,if_false] at h ⊢
  omega
theorem Pl.push {l:List Sp} {s:Sp} (h:Pl l) (hs:gE s):Pl (cm l s):=by
 cases l with
 | nil=>exact ⟨hs,fun b h=>(nomatch h),trivial⟩
 | cons t r =>
  rw [sG]
  split
  ·next e =>
   rcases Lr h.1 e with ⟨_,ej⟩ | ⟨hp,ej⟩
   ·rw [ej];exact h.2.2
   ·rw [ej];exact ⟨hp,h.2.1,h.2.2⟩
  ·next e =>
   refine ⟨hs,fun b hb=>?_,h⟩
   cases hb
   exact fun e'=>e e'.symm
theorem Pl.fold {w:List Sp}:∀ {l:List Sp},Pl l->(∀ s∈w,gE s)->Pl (w.foldl cm l):=by
 induction w with
 | nil=>exact fun h _=>h
 | cons s w ih=>exact fun h hw=>ih (h.push (hw s (Vl))) fun s' h'=>hw s' (Vp _ h')
theorem w6 {w:List Sp} (hw:∀ s∈w,gE s):Pl (j4 w):=Pl.fold (l:=[]) trivial hw
theorem HK {l:List Sp} {s:Sp} (h:∀ b,l.head?=some b->s.1≠b.1):cm l s=s :: l:=by
 cases l with
 | nil=>rfl
 | cons t r=>rw [sG,if_neg fun e=>h t rfl e.symm]
theorem Pl.nA:∀ {l:List Sp},Pl l->j4 l.reverse=l
 | [],_=>rfl
 | a :: r,h=>by
  unfold j4
  rw [WJ,Wa]
  show cm (j4 r.reverse) a=_
  rw [Pl.nA h.2.2,HK h.2.1]
theorem HL (u v:List Sp):j4 (u ++ v)=v.foldl cm (j4 u):=by unfold j4;rw [Wa]
theorem BL {s:Sp} (h:gE s):gE (mz s):=by
 obtain ⟨b,k⟩:=s
 cases b with
 | true=>exact ⟨nofun,fun e=>h.2 (by have:-k=0:=e;show k=0;omega)⟩
 | false =>
  obtain ⟨h1,h2⟩:=h.1 rfl
  simp only at h1 h2
  exact ⟨fun _=>by show 1<=4 - k/\4 - k<=3;omega,by show 4 - k≠0;omega⟩
theorem Pz {p:List Sp} {s:Sp} (hp:Pl p) (hs:gE s):cm (cm p s) (mz s)=p:=by
 have e0:cI s (mz s)=[]:=by
  unfold cI iC mz
  cases hb:s.1 <;> simp <;> omega
 cases p with
 | nil =>
  show (if s.1=(mz s).1 then cI s (mz s) ++ [] else _)=_
  rw [if_pos (show s.1=(mz s).1 from rfl),e0];rfl
 | cons t r =>
  by_cases e:t.1=s.1
  ·have e1:cm (t :: r) s=cI t s ++ r:=by rw [sG,if_pos e]
   rw [e1]
   obtain ⟨tb,tk⟩:=t
   obtain ⟨sb,sk⟩:=s
   simp only at e
   subst e
   have ht:=hp.1
   rcases Lr (b:=(tb,sk)) hp.1 rfl with ⟨h0,ej⟩ | ⟨UJ,ej⟩
   ·rw [ej,List.nil_append]
    have eb:mz (tb,sk)=(tb,tk):=by
     unfold mz
     unfold iC at h0
     cases tb with
     | true=>simp only [if_true] at h0 ⊢;congr 1;omega
     | false =>
      have h1:=ht.1 rfl
      have h2:=hs.1 rfl
      simp only [VC,if_false] at h0 h1 h2 ⊢
      congr 1;omega
    rw [eb]
    exact HK hp.2.1
   ·rw [ej]
    show (if tb=(mz (tb,sk)).1 then cI (tb,iC (tb,tk) (tb,sk)) (mz (tb,sk)) ++ r else _)=_
    rw [if_pos (show tb=(mz (tb,sk)).1 from rfl)]
    have eb:iC (tb,iC (tb,tk) (tb,sk)) (mz (tb,sk))=tk:=by
     unfold iC mz
     cases tb with
     | true=>simp only [if_true];omega
     | false =>
      have h1:=ht.1 rfl
      have h2:=hs.1 rfl
      simp only [VC,if_false] at h1 h2 ⊢
      omega
    unfold cI
    rw [eb,if_neg ht.2]
    rfl
  ·have e1:cm (t :: r) s=s :: t :: r:=by rw [sG,if_neg e]
   rw [e1]
   show (if s.1=(mz s).1 then cI s (mz s) ++ (t :: r) else _)=_
   rw [if_pos (show s.1=(mz s).1 from rfl),e0];rfl
theorem PB {w:List Sp}:∀ {p:List Sp},Pl p->(∀ s∈w,gE s)->(w ++ o6 w).foldl cm p=p:=by
 induction w with
 | nil=>exact fun _ _=>rfl
 | cons s w ih =>
  intro p hp hw
  have e:(s :: w) ++ o6 (s :: w)=s :: ((w ++ o6 w) ++ [mz s]):=by unfold o6;simp
  rw [e]
  show ((w ++ o6 w) ++ [mz s]).foldl cm (cm p s)=p
  have hs:=hw s (Vl)
  rw [Wa,ih (hp.push hs) fun s' h'=>hw s' (Vp _ h')]
  exact Pz hp hs
theorem PD {w:List Sp} (hw:∀ s∈w,gE s):j4 (w ++ o6 w)=[]:=PB (p:=[]) trivial hw
theorem PH {l:List Sp} {s:Sp} {M B:Nat} (h:∀ x∈l,x.2.natAbs<=M) (hs:s.2.natAbs<=B) (hp:gE s) (hl:Pl l):∀ x∈cm l s,x.2.natAbs<=M + B:=by
 intro x hx
 cases l with
 | nil=>rcases Vz.mp hx with rfl;omega
 | cons t r =>
  rw [sG] at hx
  have ht:=h t (Vl)
  split at hx
  ·next e0 =>
   rcases VG.mp hx with hx | hx
   ·unfold cI at hx
    split at hx
    ·exact (nomatch hx)
    ·rcases Vz.mp hx with rfl
     show (iC t s).natAbs<=_
     unfold iC
     split
     ·omega
     ·next hb =>
      have:=hl.1.1 (by simpa using hb)
      have h2:=hp.1 (by rw [<- e0];simpa using hb)
      omega
   ·have:=h x (Vp _ hx);omega
  ·rcases VF.mp hx with rfl | hx
   ·omega
   ·have:=h x hx;omega
theorem PJ (l:List Sp) (s:Sp):(cm l s).length<=l.length + 1:=by
 cases l with
 | nil=>exact Vh _
 | cons t r =>
  rw [sG]
  split
  ·unfold cI;split <;> simp <;> omega
  ·simp
theorem PK {w:List Sp}:∀ {l:List Sp},(w.foldl cm l).length<=l.length + w.length:=by
 induction w with
 | nil=>exact Vh _
 | cons s w ih =>
  intro l
  have:=ih (l:=cm l s)
  have h2:=PJ l s
  rw [VJ]
  exact VL this (by omega)
theorem HM (w:List Sp):(j4 w).length<=w.length:=by have:=PK (w:=w) (l:=[]);simpa [j4] using this
structure T4 where (a b c d:Int)
def T4.one:T4:=⟨1,0,0,1⟩
def T4.qt:T4:=⟨0,-1,1,0⟩
def T4.mul (x y:T4):T4:=⟨x.a * y.a + x.b * y.c,x.a * y.b + x.b * y.d,x.c * y.a + x.d * y.c,x.c * y.b + x.d * y.d⟩
def T4.sH (x:T4):T4:=⟨x.d,-x.b,-x.c,x.a⟩
theorem T4.ext' {x y:T4} (h1:x.a=y.a) (h2:x.b=y.b) (h3:x.c=y.c) (h4:x.d=y.d):x=y:=by cases x;cases y;simp only at h1 h2 h3 h4;subst h1 h2 h3 h4;rfl
theorem T4.assoc (x y z:T4):(x.mul y).mul z=x.mul (y.mul z):=by
 apply T4.ext' <;> simp only [T4.mul,Int.add_mul,Int.mul_add,Int.mul_assoc] <;> omega
theorem T4.one_mul (x:T4):T4.one.mul x=x:=by apply T4.ext' <;> simp [T4.mul,T4.one]
theorem T4.mul_one (x:T4):x.mul T4.one=x:=by apply T4.ext' <;> simp [T4.mul,T4.one]
theorem T4.tR (x y:T4):(x.mul y).sH=y.sH.mul x.sH:=by
 apply T4.ext' <;> simp only [T4.mul,T4.sH,Int.neg_mul,Int.mul_neg,Int.neg_neg,Int.mul_comm] <;> omega
def qp:Nat->T4
 | 0=>T4.one
 | n + 1=>T4.qt.mul (qp n)
def nB (s:Sp):T4:=if s.1 then ⟨1,s.2,0,1⟩ else qp s.2.toNat
def mW (T:T4) (w:List Sp):T4:=w.foldl (fun T s=>(nB s).mul T) T
def cC (w:List Sp):T4:=mW T4.one w
theorem PL (w:List Sp):∀ T:T4,mW T w=(cC w).mul T:=by
 induction w with
 | nil=>exact fun T=>(T4.one_mul T).symm
 | cons s w ih =>
  intro T
  show mW ((nB s).mul T) w=(mW ((nB s).mul T4.one) w).mul T
  rw [ih,ih,T4.mul_one,T4.assoc]
theorem w8 (u v:List Sp):cC (u ++ v)=(cC v).mul (cC u):=by
 show mW T4.one (u ++ v)=_
 unfold mW
 rw [Wa]
 exact PL v _
theorem BM (u:List Sp) (s:Sp):cC (u ++ [s])=(nB s).mul (cC u):=by
 show mW T4.one (u ++ [s])=_
 unfold mW
 rw [Wa];rfl
theorem t3 {k:Int} (h:1<=k/\k<=3):k=1\/k=2\/k=3:=by omega
theorem PN {t s:Sp} (ht:gE t) (hs:gE s) (e:t.1=s.1):cC (cI t s)=(nB s).mul (nB t):=by
 obtain ⟨tb,tk⟩:=t
 obtain ⟨sb,sk⟩:=s
 simp only at e
 subst e
 cases tb with
 | true =>
  have e2:(nB (true,sk)).mul (nB (true,tk))=⟨1,tk + sk,0,1⟩:=by apply T4.ext' <;> simp [T4.mul,nB] <;> omega
  rw [e2]
  unfold cI iC
  simp only [if_true]
  split
  ·next h=>rw [h];rfl
  ·rw [show cC [(true,tk + sk)]=(nB (true,tk + sk)).mul T4.one from rfl,T4.mul_one];rfl
 | false =>
  have h1:=ht.1 rfl
  have h2:=hs.1 rfl
  simp only at h1 h2
  rcases t3 h1 with rfl | rfl | rfl <;> rcases t3 h2 with rfl | rfl | rfl <;> rfl
theorem PQ {l:List Sp} {s:Sp} (hl:Pl l) (hs:gE s):cC (cm l s).reverse=(nB s).mul (cC l.reverse):=by
 cases l with
 | nil=>exact BM [] s
 | cons t r =>
  rw [sG]
  split
  ·next e =>
   rw [List.reverse_append,w8,WJ,BM,<- T4.assoc]
   congr 1
   rw [<- PN hl.1 hs e]
   unfold cI
   split <;> rfl
  ·rw [WJ,BM]
theorem PR {w:List Sp}:∀ {l:List Sp},Pl l->(∀ s∈w,gE s)->cC (w.foldl cm l).reverse=mW (cC l.reverse) w:=by
 induction w with
 | nil=>exact fun _ _=>rfl
 | cons s w ih =>
  intro l hl hw
  have hs:=hw s (Vl)
  show cC (w.foldl cm (cm l s)).reverse=mW ((nB s).mul (cC l.reverse)) w
  rw [ih (hl.push hs) fun s' h'=>hw s' (Vp _ h'),PQ hl hs]
theorem Ls {w:List Sp} (hw:∀ s∈w,gE s):cC (j4 w).reverse=cC w:=PR (l:=[]) trivial hw
theorem xa {s:Sp} (h:gE s):nB (mz s)=(nB s).sH:=by
 obtain ⟨b,k⟩:=s
 cases b with
 | true=>apply T4.ext' <;> simp [T4.sH,nB,mz]
 | false =>
  have h1:=h.1 rfl
  simp only at h1
  rcases t3 h1 with rfl | rfl | rfl <;> rfl
theorem Lu {w:List Sp} (hw:∀ s∈w,gE s):cC (o6 w)=(cC w).sH:=by
 induction w with
 | nil=>rfl
 | cons s w ih =>
  have e:o6 (s :: w)=o6 w ++ [mz s]:=by unfold o6;simp
  have e2:cC (s :: w)=(cC w).mul (nB s):=by
   rw [show s :: w=[s] ++ w from rfl,w8]
   congr 1
   exact (BM [] s).trans (T4.mul_one _)
  rw [e,BM,ih fun s' h'=>hw s' (Vp _ h'),xa (hw s (Vl)),e2,T4.tR]
end af
namespace af
def o7:List Int->List Int->Bool
 | [],[]=>false
 | [],_ :: _=>true
 | _ :: _,[]=>false
 | x :: xs,y :: ys=>if x=y then o7 xs ys else decide (x < y)
theorem EF:∀ xs:List Int,o7 xs xs=false
 | []=>rfl
 | x :: xs=>by unfold o7;rw [if_pos rfl];exact EF xs
theorem HN:∀ {xs ys zs:List Int},o7 xs ys=true->o7 ys zs=true->o7 xs zs=true
 | [],[],_,h,_=>by cases h
 | [],_ :: _,[],_,h=>by cases h
 | [],_ :: _,_ :: _,_,_=>rfl
 | _ :: _,[],_,h,_=>by cases h
 | _ :: _,_ :: _,[],_,h=>by cases h
 | x :: xs,y :: ys,z :: zs,h1,h2=>by
  unfold o7 at h1 h2 ⊢
  by_cases a:x=y
  ·rw [if_pos a] at h1
   by_cases b:y=z
   ·rw [if_pos b] at h2
    rw [if_pos (a.trans b)];exact HN h1 h2
   ·rw [if_neg b] at h2
    rw [if_neg (fun e=>b (a.symm.trans e))]
    rw [a];exact h2
  ·rw [if_neg a] at h1
   have h1:=of_decide_eq_true h1
   by_cases b:y=z
   ·rw [<- b,if_neg a];exact decide_eq_true h1
   ·rw [if_neg b] at h2
    have h2:=of_decide_eq_true h2
    rw [if_neg (by omega)];exact decide_eq_true (by omega)
theorem HP:∀ {xs ys:List Int},o7 xs ys=false->o7 ys xs=false->xs=ys
 | [],[],_,_=>rfl
 | [],_ :: _,h,_=>by cases h
 | _ :: _,[],_,h=>by cases h
 | x :: xs,y :: ys,h1,h2=>by
  unfold o7 at h1 h2
  by_cases a:x=y
  ·subst a
   rw [if_pos rfl] at h1 h2
   rw [HP h1 h2]
  ·rw [if_neg a] at h1
   rw [if_neg (Ne.symm a)] at h2
   have h1:=of_decide_eq_false h1
   have h2:=of_decide_eq_false h2
   omega
abbrev aR:=List Int×List Int
def mB (p q:aR):Bool:=if p.1=q.1 then o7 p.2 q.2 else o7 p.1 q.1
theorem Lv (p:aR):mB p p=false:=by unfold mB;rw [if_pos rfl];exact EF _
theorem PU {p q r:aR} (h1:mB p q=true) (h2:mB q r=true):mB p r=true:=by
 unfold mB at h1 h2 ⊢
 by_cases a:p.1=q.1
 ·rw [if_pos a] at h1
  by_cases b:q.1=r.1
  ·rw [if_pos b] at h2
   rw [if_pos (a.trans b)];exact HN h1 h2
  ·rw [if_neg b] at h2
   rw [if_neg (fun e=>b (a.symm.trans e)),a];exact h2
 ·rw [if_neg a] at h1
  by_cases b:q.1=r.1
  ·rw [<- b,if_neg a];exact h1
  ·rw [if_neg b] at h2
   have h:=HN h1 h2
   rw [if_neg (fun e=>by rw [e,EF] at h;cases h)];exact h
theorem PV {p q:aR} (h1:mB p q=false) (h2:mB q p=false):p=q:=by
 unfold mB at h1 h2
 by_cases a:p.1=q.1
 ·rw [if_pos a] at h1
  rw [if_pos a.symm] at h2
  exact Prod.ext a (HP h1 h2)
 ·rw [if_neg a] at h1
  rw [if_neg (Ne.symm a)] at h2
  exact absurd (HP h1 h2) a
def mC:List aR->aR
 | []=>([],[])
 | p :: l=>l.foldl (fun b q=>if mB q b then q else b) p
def Lst (l:List aR) (p:aR):Prop:=p∈l/\∀ q∈l,mB q p=false
theorem Lst.unique {l m:List aR} {p q:aR} (a:Lst l p) (b:Lst m q) (h:∀ x,x∈l↔x∈m):p=q:=PV (b.2 p ((h p).mp a.1)) (a.2 q ((h q).mpr b.1))
theorem Lst.step {l:List aR} {b q:aR} (h:Lst l b):Lst (l ++ [q]) (if mB q b then q else b):=by
 split
 ·next hq =>
  refine ⟨VN _ (List.mem_singleton_self _),fun x hx=>?_⟩
  rcases VG.mp hx with hx | hx
  ·cases PX:mB x q with
   | false=>rfl
   | true=>have:=PU PX hq;rw [h.2 x hx] at this;cases this
  ·rw [Vz.mp hx];exact Lv q
 ·next hq =>
  refine ⟨Wv _ h.1,fun x hx=>?_⟩
  rcases VG.mp hx with hx | hx
  ·exact h.2 x hx
  ·rw [Vz.mp hx];simpa using hq
theorem Lst.fold:∀ (l pre:List aR) (b:aR),Lst pre b->Lst (pre ++ l) (l.foldl (fun b q=>if mB q b then q else b) b)
 | [],pre,b,h=>by rw [Wr];exact h
 | q :: l,pre,b,h=>by
  have:=Lst.fold l (pre ++ [q]) _ (h.step (q:=q))
  rw [WI] at this
  exact this
theorem HQ {l:List aR} (h:l≠[]):Lst l (mC l):=by
 cases l with
 | nil=>exact absurd rfl h
 | cons p l=>exact Lst.fold l [p] p ⟨List.mem_singleton_self _,fun q hq=>by rw [Vz.mp hq];exact Lv p⟩
theorem PY {l m:List aR} (h:∀ x,x∈l↔x∈m) (hl:l≠[]):mC l=mC m:=by
 have hm:m≠[]:=fun e=>by
  obtain ⟨x,hx⟩:=List.exists_mem_of_ne_nil l hl
  have:=(h x).mp hx
  rw [e] at this
  cases this
 exact (HQ hl).unique (HQ hm) h
end af
namespace af
theorem uX (n:Nat):Tn n (upto n):=WO _
theorem EG {n:Nat} {s:Int} (s0:0<=s) (s1:s < (n:Int)):app (upto n) s=s:=by
 unfold app
 rw [Vv,BE (by omega),Option.getD_some];omega
section
variable {n:Nat} {a b c g x y:List Int}
theorem p7 (ha:Tn n a) (hb:Tn n b) (hc:Tn n c):bh (bh a b) c=bh a (bh b c):=by
 refine p5 (n:=n) ((ha.bh hb).bh hc).length (ha.bh (hb.bh hc)).length fun s s0 s1=>?_
 obtain ⟨p0,p1⟩:=ha.app s0 s1
 rw [ot s0 (by rw [(ha.bh hb).length];exact s1),ot s0 (by rw [ha.length];exact s1),ot s0 (by rw [ha.length];exact s1),ot p0 (by rw [hb.length];exact p1)]
theorem BN (ha:Tn n a):bh a (inv a)=upto n:=Pk ha
theorem HR (ha:Tn n a):bh (inv a) a=upto n:=Pm ha
theorem xb (ha:Tn n a):bh a (upto n)=a:=by
 refine p5 (n:=n) (ha.bh (uX n)).length ha.length fun s s0 s1=>?_
 obtain ⟨p0,p1⟩:=ha.app s0 s1
 rw [ot s0 (by rw [ha.length];exact s1),EG p0 p1]
theorem EH (ha:Tn n a):bh (upto n) a=a:=by
 refine p5 (n:=n) ((uX n).bh ha).length ha.length fun s s0 s1=>?_
 rw [ot s0 (by rw [(uX n).length];exact s1),EG s0 s1]
theorem EI (ha:Tn n a) (hb:Tn n b) (h:bh a b=upto n):inv a=b:=by
 have e:bh (inv a) (bh a b)=b:=by rw [<- p7 ha.aB ha hb,HR ha,EH hb]
 rw [h,xb ha.aB] at e
 exact e
theorem uY (ha:Tn n a) (hb:Tn n b):inv (bh a b)=bh (inv b) (inv a):=by
 refine EI (ha.bh hb) (hb.aB.bh ha.aB) ?_
 rw [p7 ha hb (hb.aB.bh ha.aB),<- p7 hb hb.aB ha.aB,BN hb,EH ha.aB,BN ha]
theorem Lw (ha:Tn n a) (hb:Tn n b):bh (bh a b) (inv b)=a:=by rw [p7 ha hb hb.aB,BN hb,xb ha]
theorem HS (ha:Tn n a) (hb:Tn n b):bh (bh a (inv b)) b=a:=by rw [p7 ha hb.aB hb,HR hb,xb ha]
theorem PZ (ha:Tn n a) (hb:Tn n b):bh a (bh (inv a) b)=b:=by rw [<- p7 ha ha.aB hb,BN ha,EH hb]
theorem BO (hx:Tn n x) (i j:Int):bh (cK x i) (cK x j)=cK x (i + j):=by
 refine p5 (n:=n) ((hx.cK i).bh (hx.cK j)).length (hx.cK (i + j)).length fun s s0 s1=>?_
 obtain ⟨p0,p1⟩:=hx.pw s0 s1 i
 have hl:=hx.length
 rw [ot s0 (by rw [BK,hl];exact s1),pA s0 (by rw [hl];exact s1),pA p0 (by rw [hl];exact p1),pA s0 (by rw [hl];exact s1),hx.pw_add s0 s1,Int.add_comm j i]
theorem HU (hx:Tn n x):cK x 0=upto n:=by
 refine p5 (n:=n) (hx.cK 0).length (uX n).length fun s s0 s1=>?_
 rw [pA s0 (by rw [hx.length];exact s1),EG s0 s1];rfl
theorem BP (hx:Tn n x):cK x 1=x:=by
 refine p5 (n:=n) (hx.cK 1).length hx.length fun s s0 s1=>?_
 rw [pA s0 (by rw [hx.length];exact s1)];rfl
theorem HV (hx:Tn n x) (k:Int):inv (cK x k)=cK x (-k):=EI (hx.cK k) (hx.cK (-k)) (by rw [BO hx,Xn,HU hx])
theorem HW (hx:Tn n x):cK x (-1)=inv x:=by rw [<- HV hx,BP hx]
theorem Lx (hx:Tn n x) (k:Int):cK (inv x) k=cK x (-k):=by
 refine p5 (n:=n) (hx.aB.cK k).length (hx.cK (-k)).length fun s s0 s1=>?_
 rw [pA s0 (by rw [hx.aB.length];exact s1),pA s0 (by rw [hx.length];exact s1)]
 unfold pw
 by_cases h:0<=k
 ·rw [if_pos h]
  by_cases h0:k=0
  ·subst h0;rfl
  ·rw [if_neg (by omega),show -(-k)=k by omega]
 ·rw [if_neg h,if_pos (by omega),hx.inv_inv]
theorem Ly (ha:Tn n a) (hb:Tn n b) (hg:Tn n g):bh (anew a g) (anew b g)=anew (bh a b) g:=by
 unfold anew
 have hi:=hg.aB
 rw [p7 (hi.bh ha) hg ((hi.bh hb).bh hg),p7 hi hb hg,PZ hg (hb.bh hg),p7 hi ha (hb.bh hg),<- p7 ha hb hg,<- p7 hi (ha.bh hb) hg]
theorem P0 (hg:Tn n g):anew (upto n) g=upto n:=by unfold anew;rw [xb hg.aB,HR hg]
theorem Lz (ha:Tn n a) (hg:Tn n g):inv (anew a g)=anew (inv a) g:=EI (ha.anew hg) (ha.aB.anew hg) (by rw [Ly ha ha.aB hg,BN ha,P0 hg])
theorem HX (hx:Tn n x) (hg:Tn n g) {i:Int} (i0:0<=i) (i1:i < (n:Int)):∀ k,bL (anew x g) (app g i) k=app g (bL x i k)
 | 0=>rfl
 | k + 1=>by
  obtain ⟨p0,p1⟩:=hx.bL i0 i1 k
  show app (anew x g) (bL (anew x g) (app g i) k)=app g (app x (bL x i k))
  rw [HX hx hg i0 i1 k,hx.lg hg p0 p1]
theorem P6 (hx:Tn n x) (hg:Tn n g) {i:Int} (i0:0<=i) (i1:i < (n:Int)) (k:Int):pw (anew x g) k (app g i)=app g (pw x k i):=by
 unfold pw
 split
 ·exact HX hx hg i0 i1 _
 ·rw [Lz hx hg];exact HX hx.aB hg i0 i1 _
theorem P8 (hx:Tn n x) (hg:Tn n g) (k:Int):cK (anew x g) k=anew (cK x k) g:=by
 refine p5 (n:=n) ((hx.anew hg).cK k).length ((hx.cK k).anew hg).length fun s s0 s1=>?_
 obtain ⟨p0,p1⟩:=hg.lX s0 s1
 rw [pA s0 (by rw [(hx.anew hg).length];exact s1),(hx.cK k).iB hg s0 s1,pA p0 (by rw [hx.length];exact p1),<- P6 hx hg p0 p1,hg.cV s0 s1]
end
def Vf (n:Nat) (p:aR):Prop:=Tn n p.1/\Tn n p.2
def bT (n:Nat) (p q:aR):Prop:=∃ g,Tn n g/\q=(anew p.1 g,anew p.2 g)
def Sh (k:Int) (p:aR):aR:=(p.1,shr p.1 p.2 k)
def Qt (p:aR):aR:=(inv p.2,p.1)
section
variable {n:Nat} {p q r:aR}
theorem Vf.sh (h:Vf n p) (k:Int):Vf n (Sh k p):=⟨h.1,h.1.shr h.2 k⟩
theorem Vf.qt (h:Vf n p):Vf n (Qt p):=⟨h.2.aB,h.1⟩
theorem bT.refl (h:Vf n p):bT n p p:=⟨upto n,uX n,by
 have e:∀ a:List Int,Tn n a->anew a (upto n)=a:=fun a ha=>by
  unfold anew
  rw [EI (uX n) (uX n) (xb (uX n)),EH ha,xb ha]
 rw [e _ h.1,e _ h.2]⟩
theorem bT.symm (h:Vf n p) (a:bT n p q):bT n q p:=by
 obtain ⟨g,hg,rfl⟩:=a
 exact ⟨inv g,hg.aB,by show p=(anew (anew p.1 g) (inv g),anew (anew p.2 g) (inv g));rw [h.1.lH hg,h.2.lH hg]⟩
theorem bT.trans (h:Vf n p) (a:bT n p q) (b:bT n q r):bT n p r:=by
 obtain ⟨g,hg,rfl⟩:=a
 obtain ⟨f,hf,rfl⟩:=b
 exact ⟨bh g f,hg.bh hf,by show (anew (anew p.1 g) f,anew (anew p.2 g) f)=_;rw [h.1.lG hg hf,h.2.lG hg hf]⟩
theorem bT.sh (h:Vf n p) (a:bT n p q) (k:Int):bT n (Sh k p) (Sh k q):=by
 obtain ⟨g,hg,rfl⟩:=a
 refine ⟨g,hg,?_⟩
 show (anew p.1 g,bh (cK (anew p.1 g) (-k)) (anew p.2 g))=(anew p.1 g,anew (bh (cK p.1 (-k)) p.2) g)
 rw [P8 h.1 hg,Ly (h.1.cK _) h.2 hg]
theorem bT.qt (h:Vf n p) (a:bT n p q):bT n (Qt p) (Qt q):=by
 obtain ⟨g,hg,rfl⟩:=a
 refine ⟨g,hg,?_⟩
 show (inv (anew p.2 g),anew p.1 g)=(anew (inv p.2) g,anew p.1 g)
 rw [Lz h.2 hg]
theorem sI (h:Vf n p) (j k:Int):Sh k (Sh j p)=Sh (j + k) p:=by
 show (p.1,shr p.1 (shr p.1 p.2 j) k)=(p.1,shr p.1 p.2 (j + k))
 rw [h.1.tQ h.2]
theorem nS (h:Vf n p):Sh 0 p=p:=by
 show (p.1,shr p.1 p.2 0)=p
 rw [h.1.rP h.2]
def Q2 (p:aR):aR:=(inv p.1,inv p.2)
theorem BQ (p:aR):Qt (Qt p)=Q2 p:=rfl
theorem BR (h:Vf n p):Q2 (Q2 p)=p:=by
 show (inv (inv p.1),inv (inv p.2))=p
 rw [h.1.inv_inv,h.2.inv_inv]
theorem Vf.q2 (h:Vf n p):Vf n (Q2 p):=⟨h.1.aB,h.2.aB⟩
theorem bT.q2 (h:Vf n p) (a:bT n p q):bT n (Q2 p) (Q2 q):=bT.qt h.qt (bT.qt h a)
theorem uZ (h:Vf n p) (k:Int):bT n (Q2 (Sh k p)) (Sh k (Q2 p)):=by
 have hx:=h.1
 have hy:=h.2
 refine ⟨cK p.1 (-k),hx.cK _,?_⟩
 show (inv p.1,bh (cK (inv p.1) (-k)) (inv p.2))=(anew (inv p.1) (cK p.1 (-k)),anew (inv (bh (cK p.1 (-k)) p.2)) (cK p.1 (-k)))
 have e1:anew (inv p.1) (cK p.1 (-k))=inv p.1:=by
  unfold anew
  rw [HV hx,<- HW hx,BO hx,BO hx]
  congr 1;omega
 have e2:anew (inv (bh (cK p.1 (-k)) p.2)) (cK p.1 (-k))=bh (cK (inv p.1) (-k)) (inv p.2):=by
  unfold anew
  rw [uY (hx.cK _) hy,Lx hx,HV hx,p7 (hx.cK _) (hy.aB.bh (hx.cK _)) (hx.cK _),p7 hy.aB (hx.cK _) (hx.cK _),BO hx,show - -k + -k=0 by omega,HU hx,xb hy.aB]
 rw [e1,e2]
theorem BS (h:Vf n p):bT n (Qt (Sh 1 (Qt p))) (Sh (-1) (Qt (Sh (-1) p))):=by
 have hx:=h.1
 have hy:=h.2
 have l:Qt (Sh 1 (Qt p))=(bh (inv p.1) (inv p.2),inv p.2):=by
  show (inv (bh (cK (inv p.2) (-1)) p.1),inv p.2)=_
  rw [Lx hy,show -(-1:Int)=1 by omega,BP hy,uY hy hx]
 have r:Sh (-1) (Qt (Sh (-1) p))=(bh (inv p.2) (inv p.1),inv p.2):=by
  show (inv (bh (cK p.1 (-(-1))) p.2),bh (cK (inv (bh (cK p.1 (-(-1))) p.2)) (-(-1))) p.1)=_
  have hf:=hx.bh hy
  rw [show -(-1:Int)=1 by omega,BP hx,BP hf.aB,uY hx hy,HS hy.aB hx]
 refine ⟨p.2,hy,?_⟩
 rw [l,r]
 show (bh (inv p.2) (inv p.1),inv p.2)=(bh (bh (inv p.2) (bh (inv p.1) (inv p.2))) p.2,bh (bh (inv p.2) (inv p.2)) p.2)
 rw [<- p7 hy.aB hx.aB hy.aB,HS (hy.aB.bh hx.aB) hy,HS hy.aB hy]
theorem xc (h:Vf n p):bT n (Qt (Sh (-1) (Qt p))) (Q2 (Sh 1 (Qt (Sh 1 p)))):=by
 have hx:=h.1
 have hy:=h.2
 have hu:=hx.aB.bh hy
 have l:Qt (Sh (-1) (Qt p))=(bh (inv p.1) p.2,inv p.2):=by
  show (inv (bh (cK (inv p.2) (-(-1))) p.1),inv p.2)=_
  rw [show -(-1:Int)=1 by omega,BP hy.aB,uY hy.aB hx,hy.inv_inv]
 have r:Q2 (Sh 1 (Qt (Sh 1 p)))=(bh (inv p.1) p.2,bh (inv p.1) (bh (inv p.2) p.1)):=by
  show (inv (inv (bh (cK p.1 (-1)) p.2)),inv (bh (cK (inv (bh (cK p.1 (-1)) p.2)) (-1)) p.1))=_
  rw [HW hx,HW hu.aB,hu.inv_inv,uY hu hx,uY hx.aB hy,hx.inv_inv]
 refine ⟨bh (inv p.2) p.1,hy.aB.bh hx,?_⟩
 rw [l,r]
 show (bh (inv p.1) p.2,bh (inv p.1) (bh (inv p.2) p.1))=(bh (bh (inv (bh (inv p.2) p.1)) (bh (inv p.1) p.2)) (bh (inv p.2) p.1),bh (bh (inv (bh (inv p.2) p.1)) (inv p.2)) (bh (inv p.2) p.1))
 have eg:inv (bh (inv p.2) p.1)=bh (inv p.1) p.2:=by rw [uY hy.aB hx,hy.inv_inv]
 have P9:bh (inv p.2) p.1=inv (bh (inv p.1) p.2):=by rw [uY hx.aB hy,hx.inv_inv]
 rw [eg]
 have e1:bh (bh (bh (inv p.1) p.2) (bh (inv p.1) p.2)) (bh (inv p.2) p.1)=bh (inv p.1) p.2:=by rw [P9,Lw hu hu]
 have e2:bh (bh (bh (inv p.1) p.2) (inv p.2)) (bh (inv p.2) p.1)=bh (inv p.1) (bh (inv p.2) p.1):=by rw [Lw hx.aB hy]
 rw [e1,e2]
end
def act:Int->List Int->aR->aR
 | k,[],p=>Sh k p
 | k,j :: ks,p=>act j ks (Qt (Sh k p))
def tS (k:Int):T4:=⟨1,k,0,1⟩
def iN (k:Int):T4:=⟨0,-1,1,k⟩
def iD:Int->List Int->T4
 | k,[]=>tS k
 | k,j :: ks=>(iD j ks).mul (iN k)
def ko (e:Bool) (M:T4):T4:=if e then ⟨-M.a,-M.b,-M.c,-M.d⟩ else M
def ou (e:Bool) (p:aR):aR:=if e then Q2 p else p
theorem BU (e f:Bool) (M:T4):ko e (ko f M)=ko (e.xor f) M:=by
 cases e <;> cases f <;> simp [ko]
theorem BV (e:Bool) (M N:T4):(ko e M).mul N=ko e (M.mul N):=by
 cases e
 ·rfl
 ·unfold ko T4.mul;simp only [if_true];congr 1 <;> grind
section
variable {n:Nat} {p q r:aR}
theorem Vf.act:∀ {ks:List Int} {k:Int} {p:aR},Vf n p->Vf n (af.act k ks p)
 | [],k,p,h=>h.sh k
 | j :: ks,k,p,h=>Vf.act (ks:=ks) (h.sh k).qt
theorem bT.act:∀ {ks:List Int} {k:Int} {p q:aR},Vf n p->bT n p q->bT n (af.act k ks p) (af.act k ks q)
 | [],k,p,q,h,a=>bT.sh h a k
 | j :: ks,k,p,q,h,a=>bT.act (ks:=ks) (h.sh k).qt (bT.qt (h.sh k) (bT.sh h a k))
theorem bT.ou (h:Vf n p) (a:bT n p q) (e:Bool):bT n (af.ou e p) (af.ou e q):=by cases e;exact a;exact bT.q2 h a
theorem EJ (h:Vf n p) (e f:Bool):ou e (ou f p)=ou (e.xor f) p:=by
 cases e <;> cases f
 ·rfl
 ·rfl
 ·rfl
 ·exact BR h
theorem BW:∀ {ks:List Int} {k:Int} {p:aR},Vf n p->bT n (act k ks (Q2 p)) (Q2 (act k ks p))
 | [],k,p,h=>bT.symm (h.sh k).q2 (uZ h k)
 | j :: ks,k,p,h=>by
  have h1:bT n (Qt (Sh k (Q2 p))) (Qt (Q2 (Sh k p))):=bT.qt (h.q2.sh k) (bT.symm (h.sh k).q2 (uZ h k))
  have h2:=bT.act (ks:=ks) (k:=j) ((h.q2.sh k).qt) h1
  have h3:=BW (ks:=ks) (k:=j) (h.sh k).qt
  exact bT.trans (Vf.act (ks:=j :: ks) (k:=k) h.q2) h2 h3
theorem EK {ks:List Int} {j k:Int} (h:Vf n p):act k ks (Sh j p)=act (j + k) ks p:=by
 cases ks with
 | nil=>exact sI h j k
 | cons i ks=>show act i ks (Qt (Sh k (Sh j p)))=act i ks (Qt (Sh (j + k) p));rw [sI h]
theorem LA {ks:List Int} {k:Int} (h:Vf n p):act k ks (Qt p)=act 0 (k :: ks) p:=by show _=act k ks (Qt (Sh 0 p));rw [nS h]
theorem Qa {a b:Int} {ks:List Int} {j:Int} (hj:j=0\/j=1\/j=-1):∃ (k':Int) (ks':List Int) (f:Bool),ks'.length < ks.length + 2/\iD a (j :: b :: ks)=ko f (iD k' ks')/\∀ {n:Nat} {p:aR},Vf n p->bT n (act a (j :: b :: ks) p) (ou f (act k' ks' p)):=by
 rcases hj with rfl | rfl | rfl
 ·refine ⟨a + b,ks,true,by omega,?_,fun {n p} h=>?_⟩
  ·cases ks with
   | nil=>simp [iD,ko,T4.mul,tS,iN];omega
   | cons i ks =>
    show (((iD i ks).mul (iN b)).mul (iN 0)).mul (iN a)=ko true ((iD i ks).mul (iN (a + b)))
    rw [T4.assoc,T4.assoc]
    have:(iN b).mul ((iN 0).mul (iN a))=ko true (iN (a + b)):=by simp [ko,T4.mul,iN];omega
    rw [this]
    unfold ko T4.mul;simp only [if_true];congr 1 <;> grind
  ·show bT n (act b ks (Qt (Sh 0 (Qt (Sh a p))))) (Q2 (act (a + b) ks p))
   rw [nS (h.sh a).qt,BQ,<- EK h]
   exact BW (h.sh a)
 ·refine ⟨a - 1,(b - 1) :: ks,false,by simp,?_,fun {n p} h=>?_⟩
  ·cases ks with
   | nil=>simp [iD,ko,T4.mul,tS,iN];refine ⟨?_,?_⟩ <;> grind
   | cons i ks =>
    show (((iD i ks).mul (iN b)).mul (iN 1)).mul (iN a)=((iD i ks).mul (iN (b - 1))).mul (iN (a - 1))
    rw [T4.assoc,T4.assoc,T4.assoc]
    have:(iN b).mul ((iN 1).mul (iN a))=(iN (b - 1)).mul (iN (a - 1)):=by simp [T4.mul,iN];refine ⟨?_,?_,?_⟩ <;> grind
    rw [this]
  ·show bT n (act b ks (Qt (Sh 1 (Qt (Sh a p))))) (act (b - 1) ks (Qt (Sh (a - 1) p)))
   have h1:=bT.act (ks:=ks) (k:=b) ((h.sh a).qt.sh 1).qt (BS (h.sh a))
   rw [EK ((h.sh a).sh (-1)).qt,sI h,show -1 + b=b - 1 by omega,show a + -1=a - 1 by omega] at h1
   exact h1
 ·refine ⟨a + 1,(b + 1) :: ks,true,by simp,?_,fun {n p} h=>?_⟩
  ·cases ks with
   | nil=>simp [iD,ko,T4.mul,tS,iN];refine ⟨?_,?_⟩ <;> grind
   | cons i ks =>
    show (((iD i ks).mul (iN b)).mul (iN (-1))).mul (iN a)=ko true (((iD i ks).mul (iN (b + 1))).mul (iN (a + 1)))
    rw [T4.assoc,T4.assoc,T4.assoc]
    have:(iN b).mul ((iN (-1)).mul (iN a))=ko true ((iN (b + 1)).mul (iN (a + 1))):=by simp [ko,T4.mul,iN];refine ⟨?_,?_,?_⟩ <;> grind
    rw [this]
    unfold ko T4.mul;simp only [if_true];congr 1 <;> grind
  ·show bT n (act b ks (Qt (Sh (-1) (Qt (Sh a p))))) (Q2 (act (b + 1) ks (Qt (Sh (a + 1) p))))
   have h1:=bT.act (ks:=ks) (k:=b) ((h.sh a).qt.sh (-1)).qt (xc (h.sh a))
   have h2:=BW (ks:=ks) (k:=b) (((h.sh a).sh 1).qt.sh 1)
   rw [EK ((h.sh a).sh 1).qt,sI h,show 1 + b=b + 1 by omega] at h2
   have h3:=bT.trans (Vf.act (ks:=ks) (k:=b) ((h.sh a).qt.sh (-1)).qt) h1 (by rw [sI h] at *;exact h2)
   exact h3
def big:List Int->Prop
 | []=>True
 | [_]=>True
 | j :: b :: ks=>(2<=j\/j<=-2)/\big (b :: ks)
theorem LB:∀ (ks:List Int) (k:Int),big ks\/∃ (k':Int) (ks':List Int) (f:Bool),ks'.length < ks.length/\iD k ks=ko f (iD k' ks')/\∀ {n:Nat} {p:aR},Vf n p->bT n (act k ks p) (ou f (act k' ks' p))
 | [],_=>.inl trivial
 | [_],_=>.inl trivial
 | j :: b :: ks,k=>by
  by_cases hj:j=0\/j=1\/j=-1
  ·obtain ⟨k',ks',f,hl,hm,ha⟩:=Qa (a:=k) (b:=b) (ks:=ks) hj
   exact .inr ⟨k',ks',f,by simpa using hl,hm,ha⟩
  ·rcases LB (b :: ks) j with h | ⟨k',ks',f,hl,hm,ha⟩
   ·exact .inl ⟨by omega,h⟩
   ·refine .inr ⟨k,k' :: ks',f,by simpa using hl,?_,fun {n p} h=>?_⟩
    ·show (iD j (b :: ks)).mul (iN k)=ko f ((iD k' ks').mul (iN k))
     rw [hm,BV]
    ·exact ha (h.sh k).qt
theorem LC:∀ (ks:List Int) (k:Int),big ks->(ks=[]\/2<=k\/k<=-2)->(iD k ks).c.natAbs < (iD k ks).d.natAbs
 | [],k,_,_=>by show (0:Int).natAbs < (1:Int).natAbs;decide
 | j :: ks,k,h,hk=>by
  have hk:2<=k\/k<=-2:=by rcases hk with hk | hk;cases hk;exact hk
  have hj:ks=[]\/2<=j\/j<=-2:=by
   cases ks with
   | nil=>exact .inl rfl
   | cons b ks=>exact .inr h.1
  have hb:big ks:=by
   cases ks with
   | nil=>trivial
   | cons b ks=>exact h.2
  have ih:=LC ks j hb hj
  show ((iD j ks).c * 0 + (iD j ks).d * 1).natAbs < ((iD j ks).c * -1 + (iD j ks).d * k).natAbs
  generalize (iD j ks).c=c at ih
  generalize (iD j ks).d=d at ih
  rw [Int.mul_zero,WA,Int.mul_one]
  have e:(d * k).natAbs=d.natAbs * k.natAbs:=Int.natAbs_mul d k
  have e2:d.natAbs * 2<=d.natAbs * k.natAbs:=Nat.mul_le_mul_left _ (by omega)
  omega
theorem BX {ks:List Int} {k:Int} (h:big ks) (hn:ks≠[]):(iD k ks).c≠0:=by
 cases ks with
 | nil=>exact absurd rfl hn
 | cons j ks =>
  have hj:ks=[]\/2<=j\/j<=-2:=by
   cases ks with
   | nil=>exact .inl rfl
   | cons b ks=>exact .inr h.1
  have hb:big ks:=by
   cases ks with
   | nil=>trivial
   | cons b ks=>exact h.2
  have ih:=LC ks j hb hj
  show (iD j ks).c * 0 + (iD j ks).d * 1≠0
  omega
theorem HY:∀ (m:Nat) (ks:List Int) (k:Int),ks.length<=m->∀ (e:Bool),iD k ks=ko e T4.one->∀ {n:Nat} {p:aR},Vf n p->bT n (act k ks p) (ou e p):=by
 intro m
 induction m with
 | zero =>
  intro ks k hl e hm n p h
  have:ks=[]:=Xg (by omega)
  subst this
  have hm:(⟨1,k,0,1⟩:T4)=ko e T4.one:=hm
  cases e with
  | false =>
   have hk:k=0:=congrArg T4.b hm
   subst hk
   show bT n (Sh 0 p) p
   rw [nS h];exact bT.refl h
  | true=>exact absurd (congrArg T4.a hm) (show ¬ (1:Int)=-1 by decide)
 | succ m ih =>
  intro ks k hl e hm n p h
  by_cases hn:ks=[]
  ·subst hn
   exact ih [] k (VW _) e hm h
  ·rcases LB ks k with hb | ⟨k',ks',f,hl',hm',ha⟩
   ·have:=BX (k:=k) hb hn
    rw [hm] at this
    exact absurd (by cases e <;> rfl) this
   ·have hm2:iD k' ks'=ko (f.xor e) T4.one:=by
     have:ko f (iD k ks)=iD k' ks':=by rw [hm',BU,Xl];rfl
     rw [<- this,hm,BU]
    have h1:=ih ks' k' (by omega) (f.xor e) hm2 h
    have h2:=bT.trans h.act (ha h) (bT.ou h.act h1 f)
    rw [EJ h,<- Bool.xor_assoc,Xl,Bool.false_xor] at h2
    exact h2
end
def mM:Nat->aR->aR
 | 0,p=>p
 | j + 1,p=>Qt (mM j p)
def stM (p:aR) (s:Sp):aR:=if s.1=true then Sh s.2 p else mM s.2.toNat p
def kF (p:aR) (w:List Sp):aR:=w.foldl stM p
section
variable {n:Nat} {p q:aR}
theorem Vf.mM (h:Vf n p):∀ j,Vf n (af.mM j p)
 | 0=>h
 | j + 1=>(Vf.mM h j).qt
theorem Vf.st (h:Vf n p) (s:Sp):Vf n (stM p s):=by
 unfold stM
 split
 ·exact h.sh _
 ·exact h.mM _
theorem Vf.ld:∀ {w:List Sp} {p:aR},Vf n p->Vf n (kF p w)
 | [],_,h=>h
 | s :: w,p,h=>Vf.ld (w:=w) (h.st s)
theorem bT.mM (h:Vf n p) (a:bT n p q):∀ j,bT n (af.mM j p) (af.mM j q)
 | 0=>a
 | j + 1=>bT.qt (h.mM j) (bT.mM h a j)
theorem bT.st (h:Vf n p) (a:bT n p q) (s:Sp):bT n (stM p s) (stM q s):=by
 unfold stM
 split
 ·exact bT.sh h a _
 ·exact bT.mM h a _
theorem bT.ld:∀ {w:List Sp} {p q:aR},Vf n p->bT n p q->bT n (kF p w) (kF q w)
 | [],_,_,_,a=>a
 | s :: w,p,q,h,a=>bT.ld (w:=w) (h.st s) (bT.st h a s)
theorem HZ (p:aR) (u v:List Sp):kF p (u ++ v)=kF (kF p u) v:=by unfold kF;rw [Wa]
end
theorem Qb (s:Sp) (w:List Sp):cC (s :: w)=(cC w).mul (nB s):=by
 have:=w8 [s] w
 rw [show cC [s]=(nB s).mul T4.one from rfl,T4.mul_one] at this
 exact this
theorem LD (e:Bool) (M N:T4):M.mul (ko e N)=ko e (M.mul N):=by
 cases e
 ·rfl
 ·unfold ko T4.mul;simp only [if_true];congr 1 <;> grind
theorem xf (ks:List Int) (j k:Int):(iD k ks).mul (tS j)=iD (j + k) ks:=by
 cases ks with
 | nil=>simp [iD,T4.mul,tS]
 | cons i ks =>
  show ((iD i ks).mul (iN k)).mul (tS j)=(iD i ks).mul (iN (j + k))
  rw [T4.assoc]
  congr 1
  simp [T4.mul,iN,tS]
theorem xg (ks:List Int) (k:Int):(iD k ks).mul T4.qt=iD 0 (k :: ks):=rfl
theorem LF:∀ {w:List Sp},(∀ s∈w,gE s)->∃ (k:Int) (ks:List Int) (f:Bool),cC w=ko f (iD k ks)/\∀ {n:Nat} {p:aR},Vf n p->bT n (kF p w) (ou f (act k ks p))
 | [],_=>⟨0,[],false,rfl,fun {n p} h=>by show bT n p (Sh 0 p);rw [nS h];exact bT.refl h⟩
 | s :: w,hw=>by
  obtain ⟨k,ks,f,hm,ha⟩:=LF (w:=w) fun x hx=>hw x (Vp _ hx)
  have hs:=hw s Vl
  obtain ⟨b,j⟩:=s
  rw [Qb,hm]
  cases b with
  | true =>
   refine ⟨j + k,ks,f,?_,fun {n p} h=>?_⟩
   ·rw [BV];congr 1;exact xf ks j k
   ·have:=ha (h.sh j)
    rw [EK h] at this
    exact this
  | false =>
   have c:j=1\/j=2\/j=3:=t3 (hs.1 rfl)
   rcases c with rfl | rfl | rfl
   ·refine ⟨0,k :: ks,f,?_,fun {n p} h=>?_⟩
    ·rw [BV];congr 1
    ·have:=ha h.qt
     rw [LA h] at this
     exact this
   ·refine ⟨k,ks,!f,?_,fun {n p} h=>?_⟩
    ·rw [BV,show nB (false,2)=ko true T4.one from rfl,LD,T4.mul_one,BU];cases f <;> rfl
    ·have h1:=ha h.q2
     have h2:=bT.trans (Vf.ld (w:=w) h.q2) h1 (bT.ou (Vf.act h.q2) (BW h) f)
     have e:ou f (Q2 (act k ks p))=ou (!f) (act k ks p):=by
      have:=EJ (p:=act k ks p) h.act f true
      rw [Bool.xor_true] at this
      exact this
     rw [e] at h2
     exact h2
   ·refine ⟨0,k :: ks,!f,?_,fun {n p} h=>?_⟩
    ·have e3:nB (false,3)=ko true T4.qt:=rfl
     rw [BV,e3,LD,BU,xg];cases f <;> rfl
    ·have h1:=ha (p:=Q2 (Qt p)) h.qt.q2
     have h2:=bT.trans (Vf.ld (w:=w) h.qt.q2) h1 (bT.ou (Vf.act h.qt.q2) (BW h.qt) f)
     have e:ou f (Q2 (act k ks (Qt p)))=ou (!f) (act 0 (k :: ks) p):=by
      have:=EJ (p:=act k ks (Qt p)) h.qt.act f true
      rw [Bool.xor_true] at this
      rw [<- LA h]
      exact this
     rw [e] at h2
     exact h2
theorem LG {w:List Sp} (hw:∀ s∈w,gE s) (h1:cC w=T4.one) {n:Nat} {p:aR} (h:Vf n p):bT n (kF p w) p:=by
 obtain ⟨k,ks,f,hm,ha⟩:=LF hw
 have e:iD k ks=ko f T4.one:=by
  have:ko f (cC w)=iD k ks:=by rw [hm,BU,Xl];rfl
  rw [<- this,h1]
 have h2:=HY ks.length ks k (Vh _) f e h
 have h3:=bT.trans (Vf.ld h) (ha h) (bT.ou h.act h2 f)
 rw [EJ h,Xl] at h3
 exact h3
theorem LH {w:List Sp} (hw:∀ s∈w,gE s):∀ s∈o6 w,gE s:=fun s hs=>by
 unfold o6 at hs
 obtain ⟨t,ht,rfl⟩:=Vn.mp (Wg.mp hs)
 exact BL (hw t ht)
theorem LI {w:List Sp} (hw:∀ s∈w,gE s):cC (w ++ o6 w)=T4.one:=by
 have hp:∀ s∈w ++ o6 w,gE s:=fun s hs=>by
  rcases VG.mp hs with hs | hs
  ·exact hw s hs
  ·exact LH hw s hs
 rw [<- Ls hp,PD hw];rfl
theorem Qc {w:List Sp} (hw:∀ s∈w,gE s):(cC w).a * (cC w).d - (cC w).b * (cC w).c=1:=by
 have:=LI hw
 rw [w8,Lu hw] at this
 have h:=congrArg T4.a this
 have h:(cC w).d * (cC w).a + -(cC w).b * (cC w).c=1:=h
 rw [Int.mul_comm (cC w).d,Int.neg_mul] at h
 omega
theorem Qd {M:T4} (h:M.a * M.d - M.b * M.c=1):M.mul M.sH=T4.one/\M.sH.mul M=T4.one:=by
 constructor <;> (apply T4.ext' <;> simp [T4.mul,T4.sH,T4.one] <;> grind)
theorem Qe {u w:List Sp} (hu:∀ s∈u,gE s) (hw:∀ s∈w,gE s) (e:cC u=cC w) {n:Nat} {p:aR} (h:Vf n p):bT n (kF p u) (kF p w):=by
 have hb:=LH hw
 have h1:bT n (kF p (u ++ o6 w)) p:=LG (fun s hs=>by
  rcases VG.mp hs with hs | hs
  ·exact hu s hs
  ·exact hb s hs) (by rw [w8,e,<- w8];exact LI hw) h
 rw [HZ] at h1
 have h2:=bT.ld (w:=w) (Vf.ld (Vf.ld h)) h1
 rw [<- HZ] at h2
 have h3:bT n (kF (kF p u) (o6 w ++ w)) (kF p u):=LG (fun s hs=>by
  rcases VG.mp hs with hs | hs
  ·exact hb s hs
  ·exact hw s hs) (by rw [w8,Lu hw];exact (Qd (Qc hw)).1) (Vf.ld h)
 exact bT.trans (Vf.ld h) (bT.symm (Vf.ld (Vf.ld h)) h3) h2
def pB (p:aR) (n:Nat) (s:Int):aR:=(num p.1 (bf p.1 p.2 s n),num p.2 (bf p.1 p.2 s n))
def bE (n:Nat) (p:aR):aR:=mC ((upto n).map (pB p n))
theorem sJ {n:Nat} {p q:aR} (n0:0 < n) (h:Vf n p) (a:bT n p q):bE n p=bE n q:=by
 obtain ⟨g,hg,rfl⟩:=a
 have key:∀ s:Int,0<=s->s < (n:Int)->pB (anew p.1 g,anew p.2 g) n (app g s)=pB p n s:=fun s s0 s1=>by
  show (num (anew p.1 g) (bf (anew p.1 g) (anew p.2 g) (app g s) n),num (anew p.2 g) (bf (anew p.1 g) (anew p.2 g) (app g s) n))=_
  have hb:=qv h.1 h.2 s0 s1 n
  rw [HJ h.1 h.2 hg s0 s1 n,Lq h.1 hg hb,Lq h.2 hg hb]
  rfl
 refine PY (fun x=>?_) (fun e=>?_)
 ·constructor
  ·intro hx
   obtain ⟨s,hs,rfl⟩:=Vn.mp hx
   obtain ⟨s0,s1⟩:=lQ.mp hs
   exact Vn.mpr ⟨app g s,lQ.mpr (hg.app s0 s1),key s s0 s1⟩
  ·intro hx
   obtain ⟨t,ht,rfl⟩:=Vn.mp hx
   obtain ⟨t0,t1⟩:=lQ.mp ht
   obtain ⟨p0,p1⟩:=hg.lX t0 t1
   refine Vn.mpr ⟨app (inv g) t,lQ.mpr ⟨p0,p1⟩,?_⟩
   have:=key (app (inv g) t) p0 p1
   rw [hg.cV t0 t1] at this
   exact this.symm
 ·have:=congrArg List.length e
  rw [Vd,oM] at this
  simp at this
  omega
end af
namespace af
section
variable {n:Nat} {p q:aR} {g h:List Int} {s t:Int}
structure Wh (n:Nat) (p:aR):Prop where
 v:Vf n p
 all:∀ x:Int,0<=x->x < (n:Int)->jD p.1 p.2 x
theorem Wh.bf (w:Wh n p) (s0:0<=s) (s1:s < (n:Int)):Tn n (bf p.1 p.2 s n):=EE w.v.1 w.v.2 s0 s1 w.all
theorem LJ (xs ys:List Int) (s:Int) (n:Nat):app (bf xs ys s n) 0=s:=by
 have:=wY xs ys s 0 n
 rw [WQ] at this
 obtain ⟨t,e⟩:=this
 rw [<- e]
 rfl
def gF (p q:aR) (n:Nat) (s t:Int):List Int:=bh (inv (bf p.1 p.2 s n)) (bf q.1 q.2 t n)
def Cg (n:Nat) (p q:aR) (g:List Int):Prop:=Tn n g/\q=(anew p.1 g,anew p.2 g)
theorem BZ (wp:Wh n p) (wq:Wh n q) (s0:0<=s) (s1:s < (n:Int)) (t0:0<=t) (t1:t < (n:Int)) (e:pB p n s=pB q n t):Cg n p q (gF p q n s t)/\app (gF p q n s t) s=t:=by
 have tb:=wp.bf s0 s1
 have tc:=wq.bf t0 t1
 have n0:0 < n:=by omega
 refine ⟨⟨tb.aB.bh tc,?_⟩,?_⟩
 ·unfold pB at e
  have e1:=congrArg Prod.fst e
  have e2:=congrArg Prod.snd e
  simp only at e1 e2
  rw [<- uW wp.v.1 tb,<- uW wq.v.1 tc] at e1
  rw [<- uW wp.v.2 tb,<- uW wq.v.2 tc] at e2
  have go:∀ {a b:List Int},Tn n a->Tn n b->anew a (inv (bf p.1 p.2 s n))=anew b (inv (bf q.1 q.2 t n))->b=anew a (gF p q n s t):=fun {a b} ta tb' e=>by
   unfold gF
   rw [<- Tn.lG ta tb.aB tc,e]
   have:=Tn.lH tb' tc.aB
   rw [tc.inv_inv] at this
   exact this.symm
  exact Prod.ext (go wp.v.1 wq.v.1 e1) (go wp.v.2 wq.v.2 e2)
 ·unfold gF
  rw [ot s0 (by rw [BD,tb.length];exact s1)]
  have:app (inv (bf p.1 p.2 s n)) s=0:=by
   have:=tb.gb (i:=0) (by decide) (by omega)
   rw [LJ] at this
   exact this
  rw [this,LJ]
theorem EL (xs ys:List Int):∀ k,∀ y∈bf xs ys 0 k,jD xs ys y
 | 0,y,hy=>by rw [Vz.mp (show y∈[(0:Int)] from hy)];exact .zero
 | k + 1,y,hy=>by
  have hy':y∈(match (bf xs ys 0 k)[k]? with | some x=>visit xs ys (bf xs ys 0 k) x | none=>bf xs ys 0 k):=hy
  split at hy'
  ·next z hz =>
   have u3:=EL xs ys k z (Vk hz)
   rcases p6.mp hy' with hy' | rfl
   ·rcases p6.mp hy' with hy' | rfl
    ·exact EL xs ys k y hy'
    ·exact u3.r
   ·exact u3.u
  ·exact EL xs ys k y hy'
theorem u5 (w:Wh n p) (v:Vf n q) (n0:0 < n) (h:∀ F:List Int,F.Nodup->(∀ x∈F,0<=x/\x < (n:Int))->Cl q.1 q.2 F->Cl p.1 p.2 F):Wh n q:=by
 refine ⟨v,fun x x0 x1=>EL q.1 q.2 n x ?_⟩
 have c:=h (bf q.1 q.2 0 n) (wZ _ _ _ _) (qv v.1 v.2 (by decide) (by omega) n) (HI v.1 v.2 (by decide) (by omega))
 refine c.all ?_ (w.all x x0 x1)
 have:=wY q.1 q.2 0 0 n
 rw [WQ] at this
 exact this.subset (show (0:Int)∈[(0:Int)] by simp)
theorem LK {zs F:List Int} (hz:Tn n zs) (nd:F.Nodup) (hb:∀ x∈F,0<=x/\x < (n:Int)) (hc:∀ x∈F,app zs x∈F):∀ x∈F,app (inv zs) x∈F:=fun x hx=>by
 obtain ⟨x0,x1⟩:=hb x hx
 obtain ⟨a0,a1⟩:=hz.lX x0 x1
 exact BJ hz nd hb hc a0 a1 (by rw [hz.cV x0 x1];exact hx)
theorem Ie {zs F:List Int} (hc:∀ x∈F,app zs x∈F) {x:Int} (hx:x∈F):∀ k,bL zs x k∈F
 | 0=>hx
 | k + 1=>hc _ (Ie hc hx k)
theorem B0 {zs F:List Int} (hz:Tn n zs) (nd:F.Nodup) (hb:∀ x∈F,0<=x/\x < (n:Int)) (hc:∀ x∈F,app zs x∈F) (k:Int) {x:Int} (hx:x∈F):pw zs k x∈F:=by
 unfold pw
 split
 ·exact Ie hc hx _
 ·exact Ie (LK hz nd hb hc) hx _
theorem Wh.sh (w:Wh n p) (n0:0 < n) (k:Int):Wh n (Sh k p):=by
 refine u5 w (w.v.sh k) n0 fun F nd hb hc x hx=>⟨(hc x hx).1,?_⟩
 obtain ⟨x0,x1⟩:=hb x hx
 have h1:∀ x∈F,app p.1 x∈F:=fun x hx=>(hc x hx).1
 have hy:=B0 w.v.1 nd hb h1 k hx
 have:=(hc _ hy).2
 obtain ⟨y0,y1⟩:=hb _ hy
 have e:app (Sh k p).2 (pw p.1 k x)=app p.2 x:=by
  show app (shr p.1 p.2 k) (pw p.1 k x)=_
  unfold shr
  have hlen:(cK p.1 (-k)).length=n:=(w.v.1.cK (-k)).length
  rw [ot y0 (by rw [hlen];exact y1)]
  congr 1
  have e3:=BO w.v.1 k (-k)
  rw [Xn,HU w.v.1] at e3
  have e4:app (bh (cK p.1 k) (cK p.1 (-k))) x=app (upto n) x:=by rw [e3]
  rw [EG x0 x1,ot x0 (by rw [(w.v.1.cK k).length];exact x1)] at e4
  have e5:app (cK p.1 k) x=pw p.1 k x:=pA x0 (by rw [w.v.1.length];exact x1)
  rw [e5] at e4
  exact e4
 rw [e] at this
 exact this
theorem Wh.qt (w:Wh n p) (n0:0 < n):Wh n (Qt p):=by
 refine u5 w w.v.qt n0 fun F nd hb hc x hx=>⟨(hc x hx).2,?_⟩
 have:=LK w.v.2.aB nd hb (fun x hx=>(hc x hx).1) x hx
 rw [w.v.2.inv_inv] at this
 exact this
def Od (xs ys F:List Int):Prop:=F[0]?=some 0/\∀ (k:Nat) (y:Int),F[k + 1]?=some y->∃ (j:Nat) (x:Int),j<=k/\F[j]?=some x/\(y=app xs x\/y=app ys x)
theorem Od.one (xs ys:List Int):Od xs ys [0]:=⟨rfl,fun k y h=>by cases h⟩
theorem Od.snoc {xs ys F:List Int} {x y:Int} (h:Od xs ys F) (hx:x∈F) (hy:y=app xs x\/y=app ys x):Od xs ys (F ++ [y]):=by
 have hl:0 < F.length:=List.length_pos_of_mem hx
 refine ⟨by rw [Vt hl];exact h.1,fun k z hz=>?_⟩
 by_cases hk:k + 1 < F.length
 ·rw [Vt hk] at hz
  obtain ⟨j,x',hj,hx',e⟩:=h.2 k z hz
  exact ⟨j,x',hj,by rw [Vt (by omega)];exact hx',e⟩
 ·rw [VA (by omega)] at hz
  have hz:z=y:=by
   cases h3:k + 1 - F.length with
   | zero=>rw [h3] at hz;cases hz;rfl
   | succ m=>rw [h3] at hz;cases hz
  obtain ⟨j,hj,e⟩:=Wo hx
  have mU:k + 1=F.length\/F.length < k + 1:=by omega
  refine ⟨j,x,by omega,by rw [Vt hj,Vg hj,e],by rw [hz];exact hy⟩
structure Fo (xs ys F:List Int):Prop extends Fd xs ys F where
 od:Od xs ys F
theorem Fo.one (xs ys:List Int):Fo xs ys [0]:=⟨Fd.one xs ys,Od.one xs ys⟩
end
end af
namespace af
section
variable {n:Nat} {xs ys r r' r2:List Int} {i j x y:Int}
def Sm (xs ys r:List Int):Prop:=∀ s∈r,app ys (app xs s)=app xs (app ys s)
instance:Decidable (Sm xs ys r):=inferInstanceAs (Decidable (∀ s∈r,app ys (app xs s)=app xs (app ys s)))
end
end af
namespace af
section
variable {n:Nat} {xs ys:List Int} {rs:List (List Int)} {lows:List (List Int)} {B:List Int->List (List Int)}
end
section
variable {n:Nat} {c g:List Int} {rs rs':List (List Int)}
end
section
variable {n:Nat} {p q:aR} {g:List Int}
theorem Wh.mM (w:Wh n p) (n0:0 < n):∀ j,Wh n (af.mM j p)
 | 0=>w
 | j + 1=>(w.mM n0 j).qt n0
theorem Wh.st (w:Wh n p) (n0:0 < n) (s:Sp):Wh n (stM p s):=by
 unfold stM
 split
 ·exact w.sh n0 _
 ·exact w.mM n0 _
theorem Wh.ld (n0:0 < n):∀ {w:List Sp} {p:aR},Wh n p->Wh n (kF p w)
 | [],_,h=>h
 | s :: w,_,h=>Wh.ld n0 (w:=w) (h.st n0 s)
end
end af
namespace af
end af
namespace af
section
variable {n:Nat} {p q:aR}
theorem Qf (vp:Vf n p) (vq:Vf n q) (k:Int) (a:bT n (Sh k p) (Sh k q)):bT n p q:=by
 have h:=bT.sh (vp.sh k) a (-k)
 rw [sI vp,sI vq,Xn,nS vp,nS vq] at h
 exact h
theorem Ig (p:aR) (n0:0 < n):∃ s:Int,0<=s/\s < (n:Int)/\bE n p=pB p n s:=by
 have h:=(HQ (l:=(upto n).map (pB p n)) (fun e=>by
  have:=congrArg List.length e
  rw [Vd,oM] at this
  simp at this
  omega)).1
 obtain ⟨s,hs,e⟩:=Vn.mp h
 obtain ⟨s0,s1⟩:=lQ.mp hs
 exact ⟨s,s0,s1,e.symm⟩
theorem xh (wp:Wh n p) (wq:Wh n q) (n0:0 < n) (e:bE n p=bE n q):bT n p q:=by
 obtain ⟨s,s0,s1,es⟩:=Ig p n0
 obtain ⟨t,t0,t1,et⟩:=Ig q n0
 rw [es,et] at e
 obtain ⟨tg,eq⟩:=(BZ wp wq s0 s1 t0 t1 e).1
 exact ⟨_,tg,eq⟩
theorem xi (n0:0 < n) (k:Int) (wp:Wh n p) (wq:Wh n q) (op:bE n p=p) (oq:bE n q=q) (e:bE n (Sh k p)=bE n (Sh k q)):p=q:=by
 have a:=Qf wp.v wq.v k (xh (wp.sh n0 k) (wq.sh n0 k) n0 e)
 rw [<- op,<- oq]
 exact sJ n0 wp.v a
end
end af
namespace L4
open PySem PySem.Spec L2
inductive D where
 | non | bl (b:Bool) | int (i:Int) | str (x:Str) | ty (n:String) | tup (ds:List D) | ref (i:Nat)
instance:Inhabited D:=⟨.non⟩
inductive O where
 | lst (ds:List D) | oO (ds:List D) | dct (kvs:List (Key×D)) | EM (kvs:List (List Int×D)) | exc (c:Str) (fs:List (Str×D)) | any | jC (lo hi:Int)
abbrev Store:=List O
abbrev au:=List (Option D)
abbrev Dm (α:Type):=Store->Option (α×Store)
inductive Fl where
 | nx (δ:au) | bk (δ:au) | ct (δ:au) | rt (d:D)
mutual
inductive Rp (K:Zfr) (ρ:List Addr) (H:Hp):V->D->Prop
 | non:Rp K ρ H .non .non
 | bl (b:Bool):Rp K ρ H (.bl b) (.bl b)
 | int (i:Int):Rp K ρ H (.int i) (.int i)
 | str (x:Str):Rp K ρ H (.str x) (.str x)
 | ty (n:String):Rp K ρ H (.ty n) (.ty n)
 | ref {a:Addr} {i:Nat}:ρ[i]?=some a->Rp K ρ H (.ref a) (.ref i)
 | tup {a:Addr} {vs:List V} {ds:List D}:ft K H a vs->cJ K ρ H vs ds->Rp K ρ H (.ref a) (.tup ds)
inductive cJ (K:Zfr) (ρ:List Addr) (H:Hp):List V->List D->Prop
 | nil:cJ K ρ H [] []
 | cons {v:V} {vs:List V} {d:D} {ds:List D}:Rp K ρ H v d->cJ K ρ H vs ds->cJ K ρ H (v :: vs) (d :: ds)
end
structure Mn (K:Zfr) (ρ:List Addr) (H:Hp) (ρ':List Addr) (H':Hp):Prop where
 r:∀ (i:Nat) (a:Addr),ρ[i]?=some a->ρ'[i]?=some a
 t:∀ a vs,ft K H a vs->ft K H' a vs
 f:∀ a o u,H a=some (.ml o u)->H' a=some (.ml o u)
 x:∀ a ws,H a=some (.xd ws)->H' a=some (.xd ws)
section
variable {K:Zfr} {ρ ρ' ρ2:List Addr} {H H' H2:Hp}
theorem Mn.refl:Mn K ρ H ρ H:=⟨fun _ _ h=>h,fun _ _ h=>h,fun _ _ _ h=>h,fun _ _ h=>h⟩
theorem Mn.trans (m:Mn K ρ H ρ' H') (n:Mn K ρ' H' ρ2 H2):Mn K ρ H ρ2 H2:=⟨fun i a h=>n.r i a (m.r i a h),fun a vs h=>n.t a vs (m.t a vs h),fun a o u h=>n.f a o u (m.f a o u h),fun a ws h=>n.x a ws (m.x a ws h)⟩
mutual
theorem Rp.mn (m:Mn K ρ H ρ' H'):∀ {v:V} {d:D},Rp K ρ H v d->Rp K ρ' H' v d
 | _,_,.non=>.non
 | _,_,.bl b=>.bl b
 | _,_,.int i=>.int i
 | _,_,.str x=>.str x
 | _,_,.ty n=>.ty n
 | _,_,.ref e=>.ref (m.r _ _ e)
 | _,_,.tup q r=>.tup (m.t _ _ q) (cJ.mn m r)
theorem cJ.mn (m:Mn K ρ H ρ' H'):∀ {vs:List V} {ds:List D},cJ K ρ H vs ds->cJ K ρ' H' vs ds
 | _,_,.nil=>.nil
 | _,_,.cons a b=>.cons (Rp.mn m a) (cJ.mn m b)
end
theorem cJ.length:∀ {vs:List V} {ds:List D},cJ K ρ H vs ds->vs.length=ds.length
 | _,_,.nil=>rfl
 | _,_,.cons _ r=>by rw [VJ,VJ,r.length]
theorem cJ.got:∀ {vs:List V} {ds:List D},cJ K ρ H vs ds->∀ {i:Nat} {d:D},ds[i]?=some d->∃ v,vs[i]?=some v/\Rp K ρ H v d
 | _,_,.nil,i,v,e=>by simp at e
 | _,_,.cons (v:=v) a b,0,d,e=>⟨v,by simp,by have:_=d:=Vs (by simpa using e);rw [<- this];exact a⟩
 | _,_,.cons a b,i + 1,d,e=>by
  obtain ⟨v,e1,r⟩:=cJ.got b (i:=i) (by simpa using e)
  exact ⟨v,by simpa using e1,r⟩
theorem cJ.append:∀ {vs:List V} {ds:List D} {ws:List V} {es:List D},cJ K ρ H vs ds->cJ K ρ H ws es->cJ K ρ H (vs ++ ws) (ds ++ es)
 | _,_,_,_,.nil,s=>s
 | _,_,_,_,.cons a b,s=>.cons a (cJ.append b s)
theorem cJ.one {v:V} {d:D} (r:Rp K ρ H v d):cJ K ρ H [v] [d]:=.cons r .nil
theorem cJ.take:∀ {vs:List V} {ds:List D} (n:Nat),cJ K ρ H vs ds->cJ K ρ H (vs.take n) (ds.take n)
 | _,_,0,_=>.nil
 | _,_,_ + 1,.nil=>.nil
 | _,_,n + 1,.cons r t=>.cons r (cJ.take n t)
theorem cJ.drop:∀ {vs:List V} {ds:List D} (n:Nat),cJ K ρ H vs ds->cJ K ρ H (vs.drop n) (ds.drop n)
 | _,_,0,r=>r
 | _,_,_ + 1,.nil=>.nil
 | _,_,n + 1,.cons _ t=>cJ.drop n t
theorem cJ.set {v:V} {d:D} (r:Rp K ρ H v d):∀ {vs:List V} {ds:List D} (i:Nat),cJ K ρ H vs ds->cJ K ρ H (vs.set i v) (ds.set i d)
 | _,_,_,.nil=>.nil
 | _,_,0,.cons _ t=>.cons r t
 | _,_,i + 1,.cons q t=>.cons q (cJ.set r i t)
theorem cJ.erase:∀ {vs:List V} {ds:List D} (i:Nat),cJ K ρ H vs ds->cJ K ρ H (vs.eraseIdx i) (ds.eraseIdx i)
 | _,_,_,.nil=>.nil
 | _,_,0,.cons _ t=>t
 | _,_,i + 1,.cons q t=>.cons q (cJ.erase i t)
theorem cJ.flat {vs:List V} {ds:List D} (r:cJ K ρ H vs ds):∀ n:Nat,cJ K ρ H (List.replicate n vs).flatten (List.replicate n ds).flatten
 | 0=>.nil
 | n + 1=>by rw [V2,V2,Wu,Wu];exact r.append (r.flat n)
theorem cJ.ints:∀ (ns:List Int),cJ K ρ H (ns.map V.int) (ns.map D.int)
 | []=>.nil
 | n :: r=>.cons (.int n) (cJ.ints r)
end
def Rs (K:Zfr) (ρ:List Addr) (H:Hp) (σ:St) (δ:au):Prop:=σ.length=δ.length/\∀ (i:Nat) (d:D),δ[i]?=some (some d)->∃ v,σ[i]?=some (some v)/\Rp K ρ H v d
def Rk (K:Zfr) (ρ:List Addr) (H:Hp):List (Key×V)->List (Key×D)->Prop:=Paired fun p q=>p.1=q.1/\Rp K ρ H p.2 q.2
def Ru (K:Zfr) (ρ:List Addr) (H:Hp):List (List Int×D)->List (List Int×Addr×Value)->Prop:=Paired fun q x=>q.1=x.1/\ft K H x.2.1 (x.1.map V.int)/\∃ v,RelV v x.2.2/\Rp K ρ H v q.2
def Xd (K:Zfr) (ρ:List Addr) (H:Hp):Option Addr->List (Str×D)->Prop
 | none,fs=>fs=[]
 | some d,fs=>∃ ws,H d=some (.xd ws)/\∀ f e,fs.lookup f=some e->∃ v,ws.lookup f=some v/\Rp K ρ H v e
def u6 (K:Zfr) (ρ:List Addr) (H:Hp) (a:Addr):O->Prop
 | .lst ds=>∃ vs,H a=some (.lst vs)/\cJ K ρ H vs ds
 | .oO ds=>∃ vs,Bl K H a vs/\cJ K ρ H vs ds
 | .dct kvs=>∃ ws,H a=some (.dK ws)/\Rk K ρ H ws kvs
 | .EM kvs=>∃ xs,H a=some (DU a xs)/\Ru K ρ H kvs xs
 | .exc c fs=>∃ C dx tr,PySem.W.nsIn K mainGlobals c=some (some (.ref C))/\H a=some (XO a C dx tr)/\Xd K ρ H dx fs
 | .any=>True
 | .jC lo hi=>H a=some (.jC lo hi)
def O.mut:O->Bool
 | .oO _=>false
 | .any=>false
 | _=>true
structure Rl (K:Zfr) (ρ:List Addr) (H:Hp) (st:Store):Prop where
 len:ρ.length=st.length
 nd:∀ (i j:Nat) (a:Addr) (o o':O),ρ[i]?=some a->ρ[j]?=some a->st[i]?=some o->st[j]?=some o'->o.mut=true->o'.mut=true->i=j
 obj:∀ (i:Nat) (a:Addr) (o:O),ρ[i]?=some a->st[i]?=some o->u6 K ρ H a o
section
variable {K:Zfr} {ρ ρ' ρ2:List Addr} {H H' H2:Hp} {st st':Store} {a p:Addr} {i:Nat} {o o':O} {ho:HO} {σ:St} {δ:au}
theorem Rs.mn (h:Rs K ρ H σ δ) (m:Mn K ρ H ρ' H'):Rs K ρ' H' σ δ:=⟨h.1,fun i d e=>let ⟨v,e1,r⟩:=h.2 i d e;⟨v,e1,r.mn m⟩⟩
theorem Rk.mn (m:Mn K ρ H ρ' H') {ws:List (Key×V)} {kvs:List (Key×D)} (h:Rk K ρ H ws kvs):Rk K ρ' H' ws kvs:=by
 induction h with
 | nil=>exact .nil
 | cons a _ ih=>exact .cons ⟨a.1,a.2.mn m⟩ ih
theorem Ru.mn (m:Mn K ρ H ρ' H') {kvs:List (List Int×D)} {xs:List (List Int×Addr×Value)} (h:Ru K ρ H kvs xs):Ru K ρ' H' kvs xs:=by
 induction h with
 | nil=>exact .nil
 | cons a _ ih=>obtain ⟨a1,a2,v,a3,a4⟩:=a;exact .cons ⟨a1,m.t _ _ a2,v,a3,a4.mn m⟩ ih
theorem Xd.mn (m:Mn K ρ H ρ' H') {dx:Option Addr} {fs:List (Str×D)} (h:Xd K ρ H dx fs):Xd K ρ' H' dx fs:=by
 cases dx with
 | none=>exact h
 | some d=>obtain ⟨ws,e,q⟩:=h;exact ⟨ws,m.x _ _ e,fun f e' z=>let ⟨v,z1,z2⟩:=q f e' z;⟨v,z1,z2.mn m⟩⟩
theorem u6.keep (m:Mn K ρ H ρ' H') (h:∀ u,H a=some u->H' a=some u) (r:u6 K ρ H a o):u6 K ρ' H' a o:=by
 cases o with
 | lst ds=>obtain ⟨vs,e,q⟩:=r;exact ⟨vs,h _ e,q.mn m⟩
 | oO ds =>
  obtain ⟨vs,e,q⟩:=r
  refine ⟨vs,?_,q.mn m⟩
  rcases e with ⟨u,e⟩ | e
  ·exact .inl ⟨u,h _ e⟩
  ·exact .inr e
 | dct kvs=>obtain ⟨ws,e,q⟩:=r;exact ⟨ws,h _ e,q.mn m⟩
 | EM kvs=>obtain ⟨ws,e,q⟩:=r;exact ⟨ws,h _ e,q.mn m⟩
 | exc c fs=>obtain ⟨C,dx,tr,n,e,q⟩:=r;exact ⟨C,dx,tr,n,h _ e,q.mn m⟩
 | any=>trivial
 | jC lo hi=>exact h _ r
theorem Mn.same (s:jA H H'):Mn K ρ H ρ H':=⟨fun _ _ h=>h,fun _ _ h=>(Kp.of_same (ch:=[]) s).Hf h,fun _ _ _ h=>s _ _ h,fun _ _ h=>s _ _ h⟩
theorem Rl.same (l:Rl K ρ H st) (s:jA H H'):Rl K ρ H' st:=⟨l.len,l.nd,fun i a o h1 h2=>(l.obj i a o h1 h2).keep (Mn.same s) fun u e=>s _ _ e⟩
theorem Rl.at (l:Rl K ρ H st) (h1:ρ[i]?=some a) (h2:st[i]?=some o) (hm:o.mut=true):∃ u,H a=some u/\∀ x y,u≠.ml x y:=by
 have r:=l.obj i a o h1 h2
 cases o with
 | lst ds=>obtain ⟨vs,e,_⟩:=r;exact ⟨_,e,fun x y z=>nomatch z⟩
 | oO ds=>cases hm
 | dct kvs=>obtain ⟨ws,e,_⟩:=r;exact ⟨_,e,fun x y z=>nomatch z⟩
 | EM kvs=>obtain ⟨ws,e,_⟩:=r;exact ⟨_,e,fun x y z=>by cases z⟩
 | exc c fs=>obtain ⟨C,dx,tr,_,e,_⟩:=r;exact ⟨_,e,fun x y z=>by cases z⟩
 | any=>cases hm
 | jC lo hi=>exact ⟨_,r,fun x y z=>nomatch z⟩
theorem Mn.new (hp:H p=none):Mn K ρ H (ρ ++ [p]) (upd H p ho):=⟨fun i a h=>by
  obtain ⟨hi,_⟩:=Ve.mp h
  rw [Vt hi];exact h,fun _ _ h=>(Kp.of_same (ch:=[]) (jA.up hp)).Hf h,fun _ _ _ h=>jA.up hp _ _ h,fun _ _ h=>jA.up hp _ _ h⟩
theorem Rl.new (l:Rl K ρ H st) (hp:H p=none) (mk:u6 K (ρ ++ [p]) (upd H p ho) p o):Rl K (ρ ++ [p]) (upd H p ho) (st ++ [o]):=by
 have m:Mn K ρ H (ρ ++ [p]) (upd H p ho):=Mn.new hp
 have split:∀ (i:Nat) (a:Addr) (o':O),(ρ ++ [p])[i]?=some a->(st ++ [o])[i]?=some o'->(ρ[i]?=some a/\st[i]?=some o')\/(i=ρ.length/\a=p/\o'=o):=fun i a o' h1 h2=>by
  by_cases hi:i < ρ.length
  ·rw [Vt hi] at h1
   rw [Vt (by rw [<- l.len];exact hi)] at h2
   exact .inl ⟨h1,h2⟩
  ·obtain ⟨hb,_⟩:=Ve.mp h1
   rw [Vj,Wt] at hb
   have e:i=ρ.length:=by omega
   subst e
   rw [VA (Vh _),Wn] at h1
   rw [l.len,VA (Vh _),Wn] at h2
   exact .inr ⟨rfl,(Vs h1).symm,(Vs h2).symm⟩
 refine ⟨by rw [Vj,Vj,l.len];rfl,fun i j a u u' h1 h2 h3 h4 m1 m2=>?_,fun i a u h1 h2=>?_⟩
 ·rcases split i a u h1 h3 with ⟨g1,g2⟩ | ⟨rfl,rfl,rfl⟩ <;> rcases split j _ u' h2 h4 with ⟨k1,k2⟩ | ⟨k1,k2,k3⟩
  ·exact l.nd i j a u u' g1 k1 g2 k2 m1 m2
  ·subst k2
   obtain ⟨w,e,_⟩:=l.at g1 g2 m1
   rw [e] at hp;cases hp
  ·obtain ⟨w,e,_⟩:=l.at k1 k2 m2
   rw [e] at hp;cases hp
  ·exact k1.symm
 ·rcases split i a u h1 h2 with ⟨g1,g2⟩ | ⟨rfl,rfl,rfl⟩
  ·exact (l.obj i a u g1 g2).keep m fun w e=>jA.up hp _ _ e
  ·exact mk
theorem Rl.put (l:Rl K ρ H st) (hi:ρ[i]?=some a) (hs:st[i]?=some o) (hm:o.mut=true) (hm':o'.mut=true) (m:Mn K ρ H ρ (upd H a ho)) (r:u6 K ρ (upd H a ho) a o'):Rl K ρ (upd H a ho) (st.set i o'):=by
 obtain ⟨w,ew,nf⟩:=l.at hi hs hm
 have Qg:i < st.length:=(Ve.mp hs).1
 have old:∀ (j:Nat) (u:O),(st.set i o')[j]?=some u->(j=i/\u=o')\/(j≠i/\st[j]?=some u):=fun j u h=>by
  by_cases hj:i=j
  ·subst hj
   rw [Vi Qg] at h
   exact .inl ⟨rfl,(Vs h).symm⟩
  ·rw [Vq hj] at h
   exact .inr ⟨fun z=>hj z.symm,h⟩
 refine ⟨by rw [VU];exact l.len,fun j k b u u' h1 h2 h3 h4 m1 m2=>?_,fun j b u h1 h2=>?_⟩
 ·rcases old j u h3 with ⟨rfl,rfl⟩ | ⟨nj,g3⟩ <;> rcases old k u' h4 with ⟨rfl,rfl⟩ | ⟨nk,g4⟩
  ·rfl
  ·exact l.nd _ _ b o u' h1 h2 hs g4 hm m2
  ·exact l.nd _ _ b u o h1 h2 g3 hs m1 hm
  ·exact l.nd _ _ b u u' h1 h2 g3 g4 m1 m2
 ·rcases old j u h2 with ⟨rfl,rfl⟩ | ⟨nj,g2⟩
  ·rw [hi] at h1;cases h1;exact r
  ·by_cases hb:b=a
   ·subst hb
    cases u with
    | oO ds =>
     obtain ⟨vs,e,q⟩:=l.obj j b _ h1 g2
     refine ⟨vs,?_,q.mn m⟩
     rcases e with ⟨x,e⟩ | e
     ·rw [ew] at e;cases e;exact absurd rfl (nf _ _)
     ·exact .inr e
    | lst ds=>exact absurd (l.nd j i b _ o h1 hi g2 hs rfl hm) nj
    | EM ds=>exact absurd (l.nd j i b _ o h1 hi g2 hs rfl hm) nj
    | exc c fs=>exact absurd (l.nd j i b _ o h1 hi g2 hs rfl hm) nj
    | dct ds=>exact absurd (l.nd j i b _ o h1 hi g2 hs rfl hm) nj
    | any=>trivial
    | jC lo up=>exact absurd (l.nd j i b _ o h1 hi g2 hs rfl hm) nj
   ·exact (l.obj j b u h1 g2).keep m fun w e=>by rw [jZ hb];exact e
theorem Mn.put {xs:List V} (e:H a=some (.lst xs)):Mn K ρ H ρ (upd H a ho):=⟨fun _ _ h=>h,fun b vs h=>(Kp.put (ch:=[a]) (o:=ho) Kp.refl (by simp) e).Hf h,fun b o u h=>by rw [jZ (fun z=>by rw [z,e] at h;cases h)];exact h,fun b ws h=>by rw [jZ (fun z=>by rw [z,e] at h;cases h)];exact h⟩
theorem Mn.putD {ws:List (Key×V)} (e:H a=some (.dK ws)):Mn K ρ H ρ (upd H a ho):=⟨fun _ _ h=>h,fun b vs q=>by
 have ne:∀ u,H b=some u->(∀ w,u≠.dK w)->b≠a:=fun u hu n z=>by rw [z,e] at hu;cases hu;exact n _ rfl
 rcases q with (q | ⟨o,q⟩) | q
 ·exact .inl (.inl (by rw [jZ (ne _ q fun w z=>nomatch z)];exact q))
 ·exact .inl (.inr ⟨o,by rw [jZ (ne _ q fun w z=>nomatch z)];exact q⟩)
 ·exact .inr q,fun b o u h=>by rw [jZ (fun z=>by rw [z,e] at h;cases h)];exact h,fun b ws h=>by rw [jZ (fun z=>by rw [z,e] at h;cases h)];exact h⟩
theorem Rl.newL {vs:List V} {ds:List D} (l:Rl K ρ H st) (hp:H p=none) (r:cJ K ρ H vs ds):Rl K (ρ ++ [p]) (upd H p (.lst vs)) (st ++ [.lst ds]):=l.new hp ⟨vs,qI,r.mn (Mn.new hp)⟩
theorem Rl.newD {vs:List (Key×V)} {ds:List (Key×D)} (l:Rl K ρ H st) (hp:H p=none) (r:Rk K ρ H vs ds):Rl K (ρ ++ [p]) (upd H p (.dK vs)) (st ++ [.dct ds]):=l.new hp ⟨vs,qI,r.mn (Mn.new hp)⟩
theorem newR (l:Rl K ρ H st) (v:D:=.ref st.length):(ρ ++ [p])[st.length]?=some p:=by rw [<- l.len,VA (Vh _),Wn];rfl
theorem Rl.putL {vs:List V} {ds xs:List D} (l:Rl K ρ H st) (hi:ρ[i]?=some a) (hs:st[i]?=some (.lst xs)) (r:cJ K ρ H vs ds):Rl K ρ (upd H a (.lst vs)) (st.set i (.lst ds))/\Mn K ρ H ρ (upd H a (.lst vs)):=by
 obtain ⟨ws,e,_⟩:=l.obj i a _ hi hs
 have m:Mn K ρ H ρ (upd H a (.lst vs)):=Mn.put e
 exact ⟨l.put hi hs rfl rfl m ⟨vs,qI,r.mn m⟩,m⟩
theorem Rl.xj {vs:List (Key×V)} {ds xs:List (Key×D)} (l:Rl K ρ H st) (hi:ρ[i]?=some a) (hs:st[i]?=some (.dct xs)) (r:Rk K ρ H vs ds):Rl K ρ (upd H a (.dK vs)) (st.set i (.dct ds))/\Mn K ρ H ρ (upd H a (.dK vs)):=by
 obtain ⟨ws,e,_⟩:=l.obj i a _ hi hs
 have m:Mn K ρ H ρ (upd H a (.dK vs)):=Mn.putD e
 exact ⟨l.put hi hs rfl rfl m ⟨vs,qI,r.mn m⟩,m⟩
def items (st:Store) (i:Nat):Option (List D):=match st[i]? with
 | some (.lst ds)=>some ds
 | some (.oO ds)=>some ds
 | _=>none
theorem Rl.items {ds:List D} (l:Rl K ρ H st) (hi:ρ[i]?=some a) (h:items st i=some ds):∃ vs,j3 K H a vs/\cJ K ρ H vs ds:=by
 unfold L4.items at h
 split at h
 ·next ds' hs=>cases h;obtain ⟨vs,e,r⟩:=l.obj i a _ hi hs;exact ⟨vs,.inl (.inl e),r⟩
 ·next ds' hs=>cases h;obtain ⟨vs,e,r⟩:=l.obj i a _ hi hs;exact ⟨vs,e.sq,r⟩
 ·cases h
end
def So (K:Zfr) {α β:Type} (R:List Addr->Hp->α->β->Prop) (t:St->Hp->(α->Hp->Prop)->Prop) (f:au->Dm β):Prop :=
 ∀ (ρ:List Addr) (σ:St) (H:Hp) (δ:au) (st:Store) (b:β) (st':Store) (Q:α->Hp->Prop),Rl K ρ H st->Rs K ρ H σ δ->f δ st=some (b,st') ->
  (∀ a H' ρ',Mn K ρ H ρ' H'->Rl K ρ' H' st'->R ρ' H' a b->Q a H')->t σ H Q
abbrev gf (K:Zfr) (t:TE) (f:au->Dm D):Prop:=So K (Rp K) t f
abbrev p8 (K:Zfr) (t:TT) (f:au->Dm Bool):Prop:=So K (fun _ _=>Eq) t f
abbrev qw (K:Zfr) (t:TA) (f:au->Dm (List D)):Prop:=So K (cJ K) t f
abbrev EN (K:Zfr) (t:TO) (f:au->Dm (Option Int)):Prop:=So K (fun _ _=>Eq) t f
def Ih (K:Zfr) (r:V->Hp->VK->Prop) (g:D->Dm D):Prop :=
 ∀ (ρ:List Addr) (H:Hp) (st:Store) (x:V) (a:D) (b:D) (st':Store) (Q:VK),Rl K ρ H st->Rp K ρ H x a->g a st=some (b,st')->(∀ v H' ρ',Mn K ρ H ρ' H'->Rl K ρ' H' st'->Rp K ρ' H' v b->Q v H')->r x H Q
def md (K:Zfr) (r:R2) (g:D->D->Dm D):Prop :=
 ∀ (ρ:List Addr) (H:Hp) (st:Store) (x y:V) (a c:D) (b:D) (st':Store) (Q:VK),Rl K ρ H st->Rp K ρ H x a->Rp K ρ H y c->g a c st=some (b,st')->(∀ v H' ρ',Mn K ρ H ρ' H'->Rl K ρ' H' st'->Rp K ρ' H' v b->Q v H')->r x y H Q
def qN (K:Zfr) (r:List V->Hp->VK->Prop) (g:List D->Dm D):Prop :=
 ∀ (ρ:List Addr) (H:Hp) (st:Store) (xs:List V) (as:List D) (b:D) (st':Store) (Q:VK),Rl K ρ H st->cJ K ρ H xs as->g as st=some (b,st')->(∀ v H' ρ',Mn K ρ H ρ' H'->Rl K ρ' H' st'->Rp K ρ' H' v b->Q v H')->r xs H Q
def sL (K:Zfr) (T:String) (r:V->List V->Hp->VK->Prop) (g:D->List D->Dm D):Prop :=
 ∀ (ρ:List Addr) (H:Hp) (st:Store) (x:V) (xs:List V) (a:D) (as:List D) (b:D) (st':Store) (Q:VK),Rl K ρ H st->Rp K ρ H x a->cJ K ρ H xs as->g a as st=some (b,st')->(∀ v H' ρ',Mn K ρ H ρ' H'->Rl K ρ' H' st'->Rp K ρ' H' v b->Q v H')->r x xs H Q
def bnd {α β:Type} (m:Option (α×Store)) (k:α->Dm β):Option (β×Store):=match m with
 | some (a,st)=>k a st
 | none=>none
theorem d6 {α β:Type} {m:Option (α×Store)} {k:α->Dm β} {r:β×Store} (h:bnd m k=some r):∃ a st,m=some (a,st)/\k a st=some r:=by
 cases m with
 | none=>cases h
 | some p=>exact ⟨p.1,p.2,rfl,h⟩
section
variable {K:Zfr}
def ag (i:Nat):au->Dm D:=fun δ st=>match δ[i]? with
 | some (some d)=>some (d,st)
 | _=>none
theorem ai (i:Nat):gf K (vR i) (ag i):=by
 intro ρ σ H δ st b st' Q l rs e q
 unfold ag at e
 split at e
 ·next d hd=>cases e;obtain ⟨v,ev,r⟩:=rs.2 i _ hd;exact ⟨v,ev,q v H ρ .refl l r⟩
 ·cases e
def fC (d:D):au->Dm D:=fun _ st=>some (d,st)
theorem qx {v:V} {d:D} (h:∀ ρ H,Rp K ρ H v d):gf K (tC v) (fC d):=by
 intro ρ σ H δ st b st' Q l rs e q
 cases e
 exact q v H ρ .refl l (h ρ H)
theorem aP (i:Int):gf K (tC (.int i)) (fC (.int i)):=qx fun _ _=>.int i
theorem p9 (b:Bool):gf K (tC (.bl b)) (fC (.bl b)):=qx fun _ _=>.bl b
theorem qa (x:Str):gf K (tC (.str x)) (fC (.str x)):=qx fun _ _=>.str x
theorem LL:gf K (tC .non) (fC .non):=qx fun _ _=>.non
theorem B1 (n:String):gf K (tC (.ty n)) (fC (.ty n)):=qx fun _ _=>.ty n
def aD (g:D->D->Dm D) (fa fb:au->Dm D):au->Dm D:=fun δ st=>bnd (fa δ st) fun a st1=>bnd (fb δ st1) fun b st2=>g a b st2
theorem aG {r:R2} {g:D->D->Dm D} {ta tb:TE} {fa fb:au->Dm D} (hr:md K r g) (ha:gf K ta fa) (hb:gf K tb fb):gf K (AV r ta tb) (aD g fa fb):=by
 intro ρ σ H δ st b st' Q l rs e q
 obtain ⟨a,st1,e1,e⟩:=d6 e
 obtain ⟨c,st2,e2,e⟩:=d6 e
 refine ha ρ σ H δ st a st1 _ l rs e1 fun x H1 ρ1 m1 l1 r1=>hb ρ1 σ H1 δ st1 c st2 _ l1 (rs.mn m1) e2 fun y H2 ρ2 m2 l2 r2=>?_
 exact hr ρ2 H2 st2 x y a c b st' Q l2 (r1.mn m2) r2 e fun v H3 ρ3 m3 l3 r3=>q v H3 ρ3 ((m1.trans m2).trans m3) l3 r3
def tT (g:D->Dm D) (fa:au->Dm D):au->Dm D:=fun δ st=>bnd (fa δ st) fun a st1=>g a st1
theorem xk {r:V->Hp->VK->Prop} {g:D->Dm D} {ta:TE} {fa:au->Dm D} (hr:Ih K r g) (ha:gf K ta fa):gf K (J7 r ta) (tT g fa):=by
 intro ρ σ H δ st b st' Q l rs e q
 obtain ⟨a,st1,e1,e⟩:=d6 e
 exact ha ρ σ H δ st a st1 _ l rs e1 fun x H1 ρ1 m1 l1 r1=>hr ρ1 H1 st1 x a b st' Q l1 r1 e fun v H3 ρ3 m3 l3 r3=>q v H3 ρ3 (m1.trans m3) l3 r3
def ah:au->Dm (List D):=fun _ st=>some ([],st)
def ae (fa:au->Dm D) (fr:au->Dm (List D)):au->Dm (List D):=fun δ st=>bnd (fa δ st) fun a st1=>bnd (fr δ st1) fun r st2=>some (a :: r,st2)
theorem ay:qw K A2 ah:=by
 intro ρ σ H δ st b st' Q l rs e q
 cases e
 exact q [] H ρ .refl l .nil
theorem ao {ta:TE} {tr:TA} {fa:au->Dm D} {fr:au->Dm (List D)} (ha:gf K ta fa) (hr:qw K tr fr):qw K (uE ta tr) (ae fa fr):=by
 intro ρ σ H δ st b st' Q l rs e q
 obtain ⟨a,st1,e1,e⟩:=d6 e
 obtain ⟨c,st2,e2,e⟩:=d6 e
 cases e
 exact ha ρ σ H δ st a st1 _ l rs e1 fun x H1 ρ1 m1 l1 r1=>hr ρ1 σ H1 δ st1 c _ _ l1 (rs.mn m1) e2 fun y H2 ρ2 m2 l2 r2=>q _ H2 ρ2 (m1.trans m2) l2 (.cons (r1.mn m2) r2)
def lim (n:Nat):Bool:=Nat.ble n 100000
theorem B2 {n:Nat} (h:lim n=true):n<=sizeLine:=VL (Xe h) (by decide)
theorem EO {n:Nat} (h:lim n=true):n < sizeLine:=V7 (Xe h) (by decide)
def bD (fa:au->Dm (List D)):au->Dm D:=fun δ st=>bnd (fa δ st) fun as st1=>if lim as.length=true then some (.tup as,st1) else none
theorem eZ {ta:TA} {fa:au->Dm (List D)} (ha:qw K ta fa):gf K (A3 ta) (bD fa):=by
 intro ρ σ H δ st b st' Q l rs e q
 obtain ⟨as,st1,e1,e⟩:=d6 e
 split at e
 ·next hl =>
  cases e
  refine ha ρ σ H δ st as _ _ l rs e1 fun xs H1 ρ1 m1 l1 r1=>⟨by rw [r1.length];exact B2 hl,fun p hp=>?_⟩
  have m2:Mn K ρ1 H1 ρ1 (upd H1 p (.tup xs)):=Mn.same (jA.up hp)
  exact q _ _ ρ1 (m1.trans m2) (l1.same (jA.up hp)) (.tup (ft.of qI) (r1.mn m2))
 ·cases e
def cM (fa:au->Dm (List D)):au->Dm D:=fun δ st=>bnd (fa δ st) fun as st1=>if lim as.length=true then some (.ref st1.length,st1 ++ [.lst as]) else none
theorem kq {ta:TA} {fa:au->Dm (List D)} (ha:qw K ta fa):gf K (A4 ta) (cM fa):=by
 intro ρ σ H δ st b st' Q l rs e q
 obtain ⟨as,st1,e1,e⟩:=d6 e
 split at e
 ·next hl =>
  cases e
  refine ha ρ σ H δ st as _ _ l rs e1 fun xs H1 ρ1 m1 l1 r1=>⟨by rw [r1.length];exact B2 hl,fun p hp=>?_⟩
  exact q _ _ _ (m1.trans (Mn.new hp)) (l1.newL hp r1) (.ref (newR l1))
 ·cases e
def aA (fa:au->Dm D):au->Dm Bool:=fun δ st=>bnd (fa δ st) fun a st1=>match a with
 | .bl b=>some (b,st1)
 | _=>none
theorem c7 {ta:TE} {fa:au->Dm D} (ha:gf K ta fa):p8 K (uD ta) (aA fa):=by
 intro ρ σ H δ st b st' Q l rs e q
 obtain ⟨a,st1,e1,e⟩:=d6 e
 cases a <;> simp at e
 obtain ⟨rfl,rfl⟩:=e
 refine ha ρ σ H δ st _ _ _ l rs e1 fun x H1 ρ1 m1 l1 r1=>?_
 cases r1
 exact ⟨_,rfl,q _ H1 ρ1 m1 l1 rfl⟩
theorem B3 {ta:TE} {fa:au->Dm D} (ha:gf K ta fa):p8 K (tB ta) (aA fa):=c7 ha
def oP (fa:au->Dm Bool):au->Dm Bool:=fun δ st=>bnd (fa δ st) fun a st1=>some (!a,st1)
theorem Ii {ta:TT} {fa:au->Dm Bool} (ha:p8 K ta fa):p8 K (AE ta) (oP fa):=by
 intro ρ σ H δ st b st' Q l rs e q
 obtain ⟨a,st1,e1,e⟩:=d6 e
 cases e
 exact ha ρ σ H δ st _ _ _ l rs e1 fun x H1 ρ1 m1 l1 r1=>q _ H1 ρ1 m1 l1 (by rw [r1])
def oQ (fa fb:au->Dm Bool):au->Dm Bool:=fun δ st=>bnd (fa δ st) fun a st1=>if a=true then fb δ st1 else some (false,st1)
def qy (fa fb:au->Dm Bool):au->Dm Bool:=fun δ st=>bnd (fa δ st) fun a st1=>if a=true then some (true,st1) else fb δ st1
theorem ER {ta tb:TT} {fa fb:au->Dm Bool} (ha:p8 K ta fa) (hb:p8 K tb fb):p8 K (AB ta tb) (oQ fa fb):=by
 intro ρ σ H δ st b st' Q l rs e q
 obtain ⟨a,st1,e1,e⟩:=d6 e
 refine ha ρ σ H δ st _ _ _ l rs e1 fun x H1 ρ1 m1 l1 r1=>?_
 subst r1
 cases x with
 | true =>
  refine qr ?_
  rw [if_pos rfl] at e
  exact hb ρ1 σ H1 δ st1 b st' _ l1 (rs.mn m1) e fun y H2 ρ2 m2 l2 r2=>q y H2 ρ2 (m1.trans m2) l2 r2
 | false =>
  refine qq ?_
  rw [if_neg Vo] at e
  cases e
  exact q _ H1 ρ1 m1 l1 rfl
theorem xl {ta tb:TT} {fa fb:au->Dm Bool} (ha:p8 K ta fa) (hb:p8 K tb fb):p8 K (JX ta tb) (qy fa fb):=by
 intro ρ σ H δ st b st' Q l rs e q
 obtain ⟨a,st1,e1,e⟩:=d6 e
 refine ha ρ σ H δ st _ _ _ l rs e1 fun x H1 ρ1 m1 l1 r1=>?_
 subst r1
 cases x with
 | false =>
  refine qq ?_
  rw [if_neg Vo] at e
  exact hb ρ1 σ H1 δ st1 b st' _ l1 (rs.mn m1) e fun y H2 ρ2 m2 l2 r2=>q y H2 ρ2 (m1.trans m2) l2 r2
 | true =>
  refine qr ?_
  rw [if_pos rfl] at e
  cases e
  exact q _ H1 ρ1 m1 l1 rfl
def nC (fa fb:au->Dm D):au->Dm D:=fun δ st=>bnd (aA fa δ st) fun a st1=>if a=true then fb δ st1 else some (.bl false,st1)
def B4 (fa fb:au->Dm D):au->Dm D:=fun δ st=>bnd (aA fa δ st) fun a st1=>if a=true then some (.bl true,st1) else fb δ st1
def u7 (fa:au->Dm D):au->Dm D:=fun δ st=>bnd (aA fa δ st) fun a st1=>some (.bl (!a),st1)
theorem Qh {fa:au->Dm D} {δ:au} {st st1:Store} {b:Bool} (h:aA fa δ st=some (b,st1)):fa δ st=some (.bl b,st1):=by
 obtain ⟨a,st2,e1,e⟩:=d6 h
 cases a <;> simp at e
 obtain ⟨rfl,rfl⟩:=e
 exact e1
theorem Ij {ta tb:TE} {fa fb:au->Dm D} (ha:gf K ta fa) (hb:gf K tb fb):gf K (uw ta tb) (nC fa fb):=by
 intro ρ σ H δ st b st' Q l rs e q
 obtain ⟨a,st1,e1,e⟩:=d6 e
 refine ha ρ σ H δ st _ _ _ l rs (Qh e1) fun x H1 ρ1 m1 l1 r1=>?_
 cases r1
 refine ⟨a,rfl,?_⟩
 cases a with
 | true =>
  refine qr ?_
  rw [if_pos rfl] at e
  exact hb ρ1 σ H1 δ st1 b st' _ l1 (rs.mn m1) e fun y H2 ρ2 m2 l2 r2=>q y H2 ρ2 (m1.trans m2) l2 r2
 | false =>
  refine qq ?_
  rw [if_neg Vo] at e
  cases e
  exact q _ H1 ρ1 m1 l1 (.bl _)
def dJ {β:Type} (c:au->Dm Bool) (fa fb:au->Dm β):au->Dm β:=fun δ st=>bnd (c δ st) fun a st1=>if a=true then fa δ st1 else fb δ st1
def j5:au->Dm (Option Int):=fun _ st=>some (none,st)
def mD (fa:au->Dm D):au->Dm (Option Int):=fun δ st=>bnd (fa δ st) fun a st1=>match a with
 | .int i=>some (some i,st1)
 | _=>none
theorem ES:EN K pR j5:=by
 intro ρ σ H δ st b st' Q l rs e q
 cases e
 exact q _ H ρ .refl l rfl
theorem ET {ta:TE} {fa:au->Dm D} (ha:gf K ta fa):EN K (uG ta) (mD fa):=by
 intro ρ σ H δ st b st' Q l rs e q
 obtain ⟨a,st1,e1,e⟩:=d6 e
 cases a <;> simp at e
 obtain ⟨rfl,rfl⟩:=e
 refine ha ρ σ H δ st _ _ _ l rs e1 fun x H1 ρ1 m1 l1 r1=>?_
 cases r1
 exact ⟨_,rfl,q _ H1 ρ1 m1 l1 rfl⟩
def xm (K:Zfr) (r:V->Option Int->Option Int->Hp->VK->Prop) (g:D->Option Int->Option Int->Dm D):Prop :=
 ∀ lo hi,Ih K (fun x=>r x lo hi) (fun a=>g a lo hi)
def xn (g:D->Option Int->Option Int->Dm D) (fa:au->Dm D) (fl fh:au->Dm (Option Int)):au->Dm D:=fun δ st=>bnd (fa δ st) fun a st1=>bnd (fl δ st1) fun lo st2=>bnd (fh δ st2) fun hi st3=>g a lo hi st3
theorem EU {r:V->Option Int->Option Int->Hp->VK->Prop} {g:D->Option Int->Option Int->Dm D} {ta:TE} {tl th:TO} {fa:au->Dm D} {fl fh:au->Dm (Option Int)} (hr:xm K r g) (ha:gf K ta fa) (hl:EN K tl fl) (hh:EN K th fh):gf K (Ks r ta tl th) (xn g fa fl fh):=by
 intro ρ σ H δ st b st' Q l rs e q
 obtain ⟨a,st1,e1,e⟩:=d6 e
 obtain ⟨lo,st2,e2,e⟩:=d6 e
 obtain ⟨hi,st3,e3,e⟩:=d6 e
 refine ha ρ σ H δ st a st1 _ l rs e1 fun x H1 ρ1 m1 l1 r1=>hl ρ1 σ H1 δ st1 lo st2 _ l1 (rs.mn m1) e2 fun y H2 ρ2 m2 l2 r2=>hh ρ2 σ H2 δ st2 hi st3 _ l2 (rs.mn (m1.trans m2)) e3 fun z H3 ρ3 m3 l3 r3=>?_
 subst r2 r3
 exact hr y z ρ3 H3 st3 x a b st' Q l3 (r1.mn (m2.trans m3)) e fun v H4 ρ4 m4 l4 r4=>q v H4 ρ4 (((m1.trans m2).trans m3).trans m4) l4 r4
def aM (g:List D->Dm D) (fa:au->Dm (List D)):au->Dm D:=fun δ st=>bnd (fa δ st) fun as st1=>g as st1
theorem b6 {r:List V->Hp->VK->Prop} {g:List D->Dm D} {ta:TA} {fa:au->Dm (List D)} (hr:qN K r g) (ha:qw K ta fa):gf K (GX r ta) (aM g fa):=by
 intro ρ σ H δ st b st' Q l rs e q
 obtain ⟨as,st1,e1,e⟩:=d6 e
 exact ha ρ σ H δ st as st1 _ l rs e1 fun x H1 ρ1 m1 l1 r1=>hr ρ1 H1 st1 x as b st' Q l1 r1 e fun v H3 ρ3 m3 l3 r3=>q v H3 ρ3 (m1.trans m3) l3 r3
def bM (K:Zfr) (n:Nat) (F:List D->Dm D):Sp:=fun vs H Q _=>vs.length=n/\∃ (ρ:List Addr) (st:Store) (ds:List D) (b:D) (st':Store),Rl K ρ H st/\cJ K ρ H vs ds/\F ds st=some (b,st') /\
 ∀ v H' ρ',Mn K ρ H ρ' H'->Rl K ρ' H' st'->Rp K ρ' H' v b->Q v H'
theorem b8 {n:Nat} {F:List D->Dm D} {ta:TA} {fa:au->Dm (List D)} {E:XK} (ha:qw K ta fa) (hn:∀ δ st as st',fa δ st=some (as,st')->as.length=n):gf K (oH (bM K n F) [] E ta) (aM F fa):=by
 intro ρ σ H δ st b st' Q l rs e q
 obtain ⟨as,st1,e1,e⟩:=d6 e
 refine ha ρ σ H δ st as st1 _ l rs e1 fun vs H1 ρ1 m1 l1 r1=>⟨?_,ρ1,st1,as,b,st',l1,?_,e,fun v H3 ρ3 m3 l3 r3=>q v H3 ρ3 (m1.trans m3) l3 r3⟩
 ·rw [Wr,r1.length];exact hn _ _ _ _ e1
 ·rw [Wr];exact r1
theorem Qi {δ:au} {st st':Store} {as:List D} (h:ah δ st=some (as,st')):as.length=0:=by cases h;rfl
theorem EV {fa:au->Dm D} {fr:au->Dm (List D)} {n:Nat} (hr:∀ δ st as st',fr δ st=some (as,st')->as.length=n):∀ δ st as st',ae fa fr δ st=some (as,st')->as.length=n + 1:=fun δ st as st' h=>by
 obtain ⟨a,st1,e1,e⟩:=d6 h
 obtain ⟨c,st2,e2,e⟩:=d6 e
 cases e
 rw [VJ,hr _ _ _ _ e2]
end
end L4
namespace L4
open PySem PySem.Spec L2
section
variable {K:Zfr}
def u9 (h:Int->Int->D):D->D->Dm D
 | .int i,.int j,st=>some (h i j,st)
 | _,_,_=>none
theorem zC {gv:Int->Int->V} {h:Int->Int->D} (hh:∀ i j ρ H,Rp K ρ H (gv i j) (h i j)):md K (pe gv) (u9 h):=by
 intro ρ H st x y a c b st' Q l rx ry e q
 unfold u9 at e
 split at e
 ·cases e;cases rx;cases ry;exact ⟨_,_,rfl,rfl,q _ H ρ .refl l (hh _ _ ρ H)⟩
 ·cases e
def xo (c:Int->Int->Bool) (h:Int->Int->D):D->D->Dm D
 | .int i,.int j,st=>if c i j=true then some (h i j,st) else none
 | _,_,_=>none
theorem EW {C:Int->Int->Prop} {c:Int->Int->Bool} {gv:Int->Int->V} {h:Int->Int->D} (hc:∀ i j,c i j=true->C i j) (hh:∀ i j ρ H,Rp K ρ H (gv i j) (h i j)):md K (rI C gv) (xo c h):=by
 intro ρ H st x y a d b st' Q l rx ry e q
 unfold xo at e
 split at e
 ·split at e
  ·next hcc=>cases e;cases rx;cases ry;exact ⟨_,_,rfl,rfl,hc _ _ hcc,q _ H ρ .refl l (hh _ _ ρ H)⟩
  ·cases e
 ·cases e
def gg:D->D->Dm D:=u9 fun i j=>.int (i + j)
def mS:D->D->Dm D:=u9 fun i j=>.int (i - j)
def lY:D->D->Dm D:=xo (fun i j=>decide (-18446744073709551616 < i/\i < 18446744073709551616) || decide (-18446744073709551616 < j/\j < 18446744073709551616)) fun i j=>.int (i * j)
def oR:D->D->Dm D:=xo (fun i j=>decide (0 < j/\j < 1073741824)) fun i j=>.int (i / j)
def jH:D->D->Dm D:=xo (fun i j=>decide (0 < j)) fun i j=>.int (i % j)
def rQ:D->D->Dm D:=xo (fun i j=>decide (0<=j/\j<=1000000/\i.natAbs < 18446744073709551616)) fun i j=>.int (i ^ j.toNat)
def qO:D->D->Dm D:=u9 fun i j=>.bl (decide (i < j))
def Ik:D->D->Dm D:=u9 fun i j=>.bl (decide (i<=j))
def va:D->D->Dm D:=u9 fun i j=>.bl (decide (j < i))
def B5:D->D->Dm D:=u9 fun i j=>.bl (decide (j<=i))
theorem mX:md K (pe fun i j=>.int (i + j)) gg:=zC fun _ _ _ _=>.int _
theorem B6:md K (pe fun i j=>.int (i - j)) mS:=zC fun _ _ _ _=>.int _
theorem tU:md K (rI tm fun i j=>.int (i * j)) lY:=EW (fun i j h=>by
 rw [Bool.or_eq_true,decide_eq_true_eq,decide_eq_true_eq] at h
 exact h) fun _ _ _ _=>.int _
theorem LM:md K (rI AX fun i j=>.int (i / j)) oR:=EW (fun i j h=>of_decide_eq_true (p:=0 < j/\j < 1073741824) h) fun _ _ _ _=>.int _
theorem qz:md K (rI (fun _ j=>0 < j) fun i j=>.int (i % j)) jH:=EW (fun i j h=>of_decide_eq_true h) fun _ _ _ _=>.int _
theorem LN:md K (rI AY fun i j=>.int (i ^ j.toNat)) rQ:=EW (fun i j h=>by have h:=of_decide_eq_true (p:=0<=j/\j<=1000000/\i.natAbs < 18446744073709551616) h;exact ⟨h.1,h.2.1,by omega⟩) fun _ _ _ _=>.int _
theorem tV:md K (pe fun i j=>.bl (decide (i < j))) qO:=zC fun _ _ _ _=>.bl _
theorem B7:md K (pe fun i j=>.bl (decide (i<=j))) Ik:=zC fun _ _ _ _=>.bl _
theorem zD:md K (pe fun i j=>.bl (decide (j < i))) va:=zC fun _ _ _ _=>.bl _
theorem vd:md K (pe fun i j=>.bl (decide (j<=i))) B5:=zC fun _ _ _ _=>.bl _
def mY:D->Dm D
 | .int i,st=>some (.int (-i),st)
 | _,_=>none
theorem xq:Ih K (rU fun i=>.int (-i)) mY:=by
 intro ρ H st x a b st' Q l rx e q
 unfold mY at e
 split at e
 ·cases e;cases rx;exact ⟨_,rfl,q _ H ρ .refl l (.int _)⟩
 ·cases e
def sV:D->Option V
 | .non=>some .non
 | .bl b=>some (.bl b)
 | .int i=>some (.int i)
 | .str x=>some (.str x)
 | _=>none
theorem zE {ρ:List Addr} {H:Hp} {x v:V} {a:D} (r:Rp K ρ H x a) (h:sV a=some v):x=v:=by
 cases r <;> first | (cases h;rfl) | cases h
def iO (neg:Bool):D->D->Dm D:=fun a b st=>match sV a,sV b with
 | some x,some y=>if nL x y=true then some (.bl (if neg then !decide (x=y) else decide (x=y)),st) else none
 | _,_=>none
theorem mN:md K Ka (iO false):=by
 intro ρ H st x y a c b st' Q l rx ry e q
 unfold iO at e
 split at e
 ·next u v h1 h2 =>
  split at e
  ·next hs=>cases e;cases zE rx h1;cases zE ry h2;exact ⟨hs,q _ H ρ .refl l (.bl _)⟩
  ·cases e
 ·cases e
theorem zF:md K Kb (iO true):=by
 intro ρ H st x y a c b st' Q l rx ry e q
 unfold iO at e
 split at e
 ·next u v h1 h2 =>
  split at e
  ·next hs=>cases e;cases zE rx h1;cases zE ry h2;exact ⟨hs,q _ H ρ .refl l (.bl _)⟩
  ·cases e
 ·cases e
def cz {α β:Type} (f:α->Option β):List α->Option (List β)
 | []=>some []
 | a :: r=>match f a,cz f r with
  | some b,some s=>some (b :: s)
  | _,_=>none
theorem zG {α β:Type} {f:α->Option β} {a:α} {r:List α} {s:List β} (h:cz f (a :: r)=some s):∃ b t,f a=some b/\cz f r=some t/\s=b :: t:=by
 unfold cz at h
 split at h
 ·next b t h1 h2=>cases h;exact ⟨b,t,h1,h2,rfl⟩
 ·cases h
theorem ve {α β γ:Type} {f:α->Option β} {g:γ->α} {k:γ->β} (h:∀ c,f (g c)=some (k c)):∀ l:List γ,cz f (l.map g)=some (l.map k)
 | []=>rfl
 | c :: r=>by
  show cz f (g c :: r.map g)=_
  unfold cz
  rw [h c,ve h r]
  rfl
def fU (st:Store):Nat->D->Option PyData
 | 0,_=>none
 | _ + 1,.non=>some .none
 | _ + 1,.bl b=>some (.bool b)
 | _ + 1,.int i=>some (.int i)
 | _ + 1,.str x=>some (.str x)
 | _ + 1,.ty _=>none
 | n + 1,.tup ds=>(cz (fU st n) ds).map PyData.tuple
 | n + 1,.ref i=>match items st i with
  | some ds=>(cz (fU st n) ds).map PyData.list
  | none=>none
theorem zH {ρ:List Addr} {H:Hp} {st:Store} (l:Rl K ρ H st):∀ (n:Nat) {v:V} {d:D} {p:PyData},Rp K ρ H v d->fU st n d=some p->Rep K H v p
 | 0,_,_,_,_,h=>by simp [fU] at h
 | n + 1,v,d,p,r,h=>by
  have all:∀ {vs:List V} {ds:List D} {ps:List PyData},cJ K ρ H vs ds->cz (fU st n) ds=some ps->fZ K H vs ps:=by
   intro vs ds ps rr
   induction vs generalizing ds ps with
   | nil=>intro hm;cases rr;cases hm;exact .nil
   | cons w ws ih =>
    intro hm
    cases rr with
    | cons ra rb =>
     obtain ⟨b,t,h1,h2,rfl⟩:=zG hm
     exact .cons (zH l n ra h1) (ih rb h2)
  cases r with
  | non=>simp [fU] at h;subst h;exact .non
  | bl b=>simp [fU] at h;subst h;exact .bl b
  | int i=>simp [fU] at h;subst h;exact .int i
  | str x=>simp [fU] at h;subst h;exact .str x
  | ty n=>simp [fU] at h
  | ref hi =>
   simp only [fU] at h
   split at h
   ·next ds hd =>
    obtain ⟨ps,h1,rfl⟩:=VR.mp h
    obtain ⟨vs,e,rr⟩:=l.items hi hd
    exact .lst e (all rr h1)
   ·cases h
  | tup q rr =>
   simp only [fU] at h
   obtain ⟨ps,h1,rfl⟩:=VR.mp h
   exact .tup q (all rr h1)
def e8 (neg:Bool):D->D->Dm D:=fun a b st=>match fU st 20 a,fU st 20 b with
 | some p,some q=>if (PyData.canLay0 p && PyData.canLay0 q && decide (min p.depth q.depth<=60))=true then some (.bl (if neg then !PyData.eqv p q else PyData.eqv p q),st) else none
 | _,_=>none
theorem qA (neg:Bool):md K (tH K neg) (e8 neg):=by
 intro ρ H st x y a c b st' Q l rx ry e q
 unfold e8 at e
 split at e
 ·next u v h1 h2 =>
  split at e
  ·next hs =>
   cases e
   rw [VE,VE,decide_eq_true_eq] at hs
   exact ⟨u,v,zH l 20 rx h1,zH l 20 ry h2,hs.1.1,hs.1.2,hs.2,q _ H ρ .refl l (.bl _)⟩
  ·cases e
 ·cases e
theorem at_of {ρ:List Addr} {H:Hp} {vs:List V} {ds:List D} {i:Int} {d:D} (r:cJ K ρ H vs ds) (h:d5 ds i=some d):∃ v,d5 vs i=some v/\Rp K ρ H v d:=by
 unfold d5 at h ⊢
 rw [r.length]
 cases hx:lW ds.length i with
 | none=>rw [hx] at h;cases h
 | some j =>
  rw [hx] at h
  exact r.got h
def a5:D->D->Dm D
 | .tup ds,.int i,st=>match d5 ds i with
  | some d=>some (d,st)
  | none=>none
 | _,_,_=>none
theorem dG:md K (wo K) a5:=by
 intro ρ H st x y a c b st' Q l rx ry e q
 unfold a5 at e
 split at e
 ·split at e
  ·next d hd =>
   cases e
   cases ry
   cases rx with
   | tup s r =>
    obtain ⟨v,hv,rv⟩:=at_of r hd
    exact ⟨_,_,_,v,rfl,rfl,s,hv,q v H ρ .refl l rv⟩
  ·cases e
 ·cases e
def bG:D->D->Dm D
 | .ref r,.int i,st=>match items st r with
  | some ds=>match d5 ds i with
   | some d=>some (d,st)
   | none=>none
  | none=>none
 | _,_,_=>none
theorem fD:md K (wm K) bG:=by
 intro ρ H st x y a c b st' Q l rx ry e q
 unfold bG at e
 split at e
 ·split at e
  ·next ds hi =>
   split at e
   ·next d hd =>
    cases e
    cases ry
    cases rx with
    | ref hr =>
     obtain ⟨vs,s,r⟩:=l.items hr hi
     obtain ⟨v,hv,rv⟩:=at_of r hd
     exact ⟨_,_,_,v,rfl,rfl,s,hv,q v H ρ .refl l rv⟩
   ·cases e
  ·cases e
 ·cases e
def xr:D->D->Dm D
 | .str z,.int i,st=>if lim z.length=true then match d5 z.cps.toList i with
   | some c=>some (.str ⟨#[c]⟩,st)
   | none=>none
  else none
 | _,_,_=>none
def cutD (xs:List D) (lo hi:Option Int):List D:=(xs.drop (HT.cO xs.length 0 lo)).take (HT.cO xs.length xs.length hi - HT.cO xs.length 0 lo)
theorem cJ.cut {ρ:List Addr} {H:Hp} {vs:List V} {ds:List D} (r:cJ K ρ H vs ds) (lo hi:Option Int):cJ K ρ H (mw vs lo hi) (cutD ds lo hi):=by
 unfold mw cutD
 rw [r.length]
 exact (r.drop _).take _
def xt:D->Option Int->Option Int->Dm D
 | .tup ds,lo,hi,st=>some (.tup (cutD ds lo hi),st)
 | _,_,_,_=>none
theorem got {ρ:List Addr} {H:Hp} {st:Store} {vs:List V} {ds:List D} {Q:VK} (l:Rl K ρ H st) (r:cJ K ρ H vs ds) (q:∀ v H' ρ',Mn K ρ H ρ' H'->Rl K ρ' H' st->Rp K ρ' H' v (.tup ds)->Q v H'):pj K H vs Q :=
 fun p H' s e=>q _ H' ρ (Mn.same e) (l.same e) (.tup s (r.mn (Mn.same e)))
theorem xu:xm K (uQ K) xt:=by
 intro lo hi ρ H st x a b st' Q l rx e q
 cases a with
 | tup ds =>
  cases e
  cases rx with
  | tup s r=>exact ⟨_,_,rfl,s,got l (r.cut lo hi) q⟩
 | _=>cases e
def qB:D->Option Int->Option Int->Dm D
 | .ref r,lo,hi,st=>match items st r with
  | some ds=>some (.ref st.length,st ++ [.lst (cutD ds lo hi)])
  | none=>none
 | _,_,_,_=>none
theorem Il:xm K (A8 K) qB:=by
 intro lo hi ρ H st x a b st' Q l rx e q
 cases a with
 | ref i =>
  simp only [qB] at e
  split at e
  ·next ds hd =>
   cases e
   cases rx with
   | ref hr =>
    obtain ⟨vs,s,r⟩:=l.items hr hd
    exact ⟨_,_,rfl,s,fun p hp=>q _ _ _ (Mn.new hp) (l.newL hp (r.cut lo hi)) (.ref (newR l))⟩
  ·cases e
 | _=>cases e
def jI:D->D->Dm D
 | .tup a,.tup b,st=>if lim (a.length + b.length)=true then some (.tup (a ++ b),st) else none
 | _,_,_=>none
theorem xv:md K (rn K) jI:=by
 intro ρ H st x y a c b st' Q l rx ry e q
 unfold jI at e
 split at e
 ·split at e
  ·next hl =>
   cases e
   cases rx with
   | tup s r =>
    cases ry with
    | tup s' r'=>exact ⟨_,_,_,_,rfl,rfl,s,s',by rw [r.length,r'.length];exact B2 hl,got l (r.append r') q⟩
  ·cases e
 ·cases e
def own (st:Store) (i:Nat):Option (List D):=match st[i]? with
 | some (.lst ds)=>some ds
 | _=>none
theorem o8 {st:Store} {i:Nat} {ds:List D} (h:own st i=some ds):st[i]?=some (.lst ds):=by
 unfold own at h
 split at h
 ·next ds' hs=>cases h;exact hs
 ·cases h
def mZ:D->D->Dm D
 | .ref i,.ref j,st=>match own st i,own st j with
  | some a,some b=>if lim (a.length + b.length)=true then some (.ref st.length,st ++ [.lst (a ++ b)]) else none
  | _,_=>none
 | _,_,_=>none
theorem xw:md K Be mZ:=by
 intro ρ H st x y a c b st' Q l rx ry e q
 unfold mZ at e
 split at e
 ·split at e
  ·next a b h1 h2 =>
   split at e
   ·next hl =>
    cases e
    cases rx with
    | ref hi =>
     cases ry with
     | ref hj =>
      obtain ⟨vs,e1,r1⟩:=l.obj _ _ _ hi (o8 h1)
      obtain ⟨ws,e2,r2⟩:=l.obj _ _ _ hj (o8 h2)
      exact ⟨_,_,_,_,rfl,rfl,e1,e2,by rw [r1.length,r2.length];exact B2 hl,fun p hp=>q _ _ _ (Mn.new hp) (l.newL hp (r1.append r2)) (.ref (newR l))⟩
   ·cases e
  ·cases e
 ·cases e
def rR:D->D->Dm D
 | .ref i,.int k,st=>match own st i with
  | some a=>if (decide (-9223372036854775808<=k/\k < 9223372036854775808) && lim (a.length * k.toNat))=true then some (.ref st.length,st ++ [.lst (List.replicate k.toNat a).flatten]) else none
  | _=>none
 | _,_,_=>none
theorem LO {ρ:List Addr} {H:Hp}:∀ {ws vs:List V} {ds:List D},cJ K ρ H ws ds->cz sV ds=some vs->ws=vs
 | _,_,_,.nil,h=>by cases h;rfl
 | _,_,_,.cons a b,h=>by
  obtain ⟨x,t,h1,h2,rfl⟩:=zG h
  rw [zE a h1,LO b h2]
theorem LP {a:D} {v:V} (h:sV a=some v):ky v=true:=by cases a <;> first | (cases h;rfl) | cases h
theorem LQ:∀ {ds:List D} {vs:List V},cz sV ds=some vs->vs.all ky=true
 | [],_,h=>by cases h;rfl
 | d :: r,_,h=>by
  obtain ⟨x,t,h1,h2,rfl⟩:=zG h
  rw [List.all_cons,LP h1,LQ h2];rfl
def cZ (st:Store):D->Option (List D)
 | .tup ds=>some ds
 | .ref i=>items st i
 | _=>none
theorem EX {ρ:List Addr} {H:Hp} {st:Store} {x:V} {a:D} {ds:List D} (l:Rl K ρ H st) (r:Rp K ρ H x a) (h:cZ st a=some ds):∃ p vs,x=.ref p/\(j3 K H p vs\/ft K H p vs)/\cJ K ρ H vs ds:=by
 cases r <;> first | (cases h;done) | skip
 ·next hi=>obtain ⟨vs,s,r⟩:=l.items hi h;exact ⟨_,vs,rfl,.inl s,r⟩
 ·next s r=>cases h;exact ⟨_,_,rfl,.inr s,r⟩
def qP (neg:Bool):D->D->Dm D:=fun a c st=>match sV a,(cZ st c).bind (cz sV) with
 | some x,some vs=>some (.bl (if neg then !uK x vs else uK x vs),st)
 | _,_=>none
theorem B8 (neg:Bool):md K (G6 K neg) (qP neg):=by
 intro ρ H st x y a c b st' Q l rx ry e q
 unfold qP at e
 split at e
 ·next u vs h1 h2 =>
  cases e
  obtain ⟨ds,h3,h4⟩:=V4.mp h2
  obtain ⟨p,ws,rfl,s,r⟩:=EX l ry h3
  cases zE rx h1
  cases LO r h4
  exact ⟨p,_,rfl,s,LP h1,LQ h4,q _ H ρ .refl l (.bl _)⟩
 ·cases e
theorem cJ.one' {ρ:List Addr} {H:Hp} {vs:List V} {d:D} (r:cJ K ρ H vs [d]):∃ v,vs=[v]/\Rp K ρ H v d:=by cases r with | cons a b=>cases b;exact ⟨_,rfl,a⟩
theorem cJ.two' {ρ:List Addr} {H:Hp} {vs:List V} {d e:D} (r:cJ K ρ H vs [d,e]):∃ v w,vs=[v,w]/\Rp K ρ H v d/\Rp K ρ H w e:=by
 cases r with
 | cons a b=>obtain ⟨w,rfl,r⟩:=b.one';exact ⟨_,_,rfl,a,r⟩
def cc:List D->Dm D
 | [a],st=>match cZ st a with
  | some ds=>some (.int ds.length,st)
  | none=>none
 | _,_=>none
theorem iE:qN K (fun xs H Q=>∃ p ys,xs=[.ref p]/\(j3 K H p ys\/ft K H p ys)/\Q (.int ys.length) H) cc:=by
 intro ρ H st xs as b st' Q l rx e q
 unfold cc at e
 split at e
 ·split at e
  ·next ds hd =>
   cases e
   obtain ⟨v,rfl,r⟩:=rx.one'
   obtain ⟨p,vs,rfl,s,r⟩:=EX l r hd
   exact ⟨p,vs,rfl,s,q _ H ρ .refl l (by rw [r.length];exact .int _)⟩
  ·cases e
 ·cases e
def lR:List D->Dm D
 | [a],st=>match cZ st a with
  | some ds=>some (.ref st.length,st ++ [.lst ds])
  | none=>none
 | _,_=>none
theorem B9:qN K (fun xs H Q=>∃ p ys,xs=[.ref p]/\(j3 K H p ys\/ft K H p ys)/\∀ l,H l=none->Q (.ref l) (upd H l (.lst ys))) lR:=by
 intro ρ H st xs as b st' Q l rx e q
 unfold lR at e
 split at e
 ·split at e
  ·next ds hd =>
   cases e
   obtain ⟨v,rfl,r⟩:=rx.one'
   obtain ⟨p,vs,rfl,s,r⟩:=EX l r hd
   exact ⟨p,vs,rfl,s,fun p hp=>q _ _ _ (Mn.new hp) (l.newL hp r) (.ref (newR l))⟩
  ·cases e
 ·cases e
def bU:List D->Dm D
 | [a],st=>match cZ st a with
  | some ds=>some (.tup ds,st)
  | none=>none
 | _,_=>none
theorem mE:qN K (fun xs H Q=>∃ p ys,xs=[.ref p]/\((j3 K H p ys/\∀ l,H l=none->Q (.ref l) (upd H l (.tup ys)))\/(ft K H p ys/\Q (.ref p) H))) bU:=by
 intro ρ H st xs as b st' Q l rx e q
 unfold bU at e
 split at e
 ·split at e
  ·next ds hd =>
   cases e
   obtain ⟨v,rfl,r⟩:=rx.one'
   obtain ⟨p,vs,rfl,s,r'⟩:=EX l r hd
   refine ⟨p,vs,rfl,?_⟩
   rcases s with s | s
   ·exact .inl ⟨s,(got l r' q).new⟩
   ·exact .inr ⟨s,(got l r' q).it s⟩
  ·cases e
 ·cases e
def nD:List D->Dm D
 | [.int i,.int j],st=>some (.int (if j > i then j else i),st)
 | _,_=>none
def qb:List D->Dm D
 | [.int i,.int j],st=>some (.int (if j < i then j else i),st)
 | _,_=>none
theorem Im:qN K (fun xs H Q=>∃ i j,xs=[.int i,.int j]/\Q (.int (if j > i then j else i)) H) nD:=by
 intro ρ H st xs as b st' Q l rx e q
 unfold nD at e
 split at e
 ·cases e
  obtain ⟨v,w,rfl,r1,r2⟩:=rx.two'
  cases r1;cases r2
  exact ⟨_,_,rfl,q _ H ρ .refl l (.int _)⟩
 ·cases e
theorem Qj:qN K (fun xs H Q=>∃ i j,xs=[.int i,.int j]/\Q (.int (if j < i then j else i)) H) qb:=by
 intro ρ H st xs as b st' Q l rx e q
 unfold qb at e
 split at e
 ·cases e
  obtain ⟨v,w,rfl,r1,r2⟩:=rx.two'
  cases r1;cases r2
  exact ⟨_,_,rfl,q _ H ρ .refl l (.int _)⟩
 ·cases e
def oS:List D->Dm D
 | [.int i],st=>some (.int i,st)
 | [.bl k],st=>some (.int (if k then 1 else 0),st)
 | _,_=>none
theorem Qk:qN K (fun xs H Q=>(∃ i,xs=[.int i]/\Q (.int i) H)\/∃ k,xs=[.bl k]/\Q (.int (if k then 1 else 0)) H) oS:=by
 intro ρ H st xs as b st' Q l rx e q
 unfold oS at e
 split at e
 ·cases e
  obtain ⟨v,rfl,r⟩:=rx.one'
  cases r
  exact .inl ⟨_,rfl,q _ H ρ .refl l (.int _)⟩
 ·cases e
  obtain ⟨v,rfl,r⟩:=rx.one'
  cases r
  exact .inr ⟨_,rfl,q _ H ρ .refl l (.int _)⟩
 ·cases e
def iR:List D->Dm D
 | [.int j],st=>some (.ref st.length,st ++ [.jC 0 j])
 | _,_=>none
def fE:List D->Dm D
 | [.int i,.int j],st=>some (.ref st.length,st ++ [.jC i j])
 | _,_=>none
theorem EY:qN K (fun xs H Q=>∃ j:Int,xs=[.int j]/\∀ p,H p=none->Q (.ref p) (upd H p (.jC 0 j))) iR:=by
 intro ρ H st xs as b st' Q l rx e q
 unfold iR at e
 split at e
 ·cases e
  obtain ⟨v,rfl,r⟩:=rx.one'
  cases r
  exact ⟨_,rfl,fun p hp=>q _ _ _ (Mn.new hp) (l.new hp (show u6 K _ _ p (.jC _ _) from qI)) (.ref (newR l))⟩
 ·cases e
theorem zI:qN K (fun xs H Q=>∃ i j:Int,xs=[.int i,.int j]/\∀ p,H p=none->Q (.ref p) (upd H p (.jC i j))) fE:=by
 intro ρ H st xs as b st' Q l rx e q
 unfold fE at e
 split at e
 ·cases e
  obtain ⟨v,w,rfl,r1,r2⟩:=rx.two'
  cases r1;cases r2
  exact ⟨_,_,rfl,fun p hp=>q _ _ _ (Mn.new hp) (l.new hp (show u6 K _ _ p (.jC _ _) from qI)) (.ref (newR l))⟩
 ·cases e
def aJ (lo:Int) (n:Nat):List D:=(List.range n).map fun (k:Nat)=>D.int (lo + k)
theorem Ql {ρ:List Addr} {H:Hp} (lo:Int) (n:Nat):cJ K ρ H (fY lo n) (aJ lo n):=by
 unfold fY aJ
 induction (List.range n) with
 | nil=>exact .nil
 | cons a r ih=>exact .cons (.int _) ih
def m8 (lo hi:Int):Bool:=decide (-4611686018427387904<=lo/\lo < 4611686018427387904/\-4611686018427387904<=hi/\hi < 4611686018427387904) && lim (hi - lo).toNat
theorem LR {lo hi:Int} (h:m8 lo hi=true):(-(2 ^ 62)<=lo/\lo < 2 ^ 62/\-(2 ^ 62)<=hi/\hi < 2 ^ 62)/\(hi - lo).toNat<=2 ^ 24:=by
 unfold m8 at h
 rw [VE,decide_eq_true_eq] at h
 exact ⟨by omega,VL (Xe h.2) (by decide)⟩
def jx (st:Store):D->Option (Int×Int)
 | .ref i=>match st[i]? with
  | some (.jC lo hi)=>some (lo,hi)
  | _=>none
 | _=>none
theorem xx {ρ:List Addr} {H:Hp} {st:Store} {x:V} {a:D} {lo hi:Int} (l:Rl K ρ H st) (r:Rp K ρ H x a) (h:jx st a=some (lo,hi)):∃ p,x=.ref p/\H p=some (.jC lo hi):=by
 cases r <;> first | (cases h;done) | skip
 ·next hi' =>
  simp only [jx] at h
  split at h
  ·next lo' Qm hs=>cases h;exact ⟨_,rfl,l.obj _ _ _ hi' hs⟩
  ·cases h
def d7:List D->Dm D
 | [a],st=>match jx st a with
  | some (lo,hi)=>if m8 lo hi=true then some (.ref st.length,st ++ [.lst (aJ lo (hi - lo).toNat)]) else none
  | none=>none
 | _,_=>none
theorem sM:qN K (fun xs H Q=>∃ p lo hi,xs=[.ref p]/\H p=some (.jC lo hi)/\(-(2 ^ 62)<=lo/\lo < 2 ^ 62/\-(2 ^ 62)<=hi/\hi < 2 ^ 62)/\(hi - lo).toNat<=2 ^ 24 /\
  ∀ l,H l=none->Q (.ref l) (upd H l (.lst (fY lo (hi - lo).toNat)))) d7:=by
 intro ρ H st xs as b st' Q l rx e q
 unfold d7 at e
 split at e
 ·split at e
  ·next lo hi hd =>
   split at e
   ·next ok =>
    cases e
    obtain ⟨v,rfl,r⟩:=rx.one'
    obtain ⟨p,rfl,s⟩:=xx l r hd
    exact ⟨p,lo,hi,rfl,s,(LR ok).1,(LR ok).2,fun p hp=>q _ _ _ (Mn.new hp) (l.newL hp (Ql lo _)) (.ref (newR l))⟩
   ·cases e
  ·cases e
 ·cases e
def tW:List D->Dm D
 | [a],st=>match jx st a with
  | some (lo,hi)=>if m8 lo hi=true then some (.tup (aJ lo (hi - lo).toNat),st) else none
  | none=>none
 | _,_=>none
def iV:D->Option Int
 | .int i=>some i
 | _=>none
theorem EZ {ρ:List Addr} {H:Hp}:∀ {ws:List V} {ds:List D} {ns:List Int},cJ K ρ H ws ds->cz iV ds=some ns->ws=ns.map V.int
 | _,_,_,.nil,h=>by cases h;rfl
 | _,_,_,.cons a b,h=>by
  obtain ⟨x,t,h1,h2,rfl⟩:=zG h
  rw [EZ b h2]
  cases a <;> first | (cases h1;rfl) | cases h1
def bV:D->Option Bool
 | .bl i=>some i
 | _=>none
def xy:List D->Dm D
 | [.ref i],st=>match (items st i).bind (cz bV) with
  | some bs=>some (.bl (bs.all id),st)
  | none=>none
 | _,_=>none
def sN (T:String) (st:Store):D->Bool
 | .str _=>T == "str"
 | .tup _=>T == "tuple"
 | .ref i=>T == "list" && (items st i).isSome
 | _=>false
theorem LS {ρ:List Addr} {H:Hp} {st:Store} {x:V} {a:D} {T:String} (l:Rl K ρ H st) (r:Rp K ρ H x a) (h:sN T st a=true):Ek K T x H:=by
 cases r <;> first | (cases h;done) | skip
 ·exact eq_of_beq h
 ·next hi =>
  simp only [sN,VE] at h
  obtain ⟨ds,hd⟩:=Wz.mp h.2
  obtain ⟨vs,s,_⟩:=l.items hi hd
  exact .inl ⟨eq_of_beq h.1,vs,s⟩
 ·next s r=>exact .inr (.inl ⟨eq_of_beq h,_,s⟩)
def iw (T:String) (g:D->List D->Dm D) (fo:au->Dm D) (fa:au->Dm (List D)):au->Dm D:=fun δ st=>bnd (fo δ st) fun o st1=>if sN T st1 o=true then bnd (fa δ st1) fun as st2=>g o as st2 else none
theorem kX {T:String} {r:V->List V->Hp->VK->Prop} {g:D->List D->Dm D} {to:TE} {ta:TA} {fo:au->Dm D} {fa:au->Dm (List D)} (hr:sL K T r g) (ho:gf K to fo) (ha:qw K ta fa):gf K (G7 K T r to ta) (iw T g fo fa):=by
 intro ρ σ H δ st b st' Q l rs e q
 obtain ⟨o,st1,e1,e⟩:=d6 e
 split at e
 ·next ht =>
  obtain ⟨as,st2,e2,e⟩:=d6 e
  refine ho ρ σ H δ st o st1 _ l rs e1 fun x H1 ρ1 m1 l1 r1=>⟨LS l1 r1 ht,ha ρ1 σ H1 δ st1 as st2 _ l1 (rs.mn m1) e2 fun xs H2 ρ2 m2 l2 r2=>?_⟩
  exact hr ρ2 H2 st2 x xs o as b st' Q l2 (r1.mn m2) r2 e fun v H3 ρ3 m3 l3 r3=>q v H3 ρ3 ((m1.trans m2).trans m3) l3 r3
 ·cases e
def a9:D->List D->Dm D
 | .ref i,[y],st=>match own st i with
  | some xs=>if lim xs.length=true then some (.non,st.set i (.lst (xs ++ [y]))) else none
  | none=>none
 | _,_,_=>none
theorem oT:sL K "list" pT a9:=by
 intro ρ H st x xs a as b st' Q l rx oU e q
 unfold a9 at e
 split at e
 ·split at e
  ·next ys hy =>
   split at e
   ·next hl =>
    cases e
    obtain ⟨v,rfl,r⟩:=oU.one'
    cases rx with
    | ref hi =>
     obtain ⟨vs,e1,r1⟩:=l.obj _ _ _ hi (o8 hy)
     obtain ⟨l2,m2⟩:=l.putL hi (o8 hy) (r1.append (.one r))
     exact ⟨_,vs,v,rfl,rfl,e1,by rw [r1.length];exact EO hl,q _ _ ρ m2 l2 .non⟩
   ·cases e
  ·cases e
 ·cases e
def nT:D->List D->Dm D
 | .ref i,[.ref j],st=>match own st i,own st j with
  | some xs,some ys=>if lim (xs.length + ys.length)=true then some (.non,st.set i (.lst (xs ++ ys))) else none
  | _,_=>none
 | _,_,_=>none
def kG:D->List D->Dm D
 | .ref i,[.int k],st=>match own st i with
  | some xs=>if decide (-9223372036854775808<=k/\k < 9223372036854775808)=true then match seqIndex? k xs.length with
    | some j=>match xs[j]? with
     | some y=>some (y,st.set i (.lst (xs.eraseIdx j)))
     | none=>none
    | none=>none
   else none
  | none=>none
 | _,_,_=>none
theorem LU:sL K "list" rh kG:=by
 intro ρ H st x xs a as b st' Q l rx oU e q
 unfold kG at e
 split at e
 ·split at e
  ·next ys hy =>
   split at e
   ·next hk =>
    split at e
    ·next j hj =>
     split at e
     ·next y hy' =>
      cases e
      obtain ⟨v,rfl,r⟩:=oU.one'
      cases r
      cases rx with
      | ref hi =>
       obtain ⟨vs,e1,r1⟩:=l.obj _ _ _ hi (o8 hy)
       obtain ⟨w,hw,rw'⟩:=r1.got hy'
       obtain ⟨l2,m2⟩:=l.putL hi (o8 hy) (r1.erase j)
       have hk:=of_decide_eq_true hk
       exact ⟨_,vs,_,j,w,rfl,rfl,e1,by omega,by omega,by rw [r1.length];exact hj,hw,q _ _ ρ m2 l2 (rw'.mn m2)⟩
     ·cases e
    ·cases e
   ·cases e
  ·cases e
 ·cases e
def iS:D->List D->Dm D
 | .tup ds,[.int v],st=>match cz iV ds with
  | some ns=>match ns.findIdx? (fun i=>decide (i=v)) with
   | some j=>some (.int (j:Int),st)
   | none=>none
  | none=>none
 | _,_,_=>none
theorem Io:sL K "tuple" (pq K) iS:=by
 intro ρ H st x xs a as b st' Q l rx oU e q
 unfold iS at e
 split at e
 ·split at e
  ·next ns hn =>
   split at e
   ·next j hj =>
    cases e
    obtain ⟨v,rfl,r⟩:=oU.one'
    cases r
    cases rx with
    | tup s r =>
     cases EZ r hn
     obtain ⟨h1,h2,h3⟩:=Wx.mp hj
     refine ⟨_,ns,_,j,rfl,rfl,s,?_,fun i hi z=>?_,q _ H ρ .refl l (.int _)⟩
     ·rw [Vg h1];exact congrArg some (of_decide_eq_true h2)
     ·have:=h3 i hi
      obtain ⟨hl,ez⟩:=Ve.mp z
      rw [ez] at this
      simp at this
   ·cases e
  ·cases e
 ·cases e
def gG:D->List D->Dm D
 | .ref i,[.int v],st=>match (items st i).bind (cz iV) with
  | some ns=>if v∈ns/\ns.length<=1000/\∀ i∈ns,-1000000000000000000<=i/\i<=1000000000000000000 then some (.int (ns.idxOf v:Int),st) else none
  | none=>none
 | _,_,_=>none
def qC (st:Store):D->Option String
 | .non=>some "NoneType"
 | .bl _=>some "bool"
 | .int _=>some "int"
 | .str _=>some "str"
 | .tup _=>some "tuple"
 | .ref i=>match st[i]? with
  | some (.lst _)=>some "list"
  | some (.dct _)=>some "dict"
  | _=>none
 | .ty _=>none
def nU:List D->Dm D
 | [a,.ty c],st=>match qC st a with
  | some T=>if T=c then some (.bl true,st) else none
  | none=>none
 | _,_=>none
end
section
variable {K:Zfr}
theorem LV:md K Bf rR:=by
 intro ρ H st x y a c b st' Q l rx ry e q
 unfold rR at e
 split at e
 ·split at e
  ·next ds hd =>
   split at e
   ·next ok =>
    cases e
    rw [VE,decide_eq_true_eq] at ok
    cases ry
    cases rx with
    | ref hi =>
     obtain ⟨vs,e1,r1⟩:=l.obj _ _ _ hi (o8 hd)
     exact ⟨_,_,vs,rfl,rfl,e1,by omega,by omega,by rw [r1.length];exact B2 ok.2,fun p hp=>q _ _ _ (Mn.new hp) (l.newL hp (r1.flat _)) (.ref (newR l))⟩
   ·cases e
  ·cases e
 ·cases e
theorem Rs.set {ρ:List Addr} {H:Hp} {σ:St} {δ:au} {v:V} {d:D} {i:Nat} (h:Rs K ρ H σ δ) (r:Rp K ρ H v d):Rs K ρ H (σ.set i (some v)) (δ.set i (some d)):=by
 refine ⟨by rw [VU,VU];exact h.1,fun j e hj=>?_⟩
 by_cases hij:i=j
 ·subst hij
  have hl:i < δ.length:=by
   have:=(Ve.mp hj).1
   rwa [VU] at this
  rw [Vi hl] at hj
  cases hj
  exact ⟨v,by rw [Vi (by rw [h.1];exact hl)],r⟩
 ·rw [Vq hij] at hj
  obtain ⟨w,hw,rw'⟩:=h.2 j e hj
  exact ⟨w,by rw [Vq hij];exact hw,rw'⟩
def xA (K:Zfr) (g:TG) (f:D->au->Dm au):Prop :=
 ∀ (ρ:List Addr) (σ:St) (H:Hp) (δ:au) (st:Store) (v:V) (d:D) (δ':au) (st':Store) (Q:St->Hp->Prop),Rl K ρ H st->Rs K ρ H σ δ->Rp K ρ H v d->f d δ st=some (δ',st') ->
  (∀ σ' H' ρ',Mn K ρ H ρ' H'->Rl K ρ' H' st'->Rs K ρ' H' σ' δ'->Q σ' H')->g v σ H Q
def tZ (K:Zfr) (g:sv) (f:List D->au->Dm au):Prop :=
 ∀ (ρ:List Addr) (σ:St) (H:Hp) (δ:au) (st:Store) (v:List V) (d:List D) (δ':au) (st':Store) (Q:St->Hp->Prop),Rl K ρ H st->Rs K ρ H σ δ->cJ K ρ H v d->f d δ st=some (δ',st') ->
  (∀ σ' H' ρ',Mn K ρ H ρ' H'->Rl K ρ' H' st'->Rs K ρ' H' σ' δ'->Q σ' H')->g v σ H Q
def hName (i:Nat):D->au->Dm au:=fun d δ st=>some (δ.set i (some d),st)
theorem aV (i:Nat):xA K (oG i) (hName i):=by
 intro ρ σ H δ st v d δ' st' Q l rs r e q
 cases e
 exact q _ H ρ .refl l (rs.set r)
def lh:List D->au->Dm au
 | [],δ,st=>some (δ,st)
 | _,_,_=>none
def cf (f:D->au->Dm au) (g:List D->au->Dm au):List D->au->Dm au
 | d :: ds,δ,st=>bnd (f d δ st) fun δ1 st1=>g ds δ1 st1
 | _,_,_=>none
theorem qQ:tZ K AJ lh:=by
 intro ρ σ H δ st v d δ' st' Q l rs r e q
 cases r with
 | nil=>cases e;exact ⟨rfl,q _ H ρ .refl l rs⟩
 | cons a b=>cases e
theorem lu {t:TG} {u:sv} {f:D->au->Dm au} {g:List D->au->Dm au} (hf:xA K t f) (hg:tZ K u g):tZ K (uz t u) (cf f g):=by
 intro ρ σ H δ st v d δ' st' Q l rs r e q
 cases r with
 | nil=>cases e
 | cons a b =>
  obtain ⟨δ1,st1,e1,e⟩:=d6 e
  exact ⟨_,_,rfl,hf ρ σ H δ st _ _ δ1 st1 _ l rs a e1 fun σ1 H1 ρ1 m1 l1 r1=>hg ρ1 σ1 H1 δ1 st1 _ _ δ' st' Q l1 r1 (b.mn m1) e fun σ2 H2 ρ2 m2 l2 r2=>q σ2 H2 ρ2 (m1.trans m2) l2 r2⟩
def kH (n:Nat) (f:List D->au->Dm au):D->au->Dm au
 | .tup ds,δ,st=>if ds.length=n then f ds δ st else none
 | _,_,_=>none
theorem qR {n:Nat} {t:sv} {f:List D->au->Dm au} (hf:tZ K t f):xA K (AK K n t) (kH n f):=by
 intro ρ σ H δ st v d δ' st' Q l rs r e q
 cases r <;> first | (cases e;done) | skip
 ·next s r =>
  simp only [kH] at e
  split at e
  ·next hl=>exact ⟨_,_,rfl,s,by rw [r.length];exact hl,hf ρ σ H δ st _ _ δ' st' Q l rs r e q⟩
  ·cases e
def hSub (fo fi:au->Dm D):D->au->Dm au:=fun d δ st=>bnd (fo δ st) fun o st1=>bnd (fi δ st1) fun i st2=>match o,i with
 | .ref r,.int k=>match own st2 r with
  | some xs=>match lW xs.length k with
   | some j=>some (δ,st2.set r (.lst (xs.set j d)))
   | none=>none
  | none=>none
 | _,_=>none
theorem qc {to ti:TE} {fo fi:au->Dm D} (ho:gf K to fo) (hi:gf K ti fi):xA K (L2.mS to ti uI) (hSub fo fi):=by
 intro ρ σ H δ st v d δ' st' Q l rs r e q
 obtain ⟨o,st1,e1,e⟩:=d6 e
 obtain ⟨i,st2,e2,e⟩:=d6 e
 refine ho ρ σ H δ st o st1 _ l rs e1 fun x H1 ρ1 m1 l1 r1=>hi ρ1 σ H1 δ st1 i st2 _ l1 (rs.mn m1) e2 fun y H2 ρ2 m2 l2 r2=>?_
 split at e
 ·split at e
  ·next xs hx =>
   split at e
   ·next j hj =>
    cases e
    cases r2
    cases r1 with
    | ref hr =>
     have hr2:=m2.r _ _ hr
     obtain ⟨vs,e3,r3⟩:=l2.obj _ _ _ hr2 (o8 hx)
     obtain ⟨l3,m3⟩:=l2.putL hr2 (o8 hx) (r3.set (r.mn (m1.trans m2)) j)
     exact ⟨_,vs,_,j,rfl,rfl,e3,by rw [r3.length];exact hj,q σ _ ρ2 ((m1.trans m2).trans m3) l3 (rs.mn ((m1.trans m2).trans m3))⟩
   ·cases e
  ·cases e
 ·cases e
def Go (K:Zfr) (ρ:List Addr) (H:Hp) (st':Store) (E:Ends):Fl->Prop
 | .nx δ=>∀ σ' H' ρ',Mn K ρ H ρ' H'->Rl K ρ' H' st'->Rs K ρ' H' σ' δ->E.nx σ' H'
 | .bk δ=>∀ σ' H' ρ',Mn K ρ H ρ' H'->Rl K ρ' H' st'->Rs K ρ' H' σ' δ->E.bk σ' H'
 | .ct δ=>∀ σ' H' ρ',Mn K ρ H ρ' H'->Rl K ρ' H' st'->Rs K ρ' H' σ' δ->E.ct σ' H'
 | .rt d=>∀ v H' ρ',Mn K ρ H ρ' H'->Rl K ρ' H' st'->Rp K ρ' H' v d->E.rt v H'
theorem Go.mn {ρ ρ1:List Addr} {H H1:Hp} {st':Store} {E:Ends} {fl:Fl} (g:Go K ρ H st' E fl) (m:Mn K ρ H ρ1 H1):Go K ρ1 H1 st' E fl:=by
 cases fl <;> exact fun v H' ρ' m' l r=>g v H' ρ' (m.trans m') l r
def ow (K:Zfr) (t:TS) (f:au->Dm Fl):Prop :=
 ∀ (ρ:List Addr) (σ:St) (H:Hp) (δ:au) (st:Store) (fl:Fl) (st':Store) (E:Ends),Rl K ρ H st->Rs K ρ H σ δ->f δ st=some (fl,st')->Go K ρ H st' E fl->t E σ H
def aQ:au->Dm Fl:=fun δ st=>some (.nx δ,st)
theorem gA:ow K ux aQ:=by
 intro ρ σ H δ st fl st' E l rs e g
 cases e
 exact g σ H ρ .refl l rs
def az (f g:au->Dm Fl):au->Dm Fl:=fun δ st=>bnd (f δ st) fun fl st1=>match fl with
 | .nx δ1=>g δ1 st1
 | x=>some (x,st1)
theorem a6 {t u:TS} {f g:au->Dm Fl} (hf:ow K t f) (hg:ow K u g):ow K (AF t u) (az f g):=by
 intro ρ σ H δ st fl st' E l rs e q
 obtain ⟨x,st1,e1,e⟩:=d6 e
 refine hf ρ σ H δ st x st1 _ l rs e1 ?_
 cases x with
 | nx δ1=>exact fun σ1 H1 ρ1 m1 l1 r1=>hg ρ1 σ1 H1 δ1 st1 fl st' E l1 r1 e (q.mn m1)
 | bk δ1=>cases e;exact q
 | ct δ1=>cases e;exact q
 | rt d=>cases e;exact q
theorem fF {c:TT} {t u:TS} {fc:au->Dm Bool} {f g:au->Dm Fl} (hc:p8 K c fc) (hf:ow K t f) (hg:ow K u g):ow K (AH c t u) (dJ fc f g):=by
 intro ρ σ H δ st fl st' E l rs e q
 obtain ⟨a,st1,e1,e⟩:=d6 e
 refine hc ρ σ H δ st _ _ _ l rs e1 fun x H1 ρ1 m1 l1 r1=>?_
 subst r1
 cases x with
 | true =>
  refine qr ?_
  rw [if_pos rfl] at e
  exact hf ρ1 σ H1 δ st1 fl st' E l1 (rs.mn m1) e (q.mn m1)
 | false =>
  refine qq ?_
  rw [if_neg Vo] at e
  exact hg ρ1 σ H1 δ st1 fl st' E l1 (rs.mn m1) e (q.mn m1)
def cg (f:au->Dm D):au->Dm Fl:=fun δ st=>bnd (f δ st) fun _ st1=>some (.nx δ,st1)
theorem m9 {t:TE} {f:au->Dm D} (hf:gf K t f):ow K (uy t) (cg f):=by
 intro ρ σ H δ st fl st' E l rs e q
 obtain ⟨a,st1,e1,e⟩:=d6 e
 cases e
 exact hf ρ σ H δ st a _ _ l rs e1 fun x H1 ρ1 m1 l1 r1=>q σ H1 ρ1 m1 l1 (rs.mn m1)
def bj (f:au->Dm D):au->Dm Fl:=fun δ st=>bnd (f δ st) fun d st1=>some (.rt d,st1)
theorem d3 {t:TE} {f:au->Dm D} (hf:gf K t f):ow K (AG t) (bj f):=by
 intro ρ σ H δ st fl st' E l rs e q
 obtain ⟨a,st1,e1,e⟩:=d6 e
 cases e
 exact hf ρ σ H δ st a _ _ l rs e1 fun x H1 ρ1 m1 l1 r1=>q x H1 ρ1 m1 l1 r1
def aK (f:au->Dm D) (h:D->au->Dm au):au->Dm Fl:=fun δ st=>bnd (f δ st) fun d st1=>bnd (h d δ st1) fun δ1 st2=>some (.nx δ1,st2)
theorem bN {t:TE} {g:TG} {f:au->Dm D} {h:D->au->Dm au} (hf:gf K t f) (hh:xA K g h):ow K (sZ t g) (aK f h):=by
 intro ρ σ H δ st fl st' E l rs e q
 obtain ⟨a,st1,e1,e⟩:=d6 e
 obtain ⟨δ1,st2,e2,e⟩:=d6 e
 cases e
 exact hf ρ σ H δ st a st1 _ l rs e1 fun x H1 ρ1 m1 l1 r1=>hh ρ1 σ H1 δ st1 x a δ1 _ _ l1 (rs.mn m1) r1 e2 fun σ2 H2 ρ2 m2 l2 r2=>q σ2 H2 ρ2 (m1.trans m2) l2 r2
def rS (i j:Nat) (fa:au->Dm (List D)):au->Dm Fl:=fun δ st=>bnd (fa δ st) fun as st1=>match as with
 | [a,b]=>some (.nx ((δ.set i (some a)).set j (some b)),st1)
 | _=>none
theorem LW {i j:Nat} {t:TA} {fa:au->Dm (List D)} (ha:qw K t fa):ow K (AL i j t) (rS i j fa):=by
 intro ρ σ H δ st fl st' E l rs e q
 obtain ⟨as,st1,e1,e⟩:=d6 e
 split at e
 ·cases e
  refine ha ρ σ H δ st _ _ _ l rs e1 fun x H1 ρ1 m1 l1 r1=>?_
  obtain ⟨v,w,rfl,r,r'⟩:=r1.two'
  exact ⟨v,w,rfl,q _ H1 ρ1 m1 l1 (((rs.mn m1).set r).set r')⟩
 ·cases e
def gh (c:au->Dm Bool) (b:au->Dm Fl):Nat->au->Dm Fl
 | 0,_,_=>none
 | n + 1,δ,st=>bnd (c δ st) fun t st1=>if t=true then bnd (b δ st1) fun fl st2=>match fl with
   | .nx δ2=>gh c b n δ2 st2
   | .ct δ2=>gh c b n δ2 st2
   | .bk δ2=>some (.nx δ2,st2)
   | .rt d=>some (.rt d,st2)
  else some (.nx δ,st1)
def fuel:Nat:=1000000
def jJ (c:au->Dm Bool) (b:au->Dm Fl):au->Dm Fl:=gh c b fuel
theorem zJ {tc:TT} {tb:TS} {c:au->Dm Bool} {b:au->Dm Fl} (hc:p8 K tc c) (hb:ow K tb b):ow K (qZ tc tb) (jJ c b):=by
 intro ρ σ H δ st fl st' E l rs e q
 refine ⟨fun m σ1 H1=>∃ ρ1 δ1 st1,Mn K ρ H ρ1 H1/\Rl K ρ1 H1 st1/\Rs K ρ1 H1 σ1 δ1/\gh c b m δ1 st1=some (fl,st'),⟨fuel,ρ,δ,st,.refl,l,rs,e⟩,?_⟩
 rintro m σ1 H1 ⟨ρ1,δ1,st1,m1,l1,vf,e1⟩
 cases m with
 | zero=>cases e1
 | succ m =>
  obtain ⟨t,st2,e2,e1⟩:=d6 e1
  refine hc ρ1 σ1 H1 δ1 st1 _ _ _ l1 vf e2 fun x H2 ρ2 m2 l2 r2=>?_
  subst r2
  cases x with
  | true =>
   refine qr ?_
   rw [if_pos rfl] at e1
   obtain ⟨f2,st3,e3,e1⟩:=d6 e1
   refine ⟨fun σ3 H3=>∃ m',m' < m + 1/\∃ ρ1 δ1 st1,Mn K ρ H ρ1 H3/\Rl K ρ1 H3 st1/\Rs K ρ1 H3 σ3 δ1/\gh c b m' δ1 st1=some (fl,st'),fun _ _ h=>h,hb ρ2 σ1 H2 δ1 st2 f2 st3 _ l2 (vf.mn m2) e3 ?_⟩
   cases f2 with
   | nx δ3=>exact fun σ3 H3 ρ3 m3 l3 r3=>⟨m,Wf m,ρ3,δ3,st3,(m1.trans m2).trans m3,l3,r3,e1⟩
   | ct δ3=>exact fun σ3 H3 ρ3 m3 l3 r3=>⟨m,Wf m,ρ3,δ3,st3,(m1.trans m2).trans m3,l3,r3,e1⟩
   | bk δ3=>cases e1;exact q.mn (m1.trans m2)
   | rt d=>cases e1;exact q.mn (m1.trans m2)
  | false =>
   refine qq ?_
   rw [if_neg Vo] at e1
   cases e1
   exact q.mn (m1.trans m2) σ1 H2 ρ2 .refl l2 (vf.mn m2)
inductive Src where
 | fix (ds:List D) | live (i:Nat) | Qn (i:Nat) | zl (i:Nat) (es:List D) | zr (ds:List D) (i:Nat)
def Src.at:Src->Nat->Store->Option (Option D)
 | .fix ds,i,_=>if i<=ds.length then some ds[i]? else none
 | .live r,i,st=>(items st r).map fun ds=>ds[i]?
 | .Qn r,i,st=>(items st r).bind fun ds=>if i<=ds.length then some (ds.mapIdx fun i d=>D.tup [.int (i:Int),d])[i]? else none
 | .zl r es,i,st=>(items st r).bind fun ds=>if i<=(List.zipWith (fun a b=>D.tup [a,b]) ds es).length then some (List.zipWith (fun a b=>D.tup [a,b]) ds es)[i]? else none
 | .zr ds r,i,st=>(items st r).bind fun es=>if i<=(List.zipWith (fun a b=>D.tup [a,b]) ds es).length then some (List.zipWith (fun a b=>D.tup [a,b]) ds es)[i]? else none
theorem zK {ds:List D} {i:Nat} {st:Store} {o:Option D} (h:Src.at (.fix ds) i st=some o):i<=ds.length/\ds[i]?=o:=by
 simp only [Src.at] at h
 split at h
 ·next hl=>exact ⟨hl,Vs h⟩
 ·cases h
def Ca (K:Zfr) (ρ:List Addr) (H:Hp) (J:It) (S:Src):Prop :=
 ∀ (ρ2:List Addr) (H2:Hp) (st2:Store) (i:Nat),Mn K ρ H ρ2 H2->Rl K ρ2 H2 st2 ->
  (S.at i st2=some none->J.stop i H2)/\∀ d,S.at i st2=some (some d)->J.go i H2/\∀ x H3,J.tf i H2 x H3->Mn K ρ2 H2 ρ2 H3/\Rl K ρ2 H3 st2/\Rp K ρ2 H3 x d
abbrev xB (K:Zfr) (t:TI) (f:au->Dm Src):Prop:=So K (Ca K) t f
def hV (S:Src) (g:D->au->Dm au) (b:au->Dm Fl):Nat->Nat->au->Dm Fl
 | 0,_,_,_=>none
 | n + 1,i,δ,st=>match S.at i st with
  | none=>none
  | some none=>some (.nx δ,st)
  | some (some d)=>bnd (g d δ st) fun δ1 st1=>bnd (b δ1 st1) fun fl st2=>match fl with
   | .nx δ2=>hV S g b n (i + 1) δ2 st2
   | .ct δ2=>hV S g b n (i + 1) δ2 st2
   | .bk δ2=>some (.nx δ2,st2)
   | .rt d=>some (.rt d,st2)
def c9 (fi:au->Dm Src) (g:D->au->Dm au) (b:au->Dm Fl):au->Dm Fl:=fun δ st=>bnd (fi δ st) fun S st1=>hV S g b fuel 0 δ st1
theorem lI {wi:TI} {tg:TG} {tb:TS} {fi:au->Dm Src} {g:D->au->Dm au} {b:au->Dm Fl} (hi:xB K wi fi) (hg:xA K tg g) (hb:ow K tb b):ow K (AU wi tg tb) (c9 fi g b):=by
 intro ρ σ H δ st fl st' E l rs e q
 obtain ⟨S,lj,e0,e⟩:=d6 e
 refine hi ρ σ H δ st S lj _ l rs e0 fun J H0 ρ0 m0 l0 ok=>?_
 refine ⟨fun i m σ1 H1=>∃ ρ1 δ1 st1,Mn K ρ0 H0 ρ1 H1/\Rl K ρ1 H1 st1/\Rs K ρ1 H1 σ1 δ1/\hV S g b m i δ1 st1=some (fl,st'),⟨fuel,ρ0,δ,lj,.refl,l0,rs.mn m0,e⟩,?_⟩
 rintro i m σ1 H1 ⟨ρ1,δ1,st1,m1,l1,vf,e1⟩
 cases m with
 | zero=>cases e1
 | succ m =>
  obtain ⟨hstop,hgo⟩:=ok ρ1 H1 st1 i m1 l1
  unfold hV at e1
  split at e1
  ·cases e1
  ·next hs=>cases e1;exact .inl ⟨hstop hs,q.mn (m0.trans m1) σ1 H1 ρ1 .refl l1 vf⟩
  ·next d hs =>
   obtain ⟨δ2,st2,e2,e1⟩:=d6 e1
   obtain ⟨f3,st3,e3,e1⟩:=d6 e1
   obtain ⟨go,tf⟩:=hgo d hs
   refine .inr ⟨go,fun σ3 H3=>∃ m',m' < m + 1/\∃ ρ1 δ1 st1,Mn K ρ0 H0 ρ1 H3/\Rl K ρ1 H3 st1/\Rs K ρ1 H3 σ3 δ1/\hV S g b m' (i + 1) δ1 st1=some (fl,st'),fun _ _ h=>h,fun x H2 hy=>?_⟩
   obtain ⟨m2,l2,r2⟩:=tf x H2 hy
   refine hg ρ1 σ1 H2 δ1 st1 x d δ2 st2 _ l2 (vf.mn m2) r2 e2 fun σ4 H4 ρ4 m4 l4 r4=>hb ρ4 σ4 H4 δ2 st2 f3 st3 _ l4 r4 e3 ?_
   have m5:=((m1.trans m2).trans m4)
   cases f3 with
   | nx δ3=>exact fun σ5 H5 ρ5 m6 l5 r5=>⟨m,Wf m,ρ5,δ3,st3,m5.trans m6,l5,r5,e1⟩
   | ct δ3=>exact fun σ5 H5 ρ5 m6 l5 r5=>⟨m,Wf m,ρ5,δ3,st3,m5.trans m6,l5,r5,e1⟩
   | bk δ3=>cases e1;exact q.mn (m0.trans m5)
   | rt d=>cases e1;exact q.mn (m0.trans m5)
def c4 (fa:au->Dm D):au->Dm Src:=fun δ st=>bnd (fa δ st) fun a st1=>match a with
 | .tup ds=>some (.fix ds,st1)
 | _=>none
theorem oy {t:TE} {fa:au->Dm D} (ha:gf K t fa):xB K (AQ K t) (c4 fa):=by
 intro ρ σ H δ st S st' Q l rs e q
 obtain ⟨a,st1,e1,e⟩:=d6 e
 cases a <;> simp at e
 obtain ⟨rfl,rfl⟩:=e
 refine ha ρ σ H δ st _ _ _ l rs e1 fun x H1 ρ1 m1 l1 r1=>?_
 cases r1 with
 | tup s r =>
  refine ⟨_,rfl,⟨_,s⟩,q _ H1 ρ1 m1 l1 fun ρ2 H2 st2 i m2 l2=>⟨fun h=>?_,fun d h=>?_⟩⟩
  ·exact ⟨_,m2.t _ _ s,by rw [r.length];exact V1.mp (zK h).2⟩
  ·obtain ⟨v,hv,rv⟩:=r.got (zK h).2
   refine ⟨⟨_,v,m2.t _ _ s,hv⟩,fun x H3 y=>?_⟩
   obtain ⟨rfl,hx⟩:=y
   have:=hx _ (m2.t _ _ s)
   rw [hv] at this
   cases this
   exact ⟨.refl,l2,rv.mn m2⟩
def jK (fa:au->Dm D):au->Dm Src:=fun δ st=>bnd (fa δ st) fun a st1=>match a with
 | .ref i=>match items st1 i with
  | some _=>some (.live i,st1)
  | none=>none
 | _=>none
theorem Cb {t:TE} {fa:au->Dm D} (ha:gf K t fa):xB K (q5 K t) (jK fa):=by
 intro ρ σ H δ st S st' Q l rs e q
 obtain ⟨a,st1,e1,e⟩:=d6 e
 split at e
 ·next k =>
  split at e
  ·next ds hd =>
   cases e
   refine ha ρ σ H δ st _ _ _ l rs e1 fun x H1 ρ1 m1 l1 r1=>?_
   cases r1 with
   | ref hi =>
    obtain ⟨vs,s,r⟩:=l1.items hi hd
    refine ⟨_,rfl,⟨_,s⟩,q _ H1 ρ1 m1 l1 fun ρ2 H2 st2 i m2 l2=>⟨fun h=>?_,fun d h=>?_⟩⟩
    ·obtain ⟨Qo,hd2,h⟩:=VR.mp h
     obtain ⟨LX,s2,r2⟩:=l2.items (m2.r _ _ hi) hd2
     exact ⟨LX,s2,by rw [r2.length];exact V1.mp h⟩
    ·obtain ⟨Qo,hd2,h⟩:=VR.mp h
     obtain ⟨LX,s2,r2⟩:=l2.items (m2.r _ _ hi) hd2
     obtain ⟨v,hv,rv⟩:=r2.got h
     refine ⟨⟨_,v,s2,hv⟩,fun x H3 y=>?_⟩
     obtain ⟨rfl,hx⟩:=y
     have:=hx _ s2
     rw [hv] at this
     cases this
     exact ⟨.refl,l2,rv⟩
  ·cases e
 ·cases e
def ck (fa:au->Dm (List D)):au->Dm Src:=fun δ st=>bnd (fa δ st) fun as st1=>match as with
 | [.int j]=>if decide (-4611686018427387904<=j/\j < 4611686018427387904)=true then some (.fix (aJ 0 j.toNat),st1) else none
 | _=>none
def nV (fa:au->Dm (List D)):au->Dm Src:=fun δ st=>bnd (fa δ st) fun as st1=>match as with
 | [.int i,.int j]=>if decide ((-4611686018427387904<=i/\i < 4611686018427387904)/\-4611686018427387904<=j/\j < 4611686018427387904)=true then some (.fix (aJ i (j - i).toNat),st1) else none
 | _=>none
theorem gH (lo:Int) (n:Nat):(aJ lo n).length=n:=by simp [aJ]
theorem xC {lo:Int} {n k:Nat} (h:k < n):(aJ lo n)[k]?=some (.int (lo + k)):=by simp [aJ,h]
theorem LY {ρ:List Addr} {H:Hp} (lo:Int) (n:Nat):Ca K ρ H (AO lo n) (.fix (aJ lo n)):=by
 intro ρ2 H2 st2 i m2 l2
 refine ⟨fun h=>?_,fun d h=>?_⟩
 ·have:=V1.mp (zK h).2
  rw [gH] at this
  exact this
 ·have h:=(zK h).2
  have hl:=(Ve.mp h).1
  rw [gH] at hl
  rw [xC hl] at h
  cases h
  refine ⟨hl,fun x H3 y=>?_⟩
  obtain ⟨rfl,rfl⟩:=y
  exact ⟨.refl,l2,.int _⟩
theorem oz {t:TA} {fa:au->Dm (List D)} (ha:qw K t fa):xB K (uA t) (ck fa):=by
 intro ρ σ H δ st S st' Q l rs e q
 obtain ⟨as,st1,e1,e⟩:=d6 e
 split at e
 ·split at e
  ·next ok =>
   cases e
   have ok:=of_decide_eq_true ok
   refine ha ρ σ H δ st _ _ _ l rs e1 fun x H1 ρ1 m1 l1 r1=>?_
   obtain ⟨v,rfl,r⟩:=r1.one'
   cases r
   exact ⟨_,rfl,by omega,by omega,q _ H1 ρ1 m1 l1 (LY 0 _)⟩
  ·cases e
 ·cases e
theorem Qp {t:TA} {fa:au->Dm (List D)} (ha:qw K t fa):xB K (uB t) (nV fa):=by
 intro ρ σ H δ st S st' Q l rs e q
 obtain ⟨as,st1,e1,e⟩:=d6 e
 split at e
 ·split at e
  ·next ok =>
   cases e
   have ok:=of_decide_eq_true ok
   refine ha ρ σ H δ st _ _ _ l rs e1 fun x H1 ρ1 m1 l1 r1=>?_
   obtain ⟨v,w,rfl,r,r'⟩:=r1.two'
   cases r
   cases r'
   exact ⟨_,_,rfl,by omega,q _ H1 ρ1 m1 l1 (LY _ _)⟩
  ·cases e
 ·cases e
def fu (ds:List D):List D:=ds.mapIdx fun i d=>.tup [.int (i:Int),d]
theorem Cc (ds:List D):(fu ds).length=ds.length:=by simp [fu]
theorem Ip {ds:List D} {i:Nat} {x:D} (h:(fu ds)[i]?=some x):∃ d,ds[i]?=some d/\x=.tup [.int (i:Int),d]:=by
 unfold fu at h
 rw [List.getElem?_mapIdx] at h
 obtain ⟨d,h1,h2⟩:=VR.mp h
 exact ⟨d,h1,h2.symm⟩
def kI (fa:au->Dm (List D)):au->Dm Src:=fun δ st=>bnd (fa δ st) fun as st1=>match as with
 | [.tup ds]=>some (.fix (fu ds),st1)
 | _=>none
theorem E1 {t:TA} {fa:au->Dm (List D)} (ha:qw K t fa):xB K (uS K t) (kI fa):=by
 intro ρ σ H δ st S st' Q l rs e q
 obtain ⟨as,st1,e1,e⟩:=d6 e
 split at e
 ·cases e
  refine ha ρ σ H δ st _ _ _ l rs e1 fun x H1 ρ1 m1 l1 r1=>?_
  obtain ⟨v,rfl,r⟩:=r1.one'
  cases r with
  | tup s r =>
   refine ⟨_,rfl,⟨_,s⟩,q _ H1 ρ1 m1 l1 fun ρ2 H2 st2 i m2 l2=>⟨fun h=>?_,fun d h=>?_⟩⟩
   ·obtain ⟨h1,h2⟩:=zK h
    have h2:=V1.mp h2
    rw [Cc] at h1 h2
    exact ⟨_,m2.t _ _ s,by rw [r.length];omega⟩
   ·obtain ⟨h1,h2⟩:=zK h
    obtain ⟨d',hd',rfl⟩:=Ip h2
    obtain ⟨v,hv,rv⟩:=r.got hd'
    refine ⟨⟨_,v,m2.t _ _ s,hv⟩,fun x H3 y=>?_⟩
    obtain ⟨p,z,rfl,hp,rfl,hx⟩:=y
    have:=hx _ (m2.t _ _ s)
    rw [hv] at this
    cases this
    have m3:Mn K ρ2 H2 ρ2 (upd H2 p (.tup [.int (i:Int),v])):=Mn.same (jA.up hp)
    exact ⟨m3,l2.same (jA.up hp),.tup (ft.of qI) (.cons (.int _) (.one ((rv.mn m2).mn m3)))⟩
 ·cases e
def iT (S:Src) (g:D->au->Dm au) (tc:au->Dm Bool) (te:au->Dm D):Nat->Nat->List D->au->Dm (List D)
 | 0,_,_,_,_=>none
 | n + 1,i,ys,δ,st=>if lim ys.length=true then match S.at i st with
  | none=>none
  | some none=>some (ys,st)
  | some (some d)=>bnd (g d δ st) fun δ1 st1=>bnd (tc δ1 st1) fun t st2=>if t=true then bnd (te δ1 st2) fun y st3=>iT S g tc te n (i + 1) (ys ++ [y]) δ1 st3 else iT S g tc te n (i + 1) ys δ1 st2
  else none
def oV (n:Nat) (js:List Nat) (δ:au):au:=List.replicate n none ++ js.map fun j=>δ.getD j none
def cD (fi:au->Dm Src) (n:Nat) (js:List Nat) (g:D->au->Dm au) (tc:au->Dm Bool) (te:au->Dm D):au->Dm D:=fun δ st=>bnd (fi δ st) fun S st1=>bnd (iT S g tc te fuel 0 [] (oV n js δ) st1) fun ys st2=>some (.ref st2.length,st2 ++ [.lst ys])
theorem Rs.comp {ρ:List Addr} {H:Hp} {σ:St} {δ:au} (h:Rs K ρ H σ δ) (n:Nat) (js:List Nat):Rs K ρ H (jF n js σ) (oV n js δ):=by
 unfold jF oV
 refine ⟨by simp,fun i d hd=>?_⟩
 by_cases hi:i < n
 ·rw [Vt (by simpa using hi),WE,if_pos hi] at hd
  cases hd
 ·rw [VA (by simpa using Xa hi),Vm] at hd
  rw [VA (by simpa using Xa hi),Vm]
  simp only [WL] at hd ⊢
  cases hj:js[i - n]? with
  | none=>rw [hj] at hd;cases hd
  | some j =>
   rw [hj] at hd
   have hd:δ.getD j none=some d:=Vs hd
   rw [Vv] at hd
   have hd':δ[j]?=some (some d):=by
    cases hx:δ[j]? with
    | none=>rw [hx] at hd;cases hd
    | some y=>rw [hx] at hd;exact congrArg some hd
   obtain ⟨v,hv,r⟩:=h.2 j d hd'
   exact ⟨v,by show some (σ.getD j none)=_;rw [Vv,hv];rfl,r⟩
theorem nW {wi:TI} {tg:TG} {tc:TT} {te:TE} {fi:au->Dm Src} {n:Nat} {js:List Nat} {g:D->au->Dm au} {c:au->Dm Bool} {f:au->Dm D} (hi:xB K wi fi) (hg:xA K tg g) (hc:p8 K tc c) (hf:gf K te f):gf K (rB wi n js tg tc te) (cD fi n js g c f):=by
 intro ρ σ H δ st b st' Q l rs e q
 obtain ⟨S,lj,e0,e⟩:=d6 e
 obtain ⟨zs,oW,e9,e⟩:=d6 e
 cases e
 refine hi ρ σ H δ st S lj _ l rs e0 fun J H0 ρ0 m0 l0 ok=>?_
 refine ⟨fun i m ys σ1 H1=>∃ ρ1 δ1 st1 ws,Mn K ρ0 H0 ρ1 H1/\Rl K ρ1 H1 st1/\Rs K ρ1 H1 σ1 δ1/\cJ K ρ1 H1 ys ws/\iT S g c f m i ws δ1 st1=some (zs,oW),⟨fuel,ρ0,_,lj,[],.refl,l0,(rs.mn m0).comp n js,.nil,e9⟩,?_⟩
 rintro i m ys σ1 H1 ⟨ρ1,δ1,st1,ws,m1,l1,vf,E2,e1⟩
 cases m with
 | zero=>cases e1
 | succ m =>
  obtain ⟨hstop,hgo⟩:=ok ρ1 H1 st1 i m1 l1
  unfold iT at e1
  split at e1
  ·next hl =>
   refine ⟨by rw [E2.length];exact EO hl,?_⟩
   split at e1
   ·cases e1
   ·next hs =>
    cases e1
    exact .inl ⟨hstop hs,fun p hp=>q _ _ _ ((m0.trans m1).trans (Mn.new hp)) (l1.newL hp E2) (.ref (newR l1))⟩
   ·next d hs =>
    obtain ⟨δ2,st2,e2,e1⟩:=d6 e1
    obtain ⟨t,st3,e3,e1⟩:=d6 e1
    obtain ⟨go,tf⟩:=hgo d hs
    refine .inr ⟨go,fun x H2 hy=>?_⟩
    obtain ⟨m2,l2,r2⟩:=tf x H2 hy
    refine hg ρ1 σ1 H2 δ1 st1 x d δ2 st2 _ l2 (vf.mn m2) r2 e2 fun σ4 H4 ρ4 m4 l4 r4=>hc ρ4 σ4 H4 δ2 st2 t st3 _ l4 r4 e3 fun t' H5 ρ5 m5 l5 r5=>?_
    subst r5
    have m6:=(((m1.trans m2).trans m4).trans m5)
    cases t' with
    | true =>
     refine qr ?_
     rw [if_pos rfl] at e1
     obtain ⟨y,Iq,e6,e1⟩:=d6 e1
     exact hf ρ5 σ4 H5 δ2 st3 y Iq _ l5 (r4.mn m5) e6 fun v H7 ρ7 m7 l7 r7=>⟨m,Wf m,ρ7,δ2,Iq,ws ++ [y],m6.trans m7,l7,r4.mn (m5.trans m7),(E2.mn (((m2.trans m4).trans m5).trans m7)).append (.one r7),e1⟩
    | false =>
     refine qq ?_
     rw [if_neg Vo] at e1
     exact ⟨m,Wf m,ρ5,δ2,st3,ws,m6,l5,r4.mn m5,E2.mn ((m2.trans m4).trans m5),e1⟩
  ·cases e1
def dc:au->Dm Bool:=fun _ st=>some (true,st)
def gI (n:Nat) (b:au->Dm Fl):List D->Dm D:=fun ds st=>bnd (b (ds.map some ++ List.replicate (n - ds.length) none) st) fun fl st1=>match fl with
 | .rt d=>some (d,st1)
 | .nx _=>some (.non,st1)
 | _=>none
theorem Rs.start {ρ:List Addr} {H:Hp} {vs:List V} {ds:List D} (r:cJ K ρ H vs ds) (N:List Str):Rs K ρ H (start N vs) (ds.map some ++ List.replicate (N.length - ds.length) none):=by
 unfold L2.start
 rw [r.length]
 refine ⟨by simp [r.length],fun i d hd=>?_⟩
 by_cases hi:i < ds.length
 ·rw [Vt (by simpa using hi),Vm] at hd
  rw [Vt (by rw [Vd,r.length];exact hi),Vm]
  cases hx:ds[i]? with
  | none=>rw [hx] at hd;cases hd
  | some y =>
   rw [hx] at hd
   cases hd
   obtain ⟨v,hv,rv⟩:=r.got hx
   exact ⟨v,by rw [hv];rfl,rv⟩
 ·rw [VA (by simpa using Xa hi),WE] at hd
  split at hd <;> cases hd
theorem iF {N:List Str} {k n:Nat} {t:TS} {b:au->Dm Fl} {vs:List V} {H:Hp} {Q:VK} {E:XK} (hb:ow K t b) (hn:N.length=n) (h:bM K k (gI n b) vs H Q E):t { nx:=fun _ H'=>Q .non H',rt:=Q } (start N vs) H:=by
 obtain ⟨hk,ρ,st,ds,d,st',l,r,e,q⟩:=h
 subst hn
 obtain ⟨fl,st1,e1,e⟩:=d6 e
 refine hb ρ _ H _ st fl st1 _ l (Rs.start r N) e1 ?_
 cases fl with
 | rt v=>cases e;exact q
 | nx δ=>cases e;exact fun σ' H' ρ' m l' r'=>q .non H' ρ' m l' .non
 | bk δ=>cases e
 | ct δ=>cases e
end
section
variable {X:Cx} {K:Zfr}
theorem LZ {N:List Str} {rT:Scope} {cells:List (Str×Addr)} {C:Addr} {fp:List Addr} {s:Shared} {H:Hp} {rV:Scope} {own fr:List Str} (h:rA (rq rT X.env.scope) rV own fr):rA (aS X N rT cells C fp s H).env.scope rV own fr:=h
theorem o9:p8 K (fun _ H Q=>Q true H) dc:=by
 intro ρ σ H δ st b st' Q l rs e q
 cases e
 exact q _ H ρ .refl l rfl
end
def vg (K:Zfr):Sp:=fun vs H Q _=>∃ (a:Addr) (ns:List Int),vs=[.ref a]/\Bl K H a (ns.map V.int)/\ns.length<=63/\∀ H',Q (.bl true) H'
theorem xD {P:Program} {w:World} {K:Zfr} {mg:Str->Option Value} {base:Heap} {k:Nat} {f:Addr} {fd:FuncData} {ps:List Str} {F:List D->Dm D} (G:aI P w K mg base bH k f fd ps (bM K 1 F))
  (h:∀ ns:List Int,ns.length<=63->∃ st',F [.ref 0] [.oO (ns.map D.int)]=some (.bl true,st')):aI P w K mg base bH k f fd ps (vg K):=by
 refine G.imp fun vs H Q E hs=>?_
 obtain ⟨a,ns,rfl,hS,hn,q⟩:=hs
 obtain ⟨st',e⟩:=h ns hn
 have one:∀ i (b:Addr),([a]:List Addr)[i]?=some b->i=0/\b=a:=fun i b h=>by
  cases i with
  | zero=>exact ⟨rfl,(Vs h).symm⟩
  | succ i=>simp at h
 refine ⟨rfl,[a],[.oO (ns.map D.int)],[.ref 0],.bl true,st',⟨rfl,fun i j b o o' h1 h2 _ _ _ _=>by rw [(one i b h1).1,(one j b h2).1],fun i b o h1 h2=>?_⟩,.one (.ref rfl),e,fun v H' ρ' m l r=>by cases r;exact q H'⟩
 obtain ⟨rfl,rfl⟩:=one i b h1
 cases (Vs h2)
 exact ⟨ns.map V.int,hS,cJ.ints ns⟩
def Wp {α:Type} (m:Option (α×Store)) (Q:α->Store->Prop):Prop:=∃ a st,m=some (a,st)/\Q a st
section
variable {α β:Type} {Q Q':α->Store->Prop} {st:Store} {δ:au}
theorem a7 {m:Option (α×Store)} (h:Wp m Q) (hq:∀ a st,Q a st->Q' a st):Wp m Q':=let ⟨a,st,e,q⟩:=h;⟨a,st,e,hq a st q⟩
theorem bK {a:α}:Wp (some (a,st)) Q↔Q a st:=⟨fun ⟨_,_,e,q⟩=>by cases e;exact q,fun q=>⟨a,st,rfl,q⟩⟩
theorem gC:Wp (none:Option (α×Store)) Q↔False:=⟨fun ⟨_,_,e,_⟩=>(by cases e),False.elim⟩
theorem dO {R:β->Store->Prop} {m:Option (α×Store)} {k:α->Dm β}:Wp (bnd m k) R↔Wp m fun a st1=>Wp (k a st1) R:=by
 cases m with
 | none=>exact ⟨fun ⟨_,_,e,_⟩=>(by cases e),fun ⟨_,_,e,_⟩=>(by cases e)⟩
 | some p=>exact ⟨fun h=>⟨p.1,p.2,rfl,h⟩,fun ⟨a,s,e,h⟩=>by cases e;exact h⟩
theorem nE {c:Prop} [Decidable c] {m n:Option (α×Store)}:Wp (if c then m else n) Q↔if c then Wp m Q else Wp n Q:=by split <;> exact Iff.rfl
end
section
variable {st:Store} {δ:au} {Q:D->Store->Prop}
theorem xE {i:Nat}:Wp (ag i δ st) Q↔∃ d,δ[i]?=some (some d)/\Q d st:=by
 unfold ag
 split
 ·next d hd=>rw [bK];exact ⟨fun h=>⟨d,hd,h⟩,fun ⟨e,he,h⟩=>by rw [hd] at he;cases he;exact h⟩
 ·next h=>rw [gC];exact ⟨False.elim,fun ⟨e,he,_⟩=>h e he⟩
theorem Ir {d:D}:Wp (fC d δ st) Q↔Q d st:=bK
theorem Cd {g:D->D->Dm D} {fa fb:au->Dm D}:Wp (aD g fa fb δ st) Q↔Wp (fa δ st) fun a st1=>Wp (fb δ st1) fun b st2=>Wp (g a b st2) Q:=by
 unfold aD;rw [dO];simp only [dO]
theorem Ce {g:D->Dm D} {fa:au->Dm D}:Wp (tT g fa δ st) Q↔Wp (fa δ st) fun a st1=>Wp (g a st1) Q:=dO
theorem Cf {g:List D->Dm D} {fa:au->Dm (List D)}:Wp (aM g fa δ st) Q↔Wp (fa δ st) fun a st1=>Wp (g a st1) Q:=dO
theorem xF {R:List D->Store->Prop}:Wp (ah δ st) R↔R [] st:=bK
theorem Qq {R:List D->Store->Prop} {fa:au->Dm D} {fr:au->Dm (List D)}:Wp (ae fa fr δ st) R↔Wp (fa δ st) fun a st1=>Wp (fr δ st1) fun r st2=>R (a :: r) st2:=by
 unfold ae;rw [dO];simp only [dO,bK]
theorem xG {fa:au->Dm (List D)}:Wp (bD fa δ st) Q↔Wp (fa δ st) fun as st1=>lim as.length=true/\Q (.tup as) st1:=by
 unfold bD;rw [dO];simp only [nE,bK,gC]
 constructor <;> exact fun h=>a7 h fun a s h=>by first | (split at h;exact ⟨by assumption,h⟩;exact h.elim) | (rw [if_pos h.1];exact h.2)
theorem xH {fa:au->Dm (List D)}:Wp (cM fa δ st) Q↔Wp (fa δ st) fun as st1=>lim as.length=true/\Q (.ref st1.length) (st1 ++ [.lst as]):=by
 unfold cM;rw [dO];simp only [nE,bK,gC]
 constructor <;> exact fun h=>a7 h fun a s h=>by first | (split at h;exact ⟨by assumption,h⟩;exact h.elim) | (rw [if_pos h.1];exact h.2)
theorem Qr {R:Bool->Store->Prop} {fa:au->Dm D}:Wp (aA fa δ st) R↔Wp (fa δ st) fun a st1=>∃ b,a=.bl b/\R b st1:=by
 unfold aA;rw [dO]
 constructor <;> refine fun h=>a7 h fun a s h=>?_
 ·cases a <;> simp only [bK,gC] at h
  exact ⟨_,rfl,h⟩
 ·obtain ⟨b,rfl,h⟩:=h
  exact bK.mpr h
theorem xI {R:Bool->Store->Prop} {fa:au->Dm Bool}:Wp (oP fa δ st) R↔Wp (fa δ st) fun a st1=>R (!a) st1:=by
 unfold oP;rw [dO];simp only [bK]
theorem xJ {R:Bool->Store->Prop} {fa fb:au->Dm Bool}:Wp (oQ fa fb δ st) R↔Wp (fa δ st) fun a st1=>if a=true then Wp (fb δ st1) R else R false st1:=by
 unfold oQ;rw [dO];simp only [nE,bK]
theorem Ci {R:Bool->Store->Prop} {fa fb:au->Dm Bool}:Wp (qy fa fb δ st) R↔Wp (fa δ st) fun a st1=>if a=true then R true st1 else Wp (fb δ st1) R:=by
 unfold qy;rw [dO];simp only [nE,bK]
theorem vh {α:Type} {R:α->Store->Prop} {c:au->Dm Bool} {fa fb:au->Dm α}:Wp (dJ c fa fb δ st) R↔Wp (c δ st) fun a st1=>if a=true then Wp (fa δ st1) R else Wp (fb δ st1) R:=by
 unfold dJ;rw [dO];simp only [nE]
theorem Iu {fa fb:au->Dm D}:Wp (nC fa fb δ st) Q↔Wp (aA fa δ st) fun a st1=>if a=true then Wp (fb δ st1) Q else Q (.bl false) st1:=by
 unfold nC;rw [dO];simp only [nE,bK]
theorem xK {fa fb:au->Dm D}:Wp (B4 fa fb δ st) Q↔Wp (aA fa δ st) fun a st1=>if a=true then Q (.bl true) st1 else Wp (fb δ st1) Q:=by
 unfold B4;rw [dO];simp only [nE,bK]
theorem Qs {fa:au->Dm D}:Wp (u7 fa δ st) Q↔Wp (aA fa δ st) fun a st1=>Q (.bl (!a)) st1:=by
 unfold u7;rw [dO];simp only [bK]
theorem Qu {R:Option Int->Store->Prop}:Wp (j5 δ st) R↔R none st:=bK
theorem Qv {R:Option Int->Store->Prop} {fa:au->Dm D}:Wp (mD fa δ st) R↔Wp (fa δ st) fun a st1=>∃ i,a=.int i/\R (some i) st1:=by
 unfold mD;rw [dO]
 constructor <;> refine fun h=>a7 h fun a s h=>?_
 ·cases a <;> simp only [bK,gC] at h
  exact ⟨_,rfl,h⟩
 ·obtain ⟨b,rfl,h⟩:=h
  exact bK.mpr h
theorem Cj {g:D->Option Int->Option Int->Dm D} {fa:au->Dm D} {fl fh:au->Dm (Option Int)}:Wp (xn g fa fl fh δ st) Q↔Wp (fa δ st) fun a st1=>Wp (fl δ st1) fun lo st2=>Wp (fh δ st2) fun hi st3=>Wp (g a lo hi st3) Q:=by
 unfold xn;rw [dO];simp only [dO]
theorem Ck {T:String} {g:D->List D->Dm D} {fo:au->Dm D} {fa:au->Dm (List D)}:Wp (iw T g fo fa δ st) Q↔Wp (fo δ st) fun o st1=>sN T st1 o=true/\Wp (fa δ st1) fun as st2=>Wp (g o as st2) Q:=by
 unfold iw;rw [dO];simp only [nE,dO,gC]
 constructor <;> exact fun h=>a7 h fun a s h=>by first | (split at h;exact ⟨by assumption,h⟩;exact h.elim) | (rw [if_pos h.1];exact h.2)
variable {i j:Int} {ds es:List D} {k:Nat}
theorem xM:Wp (gg (.int i) (.int j) st) Q↔Q (.int (i + j)) st:=bK
theorem xN:Wp (mS (.int i) (.int j) st) Q↔Q (.int (i - j)) st:=bK
theorem Cm:Wp (qO (.int i) (.int j) st) Q↔Q (.bl (decide (i < j))) st:=bK
theorem Cn:Wp (Ik (.int i) (.int j) st) Q↔Q (.bl (decide (i<=j))) st:=bK
theorem Cp:Wp (va (.int i) (.int j) st) Q↔Q (.bl (decide (j < i))) st:=bK
theorem Cq:Wp (B5 (.int i) (.int j) st) Q↔Q (.bl (decide (j<=i))) st:=bK
theorem xO:Wp (mY (.int i) st) Q↔Q (.int (-i)) st:=bK
theorem E3 {c:Int->Int->Bool} {h:Int->Int->D}:Wp (xo c h (.int i) (.int j) st) Q↔c i j=true/\Q (h i j) st:=by
 show Wp (if c i j=true then some (h i j,st) else none) Q↔_
 rw [nE,bK,gC]
 split
 ·next h=>exact ⟨fun q=>⟨h,q⟩,fun q=>q.2⟩
 ·next h=>exact ⟨False.elim,fun q=>h q.1⟩
theorem xP:Wp (lY (.int i) (.int j) st) Q↔((-18446744073709551616 < i/\i < 18446744073709551616)\/(-18446744073709551616 < j/\j < 18446744073709551616))/\Q (.int (i * j)) st:=by
 unfold lY;rw [E3,Bool.or_eq_true,decide_eq_true_eq,decide_eq_true_eq]
theorem Qw:Wp (oR (.int i) (.int j) st) Q↔(0 < j/\j < 1073741824)/\Q (.int (i / j)) st:=by unfold oR;rw [E3,decide_eq_true_eq]
theorem xQ:Wp (jH (.int i) (.int j) st) Q↔0 < j/\Q (.int (i % j)) st:=by unfold jH;rw [E3,decide_eq_true_eq]
theorem xR:Wp (rQ (.int i) (.int j) st) Q↔(0<=j/\j<=1000000/\i.natAbs < 18446744073709551616)/\Q (.int (i ^ j.toNat)) st:=by unfold rQ;rw [E3,decide_eq_true_eq]
theorem xS {neg:Bool}:Wp (iO neg (.int i) (.int j) st) Q↔Q (.bl (if neg then !decide (i=j) else decide (i=j))) st:=by
 have e:decide (V.int i=V.int j)=decide (i=j):=by
  by_cases h:i=j
  ·subst h;simp
  ·simp [h]
 show Wp (if nL (V.int i) (V.int j)=true then some (D.bl (if neg then !decide (V.int i=V.int j) else decide (V.int i=V.int j)),st) else none) Q↔_
 rw [if_pos (show nL _ _=true from rfl),bK,e]
theorem xT {neg:Bool} {x y:Str}:Wp (iO neg (.str x) (.str y) st) Q↔Q (.bl (if neg then !decide (x=y) else decide (x=y))) st:=by
 have e:decide (V.str x=V.str y)=decide (x=y):=by
  by_cases h:x=y
  ·subst h;simp
  ·simp [h]
 show Wp (if nL (V.str x) (V.str y)=true then some (D.bl (if neg then !decide (V.str x=V.str y) else decide (V.str x=V.str y)),st) else none) Q↔_
 rw [if_pos (show nL _ _=true from rfl),bK,e]
theorem xU:Wp (a5 (.tup ds) (.int i) st) Q↔∃ d,d5 ds i=some d/\Q d st:=by
 show Wp (match d5 ds i with | some d=>some (d,st) | none=>none) Q↔_
 cases d5 ds i with
 | none=>rw [gC];exact ⟨False.elim,fun ⟨_,e,_⟩=>by cases e⟩
 | some d=>rw [bK];exact ⟨fun q=>⟨d,rfl,q⟩,fun ⟨_,e,q⟩=>by cases e;exact q⟩
theorem xV:Wp (bG (.ref k) (.int i) st) Q↔∃ ds d,items st k=some ds/\d5 ds i=some d/\Q d st:=by
 show Wp (match items st k with | some ds=>(match d5 ds i with | some d=>some (d,st) | none=>none) | none=>none) Q↔_
 cases items st k with
 | none=>rw [gC];exact ⟨False.elim,fun ⟨_,_,e,_⟩=>by cases e⟩
 | some ds =>
  show Wp (match d5 ds i with | some d=>some (d,st) | none=>none) Q↔_
  cases h:d5 ds i with
  | none=>rw [gC];exact ⟨False.elim,fun ⟨_,_,e,e',_⟩=>by cases e;rw [h] at e';cases e'⟩
  | some d=>rw [bK];exact ⟨fun q=>⟨ds,d,rfl,h,q⟩,fun ⟨_,_,e,e',q⟩=>by cases e;rw [h] at e';cases e';exact q⟩
theorem xW {lo hi:Option Int}:Wp (xt (.tup ds) lo hi st) Q↔Q (.tup (cutD ds lo hi)) st:=bK
theorem xX {lo hi:Option Int}:Wp (qB (.ref k) lo hi st) Q↔∃ ds,items st k=some ds/\Q (.ref st.length) (st ++ [.lst (cutD ds lo hi)]):=by
 show Wp (match items st k with | some ds=>some (D.ref st.length,st ++ [O.lst (cutD ds lo hi)]) | none=>none) Q↔_
 cases items st k with
 | none=>rw [gC];exact ⟨False.elim,fun ⟨_,e,_⟩=>by cases e⟩
 | some ds=>rw [bK];exact ⟨fun q=>⟨ds,rfl,q⟩,fun ⟨_,e,q⟩=>by cases e;exact q⟩
theorem Qx:Wp (jI (.tup ds) (.tup es) st) Q↔lim (ds.length + es.length)=true/\Q (.tup (ds ++ es)) st:=by
 show Wp (if lim (ds.length + es.length)=true then some (D.tup (ds ++ es),st) else none) Q↔_
 rw [nE,bK,gC]
 split
 ·next h=>exact ⟨fun q=>⟨h,q⟩,fun q=>q.2⟩
 ·next h=>exact ⟨False.elim,fun q=>h q.1⟩
theorem xY {a b:Nat}:Wp (mZ (.ref a) (.ref b) st) Q↔∃ xs ys,own st a=some xs/\own st b=some ys/\lim (xs.length + ys.length)=true/\Q (.ref st.length) (st ++ [.lst (xs ++ ys)]):=by
 show Wp (match own st a,own st b with | some xs,some ys=>if lim (xs.length + ys.length)=true then some (D.ref st.length,st ++ [O.lst (xs ++ ys)]) else none | _,_=>none) Q↔_
 cases ha:own st a <;> cases hb:own st b
 ·simp only [gC];exact ⟨False.elim,fun ⟨_,_,e,_⟩=>by cases e⟩
 ·simp only [gC];exact ⟨False.elim,fun ⟨_,_,e,_⟩=>by cases e⟩
 ·simp only [gC];exact ⟨False.elim,fun ⟨_,_,_,e,_⟩=>by cases e⟩
 ·next xs ys =>
  show Wp (if lim (xs.length + ys.length)=true then some (D.ref st.length,st ++ [O.lst (xs ++ ys)]) else none) Q↔_
  rw [nE,bK,gC]
  split
  ·next h=>exact ⟨fun q=>⟨_,_,rfl,rfl,h,q⟩,fun ⟨_,_,e,e',_,q⟩=>by cases e;cases e';exact q⟩
  ·next h=>exact ⟨False.elim,fun ⟨_,_,e,e',q,_⟩=>by cases e;cases e';exact h q⟩
theorem xZ {a:D}:Wp (cc [a] st) Q↔∃ ds,cZ st a=some ds/\Q (.int ds.length) st:=by
 show Wp (match cZ st a with | some ds=>some (D.int ds.length,st) | none=>none) Q↔_
 cases cZ st a with
 | none=>rw [gC];exact ⟨False.elim,fun ⟨_,e,_⟩=>by cases e⟩
 | some ds=>rw [bK];exact ⟨fun q=>⟨ds,rfl,q⟩,fun ⟨_,e,q⟩=>by cases e;exact q⟩
theorem Qy {a:D}:Wp (lR [a] st) Q↔∃ ds,cZ st a=some ds/\Q (.ref st.length) (st ++ [.lst ds]):=by
 show Wp (match cZ st a with | some ds=>some (D.ref st.length,st ++ [O.lst ds]) | none=>none) Q↔_
 cases cZ st a with
 | none=>rw [gC];exact ⟨False.elim,fun ⟨_,e,_⟩=>by cases e⟩
 | some ds=>rw [bK];exact ⟨fun q=>⟨ds,rfl,q⟩,fun ⟨_,e,q⟩=>by cases e;exact q⟩
theorem Qz {a:D}:Wp (bU [a] st) Q↔∃ ds,cZ st a=some ds/\Q (.tup ds) st:=by
 show Wp (match cZ st a with | some ds=>some (D.tup ds,st) | none=>none) Q↔_
 cases cZ st a with
 | none=>rw [gC];exact ⟨False.elim,fun ⟨_,e,_⟩=>by cases e⟩
 | some ds=>rw [bK];exact ⟨fun q=>⟨ds,rfl,q⟩,fun ⟨_,e,q⟩=>by cases e;exact q⟩
theorem QA:Wp (nD [.int i,.int j] st) Q↔Q (.int (if j > i then j else i)) st:=bK
theorem QB:Wp (qb [.int i,.int j] st) Q↔Q (.int (if j < i then j else i)) st:=bK
theorem QC:Wp (oS [.int i] st) Q↔Q (.int i) st:=bK
theorem QD {b:Bool}:Wp (oS [.bl b] st) Q↔Q (.int (if b then 1 else 0)) st:=bK
theorem QE:Wp (iR [.int j] st) Q↔Q (.ref st.length) (st ++ [.jC 0 j]):=bK
theorem QF:Wp (fE [.int i,.int j] st) Q↔Q (.ref st.length) (st ++ [.jC i j]):=bK
theorem QG {y:D}:Wp (a9 (.ref k) [y] st) Q↔∃ xs,own st k=some xs/\lim xs.length=true/\Q .non (st.set k (.lst (xs ++ [y]))):=by
 show Wp (match own st k with | some xs=>if lim xs.length=true then some (D.non,st.set k (O.lst (xs ++ [y]))) else none | none=>none) Q↔_
 cases own st k with
 | none=>rw [gC];exact ⟨False.elim,fun ⟨_,e,_⟩=>by cases e⟩
 | some xs =>
  show Wp (if lim xs.length=true then some (D.non,st.set k (O.lst (xs ++ [y]))) else none) Q↔_
  rw [nE,bK,gC]
  split
  ·next h=>exact ⟨fun q=>⟨_,rfl,h,q⟩,fun ⟨_,e,_,q⟩=>by cases e;exact q⟩
  ·next h=>exact ⟨False.elim,fun ⟨_,e,q,_⟩=>by cases e;exact h q⟩
end
def Ws (m:Option (Fl×Store)) (N B C:au->Store->Prop) (R:D->Store->Prop):Prop:=Wp m fun fl st=>match fl with
 | .nx δ=>N δ st
 | .bk δ=>B δ st
 | .ct δ=>C δ st
 | .rt d=>R d st
section
variable {st:Store} {δ:au} {N B C:au->Store->Prop} {R:D->Store->Prop} {f g:au->Dm Fl} {e:au->Dm D}
theorem sO {m:Option (Fl×Store)} {N':au->Store->Prop} (h:Ws m N B C R) (hn:∀ δ st,N δ st->N' δ st):Ws m N' B C R:=a7 h fun fl st q=>by
 cases fl with
 | nx δ=>exact hn δ st q
 | bk δ=>exact q
 | ct δ=>exact q
 | rt d=>exact q
theorem aX (h:Ws (f δ st) (fun δ1 st1=>Ws (g δ1 st1) N B C R) B C R):Ws (az f g δ st) N B C R:=by
 unfold Ws az
 rw [dO]
 refine a7 h fun fl st1 q=>?_
 cases fl with
 | nx δ1=>exact q
 | bk δ1=>exact bK.mpr q
 | ct δ1=>exact bK.mpr q
 | rt d=>exact bK.mpr q
theorem iG (h:N δ st):Ws (aQ δ st) N B C R:=bK.mpr h
theorem oA {t:D->au->Dm au} (h:Wp (e δ st) fun d st1=>Wp (t d δ st1) N):Ws (aK e t δ st) N B C R:=by
 unfold Ws aK
 rw [dO]
 refine a7 h fun d st1 q=>?_
 rw [dO]
 exact a7 q fun δ1 st2 q=>bK.mpr q
theorem cb {i:Nat} (h:Wp (e δ st) fun d st1=>N (δ.set i (some d)) st1):Ws (aK e (hName i) δ st) N B C R:=oA (a7 h fun d st1 q=>bK.mpr q)
theorem nc (h:Wp (e δ st) fun _ st1=>N δ st1):Ws (cg e δ st) N B C R:=by
 unfold Ws cg
 rw [dO]
 exact a7 h fun d st1 q=>bK.mpr q
theorem dQ (h:Wp (e δ st) R):Ws (bj e δ st) N B C R:=by
 unfold Ws bj
 rw [dO]
 exact a7 h fun d st1 q=>bK.mpr q
theorem gJ {c:au->Dm Bool} (h:Wp (c δ st) fun b st1=>(b=true->Ws (f δ st1) N B C R)/\(b=false->Ws (g δ st1) N B C R)):Ws (dJ c f g δ st) N B C R:=by
 unfold Ws
 rw [vh]
 refine a7 h fun b st1 q=>?_
 cases b with
 | true=>rw [if_pos rfl];exact q.1 rfl
 | false=>rw [if_neg Vo];exact q.2 rfl
theorem L0 {i j:Nat} {fa:au->Dm (List D)} (h:Wp (fa δ st) fun as st1=>∃ a b,as=[a,b]/\N ((δ.set i (some a)).set j (some b)) st1):Ws (rS i j fa δ st) N B C R:=by
 unfold Ws rS
 rw [dO]
 refine a7 h fun as st1 q=>?_
 obtain ⟨a,b,rfl,q⟩:=q
 exact bK.mpr q
theorem iy {n:Nat} {b:au->Dm Fl} {ds:List D} (h:Ws (b (ds.map some ++ List.replicate (n - ds.length) none) st) (fun _ st1=>R .non st1) (fun _ _=>False) (fun _ _=>False) R):Wp (gI n b ds st) R:=by
 unfold gI
 rw [dO]
 refine a7 h fun fl st1 q=>?_
 cases fl with
 | nx δ1=>exact bK.mpr q
 | bk δ1=>exact q.elim
 | ct δ1=>exact q.elim
 | rt d=>exact bK.mpr q
theorem zL {c:au->Dm Bool} {b:au->Dm Fl} (W:Nat->au->Store->Prop) (m:Nat) (hm:m < fuel) (h0:W m δ st)
  (step:∀ m δ st,W m δ st->Wp (c δ st) fun t st1=>(t=true->Ws (b δ st1) (fun δ2 st2=>∃ m',m' < m/\W m' δ2 st2) N (fun δ2 st2=>∃ m',m' < m/\W m' δ2 st2) R)/\(t=false->N δ st1)):Ws (jJ c b δ st) N B C R:=by
 have key:∀ (k m:Nat) (δ:au) (st:Store),m < k->W m δ st->Ws (gh c b k δ st) N B C R:=by
  intro k
  induction k with
  | zero=>intro m δ st h;exact absurd h (VY _)
  | succ k ih =>
   intro m δ st hk hw
   unfold Ws gh
   rw [dO]
   refine a7 (step m δ st hw) fun t st1 q=>?_
   cases t with
   | false=>rw [if_neg Vo];exact bK.mpr (q.2 rfl)
   | true =>
    rw [if_pos rfl,dO]
    refine a7 (q.1 rfl) fun fl st2 q=>?_
    cases fl with
    | nx δ2=>obtain ⟨m',hm',w⟩:=q;exact ih m' δ2 st2 (by omega) w
    | ct δ2=>obtain ⟨m',hm',w⟩:=q;exact ih m' δ2 st2 (by omega) w
    | bk δ2=>exact bK.mpr q
    | rt d=>exact bK.mpr q
 exact key fuel m δ st hm h0
theorem lZ {fi:au->Dm Src} {t:D->au->Dm au} {b:au->Dm Fl} (ds:List D) (Pv:Nat->au->Store->Prop) (hi:Wp (fi δ st) fun S st1=>S=.fix ds/\Pv 0 δ st1) (hl:ds.length < 100000)
  (step:∀ i d δ st,ds[i]?=some d->Pv i δ st->Wp (t d δ st) fun δ1 st1=>Ws (b δ1 st1) (Pv (i + 1)) N (Pv (i + 1)) R) (fin:∀ δ st,Pv ds.length δ st->N δ st):Ws (c9 fi t b δ st) N B C R:=by
 unfold Ws c9
 rw [dO]
 refine a7 hi fun S lj q=>?_
 obtain ⟨rfl,h0⟩:=q
 have key:∀ (k i:Nat) (δ:au) (st:Store),i<=ds.length->ds.length - i < k->Pv i δ st->Ws (hV (.fix ds) t b k i δ st) N B C R:=by
  intro k
  induction k with
  | zero=>intro i δ st _ h;exact absurd h (VY _)
  | succ k ih =>
   intro i δ st hi hk hw
   unfold Ws hV
   have e:Src.at (.fix ds) i st=some ds[i]?:=by show (if i<=ds.length then some ds[i]? else none)=_;rw [if_pos hi]
   rw [e]
   cases hd:ds[i]? with
   | none =>
    have:=V1.mp hd
    have e:i=ds.length:=by omega
    exact bK.mpr (fin δ st (e ▸ hw))
   | some d =>
    have hlt:=(Ve.mp hd).1
    show Wp (bnd _ _) _
    rw [dO]
    refine a7 (step i d δ st hd hw) fun δ1 st1 q=>?_
    rw [dO]
    refine a7 q fun fl st2 q=>?_
    cases fl with
    | nx δ2=>exact ih (i + 1) δ2 st2 (by omega) (by omega) q
    | ct δ2=>exact ih (i + 1) δ2 st2 (by omega) (by omega) q
    | bk δ2=>exact bK.mpr q
    | rt d=>exact bK.mpr q
 exact key fuel 0 δ lj (VW _) (Xr (by omega) (show 100000 < fuel by decide)) h0
theorem Iv {fi:au->Dm Src} {t:D->au->Dm au} {b:au->Dm Fl} (ds:List D) (r:Nat) (Pv:Nat->au->Store->Prop) (hi:Wp (fi δ st) fun S st1=>S=.live r/\Pv 0 δ st1) (hl:ds.length < 100000) (hk:∀ i δ st,Pv i δ st->items st r=some ds)
  (step:∀ i d δ st,ds[i]?=some d->Pv i δ st->Wp (t d δ st) fun δ1 st1=>Ws (b δ1 st1) (Pv (i + 1)) N (Pv (i + 1)) R) (fin:∀ δ st,Pv ds.length δ st->N δ st):Ws (c9 fi t b δ st) N B C R:=by
 unfold Ws c9
 rw [dO]
 refine a7 hi fun S lj q=>?_
 obtain ⟨rfl,h0⟩:=q
 have key:∀ (k i:Nat) (δ:au) (st:Store),i<=ds.length->ds.length - i < k->Pv i δ st->Ws (hV (.live r) t b k i δ st) N B C R:=by
  intro k
  induction k with
  | zero=>intro i δ st _ h;exact absurd h (VY _)
  | succ k ih =>
   intro i δ st hi hk' hw
   unfold Ws hV
   have e:Src.at (.live r) i st=some ds[i]?:=by show (items st r).map _=_;rw [hk i δ st hw];rfl
   rw [e]
   cases hd:ds[i]? with
   | none =>
    have:=V1.mp hd
    have e:i=ds.length:=by omega
    exact bK.mpr (fin δ st (e ▸ hw))
   | some d =>
    have hlt:=(Ve.mp hd).1
    show Wp (bnd _ _) _
    rw [dO]
    refine a7 (step i d δ st hd hw) fun δ1 st1 q=>?_
    rw [dO]
    refine a7 q fun fl st2 q=>?_
    cases fl with
    | nx δ2=>exact ih (i + 1) δ2 st2 (by omega) (by omega) q
    | ct δ2=>exact ih (i + 1) δ2 st2 (by omega) (by omega) q
    | bk δ2=>exact bK.mpr q
    | rt d=>exact bK.mpr q
 exact key fuel 0 δ lj (VW _) (Xr (by omega) (show 100000 < fuel by decide)) h0
theorem Iw {fi:au->Dm Src} {n:Nat} {js:List Nat} {t:D->au->Dm au} {c:au->Dm Bool} {f:au->Dm D} {Q:D->Store->Prop} (ds:List D) (Pv:Nat->List D->au->Store->Prop)
  (hi:Wp (fi δ st) fun S st1=>(∀ i ys δ st,i<=ds.length->Pv i ys δ st->S.at i st=some ds[i]?)/\Pv 0 [] (oV n js δ) st1) (hl:ds.length < 100000) (hy:∀ i ys δ st,Pv i ys δ st->ys.length<=i)
  (step:∀ i d ys δ st,ds[i]?=some d->Pv i ys δ st->Wp (t d δ st) fun δ1 st1=>Wp (c δ1 st1) fun b st2=>(b=true->Wp (f δ1 st2) fun y st3=>Pv (i + 1) (ys ++ [y]) δ1 st3)/\(b=false->Pv (i + 1) ys δ1 st2))
  (fin:∀ ys δ st,Pv ds.length ys δ st->Q (.ref st.length) (st ++ [.lst ys])):Wp (cD fi n js t c f δ st) Q:=by
 unfold cD
 rw [dO]
 refine a7 hi fun S lj q=>?_
 obtain ⟨hS,h0⟩:=q
 have key:∀ (k i:Nat) (ys:List D) (δ:au) (st:Store),i<=ds.length->ds.length - i < k->Pv i ys δ st->Wp (iT S t c f k i ys δ st) fun zs oW=>∃ δ9,Pv ds.length zs δ9 oW:=by
  intro k
  induction k with
  | zero=>intro i ys δ st _ h;exact absurd h (VY _)
  | succ k ih =>
   intro i ys δ st hi hk' hw
   unfold iT
   have hlim:lim ys.length=true:=Nat.ble_eq_true_of_le (by have:=hy i ys δ st hw;omega)
   rw [if_pos hlim,hS i ys δ st hi hw]
   cases hd:ds[i]? with
   | none =>
    have:=V1.mp hd
    have e:i=ds.length:=by omega
    exact bK.mpr ⟨δ,e ▸ hw⟩
   | some d =>
    have hlt:=(Ve.mp hd).1
    show Wp (bnd _ _) _
    rw [dO]
    refine a7 (step i d ys δ st hd hw) fun δ1 st1 q=>?_
    rw [dO]
    refine a7 q fun b st2 q=>?_
    cases b with
    | true =>
     rw [if_pos rfl,dO]
     exact a7 (q.1 rfl) fun y st3 q=>ih (i + 1) _ δ1 st3 (by omega) (by omega) q
    | false =>
     rw [if_neg Vo]
     exact ih (i + 1) ys δ1 st2 (by omega) (by omega) (q.2 rfl)
 rw [dO]
 exact a7 (key fuel 0 [] _ lj (VW _) (Xr (by omega) (show 100000 < fuel by decide)) h0) fun zs oW ⟨δ9,q⟩=>bK.mpr (fin zs δ9 oW q)
end
def keyOf:D->Option Key
 | .int i=>some (.inl i)
 | .str x=>some (.inr x)
 | _=>none
def jL (st:Store):D->Option (List (Key×D))
 | .ref i=>match st[i]? with
  | some (.dct kvs)=>some kvs
  | _=>none
 | _=>none
def d4 (kvs:List (Key×D)) (k:Key):Option D:=(kvs.find? fun kv=>decide (kv.1=k)).map (·.2)
def putD (kvs:List (Key×D)) (k:Key) (v:D):List (Key×D) :=
 if (kvs.any fun kv=>decide (kv.1=k))=true then kvs.map (fun kv=>if kv.1=k then (kv.1,v) else kv) else kvs ++ [(k,v)]
section
variable {K:Zfr} {ρ:List Addr} {H:Hp} {st:Store}
theorem zt {x:V} {y:D} {k:Key} (r:Rp K ρ H x y) (h:keyOf y=some k):x=kV k:=by
 cases r <;> first | (cases h;rfl) | cases h
theorem L3 {x:V} {a:D} {kvs:List (Key×D)} (l:Rl K ρ H st) (r:Rp K ρ H x a) (h:jL st a=some kvs):∃ p i ws,x=.ref p/\a=.ref i/\ρ[i]?=some p/\st[i]?=some (.dct kvs)/\H p=some (.dK ws)/\Rk K ρ H ws kvs:=by
 cases r <;> first | (cases h;done) | skip
 next hi =>
  simp only [jL] at h
  split at h
  ·next kvs' hs =>
   cases h
   obtain ⟨ws,e,r⟩:=l.obj _ _ _ hi hs
   exact ⟨_,_,ws,rfl,rfl,hi,hs,e,r⟩
  ·cases h
theorem Rk.val {ws:List (Key×V)} {kvs:List (Key×D)} (r:Rk K ρ H ws kvs) (k:Key):(∀ d,d4 kvs k=some d->∃ v,kC ws k=some v/\Rp K ρ H v d)/\(kC ws k).isSome=(d4 kvs k).isSome:=by
 induction r with
 | nil=>exact ⟨fun d h=>(by cases h),rfl⟩
 | @cons p q ps qs h t ih =>
  obtain ⟨h1,h2⟩:=h
  unfold d4 kC at ih ⊢
  rw [Wb,Wb]
  by_cases e:p.1=k
  ·rw [decide_eq_true e,decide_eq_true (h1 ▸ e)]
   exact ⟨fun d hd=>by cases hd;exact ⟨_,rfl,h2⟩,rfl⟩
  ·rw [decide_eq_false e,decide_eq_false (h1 ▸ e)]
   exact ih
theorem Rk.app {ws zM:List (Key×V)} {kvs kvs':List (Key×D)} (r:Rk K ρ H ws kvs) (r':Rk K ρ H zM kvs'):Rk K ρ H (ws ++ zM) (kvs ++ kvs'):=by
 induction r with
 | nil=>exact r'
 | cons h _ ih=>exact .cons h ih
theorem Rk.put {ws:List (Key×V)} {kvs:List (Key×D)} {v:V} {d:D} (r:Rk K ρ H ws kvs) (k:Key) (rv:Rp K ρ H v d):Rk K ρ H (putK ws k v) (putD kvs k d):=by
 have hany:(ws.any fun kv=>decide (kv.1=k))=(kvs.any fun kv=>decide (kv.1=k)):=by
  induction r with
  | nil=>rfl
  | cons h _ ih=>rw [V9,V9,ih,h.1]
 have hmap:Rk K ρ H (ws.map fun kv=>if kv.1=k then (kv.1,v) else kv) (kvs.map fun kv=>if kv.1=k then (kv.1,d) else kv):=by
  clear hany
  induction r with
  | nil=>exact .nil
  | @cons p q ps qs h _ ih =>
   refine .cons ?_ ih
   dsimp only
   by_cases e:p.1=k
   ·rw [if_pos e,if_pos (h.1 ▸ e)];exact ⟨h.1,rv⟩
   ·rw [if_neg e,if_neg (h.1 ▸ e)];exact h
 unfold putK putD
 rw [hany]
 split
 ·exact hmap
 ·exact r.app (.cons ⟨rfl,rv⟩ .nil)
theorem Rk.length {ws:List (Key×V)} {kvs:List (Key×D)} (r:Rk K ρ H ws kvs):ws.length=kvs.length:=by
 induction r with
 | nil=>rfl
 | cons _ _ ih=>rw [VJ,VJ,ih]
end
section
variable {K:Zfr}
def rW:au->Dm D:=fun _ st=>some (.ref st.length,st ++ [.dct []])
theorem QH:gf K rm rW:=by
 intro ρ σ H δ st b st' Q l rs e q
 cases e
 exact fun p hp=>q _ _ _ (Mn.new hp) (l.newD hp .nil) (.ref (newR l))
def vk (fd fy:au->Dm D):au->Dm D:=fun δ st=>bnd (fd δ st) fun x st1=>bnd (fy δ st1) fun y st2=>match jL st2 x,keyOf y with
 | some kvs,some k=>match d4 kvs k with
  | some v=>some (v,st2)
  | none=>none
 | _,_=>none
def t9 (neg:Bool) (fy fd:au->Dm D):au->Dm D:=fun δ st=>bnd (fy δ st) fun y st1=>bnd (fd δ st1) fun x st2=>match jL st2 x,keyOf y with
 | some kvs,some k=>some (.bl (if neg then !(d4 kvs k).isSome else (d4 kvs k).isSome),st2)
 | _,_=>none
theorem QI {td ty:TE} {fd fy:au->Dm D} (hy:gf K ty fy) (hd:gf K td fd):gf K (pV ty td) (t9 true fy fd):=by
 intro ρ σ H δ st b st' Q l rs e q
 obtain ⟨y,st1,e1,e⟩:=d6 e
 obtain ⟨x,st2,e2,e⟩:=d6 e
 refine hy ρ σ H δ st y st1 _ l rs e1 fun vy H1 ρ1 m1 l1 r1=>hd ρ1 σ H1 δ st1 x st2 _ l1 (rs.mn m1) e2 fun vx H2 ρ2 m2 l2 r2=>?_
 split at e
 ·next kvs k hx hk =>
  cases e
  obtain ⟨p,i,ws,rfl,rfl,hi,hs,hp,rk⟩:=L3 l2 r2 hx
  refine ⟨p,kC ws k,rfl,by rw [zt r1 hk];exact rj.k hp,q _ H2 ρ2 (m1.trans m2) l2 ?_⟩
  rw [(rk.val k).2]
  exact .bl _
 ·cases e
def qd (fd fy fv:au->Dm D):au->Dm Fl:=fun δ st=>bnd (fv δ st) fun v st1=>bnd (fd δ st1) fun x st2=>bnd (fy δ st2) fun y st3=>match x,jL st3 x,keyOf y with
 | .ref i,some kvs,some k=>if lim kvs.length=true then some (.nx δ,st3.set i (.dct (putD kvs k v))) else none
 | _,_,_=>none
theorem QJ {td ty tv:TE} {fd fy fv:au->Dm D} (hd:gf K td fd) (hy:gf K ty fy) (hv:gf K tv fv):ow K (uO td ty tv) (qd fd fy fv):=by
 intro ρ σ H δ st fl st' E l rs e q
 obtain ⟨v,st1,e1,e⟩:=d6 e
 obtain ⟨x,st2,e2,e⟩:=d6 e
 obtain ⟨y,st3,e3,e⟩:=d6 e
 refine hv ρ σ H δ st v st1 _ l rs e1 fun vv H1 ρ1 m1 l1 r1=>hd ρ1 σ H1 δ st1 x st2 _ l1 (rs.mn m1) e2 fun vx H2 ρ2 m2 l2 r2=>hy ρ2 σ H2 δ st2 y st3 _ l2 (rs.mn (m1.trans m2)) e3 fun vy H3 ρ3 m3 l3 r3=>?_
 obtain ⟨i,rfl⟩:∃ i,x=.ref i:=by
  cases x <;> first | exact ⟨_,rfl⟩ | (simp at e;done) | cases e
 cases hx:jL st3 (.ref i) with
 | none=>rw [hx] at e;cases e
 | some kvs =>
 cases hk:keyOf y with
 | none=>rw [hx,hk] at e;cases e
 | some k =>
  rw [hx,hk] at e
  simp only at e
  split at e
  ·next hl =>
   cases e
   obtain ⟨p,j,ws,rfl,ej,hi,hs,hp,rk⟩:=L3 l3 (r2.mn m3) hx
   cases ej
   obtain ⟨l4,m4⟩:=l3.xj hi hs (rk.put k (r1.mn (m2.trans m3)))
   have mm:=((m1.trans m2).trans m3).trans m4
   refine ⟨p,_,rfl,?_,q σ _ ρ3 mm l4 (rs.mn mm)⟩
   rw [zt r3 hk]
   exact rl.k hp (by rw [rk.length];exact EO hl)
  ·cases e
def Cr:au->Dm (List (D×D)):=fun _ st=>some ([],st)
def rX (fk fv:au->Dm D) (fr:au->Dm (List (D×D))):au->Dm (List (D×D)):=fun δ st=>bnd (fk δ st) fun k st1=>bnd (fv δ st1) fun v st2=>bnd (fr δ st2) fun r st3=>some ((k,v) :: r,st3)
def keysOf:List (D×D)->Option (List (Key×D))
 | []=>some []
 | (k,v) :: r=>match keyOf k,keysOf r with
  | some k',some r'=>some ((k',v) :: r')
  | _,_=>none
def rY (kvs more:List (Key×D)):List (Key×D):=more.foldl (fun acc kv=>putD acc kv.1 kv.2) kvs
def vm (fp:au->Dm (List (D×D))):au->Dm D:=fun δ st=>bnd (fp δ (st ++ [.dct []])) fun ps st2=>match st2[st.length]?,keysOf ps with
 | some (.dct []),some kvs=>if kvs.length<=15 then some (.ref st.length,st2.set st.length (.dct (rY [] kvs))) else none
 | _,_=>none
end
section
variable {st:Store} {δ:au} {Q:D->Store->Prop}
theorem QK:Wp (rW δ st) Q↔Q (.ref st.length) (st ++ [.dct []]):=bK
theorem QL {fd fy:au->Dm D}:Wp (vk fd fy δ st) Q↔Wp (fd δ st) fun x st1=>Wp (fy δ st1) fun y st2=>∃ kvs k v,jL st2 x=some kvs/\keyOf y=some k/\d4 kvs k=some v/\Q v st2:=by
 unfold vk;rw [dO];simp only [dO]
 constructor <;> refine fun h=>a7 h fun x s h=>a7 h fun y s2 h=>?_
 ·split at h
  ·next kvs k h1 h2 =>
   split at h
   ·next v h3=>exact ⟨kvs,k,v,by assumption,by assumption,h3,bK.mp h⟩
   ·exact (gC.mp h).elim
  ·exact (gC.mp h).elim
 ·obtain ⟨kvs,k,v,h1,h2,h3,h⟩:=h
  rw [h1,h2]
  simp only [h3]
  exact bK.mpr h
theorem x3 {neg:Bool} {fd fy:au->Dm D}:Wp (t9 neg fy fd δ st) Q↔Wp (fy δ st) fun y st1=>Wp (fd δ st1) fun x st2=>∃ kvs k,jL st2 x=some kvs/\keyOf y=some k/\Q (.bl (if neg then !(d4 kvs k).isSome else (d4 kvs k).isSome)) st2:=by
 unfold t9;rw [dO];simp only [dO]
 constructor <;> refine fun h=>a7 h fun x s h=>a7 h fun y s2 h=>?_
 ·split at h
  ·next kvs k h1 h2=>exact ⟨kvs,k,by assumption,by assumption,bK.mp h⟩
  ·exact (gC.mp h).elim
 ·obtain ⟨kvs,k,h1,h2,h⟩:=h
  rw [h1,h2]
  exact bK.mpr h
theorem QM {R:List (D×D)->Store->Prop}:Wp (Cr δ st) R↔R [] st:=bK
theorem QN {fk fv:au->Dm D} {fr:au->Dm (List (D×D))} {R:List (D×D)->Store->Prop}:Wp (rX fk fv fr δ st) R↔Wp (fk δ st) fun k st1=>Wp (fv δ st1) fun v st2=>Wp (fr δ st2) fun r st3=>R ((k,v) :: r) st3:=by
 unfold rX;rw [dO];simp only [dO,bK]
theorem QO {fp:au->Dm (List (D×D))}:Wp (vm fp δ st) Q↔Wp (fp δ (st ++ [.dct []])) fun ps st2=>st2[st.length]?=some (.dct [])/\∃ kvs,keysOf ps=some kvs/\kvs.length<=15/\Q (.ref st.length) (st2.set st.length (.dct (rY [] kvs))):=by
 unfold vm;rw [dO]
 constructor <;> refine fun h=>a7 h fun ps s h=>?_
 ·split at h
  ·next kvs h1 h2 =>
   rw [nE,bK,gC] at h
   split at h
   ·next hl=>exact ⟨by assumption,kvs,by assumption,hl,h⟩
   ·exact h.elim
  ·exact (gC.mp h).elim
 ·obtain ⟨h1,kvs,h2,h3,h⟩:=h
  rw [h1,h2]
  simp only [if_pos h3]
  exact bK.mpr h
theorem QP {fd fy fv:au->Dm D} {N B C:au->Store->Prop} {R:D->Store->Prop} (h:Wp (fv δ st) fun v st1=>Wp (fd δ st1) fun x st2=>Wp (fy δ st2) fun y st3=>∃ i kvs k,x=.ref i/\jL st3 x=some kvs/\keyOf y=some k/\lim kvs.length=true/\N δ (st3.set i (.dct (putD kvs k v)))):Ws (qd fd fy fv δ st) N B C R:=by
 unfold Ws qd
 rw [dO]
 refine a7 h fun v st1 h=>?_
 rw [dO]
 refine a7 h fun x st2 h=>?_
 rw [dO]
 refine a7 h fun y st3 h=>?_
 obtain ⟨i,kvs,k,rfl,h1,h2,h3,h⟩:=h
 rw [h1,h2]
 simp only [h3]
 exact bK.mpr h
end
structure Ex (c:List Nat) (st st':Store):Prop where
 len:st.length<=st'.length
 keep:∀ (i:Nat) (o:O),st[i]?=some o->i ∉ c->st'[i]?=some o
section
variable {c c':List Nat} {st st1 st2:Store} {i:Nat} {o:O} {ds:List D}
theorem Ex.refl:Ex c st st:=⟨Vh _,fun _ _ h _=>h⟩
theorem Ex.trans (a:Ex c st st1) (b:Ex c st1 st2):Ex c st st2:=⟨VL a.len b.len,fun i o h n=>b.keep i o (a.keep i o h n) n⟩
theorem Ex.mono (a:Ex c st st1) (h:∀ x∈c,x∈c'):Ex c' st st1:=⟨a.len,fun i o e n=>a.keep i o e fun z=>n (h i z)⟩
theorem Ex.any (a:Ex [] st st1):Ex c st st1:=a.mono fun x h=>nomatch h
theorem dH {α:Type} {l:List α} {i:Nat} {o:α} (h:l[i]?=some o):i < l.length:=(Ve.mp h).1
theorem hW {l m:List O} (h:l[i]?=some o):(l ++ m)[i]?=some o:=by rw [Vt (dH h)];exact h
theorem h7 {l:List O}:(l ++ [o])[l.length]?=some o:=by rw [VA (Vh _),Wn];rfl
theorem Ex.app (a:Ex c st st1) (m:List O):Ex c st (st1 ++ m):=⟨by rw [Vj];exact VL a.len (Nat.le_add_right _ _),fun i o h n=>hW (a.keep i o h n)⟩
theorem Ex.cB (m:List O):Ex c st (st ++ m):=Ex.refl.app m
theorem Ex.put (a:Ex c st st1) (h:i∈c):Ex c st (st1.set i o):=⟨by rw [VU];exact a.len,fun j u e n=>by rw [Vq (fun z=>n (by rw [<- z];exact h))];exact a.keep j u e n⟩
theorem Ex.loc (a:Ex c st st1) (h:st.length<=i):Ex c st (st1.set i o):=⟨by rw [VU];exact a.len,fun j u e n=>by rw [Vq (by have:=dH e;omega)];exact a.keep j u e n⟩
theorem bu (h:st[i]?=some (.lst ds)):items st i=some ds:=by unfold items;rw [h]
theorem Iy (h:st[i]?=some (.oO ds)):items st i=some ds:=by unfold items;rw [h]
theorem jy (h:st[i]?=some (.lst ds)):own st i=some ds:=by unfold own;rw [h]
theorem qe:items (st ++ [.lst ds]) st.length=some ds:=bu h7
theorem QQ:own (st ++ [.lst ds]) st.length=some ds:=jy h7
theorem QR {o':O}:items (st ++ [.lst ds] ++ [o']) st.length=some ds:=bu (hW h7)
theorem QS {o':O}:own (st ++ [.lst ds] ++ [o']) st.length=some ds:=jy (hW h7)
theorem QT {o' o2:O}:items (st ++ [.lst ds] ++ [o'] ++ [o2]) st.length=some ds:=bu (hW (hW h7))
theorem QU {o' o2:O}:own (st ++ [.lst ds] ++ [o'] ++ [o2]) st.length=some ds:=jy (hW (hW h7))
theorem QV {lo hi:Int}:jx (st ++ [.jC lo hi]) (.ref st.length)=some (lo,hi):=by simp only [jx,h7]
theorem QW:cZ st (.tup ds)=some ds:=rfl
theorem Iz:cZ st (.ref i)=items st i:=rfl
theorem lx (h:(items st i).isSome=true):sN "list" st (.ref i)=true:=by simp only [sN,h];rfl
theorem IA:sN "tuple" st (.tup ds)=true:=by simp only [sN];rfl
theorem jz {n:Nat} (h:n<=100000):lim n=true:=Nat.ble_eq_true_of_le h
end
section
variable {st:Store} {Q:D->Store->Prop} {i j:Int} {k:Nat} {ds es:List D}
theorem QX {a:D}:Wp (d7 [a] st) Q↔∃ p,jx st a=some p/\m8 p.1 p.2=true/\Q (.ref st.length) (st ++ [.lst (aJ p.1 (p.2 - p.1).toNat)]):=by
 show Wp (match jx st a with | some (lo,hi)=>if m8 lo hi=true then some (D.ref st.length,st ++ [O.lst (aJ lo (hi - lo).toNat)]) else none | none=>none) Q↔_
 cases jx st a with
 | none=>rw [gC];exact ⟨False.elim,fun ⟨_,e,_⟩=>by cases e⟩
 | some p =>
  obtain ⟨lo,hi⟩:=p
  show Wp (if m8 lo hi=true then some (D.ref st.length,st ++ [O.lst (aJ lo (hi - lo).toNat)]) else none) Q↔_
  rw [nE,bK,gC]
  split
  ·next h=>exact ⟨fun q=>⟨_,rfl,h,q⟩,fun ⟨_,e,_,q⟩=>by cases e;exact q⟩
  ·next h=>exact ⟨False.elim,fun ⟨_,e,q,_⟩=>by cases e;exact h q⟩
theorem QY {a:D}:Wp (tW [a] st) Q↔∃ p,jx st a=some p/\m8 p.1 p.2=true/\Q (.tup (aJ p.1 (p.2 - p.1).toNat)) st:=by
 show Wp (match jx st a with | some (lo,hi)=>if m8 lo hi=true then some (D.tup (aJ lo (hi - lo).toNat),st) else none | none=>none) Q↔_
 cases jx st a with
 | none=>rw [gC];exact ⟨False.elim,fun ⟨_,e,_⟩=>by cases e⟩
 | some p =>
  obtain ⟨lo,hi⟩:=p
  show Wp (if m8 lo hi=true then some (D.tup (aJ lo (hi - lo).toNat),st) else none) Q↔_
  rw [nE,bK,gC]
  split
  ·next h=>exact ⟨fun q=>⟨_,rfl,h,q⟩,fun ⟨_,e,_,q⟩=>by cases e;exact q⟩
  ·next h=>exact ⟨False.elim,fun ⟨_,e,q,_⟩=>by cases e;exact h q⟩
theorem x4:Wp (rR (.ref k) (.int j) st) Q↔∃ xs,own st k=some xs/\(-9223372036854775808<=j/\j < 9223372036854775808)/\lim (xs.length * j.toNat)=true/\Q (.ref st.length) (st ++ [.lst (List.replicate j.toNat xs).flatten]):=by
 show Wp (match own st k with | some a=>if (decide (-9223372036854775808<=j/\j < 9223372036854775808) && lim (a.length * j.toNat))=true then some (D.ref st.length,st ++ [O.lst (List.replicate j.toNat a).flatten]) else none | _=>none) Q↔_
 cases own st k with
 | none=>simp only [gC];exact ⟨False.elim,fun ⟨_,e,_⟩=>by cases e⟩
 | some xs =>
  show Wp (if (decide (-9223372036854775808<=j/\j < 9223372036854775808) && lim (xs.length * j.toNat))=true then some (D.ref st.length,st ++ [O.lst (List.replicate j.toNat xs).flatten]) else none) Q↔_
  rw [nE,bK,gC]
  split
  ·next h=>rw [VE,decide_eq_true_eq] at h;exact ⟨fun q=>⟨_,rfl,h.1,h.2,q⟩,fun ⟨_,e,_,_,q⟩=>by cases e;exact q⟩
  ·next h=>rw [VE,decide_eq_true_eq] at h;exact ⟨False.elim,fun ⟨_,e,q,q',_⟩=>by cases e;exact h ⟨q,q'⟩⟩
theorem QZ:Wp (kG (.ref k) [.int i] st) Q↔∃ xs j y,own st k=some xs/\(-9223372036854775808<=i/\i < 9223372036854775808)/\seqIndex? i xs.length=some j/\xs[j]?=some y/\Q y (st.set k (.lst (xs.eraseIdx j))):=by
 constructor
 ·rintro ⟨a,s,e,q⟩
  simp only [kG] at e
  split at e
  ·next xs hx =>
   split at e
   ·next hk =>
    split at e
    ·next j hj =>
     split at e
     ·next y hy=>cases e;exact ⟨xs,j,_,hx,of_decide_eq_true hk,hj,hy,q⟩
     ·cases e
    ·cases e
   ·cases e
  ·cases e
 ·rintro ⟨xs,j,y,hx,hk,hj,hy,q⟩
  refine ⟨_,_,?_,q⟩
  simp only [kG,hx,hj,hy,decide_eq_true hk]
  rfl
theorem Q0 {b:Nat}:Wp (nT (.ref k) [.ref b] st) Q↔∃ xs ys,own st k=some xs/\own st b=some ys/\lim (xs.length + ys.length)=true/\Q .non (st.set k (.lst (xs ++ ys))):=by
 constructor
 ·rintro ⟨a,s,e,q⟩
  simp only [nT] at e
  split at e
  ·next xs ys hx hy =>
   split at e
   ·next hl=>cases e;exact ⟨xs,ys,hx,hy,hl,q⟩
   ·cases e
  ·cases e
 ·rintro ⟨xs,ys,hx,hy,hl,q⟩
  refine ⟨_,_,?_,q⟩
  simp only [nT,hx,hy,hl]
  rfl
theorem L5 {v:Int}:Wp (iS (.tup ds) [.int v] st) Q↔∃ ns j,cz iV ds=some ns/\ns.findIdx? (fun i=>decide (i=v))=some j/\Q (.int (j:Int)) st:=by
 constructor
 ·rintro ⟨a,s,e,q⟩
  simp only [iS] at e
  split at e
  ·next ns hn =>
   split at e
   ·next j hj=>cases e;exact ⟨ns,j,hn,hj,q⟩
   ·cases e
  ·cases e
 ·rintro ⟨ns,j,hn,hj,q⟩
  refine ⟨_,_,?_,q⟩
  simp only [iS,hn,hj]
theorem IB {v:Int} {ns:List Int} (h:items st k=some (ns.map D.int)) (hv:v∈ns) (hl:ns.length<=1000) (hb:∀ i∈ns,-1000000000000000000<=i/\i<=1000000000000000000):Wp (gG (.ref k) [.int v] st) Q↔Q (.int (ns.idxOf v:Int)) st:=by
 have e:cz iV (ns.map D.int)=some ns:=by
  have:=ve (f:=iV) (g:=D.int) (k:=id) (fun _=>rfl) ns
  rw [this,Wd]
 have e2:gG (.ref k) [.int v] st=some (.int (ns.idxOf v:Int),st):=by
  simp only [gG,h,Wi,e]
  rw [if_pos ⟨hv,hl,hb⟩]
 rw [e2,bK]
theorem x5:Wp (xy [.ref k] st) Q↔∃ ds bs,items st k=some ds/\cz bV ds=some bs/\Q (.bl (bs.all id)) st:=by
 constructor
 ·rintro ⟨a,s,e,q⟩
  simp only [xy] at e
  split at e
  ·next bs hb =>
   cases e
   obtain ⟨ds,h1,h2⟩:=V4.mp hb
   exact ⟨ds,bs,h1,h2,q⟩
  ·cases e
 ·rintro ⟨ds,bs,h1,h2,q⟩
  refine ⟨_,_,?_,q⟩
  simp only [xy,h1,Wi,h2]
theorem Cs {neg:Bool} {a c:D}:Wp (qP neg a c st) Q↔∃ x ds vs,sV a=some x/\cZ st c=some ds/\cz sV ds=some vs/\Q (.bl (if neg then !uK x vs else uK x vs)) st:=by
 constructor
 ·rintro ⟨b,s,e,q⟩
  simp only [qP] at e
  split at e
  ·next x vs h1 h2 =>
   cases e
   obtain ⟨ds,h3,h4⟩:=V4.mp h2
   exact ⟨x,ds,vs,h1,h3,h4,q⟩
  ·cases e
 ·rintro ⟨x,ds,vs,h1,h2,h3,q⟩
  refine ⟨_,_,?_,q⟩
  simp only [qP,h1,h2,Wi,h3]
theorem L6 (ns:List Int):cz sV (ns.map D.int)=some (ns.map V.int):=ve (f:=sV) (g:=D.int) (k:=V.int) (fun _=>rfl) ns
theorem IC (ns:List Int):cz iV (ns.map D.int)=some ns:=by
 have:=ve (f:=iV) (g:=D.int) (k:=id) (fun _=>rfl) ns
 rw [this,Wd]
theorem IE {neg:Bool} {a b:D}:Wp (e8 neg a b st) Q↔∃ p q,fU st 20 a=some p/\fU st 20 b=some q/\(PyData.canLay0 p=true/\PyData.canLay0 q=true/\min p.depth q.depth<=60)/\Q (.bl (if neg then !PyData.eqv p q else PyData.eqv p q)) st:=by
 constructor
 ·rintro ⟨c,s,e,q⟩
  simp only [e8] at e
  split at e
  ·next x y h1 h2 =>
   split at e
   ·next hs =>
    cases e
    rw [VE,VE,decide_eq_true_eq] at hs
    exact ⟨x,y,h1,h2,⟨hs.1.1,hs.1.2,hs.2⟩,q⟩
   ·cases e
  ·cases e
 ·rintro ⟨x,y,h1,h2,⟨h3,h4,h5⟩,q⟩
  refine ⟨_,_,?_,q⟩
  simp only [e8,h1,h2,h3,h4,decide_eq_true h5]
  rfl
theorem x8 {z:Str}:Wp (xr (.str z) (.int i) st) Q↔∃ c,lim z.length=true/\d5 z.cps.toList i=some c/\Q (.str ⟨#[c]⟩) st:=by
 constructor
 ·rintro ⟨c,s,e,q⟩
  simp only [xr] at e
  split at e
  ·next h1 =>
   split at e
   ·next c hc=>cases e;exact ⟨c,h1,hc,q⟩
   ·cases e
  ·cases e
 ·rintro ⟨c,h1,h2,q⟩
  refine ⟨_,_,?_,q⟩
  simp only [xr,h1,h2]
  rfl
theorem Q5 {δ:au} {fa:au->Dm (List D)} {R:Src->Store->Prop}:Wp (ck fa δ st) R↔Wp (fa δ st) fun as st1=>∃ j,as=[.int j]/\(-4611686018427387904<=j/\j < 4611686018427387904)/\R (.fix (aJ 0 j.toNat)) st1:=by
 unfold ck;rw [dO]
 constructor <;> refine fun h=>a7 h fun as s h=>?_
 ·split at h
  ·next j =>
   rw [nE,bK,gC] at h
   split at h
   ·next hk=>exact ⟨j,rfl,of_decide_eq_true hk,h⟩
   ·exact h.elim
  ·exact (gC.mp h).elim
 ·obtain ⟨j,rfl,h1,h⟩:=h
  simp only [decide_eq_true h1,if_true]
  exact bK.mpr h
theorem Q6 {δ:au} {fa:au->Dm (List D)} {R:Src->Store->Prop}:Wp (nV fa δ st) R↔Wp (fa δ st) fun as st1=>∃ i j,as=[.int i,.int j]/\((-4611686018427387904<=i/\i < 4611686018427387904)/\-4611686018427387904<=j/\j < 4611686018427387904)/\R (.fix (aJ i (j - i).toNat)) st1:=by
 unfold nV;rw [dO]
 constructor <;> refine fun h=>a7 h fun as s h=>?_
 ·split at h
  ·next i j =>
   rw [nE,bK,gC] at h
   split at h
   ·next hk=>exact ⟨i,j,rfl,of_decide_eq_true hk,h⟩
   ·exact h.elim
  ·exact (gC.mp h).elim
 ·obtain ⟨i,j,rfl,h1,h⟩:=h
  simp only [decide_eq_true h1,if_true]
  exact bK.mpr h
theorem Q7 {δ:au} {fa:au->Dm D} {R:Src->Store->Prop}:Wp (c4 fa δ st) R↔Wp (fa δ st) fun a st1=>∃ ds,a=.tup ds/\R (.fix ds) st1:=by
 unfold c4;rw [dO]
 constructor <;> refine fun h=>a7 h fun a s h=>?_
 ·cases a <;> simp only [bK,gC] at h
  exact ⟨_,rfl,h⟩
 ·obtain ⟨j,rfl,h⟩:=h
  exact bK.mpr h
theorem Q8 {δ:au} {fa:au->Dm D} {R:Src->Store->Prop}:Wp (jK fa δ st) R↔Wp (fa δ st) fun a st1=>∃ i ds,a=.ref i/\items st1 i=some ds/\R (.live i) st1:=by
 unfold jK;rw [dO]
 constructor <;> refine fun h=>a7 h fun a s h=>?_
 ·split at h
  ·split at h
   ·next i ds hd=>exact ⟨_,ds,rfl,hd,bK.mp h⟩
   ·exact (gC.mp h).elim
  ·exact (gC.mp h).elim
 ·obtain ⟨i,ds,rfl,hd,h⟩:=h
  simp only [hd]
  exact bK.mpr h
theorem Q9 {δ:au} {fa:au->Dm (List D)} {R:Src->Store->Prop}:Wp (kI fa δ st) R↔Wp (fa δ st) fun as st1=>∃ ds,as=[.tup ds]/\R (.fix (fu ds)) st1:=by
 unfold kI;rw [dO]
 constructor <;> refine fun h=>a7 h fun as s h=>?_
 ·split at h
  ·exact ⟨_,rfl,bK.mp h⟩
  ·exact (gC.mp h).elim
 ·obtain ⟨ds,rfl,h⟩:=h
  exact bK.mpr h
theorem IF {i:Nat} {d:D} {δ:au} {R:au->Store->Prop}:Wp (hName i d δ st) R↔R (δ.set i (some d)) st:=bK
theorem Ra {δ:au} {R:au->Store->Prop}:Wp (lh [] δ st) R↔R δ st:=bK
theorem Rb {f:D->au->Dm au} {g:List D->au->Dm au} {d:D} {ds:List D} {δ:au} {R:au->Store->Prop}:Wp (cf f g (d :: ds) δ st) R↔Wp (f d δ st) fun δ1 st1=>Wp (g ds δ1 st1) R:=dO
theorem Rc {n:Nat} {f:List D->au->Dm au} {ds:List D} {δ:au} {R:au->Store->Prop}:Wp (kH n f (.tup ds) δ st) R↔ds.length=n/\Wp (f ds δ st) R:=by
 show Wp (if ds.length=n then f ds δ st else none) R↔_
 rw [nE,gC]
 split
 ·next h=>exact ⟨fun q=>⟨h,q⟩,fun q=>q.2⟩
 ·next h=>exact ⟨False.elim,fun q=>h q.1⟩
theorem IG {fo fi:au->Dm D} {d:D} {δ:au} {R:au->Store->Prop}:Wp (hSub fo fi d δ st) R↔Wp (fo δ st) fun o st1=>Wp (fi δ st1) fun i st2=>∃ r k xs j,o=.ref r/\i=.int k/\own st2 r=some xs/\lW xs.length k=some j/\R δ (st2.set r (.lst (xs.set j d))):=by
 unfold hSub;rw [dO];simp only [dO]
 constructor <;> refine fun h=>a7 h fun o s h=>a7 h fun i s2 h=>?_
 ·split at h
  ·split at h
   ·next xs hx =>
    split at h
    ·next j hj=>exact ⟨_,_,xs,j,rfl,rfl,hx,hj,bK.mp h⟩
    ·exact (gC.mp h).elim
   ·exact (gC.mp h).elim
  ·exact (gC.mp h).elim
 ·obtain ⟨r,k,xs,j,rfl,rfl,hx,hj,h⟩:=h
  simp only [hx,hj]
  exact bK.mpr h
theorem Rf {a:D} {c:String}:Wp (nU [a,.ty c] st) Q↔qC st a=some c/\Q (.bl true) st:=by
 constructor
 ·rintro ⟨b,s,e,q⟩
  simp only [nU] at e
  split at e
  ·next T hT =>
   split at e
   ·next h=>cases e;subst h;exact ⟨hT,q⟩
   ·cases e
  ·cases e
 ·rintro ⟨h,q⟩
  refine ⟨_,_,?_,q⟩
  simp only [nU,h,if_true]
theorem L7 {δ:au} {R:Bool->Store->Prop}:Wp (dc δ st) R↔R true st:=bK
end
theorem L8 {α:Type} (x:α) (xs:List α):d5 (x :: xs) 0=some x:=by
 unfold d5 lW
 rw [if_pos (by decide),if_pos (by simp only [VJ];omega)]
 rfl
theorem L9 {α:Type} (x y:α) (xs:List α):d5 (x :: y :: xs) 1=some y:=by
 unfold d5 lW
 rw [if_pos (by decide),if_pos (by simp only [VJ];omega)]
 rfl
theorem x9 {α:Type} {a:α} {l:List α}:(a :: l)[0]?=some a:=List.getElem?_cons_zero
theorem ya {α:Type} {a:α} {l:List α} {i:Nat}:(a :: l)[i + 1]?=l[i]?:=List.getElem?_cons_succ
theorem yb {α:Type} {a b:α} {l:List α}:(a :: l).set 0 b=b :: l:=List.set_cons_zero
theorem yc {α:Type} {a b:α} {l:List α} {i:Nat}:(a :: l).set (i + 1) b=a :: l.set i b:=List.set_cons_succ
theorem yd {α:Type} (a b:α):(some a=some b)=(a=b):=Option.some.injEq a b
theorem Ct {α:Type} {p:α->Prop} {a':α}:(∃ a,a'=a/\p a)↔p a':=exists_eq_left'
theorem IH {α:Type} {p:α->Prop} {a':α}:(∃ a,a=a'/\p a)↔p a':=exists_eq_left
theorem Cu {α:Type} {p:α->Prop} {b:Prop}:(∃ x,b/\p x)↔b/\∃ x,p x:=exists_and_left
theorem Cv (a b:Int):(D.int a=D.int b)=(a=b):=D.int.injEq a b
theorem II (a b:Bool):(D.bl a=D.bl b)=(a=b):=D.bl.injEq a b
theorem Cw (a b:Str):(D.str a=D.str b)=(a=b):=D.str.injEq a b
theorem Cy (a b:List D):(D.tup a=D.tup b)=(a=b):=D.tup.injEq a b
theorem Cz (a b:Nat):(D.ref a=D.ref b)=(a=b):=D.ref.injEq a b
theorem ye {α:Type} (a:α) (l:List α) (b:α) (m:List α):(a :: l=b :: m)=(a=b/\l=m):=List.cons.injEq a l b m
theorem yf {α β:Type} (a:α) (b:β) (c:α) (d:β):((a,b)=(c,d))=(a=c/\b=d):=Prod.mk.injEq a b c d
theorem yg (p:Prop):(p/\True)=p:=and_true p
theorem yh (p:Prop):(True/\p)=p:=true_and p
theorem yi:(!true)=false:=rfl
theorem yj:(!false)=true:=rfl
theorem IJ:(false=true)=False:=by simp
theorem CA {α:Type} {h:Decidable False} (t e:α):@ite α False h t e=e:=if_false t e
theorem CB {α:Type} {h:Decidable True} (t e:α):@ite α True h t e=t:=if_true t e
def bC:=And.intro @xE (And.intro @Ir (And.intro @Cd (And.intro @Ce (And.intro @Cf (And.intro @xF (And.intro @Qq (And.intro @xG (And.intro @xH (And.intro @Qr (And.intro @xI (And.intro @xJ (And.intro @Ci (And.intro @vh (And.intro @Iu (And.intro @xK (And.intro @Qs (And.intro @Qu (And.intro @Qv (And.intro @Cj (And.intro @Ck (And.intro @xM (And.intro @xN (And.intro @Cm (And.intro @Cn (And.intro @Cp (And.intro @Cq (And.intro @xO (And.intro @xP (And.intro @Qw (And.intro @xQ (And.intro @xR (And.intro @xS (And.intro @xT (And.intro @xU (And.intro @xV (And.intro @xW (And.intro @xX (And.intro @Qx (And.intro @xY (And.intro @xZ (And.intro @Qy (And.intro @Qz (And.intro @QA (And.intro @QB (And.intro @QC (And.intro @QD (And.intro @QE (And.intro @QF (And.intro @QG (And.intro @QK (And.intro @QL (And.intro @x3 (And.intro @QM (And.intro @QN (And.intro @QO (And.intro @qe (And.intro @QQ (And.intro @QR (And.intro @QS (And.intro @QT (And.intro @QU (And.intro @QV (And.intro @QW (And.intro @Iz (And.intro @QX (And.intro @QY (And.intro @x4 (And.intro @QZ (And.intro @Q0 (And.intro @L5 (And.intro @x5 (And.intro @x8 (And.intro @Q5 (And.intro @Q6 (And.intro @Q7 (And.intro @Q8 (And.intro @Q9 (And.intro @IF (And.intro @Ra (And.intro @Rb (And.intro @Rc (And.intro @IG (And.intro @Rf (And.intro @L7 (And.intro @L8 (And.intro @L9 (And.intro @x9 (And.intro @ya (And.intro @yb (And.intro @yc (And.intro @yd (And.intro @Ct (And.intro @IH (And.intro @Cu (And.intro @Cv (And.intro @II (And.intro @Cw (And.intro @Cy (And.intro @Cz (And.intro @ye (And.intro @yf (And.intro @yg (And.intro @yh (And.intro @yi (And.intro @yj (And.intro @IJ (And.intro @CA (@CB))))))))))))))))))))))))))))))))))))))))))))))))))))))))))))))))))))))))))))))))))))))))))))))))))))))))))))
theorem cj {α:Type} {m:Option (α×Store)} {Q:α->Store->Prop} (h:∀ Q':α->Store->Prop,(∀ a st,Q a st->Q' a st)->Wp m Q'):Wp m Q:=h Q fun _ _ h=>h
section
variable {X:Cx} {K:Zfr}
theorem Ma:∀ {ns:List Int},(∀ i∈ns,Hv i)->PyData.weightAll (cY ns)<=65 * ns.length
 | [],_=>by show PyData.weightAll []<=0;simp only [PyData.weightAll];exact Vh _
 | n :: r,h=>by
  have ih:=Ma (ns:=r) fun i hi=>h i (Vp _ hi)
  have hn:=h n Vl
  have hw:(PyData.int n).weight<=64:=by
   simp only [PyData.weight]
   split
   ·omega
   ·have:n.natAbs < 2 ^ 63:=by unfold Hv at hn;omega
    have h2:n.natAbs.log2 < 63:=by
     by_cases h0:n.natAbs=0
     ·rw [h0];decide
     ·exact (Nat.log2_lt h0).mpr this
    omega
  show PyData.weightAll (PyData.int n :: cY r)<=65 * (r.length + 1)
  simp only [PyData.weightAll]
  omega
def nX (K:Zfr):V->List V->Hp->VK->Prop:=fun x vs H Q=>∃ (a:Addr) (ns:List Int) (v:Int),x=.ref a/\vs=[.int v]/\j3 K H a (ns.map V.int)/\v∈ns/\ns.length<=1000/\(∀ i∈ns,Hv i)/\Q (.int (ns.idxOf v:Int)) H
theorem IK:uH X "list.index" (nX X.K):=by
 intro pins s σ H x xs v us Q I rx rv h
 obtain ⟨a,ns,y,rfl,rfl,hq,hm,hl,hb,q⟩:=h
 cases rx
 obtain ⟨u,rfl,t,rfl⟩:=vals1 rv
 obtain ⟨its,r,pl,hz⟩:=I.list hq
 exact PyProof.Rows.index_list_ints (vs:=its) pl.isList (G0 r) (by
  have hw:=Ma hb
  have c1:(PyData.list (List.map PyData.int ns)).canLay0=true:=wK ns
  have c2:(PyData.list (List.map PyData.int ns)).depth<=64:=by show PyData.depthAll (cY ns) + 1<=64;rw [zv];omega
  have c3:(PyData.list (List.map PyData.int ns)).weight<=2 ^ 20:=by simp only [PyData.weight];exact VL hw (by omega)
  show (_ && _ && _)=true
  rw [c1,decide_eq_true c2,decide_eq_true c3];rfl) hm ⟨.int _,H,I.tok _,⟨_,rfl⟩,q⟩
theorem Rg (hK:X.K=K):uH X "list.index" (nX K):=by subst hK;exact IK
theorem IL:sL K "list" (nX K) gG:=by
 intro ρ H st x xs a as b st' Q l rx oU e q
 unfold gG at e
 split at e
 ·split at e
  ·next ns hn =>
   split at e
   ·next hm =>
    cases e
    obtain ⟨v,rfl,r⟩:=oU.one'
    cases r
    cases rx with
    | ref hi =>
     obtain ⟨ds,h1,h2⟩:=V4.mp hn
     obtain ⟨vs,s,r⟩:=l.items hi h1
     cases EZ r h2
     exact ⟨_,ns,_,rfl,rfl,s,hm.1,hm.2.1,hm.2.2,q _ H ρ .refl l (.int _)⟩
   ·cases e
  ·cases e
 ·cases e
end
section
variable {st:Store} {Q:D->Store->Prop}
theorem Mb (n:Nat) (L:List Int):cz (fU st (n + 1)) (L.map D.int)=some (cY L):=ve (f:=fU st (n + 1)) (g:=D.int) (k:=PyData.int) (fun _=>by simp only [fU]) L
theorem IP (a b:List PyData):PyData.eqv (.list a) (.list b)=PyData.eqvAll a b:=by simp only [PyData.eqv]
theorem E4 (a b:List PyData):PyData.eqv (.tuple a) (.tuple b)=PyData.eqvAll a b:=by simp only [PyData.eqv]
theorem Mc {neg:Bool} {a b:Nat} {L M:List Int} (ha:items st a=some (L.map D.int)) (hb:items st b=some (M.map D.int)):Wp (e8 neg (.ref a) (.ref b) st) Q↔Q (.bl (if neg then !decide (L=M) else decide (L=M))) st:=by
 have p1:∀ (i:Nat) (N:List Int),items st i=some (N.map D.int)->fU st 20 (.ref i)=some (.list (cY N)):=fun i N h=>by
  simp only [fU,h]
  rw [Mb];rfl
 have dp:∀ N:List Int,PyData.depth (.list (cY N))<=1:=fun N=>by show PyData.depthAll (cY N) + 1<=1;rw [zv];omega
 rw [IE]
 constructor
 ·rintro ⟨p,q,h1,h2,_,h⟩
  rw [p1 a L ha] at h1
  rw [p1 b M hb] at h2
  cases h1
  cases h2
  rw [IP,Bn] at h
  exact h
 ·intro h
  refine ⟨_,_,p1 a L ha,p1 b M hb,⟨wK L,wK M,by have:=dp L;omega⟩,?_⟩
  rw [IP,Bn]
  exact h
def CC (rs:List (List Int)):D:=.tup (rs.map fun r=>.tup (r.map D.int))
theorem IQ (rs:List (List Int)):fU st 20 (CC rs)=some (.tuple (rs.map kD)):=by
 unfold CC
 simp only [fU]
 rw [ve (f:=fU st 19) (g:=fun r:List Int=>D.tup (r.map D.int)) (k:=kD) (fun r=>by simp only [fU];rw [Mb];rfl) rs]
 rfl
theorem IU:∀ (rs ss:List (List Int)),PyData.eqvAll (rs.map kD) (ss.map kD)=decide (rs=ss)
 | [],[]=>rfl
 | [],_ :: _=>rfl
 | _ :: _,[]=>rfl
 | r :: rs,s :: ss=>by
  show (PyData.eqv (kD r) (kD s) && PyData.eqvAll (rs.map kD) (ss.map kD))=decide (r :: rs=s :: ss)
  rw [IU rs ss]
  unfold kD
  rw [E4,Bn]
  by_cases h:r=s
  ·subst h;simp
  ·simp [h]
theorem Rh {neg:Bool} {rs ss:List (List Int)}:Wp (e8 neg (CC rs) (CC ss) st) Q↔Q (.bl (if neg then !decide (rs=ss) else decide (rs=ss))) st:=by
 have dp:∀ rs:List (List Int),PyData.depth (.tuple (rs.map kD))<=2:=fun N=>by show PyData.depthAll (N.map kD) + 1<=2;have:=KY N;omega
 rw [IE]
 constructor
 ·rintro ⟨p,q,h1,h2,_,h⟩
  rw [IQ] at h1 h2
  cases h1
  cases h2
  rw [E4,IU] at h
  exact h
 ·intro h
  refine ⟨_,_,IQ rs,IQ ss,⟨Hu rs,Hu ss,by have:=dp rs;omega⟩,?_⟩
  rw [E4,IU]
  exact h
end
def aW (st:Store) (f:Nat):Prop:=∃ o m:Int,st[f]?=some (.lst [.int o,.int m])/\0<=o/\0<=m/\m < 4294967296
theorem CD:lW 2 0=some 0:=by decide
theorem CF:lW 2 1=some 1:=by decide
theorem pC (n:Nat):aJ 0 n=(af.upto n).map D.int:=by
 unfold aJ af.upto
 rw [VB]
 apply VS
 intro i _
 simp
theorem Ri (L:List Int) (j:Nat):(L.map D.int).eraseIdx j=(L.eraseIdx j).map D.int:=by
 induction L generalizing j with
 | nil=>rfl
 | cons a r ih =>
  cases j with
  | zero=>rfl
  | succ j=>show D.int a :: (r.map D.int).eraseIdx j=_;rw [ih];rfl
theorem Rj {L:List Int} {j:Nat} (h:j < L.length):(L[j] :: L.eraseIdx j).Perm L:=by
 induction L generalizing j with
 | nil=>exact absurd h (VY _)
 | cons a r ih =>
  cases j with
  | zero=>exact WO _
  | succ j =>
   have:=ih (j:=j) (by simpa using h)
   exact (List.Perm.swap _ _ _).trans (this.cons a)
theorem aW.keep {st st':Store} {f:Nat} (h:aW st f) (e:Ex [] st st'):aW st' f:=by
 obtain ⟨o,m,e1,r⟩:=h
 exact ⟨o,m,e.keep _ _ e1 (by simp),r⟩
theorem aW.ne {st:Store} {f i:Nat} {o:O} (h:aW st f) (hi:i≠f):aW (st.set i o) f:=by
 obtain ⟨x,m,e1,r⟩:=h
 exact ⟨x,m,by rw [Vq hi];exact e1,r⟩
theorem aW.lt {st:Store} {f:Nat} (h:aW st f):f < st.length:=let ⟨_,_,e,_⟩:=h;dH e
theorem pD {xs:List Int} {i:Int} (h0:0<=i) (h1:i < (xs.length:Int)):d5 (xs.map D.int) i=some (.int (af.app xs i)):=by
 have e:(xs.map D.int)[i.toNat]?=some (.int (af.app xs i)):=by rw [Vm,af.oN h0 h1];rfl
 have:=zq e
 rwa [VH h0] at this
theorem CG {xs:List Int} {i:Nat} {d:D} (h:(xs.map D.int)[i]?=some d):∃ x,xs[i]?=some x/\d=.int x:=by
 rw [Vm] at h
 obtain ⟨x,h1,h2⟩:=VR.mp h
 exact ⟨x,h1,h2.symm⟩
theorem IV (x:Int):∀ (ns:List Int),uK (.int x) (ns.map V.int)=ns.contains x
 | []=>rfl
 | n :: r=>by
  have e:=IV x r
  unfold uK at e ⊢
  rw [Vy,V9,e,List.contains_cons]
  congr 1
  show (n == x)=(x == n)
  exact Bool.beq_comm
theorem E5 {st:Store} {Q:D->Store->Prop} {neg:Bool} {x:Int} {c:D} {ns:List Int} (hc:cZ st c=some (ns.map D.int)):Wp (qP neg (.int x) c st) Q↔Q (.bl (if neg then !ns.contains x else ns.contains x)) st:=by
 rw [Cs]
 constructor
 ·rintro ⟨v,ds,vs,h1,h2,h3,h⟩
  cases h1
  rw [hc] at h2
  cases h2
  rw [L6] at h3
  cases h3
  rw [IV] at h
  exact h
 ·intro h
  refine ⟨_,_,_,rfl,hc,L6 ns,?_⟩
  rw [IV]
  exact h
def cq (xs ys:List Int):D:=.tup [.tup (xs.map D.int),.tup (ys.map D.int)]
structure nY (lj st:Store) (f r u:Nat) (n:Nat) (X Y:List Int):Prop where
 hr:st[r]?=some (.lst (X.map D.int))
 hu:st[u]?=some (.lst (Y.map D.int))
 ne:r≠u
 r0:lj.length<=r
 u0:lj.length<=u
 tX:af.Tn n X
 tY:af.Tn n Y
 fd:aW st f
 ex:Ex [f] lj st
section
variable {lj st st':Store} {f r u n:Nat} {X Y Z:List Int} {o:O}
theorem nY.keep (h:nY lj st f r u n X Y) (e:Ex [] st st'):nY lj st' f r u n X Y:=⟨e.keep _ _ h.hr (by simp),e.keep _ _ h.hu (by simp),h.ne,h.r0,h.u0,h.tX,h.tY,h.fd.keep e,h.ex.trans e.any⟩
theorem nY.yk (h:nY lj st f r u n X Y) (t:af.Tn n Z):nY lj (st ++ [.lst (Z.map D.int)]) f st.length u n Z Y:=⟨h7,hW h.hu,by have:=dH h.hu;omega,h.ex.len,h.u0,t,h.tY,h.fd.keep (Ex.cB _),h.ex.app _⟩
theorem nY.yl (h:nY lj st f r u n X Y) (t:af.Tn n Z):nY lj (st ++ [.lst (Z.map D.int)]) f r st.length n X Z:=⟨hW h.hr,h7,by have:=dH h.hr;omega,h.r0,h.ex.len,h.tX,t,h.fd.keep (Ex.cB _),h.ex.app _⟩
theorem nY.put (h:nY lj st f r u n X Y) (t:af.Tn n Z) (hf:f < lj.length):nY lj (st.set r (.lst (Z.map D.int))) f r u n Z Y:=⟨Vi (dH h.hr),by rw [Vq h.ne];exact h.hu,h.ne,h.r0,h.u0,t,h.tY,h.fd.ne (by have:=h.r0;omega),h.ex.loc h.r0⟩
end
theorem Md (n:Nat):(af.p4 n).map D.int=aJ 1 ((n:Int) - 1).toNat ++ [.int 0]:=by
 unfold af.p4 aJ
 rw [Vx,VB,show ((n:Int) - 1).toNat=n - 1 by omega]
 rfl
theorem ua {lo hi:Int} (h:0<=lo/\lo<=10000/\0<=hi/\hi<=10000):m8 lo hi=true:=by
 unfold m8;rw [VE,decide_eq_true_eq];exact ⟨by omega,jz (by omega)⟩
theorem ym (w n:Nat):(af.rM w n).map D.int=aJ 1 ((w:Int) - 1).toNat ++ [.int 0] ++ aJ (w:Int) ((n:Int) - (w:Int)).toNat:=by
 unfold af.rM aJ
 rw [Vx,Vx,VB,VB,show ((w:Int) - 1).toNat=w - 1 by omega,show ((n:Int) - (w:Int)).toNat=n - w by omega]
 rfl
theorem IW (xs:List D) (j:Nat):cutD xs none (some (j:Int))=xs.take j:=by
 unfold cutD
 rw [HT.NV,HT.NW,Xi,Nat.sub_zero,List.take_eq_take_iff];omega
theorem yn {w n:Nat} (h0:0 < w) (h:w < n):(af.tO w n).map D.int=cutD ([D.int (w:Int)] ++ aJ 1 ((w:Int) - 1).toNat ++ aJ ((w:Int) + 1) ((n:Int) - ((w:Int) + 1)).toNat ++ [.int 0]) none (some (n:Int)):=by
 rw [IW,WH (by simp [gH];omega)]
 unfold af.tO aJ
 rw [Vx,Vx,Vx,VB,VB,show ((w:Int) - 1).toNat=w - 1 by omega,show ((n:Int) - ((w:Int) + 1)).toNat=n - (w + 1) by omega]
 rfl
def ng (n:Nat) (xs ys:List Int):Prop:=af.Tn n xs/\af.Tn n ys/\∀ x:Int,0<=x->x < (n:Int)->af.jD xs ys x
theorem Me {xs:List Int} {v:Int} (h:v∈xs):xs.findIdx? (fun i=>decide (i=v))=some (xs.idxOf v):=by
 induction xs with
 | nil=>exact nomatch h
 | cons a r ih =>
  rw [List.findIdx?_cons]
  by_cases e:a=v
  ·subst e;simp
  ·have hm:v∈r:=by
    rcases VF.mp h with h | h
    ·exact absurd h.symm e
    ·exact h
   rw [decide_eq_false e,ih hm,Xf,show (a == v)=false by simpa using e]
   rfl
def qf (S:Src) (ds:List D) (st:Store):Prop:=∀ (i:Nat) (st2:Store),i<=ds.length->Ex [] st st2->S.at i st2=some ds[i]?
theorem Rm {st st':Store} {r:Nat} {ds:List D} (h:items st r=some ds) (e:Ex [] st st'):items st' r=some ds:=by
 unfold items at h ⊢
 cases hx:st[r]? with
 | none=>rw [hx] at h;cases h
 | some o=>rw [e.keep _ _ hx (by simp)];rw [hx] at h;exact h
theorem qg (ds:List D) (st:Store):qf (.fix ds) ds st:=fun i st2 hi _=>by
 show (if i<=ds.length then some ds[i]? else none)=_
 rw [if_pos hi]
theorem Mf {ds:List D} {st:Store} {r:Nat} (h:items st r=some ds):qf (.live r) ds st:=fun i st2 hi e=>by
 show (items st2 r).map _=_
 rw [Rm h e];rfl
theorem pE {δ:au} {st:Store} {fi:au->Dm Src} {js:List Nat} {f:au->Dm D} {Q:D->Store->Prop} (ds:List D) (h:D->D) (hi:Wp (fi δ st) fun S st1=>qf S ds st1/\Ex [] st st1) (hl:ds.length < 100000)
  (step:∀ d∈ds,∀ st1,Ex [] st st1->Wp (f (some d :: js.map fun j=>δ.getD j none) st1) fun y st2=>y=h d/\Ex [] st1 st2) (fin:∀ st',Ex [] st st'->Q (.ref st'.length) (st' ++ [.lst (ds.map h)])):Wp (cD fi 1 js (hName 0) dc f δ st) Q:=by
 obtain ⟨S,st1,e1,hS,k1⟩:=hi
 refine Iw ds (fun i ys δ' lA=>(∃ v,δ'=v :: js.map fun j=>δ.getD j none)/\ys=(ds.take i).map h/\Ex [] st1 lA) ⟨S,st1,e1,fun i ys δ' lA hi' hp=>hS i lA hi' hp.2.2,⟨none,rfl⟩,rfl,Ex.refl⟩ hl ?_ ?_ ?_
 ·rintro i ys δ' lA ⟨_,rfl,_⟩
  rw [Vd,V6];omega
 ·rintro i d ys δ' lA hd ⟨⟨v,rfl⟩,rfl,k8⟩
  rw [IF]
  show Wp (dc _ _) _
  rw [L7]
  refine ⟨fun _=>?_,fun h=>absurd h (by decide)⟩
  refine a7 (step d (Vk hd) lA (k1.trans k8)) ?_
  rintro y oW ⟨rfl,k9⟩
  refine ⟨⟨some d,rfl⟩,?_,k8.trans k9⟩
  obtain ⟨hlt,e⟩:=Ve.mp hd
  rw [VM hlt,Vx,e];rfl
 ·rintro ys δ' lA ⟨_,rfl,k8⟩
  rw [Wj]
  exact fin lA (k1.trans k8)
theorem vn {xs:List Int} {d:D} (h:d∈xs.map D.int):∃ x∈xs,d=.int x:=by
 obtain ⟨x,hx,rfl⟩:=Vn.mp h
 exact ⟨x,hx,rfl⟩
theorem zN {xs:List Int} {f:Int->Int} {h:D->D} (e:∀ x∈xs,h (.int x)=.int (f x)):(xs.map D.int).map h=(xs.map f).map D.int:=by
 rw [VB,VB]
 exact VS fun x hx=>e x hx
def inD:D->Int
 | .int i=>i
 | _=>0
section
variable {st:Store} {Q:D->Store->Prop}
theorem Rn {neg:Bool} {xs ys zs ws:List Int}:Wp (e8 neg (cq xs ys) (cq zs ws) st) Q↔Q (.bl (if neg then !decide ([xs,ys]=[zs,ws]) else decide ([xs,ys]=[zs,ws]))) st:=Rh (rs:=[xs,ys]) (ss:=[zs,ws])
end
theorem Mg (zs:List Int):(zs.map D.int).map inD=zs:=by rw [VB];exact Wd zs
theorem _root_.af.qh {n:Nat} {xs ys p:List Int} (fl:ng n xs ys) (tp:af.Tn n p) (n0:0 < n):ng n (af.anew xs p) (af.anew ys p):=by
 obtain ⟨tx,ty,all⟩:=fl
 have tX:=tx.anew tp
 have tY:=ty.anew tp
 refine ⟨tX,tY,fun x x0 x1=>?_⟩
 obtain ⟨a0,a1⟩:=tp.app (i:=0) (by decide) (by omega)
 have hb:∀ y:Int,0<=y->y < (n:Int)->y∈af.bf (af.anew xs p) (af.anew ys p) (af.app p 0) n:=fun y y0 y1=>by
  rw [af.HJ tx ty tp (by decide) (by omega) n]
  obtain ⟨b0,b1⟩:=tp.lX y0 y1
  exact Vn.mpr ⟨af.app (af.inv p) y,af.Ln tx ty (by decide) (by omega) all b0 b1,tp.cV y0 y1⟩
 have hF:=af.HI tX tY (s:=0) (by decide) (by omega)
 have nd:=af.wZ (af.anew xs p) (af.anew ys p) 0 n
 have bd:=af.qv tX tY (s:=0) (by decide) (by omega) n
 have Rq:∀ k,∀ y∈af.bf (af.anew xs p) (af.anew ys p) 0 k,af.jD (af.anew xs p) (af.anew ys p) y:=by
  intro k
  induction k with
  | zero=>intro y hy;rw [Vz.mp (show y∈[(0:Int)] from hy)];exact .zero
  | succ k ih =>
   intro y hy
   have hy':y∈(match (af.bf (af.anew xs p) (af.anew ys p) 0 k)[k]? with | some x=>af.visit (af.anew xs p) (af.anew ys p) (af.bf (af.anew xs p) (af.anew ys p) 0 k) x | none=>af.bf (af.anew xs p) (af.anew ys p) 0 k):=hy
   split at hy'
   ·next z hz =>
    have u3:=ih z (Vk hz)
    rcases af.p6.mp hy' with hy' | rfl
    ·rcases af.p6.mp hy' with hy' | rfl
     ·exact ih y hy'
     ·exact u3.r
    ·exact u3.u
   ·exact ih y hy'
 refine Rq n x ?_
 have z0:(0:Int)∈af.bf (af.anew xs p) (af.anew ys p) 0 n:=by
  have:=af.wY (af.anew xs p) (af.anew ys p) 0 0 n
  rw [WQ] at this
  exact this.subset (show (0:Int)∈[(0:Int)] by simp)
 have back:∀ k,(∃ y∈af.bf (af.anew xs p) (af.anew ys p) (af.app p 0) k,y∈af.bf (af.anew xs p) (af.anew ys p) 0 n)->af.app p 0∈af.bf (af.anew xs p) (af.anew ys p) 0 n:=by
  intro k
  induction k with
  | zero =>
   rintro ⟨y,hy,tK⟩
   rw [Vz.mp (show y∈[af.app p 0] from hy)] at tK
   exact tK
  | succ k ih =>
   rintro ⟨y,hy,tK⟩
   have hy':y∈(match (af.bf (af.anew xs p) (af.anew ys p) (af.app p 0) k)[k]? with | some x=>af.visit (af.anew xs p) (af.anew ys p) (af.bf (af.anew xs p) (af.anew ys p) (af.app p 0) k) x | none=>af.bf (af.anew xs p) (af.anew ys p) (af.app p 0) k):=hy
   split at hy'
   ·next z hz =>
    have zB:=Vk hz
    obtain ⟨c0,c1⟩:=af.qv tX tY a0 a1 k z zB
    rcases af.p6.mp hy' with hy' | rfl
    ·rcases af.p6.mp hy' with hy' | rfl
     ·exact ih ⟨y,hy',tK⟩
     ·exact ih ⟨z,zB,af.BJ tX nd bd (fun x hx=>(hF x hx).1) c0 c1 tK⟩
    ·exact ih ⟨z,zB,af.BJ tY nd bd (fun x hx=>(hF x hx).2) c0 c1 tK⟩
   ·exact ih ⟨y,hy',tK⟩
 have hp0:=back n ⟨0,hb 0 (by decide) (by omega),z0⟩
 have fwd:∀ k,∀ y∈af.bf (af.anew xs p) (af.anew ys p) (af.app p 0) k,y∈af.bf (af.anew xs p) (af.anew ys p) 0 n:=by
  intro k
  induction k with
  | zero=>intro y hy;rw [Vz.mp (show y∈[af.app p 0] from hy)];exact hp0
  | succ k ih =>
   intro y hy
   have hy':y∈(match (af.bf (af.anew xs p) (af.anew ys p) (af.app p 0) k)[k]? with | some x=>af.visit (af.anew xs p) (af.anew ys p) (af.bf (af.anew xs p) (af.anew ys p) (af.app p 0) k) x | none=>af.bf (af.anew xs p) (af.anew ys p) (af.app p 0) k):=hy
   split at hy'
   ·next z hz =>
    have u3:=ih z (Vk hz)
    rcases af.p6.mp hy' with hy' | rfl
    ·rcases af.p6.mp hy' with hy' | rfl
     ·exact ih y hy'
     ·exact (hF z u3).1
    ·exact (hF z u3).2
   ·exact ih y hy'
 exact fwd n x (hb x x0 x1)
theorem yo (p:Key×D) (r:List (Key×D)) (k:Key):d4 (p :: r) k=if p.1=k then some p.2 else d4 r k:=by
 unfold d4
 rw [Wb]
 by_cases e:p.1=k
 ·rw [decide_eq_true e,if_pos e];rfl
 ·rw [decide_eq_false e,if_neg e]
theorem Rr (kvs:List (Key×D)) (k j:Key) (y:D):d4 (putD kvs k y) j=if j=k then some y else d4 kvs j:=by
 unfold putD
 by_cases a:(kvs.any fun kv=>decide (kv.1=k))=true
 ·rw [if_pos a]
  induction kvs with
  | nil=>simp at a
  | cons p r ih =>
   rw [Vy,yo,yo]
   by_cases e:p.1=k
   ·rw [if_pos e]
    by_cases ej:j=k
    ·rw [if_pos ej,if_pos (show (p.1,y).1=j from e.trans ej.symm)]
    ·rw [if_neg ej,if_neg (show ¬ (p.1,y).1=j from fun z=>ej (z.symm.trans e)),if_neg (fun z=>ej (z.symm.trans e))]
     have:∀ l:List (Key×D),d4 (l.map fun kv=>if kv.1=k then (kv.1,y) else kv) j=d4 l j:=by
      intro l
      induction l with
      | nil=>rfl
      | cons q l ihl =>
       rw [Vy,yo,yo,ihl]
       by_cases eq:q.1=k
       ·rw [if_pos eq,if_neg (show ¬ (q.1,y).1=j from fun z=>ej (z.symm.trans eq)),if_neg (fun z=>ej (z.symm.trans eq))]
       ·rw [if_neg eq]
     exact this r
   ·rw [if_neg e]
    have a':(r.any fun kv=>decide (kv.1=k))=true:=by
     rw [V9,decide_eq_false e,Bool.false_or] at a
     exact a
    rw [ih a']
    by_cases ej:j=k
    ·rw [if_pos ej,if_neg (fun z=>e (z.trans ej)),if_pos ej]
    ·rw [if_neg ej,if_neg ej]
 ·rw [if_neg a]
  induction kvs with
  | nil =>
   show d4 [(k,y)] j=_
   rw [yo]
   by_cases ej:j=k
   ·rw [if_pos ej.symm,if_pos ej]
   ·rw [if_neg (fun z=>ej z.symm),if_neg ej]
  | cons p r ih =>
   have a':¬ (r.any fun kv=>decide (kv.1=k))=true:=fun z=>a (by rw [V9,z,Bool.or_true])
   have ep:p.1≠k:=fun z=>a (by rw [V9,decide_eq_true z,Bool.true_or])
   rw [List.cons_append,yo,ih a',yo]
   by_cases ej:j=k
   ·rw [if_pos ej,if_pos ej,if_neg (fun z=>ep (z.trans ej))]
   ·rw [if_neg ej,if_neg ej]
theorem Rv (kvs:List (Key×D)) (k:Key) (v:D):(putD kvs k v).length<=kvs.length + 1:=by
 unfold putD
 split
 ·rw [Vd];omega
 ·rw [Vj,VJ,List.length_nil];omega
theorem Mh {st:Store} {i:Nat} {kvs:List (Key×D)} (h:st[i]?=some (.dct kvs)):jL st (.ref i)=some kvs:=by simp only [jL,h]
theorem Mi (i:Int):keyOf (.int i)=some (.inl i):=rfl
theorem Rw {r:List Int} {j:Nat} (h:j < r.length) (x:Int):(r.take (j + 1)).contains x=((r.take j).contains x || x == r[j]):=by
 rw [VM h,List.contains_append]
 congr 1
 show ([r[j]]:List Int).contains x=(x == r[j])
 rw [List.contains_cons,List.contains_nil,Bool.or_false]
abbrev fw:=Bool×Int
def bF (s:fw):D:=.tup [.str (if s.1 then "s" else "t"),.int s.2]
section
variable {X:Cx} {K:Zfr}
end
section
variable {K:Zfr}
def rZ (neg:Bool):D->D->Dm D
 | a,.non,st=>some (.bl (match a with | .non=>!neg | _=>neg),st)
 | _,_,_=>none
def vo (neg:Bool):R2:=fun x y H Q=>y=.non/\Q (.bl (if neg then !decide (x=.non) else decide (x=.non))) H
theorem yp (neg:Bool):md K (vo neg) (rZ neg):=by
 intro ρ H st x y a c b st' Q l rx ry e q
 unfold rZ at e
 split at e
 ·cases e
  cases ry
  refine ⟨rfl,?_⟩
  have k:=q _ H ρ .refl l (.bl _)
  cases rx <;> cases neg <;> exact k
 ·cases e
end
section
variable {X:Cx}
theorem Rx:kz X (compareOp .Is) (vo false):=vZ
end
section
variable {st:Store} {Q:D->Store->Prop}
theorem Ry {neg:Bool}:Wp (rZ neg .non .non st) Q↔Q (.bl (!neg)) st:=bK
theorem Rz {neg:Bool} {i:List D}:Wp (rZ neg (.tup i) .non st) Q↔Q (.bl neg) st:=bK
theorem yq {neg a b:Bool}:Wp (iO neg (.bl a) (.bl b) st) Q↔Q (.bl (if neg then !decide (a=b) else decide (a=b))) st:=by
 have e:decide (V.bl a=V.bl b)=decide (a=b):=by
  by_cases h:a=b
  ·subst h;simp
  ·simp [h]
 show Wp (if nL (V.bl a) (V.bl b)=true then some (D.bl (if neg then !decide (V.bl a=V.bl b) else decide (V.bl a=V.bl b)),st) else none) Q↔_
 rw [if_pos (show nL _ _=true from rfl),bK,e]
end
def oB (x:Str):List D:=x.cps.toList.map fun c=>.str ⟨#[c]⟩
section
variable {K:Zfr}
end
section
variable {st:Store} {Q:D->Store->Prop}
end
def Mj:D->Option (List D)
 | .tup ds=>some ds
 | .str x=>some (oB x)
 | _=>none
def CH:List D->List D->List D
 | a :: r,b :: t=>.tup [a,b] :: CH r t
 | _,_=>[]
def Mk (fa:au->Dm (List D)):au->Dm Src:=fun δ st=>bnd (fa δ st) fun as st1=>match as with
 | [a,b]=>match Mj a,Mj b with
  | some ds,some es=>some (.fix (CH ds es),st1)
  | _,_=>none
 | _=>none
section
variable {K:Zfr}
end
section
variable {st:Store}
end
def ub:List String:=["NoneType","bool","int","str","tuple","list","dict"]
def uc:List String:=["bool","int","str","tuple","list","dict"]
def yr (T c:String):Option Bool:=if ub.contains T && uc.contains c then some (T == c || (T == "bool" && c == "int")) else none
def kJ (T:String):List String->Option Bool
 | []=>some false
 | c :: r=>match yr T c with
  | some true=>some true
  | some false=>kJ T r
  | none=>none
def Ml:D->Option String
 | .ty n=>some n
 | _=>none
def CI:D->Option (List String)
 | .ty n=>some [n]
 | .tup ds=>cz Ml ds
 | _=>none
def pF:List D->Dm D
 | [a,c],st=>match qC st a,CI c with
  | some T,some cs=>match kJ T cs with
   | some b=>some (.bl b,st)
   | none=>none
  | _,_=>none
 | _,_=>none
theorem yt {st:Store} {Q:D->Store->Prop} {a c:D} {T:String} {cs:List String} {b:Bool} (h:qC st a=some T) (hc:CI c=some cs) (hb:kJ T cs=some b):Wp (pF [a,c] st) Q↔Q (.bl b) st:=by
 have e:pF [a,c] st=some (.bl b,st):=by simp only [pF,h,hc,hb]
 rw [e,bK]
section
variable {X:Cx} {K:Zfr}
theorem E6 (K:Zfr) {T c:String} {b:Bool} (h:yr T c=some b):PySem.W.kitOne K (.type T) (.type c)=some b:=by
 have hh:ub.contains T=true/\uc.contains c=true:=by
  unfold yr at h
  split at h
  ·next g=>simpa using g
  ·cases h
 have h1:T∈ub:=V3.mp hh.1
 have h2:c∈uc:=V3.mp hh.2
 unfold ub at h1
 unfold uc at h2
 simp only [VF,Xb,or_false] at h1 h2
 rcases h1 with rfl | rfl | rfl | rfl | rfl | rfl | rfl <;> rcases h2 with rfl | rfl | rfl | rfl | rfl | rfl <;> (cases h;rfl)
theorem Mm (K:Zfr) {T:String}:∀ {cs:List String} {b:Bool},kJ T cs=some b->PySem.W.kitAny K (.type T) (cs.map Value.type)=some b
 | [],b,h=>by cases h;rfl
 | c :: r,b,h=>by
  simp only [kJ] at h
  split at h
  ·next e=>cases h;simp only [Vy,PySem.W.kitAny,E6 K e]
  ·next e=>simp only [Vy,PySem.W.kitAny,E6 K e];exact Mm K h
  ·cases h
def IX (K:Zfr) (H:Hp) (x:V) (T:String):Prop:=lV K H x (.type T)\/(T="tuple" /\ ∃ a ys,x=.ref a/\ft K H a ys)
def CJ (K:Zfr):List V->Hp->VK->Prop:=fun xs H Q=>∃ x c T cs b,xs=[x,c]/\IX K H x T/\((∃ n,c=.ty n/\cs=[n])\/∃ p,c=.ref p/\ft K H p (cs.map V.ty))/\kJ T cs=some b/\Q (.bl b) H
theorem RA {pins:List (Addr×Obj)} {σ:St} {H:Hp} {s:Shared} {x:V} {u:Value} {T:String} (I:Inv X pins σ H s) (rx:RelV x u) (ty:IX X.K H x T):∃ Hh,PySem.W.KitX X.K u (.type T) Hh/\Hh s.heap/\u≠.builtin "__main__.__loader__#opaque" := by
 rcases ty with ty | ⟨rfl,a,ys,rfl,hs⟩
 ·generalize ht:Value.type T=t at ty
  cases ty with
  | non=>cases ht;cases (show u=Value.none from rx);exact ⟨_,PySem.W.kitx_none,True.intro,fun z=>nomatch z⟩
  | bl y=>cases ht;cases (show u=Value.bool y from rx);exact ⟨_,PySem.W.kitx_bool,True.intro,fun z=>nomatch z⟩
  | int i=>cases ht;obtain ⟨t,q⟩:=(show ∃ t,u=Value.int i t from rx);cases q;exact ⟨_,PySem.W.kitx_int,True.intro,fun z=>nomatch z⟩
  | str y=>cases ht;obtain ⟨t,q⟩:=(show ∃ t,u=Value.str y t from rx);cases q;exact ⟨_,PySem.W.kitx_str,True.intro,fun z=>nomatch z⟩
  | ze y=>cases ht;obtain ⟨t,q⟩:=(show ∃ t,u=Value.float y t from rx);cases q;exact ⟨_,PySem.W.kitx_float,True.intro,fun z=>nomatch z⟩
  | @lst a xs ea =>
   cases ht
   cases (show u=Value.ref a from rx)
   obtain ⟨_,_,n,_,h1⟩:=(show cy X.prog X.w H s.heap a (.lst xs) from I.hok a _ ea)
   exact ⟨_,PySem.W.kitx_list,⟨_,h1,rfl⟩,fun z=>nomatch z⟩
  | @ml a ob xs ea =>
   cases ht
   cases (show u=Value.ref a from rx)
   obtain ⟨_,_,_,n,_,h1⟩:=(show cy X.prog X.w H s.heap a (.ml ob (.lst xs)) from I.hok a _ ea)
   exact ⟨_,PySem.W.kitx_list,⟨_,h1,rfl⟩,fun z=>nomatch z⟩
  | @tup a xs ea =>
   cases ht
   cases (show u=Value.ref a from rx)
   obtain ⟨_,_,_,p⟩:=(show cy X.prog X.w H s.heap a (.tup xs) from I.hok a _ ea)
   obtain ⟨o,h1,h2,_⟩:=p
   exact ⟨_,PySem.W.kitx_tuple,⟨o,h1,h2⟩,fun z=>nomatch z⟩
  | @dK a kvs ea =>
   cases ht
   cases (show u=Value.ref a from rx)
   obtain ⟨_,_,vs,_,p⟩:=(show cy X.prog X.w H s.heap a (.dK kvs) from I.hok a _ ea)
   obtain ⟨o,es,ep,h1,h2,_⟩:=p
   exact ⟨_,PySem.W.kitx_dict,⟨o,h1,h2.1⟩,fun z=>nomatch z⟩
  | @dT a kvs ea =>
   cases ht
   cases (show u=Value.ref a from rx)
   obtain ⟨_,_,xs,_,o,es,ep,h1,h2,_⟩:=(show cy X.prog X.w H s.heap a (.dT kvs) from I.hok a _ ea)
   exact ⟨_,PySem.W.kitx_dict,⟨o,h1,h2.1⟩,fun z=>nomatch z⟩
  | ins=>cases ht
 ·cases (show u=Value.ref a from rx)
  obtain ⟨its,_,⟨o,h1,h2,_⟩,_⟩:=I.tuple hs
  exact ⟨_,PySem.W.kitx_tuple,⟨o,h1,h2⟩,fun z=>nomatch z⟩
theorem Mp:∀ {cs:List String} {us:List Value},Vals (cs.map V.ty) us->us=cs.map Value.type
 | [],us,h=>by
  cases us with
  | nil=>rfl
  | cons a b=>cases h
 | x :: xs,us,h=>by
  cases us with
  | nil=>cases h
  | cons u us =>
   cases h with
   | cons r t =>
    rw [Mp t]
    cases (show u=Value.type x from r)
    rfl
theorem RB:fX X (.builtin "isinstance") (CJ X.K):=by
 intro pins s σ H xs us Q I r h
 obtain ⟨x,c,T,cs,b,rfl,ty,hc,hb,q⟩:=h
 obtain ⟨u,u',rfl,ru,Mq⟩:=vals2 r
 obtain ⟨Hh,Z,hh,hx⟩:=RA I ru ty
 have fin:∀ tk,EP X pins σ Q (.bool b) { s with toks:=tk }:=fun tk=>⟨.bl b,H,I.tok tk,rfl,q⟩
 have ka:=Mm X.K hb
 rcases hc with ⟨n,rfl,rfl⟩ | ⟨p,rfl,hp⟩
 ·cases (show u'=Value.type n from Mq)
  refine PySem.W.kia_one Z I.zi hh ?_ hx fin
  simp only [kJ] at hb
  split at hb
  ·next e=>cases hb;exact E6 _ e
  ·next e=>cases hb;exact E6 _ e
  ·cases hb
 ·cases (show u'=Value.ref p from Mq)
  obtain ⟨its,rv,⟨⟨oc,od,RC,osl⟩,e,h2,h3,n,h4⟩,_⟩:=I.nK hp
  cases (show oc=.type "tuple" from h2)
  cases (show RC=.seq its.toArray n from h4)
  cases Mp rv
  exact PySem.W.kia_tup Z I.zi hh e ka hx fin
theorem yu {ρ:List Addr} {H:Hp} {st:Store} {v:V} {a:D} {T:String} (l:Rl K ρ H st) (r1:Rp K ρ H v a) (hT:qC st a=some T):IX K H v T:=by
 cases r1 <;> simp only [qC] at hT
 ·cases hT;exact .inl .non
 ·cases hT;exact .inl (.bl _)
 ·cases hT;exact .inl (.int _)
 ·cases hT;exact .inl (.str _)
 ·cases hT
 ·next hi =>
  split at hT
  ·next ds hs=>cases hT;obtain ⟨vs,e1,_⟩:=l.obj _ _ _ hi hs;exact .inl (.lst e1)
  ·next ds hs=>cases hT;obtain ⟨vs,e1,_⟩:=l.obj _ _ _ hi hs;exact .inl (.dK e1)
  ·cases hT
 ·next hs hr=>cases hT;exact .inr ⟨rfl,_,_,rfl,hs⟩
theorem Mr {ρ:List Addr} {H:Hp}:∀ {ws:List V} {ds:List D} {ns:List String},cJ K ρ H ws ds->cz Ml ds=some ns->ws=ns.map V.ty
 | _,_,_,.nil,h=>by cases h;rfl
 | _,_,_,.cons a b,h=>by
  obtain ⟨x,t,h1,h2,rfl⟩:=zG h
  rw [Mr b h2]
  cases a <;> first | (cases h1;rfl) | cases h1
theorem yw:qN K (CJ K) pF:=by
 intro ρ H st xs as b st' Q l rx e q
 unfold pF at e
 split at e
 ·next a c =>
  split at e
  ·next T cs h1 h2 =>
   split at e
   ·next bb hb =>
    cases e
    obtain ⟨v,w,rfl,r1,r2⟩:=rx.two'
    refine ⟨v,w,T,cs,bb,rfl,yu l r1 h1,?_,hb,q _ H ρ .refl l (.bl _)⟩
    cases r2 with
    | non=>cases h2
    | bl _=>cases h2
    | int _=>cases h2
    | str _=>cases h2
    | ref _=>cases h2
    | ty n=>cases h2;exact .inl ⟨n,rfl,rfl⟩
    | tup s r=>exact .inr ⟨_,rfl,Mr r h2 ▸ s⟩
   ·cases e
  ·cases e
 ·cases e
end
structure sx (K:Zfr) (mg:Str->Option Value) (x:Str) (v:V) (d:D):Prop where
 ex:∃ u,mg x=some u/\RelV v u
 rp:∀ (ρ:List Addr) (H:Hp),Rp K ρ H v d
theorem Ms {X:Cx} {K:Zfr} {mg:Str->Option Value} {x:Str} {v:V} {d:D} {pos:Pos} (C:sx K mg x v d) (hg:Gl X x) (hX:X.mg=mg) (hd:(x == ("__debug__" : Str))=false):PE X (.Name x pos) (tC v):=by
 obtain ⟨u,h,r⟩:=C.ex
 subst hX
 exact ND hg h r hd
theorem Mt {K:Zfr} {mg:Str->Option Value} {x:Str} {v:V} {d:D} (C:sx K mg x v d):gf K (tC v) (fC d):=qx C.rp
theorem Mu {K:Zfr} {h:Heap} {mg:Str->Option Value} (X:K.In h) (G:h.Ns mainGlobals mg) {x:Str} {a:Addr} {od:Option Addr} {its:Array Value} {n:Nat} {sl:Array (Option Value)} {vs:List V} {ds:List D} (e:PySem.W.nsIn K mainGlobals x=some (some (.ref a))) (l:K.lookup a=some ⟨.type "tuple",od,.seq its n,sl⟩)
  (ho:od=none) (hz:its.size<=sizeLine) (hv:Vals vs its.toList) (hd:∀ (ρ:List Addr) (H:Hp),cJ K ρ H vs ds):∃ v,sx K mg x v (.tup ds) :=
 ⟨.ref a,⟨_,PySem.W.mg_of X G e,rfl⟩,fun ρ H=>.tup (.inr ⟨_,its,n,l,rfl,ho,rfl,hz,hv⟩) (hd ρ H)⟩
def pU:Nat->D->Prop
 | _,.int _=>True
 | _,.str x=>PyData.canLay0 (.str x)=true
 | _,.non=>True
 | n + 1,.tup ds=>∀ d∈ds,pU n d
 | _,_=>False
def jB:Nat->D->PyData
 | _,.int i=>.int i
 | _,.str x=>.str x
 | n + 1,.tup ds=>.tuple (ds.map (jB n))
 | _,_=>.none
theorem CK {α β:Type} {f:α->Option β} {g:α->β}:∀ {l:List α},(∀ x∈l,f x=some (g x))->cz f l=some (l.map g)
 | [],_=>rfl
 | a :: r,h=>by
  have h1:=h a Vl
  have h2:=CK (f:=f) (g:=g) (l:=r) fun x hx=>h x (Vp _ hx)
  simp only [cz,h1,h2,Vy]
theorem zO:∀ (n:Nat) (d:D),pU n d->∀ (m:Nat),n < m->∀ st,fU st m d=some (jB n d)
 | n,.int i,_,m + 1,_,st=>by cases n <;> rfl
 | n,.str x,_,m + 1,_,st=>by cases n <;> rfl
 | n,.non,_,m + 1,_,st=>by cases n <;> rfl
 | n,.bl b,h,_,_,_=>by cases n <;> exact h.elim
 | n,.ty b,h,_,_,_=>by cases n <;> exact h.elim
 | n,.ref b,h,_,_,_=>by cases n <;> exact h.elim
 | 0,.tup ds,h,_,_,_=>h.elim
 | n + 1,.tup ds,h,m + 1,hm,st=>by
  simp only [fU]
  rw [CK (g:=jB n) fun x hx=>zO n x (h x hx) m (by omega) st]
  rfl
theorem IY:∀ {l:List PyData},(∀ x∈l,x.canLay0=true)->PyData.canLayAll0 l=true
 | [],_=>rfl
 | a :: r,h=>by
  simp only [PyData.canLayAll0,h a Vl,IY fun x hx=>h x (Vp _ hx),Bool.and_self]
theorem IZ {n:Nat}:∀ {l:List PyData},(∀ x∈l,x.depth<=n)->PyData.depthAll l<=n
 | [],_=>VW _
 | a :: r,h=>by
  have h1:=h a Vl
  have h2:=IZ fun x hx=>h x (Vp _ hx)
  simp only [PyData.depthAll]
  omega
theorem vt:∀ (n:Nat) (d:D),pU n d->(jB n d).canLay0=true/\(jB n d).depth<=n
 | n,.int i,_=>by cases n <;> exact ⟨rfl,VW _⟩
 | n,.str x,h=>by cases n <;> exact ⟨h,VW _⟩
 | n,.non,_=>by cases n <;> exact ⟨rfl,VW _⟩
 | n,.bl b,h=>by cases n <;> exact h.elim
 | n,.ty b,h=>by cases n <;> exact h.elim
 | n,.ref b,h=>by cases n <;> exact h.elim
 | 0,.tup ds,h=>h.elim
 | n + 1,.tup ds,h=>by
  refine ⟨?_,?_⟩
  ·show PyData.canLayAll0 (ds.map (jB n))=true
   exact IY fun x hx=>by
    obtain ⟨d,hd,rfl⟩:=Vn.mp hx
    exact (vt n d (h d hd)).1
  ·show PyData.depthAll (ds.map (jB n)) + 1<=n + 1
   have:=IZ (n:=n) (l:=ds.map (jB n)) fun x hx=>by
    obtain ⟨d,hd,rfl⟩:=Vn.mp hx
    exact (vt n d (h d hd)).2
   omega
theorem Ja {n:Nat} (ih:∀ a b:D,pU n a->pU n b->(PyData.eqv (jB n a) (jB n b)=true↔a=b)):∀ (l m:List D),(∀ x∈l,pU n x)->(∀ x∈m,pU n x)->(PyData.eqvAll (l.map (jB n)) (m.map (jB n))=true↔l=m)
 | [],[],_,_=>by simp [PyData.eqvAll]
 | [],_ :: _,_,_=>by simp [PyData.eqvAll]
 | _ :: _,[],_,_=>by simp [PyData.eqvAll]
 | a :: l,b :: m,h1,h2=>by
  have e1:=ih a b (h1 a Vl) (h2 b Vl)
  have e2:=Ja ih l m (fun x hx=>h1 x (Vp _ hx)) fun x hx=>h2 x (Vp _ hx)
  simp only [Vy,PyData.eqvAll,VE,e1,e2,List.cons.injEq]
theorem CL:∀ (n:Nat) (a b:D),pU n a->pU n b->(PyData.eqv (jB n a) (jB n b)=true↔a=b):=by
 intro n
 induction n with
 | zero =>
  intro a b ha hb
  cases a <;> first | exact ha.elim | skip
  all_goals (cases b <;> first | exact hb.elim | simp [jB,PyData.eqv])
 | succ n ih =>
  intro a b ha hb
  cases a <;> first | exact ha.elim | skip
  all_goals (cases b <;> first | exact hb.elim | skip)
  all_goals first
   | (simp [jB,PyData.eqv];done)
   | skip
  next l m =>
   have:=Ja ih l m ha hb
   show PyData.eqv (.tuple (l.map (jB n))) (.tuple (m.map (jB n)))=true↔_
   rw [E4,this]
   constructor
   ·rintro rfl;rfl
   ·intro h;exact D.tup.inj h
theorem Mv (n:Nat) (L:List Int):pU (n + 1) (.tup (L.map D.int)):=fun d hd=>by
 obtain ⟨x,_,rfl⟩:=Vn.mp hd
 cases n <;> trivial
theorem vw (n:Nat) (s:fw):pU (n + 1) (bF s):=fun d hd=>by
 have hd:d=.str (if s.1 then "s" else "t")\/d=.int s.2:=by simpa [bF] using hd
 rcases hd with rfl | rfl
 ·have h:PyData.canLay0 (.str (if s.1=true then "s" else "t" : Str))=true:=by cases s.1 <;> decide +kernel
  cases n <;> exact h
 ·cases n <;> trivial
theorem zP (n:Nat) (xs ys:List Int):pU (n + 2) (cq xs ys):=fun d hd=>by
 have hd:d=.tup (xs.map D.int)\/d=.tup (ys.map D.int):=by simpa [cq] using hd
 rcases hd with rfl | rfl
 ·exact Mv n xs
 ·exact Mv n ys
def nh (neg:Bool):D->D->Dm D:=fun a c st=>match fU st 20 a,(cZ st c).bind (cz (fU st 19)) with
 | some dx,some ds=>if dx.canLay0 && ds.all PyData.canLay0 && decide (dx.depth<=60) then some (.bl (if neg then !ds.any (fun d=>PyData.eqv d dx) else ds.any fun d=>PyData.eqv d dx),st) else none
 | _,_=>none
section
variable {K:Zfr}
theorem E7 {ρ:List Addr} {H:Hp} {st:Store} (l:Rl K ρ H st) (n:Nat):∀ {vs:List V} {ds:List D} {ps:List PyData},cJ K ρ H vs ds->cz (fU st n) ds=some ps->fZ K H vs ps
 | _,_,_,.nil,h=>by cases h;exact .nil
 | _,_,_,.cons a b,h=>by
  obtain ⟨x,t,h1,h2,rfl⟩:=zG h
  exact .cons (zH l n a h1) (E7 l n b h2)
theorem E8 (neg:Bool):md K (wQ K neg) (nh neg):=by
 intro ρ H st x y a c b st' Q l rx ry e q
 unfold nh at e
 split at e
 ·next dx ds h1 h2 =>
  split at e
  ·next ok =>
   cases e
   rw [VE,VE,decide_eq_true_eq,WB] at ok
   obtain ⟨es,h3,h4⟩:=V4.mp h2
   obtain ⟨p,xs,rfl,hq,rr⟩:∃ p xs,y=.ref p/\(j3 K H p xs\/ft K H p xs)/\cJ K ρ H xs es:=by
    cases ry with
    | non=>cases h3
    | bl _=>cases h3
    | int _=>cases h3
    | str _=>cases h3
    | ty _=>cases h3
    | ref hi=>obtain ⟨vs,s,r⟩:=l.items hi h3;exact ⟨_,vs,rfl,.inl s,r⟩
    | tup s r=>cases h3;exact ⟨_,_,rfl,.inr s,r⟩
   exact ⟨p,xs,ds,dx,rfl,hq,E7 l 19 rr h4,zH l 20 rx h1,ok.1.2,ok.1.1,ok.2,q _ H ρ .refl l (.bl _)⟩
  ·cases e
 ·cases e
end
open Classical in
theorem E9 {st:Store} {Q:D->Store->Prop} {neg:Bool} {n:Nat} {a c:D} {es:List D} (ha:pU n a) (hc:cZ st c=some es) (he:∀ e∈es,pU n e) (hn:n<=15):Wp (nh neg a c st) Q↔Q (.bl (if neg then !decide (a∈es) else decide (a∈es))) st:=by
 have h1:=zO n a ha 20 (by omega) st
 have h2:cz (fU st 19) es=some (es.map (jB n)):=CK fun x hx=>zO n x (he x hx) 19 (by omega) st
 have ea:(es.map (jB n)).any (fun d=>PyData.eqv d (jB n a))=decide (a∈es):=by
  rw [WG,Xs,decide_eq_true_eq]
  constructor
  ·rintro ⟨d,hd,h⟩
   obtain ⟨x,hx,rfl⟩:=Vn.mp hd
   rw [<- (CL n x a (he x hx) ha).mp h]
   exact hx
  ·intro h
   exact ⟨_,Vn.mpr ⟨a,h,rfl⟩,(CL n a a ha ha).mpr rfl⟩
 have l1:=vt n a ha
 have l2:(es.map (jB n)).all PyData.canLay0=true:=by
  rw [WB]
  intro d hd
  obtain ⟨x,hx,rfl⟩:=Vn.mp hd
  exact (vt n x (he x hx)).1
 have e:nh neg a c st=some (.bl (if neg then !decide (a∈es) else decide (a∈es)),st):=by
  unfold nh
  simp only [h1,hc,Wi,h2,ea,l1.1,l2,Bool.true_and,decide_eq_true_eq]
  rw [if_pos (by omega)]
 rw [e,bK]
section
variable {K:Zfr}
end
section
variable {st:Store}
end
section
variable {K:Zfr}
end
section
variable {st:Store} {Q:D->Store->Prop}
end
section
variable {K:Zfr}
end
section
variable {K:Zfr}
end
section
variable {K:Zfr}
end
section
variable {K:Zfr}
end
section
variable {δ:au} {st:Store} {N B C:au->Store->Prop} {R:D->Store->Prop}
end
section
variable {K:Zfr}
end
section
variable {δ:au} {st:Store} {N B C:au->Store->Prop} {R:D->Store->Prop}
end
def qi (ps:List PyData):Bool:=decide (0 < ps.length) && ps.all (fun a=>ps.all fun b=>rG a b) && ps.all fun a=>a.canLay0 && decide (a.depth<=50)
def lS:List D->Dm D
 | [.ref r],st=>match own st r with
  | some ds=>match cz (fU st 20) ds with
   | some ps=>if qi ps=true then (match ds[nz ps]? with | some d=>some (d,st) | none=>none) else none
   | none=>none
  | none=>none
 | _,_=>none
section
variable {K:Zfr}
theorem Mw:qN K (uT K) lS:=by
 intro ρ H st xs as b st' Q l rx e q
 unfold lS at e
 split at e
 ·next r lj =>
  split at e
  ·next ds hd =>
   split at e
   ·next ps hp =>
    split at e
    ·next hok =>
     split at e
     ·next d hd0 =>
      cases e
      obtain ⟨v,rfl,r⟩:=rx.one'
      cases r with
      | ref hi =>
       obtain ⟨vs,hs,rr⟩:=l.items hi (bu (o8 hd))
       obtain ⟨v,hv,rv⟩:=rr.got hd0
       simp only [qi,VE,decide_eq_true_eq,WB] at hok
       exact ⟨_,vs,ps,rfl,hs,E7 l 20 rr hp,hok.1.1,hok.1.2,hok.2,v,hv,q v H ρ .refl l rv⟩
     ·cases e
    ·cases e
   ·cases e
  ·cases e
 ·cases e
end
theorem RD {st:Store} {Q:D->Store->Prop} {r:Nat} {ds:List D} {ps:List PyData} (h:own st r=some ds) (hp:cz (fU st 20) ds=some ps) (hok:qi ps=true) {d:D} (hd:ds[nz ps]?=some d):Wp (lS [.ref r] st) Q↔Q d st:=by
 have e:lS [.ref r] st=some (d,st):=by simp only [lS,h,hp,hok,hd,if_true]
 rw [e,bK]
def tupI (xs:List Int):PyData:=.tuple (xs.map PyData.int)
def kK (p:af.aR):PyData:=.tuple [tupI p.1,tupI p.2]
theorem Jb:∀ xs ys:List Int,my (xs.map PyData.int) (ys.map PyData.int)=af.o7 xs ys
 | [],[]=>rfl
 | [],_ :: _=>rfl
 | _ :: _,[]=>rfl
 | x :: xs,y :: ys=>by
  show (if (x == y)=true then my (xs.map PyData.int) (ys.map PyData.int) else decide (x < y))=if x=y then af.o7 xs ys else decide (x < y)
  rw [Jb xs ys]
  by_cases h:x=y
  ·rw [if_pos h,if_pos (by simp [h])]
  ·rw [if_neg h,if_neg (by simp [h])]
theorem Mx (xs ys:List Int):PyData.eqv (tupI xs) (tupI ys)=decide (xs=ys):=Bn xs ys
theorem RE (p q:af.aR):zy (kK p) (kK q)=af.mB p q:=by
 show (if PyData.eqv (tupI p.1) (tupI q.1)=true then (if PyData.eqv (tupI p.2) (tupI q.2)=true then false else my (p.2.map PyData.int) (q.2.map PyData.int)) else my (p.1.map PyData.int) (q.1.map PyData.int))=if p.1=q.1 then af.o7 p.2 q.2 else af.o7 p.1 q.1
 rw [Mx,Mx,Jb,Jb]
 by_cases a:p.1=q.1
 ·rw [if_pos a,if_pos (decide_eq_true a)]
  by_cases b:p.2=q.2
  ·rw [if_pos (decide_eq_true b),b,af.EF]
  ·rw [if_neg (by simp [b])]
 ·rw [if_neg a,if_neg (by simp [a])]
theorem Jc:∀ xs ys:List Int,nQ (xs.map PyData.int) (ys.map PyData.int)=true
 | [],_=>rfl
 | _ :: _,[]=>rfl
 | x :: xs,y :: ys=>by show (true && nQ (xs.map PyData.int) (ys.map PyData.int))=true;rw [Jc xs ys];rfl
theorem RF (p q:af.aR):rG (kK p) (kK q)=true:=by
 show (nQ (p.1.map PyData.int) (q.1.map PyData.int) && (nQ (p.2.map PyData.int) (q.2.map PyData.int) && true))=true
 rw [Jc,Jc];rfl
theorem RG (p:af.aR):(kK p).canLay0=true/\(kK p).depth<=50:=by
 refine ⟨?_,?_⟩
 ·show (PyData.canLayAll0 (cY p.1) && (PyData.canLayAll0 (cY p.2) && true))=true
  rw [wK,wK];rfl
 ·show max (PyData.depthAll (cY p.1) + 1) (max (PyData.depthAll (cY p.2) + 1) 0) + 1<=50
  rw [zv,zv];decide
theorem Mz (l:List af.aR):∀ k,k < l.length->l[argBest (fun i j=>af.mB (l.getD i ([],[])) (l.getD j ([],[]))) k]?=some (af.mC (l.take (k + 1)))
 | 0,h=>by
  cases l with
  | nil=>simp at h
  | cons p l=>rfl
 | k + 1,h=>by
  have ih:=Mz l k (by omega)
  generalize hb:argBest (fun i j=>af.mB (l.getD i ([],[])) (l.getD j ([],[]))) k=b at ih
  have e1:l.getD b ([],[])=af.mC (l.take (k + 1)):=by rw [Vv,ih];rfl
  have e2:af.mC (l.take (k + 1 + 1))=if af.mB (l.getD (k + 1) ([],[])) (af.mC (l.take (k + 1))) then l.getD (k + 1) ([],[]) else af.mC (l.take (k + 1)):=by
   have et:l.take (k + 1 + 1)=l.take (k + 1) ++ [l.getD (k + 1) ([],[])]:=by
    rw [VM h,Vv,Vg h];rfl
   rw [et]
   cases l with
   | nil=>simp at h
   | cons p l =>
    show ((l.take k ++ [_]).foldl _ p)=_
    rw [Wa]
    rfl
  show l[if (af.mB (l.getD (k + 1) ([],[])) (l.getD (argBest _ k) ([],[])))=true then k + 1 else argBest _ k]?=_
  rw [hb,e1,e2]
  split
  ·rw [Vv,Vg h];rfl
  ·exact ih
theorem RH (st:Store) (p:af.aR):fU st 20 (cq p.1 p.2)=some (kK p):=by
 have h:∀ (m:Nat) (xs:List Int),cz (fU st (m + 1)) (xs.map D.int)=some (xs.map PyData.int):=fun m xs=>by
  have:=ve (f:=fU st (m + 1)) (g:=D.int) (k:=PyData.int) (fun _=>rfl) xs
  exact this
 show (cz (fU st 19) [D.tup (p.1.map D.int),D.tup (p.2.map D.int)]).map PyData.tuple=_
 have e1:fU st 19 (D.tup (p.1.map D.int))=some (tupI p.1):=by show (cz (fU st 18) (p.1.map D.int)).map PyData.tuple=_;rw [h];rfl
 have e2:fU st 19 (D.tup (p.2.map D.int))=some (tupI p.2):=by show (cz (fU st 18) (p.2.map D.int)).map PyData.tuple=_;rw [h];rfl
 simp only [cz,e1,e2]
 rfl
theorem MA {st:Store} {Q:D->Store->Prop} {r:Nat} {l:List af.aR} (h:own st r=some (l.map fun p=>cq p.1 p.2)) (hn:0 < l.length):Wp (lS [.ref r] st) Q↔Q (cq (af.mC l).1 (af.mC l).2) st:=by
 have hp:cz (fU st 20) (l.map fun p=>cq p.1 p.2)=some (l.map kK):=ve (f:=fU st 20) (g:=fun p:af.aR=>cq p.1 p.2) (k:=kK) (fun p=>RH st p) l
 refine RD h hp ?_ ?_
 ·simp only [qi,VE,decide_eq_true_eq,WB,Vd]
  refine ⟨⟨hn,fun a ha b hb=>?_⟩,fun a ha=>?_⟩
  ·obtain ⟨p,_,rfl⟩:=Vn.mp ha
   obtain ⟨q,_,rfl⟩:=Vn.mp hb
   exact RF p q
  ·obtain ⟨p,_,rfl⟩:=Vn.mp ha
   exact RG p
 ·have hb:=Mz l (l.length - 1) (by omega)
  rw [show l.length - 1 + 1=l.length by omega,Wj] at hb
  have e:∀ k,k < l.length->argBest (tM (l.map kK)) k=argBest (fun i j=>af.mB (l.getD i ([],[])) (l.getD j ([],[]))) k/\argBest (fun i j=>af.mB (l.getD i ([],[])) (l.getD j ([],[]))) k < l.length:=by
   intro k
   induction k with
   | zero=>intro hk;exact ⟨rfl,hk⟩
   | succ k ih =>
    intro hk
    obtain ⟨e1,e2⟩:=ih (by omega)
    have eb:tM (l.map kK) (k + 1) (argBest (tM (l.map kK)) k)=af.mB (l.getD (k + 1) ([],[])) (l.getD (argBest (fun i j=>af.mB (l.getD i ([],[])) (l.getD j ([],[]))) k) ([],[])):=by
     rw [e1]
     unfold tM
     rw [Vv,Vv,Vm,Vm,Vg hk,Vg e2,Vv,Vv,Vg hk,Vg e2]
     exact RE _ _
    refine ⟨?_,?_⟩
    ·show (if tM (l.map kK) (k + 1) (argBest (tM (l.map kK)) k)=true then k + 1 else argBest (tM (l.map kK)) k)=if _=true then k + 1 else _
     rw [eb,e1]
    ·show (if _=true then k + 1 else _) < l.length
     split
     ·exact hk
     ·exact e2
  unfold nz
  rw [Vd,(e (l.length - 1) (by omega)).1,Vm,hb]
  rfl
section
variable {K:Zfr}
end
section
variable {K:Zfr}
def ud (T:String) (g:D->List D->Dm D) (fo:au->Dm D):au->Dm D:=fun δ st=>bnd (fo δ st) fun o st1=>if sN T st1 o=true then g o [] st1 else none
theorem yx {T:String} {r:V->List V->Hp->VK->Prop} {g:D->List D->Dm D} {to:TE} {fo:au->Dm D} (hr:sL K T r g) (ho:gf K to fo):gf K (Ba K T r to) (ud T g fo):=by
 intro ρ σ H δ st b st' Q l rs e q
 obtain ⟨o,st1,e1,e⟩:=d6 e
 split at e
 ·next ht =>
  refine ho ρ σ H δ st o st1 _ l rs e1 fun x H1 ρ1 m1 l1 r1=>⟨LS l1 r1 ht,?_⟩
  exact hr ρ1 H1 st1 x [] o [] b st' Q l1 r1 .nil e fun v H3 ρ3 m3 l3 r3=>q v H3 ρ3 (m1.trans m3) l3 r3
 ·cases e
end
section
variable {st:Store} {Q:D->Store->Prop} {i:Nat}
theorem CM {α:Type} {m:Option (α×Store)} {R R':α->Store->Prop} (h:∀ a s,R a s↔R' a s):Wp m R↔Wp m R':=by
 have e:R=R':=funext fun a=>funext fun s=>propext (h a s)
 rw [e]
theorem yy {T:String} {g:D->List D->Dm D} {fo:au->Dm D} {δ:au}:Wp (ud T g fo δ st) Q↔Wp (fo δ st) fun o st1=>sN T st1 o=true/\Wp (g o [] st1) Q:=by
 unfold ud
 rw [dO]
 refine CM fun o st1=>?_
 rw [nE,gC]
 split
 ·next h=>exact ⟨fun q=>⟨h,q⟩,fun q=>q.2⟩
 ·next h=>exact ⟨False.elim,fun q=>h q.1⟩
end
section
variable {K:Zfr}
end
section
variable {st:Store} {Q:D->Store->Prop} {δ:au}
end
section
variable {K:Zfr}
def r6:au->Dm Fl:=fun _ _=>none
theorem RI:ow K qY r6:=by
 intro ρ σ H δ st fl st' E l rs e q
 cases e
end
section
variable {st:Store} {Q:D->Store->Prop}
end
section
variable {K:Zfr}
end
section
variable {st:Store} {δ:au}
end
section
variable {K:Zfr}
end
theorem RJ {δ:au} {st:Store} {fi:au->Dm Src} {js:List Nat} {c:au->Dm Bool} {f:au->Dm D} {Q:D->Store->Prop} (ds:List D) (q:D->Bool) (h:D->D) (hi:Wp (fi δ st) fun S st1=>qf S ds st1/\Ex [] st st1) (hl:ds.length < 100000)
  (cond:∀ d∈ds,∀ st1,Ex [] st st1->Wp (c (some d :: js.map fun j=>δ.getD j none) st1) fun b st2=>b=q d/\Ex [] st1 st2)
  (step:∀ d∈ds,q d=true->∀ st1,Ex [] st st1->Wp (f (some d :: js.map fun j=>δ.getD j none) st1) fun y st2=>y=h d/\Ex [] st1 st2) (fin:∀ st',Ex [] st st'->Q (.ref st'.length) (st' ++ [.lst ((ds.filter q).map h)])):Wp (cD fi 1 js (hName 0) c f δ st) Q:=by
 obtain ⟨S,st1,e1,hS,k1⟩:=hi
 refine Iw ds (fun i ys δ' lA=>(∃ v,δ'=v :: js.map fun j=>δ.getD j none)/\ys=((ds.take i).filter q).map h/\Ex [] st1 lA) ⟨S,st1,e1,fun i ys δ' lA hi' hp=>hS i lA hi' hp.2.2,⟨none,rfl⟩,rfl,Ex.refl⟩ hl ?_ ?_ ?_
 ·rintro i ys δ' lA ⟨_,rfl,_⟩
  rw [Vd]
  refine VL (List.length_filter_le _ _) ?_
  rw [V6];omega
 ·rintro i d ys δ' lA hd ⟨⟨v,rfl⟩,rfl,k8⟩
  obtain ⟨hlt,e⟩:=Ve.mp hd
  have hm:=Vk hd
  rw [IF]
  refine a7 (cond d hm lA (k1.trans k8)) ?_
  rintro b oW ⟨rfl,k9⟩
  refine ⟨fun hq=>a7 (step d hm hq oW (k1.trans (k8.trans k9))) ?_,fun hq=>⟨⟨some d,rfl⟩,?_,k8.trans k9⟩⟩
  ·rintro y RK ⟨rfl,RL⟩
   refine ⟨⟨some d,rfl⟩,?_,(k8.trans k9).trans RL⟩
   rw [VM hlt,List.filter_append,Vx,e,List.filter_cons_of_pos hq];rfl
  ·rw [VM hlt,List.filter_append,Vx,e,List.filter_cons_of_neg (by rw [hq];decide)]
   simp
 ·rintro ys δ' lA ⟨_,rfl,k8⟩
  rw [Wj]
  exact fin lA (k1.trans k8)
section
variable {K:Zfr}
end
section
variable {K:Zfr}
end
section
variable {st:Store} {Q:D->Store->Prop}
end
section
variable {K:Zfr}
end
section
variable {K:Zfr}
end
section
variable {st:Store} {Q:D->Store->Prop}
end
section
variable {K:Zfr}
end
section
variable {st:Store} {Q:D->Store->Prop}
end
def eK:D->List D->Dm D
 | .ref k,[a],st=>match fU st 20 a,(items st k).bind (cz (fU st 19)) with
  | some dx,some ds=>match ds.findIdx? fun d=>PyData.eqv d dx with
   | some j=>if dx.canLay0 && ds.all PyData.canLay0 && decide (dx.depth<=60) && decide (ds.length<=1000) then some (.int (j:Int),st) else none
   | none=>none
  | _,_=>none
 | _,_,_=>none
section
variable {K:Zfr}
theorem MB:sL K "list" (pZ K) eK:=by
 intro ρ H st x xs a as b st' Q l rx oU e q
 unfold eK at e
 split at e
 ·split at e
  ·next dx ds h1 h2 =>
   split at e
   ·next j hj =>
    split at e
    ·next ok =>
     cases e
     rw [VE,VE,VE,decide_eq_true_eq,decide_eq_true_eq,WB] at ok
     obtain ⟨es,h3,h4⟩:=V4.mp h2
     obtain ⟨y,rfl,r⟩:=oU.one'
     cases rx with
     | ref hi =>
      obtain ⟨vs,s,rr⟩:=l.items hi h3
      obtain ⟨hjl,hj1,hj2⟩:=Wx.mp hj
      exact ⟨_,vs,ds,y,dx,j,rfl,rfl,s,E7 l 19 rr h4,zH l 20 r h1,ok.1.1.2,ok.1.1.1,ok.1.2,ok.2,⟨_,Vg hjl,hj1⟩,fun i d hij hd=>by
       obtain ⟨hil,rfl⟩:=Ve.mp hd
       simpa using hj2 i hij,q _ H ρ .refl l (.int _)⟩
    ·cases e
   ·cases e
  ·cases e
 ·cases e
end
theorem MC {st:Store} {Q:D->Store->Prop} {n k j:Nat} {a:D} {es:List D} (ha:pU n a) (hc:items st k=some es) (he:∀ e∈es,pU n e) (hn:n<=15) (hl:es.length<=1000) (hj:es[j]?=some a) (hno:∀ i e,i < j->es[i]?=some e->e≠a):Wp (eK (.ref k) [a] st) Q↔Q (.int (j:Int)) st:=by
 have h1:=zO n a ha 20 (by omega) st
 have h2:cz (fU st 19) es=some (es.map (jB n)):=CK fun x hx=>zO n x (he x hx) 19 (by omega) st
 obtain ⟨hjl,RM⟩:=Ve.mp hj
 have hf:(es.map (jB n)).findIdx? (fun d=>PyData.eqv d (jB n a))=some j:=by
  refine Wx.mpr ⟨by simpa using hjl,?_,fun i hij=>?_⟩
  ·rw [WV,RM]
   exact (CL n a a ha ha).mpr rfl
  ·have hil:i < es.length:=by omega
   rw [WV]
   have hm:es[i]∈es:=V8 hil
   intro h
   exact hno i es[i] hij (Vg hil) ((CL n es[i] a (he _ hm) ha).mp h)
 have l1:=vt n a ha
 have l2:(es.map (jB n)).all PyData.canLay0=true:=by
  rw [WB]
  intro d hd
  obtain ⟨x,hx,rfl⟩:=Vn.mp hd
  exact (vt n x (he x hx)).1
 have e:eK (.ref k) [a] st=some (.int (j:Int),st):=by
  unfold eK
  simp only [h1,hc,Wi,h2,hf,l1.1,l2,Bool.true_and,Vd,decide_eq_true_eq,VE]
  rw [if_pos ⟨by omega,hl⟩]
 rw [e,bK]
section
variable {K:Zfr}
def iU:D->List D->Dm D
 | .ref i,[.int k,y],st=>match own st i with
  | some xs=>if (decide (0<=k/\k < 4611686018427387904) && lim xs.length)=true then some (.non,st.set i (.lst (xs.take k.toNat ++ y :: xs.drop k.toNat))) else none
  | none=>none
 | _,_,_=>none
theorem MD:sL K "list" p3 iU:=by
 intro ρ H st x xs a as b st' Q l rx oU e q
 unfold iU at e
 split at e
 ·split at e
  ·next ys hy =>
   split at e
   ·next hl =>
    cases e
    obtain ⟨h1,h2⟩:=Bool.and_eq_true_iff.mp hl
    have h1:=of_decide_eq_true h1
    cases oU with
    | cons r1 oU =>
    obtain ⟨v,rfl,r⟩:=oU.one'
    cases r1
    cases rx with
    | ref hi =>
     obtain ⟨vs,e1,r1⟩:=l.obj _ _ _ hi (o8 hy)
     obtain ⟨l2,m2⟩:=l.putL hi (o8 hy) ((r1.take _).append (.cons r (r1.drop _)))
     exact ⟨_,vs,_,v,rfl,rfl,e1,h1.1,h1.2,by rw [r1.length];exact EO h2,q _ _ ρ m2 l2 .non⟩
   ·cases e
  ·cases e
 ·cases e
def iH:D->List D->Dm D
 | .ref i,[.int k],st=>match (own st i).bind (cz iV) with
  | some ns=>if k∈ns then some (.non,st.set i (.lst ((ns.erase k).map D.int))) else none
  | none=>none
 | _,_,_=>none
theorem RN:sL K "list" (oK K) iH:=by
 intro ρ H st x xs a as b st' Q l rx oU e q
 unfold iH at e
 split at e
 ·split at e
  ·next ns hn =>
   split at e
   ·next hm =>
    cases e
    obtain ⟨v,rfl,r⟩:=oU.one'
    cases r
    cases rx with
    | ref hi =>
     obtain ⟨ds,h1,h2⟩:=V4.mp hn
     obtain ⟨vs,e1,r1⟩:=l.obj _ _ _ hi (o8 h1)
     cases EZ r1 h2
     obtain ⟨l2,m2⟩:=l.putL hi (o8 h1) (cJ.ints (ns.erase _))
     exact ⟨_,ns,_,rfl,rfl,e1,hm,q _ _ ρ m2 l2 .non⟩
   ·cases e
  ·cases e
 ·cases e
end
section
variable {st:Store} {Q:D->Store->Prop} {k:Nat}
theorem ME {i:Int} {y:D} {xs:List D} (h:own st k=some xs) (h0:0<=i) (h1:i < 4611686018427387904) (hl:lim xs.length=true):Wp (iU (.ref k) [.int i,y] st) Q↔Q .non (st.set k (.lst (xs.take i.toNat ++ y :: xs.drop i.toNat))):=by
 have e:iU (.ref k) [.int i,y] st=some (.non,st.set k (.lst (xs.take i.toNat ++ y :: xs.drop i.toNat))):=by
  simp only [iU,h,hl,decide_eq_true (show 0<=i/\i < 4611686018427387904 from ⟨h0,h1⟩)]
  rfl
 rw [e,bK]
theorem RO {i:Int} {ns:List Int} (h:own st k=some (ns.map D.int)) (hm:i∈ns):Wp (iH (.ref k) [.int i] st) Q↔Q .non (st.set k (.lst ((ns.erase i).map D.int))):=by
 have e:iH (.ref k) [.int i] st=some (.non,st.set k (.lst ((ns.erase i).map D.int))):=by
  simp only [iH,h,Wi,IC]
  rw [if_pos hm]
 rw [e,bK]
end
def uf:D->List D->Dm D
 | .ref i,[],st=>match own st i with
  | some xs=>match xs[xs.length - 1]? with
   | some y=>some (y,st.set i (.lst xs.dropLast))
   | none=>none
  | none=>none
 | _,_,_=>none
section
variable {K:Zfr}
theorem yz:sL K "list" Bd uf:=by
 intro ρ H st x xs a as b st' Q l rx oU e q
 unfold uf at e
 split at e
 ·split at e
  ·next ys hy =>
   split at e
   ·next y hl =>
    cases e
    cases oU
    cases rx with
    | ref hi =>
     obtain ⟨vs,e1,r1⟩:=l.obj _ _ _ hi (o8 hy)
     obtain ⟨v,hv,rv⟩:=r1.got hl
     have hlen:=r1.length
     have r2:cJ K ρ H vs.dropLast ys.dropLast:=by
      rw [List.dropLast_eq_take,List.dropLast_eq_take,hlen]
      exact r1.take _
     obtain ⟨l2,m2⟩:=l.putL hi (o8 hy) r2
     exact ⟨_,vs,v,rfl,rfl,e1,by rw [hlen];exact hv,q _ _ ρ m2 l2 (rv.mn m2)⟩
   ·cases e
  ·cases e
 ·cases e
end
section
variable {st:Store} {Q:D->Store->Prop} {i:Nat}
theorem yA {xs:List D} {y:D} (h:own st i=some (xs ++ [y])):Wp (uf (.ref i) [] st) Q↔Q y (st.set i (.lst xs)):=by
 have e:(xs ++ [y])[(xs ++ [y]).length - 1]?=some y:=by simp
 have e2:(xs ++ [y]).dropLast=xs:=by simp
 show Wp (match own st i with | some xs=>(match xs[xs.length - 1]? with | some y=>some (y,st.set i (O.lst xs.dropLast)) | none=>none) | none=>none) Q↔_
 rw [h]
 dsimp only
 rw [e,e2]
 exact bK
end
end L4
namespace af
abbrev CS:=List aR×List (List Sp)×List (Nat×Nat)
def bg (n:Nat) (fs:List aR) (ws:List (List Sp)) (k:Nat) (s:Sp):List aR×List (List Sp)×Nat :=
 if bE n (stM (fs.getD k ([],[])) s)∈fs then (fs,ws,fs.idxOf (bE n (stM (fs.getD k ([],[])) s))) else (fs ++ [bE n (stM (fs.getD k ([],[])) s)],ws ++ [(j4 (ws.getD k [] ++ [s])).reverse],fs.length)
def kL (n:Nat) (c:CS):List aR×List (List Sp)×Nat:=bg n c.1 c.2.1 c.2.2.length (true,1)
def jM (n:Nat) (c:CS):List aR×List (List Sp)×Nat:=bg n (kL n c).1 (kL n c).2.1 c.2.2.length (false,1)
def Jd (n:Nat) (c:CS):CS:=((jM n c).1,(jM n c).2.1,c.2.2 ++ [((kL n c).2.2,(jM n c).2.2)])
def ch (n:Nat) (p:aR):Nat->CS
 | 0=>([bE n p],[[]],[])
 | i + 1=>Jd n (ch n p i)
structure GR (n:Nat) (p:aR) (fs:List aR) (ws:List (List Sp)):Prop where
 nd:fs.Nodup
 own:∀ q∈fs,Wh n q/\bE n q=q
 wl:ws.length=fs.length
 hd:fs[0]?=some (bE n p)
 wd:∀ (k:Nat) (w:List Sp),ws[k]?=some w->Pl w.reverse/\w.length<=k/\(∀ s∈w,s.2.natAbs<=k + 3)/\∃ q,fs[k]?=some q/\bT n (kF p w) q
def RP (n:Nat) (fs:List aR) (ls:List (Nat×Nat)):Prop:=∀ (k:Nat) (l:Nat×Nat),ls[k]?=some l->∃ p,fs[k]?=some p/\fs[l.1]?=some (bE n (stM p (true,1)))/\fs[l.2]?=some (bE n (stM p (false,1)))
structure GC (n:Nat) (p:aR) (c:CS) (i:Nat):Prop where
 r:GR n p c.1 c.2.1
 ll:c.2.2.length=i
 le:i<=c.1.length
 ld:RP n c.1 c.2.2
section
variable {n:Nat} {p:aR}
theorem GR.few {fs:List aR} {ws:List (List Sp)} (g:GR n p fs ws):0 < fs.length:=(Ve.mp g.hd).1
theorem sP (w:Wh n p) (n0:0 < n):Wh n (bE n p)/\bE n (bE n p)=bE n p/\bT n p (bE n p):=by
 obtain ⟨s,s0,s1,e⟩:=Ig p n0
 have tb:=w.bf s0 s1
 have a:bT n p (bE n p):=⟨inv (bf p.1 p.2 s n),tb.aB,by rw [e,uW w.v.1 tb,uW w.v.2 tb];rfl⟩
 have wq:Wh n (bE n p):=by
  obtain ⟨g,tg,eq⟩:=a
  have:=qh (xs:=p.1) (ys:=p.2) ⟨w.v.1,w.v.2,w.all⟩ tg n0
  rw [eq]
  exact ⟨⟨this.1,this.2.1⟩,this.2.2⟩
 exact ⟨wq,(sJ n0 w.v a).symm,a⟩
theorem RQ {fs:List aR} {q:aR} (h:q∈fs):fs[fs.idxOf q]?=some q:=by
 have hl:=WS h
 rw [Vg hl,Xj]
theorem RS {w:List Sp} {k:Nat} {s:Sp} (hp:Pl w.reverse) (hn:∀ a∈w,a.2.natAbs<=k + 3) (hs:s=(true,1)\/s=(false,1)):Pl (j4 (w ++ [s]))/\∀ a∈(j4 (w ++ [s])),a.2.natAbs<=k + 1 + 3:=by
 have ps:gE s:=by rcases hs with rfl | rfl <;> exact ⟨fun _=>by decide,by decide⟩
 have ew:j4 w=w.reverse:=by
  have:=Pl.nA hp
  rwa [List.reverse_reverse] at this
 have e:j4 (w ++ [s])=cm w.reverse s:=by
  rw [HL,ew];rfl
 rw [e]
 refine ⟨hp.push ps,fun a ha=>?_⟩
 have s1:s.2.natAbs<=1:=by rcases hs with rfl | rfl <;> decide
 exact PH (M:=k + 3) (B:=1) (fun x hx=>hn x (Wg.mp hx)) s1 ps hp a ha
theorem sQ {fs:List aR} {ws:List (List Sp)} {k:Nat} {s:Sp} (n0:0 < n) (g:GR n p fs ws) (vp:Vf n p) (hk:k < fs.length) (hs:s=(true,1)\/s=(false,1)) :
  GR n p (bg n fs ws k s).1 (bg n fs ws k s).2.1/\(∀ (i:Nat) (q:aR),fs[i]?=some q->(bg n fs ws k s).1[i]?=some q)/\fs.length<=(bg n fs ws k s).1.length/\(bg n fs ws k s).1.length<=fs.length + 1/\∃ q,fs[k]?=some q/\(bg n fs ws k s).1[(bg n fs ws k s).2.2]?=some (bE n (stM q s)):=by
 have ek:fs[k]?=some (fs.getD k ([],[])):=by rw [Vv,Vg hk];rfl
 generalize hq:fs.getD k ([],[])=q at ek
 obtain ⟨wq,oq⟩:=g.own q (Vk ek)
 have yB:=wq.st n0 s
 obtain ⟨wF,oF,aF⟩:=sP yB n0
 unfold bg
 rw [hq]
 by_cases hm:bE n (stM q s)∈fs
 ·rw [if_pos hm]
  exact ⟨g,fun _ _ h=>h,Vh _,W8 _,q,ek,RQ hm⟩
 ·rw [if_neg hm]
  have RT:k < ws.length:=by rw [g.wl];exact hk
  have ew:ws[k]?=some (ws.getD k []):=by rw [Vv,Vg RT];rfl
  generalize ws.getD k []=w at ew
  obtain ⟨pw,lw,nw,q',eq',aw⟩:=g.wd k w ew
  rw [ek] at eq'
  cases eq'
  obtain ⟨pl,nl⟩:=RS (k:=k) pw nw hs
  refine ⟨⟨W6.mpr ⟨g.nd,by simp,fun x hx y hy e=>hm (by rw [<- Vz.mp hy,<- e];exact hx)⟩,fun q' hq'=>?_,by rw [Vj,Vj,g.wl];rfl,by rw [Vt g.few];exact g.hd,fun i v hv=>?_⟩,fun i q' h=>by rw [Vt (Ve.mp h).1];exact h,by rw [Vj];omega,by rw [Vj];exact Vh _,q,ek,?_⟩
  ·rcases VG.mp hq' with h | h
   ·exact g.own q' h
   ·rw [Vz.mp h];exact ⟨wF,oF⟩
  ·by_cases hi:i < ws.length
   ·rw [Vt hi] at hv
    obtain ⟨a1,a2,a3,q',b1,b2⟩:=g.wd i v hv
    exact ⟨a1,a2,a3,q',by rw [Vt (Ve.mp b1).1];exact b1,b2⟩
   ·have hi2:i=ws.length:=by
     have:=(Ve.mp hv).1
     rw [Vj] at this
     have:i < ws.length + 1:=this
     omega
    subst hi2
    rw [VA (Vh _),Wn] at hv
    cases (show some _=some v from hv)
    refine ⟨by rw [List.reverse_reverse];exact pl,?_,fun a ha=>?_,bE n (stM q s),?_,?_⟩
    ·rw [WZ]
     have:=HM (w ++ [s])
     rw [Vj] at this
     have:(j4 (w ++ [s])).length<=w.length + 1:=this
     omega
    ·have:=nl a (Wg.mp ha)
     omega
    ·rw [g.wl,VA (Vh _),Wn];rfl
    ·have cK:∀ a∈w ++ [s],gE a:=fun a ha=>by
      rcases VG.mp ha with h | h
      ·exact Pl.pr pw a (Wg.mpr h)
      ·rw [Vz.mp h]
       rcases hs with rfl | rfl <;> exact ⟨fun _=>by decide,by decide⟩
     have e1:cC (j4 (w ++ [s])).reverse=cC (w ++ [s]):=Ls cK
     have pp:∀ a∈(j4 (w ++ [s])).reverse,gE a:=fun a ha=>Pl.pr pl a (Wg.mp ha)
     have a1:=Qe pp cK e1 vp
     have a2:bT n (kF p (w ++ [s])) (stM q s):=by
      rw [HZ]
      exact bT.st vp.ld aw s
     exact bT.trans vp.ld (bT.trans vp.ld a1 a2) aF
  ·rw [VA (Vh _),Wn];rfl
theorem zQ (n0:0 < n) (w:Wh n p):∀ i:Nat,(∀ j,j < i->j < (ch n p j).1.length)->GC n p (ch n p i) i
 | 0,_=>by
  obtain ⟨wF,oF,aF⟩:=sP w n0
  exact ⟨⟨by show [bE n p].Nodup;simp,fun q hq=>by rw [Vz.mp hq];exact ⟨wF,oF⟩,rfl,rfl,fun k v hv=>by
   cases k with
   | zero =>
    cases (show some []=some v from hv)
    exact ⟨trivial,Vh _,(fun s hs=>nomatch hs),_,rfl,aF⟩
   | succ k=>cases (show none=some v from hv)⟩,rfl,VW _,fun k l hl=>nomatch hl⟩
 | i + 1,h=>by
  have g:=zQ n0 w i fun j hj=>h j (by omega)
  have hi:=h i (by omega)
  have mO:=g.ll
  have vp:=w.v
  have r1:=sQ (s:=(true,1)) n0 g.r vp (k:=(ch n p i).2.2.length) (by omega) (.inl rfl)
  have r2:=sQ (s:=(false,1)) n0 r1.1 vp (k:=(ch n p i).2.2.length) (by have:=r1.2.2.1;omega) (.inr rfl)
  refine ⟨r2.1,by show ((ch n p i).2.2 ++ [_]).length=i + 1;rw [Vj,mO];rfl,?_,fun k l hl=>?_⟩
  ·have a:=r1.2.2.1
   have b:=r2.2.2.1
   show i + 1<=(jM n (ch n p i)).1.length
   unfold jM kL
   omega
  ·have hl:((ch n p i).2.2 ++ [((kL n (ch n p i)).2.2,(jM n (ch n p i)).2.2)])[k]?=some l:=hl
   by_cases hk:k < (ch n p i).2.2.length
   ·rw [Vt hk] at hl
    obtain ⟨q,b1,b2,b3⟩:=g.ld k l hl
    exact ⟨q,r2.2.1 _ _ (r1.2.1 _ _ b1),r2.2.1 _ _ (r1.2.1 _ _ b2),r2.2.1 _ _ (r1.2.1 _ _ b3)⟩
   ·have hk2:k=(ch n p i).2.2.length:=by
     have:=(Ve.mp hl).1
     rw [Vj] at this
     have:k < (ch n p i).2.2.length + 1:=this
     omega
    subst hk2
    rw [VA (Vh _),Wn] at hl
    cases (show some _=some l from hl)
    obtain ⟨q1,c1,c2⟩:=r1.2.2.2.2
    obtain ⟨q2,d1,d2⟩:=r2.2.2.2.2
    have:q2=q1:=by
     have:=r1.2.1 _ _ c1
     rw [d1] at this
     exact Vs this
    subst this
    exact ⟨q2,r2.2.1 _ _ d1,r2.2.1 _ _ c2,d2⟩
theorem MF:∀ {l m:List aR},m.Nodup->(∀ x∈m,x∈l)->l.length<=m.length->∀ x∈l,x∈m
 | l,[],_,_,hl,x,hx=>by
  have:l=[]:=List.length_eq_zero_iff.mp (by simpa using hl)
  rw [this] at hx;cases hx
 | l,a :: m,nd,hs,hl,x,hx=>by
  by_cases e:x=a
  ·rw [e];exact Vl
  ·have vz:=V0.mp nd
   have ha:=hs a Vl
   have:=MF (l:=l.erase a) (m:=m) vz.2 (fun y hy=>by
    have Je:y≠a:=fun z=>vz.1 (z ▸ hy)
    exact (Wm Je).mpr (hs y (Vp _ hy))) (by rw [W4 ha];simp at hl;omega) x ((Wm e).mpr hx)
   exact Vp _ this
theorem MG {f:aR->aR}:∀ {l:List aR},l.Nodup->(∀ a∈l,∀ b∈l,f a=f b->a=b)->(l.map f).Nodup
 | [],_,_=>List.nodup_nil
 | a :: l,nd,h=>by
  rw [Vy]
  have vz:=V0.mp nd
  refine V0.mpr ⟨fun hm=>?_,MG vz.2 fun x hx y hy=>h x (Vp _ hx) y (Vp _ hy)⟩
  obtain ⟨b,hb,e⟩:=Vn.mp hm
  have:=h b (Vp _ hb) a Vl e
  exact vz.1 (this ▸ hb)
structure Full (n:Nat) (p:aR) (c:CS) (N:Nat):Prop extends GC n p c N where
 fl:c.1.length=N
theorem Full.s {c:CS} {N:Nat} (h:Full n p c N) {q:aR} (hq:q∈c.1):bE n (Sh 1 q)∈c.1/\bE n (Qt q)∈c.1:=by
 obtain ⟨k,hk⟩:=VX hq
 have mU:k < c.2.2.length:=by rw [h.ll,<- h.fl];exact (Ve.mp hk).1
 obtain ⟨q',b1,b2,b3⟩:=h.ld k _ (Vg mU)
 rw [hk] at b1
 cases b1
 exact ⟨Vk b2,Vk b3⟩
structure nZ (n:Nat) (fs:List aR):Prop where
 nd:fs.Nodup
 own:∀ q∈fs,Wh n q/\bE n q=q
 s:∀ q∈fs,bE n (Sh 1 q)∈fs/\bE n (Qt q)∈fs
theorem Full.r9 {c:CS} {N:Nat} (h:Full n p c N):nZ n c.1:=⟨h.r.nd,h.r.own,fun q hq=>h.s hq⟩
theorem nZ.sm {fs:List aR} (n0:0 < n) (h:nZ n fs) {q:aR} (hq:q∈fs):bE n (Sh (-1) q)∈fs:=by
 have inj:∀ a∈fs,∀ b∈fs,bE n (Sh 1 a)=bE n (Sh 1 b)->a=b:=fun a ha b hb e=>xi n0 1 (h.own a ha).1 (h.own b hb).1 (h.own a ha).2 (h.own b hb).2 e
 have nd:=MG (f:=fun a=>bE n (Sh 1 a)) h.nd inj
 have:=MF nd (fun x hx=>by
  obtain ⟨a,ha,rfl⟩:=Vn.mp hx
  exact (h.s a ha).1) (by rw [Vd];exact Vh _) q hq
 obtain ⟨a,ha,e⟩:=Vn.mp this
 obtain ⟨wa,oa⟩:=h.own a ha
 obtain ⟨wF,oF,aF⟩:=sP (wa.sh n0 1) n0
 have a1:bT n (Sh 1 a) q:=by rw [<- e];exact aF
 have a2:=bT.sh (wa.sh n0 1).v a1 (-1)
 rw [sI wa.v,show (1:Int) + -1=0 from rfl,nS wa.v] at a2
 rw [<- sJ n0 wa.v a2,oa]
 exact ha
theorem nZ.st {fs:List aR} (n0:0 < n) (h:nZ n fs) {q:aR} (hq:q∈fs) (s:Sp):bE n (stM q s)∈fs:=by
 have up:∀ k:Nat,bE n (Sh (k:Int) q)∈fs:=fun k=>by
  induction k with
  | zero =>
   rw [show ((0:Nat):Int)=0 from rfl,nS (h.own q hq).1.v,(h.own q hq).2];exact hq
  | succ k ih =>
   have wk:=(h.own q hq).1.sh n0 (k:Int)
   obtain ⟨wF,oF,aF⟩:=sP wk n0
   have:=(h.s _ ih).1
   rw [<- sJ n0 (wk.sh n0 1).v (bT.sh wk.v aF 1),sI (h.own q hq).1.v] at this
   exact this
 have dn:∀ k:Nat,bE n (Sh (-(k:Int)) q)∈fs:=fun k=>by
  induction k with
  | zero =>
   rw [show (-((0:Nat):Int))=0 from rfl,nS (h.own q hq).1.v,(h.own q hq).2];exact hq
  | succ k ih =>
   have wk:=(h.own q hq).1.sh n0 (-(k:Int))
   obtain ⟨wF,oF,aF⟩:=sP wk n0
   have:=h.sm n0 ih
   rw [<- sJ n0 (wk.sh n0 (-1)).v (bT.sh wk.v aF (-1)),sI (h.own q hq).1.v,show -(k:Int) + -1=-((k + 1:Nat):Int) by omega] at this
   exact this
 have qt:∀ k:Nat,Wh n (mM k q)/\bE n (mM k q)∈fs:=fun k=>by
  induction k with
  | zero=>exact ⟨(h.own q hq).1,by show bE n q∈fs;rw [(h.own q hq).2];exact hq⟩
  | succ k ih =>
   obtain ⟨wk,ih⟩:=ih
   obtain ⟨wF,oF,aF⟩:=sP wk n0
   have:=(h.s _ ih).2
   rw [<- sJ n0 (wk.qt n0).v (bT.qt wk.v aF)] at this
   exact ⟨wk.qt n0,this⟩
 unfold stM
 split
 ·rcases Int.lt_or_le s.2 0 with z | z
  ·have:=dn s.2.natAbs
   rwa [show -((s.2.natAbs:Nat):Int)=s.2 by omega] at this
  ·have:=up s.2.toNat
   rwa [show ((s.2.toNat:Nat):Int)=s.2 by omega] at this
 ·exact (qt _).2
theorem nZ.ld {fs:List aR} (n0:0 < n) (h:nZ n fs):∀ (w:List Sp) (q:aR),Wh n q->bE n q∈fs->bE n (kF q w)∈fs
 | [],_,_,hq=>hq
 | s :: w,q,wq,hq=>by
  refine nZ.ld n0 h w (stM q s) (wq.st n0 s) ?_
  obtain ⟨wF,oF,aF⟩:=sP wq n0
  have:=h.st n0 hq s
  rw [<- sJ n0 (wq.st n0 s).v (bT.st wq.v aF s)] at this
  exact this
theorem Full.word {c:CS} {N:Nat} (n0:0 < n) (h:Full n p c N) (wp:Wh n p) (w:List Sp):bE n (kF p w)∈c.1:=h.r9.ld n0 w p wp (Vk h.r.hd)
end
end af
namespace af
def Tl:Nat->List (List Int)
 | 1=>[[0]]
 | 2=>[[0,1],[1,0]]
 | 3=>[[0,1,2],[0,2,1],[1,0,2],[1,2,0],[2,0,1],[2,1,0]]
 | _=>[]
theorem yC:∀ a∈([0,1]:List Int),∀ b∈([0,1]:List Int),[a,b].Nodup->[a,b]∈Tl 2:=by decide +kernel
theorem RU:∀ a∈([0,1,2]:List Int),∀ b∈([0,1,2]:List Int),∀ c∈([0,1,2]:List Int),[a,b,c].Nodup->[a,b,c]∈Tl 3:=by decide +kernel
theorem MH {n:Nat} (n0:0 < n) (n3:n<=3) {xs:List Int} (t:Tn n xs):xs∈Tl n:=by
 have hl:=t.length
 have hb:∀ x∈xs,x∈upto n:=fun x hx=>t.subset hx
 have nd:=t.nodup
 clear t
 match n,n0,n3,xs,hl with
 | 1,_,_,[x],_ =>
  have h1:=hb x Vl
  rw [Vz.mp (show x∈[0] from h1)]
  exact Vl
 | 2,_,_,[x,y],_=>exact yC x (hb x Vl) y (hb y (.tail _ Vl)) nd
 | 3,_,_,[x,y,z],_=>exact RU x (hb x Vl) y (hb y (.tail _ Vl)) z (hb z (.tail _ (.tail _ Vl))) nd
def Ul (n:Nat):List aR:=((Tl n).flatMap fun x=>(Tl n).map fun y=>(x,y)).filter fun q=>decide (bE n q=q)
theorem yD {n:Nat} (n0:0 < n) (n3:n<=3) {q:aR} (w:Wh n q) (h:bE n q=q):q∈Ul n:=by
 unfold Ul
 refine W0.mpr ⟨List.mem_flatMap.mpr ⟨q.1,MH n0 n3 w.v.1,Vn.mpr ⟨q.2,MH n0 n3 w.v.2,rfl⟩⟩,by rw [h];exact decide_eq_true rfl⟩
theorem Fb:∀ {m l:List aR},m.Nodup->(∀ x∈m,x∈l)->m.length<=l.length
 | [],_,_,_=>VW _
 | a :: m,l,nd,hs=>by
  have vz:=V0.mp nd
  have ha:=hs a Vl
  have:=Fb (m:=m) (l:=l.erase a) vz.2 fun y hy=>by
   have Je:y≠a:=fun z=>vz.1 (z ▸ hy)
   exact (Wm Je).mpr (hs y (Vp _ hy))
  rw [W4 ha] at this
  have hp:0 < l.length:=List.length_pos_of_mem ha
  simp
  omega
end af
namespace af
end af
namespace af
def zS (C:CS) (i:Nat):Nat×Nat:=C.2.2.getD i (0,0)
theorem yE {n N:Nat} {p:aR} {C:CS} (F:Full n p C N) {i:Nat} (hi:i < N):(zS C i).1 < N/\(zS C i).2 < N:=by
 have hl:i < C.2.2.length:=by rw [F.ll];exact hi
 have e:C.2.2[i]?=some (zS C i):=by unfold zS;rw [Vv,Vg hl];rfl
 obtain ⟨q,_,h1,h2⟩:=F.ld i _ e
 exact ⟨by rw [<- F.fl];exact (Ve.mp h1).1,by rw [<- F.fl];exact (Ve.mp h2).1⟩
theorem yF {n N:Nat} {p:aR} {C:CS} (F:Full n p C N) {k:Nat} (hk:k < N):(∀ s∈C.2.1.getD k [],gE s/\s.2.natAbs<=N + 3)/\(C.2.1.getD k []).length<=N:=by
 have hl:k < C.2.1.length:=by rw [F.r.wl,F.fl];exact hk
 have e:C.2.1[k]?=some (C.2.1.getD k []):=by rw [Vv,Vg hl];rfl
 obtain ⟨pw,lw,nw,_⟩:=F.r.wd k _ e
 exact ⟨fun s hs=>⟨Pl.pr pw s (Wg.mpr hs),by have:=nw s hs;omega⟩,by omega⟩
end af
namespace af
structure Ro where
 m:Nat
 q:aR
 w:List Sp
 s:Int
 t:Int
def Ro.f (r:Ro):aR:=bE r.m r.q
def At (fs:List aR) (i:Int) (f:aR):Prop:=0<=i/\i < (fs.length:Int)/\fs[i.toNat]?=some f
def oX (n:Nat) (p:aR) (fs:List aR) (r:Ro):Prop:=bE n (kF p r.w)=r.f/\At fs r.s (bE r.m (Sh 1 r.q))/\At fs r.t (bE r.m (Qt r.q))
def Holds (n:Nat) (p:aR) (R:List Ro):Prop:=(R.map Ro.f)[0]?=some (bE n p)/\∀ (k:Nat) (r:Ro),R[k]?=some r->r.f ∉ (R.map Ro.f).take k/\oX n p (R.map Ro.f) r
structure fe (r:Ro):Prop where
 w:Wh r.m r.q
 m0:0 < r.m
 oY:r.m<=20
 pr:∀ s∈r.w,gE s
 wl:r.w.length<=1000
def ff (n:Nat) (C:CS) (N:Nat):List Ro:=(List.range N).map fun k=>⟨n,C.1.getD k ([],[]),C.2.1.getD k [],((C.2.2.getD k (0,0)).1:Int),((C.2.2.getD k (0,0)).2:Int)⟩
theorem gd {α:Type} {l:List α} {k:Nat} {d:α} (h:k < l.length):l[k]?=some (l.getD k d):=by rw [Vv,Vg h];rfl
theorem MI {n N k:Nat} {C:CS} {r:Ro} (h:(ff n C N)[k]?=some r):k < N/\r=⟨n,C.1.getD k ([],[]),C.2.1.getD k [],((C.2.2.getD k (0,0)).1:Int),((C.2.2.getD k (0,0)).2:Int)⟩:=by
 unfold ff at h
 have hk:k < N:=by have:=(Ve.mp h).1;rw [Vd,W7] at this;exact this
 rw [Vm,WC hk] at h
 exact ⟨hk,(Vs h).symm⟩
theorem MJ {n N:Nat} {p:aR} {C:CS} (F:Full n p C N) (n0:0 < n) (hn:n<=20) (hN:N<=60):∀ r∈ff n C N,fe r:=fun r hr=>by
 obtain ⟨k,hk⟩:=VX hr
 obtain ⟨hkN,rfl⟩:=MI hk
 have ef:=gd (d:=(([],[]):aR)) (show k < C.1.length by rw [F.fl];exact hkN)
 have ew:=gd (d:=([]:List Sp)) (show k < C.2.1.length by rw [F.r.wl,F.fl];exact hkN)
 obtain ⟨pw,lw,nw,_⟩:=F.r.wd k _ ew
 exact ⟨(F.r.own _ (Vk ef)).1,n0,hn,fun s hs=>Pl.pr pw s (Wg.mpr hs),by show (C.2.1.getD k []).length<=1000;omega⟩
end af
namespace af
theorem MK {n:Nat} {p:aR} (w:Wh n p) (n0:0 < n):(bE n p).1.length=n:=(sP w n0).1.v.1.length
theorem Holds.r9 {n:Nat} {p:aR} {R:List Ro} (h:Holds n p R) (n0:0 < n) (wp:Wh n p) (ok:∀ r∈R,fe r):nZ n (R.map Ro.f):=by
 have row:∀ r∈R,r.m=n/\oX n p (R.map Ro.f) r:=fun r hr=>by
  obtain ⟨k,hk⟩:=VX hr
  have a:=(h.2 k r hk).2
  have e:=congrArg (fun z:aR=>z.1.length) a.1
  have e:(bE n (kF p r.w)).1.length=(bE r.m r.q).1.length:=e
  rw [MK (wp.ld n0 (w:=r.w)) n0,MK (ok r hr).w (ok r hr).m0] at e
  exact ⟨e.symm,a⟩
 have sd:∀ {i:Int} {f:aR},At (R.map Ro.f) i f->f∈R.map Ro.f:=fun h=>Vk h.2.2
 refine ⟨Wl.mpr fun i j hi hj hij e=>?_,fun q hq=>?_,fun q hq=>?_⟩
 ·have RV:j < R.length:=by rw [Vd] at hj;exact hj
  have:=(h.2 j R[j] (Vg RV)).1
  refine this ?_
  have ej:(R.map Ro.f)[j]=R[j].f:=WV _
  rw [<- ej,<- e]
  refine Vk (i:=i) ?_
  rw [List.getElem?_take_of_lt hij,Vg hi]
 ·obtain ⟨r,hr,rfl⟩:=Vn.mp hq
  obtain ⟨em,a⟩:=row r hr
  have o:=sP (ok r hr).w (ok r hr).m0
  unfold Ro.f
  rw [em] at o ⊢
  exact ⟨o.1,o.2.1⟩
 ·obtain ⟨r,hr,rfl⟩:=Vn.mp hq
  obtain ⟨em,a⟩:=row r hr
  have w:=(ok r hr).w
  rw [em] at w
  obtain ⟨o1,o2,al⟩:=sP w n0
  have a2:=a.2
  rw [em] at a2
  unfold Ro.f
  rw [em]
  refine ⟨?_,?_⟩
  ·rw [<- sJ n0 (w.sh n0 1).v (bT.sh w.v al 1)]
   exact sd a2.1
  ·rw [<- sJ n0 (w.qt n0).v (bT.qt w.v al)]
   exact sd a2.2
theorem Holds.word {n:Nat} {p:aR} {R:List Ro} (h:Holds n p R) (n0:0 < n) (wp:Wh n p) (ok:∀ r∈R,fe r) (w:List Sp):bE n (kF p w)∈R.map Ro.f:=(h.r9 n0 wp ok).ld n0 w p wp (Vk h.1)
theorem Holds.len {n N:Nat} {p:aR} {R:List Ro} {C:CS} (h:Holds n p R) (n0:0 < n) (wp:Wh n p) (ok:∀ r∈R,fe r) (F:Full n p C N):R.length=N:=by
 have s:=h.r9 n0 wp ok
 have a:(R.map Ro.f).length<=C.1.length:=Fb s.nd fun q hq=>by
  obtain ⟨r,hr,rfl⟩:=Vn.mp hq
  obtain ⟨k,hk⟩:=VX hr
  rw [<- (h.2 k r hk).2.1]
  exact F.word n0 wp _
 have b:C.1.length<=(R.map Ro.f).length:=Fb F.r.nd fun q hq=>by
  obtain ⟨k,hk⟩:=VX hq
  have hl:k < C.2.1.length:=by rw [F.r.wl];exact (Ve.mp hk).1
  obtain ⟨_,_,_,q',hq',aq⟩:=F.r.wd k _ (Vg hl)
  rw [hk] at hq'
  cases hq'
  have o:=F.r.own q hq
  have:=h.word n0 wp ok C.2.1[k]
  rw [sJ n0 (wp.ld n0 (w:=C.2.1[k])).v aq,o.2] at this
  exact this
 rw [Vd,F.fl] at a b
 omega
theorem ML {α β:Type} [DecidableEq β] {f:α->β} {F:β}:∀ {R:List α},(R.map f).Nodup->F∈R.map f->(R.filter fun r=>decide (f r=F)).length=1
 | [],_,h=>nomatch h
 | r :: R,nd,h=>by
  rw [Vy] at nd h
  obtain ⟨n1,n2⟩:=V0.mp nd
  by_cases e:f r=F
  ·rw [List.filter_cons_of_pos (by simp [e])]
   have:(R.filter fun r=>decide (f r=F))=[]:=List.filter_eq_nil_iff.mpr fun x hx z=>n1 (by rw [e,<- of_decide_eq_true z];exact List.mem_map_of_mem hx)
   rw [this];rfl
  ·rw [List.filter_cons_of_neg (by simp [e])]
   refine ML n2 ?_
   rcases VF.mp h with h | h
   ·exact absurd h.symm e
   ·exact h
end af
namespace L4
open PySem PySem.Spec L2
section
variable {K:Zfr}
theorem RW {n m:Nat} {F:List D->Dm D} {ta:TA} {fa:au->Dm (List D)} {E:XK} {ny:List V} {Fc:List D} (ha:qw K ta fa) (hn:∀ δ st as st',fa δ st=some (as,st')->as.length=m) (hm:m + ny.length=n) (hd:∀ ρ H,cJ K ρ H ny Fc):gf K (oH (bM K n F) ny E ta) (aM (fun as=>F (as ++ Fc)) fa):=by
 intro ρ σ H δ st b st' Q l rs e q
 obtain ⟨as,st1,e1,e⟩:=d6 e
 refine ha ρ σ H δ st as st1 _ l rs e1 fun vs H1 ρ1 m1 l1 r1=>⟨?_,ρ1,st1,as ++ Fc,b,st',l1,?_,e,fun v H3 ρ3 m3 l3 r3=>q v H3 ρ3 (m1.trans m3) l3 r3⟩
 ·rw [Vj,r1.length,hn _ _ _ _ e1];exact hm
 ·exact r1.append (hd _ _)
end
end L4
namespace My
local macro_rules | `(tactic| w_up)=>`(tactic| first | exact .inl rfl | exact .inr rfl | assumption)
local macro_rules | `(tactic| w_fin)=>`(tactic| decide +kernel)
local macro_rules | `(tactic| kspl_open $h)=>`(tactic| (refine L4.cj ?_;intro _ $h;set_option simprocs false in simp only [L4.bC]))
local macro_rules | `(tactic| w_how)=>`(tactic| set_option simprocs false in simp only [L4.bC])
open PySem L2 L4
theorem RX:∀ δ st as st',ah δ st=some (as,st')->as.length=0:=fun _ _ _ _ h=>Qi h
theorem lB {f1:au->Dm D}:∀ δ st as st',ae f1 ah δ st=some (as,st')->as.length=1:=EV RX
theorem dM {f1 f2:au->Dm D}:∀ δ st as st',ae f2 (ae f1 ah) δ st=some (as,st')->as.length=2:=EV lB
theorem vA {f1 f2 f3:au->Dm D}:∀ δ st as st',ae f3 (ae f2 (ae f1 ah)) δ st=some (as,st')->as.length=3:=EV dM
theorem Jf {f1 f2 f3 f4:au->Dm D}:∀ δ st as st',ae f4 (ae f3 (ae f2 (ae f1 ah))) δ st=some (as,st')->as.length=4:=EV vA
theorem b9 {X:Cx} {k k':Nat} {f:Addr} {fd:FuncData} {ps:List Str} {sp:Sp} {x:Str} {st:Stmt} {e:Expr} {es:List Expr} {t:TA} {p pos:Pos} (F:aI X.prog X.w X.K X.mg X.base bH k f fd ps sp) (D:Def X.K X.mg x st ps f fd) (hr:gB k' X.A) (hk:k<=k') (hg:Gl X x) (ha:PA X (e :: es) t) (hdb:(x == ("__debug__" : Str))=false:=by decide) (he:starEach (e :: es) X.env=(false,eval e X.env) :: starEach es X.env:=by rfl) (hpl:(backTo pos (starEach es X.env)).any (·.1)=false:=by rfl):PE X (.Call (.Name x p) (e :: es) [] pos) (oH sp [] E0 t):=Kh F (hr.mono hk) hg D.m D.F.kp D.b .nil uP ha hdb he hpl
def top (i:Nat):Stmt:=PySem.Challenge.pw_shearfloor_k68_whole_spoilt_charts.main.body.getD i (.Pass ⟨0,0,0,0⟩)
structure Txt (mg:Str->Option Value):Prop where
 yG:mg "bool" = none
 gK:mg "enumerate" = none
 CN:mg "int" = none
 n6:mg "isinstance" = none
 bw:mg "len" = none
 dv:mg "list" = none
 se:mg "max" = none
 sf:mg "min" = none
 aY:mg "range" = none
 bB:mg "tuple" = none
section
variable {P:Program} {w:World} {K:Zfr} {mg:Str->Option Value} {base:Heap}
def Fe:au->Dm Fl :=
 (az (aK (aD gg (aD lY (fC (.int 7901)) (ag 1)) (fC (.int 24697))) (hName 2))
 (az (dJ (aA (aD qO (ag 1) (aM cc (ae (ag 0) ah)))) (aK (aD bG (ag 0) (ag 1)) (hName 2)) (dJ (aA (aD va (aM cc (ae (ag 0) ah)) (fC (.int 0)))) (aK (aD gg (aD lY (aD jH (aD bG (ag 0) (aD jH (ag 1) (aM cc (ae (ag 0) ah)))) (fC (.int 2147483629))) (fC (.int 31))) (aD lY (fC (.int 7901)) (ag 1))) (hName 2)) aQ))
 (az (aK (fC (.int 0)) (hName 3))
 (az (dJ (aA (aD B5 (ag 2) (aD rQ (fC (.int 10)) (fC (.int 18))))) (aK (ag 2) (hName 3)) aQ)
 (bj (cM (ae (ag 3) (ae (aD gg (aD jH (aD rQ (aD gg (aD lY (aD jH (ag 2) (fC (.int 2147483629))) (fC (.int 48271))) (aD lY (fC (.int 40692)) (ag 1))) (fC (.int 5))) (fC (.int 2147483629))) (fC (.int 1))) ah))))))))
def yH:List D->Dm D:=gI 4 Fe
def CO:Stmt:=top 34
theorem zT:aL ["_law_script","_law_k","_law_cell","_law_own"] ["_law_script","_law_k"] (av CO):=⟨rfl,rfl,rfl,by w_fin,rfl,by w_fin,by w_fin⟩
theorem RY {f:Addr} {fd:FuncData} (D:Def K mg "_law_feed" CO ["_law_script","_law_k"] f fd) (T:Txt mg)  :aI P w K mg base bH 1 f fd ["_law_script","_law_k"] (bM K 2 yH):=by
 refine D.F.ok zT (fun _ _ _ _ h=>h.1) (fun c A o s H v Q E hr h=>?_)
 refine ⟨_,(@aZ _ _ _ _ _ (@cn (i:=2) _ _ _ _ _ _ zT.nd rfl (by w_up) (cX mT (cX tq aO (pv 1)) aO) (by rfl) (by w_up))
  (@aZ _ _ _ _ _ (@fz _ _ _ _ _ _ _ _ (df tu (pv 1) (fT iz (by rfl) T.bw iA (@aj _ _ _ _ _ (pv 0) ax (by rfl))) (aH _)) (@bq _ _ _ (@cn (i:=2) _ _ _ _ _ _ zT.nd rfl (by w_up) (@bJ _ _ _ _ _ _ _ iL (pv 0) (pv 1) (fun _ _=>rfl)) (by rfl) (by w_up))) (@bq _ _ _ (@fz _ _ _ _ _ _ _ _ (df zp (fT iz (by rfl) T.bw iA (@aj _ _ _ _ _ (pv 0) ax (by rfl))) aO (aH _)) (@bq _ _ _ (@cn (i:=2) _ _ _ _ _ _ zT.nd rfl (by w_up) (cX mT (cX tq (cX qo (@bJ _ _ _ _ _ _ _ iL (pv 0) (cX qo (pv 1) (fT iz (by rfl) T.bw iA (@aj _ _ _ _ _ (pv 0) ax (by rfl)))) (fun _ _=>rfl)) aO) aO) (cX tq aO (pv 1))) (by rfl) (by w_up))) gy)))
  (@aZ _ _ _ _ _ (@cn (i:=3) _ _ _ _ _ _ zT.nd rfl (by w_up) aO (by rfl) (by w_up))
  (@aZ _ _ _ _ _ (@fz _ _ _ _ _ _ _ _ (df uC (pv 2) (cX J9 aO aO) (aH _)) (@bq _ _ _ (@cn (i:=3) _ _ _ _ _ _ zT.nd rfl (by w_up) (pv 2) (by rfl) (by w_up))) gy)
  (@bq _ _ _ (@dZ _ _ _ _ (@kn _ _ _ _ (@aj _ _ _ _ _ (pv 3) (@aj _ _ _ _ _ (cX mT (cX qo (cX J9 (cX mT (cX tq (cX qo (pv 2) aO) aO) (cX tq aO (pv 1))) aO) aO) aO) ax (by rfl)) (by rfl))))))))),?_⟩
 exact iF (b:=Fe) (a6 (bN (aG mX (aG tU (aP _) (ai 1)) (aP _)) (aV 2))
  (a6 (fF (c7 (aG tV (ai 1) (b6 iE (ao (ai 0) ay)))) (bN (aG fD (ai 0) (ai 1)) (aV 2)) (fF (c7 (aG zD (b6 iE (ao (ai 0) ay)) (aP _))) (bN (aG mX (aG tU (aG qz (aG fD (ai 0) (aG qz (ai 1) (b6 iE (ao (ai 0) ay)))) (aP _)) (aP _)) (aG tU (aP _) (ai 1))) (aV 2)) gA))
  (a6 (bN (aP _) (aV 3))
  (a6 (fF (c7 (aG vd (ai 2) (aG LN (aP _) (aP _)))) (bN (ai 2) (aV 3)) gA)
  (d3 (kq (ao (ai 3) (ao (aG mX (aG qz (aG LN (aG mX (aG tU (aG qz (ai 2) (aP _)) (aP _)) (aG tU (aP _) (ai 1))) (aP _)) (aP _)) (aP _)) ay)))))))) rfl h
def Ff:au->Dm Fl :=
 (az (dJ (aA (aD va (aD bG (ag 0) (fC (.int 0))) (fC (.int 0)))) (az (aK (aD jH (aD bG (ag 0) (fC (.int 0))) (ag 1)) (hName 2))
 (az (aK (aD oR (aD bG (ag 0) (fC (.int 0))) (ag 1)) (hSub (ag 0) (fC (.int 0))))
 (bj (ag 2)))) aQ)
 (az (aK (aD jH (aD lY (aD bG (ag 0) (fC (.int 1))) (fC (.int 48271))) (fC (.int 2147483647))) (hName 3))
 (az (aK (aD gg (aD jH (aD gg (aD lY (ag 3) (fC (.int 40692))) (fC (.int 30103))) (fC (.int 2147483399))) (fC (.int 1))) (hSub (ag 0) (fC (.int 1))))
 (bj (aD jH (aD oR (aD gg (aD lY (ag 3) (fC (.int 2147483647))) (aD bG (ag 0) (fC (.int 1)))) (fC (.int 8191))) (ag 1))))))
def fV:List D->Dm D:=gI 4 Ff
def sR:Stmt:=top 35
theorem Jg:aL ["_law_feed_here","_law_many","_law_digit","_law_one"] ["_law_feed_here","_law_many"] (av sR):=⟨rfl,rfl,rfl,by w_fin,rfl,by w_fin,by w_fin⟩
theorem RZ {f:Addr} {fd:FuncData} (D:Def K mg "_law_take" sR ["_law_feed_here","_law_many"] f fd) (T:Txt mg)  :aI P w K mg base bH 1 f fd ["_law_feed_here","_law_many"] (bM K 2 fV):=by
 refine D.F.ok Jg (fun _ _ _ _ h=>h.1) (fun c A o s H v Q E hr h=>?_)
 refine ⟨_,(@aZ _ _ _ _ _ (@fz _ _ _ _ _ _ _ _ (df zp (@bJ _ _ _ _ _ _ _ iL (pv 0) aO (fun _ _=>rfl)) aO (aH _)) (@aZ _ _ _ _ _ (@cn (i:=2) _ _ _ _ _ _ Jg.nd rfl (by w_up) (cX qo (@bJ _ _ _ _ _ _ _ iL (pv 0) aO (fun _ _=>rfl)) (pv 1)) (by rfl) (by w_up))
  (@aZ _ _ _ _ _ (o4 (cX J8 (@bJ _ _ _ _ _ _ _ iL (pv 0) aO (fun _ _=>rfl)) (pv 1)) (pO (pv 0) aO pS))
  (@bq _ _ _ (@dZ _ _ _ _ (pv 2))))) gy)
  (@aZ _ _ _ _ _ (@cn (i:=3) _ _ _ _ _ _ Jg.nd rfl (by w_up) (cX qo (cX tq (@bJ _ _ _ _ _ _ _ iL (pv 0) aO (fun _ _=>rfl)) aO) aO) (by rfl) (by w_up))
  (@aZ _ _ _ _ _ (o4 (cX mT (cX qo (cX mT (cX tq (pv 3) aO) aO) aO) aO) (pO (pv 0) aO pS))
  (@bq _ _ _ (@dZ _ _ _ _ (cX qo (cX J8 (cX mT (cX tq (pv 3) aO) (@bJ _ _ _ _ _ _ _ iL (pv 0) aO (fun _ _=>rfl))) aO) (pv 1))))))),?_⟩
 exact iF (b:=Ff) (a6 (fF (c7 (aG zD (aG fD (ai 0) (aP _)) (aP _))) (a6 (bN (aG qz (aG fD (ai 0) (aP _)) (ai 1)) (aV 2))
  (a6 (bN (aG LM (aG fD (ai 0) (aP _)) (ai 1)) (qc (ai 0) (aP _)))
  (d3 (ai 2)))) gA)
  (a6 (bN (aG qz (aG tU (aG fD (ai 0) (aP _)) (aP _)) (aP _)) (aV 3))
  (a6 (bN (aG mX (aG qz (aG mX (aG tU (ai 3) (aP _)) (aP _)) (aP _)) (aP _)) (qc (ai 0) (aP _)))
  (d3 (aG qz (aG LM (aG mX (aG tU (ai 3) (aP _)) (aG fD (ai 0) (aP _))) (aP _)) (ai 1)))))) rfl h
def Fg:au->Dm Fl :=
 (az (aK (aM d7 (ae (aM iR (ae (ag 1) ah)) ah)) (hName 2))
 (az (aK (bD ah) (hName 3))
 (az (jJ (aA (aD (e8 true) (ag 2) (cM ah))) (aK (aD jI (ag 3) (bD (ae (iw "list" kG (ag 2) (ae (aM fV (ae (ag 0) (ae (aM cc (ae (ag 2) ah)) ah))) ah)) ah))) (hName 3)))
 (bj (ag 3)))))
def qS:List D->Dm D:=gI 4 Fg
def zU:Stmt:=top 36
theorem Fh:aL ["_law_feed_here","_law_n","_law_left","_law_found"] ["_law_feed_here","_law_n"] (av zU):=⟨rfl,rfl,rfl,by w_fin,rfl,by w_fin,by w_fin⟩
theorem R3 {f:Addr} {fd:FuncData} (D:Def K mg "_law_turning" zU ["_law_feed_here","_law_n"] f fd) (T:Txt mg)  {aT:Addr} {aU:FuncData} (aC:Def K mg "_law_take" sR ["_law_feed_here","_law_many"] aT aU) (aE:aI P w K mg base bH 1 aT aU ["_law_feed_here","_law_many"] (bM K 2 fV)):aI P w K mg base bH 2 f fd ["_law_feed_here","_law_n"] (bM K 2 qS):=by
 refine D.F.ok Fh (fun _ _ _ _ h=>h.1) (fun c A o s H v Q E hr h=>?_)
 have hu:=hr.units
 refine ⟨_,(@aZ _ _ _ _ _ (@cn (i:=2) _ _ _ _ _ _ Fh.nd rfl (by w_up) (fA (sA rfl) (by rfl) T.dv ph (@aj _ _ _ _ _ (fA Eo (by rfl) T.aY sy (@aj _ _ _ _ _ (pv 1) ax (by rfl))) ax (by rfl))) (by rfl) (by w_up))
  (@aZ _ _ _ _ _ (@cn (i:=3) _ _ _ _ _ _ Fh.nd rfl (by w_up) (@eY _ _ _ _ _ ax) (by rfl) (by w_up))
  (@aZ _ _ _ _ _ (zm PassesOwn.never (df (uR hu) (pv 2) (@kn _ _ _ _ ax) (aH _)) (@bq _ _ _ (@cn (i:=3) _ _ _ _ _ _ Fh.nd rfl (by w_up) (cX wJ (pv 3) (@eY _ _ _ _ _ (@aj _ _ _ _ _ (lE PySem.F.plainAttrs_list PySem.F.slot_list_pop PySem.F.type_list_pop Kz (pv 2) (@aj _ _ _ _ _ (b9 aE aC hr (by decide) rfl (@aj _ _ _ _ _ (pv 0) (@aj _ _ _ _ _ (fT iz (by rfl) T.bw iA (@aj _ _ _ _ _ (pv 2) ax (by rfl))) ax (by rfl)) (by rfl))) ax (by rfl))) ax (by rfl)))) (by rfl) (by w_up))))
  (@bq _ _ _ (@dZ _ _ _ _ (pv 3)))))),?_⟩
 exact iF (b:=Fg) (a6 (bN (b6 sM (ao (b6 EY (ao (ai 1) ay)) ay)) (aV 2))
  (a6 (bN (eZ ay) (aV 3))
  (a6 (zJ (c7 (aG (qA true) (ai 2) (kq ay))) (bN (aG xv (ai 3) (eZ (ao (kX LU (ai 2) (ao (b8 (F:=fV) (ao (ai 0) (ao (b6 iE (ao (ai 2) ay)) ay)) dM) ay)) ay))) (aV 3)))
  (d3 (ai 3))))) rfl h
def Fi:au->Dm Fl :=
 (az (aK (cM (ae (fC (.int 0)) ah)) (hName 1))
 (az (c9 (ck (ae (aD gg (fC (.int 1)) (aM cc (ae (aD a5 (ag 0) (fC (.int 0))) ah))) ah)) (hName 2) (c9 (c4 (ag 0)) (hName 3) (c9 (jK (aM lR (ae (ag 1) ah))) (hName 4) (dJ (aA (aD (qP true) (aD a5 (ag 3) (ag 4)) (ag 1))) (cg (iw "list" a9 (ag 1) (ae (aD a5 (ag 3) (ag 4)) ah))) aQ))))
 (bj (ag 1))))
def ug:List D->Dm D:=gI 5 Fi
def CP:Stmt:=top 37
theorem CQ:aL ["_law_floor_here","_law_found","_law_turn","_law_turning_here","_law_one"] ["_law_floor_here"] (av CP):=⟨rfl,rfl,rfl,by w_fin,rfl,by w_fin,by w_fin⟩
theorem R4 {f:Addr} {fd:FuncData} (D:Def K mg "_law_met" CP ["_law_floor_here"] f fd) (T:Txt mg)  :aI P w K mg base bH 1 f fd ["_law_floor_here"] (bM K 1 ug):=by
 refine D.F.ok CQ (fun _ _ _ _ h=>h.1) (fun c A o s H v Q E hr h=>?_)
 refine ⟨_,(@aZ _ _ _ _ _ (@cn (i:=1) _ _ _ _ _ _ CQ.nd rfl (by w_up) (@kn _ _ _ _ (@aj _ _ _ _ _ aO ax (by rfl))) (by rfl) (by w_up))
  (@aZ _ _ _ _ _ (@lD _ _ _ _ _ _ _ _ PassesOwn.never rfl (oo rfl T.aY (@aj _ _ _ _ _ (cX mT aO (fT iz (by rfl) T.bw iA (@aj _ _ _ _ _ (@bJ _ _ _ _ _ _ _ e7 (pv 0) aO (fun _ _=>rfl)) ax (by rfl)))) ax (by rfl))) (de (i:=2) CQ.nd rfl (by w_up)) (@bq _ _ _ (@lD _ _ _ _ _ _ _ _ PassesOwn.never rfl (om (pv 0)) (de (i:=3) CQ.nd rfl (by w_up)) (@bq _ _ _ (@lD _ _ _ _ _ _ _ _ PassesOwn.never rfl (AR (fA A9 (by rfl) T.dv ph (@aj _ _ _ _ _ (pv 1) ax (by rfl)))) (de (i:=4) CQ.nd rfl (by w_up)) (@bq _ _ _ (@fz _ _ _ _ _ _ _ _ (df Ej (@bJ _ _ _ _ _ _ _ e7 (pv 3) (pv 4) (fun _ _=>rfl)) (pv 1) (by with_unfolding_all rfl)) (@bq _ _ _ (mQ (lE PySem.F.plainAttrs_list PySem.F.slot_list_append PySem.F.type_list_append oJ (pv 1) (@aj _ _ _ _ _ (@bJ _ _ _ _ _ _ _ e7 (pv 3) (pv 4) (fun _ _=>rfl)) ax (by rfl))))) gy)) (by intro _;rfl))) (by intro _;rfl))) (by intro _;rfl))
  (@bq _ _ _ (@dZ _ _ _ _ (pv 1))))),?_⟩
 exact iF (b:=Fi) (a6 (bN (kq (ao (aP _) ay)) (aV 1))
  (a6 (lI (oz (ao (aG mX (aP _) (b6 iE (ao (aG dG (ai 0) (aP _)) ay))) ay)) (aV 2) (lI (oy (ai 0)) (aV 3) (lI (Cb (b6 B9 (ao (ai 1) ay))) (aV 4) (fF (c7 (aG (B8 true) (aG dG (ai 3) (ai 4)) (ai 1))) (m9 (kX oT (ai 1) (ao (aG dG (ai 3) (ai 4)) ay))) gA))))
  (d3 (ai 1)))) rfl h
def Fj:au->Dm Fl :=
 (az (aK (aM fV (ae (ag 0) (ae (fC (.int 6)) ah))) (hName 2))
 (az (rS 3 4 (ae (aM lR (ae (aM qS (ae (ag 0) (ae (ag 1) ah))) ah)) (ae (aM lR (ae (aM qS (ae (ag 0) (ae (ag 1) ah))) ah)) ah)))
 (az (dJ (aA (aD (iO false) (ag 2) (fC (.int 0)))) (aK (aD mZ (aM d7 (ae (aM fE (ae (fC (.int 1)) (ae (ag 1) ah))) ah)) (cM (ae (fC (.int 0)) ah))) (hName 3)) aQ)
 (az (dJ (aA (aD (iO false) (ag 2) (fC (.int 1)))) (rS 3 4 (ae (aM d7 (ae (aM iR (ae (ag 1) ah)) ah)) (ae (aD mZ (aM d7 (ae (aM fE (ae (fC (.int 1)) (ae (ag 1) ah))) ah)) (cM (ae (fC (.int 0)) ah))) ah))) aQ)
 (az (dJ (aA (aD (iO false) (ag 2) (fC (.int 2)))) (az (aK (aD gg (fC (.int 1)) (aM fV (ae (ag 0) (ae (ag 1) ah)))) (hName 5))
 (az (aK (aD mZ (aD mZ (aM d7 (ae (aM fE (ae (fC (.int 1)) (ae (ag 5) ah))) ah)) (cM (ae (fC (.int 0)) ah))) (aM d7 (ae (aM fE (ae (ag 5) (ae (ag 1) ah))) ah))) (hName 3))
 (az (aK (xn qB (aD mZ (aD mZ (aD mZ (cM (ae (ag 5) ah)) (aM d7 (ae (aM fE (ae (fC (.int 1)) (ae (ag 5) ah))) ah))) (aM d7 (ae (aM fE (ae (aD gg (ag 5) (fC (.int 1))) (ae (ag 1) ah))) ah))) (cM (ae (fC (.int 0)) ah))) j5 (mD (ag 1))) (hName 4))
 (dJ (aA (aD (iO false) (ag 5) (ag 1))) (aK (aM d7 (ae (aM iR (ae (ag 1) ah)) ah)) (hName 4)) aQ)))) aQ)
 (az (aK (bD (ae (aM bU (ae (ag 3) ah)) (ae (aM bU (ae (ag 4) ah)) ah))) (hName 6))
 (az (aK (cD (ck (ae (ag 1) ah)) 1 [6] (hName 0) (aA (aD (qP true) (ag 0) (aM ug (ae (ag 1) ah)))) (ag 0)) (hName 7))
 (az (jJ (aA (aD (e8 true) (ag 7) (cM ah))) (az (aK (aD bG (ag 7) (fC (.int 0))) (hName 8))
 (az (aK (bD (ae (aD bG (ag 3) (ag 8)) (ae (aD bG (ag 3) (fC (.int 0))) ah))) (kH 2 (cf (hSub (ag 3) (fC (.int 0))) (cf (hSub (ag 3) (ag 8)) lh))))
 (az (aK (bD (ae (aM bU (ae (ag 3) ah)) (ae (aM bU (ae (ag 4) ah)) ah))) (hName 6))
 (aK (cD (ck (ae (ag 1) ah)) 1 [6] (hName 0) (aA (aD (qP true) (ag 0) (aM ug (ae (ag 1) ah)))) (ag 0)) (hName 7))))))
 (bj (ag 6))))))))))
def sS:List D->Dm D:=gI 9 Fj
def zV:Stmt:=top 38
theorem qj:aL ["_law_feed_here","_law_n","_law_form_here","_law_right","_law_up","_law_wide","_law_found","_law_apart","_law_m"] ["_law_feed_here","_law_n"] (av zV):=⟨rfl,rfl,rfl,by w_fin,rfl,by w_fin,by w_fin⟩
theorem R5 {f:Addr} {fd:FuncData} (D:Def K mg "_law_floor" zV ["_law_feed_here","_law_n"] f fd) (T:Txt mg)  {aT:Addr} {aU:FuncData} (aC:Def K mg "_law_take" sR ["_law_feed_here","_law_many"] aT aU) (aE:aI P w K mg base bH 1 aT aU ["_law_feed_here","_law_many"] (bM K 2 fV)) {cu:Addr} {cv:FuncData} (bO:Def K mg "_law_turning" zU ["_law_feed_here","_law_n"] cu cv) (b5:aI P w K mg base bH 2 cu cv ["_law_feed_here","_law_n"] (bM K 2 qS)) {j6:Addr} {j7:FuncData} (iI:Def K mg "_law_met" CP ["_law_floor_here"] j6 j7) (j8:aI P w K mg base bH 1 j6 j7 ["_law_floor_here"] (bM K 1 ug)):aI P w K mg base bH 3 f fd ["_law_feed_here","_law_n"] (bM K 2 sS):=by
 refine D.F.ok qj (fun _ _ _ _ h=>h.1) (fun c A o s H v Q E hr h=>?_)
 have hu:=hr.units
 refine ⟨_,(@aZ _ _ _ _ _ (@cn (i:=2) _ _ _ _ _ _ qj.nd rfl (by w_up) (b9 aE aC hr (by decide) rfl (@aj _ _ _ _ _ (pv 0) (@aj _ _ _ _ _ aO ax (by rfl)) (by rfl))) (by rfl) (by w_up))
  (@aZ _ _ _ _ _ (JZ (i:=3) (j:=4) rfl qj.nd rfl rfl (by decide) rfl rfl (@aj _ _ _ _ _ (fA A9 (by rfl) T.dv ph (@aj _ _ _ _ _ (b9 b5 bO hr (by decide) rfl (@aj _ _ _ _ _ (pv 0) (@aj _ _ _ _ _ (pv 1) ax (by rfl)) (by rfl))) ax (by rfl))) (@aj _ _ _ _ _ (fA A9 (by rfl) T.dv ph (@aj _ _ _ _ _ (b9 b5 bO hr (by decide) rfl (@aj _ _ _ _ _ (pv 0) (@aj _ _ _ _ _ (pv 1) ax (by rfl)) (by rfl))) ax (by rfl))) ax (by rfl)) (by rfl)) rfl)
  (@aZ _ _ _ _ _ (@fz _ _ _ _ _ _ _ _ (df mK (pv 2) aO (aH _)) (@bq _ _ _ (@cn (i:=3) _ _ _ _ _ _ qj.nd rfl (by w_up) (cX wC (fA (sA rfl) (by rfl) T.dv ph (@aj _ _ _ _ _ (fA zu (by rfl) T.aY sy (@aj _ _ _ _ _ aO (@aj _ _ _ _ _ (pv 1) ax (by rfl)) (by rfl))) ax (by rfl))) (@kn _ _ _ _ (@aj _ _ _ _ _ aO ax (by rfl)))) (by rfl) (by w_up))) gy)
  (@aZ _ _ _ _ _ (@fz _ _ _ _ _ _ _ _ (df mK (pv 2) aO (aH _)) (@bq _ _ _ (JZ (i:=3) (j:=4) rfl qj.nd rfl rfl (by decide) rfl rfl (@aj _ _ _ _ _ (fA (sA rfl) (by rfl) T.dv ph (@aj _ _ _ _ _ (fA Eo (by rfl) T.aY sy (@aj _ _ _ _ _ (pv 1) ax (by rfl))) ax (by rfl))) (@aj _ _ _ _ _ (cX wC (fA (sA rfl) (by rfl) T.dv ph (@aj _ _ _ _ _ (fA zu (by rfl) T.aY sy (@aj _ _ _ _ _ aO (@aj _ _ _ _ _ (pv 1) ax (by rfl)) (by rfl))) ax (by rfl))) (@kn _ _ _ _ (@aj _ _ _ _ _ aO ax (by rfl)))) ax (by rfl)) (by rfl)) rfl)) gy)
  (@aZ _ _ _ _ _ (@fz _ _ _ _ _ _ _ _ (df mK (pv 2) aO (aH _)) (@aZ _ _ _ _ _ (@cn (i:=5) _ _ _ _ _ _ qj.nd rfl (by w_up) (cX mT aO (b9 aE aC hr (by decide) rfl (@aj _ _ _ _ _ (pv 0) (@aj _ _ _ _ _ (pv 1) ax (by rfl)) (by rfl)))) (by rfl) (by w_up))
  (@aZ _ _ _ _ _ (@cn (i:=3) _ _ _ _ _ _ qj.nd rfl (by w_up) (cX wC (cX wC (fA (sA rfl) (by rfl) T.dv ph (@aj _ _ _ _ _ (fA zu (by rfl) T.aY sy (@aj _ _ _ _ _ aO (@aj _ _ _ _ _ (pv 5) ax (by rfl)) (by rfl))) ax (by rfl))) (@kn _ _ _ _ (@aj _ _ _ _ _ aO ax (by rfl)))) (fA (sA rfl) (by rfl) T.dv ph (@aj _ _ _ _ _ (fA zu (by rfl) T.aY sy (@aj _ _ _ _ _ (pv 5) (@aj _ _ _ _ _ (pv 1) ax (by rfl)) (by rfl))) ax (by rfl)))) (by rfl) (by w_up))
  (@aZ _ _ _ _ _ (@cn (i:=4) _ _ _ _ _ _ qj.nd rfl (by w_up) (Ei G3 (cX wC (cX wC (cX wC (@kn _ _ _ _ (@aj _ _ _ _ _ (pv 5) ax (by rfl))) (fA (sA rfl) (by rfl) T.dv ph (@aj _ _ _ _ _ (fA zu (by rfl) T.aY sy (@aj _ _ _ _ _ aO (@aj _ _ _ _ _ (pv 5) ax (by rfl)) (by rfl))) ax (by rfl)))) (fA (sA rfl) (by rfl) T.dv ph (@aj _ _ _ _ _ (fA zu (by rfl) T.aY sy (@aj _ _ _ _ _ (cX mT (pv 5) aO) (@aj _ _ _ _ _ (pv 1) ax (by rfl)) (by rfl))) ax (by rfl)))) (@kn _ _ _ _ (@aj _ _ _ _ _ aO ax (by rfl)))) Ef (Eg (pv 1))) (by rfl) (by w_up))
  (@bq _ _ _ (@fz _ _ _ _ _ _ _ _ (df mK (pv 5) (pv 1) (aH _)) (@bq _ _ _ (@cn (i:=4) _ _ _ _ _ _ qj.nd rfl (by w_up) (fA (sA rfl) (by rfl) T.dv ph (@aj _ _ _ _ _ (fA Eo (by rfl) T.aY sy (@aj _ _ _ _ _ (pv 1) ax (by rfl))) ax (by rfl))) (by rfl) (by w_up))) gy))))) gy)
  (@aZ _ _ _ _ _ (@cn (i:=6) _ _ _ _ _ _ qj.nd rfl (by w_up) (@eY _ _ _ _ _ (@aj _ _ _ _ _ (fA mL (by rfl) T.bB mx (@aj _ _ _ _ _ (pv 3) ax (by rfl))) (@aj _ _ _ _ _ (fA mL (by rfl) T.bB mx (@aj _ _ _ _ _ (pv 4) ax (by rfl))) ax (by rfl)) (by rfl))) (by rfl) (by w_up))
  (@aZ _ _ _ _ _ (Bu (i:=7) (own:=["_law_s"]) (fr:=["_law_found"]) (js:=[6]) rfl qj.nd rfl rfl ⟨⟨rfl,by w_fin,by w_fin,by dsimp only [eV,aS,Cx.lU,Cx.wish,PyProof.Rows.envOfC,compEnvC,relabel,Env.kindOf];decide +kernel,by w_fin⟩,rfl⟩ (oo rfl T.aY (@aj _ _ _ _ _ (pv 1) ax (by rfl))) (fun _ _ _ _ _=>(de (i:=0) (show ((["_law_s"]:List Str) ++ (["_law_found"]:List Str)).Nodup by w_fin) rfl (by w_up))) (fun _ _ _ _ _=>(Hk (df (KZ (K:=K) rfl) (pv 0) (b9 j8 iI hr (by decide) rfl (@aj _ _ _ _ _ (pv 1) ax (by rfl))) (by with_unfolding_all rfl)))) (fun _ _ _ _ _=>(pv 0)))
  (@aZ _ _ _ _ _ (zm PassesOwn.never (df (uR hu) (pv 7) (@kn _ _ _ _ ax) (aH _)) (@aZ _ _ _ _ _ (@cn (i:=8) _ _ _ _ _ _ qj.nd rfl (by w_up) (@bJ _ _ _ _ _ _ _ iL (pv 7) aO (fun _ _=>rfl)) (by rfl) (by w_up))
  (@aZ _ _ _ _ _ (o4 (@eY _ _ _ _ _ (@aj _ _ _ _ _ (@bJ _ _ _ _ _ _ _ iL (pv 3) (pv 8) (fun _ _=>rfl)) (@aj _ _ _ _ _ (@bJ _ _ _ _ _ _ _ iL (pv 3) aO (fun _ _=>rfl)) ax (by rfl)) (by rfl))) (qK (n:=2) rfl (lr (pO (pv 3) aO pS) (lr (pO (pv 3) (pv 8) pS) qJ))))
  (@aZ _ _ _ _ _ (@cn (i:=6) _ _ _ _ _ _ qj.nd rfl (by w_up) (@eY _ _ _ _ _ (@aj _ _ _ _ _ (fA mL (by rfl) T.bB mx (@aj _ _ _ _ _ (pv 3) ax (by rfl))) (@aj _ _ _ _ _ (fA mL (by rfl) T.bB mx (@aj _ _ _ _ _ (pv 4) ax (by rfl))) ax (by rfl)) (by rfl))) (by rfl) (by w_up))
  (@bq _ _ _ (Bu (i:=7) (own:=["_law_s"]) (fr:=["_law_found"]) (js:=[6]) rfl qj.nd rfl rfl ⟨⟨rfl,by w_fin,by w_fin,by dsimp only [eV,aS,Cx.lU,Cx.wish,PyProof.Rows.envOfC,compEnvC,relabel,Env.kindOf];decide +kernel,by w_fin⟩,rfl⟩ (oo rfl T.aY (@aj _ _ _ _ _ (pv 1) ax (by rfl))) (fun _ _ _ _ _=>(de (i:=0) (show ((["_law_s"]:List Str) ++ (["_law_found"]:List Str)).Nodup by w_fin) rfl (by w_up))) (fun _ _ _ _ _=>(Hk (df (KZ (K:=K) rfl) (pv 0) (b9 j8 iI hr (by decide) rfl (@aj _ _ _ _ _ (pv 1) ax (by rfl))) (by with_unfolding_all rfl)))) (fun _ _ _ _ _=>(pv 0))))))))
  (@bq _ _ _ (@dZ _ _ _ _ (pv 6))))))))))),?_⟩
 exact iF (b:=Fj) (a6 (bN (b8 (F:=fV) (ao (ai 0) (ao (aP _) ay)) dM) (aV 2))
  (a6 (LW (ao (b6 B9 (ao (b8 (F:=qS) (ao (ai 0) (ao (ai 1) ay)) dM) ay)) (ao (b6 B9 (ao (b8 (F:=qS) (ao (ai 0) (ao (ai 1) ay)) dM) ay)) ay)))
  (a6 (fF (c7 (aG mN (ai 2) (aP _))) (bN (aG xw (b6 sM (ao (b6 zI (ao (aP _) (ao (ai 1) ay))) ay)) (kq (ao (aP _) ay))) (aV 3)) gA)
  (a6 (fF (c7 (aG mN (ai 2) (aP _))) (LW (ao (b6 sM (ao (b6 EY (ao (ai 1) ay)) ay)) (ao (aG xw (b6 sM (ao (b6 zI (ao (aP _) (ao (ai 1) ay))) ay)) (kq (ao (aP _) ay))) ay))) gA)
  (a6 (fF (c7 (aG mN (ai 2) (aP _))) (a6 (bN (aG mX (aP _) (b8 (F:=fV) (ao (ai 0) (ao (ai 1) ay)) dM)) (aV 5))
  (a6 (bN (aG xw (aG xw (b6 sM (ao (b6 zI (ao (aP _) (ao (ai 5) ay))) ay)) (kq (ao (aP _) ay))) (b6 sM (ao (b6 zI (ao (ai 5) (ao (ai 1) ay))) ay))) (aV 3))
  (a6 (bN (EU Il (aG xw (aG xw (aG xw (kq (ao (ai 5) ay)) (b6 sM (ao (b6 zI (ao (aP _) (ao (ai 5) ay))) ay))) (b6 sM (ao (b6 zI (ao (aG mX (ai 5) (aP _)) (ao (ai 1) ay))) ay))) (kq (ao (aP _) ay))) ES (ET (ai 1))) (aV 4))
  (fF (c7 (aG mN (ai 5) (ai 1))) (bN (b6 sM (ao (b6 EY (ao (ai 1) ay)) ay)) (aV 4)) gA)))) gA)
  (a6 (bN (eZ (ao (b6 mE (ao (ai 3) ay)) (ao (b6 mE (ao (ai 4) ay)) ay))) (aV 6))
  (a6 (bN (nW (oz (ao (ai 1) ay)) (aV 0) (c7 (aG (B8 true) (ai 0) (b8 (F:=ug) (ao (ai 1) ay) lB))) (ai 0)) (aV 7))
  (a6 (zJ (c7 (aG (qA true) (ai 7) (kq ay))) (a6 (bN (aG fD (ai 7) (aP _)) (aV 8))
  (a6 (bN (eZ (ao (aG fD (ai 3) (ai 8)) (ao (aG fD (ai 3) (aP _)) ay))) (qR (lu (qc (ai 3) (aP _)) (lu (qc (ai 3) (ai 8)) qQ))))
  (a6 (bN (eZ (ao (b6 mE (ao (ai 3) ay)) (ao (b6 mE (ao (ai 4) ay)) ay))) (aV 6))
  (bN (nW (oz (ao (ai 1) ay)) (aV 0) (c7 (aG (B8 true) (ai 0) (b8 (F:=ug) (ao (ai 1) ay) lB))) (ai 0)) (aV 7))))))
  (d3 (ai 6)))))))))) rfl h
def Fm:au->Dm Fl :=
 (az (aK (cM (ae (ag 1) ah)) (hName 2))
 (az (c9 (jK (aM d7 (ae (aM iR (ae (aM cc (ae (aD a5 (ag 0) (fC (.int 0))) ah)) ah)) ah))) (hName 3) (c9 (c4 (ag 0)) (hName 4) (dJ (oQ (aA (aD qO (ag 3) (aM cc (ae (ag 2) ah)))) (aA (aD (qP true) (aD a5 (ag 4) (aD bG (ag 2) (ag 3))) (ag 2)))) (cg (iw "list" a9 (ag 2) (ae (aD a5 (ag 4) (aD bG (ag 2) (ag 3))) ah))) aQ)))
 (bj (aM bU (ae (cD (c4 (ag 0)) 1 [2] (hName 0) dc (aM bU (ae (cD (jK (ag 1)) 1 [0,1] (hName 0) dc (iw "list" gG (ag 2) (ae (aD a5 (ag 1) (ag 0)) ah))) ah))) ah)))))
def CT:List D->Dm D:=gI 5 Fm
def CU:Stmt:=top 43
theorem Fn:aL ["_law_floor_here","_law_s","_law_called","_law_one","_law_turning_here"] ["_law_floor_here","_law_s"] (av CU):=⟨rfl,rfl,rfl,by w_fin,rfl,by w_fin,by w_fin⟩
theorem R6 {f:Addr} {fd:FuncData} (D:Def K mg "_law_numbered" CU ["_law_floor_here","_law_s"] f fd) (T:Txt mg)  :aI P w K mg base bH 1 f fd ["_law_floor_here","_law_s"] (bM K 2 CT):=by
 refine D.F.ok Fn (fun _ _ _ _ h=>h.1) (fun c A o s H v Q E hr h=>?_)
 refine ⟨_,(@aZ _ _ _ _ _ (@cn (i:=2) _ _ _ _ _ _ Fn.nd rfl (by w_up) (@kn _ _ _ _ (@aj _ _ _ _ _ (pv 1) ax (by rfl))) (by rfl) (by w_up))
  (@aZ _ _ _ _ _ (@lD _ _ _ _ _ _ _ _ PassesOwn.never rfl (AR (fA (sA rfl) (by rfl) T.dv ph (@aj _ _ _ _ _ (fA Eo (by rfl) T.aY sy (@aj _ _ _ _ _ (fT iz (by rfl) T.bw iA (@aj _ _ _ _ _ (@bJ _ _ _ _ _ _ _ e7 (pv 0) aO (fun _ _=>rfl)) ax (by rfl))) ax (by rfl))) ax (by rfl)))) (de (i:=3) Fn.nd rfl (by w_up)) (@bq _ _ _ (@lD _ _ _ _ _ _ _ _ PassesOwn.never rfl (om (pv 0)) (de (i:=4) Fn.nd rfl (by w_up)) (@bq _ _ _ (@fz _ _ _ _ _ _ _ _ (PW.pt (Ea (df tu (pv 3) (fT iz (by rfl) T.bw iA (@aj _ _ _ _ _ (pv 2) ax (by rfl))) (aH _)) (D9 (df Ej (@bJ _ _ _ _ _ _ _ e7 (pv 4) (@bJ _ _ _ _ _ _ _ iL (pv 2) (pv 3) (fun _ _=>rfl)) (fun _ _=>rfl)) (pv 2) (by with_unfolding_all rfl))))) (@bq _ _ _ (mQ (lE PySem.F.plainAttrs_list PySem.F.slot_list_append PySem.F.type_list_append oJ (pv 2) (@aj _ _ _ _ _ (@bJ _ _ _ _ _ _ _ e7 (pv 4) (@bJ _ _ _ _ _ _ _ iL (pv 2) (pv 3) (fun _ _=>rfl)) (fun _ _=>rfl)) ax (by rfl))))) gy)) (by intro _;rfl))) (by intro _;rfl))
  (@bq _ _ _ (@dZ _ _ _ _ (fA mL (by rfl) T.bB mx (@aj _ _ _ _ _ (pY (own:=["_law_turning_here"]) (fr:=["_law_called"]) (js:=[2]) rfl ⟨⟨rfl,by w_fin,by w_fin,by dsimp only [eV,aS,Cx.lU,Cx.wish,PyProof.Rows.envOfC,compEnvC,relabel,Env.kindOf];decide +kernel,by w_fin⟩,rfl⟩ (om (pv 0)) (fun _ _ _ _ _=>(de (i:=0) (show ((["_law_turning_here"]:List Str) ++ (["_law_called"]:List Str)).Nodup by w_fin) rfl (by w_up))) (fun _ _ _ _ _=>o5) (fun _ _ _ _ _=>(fA (K0 (K:=K) rfl) (by rfl) T.bB mx (@aj _ _ _ _ _ (pY (own:=["_law_one"]) (fr:=["_law_turning_here","_law_called"]) (js:=[0,1]) rfl ⟨LZ ⟨rfl,by w_fin,by w_fin,by dsimp only [eV,Cx.lU,Cx.wish,PyProof.Rows.envOfC];decide +kernel,by w_fin⟩,rfl⟩ (OO (K:=K) rfl (pv 1)) (fun _ _ _ _ _=>(de (i:=0) (show ((["_law_one"]:List Str) ++ (["_law_turning_here","_law_called"]:List Str)).Nodup by w_fin) rfl (by w_up))) (fun _ _ _ _ _=>o5) (fun _ _ _ _ _=>(Ew (K:=K) rfl PySem.F.plainAttrs_list PySem.F.slot_list_index PySem.F.type_list_index (Rg (K:=K) rfl) (pv 2) (@aj _ _ _ _ _ (@bJ _ _ _ _ _ _ _ (qM (K:=K) rfl) (pv 1) (pv 0) (fun _ _=>rfl)) ax (by rfl))))) ax (by rfl))))) ax (by rfl))))))),?_⟩
 exact iF (b:=Fm) (a6 (bN (kq (ao (ai 1) ay)) (aV 2))
  (a6 (lI (Cb (b6 sM (ao (b6 EY (ao (b6 iE (ao (aG dG (ai 0) (aP _)) ay)) ay)) ay))) (aV 3) (lI (oy (ai 0)) (aV 4) (fF (ER (c7 (aG tV (ai 3) (b6 iE (ao (ai 2) ay)))) (c7 (aG (B8 true) (aG dG (ai 4) (aG fD (ai 2) (ai 3))) (ai 2)))) (m9 (kX oT (ai 2) (ao (aG dG (ai 4) (aG fD (ai 2) (ai 3))) ay))) gA)))
  (d3 (b6 mE (ao (nW (oy (ai 0)) (aV 0) o9 (b6 mE (ao (nW (Cb (ai 1)) (aV 0) o9 (kX IL (ai 2) (ao (aG dG (ai 1) (ai 0)) ay))) ay))) ay))))) rfl h
def Fp:au->Dm Fl :=
 (bj (aM lS (ae (cD (ck (ae (aM cc (ae (aD a5 (ag 0) (fC (.int 0))) ah)) ah)) 1 [0] (hName 0) dc (aM CT (ae (ag 1) (ae (ag 0) ah)))) ah)))
def lJ:List D->Dm D:=gI 1 Fp
def yI:Stmt:=top 44
theorem R7:aL ["_law_floor_here"] ["_law_floor_here"] (av yI):=⟨rfl,rfl,rfl,by w_fin,rfl,by w_fin,by w_fin⟩
theorem R8 {f:Addr} {fd:FuncData} (D:Def K mg "_law_form" yI ["_law_floor_here"] f fd) (T:Txt mg)  {dR:Addr} {dS:FuncData} (dU:Def K mg "_law_numbered" CU ["_law_floor_here","_law_s"] dR dS) (gi:aI P w K mg base bH 1 dR dS ["_law_floor_here","_law_s"] (bM K 2 CT)):aI P w K mg base bH 2 f fd ["_law_floor_here"] (bM K 1 lJ):=by
 refine D.F.ok R7 (fun _ _ _ _ h=>h.1) (fun c A o s H v Q E hr h=>?_)
 have hu:=hr.units
 refine ⟨_,(@bq _ _ _ (@dZ _ _ _ _ (fT (La rfl hu) (by rfl) T.sf He (@aj _ _ _ _ _ (pY (own:=["_law_s"]) (fr:=["_law_floor_here"]) (js:=[0]) rfl ⟨⟨rfl,by w_fin,by w_fin,by dsimp only [eV,aS,Cx.lU,Cx.wish,PyProof.Rows.envOfC,compEnvC,relabel,Env.kindOf];decide +kernel,by w_fin⟩,rfl⟩ (oo rfl T.aY (@aj _ _ _ _ _ (fT iz (by rfl) T.bw iA (@aj _ _ _ _ _ (@bJ _ _ _ _ _ _ _ e7 (pv 0) aO (fun _ _=>rfl)) ax (by rfl))) ax (by rfl))) (fun _ _ _ _ _=>(de (i:=0) (show ((["_law_s"]:List Str) ++ (["_law_floor_here"]:List Str)).Nodup by w_fin) rfl (by w_up))) (fun _ _ _ _ _=>o5) (fun _ _ _ _ _=>(b9 gi dU hr (by decide) rfl (@aj _ _ _ _ _ (pv 1) (@aj _ _ _ _ _ (pv 0) ax (by rfl)) (by rfl))))) ax (by rfl))))),?_⟩
 exact iF (b:=Fp) (d3 (b6 Mw (ao (nW (oz (ao (b6 iE (ao (aG dG (ai 0) (aP _)) ay)) ay)) (aV 0) o9 (b8 (F:=CT) (ao (ai 1) (ao (ai 0) ay)) dM)) ay))) rfl h
def Fq:au->Dm Fl :=
 (az (dJ (aA (aD qO (ag 2) (fC (.int 0)))) (az (aK (aM bU (ae (cD (ck (ae (aM cc (ae (ag 0) ah)) ah)) 1 [0] (hName 0) dc (iw "tuple" iS (ag 1) (ae (ag 0) ah))) ah)) (hName 0))
 (aK (aD mS (fC (.int 0)) (ag 2)) (hName 2))) aQ)
 (az (aK (cM (ae (ag 1) ah)) (hName 3))
 (az (jJ (aA (aD (iO true) (aD a5 (ag 0) (aD bG (ag 3) (tT mY (fC (.int 1))))) (ag 1))) (cg (iw "list" a9 (ag 3) (ae (aD a5 (ag 0) (aD bG (ag 3) (tT mY (fC (.int 1))))) ah))))
 (bj (aD bG (ag 3) (aD jH (ag 2) (aM cc (ae (ag 3) ah))))))))
def CV:List D->Dm D:=gI 4 Fq
def CW:Stmt:=top 40
theorem Fs:aL ["_law_turning_here","_law_s","_law_k","_law_ring"] ["_law_turning_here","_law_s","_law_k"] (av CW):=⟨rfl,rfl,rfl,by w_fin,rfl,by w_fin,by w_fin⟩
theorem R9 {f:Addr} {fd:FuncData} (D:Def K mg "_law_behind" CW ["_law_turning_here","_law_s","_law_k"] f fd) (T:Txt mg)  :aI P w K mg base bH 1 f fd ["_law_turning_here","_law_s","_law_k"] (bM K 3 CV):=by
 refine D.F.ok Fs (fun _ _ _ _ h=>h.1) (fun c A o s H v Q E hr h=>?_)
 refine ⟨_,(@aZ _ _ _ _ _ (@fz _ _ _ _ _ _ _ _ (df tu (pv 2) aO (aH _)) (@aZ _ _ _ _ _ (@cn (i:=0) _ _ _ _ _ _ Fs.nd rfl (by w_up) (fA mL (by rfl) T.bB mx (@aj _ _ _ _ _ (pY (own:=["_law_one"]) (fr:=["_law_turning_here"]) (js:=[0]) rfl ⟨⟨rfl,by w_fin,by w_fin,by dsimp only [eV,aS,Cx.lU,Cx.wish,PyProof.Rows.envOfC,compEnvC,relabel,Env.kindOf];decide +kernel,by w_fin⟩,rfl⟩ (oo rfl T.aY (@aj _ _ _ _ _ (fT iz (by rfl) T.bw iA (@aj _ _ _ _ _ (pv 0) ax (by rfl))) ax (by rfl))) (fun _ _ _ _ _=>(de (i:=0) (show ((["_law_one"]:List Str) ++ (["_law_turning_here"]:List Str)).Nodup by w_fin) rfl (by w_up))) (fun _ _ _ _ _=>o5) (fun _ _ _ _ _=>(Ew (K:=K) rfl PySem.F.plainAttrs_tuple PySem.F.slot_tuple_index PySem.F.type_tuple_index (Hy (K:=K) rfl) (pv 1) (@aj _ _ _ _ _ (pv 0) ax (by rfl))))) ax (by rfl))) (by rfl) (by w_up))
  (@bq _ _ _ (@cn (i:=2) _ _ _ _ _ _ Fs.nd rfl (by w_up) (cX AZ aO (pv 2)) (by rfl) (by w_up)))) gy)
  (@aZ _ _ _ _ _ (@cn (i:=3) _ _ _ _ _ _ Fs.nd rfl (by w_up) (@kn _ _ _ _ (@aj _ _ _ _ _ (pv 1) ax (by rfl))) (by rfl) (by w_up))
  (@aZ _ _ _ _ _ (zm PassesOwn.never (df zo (@bJ _ _ _ _ _ _ _ e7 (pv 0) (@bJ _ _ _ _ _ _ _ iL (pv 3) (vX vY aO) (fun _ _=>rfl)) (fun _ _=>rfl)) (pv 1) (aH _)) (@bq _ _ _ (mQ (lE PySem.F.plainAttrs_list PySem.F.slot_list_append PySem.F.type_list_append oJ (pv 3) (@aj _ _ _ _ _ (@bJ _ _ _ _ _ _ _ e7 (pv 0) (@bJ _ _ _ _ _ _ _ iL (pv 3) (vX vY aO) (fun _ _=>rfl)) (fun _ _=>rfl)) ax (by rfl))))))
  (@bq _ _ _ (@dZ _ _ _ _ (@bJ _ _ _ _ _ _ _ iL (pv 3) (cX qo (pv 2) (fT iz (by rfl) T.bw iA (@aj _ _ _ _ _ (pv 3) ax (by rfl)))) (fun _ _=>rfl))))))),?_⟩
 exact iF (b:=Fq) (a6 (fF (c7 (aG tV (ai 2) (aP _))) (a6 (bN (b6 mE (ao (nW (oz (ao (b6 iE (ao (ai 0) ay)) ay)) (aV 0) o9 (kX Io (ai 1) (ao (ai 0) ay))) ay)) (aV 0))
  (bN (aG B6 (aP _) (ai 2)) (aV 2))) gA)
  (a6 (bN (kq (ao (ai 1) ay)) (aV 3))
  (a6 (zJ (c7 (aG zF (aG dG (ai 0) (aG fD (ai 3) (xk xq (aP _)))) (ai 1))) (m9 (kX oT (ai 3) (ao (aG dG (ai 0) (aG fD (ai 3) (xk xq (aP _)))) ay))))
  (d3 (aG fD (ai 3) (aG qz (ai 2) (b6 iE (ao (ai 3) ay)))))))) rfl h
def zW:au->Dm Fl :=
 (az (aK (ag 0) (kH 2 (cf (hName 2) (cf (hName 3) lh))))
 (az (dJ (aA (aD (iO false) (aD a5 (ag 1) (fC (.int 0))) (fC (.str "s")))) (bj (bD (ae (ag 2) (ae (aM bU (ae (cD (ck (ae (aM cc (ae (ag 3) ah)) ah)) 1 [1,2,3] (hName 0) dc (aD a5 (ag 3) (aM CV (ae (ag 2) (ae (ag 0) (ae (aD mS (fC (.int 0)) (aD a5 (ag 1) (fC (.int 1)))) ah)))))) ah)) ah)))) aQ)
 (az (c9 (ck (ae (aD jH (aD a5 (ag 1) (fC (.int 1))) (fC (.int 4))) ah)) (hName 4) (aK (bD (ae (aM bU (ae (cD (ck (ae (aM cc (ae (ag 3) ah)) ah)) 1 [3] (hName 0) dc (iw "tuple" iS (ag 1) (ae (ag 0) ah))) ah)) (ae (ag 2) ah))) (kH 2 (cf (hName 2) (cf (hName 3) lh)))))
 (bj (bD (ae (ag 2) (ae (ag 3) ah)))))))
def pb:List D->Dm D:=gI 5 zW
def yJ:Stmt:=top 41
theorem zX:aL ["_law_floor_here","_law_step","_law_right","_law_up","_law_turn"] ["_law_floor_here","_law_step"] (av yJ):=⟨rfl,rfl,rfl,by w_fin,rfl,by w_fin,by w_fin⟩
theorem Sb {f:Addr} {fd:FuncData} (D:Def K mg "_law_stepped" yJ ["_law_floor_here","_law_step"] f fd) (T:Txt mg)  {fG:Addr} {fH:FuncData} (fI:Def K mg "_law_behind" CW ["_law_turning_here","_law_s","_law_k"] fG fH) (iW:aI P w K mg base bH 1 fG fH ["_law_turning_here","_law_s","_law_k"] (bM K 3 CV)):aI P w K mg base bH 2 f fd ["_law_floor_here","_law_step"] (bM K 2 pb):=by
 refine D.F.ok zX (fun _ _ _ _ h=>h.1) (fun c A o s H v Q E hr h=>?_)
 refine ⟨_,(@aZ _ _ _ _ _ (o4 (pv 0) (qK (n:=2) rfl (lr (de (i:=2) zX.nd rfl (by w_up)) (lr (de (i:=3) zX.nd rfl (by w_up)) qJ))))
  (@aZ _ _ _ _ _ (@fz _ _ _ _ _ _ _ _ (df mK (@bJ _ _ _ _ _ _ _ e7 (pv 1) aO (fun _ _=>rfl)) pN (aH _)) (@bq _ _ _ (@dZ _ _ _ _ (@eY _ _ _ _ _ (@aj _ _ _ _ _ (pv 2) (@aj _ _ _ _ _ (fA mL (by rfl) T.bB mx (@aj _ _ _ _ _ (pY (own:=["_law_s"]) (fr:=["_law_step","_law_right","_law_up"]) (js:=[1,2,3]) rfl ⟨⟨rfl,by w_fin,by w_fin,by dsimp only [eV,aS,Cx.lU,Cx.wish,PyProof.Rows.envOfC,compEnvC,relabel,Env.kindOf];decide +kernel,by w_fin⟩,rfl⟩ (oo rfl T.aY (@aj _ _ _ _ _ (fT iz (by rfl) T.bw iA (@aj _ _ _ _ _ (pv 3) ax (by rfl))) ax (by rfl))) (fun _ _ _ _ _=>(de (i:=0) (show ((["_law_s"]:List Str) ++ (["_law_step","_law_right","_law_up"]:List Str)).Nodup by w_fin) rfl (by w_up))) (fun _ _ _ _ _=>o5) (fun _ _ _ _ _=>(@bJ _ _ _ _ _ _ _ (qM (K:=K) rfl) (pv 3) (b9 iW fI hr (by decide) rfl (@aj _ _ _ _ _ (pv 2) (@aj _ _ _ _ _ (pv 0) (@aj _ _ _ _ _ (cX AZ aO (@bJ _ _ _ _ _ _ _ (qM (K:=K) rfl) (pv 1) aO (fun _ _=>rfl))) ax (by rfl)) (by rfl)) (by rfl))) (fun _ _=>rfl)))) ax (by rfl))) ax (by rfl)) (by rfl))))) gy)
  (@aZ _ _ _ _ _ (@lD _ _ _ _ _ _ _ _ PassesOwn.never rfl (oo rfl T.aY (@aj _ _ _ _ _ (cX qo (@bJ _ _ _ _ _ _ _ e7 (pv 1) aO (fun _ _=>rfl)) aO) ax (by rfl))) (de (i:=4) zX.nd rfl (by w_up)) (@bq _ _ _ (o4 (@eY _ _ _ _ _ (@aj _ _ _ _ _ (fA mL (by rfl) T.bB mx (@aj _ _ _ _ _ (pY (own:=["_law_s"]) (fr:=["_law_up"]) (js:=[3]) rfl ⟨⟨rfl,by w_fin,by w_fin,by dsimp only [eV,aS,Cx.lU,Cx.wish,PyProof.Rows.envOfC,compEnvC,relabel,Env.kindOf];decide +kernel,by w_fin⟩,rfl⟩ (oo rfl T.aY (@aj _ _ _ _ _ (fT iz (by rfl) T.bw iA (@aj _ _ _ _ _ (pv 3) ax (by rfl))) ax (by rfl))) (fun _ _ _ _ _=>(de (i:=0) (show ((["_law_s"]:List Str) ++ (["_law_up"]:List Str)).Nodup by w_fin) rfl (by w_up))) (fun _ _ _ _ _=>o5) (fun _ _ _ _ _=>(Ew (K:=K) rfl PySem.F.plainAttrs_tuple PySem.F.slot_tuple_index PySem.F.type_tuple_index (Hy (K:=K) rfl) (pv 1) (@aj _ _ _ _ _ (pv 0) ax (by rfl))))) ax (by rfl))) (@aj _ _ _ _ _ (pv 2) ax (by rfl)) (by rfl))) (qK (n:=2) rfl (lr (de (i:=2) zX.nd rfl (by w_up)) (lr (de (i:=3) zX.nd rfl (by w_up)) qJ))))) (by intro _;rfl))
  (@bq _ _ _ (@dZ _ _ _ _ (@eY _ _ _ _ _ (@aj _ _ _ _ _ (pv 2) (@aj _ _ _ _ _ (pv 3) ax (by rfl)) (by rfl)))))))),?_⟩
 exact iF (b:=zW) (a6 (bN (ai 0) (qR (lu (aV 2) (lu (aV 3) qQ))))
  (a6 (fF (c7 (aG mN (aG dG (ai 1) (aP _)) (qa _))) (d3 (eZ (ao (ai 2) (ao (b6 mE (ao (nW (oz (ao (b6 iE (ao (ai 3) ay)) ay)) (aV 0) o9 (aG dG (ai 3) (b8 (F:=CV) (ao (ai 2) (ao (ai 0) (ao (aG B6 (aP _) (aG dG (ai 1) (aP _))) ay))) vA))) ay)) ay)))) gA)
  (a6 (lI (oz (ao (aG qz (aG dG (ai 1) (aP _)) (aP _)) ay)) (aV 4) (bN (eZ (ao (b6 mE (ao (nW (oz (ao (b6 iE (ao (ai 3) ay)) ay)) (aV 0) o9 (kX Io (ai 1) (ao (ai 0) ay))) ay)) (ao (ai 2) ay))) (qR (lu (aV 2) (lu (aV 3) qQ)))))
  (d3 (eZ (ao (ai 2) (ao (ai 3) ay))))))) rfl h
def Ft:au->Dm Fl :=
 (az (aK (cM ah) (hName 1))
 (az (c9 (c4 (ag 0)) (kH 2 (cf (hName 2) (cf (hName 3) lh))) (az (dJ (oQ (aA (aD (e8 true) (ag 1) (cM ah))) (aA (aD (iO false) (aD a5 (aD bG (ag 1) (tT mY (fC (.int 1)))) (fC (.int 0))) (ag 2)))) (aK (aD gg (aD a5 (ud "list" uf (ag 1)) (fC (.int 1))) (ag 3)) (hName 3)) aQ)
 (az (dJ (aA (aD (iO false) (ag 2) (fC (.str "t")))) (aK (aD jH (ag 3) (fC (.int 4))) (hName 3)) aQ)
 (dJ (aA (aD (iO true) (ag 3) (fC (.int 0)))) (cg (iw "list" a9 (ag 1) (ae (bD (ae (ag 2) (ae (ag 3) ah))) ah))) aQ))))
 (bj (aM bU (ae (ag 1) ah)))))
def zY:List D->Dm D:=gI 4 Ft
def CY:Stmt:=top 46
theorem zZ:aL ["_law_word_here","_law_found","_law_letter","_law_k"] ["_law_word_here"] (av CY):=⟨rfl,rfl,rfl,by w_fin,rfl,by w_fin,by w_fin⟩
theorem Sd {f:Addr} {fd:FuncData} (D:Def K mg "_law_plain" CY ["_law_word_here"] f fd) (T:Txt mg)  :aI P w K mg base bH 1 f fd ["_law_word_here"] (bM K 1 zY):=by
 refine D.F.ok zZ (fun _ _ _ _ h=>h.1) (fun c A o s H v Q E hr h=>?_)
 have hu:=hr.units
 refine ⟨_,(@aZ _ _ _ _ _ (@cn (i:=1) _ _ _ _ _ _ zZ.nd rfl (by w_up) (@kn _ _ _ _ ax) (by rfl) (by w_up))
  (@aZ _ _ _ _ _ (@lD _ _ _ _ _ _ _ _ PassesOwn.never rfl (om (pv 0)) (qK (n:=2) rfl (lr (de (i:=2) zZ.nd rfl (by w_up)) (lr (de (i:=3) zZ.nd rfl (by w_up)) qJ))) (@aZ _ _ _ _ _ (@fz _ _ _ _ _ _ _ _ (PW.pt (Ea (df (uR hu) (pv 1) (@kn _ _ _ _ ax) (aH _)) (D9 (df mK (@bJ _ _ _ _ _ _ _ e7 (@bJ _ _ _ _ _ _ _ iL (pv 1) (vX vY aO) (fun _ _=>rfl)) aO (fun _ _=>rfl)) (pv 2) (aH _))))) (@bq _ _ _ (@cn (i:=3) _ _ _ _ _ _ zZ.nd rfl (by w_up) (cX mT (@bJ _ _ _ _ _ _ _ e7 (wx PySem.F.plainAttrs_list PySem.F.slot_list_pop PySem.F.type_list_pop wz (pv 1)) aO (fun _ _=>rfl)) (pv 3)) (by rfl) (by w_up))) gy)
  (@aZ _ _ _ _ _ (@fz _ _ _ _ _ _ _ _ (df mK (pv 2) pN (aH _)) (@bq _ _ _ (@cn (i:=3) _ _ _ _ _ _ zZ.nd rfl (by w_up) (cX qo (pv 3) aO) (by rfl) (by w_up))) gy)
  (@bq _ _ _ (@fz _ _ _ _ _ _ _ _ (df zo (pv 3) aO (aH _)) (@bq _ _ _ (mQ (lE PySem.F.plainAttrs_list PySem.F.slot_list_append PySem.F.type_list_append oJ (pv 1) (@aj _ _ _ _ _ (@eY _ _ _ _ _ (@aj _ _ _ _ _ (pv 2) (@aj _ _ _ _ _ (pv 3) ax (by rfl)) (by rfl))) ax (by rfl))))) gy)))) (by intro _;rfl))
  (@bq _ _ _ (@dZ _ _ _ _ (fA mL (by rfl) T.bB mx (@aj _ _ _ _ _ (pv 1) ax (by rfl))))))),?_⟩
 exact iF (b:=Ft) (a6 (bN (kq ay) (aV 1))
  (a6 (lI (oy (ai 0)) (qR (lu (aV 2) (lu (aV 3) qQ))) (a6 (fF (ER (c7 (aG (qA true) (ai 1) (kq ay))) (c7 (aG mN (aG dG (aG fD (ai 1) (xk xq (aP _))) (aP _)) (ai 2)))) (bN (aG mX (aG dG (yx yz (ai 1)) (aP _)) (ai 3)) (aV 3)) gA)
  (a6 (fF (c7 (aG mN (ai 2) (qa _))) (bN (aG qz (ai 3) (aP _)) (aV 3)) gA)
  (fF (c7 (aG zF (ai 3) (aP _))) (m9 (kX oT (ai 1) (ao (eZ (ao (ai 2) (ao (ai 3) ay))) ay))) gA))))
  (d3 (b6 mE (ao (ai 1) ay))))) rfl h
def Fu:au->Dm Fl :=
 (az (aK (cM (ae (aM lJ (ae (ag 0) ah)) ah)) (hName 2))
 (az (aK (cM (ae (bD ah) ah)) (hName 3))
 (az (aK (cM ah) (hName 4))
 (az (c9 (ck (ae (ag 1) ah)) (hName 5) (dJ (aA (aD qO (ag 5) (aM cc (ae (ag 2) ah)))) (az (cg (iw "list" a9 (ag 4) (ae (cM ah) ah)))
 (az (c9 (c4 (bD (ae (bD (ae (fC (.str "s")) (ae (fC (.int 1)) ah))) (ae (bD (ae (fC (.str "t")) (ae (fC (.int 1)) ah))) ah)))) (hName 6) (az (aK (aM lJ (ae (aM pb (ae (aD bG (ag 2) (ag 5)) (ae (ag 6) ah))) ah)) (hName 7))
 (az (dJ (aA (aD (nh true) (ag 7) (ag 2))) (az (cg (iw "list" a9 (ag 2) (ae (ag 7) ah)))
 (cg (iw "list" a9 (ag 3) (ae (aM zY (ae (aD jI (aD bG (ag 3) (ag 5)) (bD (ae (ag 6) ah))) ah)) ah)))) aQ)
 (cg (iw "list" a9 (aD bG (ag 4) (ag 5)) (ae (iw "list" eK (ag 2) (ae (ag 7) ah)) ah))))))
 (dJ (aA (aD va (aM cc (ae (ag 2) ah)) (ag 1))) (bj (fC .non)) aQ))) aQ))
 (bj (aM bU (ae (cD (ck (ae (aM cc (ae (ag 2) ah)) ah)) 1 [2,3,4] (hName 0) dc (bD (ae (aD bG (ag 1) (ag 0)) (ae (aD bG (ag 2) (ag 0)) (ae (aD bG (aD bG (ag 3) (ag 0)) (fC (.int 0))) (ae (aD bG (aD bG (ag 3) (ag 0)) (fC (.int 1))) ah)))))) ah)))))))
def yK:List D->Dm D:=gI 8 Fu
def CZ:Stmt:=top 47
theorem yL:aL ["_law_floor_here","_law_most","_law_forms","_law_words","_law_links","_law_at","_law_step","_law_fresh"] ["_law_floor_here","_law_most"] (av CZ):=⟨rfl,rfl,rfl,by w_fin,rfl,by w_fin,by w_fin⟩
theorem Se {f:Addr} {fd:FuncData} (D:Def K mg "_law_chart" CZ ["_law_floor_here","_law_most"] f fd) (T:Txt mg)  {cw:Addr} {cx:FuncData} (a8:Def K mg "_law_form" yI ["_law_floor_here"] cw cx) (bp:aI P w K mg base bH 2 cw cx ["_law_floor_here"] (bM K 1 lJ)) {bx:Addr} {bz:FuncData} (bA:Def K mg "_law_stepped" yJ ["_law_floor_here","_law_step"] bx bz) (bP:aI P w K mg base bH 2 bx bz ["_law_floor_here","_law_step"] (bM K 2 pb)) {gL:Addr} {gM:FuncData} (gO:Def K mg "_law_plain" CY ["_law_word_here"] gL gM) (jN:aI P w K mg base bH 1 gL gM ["_law_word_here"] (bM K 1 zY)):aI P w K mg base bH 3 f fd ["_law_floor_here","_law_most"] (bM K 2 yK):=by
 refine D.F.ok yL (fun _ _ _ _ h=>h.1) (fun c A o s H v Q E hr h=>?_)
 have hu:=hr.units
 refine ⟨_,(@aZ _ _ _ _ _ (@cn (i:=2) _ _ _ _ _ _ yL.nd rfl (by w_up) (@kn _ _ _ _ (@aj _ _ _ _ _ (b9 bp a8 hr (by decide) rfl (@aj _ _ _ _ _ (pv 0) ax (by rfl))) ax (by rfl))) (by rfl) (by w_up))
  (@aZ _ _ _ _ _ (@cn (i:=3) _ _ _ _ _ _ yL.nd rfl (by w_up) (@kn _ _ _ _ (@aj _ _ _ _ _ (@eY _ _ _ _ _ ax) ax (by rfl))) (by rfl) (by w_up))
  (@aZ _ _ _ _ _ (@cn (i:=4) _ _ _ _ _ _ yL.nd rfl (by w_up) (@kn _ _ _ _ ax) (by rfl) (by w_up))
  (@aZ _ _ _ _ _ (@lD _ _ _ _ _ _ _ _ PassesOwn.never rfl (oo rfl T.aY (@aj _ _ _ _ _ (pv 1) ax (by rfl))) (de (i:=5) yL.nd rfl (by w_up)) (@bq _ _ _ (@fz _ _ _ _ _ _ _ _ (df tu (pv 5) (fT iz (by rfl) T.bw iA (@aj _ _ _ _ _ (pv 2) ax (by rfl))) (aH _)) (@aZ _ _ _ _ _ (mQ (lE PySem.F.plainAttrs_list PySem.F.slot_list_append PySem.F.type_list_append oJ (pv 4) (@aj _ _ _ _ _ (@kn _ _ _ _ ax) ax (by rfl))))
  (@aZ _ _ _ _ _ (@lD _ _ _ _ _ _ _ _ PassesOwn.never rfl (om (@eY _ _ _ _ _ (@aj _ _ _ _ _ (@eY _ _ _ _ _ (@aj _ _ _ _ _ pN (@aj _ _ _ _ _ aO ax (by rfl)) (by rfl))) (@aj _ _ _ _ _ (@eY _ _ _ _ _ (@aj _ _ _ _ _ pN (@aj _ _ _ _ _ aO ax (by rfl)) (by rfl))) ax (by rfl)) (by rfl)))) (de (i:=6) yL.nd rfl (by w_up)) (@aZ _ _ _ _ _ (@cn (i:=7) _ _ _ _ _ _ yL.nd rfl (by w_up) (b9 bp a8 hr (by decide) rfl (@aj _ _ _ _ _ (b9 bP bA hr (by decide) rfl (@aj _ _ _ _ _ (@bJ _ _ _ _ _ _ _ iL (pv 2) (pv 5) (fun _ _=>rfl)) (@aj _ _ _ _ _ (pv 6) ax (by rfl)) (by rfl))) ax (by rfl))) (by rfl) (by w_up))
  (@aZ _ _ _ _ _ (@fz _ _ _ _ _ _ _ _ (df (K4 hu) (pv 7) (pv 2) (by with_unfolding_all rfl)) (@aZ _ _ _ _ _ (mQ (lE PySem.F.plainAttrs_list PySem.F.slot_list_append PySem.F.type_list_append oJ (pv 2) (@aj _ _ _ _ _ (pv 7) ax (by rfl))))
  (@bq _ _ _ (mQ (lE PySem.F.plainAttrs_list PySem.F.slot_list_append PySem.F.type_list_append oJ (pv 3) (@aj _ _ _ _ _ (b9 jN gO hr (by decide) rfl (@aj _ _ _ _ _ (cX wJ (@bJ _ _ _ _ _ _ _ iL (pv 3) (pv 5) (fun _ _=>rfl)) (@eY _ _ _ _ _ (@aj _ _ _ _ _ (pv 6) ax (by rfl)))) ax (by rfl))) ax (by rfl)))))) gy)
  (@bq _ _ _ (mQ (lE PySem.F.plainAttrs_list PySem.F.slot_list_append PySem.F.type_list_append oJ (@bJ _ _ _ _ _ _ _ iL (pv 4) (pv 5) (fun _ _=>rfl)) (@aj _ _ _ _ _ (lE PySem.F.plainAttrs_list PySem.F.slot_list_index PySem.F.type_list_index (Lc hu) (pv 2) (@aj _ _ _ _ _ (pv 7) ax (by rfl))) ax (by rfl))))))) (by intro _;rfl))
  (@bq _ _ _ (@fz _ _ _ _ _ _ _ _ (df zp (fT iz (by rfl) T.bw iA (@aj _ _ _ _ _ (pv 2) ax (by rfl))) (pv 1) (aH _)) (@bq _ _ _ (@dZ _ _ _ _ JV)) gy)))) gy)) (by intro _;rfl))
  (@bq _ _ _ (@dZ _ _ _ _ (fA mL (by rfl) T.bB mx (@aj _ _ _ _ _ (pY (own:=["_law_at"]) (fr:=["_law_forms","_law_words","_law_links"]) (js:=[2,3,4]) rfl ⟨⟨rfl,by w_fin,by w_fin,by dsimp only [eV,aS,Cx.lU,Cx.wish,PyProof.Rows.envOfC,compEnvC,relabel,Env.kindOf];decide +kernel,by w_fin⟩,rfl⟩ (oo rfl T.aY (@aj _ _ _ _ _ (fT iz (by rfl) T.bw iA (@aj _ _ _ _ _ (pv 2) ax (by rfl))) ax (by rfl))) (fun _ _ _ _ _=>(de (i:=0) (show ((["_law_at"]:List Str) ++ (["_law_forms","_law_words","_law_links"]:List Str)).Nodup by w_fin) rfl (by w_up))) (fun _ _ _ _ _=>o5) (fun _ _ _ _ _=>(@eY _ _ _ _ _ (@aj _ _ _ _ _ (@bJ _ _ _ _ _ _ _ (sD (K:=K) rfl) (pv 1) (pv 0) (fun _ _=>rfl)) (@aj _ _ _ _ _ (@bJ _ _ _ _ _ _ _ (sD (K:=K) rfl) (pv 2) (pv 0) (fun _ _=>rfl)) (@aj _ _ _ _ _ (@bJ _ _ _ _ _ _ _ (sD (K:=K) rfl) (@bJ _ _ _ _ _ _ _ (sD (K:=K) rfl) (pv 3) (pv 0) (fun _ _=>rfl)) aO (fun _ _=>rfl)) (@aj _ _ _ _ _ (@bJ _ _ _ _ _ _ _ (sD (K:=K) rfl) (@bJ _ _ _ _ _ _ _ (sD (K:=K) rfl) (pv 3) (pv 0) (fun _ _=>rfl)) aO (fun _ _=>rfl)) ax (by rfl)) (by rfl)) (by rfl)) (by rfl))))) ax (by rfl))))))))),?_⟩
 exact iF (b:=Fu) (a6 (bN (kq (ao (b8 (F:=lJ) (ao (ai 0) ay) lB) ay)) (aV 2))
  (a6 (bN (kq (ao (eZ ay) ay)) (aV 3))
  (a6 (bN (kq ay) (aV 4))
  (a6 (lI (oz (ao (ai 1) ay)) (aV 5) (fF (c7 (aG tV (ai 5) (b6 iE (ao (ai 2) ay)))) (a6 (m9 (kX oT (ai 4) (ao (kq ay) ay)))
  (a6 (lI (oy (eZ (ao (eZ (ao (qa _) (ao (aP _) ay))) (ao (eZ (ao (qa _) (ao (aP _) ay))) ay)))) (aV 6) (a6 (bN (b8 (F:=lJ) (ao (b8 (F:=pb) (ao (aG fD (ai 2) (ai 5)) (ao (ai 6) ay)) dM) ay) lB) (aV 7))
  (a6 (fF (c7 (aG (E8 true) (ai 7) (ai 2))) (a6 (m9 (kX oT (ai 2) (ao (ai 7) ay)))
  (m9 (kX oT (ai 3) (ao (b8 (F:=zY) (ao (aG xv (aG fD (ai 3) (ai 5)) (eZ (ao (ai 6) ay))) ay) lB) ay)))) gA)
  (m9 (kX oT (aG fD (ai 4) (ai 5)) (ao (kX MB (ai 2) (ao (ai 7) ay)) ay))))))
  (fF (c7 (aG zD (b6 iE (ao (ai 2) ay)) (ai 1))) (d3 LL) gA))) gA))
  (d3 (b6 mE (ao (nW (oz (ao (b6 iE (ao (ai 2) ay)) ay)) (aV 0) o9 (eZ (ao (aG fD (ai 1) (ai 0)) (ao (aG fD (ai 2) (ai 0)) (ao (aG fD (aG fD (ai 3) (ai 0)) (aP _)) (ao (aG fD (aG fD (ai 3) (ai 0)) (aP _)) ay)))))) ay))))))) rfl h
def Fv:au->Dm Fl :=
 (az (aK (aD rR (cM (ae (fC (.int 0)) ah)) (aM cc (ae (ag 0) ah))) (hName 1))
 (az (c9 (kI (ae (ag 0) ah)) (kH 2 (cf (hName 2) (cf (hName 3) lh))) (aK (ag 2) (hSub (ag 1) (ag 3))))
 (bj (aM bU (ae (ag 1) ah)))))
def si:List D->Dm D:=gI 4 Fv
def yM:Stmt:=top 5
theorem Fw:aL ["turning","back","number","led"] ["turning"] (av yM):=⟨rfl,rfl,rfl,by w_fin,rfl,by w_fin,by w_fin⟩
theorem Sf {f:Addr} {fd:FuncData} (D:Def K mg "turned_back" yM ["turning"] f fd) (T:Txt mg)  :aI P w K mg base bH 1 f fd ["turning"] (bM K 1 si):=by
 refine D.F.ok Fw (fun _ _ _ _ h=>h.1) (fun c A o s H v Q E hr h=>?_)
 refine ⟨_,(@aZ _ _ _ _ _ (@cn (i:=1) _ _ _ _ _ _ Fw.nd rfl (by w_up) (cX KA (@kn _ _ _ _ (@aj _ _ _ _ _ aO ax (by rfl))) (fT iz (by rfl) T.bw iA (@aj _ _ _ _ _ (pv 0) ax (by rfl)))) (by rfl) (by w_up))
  (@aZ _ _ _ _ _ (@lD _ _ _ _ _ _ _ _ PassesOwn.never rfl (Eu rfl T.gK (@aj _ _ _ _ _ (pv 0) ax (by rfl))) (qK (n:=2) rfl (lr (de (i:=2) Fw.nd rfl (by w_up)) (lr (de (i:=3) Fw.nd rfl (by w_up)) qJ))) (@bq _ _ _ (o4 (pv 2) (pO (pv 1) (pv 3) pS))) (by intro _;rfl))
  (@bq _ _ _ (@dZ _ _ _ _ (fA mL (by rfl) T.bB mx (@aj _ _ _ _ _ (pv 1) ax (by rfl))))))),?_⟩
 exact iF (b:=Fv) (a6 (bN (aG LV (kq (ao (aP _) ay)) (b6 iE (ao (ai 0) ay))) (aV 1))
  (a6 (lI (E1 (ao (ai 0) ay)) (qR (lu (aV 2) (lu (aV 3) qQ))) (bN (ai 2) (qc (ai 1) (ai 3))))
  (d3 (b6 mE (ao (ai 1) ay))))) rfl h
def Fx:au->Dm Fl :=
 (bj (aM bU (ae (cD (c4 (ag 0)) 1 [1] (hName 0) dc (aD a5 (ag 1) (ag 0))) ah)))
def qk:List D->Dm D:=gI 2 Fx
def Aa:Stmt:=top 4
theorem Sg:aL ["one","other"] ["one","other"] (av Aa):=⟨rfl,rfl,rfl,by w_fin,rfl,by w_fin,by w_fin⟩
theorem Si {f:Addr} {fd:FuncData} (D:Def K mg "followed" Aa ["one","other"] f fd) (T:Txt mg)  :aI P w K mg base bH 1 f fd ["one","other"] (bM K 2 qk):=by
 refine D.F.ok Sg (fun _ _ _ _ h=>h.1) (fun c A o s H v Q E hr h=>?_)
 refine ⟨_,(@bq _ _ _ (@dZ _ _ _ _ (fA mL (by rfl) T.bB mx (@aj _ _ _ _ _ (pY (own:=["number"]) (fr:=["other"]) (js:=[1]) rfl ⟨⟨rfl,by w_fin,by w_fin,by dsimp only [eV,aS,Cx.lU,Cx.wish,PyProof.Rows.envOfC,compEnvC,relabel,Env.kindOf];decide +kernel,by w_fin⟩,rfl⟩ (om (pv 0)) (fun _ _ _ _ _=>(de (i:=0) (show ((["number"]:List Str) ++ (["other"]:List Str)).Nodup by w_fin) rfl (by w_up))) (fun _ _ _ _ _=>o5) (fun _ _ _ _ _=>(@bJ _ _ _ _ _ _ _ (qM (K:=K) rfl) (pv 1) (pv 0) (fun _ _=>rfl)))) ax (by rfl))))),?_⟩
 exact iF (b:=Fx) (d3 (b6 mE (ao (nW (oy (ai 0)) (aV 0) o9 (aG dG (ai 1) (ai 0))) ay))) rfl h
def Fy:au->Dm Fl :=
 (az (aK (aM si (ae (ag 1) ah)) (hName 2))
 (az (aK (aM qk (ae (aM qk (ae (ag 2) (ae (aD a5 (ag 0) (fC (.int 0))) ah))) (ae (ag 1) ah))) (hName 3))
 (az (aK (aM qk (ae (aM qk (ae (ag 2) (ae (aD a5 (ag 0) (fC (.int 1))) ah))) (ae (ag 1) ah))) (hName 4))
 (bj (bD (ae (ag 3) (ae (ag 4) ah)))))))
def C0:List D->Dm D:=gI 5 Fy
def C1:Stmt:=top 12
theorem Fz:aL ["floor","p","back","right","up"] ["floor","p"] (av C1):=⟨rfl,rfl,rfl,by w_fin,rfl,by w_fin,by w_fin⟩
theorem Sj {f:Addr} {fd:FuncData} (D:Def K mg "called_anew" C1 ["floor","p"] f fd) (T:Txt mg)  {bQ:Addr} {bR:FuncData} (bS:Def K mg "turned_back" yM ["turning"] bQ bR) (bZ:aI P w K mg base bH 1 bQ bR ["turning"] (bM K 1 si)) {d8:Addr} {eo:FuncData} (cL:Def K mg "followed" Aa ["one","other"] d8 eo) (cW:aI P w K mg base bH 1 d8 eo ["one","other"] (bM K 2 qk)):aI P w K mg base bH 2 f fd ["floor","p"] (bM K 2 C0):=by
 refine D.F.ok Fz (fun _ _ _ _ h=>h.1) (fun c A o s H v Q E hr h=>?_)
 refine ⟨_,(@aZ _ _ _ _ _ (@cn (i:=2) _ _ _ _ _ _ Fz.nd rfl (by w_up) (b9 bZ bS hr (by decide) rfl (@aj _ _ _ _ _ (pv 1) ax (by rfl))) (by rfl) (by w_up))
  (@aZ _ _ _ _ _ (@cn (i:=3) _ _ _ _ _ _ Fz.nd rfl (by w_up) (b9 cW cL hr (by decide) rfl (@aj _ _ _ _ _ (b9 cW cL hr (by decide) rfl (@aj _ _ _ _ _ (pv 2) (@aj _ _ _ _ _ (@bJ _ _ _ _ _ _ _ e7 (pv 0) aO (fun _ _=>rfl)) ax (by rfl)) (by rfl))) (@aj _ _ _ _ _ (pv 1) ax (by rfl)) (by rfl))) (by rfl) (by w_up))
  (@aZ _ _ _ _ _ (@cn (i:=4) _ _ _ _ _ _ Fz.nd rfl (by w_up) (b9 cW cL hr (by decide) rfl (@aj _ _ _ _ _ (b9 cW cL hr (by decide) rfl (@aj _ _ _ _ _ (pv 2) (@aj _ _ _ _ _ (@bJ _ _ _ _ _ _ _ e7 (pv 0) aO (fun _ _=>rfl)) ax (by rfl)) (by rfl))) (@aj _ _ _ _ _ (pv 1) ax (by rfl)) (by rfl))) (by rfl) (by w_up))
  (@bq _ _ _ (@dZ _ _ _ _ (@eY _ _ _ _ _ (@aj _ _ _ _ _ (pv 3) (@aj _ _ _ _ _ (pv 4) ax (by rfl)) (by rfl)))))))),?_⟩
 exact iF (b:=Fy) (a6 (bN (b8 (F:=si) (ao (ai 1) ay) lB) (aV 2))
  (a6 (bN (b8 (F:=qk) (ao (b8 (F:=qk) (ao (ai 2) (ao (aG dG (ai 0) (aP _)) ay)) dM) (ao (ai 1) ay)) dM) (aV 3))
  (a6 (bN (b8 (F:=qk) (ao (b8 (F:=qk) (ao (ai 2) (ao (aG dG (ai 0) (aP _)) ay)) dM) (ao (ai 1) ay)) dM) (aV 4))
  (d3 (eZ (ao (ai 3) (ao (ai 4) ay))))))) rfl h
def FA:au->Dm Fl :=
 (az (aK (cM (ae (ag 1) ah)) (hName 2))
 (az (aK (fC (.int 0)) (hName 3))
 (az (jJ (aA (aD qO (ag 3) (aM cc (ae (ag 2) ah)))) (az (c9 (c4 (ag 0)) (hName 4) (az (aK (aD a5 (ag 4) (aD bG (ag 2) (ag 3))) (hName 5))
 (dJ (aA (aD (qP true) (ag 5) (ag 2))) (cg (iw "list" a9 (ag 2) (ae (ag 5) ah))) aQ)))
 (aK (aD gg (ag 3) (fC (.int 1))) (hName 3))))
 (bj (aM bU (ae (ag 2) ah))))))
def C2:List D->Dm D:=gI 6 FA
def C3:Stmt:=top 10
theorem Ab:aL ["floor","s","squares","place","turning","reached"] ["floor","s"] (av C3):=⟨rfl,rfl,rfl,by w_fin,rfl,by w_fin,by w_fin⟩
theorem Sk {f:Addr} {fd:FuncData} (D:Def K mg "squares_from" C3 ["floor","s"] f fd) (T:Txt mg)  :aI P w K mg base bH 1 f fd ["floor","s"] (bM K 2 C2):=by
 refine D.F.ok Ab (fun _ _ _ _ h=>h.1) (fun c A o s H v Q E hr h=>?_)
 refine ⟨_,(@aZ _ _ _ _ _ (@cn (i:=2) _ _ _ _ _ _ Ab.nd rfl (by w_up) (@kn _ _ _ _ (@aj _ _ _ _ _ (pv 1) ax (by rfl))) (by rfl) (by w_up))
  (@aZ _ _ _ _ _ (@cn (i:=3) _ _ _ _ _ _ Ab.nd rfl (by w_up) aO (by rfl) (by w_up))
  (@aZ _ _ _ _ _ (zm PassesOwn.never (df tu (pv 3) (fT iz (by rfl) T.bw iA (@aj _ _ _ _ _ (pv 2) ax (by rfl))) (aH _)) (@aZ _ _ _ _ _ (@lD _ _ _ _ _ _ _ _ PassesOwn.never rfl (om (pv 0)) (de (i:=4) Ab.nd rfl (by w_up)) (@aZ _ _ _ _ _ (@cn (i:=5) _ _ _ _ _ _ Ab.nd rfl (by w_up) (@bJ _ _ _ _ _ _ _ e7 (pv 4) (@bJ _ _ _ _ _ _ _ iL (pv 2) (pv 3) (fun _ _=>rfl)) (fun _ _=>rfl)) (by rfl) (by w_up))
  (@bq _ _ _ (@fz _ _ _ _ _ _ _ _ (df Ej (pv 5) (pv 2) (by with_unfolding_all rfl)) (@bq _ _ _ (mQ (lE PySem.F.plainAttrs_list PySem.F.slot_list_append PySem.F.type_list_append oJ (pv 2) (@aj _ _ _ _ _ (pv 5) ax (by rfl))))) gy))) (by intro _;rfl))
  (@bq _ _ _ (@cn (i:=3) _ _ _ _ _ _ Ab.nd rfl (by w_up) (cX mT (pv 3) aO) (by rfl) (by w_up)))))
  (@bq _ _ _ (@dZ _ _ _ _ (fA mL (by rfl) T.bB mx (@aj _ _ _ _ _ (pv 2) ax (by rfl)))))))),?_⟩
 exact iF (b:=FA) (a6 (bN (kq (ao (ai 1) ay)) (aV 2))
  (a6 (bN (aP _) (aV 3))
  (a6 (zJ (c7 (aG tV (ai 3) (b6 iE (ao (ai 2) ay)))) (a6 (lI (oy (ai 0)) (aV 4) (a6 (bN (aG dG (ai 4) (aG fD (ai 2) (ai 3))) (aV 5))
  (fF (c7 (aG (B8 true) (ai 5) (ai 2))) (m9 (kX oT (ai 2) (ao (ai 5) ay))) gA)))
  (bN (aG mX (ai 3) (aP _)) (aV 3))))
  (d3 (b6 mE (ao (ai 2) ay)))))) rfl h
def FC:au->Dm Fl :=
 (bj (aM si (ae (aM C2 (ae (ag 0) (ae (ag 1) ah))) ah)))
def C4:List D->Dm D:=gI 2 FC
def C5:Stmt:=top 13
theorem Sl:aL ["floor","s"] ["floor","s"] (av C5):=⟨rfl,rfl,rfl,by w_fin,rfl,by w_fin,by w_fin⟩
theorem Sn {f:Addr} {fd:FuncData} (D:Def K mg "numbering_from" C5 ["floor","s"] f fd) (T:Txt mg)  {bQ:Addr} {bR:FuncData} (bS:Def K mg "turned_back" yM ["turning"] bQ bR) (bZ:aI P w K mg base bH 1 bQ bR ["turning"] (bM K 1 si)) {eM:Addr} {eN:FuncData} (eO:Def K mg "squares_from" C3 ["floor","s"] eM eN) (ie:aI P w K mg base bH 1 eM eN ["floor","s"] (bM K 2 C2)):aI P w K mg base bH 2 f fd ["floor","s"] (bM K 2 C4):=by
 refine D.F.ok Sl (fun _ _ _ _ h=>h.1) (fun c A o s H v Q E hr h=>?_)
 refine ⟨_,(@bq _ _ _ (@dZ _ _ _ _ (b9 bZ bS hr (by decide) rfl (@aj _ _ _ _ _ (b9 ie eO hr (by decide) rfl (@aj _ _ _ _ _ (pv 0) (@aj _ _ _ _ _ (pv 1) ax (by rfl)) (by rfl))) ax (by rfl))))),?_⟩
 exact iF (b:=FC) (d3 (b8 (F:=si) (ao (b8 (F:=C2) (ao (ai 0) (ao (ai 1) ay)) dM) ay) lB)) rfl h
def FD:au->Dm Fl :=
 (bj (aM C0 (ae (ag 0) (ae (aM C4 (ae (ag 0) (ae (ag 1) ah))) ah))))
def C6:List D->Dm D:=gI 2 FD
def C7:Stmt:=top 14
theorem Sq:aL ["floor","s"] ["floor","s"] (av C7):=⟨rfl,rfl,rfl,by w_fin,rfl,by w_fin,by w_fin⟩
theorem Sr {f:Addr} {fd:FuncData} (D:Def K mg "numbered_from" C7 ["floor","s"] f fd) (T:Txt mg)  {fJ:Addr} {fK:FuncData} (fL:Def K mg "called_anew" C1 ["floor","p"] fJ fK) (iX:aI P w K mg base bH 2 fJ fK ["floor","p"] (bM K 2 C0)) {dg:Addr} {dh:FuncData} (dj:Def K mg "numbering_from" C5 ["floor","s"] dg dh) (fg:aI P w K mg base bH 2 dg dh ["floor","s"] (bM K 2 C4)):aI P w K mg base bH 3 f fd ["floor","s"] (bM K 2 C6):=by
 refine D.F.ok Sq (fun _ _ _ _ h=>h.1) (fun c A o s H v Q E hr h=>?_)
 refine ⟨_,(@bq _ _ _ (@dZ _ _ _ _ (b9 iX fL hr (by decide) rfl (@aj _ _ _ _ _ (pv 0) (@aj _ _ _ _ _ (b9 fg dj hr (by decide) rfl (@aj _ _ _ _ _ (pv 0) (@aj _ _ _ _ _ (pv 1) ax (by rfl)) (by rfl))) ax (by rfl)) (by rfl))))),?_⟩
 exact iF (b:=FD) (d3 (b8 (F:=C0) (ao (ai 0) (ao (b8 (F:=C4) (ao (ai 0) (ao (ai 1) ay)) dM) ay)) dM)) rfl h
def FE:au->Dm Fl :=
 (bj (aM lS (ae (cD (ck (ae (aM cc (ae (aD a5 (ag 0) (fC (.int 0))) ah)) ah)) 1 [0] (hName 0) dc (aM C6 (ae (ag 1) (ae (ag 0) ah)))) ah)))
def mP:List D->Dm D:=gI 1 FE
def uh:Stmt:=top 15
theorem Ss:aL ["floor"] ["floor"] (av uh):=⟨rfl,rfl,rfl,by w_fin,rfl,by w_fin,by w_fin⟩
theorem Sv {f:Addr} {fd:FuncData} (D:Def K mg "form_of" uh ["floor"] f fd) (T:Txt mg)  {dW:Addr} {dX:FuncData} (dY:Def K mg "numbered_from" C7 ["floor","s"] dW dX) (gj:aI P w K mg base bH 3 dW dX ["floor","s"] (bM K 2 C6)):aI P w K mg base bH 4 f fd ["floor"] (bM K 1 mP):=by
 refine D.F.ok Ss (fun _ _ _ _ h=>h.1) (fun c A o s H v Q E hr h=>?_)
 have hu:=hr.units
 refine ⟨_,(@bq _ _ _ (@dZ _ _ _ _ (fT (La rfl hu) (by rfl) T.sf He (@aj _ _ _ _ _ (pY (own:=["s"]) (fr:=["floor"]) (js:=[0]) rfl ⟨⟨rfl,by w_fin,by w_fin,by dsimp only [eV,aS,Cx.lU,Cx.wish,PyProof.Rows.envOfC,compEnvC,relabel,Env.kindOf];decide +kernel,by w_fin⟩,rfl⟩ (oo rfl T.aY (@aj _ _ _ _ _ (fT iz (by rfl) T.bw iA (@aj _ _ _ _ _ (@bJ _ _ _ _ _ _ _ e7 (pv 0) aO (fun _ _=>rfl)) ax (by rfl))) ax (by rfl))) (fun _ _ _ _ _=>(de (i:=0) (show ((["s"]:List Str) ++ (["floor"]:List Str)).Nodup by w_fin) rfl (by w_up))) (fun _ _ _ _ _=>o5) (fun _ _ _ _ _=>(b9 gj dY hr (by decide) rfl (@aj _ _ _ _ _ (pv 1) (@aj _ _ _ _ _ (pv 0) ax (by rfl)) (by rfl))))) ax (by rfl))))),?_⟩
 exact iF (b:=FE) (d3 (b6 Mw (ao (nW (oz (ao (b6 iE (ao (aG dG (ai 0) (aP _)) ay)) ay)) (aV 0) o9 (b8 (F:=C6) (ao (ai 1) (ao (ai 0) ay)) dM)) ay))) rfl h
def FF:au->Dm Fl :=
 (az (aK (cM (ae (ag 1) ah)) (hName 2))
 (az (aK (aD a5 (ag 0) (ag 1)) (hName 3))
 (az (jJ (aA (aD (iO true) (ag 3) (ag 1))) (az (cg (iw "list" a9 (ag 2) (ae (ag 3) ah)))
 (aK (aD a5 (ag 0) (ag 3)) (hName 3))))
 (bj (aM bU (ae (ag 2) ah))))))
def C8:List D->Dm D:=gI 4 FF
def C9:Stmt:=top 7
theorem FG:aL ["turning","first","ring","reached"] ["turning","first"] (av C9):=⟨rfl,rfl,rfl,by w_fin,rfl,by w_fin,by w_fin⟩
theorem Sw {f:Addr} {fd:FuncData} (D:Def K mg "ring_from" C9 ["turning","first"] f fd) (T:Txt mg)  :aI P w K mg base bH 1 f fd ["turning","first"] (bM K 2 C8):=by
 refine D.F.ok FG (fun _ _ _ _ h=>h.1) (fun c A o s H v Q E hr h=>?_)
 refine ⟨_,(@aZ _ _ _ _ _ (@cn (i:=2) _ _ _ _ _ _ FG.nd rfl (by w_up) (@kn _ _ _ _ (@aj _ _ _ _ _ (pv 1) ax (by rfl))) (by rfl) (by w_up))
  (@aZ _ _ _ _ _ (@cn (i:=3) _ _ _ _ _ _ FG.nd rfl (by w_up) (@bJ _ _ _ _ _ _ _ e7 (pv 0) (pv 1) (fun _ _=>rfl)) (by rfl) (by w_up))
  (@aZ _ _ _ _ _ (zm PassesOwn.never (df zo (pv 3) (pv 1) (aH _)) (@aZ _ _ _ _ _ (mQ (lE PySem.F.plainAttrs_list PySem.F.slot_list_append PySem.F.type_list_append oJ (pv 2) (@aj _ _ _ _ _ (pv 3) ax (by rfl))))
  (@bq _ _ _ (@cn (i:=3) _ _ _ _ _ _ FG.nd rfl (by w_up) (@bJ _ _ _ _ _ _ _ e7 (pv 0) (pv 3) (fun _ _=>rfl)) (by rfl) (by w_up)))))
  (@bq _ _ _ (@dZ _ _ _ _ (fA mL (by rfl) T.bB mx (@aj _ _ _ _ _ (pv 2) ax (by rfl)))))))),?_⟩
 exact iF (b:=FF) (a6 (bN (kq (ao (ai 1) ay)) (aV 2))
  (a6 (bN (aG dG (ai 0) (ai 1)) (aV 3))
  (a6 (zJ (c7 (aG zF (ai 3) (ai 1))) (a6 (m9 (kX oT (ai 2) (ao (ai 3) ay)))
  (bN (aG dG (ai 0) (ai 3)) (aV 3))))
  (d3 (b6 mE (ao (ai 2) ay)))))) rfl h
def FH:au->Dm Fl :=
 (az (aK (cM ah) (hName 1))
 (az (aK rW (hName 2))
 (az (c9 (ck (ae (aM cc (ae (ag 0) ah)) ah)) (hName 3) (dJ (aA (t9 true (ag 3) (ag 2))) (az (aK (aM C8 (ae (ag 0) (ae (ag 3) ah))) (hName 4))
 (az (cg (iw "list" a9 (ag 1) (ae (ag 4) ah)))
 (c9 (c4 (ag 4)) (hName 5) (qd (ag 2) (ag 5) (fC (.bl true)))))) aQ))
 (bj (aM bU (ae (ag 1) ah))))))
def Dc:List D->Dm D:=gI 6 FH
def Dd:Stmt:=top 8
theorem Ac:aL ["turning","rings","seen","first","ring","number"] ["turning"] (av Dd):=⟨rfl,rfl,rfl,by w_fin,rfl,by w_fin,by w_fin⟩
theorem Sx {f:Addr} {fd:FuncData} (D:Def K mg "rings_of" Dd ["turning"] f fd) (T:Txt mg)  {iY:Addr} {iZ:FuncData} (i3:Def K mg "ring_from" C9 ["turning","first"] iY iZ) (kM:aI P w K mg base bH 1 iY iZ ["turning","first"] (bM K 2 C8)):aI P w K mg base bH 2 f fd ["turning"] (bM K 1 Dc):=by
 refine D.F.ok Ac (fun _ _ _ _ h=>h.1) (fun c A o s H v Q E hr h=>?_)
 have hu1:=Bk hr
 refine ⟨_,(@aZ _ _ _ _ _ (@cn (i:=1) _ _ _ _ _ _ Ac.nd rfl (by w_up) (@kn _ _ _ _ ax) (by rfl) (by w_up))
  (@aZ _ _ _ _ _ (@cn (i:=2) _ _ _ _ _ _ Ac.nd rfl (by w_up) Og (by rfl) (by w_up))
  (@aZ _ _ _ _ _ (@lD _ _ _ _ _ _ _ _ PassesOwn.never rfl (oo rfl T.aY (@aj _ _ _ _ _ (fT iz (by rfl) T.bw iA (@aj _ _ _ _ _ (pv 0) ax (by rfl))) ax (by rfl))) (de (i:=3) Ac.nd rfl (by w_up)) (@bq _ _ _ (@fz _ _ _ _ _ _ _ _ (vT (Ob hu1 (pv 3) (pv 2))) (@aZ _ _ _ _ _ (@cn (i:=4) _ _ _ _ _ _ Ac.nd rfl (by w_up) (b9 kM i3 hr (by decide) rfl (@aj _ _ _ _ _ (pv 0) (@aj _ _ _ _ _ (pv 3) ax (by rfl)) (by rfl))) (by rfl) (by w_up))
  (@aZ _ _ _ _ _ (mQ (lE PySem.F.plainAttrs_list PySem.F.slot_list_append PySem.F.type_list_append oJ (pv 1) (@aj _ _ _ _ _ (pv 4) ax (by rfl))))
  (@bq _ _ _ (@lD _ _ _ _ _ _ _ _ PassesOwn.never rfl (om (pv 4)) (de (i:=5) Ac.nd rfl (by w_up)) (@bq _ _ _ (Oc hu1 (pv 2) (pv 5) pM rfl)) (by intro _;rfl))))) gy)) (by intro _;rfl))
  (@bq _ _ _ (@dZ _ _ _ _ (fA mL (by rfl) T.bB mx (@aj _ _ _ _ _ (pv 1) ax (by rfl)))))))),?_⟩
 exact iF (b:=FH) (a6 (bN (kq ay) (aV 1))
  (a6 (bN QH (aV 2))
  (a6 (lI (oz (ao (b6 iE (ao (ai 0) ay)) ay)) (aV 3) (fF (B3 (QI (ai 3) (ai 2))) (a6 (bN (b8 (F:=C8) (ao (ai 0) (ao (ai 3) ay)) dM) (aV 4))
  (a6 (m9 (kX oT (ai 1) (ao (ai 4) ay)))
  (lI (oy (ai 4)) (aV 5) (QJ (ai 2) (ai 5) (p9 _))))) gA))
  (d3 (b6 mE (ao (ai 1) ay)))))) rfl h
def FI:au->Dm Fl :=
 (az (aK (aD rR (cM (ae (fC (.int 0)) ah)) (aM cc (ae (ag 0) ah))) (hName 2))
 (az (c9 (c4 (aM Dc (ae (ag 0) ah))) (hName 3) (c9 (kI (ae (ag 3) ah)) (kH 2 (cf (hName 4) (cf (hName 5) lh))) (aK (aD a5 (ag 3) (aD jH (aD gg (ag 4) (ag 1)) (aM cc (ae (ag 3) ah)))) (hSub (ag 2) (ag 5)))))
 (bj (aM bU (ae (ag 2) ah)))))
def De:List D->Dm D:=gI 6 FI
def Df:Stmt:=top 6
theorem Dg:aL ["turning","k","led","ring","place","number"] ["turning","k"] (av Df):=⟨rfl,rfl,rfl,by w_fin,rfl,by w_fin,by w_fin⟩
theorem Sy {f:Addr} {fd:FuncData} (D:Def K mg "often" Df ["turning","k"] f fd) (T:Txt mg)  {j9:Addr} {kc:FuncData} (ke:Def K mg "rings_of" Dd ["turning"] j9 kc) (lK:aI P w K mg base bH 2 j9 kc ["turning"] (bM K 1 Dc)):aI P w K mg base bH 3 f fd ["turning","k"] (bM K 2 De):=by
 refine D.F.ok Dg (fun _ _ _ _ h=>h.1) (fun c A o s H v Q E hr h=>?_)
 refine ⟨_,(@aZ _ _ _ _ _ (@cn (i:=2) _ _ _ _ _ _ Dg.nd rfl (by w_up) (cX KA (@kn _ _ _ _ (@aj _ _ _ _ _ aO ax (by rfl))) (fT iz (by rfl) T.bw iA (@aj _ _ _ _ _ (pv 0) ax (by rfl)))) (by rfl) (by w_up))
  (@aZ _ _ _ _ _ (@lD _ _ _ _ _ _ _ _ PassesOwn.never rfl (om (b9 lK ke hr (by decide) rfl (@aj _ _ _ _ _ (pv 0) ax (by rfl)))) (de (i:=3) Dg.nd rfl (by w_up)) (@bq _ _ _ (@lD _ _ _ _ _ _ _ _ PassesOwn.never rfl (Eu rfl T.gK (@aj _ _ _ _ _ (pv 3) ax (by rfl))) (qK (n:=2) rfl (lr (de (i:=4) Dg.nd rfl (by w_up)) (lr (de (i:=5) Dg.nd rfl (by w_up)) qJ))) (@bq _ _ _ (o4 (@bJ _ _ _ _ _ _ _ e7 (pv 3) (cX qo (cX mT (pv 4) (pv 1)) (fT iz (by rfl) T.bw iA (@aj _ _ _ _ _ (pv 3) ax (by rfl)))) (fun _ _=>rfl)) (pO (pv 2) (pv 5) pS))) (by intro _;rfl))) (by intro _;rfl))
  (@bq _ _ _ (@dZ _ _ _ _ (fA mL (by rfl) T.bB mx (@aj _ _ _ _ _ (pv 2) ax (by rfl))))))),?_⟩
 exact iF (b:=FI) (a6 (bN (aG LV (kq (ao (aP _) ay)) (b6 iE (ao (ai 0) ay))) (aV 2))
  (a6 (lI (oy (b8 (F:=Dc) (ao (ai 0) ay) lB)) (aV 3) (lI (E1 (ao (ai 3) ay)) (qR (lu (aV 4) (lu (aV 5) qQ))) (bN (aG dG (ai 3) (aG qz (aG mX (ai 4) (ai 1)) (b6 iE (ao (ai 3) ay)))) (qc (ai 2) (ai 5)))))
  (d3 (b6 mE (ao (ai 2) ay))))) rfl h
def FJ:au->Dm Fl :=
 (bj (bD (ae (aD a5 (ag 0) (fC (.int 0))) (ae (aM qk (ae (aM De (ae (aD a5 (ag 0) (fC (.int 0))) (ae (tT mY (ag 1)) ah))) (ae (aD a5 (ag 0) (fC (.int 1))) ah))) ah))))
def ui:List D->Dm D:=gI 2 FJ
def Ad:Stmt:=top 21
theorem Sz:aL ["floor","k"] ["floor","k"] (av Ad):=⟨rfl,rfl,rfl,by w_fin,rfl,by w_fin,by w_fin⟩
theorem SA {f:Addr} {fd:FuncData} (D:Def K mg "sheared" Ad ["floor","k"] f fd) (T:Txt mg)  {d8:Addr} {eo:FuncData} (cL:Def K mg "followed" Aa ["one","other"] d8 eo) (cW:aI P w K mg base bH 1 d8 eo ["one","other"] (bM K 2 qk)) {n8:Addr} {n9:FuncData} (oe:Def K mg "often" Df ["turning","k"] n8 n9) (pH:aI P w K mg base bH 3 n8 n9 ["turning","k"] (bM K 2 De)):aI P w K mg base bH 4 f fd ["floor","k"] (bM K 2 ui):=by
 refine D.F.ok Sz (fun _ _ _ _ h=>h.1) (fun c A o s H v Q E hr h=>?_)
 refine ⟨_,(@bq _ _ _ (@dZ _ _ _ _ (@eY _ _ _ _ _ (@aj _ _ _ _ _ (@bJ _ _ _ _ _ _ _ e7 (pv 0) aO (fun _ _=>rfl)) (@aj _ _ _ _ _ (b9 cW cL hr (by decide) rfl (@aj _ _ _ _ _ (b9 pH oe hr (by decide) rfl (@aj _ _ _ _ _ (@bJ _ _ _ _ _ _ _ e7 (pv 0) aO (fun _ _=>rfl)) (@aj _ _ _ _ _ (vX vY (pv 1)) ax (by rfl)) (by rfl))) (@aj _ _ _ _ _ (@bJ _ _ _ _ _ _ _ e7 (pv 0) aO (fun _ _=>rfl)) ax (by rfl)) (by rfl))) ax (by rfl)) (by rfl))))),?_⟩
 exact iF (b:=FJ) (d3 (eZ (ao (aG dG (ai 0) (aP _)) (ao (b8 (F:=qk) (ao (b8 (F:=De) (ao (aG dG (ai 0) (aP _)) (ao (xk xq (ai 1)) ay)) dM) (ao (aG dG (ai 0) (aP _)) ay)) dM) ay)))) rfl h
def FK:au->Dm Fl :=
 (bj (bD (ae (aM si (ae (aD a5 (ag 0) (fC (.int 1))) ah)) (ae (aD a5 (ag 0) (fC (.int 0))) ah))))
def uj:List D->Dm D:=gI 1 FK
def Ae:Stmt:=top 22
theorem SD:aL ["floor"] ["floor"] (av Ae):=⟨rfl,rfl,rfl,by w_fin,rfl,by w_fin,by w_fin⟩
theorem SE {f:Addr} {fd:FuncData} (D:Def K mg "quartered" Ae ["floor"] f fd) (T:Txt mg)  {bQ:Addr} {bR:FuncData} (bS:Def K mg "turned_back" yM ["turning"] bQ bR) (bZ:aI P w K mg base bH 1 bQ bR ["turning"] (bM K 1 si)):aI P w K mg base bH 2 f fd ["floor"] (bM K 1 uj):=by
 refine D.F.ok SD (fun _ _ _ _ h=>h.1) (fun c A o s H v Q E hr h=>?_)
 refine ⟨_,(@bq _ _ _ (@dZ _ _ _ _ (@eY _ _ _ _ _ (@aj _ _ _ _ _ (b9 bZ bS hr (by decide) rfl (@aj _ _ _ _ _ (@bJ _ _ _ _ _ _ _ e7 (pv 0) aO (fun _ _=>rfl)) ax (by rfl))) (@aj _ _ _ _ _ (@bJ _ _ _ _ _ _ _ e7 (pv 0) aO (fun _ _=>rfl)) ax (by rfl)) (by rfl))))),?_⟩
 exact iF (b:=FK) (d3 (eZ (ao (b8 (F:=si) (ao (aG dG (ai 0) (aP _)) ay) lB) (ao (aG dG (ai 0) (aP _)) ay)))) rfl h
def FL:au->Dm Fl :=
 (az (dJ (aA (aD (iO false) (aD a5 (ag 1) (fC (.int 0))) (fC (.str "s")))) (bj (aM ui (ae (ag 0) (ae (aD a5 (ag 1) (fC (.int 1))) ah)))) aQ)
 (az (aK (ag 0) (hName 2))
 (az (c9 (ck (ae (aD a5 (ag 1) (fC (.int 1))) ah)) (hName 3) (aK (aM uj (ae (ag 2) ah)) (hName 2)))
 (bj (ag 2)))))
def Dh:List D->Dm D:=gI 4 FL
def Di:Stmt:=top 24
theorem FN:aL ["floor","step","led","turn"] ["floor","step"] (av Di):=⟨rfl,rfl,rfl,by w_fin,rfl,by w_fin,by w_fin⟩
theorem SF {f:Addr} {fd:FuncData} (D:Def K mg "led_by_step" Di ["floor","step"] f fd) (T:Txt mg)  {gk:Addr} {gn:FuncData} (gp:Def K mg "sheared" Ad ["floor","k"] gk gn) (iJ:aI P w K mg base bH 4 gk gn ["floor","k"] (bM K 2 ui)) {dw:Addr} {dz:FuncData} (dA:Def K mg "quartered" Ae ["floor"] dw dz) (eu:aI P w K mg base bH 2 dw dz ["floor"] (bM K 1 uj)):aI P w K mg base bH 5 f fd ["floor","step"] (bM K 2 Dh):=by
 refine D.F.ok FN (fun _ _ _ _ h=>h.1) (fun c A o s H v Q E hr h=>?_)
 refine ⟨_,(@aZ _ _ _ _ _ (@fz _ _ _ _ _ _ _ _ (df mK (@bJ _ _ _ _ _ _ _ e7 (pv 1) aO (fun _ _=>rfl)) pN (aH _)) (@bq _ _ _ (@dZ _ _ _ _ (b9 iJ gp hr (by decide) rfl (@aj _ _ _ _ _ (pv 0) (@aj _ _ _ _ _ (@bJ _ _ _ _ _ _ _ e7 (pv 1) aO (fun _ _=>rfl)) ax (by rfl)) (by rfl))))) gy)
  (@aZ _ _ _ _ _ (@cn (i:=2) _ _ _ _ _ _ FN.nd rfl (by w_up) (pv 0) (by rfl) (by w_up))
  (@aZ _ _ _ _ _ (@lD _ _ _ _ _ _ _ _ PassesOwn.never rfl (oo rfl T.aY (@aj _ _ _ _ _ (@bJ _ _ _ _ _ _ _ e7 (pv 1) aO (fun _ _=>rfl)) ax (by rfl))) (de (i:=3) FN.nd rfl (by w_up)) (@bq _ _ _ (@cn (i:=2) _ _ _ _ _ _ FN.nd rfl (by w_up) (b9 eu dA hr (by decide) rfl (@aj _ _ _ _ _ (pv 2) ax (by rfl))) (by rfl) (by w_up))) (by intro _;rfl))
  (@bq _ _ _ (@dZ _ _ _ _ (pv 2)))))),?_⟩
 exact iF (b:=FL) (a6 (fF (c7 (aG mN (aG dG (ai 1) (aP _)) (qa _))) (d3 (b8 (F:=ui) (ao (ai 0) (ao (aG dG (ai 1) (aP _)) ay)) dM)) gA)
  (a6 (bN (ai 0) (aV 2))
  (a6 (lI (oz (ao (aG dG (ai 1) (aP _)) ay)) (aV 3) (bN (b8 (F:=uj) (ao (ai 2) ay) lB) (aV 2)))
  (d3 (ai 2))))) rfl h
def FO:au->Dm Fl :=
 (az (aK (ag 0) (hName 2))
 (az (c9 (c4 (ag 1)) (hName 3) (aK (aM Dh (ae (ag 2) (ae (ag 3) ah))) (hName 2)))
 (bj (ag 2))))
def vB:List D->Dm D:=gI 4 FO
def Af:Stmt:=top 23
theorem FP:aL ["floor","word","led","step"] ["floor","word"] (av Af):=⟨rfl,rfl,rfl,by w_fin,rfl,by w_fin,by w_fin⟩
theorem SG {f:Addr} {fd:FuncData} (D:Def K mg "led_by" Af ["floor","word"] f fd) (T:Txt mg)  {fM:Addr} {fN:FuncData} (fO:Def K mg "led_by_step" Di ["floor","step"] fM fN) (i6:aI P w K mg base bH 5 fM fN ["floor","step"] (bM K 2 Dh)):aI P w K mg base bH 6 f fd ["floor","word"] (bM K 2 vB):=by
 refine D.F.ok FP (fun _ _ _ _ h=>h.1) (fun c A o s H v Q E hr h=>?_)
 refine ⟨_,(@aZ _ _ _ _ _ (@cn (i:=2) _ _ _ _ _ _ FP.nd rfl (by w_up) (pv 0) (by rfl) (by w_up))
  (@aZ _ _ _ _ _ (@lD _ _ _ _ _ _ _ _ PassesOwn.never rfl (om (pv 1)) (de (i:=3) FP.nd rfl (by w_up)) (@bq _ _ _ (@cn (i:=2) _ _ _ _ _ _ FP.nd rfl (by w_up) (b9 i6 fO hr (by decide) rfl (@aj _ _ _ _ _ (pv 2) (@aj _ _ _ _ _ (pv 3) ax (by rfl)) (by rfl))) (by rfl) (by w_up))) (by intro _;rfl))
  (@bq _ _ _ (@dZ _ _ _ _ (pv 2))))),?_⟩
 exact iF (b:=FO) (a6 (bN (ai 0) (aV 2))
  (a6 (lI (oy (ai 1)) (aV 3) (bN (b8 (F:=Dh) (ao (ai 2) (ao (ai 3) ay)) dM) (aV 2)))
  (d3 (ai 2)))) rfl h
def FQ:au->Dm Fl :=
 (az (aK (aD gg (aD a5 (ag 0) (fC (.int 1))) (aD a5 (ag 1) (fC (.int 1)))) (hName 2))
 (az (dJ (aA (aD (iO false) (aD a5 (ag 0) (fC (.int 0))) (fC (.str "t")))) (aK (aD jH (ag 2) (fC (.int 4))) (hName 2)) aQ)
 (az (dJ (aA (aD (iO false) (ag 2) (fC (.int 0)))) (bj (bD ah)) aQ)
 (bj (bD (ae (bD (ae (aD a5 (ag 0) (fC (.int 0))) (ae (ag 2) ah))) ah))))))
def Dj:List D->Dm D:=gI 3 FQ
def Dk:Stmt:=top 17
theorem Jh:aL ["one","other","number"] ["one","other"] (av Dk):=⟨rfl,rfl,rfl,by w_fin,rfl,by w_fin,by w_fin⟩
theorem SH {f:Addr} {fd:FuncData} (D:Def K mg "joined" Dk ["one","other"] f fd) (T:Txt mg)  :aI P w K mg base bH 1 f fd ["one","other"] (bM K 2 Dj):=by
 refine D.F.ok Jh (fun _ _ _ _ h=>h.1) (fun c A o s H v Q E hr h=>?_)
 refine ⟨_,(@aZ _ _ _ _ _ (@cn (i:=2) _ _ _ _ _ _ Jh.nd rfl (by w_up) (cX mT (@bJ _ _ _ _ _ _ _ e7 (pv 0) aO (fun _ _=>rfl)) (@bJ _ _ _ _ _ _ _ e7 (pv 1) aO (fun _ _=>rfl))) (by rfl) (by w_up))
  (@aZ _ _ _ _ _ (@fz _ _ _ _ _ _ _ _ (df mK (@bJ _ _ _ _ _ _ _ e7 (pv 0) aO (fun _ _=>rfl)) pN (aH _)) (@bq _ _ _ (@cn (i:=2) _ _ _ _ _ _ Jh.nd rfl (by w_up) (cX qo (pv 2) aO) (by rfl) (by w_up))) gy)
  (@aZ _ _ _ _ _ (@fz _ _ _ _ _ _ _ _ (df mK (pv 2) aO (aH _)) (@bq _ _ _ (@dZ _ _ _ _ (@eY _ _ _ _ _ ax))) gy)
  (@bq _ _ _ (@dZ _ _ _ _ (@eY _ _ _ _ _ (@aj _ _ _ _ _ (@eY _ _ _ _ _ (@aj _ _ _ _ _ (@bJ _ _ _ _ _ _ _ e7 (pv 0) aO (fun _ _=>rfl)) (@aj _ _ _ _ _ (pv 2) ax (by rfl)) (by rfl))) ax (by rfl)))))))),?_⟩
 exact iF (b:=FQ) (a6 (bN (aG mX (aG dG (ai 0) (aP _)) (aG dG (ai 1) (aP _))) (aV 2))
  (a6 (fF (c7 (aG mN (aG dG (ai 0) (aP _)) (qa _))) (bN (aG qz (ai 2) (aP _)) (aV 2)) gA)
  (a6 (fF (c7 (aG mN (ai 2) (aP _))) (d3 (eZ ay)) gA)
  (d3 (eZ (ao (eZ (ao (aG dG (ai 0) (aP _)) (ao (ai 2) ay))) ay)))))) rfl h
def FR:au->Dm Fl :=
 (az (aK (bD ah) (hName 1))
 (az (c9 (c4 (ag 0)) (hName 2) (dJ (oQ (aA (aD va (aM cc (ae (ag 1) ah)) (fC (.int 0)))) (aA (aD (iO false) (aD a5 (aD a5 (ag 1) (tT mY (fC (.int 1)))) (fC (.int 0))) (aD a5 (ag 2) (fC (.int 0)))))) (aK (aD jI (xn xt (ag 1) j5 (mD (tT mY (fC (.int 1))))) (aM Dj (ae (aD a5 (ag 1) (tT mY (fC (.int 1)))) (ae (ag 2) ah)))) (hName 1)) (aK (aD jI (ag 1) (bD (ae (ag 2) ah))) (hName 1))))
 (bj (ag 1))))
def Dl:List D->Dm D:=gI 3 FR
def Dn:Stmt:=top 18
theorem Dp:aL ["word","plain","step"] ["word"] (av Dn):=⟨rfl,rfl,rfl,by w_fin,rfl,by w_fin,by w_fin⟩
theorem SI {f:Addr} {fd:FuncData} (D:Def K mg "made_plain" Dn ["word"] f fd) (T:Txt mg)  {mf:Addr} {mh:FuncData} (mj:Def K mg "joined" Dk ["one","other"] mf mh) (og:aI P w K mg base bH 1 mf mh ["one","other"] (bM K 2 Dj)):aI P w K mg base bH 2 f fd ["word"] (bM K 1 Dl):=by
 refine D.F.ok Dp (fun _ _ _ _ h=>h.1) (fun c A o s H v Q E hr h=>?_)
 refine ⟨_,(@aZ _ _ _ _ _ (@cn (i:=1) _ _ _ _ _ _ Dp.nd rfl (by w_up) (@eY _ _ _ _ _ ax) (by rfl) (by w_up))
  (@aZ _ _ _ _ _ (@lD _ _ _ _ _ _ _ _ PassesOwn.never rfl (om (pv 0)) (de (i:=2) Dp.nd rfl (by w_up)) (@bq _ _ _ (@fz _ _ _ _ _ _ _ _ (PW.pt (Ea (df zp (fT iz (by rfl) T.bw iA (@aj _ _ _ _ _ (pv 1) ax (by rfl))) aO (aH _)) (D9 (df mK (@bJ _ _ _ _ _ _ _ e7 (@bJ _ _ _ _ _ _ _ e7 (pv 1) (vX vY aO) (fun _ _=>rfl)) aO (fun _ _=>rfl)) (@bJ _ _ _ _ _ _ _ e7 (pv 2) aO (fun _ _=>rfl)) (aH _))))) (@bq _ _ _ (@cn (i:=1) _ _ _ _ _ _ Dp.nd rfl (by w_up) (cX wJ (Ei Oy (pv 1) Ef (Eg (vX vY aO))) (b9 og mj hr (by decide) rfl (@aj _ _ _ _ _ (@bJ _ _ _ _ _ _ _ e7 (pv 1) (vX vY aO) (fun _ _=>rfl)) (@aj _ _ _ _ _ (pv 2) ax (by rfl)) (by rfl)))) (by rfl) (by w_up))) (@bq _ _ _ (@cn (i:=1) _ _ _ _ _ _ Dp.nd rfl (by w_up) (cX wJ (pv 1) (@eY _ _ _ _ _ (@aj _ _ _ _ _ (pv 2) ax (by rfl)))) (by rfl) (by w_up))))) (by intro _;rfl))
  (@bq _ _ _ (@dZ _ _ _ _ (pv 1))))),?_⟩
 exact iF (b:=FR) (a6 (bN (eZ ay) (aV 1))
  (a6 (lI (oy (ai 0)) (aV 2) (fF (ER (c7 (aG zD (b6 iE (ao (ai 1) ay)) (aP _))) (c7 (aG mN (aG dG (aG dG (ai 1) (xk xq (aP _))) (aP _)) (aG dG (ai 2) (aP _))))) (bN (aG xv (EU xu (ai 1) ES (ET (xk xq (aP _)))) (b8 (F:=Dj) (ao (aG dG (ai 1) (xk xq (aP _))) (ao (ai 2) ay)) dM)) (aV 1)) (bN (aG xv (ai 1) (eZ (ao (ai 2) ay))) (aV 1))))
  (d3 (ai 1)))) rfl h
def FT:au->Dm Fl :=
 (bj (aM Dl (ae (aD jI (ag 0) (ag 1)) ah)))
def Dq:List D->Dm D:=gI 2 FT
def Dr:Stmt:=top 19
theorem SJ:aL ["one","other"] ["one","other"] (av Dr):=⟨rfl,rfl,rfl,by w_fin,rfl,by w_fin,by w_fin⟩
theorem SK {f:Addr} {fd:FuncData} (D:Def K mg "put_together" Dr ["one","other"] f fd) (T:Txt mg)  {gP:Addr} {gQ:FuncData} (gR:Def K mg "made_plain" Dn ["word"] gP gQ) (jO:aI P w K mg base bH 2 gP gQ ["word"] (bM K 1 Dl)):aI P w K mg base bH 3 f fd ["one","other"] (bM K 2 Dq):=by
 refine D.F.ok SJ (fun _ _ _ _ h=>h.1) (fun c A o s H v Q E hr h=>?_)
 refine ⟨_,(@bq _ _ _ (@dZ _ _ _ _ (b9 jO gR hr (by decide) rfl (@aj _ _ _ _ _ (cX wJ (pv 0) (pv 1)) ax (by rfl))))),?_⟩
 exact iF (b:=FT) (d3 (b8 (F:=Dl) (ao (aG xv (ai 0) (ai 1)) ay) lB)) rfl h
def FU:au->Dm Fl :=
 (az (aK (aM mP (ae (aM vB (ae (aD bG (ag 0) (ag 2)) (ae (bD (ae (ag 3) ah)) ah))) ah)) (hName 4))
 (az (dJ (aA (aD (nh true) (ag 4) (ag 0))) (az (cg (iw "list" a9 (ag 0) (ae (ag 4) ah)))
 (cg (iw "list" a9 (ag 1) (ae (aM Dq (ae (aD bG (ag 1) (ag 2)) (ae (bD (ae (ag 3) ah)) ah))) ah)))) aQ)
 (bj (iw "list" eK (ag 0) (ae (ag 4) ah)))))
def yN:List D->Dm D:=gI 5 FU
def Ds:Stmt:=top 29
theorem MN:aL ["forms","words","place","step","form"] ["forms","words","place","step"] (av Ds):=⟨rfl,rfl,rfl,by w_fin,rfl,by w_fin,by w_fin⟩
theorem SM {f:Addr} {fd:FuncData} (D:Def K mg "row_led_to" Ds ["forms","words","place","step"] f fd) (T:Txt mg)  {bX:Addr} {bY:FuncData} (bI:Def K mg "form_of" uh ["floor"] bX bY) (bW:aI P w K mg base bH 4 bX bY ["floor"] (bM K 1 mP)) {i9:Addr} {ja:FuncData} (jb:Def K mg "led_by" Af ["floor","word"] i9 ja) (kg:aI P w K mg base bH 6 i9 ja ["floor","word"] (bM K 2 vB)) {eP:Addr} {eQ:FuncData} (eU:Def K mg "put_together" Dr ["one","other"] eP eQ) (ig:aI P w K mg base bH 3 eP eQ ["one","other"] (bM K 2 Dq)):aI P w K mg base bH 7 f fd ["forms","words","place","step"] (bM K 4 yN):=by
 refine D.F.ok MN (fun _ _ _ _ h=>h.1) (fun c A o s H v Q E hr h=>?_)
 have hu:=hr.units
 refine ⟨_,(@aZ _ _ _ _ _ (@cn (i:=4) _ _ _ _ _ _ MN.nd rfl (by w_up) (b9 bW bI hr (by decide) rfl (@aj _ _ _ _ _ (b9 kg jb hr (by decide) rfl (@aj _ _ _ _ _ (@bJ _ _ _ _ _ _ _ iL (pv 0) (pv 2) (fun _ _=>rfl)) (@aj _ _ _ _ _ (@eY _ _ _ _ _ (@aj _ _ _ _ _ (pv 3) ax (by rfl))) ax (by rfl)) (by rfl))) ax (by rfl))) (by rfl) (by w_up))
  (@aZ _ _ _ _ _ (@fz _ _ _ _ _ _ _ _ (df (K4 hu) (pv 4) (pv 0) (by with_unfolding_all rfl)) (@aZ _ _ _ _ _ (mQ (lE PySem.F.plainAttrs_list PySem.F.slot_list_append PySem.F.type_list_append oJ (pv 0) (@aj _ _ _ _ _ (pv 4) ax (by rfl))))
  (@bq _ _ _ (mQ (lE PySem.F.plainAttrs_list PySem.F.slot_list_append PySem.F.type_list_append oJ (pv 1) (@aj _ _ _ _ _ (b9 ig eU hr (by decide) rfl (@aj _ _ _ _ _ (@bJ _ _ _ _ _ _ _ iL (pv 1) (pv 2) (fun _ _=>rfl)) (@aj _ _ _ _ _ (@eY _ _ _ _ _ (@aj _ _ _ _ _ (pv 3) ax (by rfl))) ax (by rfl)) (by rfl))) ax (by rfl)))))) gy)
  (@bq _ _ _ (@dZ _ _ _ _ (lE PySem.F.plainAttrs_list PySem.F.slot_list_index PySem.F.type_list_index (Lc hu) (pv 0) (@aj _ _ _ _ _ (pv 4) ax (by rfl))))))),?_⟩
 exact iF (b:=FU) (a6 (bN (b8 (F:=mP) (ao (b8 (F:=vB) (ao (aG fD (ai 0) (ai 2)) (ao (eZ (ao (ai 3) ay)) ay)) dM) ay) lB) (aV 4))
  (a6 (fF (c7 (aG (E8 true) (ai 4) (ai 0))) (a6 (m9 (kX oT (ai 0) (ao (ai 4) ay)))
  (m9 (kX oT (ai 1) (ao (b8 (F:=Dq) (ao (aG fD (ai 1) (ai 2)) (ao (eZ (ao (ai 3) ay)) ay)) dM) ay)))) gA)
  (d3 (kX MB (ai 0) (ao (ai 4) ay))))) rfl h
def FV:au->Dm Fl :=
 (az (aK (cM (ae (aM mP (ae (ag 0) ah)) ah)) (hName 2))
 (az (aK (cM (ae (bD ah) ah)) (hName 3))
 (az (aK (cM ah) (hName 4))
 (az (jJ (aA (aD qO (aM cc (ae (ag 4) ah)) (aM cc (ae (ag 2) ah)))) (az (dJ (aA (aD va (aM cc (ae (ag 2) ah)) (ag 1))) r6 aQ)
 (az (aK (aM cc (ae (ag 4) ah)) (hName 5))
 (az (aK (aM yN (ae (ag 2) (ae (ag 3) (ae (ag 5) (ae (fC (.tup [(.str "s"),(.int 1)])) ah))))) (hName 6))
 (az (aK (aM yN (ae (ag 2) (ae (ag 3) (ae (ag 5) (ae (fC (.tup [(.str "t"),(.int 1)])) ah))))) (hName 7))
 (cg (iw "list" a9 (ag 4) (ae (bD (ae (ag 6) (ae (ag 7) ah))) ah))))))))
 (bj (aM bU (ae (cD (ck (ae (aM cc (ae (ag 2) ah)) ah)) 1 [2,3,4] (hName 0) dc (bD (ae (aD bG (ag 1) (ag 0)) (ae (aD bG (ag 2) (ag 0)) (ae (aD a5 (aD bG (ag 3) (ag 0)) (fC (.int 0))) (ae (aD a5 (aD bG (ag 3) (ag 0)) (fC (.int 1))) ah)))))) ah)))))))
def Ag:List D->Dm D:=gI 8 FV
def Dt:Stmt:=top 28
theorem yO:aL ["floor","most","forms","words","leads","place","s","t"] ["floor","most"] (av Dt):=⟨rfl,rfl,rfl,by w_fin,rfl,by w_fin,by w_fin⟩
theorem SN {f:Addr} {fd:FuncData} (D:rK K mg "chart_of" Dt ["floor","most"] [V.int 60] f fd) (T:Txt mg) {mF:V} (lp:sx K mg "QUARTER" mF (.tup [(.str "t"),(.int 1)])) {pI:V} (oh:sx K mg "SHEAR" pI (.tup [(.str "s"),(.int 1)])) {bX:Addr} {bY:FuncData} (bI:Def K mg "form_of" uh ["floor"] bX bY) (bW:aI P w K mg base bH 4 bX bY ["floor"] (bM K 1 mP)) {gS:Addr} {gT:FuncData} (eW:Def K mg "row_led_to" Ds ["forms","words","place","step"] gS gT) (gU:aI P w K mg base bH 7 gS gT ["forms","words","place","step"] (bM K 4 yN)):aI P w K mg base bH 8 f fd ["floor","most"] (bM K 2 Ag):=by
 refine D.F.ok yO (fun _ _ _ _ h=>h.1) (fun c A o s H v Q E hr h=>?_)
 refine ⟨_,(@aZ _ _ _ _ _ (@cn (i:=2) _ _ _ _ _ _ yO.nd rfl (by w_up) (@kn _ _ _ _ (@aj _ _ _ _ _ (b9 bW bI hr (by decide) rfl (@aj _ _ _ _ _ (pv 0) ax (by rfl))) ax (by rfl))) (by rfl) (by w_up))
  (@aZ _ _ _ _ _ (@cn (i:=3) _ _ _ _ _ _ yO.nd rfl (by w_up) (@kn _ _ _ _ (@aj _ _ _ _ _ (@eY _ _ _ _ _ ax) ax (by rfl))) (by rfl) (by w_up))
  (@aZ _ _ _ _ _ (@cn (i:=4) _ _ _ _ _ _ yO.nd rfl (by w_up) (@kn _ _ _ _ ax) (by rfl) (by w_up))
  (@aZ _ _ _ _ _ (zm PassesOwn.never (df tu (fT iz (by rfl) T.bw iA (@aj _ _ _ _ _ (pv 4) ax (by rfl))) (fT iz (by rfl) T.bw iA (@aj _ _ _ _ _ (pv 2) ax (by rfl))) (aH _)) (@aZ _ _ _ _ _ (@fz _ _ _ _ _ _ _ _ (df zp (fT iz (by rfl) T.bw iA (@aj _ _ _ _ _ (pv 2) ax (by rfl))) (pv 1) (aH _)) (@bq _ _ _ NG) gy)
  (@aZ _ _ _ _ _ (@cn (i:=5) _ _ _ _ _ _ yO.nd rfl (by w_up) (fT iz (by rfl) T.bw iA (@aj _ _ _ _ _ (pv 4) ax (by rfl))) (by rfl) (by w_up))
  (@aZ _ _ _ _ _ (@cn (i:=6) _ _ _ _ _ _ yO.nd rfl (by w_up) (b9 gU eW hr (by decide) rfl (@aj _ _ _ _ _ (pv 2) (@aj _ _ _ _ _ (pv 3) (@aj _ _ _ _ _ (pv 5) (@aj _ _ _ _ _ (Ms oh rfl rfl (by decide)) ax (by rfl)) (by rfl)) (by rfl)) (by rfl))) (by rfl) (by w_up))
  (@aZ _ _ _ _ _ (@cn (i:=7) _ _ _ _ _ _ yO.nd rfl (by w_up) (b9 gU eW hr (by decide) rfl (@aj _ _ _ _ _ (pv 2) (@aj _ _ _ _ _ (pv 3) (@aj _ _ _ _ _ (pv 5) (@aj _ _ _ _ _ (Ms lp rfl rfl (by decide)) ax (by rfl)) (by rfl)) (by rfl)) (by rfl))) (by rfl) (by w_up))
  (@bq _ _ _ (mQ (lE PySem.F.plainAttrs_list PySem.F.slot_list_append PySem.F.type_list_append oJ (pv 4) (@aj _ _ _ _ _ (@eY _ _ _ _ _ (@aj _ _ _ _ _ (pv 6) (@aj _ _ _ _ _ (pv 7) ax (by rfl)) (by rfl))) ax (by rfl))))))))))
  (@bq _ _ _ (@dZ _ _ _ _ (fA mL (by rfl) T.bB mx (@aj _ _ _ _ _ (pY (own:=["k"]) (fr:=["forms","words","leads"]) (js:=[2,3,4]) rfl ⟨⟨rfl,by w_fin,by w_fin,by dsimp only [eV,aS,Cx.lU,Cx.wish,PyProof.Rows.envOfC,compEnvC,relabel,Env.kindOf];decide +kernel,by w_fin⟩,rfl⟩ (oo rfl T.aY (@aj _ _ _ _ _ (fT iz (by rfl) T.bw iA (@aj _ _ _ _ _ (pv 2) ax (by rfl))) ax (by rfl))) (fun _ _ _ _ _=>(de (i:=0) (show ((["k"]:List Str) ++ (["forms","words","leads"]:List Str)).Nodup by w_fin) rfl (by w_up))) (fun _ _ _ _ _=>o5) (fun _ _ _ _ _=>(@eY _ _ _ _ _ (@aj _ _ _ _ _ (@bJ _ _ _ _ _ _ _ (sD (K:=K) rfl) (pv 1) (pv 0) (fun _ _=>rfl)) (@aj _ _ _ _ _ (@bJ _ _ _ _ _ _ _ (sD (K:=K) rfl) (pv 2) (pv 0) (fun _ _=>rfl)) (@aj _ _ _ _ _ (@bJ _ _ _ _ _ _ _ (qM (K:=K) rfl) (@bJ _ _ _ _ _ _ _ (sD (K:=K) rfl) (pv 3) (pv 0) (fun _ _=>rfl)) aO (fun _ _=>rfl)) (@aj _ _ _ _ _ (@bJ _ _ _ _ _ _ _ (qM (K:=K) rfl) (@bJ _ _ _ _ _ _ _ (sD (K:=K) rfl) (pv 3) (pv 0) (fun _ _=>rfl)) aO (fun _ _=>rfl)) ax (by rfl)) (by rfl)) (by rfl)) (by rfl))))) ax (by rfl))))))))),?_⟩
 exact iF (b:=FV) (a6 (bN (kq (ao (b8 (F:=mP) (ao (ai 0) ay) lB) ay)) (aV 2))
  (a6 (bN (kq (ao (eZ ay) ay)) (aV 3))
  (a6 (bN (kq ay) (aV 4))
  (a6 (zJ (c7 (aG tV (b6 iE (ao (ai 4) ay)) (b6 iE (ao (ai 2) ay)))) (a6 (fF (c7 (aG zD (b6 iE (ao (ai 2) ay)) (ai 1))) RI gA)
  (a6 (bN (b6 iE (ao (ai 4) ay)) (aV 5))
  (a6 (bN (b8 (F:=yN) (ao (ai 2) (ao (ai 3) (ao (ai 5) (ao (Mt oh) ay)))) Jf) (aV 6))
  (a6 (bN (b8 (F:=yN) (ao (ai 2) (ao (ai 3) (ao (ai 5) (ao (Mt lp) ay)))) Jf) (aV 7))
  (m9 (kX oT (ai 4) (ao (eZ (ao (ai 6) (ao (ai 7) ay))) ay))))))))
  (d3 (b6 mE (ao (nW (oz (ao (b6 iE (ao (ai 2) ay)) ay)) (aV 0) o9 (eZ (ao (aG fD (ai 1) (ai 0)) (ao (aG fD (ai 2) (ai 0)) (ao (aG dG (aG fD (ai 3) (ai 0)) (aP _)) (ao (aG dG (aG fD (ai 3) (ai 0)) (aP _)) ay)))))) ay))))))) rfl h
def FW:au->Dm Fl :=
 (bj (nC (aD Ik (fC (.int 0)) (ag 1)) (nC (aD qO (ag 1) (aM cc (ae (ag 0) ah))) (aD (e8 false) (aD bG (ag 0) (ag 1)) (aM mP (ae (ag 2) ah))))))
def yP:List D->Dm D:=gI 3 FW
def Du:Stmt:=top 32
theorem SO:aL ["forms","number","floor"] ["forms","number","floor"] (av Du):=⟨rfl,rfl,rfl,by w_fin,rfl,by w_fin,by w_fin⟩
theorem SQ {f:Addr} {fd:FuncData} (D:Def K mg "has_form" Du ["forms","number","floor"] f fd) (T:Txt mg)  {bX:Addr} {bY:FuncData} (bI:Def K mg "form_of" uh ["floor"] bX bY) (bW:aI P w K mg base bH 4 bX bY ["floor"] (bM K 1 mP)):aI P w K mg base bH 5 f fd ["forms","number","floor"] (bM K 3 yP):=by
 refine D.F.ok SO (fun _ _ _ _ h=>h.1) (fun c A o s H v Q E hr h=>?_)
 have hu:=hr.units
 refine ⟨_,(@bq _ _ _ (@dZ _ _ _ _ (GO (A1 A0 aO (pv 1) (aH _)) (GO (A1 tu (pv 1) (fT iz (by rfl) T.bw iA (@aj _ _ _ _ _ (pv 0) ax (by rfl))) (aH _)) (JY (A1 (Bm hu) (@bJ _ _ _ _ _ _ _ iL (pv 0) (pv 1) (fun _ _=>rfl)) (b9 bW bI hr (by decide) rfl (@aj _ _ _ _ _ (pv 2) ax (by rfl))) (aH _))))))),?_⟩
 exact iF (b:=FW) (d3 (Ij (aG B7 (aP _) (ai 1)) (Ij (aG tV (ai 1) (b6 iE (ao (ai 0) ay))) (aG (qA false) (aG fD (ai 0) (ai 1)) (b8 (F:=mP) (ao (ai 2) ay) lB))))) rfl h
def FX:au->Dm Fl :=
 (az (dJ (aA (aD (e8 true) (aM mP (ae (aM vB (ae (ag 0) (ae (aD a5 (ag 1) (fC (.int 1))) ah))) ah)) (aM mP (ae (aD a5 (ag 1) (fC (.int 0))) ah)))) (bj (fC (.bl false))) aQ)
 (bj (nC (aM yP (ae (ag 2) (ae (aD a5 (ag 1) (fC (.int 2))) (ae (aM ui (ae (aD a5 (ag 1) (fC (.int 0))) (ae (fC (.int 1)) ah))) ah)))) (aM yP (ae (ag 2) (ae (aD a5 (ag 1) (fC (.int 3))) (ae (aM uj (ae (aD a5 (ag 1) (fC (.int 0))) ah)) ah)))))))
def Dv:List D->Dm D:=gI 3 FX
def Dw:Stmt:=top 31
theorem SR:aL ["floor","row","forms"] ["floor","row","forms"] (av Dw):=⟨rfl,rfl,rfl,by w_fin,rfl,by w_fin,by w_fin⟩
theorem SS {f:Addr} {fd:FuncData} (D:Def K mg "row_holds" Dw ["floor","row","forms"] f fd) (T:Txt mg)  {bX:Addr} {bY:FuncData} (bI:Def K mg "form_of" uh ["floor"] bX bY) (bW:aI P w K mg base bH 4 bX bY ["floor"] (bM K 1 mP)) {kh:Addr} {ki:FuncData} (iK:Def K mg "has_form" Du ["forms","number","floor"] kh ki) (kj:aI P w K mg base bH 5 kh ki ["forms","number","floor"] (bM K 3 yP)) {i9:Addr} {ja:FuncData} (jb:Def K mg "led_by" Af ["floor","word"] i9 ja) (kg:aI P w K mg base bH 6 i9 ja ["floor","word"] (bM K 2 vB)) {gk:Addr} {gn:FuncData} (gp:Def K mg "sheared" Ad ["floor","k"] gk gn) (iJ:aI P w K mg base bH 4 gk gn ["floor","k"] (bM K 2 ui)) {dw:Addr} {dz:FuncData} (dA:Def K mg "quartered" Ae ["floor"] dw dz) (eu:aI P w K mg base bH 2 dw dz ["floor"] (bM K 1 uj)):aI P w K mg base bH 7 f fd ["floor","row","forms"] (bM K 3 Dv):=by
 refine D.F.ok SR (fun _ _ _ _ h=>h.1) (fun c A o s H v Q E hr h=>?_)
 have hu:=hr.units
 refine ⟨_,(@aZ _ _ _ _ _ (@fz _ _ _ _ _ _ _ _ (df (uR hu) (b9 bW bI hr (by decide) rfl (@aj _ _ _ _ _ (b9 kg jb hr (by decide) rfl (@aj _ _ _ _ _ (pv 0) (@aj _ _ _ _ _ (@bJ _ _ _ _ _ _ _ e7 (pv 1) aO (fun _ _=>rfl)) ax (by rfl)) (by rfl))) ax (by rfl))) (b9 bW bI hr (by decide) rfl (@aj _ _ _ _ _ (@bJ _ _ _ _ _ _ _ e7 (pv 1) aO (fun _ _=>rfl)) ax (by rfl))) (aH _)) (@bq _ _ _ (@dZ _ _ _ _ pM)) gy)
  (@bq _ _ _ (@dZ _ _ _ _ (GO (b9 kj iK hr (by decide) rfl (@aj _ _ _ _ _ (pv 2) (@aj _ _ _ _ _ (@bJ _ _ _ _ _ _ _ e7 (pv 1) aO (fun _ _=>rfl)) (@aj _ _ _ _ _ (b9 iJ gp hr (by decide) rfl (@aj _ _ _ _ _ (@bJ _ _ _ _ _ _ _ e7 (pv 1) aO (fun _ _=>rfl)) (@aj _ _ _ _ _ aO ax (by rfl)) (by rfl))) ax (by rfl)) (by rfl)) (by rfl))) (JY (b9 kj iK hr (by decide) rfl (@aj _ _ _ _ _ (pv 2) (@aj _ _ _ _ _ (@bJ _ _ _ _ _ _ _ e7 (pv 1) aO (fun _ _=>rfl)) (@aj _ _ _ _ _ (b9 eu dA hr (by decide) rfl (@aj _ _ _ _ _ (@bJ _ _ _ _ _ _ _ e7 (pv 1) aO (fun _ _=>rfl)) ax (by rfl))) ax (by rfl)) (by rfl)) (by rfl)))))))),?_⟩
 exact iF (b:=FX) (a6 (fF (c7 (aG (qA true) (b8 (F:=mP) (ao (b8 (F:=vB) (ao (ai 0) (ao (aG dG (ai 1) (aP _)) ay)) dM) ay) lB) (b8 (F:=mP) (ao (aG dG (ai 1) (aP _)) ay) lB))) (d3 (p9 _)) gA)
  (d3 (Ij (b8 (F:=yP) (ao (ai 2) (ao (aG dG (ai 1) (aP _)) (ao (b8 (F:=ui) (ao (aG dG (ai 1) (aP _)) (ao (aP _) ay)) dM) ay))) vA) (b8 (F:=yP) (ao (ai 2) (ao (aG dG (ai 1) (aP _)) (ao (b8 (F:=uj) (ao (aG dG (ai 1) (aP _)) ay) lB) ay))) vA)))) rfl h
def FY:au->Dm Fl :=
 (az (aK (cD (c4 (ag 1)) 1 [] (hName 0) dc (aM mP (ae (aD a5 (ag 0) (fC (.int 0))) ah))) (hName 2))
 (az (dJ (qy (aA (aD (iO false) (aM cc (ae (ag 2) ah)) (fC (.int 0)))) (aA (aD (e8 true) (aD bG (ag 2) (fC (.int 0))) (aM mP (ae (ag 0) ah))))) (bj (fC (.bl false))) aQ)
 (az (c9 (kI (ae (ag 1) ah)) (kH 2 (cf (hName 3) (cf (hName 4) lh))) (dJ (qy (aA (aD (nh false) (aD bG (ag 2) (ag 3)) (xn qB (ag 2) j5 (mD (ag 3))))) (oP (aA (aM Dv (ae (ag 0) (ae (ag 4) (ae (ag 2) ah))))))) (bj (fC (.bl false))) aQ))
 (bj (fC (.bl true))))))
def Ah:List D->Dm D:=gI 5 FY
def Dx:Stmt:=top 30
theorem FZ:aL ["floor","chart","forms","place","row"] ["floor","chart"] (av Dx):=⟨rfl,rfl,rfl,by w_fin,rfl,by w_fin,by w_fin⟩
theorem SU {f:Addr} {fd:FuncData} (D:Def K mg "chart_holds" Dx ["floor","chart"] f fd) (T:Txt mg)  {bX:Addr} {bY:FuncData} (bI:Def K mg "form_of" uh ["floor"] bX bY) (bW:aI P w K mg base bH 4 bX bY ["floor"] (bM K 1 mP)) {jc:Addr} {jd:FuncData} (je:Def K mg "row_holds" Dw ["floor","row","forms"] jc jd) (kN:aI P w K mg base bH 7 jc jd ["floor","row","forms"] (bM K 3 Dv)):aI P w K mg base bH 8 f fd ["floor","chart"] (bM K 2 Ah):=by
 refine D.F.ok FZ (fun _ _ _ _ h=>h.1) (fun c A o s H v Q E hr h=>?_)
 have hu:=hr.units
 refine ⟨_,(@aZ _ _ _ _ _ (Bu (i:=2) (own:=["row"]) (fr:=[]) (js:=[]) rfl FZ.nd rfl rfl ⟨⟨rfl,by w_fin,by w_fin,by dsimp only [eV,aS,Cx.lU,Cx.wish,PyProof.Rows.envOfC,compEnvC,relabel,Env.kindOf];decide +kernel,by w_fin⟩,rfl⟩ (om (pv 1)) (fun _ _ _ _ _=>(de (i:=0) (show ((["row"]:List Str) ++ ([]:List Str)).Nodup by w_fin) rfl (by w_up))) (fun _ _ _ _ _=>o5) (fun _ _ _ _ _=>(b9 bW bI hr (by decide) rfl (@aj _ _ _ _ _ (@bJ _ _ _ _ _ _ _ (qM (K:=K) rfl) (pv 0) aO (fun _ _=>rfl)) ax (by rfl)))))
  (@aZ _ _ _ _ _ (@fz _ _ _ _ _ _ _ _ (PW.pt (vU (df mK (fT iz (by rfl) T.bw iA (@aj _ _ _ _ _ (pv 2) ax (by rfl))) aO (aH _)) (zk (df (uR hu) (@bJ _ _ _ _ _ _ _ iL (pv 2) aO (fun _ _=>rfl)) (b9 bW bI hr (by decide) rfl (@aj _ _ _ _ _ (pv 0) ax (by rfl))) (aH _))))) (@bq _ _ _ (@dZ _ _ _ _ pM)) gy)
  (@aZ _ _ _ _ _ (@lD _ _ _ _ _ _ _ _ PassesOwn.never rfl (Eu rfl T.gK (@aj _ _ _ _ _ (pv 1) ax (by rfl))) (qK (n:=2) rfl (lr (de (i:=3) FZ.nd rfl (by w_up)) (lr (de (i:=4) FZ.nd rfl (by w_up)) qJ))) (@bq _ _ _ (@fz _ _ _ _ _ _ _ _ (PW.pt (vU (df (K3 hu) (@bJ _ _ _ _ _ _ _ iL (pv 2) (pv 3) (fun _ _=>rfl)) (Ei G3 (pv 2) Ef (Eg (pv 3))) (by with_unfolding_all rfl)) (zk (GN (D7 (b9 kN je hr (by decide) rfl (@aj _ _ _ _ _ (pv 0) (@aj _ _ _ _ _ (pv 4) (@aj _ _ _ _ _ (pv 2) ax (by rfl)) (by rfl)) (by rfl)))))))) (@bq _ _ _ (@dZ _ _ _ _ pM)) gy)) (by intro _;rfl))
  (@bq _ _ _ (@dZ _ _ _ _ pM))))),?_⟩
 exact iF (b:=FY) (a6 (bN (nW (oy (ai 1)) (aV 0) o9 (b8 (F:=mP) (ao (aG dG (ai 0) (aP _)) ay) lB)) (aV 2))
  (a6 (fF (xl (c7 (aG mN (b6 iE (ao (ai 2) ay)) (aP _))) (c7 (aG (qA true) (aG fD (ai 2) (aP _)) (b8 (F:=mP) (ao (ai 0) ay) lB)))) (d3 (p9 _)) gA)
  (a6 (lI (E1 (ao (ai 1) ay)) (qR (lu (aV 3) (lu (aV 4) qQ))) (fF (xl (c7 (aG (E8 false) (aG fD (ai 2) (ai 3)) (EU Il (ai 2) ES (ET (ai 3))))) (Ii (B3 (b8 (F:=Dv) (ao (ai 0) (ao (ai 4) (ao (ai 2) ay))) vA)))) (d3 (p9 _)) gA))
  (d3 (p9 _))))) rfl h
def F0:au->Dm Fl :=
 (az (aK (cM ah) (hName 3))
 (az (c9 (ck (ae (aM fV (ae (ag 0) (ae (aD gg (ag 1) (fC (.int 1))) ah))) ah)) (hName 4) (dJ (aA (aD (iO false) (aM fV (ae (ag 0) (ae (fC (.int 2)) ah))) (fC (.int 0)))) (cg (iw "list" a9 (ag 3) (ae (bD (ae (fC (.str "t")) (ae (aD gg (fC (.int 1)) (aM fV (ae (ag 0) (ae (fC (.int 3)) ah)))) ah))) ah))) (az (aK (aD gg (fC (.int 1)) (aM fV (ae (ag 0) (ae (ag 2) ah)))) (hName 4))
 (cg (iw "list" a9 (ag 3) (ae (bD (ae (fC (.str "s")) (ae (aD bG (cM (ae (ag 4) (ae (aD mS (fC (.int 0)) (ag 4)) ah))) (aM fV (ae (ag 0) (ae (fC (.int 2)) ah)))) ah))) ah))))))
 (bj (aM bU (ae (ag 3) ah)))))
def vC:List D->Dm D:=gI 5 F0
def Ai:Stmt:=top 39
theorem F3:aL ["_law_feed_here","_law_most","_law_great","_law_found","_law_k"] ["_law_feed_here","_law_most","_law_great"] (av Ai):=⟨rfl,rfl,rfl,by w_fin,rfl,by w_fin,by w_fin⟩
theorem SV {f:Addr} {fd:FuncData} (D:Def K mg "_law_word" Ai ["_law_feed_here","_law_most","_law_great"] f fd) (T:Txt mg)  {aT:Addr} {aU:FuncData} (aC:Def K mg "_law_take" sR ["_law_feed_here","_law_many"] aT aU) (aE:aI P w K mg base bH 1 aT aU ["_law_feed_here","_law_many"] (bM K 2 fV)):aI P w K mg base bH 2 f fd ["_law_feed_here","_law_most","_law_great"] (bM K 3 vC):=by
 refine D.F.ok F3 (fun _ _ _ _ h=>h.1) (fun c A o s H v Q E hr h=>?_)
 refine ⟨_,(@aZ _ _ _ _ _ (@cn (i:=3) _ _ _ _ _ _ F3.nd rfl (by w_up) (@kn _ _ _ _ ax) (by rfl) (by w_up))
  (@aZ _ _ _ _ _ (@lD _ _ _ _ _ _ _ _ PassesOwn.never rfl (oo rfl T.aY (@aj _ _ _ _ _ (b9 aE aC hr (by decide) rfl (@aj _ _ _ _ _ (pv 0) (@aj _ _ _ _ _ (cX mT (pv 1) aO) ax (by rfl)) (by rfl))) ax (by rfl))) (de (i:=4) F3.nd rfl (by w_up)) (@bq _ _ _ (@fz _ _ _ _ _ _ _ _ (df mK (b9 aE aC hr (by decide) rfl (@aj _ _ _ _ _ (pv 0) (@aj _ _ _ _ _ aO ax (by rfl)) (by rfl))) aO (aH _)) (@bq _ _ _ (mQ (lE PySem.F.plainAttrs_list PySem.F.slot_list_append PySem.F.type_list_append oJ (pv 3) (@aj _ _ _ _ _ (@eY _ _ _ _ _ (@aj _ _ _ _ _ pN (@aj _ _ _ _ _ (cX mT aO (b9 aE aC hr (by decide) rfl (@aj _ _ _ _ _ (pv 0) (@aj _ _ _ _ _ aO ax (by rfl)) (by rfl)))) ax (by rfl)) (by rfl))) ax (by rfl))))) (@aZ _ _ _ _ _ (@cn (i:=4) _ _ _ _ _ _ F3.nd rfl (by w_up) (cX mT aO (b9 aE aC hr (by decide) rfl (@aj _ _ _ _ _ (pv 0) (@aj _ _ _ _ _ (pv 2) ax (by rfl)) (by rfl)))) (by rfl) (by w_up))
  (@bq _ _ _ (mQ (lE PySem.F.plainAttrs_list PySem.F.slot_list_append PySem.F.type_list_append oJ (pv 3) (@aj _ _ _ _ _ (@eY _ _ _ _ _ (@aj _ _ _ _ _ pN (@aj _ _ _ _ _ (@bJ _ _ _ _ _ _ _ iL (@kn _ _ _ _ (@aj _ _ _ _ _ (pv 4) (@aj _ _ _ _ _ (cX AZ aO (pv 4)) ax (by rfl)) (by rfl))) (b9 aE aC hr (by decide) rfl (@aj _ _ _ _ _ (pv 0) (@aj _ _ _ _ _ aO ax (by rfl)) (by rfl))) (fun _ _=>rfl)) ax (by rfl)) (by rfl))) ax (by rfl)))))))) (by intro _;rfl))
  (@bq _ _ _ (@dZ _ _ _ _ (fA mL (by rfl) T.bB mx (@aj _ _ _ _ _ (pv 3) ax (by rfl))))))),?_⟩
 exact iF (b:=F0) (a6 (bN (kq ay) (aV 3))
  (a6 (lI (oz (ao (b8 (F:=fV) (ao (ai 0) (ao (aG mX (ai 1) (aP _)) ay)) dM) ay)) (aV 4) (fF (c7 (aG mN (b8 (F:=fV) (ao (ai 0) (ao (aP _) ay)) dM) (aP _))) (m9 (kX oT (ai 3) (ao (eZ (ao (qa _) (ao (aG mX (aP _) (b8 (F:=fV) (ao (ai 0) (ao (aP _) ay)) dM)) ay))) ay))) (a6 (bN (aG mX (aP _) (b8 (F:=fV) (ao (ai 0) (ao (ai 2) ay)) dM)) (aV 4))
  (m9 (kX oT (ai 3) (ao (eZ (ao (qa _) (ao (aG fD (kq (ao (ai 4) (ao (aG B6 (aP _) (ai 4)) ay))) (b8 (F:=fV) (ao (ai 0) (ao (aP _) ay)) dM)) ay))) ay))))))
  (d3 (b6 mE (ao (ai 3) ay))))) rfl h
def F4:au->Dm Fl :=
 (az (aK (aM fV (ae (ag 0) (ae (fC (.int 9)) ah))) (hName 3))
 (az (aK (aM lR (ae (ag 2) ah)) (hName 4))
 (az (aK (aM fV (ae (ag 0) (ae (aM nD (ae (fC (.int 1)) (ae (aM cc (ae (ag 4) ah)) ah))) ah))) (hName 5))
 (az (aK (aM fV (ae (ag 0) (ae (aM nD (ae (fC (.int 1)) (ae (aM cc (ae (ag 4) ah)) ah))) ah))) (hName 6))
 (az (dJ (aA (aD (e8 false) (ag 4) (cM ah))) (bj (bD (ae (bD (ae (ag 1) (ae (bD ah) (ae (fC (.int 0)) (ae (fC (.int 0)) ah))))) ah))) aQ)
 (az (aK (aD bG (ag 4) (ag 5)) (kH 4 (cf (hName 7) (cf (hName 8) (cf (hName 9) (cf (hName 10) lh))))))
 (az (aK (aD bG (cM (ae (ag 6) (ae (aD mS (fC (.int 0)) (fC (.int 1))) (ae (aM cc (ae (ag 4) ah)) (ae (ag 9) (ae (ag 10) ah)))))) (aM fV (ae (ag 0) (ae (fC (.int 5)) ah)))) (hName 11))
 (az (dJ (aA (aD (iO false) (ag 3) (fC (.int 0)))) (cg (iw "list" kG (ag 4) (ae (ag 5) ah))) aQ)
 (az (dJ (aA (aD (iO false) (ag 3) (fC (.int 1)))) (cg (iw "list" iU (ag 4) (ae (ag 6) (ae (aD bG (ag 4) (ag 5)) ah)))) aQ)
 (az (dJ (aA (aD (iO false) (ag 3) (fC (.int 2)))) (aK (bD (ae (ag 7) (ae (ag 8) (ae (ag 11) (ae (ag 10) ah))))) (hSub (ag 4) (ag 5))) aQ)
 (az (dJ (aA (aD (iO false) (ag 3) (fC (.int 3)))) (aK (bD (ae (ag 7) (ae (ag 8) (ae (ag 9) (ae (ag 11) ah))))) (hSub (ag 4) (ag 5))) aQ)
 (az (dJ (aA (aD (iO false) (ag 3) (fC (.int 4)))) (aK (bD (ae (aD a5 (aD bG (ag 4) (ag 6)) (fC (.int 0))) (ae (ag 8) (ae (ag 9) (ae (ag 10) ah))))) (hSub (ag 4) (ag 5))) aQ)
 (az (dJ (aA (aD (iO false) (ag 3) (fC (.int 5)))) (aK (bD (ae (ag 7) (ae (aD a5 (aD bG (ag 4) (ag 6)) (fC (.int 1))) (ae (ag 9) (ae (ag 10) ah))))) (hSub (ag 4) (ag 5))) aQ)
 (az (dJ (aA (aD (iO false) (ag 3) (fC (.int 6)))) (aK (bD (ae (ag 7) (ae (aM vC (ae (ag 0) (ae (fC (.int 6)) (ae (fC (.int 4)) ah)))) (ae (ag 9) (ae (ag 10) ah))))) (hSub (ag 4) (ag 5))) aQ)
 (az (dJ (aA (aD (iO false) (ag 3) (fC (.int 7)))) (aK (bD (ae (aM sS (ae (ag 0) (ae (aD gg (fC (.int 1)) (aM fV (ae (ag 0) (ae (fC (.int 5)) ah)))) ah))) (ae (ag 8) (ae (ag 9) (ae (ag 10) ah))))) (hSub (ag 4) (ag 5))) aQ)
 (az (dJ (aA (aD (iO false) (ag 3) (fC (.int 8)))) (aK (bD (ae (aD bG (ag 4) (ag 6)) (ae (aD bG (ag 4) (ag 5)) ah))) (kH 2 (cf (hSub (ag 4) (ag 5)) (cf (hSub (ag 4) (ag 6)) lh)))) aQ)
 (bj (aM bU (ae (ag 4) ah)))))))))))))))))))
def Dy:List D->Dm D:=gI 12 F4
def Dz:Stmt:=top 49
theorem sT:aL ["_law_feed_here","_law_floor_here","_law_chart_here","_law_form_here","_law_rows","_law_at","_law_to","_law_here","_law_word_here","_law_s","_law_t","_law_number"] ["_law_feed_here","_law_floor_here","_law_chart_here"] (av Dz):=⟨rfl,rfl,rfl,by w_fin,rfl,by w_fin,by w_fin⟩
theorem SW {f:Addr} {fd:FuncData} (D:Def K mg "_law_otherwise" Dz ["_law_feed_here","_law_floor_here","_law_chart_here"] f fd) (T:Txt mg)  {aT:Addr} {aU:FuncData} (aC:Def K mg "_law_take" sR ["_law_feed_here","_law_many"] aT aU) (aE:aI P w K mg base bH 1 aT aU ["_law_feed_here","_law_many"] (bM K 2 fV)) {dB:Addr} {dC:FuncData} (dD:Def K mg "_law_word" Ai ["_law_feed_here","_law_most","_law_great"] dB dC) (eB:aI P w K mg base bH 2 dB dC ["_law_feed_here","_law_most","_law_great"] (bM K 3 vC)) {cQ:Addr} {cR:FuncData} (cE:Def K mg "_law_floor" zV ["_law_feed_here","_law_n"] cQ cR) (cS:aI P w K mg base bH 3 cQ cR ["_law_feed_here","_law_n"] (bM K 2 sS)):aI P w K mg base bH 4 f fd ["_law_feed_here","_law_floor_here","_law_chart_here"] (bM K 3 Dy):=by
 refine D.F.ok sT (fun _ _ _ _ h=>h.1) (fun c A o s H v Q E hr h=>?_)
 have hu:=hr.units
 refine ⟨_,(@aZ _ _ _ _ _ (@cn (i:=3) _ _ _ _ _ _ sT.nd rfl (by w_up) (b9 aE aC hr (by decide) rfl (@aj _ _ _ _ _ (pv 0) (@aj _ _ _ _ _ aO ax (by rfl)) (by rfl))) (by rfl) (by w_up))
  (@aZ _ _ _ _ _ (@cn (i:=4) _ _ _ _ _ _ sT.nd rfl (by w_up) (fA A9 (by rfl) T.dv ph (@aj _ _ _ _ _ (pv 2) ax (by rfl))) (by rfl) (by w_up))
  (@aZ _ _ _ _ _ (@cn (i:=5) _ _ _ _ _ _ sT.nd rfl (by w_up) (b9 aE aC hr (by decide) rfl (@aj _ _ _ _ _ (pv 0) (@aj _ _ _ _ _ (fT (GV rfl) (by rfl) T.se Hd (@aj _ _ _ _ _ aO (@aj _ _ _ _ _ (fT iz (by rfl) T.bw iA (@aj _ _ _ _ _ (pv 4) ax (by rfl))) ax (by rfl)) (by rfl))) ax (by rfl)) (by rfl))) (by rfl) (by w_up))
  (@aZ _ _ _ _ _ (@cn (i:=6) _ _ _ _ _ _ sT.nd rfl (by w_up) (b9 aE aC hr (by decide) rfl (@aj _ _ _ _ _ (pv 0) (@aj _ _ _ _ _ (fT (GV rfl) (by rfl) T.se Hd (@aj _ _ _ _ _ aO (@aj _ _ _ _ _ (fT iz (by rfl) T.bw iA (@aj _ _ _ _ _ (pv 4) ax (by rfl))) ax (by rfl)) (by rfl))) ax (by rfl)) (by rfl))) (by rfl) (by w_up))
  (@aZ _ _ _ _ _ (@fz _ _ _ _ _ _ _ _ (df (Bm hu) (pv 4) (@kn _ _ _ _ ax) (aH _)) (@bq _ _ _ (@dZ _ _ _ _ (@eY _ _ _ _ _ (@aj _ _ _ _ _ (@eY _ _ _ _ _ (@aj _ _ _ _ _ (pv 1) (@aj _ _ _ _ _ (@eY _ _ _ _ _ ax) (@aj _ _ _ _ _ aO (@aj _ _ _ _ _ aO ax (by rfl)) (by rfl)) (by rfl)) (by rfl))) ax (by rfl))))) gy)
  (@aZ _ _ _ _ _ (o4 (@bJ _ _ _ _ _ _ _ iL (pv 4) (pv 5) (fun _ _=>rfl)) (qK (n:=4) rfl (lr (de (i:=7) sT.nd rfl (by w_up)) (lr (de (i:=8) sT.nd rfl (by w_up)) (lr (de (i:=9) sT.nd rfl (by w_up)) (lr (de (i:=10) sT.nd rfl (by w_up)) qJ))))))
  (@aZ _ _ _ _ _ (@cn (i:=11) _ _ _ _ _ _ sT.nd rfl (by w_up) (@bJ _ _ _ _ _ _ _ iL (@kn _ _ _ _ (@aj _ _ _ _ _ (pv 6) (@aj _ _ _ _ _ (cX AZ aO aO) (@aj _ _ _ _ _ (fT iz (by rfl) T.bw iA (@aj _ _ _ _ _ (pv 4) ax (by rfl))) (@aj _ _ _ _ _ (pv 9) (@aj _ _ _ _ _ (pv 10) ax (by rfl)) (by rfl)) (by rfl)) (by rfl)) (by rfl))) (b9 aE aC hr (by decide) rfl (@aj _ _ _ _ _ (pv 0) (@aj _ _ _ _ _ aO ax (by rfl)) (by rfl))) (fun _ _=>rfl)) (by rfl) (by w_up))
  (@aZ _ _ _ _ _ (@fz _ _ _ _ _ _ _ _ (df mK (pv 3) aO (aH _)) (@bq _ _ _ (mQ (lE PySem.F.plainAttrs_list PySem.F.slot_list_pop PySem.F.type_list_pop Kz (pv 4) (@aj _ _ _ _ _ (pv 5) ax (by rfl))))) gy)
  (@aZ _ _ _ _ _ (@fz _ _ _ _ _ _ _ _ (df mK (pv 3) aO (aH _)) (@bq _ _ _ (mQ (lE PySem.F.plainAttrs_list PySem.F.slot_list_insert PySem.F.type_list_insert Le (pv 4) (@aj _ _ _ _ _ (pv 6) (@aj _ _ _ _ _ (@bJ _ _ _ _ _ _ _ iL (pv 4) (pv 5) (fun _ _=>rfl)) ax (by rfl)) (by rfl))))) gy)
  (@aZ _ _ _ _ _ (@fz _ _ _ _ _ _ _ _ (df mK (pv 3) aO (aH _)) (@bq _ _ _ (o4 (@eY _ _ _ _ _ (@aj _ _ _ _ _ (pv 7) (@aj _ _ _ _ _ (pv 8) (@aj _ _ _ _ _ (pv 11) (@aj _ _ _ _ _ (pv 10) ax (by rfl)) (by rfl)) (by rfl)) (by rfl))) (pO (pv 4) (pv 5) pS))) gy)
  (@aZ _ _ _ _ _ (@fz _ _ _ _ _ _ _ _ (df mK (pv 3) aO (aH _)) (@bq _ _ _ (o4 (@eY _ _ _ _ _ (@aj _ _ _ _ _ (pv 7) (@aj _ _ _ _ _ (pv 8) (@aj _ _ _ _ _ (pv 9) (@aj _ _ _ _ _ (pv 11) ax (by rfl)) (by rfl)) (by rfl)) (by rfl))) (pO (pv 4) (pv 5) pS))) gy)
  (@aZ _ _ _ _ _ (@fz _ _ _ _ _ _ _ _ (df mK (pv 3) aO (aH _)) (@bq _ _ _ (o4 (@eY _ _ _ _ _ (@aj _ _ _ _ _ (@bJ _ _ _ _ _ _ _ e7 (@bJ _ _ _ _ _ _ _ iL (pv 4) (pv 6) (fun _ _=>rfl)) aO (fun _ _=>rfl)) (@aj _ _ _ _ _ (pv 8) (@aj _ _ _ _ _ (pv 9) (@aj _ _ _ _ _ (pv 10) ax (by rfl)) (by rfl)) (by rfl)) (by rfl))) (pO (pv 4) (pv 5) pS))) gy)
  (@aZ _ _ _ _ _ (@fz _ _ _ _ _ _ _ _ (df mK (pv 3) aO (aH _)) (@bq _ _ _ (o4 (@eY _ _ _ _ _ (@aj _ _ _ _ _ (pv 7) (@aj _ _ _ _ _ (@bJ _ _ _ _ _ _ _ e7 (@bJ _ _ _ _ _ _ _ iL (pv 4) (pv 6) (fun _ _=>rfl)) aO (fun _ _=>rfl)) (@aj _ _ _ _ _ (pv 9) (@aj _ _ _ _ _ (pv 10) ax (by rfl)) (by rfl)) (by rfl)) (by rfl))) (pO (pv 4) (pv 5) pS))) gy)
  (@aZ _ _ _ _ _ (@fz _ _ _ _ _ _ _ _ (df mK (pv 3) aO (aH _)) (@bq _ _ _ (o4 (@eY _ _ _ _ _ (@aj _ _ _ _ _ (pv 7) (@aj _ _ _ _ _ (b9 eB dD hr (by decide) rfl (@aj _ _ _ _ _ (pv 0) (@aj _ _ _ _ _ aO (@aj _ _ _ _ _ aO ax (by rfl)) (by rfl)) (by rfl))) (@aj _ _ _ _ _ (pv 9) (@aj _ _ _ _ _ (pv 10) ax (by rfl)) (by rfl)) (by rfl)) (by rfl))) (pO (pv 4) (pv 5) pS))) gy)
  (@aZ _ _ _ _ _ (@fz _ _ _ _ _ _ _ _ (df mK (pv 3) aO (aH _)) (@bq _ _ _ (o4 (@eY _ _ _ _ _ (@aj _ _ _ _ _ (b9 cS cE hr (by decide) rfl (@aj _ _ _ _ _ (pv 0) (@aj _ _ _ _ _ (cX mT aO (b9 aE aC hr (by decide) rfl (@aj _ _ _ _ _ (pv 0) (@aj _ _ _ _ _ aO ax (by rfl)) (by rfl)))) ax (by rfl)) (by rfl))) (@aj _ _ _ _ _ (pv 8) (@aj _ _ _ _ _ (pv 9) (@aj _ _ _ _ _ (pv 10) ax (by rfl)) (by rfl)) (by rfl)) (by rfl))) (pO (pv 4) (pv 5) pS))) gy)
  (@aZ _ _ _ _ _ (@fz _ _ _ _ _ _ _ _ (df mK (pv 3) aO (aH _)) (@bq _ _ _ (o4 (@eY _ _ _ _ _ (@aj _ _ _ _ _ (@bJ _ _ _ _ _ _ _ iL (pv 4) (pv 6) (fun _ _=>rfl)) (@aj _ _ _ _ _ (@bJ _ _ _ _ _ _ _ iL (pv 4) (pv 5) (fun _ _=>rfl)) ax (by rfl)) (by rfl))) (qK (n:=2) rfl (lr (pO (pv 4) (pv 5) pS) (lr (pO (pv 4) (pv 6) pS) qJ))))) gy)
  (@bq _ _ _ (@dZ _ _ _ _ (fA mL (by rfl) T.bB mx (@aj _ _ _ _ _ (pv 4) ax (by rfl))))))))))))))))))))),?_⟩
 exact iF (b:=F4) (a6 (bN (b8 (F:=fV) (ao (ai 0) (ao (aP _) ay)) dM) (aV 3))
  (a6 (bN (b6 B9 (ao (ai 2) ay)) (aV 4))
  (a6 (bN (b8 (F:=fV) (ao (ai 0) (ao (b6 Im (ao (aP _) (ao (b6 iE (ao (ai 4) ay)) ay))) ay)) dM) (aV 5))
  (a6 (bN (b8 (F:=fV) (ao (ai 0) (ao (b6 Im (ao (aP _) (ao (b6 iE (ao (ai 4) ay)) ay))) ay)) dM) (aV 6))
  (a6 (fF (c7 (aG (qA false) (ai 4) (kq ay))) (d3 (eZ (ao (eZ (ao (ai 1) (ao (eZ ay) (ao (aP _) (ao (aP _) ay))))) ay))) gA)
  (a6 (bN (aG fD (ai 4) (ai 5)) (qR (lu (aV 7) (lu (aV 8) (lu (aV 9) (lu (aV 10) qQ))))))
  (a6 (bN (aG fD (kq (ao (ai 6) (ao (aG B6 (aP _) (aP _)) (ao (b6 iE (ao (ai 4) ay)) (ao (ai 9) (ao (ai 10) ay)))))) (b8 (F:=fV) (ao (ai 0) (ao (aP _) ay)) dM)) (aV 11))
  (a6 (fF (c7 (aG mN (ai 3) (aP _))) (m9 (kX LU (ai 4) (ao (ai 5) ay))) gA)
  (a6 (fF (c7 (aG mN (ai 3) (aP _))) (m9 (kX MD (ai 4) (ao (ai 6) (ao (aG fD (ai 4) (ai 5)) ay)))) gA)
  (a6 (fF (c7 (aG mN (ai 3) (aP _))) (bN (eZ (ao (ai 7) (ao (ai 8) (ao (ai 11) (ao (ai 10) ay))))) (qc (ai 4) (ai 5))) gA)
  (a6 (fF (c7 (aG mN (ai 3) (aP _))) (bN (eZ (ao (ai 7) (ao (ai 8) (ao (ai 9) (ao (ai 11) ay))))) (qc (ai 4) (ai 5))) gA)
  (a6 (fF (c7 (aG mN (ai 3) (aP _))) (bN (eZ (ao (aG dG (aG fD (ai 4) (ai 6)) (aP _)) (ao (ai 8) (ao (ai 9) (ao (ai 10) ay))))) (qc (ai 4) (ai 5))) gA)
  (a6 (fF (c7 (aG mN (ai 3) (aP _))) (bN (eZ (ao (ai 7) (ao (aG dG (aG fD (ai 4) (ai 6)) (aP _)) (ao (ai 9) (ao (ai 10) ay))))) (qc (ai 4) (ai 5))) gA)
  (a6 (fF (c7 (aG mN (ai 3) (aP _))) (bN (eZ (ao (ai 7) (ao (b8 (F:=vC) (ao (ai 0) (ao (aP _) (ao (aP _) ay))) vA) (ao (ai 9) (ao (ai 10) ay))))) (qc (ai 4) (ai 5))) gA)
  (a6 (fF (c7 (aG mN (ai 3) (aP _))) (bN (eZ (ao (b8 (F:=sS) (ao (ai 0) (ao (aG mX (aP _) (b8 (F:=fV) (ao (ai 0) (ao (aP _) ay)) dM)) ay)) dM) (ao (ai 8) (ao (ai 9) (ao (ai 10) ay))))) (qc (ai 4) (ai 5))) gA)
  (a6 (fF (c7 (aG mN (ai 3) (aP _))) (bN (eZ (ao (aG fD (ai 4) (ai 6)) (ao (aG fD (ai 4) (ai 5)) ay))) (qR (lu (qc (ai 4) (ai 5)) (lu (qc (ai 4) (ai 6)) qQ)))) gA)
  (d3 (b6 mE (ao (ai 4) ay))))))))))))))))))) rfl h
def F5:au->Dm Fl :=
 (bj (aM bU (ae (cD (c4 (ag 0)) 1 [1] (hName 0) dc (aM bU (ae (cD (ck (ae (aM cc (ae (ag 1) ah)) ah)) 1 [0,1] (hName 0) dc (aD a5 (ag 2) (aD a5 (ag 1) (iw "tuple" iS (ag 2) (ae (ag 0) ah))))) ah))) ah)))
def DA:List D->Dm D:=gI 2 F5
def DB:Stmt:=top 45
theorem SX:aL ["_law_floor_here","_law_p"] ["_law_floor_here","_law_p"] (av DB):=⟨rfl,rfl,rfl,by w_fin,rfl,by w_fin,by w_fin⟩
theorem SY {f:Addr} {fd:FuncData} (D:Def K mg "_law_anew" DB ["_law_floor_here","_law_p"] f fd) (T:Txt mg)  :aI P w K mg base bH 1 f fd ["_law_floor_here","_law_p"] (bM K 2 DA):=by
 refine D.F.ok SX (fun _ _ _ _ h=>h.1) (fun c A o s H v Q E hr h=>?_)
 refine ⟨_,(@bq _ _ _ (@dZ _ _ _ _ (fA mL (by rfl) T.bB mx (@aj _ _ _ _ _ (pY (own:=["_law_turning_here"]) (fr:=["_law_p"]) (js:=[1]) rfl ⟨⟨rfl,by w_fin,by w_fin,by dsimp only [eV,aS,Cx.lU,Cx.wish,PyProof.Rows.envOfC,compEnvC,relabel,Env.kindOf];decide +kernel,by w_fin⟩,rfl⟩ (om (pv 0)) (fun _ _ _ _ _=>(de (i:=0) (show ((["_law_turning_here"]:List Str) ++ (["_law_p"]:List Str)).Nodup by w_fin) rfl (by w_up))) (fun _ _ _ _ _=>o5) (fun _ _ _ _ _=>(fA (K0 (K:=K) rfl) (by rfl) T.bB mx (@aj _ _ _ _ _ (pY (own:=["_law_s"]) (fr:=["_law_turning_here","_law_p"]) (js:=[0,1]) rfl ⟨LZ ⟨rfl,by w_fin,by w_fin,by dsimp only [eV,Cx.lU,Cx.wish,PyProof.Rows.envOfC];decide +kernel,by w_fin⟩,rfl⟩ (oo rfl T.aY (@aj _ _ _ _ _ (fT (OM (K:=K) rfl) (by rfl) T.bw iA (@aj _ _ _ _ _ (pv 1) ax (by rfl))) ax (by rfl))) (fun _ _ _ _ _=>(de (i:=0) (show ((["_law_s"]:List Str) ++ (["_law_turning_here","_law_p"]:List Str)).Nodup by w_fin) rfl (by w_up))) (fun _ _ _ _ _=>o5) (fun _ _ _ _ _=>(@bJ _ _ _ _ _ _ _ (qM (K:=K) rfl) (pv 2) (@bJ _ _ _ _ _ _ _ (qM (K:=K) rfl) (pv 1) (Ew (K:=K) rfl PySem.F.plainAttrs_tuple PySem.F.slot_tuple_index PySem.F.type_tuple_index (Hy (K:=K) rfl) (pv 2) (@aj _ _ _ _ _ (pv 0) ax (by rfl))) (fun _ _=>rfl)) (fun _ _=>rfl)))) ax (by rfl))))) ax (by rfl))))),?_⟩
 exact iF (b:=F5) (d3 (b6 mE (ao (nW (oy (ai 0)) (aV 0) o9 (b6 mE (ao (nW (oz (ao (b6 iE (ao (ai 1) ay)) ay)) (aV 0) o9 (aG dG (ai 2) (aG dG (ai 1) (kX Io (ai 2) (ao (ai 0) ay))))) ay))) ay))) rfl h
def F6:au->Dm Fl :=
 (az (aK (aM fV (ae (ag 0) (ae (fC (.int 4)) ah))) (hName 2))
 (az (aK (aM lR (ae (aM qS (ae (ag 0) (ae (aM cc (ae (ag 1) ah)) ah))) ah)) (hName 3))
 (az (dJ (aA (aD va (ag 2) (fC (.int 0)))) (az (cg (iw "list" iH (ag 3) (ae (fC (.int 0)) ah)))
 (cg (iw "list" iU (ag 3) (ae (fC (.int 0)) (ae (fC (.int 0)) ah))))) aQ)
 (az (aK (cM ah) (hName 4))
 (az (c9 (jK (ag 3)) (hName 5) (az (aK (aD a5 (ag 1) (ag 5)) (kH 4 (cf (hName 6) (cf (hName 7) (cf (hName 8) (cf (hName 9) lh))))))
 (az (aK (aM qS (ae (ag 0) (ae (aM cc (ae (aD a5 (ag 6) (fC (.int 0))) ah)) ah))) (hName 10))
 (az (aK (aD gg (fC (.int 1)) (aM fV (ae (ag 0) (ae (fC (.int 5)) ah)))) (hName 11))
 (az (aK (aD lY (aM fV (ae (ag 0) (ae (fC (.int 3)) ah))) (aM oS (ae (aD qO (aM cc (ae (ag 7) ah)) (fC (.int 11))) ah))) (hName 12))
 (az (aK (aD bG (cM (ae (ag 7) (ae (aD jI (bD (ae (bD (ae (fC (.str "s")) (ae (ag 11) ah))) (ae (bD (ae (fC (.str "s")) (ae (aD mS (fC (.int 0)) (ag 11)) ah))) ah))) (ag 7)) (ae (aD jI (ag 7) (bD (ae (bD (ae (fC (.str "t")) (ae (fC (.int 1)) ah))) (ae (bD (ae (fC (.str "t")) (ae (fC (.int 3)) ah))) ah)))) ah)))) (ag 12)) (hName 7))
 (cg (iw "list" a9 (ag 4) (ae (bD (ae (aM DA (ae (ag 6) (ae (ag 10) ah))) (ae (ag 7) (ae (iw "list" gG (ag 3) (ae (ag 8) ah)) (ae (iw "list" gG (ag 3) (ae (ag 9) ah)) ah))))) ah)))))))))
 (bj (aM bU (ae (ag 4) ah))))))))
def DC:List D->Dm D:=gI 13 F6
def DE:Stmt:=top 50
theorem qD:aL ["_law_feed_here","_law_chart_here","_law_whole_here","_law_order","_law_found","_law_at","_law_here","_law_word_here","_law_s","_law_t","_law_p","_law_k","_law_way"] ["_law_feed_here","_law_chart_here"] (av DE):=⟨rfl,rfl,rfl,by w_fin,rfl,by w_fin,by w_fin⟩
theorem S0 {f:Addr} {fd:FuncData} (D:Def K mg "_law_turned_about" DE ["_law_feed_here","_law_chart_here"] f fd) (T:Txt mg)  {aT:Addr} {aU:FuncData} (aC:Def K mg "_law_take" sR ["_law_feed_here","_law_many"] aT aU) (aE:aI P w K mg base bH 1 aT aU ["_law_feed_here","_law_many"] (bM K 2 fV)) {cu:Addr} {cv:FuncData} (bO:Def K mg "_law_turning" zU ["_law_feed_here","_law_n"] cu cv) (b5:aI P w K mg base bH 2 cu cv ["_law_feed_here","_law_n"] (bM K 2 qS)) {jf:Addr} {jg:FuncData} (jh:Def K mg "_law_anew" DB ["_law_floor_here","_law_p"] jf jg) (kO:aI P w K mg base bH 1 jf jg ["_law_floor_here","_law_p"] (bM K 2 DA)):aI P w K mg base bH 3 f fd ["_law_feed_here","_law_chart_here"] (bM K 2 DC):=by
 refine D.F.ok qD (fun _ _ _ _ h=>h.1) (fun c A o s H v Q E hr h=>?_)
 refine ⟨_,(@aZ _ _ _ _ _ (@cn (i:=2) _ _ _ _ _ _ qD.nd rfl (by w_up) (b9 aE aC hr (by decide) rfl (@aj _ _ _ _ _ (pv 0) (@aj _ _ _ _ _ aO ax (by rfl)) (by rfl))) (by rfl) (by w_up))
  (@aZ _ _ _ _ _ (@cn (i:=3) _ _ _ _ _ _ qD.nd rfl (by w_up) (fA A9 (by rfl) T.dv ph (@aj _ _ _ _ _ (b9 b5 bO hr (by decide) rfl (@aj _ _ _ _ _ (pv 0) (@aj _ _ _ _ _ (fT iz (by rfl) T.bw iA (@aj _ _ _ _ _ (pv 1) ax (by rfl))) ax (by rfl)) (by rfl))) ax (by rfl))) (by rfl) (by w_up))
  (@aZ _ _ _ _ _ (@fz _ _ _ _ _ _ _ _ (df zp (pv 2) aO (aH _)) (@aZ _ _ _ _ _ (mQ (lE PySem.F.plainAttrs_list PySem.F.slot_list_remove PySem.F.type_list_remove O8 (pv 3) (@aj _ _ _ _ _ aO ax (by rfl))))
  (@bq _ _ _ (mQ (lE PySem.F.plainAttrs_list PySem.F.slot_list_insert PySem.F.type_list_insert Le (pv 3) (@aj _ _ _ _ _ aO (@aj _ _ _ _ _ aO ax (by rfl)) (by rfl)))))) gy)
  (@aZ _ _ _ _ _ (@cn (i:=4) _ _ _ _ _ _ qD.nd rfl (by w_up) (@kn _ _ _ _ ax) (by rfl) (by w_up))
  (@aZ _ _ _ _ _ (@lD _ _ _ _ _ _ _ _ PassesOwn.never rfl (AR (pv 3)) (de (i:=5) qD.nd rfl (by w_up)) (@aZ _ _ _ _ _ (o4 (@bJ _ _ _ _ _ _ _ e7 (pv 1) (pv 5) (fun _ _=>rfl)) (qK (n:=4) rfl (lr (de (i:=6) qD.nd rfl (by w_up)) (lr (de (i:=7) qD.nd rfl (by w_up)) (lr (de (i:=8) qD.nd rfl (by w_up)) (lr (de (i:=9) qD.nd rfl (by w_up)) qJ))))))
  (@aZ _ _ _ _ _ (@cn (i:=10) _ _ _ _ _ _ qD.nd rfl (by w_up) (b9 b5 bO hr (by decide) rfl (@aj _ _ _ _ _ (pv 0) (@aj _ _ _ _ _ (fT iz (by rfl) T.bw iA (@aj _ _ _ _ _ (@bJ _ _ _ _ _ _ _ e7 (pv 6) aO (fun _ _=>rfl)) ax (by rfl))) ax (by rfl)) (by rfl))) (by rfl) (by w_up))
  (@aZ _ _ _ _ _ (@cn (i:=11) _ _ _ _ _ _ qD.nd rfl (by w_up) (cX mT aO (b9 aE aC hr (by decide) rfl (@aj _ _ _ _ _ (pv 0) (@aj _ _ _ _ _ aO ax (by rfl)) (by rfl)))) (by rfl) (by w_up))
  (@aZ _ _ _ _ _ (@cn (i:=12) _ _ _ _ _ _ qD.nd rfl (by w_up) (cX tq (b9 aE aC hr (by decide) rfl (@aj _ _ _ _ _ (pv 0) (@aj _ _ _ _ _ aO ax (by rfl)) (by rfl))) (fA NQ (by rfl) T.CN wI (@aj _ _ _ _ _ (A1 tu (fT iz (by rfl) T.bw iA (@aj _ _ _ _ _ (pv 7) ax (by rfl))) aO (aH _)) ax (by rfl)))) (by rfl) (by w_up))
  (@aZ _ _ _ _ _ (@cn (i:=7) _ _ _ _ _ _ qD.nd rfl (by w_up) (@bJ _ _ _ _ _ _ _ iL (@kn _ _ _ _ (@aj _ _ _ _ _ (pv 7) (@aj _ _ _ _ _ (cX wJ (@eY _ _ _ _ _ (@aj _ _ _ _ _ (@eY _ _ _ _ _ (@aj _ _ _ _ _ pN (@aj _ _ _ _ _ (pv 11) ax (by rfl)) (by rfl))) (@aj _ _ _ _ _ (@eY _ _ _ _ _ (@aj _ _ _ _ _ pN (@aj _ _ _ _ _ (cX AZ aO (pv 11)) ax (by rfl)) (by rfl))) ax (by rfl)) (by rfl))) (pv 7)) (@aj _ _ _ _ _ (cX wJ (pv 7) (@eY _ _ _ _ _ (@aj _ _ _ _ _ (@eY _ _ _ _ _ (@aj _ _ _ _ _ pN (@aj _ _ _ _ _ aO ax (by rfl)) (by rfl))) (@aj _ _ _ _ _ (@eY _ _ _ _ _ (@aj _ _ _ _ _ pN (@aj _ _ _ _ _ aO ax (by rfl)) (by rfl))) ax (by rfl)) (by rfl)))) ax (by rfl)) (by rfl)) (by rfl))) (pv 12) (fun _ _=>rfl)) (by rfl) (by w_up))
  (@bq _ _ _ (mQ (lE PySem.F.plainAttrs_list PySem.F.slot_list_append PySem.F.type_list_append oJ (pv 4) (@aj _ _ _ _ _ (@eY _ _ _ _ _ (@aj _ _ _ _ _ (b9 kO jh hr (by decide) rfl (@aj _ _ _ _ _ (pv 6) (@aj _ _ _ _ _ (pv 10) ax (by rfl)) (by rfl))) (@aj _ _ _ _ _ (pv 7) (@aj _ _ _ _ _ (lE PySem.F.plainAttrs_list PySem.F.slot_list_index PySem.F.type_list_index IK (pv 3) (@aj _ _ _ _ _ (pv 8) ax (by rfl))) (@aj _ _ _ _ _ (lE PySem.F.plainAttrs_list PySem.F.slot_list_index PySem.F.type_list_index IK (pv 3) (@aj _ _ _ _ _ (pv 9) ax (by rfl))) ax (by rfl)) (by rfl)) (by rfl)) (by rfl))) ax (by rfl)))))))))) (by intro _;rfl))
  (@bq _ _ _ (@dZ _ _ _ _ (fA mL (by rfl) T.bB mx (@aj _ _ _ _ _ (pv 4) ax (by rfl)))))))))),?_⟩
 exact iF (b:=F6) (a6 (bN (b8 (F:=fV) (ao (ai 0) (ao (aP _) ay)) dM) (aV 2))
  (a6 (bN (b6 B9 (ao (b8 (F:=qS) (ao (ai 0) (ao (b6 iE (ao (ai 1) ay)) ay)) dM) ay)) (aV 3))
  (a6 (fF (c7 (aG zD (ai 2) (aP _))) (a6 (m9 (kX RN (ai 3) (ao (aP _) ay)))
  (m9 (kX MD (ai 3) (ao (aP _) (ao (aP _) ay))))) gA)
  (a6 (bN (kq ay) (aV 4))
  (a6 (lI (Cb (ai 3)) (aV 5) (a6 (bN (aG dG (ai 1) (ai 5)) (qR (lu (aV 6) (lu (aV 7) (lu (aV 8) (lu (aV 9) qQ))))))
  (a6 (bN (b8 (F:=qS) (ao (ai 0) (ao (b6 iE (ao (aG dG (ai 6) (aP _)) ay)) ay)) dM) (aV 10))
  (a6 (bN (aG mX (aP _) (b8 (F:=fV) (ao (ai 0) (ao (aP _) ay)) dM)) (aV 11))
  (a6 (bN (aG tU (b8 (F:=fV) (ao (ai 0) (ao (aP _) ay)) dM) (b6 Qk (ao (aG tV (b6 iE (ao (ai 7) ay)) (aP _)) ay))) (aV 12))
  (a6 (bN (aG fD (kq (ao (ai 7) (ao (aG xv (eZ (ao (eZ (ao (qa _) (ao (ai 11) ay))) (ao (eZ (ao (qa _) (ao (aG B6 (aP _) (ai 11)) ay))) ay))) (ai 7)) (ao (aG xv (ai 7) (eZ (ao (eZ (ao (qa _) (ao (aP _) ay))) (ao (eZ (ao (qa _) (ao (aP _) ay))) ay)))) ay)))) (ai 12)) (aV 7))
  (m9 (kX oT (ai 4) (ao (eZ (ao (b8 (F:=DA) (ao (ai 6) (ao (ai 10) ay)) dM) (ao (ai 7) (ao (kX IL (ai 3) (ao (ai 8) ay)) (ao (kX IL (ai 3) (ao (ai 9) ay)) ay))))) ay)))))))))
  (d3 (b6 mE (ao (ai 4) ay)))))))) rfl h
def F7:au->Dm Fl :=
 (az (c9 (c4 (ag 1)) (hName 2) (aK (aM pb (ae (ag 0) (ae (ag 2) ah))) (hName 0)))
 (bj (ag 0)))
def sU:List D->Dm D:=gI 3 F7
def Aj:Stmt:=top 42
theorem Ji:aL ["_law_floor_here","_law_word_here","_law_step"] ["_law_floor_here","_law_word_here"] (av Aj):=⟨rfl,rfl,rfl,by w_fin,rfl,by w_fin,by w_fin⟩
theorem S1 {f:Addr} {fd:FuncData} (D:Def K mg "_law_led" Aj ["_law_floor_here","_law_word_here"] f fd) (T:Txt mg)  {bx:Addr} {bz:FuncData} (bA:Def K mg "_law_stepped" yJ ["_law_floor_here","_law_step"] bx bz) (bP:aI P w K mg base bH 2 bx bz ["_law_floor_here","_law_step"] (bM K 2 pb)):aI P w K mg base bH 3 f fd ["_law_floor_here","_law_word_here"] (bM K 2 sU):=by
 refine D.F.ok Ji (fun _ _ _ _ h=>h.1) (fun c A o s H v Q E hr h=>?_)
 refine ⟨_,(@aZ _ _ _ _ _ (@lD _ _ _ _ _ _ _ _ PassesOwn.never rfl (om (pv 1)) (de (i:=2) Ji.nd rfl (by w_up)) (@bq _ _ _ (@cn (i:=0) _ _ _ _ _ _ Ji.nd rfl (by w_up) (b9 bP bA hr (by decide) rfl (@aj _ _ _ _ _ (pv 0) (@aj _ _ _ _ _ (pv 2) ax (by rfl)) (by rfl))) (by rfl) (by w_up))) (by intro _;rfl))
  (@bq _ _ _ (@dZ _ _ _ _ (pv 0)))),?_⟩
 exact iF (b:=F7) (a6 (lI (oy (ai 1)) (aV 2) (bN (b8 (F:=pb) (ao (ai 0) (ao (ai 2) ay)) dM) (aV 0)))
  (d3 (ai 0))) rfl h
def F8:au->Dm Fl :=
 (az (aK (cD (c4 (ag 1)) 1 [] (hName 0) dc (aM lJ (ae (aD a5 (ag 0) (fC (.int 0))) ah))) (hName 2))
 (az (dJ (qy (aA (aD (e8 false) (ag 2) (cM ah))) (aA (aD (e8 true) (aD bG (ag 2) (fC (.int 0))) (aM lJ (ae (ag 0) ah))))) (bj (fC (.bl false))) aQ)
 (az (c9 (kI (ae (ag 1) ah)) (kH 2 (cf (hName 3) (cf (hName 4) lh))) (az (dJ (qy (aA (aD (nh false) (aD bG (ag 2) (ag 3)) (xn qB (ag 2) j5 (mD (ag 3))))) (aA (aD (e8 true) (aD bG (ag 2) (ag 3)) (aM lJ (ae (aM sU (ae (ag 0) (ae (aD a5 (ag 4) (fC (.int 1))) ah))) ah))))) (bj (fC (.bl false))) aQ)
 (c9 (c4 (bD (ae (bD (ae (aD a5 (ag 4) (fC (.int 2))) (ae (bD (ae (fC (.str "s")) (ae (fC (.int 1)) ah))) ah))) (ae (bD (ae (aD a5 (ag 4) (fC (.int 3))) (ae (bD (ae (fC (.str "t")) (ae (fC (.int 1)) ah))) ah))) ah)))) (kH 2 (cf (hName 5) (cf (hName 6) lh))) (dJ (qy (aA (aD qO (ag 5) (fC (.int 0)))) (qy (aA (aD B5 (ag 5) (aM cc (ae (ag 1) ah)))) (aA (aD (e8 true) (aD bG (ag 2) (ag 5)) (aM lJ (ae (aM pb (ae (aD a5 (ag 4) (fC (.int 0))) (ae (ag 6) ah))) ah)))))) (bj (fC (.bl false))) aQ))))
 (bj (fC (.bl true))))))
def Ak:List D->Dm D:=gI 7 F8
def DF:Stmt:=top 48
theorem Al:aL ["_law_floor_here","_law_chart_here","_law_forms","_law_at","_law_row","_law_number","_law_step"] ["_law_floor_here","_law_chart_here"] (av DF):=⟨rfl,rfl,rfl,by w_fin,rfl,by w_fin,by w_fin⟩
theorem S2 {f:Addr} {fd:FuncData} (D:Def K mg "_law_shown" DF ["_law_floor_here","_law_chart_here"] f fd) (T:Txt mg)  {cw:Addr} {cx:FuncData} (a8:Def K mg "_law_form" yI ["_law_floor_here"] cw cx) (bp:aI P w K mg base bH 2 cw cx ["_law_floor_here"] (bM K 1 lJ)) {eC:Addr} {eE:FuncData} (dI:Def K mg "_law_led" Aj ["_law_floor_here","_law_word_here"] eC eE) (eG:aI P w K mg base bH 3 eC eE ["_law_floor_here","_law_word_here"] (bM K 2 sU)) {bx:Addr} {bz:FuncData} (bA:Def K mg "_law_stepped" yJ ["_law_floor_here","_law_step"] bx bz) (bP:aI P w K mg base bH 2 bx bz ["_law_floor_here","_law_step"] (bM K 2 pb)):aI P w K mg base bH 4 f fd ["_law_floor_here","_law_chart_here"] (bM K 2 Ak):=by
 refine D.F.ok Al (fun _ _ _ _ h=>h.1) (fun c A o s H v Q E hr h=>?_)
 have hu:=hr.units
 refine ⟨_,(@aZ _ _ _ _ _ (Bu (i:=2) (own:=["_law_row"]) (fr:=[]) (js:=[]) rfl Al.nd rfl rfl ⟨⟨rfl,by w_fin,by w_fin,by dsimp only [eV,aS,Cx.lU,Cx.wish,PyProof.Rows.envOfC,compEnvC,relabel,Env.kindOf];decide +kernel,by w_fin⟩,rfl⟩ (om (pv 1)) (fun _ _ _ _ _=>(de (i:=0) (show ((["_law_row"]:List Str) ++ ([]:List Str)).Nodup by w_fin) rfl (by w_up))) (fun _ _ _ _ _=>o5) (fun _ _ _ _ _=>(b9 bp a8 hr (by decide) rfl (@aj _ _ _ _ _ (@bJ _ _ _ _ _ _ _ (qM (K:=K) rfl) (pv 0) aO (fun _ _=>rfl)) ax (by rfl)))))
  (@aZ _ _ _ _ _ (@fz _ _ _ _ _ _ _ _ (PW.pt (vU (df (Bm hu) (pv 2) (@kn _ _ _ _ ax) (aH _)) (zk (df (uR hu) (@bJ _ _ _ _ _ _ _ iL (pv 2) aO (fun _ _=>rfl)) (b9 bp a8 hr (by decide) rfl (@aj _ _ _ _ _ (pv 0) ax (by rfl))) (aH _))))) (@bq _ _ _ (@dZ _ _ _ _ pM)) gy)
  (@aZ _ _ _ _ _ (@lD _ _ _ _ _ _ _ _ PassesOwn.never rfl (Eu rfl T.gK (@aj _ _ _ _ _ (pv 1) ax (by rfl))) (qK (n:=2) rfl (lr (de (i:=3) Al.nd rfl (by w_up)) (lr (de (i:=4) Al.nd rfl (by w_up)) qJ))) (@aZ _ _ _ _ _ (@fz _ _ _ _ _ _ _ _ (PW.pt (vU (df (K3 hu) (@bJ _ _ _ _ _ _ _ iL (pv 2) (pv 3) (fun _ _=>rfl)) (Ei G3 (pv 2) Ef (Eg (pv 3))) (by with_unfolding_all rfl)) (zk (df (uR hu) (@bJ _ _ _ _ _ _ _ iL (pv 2) (pv 3) (fun _ _=>rfl)) (b9 bp a8 hr (by decide) rfl (@aj _ _ _ _ _ (b9 eG dI hr (by decide) rfl (@aj _ _ _ _ _ (pv 0) (@aj _ _ _ _ _ (@bJ _ _ _ _ _ _ _ e7 (pv 4) aO (fun _ _=>rfl)) ax (by rfl)) (by rfl))) ax (by rfl))) (aH _))))) (@bq _ _ _ (@dZ _ _ _ _ pM)) gy)
  (@bq _ _ _ (@lD _ _ _ _ _ _ _ _ PassesOwn.never rfl (om (@eY _ _ _ _ _ (@aj _ _ _ _ _ (@eY _ _ _ _ _ (@aj _ _ _ _ _ (@bJ _ _ _ _ _ _ _ e7 (pv 4) aO (fun _ _=>rfl)) (@aj _ _ _ _ _ (@eY _ _ _ _ _ (@aj _ _ _ _ _ pN (@aj _ _ _ _ _ aO ax (by rfl)) (by rfl))) ax (by rfl)) (by rfl))) (@aj _ _ _ _ _ (@eY _ _ _ _ _ (@aj _ _ _ _ _ (@bJ _ _ _ _ _ _ _ e7 (pv 4) aO (fun _ _=>rfl)) (@aj _ _ _ _ _ (@eY _ _ _ _ _ (@aj _ _ _ _ _ pN (@aj _ _ _ _ _ aO ax (by rfl)) (by rfl))) ax (by rfl)) (by rfl))) ax (by rfl)) (by rfl)))) (qK (n:=2) rfl (lr (de (i:=5) Al.nd rfl (by w_up)) (lr (de (i:=6) Al.nd rfl (by w_up)) qJ))) (@bq _ _ _ (@fz _ _ _ _ _ _ _ _ (PW.pt (vU (df tu (pv 5) aO (aH _)) (vU (df uC (pv 5) (fT iz (by rfl) T.bw iA (@aj _ _ _ _ _ (pv 1) ax (by rfl))) (aH _)) (zk (df (uR hu) (@bJ _ _ _ _ _ _ _ iL (pv 2) (pv 5) (fun _ _=>rfl)) (b9 bp a8 hr (by decide) rfl (@aj _ _ _ _ _ (b9 bP bA hr (by decide) rfl (@aj _ _ _ _ _ (@bJ _ _ _ _ _ _ _ e7 (pv 4) aO (fun _ _=>rfl)) (@aj _ _ _ _ _ (pv 6) ax (by rfl)) (by rfl))) ax (by rfl))) (aH _)))))) (@bq _ _ _ (@dZ _ _ _ _ pM)) gy)) (by intro _;rfl)))) (by intro _;rfl))
  (@bq _ _ _ (@dZ _ _ _ _ pM))))),?_⟩
 exact iF (b:=F8) (a6 (bN (nW (oy (ai 1)) (aV 0) o9 (b8 (F:=lJ) (ao (aG dG (ai 0) (aP _)) ay) lB)) (aV 2))
  (a6 (fF (xl (c7 (aG (qA false) (ai 2) (kq ay))) (c7 (aG (qA true) (aG fD (ai 2) (aP _)) (b8 (F:=lJ) (ao (ai 0) ay) lB)))) (d3 (p9 _)) gA)
  (a6 (lI (E1 (ao (ai 1) ay)) (qR (lu (aV 3) (lu (aV 4) qQ))) (a6 (fF (xl (c7 (aG (E8 false) (aG fD (ai 2) (ai 3)) (EU Il (ai 2) ES (ET (ai 3))))) (c7 (aG (qA true) (aG fD (ai 2) (ai 3)) (b8 (F:=lJ) (ao (b8 (F:=sU) (ao (ai 0) (ao (aG dG (ai 4) (aP _)) ay)) dM) ay) lB)))) (d3 (p9 _)) gA)
  (lI (oy (eZ (ao (eZ (ao (aG dG (ai 4) (aP _)) (ao (eZ (ao (qa _) (ao (aP _) ay))) ay))) (ao (eZ (ao (aG dG (ai 4) (aP _)) (ao (eZ (ao (qa _) (ao (aP _) ay))) ay))) ay)))) (qR (lu (aV 5) (lu (aV 6) qQ))) (fF (xl (c7 (aG tV (ai 5) (aP _))) (xl (c7 (aG vd (ai 5) (b6 iE (ao (ai 1) ay)))) (c7 (aG (qA true) (aG fD (ai 2) (ai 5)) (b8 (F:=lJ) (ao (b8 (F:=pb) (ao (aG dG (ai 4) (aP _)) (ao (ai 6) ay)) dM) ay) lB))))) (d3 (p9 _)) gA))))
  (d3 (p9 _))))) rfl h
def F9:au->Dm Fl :=
 (az (aK (cD (c4 (ag 3)) 1 [] (hName 0) dc (aM lJ (ae (aD a5 (ag 0) (fC (.int 0))) ah))) (hName 4))
 (az (dJ (aA (aD (iO true) (aM cc (ae (ag 3) ah)) (ag 2))) (bj (fC (.bl false))) aQ)
 (az (c9 (ck (ae (fC (.int 5)) ah)) (hName 5) (az (aK (aM lJ (ae (aM sU (ae (ag 1) (ae (aM vC (ae (ag 0) (ae (fC (.int 6)) (ae (fC (.int 4)) ah)))) ah))) ah)) (hName 6))
 (dJ (aA (aD (iO true) (aM cc (ae (cD (jK (ag 4)) 1 [6] (hName 0) (aA (aD (e8 false) (ag 0) (ag 1))) (ag 0)) ah)) (fC (.int 1)))) (bj (fC (.bl false))) aQ)))
 (bj (aD (e8 false) (ag 4) (cD (c4 (ag 3)) 1 [1] (hName 0) dc (aM lJ (ae (aM sU (ae (ag 1) (ae (aD a5 (ag 0) (fC (.int 1))) ah))) ah))))))))
def Am:List D->Dm D:=gI 7 F9
def DG:Stmt:=top 51
theorem Ga:aL ["_law_feed_here","_law_floor_here","_law_many","_law_chart_here","_law_forms","_law_turn","_law_goal"] ["_law_feed_here","_law_floor_here","_law_many","_law_chart_here"] (av DG):=⟨rfl,rfl,rfl,by w_fin,rfl,by w_fin,by w_fin⟩
theorem S3 {f:Addr} {fd:FuncData} (D:Def K mg "_law_whole" DG ["_law_feed_here","_law_floor_here","_law_many","_law_chart_here"] f fd) (T:Txt mg)  {cw:Addr} {cx:FuncData} (a8:Def K mg "_law_form" yI ["_law_floor_here"] cw cx) (bp:aI P w K mg base bH 2 cw cx ["_law_floor_here"] (bM K 1 lJ)) {eC:Addr} {eE:FuncData} (dI:Def K mg "_law_led" Aj ["_law_floor_here","_law_word_here"] eC eE) (eG:aI P w K mg base bH 3 eC eE ["_law_floor_here","_law_word_here"] (bM K 2 sU)) {dB:Addr} {dC:FuncData} (dD:Def K mg "_law_word" Ai ["_law_feed_here","_law_most","_law_great"] dB dC) (eB:aI P w K mg base bH 2 dB dC ["_law_feed_here","_law_most","_law_great"] (bM K 3 vC)):aI P w K mg base bH 4 f fd ["_law_feed_here","_law_floor_here","_law_many","_law_chart_here"] (bM K 4 Am):=by
 refine D.F.ok Ga (fun _ _ _ _ h=>h.1) (fun c A o s H v Q E hr h=>?_)
 have hu:=hr.units
 refine ⟨_,(@aZ _ _ _ _ _ (Bu (i:=4) (own:=["_law_row"]) (fr:=[]) (js:=[]) rfl Ga.nd rfl rfl ⟨⟨rfl,by w_fin,by w_fin,by dsimp only [eV,aS,Cx.lU,Cx.wish,PyProof.Rows.envOfC,compEnvC,relabel,Env.kindOf];decide +kernel,by w_fin⟩,rfl⟩ (om (pv 3)) (fun _ _ _ _ _=>(de (i:=0) (show ((["_law_row"]:List Str) ++ ([]:List Str)).Nodup by w_fin) rfl (by w_up))) (fun _ _ _ _ _=>o5) (fun _ _ _ _ _=>(b9 bp a8 hr (by decide) rfl (@aj _ _ _ _ _ (@bJ _ _ _ _ _ _ _ (qM (K:=K) rfl) (pv 0) aO (fun _ _=>rfl)) ax (by rfl)))))
  (@aZ _ _ _ _ _ (@fz _ _ _ _ _ _ _ _ (df zo (fT iz (by rfl) T.bw iA (@aj _ _ _ _ _ (pv 3) ax (by rfl))) (pv 2) (aH _)) (@bq _ _ _ (@dZ _ _ _ _ pM)) gy)
  (@aZ _ _ _ _ _ (@lD _ _ _ _ _ _ _ _ PassesOwn.never rfl (oo rfl T.aY (@aj _ _ _ _ _ aO ax (by rfl))) (de (i:=5) Ga.nd rfl (by w_up)) (@aZ _ _ _ _ _ (@cn (i:=6) _ _ _ _ _ _ Ga.nd rfl (by w_up) (b9 bp a8 hr (by decide) rfl (@aj _ _ _ _ _ (b9 eG dI hr (by decide) rfl (@aj _ _ _ _ _ (pv 1) (@aj _ _ _ _ _ (b9 eB dD hr (by decide) rfl (@aj _ _ _ _ _ (pv 0) (@aj _ _ _ _ _ aO (@aj _ _ _ _ _ aO ax (by rfl)) (by rfl)) (by rfl))) ax (by rfl)) (by rfl))) ax (by rfl))) (by rfl) (by w_up))
  (@bq _ _ _ (@fz _ _ _ _ _ _ _ _ (df zo (fT iz (by rfl) T.bw iA (@aj _ _ _ _ _ (pY (own:=["_law_form_here"]) (fr:=["_law_goal"]) (js:=[6]) rfl ⟨⟨rfl,by w_fin,by w_fin,by dsimp only [eV,aS,Cx.lU,Cx.wish,PyProof.Rows.envOfC,compEnvC,relabel,Env.kindOf];decide +kernel,by w_fin⟩,rfl⟩ (AR (pv 4)) (fun _ _ _ _ _=>(de (i:=0) (show ((["_law_form_here"]:List Str) ++ (["_law_goal"]:List Str)).Nodup by w_fin) rfl (by w_up))) (fun _ _ _ _ _=>(Hk (df (OL (K:=K) rfl hu) (pv 0) (pv 1) (aH _)))) (fun _ _ _ _ _=>(pv 0))) ax (by rfl))) aO (aH _)) (@bq _ _ _ (@dZ _ _ _ _ pM)) gy))) (by intro _;rfl))
  (@bq _ _ _ (@dZ _ _ _ _ (A1 (Bm hu) (pv 4) (pY (own:=["_law_row"]) (fr:=["_law_floor_here"]) (js:=[1]) rfl ⟨⟨rfl,by w_fin,by w_fin,by dsimp only [eV,aS,Cx.lU,Cx.wish,PyProof.Rows.envOfC,compEnvC,relabel,Env.kindOf];decide +kernel,by w_fin⟩,rfl⟩ (om (pv 3)) (fun _ _ _ _ _=>(de (i:=0) (show ((["_law_row"]:List Str) ++ (["_law_floor_here"]:List Str)).Nodup by w_fin) rfl (by w_up))) (fun _ _ _ _ _=>o5) (fun _ _ _ _ _=>(b9 bp a8 hr (by decide) rfl (@aj _ _ _ _ _ (b9 eG dI hr (by decide) rfl (@aj _ _ _ _ _ (pv 1) (@aj _ _ _ _ _ (@bJ _ _ _ _ _ _ _ (qM (K:=K) rfl) (pv 0) aO (fun _ _=>rfl)) ax (by rfl)) (by rfl))) ax (by rfl))))) (aH _))))))),?_⟩
 exact iF (b:=F9) (a6 (bN (nW (oy (ai 3)) (aV 0) o9 (b8 (F:=lJ) (ao (aG dG (ai 0) (aP _)) ay) lB)) (aV 4))
  (a6 (fF (c7 (aG zF (b6 iE (ao (ai 3) ay)) (ai 2))) (d3 (p9 _)) gA)
  (a6 (lI (oz (ao (aP _) ay)) (aV 5) (a6 (bN (b8 (F:=lJ) (ao (b8 (F:=sU) (ao (ai 1) (ao (b8 (F:=vC) (ao (ai 0) (ao (aP _) (ao (aP _) ay))) vA) ay)) dM) ay) lB) (aV 6))
  (fF (c7 (aG zF (b6 iE (ao (nW (Cb (ai 4)) (aV 0) (c7 (aG (qA false) (ai 0) (ai 1))) (ai 0)) ay)) (aP _))) (d3 (p9 _)) gA)))
  (d3 (aG (qA false) (ai 4) (nW (oy (ai 3)) (aV 0) o9 (b8 (F:=lJ) (ao (b8 (F:=sU) (ao (ai 1) (ao (aG dG (ai 0) (aP _)) ay)) dM) ay) lB))))))) rfl h
def Gb:au->Dm Fl :=
 (az (aK (aM yH (ae (ag 0) (ae (fC (.int 1)) ah))) (hName 1))
 (az (aK (aM sS (ae (ag 1) (ae (aD gg (fC (.int 1)) (aM fV (ae (ag 1) (ae (fC (.int 5)) ah)))) ah))) (hName 2))
 (az (aK (aM yK (ae (ag 2) (ae (fC (.int 12)) ah))) (hName 3))
 (az (dJ (aA (aD (rZ false) (ag 3) (fC .non))) (az (aK (aM sS (ae (ag 1) (ae (aD gg (fC (.int 1)) (aM fV (ae (ag 1) (ae (fC (.int 3)) ah)))) ah))) (hName 2))
 (aK (aM yK (ae (ag 2) (ae (fC (.int 12)) ah))) (hName 3))) aQ)
 (az (aK (aM (fun as=>Ag (as ++ [.int 60])) (ae (ag 2) ah)) (hName 4))
 (az (c9 (nV (ae (fC (.int 2)) (ae (aM nD (ae (fC (.int 6)) (ae (aM qb (ae (fC (.int 12)) (ae (aM cc (ae (ag 0) ah)) ah))) ah))) ah))) (hName 5) (az (aK (aM yH (ae (ag 0) (ae (ag 5) ah))) (hName 1))
 (az (aK (aD bG (cM (ae (ag 4) (ae (aM DC (ae (ag 1) (ae (ag 4) ah))) ah))) (aM fV (ae (ag 1) (ae (fC (.int 2)) ah)))) (hName 6))
 (az (c9 (ck (ae (aM fV (ae (ag 1) (ae (fC (.int 4)) ah))) ah)) (hName 7) (aK (aM Dy (ae (ag 1) (ae (ag 2) (ae (ag 6) ah)))) (hName 6)))
 (az (aK (aM Ah (ae (ag 2) (ae (ag 6) ah))) (hName 8))
 (az (dJ (qy (oP (aA (aM pF (ae (ag 8) (ae (fC (.ty "bool")) ah))))) (aA (aD (iO true) (ag 8) (aM Ak (ae (ag 2) (ae (ag 6) ah)))))) (bj (fC (.bl false))) aQ)
 (dJ (oQ (aA (ag 8)) (oP (aA (aM Am (ae (ag 1) (ae (ag 2) (ae (aM cc (ae (ag 3) ah)) (ae (ag 6) ah)))))))) (bj (fC (.bl false))) aQ)))))))
 (bj (fC (.bl true)))))))))
def Jj:List D->Dm D:=gI 9 Gb
def Gd:Stmt:=top 52
theorem qE:aL ["_law_script","_law_feed_here","_law_floor_here","_law_chart_here","_law_told","_law_k","_law_some","_law_turn","_law_found"] ["_law_script"] (av Gd):=⟨rfl,rfl,rfl,by w_fin,rfl,by w_fin,by w_fin⟩
theorem yQ {f:Addr} {fd:FuncData} (D:Def K mg "law" Gd ["_law_script"] f fd) (T:Txt mg)  {ji:Addr} {jk:FuncData} (gq:Def K mg "_law_feed" CO ["_law_script","_law_k"] ji jk) (jl:aI P w K mg base bH 1 ji jk ["_law_script","_law_k"] (bM K 2 yH)) {cQ:Addr} {cR:FuncData} (cE:Def K mg "_law_floor" zV ["_law_feed_here","_law_n"] cQ cR) (cS:aI P w K mg base bH 3 cQ cR ["_law_feed_here","_law_n"] (bM K 2 sS)) {gW:Addr} {gX:FuncData} (eX:Def K mg "_law_chart" CZ ["_law_floor_here","_law_most"] gW gX) (gY:aI P w K mg base bH 3 gW gX ["_law_floor_here","_law_most"] (bM K 2 yK)) {kl:Addr} {km:FuncData} (fW:rK K mg "chart_of" Dt ["floor","most"] [V.int 60] kl km) (lL:aI P w K mg base bH 8 kl km ["floor","most"] (bM K 2 Ag)) {fP:Addr} {fQ:FuncData} (fR:Def K mg "chart_holds" Dx ["floor","chart"] fP fQ) (jm:aI P w K mg base bH 8 fP fQ ["floor","chart"] (bM K 2 Ah)) {aT:Addr} {aU:FuncData} (aC:Def K mg "_law_take" sR ["_law_feed_here","_law_many"] aT aU) (aE:aI P w K mg base bH 1 aT aU ["_law_feed_here","_law_many"] (bM K 2 fV)) {dk:Addr} {dr:FuncData} (du:Def K mg "_law_otherwise" Dz ["_law_feed_here","_law_floor_here","_law_chart_here"] dk dr) (fj:aI P w K mg base bH 4 dk dr ["_law_feed_here","_law_floor_here","_law_chart_here"] (bM K 3 Dy)) {cF:Addr} {cG:FuncData} (cH:Def K mg "_law_turned_about" DE ["_law_feed_here","_law_chart_here"] cF cG) (dE:aI P w K mg base bH 3 cF cG ["_law_feed_here","_law_chart_here"] (bM K 2 DC)) {gZ:Addr} {g5:FuncData} (g7:Def K mg "_law_shown" DF ["_law_floor_here","_law_chart_here"] gZ g5) (jP:aI P w K mg base bH 4 gZ g5 ["_law_floor_here","_law_chart_here"] (bM K 2 Ak)) {g8:Addr} {g9:FuncData} (hJ:Def K mg "_law_whole" DG ["_law_feed_here","_law_floor_here","_law_many","_law_chart_here"] g8 g9) (jQ:aI P w K mg base bH 4 g8 g9 ["_law_feed_here","_law_floor_here","_law_many","_law_chart_here"] (bM K 4 Am)):aI P w K mg base bH 9 f fd ["_law_script"] (bM K 1 Jj):=by
 refine D.F.ok qE (fun _ _ _ _ h=>h.1) (fun c A o s H v Q E hr h=>?_)
 refine ⟨_,(@aZ _ _ _ _ _ (@cn (i:=1) _ _ _ _ _ _ qE.nd rfl (by w_up) (b9 jl gq hr (by decide) rfl (@aj _ _ _ _ _ (pv 0) (@aj _ _ _ _ _ aO ax (by rfl)) (by rfl))) (by rfl) (by w_up))
  (@aZ _ _ _ _ _ (@cn (i:=2) _ _ _ _ _ _ qE.nd rfl (by w_up) (b9 cS cE hr (by decide) rfl (@aj _ _ _ _ _ (pv 1) (@aj _ _ _ _ _ (cX mT aO (b9 aE aC hr (by decide) rfl (@aj _ _ _ _ _ (pv 1) (@aj _ _ _ _ _ aO ax (by rfl)) (by rfl)))) ax (by rfl)) (by rfl))) (by rfl) (by w_up))
  (@aZ _ _ _ _ _ (@cn (i:=3) _ _ _ _ _ _ qE.nd rfl (by w_up) (b9 gY eX hr (by decide) rfl (@aj _ _ _ _ _ (pv 2) (@aj _ _ _ _ _ aO ax (by rfl)) (by rfl))) (by rfl) (by w_up))
  (@aZ _ _ _ _ _ (@fz _ _ _ _ _ _ _ _ (df Rx (pv 3) JV (aH _)) (@aZ _ _ _ _ _ (@cn (i:=2) _ _ _ _ _ _ qE.nd rfl (by w_up) (b9 cS cE hr (by decide) rfl (@aj _ _ _ _ _ (pv 1) (@aj _ _ _ _ _ (cX mT aO (b9 aE aC hr (by decide) rfl (@aj _ _ _ _ _ (pv 1) (@aj _ _ _ _ _ aO ax (by rfl)) (by rfl)))) ax (by rfl)) (by rfl))) (by rfl) (by w_up))
  (@bq _ _ _ (@cn (i:=3) _ _ _ _ _ _ qE.nd rfl (by w_up) (b9 gY eX hr (by decide) rfl (@aj _ _ _ _ _ (pv 2) (@aj _ _ _ _ _ aO ax (by rfl)) (by rfl))) (by rfl) (by w_up)))) gy)
  (@aZ _ _ _ _ _ (@cn (i:=4) _ _ _ _ _ _ qE.nd rfl (by w_up) (Pb lL (hr.mono (by decide)) rfl fW.m fW.F.kp fW.bd uP (@aj _ _ _ _ _ (pv 2) ax (by rfl))) (by rfl) (by w_up))
  (@aZ _ _ _ _ _ (@lD _ _ _ _ _ _ _ _ PassesOwn.never rfl (NK rfl T.aY (@aj _ _ _ _ _ aO (@aj _ _ _ _ _ (fT (GV rfl) (by rfl) T.se Hd (@aj _ _ _ _ _ aO (@aj _ _ _ _ _ (fT (NP rfl) (by rfl) T.sf He (@aj _ _ _ _ _ aO (@aj _ _ _ _ _ (fT iz (by rfl) T.bw iA (@aj _ _ _ _ _ (pv 0) ax (by rfl))) ax (by rfl)) (by rfl))) ax (by rfl)) (by rfl))) ax (by rfl)) (by rfl))) (de (i:=5) qE.nd rfl (by w_up)) (@aZ _ _ _ _ _ (@cn (i:=1) _ _ _ _ _ _ qE.nd rfl (by w_up) (b9 jl gq hr (by decide) rfl (@aj _ _ _ _ _ (pv 0) (@aj _ _ _ _ _ (pv 5) ax (by rfl)) (by rfl))) (by rfl) (by w_up))
  (@aZ _ _ _ _ _ (@cn (i:=6) _ _ _ _ _ _ qE.nd rfl (by w_up) (@bJ _ _ _ _ _ _ _ iL (@kn _ _ _ _ (@aj _ _ _ _ _ (pv 4) (@aj _ _ _ _ _ (b9 dE cH hr (by decide) rfl (@aj _ _ _ _ _ (pv 1) (@aj _ _ _ _ _ (pv 4) ax (by rfl)) (by rfl))) ax (by rfl)) (by rfl))) (b9 aE aC hr (by decide) rfl (@aj _ _ _ _ _ (pv 1) (@aj _ _ _ _ _ aO ax (by rfl)) (by rfl))) (fun _ _=>rfl)) (by rfl) (by w_up))
  (@aZ _ _ _ _ _ (@lD _ _ _ _ _ _ _ _ PassesOwn.never rfl (oo rfl T.aY (@aj _ _ _ _ _ (b9 aE aC hr (by decide) rfl (@aj _ _ _ _ _ (pv 1) (@aj _ _ _ _ _ aO ax (by rfl)) (by rfl))) ax (by rfl))) (de (i:=7) qE.nd rfl (by w_up)) (@bq _ _ _ (@cn (i:=6) _ _ _ _ _ _ qE.nd rfl (by w_up) (b9 fj du hr (by decide) rfl (@aj _ _ _ _ _ (pv 1) (@aj _ _ _ _ _ (pv 2) (@aj _ _ _ _ _ (pv 6) ax (by rfl)) (by rfl)) (by rfl))) (by rfl) (by w_up))) (by intro _;rfl))
  (@aZ _ _ _ _ _ (@cn (i:=8) _ _ _ _ _ _ qE.nd rfl (by w_up) (b9 jm fR hr (by decide) rfl (@aj _ _ _ _ _ (pv 2) (@aj _ _ _ _ _ (pv 6) ax (by rfl)) (by rfl))) (by rfl) (by w_up))
  (@aZ _ _ _ _ _ (@fz _ _ _ _ _ _ _ _ (PW.pt (vU (GN (D7 (fT RB (by rfl) T.n6 Ov (@aj _ _ _ _ _ (pv 8) (@aj _ _ _ _ _ (NF (v:=.ty "bool") rfl T.yG Ou rfl) ax (by rfl)) (by rfl))))) (zk (df zo (pv 8) (b9 jP g7 hr (by decide) rfl (@aj _ _ _ _ _ (pv 2) (@aj _ _ _ _ _ (pv 6) ax (by rfl)) (by rfl))) (aH _))))) (@bq _ _ _ (@dZ _ _ _ _ pM)) gy)
  (@bq _ _ _ (@fz _ _ _ _ _ _ _ _ (PW.pt (Ea (D7 (pv 8)) (D9 (GN (D7 (b9 jQ hJ hr (by decide) rfl (@aj _ _ _ _ _ (pv 1) (@aj _ _ _ _ _ (pv 2) (@aj _ _ _ _ _ (fT iz (by rfl) T.bw iA (@aj _ _ _ _ _ (pv 3) ax (by rfl))) (@aj _ _ _ _ _ (pv 6) ax (by rfl)) (by rfl)) (by rfl)) (by rfl)))))))) (@bq _ _ _ (@dZ _ _ _ _ pM)) gy))))))) (by intro _;rfl))
  (@bq _ _ _ (@dZ _ _ _ _ pM)))))))),?_⟩
 exact iF (b:=Gb) (a6 (bN (b8 (F:=yH) (ao (ai 0) (ao (aP _) ay)) dM) (aV 1))
  (a6 (bN (b8 (F:=sS) (ao (ai 1) (ao (aG mX (aP _) (b8 (F:=fV) (ao (ai 1) (ao (aP _) ay)) dM)) ay)) dM) (aV 2))
  (a6 (bN (b8 (F:=yK) (ao (ai 2) (ao (aP _) ay)) dM) (aV 3))
  (a6 (fF (c7 (aG (yp false) (ai 3) LL)) (a6 (bN (b8 (F:=sS) (ao (ai 1) (ao (aG mX (aP _) (b8 (F:=fV) (ao (ai 1) (ao (aP _) ay)) dM)) ay)) dM) (aV 2))
  (bN (b8 (F:=yK) (ao (ai 2) (ao (aP _) ay)) dM) (aV 3))) gA)
  (a6 (bN (RW (m:=1) (F:=Ag) (Fc:=[.int 60]) (ao (ai 2) ay) lB rfl (fun _ _=>.cons (.int _) (.nil))) (aV 4))
  (a6 (lI (Qp (ao (aP _) (ao (b6 Im (ao (aP _) (ao (b6 Qj (ao (aP _) (ao (b6 iE (ao (ai 0) ay)) ay))) ay))) ay))) (aV 5) (a6 (bN (b8 (F:=yH) (ao (ai 0) (ao (ai 5) ay)) dM) (aV 1))
  (a6 (bN (aG fD (kq (ao (ai 4) (ao (b8 (F:=DC) (ao (ai 1) (ao (ai 4) ay)) dM) ay))) (b8 (F:=fV) (ao (ai 1) (ao (aP _) ay)) dM)) (aV 6))
  (a6 (lI (oz (ao (b8 (F:=fV) (ao (ai 1) (ao (aP _) ay)) dM) ay)) (aV 7) (bN (b8 (F:=Dy) (ao (ai 1) (ao (ai 2) (ao (ai 6) ay))) vA) (aV 6)))
  (a6 (bN (b8 (F:=Ah) (ao (ai 2) (ao (ai 6) ay)) dM) (aV 8))
  (a6 (fF (xl (Ii (B3 (b6 yw (ao (ai 8) (ao (B1 _) ay))))) (c7 (aG zF (ai 8) (b8 (F:=Ak) (ao (ai 2) (ao (ai 6) ay)) dM)))) (d3 (p9 _)) gA)
  (fF (ER (B3 (ai 8)) (Ii (B3 (b8 (F:=Am) (ao (ai 1) (ao (ai 2) (ao (b6 iE (ao (ai 3) ay)) (ao (ai 6) ay)))) Jf)))) (d3 (p9 _)) gA)))))))
  (d3 (p9 _)))))))) rfl h
end
theorem nF {st:Store} {f:Nat} {n:Int} (hf:aW st f) (h0:0 < n) (h1:n < 1073741824):Wp (fV [.ref f,.int n] st) fun d st'=>∃ k:Int,d=.int k/\0<=k/\k < n/\aW st' f/\Ex [f] st st':=by
 obtain ⟨o,m,e,o0,m0,m1⟩:=hf
 have hfl:=dH e
 refine iy ?_
 show Ws (Ff [some (.ref f),some (.int n),none,none] st) _ _ _ _
 unfold Ff
 refine aX (gJ ?_)
 set_option simprocs false in simp only [bC,bu e,jy e]
 refine ⟨fun ho=>?_,fun ho=>?_⟩
 ·refine aX (cb ?_)
  set_option simprocs false in simp only [bC,bu e]
  refine ⟨h0,aX (oA ?_)⟩
  set_option simprocs false in simp only [bC,bu e,jy e,(show lW [D.int o,D.int m].length 0=some 0 from CD)]
  refine ⟨⟨h0,h1⟩,dQ ?_⟩
  w_how
  refine ⟨Wc _ (by omega),Wk _ h0,⟨o / n,m,?_,Int.ediv_nonneg o0 (by omega),m0,m1⟩,Ex.refl.put (by simp)⟩
  rw [Vi hfl]
 ·refine iG (aX (cb ?_))
  set_option simprocs false in simp only [bC,bu e]
  refine ⟨by omega,by omega,aX (oA ?_)⟩
  set_option simprocs false in simp only [bC,bu e,jy e,(show lW [D.int o,D.int m].length 1=some 1 from CF)]
  refine ⟨by omega,by omega,dQ ?_⟩
  have e2:(st.set f (.lst [.int o,.int ((m * 48271 % 2147483647 * 40692 + 30103) % 2147483399 + 1)]))[f]?=some (.lst [.int o,.int ((m * 48271 % 2147483647 * 40692 + 30103) % 2147483399 + 1)]):=Vi hfl
  set_option simprocs false in simp only [bC,bu e2]
  refine ⟨by omega,by omega,h0,Wc _ (by omega),Wk _ h0,⟨_,_,e2,o0,by omega,by omega⟩,Ex.refl.put (by simp)⟩
theorem MO {st:Store} {a:Nat} {ns:List Int} {k:Nat} (hs:items st a=some (ns.map D.int)) (hk:k<=100):Wp (yH [.ref a,.int (k:Int)] st) fun d st'=>d=.ref st.length/\aW st' st.length/\Ex [] st st':=by
 refine iy ?_
 show Ws (Fe [some (.ref a),some (.int (k:Int)),none,none] st) _ _ _ _
 unfold Fe
 refine aX (cb ?_)
 w_how
 refine ⟨by omega,aX (sO (N:=fun δ st1=>st1=st/\∃ c:Int,δ=[some (.ref a),some (.int (k:Int)),some (.int c),none]) (gJ ?_) ?_)⟩
 ·set_option simprocs false in simp only [bC,hs]
  refine ⟨fun h=>cb ?_,fun h=>gJ ?_⟩
  ·have h:=of_decide_eq_true h
   rw [Vd] at h
   set_option simprocs false in simp only [bC,hs]
   refine ⟨.int (ns[k]'(by omega)),zq (by rw [Vm,Vg];rfl),_,rfl⟩
  ·set_option simprocs false in simp only [bC,hs]
   refine ⟨fun h=>cb ?_,fun h=>iG ⟨rfl,_,rfl⟩⟩
   have h:=of_decide_eq_true h
   obtain ⟨v,hv,hm⟩:=wM (xs:=ns.map D.int) (i:=(k:Int) % ((ns.map D.int).length:Int)) (Wc _ (by omega)) (Wk _ h)
   obtain ⟨c,_,rfl⟩:=Vn.mp hm
   set_option simprocs false in simp only [bC,hs]
   refine ⟨h,_,hv,?_⟩
   w_how
   exact ⟨by omega,by omega,by omega,_,rfl⟩
 ·rintro δ st1 ⟨rfl,c,rfl⟩
  refine aX (cb ?_)
  w_how
  refine aX (sO (N:=fun δ st2=>st2=st1/\∃ o:Int,0<=o/\δ=[some (.ref a),some (.int (k:Int)),some (.int c),some (.int o)]) (gJ ?_) ?_)
  ·w_how
   refine ⟨by decide,fun h=>cb ?_,fun h=>iG ⟨rfl,0,by decide,rfl⟩⟩
   have h:=of_decide_eq_true h
   w_how
   exact ⟨c,Int.le_trans (by decide) h,rfl⟩
  ·rintro δ st2 ⟨rfl,o,o0,rfl⟩
   refine dQ ?_
   w_how
   have h1:0<=c % 2147483629:=Wc _ (by decide)
   have h2:c % 2147483629 < 2147483629:=Wk _ (by decide)
   refine ⟨by omega,by omega,by omega,by omega,by omega,by rfl,⟨_,_,h7,o0,?_,?_⟩,Ex.cB _⟩
   ·have:=Wc ((c % 2147483629 * 48271 + 40692 * (k:Int)) ^ (5:Int).toNat) (show (2147483629:Int)≠0 by decide)
    omega
   ·have:=Wk ((c % 2147483629 * 48271 + 40692 * (k:Int)) ^ (5:Int).toNat) (show (0:Int) < 2147483629 by decide)
    omega
theorem Ge {st:Store} {f:Nat} {n:Nat} (hf:aW st f) (hn:n<=100):Wp (qS [.ref f,.int (n:Int)] st) fun d st'=>∃ xs:List Int,d=.tup (xs.map D.int)/\af.Tn n xs/\aW st' f/\Ex [f] st st':=by
 have hfl:=hf.lt
 refine iy ?_
 show Ws (Fg [some (.ref f),some (.int (n:Int)),none,none] st) _ _ _ _
 unfold Fg
 refine aX (cb ?_)
 w_how
 have e1:((n:Int) - 0).toNat=n:=by omega
 rw [e1,pC]
 refine ⟨by unfold m8;rw [VE,decide_eq_true_eq];exact ⟨by omega,jz (by omega)⟩,aX (cb ?_)⟩
 w_how
 refine ⟨rfl,aX (zL (fun m δ st2=>∃ L xs:List Int,m=L.length/\δ=[some (.ref f),some (.int (n:Int)),some (.ref (st ++ [O.jC 0 (n:Int)]).length),some (.tup (xs.map D.int))]/\st2[(st ++ [O.jC 0 (n:Int)]).length]?=some (.lst (L.map D.int))/\(xs ++ L).Perm (af.upto n)/\aW st2 f/\Ex [f] st st2) n (V7 hn (by decide)) ⟨af.upto n,[],(af.oM n).symm,rfl,h7,WO _,hf.keep ((Ex.cB _).app _),(Ex.cB _).app _⟩ ?_)⟩
 have hl:(st ++ [O.jC 0 (n:Int)]).length≠f:=by rw [Vj];omega
 have hls:st.length<=(st ++ [O.jC 0 (n:Int)]).length:=by rw [Vj];omega
 generalize (st ++ [O.jC 0 (n:Int)]).length=l at hl hls ⊢
 rintro m δ st2 ⟨L,xs,rfl,rfl,hL,pm,hf2,k2⟩
 have hlen:(xs ++ L).length=n:=by rw [pm.length_eq,af.oM]
 rw [Vj] at hlen
 refine cj ?_
 intro dN hQ
 set_option simprocs false in simp only [bC,Mc (L:=L) (M:=[]) (st:=st2 ++ [O.lst []]) (bu (hW hL)) qe]
 refine ⟨rfl,hQ _ _ ⟨fun h=>?_,fun h=>?_⟩⟩
 ·have hne:L≠[]:=by simpa using h
  have hpos:0 < L.length:=List.length_pos_iff.mpr hne
  have Gf:(st2 ++ [O.lst []])[l]?=some (.lst (L.map D.int)):=hW hL
  have f3:aW (st2 ++ [O.lst []]) f:=hf2.keep (Ex.cB _)
  have k3:Ex [f] st (st2 ++ [O.lst []]):=k2.app _
  generalize (st2 ++ [O.lst []])=st3 at Gf f3 k3 ⊢
  refine cb ?_
  refine cj ?_
  intro dN hQ
  set_option simprocs false in simp only [bC,bu Gf]
  refine ⟨lx (by rw [bu Gf];rfl),?_⟩
  refine a7 (nF (n:=((L.map D.int).length:Int)) f3 (by rw [Vd];omega) (by rw [Vd];omega)) ?_
  rintro d mG ⟨k,rfl,k0,k1,f4,k4⟩
  rw [Vd] at k1
  have MP:=k4.keep _ _ Gf (by simpa using hl)
  have mU:k.toNat < L.length:=by omega
  set_option simprocs false in simp only [bC,jy MP]
  have hk':((k.toNat:Nat):Int)=k:=VH k0
  refine ⟨by omega,k.toNat,?_,D.int L[k.toNat],by rw [Vm,Vg mU];rfl,rfl,jz ?_,hQ _ _ ⟨(L.eraseIdx k.toNat).length,?_,L.eraseIdx k.toNat,xs ++ [L[k.toNat]],rfl,?_,?_,?_,?_,?_⟩⟩
  ·rw [<- hk',Vr]
   exact (G2 (wL (by rw [Vd];exact mU))).1
  ·simp only [Vd,VJ,List.length_nil];omega
  ·rw [List.length_eraseIdx,if_pos mU];omega
  ·rw [Vx];rfl
  ·rw [Vi (dH MP),Ri]
  ·refine List.Perm.trans ?_ pm
   rw [WI]
   exact List.Perm.append_left xs (Rj mU)
  ·exact f4.ne hl
  ·exact (k3.trans k4).loc hls
 ·have he:L=[]:=by simpa using h
  subst he
  refine dQ ?_
  kspl_open hQ
  exact hQ _ _ ⟨xs,rfl,by simpa [af.Tn] using pm,hf2.keep (Ex.cB _),k2.app _⟩
theorem S4 {st:Store} {xs ys:List Int} {n:Nat} (tx:af.Tn n xs) (ty:af.Tn n ys) (n0:0 < n) (hn:n<=100):Wp (ug [cq xs ys] st) fun d st'=>∃ (g:Nat) (F:List Int),d=.ref g/\items st' g=some (F.map D.int)/\(∀ x,x∈F↔af.jD xs ys x)/\F.length<=n/\af.Od xs ys F/\Ex [] st st':=by
 have hlx:=tx.length
 have An:=ty.length
 refine iy ?_
 show Ws (Fi [some (cq xs ys),none,none,none,none] st) _ _ _ _
 unfold Fi
 refine aX (cb ?_)
 kspl_open hQ
 refine ⟨rfl,hQ _ _ (aX (lZ (aJ 0 (n + 1)) (fun i δ st2=>∃ (v2 v3 v4:Option D) (F:List Int),δ=[some (cq xs ys),some (.ref st.length),v2,v3,v4]/\st2[st.length]?=some (.lst (F.map D.int))/\af.Fo xs ys F/\(af.Cl xs ys F\/i + 1<=F.length)/\Ex [] st st2) ?_ ?_ ?_ ?_))⟩
 ·unfold cq
  kspl_open hQ
  have e0:((1:Int) + ((xs.map D.int).length:Int)).toNat=n + 1:=by rw [Vd];omega
  refine ⟨by rw [Vd];omega,hQ _ _ ⟨by rw [e0],none,none,none,[0],rfl,h7,af.Fo.one xs ys,.inr (Vh _),Ex.cB _⟩⟩
 ·rw [gH];omega
 ·rintro i d δ st2 hd ⟨v2,v3,v4,F,rfl,Jk,hF,hcl,k2⟩
  kspl_open hQ
  refine hQ _ _ (lZ [.tup (xs.map D.int),.tup (ys.map D.int)] (fun m δ st3=>∃ (v3 v4:Option D) (G:List Int),δ=[some (cq xs ys),some (.ref st.length),some d,v3,v4]/\st3[st.length]?=some (.lst (G.map D.int))/\af.Fo xs ys G /\
    (m=0->G=F)/\(m=1->F <+: G/\∀ x∈F,af.app xs x∈G)/\(2<=m->∃ F1,F <+: F1/\F1 <+: G/\(∀ x∈F,af.app xs x∈F1)/\∀ x∈F1,af.app ys x∈G)/\Ex [] st st3) ?_ (by simp) ?_ ?_)
  ·unfold cq
   kspl_open hQ
   exact hQ _ _ ⟨rfl,v3,v4,F,rfl,Jk,hF,fun _=>rfl,fun z=>by omega,fun z=>by omega,k2⟩
  ·rintro m z δ st3 hm ⟨v3,v4,G,rfl,DH,hG,m0,m1,_,k3⟩
   have hm2:m < 2:=dH hm
   obtain ⟨zs,rfl,hz,em⟩:∃ (zs:List Int),z=.tup (zs.map D.int)/\(zs=xs\/zs=ys)/\((m=0/\zs=xs)\/(m=1/\zs=ys)):=by
    rcases (show m=0\/m=1 by omega) with rfl | rfl
    ·exact ⟨xs,by simpa using hm.symm,.inl rfl,.inl ⟨rfl,rfl⟩⟩
    ·exact ⟨ys,by simpa using hm.symm,.inr rfl,.inr ⟨rfl,rfl⟩⟩
   have tz:af.Tn n zs:=by rcases hz with rfl | rfl;exact tx;exact ty
   have Jl:=tz.length
   have go:∀ x,af.jD xs ys x->af.jD xs ys (af.app zs x):=fun x h=>by rcases hz with rfl | rfl;exact h.r;exact h.u
   kspl_open hQ
   refine hQ _ _ (Iv (G.map D.int) st3.length (fun j δ mG=>∃ (v4:Option D) (G':List Int),δ=[some (cq xs ys),some (.ref st.length),some d,some (.tup (zs.map D.int)),v4]/\mG[st.length]?=some (.lst (G'.map D.int))/\mG[st3.length]?=some (.lst (G.map D.int))/\af.Fo xs ys G'/\G <+: G'/\(∀ i',i' < j->∀ x,G[i']?=some x->af.app zs x∈G')/\Ex [] st mG) ?_ ?_ ?_ ?_ ?_)
   ·refine cj ?_
    intro dN hQ
    set_option simprocs false in simp only [bC,bu DH]
    exact hQ _ _ ⟨rfl,v4,G,rfl,hW DH,h7,hG,WW _,fun i' h=>absurd h (VY _),k3.app _⟩
   ·rw [Vd]
    have:=hG.len tx ty n0
    omega
   ·rintro j δ mG ⟨_,_,_,_,h,_⟩
    exact bu h
   ·rintro j UK δ mG hj0 ⟨v4,G',rfl,yR,qT,yS,pG,hd',k4⟩
    obtain ⟨y,hj,rfl⟩:=CG hj0
    have hjl:=dH hj
    have hR:=hG.mt _ (Vk hj)
    obtain ⟨y0,y1⟩:=hR.bound tx ty n0
    have at':=pD (xs:=zs) y0 (by rw [Jl];exact y1)
    have hnext:∀ Gg:List Int,G' <+: Gg->af.app zs y∈Gg->∀ i',i' < j + 1->∀ x,G[i']?=some x->af.app zs x∈Gg:=fun Gg p h i' hi' x hx=>by
     by_cases e:i'=j
     ·subst e
      rw [hj] at hx
      cases hx;exact h
     ·exact p.subset (hd' i' (by omega) x hx)
    kspl_open hQ
    refine hQ _ _ (gJ ?_)
    refine cj ?_
    intro fS b7
    set_option simprocs false in simp only [bC,at',E5 (st:=mG) (c:=.ref st.length) (ns:=G') (bu yR)]
    refine b7 _ _ ⟨fun hcn=>?_,fun hcn=>?_⟩
    ·have hnm:af.app zs y ∉ G':=fun z=>by rw [V3.mpr z] at hcn;cases hcn
     have MQ:af.Fo xs ys (G' ++ [af.app zs y]):=by
      refine ⟨⟨Wv _ yS.z,?_,fun x hx=>?_⟩,yS.od.snoc (pG.subset (Vk hj)) (hz.imp (fun e=>by rw [e]) fun e=>by rw [e])⟩
      ·rw [W6]
       refine ⟨yS.nd,by simp,fun x hx y' hy e=>hnm ?_⟩
       have e2:y'=af.app zs y:=by simpa using hy
       rw [<- e2,<- e];exact hx
      ·rcases VG.mp hx with h | h
       ·exact yS.mt x h
       ·have e2:x=af.app zs y:=by simpa using h
        rw [e2];exact go _ hR
     have hlen2:=MQ.len tx ty n0
     rw [Vj] at hlen2
     refine nc ?_
     refine cj ?_
     intro yT pJ
     set_option simprocs false in simp only [bC,at',jy yR]
     refine ⟨lx (by rw [bu yR];rfl),jz (by rw [Vd];simp at hlen2;omega),pJ _ _ ⟨_,G' ++ [af.app zs y],rfl,?_,?_,MQ,pG.trans (Xk _ _),hnext _ (Xk _ _) (by simp),k4.loc (Vh _)⟩⟩
     ·rw [Vi (dH yR),Vx];rfl
     ·rw [Vq (by have:=dH DH;omega)];exact qT
    ·have hcn:G'.contains (af.app zs y)=true:=by simpa using hcn
     exact iG ⟨_,G',rfl,yR,qT,yS,pG,hnext G' (WW _) (V3.mp hcn),k4⟩
   ·rintro δ mG ⟨v4,G',rfl,yR,qT,yS,pG,hd',k4⟩
    rw [Vd] at hd'
    have hall:∀ x∈G,af.app zs x∈G':=fun x hx=>by
     obtain ⟨i',hi',e⟩:=Wo hx
     exact hd' i' hi' x (by rw [Vg hi',e])
    refine ⟨_,_,G',rfl,yR,yS,fun z=>by omega,fun z=>?_,fun z=>?_,k4⟩
    ·rcases em with ⟨rfl,rfl⟩ | ⟨rfl,_⟩
     ·have:=m0 rfl
      subst this
      exact ⟨pG,hall⟩
     ·omega
    ·rcases em with ⟨rfl,_⟩ | ⟨rfl,rfl⟩
     ·omega
     ·obtain ⟨p1,c1⟩:=m1 rfl
      exact ⟨G,p1,pG,c1,hall⟩
  ·rintro δ st3 ⟨v3,v4,G,rfl,DH,hG,_,_,m2,k3⟩
   obtain ⟨F1,p1,p2,c1,c2⟩:=m2 (Vh 2)
   exact ⟨_,_,_,G,rfl,DH,hG,af.round hF.toFd hG.toFd p1 p2 c1 c2 hcl,k3⟩
 ·rintro δ st2 ⟨v2,v3,v4,F,rfl,Jk,hF,hcl,k2⟩
  rw [gH] at hcl
  have hl:=hF.len tx ty n0
  have hc:af.Cl xs ys F:=hcl.resolve_right (by omega)
  refine dQ ?_
  kspl_open hQ
  exact hQ _ _ ⟨_,F,rfl,bu Jk,fun x=>⟨hF.mt x,fun h=>hc.all hF.z h⟩,hl,hF.od,k2⟩
theorem S5 {st:Store} {xs ys:List Int} {n:Nat} (tx:af.Tn n xs) (ty:af.Tn n ys) (n0:0 < n) (hn:n<=100):Wp (ug [cq xs ys] st) fun d st'=>∃ (g:Nat) (F:List Int),d=.ref g/\items st' g=some (F.map D.int)/\(∀ x,x∈F↔af.jD xs ys x)/\F.length<=n/\Ex [] st st' :=
 a7 (S4 tx ty n0 hn) fun d st' ⟨g,F,h1,h2,h3,h4,_,h5⟩=>⟨g,F,h1,h2,h3,h4,h5⟩
theorem MR {st:Store} {δ:au} {X Y:List Int} {n:Nat} {Q:D->Store->Prop} (tX:af.Tn n X) (tY:af.Tn n Y) (n0:0 < n) (hn:n<=100) (h1:δ[1]?=some (some (.int (n:Int)))) (h6:δ[6]?=some (some (cq X Y)))
  (q:∀ (L:List Int) (st':Store),L.length<=n->L.Nodup->(∀ x,x∈L↔(0<=x/\x < (n:Int)/\¬ af.jD X Y x))->Ex [] st st'->Q (.ref st'.length) (st' ++ [.lst (L.map D.int)])) :
  Wp (cD (ck (ae (ag 1) ah)) 1 [6] (hName 0) (aA (aD (qP true) (ag 0) (aM ug (ae (ag 1) ah)))) (ag 0) δ st) Q:=by
 have S6:δ.getD 6 none=some (cq X Y):=by rw [Vv,h6];rfl
 refine Iw (aJ 0 n) (fun j zs δ' lA=>∃ (v:Option D) (L:List Int),δ'=[v,some (cq X Y)]/\zs=L.map D.int/\L.length<=j/\L.Nodup/\(∀ x,x∈L↔(0<=x/\x < (j:Int)/\¬ af.jD X Y x))/\Ex [] st lA) ?_ (by rw [gH];omega) ?_ ?_ ?_
 ·refine cj ?_
  intro dN hQ
  set_option simprocs false in simp only [bC,h1]
  refine ⟨by omega,hQ _ _ ⟨fun i ys δ st hi _=>?_,none,[],?_,rfl,Vh _,List.nodup_nil,fun x=>⟨(fun h=>nomatch h),fun h=>by omega⟩,Ex.refl⟩⟩
  ·rw [Vr]
   show (if i<=(aJ 0 n).length then some (aJ 0 n)[i]? else none)=_
   rw [if_pos hi]
  ·unfold oV
   simp only [Vy,VT,S6]
   rfl
 ·rintro j zs δ' lA ⟨v,L,_,rfl,hl,_⟩
  rw [Vd];exact hl
 ·rintro j d zs δ' lA hd ⟨v,L,rfl,rfl,mO,nd,hL,k8⟩
  have hjl:=dH hd
  rw [gH] at hjl
  rw [xC hjl] at hd
  cases hd
  rw [WA]
  kspl_open hQ
  refine hQ _ _ ?_
  kspl_open b7
  refine a7 (S5 (st:=lA) tX tY n0 hn) ?_
  rintro d oW ⟨g,F,rfl,hg,hF,UL,k9⟩
  rw [E5 (c:=.ref g) (ns:=F) hg]
  refine ⟨_,rfl,b7 _ _ ⟨fun hc=>?_,fun hc=>?_⟩⟩
  ·have hR:¬ af.jD X Y (j:Int):=fun h=>by rw [V3.mpr ((hF _).mpr h)] at hc;cases hc
   kspl_open pJ
   refine pJ _ _ ⟨_,L ++ [(j:Int)],rfl,by rw [Vx];rfl,by rw [Vj];simp;omega,?_,fun x=>?_,k8.trans k9⟩
   ·rw [W6]
    refine ⟨nd,by simp,fun x hx y hy e=>?_⟩
    have e2:y=(j:Int):=by simpa using hy
    have:=((hL x).mp hx).2.1
    omega
   ·rw [VG,hL x]
    constructor
    ·rintro (⟨a1,a2,a3⟩ | h)
     ·exact ⟨a1,by omega,a3⟩
     ·have e2:x=(j:Int):=by simpa using h
      rw [e2];exact ⟨by omega,by omega,hR⟩
    ·rintro ⟨a1,a2,a3⟩
     rcases Int.lt_or_le x (j:Int) with h | h
     ·exact .inl ⟨a1,h,a3⟩
     ·exact .inr (by simp;omega)
  ·have hc:F.contains (j:Int)=true:=by simpa using hc
   have hR:=(hF _).mp (V3.mp hc)
   refine ⟨_,L,rfl,rfl,by omega,nd,fun x=>?_,k8.trans k9⟩
   rw [hL x]
   constructor
   ·rintro ⟨a1,a2,a3⟩;exact ⟨a1,by omega,a3⟩
   ·rintro ⟨a1,a2,a3⟩
    refine ⟨a1,?_,a3⟩
    rcases Int.lt_or_le x (j:Int) with h | h
    ·exact h
    ·exact absurd hR (by rw [show (j:Int)=x by omega];exact a3)
 ·rintro zs δ' lA ⟨v,L,rfl,rfl,mO,nd,hL,k8⟩
  rw [gH] at mO hL
  exact q L lA mO nd hL k8
theorem Jm {st:Store} {f n:Nat} (hf:aW st f) (n1:1<=n) (MS:n<=20):Wp (sS [.ref f,.int (n:Int)] st) fun d st'=>∃ xs ys:List Int,d=cq xs ys/\ng n xs ys/\aW st' f/\Ex [f] st st':=by
 have hfl:=hf.lt
 refine iy ?_
 show Ws (Fj [some (.ref f),some (.int (n:Int)),none,none,none,none,none,none,none] st) _ _ _ _
 unfold Fj
 refine aX (cb ?_)
 kspl_open hQ
 refine a7 (nF (n:=6) hf (by decide) (by decide)) ?_
 rintro d st1 ⟨form,rfl,g0,g6,f1,k1⟩
 refine hQ _ _ (aX (L0 ?_))
 clear hQ
 kspl_open hQ
 refine a7 (Ge (n:=n) f1 (by omega)) ?_
 rintro d st2 ⟨X,rfl,tX,f2,k2⟩
 w_how
 refine a7 (Ge (n:=n) (f2.keep (Ex.cB [.lst (X.map D.int)])) (by omega)) ?_
 rintro d st3 ⟨Y,rfl,tY,f3,k3⟩
 w_how
 refine hQ _ _ ⟨_,_,rfl,?_⟩
 clear hQ
 have oZ:st3[st2.length]?=some (.lst (X.map D.int)):=k3.keep _ _ h7 (by have:=f2.lt;simp;omega)
 have two:nY st (st3 ++ [.lst (Y.map D.int)]) f st2.length st3.length n X Y:=⟨hW oZ,h7,by have:=dH oZ;omega,(k1.trans k2).len,((k1.trans k2).trans ((Ex.cB _).trans k3)).len,tX,tY,f3.keep (Ex.cB _),(((k1.trans k2).app _).trans k3).app _⟩
 show Ws _ _ _ _ _
 generalize (st3 ++ [O.lst (Y.map D.int)])=mG at two ⊢
 generalize st2.length=r at two ⊢
 generalize st3.length=u at two ⊢
 clear oZ tX tY f3 k3 f2 k2 f1 k1
 refine aX (sO (N:=fun δ ku=>∃ (r u:Nat) (X Y:List Int),δ=[some (.ref f),some (.int (n:Int)),some (.int form),some (.ref r),some (.ref u),none,none,none,none]/\nY st ku f r u n X Y) (gJ ?_) ?_)
 ·kspl_open hQ
  refine hQ _ _ ⟨fun _=>cb ?_,fun _=>iG ⟨r,u,X,Y,rfl,two⟩⟩
  kspl_open b7
  rw [<- Md]
  refine ⟨ua (by omega),rfl,jz (by rw [gH];simp;omega),b7 _ _ ⟨_,u,_,Y,rfl,(two.keep (((Ex.cB _).app _).app _)).yk (af.Lh (show n < 21 by omega) (by omega))⟩⟩
 rintro δ ku ⟨r,u,X,Y,rfl,two⟩
 refine aX (sO (N:=fun δ ku=>∃ (r u:Nat) (X Y:List Int),δ=[some (.ref f),some (.int (n:Int)),some (.int form),some (.ref r),some (.ref u),none,none,none,none]/\nY st ku f r u n X Y) (gJ ?_) ?_)
 ·kspl_open hQ
  refine hQ _ _ ⟨fun _=>L0 ?_,fun _=>iG ⟨r,u,X,Y,rfl,two⟩⟩
  kspl_open b7
  rw [<- Md,show ((n:Int) - 0).toNat=n by omega,pC]
  refine ⟨ua (by omega),ua (by omega),rfl,jz (by rw [gH];simp;omega),b7 _ _ ⟨_,_,rfl,_,_,_,_,rfl,(((two.keep (Ex.cB [.jC 0 (n:Int)])).yk (Z:=af.upto n) (WO _)).keep (((Ex.cB _).app _).app _)).yl (af.Lh (show n < 21 by omega) (by omega))⟩⟩
 rintro δ Iq ⟨r,u,X,Y,rfl,two⟩
 refine aX (sO (N:=fun δ ku=>∃ (r u:Nat) (v5:Option D) (X Y:List Int),δ=[some (.ref f),some (.int (n:Int)),some (.int form),some (.ref r),some (.ref u),v5,none,none,none]/\nY st ku f r u n X Y) (gJ ?_) ?_)
 ·kspl_open hQ
  refine hQ _ _ ⟨fun _=>aX (cb ?_),fun _=>iG ⟨r,u,none,X,Y,rfl,two⟩⟩
  kspl_open b7
  refine a7 (nF (n:=(n:Int)) two.fd (by omega) (by omega)) ?_
  rintro d qu ⟨w,rfl,w0,w1,f7,k7⟩
  obtain ⟨wd,rfl⟩:∃ wd:Nat,w=(wd:Int) - 1:=⟨(w + 1).toNat,by omega⟩
  have t7:nY st qu f r u n X Y:=⟨k7.keep _ _ two.hr (by have:=two.r0;simp;omega),k7.keep _ _ two.hu (by have:=two.u0;simp;omega),two.ne,two.r0,two.u0,two.tX,two.tY,f7,two.ex.trans k7⟩
  w_how
  rw [show (1:Int) + ((wd:Int) - 1)=(wd:Int) by omega]
  refine b7 _ _ (aX (cb ?_))
  clear b7 hQ
  kspl_open b7
  rw [<- ym]
  refine ⟨ua (by omega),rfl,jz (by rw [gH];simp;omega),ua (by omega),jz (by rw [Vj,gH,gH];simp;omega),b7 _ _ (aX (cb ?_))⟩
  clear b7
  have t8:=(t7.keep ((((((Ex.cB [.jC 1 (wd:Int)]).app [.lst (aJ 1 ((wd:Int) - 1).toNat)]).app [.lst [.int 0]]).app [.lst (aJ 1 ((wd:Int) - 1).toNat ++ [.int 0])]).app [.jC (wd:Int) (n:Int)]).app [.lst (aJ (wd:Int) ((n:Int) - (wd:Int)).toNat)])).yk (af.Pu (w:=wd) (show n < 21 by omega) (by omega) (by omega))
  generalize S7:(qu ++ _ ++ _ ++ _ ++ _ ++ _ ++ _ ++ _:Store)=lA at t8 ⊢
  generalize List.length _=r8 at t8 ⊢
  kspl_open b7
  refine ⟨rfl,ua (by omega),jz (by simp [gH];omega),ua (by omega),jz (by simp [gH];omega),rfl,jz (by simp [gH];omega),b7 _ _ (gJ ?_)⟩
  clear b7
  generalize S8:(lA ++ _ ++ _ ++ _ ++ _ ++ _ ++ _ ++ _ ++ _ ++ _:Store)=Gh
  have tE:nY st Gh f r8 u n (af.rM wd n) Y:=by rw [<- S8];exact t8.keep (((((((((Ex.cB _).app _).app _).app _).app _).app _).app _).app _).app _)
  kspl_open hQ
  refine hQ _ _ ⟨fun hw=>?_,fun hw=>?_⟩
  ·refine cb ?_
   kspl_open b7
   rw [show ((n:Int) - 0).toNat=n by omega,pC]
   exact ⟨ua (by omega),b7 _ _ ⟨r8,_,_,_,_,rfl,(tE.keep ((Ex.cB _).app _)).yl (WO _)⟩⟩
  ·have hne:wd≠n:=fun z=>by simp [z] at hw
   have tF:=tE.yl (af.Pw (w:=wd) (show n < 21 by omega) (by omega) (by omega))
   rw [yn (by omega) (by omega)] at tF
   exact iG ⟨r8,_,_,_,_,rfl,tF⟩
 rintro δ qu ⟨r,u,v5,X,Y,rfl,two⟩
 have n0:0 < n:=by omega
 refine aX (cb ?_)
 refine cj ?_
 intro dN hQ
 set_option simprocs false in simp only [bC,bu two.hr,bu two.hu]
 refine ⟨rfl,hQ _ _ (aX (cb (MR (X:=X) (Y:=Y) two.tX two.tY n0 (by omega) rfl rfl ?_)))⟩
 clear hQ
 intro L lA mO nd hL k8
 have t8:=(two.keep k8).keep (Ex.cB [.lst (L.map D.int)])
 refine aX (zL (fun mm δ oW=>∃ (pa:Nat) (X L:List Int) (v8:Option D),mm=L.length/\δ=[some (.ref f),some (.int (n:Int)),some (.int form),some (.ref r),some (.ref u),v5,some (cq X Y),some (.ref pa),v8]/\nY st oW f r u n X Y/\items oW pa=some (L.map D.int)/\L.length<=n/\L.Nodup/\(∀ x,x∈L↔(0<=x/\x < (n:Int)/\¬ af.jD X Y x))) L.length (V7 mO (V7 MS (by decide))) ⟨_,X,L,none,rfl,rfl,t8,qe,mO,nd,hL⟩ ?_)
 rintro mm δ oW ⟨pa,X,L,v8,rfl,rfl,two,hpa,mO,nd,hL⟩
 have UM:=two.tX.length
 have yU:items (oW ++ [O.lst []]) pa=some (L.map D.int):=by
  unfold items at hpa ⊢
  cases e:oW[pa]? with
  | none=>rw [e] at hpa;cases hpa
  | some o=>rw [hW e];rw [e] at hpa;exact hpa
 refine cj ?_
 intro dN hQ
 set_option simprocs false in simp only [bC,Mc (L:=L) (M:=[]) (st:=oW ++ [O.lst []]) yU qe]
 refine ⟨rfl,hQ _ _ ⟨fun h=>?_,fun h=>?_⟩⟩
 ·have hne:L≠[]:=by simpa using h
  clear hQ
  obtain ⟨m,L1,rfl⟩:∃ m L1,L=m :: L1:=by cases L with | nil=>exact absurd rfl hne | cons m L1=>exact ⟨m,L1,rfl⟩
  obtain ⟨m0,m1,mR⟩:=(hL m).mp Vl
  have t2:=two.keep (Ex.cB [O.lst []])
  generalize (oW ++ [O.lst []])=Gh at yU t2 ⊢
  refine aX (cb ?_)
  refine cj ?_
  intro dN hQ
  set_option simprocs false in simp only [bC,yU,Vy]
  refine hQ _ _ (aX (oA ?_))
  clear hQ
  refine cj ?_
  intro dN hQ
  set_option simprocs false in simp only [bC,bu t2.hr,pD (xs:=X) m0 (by omega),pD (xs:=X) (i:=0) (by decide) (by omega)]
  refine ⟨rfl,hQ _ _ ?_⟩
  clear hQ
  have i0:lW (X.map D.int).length 0=some 0:=wL (j:=0) (by rw [Vd];omega)
  have im:lW ((X.map D.int).set 0 (.int (af.app X m))).length m=some m.toNat:=by
   rw [VU]
   have:=wL (n:=(X.map D.int).length) (j:=m.toNat) (by rw [Vd];omega)
   rwa [VH m0] at this
  have oZ:(Gh.set r (.lst ((X.map D.int).set 0 (.int (af.app X m)))))[r]?=some (.lst ((X.map D.int).set 0 (.int (af.app X m)))):=Vi (dH t2.hr)
  have eS:((X.map D.int).set 0 (.int (af.app X m))).set m.toNat (.int (af.app X 0))=(af.mV X m.toNat).map D.int:=by
   unfold af.mV
   rw [VH m0,WR,WR]
  refine cj ?_
  intro dN hQ
  set_option simprocs false in simp only [bC,jy t2.hr,jy oZ,i0,im,eS]
  refine ⟨rfl,hQ _ _ (aX (cb ?_))⟩
  clear hQ
  have tS:=af.wX t2.tX (m:=m.toNat) (by omega)
  have hmet:=af.Po t2.tX t2.tY (m:=m.toNat) (by omega) (by rw [VH m0];exact mR)
  rw [VH m0] at hmet
  rw [List.set_set]
  have t3:=t2.put (Z:=af.mV X m.toNat) tS hfl
  generalize Gh.set r _=st3 at t3 ⊢
  refine cj ?_
  intro dN hQ
  set_option simprocs false in simp only [bC,bu t3.hr,bu t3.hu]
  refine ⟨rfl,hQ _ _ (cb (MR (X:=af.mV X m.toNat) (Y:=Y) t3.tX t3.tY n0 (by omega) rfl rfl ?_))⟩
  intro L' mG Jn MT hL' k4
  refine ⟨_,?_,mG.length,af.mV X m.toNat,L',_,rfl,rfl,(t3.keep k4).keep (Ex.cB _),qe,Jn,MT,hL'⟩
  refine af.less (m:=m) MT (fun x hx=>?_) Vl (fun h=>((hL' m).mp h).2.2 hmet.1)
  obtain ⟨a1,a2,a3⟩:=(hL' x).mp hx
  exact (hL x).mpr ⟨a1,a2,fun h=>a3 (hmet.2 x h)⟩
 ·have he:L=[]:=by simpa using h
  subst he
  refine dQ ?_
  kspl_open b7
  have t2:=two.keep (Ex.cB [O.lst []])
  refine b7 _ _ ⟨X,Y,rfl,⟨t2.tX,t2.tY,fun x x0 x1=>?_⟩,t2.fd,t2.ex⟩
  exact Classical.byContradiction fun h=>nomatch (hL x).mpr ⟨x0,x1,h⟩
theorem Jo {st:Store} {xs:List Int} {n:Nat} (tn:af.Tn n xs) (hn:n<=100):Wp (si [.tup (xs.map D.int)] st) fun d st'=>d=.tup ((af.inv xs).map D.int)/\Ex [] st st':=by
 have hlen:=tn.length
 refine iy ?_
 show Ws (Fv [some (.tup (xs.map D.int)),none,none,none] st) _ _ _ _
 unfold Fv
 refine aX (cb ?_)
 kspl_open hQ
 have e0:(((xs.map D.int).length:Int)).toNat=n:=by rw [Vd];omega
 have ez:(List.replicate n [D.int 0]).flatten=(List.replicate n (0:Int)).map D.int:=by
  induction n with
  | zero=>rfl
  | succ n ih=>simp [V2]
 rw [e0,ez]
 refine ⟨rfl,by rw [Vd];omega,jz (by simp;omega),hQ _ _ (aX (lZ (fu (xs.map D.int)) (fun k δ st2=>∃ (v2 v3:Option D) (bs:List Int),δ=[some (.tup (xs.map D.int)),some (.ref (st ++ [O.lst [D.int 0]]).length),v2,v3]/\st2[(st ++ [O.lst [D.int 0]]).length]?=some (.lst (bs.map D.int))/\bs.length=n/\(∀ j,j < k->∀ x,xs[j]?=some x->bs[x.toNat]?=some (j:Int))/\Ex [] st st2) ?_ ?_ ?_ ?_))⟩
 ·kspl_open hQ
  exact hQ _ _ ⟨rfl,none,none,_,rfl,h7,by simp,fun j hj=>absurd hj (VY _),(Ex.cB _).app _⟩
 ·rw [Cc,Vd];omega
 ·have DI:st.length<=(st ++ [O.lst [D.int 0]]).length:=by simp
  generalize (st ++ [O.lst [D.int 0]]).length=B at DI ⊢
  rintro k d δ st2 hd ⟨v2,v3,bs,rfl,hB,uk,um,k2⟩
  obtain ⟨d',hd',rfl⟩:=Ip hd
  obtain ⟨x,hx,rfl⟩:=CG hd'
  obtain ⟨x0,x1⟩:=tn.bound (Vk hx)
  have mU:=dH hx
  kspl_open hQ
  refine ⟨rfl,hQ _ _ (oA ?_)⟩
  have hix:lW (bs.map D.int).length x=some x.toNat:=by
   have:=wL (n:=(bs.map D.int).length) (j:=x.toNat) (by rw [Vd];omega)
   rwa [VH x0] at this
  have es:(bs.map D.int).set x.toNat (.int (k:Int))=(bs.set x.toNat (k:Int)).map D.int:=by rw [WR]
  kspl_open b7
  refine b7 _ _ ?_
  refine cj ?_
  intro yT pJ
  set_option simprocs false in simp only [bC,jy hB,hix,es]
  refine pJ _ _ ⟨_,_,bs.set x.toNat (k:Int),rfl,Vi (dH hB),by rw [VU];exact uk,fun j hj y hy=>?_,k2.loc DI⟩
  by_cases hjk:j=k
  ·subst hjk
   rw [hx] at hy
   cases hy
   rw [Vi (by rw [uk];omega)]
  ·obtain ⟨y0,y1⟩:=tn.bound (Vk hy)
   rw [Vq (fun z=>?_)]
   ·exact um j (by omega) y hy
   ·obtain ⟨h1,e1⟩:=Ve.mp hx
    obtain ⟨h2,e2⟩:=Ve.mp hy
    exact hjk ((Xp tn.nodup).mp (show xs[j]=xs[k] by omega))
 ·rintro δ st2 ⟨v2,v3,bs,rfl,hB,uk,um,k2⟩
  rw [Cc,Vd] at um
  have eb:bs=af.inv xs:=by
   apply List.ext_getElem?
   intro i
   by_cases hi:i < n
   ·have hm:=tn.mem (i:=(i:Int)) (by omega) (by omega)
    have hil:=WS hm
    have:=um (xs.idxOf (i:Int)) hil (i:Int) (by rw [Vg hil];exact congrArg some (Xj hil))
    rw [Vr] at this
    rw [this]
    have ea:=af.oN (xs:=af.inv xs) (i:=(i:Int)) (by omega) (by rw [af.BD];omega)
    rw [Vr,af.EC (by omega) (by omega)] at ea
    exact ea.symm
   ·rw [Xc (by omega),Xc (by rw [af.BD];omega)]
  subst eb
  refine dQ ?_
  refine cj ?_
  intro dN hQ
  set_option simprocs false in simp only [bC,bu hB]
  exact hQ _ _ ⟨rfl,k2⟩
theorem DJ {st:Store} {xs ys:List Int} (hb:∀ x∈xs,0<=x/\x < (ys.length:Int)) (hn:xs.length<=100):Wp (qk [.tup (xs.map D.int),.tup (ys.map D.int)] st) fun d st'=>d=.tup ((af.bh xs ys).map D.int)/\Ex [] st st':=by
 refine iy ?_
 show Ws (Fx [some (.tup (xs.map D.int)),some (.tup (ys.map D.int))] st) _ _ _ _
 unfold Fx
 refine dQ ?_
 kspl_open hQ
 refine pE (xs.map D.int) (fun d=>.int (af.app ys (inD d))) ?_ (by rw [Vd];omega) ?_ ?_
 ·kspl_open b7
  exact b7 _ _ ⟨qg _ _,Ex.refl⟩
 ·intro d hd st1 k1
  obtain ⟨x,hx,rfl⟩:=vn hd
  obtain ⟨x0,x1⟩:=hb x hx
  refine cj ?_
  intro fS b7
  set_option simprocs false in simp only [bC,Vy,VT,VP,VQ,pD (xs:=ys) x0 x1]
  exact b7 _ _ ⟨rfl,Ex.refl⟩
 ·intro st' k'
  rw [zN (f:=af.app ys) fun x hx=>rfl]
  w_how
  exact hQ _ _ ⟨rfl,k'.app _⟩
theorem S9 {st:Store} {xs ys p:List Int} {n:Nat} (tx:af.Tn n xs) (ty:af.Tn n ys) (tp:af.Tn n p) (hn:n<=100):Wp (C0 [cq xs ys,.tup (p.map D.int)] st) fun d st'=>d=cq (af.anew xs p) (af.anew ys p)/\Ex [] st st':=by
 have hlx:=tx.length
 have An:=ty.length
 have DK:=tp.length
 have ti:=tp.aB
 have hli:=ti.length
 refine iy ?_
 show Ws (Fy [some (cq xs ys),some (.tup (p.map D.int)),none,none,none] st) _ _ _ _
 unfold Fy cq
 refine aX (cb ?_)
 kspl_open hQ
 refine a7 (Jo tp hn) ?_
 rintro d st1 ⟨rfl,k1⟩
 refine hQ _ _ (aX (cb ?_))
 clear hQ
 kspl_open hQ
 refine a7 (DJ (xs:=af.inv p) (ys:=xs) (fun x hx=>by rw [hlx];exact ti.bound hx) (by omega)) ?_
 rintro d st2 ⟨rfl,k2⟩
 refine a7 (DJ (xs:=af.bh (af.inv p) xs) (ys:=p) (fun x hx=>by rw [DK];exact (ti.bh tx).bound hx) (by rw [af.BG];omega)) ?_
 rintro d st3 ⟨rfl,k3⟩
 refine hQ _ _ (aX (cb ?_))
 clear hQ
 kspl_open hQ
 refine a7 (DJ (xs:=af.inv p) (ys:=ys) (fun x hx=>by rw [An];exact ti.bound hx) (by omega)) ?_
 rintro d mG ⟨rfl,k4⟩
 refine a7 (DJ (xs:=af.bh (af.inv p) ys) (ys:=p) (fun x hx=>by rw [DK];exact (ti.bh ty).bound hx) (by rw [af.BG];omega)) ?_
 rintro d ku ⟨rfl,k5⟩
 refine hQ _ _ (dQ ?_)
 clear hQ
 kspl_open hQ
 exact ⟨rfl,hQ _ _ ⟨rfl,(((k1.trans k2).trans k3).trans k4).trans k5⟩⟩
theorem MU {F:List Int} {x:Int}:(!F.contains x)=true->af.cP F x=F ++ [x]:=fun h=>by
 unfold af.cP
 rw [if_neg fun z=>by rw [V3.mpr z] at h;cases h]
theorem MV {F:List Int} {x:Int}:(!F.contains x)=false->af.cP F x=F:=fun h=>by
 unfold af.cP
 rw [if_pos (V3.mp (by simpa using h))]
theorem Ta {st:Store} {xs ys:List Int} {n:Nat} {s:Int} (tx:af.Tn n xs) (ty:af.Tn n ys) (hn:n<=100) (s0:0<=s) (s1:s < (n:Int)):Wp (C2 [cq xs ys,.int s] st) fun d st'=>d=.tup ((af.bf xs ys s n).map D.int)/\Ex [] st st':=by
 have hlx:=tx.length
 have An:=ty.length
 refine iy ?_
 show Ws (FA [some (cq xs ys),some (.int s),none,none,none,none] st) _ _ _ _
 unfold FA
 refine aX (cb ?_)
 kspl_open hQ
 refine ⟨rfl,hQ _ _ (aX (cb ?_))⟩
 clear hQ
 kspl_open hQ
 refine hQ _ _ (aX (zL (fun m δ st2=>∃ (k:Nat) (v4 v5:Option D),m=n - k/\δ=[some (cq xs ys),some (.int s),some (.ref st.length),some (.int (k:Int)),v4,v5]/\st2[st.length]?=some (.lst ((af.bf xs ys s k).map D.int))/\k<=(af.bf xs ys s k).length/\Ex [] st st2) n (V7 hn (by decide)) ⟨0,none,none,by omega,rfl,h7,VW _,Ex.cB _⟩ ?_))
 clear hQ
 rintro m δ st2 ⟨k,v4,v5,rfl,rfl,hl,hk,k2⟩
 have uk:=af.BH tx ty s0 s1 k
 refine cj ?_
 intro dN hQ
 set_option simprocs false in simp only [bC,bu hl]
 refine hQ _ _ ⟨fun hlt=>?_,fun hlt=>?_⟩
 ·clear hQ
  have hlt:=of_decide_eq_true hlt
  rw [Vd] at hlt
  have mU:k < (af.bf xs ys s k).length:=by omega
  obtain ⟨x,hx⟩:∃ x,(af.bf xs ys s k)[k]?=some x:=⟨_,Vg mU⟩
  obtain ⟨x0,x1⟩:=af.qv tx ty s0 s1 k x (Vk hx)
  have e1:af.bf xs ys s (k + 1)=af.visit xs ys (af.bf xs ys s k) x:=by
   show (match (af.bf xs ys s k)[k]? with | some x=>af.visit xs ys (af.bf xs ys s k) x | none=>af.bf xs ys s k)=_
   rw [hx]
  have hb1:=af.BH tx ty s0 s1 (k + 1)
  rw [e1] at hb1
  have hp1:=(af.uV (af.cP (af.bf xs ys s k) (af.app xs x)) (af.app ys x)).length_le
  have hp0:=(af.uV (af.bf xs ys s k) (af.app xs x)).length_le
  change _<=(af.visit xs ys (af.bf xs ys s k) x).length at hp1
  refine aX (lZ [.tup (xs.map D.int),.tup (ys.map D.int)] (fun m δ st3=>∃ (v4 v5:Option D) (G:List Int),δ=[some (cq xs ys),some (.int s),some (.ref st.length),some (.int (k:Int)),v4,v5]/\st3[st.length]?=some (.lst (G.map D.int))/\(m=0->G=af.bf xs ys s k)/\(m=1->G=af.cP (af.bf xs ys s k) (af.app xs x))/\(m=2->G=af.visit xs ys (af.bf xs ys s k) x)/\Ex [] st st3) ?_ (by simp) ?_ ?_)
  ·unfold cq
   kspl_open hQ
   exact hQ _ _ ⟨rfl,v4,v5,_,rfl,hl,fun _=>rfl,fun z=>by omega,fun z=>by omega,k2⟩
  ·rintro m z δ st3 hm ⟨v4,v5,G,rfl,hl3,g0,g1,_,k3⟩
   have hm2:m < 2:=dH hm
   obtain ⟨zs,rfl,tz,em⟩:∃ (zs:List Int),z=.tup (zs.map D.int)/\af.Tn n zs/\((m=0/\zs=xs)\/(m=1/\zs=ys)):=by
    rcases (show m=0\/m=1 by omega) with rfl | rfl
    ·exact ⟨xs,by simpa using hm.symm,tx,.inl ⟨rfl,rfl⟩⟩
    ·exact ⟨ys,by simpa using hm.symm,ty,.inr ⟨rfl,rfl⟩⟩
   have hG:G.length<=100/\G[k]?=some x:=by
    rcases em with ⟨rfl,_⟩ | ⟨rfl,_⟩
    ·rw [g0 rfl];exact ⟨by omega,hx⟩
    ·rw [g1 rfl]
     refine ⟨by omega,?_⟩
     obtain ⟨t,e⟩:=af.uV (af.bf xs ys s k) (af.app xs x)
     rw [<- e,Vt mU];exact hx
   have DL:∀ G',G'=af.cP G (af.app zs x)->(m + 1=0->G'=af.bf xs ys s k)/\(m + 1=1->G'=af.cP (af.bf xs ys s k) (af.app xs x))/\(m + 1=2->G'=af.visit xs ys (af.bf xs ys s k) x):=fun G' e=>by
    rcases em with ⟨rfl,rfl⟩ | ⟨rfl,rfl⟩
    ·exact ⟨fun z=>by omega,fun _=>by rw [e,g0 rfl],fun z=>by omega⟩
    ·exact ⟨fun z=>by omega,fun z=>by omega,fun _=>by rw [e,g1 rfl];rfl⟩
   have hat:d5 (G.map D.int) (k:Int)=some (.int x):=zq (by rw [Vm,hG.2];rfl)
   kspl_open hQ
   refine hQ _ _ (aX (cb ?_))
   clear hQ
   refine cj ?_
   intro dN hQ
   set_option simprocs false in simp only [bC,bu hl3,hat,pD (xs:=zs) x0 (by rw [tz.length];exact x1)]
   refine hQ _ _ (gJ ?_)
   clear hQ
   refine cj ?_
   intro dN hQ
   set_option simprocs false in simp only [bC,E5 (st:=st3) (c:=.ref st.length) (ns:=G) (bu hl3)]
   refine hQ _ _ ⟨fun hc=>nc ?_,fun hc=>iG ?_⟩
   ·obtain ⟨n0,n1,n2⟩:=DL (G ++ [af.app zs x]) (MU hc).symm
    refine cj ?_
    intro fS b7
    set_option simprocs false in simp only [bC,jy hl3]
    refine ⟨lx (by rw [bu hl3];rfl),jz (by rw [Vd];omega),b7 _ _ ⟨_,_,G ++ [af.app zs x],rfl,?_,n0,n1,n2,k3.loc (Vh _)⟩⟩
    rw [Vi (dH hl3),Vx];rfl
   ·obtain ⟨n0,n1,n2⟩:=DL G (MV hc).symm
    exact ⟨_,_,G,rfl,hl3,n0,n1,n2,k3⟩
  ·rintro δ st3 ⟨v4,v5,G,rfl,hl3,_,_,g2,k3⟩
   have g2:=g2 rfl
   subst g2
   refine cb ?_
   kspl_open hQ
   refine hQ _ _ ⟨n - (k + 1),by omega,k + 1,v4,v5,rfl,by simp,by rw [e1];exact hl3,by rw [e1];omega,k3⟩
 ·have hlt:=of_decide_eq_false hlt
  rw [Vd] at hlt
  have hle:(af.bf xs ys s k).length<=k:=by omega
  have e:af.bf xs ys s n=af.bf xs ys s k:=by
   have:=af.ED hle (n - k)
   rwa [show k + (n - k)=n by omega] at this
  refine dQ ?_
  refine cj ?_
  intro fS b7
  set_option simprocs false in simp only [bC,bu hl]
  rw [<- e]
  exact b7 _ _ ⟨rfl,k2⟩
theorem Tb {st:Store} {xs:List Int} {n:Nat} {i:Int} (tn:af.Tn n xs) (hn:n<=100) (i0:0<=i) (i1:i < (n:Int)):Wp (C8 [.tup (xs.map D.int),.int i] st) fun d st'=>∃ r:List Int,d=.tup (r.map D.int)/\af.iQ xs i r/\Ex [] st st':=by
 have hlen:=tn.length
 refine iy ?_
 show Ws (FF [some (.tup (xs.map D.int)),some (.int i),none,none] st) _ _ _ _
 unfold FF
 refine aX (cb ?_)
 kspl_open hQ
 refine ⟨rfl,hQ _ _ (aX (cb ?_))⟩
 clear hQ
 refine cj ?_
 intro dN hQ
 set_option simprocs false in simp only [bC,pD (xs:=xs) i0 (by omega)]
 refine hQ _ _ (aX (zL (fun m δ st2=>∃ k:Nat,m=n - (k + 1)/\δ=[some (.tup (xs.map D.int)),some (.int i),some (.ref st.length),some (.int (af.bL xs i (k + 1)))]/\st2[st.length]?=some (.lst ((af.row xs i k).map D.int))/\af.NB xs i k/\Ex [] st st2) (n - 1) (V7 (show n - 1<=100 by omega) (by decide)) ⟨0,rfl,rfl,h7,fun j h1 h2=>by omega,Ex.cB _⟩ ?_))
 clear hQ
 rintro m δ st2 ⟨k,rfl,rfl,hL,nb,k2⟩
 have hrl:=tn.kE i0 i1 nb
 kspl_open hQ
 refine hQ _ _ ⟨fun hb=>?_,fun hb=>?_⟩
 ·have hb:af.bL xs i (k + 1)≠i:=by simpa using hb
  have DM:af.NB xs i (k + 1):=fun j h1 h2=>by
   by_cases hj:j<=k
   ·exact nb j h1 hj
   ·have:j=k + 1:=by omega
    rw [this];exact hb
  have hle:=tn.kE i0 i1 DM
  have hit:=tn.bL i0 i1 (k + 1)
  refine aX (nc ?_)
  refine cj ?_
  intro fS b7
  set_option simprocs false in simp only [bC,jy hL]
  refine ⟨lx (by rw [bu hL];rfl),jz (by rw [Vd,af.sE];omega),b7 _ _ (cb ?_)⟩
  clear b7
  refine cj ?_
  intro fS b7
  set_option simprocs false in simp only [bC,pD (xs:=xs) hit.1 (by omega)]
  refine b7 _ _ ⟨n - (k + 1 + 1),by omega,k + 1,rfl,rfl,?_,DM,k2.loc (Vh _)⟩
  rw [Vi (dH hL),af.Lg,Vx];rfl
 ·have hb:af.bL xs i (k + 1)=i:=by simpa using hb
  refine dQ ?_
  refine cj ?_
  intro fS b7
  set_option simprocs false in simp only [bC,bu hL]
  exact b7 _ _ ⟨_,rfl,⟨k,rfl,nb,hb⟩,k2⟩
theorem Tc {st:Store} {xs:List Int} {n:Nat} (tn:af.Tn n xs) (hn:n<=100):Wp (Dc [.tup (xs.map D.int)] st) fun d st'=>∃ rs:List (List Int),d=CC rs/\af.uU xs (af.upto n) rs/\(∀ r∈rs,r.length<=n/\∀ x∈r,0<=x/\x < (n:Int))/\rs.length<=n/\Ex [] st st':=by
 have hlen:=tn.length
 refine iy ?_
 show Ws (FH [some (.tup (xs.map D.int)),none,none,none,none,none] st) _ _ _ _
 unfold FH
 refine aX (cb ?_)
 kspl_open hQ
 refine ⟨rfl,hQ _ _ (aX (cb ?_))⟩
 clear hQ
 kspl_open hQ
 have eS:(st ++ [O.lst []]).length=st.length + 1:=by simp
 rw [eS]
 refine hQ _ _ (aX (lZ (aJ 0 n) (fun k δ st2=>∃ (v3 v4 v5:Option D) (rs:List (List Int)) (kvs:List (Key×D)),δ=[some (.tup (xs.map D.int)),some (.ref st.length),some (.ref (st.length + 1)),v3,v4,v5]/\st2[st.length]?=some (.lst (rs.map fun r=>.tup (r.map D.int)))/\st2[st.length + 1]?=some (.dct kvs) /\
   (∀ rest,af.uU xs (af.from' n k (fun x=>(d4 kvs (Sum.inl x:Key)).isSome)) rest->af.uU xs (af.upto n) (rs ++ rest))/\(∀ r∈rs,r.length<=n/\∀ x∈r,0<=x/\x < (n:Int))/\rs.length<=k/\kvs.length<=k * n/\Ex [] st st2) ?_ (by rw [gH];omega) ?_ ?_))
 ·clear hQ
  kspl_open hQ
  rw [Vd,hlen]
  refine ⟨by omega,hQ _ _ ⟨by rw [Vr],none,none,none,[],[],rfl,hW h7,by rw [<- eS];exact h7,fun rest hrest=>?_,(fun r hr=>nomatch hr),Vh _,VW _,(Ex.cB _).app _⟩⟩
  have e:af.from' n 0 (fun x=>(d4 ([]:List (Key×D)) (Sum.inl x:Key)).isSome)=af.upto n:=af.Ph n
  rw [e] at hrest
  exact hrest
 ·rintro k d δ st2 hd ⟨v3,v4,v5,rs,kvs,rfl,Gi,Gj,vD,hb,hrl,mU,k2⟩
  have hk:=dH hd
  rw [gH] at hk
  rw [xC hk,WA] at hd
  cases hd
  have hkn:k * n<=10000:=VL (Nat.mul_le_mul (show k<=100 by omega) hn) (by decide)
  clear hQ
  kspl_open hQ
  refine hQ _ _ (gJ ?_)
  clear hQ
  refine cj ?_
  intro dN hQ
  set_option simprocs false in simp only [bC,Mh Gj,Mi]
  have hfs:=af.Pf hk (fun x=>(d4 kvs (Sum.inl x:Key)).isSome)
  refine hQ _ _ ⟨fun hs=>?_,fun hs=>?_⟩
  ·have Jp:(d4 kvs (Sum.inl (k:Int):Key)).isSome=false:=by simpa using hs
   simp only [Jp,VC,if_false] at hfs
   clear hQ
   refine aX (cb ?_)
   kspl_open hQ
   refine a7 (Tb tn hn (i:=(k:Int)) (by omega) (by omega)) ?_
   rintro d st3 ⟨r,rfl,nG,k3⟩
   refine hQ _ _ (aX (nc ?_))
   clear hQ
   have Jq:=k3.keep _ _ Gi (by simp)
   have Td:=k3.keep _ _ Gj (by simp)
   have Jr:=nG.len tn (by omega) (by omega)
   have hrb:=nG.bound tn (by omega) (by omega)
   refine cj ?_
   intro dN hQ
   set_option simprocs false in simp only [bC,jy Jq]
   refine ⟨lx (by rw [bu Jq];rfl),jz (by rw [Vd];omega),hQ _ _ ?_⟩
   clear hQ
   refine lZ (r.map D.int) (fun j δ ku=>∃ (v5:Option D) (kvs':List (Key×D)),δ=[some (.tup (xs.map D.int)),some (.ref st.length),some (.ref (st.length + 1)),some (.int (k:Int)),some (.tup (r.map D.int)),v5]/\ku[st.length]?=some (.lst ((rs ++ [r]).map fun r=>.tup (r.map D.int)))/\ku[st.length + 1]?=some (.dct kvs') /\
     (∀ x:Int,(d4 kvs' (Sum.inl x:Key)).isSome=((d4 kvs (Sum.inl x:Key)).isSome || (r.take j).contains x))/\kvs'.length<=kvs.length + j/\Ex [] st ku) ?_ (by rw [Vd];omega) ?_ ?_
   ·kspl_open hQ
    refine hQ _ _ ⟨rfl,v5,kvs,rfl,?_,?_,fun x=>by simp,by omega,(k2.trans k3).loc (Vh _)⟩
    ·rw [Vi (dH Jq),Vx];rfl
    ·rw [Vq (by omega)];exact Td
   ·rintro j y δ ku hj ⟨v5,kvs',rfl,Js,Gk,Gm,DN,k5⟩
    obtain ⟨x,hx,rfl⟩:=CG hj
    obtain ⟨hjl,ex⟩:=Ve.mp hx
    subst ex
    kspl_open hQ
    refine hQ _ _ (QP ?_)
    clear hQ
    kspl_open hQ
    refine hQ _ _ ?_
    kspl_open b7
    refine b7 _ _ ?_
    kspl_open pJ
    refine pJ _ _ ⟨_,kvs',_,rfl,Mh Gk,Mi _,jz (by omega),_,_,rfl,?_,Vi (dH Gk),fun x=>?_,?_,k5.loc (by omega)⟩
    ·rw [Vq (by omega)];exact Js
    ·rw [Rr,Rw hjl]
     by_cases hx:x=r[j]
     ·subst hx;simp
     ·rw [if_neg (by intro z;exact hx (Sum.inl.inj z)),Gm x]
      have:(x == r[j])=false:=beq_eq_false_iff_ne.mpr hx
      rw [this,Bool.or_false]
    ·have:=Rv kvs' (Sum.inl r[j]:Key) (.bl true);omega
   ·rintro δ ku ⟨v5,kvs',rfl,Js,Gk,Gm,DN,k5⟩
    rw [Vd] at DN Gm
    refine ⟨_,_,_,rs ++ [r],kvs',rfl,Js,Gk,fun rest hrest=>?_,fun r' hr'=>?_,by rw [Vj];simp;omega,by rw [Nat.succ_mul];omega,k5⟩
    ·have e:(fun x=>(d4 kvs' (Sum.inl x:Key)).isSome)=fun x=>((d4 kvs (Sum.inl x:Key)).isSome || r.contains x):=by
      funext x;rw [Gm x,Wj]
     rw [e,<- af.Pg] at hrest
     rw [WI]
     refine vD _ ?_
     rw [hfs]
     refine .cons nG ?_
     have e2:af.out ((k:Int) :: af.from' n (k + 1) (fun x=>(d4 kvs (Sum.inl x:Key)).isSome)) r=af.out (af.from' n (k + 1) (fun x=>(d4 kvs (Sum.inl x:Key)).isSome)) r:=by
      unfold af.out
      rw [List.filter_cons,if_neg (by simp [nG.mem])]
     rw [e2]
     exact hrest
    ·rcases VG.mp hr' with h | h
     ·exact hb r' h
     ·have:r'=r:=by simpa using h
      subst this
      exact ⟨Jr,hrb⟩
  ·have Jp:(d4 kvs (Sum.inl (k:Int):Key)).isSome=true:=by simpa using hs
   simp only [Jp,if_true] at hfs
   exact iG ⟨_,_,_,rs,kvs,rfl,Gi,Gj,fun rest hrest=>vD rest (by rw [hfs];exact hrest),hb,by omega,by rw [Nat.succ_mul];omega,k2⟩
 ·rintro δ st2 ⟨v3,v4,v5,rs,kvs,rfl,Gi,Gj,vD,hb,hrl,mU,k2⟩
  rw [gH] at vD hrl
  refine dQ ?_
  clear hQ
  refine cj ?_
  intro dN hQ
  set_option simprocs false in simp only [bC,bu Gi]
  refine hQ _ _ ⟨rs,rfl,?_,hb,hrl,k2⟩
  have:=vD [] (by rw [af.Pe];exact .nil)
  rwa [Wr] at this
theorem Te {rs:List (List Int)} {m:Nat} {d:D} (h:(rs.map fun r=>D.tup (r.map D.int))[m]?=some d):∃ r,rs[m]?=some r/\d=.tup (r.map D.int):=by
 rw [Vm] at h
 obtain ⟨r,h1,h2⟩:=VR.mp h
 exact ⟨r,h1,h2.symm⟩
theorem MW {xs:List Int} {i:Int} {m:Nat} {j:Int} (h0:0<=j) (h1:j < ((m + 1:Nat):Int)):d5 ((af.row xs i m).map D.int) j=some (.int (af.bL xs i j.toNat)):=by
 have e:((af.row xs i m).map D.int)[j.toNat]?=some (.int (af.bL xs i j.toNat)):=by
  unfold af.row
  rw [VB,Vm,WC (by omega)];rfl
 have:=zq e
 rwa [VH h0] at this
theorem MX {bs:List Int} {m v x:Int} (h0:0<=m) (h1:m < (bs.length:Int)) (x0:0<=x):af.app (bs.set m.toNat v) x=if x=m then v else af.app bs x:=by
 have:=af.HG (xs:=bs) (m:=m.toNat) (v:=v) (x:=x) (by omega) x0
 rw [VH h0] at this
 exact this
theorem Tf {st:Store} {xs:List Int} {n:Nat} {k:Int} (tn:af.Tn n xs) (hn:n<=100):Wp (De [.tup (xs.map D.int),.int k] st) fun d st'=>d=.tup ((af.cK xs k).map D.int)/\Ex [] st st':=by
 have hlen:=tn.length
 refine iy ?_
 show Ws (FI [some (.tup (xs.map D.int)),some (.int k),none,none,none,none] st) _ _ _ _
 unfold FI
 refine aX (cb ?_)
 kspl_open hQ
 have e0:(((xs.map D.int).length:Int)).toNat=n:=by rw [Vd];omega
 have ez:(List.replicate n [D.int 0]).flatten=(List.replicate n (0:Int)).map D.int:=by
  clear hlen tn hn e0
  induction n with
  | zero=>rfl
  | succ n ih=>simp [V2]
 rw [e0,ez]
 have DI:st.length<=(st ++ [O.lst [D.int 0]]).length:=by simp
 refine ⟨rfl,by rw [Vd];omega,jz (by simp;omega),hQ _ _ ?_⟩
 clear hQ
 have Jt:(st ++ [O.lst [D.int 0]] ++ [O.lst ((List.replicate n (0:Int)).map D.int)])[(st ++ [O.lst [D.int 0]]).length]?=some (.lst ((List.replicate n (0:Int)).map D.int)):=h7
 have kB:Ex [] st (st ++ [O.lst [D.int 0]] ++ [O.lst ((List.replicate n (0:Int)).map D.int)]):=(Ex.cB _).app _
 generalize (st ++ [O.lst [D.int 0]] ++ [O.lst ((List.replicate n (0:Int)).map D.int)])=Tg at Jt kB ⊢
 generalize (st ++ [O.lst [D.int 0]]).length=B at DI Jt ⊢
 show Ws _ _ _ _ _
 obtain ⟨d,st2,e2,rs,rfl,vD,hrb,hrl,k2⟩:=Tc (st:=Tg) tn hn
 refine aX (lZ (rs.map fun r=>.tup (r.map D.int)) (fun m δ st3=>∃ (v3 v4 v5:Option D) (bs:List Int),δ=[some (.tup (xs.map D.int)),some (.int k),some (.ref B),v3,v4,v5]/\st3[B]?=some (.lst (bs.map D.int))/\bs.length=n/\(∀ j,j < m->∀ r,rs[j]?=some r->∀ x∈r,af.app bs x=af.pw xs k x)/\Ex [] st st3) ?_ (by rw [Vd];omega) ?_ ?_)
 ·kspl_open hQ
  refine ⟨_,_,e2,?_⟩
  exact ⟨_,rfl,hQ _ _ ⟨rfl,none,none,none,_,rfl,k2.keep _ _ Jt (by simp),by simp,fun j hj=>absurd hj (VY _),kB.trans k2⟩⟩
 ·rintro m d δ st3 hm ⟨v3,v4,v5,bs,rfl,Ju,uk,um,k3⟩
  obtain ⟨r,hr,rfl⟩:=Te hm
  obtain ⟨i,hi,nG⟩:=vD.all.1 r (Vk hr)
  obtain ⟨i0,i1⟩:=af.lQ.mp hi
  obtain ⟨M,rfl,nb,bk⟩:=nG.ex
  have hM:=tn.kE i0 i1 nb
  kspl_open hQ
  refine hQ _ _ (lZ (fu ((af.row xs i M).map D.int)) (fun t δ mG=>∃ (v4 v5:Option D) (cs:List Int),δ=[some (.tup (xs.map D.int)),some (.int k),some (.ref B),some (.tup ((af.row xs i M).map D.int)),v4,v5]/\mG[B]?=some (.lst (cs.map D.int))/\cs.length=n/\(∀ x:Int,0<=x->x < (n:Int)->af.app bs x=af.pw xs k x->af.app cs x=af.pw xs k x)/\(∀ j,j < t->af.app cs (af.bL xs i j)=af.pw xs k (af.bL xs i j))/\Ex [] st mG) ?_ ?_ ?_ ?_)
  ·clear hQ
   kspl_open hQ
   exact hQ _ _ ⟨rfl,v4,v5,bs,rfl,Ju,uk,fun _ _ _ h=>h,fun j hj=>absurd hj (VY _),k3⟩
  ·rw [Cc,Vd,af.sE];omega
  ·rintro t d δ mG hd ⟨v4,v5,cs,rfl,Gn,hcl,hcs,hct,k4⟩
   obtain ⟨d',hd',rfl⟩:=Ip hd
   obtain ⟨y,hy,rfl⟩:=CG hd'
   have MY:=dH hy
   rw [af.sE] at MY
   have ey:y=af.bL xs i t:=by
    unfold af.row at hy
    rw [Vm,WC MY] at hy
    exact (Vs hy).symm
   subst ey
   obtain ⟨x0,x1⟩:=tn.bL i0 i1 t
   have hL:(0:Int) < ((M + 1:Nat):Int):=by omega
   have m0:=Wc ((t:Int) + k) (Int.ne_of_gt hL)
   have m1:=Wk ((t:Int) + k) hL
   have eL:((((af.row xs i M).map D.int).length:Nat):Int)=((M + 1:Nat):Int):=by rw [Vd,af.sE]
   have hix:lW (cs.map D.int).length (af.bL xs i t)=some (af.bL xs i t).toNat:=by
    have:=wL (n:=(cs.map D.int).length) (j:=(af.bL xs i t).toNat) (by rw [Vd];omega)
    rwa [VH x0] at this
   have es:∀ v:Int,(cs.map D.int).set (af.bL xs i t).toNat (.int v)=(cs.set (af.bL xs i t).toNat v).map D.int:=fun v=>by rw [WR]
   clear hQ
   kspl_open hQ
   refine ⟨rfl,hQ _ _ (oA ?_)⟩
   clear hQ
   refine cj ?_
   intro dN hQ
   set_option simprocs false in simp only [bC,eL,MW m0 m1]
   refine ⟨hL,hQ _ _ ?_⟩
   clear hQ
   refine cj ?_
   intro dN hQ
   set_option simprocs false in simp only [bC,jy Gn,hix,es]
   have hat:=tn.w4 x0 x1 (tn.wW i0 i1 nb bk t k)
   refine hQ _ _ ⟨_,_,_,rfl,Vi (dH Gn),by rw [VU];exact hcl,fun x h0 h1 h=>?_,fun j hj=>?_,k4.loc DI⟩
   ·rw [MX x0 (by omega) h0]
    split
    ·next e=>rw [e];exact hat
    ·exact hcs x h0 h1 h
   ·obtain ⟨y0,y1⟩:=tn.bL i0 i1 j
    rw [MX x0 (by omega) y0]
    split
    ·next e=>rw [e];exact hat
    ·next e =>
     by_cases Ti:j=t
     ·rw [Ti] at e;exact absurd rfl e
     ·exact hct j (by omega)
  ·rintro δ mG ⟨v4,v5,cs,rfl,Gn,hcl,hcs,hct,k4⟩
   rw [Cc,Vd,af.sE] at hct
   refine ⟨_,_,_,cs,rfl,Gn,hcl,fun j hj r hr2 x hx=>?_,k4⟩
   by_cases Tj:j=m
   ·subst Tj
    rw [hr] at hr2
    cases hr2
    obtain ⟨jj,UN,rfl⟩:=af.EB.mp hx
    exact hct jj (by omega)
   ·obtain ⟨b0,b1⟩:=(hrb r (Vk hr2)).2 x hx
    exact hcs x b0 b1 (um j (by omega) r hr2 x hx)
 ·rintro δ st3 ⟨v3,v4,v5,bs,rfl,Ju,uk,um,k3⟩
  rw [Vd] at um
  have e:bs=af.cK xs k:=by
   refine af.p5 (n:=n) uk (by rw [af.BK];exact hlen) fun s s0 s1=>?_
   rw [af.pA s0 (by omega)]
   obtain ⟨r,hr',hx⟩:=vD.all.2 s (af.lQ.mpr ⟨s0,s1⟩)
   obtain ⟨j,hj,ej⟩:=Wo hr'
   exact um j hj r (by rw [Vg hj,ej]) s hx
  subst e
  refine dQ ?_
  refine cj ?_
  intro dN hQ
  set_option simprocs false in simp only [bC,bu Ju]
  exact hQ _ _ ⟨rfl,k3⟩
theorem MZ {st:Store} {xs ys:List Int} {n:Nat} {k:Int} (tx:af.Tn n xs) (ty:af.Tn n ys) (hn:n<=100):Wp (ui [cq xs ys,.int k] st) fun d st'=>d=cq xs (af.shr xs ys k)/\Ex [] st st':=by
 refine iy ?_
 show Ws (FJ [some (cq xs ys),some (.int k)] st) _ _ _ _
 unfold FJ cq
 refine dQ ?_
 have tp:=tx.cK (-k)
 kspl_open hQ
 refine a7 (Tf (k:=-k) tx hn) ?_
 rintro d st1 ⟨rfl,k1⟩
 refine a7 (DJ (xs:=af.cK xs (-k)) (ys:=ys) (fun x hx=>by rw [ty.length];exact tp.bound hx) (by rw [tp.length];exact hn)) ?_
 rintro d st2 ⟨rfl,k2⟩
 exact ⟨rfl,hQ _ _ ⟨rfl,k1.trans k2⟩⟩
theorem M0 {st:Store} {xs ys:List Int} {n:Nat} (tx:af.Tn n xs) (ty:af.Tn n ys) (hn:n<=100):Wp (uj [cq xs ys] st) fun d st'=>d=cq (af.inv ys) xs/\Ex [] st st':=by
 refine iy ?_
 show Ws (FK [some (cq xs ys)] st) _ _ _ _
 unfold FK cq
 refine dQ ?_
 kspl_open hQ
 refine a7 (Jo ty hn) ?_
 rintro d st1 ⟨rfl,k1⟩
 exact ⟨rfl,hQ _ _ ⟨rfl,k1⟩⟩
theorem Jv {st:Store} {Q:D->Store->Prop} {xs:List Int} {v:Int} (h:v∈xs):Wp (iS (.tup (xs.map D.int)) [.int v] st) Q↔Q (.int (xs.idxOf v:Int)) st:=by
 rw [L5]
 constructor
 ·rintro ⟨ns,j,h1,h2,q⟩
  rw [IC] at h1
  cases h1
  rw [Me h] at h2
  cases h2
  exact q
 ·intro q
  exact ⟨xs,_,IC xs,Me h,q⟩
theorem To {st:Store} {xs ys p:List Int} {n:Nat} (tx:af.Tn n xs) (ty:af.Tn n ys) (tp:af.Tn n p) (hn:n<=100):Wp (DA [cq xs ys,.tup (p.map D.int)] st) fun d st'=>d=cq (af.anew xs p) (af.anew ys p)/\Ex [] st st':=by
 have DK:=tp.length
 refine iy ?_
 show Ws (F5 [some (cq xs ys),some (.tup (p.map D.int))] st) _ _ _ _
 unfold F5 cq
 refine dQ ?_
 kspl_open hQ
 refine pE [.tup (xs.map D.int),.tup (ys.map D.int)] (fun d=>match d with | .tup ds=>.tup ((af.anew (ds.map inD) p).map D.int) | _=>.non) ?_ (by simp) ?_ ?_
 ·kspl_open b7
  exact b7 _ _ ⟨qg _ _,Ex.refl⟩
 ·intro d hd st1 k1
  obtain ⟨zs,rfl,tz⟩:∃ zs:List Int,d=.tup (zs.map D.int)/\af.Tn n zs:=by
   rcases VF.mp hd with rfl | hd
   ·exact ⟨xs,rfl,tx⟩
   ·exact ⟨ys,Vz.mp hd,ty⟩
  have Jl:=tz.length
  refine cj ?_
  intro fS b7
  set_option simprocs false in simp only [bC,Vy,VT,VP,VQ]
  refine pE (aJ 0 n) (fun d=>.int (af.app p (af.app zs (p.idxOf (inD d):Int)))) ?_ (by rw [gH];omega) ?_ ?_
  ·kspl_open pJ
   rw [Vd,DK]
   exact ⟨by omega,pJ _ _ ⟨by rw [Vr];exact qg _ _,Ex.refl⟩⟩
  ·intro d hd st2 k2
   rw [pC] at hd
   obtain ⟨x,hx,rfl⟩:=vn hd
   obtain ⟨x0,x1⟩:=af.lQ.mp hx
   have hm:=tp.mem x0 x1
   have hi:=tp.idx x0 x1
   obtain ⟨a0,a1⟩:=tz.app (i:=(p.idxOf x:Int)) (by omega) (by omega)
   refine cj ?_
   intro yT pJ
   set_option simprocs false in simp only [bC,Vy,VT,VP,VQ,IA,Jv hm,pD (xs:=zs) (i:=(p.idxOf x:Int)) (by omega) (by omega),pD (xs:=p) a0 (by omega)]
   exact pJ _ _ ⟨rfl,Ex.refl⟩
  ·intro st' k'
   have e:(aJ 0 n).map (fun d=>D.int (af.app p (af.app zs (p.idxOf (inD d):Int))))=(af.anew zs p).map D.int:=by
    rw [pC,zN (f:=fun x=>af.app p (af.app zs (p.idxOf x:Int))) fun x hx=>rfl]
    congr 1
    unfold af.anew af.bh af.inv
    rw [VB,VB,DK]
    rfl
   rw [e]
   w_how
   refine b7 _ _ ⟨?_,k'.app _⟩
   show D.tup _=D.tup ((af.anew ((zs.map D.int).map inD) p).map D.int)
   rw [VB]
   congr 3
   exact (Wd zs).symm
 ·intro st' k'
  w_how
  refine hQ _ _ ⟨?_,k'.app _⟩
  have e:∀ zs:List Int,(zs.map D.int).map inD=zs:=fun zs=>by rw [VB];exact Wd zs
  simp only [Vy,VT,e]
theorem M1 {xs:List Int} {i:Int} {m:Nat}:d5 ((af.row xs i m).map D.int) (-1)=some (.int (af.bL xs i m)):=by
 have hl:((af.row xs i m).map D.int).length=m + 1:=by rw [Vd,af.sE]
 unfold d5 lW
 rw [if_neg (by decide),hl,if_pos (by omega),Wi,show ((-1:Int) + ((m + 1:Nat):Int)).toNat=m by omega]
 unfold af.row
 rw [VB,Vm,WC (by omega)];rfl
theorem Tp {st:Store} {xs:List Int} {n:Nat} {s k:Int} (tn:af.Tn n xs) (hn:n<=100) (s0:0<=s) (s1:s < (n:Int)):Wp (CV [.tup (xs.map D.int),.int s,.int k] st) fun d st'=>d=.int (af.pw xs k s)/\Ex [] st st':=by
 have hlen:=tn.length
 refine iy ?_
 show Ws (Fq [some (.tup (xs.map D.int)),some (.int s),some (.int k),none] st) _ _ _ _
 unfold Fq
 refine aX (sO (N:=fun δ st1=>∃ (zs:List Int) (j:Nat),δ=[some (.tup (zs.map D.int)),some (.int s),some (.int (j:Int)),none]/\af.Tn n zs/\af.bL zs s j=af.pw xs k s/\Ex [] st st1) (gJ ?_) ?_)
 ·kspl_open hQ
  refine hQ _ _ ⟨fun h=>?_,fun h=>iG ⟨xs,k.toNat,?_,tn,?_,Ex.refl⟩⟩
  ·have h:=of_decide_eq_true h
   clear hQ
   refine aX (cb ?_)
   kspl_open hQ
   refine pE (aJ 0 n) (fun d=>.int (xs.idxOf (inD d):Int)) ?_ (by rw [gH];omega) ?_ ?_
   ·kspl_open b7
    rw [Vd,hlen]
    exact ⟨by omega,b7 _ _ ⟨by rw [Vr];exact qg _ _,Ex.refl⟩⟩
   ·intro d hd qu k7
    rw [pC] at hd
    obtain ⟨x,hx,rfl⟩:=vn hd
    obtain ⟨x0,x1⟩:=af.lQ.mp hx
    refine cj ?_
    intro fS b7
    set_option simprocs false in simp only [bC,Vy,VT,VP,VQ,IA,Jv (tn.mem x0 x1)]
    exact b7 _ _ ⟨rfl,Ex.refl⟩
   ·intro qu k7
    have e:(aJ 0 n).map (fun d=>D.int (xs.idxOf (inD d):Int))=(af.inv xs).map D.int:=by
     rw [pC,zN (f:=fun x=>(xs.idxOf x:Int)) fun x hx=>rfl]
     unfold af.inv
     rw [hlen]
    rw [e]
    w_how
    refine hQ _ _ (cb ?_)
    clear hQ
    kspl_open hQ
    refine hQ _ _ ⟨af.inv xs,(-k).toNat,?_,tn.aB,?_,k7.app _⟩
    ·rw [show (0:Int) - k=(((-k).toNat:Nat):Int) by omega];rfl
    ·unfold af.pw;rw [if_neg (by omega)]
  ·have h:=of_decide_eq_false h
   rw [VH (by omega)]
  ·have h:=of_decide_eq_false h
   unfold af.pw;rw [if_pos (by omega)]
 rintro δ st1 ⟨zs,j,rfl,tz,ej,k1⟩
 have Jl:=tz.length
 refine aX (cb ?_)
 kspl_open hQ
 refine ⟨rfl,hQ _ _ (aX (zL (fun m δ st2=>∃ k:Nat,m=n - (k + 1)/\δ=[some (.tup (zs.map D.int)),some (.int s),some (.int (j:Int)),some (.ref st1.length)]/\st2[st1.length]?=some (.lst ((af.row zs s k).map D.int))/\af.NB zs s k/\Ex [] st1 st2) (n - 1) (V7 (show n - 1<=100 by omega) (by decide)) ⟨0,rfl,rfl,h7,fun j h1 h2=>by omega,Ex.cB _⟩ ?_))⟩
 clear hQ
 rintro m δ st2 ⟨k',rfl,rfl,hL,nb,k2⟩
 have hrl:=tz.kE s0 s1 nb
 obtain ⟨y0,y1⟩:=tz.bL s0 s1 k'
 refine cj ?_
 intro dN hQ
 set_option simprocs false in simp only [bC,bu hL,M1,pD (xs:=zs) y0 (by omega)]
 refine hQ _ _ ⟨fun hb=>?_,fun hb=>?_⟩
 ·have hb:af.bL zs s (k' + 1)≠s:=by show af.app zs (af.bL zs s k')≠s;simpa using hb
  have DM:af.NB zs s (k' + 1):=fun j h1 h2=>by
   by_cases hj:j<=k'
   ·exact nb j h1 hj
   ·have:j=k' + 1:=by omega
    rw [this];exact hb
  have hle:=tz.kE s0 s1 DM
  refine nc ?_
  refine cj ?_
  intro fS b7
  set_option simprocs false in simp only [bC,bu hL,M1,pD (xs:=zs) y0 (by omega),jy hL]
  refine ⟨lx (by rw [bu hL];rfl),jz (by rw [Vd,af.sE];omega),b7 _ _ ⟨n - (k' + 1 + 1),by omega,k' + 1,rfl,rfl,?_,DM,k2.loc (Vh _)⟩⟩
  rw [Vi (dH hL),af.Lg,Vx];rfl
 ·have hb:af.bL zs s (k' + 1)=s:=by show af.app zs (af.bL zs s k')=s;simpa using hb
  refine dQ ?_
  have hpos:(0:Int) < ((k' + 1:Nat):Int):=by omega
  have eL:((((af.row zs s k').map D.int).length:Nat):Int)=((k' + 1:Nat):Int):=by rw [Vd,af.sE]
  refine cj ?_
  intro fS b7
  set_option simprocs false in simp only [bC,bu hL,eL,MW (Wc (j:Int) (Int.ne_of_gt hpos)) (Wk (j:Int) hpos)]
  refine ⟨hpos,b7 _ _ ⟨?_,k1.trans k2⟩⟩
  rw [<- ej,show ((j:Int) % ((k' + 1:Nat):Int)).toNat=j % (k' + 1) by omega,af.Lj hb]
theorem Tq {st:Store} {xs ys:List Int} {n:Nat} {k:Int} (tx:af.Tn n xs) (ty:af.Tn n ys) (hn:n<=100):Wp (pb [cq xs ys,.tup [.str "s",.int k]] st) fun d st'=>d=cq xs (af.shr xs ys k)/\Ex [] st st':=by
 have hlx:=tx.length
 have An:=ty.length
 refine iy ?_
 show Ws (zW [some (cq xs ys),some (.tup [.str "s",.int k]),none,none,none] st) _ _ _ _
 unfold zW cq
 refine aX (oA ?_)
 kspl_open hQ
 refine hQ _ _ ?_
 clear hQ
 kspl_open hQ
 refine ⟨rfl,hQ _ _ (aX (gJ ?_))⟩
 clear hQ
 kspl_open hQ
 refine hQ _ _ ⟨fun _=>dQ ?_,fun h=>absurd h (by simp)⟩
 clear hQ
 kspl_open hQ
 refine pE (aJ 0 n) (fun d=>.int (af.app ys (af.pw xs (-k) (inD d)))) ?_ (by rw [gH];omega) ?_ ?_
 ·kspl_open b7
  rw [Vd,An]
  exact ⟨by omega,b7 _ _ ⟨by rw [Vr];exact qg _ _,Ex.refl⟩⟩
 ·intro d hd qu k7
  rw [pC] at hd
  obtain ⟨x,hx,rfl⟩:=vn hd
  obtain ⟨x0,x1⟩:=af.lQ.mp hx
  obtain ⟨p0,p1⟩:=tx.pw x0 x1 (-k)
  refine cj ?_
  intro fS b7
  set_option simprocs false in simp only [bC,Vy,VT,VP,VQ]
  refine a7 (Tp (k:=0 - k) tx hn x0 x1) ?_
  rintro d lA ⟨rfl,k8⟩
  rw [show (0:Int) - k=-k by omega]
  set_option simprocs false in simp only [bC,pD (xs:=ys) p0 (by omega)]
  exact b7 _ _ ⟨rfl,k8⟩
 ·intro qu k7
  have e:(aJ 0 n).map (fun d=>D.int (af.app ys (af.pw xs (-k) (inD d))))=(af.shr xs ys k).map D.int:=by
   rw [pC,zN (f:=fun x=>af.app ys (af.pw xs (-k) x)) fun x hx=>rfl]
   unfold af.shr af.bh af.cK
   rw [hlx,VB,VB,VB]
   rfl
  rw [e]
  w_how
  exact ⟨rfl,hQ _ _ ⟨rfl,k7.app _⟩⟩
def ni (xs ys:List Int):Nat->List Int×List Int
 | 0=>(xs,ys)
 | j + 1=>(af.inv (ni xs ys j).2,(ni xs ys j).1)
theorem DO {n:Nat} {xs ys:List Int} (tx:af.Tn n xs) (ty:af.Tn n ys):∀ j,af.Tn n (ni xs ys j).1/\af.Tn n (ni xs ys j).2
 | 0=>⟨tx,ty⟩
 | j + 1=>⟨(DO tx ty j).2.aB,(DO tx ty j).1⟩
theorem Tr {st:Store} {xs ys:List Int} {n j:Nat} (tx:af.Tn n xs) (ty:af.Tn n ys) (hn:n<=100) (hj:j < 4):Wp (pb [cq xs ys,.tup [.str "t",.int (j:Int)]] st) fun d st'=>d=cq (ni xs ys j).1 (ni xs ys j).2/\Ex [] st st':=by
 refine iy ?_
 show Ws (zW [some (cq xs ys),some (.tup [.str "t",.int (j:Int)]),none,none,none] st) _ _ _ _
 unfold zW cq
 refine aX (oA ?_)
 kspl_open hQ
 refine hQ _ _ ?_
 clear hQ
 kspl_open hQ
 refine ⟨rfl,hQ _ _ (aX (gJ ?_))⟩
 clear hQ
 kspl_open hQ
 refine hQ _ _ ⟨fun h=>absurd h (by decide),fun _=>iG (aX (lZ (aJ 0 j) (fun i δ st2=>∃ v4:Option D,δ=[some (.tup [.tup (xs.map D.int),.tup (ys.map D.int)]),some (.tup [.str "t",.int (j:Int)]),some (.tup ((ni xs ys i).1.map D.int)),some (.tup ((ni xs ys i).2.map D.int)),v4]/\Ex [] st st2) ?_ (by rw [gH];omega) ?_ ?_))⟩
 ·clear hQ
  kspl_open hQ
  rw [show (j:Int) % 4=(j:Int) by omega]
  exact ⟨by omega,by omega,hQ _ _ ⟨by rw [Vr],none,rfl,Ex.refl⟩⟩
 ·rintro i d δ st2 hd ⟨v4,rfl,k2⟩
  obtain ⟨ta,tb⟩:=DO tx ty i
  show Wp _ _
  have hlb:=tb.length
  generalize hzs:(ni xs ys i).2=zs at tb hlb ⊢
  clear hQ
  kspl_open hQ
  refine hQ _ _ (oA ?_)
  clear hQ
  kspl_open hQ
  refine pE (aJ 0 n) (fun d=>.int (zs.idxOf (inD d):Int)) ?_ (by rw [gH];omega) ?_ ?_
  ·kspl_open b7
   rw [Vd,hlb]
   exact ⟨by omega,b7 _ _ ⟨by rw [Vr];exact qg _ _,Ex.refl⟩⟩
  ·intro d hd qu k7
   rw [pC] at hd
   obtain ⟨x,hx,rfl⟩:=vn hd
   obtain ⟨x0,x1⟩:=af.lQ.mp hx
   refine cj ?_
   intro fS b7
   set_option simprocs false in simp only [bC,Vy,VT,VP,VQ,IA,Jv (tb.mem x0 x1)]
   exact b7 _ _ ⟨rfl,Ex.refl⟩
  ·intro qu k7
   have e:(aJ 0 n).map (fun d=>D.int (zs.idxOf (inD d):Int))=(af.inv zs).map D.int:=by
    rw [pC,zN (f:=fun x=>(zs.idxOf x:Int)) fun x hx=>rfl]
    unfold af.inv
    rw [hlb]
   rw [e]
   w_how
   refine ⟨rfl,hQ _ _ ?_⟩
   clear hQ
   kspl_open hQ
   refine ⟨rfl,hQ _ _ ⟨some d,?_,(k2.trans k7).app _⟩⟩
   rw [show (ni xs ys (i + 1)).1=af.inv (ni xs ys i).2 from rfl,show (ni xs ys (i + 1)).2=(ni xs ys i).1 from rfl,hzs]
 ·rintro δ st2 ⟨v4,rfl,k2⟩
  rw [gH]
  refine dQ ?_
  clear hQ
  kspl_open hQ
  exact ⟨rfl,hQ _ _ ⟨rfl,k2⟩⟩
def yV (s:fw):Prop:=s.1=false->1<=s.2/\s.2<=3
def hU (p:List Int×List Int) (s:fw):List Int×List Int:=if s.1=true then (p.1,af.shr p.1 p.2 s.2) else ni p.1 p.2 s.2.toNat
def kP (p:List Int×List Int) (w:List fw):List Int×List Int:=w.foldl hU p
theorem Ts {n:Nat} {p:List Int×List Int} (h:af.Tn n p.1/\af.Tn n p.2) (s:fw):af.Tn n (hU p s).1/\af.Tn n (hU p s).2:=by
 unfold hU
 split
 ·exact ⟨h.1,h.1.shr h.2 _⟩
 ·exact DO h.1 h.2 _
theorem Jw {n:Nat}:∀ {p:List Int×List Int},af.Tn n p.1/\af.Tn n p.2->∀ w:List fw,af.Tn n (kP p w).1/\af.Tn n (kP p w).2
 | _,h,[]=>h
 | _,h,s :: w=>Jw (Ts h s) w
theorem Tt (p:List Int×List Int) (v w:List fw):kP p (v ++ w)=kP (kP p v) w:=by unfold kP;rw [Wa]
theorem M3 (p:List Int×List Int) (w:List fw) (s:fw):kP p (w ++ [s])=hU (kP p w) s:=by rw [Tt];rfl
def aN (p:List Int×List Int):D:=cq p.1 p.2
theorem Jx {st:Store} {p:List Int×List Int} {n:Nat} {s:fw} (h:af.Tn n p.1/\af.Tn n p.2) (hn:n<=100) (hs:yV s):Wp (pb [aN p,bF s] st) fun d st'=>d=aN (hU p s)/\Ex [] st st':=by
 obtain ⟨b,k⟩:=s
 cases b with
 | true=>exact Tq (k:=k) h.1 h.2 hn
 | false =>
  obtain ⟨k1,k3⟩:=hs rfl
  obtain ⟨j,rfl⟩:∃ j:Nat,k=(j:Int):=⟨k.toNat,by simp only at k1;omega⟩
  have:=Tr (st:=st) (j:=j) h.1 h.2 hn (by simp only at k3;omega)
  refine a7 this ?_
  rintro d st1 ⟨rfl,k1⟩
  refine ⟨?_,k1⟩
  unfold aN hU
  rw [if_neg (show ¬ (false=true) from Vo),Vr]
theorem Jy {st:Store} {p:List Int×List Int} {n:Nat} {w:List fw} (h:af.Tn n p.1/\af.Tn n p.2) (hn:n<=100) (hw:∀ s∈w,yV s) (hl:w.length<=1000):Wp (sU [aN p,.tup (w.map bF)] st) fun d st'=>d=aN (kP p w)/\Ex [] st st':=by
 refine iy ?_
 show Ws (F7 [some (aN p),some (.tup (w.map bF)),none] st) _ _ _ _
 unfold F7
 refine aX (lZ (w.map bF) (fun i δ st2=>∃ v2:Option D,δ=[some (aN (kP p (w.take i))),some (.tup (w.map bF)),v2]/\Ex [] st st2) ?_ (by rw [Vd];omega) ?_ ?_)
 ·kspl_open hQ
  exact hQ _ _ ⟨rfl,none,rfl,Ex.refl⟩
 ·rintro i d δ st2 hd ⟨v2,rfl,k2⟩
  rw [Vm] at hd
  obtain ⟨s,hs,rfl⟩:=VR.mp hd
  obtain ⟨hil,es⟩:=Ve.mp hs
  kspl_open hQ
  refine hQ _ _ (cb ?_)
  clear hQ
  kspl_open hQ
  refine a7 (Jx (Jw h _) hn (hw s (Vk hs))) ?_
  rintro d st3 ⟨rfl,k3⟩
  refine hQ _ _ ⟨some (bF s),?_,k2.trans k3⟩
  rw [VM hil,M3,es]
  rfl
 ·rintro δ st2 ⟨v2,rfl,k2⟩
  rw [Vd,Wj]
  refine dQ ?_
  kspl_open hQ
  exact hQ _ _ ⟨rfl,k2⟩
theorem Tv {st:Store} {p:List Int×List Int} {n:Nat} {s:fw} (h:af.Tn n p.1/\af.Tn n p.2) (hn:n<=100) (hs:yV s):Wp (Dh [aN p,bF s] st) fun d st'=>d=aN (hU p s)/\Ex [] st st':=by
 obtain ⟨b,k⟩:=s
 refine iy ?_
 show Ws (FL [some (aN p),some (bF (b,k)),none,none] st) _ _ _ _
 unfold FL bF
 cases b with
 | true =>
  refine aX (gJ ?_)
  kspl_open hQ
  refine hQ _ _ ⟨fun _=>dQ ?_,fun z=>absurd z (by decide)⟩
  clear hQ
  kspl_open hQ
  refine a7 (MZ (k:=k) h.1 h.2 hn) ?_
  rintro d st1 ⟨rfl,k1⟩
  exact hQ _ _ ⟨rfl,k1⟩
 | false =>
  obtain ⟨k1,k3⟩:=hs rfl
  obtain ⟨j,rfl⟩:∃ j:Nat,k=(j:Int):=⟨k.toNat,by simp only at k1;omega⟩
  refine aX (gJ ?_)
  kspl_open hQ
  refine hQ _ _ ⟨fun z=>absurd z (by decide),fun _=>iG (aX (cb ?_))⟩
  clear hQ
  kspl_open hQ
  refine hQ _ _ (aX (lZ (aJ 0 j) (fun i δ st2=>∃ v3:Option D,δ=[some (aN p),some (bF (false,(j:Int))),some (cq (ni p.1 p.2 i).1 (ni p.1 p.2 i).2),v3]/\Ex [] st st2) ?_ (by rw [gH];simp only at k3;omega) ?_ ?_))
  ·clear hQ
   kspl_open hQ
   exact ⟨by simp only at k3;omega,hQ _ _ ⟨by rw [Vr],none,rfl,Ex.refl⟩⟩
  ·rintro i d δ st2 hd ⟨v3,rfl,k2⟩
   obtain ⟨ta,tb⟩:=DO h.1 h.2 i
   clear hQ
   kspl_open hQ
   refine hQ _ _ (cb ?_)
   clear hQ
   kspl_open hQ
   refine a7 (M0 ta tb hn) ?_
   rintro d' st3 ⟨rfl,k3⟩
   exact hQ _ _ ⟨some d,rfl,k2.trans k3⟩
  ·rintro δ st2 ⟨v3,rfl,k2⟩
   rw [gH]
   refine dQ ?_
   clear hQ
   kspl_open hQ
   refine hQ _ _ ⟨?_,k2⟩
   unfold aN hU
   rw [if_neg (show ¬ (false=true) from Vo),Vr]
theorem M4 {st:Store} {p:List Int×List Int} {n:Nat} {w:List fw} (h:af.Tn n p.1/\af.Tn n p.2) (hn:n<=100) (hw:∀ s∈w,yV s) (hl:w.length<=1000):Wp (vB [aN p,.tup (w.map bF)] st) fun d st'=>d=aN (kP p w)/\Ex [] st st':=by
 refine iy ?_
 show Ws (FO [some (aN p),some (.tup (w.map bF)),none,none] st) _ _ _ _
 unfold FO
 refine aX (cb ?_)
 kspl_open hQ
 refine hQ _ _ (aX (lZ (w.map bF) (fun i δ st2=>∃ v2:Option D,δ=[some (aN p),some (.tup (w.map bF)),some (aN (kP p (w.take i))),v2]/\Ex [] st st2) ?_ (by rw [Vd];omega) ?_ ?_))
 ·clear hQ
  kspl_open hQ
  exact hQ _ _ ⟨rfl,none,rfl,Ex.refl⟩
 ·rintro i d δ st2 hd ⟨v2,rfl,k2⟩
  rw [Vm] at hd
  obtain ⟨s,hs,rfl⟩:=VR.mp hd
  obtain ⟨hil,es⟩:=Ve.mp hs
  clear hQ
  kspl_open hQ
  refine hQ _ _ (cb ?_)
  clear hQ
  kspl_open hQ
  refine a7 (Tv (Jw h _) hn (hw s (Vk hs))) ?_
  rintro d st3 ⟨rfl,k3⟩
  refine hQ _ _ ⟨some (bF s),?_,k2.trans k3⟩
  rw [VM hil,M3,es]
  rfl
 ·rintro δ st2 ⟨v2,rfl,k2⟩
  rw [Vd,Wj]
  refine dQ ?_
  clear hQ
  kspl_open hQ
  exact hQ _ _ ⟨rfl,k2⟩
def DP (g:Int) (s:fw):Prop:=(s.1=false->1<=s.2/\s.2<=3)/\(s.2.natAbs:Int)<=g/\s.2≠0
theorem M5 {st:Store} {f:Nat} {most great:Int} (hf:aW st f) (m0:0<=most) (m1:most<=100) (g0:3<=great) (g1:great<=1000):Wp (vC [.ref f,.int most,.int great] st) fun d st'=>∃ w:List fw,d=.tup (w.map bF)/\(∀ s∈w,DP great s)/\(w.length:Int)<=most/\aW st' f/\Ex [f] st st':=by
 have hfl:=hf.lt
 refine iy ?_
 show Ws (F0 [some (.ref f),some (.int most),some (.int great),none,none] st) _ _ _ _
 unfold F0
 refine aX (cb ?_)
 kspl_open hQ
 refine ⟨rfl,hQ _ _ ?_⟩
 clear hQ
 show Ws _ _ _ _ _
 obtain ⟨d,st1,e1,c,rfl,c0,c1,f1,k1⟩:=nF (st:=st ++ [O.lst []]) (n:=most + 1) (hf.keep (Ex.cB _)) (by omega) (by omega)
 obtain ⟨m,rfl⟩:∃ m:Nat,c=(m:Int):=⟨c.toNat,by omega⟩
 have hl1:st1[st.length]?=some (.lst []):=k1.keep _ _ h7 (by simp;omega)
 have kx:Ex [f] st st1:=(Ex.cB _).trans k1
 refine aX (lZ (aJ 0 m) (fun i δ st2=>∃ (v4:Option D) (w:List fw),δ=[some (.ref f),some (.int most),some (.int great),some (.ref st.length),v4]/\st2[st.length]?=some (.lst (w.map bF))/\(∀ s∈w,DP great s)/\w.length<=i/\aW st2 f/\Ex [f] st st2) ?_ (by rw [gH];omega) ?_ ?_)
 ·kspl_open hQ
  refine ⟨_,_,e1,?_⟩
  exact ⟨_,rfl,by omega,hQ _ _ ⟨by rw [Vr],none,[],rfl,hl1,(fun s hs=>nomatch hs),Vh _,f1,kx⟩⟩
 ·rintro i d δ st2 hd ⟨v4,w,rfl,hl2,hw,hwl,f2,k2⟩
  have hil:=dH hd
  rw [gH] at hil
  have put:∀ (s:fw) (ku:Store),DP great s->aW ku f->ku[st.length]?=some (.lst (w.map bF))->Ex [f] st ku->∀ v4:Option D,∃ (Tw:Option D) (w':List fw),[some (.ref f),some (.int most),some (.int great),some (.ref st.length),v4]=[some (.ref f),some (.int most),some (.int great),some (.ref st.length),Tw]/\(ku.set st.length (.lst (w.map bF ++ [bF s])))[st.length]?=some (.lst (w'.map bF))/\(∀ s∈w',DP great s)/\w'.length<=i + 1/\aW (ku.set st.length (.lst (w.map bF ++ [bF s]))) f/\Ex [f] st (ku.set st.length (.lst (w.map bF ++ [bF s]))):=fun s ku os f5 h5 k5 v4=>by
   refine ⟨v4,w ++ [s],rfl,?_,fun s' hs'=>?_,by rw [Vj];simp;omega,f5.ne (by omega),k5.loc (Vh _)⟩
   ·rw [Vi (dH h5),Vx];rfl
   ·rcases VG.mp hs' with h | h
    ·exact hw s' h
    ·rw [Vz.mp h];exact os
  kspl_open hQ
  refine hQ _ _ (gJ ?_)
  clear hQ
  kspl_open hQ
  refine a7 (nF (n:=2) f2 (by decide) (by decide)) ?_
  rintro d' st3 ⟨b,rfl,b0,b1,f3,k3⟩
  have hl3:=k3.keep _ _ hl2 (by simp;omega)
  w_how
  refine hQ _ _ ⟨fun _=>nc ?_,fun _=>aX (cb ?_)⟩
  ·clear hQ
   kspl_open hQ
   refine ⟨lx (by rw [bu hl3];rfl),?_⟩
   refine a7 (nF (n:=3) f3 (by decide) (by decide)) ?_
   rintro d' mG ⟨c,rfl,c0,c1,f4,k4⟩
   have qT:=k4.keep _ _ hl3 (by simp;omega)
   set_option simprocs false in simp only [bC,jy qT]
   refine ⟨rfl,jz (by rw [Vd];omega),hQ _ _ ?_⟩
   exact put (false,1 + c) mG ⟨fun _=>⟨by show 1<=1 + c;omega,by show 1 + c<=3;omega⟩,by show ((1 + c).natAbs:Int)<=great;omega,by show 1 + c≠0;omega⟩ f4 qT ((k2.trans k3).trans k4) _
  ·clear hQ
   kspl_open hQ
   refine a7 (nF (n:=great) f3 (by omega) (by omega)) ?_
   rintro d' mG ⟨c,rfl,c0,c1,f4,k4⟩
   have qT:=k4.keep _ _ hl3 (by simp;omega)
   w_how
   refine hQ _ _ (nc ?_)
   clear hQ
   kspl_open hQ
   refine ⟨lx (by rw [bu qT];rfl),rfl,?_⟩
   refine a7 (nF (n:=2) (f4.keep (Ex.cB [O.lst [D.int (1 + c),D.int (0 - (1 + c))]])) (by decide) (by decide)) ?_
   rintro d' ku ⟨g,rfl,UO,UP,f5,k5⟩
   have Tx:ku[mG.length]?=some (.lst [D.int (1 + c),D.int (0 - (1 + c))]):=k5.keep _ _ h7 (by have:=f4.lt;simp;omega)
   have DN:ku[st.length]?=some (.lst (w.map bF)):=k5.keep _ _ (hW qT) (by simp;omega)
   obtain ⟨sg,hsg,s1,s2⟩:∃ sg:Int,d5 [D.int (1 + c),D.int (0 - (1 + c))] g=some (.int sg)/\(sg.natAbs:Int)<=great/\sg≠0:=by
    rcases (show g=0\/g=1 by omega) with rfl | rfl
    ·exact ⟨1 + c,L8 _ _,by omega,by omega⟩
    ·exact ⟨0 - (1 + c),L9 _ _ _,by omega,by omega⟩
   set_option simprocs false in simp only [bC,bu Tx,hsg,jy DN]
   refine ⟨rfl,jz (by rw [Vd];omega),hQ _ _ ?_⟩
   exact put (true,sg) ku ⟨fun z=>Bool.noConfusion (show true=false from z),s1,s2⟩ f5 DN (((k2.trans k3).trans k4).trans ((Ex.cB _).trans k5)) _
 ·rintro δ st2 ⟨v4,w,rfl,hl2,hw,hwl,f2,k2⟩
  rw [gH] at hwl
  refine dQ ?_
  refine cj ?_
  intro dN hQ
  set_option simprocs false in simp only [bC,bu hl2]
  exact hQ _ _ ⟨w,rfl,hw,by omega,f2,k2⟩
theorem Tz {st:Store} {a b:fw}:Wp (Dj [bF a,bF b] st) fun d st'=>d=.tup ((af.cI a b).map bF)/\Ex [] st st':=by
 obtain ⟨ab,ak⟩:=a
 obtain ⟨bb,bk⟩:=b
 refine iy ?_
 show Ws (FQ [some (.tup [.str (if ab then "s" else "t"),.int ak]),some (.tup [.str (if bb then "s" else "t"),.int bk]),none] st) _ _ _ _
 unfold FQ
 have hj:af.cI (ab,ak) (bb,bk)=if af.iC (ab,ak) (bb,bk)=0 then [] else [(ab,af.iC (ab,ak) (bb,bk))]:=rfl
 refine aX (cb ?_)
 kspl_open hQ
 refine hQ _ _ ?_
 clear hQ
 show Ws _ _ _ _ _
 refine aX (sO (N:=fun δ st1=>st1=st/\δ=[some (.tup [.str (if ab then "s" else "t"),.int ak]),some (.tup [.str (if bb then "s" else "t"),.int bk]),some (.int (af.iC (ab,ak) (bb,bk)))]) (gJ ?_) ?_)
 ·kspl_open hQ
  refine hQ _ _ ⟨fun h=>cb ?_,fun h=>iG ⟨rfl,?_⟩⟩
  ·cases ab with
   | true=>exact absurd h (by decide)
   | false =>
    clear hQ
    kspl_open hQ
    exact ⟨by decide,hQ _ _ ⟨rfl,rfl⟩⟩
  ·cases ab with
   | true=>rfl
   | false=>exact absurd h (by decide)
 ·rintro δ st1 ⟨rfl,rfl⟩
  refine aX (gJ ?_)
  kspl_open hQ
  refine hQ _ _ ⟨fun h=>dQ ?_,fun h=>iG (dQ ?_)⟩
  ·have h:=of_decide_eq_true h
   clear hQ
   kspl_open hQ
   refine ⟨rfl,hQ _ _ ⟨?_,Ex.refl⟩⟩
   rw [hj,if_pos h];rfl
  ·have h:=of_decide_eq_false h
   clear hQ
   kspl_open hQ
   refine ⟨rfl,rfl,hQ _ _ ⟨?_,Ex.refl⟩⟩
   rw [hj,if_neg h];rfl
theorem Jz {xs:List D} {x:D}:d5 (xs ++ [x]) (-1)=some x:=by
 unfold d5 lW
 rw [Vj,if_neg (by decide),if_pos (by simp;omega)]
 simp only [Wi]
 have e:((-1:Int) + ((xs.length + [x].length:Nat):Int)).toNat=xs.length:=by simp only [Wt];omega
 rw [e];simp
theorem TB {xs:List D} {x:D}:cutD (xs ++ [x]) none (some (-1))=xs:=by
 have e1:HT.cO (xs ++ [x]).length 0 none=0:=rfl
 have e2:HT.cO (xs ++ [x]).length (xs ++ [x]).length (some (-1))=xs.length:=by
  unfold HT.cO
  simp only
  rw [if_pos (by decide),Vj,Wt];omega
 unfold cutD
 rw [e1,e2,Xi,Nat.sub_zero]
 simp
theorem TC (a b:Bool):(((if a=true then ("s" : Str) else "t")=(if b=true then ("s" : Str) else "t")))↔a=b:=by
 cases a <;> cases b <;> decide
theorem TF {st:Store} {w:List fw} (hl:w.length<=1000):Wp (Dl [.tup (w.map bF)] st) fun d st'=>d=.tup ((af.j4 w).reverse.map bF)/\Ex [] st st':=by
 refine iy ?_
 show Ws (FR [some (.tup (w.map bF)),none,none] st) _ _ _ _
 unfold FR
 refine aX (cb ?_)
 kspl_open hQ
 refine ⟨rfl,hQ _ _ ?_⟩
 clear hQ
 show Ws _ _ _ _ _
 refine aX (lZ (w.map bF) (fun i δ st2=>∃ v:Option D,δ=[some (.tup (w.map bF)),some (.tup ((af.j4 (w.take i)).reverse.map bF)),v]/\Ex [] st st2) ?_ (by rw [Vd];omega) ?_ ?_)
 ·kspl_open hQ
  exact hQ _ _ ⟨rfl,none,rfl,Ex.refl⟩
 ·rintro i d δ st2 hd ⟨v2,rfl,k2⟩
  rw [Vm] at hd
  obtain ⟨s,hs,rfl⟩:=VR.mp hd
  obtain ⟨hil,es⟩:=Ve.mp hs
  have ep:af.j4 (w.take (i + 1))=af.cm (af.j4 (w.take i)) s:=by rw [VM hil,af.HL,es];rfl
  have hpl:(af.j4 (w.take i)).length<=1000:=by have:=af.HM (w.take i);rw [V6] at this;omega
  rw [ep]
  clear ep
  generalize af.j4 (w.take i)=l at hpl ⊢
  kspl_open hQ
  refine hQ _ _ (gJ ?_)
  clear hQ
  kspl_open hQ
  cases l with
  | nil =>
   refine hQ _ _ ⟨fun h=>absurd h (by decide),fun _=>cb ?_⟩
   clear hQ
   kspl_open hQ
   exact ⟨rfl,rfl,hQ _ _ ⟨some (bF s),rfl,k2⟩⟩
  | cons t r =>
   have eg:(t :: r).reverse.map bF=r.reverse.map bF ++ [bF t]:=by simp
   rw [eg]
   have el:decide ((0:Int) < ((r.reverse.map bF ++ [bF t]).length:Nat))=true:=decide_eq_true (by simp)
   have es1:bF t=.tup [.str (if t.1 then "s" else "t"),.int t.2]:=rfl
   have Gp:bF s=.tup [.str (if s.1 then "s" else "t"),.int s.2]:=rfl
   have elt:(if t.1=true then ("s" : Str) else "t")=(if s.1=true then ("s" : Str) else "t")↔t.1=s.1:=TC _ _
   set_option simprocs false in simp only [bC,Jz,es1,Gp]
   rw [if_pos (by simp)]
   refine hQ _ _ ⟨fun h=>cb ?_,fun h=>cb ?_⟩
   ·have h:=elt.mp (of_decide_eq_true h)
    clear hQ
    kspl_open hQ
    rw [eg,TB]
    set_option simprocs false in simp only [bC,Jz]
    refine a7 Tz ?_
    rintro d st3 ⟨rfl,k3⟩
    w_how
    refine ⟨jz ?_,hQ _ _ ⟨some (bF s),?_,k2.trans k3⟩⟩
    ·have:(af.cI t s).length<=1:=by unfold af.cI;split <;> simp
     simp only [Vd,WZ]
     simp only [VJ] at hpl
     omega
    ·have ej:(af.cI t s).reverse=af.cI t s:=by unfold af.cI;split <;> rfl
     rw [af.sG,if_pos h,List.reverse_append,Vx,ej]
     rfl
   ·have h:=fun e=>of_decide_eq_false h (elt.mpr e)
    clear hQ
    kspl_open hQ
    refine ⟨rfl,jz ?_,hQ _ _ ⟨some (bF s),?_,k2⟩⟩
    ·simp only [Vd,WZ,Wt]
     omega
    ·have e2:(s :: t :: r).reverse.map bF=(t :: r).reverse.map bF ++ [bF s]:=by simp
     rw [af.sG,if_neg h,e2]
     rfl
 ·rintro δ st2 ⟨v2,rfl,k2⟩
  rw [Vd,Wj]
  refine dQ ?_
  kspl_open hQ
  exact hQ _ _ ⟨rfl,k2⟩
theorem TH {st:Store} {v w:List fw} (hl:v.length + w.length<=1000):Wp (Dq [.tup (v.map bF),.tup (w.map bF)] st) fun d st'=>d=.tup ((af.j4 (v ++ w)).reverse.map bF)/\Ex [] st st':=by
 refine iy ?_
 show Ws (FT [some (.tup (v.map bF)),some (.tup (w.map bF))] st) _ _ _ _
 unfold FT
 refine dQ ?_
 kspl_open hQ
 refine ⟨jz (by simp only [Vd];omega),?_⟩
 rw [<- Vx]
 refine a7 (TF (by rw [Vj];exact hl)) ?_
 rintro d st3 ⟨rfl,k3⟩
 exact hQ _ _ ⟨rfl,k3⟩
theorem TJ {st:Store} {xs ys:List Int} {n:Nat} {s:Int} (fl:ng n xs ys) (hn:n<=100) (s0:0<=s) (s1:s < (n:Int)):Wp (C4 [cq xs ys,.int s] st) fun d st'=>d=.tup ((af.inv (af.bf xs ys s n)).map D.int)/\Ex [] st st':=by
 obtain ⟨tx,ty,all⟩:=fl
 refine iy ?_
 show Ws (FC [some (cq xs ys),some (.int s)] st) _ _ _ _
 unfold FC
 refine dQ ?_
 kspl_open hQ
 refine a7 (Ta tx ty hn s0 s1) ?_
 rintro d st1 ⟨rfl,k1⟩
 refine a7 (Jo (af.EE tx ty s0 s1 all) hn) ?_
 rintro d st2 ⟨rfl,k2⟩
 exact hQ _ _ ⟨rfl,k1.trans k2⟩
def yW (xs ys:List Int) (s:Int) (n:Nat):D:=cq (af.num xs (af.bf xs ys s n)) (af.num ys (af.bf xs ys s n))
theorem TK {st:Store} {xs ys:List Int} {n:Nat} {s:Int} (fl:ng n xs ys) (hn:n<=100) (s0:0<=s) (s1:s < (n:Int)):Wp (C6 [cq xs ys,.int s] st) fun d st'=>d=yW xs ys s n/\Ex [] st st':=by
 have JA:=fl
 obtain ⟨tx,ty,all⟩:=fl
 have tb:=af.EE tx ty s0 s1 all
 refine iy ?_
 show Ws (FD [some (cq xs ys),some (.int s)] st) _ _ _ _
 unfold FD
 refine dQ ?_
 kspl_open hQ
 refine a7 (TJ JA hn s0 s1) ?_
 rintro d st1 ⟨rfl,k1⟩
 refine a7 (S9 tx ty tb.aB hn) ?_
 rintro d st2 ⟨rfl,k2⟩
 rw [af.uW tx tb,af.uW ty tb]
 exact hQ _ _ ⟨rfl,k1.trans k2⟩
theorem TL {st:Store} {xs ys:List Int} {n:Nat} {s:Int} (fl:ng n xs ys) (hn:n<=100) (s0:0<=s) (s1:s < (n:Int)):Wp (CT [cq xs ys,.int s] st) fun d st'=>d=yW xs ys s n/\Ex [] st st':=by
 obtain ⟨tx,ty,all⟩:=fl
 have hlx:=tx.length
 have An:=ty.length
 refine iy ?_
 show Ws (Fm [some (cq xs ys),some (.int s),none,none,none] st) _ _ _ _
 unfold Fm
 refine aX (cb ?_)
 kspl_open hQ
 refine ⟨rfl,hQ _ _ (aX (Iv ((af.upto n).map D.int) (st.length + 2) (fun k δ st2=>∃ (v3 v4:Option D),δ=[some (cq xs ys),some (.int s),some (.ref st.length),v3,v4]/\st2[st.length]?=some (.lst ((af.bf xs ys s k).map D.int))/\st2[st.length + 2]?=some (.lst ((af.upto n).map D.int))/\Ex [] st st2) ?_ ?_ ?_ ?_ ?_))⟩
 ·clear hQ
  unfold cq
  kspl_open hQ
  rw [Vd,hlx,show ((n:Int) - 0).toNat=n by omega,pC]
  have e:(st ++ [O.lst [D.int s]] ++ [O.jC 0 (n:Int)]).length=st.length + 2:=by simp
  rw [e]
  exact ⟨ua (by omega),hQ _ _ ⟨rfl,none,none,rfl,hW (hW h7),by rw [<- e];exact h7,((Ex.cB _).app _).app _⟩⟩
 ·rw [Vd,af.oM];omega
 ·rintro k δ st2 ⟨_,_,_,_,h,_⟩
  exact bu h
 ·rintro k d δ st2 hd ⟨v3,v4,rfl,hl,hr,k2⟩
  obtain ⟨x',hx',rfl⟩:=CG hd
  have hkn:=dH hx'
  rw [af.oM] at hkn
  rw [af.BE hkn] at hx'
  cases hx'
  have uk:=af.BH tx ty s0 s1 k
  have hb1:=af.BH tx ty s0 s1 (k + 1)
  clear hQ
  kspl_open hQ
  refine hQ _ _ ?_
  clear hQ
  by_cases mU:k < (af.bf xs ys s k).length
  ·obtain ⟨x,hx⟩:∃ x,(af.bf xs ys s k)[k]?=some x:=⟨_,Vg mU⟩
   obtain ⟨x0,x1⟩:=af.qv tx ty s0 s1 k x (Vk hx)
   have e1:af.bf xs ys s (k + 1)=af.visit xs ys (af.bf xs ys s k) x:=by
    show (match (af.bf xs ys s k)[k]? with | some x=>af.visit xs ys (af.bf xs ys s k) x | none=>af.bf xs ys s k)=_
    rw [hx]
   rw [e1] at hb1 ⊢
   have hp1:=(af.uV (af.cP (af.bf xs ys s k) (af.app xs x)) (af.app ys x)).length_le
   have hp0:=(af.uV (af.bf xs ys s k) (af.app xs x)).length_le
   change _<=(af.visit xs ys (af.bf xs ys s k) x).length at hp1
   refine lZ [.tup (xs.map D.int),.tup (ys.map D.int)] (fun m δ st3=>∃ (v4:Option D) (G:List Int),δ=[some (cq xs ys),some (.int s),some (.ref st.length),some (.int (k:Int)),v4]/\st3[st.length]?=some (.lst (G.map D.int))/\st3[st.length + 2]?=some (.lst ((af.upto n).map D.int))/\(m=0->G=af.bf xs ys s k)/\(m=1->G=af.cP (af.bf xs ys s k) (af.app xs x))/\(m=2->G=af.visit xs ys (af.bf xs ys s k) x)/\Ex [] st st3) ?_ (by simp) ?_ ?_
   ·unfold cq
    kspl_open hQ
    exact hQ _ _ ⟨rfl,v4,_,rfl,hl,hr,fun _=>rfl,fun z=>by omega,fun z=>by omega,k2⟩
   ·rintro m z δ st3 hm ⟨v4,G,rfl,hl3,oZ,g0,g1,_,k3⟩
    have hm2:m < 2:=dH hm
    obtain ⟨zs,rfl,tz,em⟩:∃ (zs:List Int),z=.tup (zs.map D.int)/\af.Tn n zs/\((m=0/\zs=xs)\/(m=1/\zs=ys)):=by
     rcases (show m=0\/m=1 by omega) with rfl | rfl
     ·exact ⟨xs,by simpa using hm.symm,tx,.inl ⟨rfl,rfl⟩⟩
     ·exact ⟨ys,by simpa using hm.symm,ty,.inr ⟨rfl,rfl⟩⟩
    have hG:G.length<=100/\G[k]?=some x/\k < G.length:=by
     rcases em with ⟨rfl,_⟩ | ⟨rfl,_⟩
     ·rw [g0 rfl];exact ⟨by omega,hx,mU⟩
     ·rw [g1 rfl]
      refine ⟨by omega,?_,by omega⟩
      obtain ⟨t,e⟩:=af.uV (af.bf xs ys s k) (af.app xs x)
      rw [<- e,Vt mU];exact hx
    have DL:∀ G',G'=af.cP G (af.app zs x)->(m + 1=0->G'=af.bf xs ys s k)/\(m + 1=1->G'=af.cP (af.bf xs ys s k) (af.app xs x))/\(m + 1=2->G'=af.visit xs ys (af.bf xs ys s k) x):=fun G' e=>by
     rcases em with ⟨rfl,rfl⟩ | ⟨rfl,rfl⟩
     ·exact ⟨fun z=>by omega,fun _=>by rw [e,g0 rfl],fun z=>by omega⟩
     ·exact ⟨fun z=>by omega,fun z=>by omega,fun _=>by rw [e,g1 rfl];rfl⟩
    have hat:d5 (G.map D.int) (k:Int)=some (.int x):=zq (by rw [Vm,hG.2.1];rfl)
    have hdt:decide ((k:Int) < ((G.map D.int).length:Int))=true:=decide_eq_true (by rw [Vd];omega)
    kspl_open hQ
    refine hQ _ _ (gJ ?_)
    clear hQ
    refine cj ?_
    intro dN hQ
    set_option simprocs false in simp only [bC,bu hl3,hdt,hat,pD (xs:=zs) x0 (by rw [tz.length];exact x1),E5 (st:=st3) (c:=.ref st.length) (ns:=G) (bu hl3)]
    refine hQ _ _ ⟨fun hc=>nc ?_,fun hc=>iG ?_⟩
    ·obtain ⟨n0,n1,n2⟩:=DL (G ++ [af.app zs x]) (MU hc).symm
     refine cj ?_
     intro fS b7
     set_option simprocs false in simp only [bC,bu hl3,hat,pD (xs:=zs) x0 (by rw [tz.length];exact x1),jy hl3]
     refine ⟨lx (by rw [bu hl3];rfl),jz (by rw [Vd];omega),b7 _ _ ⟨_,G ++ [af.app zs x],rfl,?_,?_,n0,n1,n2,k3.loc (Vh _)⟩⟩
     ·rw [Vi (dH hl3),Vx];rfl
     ·rw [Vq (by omega)];exact oZ
    ·obtain ⟨n0,n1,n2⟩:=DL G (MV hc).symm
     exact ⟨_,G,rfl,hl3,oZ,n0,n1,n2,k3⟩
   ·rintro δ st3 ⟨v4,G,rfl,hl3,oZ,_,_,g2,k3⟩
    have g2:=g2 rfl
    subst g2
    exact ⟨_,_,rfl,hl3,oZ,k3⟩
  ·have e1:af.bf xs ys s (k + 1)=af.bf xs ys s k:=af.ED (k:=k) (by omega) 1
   rw [e1]
   have hdf:decide ((k:Int) < (((af.bf xs ys s k).map D.int).length:Int))=false:=decide_eq_false (by rw [Vd];omega)
   refine lZ [.tup (xs.map D.int),.tup (ys.map D.int)] (fun m δ st3=>∃ (v4:Option D),δ=[some (cq xs ys),some (.int s),some (.ref st.length),some (.int (k:Int)),v4]/\st3=st2) ?_ (by simp) ?_ ?_
   ·unfold cq
    kspl_open hQ
    exact hQ _ _ ⟨rfl,v4,rfl,rfl⟩
   ·rintro m z δ st3 hm ⟨v4,rfl,rfl⟩
    kspl_open hQ
    refine hQ _ _ (gJ ?_)
    clear hQ
    refine cj ?_
    intro dN hQ
    set_option simprocs false in simp only [bC,bu hl,hdf]
    exact hQ _ _ ⟨fun h=>absurd h (by decide),fun _=>iG ⟨_,rfl,rfl⟩⟩
   ·rintro δ st3 ⟨v4,rfl,rfl⟩
    exact ⟨_,_,rfl,hl,hr,k2⟩
 ·rintro δ st2 ⟨v3,v4,rfl,hl,hr,k2⟩
  rw [Vd,af.oM] at hl
  have tb:=af.EE tx ty s0 s1 all
  have hlb:=tb.length
  generalize DQ:af.bf xs ys s n=sq at hl tb hlb ⊢
  clear hQ
  unfold cq
  refine dQ ?_
  kspl_open hQ
  refine pE [.tup (xs.map D.int),.tup (ys.map D.int)] (fun d=>match d with | .tup ds=>.tup ((af.num (ds.map inD) sq).map D.int) | _=>.non) ?_ (by simp) ?_ ?_
  ·kspl_open b7
   exact b7 _ _ ⟨qg _ _,Ex.refl⟩
  ·intro d hd st3 k3
   obtain ⟨zs,rfl,tz⟩:∃ zs:List Int,d=.tup (zs.map D.int)/\af.Tn n zs:=by
    rcases VF.mp hd with rfl | hd
    ·exact ⟨xs,rfl,tx⟩
    ·exact ⟨ys,Vz.mp hd,ty⟩
   have hl3:=k3.keep _ _ hl (by simp)
   refine cj ?_
   intro fS b7
   set_option simprocs false in simp only [bC,Vy,VT,VP,VQ]
   refine pE (sq.map D.int) (fun d=>.int (sq.idxOf (af.app zs (inD d)):Int)) ?_ (by rw [Vd];omega) ?_ ?_
   ·kspl_open pJ
    exact ⟨_,bu hl3,pJ _ _ ⟨Mf (bu hl3),Ex.refl⟩⟩
   ·intro d hd mG k4
    obtain ⟨x,hx,rfl⟩:=vn hd
    obtain ⟨x0,x1⟩:=tb.bound hx
    obtain ⟨a0,a1⟩:=tz.app x0 x1
    have qT:=k4.keep _ _ hl3 (by simp)
    refine cj ?_
    intro yT pJ
    set_option simprocs false in simp only [bC,Vy,VT,VP,VQ,pD (xs:=zs) x0 (by rw [tz.length];exact x1),IB (bu qT) (tb.mem a0 a1) (by omega) (fun i hi=>by have:=tb.bound hi;omega)]
    exact ⟨lx (by rw [bu qT];rfl),pJ _ _ ⟨rfl,Ex.refl⟩⟩
   ·intro mG k4
    rw [zN (f:=fun x=>(sq.idxOf (af.app zs x):Int)) fun x hx=>rfl]
    w_how
    refine b7 _ _ ⟨?_,k4.app _⟩
    show D.tup _=D.tup ((af.num ((zs.map D.int).map inD) sq).map D.int)
    rw [Mg]
    rfl
  ·intro st3 k3
   w_how
   refine hQ _ _ ⟨?_,(k2.trans k3).app _⟩
   simp only [Vy,VT,Mg]
   unfold yW
   rw [DQ]
   rfl
theorem JB {n:Nat} {xs ys:List Int} (fl:ng n xs ys):af.Wh n (xs,ys):=⟨⟨fl.1,fl.2.1⟩,fl.2.2⟩
theorem yX {n:Nat} {p:af.aR} (w:af.Wh n p):ng n p.1 p.2:=⟨w.v.1,w.v.2,w.all⟩
theorem yZ {n:Nat} {p q:af.aR} (w:af.Wh n p) (n0:0 < n) (a:af.bT n p q):af.Wh n q:=by
 obtain ⟨g,tg,rfl⟩:=a
 have:=af.qh (yX w) tg n0
 exact ⟨⟨this.1,this.2.1⟩,this.2.2⟩
theorem M6 (p:af.aR) (n:Nat):(aJ 0 n).map (fun d=>cq (af.pB p n (inD d)).1 (af.pB p n (inD d)).2)=((af.upto n).map (af.pB p n)).map fun q=>cq q.1 q.2:=by
 rw [pC,VB,VB]
 rfl
theorem JC {st:Store} {xs ys:List Int} {n:Nat} (fl:ng n xs ys) (n0:0 < n) (hn:n<=20):Wp (mP [cq xs ys] st) fun d st'=>d=cq (af.bE n (xs,ys)).1 (af.bE n (xs,ys)).2/\Ex [] st st':=by
 have hlx:=fl.1.length
 refine iy ?_
 show Ws (FE [some (cq xs ys)] st) _ _ _ _
 unfold FE
 refine dQ ?_
 kspl_open hQ
 refine pE (aJ 0 n) (fun d=>cq (af.pB (xs,ys) n (inD d)).1 (af.pB (xs,ys) n (inD d)).2) ?_ (by rw [gH];omega) ?_ ?_
 ·unfold cq
  kspl_open b7
  rw [Vd,hlx]
  exact ⟨by omega,b7 _ _ ⟨by rw [Vr];exact qg _ _,Ex.refl⟩⟩
 ·intro d hd st2 k2
  rw [pC] at hd
  obtain ⟨x,hx,rfl⟩:=vn hd
  obtain ⟨x0,x1⟩:=af.lQ.mp hx
  refine cj ?_
  intro fS b7
  set_option simprocs false in simp only [bC,Vy,VT,VP,VQ]
  refine a7 (TK fl (by omega) x0 x1) ?_
  rintro d st3 ⟨rfl,k3⟩
  exact b7 _ _ ⟨rfl,k3⟩
 ·intro st' k'
  rw [M6,MA (jy h7) (by rw [Vd,af.oM];exact n0)]
  exact hQ _ _ ⟨rfl,k'.app _⟩
theorem JD {st:Store} {xs ys:List Int} {n:Nat} (fl:ng n xs ys) (n0:0 < n) (hn:n<=20):Wp (lJ [cq xs ys] st) fun d st'=>d=cq (af.bE n (xs,ys)).1 (af.bE n (xs,ys)).2/\Ex [] st st':=by
 have hlx:=fl.1.length
 refine iy ?_
 show Ws (Fp [some (cq xs ys)] st) _ _ _ _
 unfold Fp
 refine dQ ?_
 kspl_open hQ
 refine pE (aJ 0 n) (fun d=>cq (af.pB (xs,ys) n (inD d)).1 (af.pB (xs,ys) n (inD d)).2) ?_ (by rw [gH];omega) ?_ ?_
 ·unfold cq
  kspl_open b7
  rw [Vd,hlx]
  exact ⟨by omega,b7 _ _ ⟨by rw [Vr];exact qg _ _,Ex.refl⟩⟩
 ·intro d hd st2 k2
  rw [pC] at hd
  obtain ⟨x,hx,rfl⟩:=vn hd
  obtain ⟨x0,x1⟩:=af.lQ.mp hx
  refine cj ?_
  intro fS b7
  set_option simprocs false in simp only [bC,Vy,VT,VP,VQ]
  refine a7 (TL fl (by omega) x0 x1) ?_
  rintro d st3 ⟨rfl,k3⟩
  exact b7 _ _ ⟨rfl,k3⟩
 ·intro st' k'
  rw [M6,MA (jy h7) (by rw [Vd,af.oM];exact n0)]
  exact hQ _ _ ⟨rfl,k'.app _⟩
theorem BB {n:Nat} {f:Int->Int} {x:Int} (x0:0<=x) (x1:x < (n:Int)):af.app ((af.upto n).map f) x=f x:=by
 unfold af.app
 rw [Vv,Vm,af.BE (by omega)]
 show f ((x.toNat:Nat):Int)=f x
 rw [VH x0]
theorem M7 {g:Int} {s:fw} (h:DP g s):af.gE s:=⟨h.1,h.2.2⟩
theorem Gq {w:List fw} (h:∀ s∈w,af.gE s):∀ s∈w,yV s:=fun s hs=>(h s hs).1
theorem Gr:∀ (w:List fw) (p:List Int×List Int),kP p w=af.kF p w:=by
 have hq:∀ (p:List Int×List Int) (j:Nat),ni p.1 p.2 j=af.mM j p:=fun p j=>by
  induction j with
  | zero=>rfl
  | succ j ih=>show (af.inv (ni p.1 p.2 j).2,(ni p.1 p.2 j).1)=af.Qt (af.mM j p);rw [ih];rfl
 have hs:∀ (p:List Int×List Int) (s:fw),hU p s=af.stM p s:=fun p s=>by
  unfold hU af.stM
  rw [hq]
  rfl
 intro w
 induction w with
 | nil=>intro p;rfl
 | cons s w ih =>
  intro p
  show kP (hU p s) w=af.kF (af.stM p s) w
  rw [hs,ih]
open Classical in
theorem Gs {st:Store} {Q:D->Store->Prop} {neg:Bool} {n a b:Nat} {ds es:List D} (ha:items st a=some ds) (hb:items st b=some es) (h1:∀ d∈ds,pU n d) (h2:∀ d∈es,pU n d) (hn:n<=14):Wp (e8 neg (.ref a) (.ref b) st) Q↔Q (.bl (if neg then !decide (ds=es) else decide (ds=es))) st:=by
 have p1:∀ (i:Nat) (l:List D),items st i=some l->(∀ d∈l,pU n d)->fU st 20 (.ref i)=some (.list (l.map (jB n))):=fun i l h hl=>by
  simp only [fU,h]
  rw [CK (g:=jB n) fun x hx=>zO n x (hl x hx) 19 (by omega) st]
  rfl
 have e:PyData.eqv (.list (ds.map (jB n))) (.list (es.map (jB n)))=decide (ds=es):=by
  rw [IP]
  have:=Ja (CL n) ds es h1 h2
  cases h:PyData.eqvAll (ds.map (jB n)) (es.map (jB n)) with
  | true=>exact (decide_eq_true (this.mp h)).symm
  | false=>exact (decide_eq_false fun z=>by rw [this.mpr z] at h;cases h).symm
 have ly:∀ l:List D,(∀ d∈l,pU n d)->PyData.canLay0 (.list (l.map (jB n)))=true/\PyData.depth (.list (l.map (jB n)))<=n + 1:=fun l hl=>by
  refine ⟨?_,?_⟩
  ·show PyData.canLayAll0 (l.map (jB n))=true
   exact IY fun x hx=>by
    obtain ⟨d,hd,rfl⟩:=Vn.mp hx
    exact (vt n d (hl d hd)).1
  ·show PyData.depthAll (l.map (jB n)) + 1<=n + 1
   have:=IZ (n:=n) (l:=l.map (jB n)) fun x hx=>by
    obtain ⟨d,hd,rfl⟩:=Vn.mp hx
    exact (vt n d (hl d hd)).2
   omega
 rw [IE]
 constructor
 ·rintro ⟨p,q,e1,e2,_,h⟩
  rw [p1 a ds ha h1] at e1
  rw [p1 b es hb h2] at e2
  cases e1
  cases e2
  rw [e] at h
  exact h
 ·intro h
  refine ⟨_,_,p1 a ds ha h1,p1 b es hb h2,⟨(ly ds h1).1,(ly es h2).1,?_⟩,?_⟩
  ·have:=(ly ds h1).2
   omega
  ·rw [e];exact h
theorem M8 {R:List fw} {b:Bool} {k:Int} (pa:af.gE (b,k)) (h:∀ (t:fw) (r:List fw),R=t :: r->t.1≠b):af.cm R (b,k)=(if (if b=true then k else k % 4)=0 then R else (b,if b=true then k else k % 4) :: R):=by
 have e:(if b=true then k else k % 4)=k:=by
  cases b with
  | true=>rfl
  | false =>
   have:=pa.1 rfl
   simp only at this
   rw [if_neg Vo];omega
 rw [e,if_neg pa.2]
 exact af.HK fun t ht=>by
  cases R with
  | nil=>cases ht
  | cons x r=>cases ht;exact fun z=>h _ _ rfl z.symm
theorem JE {st s2:Store} {w0:D} {b:Bool} {k':Int} {R' X:List fw} {N B C:au->Store->Prop} {R:D->Store->Prop} (h2:s2[st.length]?=some (.lst (R'.reverse.map bF))) (k2:Ex [] st s2) (hl:R'.length<=1000) (ep:X=(if (if b=true then k' else k' % 4)=0 then R' else (b,if b=true then k' else k' % 4) :: R'))
  (hN:∀ (v3:Option D) (s:Store),s[st.length]?=some (.lst (X.reverse.map bF))->Ex [] st s->N [some w0,some (.ref st.length),some (.str (if b then "s" else "t")),v3] s) :
  Ws (az (dJ (aA (aD (iO false) (ag 2) (fC (.str "t")))) (aK (aD jH (ag 3) (fC (.int 4))) (hName 3)) aQ) (dJ (aA (aD (iO true) (ag 3) (fC (.int 0)))) (cg (iw "list" a9 (ag 1) (ae (bD (ae (ag 2) (ae (ag 3) ah))) ah))) aQ) [some w0,some (.ref st.length),some (.str (if b then "s" else "t")),some (.int k')] s2) N B C R:=by
 have fin:∀ kk:Int,kk=(if b=true then k' else k' % 4)->Ws (dJ (aA (aD (iO true) (ag 3) (fC (.int 0)))) (cg (iw "list" a9 (ag 1) (ae (bD (ae (ag 2) (ae (ag 3) ah))) ah))) aQ [some w0,some (.ref st.length),some (.str (if b then "s" else "t")),some (.int kk)] s2) N B C R:=fun kk hk=>by
  rw [<- hk] at ep
  refine gJ ?_
  kspl_open hQ
  by_cases z:kk=0
  ·refine hQ _ _ ⟨fun y=>absurd z (by simpa using y),fun _=>iG (hN _ _ ?_ k2)⟩
   rw [ep,if_pos z];exact h2
  ·refine hQ _ _ ⟨fun _=>nc ?_,fun y=>absurd y (by simp [z])⟩
   clear hQ
   refine cj ?_
   intro dN hQ
   set_option simprocs false in simp only [bC,jy h2]
   refine ⟨lx (by rw [bu h2];rfl),rfl,jz (by rw [Vd,WZ];omega),hQ _ _ (hN _ _ ?_ (k2.loc (Vh _)))⟩
   rw [Vi (dH h2),ep,if_neg z,WJ,Vx]
   rfl
 refine aX (gJ ?_)
 cases b with
 | true =>
  kspl_open hQ
  exact hQ _ _ ⟨fun z=>absurd z (by decide),fun _=>iG (fin k' rfl)⟩
 | false =>
  kspl_open hQ
  refine hQ _ _ ⟨fun _=>cb ?_,fun z=>absurd z (by decide)⟩
  clear hQ
  kspl_open hQ
  exact ⟨by decide,hQ _ _ (fin (k' % 4) rfl)⟩
theorem TM {st:Store} {w:List fw} (hw:∀ s∈w,af.gE s) (hl:w.length<=1000):Wp (zY [.tup (w.map bF)] st) fun d st'=>d=.tup ((af.j4 w).reverse.map bF)/\Ex [] st st':=by
 refine iy ?_
 show Ws (Ft [some (.tup (w.map bF)),none,none,none] st) _ _ _ _
 unfold Ft
 refine aX (cb ?_)
 kspl_open hQ
 refine ⟨rfl,hQ _ _ ?_⟩
 clear hQ
 show Ws _ _ _ _ _
 refine aX (lZ (w.map bF) (fun i δ s=>∃ v2 v3:Option D,δ=[some (.tup (w.map bF)),some (.ref st.length),v2,v3]/\s[st.length]?=some (.lst ((af.j4 (w.take i)).reverse.map bF))/\Ex [] st s) ?_ (by rw [Vd];omega) ?_ ?_)
 ·kspl_open hQ
  exact hQ _ _ ⟨rfl,none,none,rfl,h7,Ex.cB _⟩
 ·rintro i d δ s hd ⟨v2,v3,rfl,hs,kx⟩
  rw [Vm] at hd
  obtain ⟨a,ha,rfl⟩:=VR.mp hd
  obtain ⟨hi,ea⟩:=Ve.mp ha
  have pa:=hw a (Vk ha)
  have et:af.j4 (w.take (i + 1))=af.cm (af.j4 (w.take i)) a:=by
   rw [VM hi,af.HL,ea];rfl
  have hlen:=af.HM (w.take i)
  rw [V6] at hlen
  have pl:af.Pl (af.j4 (w.take i)):=af.w6 fun s hs=>hw s (List.mem_of_mem_take hs)
  rw [et]
  generalize af.j4 (w.take i)=R at hs hlen pl ⊢
  obtain ⟨b,k⟩:=a
  have es1:bF (b,k)=.tup [.str (if b then "s" else "t"),.int k]:=rfl
  rw [es1]
  kspl_open hQ
  refine ⟨rfl,hQ _ _ (aX (gJ ?_))⟩
  clear hQ
  refine cj ?_
  intro dN hQ
  set_option simprocs false in simp only [bC,bu hs]
  refine ⟨rfl,?_⟩
  have TN:∀ d∈R.reverse.map bF,pU 1 d:=fun d hd=>by
   obtain ⟨x,_,rfl⟩:=Vn.mp hd
   exact vw 0 x
  rw [Gs (n:=1) (ds:=R.reverse.map bF) (es:=[]) (bu (hW hs)) qe TN (fun d hd=>nomatch hd) (by decide)]
  have hs1:=hW (m:=[O.lst []]) hs
  have Gu:Ex [] st (s ++ [O.lst []]):=kx.app _
  generalize s ++ [O.lst []]=s1 at hs1 Gu ⊢
  have DR:∀ (t:fw) (r:List fw),R=t :: r->R.reverse.map bF=r.reverse.map bF ++ [bF t]:=fun t r e=>by rw [e,WJ,Vx];rfl
  cases R with
  | nil =>
   refine ⟨false,by simp,?_⟩
   rw [if_neg (by decide)]
   refine hQ _ _ ⟨fun z=>absurd z (by decide),fun _=>iG ?_⟩
   refine JE (X:=af.cm [] (b,k)) hs1 Gu (by simp) ?_ fun v3 s h1 h2=>⟨_,_,rfl,h1,h2⟩
   exact M8 (R:=[]) pa (by simp)
  | cons t r =>
   have e1:=DR t r rfl
   refine ⟨true,by simp,?_⟩
   rw [if_pos rfl,bu hs1,e1]
   refine ⟨_,rfl,bF t,Jz,?_⟩
   obtain ⟨bt,kt⟩:=t
   have Gp:bF (bt,kt)=.tup [.str (if bt then "s" else "t"),.int kt]:=rfl
   rw [Gp]
   w_how
   have eD:decide ((if bt=true then ("s" : Str) else "t")=if b=true then ("s" : Str) else "t")=decide (bt=b):=by cases bt <;> cases b <;> decide
   rw [eD]
   by_cases hb:bt=b
   ·subst hb
    refine hQ _ _ ⟨fun _=>cb ?_,fun z=>absurd z (by simp)⟩
    clear hQ
    rw [e1] at hs1
    refine cj ?_
    intro dN hQ
    set_option simprocs false in simp only [bC,yy]
    refine ⟨lx (by rw [bu hs1];rfl),?_⟩
    rw [yA (jy hs1),Gp]
    w_how
    refine hQ _ _ ?_
    have hs2:(s1.set st.length (.lst (r.reverse.map bF)))[st.length]?=some (.lst (r.reverse.map bF)):=Vi (dH hs1)
    refine JE (X:=af.cm ((bt,kt) :: r) (bt,k)) hs2 (Gu.loc (Vh _)) (by rw [VJ] at hlen;omega) ?_ fun v3 s h1 h2=>⟨_,_,rfl,h1,h2⟩
    rw [af.sG,if_pos rfl]
    unfold af.cI af.iC
    cases bt <;> simp <;> split <;> rfl
   ·refine hQ _ _ ⟨fun z=>absurd (of_decide_eq_true z) hb,fun _=>iG ?_⟩
    refine JE (X:=af.cm ((bt,kt) :: r) (b,k)) hs1 Gu (by omega) ?_ fun v3 s h1 h2=>⟨_,_,rfl,h1,h2⟩
    exact M8 (R:=(bt,kt) :: r) pa (fun t r e=>by cases e;exact hb)
 ·rintro δ s ⟨v2,v3,rfl,hs,kx⟩
  rw [Vd,Wj] at hs
  refine dQ ?_
  refine cj ?_
  intro dN hQ
  set_option simprocs false in simp only [bC,bu hs]
  exact hQ _ _ ⟨rfl,kx⟩
theorem JF (p:List Int×List Int) (s:fw):hU p s=af.stM p s:=by
 have hq:∀ j,ni p.1 p.2 j=af.mM j p:=fun j=>by
  induction j with
  | zero=>rfl
  | succ j ih=>show _=_;unfold ni af.mM;rw [ih];rfl
 unfold hU af.stM
 split
 ·rfl
 ·exact hq _
theorem vE {p q:af.aR} (h:aN p=aN q):p=q:=by
 have h:D.tup [.tup (p.1.map D.int),.tup (p.2.map D.int)]=D.tup [.tup (q.1.map D.int),.tup (q.2.map D.int)]:=h
 injection h with h
 injection h with h1 h2
 injection h2 with h2 _
 have inj:∀ {x y:List Int},D.tup (x.map D.int)=D.tup (y.map D.int)->x=y:=fun {x y} e=>by
  injection e with e
  have:=congrArg (List.map inD) e
  rw [VB,VB] at this
  exact (Wd x).symm.trans (this.trans (Wd y))
 exact Prod.ext (inj h1) (inj h2)
theorem l6 {α:Type} {fs:List α} {g:α->D} {k:Nat} {p:α} (h:fs[k]?=some p):d5 (fs.map g) (k:Int)=some (g p):=by
 have hk:k < fs.length:=(Ve.mp h).1
 unfold d5
 rw [wL (by rw [Vd];exact hk)]
 show (fs.map g)[k]?=_
 rw [Vm,h];rfl
theorem M9 {fs:List af.aR} {F:af.aR} {j:Nat} (nd:fs.Nodup) (hj:fs[j]?=some F):∀ i e,i < j->(fs.map aN)[i]?=some e->e≠aN F:=fun i e hij he z=>by
 rw [Vm] at he
 obtain ⟨q,hq,rfl⟩:=VR.mp he
 have:=vE z
 subst this
 obtain ⟨g1,g2⟩:=Ve.mp hq
 obtain ⟨g3,g4⟩:=Ve.mp hj
 exact Wl.mp nd i j g1 g3 hij (by rw [g2,g4])
theorem dF {α:Type} {l:List α} {k:Nat} {d:α} (h:k < l.length):l[k]?=some (l.getD k d):=by rw [Vv,Vg h];rfl
def wD (w:List fw):D:=.tup (w.map bF)
theorem Na {s:Store} {a b c r n k:Nat} {p:af.aR} {fs:List af.aR} {ws:List (List fw)} {rs:List Nat} {L:List Int} {s1:fw} {v0 v1 v7:Option D} {N B C:au->Store->Prop} {R:D->Store->Prop}
  (n0:0 < n) (hn:n<=20) (hs:s1=(true,1)\/s1=(false,1)) (ab:a≠b) (ac:a≠c) (bc:b≠c) (ar:a≠r) (br:b≠r) (cr:c≠r)
  (ha:s[a]?=some (.lst (fs.map aN))) (hb:s[b]?=some (.lst (ws.map wD))) (hc:s[c]?=some (.lst (rs.map D.ref))) (hr:s[r]?=some (.lst (L.map D.int))) (hrk:rs[k]?=some r)
  (g:af.GR n p fs ws) (vp:af.Vf n p) (hk:k < fs.length) (few:fs.length<=100) (hL:L.length<=5)
  (hN:∀ (v:Option D) (s':Store),s'[a]?=some (.lst ((af.bg n fs ws k s1).1.map aN))->s'[b]?=some (.lst ((af.bg n fs ws k s1).2.1.map wD))->s'[c]?=some (.lst (rs.map D.ref))->s'[r]?=some (.lst ((L ++ [((af.bg n fs ws k s1).2.2:Int)]).map D.int))->Ex [a,b,r] s s'->N [v0,v1,some (.ref a),some (.ref b),some (.ref c),some (.int (k:Int)),some (bF s1),v] s') :
  Ws ((az (aK (aM lJ (ae (aM pb (ae (aD bG (ag 2) (ag 5)) (ae (ag 6) ah))) ah)) (hName 7))
 (az (dJ (aA (aD (nh true) (ag 7) (ag 2))) (az (cg (iw "list" a9 (ag 2) (ae (ag 7) ah)))
 (cg (iw "list" a9 (ag 3) (ae (aM zY (ae (aD jI (aD bG (ag 3) (ag 5)) (bD (ae (ag 6) ah))) ah)) ah)))) aQ)
 (cg (iw "list" a9 (aD bG (ag 4) (ag 5)) (ae (iw "list" eK (ag 2) (ae (ag 7) ah)) ah))))) [v0,v1,some (.ref a),some (.ref b),some (.ref c),some (.int (k:Int)),some (bF s1),v7] s) N B C R:=by
 have ek:=dF (d:=(([],[]):af.aR)) hk
 have hkw:k < ws.length:=by rw [g.wl];exact hk
 have ew:=dF (d:=([]:List fw)) hkw
 have ps:af.gE s1:=by rcases hs with rfl | rfl <;> exact ⟨fun _=>by decide,by decide⟩
 have gN:=af.sQ n0 g vp hk hs
 have lN:(af.bg n fs ws k s1).1.length<=101:=by have:=gN.2.2.2.1;omega
 generalize hq:fs.getD k ([],[])=q at ek
 generalize hw:ws.getD k []=w at ew
 obtain ⟨wq,oq⟩:=g.own q (Vk ek)
 obtain ⟨pw,lw,nw,-⟩:=g.wd k w ew
 have hat:d5 (fs.map aN) (k:Int)=some (aN q):=l6 ek
 have JG:d5 (rs.map D.ref) (k:Int)=some (.ref r):=l6 hrk
 refine aX (cb ?_)
 refine cj ?_
 intro dN hQ
 set_option simprocs false in simp only [bC,bu ha,hat]
 refine a7 (Jx (p:=q) (s:=s1) ⟨wq.v.1,wq.v.2⟩ (by omega) ps.1) ?_
 rintro d t1 ⟨rfl,k1⟩
 rw [JF]
 have yB:=wq.st n0 s1
 have eS:aN (af.stM q s1)=cq (af.stM q s1).1 (af.stM q s1).2:=rfl
 rw [eS]
 refine a7 (JD (yX yB) n0 hn) ?_
 rintro d t2 ⟨rfl,k2⟩
 have eF:cq (af.bE n ((af.stM q s1).1,(af.stM q s1).2)).1 (af.bE n ((af.stM q s1).1,(af.stM q s1).2)).2=aN (af.bE n (af.stM q s1)):=rfl
 rw [eF]
 have sj:=k1.trans k2
 have ha2:=sj.keep _ _ ha (by simp)
 have hb2:=sj.keep _ _ hb (by simp)
 have hc2:=sj.keep _ _ hc (by simp)
 have hr2:=sj.keep _ _ hr (by simp)
 have pf:∀ q:af.aR,pU 2 (aN q):=fun q=>zP 0 _ _
 have rest:∀ {s3:Store},s3[a]?=some (.lst ((af.bg n fs ws k s1).1.map aN))->s3[b]?=some (.lst ((af.bg n fs ws k s1).2.1.map wD))->s3[c]?=some (.lst (rs.map D.ref))->s3[r]?=some (.lst (L.map D.int))->Ex [a,b,r] s s3->(af.bg n fs ws k s1).1[(af.bg n fs ws k s1).2.2]?=some (af.bE n (af.stM q s1)) ->
   Ws ((cg (iw "list" a9 (aD bG (ag 4) (ag 5)) (ae (iw "list" eK (ag 2) (ae (ag 7) ah)) ah))) [v0,v1,some (.ref a),some (.ref b),some (.ref c),some (.int (k:Int)),some (bF s1),some (aN (af.bE n (af.stM q s1)))] s3) N B C R:=by
  intro s3 oC mH hc3 oZ k3 hj
  refine nc ?_
  refine cj ?_
  intro fS b7
  set_option simprocs false in simp only [bC,bu hc3,JG]
  refine ⟨lx (by rw [bu oZ];rfl),lx (by rw [bu oC];rfl),?_⟩
  rw [MC (n:=2) (j:=(af.bg n fs ws k s1).2.2) (pf _) (bu oC) (fun e he=>by obtain ⟨q,_,rfl⟩:=Vn.mp he;exact pf q) (by decide) (by rw [Vd];omega) (by rw [Vm,hj];rfl) (M9 gN.1.nd hj)]
  set_option simprocs false in simp only [bC,jy oZ]
  refine ⟨jz (by rw [Vd];omega),b7 _ _ (hN _ _ ?_ ?_ ?_ ?_ ?_)⟩
  ·rw [Vq (Ne.symm ar)];exact oC
  ·rw [Vq (Ne.symm br)];exact mH
  ·rw [Vq (Ne.symm cr)];exact hc3
  ·rw [Vi (dH oZ),Vx];rfl
  ·exact k3.put (by simp)
 have hj:(af.bg n fs ws k s1).1[(af.bg n fs ws k s1).2.2]?=some (af.bE n (af.stM q s1)):=by
  obtain ⟨q',h1,h2⟩:=gN.2.2.2.2
  rw [ek] at h1;cases h1;exact h2
 refine hQ _ _ (aX (gJ ?_))
 clear hQ
 kspl_open hQ
 have DQ:cZ t2 (.ref a)=some (fs.map aN):=bu ha2
 rw [E9 (n:=2) (es:=fs.map aN) (pf _) DQ (fun e he=>by obtain ⟨q,_,rfl⟩:=Vn.mp he;exact pf q) (by decide)]
 by_cases hm:af.bE n (af.stM q s1)∈fs
 ·have hm':aN (af.bE n (af.stM q s1))∈fs.map aN:=Vn.mpr ⟨_,hm,rfl⟩
  have eR:af.bg n fs ws k s1=(fs,ws,fs.idxOf (af.bE n (af.stM q s1))):=by unfold af.bg;rw [hq,if_pos hm]
  refine ⟨false,by simp [hm'],hQ _ _ ⟨fun z=>(nomatch z),fun _=>iG (rest ?_ ?_ hc2 hr2 sj.any hj)⟩⟩
  ·rw [eR];exact ha2
  ·rw [eR];exact hb2
 ·have hm':aN (af.bE n (af.stM q s1)) ∉ fs.map aN:=fun z=>by
   obtain ⟨q',h1,h2⟩:=Vn.mp z
   exact hm (vE h2 ▸ h1)
  have eR:af.bg n fs ws k s1=(fs ++ [af.bE n (af.stM q s1)],ws ++ [(af.j4 (w ++ [s1])).reverse],fs.length):=by unfold af.bg;rw [hq,hw,if_neg hm]
  refine ⟨true,by simp [hm'],hQ _ _ ⟨fun _=>?_,fun z=>(nomatch z)⟩⟩
  clear hQ
  refine aX (nc ?_)
  refine cj ?_
  intro dN hQ
  set_option simprocs false in simp only [bC,jy ha2]
  refine ⟨lx (by rw [bu ha2];rfl),jz (by rw [Vd];omega),hQ _ _ (nc ?_)⟩
  clear hQ
  have em:fs.map aN ++ [aN (af.bE n (af.stM q s1))]=(af.bg n fs ws k s1).1.map aN:=by rw [eR,Vx];rfl
  rw [em]
  have oC:(t2.set a (.lst ((af.bg n fs ws k s1).1.map aN)))[a]?=some (.lst ((af.bg n fs ws k s1).1.map aN)):=Vi (dH ha2)
  have mH:(t2.set a (.lst ((af.bg n fs ws k s1).1.map aN)))[b]?=some (.lst (ws.map wD)):=by rw [Vq ab];exact hb2
  have hc3:(t2.set a (.lst ((af.bg n fs ws k s1).1.map aN)))[c]?=some (.lst (rs.map D.ref)):=by rw [Vq ac];exact hc2
  have oZ:(t2.set a (.lst ((af.bg n fs ws k s1).1.map aN)))[r]?=some (.lst (L.map D.int)):=by rw [Vq ar];exact hr2
  have k3:Ex [a,b,r] s (t2.set a (.lst ((af.bg n fs ws k s1).1.map aN))):=(sj.any).put (by simp)
  generalize t2.set a (.lst ((af.bg n fs ws k s1).1.map aN))=s3 at oC mH hc3 oZ k3 ⊢
  have y2:d5 (ws.map wD) (k:Int)=some (wD w):=l6 ew
  refine cj ?_
  intro dN hQ
  set_option simprocs false in simp only [bC,bu mH,y2]
  refine ⟨lx (by rw [bu mH];rfl),rfl,?_⟩
  have e1:w.map bF ++ [bF s1]=(w ++ [s1]).map bF:=by rw [Vx];rfl
  unfold wD
  w_how
  rw [e1]
  refine ⟨jz (by rw [Vd];show _ + 1<=_;omega),?_⟩
  have cK:∀ x∈w ++ [s1],af.gE x:=fun x hx=>by
   rcases VG.mp hx with h | h
   ·exact af.Pl.pr pw x (Wg.mpr h)
   ·rw [Vz.mp h];exact ps
  refine a7 (TM (w:=w ++ [s1]) cK (by rw [Vj];show _ + 1<=_;omega)) ?_
  rintro d s4 ⟨rfl,k4⟩
  have DS:=k4.keep _ _ oC (by simp)
  have pd:=k4.keep _ _ mH (by simp)
  have hc4:=k4.keep _ _ hc3 (by simp)
  have TQ:=k4.keep _ _ oZ (by simp)
  set_option simprocs false in simp only [bC,jy pd]
  refine ⟨jz (by rw [Vd,g.wl];omega),hQ _ _ (rest ?_ ?_ ?_ ?_ ((k3.trans k4.any).put (by simp)) hj)⟩
  ·rw [Vq (Ne.symm ab)];exact DS
  ·rw [Vi (dH pd),eR,Vx];rfl
  ·rw [Vq bc];exact hc4
  ·rw [Vq br];exact TQ
def Ao (p:af.aR) (w:List fw) (l:Nat×Nat):D:=.tup [aN p,wD w,.int (l.1:Int),.int (l.2:Int)]
def oB (c:af.CS) (N:Nat):D:=.tup ((List.range N).map fun k=>Ao (c.1.getD k ([],[])) (c.2.1.getD k []) (c.2.2.getD k (0,0)))
structure uo (st s:Store) (ia ib ic:Nat) (fs:List af.aR) (ws:List (List fw)) (ls:List (Nat×Nat)) (rs:List Nat):Prop where
 a:s[ia]?=some (.lst (fs.map aN))
 b:s[ib]?=some (.lst (ws.map wD))
 c:s[ic]?=some (.lst (rs.map D.ref))
 l:ls.length<=rs.length
 r:∀ (k r:Nat) (l:Nat×Nat),rs[k]?=some r->ls[k]?=some l->s[r]?=some (.lst [.int (l.1:Int),.int (l.2:Int)])
 h:∀ r∈rs,ic < r/\r < s.length
 e:Ex [] st s
theorem DT {x y:D}:d5 [x,y] 0=some x:=rfl
theorem DV {x y:D}:d5 [x,y] 1=some y:=rfl
theorem Nb {st:Store} {p:af.aR} {n most:Nat} (w0:af.Wh n p) (n0:0 < n) (hn:n<=20) (m1:1<=most) (TR:most<=60):Wp (yK [aN p,.int (most:Int)] st) fun d st'=>Ex [] st st'/\((∃ N,N<=most/\af.Full n p (af.ch n p N) N/\(∀ j,j < N->j < (af.ch n p j).1.length)/\d=oB (af.ch n p N) N)\/(d=.non/\∃ i,(∀ j,j < i->j < (af.ch n p j).1.length)/\most < (af.ch n p i).1.length)):=by
 refine iy ?_
 show Ws (Fu [some (aN p),some (.int (most:Int)),none,none,none,none,none,none] st) _ _ _ _
 unfold Fu
 refine aX (cb ?_)
 kspl_open hQ
 refine a7 (JD (yX w0) n0 hn) ?_
 rintro d s1 ⟨rfl,k1⟩
 refine ⟨rfl,hQ _ _ (aX (cb ?_))⟩
 clear hQ
 kspl_open hQ
 refine ⟨rfl,rfl,hQ _ _ (aX (cb ?_))⟩
 clear hQ
 kspl_open hQ
 refine ⟨rfl,hQ _ _ ?_⟩
 clear hQ
 have eF:cq (af.bE n (p.1,p.2)).1 (af.bE n (p.1,p.2)).2=aN (af.bE n p):=rfl
 rw [eF]
 obtain ⟨a,b,c,s2,ea,eb,ec,es,ab,bc,la,I0⟩:∃ (a b c:Nat) (s2:Store),s1.length=a/\(s1 ++ [O.lst [aN (af.bE n p)]]).length=b/\(s1 ++ [O.lst [aN (af.bE n p)]] ++ [O.lst [D.tup []]]).length=c/\s1 ++ [O.lst [aN (af.bE n p)]] ++ [O.lst [D.tup []]] ++ [O.lst []]=s2/\a < b/\b < c/\st.length<=a/\uo st s2 a b c (af.ch n p 0).1 (af.ch n p 0).2.1 (af.ch n p 0).2.2 [] :=
  ⟨_,_,_,_,rfl,rfl,rfl,rfl,by simp,by simp,k1.len,hW (hW h7),hW h7,h7,Vh _,(fun k r l h=>nomatch h),(fun r h=>nomatch h),((k1.app _).app _).app _⟩
 rw [ea,eb,ec,es]
 refine aX (lZ (aJ 0 most) (fun i δ s=>∃ (v5 v6 v7:Option D) (j:Nat) (rs:List Nat),δ=[some (aN p),some (.int (most:Int)),some (.ref a),some (.ref b),some (.ref c),v5,v6,v7]/\j<=i/\(∀ j',j' < j->j' < (af.ch n p j').1.length)/\(af.ch n p j).1.length<=most/\(j=i\/(af.ch n p j).1.length=j)/\rs.length=j/\uo st s a b c (af.ch n p j).1 (af.ch n p j).2.1 (af.ch n p j).2.2 rs) ?_ (by rw [gH];omega) ?_ ?_)
 ·kspl_open hQ
  refine ⟨by omega,hQ _ _ ⟨by rw [Vr],none,none,none,0,[],rfl,Vh _,(fun j' h=>nomatch h),(show 1<=most from m1),.inl rfl,rfl,I0⟩⟩
 ·rintro i d δ s hd ⟨v5,v6,v7,j,rs,rfl,hj,pr,few,jo,hrs,I⟩
  have hi:i < most:=by have:=dH hd;rw [gH] at this;exact this
  rw [xC hi,WA] at hd
  cases hd
  have g:=af.zQ n0 w0 j pr
  kspl_open hQ
  refine hQ _ _ (gJ ?_)
  clear hQ
  refine cj ?_
  intro dN hQ
  set_option simprocs false in simp only [bC,bu I.a]
  rw [Vd]
  refine hQ _ _ ⟨fun z=>?_,fun z=>iG ?_⟩
  ·have z:i < (af.ch n p j).1.length:=by have:=of_decide_eq_true z;omega
   have ej:j=i:=by rcases jo with h | h <;> omega
   subst ej
   clear hQ
   have mO:=g.ll
   have TU:=g.le
   refine aX (nc ?_)
   kspl_open hQ
   have Ic:=hW (m:=[O.lst []]) I.c
   refine ⟨lx (by rw [bu I.c];rfl),rfl,_,jy Ic,jz (by rw [Vd];omega),hQ _ _ ?_⟩
   clear hQ
   have er:rs.map D.ref ++ [D.ref s.length]=(rs ++ [s.length]).map D.ref:=by rw [Vx];rfl
   rw [er]
   have lc:=dH I.c
   have I1:uo st ((s ++ [O.lst []]).set c (.lst ((rs ++ [s.length]).map D.ref))) a b c (af.ch n p j).1 (af.ch n p j).2.1 (af.ch n p j).2.2 (rs ++ [s.length]):=by
    refine ⟨?_,?_,Vi (dH Ic),by rw [Vj];have:=I.l;omega,fun k r l h1 h2=>?_,fun r hr=>?_,?_⟩
    ·rw [Vq (by omega)];exact hW I.a
    ·rw [Vq (by omega)];exact hW I.b
    ·have hk:k < rs.length:=by have:=(Ve.mp h2).1;omega
     rw [Vt hk] at h1
     have hc:=I.h r (Vk h1)
     rw [Vq (by omega)]
     exact hW (I.r k r l h1 h2)
    ·rw [VU,Vj]
     rcases VG.mp hr with h | h
     ·have:=I.h r h;exact ⟨this.1,Nat.lt_succ_of_lt this.2⟩
     ·rw [Vz.mp h];exact ⟨lc,Wf _⟩
    ·exact (I.e.app _).loc (by omega)
   have hr1:((s ++ [O.lst []]).set c (.lst ((rs ++ [s.length]).map D.ref)))[s.length]?=some (.lst (([]:List Int).map D.int)):=by
    rw [Vq (by omega)];exact h7
   have hrk:(rs ++ [s.length])[j]?=some s.length:=by rw [VA (by omega),hrs,Wn];rfl
   have old:∀ r∈rs,r≠s.length:=fun r h=>by have:=I.h r h;omega
   have TV:c < s.length:=lc
   generalize (s ++ [O.lst []]).set c (.lst ((rs ++ [s.length]).map D.ref))=s3 at I1 hr1
   generalize s.length=r at I1 hr1 hrk old TV
   have r1:=af.sQ (s:=(true,1)) n0 g.r w0.v (k:=j) z (.inl rfl)
   have r2:=af.sQ (s:=(false,1)) n0 r1.1 w0.v (k:=j) (by have:=r1.2.2.1;omega) (.inr rfl)
   have eS:af.kL n (af.ch n p j)=af.bg n (af.ch n p j).1 (af.ch n p j).2.1 j (true,1):=by unfold af.kL;rw [mO]
   have eT:af.jM n (af.ch n p j)=af.bg n (af.bg n (af.ch n p j).1 (af.ch n p j).2.1 j (true,1)).1 (af.bg n (af.ch n p j).1 (af.ch n p j).2.1 j (true,1)).2.1 j (false,1):=by unfold af.jM;rw [eS,mO]
   have mk:∀ {fs fs':List af.aR} {ws zM:List (List fw)} {s s':Store},uo st s a b c fs ws (af.ch n p j).2.2 (rs ++ [r])->s'[a]?=some (.lst (fs'.map aN))->s'[b]?=some (.lst (zM.map wD))->s'[c]?=some (.lst ((rs ++ [r]).map D.ref))->Ex [a,b,r] s s'->uo st s' a b c fs' zM (af.ch n p j).2.2 (rs ++ [r]):=by
    intro fs fs' ws zM s s' J h1 h2 h3 k
    refine ⟨h1,h2,h3,J.l,fun i r' l e1 e2=>?_,fun r' hr=>?_,⟨VL J.e.len k.len,fun i o e n=>k.keep i o (J.e.keep i o e n) (by have:=dH e;simp;omega)⟩⟩
    ·have hk:i < rs.length:=by have:=(Ve.mp e2).1;omega
     have zx:=e1
     rw [Vt hk] at zx
     have hm:=Vk zx
     have hc:=J.h r' (Vk e1)
     have:=old r' hm
     exact k.keep _ _ (J.r i r' l e1 e2) (by simp;omega)
    ·have hc:=J.h r' hr
     exact ⟨hc.1,VO hc.2 k.len⟩
   refine aX (lZ [bF (true,1),bF (false,1)] (fun m δ s=>∃ (v6 v7:Option D),δ=[some (aN p),some (.int (most:Int)),some (.ref a),some (.ref b),some (.ref c),some (.int (j:Int)),v6,v7]/\((m=0/\uo st s a b c (af.ch n p j).1 (af.ch n p j).2.1 (af.ch n p j).2.2 (rs ++ [r])/\s[r]?=some (.lst (([]:List Int).map D.int)))\/(m=1/\uo st s a b c (af.kL n (af.ch n p j)).1 (af.kL n (af.ch n p j)).2.1 (af.ch n p j).2.2 (rs ++ [r])/\s[r]?=some (.lst (([((af.kL n (af.ch n p j)).2.2:Int)]:List Int).map D.int)))\/(m=2/\uo st s a b c (af.jM n (af.ch n p j)).1 (af.jM n (af.ch n p j)).2.1 (af.ch n p j).2.2 (rs ++ [r])/\s[r]?=some (.lst (([((af.kL n (af.ch n p j)).2.2:Int),((af.jM n (af.ch n p j)).2.2:Int)]:List Int).map D.int))))) ?_ (by decide) ?_ ?_)
   ·kspl_open hQ
    exact ⟨rfl,rfl,rfl,hQ _ _ ⟨rfl,v6,v7,rfl,.inl ⟨rfl,I1,hr1⟩⟩⟩
   ·rintro m d δ s5 hd ⟨v6,v7,rfl,hm⟩
    kspl_open hQ
    refine hQ _ _ ?_
    clear hQ
    rcases hm with ⟨rfl,J,hr⟩ | ⟨rfl,J,hr⟩ | ⟨rfl,J,hr⟩
    ·cases (show some (bF (true,1))=some d from hd)
     refine Na (s1:=(true,1)) n0 hn (.inl rfl) (by omega) (by omega) (by omega) (by omega) (by omega) (by omega) J.a J.b J.c hr hrk g.r w0.v z (by omega) (by simp) fun v s' h1 h2 h3 h4 h5=>?_
     refine ⟨_,v,rfl,.inr (.inl ⟨rfl,?_,?_⟩)⟩
     ·rw [eS];exact mk J h1 h2 h3 h5
     ·rw [eS];exact h4
    ·cases (show some (bF (false,1))=some d from hd)
     rw [eS] at J hr
     refine Na (s1:=(false,1)) n0 hn (.inr rfl) (by omega) (by omega) (by omega) (by omega) (by omega) (by omega) J.a J.b J.c hr hrk r1.1 w0.v (by have:=r1.2.2.1;omega) (by have:=r1.2.2.2.1;omega) (by simp) fun v s' h1 h2 h3 h4 h5=>?_
     refine ⟨_,v,rfl,.inr (.inr ⟨rfl,?_,?_⟩)⟩
     ·rw [eT];exact mk J h1 h2 h3 h5
     ·rw [eT,eS];exact h4
    ·cases (show none=some d from hd)
   ·rintro δ s5 ⟨v6,v7,rfl,⟨h,_⟩ | ⟨h,_⟩ | ⟨_,J,hr⟩⟩
    ·cases h
    ·cases h
    have Ap:∀ j',j' < j + 1->j' < (af.ch n p j').1.length:=fun j' h=>by
     rcases W3 j' j with h' | h'
     ·exact pr j' h'
     ·have:j'=j:=by omega
      subst this;exact z
    have J2:uo st s5 a b c (af.ch n p (j + 1)).1 (af.ch n p (j + 1)).2.1 (af.ch n p (j + 1)).2.2 (rs ++ [r]):=by
     refine ⟨J.a,J.b,J.c,?_,fun k r' l e1 e2=>?_,J.h,J.e⟩
     ·show ((af.ch n p j).2.2 ++ [_]).length<=_
      rw [Vj,Vj,mO,hrs];exact Vh _
     ·have e2:((af.ch n p j).2.2 ++ [((af.kL n (af.ch n p j)).2.2,(af.jM n (af.ch n p j)).2.2)])[k]?=some l:=e2
      by_cases hk:k < (af.ch n p j).2.2.length
      ·rw [Vt hk] at e2
       exact J.r k r' l e1 e2
      ·have hk2:k=j:=by
        have:=(Ve.mp e2).1
        rw [Vj] at this
        have:k < (af.ch n p j).2.2.length + 1:=this
        omega
       subst hk2
       rw [VA (by omega),mO,Wn] at e2
       cases (show some _=some l from e2)
       rw [hrk] at e1
       cases e1
       exact hr
    refine gJ ?_
    refine cj ?_
    intro dN hQ
    set_option simprocs false in simp only [bC,bu J2.a]
    rw [Vd]
    refine hQ _ _ ⟨fun y=>dQ ?_,fun y=>iG ⟨_,_,_,j + 1,_,rfl,Vh _,Ap,?_,.inl rfl,?_,J2⟩⟩
    ·clear hQ
     kspl_open hQ
     exact hQ _ _ ⟨J2.e,.inr ⟨rfl,j + 1,Ap,by have:=of_decide_eq_true y;omega⟩⟩
    ·have:=of_decide_eq_false y;omega
    ·rw [Vj,hrs];rfl
  ·have z:¬ i < (af.ch n p j).1.length:=by have:=of_decide_eq_false z;omega
   have:=g.le
   exact ⟨_,_,_,j,rs,rfl,by omega,pr,few,by omega,hrs,I⟩
 ·rintro δ s ⟨v5,v6,v7,j,rs,rfl,hj,pr,few,jo,hrs,I⟩
  rw [gH] at hj jo
  have g:=af.zQ n0 w0 j pr
  have TU:=g.le
  have JH:(af.ch n p j).1.length=j:=by rcases jo with h | h <;> omega
  have vF:af.Full n p (af.ch n p j) j:={ toGC:=g,fl:=JH }
  refine dQ ?_
  kspl_open hQ
  generalize hC:af.ch n p j=C at I g JH vF
  refine pE (aJ 0 j) (fun d=>Ao (C.1.getD (inD d).toNat ([],[])) (C.2.1.getD (inD d).toNat []) (C.2.2.getD (inD d).toNat (0,0))) ?_ (by rw [gH];omega) ?_ ?_
  ·refine cj ?_
   intro fS b7
   set_option simprocs false in simp only [bC,bu I.a]
   rw [Vd,JH]
   exact ⟨by omega,b7 _ _ ⟨by rw [Vr];exact qg _ _,Ex.refl⟩⟩
  ·intro d hd s5 k5
   obtain ⟨i,hi⟩:=VX hd
   have hil:=dH hi
   rw [gH] at hil
   rw [xC hil,WA] at hi
   cases hi
   have hwl:=g.r.wl
   have mO:=g.ll
   have ef:=dF (d:=(([],[]):af.aR)) (show i < C.1.length by omega)
   have ew:=dF (d:=([]:List fw)) (show i < C.2.1.length by omega)
   have el:=dF (d:=((0,0):Nat×Nat)) (show i < C.2.2.length by omega)
   have er:=dF (d:=0) (show i < rs.length by omega)
   have hR:=k5.keep _ _ (I.r i _ _ er el) (by simp)
   have a1:d5 (C.1.map aN) (i:Int)=some (aN (C.1.getD i ([],[]))):=l6 ef
   have a2:d5 (C.2.1.map wD) (i:Int)=some (wD (C.2.1.getD i [])):=l6 ew
   have a3:d5 (rs.map D.ref) (i:Int)=some (.ref (rs.getD i 0)):=l6 er
   have uq:=k5.keep _ _ I.a (by simp)
   have vG:=k5.keep _ _ I.b (by simp)
   have hc5:=k5.keep _ _ I.c (by simp)
   generalize rs.getD i 0=r at hR a3
   refine cj ?_
   intro fS b7
   set_option simprocs false in simp only [bC,Vy,VT,VP,VQ,bu uq,bu vG,bu hc5,a1,a2,a3,bu hR,DT,DV]
   exact ⟨rfl,b7 _ _ ⟨rfl,Ex.refl⟩⟩
  ·intro s5 k5
   refine ⟨_,qe,hQ _ _ ⟨(I.e.trans k5).app _,.inl ⟨j,by omega,by rw [hC];exact vF,pr,?_⟩⟩⟩
   rw [hC]
   unfold oB
   congr 1
   unfold aJ
   rw [VB]
   refine VS fun i _=>?_
   show Ao _ _ _=_
   simp only [Function.comp,inD,WA,Vr]
theorem vH {n:Nat} {p:af.aR} (n0:0 < n) (w:af.Wh n p):∀ (N j:Nat),(∀ i,i < N->i < (af.ch n p i).1.length)->j<=N->(af.ch n p j).1.length<=(af.ch n p N).1.length
 | 0,j,_,hj=>by
  have:j=0:=by omega
  subst this
  exact Vh _
 | N + 1,j,pr,hj=>by
  by_cases e:j=N + 1
  ·subst e;exact Vh _
  ·have h1:=vH n0 w N j (fun i hi=>pr i (by omega)) (by omega)
   have g:=af.zQ n0 w N fun i hi=>pr i (by omega)
   have hN:=pr N (by omega)
   have mO:=g.ll
   have r1:=af.sQ (s:=(true,1)) n0 g.r w.v (k:=(af.ch n p N).2.2.length) (by omega) (.inl rfl)
   have r2:=af.sQ (s:=(false,1)) n0 r1.1 w.v (k:=(af.ch n p N).2.2.length) (by have:=r1.2.2.1;omega) (.inr rfl)
   have a:=r1.2.2.1
   have b:=r2.2.2.1
   have:(af.ch n p N).1.length<=(af.ch n p (N + 1)).1.length:=VL a b
   omega
theorem Nc {st:Store} {a b n k:Nat} {p:af.aR} {fs:List af.aR} {ws:List (List fw)} {s1:fw} (n0:0 < n) (hn:n<=20) (hs:s1=(true,1)\/s1=(false,1)) (ab:a≠b) (ha:st[a]?=some (.lst (fs.map aN))) (hb:st[b]?=some (.lst (ws.map wD))) (g:af.GR n p fs ws) (vp:af.Vf n p) (hk:k < fs.length) (few:fs.length<=100) :
  Wp (yN [.ref a,.ref b,.int (k:Int),bF s1] st) fun d st'=>d=.int ((af.bg n fs ws k s1).2.2:Int)/\st'[a]?=some (.lst ((af.bg n fs ws k s1).1.map aN))/\st'[b]?=some (.lst ((af.bg n fs ws k s1).2.1.map wD))/\Ex [a,b] st st':=by
 refine iy ?_
 show Ws (FU [some (.ref a),some (.ref b),some (.int (k:Int)),some (bF s1),none] st) _ _ _ _
 unfold FU
 have ek:=dF (d:=(([],[]):af.aR)) hk
 have hkw:k < ws.length:=by rw [g.wl];exact hk
 have ew:=dF (d:=([]:List fw)) hkw
 have ps:af.gE s1:=by rcases hs with rfl | rfl <;> exact ⟨fun _=>by decide,by decide⟩
 have gN:=af.sQ n0 g vp hk hs
 have lN:(af.bg n fs ws k s1).1.length<=101:=by have:=gN.2.2.2.1;omega
 generalize hq:fs.getD k ([],[])=q at ek
 generalize hw:ws.getD k []=w at ew
 obtain ⟨wq,oq⟩:=g.own q (Vk ek)
 obtain ⟨pw,lw,nw,-⟩:=g.wd k w ew
 have hat:d5 (fs.map aN) (k:Int)=some (aN q):=l6 ek
 refine aX (cb ?_)
 refine cj ?_
 intro dN hQ
 set_option simprocs false in simp only [bC,bu ha,hat]
 refine ⟨rfl,?_⟩
 have hw1:(D.tup [bF s1])=.tup ([s1].map bF):=rfl
 rw [hw1]
 refine a7 (M4 (p:=q) (w:=[s1]) ⟨wq.v.1,wq.v.2⟩ (by omega) (fun x hx=>by rw [Vz.mp hx];exact ps.1) (show 1<=1000 by decide)) ?_
 rintro d t1 ⟨rfl,k1⟩
 have e1:kP q [s1]=af.stM q s1:=JF q s1
 rw [e1]
 have yB:=wq.st n0 s1
 have eS:aN (af.stM q s1)=cq (af.stM q s1).1 (af.stM q s1).2:=rfl
 rw [eS]
 refine a7 (JC (yX yB) n0 hn) ?_
 rintro d t2 ⟨rfl,k2⟩
 have eF:cq (af.bE n ((af.stM q s1).1,(af.stM q s1).2)).1 (af.bE n ((af.stM q s1).1,(af.stM q s1).2)).2=aN (af.bE n (af.stM q s1)):=rfl
 rw [eF]
 have sj:=k1.trans k2
 have ha2:=sj.keep _ _ ha (by simp)
 have hb2:=sj.keep _ _ hb (by simp)
 have pf:∀ q:af.aR,pU 2 (aN q):=fun q=>zP 0 _ _
 have hj:(af.bg n fs ws k s1).1[(af.bg n fs ws k s1).2.2]?=some (af.bE n (af.stM q s1)):=by
  obtain ⟨q',h1,h2⟩:=gN.2.2.2.2
  rw [ek] at h1;cases h1;exact h2
 have rest:∀ {s3:Store},s3[a]?=some (.lst ((af.bg n fs ws k s1).1.map aN))->s3[b]?=some (.lst ((af.bg n fs ws k s1).2.1.map wD))->Ex [a,b] st s3 ->
   Ws ((bj (iw "list" eK (ag 0) (ae (ag 4) ah))) [some (.ref a),some (.ref b),some (.int (k:Int)),some (bF s1),some (aN (af.bE n (af.stM q s1)))] s3) (fun _ st1=>D.non=D.int ((af.bg n fs ws k s1).2.2:Int)/\st1[a]?=some (.lst ((af.bg n fs ws k s1).1.map aN))/\st1[b]?=some (.lst ((af.bg n fs ws k s1).2.1.map wD))/\Ex [a,b] st st1) (fun _ _=>False) (fun _ _=>False) (fun d st1=>d=D.int ((af.bg n fs ws k s1).2.2:Int)/\st1[a]?=some (.lst ((af.bg n fs ws k s1).1.map aN))/\st1[b]?=some (.lst ((af.bg n fs ws k s1).2.1.map wD))/\Ex [a,b] st st1):=by
  intro s3 oC mH k3
  refine dQ ?_
  kspl_open b7
  refine ⟨lx (by rw [bu oC];rfl),?_⟩
  rw [MC (n:=2) (j:=(af.bg n fs ws k s1).2.2) (pf _) (bu oC) (fun e he=>by obtain ⟨q,_,rfl⟩:=Vn.mp he;exact pf q) (by decide) (by rw [Vd];omega) (by rw [Vm,hj];rfl) (M9 gN.1.nd hj)]
  exact b7 _ _ ⟨rfl,oC,mH,k3⟩
 refine hQ _ _ (aX (gJ ?_))
 clear hQ
 kspl_open hQ
 have DQ:cZ t2 (.ref a)=some (fs.map aN):=bu ha2
 rw [E9 (n:=2) (es:=fs.map aN) (pf _) DQ (fun e he=>by obtain ⟨q,_,rfl⟩:=Vn.mp he;exact pf q) (by decide)]
 by_cases hm:af.bE n (af.stM q s1)∈fs
 ·have hm':aN (af.bE n (af.stM q s1))∈fs.map aN:=Vn.mpr ⟨_,hm,rfl⟩
  have eR:af.bg n fs ws k s1=(fs,ws,fs.idxOf (af.bE n (af.stM q s1))):=by unfold af.bg;rw [hq,if_pos hm]
  refine ⟨false,by simp [hm'],hQ _ _ ⟨fun z=>(nomatch z),fun _=>iG (rest ?_ ?_ sj.any)⟩⟩
  ·rw [eR];exact ha2
  ·rw [eR];exact hb2
 ·have hm':aN (af.bE n (af.stM q s1)) ∉ fs.map aN:=fun z=>by
   obtain ⟨q',h1,h2⟩:=Vn.mp z
   exact hm (vE h2 ▸ h1)
  have eR:af.bg n fs ws k s1=(fs ++ [af.bE n (af.stM q s1)],ws ++ [(af.j4 (w ++ [s1])).reverse],fs.length):=by unfold af.bg;rw [hq,hw,if_neg hm]
  refine ⟨true,by simp [hm'],hQ _ _ ⟨fun _=>?_,fun z=>(nomatch z)⟩⟩
  clear hQ
  refine aX (nc ?_)
  refine cj ?_
  intro dN hQ
  set_option simprocs false in simp only [bC,jy ha2]
  refine ⟨lx (by rw [bu ha2];rfl),jz (by rw [Vd];omega),hQ _ _ (nc ?_)⟩
  clear hQ
  have em:fs.map aN ++ [aN (af.bE n (af.stM q s1))]=(af.bg n fs ws k s1).1.map aN:=by rw [eR,Vx];rfl
  rw [em]
  have oC:(t2.set a (.lst ((af.bg n fs ws k s1).1.map aN)))[a]?=some (.lst ((af.bg n fs ws k s1).1.map aN)):=Vi (dH ha2)
  have mH:(t2.set a (.lst ((af.bg n fs ws k s1).1.map aN)))[b]?=some (.lst (ws.map wD)):=by rw [Vq ab];exact hb2
  have k3:Ex [a,b] st (t2.set a (.lst ((af.bg n fs ws k s1).1.map aN))):=(sj.any).put (by simp)
  generalize t2.set a (.lst ((af.bg n fs ws k s1).1.map aN))=s3 at oC mH k3 ⊢
  have y2:d5 (ws.map wD) (k:Int)=some (.tup (w.map bF)):=l6 (g:=wD) ew
  refine cj ?_
  intro dN hQ
  set_option simprocs false in simp only [bC,bu mH,y2]
  refine ⟨lx (by rw [bu mH];rfl),rfl,?_⟩
  rw [hw1]
  refine a7 (TH (v:=w) (w:=[s1]) (by show _ + 1<=_;omega)) ?_
  rintro d s4 ⟨rfl,k4⟩
  have DS:=k4.keep _ _ oC (by simp)
  have pd:=k4.keep _ _ mH (by simp)
  set_option simprocs false in simp only [bC,jy pd]
  refine ⟨jz (by rw [Vd,g.wl];omega),hQ _ _ (rest ?_ ?_ ((k3.trans k4.any).put (by simp)))⟩
  ·rw [Vq (Ne.symm ab)];exact DS
  ·rw [Vi (dH pd),eR,Vx];rfl
def y4 (l:Nat×Nat):D:=.tup [.int (l.1:Int),.int (l.2:Int)]
theorem TX {st:Store} {p:af.aR} {n N most:Nat} (w0:af.Wh n p) (n0:0 < n) (hn:n<=20) (F:af.Full n p (af.ch n p N) N) (pr:∀ j,j < N->j < (af.ch n p j).1.length) (hN:N<=most) (TR:most<=60):Wp (Ag [aN p,.int (most:Int)] st) fun d st'=>d=oB (af.ch n p N) N/\Ex [] st st':=by
 refine iy ?_
 show Ws (FV [some (aN p),some (.int (most:Int)),none,none,none,none,none,none] st) _ _ _ _
 unfold FV
 refine aX (cb ?_)
 kspl_open hQ
 refine a7 (JC (yX w0) n0 hn) ?_
 rintro d s1 ⟨rfl,k1⟩
 refine ⟨rfl,hQ _ _ (aX (cb ?_))⟩
 clear hQ
 kspl_open hQ
 refine ⟨rfl,rfl,hQ _ _ (aX (cb ?_))⟩
 clear hQ
 kspl_open hQ
 refine ⟨rfl,hQ _ _ ?_⟩
 clear hQ
 have eF:cq (af.bE n (p.1,p.2)).1 (af.bE n (p.1,p.2)).2=aN (af.bE n p):=rfl
 rw [eF]
 obtain ⟨a,b,c,s2,ea,eb,ec,es,ab,bc,la,ha,hb,hc,kx⟩:∃ (a b c:Nat) (s2:Store),s1.length=a/\(s1 ++ [O.lst [aN (af.bE n p)]]).length=b/\(s1 ++ [O.lst [aN (af.bE n p)]] ++ [O.lst [D.tup []]]).length=c/\s1 ++ [O.lst [aN (af.bE n p)]] ++ [O.lst [D.tup []]] ++ [O.lst []]=s2/\a < b/\b < c/\st.length<=a/\s2[a]?=some (.lst ((af.ch n p 0).1.map aN))/\s2[b]?=some (.lst ((af.ch n p 0).2.1.map wD))/\s2[c]?=some (.lst ((af.ch n p 0).2.2.map y4))/\Ex [] st s2 :=
  ⟨_,_,_,_,rfl,rfl,rfl,rfl,by simp,by simp,k1.len,hW (hW h7),hW h7,h7,((k1.app _).app _).app _⟩
 rw [ea,eb,ec,es]
 refine aX (zL (fun m δ s=>∃ (v5 v6 v7:Option D) (j:Nat),δ=[some (aN p),some (.int (most:Int)),some (.ref a),some (.ref b),some (.ref c),v5,v6,v7]/\m + j=N/\s[a]?=some (.lst ((af.ch n p j).1.map aN))/\s[b]?=some (.lst ((af.ch n p j).2.1.map wD))/\s[c]?=some (.lst ((af.ch n p j).2.2.map y4))/\Ex [] st s) N (by show N < 1000000;omega) ⟨none,none,none,0,rfl,rfl,ha,hb,hc,kx⟩ ?_)
 rintro m δ s ⟨v5,v6,v7,j,rfl,hm,ha,hb,hc,k⟩
 have g:=af.zQ n0 w0 j fun i hi=>pr i (by omega)
 have mO:=g.ll
 have up:=vH n0 w0 N j pr (by omega)
 have hfl:=F.fl
 refine cj ?_
 intro dN hQ
 set_option simprocs false in simp only [bC,bu ha,bu hc]
 rw [Vd,Vd,mO]
 refine hQ _ _ ⟨fun z=>aX (gJ ?_),fun z=>dQ ?_⟩
 ·have z:j < (af.ch n p j).1.length:=by have:=of_decide_eq_true z;omega
  clear hQ
  refine cj ?_
  intro dN hQ
  set_option simprocs false in simp only [bC,bu ha]
  rw [Vd]
  refine hQ _ _ ⟨fun y=>?_,fun y=>iG (aX (cb ?_))⟩
  ·have:=of_decide_eq_true y
   omega
  ·clear hQ
   have UQ:j < N:=by
    rcases W3 j N with h | h
    ·exact h
    ·have:j=N:=by omega
     subst this
     omega
   refine cj ?_
   intro dN hQ
   set_option simprocs false in simp only [bC,bu hc]
   rw [Vd,mO]
   refine hQ _ _ (aX (cb ?_))
   clear hQ
   kspl_open hQ
   have es1:D.tup [D.str (Str.ofString "s"),D.int 1]=bF (true,1):=rfl
   have TY:D.tup [D.str (Str.ofString "t"),D.int 1]=bF (false,1):=rfl
   rw [es1]
   have r1:=af.sQ (s:=(true,1)) n0 g.r w0.v (k:=j) z (.inl rfl)
   have r2:=af.sQ (s:=(false,1)) n0 r1.1 w0.v (k:=j) (by have:=r1.2.2.1;omega) (.inr rfl)
   refine a7 (Nc (s1:=(true,1)) (k:=j) n0 hn (.inl rfl) (by omega) ha hb g.r w0.v z (by omega)) ?_
   rintro d s3 ⟨rfl,oC,mH,k3⟩
   have hc3:=k3.keep _ _ hc (by simp;omega)
   refine hQ _ _ (aX (cb ?_))
   clear hQ
   kspl_open hQ
   rw [TY]
   refine a7 (Nc (s1:=(false,1)) (k:=j) n0 hn (.inr rfl) (by omega) oC mH r1.1 w0.v (by have:=r1.2.2.1;omega) (by have:=r1.2.2.2.1;omega)) ?_
   rintro d s4 ⟨rfl,DS,pd,k4⟩
   have hc4:=k4.keep _ _ hc3 (by simp;omega)
   refine hQ _ _ (nc ?_)
   clear hQ
   refine cj ?_
   intro dN hQ
   set_option simprocs false in simp only [bC,jy hc4]
   have eS:af.kL n (af.ch n p j)=af.bg n (af.ch n p j).1 (af.ch n p j).2.1 j (true,1):=by unfold af.kL;rw [mO]
   have eT:af.jM n (af.ch n p j)=af.bg n (af.bg n (af.ch n p j).1 (af.ch n p j).2.1 j (true,1)).1 (af.bg n (af.ch n p j).1 (af.ch n p j).2.1 j (true,1)).2.1 j (false,1):=by unfold af.jM;rw [eS,mO]
   have kd:∀ {x y:Store},Ex [] st x->Ex [a,b] x y->Ex [] st y:=fun {x y} h g=>⟨VL h.len g.len,fun i o e n=>g.keep i o (h.keep i o e n) (by have:=dH e;simp;omega)⟩
   have k5:Ex [] st s4:=kd (kd k k3) k4
   refine ⟨lx (by rw [bu hc4];rfl),rfl,jz (by rw [Vd];omega),hQ _ _ ⟨m - 1,by omega,_,_,_,j + 1,rfl,by omega,?_,?_,?_,k5.loc (by omega)⟩⟩
   ·rw [Vq (by omega)]
    show _=some (O.lst ((af.jM n (af.ch n p j)).1.map aN))
    rw [eT];exact DS
   ·rw [Vq (by omega)]
    show _=some (O.lst ((af.jM n (af.ch n p j)).2.1.map wD))
    rw [eT];exact pd
   ·rw [Vi (dH hc4)]
    show _=some (O.lst (((af.ch n p j).2.2 ++ [((af.kL n (af.ch n p j)).2.2,(af.jM n (af.ch n p j)).2.2)]).map y4))
    rw [Vx,eT,eS];rfl
 ·have z:¬ j < (af.ch n p j).1.length:=by have:=of_decide_eq_false z;omega
  have ej:j=N:=by
   rcases W3 j N with h | h
   ·exact absurd (pr j h) z
   ·omega
  subst ej
  clear hQ
  kspl_open hQ
  generalize hC:af.ch n p j=C at ha hb hc g F hfl mO
  refine pE (aJ 0 j) (fun d=>Ao (C.1.getD (inD d).toNat ([],[])) (C.2.1.getD (inD d).toNat []) (C.2.2.getD (inD d).toNat (0,0))) ?_ (by rw [gH];omega) ?_ ?_
  ·refine cj ?_
   intro fS b7
   set_option simprocs false in simp only [bC,bu ha]
   rw [Vd,hfl]
   exact ⟨by omega,b7 _ _ ⟨by rw [Vr];exact qg _ _,Ex.refl⟩⟩
  ·intro d hd s5 k5
   obtain ⟨i,hi⟩:=VX hd
   have hil:=dH hi
   rw [gH] at hil
   rw [xC hil,WA] at hi
   cases hi
   have hwl:=g.r.wl
   have ef:=dF (d:=(([],[]):af.aR)) (show i < C.1.length by omega)
   have ew:=dF (d:=([]:List fw)) (show i < C.2.1.length by omega)
   have el:=dF (d:=((0,0):Nat×Nat)) (show i < C.2.2.length by omega)
   have a1:d5 (C.1.map aN) (i:Int)=some (aN (C.1.getD i ([],[]))):=l6 ef
   have a2:d5 (C.2.1.map wD) (i:Int)=some (wD (C.2.1.getD i [])):=l6 ew
   have a3:d5 (C.2.2.map y4) (i:Int)=some (y4 (C.2.2.getD i (0,0))):=l6 el
   have g0:∀ {l:Nat×Nat} {s:Store} {Q:D->Store->Prop},Wp (a5 (y4 l) (.int 0) s) Q↔Q (.int (l.1:Int)) s:=bK
   have g1:∀ {l:Nat×Nat} {s:Store} {Q:D->Store->Prop},Wp (a5 (y4 l) (.int 1) s) Q↔Q (.int (l.2:Int)) s:=bK
   have uq:=k5.keep _ _ ha (by simp)
   have vG:=k5.keep _ _ hb (by simp)
   have hc5:=k5.keep _ _ hc (by simp)
   refine cj ?_
   intro fS b7
   set_option simprocs false in simp only [bC,Vy,VT,VP,VQ,bu uq,bu vG,bu hc5,a1,a2,a3,g0,g1]
   exact ⟨rfl,b7 _ _ ⟨rfl,Ex.refl⟩⟩
  ·intro s5 k5
   refine ⟨_,qe,hQ _ _ ⟨?_,(k.trans k5).app _⟩⟩
   rw [hC]
   unfold oB
   congr 1
   unfold aJ
   rw [VB]
   refine VS fun i _=>?_
   show Ao _ _ _=_
   simp only [Function.comp,inD,WA,Vr]
def cT (r:af.Ro):D:=.tup [aN r.q,wD r.w,.int r.s,.int r.t]
def iP (R:List af.Ro):D:=.tup (R.map cT)
theorem DW (n N:Nat) (C:af.CS):oB C N=iP (af.ff n C N):=by
 unfold oB iP af.ff
 rw [VB]
 rfl
theorem Aq {st:Store} {Q:D->Store->Prop} {r:af.Ro}:Wp (a5 (cT r) (.int 0) st) Q↔Q (aN r.q) st:=bK
theorem Gv {st:Store} {Q:D->Store->Prop} {r:af.Ro}:Wp (a5 (cT r) (.int 1) st) Q↔Q (wD r.w) st:=bK
theorem Nd {st:Store} {Q:D->Store->Prop} {r:af.Ro}:Wp (a5 (cT r) (.int 2) st) Q↔Q (.int r.s) st:=bK
theorem Nf {st:Store} {Q:D->Store->Prop} {r:af.Ro}:Wp (a5 (cT r) (.int 3) st) Q↔Q (.int r.t) st:=bK
theorem DX {st:Store} {n:Nat} {p:af.aR} (w:af.Wh n p) (n0:0 < n) (hn:n<=20):Wp (mP [aN p] st) fun d st'=>d=aN (af.bE n p)/\Ex [] st st':=JC (yX w) n0 hn
theorem y6 {st:Store} {Q:D->Store->Prop} {neg:Bool} {p q:af.aR}:Wp (e8 neg (aN p) (aN q) st) Q↔Q (.bl (if neg then !decide (p=q) else decide (p=q))) st:=by
 have e:decide ([p.1,p.2]=[q.1,q.2])=decide (p=q):=decide_eq_decide.mpr ⟨fun z=>by injection z with z1 z2;injection z2 with z2 _;exact Prod.ext z1 z2,fun z=>by rw [z]⟩
 show Wp (e8 neg (cq p.1 p.2) (cq q.1 q.2) st) Q↔_
 rw [Rn,e]
theorem T1 {st:Store} {n:Nat} {p:af.aR} (v:af.Vf n p) (hn:n<=100):Wp (ui [aN p,.int 1] st) fun d st'=>d=aN (af.Sh 1 p)/\Ex [] st st':=MZ v.1 v.2 hn
theorem T2 {st:Store} {n:Nat} {p:af.aR} (v:af.Vf n p) (hn:n<=100):Wp (uj [aN p] st) fun d st'=>d=aN (af.Qt p)/\Ex [] st st':=M0 v.1 v.2 hn
theorem Ng {st:Store} {b m:Nat} {fs:List af.aR} {i:Int} {q:af.aR} (hb:st[b]?=some (.lst (fs.map aN))) (w:af.Wh m q) (m0:0 < m) (hm:m<=20):Wp (yP [.ref b,.int i,aN q] st) fun d st'=>(∃ c:Bool,d=.bl c/\(c=true↔af.At fs i (af.bE m q)))/\Ex [] st st':=by
 refine iy ?_
 show Ws (FW [some (.ref b),some (.int i),some (aN q)] st) _ _ _ _
 unfold FW
 refine dQ ?_
 refine cj ?_
 intro dN hQ
 set_option simprocs false in simp only [bC,Iu,bu hb]
 rw [Vd]
 by_cases h0:0<=i
 ·by_cases h1:i < (fs.length:Int)
  ·simp only [h0,h1,decide_true,if_true]
   have hi:i.toNat < fs.length:=by omega
   have e:=dF (d:=(([],[]):af.aR)) hi
   have ea:d5 (fs.map aN) i=some (aN (fs.getD i.toNat ([],[]))):=by
    have:=l6 (g:=aN) e
    rwa [VH h0] at this
   refine ⟨_,ea,?_⟩
   refine a7 (DX w m0 hm) ?_
   rintro d s1 ⟨rfl,k1⟩
   rw [y6]
   refine hQ _ _ ⟨⟨_,rfl,?_⟩,k1⟩
   unfold af.At
   simp only [h0,h1,true_and]
   rw [e]
   simp
  ·simp only [h0,h1,decide_true,decide_false,if_true,VC,if_false]
   exact hQ _ _ ⟨⟨_,rfl,⟨fun z=>(nomatch z),fun z=>absurd z.2.1 h1⟩⟩,Ex.refl⟩
 ·simp only [h0,decide_false,VC,if_false]
  exact hQ _ _ ⟨⟨_,rfl,⟨fun z=>(nomatch z),fun z=>absurd z.1 h0⟩⟩,Ex.refl⟩
theorem T3 {st:Store} {b n:Nat} {p:af.aR} {fs:List af.aR} {r:af.Ro} (hb:st[b]?=some (.lst (fs.map aN))) (wp:af.Wh n p) (n0:0 < n) (hn:n<=20) (ok:af.fe r):Wp (Dv [aN p,cT r,.ref b] st) fun d st'=>(∃ c:Bool,d=.bl c/\(c=true↔af.oX n p fs r))/\Ex [] st st':=by
 refine iy ?_
 show Ws (FX [some (aN p),some (cT r),some (.ref b)] st) _ _ _ _
 unfold FX
 refine aX (gJ ?_)
 refine cj ?_
 intro dN hQ
 set_option simprocs false in simp only [bC,Aq,Gv]
 unfold wD
 refine a7 (M4 (p:=p) (w:=r.w) ⟨wp.v.1,wp.v.2⟩ (by omega) (Gq ok.pr) ok.wl) ?_
 rintro d s1 ⟨rfl,k1⟩
 rw [Gr]
 refine a7 (DX (wp.ld n0 (w:=r.w)) n0 hn) ?_
 rintro d s2 ⟨rfl,k2⟩
 refine a7 (DX ok.w ok.m0 ok.oY) ?_
 rintro d s3 ⟨rfl,k3⟩
 have Gw:=(k1.trans k2).trans k3
 have mH:=Gw.keep _ _ hb (by simp)
 rw [y6,if_pos rfl]
 refine ⟨_,rfl,hQ _ _ ⟨fun z=>dQ ?_,fun z=>iG (dQ ?_)⟩⟩
 ·clear hQ
  kspl_open hQ
  refine hQ _ _ ⟨⟨_,rfl,⟨fun z=>(nomatch z),fun y=>?_⟩⟩,Gw⟩
  have:af.bE n (af.kF p r.w)=af.bE r.m r.q:=y.1
  rw [this] at z
  simp at z
 ·have e:af.bE n (af.kF p r.w)=af.bE r.m r.q:=by simpa using z
  clear hQ
  refine cj ?_
  intro dN hQ
  set_option simprocs false in simp only [bC,Iu,Aq,Nd,Nf]
  have vq:=ok.w.v
  refine a7 (T1 (p:=r.q) vq (by have:=ok.oY;omega)) ?_
  rintro d s4 ⟨rfl,k4⟩
  have pd:=k4.keep _ _ mH (by simp)
  refine a7 (Ng (i:=r.s) pd (ok.w.sh ok.m0 1) ok.m0 ok.oY) ?_
  rintro d s5 ⟨⟨c1,rfl,hc1⟩,k5⟩
  have vG:=k5.keep _ _ pd (by simp)
  refine ⟨_,rfl,?_⟩
  cases c1 with
  | false =>
   simp only [VC,if_false]
   refine hQ _ _ ⟨⟨_,rfl,⟨fun z=>(nomatch z),fun y=>by have:=hc1.mpr y.2.1;cases this⟩⟩,(Gw.trans k4).trans k5⟩
  | true =>
   simp only [if_true]
   refine a7 (T2 (p:=r.q) vq (by have:=ok.oY;omega)) ?_
   rintro d s6 ⟨rfl,k6⟩
   have JI:=k6.keep _ _ vG (by simp)
   refine a7 (Ng (i:=r.t) JI (ok.w.qt ok.m0) ok.m0 ok.oY) ?_
   rintro d s7 ⟨⟨c2,rfl,hc2⟩,k7⟩
   refine hQ _ _ ⟨⟨_,rfl,⟨fun z=>⟨e,hc1.mp rfl,hc2.mp z⟩,fun y=>hc2.mpr y.2.2⟩⟩,(((Gw.trans k4).trans k5).trans k6).trans k7⟩
theorem Nh {ds:List D} {i:Nat} {d:D} (h:ds[i]?=some d):(fu ds)[i]?=some (.tup [.int (i:Int),d]):=by
 unfold fu
 simp [Vm,List.getElem?_zipIdx,h]
theorem T5 {st:Store} {n:Nat} {p:af.aR} {R:List af.Ro} (wp:af.Wh n p) (n0:0 < n) (hn:n<=20) (ok:∀ r∈R,af.fe r) (few:R.length<=100):Wp (Ah [aN p,iP R] st) fun d st'=>(∃ c:Bool,d=.bl c/\(c=true↔af.Holds n p R))/\Ex [] st st':=by
 refine iy ?_
 show Ws (FY [some (aN p),some (iP R),none,none,none] st) _ _ _ _
 unfold FY
 refine aX (cb ?_)
 obtain ⟨h,hh⟩:∃ h:D->D,∀ r∈R,h (cT r)=aN r.f:=by
  classical
  refine ⟨fun d=>if x:∃ r,r∈R/\cT r=d then aN x.choose.f else .non,fun r hr=>?_⟩
  have x:∃ r',r'∈R/\cT r'=cT r:=⟨r,hr,rfl⟩
  show (if x:∃ r',r'∈R/\cT r'=cT r then aN x.choose.f else .non)=_
  rw [dif_pos x]
  obtain ⟨h1,h2⟩:=x.choose_spec
  have e:x.choose.q=r.q:=vE (by injection h2 with h2;injection h2)
  have em:x.choose.m=r.m:=by rw [<- (ok _ h1).w.v.1.length,<- (ok _ hr).w.v.1.length,e]
  unfold af.Ro.f
  rw [e,em]
 refine pE (R.map cT) h ?_ (by rw [Vd];omega) ?_ ?_
 ·kspl_open hQ
  exact ⟨_,rfl,hQ _ _ ⟨qg _ _,Ex.refl⟩⟩
 ·intro d hd s1 k1
  obtain ⟨r,hr,rfl⟩:=Vn.mp hd
  refine cj ?_
  intro dN hQ
  set_option simprocs false in simp only [bC,Aq]
  refine a7 (DX (ok r hr).w (ok r hr).m0 (ok r hr).oY) ?_
  rintro d s2 ⟨rfl,k2⟩
  exact hQ _ _ ⟨(hh r hr).symm,k2⟩
 intro s1 k1
 have eh:(R.map cT).map h=(R.map af.Ro.f).map aN:=by
  rw [VB,VB]
  exact VS fun r hr=>hh r hr
 rw [eh]
 have hb:(s1 ++ [O.lst ((R.map af.Ro.f).map aN)])[s1.length]?=some (.lst ((R.map af.Ro.f).map aN)):=h7
 have kb:Ex [] st (s1 ++ [O.lst ((R.map af.Ro.f).map aN)]):=k1.app _
 generalize s1 ++ [O.lst ((R.map af.Ro.f).map aN)]=s2 at hb kb ⊢
 generalize s1.length=b at hb ⊢
 show Ws _ _ _ _ _
 have el:(R.map af.Ro.f).length=R.length:=Vd _
 have pf:∀ q:af.aR,pU 2 (aN q):=fun q=>zP 0 _ _
 refine aX (gJ ?_)
 refine cj ?_
 intro dN hQ
 set_option simprocs false in simp only [bC,bu hb]
 rw [Vd,el]
 by_cases z:R.length=0
 ·have z1:((R.length:Int)=0):=by omega
  simp only [z1,decide_true,if_true]
  refine hQ _ _ ⟨fun _=>dQ ?_,fun y=>(nomatch y)⟩
  clear hQ
  kspl_open hQ
  refine hQ _ _ ⟨⟨_,rfl,⟨fun y=>(nomatch y),fun y=>?_⟩⟩,kb⟩
  have:=(Ve.mp y.1).1
  omega
 ·have z1:¬ ((R.length:Int)=0):=by omega
  simp only [z1,decide_false,VC,if_false]
  have e0:=dF (d:=(([],[]):af.aR)) (show 0 < (R.map af.Ro.f).length by omega)
  have ea:d5 ((R.map af.Ro.f).map aN) 0=some (aN ((R.map af.Ro.f).getD 0 ([],[]))):=l6 (g:=aN) e0
  refine ⟨_,ea,?_⟩
  refine a7 (DX wp n0 hn) ?_
  rintro d s3 ⟨rfl,k3⟩
  have mH:=k3.keep _ _ hb (by simp)
  rw [y6,if_pos rfl]
  refine ⟨_,rfl,hQ _ _ ⟨fun y=>dQ ?_,fun y=>iG ?_⟩⟩
  ·clear hQ
   kspl_open hQ
   refine hQ _ _ ⟨⟨_,rfl,⟨fun y=>(nomatch y),fun x=>?_⟩⟩,kb.trans k3⟩
   have:=x.1
   rw [e0] at this
   rw [Vs this] at y
   simp at y
  ·have y:(R.map af.Ro.f)[0]?=some (af.bE n p):=by rw [e0];congr 1;simpa using y
   clear hQ
   have eL:(fu (R.map cT)).length=R.length:=by unfold fu;simp
   refine aX (lZ (fu (R.map cT)) (fun i δ s=>∃ (v3 v4:Option D),δ=[some (aN p),some (iP R),some (.ref b),v3,v4]/\s[b]?=some (.lst ((R.map af.Ro.f).map aN))/\(∀ (k:Nat) (r:af.Ro),k < i->R[k]?=some r->r.f ∉ (R.map af.Ro.f).take k/\af.oX n p (R.map af.Ro.f) r)/\Ex [] st s) ?_ (by omega) ?_ ?_)
   ·kspl_open hQ
    exact ⟨_,rfl,hQ _ _ ⟨rfl,_,_,rfl,mH,fun k r hk=>absurd hk (VY k),kb.trans k3⟩⟩
   ·rintro i d δ s hd ⟨v3,v4,rfl,hb,good,k⟩
    have hi:i < R.length:=by have:=dH hd;omega
    have er:R[i]?=some R[i]:=Vg hi
    have hr:R[i]∈R:=V8 hi
    generalize R[i]=r at er hr
    rw [Nh (d:=cT r) (by rw [Vm,er];rfl)] at hd
    cases hd
    have ef:(R.map af.Ro.f)[i]?=some r.f:=by rw [Vm,er];rfl
    have ec:cutD ((R.map af.Ro.f).map aN) none (some (i:Int))=((R.map af.Ro.f).take i).map aN:=by
     rw [List.map_take]
     exact IW _ i
    kspl_open hQ
    refine ⟨rfl,hQ _ _ (gJ ?_)⟩
    clear hQ
    refine cj ?_
    intro dN hQ
    set_option simprocs false in simp only [bC,bu hb,l6 (g:=aN) ef]
    rw [ec]
    rw [E9 (n:=2) (es:=((R.map af.Ro.f).take i).map aN) (pf _) (by rw [Iz];exact qe) (fun e he=>by obtain ⟨q,_,rfl⟩:=Vn.mp he;exact pf q) (by decide)]
    have hb1:=hW (m:=[O.lst (((R.map af.Ro.f).take i).map aN)]) hb
    have k1:Ex [] st (s ++ [O.lst (((R.map af.Ro.f).take i).map aN)]):=k.app _
    generalize s ++ [O.lst (((R.map af.Ro.f).take i).map aN)]=s5 at hb1 k1 ⊢
    by_cases hm:r.f∈(R.map af.Ro.f).take i
    ·have hm':aN r.f∈((R.map af.Ro.f).take i).map aN:=Vn.mpr ⟨_,hm,rfl⟩
     refine ⟨true,by simp only [hm',decide_true,VC,if_false],?_⟩
     simp only [if_true]
     refine hQ _ _ ⟨fun _=>dQ ?_,fun y=>(nomatch y)⟩
     clear hQ
     kspl_open hQ
     exact hQ _ _ ⟨⟨_,rfl,⟨fun y=>(nomatch y),fun x=>absurd hm (x.2 i r er).1⟩⟩,k1⟩
    ·have hm':aN r.f ∉ ((R.map af.Ro.f).take i).map aN:=fun x=>by
      obtain ⟨q,h1,h2⟩:=Vn.mp x
      exact hm (vE h2 ▸ h1)
     refine ⟨false,by simp only [hm',decide_false,VC,if_false],?_⟩
     simp only [VC,if_false]
     refine a7 (T3 hb1 wp n0 hn (ok r hr)) ?_
     rintro d s6 ⟨⟨c,rfl,hc⟩,k6⟩
     have JI:=k6.keep _ _ hb1 (by simp)
     refine ⟨_,rfl,?_⟩
     cases c with
     | true =>
      refine hQ _ _ ⟨fun y=>(nomatch y),fun _=>iG ⟨_,_,rfl,JI,fun j r' hj hr'=>?_,k1.trans k6⟩⟩
      by_cases e:j=i
      ·subst e
       rw [er] at hr'
       cases hr'
       exact ⟨hm,hc.mp rfl⟩
      ·exact good j r' (by omega) hr'
     | false =>
      refine hQ _ _ ⟨fun _=>dQ ?_,fun y=>(nomatch y)⟩
      clear hQ
      kspl_open hQ
      exact hQ _ _ ⟨⟨_,rfl,⟨fun y=>(nomatch y),fun x=>by have:=hc.mpr (x.2 i r er).2;cases this⟩⟩,k1.trans k6⟩
   ·rintro δ s ⟨v3,v4,rfl,hb,good,k⟩
    rw [eL] at good
    refine dQ ?_
    kspl_open hQ
    exact hQ _ _ ⟨⟨_,rfl,⟨fun _=>⟨y,fun k r hr=>good k r (Ve.mp hr).1 hr⟩,fun _=>rfl⟩⟩,k⟩
theorem Ar {st:Store} {n:Nat} {p:af.aR} (w:af.Wh n p) (n0:0 < n) (hn:n<=20):Wp (lJ [aN p] st) fun d st'=>d=aN (af.bE n p)/\Ex [] st st':=JD (yX w) n0 hn
theorem Ni {R:List af.Ro} (ok:∀ r∈R,af.fe r):∃ h:D->D,∀ r∈R,h (cT r)=aN r.f:=by
 classical
 refine ⟨fun d=>if x:∃ r,r∈R/\cT r=d then aN x.choose.f else .non,fun r hr=>?_⟩
 have x:∃ r',r'∈R/\cT r'=cT r:=⟨r,hr,rfl⟩
 show (if x:∃ r',r'∈R/\cT r'=cT r then aN x.choose.f else .non)=_
 rw [dif_pos x]
 obtain ⟨h1,h2⟩:=x.choose_spec
 have e:x.choose.q=r.q:=vE (by injection h2 with h2;injection h2)
 have em:x.choose.m=r.m:=by rw [<- (ok _ h1).w.v.1.length,<- (ok _ hr).w.v.1.length,e]
 unfold af.Ro.f
 rw [e,em]
theorem sr {st:Store} {R:List af.Ro} {δ:au} {i:Nat} {Q:D->Store->Prop} (ok:∀ r∈R,af.fe r) (few:R.length<=100) (hc:δ[i]?=some (some (iP R))) (h:∀ s b,s[b]?=some (.lst ((R.map af.Ro.f).map aN))->st.length<=b->Ex [] st s->Q (.ref b) s):Wp (cD (c4 (ag i)) 1 [] (hName 0) dc (aM lJ (ae (aD a5 (ag 0) (fC (.int 0))) ah)) δ st) Q:=by
 obtain ⟨g,hg⟩:=Ni ok
 refine pE (R.map cT) g ?_ (by rw [Vd];omega) ?_ ?_
 ·kspl_open hQ
  exact ⟨_,hc,_,rfl,hQ _ _ ⟨qg _ _,Ex.refl⟩⟩
 ·intro d hd s1 k1
  obtain ⟨r,hr,rfl⟩:=Vn.mp hd
  refine cj ?_
  intro dN hQ
  set_option simprocs false in simp only [bC,Aq]
  refine a7 (Ar (ok r hr).w (ok r hr).m0 (ok r hr).oY) ?_
  rintro d s2 ⟨rfl,k2⟩
  exact hQ _ _ ⟨(hg r hr).symm,k2⟩
 ·intro s1 k1
  have eh:(R.map cT).map g=(R.map af.Ro.f).map aN:=by
   rw [VB,VB]
   exact VS fun r hr=>hg r hr
  rw [eh]
  exact h _ _ h7 k1.len (k1.app _)
theorem T6 {st:Store} {n:Nat} {q:af.aR} {s:fw} (v:af.Vf n q) (hn:n<=100) (hs:yV s):Wp (pb [aN q,bF s] st) fun d st'=>d=aN (af.stM q s)/\Ex [] st st':=by
 refine a7 (Jx (p:=q) (n:=n) ⟨v.1,v.2⟩ hn hs) ?_
 rintro d s1 ⟨rfl,k1⟩
 exact ⟨by rw [JF],k1⟩
theorem Nj {s st:Store} {b m:Nat} {R:List af.Ro} {r:af.Ro} {i:Int} {sp:fw} {d0:D} {v3:Option D} {Nx B Co:au->Store->Prop} {Rt:D->Store->Prop} (hb:s[b]?=some (.lst ((R.map af.Ro.f).map aN))) (ok:af.fe r) (hs:yV sp) (ps:sp=(true,1)\/sp=(false,1))
  (good:af.At (R.map af.Ro.f) i (af.bE r.m (af.stM r.q sp))->∀ s',s'[b]?=some (.lst ((R.map af.Ro.f).map aN))->Ex [] s s'->Nx [some d0,some (iP R),some (.ref b),v3,some (cT r),some (.int i),some (bF sp)] s')
  (bad:¬ af.At (R.map af.Ro.f) i (af.bE r.m (af.stM r.q sp))->∀ s',Ex [] s s'->Rt (.bl false) s') :
  Ws ((dJ (qy (aA (aD qO (ag 5) (fC (.int 0)))) (qy (aA (aD B5 (ag 5) (aM cc (ae (ag 1) ah)))) (aA (aD (e8 true) (aD bG (ag 2) (ag 5)) (aM lJ (ae (aM pb (ae (aD a5 (ag 4) (fC (.int 0))) (ae (ag 6) ah))) ah)))))) (bj (fC (.bl false))) aQ) [some d0,some (iP R),some (.ref b),v3,some (cT r),some (.int i),some (bF sp)] s) Nx B Co Rt:=by
 have yB:af.Wh r.m (af.stM r.q sp):=ok.w.st ok.m0 sp
 have hm:=ok.oY
 refine gJ ?_
 unfold iP at good ⊢
 kspl_open hQ
 by_cases h0:i < 0
 ·simp only [h0,decide_true,if_true]
  refine hQ _ _ ⟨fun _=>dQ ?_,fun z=>(nomatch z)⟩
  clear hQ
  kspl_open hQ
  exact hQ _ _ (bad (fun z=>by have:=z.1;omega) s Ex.refl)
 ·simp only [h0,decide_false,VC,if_false]
  rw [Vd]
  by_cases h1:i >= (R.length:Int)
  ·simp only [h1,decide_true,if_true]
   refine hQ _ _ ⟨fun _=>dQ ?_,fun z=>(nomatch z)⟩
   clear hQ
   kspl_open hQ
   exact hQ _ _ (bad (fun z=>by have:=z.2.1;rw [Vd] at this;omega) s Ex.refl)
  ·simp only [h1,decide_false,VC,if_false]
   have hi:i.toNat < (R.map af.Ro.f).length:=by rw [Vd];omega
   have e:=dF (d:=(([],[]):af.aR)) hi
   have ea:d5 ((R.map af.Ro.f).map aN) i=some (aN ((R.map af.Ro.f).getD i.toNat ([],[]))):=by
    have:=l6 (g:=aN) e
    rwa [VH (by omega)] at this
   set_option simprocs false in simp only [bC,bu hb,ea,Aq]
   refine a7 (T6 ok.w.v (by omega) hs) ?_
   rintro d s1 ⟨rfl,k1⟩
   refine a7 (Ar yB ok.m0 ok.oY) ?_
   rintro d s2 ⟨rfl,k2⟩
   rw [y6,if_pos rfl]
   have hb2:=(k1.trans k2).keep _ _ hb (by simp)
   have eA:af.At (R.map af.Ro.f) i (af.bE r.m (af.stM r.q sp))↔(R.map af.Ro.f).getD i.toNat ([],[])=af.bE r.m (af.stM r.q sp):=by
    unfold af.At
    rw [e]
    exact ⟨fun z=>Vs z.2.2,fun z=>⟨by omega,by rw [Vd];omega,by rw [z]⟩⟩
   generalize (R.map af.Ro.f).getD i.toNat ([],[])=G at eA ⊢
   by_cases z:G=af.bE r.m (af.stM r.q sp)
   ·refine ⟨_,rfl,hQ _ _ ⟨fun y=>absurd y (by simp [z]),fun _=>iG (good (eA.mpr z) _ hb2 (k1.trans k2))⟩⟩
   ·refine ⟨_,rfl,hQ _ _ ⟨fun _=>dQ ?_,fun y=>absurd y (by simp [z])⟩⟩
    clear hQ
    kspl_open hQ
    exact hQ _ _ (bad (fun y=>z (eA.mp y)) _ (k1.trans k2))
theorem T7 {st:Store} {n:Nat} {p:af.aR} {R:List af.Ro} (wp:af.Wh n p) (n0:0 < n) (hn:n<=20) (ok:∀ r∈R,af.fe r) (few:R.length<=100):Wp (Ak [aN p,iP R] st) fun d st'=>(∃ c:Bool,d=.bl c/\(c=true↔af.Holds n p R))/\Ex [] st st':=by
 refine iy ?_
 show Ws (F8 [some (aN p),some (iP R),none,none,none,none,none] st) _ _ _ _
 unfold F8
 refine aX (cb ?_)
 refine sr (i:=1) ok few rfl fun s2 b hb lb kb=>?_
 show Ws _ _ _ _ _
 have el:(R.map af.Ro.f).length=R.length:=Vd _
 have pf:∀ q:af.aR,pU 2 (aN q):=fun q=>zP 0 _ _
 refine aX (gJ ?_)
 kspl_open hQ
 refine ⟨rfl,?_⟩
 rw [Gs (n:=2) (ds:=(R.map af.Ro.f).map aN) (es:=[]) (bu (hW hb)) qe (fun d hd=>by obtain ⟨q,_,rfl⟩:=Vn.mp hd;exact pf q) (fun d hd=>nomatch hd) (by decide)]
 have hb2:=hW (m:=[O.lst []]) hb
 have kb2:Ex [] st (s2 ++ [O.lst []]):=kb.app _
 generalize s2 ++ [O.lst []]=s3 at hb2 kb2 ⊢
 cases R with
 | nil =>
  refine ⟨true,by simp,?_⟩
  simp only [if_true]
  refine hQ _ _ ⟨fun _=>dQ ?_,fun y=>(nomatch y)⟩
  clear hQ
  kspl_open hQ
  exact hQ _ _ ⟨⟨_,rfl,⟨fun y=>(nomatch y),fun y=>by cases y.1⟩⟩,kb2⟩
 | cons r0 R' =>
  generalize hR:r0 :: R'=R at *
  have z:R.length≠0:=by rw [<- hR];simp
  have ne:(R.map af.Ro.f).map aN≠[]:=by rw [<- hR];simp
  refine ⟨false,by simp only [ne,decide_false,VC,if_false],?_⟩
  simp only [VC,if_false]
  have e0:=dF (d:=(([],[]):af.aR)) (show 0 < (R.map af.Ro.f).length by omega)
  have ea:d5 ((R.map af.Ro.f).map aN) 0=some (aN ((R.map af.Ro.f).getD 0 ([],[]))):=l6 (g:=aN) e0
  set_option simprocs false in simp only [bC,bu hb2,ea]
  refine a7 (Ar wp n0 hn) ?_
  rintro d s4 ⟨rfl,k4⟩
  have pd:=k4.keep _ _ hb2 (by simp)
  rw [y6,if_pos rfl]
  refine ⟨_,rfl,hQ _ _ ⟨fun y=>dQ ?_,fun y=>iG ?_⟩⟩
  ·clear hQ
   kspl_open hQ
   refine hQ _ _ ⟨⟨_,rfl,⟨fun y=>(nomatch y),fun x=>?_⟩⟩,kb2.trans k4⟩
   have:=x.1
   rw [e0] at this
   rw [Vs this] at y
   simp at y
  ·have y:(R.map af.Ro.f)[0]?=some (af.bE n p):=by rw [e0];congr 1;simpa using y
   clear hQ
   have eL:(fu (R.map cT)).length=R.length:=by unfold fu;simp
   refine aX (lZ (fu (R.map cT)) (fun i δ s=>∃ (v3 v4 v5 v6:Option D),δ=[some (aN p),some (iP R),some (.ref b),v3,v4,v5,v6]/\s[b]?=some (.lst ((R.map af.Ro.f).map aN))/\(∀ (k:Nat) (r:af.Ro),k < i->R[k]?=some r->r.f ∉ (R.map af.Ro.f).take k/\af.oX n p (R.map af.Ro.f) r)/\Ex [] st s) ?_ (by omega) ?_ ?_)
   ·kspl_open hQ
    exact ⟨_,rfl,hQ _ _ ⟨rfl,_,_,_,_,rfl,pd,fun k r hk=>absurd hk (VY k),kb2.trans k4⟩⟩
   ·rintro i d δ s hd ⟨v3,v4,v5,v6,rfl,hb,good,k⟩
    have hi:i < R.length:=by have:=dH hd;omega
    have er:R[i]?=some R[i]:=Vg hi
    have hr:R[i]∈R:=V8 hi
    generalize R[i]=r at er hr
    rw [Nh (d:=cT r) (by rw [Vm,er];rfl)] at hd
    cases hd
    have gD:=ok r hr
    have ef:(R.map af.Ro.f)[i]?=some r.f:=by rw [Vm,er];rfl
    have ec:cutD ((R.map af.Ro.f).map aN) none (some (i:Int))=((R.map af.Ro.f).take i).map aN:=by
     rw [List.map_take]
     exact IW _ i
    kspl_open hQ
    refine ⟨rfl,hQ _ _ (aX (gJ ?_))⟩
    clear hQ
    refine cj ?_
    intro dN hQ
    set_option simprocs false in simp only [bC,bu hb,l6 (g:=aN) ef]
    rw [ec]
    rw [E9 (n:=2) (es:=((R.map af.Ro.f).take i).map aN) (pf _) (by rw [Iz];exact qe) (fun e he=>by obtain ⟨q,_,rfl⟩:=Vn.mp he;exact pf q) (by decide)]
    have hb1:=hW (m:=[O.lst (((R.map af.Ro.f).take i).map aN)]) hb
    have k1:Ex [] st (s ++ [O.lst (((R.map af.Ro.f).take i).map aN)]):=k.app _
    generalize s ++ [O.lst (((R.map af.Ro.f).take i).map aN)]=s5 at hb1 k1 ⊢
    by_cases hm:r.f∈(R.map af.Ro.f).take i
    ·have hm':aN r.f∈((R.map af.Ro.f).take i).map aN:=Vn.mpr ⟨_,hm,rfl⟩
     refine ⟨true,by simp only [hm',decide_true,VC,if_false],?_⟩
     simp only [if_true]
     refine hQ _ _ ⟨fun _=>dQ ?_,fun y=>(nomatch y)⟩
     clear hQ
     kspl_open hQ
     exact hQ _ _ ⟨⟨_,rfl,⟨fun y=>(nomatch y),fun x=>absurd hm (x.2 i r er).1⟩⟩,k1⟩
    ·have hm':aN r.f ∉ ((R.map af.Ro.f).take i).map aN:=fun x=>by
      obtain ⟨q,h1,h2⟩:=Vn.mp x
      exact hm (vE h2 ▸ h1)
     refine ⟨false,by simp only [hm',decide_false,VC,if_false],?_⟩
     simp only [VC,if_false]
     set_option simprocs false in simp only [bC,bu hb1,l6 (g:=aN) ef,Gv]
     unfold wD
     refine a7 (Jy (p:=p) (w:=r.w) ⟨wp.v.1,wp.v.2⟩ (by omega) (Gq gD.pr) gD.wl) ?_
     rintro d s6 ⟨rfl,k6⟩
     rw [Gr]
     refine a7 (Ar (wp.ld n0 (w:=r.w)) n0 hn) ?_
     rintro d s7 ⟨rfl,k7⟩
     have T8:=(k6.trans k7).keep _ _ hb1 (by simp)
     have Nk:=k1.trans (k6.trans k7)
     rw [y6,if_pos rfl]
     by_cases e1:r.f=af.bE n (af.kF p r.w)
     ·refine ⟨_,rfl,hQ _ _ ⟨fun x=>absurd x (by simp [e1]),fun _=>iG ?_⟩⟩
      clear hQ
      refine lZ [.tup [.int r.s,bF (true,1)],.tup [.int r.t,bF (false,1)]] (fun j δ s=>∃ (v5 v6:Option D),δ=[some (aN p),some (iP R),some (.ref b),some (.int (i:Int)),some (cT r),v5,v6]/\s[b]?=some (.lst ((R.map af.Ro.f).map aN))/\(1<=j->af.At (R.map af.Ro.f) r.s (af.bE r.m (af.Sh 1 r.q)))/\(2<=j->af.At (R.map af.Ro.f) r.t (af.bE r.m (af.Qt r.q)))/\Ex [] st s) ?_ (show 2 < 100000 by decide) ?_ ?_
      ·refine cj ?_
       intro dN hQ
       set_option simprocs false in simp only [bC,Nd,Nf]
       exact ⟨rfl,rfl,rfl,rfl,rfl,hQ _ _ ⟨rfl,_,_,rfl,T8,fun x=>absurd x (by decide),fun x=>absurd x (by decide),Nk⟩⟩
      ·rintro j d δ s8 hd ⟨v5,v6,rfl,Gx,g1,g2,k8⟩
       rcases j with _ | _ | j
       ·cases hd
        kspl_open hQ
        refine ⟨rfl,hQ _ _ ?_⟩
        refine Nj (st:=st) (m:=0) (sp:=(true,1)) Gx gD (fun z=>(nomatch z)) (.inl rfl) (fun a s' hb' k'=>⟨_,_,rfl,hb',fun _=>a,fun x=>absurd x (by decide),k8.trans k'⟩) fun a s' k'=>⟨⟨_,rfl,⟨fun y=>(nomatch y),fun x=>absurd (x.2 i r er).2.2.1 a⟩⟩,k8.trans k'⟩
       ·cases hd
        kspl_open hQ
        refine ⟨rfl,hQ _ _ ?_⟩
        refine Nj (st:=st) (m:=0) (sp:=(false,1)) Gx gD (fun _=>by decide) (.inr rfl) (fun a s' hb' k'=>⟨_,_,rfl,hb',fun _=>g1 (by decide),fun _=>a,k8.trans k'⟩) fun a s' k'=>⟨⟨_,rfl,⟨fun y=>(nomatch y),fun x=>absurd (x.2 i r er).2.2.2 a⟩⟩,k8.trans k'⟩
       ·exact absurd hd (by simp)
      ·rintro δ s8 ⟨v5,v6,rfl,Gx,g1,g2,k8⟩
       refine ⟨_,_,_,_,rfl,Gx,fun j r' hj hr'=>?_,k8⟩
       by_cases e:j=i
       ·subst e
        rw [er] at hr'
        cases hr'
        exact ⟨hm,e1.symm,g1 (by show 1<=2;decide),g2 (by show 2<=2;decide)⟩
       ·exact good j r' (by omega) hr'
     ·refine ⟨_,rfl,hQ _ _ ⟨fun _=>dQ ?_,fun x=>absurd x (by simp [e1])⟩⟩
      clear hQ
      kspl_open hQ
      exact hQ _ _ ⟨⟨_,rfl,⟨fun y=>(nomatch y),fun x=>absurd (x.2 i r er).2.1.symm e1⟩⟩,Nk⟩
   ·rintro δ s ⟨v3,v4,v5,v6,rfl,hb,good,k⟩
    rw [eL] at good
    refine dQ ?_
    kspl_open hQ
    exact hQ _ _ ⟨⟨_,rfl,⟨fun _=>⟨y,fun k r hr=>good k r (Ve.mp hr).1 hr⟩,fun _=>rfl⟩⟩,k⟩
theorem ur {kf:Int} {j:Int} {b:au->Dm Fl} {δ:au} {s:Store} {N B C:au->Store->Prop} {R:D->Store->Prop} {P P':Store->Prop} (h3:δ[3]?=some (some (.int kf))) (hP:(j<=kf/\P s)\/(kf < j/\P' s)) (hb:kf=j->P s->Ws (b δ s) (fun δ1 s1=>δ1=δ/\P' s1) B C R) (hN:∀ s1,((j + 1<=kf/\P s1)\/(kf < j + 1/\P' s1))->N δ s1):Ws (dJ (aA (aD (iO false) (ag 3) (fC (.int j)))) b aQ δ s) N B C R:=by
 refine gJ ?_
 kspl_open hQ
 refine ⟨_,h3,?_⟩
 w_how
 by_cases e:kf=j
 ·refine hQ _ _ ⟨fun _=>?_,fun z=>absurd z (by simp [e])⟩
  rcases hP with ⟨_,hp⟩ | ⟨z,_⟩
  ·refine sO (hb e hp) fun δ1 s1 h=>?_
   rw [h.1]
   exact hN s1 (.inr ⟨by omega,h.2⟩)
  ·omega
 ·refine hQ _ _ ⟨fun z=>absurd (of_decide_eq_true z) e,fun _=>iG (hN s ?_)⟩
  rcases hP with ⟨z,hp⟩ | ⟨z,hp⟩
  ·exact .inl ⟨by omega,hp⟩
  ·exact .inr ⟨by omega,hp⟩
structure oD (st s:Store) (f a:Nat) (R:List af.Ro):Prop where
 l:s[a]?=some (.lst (R.map cT))
 fd:aW s f
 k:Ex [f] st s
structure qF (st s:Store) (f a c:Nat):Prop where
 ex:∃ R,oD st s f a R/\(∀ r∈R,af.fe r)/\R.length<=c
theorem JJ {n i:Nat} (h:i < n):lW n (i:Int)=some i:=wL h
theorem y8 {st s:Store} {f a c i:Nat} {R:List af.Ro} {r:af.Ro} {δ:au} {vi:Nat} {Q:au->Store->Prop} (h:oD st s f a R) (la:st.length<=a) (fa:f≠a) (ok:∀ r∈R,af.fe r) (hi:i < R.length) (hc:R.length<=c) (gD:af.fe r) (h4:δ[4]?=some (some (.ref a))) (h5:δ[vi]?=some (some (.int (i:Int)))) (hQ:∀ s',qF st s' f a c->Q δ s'):Wp (hSub (ag 4) (ag vi) (cT r) δ s) Q:=by
 refine cj ?_
 intro fS b7
 set_option simprocs false in simp only [bC,IG]
 refine ⟨_,h4,_,h5,_,rfl,_,rfl,_,jy h.l,_,JJ (by rw [Vd];exact hi),b7 _ _ (hQ _ ⟨R.set i r,⟨?_,?_,?_⟩,fun r' hr'=>?_,by rw [VU];exact hc⟩)⟩
 ·rw [Vi (dH h.l),WR]
 ·exact h.fd.ne (fun z=>fa z.symm)
 ·exact h.k.loc la
 ·rcases W2 hr' with h | h
  ·exact ok r' h
  ·rw [h];exact gD
theorem DY {R:List af.Ro}:∀ d∈R.map cT,pU 4 d:=fun d hd=>by
 obtain ⟨r,_,rfl⟩:=Vn.mp hd
 show ∀ d∈[aN r.q,wD r.w,D.int r.s,D.int r.t],pU 3 d
 intro d hd
 simp only [VF,Xb,or_false] at hd
 rcases hd with rfl | rfl | rfl | rfl
 ·exact zP 1 _ _
 ·exact fun d hd=>by obtain ⟨x,_,rfl⟩:=Vn.mp hd;exact vw 1 x
 ·exact True.intro
 ·exact True.intro
theorem y9 {n i:Nat} (h:i < n):seqIndex? (i:Int) n=some i:=by
 unfold seqIndex?
 have h1:¬ (i:Int) < 0:=by omega
 have h2:(i:Int) < (n:Int):=by omega
 simp only [h1,if_false,h2,decide_true,Bool.and_true,Vr]
 rw [if_pos (by simp)]
theorem T9 {st:Store} {f n:Nat} {p:af.aR} {R:List af.Ro} (hf:aW st f) (wp:af.Wh n p) (n0:0 < n) (hn:n<=20) (ok:∀ r∈R,af.fe r) (few:R.length<=90):Wp (Dy [.ref f,aN p,iP R] st) fun d st'=>∃ R',d=iP R'/\(∀ r∈R',af.fe r)/\R'.length<=R.length + 1/\aW st' f/\Ex [f] st st':=by
 refine iy ?_
 show Ws (F4 [some (.ref f),some (aN p),some (iP R),none,none,none,none,none,none,none,none,none] st) _ _ _ _
 unfold F4
 refine aX (cb ?_)
 kspl_open hQ
 refine a7 (nF (n:=9) hf (by decide) (by decide)) ?_
 rintro d s1 ⟨kf,rfl,Ua,UR,f1,k1⟩
 refine hQ _ _ (aX (cb ?_))
 clear hQ
 unfold iP
 kspl_open hQ
 refine hQ _ _ ?_
 clear hQ
 obtain ⟨a,s2,ea,es,P2,la⟩:∃ (a:Nat) (s2:Store),s1.length=a/\s1 ++ [O.lst (R.map cT)]=s2/\oD st s2 f a R/\st.length<=a:=⟨_,_,rfl,rfl,⟨h7,f1.keep (Ex.cB _),k1.app _⟩,k1.len⟩
 rw [ea,es]
 have fa:f≠a:=by have:=hf.lt;omega
 obtain ⟨m,hm,m0,US,Ub⟩:∃ m:Nat,(if (((R.map cT).length:Nat):Int) > 1 then (((R.map cT).length:Nat):Int) else 1)=(m:Int)/\0 < m/\m<=90/\(R.length≠0->m=R.length):=by
  rw [Vd]
  refine ⟨max 1 R.length,?_,by omega,by omega,by omega⟩
  split <;> omega
 refine aX (cb ?_)
 refine cj ?_
 intro dN hQ
 set_option simprocs false in simp only [bC,bu P2.l]
 rw [hm]
 refine a7 (nF (n:=(m:Int)) P2.fd (by omega) (by omega)) ?_
 rintro d s3 ⟨i1,rfl,UT,UU,f3,k3⟩
 have l3:=k3.keep _ _ P2.l (by simp;exact fun z=>fa z.symm)
 refine hQ _ _ (aX (cb ?_))
 clear hQ
 refine cj ?_
 intro dN hQ
 set_option simprocs false in simp only [bC,bu l3]
 rw [hm]
 refine a7 (nF (n:=(m:Int)) f3 (by omega) (by omega)) ?_
 rintro d s4 ⟨i2,rfl,UW,UX,f4,k4⟩
 have l4:=k4.keep _ _ l3 (by simp;exact fun z=>fa z.symm)
 have Uc:Ex [f] st s4:=(P2.k.trans k3).trans k4
 refine hQ _ _ (aX (gJ ?_))
 clear hQ
 kspl_open hQ
 refine ⟨rfl,?_⟩
 rw [Gs (n:=4) (ds:=R.map cT) (es:=[]) (bu (hW l4)) qe DY (fun d hd=>nomatch hd) (by decide)]
 have P4:oD st (s4 ++ [O.lst []]) f a R:=⟨hW l4,f4.keep (Ex.cB _),Uc.app _⟩
 generalize s4 ++ [O.lst []]=s5 at P4 ⊢
 obtain ⟨i1,rfl⟩:∃ k:Nat,i1=(k:Int):=⟨i1.toNat,by omega⟩
 obtain ⟨i2,rfl⟩:∃ k:Nat,i2=(k:Int):=⟨i2.toNat,by omega⟩
 by_cases zR:R.length=0
 ·have e0:R=[]:=List.length_eq_zero_iff.mp zR
  subst e0
  refine ⟨true,by simp,hQ _ _ ⟨fun _=>dQ ?_,fun z=>(nomatch z)⟩⟩
  clear hQ
  kspl_open hQ
  refine ⟨rfl,rfl,rfl,hQ _ _ ⟨[⟨n,p,[],0,0⟩],rfl,fun r hr=>?_,Vh _,P4.fd,P4.k⟩⟩
  rw [Vz.mp hr]
  exact ⟨wp,n0,hn,(fun s hs=>nomatch hs),VW _⟩
 ·have ne:R.map cT≠[]:=fun z=>zR (by rw [<- Vd (f:=cT),z];rfl)
  have mR:=Ub zR
  subst mR
  have h1:i1 < R.length:=by omega
  have h2:i2 < R.length:=by omega
  refine ⟨false,by simp only [ne,decide_false,VC,if_false],hQ _ _ ⟨fun z=>(nomatch z),fun _=>iG (aX (oA ?_))⟩⟩
  clear hQ
  have er:R[i1]?=some R[i1]:=Vg h1
  have Gy:R[i2]?=some R[i2]:=Vg h2
  have hr:R[i1]∈R:=V8 h1
  have hr2:R[i2]∈R:=V8 h2
  generalize UY:R[i1]=r at er hr
  generalize UZ:R[i2]=r2 at Gy hr2
  have gD:=ok r hr
  have qG:=ok r2 hr2
  refine cj ?_
  intro dN hQ
  set_option simprocs false in simp only [bC,bu P4.l,l6 (g:=cT) er]
  refine hQ _ _ ?_
  clear hQ
  rw [show cT r=D.tup [aN r.q,wD r.w,D.int r.s,D.int r.t] from rfl]
  kspl_open hQ
  refine ⟨rfl,hQ _ _ (aX (cb ?_))⟩
  clear hQ
  refine cj ?_
  intro dN hQ
  set_option simprocs false in simp only [bC,bu P4.l]
  refine ⟨rfl,?_⟩
  have P5:oD st (s5 ++ [O.lst [D.int (i2:Int),D.int (0 - 1),D.int ((R.map cT).length:Int),D.int r.s,D.int r.t]]) f a R:=⟨hW P4.l,P4.fd.keep (Ex.cB _),P4.k.app _⟩
  have i5:(s5 ++ [O.lst [D.int (i2:Int),D.int (0 - 1),D.int ((R.map cT).length:Int),D.int r.s,D.int r.t]])[s5.length]?=some (.lst [D.int (i2:Int),D.int (0 - 1),D.int ((R.map cT).length:Int),D.int r.s,D.int r.t]):=h7
  have n5:s5.length≠f:=by have:=P4.fd.lt;omega
  generalize s5 ++ [O.lst [D.int (i2:Int),D.int (0 - 1),D.int ((R.map cT).length:Int),D.int r.s,D.int r.t]]=s6 at P5 i5 ⊢
  generalize s5.length=l5 at i5 n5 ⊢
  refine a7 (nF (n:=5) P5.fd (by decide) (by decide)) ?_
  rintro d s7 ⟨k5,rfl,U0,U1,f7,k7⟩
  have i7:=bu (k7.keep _ _ i5 (by simp;exact n5))
  obtain ⟨nu,Ud⟩:∃ nu:Int,d5 [D.int (i2:Int),D.int (0 - 1),D.int ((R.map cT).length:Int),D.int r.s,D.int r.t] k5=some (.int nu):=by
   rcases (show k5=0\/k5=1\/k5=2\/k5=3\/k5=4 by omega) with h | h | h | h | h <;> rw [h] <;> exact ⟨_,rfl⟩
  set_option simprocs false in simp only [bC,i7]
  refine ⟨_,Ud,hQ _ _ ?_⟩
  clear hQ
  have P7:oD st s7 f a R:=⟨k7.keep _ _ P5.l (by simp;exact fun z=>fa z.symm),f7,P5.k.trans k7⟩
  have di:∀ {s:Store} {R':List af.Ro},oD st s f a R'->(∀ r∈R',af.fe r)->R'.length<=R.length + 1->qF st s f a (R.length + 1):=fun h1 h2 h3=>⟨_,h1,h2,h3⟩
  have new:∀ {m:Nat} {q:af.aR} {w:List fw} {x y:Int},af.Wh m q->0 < m->m<=20->(∀ s∈w,af.gE s)->w.length<=1000->af.fe ⟨m,q,w,x,y⟩:=fun h1 h2 h3 h4 h5=>⟨h1,h2,h3,h4,h5⟩
  have qH:∀ {s:Store} {r':af.Ro} {vs:au} {Q:au->Store->Prop},oD st s f a R->af.fe r'->vs[4]?=some (some (.ref a))->vs[5]?=some (some (.int (i1:Int)))->(∀ s',qF st s' f a (R.length + 1)->Q vs s')->Wp (hSub (ag 4) (ag 5) (cT r') vs s) Q:=fun Ue h2 h3 h4 h5=>y8 Ue la fa ok h1 (W8 _) h2 h3 h4 h5
  refine aX (ur (kf:=kf) (j:=0) (P:=fun s=>oD st s f a R) (P':=fun s=>qF st s f a (R.length + 1)) rfl (.inl ⟨Ua,P7⟩) (fun _ hp=>nc ?_) fun s8 h8=>?_)
  ·kspl_open hQ
   refine ⟨lx (by rw [bu hp.l];rfl),_,jy hp.l,⟨by omega,by omega⟩,i1,y9 (by rw [Vd];exact h1),cT r,by rw [Vm,er];rfl,hQ _ _ ⟨rfl,di (R':=R.eraseIdx i1) ⟨?_,hp.fd.ne (fun z=>fa z.symm),hp.k.loc la⟩ (fun r hr=>ok r (List.mem_of_mem_eraseIdx hr)) (by have:=List.length_eraseIdx_le R i1;omega)⟩⟩
   rw [Vi (dH hp.l),HD]
  refine aX (ur (kf:=kf) (j:=1) (P:=fun s=>oD st s f a R) (P':=fun s=>qF st s f a (R.length + 1)) rfl h8 (fun _ hp=>nc ?_) fun s9 h9=>?_)
  ·refine cj ?_
   intro dN hQ
   set_option simprocs false in simp only [bC,bu hp.l,l6 (g:=cT) er]
   refine ⟨lx (by rw [bu hp.l];rfl),?_⟩
   rw [ME (jy hp.l) (by omega) (by omega) (jz (by rw [Vd];omega))]
   refine hQ _ _ ⟨rfl,di (R':=R.take i2 ++ r :: R.drop i2) ⟨?_,hp.fd.ne (fun z=>fa z.symm),hp.k.loc la⟩ (fun r' hr'=>?_) (by rw [Vj,VJ,V6,WT];omega)⟩
   ·rw [Vi (dH hp.l),Vr,Vx,Vy,List.map_take,List.map_drop]
   ·rcases VG.mp hr' with h | h
    ·exact ok r' (List.mem_of_mem_take h)
    ·rcases VF.mp h with h | h
     ·rw [h];exact gD
     ·exact ok r' (List.mem_of_mem_drop h)
  refine aX (ur (kf:=kf) (j:=2) (P:=fun s=>oD st s f a R) (P':=fun s=>qF st s f a (R.length + 1)) rfl h9 (fun _ hp=>oA ?_) fun Es Ug=>?_)
  ·kspl_open hQ
   refine ⟨rfl,hQ _ _ ?_⟩
   exact qH (r':=⟨r.m,r.q,r.w,nu,r.t⟩) hp (new gD.w gD.m0 gD.oY gD.pr gD.wl) rfl rfl fun s' h'=>⟨rfl,h'⟩
  refine aX (ur (kf:=kf) (j:=3) (P:=fun s=>oD st s f a R) (P':=fun s=>qF st s f a (R.length + 1)) rfl Ug (fun _ hp=>oA ?_) fun U2 h11=>?_)
  ·kspl_open hQ
   refine ⟨rfl,hQ _ _ ?_⟩
   exact qH (r':=⟨r.m,r.q,r.w,r.s,nu⟩) hp (new gD.w gD.m0 gD.oY gD.pr gD.wl) rfl rfl fun s' h'=>⟨rfl,h'⟩
  refine aX (ur (kf:=kf) (j:=4) (P:=fun s=>oD st s f a R) (P':=fun s=>qF st s f a (R.length + 1)) rfl h11 (fun _ hp=>oA ?_) fun s12 h12=>?_)
  ·refine cj ?_
   intro dN hQ
   set_option simprocs false in simp only [bC,bu hp.l,l6 (g:=cT) Gy,Aq]
   refine ⟨rfl,hQ _ _ ?_⟩
   exact qH (r':=⟨r2.m,r2.q,r.w,r.s,r.t⟩) hp (new qG.w qG.m0 qG.oY gD.pr gD.wl) rfl rfl fun s' h'=>⟨rfl,h'⟩
  refine aX (ur (kf:=kf) (j:=5) (P:=fun s=>oD st s f a R) (P':=fun s=>qF st s f a (R.length + 1)) rfl h12 (fun _ hp=>oA ?_) fun U3 Uh=>?_)
  ·refine cj ?_
   intro dN hQ
   set_option simprocs false in simp only [bC,bu hp.l,l6 (g:=cT) Gy,Gv]
   refine ⟨rfl,hQ _ _ ?_⟩
   exact qH (r':=⟨r.m,r.q,r2.w,r.s,r.t⟩) hp (new gD.w gD.m0 gD.oY qG.pr qG.wl) rfl rfl fun s' h'=>⟨rfl,h'⟩
  refine aX (ur (kf:=kf) (j:=6) (P:=fun s=>oD st s f a R) (P':=fun s=>qF st s f a (R.length + 1)) rfl Uh (fun _ hp=>oA ?_) fun U4 Ui=>?_)
  ·kspl_open hQ
   refine a7 (M5 (most:=6) (great:=4) hp.fd (by decide) (by decide) (by decide) (by decide)) ?_
   rintro d t1 ⟨w,rfl,hw,wl,g1,e1⟩
   refine ⟨rfl,hQ _ _ ?_⟩
   exact qH (r':=⟨r.m,r.q,w,r.s,r.t⟩) ⟨e1.keep _ _ hp.l (by simp;exact fun z=>fa z.symm),g1,hp.k.trans e1⟩ (new gD.w gD.m0 gD.oY (fun s hs=>M7 (hw s hs)) (by omega)) rfl rfl fun s' h'=>⟨rfl,h'⟩
  refine aX (ur (kf:=kf) (j:=7) (P:=fun s=>oD st s f a R) (P':=fun s=>qF st s f a (R.length + 1)) rfl Ui (fun _ hp=>oA ?_) fun JK Uj=>?_)
  ·kspl_open hQ
   refine a7 (nF (n:=5) hp.fd (by decide) (by decide)) ?_
   rintro d t1 ⟨n1,rfl,Uk,Um,g1,e1⟩
   w_how
   obtain ⟨n',hn1⟩:∃ n':Nat,(1:Int) + n1=(n':Int):=⟨(1 + n1).toNat,by omega⟩
   rw [hn1]
   refine a7 (Jm (n:=n') g1 (by omega) (by omega)) ?_
   rintro d t2 ⟨xs,ys,rfl,fl,g2,e2⟩
   refine ⟨rfl,hQ _ _ ?_⟩
   exact qH (r':=⟨n',(xs,ys),r.w,r.s,r.t⟩) ⟨(e1.trans e2).keep _ _ hp.l (by simp;exact fun z=>fa z.symm),g2,hp.k.trans (e1.trans e2)⟩ (new (JB fl) (by omega) (by omega) gD.pr gD.wl) rfl rfl fun s' h'=>⟨rfl,h'⟩
  refine aX (ur (kf:=kf) (j:=8) (P:=fun s=>oD st s f a R) (P':=fun s=>qF st s f a (R.length + 1)) rfl Uj (fun _ hp=>oA ?_) fun Uo Up=>?_)
  ·refine cj ?_
   intro dN hQ
   set_option simprocs false in simp only [bC,bu hp.l,l6 (g:=cT) er,l6 (g:=cT) Gy]
   refine ⟨rfl,hQ _ _ ?_⟩
   clear hQ
   refine cj ?_
   intro dN hQ
   set_option simprocs false in simp only [bC,IG,jy hp.l]
   refine ⟨rfl,_,JJ (by rw [Vd];exact h1),?_⟩
   have l1:(JK.set a (.lst ((R.map cT).set i1 (cT r2))))[a]?=some (.lst ((R.set i1 r2).map cT)):=by rw [Vi (dH hp.l),WR]
   have P1:oD st (JK.set a (.lst ((R.map cT).set i1 (cT r2)))) f a (R.set i1 r2):=⟨l1,hp.fd.ne (fun z=>fa z.symm),hp.k.loc la⟩
   generalize JK.set a (.lst ((R.map cT).set i1 (cT r2)))=t1 at P1 ⊢
   have JL:∀ r∈R.set i1 r2,af.fe r:=fun r' hr'=>by
    rcases W2 hr' with h | h
    ·exact ok r' h
    ·rw [h];exact qG
   refine ⟨_,jy P1.l,_,JJ (by rw [Vd,VU];exact h2),hQ _ _ ⟨rfl,di (R':=(R.set i1 r2).set i2 r) ⟨?_,P1.fd.ne (fun z=>fa z.symm),P1.k.loc la⟩ (fun r' hr'=>?_) (by rw [VU,VU];omega)⟩⟩
   ·rw [Vi (dH P1.l)]
    simp only [WR]
   ·rcases W2 hr' with h | h
    ·exact JL r' h
    ·rw [h];exact gD
  have Uq:qF st Uo f a (R.length + 1):=by
   rcases Up with ⟨z,_⟩ | ⟨_,h⟩
   ·omega
   ·exact h
  obtain ⟨R',P,ok',len'⟩:=Uq
  refine dQ ?_
  kspl_open hQ
  exact ⟨_,bu P.l,hQ _ _ ⟨R',rfl,ok',len',P.fd,P.k⟩⟩
theorem za {xs:List Int} {n:Nat} (tx:af.Tn n xs) {v:Int} (v0:0<=v) (v1:v < (n:Int)):v∈xs:=tx.mem_iff.mpr (af.lQ.mpr ⟨v0,v1⟩)
theorem Ur {st:Store} {f n N:Nat} {p:af.aR} {C:af.CS} (hf:aW st f) (F:af.Full n p C N) (n0:0 < n) (hn:n<=20) (hN:N<=60) (N0:0 < N):Wp (DC [.ref f,iP (af.ff n C N)] st) fun d st'=>∃ R',d=iP R'/\(∀ r∈R',af.fe r)/\R'.length<=N/\aW st' f/\Ex [f] st st':=by
 have ok:=af.MJ F n0 hn hN
 have hlen:(af.ff n C N).length=N:=by unfold af.ff;rw [Vd,W7]
 refine iy ?_
 show Ws (F6 [some (.ref f),some (iP (af.ff n C N)),none,none,none,none,none,none,none,none,none,none,none] st) _ _ _ _
 unfold F6
 refine aX (cb ?_)
 kspl_open hQ
 refine a7 (nF (n:=4) hf (by decide) (by decide)) ?_
 rintro d s1 ⟨k,rfl,k0,k4,f1,k1⟩
 refine hQ _ _ (aX (cb ?_))
 clear hQ
 unfold iP
 kspl_open hQ
 rw [Vd,hlen]
 refine a7 (Ge (n:=N) f1 (by omega)) ?_
 rintro d s2 ⟨xs,rfl,tx,f2,k2⟩
 w_how
 refine hQ _ _ ?_
 clear hQ
 obtain ⟨a,s3,ea,es,l3,f3,k3,la⟩:∃ (a:Nat) (s3:Store),s2.length=a/\s2 ++ [O.lst (xs.map D.int)]=s3/\s3[a]?=some (.lst (xs.map D.int))/\aW s3 f/\Ex [f] st s3/\st.length<=a:=⟨_,_,rfl,rfl,h7,f2.keep (Ex.cB _),(k1.trans k2).app _,(k1.trans k2).len⟩
 rw [ea,es]
 have fa:f≠a:=by have:=hf.lt;omega
 refine aX (sO (N:=fun δ s=>δ=[some (.ref f),some (.tup ((af.ff n C N).map cT)),some (.int k),some (.ref a),none,none,none,none,none,none,none,none,none]/\∃ zs,af.Tn N zs/\s[a]?=some (.lst (zs.map D.int))/\aW s f/\Ex [f] st s) (gJ ?_) ?_)
 ·kspl_open hQ
  refine hQ _ _ ⟨fun _=>aX (nc ?_),fun _=>iG ⟨rfl,xs,tx,l3,f3,k3⟩⟩
  clear hQ
  have m0:(0:Int)∈xs:=za tx (by decide) (by omega)
  kspl_open hQ
  refine ⟨lx (by rw [bu l3];rfl),?_⟩
  rw [RO (jy l3) m0]
  have l4:(s3.set a (.lst ((xs.erase 0).map D.int)))[a]?=some (.lst ((xs.erase 0).map D.int)):=Vi (dH l3)
  have f4:aW (s3.set a (.lst ((xs.erase 0).map D.int))) f:=f3.ne (fun z=>fa z.symm)
  have DZ:Ex [f] st (s3.set a (.lst ((xs.erase 0).map D.int))):=k3.loc la
  generalize s3.set a (.lst ((xs.erase 0).map D.int))=s4 at l4 f4 DZ ⊢
  refine hQ _ _ (nc ?_)
  clear hQ
  kspl_open hQ
  refine ⟨lx (by rw [bu l4];rfl),?_⟩
  have le:(xs.erase 0).length<=100:=by have:=List.length_erase_le (a:=(0:Int)) (l:=xs);have:=tx.length;omega
  rw [ME (jy l4) (by decide) (by decide) (jz (by rw [Vd];omega))]
  refine hQ _ _ ⟨rfl,0 :: xs.erase 0,?_,?_,f4.ne (fun z=>fa z.symm),DZ.loc la⟩
  ·exact (WU m0).symm.trans tx
  ·rw [Vi (dH l4)]
   rfl
 ·rintro δ s ⟨rfl,zs,tz,l4,f4,DZ⟩
  refine aX (cb ?_)
  kspl_open hQ
  refine ⟨rfl,hQ _ _ ?_⟩
  clear hQ
  obtain ⟨b,s5,eb,es,lb,l5,f5,k5,ab,Us⟩:∃ (b:Nat) (s5:Store),s.length=b/\s ++ [O.lst []]=s5/\s5[b]?=some (.lst (([]:List af.Ro).map cT))/\s5[a]?=some (.lst (zs.map D.int))/\aW s5 f/\Ex [f] st s5/\a < b/\st.length<=b:=⟨_,_,rfl,rfl,h7,hW l4,f4.keep (Ex.cB _),DZ.app _,dH l4,DZ.len⟩
  rw [eb,es]
  have fb:f≠b:=by have:=hf.lt;omega
  have lz:=tz.length
  refine aX (Iv (zs.map D.int) a (fun i δ s=>∃ (v5 v6 v7 v8 v9 v10 v11 Gz:Option D) (R':List af.Ro),δ=[some (.ref f),some (.tup ((af.ff n C N).map cT)),some (.int k),some (.ref a),some (.ref b),v5,v6,v7,v8,v9,v10,v11,Gz]/\s[b]?=some (.lst (R'.map cT))/\s[a]?=some (.lst (zs.map D.int))/\R'.length=i/\(∀ r∈R',af.fe r)/\aW s f/\Ex [f] st s) ?_ (by rw [Vd];omega) ?_ ?_ ?_)
  ·refine cj ?_
   intro dN hQ
   set_option simprocs false in simp only [bC,bu l5]
   exact hQ _ _ ⟨rfl,_,_,_,_,_,_,_,_,[],rfl,lb,l5,rfl,(fun r hr=>nomatch hr),f5,k5⟩
  ·rintro i δ s ⟨v5,v6,v7,v8,v9,v10,v11,Gz,R',rfl,hb,ha,_⟩
   exact bu ha
  ·rintro i d δ s hd ⟨v5,v6,v7,v8,v9,v10,v11,Gz,R',rfl,hb,ha,hR,m8,fs,ks⟩
   have hi:i < zs.length:=by have:=dH hd;rw [Vd] at this;exact this
   rw [Vm,Vg hi] at hd
   have hz:=tz.bound (V8 hi)
   generalize zs[i]=z at hd hz
   cases hd
   obtain ⟨j,rfl⟩:∃ j:Nat,z=(j:Int):=⟨z.toNat,by omega⟩
   have hj:j < (af.ff n C N).length:=by omega
   have er:(af.ff n C N)[j]?=some (af.ff n C N)[j]:=Vg hj
   have hr:(af.ff n C N)[j]∈af.ff n C N:=V8 hj
   have gD:=ok _ hr
   have eg:=(af.MI er).2
   have lk:=af.yE F (i:=j) (by omega)
   generalize (af.ff n C N)[j]=r at er gD eg
   have em:r.m=n:=by rw [eg]
   have es':r.s=((af.zS C j).1:Int):=by rw [eg];rfl
   have et':r.t=((af.zS C j).2:Int):=by rw [eg];rfl
   kspl_open hQ
   refine hQ _ _ (aX (oA ?_))
   clear hQ
   refine cj ?_
   intro dN hQ
   set_option simprocs false in simp only [bC,l6 (g:=cT) er]
   refine hQ _ _ ?_
   clear hQ
   rw [show cT r=D.tup [aN r.q,wD r.w,D.int r.s,D.int r.t] from rfl]
   kspl_open hQ
   refine ⟨rfl,hQ _ _ (aX (cb ?_))⟩
   clear hQ
   have lq:=gD.w.v.1.length
   unfold aN cq
   kspl_open hQ
   rw [Vd,lq]
   refine a7 (Ge (n:=r.m) fs (by have:=gD.oY;omega)) ?_
   rintro d t1 ⟨g,rfl,tg,Ut,e1⟩
   refine hQ _ _ (aX (cb ?_))
   clear hQ
   kspl_open hQ
   refine a7 (nF (n:=5) Ut (by decide) (by decide)) ?_
   rintro d t2 ⟨kk,rfl,U5,U6,Ht,e2⟩
   w_how
   refine hQ _ _ (aX (cb ?_))
   clear hQ
   unfold wD
   kspl_open hQ
   refine a7 (nF (n:=3) Ht (by decide) (by decide)) ?_
   rintro d t3 ⟨wy,rfl,U7,U8,Uu,e3⟩
   w_how
   obtain ⟨y,hy,y3⟩:∃ y:Nat,(wy * if decide (((r.w.map bF).length:Int) < 11)=true then 1 else 0)=(y:Int)/\y < 3:=by
    split
    ·exact ⟨wy.toNat,by omega,by omega⟩
    ·exact ⟨0,by omega,by omega⟩
   rw [hy]
   refine ⟨.inl ⟨by omega,by omega⟩,hQ _ _ (aX (cb ?_))⟩
   clear hQ
   have wl:=gD.wl
   have U9:r.w.length<=N:=by
    rw [eg]
    exact (af.yF F (by omega)).2
   kspl_open hQ
   refine ⟨rfl,rfl,rfl,jz (by rw [Vd];show 2 + _<=_;omega),rfl,rfl,rfl,jz (by rw [Vd];show _ + 2<=_;omega),rfl,?_⟩
   obtain ⟨w',Nl,Uv,Uw⟩:∃ w':List fw,d5 [D.tup (r.w.map bF),D.tup ([D.tup [D.str (Str.ofString "s"),D.int (1 + kk)],D.tup [D.str (Str.ofString "s"),D.int (0 - (1 + kk))]] ++ r.w.map bF),D.tup (r.w.map bF ++ [D.tup [D.str (Str.ofString "t"),D.int 1],D.tup [D.str (Str.ofString "t"),D.int 3]])] (y:Int)=some (wD w')/\(∀ s∈w',af.gE s)/\w'.length<=1000:=by
    rcases (show y=0\/y=1\/y=2 by omega) with rfl | rfl | rfl
    ·exact ⟨r.w,rfl,gD.pr,gD.wl⟩
    ·refine ⟨[(true,1 + kk),(true,0 - (1 + kk))] ++ r.w,?_,fun s hs=>?_,by show r.w.length + 2<=1000;omega⟩
     ·unfold wD;rw [Vx];rfl
     ·rcases VG.mp hs with h | h
      ·simp only [VF,Xb,or_false] at h
       rcases h with rfl | rfl
       ·exact ⟨fun z=>(nomatch z),by show (1 + kk:Int)≠0;omega⟩
       ·exact ⟨fun z=>(nomatch z),by show (0 - (1 + kk):Int)≠0;omega⟩
      ·exact gD.pr s h
    ·refine ⟨r.w ++ [(false,1),(false,3)],?_,fun s hs=>?_,by rw [Vj];show r.w.length + 2<=1000;omega⟩
     ·unfold wD;rw [Vx];rfl
     ·rcases VG.mp hs with h | h
      ·exact gD.pr s h
      ·simp only [VF,Xb,or_false] at h
       rcases h with rfl | rfl
       ·exact ⟨fun _=>by decide,by decide⟩
       ·exact ⟨fun _=>by decide,by decide⟩
   refine ⟨_,Nl,hQ _ _ (nc ?_)⟩
   clear hQ Nl
   have mH:=hW (m:=[O.lst [D.tup (r.w.map bF),D.tup ([D.tup [D.str (Str.ofString "s"),D.int (1 + kk)],D.tup [D.str (Str.ofString "s"),D.int (0 - (1 + kk))]] ++ r.w.map bF),D.tup (r.w.map bF ++ [D.tup [D.str (Str.ofString "t"),D.int 1],D.tup [D.str (Str.ofString "t"),D.int 3]])]]) (((e1.trans e2).trans e3).keep _ _ hb (by simp;omega))
   have oC:=hW (m:=[O.lst [D.tup (r.w.map bF),D.tup ([D.tup [D.str (Str.ofString "s"),D.int (1 + kk)],D.tup [D.str (Str.ofString "s"),D.int (0 - (1 + kk))]] ++ r.w.map bF),D.tup (r.w.map bF ++ [D.tup [D.str (Str.ofString "t"),D.int 1],D.tup [D.str (Str.ofString "t"),D.int 3]])]]) (((e1.trans e2).trans e3).keep _ _ ha (by simp;omega))
   have Nm:=Uu.keep (Ex.cB [O.lst [D.tup (r.w.map bF),D.tup ([D.tup [D.str (Str.ofString "s"),D.int (1 + kk)],D.tup [D.str (Str.ofString "s"),D.int (0 - (1 + kk))]] ++ r.w.map bF),D.tup (r.w.map bF ++ [D.tup [D.str (Str.ofString "t"),D.int 1],D.tup [D.str (Str.ofString "t"),D.int 3]])]])
   have e4:Ex [f] st (t3 ++ [O.lst [D.tup (r.w.map bF),D.tup ([D.tup [D.str (Str.ofString "s"),D.int (1 + kk)],D.tup [D.str (Str.ofString "s"),D.int (0 - (1 + kk))]] ++ r.w.map bF),D.tup (r.w.map bF ++ [D.tup [D.str (Str.ofString "t"),D.int 1],D.tup [D.str (Str.ofString "t"),D.int 3]])]]):=(ks.trans ((e1.trans e2).trans e3)).app _
   generalize t3 ++ [O.lst [D.tup (r.w.map bF),D.tup ([D.tup [D.str (Str.ofString "s"),D.int (1 + kk)],D.tup [D.str (Str.ofString "s"),D.int (0 - (1 + kk))]] ++ r.w.map bF),D.tup (r.w.map bF ++ [D.tup [D.str (Str.ofString "t"),D.int 1],D.tup [D.str (Str.ofString "t"),D.int 3]])]]=t4 at mH oC Nm e4 ⊢
   kspl_open hQ
   refine ⟨lx (by rw [bu mH];rfl),?_⟩
   refine a7 (To (xs:=r.q.1) (ys:=r.q.2) (p:=g) gD.w.v.1 gD.w.v.2 tg (by have:=gD.oY;omega)) ?_
   rintro d t5 ⟨rfl,e5⟩
   have vG:=e5.keep _ _ mH (by simp)
   have uq:=e5.keep _ _ oC (by simp)
   have zb:∀ i∈zs,-1000000000000000000<=i/\i<=1000000000000000000:=fun i hi=>by have:=tz.bound hi;omega
   have ms:r.s∈zs:=za tz (by rw [es'];omega) (by rw [es'];omega)
   have mt:r.t∈zs:=za tz (by rw [et'];omega) (by rw [et'];omega)
   refine ⟨lx (by rw [bu uq];rfl),?_⟩
   rw [IB (bu uq) ms (by omega) zb]
   refine ⟨lx (by rw [bu uq];rfl),?_⟩
   rw [IB (bu uq) mt (by omega) zb]
   have al:af.bT r.m r.q (af.anew r.q.1 g,af.anew r.q.2 g):=⟨g,tg,rfl⟩
   refine ⟨rfl,_,jy vG,jz (by rw [Vd];omega),hQ _ _ ⟨_,_,_,_,_,_,_,_,R' ++ [⟨r.m,(af.anew r.q.1 g,af.anew r.q.2 g),w',(zs.idxOf r.s:Int),(zs.idxOf r.t:Int)⟩],rfl,?_,?_,by rw [Vj,hR];rfl,fun r' hr'=>?_,(Nm.keep e5).ne (fun z=>fb z.symm),(e4.trans e5.any).loc Us⟩⟩
   ·rw [Vi (dH vG),Vx];rfl
   ·rw [Vq (by omega)];exact uq
   ·rcases VG.mp hr' with h | h
    ·exact m8 r' h
    ·rw [Vz.mp h]
     exact ⟨yZ gD.w gD.m0 al,gD.m0,gD.oY,Uv,Uw⟩
  ·rintro δ s ⟨v5,v6,v7,v8,v9,v10,v11,Gz,R',rfl,hb,ha,hR,m8,fs,ks⟩
   rw [Vd] at hR
   refine dQ ?_
   kspl_open hQ
   exact ⟨_,bu hb,hQ _ _ ⟨R',rfl,m8,by omega,fs,ks⟩⟩
theorem Ux {st:Store} {f n N:Nat} {p:af.aR} {C:af.CS} {R:List af.Ro} (hf:aW st f) (F:af.Full n p C N) (wp:af.Wh n p) (n0:0 < n) (hn:n<=20) (ok:∀ r∈R,af.fe r) (few:R.length<=100) (H:af.Holds n p R):Wp (Am [.ref f,aN p,.int (N:Int),iP R] st) fun d st'=>d=.bl true/\Ex [f] st st':=by
 have sh:=H.r9 n0 wp ok
 have hl:=H.len n0 wp ok F
 have pf:∀ q:af.aR,pU 2 (aN q):=fun q=>zP 0 _ _
 refine iy ?_
 show Ws (F9 [some (.ref f),some (aN p),some (.int (N:Int)),some (iP R),none,none,none] st) _ _ _ _
 unfold F9
 refine aX (cb ?_)
 refine sr (i:=3) ok few rfl fun s1 b hb lb kb=>?_
 show Ws _ _ _ _ _
 have fb:b≠f:=by have:=hf.lt;omega
 refine aX (gJ ?_)
 unfold iP
 kspl_open hQ
 rw [Vd,hl]
 refine hQ _ _ ⟨fun z=>absurd z (by simp),fun _=>iG ?_⟩
 clear hQ
 refine aX (lZ (aJ 0 5) (fun i δ s=>∃ (v5 v6:Option D),δ=[some (.ref f),some (aN p),some (.int (N:Int)),some (.tup (R.map cT)),some (.ref b),v5,v6]/\s[b]?=some (.lst ((R.map af.Ro.f).map aN))/\aW s f/\Ex [f] st s) ?_ (by decide) ?_ ?_)
 ·kspl_open hQ
  exact ⟨by decide,hQ _ _ ⟨rfl,_,_,rfl,hb,hf.keep kb,kb.any⟩⟩
 ·rintro i d δ s hd ⟨v5,v6,rfl,hb,fs,ks⟩
  kspl_open hQ
  refine hQ _ _ (aX (cb ?_))
  clear hQ
  kspl_open hQ
  refine a7 (M5 (most:=6) (great:=4) fs (by decide) (by decide) (by decide) (by decide)) ?_
  rintro d s2 ⟨w,rfl,hw,wl,f2,k2⟩
  have pw:∀ s∈w,af.gE s:=fun s hs=>M7 (hw s hs)
  refine a7 (Jy (p:=p) (w:=w) ⟨wp.v.1,wp.v.2⟩ (by omega) (Gq pw) (by omega)) ?_
  rintro d s3 ⟨rfl,k3⟩
  rw [Gr]
  refine a7 (Ar (wp.ld n0 (w:=w)) n0 hn) ?_
  rintro d s4 ⟨rfl,k4⟩
  have Nn:Ex [f] s s4:=k2.trans (k3.trans k4).any
  have pd:=Nn.keep _ _ hb (by simp;exact fb)
  have f4:=f2.keep (k3.trans k4)
  refine hQ _ _ (gJ ?_)
  clear hQ
  kspl_open hQ
  obtain ⟨g,hg⟩:∃ g:D->Bool,∀ q:af.aR,g (aN q)=decide (q=af.bE n (af.kF p w)):=by
   classical
   exact ⟨fun d=>decide (d=aN (af.bE n (af.kF p w))),fun q=>decide_eq_decide.mpr ⟨fun e=>vE e,fun e=>by rw [e]⟩⟩
  refine RJ ((R.map af.Ro.f).map aN) g id ?_ (by rw [Vd,Vd];omega) ?_ ?_ ?_
  ·refine cj ?_
   intro fS b7
   set_option simprocs false in simp only [bC,bu pd]
   exact b7 _ _ ⟨Mf (bu pd),Ex.refl⟩
  ·intro d hd s5 k5
   obtain ⟨q,_,rfl⟩:=Vn.mp hd
   simp only [Vy,VT,VP,VQ]
   kspl_open b7
   rw [y6,if_neg Vo]
   exact ⟨_,rfl,b7 _ _ ⟨(hg q).symm,Ex.refl⟩⟩
  ·intro d hd hgd s5 k5
   kspl_open b7
   exact b7 _ _ ⟨rfl,Ex.refl⟩
  ·intro s5 k5
   have e:((((R.map af.Ro.f).map aN).filter g).map id).length=1:=by
    rw [Wd,List.filter_map,Vd]
    have e2:(R.map af.Ro.f).filter (g ∘ aN)=(R.map af.Ro.f).filter fun q=>decide (id q=af.bE n (af.kF p w)):=List.filter_congr fun q _=>hg q
    rw [e2]
    exact af.ML (f:=id) (by rw [Wd];exact sh.nd) (by rw [Wd];exact H.word n0 wp ok w)
   set_option simprocs false in simp only [bC,qe]
   rw [e]
   exact hQ _ _ ⟨fun z=>absurd z (by simp),fun _=>iG ⟨_,_,rfl,hW (k5.keep _ _ pd (by simp)),(f4.keep k5).keep (Ex.cB _),(ks.trans (Nn.trans k5.any)).app _⟩⟩
 ·rintro δ s ⟨v5,v6,rfl,hb,fs,ks⟩
  refine dQ ?_
  kspl_open hQ
  obtain ⟨h,hh⟩:=Ni ok
  refine pE (R.map cT) h ?_ (by rw [Vd];omega) ?_ ?_
  ·kspl_open b7
   exact b7 _ _ ⟨qg _ _,Ex.refl⟩
  ·intro d hd s1 k1
   obtain ⟨r,hr,rfl⟩:=Vn.mp hd
   obtain ⟨k,hk⟩:=VX hr
   simp only [Vy,VT,VP,VQ]
   refine cj ?_
   intro fS b7
   set_option simprocs false in simp only [bC,Gv]
   unfold wD
   refine a7 (Jy (p:=p) (w:=r.w) ⟨wp.v.1,wp.v.2⟩ (by omega) (Gq (ok r hr).pr) (ok r hr).wl) ?_
   rintro d s3 ⟨rfl,k3⟩
   rw [Gr]
   refine a7 (Ar (wp.ld n0 (w:=r.w)) n0 hn) ?_
   rintro d s4 ⟨rfl,k4⟩
   exact b7 _ _ ⟨by rw [hh r hr,(H.2 k r hk).2.1],k3.trans k4⟩
  ·intro s1 k1
   have eh:(R.map cT).map h=(R.map af.Ro.f).map aN:=by
    rw [VB,VB]
    exact VS fun r hr=>hh r hr
   rw [eh]
   have pl:∀ d∈(R.map af.Ro.f).map aN,pU 2 d:=fun d hd=>by obtain ⟨q,_,rfl⟩:=Vn.mp hd;exact pf q
   rw [Gs (n:=2) (bu (hW (k1.keep _ _ hb (by simp)))) qe pl pl (by decide)]
   exact hQ _ _ ⟨by simp,(ks.trans k1.any).app _⟩
theorem JM:(af.Ul 1).length<=12/\(af.Ul 2).length<=12/\(af.Ul 3).length<=12:=by w_fin
theorem zc {n:Nat} (n0:0 < n) (n3:n<=3) {fs:List af.aR} (nd:fs.Nodup) (own:∀ q∈fs,af.Wh n q/\af.bE n q=q):fs.length<=12:=by
 have h:=af.Fb (l:=af.Ul n) nd fun q hq=>af.yD n0 n3 (own q hq).1 (own q hq).2
 rcases (show n=1\/n=2\/n=3 by omega) with rfl | rfl | rfl
 ·exact VL h JM.1
 ·exact VL h JM.2.1
 ·exact VL h JM.2.2
theorem Uy {s:Store} {f n N:Nat} {p:af.aR} {C:af.CS} {R:List af.Ro} {v0 v4 v5 v7 v8:Option D} {Nx B Co:au->Store->Prop} {Rt:D->Store->Prop} (hf:aW s f) (F:af.Full n p C N) (wp:af.Wh n p) (n0:0 < n) (hn:n<=20) (ok:∀ r∈R,af.fe r) (few:R.length<=100)
  (hN:∀ (s':Store) (v8:Option D),Ex [f] s s'->Nx [v0,some (.ref f),some (aN p),some (oB C N),v4,v5,some (iP R),v7,v8] s') :
  Ws ((az (aK (aM Ah (ae (ag 2) (ae (ag 6) ah))) (hName 8))
 (az (dJ (qy (oP (aA (aM pF (ae (ag 8) (ae (fC (.ty "bool")) ah))))) (aA (aD (iO true) (ag 8) (aM Ak (ae (ag 2) (ae (ag 6) ah)))))) (bj (fC (.bl false))) aQ)
 (dJ (oQ (aA (ag 8)) (oP (aA (aM Am (ae (ag 1) (ae (ag 2) (ae (aM cc (ae (ag 3) ah)) (ae (ag 6) ah)))))))) (bj (fC (.bl false))) aQ))) [v0,some (.ref f),some (aN p),some (oB C N),v4,v5,some (iP R),v7,v8] s) Nx B Co Rt:=by
 refine aX (cb ?_)
 kspl_open hQ
 refine a7 (T5 wp n0 hn ok few) ?_
 rintro d s1 ⟨⟨c,rfl,hc⟩,k1⟩
 refine hQ _ _ (aX (gJ ?_))
 clear hQ
 kspl_open hQ
 rw [yt (T:="bool") (cs:=["bool"]) (b:=true) rfl rfl rfl]
 refine ⟨_,rfl,?_⟩
 simp only [Bool.not_true,VC,if_false]
 refine a7 (T7 wp n0 hn ok few) ?_
 rintro d s2 ⟨⟨c',rfl,hc'⟩,k2⟩
 have ec:c'=c:=by
  cases c with
  | true=>exact hc'.mpr (hc.mp rfl)
  | false =>
   cases c' with
   | false=>rfl
   | true=>have:=hc.mpr (hc'.mp rfl);cases this
 subst ec
 have f2:=(hf.keep k1).keep k2
 rw [yq]
 refine ⟨_,rfl,hQ _ _ ⟨fun z=>absurd z (by simp),fun _=>iG (gJ ?_)⟩⟩
 clear hQ
 kspl_open hQ
 cases c' with
 | false =>
  simp only [VC,if_false]
  exact hQ _ _ ⟨fun z=>(nomatch z),fun _=>iG (hN _ _ (k1.trans k2).any)⟩
 | true =>
  simp only [if_true]
  have el:(D.tup ((List.range N).map fun k=>Ao (C.1.getD k ([],[])) (C.2.1.getD k []) (C.2.2.getD k (0,0))))=oB C N:=rfl
  unfold oB
  w_how
  rw [Vd,W7]
  refine a7 (Ux f2 F wp n0 hn ok few (hc.mp rfl)) ?_
  rintro d s3 ⟨rfl,k3⟩
  exact ⟨_,rfl,hQ _ _ ⟨fun z=>absurd z (by simp),fun _=>iG (hN _ _ ((k1.trans k2).any.trans k3))⟩⟩
theorem su (ns:List Int) (hns:ns.length<=63):Wp (Jj [.ref 0] [.oO (ns.map D.int)]) fun d _=>d=.bl true:=by
 refine iy ?_
 show Ws (Gb [some (.ref 0),none,none,none,none,none,none,none,none] [.oO (ns.map D.int)]) _ _ _ _
 unfold Gb
 have GA:([O.oO (ns.map D.int)]:Store)[0]?=some (.oO (ns.map D.int)):=rfl
 generalize ([O.oO (ns.map D.int)]:Store)=lj at GA
 refine aX (cb ?_)
 kspl_open hQ
 rw [show (D.int 1)=.int ((1:Nat):Int) from rfl]
 refine a7 (MO (a:=0) (ns:=ns) (k:=1) (Iy GA) (by decide)) ?_
 rintro d t1 ⟨rfl,f1,k1⟩
 have Uz:0 < lj.length:=dH GA
 have h01:=k1.keep _ _ GA (by simp)
 generalize lj.length=f at f1 Uz
 refine hQ _ _ (aX (cb ?_))
 clear hQ
 kspl_open hQ
 refine a7 (nF (n:=5) f1 (by decide) (by decide)) ?_
 rintro d t2 ⟨n1,rfl,Uk,Um,f2,k2⟩
 w_how
 obtain ⟨n,hn1⟩:∃ n:Nat,(1:Int) + n1=(n:Int):=⟨(1 + n1).toNat,by omega⟩
 rw [hn1]
 refine a7 (Jm (n:=n) f2 (by omega) (by omega)) ?_
 rintro d t3 ⟨xs,ys,rfl,fl,f3,k3⟩
 have JN:=(k2.trans k3).keep _ _ h01 (by simp;omega)
 have wA:=JB fl
 refine hQ _ _ (aX (cb ?_))
 clear hQ
 kspl_open hQ
 rw [show (D.int 12)=.int ((12:Nat):Int) from rfl]
 refine a7 (Nb (p:=(xs,ys)) (most:=12) wA (show 0 < n by omega) (by omega) (by decide) (by decide)) ?_
 rintro d t4 ⟨k4,hc⟩
 have D0:=k4.keep _ _ JN (by simp)
 have f4:=f3.keep k4
 refine hQ _ _ ?_
 clear hQ
 refine aX (sO (N:=fun δ s=>∃ (n N:Nat) (p:af.aR),δ=[some (.ref 0),some (.ref f),some (aN p),some (oB (af.ch n p N) N),none,none,none,none,none]/\af.Wh n p/\0 < n/\n<=5/\N<=12/\af.Full n p (af.ch n p N) N/\(∀ j,j < N->j < (af.ch n p j).1.length)/\s[0]?=some (.oO (ns.map D.int))) (gJ ?_) ?_)
 ·kspl_open hQ
  rcases hc with ⟨N,GB,hF,pr,rfl⟩ | ⟨rfl,i,pr,hi⟩
  ·obtain ⟨ds,Np⟩:∃ ds,oB (af.ch n (xs,ys) N) N=.tup ds:=⟨_,rfl⟩
   rw [Np,Rz]
   exact ⟨_,rfl,hQ _ _ ⟨fun z=>(nomatch z),fun _=>iG ⟨n,N,(xs,ys),by rw [Np];rfl,wA,by omega,by omega,GB,hF,pr,D0⟩⟩⟩
  ·rw [Ry]
   refine ⟨_,rfl,hQ _ _ ⟨fun _=>aX (cb ?_),fun z=>(nomatch z)⟩⟩
   clear hQ
   kspl_open hQ
   refine a7 (nF (n:=3) f4 (by decide) (by decide)) ?_
   rintro d t5 ⟨n2,rfl,MS,Va,f5,k5⟩
   w_how
   obtain ⟨n',hn2⟩:∃ n':Nat,(1:Int) + n2=(n':Int):=⟨(1 + n2).toNat,by omega⟩
   rw [hn2]
   refine a7 (Jm (n:=n') f5 (by omega) (by omega)) ?_
   rintro d t6 ⟨xs',ys',rfl,JA,f6,k6⟩
   have JO:=(k5.trans k6).keep _ _ D0 (by simp;omega)
   have wB:=JB JA
   refine hQ _ _ (cb ?_)
   clear hQ
   kspl_open hQ
   rw [show (D.int 12)=.int ((12:Nat):Int) from rfl]
   refine a7 (Nb (p:=(xs',ys')) (most:=12) wB (show 0 < n' by omega) (by omega) (by decide) (by decide)) ?_
   rintro d t7 ⟨k7,hc'⟩
   have UA:=k7.keep _ _ JO (by simp)
   rcases hc' with ⟨N,GB,hF,Ap,rfl⟩ | ⟨rfl,j,Ap,hj⟩
   ·exact hQ _ _ ⟨n',N,(xs',ys'),rfl,wB,by omega,by omega,GB,hF,Ap,UA⟩
   ·have g:=af.zQ (by omega) wB j Ap
    have:=zc (n:=n') (by omega) (by omega) g.r.nd g.r.own
    omega
 ·rintro δ s ⟨n,N,p,rfl,w0,n0,n5,GB,F,pr,h0⟩
  refine aX (cb ?_)
  kspl_open hQ
  rw [show (D.int 60)=.int ((60:Nat):Int) from rfl]
  show Wp (Ag [aN p,.int ((60:Nat):Int)] s) _
  refine a7 (TX (most:=60) w0 n0 (by omega) F pr (by omega) (by decide)) ?_
  rintro d s1 ⟨rfl,e1⟩
  have h01:=e1.keep _ _ h0 (by simp)
  refine hQ _ _ ?_
  clear hQ
  generalize af.ch n p N=C at F ⊢
  have N0:0 < N:=by rw [<- F.fl];exact (Ve.mp F.r.hd).1
  obtain ⟨m,hm,UB⟩:∃ m:Nat,(if (if (ns.length:Int) < 12 then (ns.length:Int) else 12) > 6 then (if (ns.length:Int) < 12 then (ns.length:Int) else 12) else 6)=(m:Int) + 2/\m<=10:=by
   refine ⟨((if (if (ns.length:Int) < 12 then (ns.length:Int) else 12) > 6 then (if (ns.length:Int) < 12 then (ns.length:Int) else 12) else 6) - 2).toNat,?_,?_⟩ <;> split <;> split <;> omega
  refine aX (lZ (aJ 2 m) (fun i δ s=>∃ (v1 v5 v6 v7 v8:Option D),δ=[some (.ref 0),v1,some (aN p),some (oB C N),some (oB C N),v5,v6,v7,v8]/\s[0]?=some (.oO (ns.map D.int))) ?_ (by rw [gH];omega) ?_ ?_)
  ·refine cj ?_
   intro dN hQ
   set_option simprocs false in simp only [bC,Iy h01]
   rw [Vd,hm]
   exact ⟨2,(m:Int) + 2,⟨rfl,rfl⟩,⟨⟨by decide,by decide⟩,by omega,by omega⟩,hQ _ _ ⟨by rw [show ((m:Int) + 2 - 2).toNat=m by omega],_,_,_,_,_,rfl,h01⟩⟩
  ·rintro i d δ s hd ⟨v1,v5,v6,v7,v8,rfl,h0⟩
   have hil:=dH hd
   rw [gH] at hil
   rw [xC hil] at hd
   cases hd
   kspl_open hQ
   refine hQ _ _ (aX (cb ?_))
   clear hQ
   kspl_open hQ
   rw [show (2:Int) + (i:Int)=((2 + i:Nat):Int) by omega]
   refine a7 (MO (a:=0) (ns:=ns) (k:=2 + i) (Iy h0) (by omega)) ?_
   rintro d s2 ⟨rfl,f2,e2⟩
   have h02:=e2.keep _ _ h0 (by simp)
   have Hx:s.length≠0:=by have:=dH h0;omega
   generalize s.length=f at f2 Hx
   refine hQ _ _ (aX (cb ?_))
   clear hQ
   kspl_open hQ
   rw [DW n N C]
   refine a7 (Ur f2 F n0 (by omega) (by omega) N0) ?_
   rintro d s3 ⟨R1,rfl,JL,UC,f3,e3⟩
   refine ⟨rfl,?_⟩
   have JN:=e3.keep _ _ h02 (by simp;omega)
   have f4:=f3.keep (Ex.cB [O.lst [iP (af.ff n C N),iP R1]])
   have D0:=hW (m:=[O.lst [iP (af.ff n C N),iP R1]]) JN
   have i4:(s3 ++ [O.lst [iP (af.ff n C N),iP R1]])[s3.length]?=some (.lst [iP (af.ff n C N),iP R1]):=h7
   have n4:s3.length≠f:=by have:=f3.lt;omega
   generalize s3 ++ [O.lst [iP (af.ff n C N),iP R1]]=s4 at f4 D0 i4 ⊢
   generalize s3.length=l4 at i4 n4 ⊢
   refine a7 (nF (n:=2) f4 (by decide) (by decide)) ?_
   rintro d s5 ⟨k,rfl,k0,k2,f5,e5⟩
   have UD:=e5.keep _ _ D0 (by simp;omega)
   have i5:=bu (e5.keep _ _ i4 (by simp;exact n4))
   set_option simprocs false in simp only [bC,i5]
   have hlen:(af.ff n C N).length=N:=by unfold af.ff;rw [Vd,W7]
   obtain ⟨R0,UE,UG,len0⟩:∃ R0,d5 [iP (af.ff n C N),iP R1] k=some (iP R0)/\(∀ r∈R0,af.fe r)/\R0.length<=12:=by
    rcases (show k=0\/k=1 by omega) with h | h
    ·exact ⟨_,by rw [h];rfl,af.MJ F n0 (by omega) (by omega),by omega⟩
    ·exact ⟨_,by rw [h];rfl,JL,by omega⟩
   refine ⟨_,UE,hQ _ _ ?_⟩
   clear hQ
   obtain ⟨d9,s6,e6,k4,rfl,Vb,Vc,f6,x6⟩:=nF (n:=4) f5 (by decide) (by decide)
   obtain ⟨y,rfl⟩:∃ y:Nat,k4=(y:Int):=⟨k4.toNat,by omega⟩
   have JO:=x6.keep _ _ UD (by simp;omega)
   refine aX (lZ (aJ 0 y) (fun j δ s=>∃ (v7:Option D) (R:List af.Ro),δ=[some (.ref 0),some (.ref f),some (aN p),some (oB C N),some (oB C N),some (.int (2 + (i:Int))),some (iP R),v7,v8]/\(∀ r∈R,af.fe r)/\R.length<=12 + j/\aW s f/\s[0]?=some (.oO (ns.map D.int))) ?_ (by rw [gH];omega) ?_ ?_)
   ·kspl_open hQ
    refine ⟨_,_,e6,?_⟩
    w_how
    exact ⟨by omega,hQ _ _ ⟨by rw [Vr],_,R0,rfl,UG,by omega,f6,JO⟩⟩
   ·rintro j d δ s hd ⟨v7,R,rfl,m8,D1,fs,h0⟩
    have hj:=dH hd
    rw [gH] at hj
    kspl_open hQ
    refine hQ _ _ (cb ?_)
    clear hQ
    kspl_open hQ
    refine a7 (T9 fs w0 n0 (by omega) m8 (by omega)) ?_
    rintro d s7 ⟨R',rfl,ok',len',f7,x7⟩
    exact hQ _ _ ⟨_,R',rfl,ok',by omega,f7,x7.keep _ _ h0 (by simp;omega)⟩
   ·rintro δ s ⟨v7,R,rfl,m8,D1,fs,h0⟩
    rw [gH] at D1
    exact Uy fs F w0 n0 (by omega) m8 (by omega) fun s' v8 k'=>⟨_,_,_,_,_,rfl,k'.keep _ _ h0 (by simp;omega)⟩
  ·rintro δ s ⟨v1,v5,v6,v7,v8,rfl,h0⟩
   refine dQ ?_
   kspl_open hQ
   exact hQ _ _ rfl
theorem zd {P:Program} {w:World} {K:Zfr} {mg:Str->Option Value} {base:Heap} (T:Txt mg) {mF:V} (lp:sx K mg "QUARTER" mF (.tup [(.str "t"),(.int 1)])) {pI:V} (oh:sx K mg "SHEAR" pI (.tup [(.str "s"),(.int 1)])) {ji:Addr} {jk:FuncData} (gq:Def K mg "_law_feed" CO ["_law_script","_law_k"] ji jk) {aT:Addr} {aU:FuncData} (aC:Def K mg "_law_take" sR ["_law_feed_here","_law_many"] aT aU) {cu:Addr} {cv:FuncData} (bO:Def K mg "_law_turning" zU ["_law_feed_here","_law_n"] cu cv) {j6:Addr} {j7:FuncData} (iI:Def K mg "_law_met" CP ["_law_floor_here"] j6 j7) {cQ:Addr} {cR:FuncData} (cE:Def K mg "_law_floor" zV ["_law_feed_here","_law_n"] cQ cR) {dR:Addr} {dS:FuncData} (dU:Def K mg "_law_numbered" CU ["_law_floor_here","_law_s"] dR dS) {cw:Addr} {cx:FuncData} (a8:Def K mg "_law_form" yI ["_law_floor_here"] cw cx) {fG:Addr} {fH:FuncData} (fI:Def K mg "_law_behind" CW ["_law_turning_here","_law_s","_law_k"] fG fH) {bx:Addr} {bz:FuncData} (bA:Def K mg "_law_stepped" yJ ["_law_floor_here","_law_step"] bx bz) {gL:Addr} {gM:FuncData} (gO:Def K mg "_law_plain" CY ["_law_word_here"] gL gM) {gW:Addr} {gX:FuncData} (eX:Def K mg "_law_chart" CZ ["_law_floor_here","_law_most"] gW gX) {bQ:Addr} {bR:FuncData} (bS:Def K mg "turned_back" yM ["turning"] bQ bR) {d8:Addr} {eo:FuncData} (cL:Def K mg "followed" Aa ["one","other"] d8 eo) {fJ:Addr} {fK:FuncData} (fL:Def K mg "called_anew" C1 ["floor","p"] fJ fK) {eM:Addr} {eN:FuncData} (eO:Def K mg "squares_from" C3 ["floor","s"] eM eN) {dg:Addr} {dh:FuncData} (dj:Def K mg "numbering_from" C5 ["floor","s"] dg dh) {dW:Addr} {dX:FuncData} (dY:Def K mg "numbered_from" C7 ["floor","s"] dW dX) {bX:Addr} {bY:FuncData} (bI:Def K mg "form_of" uh ["floor"] bX bY) {iY:Addr} {iZ:FuncData} (i3:Def K mg "ring_from" C9 ["turning","first"] iY iZ) {j9:Addr} {kc:FuncData} (ke:Def K mg "rings_of" Dd ["turning"] j9 kc) {n8:Addr} {n9:FuncData} (oe:Def K mg "often" Df ["turning","k"] n8 n9) {gk:Addr} {gn:FuncData} (gp:Def K mg "sheared" Ad ["floor","k"] gk gn) {dw:Addr} {dz:FuncData} (dA:Def K mg "quartered" Ae ["floor"] dw dz) {fM:Addr} {fN:FuncData} (fO:Def K mg "led_by_step" Di ["floor","step"] fM fN) {i9:Addr} {ja:FuncData} (jb:Def K mg "led_by" Af ["floor","word"] i9 ja) {mf:Addr} {mh:FuncData} (mj:Def K mg "joined" Dk ["one","other"] mf mh) {gP:Addr} {gQ:FuncData} (gR:Def K mg "made_plain" Dn ["word"] gP gQ) {eP:Addr} {eQ:FuncData} (eU:Def K mg "put_together" Dr ["one","other"] eP eQ) {gS:Addr} {gT:FuncData} (eW:Def K mg "row_led_to" Ds ["forms","words","place","step"] gS gT) {kl:Addr} {km:FuncData} (fW:rK K mg "chart_of" Dt ["floor","most"] [V.int 60] kl km) {kh:Addr} {ki:FuncData} (iK:Def K mg "has_form" Du ["forms","number","floor"] kh ki) {jc:Addr} {jd:FuncData} (je:Def K mg "row_holds" Dw ["floor","row","forms"] jc jd) {fP:Addr} {fQ:FuncData} (fR:Def K mg "chart_holds" Dx ["floor","chart"] fP fQ) {dB:Addr} {dC:FuncData} (dD:Def K mg "_law_word" Ai ["_law_feed_here","_law_most","_law_great"] dB dC) {dk:Addr} {dr:FuncData} (du:Def K mg "_law_otherwise" Dz ["_law_feed_here","_law_floor_here","_law_chart_here"] dk dr) {jf:Addr} {jg:FuncData} (jh:Def K mg "_law_anew" DB ["_law_floor_here","_law_p"] jf jg) {cF:Addr} {cG:FuncData} (cH:Def K mg "_law_turned_about" DE ["_law_feed_here","_law_chart_here"] cF cG) {eC:Addr} {eE:FuncData} (dI:Def K mg "_law_led" Aj ["_law_floor_here","_law_word_here"] eC eE) {gZ:Addr} {g5:FuncData} (g7:Def K mg "_law_shown" DF ["_law_floor_here","_law_chart_here"] gZ g5) {g8:Addr} {g9:FuncData} (hJ:Def K mg "_law_whole" DG ["_law_feed_here","_law_floor_here","_law_many","_law_chart_here"] g8 g9) {D2:Addr} {D3:FuncData} (JP:Def K mg "law" Gd ["_law_script"] D2 D3):aI P w K mg base bH 9 D2 D3 ["_law_script"] (bM K 1 Jj):=by
 have jl:=RY (P:=P) (w:=w) (base:=base) gq T
 have aE:=RZ (P:=P) (w:=w) (base:=base) aC T
 have b5:=R3 (P:=P) (w:=w) (base:=base) bO T  aC aE
 have j8:=R4 (P:=P) (w:=w) (base:=base) iI T
 have cS:=R5 (P:=P) (w:=w) (base:=base) cE T  aC aE bO b5 iI j8
 have gi:=R6 (P:=P) (w:=w) (base:=base) dU T
 have bp:=R8 (P:=P) (w:=w) (base:=base) a8 T  dU gi
 have iW:=R9 (P:=P) (w:=w) (base:=base) fI T
 have bP:=Sb (P:=P) (w:=w) (base:=base) bA T  fI iW
 have jN:=Sd (P:=P) (w:=w) (base:=base) gO T
 have gY:=Se (P:=P) (w:=w) (base:=base) eX T  a8 bp bA bP gO jN
 have bZ:=Sf (P:=P) (w:=w) (base:=base) bS T
 have cW:=Si (P:=P) (w:=w) (base:=base) cL T
 have iX:=Sj (P:=P) (w:=w) (base:=base) fL T  bS bZ cL cW
 have ie:=Sk (P:=P) (w:=w) (base:=base) eO T
 have fg:=Sn (P:=P) (w:=w) (base:=base) dj T  bS bZ eO ie
 have gj:=Sr (P:=P) (w:=w) (base:=base) dY T  fL iX dj fg
 have bW:=Sv (P:=P) (w:=w) (base:=base) bI T  dY gj
 have kM:=Sw (P:=P) (w:=w) (base:=base) i3 T
 have lK:=Sx (P:=P) (w:=w) (base:=base) ke T  i3 kM
 have pH:=Sy (P:=P) (w:=w) (base:=base) oe T  ke lK
 have iJ:=SA (P:=P) (w:=w) (base:=base) gp T  cL cW oe pH
 have eu:=SE (P:=P) (w:=w) (base:=base) dA T  bS bZ
 have i6:=SF (P:=P) (w:=w) (base:=base) fO T  gp iJ dA eu
 have kg:=SG (P:=P) (w:=w) (base:=base) jb T  fO i6
 have og:=SH (P:=P) (w:=w) (base:=base) mj T
 have jO:=SI (P:=P) (w:=w) (base:=base) gR T  mj og
 have ig:=SK (P:=P) (w:=w) (base:=base) eU T  gR jO
 have gU:=SM (P:=P) (w:=w) (base:=base) eW T  bI bW jb kg eU ig
 have lL:=SN (P:=P) (w:=w) (base:=base) fW T lp oh bI bW eW gU
 have kj:=SQ (P:=P) (w:=w) (base:=base) iK T  bI bW
 have kN:=SS (P:=P) (w:=w) (base:=base) je T  bI bW iK kj jb kg gp iJ dA eu
 have jm:=SU (P:=P) (w:=w) (base:=base) fR T  bI bW je kN
 have eB:=SV (P:=P) (w:=w) (base:=base) dD T  aC aE
 have fj:=SW (P:=P) (w:=w) (base:=base) du T  aC aE dD eB cE cS
 have kO:=SY (P:=P) (w:=w) (base:=base) jh T
 have dE:=S0 (P:=P) (w:=w) (base:=base) cH T  aC aE bO b5 jh kO
 have eG:=S1 (P:=P) (w:=w) (base:=base) dI T  bA bP
 have jP:=S2 (P:=P) (w:=w) (base:=base) g7 T  a8 bp dI eG bA bP
 have jQ:=S3 (P:=P) (w:=w) (base:=base) hJ T  a8 bp dI eG dD eB
 have JQ:=yQ (P:=P) (w:=w) (base:=base) JP T  gq jl cE cS eX gY fW lL fR jm aC aE du fj cH dE g7 jP hJ jQ
 exact JQ
end My
open PySem PySem.W PyProof.Rows L2
namespace PySem.W.Fast
theorem tw6841669960215961362:True:=⟨⟩
theorem tw15416287113249056562:True:=⟨⟩
theorem tw2787306062329701556:True:=⟨⟩
theorem tw4248155218949927940:True:=⟨⟩
theorem tw10244074347935183262:True:=⟨⟩
theorem tw8146358098099689774:True:=⟨⟩
theorem tw3808360726259990744:True:=⟨⟩
theorem tw4301912809310180804:True:=⟨⟩
theorem tw3134710239898530423:True:=⟨⟩
theorem tw4745094742059773195:True:=⟨⟩
theorem tw3985462350442429370:True:=⟨⟩
theorem tw1962279519767257668:True:=⟨⟩
theorem tw17719389744972909647:True:=⟨⟩
theorem tw9819950173875788635:True:=⟨⟩
theorem tw9467500442078507256:True:=⟨⟩
theorem tw16676423752374047933:True:=⟨⟩
theorem tw13557365688937198598:True:=⟨⟩
theorem tw16007444032128646152:True:=⟨⟩
theorem tw2305240009092960127:True:=⟨⟩
theorem tw13930122185501704868:True:=⟨⟩
theorem tw15052034207521692982:True:=⟨⟩
theorem tw10725287463002819478:True:=⟨⟩
theorem tw9745462845743825627:True:=⟨⟩
theorem tw8900431867847233071:True:=⟨⟩
theorem tw14925285049329635248:True:=⟨⟩
theorem tw417265383457307292:True:=⟨⟩
theorem tw5595097287054058124:True:=⟨⟩
theorem tw8086096444756283581:True:=⟨⟩
theorem tw11207561904411716005:True:=⟨⟩
theorem tw9937922790579603371:True:=⟨⟩
theorem tw10746660046222183835:True:=⟨⟩
theorem tw2353912823025901485:True:=⟨⟩
theorem tw18038727330064877540:True:=⟨⟩
theorem tw15285293454543732767:True:=⟨⟩
theorem tw18070799483094451088:True:=⟨⟩
theorem tw3046670548521149976:True:=⟨⟩
theorem tw4302245975296654312:True:=⟨⟩
theorem tw14056385531466960298:True:=⟨⟩
theorem tw11709694697910659195:True:=⟨⟩
theorem tw4500615808234137708:True:=⟨⟩
theorem tw14942176614072623899:True:=⟨⟩
theorem tw2741733350845338600:True:=⟨⟩
theorem tw9427536108972247683:True:=⟨⟩
theorem tw11478739654834911658:True:=⟨⟩
theorem tw18261521300904354501:True:=⟨⟩
theorem tw12065420160411053093:True:=⟨⟩
theorem tw15988706789589834157:True:=⟨⟩
theorem tw7082617824007217859:True:=⟨⟩
theorem tw10740798748323668477:True:=⟨⟩
theorem tw14369511657118003318:True:=⟨⟩
theorem tw1446998324253920046:True:=⟨⟩
theorem tw3971120192627074692:True:=⟨⟩
theorem tw1522103481466664773:True:=⟨⟩
theorem tw15544368136456025605:True:=⟨⟩
theorem tw16670618111966807890:True:=⟨⟩
theorem tw7093014784951916937:True:=⟨⟩
theorem tw11702448710516228315:True:=⟨⟩
theorem tw14660404989094630497:True:=⟨⟩
theorem tw6796247738948120587:True:=⟨⟩
theorem tw10133384019201529623:True:=⟨⟩
theorem tw261632535336794622:True:=⟨⟩
theorem tw1115174177433559582:True:=⟨⟩
theorem tw11204690541187440759:True:=⟨⟩
theorem tw11074016607477502853:True:=⟨⟩
theorem tw1729801911791002324:True:=⟨⟩
theorem tw13362860601258044928:True:=⟨⟩
theorem tw3631032537924024148:True:=⟨⟩
theorem tw2603944397644093103:True:=⟨⟩
theorem tw6734341039606128707:True:=⟨⟩
theorem tw3232574031215010004:True:=⟨⟩
theorem tw13432697656581350206:True:=⟨⟩
theorem tw14676709921348392070:True:=⟨⟩
theorem tw17056993196221565935:True:=⟨⟩
theorem tw2986100244884973000:True:=⟨⟩
theorem tw9270642708265955361:True:=⟨⟩
theorem tw1830548174468382246:True:=⟨⟩
theorem tw1981342291917819507:True:=⟨⟩
theorem tw14604646235067072242:True:=⟨⟩
theorem tw4989441375222035701:True:=⟨⟩
end PySem.W.Fast
set_option maxRecDepth 100000 in
set_option maxHeartbeats 0 in
theorem PySem.Challenge.cw_shearfloor_k68_whole_spoilt_charts_holds : PySem.Challenge.rw_shearfloor_k68_whole_spoilt_charts.Holds := by
 w_on;o_law;k_head;(case hw=>w_witness2)
 k_fill
 refine L2.Ot (l:=PySem.Challenge.rw_shearfloor_k68_whole_spoilt_charts) (n:=63) (k:=9) (x:="_law_script") (CX:=bH) (sp:=L4.vg) rfl (by decide) rfl ⟨rfl,by decide,by decide,rfl⟩ (fun w h Y=>PySem.W.kIn_of Y) ?F ?S ?C
 case F =>
  intro w mg fa h KX G hmg
  have T:My.Txt mg:=by
   refine' ⟨sC KX G ?z0,sC KX G ?z1,sC KX G ?z2,sC KX G ?z3,sC KX G ?z4,sC KX G ?z5,sC KX G ?z6,sC KX G ?z7,sC KX G ?z8,sC KX G ?z9⟩
   (case z0=>k_is);(case z1=>k_is);(case z2=>k_is);(case z3=>k_is);(case z4=>k_is);(case z5=>k_is);(case z6=>k_is);(case z7=>k_is);(case z8=>k_is);(case z9=>k_is)
  have lM:∃ v,L4.sx (L2.KOf KX) mg "QUARTER" v (.tup [(.str "t"),(.int 1)]):=by
   dsimp only [L2.KOf];refine' L4.Mu (vs:=[V.str "t",V.int 1]) KX G ?a ?l ?o ?z ?v ?d
   (case a=>k_is);(case l=>k_is);(case o=>rfl);(case z=>decide);(case v=>exact (.cons ⟨_,rfl⟩ (.cons ⟨_,rfl⟩ .nil)));(case d=>exact fun ρ H=>(.cons (.str _) (.cons (.int _) .nil)))
  obtain ⟨_,lM⟩:=lM
  have oi:∃ v,L4.sx (L2.KOf KX) mg "SHEAR" v (.tup [(.str "s"),(.int 1)]):=by
   dsimp only [L2.KOf];refine' L4.Mu (vs:=[V.str "s",V.int 1]) KX G ?a ?l ?o ?z ?v ?d
   (case a=>k_is);(case l=>k_is);(case o=>rfl);(case z=>decide);(case v=>exact (.cons ⟨_,rfl⟩ (.cons ⟨_,rfl⟩ .nil)));(case d=>exact fun ρ H=>(.cons (.str _) (.cons (.int _) .nil)))
  obtain ⟨_,oi⟩:=oi
  have jR:∃ f fd,Def (L2.KOf KX) mg "_law_feed" My.CO ["_law_script","_law_k"] f fd:=by
   dsimp only [L2.KOf];refine' iM KX G (fun _ _ _ _ _ _ us hl=>match us,hl with | [_,_],_=>rfl) ?a ?l ?c ?k
   (case a=>k_is);(case l=>k_is);(case c=>k_is);(case k=>k_is)
  obtain ⟨_,_,jR⟩:=jR
  have jS:∃ f fd,Def (L2.KOf KX) mg "_law_take" My.sR ["_law_feed_here","_law_many"] f fd:=by
   dsimp only [L2.KOf];refine' iM KX G (fun _ _ _ _ _ _ us hl=>match us,hl with | [_,_],_=>rfl) ?a ?l ?c ?k
   (case a=>k_is);(case l=>k_is);(case c=>k_is);(case k=>k_is)
  obtain ⟨_,_,jS⟩:=jS
  have gs:∃ f fd,Def (L2.KOf KX) mg "_law_turning" My.zU ["_law_feed_here","_law_n"] f fd:=by
   dsimp only [L2.KOf];refine' iM KX G (fun _ _ _ _ _ _ us hl=>match us,hl with | [_,_],_=>rfl) ?a ?l ?c ?k
   (case a=>k_is);(case l=>k_is);(case c=>k_is);(case k=>k_is)
  obtain ⟨_,_,gs⟩:=gs
  have kQ:∃ f fd,Def (L2.KOf KX) mg "_law_met" My.CP ["_law_floor_here"] f fd:=by
   dsimp only [L2.KOf];refine' iM KX G (fun _ _ _ _ _ _ us hl=>match us,hl with | [_],_=>rfl) ?a ?l ?c ?k
   (case a=>k_is);(case l=>k_is);(case c=>k_is);(case k=>k_is)
  obtain ⟨_,_,kQ⟩:=kQ
  have jn:∃ f fd,Def (L2.KOf KX) mg "_law_floor" My.zV ["_law_feed_here","_law_n"] f fd:=by
   dsimp only [L2.KOf];refine' iM KX G (fun _ _ _ _ _ _ us hl=>match us,hl with | [_,_],_=>rfl) ?a ?l ?c ?k
   (case a=>k_is);(case l=>k_is);(case c=>k_is);(case k=>k_is)
  obtain ⟨_,_,jn⟩:=jn
  have fm:∃ f fd,Def (L2.KOf KX) mg "_law_numbered" My.CU ["_law_floor_here","_law_s"] f fd:=by
   dsimp only [L2.KOf];refine' iM KX G (fun _ _ _ _ _ _ us hl=>match us,hl with | [_,_],_=>rfl) ?a ?l ?c ?k
   (case a=>k_is);(case l=>k_is);(case c=>k_is);(case k=>k_is)
  obtain ⟨_,_,fm⟩:=fm
  have jT:∃ f fd,Def (L2.KOf KX) mg "_law_form" My.yI ["_law_floor_here"] f fd:=by
   dsimp only [L2.KOf];refine' iM KX G (fun _ _ _ _ _ _ us hl=>match us,hl with | [_],_=>rfl) ?a ?l ?c ?k
   (case a=>k_is);(case l=>k_is);(case c=>k_is);(case k=>k_is)
  obtain ⟨_,_,jT⟩:=jT
  have ik:∃ f fd,Def (L2.KOf KX) mg "_law_behind" My.CW ["_law_turning_here","_law_s","_law_k"] f fd:=by
   dsimp only [L2.KOf];refine' iM KX G (fun _ _ _ _ _ _ us hl=>match us,hl with | [_,_,_],_=>rfl) ?a ?l ?c ?k
   (case a=>k_is);(case l=>k_is);(case c=>k_is);(case k=>k_is)
  obtain ⟨_,_,ik⟩:=ik
  have gu:∃ f fd,Def (L2.KOf KX) mg "_law_stepped" My.yJ ["_law_floor_here","_law_step"] f fd:=by
   dsimp only [L2.KOf];refine' iM KX G (fun _ _ _ _ _ _ us hl=>match us,hl with | [_,_],_=>rfl) ?a ?l ?c ?k
   (case a=>k_is);(case l=>k_is);(case c=>k_is);(case k=>k_is)
  obtain ⟨_,_,gu⟩:=gu
  have jq:∃ f fd,Def (L2.KOf KX) mg "_law_plain" My.CY ["_law_word_here"] f fd:=by
   dsimp only [L2.KOf];refine' iM KX G (fun _ _ _ _ _ _ us hl=>match us,hl with | [_],_=>rfl) ?a ?l ?c ?k
   (case a=>k_is);(case l=>k_is);(case c=>k_is);(case k=>k_is)
  obtain ⟨_,_,jq⟩:=jq
  have jr:∃ f fd,Def (L2.KOf KX) mg "_law_chart" My.CZ ["_law_floor_here","_law_most"] f fd:=by
   dsimp only [L2.KOf];refine' iM KX G (fun _ _ _ _ _ _ us hl=>match us,hl with | [_,_],_=>rfl) ?a ?l ?c ?k
   (case a=>k_is);(case l=>k_is);(case c=>k_is);(case k=>k_is)
  obtain ⟨_,_,jr⟩:=jr
  have il:∃ f fd,Def (L2.KOf KX) mg "turned_back" My.yM ["turning"] f fd:=by
   dsimp only [L2.KOf];refine' iM KX G (fun _ _ _ _ _ _ us hl=>match us,hl with | [_],_=>rfl) ?a ?l ?c ?k
   (case a=>k_is);(case l=>k_is);(case c=>k_is);(case k=>k_is)
  obtain ⟨_,_,il⟩:=il
  have kR:∃ f fd,Def (L2.KOf KX) mg "followed" My.Aa ["one","other"] f fd:=by
   dsimp only [L2.KOf];refine' iM KX G (fun _ _ _ _ _ _ us hl=>match us,hl with | [_,_],_=>rfl) ?a ?l ?c ?k
   (case a=>k_is);(case l=>k_is);(case c=>k_is);(case k=>k_is)
  obtain ⟨_,_,kR⟩:=kR
  have ip:∃ f fd,Def (L2.KOf KX) mg "called_anew" My.C1 ["floor","p"] f fd:=by
   dsimp only [L2.KOf];refine' iM KX G (fun _ _ _ _ _ _ us hl=>match us,hl with | [_,_],_=>rfl) ?a ?l ?c ?k
   (case a=>k_is);(case l=>k_is);(case c=>k_is);(case k=>k_is)
  obtain ⟨_,_,ip⟩:=ip
  have gw:∃ f fd,Def (L2.KOf KX) mg "squares_from" My.C3 ["floor","s"] f fd:=by
   dsimp only [L2.KOf];refine' iM KX G (fun _ _ _ _ _ _ us hl=>match us,hl with | [_,_],_=>rfl) ?a ?l ?c ?k
   (case a=>k_is);(case l=>k_is);(case c=>k_is);(case k=>k_is)
  obtain ⟨_,_,gw⟩:=gw
  have eI:∃ f fd,Def (L2.KOf KX) mg "numbering_from" My.C5 ["floor","s"] f fd:=by
   dsimp only [L2.KOf];refine' iM KX G (fun _ _ _ _ _ _ us hl=>match us,hl with | [_,_],_=>rfl) ?a ?l ?c ?k
   (case a=>k_is);(case l=>k_is);(case c=>k_is);(case k=>k_is)
  obtain ⟨_,_,eI⟩:=eI
  have fq:∃ f fd,Def (L2.KOf KX) mg "numbered_from" My.C7 ["floor","s"] f fd:=by
   dsimp only [L2.KOf];refine' iM KX G (fun _ _ _ _ _ _ us hl=>match us,hl with | [_,_],_=>rfl) ?a ?l ?c ?k
   (case a=>k_is);(case l=>k_is);(case c=>k_is);(case k=>k_is)
  obtain ⟨_,_,fq⟩:=fq
  have lO:∃ f fd,Def (L2.KOf KX) mg "form_of" My.uh ["floor"] f fd:=by
   dsimp only [L2.KOf];refine' iM KX G (fun _ _ _ _ _ _ us hl=>match us,hl with | [_],_=>rfl) ?a ?l ?c ?k
   (case a=>k_is);(case l=>k_is);(case c=>k_is);(case k=>k_is)
  obtain ⟨_,_,lO⟩:=lO
  have jU:∃ f fd,Def (L2.KOf KX) mg "ring_from" My.C9 ["turning","first"] f fd:=by
   dsimp only [L2.KOf];refine' iM KX G (fun _ _ _ _ _ _ us hl=>match us,hl with | [_,_],_=>rfl) ?a ?l ?c ?k
   (case a=>k_is);(case l=>k_is);(case c=>k_is);(case k=>k_is)
  obtain ⟨_,_,jU⟩:=jU
  have kS:∃ f fd,Def (L2.KOf KX) mg "rings_of" My.Dd ["turning"] f fd:=by
   dsimp only [L2.KOf];refine' iM KX G (fun _ _ _ _ _ _ us hl=>match us,hl with | [_],_=>rfl) ?a ?l ?c ?k
   (case a=>k_is);(case l=>k_is);(case c=>k_is);(case k=>k_is)
  obtain ⟨_,_,kS⟩:=kS
  have oj:∃ f fd,Def (L2.KOf KX) mg "often" My.Df ["turning","k"] f fd:=by
   dsimp only [L2.KOf];refine' iM KX G (fun _ _ _ _ _ _ us hl=>match us,hl with | [_,_],_=>rfl) ?a ?l ?c ?k
   (case a=>k_is);(case l=>k_is);(case c=>k_is);(case k=>k_is)
  obtain ⟨_,_,oj⟩:=oj
  have lP:∃ f fd,Def (L2.KOf KX) mg "sheared" My.Ad ["floor","k"] f fd:=by
   dsimp only [L2.KOf];refine' iM KX G (fun _ _ _ _ _ _ us hl=>match us,hl with | [_,_],_=>rfl) ?a ?l ?c ?k
   (case a=>k_is);(case l=>k_is);(case c=>k_is);(case k=>k_is)
  obtain ⟨_,_,lP⟩:=lP
  have jV:∃ f fd,Def (L2.KOf KX) mg "quartered" My.Ae ["floor"] f fd:=by
   dsimp only [L2.KOf];refine' iM KX G (fun _ _ _ _ _ _ us hl=>match us,hl with | [_],_=>rfl) ?a ?l ?c ?k
   (case a=>k_is);(case l=>k_is);(case c=>k_is);(case k=>k_is)
  obtain ⟨_,_,jV⟩:=jV
  have iq:∃ f fd,Def (L2.KOf KX) mg "led_by_step" My.Di ["floor","step"] f fd:=by
   dsimp only [L2.KOf];refine' iM KX G (fun _ _ _ _ _ _ us hl=>match us,hl with | [_,_],_=>rfl) ?a ?l ?c ?k
   (case a=>k_is);(case l=>k_is);(case c=>k_is);(case k=>k_is)
  obtain ⟨_,_,iq⟩:=iq
  have mI:∃ f fd,Def (L2.KOf KX) mg "led_by" My.Af ["floor","word"] f fd:=by
   dsimp only [L2.KOf];refine' iM KX G (fun _ _ _ _ _ _ us hl=>match us,hl with | [_,_],_=>rfl) ?a ?l ?c ?k
   (case a=>k_is);(case l=>k_is);(case c=>k_is);(case k=>k_is)
  obtain ⟨_,_,mI⟩:=mI
  have mJ:∃ f fd,Def (L2.KOf KX) mg "joined" My.Dk ["one","other"] f fd:=by
   dsimp only [L2.KOf];refine' iM KX G (fun _ _ _ _ _ _ us hl=>match us,hl with | [_,_],_=>rfl) ?a ?l ?c ?k
   (case a=>k_is);(case l=>k_is);(case c=>k_is);(case k=>k_is)
  obtain ⟨_,_,mJ⟩:=mJ
  have jt:∃ f fd,Def (L2.KOf KX) mg "made_plain" My.Dn ["word"] f fd:=by
   dsimp only [L2.KOf];refine' iM KX G (fun _ _ _ _ _ _ us hl=>match us,hl with | [_],_=>rfl) ?a ?l ?c ?k
   (case a=>k_is);(case l=>k_is);(case c=>k_is);(case k=>k_is)
  obtain ⟨_,_,jt⟩:=jt
  have gx:∃ f fd,Def (L2.KOf KX) mg "put_together" My.Dr ["one","other"] f fd:=by
   dsimp only [L2.KOf];refine' iM KX G (fun _ _ _ _ _ _ us hl=>match us,hl with | [_,_],_=>rfl) ?a ?l ?c ?k
   (case a=>k_is);(case l=>k_is);(case c=>k_is);(case k=>k_is)
  obtain ⟨_,_,gx⟩:=gx
  have ju:∃ f fd,Def (L2.KOf KX) mg "row_led_to" My.Ds ["forms","words","place","step"] f fd:=by
   dsimp only [L2.KOf];refine' iM KX G (fun _ _ _ _ _ _ us hl=>match us,hl with | [_,_,_,_],_=>rfl) ?a ?l ?c ?k
   (case a=>k_is);(case l=>k_is);(case c=>k_is);(case k=>k_is)
  obtain ⟨_,_,ju⟩:=ju
  have kT:∃ f fd,rK (L2.KOf KX) mg "chart_of" My.Dt ["floor","most"] [V.int 60] f fd:=by
   dsimp only [L2.KOf];refine' O9 (d:=1) KX G (by decide) (fun _ _ _ _ _ _ _ us ds hl hd=>match us,ds,hl,hd with | [_],[_],_,_=>⟨_,rfl,rfl⟩) (fun _ _ _ _ _ _ _ us ds hl hd=>match us,ds,hl,hd with | [_,_],[_],_,_=>⟨_,rfl,rfl⟩) ?a ?l ?lT ?e ?v ?c ?k
   (case a=>k_is);(case l=>k_is);(case lT=>k_is);(case e=>rfl);(case v=>exact .cons ⟨_,rfl⟩ (.nil));(case c=>k_is);(case k=>k_is)
  obtain ⟨_,_,kT⟩:=kT
  have kU:∃ f fd,Def (L2.KOf KX) mg "has_form" My.Du ["forms","number","floor"] f fd:=by
   dsimp only [L2.KOf];refine' iM KX G (fun _ _ _ _ _ _ us hl=>match us,hl with | [_,_,_],_=>rfl) ?a ?l ?c ?k
   (case a=>k_is);(case l=>k_is);(case c=>k_is);(case k=>k_is)
  obtain ⟨_,_,kU⟩:=kU
  have jW:∃ f fd,Def (L2.KOf KX) mg "row_holds" My.Dw ["floor","row","forms"] f fd:=by
   dsimp only [L2.KOf];refine' iM KX G (fun _ _ _ _ _ _ us hl=>match us,hl with | [_,_,_],_=>rfl) ?a ?l ?c ?k
   (case a=>k_is);(case l=>k_is);(case c=>k_is);(case k=>k_is)
  obtain ⟨_,_,jW⟩:=jW
  have iu:∃ f fd,Def (L2.KOf KX) mg "chart_holds" My.Dx ["floor","chart"] f fd:=by
   dsimp only [L2.KOf];refine' iM KX G (fun _ _ _ _ _ _ us hl=>match us,hl with | [_,_],_=>rfl) ?a ?l ?c ?k
   (case a=>k_is);(case l=>k_is);(case c=>k_is);(case k=>k_is)
  obtain ⟨_,_,iu⟩:=iu
  have jX:∃ f fd,Def (L2.KOf KX) mg "_law_word" My.Ai ["_law_feed_here","_law_most","_law_great"] f fd:=by
   dsimp only [L2.KOf];refine' iM KX G (fun _ _ _ _ _ _ us hl=>match us,hl with | [_,_,_],_=>rfl) ?a ?l ?c ?k
   (case a=>k_is);(case l=>k_is);(case c=>k_is);(case k=>k_is)
  obtain ⟨_,_,jX⟩:=jX
  have eJ:∃ f fd,Def (L2.KOf KX) mg "_law_otherwise" My.Dz ["_law_feed_here","_law_floor_here","_law_chart_here"] f fd:=by
   dsimp only [L2.KOf];refine' iM KX G (fun _ _ _ _ _ _ us hl=>match us,hl with | [_,_,_],_=>rfl) ?a ?l ?c ?k
   (case a=>k_is);(case l=>k_is);(case c=>k_is);(case k=>k_is)
  obtain ⟨_,_,eJ⟩:=eJ
  have jY:∃ f fd,Def (L2.KOf KX) mg "_law_anew" My.DB ["_law_floor_here","_law_p"] f fd:=by
   dsimp only [L2.KOf];refine' iM KX G (fun _ _ _ _ _ _ us hl=>match us,hl with | [_,_],_=>rfl) ?a ?l ?c ?k
   (case a=>k_is);(case l=>k_is);(case c=>k_is);(case k=>k_is)
  obtain ⟨_,_,jY⟩:=jY
  have c6:∃ f fd,Def (L2.KOf KX) mg "_law_turned_about" My.DE ["_law_feed_here","_law_chart_here"] f fd:=by
   dsimp only [L2.KOf];refine' iM KX G (fun _ _ _ _ _ _ us hl=>match us,hl with | [_,_],_=>rfl) ?a ?l ?c ?k
   (case a=>k_is);(case l=>k_is);(case c=>k_is);(case k=>k_is)
  obtain ⟨_,_,c6⟩:=c6
  have kW:∃ f fd,Def (L2.KOf KX) mg "_law_led" My.Aj ["_law_floor_here","_law_word_here"] f fd:=by
   dsimp only [L2.KOf];refine' iM KX G (fun _ _ _ _ _ _ us hl=>match us,hl with | [_,_],_=>rfl) ?a ?l ?c ?k
   (case a=>k_is);(case l=>k_is);(case c=>k_is);(case k=>k_is)
  obtain ⟨_,_,kW⟩:=kW
  have jv:∃ f fd,Def (L2.KOf KX) mg "_law_shown" My.DF ["_law_floor_here","_law_chart_here"] f fd:=by
   dsimp only [L2.KOf];refine' iM KX G (fun _ _ _ _ _ _ us hl=>match us,hl with | [_,_],_=>rfl) ?a ?l ?c ?k
   (case a=>k_is);(case l=>k_is);(case c=>k_is);(case k=>k_is)
  obtain ⟨_,_,jv⟩:=jv
  have jw:∃ f fd,Def (L2.KOf KX) mg "_law_whole" My.DG ["_law_feed_here","_law_floor_here","_law_many","_law_chart_here"] f fd:=by
   dsimp only [L2.KOf];refine' iM KX G (fun _ _ _ _ _ _ us hl=>match us,hl with | [_,_,_,_],_=>rfl) ?a ?l ?c ?k
   (case a=>k_is);(case l=>k_is);(case c=>k_is);(case k=>k_is)
  obtain ⟨_,_,jw⟩:=jw
  have o3:∃ f fd,Def (L2.KOf KX) mg "law" My.Gd ["_law_script"] f fd:=by
   dsimp only [L2.KOf];refine' iM KX G (fun _ _ _ _ _ _ us hl=>match us,hl with | [_],_=>rfl) ?a ?l ?c ?k
   (case a=>k_is);(case l=>k_is);(case c=>k_is);(case k=>k_is)
  obtain ⟨_,_,o3⟩:=o3
  have e0:=hmg.symm.trans o3.m
  cases e0
  exact ⟨_,o3.tI,fun base _ _=>L4.xD (My.zd T lM oi jR jS gs kQ jn fm jT ik gu jq jr il kR ip gw eI fq lO jU kS oj lP jV iq mI mJ jt gx ju kT kU jW iu jX eJ jY c6 kW jv jw o3) fun ns hn=>let ⟨_,st,e,h⟩:=My.su ns hn;⟨st,h ▸ e⟩⟩
 case S=>exact fun K H a ns hl hO hS=>⟨a,ns,rfl,hS.script hO,hl,fun _=>rfl⟩
 case C=>exact fun _ _ _ _ z=>z
