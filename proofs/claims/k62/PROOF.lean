import PyProof.Rows.All
import Wide.All
import OpenK.AllK
import Wide.FinOn
import Lean
import PyProof.EqAt
import PyProof.EqKinds
import PyProof.TupleCall
import PyProof.DictIter
import PyProof.EnumMake
import KE.KSortTup
import KE.KDictLaws
import KE.KDictSum
import PyProof.StrLawsTight
import KE.KIntText
import PyProof.MinMaxWalk
import PyProof.WalkInts
import KE.KIsAll
import PyProof.ExcInit
import PyProof.NsDelKeeps
import PyProof.ExcBaseAll.ValueError
import OpenK.KOwn
import PyProof.ExcAttrAll.ValueError
import PyProof.InstStoreFacts
import PyProof.NoPylong
import PySem.Challenge.RW_shearfloor_k62_whole_led_or_apart
set_option Elab.async false
set_option linter.all false
set_option maxRecDepth 100000
set_option maxHeartbeats 4000000
set_option genSizeOf false
noncomputable section
def Uu:=@List.length_map
def Uv:=@List.getElem?_eq_getElem
def Uw:=@List.getElem?_eq_some_iff
def Ux:=@Nat.le_refl
def Uy:=@List.mem_cons_self
def Uz:=@List.mem_cons_of_mem
def UA:=@List.getD_eq_getElem?_getD
def UB:=@List.getElem?_map
def UC:=@PySem.Heap.get?_push_of_some
def UD:=@Option.some.inj
def UE:=@Bool.false_ne_true
def UG:=@List.length_append
def UH:=@List.mem_map
def UI:=@List.size_toArray
def UJ:=@List.mem_of_getElem?
def UK:=@Int.toNat_natCast
def UL:=@List.getElem?_set_self
def UM:=@List.getElem?_append_left
def UN:=@PySem.Heap.lt_size
def UO:=@Bool.and_eq_true
def UP:=@List.mem_singleton
def UQ:=@PySem.Heap.get?_push_size
def UR:=@List.getElem?_append_right
def US:=@List.map_append
def UT:=@List.map_cons
def UU:=@List.mem_cons
def UW:=@List.map_map
def UX:=@List.getElem?_set_ne
def UY:=@Bool.false_eq_true
def UZ:=@Nat.le_trans
def U0:=@Int.toNat_of_nonneg
def U1:=@List.length_cons
def U2:=@List.take_succ_eq_append_getElem
def U3:=@Option.map_eq_some_iff
def U4:=@List.mem_append_right
def U5:=@List.mem_append
def U6:=@Nat.lt_of_lt_of_le
def U7:=@List.getElem?_eq_none_iff
def U8:=@Nat.zero_le
def U9:=@Nat.not_lt_zero
def Va:=@Nat.ne_of_lt
def Vb:=@List.getElem?_of_mem
def Vc:=@PySem.Heap.get?_update_other
def Vd:=@List.map_congr_left
def Ve:=@List.nodup_cons
def Vg:=@List.map_nil
def Vh:=@List.getElem_mem
def Vi:=@List.replicate_succ
def Vj:=@List.mem_range
def Vk:=@Array.getD_eq_getD_getElem?
def Vl:=@List.length_reverse
def Vm:=@List.getD_cons_succ
def Vn:=@List.getD_cons_zero
def Vo:=@List.length_set
def Vp:=@List.pairwise_iff_getElem
def Vq:=@Array.getElem?_toList
def Vr:=@List.getElem?_eq_none
def Vs:=@List.length_take
def Vt:=@Nat.lt_of_le_of_lt
def Vu:=@List.any_cons
def Vv:=@List.length_range
def Vw:=@List.foldl_append
def Vx:=@List.find?_cons
def Vy:=@Int.emod_nonneg
def Vz:=@Array.length_toList
def VA:=@List.getElem?_range
def VB:=@List.all_eq_true
def VC:=@PySem.Heap.get?_update_self
def VD:=@List.length_singleton
def VE:=@Int.emod_lt_of_pos
def VF:=@List.contains_iff_mem
def VG:=@List.append_nil
def VH:=@List.mem_erase_of_ne
def VI:=@Option.bind_eq_some_iff
def VJ:=@List.length_eq_zero_iff
def VL:=@PySem.Heap.SameBut.update
def VM:=@List.getElem_of_mem
def VN:=@List.lookup_cons
def VO:=@Nat.lt_succ_self
def VP:=@List.getElem_map
def VQ:=@List.mem_reverse
def VR:=@List.take_length
def VS:=@Nat.sub_self
def VT:=@List.mem_filter
def VU:=@List.flatten_cons
def VW:=@List.mem_append_left
def VX:=@List.drop_eq_getElem_cons
def VY:=@List.findIdx?_eq_some_iff_getElem
def VZ:=@PySem.Heap.size_push
def V0:=@Nat.le_of_lt
def V1:=@Option.isSome_iff_exists
def V2:=@Nat.lt_or_ge
def V3:=@Option.bind_some
def V4:=@List.getElem?_replicate
def V5:=@Nat.lt_irrefl
def V6:=@Bool.eq_iff_iff
def V7:=@Nat.le_succ
def V8:=@List.map_id
def V9:=@List.append_assoc
def Wa:=@List.pairwise_map
def Wb:=@List.length_replicate
def Wc:=@List.Perm.refl
def Wd:=@Nat.zero_add
def Wf:=@List.idxOf_lt_length_of_mem
def Wg:=@List.prefix_refl
def Wi:=@List.Pairwise.imp_of_mem
def Wj:=@Int.zero_add
def Wk:=@List.pairwise_cons
def Wl:=@List.ext_getElem?
def Wm:=@List.nodup_append
def Wn:=@List.drop_of_length_le
def Wo:=@Nat.le_of_not_lt
def Wq:=@Nat.le_of_ble_eq_true
def Wr:=@List.perm_cons_erase
def Wt:=@Bool.or_eq_true
def Wu:=@List.eq_nil_of_length_eq_zero
def Wv:=@List.filterMap_cons
def Ww:=@List.length_pos_iff
def Wx:=@List.drop_zero
def Wy:=@List.getElem_range
def Wz:=@List.getElem_idxOf
def WA:=@List.prefix_append
def WB:=@List.filter_append
def WD:=@Bool.xor_self
def WE:=@List.reverse_cons
def WG:=@Int.add_right_neg
def WH:=@List.getElem_inj
def WJ:=@Prod.ext
def WK:=@List.length_drop
def WL:=@Nat.lt_trans
def WM:=@List.any_eq_true
def WN:=@Nat.not_lt_of_le
def WO:=@List.ext_getElem
def WR:=@List.mem_flatMap
def WS:=@List.map_set
abbrev Zfr:=PySem.W.Frag
namespace L2
open PySem PySem.Spec PyProof.Rows
abbrev Key:=Sum Int Str
def mv:Key->Value->Bool
 | .inl k,v=>Value.isInt k v
 | .inr x,v=>Value.isStrOf x v
def FI (w:World):Key->Int
 | .inl k=>hashInt k
 | .inr x=>hashStr w x
theorem rR:∀ {k:Key} {v:Value},mv k v=true->(∃ i t,k=Sum.inl i/\v=Value.int i t)\/(∃ x t,k=Sum.inr x/\v=Value.str x t)
 | .inl i,v,h=>by
  obtain ⟨t,e⟩:=Value.isInt_shape (k:=i) (v:=v) h
  exact .inl ⟨i,t,rfl,e⟩
 | .inr x,v,h=>by
  obtain ⟨t,e⟩:=Value.isStrOf_shape (x:=x) (v:=v) h
  exact .inr ⟨x,t,rfl,e⟩
theorem MZ (i:Int) (t:Tok):mv (.inl i) (.int i t)=true:=by simp [mv,Value.isInt]
theorem M0 (x:Str) (t:Tok):mv (.inr x) (.str x t)=true:=by simp [mv,Value.isStrOf]
theorem uX (a b:Int):decide ((Sum.inl a:Key)=Sum.inl b)=(a == b):=by
 by_cases e:a=b
 ·subst e;simp
 ·have h:¬ (Sum.inl a:Key)=Sum.inl b:=fun q=>e (Sum.inl.inj q)
  rw [decide_eq_false h]
  exact (beq_eq_false_iff_ne.mpr e).symm
theorem uY (a b:Str):decide ((Sum.inr a:Key)=Sum.inr b)=decide (a=b):=by
 by_cases e:a=b
 ·subst e;simp
 ·have h:¬ (Sum.inr a:Key)=Sum.inr b:=fun q=>e (Sum.inr.inj q)
  rw [decide_eq_false h,decide_eq_false e]
theorem uZ (a:Int) (b:Str):decide ((Sum.inl a:Key)=Sum.inr b)=false:=decide_eq_false (fun q=>nomatch q)
theorem u3 (a:Str) (b:Int):decide ((Sum.inr a:Key)=Sum.inl b)=false:=decide_eq_false (fun q=>nomatch q)
def cW (prog:Program) (w:World):PySem.KeyKind prog w Key where
 is:=mv
 hash:=FI w
 inj:=fun v a b ha hb=>by
  rcases rR ha with ⟨i,t,rfl,rfl⟩ | ⟨x,t,rfl,rfl⟩
  ·rcases rR hb with ⟨j,u,rfl,e⟩ | ⟨y,u,rfl,e⟩
   ·injection e with e1 _;rw [e1]
   ·exact nomatch e
  ·rcases rR hb with ⟨j,u,rfl,e⟩ | ⟨y,u,rfl,e⟩
   ·exact nomatch e
   ·injection e with e1 _;rw [e1]
 byValue:=fun k v h=>by
  rcases rR h with ⟨i,t,rfl,rfl⟩ | ⟨x,t,rfl,rfl⟩ <;> rfl
 pyHash:=fun hv h=>by
  rcases rR hv with ⟨i,t,rfl,rfl⟩ | ⟨x,t,rfl,rfl⟩
  ·exact wpAny_pyHash_int h
  ·exact wpAny_pyHash_str h
 eqBool:=fun hu hv h=>by
  rcases rR hu with ⟨i,t,rfl,rfl⟩ | ⟨x,t,rfl,rfl⟩
  ·rcases rR hv with ⟨j,u,rfl,rfl⟩ | ⟨y,u,rfl,rfl⟩
   ·rw [uX] at h;exact wpAny_eqBool_int h
   ·rw [uZ] at h;exact SeqAt.EqAt.int_str i t y u _ _ _ _ h
  ·rcases rR hv with ⟨j,u,rfl,rfl⟩ | ⟨y,u,rfl,rfl⟩
   ·rw [u3] at h;exact SeqAt.EqAt.str_int x t j u _ _ _ _ h
   ·rw [uY] at h;exact wpAny_eqBool_str h
 «strs»:=fun k x t v h=>by
  rcases rR h with ⟨i,u,rfl,e⟩ | ⟨y,u,rfl,e⟩
  ·exact nomatch e
  ·injection e with e1 _
   subst e1
   cases v <;> rfl
theorem M1 (prog:Program) (w:World) (i:Int) (t:Tok):(cW prog w).is (.inl i) (.int i t)=true:=MZ i t
theorem M3 (prog:Program) (w:World) (x:Str) (t:Tok):(cW prog w).is (.inr x) (.str x t)=true:=M0 x t
inductive V where
 | non | bl (b:Bool) | int (i:Int) | str (x:Str) | qb (b:Array UInt8) | pD (b:UInt64) | ref (a:Addr) | ty (n:String)
 deriving DecidableEq
def RelV:V->Value->Prop
 | .non,u=>u=Value.none
 | .bl b,u=>u=Value.bool b
 | .int i,u=>∃ t,u=Value.int i t
 | .str x,u=>∃ t,u=Value.str x t
 | .qb b,u=>∃ t,u=Value.bytes b t
 | .pD b,u=>∃ t,u=Value.float b t
 | .ref a,u=>u=Value.ref a
 | .ty n,u=>u=Value.type n
abbrev Vals:List V->List Value->Prop:=Paired RelV
theorem Vals.length {xs:List V} {us:List Value} (r:Vals xs us):xs.length=us.length:=Paired.length r
theorem Vals.get:∀ {xs:List V} {us:List Value} {i:Nat} {x:V},Vals xs us->xs[i]?=some x->∃ u,us[i]?=some u/\RelV x u
 | _,_,_,_,.nil,e=>by simp at e
 | _,_,0,_,.cons r _,e=>by simp at e;subst e;exact ⟨_,rfl,r⟩
 | _,_,i + 1,x,.cons _ t,e=>by
  obtain ⟨u,h1,h2⟩:=Vals.get (i:=i) (x:=x) t (by simpa using e)
  exact ⟨u,by simpa using h1,h2⟩
theorem Vals.set {x:V} {u:Value} (r:RelV x u):∀ {xs:List V} {us:List Value} (i:Nat),Vals xs us->Vals (xs.set i x) (us.set i u)
 | _,_,_,.nil=>.nil
 | _,_,0,.cons _ t=>.cons r t
 | _,_,i + 1,.cons q t=>.cons q (Vals.set r i t)
theorem Vals.append:∀ {xs ys:List V} {us ws:List Value},Vals xs us->Vals ys ws->Vals (xs ++ ys) (us ++ ws)
 | _,_,_,_,.nil,s=>s
 | _,_,_,_,.cons r t,s=>.cons r (Vals.append t s)
theorem Vals.take:∀ {xs:List V} {us:List Value} (n:Nat),Vals xs us->Vals (xs.take n) (us.take n)
 | _,_,0,_=>.nil
 | _,_,_ + 1,.nil=>.nil
 | _,_,n + 1,.cons r t=>.cons r (Vals.take n t)
theorem Vals.drop:∀ {xs:List V} {us:List Value} (n:Nat),Vals xs us->Vals (xs.drop n) (us.drop n)
 | _,_,0,r=>r
 | _,_,_ + 1,.nil=>.nil
 | _,_,n + 1,.cons _ t=>Vals.drop n t
def pE:Option V->Option Value->Prop
 | some v,some u=>RelV v u
 | none,none=>True
 | _,_=>False
def KV {κ:Type}:List (κ×V)->List (κ×Value)->Prop:=Paired fun (p:κ×V) (q:κ×Value)=>p.1=q.1/\RelV p.2 q.2
def kV:Key->V
 | .inl i=>.int i
 | .inr x=>.str x
set_option genInjectivity false in
inductive HO where
 /-- a list -/
 | lst (xs:List V)
 /-- a tuple (never changes) -/
 | tup (xs:List V)
 /-- a dict whose keys are ints and texts;one whose keys are tuples of ints and texts (the empty one is both) -/
 | dK (kvs:List (Key×V)) | dT (kvs:List (List Key×V))
 /-- a set of ints: its members,its size -/
 | set (S:Int->Bool) (n:Nat)
 /-- an instance of the class at C,its dict at dx,its attributes -/
 | ins (C dx:Addr) (fs:List (Str×V))
 /-- the dict of the instance at x -/
 | own (x:Addr)
 /-- the dict of an exception -/
 | xd (fs:List (Str×V))
 /-- a bound method,f of x -/
 | met (f x:Addr)
 /-- a range object lo,lo + 1,.. below hi -/
 | iT (lo hi:Int)
 /-- a thing that is known to the object (the script;a dict while a loop walks it): read,never written while it is so -/
 | mJ (o:Obj) (u:HO)
 /-- a code zv table -/
 | u5 (ps:Array Value)
 /-- any other thing,by what is true of its one object (a def of Jd own: M4 a S n:=HO.ext fun h=>..) -/
 | ext (φ:Heap->Prop)
abbrev Hp:=Addr->Option HO
def upd (H:Hp) (a:Addr) (o:HO):Hp:=fun b=>if b=a then some o else H b
theorem pX {H:Hp} {a:Addr} {o:HO}:upd H a o a=some o:=by unfold upd;rw [if_pos rfl]
theorem jk {H:Hp} {a b:Addr} {o:HO} (h:b≠a):upd H a o b=H b:=by unfold upd;rw [if_neg h]
theorem FJ {H:Hp} {a b:Addr} {o u:HO} (h:H a=some o) (h':H b=some u) (d:o≠u):a≠b:=by
 intro e;subst e;rw [h] at h';exact d (UD h')
theorem yt {H:Hp} {a b:Addr} {o:HO} (h:H a=some o) (h':H b=none):a≠b:=by
 intro e;subst e;rw [h] at h';cases h'
def mK (h:Heap) (a:Addr) (its:Array Value):Prop:=∃ o,h.get? a=some o/\o.cls=.type "tuple" /\ o.dict=none/\∃ n,o.data=.seq its n
theorem mK.tup {h:Heap} {a:Addr} {its:Array Value} (x:mK h a its):IsTup h a its:=let ⟨o,e,c,_,n,d⟩:=x;⟨o,e,c,n,d⟩
theorem mK.new (h:Heap) (its:Array Value):mK (h.push { cls:=.type "tuple",data:=.seq its }) h.objs.size its:=⟨_,UQ _ rfl,rfl,rfl,_,rfl⟩
section
variable (P:Program) (w:World)
def cP (H:Hp) (h:Heap) (a:Addr):HO->Prop
 | .lst xs=>xs.length<=sizeLine/\∃ (its:List Value) (n:Nat),Vals xs its/\h.get? a=some { cls:=.type "list",data:=.seq its.toArray n }
 | .tup xs=>xs.length<=sizeLine/\∃ its:List Value,Vals xs its/\mK h a its.toArray
 | .dK kvs=>kvs.length<=sizeLine/\(a == sysModules)=false/\∃ vs,KV kvs vs/\h.DictOf (cW P w) a vs
 | .dT kvs=>kvs.length<=sizeLine/\(a == sysModules)=false/\∃ xs:List (List Key×Addr×Value),
   Paired (fun (p:List Key×V) (q:List Key×Addr×Value)=>p.1=q.1/\H q.2.1=some (.tup (p.1.map kV))/\RelV p.2 q.2.2) kvs xs /\
   ∃ o es ep,h.get? a=some o/\o.ExactDict/\o.data=.dict es ep/\es.toList=xs.map (entryOfKey (tupleKind (cW P w)))/\(xs.map (·.1)).Nodup
 | .set S n=>h.SetOf (intKind P w) a S n
 | .ins C dx fs=>H dx=some (.own a)/\fs.length<=1000/\dx≠a/\h.get? a=some (PySem.W.instObj C dx) /\
   ∃ mA,h.Ns1 dx mA/\(∀ f,pE (fs.lookup f) (mA f))/\PySem.Within mA (fs.map (·.1))
 | .own _=>∃ o,h.get? a=some o
 | .xd fs=>∃ mA,h.Ns1 a mA/\∀ f,pE (fs.lookup f) (mA f)
 | .iT lo hi=>∃ t u v,h.get? a=some { cls:=.type "range",data:=.fields #[.int lo t,.int hi u,.int 1 v] }
 | .mJ o u=>h.get? a=some o/\cP H h a u
 | .u5 ps=>h.get? a=some { cls:=.none,data:=.fields ps }
 | .met f x=>h.get? a=some (PySem.W.methodObj (.ref f) (.ref x))
 | .ext φ=>φ h/\(∃ o,h.get? a=some o)/\∀ h1 h2:Heap,φ h1->(∀ o,h1.get? a=some o->h2.get? a=some o)->φ h2
def kg (H:Hp) (h:Heap):Prop:=∀ a o,H a=some o->cP P w H h a o
end
section
variable {P:Program} {w:World} {H H':Hp} {h h':Heap} {a:Addr} {o:HO}
theorem cP.lt (x:cP P w H h a o):a < h.objs.size:=by
 cases o with
 | lst xs=>obtain ⟨_,_,_,_,e⟩:=x;exact UN e
 | tup xs=>obtain ⟨_,_,_,_,e,_⟩:=x;exact UN e
 | dK kvs=>obtain ⟨_,_,_,_,o,_,_,e,_⟩:=x;exact UN e
 | dT kvs=>obtain ⟨_,_,_,_,o,_,_,e,_⟩:=x;exact UN e
 | set S n=>obtain ⟨o,_,_,_,e,_⟩:=x;exact UN e
 | ins C dx fs=>obtain ⟨_,_,_,e,_⟩:=x;exact UN e
 | own y=>obtain ⟨_,e⟩:=x;exact UN e
 | xd fs=>obtain ⟨_,⟨_,_,_,e,_⟩,_⟩:=x;exact UN e
 | iT lo hi=>obtain ⟨_,_,_,e⟩:=x;exact UN e
 | mJ ob u=>obtain ⟨e,_⟩:=x;exact UN e
 | u5 ps=>exact UN (show h.get? a=some _ from x)
 | met f y=>exact UN (show h.get? a=some _ from x)
 | ext φ=>obtain ⟨_,⟨_,e⟩,_⟩:=x;exact UN e
theorem Paired.u6 {α β:Type} {F G:α->β->Prop}:∀ {l₁:List α} {l₂:List β},Paired F l₁ l₂->(∀ a b,F a b->G a b)->Paired G l₁ l₂
 | _,_,.nil,_=>.nil
 | _,_,.cons r t,f=>.cons (f _ _ r) (Paired.u6 t f)
theorem cP.stay (x:cP P w H h a o) (k:∀ b u,(b=a\/H b=some (.own a))->h.get? b=some u->h'.get? b=some u)
  (ho:∀ b,H b=some (.own a)->H' b=some (.own a)) (ht:∀ b xs,H b=some (.tup xs)->H' b=some (.tup xs)):cP P w H' h' a o:=by
 induction o with
 | lst xs=>obtain ⟨z,its,n,r,e⟩:=x;exact ⟨z,its,n,r,k _ _ (.inl rfl) e⟩
 | tup xs=>obtain ⟨z,its,r,ob,e,c⟩:=x;exact ⟨z,its,r,ob,k _ _ (.inl rfl) e,c⟩
 | dK kvs=>obtain ⟨z,y,vs,r,ob,es,ep,e,c⟩:=x;exact ⟨z,y,vs,r,ob,es,ep,k _ _ (.inl rfl) e,c⟩
 | dT kvs =>
  obtain ⟨z,y,xs,r,ob,es,ep,e,c⟩:=x
  exact ⟨z,y,xs,Paired.u6 r fun p q z=>⟨z.1,ht _ _ z.2.1,z.2.2⟩,ob,es,ep,k _ _ (.inl rfl) e,c⟩
 | set S n=>obtain ⟨ob,es,ep,t,e,c⟩:=x;exact ⟨ob,es,ep,t,k _ _ (.inl rfl) e,c⟩
 | ins C dx fs =>
  obtain ⟨d,z,ne,e,mA,⟨od,es,ep,e2,c⟩,r⟩:=x
  exact ⟨ho _ d,z,ne,k _ _ (.inl rfl) e,mA,⟨od,es,ep,k _ _ (.inr d) e2,c⟩,r⟩
 | own y=>obtain ⟨ob,e⟩:=x;exact ⟨ob,k _ _ (.inl rfl) e⟩
 | xd fs=>obtain ⟨mA,⟨od,es,ep,e,c⟩,r⟩:=x;exact ⟨mA,⟨od,es,ep,k _ _ (.inl rfl) e,c⟩,r⟩
 | iT lo hi=>obtain ⟨t,u,v,e⟩:=x;exact ⟨t,u,v,k _ _ (.inl rfl) e⟩
 | mJ ob u ih=>obtain ⟨e,q⟩:=x;exact ⟨k _ _ (.inl rfl) e,ih q⟩
 | u5 ps =>
  have e:h.get? a=some { cls:=.none,data:=.fields ps }:=x
  show h'.get? a=some { cls:=.none,data:=.fields ps }
  exact k a _ (.inl rfl) e
 | met f y =>
  have e:h.get? a=some (PySem.W.methodObj (.ref f) (.ref y)):=x
  show h'.get? a=some (PySem.W.methodObj (.ref f) (.ref y))
  exact k a _ (.inl rfl) e
 | ext φ=>obtain ⟨p,⟨o,e⟩,st⟩:=x;exact ⟨st _ _ p fun o q=>k _ _ (.inl rfl) q,⟨o,k _ _ (.inl rfl) e⟩,st⟩
theorem kg.lt (x:kg P w H h) (e:H a=some o):a < h.objs.size:=(x a o e).lt
theorem kg.fresh (x:kg P w H h) (e:h.objs.size<=a):H a=none:=by
 cases q:H a with
 | none=>rfl
 | some u=>exact absurd (U6 (x.lt q) e) (V5 _)
theorem kg.kept (x:kg P w H h) (k:∀ b u,h.get? b=some u->h'.get? b=some u):kg P w H h':=fun a o e =>
 (x a o e).stay (fun b u _ q=>k b u q) (fun _ q=>q) fun _ _ q=>q
theorem kg.laid (x:kg P w H h) (k:∀ b u,h.get? b=some u->h'.get? b=some u) (hp:h.objs.size<=a) (new:cP P w (upd H a o) h' a o):kg P w (upd H a o) h':=fun b u e=>by
 have hn:=x.fresh hp
 by_cases hb:b=a
 ·subst hb;rw [pX] at e;cases e;exact new
 ·rw [jk hb] at e
  exact (x b u e).stay (fun c v _ q=>k c v q) (fun c q=>by rw [jk (yt q hn)];exact q) fun c xs q=>by rw [jk (yt q hn)];exact q
end
def Rd (H:Hp) (a:Addr) (u:HO):Prop:=H a=some u\/∃ o,H a=some (.mJ o u)
theorem Rd.ok {P:Program} {w:World} {H:Hp} {h:Heap} {a:Addr} {u:HO} (r:Rd H a u) (x:kg P w H h):cP P w H h a u:=by
 rcases r with r | ⟨o,r⟩
 ·exact x a u r
 ·obtain ⟨_,q⟩:=x a _ r
  exact q
def zw:Option HO->Prop
 | some (.lst _)=>True
 | some (.dK _)=>True
 | some (.dT _)=>True
 | some (.set _ _)=>True
 | some (.ins _ _ _)=>True
 | some (.ext _)=>True
 | _=>False
section
variable {P:Program} {w:World} {H:Hp} {h h':Heap} {x e:Addr} {o':HO}
theorem kg.write (ok:kg P w H h) (mu:zw (H x)) (he:e=x\/H e=some (.own x)) (k:∀ b u,b≠e->h.get? b=some u->h'.get? b=some u) (yu:∃ u,h'.get? e=some u)
  (new:cP P w (upd H x o') h' x o'):kg P w (upd H x o') h':=fun b u q=>by
 have zx:∀ c y,H c=some (.own y)->c≠x:=fun c y r z=>by subst z;rw [r] at mu;exact mu
 have FK:∀ c xs,H c=some (.tup xs)->c≠x:=fun c xs r z=>by subst z;rw [r] at mu;exact mu
 by_cases hb:b=x
 ·subst hb;rw [pX] at q;cases q;exact new
 ·rw [jk hb] at q
  by_cases u7:b=e
  ·have q':H b=some (.own x):=by
    rcases he with z | z
    ·exact absurd (u7.trans z) hb
    ·rw [u7];exact z
   rw [q] at q';cases q'
   obtain ⟨v,hv⟩:=yu
   exact ⟨v,by rw [u7];exact hv⟩
  ·refine (ok b u q).stay (fun c v hc r=>k c v ?_ r) (fun c r=>by rw [jk (zx c b r)];exact r) fun c xs r=>by rw [jk (FK c xs r)];exact r
   rcases hc with rfl | hc
   ·exact u7
   ·rintro rfl
    rcases he with z | z
    ·exact zx c b hc z
    ·rw [hc] at z;cases z;exact hb rfl
end
structure Un (fs ex:List Addr) (H H':Hp) (h h':Heap):Prop where
 keep:∀ b o,h.get? b=some o->H b=none->b ∉ fs->b ∉ ex->h'.get? b=some o
 slot:∀ b o,h.get? b=some o->H b=none->b∈fs->b ∉ ex->∃ sl,h'.get? b=some { o with slots:=sl }
 free:∀ b o,h.get? b=some o->H b=none->b ∉ ex->H' b=none
 there:∀ b o,h.get? b=some o->b ∉ ex->∃ o',h'.get? b=some o'
 tups:∀ b xs,H b=some (.tup xs)->H' b=some (.tup xs)
 mL:∀ b o u,H b=some (.mJ o u)->H' b=some (.mJ o u)
 nL:∀ b ps,H b=some (.u5 ps)->∃ more,H' b=some (.u5 (ps ++ more))
section
variable {fs fs' ex ex':List Addr} {H H1 H2:Hp} {h h1 h2 h':Heap} {a x e:Addr} {o:HO}
theorem Un.any (u:Un fs ex H H1 h h1) {b:Addr} {ob:Obj} (q:h.get? b=some ob) (n:H b=none) (hx:b ∉ ex):∃ sl,h1.get? b=some { ob with slots:=sl }:=by
 by_cases hb:b∈fs
 ·exact u.slot b ob q n hb hx
 ·exact ⟨ob.slots,u.keep b ob q n hb hx⟩
theorem Un.kept (k:∀ b u,h.get? b=some u->h'.get? b=some u):Un fs ex H H h h' :=
 ⟨fun b ob q _ _ _=>k b ob q,fun b ob q _ _ _=>⟨ob.slots,k b ob q⟩,fun _ _ _ n _=>n,fun b ob q _=>⟨ob,k b ob q⟩,fun _ _ q=>q,fun _ _ _ q=>q,fun _ ps q=>⟨#[],by rw [q];simp⟩⟩
theorem Un.refl:Un fs ex H H h h:=Un.kept fun _ _ q=>q
theorem Un.laid (k:∀ b u,h.get? b=some u->h'.get? b=some u) (hp:h.objs.size<=a) (hn:H a=none):Un fs ex H (upd H a o) h h' where
 keep:=fun b u q _ _ _=>k b u q
 slot:=fun b u q _ _ _=>⟨u.slots,k b u q⟩
 free:=fun b u q n _=>by rw [jk (Va (U6 (UN q) hp))];exact n
 there:=fun b u q _=>⟨u,k b u q⟩
 tups:=fun b xs q=>by rw [jk (yt q hn)];exact q
 mL:=fun b u xs q=>by rw [jk (yt q hn)];exact q
 nL:=fun b ps q=>⟨#[],by rw [jk (yt q hn),q];simp⟩
theorem Un.write (mu:zw (H x)) (he:e=x\/H e=some (.own x)) (k:∀ b u,b≠e->h.get? b=some u->h'.get? b=some u) (yu:∃ u,h'.get? e=some u):Un fs ex H (upd H x o) h h':=by
 have hx:∀ b,H b=none->b≠x:=fun b n z=>by subst z;rw [n] at mu;exact mu
 have hb:∀ b,H b=none->b≠e:=fun b n z=>by
  subst z
  rcases he with r | r
  ·exact hx b n r
  ·rw [n] at r;cases r
 have hm:∀ b u,H b=some u->¬ zw (some u)->b≠x:=fun b u q nm z=>by subst z;rw [q] at mu;exact nm mu
 refine ⟨fun b u q n _ _=>k b u (hb b n) q,fun b u q n _ _=>⟨u.slots,k b u (hb b n) q⟩,fun b u q n _=>by rw [jk (hx b n)];exact n,fun b u q _=>?_,
  fun b xs q=>by rw [jk (hm b _ q fun z=>z)];exact q,fun b u xs q=>by rw [jk (hm b _ q fun z=>z)];exact q,fun b ps q=>⟨#[],by rw [jk (hm b _ q fun z=>z),q];simp⟩⟩
 by_cases u7:b=e
 ·subst u7;exact yu
 ·exact ⟨u,k b u u7 q⟩
end
def Dj (h:Heap) (H:Hp):List Addr:=(List.range h.objs.size).filter fun a=>(H a).isSome
def mM (h:Heap) (H:Hp):Heap:=PySem.W.hideAll h (Dj h H)
theorem M5 (h:Heap) (H:Hp):(mM h H).objs.size=h.objs.size:=PySem.W.hideAll_size _ _
theorem M6 {h:Heap} {H:Hp} {b:Addr} {o:Obj} (e:h.get? b=some o) (n:H b=none):(mM h H).get? b=some o :=
 PySem.W.hideAll_get _ e fun hm=>by
  have q:(H b).isSome=true:=(VT.mp hm).2
  rw [n] at q;simp at q
theorem M7 {h:Heap} {H:Hp} {b:Addr} {o:Obj} (e:(mM h H).get? b=some o):h.get? b=some o/\H b=none:=by
 have e':h.get? b=some o:=PySem.W.of_hideAll (Dj h H) e
 refine ⟨e',?_⟩
 cases q:H b with
 | none=>rfl
 | some x =>
  have hm:b∈Dj h H:=VT.mpr ⟨Vj.mpr (UN e'),by simp [q]⟩
  have z:(mM h H).get? b=none:=PySem.W.hideAll_none (Dj h H) hm
  rw [z] at e;cases e
def rS (g h:Heap) (L:Addr):List (Addr×Obj):=(List.range h.objs.size).filterMap fun a=>if a=L\/(g.get? a).isSome=true then none else (h.get? a).map fun o=>(a,o)
def rest (g h:Heap) (L d:Addr):List (Addr×Obj):=(rS g h L).filter fun p=>decide (p.1≠d)
structure Mod (K:Zfr) (mg:Str->Option Value) (base:Heap):Prop where
 FL:K.In base
 glob:base.Ns mainGlobals mg
 blt:∃ mb,base.Ns builtinsNs mb/\∀ x:Str,x≠"__name__" -> mb x=bootBuiltins x
 nolimit:base.NoLimit
set_option genInjectivity false in
structure Cx where
 prog:Program
 w:World
 K:Zfr
 mg:Str->Option Value
 base:Heap
 A:Around
 N:List Str
 s₀:Shared
 H₀:Hp
 env:Env
 outer:List Env
 stack:List Env
 ex:List Addr
 fn:Str->Bool
 calm:Bool
 pn:List (Addr×Obj)
 xe:Value->Shared->Prop
def frs (l:List Env):List Addr:=l.filterMap (·.frame)
abbrev Cx.fs (X:Cx):List Addr:=frs X.outer
def FN (sc:Scope) (x:Str):Prop:=sc.names.lookup x=some .local\/sc.names.lookup x=some .cell\/sc.names.lookup x=some .free
def Loc (sc:Scope) (x:Str):Prop:=sc.names.lookup x=some .local\/sc.names.lookup x=some .cell
def Look (env:Env) (h:Heap) (m:Str->Option Value) (x:Str) (u:Value):Prop :=
 (env.kindOf x=some .local/\m x=some u)\/((env.kindOf x=some .cell\/env.kindOf x=some .free)/\∃ c,env.cells.lookup x=some c/\h.IsCell c (some u))
structure Cx.Ok (X:Cx):Prop where
 mod:Mod X.K X.mg X.base
 kind:X.env.scope.kind=.function
 glob:X.env.globals=mainGlobals
 blt:X.env.builtins=builtinsNs
 above:X.s₀.heap.objs.size<=X.env.locals
 inj:∀ x y c,X.env.cells.lookup x=some c->X.env.cells.lookup y=some c->x=y
 has:∀ x,(X.env.kindOf x=some .cell\/X.env.kindOf x=some .free)->∃ c,X.env.cells.lookup x=some c
 zy:∀ x c,X.fn x=true->X.env.cells.lookup x=some c->X.s₀.heap.objs.size<=c
 hd:X.calm=true->X.A.handled=none
 frames:X.A.frames=some X.stack
 stk:X.stack=X.outer\/(X.stack=X.env :: X.outer/\X.env.frame=some X.env.locals)
 Je:∀ b∈X.ex,b≠X.env.locals/\∀ x c,X.env.cells.lookup x=some c->c≠b
 bs:∀ b o,X.base.get? b=some o->X.s₀.heap.get? b=some o/\X.H₀ b=none
 tq:X.base.objs.size<=X.s₀.heap.objs.size
 qc:∀ b o,X.base.get? b=some o->b ∉ X.ex
 rT:∀ b∈X.ex,b ∉ X.fs
 lF:X.s₀.heap.FunFrames X.base X.outer
 yw:∀ b∈X.fs,X.H₀ b=none
structure Inv (X:Cx) (pins:List (Addr×Obj)) (σ:List (Option V)) (H:Hp) (s:Shared):Prop where
 ok:X.Ok
 os:s.os=X.s₀.os
 bare:AllBare s.gens
 base:Un X.fs X.ex X.H₀ H X.s₀.heap s.heap
 loc:∃ m,s.heap.Ns X.env.locals m/\∀ (i:Nat) (x:Str) (v:V),X.N[i]?=some x->σ[i]?=some (some v)->FN X.env.scope x->∃ u,RelV v u/\Look X.env s.heap m x u
 cell:∀ x c,X.env.cells.lookup x=some c->∃ v,s.heap.IsCell c v
 free:H X.env.locals=none
 jJ:∀ x c,X.env.cells.lookup x=some c->H c=none
 pin:∀ p∈X.pn ++ pins,s.heap.get? p.1=some p.2/\H p.1=none/\p.1≠X.env.locals/\p.1 ∉ X.fs/\∀ v,p.2.data≠.cell v
 hok:kg X.prog X.w H s.heap
 len:σ.length=X.N.length
section
variable {X:Cx} {pins:List (Addr×Obj)} {σ:List (Option V)} {H H':Hp} {s:Shared} {h':Heap}
theorem Cx.Ok.FO (ok:X.Ok) {b:Addr} {o:Obj} (e:X.base.get? b=some o):b ∉ X.fs:=fun hb=>by
 have:=(ok.lF.mem hb).1
 rw [e] at this;cases this
theorem Inv.bs (I:Inv X pins σ H s):∀ b o,X.base.get? b=some o->s.heap.get? b=some o/\H b=none:=fun b o e =>
 ⟨I.base.keep b o (I.ok.bs b o e).1 (I.ok.bs b o e).2 (I.ok.FO e) (I.ok.qc b o e),I.base.free b o (I.ok.bs b o e).1 (I.ok.bs b o e).2 (I.ok.qc b o e)⟩
theorem Inv.bk (I:Inv X pins σ H s):∀ b o,X.base.get? b=some o->s.heap.get? b=some o:=fun b o e=>(I.bs b o e).1
theorem Inv.mod (I:Inv X pins σ H s):Mod X.K X.mg X.base:=I.ok.mod
theorem Inv.Dk (I:Inv X pins σ H s):X.K.In s.heap:=I.ok.mod.FL.keeps I.bk
theorem Inv.lt (I:Inv X pins σ H s):X.env.locals < s.heap.objs.size:=let ⟨_,hn,_⟩:=I.loc;hn.lt
theorem Inv.sz (I:Inv X pins σ H s):X.s₀.heap.objs.size<=s.heap.objs.size:=UZ I.ok.above (V0 I.lt)
theorem Inv.zz (I:Inv X pins σ H s) {a:Addr} (h:s.heap.objs.size<=a):a ∉ X.fs:=fun hb=>by
 obtain ⟨_,o,ho,_⟩:=I.ok.lF.mem hb
 exact absurd (U6 (UN ho) (UZ I.sz h)) (V5 _)
theorem Inv.u9 (I:Inv X pins σ H s):∀ x c,X.env.cells.lookup x=some c->c≠X.env.locals:=fun x c e z=>by
 obtain ⟨v,o,ho,hd⟩:=I.cell x c e
 obtain ⟨m,⟨o',es,ep,ho',hd',_⟩,_⟩:=I.loc
 rw [z,ho'] at ho;cases ho;rw [hd'] at hd;cases hd
theorem Inv.lF (I:Inv X pins σ H s):s.heap.FunFrames X.base X.outer:=by
 have all:∀ (l:List Env),(∀ b∈frs l,b∈X.fs)->X.s₀.heap.FunFrames X.base l->s.heap.FunFrames X.base l:=by
  intro l
  induction l with
  | nil=>intro _ _;trivial
  | cons env r ih =>
   intro hs hl
   obtain ⟨hk,⟨L,o,hf,hn,ho,hd⟩,hr⟩:=hl
   have hL:L∈X.fs:=hs L (by unfold frs;rw [Wv,hf];exact Uy)
   obtain ⟨sl,e⟩:=I.base.slot L o ho (I.ok.yw L hL) hL fun z=>I.ok.rT L z hL
   exact ⟨hk,⟨L,_,hf,hn,e,hd⟩,ih (fun b hb=>hs b (by unfold frs;rw [Wv,hf];exact Uz _ hb)) hr⟩
 exact all X.outer (fun _ hb=>hb) I.ok.lF
theorem Inv.stack (I:Inv X pins σ H s):s.heap.FunFrames X.base X.stack:=by
 rcases I.ok.stk with e | ⟨e,hf⟩
 ·rw [e];exact I.lF
 ·rw [e]
  obtain ⟨m,hn,_⟩:=I.loc
  refine .cons (by rw [I.ok.kind];decide) hf hn ?_ I.lF
  exact Heap.get?_none_of_le (UZ I.ok.tq I.ok.above)
theorem Inv.lG (I:Inv X pins σ H s):∀ b∈frs X.stack,b∈X.env.locals :: X.fs:=fun b hb=>by
 rcases I.ok.stk with e | ⟨e,hf⟩
 ·rw [e] at hb;exact Uz _ hb
 ·rw [e] at hb
  unfold frs at hb
  rw [Wv,hf] at hb
  exact hb
theorem Inv.oP (I:Inv X pins σ H s):∀ b∈frs X.stack,H b=none:=fun b hb=>by
 rcases UU.mp (I.lG b hb) with e | hb
 ·rw [e];exact I.free
 ·obtain ⟨_,o,ho,_⟩:=I.ok.lF.mem hb
  exact I.base.free b o ho (I.ok.yw b hb) fun z=>I.ok.rT b z hb
theorem Inv.step {g':Array GenState} {t':Nat} {d':Drawn} {ch:List Addr} (I:Inv X pins σ H s)
  (hch:∀ b∈ch,(b∈X.ex\/X.s₀.heap.objs.size<=b)/\b≠X.env.locals/\(∀ x c,X.env.cells.lookup x=some c->c≠b)/\∀ p∈X.pn ++ pins,p.1≠b)
  (keep:∀ b o,b≠X.env.locals->b ∉ X.fs->b ∉ ch->s.heap.get? b=some o->H b=none->h'.get? b=some o)
  (slot:∀ b o,b≠X.env.locals->b∈X.fs->b ∉ ch->s.heap.get? b=some o->H b=none->∃ sl,h'.get? b=some { o with slots:=sl }) (free:∀ b o,b ∉ ch->s.heap.get? b=some o->H b=none->H' b=none)
  (there:∀ b o,b ∉ ch->s.heap.get? b=some o->∃ o',h'.get? b=some o')
  (tups:∀ b xs,H b=some (.tup xs)->H' b=some (.tup xs)) (mL:∀ b o u,H b=some (.mJ o u)->H' b=some (.mJ o u)) (nL:∀ b ps,H b=some (.u5 ps)->∃ more,H' b=some (.u5 (ps ++ more)))
  (ns:∀ m,s.heap.Ns X.env.locals m->h'.Ns X.env.locals m) (hok:kg X.prog X.w H' h') (hg:AllBare g') :
  Inv X pins σ H' { s with heap:=h',gens:=g',drawn:=d',toks:=t' }:=by
 have va:∀ b o,X.s₀.heap.get? b=some o->b≠X.env.locals:=fun b o e=>Va (U6 (UN e) I.ok.above)
 have Dl:∀ b o,X.s₀.heap.get? b=some o->b ∉ X.ex->b ∉ ch:=fun b o e hx hb=>by
  rcases (hch b hb).1 with z | z
  ·exact hx z
  ·exact absurd (U6 (UN e) z) (V5 _)
 have cellK:∀ x c,X.env.cells.lookup x=some c->∀ v,s.heap.IsCell c v->h'.IsCell c v:=fun x c e v ⟨o,ho,hd⟩=>by
  have zA:c ∉ ch:=fun z=>(hch c z).2.2.1 x c e rfl
  by_cases hc:c∈X.fs
  ·obtain ⟨sl,q⟩:=slot c o (I.u9 x c e) hc zA ho (I.jJ x c e)
   exact ⟨_,q,hd⟩
  ·exact ⟨o,keep c o (I.u9 x c e) hc zA ho (I.jJ x c e),hd⟩
 refine ⟨I.ok,I.os,hg,⟨fun b o e n hb hx=>?_,fun b o e n hb hx=>?_,fun b o e n hx=>?_,fun b o e hx=>?_,fun b xs e=>tups b xs (I.base.tups b xs e),fun b o xs e=>mL b o xs (I.base.mL b o xs e),fun b ps e=>?_⟩,?_,fun x c e=>?_,?_,fun x c e=>?_,fun p hp=>?_,hok,I.len⟩
 ·exact keep b o (va b o e) hb (Dl b o e hx) (I.base.keep b o e n hb hx) (I.base.free b o e n hx)
 ·obtain ⟨sl,e1⟩:=I.base.slot b o e n hb hx
  obtain ⟨M8,e2⟩:=slot b _ (va b o e) hb (Dl b o e hx) e1 (I.base.free b o e n hx)
  exact ⟨M8,e2⟩
 ·obtain ⟨o',e1⟩:=I.base.there b o e hx
  exact free b o' (Dl b o e hx) e1 (I.base.free b o e n hx)
 ·obtain ⟨o',e1⟩:=I.base.there b o e hx
  exact there b o' (Dl b o e hx) e1
 ·obtain ⟨m1,e1⟩:=I.base.nL b ps e
  obtain ⟨m2,e2⟩:=nL b _ e1
  exact ⟨m1 ++ m2,by rw [e2,Array.append_assoc]⟩
 ·obtain ⟨m,hn,hl⟩:=I.loc
  refine ⟨m,ns m hn,fun i x v e1 e2 e3=>?_⟩
  obtain ⟨u,r,l⟩:=hl i x v e1 e2 e3
  refine ⟨u,r,?_⟩
  rcases l with l | ⟨k,c,e,z⟩
  ·exact .inl l
  ·exact .inr ⟨k,c,e,cellK x c e _ z⟩
 ·obtain ⟨v,z⟩:=I.cell x c e
  exact ⟨v,cellK x c e v z⟩
 ·obtain ⟨m,⟨o,_,_,ho,_⟩,_⟩:=I.loc
  exact free _ o (fun z=>(hch _ z).2.1 rfl) ho I.free
 ·obtain ⟨v,o,ho,hd⟩:=I.cell x c e
  exact free c o (fun z=>(hch c z).2.2.1 x c e rfl) ho (I.jJ x c e)
 ·obtain ⟨e,n,ne,nf,d⟩:=I.pin p hp
  have zA:p.1 ∉ ch:=fun z=>(hch p.1 z).2.2.2 p hp rfl
  exact ⟨keep p.1 p.2 ne nf zA e n,free p.1 p.2 zA e n,ne,nf,d⟩
theorem Inv.un {t':Nat} (I:Inv X pins σ H s) (u:Un X.fs [] H H' s.heap h') (hok:kg X.prog X.w H' h'):Inv X pins σ H' { s with heap:=h',toks:=t' }:=by
 obtain ⟨m,⟨o,es,ep,ho,r⟩,_⟩:=id I.loc
 obtain ⟨sl,hL⟩:=u.any ho I.free (by simp)
 exact I.step (g':=s.gens) (d':=s.drawn) (ch:=[]) (fun _ z=>nomatch z) (fun b o _ hb _ e n=>u.keep b o e n hb (by simp)) (fun b o _ hb _ e n=>u.slot b o e n hb (by simp)) (fun b o _ e n=>u.free b o e n (by simp)) (fun b o _ e=>u.there b o e (by simp)) u.tups u.mL u.nL (fun m' hm=>by
  obtain ⟨o',es',FP,ho',r'⟩:=hm
  rw [ho] at ho';cases ho'
  exact ⟨_,es',FP,hL,r'⟩) hok I.bare
theorem Inv.call {g':Array GenState} {t':Nat} {d':Drawn} {ch:List Addr} (I:Inv X pins σ H s) (u:Un (frs X.stack) ch H H' s.heap h') (hok:kg X.prog X.w H' h') (hg:AllBare g')
  (hch:∀ b∈ch,(b∈X.ex\/X.s₀.heap.objs.size<=b)/\b≠X.env.locals/\(∀ x c,X.env.cells.lookup x=some c->c≠b)/\∀ p∈X.pn ++ pins,p.1≠b) :
  Inv X pins σ H' { s with heap:=h',gens:=g',drawn:=d',toks:=t' }:=by
 obtain ⟨m,⟨o,es,ep,ho,r⟩,_⟩:=id I.loc
 obtain ⟨sl,hL⟩:=u.any ho I.free fun z=>(hch _ z).2.1 rfl
 exact I.step (ch:=ch) hch (fun b o hL hb hc e n=>u.keep b o e n (fun z=>(UU.mp (I.lG b z)).elim hL hb) hc) (fun b o _ _ hc e n=>u.any e n hc) (fun b o hc e n=>u.free b o e n hc) (fun b o hc e=>u.there b o e hc) u.tups u.mL u.nL (fun m' hm=>by
  obtain ⟨o',es',FP,ho',r'⟩:=hm
  rw [ho] at ho';cases ho'
  exact ⟨_,es',FP,hL,r'⟩) hok hg
theorem Inv.turned {t':Nat} {it:Addr} (I:Inv X pins σ H s) (k:∀ b o,b≠it->s.heap.get? b=some o->h'.get? b=some o) (hn:H it=none) (hL:it≠X.env.locals)
  (h1:it∈X.ex\/X.s₀.heap.objs.size<=it) (h2:∀ x c,X.env.cells.lookup x=some c->c≠it) (h3:∀ p∈X.pn ++ pins,p.1≠it):Inv X pins σ H { s with heap:=h',toks:=t' }:=by
 have zB:∀ b u,H b=some u->b≠it:=fun b u e z=>by rw [z,hn] at e;cases e
 refine I.step (g':=s.gens) (d':=s.drawn) (ch:=[it]) (fun b hb=>?_) (fun b o _ _ hc e _=>k b o (fun z=>hc (by simp [z])) e) (fun b o _ _ hc e _=>⟨o.slots,k b o (fun z=>hc (by simp [z])) e⟩) (fun _ _ _ _ n=>n)
  (fun b o hc e=>⟨o,k b o (fun z=>hc (by simp [z])) e⟩) (fun _ _ e=>e) (fun _ _ _ e=>e) (fun b ps e=>⟨#[],by rw [e];simp⟩) (fun m hm=>?_) (fun b u e=>?_) I.bare
 ·have e:b=it:=by simpa using hb
  subst e
  exact ⟨h1,hL,h2,h3⟩
 ·obtain ⟨o,es,ep,ho,r⟩:=hm
  exact ⟨o,es,ep,k _ o (Ne.symm hL) ho,r⟩
 ·refine (I.hok b u e).stay (fun c v hc q=>k c v ?_ q) (fun _ q=>q) fun _ _ q=>q
  rcases hc with z | z
  ·rw [z];exact zB b u e
  ·exact zB c _ z
theorem Inv.tok (I:Inv X pins σ H s) (t:Nat):Inv X pins σ H { s with toks:=t }:=I.un (h':=s.heap) (t':=t) Un.refl I.hok
theorem Inv.kept {t':Nat} (I:Inv X pins σ H s) (k:∀ b u,s.heap.get? b=some u->h'.get? b=some u):Inv X pins σ H { s with heap:=h',toks:=t' }:=I.un (Un.kept k) (I.hok.kept k)
theorem Inv.laid {a:Addr} {o:HO} {t':Nat} (I:Inv X pins σ H s) (k:∀ b u,s.heap.get? b=some u->h'.get? b=some u) (hp:s.heap.objs.size<=a) (new:cP X.prog X.w (upd H a o) h' a o) :
  Inv X pins σ (upd H a o) { s with heap:=h',toks:=t' }:=I.un (Un.laid k hp (I.hok.fresh hp)) (I.hok.laid k hp new)
theorem Inv.write {x e:Addr} {o:HO} {t':Nat} (I:Inv X pins σ H s) (mu:zw (H x)) (he:e=x\/H e=some (.own x)) (k:∀ b u,b≠e->s.heap.get? b=some u->h'.get? b=some u) (yu:∃ u,h'.get? e=some u)
  (new:cP X.prog X.w (upd H x o) h' x o):Inv X pins σ (upd H x o) { s with heap:=h',toks:=t' }:=I.un (Un.write mu he k yu) (I.hok.write mu he k yu new)
theorem Inv.lj {tu:List (Addr×Obj)} (I:Inv X pins σ H s) (h:∀ p∈tu,s.heap.get? p.1=some p.2/\H p.1=none/\p.1≠X.env.locals/\p.1 ∉ X.fs/\∀ v,p.2.data≠.cell v):Inv X tu σ H s :=
 ⟨I.ok,I.os,I.bare,I.base,I.loc,I.cell,I.free,I.jJ,fun p hp=>(U5.mp hp).elim (fun z=>I.pin p (VW _ z)) (h p),I.hok,I.len⟩
theorem Jf {N:List Str} (hN:N.Nodup) {i j:Nat} {x:Str} (a:N[i]?=some x) (b:N[j]?=some x):i=j:=by
 obtain ⟨h1,e1⟩:=Uw.mp a
 obtain ⟨h2,e2⟩:=Uw.mp b
 exact (WH hN).mp (e1.trans e2.symm)
theorem Jg {M:Model} {A:Around} {E:Value->Shared->Prop} {i:Nat} {x:Str} {v:V} {u:Value} {Q:Unit->Shared->Prop} (I:Inv X pins σ H s) (hN:X.N.Nodup) (hi:X.N[i]?=some x) (hx:Loc X.env.scope x) (r:RelV v u)
  (h:∀ s',Inv X pins (σ.set i (some v)) H s'->(∃ a,Heap.SameBut a s.heap s'.heap/\(a=X.env.locals\/X.env.cells.lookup x=some a))->Q () s') (hf:X.fn x=true\/X.env.scope.names.lookup x=some .local:=by first | exact .inl rfl | exact .inr rfl | assumption):wpAny M A (storeName X.env x u) Q E s:=by
 obtain ⟨m,hn,hl⟩:=id I.loc
 have hcls:(X.env.scope.kind == .class || (X.env.scope.kind == .module && X.env.locals != X.env.globals))=false:=by rw [I.ok.kind];rfl
 have hiσ:i < σ.length:=by rw [I.len];exact (Uw.mp hi).1
 have u9:=I.u9
 have tracked:∀ {a:Addr} {h':Heap},(∃ o,s.heap.get? a=some o/\H a=none)->Heap.SameBut a s.heap h'->kg X.prog X.w H h':=fun {a h'} ha hs b ob e=>by
  obtain ⟨_,_,hfree⟩:=ha
  refine (I.hok b ob e).stay (fun c w' hc q=>(hs.2 c ?_).trans q) (fun _ q=>q) fun _ _ q=>q
  rintro rfl
  rcases hc with rfl | hc
  ·rw [hfree] at e;cases e
  ·rw [hfree] at hc;cases hc
 rcases hx with hk | hk
 ·refine wpAny_storeName_local hk hn (fun h' hn' hs=>?_) hcls
  obtain ⟨oL,_,_,Dn,_⟩:=id hn
  refine h _ ⟨I.ok,I.os,I.bare,⟨fun b o e n hb hx=>?_,fun b o e n hb hx=>?_,I.base.free,fun b o e hx=>?_,I.base.tups,I.base.mL,I.base.nL⟩,⟨_,hn',fun j y v' e1 e2 e3=>?_⟩,fun y c e=>?_,I.free,I.jJ,fun p hp=>?_,tracked ⟨oL,Dn,I.free⟩ hs,by simpa using I.len⟩ ⟨_,hs,.inl rfl⟩
  ·exact (hs.2 b (Va (U6 (UN e) I.ok.above))).trans (I.base.keep b o e n hb hx)
  ·obtain ⟨sl,e1⟩:=I.base.slot b o e n hb hx
   exact ⟨sl,(hs.2 b (Va (U6 (UN e) I.ok.above))).trans e1⟩
  ·obtain ⟨o',e1⟩:=I.base.there b o e hx
   exact ⟨o',(hs.2 b (Va (U6 (UN e) I.ok.above))).trans e1⟩
  ·by_cases hj:j=i
   ·subst hj
    rw [hi] at e1;cases e1
    rw [UL hiσ] at e2
    cases e2
    exact ⟨u,r,.inl ⟨hk,by simp⟩⟩
   ·rw [UX (Ne.symm hj)] at e2
    obtain ⟨u',r',q⟩:=hl j y v' e1 e2 e3
    refine ⟨u',r',?_⟩
    rcases q with ⟨k,e⟩ | ⟨k,c,e,z⟩
    ·refine .inl ⟨k,?_⟩
     have:y≠x:=fun e=>hj (Jf hN e1 (e ▸ hi))
     simp [this,e]
    ·exact .inr ⟨k,c,e,z.sameBut hs (u9 y c e)⟩
  ·obtain ⟨w',z⟩:=I.cell y c e
   exact ⟨w',z.sameBut hs (u9 y c e)⟩
  ·obtain ⟨e,n,ne,nf,d⟩:=I.pin p hp
   exact ⟨(hs.2 p.1 ne).trans e,n,ne,nf,d⟩
 ·have hfn:X.fn x=true:=by
   rcases hf with z | z
   ·exact z
   ·rw [z] at hk;cases hk
  obtain ⟨c,hc⟩:=I.ok.has x (.inl hk)
  obtain ⟨w',z⟩:=I.cell x c hc
  refine wpAny_storeName_cell I.ok.kind hk hc z (fun h' hc' hs=>?_)
  obtain ⟨oc,hoc,FQ⟩:=id z
  refine h { s with heap:=h' } ⟨I.ok,I.os,I.bare,⟨fun b o e n hb hx=>?_,fun b o e n hb hx=>?_,I.base.free,fun b o e hx=>?_,I.base.tups,I.base.mL,I.base.nL⟩,⟨m,hn.sameBut hs (Ne.symm (u9 x c hc)),fun j y v' e1 e2 e3=>?_⟩,fun y c' e=>?_,I.free,I.jJ,fun p hp=>?_,tracked ⟨oc,hoc,I.jJ x c hc⟩ hs,by simpa using I.len⟩ ⟨c,hs,.inr hc⟩
  ·exact (hs.2 b (Va (U6 (UN e) (I.ok.zy x c hfn hc)))).trans (I.base.keep b o e n hb hx)
  ·obtain ⟨sl,e1⟩:=I.base.slot b o e n hb hx
   exact ⟨sl,(hs.2 b (Va (U6 (UN e) (I.ok.zy x c hfn hc)))).trans e1⟩
  ·obtain ⟨o',e1⟩:=I.base.there b o e hx
   exact ⟨o',(hs.2 b (Va (U6 (UN e) (I.ok.zy x c hfn hc)))).trans e1⟩
  ·by_cases hj:j=i
   ·subst hj
    rw [hi] at e1;cases e1
    rw [UL hiσ] at e2
    cases e2
    exact ⟨u,r,.inr ⟨.inl hk,c,hc,hc'⟩⟩
   ·rw [UX (Ne.symm hj)] at e2
    obtain ⟨u',r',q⟩:=hl j y v' e1 e2 e3
    refine ⟨u',r',?_⟩
    rcases q with q | ⟨k,c',e,z'⟩
    ·exact .inl q
    ·refine .inr ⟨k,c',e,z'.sameBut hs ?_⟩
     rintro rfl
     exact hj (Jf hN e1 (I.ok.inj _ _ _ e hc ▸ hi))
  ·by_cases hcc:c'=c
   ·subst hcc;exact ⟨_,hc'⟩
   ·obtain ⟨w2,z2⟩:=I.cell y c' e
    exact ⟨w2,z2.sameBut hs hcc⟩
  ·obtain ⟨e,n,ne,nf,d⟩:=I.pin p hp
   refine ⟨(hs.2 p.1 ?_).trans e,n,ne,nf,d⟩
   intro q
   rw [q,hoc] at e
   have q':oc=p.2:=UD e
   exact d w' (by rw [<- q'];exact FQ)
theorem Dp {M:Model} {A:Around} {E:Value->Shared->Prop} {i:Nat} {x:Str} {v:V} {u:Value} {Q:Unit->Shared->Prop} (I:Inv X pins σ H s) (hN:X.N.Nodup) (hi:X.N[i]?=some x) (hx:Loc X.env.scope x) (r:RelV v u)
  (h:∀ s',Inv X pins (σ.set i (some v)) H s'->Q () s') (hf:X.fn x=true\/X.env.scope.names.lookup x=some .local:=by first | exact .inl rfl | exact .inr rfl | assumption):wpAny M A (storeName X.env x u) Q E s :=
 Jg I hN hi hx r (fun s' I' _=>h s' I') hf
theorem Inv.zC {s':Shared} {ch:List Addr} (I:Inv X pins σ H s) (ho:s'.os=s.os) (u:Un (frs X.stack) ch H H' s.heap s'.heap) (hok:kg X.prog X.w H' s'.heap) (hg:AllBare s'.gens)
  (hch:∀ b∈ch,(b∈X.ex\/X.s₀.heap.objs.size<=b)/\b≠X.env.locals/\(∀ x c,X.env.cells.lookup x=some c->c≠b)/\∀ p∈X.pn ++ pins,p.1≠b):Inv X pins σ H' s':=by
 obtain ⟨h',g',d',t',o'⟩:=s'
 have e:o'=s.os:=ho
 subst e
 exact I.call (g':=g') (t':=t') (d':=d') u hok hg hch
end
abbrev XK:=Value->Option Addr->Hp->Prop
abbrev St:=List (Option V)
abbrev VK:=V->Hp->Prop
abbrev TE:=St->Hp->VK->Prop
abbrev TT:=St->Hp->(Bool->Hp->Prop)->Prop
abbrev TA:=St->Hp->(List V->Hp->Prop)->Prop
set_option genInjectivity false in
structure Ends where
 nx:St->Hp->Prop
 rt:VK
 bk:St->Hp->Prop:=fun _ _=>False
 ct:St->Hp->Prop:=fun _ _=>False
abbrev TS:=Ends->St->Hp->Prop
def EP (X:Cx) (pins:List (Addr×Obj)) (σ:St) (Q:VK) (u:Value) (s':Shared):Prop:=∃ v H',Inv X pins σ H' s'/\RelV v u/\Q v H'
def TP (X:Cx) (pins:List (Addr×Obj)) (σ:St) (Q:Bool->Hp->Prop) (b:Bool) (s':Shared):Prop:=∃ H',Inv X pins σ H' s'/\Q b H'
def AP (X:Cx) (pins:List (Addr×Obj)) (σ:St) (Q:List V->Hp->Prop) (us:List Value) (s':Shared):Prop:=∃ vs H',Inv X pins σ H' s'/\Vals vs us/\Q vs H'
def SP (X:Cx) (pins:List (Addr×Obj)) (D:Ends) (f:Flow) (s':Shared):Prop :=
 match f with
 | .next=>∃ σ' H',Inv X pins σ' H' s'/\D.nx σ' H'
 | .brk=>∃ σ' H',Inv X pins σ' H' s'/\D.bk σ' H'
 | .cont=>∃ σ' H',Inv X pins σ' H' s'/\D.ct σ' H'
 | .ret u=>∃ v σ' H',Inv X pins σ' H' s'/\RelV v u/\D.rt v H'
def PE (X:Cx) (e:Expr) (t:TE):Prop :=
 ∀ (pins:List (Addr×Obj)) (s:Shared) (σ:St) (H:Hp) (Q:VK),Inv X pins σ H s->t σ H Q->wpAny (model X.prog X.w) X.A (eval e X.env) (EP X pins σ Q) X.xe s
def PT (X:Cx) (e:Expr) (t:TT):Prop :=
 ∀ (pins:List (Addr×Obj)) (s:Shared) (σ:St) (H:Hp) (Q:Bool->Hp->Prop),Inv X pins σ H s->t σ H Q->wpAny (model X.prog X.w) X.A (isTrue e X.env (eval e X.env)) (TP X pins σ Q) X.xe s
def PW (X:Cx) (e:Expr) (t:TT):Prop :=
 ∀ (whole:Sem Value) (pins:List (Addr×Obj)) (s:Shared) (σ:St) (H:Hp) (Q:Bool->Hp->Prop),Inv X pins σ H s->t σ H Q->wpAny (model X.prog X.w) X.A (isTrue e X.env whole) (TP X pins σ Q) X.xe s
theorem PW.pt {X:Cx} {e:Expr} {t:TT} (h:PW X e t):PT X e t:=h _
def PA (X:Cx) (es:List Expr) (t:TA):Prop :=
 ∀ (pos:Pos) (pins:List (Addr×Obj)) (s:Shared) (σ:St) (H:Hp) (Q:List V->Hp->Prop),Inv X pins σ H s->t σ H Q->wpAny (model X.prog X.w) X.A (spliced (backTo pos (starEach es X.env))) (AP X pins σ Q) X.xe s
def PS (X:Cx) (st:Stmt) (t:TS):Prop :=
 ∀ (pins:List (Addr×Obj)) (s:Shared) (σ:St) (H:Hp) (D:Ends),Inv X pins σ H s->t D σ H->wpAny (model X.prog X.w) X.A (exec st X.env) (SP X pins D) X.xe s
def oQ (X:Cx) (st:List Stmt) (t:TS):Prop :=
 ∀ (pins:List (Addr×Obj)) (s:Shared) (σ:St) (H:Hp) (D:Ends),Inv X pins σ H s->t D σ H->wpAny (model X.prog X.w) X.A (execs st X.env) (SP X pins D) X.xe s
theorem cQ {α:Type} {t:Sem α} {Q Q':α->Shared->Prop} {M:Model} {A:Around} {E:Value->Shared->Prop} {s:Shared} (h:wpAny M A t Q E s) (hQ:∀ a s,Q a s->Q' a s):wpAny M A t Q' E s:=wpAny_mono h hQ fun _ _ x=>x
section
variable {X:Cx}
def vd (i:Nat):TE:=fun σ H Q=>∃ v,σ[i]?=some (some v)/\Q v H
def tC (v:V):TE:=fun _ H Q=>Q v H
theorem ve {i:Nat} {x:Str} {pos:Pos} (hN:X.N[i]?=some x) (hv:FN X.env.scope x) (hd:(x == ("__debug__" : Str))=false:=by decide) (hcd:(x == ("__classdict__" : Str))=false:=by decide):PE X (.Name x pos) (vd i):=by
 intro pins s σ H Q I h
 obtain ⟨v,e,h⟩:=h
 obtain ⟨m,hn,hl⟩:=I.loc
 obtain ⟨u,r,l⟩:=hl i x v hN e hv
 have fin:EP X pins σ Q u s:=⟨v,H,I,r,h⟩
 rcases l with ⟨hk,hm⟩ | ⟨hk,c,hc,hcell⟩
 ·exact wpAny_Name (wpAny_loadName_local I.ok.kind hk hn hm fin) hd
 ·rcases hk with hk | hk
  ·exact wpAny_Name (wpAny_loadName_cell I.ok.kind hk hc hcell fin) hd
  ·exact wpAny_Name (wpAny_loadName_free I.ok.kind hk hc hcell fin hcd) hd
theorem aR {i j pos}:PE X (.Constant (.int i) j pos) (tC (.int i)):=fun _ _ _ H _ I h=>wpAny_Constant_int ⟨.int i,H,I.tok _,⟨_,rfl⟩,h⟩
theorem nM {b j pos}:PE X (.Constant (.bool b) j pos) (tC (.bl b)):=fun _ _ _ H _ I h=>Constant_bool ⟨.bl b,H,I,rfl,h⟩
theorem pF {x j pos}:PE X (.Constant (.str x) j pos) (tC (.str x)):=fun _ _ _ H _ I h=>Calls.Constant_str ⟨.str x,H,I.tok _,⟨_,rfl⟩,h⟩
def Gl (X:Cx) (x:Str):Prop:=X.env.kindOf x=some .globalImplicit
theorem Jh {E:Value->Shared->Prop} {pins:List (Addr×Obj)} {s:Shared} {σ:St} {H:Hp} {x:Str} {u:Value} {pos:Pos} {Q:Value->Shared->Prop} (I:Inv X pins σ H s) (hg:Gl X x) (hm:X.mg x=some u) (h:Q u s)
  (hd:(x == ("__debug__" : Str))=false:=by decide):wpAny (model X.prog X.w) X.A (eval (.Name x pos) X.env) Q E s :=
 Calls.Name_function_global I.ok.kind hg (Calls.loadGlobal_global (by rw [I.ok.glob];exact I.mod.glob.keeps I.bk) hm h) hd
theorem yx {E:Value->Shared->Prop} {pins:List (Addr×Obj)} {s:Shared} {σ:St} {H:Hp} {x:Str} {u:Value} {pos:Pos} {Q:Value->Shared->Prop} (I:Inv X pins σ H s) (hg:Gl X x) (hm:X.mg x=none) (hv:bootBuiltins x=some u) (h:Q u s)
  (hn:x≠"__name__" := by decide) (hd:(x == ("__debug__" : Str))=false:=by decide):wpAny (model X.prog X.w) X.A (eval (.Name x pos) X.env) Q E s:=by
 obtain ⟨mb,h1,h2⟩:=I.mod.blt
 exact Calls.Name_function_global I.ok.kind hg (Calls.loadGlobal_builtin (by rw [I.ok.glob];exact I.mod.glob.keeps I.bk) hm (by rw [I.ok.blt];exact h1.keeps I.bk) ((h2 x hn).trans hv) h) hd
theorem M9 {x:Str} {v:V} {u:Value} {pos:Pos} (hg:Gl X x) (hm:X.mg x=some u) (r:RelV v u) (hd:(x == ("__debug__" : Str))=false:=by decide):PE X (.Name x pos) (tC v) :=
 fun _ _ _ H _ I h=>Jh I hg hm ⟨v,H,I,r,h⟩ hd
variable {a b:Expr} {ta tb:TE} {pos:Pos}
def PC (X:Cx) (op:CmpOp) (a b:Expr) (t:TE):Prop :=
 ∀ (pins:List (Addr×Obj)) (s:Shared) (σ:St) (H:Hp) (Q:VK),Inv X pins σ H s->t σ H Q ->
  wpAny (model X.prog X.w) X.A (eval a X.env) (fun v s₁=>wpAny (model X.prog X.w) X.A (eval b X.env) (fun u s₂=>wpAny (model X.prog X.w) X.A (compareOp op v u) (EP X pins σ Q) X.xe s₂) X.xe s₁) X.xe s
theorem qd (b:Expr) {op:CmpOp} (h:op≠.In) (h2:op≠.NotIn):behindInMarks op b=false:=by
 have e1:(op == CmpOp.In)=false:=by cases op <;> first | rfl | exact absurd rfl h
 have e2:(op == CmpOp.NotIn)=false:=by cases op <;> first | rfl | exact absurd rfl h2
 cases b <;> simp [behindInMarks,e1,e2]
def tB (t:TE):TT:=fun σ H Q=>t σ H fun x H1=>∃ c,x=.bl c/\Q c H1
theorem vf {op:CmpOp} {t:TE} (h:PC X op a b t) (h1:behindInMarks op b=false:=by first | exact qd _ (by decide) (by decide) | rfl):PT X (.Compare a [op] [b] pos) (tB t):=by
 intro pins s σ H Q I hw
 refine wpAny_isTrue_Compare1 (cQ (h pins s σ H _ I hw) fun v s1 h1=>cQ h1 fun u s2 h2=>cQ h2 fun c s3 ⟨x,H1,I1,r1,q1⟩=>?_) h1
 obtain ⟨d,rfl,q⟩:=q1
 cases r1
 exact wpAny_truthy_bool ⟨H1,I1,q⟩
theorem FR {e:Expr} {t:TE} (h:PE X e t) (he:∀ whole,isTrue e X.env whole=(do let v <- whole;standAt e.pos;holding [v] (truthy v)):=by intro _;rfl):PT X e (tB t):=by
 intro pins s σ H Q I hw
 refine isTrue_plain (cQ (h pins s σ H _ I hw) fun v s1 ⟨x,H1,I1,r1,q1⟩=>?_) (he _)
 obtain ⟨d,rfl,q⟩:=q1
 cases r1
 exact wpAny_truthy_bool ⟨H1,I1,q⟩
variable {tA Dq:TT} {rest:List Expr}
def zD (t u:TT):TT:=fun σ H Q=>t σ H fun c H1=>if c=true then u σ H1 Q else Q false H1
def Ji (t u:TT):TT:=fun σ H Q=>t σ H fun c H1=>if c=true then Q true H1 else u σ H1 Q
def zE (t:TT):TT:=fun σ H Q=>t σ H fun c H1=>Q (!c) H1
theorem Dr (ha:PT X a tA):PW X (.BoolOp .And [a] pos) tA:=by
 intro wh pins s σ H Q I h
 refine isTrue_and (cQ (ha pins s σ H Q I h) fun c s1 e=>?_)
 cases c with
 | true=>exact isTrue_and_nil e
 | false=>exact e
theorem Ds (ha:PT X a tA):PW X (.BoolOp .Or [a] pos) tA:=by
 intro wh pins s σ H Q I h
 refine isTrue_or (cQ (ha pins s σ H Q I h) fun c s1 e=>?_)
 cases c with
 | false=>exact isTrue_or_nil e
 | true=>exact e
theorem Dt (ha:PT X a tA) (hb:PW X (.BoolOp .And (b :: rest) pos) Dq):PW X (.BoolOp .And (a :: b :: rest) pos) (zD tA Dq):=by
 intro wh pins s σ H Q I h
 refine isTrue_and (cQ (ha pins s σ H _ I h) fun c s1 ⟨H1,I1,q1⟩=>?_)
 cases c with
 | true=>exact hb wh pins s1 σ H1 Q I1 q1
 | false=>exact ⟨H1,I1,q1⟩
theorem Du (ha:PT X a tA) (hb:PW X (.BoolOp .Or (b :: rest) pos) Dq):PW X (.BoolOp .Or (a :: b :: rest) pos) (Ji tA Dq):=by
 intro wh pins s σ H Q I h
 refine isTrue_or (cQ (ha pins s σ H _ I h) fun c s1 ⟨H1,I1,q1⟩=>?_)
 cases c with
 | true=>exact ⟨H1,I1,q1⟩
 | false=>exact hb wh pins s1 σ H1 Q I1 q1
theorem FT (ha:PT X a tA):PT X (.UnaryOp .Not a pos) (zE tA):=by
 intro pins s σ H Q I h
 exact isTrue_not (ha pins s σ H (fun c H1=>Q (!c) H1) I h)
def tw (ta tb:TE):TE:=fun σ H Q=>ta σ H fun x H1=>∃ c,x=.bl c/\if c=true then tb σ H1 Q else Q (.bl false) H1
theorem Jj {op} {t:TE} (h:PE X a t):PE X (.BoolOp op [a] pos) t:=fun pins s σ H Q I hw=>BoolOp_one (h pins s σ H Q I hw)
theorem FU (ha:PE X a ta) (hb:PE X (.BoolOp .And (b :: rest) pos) tb):PE X (.BoolOp .And (a :: b :: rest) pos) (tw ta tb):=by
 intro pins s σ H Q I h
 refine BoolOp_and (cQ (ha pins s σ H _ I h) fun v s1 ⟨x,H1,I1,r1,q1⟩=>?_)
 obtain ⟨c,rfl,q1⟩:=q1
 cases r1
 refine wpAny_truthy_bool ?_
 cases c with
 | true=>exact hb pins s1 σ H1 Q I1 q1
 | false=>exact ⟨.bl false,H1,I1,rfl,q1⟩
end
def iN (K:Zfr) (H:Hp) (a:Addr) (xs:List V):Prop :=
 Rd H a (.lst xs) \/
  ∃ (o:Obj) (its:Array Value) (n:Nat),K.lookup a=some o/\o.cls=.type "list" /\ o.dict=none/\o.data=.seq its n/\its.size<=sizeLine/\Vals xs its.toList
def eJ (K:Zfr) (H:Hp) (a:Addr) (xs:List V):Prop :=
 Rd H a (.tup xs) \/
  ∃ (o:Obj) (its:Array Value) (n:Nat),K.lookup a=some o/\o.cls=.type "tuple" /\ o.dict=none/\o.data=.seq its n/\its.size<=sizeLine/\Vals xs its.toList
def FV:Value->Option V
 | .none=>some .non
 | .bool b=>some (.bl b)
 | .int i _=>some (.int i)
 | .str x _=>some (.str x)
 | .bytes b _=>some (.qb b)
 | .float b _=>some (.pD b)
 | .ref a=>some (.ref a)
 | .type n=>some (.ty n)
 | _=>none
theorem RelV.abs {x:V} {u:Value} (r:RelV x u):FV u=some x:=by
 cases x with
 | non=>cases r;rfl
 | bl _=>cases r;rfl
 | int _=>obtain ⟨t,rfl⟩:=r;rfl
 | str _=>obtain ⟨t,rfl⟩:=r;rfl
 | qb _=>obtain ⟨t,rfl⟩:=r;rfl
 | pD _=>obtain ⟨t,rfl⟩:=r;rfl
 | ref _=>cases r;rfl
 | ty _=>cases r;rfl
theorem RelV.inj {x y:V} {u:Value} (r:RelV x u) (q:RelV y u):x=y:=UD (r.abs.symm.trans q.abs)
theorem Vals.inj:∀ {xs ys:List V} {us:List Value},Vals xs us->Vals ys us->xs=ys
 | _,_,_,.nil,.nil=>rfl
 | _,_,_,.cons r t,.cons r' t'=>by rw [r.inj r',Vals.inj t t']
section
variable {X:Cx} {pins:List (Addr×Obj)} {σ:St} {H:Hp} {s:Shared} {a:Addr} {xs ys:List V}
theorem eJ.of {K:Zfr} (h:H a=some (.tup xs)):eJ K H a xs:=.inl (.inl h)
theorem Inv.list (I:Inv X pins σ H s) (h:iN X.K H a xs):∃ its:List Value,Vals xs its/\PlainL s.heap a its.toArray/\xs.length<=sizeLine:=by
 rcases h with h | ⟨o,its,n,hk,hc,hd,hs,hz,r⟩
 ·obtain ⟨z,its,n,r,e⟩:=h.ok I.hok
  exact ⟨its,r,⟨_,n,e,rfl,rfl,rfl⟩,z⟩
 ·refine ⟨its.toList,r,⟨o,n,I.Dk a o hk,hc,hd,by simpa using hs⟩,?_⟩
  have e:=r.length
  simp only [Vz] at e
  omega
theorem Inv.om (I:Inv X pins σ H s) (h:eJ X.K H a xs):∃ its:List Value,Vals xs its/\mK s.heap a its.toArray/\xs.length<=sizeLine:=by
 rcases h with h | ⟨o,its,n,hk,hc,hd0,hs,hz,r⟩
 ·obtain ⟨z,its,r,p⟩:=h.ok I.hok
  exact ⟨its,r,p,z⟩
 ·refine ⟨its.toList,r,⟨o,I.Dk a o hk,hc,hd0,n,by simpa using hs⟩,?_⟩
  have e:=r.length
  simp only [Vz] at e
  omega
theorem Inv.tuple (I:Inv X pins σ H s) (h:eJ X.K H a xs):∃ its:List Value,Vals xs its/\IsTup s.heap a its.toArray/\xs.length<=sizeLine :=
 let ⟨its,r,p,z⟩:=I.om h
 ⟨its,r,p.tup,z⟩
theorem Inv.nO (I:Inv X pins σ H s) (h:iN X.K H a xs) (h':iN X.K H a ys):xs=ys:=by
 obtain ⟨its,r,⟨o,n,e,_,_,d⟩,_⟩:=I.list h
 obtain ⟨its',r',⟨o',n',e',_,_,d'⟩,_⟩:=I.list h'
 rw [e] at e';cases e'
 rw [d] at d'
 injection d' with d1 _
 have:its=its':=by simpa using congrArg Array.toList d1
 subst this
 exact r.inj r'
theorem Inv.gH (I:Inv X pins σ H s) (h:eJ X.K H a xs) (h':eJ X.K H a ys):xs=ys:=by
 obtain ⟨its,r,⟨o,e,_,n,d⟩,_⟩:=I.tuple h
 obtain ⟨its',r',⟨o',e',_,n',d'⟩,_⟩:=I.tuple h'
 rw [e] at e';cases e'
 rw [d] at d'
 injection d' with d1 _
 have:its=its':=by simpa using congrArg Array.toList d1
 subst this
 exact r.inj r'
end
abbrev Cx.wish (X:Cx) (E:Value->Shared->Prop):Cx:={ X with xe:=E }
abbrev Cx.mw (X:Cx):Cx:=X.wish fun _ _=>False
theorem Cx.Ok.wish {X:Cx} (ok:X.Ok) (E:Value->Shared->Prop):(X.wish E).Ok :=
 ⟨ok.mod,ok.kind,ok.glob,ok.blt,ok.above,ok.inj,ok.has,ok.zy,ok.hd,ok.frames,ok.stk,ok.Je,ok.bs,ok.tq,ok.qc,ok.rT,ok.lF,ok.yw⟩
theorem Cx.Ok.iU {X:Cx} {E:Value->Shared->Prop} (ok:(X.wish E).Ok):X.Ok :=
 ⟨ok.mod,ok.kind,ok.glob,ok.blt,ok.above,ok.inj,ok.has,ok.zy,ok.hd,ok.frames,ok.stk,ok.Je,ok.bs,ok.tq,ok.qc,ok.rT,ok.lF,ok.yw⟩
section
variable {X:Cx} {pins:List (Addr×Obj)} {σ:St} {H:Hp} {s:Shared} {E:Value->Shared->Prop}
theorem Inv.wish (I:Inv X pins σ H s) (E:Value->Shared->Prop):Inv (X.wish E) pins σ H s:=⟨I.ok.wish E,I.os,I.bare,I.base,I.loc,I.cell,I.free,I.jJ,I.pin,I.hok,I.len⟩
theorem Inv.iU (I:Inv (X.wish E) pins σ H s):Inv X pins σ H s:=⟨I.ok.iU,I.os,I.bare,I.base,I.loc,I.cell,I.free,I.jJ,I.pin,I.hok,I.len⟩
theorem SP.iU {D:Ends} {f:Flow} {s':Shared} (h:SP (X.wish E) pins D f s'):SP X pins D f s':=by
 cases f with
 | next=>obtain ⟨σ',H',I,q⟩:=h;exact ⟨σ',H',I.iU,q⟩
 | brk=>obtain ⟨σ',H',I,q⟩:=h;exact ⟨σ',H',I.iU,q⟩
 | cont=>obtain ⟨σ',H',I,q⟩:=h;exact ⟨σ',H',I.iU,q⟩
 | ret u=>obtain ⟨v,σ',H',I,r,q⟩:=h;exact ⟨v,σ',H',I.iU,r,q⟩
theorem oQ.mw {st:List Stmt} {t:TS} (h:oQ X.mw st t):oQ X st t:=fun pins s σ H D I hw =>
 wpAny_mono (h pins s σ H D (I.wish _) hw) (fun _ _ q=>q.iU) fun _ _ z=>False.elim z
end
section
variable {X:Cx} {st:Stmt} {rest:List Stmt} {t u:TS} {e:Expr} {te:TE} {pos:Pos}
def tG:TS:=fun D σ H=>D.nx σ H
def zF (t u:TS):TS:=fun D σ H=>t { D with nx:=u D } σ H
theorem jK:oQ X [] tG:=fun _ _ σ H _ I h=>wpAny_execs_nil ⟨σ,H,I,h⟩
theorem a9 (h1:PS X st t) (h2:oQ X rest u):oQ X (st :: rest) (zF t u):=by
 intro pins s σ H D I h
 refine wpAny_execs_cons (cQ (h1 pins s σ H { D with nx:=u D } I h) fun f s1 q=>?_)
 cases f with
 | next =>
  obtain ⟨σ',H',I',q⟩:=q
  exact h2 pins s1 σ' H' D I' q
 | ret v=>exact q
 | brk=>exact q
 | cont=>exact q
theorem bC (h1:PS X st t):oQ X [st] t:=by
 intro pins s σ H D I h
 refine wpAny_execs_cons (cQ (h1 pins s σ H D I h) fun f s1 q=>?_)
 cases f with
 | next=>exact wpAny_execs_nil q
 | ret v=>exact q
 | brk=>exact q
 | cont=>exact q
theorem Inv.quiet {pins:List (Addr×Obj)} {σ:St} {H:Hp} {s:Shared} (I:Inv X pins σ H s):interactive X.env=false:=by simp [interactive,I.ok.kind]
def tH (te:TE):TS:=fun D σ H=>te σ H fun _ H1=>D.nx σ H1
theorem qe (he:PE X e te) (hs:swapsWith e none pos.line X.env=pure false:=by rfl):PS X (.Expr e pos) (tH te):=by
 intro pins s σ H D I h
 exact wpAny_Expr_any (cQ (he pins s σ H _ I h) fun v s1 ⟨x,H1,I1,r1,q1⟩=>⟨σ,H1,I1,q1⟩) I.quiet hs
def zG (te:TE):TS:=fun D σ H=>te σ H D.rt
theorem dP (he:PE X e te):PS X (.Return (some e) pos) (zG te):=by
 intro pins s σ H D I h
 exact wpAny_Return_some (cQ (he pins s σ H _ I h) fun v s1 ⟨x,H1,I1,r1,q1⟩=>⟨x,σ,H1,I1,r1,q1⟩)
def zH (c:TT) (t u:TS):TS:=fun D σ H=>c σ H fun b H1=>if b=true then t D σ H1 else u D σ H1
theorem iW {c:Expr} {a b:List Stmt} {tc:TT} (hc:PT X c tc) (ha:oQ X a t) (hb:oQ X b u):PS X (.If c a b pos) (zH tc t u):=by
 intro pins s σ H D I h
 refine wpAny_If (cQ (hc pins s σ H _ I h) fun d s1 ⟨H1,I1,q1⟩=>?_)
 cases d with
 | true=>exact ha pins s1 σ H1 D I1 q1
 | false=>exact hb pins s1 σ H1 D I1 q1
def qf:TS:=fun _ _ _=>False
theorem Na:PS X st qf:=fun _ _ _ _ _ _ h=>h.elim
end
abbrev TG:=V->St->Hp->(St->Hp->Prop)->Prop
abbrev rB:=List V->St->Hp->(St->Hp->Prop)->Prop
def PG (X:Cx) (target:Expr) (t:TG):Prop :=
 ∀ (pins:List (Addr×Obj)) (s:Shared) (σ:St) (H:Hp) (v:V) (u:Value) (Q:St->Hp->Prop),Inv X pins σ H s->RelV v u->t v σ H Q ->
  wpAny (model X.prog X.w) X.A (assign target X.env u) (fun _ s'=>∃ σ' H',Inv X pins σ' H' s'/\Q σ' H') X.xe s
def Dv (X:Cx) (ts:List Expr) (t:rB):Prop :=
 ∀ (pins:List (Addr×Obj)) (s:Shared) (σ:St) (H:Hp) (vs:List V) (us:List Value) (Q:St->Hp->Prop),Inv X pins σ H s->Vals vs us->t vs σ H Q ->
  wpAny (model X.prog X.w) X.A (assignInOrder ((assignEach ts X.env).map (·.2)) us) (fun _ s'=>∃ σ' H',Inv X pins σ' H' s'/\Q σ' H') X.xe s
abbrev vg:=V->V->V->Hp->(Hp->Prop)->Prop
def zI (X:Cx) (t:vg):Prop :=
 ∀ (pins:List (Addr×Obj)) (s:Shared) (σ:St) (H:Hp) (o i v:V) (ov iv u:Value) (Q:Hp->Prop),Inv X pins σ H s->RelV o ov->RelV i iv->RelV v u->t o i v H Q ->
  wpAny (model X.prog X.w) X.A (setItem ov iv u) (fun _ s'=>∃ H',Inv X pins σ H' s'/\Q H') X.xe s
section
variable {X:Cx} {pos:Pos}
def nP (i:Nat):TG:=fun v σ H Q=>Q (σ.set i (some v)) H
theorem gI {i:Nat} {x:Str} (hN:X.N.Nodup) (hi:X.N[i]?=some x) (hx:Loc X.env.scope x) (hf:X.fn x=true\/X.env.scope.names.lookup x=some .local:=by first | exact .inl rfl | exact .inr rfl | assumption):PG X (.Name x pos) (nP i):=by
 intro pins s σ H v u Q I r h
 exact wpAny_assign_Name (Dp I hN hi hx r (fun s' I'=>⟨_,H,I',h⟩) hf)
def zJ:rB:=fun vs σ H Q=>vs=[]/\Q σ H
def tI (t:TG) (u:rB):rB:=fun vs σ H Q=>∃ v r,vs=v :: r/\t v σ H fun σ' H'=>u r σ' H' Q
theorem yy:Dv X [] zJ:=by
 intro pins s σ H vs us Q I r h
 obtain ⟨e,h⟩:=h
 subst e
 cases r
 exact assignInOrder_nil ⟨σ,H,I,h⟩
theorem pY {e:Expr} {es:List Expr} {t:TG} {u:rB} (h1:PG X e t) (h2:Dv X es u)
  (hs:(assignEach (e :: es) X.env).map (·.2)=assign e X.env :: (assignEach es X.env).map (·.2):=by rfl):Dv X (e :: es) (tI t u):=by
 intro pins s σ H vs us Q I r h
 obtain ⟨v,vr,e1,h⟩:=h
 subst e1
 cases r with
 | cons r rr =>
  rw [hs]
  refine assignInOrder_cons (cQ (h1 pins s σ H _ _ _ I r h) fun _ s1 ⟨σ1,H1,I1,q1⟩=>?_)
  exact h2 pins s1 σ1 H1 _ _ Q I1 rr q1
def zK (K:Zfr) (n:Nat) (t:rB):TG:=fun v σ H Q=>∃ a xs,v=.ref a/\eJ K H a xs/\xs.length=n/\t xs σ H Q
theorem yz {es:List Expr} {k:Nat} {t:rB} {n:Nat} (hc:X.calm=true) (h:Dv X es t)
  (hn:(assignEach es X.env).length=n:=by rfl) (hst:(assignEach es X.env).findIdx? (·.1)=none:=by rfl):PG X (.Tuple es k pos) (zK X.K n t):=by
 intro pins s σ H v u Q I r hw
 obtain ⟨a,xs,e1,hq,hl,hw⟩:=hw
 subst e1
 cases r
 obtain ⟨its,rv,ht,hz⟩:=I.tuple hq
 refine assign_Tuple_tuple (I.ok.hd hc) ht (by simp [hn,<- hl,rv.length]) hst fun h' hx=>?_
 have I1:Inv X pins σ H { s with heap:=h' }:=I.kept (t':=s.toks) fun b o e=>hx b o (Va (UN e)) e
 exact h pins _ σ H xs _ Q I1 (by simpa using rv) hw
def mN (to ti:TE) (t:vg):TG:=fun v σ H Q=>to σ H fun o H1=>ti σ H1 fun i H2=>t o i v H2 fun H3=>Q σ H3
theorem yA {o i:Expr} {to ti:TE} {t:vg} (ho:PE X o to) (hi:PE X i ti) (hs:zI X t)
  (ha:∀ v,assign (.Subscript o i pos) X.env v=(do
   let ov <- holding [v] (eval o X.env)
   let iv <- holding [v,ov] (eval i X.env)
   standAt pos
   holding [v,ov,iv] (setItem ov iv v)
   release [v,ov,iv] []):=by intro _;rfl):PG X (.Subscript o i pos) (mN to ti t):=by
 intro pins s σ H v u Q I r h
 rw [ha]
 refine wpAny_bind (wpAny_holding (cQ (ho pins s σ H _ I h) fun ov s1 ⟨x,H1,I1,r1,q1⟩=>?_))
 refine wpAny_bind (wpAny_holding (cQ (hi pins s1 σ H1 _ I1 q1) fun iv s2 ⟨y,H2,I2,r2,q2⟩=>?_))
 refine wpAny_bind (wpAny_standAt (wpAny_bind (wpAny_holding (cQ (hs pins s2 σ H2 x y v ov iv u _ I2 r1 r2 r q2) fun _ s3 ⟨H3,I3,q3⟩=>?_))))
 exact wpAny_release ⟨σ,H3,I3,q3⟩
def rV (te:TE) (g:TG):TS:=fun D σ H=>te σ H fun x H1=>g x σ H1 D.nx
theorem vh {tg e:Expr} {te:TE} {g:TG} (he:PE X e te) (hg:PG X tg g) (hs:swapsWithSole [tg] e pos.line X.env=pure false:=by rfl) (hw:swappedStores [tg] e X.env=pure none:=by rfl)
  (h1:(assignEach [tg] X.env).map (·.2)=[assign tg X.env]:=by rfl):PS X (.Assign [tg] e pos) (rV te g):=by
 intro pins s σ H D I h
 refine wpAny_Assign_stores (cQ (he pins s σ H _ I h) fun v s1 ⟨x,H1,I1,r1,q1⟩=>?_) hs hw
 rw [h1]
 exact cQ (hg pins s1 σ H1 x v _ I1 r1 q1) fun _ s2 q=>q
theorem cR {i:Nat} {x:Str} {e:Expr} {te:TE} {pos':Pos} (hN:X.N.Nodup) (hi:X.N[i]?=some x) (hx:Loc X.env.scope x) (he:PE X e te) (hs:swapsWith e (some (.Name x pos')) pos.line X.env=pure false:=by rfl) (hf:X.fn x=true\/X.env.scope.names.lookup x=some .local:=by first | exact .inl rfl | exact .inr rfl | assumption) :
  PS X (.Assign [.Name x pos'] e pos) (rV te (nP i)):=by
 intro pins s σ H D I h
 refine wpAny_Assign_Name (cQ (he pins s σ H _ I h) fun v s1 ⟨y,H1,I1,r1,q1⟩=>?_) hs
 exact Dp I1 hN hi hx r1 (fun s2 I2=>⟨_,H1,I2,q1⟩) hf
def zL (i j:Nat) (ta:TA):TS:=fun D σ H=>ta σ H fun vs H1=>∃ v w,vs=[v,w]/\D.nx ((σ.set i (some v)).set j (some w)) H1
theorem FW {i j:Nat} {x y:Str} {a b:Expr} {ta:TA} {px py pt:Pos} {kt k2 FX} (hc:X.calm=true) (hN:X.N.Nodup) (hi:X.N[i]?=some x) (hj:X.N[j]?=some y) (hij:i≠j)
  (hx:X.env.scope.names.lookup x=some .local) (hy:X.env.scope.names.lookup y=some .local) (ha:PA X [a,b] ta)
  (hw:swappedStores [.Tuple [.Name x px,.Name y py] kt pt] (.Tuple [a,b] k2 FX) X.env=pure (some [x,y]))
  (hs:swapsWithSole [.Tuple [.Name x px,.Name y py] kt pt] (.Tuple [a,b] k2 FX) pos.line X.env=pure false:=by rfl) :
  PS X (.Assign [.Tuple [.Name x px,.Name y py] kt pt] (.Tuple [a,b] k2 FX) pos) (zL i j ta):=by
 intro pins s σ H D I h
 rw [exec_Assign_arm]
 refine wpAny_bind (wpAny_standAt ?_)
 rw [hs]
 refine wpAny_bind (wpAny_pure ?_)
 rw [if_neg (by decide)]
 refine wpAny_bind (Tuple_ (cQ (ha _ pins s σ H _ I h) fun us s1 ⟨vs,H1,I1,r1,q1⟩=>?_))
 obtain ⟨v,w,e1,q1⟩:=q1
 subst e1
 obtain ⟨u1,u2,rfl,rv,rw'⟩:∃ u1 u2,us=[u1,u2]/\RelV v u1/\RelV w u2:=by
  cases r1 with
  | cons p q =>
   cases q with
   | cons p' q' =>
    cases q'
    exact ⟨_,_,rfl,p,p'⟩
 refine wpAny_newObj_type ?_ (by show 2<=sizeLine;decide)
 have I2:Inv X pins σ H1 { s1 with heap:=s1.heap.push { cls:=.type "tuple",data:=.seq [u1,u2].toArray } }:=I1.kept (t':=s1.toks) fun b o e=>UC _ e
 rw [hw]
 refine wpAny_bind (wpAny_pure ?_)
 show wpAny (model X.prog X.w) X.A (do rule "assign.swapped-stores";let items <- unpackItems (.ref s1.heap.objs.size) 2 none;assignInOrder [fun v=>bindName X.env y v,fun v=>bindName X.env x v] items.reverse;pure Flow.next) _ _ _
 refine wpAny_bind (wpAny_rule (wpAny_bind (unpackItems_tuple (items:=#[u1,u2]) (I.ok.hd hc) (IsTup.new s1.heap _) fun h' hx'=>?_)))
 have I3:=I2.kept (h':=h') (t':=s1.toks) fun b o e=>hx' b o (Va (UN e)) e
 show wpAny _ _ (assignInOrder [fun v=>bindName X.env y v,fun v=>bindName X.env x v] [u2,u1] >>= fun _=>pure Flow.next) _ _ _
 refine wpAny_bind (assignInOrder_cons (wpAny_bindName (Dp I3 hN hj (.inl hy) rw' (fun s2 I4=>?_) (.inr hy))))
 refine assignInOrder_cons (wpAny_bindName (Dp I4 hN hi (.inl hx) rv (fun s3 I5=>assignInOrder_nil (wpAny_pure ?_)) (.inr hx)))
 rw [List.set_comm _ _ (Ne.symm hij)] at I5
 exact ⟨_,H1,I5,q1⟩
end
section
variable {X:Cx} {pos:Pos}
def qg (c:TT) (tb:TS):TS:=fun D σ H=>∃ W:Nat->St->Hp->Prop,(∃ m,W m σ H)/\∀ m σ H,W m σ H ->
 c σ H fun b H1=>if b=true then ∃ N:St->Hp->Prop,(∀ σ' H',N σ' H'->∃ m',m' < m/\W m' σ' H')/\tb { D with nx:=N,ct:=N,bk:=D.nx } σ H1 else D.nx σ H1
theorem yB {c:Expr} {body:List Stmt} {tc:TT} {tb:TS} (hp:PassesOwn (model X.prog X.w) X.A X.env X.xe) (hc:PT X c tc) (hb:oQ X body tb):PS X (.While c body [] pos) (qg tc tb):=by
 intro pins s σ H D I h
 obtain ⟨W,⟨m0,w0⟩,turn⟩:=h
 refine wpAny_While (codeAny_whileLoop (fun n s'=>∃ σ' H',Inv X pins σ' H' s'/\W n σ' H') ?_ m0 ⟨σ,H,I,w0⟩)
 rintro n s1 ⟨σ1,H1,I1,w1⟩
 refine wpAny_passesOwn hp (cQ (hc pins s1 σ1 H1 _ I1 (turn n σ1 H1 w1)) fun b s2 ⟨H2,I2,q2⟩=>?_)
 cases b with
 | true =>
  obtain ⟨N,hN,q2⟩:=q2
  rw [if_pos rfl]
  refine wpAny_passesOwn hp (cQ (hb pins s2 σ1 H2 _ I2 q2) fun f s3 q3=>?_)
  cases f with
  | next =>
   obtain ⟨σ3,H3,I3,n3⟩:=q3
   obtain ⟨m',hm,w3⟩:=hN σ3 H3 n3
   exact ⟨m',hm,σ3,H3,I3,w3⟩
  | cont =>
   obtain ⟨σ3,H3,I3,n3⟩:=q3
   obtain ⟨m',hm,w3⟩:=hN σ3 H3 n3
   exact ⟨m',hm,σ3,H3,I3,w3⟩
  | brk=>exact q3
  | ret v=>exact q3
 | false =>
  rw [if_neg UE]
  exact wpAny_execs_nil ⟨σ1,H2,I2,q2⟩
end
set_option genInjectivity false in
structure It where
 go:Nat->Hp->Prop
 rW:Nat->Hp->V->Hp->Prop
 stop:Nat->Hp->Prop
def ku (X:Cx) (pins:List (Addr×Obj)) (H:Hp) (b:Addr):Prop :=
 H b=none/\b≠X.env.locals/\b ∉ X.fs/\(b∈X.ex\/X.s₀.heap.objs.size<=b)/\(∀ x c,X.env.cells.lookup x=some c->c≠b)/\∀ p∈X.pn ++ pins,p.1≠b
theorem Inv.oo {X:Cx} {pins:List (Addr×Obj)} {σ:St} {H H':Hp} {s:Shared} {b:Addr} (I:Inv X pins σ H s) (hb:s.heap.objs.size<=b) (hn:H' b=none):ku X pins H' b:=by
 refine ⟨hn,Nat.ne_of_gt (U6 I.lt hb),I.zz hb,.inr (UZ I.sz hb),fun x c e z=>?_,fun p hp z=>?_⟩
 ·obtain ⟨v,q⟩:=I.cell x c e
  exact absurd (U6 q.lt (by rw [z];exact hb)) (V5 _)
 ·exact absurd (U6 (UN (I.pin p hp).1) (by rw [z];exact hb)) (V5 _)
structure Turn (P:Program) (w:World) (K:Zfr) (tg:Expr) (J:It) (fp:List Addr) (it:Addr) (tn:Nat->Heap->Prop):Prop where
 mem:it∈fp
 obj:∀ i h,tn i h->∀ b∈fp,∃ o,h.get? b=some o/\∀ v,o.data≠.cell v
 keep:∀ i h h',tn i h->(∀ b∈fp,∀ o,h.get? b=some o->h'.get? b=some o)->tn i h'
 item:∀ (X:Cx),X.prog=P->X.w=w->X.K=K->X.calm=true->∀ (i:Nat) (pins:List (Addr×Obj)) (s:Shared) (σ:St) (H:Hp) (E:Value->Shared->Prop),Inv X pins σ H s->(∀ b∈fp,ku X pins H b)->tn i s.heap->J.go i H ->
  wpAny (model P w) X.A (pyNext (.ref it)) (fun r s1=>∃ u,r=some u /\
   wpAny (model P w) X.A (letOwnedTupleGo tg (.ref it) u) (fun _ s2=>∃ x H',Inv X pins σ H' s2/\RelV x u/\J.rW i H x H'/\tn (i + 1) s2.heap/\∀ b∈fp,H' b=none) E s1) E s
 done:∀ (X:Cx),X.prog=P->X.w=w->X.K=K->X.calm=true->∀ (i:Nat) (pins:List (Addr×Obj)) (s:Shared) (σ:St) (H:Hp) (E:Value->Shared->Prop),Inv X pins σ H s->(∀ b∈fp,ku X pins H b)->tn i s.heap->J.stop i H ->
  wpAny (model P w) X.A (pyNext (.ref it)) (fun r s1=>r=none/\Inv X pins σ H s1) E s
 self:∀ (A:Around) (i:Nat) (s:Shared) (Q:Value->Shared->Prop) (E:Value->Shared->Prop),tn i s.heap->Q (.ref it) s->wpAny (model P w) A (pyIter (.ref it)) Q E s
abbrev TI:=St->Hp->(It->Hp->Prop)->Prop
def FY (X:Cx) (pins:List (Addr×Obj)) (σ:St) (tg:Expr) (R:It->Hp->Prop) (itv:Value) (s2:Shared):Prop :=
 ∃ (it:Addr) (fp:List Addr) (tn:Nat->Heap->Prop) (J:It) (H':Hp),itv=.ref it/\Inv X pins σ H' s2/\Turn X.prog X.w X.K tg J fp it tn/\tn 0 s2.heap/\(∀ b∈fp,ku X pins H' b)/\R J H'
def PI (X:Cx) (tg iter:Expr) (wi:TI):Prop :=
 ∀ (pins:List (Addr×Obj)) (s:Shared) (σ:St) (H:Hp) (R:It->Hp->Prop),Inv X pins σ H s->wi σ H R ->
  wpAny (model X.prog X.w) X.A (eval iter X.env) (fun v s1=>wpAny (model X.prog X.w) X.A (pyIter v) (FY X pins σ tg R) X.xe s1) X.xe s
theorem Dw {M:Model} {A:Around} {E:Value->Shared->Prop} {s:Shared} {tg:Expr} {it:Addr} {u:Value} {o:Obj} {n:String} {vs:Array Value} {Q:Unit->Shared->Prop} (ho:s.heap.get? it=some o) (hc:o.cls=.type n) (hd:o.data=.fields vs)
  (hn:["enumerate","zip","dict_itemiterator","dict_reverseitemiterator","odict_iterator","itertools.zip_longest","itertools.pairwise"].contains n=false) (hQ:Q () s):wpAny M A (letOwnedTupleGo tg (.ref it) u) Q E s:=by
 unfold letOwnedTupleGo
 cases tg <;> first
  | exact wpAny_pure hQ
  | (cases u <;> first
    | exact wpAny_pure hQ
    | (refine wpAny_bind (wpAny_load ho ?_)
       rw [hc,hd]
       show wpAny M A (if (["enumerate","zip","dict_itemiterator","dict_reverseitemiterator","odict_iterator","itertools.zip_longest","itertools.pairwise"].contains n && vs[0]? == some (rawInt _))=true then _ else _) Q E s
       rw [if_neg (by intro h;rw [hn,Bool.false_and] at h;cases h)]
       exact wpAny_pure hQ))
def Jk (K:Zfr) (a:Addr):It :=
 ⟨fun i H=>∃ xs x,iN K H a xs/\xs[i]?=some x,fun i H x H'=>H'=H/\∀ xs,iN K H a xs->xs[i]?=some x,fun i H=>∃ xs,iN K H a xs/\xs.length<=i⟩
def Jl (K:Zfr) (a:Addr):It :=
 ⟨fun i H=>∃ xs x,eJ K H a xs/\xs[i]?=some x,fun i H x H'=>H'=H/\∀ xs,eJ K H a xs->xs[i]?=some x,fun i H=>∃ xs,eJ K H a xs/\xs.length<=i⟩
def zM (lo:Int) (n:Nat):It:=⟨fun i _=>i < n,fun i H x H'=>H'=H/\x=.int (lo + i),fun i _=>n<=i⟩
theorem Nb {P:Program} {w:World} {K:Zfr} {tg:Expr} (a it:Addr):Turn P w K tg (Jk K a) [it] it (fun i h=>h.IsListIter it a i) where
 mem:=by simp
 obj:=fun i h st b hb=>by
  have e:b=it:=by simpa using hb
  subst e
  obtain ⟨o,e,c,d⟩:=st
  exact ⟨o,e,fun v z=>by rw [d] at z;cases z⟩
 keep:=fun i h h' st k=>st.at fun o e=>k it (by simp) o e
 item:=by
  intro X hP hw hK hc i pins s σ H E I hf st hg
  subst hP hw hK
  obtain ⟨xs,x,hq,hx⟩:=hg
  obtain ⟨its,rv,p,hz⟩:=I.list hq
  obtain ⟨u,hu,ru⟩:=rv.get hx
  obtain ⟨f0,f1,f2,f3,f4,f5⟩:=hf it (by simp)
  refine wpAny_pyNext_list_item st p.isList (x:=u) (by simpa using hu) fun h' st' sb=>?_
  have I1:Inv X pins σ H { s with heap:=h' }:=I.turned (t':=s.toks) (fun b o hb e=>(sb.2 b hb).trans e) f0 f1 f3 f4 f5
  obtain ⟨o,e,c,d⟩:=id st'
  exact ⟨u,rfl,Dw (s:={ s with heap:=h' }) e c d (by decide) ⟨x,H,I1,ru,⟨rfl,fun ys hy=>by rw [I.nO hy hq];exact hx⟩,st',fun b hb=>(hf b hb).1⟩⟩
 done:=by
  intro X hP hw hK hc i pins s σ H E I hf st hg
  subst hP hw hK
  obtain ⟨xs,hq,hx⟩:=hg
  obtain ⟨its,rv,p,hz⟩:=I.list hq
  obtain ⟨f0,f1,f2,f3,f4,f5⟩:=hf it (by simp)
  have hl:=rv.length
  exact wpAny_pyNext_list_end (I.ok.hd hc) st p.isList (by simp;omega) fun h' eb=>⟨rfl,I.turned (t':=s.toks) (fun b o hb e=>eb b o hb e) f0 f1 f3 f4 f5⟩
 self:=fun _ _ _ _ _ st h=>wpAny_pyIter_listiter st h
theorem Nc {P:Program} {w:World} {K:Zfr} {tg:Expr} (a it:Addr):Turn P w K tg (Jl K a) [it] it (fun i h=>h.IsTupleIter it a i) where
 mem:=by simp
 obj:=fun i h st b hb=>by
  have e:b=it:=by simpa using hb
  subst e
  obtain ⟨o,e,c,d⟩:=st
  exact ⟨o,e,fun v z=>by rw [d] at z;cases z⟩
 keep:=fun i h h' st k=>st.at fun o e=>k it (by simp) o e
 item:=by
  intro X hP hw hK hc i pins s σ H E I hf st hg
  subst hP hw hK
  obtain ⟨xs,x,hq,hx⟩:=hg
  obtain ⟨its,rv,p,hz⟩:=I.tuple hq
  obtain ⟨u,hu,ru⟩:=rv.get hx
  obtain ⟨f0,f1,f2,f3,f4,f5⟩:=hf it (by simp)
  refine wpAny_pyNext_tuple_item st (show s.heap.IsTuple a its.toArray from p) (x:=u) (by simpa using hu) fun h' st' sb=>?_
  have I1:Inv X pins σ H { s with heap:=h' }:=I.turned (t':=s.toks) (fun b o hb e=>(sb.2 b hb).trans e) f0 f1 f3 f4 f5
  obtain ⟨o,e,c,d⟩:=id st'
  exact ⟨u,rfl,Dw (s:={ s with heap:=h' }) e c d (by decide) ⟨x,H,I1,ru,⟨rfl,fun ys hy=>by rw [I.gH hy hq];exact hx⟩,st',fun b hb=>(hf b hb).1⟩⟩
 done:=by
  intro X hP hw hK hc i pins s σ H E I hf st hg
  subst hP hw hK
  obtain ⟨xs,hq,hx⟩:=hg
  obtain ⟨its,rv,p,hz⟩:=I.tuple hq
  obtain ⟨f0,f1,f2,f3,f4,f5⟩:=hf it (by simp)
  have hl:=rv.length
  exact wpAny_pyNext_tuple_end (I.ok.hd hc) st (show s.heap.IsTuple a its.toArray from p) (by simp;omega) fun h' eb=>⟨rfl,I.turned (t':=s.toks) (fun b o hb e=>eb b o hb e) f0 f1 f3 f4 f5⟩
 self:=fun _ _ _ _ _ st h=>wpAny_pyIter_tupleiter st h
theorem Nd {P:Program} {w:World} {K:Zfr} {tg:Expr} (it:Addr) (lo:Int) (n:Nat):Turn P w K tg (zM lo n) [it] it (fun i h=>IsRangeIter h it (lo + (i:Nat) * 1) ((n:Int) - (i:Nat)) 1) where
 mem:=by simp
 obj:=fun i h st b hb=>by
  have e:b=it:=by simpa using hb
  subst e
  exact ⟨_,st,fun v z=>by
   have z':Data.fields _=Data.cell v:=z
   cases z'⟩
 keep:=fun i h h' st k=>k it (by simp) _ st
 item:=by
  intro X hP hw hK hc i pins s σ H E I hf st hg
  subst hP hw hK
  obtain ⟨f0,f1,f2,f3,f4,f5⟩:=hf it (by simp)
  have W:=Walks.range (prog:=X.prog) (w:=X.w) (I.ok.hd hc) it lo 1 n
  refine W.item i s _ _ hg st fun v h' tk hv st' kk=>?_
  obtain ⟨t,rfl⟩:=hv
  have I1:Inv X pins σ H { s with heap:=h',toks:=tk }:=I.turned (fun b o hb e=>kk b o (by simpa using hb) e) f0 f1 f3 f4 f5
  refine ⟨_,rfl,Dw (s:={ s with heap:=h',toks:=tk }) (n:="range_iterator") st' rfl rfl (by decide) ⟨.int (lo + i),H,I1,⟨t,?_⟩,⟨rfl,rfl⟩,st',fun b hb=>(hf b hb).1⟩⟩
  rw [Int.mul_one]
 done:=by
  intro X hP hw hK hc i pins s σ H E I hf st hg
  subst hP hw hK
  obtain ⟨f0,f1,f2,f3,f4,f5⟩:=hf it (by simp)
  exact wpAny_pyNext_range_end (I.ok.hd hc) st (by have:n<=i:=hg;omega) fun h' eb=>⟨rfl,I.turned (t':=s.toks) (fun b o hb e=>eb b o hb e) f0 f1 f3 f4 f5⟩
 self:=fun _ _ _ _ _ st h=>wpAny_pyIter_rangeiter st h
section
variable {X:Cx} {tg:Expr}
def tJ (K:Zfr) (tl:TE):TI:=fun σ H R=>tl σ H fun x H1=>∃ a,x=.ref a/\(∃ xs,iN K H1 a xs)/\R (Jk K a) H1
def zN (K:Zfr) (tl:TE):TI:=fun σ H R=>tl σ H fun x H1=>∃ a,x=.ref a/\(∃ xs,eJ K H1 a xs)/\R (Jl K a) H1
theorem Nf {l:Expr} {tl:TE} (hl:PE X l tl):PI X tg l (tJ X.K tl):=by
 intro pins s σ H R I h
 refine cQ (hl pins s σ H _ I h) fun v s1 ⟨x,H1,I1,r1,q1⟩=>?_
 obtain ⟨a,e,⟨xs,hq⟩,q⟩:=q1
 subst e
 cases r1
 obtain ⟨its,rv,p,hz⟩:=I1.list hq
 refine wpAny_pyIter_list p.isList ?_
 refine ⟨s1.heap.objs.size,[s1.heap.objs.size],_,_,H1,rfl,I1.kept (t':=s1.toks) fun b o e=>UC _ e,Nb a _,⟨_,UQ _ rfl,rfl,rfl⟩,fun b hb=>?_,q⟩
 have e:b=s1.heap.objs.size:=by simpa using hb
 subst e
 exact I1.oo (Ux _) (I1.hok.fresh (Ux _))
theorem pH {l:Expr} {tl:TE} (hl:PE X l tl):PI X tg l (zN X.K tl):=by
 intro pins s σ H R I h
 refine cQ (hl pins s σ H _ I h) fun v s1 ⟨x,H1,I1,r1,q1⟩=>?_
 obtain ⟨a,e,⟨xs,hq⟩,q⟩:=q1
 subst e
 cases r1
 obtain ⟨its,rv,p,hz⟩:=I1.tuple hq
 refine wpAny_pyIter_tuple (show s1.heap.IsTuple a its.toArray from p) ?_
 refine ⟨s1.heap.objs.size,[s1.heap.objs.size],_,_,H1,rfl,I1.kept (t':=s1.toks) fun b o e=>UC _ e,Nc a _,⟨_,UQ _ rfl,rfl,rfl⟩,fun b hb=>?_,q⟩
 have e:b=s1.heap.objs.size:=by simpa using hb
 subst e
 exact I1.oo (Ux _) (I1.hok.fresh (Ux _))
theorem Jm {pins:List (Addr×Obj)} {σ:St} {H:Hp} {s:Shared} {R:It->Hp->Prop} {E:Value->Shared->Prop} {lo hi:Int} {t u v:Tok} {tk:Nat} (I:Inv X pins σ H s) (h1:-(2 ^ 62)<=lo) (h2:lo < 2 ^ 62) (h3:-(2 ^ 62)<=hi) (h4:hi < 2 ^ 62)
  (q:R (zM lo (hi - lo).toNat) H):wpAny (model X.prog X.w) X.A (pyIter (.ref s.heap.objs.size)) (FY X pins σ tg R) E { s with heap:=s.heap.push { cls:=.type "range",data:=.fields #[.int lo t,.int hi u,.int 1 v] },toks:=tk }:=by
 refine wpAny_pyIter_range (IsRange.new ..) (small_one h1 h2 h3 h4) ?_
 have I1:Inv X pins σ H { s with heap:=s.heap.push { cls:=.type "range",data:=.fields #[.int lo t,.int hi u,.int 1 v] },toks:=tk }:=I.kept fun b o e=>UC _ e
 refine ⟨(s.heap.push { cls:=.type "range",data:=.fields #[.int lo t,.int hi u,.int 1 v] }).objs.size,[(s.heap.push { cls:=.type "range",data:=.fields #[.int lo t,.int hi u,.int 1 v] }).objs.size],_,_,H,rfl,
  I1.kept (t':=tk) fun b o e=>UC _ e,Nd _ lo (hi - lo).toNat,?_,fun b hb=>?_,q⟩
 ·have e1:lo + ((0:Nat):Int) * 1=lo:=by simp
  have e2:(((hi - lo).toNat:Nat):Int) - ((0:Nat):Int)=Builtin.Range.rangeSize lo hi 1:=by rw [rangeSize_one];split <;> omega
  show IsRangeIter _ _ (lo + ((0:Nat):Int) * 1) ((((hi - lo).toNat:Nat):Int) - ((0:Nat):Int)) 1
  rw [e1,e2]
  exact UQ _ rfl
 ·have e:b=(s.heap.push { cls:=.type "range",data:=.fields #[.int lo t,.int hi u,.int 1 v] }).objs.size:=by simpa using hb
  subst e
  exact I1.oo (Ux _) (I1.hok.fresh (Ux _))
def tK (ta:TA):TI:=fun σ H R=>ta σ H fun vs H1=>∃ j:Int,vs=[.int j]/\-(2 ^ 62)<=j/\j < 2 ^ 62/\R (zM 0 j.toNat) H1
def tL (ta:TA):TI:=fun σ H R=>ta σ H fun vs H1=>∃ i j:Int,vs=[.int i,.int j]/\(-(2 ^ 62)<=i/\i < 2 ^ 62/\-(2 ^ 62)<=j/\j < 2 ^ 62)/\R (zM i (j - i).toNat) H1
theorem ot {a:Expr} {ta:TA} {p pos:Pos} (hg:Gl X "range") (hm:X.mg "range" = none) (ha:PA X [a] ta) (hs:starEach [a] X.env=[(false,eval a X.env)]:=by rfl):PI X tg (.Call (.Name "range" p) [a] [] pos) (tK ta):=by
 intro pins s σ H R I h
 refine Call_ (yx I hg hm boot_range (PyProof.Rows.callWith_type1 (cQ (ha pos pins s σ H _ I h) fun us s1 ⟨vs,H1,I1,r1,q1⟩=>?_) hs rfl))
 obtain ⟨j,e,q1,q2,q⟩:=q1
 subst e
 cases r1 with
 | cons r rr =>
  cases rr
  obtain ⟨t,rfl⟩:=r
  exact call_range_1 (Jm I1 (by omega) (by omega) q1 q2 (by simpa using q))
theorem Ng {a b:Expr} {ta:TA} {p pos:Pos} (hg:Gl X "range") (hm:X.mg "range" = none) (ha:PA X [a,b] ta) (hs:starEach [a,b] X.env=[(false,eval a X.env),(false,eval b X.env)]:=by rfl) (hs2:starEach [b] X.env=[(false,eval b X.env)]:=by rfl) :
  PI X tg (.Call (.Name "range" p) [a,b] [] pos) (tL ta):=by
 intro pins s σ H R I h
 refine Call_ (yx I hg hm boot_range (PyProof.Rows.callWith_type1 (cQ (ha pos pins s σ H _ I h) fun us s1 ⟨vs,H1,I1,r1,q1⟩=>?_) (by rw [hs,hs2]) (by rw [hs2];rfl)))
 obtain ⟨i,j,e,⟨q1,q2,q3,q4⟩,q⟩:=q1
 subst e
 cases r1 with
 | cons r rr =>
  cases rr with
  | cons r' rr =>
   cases rr
   obtain ⟨t,rfl⟩:=r
   obtain ⟨t',rfl⟩:=r'
   exact call_range_2 (Jm I1 q1 q2 q3 q4 q)
def zO (wi:TI) (g:TG) (tb:TS):TS:=fun D σ H=>wi σ H fun J H1=>∃ W:Nat->Nat->St->Hp->Prop,(∃ m,W 0 m σ H1)/\∀ i m σ H,W i m σ H ->
 (J.stop i H/\D.nx σ H)\/(J.go i H/\∃ N:St->Hp->Prop,(∀ σ' H',N σ' H'->∃ m',m' < m/\W (i + 1) m' σ' H')/\∀ x H',J.rW i H x H'->g x σ H' fun σ2 H2=>tb { D with nx:=N,ct:=N,bk:=D.nx } σ2 H2)
def lH (fp:List Addr) (h:Heap):List (Addr×Obj):=fp.filterMap fun b=>(h.get? b).map fun o=>(b,o)
theorem Dx {fp:List Addr} {h:Heap} {b:Addr} {o:Obj} (hb:b∈fp) (e:h.get? b=some o):(b,o)∈lH fp h:=List.mem_filterMap.mpr ⟨b,hb,by rw [e];rfl⟩
theorem Nh {fp:List Addr} {h:Heap} {p:Addr×Obj} (hp:p∈lH fp h):p.1∈fp/\h.get? p.1=some p.2:=by
 obtain ⟨b,hb,e⟩:=List.mem_filterMap.mp hp
 cases q:h.get? b with
 | none=>rw [q] at e;cases e
 | some o =>
  rw [q] at e
  have e':(b,o)=p:=UD e
  subst e'
  exact ⟨hb,q⟩
theorem Inv.pinned {pins:List (Addr×Obj)} {σ:St} {H:Hp} {s:Shared} {fp:List Addr} (I:Inv X pins σ H s) (hf:∀ b∈fp,ku X pins H b) (ho:∀ b∈fp,∃ o,s.heap.get? b=some o/\∀ v,o.data≠.cell v):Inv X (pins ++ lH fp s.heap) σ H s :=
 I.lj fun p hp=>(U5.mp hp).elim (fun z=>I.pin p (U4 _ z)) fun z=>by
  obtain ⟨hb,e⟩:=Nh z
  obtain ⟨f0,f1,f2,_⟩:=hf p.1 hb
  obtain ⟨o,e',d⟩:=ho p.1 hb
  rw [e] at e';cases e'
  exact ⟨e,f0,f1,f2,d⟩
theorem Inv.kh {pins pl:List (Addr×Obj)} {σ:St} {H:Hp} {s:Shared} (I:Inv X (pins ++ pl) σ H s):Inv X pins σ H s:=I.lj fun p hp=>I.pin p (U4 _ (VW _ hp))
theorem mx {iter:Expr} {body:List Stmt} {wi:TI} {g:TG} {tb:TS} {pos:Pos} (hp:PassesOwn (model X.prog X.w) X.A X.env X.xe) (hc:X.calm=true) (hi:PI X tg iter wi) (hg:PG X tg g) (hb:oQ X body tb)
  (hs:∀ x,foldedSetIterable iter X.env x=pure x:=by intro _;rfl):PS X (.For tg iter body [] pos) (zO wi g tb):=by
 intro pins s σ H D I h
 refine wpAny_For (cQ (hi pins s σ H _ I h) fun v s1 h1=>cQ h1 fun itv s2 h2=>?_) hs
 obtain ⟨it,fp,tn,J,H2,e,I2,T,st2,f2,W,⟨m0,w0⟩,turn⟩:=h2
 subst e
 have stat:∀ {H':Hp},(∀ b∈fp,H' b=none)->∀ b∈fp,ku X pins H' b:=fun hn b hb=>⟨hn b hb,(f2 b hb).2⟩
 refine codeAny_forLoop_any (fun n s'=>∃ i σ' H',Inv X pins σ' H' s'/\tn i s'.heap/\(∀ b∈fp,H' b=none)/\W i n σ' H') ?_ m0 ⟨0,σ,H2,I2,st2,fun b hb=>(f2 b hb).1,w0⟩
 rintro n s3 ⟨i,σ3,H3,I3,st3,Jn,w3⟩
 rcases turn i n σ3 H3 w3 with ⟨stop,qn⟩ | ⟨go,N,hN,step⟩
 ·refine wpAny_passesOwn hp (cQ (T.done X rfl rfl rfl hc i pins s3 σ3 H3 X.xe I3 (stat Jn) st3 stop) fun r s4 ⟨hr,I4⟩=>?_)
  subst hr
  exact wpAny_execs_nil ⟨σ3,H3,I4,qn⟩
 ·refine wpAny_passesOwn hp (cQ (T.item X rfl rfl rfl hc i pins s3 σ3 H3 X.xe I3 (stat Jn) st3 go) fun r s4 ⟨u,hr,h4⟩=>?_)
  subst hr
  refine wpAny_passesOwn hp (cQ h4 fun _ s5 ⟨x,H5,I5,r5,y5,jG,Dy⟩=>?_)
  have Ni:=I5.pinned (stat Dy) (T.obj _ _ jG)
  refine wpAny_passesOwn hp (cQ (hg _ s5 σ3 H5 x u _ Ni r5 (step x H5 y5)) fun _ s6 ⟨σ6,H6,I6,q6⟩=>?_)
  refine wpAny_passesOwn hp (cQ (hb _ s6 σ6 H6 _ I6 q6) fun f s7 q7=>?_)
  have again:∀ {σ7:St} {H7:Hp},Inv X (pins ++ lH fp s5.heap) σ7 H7 s7->N σ7 H7->∃ m,m < n/\∃ i σ' H',Inv X pins σ' H' s7/\tn i s7.heap/\(∀ b∈fp,H' b=none)/\W i m σ' H':=fun {σ7 H7} I7 n7=>by
   obtain ⟨m',hm,w7⟩:=hN σ7 H7 n7
   refine ⟨m',hm,i + 1,σ7,H7,I7.kh,T.keep _ _ _ jG fun b hb o e=>(I7.pin (b,o) (U4 _ (U4 _ (Dx hb e)))).1,fun b hb=>?_,w7⟩
   obtain ⟨o,e,d⟩:=T.obj _ _ jG b hb
   exact (I7.pin (b,o) (U4 _ (U4 _ (Dx hb e)))).2.1
  cases f with
  | next=>obtain ⟨σ7,H7,I7,n7⟩:=q7;exact again I7 n7
  | cont=>obtain ⟨σ7,H7,I7,n7⟩:=q7;exact again I7 n7
  | brk=>obtain ⟨σ7,H7,I7,q7⟩:=q7;exact ⟨σ7,H7,I7.kh,q7⟩
  | ret v=>obtain ⟨x7,σ7,H7,I7,r7,q7⟩:=q7;exact ⟨x7,σ7,H7,I7.kh,r7,q7⟩
end
abbrev R2:=V->V->Hp->VK->Prop
def ke (X:Cx) (f:Value->Value->Sem Value) (r:R2):Prop :=
 ∀ (pins:List (Addr×Obj)) (s:Shared) (σ:St) (H:Hp) (x y:V) (v u:Value) (Q:VK),Inv X pins σ H s->RelV x v->RelV y u->r x y H Q ->
  wpAny (model X.prog X.w) X.A (f v u) (EP X pins σ Q) X.xe s
def FZ (X:Cx) (f:Value->Sem Value) (r:V->Hp->VK->Prop):Prop :=
 ∀ (pins:List (Addr×Obj)) (s:Shared) (σ:St) (H:Hp) (x:V) (v:Value) (Q:VK),Inv X pins σ H s->RelV x v->r x H Q ->
  wpAny (model X.prog X.w) X.A (f v) (EP X pins σ Q) X.xe s
def iJ (X:Cx) (f:Value) (r:List V->Hp->VK->Prop):Prop :=
 ∀ (pins:List (Addr×Obj)) (s:Shared) (σ:St) (H:Hp) (xs:List V) (us:List Value) (Q:VK),Inv X pins σ H s->Vals xs us->r xs H Q ->
  wpAny (model X.prog X.w) X.A (call f us) (EP X pins σ Q) X.xe s
def zP (r:R2) (ta tb:TE):TE:=fun σ H Q=>ta σ H fun x H1=>tb σ H1 fun y H2=>r x y H2 Q
def Jo (r:V->Hp->VK->Prop) (ta:TE):TE:=fun σ H Q=>ta σ H fun x H1=>r x H1 Q
def rI (C:Int->Int->Prop) (g:Int->Int->V):R2:=fun x y H Q=>∃ i j,x=.int i/\y=.int j/\C i j/\Q (g i j) H
def ou (g:Int->Int->V):R2:=fun x y H Q=>∃ i j,x=.int i/\y=.int j/\Q (g i j) H
def rU (g:Int->V):V->Hp->VK->Prop:=fun x H Q=>∃ i,x=.int i/\Q (g i) H
section
variable {X:Cx} {a b c:Expr} {ta tb tc:TE} {pos:Pos}
theorem vk (ha:PE X a ta) (hb:PE X b tb) {pins:List (Addr×Obj)} {s:Shared} {σ:St} {H:Hp} {R:V->V->Hp->Prop} (I:Inv X pins σ H s)
  (h:ta σ H fun x H1=>tb σ H1 fun y H2=>R x y H2) {Q:Value->Shared->Prop} {f:Value->Value->Sem Value}
  (hf:∀ v u s2 x y H2,Inv X pins σ H2 s2->RelV x v->RelV y u->R x y H2->wpAny (model X.prog X.w) X.A (f v u) Q X.xe s2) :
  wpAny (model X.prog X.w) X.A (eval a X.env) (fun v s₁=>wpAny (model X.prog X.w) X.A (eval b X.env) (fun u s₂=>wpAny (model X.prog X.w) X.A (f v u) Q X.xe s₂) X.xe s₁) X.xe s:=by
 refine cQ (ha pins s σ H _ I h) fun v s1 ⟨x,H1,I1,r1,q1⟩=>?_
 refine cQ (hb pins s1 σ H1 _ I1 q1) fun u s2 ⟨y,H2,I2,r2,q2⟩=>?_
 exact hf v u s2 x y H2 I2 r1 r2 q2
theorem dF {op:Operator} {r:R2} (ho:ke X (binaryOp op) r) (ha:PE X a ta) (hb:PE X b tb):PE X (.BinOp a op b pos) (zP r ta tb):=by
 intro pins s σ H Q I h
 exact wpAny_BinOp (vk ha hb I h fun v u s2 x y H2 I2 rx ry q=>ho pins s2 σ H2 x y v u Q I2 rx ry q)
theorem vm {op:UnaryOp} {r:V->Hp->VK->Prop} (ho:FZ X (unaryOp op) r) (ha:PE X a ta):PE X (.UnaryOp op a pos) (Jo r ta):=by
 intro pins s σ H Q I h
 exact UnaryOp_ (cQ (ha pins s σ H _ I h) fun v s1 ⟨x,H1,I1,r1,q1⟩=>ho pins s1 σ H1 x v Q I1 r1 q1)
theorem Dz {f:Value->Value->Sem Value} {C:Int->Int->Prop} {g:Int->Int->Int}
  (rule:∀ (i j:Int) (t u:Tok) (s:Shared) (Q:Value->Shared->Prop) (E:Value->Shared->Prop),C i j->Q (.int (g i j) s.toks) { s with toks:=s.toks + 1 }->wpAny (model X.prog X.w) X.A (f (.int i t) (.int j u)) Q E s) :
  ke X f (rI C fun i j=>.int (g i j)):=by
 intro pins s σ H x y v u Q I rx ry h
 obtain ⟨i,j,rfl,rfl,hc,q⟩:=h
 obtain ⟨t,rfl⟩:=rx
 obtain ⟨t',rfl⟩:=ry
 exact rule i j t t' s _ _ hc ⟨.int (g i j),H,I.tok _,⟨_,rfl⟩,q⟩
theorem zQ {f:Value->Value->Sem Value} {g:Int->Int->Int}
  (rule:∀ (i j:Int) (t u:Tok) (s:Shared) (Q:Value->Shared->Prop) (E:Value->Shared->Prop),Q (.int (g i j) s.toks) { s with toks:=s.toks + 1 }->wpAny (model X.prog X.w) X.A (f (.int i t) (.int j u)) Q E s) :
  ke X f (ou fun i j=>.int (g i j)):=by
 intro pins s σ H x y v u Q I rx ry h
 obtain ⟨i,j,rfl,rfl,q⟩:=h
 obtain ⟨t,rfl⟩:=rx
 obtain ⟨t',rfl⟩:=ry
 exact rule i j t t' s _ _ ⟨.int (g i j),H,I.tok _,⟨_,rfl⟩,q⟩
theorem rX {f:Value->Value->Sem Value} {g:Int->Int->Bool}
  (rule:∀ (i j:Int) (t u:Tok) (s:Shared) (Q:Value->Shared->Prop) (E:Value->Shared->Prop),Q (.bool (g i j)) s->wpAny (model X.prog X.w) X.A (f (.int i t) (.int j u)) Q E s) :
  ke X f (ou fun i j=>.bl (g i j)):=by
 intro pins s σ H x y v u Q I rx ry h
 obtain ⟨i,j,rfl,rfl,q⟩:=h
 obtain ⟨t,rfl⟩:=rx
 obtain ⟨t',rfl⟩:=ry
 exact rule i j t t' s _ _ ⟨.bl (g i j),H,I,rfl,q⟩
def zR (i j:Int):Prop:=0 < j/\j < 1073741824
def zS (i j:Int):Prop:=0<=j/\j<=1000000/\i.natAbs < 2 ^ 64
def rY (i j:Int):Prop:=(-(2 ^ 64) < i/\i < 2 ^ 64)\/(-(2 ^ 64) < j/\j < 2 ^ 64)
theorem rY.ok {i j:Int} (h:rY i j):IntMulOk i j:=by
 rcases h with ⟨h1,h2⟩ | ⟨h1,h2⟩
 ·exact .of_left (intBits_le_64 h1 h2)
 ·exact .of_right (intBits_le_64 h1 h2)
theorem nB:ke X (binaryOp .Add) (ou fun i j=>.int (i + j)):=zQ fun _ _ _ _ _ _ _ q=>add_int q
theorem DA:ke X (binaryOp .Sub) (ou fun i j=>.int (i - j)):=zQ fun _ _ _ _ _ _ _ q=>sub_int q
theorem tM:ke X (binaryOp .Mult) (rI rY fun i j=>.int (i * j)):=Dz fun _ _ _ _ _ _ _ hc q=>mul_int q hc.ok
theorem Jp:ke X (binaryOp .FloorDiv) (rI zR fun i j=>.int (i / j)):=Dz fun i j _ _ _ _ _ hc q=>by
 have h1:(0:Int) < j:=hc.1
 have h2:j < 1073741824:=hc.2
 exact floordiv_int (by omega) (by rw [Int.fdiv_eq_ediv_of_nonneg i (by omega)];exact q) (.inl (PyProof.noPylong_small (by omega)))
theorem pZ:ke X (binaryOp .Mod) (rI (fun _ j=>0 < j) fun i j=>.int (i % j)):=Dz fun i j _ _ _ _ _ hc q=>by
 have h1:(0:Int) < j:=hc
 exact mod_int' (by omega) (by rw [Int.fmod_eq_emod_of_nonneg i (by omega)];exact q)
theorem Jq:ke X (binaryOp .Pow) (rI zS fun i j=>.int (i ^ j.toNat)):=Dz fun _ _ _ _ _ _ _ hc q=>pow_int_small hc.1 hc.2.1 hc.2.2 q
theorem Nj {f:Value->Sem Value} {g:Int->Int}
  (rule:∀ (i:Int) (t:Tok) (s:Shared) (Q:Value->Shared->Prop) (E:Value->Shared->Prop),Q (.int (g i) s.toks) { s with toks:=s.toks + 1 }->wpAny (model X.prog X.w) X.A (f (.int i t)) Q E s) :
  FZ X f (rU fun i=>.int (g i)):=by
 intro pins s σ H x v Q I rx h
 obtain ⟨i,rfl,q⟩:=h
 obtain ⟨t,rfl⟩:=rx
 exact rule i t s _ _ ⟨.int (g i),H,I.tok _,⟨_,rfl⟩,q⟩
theorem vn:FZ X (unaryOp .USub) (rU fun i=>.int (-i)):=Nj fun _ _ _ _ _ q=>neg_int q
end
def ow:V->V->Bool
 | .non,.non=>true | .non,.int _=>true | .int _,.non=>true | .non,.bl _=>true | .bl _,.non=>true | .non,.str _=>true | .str _,.non=>true
 | .int _,.int _=>true | .bl _,.bl _=>true | .str _,.str _=>true | .qb _,.qb _=>true
 | .int _,.str _=>true | .str _,.int _=>true | .bl _,.str _=>true | .str _,.bl _=>true
 | _,_=>false
def Jr:R2:=fun x y H Q=>ow x y=true/\Q (.bl (decide (x=y))) H
def Js:R2:=fun x y H Q=>ow x y=true/\Q (.bl (!decide (x=y))) H
theorem Jt {i j:Int}:decide (V.int i=V.int j)=(i == j):=by
 rw [V6]
 simp
theorem Ju {i j:Bool}:decide (V.bl i=V.bl j)=(i == j):=by
 rw [V6]
 simp
theorem Jv {i j:Str}:decide (V.str i=V.str j)=(i == j):=by
 rw [V6]
 simp
theorem Jw {i j:Array UInt8}:decide (V.qb i=V.qb j)=(i.toList == j.toList):=by
 rw [V6]
 cases i
 cases j
 simp
section
variable {X:Cx} {a b c:Expr} {ta tb tc:TE} {pos:Pos}
theorem jR {pins:List (Addr×Obj)} {σ:St} {H:Hp} {s:Shared} {Q:VK} {k k':Bool} (I:Inv X pins σ H s) (q:Q (.bl k) H) (e:k=k'):EP X pins σ Q (.bool k') s:=by
 subst e
 exact ⟨.bl k,H,I,rfl,q⟩
theorem nQ:ke X (compareOp .Eq) Jr:=by
 intro pins s σ H x y v u Q I rx ry h
 obtain ⟨hs,q⟩:=h
 cases x with
 | non =>
  cases rx
  cases y with
  | non=>cases ry;exact PySem.EqNone.eq_none_none (jR I q (by simp))
  | bl j=>cases ry;exact PySem.EqNone.eq_none_bool (jR I q (by simp))
  | int j=>obtain ⟨t',rfl⟩:=ry;exact PySem.EqNone.eq_none_int (jR I q (by simp))
  | str j=>obtain ⟨t',rfl⟩:=ry;exact PySem.EqNone.eq_none_str (jR I q (by simp))
  | _=>exact absurd (show false=true from hs) UE
 | bl i =>
  cases rx
  cases y with
  | non=>cases ry;exact PySem.EqNone.eq_bool_none (jR I q (by simp))
  | bl j=>cases ry;exact eq_bool (jR I q Ju)
  | str j=>obtain ⟨t',rfl⟩:=ry;exact PySem.EqMixed.eq_bool_str (jR I q (by simp))
  | _=>exact absurd (show false=true from hs) UE
 | int i =>
  obtain ⟨t,rfl⟩:=rx
  cases y with
  | non=>cases ry;exact PySem.EqNone.eq_int_none (jR I q (by simp))
  | int j=>obtain ⟨t',rfl⟩:=ry;exact eq_int (jR I q Jt)
  | str j=>obtain ⟨t',rfl⟩:=ry;exact PySem.EqMixed.eq_int_str (jR I q (by simp))
  | _=>exact absurd (show false=true from hs) UE
 | str i =>
  obtain ⟨t,rfl⟩:=rx
  cases y with
  | non=>cases ry;exact PySem.EqNone.eq_str_none (jR I q (by simp))
  | bl j=>cases ry;exact PySem.EqMixed.eq_str_bool (jR I q (by simp))
  | int j=>obtain ⟨t',rfl⟩:=ry;exact PySem.EqMixed.eq_str_int (jR I q (by simp))
  | str j=>obtain ⟨t',rfl⟩:=ry;exact eq_str (jR I q Jv)
  | _=>exact absurd (show false=true from hs) UE
 | qb i =>
  obtain ⟨t,rfl⟩:=rx
  cases y with
  | qb j=>obtain ⟨t',rfl⟩:=ry;exact PySem.W.eq_bytes (jR I q Jw)
  | _=>exact absurd (show false=true from hs) UE
 | _=>cases y <;> exact absurd (show false=true from hs) UE
theorem zT:ke X (compareOp .NotEq) Js:=by
 intro pins s σ H x y v u Q I rx ry h
 obtain ⟨hs,q⟩:=h
 cases x with
 | non =>
  cases rx
  cases y with
  | non=>cases ry;exact PySem.EqNone.ne_none_none (jR I q (by simp))
  | bl j=>cases ry;exact PySem.EqNone.ne_none_bool (jR I q (by simp))
  | int j=>obtain ⟨t',rfl⟩:=ry;exact PySem.EqNone.ne_none_int (jR I q (by simp))
  | str j=>obtain ⟨t',rfl⟩:=ry;exact PySem.EqNone.ne_none_str (jR I q (by simp))
  | _=>exact absurd (show false=true from hs) UE
 | bl i =>
  cases rx
  cases y with
  | non=>cases ry;exact PySem.EqNone.ne_bool_none (jR I q (by simp))
  | bl j=>cases ry;exact ne_bool (jR I q (congrArg not Ju))
  | str j=>obtain ⟨t',rfl⟩:=ry;exact PySem.EqMixed.ne_bool_str (jR I q (by simp))
  | _=>exact absurd (show false=true from hs) UE
 | int i =>
  obtain ⟨t,rfl⟩:=rx
  cases y with
  | non=>cases ry;exact PySem.EqNone.ne_int_none (jR I q (by simp))
  | int j=>obtain ⟨t',rfl⟩:=ry;exact ne_int (jR I q (congrArg not Jt))
  | str j=>obtain ⟨t',rfl⟩:=ry;exact PySem.EqMixed.ne_int_str (jR I q (by simp))
  | _=>exact absurd (show false=true from hs) UE
 | str i =>
  obtain ⟨t,rfl⟩:=rx
  cases y with
  | non=>cases ry;exact PySem.EqNone.ne_str_none (jR I q (by simp))
  | bl j=>cases ry;exact PySem.EqMixed.ne_str_bool (jR I q (by simp))
  | int j=>obtain ⟨t',rfl⟩:=ry;exact PySem.EqMixed.ne_str_int (jR I q (by simp))
  | str j=>obtain ⟨t',rfl⟩:=ry;exact ne_str (jR I q (congrArg not Jv))
  | _=>exact absurd (show false=true from hs) UE
 | qb i =>
  obtain ⟨t,rfl⟩:=rx
  cases y with
  | qb j=>obtain ⟨t',rfl⟩:=ry;exact PySem.W.ne_bytes (jR I q (congrArg not Jw))
  | _=>exact absurd (show false=true from hs) UE
 | _=>cases y <;> exact absurd (show false=true from hs) UE
theorem zU:ke X (compareOp .Lt) (ou fun i j=>.bl (decide (i < j))):=rX fun _ _ _ _ _ _ _ q=>lt_int q
theorem zV:ke X (compareOp .LtE) (ou fun i j=>.bl (decide (i<=j))):=rX fun _ _ _ _ _ _ _ q=>le_int q
theorem zW:ke X (compareOp .Gt) (ou fun i j=>.bl (decide (j < i))):=rX fun _ _ _ _ _ _ _ q=>gt_int q
theorem zX:ke X (compareOp .GtE) (ou fun i j=>.bl (decide (j<=i))):=rX fun _ _ _ _ _ _ _ q=>ge_int q
theorem aI (b:Expr) {op:CmpOp} (h:op≠.In:=by decide) (h2:op≠.NotIn:=by decide):behindInMarks op b=false:=by
 have e1:(op == CmpOp.In)=false:=by cases op <;> first | rfl | exact absurd rfl h
 have e2:(op == CmpOp.NotIn)=false:=by cases op <;> first | rfl | exact absurd rfl h2
 cases b <;> simp [behindInMarks,e1,e2]
theorem zY {op:CmpOp} {r:R2} (ho:ke X (compareOp op) r) (ha:PE X a ta) (hb:PE X b tb) (hm:behindInMarks op b=false):PE X (.Compare a [op] [b] pos) (zP r ta tb):=by
 intro pins s σ H Q I h
 exact wpAny_Compare1 (vk ha hb I h fun v u s2 x y H2 I2 rx ry q=>ho pins s2 σ H2 x y v u Q I2 rx ry q) hm
def tN (t:TE):TT:=fun σ H Q=>t σ H fun x H'=>∃ k,x=.bl k/\Q k H'
theorem eZ {op:CmpOp} {r:R2} (ho:ke X (compareOp op) r) (ha:PE X a ta) (hb:PE X b tb) (hm:behindInMarks op b=false):PT X (.Compare a [op] [b] pos) (tN (zP r ta tb)):=by
 intro pins s σ H Q I h
 refine wpAny_isTrue_Compare1 (cQ (ha pins s σ H _ I h) fun v s1 ⟨x,H1,I1,r1,q1⟩=>cQ (hb pins s1 σ H1 _ I1 q1) fun u s2 ⟨y,H2,I2,r2,q2⟩ =>
  cQ (ho pins s2 σ H2 x y v u _ I2 r1 r2 q2) fun c s3 ⟨z,H3,I3,r3,k,e,q3⟩=>?_) hm
 subst e
 cases r3
 exact wpAny_truthy_bool ⟨H3,I3,q3⟩
theorem ky:(sizeLine:Nat) < 2 ^ 63:=by rw [sizeLine_eq];decide
theorem vals1 {x:V} {us:List Value} (r:Vals [x] us):∃ u,us=[u]/\RelV x u:=by
 cases r with
 | cons r1 r2=>cases r2;exact ⟨_,rfl,r1⟩
theorem vals2 {x y:V} {us:List Value} (r:Vals [x,y] us):∃ u w',us=[u,w']/\RelV x u/\RelV y w':=by
 cases r with
 | cons r1 r2 =>
  cases r2 with
  | cons r3 r4=>cases r4;exact ⟨_,_,rfl,r1,r3⟩
end
section
variable {prog:Program} {w:World} {A:Around} {E:Value->Shared->Prop} {s:Shared} {K:Zfr} {x dx C f:Addr} {mA:Str->Option Value} {name:Str} {v:Value}
end
section
variable {P:Program} {w:World} {H H':Hp} {h h':Heap} {a C dx:Addr} {fs fs':List (Str×V)}
end
structure rC (K:Zfr) (C:Addr) (f:Str) (v:V) (u:Value):Prop where
 at_:PySem.W.findIn K (.ref C) f=some (some u)
 rel:RelV v u
 get:PySem.W.specialIn K u "__get__" = some none
 cp:PySem.W.copiedNames.contains f=false
section
variable {X:Cx} {pins:List (Addr×Obj)} {σ:St} {H:Hp} {s:Shared} {a C dx:Addr} {fs:List (Str×V)} {f:Str} {v:V} {A:Around} {E:Value->Shared->Prop}
end
section
variable {X:Cx} {o e value:Expr} {f:Str} {pos pos' tpos:Pos} {ta tv:TE}
end
section
variable {X:Cx} {pins:List (Addr×Obj)} {σ:St} {H:Hp} {s:Shared} {A:Around} {E:Value->Shared->Prop} {Q:Value->Shared->Prop} {c:Value} {b:Bool}
end
structure fT (k:Nat) (A:Around):Prop where
 hd:A.handled=none
 dp:A.depth + 3 * k + 5 < recursionLimit
 un:A.units + 16 * k + 200 < cLine
 gd:A.guards=some []
theorem fT.mono {j k:Nat} {A:Around} (r:fT k A) (h:j<=k):fT j A:=⟨r.hd,by have:=r.dp;omega,by have:=r.un;omega,r.gd⟩
theorem fT.deeper {k:Nat} {A:Around} (r:fT (k + 1) A) (env:Env):fT k (A.deeper env) :=
 ⟨r.hd,by have:=r.dp;show A.depth + 1 + 3 * k + 5 < _;omega,by have:=r.un;show A.units + 3 + 16 * k + 200 < _;omega,r.gd⟩
theorem fT.depth {k:Nat} {A:Around} (r:fT k A):A.depth < recursionLimit:=by have:=r.dp;omega
theorem fT.units {k:Nat} {A:Around} (r:fT k A):A.units + 64 < cLine:=by have:=r.un;omega
def zZ:TA:=fun _ H Q=>Q [] H
def tO (ta:TE) (tr:TA):TA:=fun σ H Q=>ta σ H fun x H1=>tr σ H1 fun xs H2=>Q (x :: xs) H2
section
variable {X:Cx} {e:Expr} {es:List Expr} {te:TE} {t:TA} {pos:Pos}
theorem ay:PA X [] zZ:=fun _ _ _ _ H Q I h=>Calls.spliced_nil ⟨[],H,I,.nil,h⟩
theorem ao (ha:PE X e te) (hr:PA X es t) (hs:starEach (e :: es) X.env=(false,eval e X.env) :: starEach es X.env:=by rfl):PA X (e :: es) (tO te t):=by
 intro pos pins s σ H Q I h
 rw [hs]
 show wpAny _ _ (spliced ((false,eval e X.env) :: backTo pos (starEach es X.env))) _ _ s
 refine Calls.spliced_cons (cQ (ha pins s σ H _ I h) fun u s1 ⟨x,H1,I1,r1,q1⟩=>?_)
 exact cQ (hr pos pins s1 σ H1 _ I1 q1) fun us s2 ⟨xs,H2,I2,r2,q2⟩=>⟨x :: xs,H2,I2,.cons r1 r2,q2⟩
def z8 (t:TA):TE:=fun σ H Q=>t σ H fun xs H1=>xs.length<=sizeLine/\∀ p,H1 p=none->Q (.ref p) (upd H1 p (.tup xs))
def z9 (t:TA):TE:=fun σ H Q=>t σ H fun xs H1=>xs.length<=sizeLine/\∀ p,H1 p=none->Q (.ref p) (upd H1 p (.lst xs))
theorem kA {x1} (h:PA X es t):PE X (.Tuple es x1 pos) (z8 t):=by
 intro pins s σ H Q I hq
 refine wpAny_Tuple_spliced (cQ (h pos pins s σ H _ I hq) fun us s1 ⟨xs,H1,I1,r,z,q⟩=>⟨by rw [<- r.length];exact z,?_⟩)
 have hf:H1 s1.heap.objs.size=none:=I1.hok.fresh (Ux _)
 refine ⟨.ref s1.heap.objs.size,upd H1 s1.heap.objs.size (.tup xs),I1.laid (t':=s1.toks) (fun b u e=>UC _ e) (Ux _) ?_,rfl,q _ hf⟩
 exact ⟨z,us,r,⟨_,UQ _ rfl,rfl,rfl,_,rfl⟩⟩
theorem kY (h:PA X es t):PE X (.List es pos) (z9 t):=by
 intro pins s σ H Q I hq
 refine wpAny_List_spliced (cQ (h pos pins s σ H _ I hq) fun us s1 ⟨xs,H1,I1,r,z,q⟩=>⟨by rw [<- r.length];exact z,?_⟩)
 have hf:H1 s1.heap.objs.size=none:=I1.hok.fresh (Ux _)
 refine ⟨.ref s1.heap.objs.size,upd H1 s1.heap.objs.size (.lst xs),I1.laid (t':=s1.toks) (fun b u e=>UC _ e) (Ux _) ?_,rfl,q _ hf⟩
 exact ⟨z,us,0,r,UQ _ rfl⟩
end
abbrev Sp:=List V->Hp->VK->XK->Prop
abbrev oR:=List Env->Hp->Shared->XK->Value->Shared->Prop
structure rZ (P:Program) (w:World) (K:Zfr) (mg:Str->Option Value) (base:Heap) (A:Around) (outer:List Env) (s:Shared) (H:Hp):Prop where
 frames:A.frames=some outer
 mod:Mod K mg base
 bs:∀ b o,base.get? b=some o->s.heap.get? b=some o/\H b=none
 tq:base.objs.size<=s.heap.objs.size
 lF:s.heap.FunFrames base outer
 yw:∀ b∈frs outer,H b=none
 hok:kg P w H s.heap
 bare:AllBare s.gens
def CE (outer:List Env) (P:Program) (w:World) (H:Hp) (s:Shared) (Q:VK) (u:Value) (s':Shared):Prop :=
 ∃ v H',s'.os=s.os/\AllBare s'.gens/\Un (frs outer) [] H H' s.heap s'.heap/\kg P w H' s'.heap/\RelV v u/\Q v H'
def CR (CX:oR) (outer:List Env) (P:Program) (w:World) (H:Hp) (s:Shared) (Q:VK) (E:XK) (r:Result) (s':Shared):Prop :=
 match r with
 | .ok (.ret u)=>CE outer P w H s Q u s'
 | .ok _=>False
 | .error e=>CX outer H s E e s'
structure aA (P:Program) (w:World) (K:Zfr) (mg:Str->Option Value) (base:Heap) (CX:oR) (k:Nat) (f:Addr) (fd:FuncData) (ps:List Str) (sp:Sp):Prop where
 len:∀ vs H Q E,sp vs H Q E->vs.length=ps.length
 run:∀ (A:Around) (outer:List Env) (s:Shared) (H:Hp) (args:Args) (us:List Value) (vs:List V) (Q:VK) (E:XK),fT k A->rZ P w K mg base A outer s H->BindsTo s fd args (ps.zip us)->Vals vs us->sp vs H Q E ->
  codeAny (model P w) A (.call (.ref f) args) (CR CX outer P w H s Q E) s
theorem aA.imp {P:Program} {w:World} {K:Zfr} {mg:Str->Option Value} {base:Heap} {CX:oR} {k:Nat} {f:Addr} {fd:FuncData} {ps:List Str} {sp Jx:Sp} (F:aA P w K mg base CX k f fd ps sp)
  (h:∀ vs H Q E,Jx vs H Q E->sp vs H Q E):aA P w K mg base CX k f fd ps Jx :=
 ⟨fun vs H Q E q=>F.len vs H Q E (h _ _ _ _ q),fun A outer s H args us vs Q E hr he hb hv hs=>F.run A outer s H args us vs Q E hr he hb hv (h _ _ _ _ hs)⟩
section
variable {X:Cx} {pins:List (Addr×Obj)} {σ:St} {H:Hp} {s s':Shared}
theorem Inv.F0 (I:Inv X pins σ H s):rZ X.prog X.w X.K X.mg X.base X.A X.stack s H :=
 ⟨I.ok.frames,I.ok.mod,I.bs,UZ I.ok.tq I.sz,I.stack,I.oP,I.hok,I.bare⟩
theorem Inv.after {Q:VK} {u:Value} (I:Inv X pins σ H s) (h:CE X.stack X.prog X.w H s Q u s'):EP X pins σ Q u s':=by
 obtain ⟨v,H',os,bare,un,hok,r,q⟩:=h
 obtain ⟨hh,g,d,t,os'⟩:=s'
 obtain rfl:os'=s.os:=os
 exact ⟨v,H',I.call (h':=hh) (g':=g) (d':=d) (t':=t) (ch:=[]) un hok bare (fun b z=>absurd z (by simp)),r,q⟩
end
def nR (sp:Sp) (my:List V) (E:XK) (t:TA):TE:=fun σ H Q=>t σ H fun vs H1=>sp (vs ++ my) H1 Q E
def Binds (K:Zfr) (fd:FuncData) (ps:List Str) (ds:List Value):Prop :=
 ∀ (s:Shared) (us:List Value),K.In s.heap->(us ++ ds).length=ps.length->BindsTo s fd ⟨us,[]⟩ (ps.zip (us ++ ds))
theorem Binds.all {K:Zfr} {fd:FuncData} {ps:List Str} (h:∀ us:List Value,us.length=ps.length->bindArgs fd ⟨us,[]⟩=pure (ps.zip us)):Binds K fd ps []:=fun s us _ hl=>by
 rw [VG] at hl ⊢
 exact .of_eq (h us hl)
def Passes (CX:oR) (X:Cx) (E:XK):Prop:=∀ (pins:List (Addr×Obj)) (σ:St) (H:Hp) (s:Shared) (e:Value) (s':Shared),Inv X pins σ H s->CX X.stack H s E e s'->X.xe e s'
section
variable {X:Cx} {CX:oR} {k:Nat} {f C:Addr} {fd:FuncData} {ps:List Str} {sp:Sp} {my:List V} {ds:List Value} {E:XK} {x m:Str} {p pos apos:Pos} {e o:Expr} {es:List Expr} {ta:TE} {t:TA}
theorem vo {pins:List (Addr×Obj)} {σ:St} {H:Hp} {s:Shared} {Q:VK} {us:List Value} {vs:List V} (F:aA X.prog X.w X.K X.mg X.base CX k f fd ps sp) (hr:fT k X.A) (hb:Binds X.K fd ps ds) (hd:Vals my ds) (hx:Passes CX X E)
  (I:Inv X pins σ H s) (r:Vals vs us) (h:sp (vs ++ my) H Q E):wpAny (model X.prog X.w) X.A (call (.ref f) us) (EP X pins σ Q) X.xe s:=by
 have r2:Vals (vs ++ my) (us ++ ds):=r.append hd
 have hl:(us ++ ds).length=ps.length:=by rw [<- r2.length];exact F.len _ _ _ _ h
 refine wpAny_call (codeAny_mono (F.run X.A X.stack s H ⟨us,[]⟩ (us ++ ds) (vs ++ my) Q E hr I.F0 (hb s us I.Dk hl) r2 h) fun r s' hq=>?_)
 cases r with
 | error e=>exact hx pins σ H s e s' I hq
 | ok fl =>
  cases fl with
  | ret u=>exact I.after hq
  | next=>exact False.elim hq
  | brk=>exact False.elim hq
  | cont=>exact False.elim hq
theorem F3 (F:aA X.prog X.w X.K X.mg X.base CX k f fd ps sp) (hr:fT k X.A) (hg:Gl X x) (hm:X.mg x=some (.ref f)) (hk:PySem.W.keepIn X.K (.ref f)=true) (hb:Binds X.K fd ps ds) (hd:Vals my ds) (hx:Passes CX X E)
  (ha:PA X (e :: es) t) (hdb:(x == ("__debug__" : Str))=false:=by decide) (he:starEach (e :: es) X.env=(false,eval e X.env) :: starEach es X.env:=by rfl) (hpl:(backTo pos (starEach es X.env)).any (·.1)=false:=by rfl) :
  PE X (.Call (.Name x p) (e :: es) [] pos) (nR sp my E t):=by
 intro pins s σ H Q I h
 refine wpAny_Call_Name_kw (Jh I hg hm ?_ hdb)
 refine PySem.W.callWith_K (h₀:=X.base) I.ok.mod.FL hk (cQ (ha pos pins s σ H _ I h) fun us s1 ⟨vs,H1,I1,r,q⟩=>⟨I1.Dk,?_⟩) he hpl
 exact vo F hr hb hd hx I1 r q
end
section
variable {X:Cx} {CX:oR} {k:Nat} {f C:Addr} {fd:FuncData} {ps ks:List Str} {sp:Sp} {E:XK} {x m:Str} {p pos apos kpos:Pos} {e o:Expr} {es:List Expr} {kws:List Keyword} {te ta:TE} {t tk:TA} {nm:Option Str}
variable {g:List Value->List Value->List Value} {gV:List V->List V->List V}
end
structure aD (N P:List Str) (sc:Scope):Prop where
 kind:sc.kind=.function
 co:sc.isCoroutine=false
 gen:sc.isGenerator=false
 nd:N.Nodup
 pre:N.take P.length=P
 par:∀ x∈P,sc.names.lookup x=some .local\/sc.names.lookup x=some .cell
 vt:∀ y∈sc.names,y.2≠.free
theorem Jy {kindOf:Str->Option NameKind} {x:Str}:∀ {binds:List (Str×Value)} {m:Str->Option Value},(∀ v,(x,v) ∉ binds)->bindL kindOf binds m x=m x
 | [],_,_=>rfl
 | (n,v) :: r,m,h=>by
  unfold bindL
  rw [Jy fun w hw=>h w (Uz _ hw)]
  split
  ·have:x≠n:=by rintro rfl;exact h v Uy
   simp [this]
  ·rfl
theorem Jz {kindOf:Str->Option NameKind} {x:Str}:∀ {binds:List (Str×Value)} {m:Str->Option Value},(∀ v,(x,v) ∉ binds)->bindC kindOf binds m x=m x
 | [],_,_=>rfl
 | (n,v) :: r,m,h=>by
  unfold bindC
  rw [Jz fun w hw=>h w (Uz _ hw)]
  split
  ·rfl
  ·have:x≠n:=by rintro rfl;exact h v Uy
   simp [this]
theorem JA {kindOf:Str->Option NameKind} {x:Str} {v:Value}:∀ {P:List Str} {vs:List Value} {i:Nat} {m:Str->Option Value},P.Nodup->P[i]?=some x->vs[i]?=some v->kindOf x=some .local ->
  bindL kindOf (P.zip vs) m x=some v
 | [],_,_,_,_,h,_,_=>by simp at h
 | _ :: _,[],_,_,_,_,h,_=>by simp at h
 | p :: P,w :: vs,0,m,nd,h1,h2,hk=>by
  simp at h1 h2;subst h1;subst h2
  show bindL kindOf ((p,w) :: P.zip vs) m p=_
  unfold bindL
  rw [Jy fun v hv=>(Ve.mp nd).1 (List.of_mem_zip hv).1,if_pos hk]
  simp
 | p :: P,w :: vs,i + 1,m,nd,h1,h2,hk=>by
  show bindL kindOf ((p,w) :: P.zip vs) m x=_
  unfold bindL
  exact JA (i:=i) (Ve.mp nd).2 (by simpa using h1) (by simpa using h2) hk
theorem JB {kindOf:Str->Option NameKind} {x:Str} {v:Value}:∀ {P:List Str} {vs:List Value} {i:Nat} {m:Str->Option Value},P.Nodup->P[i]?=some x->vs[i]?=some v->kindOf x≠some .local ->
  bindC kindOf (P.zip vs) m x=some v
 | [],_,_,_,_,h,_,_=>by simp at h
 | _ :: _,[],_,_,_,_,h,_=>by simp at h
 | p :: P,w :: vs,0,m,nd,h1,h2,hk=>by
  simp at h1 h2;subst h1;subst h2
  show bindC kindOf ((p,w) :: P.zip vs) m p=_
  unfold bindC
  rw [Jz fun v hv=>(Ve.mp nd).1 (List.of_mem_zip hv).1,if_neg hk]
  simp
 | p :: P,w :: vs,i + 1,m,nd,h1,h2,hk=>by
  show bindC kindOf ((p,w) :: P.zip vs) m x=_
  unfold bindC
  exact JB (i:=i) (Ve.mp nd).2 (by simpa using h1) (by simpa using h2) hk
def start (N:List Str) (vs:List V):St:=vs.map some ++ List.replicate (N.length - vs.length) none
def gn (CX:oR) (P:Program) (w:World) (K:Zfr) (mg:Str->Option Value) (base:Heap) (N:List Str) (qual:Str) (scope:Scope) (f:Addr) (cd:Value) (A:Around) (outer:List Env) (s:Shared) (H:Hp) (E:XK):Cx where
 prog:=P
 w:=w
 K:=K
 mg:=mg
 base:=base
 A:=A.deeper (envOfC qual scope s.heap.objs.size f cd)
 N:=N
 s₀:=s
 H₀:=H
 env:=envOfC qual scope s.heap.objs.size f cd
 outer:=outer
 stack:=envOfC qual scope s.heap.objs.size f cd :: outer
 ex:=[]
 calm:=true
 fn:=fun _=>true
 pn:=[]
 xe:=fun e s'=>wpAny (model P w) (A.deeper (envOfC qual scope s.heap.objs.size f cd)) («leaving» (envOfC qual scope s.heap.objs.size f cd) e) (fun _ s''=>CX outer H s E e s'') (fun e' s''=>CX outer H s E e' s'') s'
theorem JC {sc:Scope} {n:Nat} {x:Str} (h:sc.names.lookup x=some .cell):∃ c,(cellsFrom n sc.names []).lookup x=some c:=by
 have q:=PySem.W.cellsFrom_some sc.names n [] (.inl h)
 exact V1.mp q
theorem Nk {CX:oR} {P:Program} {w:World} {K:Zfr} {mg:Str->Option Value} {base:Heap} {N ps:List Str} {qual:Str} {scope:Scope} {f:Addr} {cd:Value} {A:Around} {outer:List Env} {s s1:Shared} {H:Hp} {E:XK} {us:List Value} {vs:List V}
  (S:aD N ps scope) (hd:A.handled=none) (e0:rZ P w K mg base A outer s H) (hl:vs.length=ps.length) (r:Vals vs us)
  (x:InCallC s s.heap.objs.size (bindL (envOfC qual scope s.heap.objs.size f cd).kindOf (ps.zip us) fun _=>none) (cellsFrom (s.heap.objs.size + 1) scope.names []) (bindC (envOfC qual scope s.heap.objs.size f cd).kindOf (ps.zip us) fun _=>none) s1) :
  Inv (gn CX P w K mg base N qual scope f cd A outer s H E) [] (start N vs) H s1:=by
 have hpl:ps.length<=N.length:=by have:=congrArg List.length S.pre;rw [Vs] at this;omega
 obtain ⟨h1,tk,rfl,hk⟩:=x.done
 have Aa:∀ b:Addr,b ∉ (gn CX P w K mg base N qual scope f cd A outer s H E).ex:=fun b z=>absurd (show b∈([]:List Addr) from z) (by simp)
 refine ⟨⟨e0.mod,S.kind,rfl,rfl,Ux _,fun y z c h1 h2=>?_,fun y hy=>?_,fun y c _ h=>?_,fun _=>hd,Around.frames_deeper e0.frames,.inr ⟨rfl,rfl⟩,fun b z=>absurd z (Aa b),e0.bs,e0.tq,fun b _ _=>Aa b,fun b z=>absurd z (Aa b),e0.lF,e0.yw⟩,
  rfl,e0.bare,Un.kept hk,⟨_,x.toInCall.ns,fun i y v h1 h2 h3=>?_⟩,fun y c h=>⟨_,x.cell y c h⟩,e0.hok.fresh (Ux _),fun y c h=>?_,fun p hp=>absurd (show p∈([]:List (Addr×Obj)) from hp) (by simp),e0.hok.kept hk,?_⟩
 ·exact name_of_addr x.apart (PySem.mem_of_lookup h1) (PySem.mem_of_lookup h2)
 ·have hy:scope.names.lookup y=some .cell\/scope.names.lookup y=some .free:=hy
  rcases hy with hy | hy
  ·exact JC hy
  ·exact absurd rfl (S.vt _ (PySem.mem_of_lookup hy))
 ·exact V0 (x.above y c (PySem.mem_of_lookup h))
 ·have hi:i < vs.length:=by
   unfold start at h2
   by_cases hi:i < vs.length
   ·exact hi
   ·rw [UR (by simpa using hi)] at h2
    rw [V4] at h2
    split at h2 <;> cases h2
  have ha:vs[i]?=some v:=by
   unfold start at h2
   rw [UM (by simpa using hi),UB] at h2
   cases e:vs[i]? with
   | none=>rw [e] at h2;cases h2
   | some a=>rw [e] at h2;cases h2;rfl
  obtain ⟨u,hu,rv⟩:=r.get ha
  have hp:ps[i]?=some y:=by
   rw [<- S.pre,List.getElem?_take_of_lt (by omega)];exact h1
  have JD:ps.Nodup:=by rw [<- S.pre];exact S.nd.sublist (List.take_sublist _ _)
  refine ⟨u,rv,?_⟩
  rcases S.par y (UJ hp) with k | k
  ·exact .inl ⟨k,JA JD hp hu k⟩
  ·obtain ⟨c,e⟩:=JC (n:=s.heap.objs.size + 1) k
   refine .inr ⟨.inl k,c,e,?_⟩
   have q:=x.cell y c e
   rw [JB JD hp hu (by show scope.names.lookup y≠_;rw [k];decide)] at q
   exact q
 ·exact e0.hok.fresh (V0 (x.above y c (PySem.mem_of_lookup h)))
 ·unfold start
  show _=N.length
  rw [UG,Uu,Wb]
  omega
theorem tP {CX:oR} {P:Program} {w:World} {K:Zfr} {mg:Str->Option Value} {base:Heap} {k:Nat} {f:Addr} {name qual:Str} {params:Arguments} {body:List Stmt} {scope:Scope} {dV kV doc pm cdv ct oc:Value} {an od:Option Addr}
  {osl:Array (Option Value)} {N ps:List Str} {sp:Sp} (lk:K.lookup f=some ⟨oc,od,.func (PySem.W.fnOf name qual params body scope dV kV doc pm an cdv ct),osl⟩) (hcd:PySem.W.codeIn K cdv qual=true) (S:aD N ps scope)
  (len:∀ vs H Q E,sp vs H Q E->vs.length=ps.length)
  (hbody:∀ (A:Around) (outer:List Env) (s:Shared) (H:Hp) (vs:List V) (Q:VK) (E:XK),fT k (A.deeper (envOfC qual scope s.heap.objs.size f cdv))->sp vs H Q E ->
   ∃ t,oQ (gn CX P w K mg base N qual scope f cdv A outer s H E) body t/\t { nx:=fun _ H'=>Q .non H',rt:=Q } (start N vs) H) :
  aA P w K mg base CX (k + 1) f (PySem.W.fnOf name qual params body scope dV kV doc pm an cdv ct) ps sp:=by
 refine ⟨len,fun A outer s H args us vs Q E hr e0 hb r p3=>?_⟩
 have hl:=len _ _ _ _ p3
 have KX:K.In s.heap:=e0.mod.FL.keeps fun b o e=>(e0.bs b o e).1
 have lim:s.heap.NoLimit:=e0.mod.nolimit.keeps fun b o e=>(e0.bs b o e).1
 have hkind:∀ y∈ps.zip us,scope.names.lookup y.1=some .local\/(scope.names.lookup y.1=some .cell/\((cellsFrom (s.heap.objs.size + 1) scope.names []).lookup y.1).isSome=true):=fun ⟨n,v⟩ hy=>by
  rcases S.par n (List.of_mem_zip hy).1 with q | q
  ·exact .inl q
  ·exact .inr ⟨q,PySem.W.cellsFrom_some _ _ _ (.inl q)⟩
 refine codeAny_call_function hr.depth (KX _ _ lk) rfl S.co S.gen rfl (PySem.W.codeRec_of KX hcd) (hb _ _ _ _ ?_)
 refine wpAny_newFunctionEnv_cells S.kind hkind fun env he s1 x=>?_
 subst he
 refine ⟨lim.keeps x.toInCall.keep,codeAny_func ?_⟩
 obtain ⟨t,ht,hq⟩:=hbody A outer s H vs Q E (hr.deeper _) p3
 have I:Inv (gn CX P w K mg base N qual scope f cdv A outer s H E) [] (start N vs) H s1:=Nk S hr.hd e0 hl r x
 refine wpAny_mono (ht [] s1 (start N vs) H _ I hq) (fun fl s' hs=>?_) fun e s' hs=>hs
 have fin:∀ {σ':St} {H':Hp} {v:V} {u:Value},Inv (gn CX P w K mg base N qual scope f cdv A outer s H E) [] σ' H' s'->RelV v u->Q v H'->CE outer P w H s Q u s' :=
  fun {σ' H' v u} J rv q=>⟨v,H',J.os,J.bare,J.base,J.hok,rv,q⟩
 cases fl with
 | ret u =>
  obtain ⟨v,σ',H',J,rv,q⟩:=hs
  exact fin J rv q
 | next =>
  obtain ⟨σ',H',J,q⟩:=hs
  exact fin (v:=V.non) (u:=Value.none) J rfl q
 | brk =>
  obtain ⟨_,_,_,q⟩:=hs
  exact False.elim q
 | cont =>
  obtain ⟨_,_,_,q⟩:=hs
  exact False.elim q
section
variable {X:Cx} {x:Str} {p pos:Pos} {e:Expr} {es:List Expr} {t:TA} {id T:String} {r:List V->Hp->VK->Prop}
def F4 (r:List V->Hp->VK->Prop) (t:TA):TE:=fun σ H Q=>t σ H fun vs H1=>r vs H1 Q
theorem jl (hc:iJ X (.builtin id) r) (hg:Gl X x) (hm:X.mg x=none) (hv:bootBuiltins x=some (.builtin id)) (ha:PA X (e :: es) t) (hn:x≠"__name__" := by decide) (hdb:(x == ("__debug__" : Str))=false:=by decide)
  (he:starEach (e :: es) X.env=(false,eval e X.env) :: starEach es X.env:=by rfl) (hpl:(backTo pos (starEach es X.env)).any (·.1)=false:=by rfl):PE X (.Call (.Name x p) (e :: es) [] pos) (F4 r t):=by
 intro pins s σ H Q I h
 refine wpAny_Call_Name_kw (yx I hg hm hv ?_ hn hdb)
 exact PyProof.Rows.callWith_builtin1 (cQ (ha pos pins s σ H _ I h) fun us s1 ⟨vs,H1,I1,r1,q1⟩=>hc pins s1 σ H1 vs us Q I1 r1 q1) he hpl
theorem g7 (hc:iJ X (.type T) r) (hg:Gl X x) (hm:X.mg x=none) (hv:bootBuiltins x=some (.type T)) (ha:PA X (e :: es) t) (hn:x≠"__name__" := by decide) (hdb:(x == ("__debug__" : Str))=false:=by decide)
  (he:starEach (e :: es) X.env=(false,eval e X.env) :: starEach es X.env:=by rfl) (hpl:(backTo pos (starEach es X.env)).any (·.1)=false:=by rfl):PE X (.Call (.Name x p) (e :: es) [] pos) (F4 r t):=by
 intro pins s σ H Q I h
 refine wpAny_Call_Name_kw (yx I hg hm hv ?_ hn hdb)
 exact PyProof.Rows.callWith_type1 (cQ (ha pos pins s σ H _ I h) fun us s1 ⟨vs,H1,I1,r1,q1⟩=>hc pins s1 σ H1 vs us Q I1 r1 q1) he hpl
end
end L2
namespace HT
open PySem PyProof.Rows
theorem Nl (A:Around) (s:Shared) (a:Int) (t:Tok) (c:Int) (u:Tok):∃ e,SeqAt.EqAt A s (.int a t) (.int c u) e/\(e=true↔a=c) :=
 ⟨(a == c),SeqAt.EqAt.int_int a t c u,by simp⟩
section
open PySem.SeqAt
open PySem.AutoSeq1 (wpAny_loadPart')
open PySem.MeetsSeq PySem.MeetsSeq2 PySem.MeetsSeq3
end
section
variable {prog:Program} {w:World} {A:Around} {E:Value->Shared->Prop} {s:Shared}
theorem Nm {t b:Addr} {vs ws:List Value} {Q:Value->Shared->Prop} (ht:IsTup s.heap t vs.toArray) (hb:IsTup s.heap b ws.toArray) (hv:vs≠[])
  (h1:ws=[]->Q (.ref t) s) (h2:ws≠[]->Q (.ref s.heap.objs.size) { s with heap:=s.heap.push { cls:=.type "tuple",data:=.seq (vs ++ ws).toArray } })
  (hsz:vs.length + ws.length<=sizeLine):wpAny (model prog w) A (binaryOp .Add (.ref t) (.ref b)) Q E s:=by
 obtain ⟨⟨cls,dd,data,sl⟩,ho,hc,n,hd⟩:=id ht
 obtain ⟨⟨F5,dd2,data2,sl2⟩,ho2,hc2,n2,hd2⟩:=id hb
 simp only at hc hd hc2 hd2
 subst hc hd hc2 hd2
 have e:vs.toArray ++ ws.toArray=(vs ++ ws).toArray:=by simp
 by_cases hw:ws=[]
 ·exact concat_meets ⟨_,ho,rfl⟩ ⟨_,ho2,rfl⟩ noFill_tuple_add seq_tuple_add PySem.F.slot_tuple_add PySem.F.entry_tuple_add (PySem.F.args_tuple_add_2 _ _)
   (tuple_addW1 t b vs.toArray ws.toArray n n2 dd dd2 sl sl2 (by simpa using hv) (by simp [hw])) ⟨ho,ho2,h1 hw⟩
 ·refine concat_meets ⟨_,ho,rfl⟩ ⟨_,ho2,rfl⟩ noFill_tuple_add seq_tuple_add PySem.F.slot_tuple_add PySem.F.entry_tuple_add (PySem.F.args_tuple_add_2 _ _)
   (tuple_addW2 t b vs.toArray ws.toArray n n2 dd dd2 sl sl2 (by simpa using hv) (by simpa using hw) (by rw [UI,UI];exact hsz)) ⟨ho,ho2,?_⟩
  rw [e]
  exact h2 hw
def cN (n d:Nat):Option Int->Nat
 | none=>d
 | some v=>if v < 0 then (v + (n:Int)).toNat else min v.toNat n
theorem Nn (n d:Nat):cN n d none=d:=rfl
theorem F6 (n d k:Nat):cN n d (some (k:Int))=min k n:=by
 show (if (k:Int) < 0 then ((k:Int) + (n:Int)).toNat else min (k:Int).toNat n)=min k n
 rw [if_neg (by omega),UK]
theorem vw (n d:Nat) (hd:d<=n) (o:Option Int):cN n d o<=n:=by
 cases o with
 | none=>exact hd
 | some v =>
  show (if v < 0 then (v + (n:Int)).toNat else min v.toNat n)<=n
  by_cases hv:v < 0
  ·rw [if_pos hv];omega
  ·rw [if_neg hv];exact Nat.min_le_right _ _
theorem JE (v:Int) (n d:Nat):(if v < 0 then max (v + (n:Int)) 0 else min v (n:Int))=((cN n d (some v):Nat):Int):=by
 show (if v < 0 then max (v + (n:Int)) 0 else min v (n:Int))=(((if v < 0 then (v + (n:Int)).toNat else min v.toNat n):Nat):Int)
 by_cases hv:v < 0
 ·simp only [if_pos hv];omega
 ·simp only [if_neg hv];omega
theorem Np (lo hi:Option Int) (n:Nat):Builtin.Slice.sliceAdjust lo hi 1 (n:Int)=(((cN n 0 lo:Nat):Int),((cN n n hi:Nat):Int)):=by
 have h1:¬ ((1:Int) < 0):=by omega
 unfold Builtin.Slice.sliceAdjust
 simp only [h1,if_false]
 refine WJ ?_ ?_
 ·cases lo with
  | none=>rfl
  | some v=>exact JE v n 0
 ·cases hi with
  | none=>rfl
  | some v=>exact JE v n n
theorem Nq (i j:Nat):Builtin.Slice.slicePlaces (i:Int) (j:Int) 1=j - i:=by
 unfold Builtin.Slice.slicePlaces
 have h1:(1:Int) > 0:=by omega
 simp only [h1,if_true,Int.ediv_one]
 split <;> omega
theorem JF {v:Value} {o:Option Int} {Q:Option Int->Shared->Prop} (p:IsPart v o) (h:Q o s):wpAny (model prog w) A (Builtin.Slice.slicePartIndex v) Q E s:=by
 cases p with
 | none=>exact slicePart_none h
 | int i t=>exact slicePart_int h
theorem JG {sl:Addr} {vl vu:Value} {lo hi:Option Int} {n:Nat} {Q:Int×Int×Nat->Shared->Prop} (hs:s.heap.IsSliceOf sl vl vu .none) (pl:IsPart vl lo) (pu:IsPart vu hi)
  (h:Q (((cN n 0 lo:Nat):Int),1,cN n n hi - cN n 0 lo) s):wpAny (model prog w) A (Builtin.Slice.sliceApplied (.ref sl) (pure (n:Int))) Q E s:=by
 obtain ⟨os,hos,hcs,hds⟩:=id hs
 unfold Builtin.Slice.sliceApplied Builtin.Slice.sliceFields
 refine wpAny_bind (wpAny_bind (wpAny_field hos hds (x:=vl) rfl (wpAny_bind (wpAny_field hos hds (x:=vu) rfl (wpAny_bind (wpAny_field hos hds (x:=.none) rfl (wpAny_pure ?_)))))))
 refine wpAny_bind (slicePart_none ?_)
 show wpAny _ _ (if ((1:Int) == 0)=true then _ else _) _ _ s
 rw [if_neg (by decide)]
 refine wpAny_bind (JF pl (wpAny_bind (JF pu (wpAny_bind (wpAny_pure ?_)))))
 show wpAny _ _ (match Builtin.Slice.sliceAdjust lo hi 1 (n:Int) with | (lo,hi)=>pure (lo,(1:Int),Builtin.Slice.slicePlaces lo hi 1)) _ _ s
 rw [Np lo hi n]
 show wpAny _ _ (pure (((cN n 0 lo:Nat):Int),(1:Int),Builtin.Slice.slicePlaces ((cN n 0 lo:Nat):Int) ((cN n n hi:Nat):Int) 1)) _ _ s
 rw [Nq]
 exact wpAny_pure h
theorem Nr (xs:Array Value) (i k:Nat):((List.range k).filterMap fun (m:Nat)=>xs[((i:Int) + (m:Int) * 1).toNat]?).toArray=((xs.toList.drop i).take k).toArray:=by
 have e:(fun (m:Nat)=>xs[((i:Int) + (m:Int) * 1).toNat]?)=fun m=>xs[i + m]?:=by
  funext m
  have:((i:Int) + (m:Int) * 1).toNat=i + m:=by omega
  rw [this]
 rw [e]
 have:=pick_run xs i k
 rw [List.filterMap_map] at this
 have e2:((fun x=>xs[x]?) ∘ fun x=>i + x)=fun m=>xs[i + m]?:=rfl
 rw [e2] at this
 rw [this]
theorem Nt {t sl:Addr} {items:Array Value} {vl vu:Value} {lo hi:Option Int} {Q:Value->Shared->Prop} (ht:IsTup s.heap t items) (hs:s.heap.IsSliceOf sl vl vu .none) (pl:IsPart vl lo) (pu:IsPart vu hi)
  (hw:¬ (cN items.size 0 lo=0/\cN items.size items.size hi=items.size))
  (h:Q (.ref s.heap.objs.size) { s with heap:=s.heap.push { cls:=.type "tuple",data:=.seq ((items.toList.drop (cN items.size 0 lo)).take (cN items.size items.size hi - cN items.size 0 lo)).toArray } })
  (hsz:items.size<=sizeLine):wpAny (model prog w) A (getItem (.ref t) (.ref sl)) Q E s:=by
 have oS:sizeOk (.seq ((items.toList.drop (cN items.size 0 lo)).take (cN items.size items.size hi - cN items.size 0 lo)).toArray):=by
  show ((items.toList.drop (cN items.size 0 lo)).take (cN items.size items.size hi - cN items.size 0 lo)).toArray.size<=sizeLine
  rw [UI,Vs,WK,Vz]
  omega
 have hj:cN items.size items.size hi<=items.size:=vw _ _ (Ux _) hi
 obtain ⟨os,hos,hcs,hds⟩:=id hs
 have F7:s.TypeIs (.ref sl) "slice" := ⟨os,hos,hcs⟩
 unfold getItem
 try with_reducible refine wpAny_holding ?_
 first | refine wpAny_bind (wpAny_pure ?_) | skip
 refine wpAny_bind (wpAny_sequenceKey ht.typeIs (by decide) ?_)
 refine wpAny_bind (wpAny_callSpecial?_slot (name:=Str.ofString "__getitem__") ht.typeIs PyProof.Rows.slot_tuple_getitem
  (wpAny_call_entry PyProof.Rows.slot_tuple_getitem ht.typeIs entry_tuple_getitem ?_ (args_tuple_getitem _ _)))
 show wpAny _ _ (Builtin.Tuple.tupleItemsOf (.ref t) >>= _) _ _ s
 refine wpAny_bind (tupleItemsOf_ ht ?_)
 refine wpAny_bind (wpAny_typeOf F7 ?_)
 rw [if_pos (by decide)]
 refine wpAny_bind (JG hs pl pu ?_)
 have hno:¬ ((((cN items.size 0 lo:Nat):Int) == 0 && (1:Int) == 1 && (cN items.size items.size hi - cN items.size 0 lo) == items.size)=true):=by
  intro q
  rw [UO,UO] at q
  have q1:((cN items.size 0 lo:Nat):Int)=0:=eq_of_beq q.1.1
  have q2:cN items.size items.size hi - cN items.size 0 lo=items.size:=eq_of_beq q.2
  exact hw ⟨by omega,by omega⟩
 show wpAny _ _ (if (((cN items.size 0 lo:Nat):Int) == 0 && (1:Int) == 1 && (cN items.size items.size hi - cN items.size 0 lo) == items.size)=true then _ else _) _ _ s
 rw [if_neg hno,Nr]
 first
  | exact wpAny_bind (m:=Builtin.Tuple.tupleExact _) (wpAny_newObj_type (wpAny_pure ⟨_,rfl,wpAny_pure h⟩) oS)
  | exact wpAny_bind (m:=Builtin.Tuple.tupleExact _) (wpAny_newObj_type (wpAny_bind (wpAny_pure (wpAny_pure ⟨_,rfl,wpAny_pure h⟩))) oS)
  | exact wpAny_bind (wpAny_bind (m:=Builtin.Tuple.tupleExact _) (wpAny_newObj_type (wpAny_pure (wpAny_pure ⟨_,rfl,wpAny_pure h⟩)) oS))
  | exact wpAny_bind (wpAny_bind (m:=Builtin.Tuple.tupleExact _) (wpAny_newObj_type (wpAny_pure ⟨_,rfl,wpAny_pure h⟩) oS))
end
end HT
namespace L2
open PySem PySem.Spec PyProof.Rows
abbrev TO:=St->Hp->(Option Int->Hp->Prop)->Prop
def PO (X:Cx) (e:Option Expr) (t:TO):Prop :=
 ∀ (pins:List (Addr×Obj)) (s:Shared) (σ:St) (H:Hp) (Q:Option Int->Hp->Prop),Inv X pins σ H s->t σ H Q ->
  wpAny (model X.prog X.w) X.A (evalPart e X.env) (fun u s'=>∃ o H',Inv X pins σ H' s'/\IsPart u o/\Q o H') X.xe s
def oT:TO:=fun _ H Q=>Q none H
def tQ (t:TE):TO:=fun σ H Q=>t σ H fun x H1=>∃ i,x=.int i/\Q (some i) H1
theorem Nu {ns:List Int}:∀ {us:List Value},Vals (ns.map V.int) us->IntsAre us ns:=by
 induction ns with
 | nil=>intro us r;rw [Vg] at r;cases r;exact .nil
 | cons n ns ih =>
  intro us r
  rw [UT] at r
  cases r with
  | cons r1 r2 =>
   obtain ⟨t,e⟩:=r1
   subst e
   exact .cons n t (ih r2)
section
variable {X:Cx} {e:Expr} {te:TE} {lo hi:Option Expr} {tl th:TO} {pos p2:Pos}
theorem F8:PO X none oT:=by
 intro pins s σ H Q I h
 rw [evalPart_none]
 exact wpAny_pure ⟨none,H,I,.none,h⟩
theorem Ab (h:PE X e te):PO X (some e) (tQ te):=by
 intro pins s σ H Q I hw
 rw [evalPart_some]
 refine cQ (h pins s σ H _ I hw) fun u s1 ⟨x,H1,I1,r1,q1⟩=>?_
 obtain ⟨i,rfl,q⟩:=q1
 obtain ⟨t,rfl⟩:=r1
 exact ⟨some i,H1,I1,.int i t,q⟩
def DB (X:Cx) (r:V->Option Int->Option Int->Hp->VK->Prop):Prop :=
 ∀ (pins:List (Addr×Obj)) (s:Shared) (σ:St) (H:Hp) (x:V) (v vl vu:Value) (lo hi:Option Int) (sl:Addr) (Q:VK),Inv X pins σ H s->RelV x v->s.heap.IsSliceOf sl vl vu .none->IsPart vl lo->IsPart vu hi->r x lo hi H Q ->
  ∃ T id,typeLookup (.type T) "__getitem__" = pure (some (.builtin id))/\s.TypeIs v T/\wpAny (model X.prog X.w) X.A (getItem v (.ref sl)) (EP X pins σ Q) X.xe s
def JH (r:V->Option Int->Option Int->Hp->VK->Prop) (te:TE) (tl th:TO):TE:=fun σ H Q=>te σ H fun x H1=>tl σ H1 fun l H2=>th σ H2 fun u H3=>r x l u H3 Q
theorem DC {r:V->Option Int->Option Int->Hp->VK->Prop} (hr:DB X r) (he:PE X e te) (hl:PO X lo tl) (hu:PO X hi th):PE X (.Subscript e (.Slice lo hi none p2) pos) (JH r te tl th):=by
 intro pins s σ H Q I h
 refine Subscript_ (cQ (he pins s σ H _ I h) fun v s1 ⟨x,H1,I1,r1,q1⟩=>?_)
 refine wpAny_Slice (cQ (hl pins s1 σ H1 _ I1 q1) fun vl s2 ⟨l,H2,I2,pl,q2⟩=>cQ (hu pins s2 σ H2 _ I2 q2) fun vu s3 ⟨u,H3,I3,pu,q3⟩=>?_)
 rw [evalPart_none]
 refine wpAny_pure ?_
 have I4:Inv X pins σ H3 { s3 with heap:=s3.heap.push { cls:=.type "slice",data:=.fields #[vl,vu,.none] } }:=I3.kept (t':=s3.toks) fun b ob q=>UC _ q
 obtain ⟨T,id,hT,ht,hg⟩:=hr pins { s3 with heap:=s3.heap.push { cls:=.type "slice",data:=.fields #[vl,vu,.none] } } σ H3 x v vl vu l u s3.heap.objs.size Q I4 r1 (Heap.IsSliceOf.new ..) pl pu q3
 show wpAny (model X.prog X.w) X.A (subscriptTail e (.Slice lo hi none p2) v (.ref s3.heap.objs.size)) (EP X pins σ Q) X.xe { s3 with heap:=s3.heap.push { cls:=.type "slice",data:=.fields #[vl,vu,.none] } }
 exact tail_any (ops:=[.ref s3.heap.objs.size,v]) ht hT hg (by with_unfolding_all rfl)
def lI (xs:List V) (lo hi:Option Int):List V:=(xs.drop (HT.cN xs.length 0 lo)).take (HT.cN xs.length xs.length hi - HT.cN xs.length 0 lo)
theorem JI (xs:List V) (lo hi:Option Int):(lI xs lo hi).length<=xs.length:=by
 unfold lI
 rw [Vs,WK]
 omega
def F9 (K:Zfr):V->Option Int->Option Int->Hp->VK->Prop:=fun x lo hi H Q=>∃ a xs,x=.ref a/\eJ K H a xs /\
 ¬ (HT.cN xs.length 0 lo=0/\HT.cN xs.length xs.length hi=xs.length)/\∀ p,H p=none->Q (.ref p) (upd H p (.tup (lI xs lo hi)))
theorem vz:DB X (F9 X.K):=by
 intro pins s σ H x v vl vu lo hi sl Q I rx hs pl pu h
 obtain ⟨a,xs,rfl,hx,hw,q⟩:=h
 cases rx
 obtain ⟨its,r,ht,hz⟩:=I.tuple hx
 have hlen:its.toArray.size=xs.length:=by rw [UI];exact r.length.symm
 refine ⟨"tuple",_,PyProof.Rows.slot_tuple_getitem.lookup,ht.typeIs,?_⟩
 refine HT.Nt ht hs pl pu (by rw [hlen];exact hw) ?_ (by rw [hlen];exact hz)
 rw [hlen]
 refine ⟨.ref s.heap.objs.size,_,I.laid (t':=s.toks) (o:=.tup (lI xs lo hi)) (fun b ob q=>UC _ q) (Ux _) ?_,rfl,q _ (I.hok.fresh (Ux _))⟩
 exact ⟨UZ (JI xs lo hi) hz,_,(r.drop (HT.cN xs.length 0 lo)).take (HT.cN xs.length xs.length hi - HT.cN xs.length 0 lo),mK.new _ _⟩
def Ac (K:Zfr):R2:=fun x y H Q=>∃ a b xs ys,x=.ref a/\y=.ref b/\eJ K H a xs/\eJ K H b ys/\xs≠[]/\xs.length + ys.length<=sizeLine /\
 (ys=[]->Q (.ref a) H)/\(ys≠[]->∀ p,H p=none->Q (.ref p) (upd H p (.tup (xs ++ ys))))
theorem Vals.lp {xs:List V} {us:List Value} (r:Vals xs us):us=[]↔xs=[]:=by
 cases r with
 | nil=>simp
 | cons _ _=>simp
theorem Nv:ke X (binaryOp .Add) (Ac X.K):=by
 intro pins s σ H x y v u Q I rx ry h
 obtain ⟨a,b,xs,ys,rfl,rfl,ha,hb,hx,hz,q1,q2⟩:=h
 cases rx
 cases ry
 obtain ⟨its,r1,p1,_⟩:=I.tuple ha
 obtain ⟨its2,r2,p2,_⟩:=I.tuple hb
 refine HT.Nm p1 p2 (fun z=>hx (r1.lp.mp z)) (fun z=>⟨.ref a,H,I,rfl,q1 (r2.lp.mp z)⟩) (fun z=>?_) (by rw [<- r1.length,<- r2.length];exact hz)
 refine ⟨.ref s.heap.objs.size,_,I.laid (t':=s.toks) (o:=.tup (xs ++ ys)) (fun b ob q=>UC _ q) (Ux _) ?_,rfl,q2 (fun w=>z (r2.lp.mpr w)) _ (I.hok.fresh (Ux _))⟩
 exact ⟨by rw [UG];exact hz,_,r1.append r2,mK.new _ _⟩
end
def lq (n:Nat) (i:Int):Option Nat:=if 0<=i then (if i < n then some i.toNat else none) else if -(n:Int)<=i then some (i + n).toNat else none
def gG {α:Type} (xs:List α) (i:Int):Option α:=(lq xs.length i).bind fun j=>xs[j]?
theorem Ga {n:Nat} {i:Int} {j:Nat} (h:lq n i=some j):seqIndex? i n=some j/\j < n/\-(n:Int)<=i/\i < n:=by
 unfold lq at h
 by_cases h0:0<=i
 ·rw [if_pos h0] at h
  by_cases h1:i < n
  ·rw [if_pos h1] at h
   have e:i.toNat=j:=UD h
   exact ⟨by rw [seqIndex_of h0 h1,e],by omega,by omega,h1⟩
  ·rw [if_neg h1] at h;cases h
 ·rw [if_neg h0] at h
  by_cases h1:-(n:Int)<=i
  ·rw [if_pos h1] at h
   have e:(i + n).toNat=j:=UD h
   exact ⟨by rw [seqIndex_neg (by omega) h1,e],by omega,h1,by omega⟩
  ·rw [if_neg h1] at h;cases h
theorem JJ {α:Type} {xs:List α} {i:Int} {v:α} (h:gG xs i=some v):∃ j,seqIndex? i xs.length=some j/\xs[j]?=some v/\j < xs.length/\-(xs.length:Int)<=i/\i < xs.length:=by
 unfold gG at h
 cases e:lq xs.length i with
 | none=>rw [e] at h;cases h
 | some j =>
  rw [e] at h
  obtain ⟨h1,h2,h3,h4⟩:=Ga e
  exact ⟨j,h1,h,h2,h3,h4⟩
theorem Ad {α:Type} {xs:List α} {j:Nat} {v:α} (h:xs[j]?=some v):gG xs (j:Int)=some v:=by
 have hj:j < xs.length:=(Uw.mp h).1
 have e:lq xs.length (j:Int)=some j:=by
  unfold lq
  rw [if_pos (by omega),if_pos (by omega)];simp
 unfold gG;rw [e];exact h
def r6 (b:Expr):Prop:=∀ o i,subscripted b false o i=operate [o,i] (getItem o i)
def Ae (X:Cx) (r:R2):Prop :=
 ∀ (value slice:Expr) (pins:List (Addr×Obj)) (s:Shared) (σ:St) (H:Hp) (x y:V) (v u:Value) (Q:VK),Inv X pins σ H s->RelV x v->RelV y u->r x y H Q ->
  subscripted slice false v u=operate [v,u] (getItem v u)->wpAny (model X.prog X.w) X.A (subscriptTail value slice v u) (EP X pins σ Q) X.xe s
def Af (X:Cx) (id:String) (r:V->List V->Hp->VK->Prop):Prop :=
 ∀ (pins:List (Addr×Obj)) (s:Shared) (σ:St) (H:Hp) (x:V) (xs:List V) (v:Value) (us:List Value) (Q:VK),Inv X pins σ H s->RelV x v->Vals xs us->r x xs H Q ->
  wpAny (model X.prog X.w) X.A (call (.builtin id) (v :: us)) (EP X pins σ Q) X.xe s
section
variable {X:Cx} {a b:Expr} {ta tb:TE} {pos:Pos}
theorem bT {r:R2} (hr:Ae X r) (ha:PE X a ta) (hb:PE X b tb) (hs:r6 b):PE X (.Subscript a b pos) (zP r ta tb):=by
 intro pins s σ H Q I h
 exact Subscript_ (vk ha hb I h fun v u s2 x y H2 I2 rx ry q=>hr a b pins s2 σ H2 x y v u Q I2 rx ry q (hs _ _))
def vA (K:Zfr):R2:=fun x y H Q=>∃ p xs i v,x=.ref p/\y=.int i/\iN K H p xs/\gG xs i=some v/\Q v H
def vB (K:Zfr):R2:=fun x y H Q=>∃ p xs i v,x=.ref p/\y=.int i/\eJ K H p xs/\gG xs i=some v/\Q v H
theorem lX:Ae X (vA X.K):=by
 intro value slice pins s σ H x y v u Q I rx ry h hs
 obtain ⟨p,xs,i,z,rfl,rfl,hq,he,q⟩:=h
 cases rx
 obtain ⟨t,rfl⟩:=ry
 obtain ⟨its,r,pl,hz⟩:=I.list hq
 obtain ⟨j,h1,h2,h3,h4,h5⟩:=JJ he
 obtain ⟨w,ew,rw'⟩:=r.get h2
 have hl:=r.length
 have hn:=ky
 have fin:EP X pins σ Q w s:=⟨z,H,I,rw',q⟩
 by_cases h0:0<=i
 ·have hj:i.toNat=j:=by
   rw [seqIndex_of h0 h5] at h1
   exact UD h1
  exact item_listR pl.isList h0 (by omega) (by rw [hj];simpa using ew) fin hs
 ·have hj:(i + (its.toArray.size:Int)).toNat=j:=by
   rw [seqIndex_neg (by omega) h4] at h1
   rw [UI,<- hl]
   exact UD h1
  exact subscriptTail_builtinR (x:=w) pl.isList.typeIs slot_list_getitem.lookup
   (wpAny_getItem_list_neg (Q:=fun r s'=>r=w/\EP X pins σ Q r s') pl.isList (by omega) (by rw [UI] <;> omega) (by omega) (by rw [hj];simpa using ew) ⟨rfl,fin⟩) hs
theorem eu:Ae X (vB X.K):=by
 intro value slice pins s σ H x y v u Q I rx ry h hs
 obtain ⟨p,xs,i,z,rfl,rfl,hq,he,q⟩:=h
 cases rx
 obtain ⟨t,rfl⟩:=ry
 obtain ⟨its,r,pl,hz⟩:=I.tuple hq
 obtain ⟨j,h1,h2,h3,h4,h5⟩:=JJ he
 obtain ⟨w,ew,rw'⟩:=r.get h2
 have hl:=r.length
 have hn:=ky
 have fin:EP X pins σ Q w s:=⟨z,H,I,rw',q⟩
 exact subscriptTail_builtinR (x:=w) pl.typeIs slot_tuple_getitem.lookup
  (getItem_tuple (j:=j) (Q:=fun r s'=>r=w/\EP X pins σ Q r s') pl (by omega) (by omega) (by rw [UI,<- hl];exact h1) (by simpa using ew) ⟨rfl,fin⟩) hs
theorem Nw (its:List Value) (n j:Nat) (u:Value):Obj.mapSeq (·.setIfInBounds j u) { cls:=.type "list",data:=.seq its.toArray n }={ cls:=.type "list",data:=.seq (its.set j u).toArray n }:=by
 simp [Obj.mapSeq]
theorem Inv.lst {pins:List (Addr×Obj)} {σ:St} {H:Hp} {s:Shared} {p:Addr} {xs:List V} (I:Inv X pins σ H s) (h:H p=some (.lst xs)) :
  ∃ (its:List Value) (n:Nat),Vals xs its/\s.heap.get? p=some { cls:=.type "list",data:=.seq its.toArray n }/\xs.length<=sizeLine:=by
 obtain ⟨z,its,n,r,e⟩:=I.hok p _ h
 exact ⟨its,n,r,e,z⟩
theorem Inv.vC {pins:List (Addr×Obj)} {σ:St} {H:Hp} {s:Shared} {p:Addr} {xs ys:List V} {its its':List Value} {n n':Nat} {f:Obj->Obj} (I:Inv X pins σ H s) (h:H p=some (.lst xs))
  (ho:s.heap.get? p=some { cls:=.type "list",data:=.seq its.toArray n }) (hf:f { cls:=.type "list",data:=.seq its.toArray n }={ cls:=.type "list",data:=.seq its'.toArray n' }) (r:Vals ys its') (hz:ys.length<=sizeLine) (t:Nat) :
  Inv X pins σ (upd H p (.lst ys)) { s with heap:=s.heap.update p f,toks:=t }:=by
 have e:(s.heap.update p f).get? p=some { cls:=.type "list",data:=.seq its'.toArray n' }:=by
  rw [VC f ho (by rw [hf] <;> rfl),hf]
 refine I.write (x:=p) (e:=p) (by rw [h];trivial) (.inl rfl) (fun b u hb q=>(Vc _ _ (Ne.symm hb)).trans q) ⟨_,e⟩ ?_
 exact ⟨hz,its',n',r,e⟩
def tR:V->V->V->Hp->(Hp->Prop)->Prop:=fun o i v H Q=>∃ p xs k j,o=.ref p/\i=.int k/\H p=some (.lst xs)/\lq xs.length k=some j/\Q (upd H p (.lst (xs.set j v)))
theorem yC:zI X tR:=by
 intro pins s σ H o i v ov iv u Q I ro ri rv h
 obtain ⟨p,xs,k,j,rfl,rfl,hp,hj,q⟩:=h
 cases ro
 obtain ⟨t,rfl⟩:=ri
 obtain ⟨its,n,r,ho,hz⟩:=I.lst hp
 obtain ⟨h1,h2,h3,h4⟩:=Ga hj
 have hl:=r.length
 have hn:=ky
 have I':Inv X pins σ (upd H p (.lst (xs.set j v))) { s with heap:=s.heap.update p (Obj.mapSeq (·.setIfInBounds j u)) } :=
  I.vC hp ho (Nw its n j u) (r.set rv j) (by rw [Vo];exact hz) s.toks
 by_cases h0:0<=k
 ·have hk:k.toNat=j:=by
   rw [seqIndex_of h0 h4] at h1
   exact UD h1
  exact PySem.W.ki_setAt ho h0 (by omega) (by rw [UI,<- hl];exact h4) (by rw [hk];exact ⟨_,I',q⟩)
 ·have hk:(k + (its.toArray.size:Int)).toNat=j:=by
   rw [seqIndex_neg (by omega) h3] at h1
   rw [UI,<- hl]
   exact UD h1
  exact PySem.W.ki_setBack ho (by omega) (by rw [UI,<- hl];exact h3) (by omega) (by rw [hk];exact ⟨_,I',q⟩)
theorem Nx (lo hi:Option Int) (n:Nat):(sliceBounds lo hi none n).1=((HT.cN n 0 lo:Nat):Int)/\(sliceBounds lo hi none n).2.1=((HT.cN n n hi:Nat):Int)/\(sliceBounds lo hi none n).2.2=1:=by
 refine ⟨?_,?_,rfl⟩
 ·cases lo with
  | none=>simp [sliceBounds,HT.cN]
  | some i =>
   simp only [sliceBounds,HT.cN,Option.getD_none,show (1:Int) > 0 by decide,if_true]
   by_cases h:i < 0
   ·simp only [h,if_true] <;> omega
   ·simp only [h,if_false] <;> omega
 ·cases hi with
  | none=>simp [sliceBounds,HT.cN]
  | some i =>
   simp only [sliceBounds,HT.cN,Option.getD_none,show (1:Int) > 0 by decide,if_true]
   by_cases h:i < 0
   ·simp only [h,if_true] <;> omega
   ·simp only [h,if_false] <;> omega
theorem Ny (its:List Value) (lo hi:Option Int):slicePick its.toArray lo hi none=((its.drop (HT.cN its.length 0 lo)).take (HT.cN its.length its.length hi - HT.cN its.length 0 lo)).toArray:=by
 obtain ⟨h1,h2,h3⟩:=Nx lo hi its.toArray.size
 unfold slicePick
 rw [h1,h2,h3]
 simp only [sliceRange_one,pick_run,UI] <;> rfl
def Ag (K:Zfr):V->Option Int->Option Int->Hp->VK->Prop:=fun x lo hi H Q=>∃ a xs,x=.ref a/\iN K H a xs/\∀ p,H p=none->Q (.ref p) (upd H p (.lst (lI xs lo hi)))
theorem Gb:DB X (Ag X.K):=by
 intro pins s σ H x v vl vu lo hi sl Q I rx hs pl pu h
 obtain ⟨a,xs,rfl,hx,q⟩:=h
 cases rx
 obtain ⟨its,r,ht,hz⟩:=I.list hx
 have hlen:=r.length
 refine ⟨"list",_,slot_list_getitem.lookup,ht.isList.typeIs,?_⟩
 refine wpAny_getItem_list_slice ht.isList hs pl pu .none (by simp) ?_ (by rw [UI] <;> omega)
 rw [Ny,<- hlen]
 refine ⟨.ref s.heap.objs.size,_,I.laid (t':=s.toks) (o:=.lst (lI xs lo hi)) (fun b ob q=>UC _ q) (Ux _) ?_,rfl,q _ (I.hok.fresh (Ux _))⟩
 exact ⟨UZ (JI xs lo hi) hz,_,0,(r.drop (HT.cN xs.length 0 lo)).take (HT.cN xs.length xs.length hi - HT.cN xs.length 0 lo),UQ _ rfl⟩
def jL:V->Bool
 | .non=>true
 | .bl _=>true
 | .int _=>true
 | .str _=>true
 | _=>false
def tT:V->V->Bool
 | .non,.non=>true
 | .bl a,.bl b=>a == b
 | .bl a,.int b=>(if a then 1 else 0) == b
 | .int a,.bl b=>a == (if b then 1 else 0)
 | .int a,.int b=>a == b
 | .str a,.str b=>a == b
 | _,_=>false
theorem vD {A:Around} {s:Shared} {y x:V} {u v:Value} (ry:RelV y u) (rx:RelV x v) (fy:jL y=true) (fx:jL x=true):SeqAt.EqAt A s u v (tT y x):=by
 cases y with
 | non =>
  cases ry
  cases x with
  | non=>cases rx;exact SeqAt.EqAt.same _
  | bl b=>cases rx;exact SeqAt.EqAt.none_bool b
  | int b=>obtain ⟨t,rfl⟩:=rx;exact SeqAt.EqAt.none_int b t
  | str b=>obtain ⟨t,rfl⟩:=rx;exact SeqAt.EqAt.none_str b t
  | _=>exact absurd (show false=true from fx) UE
 | bl a =>
  cases ry
  cases x with
  | non=>cases rx;exact SeqAt.EqAt.bool_none a
  | bl b=>cases rx;exact SeqAt.EqAt.bool_bool a b
  | int b=>obtain ⟨t,rfl⟩:=rx;exact SeqAt.EqAt.bool_int a b t
  | str b=>obtain ⟨t,rfl⟩:=rx;exact SeqAt.EqAt.bool_str a b t
  | _=>exact absurd (show false=true from fx) UE
 | int a =>
  obtain ⟨t',rfl⟩:=ry
  cases x with
  | non=>cases rx;exact SeqAt.EqAt.int_none a t'
  | bl b=>cases rx;exact SeqAt.EqAt.int_bool a t' b
  | int b=>obtain ⟨t,rfl⟩:=rx;exact SeqAt.EqAt.int_int a t' b t
  | str b=>obtain ⟨t,rfl⟩:=rx;exact SeqAt.EqAt.int_str a t' b t
  | _=>exact absurd (show false=true from fx) UE
 | str a =>
  obtain ⟨t',rfl⟩:=ry
  cases x with
  | non=>cases rx;exact SeqAt.EqAt.str_none a t'
  | bl b=>cases rx;exact SeqAt.EqAt.str_bool a t' b
  | int b=>obtain ⟨t,rfl⟩:=rx;exact SeqAt.EqAt.str_int a t' b t
  | str b=>obtain ⟨t,rfl⟩:=rx;exact SeqAt.EqAt.str_str a t' b t
  | _=>exact absurd (show false=true from fx) UE
 | _=>exact absurd (show false=true from fy) UE
def r9 (x:V) (u:Value):Bool:=match u with
 | .none=>tT .non x
 | .bool b=>tT (.bl b) x
 | .int i _=>tT (.int i) x
 | .str z _=>tT (.str z) x
 | _=>false
theorem JK {x y:V} {u:Value} (r:RelV y u) (f:jL y=true):r9 x u=tT y x:=by
 cases y with
 | non=>cases r;rfl
 | bl b=>cases r;rfl
 | int i=>obtain ⟨t,rfl⟩:=r;rfl
 | str z=>obtain ⟨t,rfl⟩:=r;rfl
 | _=>exact absurd (show false=true from f) UE
theorem Gd {x:V}:∀ {xs:List V} {us:List Value},Vals xs us->xs.all jL=true->us.any (r9 x)=xs.any fun y=>tT y x
 | _,_,.nil,_=>rfl
 | y :: xs,u :: us,.cons r t,f=>by
  rw [List.all_cons,UO] at f
  rw [Vu,Vu,JK r f.1,Gd t f.2]
theorem Ge {A:Around} {s:Shared} {x:V} {v:Value} (rx:RelV x v) (fx:jL x=true):∀ {xs:List V} {us:List Value},Vals xs us->xs.all jL=true->∀ u∈us,SeqAt.EqAt A s u v (r9 x u)
 | _,_,.nil,_=>fun u hu=>by cases hu
 | y :: xs,u :: us,.cons r t,f=>fun u' hu=>by
  rw [List.all_cons,UO] at f
  rcases UU.mp hu with rfl | hu
  ·rw [JK r f.1];exact vD r rx f.1 fx
  ·exact Ge rx fx t f.2 u' hu
def tU (x:V) (xs:List V):Bool:=xs.any fun y=>tT y x
def Gf (K:Zfr) (neg:Bool):R2:=fun x y H Q=>∃ p xs,y=.ref p/\(iN K H p xs\/eJ K H p xs)/\jL x=true/\xs.all jL=true/\Q (.bl (if neg then !tU x xs else tU x xs)) H
theorem Gg:ke X (compareOp .NotIn) (Gf X.K true):=by
 intro pins s σ H x y v u Q I rx ry h
 obtain ⟨p,xs,rfl,hq,fx,fs,q⟩:=h
 cases ry
 rcases hq with hq | hq
 ·obtain ⟨its,r,pl,hz⟩:=I.list hq
  refine SeqAt.notIn_listAt (r9 x) pl.isList (fun w hw=>Ge rx fx r fs w (by simpa using hw)) ⟨.bl _,H,I,rfl,?_⟩
  rw [show its.toArray.any (r9 x)=its.any (r9 x) by simp,Gd r fs]
  exact q
 ·obtain ⟨its,r,pl,hz⟩:=I.tuple hq
  refine SeqAt.notIn_tupleAt (r9 x) pl (fun w hw=>Ge rx fx r fs w (by simpa using hw)) ⟨.bl _,H,I,rfl,?_⟩
  rw [show its.toArray.any (r9 x)=its.any (r9 x) by simp,Gd r fs]
  exact q
theorem jM:iJ X (.builtin "len") (fun xs H Q=>∃ p ys,xs=[.ref p]/\(iN X.K H p ys\/eJ X.K H p ys)/\Q (.int ys.length) H):=by
 intro pins s σ H xs us Q I r h
 obtain ⟨p,ys,rfl,hq,q⟩:=h
 obtain ⟨u,rfl,rx⟩:=vals1 r
 cases rx
 have hn:=ky
 rcases hq with hq | hq
 ·obtain ⟨its,r',pl,hz⟩:=I.list hq
  have hlen:=r'.length
  exact Calls.call_len_list pl.isList (by simp only [UI] <;> omega) ⟨.int ys.length,H,I.tok _,⟨s.toks + 1,by rw [UI,hlen]⟩,q⟩
 ·obtain ⟨its,r',pl,hz⟩:=I.tuple hq
  have hlen:=r'.length
  exact len_tuple pl (by simp only [UI] <;> omega) ⟨.int ys.length,H,I.tok _,⟨s.toks + 1,by rw [UI,hlen]⟩,q⟩
theorem Gh:iJ X (.type "list") (fun xs H Q=>∃ p ys,xs=[.ref p]/\(iN X.K H p ys\/eJ X.K H p ys)/\∀ l,H l=none->Q (.ref l) (upd H l (.lst ys))):=by
 intro pins s σ H xs us Q I r h
 obtain ⟨p,ys,rfl,hq,q⟩:=h
 obtain ⟨u,rfl,rx⟩:=vals1 r
 cases rx
 have fin:∀ (its:List Value),Vals ys its->ys.length<=sizeLine->∀ (h':Heap) (c':Nat),(∀ b o',s.heap.get? b=some o'->h'.get? b=some o') ->
   h'.get? s.heap.objs.size=some { cls:=.type "list",dict:=none,data:=.seq its.toArray c',slots:=#[] }->EP X pins σ Q (.ref s.heap.objs.size) { s with heap:=h' }:=fun its r' hz h' c' kp e =>
  ⟨.ref s.heap.objs.size,_,I.laid (t':=s.toks) kp (Ux _) (show cP X.prog X.w _ h' _ (.lst ys) from ⟨hz,its,c',r',e⟩),rfl,q _ (I.hok.fresh (Ux _))⟩
 rcases hq with hq | hq
 ·obtain ⟨its,r',pl,hz⟩:=I.list hq
  have hlen:=r'.length
  obtain ⟨o,ho,hc,n,hd⟩:=pl.isList
  exact call_list_seq p (.inl rfl) ho hc hd (fun h' c' kp e=>fin its r' hz h' c' kp e) (by simp only [UI] <;> omega)
 ·obtain ⟨its,r',pl,hz⟩:=I.tuple hq
  have hlen:=r'.length
  obtain ⟨o,ho,hc,n,hd⟩:=pl
  exact call_list_seq p (.inr rfl) ho hc hd (fun h' c' kp e=>fin its r' hz h' c' kp e) (by simp only [UI] <;> omega)
theorem nC:iJ X (.type "tuple") (fun xs H Q=>∃ p ys,xs=[.ref p]/\((iN X.K H p ys/\∀ l,H l=none->Q (.ref l) (upd H l (.tup ys)))\/(eJ X.K H p ys/\Q (.ref p) H))):=by
 intro pins s σ H xs us Q I r h
 obtain ⟨p,ys,rfl,h⟩:=h
 obtain ⟨u,rfl,rx⟩:=vals1 r
 cases rx
 rcases h with ⟨hq,q⟩ | ⟨hq,q⟩
 ·obtain ⟨its,r',pl,hz⟩:=I.list hq
  have hlen:=r'.length
  refine call_tuple_list pl.isList (fun h' kp=>?_) (by simp only [UI] <;> omega)
  have I1:Inv X pins σ H { s with heap:=h' }:=I.kept (t':=s.toks) kp
  have I2:Inv X pins σ (upd H h'.objs.size (.tup ys)) { s with heap:=h'.push { cls:=.type "tuple",data:=.seq its.toArray } } :=
   I1.laid (t':=s.toks) (fun b o e=>UC _ e) (Ux _) (show cP X.prog X.w _ _ _ (.tup ys) from ⟨hz,its,r',mK.new _ _⟩)
  exact ⟨.ref h'.objs.size,_,I2,rfl,q _ (I1.hok.fresh (Ux _))⟩
 ·obtain ⟨its,r',pl,hz⟩:=I.tuple hq
  exact call_tuple_same pl ⟨.ref p,H,I,rfl,q⟩
def Gi (K:Zfr) (T:String) (x:V) (H:Hp):Prop:=match x with
 | .str _=>T="str"
 | .int _=>T="int"
 | .ref p=>(T="list" /\ ∃ xs,iN K H p xs)\/(T="tuple" /\ ∃ xs,eJ K H p xs) \/
   (T="dict" /\ ((∃ kvs,H p=some (.dK kvs))\/∃ kvs,H p=some (.dT kvs)))\/(T="set" /\ ∃ S n,H p=some (.set S n))
 | _=>False
theorem vE {pins:List (Addr×Obj)} {σ:St} {H:Hp} {s:Shared} {T:String} {x:V} {v:Value} (I:Inv X pins σ H s) (r:RelV x v) (ty:Gi X.K T x H) :
  s.TypeIs v T/\∀ a,v=.ref a->∃ ob,s.heap.get? a=some ob/\ob.dict=none:=by
 cases x with
 | str z =>
  obtain ⟨t,rfl⟩:=r
  cases (show T="str" from ty)
  exact ⟨typeIs_str s z t,fun _ e=>nomatch e⟩
 | int i =>
  obtain ⟨t,rfl⟩:=r
  cases (show T="int" from ty)
  exact ⟨typeIs_int s i t,fun _ e=>nomatch e⟩
 | ref p =>
  cases r
  rcases ty with ⟨rfl,xs,hq⟩ | ⟨rfl,xs,hq⟩ | ⟨rfl,hk⟩ | ⟨rfl,S,n,hk⟩
  ·obtain ⟨its,_,pl,_⟩:=I.list hq
   refine ⟨pl.isList.typeIs,fun a e=>?_⟩
   cases e
   obtain ⟨o,n,e,c,hd,_⟩:=pl
   exact ⟨o,e,hd⟩
  ·obtain ⟨its,_,⟨o,e,c,d,_⟩,_⟩:=I.om hq
   refine ⟨⟨o,e,c⟩,fun a e2=>?_⟩
   cases e2
   exact ⟨o,e,d⟩
  ·have z:∃ o,s.heap.get? p=some o/\o.ExactDict:=by
    rcases hk with ⟨kvs,hk⟩ | ⟨kvs,hk⟩
    ·obtain ⟨_,_,_,_,o,_,_,e,ex,_⟩:=I.hok p _ hk
     exact ⟨o,e,ex⟩
    ·obtain ⟨_,_,_,_,o,_,_,e,ex,_⟩:=I.hok p _ hk
     exact ⟨o,e,ex⟩
   obtain ⟨o,e,ex⟩:=z
   refine ⟨⟨o,e,ex.1⟩,fun a e2=>?_⟩
   cases e2
   exact ⟨o,e,ex.2.1⟩
  ·obtain ⟨o,_,_,_,e,ex,_⟩:=I.hok p _ hk
   refine ⟨⟨o,e,ex.1⟩,fun a e2=>?_⟩
   cases e2
   exact ⟨o,e,ex.2.1⟩
 | _=>exact False.elim ty
def Gj (K:Zfr) (T:String) (r:V->List V->Hp->VK->Prop) (to:TE) (t:TA):TE:=fun σ H Q=>to σ H fun x H1=>Gi K T x H1/\t σ H1 fun xs H2=>r x xs H2 Q
variable {o e:Expr} {es:List Expr} {to:TE} {t:TA} {name:Str} {apos cpos:Pos} {T id:String} {r:V->List V->Hp->VK->Prop}
theorem oU (pa:PlainAttrs T) (slot:Slot T name id) (hty:typeOf (.builtin id)=pure (.type "method_descriptor")) (hm:Af X id r) (ho:PE X o to) (ha:PA X (e :: es) t)
  (hbase:attributeBase o name X.env (eval o X.env)=eval o X.env:=by rfl)
  (hfew:((backTo cpos (starEach (e :: es) X.env)).all (fun x=>!x.1) && (backToKw cpos (keywordEach [] X.env)).all (fun x=>x.1.isSome)
   && decide ((e :: es).length + ([]:List Keyword).length + (if ([]:List Keyword).isEmpty then 0 else 1) < 30))=true:=by rfl)
  (hline:(apos.endLine == cpos.line)=true:=by rfl) (hs:starEach (e :: es) X.env=(false,eval e X.env) :: starEach es X.env:=by rfl) (hplain:(backTo cpos (starEach es X.env)).any (·.1)=false:=by rfl) :
  PE X (.Call (.Attribute o name apos) (e :: es) [] cpos) (Gj X.K T r to t):=by
 intro pins s σ H Q I h
 refine wpAny_Call_method_late hbase hfew hline rfl (cQ (ho pins s σ H _ I h) fun v s1 ⟨x,H1,I1,r1,ty,q1⟩=>?_)
 obtain ⟨h1,h2⟩:=vE I1 r1 ty
 refine ⟨T,id,pa,slot,hty,h1,h2,?_⟩
 have hA:=ha cpos pins s1 σ H1 _ I1 q1
 rw [hs] at hA ⊢
 refine Calls.callWith_builtin (by show (false || (backTo cpos (starEach es X.env)).any (·.1))=false;rw [hplain] <;> rfl) (Calls.evalArgs_plain ?_)
 exact cQ hA fun us s2 ⟨vs,H2,I2,r2,q2⟩=>hm pins s2 σ H2 x vs v us Q I2 r1 r2 q2
end
def JL (X:Cx) (id:String) (r:V->List V->Hp->VK->Prop):Prop :=
 ∀ (pins:List (Addr×Obj)) (s:Shared) (σ:St) (H:Hp) (x:V) (xs:List V) (v:Value) (us:List Value) (Q:VK),Inv X pins σ H s->RelV x v->Vals xs us->r x xs H Q ->
  wpAny (model X.prog X.w) X.A (call (.builtin id) (v :: us)) (EP X pins σ Q) X.xe s
theorem Vals.one:∀ {x:V} {us:List Value},Vals [x] us->∃ u,us=[u]/\RelV x u
 | _,_,.cons r .nil=>⟨_,rfl,r⟩
theorem Vals.eraseIdx:∀ {xs:List V} {us:List Value} (i:Nat),Vals xs us->Vals (xs.eraseIdx i) (us.eraseIdx i)
 | _,_,_,.nil=>.nil
 | _,_,0,.cons _ t=>t
 | _,_,i + 1,.cons r t=>.cons r (Vals.eraseIdx i t)
theorem Vals.rep {xs:List V} {us:List Value} (h:Vals xs us):∀ k:Nat,Vals (List.replicate k xs).flatten (List.replicate k us).flatten
 | 0=>.nil
 | k + 1=>by
  rw [Vi,Vi,VU,VU]
  exact Vals.append h (Vals.rep h k)
theorem JM {α:Type}:∀ (l:List α) (i:Nat),(l.eraseIdx i).length<=l.length
 | [],_=>Ux _
 | _ :: _,0=>V7 _
 | _ :: r,i + 1=>Nat.succ_le_succ (JM r i)
theorem JN (its:List Value):∀ (k:Nat) (acc:List Value),
  List.foldl (fun x1 x2=>x1 ++ x2) acc.toArray (List.replicate k its.toArray)=(acc ++ (List.replicate k its).flatten).toArray
 | 0,acc=>by simp
 | k + 1,acc=>by
  have e:acc.toArray ++ its.toArray=(acc ++ its).toArray:=by simp
  have e2:(acc ++ its) ++ (List.replicate k its).flatten=acc ++ (List.replicate (k + 1) its).flatten:=by
   rw [Vi,VU,V9]
  rw [<- e2,<- JN its k (acc ++ its),<- e,Vi,List.foldl_cons]
section
variable {X:Cx} {pins:List (Addr×Obj)} {σ:St} {H:Hp} {s:Shared} {l b:Addr} {xs ys zs:List V}
theorem Inv.Ah {its its':List Value} {n:Nat} {f:Array Value->Array Value} {t':Nat} (I:Inv X pins σ H s) (hH:H l=some (.lst xs))
  (e:s.heap.get? l=some { cls:=.type "list",data:=.seq its.toArray n }) (hf:f its.toArray=its'.toArray) (hv:Vals ys its') (hz:ys.length<=sizeLine) :
  Inv X pins σ (upd H l (.lst ys)) { s with heap:=s.heap.update l (Obj.mapSeq f),toks:=t' }:=by
 have q:=PySem.IsL.update e f
 rw [hf] at q
 refine I.write (x:=l) (e:=l) (by rw [hH];exact trivial) (.inl rfl) (fun b' u hb hu=>(Vc s.heap (Obj.mapSeq f) (Ne.symm hb)).trans hu) ⟨_,q⟩ ?_
 exact ⟨hz,its',_,hv,q⟩
theorem Inv.Ai {its:List Value} {t':Nat} (I:Inv X pins σ H s) (hv:Vals ys its) (hz:ys.length<=sizeLine) :
  Inv X pins σ (upd H s.heap.objs.size (.lst ys)) { s with heap:=s.heap.push { cls:=.type "list",data:=.seq its.toArray },toks:=t' } :=
 I.laid (fun _ _ q=>UC _ q) (Ux _) ⟨hz,its,0,hv,UQ _ rfl⟩
theorem Inv.fresh (I:Inv X pins σ H s):H s.heap.objs.size=none:=I.hok.fresh (Ux _)
theorem Inv.qh (I:Inv X pins σ H s) (hH:H l=some (.lst xs)):xs.length<=sizeLine/\∃ (its:List Value) (n:Nat),Vals xs its/\xs.length=its.length/\s.heap.get? l=some { cls:=.type "list",data:=.seq its.toArray n }:=by
 obtain ⟨z,its,n,r,e⟩:=I.hok l _ hH
 exact ⟨z,its,n,r,r.length,e⟩
theorem qi {n:Nat} (h:n<=sizeLine):Builtin.List.listTooLong n=false:=by
 unfold Builtin.List.listTooLong
 exact decide_eq_false (by omega)
end
section
variable {X:Cx}
def oV:V->List V->Hp->VK->Prop:=fun x vs H Q=>∃ l xs y,x=.ref l/\vs=[y]/\H l=some (.lst xs)/\xs.length < sizeLine/\Q .non (upd H l (.lst (xs ++ [y])))
theorem qj:JL X "list.append" oV:=by
 intro pins s σ H x vs v us Q I rx rv h
 obtain ⟨l,xs,y,rfl,rfl,hH,hz,q⟩:=h
 cases rx
 obtain ⟨u,rfl,ru⟩:=rv.one
 obtain ⟨z,its,n,r,hl,e⟩:=I.qh hH
 refine call_meets F.slot_list_append ⟨_,e,rfl⟩ F.entry_list_append (F.args_list_append_2 _ _) (PySem.list_append l its.toArray n u (by rw [UI];omega)) ⟨e,?_⟩
 refine ⟨.non,_,I.Ah (its':=its ++ [u]) hH e (by simp) (r.append (.cons ru .nil)) ?_,rfl,q⟩
 rw [UG,VD]
 omega
def qk:V->List V->Hp->VK->Prop:=fun x vs H Q=>∃ l xs i k y,x=.ref l/\vs=[.int i]/\H l=some (.lst xs)/\-(2 ^ 63)<=i/\i < 2 ^ 63/\seqIndex? i xs.length=some k/\xs[k]?=some y/\Q y (upd H l (.lst (xs.eraseIdx k)))
theorem Nz:JL X "list.pop" qk:=by
 intro pins s σ H x vs v us Q I rx rv h
 obtain ⟨l,xs,i,k,y,rfl,rfl,hH,h1,h2,hk,hy,q⟩:=h
 cases rx
 obtain ⟨u,rfl,ru⟩:=rv.one
 obtain ⟨t,rfl⟩:=ru
 obtain ⟨z,its,n,r,hl,e⟩:=I.qh hH
 obtain ⟨w,hw,rw'⟩:=r.get hy
 refine call_meets F.slot_list_pop ⟨_,e,rfl⟩ F.entry_list_pop (F.args_list_pop_2 _ _)
  (MeetsSeq.list_pop_at l its.toArray n i t k w (fitsIndex_both h1 h2) (by rw [UI,<- hl];exact hk) (by rw [<- Vq];exact hw) (by rw [UI];omega)) ⟨e,?_⟩
 refine ⟨y,_,I.Ah (its':=its.eraseIdx k) hH e ?_ (r.eraseIdx k) ?_,rw',q⟩
 ·show its.toArray.eraseIdxIfInBounds k=(its.eraseIdx k).toArray
  rw [List.eraseIdxIfInBounds_toArray]
 ·have:=JM xs k
  omega
def Aj:R2:=fun x y H Q=>∃ l b xs zs,x=.ref l/\y=.ref b/\H l=some (.lst xs)/\H b=some (.lst zs)/\xs.length + zs.length<=sizeLine/\∀ p,H p=none->Q (.ref p) (upd H p (.lst (xs ++ zs)))
theorem vF:ke X (binaryOp .Add) Aj:=by
 intro pins s σ H x y v u Q I rx ry h
 obtain ⟨l,b,xs,zs,rfl,rfl,hH,hB,hz,q⟩:=h
 cases rx
 cases ry
 obtain ⟨z,its,n,r,hl,e⟩:=I.qh hH
 obtain ⟨z2,its2,n2,r2,hl2,e2⟩:=I.qh hB
 refine PySem.P.add_list e e2 ?_ (by rw [UI,UI];omega)
 have ea:its.toArray ++ its2.toArray=(its ++ its2).toArray:=by simp
 rw [ea]
 exact ⟨.ref _,_,I.Ai (t':=s.toks) (r.append r2) (by rw [UG];omega),rfl,q _ I.fresh⟩
def Ak:R2:=fun x y H Q=>∃ l k xs,x=.ref l/\y=.int k/\H l=some (.lst xs)/\-(2 ^ 63)<=k/\k < 2 ^ 63/\xs.length * k.toNat<=sizeLine /\
 ∀ p,H p=none->Q (.ref p) (upd H p (.lst (List.replicate k.toNat xs).flatten))
theorem NA {α:Type} (xs:List α) (k:Nat):(List.replicate k xs).flatten.length=k * xs.length:=by
 induction k with
 | zero=>simp
 | succ k ih=>rw [Vi,VU,UG,ih,Nat.succ_mul,Nat.add_comm]
theorem JO:ke X (binaryOp .Mult) Ak:=by
 intro pins s σ H x y v u Q I rx ry h
 obtain ⟨l,k,xs,rfl,rfl,hH,h1,h2,hz,q⟩:=h
 cases rx
 obtain ⟨t,rfl⟩:=ry
 obtain ⟨z,its,n,r,hl,e⟩:=I.qh hH
 have hlen:its.toArray.size * k.toNat<=sizeLine:=by rw [UI,<- hl];exact hz
 have hcap:¬ its.toArray.size * k.toNat > (2 ^ 63 - 1) / 8:=by
  have:(sizeLine:Nat)<=(2 ^ 63 - 1) / 8:=by decide
  omega
 have hfit:¬ (!Builtin.List.listFitsIndex k)=true:=by
  rw [fitsIndex_both h1 h2]
  exact UE
 have Al:¬ Builtin.List.listTooLong (its.toArray.size * k.toNat)=true:=by
  rw [qi hlen]
  exact UE
 have hnew:List.foldl (fun x1 x2=>x1 ++ x2) #[] (List.replicate (if its.toArray.isEmpty=true then 0 else k.toNat) its.toArray)=(List.replicate k.toNat its).flatten.toArray:=by
  have f0:∀ m:Nat,List.foldl (fun x1 x2=>x1 ++ x2) #[] (List.replicate m its.toArray)=(List.replicate m its).flatten.toArray:=fun m=>by
   have:=JN its m []
   rw [List.nil_append] at this
   exact this
  rw [f0]
  cases its with
  | nil=>simp
  | cons a r'=>rw [if_neg (by simp)]
 refine wpAny_binaryOp_repeat_ref (T:="list") (U:="int") (by decide) ⟨_,e,rfl⟩ (fun s'=>typeIs_int s' k t) noFill_list_mul F.fills_int_mul F.slot_int_rmul repeat_list F.slot_int_index.lookup
  (call_meets F.slot_int_rmul (typeIs_int s k t) F.entry_int_rmul (F.args_int_rmul_2 _ _) (int___rmul___int_list k t l its.toArray n)
   ⟨e,rfl,⟨_,e,rfl⟩,call_meets F.slot_list_mul ⟨_,e,rfl⟩ F.entry_list_mul (F.args_list_mul_2 _ _) (AutoListH.list___mul___list_int_3 l its.toArray n k t hfit hcap Al) ⟨e,?_⟩⟩)
 rw [hnew]
 exact ⟨.ref _,_,I.Ai (t':=s.toks) (r.rep k.toNat) (by rw [NA,Nat.mul_comm];exact hz),rfl,q _ I.fresh⟩
end
section
variable {prog:Program} {w:World} {A:Around} {E:Value->Shared->Prop} {s:Shared}
end
section
variable {X:Cx}
end
section
variable {κ:Type} [DecidableEq κ]
def jS (kvs:List (κ×V)) (k:κ):Option V:=(kvs.find? fun kv=>decide (kv.1=k)).map (·.2)
def putK (kvs:List (κ×V)) (k:κ) (v:V):List (κ×V) :=
 if (kvs.any fun kv=>decide (kv.1=k))=true then kvs.map (fun kv=>if kv.1=k then (kv.1,v) else kv) else kvs ++ [(k,v)]
theorem Gk {p:κ×V} {r:List (κ×V)} {k:κ} (e:p.1=k):jS (p :: r) k=some p.2:=by simp [jS,Vx,e]
theorem Gm {p:κ×V} {r:List (κ×V)} {k:κ} (e:¬ p.1=k):jS (p :: r) k=jS r k:=by simp [jS,Vx,e]
theorem JP (k:κ):∀ kvs:List (κ×V),(kvs.any fun kv=>decide (kv.1=k))=(jS kvs k).isSome
 | []=>rfl
 | p :: r=>by
  rw [Vu]
  by_cases e:p.1=k
  ·simp only [Gk e,decide_eq_true e,Bool.true_or,Option.isSome_some]
  ·rw [Gm e,decide_eq_false e,Bool.false_or];exact JP k r
theorem JQ (kvs:List (κ×V)) (k:κ) (v:V):(putK kvs k v).length<=kvs.length + 1:=by
 unfold putK
 split
 ·rw [Uu];omega
 ·rw [UG,U1,List.length_nil];omega
theorem pE.kC {o:Option V} {u:Option Value} (r:pE o u):o.isSome=u.isSome:=by
 cases o with
 | none=>cases u with
  | none=>rfl
  | some _=>exact (show False from r).elim
 | some _=>cases u with
  | none=>exact (show False from r).elim
  | some _=>rfl
theorem KV.val {kvs:List (κ×V)} {vs:List (κ×Value)} (r:KV kvs vs) (k:κ):pE (jS kvs k) (valueAt vs k):=by
 unfold KV at r
 induction r with
 | nil=>exact True.intro
 | @cons p q ps qs h t ih =>
  obtain ⟨h1,h2⟩:=h
  by_cases e:p.1=k
  ·have e':q.1=k:=h1.symm.trans e
   have b:valueAt (q :: qs) k=some q.2:=by simp [valueAt,Vx,e']
   rw [Gk e,b];exact h2
  ·have e':¬ q.1=k:=fun z=>e (h1.trans z)
   have b:valueAt (q :: qs) k=valueAt qs k:=by simp [valueAt,Vx,e']
   rw [Gm e,b];exact ih
theorem KV.any {kvs:List (κ×V)} {vs:List (κ×Value)} (r:KV kvs vs) (k:κ):(kvs.any fun kv=>decide (kv.1=k))=vs.any fun kv=>decide (kv.1=k):=by
 unfold KV at r
 induction r with
 | nil=>rfl
 | cons h t ih=>rw [Vu,Vu,ih,h.1]
theorem KV.repl {kvs:List (κ×V)} {vs:List (κ×Value)} (r:KV kvs vs) (k:κ) {y:V} {u:Value} (ry:RelV y u) :
  KV (kvs.map fun kv=>if kv.1=k then (kv.1,y) else kv) (vs.map fun kv=>if kv.1=k then (kv.1,u) else kv):=by
 unfold KV at r ⊢
 induction r with
 | nil=>exact .nil
 | @cons p q ps qs h t ih =>
  rw [UT,UT]
  refine .cons ?_ ih
  obtain ⟨h1,h2⟩:=h
  by_cases e:p.1=k
  ·rw [if_pos e,if_pos (h1.symm.trans e)];exact ⟨h1,ry⟩
  ·rw [if_neg e,if_neg (fun z=>e (h1.trans z))];exact ⟨h1,h2⟩
theorem KV.put {kvs:List (κ×V)} {vs:List (κ×Value)} (r:KV kvs vs) (k:κ) {y:V} {u:Value} (ry:RelV y u):KV (putK kvs k y) (stored vs k u):=by
 unfold putK stored
 rw [r.any k]
 by_cases e:(vs.any fun kv=>decide (kv.1=k))=true
 ·rw [if_pos e,if_pos e];exact r.repl k ry
 ·rw [if_neg e,if_neg e];exact Paired.snoc r ⟨rfl,ry⟩
theorem KV.length {kvs:List (κ×V)} {vs:List (κ×Value)} (r:KV kvs vs):kvs.length=vs.length:=Paired.length r
end
theorem Gn {P:Program} {w:World} {k:Key} {u:Value} (r:RelV (kV k) u):(cW P w).is k u=true:=by
 cases k with
 | inl i=>obtain ⟨t,e⟩:=(show ∃ t,u=Value.int i t from r);subst e;exact M1 P w i t
 | inr x=>obtain ⟨t,e⟩:=(show ∃ t,u=Value.str x t from r);subst e;exact M3 P w x t
theorem JR {P:Program} {w:World}:∀ {ks:List Key} {us:List Value},Vals (ks.map kV) us->ItemsAre (cW P w) ks us
 | [],_,r=>by rw [Vg] at r;cases r;exact .nil
 | k :: ks,_,r=>by
  rw [UT] at r
  cases r with
  | cons h t=>exact .cons (Gn h) (JR t)
abbrev KT (H:Hp):List (List Key×V)->List (List Key×Addr×Value)->Prop:=Paired fun p q=>p.1=q.1/\H q.2.1=some (.tup (p.1.map kV))/\RelV p.2 q.2.2
theorem KT.val {H:Hp} {kvs:List (List Key×V)} {xs:List (List Key×Addr×Value)} (r:KT H kvs xs) (k:List Key):pE (jS kvs k) ((atKey xs k).map (·.2)):=by
 induction r with
 | nil=>exact True.intro
 | @cons p q ps qs h t ih =>
  obtain ⟨h1,_,h2⟩:=h
  by_cases e:p.1=k
  ·have e':q.1=k:=h1.symm.trans e
   have b:atKey (q :: qs) k=some q.2:=by simp [atKey,Vx,e']
   rw [Gk e,b];exact h2
  ·have e':¬ q.1=k:=fun z=>e (h1.trans z)
   have b:atKey (q :: qs) k=atKey qs k:=by simp [atKey,Vx,e']
   rw [Gm e,b];exact ih
theorem KT.repl {H:Hp} {kvs:List (List Key×V)} {xs:List (List Key×Addr×Value)} (r:KT H kvs xs) (k:List Key) {y:V} {u:Value} (ry:RelV y u) :
  KT H (kvs.map fun kv=>if kv.1=k then (kv.1,y) else kv) (xs.map (putAt k u)):=by
 induction r with
 | nil=>exact .nil
 | @cons p q ps qs h t ih =>
  rw [UT,UT]
  refine .cons ?_ ih
  obtain ⟨h1,h2,h3⟩:=h
  unfold putAt
  by_cases e:p.1=k
  ·rw [if_pos e,if_pos (h1.symm.trans e)];exact ⟨h1,h2,ry⟩
  ·rw [if_neg e,if_neg (fun z=>e (h1.trans z))];exact ⟨h1,h2,h3⟩
theorem KT.put {H:Hp} {kvs:List (List Key×V)} {xs:List (List Key×Addr×Value)} (r:KT H kvs xs) (k:List Key) {b:Addr} {y:V} {u:Value} (hb:H b=some (.tup (k.map kV))) (ry:RelV y u) :
  KT H (putK kvs k y) (storedH xs k b u):=by
 have e:(kvs.any fun kv=>decide (kv.1=k))=(atKey xs k).isSome:=by
  rw [JP,(r.val k).kC,Option.isSome_map]
 unfold putK storedH
 rw [e]
 by_cases q:(atKey xs k).isSome=true
 ·rw [if_pos q,if_pos q];exact r.repl k ry
 ·rw [if_neg q,if_neg q];exact Paired.snoc r ⟨rfl,hb,ry⟩
theorem KT.keeps {H H':Hp} {kvs:List (List Key×V)} {xs:List (List Key×Addr×Value)} (r:KT H kvs xs) (ht:∀ b ys,H b=some (.tup ys)->H' b=some (.tup ys)):KT H' kvs xs :=
 Paired.u6 r fun _ _ z=>⟨z.1,ht _ _ z.2.1,z.2.2⟩
section
variable {P:Program} {w:World} {H:Hp} {h:Heap} {a:Addr}
theorem tV {u:HO} (ok:kg P w H h) (e:Rd H a u):cP P w H h a u:=e.ok ok
theorem tW {kvs:List (Key×V)} (ok:kg P w H h) (e:Rd H a (.dK kvs)):kvs.length<=sizeLine/\(a == sysModules)=false/\∃ vs,KV kvs vs/\h.DictOf (cW P w) a vs :=
 show cP P w H h a (.dK kvs) from tV ok e
theorem Am {kvs:List (Key×V)} (ok:kg P w H h) (e:H a=some (.dK kvs)):kvs.length<=sizeLine/\(a == sysModules)=false/\∃ vs,KV kvs vs/\h.DictOf (cW P w) a vs:=tW ok (.inl e)
theorem yD {ks:List Key} (ok:kg P w H h) (e:H a=some (.tup (ks.map kV))):(tupleKind (cW P w)).is h ks a:=by
 obtain ⟨_,its,r,o,h1,h2,_,n,h3⟩:=(show cP P w H h a (.tup (ks.map kV)) from ok a _ e)
 exact ⟨o,its.toArray,n,h1,h2,h3,by simpa using JR r⟩
theorem tZ {kvs:List (List Key×V)} (ok:kg P w H h) (e:Rd H a (.dT kvs)):kvs.length<=sizeLine/\(a == sysModules)=false /\
  ∃ xs,KT H kvs xs/\h.DictOfH (tupleKind (cW P w)) a xs:=by
 obtain ⟨z,y,xs,r,o,es,ep,h1,h2,h3,h4,h5⟩:=(show cP P w H h a (.dT kvs) from tV ok e)
 refine ⟨z,y,xs,r,o,es,ep,h1,h2,h3,h4,fun x hx=>?_,h5⟩
 have all:∀ {l:List (List Key×V)} {m:List (List Key×Addr×Value)},KT H l m->∀ x∈m,(tupleKind (cW P w)).is h x.1 x.2.1:=by
  intro l m q
  induction q with
  | nil=>intro x hx;exact nomatch hx
  | @cons p q ps qs hq t ih =>
   intro x hx
   rcases UU.mp hx with e | hx
   ·subst e
    exact yD ok (by rw [<- hq.1];exact hq.2.1)
   ·exact ih x hx
 exact all r x hx
theorem An {kvs:List (List Key×V)} (ok:kg P w H h) (e:H a=some (.dT kvs)):kvs.length<=sizeLine/\(a == sysModules)=false /\
  ∃ xs,KT H kvs xs/\h.DictOfH (tupleKind (cW P w)) a xs:=tZ ok (.inl e)
end
def ql (H:Hp) (a:Addr) (y:V) (r:Option V):Prop :=
 (∃ kvs k,Rd H a (.dK kvs)/\y=kV k/\r=jS kvs k)\/∃ kvs k b,Rd H a (.dT kvs)/\y=.ref b/\H b=some (.tup (k.map kV))/\r=jS kvs k
def qm (H:Hp) (a:Addr) (y v:V) (H':Hp):Prop :=
 (∃ kvs k,H a=some (.dK kvs)/\y=kV k/\kvs.length < sizeLine/\H'=upd H a (.dK (putK kvs k v))) \/
 ∃ kvs k b,H a=some (.dT kvs)/\y=.ref b/\H b=some (.tup (k.map kV))/\kvs.length < sizeLine/\H'=upd H a (.dT (putK kvs k v))
theorem ql.k {H:Hp} {a:Addr} {kvs:List (Key×V)} {k:Key} (e:H a=some (.dK kvs)):ql H a (kV k) (jS kvs k):=.inl ⟨kvs,k,.inl e,rfl,rfl⟩
theorem qm.k {H:Hp} {a:Addr} {kvs:List (Key×V)} {k:Key} {v:V} (e:H a=some (.dK kvs)) (hl:kvs.length < sizeLine):qm H a (kV k) v (upd H a (.dK (putK kvs k v))):=.inl ⟨kvs,k,e,rfl,hl,rfl⟩
section
variable {X:Cx} {pins:List (Addr×Obj)} {σ:St} {H:Hp} {s:Shared} {a:Addr} {y v:V} {u r:Value} {o:Option V} {A:Around} {E:Value->Shared->Prop}
theorem Inv.big (I:Inv X pins σ H s):sysModules < s.heap.objs.size:=by
 have h:mainGlobals < s.heap.objs.size:=(I.mod.glob.keeps I.bk).lt
 exact WL (by decide) h
theorem NC {Q:Value->Shared->Prop} (hu:A.units + 1 < cLine) (I:Inv X pins σ H s) (g:ql H a y o) (ry:RelV y u) (h:∀ s',Inv X pins σ H s'->Q (.bool (!o.isSome)) s') :
  wpAny (model X.prog X.w) A (compareOp .NotIn u (.ref a)) Q E s:=by
 rcases g with ⟨kvs,k,e,ey,l⟩ | ⟨kvs,k,b,e,ey,eb,l⟩
 ·subst ey
  obtain ⟨z,hd,vs,rel,dd⟩:=tW I.hok e
  refine wpAny_notIn_of (Gn ry) hd dd.mapOf ?_
  rw [<- (rel.val k).kC,<- l]
  exact h _ (I.tok _)
 ·subst ey
  cases (show u=Value.ref b from ry)
  obtain ⟨z,hd,xs,rel,dd⟩:=tZ I.hok e
  refine wpAny_notIn_heap (tupleKind_room_in1 hu) (yD I.hok eb) hd dd ?_
  have q:=(rel.val k).kC
  rw [Option.isSome_map] at q
  rw [<- q,<- l]
  exact h _ (I.tok _)
theorem JS {h':Heap} {t':Nat} {ob:HO} (I:Inv X pins σ H s) (mu:zw (H a)) (hs:Heap.SameBut a s.heap h') (he:∃ q,h'.get? a=some q) (new:cP X.prog X.w (upd H a ob) h' a ob) :
  Inv X pins σ (upd H a ob) { s with heap:=h',toks:=t' } :=
 I.write (x:=a) (e:=a) mu (.inl rfl) (fun b q hb z=>(hs.2 b hb).trans z) he new
theorem vG {P:Program} {w:World} {H':Hp} {h':Heap} {kvs:List (Key×V)} {vs:List (Key×Value)} (z:kvs.length<=sizeLine) (hd:(a == sysModules)=false) (rel:KV kvs vs) (dd:h'.DictOf (cW P w) a vs) :
  cP P w H' h' a (.dK kvs):=⟨z,hd,vs,rel,dd⟩
theorem ND {H':Hp} {Q:Unit->Shared->Prop} (hu:A.units + 1 < cLine) (I:Inv X pins σ H s) (g:qm H a y v H') (ry:RelV y u) (rv:RelV v r) (h:∀ s',Inv X pins σ H' s'->Q () s') :
  wpAny (model X.prog X.w) A (setItem (.ref a) u r) Q E s:=by
 rcases g with ⟨kvs,k,e,ey,l,eH⟩ | ⟨kvs,k,b,e,ey,eb,l,eH⟩
 ·subst ey eH
  obtain ⟨z,hd,vs,rel,dd⟩:=Am I.hok e
  have hz:vs.length<=sizeLine:=by rw [<- rel.length];exact z
  have hl:(putK kvs k v).length<=sizeLine:=by have:=JQ kvs k v;omega
  refine wpAny_setItem_pairs (hsz:=hz) (Gn ry) dd fun h' DE hs=>h _ ?_
  have he:∃ q,h'.get? a=some q:=let ⟨q,_,_,hq,_⟩:=DE;⟨q,hq⟩
  exact JS I (by rw [e];exact True.intro) hs he (vG hl hd (rel.put k rv) DE)
 ·subst ey eH
  cases (show u=Value.ref b from ry)
  obtain ⟨z,hd,xs,rel,dd⟩:=An I.hok e
  have hz:xs.length<=sizeLine:=by rw [<- Paired.length rel];exact z
  have hl:(putK kvs k v).length<=sizeLine:=by have:=JQ kvs k v;omega
  refine wpAny_setItem_heap (hsz:=hz) (tupleKind_room_in1 hu) (yD I.hok eb) dd fun h' DE hs=>h _ ?_
  obtain ⟨q,es,ep,hq,h2,h3,h4,_,h5⟩:=DE
  refine JS I (by rw [e];exact True.intro) hs ⟨q,hq⟩ ⟨hl,hd,_,(rel.put k eb rv).keeps fun c ys ec=>?_,q,es,ep,hq,h2,h3,h4,h5⟩
  rw [jk (FJ ec e (fun z=>nomatch z))]
  exact ec
end
section
variable {X:Cx} {pins:List (Addr×Obj)} {σ:St} {H:Hp} {s:Shared} {a:Addr} {kvs:List (Key×V)} {k:Key} {u:Value} {A:Around} {E:Value->Shared->Prop}
end
def oW (ty td:TE):TE:=fun σ H Q=>ty σ H fun y H1=>td σ H1 fun x H2=>∃ a o,x=.ref a/\ql H2 a y o/\Q (.bl (!o.isSome)) H2
def t4 (td ty tv:TE):TS:=fun D σ H=>tv σ H fun v H1=>td σ H1 fun x H2=>ty σ H2 fun y H3=>∃ a H4,x=.ref a/\qm H3 a y v H4/\D.nx σ H4
section
variable {X:Cx} {o i e value:Expr} {pos pos' tpos:Pos} {td ty tv:TE}
theorem NF (hu:X.A.units + 1 < cLine) (hi:PE X i ty) (ho:PE X o td):PC X .NotIn i o (oW ty td):=by
 intro pins s σ H Q I h
 refine cQ (hi pins s σ H _ I h) fun iv s1 ⟨y,H1,I1,ry,q1⟩=>cQ (ho pins s1 σ H1 _ I1 q1) fun u s2 ⟨x,H2,I2,rx,a,ov,ex,g,q2⟩=>?_
 subst ex
 obtain rfl:u=Value.ref a:=rx
 exact NC hu I2 g ry fun s3 I3=>⟨.bl (!ov.isSome),H2,I3,rfl,q2⟩
theorem NG (hu:X.A.units + 1 < cLine) (ho:PE X o td) (hi:PE X i ty) (hv:PE X value tv) (hs:swapsWith value (some (.Subscript o i pos')) pos.line X.env=pure false) :
  PS X (.Assign [.Subscript o i pos'] value pos) (t4 td ty tv):=by
 intro pins s σ H D I h
 refine wpAny_Assign_Subscript (cQ (hv pins s σ H _ I h) fun r s1 ⟨v,H1,I1,rv,q1⟩=>cQ (ho pins s1 σ H1 _ I1 q1) fun u s2 ⟨x,H2,I2,rx,q2⟩=>cQ (hi pins s2 σ H2 _ I2 q2) fun iv s3 ⟨y,H3,I3,ry,a,H4,ex,g,q3⟩=>?_) hs
 subst ex
 obtain rfl:u=Value.ref a:=rx
 exact ND hu I3 g ry rv fun s4 I4=>⟨σ,H4,I4,q3⟩
end
theorem NH {P:Program} {w:World} {H:Hp} (h:Heap) (hb:sysModules < h.objs.size):cP P w H (h.push { cls:=.type "dict",data:=.dict #[] }) h.objs.size (.dK []) :=
 ⟨U8 _,beq_eq_false_iff_ne.mpr (Ne.symm (Va hb)),[],.nil,Heap.DictOf.new h⟩
def qo:TE:=fun _ H Q=>∀ p,H p=none->Q (.ref p) (upd H p (.dK []))
section
variable {X:Cx} {pos:Pos}
theorem NI:PE X (.Dict [] [] pos) qo:=fun pins s σ H Q I h =>
 wpAny_Dict_empty ⟨.ref s.heap.objs.size,_,I.laid (a:=s.heap.objs.size) (o:=.dK []) (t':=s.toks) (fun _ _ q=>UC _ q) (Ux _) (NH s.heap I.big),rfl,h _ (I.hok.fresh (Ux _))⟩
end
section
variable {X:Cx} {pins:List (Addr×Obj)} {σ:St} {H:Hp} {s:Shared} {a:Addr} {y d:V} {u r:Value} {o:Option V} {A:Around} {E:Value->Shared->Prop}
end
section
variable {X:Cx} {o e f:Expr} {apos cpos:Pos} {td ty tx:TE}
end
section
variable {X:Cx} {pins:List (Addr×Obj)} {σ:St} {H:Hp} {s:Shared} {a:Addr} {kvs:List (Key×V)} {A:Around} {E:Value->Shared->Prop}
end
section
variable {X:Cx} {pins:List (Addr×Obj)} {σ:St} {H:Hp} {s:Shared} {a:Addr} {y:V} {u:Value} {A:Around} {E:Value->Shared->Prop}
end
end L2
namespace JT
open PySem PySem.W PySem.Calls PyProof.Rows
theorem NJ {P:Params} {h:Heap}:∀ (ns:List Int) (vs:List Value),WellAll P h vs (ns.map WData.int)->IntsAre vs ns:=by
 intro ns
 induction ns with
 | nil =>
  intro vs w
  rw [Vg] at w
  cases w
  exact .nil
 | cons n ns ih =>
  intro vs w
  rw [UT] at w
  cases w with
  | cons a b =>
   cases a
   exact .cons _ _ (ih _ b)
theorem NK {l:OpenLaw} {n:Nat} (hn:l.most=some n) {P:Params} {h:Heap} {args:List WData} {vals:List Value}
  (hpre:l.row.toRowW.claim.pre args=true) (hwl:WellAll P h vals args) :
  ∃ a vs ns,vals=[Value.ref a]/\args=[WData.list (ns.map WData.int)]/\h.get? a=some { cls:=.type "list",data:=.seq vs.toArray }/\IntsAre vs ns/\ns.length<=n:=by
 have hsh:WShape.hasAll [] args [.list .int]=true:=(pre_splitW hpre).1
 have hc:l.pre.holds [] { args:=args }=true:=(pre_splitW hpre).2
 obtain ⟨d,r,rfl,h1,h2⟩:=hasAllW_cons hsh
 obtain rfl:=hasAllW_nil h2
 obtain ⟨xs,rfl,h3⟩:=hasW_list h1
 obtain ⟨ns,rfl⟩:=items_int h3
 have hlen:ns.length<=n:=by
  unfold OpenLaw.pre at hc
  have h4:(WTm.not (.lt (.lit (.int (n:Int))) (.len (.arg 0)))).holds [] { args:=[.list (ns.map .int)] }=true:=by
   have h4:=(holds_andW hc).1
   rw [hn] at h4
   exact h4
  have h5:=condW_of h4 (w_not (w_lt w_lit (w_len_list (w_arg rfl))))
  rw [Uu] at h5
  refine Wo fun q=>?_
  have q':(n:Int) < ((ns.length:Nat):Int):=by omega
  first
   | (rw [decide_eq_true q'] at h5;exact absurd h5 (by decide))
   | (simp at h5;omega)
 cases hwl with
 | cons w1 w2 =>
  cases w2
  cases w1 with
  | list ho hall=>exact ⟨_,_,ns,rfl,rfl,ho,NJ ns _ hall,hlen⟩
theorem NL (l:OpenLaw) (args:List WData):l.row.toRowW.claim.post args (.bool true) args=true :=
 postW_of (r:=l.row.toRowW) (X:=(true == true))
  (show WShape.has [] (.bool true) .bool=true by first | rfl | decide | simp [WShape.has,WShape.arms,WShape.armsAll])
  (show (WTm.eq .res (.lit (.bool true))).value [] { args:=args,res:=some (.bool true),after:=args }=some (.bool (true == true)) from w_eq_bool (w_res rfl) w_lit) rfl
theorem NM {l:OpenLaw} {n:Nat} {q:Program} {loose:List Str} {XP:(Str->Option Value)->Heap->Prop} {YP:World->Heap->Prop} {d:DefRec}
  (hn:l.most=some n) (hdf:d.params.defaults=[])
  (call:∀ (w:World) (s₀ s₁:Shared) (mg mb:Str->Option Value) (fa:Addr) (o:Obj) (pm cd doc:Value) (a:Addr) (vs:List Value) (ns:List Int),
   Ground q loose [] XP w s₀ mg mb s₁.heap->YP w s₁.heap ->
   s₁.heap.get? fa=some o->o.data=.func (docDef d.name d.params d.body d.scope pm cd doc)->s₁.heap.CodeRec cd d.name->mg d.name=some (.ref fa) ->
   s₁.heap.get? a=some { cls:=.type "list",data:=.seq vs.toArray }->IntsAre vs ns->ns.length<=n->s₁.gens=#[] ->
   codeAny (model l.prog w) callerA (.call (.ref fa) ⟨[.ref a],[]⟩) (fun r s'=>r=.ok (.ret (.bool true))/\OldK s₁.heap s'.heap/\s'.os=s₁.os/\AllBare s'.gens) s₁) :
  WalkO q loose XP YP l.row.toRowW d [] (fun f vs=>PySem.call f vs):=by
 intro w s₀ s₁ mg mb G Y fa o pm cd doc dV kV ho hd hcd hD hmg hg args vals as hpre hlay hrd hwl hlo
 obtain rfl:dV=.none:=Dflts.none hD hdf
 obtain rfl:kV=.none:=Dflts.noKw hD
 obtain ⟨a,vs,ns,rfl,rfl,hobj,hints,hlen⟩:=NK hn hpre hwl
 refine enter_call (codeAny_mono (call w s₀ s₁ mg mb fa o pm cd doc a vs ns G Y ho (fd_plain hd) hcd hmg hobj hints hlen hg) fun r s' hq=>?_)
 obtain ⟨rfl,h2,h3,h4⟩:=hq
 exact ⟨.inl ⟨.bool true,.bool true,[],rfl,fun _=>rfl,.bool true,NL l _,fun _=>⟨List.Pairwise.nil,fun _ hm=>(nomatch hm)⟩⟩,h2,h3,h4⟩
section
variable {prog:Program} {w:World} {A:Around} {E:Value->Shared->Prop} {s:Shared} {K:Frag}
end
end JT
namespace L2
open PySem PySem.Spec PyProof.Rows
theorem JU:∀ {vs:List Value} {ns:List Int},IntsAre vs ns->Vals (ns.map V.int) vs
 | _,_,.nil=>.nil
 | _,_,.cons n t h=>.cons ⟨t,rfl⟩ (JU h)
def Only (H:Hp):Prop:=∀ b,H b=none\/∃ o xs,H b=some (.mJ o (.lst xs))
theorem NN {P:Program} {w:World} {K:Zfr} {mg mb:Str->Option Value} {CX:oR} {k:Nat} {fa a:Addr} {fd:FuncData} {x:Str} {sp:Sp} {s₁:Shared} {vs:List Value} {ns:List Int}
  (KX:K.In s₁.heap) (hns:s₁.heap.Ns mainGlobals mg) (hb:s₁.heap.Ns builtinsNs mb) (NP:∀ x:Str,x≠"__name__" -> mb x=bootBuiltins x) (hlim:s₁.heap.NoLimit) (hg:s₁.gens=#[])
  (ha:s₁.heap.get? a=some { cls:=.type "list",data:=.seq vs.toArray }) (hi:IntsAre vs ns) (hl:ns.length<=sizeLine) (hr:fT k callerA)
  (F:∀ base:Heap,K.In base->base.Ns mainGlobals mg->aA P w K mg base CX k fa fd [x] sp) (hbind:∀ (s:Shared) (u:Value),BindsTo s fd ⟨[u],[]⟩ [(x,u)])
  (p3:∀ H:Hp,Only H->iN K H a (ns.map V.int)->sp [.ref a] H (fun v _=>v=.bl true) fun _ _ _=>False)
  (Ao:∀ H e s',CX [] H s₁ (fun _ _ _=>False) e s'->False) :
  codeAny (model P w) callerA (.call (.ref fa) ⟨[.ref a],[]⟩) (fun r s'=>r=.ok (.ret (.bool true))/\OldK s₁.heap s'.heap/\s'.os=s₁.os/\AllBare s'.gens) s₁:=by
 have rv:=JU hi
 have Gp:=hi.length
 have core:∀ H:Hp,Only H->iN K H a (ns.map V.int)->kg P w H s₁.heap->(∀ b,H b≠none->b=a)->(H a≠none->K.lookup a=none) ->
   codeAny (model P w) callerA (.call (.ref fa) ⟨[.ref a],[]⟩) (fun r s'=>r=.ok (.ret (.bool true))/\OldK s₁.heap s'.heap/\s'.os=s₁.os/\AllBare s'.gens) s₁:=by
  intro H hO hS hok hA hK
  have oX:∀ {b:Addr} {o:Obj},s₁.heap.get? b=some o->H b=none->(mM s₁.heap H).get? b=some o:=fun e n=>M6 e n
  have Aa:∀ {b:Addr} {o:Obj} {es:Array DictEntry} {ep:Nat},s₁.heap.get? b=some o->o.data=.dict es ep->H b=none:=fun {b o es ep} e d=>by
   cases q:H b with
   | none=>rfl
   | some u =>
    have e':b=a:=hA b (by rw [q];simp)
    subst e'
    rw [ha] at e;cases e
    have d':Data.seq vs.toArray _=Data.dict es ep:=d
    cases d'
  have DF:∀ {b:Addr} {m:Str->Option Value},s₁.heap.Ns b m->(mM s₁.heap H).Ns b m:=fun {b m} ⟨o,es,ep,e,d,r⟩=>⟨o,es,ep,oX e (Aa e d),d,r⟩
  have JV:K.In (mM s₁.heap H):=fun b o e=>oX (KX b o e) (by
   cases q:H b with
   | none=>rfl
   | some u =>
    have e':b=a:=hA b (by rw [q];simp)
    subst e'
    rw [hK (by rw [q];simp)] at e;cases e)
  have hM:Mod K mg (mM s₁.heap H):=⟨JV,DF hns,⟨mb,DF hb,NP⟩,let ⟨mc,h1,h2⟩:=hlim;⟨mc,DF h1,h2⟩⟩
  have e0:rZ P w K mg (mM s₁.heap H) callerA [] s₁ H:=⟨rfl,hM,fun b o e=>M7 e,Nat.le_of_eq (M5 _ _),trivial,fun b hb=>absurd (show b∈([]:List Addr) from hb) (by simp),hok,.of_eq hg⟩
  refine codeAny_mono ((F _ JV (DF hns)).run callerA [] s₁ H ⟨[.ref a],[]⟩ [.ref a] [.ref a] _ _ hr e0 (hbind s₁ (.ref a)) (.cons rfl .nil) (p3 H hO hS)) fun r s' h=>?_
  cases r with
  | error e=>exact (Ao H e s' h).elim
  | ok fl =>
   cases fl with
   | next=>exact False.elim h
   | brk=>exact False.elim h
   | cont=>exact False.elim h
   | ret u =>
    obtain ⟨v,H',os,bare,un,Gq,r',q⟩:=h
    have q':v=.bl true:=q
    subst q'
    obtain rfl:u=Value.bool true:=r'
    refine ⟨rfl,OldK.of_keep fun b o e=>?_,os,bare⟩
    cases q:H b with
    | none=>exact un.keep b o e q (by intro z;exact absurd (show b∈([]:List Addr) from z) (by simp)) (by simp)
    | some u =>
     rcases hO b with z | ⟨ob,xs,z⟩
     ·rw [q] at z;cases z
     ·have z2:=un.mL b ob _ z
      obtain ⟨e1,_⟩:=hok b _ z
      obtain ⟨e2,_⟩:=Gq b _ z2
      rw [e] at e1;cases e1
      exact e2
 cases hk:K.lookup a with
 | some o =>
  have e:=KX a o hk
  rw [ha] at e
  cases e
  refine core (fun _=>none) (fun _=>.inl rfl) (.inr ⟨_,vs.toArray,_,hk,rfl,rfl,rfl,by rw [UI,Gp];exact hl,by simpa using rv⟩) (fun b u z=>by have z':(none:Option HO)=some u:=z;cases z') (fun b z=>absurd rfl z) fun z=>absurd rfl z
 | none =>
  refine core (fun b=>if b=a then some (.mJ { cls:=.type "list",data:=.seq vs.toArray } (.lst (ns.map V.int))) else none) (fun b=>?_) (.inl (.inr ⟨{ cls:=.type "list",data:=.seq vs.toArray },if_pos rfl⟩)) (fun b u z=>?_) (fun b z=>?_) fun _=>hk
  ·by_cases hb:b=a
   ·exact .inr ⟨_,_,if_pos hb⟩
   ·exact .inl (if_neg hb)
  ·by_cases hb:b=a
   ·have z':=(if_pos hb).symm.trans z
    cases z'
    subst hb
    exact ⟨ha,by rw [Uu];exact hl,vs,_,rv,ha⟩
   ·have z':=(if_neg hb).symm.trans z
    cases z'
  ·by_cases hb:b=a
   ·exact hb
   ·exact absurd (if_neg hb) z
abbrev KOf {K:Zfr} {h:Heap} (_:K.In h):Zfr:=K
theorem NQ {l:PySem.W.OpenLaw} {n k:Nat} {q:Program} {loose:List Str} {XP:(Str->Option Value)->Heap->Prop} {YP:World->Heap->Prop} {d:DefRec} {K:Params->Zfr} {CX:World->oR} {sp:World->Sp} {x:Str}
  (hn:l.most=some n) (hn2:n<=sizeLine) (hdf:d.params.defaults=[]) (hr:fT k callerA)
  (hY:∀ (w:World) (h:Heap),YP w h->(K w.params).In h)
  (F:∀ (w:World) (mg:Str->Option Value) (fa:Addr) (h:Heap),(K w.params).In h->h.Ns mainGlobals mg->mg d.name=some (.ref fa) ->
   ∃ fd:FuncData,(∀ (s:Shared) (u:Value),BindsTo s fd ⟨[u],[]⟩ [(x,u)]) /\
    ∀ base:Heap,(K w.params).In base->base.Ns mainGlobals mg->aA l.prog w (K w.params) mg base (CX w) k fa fd [x] (sp w))
  (p3:∀ (w:World) (H:Hp) (a:Addr) (ns:List Int),ns.length<=n->Only H->iN (K w.params) H a (ns.map V.int)->sp w [.ref a] H (fun v _=>v=.bl true) fun _ _ _=>False)
  (Ao:∀ (w:World) (H:Hp) (s:Shared) (e:Value) (s':Shared),CX w [] H s (fun _ _ _=>False) e s'->False) :
  PySem.W.WalkO q loose XP YP l.row.toRowW d [] (fun f vs=>PySem.call f vs):=by
 refine JT.NM hn hdf fun w s₀ s₁ mg mb fa o pm cd doc a vs ns G Y ho hd hcd hmg hobj hints hlen hg=>?_
 have KX:=hY w _ Y
 obtain ⟨fd,hb,hF⟩:=F w mg fa _ KX G.T.g hmg
 exact NN KX G.T.g G.T.b G.T.builtins G.T.nolimit hg hobj hints (UZ hlen hn2) hr hF hb (fun H hO hS=>p3 w H a ns hlen hO hS) fun H e s'=>Ao w H s₁ e s'
theorem NR {l:PySem.W.OpenLaw} {n k:Nat} {q:Program} {loose:List Str} {XP:(Str->Option Value)->Heap->Prop} {YP:World->Heap->Prop} {d:DefRec} {K:Params->Zfr} {CX:oR} {sp:Zfr->Sp} {x:Str}
  (hn:l.most=some n) (hn2:n<=sizeLine) (hdf:d.params.defaults=[]) (hr:fT k callerA)
  (hY:∀ (w:World) (h:Heap),YP w h->(K w.params).In h)
  (F:∀ (w:World) (mg:Str->Option Value) (fa:Addr) (h:Heap),(K w.params).In h->h.Ns mainGlobals mg->mg d.name=some (.ref fa) ->
   ∃ fd:FuncData,(∀ (s:Shared) (u:Value),BindsTo s fd ⟨[u],[]⟩ [(x,u)]) /\
    ∀ base:Heap,(K w.params).In base->base.Ns mainGlobals mg->aA l.prog w (K w.params) mg base CX k fa fd [x] (sp (K w.params)))
  (p3:∀ (K:Zfr) (H:Hp) (a:Addr) (ns:List Int),ns.length<=n->Only H->iN K H a (ns.map V.int)->sp K [.ref a] H (fun v _=>v=.bl true) fun _ _ _=>False)
  (Ao:∀ (H:Hp) (s:Shared) (e:Value) (s':Shared),CX [] H s (fun _ _ _=>False) e s'->False) :
  PySem.W.WalkO q loose XP YP l.row.toRowW d [] (fun f vs=>PySem.call f vs) :=
 NQ (K:=K) (CX:=fun _=>CX) (sp:=fun w=>sp (K w.params)) hn hn2 hdf hr hY F (fun w H a ns h1 h2 h3=>p3 (K w.params) H a ns h1 h2 h3) fun _ H s e s'=>Ao H s e s'
def e7 (s:Stmt):Arguments:=match s with
 | .FunctionDef _ a _ _ _ _ _ _ _ _=>a
 | _=>{ posonlyargs:=[],args:=[],vararg:=none,kwonlyargs:=[],kw_defaults:=[],kwarg:=none,defaults:=[] }
def dG (s:Stmt):List Stmt:=match s with
 | .FunctionDef _ _ b _ _ _ _ _ _ _=>b
 | _=>[]
def av (s:Stmt):Scope:=match s with
 | .FunctionDef _ _ _ _ _ _ sc _ _ _=>sc
 | _=>{ kind:=.function,names:=[],isGenerator:=false,isCoroutine:=false }
abbrev aY:oR:=fun _ _ _ _ _ _=>False
abbrev E0:XK:=fun _ _ _=>False
theorem oY {X:Cx}:Passes aY X E0:=fun _ _ _ _ _ _ _ h=>h.elim
structure DG (K:Zfr) (x qual:Str) (st:Stmt) (f:Addr) (fd:FuncData):Prop where
 ex:∃ (oc:Value) (od:Option Addr) (kV doc pm:Value) (an:Option Addr) (cdv ct:Value) (osl:Array (Option Value)),
  fd=PySem.W.fnOf x qual (e7 st) (dG st) (av st) .none kV doc pm an cdv ct/\K.lookup f=some ⟨oc,od,.func fd,osl⟩/\PySem.W.codeIn K cdv qual=true
 kp:PySem.W.keepIn K (.ref f)=true
section
variable {P:Program} {w:World} {K:Zfr} {mg:Str->Option Value} {base:Heap}
theorem DG.ok {x qual:Str} {st:Stmt} {f:Addr} {fd:FuncData} {N ps:List Str} {k:Nat} {sp:Sp} (F:DG K x qual st f fd) (S:aD N ps (av st)) (len:∀ vs H Q E,sp vs H Q E->vs.length=ps.length)
  (hbody:∀ (cdv:Value) (A:Around) (outer:List Env) (s:Shared) (H:Hp) (vs:List V) (Q:VK) (E:XK),fT k (A.deeper (envOfC qual (av st) s.heap.objs.size f cdv))->sp vs H Q E ->
   ∃ t,oQ (gn aY P w K mg base N qual (av st) f cdv A outer s H E).mw (dG st) t/\t { nx:=fun _ H'=>Q .non H',rt:=Q } (start N vs) H):aA P w K mg base aY (k + 1) f fd ps sp:=by
 obtain ⟨oc,od,kV,doc,pm,an,cdv,ct,osl,rfl,lk,hcd⟩:=F.ex
 refine tP lk hcd S len fun A outer s H vs Q E hr p3=>?_
 obtain ⟨t,h,q⟩:=hbody cdv A outer s H vs Q E hr p3
 exact ⟨t,h.mw,q⟩
theorem vH {x qual:Str} {st:Stmt} {f:Addr} {oc:Value} {od an:Option Addr} {osl:Array (Option Value)} {kV doc pm cdv ct:Value} (l:K.lookup f=some ⟨oc,od,.func (PySem.W.fnOf x qual (e7 st) (dG st) (av st) .none kV doc pm an cdv ct),osl⟩)
  (c:PySem.W.codeIn K cdv qual=true) (k:PySem.W.keepIn K (.ref f)=true):DG K x qual st f (PySem.W.fnOf x qual (e7 st) (dG st) (av st) .none kV doc pm an cdv ct):=⟨⟨oc,od,kV,doc,pm,an,cdv,ct,osl,rfl,l,c⟩,k⟩
end
theorem Ap {A:Around} {k:Nat} (hr:fT k A):A.units + 1 < cLine:=Vt (Nat.add_le_add_left (by decide:1<=64) _) hr.units
section
variable {X:Cx}
theorem pv (i:Nat) {x:Str} {pos:Pos} (hN:X.N[i]?=some x:=by rfl) (hv:FN X.env.scope x:=by first | exact Or.inl rfl | exact Or.inr (Or.inl rfl) | exact Or.inr (Or.inr rfl)) (hd:(x == ("__debug__" : Str))=false:=by decide)
  (hcd:(x == ("__classdict__" : Str))=false:=by decide):PE X (.Name x pos) (vd i):=ve hN hv hd hcd
end
theorem pI {A B:Prop} (h:B):if false=true then A else B:=by
 rw [if_neg UE]
 exact h
theorem pJ {A B:Prop} (h:A):if true=true then A else B:=by
 rw [if_pos rfl]
 exact h
def iO (H H':Hp):Prop:=∀ b o,H b=some o->H' b=some o
theorem iO.refl (H:Hp):iO H H:=fun _ _ h=>h
section
variable {X:Cx}
end
section
variable {κ:Type} [DecidableEq κ]
end
theorem jN:bootBuiltins "len" = some (.builtin "len"):=by decide +kernel
theorem p4:bootBuiltins "list" = some (.type "list"):=by decide +kernel
theorem nD:bootBuiltins "tuple" = some (.type "tuple"):=by decide +kernel
theorem sa:bootBuiltins "range" = some (.type "range"):=by decide +kernel
theorem vI:bootBuiltins "min" = some (.builtin "min"):=by decide +kernel
theorem NS:bootBuiltins "sorted" = some (.builtin "sorted"):=by decide +kernel
theorem NT:bootBuiltins "reversed" = some (.type "reversed"):=by decide +kernel
structure Kp (ch:List Addr) (H H':Hp):Prop where
 keep:∀ b o,H b=some o->b ∉ ch->H' b=some o
 tup:∀ b xs,H b=some (.tup xs)->H' b=some (.tup xs)
 mJ:∀ b o u,H b=some (.mJ o u)->H' b=some (.mJ o u)
section
variable {ch:List Addr} {H H1 H2:Hp} {a l p:Addr} {o:HO} {xs ys:List V} {K:Zfr}
theorem Kp.refl:Kp ch H H:=⟨fun _ _ h _=>h,fun _ _ h=>h,fun _ _ _ h=>h⟩
theorem Kp.of_same (h:iO H H1):Kp ch H H1:=⟨fun b o e _=>h b o e,fun b xs e=>h b _ e,fun b o u e=>h b _ e⟩
theorem Kp.put (h:Kp ch H H1) (ha:a∈ch) (e:H1 a=some (.lst xs)):Kp ch H (upd H1 a o) :=
 ⟨fun b u q n=>by rw [jk (fun z=>n (by rw [z];exact ha))];exact h.keep b u q n,
   fun b u q=>by
  have r:=h.tup b u q
  rw [jk (FJ r e (by intro z;cases z))];exact r,
   fun b u v q=>by
  have r:=h.mJ b u v q
  rw [jk (FJ r e (by intro z;cases z))];exact r⟩
theorem Kp.Gr (h:Kp ch H H1) (q:eJ K H a xs):eJ K H1 a xs:=by
 rcases q with (q | ⟨o,q⟩) | q
 ·exact .inl (.inl (h.tup a xs q))
 ·exact .inl (.inr ⟨o,h.mJ a o _ q⟩)
 ·exact .inr q
def Aq (K:Zfr) (H:Hp) (a:Addr) (xs:List V):Prop :=
 (∃ o,H a=some (.mJ o (.lst xs))) \/
  ∃ (o:Obj) (its:Array Value) (n:Nat),K.lookup a=some o/\o.cls=.type "list" /\ o.dict=none/\o.data=.seq its n/\its.size<=sizeLine/\Vals xs its.toList
theorem Aq.sq (h:Aq K H a xs):iN K H a xs:=h.elim (fun ⟨o,e⟩=>.inl (.inr ⟨o,e⟩)) .inr
theorem iN.script (hO:Only H) (q:iN K H a xs):Aq K H a xs:=by
 rcases q with (q | ⟨o,q⟩) | q
 ·rcases hO a with e | ⟨o,ys,e⟩
  ·rw [e] at q;cases q
  ·rw [e] at q;cases q
 ·exact .inl ⟨o,q⟩
 ·exact .inr q
theorem iO.up (h:H p=none):iO H (upd H p o):=fun b u e=>by rw [jk (yt e h)];exact e
end
def oy (K:Zfr) (H:Hp) (xs:List V) (Q:VK):Prop:=∀ p H',eJ K H' p xs->iO H H'->Q (.ref p) H'
section
variable {X:Cx}
theorem oy.new {K:Zfr} {H:Hp} {xs:List V} {Q:VK} (h:oy K H xs Q):∀ p,H p=none->Q (.ref p) (upd H p (.tup xs)):=fun p hp=>h p _ (eJ.of pX) (iO.up hp)
theorem oy.it {K:Zfr} {H:Hp} {xs:List V} {Q:VK} {a:Addr} (h:oy K H xs Q) (q:eJ K H a xs):Q (.ref a) H:=h a H q (iO.refl H)
def qq (K:Zfr):R2:=fun x y H Q=>∃ a b xs ys,x=.ref a/\y=.ref b/\eJ K H a xs/\eJ K H b ys/\xs.length + ys.length<=sizeLine/\oy K H (xs ++ ys) Q
theorem DH:ke X (binaryOp .Add) (qq X.K):=by
 intro pins s σ H x y v u Q I rx ry h
 obtain ⟨a,b,xs,ys,rfl,rfl,ha,hb,hz,q⟩:=h
 by_cases hx:xs=[]
 ·subst hx
  cases rx
  cases ry
  obtain ⟨its,r1,p1,_⟩:=I.tuple ha
  obtain ⟨its2,r2,p2,_⟩:=I.tuple hb
  have e:its=[]:=r1.lp.mpr rfl
  subst e
  obtain ⟨⟨cls,dd,data,sl⟩,ho,hc,n,hd⟩:=id p1
  obtain ⟨⟨F5,dd2,data2,sl2⟩,ho2,hc2,n2,hd2⟩:=id p2
  simp only at hc hd hc2 hd2
  subst hc hd hc2 hd2
  exact concat_meets ⟨_,ho,rfl⟩ ⟨_,ho2,rfl⟩ noFill_tuple_add seq_tuple_add PySem.F.slot_tuple_add PySem.F.entry_tuple_add (PySem.F.args_tuple_add_2 _ _)
   (tuple_addW0 a b #[] its2.toArray n n2 dd dd2 sl sl2 (by simp)) ⟨ho,ho2,⟨.ref b,H,I,rfl,q.it (by simpa using hb)⟩⟩
 ·exact Nv pins s σ H _ _ v u Q I rx ry ⟨a,b,xs,ys,rfl,rfl,ha,hb,hx,hz,fun e=>q.it (by subst e;simpa using ha),fun _=>q.new⟩
theorem NU {prog:Program} {w:World} {A:Around} {E:Value->Shared->Prop} {s:Shared} {t sl:Addr} {items:Array Value} {vl vu:Value} {lo hi:Option Int} {Q:Value->Shared->Prop} (ht:IsTup s.heap t items) (hs:s.heap.IsSliceOf sl vl vu .none) (pl:IsPart vl lo) (pu:IsPart vu hi)
  (hw:HT.cN items.size 0 lo=0/\HT.cN items.size items.size hi=items.size) (h:Q (.ref t) s):wpAny (model prog w) A (getItem (.ref t) (.ref sl)) Q E s:=by
 obtain ⟨os,hos,hcs,hds⟩:=id hs
 have F7:s.TypeIs (.ref sl) "slice" := ⟨os,hos,hcs⟩
 unfold getItem
 try with_reducible refine wpAny_holding ?_
 first | refine wpAny_bind (wpAny_pure ?_) | skip
 refine wpAny_bind (wpAny_sequenceKey ht.typeIs (by decide) ?_)
 refine wpAny_bind (wpAny_callSpecial?_slot (name:=Str.ofString "__getitem__") ht.typeIs PyProof.Rows.slot_tuple_getitem
  (wpAny_call_entry PyProof.Rows.slot_tuple_getitem ht.typeIs entry_tuple_getitem ?_ (args_tuple_getitem _ _)))
 show wpAny _ _ (Builtin.Tuple.tupleItemsOf (.ref t) >>= _) _ _ s
 refine wpAny_bind (tupleItemsOf_ ht ?_)
 refine wpAny_bind (wpAny_typeOf F7 ?_)
 rw [if_pos (by decide)]
 refine wpAny_bind (HT.JG hs pl pu ?_)
 have hyes:((((HT.cN items.size 0 lo:Nat):Int) == 0 && (1:Int) == 1 && (HT.cN items.size items.size hi - HT.cN items.size 0 lo) == items.size)=true):=by
  rw [hw.1,hw.2];simp
 show wpAny _ _ (if (((HT.cN items.size 0 lo:Nat):Int) == 0 && (1:Int) == 1 && (HT.cN items.size items.size hi - HT.cN items.size 0 lo) == items.size)=true then _ else _) _ _ s
 rw [if_pos hyes]
 obtain ⟨o,ho,hc,n,hd⟩:=id ht
 unfold Builtin.Tuple.tupleIsExact
 first
  | exact wpAny_bind (wpAny_bind (wpAny_typeOf (T:="tuple") ⟨o,ho,hc⟩ (wpAny_pure (wpAny_bind (wpAny_rule (wpAny_pure ⟨_,rfl,wpAny_pure h⟩))))))
  | exact wpAny_bind (wpAny_bind (wpAny_typeOf (T:="tuple") ⟨o,ho,hc⟩ (wpAny_pure (wpAny_bind (wpAny_rule (wpAny_bind (wpAny_pure ⟨_,rfl,wpAny_pure h⟩)))))))
  | trace_state
def t5 (K:Zfr):V->Option Int->Option Int->Hp->VK->Prop:=fun x lo hi H Q=>∃ a xs,x=.ref a/\eJ K H a xs/\oy K H (lI xs lo hi) Q
theorem NV {xs:List V} {lo hi:Option Int} (h:HT.cN xs.length 0 lo=0/\HT.cN xs.length xs.length hi=xs.length):lI xs lo hi=xs:=by
 unfold lI;rw [h.1,h.2];simp
theorem NW:DB X (t5 X.K):=by
 intro pins s σ H x v vl vu lo hi sl Q I rx hs pl pu h
 obtain ⟨a,xs,rfl,hx,q⟩:=h
 by_cases hw:HT.cN xs.length 0 lo=0/\HT.cN xs.length xs.length hi=xs.length
 ·cases rx
  obtain ⟨its,r,ht,hz⟩:=I.tuple hx
  have hlen:its.toArray.size=xs.length:=by rw [UI];exact r.length.symm
  refine ⟨"tuple",_,PyProof.Rows.slot_tuple_getitem.lookup,ht.typeIs,?_⟩
  exact NU ht hs pl pu (by rw [hlen];exact hw) ⟨.ref a,H,I,rfl,q.it (by rw [NV hw];exact hx)⟩
 ·exact vz pins s σ H _ v vl vu lo hi sl Q I rx hs pl pu ⟨a,xs,rfl,hx,hw,q.new⟩
def fF (lo:Int) (n:Nat):List V:=(List.range n).map fun (k:Nat)=>V.int (lo + k)
theorem NX (lo:Int) (n:Nat):(fF lo n).length=n:=by simp [fF]
theorem Gs:iJ X (.type "range") (fun xs H Q=>∃ j:Int,xs=[.int j]/\∀ p,H p=none->Q (.ref p) (upd H p (.iT 0 j))):=by
 intro pins s σ H xs us Q I r h
 obtain ⟨j,rfl,q⟩:=h
 obtain ⟨u,rfl,t,rfl⟩:=vals1 r
 refine call_range_1 ⟨.ref s.heap.objs.size,_,I.laid (o:=.iT 0 j) (fun b o e=>UC _ e) (Ux _) ?_,rfl,q _ (I.hok.fresh (Ux _))⟩
 exact ⟨_,_,_,UQ _ rfl⟩
theorem yE:iJ X (.type "range") (fun xs H Q=>∃ i j:Int,xs=[.int i,.int j]/\∀ p,H p=none->Q (.ref p) (upd H p (.iT i j))):=by
 intro pins s σ H xs us Q I r h
 obtain ⟨i,j,rfl,q⟩:=h
 obtain ⟨u,u',rfl,⟨t,rfl⟩,t',rfl⟩:=vals2 r
 refine call_range_2 ⟨.ref s.heap.objs.size,_,I.laid (o:=.iT i j) (fun b o e=>UC _ e) (Ux _) ?_,rfl,q _ (I.hok.fresh (Ux _))⟩
 exact ⟨_,_,_,UQ _ rfl⟩
theorem JW:∀ (n:Nat) (lo:Int) (us:List Value),us.length=n->(∀ (j:Nat) (v:Value),us[j]?=some v->∃ t,v=.int (lo + j * 1) t)->Vals (fF lo n) us
 | 0,lo,[],_,_=>.nil
 | 0,lo,_ :: _,h,_=>by simp at h
 | n + 1,lo,[],h,_=>by simp at h
 | n + 1,lo,u :: us,h,hv=>by
  have e:fF lo (n + 1)=V.int lo :: fF (lo + 1) n:=by
   unfold fF
   rw [List.range_succ_eq_map,UT,UW]
   congr 1
   ·simp
   ·apply Vd
    intro i _
    simp only [Function.comp]
    congr 1
    push_cast
    omega
  rw [e]
  obtain ⟨t,ht⟩:=hv 0 u rfl
  refine .cons ⟨t,by rw [ht];simp⟩ (JW n (lo + 1) us (by simpa using h) fun j v hj=>?_)
  obtain ⟨t',ht'⟩:=hv (j + 1) v hj
  refine ⟨t',ht'.trans ?_⟩
  congr 1
  omega
theorem sd (hc:X.calm=true):iJ X (.type "list") (fun xs H Q=>∃ p lo hi,xs=[.ref p]/\H p=some (.iT lo hi)/\(-(2 ^ 62)<=lo/\lo < 2 ^ 62/\-(2 ^ 62)<=hi/\hi < 2 ^ 62)/\(hi - lo).toNat<=2 ^ 24 /\
  ∀ l,H l=none->Q (.ref l) (upd H l (.lst (fF lo (hi - lo).toNat)))):=by
 intro pins s σ H xs us Q I r h
 obtain ⟨p,lo,hi,rfl,hp,⟨b1,b2,b3,b4⟩,hz,q⟩:=h
 obtain ⟨u,rfl,ru⟩:=vals1 r
 cases ru
 obtain ⟨t,t',t'',e⟩:=(show cP X.prog X.w H s.heap p (.iT lo hi) from I.hok p _ hp)
 refine call_list_range (a:=lo) (b:=hi) (c:=1) (n:=(hi - lo).toNat) (I.ok.hd hc) (show IsRange s.heap p lo hi 1 t t' t'' from e) (small_one b1 b2 b3 b4) (by rw [rangeSize_one];split <;> omega) hz fun h' tk acc c kp hD hI=>?_
 refine ⟨.ref s.heap.objs.size,_,I.laid (t':=tk) (o:=.lst (fF lo (hi - lo).toNat)) kp (Ux _) ?_,rfl,q _ (I.hok.fresh (Ux _))⟩
 refine ⟨by rw [NX];exact UZ hz (by decide),acc.toList,c,JW _ _ _ (by rw [Vz];exact hI.1) fun j v hj=>hI.2 j v (by rw [<- hj,Vq]),by simpa using hD⟩
end
mutual
inductive Rep (K:Zfr) (H:Hp):V->PyData->Prop
 | non:Rep K H .non .none
 | bl (b:Bool):Rep K H (.bl b) (.bool b)
 | int (i:Int):Rep K H (.int i) (.int i)
 | str (x:Str):Rep K H (.str x) (.str x)
 | tup {a:Addr} {xs:List V} {ds:List PyData}:eJ K H a xs->eK K H xs ds->Rep K H (.ref a) (.tuple ds)
 | lst {a:Addr} {xs:List V} {ds:List PyData}:iN K H a xs->eK K H xs ds->Rep K H (.ref a) (.list ds)
inductive eK (K:Zfr) (H:Hp):List V->List PyData->Prop
 | nil:eK K H [] []
 | cons {v:V} {vs:List V} {d:PyData} {ds:List PyData}:Rep K H v d->eK K H vs ds->eK K H (v :: vs) (d :: ds)
end
section
variable {X:Cx} {pins:List (Addr×Obj)} {σ:St} {H:Hp} {s:Shared}
mutual
theorem Rep.reads (I:Inv X pins σ H s):∀ {v:V} {d:PyData} {u:Value},Rep X.K H v d->RelV v u->∃ as,Reads s.heap u d as
 | _,_,_,.non,r=>by cases r;exact ⟨_,.none⟩
 | _,_,_,.bl b,r=>by cases r;exact ⟨_,.bool b⟩
 | _,_,_,.int i,r=>by obtain ⟨t,rfl⟩:=r;exact ⟨_,.int i t⟩
 | _,_,_,.str x,r=>by obtain ⟨t,rfl⟩:=r;exact ⟨_,.str x t⟩
 | _,_,_,.tup q rs,r=>by
  cases r
  obtain ⟨its,rv,⟨o,e,c,n,hd⟩,_⟩:=I.tuple q
  obtain ⟨as,ra⟩:=eK.reads I rs rv
  exact ⟨_,.tuple e c hd (by simpa using ra)⟩
 | _,_,_,.lst q rs,r=>by
  cases r
  obtain ⟨its,rv,pl,_⟩:=I.list q
  obtain ⟨o,e,c,n,hd⟩:=pl.isList
  obtain ⟨as,ra⟩:=eK.reads I rs rv
  exact ⟨_,.list e c hd (by simpa using ra)⟩
theorem eK.reads (I:Inv X pins σ H s):∀ {vs:List V} {ds:List PyData} {us:List Value},eK X.K H vs ds->Vals vs us->∃ as,ReadsAll s.heap us ds as
 | _,_,_,.nil,r=>by cases r;exact ⟨_,.nil⟩
 | _,_,_,.cons h t,r=>by
  cases r with
  | cons r1 r2 =>
   obtain ⟨as,h1⟩:=Rep.reads I h r1
   obtain ⟨bs,h2⟩:=eK.reads I t r2
   exact ⟨_,.cons h1 h2⟩
end
def se (K:Zfr) (neg:Bool):R2:=fun x y H Q=>∃ d e,Rep K H x d/\Rep K H y e/\PyData.canLay0 d=true/\PyData.canLay0 e=true/\min d.depth e.depth<=60/\Q (.bl (if neg then !PyData.eqv d e else PyData.eqv d e)) H
theorem Gu (hu:X.A.units + 64 < cLine):ke X (compareOp .Eq) (se X.K false):=by
 intro pins s σ H x y v u Q I rx ry h
 obtain ⟨d,e,hd,he,c1,c2,dp,q⟩:=h
 obtain ⟨as,ra⟩:=hd.reads I rx
 obtain ⟨bs,rb⟩:=he.reads I ry
 exact SeqAt.eqOverData X.prog X.w X.A X.xe s v u d e as bs _ ra rb c1 c2 (by omega) ⟨.bl _,H,I,rfl,q⟩
theorem t6 (hu:X.A.units + 64 < cLine):ke X (compareOp .NotEq) (se X.K true):=by
 intro pins s σ H x y v u Q I rx ry h
 obtain ⟨d,e,hd,he,c1,c2,dp,q⟩:=h
 obtain ⟨as,ra⟩:=hd.reads I rx
 obtain ⟨bs,rb⟩:=he.reads I ry
 exact SeqAt.neOverData X.prog X.w X.A X.xe s v u d e as bs _ ra rb c1 c2 (by omega) ⟨.bl _,H,I,rfl,q⟩
end
section
variable {K:Zfr} {H:Hp}
def dA (ns:List Int):List PyData:=ns.map PyData.int
theorem vJ:∀ (ns:List Int),PyData.canLayAll0 (dA ns)=true
 | []=>rfl
 | n :: r=>by show (true && PyData.canLayAll0 (dA r))=true;rw [vJ r];rfl
theorem yF:∀ (ns:List Int),PyData.depthAll (dA ns)=0
 | []=>rfl
 | n :: r=>by show max 0 (PyData.depthAll (dA r))=0;rw [yF r];rfl
theorem Ar:∀ (ns ms:List Int),PyData.eqvAll (dA ns) (dA ms)=decide (ns=ms)
 | [],[]=>rfl
 | [],_ :: _=>rfl
 | _ :: _,[]=>rfl
 | n :: ns,m :: ms=>by
  show ((n == m) && PyData.eqvAll (dA ns) (dA ms))=decide (n :: ns=m :: ms)
  rw [Ar ns ms]
  by_cases h:n=m
  ·subst h;simp
  ·simp [h]
end
end L2
namespace L2
open PySem PySem.Spec PyProof.Rows
structure Def (K:Zfr) (mg:Str->Option Value) (x:Str) (st:Stmt) (ps:List Str) (f:Addr) (fd:FuncData):Prop where
 F:DG K x x st f fd
 be:∀ us:List Value,us.length=ps.length->bindArgs fd ⟨us,[]⟩=pure (ps.zip us)
 m:mg x=some (.ref f)
theorem Def.b {K:Zfr} {mg:Str->Option Value} {x:Str} {st:Stmt} {ps:List Str} {f:Addr} {fd:FuncData} (D:Def K mg x st ps f fd):Binds K fd ps []:=.all D.be
theorem iK {K:Zfr} {h:Heap} {mg:Str->Option Value} (X:K.In h) (G:h.Ns mainGlobals mg) {x:Str} {st:Stmt} {ps:List Str} {f:Addr} {oc:Value} {od an:Option Addr} {osl:Array (Option Value)} {kV doc pm cdv ct:Value}
  (hb:∀ (kV doc pm:Value) (an:Option Addr) (cdv ct:Value) (us:List Value),us.length=ps.length->bindArgs (PySem.W.fnOf x x (e7 st) (dG st) (av st) .none kV doc pm an cdv ct) ⟨us,[]⟩=pure (ps.zip us))
  (a:PySem.W.nsIn K mainGlobals x=some (some (.ref f))) (l:K.lookup f=some ⟨oc,od,.func (PySem.W.fnOf x x (e7 st) (dG st) (av st) .none kV doc pm an cdv ct),osl⟩)
  (c:PySem.W.codeIn K cdv x=true) (k:PySem.W.keepIn K (.ref f)=true):∃ f fd,Def K mg x st ps f fd :=
 ⟨f,_,vH l c k,hb kV doc pm an cdv ct,PySem.W.mg_of X G a⟩
theorem Def.sf {K:Zfr} {mg:Str->Option Value} {x p:Str} {st:Stmt} {f:Addr} {fd:FuncData} (D:Def K mg x st [p] f fd) (s:Shared) (u:Value):BindsTo s fd ⟨[u],[]⟩ [(p,u)]:=.of_eq (D.be [u] rfl)
theorem t9 {K:Zfr} {h:Heap} {mg:Str->Option Value} (X:K.In h) (G:h.Ns mainGlobals mg) {x:Str} (z:PySem.W.nsIn K mainGlobals x=some none):mg x=none:=PySem.W.mg_none_of X G z
theorem yG {n j:Nat} (h:j < n):lq n (j:Int)=some j:=by
 unfold lq
 rw [if_pos (by omega),if_pos (by omega)]
 simp
theorem vK {α:Type} {xs:List α} {i:Int} (h0:0<=i) (h1:i < xs.length):∃ v,gG xs i=some v/\v∈xs:=by
 have hi:i.toNat < xs.length:=by omega
 refine ⟨xs[i.toNat],?_,Vh hi⟩
 have:=Ad (xs:=xs) (j:=i.toNat) (v:=xs[i.toNat]) (by simp [hi])
 rwa [U0 h0] at this
theorem dT {c:Prop} [Decidable c] (h:decide c=true):c:=of_decide_eq_true h
section
variable {prog:Program} {w:World} {A:Around} {E:Value->Shared->Prop} {s:Shared}
end
section
variable {X:Cx} {e:Expr} {te:TE} {pos p0 p1 p2:Pos} {j:Nat}
end
section
variable {K:Zfr} {f:Addr} {H0:Hp} {σ:St} {i:Nat} {t u ta tb:TE} {R R':V->Hp->Prop} {P P' P2:Int->Prop} {L M:Nat}
end
theorem As:∀ (names:List (Str×NameKind)) (n:Nat) (acc:List (Str×Addr)),cellsFrom n names acc=cellsFrom n names [] ++ acc
 | [],_,_=>rfl
 | (x,k) :: r,n,acc=>by
  show (if k == .cell then cellsFrom (n + 1) r ((x,n) :: acc) else cellsFrom n r acc)=(if k == .cell then cellsFrom (n + 1) r [(x,n)] else cellsFrom n r []) ++ acc
  by_cases hk:(k == NameKind.cell)=true
  ·rw [if_pos hk,if_pos hk,As r (n + 1) ((x,n) :: acc),As r (n + 1) [(x,n)],V9];rfl
  ·rw [if_neg hk,if_neg hk];exact As r n acc
theorem Gv {x:Str} {c:Addr}:∀ (names:List (Str×NameKind)) (n:Nat),(x,c)∈cellsFrom n names []->(x,NameKind.cell)∈names/\n<=c
 | [],_,h=>nomatch h
 | (y,k) :: r,n,h=>by
  have h':(x,c)∈(if k == .cell then cellsFrom (n + 1) r [(y,n)] else cellsFrom n r []):=h
  by_cases hk:(k == NameKind.cell)=true
  ·rw [if_pos hk,As] at h'
   rcases U5.mp h' with h' | h'
   ·obtain ⟨h1,h2⟩:=Gv r (n + 1) h'
    exact ⟨Uz _ h1,by omega⟩
   ·have e:(x,c)=(y,n):=by simpa using h'
    cases e
    have e2:k=NameKind.cell:=by simpa using hk
    subst e2
    exact ⟨Uy,Ux _⟩
  ·rw [if_neg hk] at h'
   obtain ⟨h1,h2⟩:=Gv r n h'
   exact ⟨Uz _ h1,h2⟩
theorem Gw {env:Env} (f:Str×NameKind->List (Str×Addr)->Sem (ForInStep (List (Str×Addr))))
  (hf:∀ name kind cs,f (name,kind) cs=if kind == .free then (do let c <- cellOf env name;pure (.yield ((name,c) :: cs))) else pure (.yield cs)) :
  ∀ (names:List (Str×NameKind)) (acc:List (Str×Addr)),(∀ y∈names,y.2=NameKind.free->∃ c,env.cells.lookup y.1=some c) ->
   ∃ cl,(forIn names acc f:Sem (List (Str×Addr)))=pure cl/\(∀ n c,(n,c)∈cl->(n,c)∈acc\/(env.cells.lookup n=some c/\(n,NameKind.free)∈names))/\(∀ p∈acc,p∈cl)/\∀ n,(n,NameKind.free)∈names->∃ c,(n,c)∈cl
 | [],acc,_=>⟨acc,by rw [List.forIn_nil],fun n c h=>.inl h,fun p h=>h,fun n h=>nomatch h⟩
 | (x,k) :: r,acc,h=>by
  have hr:∀ y∈r,y.2=NameKind.free->∃ c,env.cells.lookup y.1=some c:=fun y hy=>h y (Uz _ hy)
  by_cases hk:k=NameKind.free
  ·subst hk
   obtain ⟨c,hc⟩:=h (x,.free) Uy rfl
   have e:cellOf env x=pure c:=by unfold cellOf;rw [hc]
   obtain ⟨cl,e1,h1,h2,h3⟩:=Gw f hf r ((x,c) :: acc) hr
   refine ⟨cl,?_,fun n d hd=>?_,fun p hp=>h2 p (Uz _ hp),fun n hn=>?_⟩
   ·rw [List.forIn_cons,hf,if_pos (by rfl),e]
    exact e1
   ·rcases h1 n d hd with q | ⟨q,q'⟩
    ·rcases UU.mp q with q | q
     ·cases q;exact .inr ⟨hc,Uy⟩
     ·exact .inl q
    ·exact .inr ⟨q,Uz _ q'⟩
   ·rcases UU.mp hn with q | q
    ·cases q;exact ⟨c,h2 _ Uy⟩
    ·exact h3 n q
  ·obtain ⟨cl,e1,h1,h2,h3⟩:=Gw f hf r acc hr
   have hb:¬ ((k == NameKind.free)=true):=by simpa using hk
   refine ⟨cl,?_,fun n d hd=>?_,h2,fun n hn=>?_⟩
   ·rw [List.forIn_cons,hf,if_neg hb]
    exact e1
   ·rcases h1 n d hd with q | ⟨q,q'⟩
    ·exact .inl q
    ·exact .inr ⟨q,Uz _ q'⟩
   ·rcases UU.mp hn with q | q
    ·cases q;exact absurd rfl hk
    ·exact h3 n q
theorem JX {scope:Scope} {env:Env} (h:∀ y∈scope.names,y.2=NameKind.free->∃ c,env.cells.lookup y.1=some c) :
  ∃ cl,closureFor scope env=pure cl/\(∀ n c,(n,c)∈cl->env.cells.lookup n=some c/\(n,NameKind.free)∈scope.names)/\∀ n,(n,NameKind.free)∈scope.names->∃ c,(n,c)∈cl:=by
 have key:∀ (f:Str×NameKind->List (Str×Addr)->Sem (ForInStep (List (Str×Addr)))),(∀ name kind cs,f (name,kind) cs=if kind == .free then (do let c <- cellOf env name;pure (.yield ((name,c) :: cs))) else pure (.yield cs)) ->
   ∃ cl,((forIn scope.names [] f:Sem (List (Str×Addr))) >>= fun r=>pure r)=pure cl/\(∀ n c,(n,c)∈cl->env.cells.lookup n=some c/\(n,NameKind.free)∈scope.names)/\∀ n,(n,NameKind.free)∈scope.names->∃ c,(n,c)∈cl:=fun f hf=>by
  obtain ⟨cl,e,h1,_,h3⟩:=Gw f hf scope.names [] h
  refine ⟨cl,?_,fun n c hc=>(h1 n c hc).elim (fun z=>nomatch z) id,h3⟩
  rw [e]
  rfl
 simp only [closureFor]
 exact key _ fun name kind cs=>by cases hk:kind == NameKind.free <;> simp [hk]
theorem ltN {a b:Addr} (h:a < b):@LT.lt Nat _ a b:=h
theorem va {a b:Addr} (h:@LT.lt Nat _ a b):a≠b:=Va h
theorem JY {a b:Addr} (h:@LT.lt Nat _ b a):a≠b:=Nat.ne_of_gt h
theorem NY {M:Model} {A:Around} {E:Value->Shared->Prop} {s:Shared} {scope:Scope} {g:Addr} {cl:List (Str×Addr)} {q:Str} {env:Env} {Q:Env->Shared->Prop}
  (h:∀ h',h'.Ns s.heap.objs.size (fun _=>none)->(∀ b o,s.heap.get? b=some o->h'.get? b=some o)->CellsOk h' (s.heap.objs.size + 1) (cellsFrom (s.heap.objs.size + 1) scope.names []) ->
   Q { scope:=scope,locals:=s.heap.objs.size,globals:=g,cells:=cellsFrom (s.heap.objs.size + 1) scope.names cl,qual:=q,func:=none,code:=env.code,frame:=env.frame,builtins:=env.builtins } { s with heap:=h' }) :
  wpAny M A (newFunctionEnv scope g cl [] q none .none (some env)) Q E s:=by
 simp only [newFunctionEnv,Option.isSome_some,if_true]
 refine wpAny_bind (wpAny_alloc ?_)
 refine wpAny_bind (wpAny_layCells _ (fun name kind cells=>by cases hkc:kind == NameKind.cell <;> simp [hkc]) _ _ _ _ ?_)
 have ok:=cellsFrom_ok scope.names (s.heap.push { cls:=.type "dict",data:=.dict #[] }) (s.heap.objs.size + 1) [] ⟨fun _ _ hm=>(nomatch hm),List.Pairwise.nil⟩ (by rw [VZ];exact Ux _)
 rw [VZ] at ok
 rw [show ({ s with heap:=s.heap.push { cls:=.type "dict",data:=.dict #[] } }:Shared).heap.objs.size=s.heap.objs.size + 1 from VZ ..]
 refine wpAny_bind ?_
 rw [List.forIn_nil]
 refine wpAny_pure (wpAny_pure ?_)
 exact h _ ((Heap.Ns.new s.heap (.type "dict")).keeps (pushCells_keeps _ _)) (fun b o e=>pushCells_keeps _ _ b o (UC _ e)) ok
def aQ (X:Cx) (N:List Str) (scope:Scope) (cells:List (Str×Addr)) (C:Addr) (fp:List Addr) (s:Shared) (H:Hp):Cx where
 prog:=X.prog
 w:=X.w
 K:=X.K
 mg:=X.mg
 base:=X.base
 A:=X.A
 N:=N
 s₀:=s
 H₀:=H
 env:=compEnvC scope cells C X.env
 outer:=X.stack
 stack:=X.stack
 ex:=fp
 fn:=fun x=>decide (scope.names.lookup x=some .cell)
 calm:=X.calm
 pn:=[]
 xe:=fun _ _=>False
def qr (scope sc:Scope):Scope :=
 { scope with names:=scope.names.map fun (n,k)=>if (k == .free && sc.kind == .function && sc.names.lookup n == some .cell) then (n,.cell) else (n,k) }
structure qu (sc scope:Scope) (own fr:List Str):Prop where
 kind:scope.kind=.function
 nd:(own ++ fr).Nodup
 yH:(scope.names.map (·.1)).Nodup
 free:∀ y∈scope.names,y.2=.free->sc.names.lookup y.1=some .cell\/sc.names.lookup y.1=some .free
 Gx:∀ x∈fr,scope.names.lookup x=some .free
structure fG (X:Cx) (scope:Scope) (own fr:List Str) (js:List Nat):Prop where
 c:qu X.env.scope scope own fr
 ix:js.map (fun j=>X.N[j]?)=fr.map some
theorem fG.kind {X:Cx} {scope:Scope} {own fr:List Str} {js:List Nat} (S:fG X scope own fr js):scope.kind=.function:=S.c.kind
theorem fG.yH {X:Cx} {scope:Scope} {own fr:List Str} {js:List Nat} (S:fG X scope own fr js):(scope.names.map (·.1)).Nodup:=S.c.yH
theorem fG.Gx {X:Cx} {scope:Scope} {own fr:List Str} {js:List Nat} (S:fG X scope own fr js):∀ x∈fr,scope.names.lookup x=some .free:=S.c.Gx
theorem fG.free {X:Cx} {scope:Scope} {own fr:List Str} {js:List Nat} (S:fG X scope own fr js):∀ y∈scope.names,y.2=.free->X.env.kindOf y.1=some .cell\/X.env.kindOf y.1=some .free:=S.c.free
theorem Au {α:Type}:∀ {l:List (Str×α)} {n:Str} {c:α},(l.map (·.1)).Nodup->(n,c)∈l->l.lookup n=some c
 | (k,v) :: r,n,c,nd,h=>by
  obtain ⟨h1,h2⟩:=Ve.mp nd
  rw [VN]
  rcases UU.mp h with e | h
  ·cases e;simp
  ·have:(n == k)=false:=beq_eq_false_iff_ne.mpr fun e=>h1 (by rw [<- e];exact UH.mpr ⟨(n,c),h,rfl⟩)
   rw [this]
   exact Au h2 h
theorem JZ (scope:Scope) (env:Env) (x:Str):(relabel scope env).names.lookup x=none/\scope.names.lookup x=none \/
  ∃ k,scope.names.lookup x=some k/\(relabel scope env).names.lookup x=some (if (k == .free && env.scope.kind == .function && env.kindOf x == some .cell) then .cell else k):=by
 have key:∀ names:List (Str×NameKind),(names.map fun (n,k)=>if (k == NameKind.free && env.scope.kind == .function && env.kindOf n == some .cell) then (n,NameKind.cell) else (n,k)).lookup x=none/\names.lookup x=none \/
   ∃ k,names.lookup x=some k/\(names.map fun (n,k)=>if (k == NameKind.free && env.scope.kind == .function && env.kindOf n == some .cell) then (n,NameKind.cell) else (n,k)).lookup x=some (if (k == .free && env.scope.kind == .function && env.kindOf x == some .cell) then .cell else k):=by
  intro names
  induction names with
  | nil=>exact .inl ⟨rfl,rfl⟩
  | cons p r ih =>
   obtain ⟨n,k⟩:=p
   rw [UT]
   cases hx:x == n with
   | true =>
    have e:x=n:=by simpa using hx
    subst e
    refine .inr ⟨k,by simp [VN],?_⟩
    by_cases hc:(k == NameKind.free && env.scope.kind == .function && env.kindOf x == some .cell)=true
    ·simp only [if_pos hc];simp [VN]
    ·simp only [if_neg hc];simp [VN]
   | false =>
    have e1:∀ q:NameKind,(((n,q) :: (r.map fun (n,k)=>if (k == NameKind.free && env.scope.kind == .function && env.kindOf n == some .cell) then (n,NameKind.cell) else (n,k))).lookup x)=((r.map fun (n,k)=>if (k == NameKind.free && env.scope.kind == .function && env.kindOf n == some .cell) then (n,NameKind.cell) else (n,k)).lookup x):=fun q=>by rw [VN,hx]
    have e2:((n,k) :: r).lookup x=r.lookup x:=by rw [VN,hx]
    rw [e2]
    by_cases hc:(k == NameKind.free && env.scope.kind == .function && env.kindOf n == some .cell)=true
    ·simp only [if_pos hc];rw [e1];exact ih
    ·simp only [if_neg hc];rw [e1];exact ih
 exact key scope.names
def iX (n:Nat) (js:List Nat) (σ:St):St:=List.replicate n none ++ js.map fun j=>σ.getD j none
theorem Inv.Av {X:Cx} {pins:List (Addr×Obj)} {σ:St} {H:Hp} {s:Shared} {a:Addr} {o:HO} (I:Inv X pins σ H s) (f:ku X pins H a) (new:cP X.prog X.w (upd H a o) s.heap a o):Inv X pins σ (upd H a o) s:=by
 obtain ⟨f0,f1,f2,f3,f4,f5⟩:=f
 have ne:∀ b u,H b=some u->b≠a:=fun b u e z=>by rw [z,f0] at e;cases e
 refine I.step (h':=s.heap) (H':=upd H a o) (g':=s.gens) (d':=s.drawn) (t':=s.toks) (ch:=[a]) (fun b hb=>?_) (fun b u _ _ _ e _=>e) (fun b u _ _ _ e _=>⟨u.slots,e⟩) (fun b u hb e n=>?_) (fun b u _ e=>⟨u,e⟩)
  (fun b xs e=>by rw [jk (ne b _ e)];exact e) (fun b u xs e=>by rw [jk (ne b _ e)];exact e) (fun b ps e=>⟨#[],by rw [jk (ne b _ e),e];simp⟩) (fun m hm=>hm) (fun b u e=>?_) I.bare
 ·have e:b=a:=by simpa using hb
  subst e
  exact ⟨f3,f1,f4,f5⟩
 ·rw [jk (fun z=>hb (by simp [z]))];exact n
 ·by_cases hb:b=a
  ·subst hb;rw [pX] at e;cases e;exact new
  ·rw [jk hb] at e
   exact (I.hok b u e).stay (fun c v _ q=>q) (fun c q=>by rw [jk (ne c _ q)];exact q) fun c xs q=>by rw [jk (ne c _ q)];exact q
def PF (X:Cx) (ifs:List Expr) (t:TT):Prop :=
 ∀ (pins:List (Addr×Obj)) (s:Shared) (σ:St) (H:Hp) (Q:Bool->Hp->Prop),Inv X pins σ H s->t σ H Q ->
  wpAny (model X.prog X.w) X.A (forIn ifs true fun c r=>if r=true then do let ok <- isTrue c X.env (eval c X.env);pure (ForInStep.yield ok) else pure (ForInStep.yield r)) (TP X pins σ Q) X.xe s
theorem rD {X:Cx}:PF X [] (fun _ H Q=>Q true H):=fun _ _ _ H _ I h=>wpAny_tests_nil ⟨H,I,h⟩
theorem DI {X:Cx} {c:Expr} {t:TT} (h:PT X c t):PF X [c] t:=fun pins s σ H Q I hw=>wpAny_tests_one (h pins s σ H Q I hw)
theorem NZ {prog:Program} {w:World} {A:Around} {R:Result->Shared->Prop} {s:Shared} {elt target iter:Expr} {ifs:List Expr} {scope:Scope} {pos:Pos} {it acc:Value} {env:Env} (I:Nat->Shared->Prop)
  (turn:∀ n s,I n s->wpAny (model prog w) A (pyNext it) (fun r s₁=>match r with
   | none=>R (.ok .next) s₁
   | some v=>wpAny (model prog w) A (letOwnedTupleGo target it v) (fun _ s₁'=>wpAny (model prog w) A (assign target env v) (fun _ s₂ =>
     wpAny (model prog w) A (forIn ifs true fun c r=>if r=true then do let ok <- isTrue c env (eval c env);pure (ForInStep.yield ok) else pure (ForInStep.yield r)) (fun ok s₃ =>
      if ok=true then wpAny (model prog w) A (eval elt env) (fun x s₄ =>
       wpAny (model prog w) A (call (.builtin "list.append") [acc,x]) (fun _ s₅=>∃ m,m < n/\I m s₅) (fun _ _=>False) s₄) (fun _ _=>False) s₃
      else ∃ m,m < n/\I m s₃) (fun _ _=>False) s₂) (fun _ _=>False) s₁') (fun _ _=>False) s₁) (fun _ _=>False) s)
  (n:Nat) (h:I n s) :
  codeAny (model prog w) A (.compLoop (.ListComp elt [⟨target,iter,ifs,0⟩] scope pos) 0 it acc env) R s:=by
 refine codeAny_loop rfl I (fun n s hI=>?_) n h
 show wpAny _ A ((compTurn (.ListComp elt [⟨target,iter,ifs,0⟩] scope pos) 0 it acc env).onRaise (fun x=>do noteFrame x env;theTreesLotGoes x)) _ _ s
 refine wpAny_noted ?_
 rw [compTurn_list]
 refine wpAny_bind (wpAny_standAt (wpAny_bind (wpAny_mono (turn n s hI) (fun r s₁ h₁=>?_) fun _ _ h'=>h'.elim)))
 cases r with
 | none=>exact wpAny_pure h₁
 | some v =>
  refine wpAny_bind (wpAny_mono h₁ (fun _ s₁' h₁'=>?_) fun _ _ h'=>h'.elim)
  refine wpAny_bind (wpAny_mono h₁' (fun _ s₂ h₂=>wpAny_bind (wpAny_mono h₂ (fun ok s₃ h₃=>?_) fun _ _ h'=>h'.elim)) fun _ _ h'=>h'.elim)
  cases ok with
  | false=>exact wpAny_pure ⟨rfl,h₃⟩
  | true =>
   exact wpAny_bind (wpAny_bind (wpAny_mono h₃ (fun x s₄ h₄=>wpAny_bind (wpAny_mono h₄ (fun _ s₅ h₅=>wpAny_pure (wpAny_pure ⟨rfl,h₅⟩)) fun _ _ h'=>h'.elim)) fun _ _ h'=>h'.elim))
def vL (J:It) (n:Nat) (js:List Nat) (g:TG) (tc:TT) (te:TE) (σ:St) (H1:Hp) (Q:VK):Prop :=
 ∃ W:Nat->Nat->List V->St->Hp->Prop,(∃ m,W 0 m [] (iX n js σ) H1)/\∀ i m ys σ' H',W i m ys σ' H' ->
  ys.length < sizeLine/\((J.stop i H'/\∀ p,H' p=none->Q (.ref p) (upd H' p (.lst ys))) \/
   (J.go i H'/\∀ x H2,J.rW i H' x H2->g x σ' H2 fun σ2 H3=>tc σ2 H3 fun b H4=>if b=true then te σ2 H4 fun y H5=>∃ m',m' < m/\W (i + 1) m' (ys ++ [y]) σ2 H5 else ∃ m',m' < m/\W (i + 1) m' ys σ2 H4))
def qv (wi:TI) (n:Nat) (js:List Nat) (g:TG) (tc:TT) (te:TE):TE:=fun σ H Q=>wi σ H fun J H1=>vL J n js g tc te σ H1 Q
section
variable {X:Cx} {pins:List (Addr×Obj)} {σ:St} {tg iter elt:Expr} {ifs:List Expr} {scope:Scope} {pos:Pos} {own fr:List Str} {js:List Nat} {g:TG} {tc:TT} {te:TE} {wi:TI}
theorem J0 {H2:Hp} {s2:Shared} {it:Addr} {fp:List Addr} {tn:Nat->Heap->Prop} {J:It} {Q:VK} {E:Value->Shared->Prop} {cl:List (Str×Addr)} {RR:Value->Addr->Result->Shared->Prop}
  (hc:X.calm=true) (S:fG X scope own fr js) (hg:∀ cells C fp s H,PG (aQ X (own ++ fr) scope cells C fp s H) tg g) (hf:∀ cells C fp s H,PF (aQ X (own ++ fr) scope cells C fp s H) ifs tc) (he:∀ cells C fp s H,PE (aQ X (own ++ fr) scope cells C fp s H) elt te)
  (I2:Inv X pins σ H2 s2) (T:Turn X.prog X.w X.K tg J fp it tn) (st2:tn 0 s2.heap) (f2:∀ b∈fp,ku X pins H2 b)
  (oz:∀ n c,(n,c)∈cl->X.env.cells.lookup n=some c/\(n,NameKind.free)∈scope.names) (qw:∀ n,(n,NameKind.free)∈scope.names->∃ c,(n,c)∈cl)
  (W:Nat->Nat->List V->St->Hp->Prop) (m0:Nat) (w0:W 0 m0 [] (iX own.length js σ) H2)
  (turn:∀ i m ys σ' H',W i m ys σ' H'->ys.length < sizeLine/\((J.stop i H'/\∀ p,H' p=none->Q (.ref p) (upd H' p (.lst ys))) \/
   (J.go i H'/\∀ x H2,J.rW i H' x H2->g x σ' H2 fun σ2 H3=>tc σ2 H3 fun b H4=>if b=true then te σ2 H4 fun y H5=>∃ m',m' < m/\W (i + 1) m' (ys ++ [y]) σ2 H5 else ∃ m',m' < m/\W (i + 1) m' ys σ2 H4)))
  (fin:∀ (acc C:Addr) (H':Hp) (s':Shared) (v:V),v=.ref acc->Inv X pins σ H' s'->ku X pins H' C->(∃ m,s'.heap.Ns C m)->Q v H'->RR (.ref acc) C (.ok .next) s') :
  wpAny (model X.prog X.w) X.A (newList []) (fun acc s3=>wpAny (model X.prog X.w) X.A (newFunctionEnv scope X.env.globals cl [] X.env.qual none .none (some X.env)) (fun cenv s4 =>
   codeAny (model X.prog X.w) X.A (.compStart (.ListComp elt [⟨tg,iter,ifs,0⟩] scope pos) 0 (.ref it) acc { cenv with scope:=relabel scope X.env }) (RR acc cenv.locals) s4) E s3) E s2:=by
 refine wpAny_newObj_type ?_
 refine NY fun h4 hns J1 mO=>?_
 have hA:s2.heap.objs.size < (s2.heap.push { cls:=.type "list",data:=.seq ([]:List Value).toArray }).objs.size:=by rw [VZ];exact VO _
 generalize hC:(s2.heap.push { cls:=.type "list",data:=.seq ([]:List Value).toArray }).objs.size=C at hns mO hA ⊢
 generalize hac:s2.heap.objs.size=acc at hA ⊢
 have Gy:acc≠C:=Va hA
 have old:∀ b o,s2.heap.get? b=some o->h4.get? b=some o:=fun b o e=>J1 b o (UC _ e)
 have hacc:h4.get? acc=some { cls:=.type "list",data:=.seq ([]:List Value).toArray }:=J1 _ _ (by rw [<- hac];exact UQ _ rfl)
 have Gz:∀ x c,(x,c)∈cellsFrom (C + 1) scope.names []->h4.IsCell c none/\C + 1<=c/\scope.names.lookup x=some .cell:=fun x c h=>⟨(mO.empty x c h).1,(mO.empty x c h).2,Au S.yH (Gv _ _ h).1⟩
 have lk:∀ x c,(cellsFrom (C + 1) scope.names cl).lookup x=some c->(h4.IsCell c none/\C + 1<=c/\(x,c)∈cellsFrom (C + 1) scope.names [])\/(X.env.cells.lookup x=some c/\scope.names.lookup x=some .free):=fun x c h=>by
  rw [As] at h
  rcases U5.mp (PySem.mem_of_lookup h) with q | q
  ·exact .inl ⟨(Gz x c q).1,(Gz x c q).2.1,q⟩
  ·exact .inr ⟨(oz x c q).1,Au S.yH (oz x c q).2⟩
 have GA:∀ x c,X.env.cells.lookup x=some c->c < s2.heap.objs.size:=fun x c h=>by
  obtain ⟨v,z⟩:=I2.cell x c h
  exact z.lt
 have oZ:∀ x c,(cellsFrom (C + 1) scope.names cl).lookup x=some c->c≠C/\c≠acc/\H2 c=none/\∀ b∈fp,c≠b:=fun x c h=>by
  rcases lk x c h with ⟨_,h1,_⟩ | ⟨h1,_⟩
  ·refine ⟨JY (by omega),JY (by omega),I2.hok.fresh (by omega),fun b hb z=>?_⟩
   obtain ⟨o,e,_⟩:=T.obj 0 _ st2 b hb
   have:=ltN (UN e)
   rw [<- z] at this
   omega
  ·have:=ltN (GA x c h1)
   exact ⟨va (by omega),va (by omega),I2.jJ x c h1,fun b hb=>(f2 b hb).2.2.2.2.1 x c h1⟩
 have Aw:∀ x,scope.names.lookup x=some .free->∃ c,X.env.cells.lookup x=some c/\(cellsFrom (C + 1) scope.names cl).lookup x=some c:=fun x h=>by
  obtain ⟨c,J2⟩:=qw x (PySem.mem_of_lookup h)
  have hc1:=(oz x c J2).1
  have hs:((cellsFrom (C + 1) scope.names cl).lookup x).isSome=true:=by
   refine PySem.W.cellsFrom_some scope.names (C + 1) cl (.inr ?_)
   cases q:cl.lookup x with
   | some d=>rfl
   | none =>
    exfalso
    have:∀ {l:List (Str×Addr)},(x,c)∈l->l.lookup x≠none:=by
     intro l
     induction l with
     | nil=>intro h;exact nomatch h
     | cons p r ih =>
      intro h z
      obtain ⟨k,v⟩:=p
      rw [VN] at z
      cases hb:x == k with
      | true=>rw [hb] at z;cases z
      | false =>
       rw [hb] at z
       rcases UU.mp h with e | h
       ·cases e;simp at hb
       ·exact ih h z
    exact this J2 q
  obtain ⟨d,hd⟩:=V1.mp hs
  rcases lk x d hd with ⟨_,_,h2⟩ | ⟨h1,_⟩
  ·have:=(Gz x d h2).2.2
   rw [h] at this;cases this
  ·rw [hc1] at h1;cases h1
   exact ⟨c,hc1,hd⟩
 have DJ:∀ b∈fp,b≠C/\b≠acc:=fun b hb=>by
  obtain ⟨o,e,_⟩:=T.obj 0 _ st2 b hb
  have:=ltN (UN e)
  exact ⟨va (by omega),va (by omega)⟩
 have N0:(relabel scope X.env).kind=.function:=S.kind
 have ok:(aQ X (own ++ fr) scope (cellsFrom (C + 1) scope.names cl) C fp s2 H2).Ok:=by
  refine ⟨I2.ok.mod,N0,I2.ok.glob,I2.ok.blt,?_,fun x y c h1 h2=>?_,fun x hx=>?_,fun x c hx h=>?_,I2.ok.hd,I2.ok.frames,.inl rfl,fun b hb=>⟨(DJ b hb).1,fun x c h=>(oZ x c h).2.2.2 b hb⟩,I2.bs,UZ I2.ok.tq I2.sz,fun b o e hb=>?_,fun b hb z=>?_,I2.stack,I2.oP⟩
  ·show s2.heap.objs.size<=C
   omega
  ·rcases lk x c h1 with ⟨_,q1,q2⟩ | ⟨q1,_⟩
   ·rcases lk y c h2 with ⟨_,r1,r2⟩ | ⟨r1,_⟩
    ·exact name_of_addr mO.apart q2 r2
    ·have:=ltN (GA y c r1);omega
   ·rcases lk y c h2 with ⟨_,r1,r2⟩ | ⟨r1,_⟩
    ·have:=ltN (GA x c q1);omega
    ·exact I2.ok.inj x y c q1 r1
  ·have hx':(relabel scope X.env).names.lookup x=some .cell\/(relabel scope X.env).names.lookup x=some .free:=hx
   rcases JZ scope X.env x with ⟨e,_⟩ | ⟨k,e1,e2⟩
   ·rcases hx' with z | z <;> (rw [e] at z;cases z)
   ·by_cases hk:k=.free
    ·subst hk
     obtain ⟨c,_,h⟩:=Aw x e1
     exact ⟨c,h⟩
    ·have hk':k=.cell:=by
      have hb:(k == NameKind.free)=false:=beq_eq_false_iff_ne.mpr hk
      rw [hb] at e2
      simp only [Bool.false_and,UY,if_false] at e2
      rcases hx' with z | z
      ·rw [e2] at z;exact UD z
      ·rw [e2] at z;exact absurd (UD z) hk
     subst hk'
     exact V1.mp (PySem.W.cellsFrom_some scope.names (C + 1) cl (.inl e1))
  ·have hx':scope.names.lookup x=some .cell:=of_decide_eq_true hx
   show s2.heap.objs.size<=c
   rcases lk x c h with ⟨_,q,_⟩ | ⟨_,q⟩
   ·omega
   ·rw [hx'] at q;cases q
  ·rcases (f2 b hb).2.2.2.1 with z | z
   ·exact I2.ok.qc b o e z
   ·have h1:@LT.lt Nat _ b X.base.objs.size:=UN e
    have h2:=I2.ok.tq
    omega
  ·rcases UU.mp (I2.lG b z) with e | e
   ·exact (f2 b hb).2.1 e
   ·exact (f2 b hb).2.2.1 e
 have I4:Inv (aQ X (own ++ fr) scope (cellsFrom (C + 1) scope.names cl) C fp s2 H2) [(acc,{ cls:=.type "list",data:=.seq ([]:List Value).toArray })] (iX own.length js σ) H2 { s2 with heap:=h4 }:=by
  refine ⟨ok,rfl,I2.bare,Un.kept old,⟨_,hns,fun i x v e1 e2 e3=>?_⟩,fun x c h=>?_,I2.hok.fresh (by show s2.heap.objs.size<=C;omega),fun x c h=>(oZ x c h).2.2.1,fun p hp=>?_,I2.hok.kept old,?_⟩
  ·have Ax:(own ++ fr)[i]?=some x:=e1
   unfold iX at e2
   by_cases hi:i < own.length
   ·rw [UM (by simpa using hi),V4] at e2
    split at e2 <;> cases e2
   ·rw [UR (by simpa using hi),Wb,UB] at e2
    rw [UR (by omega)] at Ax
    cases hj:js[i - own.length]? with
    | none=>rw [hj] at e2;cases e2
    | some j =>
     rw [hj] at e2
     have vM:σ.getD j none=some v:=UD e2
     have hN:X.N[j]?=some x:=by
      have q:=congrArg (fun l=>l[i - own.length]?) S.ix
      simp only [UB,hj,Ax,Option.map_some] at q
      exact UD q
     have hσ:σ[j]?=some (some v):=by
      rw [UA] at vM
      cases q:σ[j]? with
      | none=>rw [q] at vM;cases vM
      | some o=>rw [q] at vM;exact congrArg some vM
     have hfr:scope.names.lookup x=some .free:=S.Gx x (UJ Ax)
     have hk:=S.free _ (PySem.mem_of_lookup hfr) rfl
     obtain ⟨m,_,hl⟩:=I2.loc
     obtain ⟨u,ru,lo⟩:=hl j x v hN hσ (by rcases hk with k | k;exact .inr (.inl k);exact .inr (.inr k))
     refine ⟨u,ru,.inr ⟨?_,?_⟩⟩
     ·rcases JZ scope X.env x with ⟨_,e⟩ | ⟨k,q1,q2⟩
      ·rw [hfr] at e;cases e
      ·rw [hfr] at q1;cases q1
       have N1:(compEnvC scope (cellsFrom (C + 1) scope.names cl) C X.env).kindOf x=some (if (NameKind.free == .free && X.env.scope.kind == .function && X.env.kindOf x == some .cell)=true then .cell else .free):=q2
       rw [show (aQ X (own ++ fr) scope (cellsFrom (C + 1) scope.names cl) C fp s2 H2).env.kindOf x=_ from N1]
       split
       ·exact .inl rfl
       ·exact .inr rfl
     ·rcases lo with ⟨k,_⟩ | ⟨_,c,hc1,hc2⟩
      ·rcases hk with k' | k' <;> (rw [k] at k';cases k')
      ·obtain ⟨d,hd1,hd2⟩:=Aw x hfr
       rw [hc1] at hd1;cases hd1
       exact ⟨c,hd2,hc2.keeps old⟩
  ·rcases lk x c h with ⟨q,_,_⟩ | ⟨q,_⟩
   ·exact ⟨_,q⟩
   ·obtain ⟨v,z⟩:=I2.cell x c q
    exact ⟨v,z.keeps old⟩
  ·have e:p=(acc,{ cls:=.type "list",data:=.seq ([]:List Value).toArray }):=by simpa [aQ] using hp
   subst e
   refine ⟨hacc,I2.hok.fresh (by omega),Gy,fun z=>?_,fun v z=>nomatch z⟩
   rcases UU.mp (I2.lG acc z) with e | e
   ·have:=ltN I2.lt
    rw [<- e] at this
    omega
   ·exact I2.zz (by omega) e
  ·show (iX own.length js σ).length=(own ++ fr).length
   have q:=congrArg List.length S.ix
   simp only [Uu] at q
   unfold iX
   rw [UG,Wb,Uu,UG,q]
 have GB:∀ {H':Hp} {ob:Obj},(∀ b∈fp,H' b=none)->∀ b∈fp,ku (aQ X (own ++ fr) scope (cellsFrom (C + 1) scope.names cl) C fp s2 H2) [(acc,ob)] H' b:=fun {H' ob} hn b hb =>
  ⟨hn b hb,(DJ b hb).1,fun z=>by
   rcases UU.mp (I2.lG b z) with e | e
   ·exact (f2 b hb).2.1 e
   ·exact (f2 b hb).2.2.1 e,.inl hb,fun x c h=>(oZ x c h).2.2.2 b hb,fun p hp=>by
   have e:p=(acc,ob):=by simpa [aQ] using hp
   subst e
   exact fun z=>(DJ b hb).2 z.symm⟩
 have loop:codeAny (model X.prog X.w) X.A (.compLoop (.ListComp elt [⟨tg,iter,ifs,0⟩] scope pos) 0 (.ref it) (.ref acc) (compEnvC scope (cellsFrom (C + 1) scope.names cl) C X.env)) (RR (.ref acc) C) { s2 with heap:=h4 }:=by
  refine NZ (fun m s'=>∃ (i:Nat) (ys:List V) (its:List Value) (n:Nat) (σ':St) (H':Hp),Inv (aQ X (own ++ fr) scope (cellsFrom (C + 1) scope.names cl) C fp s2 H2) [(acc,{ cls:=.type "list",data:=.seq its.toArray n })] σ' H' s'/\Vals ys its/\tn i s'.heap/\(∀ b∈fp,H' b=none)/\W i m ys σ' H') ?_ m0
   ⟨0,[],[],0,_,H2,I4,.nil,T.keep _ _ _ st2 fun b _ o e=>old b o e,fun b hb=>(f2 b hb).1,w0⟩
  rintro n s5 ⟨i,ys,its,en,σ5,H5,I5,rv,jG,Dy,w5⟩
  obtain ⟨hz,alt⟩:=turn i n ys σ5 H5 w5
  rcases alt with ⟨stop,qn⟩ | ⟨go,step⟩
  ·refine cQ (T.done (aQ X (own ++ fr) scope (cellsFrom (C + 1) scope.names cl) C fp s2 H2) rfl rfl rfl hc i _ s5 σ5 H5 _ I5 (GB Dy) jG stop) fun r s6 ⟨hr,I6⟩=>?_
   subst hr
   show RR (.ref acc) C (.ok .next) s6
   have u:Un (frs X.stack) fp H2 H5 s2.heap s6.heap:=I6.base
   have J6:Inv X pins σ H5 s6:=I2.zC I6.os u I6.hok I6.bare fun b hb=>⟨(f2 b hb).2.2.2.1,(f2 b hb).2.1,(f2 b hb).2.2.2.2.1,(f2 b hb).2.2.2.2.2⟩
   have pacc:=I6.pin (acc,_) (U4 _ Uy)
   have GD:ku X pins H5 acc:=I2.oo (by omega) pacc.2.1
   have fC:ku X pins H5 C:=I2.oo (by omega) I6.free
   have K6:Inv X pins σ (upd H5 acc (.lst ys)) s6:=J6.Av GD ⟨V0 hz,its,en,rv,pacc.1⟩
   obtain ⟨m,hm,_⟩:=I6.loc
   exact fin acc C _ s6 (.ref acc) rfl K6 ⟨by rw [jk Gy.symm];exact fC.1,fC.2⟩ ⟨m,hm⟩ (qn acc pacc.2.1)
  ·refine cQ (T.item (aQ X (own ++ fr) scope (cellsFrom (C + 1) scope.names cl) C fp s2 H2) rfl rfl rfl hc i _ s5 σ5 H5 _ I5 (GB Dy) jG go) fun r s6 ⟨u,hr,h6⟩=>?_
   subst hr
   refine cQ h6 fun _ s7 ⟨x,H7,I7,r7,y7,pK,N2⟩=>?_
   have N3:=I7.pinned (GB N2) (T.obj _ _ pK)
   refine cQ (hg _ _ _ _ _ _ s7 σ5 H7 x u _ N3 r7 (step x H7 y7)) fun _ s8 ⟨σ8,H8,I8,q8⟩=>?_
   refine cQ (hf _ _ _ _ _ _ s8 σ8 H8 _ I8 q8) fun b s9 ⟨H9,I9,q9⟩=>?_
   have DK:∀ {s':Shared} {σ':St} {H':Hp},Inv (aQ X (own ++ fr) scope (cellsFrom (C + 1) scope.names cl) C fp s2 H2) ([(acc,{ cls:=.type "list",data:=.seq its.toArray en })] ++ lH fp s7.heap) σ' H' s'->tn (i + 1) s'.heap/\∀ b∈fp,H' b=none:=fun {s' σ' H'} I' =>
    ⟨T.keep _ _ _ pK fun b hb o e=>(I'.pin (b,o) (U4 _ (U4 _ (Dx hb e)))).1,fun b hb=>by
     obtain ⟨o,e,d⟩:=T.obj _ _ pK b hb
     exact (I'.pin (b,o) (U4 _ (U4 _ (Dx hb e)))).2.1⟩
   cases b with
   | false =>
    obtain ⟨m',hm,w9⟩:=q9
    exact ⟨m',hm,i + 1,ys,its,en,σ8,H9,I9.kh,rv,(DK I9).1,(DK I9).2,w9⟩
   | true =>
    refine cQ (he _ _ _ _ _ _ s9 σ8 H9 _ I9 q9) fun y GF ⟨yv,GG,DL,N4,m',hm,N5⟩=>?_
    have pacc:=DL.pin (acc,_) (U4 _ (VW _ Uy))
    have hlen:=rv.length
    refine wpAny_list_append_plain (items:=its.toArray) ⟨en,pacc.1⟩ (fun h11 ⟨J3,GH⟩ Ay=>?_) (by simp only [UI];omega)
    have cA:∀ x c,(cellsFrom (C + 1) scope.names cl).lookup x=some c->c≠acc:=fun x c h=>(oZ x c h).2.1
    have Ia:Inv (aQ X (own ++ fr) scope (cellsFrom (C + 1) scope.names cl) C fp s2 H2) [] σ8 GG GF:=DL.lj fun p hp=>nomatch hp
    have Ib:Inv (aQ X (own ++ fr) scope (cellsFrom (C + 1) scope.names cl) C fp s2 H2) [] σ8 GG { GF with heap:=h11 }:=Ia.turned (it:=acc) (t':=GF.toks) (fun b o hb e=>(Ay.2 b hb).trans e) pacc.2.1 Gy (.inr (by show s2.heap.objs.size<=acc;omega)) cA fun p hp=>nomatch (show p∈([]:List (Addr×Obj)) from by simpa [aQ] using hp)
    refine ⟨m',hm,i + 1,ys ++ [yv],its ++ [y],J3,σ8,GG,Ib.lj fun p hp=>?_,rv.append (.cons N4 .nil),T.keep _ _ _ (DK DL).1 fun b hb o e=>(Ay.2 b (DJ b hb).2).trans e,(DK DL).2,N5⟩
    have e:p=(acc,{ cls:=.type "list",data:=.seq (its ++ [y]).toArray J3 }):=by simpa using hp
    subst e
    exact ⟨by simpa using GH,pacc.2.1,pacc.2.2.1,pacc.2.2.2.1,fun v z=>nomatch z⟩
 exact codeAny_compStart_list loop (T.self X.A 0 _ _ _ (T.keep _ _ _ st2 fun b _ o e=>old b o e) loop)
theorem qx (hc:X.calm=true) (S:fG X scope own fr js) (hi:PI X tg iter wi) (hg:∀ cells C fp s H,PG (aQ X (own ++ fr) scope cells C fp s H) tg g) (hf:∀ cells C fp s H,PF (aQ X (own ++ fr) scope cells C fp s H) ifs tc) (he:∀ cells C fp s H,PE (aQ X (own ++ fr) scope cells C fp s H) elt te)
  (hs:∀ x,foldedSetIterable iter X.env x=pure x:=by intro _;rfl):PE X (.ListComp elt [⟨tg,iter,ifs,0⟩] scope pos) (qv wi own.length js g tc te):=by
 intro pins s σ H Q I h
 obtain ⟨cl,hcl,oz,qw⟩:=JX (scope:=scope) (env:=X.env) fun y hy hk=>I.ok.has y.1 (S.free y hy hk)
 rw [eval_ListComp]
 refine wpAny_comprehension_free (use:=none) rfl hs hcl S.kind (fun y hy hk=>by rw [<- hk];exact Au S.yH hy) (cQ (hi pins s σ H _ I h) fun v s1 h1=>cQ h1 fun itv s2 h2=>?_)
 obtain ⟨it,fp,tn,J,H2,e,I2,T,st2,f2,W,⟨m0,w0⟩,turn⟩:=h2
 subst e
 refine J0 (RR:=fun acc C=>compPost (model X.prog X.w) X.A X.xe none (EP X pins σ Q) acc C) hc S hg hf he I2 T st2 f2 oz qw W m0 w0 turn ?_
 intro acc C H' s' v hv I' fC ⟨m,hm⟩ q
 subst hv
 obtain ⟨f0,f1,N6,f3,f4,f5⟩:=fC
 exact ⟨m,hm,fun h'' vN=>⟨.ref acc,H',I'.turned (it:=C) (t':=s'.toks) (fun b o hb e=>(vN.2 b hb).trans e) f0 f1 f3 f4 f5,rfl,q⟩⟩
theorem GI {i:Nat} {x:Str} {pos' spos:Pos} (hc:X.calm=true) (hN:X.N.Nodup) (hx:X.N[i]?=some x) (hl:X.env.scope.names.lookup x=some .local) (S:fG X scope own fr js) (hi:PI X tg iter wi) (hg:∀ cells C fp s H,PG (aQ X (own ++ fr) scope cells C fp s H) tg g) (hf:∀ cells C fp s H,PF (aQ X (own ++ fr) scope cells C fp s H) ifs tc) (he:∀ cells C fp s H,PE (aQ X (own ++ fr) scope cells C fp s H) elt te)
  (hsw:swapsWith (.ListComp elt [⟨tg,iter,ifs,0⟩] scope pos) (some (.Name x pos')) spos.line X.env=pure true:=by rfl)
  (hs:∀ x,foldedSetIterable iter X.env x=pure x:=by intro _;rfl):PS X (.Assign [.Name x pos'] (.ListComp elt [⟨tg,iter,ifs,0⟩] scope pos) spos) (rV (qv wi own.length js g tc te) (nP i)):=by
 intro pins s σ H D I h
 obtain ⟨cl,hcl,oz,qw⟩:=JX (scope:=scope) (env:=X.env) fun y hy hk=>I.ok.has y.1 (S.free y hy hk)
 rw [exec_Assign_Name_used _ _ _ _ hsw]
 refine wpAny_bind (wpAny_standAt (wpAny_bind ?_))
 show wpAny _ X.A (do let _ <- comprehension (.ListComp elt [⟨tg,iter,ifs,0⟩] scope pos) scope X.env _ (newList []) false (eval iter X.env) (some (assign (.Name x pos') X.env))) _ _ s
 refine wpAny_bind (wpAny_mono (wpAny_comprehension_free (use:=some (assign (.Name x pos') X.env)) (Q:=fun _ s'=>SP X pins D .next s') rfl hs hcl S.kind (fun y hy hk=>by rw [<- hk];exact Au S.yH hy)
  (cQ (hi pins s σ H _ I h) fun v s1 h1=>cQ h1 fun itv s2 h2=>?_)) (fun _ s' hq=>wpAny_pure (wpAny_pure hq)) fun _ _ e=>e)
 obtain ⟨it,fp,tn,J,H2,e,I2,T,st2,f2,W,⟨m0,w0⟩,turn⟩:=h2
 subst e
 refine J0 (Q:=fun v H'=>nP i v σ H' D.nx) (RR:=fun acc C=>compPost (model X.prog X.w) X.A X.xe (some (assign (.Name x pos') X.env)) (fun _ s'=>SP X pins D .next s') acc C) hc S hg hf he I2 T st2 f2 oz qw W m0 w0 turn ?_
 intro acc C H' s' v hv I' fC ⟨m,hm⟩ q
 subst hv
 obtain ⟨f0,f1,N6,f3,f4,f5⟩:=fC
 show wpAny _ X.A (assign (.Name x pos') X.env (.ref acc)) _ _ _
 refine wpAny_assign_Name (Jg I' hN hx (.inl hl) (show RelV (.ref acc) (.ref acc) from rfl) (fun s'' N7 ⟨a,hs1,ha⟩=>?_) (.inr hl))
 have haC:a≠C:=by
  rcases ha with e | e
  ·rw [e];exact f1.symm
  ·exact f4 _ _ e
 exact ⟨m,hm.sameBut hs1 haC.symm,fun h'' vN=>⟨_,H',N7.turned (it:=C) (t':=s''.toks) (fun b o hb e=>(vN.2 b hb).trans e) f0 f1 f3 f4 f5,q⟩⟩
end
section
variable {X:Cx}
end
section
variable {prog:Program} {w:World} {A:Around} {E:Value->Shared->Prop} {s:Shared}
end
section
variable {X:Cx}
end
mutual
def wD:PyData->Nat
 | .none=>4
 | .bool _=>5
 | .int _=>1921
 | .str x=>(reprText x).length
 | .list _=>0
 | .tuple xs=>Az xs + 3
 | .dict _=>0
def Az:List PyData->Nat
 | []=>0
 | x :: xs=>wD x + 2 + Az xs
end
section
variable {K:Zfr} {ch:List Addr} {H H':Hp}
end
def fU (ns:List Int):PyData:=.tuple (dA ns)
theorem GJ:∀ (rs:List (List Int)),PyData.canLayAll0 (rs.map fU)=true
 | []=>rfl
 | r :: rs=>by
  show (PyData.canLayAll0 (dA r) && PyData.canLayAll0 (rs.map fU))=true
  rw [vJ,GJ rs];rfl
theorem J4:∀ (rs:List (List Int)),PyData.depthAll (rs.map fU)<=1
 | []=>U8 _
 | r :: rs=>by
  show max (PyData.depthAll (dA r) + 1) (PyData.depthAll (rs.map fU))<=1
  have:=J4 rs
  rw [yF];omega
end L2
namespace L2
open PySem PySem.Spec PyProof.Rows
section
variable {X:Cx} {K:Zfr}
theorem DM (hK:X.K=K):Ae X (vA K):=by subst hK;exact lX
theorem rE (hK:X.K=K):Ae X (vB K):=by subst hK;exact eu
theorem J5 (hK:X.K=K):ke X (compareOp .NotIn) (Gf K true):=by subst hK;exact Gg
theorem J7 (hK:X.K=K) (hu:X.A.units + 64 < cLine):ke X (compareOp .NotEq) (se K true):=by subst hK;exact t6 hu
theorem N8 (hK:X.K=K):iJ X (.builtin "len") (fun xs H Q=>∃ p ys,xs=[V.ref p]/\(iN K H p ys\/eJ K H p ys)/\Q (.int ys.length) H):=by subst hK;exact jM
theorem N9 (hK:X.K=K):iJ X (.type "tuple") (fun xs H Q=>∃ p ys,xs=[V.ref p]/\((iN K H p ys/\∀ l,H l=none->Q (.ref l) (upd H l (.tup ys)))\/(eJ K H p ys/\Q (.ref p) H))):=by subst hK;exact nC
end
section
variable {prog:Program} {w:World} {A:Around} {E:Value->Shared->Prop} {s:Shared}
theorem Oa {j t:Addr} {i:Nat} {ys:Array Value} {y:Value} {Q:Value->Shared->Prop} (hj:s.heap.IsTupleIter j t i) (ht:s.heap.IsTuple t ys) (hy:ys[i]?=some y)
  (hQ:∀ h',h'.IsTupleIter j t (i + 1)->Heap.SameBut j s.heap h'->Q y { s with heap:=h' }):wpAny (model prog w) A (Builtin.SmallTypes.nextOf (.ref j)) Q E s:=by
 obtain ⟨r,hr,rc,rd⟩:=id hj
 obtain ⟨q,hq,_,nq,dq⟩:=ht
 unfold Builtin.SmallTypes.nextOf
 refine wpAny_bind (wpAny_callSpecial?_slot (name:=Str.ofString "__next__") hj.typeIs F.slot_tuple_iterator_next (wpAny_call_entry F.slot_tuple_iterator_next hj.typeIs F.entry_tuple_iterator_next ?_ (F.args_tuple_iterator_next_1 _)))
 show wpAny _ _ (PySem.field (.ref j) 0 >>= _) _ _ s
 refine wpAny_bind (wpAny_field hr rd (x:=.ref t) rfl ?_);show wpAny _ _ (if (Value.ref t == Value.none)=true then _ else _) _ _ s
 rw [if_neg (fun z:(Value.ref t == Value.none)=true=>UE z)];show wpAny _ _ (PySem.field (.ref j) 1 >>= _) _ _ s
 refine wpAny_bind (wpAny_field hr rd (x:=.int i 0) rfl ?_);show wpAny _ _ (seqItems? (.ref t) >>= _) _ _ s
 refine wpAny_bind (wpAny_seqItems hq dq ?_);simp only [UK,hy]
 refine wpAny_bind (wpAny_setField hr rd (by simp) (wpAny_pure ⟨y,rfl,wpAny_pure (hQ _ ⟨_,VC _ hr (Obj.isFreed_of_fields (Obj.data_mapFields rd _)),(Obj.cls_mapFields ..).trans rc,by rw [Obj.data_mapFields rd];simp [rawInt]⟩ (VL ..))⟩))
theorem Ob {j t:Addr} {i:Nat} {ys:Array Value} {Q:Value->Shared->Prop} (hh:A.handled=none) (hj:s.heap.IsTupleIter j t i) (ht:s.heap.IsTuple t ys) (hy:ys[i]?=none)
  (hE:∀ h' e,Heap.ExtBut j s.heap h'->(∃ o,h'.get? e=some o/\o.cls=.type "StopIteration")->E (.ref e) { s with heap:=h' }):wpAny (model prog w) A (Builtin.SmallTypes.nextOf (.ref j)) Q E s:=by
 obtain ⟨r,hr,rc,rd⟩:=id hj
 obtain ⟨q,hq,_,nq,dq⟩:=ht
 unfold Builtin.SmallTypes.nextOf
 refine wpAny_bind (wpAny_callSpecial?_slot (name:=Str.ofString "__next__") hj.typeIs F.slot_tuple_iterator_next (wpAny_call_entry F.slot_tuple_iterator_next hj.typeIs F.entry_tuple_iterator_next ?_ (F.args_tuple_iterator_next_1 _)))
 show wpAny _ _ (PySem.field (.ref j) 0 >>= _) _ _ s
 refine wpAny_bind (wpAny_field hr rd (x:=.ref t) rfl ?_);show wpAny _ _ (if (Value.ref t == Value.none)=true then _ else _) _ _ s
 rw [if_neg (fun z:(Value.ref t == Value.none)=true=>UE z)];show wpAny _ _ (PySem.field (.ref j) 1 >>= _) _ _ s
 refine wpAny_bind (wpAny_field hr rd (x:=.int i 0) rfl ?_);show wpAny _ _ (seqItems? (.ref t) >>= _) _ _ s
 refine wpAny_bind (wpAny_seqItems hq dq ?_);simp only [UK,hy]
 refine wpAny_bind (wpAny_rule (wpAny_bind (wpAny_setField hr rd (by simp) ?_)));show wpAny _ _ (newExc (.type "StopIteration") [] >>= _) _ _ _
 refine wpAny_bind ?_;simp only [newExc,newTuple]
 refine wpAny_bind (wpAny_newObj_type ?_ (by size_fits));refine wpAny_bind (m:=firstArgMember _ _) (wpAny_of_eq (a:=Value.none) (by first | rfl | (simp only [firstArgMember];rfl)) ?_)
 refine wpAny_newObj_type ?_ (by size_fits);simp only [raiseNew]
 refine wpAny_bind (wpAny_handled ?_);first | rw [show A.in1.handled=none from hh] | rw [hh]
 exact wpAny_bind (wpAny_pure (wpAny_throw (hE _ _ (((VL ..).extBut.push _).push _) ⟨_,UQ _ rfl,rfl⟩)))
end
theorem qy {prog:Program} {w:World} {A:Around} (hh:A.handled=none) (j t:Addr) (hne:t≠j) (ys:Array Value) :
  Draws prog w A j [j,t] ys.size (fun i v=>ys[i]?=some v) (fun i h=>h.IsTupleIter j t i/\h.IsTuple t ys) where
 live:=fun _ _ st=>let ⟨o,ho,_⟩:=st.1;⟨o,ho⟩
 frame:=fun _ _ _ st k=>⟨st.1.at fun o e=>k j (by simp) o e,let ⟨o,e,r⟩:=st.2;⟨o,k t (by simp) o e,r⟩⟩
 item:=fun i s Q E hi st hQ=>Oa st.1 st.2 (y:=ys[i]) (by simp [hi]) fun h' a b=>hQ _ h' s.toks (by simp [hi]) ⟨a,st.2.extBut b.extBut hne⟩ b
 done:=fun s Q E st hE=>Ob hh st.1 st.2 (by simp) hE
theorem Oc (l:Addr) (items:Array Value) (n:Nat) (dct:Option Addr) (sl:Array (Option Value)) :
  Meets (Builtin.«enumerate.__new__» ⟨[.type "enumerate",.ref l],[]⟩) (fun _ R s=>s.heap.get? l=some { cls:=.type "tuple",dict:=dct,data:=.seq items n,slots:=sl } /\
   R (.ok (.ret (.ref (s.heap.push { cls:=.type "tuple_iterator",data:=.fields #[.ref l,.int 0 0] }).objs.size)))
    { s with heap:=(s.heap.push { cls:=.type "tuple_iterator",data:=.fields #[.ref l,.int 0 0] }).push { cls:=.type "enumerate",data:=.fields #[.none,.bool false,.ref s.heap.objs.size,rawInt 0,.none,.none] } }) :=
 .of_wp fun prog w A R s h=>by
  obtain ⟨hp,g,d,tk,os⟩:=s;obtain ⟨hl,h⟩:=h
  have hsub:=sub_enumerate
  have hL:Heap.IsTuple (Shared.heap ⟨hp,g,d,tk,os⟩) l items:=⟨_,hl,rfl,n,rfl⟩
  wp_walk using AutoSeq1.wpAny_loadPart' hl
  refine wpAny_stack_any fun st=>wpAny_pure ?_
  split
  ·rename_i c _ _ _ _ _
   cases (c == Value.type "enumerate") <;> (wp_walk using AutoSeq1.wpAny_loadPart' hl,wpAny_pyIter_tuple hL;exact ⟨_,rfl,h⟩)
  ·wp_walk using AutoSeq1.wpAny_loadPart' hl,wpAny_pyIter_tuple hL
   exact ⟨_,rfl,h⟩
section
variable {prog:Program} {w:World} {A:Around} {E:Value->Shared->Prop} {s:Shared}
theorem Oe {l:Addr} {ys:Array Value} {Q:Value->Shared->Prop} (ht:s.heap.IsTuple l ys)
  (h:∀ h',IsEnum h' (s.heap.objs.size + 1) s.heap.objs.size 0 .none->h'.IsTupleIter s.heap.objs.size l 0->h'.objs.size=s.heap.objs.size + 2 ->
   (∀ b o,s.heap.get? b=some o->h'.get? b=some o)->Q (.ref (s.heap.objs.size + 1)) { s with heap:=h' }):wpAny (model prog w) A (call (.type "enumerate") [.ref l]) Q E s:=by
 obtain ⟨⟨c,dct,dt,sl⟩,hl,hc,n,hd⟩:=ht
 cases (show c=.type "tuple" from hc)
 cases (show dt=.seq ys n from hd)
 refine callType_new F.called_enumerate (by decide) (F.typeCall_enumerate_1 _) (F.newCall_enumerate_1 _) (fun obj=>F.args_object_init_2 obj _) F.entry_enumerate_new (Oc l ys n dct sl) ⟨hl,?_⟩
 have z:(s.heap.push { cls:=.type "tuple_iterator",data:=.fields #[.ref l,.int 0 0] }).objs.size=s.heap.objs.size + 1:=VZ ..
 show _/\_;rw [z]
 have en:IsEnum ((s.heap.push { cls:=.type "tuple_iterator",data:=.fields #[.ref l,.int 0 0] }).push { cls:=.type "enumerate",data:=.fields #[.none,.bool false,.ref s.heap.objs.size,rawInt 0,.none,.none] }) (s.heap.objs.size + 1) s.heap.objs.size 0 .none:=by
  have g:=UQ (s.heap.push { cls:=.type "tuple_iterator",data:=.fields #[.ref l,.int 0 0] }) (o:={ cls:=.type "enumerate",data:=.fields #[.none,.bool false,.ref s.heap.objs.size,rawInt 0,.none,.none] }) rfl
  rw [z] at g
  exact g
 exact ⟨⟨_,en,rfl⟩,h _ en ⟨_,UC _ (UQ _ rfl),rfl,rfl⟩ (by rw [VZ,z]) fun b o e=>UC _ (UC _ e)⟩
end
section
variable {X:Cx} {pins:List (Addr×Obj)} {σ:St} {H:Hp} {s:Shared} {h':Heap}
theorem Inv.si {t':Nat} {ch:List Addr} (I:Inv X pins σ H s) (k:∀ b o,b ∉ ch->s.heap.get? b=some o->h'.get? b=some o) (f:∀ b∈ch,ku X pins H b):Inv X pins σ H { s with heap:=h',toks:=t' }:=by
 have zB:∀ b u,H b=some u->b ∉ ch:=fun b u e z=>by rw [(f b z).1] at e;cases e
 refine I.step (g':=s.gens) (d':=s.drawn) (ch:=ch) (fun b hb=>⟨(f b hb).2.2.2.1,(f b hb).2.1,(f b hb).2.2.2.2.1,(f b hb).2.2.2.2.2⟩) (fun b o _ _ hc e _=>k b o hc e) (fun b o _ _ hc e _=>⟨o.slots,k b o hc e⟩) (fun _ _ _ _ n=>n)
  (fun b o hc e=>⟨o,k b o hc e⟩) (fun _ _ e=>e) (fun _ _ _ e=>e) (fun b ps e=>⟨#[],by rw [e];simp⟩) (fun m hm=>?_) (fun b u e=>?_) I.bare
 ·obtain ⟨o,es,ep,ho,r⟩:=hm
  exact ⟨o,es,ep,k _ o (fun z=>(f _ z).2.1 rfl) ho,r⟩
 ·refine (I.hok b u e).stay (fun c v hc q=>k c v ?_ q) (fun _ q=>q) fun _ _ q=>q
  rcases hc with z | z
  ·rw [z];exact zB b u e
  ·exact zB c _ z
end
def J8 (K:Zfr) (a:Addr):It :=
 ⟨fun i H=>∃ xs x,eJ K H a xs/\xs[i]?=some x,fun i H x H'=>∃ p y,x=.ref p/\H p=none/\H'=upd H p (.tup [.int i,y])/\∀ xs,eJ K H a xs->xs[i]?=some y,fun i H=>∃ xs,eJ K H a xs/\xs.length=i⟩
theorem Og {P:Program} {w:World} {K:Zfr} {es:List Expr} {x1} {pos:Pos} (a e it:Addr) (hne:e≠it) :
  Turn P w K (.Tuple es x1 pos) (J8 K a) [e,it] e (fun i h=>(∃ old,IsEnum h e it i old)/\h.IsTupleIter it a i) where
 mem:=by simp
 obj:=fun i h st b hb=>by
  obtain ⟨⟨old,he⟩,o,e2,c,d⟩:=st
  rcases UU.mp hb with rfl | hb
  ·exact ⟨_,he,fun v z=>by
    have z':Data.fields _=Data.cell v:=z
    cases z'⟩
  ·have q:b=it:=by simpa using hb
   subst q
   exact ⟨o,e2,fun v z=>by rw [d] at z;cases z⟩
 keep:=fun i h h' st k=>⟨let ⟨old,he⟩:=st.1;⟨old,k e (by simp) _ he⟩,st.2.at fun o q=>k it (by simp) o q⟩
 item:=by
  intro X hP hw hK hc i pins s σ H E I hf st hg
  subst hP hw hK
  obtain ⟨xs,x,hq,hx⟩:=hg
  obtain ⟨its,rv,p,hz⟩:=I.tuple hq
  obtain ⟨u,hu,ru⟩:=rv.get hx
  obtain ⟨⟨old,he⟩,hit⟩:=st
  have ht:s.heap.IsTuple a its.toArray:=p
  have GK:a≠it:=fun z=>by
   obtain ⟨o,e1,c1,_⟩:=hit
   obtain ⟨o2,e2,c2,_⟩:=ht
   rw [z,e1] at e2;cases e2
   exact absurd (c1.symm.trans c2) (by simp)
  have Oh:e≠a:=fun z=>by
   obtain ⟨o2,e2,c2,_⟩:=ht
   rw [<- z,he] at e2;cases e2
   exact absurd c2 (by simp)
  have hl:=rv.length
  have hi:i < its.toArray.size:=by
   have:=Uw.mp hu
   obtain ⟨q,_⟩:=this
   simpa using q
  refine wpAny_pyNext_enum_itemD (qy (A:=X.A.in1) (I.ok.hd hc) it a GK its.toArray) he ⟨hit,ht⟩ hi hne (by simp [hne,Oh]) fun y h1 tk hy ho hst hT hsz kk=>?_
  have ey:y=u:=by
   have:its.toArray[i]?=some u:=by simpa using hu
   exact UD (hy.symm.trans this)
  subst ey
  refine ⟨_,rfl,wpAny_letOwnedTupleGo_enum ho fun h2 Oi sb=>?_⟩
  have hel:@LT.lt Nat _ e s.heap.objs.size:=UN he
  have hil:@LT.lt Nat _ it s.heap.objs.size:=by obtain ⟨o,e1,_⟩:=hit;exact UN e1
  have GL:H s.heap.objs.size=none:=I.hok.fresh (Ux _)
  have sb':Heap.SameBut e h1 h2:=sb
  have I1:Inv X pins σ (upd H s.heap.objs.size (.tup [.int i,x])) { s with heap:=s.heap.push { cls:=.type "tuple",data:=.seq #[.int i tk,y] },toks:=s.toks } :=
   I.laid (fun b u e=>UC _ e) (Ux _) ⟨(by decide:2<=sizeLine),[.int i tk,y],.cons ⟨tk,rfl⟩ (.cons ru .nil),⟨_,UQ _ rfl,rfl,rfl,_,rfl⟩⟩
  have nn:∀ b∈[e,it],@LT.lt Nat _ b s.heap.objs.size:=fun b hb=>by
   rcases UU.mp hb with rfl | hb
   ·exact hel
   ·have q:b=it:=by simpa using hb
    rw [q];exact hil
  have hn:∀ b∈[e,it],upd H s.heap.objs.size (.tup [.int i,x]) b=none:=fun b hb=>by
   unfold upd
   rw [if_neg (Va (nn b hb))]
   exact (hf b hb).1
  have I2:Inv X pins σ (upd H s.heap.objs.size (.tup [.int i,x])) { s with heap:=h2,toks:=tk + 1 }:=by
   refine Inv.si (s:={ s with heap:=s.heap.push { cls:=.type "tuple",data:=.seq #[.int i tk,y] },toks:=s.toks }) (h':=h2) I1 (ch:=[e,it]) (t':=tk + 1) (fun b o hb q=>?_) fun b hb=>⟨hn b hb,(hf b hb).2⟩
   have nb:b≠e/\b≠it:=by simpa using hb
   refine (sb'.2 b nb.1).trans ?_
   rcases Heap.get?_push_cases q with ⟨rfl,rfl⟩ | q
   ·exact hT
   ·exact kk b o nb.1 nb.2 q
  refine ⟨.ref s.heap.objs.size,_,I2,rfl,⟨_,x,rfl,GL,rfl,fun ys sj=>by rw [I.gH sj hq];exact hx⟩,⟨⟨y,?_⟩,?_⟩,hn⟩
  ·have:((i + 1:Nat):Int)=(i:Int) + 1:=by omega
   rw [this];exact Oi
  ·exact hst.1.extBut sb'.extBut (Ne.symm hne)
 done:=by
  intro X hP hw hK hc i pins s σ H E I hf st hg
  subst hP hw hK
  obtain ⟨xs,hq,hx⟩:=hg
  obtain ⟨its,rv,p,hz⟩:=I.tuple hq
  obtain ⟨⟨old,he⟩,hit⟩:=st
  have ht:s.heap.IsTuple a its.toArray:=p
  have GK:a≠it:=fun z=>by
   obtain ⟨o,e1,c1,_⟩:=hit
   obtain ⟨o2,e2,c2,_⟩:=ht
   rw [z,e1] at e2;cases e2
   exact absurd (c1.symm.trans c2) (by simp)
  have hl:=rv.length
  have ei:its.toArray.size=i:=by simp;omega
  refine wpAny_pyNext_enum_endD (qy (A:=X.A.in1) (I.ok.hd hc) it a GK its.toArray) he (by rw [ei];exact ⟨hit,ht⟩) fun h1 eb=>⟨rfl,?_⟩
  obtain ⟨f0,f1,f2,f3,f4,f5⟩:=hf it (by simp)
  exact I.turned (t':=s.toks) (fun b o hb q=>eb b o hb q) f0 f1 f3 f4 f5
 self:=fun _ _ _ _ _ st h=>let ⟨_,he⟩:=st.1;wpAny_pyIter_enum he h
def ua (K:Zfr) (ta:TA):TI:=fun σ H R=>ta σ H fun vs H1=>∃ a,vs=[.ref a]/\(∃ xs,eJ K H1 a xs)/\R (J8 K a) H1
theorem GN {X:Cx} {es:List Expr} {x1} {p0:Pos} {l:Expr} {ta:TA} {p pos:Pos} (hg:Gl X "enumerate") (hm:X.mg "enumerate" = none) (ha:PA X [l] ta) (hs:starEach [l] X.env=[(false,eval l X.env)]:=by rfl) :
  PI X (.Tuple es x1 p0) (.Call (.Name "enumerate" p) [l] [] pos) (ua X.K ta):=by
 intro pins s σ H R I h
 refine Call_ (yx I hg hm boot_enumerate (PyProof.Rows.callWith_type1 (cQ (ha pos pins s σ H _ I h) fun us s1 ⟨vs,H1,I1,r1,q1⟩=>?_) hs rfl))
 obtain ⟨a,e,⟨xs,hq⟩,q⟩:=q1
 subst e
 cases r1 with
 | cons r rr =>
  cases rr
  cases r
  obtain ⟨its,rv,p,hz⟩:=I1.tuple hq
  refine Oe (show s1.heap.IsTuple a its.toArray from p) fun h1 he hi hsz kk=>?_
  refine wpAny_pyIter_enum he ?_
  refine ⟨s1.heap.objs.size + 1,[s1.heap.objs.size + 1,s1.heap.objs.size],_,_,H1,rfl,I1.kept (t':=s1.toks) kk,Og a _ _ (Nat.succ_ne_self _),⟨⟨_,he⟩,hi⟩,fun b hb=>?_,q⟩
  have hb':@LE.le Nat _ s1.heap.objs.size b:=by
   rcases UU.mp hb with rfl | hb
   ·exact V7 _
   ·have e:b=s1.heap.objs.size:=by simpa using hb
    rw [e];exact Ux _
  exact I1.oo hb' (I1.hok.fresh hb')
section
open Sem (wp)
open PySem.AutoSeq1 (wpAny_loadPart')
open PySem.MeetsSeq PySem.MeetsSeq2 PySem.MeetsSeq3
theorem IntsAre.get {vs:List Value} {ns:List Int} (h:IntsAre vs ns):∀ {i:Nat} {n:Int},ns[i]?=some n->∃ t,vs[i]?=some (.int n t):=by
 induction h with
 | nil=>intro i n e;simp at e
 | cons a t h ih =>
  intro i n e
  cases i with
  | zero=>exact ⟨t,by simpa using e⟩
  | succ i=>simpa using ih (by simpa using e)
theorem qz (l:Addr) (items:Array Value) (n:Nat) (dd:Option Addr) (sl:Array (Option Value)) (ns:List Int) (hi:IntsAre items.toList ns) (v:Int) (t:Tok) (j:Nat) (hj:ns[j]?=some v) (hb:∀ i,i < j->ns[i]?≠some v) :
  Meets (Builtin.«tuple.index» ⟨[.ref l,.int v t],[]⟩)
   (fun _ R s=>s.heap.get? l=some { cls:=.type "tuple",dict:=dd,data:=.seq items n,slots:=sl }/\R (.ok (.ret (.int (j:Int) s.toks))) { s with toks:=s.toks + 1 }) :=
 .of_wp fun prog w A R s h=>by
  obtain ⟨hp,g,d,tk,os⟩:=s;obtain ⟨hl,h⟩:=h
  have z1:items.size=ns.length:=by rw [<- hi.length];simp
  have hjl:j < ns.length:=(Uw.mp hj).1
  wp_walk using wpAny_loadPart' hl
  have key:wpAny (model prog w) A.in1 (forIn (m:=Sem) [:min items.size items.size] ((none,()):Option Fin×Unit) (fun (i:Nat) _ =>
    match items[i]? with
    | some y=>do
     let b <- eqBool y (Value.int v t)
     if b=true then do
      let r <- retInt (i:Int)
      pure (ForInStep.done (some r,()))
     else pure (ForInStep.yield (none,()))
    | _=>pure (ForInStep.yield (none,()))))
   (fun a s'=>a.1=some (.done (.ret (.int (j:Int) tk)))/\s'=⟨hp,g,d,tk + 1,os⟩) (fun e s'=>R (Except.error e) s') ⟨hp,g,d,tk,os⟩:=by
   rw [Std.Legacy.Range.forIn_eq_forIn_range']
   have ez:([:min items.size items.size]:Std.Legacy.Range).size=ns.length:=by
    simp [Std.Legacy.Range.size,z1]
   rw [ez]
   refine wpAny_forIn_list _ (fun rest b s'=>b.1=none/\s'=⟨hp,g,d,tk,os⟩/\∃ k,k<=j/\rest=List.range' k (ns.length - k) 1) _ ?_ ?_ _ _ ⟨rfl,rfl,0,U8 _,by simp⟩
   ·rintro x rest b s' ⟨hb',rfl,k,hk,e⟩
    have el:ns.length - k=(ns.length - (k + 1)) + 1:=by omega
    rw [el,List.range'_succ] at e
    injection e with e1 e2
    subst e1
    have nS:x < ns.length:=by omega
    obtain ⟨t',ht'⟩:=IntsAre.get hi (Uv nS)
    have Oj:items[x]?=some (.int ns[x] t'):=by rw [<- ht',Vq]
    simp only [Oj]
    obtain ⟨e,he,hiff⟩:=HT.Nl A.in1 ⟨hp,g,d,tk,os⟩ ns[x] t' v t
    refine wpAny_bind (he prog w _ _ ?_)
    cases e with
    | true =>
     have ev:ns[x]=v:=hiff.mp rfl
     have Ol:x=j:=by
      rcases V2 x j with h' | h'
      ·exact absurd (by rw [Uv nS,ev]) (hb x h')
      ·omega
     subst Ol
     wp_walk
     first | exact ⟨rfl,rfl⟩ | trivial
    | false =>
     have ev:ns[x]≠v:=fun q=>absurd (hiff.mpr q) UE
     have:x≠j:=fun z=>ev (by subst z;rw [Uv nS] at hj;exact UD hj)
     wp_walk
     exact ⟨rfl,rfl,x + 1,by omega,e2⟩
   ·rintro b s' ⟨hb',rfl,k,hk,e⟩
    have:(List.range' k (ns.length - k) 1).length=0:=by rw [<- e];rfl
    rw [List.length_range'] at this
    omega
  refine wpAny_mono key (fun a s' ha=>?_) (fun _ _ z=>z)
  obtain ⟨ha,rfl⟩:=ha
  obtain ⟨a1,a2⟩:=a
  cases (show a1=_ from ha)
  exact wpAny_pure ⟨_,rfl,h⟩
end
section
variable {X:Cx} {K:Zfr}
def oA (K:Zfr):V->List V->Hp->VK->Prop:=fun x vs H Q=>∃ (a:Addr) (ns:List Int) (v:Int) (j:Nat),x=.ref a/\vs=[.int v]/\eJ K H a (ns.map V.int)/\ns[j]?=some v/\(∀ i,i < j->ns[i]?≠some v)/\Q (.int (j:Int)) H
theorem Om:Af X "tuple.index" (oA X.K):=by
 intro pins s σ H x xs v us Q I rx rv h
 obtain ⟨a,ns,y,j,rfl,rfl,hq,hj,hb,q⟩:=h
 cases rx
 obtain ⟨u,rfl,t,rfl⟩:=vals1 rv
 obtain ⟨its,r,⟨⟨c,dd,dt,sl⟩,e,hc,hd,n,hdt⟩,hz⟩:=I.om hq
 cases (show c=.type "tuple" from hc)
 cases (show dt=.seq its.toArray n from hdt)
 refine call_meets F.slot_tuple_index ⟨_,e,rfl⟩ F.entry_tuple_index (F.args_tuple_index_2 _ _) (qz a its.toArray n dd sl ns (by simpa using Nu r) y t j hj hb) ⟨e,?_⟩
 exact ⟨.int j,H,I.tok _,⟨_,rfl⟩,q⟩
theorem GO (hK:X.K=K):Af X "tuple.index" (oA K):=by subst hK;exact Om
theorem GP {o e:Expr} {es:List Expr} {to:TE} {t:TA} {name:Str} {apos cpos:Pos} {T id:String} {r:V->List V->Hp->VK->Prop} (hK:X.K=K) (pa:PlainAttrs T) (slot:Slot T name id) (hty:typeOf (.builtin id)=pure (.type "method_descriptor")) (hm:Af X id r) (ho:PE X o to) (ha:PA X (e :: es) t)
  (hbase:attributeBase o name X.env (eval o X.env)=eval o X.env:=by rfl)
  (hfew:((backTo cpos (starEach (e :: es) X.env)).all (fun x=>!x.1) && (backToKw cpos (keywordEach [] X.env)).all (fun x=>x.1.isSome)
   && decide ((e :: es).length + ([]:List Keyword).length + (if ([]:List Keyword).isEmpty then 0 else 1) < 30))=true:=by rfl)
  (hline:(apos.endLine == cpos.line)=true:=by rfl) (hs:starEach (e :: es) X.env=(false,eval e X.env) :: starEach es X.env:=by rfl) (hplain:(backTo cpos (starEach es X.env)).any (·.1)=false:=by rfl) :
  PE X (.Call (.Attribute o name apos) (e :: es) [] cpos) (Gj K T r to t):=by subst hK;exact oU pa slot hty hm ho ha hbase hfew hline hs hplain
end
open Builtin.Str
section
variable {X:Cx} {K:Zfr}
end
section
variable {X:Cx} {tg:Expr}
end
end L2
namespace L2
open PySem PySem.Spec PyProof.Rows
open Builtin.Str
section
variable {prog:Program} {w:World} {A:Around} {E:Value->Shared->Prop} {s:Shared}
end
set_option genInjectivity false in
inductive ZS where
 | tup (a:Addr) | lst (a:Addr) | str (x:Str)
def ZS.has (K:Zfr) (H:Hp) (i:Nat) (v:V):ZS->Prop
 | .tup a=>∃ xs,eJ K H a xs/\xs[i]?=some v
 | .lst a=>∃ xs,iN K H a xs/\xs[i]?=some v
 | .str x=>∃ c,x.cps[i]?=some c/\v=.str ⟨#[c]⟩
def ZS.fin (K:Zfr) (H:Hp) (i:Nat):ZS->Prop
 | .tup a=>∃ xs,eJ K H a xs/\xs.length=i
 | .lst a=>∃ xs,iN K H a xs/\xs.length=i
 | .str x=>x.cps.size=i
section
variable {X:Cx} {pins:List (Addr×Obj)} {σ:St} {H:Hp} {s:Shared}
end
theorem ZS.sr {X:Cx} {pins:List (Addr×Obj)} {σ:St} {H:Hp} {s:Shared} {src:ZS} {i:Nat} {x y:V} (I:Inv X pins σ H s) (a:src.has X.K H i x) (b:src.has X.K H i y):y=x:=by
 cases src with
 | tup p =>
  obtain ⟨xs,h1,e1⟩:=a
  obtain ⟨ys,h2,e2⟩:=b
  rw [I.gH h2 h1] at e2
  rw [e1] at e2
  exact (UD e2).symm
 | lst p =>
  obtain ⟨xs,h1,e1⟩:=a
  obtain ⟨ys,h2,e2⟩:=b
  rw [I.nO h2 h1] at e2
  rw [e1] at e2
  exact (UD e2).symm
 | str z =>
  obtain ⟨c,h1,rfl⟩:=a
  obtain ⟨d,h2,rfl⟩:=b
  rw [h1] at h2
  cases h2
  rfl
def ZS.val (K:Zfr) (H:Hp) (x:V):ZS->Prop
 | .tup a=>x=.ref a/\∃ xs,eJ K H a xs
 | .lst a=>x=.ref a/\∃ xs,iN K H a xs
 | .str z=>x=.str z
end L2
namespace L2
open PySem PySem.Spec PyProof.Rows
section
variable {X:Cx} {K:Zfr}
def eD (us:List Value) (ds:List PyData) (dx:PyData) (u:Value):Bool:=@decide (∃ (i:Nat) (d:PyData),us[i]?=some u/\ds[i]?=some d/\PyData.eqv d dx=true) (Classical.propDecidable _)
theorem eK.get:∀ {H:Hp} {vs:List V} {ds:List PyData},eK K H vs ds->∀ {i:Nat} {v:V},vs[i]?=some v->∃ d,ds[i]?=some d/\Rep K H v d
 | _,_,_,.nil,i,v,e=>by simp at e
 | _,_,_,.cons (d:=d) a b,0,v,e=>⟨d,by simp,by have:_=v:=UD (by simpa using e);rw [<- this];exact a⟩
 | _,_,_,.cons a b,i + 1,v,e=>by
  obtain ⟨d,e1,r⟩:=eK.get b (i:=i) (by simpa using e)
  exact ⟨d,by simpa using e1,r⟩
theorem eK.qA:∀ {H:Hp} {vs:List V} {ds:List PyData},eK K H vs ds->vs.length=ds.length
 | _,_,_,.nil=>rfl
 | _,_,_,.cons _ r=>by rw [U1,U1,eK.qA r]
theorem Vals.AA {xs:List V} {us:List Value} (r:Vals xs us) {i:Nat} {u:Value} (h:us[i]?=some u):∃ v,xs[i]?=some v/\RelV v u:=by
 have hi:=(Uw.mp h).1
 have hl:=r.length
 obtain ⟨u',hu,ru⟩:=r.get (i:=i) (x:=xs[i]'(by omega)) (Uv _)
 rw [h] at hu
 cases hu
 exact ⟨_,Uv _,ru⟩
open Classical in
theorem AB {pins:List (Addr×Obj)} {σ:St} {H:Hp} {s:Shared} {xs:List V} {us:List Value} {ds:List PyData} {x:V} {v:Value} {dx:PyData} (hu:X.A.units + 64 < cLine) (I:Inv X pins σ H s) (r:Vals xs us) (hr:eK X.K H xs ds) (rx:RelV x v) (hx:Rep X.K H x dx) (c1:∀ d∈ds,d.canLay0=true) (c2:dx.canLay0=true) (c3:dx.depth<=60) :
  ∀ u∈us,SeqAt.EqAt X.A.in1 s u v (eD us ds dx u):=by
 intro u hm
 obtain ⟨bs,rb⟩:=hx.reads I rx
 have key:∀ (i:Nat) (d:PyData),us[i]?=some u->ds[i]?=some d->SeqAt.EqAt X.A.in1 s u v (PyData.eqv d dx):=fun i d h1 h2=>by
  obtain ⟨y,hy,ry⟩:=r.AA h1
  obtain ⟨d',hd',rd⟩:=hr.get hy
  rw [h2] at hd'
  cases hd'
  obtain ⟨as,ra⟩:=rd.reads I ry
  intro prog w E Q q
  refine SeqAt.eqBoolOverData prog w X.A.in1 E s u v d dx as bs Q ra rb (c1 _ (UJ h2)) c2 ?_ q
  have:X.A.in1.units<=X.A.units + 2:=by
   first | exact Nat.le_add_right _ _ | (show X.A.units<=_;omega) | (show X.A.units + 1<=_;omega)
  omega
 obtain ⟨i,hi⟩:=Vb hm
 have hl1:=r.length
 have hl2:=hr.qA
 have hil:=(Uw.mp hi).1
 unfold eD
 by_cases h:∃ (i:Nat) (d:PyData),us[i]?=some u/\ds[i]?=some d/\PyData.eqv d dx=true
 ·rw [decide_eq_true h]
  obtain ⟨j,d,h1,h2,h3⟩:=h
  have:=key j d h1 h2
  rwa [h3] at this
 ·rw [decide_eq_false h]
  have h2:ds[i]?=some (ds[i]'(by omega)):=Uv _
  have k:=key i _ hi h2
  cases hb:PyData.eqv (ds[i]'(by omega)) dx with
  | true=>exact absurd ⟨i,_,hi,h2,hb⟩ h
  | false=>rwa [hb] at k
open Classical in
theorem J9 {xs:List V} {us:List Value} {ds:List PyData} {dx:PyData} (h1:us.length=ds.length):us.any (eD us ds dx)=ds.any fun d=>PyData.eqv d dx:=by
 rw [V6,WM,WM]
 constructor
 ·rintro ⟨u,hu,h⟩
  unfold eD at h
  obtain ⟨i,d,_,h2,h3⟩:=of_decide_eq_true h
  exact ⟨d,UJ h2,h3⟩
 ·rintro ⟨d,hd,h⟩
  obtain ⟨i,hi⟩:=Vb hd
  have hil:=(Uw.mp hi).1
  refine ⟨us[i]'(by omega),Vh _,?_⟩
  unfold eD
  exact decide_eq_true ⟨i,d,Uv _,hi,h⟩
def vO (K:Zfr) (neg:Bool):R2:=fun x y H Q=>∃ p xs ds dx,y=.ref p/\(iN K H p xs\/eJ K H p xs)/\eK K H xs ds/\Rep K H x dx/\(∀ d∈ds,PyData.canLay0 d=true)/\PyData.canLay0 dx=true/\PyData.depth dx<=60/\Q (.bl (if neg then !ds.any (fun d=>PyData.eqv d dx) else ds.any fun d=>PyData.eqv d dx)) H
theorem vP (hu:X.A.units + 64 < cLine):ke X (compareOp .In) (vO X.K false):=by
 intro pins s σ H x y v u Q I rx ry h
 obtain ⟨p,xs,ds,dx,rfl,hq,hr,hx,c1,c2,c3,q⟩:=h
 cases ry
 have e2:∀ {its:List Value},Vals xs its->its.toArray.any (eD its ds dx)=ds.any fun d=>PyData.eqv d dx:=fun {its} r=>by
  rw [show its.toArray.any (eD its ds dx)=its.any (eD its ds dx) by simp]
  exact J9 (xs:=xs) (by rw [<- r.length];exact hr.qA)
 rcases hq with hq | hq
 ·obtain ⟨its,r,pl,hz⟩:=I.list hq
  refine SeqAt.in_listAt (eD its ds dx) pl.isList (fun w hw=>AB hu I r hr rx hx c1 c2 c3 w (by simpa using hw)) ⟨.bl _,H,I,rfl,?_⟩
  rw [e2 r]
  exact q
 ·obtain ⟨its,r,pl,hz⟩:=I.tuple hq
  refine SeqAt.in_tupleAt (eD its ds dx) pl (fun w hw=>AB hu I r hr rx hx c1 c2 c3 w (by simpa using hw)) ⟨.bl _,H,I,rfl,?_⟩
  rw [e2 r]
  exact q
theorem Oo (hu:X.A.units + 64 < cLine):ke X (compareOp .NotIn) (vO X.K true):=by
 intro pins s σ H x y v u Q I rx ry h
 obtain ⟨p,xs,ds,dx,rfl,hq,hr,hx,c1,c2,c3,q⟩:=h
 cases ry
 have e2:∀ {its:List Value},Vals xs its->its.toArray.any (eD its ds dx)=ds.any fun d=>PyData.eqv d dx:=fun {its} r=>by
  rw [show its.toArray.any (eD its ds dx)=its.any (eD its ds dx) by simp]
  exact J9 (xs:=xs) (by rw [<- r.length];exact hr.qA)
 rcases hq with hq | hq
 ·obtain ⟨its,r,pl,hz⟩:=I.list hq
  refine SeqAt.notIn_listAt (eD its ds dx) pl.isList (fun w hw=>AB hu I r hr rx hx c1 c2 c3 w (by simpa using hw)) ⟨.bl _,H,I,rfl,?_⟩
  rw [e2 r]
  exact q
 ·obtain ⟨its,r,pl,hz⟩:=I.tuple hq
  refine SeqAt.notIn_tupleAt (eD its ds dx) pl (fun w hw=>AB hu I r hr rx hx c1 c2 c3 w (by simpa using hw)) ⟨.bl _,H,I,rfl,?_⟩
  rw [e2 r]
  exact q
end
open Builtin.Str
theorem AE:Slot "reversed" "__next__" "reversed.__next__" :=
 .of (owner:="reversed") (n:="__next__") (by rw [typeLookup_type,builtinLookup_eq_fast];kernel_rfl) (by decide +kernel) (by decide +kernel) (by decide +kernel)
  (by first | exact .inl (by decide +kernel) | exact .inr (by decide +kernel)) (by rw [isSubtype_type];kernel_rfl)
theorem Ka:Slot "reversed" "__iter__" "reversed.__iter__" :=
 .of (owner:="reversed") (n:="__iter__") (by rw [typeLookup_type,builtinLookup_eq_fast];kernel_rfl) (by decide +kernel) (by decide +kernel) (by decide +kernel)
  (by first | exact .inl (by decide +kernel) | exact .inr (by decide +kernel)) (by rw [isSubtype_type];kernel_rfl)
theorem Kb:entryFor table "reversed.__next__" = some Builtin.«reversed.__next__»:=entryFor_of_tree (by kernel_rfl)
theorem Kc (a:Value):argsOk "reversed.__next__" ⟨[a],[]⟩:=by unfold argsOk;kernel_rfl
theorem Oq:entryFor table "reversed.__iter__" = some Builtin.«dict_keyiterator.__iter__» :=
 entryFor_alias (id':="dict_keyiterator.__iter__") (by kernel_rfl) (by first | rfl | decide +kernel) (by decide +kernel) (by kernel_rfl)
theorem Ot (a:Value):argsOk "reversed.__iter__" ⟨[a],[]⟩:=by unfold argsOk;kernel_rfl
theorem Ou:typeLookup (.type "tuple") "__reversed__" = pure none:=by rw [typeLookup_type,builtinLookup_eq_fast];kernel_rfl
theorem Ov:typeLookup (.type "str") "__reversed__" = pure none:=by rw [typeLookup_type,builtinLookup_eq_fast];kernel_rfl
def kD (h:Heap) (a:Addr) (v:Value) (i:Int):Prop:=∃ o,h.get? a=some o/\o.cls=.type "reversed" /\ o.data=.fields #[v,rawInt i]
theorem kD.at {h h':Heap} {a:Addr} {v:Value} {i:Int} (x:kD h a v i) (e:∀ o,h.get? a=some o->h'.get? a=some o):kD h' a v i:=let ⟨o,ho,r⟩:=x;⟨o,e _ ho,r⟩
section
variable {prog:Program} {w:World} {A:Around} {E:Value->Shared->Prop} {s:Shared}
theorem kD.typeIs {a:Addr} {v:Value} {i:Int} (x:kD s.heap a v i):s.TypeIs (.ref a) "reversed" := let ⟨o,ho,hc,_⟩:=x;⟨o,ho,hc⟩
theorem Kd {it:Addr} {v:Value} {i:Int} {Q:Value->Shared->Prop} (hit:kD s.heap it v i) (h:Q (.ref it) s):wpAny (model prog w) A (pyIter (.ref it)) Q E s:=by
 refine wpAny_pyIter_slot hit.typeIs Ka (wpAny_call_entry Ka hit.typeIs Oq ?_ (Ot _))
 show wpAny _ _ (ret (.ref it)) _ _ s
 exact wpAny_pure ⟨_,rfl,"reversed",_,hit.typeIs,AE.lookup,h⟩
theorem Ow {it:Addr} {T gid:String} {v:Value} {y:Value->Prop} {i:Nat} {Q:Option Value->Shared->Prop} (hit:kD s.heap it v (i:Int)) (hT:s.TypeIs v T) (hg:typeLookup (.type T) "__getitem__" = pure (some (.builtin gid)))
  (hget:∀ (A':Around) (E':Value->Shared->Prop) (Q':Value->Shared->Prop) (tk:Tok) (n:Nat),(∀ z k,y z->Q' z { s with toks:=k })->wpAny (model prog w) A' (getItem v (.int i tk)) Q' E' { s with toks:=n })
  (hQ:∀ x h' k,y x->kD h' it v ((i:Int) - 1)->Heap.SameBut it s.heap h'->Q (some x) { s with heap:=h',toks:=k }):wpAny (model prog w) A (pyNext (.ref it)) Q E s:=by
 obtain ⟨o,ho,hc,hd⟩:=id hit
 unfold pyNext
 refine wpAny_bind (wpAny_attempt (wpAny_callSpecial?_slot (name:=Str.ofString "__next__") hit.typeIs AE
  (wpAny_call_entry AE hit.typeIs Kb ?_ (Kc _))))
 unfold Builtin.«reversed.__next__»
 refine wpAny_bind (wpAny_of_eq (a:=(Value.ref it,[])) rfl ?_)
 try dsimp only
 refine wpAny_bind (wpAny_field ho hd (x:=v) rfl ?_)
 refine wpAny_bind (wpAny_field ho hd (x:=rawInt (i:Int)) rfl ?_)
 show wpAny _ _ (if (i:Int) < 0 then _ else _) _ _ s
 rw [if_neg (by omega)]
 refine wpAny_bind (wpAny_specialOf hT hg ?_)
 try dsimp only
 rw [if_neg (by simp)]
 refine wpAny_bind (wpAny_mkInt ?_)
 refine wpAny_bind (wpAny_attempt (hget _ _ _ _ _ fun x k hx=>?_))
 show wpAny _ _ (field (.ref it) 1 >>= _) _ _ _
 refine wpAny_bind (wpAny_field ho hd (x:=rawInt (i:Int)) rfl ?_)
 refine wpAny_bind (wpAny_setField ho hd (by simp) ?_)
 first
 | refine wpAny_pure ⟨x,rfl,wpAny_pure (hQ _ _ _ hx ?_ (VL ..))⟩
 | refine wpAny_pure ⟨x,rfl,wpAny_bind (wpAny_pure (wpAny_pure (hQ _ _ _ hx ?_ (VL ..))))⟩
 exact ⟨_,VC _ ho (Obj.isFreed_of_fields (Obj.data_mapFields hd _)),(Obj.cls_mapFields ..).trans hc,by rw [Obj.data_mapFields hd];simp [rawInt]⟩
theorem Ox {it:Addr} {v:Value} {i:Int} {Q:Option Value->Shared->Prop} (hh:A.handled=none) (hit:kD s.heap it v i) (hi:i < 0)
  (hQ:∀ h',Heap.ExtBut it s.heap h'->Q none { s with heap:=h' }):wpAny (model prog w) A (pyNext (.ref it)) Q E s:=by
 obtain ⟨o,ho,hc,hd⟩:=id hit
 unfold pyNext
 refine wpAny_bind (wpAny_attempt (wpAny_callSpecial?_slot (name:=Str.ofString "__next__") hit.typeIs AE
  (wpAny_call_entry AE hit.typeIs Kb ?_ (Kc _))))
 unfold Builtin.«reversed.__next__»
 refine wpAny_bind (wpAny_of_eq (a:=(Value.ref it,[])) rfl ?_)
 try dsimp only
 refine wpAny_bind (wpAny_field ho hd (x:=v) rfl ?_)
 refine wpAny_bind (wpAny_field ho hd (x:=rawInt i) rfl ?_)
 show wpAny _ _ (if i < 0 then _ else _) _ _ s
 rw [if_pos hi]
 refine wpAny_bind (wpAny_rule ?_)
 refine wpAny_bind ?_
 show wpAny _ _ (setField (.ref it) 1 (rawInt (-1)) >>= fun _=>setField (.ref it) 0 .none) _ _ _
 refine wpAny_bind (wpAny_setField ho hd (by simp) ?_)
 have DN:=VC (Obj.mapFields fun x=>x.setIfInBounds 1 (rawInt (-1))) ho (Obj.isFreed_of_fields (Obj.data_mapFields hd _))
 have hd1:=Obj.data_mapFields hd (fun x=>x.setIfInBounds 1 (rawInt (-1)))
 refine wpAny_setField DN hd1 (by simp) ?_
 first
 | show wpAny _ _ (newExc (.type "StopIteration") [] >>= _) _ _ _
 | (refine wpAny_bind ?_;show wpAny _ _ (newExc (.type "StopIteration") [] >>= _) _ _ _)
 refine wpAny_bind ?_
 simp only [newExc,newTuple]
 refine wpAny_bind (wpAny_newObj_type ?_ (by size_fits))
 refine wpAny_bind (m:=firstArgMember _ _) (wpAny_of_eq (a:=Value.none) (by first | rfl | (simp only [firstArgMember];rfl)) ?_)
 refine wpAny_newObj_type ?_ (by size_fits)
 simp only [raiseNew]
 refine wpAny_bind (wpAny_handled ?_)
 first | rw [show A.in1.handled=none from hh] | rw [hh]
 refine wpAny_bind (wpAny_pure (wpAny_throw ?_))
 refine wpAny_bind (wpAny_isInstance (T:="StopIteration") (b:=true) ⟨_,UQ _ rfl,rfl⟩ isSubtype_stop ?_)
 refine wpAny_pure (hQ _ ?_)
 have x2:Heap.ExtBut it s.heap ((s.heap.update it (Obj.mapFields fun x=>x.setIfInBounds 1 (rawInt (-1)))).update it (Obj.mapFields fun x=>x.setIfInBounds 0 .none)):=fun c o hc e=>(VL ..).extBut c o hc ((VL ..).extBut c o hc e)
 exact (x2.push _).push _
end
def Ke (K:Zfr) (src:ZS) (n:Nat):It:=⟨fun i H=>i < n/\∃ v,src.has K H (n - 1 - i) v,fun i H x H'=>H'=H/\∀ v,src.has K H (n - 1 - i) v->v=x,fun i _=>i=n⟩
theorem ZS.got {X:Cx} {pins:List (Addr×Obj)} {σ:St} {H:Hp} {s:Shared} {src:ZS} {u:Value} {x:V} {i:Nat} {v:V} (I:Inv X pins σ H s) (r:RelV x u) (hv:src.val X.K H x) (nl:∀ a,src≠.lst a) (hs:∀ z,src=.str z->z.length<=sizeLine) (h:src.has X.K H i v) :
  ∃ (T gid:String) (y:Value->Prop),s.TypeIs u T/\typeLookup (.type T) "__getitem__" = pure (some (.builtin gid))/\(∀ z,y z->RelV v z) /\
   ∀ (A':Around) (E':Value->Shared->Prop) (Q':Value->Shared->Prop) (tk:Tok) (n:Nat),(∀ z k,y z->Q' z { s with toks:=k })->wpAny (model X.prog X.w) A' (getItem u (.int i tk)) Q' E' { s with toks:=n }:=by
 have hn:=ky
 cases src with
 | lst a=>exact absurd rfl (nl a)
 | tup a =>
  obtain ⟨rfl,xs,hq⟩:=hv
  obtain ⟨xs',hq',hx⟩:=h
  rw [I.gH hq' hq] at hx
  cases r
  obtain ⟨its,rv,pl,hz⟩:=I.tuple hq
  obtain ⟨w,ew,rw'⟩:=rv.get hx
  have hl:=rv.length
  have hi:=(Uw.mp hx).1
  refine ⟨"tuple",_,fun z=>z=w,pl.typeIs,slot_tuple_getitem.lookup,fun z e=>e ▸ rw',fun A' E' Q' tk n hq'=>?_⟩
  exact getItem_tuple (s:={ s with toks:=n }) (j:=i) pl (by omega) (by omega) (by rw [UI];exact seqIndex_of (by omega) (by omega)) (by simpa using ew) (hq' w n rfl)
 | str z =>
  cases hv
  obtain ⟨c,hx,rfl⟩:=h
  obtain ⟨t,rfl⟩:=r
  have hi:=(Array.getElem?_eq_some_iff.mp hx).1
  have hl:z.length=z.cps.size:=rfl
  have Uc:=hs z rfl
  refine ⟨"str",_,fun y=>∃ t,y=.str ⟨#[c]⟩ t,typeIs_str s z t,slot_str_getitem.lookup,fun y hy=>hy,fun A' E' Q' tk n hq'=>?_⟩
  refine getItem_str (s:={ s with toks:=n }) (c:=c) (by
   have e1:decide ((i:Int) < -(2 ^ 63:Int))=false:=decide_eq_false (by omega)
   have e2:decide ((i:Int) >= 2 ^ 63)=false:=decide_eq_false (by omega)
   rw [e1,e2,Bool.or_false]) (by rw [seqIndex_of (by omega) (by omega)];simpa using hx) (hq' _ _ ⟨_,rfl⟩)
theorem Oy {P:Program} {w:World} {K:Zfr} {tg:Expr} (src:ZS) (u:Value) (n:Nat) (it:Addr) (nl:∀ a,src≠.lst a) (hs:∀ z,src=.str z->z.length<=sizeLine) (x:V) (rx:RelV x u) (hsv:∀ (H:Hp) (v:V) (i:Nat),src.has K H i v->src.val K H x) :
  Turn P w K tg (Ke K src n) [it] it (fun i h=>kD h it u ((n:Int) - 1 - (i:Nat))) where
 mem:=by simp
 obj:=fun i h st b hb=>by
  have e:b=it:=by simpa using hb
  subst e
  obtain ⟨o,e,c,d⟩:=st
  exact ⟨o,e,fun v z=>by rw [d] at z;cases z⟩
 keep:=fun i h h' st k=>st.at fun o e=>k it (by simp) o e
 item:=by
  intro X hP hw hK hc i pins s σ H E I hf st hg
  subst hP hw hK
  obtain ⟨hin,v,hv⟩:=hg
  obtain ⟨f0,f1,f2,f3,f4,f5⟩:=hf it (by simp)
  obtain ⟨T,gid,y,hT,hl,hy,hget⟩:=ZS.got I rx (hsv H v _ hv) nl hs hv
  have st':kD s.heap it u ((n - 1 - i:Nat):Int):=by
   have e:((n - 1 - i:Nat):Int)=(n:Int) - 1 - (i:Nat):=by omega
   rw [e];exact st
  refine Ow st' hT hl hget fun z h' tk hz hr sb=>?_
  have I1:Inv X pins σ H { s with heap:=h',toks:=tk }:=I.turned (fun b o hb e=>(sb.2 b hb).trans e) f0 f1 f3 f4 f5
  have hr':kD h' it u ((n:Int) - 1 - ((i + 1:Nat):Int)):=by
   have e:(n:Int) - 1 - ((i + 1:Nat):Int)=((n - 1 - i:Nat):Int) - 1:=by omega
   rw [e];exact hr
  obtain ⟨o,e,c,d⟩:=id hr
  exact ⟨z,rfl,Dw (s:={ s with heap:=h',toks:=tk }) e c d (by decide) ⟨v,H,I1,hy z hz,⟨rfl,fun v' hv'=>ZS.sr I hv hv'⟩,hr',fun b hb=>(hf b hb).1⟩⟩
 done:=by
  intro X hP hw hK hc i pins s σ H E I hf st hg
  subst hP hw hK
  have hg:i=n:=hg
  subst hg
  obtain ⟨f0,f1,f2,f3,f4,f5⟩:=hf it (by simp)
  exact Ox (I.ok.hd hc) st (by omega) fun h' eb=>⟨rfl,I.turned (t':=s.toks) (fun b o hb e=>eb b o hb e) f0 f1 f3 f4 f5⟩
 self:=fun _ _ _ _ _ st h=>Kd st h
theorem Oz:Slot "reversed" "__init__" "object.__init__" :=
 .of (owner:="object") (n:="__init__") (by rw [typeLookup_type,builtinLookup_eq_fast];kernel_rfl) (by decide +kernel) (by decide +kernel) (by decide +kernel)
  (by first | exact .inl (by decide +kernel) | exact .inr (by decide +kernel)) (by rw [isSubtype_type];kernel_rfl)
theorem Kf:TypeCalled "reversed" "reversed.__new__" "object.__init__" :=
 ⟨by decide +kernel,by decide +kernel,⟨_,_,F.mro_reversed⟩,F.made_reversed,by decide +kernel,by rw [isSubtype_type];kernel_rfl,Oz⟩
theorem Kg {u:Value} {T gid:String} {n:Nat} (h0:typeLookup (.type T) "__reversed__" = pure none) (h1:typeLookup (.type T) "__getitem__" = pure (some (.builtin gid))) (hsub:isSubtype (.type T) (.type "dict")=pure false)
  (GQ:["tuple.__getitem__","str.__getitem__","bytes.__getitem__","bytearray.__getitem__","memoryview.__getitem__","numpy.ndarray.__getitem__","sqlite3.Row.__getitem__"].contains gid=true) :
  Meets (Builtin.«reversed.__new__» ⟨[.type "reversed",u],[]⟩) (fun _ R s=>s.TypeIs u T /\
   (∀ (prog:Program) (w:World) (A':Around) (E':Value->Shared->Prop) (Q':Value->Shared->Prop),(∀ t k,Q' (.int n t) { s with toks:=k })->wpAny (model prog w) A' (call (.builtin "len") [u]) Q' E' s) /\
   ∀ k,R (.ok (.ret (.ref s.heap.objs.size))) { s with heap:=s.heap.push { cls:=.type "reversed",data:=.fields #[u,rawInt ((n:Int) - 1)] },toks:=k }) :=
 .of_wp fun prog w A R s h=>by
 obtain ⟨hT,hlen,h⟩:=h
 unfold Builtin.«reversed.__new__»
 refine wpAny_bind (wpAny_of_eq (newClass_reversed _) ?_)
 try dsimp only
 refine wpAny_bind (wpAny_of_eq (a:=()) (by first | rfl | kernel_rfl) ?_)
 refine wpAny_bind (wpAny_of_eq (a:=()) (by first | rfl | kernel_rfl) ?_)
 try dsimp only
 refine wpAny_bind (wpAny_specialOf hT h0 ?_)
 try dsimp only
 refine wpAny_bind ?_
 show wpAny _ _ (isInstance u (.type "dict") >>= _) _ _ _
 refine wpAny_bind (wpAny_isInstance (b:=false) hT hsub ?_)
 rw [if_neg UE]
 refine wpAny_bind (wpAny_specialOf hT h1 ?_)
 show wpAny _ _ (if ["tuple.__getitem__","str.__getitem__","bytes.__getitem__","bytearray.__getitem__","memoryview.__getitem__","numpy.ndarray.__getitem__","sqlite3.Row.__getitem__"].contains gid=true then _ else _) _ _ _
 rw [if_pos GQ]
 refine wpAny_pure ?_
 rw [if_neg (by simp)]
 refine wpAny_bind (hlen _ _ _ _ _ fun t k=>?_)
 refine wpAny_bind (wpAny_of_eq (a:=some (n:Int)) rfl ?_)
 try dsimp only
 refine wpAny_bind ?_
 show wpAny _ _ (newObj (.type "reversed") (.fields #[u,rawInt ((n:Int) - 1)])) _ _ _
 refine wpAny_newObj_type ?_
 exact wpAny_pure ⟨_,rfl,h k⟩
theorem OA:isSubtype (.type "tuple") (.type "dict")=pure false:=by rw [isSubtype_type];kernel_rfl
theorem OB:isSubtype (.type "str") (.type "dict")=pure false:=by rw [isSubtype_type];kernel_rfl
def AF (K:Zfr) (ta:TA):TI:=fun σ H R=>ta σ H fun vs H1=>∃ (x:V) (src:ZS) (n:Nat),vs=[x]/\src.val K H1 x/\src.fin K H1 n/\(∀ a,src≠.lst a)/\(∀ z,src=.str z->z.length<=sizeLine)/\R (Ke K src n) H1
theorem vQ {X:Cx} {tg l:Expr} {ta:TA} {p pos:Pos} (hg:Gl X "reversed") (hm:X.mg "reversed" = none) (ha:PA X [l] ta) (hs:starEach [l] X.env=[(false,eval l X.env)]:=by rfl) :
  PI X tg (.Call (.Name "reversed" p) [l] [] pos) (AF X.K ta):=by
 intro pins s σ H R I h
 refine Call_ (yx I hg hm NT (PyProof.Rows.callWith_type1 (cQ (ha pos pins s σ H _ I h) fun us s1 ⟨vs,H1,I1,r1,q1⟩=>?_) hs rfl))
 obtain ⟨x,src,n,e,hv,hn,nl,hz,q⟩:=q1
 subst e
 obtain ⟨u,rfl,r⟩:=vals1 r1
 ·have Ud:=ky
  have hsv:∀ (H:Hp) (v:V) (i:Nat),src.has X.K H i v->src.val X.K H x:=fun H v i hh=>by
   cases src with
   | tup a=>obtain ⟨xs,h1,_⟩:=hh;exact ⟨hv.1,xs,h1⟩
   | lst a=>exact absurd rfl (nl a)
   | str z=>exact hv
  have fin:∀ k,wpAny (model X.prog X.w) X.A (pyIter (.ref s1.heap.objs.size)) (FY X pins σ tg R) X.xe { s1 with heap:=s1.heap.push { cls:=.type "reversed",data:=.fields #[u,rawInt ((n:Int) - 1)] },toks:=k }:=fun k=>by
   have g:kD (s1.heap.push { cls:=.type "reversed",data:=.fields #[u,rawInt ((n:Int) - 1)] }) s1.heap.objs.size u ((n:Int) - 1 - (0:Nat)):=⟨_,UQ _ rfl,rfl,by simp⟩
   refine Kd g ?_
   refine ⟨s1.heap.objs.size,[s1.heap.objs.size],_,_,H1,rfl,I1.kept (t':=k) fun b o e=>UC _ e,Oy src u n _ nl hz x r hsv,g,fun b hb=>?_,q⟩
   have e:b=s1.heap.objs.size:=by simpa using hb
   subst e
   exact I1.oo (Ux _) (I1.hok.fresh (Ux _))
  cases src with
  | lst a=>exact absurd rfl (nl a)
  | tup a =>
   obtain ⟨rfl,xs,hq⟩:=id hv
   obtain ⟨xs',hq',hx⟩:=hn
   have hx:xs.length=n:=by rw [<- I1.gH hq' hq];exact hx
   cases r
   obtain ⟨its,rv,pl,hz'⟩:=I1.tuple hq
   have hl:=rv.length
   refine callType_new Kf (by decide) (F.typeCall_reversed_1 _) (F.newCall_reversed_1 _) (fun obj=>F.args_object_init_2 obj _) F.entry_reversed_new (Kg (n:=n) Ou slot_tuple_getitem.lookup OA (by decide)) ⟨pl.typeIs,fun prog w A' E' Q' hq=>?_,fun k=>⟨⟨_,UQ _ rfl,rfl⟩,fin k⟩⟩
   have e:its.toArray.size=n:=by rw [UI];omega
   refine len_tuple pl (by rw [e];omega) ?_
   rw [e]
   exact hq _ _
  | str z =>
   cases hv
   have hn:z.length=n:=hn
   have:=hz z rfl
   obtain ⟨t,rfl⟩:=r
   refine callType_new Kf (by decide) (F.typeCall_reversed_1 _) (F.newCall_reversed_1 _) (fun obj=>F.args_object_init_2 obj _) F.entry_reversed_new (Kg (n:=n) Ov slot_str_getitem.lookup OB (by decide)) ⟨typeIs_str _ z t,fun prog w A' E' Q' hq=>?_,fun k=>⟨⟨_,UQ _ rfl,rfl⟩,fin k⟩⟩
   refine len_str (by omega) ?_
   rw [hn]
   exact hq _ _
end L2
namespace L2
open PySem PySem.Spec PyProof.Rows
open Builtin
section
variable {X:Cx}
end
end L2
namespace L2
open PySem PySem.Spec PyProof.Rows
section
variable {prog:Program} {w:World} {A:Around} {E:Value->Shared->Prop} {s:Shared}
end
section
variable {X:Cx} {pos:Pos}
end
section
variable {prog:Program} {w:World} {A:Around} {E:Value->Shared->Prop} {s:Shared}
end
section
variable {prog:Program} {w:World} {A:Around} {E:Value->Shared->Prop} {s:Shared}
end
section
variable {X:Cx} {pos:Pos}
end
def DU (a:Addr) (xs:List (List Int×Addr×Value)):HO:=.ext fun h=>(a == sysModules)=false/\xs.length<=sizeLine/\∃ o es ep,h.get? a=some o/\o.ExactDict/\o.data=.dict es ep /\
 (∃ (P:Program) (w:World),es.toList=xs.map (entryOfKey (tupleKind (intKind P w))))/\(xs.map (·.1)).Nodup
section
variable {X:Cx} {pins:List (Addr×Obj)} {σ:St} {H:Hp} {s:Shared} {a b:Addr} {k:List Int} {xs:List (List Int×Addr×Value)}
end
section
variable {X:Cx} {o i e value:Expr} {pos pos' tpos:Pos} {td ty tv:TE}
end
end L2
namespace L2
open PySem PySem.Spec PyProof.Rows PySem.SeqAt PySem.MeetsSeq
def mP (A:Around) (s:Shared) (y x:Value) (r:Bool):Prop:=∀ (prog:Program) (w:World) (E Q:Value->Shared->Prop),Q (.bool r) s->wpAny (model prog w) A (richCompare .Lt y x) Q E s
def c7 (e lt:Nat->Bool) (fin:Bool):List Nat->Bool
 | []=>fin
 | i :: r=>if e i then c7 e lt fin r else lt i
theorem OC (l m:Addr) (a b:Array Value) (n1 n2:Nat) (d1 d2:Option Addr) (s1 s2:Array (Option Value)) (e lt:Nat->Bool) :
  Meets (Builtin.«tuple.__lt__» ⟨[.ref l,.ref m],[]⟩) (fun A R s=>s.heap.get? l=some { cls:=.type "tuple",dict:=d1,data:=.seq a n1,slots:=s1 }/\s.heap.get? m=some { cls:=.type "tuple",dict:=d2,data:=.seq b n2,slots:=s2 } /\
    (∀ j (h1:j < a.size) (h2:j < b.size),EqAt A.in1 s a[j] b[j] (e j))/\(∀ j (h1:j < a.size) (h2:j < b.size),e j=false->mP A.in1 s a[j] b[j] (lt j))/\R (.ok (.ret (.bool (c7 e lt (decide (a.size < b.size)) (List.range (min a.size b.size)))))) s) :=
 .of_wp fun prog w A R s h=>by
  obtain ⟨hp,g,d,tk,os⟩:=s
  obtain ⟨hl,hm,he,hlt,h⟩:=h
  have f2:=AutoSeq1.sub_tuple_tuple
  have hZ:(a.toList.zip b.toList).length=min a.size b.size:=by simp
  wp_walk using wpAny_loadPart' hl,wpAny_loadPart' hm,wpAny_forIn_list _ (fun rest q s'=>q.1=none/\s'=⟨hp,g,d,tk,os⟩/\∃ i,rest=(a.toList.zip b.toList).drop i/\R (.ok (.ret (.bool (c7 e lt (decide (a.size < b.size)) ((List.range (min a.size b.size)).drop i))))) ⟨hp,g,d,tk,os⟩) _
  case turn =>
   rintro ⟨y,x⟩ rest q s' ⟨hq,rfl,i,hz,hR⟩
   have hil:i < (a.toList.zip b.toList).length:=by
    rcases V2 i (a.toList.zip b.toList).length with k | k
    ·exact k
    ·rw [Wn k] at hz;cases hz
   have hmn:i < min a.size b.size:=hZ ▸ hil
   have g1:i < a.size:=by omega
   have g2:i < b.size:=by omega
   rw [VX hil] at hz
   injection hz with hyx hrest
   have hy:y=a[i]:=by simpa using congrArg Prod.fst hyx
   have hx:x=b[i]:=by simpa using congrArg Prod.snd hyx
   subst hy hx
   have hd:(List.range (min a.size b.size)).drop i=i :: (List.range (min a.size b.size)).drop (i + 1):=by simp [VX,hmn]
   rw [hd,c7] at hR
   refine wpAny_bind (he i g1 g2 prog w _ _ ?_)
   cases hei:e i with
   | true =>
    rw [hei] at hR
    wp_walk
    exact ⟨rfl,rfl,i + 1,hrest,hR⟩
   | false =>
    rw [hei] at hR
    refine wpAny_bind (wpAny_rule (wpAny_bind (hlt i g1 g2 hei prog w _ _ ?_)))
    wp_walk
    exact ⟨_,rfl,hR⟩
  case fin =>
   rintro ⟨q1,q2⟩ s' ⟨hq,rfl,i,hz,hR⟩
   simp only at hq
   subst hq
   have hge:min a.size b.size<=i:=by
    rcases V2 i (a.toList.zip b.toList).length with k | k
    ·rw [VX k] at hz;cases hz
    ·exact hZ ▸ k
   rw [Wn (by simpa using hge),c7] at hR
   wp_walk
   exact ⟨_,rfl,by simpa [Builtin.Tuple.tupleCompareSizes] using hR⟩
  case h =>
   exact ⟨rfl,rfl,0,rfl,by simpa using h⟩
theorem mP.tuples {A:Around} {s:Shared} {l m:Addr} {a b:Array Value} {e lt:Nat->Bool} (hl:s.heap.IsTuple l a) (hm:s.heap.IsTuple m b) (hu:A.units < cLine)
  (he:∀ j (h1:j < a.size) (h2:j < b.size),EqAt A.in1 s a[j] b[j] (e j)) (hlt:∀ j (h1:j < a.size) (h2:j < b.size),e j=false->mP A.in1 s a[j] b[j] (lt j)) :
  mP A s (.ref l) (.ref m) (c7 e lt (decide (a.size < b.size)) (List.range (min a.size b.size))):=fun prog w E Q h=>by
 obtain ⟨⟨c1,d1,t1,s1⟩,o1,k1,n1,j1⟩:=hl
 obtain ⟨⟨c2,d2,t2,s2⟩,o2,k2,n2,j2⟩:=hm
 simp only at k1 j1 k2 j2
 subst k1 j1 k2 j2
 exact richCompare_meets_room (op:=.Lt) ⟨_,o1,rfl⟩ ⟨_,o2,rfl⟩ F.slot_tuple_lt F.entry_tuple_lt (F.args_tuple_lt_2 _ _) (OC l m a b n1 n2 d1 d2 s1 s2 e lt)
  ⟨o1,o2,he,hlt,show Value.bool (c7 e lt (decide (a.size < b.size)) (List.range (min a.size b.size)))≠Value.notImplemented/\Q (.bool (c7 e lt (decide (a.size < b.size)) (List.range (min a.size b.size)))) s from ⟨(fun x=>nomatch x),h⟩⟩ hu
mutual
def ko:PyData->PyData->Bool
 | .int a,.int b=>decide (a < b)
 | .tuple xs,.tuple ys=>cJ xs ys
 | _,_=>false
def cJ:List PyData->List PyData->Bool
 | [],[]=>false
 | [],_ :: _=>true
 | _ :: _,[]=>false
 | x :: xs,y :: ys=>if PyData.eqv x y then cJ xs ys else ko x y
end
mutual
def fH:PyData->PyData->Bool
 | .int _,.int _=>true
 | .tuple xs,.tuple ys=>c9 xs ys
 | _,_=>false
def c9:List PyData->List PyData->Bool
 | [],_=>true
 | _ :: _,[]=>true
 | x :: xs,y :: ys=>fH x y && c9 xs ys
end
theorem Kh (e lt:Nat->Bool) (fin:Bool) (f:Nat->Nat):∀ l:List Nat,c7 e lt fin (l.map f)=c7 (fun i=>e (f i)) (fun i=>lt (f i)) fin l
 | []=>rfl
 | i :: r=>by
  show (if e (f i) then c7 e lt fin (r.map f) else lt (f i))=if e (f i) then _ else lt (f i)
  rw [Kh e lt fin f r]
def oB (xs ys:List PyData) (j:Nat):Bool:=ko (xs.getD j .none) (ys.getD j .none)
theorem Ki:∀ xs ys:List PyData,c7 (pairEq xs ys) (oB xs ys) (decide (xs.length < ys.length)) (List.range (min xs.length ys.length))=cJ xs ys
 | [],[]=>rfl
 | [],_ :: _=>by simp [c7,cJ]
 | _ :: _,[]=>by simp [c7,cJ]
 | x :: xs,y :: ys=>by
  have ih:=Ki xs ys
  have e1:min (x :: xs).length (y :: ys).length=min xs.length ys.length + 1:=by simp only [U1];omega
  have e2:decide ((x :: xs).length < (y :: ys).length)=decide (xs.length < ys.length):=by simp
  rw [e1,e2,List.range_succ_eq_map,c7,Kh]
  show (if PyData.eqv x y then c7 (pairEq xs ys) (oB xs ys) (decide (xs.length < ys.length)) (List.range (min xs.length ys.length)) else ko x y)=_
  rw [ih,cJ]
mutual
theorem GS:∀ (da db:PyData) (A:Around) (s:Shared) (a b:Value) (as bs:List Addr),Reads s.heap a da as->Reads s.heap b db bs->fH da db=true->da.canLay0=true->db.canLay0=true->A.units + min da.depth db.depth < cLine->mP A s a b (ko da db)
 | .int x,.int y,A,s,_,_,_,_,ra,rb,_,_,_,_=>by
  cases ra with
  | int _ t =>
   cases rb with
   | int _ u=>exact fun prog w E Q h=>richCompare_gives (op:=.Lt) (typeIs_int s _ t) (typeIs_int s _ u) F.slot_int_lt F.entry_int_lt (F.args_int_lt_2 _ _) (gives_int_lt _ _ t u) (fun x=>nomatch x) h
 | .tuple xs,.tuple ys,A,s,_,_,_,_,ra,rb,ok,ha,hb,hu=>by
  cases ra with
  | @tuple l o vs n _ Kj h1 h2 h3 h4 =>
   cases rb with
   | @tuple l' o' vs' n' _ OD k1 k2 k3 k4 =>
    have t1:s.heap.IsTuple l vs:=⟨_,h1,h2,_,h3⟩
    have t2:s.heap.IsTuple l' vs':=⟨_,k1,k2,_,k3⟩
    have n1:vs.size=xs.length:=by simpa using ReadsAll.length _ _ _ h4
    have n2:vs'.size=ys.length:=by simpa using ReadsAll.length _ _ _ k4
    show mP A s (.ref l) (.ref l') (cJ xs ys)
    rw [<- Ki xs ys,<- n1,<- n2]
    refine mP.tuples t1 t2 (room_here hu) (fun j j1 j2=>?_) (fun j j1 j2 _=>?_)
    ·have z:=eqAt_readsAll xs ys A.in1 s vs.toList vs'.toList _ _ h4 k4 ha hb (room_in hu) j (by simpa using j1) (by simpa using j2)
     simpa using z
    ·have z:=Kk xs ys A.in1 s vs.toList vs'.toList _ _ h4 k4 ok ha hb (room_in hu) j (by simpa using j1) (by simpa using j2)
     simpa using z
 | .int _,.none,_,_,_,_,_,_,_,_,ok,_,_,_=>nomatch ok
 | .int _,.bool _,_,_,_,_,_,_,_,_,ok,_,_,_=>nomatch ok
 | .int _,.str _,_,_,_,_,_,_,_,_,ok,_,_,_=>nomatch ok
 | .int _,.list _,_,_,_,_,_,_,_,_,ok,_,_,_=>nomatch ok
 | .int _,.tuple _,_,_,_,_,_,_,_,_,ok,_,_,_=>nomatch ok
 | .int _,.dict _,_,_,_,_,_,_,_,_,ok,_,_,_=>nomatch ok
 | .tuple _,.none,_,_,_,_,_,_,_,_,ok,_,_,_=>nomatch ok
 | .tuple _,.bool _,_,_,_,_,_,_,_,_,ok,_,_,_=>nomatch ok
 | .tuple _,.int _,_,_,_,_,_,_,_,_,ok,_,_,_=>nomatch ok
 | .tuple _,.str _,_,_,_,_,_,_,_,_,ok,_,_,_=>nomatch ok
 | .tuple _,.list _,_,_,_,_,_,_,_,_,ok,_,_,_=>nomatch ok
 | .tuple _,.dict _,_,_,_,_,_,_,_,_,ok,_,_,_=>nomatch ok
 | .none,_,_,_,_,_,_,_,_,_,ok,_,_,_=>by simp [fH] at ok
 | .bool _,_,_,_,_,_,_,_,_,_,ok,_,_,_=>by simp [fH] at ok
 | .str _,_,_,_,_,_,_,_,_,_,ok,_,_,_=>by simp [fH] at ok
 | .list _,_,_,_,_,_,_,_,_,_,ok,_,_,_=>by simp [fH] at ok
 | .dict _,_,_,_,_,_,_,_,_,_,ok,_,_,_=>by simp [fH] at ok
theorem Kk:∀ (xs ys:List PyData) (A:Around) (s:Shared) (vs ws:List Value) (as bs:List Addr),ReadsAll s.heap vs xs as->ReadsAll s.heap ws ys bs->c9 xs ys=true->PyData.canLayAll0 xs=true->PyData.canLayAll0 ys=true->A.units + min (PyData.depthAll xs) (PyData.depthAll ys) < cLine->∀ j (h1:j < vs.length) (h2:j < ws.length),mP A s vs[j] ws[j] (oB xs ys j)
 | [],_,_,_,_,_,_,_,ra,_,_,_,_,_,j,h1,_=>by cases ra;exact absurd h1 (U9 _)
 | _ :: _,[],_,_,_,_,_,_,_,rb,_,_,_,_,j,_,h2=>by cases rb;exact absurd h2 (U9 _)
 | x :: xs,y :: ys,A,s,_,_,_,_,ra,rb,ok,ha,hb,hu,j,h1,h2=>by
  have a':x.canLay0=true/\PyData.canLayAll0 xs=true:=by simpa [PyData.canLayAll0] using ha
  have b':y.canLay0=true/\PyData.canLayAll0 ys=true:=by simpa [PyData.canLayAll0] using hb
  have o':fH x y=true/\c9 xs ys=true:=by simpa [c9] using ok
  cases ra with
  | cons r rs =>
   cases rb with
   | cons r' rs' =>
    cases j with
    | zero=>exact GS x y A s _ _ _ _ r r' o'.1 a'.1 b'.1 (room_head hu)
    | succ j=>exact Kk xs ys A s _ _ _ _ rs rs' o'.2 a'.2 b'.2 (room_tail hu) j (Nat.lt_of_succ_lt_succ h1) (Nat.lt_of_succ_lt_succ h2)
end
section
variable {prog:Program} {w:World} {A:Around} {R:Result->Shared->Prop} {I:Addr} {fp wr:List Addr} {n:Nat} {P:Nat->Value->Prop} {St:Nat->Heap->Prop}
def gJ (a b:Heap):Prop:=∀ x o,a.get? x=some o->b.get? x=some o
def vR (A:Around) (h0:Heap) (P:Nat->Value->Prop) (bt:Nat->Nat->Bool):Prop:=∀ i j vi vj (s:Shared),gJ h0 s.heap->P i vi->P j vj->mP A s vi vj (bt i j)
theorem DO:(toString "min" ++ toString ".loop" : String)="min.loop" := by decide
theorem GU (W:Walks prog w A.in1 I fp wr n P St) (bt:Nat->Nat->Bool) {h0:Heap} (hcmp:vR A.in1 h0 P bt) (S:Addr) (hSf:S ∉ fp) (vS:h0.get? S=none) (hw0:∀ b∈wr,h0.get? b=none) :
  ∀ (k j:Nat) (s:Shared) (vb:Value) (c:Nat),n - (j + 1)=k->j + 1<=n->St (j + 1) s.heap->P (argBest bt j) vb->gJ h0 s.heap->s.heap.get? S=some { cls:=.type "list",dict:=none,data:=.seq #[vb,vb] c,slots:=#[] } ->
  (∀ v h' tk,P (argBest bt (n - 1)) v->gJ h0 h'->R (.ok (.ret v)) { s with heap:=h',toks:=tk })->codeAny (model prog w) A (.builtin "min.loop" ⟨[.ref I,.none,.ref S],[]⟩) R s
 | 0,j,s,vb,c,hk,hj,hst,DP,hK,hS,hR=>by
  have AG:S ∉ wr:=fun z=>hSf (W.sub S z)
  have hin:n=j + 1:=by omega
  subst hin
  refine codeAny_builtin F.entry_min_loop ?_
  rw [Around.under_plainId F.plain_min_loop (A:=A) _]
  show wpAny (model prog w) A.in1 (seqItems? (.ref S) >>= _) _ _ _
  refine wpAny_bind (wpAny_seqItems hS rfl ?_)
  show wpAny (model prog w) A.in1 (tryCatch (pyNext (.ref I)) _ >>= _) _ _ _
  refine wpAny_bind (wpAny_tryCatch (W.done s _ _ hst fun h' tk hk'=>?_))
  have hS':=hk' S _ AG hS
  show wpAny (model prog w) A.in1 (updateSeq S (fun _=>#[]) >>= _) _ _ _
  refine wpAny_bind (wpAny_updateSeq hS' rfl (wpAny_bind (wpAny_letGo (wpAny_pure (hR vb _ tk DP fun b o e=>?_)))))
  have hb1:b ∉ wr:=fun z=>by rw [hw0 b z] at e;cases e
  have hb2:S≠b:=fun z=>by rw [<- z,vS] at e;cases e
  exact (Vc _ _ hb2).trans (hk' b o hb1 (hK b o e))
 | k + 1,j,s,vb,c,hk,hj,hst,DP,hK,hS,hR=>by
  have AG:S ∉ wr:=fun z=>hSf (W.sub S z)
  have hlt:j + 1 < n:=by omega
  refine codeAny_builtin F.entry_min_loop ?_
  rw [Around.under_plainId F.plain_min_loop (A:=A) _]
  show wpAny (model prog w) A.in1 (seqItems? (.ref S) >>= _) _ _ _
  refine wpAny_bind (wpAny_seqItems hS rfl ?_)
  show wpAny (model prog w) A.in1 (tryCatch (pyNext (.ref I)) _ >>= _) _ _ _
  refine wpAny_bind (wpAny_tryCatch (W.item (j + 1) s _ _ hlt hst fun v h' tk hP su hk'=>?_))
  have hS':=hk' S _ AG hS
  have AH:gJ h0 h':=fun b o e=>hk' b o (fun z=>by rw [hw0 b z] at e;cases e) (hK b o e)
  show wpAny (model prog w) A.in1 (tryCatch (holding [v,v] (richCompare .Lt v vb >>= _)) _ >>= _) _ _ _
  refine wpAny_bind (wpAny_tryCatch (wpAny_holding (wpAny_bind (hcmp (j + 1) (argBest bt j) v vb _ AH hP DP prog w _ _ ?_))))
  refine wpAny_bind (wpAny_holding (wpAny_truthy_bool (wpAny_bind (wpAny_letGo (wpAny_pure ?_)))))
  cases hb:bt (j + 1) (argBest bt j) with
  | true =>
   simp only [if_true]
   refine wpAny_bind (wpAny_updateSeq hS' rfl (wpAny_bind (wpAny_letGo ?_)))
   rw [DO]
   have GV:gJ h0 (h'.update S (Obj.mapSeq fun _=>#[v,v])):=fun b o e=>(Vc _ _ (fun z=>by rw [<- z,vS] at e;cases e)).trans (AH b o e)
   refine wpAny_pure ⟨plainId_quiet F.plain_min_loop _,GU W bt hcmp S hSf vS hw0 k (j + 1) _ v _ (by omega) hlt (W.frame _ _ _ su fun b GW o e=>?_) (by simp only [argBest,hb,if_true];exact hP) GV (VC _ hS' rfl) fun v' h'' qB AI qC=>hR v' h'' qB AI qC⟩
   exact (Vc _ _ (fun z:S=b=>hSf (z ▸ GW))).trans e
  | false =>
   simp only [UY,if_false]
   refine wpAny_bind (wpAny_letGo ?_)
   rw [DO]
   exact wpAny_pure ⟨plainId_quiet F.plain_min_loop _,GU W bt hcmp S hSf vS hw0 k (j + 1) _ vb c (by omega) hlt su (by simp only [argBest,hb,UY,if_false];exact DP) AH hS' fun v' h'' qB AI qC=>hR v' h'' qB AI qC⟩
theorem OE (W:Walks prog w A.in1 I fp wr n P St) (bt:Nat->Nat->Bool) {h0:Heap} (hcmp:vR A.in1 h0 P bt) (S:Addr) (hSf:S ∉ fp) (vS:h0.get? S=none) (hw0:∀ b∈wr,h0.get? b=none) (hn:0 < n) {s:Shared} {c:Nat} (hst:St 0 s.heap) (hK:gJ h0 s.heap)
  (hS:s.heap.get? S=some { cls:=.type "list",dict:=none,data:=.seq #[] c,slots:=#[] }) (hR:∀ v h' tk,P (argBest bt (n - 1)) v->gJ h0 h'->R (.ok (.ret v)) { s with heap:=h',toks:=tk }) :
  codeAny (model prog w) A (.builtin "min.loop" ⟨[.ref I,.none,.ref S],[]⟩) R s:=by
 have AG:S ∉ wr:=fun z=>hSf (W.sub S z)
 refine codeAny_builtin F.entry_min_loop ?_
 rw [Around.under_plainId F.plain_min_loop (A:=A) _]
 show wpAny (model prog w) A.in1 (seqItems? (.ref S) >>= _) _ _ _
 refine wpAny_bind (wpAny_seqItems hS rfl ?_)
 show wpAny (model prog w) A.in1 (tryCatch (pyNext (.ref I)) _ >>= _) _ _ _
 refine wpAny_bind (wpAny_tryCatch (W.item 0 s _ _ hn hst fun v h' tk hP su hk'=>?_))
 have hS':=hk' S _ AG hS
 have AH:gJ h0 h':=fun b o e=>hk' b o (fun z=>by rw [hw0 b z] at e;cases e) (hK b o e)
 show wpAny (model prog w) A.in1 (updateSeq S (fun _=>#[v,v]) >>= _) _ _ _
 refine wpAny_bind (wpAny_updateSeq hS' rfl ?_)
 rw [DO]
 have GV:gJ h0 (h'.update S (Obj.mapSeq fun _=>#[v,v])):=fun b o e=>(Vc _ _ (fun z=>by rw [<- z,vS] at e;cases e)).trans (AH b o e)
 refine wpAny_pure ⟨plainId_quiet F.plain_min_loop _,GU W bt hcmp S hSf vS hw0 _ 0 _ v _ rfl hn (W.frame _ _ _ su fun b GW o e=>?_) hP GV (VC _ hS' rfl) fun v' h'' qB AI qC=>hR v' h'' qB AI qC⟩
 exact (Vc _ _ (fun z:S=b=>hSf (z ▸ GW))).trans e
end
section
variable {prog:Program} {w:World} {A:Around} {E:Value->Shared->Prop} {s:Shared}
theorem OG {p:Addr} {its:Array Value} {bt:Nat->Nat->Bool} {Q:Value->Shared->Prop} (hh:A.handled=none) (hl:s.heap.IsList p its) (hn:0 < its.size) (hcmp:vR A.in1 s.heap (fun i v=>its[i]?=some v) bt)
  (hQ:∀ v h' tk,its[argBest bt (its.size - 1)]?=some v->gJ s.heap h'->Q v { s with heap:=h',toks:=tk }):wpAny (model prog w) A (call (.builtin "min") [.ref p]) Q E s:=by
 have hlt:p < s.heap.objs.size:=by obtain ⟨_,e,_⟩:=hl;exact UN e
 have e0:s.heap.get? s.heap.objs.size=none:=by
  cases q:s.heap.get? s.heap.objs.size with
  | none=>rfl
  | some o=>exact absurd (UN q) (V5 _)
 have e1:s.heap.get? (s.heap.objs.size + 1)=none:=by
  cases q:s.heap.get? (s.heap.objs.size + 1) with
  | none=>rfl
  | some o=>exact absurd (UN q) (WN (V7 _))
 refine call_function_tree F.kind_min F.plain_min F.entry_min (F.args_min1 _) ?_
 show wpAny (model prog w) A.in1 (Builtin.Builtins.bindParams "min" ["key","default"] 0 ⟨[],[]⟩ >>= _) _ _ _
 refine wpAny_bind (wpAny_of_eq (show Builtin.Builtins.bindParams "min" ["key","default"] 0 ⟨[],[]⟩=pure [none,none] from rfl) (wpAny_bind (wpAny_pure ?_)))
 refine wpAny_bind (wpAny_pyIter_list hl (wpAny_bind (wpAny_newObj_type ?_)))
 have hsz:(s.heap.push { cls:=.type "list_iterator",data:=.fields #[.ref p,.int 0 0] }).objs.size=s.heap.objs.size + 1:=VZ ..
 have hne:p≠s.heap.objs.size:=Va hlt
 rw [DO]
 have k1:gJ s.heap ((s.heap.push { cls:=.type "list_iterator",data:=.fields #[.ref p,.int 0 0] }).push { cls:=.type "list",data:=.seq #[] }):=fun b o e=>UC _ (UC _ e)
 refine wpAny_pure ⟨plainId_quiet F.plain_min_loop _,?_⟩
 show codeAny (model prog w) A (.builtin "min.loop" ⟨[.ref s.heap.objs.size,.none,.ref (s.heap.push { cls:=.type "list_iterator",data:=.fields #[.ref p,.int 0 0] }).objs.size],[]⟩) _ _
 rw [hsz]
 refine OE (c:=0) (Walks.list (A:=A.in1) hh s.heap.objs.size p hne its) bt hcmp (s.heap.objs.size + 1) (fun z=>?_) e1 (fun b hb=>?_) hn ?_ k1 ?_ fun v h' tk hv hk=>hQ v h' tk hv hk
 ·rcases UU.mp z with z | z
  ·exact absurd z (Nat.succ_ne_self _)
  ·have:s.heap.objs.size + 1=p:=UP.mp z
   exact absurd hlt (by rw [<- this];exact WN (V7 _))
 ·rw [UP.mp hb];exact e0
 ·exact ⟨⟨_,UC _ (UQ _ rfl),rfl,rfl⟩,(hl.push _).push _⟩
 ·rw [<- hsz];exact UQ _ rfl
end
theorem AJ {h:Heap}:∀ {us:List Value} {ds:List PyData} {as:List Addr} {i:Nat} {v:Value},ReadsAll h us ds as->us[i]?=some v->∃ as',Reads h v (ds.getD i .none) as'/\ds.getD i .none∈ds
 | _,_,_,_,_,.nil,e=>by simp at e
 | _,_,_,0,_,.cons r _,e=>by simp at e;subst e;exact ⟨_,r,Uy⟩
 | _,_,_,i + 1,v,.cons _ rs,e=>by
  obtain ⟨as',r,m⟩:=AJ (i:=i) (v:=v) rs (by simpa using e)
  exact ⟨as',r,Uz _ m⟩
section
variable {X:Cx}
def mz (ds:List PyData) (i j:Nat):Bool:=ko (ds.getD i .none) (ds.getD j .none)
def mB (ds:List PyData):Nat:=argBest (mz ds) (ds.length - 1)
def ub (K:Zfr):List V->Hp->VK->Prop:=fun xs H Q=>∃ (p:Addr) (vs:List V) (ds:List PyData),xs=[.ref p]/\iN K H p vs/\eK K H vs ds/\0 < ds.length/\(∀ a∈ds,∀ b∈ds,fH a b=true)/\(∀ a∈ds,a.canLay0=true/\a.depth<=50)/\∃ v,vs[mB ds]?=some v/\Q v H
theorem OH (hc:X.calm=true) (hu:X.A.units + 64 < cLine):iJ X (.builtin "min") (ub X.K):=by
 intro pins s σ H xs us Q I r h
 obtain ⟨p,vs,ds,rfl,hq,hr,hn,hok,hlay,v0,hv0,q⟩:=h
 obtain ⟨u,rfl,ru⟩:=vals1 r
 cases ru
 obtain ⟨its,rv,pl,_⟩:=I.list hq
 obtain ⟨as,ra⟩:=eK.reads I hr rv
 have hlen:its.length=ds.length:=ReadsAll.length _ _ _ ra
 refine OG (bt:=mz ds) (I.ok.hd hc) pl.isList (by rw [UI];omega) (fun i j vi vj s' hK hi hj=>?_) fun v h' tk hv hk=>?_
 ·have hi':its[i]?=some vi:=by simpa using hi
  have hj':its[j]?=some vj:=by simpa using hj
  obtain ⟨a1,r1,m1⟩:=AJ ra hi'
  obtain ⟨a2,r2,m2⟩:=AJ ra hj'
  have b1:=(hlay _ m1).2
  have b2:=(hlay _ m2).2
  exact GS _ _ _ s' _ _ _ _ (Reads.keeps hK r1) (Reads.keeps hK r2) (hok _ m1 _ m2) (hlay _ m1).1 (hlay _ m2).1 (by show X.A.units + 1 + _ < cLine;omega)
 ·have hv':its[mB ds]?=some v:=by
   have e:its.toArray.size - 1=ds.length - 1:=by rw [UI,hlen]
   rw [e] at hv
   unfold mB
   simpa using hv
  obtain ⟨u,Kl,ru⟩:=Vals.get rv hv0
  rw [hv'] at Kl
  cases Kl
  exact ⟨v0,H,I.kept hk,ru,q⟩
end
end L2
namespace L2
open PySem PySem.Spec PyProof.Rows PySem.W
section
variable {lt:Nat->Nat->Bool} {n0:Nat} {cmp:Nat->Nat->(Bool->Shared->Prop)->Shared->Prop} {s:Shared}
structure Ord (lt:Nat->Nat->Bool):Prop where
 tr:∀ a b c,lt b a=false->lt c b=false->lt c a=false
 as:∀ a b,lt a b=true->lt b a=false
theorem Ord.rf (o:Ord lt) (a:Nat):lt a a=false:=by
 cases h:lt a a with
 | false=>rfl
 | true=>have:=o.as a a h;rw [h] at this;cases this
def P (p:Array Nat) (i:Nat):Nat:=p.getD i 0
def pL (lt:Nat->Nat->Bool) (p:Array Nat) (k:Nat):Prop:=∀ i j,i<=j->j < k->lt (P p j) (P p i)=false
def uc (lt:Nat->Nat->Bool) (p:Array Nat) (k:Nat):Prop:=∀ i j,i<=j->j < k->lt (P p i) (P p j)=false
structure Arr (n0:Nat) (p:Array Nat):Prop where
 sz:p.size=n0
 pm:p.toList.Perm (List.range n0)
theorem Arr.bd {p:Array Nat} (h:Arr n0 p) (hn:0 < n0) (i:Nat):P p i < n0:=by
 unfold P
 rw [Vk]
 cases e:p[i]? with
 | none=>exact hn
 | some x =>
  have:x∈p.toList:=by
   rw [<- Vq] at e
   exact UJ e
  exact Vj.mp (h.pm.subset this)
theorem ud {p:Array Nat} {i j:Nat} (hj:j<=p.size) (k:Nat):P (kas_rev p i j) k=if i<=k/\k < j then P p (i + j - 1 - k) else P p k:=by
 unfold P kas_rev
 rw [Vk,getElem?_mirror_all hj]
 split <;> rw [Vk]
theorem Arr.rev {p:Array Nat} (h:Arr n0 p) (i j:Nat):Arr n0 (kas_rev p i j):=⟨(mirror_size _ _ _ _).trans h.sz,(Array.perm_iff_toList_perm.mp (mirror_perm p i j _)).trans h.pm⟩
theorem Km {p:Array Nat} {k d:Nat} (hk:k < p.size) (hd:d<=k) (m:Nat):P (bubble p k d) m=if m=k - d then P p k else if k - d < m/\m<=k then P p (m - 1) else P p m:=by
 unfold P
 simp only [Vk]
 rw [getElem?_bubble hk d hd]
 split
 ·rfl
 ·split <;> rfl
theorem Arr.OI {p:Array Nat} (h:Arr n0 p) (k d:Nat):Arr n0 (bubble p k d):=⟨(bubble_size _ _ _).trans h.sz,(Array.perm_iff_toList_perm.mp (bubble_perm p k d)).trans h.pm⟩
variable (o:Ord lt) (hn:0 < n0) (hc:∀ i j (C:Bool->Shared->Prop),i < n0->j < n0->C (lt i j) s->cmp i j C s)
include o hn hc
theorem GX {p:Array Nat} (ha:Arr n0 p) {Q:Nat->Shared->Prop}:∀ (f n:Nat),pL lt p n->1<=n->(∀ m,n<=m->m<=n + f->pL lt p m->(m < n + f->lt (P p m) (P p (m - 1))=true)->Q m s)->(kas_asc p f n).kasWp cmp Q s
 | 0,n,hs,h1,q=>q n (Ux _) (Ux _) hs fun h=>absurd h (V5 _)
 | f + 1,n,hs,h1,q=>by
  refine hc _ _ _ (ha.bd hn n) (ha.bd hn (n - 1)) ?_
  show (if lt (P p n) (P p (n - 1))=true then KasT.ret n else kas_asc p f (n + 1)).kasWp cmp Q s
  cases hb:lt (P p n) (P p (n - 1)) with
  | true=>exact q n (Ux _) (by omega) hs fun _=>hb
  | false =>
   refine GX ha f (n + 1) (fun i j hij hj=>?_) (by omega) fun m m1 m2 m3 m4=>q m (by omega) (by omega) m3 fun h=>m4 (by omega)
   by_cases hjn:j < n
   ·exact hs i j hij hjn
   ·have:j=n:=by omega
    subst this
    by_cases hin:i=j
    ·subst hin;exact o.rf _
    ·exact o.tr _ (P p (j - 1)) _ (hs i (j - 1) (by omega) (by omega)) hb
theorem DQ {Q:Array Nat×Nat×Nat->Shared->Prop}:∀ (f:Nat) (p:Array Nat) (n q:Nat),Arr n0 p->uc lt p n->q + 1<=n->n + f<=n0->(∀ i j,n - (q + 1)<=i->i < n->n - (q + 1)<=j->j < n->lt (P p i) (P p j)=false) ->
  (∀ p' n' q',Arr n0 p'->uc lt p' n'->q' + 1<=n'->n<=n'->n'<=n + f->(∀ i j,n' - (q' + 1)<=i->i < n'->n' - (q' + 1)<=j->j < n'->lt (P p' i) (P p' j)=false)->Q (p',n',q') s)->(kas_desc f p n q).kasWp cmp Q s
 | 0,p,n,q,ha,hd,h1,hf,he,hQ=>hQ p n q ha hd h1 (Ux _) (Ux _) he
 | f + 1,p,n,q,ha,hd,h1,hf,he,hQ=>by
  refine hc _ _ _ (ha.bd hn n) (ha.bd hn (n - 1)) ?_
  show (if lt (P p n) (P p (n - 1))=true then (if q > 0 then kas_desc f (kas_rev p (n - (q + 1)) n) (n + 1) 0 else kas_desc f p (n + 1) 0) else .ask (P p (n - 1)) (P p n) fun d=>if d=true then .ret (p,n,q) else kas_desc f p (n + 1) (q + 1)).kasWp cmp Q s
  cases hb:lt (P p n) (P p (n - 1)) with
  | true =>
   rw [if_pos rfl]
   have hx:=o.as _ _ hb
   have AK:∀ p':Array Nat,uc lt p' n->P p' n=P p n->lt (P p' (n - 1)) (P p n)=false->uc lt p' (n + 1):=fun p' h e1 e2 i j hij hj=>by
    by_cases hjn:j < n
    ·exact h i j hij hjn
    ·have:j=n:=by omega
     subst this
     by_cases hin:i=j
     ·subst hin;exact o.rf _
     ·rw [e1]
      exact o.tr _ (P p' (j - 1)) _ e2 (h i (j - 1) (by omega) (by omega))
   have one:∀ p':Array Nat,∀ i j,n + 1 - (0 + 1)<=i->i < n + 1->n + 1 - (0 + 1)<=j->j < n + 1->lt (P p' i) (P p' j)=false:=fun p' i j a b c d=>by
    have e1:i=n:=by omega
    have e2:j=n:=by omega
    subst e1;subst e2;exact o.rf _
   by_cases hq:q > 0
   ·rw [if_pos hq]
    have hns:n<=p.size:=by rw [ha.sz];omega
    have er:=fun k=>ud (p:=p) (i:=n - (q + 1)) hns k
    refine DQ f _ (n + 1) 0 (ha.rev _ _) (AK _ (fun i j hij hj=>?_) ?_ ?_) (by omega) (by omega) (one _) fun p' n' q' a b c d e g=>hQ p' n' q' a b c (by omega) (by omega) g
    ·rw [er i,er j]
     by_cases hi:n - (q + 1)<=i
     ·rw [if_pos ⟨hi,by omega⟩,if_pos ⟨by omega,hj⟩]
      exact he _ _ (by omega) (by omega) (by omega) (by omega)
     ·rw [if_neg (by omega)]
      by_cases hj':n - (q + 1)<=j
      ·rw [if_pos ⟨hj',hj⟩];exact hd _ _ (by omega) (by omega)
      ·rw [if_neg (by omega)];exact hd i j hij hj
    ·rw [er n,if_neg (by omega)]
    ·rw [er (n - 1),if_pos ⟨by omega,by omega⟩]
     exact o.tr _ (P p (n - 1)) _ hx (he _ _ (by omega) (by omega) (by omega) (by omega))
   ·rw [if_neg hq]
    exact DQ f p (n + 1) 0 ha (AK p hd rfl hx) (by omega) (by omega) (one _) fun p' n' q' a b c d e g=>hQ p' n' q' a b c (by omega) (by omega) g
  | false =>
   rw [if_neg (by decide)]
   refine hc _ _ _ (ha.bd hn (n - 1)) (ha.bd hn n) ?_
   cases hb2:lt (P p (n - 1)) (P p n) with
   | true=>exact hQ p n q ha hd h1 (Ux _) (by omega) he
   | false =>
    refine DQ f p (n + 1) (q + 1) ha (fun i j hij hj=>?_) (by omega) (by omega) (fun i j a b c d=>?_) fun p' n' q' a b c d e g=>hQ p' n' q' a b c (by omega) (by omega) g
    ·by_cases hjn:j < n
     ·exact hd i j hij hjn
     ·have:j=n:=by omega
      subst this
      by_cases hin:i=j
      ·subst hin;exact o.rf _
      ·exact o.tr _ (P p (j - 1)) _ hb2 (hd i (j - 1) (by omega) (by omega))
    ·by_cases hi:i=n
     ·subst hi
      by_cases hj:j=i
      ·subst hj;exact o.rf _
      ·exact o.tr _ (P p (i - 1)) _ (he (i - 1) j (by omega) (by omega) (by omega) (by omega)) hb
     ·by_cases hj:j=n
      ·subst hj
       exact o.tr _ (P p (j - 1)) _ hb2 (he i (j - 1) (by omega) (by omega) (by omega) (by omega))
      ·exact he i j (by omega) (by omega) (by omega) (by omega)
theorem Kn {p:Array Nat} {n nrem:Nat} {Q:Nat×Array Nat->Shared->Prop} (ha:Arr n0 p) (hd:uc lt p n) (h1:1<=n) (hr:n<=nrem) (hz:nrem<=n0) (hQ:∀ m p',Arr n0 p'->pL lt p' m->n<=m->m<=nrem->Q (m,p') s):(kas_tail3 n nrem p).kasWp cmp Q s:=by
 unfold kas_tail3
 rw [KasT.kasWp_bind]
 have hns:n<=p.size:=by rw [ha.sz];omega
 refine GX o hn hc (ha.rev 0 n) (nrem - n) n (fun i j hij hj=>?_) h1 fun m m1 m2 m3 _=>hQ m _ (ha.rev 0 n) m3 m1 (by omega)
 rw [ud hns,ud hns,if_pos ⟨by omega,hj⟩,if_pos ⟨by omega,by omega⟩]
 exact hd _ _ (by omega) (by omega)
theorem Ko {p:Array Nat} {n nrem:Nat} {Q:Nat×Array Nat->Shared->Prop} (ha:Arr n0 p) (hd:uc lt p (n + 1)) (hr:n + 1<=nrem) (hz:nrem<=n0) (hQ:∀ m p',Arr n0 p'->pL lt p' m->1<=m->m<=nrem->Q (m,p') s):(kas_descPart n nrem p).kasWp cmp Q s:=by
 unfold kas_descPart
 rw [KasT.kasWp_bind]
 refine DQ o hn hc (nrem - (n + 1)) p (n + 1) 0 ha hd (by omega) (by omega) (fun i j a b c d=>?_) fun p' n' q' a b c d e g=>?_
 ·have e1:i=n:=by omega
  have e2:j=n:=by omega
  subst e1;subst e2;exact o.rf _
 ·show (if q' > 0 then kas_tail3 n' nrem (kas_rev p' (n' - (q' + 1)) n') else kas_tail3 n' nrem p').kasWp cmp Q s
  by_cases hq:q' > 0
  ·rw [if_pos hq]
   have hns:n'<=p'.size:=by rw [a.sz];omega
   have er:=fun k=>ud (p:=p') (i:=n' - (q' + 1)) hns k
   refine Kn o hn hc (a.rev _ _) (fun i j hij hj=>?_) (by omega) (by omega) hz fun m p2 x y z w=>hQ m p2 x y (by omega) w
   rw [er i,er j]
   by_cases hi:n' - (q' + 1)<=i
   ·rw [if_pos ⟨hi,by omega⟩,if_pos ⟨by omega,hj⟩]
    exact g _ _ (by omega) (by omega) (by omega) (by omega)
   ·rw [if_neg (by omega)]
    by_cases hj':n' - (q' + 1)<=j
    ·rw [if_pos ⟨hj',hj⟩];exact b _ _ (by omega) (by omega)
    ·rw [if_neg (by omega)];exact b i j hij hj
  ·rw [if_neg hq]
   exact Kn o hn hc a b (by omega) (by omega) hz fun m p2 x y z w=>hQ m p2 x y (by omega) w
theorem OJ {p:Array Nat} {Q:Nat×Array Nat->Shared->Prop} (ha:Arr n0 p) (hQ:∀ m p',Arr n0 p'->pL lt p' m->1<=m->m<=n0->Q (m,p') s):(kas_count n0 p).kasWp cmp Q s:=by
 unfold kas_count
 rw [KasT.kasWp_bind]
 refine GX o hn hc ha (n0 - 1) 1 (fun i j hij hj=>?_) (Ux _) fun n m1 m2 hs hl=>?_
 ·have e1:i=0:=by omega
  have e2:j=0:=by omega
  subst e1;subst e2;exact o.rf _
 ·by_cases he:n=n0
  ·subst he
   simp only [beq_self_eq_true,if_true]
   exact hQ n p ha hs m1 (Ux _)
  ·have hne:(n == n0)=false:=by simpa using he
   simp only [hne,UY,if_false]
   have hlt:=hl (by omega)
   have hx:=o.as _ _ hlt
   have grow:∀ p':Array Nat,uc lt p' n->P p' n=P p n->lt (P p' (n - 1)) (P p n)=false->uc lt p' (n + 1):=fun p' h e1 e2 i j hij hj=>by
    by_cases hjn:j < n
    ·exact h i j hij hjn
    ·have:j=n:=by omega
     subst this
     by_cases hin:i=j
     ·subst hin;exact o.rf _
     ·rw [e1]
      exact o.tr _ (P p' (j - 1)) _ e2 (h i (j - 1) (by omega) (by omega))
   by_cases h1:n > 1
   ·rw [if_pos h1]
    refine hc _ _ _ (ha.bd hn 0) (ha.bd hn (n - 1)) ?_
    cases hb:lt (P p 0) (P p (n - 1)) with
    | true =>
     show (if lt (P p 0) (P p (n - 1))=true then KasT.ret (n,p) else kas_descPart n n0 (kas_rev p 0 n)).kasWp cmp Q s
     rw [hb,if_pos rfl]
     exact hQ n p ha hs m1 (by omega)
    | false =>
     have all:∀ i j,i < n->j < n->lt (P p i) (P p j)=false:=fun i j hi hj=>o.tr (P p j) (P p (n - 1)) (P p i) (hs j (n - 1) (by omega) (by omega)) (o.tr (P p (n - 1)) (P p 0) (P p i) hb (hs 0 i (by omega) hi))
     have hns:n<=p.size:=by rw [ha.sz];omega
     show (if lt (P p 0) (P p (n - 1))=true then KasT.ret (n,p) else kas_descPart n n0 (kas_rev p 0 n)).kasWp cmp Q s
     rw [hb,if_neg (by decide)]
     refine Ko o hn hc (ha.rev 0 n) (grow _ (fun i j hij hj=>?_) ?_ ?_) (by omega) (Ux _) fun m p' a b c d=>hQ m p' a b c d
     ·rw [ud hns,ud hns,if_pos ⟨by omega,by omega⟩,if_pos ⟨by omega,hj⟩]
      exact all _ _ (by omega) (by omega)
     ·rw [ud hns,if_neg (by omega)]
     ·rw [ud hns,if_pos ⟨by omega,by omega⟩,show 0 + n - 1 - (n - 1)=0 by omega]
      exact o.tr (P p n) (P p (n - 1)) (P p 0) hx hb
   ·rw [if_neg h1]
    have:n=1:=by omega
    subst this
    refine Ko o hn hc ha (grow p (fun i j hij hj=>?_) rfl hx) (by omega) (Ux _) fun m p' a b c d=>hQ m p' a b c d
    have e1:i=0:=by omega
    have e2:j=0:=by omega
    subst e1;subst e2;exact o.rf _
theorem GY {p:Array Nat} {k:Nat} {Q:Nat->Shared->Prop} (ha:Arr n0 p) (hs:pL lt p k):∀ (f l r:Nat),r<=l + f->l<=r->r<=k->(∀ i,i < l->lt (P p k) (P p i)=false)->(∀ i,r<=i->i < k->lt (P p k) (P p i)=true) ->
  (∀ m,m<=k->(∀ i,i < m->lt (P p k) (P p i)=false)->(∀ i,m<=i->i < k->lt (P p k) (P p i)=true)->Q m s)->(kas_place p k f l r).kasWp cmp Q s
 | 0,l,r,hf,hlr,hrk,h1,h2,q=>by
  have:l=r:=by omega
  subst this
  exact q l hrk h1 h2
 | f + 1,l,r,hf,hlr,hrk,h1,h2,q=>by
  unfold kas_place
  by_cases hge:l >= r
  ·rw [if_pos hge]
   have:l=r:=by omega
   subst this
   exact q l hrk h1 h2
  ·rw [if_neg hge]
   refine hc _ _ _ (ha.bd hn k) (ha.bd hn ((l + r) / 2)) ?_
   show (if lt (P p k) (P p ((l + r) / 2))=true then kas_place p k f l ((l + r) / 2) else kas_place p k f ((l + r) / 2 + 1) r).kasWp cmp Q s
   cases hb:lt (P p k) (P p ((l + r) / 2)) with
   | true =>
    rw [if_pos rfl]
    refine GY ha hs f l ((l + r) / 2) (by omega) (by omega) (by omega) h1 (fun i i1 i2=>?_) q
    cases hx:lt (P p k) (P p i) with
    | true=>rfl
    | false =>
     have:=o.tr (P p ((l + r) / 2)) (P p i) (P p k) (hs _ _ i1 i2) hx
     rw [hb] at this;cases this
   | false =>
    rw [if_neg (by decide)]
    refine GY ha hs f ((l + r) / 2 + 1) r (by omega) (by omega) hrk (fun i i1=>?_) h2 q
    exact o.tr (P p i) (P p ((l + r) / 2)) (P p k) (hs _ _ (by omega) (by omega)) hb
theorem Kq {Q:Array Nat->Shared->Prop}:∀ (f:Nat) (p:Array Nat) (k:Nat),Arr n0 p->pL lt p k->1<=k->k + f=n0->(∀ p',Arr n0 p'->pL lt p' n0->Q p' s)->(kas_bin f p k).kasWp cmp Q s
 | 0,p,k,ha,hs,h1,hf,q=>q p ha (by rw [<- hf];exact hs)
 | f + 1,p,k,ha,hs,h1,hf,q=>by
  unfold kas_bin
  rw [KasT.kasWp_bind]
  refine GY o hn hc ha hs k 0 k (by omega) (by omega) (Ux _) (fun i h=>absurd h (U9 _)) (fun i a b=>by omega) fun l hl OL h2'=>?_
  have hk:k < p.size:=by rw [ha.sz];omega
  refine Kq f _ (k + 1) (ha.OI _ _) (fun i j hij hj=>?_) (by omega) (by omega) q
  rw [Km hk (by omega),Km hk (by omega),show k - (k - l)=l by omega]
  by_cases hi:i=l
  ·rw [if_pos hi]
   by_cases hj':j=l
   ·rw [if_pos hj'];exact o.rf _
   ·rw [if_neg hj',if_pos ⟨by omega,by omega⟩]
    exact o.as _ _ (h2' (j - 1) (by omega) (by omega))
  ·rw [if_neg hi]
   by_cases hj':j=l
   ·rw [if_pos hj',if_neg (by omega)]
    exact OL i (by omega)
   ·rw [if_neg hj']
    by_cases hi2:l < i
    ·rw [if_pos (show l < j/\j<=k by omega),if_pos (show l < i/\i<=k by omega)]
     exact hs _ _ (by omega) (by omega)
    ·by_cases hj2:l < j
     ·rw [if_pos (show l < j/\j<=k by omega),if_neg (show ¬ (l < i/\i<=k) by omega)];exact hs _ _ (by omega) (by omega)
     ·rw [if_neg (show ¬ (l < j/\j<=k) by omega),if_neg (show ¬ (l < i/\i<=k) by omega)];exact hs _ _ hij (by omega)
theorem OM {Q:Array Nat->Shared->Prop} (q:∀ p',Arr n0 p'->pL lt p' n0->Q p' s):(kas_sort n0).kasWp cmp Q s:=by
 unfold kas_sort
 rw [KasT.kasWp_bind]
 have ha:Arr n0 (List.toArray (List.range n0)):=⟨by simp,by simp⟩
 refine OJ o hn hc ha fun m p' a b c d=>?_
 show (if m < n0 then kas_bin (n0 - max m 1) p' (max m 1) else KasT.ret p').kasWp cmp Q s
 rw [show max m 1=m by omega]
 by_cases h:m < n0
 ·rw [if_pos h]
  exact Kq o hn hc (n0 - m) p' m a b c (by omega) q
 ·rw [if_neg h]
  have:m=n0:=by omega
  subst this
  exact q p' a b
end
def nT (fin:Bool):List PyData->List PyData->Bool
 | x :: xs,y :: ys=>if PyData.eqv x y then nT fin xs ys else ko x y
 | _,_=>fin
theorem Kr:∀ xs ys:List PyData,nT (decide (xs.length < ys.length)) xs ys=cJ xs ys
 | [],[]=>rfl
 | [],_ :: _=>by simp [nT,cJ]
 | _ :: _,[]=>by simp [nT,cJ]
 | x :: xs,y :: ys=>by
  have e:decide ((x :: xs).length < (y :: ys).length)=decide (xs.length < ys.length):=by simp
  rw [e]
  show (if PyData.eqv x y=true then nT (decide (xs.length < ys.length)) xs ys else ko x y)=if PyData.eqv x y=true then cJ xs ys else ko x y
  rw [Kr xs ys]
def uf (nE:Bool):PyData->Bool
 | .tuple (.int _ :: _)=>!nE
 | .tuple (.tuple _ :: _)=>nE
 | _=>false
section
variable {prog:Program} {w:World} {A:Around} {E:Value->Shared->Prop} {s:Shared}
theorem Ks {b fin:Bool} {Q:Bool->Shared->Prop}:∀ (xs ys:List PyData) (vs ws:List Value) (as bs:List Addr) (i:Nat),ReadsAll s.heap vs xs as->ReadsAll s.heap ws ys bs->c9 xs ys=true->PyData.canLayAll0 xs=true->PyData.canLayAll0 ys=true->A.units + min (PyData.depthAll xs) (PyData.depthAll ys) < cLine ->
  (b=true->i=0->∀ x r,xs=x :: r->∃ n,x=.int n)->Q (nT fin xs ys) s->KatLex prog w A b fin Q (vs.zip ws) i s
 | [],_,_,_,_,_,i,ra,rb,_,_,_,_,_,q=>by cases ra;exact q
 | _ :: _,[],_,_,_,_,i,ra,rb,_,_,_,_,_,q=>by cases rb;cases ra;exact q
 | x :: xs,y :: ys,_,_,_,_,i,ra,rb,ok,ha,hb,hu,hf,q=>by
  have a':x.canLay0=true/\PyData.canLayAll0 xs=true:=by simpa [PyData.canLayAll0] using ha
  have b':y.canLay0=true/\PyData.canLayAll0 ys=true:=by simpa [PyData.canLayAll0] using hb
  have o':fH x y=true/\c9 xs ys=true:=by simpa [c9] using ok
  cases ra with
  | cons r rs =>
   cases rb with
   | cons r' rs' =>
    refine kat_cons (SeqAt.eqAt_reads x y A s _ _ _ _ r r' a'.1 b'.1 (SeqAt.room_head hu) prog w _ _ ?_)
    cases he:PyData.eqv x y with
    | true =>
     refine kat_yes (Ks xs ys _ _ _ _ (i + 1) rs rs' o'.2 a'.2 b'.2 (SeqAt.room_tail hu) (fun _ z=>absurd z (Nat.succ_ne_zero _)) ?_)
     rw [nT,he,if_pos rfl] at q
     exact q
    | false =>
     rw [nT,he,if_neg (by decide)] at q
     refine kat_no ?_
     cases hbi:(b && i == 0) with
     | true =>
      have hb1:b=true/\i=0:=by simpa using hbi
      obtain ⟨n,rfl⟩:=hf hb1.1 hb1.2 x xs rfl
      cases y with
      | int m =>
       cases r with
       | int _ t =>
        cases r' with
        | int _ u=>exact oneLt_int q
      | none=>cases o'.1
      | bool _=>cases o'.1
      | str _=>cases o'.1
      | list _=>cases o'.1
      | tuple _=>cases o'.1
      | dict _=>cases o'.1
     | false=>exact kat_one _ _ (GS x y A s _ _ _ _ r r' o'.1 a'.1 b'.1 (SeqAt.room_head hu) prog w _ _ q)
theorem OO {nE:Bool} {vs:List Value} {ds:List PyData} {as:List Addr} {i j:Nat} {C:Bool->Shared->Prop} (ra:ReadsAll s.heap vs ds as) (hh:∀ d∈ds,uf nE d=true) (hok:∀ a∈ds,∀ b∈ds,fH a b=true) (hlay:∀ a∈ds,a.canLay0=true/\a.depth<=50) (hu:A.units + 52 < cLine)
  (hi:i < vs.length) (hj:j < vs.length) (q:C (mz ds i j) s):kas_ask prog w A (tuples' (!nE)) vs i j C s:=by
 obtain ⟨a1,r1,m1⟩:=AJ (i:=i) (v:=vs.getD i Value.none) ra (by rw [UA,Uv hi];rfl)
 obtain ⟨a2,r2,m2⟩:=AJ (i:=j) (v:=vs.getD j Value.none) ra (by rw [UA,Uv hj];rfl)
 have ok:=hok _ m1 _ m2
 have l1:=hlay _ m1
 have l2:=hlay _ m2
 have h1:=hh _ m1
 unfold mz at q
 unfold kas_ask
 generalize vs.getD i Value.none=v at r1
 generalize vs.getD j Value.none=v' at r2
 generalize ds.getD i .none=d at r1 ok l1 h1 q
 generalize ds.getD j .none=d' at r2 ok l2 q
 cases d with
 | tuple xs =>
  cases d' with
  | tuple ys =>
   cases r1 with
   | @tuple l o us n _ Kj g1 g2 g3 g4 =>
    cases r2 with
    | @tuple l' o2 us' n' _ OD k1 k2 k3 k4 =>
     have n1:us.size=xs.length:=by simpa using SeqAt.ReadsAll.length _ _ _ g4
     have n2:us'.size=ys.length:=by simpa using SeqAt.ReadsAll.length _ _ _ k4
     have dp:PyData.depthAll xs + 1<=50:=l1.2
     refine kat_lt g1 g3 k1 k3 ?_
     rw [n1,n2]
     refine Ks xs ys _ _ _ _ 0 g4 k4 ok l1.1 l2.1 (by omega) (fun hb _ x r e=>?_) (by rw [Kr];exact q)
     subst e
     have hT:nE=false:=by simpa using hb
     subst hT
     cases x with
     | int n=>exact ⟨n,rfl⟩
     | none=>cases h1
     | bool _=>cases h1
     | str _=>cases h1
     | list _=>cases h1
     | tuple _=>cases h1
     | dict _=>cases h1
  | none=>cases ok
  | bool _=>cases ok
  | str _=>cases ok
  | list _=>cases ok
  | int _=>cases ok
  | dict _=>cases ok
 | none=>cases h1
 | bool _=>cases h1
 | str _=>cases h1
 | list _=>cases h1
 | int _=>cases h1
 | dict _=>cases h1
theorem Kt {nE:Bool} {h:Heap}:∀ {ds:List PyData} {vs:List Value} {as:List Addr},ReadsAll h vs ds as->(∀ d∈ds,uf nE d=true)->∃ fs,KatTups h vs fs/\fs.length=vs.length/\∀ f∈fs,(nE=false/\∃ n t,f=.int n t)\/(nE=true/\∃ a o,f=.ref a/\h.get? a=some o/\o.cls=.type "tuple")
 | [],_,_,r,_=>by cases r;exact ⟨[],trivial,rfl,fun f hf=>nomatch hf⟩
 | d :: ds,_,_,r,hh=>by
  cases r with
  | cons r rs =>
   obtain ⟨fs,t,hl,hf⟩:=Kt rs fun d hd=>hh d (Uz _ hd)
   have h1:=hh d Uy
   cases d with
   | tuple xs =>
    cases r with
    | @tuple l o us n _ Kj g1 g2 g3 g4 =>
     cases xs with
     | nil=>cases h1
     | cons x xs =>
      have hz:∃ u r,us.toList=u :: r/\∃ Ku,Reads h u x Ku:=by
       generalize us.toList=L at g4
       cases g4 with
       | cons q _=>exact ⟨_,_,rfl,_,q⟩
      obtain ⟨u,r0,eL,Ku,q⟩:=hz
      have e0:us[0]?=some u:=by rw [<- Vq,eL];rfl
      refine ⟨u :: fs,⟨⟨l,o,us,n,rfl,g1,g2,g3,e0⟩,t⟩,by simp [hl],fun f hf'=>?_⟩
      rcases UU.mp hf' with rfl | hf'
      ·cases x with
       | int n =>
        cases q with
        | int _ t=>exact .inl ⟨by simpa [uf] using h1,_,_,rfl⟩
       | tuple _ =>
        cases q with
        | tuple k1 k2 k3 k4=>exact .inr ⟨by simpa [uf] using h1,_,_,rfl,k1,k2⟩
       | none=>cases h1
       | bool _=>cases h1
       | str _=>cases h1
       | list _=>cases h1
       | dict _=>cases h1
      ·exact hf f hf'
   | none=>cases h1
   | bool _=>cases h1
   | str _=>cases h1
   | list _=>cases h1
   | int _=>cases h1
   | dict _=>cases h1
theorem OQ {nE:Bool} {vs:List Value} {ds:List PyData} {as:List Addr} {Q:SortKind->Shared->Prop} (ra:ReadsAll s.heap vs ds as) (hh:∀ d∈ds,uf nE d=true) (hn:0 < vs.length) (q:Q (tuples' (!nE)) s):wpAny (model prog w) A (keyKind' vs.toArray) Q E s:=by
 obtain ⟨fs,t,hl,hf⟩:=Kt ra hh
 cases nE with
 | false =>
  refine kat_kind (T:=.type "int") t (by omega) (fun v hv=>?_) (by decide) q
  rcases hf v hv with ⟨_,n,t,rfl⟩ | ⟨z,_⟩
  ·exact Looks.of_pure rfl
  ·cases z
 | true =>
  refine kat_kind (T:=.type "tuple") t (by omega) (fun v hv=>?_) (by decide) q
  rcases hf v hv with ⟨z,_⟩ | ⟨_,a,o,rfl,ho,hc⟩
  ·cases z
  ·rw [<- hc]
   exact (Looks.ld ho).andThen .now
end
def o4 (a:Addr) (h h':Heap):Prop:=∀ b o,b≠a->h.get? b=some o->h'.get? b=some o
def l8 (vs:List Value) (p:Array Nat):Array Value:=List.toArray (p.toList.map fun i=>vs.getD i Value.none)
theorem OR (vs:List Value):l8 vs (List.toArray (List.range vs.length))=vs.toArray:=by
 unfold l8
 congr 1
 refine Wl fun i=>?_
 rw [UB]
 by_cases h:i < vs.length
 ·rw [Uv (by simpa using h)]
  simp [h]
 ·rw [Vr (by simpa using h),Vr (by simpa using h)];rfl
section
variable {prog:Program} {w:World} {A:Around} {E:Value->Shared->Prop} {s:Shared} {lt:Nat->Nat->Bool}
theorem OS {a:Addr} {vs:List Value} {n:Nat} {R:PySem.Fin->Shared->Prop} (ho:s.heap.get? a=some (seqObj "list" vs.toArray n)) (h64:vs.length < 64) (o:Ord lt)
  (hk:2<=vs.length->∀ s':Shared,o4 a s.heap s'.heap->∃ κ,(∀ Q:SortKind->Shared->Prop,Q κ s'->wpAny (model prog w) A (keyKind' vs.toArray) Q E s')/\∀ i j (C:Bool->Shared->Prop),i < vs.length->j < vs.length->C (lt i j) s'->kas_ask prog w A κ vs i j C s')
  (h:∀ p:Array Nat,Arr vs.length p->pL lt p vs.length->R (.done (.ret .none)) { s with heap:=sortedHeap s.heap a vs (l8 vs p) }):wpAny (model prog w) A (Builtin.«list.sort» ⟨[.ref a],[]⟩) R E s:=by
 rw [list_sort_plain]
 have halt:a < s.heap.objs.size:=UN ho
 have hsl:sizeLine=sizeLine:=rfl
 have qD:vs.length<=sizeLine:=UZ (V0 h64) (by decide)
 refine wpAny_bind (listItems_at ho rfl (wpAny_bind (listUpdate_at ho rfl ?_ (by rw [UI];exact qD) (U8 _))))
 obtain ⟨e1,DN⟩:∃ e1,(s.heap.update a (Obj.mapSeq fun _=>(#[]:Array Value))).get? a=some (seqObj "list" #[] e1):=⟨_,get?_update_seq ho fun _=>#[]⟩
 refine wpAny_bind (seqEpoch_at DN rfl (wpAny_bind (wpAny_newTuple (wpAny_bind (wpAny_newList (wpAny_holding ?_) (U8 _))) (by show vs.length<=_;exact qD))))
 have ne1:a≠(s.heap.update a (Obj.mapSeq fun _=>(#[]:Array Value))).objs.size:=by rw [Heap.size_update];exact Va halt
 have ho6:(((s.heap.update a (Obj.mapSeq fun _=>(#[]:Array Value))).push (seqObj "tuple" vs.toArray 0)).push (seqObj "list" #[] 0)).get? a=some (seqObj "list" #[] e1):=UC _ (UC _ DN)
 have kb:o4 a s.heap (((s.heap.update a (Obj.mapSeq fun _=>(#[]:Array Value))).push (seqObj "tuple" vs.toArray 0)).push (seqObj "list" #[] 0)):=fun b o hb e=>UC _ (UC _ ((Vc _ _ (Ne.symm hb)).trans e))
 show wpAny (model prog w) A _ R E { s with heap:=((s.heap.update a (Obj.mapSeq fun _=>(#[]:Array Value))).push (seqObj "tuple" vs.toArray 0)).push (seqObj "list" #[] 0) }
 dsimp only
 by_cases h2:vs.toArray.size < 2
 ·rw [if_pos h2,if_pos h2]
  refine wpAny_bind (wpAny_pure ?_)
  rw [StateT.run_pure]
  refine wpAny_bind (wpAny_pure ?_)
  dsimp only
  have eo:(arrOf (SortSt.mk' general' (vs.toArray.zip vs.toArray) #[] 7 none)).map (·.2)=l8 vs (List.toArray (List.range vs.length)):=by
   rw [OR]
   show (vs.toArray.zip vs.toArray).map (·.2)=vs.toArray
   apply Array.toList_inj.mp
   simp [List.map_snd_zip]
  refine wpAny_bind (seqEpoch_at ho6 rfl ?_)
  rw [eo]
  refine wpAny_bind (listUpdate_at ho6 rfl ?_ (U8 _) (by unfold l8;rw [UI,Uu,Vz,UI,Vv];omega))
  simp only [bne_self_eq_false,UY,if_false]
  refine wpAny_pure (h _ ⟨by simp,by simp⟩ fun i j hij hj=>?_)
  have e:i=j:=by rw [UI] at h2;omega
  subst e;exact o.rf _
 ·rw [if_neg h2,if_neg h2]
  have h2':2<=vs.length:=by rw [UI] at h2;omega
  obtain ⟨κ,hkk,GZ⟩:=hk h2' { s with heap:=((s.heap.update a (Obj.mapSeq fun _=>(#[]:Array Value))).push (seqObj "tuple" vs.toArray 0)).push (seqObj "list" #[] 0) } kb
  refine wpAny_bind (hkk _ ?_)
  have run:=kat_run (prog:=prog) (w:=w) (A:=A) (E:=E) (κ:=κ) (ks:=vs) (vs:=vs) (s:={ s with heap:=((s.heap.update a (Obj.mapSeq fun _=>(#[]:Array Value))).push (seqObj "tuple" vs.toArray 0)).push (seqObj "list" #[] 0) }) (Q:=fun st' s'=>∃ p:Array Nat,arrOf st'=p.map (kas_item (vs.toArray.zip vs.toArray))/\failedOf st'=none/\s'={ s with heap:=((s.heap.update a (Obj.mapSeq fun _=>(#[]:Array Value))).push (seqObj "tuple" vs.toArray 0)).push (seqObj "list" #[] 0) }/\Arr vs.length p/\pL lt p vs.length)
   (G:=fun p s'=>s'={ s with heap:=((s.heap.update a (Obj.mapSeq fun _=>(#[]:Array Value))).push (seqObj "tuple" vs.toArray 0)).push (seqObj "list" #[] 0) }/\Arr vs.length p/\pL lt p vs.length) rfl h2' h64 (fun p st' s' _ x y z=>⟨p,x,y,z⟩)
   (OM o (by omega) GZ fun p' x y=>⟨rfl,x,y⟩)
  refine wpAny_bind (wpAny_mono run ?_ fun _ _ z=>z)
  rintro ⟨⟨⟩,st'⟩ s' ⟨p,har,hf,rfl,hA,hS⟩
  dsimp only
  have eo:(arrOf st').map (·.2)=l8 vs p:=kat_snds rfl har
  refine wpAny_bind (seqEpoch_at ho6 rfl ?_)
  rw [eo]
  refine wpAny_bind (listUpdate_at ho6 rfl ?_ (U8 _) (by unfold l8;rw [UI,Uu,Vz,hA.sz];omega))
  rw [hf]
  simp only [bne_self_eq_false,UY,if_false]
  exact wpAny_pure (h p hA hS)
theorem OT {l:Addr} {vs:List Value} {Q:Value->Shared->Prop} (hl:s.heap.IsList l vs.toArray) (h64:vs.length < 64) (o:Ord lt)
  (hk:2<=vs.length->∀ (s':Shared) (E':Value->Shared->Prop),gJ s.heap s'.heap->∃ κ,(∀ Q:SortKind->Shared->Prop,Q κ s'->wpAny (model prog w) A.in1.in1 (keyKind' vs.toArray) Q E' s')/\∀ i j (C:Bool->Shared->Prop),i < vs.length->j < vs.length->C (lt i j) s'->kas_ask prog w A.in1.in1 κ vs i j C s')
  (h:∀ p:Array Nat,Arr vs.length p->pL lt p vs.length->Q (.ref (s.heap.objs.size + 1)) { s with heap:=sortedAll s.heap vs (l8 vs p) }):wpAny (model prog w) A (call (.builtin "sorted") [.ref l]) Q E s:=by
 have qD:vs.length<=sizeLine:=UZ (V0 h64) (by decide)
 refine Calls.call_function_entry kind_sorted plain_sorted entry_sorted (args_sorted1 _) ?_
 unfold Builtin.«sorted»
 refine wpAny_bind (m:=checkCount "sorted" 1 1 _) (wpAny_pure (wpAny_bind (collect_list hl (wpAny_bind (wpAny_newList ?_ qD)) qD)))
 have hsz:((s.heap.push (seqObj "list" #[] 0)).update s.heap.objs.size (Obj.mapSeq (· ++ vs.toArray))).objs.size=s.heap.objs.size + 1:=(Heap.size_update _ _ _).trans (size_push' _ _)
 have Dn:(((s.heap.push (seqObj "list" #[] 0)).update s.heap.objs.size (Obj.mapSeq (· ++ vs.toArray))).push (seqObj "list" vs.toArray 0)).get? (s.heap.objs.size + 1)=some (seqObj "list" vs.toArray 0):=hsz ▸ UQ _ rfl
 show wpAny (model prog w) _ _ _ _ { s with heap:=((s.heap.push (seqObj "list" #[] 0)).update s.heap.objs.size (Obj.mapSeq (· ++ vs.toArray))).push (seqObj "list" vs.toArray 0) }
 rw [hsz]
 have k1:gJ s.heap (((s.heap.push (seqObj "list" #[] 0)).update s.heap.objs.size (Obj.mapSeq (· ++ vs.toArray))).push (seqObj "list" vs.toArray 0)):=fun b o e=>UC _ ((Vc _ _ (Ne.symm (Va (UN e)))).trans (UC _ e))
 refine wpAny_bind (wpAny_holding (wpAny_call_entry slot_list_sort ⟨_,Dn,rfl⟩ entry_list_sort (OS Dn h64 o (fun h2 s' kb=>hk h2 s' _ fun b o' e=>kb b o' (fun z=>?_) (k1 b o' e)) fun p a1 a2=>⟨_,rfl,?_⟩) (args_list_sort _)))
 ·have:=UN e
  rw [z] at this
  exact absurd this (WN (V7 _))
 ·exact wpAny_pure ⟨_,rfl,h p a1 a2⟩
end
mutual
theorem G0:∀ (a b:PyData),fH a b=true->(PyData.eqv a b=true↔a=b)
 | .int x,.int y,_=>by show ((x == y)=true)↔_;simp
 | .tuple xs,.tuple ys,h=>by show PyData.eqvAll xs ys=true↔_;rw [Kv xs ys h];simp
 | .int _,.none,h=>nomatch h
 | .int _,.bool _,h=>nomatch h
 | .int _,.str _,h=>nomatch h
 | .int _,.list _,h=>nomatch h
 | .int _,.tuple _,h=>nomatch h
 | .int _,.dict _,h=>nomatch h
 | .tuple _,.none,h=>nomatch h
 | .tuple _,.bool _,h=>nomatch h
 | .tuple _,.int _,h=>nomatch h
 | .tuple _,.str _,h=>nomatch h
 | .tuple _,.list _,h=>nomatch h
 | .tuple _,.dict _,h=>nomatch h
 | .none,_,h=>by simp [fH] at h
 | .bool _,_,h=>by simp [fH] at h
 | .str _,_,h=>by simp [fH] at h
 | .list _,_,h=>by simp [fH] at h
 | .dict _,_,h=>by simp [fH] at h
theorem Kv:∀ (xs ys:List PyData),c9 xs ys=true->(PyData.eqvAll xs ys=true↔xs=ys)
 | [],[],_=>by simp [PyData.eqvAll]
 | [],_ :: _,_=>by simp [PyData.eqvAll]
 | _ :: _,[],_=>by simp [PyData.eqvAll]
 | x :: xs,y :: ys,h=>by
  have h':fH x y=true/\c9 xs ys=true:=by simpa [c9] using h
  rw [PyData.eqvAll,UO,G0 x y h'.1,Kv xs ys h'.2]
  simp
end
theorem AL {x y:PyData} {xs ys:List PyData} (h:fH x y=true):cJ (x :: xs) (y :: ys)=true↔(x=y/\cJ xs ys=true)\/(x≠y/\ko x y=true):=by
 rw [cJ]
 by_cases e:x=y
 ·rw [if_pos ((G0 x y h).mpr e)];simp [e]
 ·rw [if_neg (fun z=>e ((G0 x y h).mp z))];simp [e]
mutual
theorem G1:∀ a:PyData,ko a a=false
 | .int x=>by simp [ko]
 | .tuple xs=>by show cJ xs xs=false;exact Kw xs
 | .none=>rfl
 | .bool _=>rfl
 | .str _=>rfl
 | .list _=>rfl
 | .dict _=>rfl
theorem Kw:∀ xs:List PyData,cJ xs xs=false
 | []=>rfl
 | x :: xs=>by
  rw [cJ]
  split
  ·exact Kw xs
  ·exact G1 x
end
mutual
theorem G2:∀ (a b:PyData),fH a b=true->fH b a=true->ko a b=false->ko b a=false->a=b
 | .int x,.int y,_,_,h1,h2=>by
  have h1:=of_decide_eq_false h1
  have h2:=of_decide_eq_false h2
  rw [show x=y by omega]
 | .tuple xs,.tuple ys,o1,o2,h1,h2=>by rw [Kx xs ys o1 o2 h1 h2]
 | .int _,.none,h,_,_,_=>nomatch h
 | .int _,.bool _,h,_,_,_=>nomatch h
 | .int _,.str _,h,_,_,_=>nomatch h
 | .int _,.list _,h,_,_,_=>nomatch h
 | .int _,.tuple _,h,_,_,_=>nomatch h
 | .int _,.dict _,h,_,_,_=>nomatch h
 | .tuple _,.none,h,_,_,_=>nomatch h
 | .tuple _,.bool _,h,_,_,_=>nomatch h
 | .tuple _,.int _,h,_,_,_=>nomatch h
 | .tuple _,.str _,h,_,_,_=>nomatch h
 | .tuple _,.list _,h,_,_,_=>nomatch h
 | .tuple _,.dict _,h,_,_,_=>nomatch h
 | .none,_,h,_,_,_=>by simp [fH] at h
 | .bool _,_,h,_,_,_=>by simp [fH] at h
 | .str _,_,h,_,_,_=>by simp [fH] at h
 | .list _,_,h,_,_,_=>by simp [fH] at h
 | .dict _,_,h,_,_,_=>by simp [fH] at h
theorem Kx:∀ (xs ys:List PyData),c9 xs ys=true->c9 ys xs=true->cJ xs ys=false->cJ ys xs=false->xs=ys
 | [],[],_,_,_,_=>rfl
 | [],_ :: _,_,_,h,_=>by simp [cJ] at h
 | _ :: _,[],_,_,_,h=>by simp [cJ] at h
 | x :: xs,y :: ys,o1,o2,h1,h2=>by
  have a:fH x y=true/\c9 xs ys=true:=by simpa [c9] using o1
  have b:fH y x=true/\c9 ys xs=true:=by simpa [c9] using o2
  have n1:¬ ((x=y/\cJ xs ys=true)\/(x≠y/\ko x y=true)):=fun z=>by rw [<- AL a.1] at z;rw [h1] at z;cases z
  have n2:¬ ((y=x/\cJ ys xs=true)\/(y≠x/\ko y x=true)):=fun z=>by rw [<- AL b.1] at z;rw [h2] at z;cases z
  by_cases e:x=y
  ·subst e
   rw [Kx xs ys a.2 b.2 (by cases q:cJ xs ys with | false=>rfl | true=>exact absurd (.inl ⟨rfl,q⟩) n1) (by cases q:cJ ys xs with | false=>rfl | true=>exact absurd (.inl ⟨rfl,q⟩) n2)]
  ·exact absurd (G2 x y a.1 b.1 (by cases q:ko x y with | false=>rfl | true=>exact absurd (.inr ⟨e,q⟩) n1) (by cases q:ko y x with | false=>rfl | true=>exact absurd (.inr ⟨Ne.symm e,q⟩) n2)) e
end
mutual
theorem G3:∀ (a b c:PyData),fH a b=true->fH b c=true->fH a c=true->ko a b=true->ko b c=true->ko a c=true
 | .int x,.int y,.int z,_,_,_,h1,h2=>by
  have h1:=of_decide_eq_true h1
  have h2:=of_decide_eq_true h2
  exact decide_eq_true (by omega)
 | .tuple xs,.tuple ys,.tuple zs,o1,o2,o3,h1,h2=>Ky xs ys zs o1 o2 o3 h1 h2
 | .int _,.int _,.none,_,h,_,_,_=>nomatch h
 | .int _,.int _,.bool _,_,h,_,_,_=>nomatch h
 | .int _,.int _,.str _,_,h,_,_,_=>nomatch h
 | .int _,.int _,.list _,_,h,_,_,_=>nomatch h
 | .int _,.int _,.tuple _,_,h,_,_,_=>nomatch h
 | .int _,.int _,.dict _,_,h,_,_,_=>nomatch h
 | .tuple _,.tuple _,.none,_,h,_,_,_=>nomatch h
 | .tuple _,.tuple _,.bool _,_,h,_,_,_=>nomatch h
 | .tuple _,.tuple _,.str _,_,h,_,_,_=>nomatch h
 | .tuple _,.tuple _,.list _,_,h,_,_,_=>nomatch h
 | .tuple _,.tuple _,.int _,_,h,_,_,_=>nomatch h
 | .tuple _,.tuple _,.dict _,_,h,_,_,_=>nomatch h
 | .int _,.none,_,h,_,_,_,_=>nomatch h
 | .int _,.bool _,_,h,_,_,_,_=>nomatch h
 | .int _,.str _,_,h,_,_,_,_=>nomatch h
 | .int _,.list _,_,h,_,_,_,_=>nomatch h
 | .int _,.tuple _,_,h,_,_,_,_=>nomatch h
 | .int _,.dict _,_,h,_,_,_,_=>nomatch h
 | .tuple _,.none,_,h,_,_,_,_=>nomatch h
 | .tuple _,.bool _,_,h,_,_,_,_=>nomatch h
 | .tuple _,.int _,_,h,_,_,_,_=>nomatch h
 | .tuple _,.str _,_,h,_,_,_,_=>nomatch h
 | .tuple _,.list _,_,h,_,_,_,_=>nomatch h
 | .tuple _,.dict _,_,h,_,_,_,_=>nomatch h
 | .none,_,_,h,_,_,_,_=>by simp [fH] at h
 | .bool _,_,_,h,_,_,_,_=>by simp [fH] at h
 | .str _,_,_,h,_,_,_,_=>by simp [fH] at h
 | .list _,_,_,h,_,_,_,_=>by simp [fH] at h
 | .dict _,_,_,h,_,_,_,_=>by simp [fH] at h
theorem Ky:∀ (xs ys zs:List PyData),c9 xs ys=true->c9 ys zs=true->c9 xs zs=true->cJ xs ys=true->cJ ys zs=true->cJ xs zs=true
 | [],[],_,_,_,_,h,_=>by simp [cJ] at h
 | [],_ :: _,[],_,_,_,_,h=>by simp [cJ] at h
 | [],_ :: _,_ :: _,_,_,_,_,_=>by simp [cJ]
 | _ :: _,[],_,_,_,_,h,_=>by simp [cJ] at h
 | _ :: _,_ :: _,[],_,_,_,_,h=>by simp [cJ] at h
 | x :: xs,y :: ys,z :: zs,o1,o2,o3,h1,h2=>by
  have a:fH x y=true/\c9 xs ys=true:=by simpa [c9] using o1
  have b:fH y z=true/\c9 ys zs=true:=by simpa [c9] using o2
  have c:fH x z=true/\c9 xs zs=true:=by simpa [c9] using o3
  rw [AL a.1] at h1
  rw [AL b.1] at h2
  rw [AL c.1]
  rcases h1 with ⟨rfl,h1⟩ | ⟨n1,h1⟩
  ·rcases h2 with ⟨rfl,h2⟩ | ⟨n2,h2⟩
   ·exact .inl ⟨rfl,Ky xs ys zs a.2 b.2 c.2 h1 h2⟩
   ·exact .inr ⟨n2,h2⟩
  ·rcases h2 with ⟨rfl,h2⟩ | ⟨n2,h2⟩
   ·exact .inr ⟨n1,h1⟩
   ·have h3:=G3 x y z a.1 b.1 c.1 h1 h2
    exact .inr ⟨(fun e=>by rw [e,G1] at h3;cases h3),h3⟩
end
theorem Kz {ds:List PyData} (hok:∀ a∈ds,∀ b∈ds,fH a b=true) (hn:ds≠[]):Ord fun i j=>mz ds (min i (ds.length - 1)) (min j (ds.length - 1)):=by
 have mem:∀ i,ds.getD (min i (ds.length - 1)) .none∈ds:=fun i=>by
  have hl:0 < ds.length:=Ww.mpr hn
  rw [UA,Uv (by omega)]
  exact Vh _
 have as:∀ a∈ds,∀ b∈ds,ko a b=true->ko b a=false:=fun a ha b hb h=>by
  cases q:ko b a with
  | false=>rfl
  | true=>have:=G3 a b a (hok a ha b hb) (hok b hb a ha) (hok a ha a ha) h q;rw [G1] at this;cases this
 refine ⟨fun a b c h1 h2=>?_,fun a b h=>as _ (mem a) _ (mem b) h⟩
 have ma:=mem a
 have mb:=mem b
 have mc:=mem c
 unfold mz at h1 h2 ⊢
 generalize ds.getD (min a (ds.length - 1)) .none=x at *
 generalize ds.getD (min b (ds.length - 1)) .none=y at *
 generalize ds.getD (min c (ds.length - 1)) .none=z at *
 cases q:ko z x with
 | false=>rfl
 | true =>
  cases q1:ko x y with
  | true =>
   have:=G3 z x y (hok z mc x ma) (hok x ma y mb) (hok z mc y mb) q q1
   rw [h2] at this;cases this
  | false =>
   have:=G2 x y (hok x ma y mb) (hok y mb x ma) q1 h1
   subst this
   rw [h2] at q;cases q
section
variable {X:Cx}
def qE (K:Zfr):List V->Hp->VK->Prop:=fun xs H Q=>∃ (p:Addr) (vs:List V) (ds:List PyData),xs=[.ref p]/\iN K H p vs/\eK K H vs ds/\ds.length < 64/\(∀ a∈ds,∀ b∈ds,fH a b=true)/\(∀ a∈ds,a.canLay0=true/\a.depth<=50)/\(∃ nE,∀ d∈ds,uf nE d=true) /\
 ∀ (l:Addr) (is:List Nat),H l=none->is.Perm (List.range ds.length)->(is.map fun i=>ds.getD i .none).Pairwise (fun a b=>ko b a=false)->Q (.ref l) (upd H l (.lst (is.map fun i=>vs.getD i .non)))
theorem KA {vs:List V} {its:List Value} (r:Vals vs its):∀ (is:List Nat),(∀ i∈is,i < vs.length)->Vals (is.map fun i=>vs.getD i .non) (is.map fun i=>its.getD i Value.none)
 | [],_=>.nil
 | i :: is,h=>by
  have hi:=h i Uy
  obtain ⟨u,hu,ru⟩:=Vals.get r (Uv hi)
  refine .cons ?_ (KA r is fun j hj=>h j (Uz _ hj))
  show RelV (vs.getD i .non) (its.getD i Value.none)
  rw [UA,UA,Uv hi,hu]
  exact ru
theorem OU (hu:X.A.units + 64 < cLine):iJ X (.builtin "sorted") (qE X.K):=by
 intro pins s σ H xs us Q I r h
 obtain ⟨p,vs,ds,rfl,hq,hr,h64,hok,hlay,⟨nE,hT⟩,q⟩:=h
 obtain ⟨u,rfl,ru⟩:=vals1 r
 cases ru
 obtain ⟨its,rv,pl,_⟩:=I.list hq
 obtain ⟨as,ra⟩:=eK.reads I hr rv
 have hlen:its.length=ds.length:=SeqAt.ReadsAll.length _ _ _ ra
 have hvl:vs.length=its.length:=rv.length
 have o:Ord fun i j=>mz ds (min i (ds.length - 1)) (min j (ds.length - 1)):=by
  by_cases hn:ds=[]
  ·subst hn;exact ⟨fun _ _ _ _ _=>rfl,fun _ _ _=>rfl⟩
  ·exact Kz hok hn
 refine OT pl.isList (by omega) o (fun h2 s' E' hK=>⟨tuples' (!nE),fun Q' q'=>OQ (ReadsAll.keeps hK ra) hT (by omega) q',fun i j C hi hj c=>?_⟩) fun pp a1 a2=>?_
 ·refine OO (ReadsAll.keeps hK ra) hT hok hlay (by show X.A.units + 1 + 1 + 52 < cLine;omega) hi hj ?_
  rw [show min i (ds.length - 1)=i by omega,show min j (ds.length - 1)=j by omega] at c
  exact c
 ·have hb:∀ i∈pp.toList,i < ds.length:=fun i hi=>by
   have:=Vj.mp (a1.pm.subset hi)
   omega
  have hpl:pp.toList.length=ds.length:=by rw [Vz,a1.sz,hlen]
  obtain ⟨e,he⟩:=sortedAll_at s.heap its (l8 its pp)
  refine ⟨.ref (s.heap.objs.size + 1),_,I.laid (t':=s.toks) (o:=.lst (pp.toList.map fun i=>vs.getD i .non)) (fun b o q=>sortedAll_old q) (V7 _) ?_,rfl,q _ pp.toList (I.hok.fresh (V7 _)) (by rw [<- hlen];exact a1.pm) ?_⟩
  ·refine ⟨by rw [Uu,hpl];exact UZ (V0 h64) (by decide),pp.toList.map fun i=>its.getD i Value.none,e,KA rv _ fun i hi=>by rw [hvl,hlen];exact hb i hi,?_⟩
   have:l8 its pp=(pp.toList.map fun i=>its.getD i Value.none).toArray:=rfl
   rw [<- this]
   exact he
  ·rw [Wa,Vp]
   intro i j hi hj hij
   have:=a2 i j (V0 hij) (by rw [hlen,<- hpl];exact hj)
   have e1:P pp i=pp.toList[i]:=by unfold P;rw [Vk,<- Vq,Uv hi];rfl
   have e2:P pp j=pp.toList[j]:=by unfold P;rw [Vk,<- Vq,Uv hj];rfl
   have b1:=hb _ (Vh hi)
   have b2:=hb _ (Vh hj)
   simp only [e1,e2,show min pp.toList[i] (ds.length - 1)=pp.toList[i] by omega,show min pp.toList[j] (ds.length - 1)=pp.toList[j] by omega] at this
   exact this
end
end L2
namespace L2
open PySem PySem.Spec PyProof.Rows
section
variable {X:Cx} {o e f:Expr} {apos cpos:Pos} {td ty tx:TE}
end
end L2
namespace L2
open PySem PySem.Spec PyProof.Rows PySem.W
section
variable {X:Cx} {o e:Expr} {t t' td:TE} {apos cpos pos p:Pos}
end
end L2
namespace L2
open PySem PySem.Spec PyProof.Rows
section
variable {X:Cx} {body:List Stmt} {h₀:ExceptHandler} {hs:List ExceptHandler} {pos:Pos} {t:TS}
end
section
variable {X:Cx} {K:Zfr}
end
open Builtin
end L2
namespace L2
open PySem PySem.Spec PyProof.Rows
section
variable {X:Cx} {K:Zfr}
end
end L2
namespace L2
open PySem PySem.Spec PyProof.Rows PySem.W
section
variable {prog:Program} {w:World} {A:Around} {E:Value->Shared->Prop} {s:Shared}
end
end L2
namespace L2
open PySem PySem.Spec PyProof.Rows
section
variable {M:Model} {A:Around} {E:Value->Shared->Prop} {s:Shared}
end
def OV:Option Addr->Value
 | none=>.none
 | some T=>.ref T
def XO (a C:Addr) (dx tr:Option Addr):HO:=.ext fun h=>∃ o vs,h.get? a=some o/\o.cls=.ref C/\o.dict=dx/\o.data=.fields vs/\vs[1]?=some (OV tr)
section
variable {P:Program} {w:World} {H H' H2:Hp} {h h':Heap} {a C T:Addr} {dx tr:Option Addr} {o:HO}
end
section
variable {X:Cx} {pins:List (Addr×Obj)} {σ:St} {H:Hp} {s:Shared} {a C:Addr} {dx:Option Addr}
end
section
variable {P:Program} {w:World} {K:Zfr} {mg:Str->Option Value} {base:Heap} {N:List Str} {qual:Str} {scope:Scope} {f:Addr} {cd:Value} {A:Around} {outer:List Env} {s0:Shared} {H0:Hp} {E:XK}
end
section
open PySem.W
end
section
variable {X:Cx} {pins:List (Addr×Obj)} {σ:St} {H:Hp} {s:Shared} {a C:Addr} {dx:Option Addr}
end
section
variable {P:Program} {w:World} {K:Zfr} {mg:Str->Option Value} {base:Heap} {N:List Str} {qual:Str} {scope:Scope} {f:Addr} {cd:Value} {A:Around} {outer:List Env} {s0:Shared} {H0:Hp} {E:XK}
end
section
variable {X:Cx} {pins:List (Addr×Obj)} {σ:St} {H:Hp} {s:Shared} {W:St->Addr->Hp->Prop} {a:Addr}
end
section
variable {X:Cx} {i:Nat} {x n:Str} {F:Addr} {bmB:List Value} {newId:String} {tb:(St->Addr->Hp->Prop)->TS} {ts:TS} {body suite:List Stmt} {b0:Stmt} {np hpos pos:Pos}
end
section
variable {X:Cx} {k:Nat} {f:Addr} {fd:FuncData} {ps:List Str} {sp:Sp} {x:Str} {p pos:Pos} {e:Expr} {es:List Expr} {t:TA} {pins:List (Addr×Obj)} {W:St->Addr->Hp->Prop}
end
end L2
namespace L2
open PySem PySem.Spec PyProof.Rows PySem.W
section
variable {prog:Program} {w:World} {A:Around} {E:Value->Shared->Prop} {s:Shared} {K:Frag} {a C:Addr} {ox:Obj} {odo:Option Obj} {name:Str}
end
section
variable {X:Cx} {x:Str} {c:Value} {v:V} {p pos:Pos} {e:Expr} {te:TE} {b:Bool}
end
end L2
namespace L2
open PySem PySem.Spec PyProof.Rows
section
variable {X:Cx}
end
end L2
namespace L2
open PySem PySem.Spec PyProof.Rows PySem.W PySem.Builtin PySem.Builtin.ObjectAttr
section
variable {prog:Program} {w:World} {A:Around} {E:Value->Shared->Prop} {s:Shared} {K:Frag} {a C:Addr} {ox:Obj} {odo:Option Obj} {name:Str} {v:Value}
end
section
variable {X:Cx} {pins:List (Addr×Obj)} {σ:St} {H:Hp} {s:Shared} {a C:Addr} {tr:Option Addr} {f:Str} {y:V} {u:Value}
variable {o value:Expr} {ta tv:TE} {pos pos':Pos}
end
end L2
namespace L2
open PySem PySem.Spec PyProof.Rows PySem.W
section
variable {prog:Program} {w:World} {A:Around} {E:Value->Shared->Prop} {h:Heap} {g:Array GenState} {d:Drawn} {t:Nat} {os:OsState}
variable {nm q:Str} {C N:Addr} {bs bm bmB:List Value} {hdct:Bool} {sn:List Str} {sub:List Value} {ab:Bool} {col:Option Bool} {dd:Option Addr} {k0 k1 k2 k3 k5:Option Value} {B newId initId:String}
end
section
variable {X:Cx} {k:Nat} {f C:Addr} {fd:FuncData} {ps:List Str} {sp:Sp} {x:Str} {p pos:Pos} {e:Expr} {es:List Expr} {t:TA} {B newId initId:String} {bmB:List Value}
end
section
variable {P:Program} {w:World} {K:Frag} {mg:Str->Option Value} {base:Heap} {N:List Str} {qual:Str} {scope:Scope} {f:Addr} {cd:Value} {A:Around} {outer:List Env} {s0:Shared} {H0:Hp} {E:XK}
end
section
variable {X:Cx} {e:Expr} {te:TE} {f:Str} {pos:Pos}
end
end L2
namespace L2
open PySem PySem.Spec PyProof.Rows
section
variable {X:Cx} {K:Zfr}
def o5 (K:Zfr):V->List V->Hp->VK->Prop:=fun x vs H Q=>∃ (a:Addr) (ys:List V) (ds:List PyData) (y:V) (dy:PyData) (j:Nat),x=.ref a/\vs=[y]/\iN K H a ys/\eK K H ys ds/\Rep K H y dy/\(∀ d∈ds,PyData.canLay0 d=true)/\PyData.canLay0 dy=true/\PyData.depth dy<=60 /\
 ds.length<=1000/\(∃ d,ds[j]?=some d/\PyData.eqv d dy=true)/\(∀ i d,i < j->ds[i]?=some d->PyData.eqv d dy=false)/\Q (.int (j:Int)) H
theorem OW (hu:X.A.units + 64 < cLine):Af X "list.index" (o5 X.K):=by
 intro pins s σ H x xs v us Q I rx rv h
 obtain ⟨a,ys,ds,y,dy,j,rfl,rfl,hq,hr,hy,c1,c2,c3,hl,hit,hno,q⟩:=h
 cases rx
 obtain ⟨u,rfl,ru⟩:=vals1 rv
 obtain ⟨its,r,pl,hz⟩:=I.list hq
 obtain ⟨⟨c,dd,dt,sl⟩,e,hc,n,hdt⟩:=pl.isList
 cases (show c=.type "list" from hc)
 cases (show dt=.seq its.toArray n from hdt)
 have hlen:its.length=ds.length:=by rw [<- r.length];exact hr.qA
 obtain ⟨d0,hd0,OX⟩:=hit
 have hjl:j < ds.length:=(Uw.mp hd0).1
 have rd:∀ (i:Nat) (w:Value) (d:PyData),its[i]?=some w->ds[i]?=some d->∃ as,Reads s.heap w d as:=fun i w d h1 h2=>by
  obtain ⟨z,hz',rz⟩:=r.AA h1
  obtain ⟨d',hd',rp⟩:=hr.get hz'
  rw [h2] at hd'
  cases hd'
  exact rp.reads I rz
 refine call_meets F.slot_list_index ⟨_,e,rfl⟩ F.entry_list_index (F.args_list_index_2 _ _) (PySem.SeqAt.list_indexAt a its.toArray n dd sl u (eD its ds dy) j (by simp;omega) (by omega) ?_ fun m hm OY=>?_) ⟨e,fun z hz=>?_,⟨.int _,H,I.tok _,⟨_,rfl⟩,q⟩⟩
 ·unfold eD
  refine @decide_eq_true _ (Classical.propDecidable _) ⟨j,d0,?_,hd0,OX⟩
  simp [show j < its.length by omega]
 ·unfold eD
  refine @decide_eq_false _ (Classical.propDecidable _) ?_
  rintro ⟨i,d,h1,h2,h3⟩
  have hm2:m < its.length:=by simpa using hm
  have OZ:its[m]?=some (its.toArray[m]):=by simp [hm2]
  obtain ⟨dm,KC⟩:∃ dm,ds[m]?=some dm:=⟨ds[m]'(by omega),Uv _⟩
  obtain ⟨as,ra⟩:=rd i _ d h1 h2
  obtain ⟨bs,rb⟩:=rd m _ dm OZ KC
  have ed:d=dm:=(Reads.unique ra _ _ rb).1
  rw [ed,hno m dm OY KC] at h3
  cases h3
 ·exact AB hu I r hr ru hy c1 c2 (by first | exact c3 | (intro d hd;omega)) z (by simpa using hz)
end
section
variable {X:Cx}
end
open Builtin
def P2 (k:Nat):Nat:=2 ^ k
section
variable {X:Cx}
end
end L2
namespace L2
open PySem PySem.Spec PySem.W PyProof.Rows
structure vT (K:Zfr) (x qual:Str) (st:Stmt) (f:Addr) (fd:FuncData):Prop where
 ex:∃ (oc:Value) (od:Option Addr) (dV kV doc pm:Value) (an:Option Addr) (cdv ct:Value) (osl:Array (Option Value)),
  fd=PySem.W.fnOf x qual (e7 st) (dG st) (av st) dV kV doc pm an cdv ct/\K.lookup f=some ⟨oc,od,.func fd,osl⟩/\PySem.W.codeIn K cdv qual=true
 kp:PySem.W.keepIn K (.ref f)=true
theorem vT.ok {P:Program} {w:World} {K:Zfr} {mg:Str->Option Value} {base:Heap} {x qual:Str} {st:Stmt} {f:Addr} {fd:FuncData} {N ps:List Str} {k:Nat} {sp:Sp} (F:vT K x qual st f fd) (S:aD N ps (av st)) (len:∀ vs H Q E,sp vs H Q E->vs.length=ps.length)
  (hbody:∀ (cdv:Value) (A:Around) (outer:List Env) (s:Shared) (H:Hp) (vs:List V) (Q:VK) (E:XK),fT k (A.deeper (envOfC qual (av st) s.heap.objs.size f cdv))->sp vs H Q E ->
   ∃ t,oQ (gn aY P w K mg base N qual (av st) f cdv A outer s H E).mw (dG st) t/\t { nx:=fun _ H'=>Q .non H',rt:=Q } (start N vs) H):aA P w K mg base aY (k + 1) f fd ps sp:=by
 obtain ⟨oc,od,dV,kV,doc,pm,an,cdv,ct,osl,rfl,lk,hcd⟩:=F.ex
 refine tP lk hcd S len fun A outer s H vs Q E hr p3=>?_
 obtain ⟨t,h,q⟩:=hbody cdv A outer s H vs Q E hr p3
 exact ⟨t,h.mw,q⟩
structure mQ (K:Zfr) (mg:Str->Option Value) (x:Str) (st:Stmt) (ps:List Str) (my:List V) (f:Addr) (fd:FuncData):Prop where
 F:vT K x x st f fd
 b:Binds K fd ps []
 bd:∃ ds,Vals my ds/\Binds K fd ps ds
 m:mg x=some (.ref f)
def qF (x:Str) (st:Stmt) (ps:List Str) (d m:Nat):Prop :=
 ∀ (T:Addr) (kV doc pm:Value) (an:Option Addr) (cdv ct:Value) (us ds:List Value),us.length=m->ds.length=d ->
  ∃ k:Option (Array Value)->Sem (List (Str×Value)),bindArgs (PySem.W.fnOf x x (e7 st) (dG st) (av st) (.ref T) kV doc pm an cdv ct) ⟨us,[]⟩=seqItems? (.ref T) >>= k/\k (some ds.toArray)=pure (ps.zip (us ++ ds.drop (m + d - ps.length)))
theorem KD {K:Zfr} {h:Heap} {mg:Str->Option Value} (X:K.In h) (G:h.Ns mainGlobals mg) {x:Str} {st:Stmt} {ps:List Str} {my:List V} {f T:Addr} {oc O0:Value} {od an od':Option Addr} {osl G4:Array (Option Value)} {kV doc pm cdv ct:Value} {its:Array Value} {n d:Nat}
  (hl:d<=ps.length) (hb:qF x st ps d (ps.length - d)) (hb2:qF x st ps d ps.length)
  (a:PySem.W.nsIn K mainGlobals x=some (some (.ref f))) (l:K.lookup f=some ⟨oc,od,.func (PySem.W.fnOf x x (e7 st) (dG st) (av st) (.ref T) kV doc pm an cdv ct),osl⟩)
  (lT:K.lookup T=some ⟨O0,od',.seq its n,G4⟩) (ei:its.toList.length=d) (hv:Vals my its.toList)
  (c:PySem.W.codeIn K cdv x=true) (k:PySem.W.keepIn K (.ref f)=true):∃ f fd,mQ K mg x st ps my f fd:=by
 have key:∀ m (s:Shared) (us:List Value),qF x st ps d m->K.In s.heap->us.length=m->BindsTo s (PySem.W.fnOf x x (e7 st) (dG st) (av st) (.ref T) kV doc pm an cdv ct) ⟨us,[]⟩ (ps.zip (us ++ its.toList.drop (m + d - ps.length))):=fun m s us h KX hu=>by
  obtain ⟨kk,h1,h2⟩:=h T kV doc pm an cdv ct us its.toList hu ei
  exact BindsTo.of_defaults rfl (KX _ _ lT) rfl h1 (by rw [Array.toArray_toList] at h2;exact h2)
 refine ⟨f,_,⟨⟨oc,od,.ref T,kV,doc,pm,an,cdv,ct,osl,rfl,l,c⟩,k⟩,fun s us KX hu=>?_,⟨its.toList,hv,fun s us KX hu=>?_⟩,PySem.W.mg_of X G a⟩
 ·rw [VG] at hu ⊢
  have:=key ps.length s us hb2 KX hu
  rw [show ps.length + d - ps.length=its.toList.length by omega,List.drop_length,VG] at this
  exact this
 ·rw [UG] at hu
  have:=key (ps.length - d) s us hb KX (by omega)
  rw [show ps.length - d + d - ps.length=0 by omega,Wx] at this
  exact this
section
variable {X:Cx} {CX:oR} {k:Nat} {f:Addr} {fd:FuncData} {ps:List Str} {sp:Sp} {x:Str} {my:List V} {E:XK} {e:Expr} {es:List Expr} {t:TA} {p pos:Pos}
theorem KG (F:aA X.prog X.w X.K X.mg X.base CX k f fd ps sp) (hr:fT k X.A) (hg:Gl X x) (hm:X.mg x=some (.ref f)) (hk:PySem.W.keepIn X.K (.ref f)=true) (hb:∃ ds,Vals my ds/\Binds X.K fd ps ds) (hx:Passes CX X E)
  (ha:PA X (e :: es) t) (hdb:(x == ("__debug__" : Str))=false:=by decide) (he:starEach (e :: es) X.env=(false,eval e X.env) :: starEach es X.env:=by rfl) (hpl:(backTo pos (starEach es X.env)).any (·.1)=false:=by rfl) :
  PE X (.Call (.Name x p) (e :: es) [] pos) (nR sp my E t):=by
 obtain ⟨ds,hd,hb⟩:=hb
 exact F3 F hr hg hm hk hb hd hx ha hdb he hpl
end
end L2
namespace af
def upto (n:Nat):List Int:=(List.range n).map fun (k:Nat)=>(k:Int)
theorem oC (n:Nat):(upto n).length=n:=by simp [upto]
theorem kE {n:Nat} {x:Int}:x∈upto n↔0<=x/\x < (n:Int):=by
 simp only [upto,UH,Vj]
 constructor
 ·rintro ⟨k,hk,rfl⟩;omega
 ·rintro ⟨h1,h2⟩;exact ⟨x.toNat,by omega,by omega⟩
theorem O1 (n:Nat):(upto n).Pairwise (· < ·):=by
 unfold upto
 rw [Wa]
 exact (List.pairwise_lt_range).imp fun h=>by omega
theorem KH (n:Nat):(upto n).Nodup:=(O1 n).imp fun h=>by omega
theorem DR:∀ {xs ys:List Int},xs.Nodup->(∀ x∈xs,x∈ys)->ys.length<=xs.length->xs.Perm ys
 | [],ys,_,_,h=>by
  have:ys=[]:=Wu (by simpa using h)
  subst this;exact Wc _
 | x :: xs,ys,hn,hs,hl=>by
  obtain ⟨h1,h2⟩:=Ve.mp hn
  have hx:x∈ys:=hs x Uy
  have hp:=Wr hx
  have hlen:(ys.erase x).length + 1=ys.length:=by have:=hp.length_eq;simpa using this.symm
  refine List.Perm.trans (List.Perm.cons x (DR (ys:=ys.erase x) h2 (fun y hy=>?_) ?_)) hp.symm
  ·have hne:y≠x:=fun e=>h1 (e ▸ hy)
   exact (VH hne).mpr (hs y (Uz _ hy))
  ·simp at hl;omega
theorem G5 {xs:List Int} (hn:xs.Nodup) (hb:∀ x∈xs,0<=x/\x < (xs.length:Int)):xs.Perm (upto xs.length):=by
 exact DR hn (fun x hx=>kE.mpr (hb x hx)) (by rw [oC];exact Ux _)
end af
namespace af
def app (xs:List Int) (i:Int):Int:=xs.getD i.toNat 0
def bq (xs:List Int) (i:Int):Nat->Int
 | 0=>i
 | j + 1=>app xs (bq xs i j)
def Tn (n:Nat) (xs:List Int):Prop:=xs.Perm (upto n)
theorem Tn.length {n:Nat} {xs:List Int} (h:Tn n xs):xs.length=n:=by rw [h.length_eq,oC]
theorem Tn.nodup {n:Nat} {xs:List Int} (h:Tn n xs):xs.Nodup:=h.nodup_iff.mpr (KH n)
theorem Tn.bound {n:Nat} {xs:List Int} (h:Tn n xs) {x:Int} (hx:x∈xs):0<=x/\x < (n:Int):=kE.mp (h.subset hx)
theorem nU {xs:List Int} {i:Int} (h0:0<=i) (h1:i < (xs.length:Int)):xs[i.toNat]?=some (app xs i):=by
 have:i.toNat < xs.length:=by omega
 unfold app
 rw [UA,Uv this];rfl
theorem O2 {xs:List Int} {i:Int} (h0:0<=i) (h1:i < (xs.length:Int)):app xs i∈xs:=UJ (nU h0 h1)
theorem Tn.app {n:Nat} {xs:List Int} (h:Tn n xs) {i:Int} (h0:0<=i) (h1:i < (n:Int)):0<=app xs i/\app xs i < (n:Int):=h.bound (O2 h0 (by rw [h.length];exact h1))
theorem Tn.inj {n:Nat} {xs:List Int} (h:Tn n xs) {i j:Int} (i0:0<=i) (i1:i < (n:Int)) (j0:0<=j) (j1:j < (n:Int)) (e:af.app xs i=af.app xs j):i=j:=by
 have hl:=h.length
 have a:=nU i0 (by rw [hl];exact i1)
 have b:=nU j0 (by rw [hl];exact j1)
 rw [e] at a
 obtain ⟨ha,ea⟩:=Uw.mp a
 obtain ⟨hb,eb⟩:=Uw.mp b
 have:=(WH h.nodup).mp (ea.trans eb.symm)
 omega
theorem Tn.bq {n:Nat} {xs:List Int} (h:Tn n xs) {i:Int} (h0:0<=i) (h1:i < (n:Int)):∀ j,0<=bq xs i j/\bq xs i j < (n:Int)
 | 0=>⟨h0,h1⟩
 | j + 1=>h.app (h.bq h0 h1 j).1 (h.bq h0 h1 j).2
theorem Tn.back {n:Nat} {xs:List Int} (h:Tn n xs) {i:Int} (h0:0<=i) (h1:i < (n:Int)):∀ (a d:Nat),af.bq xs i a=af.bq xs i (a + d)->af.bq xs i d=i
 | 0,d,e=>by rw [Wd] at e;exact e.symm
 | a + 1,d,e=>by
  have e':af.app xs (af.bq xs i a)=af.app xs (af.bq xs i (a + d)):=by
   have:a + 1 + d=(a + d) + 1:=by omega
   rw [this] at e
   exact e
  exact h.back h0 h1 a d (h.inj (h.bq h0 h1 a).1 (h.bq h0 h1 a).2 (h.bq h0 h1 _).1 (h.bq h0 h1 _).2 e')
theorem yI:∀ {xs ys:List Int},xs.Nodup->(∀ x∈xs,x∈ys)->xs.length<=ys.length
 | [],_,_,_=>U8 _
 | x :: xs,ys,hn,hs=>by
  obtain ⟨h1,h2⟩:=Ve.mp hn
  have hx:x∈ys:=hs x Uy
  have hp:=Wr hx
  have hlen:(ys.erase x).length + 1=ys.length:=by have:=hp.length_eq;simpa using this.symm
  have:=yI (ys:=ys.erase x) h2 fun y hy=>(VH (a:=y) (b:=x) (fun e=>h1 (by rw [<- e];exact hy))).mpr (hs y (Uz _ hy))
  simp only [U1]
  omega
def row (xs:List Int) (i:Int) (m:Nat):List Int:=(List.range (m + 1)).map (bq xs i)
theorem KI (xs:List Int) (i:Int) (m:Nat):row xs i (m + 1)=row xs i m ++ [bq xs i (m + 1)]:=by
 unfold row;rw [List.range_succ,US];rfl
theorem rF (xs:List Int) (i:Int) (m:Nat):(row xs i m).length=m + 1:=by simp [row]
theorem DS {xs:List Int} {i:Int} {m:Nat} {x:Int}:x∈row xs i m↔∃ j,j<=m/\bq xs i j=x:=by
 unfold row
 rw [UH]
 constructor
 ·rintro ⟨j,hj,e⟩;exact ⟨j,by have:=Vj.mp hj;omega,e⟩
 ·rintro ⟨j,hj,e⟩;exact ⟨j,Vj.mpr (by omega),e⟩
def NB (xs:List Int) (i:Int) (m:Nat):Prop:=∀ j,1<=j->j<=m->bq xs i j≠i
theorem Tn.jT {n:Nat} {xs:List Int} (h:Tn n xs) {i:Int} (h0:0<=i) (h1:i < (n:Int)) {m:Nat} (nb:NB xs i m):m + 1<=n:=by
 have hn:(row xs i m).Nodup:=by
  unfold row List.Nodup
  rw [Wa]
  refine Wi (R:=fun a b=>a < b) ?_ List.pairwise_lt_range
  intro a b ha hb hab e
  have ha':=Vj.mp ha
  have hb':=Vj.mp hb
  obtain ⟨d,rfl⟩:∃ d,b=a + d:=⟨b - a,by omega⟩
  exact nb d (by omega) (by omega) (h.back h0 h1 a d e)
 have:=yI hn (ys:=upto n) fun x hx=>by
  obtain ⟨j,_,rfl⟩:=DS.mp hx
  exact kE.mpr (h.bq h0 h1 j)
 rw [rF,oC] at this
 exact this
structure g8 (xs:List Int) (i:Int) (r:List Int):Prop where
 ex:∃ m,r=row xs i m/\NB xs i m/\bq xs i (m + 1)=i
theorem g8.mem {xs:List Int} {i:Int} {r:List Int} (a:g8 xs i r):i∈r:=by
 obtain ⟨m,e1,_,_⟩:=a.ex
 rw [e1];exact DS.mpr ⟨0,U8 _,rfl⟩
theorem g8.len {n:Nat} {xs:List Int} (h:Tn n xs) {i:Int} (h0:0<=i) (h1:i < (n:Int)) {r:List Int} (a:g8 xs i r):r.length<=n:=by
 obtain ⟨m,e1,nb,_⟩:=a.ex
 rw [e1,rF];exact h.jT h0 h1 nb
theorem g8.bound {n:Nat} {xs:List Int} (h:Tn n xs) {i:Int} (h0:0<=i) (h1:i < (n:Int)) {r:List Int} (a:g8 xs i r):∀ x∈r,0<=x/\x < (n:Int):=by
 obtain ⟨m,e1,nb,_⟩:=a.ex
 subst e1
 intro x hx
 obtain ⟨j,_,rfl⟩:=DS.mp hx
 exact h.bq h0 h1 j
def out (left r:List Int):List Int:=left.filter fun k=>!r.contains k
inductive ug (xs:List Int):List Int->List (List Int)->Prop
 | nil:ug xs [] []
 | cons {i:Int} {left r:List Int} {rs:List (List Int)}:g8 xs i r->ug xs (out (i :: left) r) rs->ug xs (i :: left) (r :: rs)
def from' (n k:Nat) (seen:Int->Bool):List Int:=(((List.range n).drop k).map fun (j:Nat)=>(j:Int)).filter fun x=>!seen x
theorem O3 (n:Nat) (seen:Int->Bool):from' n n seen=[]:=by
 unfold from';rw [Wn (by simp)];rfl
theorem O4 {n k:Nat} (h:k < n) (seen:Int->Bool):from' n k seen=if seen (k:Int) then from' n (k + 1) seen else (k:Int) :: from' n (k + 1) seen:=by
 unfold from'
 rw [VX (by simpa using h),UT,List.filter_cons]
 simp only [Wy]
 cases hs:seen (k:Int) <;> simp
theorem O5 {n k:Nat} {seen:Int->Bool} {r:List Int}:out (from' n k seen) r=from' n k (fun x=>seen x || r.contains x):=by
 unfold out from'
 rw [List.filter_filter]
 congr 1
 funext x
 show (!r.contains x && !seen x)=!(seen x || r.contains x)
 cases seen x <;> cases r.contains x <;> rfl
theorem O6 (n:Nat):from' n 0 (fun _=>false)=upto n:=by
 unfold from' upto
 rw [Wx]
 simp
def o6 (n:Nat):List Int:=((List.range (n - 1)).map fun (k:Nat)=>(1:Int) + k) ++ [0]
theorem O7:∀ n,n < 21->0 < n->(o6 n).isPerm (upto n)=true:=by decide
theorem KJ {n:Nat} (h:n < 21) (h0:0 < n):Tn n (o6 n):=List.isPerm_iff.mp (O7 n h h0)
end af
namespace af
theorem AO {n:Nat} {xs:List Int} (h:xs.length=n):(upto n).map (app xs)=xs:=by
 apply WO
 ·rw [Uu,oC,h]
 ·intro i h1 h2
  have e:=nU (xs:=xs) (i:=(i:Int)) (by omega) (by omega)
  simp only [UK] at e
  rw [Uv h2] at e
  rw [VP]
  unfold upto
  simp only [VP,Wy]
  exact (UD e).symm
def inv (xs:List Int):List Int:=(upto xs.length).map fun i=>(xs.idxOf i:Int)
theorem yJ (xs:List Int):(inv xs).length=xs.length:=by unfold inv;rw [Uu,oC]
theorem DT {n i:Nat} (h:i < n):(upto n)[i]?=some (i:Int):=by
 unfold upto;rw [UB,VA h];rfl
theorem DV {xs:List Int} {i:Int} (h0:0<=i) (h1:i < (xs.length:Int)):app (inv xs) i=(xs.idxOf i:Int):=by
 have e:=nU (xs:=inv xs) h0 (by rw [yJ];exact h1)
 unfold inv at e
 rw [UB,DT (by omega)] at e
 have:=UD e
 rw [<- inv] at this
 rw [<- this,U0 h0]
theorem Tn.mem {n:Nat} {xs:List Int} (h:Tn n xs) {i:Int} (h0:0<=i) (h1:i < (n:Int)):i∈xs:=h.symm.subset (kE.mpr ⟨h0,h1⟩)
theorem Tn.idx {n:Nat} {xs:List Int} (h:Tn n xs) {i:Int} (h0:0<=i) (h1:i < (n:Int)):xs.idxOf i < n:=by rw [<- h.length];exact Wf (h.mem h0 h1)
theorem Tn.cX {n:Nat} {xs:List Int} (h:Tn n xs) {i:Int} (h0:0<=i) (h1:i < (n:Int)):af.app xs (af.app (inv xs) i)=i:=by
 rw [DV h0 (by rw [h.length];exact h1)]
 have hl:=h.idx h0 h1
 have e:=nU (xs:=xs) (i:=(xs.idxOf i:Int)) (by omega) (by rw [h.length];omega)
 rw [UK,Uv (by rw [h.length];exact hl)] at e
 rw [<- UD e]
 exact Wz _
theorem Tn.kZ {n:Nat} {xs:List Int} (h:Tn n xs) {i:Int} (h0:0<=i) (h1:i < (n:Int)):0<=af.app (inv xs) i/\af.app (inv xs) i < (n:Int):=by
 rw [DV h0 (by rw [h.length];exact h1)]
 have:=h.idx h0 h1
 omega
theorem Tn.fI {n:Nat} {xs:List Int} (h:Tn n xs) {i:Int} (h0:0<=i) (h1:i < (n:Int)):af.app (inv xs) (af.app xs i)=i:=by
 obtain ⟨a0,a1⟩:=h.app h0 h1
 obtain ⟨b0,b1⟩:=h.kZ a0 a1
 exact h.inj b0 b1 h0 h1 (h.cX a0 a1)
theorem Tn.ax {n:Nat} {xs:List Int} (h:Tn n xs):Tn n (inv xs):=by
 have hl:=h.length
 unfold Tn
 have e:(inv xs).length=n:=by rw [yJ,hl]
 have:=G5 (xs:=inv xs) ?_ ?_
 ·rw [e] at this;exact this
 ·unfold List.Nodup
  rw [Vp]
  intro i j hi hj hij z
  have a:=nU (xs:=inv xs) (i:=(i:Int)) (by omega) (by omega)
  have b:=nU (xs:=inv xs) (i:=(j:Int)) (by omega) (by omega)
  rw [UK,Uv hi] at a
  rw [UK,Uv hj] at b
  have a:=UD a
  have b:=UD b
  have c:=h.cX (i:=(i:Int)) (by omega) (by omega)
  have d:=h.cX (i:=(j:Int)) (by omega) (by omega)
  rw [<- a] at c
  rw [<- b,<- z] at d
  have:=c.symm.trans d
  omega
 ·intro x hx
  unfold inv at hx
  obtain ⟨i,hi,rfl⟩:=UH.mp hx
  have:=kE.mp hi
  rw [hl] at this
  have:=h.idx this.1 this.2
  rw [e];omega
theorem rG (xs:List Int) (i:Int) (j:Nat):∀ d,bq xs (bq xs i j) d=bq xs i (j + d)
 | 0=>rfl
 | d + 1=>by show app xs (bq xs (bq xs i j) d)=app xs (bq xs i (j + d));rw [rG xs i j d]
theorem KL {xs:List Int} {i:Int} {L:Nat} (h:bq xs i L=i) (a:Nat):bq xs i (a + L)=bq xs i a:=by
 rw [Nat.add_comm,<- rG xs i L a,h]
theorem AQ {xs:List Int} {i:Int} {L:Nat} (h:bq xs i L=i):∀ (q r:Nat),bq xs i (r + L * q)=bq xs i r
 | 0,r=>rfl
 | q + 1,r=>by rw [Nat.mul_succ,<- Nat.add_assoc,KL h];exact AQ h q r
theorem KN {xs:List Int} {i:Int} {L:Nat} (h:bq xs i L=i) (a:Nat):bq xs i (a % L)=bq xs i a:=by
 have:=AQ h (a / L) (a % L)
 rw [Nat.mod_add_div] at this
 exact this.symm
def KO (xs:List Int) (k i v:Int):Prop:=∃ m,NB xs i m/\bq xs i (m + 1)=i/\v=bq xs i (k % ((m + 1:Nat):Int)).toNat
theorem Tn.vU {n:Nat} {xs:List Int} (h:Tn n xs) {i:Int} (h0:0<=i) (h1:i < (n:Int)) {m:Nat} (nb:NB xs i m) (bk:af.bq xs i (m + 1)=i) (j:Nat) (k:Int) :
  KO xs k (af.bq xs i j) (af.bq xs i (((j:Int) + k) % ((m + 1:Nat):Int)).toNat):=by
 refine ⟨m,fun d d1 d2 e=>?_,?_,?_⟩
 ·rw [rG] at e
  exact nb d d1 d2 (h.back h0 h1 j d e.symm)
 ·rw [rG,KL bk]
 ·rw [rG]
  rw [<- KN bk (j + (k % ((m + 1:Nat):Int)).toNat)]
  congr 1
  have hL:(0:Int) < ((m + 1:Nat):Int):=by omega
  have k0:=Vy k (Int.ne_of_gt hL)
  have e:(((j + (k % ((m + 1:Nat):Int)).toNat) % (m + 1):Nat):Int)=((j:Int) + k) % ((m + 1:Nat):Int):=by
   rw [Int.natCast_emod,Int.natCast_add,U0 k0,Int.add_emod_emod]
  rw [<- e,UK]
theorem ug.all {xs:List Int}:∀ {left:List Int} {rs:List (List Int)},ug xs left rs->(∀ r∈rs,∃ i∈left,g8 xs i r)/\∀ x∈left,∃ r∈rs,x∈r:=by
 intro left rs a
 induction a with
 | nil=>exact ⟨fun r hr=>(nomatch hr),fun x hx=>(nomatch hx)⟩
 | cons h1 _ ih =>
  refine ⟨fun r hr=>?_,fun x hx=>?_⟩
  ·rcases UU.mp hr with rfl | hr
   ·exact ⟨_,Uy,h1⟩
   ·obtain ⟨i,hi,r'⟩:=ih.1 r hr
    exact ⟨i,(VT.mp hi).1,r'⟩
  ·rename_i i left r rs _
   by_cases hc:x∈r
   ·exact ⟨r,Uy,hc⟩
   ·obtain ⟨r',hr',hx'⟩:=ih.2 x (VT.mpr ⟨hx,by simp [hc]⟩)
    exact ⟨r',Uz _ hr',hx'⟩
theorem O8 {n:Nat} {xs:List Int} (h:Tn n xs):xs.map (app (inv xs))=upto n:=by
 have e:((upto n).map (app xs)).map (app (inv xs))=upto n:=by
  rw [UW]
  conv=>rhs;rw [<- V8 (upto n)]
  apply Vd
  intro x hx
  obtain ⟨a,b⟩:=kE.mp hx
  exact h.fI a b
 rw [AO h.length] at e
 exact e
theorem O9 {n:Nat} {xs:List Int} (h:Tn n xs):(inv xs).map (app xs)=upto n:=by
 have e:((upto n).map (app (inv xs))).map (app xs)=upto n:=by
  rw [UW]
  conv=>rhs;rw [<- V8 (upto n)]
  apply Vd
  intro x hx
  obtain ⟨a,b⟩:=kE.mp hx
  exact h.cX a b
 rw [AO (h.ax).length] at e
 exact e
end af
namespace af
inductive iS (xs ys:List Int):Int->Prop
 | zero:iS xs ys 0
 | r {x:Int}:iS xs ys x->iS xs ys (app xs x)
 | u {x:Int}:iS xs ys x->iS xs ys (app ys x)
theorem iS.bound {n:Nat} {xs ys:List Int} (hx:Tn n xs) (hy:Tn n ys) (h0:0 < n) {x:Int} (h:iS xs ys x):0<=x/\x < (n:Int):=by
 induction h with
 | zero=>omega
 | r _ ih=>exact hx.app ih.1 ih.2
 | u _ ih=>exact hy.app ih.1 ih.2
theorem iS.bq {xs ys:List Int} {x:Int} (h:iS xs ys x):∀ k,iS xs ys (af.bq xs x k)
 | 0=>h
 | k + 1=>.r (h.bq k)
def l9 (xs:List Int) (m:Nat):List Int:=(xs.set 0 (app xs m)).set m (app xs 0)
theorem Pa (xs:List Int) (m:Nat):(l9 xs m).length=xs.length:=by simp [l9]
theorem G6 {xs:List Int} {m:Nat} {v x:Int} (hm:m < xs.length) (h0:0<=x):app (xs.set m v) x=if x=(m:Int) then v else app xs x:=by
 unfold app
 rw [UA,UA]
 by_cases hx:x=(m:Int)
 ·rw [if_pos hx,hx,UK,UL hm];rfl
 ·rw [if_neg hx,UX (by omega)]
theorem yK {xs:List Int} {m:Nat} (hm:m < xs.length) {x:Int} (h0:0<=x):app (l9 xs m) x=if x=(m:Int) then app xs 0 else if x=0 then app xs m else app xs x:=by
 unfold l9
 rw [G6 (by simpa using hm) h0,G6 (by omega) h0]
 rfl
theorem vV {n:Nat} {xs:List Int} (h:Tn n xs) {m:Nat} (hm:m < n):Tn n (l9 xs m):=by
 have hl:=h.length
 have e:(l9 xs m).length=n:=by rw [Pa,hl]
 have:=G5 (xs:=l9 xs m) ?_ ?_
 ·unfold Tn;rw [e] at this;exact this
 ·unfold List.Nodup
  rw [Vp]
  intro i j hi hj hij z
  have a:=nU (xs:=l9 xs m) (i:=(i:Int)) (by omega) (by omega)
  have b:=nU (xs:=l9 xs m) (i:=(j:Int)) (by omega) (by omega)
  rw [UK,Uv hi] at a
  rw [UK,Uv hj] at b
  have a:=UD a
  have b:=UD b
  rw [yK (by omega) (by omega)] at a b
  rw [a,b] at z
  have inj:∀ p q:Int,0<=p->p < (n:Int)->0<=q->q < (n:Int)->app xs p=app xs q->p=q:=fun p q p0 p1 q0 q1=>h.inj p0 p1 q0 q1
  split at z <;> split at z <;> (try split at z) <;> (try split at z) <;> (first | omega | (have:=inj _ _ (by omega) (by omega) (by omega) (by omega) z;omega))
 ·intro x hx
  obtain ⟨i,hi,rfl⟩:=VM hx
  have a:=nU (xs:=l9 xs m) (i:=(i:Int)) (by omega) (by omega)
  rw [UK,Uv hi] at a
  rw [UD a,yK (by omega) (by omega),e]
  split
  ·exact h.app (by omega) (by omega)
  ·split
   ·exact h.app (by omega) (by omega)
   ·exact h.app (by omega) (by omega)
theorem Tn.sv {n:Nat} {xs:List Int} (h:Tn n xs) {i:Int} (h0:0<=i) (h1:i < (n:Int)):∃ m,NB xs i m/\af.bq xs i (m + 1)=i:=by
 by_cases hb:∃ m,m < n/\af.bq xs i (m + 1)=i
 ·-- the least
  have key:∀ b:Nat,(∃ m,m < b/\af.bq xs i (m + 1)=i)->∃ m,NB xs i m/\af.bq xs i (m + 1)=i:=by
   intro b
   induction b with
   | zero=>rintro ⟨m,hm,_⟩;omega
   | succ b ih =>
    rintro ⟨m,hm,e⟩
    by_cases hc:∃ m,m < b/\af.bq xs i (m + 1)=i
    ·exact ih hc
    ·refine ⟨m,fun j j1 j2 z=>hc ⟨j - 1,by omega,?_⟩,e⟩
     have:j - 1 + 1=j:=by omega
     rw [this];exact z
  exact key n hb
 ·have nb:NB xs i n:=fun j j1 j2 z=>by
   refine hb ⟨j - 1,by omega,?_⟩
   have:j - 1 + 1=j:=by omega
   rw [this];exact z
  have:=h.jT h0 h1 nb
  omega
theorem Pb {n:Nat} {xs ys:List Int} (hx:Tn n xs) (hy:Tn n ys) {m:Nat} (hm:m < n) (nm:¬ iS xs ys (m:Int)):iS (l9 xs m) ys (m:Int)/\∀ x,iS xs ys x->iS (l9 xs m) ys x:=by
 have hl:=hx.length
 have m0:m≠0:=fun z=>nm (by rw [z];exact .zero)
 obtain ⟨M,nb,bk⟩:=hx.sv (i:=(m:Int)) (by omega) (by omega)
 have Pc:∀ j,af.bq xs (m:Int) j≠0:=by
  intro j z
  have h':iS xs ys (af.bq xs (af.bq xs (m:Int) j) ((M + 1) * j)):=by rw [z];exact iS.zero.bq _
  rw [rG] at h'
  have e2:af.bq xs (m:Int) ((M + 1) * (j + 1))=(m:Int):=by
   have:=AQ bk (j + 1) 0
   rw [Wd] at this
   exact this
  have h3:=h'.bq ((M + 1) * (j + 1) - (j + (M + 1) * j))
  rw [rG] at h3
  have e3:j + (M + 1) * j + ((M + 1) * (j + 1) - (j + (M + 1) * j))=if j + (M + 1) * j<=(M + 1) * (j + 1) then (M + 1) * (j + 1) else j + (M + 1) * j:=by split <;> omega
  rw [e3] at h3
  by_cases hc:j + (M + 1) * j<=(M + 1) * (j + 1)
  ·rw [if_pos hc,e2] at h3
   exact nm h3
  ·-- round as often as needed
   have h4:=h'.bq ((M + 1) * (2 * j + 2) - (j + (M + 1) * j))
   rw [rG] at h4
   have hbig:j + (M + 1) * j<=(M + 1) * (2 * j + 2):=by
    have a1:(M + 1) * (2 * j + 2)=(M + 1) * j + ((M + 1) * j + (M + 1) * 2):=by rw [<- Nat.mul_add,<- Nat.mul_add];congr 1;omega
    have a2:j<=(M + 1) * j:=Nat.le_mul_of_pos_left j (by omega)
    omega
   have e5:j + (M + 1) * j + ((M + 1) * (2 * j + 2) - (j + (M + 1) * j))=(M + 1) * (2 * j + 2):=by omega
   rw [e5] at h4
   have:=AQ bk (2 * j + 2) 0
   rw [Wd] at this
   rw [this] at h4
   exact nm h4
 have ring:∀ j,j<=M->iS (l9 xs m) ys (af.bq xs (m:Int) (j + 1)):=by
  intro j
  induction j with
  | zero =>
   intro _
   have h1:iS (l9 xs m) ys (af.app (l9 xs m) 0):=.r .zero
   rw [yK (by omega) (by omega),if_neg (by omega),if_pos rfl] at h1
   exact h1
  | succ j ih =>
   intro hj
   have h1:=(ih (by omega)).r
   have b:=hx.bq (i:=(m:Int)) (by omega) (by omega) (j + 1)
   rw [yK (by omega) b.1,if_neg (nb (j + 1) (by omega) (by omega)),if_neg (Pc (j + 1))] at h1
   exact h1
 have KP:iS (l9 xs m) ys (m:Int):=by have:=ring M (Ux _);rwa [bk] at this
 refine ⟨KP,fun x h=>?_⟩
 have hpos:0 < n:=by omega
 induction h with
 | zero=>exact .zero
 | r hx' ih =>
  rename_i x
  have b:=hx'.bound hx hy hpos
  by_cases h0:x=0
  ·have h1:=KP.r
   rw [yK (by omega) (by omega),if_pos rfl] at h1
   rw [h0];exact h1
  ·have Pd:x≠(m:Int):=fun z=>nm (by rw [<- z];exact hx')
   have h1:=ih.r
   rw [yK (by omega) b.1,if_neg Pd,if_neg h0] at h1
   exact h1
 | u _ ih=>exact ih.u
def Cl (xs ys F:List Int):Prop:=∀ x∈F,app xs x∈F/\app ys x∈F
theorem Cl.all {xs ys F:List Int} (h:Cl xs ys F) (h0:(0:Int)∈F) {x:Int} (r:iS xs ys x):x∈F:=by
 induction r with
 | zero=>exact h0
 | r _ ih=>exact (h _ ih).1
 | u _ ih=>exact (h _ ih).2
structure Fd (xs ys:List Int) (F:List Int):Prop where
 z:(0:Int)∈F
 nd:F.Nodup
 mt:∀ x∈F,iS xs ys x
theorem Fd.len {n:Nat} {xs ys F:List Int} (h:Fd xs ys F) (hx:Tn n xs) (hy:Tn n ys) (h0:0 < n):F.length<=n:=by
 have:=yI h.nd (ys:=upto n) fun x hx'=>kE.mpr ((h.mt x hx').bound hx hy h0)
 rw [oC] at this
 exact this
theorem Fd.one (xs ys:List Int):Fd xs ys [0]:=⟨by simp,by simp,fun x hx=>(show x=0 by simpa using hx) ▸ .zero⟩
theorem round {xs ys F F1 F2:List Int} (d:Fd xs ys F) (d2:Fd xs ys F2) (p1:F <+: F1) (p2:F1 <+: F2) (c1:∀ x∈F,app xs x∈F1) (c2:∀ x∈F1,app ys x∈F2) {t:Nat} (h:Cl xs ys F\/t + 1<=F.length):Cl xs ys F2\/t + 1 + 1<=F2.length:=by
 have p:=p1.trans p2
 by_cases hc:Cl xs ys F
 ·refine .inl fun x hx=>?_
  have hF:=hc.all d.z (d2.mt x hx)
  exact ⟨p.subset (hc x hF).1,p.subset (hc x hF).2⟩
 ·have hl:=h.resolve_left hc
  by_cases he:F2.length<=F.length
  ·refine absurd ?_ hc
   have e2:F2=F:=(p.eq_of_length (by have:=p.length_le;omega)).symm
   have e1:F1=F:=by
    have a:=p1.length_le
    have b:=p2.length_le
    exact (p1.eq_of_length (by omega)).symm
   intro x hx
   refine ⟨?_,?_⟩
   ·have:=c1 x hx;rwa [e1] at this
   ·have:=c2 x (by rw [e1];exact hx);rwa [e2] at this
  ·exact .inr (by omega)
def qG (w n:Nat):List Int:=((List.range (w - 1)).map fun (k:Nat)=>(1:Int) + k) ++ [0] ++ ((List.range (n - w)).map fun (k:Nat)=>(w:Int) + k)
def sx (w n:Nat):List Int:=[(w:Int)] ++ ((List.range (w - 1)).map fun (k:Nat)=>(1:Int) + k) ++ ((List.range (n - (w + 1))).map fun (k:Nat)=>((w:Int) + 1) + k) ++ [0]
theorem Pe:∀ n,n < 21->∀ w,w < n + 1->0 < w->(qG w n).isPerm (upto n)=true:=by decide +kernel
theorem Pf:∀ n,n < 21->∀ w,w < n->0 < w->(sx w n).isPerm (upto n)=true:=by decide +kernel
theorem Pg {w n:Nat} (h:n < 21) (h1:w<=n) (h0:0 < w):Tn n (qG w n):=List.isPerm_iff.mp (Pe n h w (by omega) h0)
theorem Ph {w n:Nat} (h:n < 21) (h1:w < n) (h0:0 < w):Tn n (sx w n):=List.isPerm_iff.mp (Pf n h w h1 h0)
theorem less {L L':List Int} {m:Int} (nd:L'.Nodup) (hs:∀ x∈L',x∈L) (hm:m∈L) (hm':m ∉ L'):L'.length < L.length:=by
 have hp:=Wr hm
 have hlen:(L.erase m).length + 1=L.length:=by have:=hp.length_eq;simpa using this.symm
 have:=yI (ys:=L.erase m) nd fun x hx=>(VH (fun e=>hm' (by rw [<- e];exact hx))).mpr (hs x hx)
 omega
end af
namespace af
def aK (xs ys:List Int):List Int:=xs.map (app ys)
theorem yL (xs ys:List Int):(aK xs ys).length=xs.length:=by simp [aK]
theorem o7 {n:Nat} {xs ys:List Int} (hx:xs.length=n) (hy:ys.length=n) (h:∀ s:Int,0<=s->s < (n:Int)->app xs s=app ys s):xs=ys:=by
 rw [<- AO hx,<- AO hy]
 apply Vd
 intro s hs
 obtain ⟨h0,h1⟩:=kE.mp hs
 exact h s h0 h1
theorem nF {xs ys:List Int} {s:Int} (h0:0<=s) (h1:s < (xs.length:Int)):app (aK xs ys) s=app ys (app xs s):=by
 have e:=nU (xs:=aK xs ys) h0 (by rw [yL];exact h1)
 unfold aK at e
 rw [UB,nU h0 h1] at e
 exact (UD e).symm
theorem Tn.qH {n:Nat} {xs:List Int} (hl:xs.length=n) (hb:∀ s:Int,0<=s->s < (n:Int)->0<=af.app xs s/\af.app xs s < (n:Int)) (hi:∀ s t:Int,0<=s->s < (n:Int)->0<=t->t < (n:Int)->af.app xs s=af.app xs t->s=t):Tn n xs:=by
 have el:∀ (i:Nat) (h:i < xs.length),xs[i]=af.app xs (i:Int):=fun i h=>by
  have a:=nU (xs:=xs) (i:=(i:Int)) (by omega) (by omega)
  rw [UK,Uv h] at a
  exact UD a
 have:=G5 (xs:=xs) ?_ ?_
 ·unfold Tn;rw [hl] at this;exact this
 ·unfold List.Nodup
  rw [Vp]
  intro i j h1 h2 hij z
  rw [el i h1,el j h2] at z
  have:=hi i j (by omega) (by omega) (by omega) (by omega) z
  omega
 ·intro x hx
  obtain ⟨i,h,rfl⟩:=VM hx
  rw [el i h,hl]
  exact hb i (by omega) (by omega)
theorem Tn.aK {n:Nat} {xs ys:List Int} (hx:Tn n xs) (hy:Tn n ys):Tn n (aK xs ys):=by
 have hl:=hx.length
 refine Tn.qH (by rw [yL];exact hl) (fun s h0 h1=>?_) fun s t s0 s1 t0 t1 e=>?_
 ·rw [nF h0 (by omega)]
  obtain ⟨a,b⟩:=hx.app h0 h1
  exact hy.app a b
 ·rw [nF s0 (by omega),nF t0 (by omega)] at e
  obtain ⟨a,b⟩:=hx.app s0 s1
  obtain ⟨c,d⟩:=hx.app t0 t1
  exact hx.inj s0 s1 t0 t1 (hy.inj a b c d e)
theorem Tn.sy {n:Nat} {xs ys:List Int} (hx:Tn n xs) (hy:Tn n ys) {s:Int} (h0:0<=s) (h1:s < (n:Int)):af.app (inv (af.aK xs ys)) s=af.app (inv xs) (af.app (inv ys) s):=by
 have hf:=hx.aK hy
 obtain ⟨a0,a1⟩:=hy.kZ h0 h1
 obtain ⟨b0,b1⟩:=hx.kZ a0 a1
 obtain ⟨c0,c1⟩:=hf.kZ h0 h1
 refine hf.inj c0 c1 b0 b1 ?_
 rw [hf.cX h0 h1,nF b0 (by rw [hx.length];exact b1),hx.cX a0 a1,hy.cX h0 h1]
def anew (xs p:List Int):List Int:=aK (aK (inv p) xs) p
theorem Tn.anew {n:Nat} {xs p:List Int} (hx:Tn n xs) (hp:Tn n p):Tn n (anew xs p):=(hp.ax.aK hx).aK hp
theorem Tn.gK {n:Nat} {xs p:List Int} (hx:Tn n xs) (hp:Tn n p) {s:Int} (h0:0<=s) (h1:s < (n:Int)):af.app (af.anew xs p) s=af.app p (af.app xs (af.app (inv p) s)):=by
 have hl:=hp.ax.length
 unfold af.anew
 rw [nF h0 (by rw [yL,hl];exact h1),nF h0 (by rw [hl];exact h1)]
theorem Tn.jm {n:Nat} {xs p:List Int} (hx:Tn n xs) (hp:Tn n p) {s:Int} (h0:0<=s) (h1:s < (n:Int)):af.app (af.anew xs p) (af.app p s)=af.app p (af.app xs s):=by
 obtain ⟨a,b⟩:=hp.app h0 h1
 rw [hx.gK hp a b,hp.fI h0 h1]
theorem Tn.jn {n:Nat} {xs p q:List Int} (hx:Tn n xs) (hp:Tn n p) (hq:Tn n q):af.anew (af.anew xs p) q=af.anew xs (af.aK p q):=by
 have hf:=hp.aK hq
 refine o7 (n:=n) ((hx.anew hp).anew hq).length (hx.anew hf).length fun s h0 h1=>?_
 obtain ⟨a0,a1⟩:=hq.kZ h0 h1
 obtain ⟨b0,b1⟩:=hp.kZ a0 a1
 obtain ⟨c0,c1⟩:=hx.app b0 b1
 rw [(hx.anew hp).gK hq h0 h1,hx.gK hp a0 a1,hx.gK hf h0 h1,hp.sy hq h0 h1,nF c0 (by rw [hp.length];exact c1)]
theorem Tn.kF {n:Nat} {xs p:List Int} (hx:Tn n xs) (hp:Tn n p):af.anew (af.anew xs p) (inv p)=xs:=by
 refine o7 (n:=n) ((hx.anew hp).anew hp.ax).length hx.length fun s h0 h1=>?_
 obtain ⟨a0,a1⟩:=hp.ax.kZ h0 h1
 have e:af.app (inv (inv p)) s=af.app p s:=by
  obtain ⟨b0,b1⟩:=hp.app h0 h1
  refine hp.ax.inj a0 a1 b0 b1 ?_
  rw [hp.ax.cX h0 h1,hp.fI h0 h1]
 obtain ⟨b0,b1⟩:=hp.app h0 h1
 obtain ⟨c0,c1⟩:=hx.app h0 h1
 rw [(hx.anew hp).gK hp.ax h0 h1,e,hx.jm hp h0 h1,hp.fI c0 c1]
end af
namespace af
def dH (F:List Int) (x:Int):List Int:=if x∈F then F else F ++ [x]
theorem AR (F:List Int) (x:Int):F <+: dH F x:=by
 unfold dH;split
 ·exact Wg _
 ·exact WA _ _
theorem o8 {F:List Int} {x y:Int}:y∈dH F x↔y∈F\/y=x:=by
 unfold dH;split
 ·next h=>exact ⟨.inl,fun z=>z.elim id fun e=>e ▸ h⟩
 ·rw [U5,UP]
theorem KQ {F:List Int} {x:Int} (h:F.Nodup):(dH F x).Nodup:=by
 unfold dH;split
 ·exact h
 ·next hx =>
  rw [Wm]
  exact ⟨h,by simp,fun a ha b hb e=>hx (by rw [UP] at hb;rw [<- hb,<- e];exact ha)⟩
def visit (xs ys F:List Int) (x:Int):List Int:=dH (dH F (app xs x)) (app ys x)
def bf (xs ys:List Int) (s:Int):Nat->List Int
 | 0=>[s]
 | k + 1=>match (bf xs ys s k)[k]? with
  | some x=>visit xs ys (bf xs ys s k) x
  | none=>bf xs ys s k
theorem Pj (xs ys:List Int) (s:Int) (k:Nat):bf xs ys s k <+: bf xs ys s (k + 1):=by
 show _ <+: (match (bf xs ys s k)[k]? with | some x=>visit xs ys (bf xs ys s k) x | none=>bf xs ys s k)
 split
 ·exact (AR _ _).trans (AR _ _)
 ·exact Wg _
theorem vW (xs ys:List Int) (s:Int) (k:Nat):∀ d,bf xs ys s k <+: bf xs ys s (k + d)
 | 0=>Wg _
 | d + 1=>(vW xs ys s k d).trans (Pj xs ys s (k + d))
theorem vX (xs ys:List Int) (s:Int):∀ k,(bf xs ys s k).Nodup
 | 0=>by show [s].Nodup;simp
 | k + 1=>by
  show (match (bf xs ys s k)[k]? with | some x=>visit xs ys (bf xs ys s k) x | none=>bf xs ys s k).Nodup
  split
  ·exact KQ (KQ (vX xs ys s k))
  ·exact vX xs ys s k
theorem G7 {xs ys:List Int} {s:Int} {k:Nat} (h:(bf xs ys s k).length<=k):∀ d,bf xs ys s (k + d)=bf xs ys s k
 | 0=>rfl
 | d + 1=>by
  have e:=G7 h d
  show (match (bf xs ys s (k + d))[k + d]? with | some x=>visit xs ys (bf xs ys s (k + d)) x | none=>bf xs ys s (k + d))=_
  rw [e,Vr (by omega)]
section
variable {n:Nat} {xs ys:List Int} {s:Int}
theorem pM (hx:Tn n xs) (hy:Tn n ys) (s0:0<=s) (s1:s < (n:Int)):∀ k,∀ x∈bf xs ys s k,0<=x/\x < (n:Int)
 | 0,x,h=>by rw [UP.mp (show x∈[s] from h)];exact ⟨s0,s1⟩
 | k + 1,x,h=>by
  have ih:=pM hx hy s0 s1 k
  have h':x∈(match (bf xs ys s k)[k]? with | some y=>visit xs ys (bf xs ys s k) y | none=>bf xs ys s k):=h
  split at h'
  ·next y hy' =>
   obtain ⟨y0,y1⟩:=ih y (UJ hy')
   rcases o8.mp h' with h' | rfl
   ·rcases o8.mp h' with h' | rfl
    ·exact ih x h'
    ·exact hx.app y0 y1
   ·exact hy.app y0 y1
  ·exact ih x h'
theorem G8 (hx:Tn n xs) (hy:Tn n ys) (s0:0<=s) (s1:s < (n:Int)) (k:Nat):(bf xs ys s k).length<=n:=by
 have:=yI (vX xs ys s k) (ys:=upto n) fun x h=>kE.mpr (pM hx hy s0 s1 k x h)
 rw [oC] at this
 exact this
theorem AU {k i:Nat} (hik:i<=k) {x:Int} (h:(bf xs ys s k)[i]?=some x):(bf xs ys s i)[i]?=some x:=by
 obtain ⟨d,rfl⟩:∃ d,k=i + d:=⟨k - i,by omega⟩
 by_cases hl:(bf xs ys s i).length<=i
 ·rw [G7 hl d] at h
  exact h
 ·obtain ⟨t,e⟩:=vW xs ys s i d
  rw [<- e,UM (by omega)] at h
  exact h
theorem G9 (hx:Tn n xs) (hy:Tn n ys) (s0:0<=s) (s1:s < (n:Int)):Cl xs ys (bf xs ys s n):=by
 intro x hm
 obtain ⟨i,hi,e⟩:=VM hm
 have hl:=G8 hx hy s0 s1 n
 have hi':(bf xs ys s i)[i]?=some x:=AU (k:=n) (by omega) (by rw [Uv hi,e])
 have hs:visit xs ys (bf xs ys s i) x <+: bf xs ys s n:=by
  have:=vW xs ys s (i + 1) (n - (i + 1))
  rw [show i + 1 + (n - (i + 1))=n by omega] at this
  have e2:bf xs ys s (i + 1)=visit xs ys (bf xs ys s i) x:=by
   show (match (bf xs ys s i)[i]? with | some x=>visit xs ys (bf xs ys s i) x | none=>bf xs ys s i)=_
   rw [hi']
  rw [<- e2];exact this
 refine ⟨hs.subset ?_,hs.subset ?_⟩
 ·exact o8.mpr (.inl (o8.mpr (.inr rfl)))
 ·exact o8.mpr (.inr rfl)
theorem AV {zs F:List Int} (hz:Tn n zs) (nd:F.Nodup) (hb:∀ x∈F,0<=x/\x < (n:Int)) (hc:∀ x∈F,app zs x∈F) {y:Int} (y0:0<=y) (y1:y < (n:Int)) (h:app zs y∈F):y∈F:=by
 have Pk:(F.map (app zs)).Nodup:=by
  unfold List.Nodup
  rw [Wa]
  refine Wi (fun {a b} ha hb' hab e=>?_) nd
  obtain ⟨a0,a1⟩:=hb a ha
  obtain ⟨b0,b1⟩:=hb b hb'
  exact hab (hz.inj a0 a1 b0 b1 e)
 have pm:(F.map (app zs)).Perm F:=DR Pk (fun x hx=>by obtain ⟨z,hz',rfl⟩:=UH.mp hx;exact hc z hz') (by simp)
 obtain ⟨z,yM,e⟩:=UH.mp (pm.symm.subset h)
 obtain ⟨z0,z1⟩:=hb z yM
 rw [<- hz.inj z0 z1 y0 y1 e];exact yM
theorem KR (hx:Tn n xs) (hy:Tn n ys) (s0:0<=s) (s1:s < (n:Int)) (all:∀ x:Int,0<=x->x < (n:Int)->iS xs ys x) {x:Int} (x0:0<=x) (x1:x < (n:Int)):x∈bf xs ys s n:=by
 have cl:=G9 hx hy s0 s1
 have nd:=vX xs ys s n
 have bd:=pM hx hy s0 s1 n
 have hs:s∈bf xs ys s n:=by
  have:=vW xs ys s 0 n
  rw [Wd] at this
  exact this.subset (show s∈[s] by simp)
 have hpos:0 < n:=by omega
 have zero:∀ y,iS xs ys y->y∈bf xs ys s n->(0:Int)∈bf xs ys s n:=by
  intro y hr
  induction hr with
  | zero=>exact id
  | r h ih =>
   intro hm
   obtain ⟨a,b⟩:=h.bound hx hy hpos
   exact ih (AV hx nd bd (fun x hx'=>(cl x hx').1) a b hm)
  | u h ih =>
   intro hm
   obtain ⟨a,b⟩:=h.bound hx hy hpos
   exact ih (AV hy nd bd (fun x hx'=>(cl x hx').2) a b hm)
 exact cl.all (zero s (all s s0 s1) hs) (all x x0 x1)
theorem Ha (hx:Tn n xs) (hy:Tn n ys) (s0:0<=s) (s1:s < (n:Int)) (all:∀ x:Int,0<=x->x < (n:Int)->iS xs ys x):Tn n (bf xs ys s n) :=
 DR (vX xs ys s n) (fun x h=>kE.mpr (pM hx hy s0 s1 n x h)) (by
  have:=yI (KH n) (ys:=bf xs ys s n) fun x h=>by obtain ⟨a,b⟩:=kE.mp h;exact KR hx hy s0 s1 all a b
  exact this)
theorem KS {p F:List Int} (hp:Tn n p) (hb:∀ x∈F,0<=x/\x < (n:Int)) {x:Int} (x0:0<=x) (x1:x < (n:Int)):dH (F.map (app p)) (app p x)=(dH F x).map (app p):=by
 unfold dH
 have e:app p x∈F.map (app p)↔x∈F:=⟨fun h=>by
  obtain ⟨y,hy,e⟩:=UH.mp h
  obtain ⟨y0,y1⟩:=hb y hy
  rw [<- hp.inj y0 y1 x0 x1 e];exact hy,fun h=>UH.mpr ⟨x,h,rfl⟩⟩
 by_cases h:x∈F
 ·rw [if_pos h,if_pos (e.mpr h)]
 ·rw [if_neg h,if_neg fun z=>h (e.mp z),US];rfl
theorem AW {p:List Int} (hx:Tn n xs) (hy:Tn n ys) (hp:Tn n p) (s0:0<=s) (s1:s < (n:Int)):∀ k,bf (anew xs p) (anew ys p) (app p s) k=(bf xs ys s k).map (app p)
 | 0=>rfl
 | k + 1=>by
  have ih:=AW hx hy hp s0 s1 k
  show (match (bf (anew xs p) (anew ys p) (app p s) k)[k]? with | some x=>visit (anew xs p) (anew ys p) (bf (anew xs p) (anew ys p) (app p s) k) x | none=>bf (anew xs p) (anew ys p) (app p s) k)=(match (bf xs ys s k)[k]? with | some x=>visit xs ys (bf xs ys s k) x | none=>bf xs ys s k).map (app p)
  rw [ih,UB]
  cases h:(bf xs ys s k)[k]? with
  | none=>rfl
  | some x =>
   obtain ⟨x0,x1⟩:=pM hx hy s0 s1 k x (UJ h)
   obtain ⟨a0,a1⟩:=hx.app x0 x1
   obtain ⟨b0,b1⟩:=hy.app x0 x1
   show visit (anew xs p) (anew ys p) ((bf xs ys s k).map (app p)) (app p x)=(visit xs ys (bf xs ys s k) x).map (app p)
   unfold visit
   rw [hx.jm hp x0 x1,hy.jm hp x0 x1,KS hp (pM hx hy s0 s1 k) a0 a1,KS hp (fun z hz=>?_) b0 b1]
   rcases o8.mp hz with hz | rfl
   ·exact pM hx hy s0 s1 k z hz
   ·exact ⟨a0,a1⟩
end
def num (zs sq:List Int):List Int:=sq.map fun o=>(sq.idxOf (app zs o):Int)
theorem Tn.inv_inv {n:Nat} {p:List Int} (hp:Tn n p):inv (inv p)=p:=by
 refine o7 (n:=n) hp.ax.ax.length hp.length fun s h0 h1=>?_
 obtain ⟨a0,a1⟩:=hp.ax.kZ h0 h1
 obtain ⟨b0,b1⟩:=hp.app h0 h1
 refine hp.ax.inj a0 a1 b0 b1 ?_
 rw [hp.ax.cX h0 h1,hp.fI h0 h1]
theorem uh {n:Nat} {zs sq:List Int} (hz:Tn n zs) (hs:Tn n sq):anew zs (inv sq)=num zs sq:=by
 unfold anew num aK
 rw [hs.inv_inv,UW]
 apply Vd
 intro o ho
 obtain ⟨o0,o1⟩:=hs.bound ho
 obtain ⟨a0,a1⟩:=hz.app o0 o1
 exact DV a0 (by rw [hs.length];exact a1)
theorem KU {n:Nat} {p:List Int} (hp:Tn n p):∀ {sq:List Int},(∀ x∈sq,0<=x/\x < (n:Int))->∀ {y:Int},0<=y->y < (n:Int)->(sq.map (app p)).idxOf (app p y)=sq.idxOf y
 | [],_,_,_,_=>rfl
 | a :: r,hb,y,y0,y1=>by
  obtain ⟨a0,a1⟩:=hb a Uy
  rw [UT,List.idxOf_cons,List.idxOf_cons,KU hp (fun x hx=>hb x (Uz _ hx)) y0 y1]
  by_cases e:a=y
  ·rw [e];simp
  ·have e2:app p a≠app p y:=fun z=>e (hp.inj a0 a1 y0 y1 z)
   rw [show (a == y)=false by simpa using e,show (app p a == app p y)=false by simpa using e2]
theorem DW {n:Nat} {zs sq p:List Int} (hz:Tn n zs) (hp:Tn n p) (hb:∀ x∈sq,0<=x/\x < (n:Int)):num (anew zs p) (sq.map (app p))=num zs sq:=by
 unfold num
 rw [UW]
 apply Vd
 intro o ho
 obtain ⟨o0,o1⟩:=hb o ho
 obtain ⟨a0,a1⟩:=hz.app o0 o1
 show ((sq.map (app p)).idxOf (app (anew zs p) (app p o)):Int)=_
 rw [hz.jm hp o0 o1,KU hp hb a0 a1]
end af
namespace af
def pw (xs:List Int) (k i:Int):Int:=if 0<=k then bq xs i k.toNat else bq (inv xs) i (-k).toNat
section
variable {n:Nat} {xs:List Int} {i:Int}
theorem Tn.mS (h:Tn n xs) (i0:0<=i) (i1:i < (n:Int)):∀ (k m:Nat),af.bq (inv xs) (af.bq xs i m) k=if k<=m then af.bq xs i (m - k) else af.bq (inv xs) i (k - m)
 | 0,m=>by rw [if_pos (U8 _),Nat.sub_zero];rfl
 | k + 1,m=>by
  show af.app (inv xs) (af.bq (inv xs) (af.bq xs i m) k)=_
  rw [h.mS i0 i1 k m]
  by_cases hk:k<=m
  ·rw [if_pos hk]
   by_cases hk1:k + 1<=m
   ·rw [if_pos hk1]
    obtain ⟨d,hd⟩:∃ d,m - k=d + 1:=⟨m - k - 1,by omega⟩
    rw [hd,show m - (k + 1)=d by omega]
    obtain ⟨a,b⟩:=h.bq i0 i1 d
    exact h.fI a b
   ·rw [if_neg hk1,show m - k=0 by omega,show k + 1 - m=1 by omega]
    rfl
  ·rw [if_neg hk,if_neg (by omega),show k + 1 - m=(k - m) + 1 by omega]
   rfl
theorem Tn.qI (h:Tn n xs) (i0:0<=i) (i1:i < (n:Int)) (k m:Nat):af.bq xs (af.bq (inv xs) i m) k=if k<=m then af.bq (inv xs) i (m - k) else af.bq xs i (k - m):=by
 have:=h.ax.mS i0 i1 k m
 rw [h.inv_inv] at this
 exact this
theorem Tn.pw (h:Tn n xs) (i0:0<=i) (i1:i < (n:Int)) (k:Int):0<=af.pw xs k i/\af.pw xs k i < (n:Int):=by
 unfold af.pw
 split
 ·exact h.bq i0 i1 _
 ·exact h.ax.bq i0 i1 _
theorem Tn.pw_add (h:Tn n xs) (i0:0<=i) (i1:i < (n:Int)) (a b:Int):af.pw xs a (af.pw xs b i)=af.pw xs (a + b) i:=by
 by_cases ha:0<=a <;> by_cases hb:0<=b
 ·unfold af.pw
  rw [if_pos ha,if_pos hb,if_pos (by omega),rG]
  congr 1
  omega
 ·have e1:af.pw xs b i=af.bq (inv xs) i (-b).toNat:=by unfold af.pw;rw [if_neg hb]
  have e2:∀ j,af.pw xs a j=af.bq xs j a.toNat:=fun j=>by unfold af.pw;rw [if_pos ha]
  rw [e1,e2,h.qI i0 i1]
  unfold af.pw
  split
  ·split
   ·rw [show (-b).toNat - a.toNat=0 by omega,show (a + b).toNat=0 by omega];rfl
   ·congr 1;omega
  ·rw [if_pos (by omega)];congr 1;omega
 ·have e1:af.pw xs b i=af.bq xs i b.toNat:=by unfold af.pw;rw [if_pos hb]
  have e2:∀ j,af.pw xs a j=af.bq (inv xs) j (-a).toNat:=fun j=>by unfold af.pw;rw [if_neg ha]
  rw [e1,e2,h.mS i0 i1]
  unfold af.pw
  split
  ·rw [if_pos (by omega)];congr 1;omega
  ·rw [if_neg (by omega)];congr 1;omega
 ·unfold af.pw
  rw [if_neg ha,if_neg hb,if_neg (by omega),rG]
  congr 1
  omega
theorem Tn.pw_per (h:Tn n xs) (i0:0<=i) (i1:i < (n:Int)) {L:Nat} (hL:af.bq xs i L=i) (q:Int):af.pw xs ((L:Int) * q) i=i:=by
 have pos:∀ m:Nat,af.pw xs ((L:Int) * (m:Int)) i=i:=fun m=>by
  unfold af.pw
  rw [if_pos (Int.mul_nonneg (by omega) (by omega)),show ((L:Int) * (m:Int)).toNat=0 + L * m by rw [<- Int.natCast_mul,UK];omega,AQ hL]
  rfl
 by_cases hq:0<=q
 ·obtain ⟨m,rfl⟩:∃ m:Nat,q=(m:Int):=⟨q.toNat,by omega⟩
  exact pos m
 ·obtain ⟨m,rfl⟩:∃ m:Nat,q=-(m:Int):=⟨(-q).toNat,by omega⟩
  have:=h.pw_add i0 i1 ((L:Int) * -(m:Int)) ((L:Int) * (m:Int))
  rw [pos m] at this
  rw [this,Int.mul_neg,Int.add_left_neg]
  rfl
theorem Tn.vY (h:Tn n xs) (i0:0<=i) (i1:i < (n:Int)) {k v:Int} (o:KO xs k i v):v=af.pw xs k i:=by
 obtain ⟨m,_,bk,rfl⟩:=o
 have m0:=Vy k (show ((m + 1:Nat):Int)≠0 by omega)
 have e:af.bq xs i (k % ((m + 1:Nat):Int)).toNat=af.pw xs (k % ((m + 1:Nat):Int)) i:=by unfold af.pw;rw [if_pos m0]
 rw [e]
 have e2:=h.pw_add i0 i1 (k % ((m + 1:Nat):Int)) (((m + 1:Nat):Int) * (k / ((m + 1:Nat):Int)))
 rw [h.pw_per i0 i1 bk,Int.emod_add_mul_ediv] at e2
 exact e2
end
def b7 (xs:List Int) (k:Int):List Int:=(upto xs.length).map (pw xs k)
theorem AX (xs:List Int) (k:Int):(b7 xs k).length=xs.length:=by simp [b7,oC]
theorem oD {xs:List Int} {k s:Int} (s0:0<=s) (s1:s < (xs.length:Int)):app (b7 xs k) s=pw xs k s:=by
 have e:=nU (xs:=b7 xs k) s0 (by rw [AX];exact s1)
 unfold b7 at e
 rw [UB,DT (by omega)] at e
 have:=UD e
 rw [U0 s0] at this
 exact this.symm
theorem Tn.b7 {n:Nat} {xs:List Int} (h:Tn n xs) (k:Int):Tn n (b7 xs k):=by
 have hl:=h.length
 refine Tn.qH (by rw [AX];exact hl) (fun s s0 s1=>by rw [oD s0 (by omega)];exact h.pw s0 s1 k) fun s t s0 s1 t0 t1 e=>?_
 rw [oD s0 (by omega),oD t0 (by omega)] at e
 have e2:=congrArg (af.pw xs (-k)) e
 rw [h.pw_add s0 s1,h.pw_add t0 t1,Int.add_left_neg] at e2
 exact e2
def shr (xs ys:List Int) (k:Int):List Int:=aK (b7 xs (-k)) ys
theorem Tn.shr {n:Nat} {xs ys:List Int} (hx:Tn n xs) (hy:Tn n ys) (k:Int):Tn n (shr xs ys k):=(hx.b7 (-k)).aK hy
theorem Tn.lu {n:Nat} {xs ys:List Int} (hx:Tn n xs) {k s:Int} (s0:0<=s) (s1:s < (n:Int)):af.app (af.shr xs ys k) s=af.app ys (af.pw xs (-k) s):=by
 have hl:=hx.length
 unfold af.shr
 rw [nF s0 (by rw [AX,hl];exact s1),oD s0 (by rw [hl];exact s1)]
theorem Tn.sA {n:Nat} {xs ys:List Int} (hx:Tn n xs) (hy:Tn n ys) (a b:Int):af.shr xs (af.shr xs ys a) b=af.shr xs ys (a + b):=by
 refine o7 (n:=n) (hx.shr (hx.shr hy a) b).length (hx.shr hy (a + b)).length fun s s0 s1=>?_
 obtain ⟨p0,p1⟩:=hx.pw s0 s1 (-b)
 rw [hx.lu s0 s1,hx.lu p0 p1,hx.lu s0 s1,hx.pw_add s0 s1,show -a + -b=-(a + b) by omega]
theorem Tn.qJ {n:Nat} {xs ys:List Int} (hx:Tn n xs) (hy:Tn n ys):af.shr xs ys 0=ys:=by
 refine o7 (n:=n) (hx.shr hy 0).length hy.length fun s s0 s1=>?_
 rw [hx.lu s0 s1]
 rfl
end af
namespace af
def tb (l:Int->Nat) (p:Int->Int) (a b:Int):Bool:=if l a=l b\/l (p a)=l (p b) then false else (decide (l a < l b)).xor (decide (l (p a) < l (p b)))
section
variable {n:Nat} {L:List Int} {l:Int->Nat}
def sC (xs ys:List Int):List Int:=aK (aK xs ys) (aK (inv xs) (inv ys))
theorem Tn.sC {xs ys:List Int} (hx:Tn n xs) (hy:Tn n ys):Tn n (sC xs ys):=(hx.aK hy).aK (hx.ax.aK hy.ax)
end
end af
namespace af
end af
namespace af
abbrev Sp:=Bool×Int
def gL (s:Sp):Prop:=(s.1=false->1<=s.2/\s.2<=3)/\s.2≠0
def g9 (a b:Sp):Int:=if a.1 then a.2 + b.2 else (a.2 + b.2) % 4
def cL (a b:Sp):List Sp:=if g9 a b=0 then [] else [(a.1,g9 a b)]
def cS:List Sp->Sp->List Sp
 | [],s=>[s]
 | t :: r,s=>if t.1=s.1 then cL t s ++ r else s :: t :: r
theorem sD (t:Sp) (r:List Sp) (s:Sp):cS (t :: r) s=if t.1=s.1 then cL t s ++ r else s :: t :: r:=rfl
def kS (w:List Sp):List Sp:=w.foldl cS []
def kT (s:Sp):Sp:=(s.1,if s.1 then -s.2 else 4 - s.2)
def ki (w:List Sp):List Sp:=(w.map kT).reverse
def Pl:List Sp->Prop
 | []=>True
 | a :: r=>gL a/\(∀ b,r.head?=some b->a.1≠b.1)/\Pl r
theorem Pl.pr:∀ {l:List Sp},Pl l->∀ s∈l,gL s
 | a :: r,h,s,hs=>by
  rcases UU.mp hs with rfl | hs
  ·exact h.1
  ·exact Pl.pr h.2.2 s hs
theorem KW {a b:Sp} (ha:gL a) (e:a.1=b.1):(g9 a b=0/\cL a b=[])\/(gL (a.1,g9 a b)/\cL a b=[(a.1,g9 a b)]):=by
 unfold cL
 by_cases h:g9 a b=0
 ·exact .inl ⟨h,by rw [if_pos h]⟩
 ·refine .inr ⟨⟨fun hf=>?_,h⟩,by rw [if_neg h]⟩
  simp only at hf
  unfold g9 at h ⊢
  simp only [hf,UY,if_false] at h ⊢
  omega
theorem Pl.push {l:List Sp} {s:Sp} (h:Pl l) (hs:gL s):Pl (cS l s):=by
 cases l with
 | nil=>exact ⟨hs,fun b h=>(nomatch h),trivial⟩
 | cons t r =>
  rw [sD]
  split
  ·next e =>
   rcases KW h.1 e with ⟨_,ej⟩ | ⟨hp,ej⟩
   ·rw [ej];exact h.2.2
   ·rw [ej];exact ⟨hp,h.2.1,h.2.2⟩
  ·next e =>
   refine ⟨hs,fun b hb=>?_,h⟩
   cases hb
   exact fun e'=>e e'.symm
theorem KY {l:List Sp} {s:Sp} (h:∀ b,l.head?=some b->s.1≠b.1):cS l s=s :: l:=by
 cases l with
 | nil=>rfl
 | cons t r=>rw [sD,if_neg fun e=>h t rfl e.symm]
theorem Pl.mC:∀ {l:List Sp},Pl l->kS l.reverse=l
 | [],_=>rfl
 | a :: r,h=>by
  unfold kS
  rw [WE,Vw]
  show cS (kS r.reverse) a=_
  rw [Pl.mC h.2.2,KY h.2.1]
theorem KZ (u v:List Sp):kS (u ++ v)=v.foldl cS (kS u):=by unfold kS;rw [Vw]
theorem AY {s:Sp} (h:gL s):gL (kT s):=by
 obtain ⟨b,k⟩:=s
 cases b with
 | true=>exact ⟨nofun,fun e=>h.2 (by have:-k=0:=e;show k=0;omega)⟩
 | false =>
  obtain ⟨h1,h2⟩:=h.1 rfl
  simp only at h1 h2
  exact ⟨fun _=>by show 1<=4 - k/\4 - k<=3;omega,by show 4 - k≠0;omega⟩
theorem Pm {p:List Sp} {s:Sp} (hp:Pl p) (hs:gL s):cS (cS p s) (kT s)=p:=by
 have e0:cL s (kT s)=[]:=by
  unfold cL g9 kT
  cases hb:s.1 <;> simp <;> omega
 cases p with
 | nil =>
  show (if s.1=(kT s).1 then cL s (kT s) ++ [] else _)=_
  rw [if_pos (show s.1=(kT s).1 from rfl),e0];rfl
 | cons t r =>
  by_cases e:t.1=s.1
  ·have e1:cS (t :: r) s=cL t s ++ r:=by rw [sD,if_pos e]
   rw [e1]
   obtain ⟨tb,tk⟩:=t
   obtain ⟨sb,sk⟩:=s
   simp only at e
   subst e
   have ht:=hp.1
   rcases KW (b:=(tb,sk)) hp.1 rfl with ⟨h0,ej⟩ | ⟨Ue,ej⟩
   ·rw [ej,List.nil_append]
    have eb:kT (tb,sk)=(tb,tk):=by
     unfold kT
     unfold g9 at h0
     cases tb with
     | true=>simp only [if_true] at h0 ⊢;congr 1;omega
     | false =>
      have h1:=ht.1 rfl
      have h2:=hs.1 rfl
      simp only [UY,if_false] at h0 h1 h2 ⊢
      congr 1;omega
    rw [eb]
    exact KY hp.2.1
   ·rw [ej]
    show (if tb=(kT (tb,sk)).1 then cL (tb,g9 (tb,tk) (tb,sk)) (kT (tb,sk)) ++ r else _)=_
    rw [if_pos (show tb=(kT (tb,sk)).1 from rfl)]
    have eb:g9 (tb,g9 (tb,tk) (tb,sk)) (kT (tb,sk))=tk:=by
     unfold g9 kT
     cases tb with
     | true=>simp only [if_true];omega
     | false =>
      have h1:=ht.1 rfl
      have h2:=hs.1 rfl
      simp only [UY,if_false] at h1 h2 ⊢
      omega
    unfold cL
    rw [eb,if_neg ht.2]
    rfl
  ·have e1:cS (t :: r) s=s :: t :: r:=by rw [sD,if_neg e]
   rw [e1]
   show (if s.1=(kT s).1 then cL s (kT s) ++ (t :: r) else _)=_
   rw [if_pos (show s.1=(kT s).1 from rfl),e0];rfl
theorem Pn {w:List Sp}:∀ {p:List Sp},Pl p->(∀ s∈w,gL s)->(w ++ ki w).foldl cS p=p:=by
 induction w with
 | nil=>exact fun _ _=>rfl
 | cons s w ih =>
  intro p hp hw
  have e:(s :: w) ++ ki (s :: w)=s :: ((w ++ ki w) ++ [kT s]):=by unfold ki;simp
  rw [e]
  show ((w ++ ki w) ++ [kT s]).foldl cS (cS p s)=p
  have hs:=hw s (Uy)
  rw [Vw,ih (hp.push hs) fun s' h'=>hw s' (Uz _ h')]
  exact Pm hp hs
theorem Po {w:List Sp} (hw:∀ s∈w,gL s):kS (w ++ ki w)=[]:=Pn (p:=[]) trivial hw
theorem Pp {l:List Sp} {s:Sp} {M B:Nat} (h:∀ x∈l,x.2.natAbs<=M) (hs:s.2.natAbs<=B) (hp:gL s) (hl:Pl l):∀ x∈cS l s,x.2.natAbs<=M + B:=by
 intro x hx
 cases l with
 | nil=>rcases UP.mp hx with rfl;omega
 | cons t r =>
  rw [sD] at hx
  have ht:=h t (Uy)
  split at hx
  ·next e0 =>
   rcases U5.mp hx with hx | hx
   ·unfold cL at hx
    split at hx
    ·exact (nomatch hx)
    ·rcases UP.mp hx with rfl
     show (g9 t s).natAbs<=_
     unfold g9
     split
     ·omega
     ·next hb =>
      have:=hl.1.1 (by simpa using hb)
      have h2:=hp.1 (by rw [<- e0];simpa using hb)
      omega
   ·have:=h x (Uz _ hx);omega
  ·rcases UU.mp hx with rfl | hx
   ·omega
   ·have:=h x hx;omega
theorem Pq (l:List Sp) (s:Sp):(cS l s).length<=l.length + 1:=by
 cases l with
 | nil=>exact Ux _
 | cons t r =>
  rw [sD]
  split
  ·unfold cL;split <;> simp <;> omega
  ·simp
theorem Pr {w:List Sp}:∀ {l:List Sp},(w.foldl cS l).length<=l.length + w.length:=by
 induction w with
 | nil=>exact Ux _
 | cons s w ih =>
  intro l
  have:=ih (l:=cS l s)
  have h2:=Pq l s
  rw [U1]
  exact UZ this (by omega)
theorem K0 (w:List Sp):(kS w).length<=w.length:=by have:=Pr (w:=w) (l:=[]);simpa [kS] using this
structure T4 where (a b c d:Int)
def T4.one:T4:=⟨1,0,0,1⟩
def T4.qt:T4:=⟨0,-1,1,0⟩
def T4.mul (x y:T4):T4:=⟨x.a * y.a + x.b * y.c,x.a * y.b + x.b * y.d,x.c * y.a + x.d * y.c,x.c * y.b + x.d * y.d⟩
def T4.rH (x:T4):T4:=⟨x.d,-x.b,-x.c,x.a⟩
theorem T4.ext' {x y:T4} (h1:x.a=y.a) (h2:x.b=y.b) (h3:x.c=y.c) (h4:x.d=y.d):x=y:=by cases x;cases y;simp only at h1 h2 h3 h4;subst h1 h2 h3 h4;rfl
theorem T4.assoc (x y z:T4):(x.mul y).mul z=x.mul (y.mul z):=by
 apply T4.ext' <;> simp only [T4.mul,Int.add_mul,Int.mul_add,Int.mul_assoc] <;> omega
theorem T4.one_mul (x:T4):T4.one.mul x=x:=by apply T4.ext' <;> simp [T4.mul,T4.one]
theorem T4.mul_one (x:T4):x.mul T4.one=x:=by apply T4.ext' <;> simp [T4.mul,T4.one]
theorem T4.sE (x y:T4):(x.mul y).rH=y.rH.mul x.rH:=by
 apply T4.ext' <;> simp only [T4.mul,T4.rH,Int.neg_mul,Int.mul_neg,Int.neg_neg,Int.mul_comm] <;> omega
def qp:Nat->T4
 | 0=>T4.one
 | n + 1=>T4.qt.mul (qp n)
def mD (s:Sp):T4:=if s.1 then ⟨1,s.2,0,1⟩ else qp s.2.toNat
def md (T:T4) (w:List Sp):T4:=w.foldl (fun T s=>(mD s).mul T) T
def cj (w:List Sp):T4:=md T4.one w
theorem Pt (w:List Sp):∀ T:T4,md T w=(cj w).mul T:=by
 induction w with
 | nil=>exact fun T=>(T4.one_mul T).symm
 | cons s w ih =>
  intro T
  show md ((mD s).mul T) w=(md ((mD s).mul T4.one) w).mul T
  rw [ih,ih,T4.mul_one,T4.assoc]
theorem vZ (u v:List Sp):cj (u ++ v)=(cj v).mul (cj u):=by
 show md T4.one (u ++ v)=_
 unfold md
 rw [Vw]
 exact Pt v _
theorem AZ (u:List Sp) (s:Sp):cj (u ++ [s])=(mD s).mul (cj u):=by
 show md T4.one (u ++ [s])=_
 unfold md
 rw [Vw];rfl
theorem t3 {k:Int} (h:1<=k/\k<=3):k=1\/k=2\/k=3:=by omega
theorem Pu {t s:Sp} (ht:gL t) (hs:gL s) (e:t.1=s.1):cj (cL t s)=(mD s).mul (mD t):=by
 obtain ⟨tb,tk⟩:=t
 obtain ⟨sb,sk⟩:=s
 simp only at e
 subst e
 cases tb with
 | true =>
  have e2:(mD (true,sk)).mul (mD (true,tk))=⟨1,tk + sk,0,1⟩:=by apply T4.ext' <;> simp [T4.mul,mD] <;> omega
  rw [e2]
  unfold cL g9
  simp only [if_true]
  split
  ·next h=>rw [h];rfl
  ·rw [show cj [(true,tk + sk)]=(mD (true,tk + sk)).mul T4.one from rfl,T4.mul_one];rfl
 | false =>
  have h1:=ht.1 rfl
  have h2:=hs.1 rfl
  simp only at h1 h2
  rcases t3 h1 with rfl | rfl | rfl <;> rcases t3 h2 with rfl | rfl | rfl <;> rfl
theorem Pw {l:List Sp} {s:Sp} (hl:Pl l) (hs:gL s):cj (cS l s).reverse=(mD s).mul (cj l.reverse):=by
 cases l with
 | nil=>exact AZ [] s
 | cons t r =>
  rw [sD]
  split
  ·next e =>
   rw [List.reverse_append,vZ,WE,AZ,<- T4.assoc]
   congr 1
   rw [<- Pu hl.1 hs e]
   unfold cL
   split <;> rfl
  ·rw [WE,AZ]
theorem Px {w:List Sp}:∀ {l:List Sp},Pl l->(∀ s∈w,gL s)->cj (w.foldl cS l).reverse=md (cj l.reverse) w:=by
 induction w with
 | nil=>exact fun _ _=>rfl
 | cons s w ih =>
  intro l hl hw
  have hs:=hw s (Uy)
  show cj (w.foldl cS (cS l s)).reverse=md ((mD s).mul (cj l.reverse)) w
  rw [ih (hl.push hs) fun s' h'=>hw s' (Uz _ h'),Pw hl hs]
theorem K1 {w:List Sp} (hw:∀ s∈w,gL s):cj (kS w).reverse=cj w:=Px (l:=[]) trivial hw
theorem v9 {s:Sp} (h:gL s):mD (kT s)=(mD s).rH:=by
 obtain ⟨b,k⟩:=s
 cases b with
 | true=>apply T4.ext' <;> simp [T4.rH,mD,kT]
 | false =>
  have h1:=h.1 rfl
  simp only at h1
  rcases t3 h1 with rfl | rfl | rfl <;> rfl
theorem K2 {w:List Sp} (hw:∀ s∈w,gL s):cj (ki w)=(cj w).rH:=by
 induction w with
 | nil=>rfl
 | cons s w ih =>
  have e:ki (s :: w)=ki w ++ [kT s]:=by unfold ki;simp
  have e2:cj (s :: w)=(cj w).mul (mD s):=by
   rw [show s :: w=[s] ++ w from rfl,vZ]
   congr 1
   exact (AZ [] s).trans (T4.mul_one _)
  rw [e,AZ,ih fun s' h'=>hw s' (Uz _ h'),v9 (hw s (Uy)),e2,T4.sE]
end af
namespace af
def og:List Int->List Int->Bool
 | [],[]=>false
 | [],_ :: _=>true
 | _ :: _,[]=>false
 | x :: xs,y :: ys=>if x=y then og xs ys else decide (x < y)
theorem DX:∀ xs:List Int,og xs xs=false
 | []=>rfl
 | x :: xs=>by unfold og;rw [if_pos rfl];exact DX xs
theorem Hb:∀ {xs ys zs:List Int},og xs ys=true->og ys zs=true->og xs zs=true
 | [],[],_,h,_=>by cases h
 | [],_ :: _,[],_,h=>by cases h
 | [],_ :: _,_ :: _,_,_=>rfl
 | _ :: _,[],_,h,_=>by cases h
 | _ :: _,_ :: _,[],_,h=>by cases h
 | x :: xs,y :: ys,z :: zs,h1,h2=>by
  unfold og at h1 h2 ⊢
  by_cases a:x=y
  ·rw [if_pos a] at h1
   by_cases b:y=z
   ·rw [if_pos b] at h2
    rw [if_pos (a.trans b)];exact Hb h1 h2
   ·rw [if_neg b] at h2
    rw [if_neg (fun e=>b (a.symm.trans e))]
    rw [a];exact h2
  ·rw [if_neg a] at h1
   have h1:=of_decide_eq_true h1
   by_cases b:y=z
   ·rw [<- b,if_neg a];exact decide_eq_true h1
   ·rw [if_neg b] at h2
    have h2:=of_decide_eq_true h2
    rw [if_neg (by omega)];exact decide_eq_true (by omega)
theorem Hc:∀ {xs ys:List Int},og xs ys=false->og ys xs=false->xs=ys
 | [],[],_,_=>rfl
 | [],_ :: _,h,_=>by cases h
 | _ :: _,[],_,h=>by cases h
 | x :: xs,y :: ys,h1,h2=>by
  unfold og at h1 h2
  by_cases a:x=y
  ·subst a
   rw [if_pos rfl] at h1 h2
   rw [Hc h1 h2]
  ·rw [if_neg a] at h1
   rw [if_neg (Ne.symm a)] at h2
   have h1:=of_decide_eq_false h1
   have h2:=of_decide_eq_false h2
   omega
abbrev aJ:=List Int×List Int
def lJ (p q:aJ):Bool:=if p.1=q.1 then og p.2 q.2 else og p.1 q.1
theorem K3 (p:aJ):lJ p p=false:=by unfold lJ;rw [if_pos rfl];exact DX _
theorem Py {p q r:aJ} (h1:lJ p q=true) (h2:lJ q r=true):lJ p r=true:=by
 unfold lJ at h1 h2 ⊢
 by_cases a:p.1=q.1
 ·rw [if_pos a] at h1
  by_cases b:q.1=r.1
  ·rw [if_pos b] at h2
   rw [if_pos (a.trans b)];exact Hb h1 h2
  ·rw [if_neg b] at h2
   rw [if_neg (fun e=>b (a.symm.trans e)),a];exact h2
 ·rw [if_neg a] at h1
  by_cases b:q.1=r.1
  ·rw [<- b,if_neg a];exact h1
  ·rw [if_neg b] at h2
   have h:=Hb h1 h2
   rw [if_neg (fun e=>by rw [e,DX] at h;cases h)];exact h
theorem Pz {p q:aJ} (h1:lJ p q=false) (h2:lJ q p=false):p=q:=by
 unfold lJ at h1 h2
 by_cases a:p.1=q.1
 ·rw [if_pos a] at h1
  rw [if_pos a.symm] at h2
  exact WJ a (Hc h1 h2)
 ·rw [if_neg a] at h1
  rw [if_neg (Ne.symm a)] at h2
  exact absurd (Hc h1 h2) a
def lK:List aJ->aJ
 | []=>([],[])
 | p :: l=>l.foldl (fun b q=>if lJ q b then q else b) p
def Lst (l:List aJ) (p:aJ):Prop:=p∈l/\∀ q∈l,lJ q p=false
theorem Lst.unique {l m:List aJ} {p q:aJ} (a:Lst l p) (b:Lst m q) (h:∀ x,x∈l↔x∈m):p=q:=Pz (b.2 p ((h p).mp a.1)) (a.2 q ((h q).mpr b.1))
theorem Lst.step {l:List aJ} {b q:aJ} (h:Lst l b):Lst (l ++ [q]) (if lJ q b then q else b):=by
 split
 ·next hq =>
  refine ⟨U4 _ (List.mem_singleton_self _),fun x hx=>?_⟩
  rcases U5.mp hx with hx | hx
  ·cases PB:lJ x q with
   | false=>rfl
   | true=>have:=Py PB hq;rw [h.2 x hx] at this;cases this
  ·rw [UP.mp hx];exact K3 q
 ·next hq =>
  refine ⟨VW _ h.1,fun x hx=>?_⟩
  rcases U5.mp hx with hx | hx
  ·exact h.2 x hx
  ·rw [UP.mp hx];simpa using hq
theorem Lst.fold:∀ (l pre:List aJ) (b:aJ),Lst pre b->Lst (pre ++ l) (l.foldl (fun b q=>if lJ q b then q else b) b)
 | [],pre,b,h=>by rw [VG];exact h
 | q :: l,pre,b,h=>by
  have:=Lst.fold l (pre ++ [q]) _ (h.step (q:=q))
  rw [V9] at this
  exact this
theorem Hd {l:List aJ} (h:l≠[]):Lst l (lK l):=by
 cases l with
 | nil=>exact absurd rfl h
 | cons p l=>exact Lst.fold l [p] p ⟨List.mem_singleton_self _,fun q hq=>by rw [UP.mp hq];exact K3 p⟩
theorem PD {l m:List aJ} (h:∀ x,x∈l↔x∈m) (hl:l≠[]):lK l=lK m:=by
 have hm:m≠[]:=fun e=>by
  obtain ⟨x,hx⟩:=List.exists_mem_of_ne_nil l hl
  have:=(h x).mp hx
  rw [e] at this
  cases this
 exact (Hd hl).unique (Hd hm) h
end af
namespace af
theorem p5 (n:Nat):Tn n (upto n):=Wc _
theorem DY {n:Nat} {s:Int} (s0:0<=s) (s1:s < (n:Int)):app (upto n) s=s:=by
 unfold app
 rw [UA,DT (by omega),Option.getD_some];omega
section
variable {n:Nat} {a b c g x y:List Int}
theorem kU (ha:Tn n a) (hb:Tn n b) (hc:Tn n c):aK (aK a b) c=aK a (aK b c):=by
 refine o7 (n:=n) ((ha.aK hb).aK hc).length (ha.aK (hb.aK hc)).length fun s s0 s1=>?_
 obtain ⟨p0,p1⟩:=ha.app s0 s1
 rw [nF s0 (by rw [(ha.aK hb).length];exact s1),nF s0 (by rw [ha.length];exact s1),nF s0 (by rw [ha.length];exact s1),nF p0 (by rw [hb.length];exact p1)]
theorem A0 (ha:Tn n a):aK a (inv a)=upto n:=O8 ha
theorem A1 (ha:Tn n a):aK (inv a) a=upto n:=O9 ha
theorem rJ (ha:Tn n a):aK a (upto n)=a:=by
 refine o7 (n:=n) (ha.aK (p5 n)).length ha.length fun s s0 s1=>?_
 obtain ⟨p0,p1⟩:=ha.app s0 s1
 rw [nF s0 (by rw [ha.length];exact s1),DY p0 p1]
theorem yN (ha:Tn n a):aK (upto n) a=a:=by
 refine o7 (n:=n) ((p5 n).aK ha).length ha.length fun s s0 s1=>?_
 rw [nF s0 (by rw [(p5 n).length];exact s1),DY s0 s1]
theorem A2 (ha:Tn n a) (hb:Tn n b) (h:aK a b=upto n):inv a=b:=by
 have e:aK (inv a) (aK a b)=b:=by rw [<- kU ha.ax ha hb,A1 ha,yN hb]
 rw [h,rJ ha.ax] at e
 exact e
theorem sF (ha:Tn n a) (hb:Tn n b):inv (aK a b)=aK (inv b) (inv a):=by
 refine A2 (ha.aK hb) (hb.ax.aK ha.ax) ?_
 rw [kU ha hb (hb.ax.aK ha.ax),<- kU hb hb.ax ha.ax,A0 hb,yN ha.ax,A0 ha]
theorem K4 (ha:Tn n a) (hb:Tn n b):aK (aK a b) (inv b)=a:=by rw [kU ha hb hb.ax,A0 hb,rJ ha]
theorem He (ha:Tn n a) (hb:Tn n b):aK (aK a (inv b)) b=a:=by rw [kU ha hb.ax hb,A1 hb,rJ ha]
theorem PH (ha:Tn n a) (hb:Tn n b):aK (inv a) (aK a b)=b:=by rw [<- kU ha.ax ha hb,A1 ha,yN hb]
theorem PJ (ha:Tn n a) (hb:Tn n b):aK a (aK (inv a) b)=b:=by rw [<- kU ha ha.ax hb,A0 ha,yN hb]
theorem wb (hx:Tn n x) (i j:Int):aK (b7 x i) (b7 x j)=b7 x (i + j):=by
 refine o7 (n:=n) ((hx.b7 i).aK (hx.b7 j)).length (hx.b7 (i + j)).length fun s s0 s1=>?_
 obtain ⟨p0,p1⟩:=hx.pw s0 s1 i
 have hl:=hx.length
 rw [nF s0 (by rw [AX,hl];exact s1),oD s0 (by rw [hl];exact s1),oD p0 (by rw [hl];exact p1),oD s0 (by rw [hl];exact s1),hx.pw_add s0 s1,Int.add_comm j i]
theorem Hf (hx:Tn n x):b7 x 0=upto n:=by
 refine o7 (n:=n) (hx.b7 0).length (p5 n).length fun s s0 s1=>?_
 rw [oD s0 (by rw [hx.length];exact s1),DY s0 s1];rfl
theorem yO (hx:Tn n x):b7 x 1=x:=by
 refine o7 (n:=n) (hx.b7 1).length hx.length fun s s0 s1=>?_
 rw [oD s0 (by rw [hx.length];exact s1)];rfl
theorem A3 (hx:Tn n x) (k:Int):inv (b7 x k)=b7 x (-k):=A2 (hx.b7 k) (hx.b7 (-k)) (by rw [wb hx,WG,Hf hx])
theorem Hg (hx:Tn n x):b7 x (-1)=inv x:=by rw [<- A3 hx,yO hx]
theorem K5 (hx:Tn n x) (k:Int):b7 (inv x) k=b7 x (-k):=by
 refine o7 (n:=n) (hx.ax.b7 k).length (hx.b7 (-k)).length fun s s0 s1=>?_
 rw [oD s0 (by rw [hx.ax.length];exact s1),oD s0 (by rw [hx.length];exact s1)]
 unfold pw
 by_cases h:0<=k
 ·rw [if_pos h]
  by_cases h0:k=0
  ·subst h0;rfl
  ·rw [if_neg (by omega),show -(-k)=k by omega]
 ·rw [if_neg h,if_pos (by omega),hx.inv_inv]
theorem A4 (ha:Tn n a) (hb:Tn n b) (hg:Tn n g):aK (anew a g) (anew b g)=anew (aK a b) g:=by
 unfold anew
 have hi:=hg.ax
 rw [kU (hi.aK ha) hg ((hi.aK hb).aK hg),kU hi hb hg,PJ hg (hb.aK hg),kU hi ha (hb.aK hg),<- kU ha hb hg,<- kU hi (ha.aK hb) hg]
theorem PK (hg:Tn n g):anew (upto n) g=upto n:=by unfold anew;rw [rJ hg.ax,A1 hg]
theorem DZ (ha:Tn n a) (hg:Tn n g):inv (anew a g)=anew (inv a) g:=A2 (ha.anew hg) (ha.ax.anew hg) (by rw [A4 ha ha.ax hg,A0 ha,PK hg])
theorem Hh (hx:Tn n x) (hg:Tn n g) {i:Int} (i0:0<=i) (i1:i < (n:Int)):∀ k,bq (anew x g) (app g i) k=app g (bq x i k)
 | 0=>rfl
 | k + 1=>by
  obtain ⟨p0,p1⟩:=hx.bq i0 i1 k
  show app (anew x g) (bq (anew x g) (app g i) k)=app g (app x (bq x i k))
  rw [Hh hx hg i0 i1 k,hx.jm hg p0 p1]
theorem PL (hx:Tn n x) (hg:Tn n g) {i:Int} (i0:0<=i) (i1:i < (n:Int)) (k:Int):pw (anew x g) k (app g i)=app g (pw x k i):=by
 unfold pw
 split
 ·exact Hh hx hg i0 i1 _
 ·rw [DZ hx hg];exact Hh hx.ax hg i0 i1 _
theorem PN (hx:Tn n x) (hg:Tn n g) (k:Int):b7 (anew x g) k=anew (b7 x k) g:=by
 refine o7 (n:=n) ((hx.anew hg).b7 k).length ((hx.b7 k).anew hg).length fun s s0 s1=>?_
 obtain ⟨p0,p1⟩:=hg.kZ s0 s1
 rw [oD s0 (by rw [(hx.anew hg).length];exact s1),(hx.b7 k).gK hg s0 s1,oD p0 (by rw [hx.length];exact p1),<- PL hx hg p0 p1,hg.cX s0 s1]
end
def Vf (n:Nat) (p:aJ):Prop:=Tn n p.1/\Tn n p.2
def a7 (n:Nat) (p q:aJ):Prop:=∃ g,Tn n g/\q=(anew p.1 g,anew p.2 g)
def Sh (k:Int) (p:aJ):aJ:=(p.1,shr p.1 p.2 k)
def Qt (p:aJ):aJ:=(inv p.2,p.1)
section
variable {n:Nat} {p q r:aJ}
theorem Vf.sh (h:Vf n p) (k:Int):Vf n (Sh k p):=⟨h.1,h.1.shr h.2 k⟩
theorem Vf.qt (h:Vf n p):Vf n (Qt p):=⟨h.2.ax,h.1⟩
theorem a7.refl (h:Vf n p):a7 n p p:=⟨upto n,p5 n,by
 have e:∀ a:List Int,Tn n a->anew a (upto n)=a:=fun a ha=>by
  unfold anew
  rw [A2 (p5 n) (p5 n) (rJ (p5 n)),yN ha,rJ ha]
 rw [e _ h.1,e _ h.2]⟩
theorem a7.symm (h:Vf n p) (a:a7 n p q):a7 n q p:=by
 obtain ⟨g,hg,rfl⟩:=a
 exact ⟨inv g,hg.ax,by show p=(anew (anew p.1 g) (inv g),anew (anew p.2 g) (inv g));rw [h.1.kF hg,h.2.kF hg]⟩
theorem a7.trans (h:Vf n p) (a:a7 n p q) (b:a7 n q r):a7 n p r:=by
 obtain ⟨g,hg,rfl⟩:=a
 obtain ⟨f,hf,rfl⟩:=b
 exact ⟨aK g f,hg.aK hf,by show (anew (anew p.1 g) f,anew (anew p.2 g) f)=_;rw [h.1.jn hg hf,h.2.jn hg hf]⟩
theorem a7.sh (h:Vf n p) (a:a7 n p q) (k:Int):a7 n (Sh k p) (Sh k q):=by
 obtain ⟨g,hg,rfl⟩:=a
 refine ⟨g,hg,?_⟩
 show (anew p.1 g,aK (b7 (anew p.1 g) (-k)) (anew p.2 g))=(anew p.1 g,anew (aK (b7 p.1 (-k)) p.2) g)
 rw [PN h.1 hg,A4 (h.1.b7 _) h.2 hg]
theorem a7.qt (h:Vf n p) (a:a7 n p q):a7 n (Qt p) (Qt q):=by
 obtain ⟨g,hg,rfl⟩:=a
 refine ⟨g,hg,?_⟩
 show (inv (anew p.2 g),anew p.1 g)=(anew (inv p.2) g,anew p.1 g)
 rw [DZ h.2 hg]
theorem rK (h:Vf n p) (j k:Int):Sh k (Sh j p)=Sh (j + k) p:=by
 show (p.1,shr p.1 (shr p.1 p.2 j) k)=(p.1,shr p.1 p.2 (j + k))
 rw [h.1.sA h.2]
theorem mT (h:Vf n p):Sh 0 p=p:=by
 show (p.1,shr p.1 p.2 0)=p
 rw [h.1.qJ h.2]
def Q2 (p:aJ):aJ:=(inv p.1,inv p.2)
theorem A5 (p:aJ):Qt (Qt p)=Q2 p:=rfl
theorem A6 (h:Vf n p):Q2 (Q2 p)=p:=by
 show (inv (inv p.1),inv (inv p.2))=p
 rw [h.1.inv_inv,h.2.inv_inv]
theorem Vf.q2 (h:Vf n p):Vf n (Q2 p):=⟨h.1.ax,h.2.ax⟩
theorem a7.q2 (h:Vf n p) (a:a7 n p q):a7 n (Q2 p) (Q2 q):=a7.qt h.qt (a7.qt h a)
theorem ui (h:Vf n p) (k:Int):a7 n (Q2 (Sh k p)) (Sh k (Q2 p)):=by
 have hx:=h.1
 have hy:=h.2
 refine ⟨b7 p.1 (-k),hx.b7 _,?_⟩
 show (inv p.1,aK (b7 (inv p.1) (-k)) (inv p.2))=(anew (inv p.1) (b7 p.1 (-k)),anew (inv (aK (b7 p.1 (-k)) p.2)) (b7 p.1 (-k)))
 have e1:anew (inv p.1) (b7 p.1 (-k))=inv p.1:=by
  unfold anew
  rw [A3 hx,<- Hg hx,wb hx,wb hx]
  congr 1;omega
 have e2:anew (inv (aK (b7 p.1 (-k)) p.2)) (b7 p.1 (-k))=aK (b7 (inv p.1) (-k)) (inv p.2):=by
  unfold anew
  rw [sF (hx.b7 _) hy,K5 hx,A3 hx,kU (hx.b7 _) (hy.ax.aK (hx.b7 _)) (hx.b7 _),kU hy.ax (hx.b7 _) (hx.b7 _),wb hx,show - -k + -k=0 by omega,Hf hx,rJ hy.ax]
 rw [e1,e2]
theorem A7 (h:Vf n p):a7 n (Qt (Sh 1 (Qt p))) (Sh (-1) (Qt (Sh (-1) p))):=by
 have hx:=h.1
 have hy:=h.2
 have l:Qt (Sh 1 (Qt p))=(aK (inv p.1) (inv p.2),inv p.2):=by
  show (inv (aK (b7 (inv p.2) (-1)) p.1),inv p.2)=_
  rw [K5 hy,show -(-1:Int)=1 by omega,yO hy,sF hy hx]
 have r:Sh (-1) (Qt (Sh (-1) p))=(aK (inv p.2) (inv p.1),inv p.2):=by
  show (inv (aK (b7 p.1 (-(-1))) p.2),aK (b7 (inv (aK (b7 p.1 (-(-1))) p.2)) (-(-1))) p.1)=_
  have hf:=hx.aK hy
  rw [show -(-1:Int)=1 by omega,yO hx,yO hf.ax,sF hx hy,He hy.ax hx]
 refine ⟨p.2,hy,?_⟩
 rw [l,r]
 show (aK (inv p.2) (inv p.1),inv p.2)=(aK (aK (inv p.2) (aK (inv p.1) (inv p.2))) p.2,aK (aK (inv p.2) (inv p.2)) p.2)
 rw [<- kU hy.ax hx.ax hy.ax,He (hy.ax.aK hx.ax) hy,He hy.ax hy]
theorem wc (h:Vf n p):a7 n (Qt (Sh (-1) (Qt p))) (Q2 (Sh 1 (Qt (Sh 1 p)))):=by
 have hx:=h.1
 have hy:=h.2
 have hu:=hx.ax.aK hy
 have l:Qt (Sh (-1) (Qt p))=(aK (inv p.1) p.2,inv p.2):=by
  show (inv (aK (b7 (inv p.2) (-(-1))) p.1),inv p.2)=_
  rw [show -(-1:Int)=1 by omega,yO hy.ax,sF hy.ax hx,hy.inv_inv]
 have r:Q2 (Sh 1 (Qt (Sh 1 p)))=(aK (inv p.1) p.2,aK (inv p.1) (aK (inv p.2) p.1)):=by
  show (inv (inv (aK (b7 p.1 (-1)) p.2)),inv (aK (b7 (inv (aK (b7 p.1 (-1)) p.2)) (-1)) p.1))=_
  rw [Hg hx,Hg hu.ax,hu.inv_inv,sF hu hx,sF hx.ax hy,hx.inv_inv]
 refine ⟨aK (inv p.2) p.1,hy.ax.aK hx,?_⟩
 rw [l,r]
 show (aK (inv p.1) p.2,aK (inv p.1) (aK (inv p.2) p.1))=(aK (aK (inv (aK (inv p.2) p.1)) (aK (inv p.1) p.2)) (aK (inv p.2) p.1),aK (aK (inv (aK (inv p.2) p.1)) (inv p.2)) (aK (inv p.2) p.1))
 have eg:inv (aK (inv p.2) p.1)=aK (inv p.1) p.2:=by rw [sF hy.ax hx,hy.inv_inv]
 have PQ:aK (inv p.2) p.1=inv (aK (inv p.1) p.2):=by rw [sF hx.ax hy,hx.inv_inv]
 rw [eg]
 have e1:aK (aK (aK (inv p.1) p.2) (aK (inv p.1) p.2)) (aK (inv p.2) p.1)=aK (inv p.1) p.2:=by rw [PQ,K4 hu hu]
 have e2:aK (aK (aK (inv p.1) p.2) (inv p.2)) (aK (inv p.2) p.1)=aK (inv p.1) (aK (inv p.2) p.1):=by rw [K4 hx.ax hy]
 rw [e1,e2]
end
def act:Int->List Int->aJ->aJ
 | k,[],p=>Sh k p
 | k,j :: ks,p=>act j ks (Qt (Sh k p))
def tS (k:Int):T4:=⟨1,k,0,1⟩
def gW (k:Int):T4:=⟨0,-1,1,k⟩
def gM:Int->List Int->T4
 | k,[]=>tS k
 | k,j :: ks=>(gM j ks).mul (gW k)
def jH (e:Bool) (M:T4):T4:=if e then ⟨-M.a,-M.b,-M.c,-M.d⟩ else M
def nG (e:Bool) (p:aJ):aJ:=if e then Q2 p else p
theorem A8 (e f:Bool) (M:T4):jH e (jH f M)=jH (e.xor f) M:=by
 cases e <;> cases f <;> simp [jH]
theorem A9 (e:Bool) (M N:T4):(jH e M).mul N=jH e (M.mul N):=by
 cases e
 ·rfl
 ·unfold jH T4.mul;simp only [if_true];congr 1 <;> grind
section
variable {n:Nat} {p q r:aJ}
theorem Vf.act:∀ {ks:List Int} {k:Int} {p:aJ},Vf n p->Vf n (af.act k ks p)
 | [],k,p,h=>h.sh k
 | j :: ks,k,p,h=>Vf.act (ks:=ks) (h.sh k).qt
theorem a7.act:∀ {ks:List Int} {k:Int} {p q:aJ},Vf n p->a7 n p q->a7 n (af.act k ks p) (af.act k ks q)
 | [],k,p,q,h,a=>a7.sh h a k
 | j :: ks,k,p,q,h,a=>a7.act (ks:=ks) (h.sh k).qt (a7.qt (h.sh k) (a7.sh h a k))
theorem a7.nG (h:Vf n p) (a:a7 n p q) (e:Bool):a7 n (af.nG e p) (af.nG e q):=by cases e;exact a;exact a7.q2 h a
theorem D0 (h:Vf n p) (e f:Bool):nG e (nG f p)=nG (e.xor f) p:=by
 cases e <;> cases f
 ·rfl
 ·rfl
 ·rfl
 ·exact A6 h
theorem Ba:∀ {ks:List Int} {k:Int} {p:aJ},Vf n p->a7 n (act k ks (Q2 p)) (Q2 (act k ks p))
 | [],k,p,h=>a7.symm (h.sh k).q2 (ui h k)
 | j :: ks,k,p,h=>by
  have h1:a7 n (Qt (Sh k (Q2 p))) (Qt (Q2 (Sh k p))):=a7.qt (h.q2.sh k) (a7.symm (h.sh k).q2 (ui h k))
  have h2:=a7.act (ks:=ks) (k:=j) ((h.q2.sh k).qt) h1
  have h3:=Ba (ks:=ks) (k:=j) (h.sh k).qt
  exact a7.trans (Vf.act (ks:=j :: ks) (k:=k) h.q2) h2 h3
theorem D1 {ks:List Int} {j k:Int} (h:Vf n p):act k ks (Sh j p)=act (j + k) ks p:=by
 cases ks with
 | nil=>exact rK h j k
 | cons i ks=>show act i ks (Qt (Sh k (Sh j p)))=act i ks (Qt (Sh (j + k) p));rw [rK h]
theorem K7 {ks:List Int} {k:Int} (h:Vf n p):act k ks (Qt p)=act 0 (k :: ks) p:=by show _=act k ks (Qt (Sh 0 p));rw [mT h]
theorem PR {a b:Int} {ks:List Int} {j:Int} (hj:j=0\/j=1\/j=-1):∃ (k':Int) (ks':List Int) (f:Bool),ks'.length < ks.length + 2/\gM a (j :: b :: ks)=jH f (gM k' ks')/\∀ {n:Nat} {p:aJ},Vf n p->a7 n (act a (j :: b :: ks) p) (nG f (act k' ks' p)):=by
 rcases hj with rfl | rfl | rfl
 ·refine ⟨a + b,ks,true,by omega,?_,fun {n p} h=>?_⟩
  ·cases ks with
   | nil=>simp [gM,jH,T4.mul,tS,gW];omega
   | cons i ks =>
    show (((gM i ks).mul (gW b)).mul (gW 0)).mul (gW a)=jH true ((gM i ks).mul (gW (a + b)))
    rw [T4.assoc,T4.assoc]
    have:(gW b).mul ((gW 0).mul (gW a))=jH true (gW (a + b)):=by simp [jH,T4.mul,gW];omega
    rw [this]
    unfold jH T4.mul;simp only [if_true];congr 1 <;> grind
  ·show a7 n (act b ks (Qt (Sh 0 (Qt (Sh a p))))) (Q2 (act (a + b) ks p))
   rw [mT (h.sh a).qt,A5,<- D1 h]
   exact Ba (h.sh a)
 ·refine ⟨a - 1,(b - 1) :: ks,false,by simp,?_,fun {n p} h=>?_⟩
  ·cases ks with
   | nil=>simp [gM,jH,T4.mul,tS,gW];refine ⟨?_,?_⟩ <;> grind
   | cons i ks =>
    show (((gM i ks).mul (gW b)).mul (gW 1)).mul (gW a)=((gM i ks).mul (gW (b - 1))).mul (gW (a - 1))
    rw [T4.assoc,T4.assoc,T4.assoc]
    have:(gW b).mul ((gW 1).mul (gW a))=(gW (b - 1)).mul (gW (a - 1)):=by simp [T4.mul,gW];refine ⟨?_,?_,?_⟩ <;> grind
    rw [this]
  ·show a7 n (act b ks (Qt (Sh 1 (Qt (Sh a p))))) (act (b - 1) ks (Qt (Sh (a - 1) p)))
   have h1:=a7.act (ks:=ks) (k:=b) ((h.sh a).qt.sh 1).qt (A7 (h.sh a))
   rw [D1 ((h.sh a).sh (-1)).qt,rK h,show -1 + b=b - 1 by omega,show a + -1=a - 1 by omega] at h1
   exact h1
 ·refine ⟨a + 1,(b + 1) :: ks,true,by simp,?_,fun {n p} h=>?_⟩
  ·cases ks with
   | nil=>simp [gM,jH,T4.mul,tS,gW];refine ⟨?_,?_⟩ <;> grind
   | cons i ks =>
    show (((gM i ks).mul (gW b)).mul (gW (-1))).mul (gW a)=jH true (((gM i ks).mul (gW (b + 1))).mul (gW (a + 1)))
    rw [T4.assoc,T4.assoc,T4.assoc]
    have:(gW b).mul ((gW (-1)).mul (gW a))=jH true ((gW (b + 1)).mul (gW (a + 1))):=by simp [jH,T4.mul,gW];refine ⟨?_,?_,?_⟩ <;> grind
    rw [this]
    unfold jH T4.mul;simp only [if_true];congr 1 <;> grind
  ·show a7 n (act b ks (Qt (Sh (-1) (Qt (Sh a p))))) (Q2 (act (b + 1) ks (Qt (Sh (a + 1) p))))
   have h1:=a7.act (ks:=ks) (k:=b) ((h.sh a).qt.sh (-1)).qt (wc (h.sh a))
   have h2:=Ba (ks:=ks) (k:=b) (((h.sh a).sh 1).qt.sh 1)
   rw [D1 ((h.sh a).sh 1).qt,rK h,show 1 + b=b + 1 by omega] at h2
   have h3:=a7.trans (Vf.act (ks:=ks) (k:=b) ((h.sh a).qt.sh (-1)).qt) h1 (by rw [rK h] at *;exact h2)
   exact h3
def big:List Int->Prop
 | []=>True
 | [_]=>True
 | j :: b :: ks=>(2<=j\/j<=-2)/\big (b :: ks)
theorem K8:∀ (ks:List Int) (k:Int),big ks\/∃ (k':Int) (ks':List Int) (f:Bool),ks'.length < ks.length/\gM k ks=jH f (gM k' ks')/\∀ {n:Nat} {p:aJ},Vf n p->a7 n (act k ks p) (nG f (act k' ks' p))
 | [],_=>.inl trivial
 | [_],_=>.inl trivial
 | j :: b :: ks,k=>by
  by_cases hj:j=0\/j=1\/j=-1
  ·obtain ⟨k',ks',f,hl,hm,ha⟩:=PR (a:=k) (b:=b) (ks:=ks) hj
   exact .inr ⟨k',ks',f,by simpa using hl,hm,ha⟩
  ·rcases K8 (b :: ks) j with h | ⟨k',ks',f,hl,hm,ha⟩
   ·exact .inl ⟨by omega,h⟩
   ·refine .inr ⟨k,k' :: ks',f,by simpa using hl,?_,fun {n p} h=>?_⟩
    ·show (gM j (b :: ks)).mul (gW k)=jH f ((gM k' ks').mul (gW k))
     rw [hm,A9]
    ·exact ha (h.sh k).qt
theorem K9:∀ (ks:List Int) (k:Int),big ks->(ks=[]\/2<=k\/k<=-2)->(gM k ks).c.natAbs < (gM k ks).d.natAbs
 | [],k,_,_=>by show (0:Int).natAbs < (1:Int).natAbs;decide
 | j :: ks,k,h,hk=>by
  have hk:2<=k\/k<=-2:=by rcases hk with hk | hk;cases hk;exact hk
  have hj:ks=[]\/2<=j\/j<=-2:=by
   cases ks with
   | nil=>exact .inl rfl
   | cons b ks=>exact .inr h.1
  have hb:big ks:=by
   cases ks with
   | nil=>trivial
   | cons b ks=>exact h.2
  have ih:=K9 ks j hb hj
  show ((gM j ks).c * 0 + (gM j ks).d * 1).natAbs < ((gM j ks).c * -1 + (gM j ks).d * k).natAbs
  generalize (gM j ks).c=c at ih
  generalize (gM j ks).d=d at ih
  rw [Int.mul_zero,Wj,Int.mul_one]
  have e:(d * k).natAbs=d.natAbs * k.natAbs:=Int.natAbs_mul d k
  have e2:d.natAbs * 2<=d.natAbs * k.natAbs:=Nat.mul_le_mul_left _ (by omega)
  omega
theorem Bb {ks:List Int} {k:Int} (h:big ks) (hn:ks≠[]):(gM k ks).c≠0:=by
 cases ks with
 | nil=>exact absurd rfl hn
 | cons j ks =>
  have hj:ks=[]\/2<=j\/j<=-2:=by
   cases ks with
   | nil=>exact .inl rfl
   | cons b ks=>exact .inr h.1
  have hb:big ks:=by
   cases ks with
   | nil=>trivial
   | cons b ks=>exact h.2
  have ih:=K9 ks j hb hj
  show (gM j ks).c * 0 + (gM j ks).d * 1≠0
  omega
theorem Hi:∀ (m:Nat) (ks:List Int) (k:Int),ks.length<=m->∀ (e:Bool),gM k ks=jH e T4.one->∀ {n:Nat} {p:aJ},Vf n p->a7 n (act k ks p) (nG e p):=by
 intro m
 induction m with
 | zero =>
  intro ks k hl e hm n p h
  have:ks=[]:=Wu (by omega)
  subst this
  have hm:(⟨1,k,0,1⟩:T4)=jH e T4.one:=hm
  cases e with
  | false =>
   have hk:k=0:=congrArg T4.b hm
   subst hk
   show a7 n (Sh 0 p) p
   rw [mT h];exact a7.refl h
  | true=>exact absurd (congrArg T4.a hm) (show ¬ (1:Int)=-1 by decide)
 | succ m ih =>
  intro ks k hl e hm n p h
  by_cases hn:ks=[]
  ·subst hn
   exact ih [] k (U8 _) e hm h
  ·rcases K8 ks k with hb | ⟨k',ks',f,hl',hm',ha⟩
   ·have:=Bb (k:=k) hb hn
    rw [hm] at this
    exact absurd (by cases e <;> rfl) this
   ·have hm2:gM k' ks'=jH (f.xor e) T4.one:=by
     have:jH f (gM k ks)=gM k' ks':=by rw [hm',A8,WD];rfl
     rw [<- this,hm,A8]
    have h1:=ih ks' k' (by omega) (f.xor e) hm2 h
    have h2:=a7.trans h.act (ha h) (a7.nG h.act h1 f)
    rw [D0 h,<- Bool.xor_assoc,WD,Bool.false_xor] at h2
    exact h2
end
def kq:Nat->aJ->aJ
 | 0,p=>p
 | j + 1,p=>Qt (kq j p)
def stM (p:aJ) (s:Sp):aJ:=if s.1=true then Sh s.2 p else kq s.2.toNat p
def d3 (p:aJ) (w:List Sp):aJ:=w.foldl stM p
section
variable {n:Nat} {p q:aJ}
theorem Vf.kq (h:Vf n p):∀ j,Vf n (af.kq j p)
 | 0=>h
 | j + 1=>(Vf.kq h j).qt
theorem Vf.st (h:Vf n p) (s:Sp):Vf n (stM p s):=by
 unfold stM
 split
 ·exact h.sh _
 ·exact h.kq _
theorem Vf.ld:∀ {w:List Sp} {p:aJ},Vf n p->Vf n (d3 p w)
 | [],_,h=>h
 | s :: w,p,h=>Vf.ld (w:=w) (h.st s)
theorem a7.kq (h:Vf n p) (a:a7 n p q):∀ j,a7 n (af.kq j p) (af.kq j q)
 | 0=>a
 | j + 1=>a7.qt (h.kq j) (a7.kq h a j)
theorem a7.st (h:Vf n p) (a:a7 n p q) (s:Sp):a7 n (stM p s) (stM q s):=by
 unfold stM
 split
 ·exact a7.sh h a _
 ·exact a7.kq h a _
theorem a7.ld:∀ {w:List Sp} {p q:aJ},Vf n p->a7 n p q->a7 n (d3 p w) (d3 q w)
 | [],_,_,_,a=>a
 | s :: w,p,q,h,a=>a7.ld (w:=w) (h.st s) (a7.st h a s)
theorem D2 (p:aJ) (u v:List Sp):d3 p (u ++ v)=d3 (d3 p u) v:=by unfold d3;rw [Vw]
end
theorem PU (s:Sp) (w:List Sp):cj (s :: w)=(cj w).mul (mD s):=by
 have:=vZ [s] w
 rw [show cj [s]=(mD s).mul T4.one from rfl,T4.mul_one] at this
 exact this
theorem La (e:Bool) (M N:T4):M.mul (jH e N)=jH e (M.mul N):=by
 cases e
 ·rfl
 ·unfold jH T4.mul;simp only [if_true];congr 1 <;> grind
theorem wg (ks:List Int) (j k:Int):(gM k ks).mul (tS j)=gM (j + k) ks:=by
 cases ks with
 | nil=>simp [gM,T4.mul,tS]
 | cons i ks =>
  show ((gM i ks).mul (gW k)).mul (tS j)=(gM i ks).mul (gW (j + k))
  rw [T4.assoc]
  congr 1
  simp [T4.mul,gW,tS]
theorem wj (ks:List Int) (k:Int):(gM k ks).mul T4.qt=gM 0 (k :: ks):=rfl
theorem Lb:∀ {w:List Sp},(∀ s∈w,gL s)->∃ (k:Int) (ks:List Int) (f:Bool),cj w=jH f (gM k ks)/\∀ {n:Nat} {p:aJ},Vf n p->a7 n (d3 p w) (nG f (act k ks p))
 | [],_=>⟨0,[],false,rfl,fun {n p} h=>by show a7 n p (Sh 0 p);rw [mT h];exact a7.refl h⟩
 | s :: w,hw=>by
  obtain ⟨k,ks,f,hm,ha⟩:=Lb (w:=w) fun x hx=>hw x (Uz _ hx)
  have hs:=hw s Uy
  obtain ⟨b,j⟩:=s
  rw [PU,hm]
  cases b with
  | true =>
   refine ⟨j + k,ks,f,?_,fun {n p} h=>?_⟩
   ·rw [A9];congr 1;exact wg ks j k
   ·have:=ha (h.sh j)
    rw [D1 h] at this
    exact this
  | false =>
   have c:j=1\/j=2\/j=3:=t3 (hs.1 rfl)
   rcases c with rfl | rfl | rfl
   ·refine ⟨0,k :: ks,f,?_,fun {n p} h=>?_⟩
    ·rw [A9];congr 1
    ·have:=ha h.qt
     rw [K7 h] at this
     exact this
   ·refine ⟨k,ks,!f,?_,fun {n p} h=>?_⟩
    ·rw [A9,show mD (false,2)=jH true T4.one from rfl,La,T4.mul_one,A8];cases f <;> rfl
    ·have h1:=ha h.q2
     have h2:=a7.trans (Vf.ld (w:=w) h.q2) h1 (a7.nG (Vf.act h.q2) (Ba h) f)
     have e:nG f (Q2 (act k ks p))=nG (!f) (act k ks p):=by
      have:=D0 (p:=act k ks p) h.act f true
      rw [Bool.xor_true] at this
      exact this
     rw [e] at h2
     exact h2
   ·refine ⟨0,k :: ks,!f,?_,fun {n p} h=>?_⟩
    ·have e3:mD (false,3)=jH true T4.qt:=rfl
     rw [A9,e3,La,A8,wj];cases f <;> rfl
    ·have h1:=ha (p:=Q2 (Qt p)) h.qt.q2
     have h2:=a7.trans (Vf.ld (w:=w) h.qt.q2) h1 (a7.nG (Vf.act h.qt.q2) (Ba h.qt) f)
     have e:nG f (Q2 (act k ks (Qt p)))=nG (!f) (act 0 (k :: ks) p):=by
      have:=D0 (p:=act k ks (Qt p)) h.qt.act f true
      rw [Bool.xor_true] at this
      rw [<- K7 h]
      exact this
     rw [e] at h2
     exact h2
theorem Lc {w:List Sp} (hw:∀ s∈w,gL s) (h1:cj w=T4.one) {n:Nat} {p:aJ} (h:Vf n p):a7 n (d3 p w) p:=by
 obtain ⟨k,ks,f,hm,ha⟩:=Lb hw
 have e:gM k ks=jH f T4.one:=by
  have:jH f (cj w)=gM k ks:=by rw [hm,A8,WD];rfl
  rw [<- this,h1]
 have h2:=Hi ks.length ks k (Ux _) f e h
 have h3:=a7.trans (Vf.ld h) (ha h) (a7.nG h.act h2 f)
 rw [D0 h,WD] at h3
 exact h3
theorem Bc {w:List Sp} (hw:∀ s∈w,gL s):∀ s∈ki w,gL s:=fun s hs=>by
 unfold ki at hs
 obtain ⟨t,ht,rfl⟩:=UH.mp (VQ.mp hs)
 exact AY (hw t ht)
theorem Hj {w:List Sp} (hw:∀ s∈w,gL s):cj (w ++ ki w)=T4.one:=by
 have hp:∀ s∈w ++ ki w,gL s:=fun s hs=>by
  rcases U5.mp hs with hs | hs
  ·exact hw s hs
  ·exact Bc hw s hs
 rw [<- K1 hp,Po hw];rfl
theorem PV {w:List Sp} (hw:∀ s∈w,gL s):(cj w).a * (cj w).d - (cj w).b * (cj w).c=1:=by
 have:=Hj hw
 rw [vZ,K2 hw] at this
 have h:=congrArg T4.a this
 have h:(cj w).d * (cj w).a + -(cj w).b * (cj w).c=1:=h
 rw [Int.mul_comm (cj w).d,Int.neg_mul] at h
 omega
theorem PX {M:T4} (h:M.a * M.d - M.b * M.c=1):M.mul M.rH=T4.one/\M.rH.mul M=T4.one:=by
 constructor <;> (apply T4.ext' <;> simp [T4.mul,T4.rH,T4.one] <;> grind)
theorem Ld {u w:List Sp} (hu:∀ s∈u,gL s) (hw:∀ s∈w,gL s) (e:cj u=cj w) {n:Nat} {p:aJ} (h:Vf n p):a7 n (d3 p u) (d3 p w):=by
 have hb:=Bc hw
 have h1:a7 n (d3 p (u ++ ki w)) p:=Lc (fun s hs=>by
  rcases U5.mp hs with hs | hs
  ·exact hu s hs
  ·exact hb s hs) (by rw [vZ,e,<- vZ];exact Hj hw) h
 rw [D2] at h1
 have h2:=a7.ld (w:=w) (Vf.ld (Vf.ld h)) h1
 rw [<- D2] at h2
 have h3:a7 n (d3 (d3 p u) (ki w ++ w)) (d3 p u):=Lc (fun s hs=>by
  rcases U5.mp hs with hs | hs
  ·exact hb s hs
  ·exact hw s hs) (by rw [vZ,K2 hw];exact (PX (PV hw)).1) (Vf.ld h)
 exact a7.trans (Vf.ld h) (a7.symm (Vf.ld (Vf.ld h)) h3) h2
def jo (p:aJ) (n:Nat) (s:Int):aJ:=(num p.1 (bf p.1 p.2 s n),num p.2 (bf p.1 p.2 s n))
def a8 (n:Nat) (p:aJ):aJ:=lK ((upto n).map (jo p n))
theorem oh {n:Nat} {p q:aJ} (n0:0 < n) (h:Vf n p) (a:a7 n p q):a8 n p=a8 n q:=by
 obtain ⟨g,hg,rfl⟩:=a
 have key:∀ s:Int,0<=s->s < (n:Int)->jo (anew p.1 g,anew p.2 g) n (app g s)=jo p n s:=fun s s0 s1=>by
  show (num (anew p.1 g) (bf (anew p.1 g) (anew p.2 g) (app g s) n),num (anew p.2 g) (bf (anew p.1 g) (anew p.2 g) (app g s) n))=_
  have hb:=pM h.1 h.2 s0 s1 n
  rw [AW h.1 h.2 hg s0 s1 n,DW h.1 hg hb,DW h.2 hg hb]
  rfl
 refine PD (fun x=>?_) (fun e=>?_)
 ·constructor
  ·intro hx
   obtain ⟨s,hs,rfl⟩:=UH.mp hx
   obtain ⟨s0,s1⟩:=kE.mp hs
   exact UH.mpr ⟨app g s,kE.mpr (hg.app s0 s1),key s s0 s1⟩
  ·intro hx
   obtain ⟨t,ht,rfl⟩:=UH.mp hx
   obtain ⟨t0,t1⟩:=kE.mp ht
   obtain ⟨p0,p1⟩:=hg.kZ t0 t1
   refine UH.mpr ⟨app (inv g) t,kE.mpr ⟨p0,p1⟩,?_⟩
   have:=key (app (inv g) t) p0 p1
   rw [hg.cX t0 t1] at this
   exact this.symm
 ·have:=congrArg List.length e
  rw [Uu,oC] at this
  simp at this
  omega
end af
namespace af
section
variable {n:Nat} {p q:aJ} {g h:List Int} {s t:Int}
structure Wh (n:Nat) (p:aJ):Prop where
 v:Vf n p
 all:∀ x:Int,0<=x->x < (n:Int)->iS p.1 p.2 x
theorem Wh.bf (w:Wh n p) (s0:0<=s) (s1:s < (n:Int)):Tn n (bf p.1 p.2 s n):=Ha w.v.1 w.v.2 s0 s1 w.all
theorem Le (xs ys:List Int) (s:Int) (n:Nat):app (bf xs ys s n) 0=s:=by
 have:=vW xs ys s 0 n
 rw [Wd] at this
 obtain ⟨t,e⟩:=this
 rw [<- e]
 rfl
def gF (p q:aJ) (n:Nat) (s t:Int):List Int:=aK (inv (bf p.1 p.2 s n)) (bf q.1 q.2 t n)
def Cg (n:Nat) (p q:aJ) (g:List Int):Prop:=Tn n g/\q=(anew p.1 g,anew p.2 g)
theorem uj (wp:Wh n p) (wq:Wh n q) (s0:0<=s) (s1:s < (n:Int)) (t0:0<=t) (t1:t < (n:Int)) (e:jo p n s=jo q n t):Cg n p q (gF p q n s t)/\app (gF p q n s t) s=t:=by
 have tb:=wp.bf s0 s1
 have tc:=wq.bf t0 t1
 have n0:0 < n:=by omega
 refine ⟨⟨tb.ax.aK tc,?_⟩,?_⟩
 ·unfold jo at e
  have e1:=congrArg Prod.fst e
  have e2:=congrArg Prod.snd e
  simp only at e1 e2
  rw [<- uh wp.v.1 tb,<- uh wq.v.1 tc] at e1
  rw [<- uh wp.v.2 tb,<- uh wq.v.2 tc] at e2
  have go:∀ {a b:List Int},Tn n a->Tn n b->anew a (inv (bf p.1 p.2 s n))=anew b (inv (bf q.1 q.2 t n))->b=anew a (gF p q n s t):=fun {a b} ta tb' e=>by
   unfold gF
   rw [<- Tn.jn ta tb.ax tc,e]
   have:=Tn.kF tb' tc.ax
   rw [tc.inv_inv] at this
   exact this.symm
  exact WJ (go wp.v.1 wq.v.1 e1) (go wp.v.2 wq.v.2 e2)
 ·unfold gF
  rw [nF s0 (by rw [yJ,tb.length];exact s1)]
  have:app (inv (bf p.1 p.2 s n)) s=0:=by
   have:=tb.fI (i:=0) (by decide) (by omega)
   rw [Le] at this
   exact this
  rw [this,Le]
theorem Bd (v:Vf n p) (c:Cg n p q g) (s0:0<=s) (s1:s < (n:Int)):jo q n (app g s)=jo p n s:=by
 obtain ⟨tg,rfl⟩:=c
 unfold jo
 have hb:=pM v.1 v.2 s0 s1 n
 show (num (anew p.1 g) (bf (anew p.1 g) (anew p.2 g) (app g s) n),num (anew p.2 g) (bf (anew p.1 g) (anew p.2 g) (app g s) n))=_
 rw [AW v.1 v.2 tg s0 s1 n,DW v.1 tg hb,DW v.2 tg hb]
theorem Be (w:Wh n p) (c:Cg n p q g) (s0:0<=s) (s1:s < (n:Int)):gF p q n s (app g s)=g:=by
 have tb:=w.bf s0 s1
 obtain ⟨tg,rfl⟩:=c
 unfold gF
 show aK (inv (bf p.1 p.2 s n)) (bf (anew p.1 g) (anew p.2 g) (app g s) n)=g
 rw [AW w.v.1 w.v.2 tg s0 s1 n]
 exact PH tb tg
def oE (p q:aJ) (n m:Nat):List (List Int):=((upto m).filter fun s=>decide (jo q m s=jo p n 0)).map fun s=>aK (inv (bf p.1 p.2 0 n)) (bf q.1 q.2 s m)
theorem Lf (w:Wh n p) (s0:0<=s) (s1:s < (n:Int)):(jo p n s).1.length=n:=by
 unfold jo num
 rw [Uu,(w.bf s0 s1).length]
theorem D3 (xs ys:List Int):∀ k,∀ y∈bf xs ys 0 k,iS xs ys y
 | 0,y,hy=>by rw [UP.mp (show y∈[(0:Int)] from hy)];exact .zero
 | k + 1,y,hy=>by
  have hy':y∈(match (bf xs ys 0 k)[k]? with | some x=>visit xs ys (bf xs ys 0 k) x | none=>bf xs ys 0 k):=hy
  split at hy'
  ·next z hz =>
   have uk:=D3 xs ys k z (UJ hz)
   rcases o8.mp hy' with hy' | rfl
   ·rcases o8.mp hy' with hy' | rfl
    ·exact D3 xs ys k y hy'
    ·exact uk.r
   ·exact uk.u
  ·exact D3 xs ys k y hy'
theorem um (w:Wh n p) (v:Vf n q) (n0:0 < n) (h:∀ F:List Int,F.Nodup->(∀ x∈F,0<=x/\x < (n:Int))->Cl q.1 q.2 F->Cl p.1 p.2 F):Wh n q:=by
 refine ⟨v,fun x x0 x1=>D3 q.1 q.2 n x ?_⟩
 have c:=h (bf q.1 q.2 0 n) (vX _ _ _ _) (pM v.1 v.2 (by decide) (by omega) n) (G9 v.1 v.2 (by decide) (by omega))
 refine c.all ?_ (w.all x x0 x1)
 have:=vW q.1 q.2 0 0 n
 rw [Wd] at this
 exact this.subset (show (0:Int)∈[(0:Int)] by simp)
theorem Lg {zs F:List Int} (hz:Tn n zs) (nd:F.Nodup) (hb:∀ x∈F,0<=x/\x < (n:Int)) (hc:∀ x∈F,app zs x∈F):∀ x∈F,app (inv zs) x∈F:=fun x hx=>by
 obtain ⟨x0,x1⟩:=hb x hx
 obtain ⟨a0,a1⟩:=hz.kZ x0 x1
 exact AV hz nd hb hc a0 a1 (by rw [hz.cX x0 x1];exact hx)
theorem Hk {zs F:List Int} (hc:∀ x∈F,app zs x∈F) {x:Int} (hx:x∈F):∀ k,bq zs x k∈F
 | 0=>hx
 | k + 1=>hc _ (Hk hc hx k)
theorem Bf {zs F:List Int} (hz:Tn n zs) (nd:F.Nodup) (hb:∀ x∈F,0<=x/\x < (n:Int)) (hc:∀ x∈F,app zs x∈F) (k:Int) {x:Int} (hx:x∈F):pw zs k x∈F:=by
 unfold pw
 split
 ·exact Hk hc hx _
 ·exact Hk (Lg hz nd hb hc) hx _
theorem Wh.sh (w:Wh n p) (n0:0 < n) (k:Int):Wh n (Sh k p):=by
 refine um w (w.v.sh k) n0 fun F nd hb hc x hx=>⟨(hc x hx).1,?_⟩
 obtain ⟨x0,x1⟩:=hb x hx
 have h1:∀ x∈F,app p.1 x∈F:=fun x hx=>(hc x hx).1
 have hy:=Bf w.v.1 nd hb h1 k hx
 have:=(hc _ hy).2
 obtain ⟨y0,y1⟩:=hb _ hy
 have e:app (Sh k p).2 (pw p.1 k x)=app p.2 x:=by
  show app (shr p.1 p.2 k) (pw p.1 k x)=_
  unfold shr
  have hlen:(b7 p.1 (-k)).length=n:=(w.v.1.b7 (-k)).length
  rw [nF y0 (by rw [hlen];exact y1)]
  congr 1
  have e3:=wb w.v.1 k (-k)
  rw [WG,Hf w.v.1] at e3
  have e4:app (aK (b7 p.1 k) (b7 p.1 (-k))) x=app (upto n) x:=by rw [e3]
  rw [DY x0 x1,nF x0 (by rw [(w.v.1.b7 k).length];exact x1)] at e4
  have e5:app (b7 p.1 k) x=pw p.1 k x:=oD x0 (by rw [w.v.1.length];exact x1)
  rw [e5] at e4
  exact e4
 rw [e] at this
 exact this
theorem Wh.qt (w:Wh n p) (n0:0 < n):Wh n (Qt p):=by
 refine um w w.v.qt n0 fun F nd hb hc x hx=>⟨(hc x hx).2,?_⟩
 have:=Lg w.v.2.ax nd hb (fun x hx=>(hc x hx).1) x hx
 rw [w.v.2.inv_inv] at this
 exact this
def Od (xs ys F:List Int):Prop:=F[0]?=some 0/\∀ (k:Nat) (y:Int),F[k + 1]?=some y->∃ (j:Nat) (x:Int),j<=k/\F[j]?=some x/\(y=app xs x\/y=app ys x)
theorem Od.one (xs ys:List Int):Od xs ys [0]:=⟨rfl,fun k y h=>by cases h⟩
theorem Od.snoc {xs ys F:List Int} {x y:Int} (h:Od xs ys F) (hx:x∈F) (hy:y=app xs x\/y=app ys x):Od xs ys (F ++ [y]):=by
 have hl:0 < F.length:=List.length_pos_of_mem hx
 refine ⟨by rw [UM hl];exact h.1,fun k z hz=>?_⟩
 by_cases hk:k + 1 < F.length
 ·rw [UM hk] at hz
  obtain ⟨j,x',hj,hx',e⟩:=h.2 k z hz
  exact ⟨j,x',hj,by rw [UM (by omega)];exact hx',e⟩
 ·rw [UR (by omega)] at hz
  have hz:z=y:=by
   cases h3:k + 1 - F.length with
   | zero=>rw [h3] at hz;cases hz;rfl
   | succ m=>rw [h3] at hz;cases hz
  obtain ⟨j,hj,e⟩:=VM hx
  have nS:k + 1=F.length\/F.length < k + 1:=by omega
  refine ⟨j,x,by omega,by rw [UM hj,Uv hj,e],by rw [hz];exact hy⟩
structure Fo (xs ys F:List Int):Prop extends Fd xs ys F where
 od:Od xs ys F
theorem Fo.one (xs ys:List Int):Fo xs ys [0]:=⟨Fd.one xs ys,Od.one xs ys⟩
end
end af
namespace af
section
variable {n:Nat} {xs ys r r' r2:List Int} {i j x y:Int}
def Sm (xs ys r:List Int):Prop:=∀ s∈r,app ys (app xs s)=app xs (app ys s)
instance:Decidable (Sm xs ys r):=inferInstanceAs (Decidable (∀ s∈r,app ys (app xs s)=app xs (app ys s)))
end
end af
namespace af
section
variable {n:Nat} {xs ys:List Int} {rs:List (List Int)} {lows:List (List Int)} {B:List Int->List (List Int)}
end
section
variable {n:Nat} {c g:List Int} {rs rs':List (List Int)}
def rn (p:aJ):List Int:=sC p.1 p.2
theorem PY {p:aJ} (v:Vf n p) (tg:Tn n g):rn (anew p.1 g,anew p.2 g)=anew (rn p) g:=by
 unfold rn sC
 show aK (aK (anew p.1 g) (anew p.2 g)) (aK (inv (anew p.1 g)) (inv (anew p.2 g)))=_
 rw [DZ v.1 tg,DZ v.2 tg,A4 v.1 v.2 tg,A4 v.1.ax v.2.ax tg,A4 (v.1.aK v.2) (v.1.ax.aK v.2.ax) tg]
theorem Bg {p:aJ} (v:Vf n p) (k:Int):rn (Sh k p)=anew (rn p) (b7 p.1 k):=by
 have t1:=v.1
 have t2:=v.2
 have tk:=t1.b7 k
 have tm:=t1.b7 (-k)
 unfold rn sC anew
 show aK (aK p.1 (aK (b7 p.1 (-k)) p.2)) (aK (inv p.1) (inv (aK (b7 p.1 (-k)) p.2)))=aK (aK (inv (b7 p.1 k)) (aK (aK p.1 p.2) (aK (inv p.1) (inv p.2)))) (b7 p.1 k)
 rw [sF tm t2,A3 t1,A3 t1,Int.neg_neg]
 have e1:aK p.1 (b7 p.1 (-k))=aK (b7 p.1 (-k)) p.1:=by
  have a:=wb t1 1 (-k)
  have b:=wb t1 (-k) 1
  rw [yO t1] at a b
  rw [a,b,Int.add_comm]
 have ti1:=t1.ax
 have ti2:=t2.ax
 rw [<- kU t1 tm t2,e1,kU tm t1 t2]
 rw [kU tm (t1.aK t2) (ti1.aK (ti2.aK tk)),kU tm ((t1.aK t2).aK (ti1.aK ti2)) tk,kU (t1.aK t2) (ti1.aK ti2) tk,kU ti1 ti2 tk]
theorem Bh {p:aJ} (v:Vf n p):rn (Qt p)=anew (rn p) p.2:=by
 have t1:=v.1
 have t2:=v.2
 have ti1:=t1.ax
 have ti2:=t2.ax
 unfold rn sC anew
 show aK (aK (inv p.2) p.1) (aK (inv (inv p.2)) (inv p.1))=aK (aK (inv p.2) (aK (aK p.1 p.2) (aK (inv p.1) (inv p.2)))) p.2
 rw [t2.inv_inv,kU ti2 t1 (t2.aK ti1),kU ti2 ((t1.aK t2).aK (ti1.aK ti2)) t2,kU (t1.aK t2) (ti1.aK ti2) t2,kU ti1 ti2 t2,A1 t2,rJ ti1,kU t1 t2 ti1]
theorem Bi {p:aJ} (v:Vf n p):Tn n (rn p):=v.1.sC v.2
def Ln (n:Nat) (p q:aJ):Prop:=∃ g,Tn n g/\rn q=anew (rn p) g
theorem Ln.refl {p:aJ} (v:Vf n p):Ln n p p:=⟨upto n,p5 n,by
 unfold anew
 have e:inv (upto n)=upto n:=A2 (p5 n) (p5 n) (rJ (p5 n))
 rw [e,yN (Bi v),rJ (Bi v)]⟩
theorem Ln.trans {p q r:aJ} (v:Vf n p) (a:Ln n p q) (b:Ln n q r):Ln n p r:=by
 obtain ⟨g,tg,e⟩:=a
 obtain ⟨h,th,e'⟩:=b
 exact ⟨aK g h,tg.aK th,by rw [e',e,(Bi v).jn tg th]⟩
theorem Ln.kq {p:aJ} (v:Vf n p):∀ j,Ln n p (af.kq j p):=by
 intro j
 induction j generalizing p with
 | zero=>exact Ln.refl v
 | succ j ih=>exact Ln.trans v (ih v) ⟨(af.kq j p).2,(v.kq j).2,Bh (v.kq j)⟩
theorem Ln.st {p:aJ} (v:Vf n p) (s:Sp):Ln n p (stM p s):=by
 unfold stM
 split
 ·exact ⟨_,v.1.b7 s.2,Bg v s.2⟩
 ·exact Ln.kq v _
theorem Ln.ld:∀ {w:List Sp} {p:aJ},Vf n p->Ln n p (d3 p w)
 | [],p,v=>Ln.refl v
 | s :: w,p,v=>Ln.trans v (Ln.st v s) (Ln.ld (w:=w) (v.st s))
end
section
variable {n:Nat} {p q:aJ} {g:List Int}
theorem Wh.kq (w:Wh n p) (n0:0 < n):∀ j,Wh n (af.kq j p)
 | 0=>w
 | j + 1=>(w.kq n0 j).qt n0
theorem Wh.st (w:Wh n p) (n0:0 < n) (s:Sp):Wh n (stM p s):=by
 unfold stM
 split
 ·exact w.sh n0 _
 ·exact w.kq n0 _
theorem Wh.ld (n0:0 < n):∀ {w:List Sp} {p:aJ},Wh n p->Wh n (d3 p w)
 | [],_,h=>h
 | s :: w,_,h=>Wh.ld n0 (w:=w) (h.st n0 s)
end
end af
namespace af
def nr (x y:Int):Int:=(2 * x + y).fdiv (2 * y)
end af
namespace af
section
variable {n:Nat} {p q:aJ}
theorem PZ (vp:Vf n p) (vq:Vf n q) (k:Int) (a:a7 n (Sh k p) (Sh k q)):a7 n p q:=by
 have h:=a7.sh (vp.sh k) a (-k)
 rw [rK vp,rK vq,WG,mT vp,mT vq] at h
 exact h
theorem Hl (p:aJ) (n0:0 < n):∃ s:Int,0<=s/\s < (n:Int)/\a8 n p=jo p n s:=by
 have h:=(Hd (l:=(upto n).map (jo p n)) (fun e=>by
  have:=congrArg List.length e
  rw [Uu,oC] at this
  simp at this
  omega)).1
 obtain ⟨s,hs,e⟩:=UH.mp h
 obtain ⟨s0,s1⟩:=kE.mp hs
 exact ⟨s,s0,s1,e.symm⟩
theorem wm (wp:Wh n p) (wq:Wh n q) (n0:0 < n) (e:a8 n p=a8 n q):a7 n p q:=by
 obtain ⟨s,s0,s1,es⟩:=Hl p n0
 obtain ⟨t,t0,t1,et⟩:=Hl q n0
 rw [es,et] at e
 obtain ⟨tg,eq⟩:=(uj wp wq s0 s1 t0 t1 e).1
 exact ⟨_,tg,eq⟩
theorem wo (n0:0 < n) (k:Int) (wp:Wh n p) (wq:Wh n q) (op:a8 n p=p) (oq:a8 n q=q) (e:a8 n (Sh k p)=a8 n (Sh k q)):p=q:=by
 have a:=PZ wp.v wq.v k (wm (wp.sh n0 k) (wq.sh n0 k) n0 e)
 rw [<- op,<- oq]
 exact oh n0 wp.v a
end
end af
namespace L4
open PySem PySem.Spec L2
inductive D where
 | non | bl (b:Bool) | int (i:Int) | str (x:Str) | ty (n:String) | tup (ds:List D) | ref (i:Nat)
instance:Inhabited D:=⟨.non⟩
inductive O where
 | lst (ds:List D) | lY (ds:List D) | dct (kvs:List (Key×D)) | D4 (kvs:List (List Int×D)) | exc (c:Str) (fs:List (Str×D)) | any | iT (lo hi:Int)
abbrev Store:=List O
abbrev aj:=List (Option D)
abbrev Dm (α:Type):=Store->Option (α×Store)
inductive Fl where
 | nx (δ:aj) | bk (δ:aj) | ct (δ:aj) | rt (d:D)
mutual
inductive Rp (K:Zfr) (ρ:List Addr) (H:Hp):V->D->Prop
 | non:Rp K ρ H .non .non
 | bl (b:Bool):Rp K ρ H (.bl b) (.bl b)
 | int (i:Int):Rp K ρ H (.int i) (.int i)
 | str (x:Str):Rp K ρ H (.str x) (.str x)
 | ty (n:String):Rp K ρ H (.ty n) (.ty n)
 | ref {a:Addr} {i:Nat}:ρ[i]?=some a->Rp K ρ H (.ref a) (.ref i)
 | tup {a:Addr} {vs:List V} {ds:List D}:eJ K H a vs->cy K ρ H vs ds->Rp K ρ H (.ref a) (.tup ds)
inductive cy (K:Zfr) (ρ:List Addr) (H:Hp):List V->List D->Prop
 | nil:cy K ρ H [] []
 | cons {v:V} {vs:List V} {d:D} {ds:List D}:Rp K ρ H v d->cy K ρ H vs ds->cy K ρ H (v :: vs) (d :: ds)
end
structure Mn (K:Zfr) (ρ:List Addr) (H:Hp) (ρ':List Addr) (H':Hp):Prop where
 r:∀ (i:Nat) (a:Addr),ρ[i]?=some a->ρ'[i]?=some a
 t:∀ a vs,eJ K H a vs->eJ K H' a vs
 f:∀ a o u,H a=some (.mJ o u)->H' a=some (.mJ o u)
 x:∀ a ws,H a=some (.xd ws)->H' a=some (.xd ws)
section
variable {K:Zfr} {ρ ρ' ρ2:List Addr} {H H' H2:Hp}
theorem Mn.refl:Mn K ρ H ρ H:=⟨fun _ _ h=>h,fun _ _ h=>h,fun _ _ _ h=>h,fun _ _ h=>h⟩
theorem Mn.trans (m:Mn K ρ H ρ' H') (n:Mn K ρ' H' ρ2 H2):Mn K ρ H ρ2 H2:=⟨fun i a h=>n.r i a (m.r i a h),fun a vs h=>n.t a vs (m.t a vs h),fun a o u h=>n.f a o u (m.f a o u h),fun a ws h=>n.x a ws (m.x a ws h)⟩
mutual
theorem Rp.mn (m:Mn K ρ H ρ' H'):∀ {v:V} {d:D},Rp K ρ H v d->Rp K ρ' H' v d
 | _,_,.non=>.non
 | _,_,.bl b=>.bl b
 | _,_,.int i=>.int i
 | _,_,.str x=>.str x
 | _,_,.ty n=>.ty n
 | _,_,.ref e=>.ref (m.r _ _ e)
 | _,_,.tup q r=>.tup (m.t _ _ q) (cy.mn m r)
theorem cy.mn (m:Mn K ρ H ρ' H'):∀ {vs:List V} {ds:List D},cy K ρ H vs ds->cy K ρ' H' vs ds
 | _,_,.nil=>.nil
 | _,_,.cons a b=>.cons (Rp.mn m a) (cy.mn m b)
end
theorem cy.length:∀ {vs:List V} {ds:List D},cy K ρ H vs ds->vs.length=ds.length
 | _,_,.nil=>rfl
 | _,_,.cons _ r=>by rw [U1,U1,r.length]
theorem cy.got:∀ {vs:List V} {ds:List D},cy K ρ H vs ds->∀ {i:Nat} {d:D},ds[i]?=some d->∃ v,vs[i]?=some v/\Rp K ρ H v d
 | _,_,.nil,i,v,e=>by simp at e
 | _,_,.cons (v:=v) a b,0,d,e=>⟨v,by simp,by have:_=d:=UD (by simpa using e);rw [<- this];exact a⟩
 | _,_,.cons a b,i + 1,d,e=>by
  obtain ⟨v,e1,r⟩:=cy.got b (i:=i) (by simpa using e)
  exact ⟨v,by simpa using e1,r⟩
theorem cy.append:∀ {vs:List V} {ds:List D} {ws:List V} {es:List D},cy K ρ H vs ds->cy K ρ H ws es->cy K ρ H (vs ++ ws) (ds ++ es)
 | _,_,_,_,.nil,s=>s
 | _,_,_,_,.cons a b,s=>.cons a (cy.append b s)
theorem cy.one {v:V} {d:D} (r:Rp K ρ H v d):cy K ρ H [v] [d]:=.cons r .nil
theorem cy.take:∀ {vs:List V} {ds:List D} (n:Nat),cy K ρ H vs ds->cy K ρ H (vs.take n) (ds.take n)
 | _,_,0,_=>.nil
 | _,_,_ + 1,.nil=>.nil
 | _,_,n + 1,.cons r t=>.cons r (cy.take n t)
theorem cy.drop:∀ {vs:List V} {ds:List D} (n:Nat),cy K ρ H vs ds->cy K ρ H (vs.drop n) (ds.drop n)
 | _,_,0,r=>r
 | _,_,_ + 1,.nil=>.nil
 | _,_,n + 1,.cons _ t=>cy.drop n t
theorem cy.set {v:V} {d:D} (r:Rp K ρ H v d):∀ {vs:List V} {ds:List D} (i:Nat),cy K ρ H vs ds->cy K ρ H (vs.set i v) (ds.set i d)
 | _,_,_,.nil=>.nil
 | _,_,0,.cons _ t=>.cons r t
 | _,_,i + 1,.cons q t=>.cons q (cy.set r i t)
theorem cy.erase:∀ {vs:List V} {ds:List D} (i:Nat),cy K ρ H vs ds->cy K ρ H (vs.eraseIdx i) (ds.eraseIdx i)
 | _,_,_,.nil=>.nil
 | _,_,0,.cons _ t=>t
 | _,_,i + 1,.cons q t=>.cons q (cy.erase i t)
theorem cy.flat {vs:List V} {ds:List D} (r:cy K ρ H vs ds):∀ n:Nat,cy K ρ H (List.replicate n vs).flatten (List.replicate n ds).flatten
 | 0=>.nil
 | n + 1=>by rw [Vi,Vi,VU,VU];exact r.append (r.flat n)
theorem cy.ints:∀ (ns:List Int),cy K ρ H (ns.map V.int) (ns.map D.int)
 | []=>.nil
 | n :: r=>.cons (.int n) (cy.ints r)
end
def Rs (K:Zfr) (ρ:List Addr) (H:Hp) (σ:St) (δ:aj):Prop:=σ.length=δ.length/\∀ (i:Nat) (d:D),δ[i]?=some (some d)->∃ v,σ[i]?=some (some v)/\Rp K ρ H v d
def Rk (K:Zfr) (ρ:List Addr) (H:Hp):List (Key×V)->List (Key×D)->Prop:=Paired fun p q=>p.1=q.1/\Rp K ρ H p.2 q.2
def Ru (K:Zfr) (ρ:List Addr) (H:Hp):List (List Int×D)->List (List Int×Addr×Value)->Prop:=Paired fun q x=>q.1=x.1/\eJ K H x.2.1 (x.1.map V.int)/\∃ v,RelV v x.2.2/\Rp K ρ H v q.2
def Xd (K:Zfr) (ρ:List Addr) (H:Hp):Option Addr->List (Str×D)->Prop
 | none,fs=>fs=[]
 | some d,fs=>∃ ws,H d=some (.xd ws)/\∀ f e,fs.lookup f=some e->∃ v,ws.lookup f=some v/\Rp K ρ H v e
def uo (K:Zfr) (ρ:List Addr) (H:Hp) (a:Addr):O->Prop
 | .lst ds=>∃ vs,H a=some (.lst vs)/\cy K ρ H vs ds
 | .lY ds=>∃ vs,Aq K H a vs/\cy K ρ H vs ds
 | .dct kvs=>∃ ws,H a=some (.dK ws)/\Rk K ρ H ws kvs
 | .D4 kvs=>∃ xs,H a=some (DU a xs)/\Ru K ρ H kvs xs
 | .exc c fs=>∃ C dx tr,PySem.W.nsIn K mainGlobals c=some (some (.ref C))/\H a=some (XO a C dx tr)/\Xd K ρ H dx fs
 | .any=>True
 | .iT lo hi=>H a=some (.iT lo hi)
def O.mut:O->Bool
 | .lY _=>false
 | .any=>false
 | _=>true
structure Rl (K:Zfr) (ρ:List Addr) (H:Hp) (st:Store):Prop where
 len:ρ.length=st.length
 nd:∀ (i j:Nat) (a:Addr) (o o':O),ρ[i]?=some a->ρ[j]?=some a->st[i]?=some o->st[j]?=some o'->o.mut=true->o'.mut=true->i=j
 obj:∀ (i:Nat) (a:Addr) (o:O),ρ[i]?=some a->st[i]?=some o->uo K ρ H a o
section
variable {K:Zfr} {ρ ρ' ρ2:List Addr} {H H' H2:Hp} {st st':Store} {a p:Addr} {i:Nat} {o o':O} {ho:HO} {σ:St} {δ:aj}
theorem Rs.mn (h:Rs K ρ H σ δ) (m:Mn K ρ H ρ' H'):Rs K ρ' H' σ δ:=⟨h.1,fun i d e=>let ⟨v,e1,r⟩:=h.2 i d e;⟨v,e1,r.mn m⟩⟩
theorem Rk.mn (m:Mn K ρ H ρ' H') {ws:List (Key×V)} {kvs:List (Key×D)} (h:Rk K ρ H ws kvs):Rk K ρ' H' ws kvs:=by
 induction h with
 | nil=>exact .nil
 | cons a _ ih=>exact .cons ⟨a.1,a.2.mn m⟩ ih
theorem Ru.mn (m:Mn K ρ H ρ' H') {kvs:List (List Int×D)} {xs:List (List Int×Addr×Value)} (h:Ru K ρ H kvs xs):Ru K ρ' H' kvs xs:=by
 induction h with
 | nil=>exact .nil
 | cons a _ ih=>obtain ⟨a1,a2,v,a3,a4⟩:=a;exact .cons ⟨a1,m.t _ _ a2,v,a3,a4.mn m⟩ ih
theorem Xd.mn (m:Mn K ρ H ρ' H') {dx:Option Addr} {fs:List (Str×D)} (h:Xd K ρ H dx fs):Xd K ρ' H' dx fs:=by
 cases dx with
 | none=>exact h
 | some d=>obtain ⟨ws,e,q⟩:=h;exact ⟨ws,m.x _ _ e,fun f e' z=>let ⟨v,z1,z2⟩:=q f e' z;⟨v,z1,z2.mn m⟩⟩
theorem uo.keep (m:Mn K ρ H ρ' H') (h:∀ u,H a=some u->H' a=some u) (r:uo K ρ H a o):uo K ρ' H' a o:=by
 cases o with
 | lst ds=>obtain ⟨vs,e,q⟩:=r;exact ⟨vs,h _ e,q.mn m⟩
 | lY ds =>
  obtain ⟨vs,e,q⟩:=r
  refine ⟨vs,?_,q.mn m⟩
  rcases e with ⟨u,e⟩ | e
  ·exact .inl ⟨u,h _ e⟩
  ·exact .inr e
 | dct kvs=>obtain ⟨ws,e,q⟩:=r;exact ⟨ws,h _ e,q.mn m⟩
 | D4 kvs=>obtain ⟨ws,e,q⟩:=r;exact ⟨ws,h _ e,q.mn m⟩
 | exc c fs=>obtain ⟨C,dx,tr,n,e,q⟩:=r;exact ⟨C,dx,tr,n,h _ e,q.mn m⟩
 | any=>trivial
 | iT lo hi=>exact h _ r
theorem Mn.same (s:iO H H'):Mn K ρ H ρ H':=⟨fun _ _ h=>h,fun _ _ h=>(Kp.of_same (ch:=[]) s).Gr h,fun _ _ _ h=>s _ _ h,fun _ _ h=>s _ _ h⟩
theorem Rl.same (l:Rl K ρ H st) (s:iO H H'):Rl K ρ H' st:=⟨l.len,l.nd,fun i a o h1 h2=>(l.obj i a o h1 h2).keep (Mn.same s) fun u e=>s _ _ e⟩
theorem Rl.at (l:Rl K ρ H st) (h1:ρ[i]?=some a) (h2:st[i]?=some o) (hm:o.mut=true):∃ u,H a=some u/\∀ x y,u≠.mJ x y:=by
 have r:=l.obj i a o h1 h2
 cases o with
 | lst ds=>obtain ⟨vs,e,_⟩:=r;exact ⟨_,e,fun x y z=>nomatch z⟩
 | lY ds=>cases hm
 | dct kvs=>obtain ⟨ws,e,_⟩:=r;exact ⟨_,e,fun x y z=>nomatch z⟩
 | D4 kvs=>obtain ⟨ws,e,_⟩:=r;exact ⟨_,e,fun x y z=>by cases z⟩
 | exc c fs=>obtain ⟨C,dx,tr,_,e,_⟩:=r;exact ⟨_,e,fun x y z=>by cases z⟩
 | any=>cases hm
 | iT lo hi=>exact ⟨_,r,fun x y z=>nomatch z⟩
theorem Mn.new (hp:H p=none):Mn K ρ H (ρ ++ [p]) (upd H p ho):=⟨fun i a h=>by
  obtain ⟨hi,_⟩:=Uw.mp h
  rw [UM hi];exact h,fun _ _ h=>(Kp.of_same (ch:=[]) (iO.up hp)).Gr h,fun _ _ _ h=>iO.up hp _ _ h,fun _ _ h=>iO.up hp _ _ h⟩
theorem Rl.new (l:Rl K ρ H st) (hp:H p=none) (mk:uo K (ρ ++ [p]) (upd H p ho) p o):Rl K (ρ ++ [p]) (upd H p ho) (st ++ [o]):=by
 have m:Mn K ρ H (ρ ++ [p]) (upd H p ho):=Mn.new hp
 have split:∀ (i:Nat) (a:Addr) (o':O),(ρ ++ [p])[i]?=some a->(st ++ [o])[i]?=some o'->(ρ[i]?=some a/\st[i]?=some o')\/(i=ρ.length/\a=p/\o'=o):=fun i a o' h1 h2=>by
  by_cases hi:i < ρ.length
  ·rw [UM hi] at h1
   rw [UM (by rw [<- l.len];exact hi)] at h2
   exact .inl ⟨h1,h2⟩
  ·obtain ⟨hb,_⟩:=Uw.mp h1
   rw [UG,VD] at hb
   have e:i=ρ.length:=by omega
   subst e
   rw [UR (Ux _),VS] at h1
   rw [l.len,UR (Ux _),VS] at h2
   exact .inr ⟨rfl,(UD h1).symm,(UD h2).symm⟩
 refine ⟨by rw [UG,UG,l.len];rfl,fun i j a u u' h1 h2 h3 h4 m1 m2=>?_,fun i a u h1 h2=>?_⟩
 ·rcases split i a u h1 h3 with ⟨g1,g2⟩ | ⟨rfl,rfl,rfl⟩ <;> rcases split j _ u' h2 h4 with ⟨k1,k2⟩ | ⟨k1,k2,k3⟩
  ·exact l.nd i j a u u' g1 k1 g2 k2 m1 m2
  ·subst k2
   obtain ⟨w,e,_⟩:=l.at g1 g2 m1
   rw [e] at hp;cases hp
  ·obtain ⟨w,e,_⟩:=l.at k1 k2 m2
   rw [e] at hp;cases hp
  ·exact k1.symm
 ·rcases split i a u h1 h2 with ⟨g1,g2⟩ | ⟨rfl,rfl,rfl⟩
  ·exact (l.obj i a u g1 g2).keep m fun w e=>iO.up hp _ _ e
  ·exact mk
theorem Rl.put (l:Rl K ρ H st) (hi:ρ[i]?=some a) (hs:st[i]?=some o) (hm:o.mut=true) (hm':o'.mut=true) (m:Mn K ρ H ρ (upd H a ho)) (r:uo K ρ (upd H a ho) a o'):Rl K ρ (upd H a ho) (st.set i o'):=by
 obtain ⟨w,ew,nf⟩:=l.at hi hs hm
 have P0:i < st.length:=(Uw.mp hs).1
 have old:∀ (j:Nat) (u:O),(st.set i o')[j]?=some u->(j=i/\u=o')\/(j≠i/\st[j]?=some u):=fun j u h=>by
  by_cases hj:i=j
  ·subst hj
   rw [UL P0] at h
   exact .inl ⟨rfl,(UD h).symm⟩
  ·rw [UX hj] at h
   exact .inr ⟨fun z=>hj z.symm,h⟩
 refine ⟨by rw [Vo];exact l.len,fun j k b u u' h1 h2 h3 h4 m1 m2=>?_,fun j b u h1 h2=>?_⟩
 ·rcases old j u h3 with ⟨rfl,rfl⟩ | ⟨nj,g3⟩ <;> rcases old k u' h4 with ⟨rfl,rfl⟩ | ⟨nk,g4⟩
  ·rfl
  ·exact l.nd _ _ b o u' h1 h2 hs g4 hm m2
  ·exact l.nd _ _ b u o h1 h2 g3 hs m1 hm
  ·exact l.nd _ _ b u u' h1 h2 g3 g4 m1 m2
 ·rcases old j u h2 with ⟨rfl,rfl⟩ | ⟨nj,g2⟩
  ·rw [hi] at h1;cases h1;exact r
  ·by_cases hb:b=a
   ·subst hb
    cases u with
    | lY ds =>
     obtain ⟨vs,e,q⟩:=l.obj j b _ h1 g2
     refine ⟨vs,?_,q.mn m⟩
     rcases e with ⟨x,e⟩ | e
     ·rw [ew] at e;cases e;exact absurd rfl (nf _ _)
     ·exact .inr e
    | lst ds=>exact absurd (l.nd j i b _ o h1 hi g2 hs rfl hm) nj
    | D4 ds=>exact absurd (l.nd j i b _ o h1 hi g2 hs rfl hm) nj
    | exc c fs=>exact absurd (l.nd j i b _ o h1 hi g2 hs rfl hm) nj
    | dct ds=>exact absurd (l.nd j i b _ o h1 hi g2 hs rfl hm) nj
    | any=>trivial
    | iT lo up=>exact absurd (l.nd j i b _ o h1 hi g2 hs rfl hm) nj
   ·exact (l.obj j b u h1 g2).keep m fun w e=>by rw [jk hb];exact e
theorem Mn.put {xs:List V} (e:H a=some (.lst xs)):Mn K ρ H ρ (upd H a ho):=⟨fun _ _ h=>h,fun b vs h=>(Kp.put (ch:=[a]) (o:=ho) Kp.refl (by simp) e).Gr h,fun b o u h=>by rw [jk (fun z=>by rw [z,e] at h;cases h)];exact h,fun b ws h=>by rw [jk (fun z=>by rw [z,e] at h;cases h)];exact h⟩
theorem Mn.putD {ws:List (Key×V)} (e:H a=some (.dK ws)):Mn K ρ H ρ (upd H a ho):=⟨fun _ _ h=>h,fun b vs q=>by
 have ne:∀ u,H b=some u->(∀ w,u≠.dK w)->b≠a:=fun u hu n z=>by rw [z,e] at hu;cases hu;exact n _ rfl
 rcases q with (q | ⟨o,q⟩) | q
 ·exact .inl (.inl (by rw [jk (ne _ q fun w z=>nomatch z)];exact q))
 ·exact .inl (.inr ⟨o,by rw [jk (ne _ q fun w z=>nomatch z)];exact q⟩)
 ·exact .inr q,fun b o u h=>by rw [jk (fun z=>by rw [z,e] at h;cases h)];exact h,fun b ws h=>by rw [jk (fun z=>by rw [z,e] at h;cases h)];exact h⟩
theorem Rl.newL {vs:List V} {ds:List D} (l:Rl K ρ H st) (hp:H p=none) (r:cy K ρ H vs ds):Rl K (ρ ++ [p]) (upd H p (.lst vs)) (st ++ [.lst ds]):=l.new hp ⟨vs,pX,r.mn (Mn.new hp)⟩
theorem Rl.newD {vs:List (Key×V)} {ds:List (Key×D)} (l:Rl K ρ H st) (hp:H p=none) (r:Rk K ρ H vs ds):Rl K (ρ ++ [p]) (upd H p (.dK vs)) (st ++ [.dct ds]):=l.new hp ⟨vs,pX,r.mn (Mn.new hp)⟩
theorem newR (l:Rl K ρ H st) (v:D:=.ref st.length):(ρ ++ [p])[st.length]?=some p:=by rw [<- l.len,UR (Ux _),VS];rfl
theorem Rl.putL {vs:List V} {ds xs:List D} (l:Rl K ρ H st) (hi:ρ[i]?=some a) (hs:st[i]?=some (.lst xs)) (r:cy K ρ H vs ds):Rl K ρ (upd H a (.lst vs)) (st.set i (.lst ds))/\Mn K ρ H ρ (upd H a (.lst vs)):=by
 obtain ⟨ws,e,_⟩:=l.obj i a _ hi hs
 have m:Mn K ρ H ρ (upd H a (.lst vs)):=Mn.put e
 exact ⟨l.put hi hs rfl rfl m ⟨vs,pX,r.mn m⟩,m⟩
theorem Rl.wt {vs:List (Key×V)} {ds xs:List (Key×D)} (l:Rl K ρ H st) (hi:ρ[i]?=some a) (hs:st[i]?=some (.dct xs)) (r:Rk K ρ H vs ds):Rl K ρ (upd H a (.dK vs)) (st.set i (.dct ds))/\Mn K ρ H ρ (upd H a (.dK vs)):=by
 obtain ⟨ws,e,_⟩:=l.obj i a _ hi hs
 have m:Mn K ρ H ρ (upd H a (.dK vs)):=Mn.putD e
 exact ⟨l.put hi hs rfl rfl m ⟨vs,pX,r.mn m⟩,m⟩
def items (st:Store) (i:Nat):Option (List D):=match st[i]? with
 | some (.lst ds)=>some ds
 | some (.lY ds)=>some ds
 | _=>none
theorem Rl.items {ds:List D} (l:Rl K ρ H st) (hi:ρ[i]?=some a) (h:items st i=some ds):∃ vs,iN K H a vs/\cy K ρ H vs ds:=by
 unfold L4.items at h
 split at h
 ·next ds' hs=>cases h;obtain ⟨vs,e,r⟩:=l.obj i a _ hi hs;exact ⟨vs,.inl (.inl e),r⟩
 ·next ds' hs=>cases h;obtain ⟨vs,e,r⟩:=l.obj i a _ hi hs;exact ⟨vs,e.sq,r⟩
 ·cases h
end
def So (K:Zfr) {α β:Type} (R:List Addr->Hp->α->β->Prop) (t:St->Hp->(α->Hp->Prop)->Prop) (f:aj->Dm β):Prop :=
 ∀ (ρ:List Addr) (σ:St) (H:Hp) (δ:aj) (st:Store) (b:β) (st':Store) (Q:α->Hp->Prop),Rl K ρ H st->Rs K ρ H σ δ->f δ st=some (b,st') ->
  (∀ a H' ρ',Mn K ρ H ρ' H'->Rl K ρ' H' st'->R ρ' H' a b->Q a H')->t σ H Q
abbrev gp (K:Zfr) (t:TE) (f:aj->Dm D):Prop:=So K (Rp K) t f
abbrev o9 (K:Zfr) (t:TT) (f:aj->Dm Bool):Prop:=So K (fun _ _=>Eq) t f
abbrev pd (K:Zfr) (t:TA) (f:aj->Dm (List D)):Prop:=So K (cy K) t f
abbrev D5 (K:Zfr) (t:TO) (f:aj->Dm (Option Int)):Prop:=So K (fun _ _=>Eq) t f
def Hm (K:Zfr) (r:V->Hp->VK->Prop) (g:D->Dm D):Prop :=
 ∀ (ρ:List Addr) (H:Hp) (st:Store) (x:V) (a:D) (b:D) (st':Store) (Q:VK),Rl K ρ H st->Rp K ρ H x a->g a st=some (b,st')->(∀ v H' ρ',Mn K ρ H ρ' H'->Rl K ρ' H' st'->Rp K ρ' H' v b->Q v H')->r x H Q
def lz (K:Zfr) (r:R2) (g:D->D->Dm D):Prop :=
 ∀ (ρ:List Addr) (H:Hp) (st:Store) (x y:V) (a c:D) (b:D) (st':Store) (Q:VK),Rl K ρ H st->Rp K ρ H x a->Rp K ρ H y c->g a c st=some (b,st')->(∀ v H' ρ',Mn K ρ H ρ' H'->Rl K ρ' H' st'->Rp K ρ' H' v b->Q v H')->r x y H Q
def sG (K:Zfr) (r:List V->Hp->VK->Prop) (g:List D->Dm D):Prop :=
 ∀ (ρ:List Addr) (H:Hp) (st:Store) (xs:List V) (as:List D) (b:D) (st':Store) (Q:VK),Rl K ρ H st->cy K ρ H xs as->g as st=some (b,st')->(∀ v H' ρ',Mn K ρ H ρ' H'->Rl K ρ' H' st'->Rp K ρ' H' v b->Q v H')->r xs H Q
def Bj (K:Zfr) (T:String) (r:V->List V->Hp->VK->Prop) (g:D->List D->Dm D):Prop :=
 ∀ (ρ:List Addr) (H:Hp) (st:Store) (x:V) (xs:List V) (a:D) (as:List D) (b:D) (st':Store) (Q:VK),Rl K ρ H st->Rp K ρ H x a->cy K ρ H xs as->g a as st=some (b,st')->(∀ v H' ρ',Mn K ρ H ρ' H'->Rl K ρ' H' st'->Rp K ρ' H' v b->Q v H')->r x xs H Q
def bnd {α β:Type} (m:Option (α×Store)) (k:α->Dm β):Option (β×Store):=match m with
 | some (a,st)=>k a st
 | none=>none
theorem dU {α β:Type} {m:Option (α×Store)} {k:α->Dm β} {r:β×Store} (h:bnd m k=some r):∃ a st,m=some (a,st)/\k a st=some r:=by
 cases m with
 | none=>cases h
 | some p=>exact ⟨p.1,p.2,rfl,h⟩
section
variable {K:Zfr}
def ag (i:Nat):aj->Dm D:=fun δ st=>match δ[i]? with
 | some (some d)=>some (d,st)
 | _=>none
theorem ai (i:Nat):gp K (vd i) (ag i):=by
 intro ρ σ H δ st b st' Q l rs e q
 unfold ag at e
 split at e
 ·next d hd=>cases e;obtain ⟨v,ev,r⟩:=rs.2 i _ hd;exact ⟨v,ev,q v H ρ .refl l r⟩
 ·cases e
def fC (d:D):aj->Dm D:=fun _ st=>some (d,st)
theorem sH {v:V} {d:D} (h:∀ ρ H,Rp K ρ H v d):gp K (tC v) (fC d):=by
 intro ρ σ H δ st b st' Q l rs e q
 cases e
 exact q v H ρ .refl l (h ρ H)
theorem aS (i:Int):gp K (tC (.int i)) (fC (.int i)):=sH fun _ _=>.int i
theorem nV (b:Bool):gp K (tC (.bl b)) (fC (.bl b)):=sH fun _ _=>.bl b
theorem pN (x:Str):gp K (tC (.str x)) (fC (.str x)):=sH fun _ _=>.str x
def aG (g:D->D->Dm D) (fa fb:aj->Dm D):aj->Dm D:=fun δ st=>bnd (fa δ st) fun a st1=>bnd (fb δ st1) fun b st2=>g a b st2
theorem aH {r:R2} {g:D->D->Dm D} {ta tb:TE} {fa fb:aj->Dm D} (hr:lz K r g) (ha:gp K ta fa) (hb:gp K tb fb):gp K (zP r ta tb) (aG g fa fb):=by
 intro ρ σ H δ st b st' Q l rs e q
 obtain ⟨a,st1,e1,e⟩:=dU e
 obtain ⟨c,st2,e2,e⟩:=dU e
 refine ha ρ σ H δ st a st1 _ l rs e1 fun x H1 ρ1 m1 l1 r1=>hb ρ1 σ H1 δ st1 c st2 _ l1 (rs.mn m1) e2 fun y H2 ρ2 m2 l2 r2=>?_
 exact hr ρ2 H2 st2 x y a c b st' Q l2 (r1.mn m2) r2 e fun v H3 ρ3 m3 l3 r3=>q v H3 ρ3 ((m1.trans m2).trans m3) l3 r3
def sI (g:D->Dm D) (fa:aj->Dm D):aj->Dm D:=fun δ st=>bnd (fa δ st) fun a st1=>g a st1
theorem wu {r:V->Hp->VK->Prop} {g:D->Dm D} {ta:TE} {fa:aj->Dm D} (hr:Hm K r g) (ha:gp K ta fa):gp K (Jo r ta) (sI g fa):=by
 intro ρ σ H δ st b st' Q l rs e q
 obtain ⟨a,st1,e1,e⟩:=dU e
 exact ha ρ σ H δ st a st1 _ l rs e1 fun x H1 ρ1 m1 l1 r1=>hr ρ1 H1 st1 x a b st' Q l1 r1 e fun v H3 ρ3 m3 l3 r3=>q v H3 ρ3 (m1.trans m3) l3 r3
def ah:aj->Dm (List D):=fun _ st=>some ([],st)
def ae (fa:aj->Dm D) (fr:aj->Dm (List D)):aj->Dm (List D):=fun δ st=>bnd (fa δ st) fun a st1=>bnd (fr δ st1) fun r st2=>some (a :: r,st2)
theorem az:pd K zZ ah:=by
 intro ρ σ H δ st b st' Q l rs e q
 cases e
 exact q [] H ρ .refl l .nil
theorem au {ta:TE} {tr:TA} {fa:aj->Dm D} {fr:aj->Dm (List D)} (ha:gp K ta fa) (hr:pd K tr fr):pd K (tO ta tr) (ae fa fr):=by
 intro ρ σ H δ st b st' Q l rs e q
 obtain ⟨a,st1,e1,e⟩:=dU e
 obtain ⟨c,st2,e2,e⟩:=dU e
 cases e
 exact ha ρ σ H δ st a st1 _ l rs e1 fun x H1 ρ1 m1 l1 r1=>hr ρ1 σ H1 δ st1 c _ _ l1 (rs.mn m1) e2 fun y H2 ρ2 m2 l2 r2=>q _ H2 ρ2 (m1.trans m2) l2 (.cons (r1.mn m2) r2)
def lim (n:Nat):Bool:=Nat.ble n 100000
theorem Bl {n:Nat} (h:lim n=true):n<=sizeLine:=UZ (Wq h) (by decide)
theorem Hn {n:Nat} (h:lim n=true):n < sizeLine:=Vt (Wq h) (by decide)
def dC (fa:aj->Dm (List D)):aj->Dm D:=fun δ st=>bnd (fa δ st) fun as st1=>if lim as.length=true then some (.tup as,st1) else none
theorem kG {ta:TA} {fa:aj->Dm (List D)} (ha:pd K ta fa):gp K (z8 ta) (dC fa):=by
 intro ρ σ H δ st b st' Q l rs e q
 obtain ⟨as,st1,e1,e⟩:=dU e
 split at e
 ·next hl =>
  cases e
  refine ha ρ σ H δ st as _ _ l rs e1 fun xs H1 ρ1 m1 l1 r1=>⟨by rw [r1.length];exact Bl hl,fun p hp=>?_⟩
  have m2:Mn K ρ1 H1 ρ1 (upd H1 p (.tup xs)):=Mn.same (iO.up hp)
  exact q _ _ ρ1 (m1.trans m2) (l1.same (iO.up hp)) (.tup (eJ.of pX) (r1.mn m2))
 ·cases e
def dI (fa:aj->Dm (List D)):aj->Dm D:=fun δ st=>bnd (fa δ st) fun as st1=>if lim as.length=true then some (.ref st1.length,st1 ++ [.lst as]) else none
theorem lb {ta:TA} {fa:aj->Dm (List D)} (ha:pd K ta fa):gp K (z9 ta) (dI fa):=by
 intro ρ σ H δ st b st' Q l rs e q
 obtain ⟨as,st1,e1,e⟩:=dU e
 split at e
 ·next hl =>
  cases e
  refine ha ρ σ H δ st as _ _ l rs e1 fun xs H1 ρ1 m1 l1 r1=>⟨by rw [r1.length];exact Bl hl,fun p hp=>?_⟩
  exact q _ _ _ (m1.trans (Mn.new hp)) (l1.newL hp r1) (.ref (newR l1))
 ·cases e
def aC (fa:aj->Dm D):aj->Dm Bool:=fun δ st=>bnd (fa δ st) fun a st1=>match a with
 | .bl b=>some (b,st1)
 | _=>none
theorem eX {ta:TE} {fa:aj->Dm D} (ha:gp K ta fa):o9 K (tN ta) (aC fa):=by
 intro ρ σ H δ st b st' Q l rs e q
 obtain ⟨a,st1,e1,e⟩:=dU e
 cases a <;> simp at e
 obtain ⟨rfl,rfl⟩:=e
 refine ha ρ σ H δ st _ _ _ l rs e1 fun x H1 ρ1 m1 l1 r1=>?_
 cases r1
 exact ⟨_,rfl,q _ H1 ρ1 m1 l1 rfl⟩
theorem D6 {ta:TE} {fa:aj->Dm D} (ha:gp K ta fa):o9 K (tB ta) (aC fa):=eX ha
def mf (fa:aj->Dm Bool):aj->Dm Bool:=fun δ st=>bnd (fa δ st) fun a st1=>some (!a,st1)
theorem Ho {ta:TT} {fa:aj->Dm Bool} (ha:o9 K ta fa):o9 K (zE ta) (mf fa):=by
 intro ρ σ H δ st b st' Q l rs e q
 obtain ⟨a,st1,e1,e⟩:=dU e
 cases e
 exact ha ρ σ H δ st _ _ _ l rs e1 fun x H1 ρ1 m1 l1 r1=>q _ H1 ρ1 m1 l1 (by rw [r1])
def lg (fa fb:aj->Dm Bool):aj->Dm Bool:=fun δ st=>bnd (fa δ st) fun a st1=>if a=true then fb δ st1 else some (false,st1)
def wx (fa fb:aj->Dm Bool):aj->Dm Bool:=fun δ st=>bnd (fa δ st) fun a st1=>if a=true then some (true,st1) else fb δ st1
theorem D7 {ta tb:TT} {fa fb:aj->Dm Bool} (ha:o9 K ta fa) (hb:o9 K tb fb):o9 K (zD ta tb) (lg fa fb):=by
 intro ρ σ H δ st b st' Q l rs e q
 obtain ⟨a,st1,e1,e⟩:=dU e
 refine ha ρ σ H δ st _ _ _ l rs e1 fun x H1 ρ1 m1 l1 r1=>?_
 subst r1
 cases x with
 | true =>
  refine pJ ?_
  rw [if_pos rfl] at e
  exact hb ρ1 σ H1 δ st1 b st' _ l1 (rs.mn m1) e fun y H2 ρ2 m2 l2 r2=>q y H2 ρ2 (m1.trans m2) l2 r2
 | false =>
  refine pI ?_
  rw [if_neg UE] at e
  cases e
  exact q _ H1 ρ1 m1 l1 rfl
theorem D8 {ta tb:TT} {fa fb:aj->Dm Bool} (ha:o9 K ta fa) (hb:o9 K tb fb):o9 K (Ji ta tb) (wx fa fb):=by
 intro ρ σ H δ st b st' Q l rs e q
 obtain ⟨a,st1,e1,e⟩:=dU e
 refine ha ρ σ H δ st _ _ _ l rs e1 fun x H1 ρ1 m1 l1 r1=>?_
 subst r1
 cases x with
 | false =>
  refine pI ?_
  rw [if_neg UE] at e
  exact hb ρ1 σ H1 δ st1 b st' _ l1 (rs.mn m1) e fun y H2 ρ2 m2 l2 r2=>q y H2 ρ2 (m1.trans m2) l2 r2
 | true =>
  refine pJ ?_
  rw [if_pos rfl] at e
  cases e
  exact q _ H1 ρ1 m1 l1 rfl
def mE (fa fb:aj->Dm D):aj->Dm D:=fun δ st=>bnd (aC fa δ st) fun a st1=>if a=true then fb δ st1 else some (.bl false,st1)
def Bm (fa fb:aj->Dm D):aj->Dm D:=fun δ st=>bnd (aC fa δ st) fun a st1=>if a=true then some (.bl true,st1) else fb δ st1
def uq (fa:aj->Dm D):aj->Dm D:=fun δ st=>bnd (aC fa δ st) fun a st1=>some (.bl (!a),st1)
theorem P1 {fa:aj->Dm D} {δ:aj} {st st1:Store} {b:Bool} (h:aC fa δ st=some (b,st1)):fa δ st=some (.bl b,st1):=by
 obtain ⟨a,st2,e1,e⟩:=dU h
 cases a <;> simp at e
 obtain ⟨rfl,rfl⟩:=e
 exact e1
theorem Hq {ta tb:TE} {fa fb:aj->Dm D} (ha:gp K ta fa) (hb:gp K tb fb):gp K (tw ta tb) (mE fa fb):=by
 intro ρ σ H δ st b st' Q l rs e q
 obtain ⟨a,st1,e1,e⟩:=dU e
 refine ha ρ σ H δ st _ _ _ l rs (P1 e1) fun x H1 ρ1 m1 l1 r1=>?_
 cases r1
 refine ⟨a,rfl,?_⟩
 cases a with
 | true =>
  refine pJ ?_
  rw [if_pos rfl] at e
  exact hb ρ1 σ H1 δ st1 b st' _ l1 (rs.mn m1) e fun y H2 ρ2 m2 l2 r2=>q y H2 ρ2 (m1.trans m2) l2 r2
 | false =>
  refine pI ?_
  rw [if_neg UE] at e
  cases e
  exact q _ H1 ρ1 m1 l1 (.bl _)
def fV {β:Type} (c:aj->Dm Bool) (fa fb:aj->Dm β):aj->Dm β:=fun δ st=>bnd (c δ st) fun a st1=>if a=true then fa δ st1 else fb δ st1
def kj:aj->Dm (Option Int):=fun _ st=>some (none,st)
def kW (fa:aj->Dm D):aj->Dm (Option Int):=fun δ st=>bnd (fa δ st) fun a st1=>match a with
 | .int i=>some (some i,st1)
 | _=>none
theorem Hr:D5 K oT kj:=by
 intro ρ σ H δ st b st' Q l rs e q
 cases e
 exact q _ H ρ .refl l rfl
theorem Bn {ta:TE} {fa:aj->Dm D} (ha:gp K ta fa):D5 K (tQ ta) (kW fa):=by
 intro ρ σ H δ st b st' Q l rs e q
 obtain ⟨a,st1,e1,e⟩:=dU e
 cases a <;> simp at e
 obtain ⟨rfl,rfl⟩:=e
 refine ha ρ σ H δ st _ _ _ l rs e1 fun x H1 ρ1 m1 l1 r1=>?_
 cases r1
 exact ⟨_,rfl,q _ H1 ρ1 m1 l1 rfl⟩
def wy (K:Zfr) (r:V->Option Int->Option Int->Hp->VK->Prop) (g:D->Option Int->Option Int->Dm D):Prop :=
 ∀ lo hi,Hm K (fun x=>r x lo hi) (fun a=>g a lo hi)
def wz (g:D->Option Int->Option Int->Dm D) (fa:aj->Dm D) (fl fh:aj->Dm (Option Int)):aj->Dm D:=fun δ st=>bnd (fa δ st) fun a st1=>bnd (fl δ st1) fun lo st2=>bnd (fh δ st2) fun hi st3=>g a lo hi st3
theorem D9 {r:V->Option Int->Option Int->Hp->VK->Prop} {g:D->Option Int->Option Int->Dm D} {ta:TE} {tl th:TO} {fa:aj->Dm D} {fl fh:aj->Dm (Option Int)} (hr:wy K r g) (ha:gp K ta fa) (hl:D5 K tl fl) (hh:D5 K th fh):gp K (JH r ta tl th) (wz g fa fl fh):=by
 intro ρ σ H δ st b st' Q l rs e q
 obtain ⟨a,st1,e1,e⟩:=dU e
 obtain ⟨lo,st2,e2,e⟩:=dU e
 obtain ⟨hi,st3,e3,e⟩:=dU e
 refine ha ρ σ H δ st a st1 _ l rs e1 fun x H1 ρ1 m1 l1 r1=>hl ρ1 σ H1 δ st1 lo st2 _ l1 (rs.mn m1) e2 fun y H2 ρ2 m2 l2 r2=>hh ρ2 σ H2 δ st2 hi st3 _ l2 (rs.mn (m1.trans m2)) e3 fun z H3 ρ3 m3 l3 r3=>?_
 subst r2 r3
 exact hr y z ρ3 H3 st3 x a b st' Q l3 (r1.mn (m2.trans m3)) e fun v H4 ρ4 m4 l4 r4=>q v H4 ρ4 (((m1.trans m2).trans m3).trans m4) l4 r4
def aM (g:List D->Dm D) (fa:aj->Dm (List D)):aj->Dm D:=fun δ st=>bnd (fa δ st) fun as st1=>g as st1
theorem cO {r:List V->Hp->VK->Prop} {g:List D->Dm D} {ta:TA} {fa:aj->Dm (List D)} (hr:sG K r g) (ha:pd K ta fa):gp K (F4 r ta) (aM g fa):=by
 intro ρ σ H δ st b st' Q l rs e q
 obtain ⟨as,st1,e1,e⟩:=dU e
 exact ha ρ σ H δ st as st1 _ l rs e1 fun x H1 ρ1 m1 l1 r1=>hr ρ1 H1 st1 x as b st' Q l1 r1 e fun v H3 ρ3 m3 l3 r3=>q v H3 ρ3 (m1.trans m3) l3 r3
def bg (K:Zfr) (n:Nat) (F:List D->Dm D):Sp:=fun vs H Q _=>vs.length=n/\∃ (ρ:List Addr) (st:Store) (ds:List D) (b:D) (st':Store),Rl K ρ H st/\cy K ρ H vs ds/\F ds st=some (b,st') /\
 ∀ v H' ρ',Mn K ρ H ρ' H'->Rl K ρ' H' st'->Rp K ρ' H' v b->Q v H'
theorem b8 {n:Nat} {F:List D->Dm D} {ta:TA} {fa:aj->Dm (List D)} {E:XK} (ha:pd K ta fa) (hn:∀ δ st as st',fa δ st=some (as,st')->as.length=n):gp K (nR (bg K n F) [] E ta) (aM F fa):=by
 intro ρ σ H δ st b st' Q l rs e q
 obtain ⟨as,st1,e1,e⟩:=dU e
 refine ha ρ σ H δ st as st1 _ l rs e1 fun vs H1 ρ1 m1 l1 r1=>⟨?_,ρ1,st1,as,b,st',l1,?_,e,fun v H3 ρ3 m3 l3 r3=>q v H3 ρ3 (m1.trans m3) l3 r3⟩
 ·rw [VG,r1.length];exact hn _ _ _ _ e1
 ·rw [VG];exact r1
theorem P4 {δ:aj} {st st':Store} {as:List D} (h:ah δ st=some (as,st')):as.length=0:=by cases h;rfl
theorem Ea {fa:aj->Dm D} {fr:aj->Dm (List D)} {n:Nat} (hr:∀ δ st as st',fr δ st=some (as,st')->as.length=n):∀ δ st as st',ae fa fr δ st=some (as,st')->as.length=n + 1:=fun δ st as st' h=>by
 obtain ⟨a,st1,e1,e⟩:=dU h
 obtain ⟨c,st2,e2,e⟩:=dU e
 cases e
 rw [U1,hr _ _ _ _ e2]
end
end L4
namespace L4
open PySem PySem.Spec L2
section
variable {K:Zfr}
def ur (h:Int->Int->D):D->D->Dm D
 | .int i,.int j,st=>some (h i j,st)
 | _,_,_=>none
theorem yP {gv:Int->Int->V} {h:Int->Int->D} (hh:∀ i j ρ H,Rp K ρ H (gv i j) (h i j)):lz K (ou gv) (ur h):=by
 intro ρ H st x y a c b st' Q l rx ry e q
 unfold ur at e
 split at e
 ·cases e;cases rx;cases ry;exact ⟨_,_,rfl,rfl,q _ H ρ .refl l (hh _ _ ρ H)⟩
 ·cases e
def wC (c:Int->Int->Bool) (h:Int->Int->D):D->D->Dm D
 | .int i,.int j,st=>if c i j=true then some (h i j,st) else none
 | _,_,_=>none
theorem Eb {C:Int->Int->Prop} {c:Int->Int->Bool} {gv:Int->Int->V} {h:Int->Int->D} (hc:∀ i j,c i j=true->C i j) (hh:∀ i j ρ H,Rp K ρ H (gv i j) (h i j)):lz K (rI C gv) (wC c h):=by
 intro ρ H st x y a d b st' Q l rx ry e q
 unfold wC at e
 split at e
 ·split at e
  ·next hcc=>cases e;cases rx;cases ry;exact ⟨_,_,rfl,rfl,hc _ _ hcc,q _ H ρ .refl l (hh _ _ ρ H)⟩
  ·cases e
 ·cases e
def gO:D->D->Dm D:=ur fun i j=>.int (i + j)
def mN:D->D->Dm D:=ur fun i j=>.int (i - j)
def lL:D->D->Dm D:=wC (fun i j=>decide (-18446744073709551616 < i/\i < 18446744073709551616) || decide (-18446744073709551616 < j/\j < 18446744073709551616)) fun i j=>.int (i * j)
def nW:D->D->Dm D:=wC (fun i j=>decide (0 < j/\j < 1073741824)) fun i j=>.int (i / j)
def jU:D->D->Dm D:=wC (fun i j=>decide (0 < j)) fun i j=>.int (i % j)
def qK:D->D->Dm D:=wC (fun i j=>decide (0<=j/\j<=1000000/\i.natAbs < 18446744073709551616)) fun i j=>.int (i ^ j.toNat)
def wG:D->D->Dm D:=ur fun i j=>.bl (decide (i < j))
def Hs:D->D->Dm D:=ur fun i j=>.bl (decide (i<=j))
def wH:D->D->Dm D:=ur fun i j=>.bl (decide (j < i))
def Ht:D->D->Dm D:=ur fun i j=>.bl (decide (j<=i))
theorem nH:lz K (ou fun i j=>.int (i + j)) gO:=yP fun _ _ _ _=>.int _
theorem Ec:lz K (ou fun i j=>.int (i - j)) mN:=yP fun _ _ _ _=>.int _
theorem uu:lz K (rI rY fun i j=>.int (i * j)) lL:=Eb (fun i j h=>by
 rw [Wt,decide_eq_true_eq,decide_eq_true_eq] at h
 exact h) fun _ _ _ _=>.int _
theorem Lh:lz K (rI zR fun i j=>.int (i / j)) nW:=Eb (fun i j h=>of_decide_eq_true (p:=0 < j/\j < 1073741824) h) fun _ _ _ _=>.int _
theorem p6:lz K (rI (fun _ j=>0 < j) fun i j=>.int (i % j)) jU:=Eb (fun i j h=>of_decide_eq_true h) fun _ _ _ _=>.int _
theorem Li:lz K (rI zS fun i j=>.int (i ^ j.toNat)) qK:=Eb (fun i j h=>by have h:=of_decide_eq_true (p:=0<=j/\j<=1000000/\i.natAbs < 18446744073709551616) h;exact ⟨h.1,h.2.1,by omega⟩) fun _ _ _ _=>.int _
theorem Bo:lz K (ou fun i j=>.bl (decide (i < j))) wG:=yP fun _ _ _ _=>.bl _
theorem Bp:lz K (ou fun i j=>.bl (decide (i<=j))) Hs:=yP fun _ _ _ _=>.bl _
theorem Bq:lz K (ou fun i j=>.bl (decide (j < i))) wH:=yP fun _ _ _ _=>.bl _
theorem Br:lz K (ou fun i j=>.bl (decide (j<=i))) Ht:=yP fun _ _ _ _=>.bl _
def mh:D->Dm D
 | .int i,st=>some (.int (-i),st)
 | _,_=>none
theorem wI:Hm K (rU fun i=>.int (-i)) mh:=by
 intro ρ H st x a b st' Q l rx e q
 unfold mh at e
 split at e
 ·cases e;cases rx;exact ⟨_,rfl,q _ H ρ .refl l (.int _)⟩
 ·cases e
def sV:D->Option V
 | .non=>some .non
 | .bl b=>some (.bl b)
 | .int i=>some (.int i)
 | .str x=>some (.str x)
 | _=>none
theorem yQ {ρ:List Addr} {H:Hp} {x v:V} {a:D} (r:Rp K ρ H x a) (h:sV a=some v):x=v:=by
 cases r <;> first | (cases h;rfl) | cases h
def iY (neg:Bool):D->D->Dm D:=fun a b st=>match sV a,sV b with
 | some x,some y=>if ow x y=true then some (.bl (if neg then !decide (x=y) else decide (x=y)),st) else none
 | _,_=>none
theorem nX:lz K Jr (iY false):=by
 intro ρ H st x y a c b st' Q l rx ry e q
 unfold iY at e
 split at e
 ·next u v h1 h2 =>
  split at e
  ·next hs=>cases e;cases yQ rx h1;cases yQ ry h2;exact ⟨hs,q _ H ρ .refl l (.bl _)⟩
  ·cases e
 ·cases e
theorem Bs:lz K Js (iY true):=by
 intro ρ H st x y a c b st' Q l rx ry e q
 unfold iY at e
 split at e
 ·next u v h1 h2 =>
  split at e
  ·next hs=>cases e;cases yQ rx h1;cases yQ ry h2;exact ⟨hs,q _ H ρ .refl l (.bl _)⟩
  ·cases e
 ·cases e
def bQ {α β:Type} (f:α->Option β):List α->Option (List β)
 | []=>some []
 | a :: r=>match f a,bQ f r with
  | some b,some s=>some (b :: s)
  | _,_=>none
theorem sJ {α β:Type} {f:α->Option β} {a:α} {r:List α} {s:List β} (h:bQ f (a :: r)=some s):∃ b t,f a=some b/\bQ f r=some t/\s=b :: t:=by
 unfold bQ at h
 split at h
 ·next b t h1 h2=>cases h;exact ⟨b,t,h1,h2,rfl⟩
 ·cases h
theorem sL {α β γ:Type} {f:α->Option β} {g:γ->α} {k:γ->β} (h:∀ c,f (g c)=some (k c)):∀ l:List γ,bQ f (l.map g)=some (l.map k)
 | []=>rfl
 | c :: r=>by
  show bQ f (g c :: r.map g)=_
  unfold bQ
  rw [h c,sL h r]
  rfl
def dc (st:Store):Nat->D->Option PyData
 | 0,_=>none
 | _ + 1,.non=>some .none
 | _ + 1,.bl b=>some (.bool b)
 | _ + 1,.int i=>some (.int i)
 | _ + 1,.str x=>some (.str x)
 | _ + 1,.ty _=>none
 | n + 1,.tup ds=>(bQ (dc st n) ds).map PyData.tuple
 | n + 1,.ref i=>match items st i with
  | some ds=>(bQ (dc st n) ds).map PyData.list
  | none=>none
theorem yR {ρ:List Addr} {H:Hp} {st:Store} (l:Rl K ρ H st):∀ (n:Nat) {v:V} {d:D} {p:PyData},Rp K ρ H v d->dc st n d=some p->Rep K H v p
 | 0,_,_,_,_,h=>by simp [dc] at h
 | n + 1,v,d,p,r,h=>by
  have all:∀ {vs:List V} {ds:List D} {ps:List PyData},cy K ρ H vs ds->bQ (dc st n) ds=some ps->eK K H vs ps:=by
   intro vs ds ps rr
   induction vs generalizing ds ps with
   | nil=>intro hm;cases rr;cases hm;exact .nil
   | cons w ws ih =>
    intro hm
    cases rr with
    | cons ra rb =>
     obtain ⟨b,t,h1,h2,rfl⟩:=sJ hm
     exact .cons (yR l n ra h1) (ih rb h2)
  cases r with
  | non=>simp [dc] at h;subst h;exact .non
  | bl b=>simp [dc] at h;subst h;exact .bl b
  | int i=>simp [dc] at h;subst h;exact .int i
  | str x=>simp [dc] at h;subst h;exact .str x
  | ty n=>simp [dc] at h
  | ref hi =>
   simp only [dc] at h
   split at h
   ·next ds hd =>
    obtain ⟨ps,h1,rfl⟩:=U3.mp h
    obtain ⟨vs,e,rr⟩:=l.items hi hd
    exact .lst e (all rr h1)
   ·cases h
  | tup q rr =>
   simp only [dc] at h
   obtain ⟨ps,h1,rfl⟩:=U3.mp h
   exact .tup q (all rr h1)
def eN (neg:Bool):D->D->Dm D:=fun a b st=>match dc st 20 a,dc st 20 b with
 | some p,some q=>if (PyData.canLay0 p && PyData.canLay0 q && decide (min p.depth q.depth<=60))=true then some (.bl (if neg then !PyData.eqv p q else PyData.eqv p q),st) else none
 | _,_=>none
theorem p7 (neg:Bool):lz K (se K neg) (eN neg):=by
 intro ρ H st x y a c b st' Q l rx ry e q
 unfold eN at e
 split at e
 ·next u v h1 h2 =>
  split at e
  ·next hs =>
   cases e
   rw [UO,UO,decide_eq_true_eq] at hs
   exact ⟨u,v,yR l 20 rx h1,yR l 20 ry h2,hs.1.1,hs.1.2,hs.2,q _ H ρ .refl l (.bl _)⟩
  ·cases e
 ·cases e
theorem at_of {ρ:List Addr} {H:Hp} {vs:List V} {ds:List D} {i:Int} {d:D} (r:cy K ρ H vs ds) (h:gG ds i=some d):∃ v,gG vs i=some v/\Rp K ρ H v d:=by
 unfold gG at h ⊢
 rw [r.length]
 cases hx:lq ds.length i with
 | none=>rw [hx] at h;cases h
 | some j =>
  rw [hx] at h
  exact r.got h
def aN:D->D->Dm D
 | .tup ds,.int i,st=>match gG ds i with
  | some d=>some (d,st)
  | none=>none
 | _,_,_=>none
theorem dB:lz K (vB K) aN:=by
 intro ρ H st x y a c b st' Q l rx ry e q
 unfold aN at e
 split at e
 ·split at e
  ·next d hd =>
   cases e
   cases ry
   cases rx with
   | tup s r =>
    obtain ⟨v,hv,rv⟩:=at_of r hd
    exact ⟨_,_,_,v,rfl,rfl,s,hv,q v H ρ .refl l rv⟩
  ·cases e
 ·cases e
def dQ:D->D->Dm D
 | .ref r,.int i,st=>match items st r with
  | some ds=>match gG ds i with
   | some d=>some (d,st)
   | none=>none
  | none=>none
 | _,_,_=>none
theorem lh:lz K (vA K) dQ:=by
 intro ρ H st x y a c b st' Q l rx ry e q
 unfold dQ at e
 split at e
 ·split at e
  ·next ds hi =>
   split at e
   ·next d hd =>
    cases e
    cases ry
    cases rx with
    | ref hr =>
     obtain ⟨vs,s,r⟩:=l.items hr hi
     obtain ⟨v,hv,rv⟩:=at_of r hd
     exact ⟨_,_,_,v,rfl,rfl,s,hv,q v H ρ .refl l rv⟩
   ·cases e
  ·cases e
 ·cases e
def wJ:D->D->Dm D
 | .str z,.int i,st=>if lim z.length=true then match gG z.cps.toList i with
   | some c=>some (.str ⟨#[c]⟩,st)
   | none=>none
  else none
 | _,_,_=>none
def cutD (xs:List D) (lo hi:Option Int):List D:=(xs.drop (HT.cN xs.length 0 lo)).take (HT.cN xs.length xs.length hi - HT.cN xs.length 0 lo)
theorem cy.cut {ρ:List Addr} {H:Hp} {vs:List V} {ds:List D} (r:cy K ρ H vs ds) (lo hi:Option Int):cy K ρ H (lI vs lo hi) (cutD ds lo hi):=by
 unfold lI cutD
 rw [r.length]
 exact (r.drop _).take _
def wK:D->Option Int->Option Int->Dm D
 | .tup ds,lo,hi,st=>some (.tup (cutD ds lo hi),st)
 | _,_,_,_=>none
theorem got {ρ:List Addr} {H:Hp} {st:Store} {vs:List V} {ds:List D} {Q:VK} (l:Rl K ρ H st) (r:cy K ρ H vs ds) (q:∀ v H' ρ',Mn K ρ H ρ' H'->Rl K ρ' H' st->Rp K ρ' H' v (.tup ds)->Q v H'):oy K H vs Q :=
 fun p H' s e=>q _ H' ρ (Mn.same e) (l.same e) (.tup s (r.mn (Mn.same e)))
theorem wL:wy K (t5 K) wK:=by
 intro lo hi ρ H st x a b st' Q l rx e q
 cases a with
 | tup ds =>
  cases e
  cases rx with
  | tup s r=>exact ⟨_,_,rfl,s,got l (r.cut lo hi) q⟩
 | _=>cases e
def pO:D->Option Int->Option Int->Dm D
 | .ref r,lo,hi,st=>match items st r with
  | some ds=>some (.ref st.length,st ++ [.lst (cutD ds lo hi)])
  | none=>none
 | _,_,_,_=>none
theorem Hu:wy K (Ag K) pO:=by
 intro lo hi ρ H st x a b st' Q l rx e q
 cases a with
 | ref i =>
  simp only [pO] at e
  split at e
  ·next ds hd =>
   cases e
   cases rx with
   | ref hr =>
    obtain ⟨vs,s,r⟩:=l.items hr hd
    exact ⟨_,_,rfl,s,fun p hp=>q _ _ _ (Mn.new hp) (l.newL hp (r.cut lo hi)) (.ref (newR l))⟩
  ·cases e
 | _=>cases e
def lO:D->D->Dm D
 | .tup a,.tup b,st=>if lim (a.length + b.length)=true then some (.tup (a ++ b),st) else none
 | _,_,_=>none
theorem Ed:lz K (qq K) lO:=by
 intro ρ H st x y a c b st' Q l rx ry e q
 unfold lO at e
 split at e
 ·split at e
  ·next hl =>
   cases e
   cases rx with
   | tup s r =>
    cases ry with
    | tup s' r'=>exact ⟨_,_,_,_,rfl,rfl,s,s',by rw [r.length,r'.length];exact Bl hl,got l (r.append r') q⟩
  ·cases e
 ·cases e
def own (st:Store) (i:Nat):Option (List D):=match st[i]? with
 | some (.lst ds)=>some ds
 | _=>none
theorem qL {st:Store} {i:Nat} {ds:List D} (h:own st i=some ds):st[i]?=some (.lst ds):=by
 unfold own at h
 split at h
 ·next ds' hs=>cases h;exact hs
 ·cases h
def mj:D->D->Dm D
 | .ref i,.ref j,st=>match own st i,own st j with
  | some a,some b=>if lim (a.length + b.length)=true then some (.ref st.length,st ++ [.lst (a ++ b)]) else none
  | _,_=>none
 | _,_,_=>none
theorem wM:lz K Aj mj:=by
 intro ρ H st x y a c b st' Q l rx ry e q
 unfold mj at e
 split at e
 ·split at e
  ·next a b h1 h2 =>
   split at e
   ·next hl =>
    cases e
    cases rx with
    | ref hi =>
     cases ry with
     | ref hj =>
      obtain ⟨vs,e1,r1⟩:=l.obj _ _ _ hi (qL h1)
      obtain ⟨ws,e2,r2⟩:=l.obj _ _ _ hj (qL h2)
      exact ⟨_,_,_,_,rfl,rfl,e1,e2,by rw [r1.length,r2.length];exact Bl hl,fun p hp=>q _ _ _ (Mn.new hp) (l.newL hp (r1.append r2)) (.ref (newR l))⟩
   ·cases e
  ·cases e
 ·cases e
def qM:D->D->Dm D
 | .ref i,.int k,st=>match own st i with
  | some a=>if (decide (-9223372036854775808<=k/\k < 9223372036854775808) && lim (a.length * k.toNat))=true then some (.ref st.length,st ++ [.lst (List.replicate k.toNat a).flatten]) else none
  | _=>none
 | _,_,_=>none
theorem Lj {ρ:List Addr} {H:Hp}:∀ {ws vs:List V} {ds:List D},cy K ρ H ws ds->bQ sV ds=some vs->ws=vs
 | _,_,_,.nil,h=>by cases h;rfl
 | _,_,_,.cons a b,h=>by
  obtain ⟨x,t,h1,h2,rfl⟩:=sJ h
  rw [yQ a h1,Lj b h2]
theorem Lk {a:D} {v:V} (h:sV a=some v):jL v=true:=by cases a <;> first | (cases h;rfl) | cases h
theorem Ll:∀ {ds:List D} {vs:List V},bQ sV ds=some vs->vs.all jL=true
 | [],_,h=>by cases h;rfl
 | d :: r,_,h=>by
  obtain ⟨x,t,h1,h2,rfl⟩:=sJ h
  rw [List.all_cons,Lk h1,Ll h2];rfl
def df (st:Store):D->Option (List D)
 | .tup ds=>some ds
 | .ref i=>items st i
 | _=>none
theorem Ee {ρ:List Addr} {H:Hp} {st:Store} {x:V} {a:D} {ds:List D} (l:Rl K ρ H st) (r:Rp K ρ H x a) (h:df st a=some ds):∃ p vs,x=.ref p/\(iN K H p vs\/eJ K H p vs)/\cy K ρ H vs ds:=by
 cases r <;> first | (cases h;done) | skip
 ·next hi=>obtain ⟨vs,s,r⟩:=l.items hi h;exact ⟨_,vs,rfl,.inl s,r⟩
 ·next s r=>cases h;exact ⟨_,_,rfl,.inr s,r⟩
def qN (neg:Bool):D->D->Dm D:=fun a c st=>match sV a,(df st c).bind (bQ sV) with
 | some x,some vs=>some (.bl (if neg then !tU x vs else tU x vs),st)
 | _,_=>none
theorem Ef (neg:Bool):lz K (Gf K neg) (qN neg):=by
 intro ρ H st x y a c b st' Q l rx ry e q
 unfold qN at e
 split at e
 ·next u vs h1 h2 =>
  cases e
  obtain ⟨ds,h3,h4⟩:=VI.mp h2
  obtain ⟨p,ws,rfl,s,r⟩:=Ee l ry h3
  cases yQ rx h1
  cases Lj r h4
  exact ⟨p,_,rfl,s,Lk h1,Ll h4,q _ H ρ .refl l (.bl _)⟩
 ·cases e
theorem cy.one' {ρ:List Addr} {H:Hp} {vs:List V} {d:D} (r:cy K ρ H vs [d]):∃ v,vs=[v]/\Rp K ρ H v d:=by cases r with | cons a b=>cases b;exact ⟨_,rfl,a⟩
theorem cy.two' {ρ:List Addr} {H:Hp} {vs:List V} {d e:D} (r:cy K ρ H vs [d,e]):∃ v w,vs=[v,w]/\Rp K ρ H v d/\Rp K ρ H w e:=by
 cases r with
 | cons a b=>obtain ⟨w,rfl,r⟩:=b.one';exact ⟨_,_,rfl,a,r⟩
def cT:List D->Dm D
 | [a],st=>match df st a with
  | some ds=>some (.int ds.length,st)
  | none=>none
 | _,_=>none
theorem jO:sG K (fun xs H Q=>∃ p ys,xs=[.ref p]/\(iN K H p ys\/eJ K H p ys)/\Q (.int ys.length) H) cT:=by
 intro ρ H st xs as b st' Q l rx e q
 unfold cT at e
 split at e
 ·split at e
  ·next ds hd =>
   cases e
   obtain ⟨v,rfl,r⟩:=rx.one'
   obtain ⟨p,vs,rfl,s,r⟩:=Ee l r hd
   exact ⟨p,vs,rfl,s,q _ H ρ .refl l (by rw [r.length];exact .int _)⟩
  ·cases e
 ·cases e
def mF:List D->Dm D
 | [a],st=>match df st a with
  | some ds=>some (.ref st.length,st ++ [.lst ds])
  | none=>none
 | _,_=>none
theorem Hv:sG K (fun xs H Q=>∃ p ys,xs=[.ref p]/\(iN K H p ys\/eJ K H p ys)/\∀ l,H l=none->Q (.ref l) (upd H l (.lst ys))) mF:=by
 intro ρ H st xs as b st' Q l rx e q
 unfold mF at e
 split at e
 ·split at e
  ·next ds hd =>
   cases e
   obtain ⟨v,rfl,r⟩:=rx.one'
   obtain ⟨p,vs,rfl,s,r⟩:=Ee l r hd
   exact ⟨p,vs,rfl,s,fun p hp=>q _ _ _ (Mn.new hp) (l.newL hp r) (.ref (newR l))⟩
  ·cases e
 ·cases e
def bU:List D->Dm D
 | [a],st=>match df st a with
  | some ds=>some (.tup ds,st)
  | none=>none
 | _,_=>none
theorem nI:sG K (fun xs H Q=>∃ p ys,xs=[.ref p]/\((iN K H p ys/\∀ l,H l=none->Q (.ref l) (upd H l (.tup ys)))\/(eJ K H p ys/\Q (.ref p) H))) bU:=by
 intro ρ H st xs as b st' Q l rx e q
 unfold bU at e
 split at e
 ·split at e
  ·next ds hd =>
   cases e
   obtain ⟨v,rfl,r⟩:=rx.one'
   obtain ⟨p,vs,rfl,s,r'⟩:=Ee l r hd
   refine ⟨p,vs,rfl,?_⟩
   rcases s with s | s
   ·exact .inl ⟨s,(got l r' q).new⟩
   ·exact .inr ⟨s,(got l r' q).it s⟩
  ·cases e
 ·cases e
def Bt:List D->Dm D
 | [.int i,.int j],st=>some (.int (if j > i then j else i),st)
 | _,_=>none
def Bu:List D->Dm D
 | [.int i,.int j],st=>some (.int (if j < i then j else i),st)
 | _,_=>none
def uv:List D->Dm D
 | [.int i],st=>some (.int i,st)
 | [.bl k],st=>some (.int (if k then 1 else 0),st)
 | _,_=>none
def jq:List D->Dm D
 | [.int j],st=>some (.ref st.length,st ++ [.iT 0 j])
 | _,_=>none
def e8:List D->Dm D
 | [.int i,.int j],st=>some (.ref st.length,st ++ [.iT i j])
 | _,_=>none
theorem Hw:sG K (fun xs H Q=>∃ j:Int,xs=[.int j]/\∀ p,H p=none->Q (.ref p) (upd H p (.iT 0 j))) jq:=by
 intro ρ H st xs as b st' Q l rx e q
 unfold jq at e
 split at e
 ·cases e
  obtain ⟨v,rfl,r⟩:=rx.one'
  cases r
  exact ⟨_,rfl,fun p hp=>q _ _ _ (Mn.new hp) (l.new hp (show uo K _ _ p (.iT _ _) from pX)) (.ref (newR l))⟩
 ·cases e
theorem yS:sG K (fun xs H Q=>∃ i j:Int,xs=[.int i,.int j]/\∀ p,H p=none->Q (.ref p) (upd H p (.iT i j))) e8:=by
 intro ρ H st xs as b st' Q l rx e q
 unfold e8 at e
 split at e
 ·cases e
  obtain ⟨v,w,rfl,r1,r2⟩:=rx.two'
  cases r1;cases r2
  exact ⟨_,_,rfl,fun p hp=>q _ _ _ (Mn.new hp) (l.new hp (show uo K _ _ p (.iT _ _) from pX)) (.ref (newR l))⟩
 ·cases e
def aE (lo:Int) (n:Nat):List D:=(List.range n).map fun (k:Nat)=>D.int (lo + k)
theorem P5 {ρ:List Addr} {H:Hp} (lo:Int) (n:Nat):cy K ρ H (fF lo n) (aE lo n):=by
 unfold fF aE
 induction (List.range n) with
 | nil=>exact .nil
 | cons a r ih=>exact .cons (.int _) ih
def pP (lo hi:Int):Bool:=decide (-4611686018427387904<=lo/\lo < 4611686018427387904/\-4611686018427387904<=hi/\hi < 4611686018427387904) && lim (hi - lo).toNat
theorem Lm {lo hi:Int} (h:pP lo hi=true):(-(2 ^ 62)<=lo/\lo < 2 ^ 62/\-(2 ^ 62)<=hi/\hi < 2 ^ 62)/\(hi - lo).toNat<=2 ^ 24:=by
 unfold pP at h
 rw [UO,decide_eq_true_eq] at h
 exact ⟨by omega,UZ (Wq h.2) (by decide)⟩
def iL (st:Store):D->Option (Int×Int)
 | .ref i=>match st[i]? with
  | some (.iT lo hi)=>some (lo,hi)
  | _=>none
 | _=>none
theorem wN {ρ:List Addr} {H:Hp} {st:Store} {x:V} {a:D} {lo hi:Int} (l:Rl K ρ H st) (r:Rp K ρ H x a) (h:iL st a=some (lo,hi)):∃ p,x=.ref p/\H p=some (.iT lo hi):=by
 cases r <;> first | (cases h;done) | skip
 ·next hi' =>
  simp only [iL] at h
  split at h
  ·next lo' P6 hs=>cases h;exact ⟨_,rfl,l.obj _ _ _ hi' hs⟩
  ·cases h
def eO:List D->Dm D
 | [a],st=>match iL st a with
  | some (lo,hi)=>if pP lo hi=true then some (.ref st.length,st ++ [.lst (aE lo (hi - lo).toNat)]) else none
  | none=>none
 | _,_=>none
theorem sM:sG K (fun xs H Q=>∃ p lo hi,xs=[.ref p]/\H p=some (.iT lo hi)/\(-(2 ^ 62)<=lo/\lo < 2 ^ 62/\-(2 ^ 62)<=hi/\hi < 2 ^ 62)/\(hi - lo).toNat<=2 ^ 24 /\
  ∀ l,H l=none->Q (.ref l) (upd H l (.lst (fF lo (hi - lo).toNat)))) eO:=by
 intro ρ H st xs as b st' Q l rx e q
 unfold eO at e
 split at e
 ·split at e
  ·next lo hi hd =>
   split at e
   ·next ok =>
    cases e
    obtain ⟨v,rfl,r⟩:=rx.one'
    obtain ⟨p,rfl,s⟩:=wN l r hd
    exact ⟨p,lo,hi,rfl,s,(Lm ok).1,(Lm ok).2,fun p hp=>q _ _ _ (Mn.new hp) (l.newL hp (P5 lo _)) (.ref (newR l))⟩
   ·cases e
  ·cases e
 ·cases e
def sN:List D->Dm D
 | [a],st=>match iL st a with
  | some (lo,hi)=>if pP lo hi=true then some (.tup (aE lo (hi - lo).toNat),st) else none
  | none=>none
 | _,_=>none
def iV:D->Option Int
 | .int i=>some i
 | _=>none
theorem Lo {ρ:List Addr} {H:Hp}:∀ {ws:List V} {ds:List D} {ns:List Int},cy K ρ H ws ds->bQ iV ds=some ns->ws=ns.map V.int
 | _,_,_,.nil,h=>by cases h;rfl
 | _,_,_,.cons a b,h=>by
  obtain ⟨x,t,h1,h2,rfl⟩:=sJ h
  rw [Lo b h2]
  cases a <;> first | (cases h1;rfl) | cases h1
def bV:D->Option Bool
 | .bl i=>some i
 | _=>none
def wO:List D->Dm D
 | [.ref i],st=>match (items st i).bind (bQ bV) with
  | some bs=>some (.bl (bs.all id),st)
  | none=>none
 | _,_=>none
def uw (T:String) (st:Store):D->Bool
 | .str _=>T == "str"
 | .tup _=>T == "tuple"
 | .ref i=>T == "list" && (items st i).isSome
 | _=>false
theorem wQ {ρ:List Addr} {H:Hp} {st:Store} {x:V} {a:D} {T:String} (l:Rl K ρ H st) (r:Rp K ρ H x a) (h:uw T st a=true):Gi K T x H:=by
 cases r <;> first | (cases h;done) | skip
 ·exact eq_of_beq h
 ·next hi =>
  simp only [uw,UO] at h
  obtain ⟨ds,hd⟩:=V1.mp h.2
  obtain ⟨vs,s,_⟩:=l.items hi hd
  exact .inl ⟨eq_of_beq h.1,vs,s⟩
 ·next s r=>exact .inr (.inl ⟨eq_of_beq h,_,s⟩)
def mG (T:String) (g:D->List D->Dm D) (fo:aj->Dm D) (fa:aj->Dm (List D)):aj->Dm D:=fun δ st=>bnd (fo δ st) fun o st1=>if uw T st1 o=true then bnd (fa δ st1) fun as st2=>g o as st2 else none
theorem oi {T:String} {r:V->List V->Hp->VK->Prop} {g:D->List D->Dm D} {to:TE} {ta:TA} {fo:aj->Dm D} {fa:aj->Dm (List D)} (hr:Bj K T r g) (ho:gp K to fo) (ha:pd K ta fa):gp K (Gj K T r to ta) (mG T g fo fa):=by
 intro ρ σ H δ st b st' Q l rs e q
 obtain ⟨o,st1,e1,e⟩:=dU e
 split at e
 ·next ht =>
  obtain ⟨as,st2,e2,e⟩:=dU e
  refine ho ρ σ H δ st o st1 _ l rs e1 fun x H1 ρ1 m1 l1 r1=>⟨wQ l1 r1 ht,ha ρ1 σ H1 δ st1 as st2 _ l1 (rs.mn m1) e2 fun xs H2 ρ2 m2 l2 r2=>?_⟩
  exact hr ρ2 H2 st2 x xs o as b st' Q l2 (r1.mn m2) r2 e fun v H3 ρ3 m3 l3 r3=>q v H3 ρ3 ((m1.trans m2).trans m3) l3 r3
 ·cases e
def cM:D->List D->Dm D
 | .ref i,[y],st=>match own st i with
  | some xs=>if lim xs.length=true then some (.non,st.set i (.lst (xs ++ [y]))) else none
  | none=>none
 | _,_,_=>none
theorem qO:Bj K "list" oV cM:=by
 intro ρ H st x xs a as b st' Q l rx wR e q
 unfold cM at e
 split at e
 ·split at e
  ·next ys hy =>
   split at e
   ·next hl =>
    cases e
    obtain ⟨v,rfl,r⟩:=wR.one'
    cases rx with
    | ref hi =>
     obtain ⟨vs,e1,r1⟩:=l.obj _ _ _ hi (qL hy)
     obtain ⟨l2,m2⟩:=l.putL hi (qL hy) (r1.append (.one r))
     exact ⟨_,vs,v,rfl,rfl,e1,by rw [r1.length];exact Hn hl,q _ _ ρ m2 l2 .non⟩
   ·cases e
  ·cases e
 ·cases e
def mU:D->List D->Dm D
 | .ref i,[.ref j],st=>match own st i,own st j with
  | some xs,some ys=>if lim (xs.length + ys.length)=true then some (.non,st.set i (.lst (xs ++ ys))) else none
  | _,_=>none
 | _,_,_=>none
def kH:D->List D->Dm D
 | .ref i,[.int k],st=>match own st i with
  | some xs=>if decide (-9223372036854775808<=k/\k < 9223372036854775808)=true then match seqIndex? k xs.length with
    | some j=>match xs[j]? with
     | some y=>some (y,st.set i (.lst (xs.eraseIdx j)))
     | none=>none
    | none=>none
   else none
  | none=>none
 | _,_,_=>none
theorem P7:Bj K "list" qk kH:=by
 intro ρ H st x xs a as b st' Q l rx wR e q
 unfold kH at e
 split at e
 ·split at e
  ·next ys hy =>
   split at e
   ·next hk =>
    split at e
    ·next j hj =>
     split at e
     ·next y hy' =>
      cases e
      obtain ⟨v,rfl,r⟩:=wR.one'
      cases r
      cases rx with
      | ref hi =>
       obtain ⟨vs,e1,r1⟩:=l.obj _ _ _ hi (qL hy)
       obtain ⟨w,hw,rw'⟩:=r1.got hy'
       obtain ⟨l2,m2⟩:=l.putL hi (qL hy) (r1.erase j)
       have hk:=of_decide_eq_true hk
       exact ⟨_,vs,_,j,w,rfl,rfl,e1,by omega,by omega,by rw [r1.length];exact hj,hw,q _ _ ρ m2 l2 (rw'.mn m2)⟩
     ·cases e
    ·cases e
   ·cases e
  ·cases e
 ·cases e
def hJ:D->List D->Dm D
 | .tup ds,[.int v],st=>match bQ iV ds with
  | some ns=>match ns.findIdx? (fun i=>decide (i=v)) with
   | some j=>some (.int (j:Int),st)
   | none=>none
  | none=>none
 | _,_,_=>none
theorem Hx:Bj K "tuple" (oA K) hJ:=by
 intro ρ H st x xs a as b st' Q l rx wR e q
 unfold hJ at e
 split at e
 ·split at e
  ·next ns hn =>
   split at e
   ·next j hj =>
    cases e
    obtain ⟨v,rfl,r⟩:=wR.one'
    cases r
    cases rx with
    | tup s r =>
     cases Lo r hn
     obtain ⟨h1,h2,h3⟩:=VY.mp hj
     refine ⟨_,ns,_,j,rfl,rfl,s,?_,fun i hi z=>?_,q _ H ρ .refl l (.int _)⟩
     ·rw [Uv h1];exact congrArg some (of_decide_eq_true h2)
     ·have:=h3 i hi
      obtain ⟨hl,ez⟩:=Uw.mp z
      rw [ez] at this
      simp at this
   ·cases e
  ·cases e
 ·cases e
def Bv (st:Store):D->Option String
 | .non=>some "NoneType"
 | .bl _=>some "bool"
 | .int _=>some "int"
 | .str _=>some "str"
 | .tup _=>some "tuple"
 | .ref i=>match st[i]? with
  | some (.lst _)=>some "list"
  | some (.dct _)=>some "dict"
  | _=>none
 | .ty _=>none
def mV:List D->Dm D
 | [a,.ty c],st=>match Bv st a with
  | some T=>if T=c then some (.bl true,st) else none
  | none=>none
 | _,_=>none
end
section
variable {K:Zfr}
theorem Lp:lz K Ak qM:=by
 intro ρ H st x y a c b st' Q l rx ry e q
 unfold qM at e
 split at e
 ·split at e
  ·next ds hd =>
   split at e
   ·next ok =>
    cases e
    rw [UO,decide_eq_true_eq] at ok
    cases ry
    cases rx with
    | ref hi =>
     obtain ⟨vs,e1,r1⟩:=l.obj _ _ _ hi (qL hd)
     exact ⟨_,_,vs,rfl,rfl,e1,by omega,by omega,by rw [r1.length];exact Bl ok.2,fun p hp=>q _ _ _ (Mn.new hp) (l.newL hp (r1.flat _)) (.ref (newR l))⟩
   ·cases e
  ·cases e
 ·cases e
theorem Rs.set {ρ:List Addr} {H:Hp} {σ:St} {δ:aj} {v:V} {d:D} {i:Nat} (h:Rs K ρ H σ δ) (r:Rp K ρ H v d):Rs K ρ H (σ.set i (some v)) (δ.set i (some d)):=by
 refine ⟨by rw [Vo,Vo];exact h.1,fun j e hj=>?_⟩
 by_cases hij:i=j
 ·subst hij
  have hl:i < δ.length:=by
   have:=(Uw.mp hj).1
   rwa [Vo] at this
  rw [UL hl] at hj
  cases hj
  exact ⟨v,by rw [UL (by rw [h.1];exact hl)],r⟩
 ·rw [UX hij] at hj
  obtain ⟨w,hw,rw'⟩:=h.2 j e hj
  exact ⟨w,by rw [UX hij];exact hw,rw'⟩
def wU (K:Zfr) (g:TG) (f:D->aj->Dm aj):Prop :=
 ∀ (ρ:List Addr) (σ:St) (H:Hp) (δ:aj) (st:Store) (v:V) (d:D) (δ':aj) (st':Store) (Q:St->Hp->Prop),Rl K ρ H st->Rs K ρ H σ δ->Rp K ρ H v d->f d δ st=some (δ',st') ->
  (∀ σ' H' ρ',Mn K ρ H ρ' H'->Rl K ρ' H' st'->Rs K ρ' H' σ' δ'->Q σ' H')->g v σ H Q
def sO (K:Zfr) (g:rB) (f:List D->aj->Dm aj):Prop :=
 ∀ (ρ:List Addr) (σ:St) (H:Hp) (δ:aj) (st:Store) (v:List V) (d:List D) (δ':aj) (st':Store) (Q:St->Hp->Prop),Rl K ρ H st->Rs K ρ H σ δ->cy K ρ H v d->f d δ st=some (δ',st') ->
  (∀ σ' H' ρ',Mn K ρ H ρ' H'->Rl K ρ' H' st'->Rs K ρ' H' σ' δ'->Q σ' H')->g v σ H Q
def hName (i:Nat):D->aj->Dm aj:=fun d δ st=>some (δ.set i (some d),st)
theorem a5 (i:Nat):wU K (nP i) (hName i):=by
 intro ρ σ H δ st v d δ' st' Q l rs r e q
 cases e
 exact q _ H ρ .refl l (rs.set r)
def nY:List D->aj->Dm aj
 | [],δ,st=>some (δ,st)
 | _,_,_=>none
def fW (f:D->aj->Dm aj) (g:List D->aj->Dm aj):List D->aj->Dm aj
 | d :: ds,δ,st=>bnd (f d δ st) fun δ1 st1=>g ds δ1 st1
 | _,_,_=>none
theorem yT:sO K zJ nY:=by
 intro ρ σ H δ st v d δ' st' Q l rs r e q
 cases r with
 | nil=>cases e;exact ⟨rfl,q _ H ρ .refl l rs⟩
 | cons a b=>cases e
theorem p8 {t:TG} {u:rB} {f:D->aj->Dm aj} {g:List D->aj->Dm aj} (hf:wU K t f) (hg:sO K u g):sO K (tI t u) (fW f g):=by
 intro ρ σ H δ st v d δ' st' Q l rs r e q
 cases r with
 | nil=>cases e
 | cons a b =>
  obtain ⟨δ1,st1,e1,e⟩:=dU e
  exact ⟨_,_,rfl,hf ρ σ H δ st _ _ δ1 st1 _ l rs a e1 fun σ1 H1 ρ1 m1 l1 r1=>hg ρ1 σ1 H1 δ1 st1 _ _ δ' st' Q l1 r1 (b.mn m1) e fun σ2 H2 ρ2 m2 l2 r2=>q σ2 H2 ρ2 (m1.trans m2) l2 r2⟩
def mW (n:Nat) (f:List D->aj->Dm aj):D->aj->Dm aj
 | .tup ds,δ,st=>if ds.length=n then f ds δ st else none
 | _,_,_=>none
theorem yU {n:Nat} {t:rB} {f:List D->aj->Dm aj} (hf:sO K t f):wU K (zK K n t) (mW n f):=by
 intro ρ σ H δ st v d δ' st' Q l rs r e q
 cases r <;> first | (cases e;done) | skip
 ·next s r =>
  simp only [mW] at e
  split at e
  ·next hl=>exact ⟨_,_,rfl,s,by rw [r.length];exact hl,hf ρ σ H δ st _ _ δ' st' Q l rs r e q⟩
  ·cases e
def hSub (fo fi:aj->Dm D):D->aj->Dm aj:=fun d δ st=>bnd (fo δ st) fun o st1=>bnd (fi δ st1) fun i st2=>match o,i with
 | .ref r,.int k=>match own st2 r with
  | some xs=>match lq xs.length k with
   | some j=>some (δ,st2.set r (.lst (xs.set j d)))
   | none=>none
  | none=>none
 | _,_=>none
theorem yV {to ti:TE} {fo fi:aj->Dm D} (ho:gp K to fo) (hi:gp K ti fi):wU K (L2.mN to ti tR) (hSub fo fi):=by
 intro ρ σ H δ st v d δ' st' Q l rs r e q
 obtain ⟨o,st1,e1,e⟩:=dU e
 obtain ⟨i,st2,e2,e⟩:=dU e
 refine ho ρ σ H δ st o st1 _ l rs e1 fun x H1 ρ1 m1 l1 r1=>hi ρ1 σ H1 δ st1 i st2 _ l1 (rs.mn m1) e2 fun y H2 ρ2 m2 l2 r2=>?_
 split at e
 ·split at e
  ·next xs hx =>
   split at e
   ·next j hj =>
    cases e
    cases r2
    cases r1 with
    | ref hr =>
     have hr2:=m2.r _ _ hr
     obtain ⟨vs,e3,r3⟩:=l2.obj _ _ _ hr2 (qL hx)
     obtain ⟨l3,m3⟩:=l2.putL hr2 (qL hx) (r3.set (r.mn (m1.trans m2)) j)
     exact ⟨_,vs,_,j,rfl,rfl,e3,by rw [r3.length];exact hj,q σ _ ρ2 ((m1.trans m2).trans m3) l3 (rs.mn ((m1.trans m2).trans m3))⟩
   ·cases e
  ·cases e
 ·cases e
def Go (K:Zfr) (ρ:List Addr) (H:Hp) (st':Store) (E:Ends):Fl->Prop
 | .nx δ=>∀ σ' H' ρ',Mn K ρ H ρ' H'->Rl K ρ' H' st'->Rs K ρ' H' σ' δ->E.nx σ' H'
 | .bk δ=>∀ σ' H' ρ',Mn K ρ H ρ' H'->Rl K ρ' H' st'->Rs K ρ' H' σ' δ->E.bk σ' H'
 | .ct δ=>∀ σ' H' ρ',Mn K ρ H ρ' H'->Rl K ρ' H' st'->Rs K ρ' H' σ' δ->E.ct σ' H'
 | .rt d=>∀ v H' ρ',Mn K ρ H ρ' H'->Rl K ρ' H' st'->Rp K ρ' H' v d->E.rt v H'
theorem Go.mn {ρ ρ1:List Addr} {H H1:Hp} {st':Store} {E:Ends} {fl:Fl} (g:Go K ρ H st' E fl) (m:Mn K ρ H ρ1 H1):Go K ρ1 H1 st' E fl:=by
 cases fl <;> exact fun v H' ρ' m' l r=>g v H' ρ' (m.trans m') l r
def nJ (K:Zfr) (t:TS) (f:aj->Dm Fl):Prop :=
 ∀ (ρ:List Addr) (σ:St) (H:Hp) (δ:aj) (st:Store) (fl:Fl) (st':Store) (E:Ends),Rl K ρ H st->Rs K ρ H σ δ->f δ st=some (fl,st')->Go K ρ H st' E fl->t E σ H
def aX:aj->Dm Fl:=fun δ st=>some (.nx δ,st)
theorem jP:nJ K tG aX:=by
 intro ρ σ H δ st fl st' E l rs e g
 cases e
 exact g σ H ρ .refl l rs
def aB (f g:aj->Dm Fl):aj->Dm Fl:=fun δ st=>bnd (f δ st) fun fl st1=>match fl with
 | .nx δ1=>g δ1 st1
 | x=>some (x,st1)
theorem bh {t u:TS} {f g:aj->Dm Fl} (hf:nJ K t f) (hg:nJ K u g):nJ K (zF t u) (aB f g):=by
 intro ρ σ H δ st fl st' E l rs e q
 obtain ⟨x,st1,e1,e⟩:=dU e
 refine hf ρ σ H δ st x st1 _ l rs e1 ?_
 cases x with
 | nx δ1=>exact fun σ1 H1 ρ1 m1 l1 r1=>hg ρ1 σ1 H1 δ1 st1 fl st' E l1 r1 e (q.mn m1)
 | bk δ1=>cases e;exact q
 | ct δ1=>cases e;exact q
 | rt d=>cases e;exact q
theorem iZ {c:TT} {t u:TS} {fc:aj->Dm Bool} {f g:aj->Dm Fl} (hc:o9 K c fc) (hf:nJ K t f) (hg:nJ K u g):nJ K (zH c t u) (fV fc f g):=by
 intro ρ σ H δ st fl st' E l rs e q
 obtain ⟨a,st1,e1,e⟩:=dU e
 refine hc ρ σ H δ st _ _ _ l rs e1 fun x H1 ρ1 m1 l1 r1=>?_
 subst r1
 cases x with
 | true =>
  refine pJ ?_
  rw [if_pos rfl] at e
  exact hf ρ1 σ H1 δ st1 fl st' E l1 (rs.mn m1) e (q.mn m1)
 | false =>
  refine pI ?_
  rw [if_neg UE] at e
  exact hg ρ1 σ H1 δ st1 fl st' E l1 (rs.mn m1) e (q.mn m1)
def fX (f:aj->Dm D):aj->Dm Fl:=fun δ st=>bnd (f δ st) fun _ st1=>some (.nx δ,st1)
theorem qP {t:TE} {f:aj->Dm D} (hf:gp K t f):nJ K (tH t) (fX f):=by
 intro ρ σ H δ st fl st' E l rs e q
 obtain ⟨a,st1,e1,e⟩:=dU e
 cases e
 exact hf ρ σ H δ st a _ _ l rs e1 fun x H1 ρ1 m1 l1 r1=>q σ H1 ρ1 m1 l1 (rs.mn m1)
def aU (f:aj->Dm D):aj->Dm Fl:=fun δ st=>bnd (f δ st) fun d st1=>some (.rt d,st1)
theorem dR {t:TE} {f:aj->Dm D} (hf:gp K t f):nJ K (zG t) (aU f):=by
 intro ρ σ H δ st fl st' E l rs e q
 obtain ⟨a,st1,e1,e⟩:=dU e
 cases e
 exact hf ρ σ H δ st a _ _ l rs e1 fun x H1 ρ1 m1 l1 r1=>q x H1 ρ1 m1 l1 r1
def aL (f:aj->Dm D) (h:D->aj->Dm aj):aj->Dm Fl:=fun δ st=>bnd (f δ st) fun d st1=>bnd (h d δ st1) fun δ1 st2=>some (.nx δ1,st2)
theorem ck {t:TE} {g:TG} {f:aj->Dm D} {h:D->aj->Dm aj} (hf:gp K t f) (hh:wU K g h):nJ K (rV t g) (aL f h):=by
 intro ρ σ H δ st fl st' E l rs e q
 obtain ⟨a,st1,e1,e⟩:=dU e
 obtain ⟨δ1,st2,e2,e⟩:=dU e
 cases e
 exact hf ρ σ H δ st a st1 _ l rs e1 fun x H1 ρ1 m1 l1 r1=>hh ρ1 σ H1 δ st1 x a δ1 _ _ l1 (rs.mn m1) r1 e2 fun σ2 H2 ρ2 m2 l2 r2=>q σ2 H2 ρ2 (m1.trans m2) l2 r2
def pQ (i j:Nat) (fa:aj->Dm (List D)):aj->Dm Fl:=fun δ st=>bnd (fa δ st) fun as st1=>match as with
 | [a,b]=>some (.nx ((δ.set i (some a)).set j (some b)),st1)
 | _=>none
theorem Hy {i j:Nat} {t:TA} {fa:aj->Dm (List D)} (ha:pd K t fa):nJ K (zL i j t) (pQ i j fa):=by
 intro ρ σ H δ st fl st' E l rs e q
 obtain ⟨as,st1,e1,e⟩:=dU e
 split at e
 ·cases e
  refine ha ρ σ H δ st _ _ _ l rs e1 fun x H1 ρ1 m1 l1 r1=>?_
  obtain ⟨v,w,rfl,r,r'⟩:=r1.two'
  exact ⟨v,w,rfl,q _ H1 ρ1 m1 l1 (((rs.mn m1).set r).set r')⟩
 ·cases e
def fJ (c:aj->Dm Bool) (b:aj->Dm Fl):Nat->aj->Dm Fl
 | 0,_,_=>none
 | n + 1,δ,st=>bnd (c δ st) fun t st1=>if t=true then bnd (b δ st1) fun fl st2=>match fl with
   | .nx δ2=>fJ c b n δ2 st2
   | .ct δ2=>fJ c b n δ2 st2
   | .bk δ2=>some (.nx δ2,st2)
   | .rt d=>some (.rt d,st2)
  else some (.nx δ,st1)
def fuel:Nat:=1000000
def i3 (c:aj->Dm Bool) (b:aj->Dm Fl):aj->Dm Fl:=fJ c b fuel
theorem yW {tc:TT} {tb:TS} {c:aj->Dm Bool} {b:aj->Dm Fl} (hc:o9 K tc c) (hb:nJ K tb b):nJ K (qg tc tb) (i3 c b):=by
 intro ρ σ H δ st fl st' E l rs e q
 refine ⟨fun m σ1 H1=>∃ ρ1 δ1 st1,Mn K ρ H ρ1 H1/\Rl K ρ1 H1 st1/\Rs K ρ1 H1 σ1 δ1/\fJ c b m δ1 st1=some (fl,st'),⟨fuel,ρ,δ,st,.refl,l,rs,e⟩,?_⟩
 rintro m σ1 H1 ⟨ρ1,δ1,st1,m1,l1,ux,e1⟩
 cases m with
 | zero=>cases e1
 | succ m =>
  obtain ⟨t,st2,e2,e1⟩:=dU e1
  refine hc ρ1 σ1 H1 δ1 st1 _ _ _ l1 ux e2 fun x H2 ρ2 m2 l2 r2=>?_
  subst r2
  cases x with
  | true =>
   refine pJ ?_
   rw [if_pos rfl] at e1
   obtain ⟨f2,st3,e3,e1⟩:=dU e1
   refine ⟨fun σ3 H3=>∃ m',m' < m + 1/\∃ ρ1 δ1 st1,Mn K ρ H ρ1 H3/\Rl K ρ1 H3 st1/\Rs K ρ1 H3 σ3 δ1/\fJ c b m' δ1 st1=some (fl,st'),fun _ _ h=>h,hb ρ2 σ1 H2 δ1 st2 f2 st3 _ l2 (ux.mn m2) e3 ?_⟩
   cases f2 with
   | nx δ3=>exact fun σ3 H3 ρ3 m3 l3 r3=>⟨m,VO m,ρ3,δ3,st3,(m1.trans m2).trans m3,l3,r3,e1⟩
   | ct δ3=>exact fun σ3 H3 ρ3 m3 l3 r3=>⟨m,VO m,ρ3,δ3,st3,(m1.trans m2).trans m3,l3,r3,e1⟩
   | bk δ3=>cases e1;exact q.mn (m1.trans m2)
   | rt d=>cases e1;exact q.mn (m1.trans m2)
  | false =>
   refine pI ?_
   rw [if_neg UE] at e1
   cases e1
   exact q.mn (m1.trans m2) σ1 H2 ρ2 .refl l2 (ux.mn m2)
inductive Src where
 | fix (ds:List D) | live (i:Nat) | P8 (i:Nat) | zl (i:Nat) (es:List D) | zr (ds:List D) (i:Nat)
def Src.at:Src->Nat->Store->Option (Option D)
 | .fix ds,i,_=>if i<=ds.length then some ds[i]? else none
 | .live r,i,st=>(items st r).map fun ds=>ds[i]?
 | .P8 r,i,st=>(items st r).bind fun ds=>if i<=ds.length then some (ds.mapIdx fun i d=>D.tup [.int (i:Int),d])[i]? else none
 | .zl r es,i,st=>(items st r).bind fun ds=>if i<=(List.zipWith (fun a b=>D.tup [a,b]) ds es).length then some (List.zipWith (fun a b=>D.tup [a,b]) ds es)[i]? else none
 | .zr ds r,i,st=>(items st r).bind fun es=>if i<=(List.zipWith (fun a b=>D.tup [a,b]) ds es).length then some (List.zipWith (fun a b=>D.tup [a,b]) ds es)[i]? else none
theorem uy {ds:List D} {i:Nat} {st:Store} {o:Option D} (h:Src.at (.fix ds) i st=some o):i<=ds.length/\ds[i]?=o:=by
 simp only [Src.at] at h
 split at h
 ·next hl=>exact ⟨hl,UD h⟩
 ·cases h
def Bw (K:Zfr) (ρ:List Addr) (H:Hp) (J:It) (S:Src):Prop :=
 ∀ (ρ2:List Addr) (H2:Hp) (st2:Store) (i:Nat),Mn K ρ H ρ2 H2->Rl K ρ2 H2 st2 ->
  (S.at i st2=some none->J.stop i H2)/\∀ d,S.at i st2=some (some d)->J.go i H2/\∀ x H3,J.rW i H2 x H3->Mn K ρ2 H2 ρ2 H3/\Rl K ρ2 H3 st2/\Rp K ρ2 H3 x d
abbrev uz (K:Zfr) (t:TI) (f:aj->Dm Src):Prop:=So K (Bw K) t f
def gq (S:Src) (g:D->aj->Dm aj) (b:aj->Dm Fl):Nat->Nat->aj->Dm Fl
 | 0,_,_,_=>none
 | n + 1,i,δ,st=>match S.at i st with
  | none=>none
  | some none=>some (.nx δ,st)
  | some (some d)=>bnd (g d δ st) fun δ1 st1=>bnd (b δ1 st1) fun fl st2=>match fl with
   | .nx δ2=>gq S g b n (i + 1) δ2 st2
   | .ct δ2=>gq S g b n (i + 1) δ2 st2
   | .bk δ2=>some (.nx δ2,st2)
   | .rt d=>some (.rt d,st2)
def eQ (fi:aj->Dm Src) (g:D->aj->Dm aj) (b:aj->Dm Fl):aj->Dm Fl:=fun δ st=>bnd (fi δ st) fun S st1=>gq S g b fuel 0 δ st1
theorem mH {wi:TI} {tg:TG} {tb:TS} {fi:aj->Dm Src} {g:D->aj->Dm aj} {b:aj->Dm Fl} (hi:uz K wi fi) (hg:wU K tg g) (hb:nJ K tb b):nJ K (zO wi tg tb) (eQ fi g b):=by
 intro ρ σ H δ st fl st' E l rs e q
 obtain ⟨S,kr,e0,e⟩:=dU e
 refine hi ρ σ H δ st S kr _ l rs e0 fun J H0 ρ0 m0 l0 ok=>?_
 refine ⟨fun i m σ1 H1=>∃ ρ1 δ1 st1,Mn K ρ0 H0 ρ1 H1/\Rl K ρ1 H1 st1/\Rs K ρ1 H1 σ1 δ1/\gq S g b m i δ1 st1=some (fl,st'),⟨fuel,ρ0,δ,kr,.refl,l0,rs.mn m0,e⟩,?_⟩
 rintro i m σ1 H1 ⟨ρ1,δ1,st1,m1,l1,ux,e1⟩
 cases m with
 | zero=>cases e1
 | succ m =>
  obtain ⟨hstop,hgo⟩:=ok ρ1 H1 st1 i m1 l1
  unfold gq at e1
  split at e1
  ·cases e1
  ·next hs=>cases e1;exact .inl ⟨hstop hs,q.mn (m0.trans m1) σ1 H1 ρ1 .refl l1 ux⟩
  ·next d hs =>
   obtain ⟨δ2,st2,e2,e1⟩:=dU e1
   obtain ⟨f3,st3,e3,e1⟩:=dU e1
   obtain ⟨go,rW⟩:=hgo d hs
   refine .inr ⟨go,fun σ3 H3=>∃ m',m' < m + 1/\∃ ρ1 δ1 st1,Mn K ρ0 H0 ρ1 H3/\Rl K ρ1 H3 st1/\Rs K ρ1 H3 σ3 δ1/\gq S g b m' (i + 1) δ1 st1=some (fl,st'),fun _ _ h=>h,fun x H2 hy=>?_⟩
   obtain ⟨m2,l2,r2⟩:=rW x H2 hy
   refine hg ρ1 σ1 H2 δ1 st1 x d δ2 st2 _ l2 (ux.mn m2) r2 e2 fun σ4 H4 ρ4 m4 l4 r4=>hb ρ4 σ4 H4 δ2 st2 f3 st3 _ l4 r4 e3 ?_
   have m5:=((m1.trans m2).trans m4)
   cases f3 with
   | nx δ3=>exact fun σ5 H5 ρ5 m6 l5 r5=>⟨m,VO m,ρ5,δ3,st3,m5.trans m6,l5,r5,e1⟩
   | ct δ3=>exact fun σ5 H5 ρ5 m6 l5 r5=>⟨m,VO m,ρ5,δ3,st3,m5.trans m6,l5,r5,e1⟩
   | bk δ3=>cases e1;exact q.mn (m0.trans m5)
   | rt d=>cases e1;exact q.mn (m0.trans m5)
def eC (fa:aj->Dm D):aj->Dm Src:=fun δ st=>bnd (fa δ st) fun a st1=>match a with
 | .tup ds=>some (.fix ds,st1)
 | _=>none
theorem pR {t:TE} {fa:aj->Dm D} (ha:gp K t fa):uz K (zN K t) (eC fa):=by
 intro ρ σ H δ st S st' Q l rs e q
 obtain ⟨a,st1,e1,e⟩:=dU e
 cases a <;> simp at e
 obtain ⟨rfl,rfl⟩:=e
 refine ha ρ σ H δ st _ _ _ l rs e1 fun x H1 ρ1 m1 l1 r1=>?_
 cases r1 with
 | tup s r =>
  refine ⟨_,rfl,⟨_,s⟩,q _ H1 ρ1 m1 l1 fun ρ2 H2 st2 i m2 l2=>⟨fun h=>?_,fun d h=>?_⟩⟩
  ·exact ⟨_,m2.t _ _ s,by rw [r.length];exact U7.mp (uy h).2⟩
  ·obtain ⟨v,hv,rv⟩:=r.got (uy h).2
   refine ⟨⟨_,v,m2.t _ _ s,hv⟩,fun x H3 y=>?_⟩
   obtain ⟨rfl,hx⟩:=y
   have:=hx _ (m2.t _ _ s)
   rw [hv] at this
   cases this
   exact ⟨.refl,l2,rv.mn m2⟩
def mX (fa:aj->Dm D):aj->Dm Src:=fun δ st=>bnd (fa δ st) fun a st1=>match a with
 | .ref i=>match items st1 i with
  | some _=>some (.live i,st1)
  | none=>none
 | _=>none
theorem P9 {t:TE} {fa:aj->Dm D} (ha:gp K t fa):uz K (tJ K t) (mX fa):=by
 intro ρ σ H δ st S st' Q l rs e q
 obtain ⟨a,st1,e1,e⟩:=dU e
 split at e
 ·next k =>
  split at e
  ·next ds hd =>
   cases e
   refine ha ρ σ H δ st _ _ _ l rs e1 fun x H1 ρ1 m1 l1 r1=>?_
   cases r1 with
   | ref hi =>
    obtain ⟨vs,s,r⟩:=l1.items hi hd
    refine ⟨_,rfl,⟨_,s⟩,q _ H1 ρ1 m1 l1 fun ρ2 H2 st2 i m2 l2=>⟨fun h=>?_,fun d h=>?_⟩⟩
    ·obtain ⟨Qa,hd2,h⟩:=U3.mp h
     obtain ⟨Lq,s2,r2⟩:=l2.items (m2.r _ _ hi) hd2
     exact ⟨Lq,s2,by rw [r2.length];exact U7.mp h⟩
    ·obtain ⟨Qa,hd2,h⟩:=U3.mp h
     obtain ⟨Lq,s2,r2⟩:=l2.items (m2.r _ _ hi) hd2
     obtain ⟨v,hv,rv⟩:=r2.got h
     refine ⟨⟨_,v,s2,hv⟩,fun x H3 y=>?_⟩
     obtain ⟨rfl,hx⟩:=y
     have:=hx _ s2
     rw [hv] at this
     cases this
     exact ⟨.refl,l2,rv⟩
  ·cases e
 ·cases e
def cn (fa:aj->Dm (List D)):aj->Dm Src:=fun δ st=>bnd (fa δ st) fun as st1=>match as with
 | [.int j]=>if decide (-4611686018427387904<=j/\j < 4611686018427387904)=true then some (.fix (aE 0 j.toNat),st1) else none
 | _=>none
def mY (fa:aj->Dm (List D)):aj->Dm Src:=fun δ st=>bnd (fa δ st) fun as st1=>match as with
 | [.int i,.int j]=>if decide ((-4611686018427387904<=i/\i < 4611686018427387904)/\-4611686018427387904<=j/\j < 4611686018427387904)=true then some (.fix (aE i (j - i).toNat),st1) else none
 | _=>none
theorem iM (lo:Int) (n:Nat):(aE lo n).length=n:=by simp [aE]
theorem yX {lo:Int} {n k:Nat} (h:k < n):(aE lo n)[k]?=some (.int (lo + k)):=by simp [aE,h]
theorem Lr {ρ:List Addr} {H:Hp} (lo:Int) (n:Nat):Bw K ρ H (zM lo n) (.fix (aE lo n)):=by
 intro ρ2 H2 st2 i m2 l2
 refine ⟨fun h=>?_,fun d h=>?_⟩
 ·have:=U7.mp (uy h).2
  rw [iM] at this
  exact this
 ·have h:=(uy h).2
  have hl:=(Uw.mp h).1
  rw [iM] at hl
  rw [yX hl] at h
  cases h
  refine ⟨hl,fun x H3 y=>?_⟩
  obtain ⟨rfl,rfl⟩:=y
  exact ⟨.refl,l2,.int _⟩
theorem oG {t:TA} {fa:aj->Dm (List D)} (ha:pd K t fa):uz K (tK t) (cn fa):=by
 intro ρ σ H δ st S st' Q l rs e q
 obtain ⟨as,st1,e1,e⟩:=dU e
 split at e
 ·split at e
  ·next ok =>
   cases e
   have ok:=of_decide_eq_true ok
   refine ha ρ σ H δ st _ _ _ l rs e1 fun x H1 ρ1 m1 l1 r1=>?_
   obtain ⟨v,rfl,r⟩:=r1.one'
   cases r
   exact ⟨_,rfl,by omega,by omega,q _ H1 ρ1 m1 l1 (Lr 0 _)⟩
  ·cases e
 ·cases e
theorem Qb {t:TA} {fa:aj->Dm (List D)} (ha:pd K t fa):uz K (tL t) (mY fa):=by
 intro ρ σ H δ st S st' Q l rs e q
 obtain ⟨as,st1,e1,e⟩:=dU e
 split at e
 ·split at e
  ·next ok =>
   cases e
   have ok:=of_decide_eq_true ok
   refine ha ρ σ H δ st _ _ _ l rs e1 fun x H1 ρ1 m1 l1 r1=>?_
   obtain ⟨v,w,rfl,r,r'⟩:=r1.two'
   cases r
   cases r'
   exact ⟨_,_,rfl,by omega,q _ H1 ρ1 m1 l1 (Lr _ _)⟩
  ·cases e
 ·cases e
def gP (ds:List D):List D:=ds.mapIdx fun i d=>.tup [.int (i:Int),d]
theorem Bx (ds:List D):(gP ds).length=ds.length:=by simp [gP]
theorem Hz {ds:List D} {i:Nat} {x:D} (h:(gP ds)[i]?=some x):∃ d,ds[i]?=some d/\x=.tup [.int (i:Int),d]:=by
 unfold gP at h
 rw [List.getElem?_mapIdx] at h
 obtain ⟨d,h1,h2⟩:=U3.mp h
 exact ⟨d,h1,h2.symm⟩
def kI (fa:aj->Dm (List D)):aj->Dm Src:=fun δ st=>bnd (fa δ st) fun as st1=>match as with
 | [.tup ds]=>some (.fix (gP ds),st1)
 | _=>none
theorem HA {t:TA} {fa:aj->Dm (List D)} (ha:pd K t fa):uz K (ua K t) (kI fa):=by
 intro ρ σ H δ st S st' Q l rs e q
 obtain ⟨as,st1,e1,e⟩:=dU e
 split at e
 ·cases e
  refine ha ρ σ H δ st _ _ _ l rs e1 fun x H1 ρ1 m1 l1 r1=>?_
  obtain ⟨v,rfl,r⟩:=r1.one'
  cases r with
  | tup s r =>
   refine ⟨_,rfl,⟨_,s⟩,q _ H1 ρ1 m1 l1 fun ρ2 H2 st2 i m2 l2=>⟨fun h=>?_,fun d h=>?_⟩⟩
   ·obtain ⟨h1,h2⟩:=uy h
    have h2:=U7.mp h2
    rw [Bx] at h1 h2
    exact ⟨_,m2.t _ _ s,by rw [r.length];omega⟩
   ·obtain ⟨h1,h2⟩:=uy h
    obtain ⟨d',hd',rfl⟩:=Hz h2
    obtain ⟨v,hv,rv⟩:=r.got hd'
    refine ⟨⟨_,v,m2.t _ _ s,hv⟩,fun x H3 y=>?_⟩
    obtain ⟨p,z,rfl,hp,rfl,hx⟩:=y
    have:=hx _ (m2.t _ _ s)
    rw [hv] at this
    cases this
    have m3:Mn K ρ2 H2 ρ2 (upd H2 p (.tup [.int (i:Int),v])):=Mn.same (iO.up hp)
    exact ⟨m3,l2.same (iO.up hp),.tup (eJ.of pX) (.cons (.int _) (.one ((rv.mn m2).mn m3)))⟩
 ·cases e
def hU (S:Src) (g:D->aj->Dm aj) (tc:aj->Dm Bool) (te:aj->Dm D):Nat->Nat->List D->aj->Dm (List D)
 | 0,_,_,_,_=>none
 | n + 1,i,ys,δ,st=>if lim ys.length=true then match S.at i st with
  | none=>none
  | some none=>some (ys,st)
  | some (some d)=>bnd (g d δ st) fun δ1 st1=>bnd (tc δ1 st1) fun t st2=>if t=true then bnd (te δ1 st2) fun y st3=>hU S g tc te n (i + 1) (ys ++ [y]) δ1 st3 else hU S g tc te n (i + 1) ys δ1 st2
  else none
def nZ (n:Nat) (js:List Nat) (δ:aj):aj:=List.replicate n none ++ js.map fun j=>δ.getD j none
def c6 (fi:aj->Dm Src) (n:Nat) (js:List Nat) (g:D->aj->Dm aj) (tc:aj->Dm Bool) (te:aj->Dm D):aj->Dm D:=fun δ st=>bnd (fi δ st) fun S st1=>bnd (hU S g tc te fuel 0 [] (nZ n js δ) st1) fun ys st2=>some (.ref st2.length,st2 ++ [.lst ys])
theorem Rs.comp {ρ:List Addr} {H:Hp} {σ:St} {δ:aj} (h:Rs K ρ H σ δ) (n:Nat) (js:List Nat):Rs K ρ H (iX n js σ) (nZ n js δ):=by
 unfold iX nZ
 refine ⟨by simp,fun i d hd=>?_⟩
 by_cases hi:i < n
 ·rw [UM (by simpa using hi),V4,if_pos hi] at hd
  cases hd
 ·rw [UR (by simpa using Wo hi),UB] at hd
  rw [UR (by simpa using Wo hi),UB]
  simp only [Wb] at hd ⊢
  cases hj:js[i - n]? with
  | none=>rw [hj] at hd;cases hd
  | some j =>
   rw [hj] at hd
   have hd:δ.getD j none=some d:=UD hd
   rw [UA] at hd
   have hd':δ[j]?=some (some d):=by
    cases hx:δ[j]? with
    | none=>rw [hx] at hd;cases hd
    | some y=>rw [hx] at hd;exact congrArg some hd
   obtain ⟨v,hv,r⟩:=h.2 j d hd'
   exact ⟨v,by show some (σ.getD j none)=_;rw [UA,hv];rfl,r⟩
theorem pe {wi:TI} {tg:TG} {tc:TT} {te:TE} {fi:aj->Dm Src} {n:Nat} {js:List Nat} {g:D->aj->Dm aj} {c:aj->Dm Bool} {f:aj->Dm D} (hi:uz K wi fi) (hg:wU K tg g) (hc:o9 K tc c) (hf:gp K te f):gp K (qv wi n js tg tc te) (c6 fi n js g c f):=by
 intro ρ σ H δ st b st' Q l rs e q
 obtain ⟨S,kr,e0,e⟩:=dU e
 obtain ⟨zs,nK,e9,e⟩:=dU e
 cases e
 refine hi ρ σ H δ st S kr _ l rs e0 fun J H0 ρ0 m0 l0 ok=>?_
 refine ⟨fun i m ys σ1 H1=>∃ ρ1 δ1 st1 ws,Mn K ρ0 H0 ρ1 H1/\Rl K ρ1 H1 st1/\Rs K ρ1 H1 σ1 δ1/\cy K ρ1 H1 ys ws/\hU S g c f m i ws δ1 st1=some (zs,nK),⟨fuel,ρ0,_,kr,[],.refl,l0,(rs.mn m0).comp n js,.nil,e9⟩,?_⟩
 rintro i m ys σ1 H1 ⟨ρ1,δ1,st1,ws,m1,l1,ux,Eg,e1⟩
 cases m with
 | zero=>cases e1
 | succ m =>
  obtain ⟨hstop,hgo⟩:=ok ρ1 H1 st1 i m1 l1
  unfold hU at e1
  split at e1
  ·next hl =>
   refine ⟨by rw [Eg.length];exact Hn hl,?_⟩
   split at e1
   ·cases e1
   ·next hs =>
    cases e1
    exact .inl ⟨hstop hs,fun p hp=>q _ _ _ ((m0.trans m1).trans (Mn.new hp)) (l1.newL hp Eg) (.ref (newR l1))⟩
   ·next d hs =>
    obtain ⟨δ2,st2,e2,e1⟩:=dU e1
    obtain ⟨t,st3,e3,e1⟩:=dU e1
    obtain ⟨go,rW⟩:=hgo d hs
    refine .inr ⟨go,fun x H2 hy=>?_⟩
    obtain ⟨m2,l2,r2⟩:=rW x H2 hy
    refine hg ρ1 σ1 H2 δ1 st1 x d δ2 st2 _ l2 (ux.mn m2) r2 e2 fun σ4 H4 ρ4 m4 l4 r4=>hc ρ4 σ4 H4 δ2 st2 t st3 _ l4 r4 e3 fun t' H5 ρ5 m5 l5 r5=>?_
    subst r5
    have m6:=(((m1.trans m2).trans m4).trans m5)
    cases t' with
    | true =>
     refine pJ ?_
     rw [if_pos rfl] at e1
     obtain ⟨y,Eh,e6,e1⟩:=dU e1
     exact hf ρ5 σ4 H5 δ2 st3 y Eh _ l5 (r4.mn m5) e6 fun v H7 ρ7 m7 l7 r7=>⟨m,VO m,ρ7,δ2,Eh,ws ++ [y],m6.trans m7,l7,r4.mn (m5.trans m7),(Eg.mn (((m2.trans m4).trans m5).trans m7)).append (.one r7),e1⟩
    | false =>
     refine pI ?_
     rw [if_neg UE] at e1
     exact ⟨m,VO m,ρ5,δ2,st3,ws,m6,l5,r4.mn m5,Eg.mn ((m2.trans m4).trans m5),e1⟩
  ·cases e1
def eY:aj->Dm Bool:=fun _ st=>some (true,st)
def gs (n:Nat) (b:aj->Dm Fl):List D->Dm D:=fun ds st=>bnd (b (ds.map some ++ List.replicate (n - ds.length) none) st) fun fl st1=>match fl with
 | .rt d=>some (d,st1)
 | .nx _=>some (.non,st1)
 | _=>none
theorem Rs.start {ρ:List Addr} {H:Hp} {vs:List V} {ds:List D} (r:cy K ρ H vs ds) (N:List Str):Rs K ρ H (start N vs) (ds.map some ++ List.replicate (N.length - ds.length) none):=by
 unfold L2.start
 rw [r.length]
 refine ⟨by simp [r.length],fun i d hd=>?_⟩
 by_cases hi:i < ds.length
 ·rw [UM (by simpa using hi),UB] at hd
  rw [UM (by rw [Uu,r.length];exact hi),UB]
  cases hx:ds[i]? with
  | none=>rw [hx] at hd;cases hd
  | some y =>
   rw [hx] at hd
   cases hd
   obtain ⟨v,hv,rv⟩:=r.got hx
   exact ⟨v,by rw [hv];rfl,rv⟩
 ·rw [UR (by simpa using Wo hi),V4] at hd
  split at hd <;> cases hd
theorem gX {N:List Str} {k n:Nat} {t:TS} {b:aj->Dm Fl} {vs:List V} {H:Hp} {Q:VK} {E:XK} (hb:nJ K t b) (hn:N.length=n) (h:bg K k (gs n b) vs H Q E):t { nx:=fun _ H'=>Q .non H',rt:=Q } (start N vs) H:=by
 obtain ⟨hk,ρ,st,ds,d,st',l,r,e,q⟩:=h
 subst hn
 obtain ⟨fl,st1,e1,e⟩:=dU e
 refine hb ρ _ H _ st fl st1 _ l (Rs.start r N) e1 ?_
 cases fl with
 | rt v=>cases e;exact q
 | nx δ=>cases e;exact fun σ' H' ρ' m l' r'=>q .non H' ρ' m l' .non
 | bk δ=>cases e
 | ct δ=>cases e
end
section
variable {X:Cx} {K:Zfr}
theorem Qc {N:List Str} {qQ:Scope} {cells:List (Str×Addr)} {C:Addr} {fp:List Addr} {s:Shared} {H:Hp} {qR:Scope} {own fr:List Str} (h:qu (qr qQ X.env.scope) qR own fr):qu (aQ X N qQ cells C fp s H).env.scope qR own fr:=h
theorem rL:o9 K (fun _ H Q=>Q true H) eY:=by
 intro ρ σ H δ st b st' Q l rs e q
 cases e
 exact q _ H ρ .refl l rfl
end
def uA (K:Zfr):Sp:=fun vs H Q _=>∃ (a:Addr) (ns:List Int),vs=[.ref a]/\Aq K H a (ns.map V.int)/\ns.length<=63/\∀ H',Q (.bl true) H'
theorem wV {P:Program} {w:World} {K:Zfr} {mg:Str->Option Value} {base:Heap} {k:Nat} {f:Addr} {fd:FuncData} {ps:List Str} {F:List D->Dm D} (G:aA P w K mg base aY k f fd ps (bg K 1 F))
  (h:∀ ns:List Int,ns.length<=63->∃ st',F [.ref 0] [.lY (ns.map D.int)]=some (.bl true,st')):aA P w K mg base aY k f fd ps (uA K):=by
 refine G.imp fun vs H Q E hs=>?_
 obtain ⟨a,ns,rfl,hS,hn,q⟩:=hs
 obtain ⟨st',e⟩:=h ns hn
 have one:∀ i (b:Addr),([a]:List Addr)[i]?=some b->i=0/\b=a:=fun i b h=>by
  cases i with
  | zero=>exact ⟨rfl,(UD h).symm⟩
  | succ i=>simp at h
 refine ⟨rfl,[a],[.lY (ns.map D.int)],[.ref 0],.bl true,st',⟨rfl,fun i j b o o' h1 h2 _ _ _ _=>by rw [(one i b h1).1,(one j b h2).1],fun i b o h1 h2=>?_⟩,.one (.ref rfl),e,fun v H' ρ' m l r=>by cases r;exact q H'⟩
 obtain ⟨rfl,rfl⟩:=one i b h1
 cases (UD h2)
 exact ⟨ns.map V.int,hS,cy.ints ns⟩
def Wp {α:Type} (m:Option (α×Store)) (Q:α->Store->Prop):Prop:=∃ a st,m=some (a,st)/\Q a st
section
variable {α β:Type} {Q Q':α->Store->Prop} {st:Store} {δ:aj}
theorem aV {m:Option (α×Store)} (h:Wp m Q) (hq:∀ a st,Q a st->Q' a st):Wp m Q':=let ⟨a,st,e,q⟩:=h;⟨a,st,e,hq a st q⟩
theorem bx {a:α}:Wp (some (a,st)) Q↔Q a st:=⟨fun ⟨_,_,e,q⟩=>by cases e;exact q,fun q=>⟨a,st,rfl,q⟩⟩
theorem fS:Wp (none:Option (α×Store)) Q↔False:=⟨fun ⟨_,_,e,_⟩=>(by cases e),False.elim⟩
theorem dE {R:β->Store->Prop} {m:Option (α×Store)} {k:α->Dm β}:Wp (bnd m k) R↔Wp m fun a st1=>Wp (k a st1) R:=by
 cases m with
 | none=>exact ⟨fun ⟨_,_,e,_⟩=>(by cases e),fun ⟨_,_,e,_⟩=>(by cases e)⟩
 | some p=>exact ⟨fun h=>⟨p.1,p.2,rfl,h⟩,fun ⟨a,s,e,h⟩=>by cases e;exact h⟩
theorem mZ {c:Prop} [Decidable c] {m n:Option (α×Store)}:Wp (if c then m else n) Q↔if c then Wp m Q else Wp n Q:=by split <;> exact Iff.rfl
end
section
variable {st:Store} {δ:aj} {Q:D->Store->Prop}
theorem wW {i:Nat}:Wp (ag i δ st) Q↔∃ d,δ[i]?=some (some d)/\Q d st:=by
 unfold ag
 split
 ·next d hd=>rw [bx];exact ⟨fun h=>⟨d,hd,h⟩,fun ⟨e,he,h⟩=>by rw [hd] at he;cases he;exact h⟩
 ·next h=>rw [fS];exact ⟨False.elim,fun ⟨e,he,_⟩=>h e he⟩
theorem HB {d:D}:Wp (fC d δ st) Q↔Q d st:=bx
theorem By {g:D->D->Dm D} {fa fb:aj->Dm D}:Wp (aG g fa fb δ st) Q↔Wp (fa δ st) fun a st1=>Wp (fb δ st1) fun b st2=>Wp (g a b st2) Q:=by
 unfold aG;rw [dE];simp only [dE]
theorem Bz {g:D->Dm D} {fa:aj->Dm D}:Wp (sI g fa δ st) Q↔Wp (fa δ st) fun a st1=>Wp (g a st1) Q:=dE
theorem BA {g:List D->Dm D} {fa:aj->Dm (List D)}:Wp (aM g fa δ st) Q↔Wp (fa δ st) fun a st1=>Wp (g a st1) Q:=dE
theorem wX {R:List D->Store->Prop}:Wp (ah δ st) R↔R [] st:=bx
theorem Qd {R:List D->Store->Prop} {fa:aj->Dm D} {fr:aj->Dm (List D)}:Wp (ae fa fr δ st) R↔Wp (fa δ st) fun a st1=>Wp (fr δ st1) fun r st2=>R (a :: r) st2:=by
 unfold ae;rw [dE];simp only [dE,bx]
theorem wY {fa:aj->Dm (List D)}:Wp (dC fa δ st) Q↔Wp (fa δ st) fun as st1=>lim as.length=true/\Q (.tup as) st1:=by
 unfold dC;rw [dE];simp only [mZ,bx,fS]
 constructor <;> exact fun h=>aV h fun a s h=>by first | (split at h;exact ⟨by assumption,h⟩;exact h.elim) | (rw [if_pos h.1];exact h.2)
theorem wZ {fa:aj->Dm (List D)}:Wp (dI fa δ st) Q↔Wp (fa δ st) fun as st1=>lim as.length=true/\Q (.ref st1.length) (st1 ++ [.lst as]):=by
 unfold dI;rw [dE];simp only [mZ,bx,fS]
 constructor <;> exact fun h=>aV h fun a s h=>by first | (split at h;exact ⟨by assumption,h⟩;exact h.elim) | (rw [if_pos h.1];exact h.2)
theorem Qe {R:Bool->Store->Prop} {fa:aj->Dm D}:Wp (aC fa δ st) R↔Wp (fa δ st) fun a st1=>∃ b,a=.bl b/\R b st1:=by
 unfold aC;rw [dE]
 constructor <;> refine fun h=>aV h fun a s h=>?_
 ·cases a <;> simp only [bx,fS] at h
  exact ⟨_,rfl,h⟩
 ·obtain ⟨b,rfl,h⟩:=h
  exact bx.mpr h
theorem w4 {R:Bool->Store->Prop} {fa:aj->Dm Bool}:Wp (mf fa δ st) R↔Wp (fa δ st) fun a st1=>R (!a) st1:=by
 unfold mf;rw [dE];simp only [bx]
theorem w6 {R:Bool->Store->Prop} {fa fb:aj->Dm Bool}:Wp (lg fa fb δ st) R↔Wp (fa δ st) fun a st1=>if a=true then Wp (fb δ st1) R else R false st1:=by
 unfold lg;rw [dE];simp only [mZ,bx]
theorem BB {R:Bool->Store->Prop} {fa fb:aj->Dm Bool}:Wp (wx fa fb δ st) R↔Wp (fa δ st) fun a st1=>if a=true then R true st1 else Wp (fb δ st1) R:=by
 unfold wx;rw [dE];simp only [mZ,bx]
theorem uB {α:Type} {R:α->Store->Prop} {c:aj->Dm Bool} {fa fb:aj->Dm α}:Wp (fV c fa fb δ st) R↔Wp (c δ st) fun a st1=>if a=true then Wp (fa δ st1) R else Wp (fb δ st1) R:=by
 unfold fV;rw [dE];simp only [mZ]
theorem HC {fa fb:aj->Dm D}:Wp (mE fa fb δ st) Q↔Wp (aC fa δ st) fun a st1=>if a=true then Wp (fb δ st1) Q else Q (.bl false) st1:=by
 unfold mE;rw [dE];simp only [mZ,bx]
theorem w8 {fa fb:aj->Dm D}:Wp (Bm fa fb δ st) Q↔Wp (aC fa δ st) fun a st1=>if a=true then Q (.bl true) st1 else Wp (fb δ st1) Q:=by
 unfold Bm;rw [dE];simp only [mZ,bx]
theorem Qf {fa:aj->Dm D}:Wp (uq fa δ st) Q↔Wp (aC fa δ st) fun a st1=>Q (.bl (!a)) st1:=by
 unfold uq;rw [dE];simp only [bx]
theorem Qg {R:Option Int->Store->Prop}:Wp (kj δ st) R↔R none st:=bx
theorem Qh {R:Option Int->Store->Prop} {fa:aj->Dm D}:Wp (kW fa δ st) R↔Wp (fa δ st) fun a st1=>∃ i,a=.int i/\R (some i) st1:=by
 unfold kW;rw [dE]
 constructor <;> refine fun h=>aV h fun a s h=>?_
 ·cases a <;> simp only [bx,fS] at h
  exact ⟨_,rfl,h⟩
 ·obtain ⟨b,rfl,h⟩:=h
  exact bx.mpr h
theorem BD {g:D->Option Int->Option Int->Dm D} {fa:aj->Dm D} {fl fh:aj->Dm (Option Int)}:Wp (wz g fa fl fh δ st) Q↔Wp (fa δ st) fun a st1=>Wp (fl δ st1) fun lo st2=>Wp (fh δ st2) fun hi st3=>Wp (g a lo hi st3) Q:=by
 unfold wz;rw [dE];simp only [dE]
theorem BE {T:String} {g:D->List D->Dm D} {fo:aj->Dm D} {fa:aj->Dm (List D)}:Wp (mG T g fo fa δ st) Q↔Wp (fo δ st) fun o st1=>uw T st1 o=true/\Wp (fa δ st1) fun as st2=>Wp (g o as st2) Q:=by
 unfold mG;rw [dE];simp only [mZ,dE,fS]
 constructor <;> exact fun h=>aV h fun a s h=>by first | (split at h;exact ⟨by assumption,h⟩;exact h.elim) | (rw [if_pos h.1];exact h.2)
variable {i j:Int} {ds es:List D} {k:Nat}
theorem xa:Wp (gO (.int i) (.int j) st) Q↔Q (.int (i + j)) st:=bx
theorem xb:Wp (mN (.int i) (.int j) st) Q↔Q (.int (i - j)) st:=bx
theorem BF:Wp (wG (.int i) (.int j) st) Q↔Q (.bl (decide (i < j))) st:=bx
theorem BG:Wp (Hs (.int i) (.int j) st) Q↔Q (.bl (decide (i<=j))) st:=bx
theorem BH:Wp (wH (.int i) (.int j) st) Q↔Q (.bl (decide (j < i))) st:=bx
theorem BI:Wp (Ht (.int i) (.int j) st) Q↔Q (.bl (decide (j<=i))) st:=bx
theorem xc:Wp (mh (.int i) st) Q↔Q (.int (-i)) st:=bx
theorem Ei {c:Int->Int->Bool} {h:Int->Int->D}:Wp (wC c h (.int i) (.int j) st) Q↔c i j=true/\Q (h i j) st:=by
 show Wp (if c i j=true then some (h i j,st) else none) Q↔_
 rw [mZ,bx,fS]
 split
 ·next h=>exact ⟨fun q=>⟨h,q⟩,fun q=>q.2⟩
 ·next h=>exact ⟨False.elim,fun q=>h q.1⟩
theorem xf:Wp (lL (.int i) (.int j) st) Q↔((-18446744073709551616 < i/\i < 18446744073709551616)\/(-18446744073709551616 < j/\j < 18446744073709551616))/\Q (.int (i * j)) st:=by
 unfold lL;rw [Ei,Wt,decide_eq_true_eq,decide_eq_true_eq]
theorem Qi:Wp (nW (.int i) (.int j) st) Q↔(0 < j/\j < 1073741824)/\Q (.int (i / j)) st:=by unfold nW;rw [Ei,decide_eq_true_eq]
theorem xg:Wp (jU (.int i) (.int j) st) Q↔0 < j/\Q (.int (i % j)) st:=by unfold jU;rw [Ei,decide_eq_true_eq]
theorem xh:Wp (qK (.int i) (.int j) st) Q↔(0<=j/\j<=1000000/\i.natAbs < 18446744073709551616)/\Q (.int (i ^ j.toNat)) st:=by unfold qK;rw [Ei,decide_eq_true_eq]
theorem xi {neg:Bool}:Wp (iY neg (.int i) (.int j) st) Q↔Q (.bl (if neg then !decide (i=j) else decide (i=j))) st:=by
 have e:decide (V.int i=V.int j)=decide (i=j):=by
  by_cases h:i=j
  ·subst h;simp
  ·simp [h]
 show Wp (if ow (V.int i) (V.int j)=true then some (D.bl (if neg then !decide (V.int i=V.int j) else decide (V.int i=V.int j)),st) else none) Q↔_
 rw [if_pos (show ow _ _=true from rfl),bx,e]
theorem xj {neg:Bool} {x y:Str}:Wp (iY neg (.str x) (.str y) st) Q↔Q (.bl (if neg then !decide (x=y) else decide (x=y))) st:=by
 have e:decide (V.str x=V.str y)=decide (x=y):=by
  by_cases h:x=y
  ·subst h;simp
  ·simp [h]
 show Wp (if ow (V.str x) (V.str y)=true then some (D.bl (if neg then !decide (V.str x=V.str y) else decide (V.str x=V.str y)),st) else none) Q↔_
 rw [if_pos (show ow _ _=true from rfl),bx,e]
theorem xk:Wp (aN (.tup ds) (.int i) st) Q↔∃ d,gG ds i=some d/\Q d st:=by
 show Wp (match gG ds i with | some d=>some (d,st) | none=>none) Q↔_
 cases gG ds i with
 | none=>rw [fS];exact ⟨False.elim,fun ⟨_,e,_⟩=>by cases e⟩
 | some d=>rw [bx];exact ⟨fun q=>⟨d,rfl,q⟩,fun ⟨_,e,q⟩=>by cases e;exact q⟩
theorem xl:Wp (dQ (.ref k) (.int i) st) Q↔∃ ds d,items st k=some ds/\gG ds i=some d/\Q d st:=by
 show Wp (match items st k with | some ds=>(match gG ds i with | some d=>some (d,st) | none=>none) | none=>none) Q↔_
 cases items st k with
 | none=>rw [fS];exact ⟨False.elim,fun ⟨_,_,e,_⟩=>by cases e⟩
 | some ds =>
  show Wp (match gG ds i with | some d=>some (d,st) | none=>none) Q↔_
  cases h:gG ds i with
  | none=>rw [fS];exact ⟨False.elim,fun ⟨_,_,e,e',_⟩=>by cases e;rw [h] at e';cases e'⟩
  | some d=>rw [bx];exact ⟨fun q=>⟨ds,d,rfl,h,q⟩,fun ⟨_,_,e,e',q⟩=>by cases e;rw [h] at e';cases e';exact q⟩
theorem xm {lo hi:Option Int}:Wp (wK (.tup ds) lo hi st) Q↔Q (.tup (cutD ds lo hi)) st:=bx
theorem xn {lo hi:Option Int}:Wp (pO (.ref k) lo hi st) Q↔∃ ds,items st k=some ds/\Q (.ref st.length) (st ++ [.lst (cutD ds lo hi)]):=by
 show Wp (match items st k with | some ds=>some (D.ref st.length,st ++ [O.lst (cutD ds lo hi)]) | none=>none) Q↔_
 cases items st k with
 | none=>rw [fS];exact ⟨False.elim,fun ⟨_,e,_⟩=>by cases e⟩
 | some ds=>rw [bx];exact ⟨fun q=>⟨ds,rfl,q⟩,fun ⟨_,e,q⟩=>by cases e;exact q⟩
theorem Qj:Wp (lO (.tup ds) (.tup es) st) Q↔lim (ds.length + es.length)=true/\Q (.tup (ds ++ es)) st:=by
 show Wp (if lim (ds.length + es.length)=true then some (D.tup (ds ++ es),st) else none) Q↔_
 rw [mZ,bx,fS]
 split
 ·next h=>exact ⟨fun q=>⟨h,q⟩,fun q=>q.2⟩
 ·next h=>exact ⟨False.elim,fun q=>h q.1⟩
theorem xo {a b:Nat}:Wp (mj (.ref a) (.ref b) st) Q↔∃ xs ys,own st a=some xs/\own st b=some ys/\lim (xs.length + ys.length)=true/\Q (.ref st.length) (st ++ [.lst (xs ++ ys)]):=by
 show Wp (match own st a,own st b with | some xs,some ys=>if lim (xs.length + ys.length)=true then some (D.ref st.length,st ++ [O.lst (xs ++ ys)]) else none | _,_=>none) Q↔_
 cases ha:own st a <;> cases hb:own st b
 ·simp only [fS];exact ⟨False.elim,fun ⟨_,_,e,_⟩=>by cases e⟩
 ·simp only [fS];exact ⟨False.elim,fun ⟨_,_,e,_⟩=>by cases e⟩
 ·simp only [fS];exact ⟨False.elim,fun ⟨_,_,_,e,_⟩=>by cases e⟩
 ·next xs ys =>
  show Wp (if lim (xs.length + ys.length)=true then some (D.ref st.length,st ++ [O.lst (xs ++ ys)]) else none) Q↔_
  rw [mZ,bx,fS]
  split
  ·next h=>exact ⟨fun q=>⟨_,_,rfl,rfl,h,q⟩,fun ⟨_,_,e,e',_,q⟩=>by cases e;cases e';exact q⟩
  ·next h=>exact ⟨False.elim,fun ⟨_,_,e,e',q,_⟩=>by cases e;cases e';exact h q⟩
theorem xq {a:D}:Wp (cT [a] st) Q↔∃ ds,df st a=some ds/\Q (.int ds.length) st:=by
 show Wp (match df st a with | some ds=>some (D.int ds.length,st) | none=>none) Q↔_
 cases df st a with
 | none=>rw [fS];exact ⟨False.elim,fun ⟨_,e,_⟩=>by cases e⟩
 | some ds=>rw [bx];exact ⟨fun q=>⟨ds,rfl,q⟩,fun ⟨_,e,q⟩=>by cases e;exact q⟩
theorem Qk {a:D}:Wp (mF [a] st) Q↔∃ ds,df st a=some ds/\Q (.ref st.length) (st ++ [.lst ds]):=by
 show Wp (match df st a with | some ds=>some (D.ref st.length,st ++ [O.lst ds]) | none=>none) Q↔_
 cases df st a with
 | none=>rw [fS];exact ⟨False.elim,fun ⟨_,e,_⟩=>by cases e⟩
 | some ds=>rw [bx];exact ⟨fun q=>⟨ds,rfl,q⟩,fun ⟨_,e,q⟩=>by cases e;exact q⟩
theorem Ql {a:D}:Wp (bU [a] st) Q↔∃ ds,df st a=some ds/\Q (.tup ds) st:=by
 show Wp (match df st a with | some ds=>some (D.tup ds,st) | none=>none) Q↔_
 cases df st a with
 | none=>rw [fS];exact ⟨False.elim,fun ⟨_,e,_⟩=>by cases e⟩
 | some ds=>rw [bx];exact ⟨fun q=>⟨ds,rfl,q⟩,fun ⟨_,e,q⟩=>by cases e;exact q⟩
theorem Qm:Wp (Bt [.int i,.int j] st) Q↔Q (.int (if j > i then j else i)) st:=bx
theorem Qn:Wp (Bu [.int i,.int j] st) Q↔Q (.int (if j < i then j else i)) st:=bx
theorem Qo:Wp (uv [.int i] st) Q↔Q (.int i) st:=bx
theorem Qp {b:Bool}:Wp (uv [.bl b] st) Q↔Q (.int (if b then 1 else 0)) st:=bx
theorem Qq:Wp (jq [.int j] st) Q↔Q (.ref st.length) (st ++ [.iT 0 j]):=bx
theorem Qr:Wp (e8 [.int i,.int j] st) Q↔Q (.ref st.length) (st ++ [.iT i j]):=bx
theorem Qs {y:D}:Wp (cM (.ref k) [y] st) Q↔∃ xs,own st k=some xs/\lim xs.length=true/\Q .non (st.set k (.lst (xs ++ [y]))):=by
 show Wp (match own st k with | some xs=>if lim xs.length=true then some (D.non,st.set k (O.lst (xs ++ [y]))) else none | none=>none) Q↔_
 cases own st k with
 | none=>rw [fS];exact ⟨False.elim,fun ⟨_,e,_⟩=>by cases e⟩
 | some xs =>
  show Wp (if lim xs.length=true then some (D.non,st.set k (O.lst (xs ++ [y]))) else none) Q↔_
  rw [mZ,bx,fS]
  split
  ·next h=>exact ⟨fun q=>⟨_,rfl,h,q⟩,fun ⟨_,e,_,q⟩=>by cases e;exact q⟩
  ·next h=>exact ⟨False.elim,fun ⟨_,e,q,_⟩=>by cases e;exact h q⟩
end
def Ws (m:Option (Fl×Store)) (N B C:aj->Store->Prop) (R:D->Store->Prop):Prop:=Wp m fun fl st=>match fl with
 | .nx δ=>N δ st
 | .bk δ=>B δ st
 | .ct δ=>C δ st
 | .rt d=>R d st
section
variable {st:Store} {δ:aj} {N B C:aj->Store->Prop} {R:D->Store->Prop} {f g:aj->Dm Fl} {e:aj->Dm D}
theorem xr {m:Option (Fl×Store)} {N':aj->Store->Prop} (h:Ws m N B C R) (hn:∀ δ st,N δ st->N' δ st):Ws m N' B C R:=aV h fun fl st q=>by
 cases fl with
 | nx δ=>exact hn δ st q
 | bk δ=>exact q
 | ct δ=>exact q
 | rt d=>exact q
theorem aZ (h:Ws (f δ st) (fun δ1 st1=>Ws (g δ1 st1) N B C R) B C R):Ws (aB f g δ st) N B C R:=by
 unfold Ws aB
 rw [dE]
 refine aV h fun fl st1 q=>?_
 cases fl with
 | nx δ1=>exact q
 | bk δ1=>exact bx.mpr q
 | ct δ1=>exact bx.mpr q
 | rt d=>exact bx.mpr q
theorem iP (h:N δ st):Ws (aX δ st) N B C R:=bx.mpr h
theorem sP {t:D->aj->Dm aj} (h:Wp (e δ st) fun d st1=>Wp (t d δ st1) N):Ws (aL e t δ st) N B C R:=by
 unfold Ws aL
 rw [dE]
 refine aV h fun d st1 q=>?_
 rw [dE]
 exact aV q fun δ1 st2 q=>bx.mpr q
theorem cK {i:Nat} (h:Wp (e δ st) fun d st1=>N (δ.set i (some d)) st1):Ws (aL e (hName i) δ st) N B C R:=sP (aV h fun d st1 q=>bx.mpr q)
theorem qS (h:Wp (e δ st) fun _ st1=>N δ st1):Ws (fX e δ st) N B C R:=by
 unfold Ws fX
 rw [dE]
 exact aV h fun d st1 q=>bx.mpr q
theorem eI (h:Wp (e δ st) R):Ws (aU e δ st) N B C R:=by
 unfold Ws aU
 rw [dE]
 exact aV h fun d st1 q=>bx.mpr q
theorem gY {c:aj->Dm Bool} (h:Wp (c δ st) fun b st1=>(b=true->Ws (f δ st1) N B C R)/\(b=false->Ws (g δ st1) N B C R)):Ws (fV c f g δ st) N B C R:=by
 unfold Ws
 rw [uB]
 refine aV h fun b st1 q=>?_
 cases b with
 | true=>rw [if_pos rfl];exact q.1 rfl
 | false=>rw [if_neg UE];exact q.2 rfl
theorem HD {i j:Nat} {fa:aj->Dm (List D)} (h:Wp (fa δ st) fun as st1=>∃ a b,as=[a,b]/\N ((δ.set i (some a)).set j (some b)) st1):Ws (pQ i j fa δ st) N B C R:=by
 unfold Ws pQ
 rw [dE]
 refine aV h fun as st1 q=>?_
 obtain ⟨a,b,rfl,q⟩:=q
 exact bx.mpr q
theorem gQ {n:Nat} {b:aj->Dm Fl} {ds:List D} (h:Ws (b (ds.map some ++ List.replicate (n - ds.length) none) st) (fun _ st1=>R .non st1) (fun _ _=>False) (fun _ _=>False) R):Wp (gs n b ds st) R:=by
 unfold gs
 rw [dE]
 refine aV h fun fl st1 q=>?_
 cases fl with
 | nx δ1=>exact bx.mpr q
 | bk δ1=>exact q.elim
 | ct δ1=>exact q.elim
 | rt d=>exact bx.mpr q
theorem yZ {c:aj->Dm Bool} {b:aj->Dm Fl} (W:Nat->aj->Store->Prop) (m:Nat) (hm:m < fuel) (h0:W m δ st)
  (step:∀ m δ st,W m δ st->Wp (c δ st) fun t st1=>(t=true->Ws (b δ st1) (fun δ2 st2=>∃ m',m' < m/\W m' δ2 st2) N (fun δ2 st2=>∃ m',m' < m/\W m' δ2 st2) R)/\(t=false->N δ st1)):Ws (i3 c b δ st) N B C R:=by
 have key:∀ (k m:Nat) (δ:aj) (st:Store),m < k->W m δ st->Ws (fJ c b k δ st) N B C R:=by
  intro k
  induction k with
  | zero=>intro m δ st h;exact absurd h (U9 _)
  | succ k ih =>
   intro m δ st hk hw
   unfold Ws fJ
   rw [dE]
   refine aV (step m δ st hw) fun t st1 q=>?_
   cases t with
   | false=>rw [if_neg UE];exact bx.mpr (q.2 rfl)
   | true =>
    rw [if_pos rfl,dE]
    refine aV (q.1 rfl) fun fl st2 q=>?_
    cases fl with
    | nx δ2=>obtain ⟨m',hm',w⟩:=q;exact ih m' δ2 st2 (by omega) w
    | ct δ2=>obtain ⟨m',hm',w⟩:=q;exact ih m' δ2 st2 (by omega) w
    | bk δ2=>exact bx.mpr q
    | rt d=>exact bx.mpr q
 exact key fuel m δ st hm h0
theorem m8 {fi:aj->Dm Src} {t:D->aj->Dm aj} {b:aj->Dm Fl} (ds:List D) (Pv:Nat->aj->Store->Prop) (hi:Wp (fi δ st) fun S st1=>S=.fix ds/\Pv 0 δ st1) (hl:ds.length < 100000)
  (step:∀ i d δ st,ds[i]?=some d->Pv i δ st->Wp (t d δ st) fun δ1 st1=>Ws (b δ1 st1) (Pv (i + 1)) N (Pv (i + 1)) R) (fin:∀ δ st,Pv ds.length δ st->N δ st):Ws (eQ fi t b δ st) N B C R:=by
 unfold Ws eQ
 rw [dE]
 refine aV hi fun S kr q=>?_
 obtain ⟨rfl,h0⟩:=q
 have key:∀ (k i:Nat) (δ:aj) (st:Store),i<=ds.length->ds.length - i < k->Pv i δ st->Ws (gq (.fix ds) t b k i δ st) N B C R:=by
  intro k
  induction k with
  | zero=>intro i δ st _ h;exact absurd h (U9 _)
  | succ k ih =>
   intro i δ st hi hk hw
   unfold Ws gq
   have e:Src.at (.fix ds) i st=some ds[i]?:=by show (if i<=ds.length then some ds[i]? else none)=_;rw [if_pos hi]
   rw [e]
   cases hd:ds[i]? with
   | none =>
    have:=U7.mp hd
    have e:i=ds.length:=by omega
    exact bx.mpr (fin δ st (e ▸ hw))
   | some d =>
    have hlt:=(Uw.mp hd).1
    show Wp (bnd _ _) _
    rw [dE]
    refine aV (step i d δ st hd hw) fun δ1 st1 q=>?_
    rw [dE]
    refine aV q fun fl st2 q=>?_
    cases fl with
    | nx δ2=>exact ih (i + 1) δ2 st2 (by omega) (by omega) q
    | ct δ2=>exact ih (i + 1) δ2 st2 (by omega) (by omega) q
    | bk δ2=>exact bx.mpr q
    | rt d=>exact bx.mpr q
 exact key fuel 0 δ kr (U8 _) (WL (by omega) (show 100000 < fuel by decide)) h0
theorem Qu {fi:aj->Dm Src} {t:D->aj->Dm aj} {b:aj->Dm Fl} (ds:List D) (r:Nat) (Pv:Nat->aj->Store->Prop) (hi:Wp (fi δ st) fun S st1=>S=.live r/\Pv 0 δ st1) (hl:ds.length < 100000) (hk:∀ i δ st,Pv i δ st->items st r=some ds)
  (step:∀ i d δ st,ds[i]?=some d->Pv i δ st->Wp (t d δ st) fun δ1 st1=>Ws (b δ1 st1) (Pv (i + 1)) N (Pv (i + 1)) R) (fin:∀ δ st,Pv ds.length δ st->N δ st):Ws (eQ fi t b δ st) N B C R:=by
 unfold Ws eQ
 rw [dE]
 refine aV hi fun S kr q=>?_
 obtain ⟨rfl,h0⟩:=q
 have key:∀ (k i:Nat) (δ:aj) (st:Store),i<=ds.length->ds.length - i < k->Pv i δ st->Ws (gq (.live r) t b k i δ st) N B C R:=by
  intro k
  induction k with
  | zero=>intro i δ st _ h;exact absurd h (U9 _)
  | succ k ih =>
   intro i δ st hi hk' hw
   unfold Ws gq
   have e:Src.at (.live r) i st=some ds[i]?:=by show (items st r).map _=_;rw [hk i δ st hw];rfl
   rw [e]
   cases hd:ds[i]? with
   | none =>
    have:=U7.mp hd
    have e:i=ds.length:=by omega
    exact bx.mpr (fin δ st (e ▸ hw))
   | some d =>
    have hlt:=(Uw.mp hd).1
    show Wp (bnd _ _) _
    rw [dE]
    refine aV (step i d δ st hd hw) fun δ1 st1 q=>?_
    rw [dE]
    refine aV q fun fl st2 q=>?_
    cases fl with
    | nx δ2=>exact ih (i + 1) δ2 st2 (by omega) (by omega) q
    | ct δ2=>exact ih (i + 1) δ2 st2 (by omega) (by omega) q
    | bk δ2=>exact bx.mpr q
    | rt d=>exact bx.mpr q
 exact key fuel 0 δ kr (U8 _) (WL (by omega) (show 100000 < fuel by decide)) h0
theorem Ej {fi:aj->Dm Src} {n:Nat} {js:List Nat} {t:D->aj->Dm aj} {c:aj->Dm Bool} {f:aj->Dm D} {Q:D->Store->Prop} (ds:List D) (Pv:Nat->List D->aj->Store->Prop)
  (hi:Wp (fi δ st) fun S st1=>(∀ i ys δ st,i<=ds.length->Pv i ys δ st->S.at i st=some ds[i]?)/\Pv 0 [] (nZ n js δ) st1) (hl:ds.length < 100000) (hy:∀ i ys δ st,Pv i ys δ st->ys.length<=i)
  (step:∀ i d ys δ st,ds[i]?=some d->Pv i ys δ st->Wp (t d δ st) fun δ1 st1=>Wp (c δ1 st1) fun b st2=>(b=true->Wp (f δ1 st2) fun y st3=>Pv (i + 1) (ys ++ [y]) δ1 st3)/\(b=false->Pv (i + 1) ys δ1 st2))
  (fin:∀ ys δ st,Pv ds.length ys δ st->Q (.ref st.length) (st ++ [.lst ys])):Wp (c6 fi n js t c f δ st) Q:=by
 unfold c6
 rw [dE]
 refine aV hi fun S kr q=>?_
 obtain ⟨hS,h0⟩:=q
 have key:∀ (k i:Nat) (ys:List D) (δ:aj) (st:Store),i<=ds.length->ds.length - i < k->Pv i ys δ st->Wp (hU S t c f k i ys δ st) fun zs nK=>∃ δ9,Pv ds.length zs δ9 nK:=by
  intro k
  induction k with
  | zero=>intro i ys δ st _ h;exact absurd h (U9 _)
  | succ k ih =>
   intro i ys δ st hi hk' hw
   unfold hU
   have hlim:lim ys.length=true:=Nat.ble_eq_true_of_le (by have:=hy i ys δ st hw;omega)
   rw [if_pos hlim,hS i ys δ st hi hw]
   cases hd:ds[i]? with
   | none =>
    have:=U7.mp hd
    have e:i=ds.length:=by omega
    exact bx.mpr ⟨δ,e ▸ hw⟩
   | some d =>
    have hlt:=(Uw.mp hd).1
    show Wp (bnd _ _) _
    rw [dE]
    refine aV (step i d ys δ st hd hw) fun δ1 st1 q=>?_
    rw [dE]
    refine aV q fun b st2 q=>?_
    cases b with
    | true =>
     rw [if_pos rfl,dE]
     exact aV (q.1 rfl) fun y st3 q=>ih (i + 1) _ δ1 st3 (by omega) (by omega) q
    | false =>
     rw [if_neg UE]
     exact ih (i + 1) ys δ1 st2 (by omega) (by omega) (q.2 rfl)
 rw [dE]
 exact aV (key fuel 0 [] _ kr (U8 _) (WL (by omega) (show 100000 < fuel by decide)) h0) fun zs nK ⟨δ9,q⟩=>bx.mpr (fin zs δ9 nK q)
end
def keyOf:D->Option Key
 | .int i=>some (.inl i)
 | .str x=>some (.inr x)
 | _=>none
def i5 (st:Store):D->Option (List (Key×D))
 | .ref i=>match st[i]? with
  | some (.dct kvs)=>some kvs
  | _=>none
 | _=>none
def dS (kvs:List (Key×D)) (k:Key):Option D:=(kvs.find? fun kv=>decide (kv.1=k)).map (·.2)
def putD (kvs:List (Key×D)) (k:Key) (v:D):List (Key×D) :=
 if (kvs.any fun kv=>decide (kv.1=k))=true then kvs.map (fun kv=>if kv.1=k then (kv.1,v) else kv) else kvs ++ [(k,v)]
section
variable {K:Zfr} {ρ:List Addr} {H:Hp} {st:Store}
theorem yD {x:V} {y:D} {k:Key} (r:Rp K ρ H x y) (h:keyOf y=some k):x=kV k:=by
 cases r <;> first | (cases h;rfl) | cases h
theorem Ls {x:V} {a:D} {kvs:List (Key×D)} (l:Rl K ρ H st) (r:Rp K ρ H x a) (h:i5 st a=some kvs):∃ p i ws,x=.ref p/\a=.ref i/\ρ[i]?=some p/\st[i]?=some (.dct kvs)/\H p=some (.dK ws)/\Rk K ρ H ws kvs:=by
 cases r <;> first | (cases h;done) | skip
 next hi =>
  simp only [i5] at h
  split at h
  ·next kvs' hs =>
   cases h
   obtain ⟨ws,e,r⟩:=l.obj _ _ _ hi hs
   exact ⟨_,_,ws,rfl,rfl,hi,hs,e,r⟩
  ·cases h
theorem Rk.val {ws:List (Key×V)} {kvs:List (Key×D)} (r:Rk K ρ H ws kvs) (k:Key):(∀ d,dS kvs k=some d->∃ v,jS ws k=some v/\Rp K ρ H v d)/\(jS ws k).isSome=(dS kvs k).isSome:=by
 induction r with
 | nil=>exact ⟨fun d h=>(by cases h),rfl⟩
 | @cons p q ps qs h t ih =>
  obtain ⟨h1,h2⟩:=h
  unfold dS jS at ih ⊢
  rw [Vx,Vx]
  by_cases e:p.1=k
  ·rw [decide_eq_true e,decide_eq_true (h1 ▸ e)]
   exact ⟨fun d hd=>by cases hd;exact ⟨_,rfl,h2⟩,rfl⟩
  ·rw [decide_eq_false e,decide_eq_false (h1 ▸ e)]
   exact ih
theorem Rk.app {ws Lu:List (Key×V)} {kvs kvs':List (Key×D)} (r:Rk K ρ H ws kvs) (r':Rk K ρ H Lu kvs'):Rk K ρ H (ws ++ Lu) (kvs ++ kvs'):=by
 induction r with
 | nil=>exact r'
 | cons h _ ih=>exact .cons h ih
theorem Rk.put {ws:List (Key×V)} {kvs:List (Key×D)} {v:V} {d:D} (r:Rk K ρ H ws kvs) (k:Key) (rv:Rp K ρ H v d):Rk K ρ H (putK ws k v) (putD kvs k d):=by
 have hany:(ws.any fun kv=>decide (kv.1=k))=(kvs.any fun kv=>decide (kv.1=k)):=by
  induction r with
  | nil=>rfl
  | cons h _ ih=>rw [Vu,Vu,ih,h.1]
 have hmap:Rk K ρ H (ws.map fun kv=>if kv.1=k then (kv.1,v) else kv) (kvs.map fun kv=>if kv.1=k then (kv.1,d) else kv):=by
  clear hany
  induction r with
  | nil=>exact .nil
  | @cons p q ps qs h _ ih =>
   refine .cons ?_ ih
   dsimp only
   by_cases e:p.1=k
   ·rw [if_pos e,if_pos (h.1 ▸ e)];exact ⟨h.1,rv⟩
   ·rw [if_neg e,if_neg (h.1 ▸ e)];exact h
 unfold putK putD
 rw [hany]
 split
 ·exact hmap
 ·exact r.app (.cons ⟨rfl,rv⟩ .nil)
theorem Rk.length {ws:List (Key×V)} {kvs:List (Key×D)} (r:Rk K ρ H ws kvs):ws.length=kvs.length:=by
 induction r with
 | nil=>rfl
 | cons _ _ ih=>rw [U1,U1,ih]
end
section
variable {K:Zfr}
def qT:aj->Dm D:=fun _ st=>some (.ref st.length,st ++ [.dct []])
theorem Qv:gp K qo qT:=by
 intro ρ σ H δ st b st' Q l rs e q
 cases e
 exact fun p hp=>q _ _ _ (Mn.new hp) (l.newD hp .nil) (.ref (newR l))
def uC (fd fy:aj->Dm D):aj->Dm D:=fun δ st=>bnd (fd δ st) fun x st1=>bnd (fy δ st1) fun y st2=>match i5 st2 x,keyOf y with
 | some kvs,some k=>match dS kvs k with
  | some v=>some (v,st2)
  | none=>none
 | _,_=>none
def sQ (neg:Bool) (fy fd:aj->Dm D):aj->Dm D:=fun δ st=>bnd (fy δ st) fun y st1=>bnd (fd δ st1) fun x st2=>match i5 st2 x,keyOf y with
 | some kvs,some k=>some (.bl (if neg then !(dS kvs k).isSome else (dS kvs k).isSome),st2)
 | _,_=>none
theorem Qw {td ty:TE} {fd fy:aj->Dm D} (hy:gp K ty fy) (hd:gp K td fd):gp K (oW ty td) (sQ true fy fd):=by
 intro ρ σ H δ st b st' Q l rs e q
 obtain ⟨y,st1,e1,e⟩:=dU e
 obtain ⟨x,st2,e2,e⟩:=dU e
 refine hy ρ σ H δ st y st1 _ l rs e1 fun vy H1 ρ1 m1 l1 r1=>hd ρ1 σ H1 δ st1 x st2 _ l1 (rs.mn m1) e2 fun vx H2 ρ2 m2 l2 r2=>?_
 split at e
 ·next kvs k hx hk =>
  cases e
  obtain ⟨p,i,ws,rfl,rfl,hi,hs,hp,rk⟩:=Ls l2 r2 hx
  refine ⟨p,jS ws k,rfl,by rw [yD r1 hk];exact ql.k hp,q _ H2 ρ2 (m1.trans m2) l2 ?_⟩
  rw [(rk.val k).2]
  exact .bl _
 ·cases e
def pg (fd fy fv:aj->Dm D):aj->Dm Fl:=fun δ st=>bnd (fv δ st) fun v st1=>bnd (fd δ st1) fun x st2=>bnd (fy δ st2) fun y st3=>match x,i5 st3 x,keyOf y with
 | .ref i,some kvs,some k=>if lim kvs.length=true then some (.nx δ,st3.set i (.dct (putD kvs k v))) else none
 | _,_,_=>none
theorem Qx {td ty tv:TE} {fd fy fv:aj->Dm D} (hd:gp K td fd) (hy:gp K ty fy) (hv:gp K tv fv):nJ K (t4 td ty tv) (pg fd fy fv):=by
 intro ρ σ H δ st fl st' E l rs e q
 obtain ⟨v,st1,e1,e⟩:=dU e
 obtain ⟨x,st2,e2,e⟩:=dU e
 obtain ⟨y,st3,e3,e⟩:=dU e
 refine hv ρ σ H δ st v st1 _ l rs e1 fun vv H1 ρ1 m1 l1 r1=>hd ρ1 σ H1 δ st1 x st2 _ l1 (rs.mn m1) e2 fun vx H2 ρ2 m2 l2 r2=>hy ρ2 σ H2 δ st2 y st3 _ l2 (rs.mn (m1.trans m2)) e3 fun vy H3 ρ3 m3 l3 r3=>?_
 obtain ⟨i,rfl⟩:∃ i,x=.ref i:=by
  cases x <;> first | exact ⟨_,rfl⟩ | (simp at e;done) | cases e
 cases hx:i5 st3 (.ref i) with
 | none=>rw [hx] at e;cases e
 | some kvs =>
 cases hk:keyOf y with
 | none=>rw [hx,hk] at e;cases e
 | some k =>
  rw [hx,hk] at e
  simp only at e
  split at e
  ·next hl =>
   cases e
   obtain ⟨p,j,ws,rfl,ej,hi,hs,hp,rk⟩:=Ls l3 (r2.mn m3) hx
   cases ej
   obtain ⟨l4,m4⟩:=l3.wt hi hs (rk.put k (r1.mn (m2.trans m3)))
   have mm:=((m1.trans m2).trans m3).trans m4
   refine ⟨p,_,rfl,?_,q σ _ ρ3 mm l4 (rs.mn mm)⟩
   rw [yD r3 hk]
   exact qm.k hp (by rw [rk.length];exact Hn hl)
  ·cases e
def BJ:aj->Dm (List (D×D)):=fun _ st=>some ([],st)
def qU (fk fv:aj->Dm D) (fr:aj->Dm (List (D×D))):aj->Dm (List (D×D)):=fun δ st=>bnd (fk δ st) fun k st1=>bnd (fv δ st1) fun v st2=>bnd (fr δ st2) fun r st3=>some ((k,v) :: r,st3)
def keysOf:List (D×D)->Option (List (Key×D))
 | []=>some []
 | (k,v) :: r=>match keyOf k,keysOf r with
  | some k',some r'=>some ((k',v) :: r')
  | _,_=>none
def qV (kvs more:List (Key×D)):List (Key×D):=more.foldl (fun acc kv=>putD acc kv.1 kv.2) kvs
def uD (fp:aj->Dm (List (D×D))):aj->Dm D:=fun δ st=>bnd (fp δ (st ++ [.dct []])) fun ps st2=>match st2[st.length]?,keysOf ps with
 | some (.dct []),some kvs=>if kvs.length<=15 then some (.ref st.length,st2.set st.length (.dct (qV [] kvs))) else none
 | _,_=>none
end
section
variable {st:Store} {δ:aj} {Q:D->Store->Prop}
theorem Qy:Wp (qT δ st) Q↔Q (.ref st.length) (st ++ [.dct []]):=bx
theorem Qz {fd fy:aj->Dm D}:Wp (uC fd fy δ st) Q↔Wp (fd δ st) fun x st1=>Wp (fy δ st1) fun y st2=>∃ kvs k v,i5 st2 x=some kvs/\keyOf y=some k/\dS kvs k=some v/\Q v st2:=by
 unfold uC;rw [dE];simp only [dE]
 constructor <;> refine fun h=>aV h fun x s h=>aV h fun y s2 h=>?_
 ·split at h
  ·next kvs k h1 h2 =>
   split at h
   ·next v h3=>exact ⟨kvs,k,v,by assumption,by assumption,h3,bx.mp h⟩
   ·exact (fS.mp h).elim
  ·exact (fS.mp h).elim
 ·obtain ⟨kvs,k,v,h1,h2,h3,h⟩:=h
  rw [h1,h2]
  simp only [h3]
  exact bx.mpr h
theorem xt {neg:Bool} {fd fy:aj->Dm D}:Wp (sQ neg fy fd δ st) Q↔Wp (fy δ st) fun y st1=>Wp (fd δ st1) fun x st2=>∃ kvs k,i5 st2 x=some kvs/\keyOf y=some k/\Q (.bl (if neg then !(dS kvs k).isSome else (dS kvs k).isSome)) st2:=by
 unfold sQ;rw [dE];simp only [dE]
 constructor <;> refine fun h=>aV h fun x s h=>aV h fun y s2 h=>?_
 ·split at h
  ·next kvs k h1 h2=>exact ⟨kvs,k,by assumption,by assumption,bx.mp h⟩
  ·exact (fS.mp h).elim
 ·obtain ⟨kvs,k,h1,h2,h⟩:=h
  rw [h1,h2]
  exact bx.mpr h
theorem QA {R:List (D×D)->Store->Prop}:Wp (BJ δ st) R↔R [] st:=bx
theorem QB {fk fv:aj->Dm D} {fr:aj->Dm (List (D×D))} {R:List (D×D)->Store->Prop}:Wp (qU fk fv fr δ st) R↔Wp (fk δ st) fun k st1=>Wp (fv δ st1) fun v st2=>Wp (fr δ st2) fun r st3=>R ((k,v) :: r) st3:=by
 unfold qU;rw [dE];simp only [dE,bx]
theorem QC {fp:aj->Dm (List (D×D))}:Wp (uD fp δ st) Q↔Wp (fp δ (st ++ [.dct []])) fun ps st2=>st2[st.length]?=some (.dct [])/\∃ kvs,keysOf ps=some kvs/\kvs.length<=15/\Q (.ref st.length) (st2.set st.length (.dct (qV [] kvs))):=by
 unfold uD;rw [dE]
 constructor <;> refine fun h=>aV h fun ps s h=>?_
 ·split at h
  ·next kvs h1 h2 =>
   rw [mZ,bx,fS] at h
   split at h
   ·next hl=>exact ⟨by assumption,kvs,by assumption,hl,h⟩
   ·exact h.elim
  ·exact (fS.mp h).elim
 ·obtain ⟨h1,kvs,h2,h3,h⟩:=h
  rw [h1,h2]
  simp only [if_pos h3]
  exact bx.mpr h
theorem QD {fd fy fv:aj->Dm D} {N B C:aj->Store->Prop} {R:D->Store->Prop} (h:Wp (fv δ st) fun v st1=>Wp (fd δ st1) fun x st2=>Wp (fy δ st2) fun y st3=>∃ i kvs k,x=.ref i/\i5 st3 x=some kvs/\keyOf y=some k/\lim kvs.length=true/\N δ (st3.set i (.dct (putD kvs k v)))):Ws (pg fd fy fv δ st) N B C R:=by
 unfold Ws pg
 rw [dE]
 refine aV h fun v st1 h=>?_
 rw [dE]
 refine aV h fun x st2 h=>?_
 rw [dE]
 refine aV h fun y st3 h=>?_
 obtain ⟨i,kvs,k,rfl,h1,h2,h3,h⟩:=h
 rw [h1,h2]
 simp only [h3]
 exact bx.mpr h
end
structure Ex (c:List Nat) (st st':Store):Prop where
 len:st.length<=st'.length
 keep:∀ (i:Nat) (o:O),st[i]?=some o->i ∉ c->st'[i]?=some o
section
variable {c c':List Nat} {st st1 st2:Store} {i:Nat} {o:O} {ds:List D}
theorem Ex.refl:Ex c st st:=⟨Ux _,fun _ _ h _=>h⟩
theorem Ex.trans (a:Ex c st st1) (b:Ex c st1 st2):Ex c st st2:=⟨UZ a.len b.len,fun i o h n=>b.keep i o (a.keep i o h n) n⟩
theorem Ex.mono (a:Ex c st st1) (h:∀ x∈c,x∈c'):Ex c' st st1:=⟨a.len,fun i o e n=>a.keep i o e fun z=>n (h i z)⟩
theorem Ex.any (a:Ex [] st st1):Ex c st st1:=a.mono fun x h=>nomatch h
theorem gZ {α:Type} {l:List α} {i:Nat} {o:α} (h:l[i]?=some o):i < l.length:=(Uw.mp h).1
theorem lP {l m:List O} (h:l[i]?=some o):(l ++ m)[i]?=some o:=by rw [UM (gZ h)];exact h
theorem jQ {l:List O}:(l ++ [o])[l.length]?=some o:=by rw [UR (Ux _),VS];rfl
theorem Ex.app (a:Ex c st st1) (m:List O):Ex c st (st1 ++ m):=⟨by rw [UG];exact UZ a.len (Nat.le_add_right _ _),fun i o h n=>lP (a.keep i o h n)⟩
theorem Ex.cU (m:List O):Ex c st (st ++ m):=Ex.refl.app m
theorem Ex.put (a:Ex c st st1) (h:i∈c):Ex c st (st1.set i o):=⟨by rw [Vo];exact a.len,fun j u e n=>by rw [UX (fun z=>n (by rw [<- z];exact h))];exact a.keep j u e n⟩
theorem Ex.loc (a:Ex c st st1) (h:st.length<=i):Ex c st (st1.set i o):=⟨by rw [Vo];exact a.len,fun j u e n=>by rw [UX (by have:=gZ e;omega)];exact a.keep j u e n⟩
theorem de (h:st[i]?=some (.lst ds)):items st i=some ds:=by unfold items;rw [h]
theorem Lv (h:st[i]?=some (.lY ds)):items st i=some ds:=by unfold items;rw [h]
theorem lA (h:st[i]?=some (.lst ds)):own st i=some ds:=by unfold own;rw [h]
theorem rM:items (st ++ [.lst ds]) st.length=some ds:=de jQ
theorem QE:own (st ++ [.lst ds]) st.length=some ds:=lA jQ
theorem QF {o':O}:items (st ++ [.lst ds] ++ [o']) st.length=some ds:=de (lP jQ)
theorem QG {o':O}:own (st ++ [.lst ds] ++ [o']) st.length=some ds:=lA (lP jQ)
theorem QH {o' o2:O}:items (st ++ [.lst ds] ++ [o'] ++ [o2]) st.length=some ds:=de (lP (lP jQ))
theorem QI {o' o2:O}:own (st ++ [.lst ds] ++ [o'] ++ [o2]) st.length=some ds:=lA (lP (lP jQ))
theorem QJ {lo hi:Int}:iL (st ++ [.iT lo hi]) (.ref st.length)=some (lo,hi):=by simp only [iL,jQ]
theorem QK:df st (.tup ds)=some ds:=rfl
theorem Lw:df st (.ref i)=items st i:=rfl
theorem pS (h:(items st i).isSome=true):uw "list" st (.ref i)=true:=by simp only [uw,h];rfl
theorem HE:uw "tuple" st (.tup ds)=true:=by simp only [uw];rfl
theorem kJ {n:Nat} (h:n<=100000):lim n=true:=Nat.ble_eq_true_of_le h
end
section
variable {st:Store} {Q:D->Store->Prop} {i j:Int} {k:Nat} {ds es:List D}
theorem QL {a:D}:Wp (eO [a] st) Q↔∃ p,iL st a=some p/\pP p.1 p.2=true/\Q (.ref st.length) (st ++ [.lst (aE p.1 (p.2 - p.1).toNat)]):=by
 show Wp (match iL st a with | some (lo,hi)=>if pP lo hi=true then some (D.ref st.length,st ++ [O.lst (aE lo (hi - lo).toNat)]) else none | none=>none) Q↔_
 cases iL st a with
 | none=>rw [fS];exact ⟨False.elim,fun ⟨_,e,_⟩=>by cases e⟩
 | some p =>
  obtain ⟨lo,hi⟩:=p
  show Wp (if pP lo hi=true then some (D.ref st.length,st ++ [O.lst (aE lo (hi - lo).toNat)]) else none) Q↔_
  rw [mZ,bx,fS]
  split
  ·next h=>exact ⟨fun q=>⟨_,rfl,h,q⟩,fun ⟨_,e,_,q⟩=>by cases e;exact q⟩
  ·next h=>exact ⟨False.elim,fun ⟨_,e,q,_⟩=>by cases e;exact h q⟩
theorem QM {a:D}:Wp (sN [a] st) Q↔∃ p,iL st a=some p/\pP p.1 p.2=true/\Q (.tup (aE p.1 (p.2 - p.1).toNat)) st:=by
 show Wp (match iL st a with | some (lo,hi)=>if pP lo hi=true then some (D.tup (aE lo (hi - lo).toNat),st) else none | none=>none) Q↔_
 cases iL st a with
 | none=>rw [fS];exact ⟨False.elim,fun ⟨_,e,_⟩=>by cases e⟩
 | some p =>
  obtain ⟨lo,hi⟩:=p
  show Wp (if pP lo hi=true then some (D.tup (aE lo (hi - lo).toNat),st) else none) Q↔_
  rw [mZ,bx,fS]
  split
  ·next h=>exact ⟨fun q=>⟨_,rfl,h,q⟩,fun ⟨_,e,_,q⟩=>by cases e;exact q⟩
  ·next h=>exact ⟨False.elim,fun ⟨_,e,q,_⟩=>by cases e;exact h q⟩
theorem xu:Wp (qM (.ref k) (.int j) st) Q↔∃ xs,own st k=some xs/\(-9223372036854775808<=j/\j < 9223372036854775808)/\lim (xs.length * j.toNat)=true/\Q (.ref st.length) (st ++ [.lst (List.replicate j.toNat xs).flatten]):=by
 show Wp (match own st k with | some a=>if (decide (-9223372036854775808<=j/\j < 9223372036854775808) && lim (a.length * j.toNat))=true then some (D.ref st.length,st ++ [O.lst (List.replicate j.toNat a).flatten]) else none | _=>none) Q↔_
 cases own st k with
 | none=>simp only [fS];exact ⟨False.elim,fun ⟨_,e,_⟩=>by cases e⟩
 | some xs =>
  show Wp (if (decide (-9223372036854775808<=j/\j < 9223372036854775808) && lim (xs.length * j.toNat))=true then some (D.ref st.length,st ++ [O.lst (List.replicate j.toNat xs).flatten]) else none) Q↔_
  rw [mZ,bx,fS]
  split
  ·next h=>rw [UO,decide_eq_true_eq] at h;exact ⟨fun q=>⟨_,rfl,h.1,h.2,q⟩,fun ⟨_,e,_,_,q⟩=>by cases e;exact q⟩
  ·next h=>rw [UO,decide_eq_true_eq] at h;exact ⟨False.elim,fun ⟨_,e,q,q',_⟩=>by cases e;exact h ⟨q,q'⟩⟩
theorem QN:Wp (kH (.ref k) [.int i] st) Q↔∃ xs j y,own st k=some xs/\(-9223372036854775808<=i/\i < 9223372036854775808)/\seqIndex? i xs.length=some j/\xs[j]?=some y/\Q y (st.set k (.lst (xs.eraseIdx j))):=by
 constructor
 ·rintro ⟨a,s,e,q⟩
  simp only [kH] at e
  split at e
  ·next xs hx =>
   split at e
   ·next hk =>
    split at e
    ·next j hj =>
     split at e
     ·next y hy=>cases e;exact ⟨xs,j,_,hx,of_decide_eq_true hk,hj,hy,q⟩
     ·cases e
    ·cases e
   ·cases e
  ·cases e
 ·rintro ⟨xs,j,y,hx,hk,hj,hy,q⟩
  refine ⟨_,_,?_,q⟩
  simp only [kH,hx,hj,hy,decide_eq_true hk]
  rfl
theorem QO {b:Nat}:Wp (mU (.ref k) [.ref b] st) Q↔∃ xs ys,own st k=some xs/\own st b=some ys/\lim (xs.length + ys.length)=true/\Q .non (st.set k (.lst (xs ++ ys))):=by
 constructor
 ·rintro ⟨a,s,e,q⟩
  simp only [mU] at e
  split at e
  ·next xs ys hx hy =>
   split at e
   ·next hl=>cases e;exact ⟨xs,ys,hx,hy,hl,q⟩
   ·cases e
  ·cases e
 ·rintro ⟨xs,ys,hx,hy,hl,q⟩
  refine ⟨_,_,?_,q⟩
  simp only [mU,hx,hy,hl]
  rfl
theorem Lx {v:Int}:Wp (hJ (.tup ds) [.int v] st) Q↔∃ ns j,bQ iV ds=some ns/\ns.findIdx? (fun i=>decide (i=v))=some j/\Q (.int (j:Int)) st:=by
 constructor
 ·rintro ⟨a,s,e,q⟩
  simp only [hJ] at e
  split at e
  ·next ns hn =>
   split at e
   ·next j hj=>cases e;exact ⟨ns,j,hn,hj,q⟩
   ·cases e
  ·cases e
 ·rintro ⟨ns,j,hn,hj,q⟩
  refine ⟨_,_,?_,q⟩
  simp only [hJ,hn,hj]
theorem xv:Wp (wO [.ref k] st) Q↔∃ ds bs,items st k=some ds/\bQ bV ds=some bs/\Q (.bl (bs.all id)) st:=by
 constructor
 ·rintro ⟨a,s,e,q⟩
  simp only [wO] at e
  split at e
  ·next bs hb =>
   cases e
   obtain ⟨ds,h1,h2⟩:=VI.mp hb
   exact ⟨ds,bs,h1,h2,q⟩
  ·cases e
 ·rintro ⟨ds,bs,h1,h2,q⟩
  refine ⟨_,_,?_,q⟩
  simp only [wO,h1,V3,h2]
theorem BK {neg:Bool} {a c:D}:Wp (qN neg a c st) Q↔∃ x ds vs,sV a=some x/\df st c=some ds/\bQ sV ds=some vs/\Q (.bl (if neg then !tU x vs else tU x vs)) st:=by
 constructor
 ·rintro ⟨b,s,e,q⟩
  simp only [qN] at e
  split at e
  ·next x vs h1 h2 =>
   cases e
   obtain ⟨ds,h3,h4⟩:=VI.mp h2
   exact ⟨x,ds,vs,h1,h3,h4,q⟩
  ·cases e
 ·rintro ⟨x,ds,vs,h1,h2,h3,q⟩
  refine ⟨_,_,?_,q⟩
  simp only [qN,h1,h2,V3,h3]
theorem Ly (ns:List Int):bQ sV (ns.map D.int)=some (ns.map V.int):=sL (f:=sV) (g:=D.int) (k:=V.int) (fun _=>rfl) ns
theorem Lz (ns:List Int):bQ iV (ns.map D.int)=some ns:=by
 have:=sL (f:=iV) (g:=D.int) (k:=id) (fun _=>rfl) ns
 rw [this,V8]
theorem HF {neg:Bool} {a b:D}:Wp (eN neg a b st) Q↔∃ p q,dc st 20 a=some p/\dc st 20 b=some q/\(PyData.canLay0 p=true/\PyData.canLay0 q=true/\min p.depth q.depth<=60)/\Q (.bl (if neg then !PyData.eqv p q else PyData.eqv p q)) st:=by
 constructor
 ·rintro ⟨c,s,e,q⟩
  simp only [eN] at e
  split at e
  ·next x y h1 h2 =>
   split at e
   ·next hs =>
    cases e
    rw [UO,UO,decide_eq_true_eq] at hs
    exact ⟨x,y,h1,h2,⟨hs.1.1,hs.1.2,hs.2⟩,q⟩
   ·cases e
  ·cases e
 ·rintro ⟨x,y,h1,h2,⟨h3,h4,h5⟩,q⟩
  refine ⟨_,_,?_,q⟩
  simp only [eN,h1,h2,h3,h4,decide_eq_true h5]
  rfl
theorem xw {z:Str}:Wp (wJ (.str z) (.int i) st) Q↔∃ c,lim z.length=true/\gG z.cps.toList i=some c/\Q (.str ⟨#[c]⟩) st:=by
 constructor
 ·rintro ⟨c,s,e,q⟩
  simp only [wJ] at e
  split at e
  ·next h1 =>
   split at e
   ·next c hc=>cases e;exact ⟨c,h1,hc,q⟩
   ·cases e
  ·cases e
 ·rintro ⟨c,h1,h2,q⟩
  refine ⟨_,_,?_,q⟩
  simp only [wJ,h1,h2]
  rfl
theorem QP {δ:aj} {fa:aj->Dm (List D)} {R:Src->Store->Prop}:Wp (cn fa δ st) R↔Wp (fa δ st) fun as st1=>∃ j,as=[.int j]/\(-4611686018427387904<=j/\j < 4611686018427387904)/\R (.fix (aE 0 j.toNat)) st1:=by
 unfold cn;rw [dE]
 constructor <;> refine fun h=>aV h fun as s h=>?_
 ·split at h
  ·next j =>
   rw [mZ,bx,fS] at h
   split at h
   ·next hk=>exact ⟨j,rfl,of_decide_eq_true hk,h⟩
   ·exact h.elim
  ·exact (fS.mp h).elim
 ·obtain ⟨j,rfl,h1,h⟩:=h
  simp only [decide_eq_true h1,if_true]
  exact bx.mpr h
theorem QQ {δ:aj} {fa:aj->Dm (List D)} {R:Src->Store->Prop}:Wp (mY fa δ st) R↔Wp (fa δ st) fun as st1=>∃ i j,as=[.int i,.int j]/\((-4611686018427387904<=i/\i < 4611686018427387904)/\-4611686018427387904<=j/\j < 4611686018427387904)/\R (.fix (aE i (j - i).toNat)) st1:=by
 unfold mY;rw [dE]
 constructor <;> refine fun h=>aV h fun as s h=>?_
 ·split at h
  ·next i j =>
   rw [mZ,bx,fS] at h
   split at h
   ·next hk=>exact ⟨i,j,rfl,of_decide_eq_true hk,h⟩
   ·exact h.elim
  ·exact (fS.mp h).elim
 ·obtain ⟨i,j,rfl,h1,h⟩:=h
  simp only [decide_eq_true h1,if_true]
  exact bx.mpr h
theorem QR {δ:aj} {fa:aj->Dm D} {R:Src->Store->Prop}:Wp (eC fa δ st) R↔Wp (fa δ st) fun a st1=>∃ ds,a=.tup ds/\R (.fix ds) st1:=by
 unfold eC;rw [dE]
 constructor <;> refine fun h=>aV h fun a s h=>?_
 ·cases a <;> simp only [bx,fS] at h
  exact ⟨_,rfl,h⟩
 ·obtain ⟨j,rfl,h⟩:=h
  exact bx.mpr h
theorem QS {δ:aj} {fa:aj->Dm D} {R:Src->Store->Prop}:Wp (mX fa δ st) R↔Wp (fa δ st) fun a st1=>∃ i ds,a=.ref i/\items st1 i=some ds/\R (.live i) st1:=by
 unfold mX;rw [dE]
 constructor <;> refine fun h=>aV h fun a s h=>?_
 ·split at h
  ·split at h
   ·next i ds hd=>exact ⟨_,ds,rfl,hd,bx.mp h⟩
   ·exact (fS.mp h).elim
  ·exact (fS.mp h).elim
 ·obtain ⟨i,ds,rfl,hd,h⟩:=h
  simp only [hd]
  exact bx.mpr h
theorem QT {δ:aj} {fa:aj->Dm (List D)} {R:Src->Store->Prop}:Wp (kI fa δ st) R↔Wp (fa δ st) fun as st1=>∃ ds,as=[.tup ds]/\R (.fix (gP ds)) st1:=by
 unfold kI;rw [dE]
 constructor <;> refine fun h=>aV h fun as s h=>?_
 ·split at h
  ·exact ⟨_,rfl,bx.mp h⟩
  ·exact (fS.mp h).elim
 ·obtain ⟨ds,rfl,h⟩:=h
  exact bx.mpr h
theorem Ek {i:Nat} {d:D} {δ:aj} {R:aj->Store->Prop}:Wp (hName i d δ st) R↔R (δ.set i (some d)) st:=bx
theorem QU {δ:aj} {R:aj->Store->Prop}:Wp (nY [] δ st) R↔R δ st:=bx
theorem QV {f:D->aj->Dm aj} {g:List D->aj->Dm aj} {d:D} {ds:List D} {δ:aj} {R:aj->Store->Prop}:Wp (fW f g (d :: ds) δ st) R↔Wp (f d δ st) fun δ1 st1=>Wp (g ds δ1 st1) R:=dE
theorem QW {n:Nat} {f:List D->aj->Dm aj} {ds:List D} {δ:aj} {R:aj->Store->Prop}:Wp (mW n f (.tup ds) δ st) R↔ds.length=n/\Wp (f ds δ st) R:=by
 show Wp (if ds.length=n then f ds δ st else none) R↔_
 rw [mZ,fS]
 split
 ·next h=>exact ⟨fun q=>⟨h,q⟩,fun q=>q.2⟩
 ·next h=>exact ⟨False.elim,fun q=>h q.1⟩
theorem QX {fo fi:aj->Dm D} {d:D} {δ:aj} {R:aj->Store->Prop}:Wp (hSub fo fi d δ st) R↔Wp (fo δ st) fun o st1=>Wp (fi δ st1) fun i st2=>∃ r k xs j,o=.ref r/\i=.int k/\own st2 r=some xs/\lq xs.length k=some j/\R δ (st2.set r (.lst (xs.set j d))):=by
 unfold hSub;rw [dE];simp only [dE]
 constructor <;> refine fun h=>aV h fun o s h=>aV h fun i s2 h=>?_
 ·split at h
  ·split at h
   ·next xs hx =>
    split at h
    ·next j hj=>exact ⟨_,_,xs,j,rfl,rfl,hx,hj,bx.mp h⟩
    ·exact (fS.mp h).elim
   ·exact (fS.mp h).elim
  ·exact (fS.mp h).elim
 ·obtain ⟨r,k,xs,j,rfl,rfl,hx,hj,h⟩:=h
  simp only [hx,hj]
  exact bx.mpr h
theorem QY {a:D} {c:String}:Wp (mV [a,.ty c] st) Q↔Bv st a=some c/\Q (.bl true) st:=by
 constructor
 ·rintro ⟨b,s,e,q⟩
  simp only [mV] at e
  split at e
  ·next T hT =>
   split at e
   ·next h=>cases e;subst h;exact ⟨hT,q⟩
   ·cases e
  ·cases e
 ·rintro ⟨h,q⟩
  refine ⟨_,_,?_,q⟩
  simp only [mV,h,if_true]
theorem HG {δ:aj} {R:Bool->Store->Prop}:Wp (eY δ st) R↔R true st:=bx
end
theorem LA {α:Type} (x:α) (xs:List α):gG (x :: xs) 0=some x:=by
 unfold gG lq
 rw [if_pos (by decide),if_pos (by simp only [U1];omega)]
 rfl
theorem LB {α:Type} (x y:α) (xs:List α):gG (x :: y :: xs) 1=some y:=by
 unfold gG lq
 rw [if_pos (by decide),if_pos (by simp only [U1];omega)]
 rfl
theorem xx {α:Type} {a:α} {l:List α}:(a :: l)[0]?=some a:=List.getElem?_cons_zero
theorem xy {α:Type} {a:α} {l:List α} {i:Nat}:(a :: l)[i + 1]?=l[i]?:=List.getElem?_cons_succ
theorem xA {α:Type} {a b:α} {l:List α}:(a :: l).set 0 b=b :: l:=List.set_cons_zero
theorem xB {α:Type} {a b:α} {l:List α} {i:Nat}:(a :: l).set (i + 1) b=a :: l.set i b:=List.set_cons_succ
theorem xC {α:Type} (a b:α):(some a=some b)=(a=b):=Option.some.injEq a b
theorem BL {α:Type} {p:α->Prop} {a':α}:(∃ a,a'=a/\p a)↔p a':=exists_eq_left'
theorem HI {α:Type} {p:α->Prop} {a':α}:(∃ a,a=a'/\p a)↔p a':=exists_eq_left
theorem BM {α:Type} {p:α->Prop} {b:Prop}:(∃ x,b/\p x)↔b/\∃ x,p x:=exists_and_left
theorem BN (a b:Int):(D.int a=D.int b)=(a=b):=D.int.injEq a b
theorem HJ (a b:Bool):(D.bl a=D.bl b)=(a=b):=D.bl.injEq a b
theorem BO (a b:Str):(D.str a=D.str b)=(a=b):=D.str.injEq a b
theorem BP (a b:List D):(D.tup a=D.tup b)=(a=b):=D.tup.injEq a b
theorem BQ (a b:Nat):(D.ref a=D.ref b)=(a=b):=D.ref.injEq a b
theorem xD {α:Type} (a:α) (l:List α) (b:α) (m:List α):(a :: l=b :: m)=(a=b/\l=m):=List.cons.injEq a l b m
theorem xE {α β:Type} (a:α) (b:β) (c:α) (d:β):((a,b)=(c,d))=(a=c/\b=d):=Prod.mk.injEq a b c d
theorem xF (p:Prop):(p/\True)=p:=and_true p
theorem xG (p:Prop):(True/\p)=p:=true_and p
theorem xH:(!true)=false:=rfl
theorem xI:(!false)=true:=rfl
theorem HK:(false=true)=False:=by simp
theorem BR {α:Type} {h:Decidable False} (t e:α):@ite α False h t e=e:=if_false t e
theorem BS {α:Type} {h:Decidable True} (t e:α):@ite α True h t e=t:=if_true t e
def cm:=And.intro @wW (And.intro @HB (And.intro @By (And.intro @Bz (And.intro @BA (And.intro @wX (And.intro @Qd (And.intro @wY (And.intro @wZ (And.intro @Qe (And.intro @w4 (And.intro @w6 (And.intro @BB (And.intro @uB (And.intro @HC (And.intro @w8 (And.intro @Qf (And.intro @Qg (And.intro @Qh (And.intro @BD (And.intro @BE (And.intro @xa (And.intro @xb (And.intro @BF (And.intro @BG (And.intro @BH (And.intro @BI (And.intro @xc (And.intro @xf (And.intro @Qi (And.intro @xg (And.intro @xh (And.intro @xi (And.intro @xj (And.intro @xk (And.intro @xl (And.intro @xm (And.intro @xn (And.intro @Qj (And.intro @xo (And.intro @xq (And.intro @Qk (And.intro @Ql (And.intro @Qm (And.intro @Qn (And.intro @Qo (And.intro @Qp (And.intro @Qq (And.intro @Qr (And.intro @Qs (And.intro @Qy (And.intro @Qz (And.intro @xt (And.intro @QA (And.intro @QB (And.intro @QC (And.intro @rM (And.intro @QE (And.intro @QF (And.intro @QG (And.intro @QH (And.intro @QI (And.intro @QJ (And.intro @QK (And.intro @Lw (And.intro @QL (And.intro @QM (And.intro @xu (And.intro @QN (And.intro @QO (And.intro @Lx (And.intro @xv (And.intro @xw (And.intro @QP (And.intro @QQ (And.intro @QR (And.intro @QS (And.intro @QT (And.intro @Ek (And.intro @QU (And.intro @QV (And.intro @QW (And.intro @QX (And.intro @QY (And.intro @HG (And.intro @LA (And.intro @LB (And.intro @xx (And.intro @xy (And.intro @xA (And.intro @xB (And.intro @xC (And.intro @BL (And.intro @HI (And.intro @BM (And.intro @BN (And.intro @HJ (And.intro @BO (And.intro @BP (And.intro @BQ (And.intro @xD (And.intro @xE (And.intro @xF (And.intro @xG (And.intro @xH (And.intro @xI (And.intro @HK (And.intro @BR (@BS))))))))))))))))))))))))))))))))))))))))))))))))))))))))))))))))))))))))))))))))))))))))))))))))))))))))))))
theorem dD {α:Type} {m:Option (α×Store)} {Q:α->Store->Prop} (h:∀ Q':α->Store->Prop,(∀ a st,Q a st->Q' a st)->Wp m Q'):Wp m Q:=h Q fun _ _ h=>h
section
variable {X:Cx} {K:Zfr}
end
section
variable {st:Store} {Q:D->Store->Prop}
theorem LC (n:Nat) (L:List Int):bQ (dc st (n + 1)) (L.map D.int)=some (dA L):=sL (f:=dc st (n + 1)) (g:=D.int) (k:=PyData.int) (fun _=>by simp only [dc]) L
theorem HL (a b:List PyData):PyData.eqv (.list a) (.list b)=PyData.eqvAll a b:=by simp only [PyData.eqv]
theorem El (a b:List PyData):PyData.eqv (.tuple a) (.tuple b)=PyData.eqvAll a b:=by simp only [PyData.eqv]
theorem LD {neg:Bool} {a b:Nat} {L M:List Int} (ha:items st a=some (L.map D.int)) (hb:items st b=some (M.map D.int)):Wp (eN neg (.ref a) (.ref b) st) Q↔Q (.bl (if neg then !decide (L=M) else decide (L=M))) st:=by
 have p1:∀ (i:Nat) (N:List Int),items st i=some (N.map D.int)->dc st 20 (.ref i)=some (.list (dA N)):=fun i N h=>by
  simp only [dc,h]
  rw [LC];rfl
 have dp:∀ N:List Int,PyData.depth (.list (dA N))<=1:=fun N=>by show PyData.depthAll (dA N) + 1<=1;rw [yF];omega
 rw [HF]
 constructor
 ·rintro ⟨p,q,h1,h2,_,h⟩
  rw [p1 a L ha] at h1
  rw [p1 b M hb] at h2
  cases h1
  cases h2
  rw [HL,Ar] at h
  exact h
 ·intro h
  refine ⟨_,_,p1 a L ha,p1 b M hb,⟨vJ L,vJ M,by have:=dp L;omega⟩,?_⟩
  rw [HL,Ar]
  exact h
def BU (rs:List (List Int)):D:=.tup (rs.map fun r=>.tup (r.map D.int))
theorem HM (rs:List (List Int)):dc st 20 (BU rs)=some (.tuple (rs.map fU)):=by
 unfold BU
 simp only [dc]
 rw [sL (f:=dc st 19) (g:=fun r:List Int=>D.tup (r.map D.int)) (k:=fU) (fun r=>by simp only [dc];rw [LC];rfl) rs]
 rfl
theorem HN:∀ (rs ss:List (List Int)),PyData.eqvAll (rs.map fU) (ss.map fU)=decide (rs=ss)
 | [],[]=>rfl
 | [],_ :: _=>rfl
 | _ :: _,[]=>rfl
 | r :: rs,s :: ss=>by
  show (PyData.eqv (fU r) (fU s) && PyData.eqvAll (rs.map fU) (ss.map fU))=decide (r :: rs=s :: ss)
  rw [HN rs ss]
  unfold fU
  rw [El,Ar]
  by_cases h:r=s
  ·subst h;simp
  ·simp [h]
theorem QZ {neg:Bool} {rs ss:List (List Int)}:Wp (eN neg (BU rs) (BU ss) st) Q↔Q (.bl (if neg then !decide (rs=ss) else decide (rs=ss))) st:=by
 have dp:∀ rs:List (List Int),PyData.depth (.tuple (rs.map fU))<=2:=fun N=>by show PyData.depthAll (N.map fU) + 1<=2;have:=J4 N;omega
 rw [HF]
 constructor
 ·rintro ⟨p,q,h1,h2,_,h⟩
  rw [HM] at h1 h2
  cases h1
  cases h2
  rw [El,HN] at h
  exact h
 ·intro h
  refine ⟨_,_,HM rs,HM ss,⟨GJ rs,GJ ss,by have:=dp rs;omega⟩,?_⟩
  rw [El,HN]
  exact h
end
def bz (st:Store) (f:Nat):Prop:=∃ o m:Int,st[f]?=some (.lst [.int o,.int m])/\0<=o/\0<=m/\m < 4294967296
theorem BV:lq 2 0=some 0:=by decide
theorem BW:lq 2 1=some 1:=by decide
theorem pT (n:Nat):aE 0 n=(af.upto n).map D.int:=by
 unfold aE af.upto
 rw [UW]
 apply Vd
 intro i _
 simp
theorem Q0 (L:List Int) (j:Nat):(L.map D.int).eraseIdx j=(L.eraseIdx j).map D.int:=by
 induction L generalizing j with
 | nil=>rfl
 | cons a r ih =>
  cases j with
  | zero=>rfl
  | succ j=>show D.int a :: (r.map D.int).eraseIdx j=_;rw [ih];rfl
theorem Q5 {L:List Int} {j:Nat} (h:j < L.length):(L[j] :: L.eraseIdx j).Perm L:=by
 induction L generalizing j with
 | nil=>exact absurd h (U9 _)
 | cons a r ih =>
  cases j with
  | zero=>exact Wc _
  | succ j =>
   have:=ih (j:=j) (by simpa using h)
   exact (List.Perm.swap _ _ _).trans (this.cons a)
theorem bz.keep {st st':Store} {f:Nat} (h:bz st f) (e:Ex [] st st'):bz st' f:=by
 obtain ⟨o,m,e1,r⟩:=h
 exact ⟨o,m,e.keep _ _ e1 (by simp),r⟩
theorem bz.ne {st:Store} {f i:Nat} {o:O} (h:bz st f) (hi:i≠f):bz (st.set i o) f:=by
 obtain ⟨x,m,e1,r⟩:=h
 exact ⟨x,m,by rw [UX hi];exact e1,r⟩
theorem bz.lt {st:Store} {f:Nat} (h:bz st f):f < st.length:=let ⟨_,_,e,_⟩:=h;gZ e
theorem p9 {xs:List Int} {i:Int} (h0:0<=i) (h1:i < (xs.length:Int)):gG (xs.map D.int) i=some (.int (af.app xs i)):=by
 have e:(xs.map D.int)[i.toNat]?=some (.int (af.app xs i)):=by rw [UB,af.nU h0 h1];rfl
 have:=Ad e
 rwa [U0 h0] at this
theorem Em {xs:List Int} {i:Nat} {d:D} (h:(xs.map D.int)[i]?=some d):∃ x,xs[i]?=some x/\d=.int x:=by
 rw [UB] at h
 obtain ⟨x,h1,h2⟩:=U3.mp h
 exact ⟨x,h1,h2.symm⟩
theorem HP (x:Int):∀ (ns:List Int),tU (.int x) (ns.map V.int)=ns.contains x
 | []=>rfl
 | n :: r=>by
  have e:=HP x r
  unfold tU at e ⊢
  rw [UT,Vu,e,List.contains_cons]
  congr 1
  show (n == x)=(x == n)
  exact Bool.beq_comm
theorem HQ {st:Store} {Q:D->Store->Prop} {neg:Bool} {x:Int} {c:D} {ns:List Int} (hc:df st c=some (ns.map D.int)):Wp (qN neg (.int x) c st) Q↔Q (.bl (if neg then !ns.contains x else ns.contains x)) st:=by
 rw [BK]
 constructor
 ·rintro ⟨v,ds,vs,h1,h2,h3,h⟩
  cases h1
  rw [hc] at h2
  cases h2
  rw [Ly] at h3
  cases h3
  rw [HP] at h
  exact h
 ·intro h
  refine ⟨_,_,_,rfl,hc,Ly ns,?_⟩
  rw [HP]
  exact h
def b9 (xs ys:List Int):D:=.tup [.tup (xs.map D.int),.tup (ys.map D.int)]
structure m9 (kr st:Store) (f r u:Nat) (n:Nat) (X Y:List Int):Prop where
 hr:st[r]?=some (.lst (X.map D.int))
 hu:st[u]?=some (.lst (Y.map D.int))
 ne:r≠u
 r0:kr.length<=r
 u0:kr.length<=u
 tX:af.Tn n X
 tY:af.Tn n Y
 fd:bz st f
 ex:Ex [f] kr st
section
variable {kr st st':Store} {f r u n:Nat} {X Y Z:List Int} {o:O}
theorem m9.keep (h:m9 kr st f r u n X Y) (e:Ex [] st st'):m9 kr st' f r u n X Y:=⟨e.keep _ _ h.hr (by simp),e.keep _ _ h.hu (by simp),h.ne,h.r0,h.u0,h.tX,h.tY,h.fd.keep e,h.ex.trans e.any⟩
theorem m9.xJ (h:m9 kr st f r u n X Y) (t:af.Tn n Z):m9 kr (st ++ [.lst (Z.map D.int)]) f st.length u n Z Y:=⟨jQ,lP h.hu,by have:=gZ h.hu;omega,h.ex.len,h.u0,t,h.tY,h.fd.keep (Ex.cU _),h.ex.app _⟩
theorem m9.xK (h:m9 kr st f r u n X Y) (t:af.Tn n Z):m9 kr (st ++ [.lst (Z.map D.int)]) f r st.length n X Z:=⟨lP h.hr,jQ,by have:=gZ h.hr;omega,h.r0,h.ex.len,h.tX,t,h.fd.keep (Ex.cU _),h.ex.app _⟩
theorem m9.put (h:m9 kr st f r u n X Y) (t:af.Tn n Z) (hf:f < kr.length):m9 kr (st.set r (.lst (Z.map D.int))) f r u n Z Y:=⟨UL (gZ h.hr),by rw [UX h.ne];exact h.hu,h.ne,h.r0,h.u0,t,h.tY,h.fd.ne (by have:=h.r0;omega),h.ex.loc h.r0⟩
end
theorem LF (n:Nat):(af.o6 n).map D.int=aE 1 ((n:Int) - 1).toNat ++ [.int 0]:=by
 unfold af.o6 aE
 rw [US,UW,show ((n:Int) - 1).toNat=n - 1 by omega]
 rfl
theorem uE {lo hi:Int} (h:0<=lo/\lo<=10000/\0<=hi/\hi<=10000):pP lo hi=true:=by
 unfold pP;rw [UO,decide_eq_true_eq];exact ⟨by omega,kJ (by omega)⟩
theorem xM (w n:Nat):(af.qG w n).map D.int=aE 1 ((w:Int) - 1).toNat ++ [.int 0] ++ aE (w:Int) ((n:Int) - (w:Int)).toNat:=by
 unfold af.qG aE
 rw [US,US,UW,UW,show ((w:Int) - 1).toNat=w - 1 by omega,show ((n:Int) - (w:Int)).toNat=n - w by omega]
 rfl
theorem LG (xs:List D) (j:Nat):cutD xs none (some (j:Int))=xs.take j:=by
 unfold cutD
 rw [HT.Nn,HT.F6,Wx,Nat.sub_zero,List.take_eq_take_iff];omega
theorem xN {w n:Nat} (h0:0 < w) (h:w < n):(af.sx w n).map D.int=cutD ([D.int (w:Int)] ++ aE 1 ((w:Int) - 1).toNat ++ aE ((w:Int) + 1) ((n:Int) - ((w:Int) + 1)).toNat ++ [.int 0]) none (some (n:Int)):=by
 rw [LG,List.take_of_length_le (by simp [iM];omega)]
 unfold af.sx aE
 rw [US,US,US,UW,UW,show ((w:Int) - 1).toNat=w - 1 by omega,show ((n:Int) - ((w:Int) + 1)).toNat=n - (w + 1) by omega]
 rfl
def ml (n:Nat) (xs ys:List Int):Prop:=af.Tn n xs/\af.Tn n ys/\∀ x:Int,0<=x->x < (n:Int)->af.iS xs ys x
theorem LH {xs:List Int} {v:Int} (h:v∈xs):xs.findIdx? (fun i=>decide (i=v))=some (xs.idxOf v):=by
 induction xs with
 | nil=>exact nomatch h
 | cons a r ih =>
  rw [List.findIdx?_cons]
  by_cases e:a=v
  ·subst e;simp
  ·have hm:v∈r:=by
    rcases UU.mp h with h | h
    ·exact absurd h.symm e
    ·exact h
   rw [decide_eq_false e,ih hm,List.idxOf_cons,show (a == v)=false by simpa using e]
   rfl
def qW (S:Src) (ds:List D) (st:Store):Prop:=∀ (i:Nat) (st2:Store),i<=ds.length->Ex [] st st2->S.at i st2=some ds[i]?
theorem qX (ds:List D) (st:Store):qW (.fix ds) ds st:=fun i st2 hi _=>by
 show (if i<=ds.length then some ds[i]? else none)=_
 rw [if_pos hi]
theorem sR {δ:aj} {st:Store} {fi:aj->Dm Src} {js:List Nat} {f:aj->Dm D} {Q:D->Store->Prop} (ds:List D) (h:D->D) (hi:Wp (fi δ st) fun S st1=>qW S ds st1/\Ex [] st st1) (hl:ds.length < 100000)
  (step:∀ d∈ds,∀ st1,Ex [] st st1->Wp (f (some d :: js.map fun j=>δ.getD j none) st1) fun y st2=>y=h d/\Ex [] st1 st2) (fin:∀ st',Ex [] st st'->Q (.ref st'.length) (st' ++ [.lst (ds.map h)])):Wp (c6 fi 1 js (hName 0) eY f δ st) Q:=by
 obtain ⟨S,st1,e1,hS,k1⟩:=hi
 refine Ej ds (fun i ys δ' iQ=>(∃ v,δ'=v :: js.map fun j=>δ.getD j none)/\ys=(ds.take i).map h/\Ex [] st1 iQ) ⟨S,st1,e1,fun i ys δ' iQ hi' hp=>hS i iQ hi' hp.2.2,⟨none,rfl⟩,rfl,Ex.refl⟩ hl ?_ ?_ ?_
 ·rintro i ys δ' iQ ⟨_,rfl,_⟩
  rw [Uu,Vs];omega
 ·rintro i d ys δ' iQ hd ⟨⟨v,rfl⟩,rfl,k8⟩
  rw [Ek]
  show Wp (eY _ _) _
  rw [HG]
  refine ⟨fun _=>?_,fun h=>absurd h (by decide)⟩
  refine aV (step d (UJ hd) iQ (k1.trans k8)) ?_
  rintro y nK ⟨rfl,k9⟩
  refine ⟨⟨some d,rfl⟩,?_,k8.trans k9⟩
  obtain ⟨hlt,e⟩:=Uw.mp hd
  rw [U2 hlt,US,e];rfl
 ·rintro ys δ' iQ ⟨_,rfl,k8⟩
  rw [VR]
  exact fin iQ (k1.trans k8)
theorem y2 {xs:List Int} {d:D} (h:d∈xs.map D.int):∃ x∈xs,d=.int x:=by
 obtain ⟨x,hx,rfl⟩:=UH.mp h
 exact ⟨x,hx,rfl⟩
theorem BX {xs:List Int} {f:Int->Int} {h:D->D} (e:∀ x∈xs,h (.int x)=.int (f x)):(xs.map D.int).map h=(xs.map f).map D.int:=by
 rw [UW,UW]
 exact Vd fun x hx=>e x hx
def inD:D->Int
 | .int i=>i
 | _=>0
section
variable {st:Store} {Q:D->Store->Prop}
theorem HR {neg:Bool} {xs ys zs ws:List Int}:Wp (eN neg (b9 xs ys) (b9 zs ws) st) Q↔Q (.bl (if neg then !decide ([xs,ys]=[zs,ws]) else decide ([xs,ys]=[zs,ws]))) st:=QZ (rs:=[xs,ys]) (ss:=[zs,ws])
end
theorem _root_.af.nc {n:Nat} {xs ys p:List Int} (fl:ml n xs ys) (tp:af.Tn n p) (n0:0 < n):ml n (af.anew xs p) (af.anew ys p):=by
 obtain ⟨tx,ty,all⟩:=fl
 have tX:=tx.anew tp
 have tY:=ty.anew tp
 refine ⟨tX,tY,fun x x0 x1=>?_⟩
 obtain ⟨a0,a1⟩:=tp.app (i:=0) (by decide) (by omega)
 have hb:∀ y:Int,0<=y->y < (n:Int)->y∈af.bf (af.anew xs p) (af.anew ys p) (af.app p 0) n:=fun y y0 y1=>by
  rw [af.AW tx ty tp (by decide) (by omega) n]
  obtain ⟨b0,b1⟩:=tp.kZ y0 y1
  exact UH.mpr ⟨af.app (af.inv p) y,af.KR tx ty (by decide) (by omega) all b0 b1,tp.cX y0 y1⟩
 have hF:=af.G9 tX tY (s:=0) (by decide) (by omega)
 have nd:=af.vX (af.anew xs p) (af.anew ys p) 0 n
 have bd:=af.pM tX tY (s:=0) (by decide) (by omega) n
 have Q6:∀ k,∀ y∈af.bf (af.anew xs p) (af.anew ys p) 0 k,af.iS (af.anew xs p) (af.anew ys p) y:=by
  intro k
  induction k with
  | zero=>intro y hy;rw [UP.mp (show y∈[(0:Int)] from hy)];exact .zero
  | succ k ih =>
   intro y hy
   have hy':y∈(match (af.bf (af.anew xs p) (af.anew ys p) 0 k)[k]? with | some x=>af.visit (af.anew xs p) (af.anew ys p) (af.bf (af.anew xs p) (af.anew ys p) 0 k) x | none=>af.bf (af.anew xs p) (af.anew ys p) 0 k):=hy
   split at hy'
   ·next z hz =>
    have uk:=ih z (UJ hz)
    rcases af.o8.mp hy' with hy' | rfl
    ·rcases af.o8.mp hy' with hy' | rfl
     ·exact ih y hy'
     ·exact uk.r
    ·exact uk.u
   ·exact ih y hy'
 refine Q6 n x ?_
 have z0:(0:Int)∈af.bf (af.anew xs p) (af.anew ys p) 0 n:=by
  have:=af.vW (af.anew xs p) (af.anew ys p) 0 0 n
  rw [Wd] at this
  exact this.subset (show (0:Int)∈[(0:Int)] by simp)
 have back:∀ k,(∃ y∈af.bf (af.anew xs p) (af.anew ys p) (af.app p 0) k,y∈af.bf (af.anew xs p) (af.anew ys p) 0 n)->af.app p 0∈af.bf (af.anew xs p) (af.anew ys p) 0 n:=by
  intro k
  induction k with
  | zero =>
   rintro ⟨y,hy,sj⟩
   rw [UP.mp (show y∈[af.app p 0] from hy)] at sj
   exact sj
  | succ k ih =>
   rintro ⟨y,hy,sj⟩
   have hy':y∈(match (af.bf (af.anew xs p) (af.anew ys p) (af.app p 0) k)[k]? with | some x=>af.visit (af.anew xs p) (af.anew ys p) (af.bf (af.anew xs p) (af.anew ys p) (af.app p 0) k) x | none=>af.bf (af.anew xs p) (af.anew ys p) (af.app p 0) k):=hy
   split at hy'
   ·next z hz =>
    have yM:=UJ hz
    obtain ⟨c0,c1⟩:=af.pM tX tY a0 a1 k z yM
    rcases af.o8.mp hy' with hy' | rfl
    ·rcases af.o8.mp hy' with hy' | rfl
     ·exact ih ⟨y,hy',sj⟩
     ·exact ih ⟨z,yM,af.AV tX nd bd (fun x hx=>(hF x hx).1) c0 c1 sj⟩
    ·exact ih ⟨z,yM,af.AV tY nd bd (fun x hx=>(hF x hx).2) c0 c1 sj⟩
   ·exact ih ⟨y,hy',sj⟩
 have hp0:=back n ⟨0,hb 0 (by decide) (by omega),z0⟩
 have fwd:∀ k,∀ y∈af.bf (af.anew xs p) (af.anew ys p) (af.app p 0) k,y∈af.bf (af.anew xs p) (af.anew ys p) 0 n:=by
  intro k
  induction k with
  | zero=>intro y hy;rw [UP.mp (show y∈[af.app p 0] from hy)];exact hp0
  | succ k ih =>
   intro y hy
   have hy':y∈(match (af.bf (af.anew xs p) (af.anew ys p) (af.app p 0) k)[k]? with | some x=>af.visit (af.anew xs p) (af.anew ys p) (af.bf (af.anew xs p) (af.anew ys p) (af.app p 0) k) x | none=>af.bf (af.anew xs p) (af.anew ys p) (af.app p 0) k):=hy
   split at hy'
   ·next z hz =>
    have uk:=ih z (UJ hz)
    rcases af.o8.mp hy' with hy' | rfl
    ·rcases af.o8.mp hy' with hy' | rfl
     ·exact ih y hy'
     ·exact (hF z uk).1
    ·exact (hF z uk).2
   ·exact ih y hy'
 exact fwd n x (hb x x0 x1)
theorem xO (p:Key×D) (r:List (Key×D)) (k:Key):dS (p :: r) k=if p.1=k then some p.2 else dS r k:=by
 unfold dS
 rw [Vx]
 by_cases e:p.1=k
 ·rw [decide_eq_true e,if_pos e];rfl
 ·rw [decide_eq_false e,if_neg e]
theorem Q7 (kvs:List (Key×D)) (k j:Key) (y:D):dS (putD kvs k y) j=if j=k then some y else dS kvs j:=by
 unfold putD
 by_cases a:(kvs.any fun kv=>decide (kv.1=k))=true
 ·rw [if_pos a]
  induction kvs with
  | nil=>simp at a
  | cons p r ih =>
   rw [UT,xO,xO]
   by_cases e:p.1=k
   ·rw [if_pos e]
    by_cases ej:j=k
    ·rw [if_pos ej,if_pos (show (p.1,y).1=j from e.trans ej.symm)]
    ·rw [if_neg ej,if_neg (show ¬ (p.1,y).1=j from fun z=>ej (z.symm.trans e)),if_neg (fun z=>ej (z.symm.trans e))]
     have:∀ l:List (Key×D),dS (l.map fun kv=>if kv.1=k then (kv.1,y) else kv) j=dS l j:=by
      intro l
      induction l with
      | nil=>rfl
      | cons q l ihl =>
       rw [UT,xO,xO,ihl]
       by_cases eq:q.1=k
       ·rw [if_pos eq,if_neg (show ¬ (q.1,y).1=j from fun z=>ej (z.symm.trans eq)),if_neg (fun z=>ej (z.symm.trans eq))]
       ·rw [if_neg eq]
     exact this r
   ·rw [if_neg e]
    have a':(r.any fun kv=>decide (kv.1=k))=true:=by
     rw [Vu,decide_eq_false e,Bool.false_or] at a
     exact a
    rw [ih a']
    by_cases ej:j=k
    ·rw [if_pos ej,if_neg (fun z=>e (z.trans ej)),if_pos ej]
    ·rw [if_neg ej,if_neg ej]
 ·rw [if_neg a]
  induction kvs with
  | nil =>
   show dS [(k,y)] j=_
   rw [xO]
   by_cases ej:j=k
   ·rw [if_pos ej.symm,if_pos ej]
   ·rw [if_neg (fun z=>ej z.symm),if_neg ej]
  | cons p r ih =>
   have a':¬ (r.any fun kv=>decide (kv.1=k))=true:=fun z=>a (by rw [Vu,z,Bool.or_true])
   have ep:p.1≠k:=fun z=>a (by rw [Vu,decide_eq_true z,Bool.true_or])
   rw [List.cons_append,xO,ih a',xO]
   by_cases ej:j=k
   ·rw [if_pos ej,if_pos ej,if_neg (fun z=>ep (z.trans ej))]
   ·rw [if_neg ej,if_neg ej]
theorem Q8 (kvs:List (Key×D)) (k:Key) (v:D):(putD kvs k v).length<=kvs.length + 1:=by
 unfold putD
 split
 ·rw [Uu];omega
 ·rw [UG,U1,List.length_nil];omega
theorem LI {st:Store} {i:Nat} {kvs:List (Key×D)} (h:st[i]?=some (.dct kvs)):i5 st (.ref i)=some kvs:=by simp only [i5,h]
theorem LJ (i:Int):keyOf (.int i)=some (.inl i):=rfl
theorem Q9 {r:List Int} {j:Nat} (h:j < r.length) (x:Int):(r.take (j + 1)).contains x=((r.take j).contains x || x == r[j]):=by
 rw [U2 h,List.contains_append]
 congr 1
 show ([r[j]]:List Int).contains x=(x == r[j])
 rw [List.contains_cons,List.contains_nil,Bool.or_false]
abbrev g5:=Bool×Int
def cV (s:g5):D:=.tup [.str (if s.1 then "s" else "t"),.int s.2]
section
variable {X:Cx} {K:Zfr}
end
section
variable {K:Zfr}
def qY (neg:Bool):D->D->Dm D
 | .bl a,.bl b,st=>some (.bl (if neg then !decide (a=b) else decide (a=b)),st)
 | _,_,_=>none
def BZ (neg:Bool):R2:=fun x y H Q=>∃ a b,x=.bl a/\y=.bl b/\Q (.bl (if neg then !decide (a=b) else decide (a=b))) H
theorem LK (neg:Bool):lz K (BZ neg) (qY neg):=by
 intro ρ H st x y a c b st' Q l rx ry e q
 unfold qY at e
 split at e
 ·cases e
  cases rx
  cases ry
  exact ⟨_,_,rfl,rfl,q _ H ρ .refl l (.bl _)⟩
 ·cases e
end
section
variable {X:Cx}
theorem LL:ke X (compareOp .IsNot) (BZ true):=by
 intro pins s σ H x y v u Q I rx ry h
 obtain ⟨a,b,rfl,rfl,q⟩:=h
 cases rx
 cases ry
 exact PyProof.Rows.isnot_bool (jR I q (by cases a <;> cases b <;> rfl))
end
section
variable {st:Store} {Q:D->Store->Prop}
theorem LM {neg a b:Bool}:Wp (qY neg (.bl a) (.bl b) st) Q↔Q (.bl (if neg then !decide (a=b) else decide (a=b))) st:=bx
end
theorem Ra {δ:aj} {st:Store} {fi:aj->Dm Src} {js:List Nat} {f:aj->Dm D} {Q:D->Store->Prop} (ds:List D) (P:Nat->D->Prop) (I:Store->Prop)
  (hi:Wp (fi δ st) fun S st1=>(∀ i st2,i<=ds.length->I st2->S.at i st2=some ds[i]?)/\I st1) (hl:ds.length < 100000)
  (step:∀ i d,ds[i]?=some d->∀ st1,I st1->Wp (f (some d :: js.map fun j=>δ.getD j none) st1) fun y st2=>P i y/\I st2)
  (fin:∀ ys st',I st'->ys.length=ds.length->(∀ i y,ys[i]?=some y->P i y)->Q (.ref st'.length) (st' ++ [.lst ys])):Wp (c6 fi 1 js (hName 0) eY f δ st) Q:=by
 obtain ⟨S,st1,e1,hS,k1⟩:=hi
 refine Ej ds (fun i ys δ' iQ=>(∃ v,δ'=v :: js.map fun j=>δ.getD j none)/\ys.length=i/\(∀ i y,ys[i]?=some y->P i y)/\I iQ) ⟨S,st1,e1,fun i ys δ' iQ hi' hp=>hS i iQ hi' hp.2.2.2,⟨none,rfl⟩,rfl,(fun i y h=>by simp at h),k1⟩ hl ?_ ?_ ?_
 ·rintro i ys δ' iQ ⟨_,h,_⟩
  omega
 ·rintro i d ys δ' iQ hd ⟨⟨v,rfl⟩,hlen,hP,k8⟩
  rw [Ek]
  show Wp (eY _ _) _
  rw [HG]
  refine ⟨fun _=>?_,fun h=>absurd h (by decide)⟩
  refine aV (step i d hd iQ k8) ?_
  rintro y nK ⟨hp,k9⟩
  refine ⟨⟨some d,rfl⟩,by rw [UG,hlen];rfl,fun j z hz=>?_,k9⟩
  by_cases hj:j < ys.length
  ·rw [UM hj] at hz;exact hP j z hz
  ·have hb:=gZ hz
   rw [UG,VD] at hb
   have e:j=ys.length:=by omega
   subst e
   rw [UR (Ux _),VS] at hz
   cases hz
   rw [hlen];exact hp
 ·rintro ys δ' iQ ⟨_,hlen,hP,k8⟩
  exact fin ys iQ k8 hlen hP
def ph (x:Str):List D:=x.cps.toList.map fun c=>.str ⟨#[c]⟩
section
variable {K:Zfr}
end
section
variable {st:Store} {Q:D->Store->Prop}
end
section
variable {K:Zfr}
end
section
variable {st:Store}
end
section
variable {X:Cx} {K:Zfr}
end
structure rC (K:Zfr) (mg:Str->Option Value) (x:Str) (v:V) (d:D):Prop where
 ex:∃ u,mg x=some u/\RelV v u
 rp:∀ (ρ:List Addr) (H:Hp),Rp K ρ H v d
theorem LN {X:Cx} {K:Zfr} {mg:Str->Option Value} {x:Str} {v:V} {d:D} {pos:Pos} (C:rC K mg x v d) (hg:Gl X x) (hX:X.mg=mg) (hd:(x == ("__debug__" : Str))=false):PE X (.Name x pos) (tC v):=by
 obtain ⟨u,h,r⟩:=C.ex
 subst hX
 exact M9 hg h r hd
theorem LO {K:Zfr} {mg:Str->Option Value} {x:Str} {v:V} {d:D} (C:rC K mg x v d):gp K (tC v) (fC d):=sH C.rp
theorem LP {K:Zfr} {h:Heap} {mg:Str->Option Value} (X:K.In h) (G:h.Ns mainGlobals mg) {x:Str} {a:Addr} {od:Option Addr} {its:Array Value} {n:Nat} {sl:Array (Option Value)} {vs:List V} {ds:List D} (e:PySem.W.nsIn K mainGlobals x=some (some (.ref a))) (l:K.lookup a=some ⟨.type "tuple",od,.seq its n,sl⟩)
  (ho:od=none) (hz:its.size<=sizeLine) (hv:Vals vs its.toList) (hd:∀ (ρ:List Addr) (H:Hp),cy K ρ H vs ds):∃ v,rC K mg x v (.tup ds) :=
 ⟨.ref a,⟨_,PySem.W.mg_of X G e,rfl⟩,fun ρ H=>.tup (.inr ⟨_,its,n,l,rfl,ho,rfl,hz,hv⟩) (hd ρ H)⟩
def pU:Nat->D->Prop
 | _,.int _=>True
 | _,.str x=>PyData.canLay0 (.str x)=true
 | _,.non=>True
 | n + 1,.tup ds=>∀ d∈ds,pU n d
 | _,_=>False
def iR:Nat->D->PyData
 | _,.int i=>.int i
 | _,.str x=>.str x
 | n + 1,.tup ds=>.tuple (ds.map (iR n))
 | _,_=>.none
theorem B0 {α β:Type} {f:α->Option β} {g:α->β}:∀ {l:List α},(∀ x∈l,f x=some (g x))->bQ f l=some (l.map g)
 | [],_=>rfl
 | a :: r,h=>by
  have h1:=h a Uy
  have h2:=B0 (f:=f) (g:=g) (l:=r) fun x hx=>h x (Uz _ hx)
  simp only [bQ,h1,h2,UT]
theorem y3:∀ (n:Nat) (d:D),pU n d->∀ (m:Nat),n < m->∀ st,dc st m d=some (iR n d)
 | n,.int i,_,m + 1,_,st=>by cases n <;> rfl
 | n,.str x,_,m + 1,_,st=>by cases n <;> rfl
 | n,.non,_,m + 1,_,st=>by cases n <;> rfl
 | n,.bl b,h,_,_,_=>by cases n <;> exact h.elim
 | n,.ty b,h,_,_,_=>by cases n <;> exact h.elim
 | n,.ref b,h,_,_,_=>by cases n <;> exact h.elim
 | 0,.tup ds,h,_,_,_=>h.elim
 | n + 1,.tup ds,h,m + 1,hm,st=>by
  simp only [dc]
  rw [B0 (g:=iR n) fun x hx=>y3 n x (h x hx) m (by omega) st]
  rfl
theorem HS:∀ {l:List PyData},(∀ x∈l,x.canLay0=true)->PyData.canLayAll0 l=true
 | [],_=>rfl
 | a :: r,h=>by
  simp only [PyData.canLayAll0,h a Uy,HS fun x hx=>h x (Uz _ hx),Bool.and_self]
theorem HU {n:Nat}:∀ {l:List PyData},(∀ x∈l,x.depth<=n)->PyData.depthAll l<=n
 | [],_=>U8 _
 | a :: r,h=>by
  have h1:=h a Uy
  have h2:=HU fun x hx=>h x (Uz _ hx)
  simp only [PyData.depthAll]
  omega
theorem uF:∀ (n:Nat) (d:D),pU n d->(iR n d).canLay0=true/\(iR n d).depth<=n
 | n,.int i,_=>by cases n <;> exact ⟨rfl,U8 _⟩
 | n,.str x,h=>by cases n <;> exact ⟨h,U8 _⟩
 | n,.non,_=>by cases n <;> exact ⟨rfl,U8 _⟩
 | n,.bl b,h=>by cases n <;> exact h.elim
 | n,.ty b,h=>by cases n <;> exact h.elim
 | n,.ref b,h=>by cases n <;> exact h.elim
 | 0,.tup ds,h=>h.elim
 | n + 1,.tup ds,h=>by
  refine ⟨?_,?_⟩
  ·show PyData.canLayAll0 (ds.map (iR n))=true
   exact HS fun x hx=>by
    obtain ⟨d,hd,rfl⟩:=UH.mp hx
    exact (uF n d (h d hd)).1
  ·show PyData.depthAll (ds.map (iR n)) + 1<=n + 1
   have:=HU (n:=n) (l:=ds.map (iR n)) fun x hx=>by
    obtain ⟨d,hd,rfl⟩:=UH.mp hx
    exact (uF n d (h d hd)).2
   omega
theorem HV {n:Nat} (ih:∀ a b:D,pU n a->pU n b->(PyData.eqv (iR n a) (iR n b)=true↔a=b)):∀ (l m:List D),(∀ x∈l,pU n x)->(∀ x∈m,pU n x)->(PyData.eqvAll (l.map (iR n)) (m.map (iR n))=true↔l=m)
 | [],[],_,_=>by simp [PyData.eqvAll]
 | [],_ :: _,_,_=>by simp [PyData.eqvAll]
 | _ :: _,[],_,_=>by simp [PyData.eqvAll]
 | a :: l,b :: m,h1,h2=>by
  have e1:=ih a b (h1 a Uy) (h2 b Uy)
  have e2:=HV ih l m (fun x hx=>h1 x (Uz _ hx)) fun x hx=>h2 x (Uz _ hx)
  simp only [UT,PyData.eqvAll,UO,e1,e2,List.cons.injEq]
theorem B1:∀ (n:Nat) (a b:D),pU n a->pU n b->(PyData.eqv (iR n a) (iR n b)=true↔a=b):=by
 intro n
 induction n with
 | zero =>
  intro a b ha hb
  cases a <;> first | exact ha.elim | skip
  all_goals (cases b <;> first | exact hb.elim | simp [iR,PyData.eqv])
 | succ n ih =>
  intro a b ha hb
  cases a <;> first | exact ha.elim | skip
  all_goals (cases b <;> first | exact hb.elim | skip)
  all_goals first
   | (simp [iR,PyData.eqv];done)
   | skip
  next l m =>
   have:=HV ih l m ha hb
   show PyData.eqv (.tuple (l.map (iR n))) (.tuple (m.map (iR n)))=true↔_
   rw [El,this]
   constructor
   ·rintro rfl;rfl
   ·intro h;exact D.tup.inj h
theorem HW (n:Nat) (L:List Int):pU (n + 1) (.tup (L.map D.int)):=fun d hd=>by
 obtain ⟨x,_,rfl⟩:=UH.mp hd
 cases n <;> trivial
theorem uG (n:Nat) (xs ys:List Int):pU (n + 2) (b9 xs ys):=fun d hd=>by
 have hd:d=.tup (xs.map D.int)\/d=.tup (ys.map D.int):=by simpa [b9] using hd
 rcases hd with rfl | rfl
 ·exact HW n xs
 ·exact HW n ys
def oH (neg:Bool):D->D->Dm D:=fun a c st=>match dc st 20 a,(df st c).bind (bQ (dc st 19)) with
 | some dx,some ds=>if dx.canLay0 && ds.all PyData.canLay0 && decide (dx.depth<=60) then some (.bl (if neg then !ds.any (fun d=>PyData.eqv d dx) else ds.any fun d=>PyData.eqv d dx),st) else none
 | _,_=>none
section
variable {K:Zfr}
theorem B2 {ρ:List Addr} {H:Hp} {st:Store} (l:Rl K ρ H st) (n:Nat):∀ {vs:List V} {ds:List D} {ps:List PyData},cy K ρ H vs ds->bQ (dc st n) ds=some ps->eK K H vs ps
 | _,_,_,.nil,h=>by cases h;exact .nil
 | _,_,_,.cons a b,h=>by
  obtain ⟨x,t,h1,h2,rfl⟩:=sJ h
  exact .cons (yR l n a h1) (B2 l n b h2)
theorem LQ (neg:Bool):lz K (vO K neg) (oH neg):=by
 intro ρ H st x y a c b st' Q l rx ry e q
 unfold oH at e
 split at e
 ·next dx ds h1 h2 =>
  split at e
  ·next ok =>
   cases e
   rw [UO,UO,decide_eq_true_eq,VB] at ok
   obtain ⟨es,h3,h4⟩:=VI.mp h2
   obtain ⟨p,xs,rfl,hq,rr⟩:∃ p xs,y=.ref p/\(iN K H p xs\/eJ K H p xs)/\cy K ρ H xs es:=by
    cases ry with
    | non=>cases h3
    | bl _=>cases h3
    | int _=>cases h3
    | str _=>cases h3
    | ty _=>cases h3
    | ref hi=>obtain ⟨vs,s,r⟩:=l.items hi h3;exact ⟨_,vs,rfl,.inl s,r⟩
    | tup s r=>cases h3;exact ⟨_,_,rfl,.inr s,r⟩
   exact ⟨p,xs,ds,dx,rfl,hq,B2 l 19 rr h4,yR l 20 rx h1,ok.1.2,ok.1.1,ok.2,q _ H ρ .refl l (.bl _)⟩
  ·cases e
 ·cases e
end
open Classical in
theorem LR {st:Store} {Q:D->Store->Prop} {neg:Bool} {n:Nat} {a c:D} {es:List D} (ha:pU n a) (hc:df st c=some es) (he:∀ e∈es,pU n e) (hn:n<=15):Wp (oH neg a c st) Q↔Q (.bl (if neg then !decide (a∈es) else decide (a∈es))) st:=by
 have h1:=y3 n a ha 20 (by omega) st
 have h2:bQ (dc st 19) es=some (es.map (iR n)):=B0 fun x hx=>y3 n x (he x hx) 19 (by omega) st
 have ea:(es.map (iR n)).any (fun d=>PyData.eqv d (iR n a))=decide (a∈es):=by
  rw [V6,WM,decide_eq_true_eq]
  constructor
  ·rintro ⟨d,hd,h⟩
   obtain ⟨x,hx,rfl⟩:=UH.mp hd
   rw [<- (B1 n x a (he x hx) ha).mp h]
   exact hx
  ·intro h
   exact ⟨_,UH.mpr ⟨a,h,rfl⟩,(B1 n a a ha ha).mpr rfl⟩
 have l1:=uF n a ha
 have l2:(es.map (iR n)).all PyData.canLay0=true:=by
  rw [VB]
  intro d hd
  obtain ⟨x,hx,rfl⟩:=UH.mp hd
  exact (uF n x (he x hx)).1
 have e:oH neg a c st=some (.bl (if neg then !decide (a∈es) else decide (a∈es)),st):=by
  unfold oH
  simp only [h1,hc,V3,h2,ea,l1.1,l2,Bool.true_and,decide_eq_true_eq]
  rw [if_pos (by omega)]
 rw [e,bx]
def En:D->Option (List D)
 | .tup ds=>some ds
 | .str x=>if x.length<=sizeLine then some (ph x) else none
 | _=>none
def pj (fa:aj->Dm (List D)):aj->Dm Src:=fun δ st=>bnd (fa δ st) fun as st1=>match as with
 | [a]=>match En a with
  | some ds=>some (.fix ds.reverse,st1)
  | none=>none
 | _=>none
section
variable {K:Zfr}
theorem B3 {ρ:List Addr} {H:Hp} {x:V} {a:D} {ds:List D} (r:Rp K ρ H x a) (h:En a=some ds):∃ src:ZS,src.val K H x/\(∀ a,src≠.lst a)/\(∀ z,src=.str z->z.length<=sizeLine)/\∀ (ρ2:List Addr) (H2:Hp),Mn K ρ H ρ2 H2->∀ i,(∀ d,ds[i]?=some d->∃ v,src.has K H2 i v/\Rp K ρ2 H2 v d)/\(i=ds.length->src.fin K H2 i):=by
 cases r with
 | non=>cases h
 | bl b=>cases h
 | int i=>cases h
 | ty n=>cases h
 | ref e=>cases h
 | str x =>
  unfold En at h
  simp only at h
  split at h
  ·next hx =>
   cases h
   refine ⟨.str x,rfl,nofun,fun z e=>by cases e;exact hx,fun ρ2 H2 m i=>⟨fun d hd=>?_,fun e=>?_⟩⟩
   ·unfold ph at hd
    rw [UB] at hd
    obtain ⟨c,hc,rfl⟩:=U3.mp hd
    have hc':x.cps[i]?=some c:=by simpa using hc
    exact ⟨_,⟨c,hc',rfl⟩,.str _⟩
   ·show x.cps.size=i
    rw [e];simp [ph]
  ·cases h
 | tup s r =>
  cases h
  refine ⟨.tup _,⟨rfl,_,s⟩,nofun,nofun,fun ρ2 H2 m i=>⟨fun d hd=>?_,fun e=>?_⟩⟩
  ·obtain ⟨v,hv,rv⟩:=r.got hd
   exact ⟨v,⟨_,m.t _ _ s,hv⟩,rv.mn m⟩
  ·exact ⟨_,m.t _ _ s,by rw [r.length];exact e.symm⟩
theorem Rb {t:TA} {fa:aj->Dm (List D)} (ha:pd K t fa):uz K (AF K t) (pj fa):=by
 intro ρ σ H δ st S st' Q l rs e q
 obtain ⟨as,st1,e1,e⟩:=dU e
 split at e
 ·next a =>
  split at e
  ·next ds h1 =>
   cases e
   refine ha ρ σ H δ st _ _ _ l rs e1 fun xs H1 ρ1 m1 l1 r1=>?_
   obtain ⟨x,rfl,rx⟩:=r1.one'
   obtain ⟨s1,v1,nl,hz,g1⟩:=B3 rx h1
   refine ⟨x,s1,ds.length,rfl,v1,(g1 ρ1 H1 Mn.refl ds.length).2 rfl,nl,hz,q _ H1 ρ1 m1 l1 fun ρ2 H2 st2 i m2 l2=>⟨fun h=>?_,fun d h=>?_⟩⟩
   ·obtain ⟨hl,hn⟩:=uy h
    have:=U7.mp hn
    simp only [Vl] at this hl
    exact (show i=ds.length by omega)
   ·have hd:=(uy h).2
    have hi:i < ds.length:=by simpa using (Uw.mp hd).1
    rw [List.getElem?_reverse hi] at hd
    obtain ⟨v,hv,rv⟩:=(g1 ρ2 H2 m2 _).1 d hd
    refine ⟨⟨hi,v,hv⟩,fun z H3 hz=>?_⟩
    obtain ⟨rfl,k1⟩:=hz
    cases k1 _ hv
    exact ⟨Mn.refl,l2,rv⟩
  ·cases e
 ·cases e
end
section
variable {st:Store}
theorem Rc {δ:aj} {fa:aj->Dm (List D)} {R:Src->Store->Prop}:Wp (pj fa δ st) R↔Wp (fa δ st) fun as st1=>∃ a ds,as=[a]/\En a=some ds/\R (.fix ds.reverse) st1:=by
 unfold pj;rw [dE]
 constructor <;> refine fun h=>aV h fun as s h=>?_
 ·split at h
  ·next a =>
   split at h
   ·next ds h1=>exact ⟨a,ds,rfl,h1,bx.mp h⟩
   ·exact (fS.mp h).elim
  ·exact (fS.mp h).elim
 ·obtain ⟨a,ds,rfl,h1,h⟩:=h
  simp only [h1]
  exact bx.mpr h
end
section
variable {K:Zfr}
end
section
variable {st:Store} {Q:D->Store->Prop}
end
section
variable {K:Zfr}
end
section
variable {K:Zfr}
end
section
variable {K:Zfr}
end
section
variable {K:Zfr}
end
section
variable {δ:aj} {st:Store} {N B C:aj->Store->Prop} {R:D->Store->Prop}
end
section
variable {K:Zfr}
end
section
variable {δ:aj} {st:Store} {N B C:aj->Store->Prop} {R:D->Store->Prop}
end
def pk (ps:List PyData):Bool:=decide (0 < ps.length) && ps.all (fun a=>ps.all fun b=>fH a b) && ps.all fun a=>a.canLay0 && decide (a.depth<=50)
def lQ:List D->Dm D
 | [.ref r],st=>match own st r with
  | some ds=>match bQ (dc st 20) ds with
   | some ps=>if pk ps=true then (match ds[mB ps]? with | some d=>some (d,st) | none=>none) else none
   | none=>none
  | none=>none
 | _,_=>none
section
variable {K:Zfr}
theorem Rf:sG K (ub K) lQ:=by
 intro ρ H st xs as b st' Q l rx e q
 unfold lQ at e
 split at e
 ·next r kr =>
  split at e
  ·next ds hd =>
   split at e
   ·next ps hp =>
    split at e
    ·next hok =>
     split at e
     ·next d hd0 =>
      cases e
      obtain ⟨v,rfl,r⟩:=rx.one'
      cases r with
      | ref hi =>
       obtain ⟨vs,hs,rr⟩:=l.items hi (de (qL hd))
       obtain ⟨v,hv,rv⟩:=rr.got hd0
       simp only [pk,UO,decide_eq_true_eq,VB] at hok
       exact ⟨_,vs,ps,rfl,hs,B2 l 20 rr hp,hok.1.1,hok.1.2,hok.2,v,hv,q v H ρ .refl l rv⟩
     ·cases e
    ·cases e
   ·cases e
  ·cases e
 ·cases e
end
theorem Rg {st:Store} {Q:D->Store->Prop} {r:Nat} {ds:List D} {ps:List PyData} (h:own st r=some ds) (hp:bQ (dc st 20) ds=some ps) (hok:pk ps=true) {d:D} (hd:ds[mB ps]?=some d):Wp (lQ [.ref r] st) Q↔Q d st:=by
 have e:lQ [.ref r] st=some (d,st):=by simp only [lQ,h,hp,hok,hd,if_true]
 rw [e,bx]
def tupI (xs:List Int):PyData:=.tuple (xs.map PyData.int)
def jV (p:af.aJ):PyData:=.tuple [tupI p.1,tupI p.2]
theorem HX:∀ xs ys:List Int,cJ (xs.map PyData.int) (ys.map PyData.int)=af.og xs ys
 | [],[]=>rfl
 | [],_ :: _=>rfl
 | _ :: _,[]=>rfl
 | x :: xs,y :: ys=>by
  show (if (x == y)=true then cJ (xs.map PyData.int) (ys.map PyData.int) else decide (x < y))=if x=y then af.og xs ys else decide (x < y)
  rw [HX xs ys]
  by_cases h:x=y
  ·rw [if_pos h,if_pos (by simp [h])]
  ·rw [if_neg h,if_neg (by simp [h])]
theorem LS (xs ys:List Int):PyData.eqv (tupI xs) (tupI ys)=decide (xs=ys):=Ar xs ys
theorem Rh (p q:af.aJ):ko (jV p) (jV q)=af.lJ p q:=by
 show (if PyData.eqv (tupI p.1) (tupI q.1)=true then (if PyData.eqv (tupI p.2) (tupI q.2)=true then false else cJ (p.2.map PyData.int) (q.2.map PyData.int)) else cJ (p.1.map PyData.int) (q.1.map PyData.int))=if p.1=q.1 then af.og p.2 q.2 else af.og p.1 q.1
 rw [LS,LS,HX,HX]
 by_cases a:p.1=q.1
 ·rw [if_pos a,if_pos (decide_eq_true a)]
  by_cases b:p.2=q.2
  ·rw [if_pos (decide_eq_true b),b,af.DX]
  ·rw [if_neg (by simp [b])]
 ·rw [if_neg a,if_neg (by simp [a])]
theorem Eo:∀ xs ys:List Int,c9 (xs.map PyData.int) (ys.map PyData.int)=true
 | [],_=>rfl
 | _ :: _,[]=>rfl
 | x :: xs,y :: ys=>by show (true && c9 (xs.map PyData.int) (ys.map PyData.int))=true;rw [Eo xs ys];rfl
theorem Ri (p q:af.aJ):fH (jV p) (jV q)=true:=by
 show (c9 (p.1.map PyData.int) (q.1.map PyData.int) && (c9 (p.2.map PyData.int) (q.2.map PyData.int) && true))=true
 rw [Eo,Eo];rfl
theorem Rj (p:af.aJ):(jV p).canLay0=true/\(jV p).depth<=50:=by
 refine ⟨?_,?_⟩
 ·show (PyData.canLayAll0 (dA p.1) && (PyData.canLayAll0 (dA p.2) && true))=true
  rw [vJ,vJ];rfl
 ·show max (PyData.depthAll (dA p.1) + 1) (max (PyData.depthAll (dA p.2) + 1) 0) + 1<=50
  rw [yF,yF];decide
theorem LU (l:List af.aJ):∀ k,k < l.length->l[argBest (fun i j=>af.lJ (l.getD i ([],[])) (l.getD j ([],[]))) k]?=some (af.lK (l.take (k + 1)))
 | 0,h=>by
  cases l with
  | nil=>simp at h
  | cons p l=>rfl
 | k + 1,h=>by
  have ih:=LU l k (by omega)
  generalize hb:argBest (fun i j=>af.lJ (l.getD i ([],[])) (l.getD j ([],[]))) k=b at ih
  have e1:l.getD b ([],[])=af.lK (l.take (k + 1)):=by rw [UA,ih];rfl
  have e2:af.lK (l.take (k + 1 + 1))=if af.lJ (l.getD (k + 1) ([],[])) (af.lK (l.take (k + 1))) then l.getD (k + 1) ([],[]) else af.lK (l.take (k + 1)):=by
   have et:l.take (k + 1 + 1)=l.take (k + 1) ++ [l.getD (k + 1) ([],[])]:=by
    rw [U2 h,UA,Uv h];rfl
   rw [et]
   cases l with
   | nil=>simp at h
   | cons p l =>
    show ((l.take k ++ [_]).foldl _ p)=_
    rw [Vw]
    rfl
  show l[if (af.lJ (l.getD (k + 1) ([],[])) (l.getD (argBest _ k) ([],[])))=true then k + 1 else argBest _ k]?=_
  rw [hb,e1,e2]
  split
  ·rw [UA,Uv h];rfl
  ·exact ih
theorem Rm (st:Store) (p:af.aJ):dc st 20 (b9 p.1 p.2)=some (jV p):=by
 have h:∀ (m:Nat) (xs:List Int),bQ (dc st (m + 1)) (xs.map D.int)=some (xs.map PyData.int):=fun m xs=>by
  have:=sL (f:=dc st (m + 1)) (g:=D.int) (k:=PyData.int) (fun _=>rfl) xs
  exact this
 show (bQ (dc st 19) [D.tup (p.1.map D.int),D.tup (p.2.map D.int)]).map PyData.tuple=_
 have e1:dc st 19 (D.tup (p.1.map D.int))=some (tupI p.1):=by show (bQ (dc st 18) (p.1.map D.int)).map PyData.tuple=_;rw [h];rfl
 have e2:dc st 19 (D.tup (p.2.map D.int))=some (tupI p.2):=by show (bQ (dc st 18) (p.2.map D.int)).map PyData.tuple=_;rw [h];rfl
 simp only [bQ,e1,e2]
 rfl
theorem Rn {st:Store} {Q:D->Store->Prop} {r:Nat} {l:List af.aJ} (h:own st r=some (l.map fun p=>b9 p.1 p.2)) (hn:0 < l.length):Wp (lQ [.ref r] st) Q↔Q (b9 (af.lK l).1 (af.lK l).2) st:=by
 have hp:bQ (dc st 20) (l.map fun p=>b9 p.1 p.2)=some (l.map jV):=sL (f:=dc st 20) (g:=fun p:af.aJ=>b9 p.1 p.2) (k:=jV) (fun p=>Rm st p) l
 refine Rg h hp ?_ ?_
 ·simp only [pk,UO,decide_eq_true_eq,VB,Uu]
  refine ⟨⟨hn,fun a ha b hb=>?_⟩,fun a ha=>?_⟩
  ·obtain ⟨p,_,rfl⟩:=UH.mp ha
   obtain ⟨q,_,rfl⟩:=UH.mp hb
   exact Ri p q
  ·obtain ⟨p,_,rfl⟩:=UH.mp ha
   exact Rj p
 ·have hb:=LU l (l.length - 1) (by omega)
  rw [show l.length - 1 + 1=l.length by omega,VR] at hb
  have e:∀ k,k < l.length->argBest (mz (l.map jV)) k=argBest (fun i j=>af.lJ (l.getD i ([],[])) (l.getD j ([],[]))) k/\argBest (fun i j=>af.lJ (l.getD i ([],[])) (l.getD j ([],[]))) k < l.length:=by
   intro k
   induction k with
   | zero=>intro hk;exact ⟨rfl,hk⟩
   | succ k ih =>
    intro hk
    obtain ⟨e1,e2⟩:=ih (by omega)
    have eb:mz (l.map jV) (k + 1) (argBest (mz (l.map jV)) k)=af.lJ (l.getD (k + 1) ([],[])) (l.getD (argBest (fun i j=>af.lJ (l.getD i ([],[])) (l.getD j ([],[]))) k) ([],[])):=by
     rw [e1]
     unfold mz
     rw [UA,UA,UB,UB,Uv hk,Uv e2,UA,UA,Uv hk,Uv e2]
     exact Rh _ _
    refine ⟨?_,?_⟩
    ·show (if mz (l.map jV) (k + 1) (argBest (mz (l.map jV)) k)=true then k + 1 else argBest (mz (l.map jV)) k)=if _=true then k + 1 else _
     rw [eb,e1]
    ·show (if _=true then k + 1 else _) < l.length
     split
     ·exact hk
     ·exact e2
  unfold mB
  rw [Uu,(e (l.length - 1) (by omega)).1,UB,hb]
  rfl
theorem LV {α:Type} {r:α->α->Prop}:∀ {xs ys:List α},xs.Perm ys->xs.Pairwise r->ys.Pairwise r->(∀ a∈xs,∀ b∈xs,r a b->r b a->a=b)->xs=ys
 | [],ys,p,_,_,_=>(List.nil_perm.mp p).symm
 | x :: xs,[],p,_,_,_=>absurd p.length_eq (by simp)
 | x :: xs,y :: ys,p,h1,h2,an=>by
  have e:x=y:=by
   have hx:x∈y :: ys:=p.subset Uy
   have hy:y∈x :: xs:=p.symm.subset Uy
   rcases UU.mp hx with e | hx
   ·exact e
   ·rcases UU.mp hy with e | hy
    ·exact e.symm
    ·exact an x Uy y (Uz _ hy) ((Wk.mp h1).1 y hy) ((Wk.mp h2).1 x hx)
  subst e
  rw [LV (List.perm_cons x |>.mp p) (Wk.mp h1).2 (Wk.mp h2).2 fun a ha b hb=>an a (Uz _ ha) b (Uz _ hb)]
def n4 (ps:List PyData):Bool:=decide (ps.length < 64) && ps.all (fun a=>ps.all fun b=>fH a b) && (ps.all fun a=>a.canLay0 && decide (a.depth<=50)) && (ps.all (uf true) || ps.all (uf false))
def mq (ps:List PyData):List Nat:=(List.range ps.length).mergeSort fun i j=>!mz ps (min j (ps.length - 1)) (min i (ps.length - 1))
def oI (ds:List D) (ps:List PyData):List D:=(mq ps).map fun i=>ds.getD i .non
def kK:List D->Dm D
 | [.ref r],st=>match own st r with
  | some ds=>match bQ (dc st 20) ds with
   | some ps=>if n4 ps=true then some (.ref st.length,st ++ [.lst (oI ds ps)]) else none
   | none=>none
  | none=>none
 | _,_=>none
theorem y4 (ps:List PyData):(mq ps).Perm (List.range ps.length):=List.mergeSort_perm _ _
theorem LW (st:Store):∀ (n m:Nat) (d d':D) (p:PyData),dc st n d=some p->dc st m d'=some p->fH p p=true->d=d'
 | 0,_,_,_,_,h,_,_=>by simp [dc] at h
 | _,0,_,_,_,_,h,_=>by simp [dc] at h
 | n + 1,m + 1,d,d',p,h,h',ok=>by
  have all:∀ (ds ds':List D) (ps:List PyData),bQ (dc st n) ds=some ps->bQ (dc st m) ds'=some ps->c9 ps ps=true->ds=ds':=by
   intro ds
   induction ds with
   | nil =>
    intro ds' ps h1 h2 _
    cases h1
    cases ds' with
    | nil=>rfl
    | cons x r=>obtain ⟨_,_,_,_,e⟩:=sJ h2;cases e
   | cons x r ih =>
    intro ds' ps h1 h2 ok
    obtain ⟨b,t,e1,e2,rfl⟩:=sJ h1
    cases ds' with
    | nil=>cases h2
    | cons x' r' =>
     obtain ⟨b',t',Ax,vM,e⟩:=sJ h2
     cases e
     have o2:fH b b=true/\c9 t t=true:=by simpa [c9] using ok
     rw [LW st n m x x' b e1 Ax o2.1,ih r' t e2 vM o2.2]
  cases p with
  | int i =>
   have e1:d=.int i:=by
    cases d <;> simp [dc] at h
    ·rw [h]
    ·split at h <;> simp at h
   have e2:d'=.int i:=by
    cases d' <;> simp [dc] at h'
    ·rw [h']
    ·split at h' <;> simp at h'
   rw [e1,e2]
  | tuple ps =>
   obtain ⟨ds,e1,g1⟩:∃ ds,d=.tup ds/\bQ (dc st n) ds=some ps:=by
    cases d <;> simp [dc] at h
    ·exact ⟨_,rfl,h⟩
    ·split at h <;> simp at h
   obtain ⟨ds',e2,g2⟩:∃ ds',d'=.tup ds'/\bQ (dc st m) ds'=some ps:=by
    cases d' <;> simp [dc] at h'
    ·exact ⟨_,rfl,h'⟩
    ·split at h' <;> simp at h'
   rw [e1,e2,all ds ds' ps g1 g2 ok]
  | none=>cases ok
  | bool _=>cases ok
  | str _=>cases ok
  | list _=>cases ok
  | dict _=>cases ok
theorem Rq {ps:List PyData} (hok:∀ a∈ps,∀ b∈ps,fH a b=true):((mq ps).map fun i=>ps.getD i .none).Pairwise fun a b=>ko b a=false:=by
 by_cases hn:ps=[]
 ·subst hn
  rw [List.perm_nil.mp (show (mq []).Perm [] from y4 [])]
  exact .nil
 have o:=Kz hok hn
 have hl:0 < ps.length:=Ww.mpr hn
 rw [Wa]
 have key:=List.pairwise_mergeSort (le:=fun i j=>!mz ps (min j (ps.length - 1)) (min i (ps.length - 1))) (fun a b c h1 h2=>by
  have h1:mz ps (min b (ps.length - 1)) (min a (ps.length - 1))=false:=by simpa using h1
  have h2:mz ps (min c (ps.length - 1)) (min b (ps.length - 1))=false:=by simpa using h2
  have:=o.tr a b c h1 h2
  simpa using this) (fun a b=>by
  cases q:mz ps (min b (ps.length - 1)) (min a (ps.length - 1)) with
  | false=>rfl
  | true=>have:=o.as b a q;simpa using this) (List.range ps.length)
 refine Wi (fun {a b} ha hb h=>?_) key
 have a1:=Vj.mp ((y4 ps).subset ha)
 have b1:=Vj.mp ((y4 ps).subset hb)
 rw [show min a (ps.length - 1)=a by omega,show min b (ps.length - 1)=b by omega] at h
 unfold mz at h
 simpa using h
theorem LX {f:D->Option PyData}:∀ {ds:List D} {ps:List PyData},bQ f ds=some ps->ds.length=ps.length/\∀ i,i < ps.length->f (ds.getD i .non)=some (ps.getD i .none)
 | [],_,h=>by cases h;exact ⟨rfl,fun i hi=>absurd hi (U9 _)⟩
 | d :: ds,_,h=>by
  obtain ⟨b,t,e1,e2,rfl⟩:=sJ h
  obtain ⟨hl,ha⟩:=LX e2
  refine ⟨by simp [hl],fun i hi=>?_⟩
  cases i with
  | zero=>exact e1
  | succ i=>exact ha i (by simpa using hi)
section
variable {K:Zfr}
theorem LY {ρ:List Addr} {H:Hp} {vs:List V} {ds:List D} (r:cy K ρ H vs ds):∀ {is:List Nat} {es:List D},(∀ i∈is,i < ds.length)->es=is.map (fun i=>ds.getD i .non)->cy K ρ H (is.map fun i=>vs.getD i .non) es
 | [],_,_,e=>by subst e;exact .nil
 | i :: is,_,h,e=>by
  subst e
  have hi:=h i Uy
  obtain ⟨v,hv,rv⟩:=r.got (Uv hi)
  refine .cons ?_ (LY r (fun j hj=>h j (Uz _ hj)) rfl)
  show Rp K ρ H (vs.getD i .non) (ds.getD i .non)
  rw [UA,UA,hv,Uv hi]
  exact rv
theorem Rr:sG K (qE K) kK:=by
 intro ρ H st xs as b st' Q l rx e q
 unfold kK at e
 split at e
 ·next r kr =>
  split at e
  ·next ds hd =>
   split at e
   ·next ps hp =>
    split at e
    ·next hok =>
     cases e
     obtain ⟨v,rfl,r⟩:=rx.one'
     cases r with
     | ref hi =>
      obtain ⟨vs,hs,rr⟩:=l.items hi (de (qL hd))
      simp only [n4,UO,Wt,decide_eq_true_eq,VB] at hok
      obtain ⟨⟨⟨k1,k2⟩,k3⟩,k4⟩:=hok
      obtain ⟨hl,ha⟩:=LX hp
      refine ⟨_,vs,ps,rfl,hs,B2 l 20 rr hp,k1,k2,k3,?_,fun p is LZ uH HY=>?_⟩
      ·rcases k4 with k4 | k4
       ·exact ⟨true,k4⟩
       ·exact ⟨false,k4⟩
      ·have hb:∀ i∈is,i < ps.length:=fun i hi'=>Vj.mp (uH.subset hi')
       have hb2:∀ i∈mq ps,i < ps.length:=fun i hi'=>Vj.mp ((y4 ps).subset hi')
       have eP:(is.map fun i=>ps.getD i .none)=(mq ps).map fun i=>ps.getD i .none:=by
        refine LV ((uH.trans (y4 ps).symm).map _) HY (Rq k2) fun a ha' b hb' h1 h2=>?_
        have mem:∀ x,x∈(is.map fun i=>ps.getD i .none)->x∈ps:=fun x hx=>by
         obtain ⟨i,hi',rfl⟩:=UH.mp hx
         rw [UA,Uv (hb i hi')]
         exact Vh _
        exact G2 a b (k2 a (mem a ha') b (mem b hb')) (k2 b (mem b hb') a (mem a ha')) h2 h1
       have eD:oI ds ps=is.map fun i=>ds.getD i .non:=by
        unfold oI
        have hlen:is.length=(mq ps).length:=by have:=congrArg List.length eP;simpa using this
        refine WO (by simp [hlen]) fun i h1 h2=>?_
        rw [VP,VP]
        have g1:i < (mq ps).length:=by simpa using h1
        have g2:i < is.length:=by simpa using h2
        have e1:ps.getD is[i] .none=ps.getD (mq ps)[i] .none:=by
         have:=List.getElem_of_eq eP (i:=i) (by simpa using g2)
         simpa using this
        have b1:=hb2 _ (Vh g1)
        have b2:=hb _ (Vh g2)
        have m1:ps.getD (mq ps)[i] .none∈ps:=by
         rw [UA,Uv b1]
         exact Vh _
        exact LW st 20 20 _ _ _ (ha _ b1) (by rw [ha _ b2,e1]) (k2 _ m1 _ m1)
       exact q _ _ _ (Mn.new LZ) (l.newL LZ (LY rr (fun i hi'=>by rw [hl];exact hb i hi') eD)) (.ref (newR l))
    ·cases e
   ·cases e
  ·cases e
 ·cases e
end
theorem Rt {st:Store} {Q:D->Store->Prop} {r:Nat} {ds:List D} {ps:List PyData} (h:own st r=some ds) (hp:bQ (dc st 20) ds=some ps) (hok:n4 ps=true):Wp (kK [.ref r] st) Q↔Q (.ref st.length) (st ++ [.lst (oI ds ps)]):=by
 have e:kK [.ref r] st=some (.ref st.length,st ++ [.lst (oI ds ps)]):=by simp only [kK,h,hp,hok,if_true]
 rw [e,bx]
theorem L0 {ds:List D} {ps:List PyData} (hl:ds.length=ps.length):(oI ds ps).Perm ds:=by
 have h:=(y4 ps).map fun i=>ds.getD i .non
 refine h.trans ?_
 have e:(List.range ps.length).map (fun i=>ds.getD i .non)=ds:=by
  refine WO (by simp [hl]) fun i h1 h2=>?_
  rw [VP,Wy,UA,Uv h2];rfl
 rw [e]
section
variable {K:Zfr}
end
section
variable {st:Store} {Q:D->Store->Prop} {i:Nat}
end
section
variable {K:Zfr}
end
section
variable {st:Store} {Q:D->Store->Prop} {δ:aj}
end
section
variable {K:Zfr}
def qZ:aj->Dm Fl:=fun _ _=>none
theorem Rv:nJ K qf qZ:=by
 intro ρ σ H δ st fl st' E l rs e q
 cases e
end
section
variable {st:Store} {Q:D->Store->Prop}
end
section
variable {K:Zfr}
end
section
variable {st:Store} {δ:aj}
end
section
variable {K:Zfr}
end
theorem Rw {δ:aj} {st:Store} {fi:aj->Dm Src} {js:List Nat} {c:aj->Dm Bool} {f:aj->Dm D} {Q:D->Store->Prop} (ds:List D) (q:D->Bool) (h:D->D) (hi:Wp (fi δ st) fun S st1=>qW S ds st1/\Ex [] st st1) (hl:ds.length < 100000)
  (cond:∀ d∈ds,∀ st1,Ex [] st st1->Wp (c (some d :: js.map fun j=>δ.getD j none) st1) fun b st2=>b=q d/\Ex [] st1 st2)
  (step:∀ d∈ds,q d=true->∀ st1,Ex [] st st1->Wp (f (some d :: js.map fun j=>δ.getD j none) st1) fun y st2=>y=h d/\Ex [] st1 st2) (fin:∀ st',Ex [] st st'->Q (.ref st'.length) (st' ++ [.lst ((ds.filter q).map h)])):Wp (c6 fi 1 js (hName 0) c f δ st) Q:=by
 obtain ⟨S,st1,e1,hS,k1⟩:=hi
 refine Ej ds (fun i ys δ' iQ=>(∃ v,δ'=v :: js.map fun j=>δ.getD j none)/\ys=((ds.take i).filter q).map h/\Ex [] st1 iQ) ⟨S,st1,e1,fun i ys δ' iQ hi' hp=>hS i iQ hi' hp.2.2,⟨none,rfl⟩,rfl,Ex.refl⟩ hl ?_ ?_ ?_
 ·rintro i ys δ' iQ ⟨_,rfl,_⟩
  rw [Uu]
  refine UZ (List.length_filter_le _ _) ?_
  rw [Vs];omega
 ·rintro i d ys δ' iQ hd ⟨⟨v,rfl⟩,rfl,k8⟩
  obtain ⟨hlt,e⟩:=Uw.mp hd
  have hm:=UJ hd
  rw [Ek]
  refine aV (cond d hm iQ (k1.trans k8)) ?_
  rintro b nK ⟨rfl,k9⟩
  refine ⟨fun hq=>aV (step d hm hq nK (k1.trans (k8.trans k9))) ?_,fun hq=>⟨⟨some d,rfl⟩,?_,k8.trans k9⟩⟩
  ·rintro y Rx ⟨rfl,Ry⟩
   refine ⟨⟨some d,rfl⟩,?_,(k8.trans k9).trans Ry⟩
   rw [U2 hlt,WB,US,e,List.filter_cons_of_pos hq];rfl
  ·rw [U2 hlt,WB,US,e,List.filter_cons_of_neg (by rw [hq];decide)]
   simp
 ·rintro ys δ' iQ ⟨_,rfl,k8⟩
  rw [VR]
  exact fin iQ (k1.trans k8)
section
variable {K:Zfr}
end
section
variable {K:Zfr}
end
section
variable {st:Store} {Q:D->Store->Prop}
end
section
variable {K:Zfr}
end
section
variable {K:Zfr}
end
section
variable {st:Store} {Q:D->Store->Prop}
end
section
variable {K:Zfr}
end
section
variable {st:Store} {Q:D->Store->Prop}
end
def hV:D->List D->Dm D
 | .ref k,[a],st=>match dc st 20 a,(items st k).bind (bQ (dc st 19)) with
  | some dx,some ds=>match ds.findIdx? fun d=>PyData.eqv d dx with
   | some j=>if dx.canLay0 && ds.all PyData.canLay0 && decide (dx.depth<=60) && decide (ds.length<=1000) then some (.int (j:Int),st) else none
   | none=>none
  | _,_=>none
 | _,_,_=>none
section
variable {K:Zfr}
theorem Rz:Bj K "list" (o5 K) hV:=by
 intro ρ H st x xs a as b st' Q l rx wR e q
 unfold hV at e
 split at e
 ·split at e
  ·next dx ds h1 h2 =>
   split at e
   ·next j hj =>
    split at e
    ·next ok =>
     cases e
     rw [UO,UO,UO,decide_eq_true_eq,decide_eq_true_eq,VB] at ok
     obtain ⟨es,h3,h4⟩:=VI.mp h2
     obtain ⟨y,rfl,r⟩:=wR.one'
     cases rx with
     | ref hi =>
      obtain ⟨vs,s,rr⟩:=l.items hi h3
      obtain ⟨hjl,hj1,hj2⟩:=VY.mp hj
      exact ⟨_,vs,ds,y,dx,j,rfl,rfl,s,B2 l 19 rr h4,yR l 20 r h1,ok.1.1.2,ok.1.1.1,ok.1.2,ok.2,⟨_,Uv hjl,hj1⟩,fun i d hij hd=>by
       obtain ⟨hil,rfl⟩:=Uw.mp hd
       simpa using hj2 i hij,q _ H ρ .refl l (.int _)⟩
    ·cases e
   ·cases e
  ·cases e
 ·cases e
end
theorem RA {st:Store} {Q:D->Store->Prop} {n k j:Nat} {a:D} {es:List D} (ha:pU n a) (hc:items st k=some es) (he:∀ e∈es,pU n e) (hn:n<=15) (hl:es.length<=1000) (hj:es[j]?=some a) (hno:∀ i e,i < j->es[i]?=some e->e≠a):Wp (hV (.ref k) [a] st) Q↔Q (.int (j:Int)) st:=by
 have h1:=y3 n a ha 20 (by omega) st
 have h2:bQ (dc st 19) es=some (es.map (iR n)):=B0 fun x hx=>y3 n x (he x hx) 19 (by omega) st
 obtain ⟨hjl,RB⟩:=Uw.mp hj
 have hf:(es.map (iR n)).findIdx? (fun d=>PyData.eqv d (iR n a))=some j:=by
  refine VY.mpr ⟨by simpa using hjl,?_,fun i hij=>?_⟩
  ·rw [VP,RB]
   exact (B1 n a a ha ha).mpr rfl
  ·have hil:i < es.length:=by omega
   rw [VP]
   have hm:es[i]∈es:=Vh hil
   intro h
   exact hno i es[i] hij (Uv hil) ((B1 n es[i] a (he _ hm) ha).mp h)
 have l1:=uF n a ha
 have l2:(es.map (iR n)).all PyData.canLay0=true:=by
  rw [VB]
  intro d hd
  obtain ⟨x,hx,rfl⟩:=UH.mp hd
  exact (uF n x (he x hx)).1
 have e:hV (.ref k) [a] st=some (.int (j:Int),st):=by
  unfold hV
  simp only [h1,hc,V3,h2,hf,l1.1,l2,Bool.true_and,Uu,decide_eq_true_eq,UO]
  rw [if_pos ⟨by omega,hl⟩]
 rw [e,bx]
section
variable {K:Zfr}
end
section
variable {st:Store} {Q:D->Store->Prop} {i:Nat}
end
end L4
namespace af
abbrev CS:=List aJ×List (List Sp)×List (Nat×Nat)
def cq (n:Nat) (fs:List aJ) (ws:List (List Sp)) (k:Nat) (s:Sp):List aJ×List (List Sp)×Nat :=
 if a8 n (stM (fs.getD k ([],[])) s)∈fs then (fs,ws,fs.idxOf (a8 n (stM (fs.getD k ([],[])) s))) else (fs ++ [a8 n (stM (fs.getD k ([],[])) s)],ws ++ [(kS (ws.getD k [] ++ [s])).reverse],fs.length)
def n6 (n:Nat) (c:CS):List aJ×List (List Sp)×Nat:=cq n c.1 c.2.1 c.2.2.length (true,1)
def lR (n:Nat) (c:CS):List aJ×List (List Sp)×Nat:=cq n (n6 n c).1 (n6 n c).2.1 c.2.2.length (false,1)
def HZ (n:Nat) (c:CS):CS:=((lR n c).1,(lR n c).2.1,c.2.2 ++ [((n6 n c).2.2,(lR n c).2.2)])
def ch (n:Nat) (p:aJ):Nat->CS
 | 0=>([a8 n p],[[]],[])
 | i + 1=>HZ n (ch n p i)
structure GR (n:Nat) (p:aJ) (fs:List aJ) (ws:List (List Sp)):Prop where
 nd:fs.Nodup
 own:∀ q∈fs,Wh n q/\a8 n q=q
 wl:ws.length=fs.length
 hd:fs[0]?=some (a8 n p)
 wd:∀ (k:Nat) (w:List Sp),ws[k]?=some w->Pl w.reverse/\w.length<=k/\(∀ s∈w,s.2.natAbs<=k + 3)/\∃ q,fs[k]?=some q/\a7 n (d3 p w) q
def RC (n:Nat) (fs:List aJ) (ls:List (Nat×Nat)):Prop:=∀ (k:Nat) (l:Nat×Nat),ls[k]?=some l->∃ p,fs[k]?=some p/\fs[l.1]?=some (a8 n (stM p (true,1)))/\fs[l.2]?=some (a8 n (stM p (false,1)))
structure GC (n:Nat) (p:aJ) (c:CS) (i:Nat):Prop where
 r:GR n p c.1 c.2.1
 ll:c.2.2.length=i
 le:i<=c.1.length
 ld:RC n c.1 c.2.2
section
variable {n:Nat} {p:aJ}
theorem GR.few {fs:List aJ} {ws:List (List Sp)} (g:GR n p fs ws):0 < fs.length:=(Uw.mp g.hd).1
theorem sS (w:Wh n p) (n0:0 < n):Wh n (a8 n p)/\a8 n (a8 n p)=a8 n p/\a7 n p (a8 n p):=by
 obtain ⟨s,s0,s1,e⟩:=Hl p n0
 have tb:=w.bf s0 s1
 have a:a7 n p (a8 n p):=⟨inv (bf p.1 p.2 s n),tb.ax,by rw [e,uh w.v.1 tb,uh w.v.2 tb];rfl⟩
 have wq:Wh n (a8 n p):=by
  obtain ⟨g,tg,eq⟩:=a
  have:=nc (xs:=p.1) (ys:=p.2) ⟨w.v.1,w.v.2,w.all⟩ tg n0
  rw [eq]
  exact ⟨⟨this.1,this.2.1⟩,this.2.2⟩
 exact ⟨wq,(oh n0 w.v a).symm,a⟩
theorem RD {fs:List aJ} {q:aJ} (h:q∈fs):fs[fs.idxOf q]?=some q:=by
 have hl:=Wf h
 rw [Uv hl,Wz]
theorem RE {w:List Sp} {k:Nat} {s:Sp} (hp:Pl w.reverse) (hn:∀ a∈w,a.2.natAbs<=k + 3) (hs:s=(true,1)\/s=(false,1)):Pl (kS (w ++ [s]))/\∀ a∈(kS (w ++ [s])),a.2.natAbs<=k + 1 + 3:=by
 have ps:gL s:=by rcases hs with rfl | rfl <;> exact ⟨fun _=>by decide,by decide⟩
 have ew:kS w=w.reverse:=by
  have:=Pl.mC hp
  rwa [List.reverse_reverse] at this
 have e:kS (w ++ [s])=cS w.reverse s:=by
  rw [KZ,ew];rfl
 rw [e]
 refine ⟨hp.push ps,fun a ha=>?_⟩
 have s1:s.2.natAbs<=1:=by rcases hs with rfl | rfl <;> decide
 exact Pp (M:=k + 3) (B:=1) (fun x hx=>hn x (VQ.mp hx)) s1 ps hp a ha
theorem xP {fs:List aJ} {ws:List (List Sp)} {k:Nat} {s:Sp} (n0:0 < n) (g:GR n p fs ws) (vp:Vf n p) (hk:k < fs.length) (hs:s=(true,1)\/s=(false,1)) :
  GR n p (cq n fs ws k s).1 (cq n fs ws k s).2.1/\(∀ (i:Nat) (q:aJ),fs[i]?=some q->(cq n fs ws k s).1[i]?=some q)/\fs.length<=(cq n fs ws k s).1.length/\(cq n fs ws k s).1.length<=fs.length + 1/\∃ q,fs[k]?=some q/\(cq n fs ws k s).1[(cq n fs ws k s).2.2]?=some (a8 n (stM q s)):=by
 have ek:fs[k]?=some (fs.getD k ([],[])):=by rw [UA,Uv hk];rfl
 generalize hq:fs.getD k ([],[])=q at ek
 obtain ⟨wq,oq⟩:=g.own q (UJ ek)
 have Ic:=wq.st n0 s
 obtain ⟨wF,oF,aF⟩:=sS Ic n0
 unfold cq
 rw [hq]
 by_cases hm:a8 n (stM q s)∈fs
 ·rw [if_pos hm]
  exact ⟨g,fun _ _ h=>h,Ux _,V7 _,q,ek,RD hm⟩
 ·rw [if_neg hm]
  have RF:k < ws.length:=by rw [g.wl];exact hk
  have ew:ws[k]?=some (ws.getD k []):=by rw [UA,Uv RF];rfl
  generalize ws.getD k []=w at ew
  obtain ⟨pw,lw,nw,q',eq',aw⟩:=g.wd k w ew
  rw [ek] at eq'
  cases eq'
  obtain ⟨pl,nl⟩:=RE (k:=k) pw nw hs
  refine ⟨⟨Wm.mpr ⟨g.nd,by simp,fun x hx y hy e=>hm (by rw [<- UP.mp hy,<- e];exact hx)⟩,fun q' hq'=>?_,by rw [UG,UG,g.wl];rfl,by rw [UM g.few];exact g.hd,fun i v hv=>?_⟩,fun i q' h=>by rw [UM (Uw.mp h).1];exact h,by rw [UG];omega,by rw [UG];exact Ux _,q,ek,?_⟩
  ·rcases U5.mp hq' with h | h
   ·exact g.own q' h
   ·rw [UP.mp h];exact ⟨wF,oF⟩
  ·by_cases hi:i < ws.length
   ·rw [UM hi] at hv
    obtain ⟨a1,a2,a3,q',b1,b2⟩:=g.wd i v hv
    exact ⟨a1,a2,a3,q',by rw [UM (Uw.mp b1).1];exact b1,b2⟩
   ·have hi2:i=ws.length:=by
     have:=(Uw.mp hv).1
     rw [UG] at this
     have:i < ws.length + 1:=this
     omega
    subst hi2
    rw [UR (Ux _),VS] at hv
    cases (show some _=some v from hv)
    refine ⟨by rw [List.reverse_reverse];exact pl,?_,fun a ha=>?_,a8 n (stM q s),?_,?_⟩
    ·rw [Vl]
     have:=K0 (w ++ [s])
     rw [UG] at this
     have:(kS (w ++ [s])).length<=w.length + 1:=this
     omega
    ·have:=nl a (VQ.mp ha)
     omega
    ·rw [g.wl,UR (Ux _),VS];rfl
    ·have b7:∀ a∈w ++ [s],gL a:=fun a ha=>by
      rcases U5.mp ha with h | h
      ·exact Pl.pr pw a (VQ.mpr h)
      ·rw [UP.mp h]
       rcases hs with rfl | rfl <;> exact ⟨fun _=>by decide,by decide⟩
     have e1:cj (kS (w ++ [s])).reverse=cj (w ++ [s]):=K1 b7
     have pp:∀ a∈(kS (w ++ [s])).reverse,gL a:=fun a ha=>Pl.pr pl a (VQ.mp ha)
     have a1:=Ld pp b7 e1 vp
     have a2:a7 n (d3 p (w ++ [s])) (stM q s):=by
      rw [D2]
      exact a7.st vp.ld aw s
     exact a7.trans vp.ld (a7.trans vp.ld a1 a2) aF
  ·rw [UR (Ux _),VS];rfl
theorem B4 (n0:0 < n) (w:Wh n p):∀ i:Nat,(∀ j,j < i->j < (ch n p j).1.length)->GC n p (ch n p i) i
 | 0,_=>by
  obtain ⟨wF,oF,aF⟩:=sS w n0
  exact ⟨⟨by show [a8 n p].Nodup;simp,fun q hq=>by rw [UP.mp hq];exact ⟨wF,oF⟩,rfl,rfl,fun k v hv=>by
   cases k with
   | zero =>
    cases (show some []=some v from hv)
    exact ⟨trivial,Ux _,(fun s hs=>nomatch hs),_,rfl,aF⟩
   | succ k=>cases (show none=some v from hv)⟩,rfl,U8 _,fun k l hl=>nomatch hl⟩
 | i + 1,h=>by
  have g:=B4 n0 w i fun j hj=>h j (by omega)
  have hi:=h i (by omega)
  have oj:=g.ll
  have vp:=w.v
  have r1:=xP (s:=(true,1)) n0 g.r vp (k:=(ch n p i).2.2.length) (by omega) (.inl rfl)
  have r2:=xP (s:=(false,1)) n0 r1.1 vp (k:=(ch n p i).2.2.length) (by have:=r1.2.2.1;omega) (.inr rfl)
  refine ⟨r2.1,by show ((ch n p i).2.2 ++ [_]).length=i + 1;rw [UG,oj];rfl,?_,fun k l hl=>?_⟩
  ·have a:=r1.2.2.1
   have b:=r2.2.2.1
   show i + 1<=(lR n (ch n p i)).1.length
   unfold lR n6
   omega
  ·have hl:((ch n p i).2.2 ++ [((n6 n (ch n p i)).2.2,(lR n (ch n p i)).2.2)])[k]?=some l:=hl
   by_cases hk:k < (ch n p i).2.2.length
   ·rw [UM hk] at hl
    obtain ⟨q,b1,b2,b3⟩:=g.ld k l hl
    exact ⟨q,r2.2.1 _ _ (r1.2.1 _ _ b1),r2.2.1 _ _ (r1.2.1 _ _ b2),r2.2.1 _ _ (r1.2.1 _ _ b3)⟩
   ·have hk2:k=(ch n p i).2.2.length:=by
     have:=(Uw.mp hl).1
     rw [UG] at this
     have:k < (ch n p i).2.2.length + 1:=this
     omega
    subst hk2
    rw [UR (Ux _),VS] at hl
    cases (show some _=some l from hl)
    obtain ⟨q1,c1,c2⟩:=r1.2.2.2.2
    obtain ⟨q2,d1,d2⟩:=r2.2.2.2.2
    have:q2=q1:=by
     have:=r1.2.1 _ _ c1
     rw [d1] at this
     exact UD this
    subst this
    exact ⟨q2,r2.2.1 _ _ d1,r2.2.1 _ _ c2,d2⟩
theorem L3:∀ {l m:List aJ},m.Nodup->(∀ x∈m,x∈l)->l.length<=m.length->∀ x∈l,x∈m
 | l,[],_,_,hl,x,hx=>by
  have:l=[]:=VJ.mp (by simpa using hl)
  rw [this] at hx;cases hx
 | l,a :: m,nd,hs,hl,x,hx=>by
  by_cases e:x=a
  ·rw [e];exact Uy
  ·have uI:=Ve.mp nd
   have ha:=hs a Uy
   have:=L3 (l:=l.erase a) (m:=m) uI.2 (fun y hy=>by
    have Ie:y≠a:=fun z=>uI.1 (z ▸ hy)
    exact (VH Ie).mpr (hs y (Uz _ hy))) (by rw [List.length_erase_of_mem ha];simp at hl;omega) x ((VH e).mpr hx)
   exact Uz _ this
theorem L5 {f:aJ->aJ}:∀ {l:List aJ},l.Nodup->(∀ a∈l,∀ b∈l,f a=f b->a=b)->(l.map f).Nodup
 | [],_,_=>List.nodup_nil
 | a :: l,nd,h=>by
  rw [UT]
  have uI:=Ve.mp nd
  refine Ve.mpr ⟨fun hm=>?_,L5 uI.2 fun x hx y hy=>h x (Uz _ hx) y (Uz _ hy)⟩
  obtain ⟨b,hb,e⟩:=UH.mp hm
  have:=h b (Uz _ hb) a Uy e
  exact uI.1 (this ▸ hb)
structure Full (n:Nat) (p:aJ) (c:CS) (N:Nat):Prop extends GC n p c N where
 fl:c.1.length=N
theorem Full.s {c:CS} {N:Nat} (h:Full n p c N) {q:aJ} (hq:q∈c.1):a8 n (Sh 1 q)∈c.1/\a8 n (Qt q)∈c.1:=by
 obtain ⟨k,hk⟩:=Vb hq
 have nS:k < c.2.2.length:=by rw [h.ll,<- h.fl];exact (Uw.mp hk).1
 obtain ⟨q',b1,b2,b3⟩:=h.ld k _ (Uv nS)
 rw [hk] at b1
 cases b1
 exact ⟨UJ b2,UJ b3⟩
structure n8 (n:Nat) (fs:List aJ):Prop where
 nd:fs.Nodup
 own:∀ q∈fs,Wh n q/\a8 n q=q
 s:∀ q∈fs,a8 n (Sh 1 q)∈fs/\a8 n (Qt q)∈fs
theorem Full.Ig {c:CS} {N:Nat} (h:Full n p c N):n8 n c.1:=⟨h.r.nd,h.r.own,fun q hq=>h.s hq⟩
theorem n8.sm {fs:List aJ} (n0:0 < n) (h:n8 n fs) {q:aJ} (hq:q∈fs):a8 n (Sh (-1) q)∈fs:=by
 have inj:∀ a∈fs,∀ b∈fs,a8 n (Sh 1 a)=a8 n (Sh 1 b)->a=b:=fun a ha b hb e=>wo n0 1 (h.own a ha).1 (h.own b hb).1 (h.own a ha).2 (h.own b hb).2 e
 have nd:=L5 (f:=fun a=>a8 n (Sh 1 a)) h.nd inj
 have:=L3 nd (fun x hx=>by
  obtain ⟨a,ha,rfl⟩:=UH.mp hx
  exact (h.s a ha).1) (by rw [Uu];exact Ux _) q hq
 obtain ⟨a,ha,e⟩:=UH.mp this
 obtain ⟨wa,oa⟩:=h.own a ha
 obtain ⟨wF,oF,aF⟩:=sS (wa.sh n0 1) n0
 have a1:a7 n (Sh 1 a) q:=by rw [<- e];exact aF
 have a2:=a7.sh (wa.sh n0 1).v a1 (-1)
 rw [rK wa.v,show (1:Int) + -1=0 from rfl,mT wa.v] at a2
 rw [<- oh n0 wa.v a2,oa]
 exact ha
theorem n8.st {fs:List aJ} (n0:0 < n) (h:n8 n fs) {q:aJ} (hq:q∈fs) (s:Sp):a8 n (stM q s)∈fs:=by
 have up:∀ k:Nat,a8 n (Sh (k:Int) q)∈fs:=fun k=>by
  induction k with
  | zero =>
   rw [show ((0:Nat):Int)=0 from rfl,mT (h.own q hq).1.v,(h.own q hq).2];exact hq
  | succ k ih =>
   have wk:=(h.own q hq).1.sh n0 (k:Int)
   obtain ⟨wF,oF,aF⟩:=sS wk n0
   have:=(h.s _ ih).1
   rw [<- oh n0 (wk.sh n0 1).v (a7.sh wk.v aF 1),rK (h.own q hq).1.v] at this
   exact this
 have dn:∀ k:Nat,a8 n (Sh (-(k:Int)) q)∈fs:=fun k=>by
  induction k with
  | zero =>
   rw [show (-((0:Nat):Int))=0 from rfl,mT (h.own q hq).1.v,(h.own q hq).2];exact hq
  | succ k ih =>
   have wk:=(h.own q hq).1.sh n0 (-(k:Int))
   obtain ⟨wF,oF,aF⟩:=sS wk n0
   have:=h.sm n0 ih
   rw [<- oh n0 (wk.sh n0 (-1)).v (a7.sh wk.v aF (-1)),rK (h.own q hq).1.v,show -(k:Int) + -1=-((k + 1:Nat):Int) by omega] at this
   exact this
 have qt:∀ k:Nat,Wh n (kq k q)/\a8 n (kq k q)∈fs:=fun k=>by
  induction k with
  | zero=>exact ⟨(h.own q hq).1,by show a8 n q∈fs;rw [(h.own q hq).2];exact hq⟩
  | succ k ih =>
   obtain ⟨wk,ih⟩:=ih
   obtain ⟨wF,oF,aF⟩:=sS wk n0
   have:=(h.s _ ih).2
   rw [<- oh n0 (wk.qt n0).v (a7.qt wk.v aF)] at this
   exact ⟨wk.qt n0,this⟩
 unfold stM
 split
 ·rcases Int.lt_or_le s.2 0 with z | z
  ·have:=dn s.2.natAbs
   rwa [show -((s.2.natAbs:Nat):Int)=s.2 by omega] at this
  ·have:=up s.2.toNat
   rwa [show ((s.2.toNat:Nat):Int)=s.2 by omega] at this
 ·exact (qt _).2
theorem n8.ld {fs:List aJ} (n0:0 < n) (h:n8 n fs):∀ (w:List Sp) (q:aJ),Wh n q->a8 n q∈fs->a8 n (d3 q w)∈fs
 | [],_,_,hq=>hq
 | s :: w,q,wq,hq=>by
  refine n8.ld n0 h w (stM q s) (wq.st n0 s) ?_
  obtain ⟨wF,oF,aF⟩:=sS wq n0
  have:=h.st n0 hq s
  rw [<- oh n0 (wq.st n0 s).v (a7.st wq.v aF s)] at this
  exact this
theorem Full.word {c:CS} {N:Nat} (n0:0 < n) (h:Full n p c N) (wp:Wh n p) (w:List Sp):a8 n (d3 p w)∈c.1:=h.Ig.ld n0 w p wp (UJ h.r.hd)
end
end af
namespace af
def Tl:Nat->List (List Int)
 | 1=>[[0]]
 | 2=>[[0,1],[1,0]]
 | 3=>[[0,1,2],[0,2,1],[1,0,2],[1,2,0],[2,0,1],[2,1,0]]
 | _=>[]
theorem xQ:∀ a∈([0,1]:List Int),∀ b∈([0,1]:List Int),[a,b].Nodup->[a,b]∈Tl 2:=by decide +kernel
theorem RG:∀ a∈([0,1,2]:List Int),∀ b∈([0,1,2]:List Int),∀ c∈([0,1,2]:List Int),[a,b,c].Nodup->[a,b,c]∈Tl 3:=by decide +kernel
theorem L6 {n:Nat} (n0:0 < n) (n3:n<=3) {xs:List Int} (t:Tn n xs):xs∈Tl n:=by
 have hl:=t.length
 have hb:∀ x∈xs,x∈upto n:=fun x hx=>t.subset hx
 have nd:=t.nodup
 clear t
 match n,n0,n3,xs,hl with
 | 1,_,_,[x],_ =>
  have h1:=hb x Uy
  rw [UP.mp (show x∈[0] from h1)]
  exact Uy
 | 2,_,_,[x,y],_=>exact xQ x (hb x Uy) y (hb y (.tail _ Uy)) nd
 | 3,_,_,[x,y,z],_=>exact RG x (hb x Uy) y (hb y (.tail _ Uy)) z (hb z (.tail _ (.tail _ Uy))) nd
def Ul (n:Nat):List aJ:=((Tl n).flatMap fun x=>(Tl n).map fun y=>(x,y)).filter fun q=>decide (a8 n q=q)
theorem xR {n:Nat} (n0:0 < n) (n3:n<=3) {q:aJ} (w:Wh n q) (h:a8 n q=q):q∈Ul n:=by
 unfold Ul
 refine VT.mpr ⟨WR.mpr ⟨q.1,L6 n0 n3 w.v.1,UH.mpr ⟨q.2,L6 n0 n3 w.v.2,rfl⟩⟩,by rw [h];exact decide_eq_true rfl⟩
theorem Ep:∀ {m l:List aJ},m.Nodup->(∀ x∈m,x∈l)->m.length<=l.length
 | [],_,_,_=>U8 _
 | a :: m,l,nd,hs=>by
  have uI:=Ve.mp nd
  have ha:=hs a Uy
  have:=Ep (m:=m) (l:=l.erase a) uI.2 fun y hy=>by
   have Ie:y≠a:=fun z=>uI.1 (z ▸ hy)
   exact (VH Ie).mpr (hs y (Uz _ hy))
  rw [List.length_erase_of_mem ha] at this
  have hp:0 < l.length:=List.length_pos_of_mem ha
  simp
  omega
theorem Ih:(Ul 1).length<=30/\(Ul 2).length<=30/\(Ul 3).length<=30:=by decide +kernel
theorem RH {n:Nat} (n0:0 < n) (n3:n<=3) {fs:List aJ} (nd:fs.Nodup) (own:∀ q∈fs,Wh n q/\a8 n q=q):fs.length<=30:=by
 have h:=Ep (l:=Ul n) nd fun q hq=>xR n0 n3 (own q hq).1 (own q hq).2
 rcases (show n=1\/n=2\/n=3 by omega) with rfl | rfl | rfl
 ·exact UZ h Ih.1
 ·exact UZ h Ih.2.1
 ·exact UZ h Ih.2.2
theorem L7 {n:Nat} {p q:aJ} (n0:0 < n) (wp:Wh n p) (wq:Wh n q) (e:a8 n p=a8 n q):a7 n p q:=by
 obtain ⟨_,_,a⟩:=sS wp n0
 obtain ⟨_,_,b⟩:=sS wq n0
 rw [e] at a
 exact a7.trans wp.v a (a7.symm wq.v b)
end af
namespace af
end af
namespace af
def ins (x:Int):List Int->List (List Int)
 | []=>[[x]]
 | a :: l=>(x :: a :: l) :: (ins x l).map (a :: ·)
def pV:Nat->List (List Int)
 | 0=>[[]]
 | n + 1=>(pV n).flatMap (ins (n:Int))
theorem L8 {x:Int}:∀ {m:List Int},x∈m->m∈ins x (m.erase x)
 | a :: m,h=>by
  by_cases e:a=x
  ·subst e
   rw [List.erase_cons_head]
   cases m <;> simp [ins]
  ·have hm:x∈m:=by rcases UU.mp h with h | h;exact absurd h.symm e;exact h
   rw [List.erase_cons_tail (by simpa using e)]
   simp only [ins,UU,UH]
   exact .inr ⟨m,L8 hm,rfl⟩
theorem L9 {x:Int}:∀ {l m:List Int},m∈ins x l->m.Perm (x :: l)
 | [],m,h=>by rw [UP.mp h]
 | a :: l,m,h=>by
  simp only [ins,UU,UH] at h
  rcases h with rfl | ⟨k,hk,rfl⟩
  ·exact .refl _
  ·exact ((L9 hk).cons a).trans (.swap x a l)
theorem Ma (n:Nat):upto (n + 1)=upto n ++ [(n:Int)]:=by unfold upto;rw [List.range_succ,US];rfl
theorem Ii:∀ {n:Nat} {xs:List Int},Tn n xs->xs∈pV n
 | 0,xs,t=>by rw [VJ.mp (show xs.length=0 from t.length)];simp [pV]
 | n + 1,xs,t=>by
  have t':xs.Perm (upto (n + 1)):=t
  rw [Ma] at t'
  have t2:xs.Perm ((n:Int) :: upto n):=t'.trans (List.perm_append_comm (l₂:=[(n:Int)]))
  have hm:(n:Int)∈xs:=t2.mem_iff.mpr Uy
  have h:=t2.erase (n:Int)
  rw [List.erase_cons_head] at h
  exact WR.mpr ⟨_,Ii h,L8 hm⟩
theorem Mb:∀ {n:Nat} {xs:List Int},xs∈pV n->Tn n xs
 | 0,xs,h=>by rw [UP.mp h];exact .refl _
 | n + 1,xs,h=>by
  obtain ⟨l,hl,h⟩:=WR.mp h
  show xs.Perm (upto (n + 1))
  rw [Ma]
  exact ((L9 h).trans ((show l.Perm (upto n) from Mb hl).cons _)).trans (List.perm_append_comm (l₁:=[(n:Int)]))
def y6 (n:Nat) (c:List Int):Nat:=((upto n).filter fun s=>decide (app c s=s)).length
theorem Mc {n:Nat} {c g:List Int} (tc:Tn n c) (tg:Tn n g):y6 n (anew c g)=y6 n c:=by
 unfold y6
 have e:(upto n).map (app g)=g:=AO tg.length
 have p:((upto n).map (app g)).Perm (upto n):=by rw [e];exact tg
 rw [<- (p.filter _).length_eq,List.filter_map,Uu]
 congr 1
 refine List.filter_congr fun s hs=>?_
 obtain ⟨s0,s1⟩:=kE.mp hs
 have b:=tc.app s0 s1
 show decide (app (anew c g) (app g s)=app g s)=_
 rw [tc.jm tg s0 s1]
 exact decide_eq_decide.mpr ⟨fun h=>tg.inj b.1 b.2 s0 s1 h,fun h=>by rw [h]⟩
def rN (n:Nat) (q:aJ):Nat:=y6 n (rn q)
theorem Md {n:Nat} {p q:aJ} (v:Vf n p) (a:a7 n p q):rN n q=rN n p:=by
 obtain ⟨g,tg,rfl⟩:=a
 unfold rN
 rw [PY v tg,Mc (Bi v) tg]
theorem xS {n:Nat} {p:aJ} (v:Vf n p) (w:List Sp):rN n (d3 p w)=rN n p:=by
 obtain ⟨g,tg,e⟩:=Ln.ld (w:=w) v
 unfold rN
 rw [e,Mc (Bi v) tg]
def y8:Nat->List (List Int)
 | 4=>[[0,1,2,3],[1,0,2,3],[1,0,3,2],[1,2,0,3],[1,2,3,0]]
 | 5=>[[0,1,2,3,4],[1,0,2,3,4],[1,0,3,2,4],[1,2,0,3,4],[1,2,0,4,3],[1,2,3,0,4],[1,2,3,4,0]]
 | _=>[]
theorem B5:∀ xs∈pV 4,∃ g∈pV 4,anew xs g∈y8 4:=by decide +kernel
theorem B6:∀ xs∈pV 5,∃ g∈pV 5,anew xs g∈y8 5:=by decide +kernel
def Ij:List aJ:=[([1,2,3,0],[1,2,3,0]),([1,2,3,0],[1,3,0,2]),([1,2,3,0],[1,0,3,2]),([1,2,3,0],[2,3,0,1]),([1,2,3,0],[0,3,2,1]),([1,2,3,0],[0,2,3,1]),([1,2,3,0],[0,3,1,2]),([1,2,3,0],[0,1,3,2]),([1,2,3,0],[0,1,2,3]),([1,3,0,2],[2,0,3,1]),([1,0,3,2],[2,3,1,0]),([1,0,3,2],[1,2,3,0]),([1,0,3,2],[2,3,0,1]),([1,0,3,2],[0,2,3,1]),([1,0,3,2],[0,2,1,3]),([0,2,3,1],[1,3,2,0]),([0,2,3,1],[1,2,3,0]),([0,2,3,1],[1,2,0,3]),([0,2,3,1],[1,3,0,2]),([0,2,3,1],[1,0,3,2]),([0,2,3,1],[1,0,2,3]),([0,2,1,3],[1,3,0,2]),([0,2,1,3],[1,0,3,2]),([0,1,3,2],[1,2,3,0]),([0,1,3,2],[1,2,0,3]),([0,1,2,3],[1,2,3,0])]
def Er:Nat->List aJ
 | 0=>[([1,2,3,4,0],[1,3,0,4,2]),([1,2,3,4,0],[1,0,4,3,2]),([1,2,3,4,0],[2,0,4,1,3]),([1,2,3,4,0],[0,2,4,3,1]),([1,2,3,4,0],[0,2,4,1,3]),([1,2,3,4,0],[0,2,1,4,3]),([1,2,3,4,0],[0,3,1,4,2]),([1,2,4,0,3],[0,3,1,2,4]),([1,0,3,4,2],[1,2,4,3,0]),([1,0,3,4,2],[1,2,3,0,4]),([1,0,3,4,2],[1,2,0,4,3]),([1,0,3,4,2],[0,2,4,3,1]),([1,0,3,4,2],[0,2,3,1,4]),([1,0,3,4,2],[0,2,1,4,3]),([0,2,4,3,1],[1,3,0,2,4]),([0,2,3,4,1],[1,3,2,4,0]),([0,2,3,4,1],[1,3,2,0,4]),([0,2,3,4,1],[1,2,4,3,0]),([0,2,3,4,1],[1,2,4,0,3]),([0,2,3,4,1],[1,2,0,4,3]),([0,2,3,4,1],[1,3,0,2,4]),([0,2,3,4,1],[1,0,4,3,2]),([0,2,3,4,1],[1,0,3,2,4]),([0,2,3,4,1],[1,0,2,4,3]),([0,2,3,1,4],[1,2,4,0,3]),([0,2,3,1,4],[1,3,0,4,2]),([0,2,3,1,4],[1,0,3,4,2]),([0,2,3,1,4],[1,0,4,2,3]),([0,2,3,1,4],[1,0,2,4,3]),([0,2,4,1,3],[1,3,4,2,0]),([0,2,4,1,3],[1,3,4,0,2]),([0,2,4,1,3],[1,3,0,2,4]),([0,2,1,4,3],[1,3,2,4,0]),([0,2,1,4,3],[1,3,2,0,4]),([0,2,1,4,3],[1,2,3,4,0]),([0,2,1,4,3],[1,2,3,0,4]),([0,2,1,4,3],[1,3,0,4,2]),([0,2,1,4,3],[1,3,0,2,4]),([0,2,1,4,3],[1,0,3,4,2]),([0,2,1,4,3],[1,0,3,2,4])]
 | 1=>[([1,2,3,4,0],[1,0,3,4,2]),([1,2,3,4,0],[1,0,4,2,3]),([1,2,3,4,0],[0,3,4,2,1]),([1,2,3,4,0],[0,1,4,3,2]),([1,2,4,0,3],[0,3,4,2,1]),([1,0,3,4,2],[1,2,3,4,0]),([1,0,3,4,2],[1,2,4,0,3]),([1,0,3,4,2],[1,2,0,3,4]),([1,0,3,4,2],[0,2,3,4,1]),([1,0,3,4,2],[0,2,4,1,3]),([1,0,3,4,2],[0,2,1,3,4]),([0,2,3,4,1],[1,3,4,2,0]),([0,2,3,4,1],[1,2,3,0,4]),([0,2,3,4,1],[1,2,0,3,4]),([0,2,3,4,1],[1,3,0,4,2]),([0,2,3,4,1],[1,0,3,4,2]),([0,2,3,4,1],[1,0,4,2,3]),([0,2,4,1,3],[1,3,2,4,0]),([0,2,4,1,3],[1,3,2,0,4]),([0,1,3,4,2],[1,2,4,3,0]),([0,1,3,4,2],[1,2,3,0,4]),([0,1,3,4,2],[1,2,0,4,3]),([0,1,3,2,4],[1,2,4,0,3]),([0,1,3,2,4],[1,2,0,4,3])]
 | 2=>[([1,2,3,4,0],[1,2,4,0,3]),([1,2,3,4,0],[1,3,4,0,2]),([1,2,3,4,0],[0,2,3,4,1]),([1,2,3,4,0],[0,3,4,1,2]),([1,2,3,4,0],[0,1,3,4,2]),([1,2,3,4,0],[0,1,4,2,3]),([1,2,3,4,0],[0,1,2,4,3]),([1,2,4,0,3],[1,3,0,4,2]),([1,2,4,0,3],[2,3,0,4,1]),([1,2,4,0,3],[0,3,1,4,2]),([1,0,3,4,2],[2,3,4,1,0]),([1,0,3,4,2],[2,3,1,4,0]),([1,0,3,4,2],[2,3,1,0,4]),([1,0,3,4,2],[2,3,4,0,1]),([1,0,3,4,2],[2,3,0,4,1]),([1,0,3,4,2],[2,3,0,1,4]),([0,2,3,4,1],[1,2,3,4,0]),([0,2,3,4,1],[1,3,4,0,2]),([0,2,3,4,1],[1,0,2,3,4]),([0,2,4,1,3],[1,3,0,4,2]),([0,2,1,4,3],[1,3,4,2,0]),([0,2,1,4,3],[1,3,4,0,2]),([0,1,3,4,2],[1,2,3,4,0]),([0,1,3,4,2],[1,2,4,0,3]),([0,1,3,4,2],[1,2,0,3,4]),([0,1,2,4,3],[1,2,3,4,0]),([0,1,2,4,3],[1,2,3,0,4])]
 | 5=>[([1,3,4,2,0],[2,4,1,0,3]),([1,2,3,4,0],[1,2,3,4,0]),([1,2,3,4,0],[2,3,4,0,1]),([1,2,3,4,0],[0,1,2,3,4]),([1,3,0,4,2],[2,0,4,1,3]),([0,1,2,3,4],[1,2,3,4,0])]
 | _=>[]
theorem B7:∀ x∈y8 4,∀ y∈pV 4,(bf x y 0 4).length=4->a8 4 (x,y)∈Ij:=by decide +kernel
theorem B8:∀ x∈y8 5,∀ y∈pV 5,(bf x y 0 5).length=5->a8 5 (x,y)∈Er (y6 5 (sC x y)):=by decide +kernel
theorem B9 (j:Nat):(Er j).length<=60:=by
 unfold Er
 split <;> decide
theorem Me {n:Nat} {L:Nat->List aJ} (n0:0 < n) (hr:∀ xs∈pV n,∃ g∈pV n,anew xs g∈y8 n) (ha:∀ x∈y8 n,∀ y∈pV n,(bf x y 0 n).length=n->a8 n (x,y)∈L (y6 n (sC x y))) {q:aJ} (w:Wh n q) (o:a8 n q=q):q∈L (rN n q):=by
 obtain ⟨g,hg,hx⟩:=hr q.1 (Ii w.v.1)
 have tg:=Mb hg
 have a:a7 n q (anew q.1 g,anew q.2 g):=⟨g,tg,rfl⟩
 have wh:Wh n (anew q.1 g,anew q.2 g):=by
  have:=nc (xs:=q.1) (ys:=q.2) ⟨w.v.1,w.v.2,w.all⟩ tg n0
  exact ⟨⟨this.1,this.2.1⟩,this.2.2⟩
 have h:=ha _ hx _ (Ii (w.v.2.anew tg)) (wh.bf (s:=0) (by decide) (by omega)).length
 rw [<- oh n0 w.v a,o] at h
 have e:=Md w.v a
 unfold rN rn at e
 unfold rN rn
 rw [<- e]
 exact h
theorem RI {n:Nat} {p:aJ} (n0:0 < n) (n5:n<=5) (w:Wh n p) {fs:List aJ} (nd:fs.Nodup) (own:∀ q∈fs,Wh n q/\a8 n q=q) (al:∀ q∈fs,∃ u,a7 n (d3 p u) q):fs.length<=60:=by
 rcases (show n<=3\/n=4\/n=5 by omega) with h | rfl | rfl
 ·have:=RH n0 h nd own
  omega
 ·have h:=Ep (l:=Ij) nd fun q hq=>Me (L:=fun _=>Ij) n0 B5 B7 (own q hq).1 (own q hq).2
  exact UZ h (by decide)
 ·have h:=Ep (l:=Er (rN 5 p)) nd fun q hq=>by
   obtain ⟨u,a⟩:=al q hq
   have:=Me n0 B6 B8 (own q hq).1 (own q hq).2
   rw [Md (w.ld n0 (w:=u)).v a,xS w.v] at this
   exact this
  exact UZ h (B9 _)
theorem Mf {n:Nat} {p:aJ} (n0:0 < n) (n5:n<=5) (w:Wh n p):∃ N,Full n p (ch n p N) N/\(∀ j,j < N->j < (ch n p j).1.length)/\N<=60:=by
 have key:∀ m,(∃ N,N<=m/\Full n p (ch n p N) N/\(∀ j,j < N->j < (ch n p j).1.length))\/∀ j,j<=m->j < (ch n p j).1.length:=fun m=>by
  induction m with
  | zero =>
   right
   intro j hj
   have:j=0:=by omega
   subst this
   exact Nat.one_pos
  | succ m ih =>
   rcases ih with ⟨N,h1,h2,h3⟩ | h
   ·exact .inl ⟨N,by omega,h2,h3⟩
   ·have g:=B4 n0 w (m + 1) fun j hj=>h j (by omega)
    by_cases e:m + 1 < (ch n p (m + 1)).1.length
    ·right
     intro j hj
     rcases V2 j (m + 1) with z | z
     ·exact h j (by omega)
     ·have:j=m + 1:=by omega
      subst this;exact e
    ·have:=g.le
     exact .inl ⟨m + 1,Ux _,{ toGC:=g,fl:=by omega },fun j hj=>h j (by omega)⟩
 rcases key 60 with ⟨N,h1,h2,h3⟩ | h
 ·exact ⟨N,h2,h3,h1⟩
 ·have g:=B4 n0 w 60 fun j hj=>h j (by omega)
  have:=RI n0 n5 w g.r.nd g.r.own fun q hq=>by
   obtain ⟨k,hk⟩:=Vb hq
   have hl:k < (ch n p 60).2.1.length:=by rw [g.r.wl];exact (Uw.mp hk).1
   obtain ⟨_,_,_,q',hq',a⟩:=g.r.wd k _ (Uv hl)
   rw [hk] at hq'
   cases hq'
   exact ⟨_,a⟩
  have:=h 60 (Ux _)
  omega
end af
namespace af
structure Ro where
 m:Nat
 q:aJ
 w:List Sp
 s:Int
 t:Int
def Ro.f (r:Ro):aJ:=a8 r.m r.q
def At (fs:List aJ) (i:Int) (f:aJ):Prop:=0<=i/\i < (fs.length:Int)/\fs[i.toNat]?=some f
def q5 (n:Nat) (p:aJ) (fs:List aJ) (r:Ro):Prop:=a8 n (d3 p r.w)=r.f/\At fs r.s (a8 r.m (Sh 1 r.q))/\At fs r.t (a8 r.m (Qt r.q))
def Holds (n:Nat) (p:aJ) (R:List Ro):Prop:=(R.map Ro.f)[0]?=some (a8 n p)/\∀ (k:Nat) (r:Ro),R[k]?=some r->r.f ∉ (R.map Ro.f).take k/\q5 n p (R.map Ro.f) r
structure xT (r:Ro):Prop where
 w:Wh r.m r.q
 m0:0 < r.m
 y9:r.m<=20
 pr:∀ s∈r.w,gL s
 wl:r.w.length<=1000
def gu (n:Nat) (C:CS) (N:Nat):List Ro:=(List.range N).map fun k=>⟨n,C.1.getD k ([],[]),C.2.1.getD k [],((C.2.2.getD k (0,0)).1:Int),((C.2.2.getD k (0,0)).2:Int)⟩
theorem gd {α:Type} {l:List α} {k:Nat} {d:α} (h:k < l.length):l[k]?=some (l.getD k d):=by rw [UA,Uv h];rfl
theorem Mg {n N:Nat} {p:aJ} {C:CS} (F:Full n p C N):(gu n C N).map Ro.f=C.1:=by
 unfold gu
 rw [UW]
 refine Wl fun k=>?_
 by_cases hk:k < N
 ·have e:=gd (d:=(([],[]):aJ)) (show k < C.1.length by rw [F.fl];exact hk)
  rw [UB,VA hk,e]
  show some (a8 n (C.1.getD k ([],[])))=_
  rw [(F.r.own _ (UJ e)).2]
 ·rw [U7.mpr (by rw [Uu,Vv];omega),U7.mpr (by rw [F.fl];omega)]
theorem Es {n N k:Nat} {C:CS} {r:Ro} (h:(gu n C N)[k]?=some r):k < N/\r=⟨n,C.1.getD k ([],[]),C.2.1.getD k [],((C.2.2.getD k (0,0)).1:Int),((C.2.2.getD k (0,0)).2:Int)⟩:=by
 unfold gu at h
 have hk:k < N:=by have:=(Uw.mp h).1;rw [Uu,Vv] at this;exact this
 rw [UB,VA hk] at h
 exact ⟨hk,(UD h).symm⟩
theorem Mh {n N:Nat} {p:aJ} {C:CS} (F:Full n p C N) (n0:0 < n) (hn:n<=20) (hN:N<=60):∀ r∈gu n C N,xT r:=fun r hr=>by
 obtain ⟨k,hk⟩:=Vb hr
 obtain ⟨hkN,rfl⟩:=Es hk
 have ef:=gd (d:=(([],[]):aJ)) (show k < C.1.length by rw [F.fl];exact hkN)
 have ew:=gd (d:=([]:List Sp)) (show k < C.2.1.length by rw [F.r.wl,F.fl];exact hkN)
 obtain ⟨pw,lw,nw,_⟩:=F.r.wd k _ ew
 exact ⟨(F.r.own _ (UJ ef)).1,n0,hn,fun s hs=>Pl.pr pw s (VQ.mpr hs),by show (C.2.1.getD k []).length<=1000;omega⟩
theorem RJ {n N:Nat} {p:aJ} {C:CS} (F:Full n p C N) (n0:0 < n) (wp:Wh n p):Holds n p (gu n C N):=by
 have ef:=Mg F
 refine ⟨by rw [ef];exact F.r.hd,fun k r hr=>?_⟩
 obtain ⟨hk,e⟩:=Es hr
 have hf:C.1[k]?=some r.f:=by rw [<- ef,UB,hr];rfl
 have eq:=gd (d:=(([],[]):aJ)) (show k < C.1.length by rw [F.fl];exact hk)
 have ew:=gd (d:=([]:List Sp)) (show k < C.2.1.length by rw [F.r.wl,F.fl];exact hk)
 have el:=gd (d:=((0,0):Nat×Nat)) (show k < C.2.2.length by rw [F.ll];exact hk)
 obtain ⟨q,h1,h2,h3⟩:=F.ld k _ el
 obtain ⟨_,_,_,q',hq',aq⟩:=F.r.wd k _ ew
 have hq2:q'=q:=by rw [hq'] at h1;exact UD h1
 subst hq2
 have er:r.q=q':=by rw [eq] at hq';rw [e];exact UD hq'
 have em:r.m=n:=by rw [e]
 have es:r.s=((C.2.2.getD k (0,0)).1:Int):=by rw [e]
 have et:r.t=((C.2.2.getD k (0,0)).2:Int):=by rw [e]
 have ww:r.w=C.2.1.getD k []:=by rw [e]
 rw [ef]
 have lt:∀ {i:Nat} {f:aJ},C.1[i]?=some f->At C.1 (i:Int) f:=fun {i f} h=>⟨by omega,by have:=(Uw.mp h).1;omega,by rw [UK];exact h⟩
 refine ⟨fun hm=>?_,?_,?_,?_⟩
 ·obtain ⟨j,hj⟩:=Vb hm
  have hjk:j < k:=by have:=(Uw.mp hj).1;rw [Vs] at this;omega
  rw [List.getElem?_take_of_lt hjk] at hj
  obtain ⟨g1,g2⟩:=Uw.mp hj
  obtain ⟨g3,g4⟩:=Uw.mp hf
  exact Vp.mp F.r.nd j k g1 g3 hjk (by rw [g2,g4])
 ·unfold Ro.f
  rw [ww,em,er,oh n0 (wp.ld n0 (w:=C.2.1.getD k [])).v aq]
 ·rw [es,em,er];exact lt h2
 ·rw [et,em,er];exact lt h3
end af
namespace af
end af
namespace af
variable {n:Nat} {p q:aJ}
theorem Ik {g:List Int} (wp:Wh n p) (wq:Wh n q) (n0:0 < n):g∈oE p q n n↔Cg n p q g:=by
 constructor
 ·intro h
  obtain ⟨s,hs,rfl⟩:=UH.mp h
  obtain ⟨h1,h2⟩:=VT.mp hs
  obtain ⟨s0,s1⟩:=kE.mp h1
  exact (uj wp wq (s:=0) (by decide) (by omega) s0 s1 (of_decide_eq_true h2).symm).1
 ·intro c
  have b:=c.1.app (i:=0) (by decide) (by omega)
  exact UH.mpr ⟨app g 0,VT.mpr ⟨kE.mpr b,decide_eq_true (Bd wp.v c (s:=0) (by decide) (by omega))⟩,Be wp c (s:=0) (by decide) (by omega)⟩
theorem Il (wp:Wh n p) (wq:Wh n q) (n0:0 < n):oE p q n n=[]↔¬ a8 n p=a8 n q:=by
 constructor
 ·intro h e
  obtain ⟨g,tg,hg⟩:=L7 n0 wp wq e
  have:=(Ik wp wq n0).mpr ⟨tg,hg⟩
  rw [h] at this
  cases this
 ·intro h
  cases e:oE p q n n with
  | nil=>rfl
  | cons g l =>
   have:g∈oE p q n n:=by rw [e];exact Uy
   exact absurd (oh n0 wp.v ⟨g,(Ik wp wq n0).mp this⟩) h
def Rel (n:Nat) (p q:aJ):Prop:=∃ w:List Sp,(∀ s∈w,gL s)/\a8 n (d3 p w)=a8 n q
theorem Mi {w:List Sp} (n0:0 < n) (wp:Wh n p) (wq:Wh n q) (hw:∀ s∈w,gL s) (e:a8 n (d3 p w)=a8 n q):a8 n (d3 q (ki w))=a8 n p:=by
 have a:=L7 n0 (wp.ld n0 (w:=w)) wq e
 have b:=a7.ld (w:=ki w) (wp.ld n0 (w:=w)).v a
 rw [<- D2] at b
 have c:=Ld (u:=w ++ ki w) (w:=[]) (fun s hs=>by
  rcases U5.mp hs with h | h
  ·exact hw s h
  ·exact Bc hw s h) (fun s hs=>nomatch hs) (Hj hw) wp.v
 have d:=oh n0 (wp.ld n0 (w:=w ++ ki w)).v b
 have d':=oh n0 (wp.ld n0 (w:=w ++ ki w)).v c
 exact d.symm.trans d'
theorem Rel.symm (n0:0 < n) (wp:Wh n p) (wq:Wh n q) (h:Rel n p q):Rel n q p:=by
 obtain ⟨w,hw,e⟩:=h
 exact ⟨ki w,Bc hw,Mi n0 wp wq hw e⟩
theorem RK {N:Nat} {C:CS} (n0:0 < n) (wp:Wh n p) (F:Full n p C N) (h:Rel n p q):a8 n q∈C.1:=by
 obtain ⟨w,_,e⟩:=h
 rw [<- e]
 exact F.word n0 wp w
theorem Im {N k:Nat} {C:CS} (n0:0 < n) (wp:Wh n p) (F:Full n p C N) (hk:k < N):(∀ s∈C.2.1.getD k [],gL s)/\(C.2.1.getD k []).length<=N/\a8 n (d3 p (C.2.1.getD k []))=C.1.getD k ([],[])/\Wh n (C.1.getD k ([],[]))/\a8 n (C.1.getD k ([],[]))=C.1.getD k ([],[])/\C.1.getD k ([],[])∈C.1:=by
 have ef:=gd (d:=(([],[]):aJ)) (show k < C.1.length by rw [F.fl];exact hk)
 have ew:=gd (d:=([]:List Sp)) (show k < C.2.1.length by rw [F.r.wl,F.fl];exact hk)
 obtain ⟨pw,lw,nw,q',hq',aq⟩:=F.r.wd k _ ew
 rw [ef] at hq'
 cases hq'
 have o:=F.r.own _ (UJ ef)
 exact ⟨fun s hs=>Pl.pr pw s (VQ.mpr hs),by omega,by rw [oh n0 (wp.ld n0 (w:=C.2.1.getD k [])).v aq,o.2],o.1,o.2,UJ ef⟩
theorem Mj {α β:Type} [DecidableEq β] {f:α->β} {F:β}:∀ {R:List α},(R.map f).Nodup->F∈R.map f->(R.filter fun r=>decide (f r=F)).length=1
 | [],_,h=>nomatch h
 | r :: R,nd,h=>by
  rw [UT] at nd h
  obtain ⟨n1,n2⟩:=Ve.mp nd
  by_cases e:f r=F
  ·rw [List.filter_cons_of_pos (by simp [e])]
   have:(R.filter fun r=>decide (f r=F))=[]:=List.filter_eq_nil_iff.mpr fun x hx z=>n1 (by rw [e,<- of_decide_eq_true z];exact List.mem_map_of_mem hx)
   rw [this];rfl
  ·rw [List.filter_cons_of_neg (by simp [e])]
   refine Mj n2 ?_
   rcases UU.mp h with h | h
   ·exact absurd h.symm e
   ·exact h
end af
namespace L4
open PySem PySem.Spec L2
section
variable {K:Zfr}
theorem Mk {n m:Nat} {F:List D->Dm D} {ta:TA} {fa:aj->Dm (List D)} {E:XK} {my:List V} {Ca:List D} (ha:pd K ta fa) (hn:∀ δ st as st',fa δ st=some (as,st')->as.length=m) (hm:m + my.length=n) (hd:∀ ρ H,cy K ρ H my Ca):gp K (nR (bg K n F) my E ta) (aM (fun as=>F (as ++ Ca)) fa):=by
 intro ρ σ H δ st b st' Q l rs e q
 obtain ⟨as,st1,e1,e⟩:=dU e
 refine ha ρ σ H δ st as st1 _ l rs e1 fun vs H1 ρ1 m1 l1 r1=>⟨?_,ρ1,st1,as ++ Ca,b,st',l1,?_,e,fun v H3 ρ3 m3 l3 r3=>q v H3 ρ3 (m1.trans m3) l3 r3⟩
 ·rw [UG,r1.length,hn _ _ _ _ e1];exact hm
 ·exact r1.append (hd _ _)
end
end L4
namespace My
local macro_rules | `(tactic| w_up)=>`(tactic| first | exact .inl rfl | exact .inr rfl | assumption)
local macro_rules | `(tactic| w_fin)=>`(tactic| decide +kernel)
local macro_rules | `(tactic| kspl_open $h)=>`(tactic| (refine L4.dD ?_;intro _ $h;set_option simprocs false in simp only [L4.cm]))
local macro_rules | `(tactic| w_how)=>`(tactic| set_option simprocs false in simp only [L4.cm])
open PySem L2 L4
theorem RL:∀ δ st as st',ah δ st=some (as,st')->as.length=0:=fun _ _ _ _ h=>P4 h
theorem ng {f1:aj->Dm D}:∀ δ st as st',ae f1 ah δ st=some (as,st')->as.length=1:=Ea RL
theorem dO {f1 f2:aj->Dm D}:∀ δ st as st',ae f2 (ae f1 ah) δ st=some (as,st')->as.length=2:=Ea ng
theorem uJ {f1 f2 f3:aj->Dm D}:∀ δ st as st',ae f3 (ae f2 (ae f1 ah)) δ st=some (as,st')->as.length=3:=Ea dO
theorem Et {f1 f2 f3 f4:aj->Dm D}:∀ δ st as st',ae f4 (ae f3 (ae f2 (ae f1 ah))) δ st=some (as,st')->as.length=4:=Ea uJ
theorem cb {X:Cx} {k k':Nat} {f:Addr} {fd:FuncData} {ps:List Str} {sp:Sp} {x:Str} {st:Stmt} {e:Expr} {es:List Expr} {t:TA} {p pos:Pos} (F:aA X.prog X.w X.K X.mg X.base aY k f fd ps sp) (D:Def X.K X.mg x st ps f fd) (hr:fT k' X.A) (hk:k<=k') (hg:Gl X x) (ha:PA X (e :: es) t) (hdb:(x == ("__debug__" : Str))=false:=by decide) (he:starEach (e :: es) X.env=(false,eval e X.env) :: starEach es X.env:=by rfl) (hpl:(backTo pos (starEach es X.env)).any (·.1)=false:=by rfl):PE X (.Call (.Name x p) (e :: es) [] pos) (nR sp [] E0 t):=F3 F (hr.mono hk) hg D.m D.F.kp D.b .nil oY ha hdb he hpl
def top (i:Nat):Stmt:=PySem.Challenge.pw_shearfloor_k62_whole_led_or_apart.main.body.getD i (.Pass ⟨0,0,0,0⟩)
structure Txt (mg:Str->Option Value):Prop where
 i6:mg "enumerate" = none
 bJ:mg "len" = none
 eU:mg "list" = none
 Cb:mg "min" = none
 aW:mg "range" = none
 oJ:mg "reversed" = none
 rg:mg "sorted" = none
 bP:mg "tuple" = none
section
variable {P:Program} {w:World} {K:Zfr} {mg:Str->Option Value} {base:Heap}
def Eu:aj->Dm Fl :=
 (aB (aL (aG gO (aG lL (fC (.int 7901)) (ag 1)) (fC (.int 24697))) (hName 2))
 (aB (fV (aC (aG wG (ag 1) (aM cT (ae (ag 0) ah)))) (aL (aG dQ (ag 0) (ag 1)) (hName 2)) (fV (aC (aG wH (aM cT (ae (ag 0) ah)) (fC (.int 0)))) (aL (aG gO (aG lL (aG jU (aG dQ (ag 0) (aG jU (ag 1) (aM cT (ae (ag 0) ah)))) (fC (.int 2147483629))) (fC (.int 31))) (aG lL (fC (.int 7901)) (ag 1))) (hName 2)) aX))
 (aB (aL (fC (.int 0)) (hName 3))
 (aB (fV (aC (aG Ht (ag 2) (aG qK (fC (.int 10)) (fC (.int 18))))) (aL (ag 2) (hName 3)) aX)
 (aU (dI (ae (ag 3) (ae (aG gO (aG jU (aG qK (aG gO (aG lL (aG jU (ag 2) (fC (.int 2147483629))) (fC (.int 48271))) (aG lL (fC (.int 40692)) (ag 1))) (fC (.int 5))) (fC (.int 2147483629))) (fC (.int 1))) ah))))))))
def Cc:List D->Dm D:=gs 4 Eu
def Cd:Stmt:=top 40
theorem za:aD ["_law_script","_law_k","_law_cell","_law_own"] ["_law_script","_law_k"] (av Cd):=⟨rfl,rfl,rfl,by w_fin,rfl,by w_fin,by w_fin⟩
theorem RM {f:Addr} {fd:FuncData} (D:Def K mg "_law_feed" Cd ["_law_script","_law_k"] f fd) (T:Txt mg)  :aA P w K mg base aY 1 f fd ["_law_script","_law_k"] (bg K 2 Cc):=by
 refine D.F.ok za (fun _ _ _ _ h=>h.1) (fun c A o s H v Q E hr h=>?_)
 refine ⟨_,(@a9 _ _ _ _ _ (@cR (i:=2) _ _ _ _ _ _ za.nd rfl (by w_up) (dF nB (dF tM aR (pv 1)) aR) (by rfl) (by w_up))
  (@a9 _ _ _ _ _ (@iW _ _ _ _ _ _ _ _ (eZ zU (pv 1) (jl jM (by rfl) T.bJ jN (@ao _ _ _ _ _ (pv 0) ay (by rfl))) (aI _)) (@bC _ _ _ (@cR (i:=2) _ _ _ _ _ _ za.nd rfl (by w_up) (@bT _ _ _ _ _ _ _ lX (pv 0) (pv 1) (fun _ _=>rfl)) (by rfl) (by w_up))) (@bC _ _ _ (@iW _ _ _ _ _ _ _ _ (eZ zW (jl jM (by rfl) T.bJ jN (@ao _ _ _ _ _ (pv 0) ay (by rfl))) aR (aI _)) (@bC _ _ _ (@cR (i:=2) _ _ _ _ _ _ za.nd rfl (by w_up) (dF nB (dF tM (dF pZ (@bT _ _ _ _ _ _ _ lX (pv 0) (dF pZ (pv 1) (jl jM (by rfl) T.bJ jN (@ao _ _ _ _ _ (pv 0) ay (by rfl)))) (fun _ _=>rfl)) aR) aR) (dF tM aR (pv 1))) (by rfl) (by w_up))) jK)))
  (@a9 _ _ _ _ _ (@cR (i:=3) _ _ _ _ _ _ za.nd rfl (by w_up) aR (by rfl) (by w_up))
  (@a9 _ _ _ _ _ (@iW _ _ _ _ _ _ _ _ (eZ zX (pv 2) (dF Jq aR aR) (aI _)) (@bC _ _ _ (@cR (i:=3) _ _ _ _ _ _ za.nd rfl (by w_up) (pv 2) (by rfl) (by w_up))) jK)
  (@bC _ _ _ (@dP _ _ _ _ (@kY _ _ _ _ (@ao _ _ _ _ _ (pv 3) (@ao _ _ _ _ _ (dF nB (dF pZ (dF Jq (dF nB (dF tM (dF pZ (pv 2) aR) aR) (dF tM aR (pv 1))) aR) aR) aR) ay (by rfl)) (by rfl))))))))),?_⟩
 exact gX (b:=Eu) (bh (ck (aH nH (aH uu (aS _) (ai 1)) (aS _)) (a5 2))
  (bh (iZ (eX (aH Bo (ai 1) (cO jO (au (ai 0) az)))) (ck (aH lh (ai 0) (ai 1)) (a5 2)) (iZ (eX (aH Bq (cO jO (au (ai 0) az)) (aS _))) (ck (aH nH (aH uu (aH p6 (aH lh (ai 0) (aH p6 (ai 1) (cO jO (au (ai 0) az)))) (aS _)) (aS _)) (aH uu (aS _) (ai 1))) (a5 2)) jP))
  (bh (ck (aS _) (a5 3))
  (bh (iZ (eX (aH Br (ai 2) (aH Li (aS _) (aS _)))) (ck (ai 2) (a5 3)) jP)
  (dR (lb (au (ai 3) (au (aH nH (aH p6 (aH Li (aH nH (aH uu (aH p6 (ai 2) (aS _)) (aS _)) (aH uu (aS _) (ai 1))) (aS _)) (aS _)) (aS _)) az)))))))) rfl h
def Ew:aj->Dm Fl :=
 (aB (fV (aC (aG wH (aG dQ (ag 0) (fC (.int 0))) (fC (.int 0)))) (aB (aL (aG jU (aG dQ (ag 0) (fC (.int 0))) (ag 1)) (hName 2))
 (aB (aL (aG nW (aG dQ (ag 0) (fC (.int 0))) (ag 1)) (hSub (ag 0) (fC (.int 0))))
 (aU (ag 2)))) aX)
 (aB (aL (aG jU (aG lL (aG dQ (ag 0) (fC (.int 1))) (fC (.int 48271))) (fC (.int 2147483647))) (hName 3))
 (aB (aL (aG gO (aG jU (aG gO (aG lL (ag 3) (fC (.int 40692))) (fC (.int 30103))) (fC (.int 2147483399))) (fC (.int 1))) (hSub (ag 0) (fC (.int 1))))
 (aU (aG jU (aG nW (aG gO (aG lL (ag 3) (fC (.int 2147483647))) (aG dQ (ag 0) (fC (.int 1)))) (fC (.int 8191))) (ag 1))))))
def kX:List D->Dm D:=gs 4 Ew
def uK:Stmt:=top 41
theorem Io:aD ["_law_feed_here","_law_many","_law_digit","_law_one"] ["_law_feed_here","_law_many"] (av uK):=⟨rfl,rfl,rfl,by w_fin,rfl,by w_fin,by w_fin⟩
theorem RN {f:Addr} {fd:FuncData} (D:Def K mg "_law_take" uK ["_law_feed_here","_law_many"] f fd) (T:Txt mg)  :aA P w K mg base aY 1 f fd ["_law_feed_here","_law_many"] (bg K 2 kX):=by
 refine D.F.ok Io (fun _ _ _ _ h=>h.1) (fun c A o s H v Q E hr h=>?_)
 refine ⟨_,(@a9 _ _ _ _ _ (@iW _ _ _ _ _ _ _ _ (eZ zW (@bT _ _ _ _ _ _ _ lX (pv 0) aR (fun _ _=>rfl)) aR (aI _)) (@a9 _ _ _ _ _ (@cR (i:=2) _ _ _ _ _ _ Io.nd rfl (by w_up) (dF pZ (@bT _ _ _ _ _ _ _ lX (pv 0) aR (fun _ _=>rfl)) (pv 1)) (by rfl) (by w_up))
  (@a9 _ _ _ _ _ (vh (dF Jp (@bT _ _ _ _ _ _ _ lX (pv 0) aR (fun _ _=>rfl)) (pv 1)) (yA (pv 0) aR yC))
  (@bC _ _ _ (@dP _ _ _ _ (pv 2))))) jK)
  (@a9 _ _ _ _ _ (@cR (i:=3) _ _ _ _ _ _ Io.nd rfl (by w_up) (dF pZ (dF tM (@bT _ _ _ _ _ _ _ lX (pv 0) aR (fun _ _=>rfl)) aR) aR) (by rfl) (by w_up))
  (@a9 _ _ _ _ _ (vh (dF nB (dF pZ (dF nB (dF tM (pv 3) aR) aR) aR) aR) (yA (pv 0) aR yC))
  (@bC _ _ _ (@dP _ _ _ _ (dF pZ (dF Jp (dF nB (dF tM (pv 3) aR) (@bT _ _ _ _ _ _ _ lX (pv 0) aR (fun _ _=>rfl))) aR) (pv 1))))))),?_⟩
 exact gX (b:=Ew) (bh (iZ (eX (aH Bq (aH lh (ai 0) (aS _)) (aS _))) (bh (ck (aH p6 (aH lh (ai 0) (aS _)) (ai 1)) (a5 2))
  (bh (ck (aH Lh (aH lh (ai 0) (aS _)) (ai 1)) (yV (ai 0) (aS _)))
  (dR (ai 2)))) jP)
  (bh (ck (aH p6 (aH uu (aH lh (ai 0) (aS _)) (aS _)) (aS _)) (a5 3))
  (bh (ck (aH nH (aH p6 (aH nH (aH uu (ai 3) (aS _)) (aS _)) (aS _)) (aS _)) (yV (ai 0) (aS _)))
  (dR (aH p6 (aH Lh (aH nH (aH uu (ai 3) (aS _)) (aH lh (ai 0) (aS _))) (aS _)) (ai 1)))))) rfl h
def Ey:aj->Dm Fl :=
 (aB (aL (aM eO (ae (aM jq (ae (ag 1) ah)) ah)) (hName 2))
 (aB (aL (dC ah) (hName 3))
 (aB (i3 (aC (aG (eN true) (ag 2) (dI ah))) (aL (aG lO (ag 3) (dC (ae (mG "list" kH (ag 2) (ae (aM kX (ae (ag 0) (ae (aM cT (ae (ag 2) ah)) ah))) ah)) ah))) (hName 3)))
 (aU (ag 3)))))
def rO:List D->Dm D:=gs 4 Ey
def zb:Stmt:=top 42
theorem Ez:aD ["_law_feed_here","_law_n","_law_left","_law_found"] ["_law_feed_here","_law_n"] (av zb):=⟨rfl,rfl,rfl,by w_fin,rfl,by w_fin,by w_fin⟩
theorem RO {f:Addr} {fd:FuncData} (D:Def K mg "_law_turning" zb ["_law_feed_here","_law_n"] f fd) (T:Txt mg)  {bj:Addr} {bp:FuncData} (aO:Def K mg "_law_take" uK ["_law_feed_here","_law_many"] bj bp) (aP:aA P w K mg base aY 1 bj bp ["_law_feed_here","_law_many"] (bg K 2 kX)):aA P w K mg base aY 2 f fd ["_law_feed_here","_law_n"] (bg K 2 rO):=by
 refine D.F.ok Ez (fun _ _ _ _ h=>h.1) (fun c A o s H v Q E hr h=>?_)
 have hu:=hr.units
 refine ⟨_,(@a9 _ _ _ _ _ (@cR (i:=2) _ _ _ _ _ _ Ez.nd rfl (by w_up) (g7 (sd rfl) (by rfl) T.eU p4 (@ao _ _ _ _ _ (g7 Gs (by rfl) T.aW sa (@ao _ _ _ _ _ (pv 1) ay (by rfl))) ay (by rfl))) (by rfl) (by w_up))
  (@a9 _ _ _ _ _ (@cR (i:=3) _ _ _ _ _ _ Ez.nd rfl (by w_up) (@kA _ _ _ _ _ ay) (by rfl) (by w_up))
  (@a9 _ _ _ _ _ (yB PassesOwn.never (eZ (t6 hu) (pv 2) (@kY _ _ _ _ ay) (aI _)) (@bC _ _ _ (@cR (i:=3) _ _ _ _ _ _ Ez.nd rfl (by w_up) (dF DH (pv 3) (@kA _ _ _ _ _ (@ao _ _ _ _ _ (oU PySem.F.plainAttrs_list PySem.F.slot_list_pop PySem.F.type_list_pop Nz (pv 2) (@ao _ _ _ _ _ (cb aP aO hr (by decide) rfl (@ao _ _ _ _ _ (pv 0) (@ao _ _ _ _ _ (jl jM (by rfl) T.bJ jN (@ao _ _ _ _ _ (pv 2) ay (by rfl))) ay (by rfl)) (by rfl))) ay (by rfl))) ay (by rfl)))) (by rfl) (by w_up))))
  (@bC _ _ _ (@dP _ _ _ _ (pv 3)))))),?_⟩
 exact gX (b:=Ey) (bh (ck (cO sM (au (cO Hw (au (ai 1) az)) az)) (a5 2))
  (bh (ck (kG az) (a5 3))
  (bh (yW (eX (aH (p7 true) (ai 2) (lb az))) (ck (aH Ed (ai 3) (kG (au (oi P7 (ai 2) (au (b8 (F:=kX) (au (ai 0) (au (cO jO (au (ai 2) az)) az)) dO) az)) az))) (a5 3)))
  (dR (ai 3))))) rfl h
def EA:aj->Dm Fl :=
 (aB (aL (dI (ae (fC (.int 0)) ah)) (hName 1))
 (aB (eQ (cn (ae (aG gO (fC (.int 1)) (aM cT (ae (aG aN (ag 0) (fC (.int 0))) ah))) ah)) (hName 2) (eQ (eC (ag 0)) (hName 3) (eQ (mX (aM mF (ae (ag 1) ah))) (hName 4) (fV (aC (aG (qN true) (aG aN (ag 3) (ag 4)) (ag 1))) (fX (mG "list" cM (ag 1) (ae (aG aN (ag 3) (ag 4)) ah))) aX))))
 (aU (ag 1))))
def sT:List D->Dm D:=gs 5 EA
def Ce:Stmt:=top 43
theorem Cf:aD ["_law_floor_here","_law_found","_law_turn","_law_turning_here","_law_one"] ["_law_floor_here"] (av Ce):=⟨rfl,rfl,rfl,by w_fin,rfl,by w_fin,by w_fin⟩
theorem RP {f:Addr} {fd:FuncData} (D:Def K mg "_law_met" Ce ["_law_floor_here"] f fd) (T:Txt mg)  :aA P w K mg base aY 1 f fd ["_law_floor_here"] (bg K 1 sT):=by
 refine D.F.ok Cf (fun _ _ _ _ h=>h.1) (fun c A o s H v Q E hr h=>?_)
 refine ⟨_,(@a9 _ _ _ _ _ (@cR (i:=1) _ _ _ _ _ _ Cf.nd rfl (by w_up) (@kY _ _ _ _ (@ao _ _ _ _ _ aR ay (by rfl))) (by rfl) (by w_up))
  (@a9 _ _ _ _ _ (@mx _ _ _ _ _ _ _ _ PassesOwn.never rfl (ot rfl T.aW (@ao _ _ _ _ _ (dF nB aR (jl jM (by rfl) T.bJ jN (@ao _ _ _ _ _ (@bT _ _ _ _ _ _ _ eu (pv 0) aR (fun _ _=>rfl)) ay (by rfl)))) ay (by rfl))) (gI (i:=2) Cf.nd rfl (by w_up)) (@bC _ _ _ (@mx _ _ _ _ _ _ _ _ PassesOwn.never rfl (pH (pv 0)) (gI (i:=3) Cf.nd rfl (by w_up)) (@bC _ _ _ (@mx _ _ _ _ _ _ _ _ PassesOwn.never rfl (Nf (g7 Gh (by rfl) T.eU p4 (@ao _ _ _ _ _ (pv 1) ay (by rfl)))) (gI (i:=4) Cf.nd rfl (by w_up)) (@bC _ _ _ (@iW _ _ _ _ _ _ _ _ (eZ Gg (@bT _ _ _ _ _ _ _ eu (pv 3) (pv 4) (fun _ _=>rfl)) (pv 1) (by with_unfolding_all rfl)) (@bC _ _ _ (qe (oU PySem.F.plainAttrs_list PySem.F.slot_list_append PySem.F.type_list_append qj (pv 1) (@ao _ _ _ _ _ (@bT _ _ _ _ _ _ _ eu (pv 3) (pv 4) (fun _ _=>rfl)) ay (by rfl))))) jK)) (by intro _;rfl))) (by intro _;rfl))) (by intro _;rfl))
  (@bC _ _ _ (@dP _ _ _ _ (pv 1))))),?_⟩
 exact gX (b:=EA) (bh (ck (lb (au (aS _) az)) (a5 1))
  (bh (mH (oG (au (aH nH (aS _) (cO jO (au (aH dB (ai 0) (aS _)) az))) az)) (a5 2) (mH (pR (ai 0)) (a5 3) (mH (P9 (cO Hv (au (ai 1) az))) (a5 4) (iZ (eX (aH (Ef true) (aH dB (ai 3) (ai 4)) (ai 1))) (qP (oi qO (ai 1) (au (aH dB (ai 3) (ai 4)) az))) jP))))
  (dR (ai 1)))) rfl h
def EB:aj->Dm Fl :=
 (aB (aL (aM kX (ae (ag 0) (ae (fC (.int 6)) ah))) (hName 2))
 (aB (pQ 3 4 (ae (aM mF (ae (aM rO (ae (ag 0) (ae (ag 1) ah))) ah)) (ae (aM mF (ae (aM rO (ae (ag 0) (ae (ag 1) ah))) ah)) ah)))
 (aB (fV (aC (aG (iY false) (ag 2) (fC (.int 0)))) (aL (aG mj (aM eO (ae (aM e8 (ae (fC (.int 1)) (ae (ag 1) ah))) ah)) (dI (ae (fC (.int 0)) ah))) (hName 3)) aX)
 (aB (fV (aC (aG (iY false) (ag 2) (fC (.int 1)))) (pQ 3 4 (ae (aM eO (ae (aM jq (ae (ag 1) ah)) ah)) (ae (aG mj (aM eO (ae (aM e8 (ae (fC (.int 1)) (ae (ag 1) ah))) ah)) (dI (ae (fC (.int 0)) ah))) ah))) aX)
 (aB (fV (aC (aG (iY false) (ag 2) (fC (.int 2)))) (aB (aL (aG gO (fC (.int 1)) (aM kX (ae (ag 0) (ae (ag 1) ah)))) (hName 5))
 (aB (aL (aG mj (aG mj (aM eO (ae (aM e8 (ae (fC (.int 1)) (ae (ag 5) ah))) ah)) (dI (ae (fC (.int 0)) ah))) (aM eO (ae (aM e8 (ae (ag 5) (ae (ag 1) ah))) ah))) (hName 3))
 (aB (aL (wz pO (aG mj (aG mj (aG mj (dI (ae (ag 5) ah)) (aM eO (ae (aM e8 (ae (fC (.int 1)) (ae (ag 5) ah))) ah))) (aM eO (ae (aM e8 (ae (aG gO (ag 5) (fC (.int 1))) (ae (ag 1) ah))) ah))) (dI (ae (fC (.int 0)) ah))) kj (kW (ag 1))) (hName 4))
 (fV (aC (aG (iY false) (ag 5) (ag 1))) (aL (aM eO (ae (aM jq (ae (ag 1) ah)) ah)) (hName 4)) aX)))) aX)
 (aB (aL (dC (ae (aM bU (ae (ag 3) ah)) (ae (aM bU (ae (ag 4) ah)) ah))) (hName 6))
 (aB (aL (c6 (cn (ae (ag 1) ah)) 1 [6] (hName 0) (aC (aG (qN true) (ag 0) (aM sT (ae (ag 1) ah)))) (ag 0)) (hName 7))
 (aB (i3 (aC (aG (eN true) (ag 7) (dI ah))) (aB (aL (aG dQ (ag 7) (fC (.int 0))) (hName 8))
 (aB (aL (dC (ae (aG dQ (ag 3) (ag 8)) (ae (aG dQ (ag 3) (fC (.int 0))) ah))) (mW 2 (fW (hSub (ag 3) (fC (.int 0))) (fW (hSub (ag 3) (ag 8)) nY))))
 (aB (aL (dC (ae (aM bU (ae (ag 3) ah)) (ae (aM bU (ae (ag 4) ah)) ah))) (hName 6))
 (aL (c6 (cn (ae (ag 1) ah)) 1 [6] (hName 0) (aC (aG (qN true) (ag 0) (aM sT (ae (ag 1) ah)))) (ag 0)) (hName 7))))))
 (aU (ag 6))))))))))
def xU:List D->Dm D:=gs 9 EB
def Ci:Stmt:=top 44
theorem pq:aD ["_law_feed_here","_law_n","_law_form","_law_right","_law_up","_law_wide","_law_found","_law_apart","_law_m"] ["_law_feed_here","_law_n"] (av Ci):=⟨rfl,rfl,rfl,by w_fin,rfl,by w_fin,by w_fin⟩
theorem RQ {f:Addr} {fd:FuncData} (D:Def K mg "_law_floor" Ci ["_law_feed_here","_law_n"] f fd) (T:Txt mg)  {bj:Addr} {bp:FuncData} (aO:Def K mg "_law_take" uK ["_law_feed_here","_law_many"] bj bp) (aP:aA P w K mg base aY 1 bj bp ["_law_feed_here","_law_many"] (bg K 2 kX)) {bW:Addr} {bX:FuncData} (bK:Def K mg "_law_turning" zb ["_law_feed_here","_law_n"] bW bX) (bY:aA P w K mg base aY 2 bW bX ["_law_feed_here","_law_n"] (bg K 2 rO)) {jr:Addr} {jt:FuncData} (gR:Def K mg "_law_met" Ce ["_law_floor_here"] jr jt) (ju:aA P w K mg base aY 1 jr jt ["_law_floor_here"] (bg K 1 sT)):aA P w K mg base aY 3 f fd ["_law_feed_here","_law_n"] (bg K 2 xU):=by
 refine D.F.ok pq (fun _ _ _ _ h=>h.1) (fun c A o s H v Q E hr h=>?_)
 have hu:=hr.units
 refine ⟨_,(@a9 _ _ _ _ _ (@cR (i:=2) _ _ _ _ _ _ pq.nd rfl (by w_up) (cb aP aO hr (by decide) rfl (@ao _ _ _ _ _ (pv 0) (@ao _ _ _ _ _ aR ay (by rfl)) (by rfl))) (by rfl) (by w_up))
  (@a9 _ _ _ _ _ (FW (i:=3) (j:=4) rfl pq.nd rfl rfl (by decide) rfl rfl (@ao _ _ _ _ _ (g7 Gh (by rfl) T.eU p4 (@ao _ _ _ _ _ (cb bY bK hr (by decide) rfl (@ao _ _ _ _ _ (pv 0) (@ao _ _ _ _ _ (pv 1) ay (by rfl)) (by rfl))) ay (by rfl))) (@ao _ _ _ _ _ (g7 Gh (by rfl) T.eU p4 (@ao _ _ _ _ _ (cb bY bK hr (by decide) rfl (@ao _ _ _ _ _ (pv 0) (@ao _ _ _ _ _ (pv 1) ay (by rfl)) (by rfl))) ay (by rfl))) ay (by rfl)) (by rfl)) rfl)
  (@a9 _ _ _ _ _ (@iW _ _ _ _ _ _ _ _ (eZ nQ (pv 2) aR (aI _)) (@bC _ _ _ (@cR (i:=3) _ _ _ _ _ _ pq.nd rfl (by w_up) (dF vF (g7 (sd rfl) (by rfl) T.eU p4 (@ao _ _ _ _ _ (g7 yE (by rfl) T.aW sa (@ao _ _ _ _ _ aR (@ao _ _ _ _ _ (pv 1) ay (by rfl)) (by rfl))) ay (by rfl))) (@kY _ _ _ _ (@ao _ _ _ _ _ aR ay (by rfl)))) (by rfl) (by w_up))) jK)
  (@a9 _ _ _ _ _ (@iW _ _ _ _ _ _ _ _ (eZ nQ (pv 2) aR (aI _)) (@bC _ _ _ (FW (i:=3) (j:=4) rfl pq.nd rfl rfl (by decide) rfl rfl (@ao _ _ _ _ _ (g7 (sd rfl) (by rfl) T.eU p4 (@ao _ _ _ _ _ (g7 Gs (by rfl) T.aW sa (@ao _ _ _ _ _ (pv 1) ay (by rfl))) ay (by rfl))) (@ao _ _ _ _ _ (dF vF (g7 (sd rfl) (by rfl) T.eU p4 (@ao _ _ _ _ _ (g7 yE (by rfl) T.aW sa (@ao _ _ _ _ _ aR (@ao _ _ _ _ _ (pv 1) ay (by rfl)) (by rfl))) ay (by rfl))) (@kY _ _ _ _ (@ao _ _ _ _ _ aR ay (by rfl)))) ay (by rfl)) (by rfl)) rfl)) jK)
  (@a9 _ _ _ _ _ (@iW _ _ _ _ _ _ _ _ (eZ nQ (pv 2) aR (aI _)) (@a9 _ _ _ _ _ (@cR (i:=5) _ _ _ _ _ _ pq.nd rfl (by w_up) (dF nB aR (cb aP aO hr (by decide) rfl (@ao _ _ _ _ _ (pv 0) (@ao _ _ _ _ _ (pv 1) ay (by rfl)) (by rfl)))) (by rfl) (by w_up))
  (@a9 _ _ _ _ _ (@cR (i:=3) _ _ _ _ _ _ pq.nd rfl (by w_up) (dF vF (dF vF (g7 (sd rfl) (by rfl) T.eU p4 (@ao _ _ _ _ _ (g7 yE (by rfl) T.aW sa (@ao _ _ _ _ _ aR (@ao _ _ _ _ _ (pv 5) ay (by rfl)) (by rfl))) ay (by rfl))) (@kY _ _ _ _ (@ao _ _ _ _ _ aR ay (by rfl)))) (g7 (sd rfl) (by rfl) T.eU p4 (@ao _ _ _ _ _ (g7 yE (by rfl) T.aW sa (@ao _ _ _ _ _ (pv 5) (@ao _ _ _ _ _ (pv 1) ay (by rfl)) (by rfl))) ay (by rfl)))) (by rfl) (by w_up))
  (@a9 _ _ _ _ _ (@cR (i:=4) _ _ _ _ _ _ pq.nd rfl (by w_up) (DC Gb (dF vF (dF vF (dF vF (@kY _ _ _ _ (@ao _ _ _ _ _ (pv 5) ay (by rfl))) (g7 (sd rfl) (by rfl) T.eU p4 (@ao _ _ _ _ _ (g7 yE (by rfl) T.aW sa (@ao _ _ _ _ _ aR (@ao _ _ _ _ _ (pv 5) ay (by rfl)) (by rfl))) ay (by rfl)))) (g7 (sd rfl) (by rfl) T.eU p4 (@ao _ _ _ _ _ (g7 yE (by rfl) T.aW sa (@ao _ _ _ _ _ (dF nB (pv 5) aR) (@ao _ _ _ _ _ (pv 1) ay (by rfl)) (by rfl))) ay (by rfl)))) (@kY _ _ _ _ (@ao _ _ _ _ _ aR ay (by rfl)))) F8 (Ab (pv 1))) (by rfl) (by w_up))
  (@bC _ _ _ (@iW _ _ _ _ _ _ _ _ (eZ nQ (pv 5) (pv 1) (aI _)) (@bC _ _ _ (@cR (i:=4) _ _ _ _ _ _ pq.nd rfl (by w_up) (g7 (sd rfl) (by rfl) T.eU p4 (@ao _ _ _ _ _ (g7 Gs (by rfl) T.aW sa (@ao _ _ _ _ _ (pv 1) ay (by rfl))) ay (by rfl))) (by rfl) (by w_up))) jK))))) jK)
  (@a9 _ _ _ _ _ (@cR (i:=6) _ _ _ _ _ _ pq.nd rfl (by w_up) (@kA _ _ _ _ _ (@ao _ _ _ _ _ (g7 nC (by rfl) T.bP nD (@ao _ _ _ _ _ (pv 3) ay (by rfl))) (@ao _ _ _ _ _ (g7 nC (by rfl) T.bP nD (@ao _ _ _ _ _ (pv 4) ay (by rfl))) ay (by rfl)) (by rfl))) (by rfl) (by w_up))
  (@a9 _ _ _ _ _ (GI (i:=7) (own:=["_law_s"]) (fr:=["_law_found"]) (js:=[6]) rfl pq.nd rfl rfl ⟨⟨rfl,by w_fin,by w_fin,by dsimp only [gn,aQ,Cx.mw,Cx.wish,PyProof.Rows.envOfC,compEnvC,relabel,Env.kindOf];decide +kernel,by w_fin⟩,rfl⟩ (ot rfl T.aW (@ao _ _ _ _ _ (pv 1) ay (by rfl))) (fun _ _ _ _ _=>(gI (i:=0) (show ((["_law_s"]:List Str) ++ (["_law_found"]:List Str)).Nodup by w_fin) rfl (by w_up))) (fun _ _ _ _ _=>(DI (eZ (J5 (K:=K) rfl) (pv 0) (cb ju gR hr (by decide) rfl (@ao _ _ _ _ _ (pv 1) ay (by rfl))) (by with_unfolding_all rfl)))) (fun _ _ _ _ _=>(pv 0)))
  (@a9 _ _ _ _ _ (yB PassesOwn.never (eZ (t6 hu) (pv 7) (@kY _ _ _ _ ay) (aI _)) (@a9 _ _ _ _ _ (@cR (i:=8) _ _ _ _ _ _ pq.nd rfl (by w_up) (@bT _ _ _ _ _ _ _ lX (pv 7) aR (fun _ _=>rfl)) (by rfl) (by w_up))
  (@a9 _ _ _ _ _ (vh (@kA _ _ _ _ _ (@ao _ _ _ _ _ (@bT _ _ _ _ _ _ _ lX (pv 3) (pv 8) (fun _ _=>rfl)) (@ao _ _ _ _ _ (@bT _ _ _ _ _ _ _ lX (pv 3) aR (fun _ _=>rfl)) ay (by rfl)) (by rfl))) (yz (n:=2) rfl (pY (yA (pv 3) aR yC) (pY (yA (pv 3) (pv 8) yC) yy))))
  (@a9 _ _ _ _ _ (@cR (i:=6) _ _ _ _ _ _ pq.nd rfl (by w_up) (@kA _ _ _ _ _ (@ao _ _ _ _ _ (g7 nC (by rfl) T.bP nD (@ao _ _ _ _ _ (pv 3) ay (by rfl))) (@ao _ _ _ _ _ (g7 nC (by rfl) T.bP nD (@ao _ _ _ _ _ (pv 4) ay (by rfl))) ay (by rfl)) (by rfl))) (by rfl) (by w_up))
  (@bC _ _ _ (GI (i:=7) (own:=["_law_s"]) (fr:=["_law_found"]) (js:=[6]) rfl pq.nd rfl rfl ⟨⟨rfl,by w_fin,by w_fin,by dsimp only [gn,aQ,Cx.mw,Cx.wish,PyProof.Rows.envOfC,compEnvC,relabel,Env.kindOf];decide +kernel,by w_fin⟩,rfl⟩ (ot rfl T.aW (@ao _ _ _ _ _ (pv 1) ay (by rfl))) (fun _ _ _ _ _=>(gI (i:=0) (show ((["_law_s"]:List Str) ++ (["_law_found"]:List Str)).Nodup by w_fin) rfl (by w_up))) (fun _ _ _ _ _=>(DI (eZ (J5 (K:=K) rfl) (pv 0) (cb ju gR hr (by decide) rfl (@ao _ _ _ _ _ (pv 1) ay (by rfl))) (by with_unfolding_all rfl)))) (fun _ _ _ _ _=>(pv 0))))))))
  (@bC _ _ _ (@dP _ _ _ _ (pv 6))))))))))),?_⟩
 exact gX (b:=EB) (bh (ck (b8 (F:=kX) (au (ai 0) (au (aS _) az)) dO) (a5 2))
  (bh (Hy (au (cO Hv (au (b8 (F:=rO) (au (ai 0) (au (ai 1) az)) dO) az)) (au (cO Hv (au (b8 (F:=rO) (au (ai 0) (au (ai 1) az)) dO) az)) az)))
  (bh (iZ (eX (aH nX (ai 2) (aS _))) (ck (aH wM (cO sM (au (cO yS (au (aS _) (au (ai 1) az))) az)) (lb (au (aS _) az))) (a5 3)) jP)
  (bh (iZ (eX (aH nX (ai 2) (aS _))) (Hy (au (cO sM (au (cO Hw (au (ai 1) az)) az)) (au (aH wM (cO sM (au (cO yS (au (aS _) (au (ai 1) az))) az)) (lb (au (aS _) az))) az))) jP)
  (bh (iZ (eX (aH nX (ai 2) (aS _))) (bh (ck (aH nH (aS _) (b8 (F:=kX) (au (ai 0) (au (ai 1) az)) dO)) (a5 5))
  (bh (ck (aH wM (aH wM (cO sM (au (cO yS (au (aS _) (au (ai 5) az))) az)) (lb (au (aS _) az))) (cO sM (au (cO yS (au (ai 5) (au (ai 1) az))) az))) (a5 3))
  (bh (ck (D9 Hu (aH wM (aH wM (aH wM (lb (au (ai 5) az)) (cO sM (au (cO yS (au (aS _) (au (ai 5) az))) az))) (cO sM (au (cO yS (au (aH nH (ai 5) (aS _)) (au (ai 1) az))) az))) (lb (au (aS _) az))) Hr (Bn (ai 1))) (a5 4))
  (iZ (eX (aH nX (ai 5) (ai 1))) (ck (cO sM (au (cO Hw (au (ai 1) az)) az)) (a5 4)) jP)))) jP)
  (bh (ck (kG (au (cO nI (au (ai 3) az)) (au (cO nI (au (ai 4) az)) az))) (a5 6))
  (bh (ck (pe (oG (au (ai 1) az)) (a5 0) (eX (aH (Ef true) (ai 0) (b8 (F:=sT) (au (ai 1) az) ng))) (ai 0)) (a5 7))
  (bh (yW (eX (aH (p7 true) (ai 7) (lb az))) (bh (ck (aH lh (ai 7) (aS _)) (a5 8))
  (bh (ck (kG (au (aH lh (ai 3) (ai 8)) (au (aH lh (ai 3) (aS _)) az))) (yU (p8 (yV (ai 3) (aS _)) (p8 (yV (ai 3) (ai 8)) yT))))
  (bh (ck (kG (au (cO nI (au (ai 3) az)) (au (cO nI (au (ai 4) az)) az))) (a5 6))
  (ck (pe (oG (au (ai 1) az)) (a5 0) (eX (aH (Ef true) (ai 0) (b8 (F:=sT) (au (ai 1) az) ng))) (ai 0)) (a5 7))))))
  (dR (ai 6)))))))))) rfl h
def EC:aj->Dm Fl :=
 (aB (aL (aG qM (dI (ae (fC (.int 0)) ah)) (aM cT (ae (ag 0) ah))) (hName 1))
 (aB (eQ (kI (ae (ag 0) ah)) (mW 2 (fW (hName 2) (fW (hName 3) nY))) (aL (ag 2) (hSub (ag 1) (ag 3))))
 (aU (aM bU (ae (ag 1) ah)))))
def rh:List D->Dm D:=gs 4 EC
def xV:Stmt:=top 5
theorem ED:aD ["turning","back","number","led"] ["turning"] (av xV):=⟨rfl,rfl,rfl,by w_fin,rfl,by w_fin,by w_fin⟩
theorem RS {f:Addr} {fd:FuncData} (D:Def K mg "turned_back" xV ["turning"] f fd) (T:Txt mg)  :aA P w K mg base aY 1 f fd ["turning"] (bg K 1 rh):=by
 refine D.F.ok ED (fun _ _ _ _ h=>h.1) (fun c A o s H v Q E hr h=>?_)
 refine ⟨_,(@a9 _ _ _ _ _ (@cR (i:=1) _ _ _ _ _ _ ED.nd rfl (by w_up) (dF JO (@kY _ _ _ _ (@ao _ _ _ _ _ aR ay (by rfl))) (jl jM (by rfl) T.bJ jN (@ao _ _ _ _ _ (pv 0) ay (by rfl)))) (by rfl) (by w_up))
  (@a9 _ _ _ _ _ (@mx _ _ _ _ _ _ _ _ PassesOwn.never rfl (GN rfl T.i6 (@ao _ _ _ _ _ (pv 0) ay (by rfl))) (yz (n:=2) rfl (pY (gI (i:=2) ED.nd rfl (by w_up)) (pY (gI (i:=3) ED.nd rfl (by w_up)) yy))) (@bC _ _ _ (vh (pv 2) (yA (pv 1) (pv 3) yC))) (by intro _;rfl))
  (@bC _ _ _ (@dP _ _ _ _ (g7 nC (by rfl) T.bP nD (@ao _ _ _ _ _ (pv 1) ay (by rfl))))))),?_⟩
 exact gX (b:=EC) (bh (ck (aH Lp (lb (au (aS _) az)) (cO jO (au (ai 0) az))) (a5 1))
  (bh (mH (HA (au (ai 0) az)) (yU (p8 (a5 2) (p8 (a5 3) yT))) (ck (ai 2) (yV (ai 1) (ai 3))))
  (dR (cO nI (au (ai 1) az))))) rfl h
def EE:aj->Dm Fl :=
 (aU (aM bU (ae (c6 (eC (ag 0)) 1 [1] (hName 0) eY (aG aN (ag 1) (ag 0))) ah)))
def n9:List D->Dm D:=gs 2 EE
def xW:Stmt:=top 4
theorem RT:aD ["one","other"] ["one","other"] (av xW):=⟨rfl,rfl,rfl,by w_fin,rfl,by w_fin,by w_fin⟩
theorem RU {f:Addr} {fd:FuncData} (D:Def K mg "followed" xW ["one","other"] f fd) (T:Txt mg)  :aA P w K mg base aY 1 f fd ["one","other"] (bg K 2 n9):=by
 refine D.F.ok RT (fun _ _ _ _ h=>h.1) (fun c A o s H v Q E hr h=>?_)
 refine ⟨_,(@bC _ _ _ (@dP _ _ _ _ (g7 nC (by rfl) T.bP nD (@ao _ _ _ _ _ (qx (own:=["number"]) (fr:=["other"]) (js:=[1]) rfl ⟨⟨rfl,by w_fin,by w_fin,by dsimp only [gn,aQ,Cx.mw,Cx.wish,PyProof.Rows.envOfC,compEnvC,relabel,Env.kindOf];decide +kernel,by w_fin⟩,rfl⟩ (pH (pv 0)) (fun _ _ _ _ _=>(gI (i:=0) (show ((["number"]:List Str) ++ (["other"]:List Str)).Nodup by w_fin) rfl (by w_up))) (fun _ _ _ _ _=>rD) (fun _ _ _ _ _=>(@bT _ _ _ _ _ _ _ (rE (K:=K) rfl) (pv 1) (pv 0) (fun _ _=>rfl)))) ay (by rfl))))),?_⟩
 exact gX (b:=EE) (dR (cO nI (au (pe (pR (ai 0)) (a5 0) rL (aH dB (ai 1) (ai 0))) az))) rfl h
def EF:aj->Dm Fl :=
 (aB (aL (aM rh (ae (ag 1) ah)) (hName 2))
 (aB (aL (aM n9 (ae (aM n9 (ae (ag 2) (ae (aG aN (ag 0) (fC (.int 0))) ah))) (ae (ag 1) ah))) (hName 3))
 (aB (aL (aM n9 (ae (aM n9 (ae (ag 2) (ae (aG aN (ag 0) (fC (.int 1))) ah))) (ae (ag 1) ah))) (hName 4))
 (aU (dC (ae (ag 3) (ae (ag 4) ah)))))))
def uL:List D->Dm D:=gs 5 EF
def zc:Stmt:=top 12
theorem EG:aD ["floor","p","back","right","up"] ["floor","p"] (av zc):=⟨rfl,rfl,rfl,by w_fin,rfl,by w_fin,by w_fin⟩
theorem RV {f:Addr} {fd:FuncData} (D:Def K mg "called_anew" zc ["floor","p"] f fd) (T:Txt mg)  {br:Addr} {bu:FuncData} (bw:Def K mg "turned_back" xV ["turning"] br bu) (bI:aA P w K mg base aY 1 br bu ["turning"] (bg K 1 rh)) {cz:Addr} {cB:FuncData} (bL:Def K mg "followed" xW ["one","other"] cz cB) (bR:aA P w K mg base aY 1 cz cB ["one","other"] (bg K 2 n9)):aA P w K mg base aY 2 f fd ["floor","p"] (bg K 2 uL):=by
 refine D.F.ok EG (fun _ _ _ _ h=>h.1) (fun c A o s H v Q E hr h=>?_)
 refine ⟨_,(@a9 _ _ _ _ _ (@cR (i:=2) _ _ _ _ _ _ EG.nd rfl (by w_up) (cb bI bw hr (by decide) rfl (@ao _ _ _ _ _ (pv 1) ay (by rfl))) (by rfl) (by w_up))
  (@a9 _ _ _ _ _ (@cR (i:=3) _ _ _ _ _ _ EG.nd rfl (by w_up) (cb bR bL hr (by decide) rfl (@ao _ _ _ _ _ (cb bR bL hr (by decide) rfl (@ao _ _ _ _ _ (pv 2) (@ao _ _ _ _ _ (@bT _ _ _ _ _ _ _ eu (pv 0) aR (fun _ _=>rfl)) ay (by rfl)) (by rfl))) (@ao _ _ _ _ _ (pv 1) ay (by rfl)) (by rfl))) (by rfl) (by w_up))
  (@a9 _ _ _ _ _ (@cR (i:=4) _ _ _ _ _ _ EG.nd rfl (by w_up) (cb bR bL hr (by decide) rfl (@ao _ _ _ _ _ (cb bR bL hr (by decide) rfl (@ao _ _ _ _ _ (pv 2) (@ao _ _ _ _ _ (@bT _ _ _ _ _ _ _ eu (pv 0) aR (fun _ _=>rfl)) ay (by rfl)) (by rfl))) (@ao _ _ _ _ _ (pv 1) ay (by rfl)) (by rfl))) (by rfl) (by w_up))
  (@bC _ _ _ (@dP _ _ _ _ (@kA _ _ _ _ _ (@ao _ _ _ _ _ (pv 3) (@ao _ _ _ _ _ (pv 4) ay (by rfl)) (by rfl)))))))),?_⟩
 exact gX (b:=EF) (bh (ck (b8 (F:=rh) (au (ai 1) az) ng) (a5 2))
  (bh (ck (b8 (F:=n9) (au (b8 (F:=n9) (au (ai 2) (au (aH dB (ai 0) (aS _)) az)) dO) (au (ai 1) az)) dO) (a5 3))
  (bh (ck (b8 (F:=n9) (au (b8 (F:=n9) (au (ai 2) (au (aH dB (ai 0) (aS _)) az)) dO) (au (ai 1) az)) dO) (a5 4))
  (dR (kG (au (ai 3) (au (ai 4) az))))))) rfl h
def EH:aj->Dm Fl :=
 (aB (aL (dI (ae (ag 1) ah)) (hName 2))
 (aB (aL (fC (.int 0)) (hName 3))
 (aB (i3 (aC (aG wG (ag 3) (aM cT (ae (ag 2) ah)))) (aB (eQ (eC (ag 0)) (hName 4) (aB (aL (aG aN (ag 4) (aG dQ (ag 2) (ag 3))) (hName 5))
 (fV (aC (aG (qN true) (ag 5) (ag 2))) (fX (mG "list" cM (ag 2) (ae (ag 5) ah))) aX)))
 (aL (aG gO (ag 3) (fC (.int 1))) (hName 3))))
 (aU (aM bU (ae (ag 2) ah))))))
def uM:List D->Dm D:=gs 6 EH
def zd:Stmt:=top 10
theorem ze:aD ["floor","s","squares","place","turning","reached"] ["floor","s"] (av zd):=⟨rfl,rfl,rfl,by w_fin,rfl,by w_fin,by w_fin⟩
theorem RW {f:Addr} {fd:FuncData} (D:Def K mg "squares_from" zd ["floor","s"] f fd) (T:Txt mg)  :aA P w K mg base aY 1 f fd ["floor","s"] (bg K 2 uM):=by
 refine D.F.ok ze (fun _ _ _ _ h=>h.1) (fun c A o s H v Q E hr h=>?_)
 refine ⟨_,(@a9 _ _ _ _ _ (@cR (i:=2) _ _ _ _ _ _ ze.nd rfl (by w_up) (@kY _ _ _ _ (@ao _ _ _ _ _ (pv 1) ay (by rfl))) (by rfl) (by w_up))
  (@a9 _ _ _ _ _ (@cR (i:=3) _ _ _ _ _ _ ze.nd rfl (by w_up) aR (by rfl) (by w_up))
  (@a9 _ _ _ _ _ (yB PassesOwn.never (eZ zU (pv 3) (jl jM (by rfl) T.bJ jN (@ao _ _ _ _ _ (pv 2) ay (by rfl))) (aI _)) (@a9 _ _ _ _ _ (@mx _ _ _ _ _ _ _ _ PassesOwn.never rfl (pH (pv 0)) (gI (i:=4) ze.nd rfl (by w_up)) (@a9 _ _ _ _ _ (@cR (i:=5) _ _ _ _ _ _ ze.nd rfl (by w_up) (@bT _ _ _ _ _ _ _ eu (pv 4) (@bT _ _ _ _ _ _ _ lX (pv 2) (pv 3) (fun _ _=>rfl)) (fun _ _=>rfl)) (by rfl) (by w_up))
  (@bC _ _ _ (@iW _ _ _ _ _ _ _ _ (eZ Gg (pv 5) (pv 2) (by with_unfolding_all rfl)) (@bC _ _ _ (qe (oU PySem.F.plainAttrs_list PySem.F.slot_list_append PySem.F.type_list_append qj (pv 2) (@ao _ _ _ _ _ (pv 5) ay (by rfl))))) jK))) (by intro _;rfl))
  (@bC _ _ _ (@cR (i:=3) _ _ _ _ _ _ ze.nd rfl (by w_up) (dF nB (pv 3) aR) (by rfl) (by w_up)))))
  (@bC _ _ _ (@dP _ _ _ _ (g7 nC (by rfl) T.bP nD (@ao _ _ _ _ _ (pv 2) ay (by rfl)))))))),?_⟩
 exact gX (b:=EH) (bh (ck (lb (au (ai 1) az)) (a5 2))
  (bh (ck (aS _) (a5 3))
  (bh (yW (eX (aH Bo (ai 3) (cO jO (au (ai 2) az)))) (bh (mH (pR (ai 0)) (a5 4) (bh (ck (aH dB (ai 4) (aH lh (ai 2) (ai 3))) (a5 5))
  (iZ (eX (aH (Ef true) (ai 5) (ai 2))) (qP (oi qO (ai 2) (au (ai 5) az))) jP)))
  (ck (aH nH (ai 3) (aS _)) (a5 3))))
  (dR (cO nI (au (ai 2) az)))))) rfl h
def EI:aj->Dm Fl :=
 (aU (aM rh (ae (aM uM (ae (ag 0) (ae (ag 1) ah))) ah)))
def uN:List D->Dm D:=gs 2 EI
def zf:Stmt:=top 13
theorem RX:aD ["floor","s"] ["floor","s"] (av zf):=⟨rfl,rfl,rfl,by w_fin,rfl,by w_fin,by w_fin⟩
theorem RY {f:Addr} {fd:FuncData} (D:Def K mg "numbering_from" zf ["floor","s"] f fd) (T:Txt mg)  {br:Addr} {bu:FuncData} (bw:Def K mg "turned_back" xV ["turning"] br bu) (bI:aA P w K mg base aY 1 br bu ["turning"] (bg K 1 rh)) {bZ:Addr} {b5:FuncData} (b6:Def K mg "squares_from" zd ["floor","s"] bZ b5) (cC:aA P w K mg base aY 1 bZ b5 ["floor","s"] (bg K 2 uM)):aA P w K mg base aY 2 f fd ["floor","s"] (bg K 2 uN):=by
 refine D.F.ok RX (fun _ _ _ _ h=>h.1) (fun c A o s H v Q E hr h=>?_)
 refine ⟨_,(@bC _ _ _ (@dP _ _ _ _ (cb bI bw hr (by decide) rfl (@ao _ _ _ _ _ (cb cC b6 hr (by decide) rfl (@ao _ _ _ _ _ (pv 0) (@ao _ _ _ _ _ (pv 1) ay (by rfl)) (by rfl))) ay (by rfl))))),?_⟩
 exact gX (b:=EI) (dR (b8 (F:=rh) (au (b8 (F:=uM) (au (ai 0) (au (ai 1) az)) dO) az) ng)) rfl h
def EJ:aj->Dm Fl :=
 (aU (aM uL (ae (ag 0) (ae (aM uN (ae (ag 0) (ae (ag 1) ah))) ah))))
def rP:List D->Dm D:=gs 2 EJ
def zg:Stmt:=top 14
theorem RZ:aD ["floor","s"] ["floor","s"] (av zg):=⟨rfl,rfl,rfl,by w_fin,rfl,by w_fin,by w_fin⟩
theorem R0 {f:Addr} {fd:FuncData} (D:Def K mg "numbered_from" zg ["floor","s"] f fd) (T:Txt mg)  {cu:Addr} {cv:FuncData} (cw:Def K mg "called_anew" zc ["floor","p"] cu cv) (cY:aA P w K mg base aY 2 cu cv ["floor","p"] (bg K 2 uL)) {bD:Addr} {bE:FuncData} (bF:Def K mg "numbering_from" zf ["floor","s"] bD bE) (bS:aA P w K mg base aY 2 bD bE ["floor","s"] (bg K 2 uN)):aA P w K mg base aY 3 f fd ["floor","s"] (bg K 2 rP):=by
 refine D.F.ok RZ (fun _ _ _ _ h=>h.1) (fun c A o s H v Q E hr h=>?_)
 refine ⟨_,(@bC _ _ _ (@dP _ _ _ _ (cb cY cw hr (by decide) rfl (@ao _ _ _ _ _ (pv 0) (@ao _ _ _ _ _ (cb bS bF hr (by decide) rfl (@ao _ _ _ _ _ (pv 0) (@ao _ _ _ _ _ (pv 1) ay (by rfl)) (by rfl))) ay (by rfl)) (by rfl))))),?_⟩
 exact gX (b:=EJ) (dR (b8 (F:=uL) (au (ai 0) (au (b8 (F:=uN) (au (ai 0) (au (ai 1) az)) dO) az)) dO)) rfl h
def EK:aj->Dm Fl :=
 (aU (aM lQ (ae (c6 (cn (ae (aM cT (ae (aG aN (ag 0) (fC (.int 0))) ah)) ah)) 1 [0] (hName 0) eY (aM rP (ae (ag 1) (ae (ag 0) ah)))) ah)))
def lZ:List D->Dm D:=gs 1 EK
def sU:Stmt:=top 15
theorem R1:aD ["floor"] ["floor"] (av sU):=⟨rfl,rfl,rfl,by w_fin,rfl,by w_fin,by w_fin⟩
theorem R3 {f:Addr} {fd:FuncData} (D:Def K mg "form_of" sU ["floor"] f fd) (T:Txt mg)  {bM:Addr} {bN:FuncData} (bA:Def K mg "numbered_from" zg ["floor","s"] bM bN) (bO:aA P w K mg base aY 3 bM bN ["floor","s"] (bg K 2 rP)):aA P w K mg base aY 4 f fd ["floor"] (bg K 1 lZ):=by
 refine D.F.ok R1 (fun _ _ _ _ h=>h.1) (fun c A o s H v Q E hr h=>?_)
 have hu:=hr.units
 refine ⟨_,(@bC _ _ _ (@dP _ _ _ _ (jl (OH rfl hu) (by rfl) T.Cb vI (@ao _ _ _ _ _ (qx (own:=["s"]) (fr:=["floor"]) (js:=[0]) rfl ⟨⟨rfl,by w_fin,by w_fin,by dsimp only [gn,aQ,Cx.mw,Cx.wish,PyProof.Rows.envOfC,compEnvC,relabel,Env.kindOf];decide +kernel,by w_fin⟩,rfl⟩ (ot rfl T.aW (@ao _ _ _ _ _ (jl jM (by rfl) T.bJ jN (@ao _ _ _ _ _ (@bT _ _ _ _ _ _ _ eu (pv 0) aR (fun _ _=>rfl)) ay (by rfl))) ay (by rfl))) (fun _ _ _ _ _=>(gI (i:=0) (show ((["s"]:List Str) ++ (["floor"]:List Str)).Nodup by w_fin) rfl (by w_up))) (fun _ _ _ _ _=>rD) (fun _ _ _ _ _=>(cb bO bA hr (by decide) rfl (@ao _ _ _ _ _ (pv 1) (@ao _ _ _ _ _ (pv 0) ay (by rfl)) (by rfl))))) ay (by rfl))))),?_⟩
 exact gX (b:=EK) (dR (cO Rf (au (pe (oG (au (cO jO (au (aH dB (ai 0) (aS _)) az)) az)) (a5 0) rL (b8 (F:=rP) (au (ai 1) (au (ai 0) az)) dO)) az))) rfl h
def EL:aj->Dm Fl :=
 (aB (aL (dI (ae (ag 1) ah)) (hName 2))
 (aB (aL (aG aN (ag 0) (ag 1)) (hName 3))
 (aB (i3 (aC (aG (iY true) (ag 3) (ag 1))) (aB (fX (mG "list" cM (ag 2) (ae (ag 3) ah)))
 (aL (aG aN (ag 0) (ag 3)) (hName 3))))
 (aU (aM bU (ae (ag 2) ah))))))
def Cj:List D->Dm D:=gs 4 EL
def Ck:Stmt:=top 7
theorem EM:aD ["turning","first","ring","reached"] ["turning","first"] (av Ck):=⟨rfl,rfl,rfl,by w_fin,rfl,by w_fin,by w_fin⟩
theorem R4 {f:Addr} {fd:FuncData} (D:Def K mg "ring_from" Ck ["turning","first"] f fd) (T:Txt mg)  :aA P w K mg base aY 1 f fd ["turning","first"] (bg K 2 Cj):=by
 refine D.F.ok EM (fun _ _ _ _ h=>h.1) (fun c A o s H v Q E hr h=>?_)
 refine ⟨_,(@a9 _ _ _ _ _ (@cR (i:=2) _ _ _ _ _ _ EM.nd rfl (by w_up) (@kY _ _ _ _ (@ao _ _ _ _ _ (pv 1) ay (by rfl))) (by rfl) (by w_up))
  (@a9 _ _ _ _ _ (@cR (i:=3) _ _ _ _ _ _ EM.nd rfl (by w_up) (@bT _ _ _ _ _ _ _ eu (pv 0) (pv 1) (fun _ _=>rfl)) (by rfl) (by w_up))
  (@a9 _ _ _ _ _ (yB PassesOwn.never (eZ zT (pv 3) (pv 1) (aI _)) (@a9 _ _ _ _ _ (qe (oU PySem.F.plainAttrs_list PySem.F.slot_list_append PySem.F.type_list_append qj (pv 2) (@ao _ _ _ _ _ (pv 3) ay (by rfl))))
  (@bC _ _ _ (@cR (i:=3) _ _ _ _ _ _ EM.nd rfl (by w_up) (@bT _ _ _ _ _ _ _ eu (pv 0) (pv 3) (fun _ _=>rfl)) (by rfl) (by w_up)))))
  (@bC _ _ _ (@dP _ _ _ _ (g7 nC (by rfl) T.bP nD (@ao _ _ _ _ _ (pv 2) ay (by rfl)))))))),?_⟩
 exact gX (b:=EL) (bh (ck (lb (au (ai 1) az)) (a5 2))
  (bh (ck (aH dB (ai 0) (ai 1)) (a5 3))
  (bh (yW (eX (aH Bs (ai 3) (ai 1))) (bh (qP (oi qO (ai 2) (au (ai 3) az)))
  (ck (aH dB (ai 0) (ai 3)) (a5 3))))
  (dR (cO nI (au (ai 2) az)))))) rfl h
def EN:aj->Dm Fl :=
 (aB (aL (dI ah) (hName 1))
 (aB (aL qT (hName 2))
 (aB (eQ (cn (ae (aM cT (ae (ag 0) ah)) ah)) (hName 3) (fV (aC (sQ true (ag 3) (ag 2))) (aB (aL (aM Cj (ae (ag 0) (ae (ag 3) ah))) (hName 4))
 (aB (fX (mG "list" cM (ag 1) (ae (ag 4) ah)))
 (eQ (eC (ag 4)) (hName 5) (pg (ag 2) (ag 5) (fC (.bl true)))))) aX))
 (aU (aM bU (ae (ag 1) ah))))))
def Cm:List D->Dm D:=gs 6 EN
def Cn:Stmt:=top 8
theorem zh:aD ["turning","rings","seen","first","ring","number"] ["turning"] (av Cn):=⟨rfl,rfl,rfl,by w_fin,rfl,by w_fin,by w_fin⟩
theorem R5 {f:Addr} {fd:FuncData} (D:Def K mg "rings_of" Cn ["turning"] f fd) (T:Txt mg)  {hW:Addr} {ia:FuncData} (ib:Def K mg "ring_from" Ck ["turning","first"] hW ia) (jW:aA P w K mg base aY 1 hW ia ["turning","first"] (bg K 2 Cj)):aA P w K mg base aY 2 f fd ["turning"] (bg K 1 Cm):=by
 refine D.F.ok zh (fun _ _ _ _ h=>h.1) (fun c A o s H v Q E hr h=>?_)
 have hu1:=Ap hr
 refine ⟨_,(@a9 _ _ _ _ _ (@cR (i:=1) _ _ _ _ _ _ zh.nd rfl (by w_up) (@kY _ _ _ _ ay) (by rfl) (by w_up))
  (@a9 _ _ _ _ _ (@cR (i:=2) _ _ _ _ _ _ zh.nd rfl (by w_up) NI (by rfl) (by w_up))
  (@a9 _ _ _ _ _ (@mx _ _ _ _ _ _ _ _ PassesOwn.never rfl (ot rfl T.aW (@ao _ _ _ _ _ (jl jM (by rfl) T.bJ jN (@ao _ _ _ _ _ (pv 0) ay (by rfl))) ay (by rfl))) (gI (i:=3) zh.nd rfl (by w_up)) (@bC _ _ _ (@iW _ _ _ _ _ _ _ _ (vf (NF hu1 (pv 3) (pv 2))) (@a9 _ _ _ _ _ (@cR (i:=4) _ _ _ _ _ _ zh.nd rfl (by w_up) (cb jW ib hr (by decide) rfl (@ao _ _ _ _ _ (pv 0) (@ao _ _ _ _ _ (pv 3) ay (by rfl)) (by rfl))) (by rfl) (by w_up))
  (@a9 _ _ _ _ _ (qe (oU PySem.F.plainAttrs_list PySem.F.slot_list_append PySem.F.type_list_append qj (pv 1) (@ao _ _ _ _ _ (pv 4) ay (by rfl))))
  (@bC _ _ _ (@mx _ _ _ _ _ _ _ _ PassesOwn.never rfl (pH (pv 4)) (gI (i:=5) zh.nd rfl (by w_up)) (@bC _ _ _ (NG hu1 (pv 2) (pv 5) nM rfl)) (by intro _;rfl))))) jK)) (by intro _;rfl))
  (@bC _ _ _ (@dP _ _ _ _ (g7 nC (by rfl) T.bP nD (@ao _ _ _ _ _ (pv 1) ay (by rfl)))))))),?_⟩
 exact gX (b:=EN) (bh (ck (lb az) (a5 1))
  (bh (ck Qv (a5 2))
  (bh (mH (oG (au (cO jO (au (ai 0) az)) az)) (a5 3) (iZ (D6 (Qw (ai 3) (ai 2))) (bh (ck (b8 (F:=Cj) (au (ai 0) (au (ai 3) az)) dO) (a5 4))
  (bh (qP (oi qO (ai 1) (au (ai 4) az)))
  (mH (pR (ai 4)) (a5 5) (Qx (ai 2) (ai 5) (nV _))))) jP))
  (dR (cO nI (au (ai 1) az)))))) rfl h
def EO:aj->Dm Fl :=
 (aB (aL (aG qM (dI (ae (fC (.int 0)) ah)) (aM cT (ae (ag 0) ah))) (hName 2))
 (aB (eQ (eC (aM Cm (ae (ag 0) ah))) (hName 3) (eQ (kI (ae (ag 3) ah)) (mW 2 (fW (hName 4) (fW (hName 5) nY))) (aL (aG aN (ag 3) (aG jU (aG gO (ag 4) (ag 1)) (aM cT (ae (ag 3) ah)))) (hSub (ag 2) (ag 5)))))
 (aU (aM bU (ae (ag 2) ah)))))
def Co:List D->Dm D:=gs 6 EO
def Cp:Stmt:=top 6
theorem Cq:aD ["turning","k","led","ring","place","number"] ["turning","k"] (av Cp):=⟨rfl,rfl,rfl,by w_fin,rfl,by w_fin,by w_fin⟩
theorem R6 {f:Addr} {fd:FuncData} (D:Def K mg "often" Cp ["turning","k"] f fd) (T:Txt mg)  {jv:Addr} {jw:FuncData} (jx:Def K mg "rings_of" Cn ["turning"] jv jw) (kL:aA P w K mg base aY 2 jv jw ["turning"] (bg K 1 Cm)):aA P w K mg base aY 3 f fd ["turning","k"] (bg K 2 Co):=by
 refine D.F.ok Cq (fun _ _ _ _ h=>h.1) (fun c A o s H v Q E hr h=>?_)
 refine ⟨_,(@a9 _ _ _ _ _ (@cR (i:=2) _ _ _ _ _ _ Cq.nd rfl (by w_up) (dF JO (@kY _ _ _ _ (@ao _ _ _ _ _ aR ay (by rfl))) (jl jM (by rfl) T.bJ jN (@ao _ _ _ _ _ (pv 0) ay (by rfl)))) (by rfl) (by w_up))
  (@a9 _ _ _ _ _ (@mx _ _ _ _ _ _ _ _ PassesOwn.never rfl (pH (cb kL jx hr (by decide) rfl (@ao _ _ _ _ _ (pv 0) ay (by rfl)))) (gI (i:=3) Cq.nd rfl (by w_up)) (@bC _ _ _ (@mx _ _ _ _ _ _ _ _ PassesOwn.never rfl (GN rfl T.i6 (@ao _ _ _ _ _ (pv 3) ay (by rfl))) (yz (n:=2) rfl (pY (gI (i:=4) Cq.nd rfl (by w_up)) (pY (gI (i:=5) Cq.nd rfl (by w_up)) yy))) (@bC _ _ _ (vh (@bT _ _ _ _ _ _ _ eu (pv 3) (dF pZ (dF nB (pv 4) (pv 1)) (jl jM (by rfl) T.bJ jN (@ao _ _ _ _ _ (pv 3) ay (by rfl)))) (fun _ _=>rfl)) (yA (pv 2) (pv 5) yC))) (by intro _;rfl))) (by intro _;rfl))
  (@bC _ _ _ (@dP _ _ _ _ (g7 nC (by rfl) T.bP nD (@ao _ _ _ _ _ (pv 2) ay (by rfl))))))),?_⟩
 exact gX (b:=EO) (bh (ck (aH Lp (lb (au (aS _) az)) (cO jO (au (ai 0) az))) (a5 2))
  (bh (mH (pR (b8 (F:=Cm) (au (ai 0) az) ng)) (a5 3) (mH (HA (au (ai 3) az)) (yU (p8 (a5 4) (p8 (a5 5) yT))) (ck (aH dB (ai 3) (aH p6 (aH nH (ai 4) (ai 1)) (cO jO (au (ai 3) az)))) (yV (ai 2) (ai 5)))))
  (dR (cO nI (au (ai 2) az))))) rfl h
def ER:aj->Dm Fl :=
 (aU (dC (ae (aG aN (ag 0) (fC (.int 0))) (ae (aM n9 (ae (aM Co (ae (aG aN (ag 0) (fC (.int 0))) (ae (sI mh (ag 1)) ah))) (ae (aG aN (ag 0) (fC (.int 1))) ah))) ah))))
def sW:List D->Dm D:=gs 2 ER
def zi:Stmt:=top 24
theorem R7:aD ["floor","k"] ["floor","k"] (av zi):=⟨rfl,rfl,rfl,by w_fin,rfl,by w_fin,by w_fin⟩
theorem R8 {f:Addr} {fd:FuncData} (D:Def K mg "sheared" zi ["floor","k"] f fd) (T:Txt mg)  {cz:Addr} {cB:FuncData} (bL:Def K mg "followed" xW ["one","other"] cz cB) (bR:aA P w K mg base aY 1 cz cB ["one","other"] (bg K 2 n9)) {nh:Addr} {ni:FuncData} (nt:Def K mg "often" Cp ["turning","k"] nh ni) (oK:aA P w K mg base aY 3 nh ni ["turning","k"] (bg K 2 Co)):aA P w K mg base aY 4 f fd ["floor","k"] (bg K 2 sW):=by
 refine D.F.ok R7 (fun _ _ _ _ h=>h.1) (fun c A o s H v Q E hr h=>?_)
 refine ⟨_,(@bC _ _ _ (@dP _ _ _ _ (@kA _ _ _ _ _ (@ao _ _ _ _ _ (@bT _ _ _ _ _ _ _ eu (pv 0) aR (fun _ _=>rfl)) (@ao _ _ _ _ _ (cb bR bL hr (by decide) rfl (@ao _ _ _ _ _ (cb oK nt hr (by decide) rfl (@ao _ _ _ _ _ (@bT _ _ _ _ _ _ _ eu (pv 0) aR (fun _ _=>rfl)) (@ao _ _ _ _ _ (vm vn (pv 1)) ay (by rfl)) (by rfl))) (@ao _ _ _ _ _ (@bT _ _ _ _ _ _ _ eu (pv 0) aR (fun _ _=>rfl)) ay (by rfl)) (by rfl))) ay (by rfl)) (by rfl))))),?_⟩
 exact gX (b:=ER) (dR (kG (au (aH dB (ai 0) (aS _)) (au (b8 (F:=n9) (au (b8 (F:=Co) (au (aH dB (ai 0) (aS _)) (au (wu wI (ai 1)) az)) dO) (au (aH dB (ai 0) (aS _)) az)) dO) az)))) rfl h
def ES:aj->Dm Fl :=
 (aU (dC (ae (aM rh (ae (aG aN (ag 0) (fC (.int 1))) ah)) (ae (aG aN (ag 0) (fC (.int 0))) ah))))
def sX:List D->Dm D:=gs 1 ES
def zj:Stmt:=top 25
theorem R9:aD ["floor"] ["floor"] (av zj):=⟨rfl,rfl,rfl,by w_fin,rfl,by w_fin,by w_fin⟩
theorem Sb {f:Addr} {fd:FuncData} (D:Def K mg "quartered" zj ["floor"] f fd) (T:Txt mg)  {br:Addr} {bu:FuncData} (bw:Def K mg "turned_back" xV ["turning"] br bu) (bI:aA P w K mg base aY 1 br bu ["turning"] (bg K 1 rh)):aA P w K mg base aY 2 f fd ["floor"] (bg K 1 sX):=by
 refine D.F.ok R9 (fun _ _ _ _ h=>h.1) (fun c A o s H v Q E hr h=>?_)
 refine ⟨_,(@bC _ _ _ (@dP _ _ _ _ (@kA _ _ _ _ _ (@ao _ _ _ _ _ (cb bI bw hr (by decide) rfl (@ao _ _ _ _ _ (@bT _ _ _ _ _ _ _ eu (pv 0) aR (fun _ _=>rfl)) ay (by rfl))) (@ao _ _ _ _ _ (@bT _ _ _ _ _ _ _ eu (pv 0) aR (fun _ _=>rfl)) ay (by rfl)) (by rfl))))),?_⟩
 exact gX (b:=ES) (dR (kG (au (b8 (F:=rh) (au (aH dB (ai 0) (aS _)) az) ng) (au (aH dB (ai 0) (aS _)) az)))) rfl h
def ET:aj->Dm Fl :=
 (aB (fV (aC (aG (iY false) (aG aN (ag 1) (fC (.int 0))) (fC (.str "s")))) (aU (aM sW (ae (ag 0) (ae (aG aN (ag 1) (fC (.int 1))) ah)))) aX)
 (aB (aL (ag 0) (hName 2))
 (aB (eQ (cn (ae (aG aN (ag 1) (fC (.int 1))) ah)) (hName 3) (aL (aM sX (ae (ag 2) ah)) (hName 2)))
 (aU (ag 2)))))
def Cr:List D->Dm D:=gs 4 ET
def Cs:Stmt:=top 27
theorem EU:aD ["floor","step","led","turn"] ["floor","step"] (av Cs):=⟨rfl,rfl,rfl,by w_fin,rfl,by w_fin,by w_fin⟩
theorem Sd {f:Addr} {fd:FuncData} (D:Def K mg "led_by_step" Cs ["floor","step"] f fd) (T:Txt mg)  {fK:Addr} {fL:FuncData} (fM:Def K mg "sheared" zi ["floor","k"] fK fL) (gS:aA P w K mg base aY 4 fK fL ["floor","k"] (bg K 2 sW)) {dh:Addr} {di:FuncData} (dj:Def K mg "quartered" zj ["floor"] dh di) (dW:aA P w K mg base aY 2 dh di ["floor"] (bg K 1 sX)):aA P w K mg base aY 5 f fd ["floor","step"] (bg K 2 Cr):=by
 refine D.F.ok EU (fun _ _ _ _ h=>h.1) (fun c A o s H v Q E hr h=>?_)
 refine ⟨_,(@a9 _ _ _ _ _ (@iW _ _ _ _ _ _ _ _ (eZ nQ (@bT _ _ _ _ _ _ _ eu (pv 1) aR (fun _ _=>rfl)) pF (aI _)) (@bC _ _ _ (@dP _ _ _ _ (cb gS fM hr (by decide) rfl (@ao _ _ _ _ _ (pv 0) (@ao _ _ _ _ _ (@bT _ _ _ _ _ _ _ eu (pv 1) aR (fun _ _=>rfl)) ay (by rfl)) (by rfl))))) jK)
  (@a9 _ _ _ _ _ (@cR (i:=2) _ _ _ _ _ _ EU.nd rfl (by w_up) (pv 0) (by rfl) (by w_up))
  (@a9 _ _ _ _ _ (@mx _ _ _ _ _ _ _ _ PassesOwn.never rfl (ot rfl T.aW (@ao _ _ _ _ _ (@bT _ _ _ _ _ _ _ eu (pv 1) aR (fun _ _=>rfl)) ay (by rfl))) (gI (i:=3) EU.nd rfl (by w_up)) (@bC _ _ _ (@cR (i:=2) _ _ _ _ _ _ EU.nd rfl (by w_up) (cb dW dj hr (by decide) rfl (@ao _ _ _ _ _ (pv 2) ay (by rfl))) (by rfl) (by w_up))) (by intro _;rfl))
  (@bC _ _ _ (@dP _ _ _ _ (pv 2)))))),?_⟩
 exact gX (b:=ET) (bh (iZ (eX (aH nX (aH dB (ai 1) (aS _)) (pN _))) (dR (b8 (F:=sW) (au (ai 0) (au (aH dB (ai 1) (aS _)) az)) dO)) jP)
  (bh (ck (ai 0) (a5 2))
  (bh (mH (oG (au (aH dB (ai 1) (aS _)) az)) (a5 3) (ck (b8 (F:=sX) (au (ai 2) az) ng) (a5 2)))
  (dR (ai 2))))) rfl h
def EV:aj->Dm Fl :=
 (aB (aL (ag 0) (hName 2))
 (aB (eQ (eC (ag 1)) (hName 3) (aL (aM Cr (ae (ag 2) (ae (ag 3) ah))) (hName 2)))
 (aU (ag 2))))
def pz:List D->Dm D:=gs 4 EV
def uO:Stmt:=top 26
theorem EW:aD ["floor","word","led","step"] ["floor","word"] (av uO):=⟨rfl,rfl,rfl,by w_fin,rfl,by w_fin,by w_fin⟩
theorem Se {f:Addr} {fd:FuncData} (D:Def K mg "led_by" uO ["floor","word"] f fd) (T:Txt mg)  {fe:Addr} {ff:FuncData} (fg:Def K mg "led_by_step" Cs ["floor","step"] fe ff) (ic:aA P w K mg base aY 5 fe ff ["floor","step"] (bg K 2 Cr)):aA P w K mg base aY 6 f fd ["floor","word"] (bg K 2 pz):=by
 refine D.F.ok EW (fun _ _ _ _ h=>h.1) (fun c A o s H v Q E hr h=>?_)
 refine ⟨_,(@a9 _ _ _ _ _ (@cR (i:=2) _ _ _ _ _ _ EW.nd rfl (by w_up) (pv 0) (by rfl) (by w_up))
  (@a9 _ _ _ _ _ (@mx _ _ _ _ _ _ _ _ PassesOwn.never rfl (pH (pv 1)) (gI (i:=3) EW.nd rfl (by w_up)) (@bC _ _ _ (@cR (i:=2) _ _ _ _ _ _ EW.nd rfl (by w_up) (cb ic fg hr (by decide) rfl (@ao _ _ _ _ _ (pv 2) (@ao _ _ _ _ _ (pv 3) ay (by rfl)) (by rfl))) (by rfl) (by w_up))) (by intro _;rfl))
  (@bC _ _ _ (@dP _ _ _ _ (pv 2))))),?_⟩
 exact gX (b:=EV) (bh (ck (ai 0) (a5 2))
  (bh (mH (pR (ai 1)) (a5 3) (ck (b8 (F:=Cr) (au (ai 2) (au (ai 3) az)) dO) (a5 2)))
  (dR (ai 2)))) rfl h
def EX:aj->Dm Fl :=
 (aB (aL (aG gO (aG aN (ag 0) (fC (.int 1))) (aG aN (ag 1) (fC (.int 1)))) (hName 2))
 (aB (fV (aC (aG (iY false) (aG aN (ag 0) (fC (.int 0))) (fC (.str "t")))) (aL (aG jU (ag 2) (fC (.int 4))) (hName 2)) aX)
 (aB (fV (aC (aG (iY false) (ag 2) (fC (.int 0)))) (aU (dC ah)) aX)
 (aU (dC (ae (dC (ae (aG aN (ag 0) (fC (.int 0))) (ae (ag 2) ah))) ah))))))
def Ct:List D->Dm D:=gs 3 EX
def Cu:Stmt:=top 18
theorem Ip:aD ["one","other","number"] ["one","other"] (av Cu):=⟨rfl,rfl,rfl,by w_fin,rfl,by w_fin,by w_fin⟩
theorem Sf {f:Addr} {fd:FuncData} (D:Def K mg "joined" Cu ["one","other"] f fd) (T:Txt mg)  :aA P w K mg base aY 1 f fd ["one","other"] (bg K 2 Ct):=by
 refine D.F.ok Ip (fun _ _ _ _ h=>h.1) (fun c A o s H v Q E hr h=>?_)
 refine ⟨_,(@a9 _ _ _ _ _ (@cR (i:=2) _ _ _ _ _ _ Ip.nd rfl (by w_up) (dF nB (@bT _ _ _ _ _ _ _ eu (pv 0) aR (fun _ _=>rfl)) (@bT _ _ _ _ _ _ _ eu (pv 1) aR (fun _ _=>rfl))) (by rfl) (by w_up))
  (@a9 _ _ _ _ _ (@iW _ _ _ _ _ _ _ _ (eZ nQ (@bT _ _ _ _ _ _ _ eu (pv 0) aR (fun _ _=>rfl)) pF (aI _)) (@bC _ _ _ (@cR (i:=2) _ _ _ _ _ _ Ip.nd rfl (by w_up) (dF pZ (pv 2) aR) (by rfl) (by w_up))) jK)
  (@a9 _ _ _ _ _ (@iW _ _ _ _ _ _ _ _ (eZ nQ (pv 2) aR (aI _)) (@bC _ _ _ (@dP _ _ _ _ (@kA _ _ _ _ _ ay))) jK)
  (@bC _ _ _ (@dP _ _ _ _ (@kA _ _ _ _ _ (@ao _ _ _ _ _ (@kA _ _ _ _ _ (@ao _ _ _ _ _ (@bT _ _ _ _ _ _ _ eu (pv 0) aR (fun _ _=>rfl)) (@ao _ _ _ _ _ (pv 2) ay (by rfl)) (by rfl))) ay (by rfl)))))))),?_⟩
 exact gX (b:=EX) (bh (ck (aH nH (aH dB (ai 0) (aS _)) (aH dB (ai 1) (aS _))) (a5 2))
  (bh (iZ (eX (aH nX (aH dB (ai 0) (aS _)) (pN _))) (ck (aH p6 (ai 2) (aS _)) (a5 2)) jP)
  (bh (iZ (eX (aH nX (ai 2) (aS _))) (dR (kG az)) jP)
  (dR (kG (au (kG (au (aH dB (ai 0) (aS _)) (au (ai 2) az))) az)))))) rfl h
def EY:aj->Dm Fl :=
 (aB (aL (dC ah) (hName 1))
 (aB (eQ (eC (ag 0)) (hName 2) (fV (lg (aC (aG wH (aM cT (ae (ag 1) ah)) (fC (.int 0)))) (aC (aG (iY false) (aG aN (aG aN (ag 1) (sI mh (fC (.int 1)))) (fC (.int 0))) (aG aN (ag 2) (fC (.int 0)))))) (aL (aG lO (wz wK (ag 1) kj (kW (sI mh (fC (.int 1))))) (aM Ct (ae (aG aN (ag 1) (sI mh (fC (.int 1)))) (ae (ag 2) ah)))) (hName 1)) (aL (aG lO (ag 1) (dC (ae (ag 2) ah))) (hName 1))))
 (aU (ag 1))))
def Cv:List D->Dm D:=gs 3 EY
def Cw:Stmt:=top 19
theorem Cy:aD ["word","plain","step"] ["word"] (av Cw):=⟨rfl,rfl,rfl,by w_fin,rfl,by w_fin,by w_fin⟩
theorem Sg {f:Addr} {fd:FuncData} (D:Def K mg "made_plain" Cw ["word"] f fd) (T:Txt mg)  {lB:Addr} {lC:FuncData} (lD:Def K mg "joined" Cu ["one","other"] lB lC) (nu:aA P w K mg base aY 1 lB lC ["one","other"] (bg K 2 Ct)):aA P w K mg base aY 2 f fd ["word"] (bg K 1 Cv):=by
 refine D.F.ok Cy (fun _ _ _ _ h=>h.1) (fun c A o s H v Q E hr h=>?_)
 refine ⟨_,(@a9 _ _ _ _ _ (@cR (i:=1) _ _ _ _ _ _ Cy.nd rfl (by w_up) (@kA _ _ _ _ _ ay) (by rfl) (by w_up))
  (@a9 _ _ _ _ _ (@mx _ _ _ _ _ _ _ _ PassesOwn.never rfl (pH (pv 0)) (gI (i:=2) Cy.nd rfl (by w_up)) (@bC _ _ _ (@iW _ _ _ _ _ _ _ _ (PW.pt (Dt (eZ zW (jl jM (by rfl) T.bJ jN (@ao _ _ _ _ _ (pv 1) ay (by rfl))) aR (aI _)) (Dr (eZ nQ (@bT _ _ _ _ _ _ _ eu (@bT _ _ _ _ _ _ _ eu (pv 1) (vm vn aR) (fun _ _=>rfl)) aR (fun _ _=>rfl)) (@bT _ _ _ _ _ _ _ eu (pv 2) aR (fun _ _=>rfl)) (aI _))))) (@bC _ _ _ (@cR (i:=1) _ _ _ _ _ _ Cy.nd rfl (by w_up) (dF DH (DC NW (pv 1) F8 (Ab (vm vn aR))) (cb nu lD hr (by decide) rfl (@ao _ _ _ _ _ (@bT _ _ _ _ _ _ _ eu (pv 1) (vm vn aR) (fun _ _=>rfl)) (@ao _ _ _ _ _ (pv 2) ay (by rfl)) (by rfl)))) (by rfl) (by w_up))) (@bC _ _ _ (@cR (i:=1) _ _ _ _ _ _ Cy.nd rfl (by w_up) (dF DH (pv 1) (@kA _ _ _ _ _ (@ao _ _ _ _ _ (pv 2) ay (by rfl)))) (by rfl) (by w_up))))) (by intro _;rfl))
  (@bC _ _ _ (@dP _ _ _ _ (pv 1))))),?_⟩
 exact gX (b:=EY) (bh (ck (kG az) (a5 1))
  (bh (mH (pR (ai 0)) (a5 2) (iZ (D7 (eX (aH Bq (cO jO (au (ai 1) az)) (aS _))) (eX (aH nX (aH dB (aH dB (ai 1) (wu wI (aS _))) (aS _)) (aH dB (ai 2) (aS _))))) (ck (aH Ed (D9 wL (ai 1) Hr (Bn (wu wI (aS _)))) (b8 (F:=Ct) (au (aH dB (ai 1) (wu wI (aS _))) (au (ai 2) az)) dO)) (a5 1)) (ck (aH Ed (ai 1) (kG (au (ai 2) az))) (a5 1))))
  (dR (ai 1)))) rfl h
def EZ:aj->Dm Fl :=
 (aU (aM Cv (ae (aG lO (ag 0) (ag 1)) ah)))
def Cz:List D->Dm D:=gs 2 EZ
def CA:Stmt:=top 20
theorem Si:aD ["one","other"] ["one","other"] (av CA):=⟨rfl,rfl,rfl,by w_fin,rfl,by w_fin,by w_fin⟩
theorem Sj {f:Addr} {fd:FuncData} (D:Def K mg "put_together" CA ["one","other"] f fd) (T:Txt mg)  {fY:Addr} {fZ:FuncData} (f9:Def K mg "made_plain" Cw ["word"] fY fZ) (i7:aA P w K mg base aY 2 fY fZ ["word"] (bg K 1 Cv)):aA P w K mg base aY 3 f fd ["one","other"] (bg K 2 Cz):=by
 refine D.F.ok Si (fun _ _ _ _ h=>h.1) (fun c A o s H v Q E hr h=>?_)
 refine ⟨_,(@bC _ _ _ (@dP _ _ _ _ (cb i7 f9 hr (by decide) rfl (@ao _ _ _ _ _ (dF DH (pv 0) (pv 1)) ay (by rfl))))),?_⟩
 exact gX (b:=EZ) (dR (b8 (F:=Cv) (au (aH Ed (ai 0) (ai 1)) az) ng)) rfl h
def E1:aj->Dm Fl :=
 (aB (aL (aM lZ (ae (aM pz (ae (aG dQ (ag 0) (ag 2)) (ae (dC (ae (ag 3) ah)) ah))) ah)) (hName 4))
 (aB (fV (aC (aG (oH true) (ag 4) (ag 0))) (aB (fX (mG "list" cM (ag 0) (ae (ag 4) ah)))
 (fX (mG "list" cM (ag 1) (ae (aM Cz (ae (aG dQ (ag 1) (ag 2)) (ae (dC (ae (ag 3) ah)) ah))) ah)))) aX)
 (aU (mG "list" hV (ag 0) (ae (ag 4) ah)))))
def xX:List D->Dm D:=gs 5 E1
def CB:Stmt:=top 32
theorem Ml:aD ["forms","words","place","step","form"] ["forms","words","place","step"] (av CB):=⟨rfl,rfl,rfl,by w_fin,rfl,by w_fin,by w_fin⟩
theorem Sk {f:Addr} {fd:FuncData} (D:Def K mg "row_led_to" CB ["forms","words","place","step"] f fd) (T:Txt mg)  {bG:Addr} {bH:FuncData} (a6:Def K mg "form_of" sU ["floor"] bG bH) (bB:aA P w K mg base aY 4 bG bH ["floor"] (bg K 1 lZ)) {cZ:Addr} {c4:FuncData} (c5:Def K mg "led_by" uO ["floor","word"] cZ c4) (dg:aA P w K mg base aY 6 cZ c4 ["floor","word"] (bg K 2 pz)) {d4:Addr} {d5:FuncData} (d6:Def K mg "put_together" CA ["one","other"] d4 d5) (gw:aA P w K mg base aY 3 d4 d5 ["one","other"] (bg K 2 Cz)):aA P w K mg base aY 7 f fd ["forms","words","place","step"] (bg K 4 xX):=by
 refine D.F.ok Ml (fun _ _ _ _ h=>h.1) (fun c A o s H v Q E hr h=>?_)
 have hu:=hr.units
 refine ⟨_,(@a9 _ _ _ _ _ (@cR (i:=4) _ _ _ _ _ _ Ml.nd rfl (by w_up) (cb bB a6 hr (by decide) rfl (@ao _ _ _ _ _ (cb dg c5 hr (by decide) rfl (@ao _ _ _ _ _ (@bT _ _ _ _ _ _ _ lX (pv 0) (pv 2) (fun _ _=>rfl)) (@ao _ _ _ _ _ (@kA _ _ _ _ _ (@ao _ _ _ _ _ (pv 3) ay (by rfl))) ay (by rfl)) (by rfl))) ay (by rfl))) (by rfl) (by w_up))
  (@a9 _ _ _ _ _ (@iW _ _ _ _ _ _ _ _ (eZ (Oo hu) (pv 4) (pv 0) (by with_unfolding_all rfl)) (@a9 _ _ _ _ _ (qe (oU PySem.F.plainAttrs_list PySem.F.slot_list_append PySem.F.type_list_append qj (pv 0) (@ao _ _ _ _ _ (pv 4) ay (by rfl))))
  (@bC _ _ _ (qe (oU PySem.F.plainAttrs_list PySem.F.slot_list_append PySem.F.type_list_append qj (pv 1) (@ao _ _ _ _ _ (cb gw d6 hr (by decide) rfl (@ao _ _ _ _ _ (@bT _ _ _ _ _ _ _ lX (pv 1) (pv 2) (fun _ _=>rfl)) (@ao _ _ _ _ _ (@kA _ _ _ _ _ (@ao _ _ _ _ _ (pv 3) ay (by rfl))) ay (by rfl)) (by rfl))) ay (by rfl)))))) jK)
  (@bC _ _ _ (@dP _ _ _ _ (oU PySem.F.plainAttrs_list PySem.F.slot_list_index PySem.F.type_list_index (OW hu) (pv 0) (@ao _ _ _ _ _ (pv 4) ay (by rfl))))))),?_⟩
 exact gX (b:=E1) (bh (ck (b8 (F:=lZ) (au (b8 (F:=pz) (au (aH lh (ai 0) (ai 2)) (au (kG (au (ai 3) az)) az)) dO) az) ng) (a5 4))
  (bh (iZ (eX (aH (LQ true) (ai 4) (ai 0))) (bh (qP (oi qO (ai 0) (au (ai 4) az)))
  (qP (oi qO (ai 1) (au (b8 (F:=Cz) (au (aH lh (ai 1) (ai 2)) (au (kG (au (ai 3) az)) az)) dO) az)))) jP)
  (dR (oi Rz (ai 0) (au (ai 4) az))))) rfl h
def E2:aj->Dm Fl :=
 (aB (aL (dI (ae (aM lZ (ae (ag 0) ah)) ah)) (hName 2))
 (aB (aL (dI (ae (dC ah) ah)) (hName 3))
 (aB (aL (dI ah) (hName 4))
 (aB (i3 (aC (aG wG (aM cT (ae (ag 4) ah)) (aM cT (ae (ag 2) ah)))) (aB (fV (aC (aG wH (aM cT (ae (ag 2) ah)) (ag 1))) qZ aX)
 (aB (aL (aM cT (ae (ag 4) ah)) (hName 5))
 (aB (aL (aM xX (ae (ag 2) (ae (ag 3) (ae (ag 5) (ae (fC (.tup [(.str "s"),(.int 1)])) ah))))) (hName 6))
 (aB (aL (aM xX (ae (ag 2) (ae (ag 3) (ae (ag 5) (ae (fC (.tup [(.str "t"),(.int 1)])) ah))))) (hName 7))
 (fX (mG "list" cM (ag 4) (ae (dC (ae (ag 6) (ae (ag 7) ah))) ah))))))))
 (aU (aM bU (ae (c6 (cn (ae (aM cT (ae (ag 2) ah)) ah)) 1 [2,3,4] (hName 0) eY (dC (ae (aG dQ (ag 1) (ag 0)) (ae (aG dQ (ag 2) (ag 0)) (ae (aG aN (aG dQ (ag 3) (ag 0)) (fC (.int 0))) (ae (aG aN (aG dQ (ag 3) (ag 0)) (fC (.int 1))) ah)))))) ah)))))))
def CC:List D->Dm D:=gs 8 E2
def CD:Stmt:=top 31
theorem xY:aD ["floor","most","forms","words","leads","place","s","t"] ["floor","most"] (av CD):=⟨rfl,rfl,rfl,by w_fin,rfl,by w_fin,by w_fin⟩
theorem Sl {f:Addr} {fd:FuncData} (D:mQ K mg "chart_of" CD ["floor","most"] [V.int 60] f fd) (T:Txt mg) {lS:V} (kl:rC K mg "QUARTER" lS (.tup [(.str "t"),(.int 1)])) {oM:V} (ny:rC K mg "SHEAR" oM (.tup [(.str "s"),(.int 1)])) {bG:Addr} {bH:FuncData} (a6:Def K mg "form_of" sU ["floor"] bG bH) (bB:aA P w K mg base aY 4 bG bH ["floor"] (bg K 1 lZ)) {gb:Addr} {gf:FuncData} (eE:Def K mg "row_led_to" CB ["forms","words","place","step"] gb gf) (gg:aA P w K mg base aY 7 gb gf ["forms","words","place","step"] (bg K 4 xX)):aA P w K mg base aY 8 f fd ["floor","most"] (bg K 2 CC):=by
 refine D.F.ok xY (fun _ _ _ _ h=>h.1) (fun c A o s H v Q E hr h=>?_)
 refine ⟨_,(@a9 _ _ _ _ _ (@cR (i:=2) _ _ _ _ _ _ xY.nd rfl (by w_up) (@kY _ _ _ _ (@ao _ _ _ _ _ (cb bB a6 hr (by decide) rfl (@ao _ _ _ _ _ (pv 0) ay (by rfl))) ay (by rfl))) (by rfl) (by w_up))
  (@a9 _ _ _ _ _ (@cR (i:=3) _ _ _ _ _ _ xY.nd rfl (by w_up) (@kY _ _ _ _ (@ao _ _ _ _ _ (@kA _ _ _ _ _ ay) ay (by rfl))) (by rfl) (by w_up))
  (@a9 _ _ _ _ _ (@cR (i:=4) _ _ _ _ _ _ xY.nd rfl (by w_up) (@kY _ _ _ _ ay) (by rfl) (by w_up))
  (@a9 _ _ _ _ _ (yB PassesOwn.never (eZ zU (jl jM (by rfl) T.bJ jN (@ao _ _ _ _ _ (pv 4) ay (by rfl))) (jl jM (by rfl) T.bJ jN (@ao _ _ _ _ _ (pv 2) ay (by rfl))) (aI _)) (@a9 _ _ _ _ _ (@iW _ _ _ _ _ _ _ _ (eZ zW (jl jM (by rfl) T.bJ jN (@ao _ _ _ _ _ (pv 2) ay (by rfl))) (pv 1) (aI _)) (@bC _ _ _ Na) jK)
  (@a9 _ _ _ _ _ (@cR (i:=5) _ _ _ _ _ _ xY.nd rfl (by w_up) (jl jM (by rfl) T.bJ jN (@ao _ _ _ _ _ (pv 4) ay (by rfl))) (by rfl) (by w_up))
  (@a9 _ _ _ _ _ (@cR (i:=6) _ _ _ _ _ _ xY.nd rfl (by w_up) (cb gg eE hr (by decide) rfl (@ao _ _ _ _ _ (pv 2) (@ao _ _ _ _ _ (pv 3) (@ao _ _ _ _ _ (pv 5) (@ao _ _ _ _ _ (LN ny rfl rfl (by decide)) ay (by rfl)) (by rfl)) (by rfl)) (by rfl))) (by rfl) (by w_up))
  (@a9 _ _ _ _ _ (@cR (i:=7) _ _ _ _ _ _ xY.nd rfl (by w_up) (cb gg eE hr (by decide) rfl (@ao _ _ _ _ _ (pv 2) (@ao _ _ _ _ _ (pv 3) (@ao _ _ _ _ _ (pv 5) (@ao _ _ _ _ _ (LN kl rfl rfl (by decide)) ay (by rfl)) (by rfl)) (by rfl)) (by rfl))) (by rfl) (by w_up))
  (@bC _ _ _ (qe (oU PySem.F.plainAttrs_list PySem.F.slot_list_append PySem.F.type_list_append qj (pv 4) (@ao _ _ _ _ _ (@kA _ _ _ _ _ (@ao _ _ _ _ _ (pv 6) (@ao _ _ _ _ _ (pv 7) ay (by rfl)) (by rfl))) ay (by rfl))))))))))
  (@bC _ _ _ (@dP _ _ _ _ (g7 nC (by rfl) T.bP nD (@ao _ _ _ _ _ (qx (own:=["k"]) (fr:=["forms","words","leads"]) (js:=[2,3,4]) rfl ⟨⟨rfl,by w_fin,by w_fin,by dsimp only [gn,aQ,Cx.mw,Cx.wish,PyProof.Rows.envOfC,compEnvC,relabel,Env.kindOf];decide +kernel,by w_fin⟩,rfl⟩ (ot rfl T.aW (@ao _ _ _ _ _ (jl jM (by rfl) T.bJ jN (@ao _ _ _ _ _ (pv 2) ay (by rfl))) ay (by rfl))) (fun _ _ _ _ _=>(gI (i:=0) (show ((["k"]:List Str) ++ (["forms","words","leads"]:List Str)).Nodup by w_fin) rfl (by w_up))) (fun _ _ _ _ _=>rD) (fun _ _ _ _ _=>(@kA _ _ _ _ _ (@ao _ _ _ _ _ (@bT _ _ _ _ _ _ _ (DM (K:=K) rfl) (pv 1) (pv 0) (fun _ _=>rfl)) (@ao _ _ _ _ _ (@bT _ _ _ _ _ _ _ (DM (K:=K) rfl) (pv 2) (pv 0) (fun _ _=>rfl)) (@ao _ _ _ _ _ (@bT _ _ _ _ _ _ _ (rE (K:=K) rfl) (@bT _ _ _ _ _ _ _ (DM (K:=K) rfl) (pv 3) (pv 0) (fun _ _=>rfl)) aR (fun _ _=>rfl)) (@ao _ _ _ _ _ (@bT _ _ _ _ _ _ _ (rE (K:=K) rfl) (@bT _ _ _ _ _ _ _ (DM (K:=K) rfl) (pv 3) (pv 0) (fun _ _=>rfl)) aR (fun _ _=>rfl)) ay (by rfl)) (by rfl)) (by rfl)) (by rfl))))) ay (by rfl))))))))),?_⟩
 exact gX (b:=E2) (bh (ck (lb (au (b8 (F:=lZ) (au (ai 0) az) ng) az)) (a5 2))
  (bh (ck (lb (au (kG az) az)) (a5 3))
  (bh (ck (lb az) (a5 4))
  (bh (yW (eX (aH Bo (cO jO (au (ai 4) az)) (cO jO (au (ai 2) az)))) (bh (iZ (eX (aH Bq (cO jO (au (ai 2) az)) (ai 1))) Rv jP)
  (bh (ck (cO jO (au (ai 4) az)) (a5 5))
  (bh (ck (b8 (F:=xX) (au (ai 2) (au (ai 3) (au (ai 5) (au (LO ny) az)))) Et) (a5 6))
  (bh (ck (b8 (F:=xX) (au (ai 2) (au (ai 3) (au (ai 5) (au (LO kl) az)))) Et) (a5 7))
  (qP (oi qO (ai 4) (au (kG (au (ai 6) (au (ai 7) az))) az))))))))
  (dR (cO nI (au (pe (oG (au (cO jO (au (ai 2) az)) az)) (a5 0) rL (kG (au (aH lh (ai 1) (ai 0)) (au (aH lh (ai 2) (ai 0)) (au (aH dB (aH lh (ai 3) (ai 0)) (aS _)) (au (aH dB (aH lh (ai 3) (ai 0)) (aS _)) az)))))) az))))))) rfl h
def E3:aj->Dm Fl :=
 (aB (aL (dI ah) (hName 2))
 (aB (aL (aM rP (ae (ag 0) (ae (fC (.int 0)) ah))) (hName 3))
 (aB (aL (aM uN (ae (ag 0) (ae (fC (.int 0)) ah))) (hName 4))
 (aB (eQ (cn (ae (aM cT (ae (aG aN (ag 1) (fC (.int 0))) ah)) ah)) (hName 5) (fV (aC (aG (eN false) (aM rP (ae (ag 1) (ae (ag 5) ah))) (ag 3))) (fX (mG "list" cM (ag 2) (ae (aM n9 (ae (ag 4) (ae (aM uM (ae (ag 1) (ae (ag 5) ah))) ah))) ah))) aX))
 (aU (aM kK (ae (ag 2) ah)))))))
def oN:List D->Dm D:=gs 6 E3
def xZ:Stmt:=top 16
theorem CF:aD ["one","other","told","numbered","numbering","s"] ["one","other"] (av xZ):=⟨rfl,rfl,rfl,by w_fin,rfl,by w_fin,by w_fin⟩
theorem Sn {f:Addr} {fd:FuncData} (D:Def K mg "callings" xZ ["one","other"] f fd) (T:Txt mg)  {bM:Addr} {bN:FuncData} (bA:Def K mg "numbered_from" zg ["floor","s"] bM bN) (bO:aA P w K mg base aY 3 bM bN ["floor","s"] (bg K 2 rP)) {bD:Addr} {bE:FuncData} (bF:Def K mg "numbering_from" zf ["floor","s"] bD bE) (bS:aA P w K mg base aY 2 bD bE ["floor","s"] (bg K 2 uN)) {cz:Addr} {cB:FuncData} (bL:Def K mg "followed" xW ["one","other"] cz cB) (bR:aA P w K mg base aY 1 cz cB ["one","other"] (bg K 2 n9)) {bZ:Addr} {b5:FuncData} (b6:Def K mg "squares_from" zd ["floor","s"] bZ b5) (cC:aA P w K mg base aY 1 bZ b5 ["floor","s"] (bg K 2 uM)):aA P w K mg base aY 4 f fd ["one","other"] (bg K 2 oN):=by
 refine D.F.ok CF (fun _ _ _ _ h=>h.1) (fun c A o s H v Q E hr h=>?_)
 have hu:=hr.units
 refine ⟨_,(@a9 _ _ _ _ _ (@cR (i:=2) _ _ _ _ _ _ CF.nd rfl (by w_up) (@kY _ _ _ _ ay) (by rfl) (by w_up))
  (@a9 _ _ _ _ _ (@cR (i:=3) _ _ _ _ _ _ CF.nd rfl (by w_up) (cb bO bA hr (by decide) rfl (@ao _ _ _ _ _ (pv 0) (@ao _ _ _ _ _ aR ay (by rfl)) (by rfl))) (by rfl) (by w_up))
  (@a9 _ _ _ _ _ (@cR (i:=4) _ _ _ _ _ _ CF.nd rfl (by w_up) (cb bS bF hr (by decide) rfl (@ao _ _ _ _ _ (pv 0) (@ao _ _ _ _ _ aR ay (by rfl)) (by rfl))) (by rfl) (by w_up))
  (@a9 _ _ _ _ _ (@mx _ _ _ _ _ _ _ _ PassesOwn.never rfl (ot rfl T.aW (@ao _ _ _ _ _ (jl jM (by rfl) T.bJ jN (@ao _ _ _ _ _ (@bT _ _ _ _ _ _ _ eu (pv 1) aR (fun _ _=>rfl)) ay (by rfl))) ay (by rfl))) (gI (i:=5) CF.nd rfl (by w_up)) (@bC _ _ _ (@iW _ _ _ _ _ _ _ _ (eZ (Gu hu) (cb bO bA hr (by decide) rfl (@ao _ _ _ _ _ (pv 1) (@ao _ _ _ _ _ (pv 5) ay (by rfl)) (by rfl))) (pv 3) (aI _)) (@bC _ _ _ (qe (oU PySem.F.plainAttrs_list PySem.F.slot_list_append PySem.F.type_list_append qj (pv 2) (@ao _ _ _ _ _ (cb bR bL hr (by decide) rfl (@ao _ _ _ _ _ (pv 4) (@ao _ _ _ _ _ (cb cC b6 hr (by decide) rfl (@ao _ _ _ _ _ (pv 1) (@ao _ _ _ _ _ (pv 5) ay (by rfl)) (by rfl))) ay (by rfl)) (by rfl))) ay (by rfl))))) jK)) (by intro _;rfl))
  (@bC _ _ _ (@dP _ _ _ _ (jl (OU hu) (by rfl) T.rg NS (@ao _ _ _ _ _ (pv 2) ay (by rfl))))))))),?_⟩
 exact gX (b:=E3) (bh (ck (lb az) (a5 2))
  (bh (ck (b8 (F:=rP) (au (ai 0) (au (aS _) az)) dO) (a5 3))
  (bh (ck (b8 (F:=uN) (au (ai 0) (au (aS _) az)) dO) (a5 4))
  (bh (mH (oG (au (cO jO (au (aH dB (ai 1) (aS _)) az)) az)) (a5 5) (iZ (eX (aH (p7 false) (b8 (F:=rP) (au (ai 1) (au (ai 5) az)) dO) (ai 3))) (qP (oi qO (ai 2) (au (b8 (F:=n9) (au (ai 4) (au (b8 (F:=uM) (au (ai 1) (au (ai 5) az)) dO) az)) dO) az))) jP))
  (dR (cO Rr (au (ai 2) az))))))) rfl h
def E4:aj->Dm Fl :=
 (aB (aL (aM CC (ae (ag 0) (ae (ag 2) ah))) (hName 3))
 (aB (eQ (eC (ag 3)) (hName 4) (aB (aL (aG aN (ag 4) (fC (.int 1))) (hName 5))
 (aB (aL (aM oN (ae (aM pz (ae (ag 0) (ae (ag 5) ah))) (ae (ag 1) ah))) (hName 6))
 (fV (aC (aG wH (aM cT (ae (ag 6) ah)) (fC (.int 0)))) (aU (dC (ae (fC (.str "led")) (ae (ag 5) (ae (aG dQ (ag 6) (fC (.int 0))) ah))))) aX))))
 (aU (dC (ae (fC (.str "apart")) (ae (ag 3) ah))))))
def rj:List D->Dm D:=gs 7 E4
def CG:Stmt:=top 37
theorem CH:aD ["one","other","most","chart","row","word","found"] ["one","other","most"] (av CG):=⟨rfl,rfl,rfl,by w_fin,rfl,by w_fin,by w_fin⟩
theorem Sq {f:Addr} {fd:FuncData} (D:mQ K mg "meet" CG ["one","other","most"] [V.int 60] f fd) (T:Txt mg)  {jy:Addr} {jz:FuncData} (fE:mQ K mg "chart_of" CD ["floor","most"] [V.int 60] jy jz) (kM:aA P w K mg base aY 8 jy jz ["floor","most"] (bg K 2 CC)) {cD:Addr} {cE:FuncData} (cc:Def K mg "callings" xZ ["one","other"] cD cE) (cF:aA P w K mg base aY 4 cD cE ["one","other"] (bg K 2 oN)) {cZ:Addr} {c4:FuncData} (c5:Def K mg "led_by" uO ["floor","word"] cZ c4) (dg:aA P w K mg base aY 6 cZ c4 ["floor","word"] (bg K 2 pz)):aA P w K mg base aY 9 f fd ["one","other","most"] (bg K 3 rj):=by
 refine D.F.ok CH (fun _ _ _ _ h=>h.1) (fun c A o s H v Q E hr h=>?_)
 refine ⟨_,(@a9 _ _ _ _ _ (@cR (i:=3) _ _ _ _ _ _ CH.nd rfl (by w_up) (F3 kM (hr.mono (by decide)) rfl fE.m fE.F.kp fE.b .nil oY (@ao _ _ _ _ _ (pv 0) (@ao _ _ _ _ _ (pv 2) ay (by rfl)) (by rfl))) (by rfl) (by w_up))
  (@a9 _ _ _ _ _ (@mx _ _ _ _ _ _ _ _ PassesOwn.never rfl (pH (pv 3)) (gI (i:=4) CH.nd rfl (by w_up)) (@a9 _ _ _ _ _ (@cR (i:=5) _ _ _ _ _ _ CH.nd rfl (by w_up) (@bT _ _ _ _ _ _ _ eu (pv 4) aR (fun _ _=>rfl)) (by rfl) (by w_up))
  (@a9 _ _ _ _ _ (@cR (i:=6) _ _ _ _ _ _ CH.nd rfl (by w_up) (cb cF cc hr (by decide) rfl (@ao _ _ _ _ _ (cb dg c5 hr (by decide) rfl (@ao _ _ _ _ _ (pv 0) (@ao _ _ _ _ _ (pv 5) ay (by rfl)) (by rfl))) (@ao _ _ _ _ _ (pv 1) ay (by rfl)) (by rfl))) (by rfl) (by w_up))
  (@bC _ _ _ (@iW _ _ _ _ _ _ _ _ (eZ zW (jl jM (by rfl) T.bJ jN (@ao _ _ _ _ _ (pv 6) ay (by rfl))) aR (aI _)) (@bC _ _ _ (@dP _ _ _ _ (@kA _ _ _ _ _ (@ao _ _ _ _ _ pF (@ao _ _ _ _ _ (pv 5) (@ao _ _ _ _ _ (@bT _ _ _ _ _ _ _ lX (pv 6) aR (fun _ _=>rfl)) ay (by rfl)) (by rfl)) (by rfl))))) jK)))) (by intro _;rfl))
  (@bC _ _ _ (@dP _ _ _ _ (@kA _ _ _ _ _ (@ao _ _ _ _ _ pF (@ao _ _ _ _ _ (pv 3) ay (by rfl)) (by rfl))))))),?_⟩
 exact gX (b:=E4) (bh (ck (b8 (F:=CC) (au (ai 0) (au (ai 2) az)) dO) (a5 3))
  (bh (mH (pR (ai 3)) (a5 4) (bh (ck (aH dB (ai 4) (aS _)) (a5 5))
  (bh (ck (b8 (F:=oN) (au (b8 (F:=pz) (au (ai 0) (au (ai 5) az)) dO) (au (ai 1) az)) dO) (a5 6))
  (iZ (eX (aH Bq (cO jO (au (ai 6) az)) (aS _))) (dR (kG (au (pN _) (au (ai 5) (au (aH lh (ai 6) (aS _)) az))))) jP))))
  (dR (kG (au (pN _) (au (ai 3) az)))))) rfl h
def E5:aj->Dm Fl :=
 (aU (aM bU (ae (c6 (eC (ag 0)) 1 [1] (hName 0) eY (aM bU (ae (c6 (cn (ae (aM cT (ae (ag 1) ah)) ah)) 1 [0,1] (hName 0) eY (aG aN (ag 2) (aG aN (ag 1) (mG "tuple" hJ (ag 2) (ae (ag 0) ah))))) ah))) ah)))
def uP:List D->Dm D:=gs 2 E5
def zk:Stmt:=top 49
theorem Sr:aD ["_law_floor_here","_law_p"] ["_law_floor_here","_law_p"] (av zk):=⟨rfl,rfl,rfl,by w_fin,rfl,by w_fin,by w_fin⟩
theorem Ss {f:Addr} {fd:FuncData} (D:Def K mg "_law_anew" zk ["_law_floor_here","_law_p"] f fd) (T:Txt mg)  :aA P w K mg base aY 1 f fd ["_law_floor_here","_law_p"] (bg K 2 uP):=by
 refine D.F.ok Sr (fun _ _ _ _ h=>h.1) (fun c A o s H v Q E hr h=>?_)
 refine ⟨_,(@bC _ _ _ (@dP _ _ _ _ (g7 nC (by rfl) T.bP nD (@ao _ _ _ _ _ (qx (own:=["_law_turning_here"]) (fr:=["_law_p"]) (js:=[1]) rfl ⟨⟨rfl,by w_fin,by w_fin,by dsimp only [gn,aQ,Cx.mw,Cx.wish,PyProof.Rows.envOfC,compEnvC,relabel,Env.kindOf];decide +kernel,by w_fin⟩,rfl⟩ (pH (pv 0)) (fun _ _ _ _ _=>(gI (i:=0) (show ((["_law_turning_here"]:List Str) ++ (["_law_p"]:List Str)).Nodup by w_fin) rfl (by w_up))) (fun _ _ _ _ _=>rD) (fun _ _ _ _ _=>(g7 (N9 (K:=K) rfl) (by rfl) T.bP nD (@ao _ _ _ _ _ (qx (own:=["_law_s"]) (fr:=["_law_turning_here","_law_p"]) (js:=[0,1]) rfl ⟨Qc ⟨rfl,by w_fin,by w_fin,by dsimp only [gn,Cx.mw,Cx.wish,PyProof.Rows.envOfC];decide +kernel,by w_fin⟩,rfl⟩ (ot rfl T.aW (@ao _ _ _ _ _ (jl (N8 (K:=K) rfl) (by rfl) T.bJ jN (@ao _ _ _ _ _ (pv 1) ay (by rfl))) ay (by rfl))) (fun _ _ _ _ _=>(gI (i:=0) (show ((["_law_s"]:List Str) ++ (["_law_turning_here","_law_p"]:List Str)).Nodup by w_fin) rfl (by w_up))) (fun _ _ _ _ _=>rD) (fun _ _ _ _ _=>(@bT _ _ _ _ _ _ _ (rE (K:=K) rfl) (pv 2) (@bT _ _ _ _ _ _ _ (rE (K:=K) rfl) (pv 1) (GP (K:=K) rfl PySem.F.plainAttrs_tuple PySem.F.slot_tuple_index PySem.F.type_tuple_index (GO (K:=K) rfl) (pv 2) (@ao _ _ _ _ _ (pv 0) ay (by rfl))) (fun _ _=>rfl)) (fun _ _=>rfl)))) ay (by rfl))))) ay (by rfl))))),?_⟩
 exact gX (b:=E5) (dR (cO nI (au (pe (pR (ai 0)) (a5 0) rL (cO nI (au (pe (oG (au (cO jO (au (ai 1) az)) az)) (a5 0) rL (aH dB (ai 2) (aH dB (ai 1) (oi Hx (ai 2) (au (ai 0) az))))) az))) az))) rfl h
def E6:aj->Dm Fl :=
 (aB (fV (aC (aG wG (ag 2) (fC (.int 0)))) (aB (aL (aM bU (ae (c6 (cn (ae (aM cT (ae (ag 0) ah)) ah)) 1 [0] (hName 0) eY (mG "tuple" hJ (ag 1) (ae (ag 0) ah))) ah)) (hName 0))
 (aL (aG mN (fC (.int 0)) (ag 2)) (hName 2))) aX)
 (aB (aL (dI (ae (ag 1) ah)) (hName 3))
 (aB (i3 (aC (aG (iY true) (aG aN (ag 0) (aG dQ (ag 3) (sI mh (fC (.int 1))))) (ag 1))) (fX (mG "list" cM (ag 3) (ae (aG aN (ag 0) (aG dQ (ag 3) (sI mh (fC (.int 1))))) ah))))
 (aU (aG dQ (ag 3) (aG jU (ag 2) (aM cT (ae (ag 3) ah))))))))
def CI:List D->Dm D:=gs 4 E6
def CJ:Stmt:=top 46
theorem E7:aD ["_law_turning_here","_law_s","_law_k","_law_ring"] ["_law_turning_here","_law_s","_law_k"] (av CJ):=⟨rfl,rfl,rfl,by w_fin,rfl,by w_fin,by w_fin⟩
theorem Sv {f:Addr} {fd:FuncData} (D:Def K mg "_law_behind" CJ ["_law_turning_here","_law_s","_law_k"] f fd) (T:Txt mg)  :aA P w K mg base aY 1 f fd ["_law_turning_here","_law_s","_law_k"] (bg K 3 CI):=by
 refine D.F.ok E7 (fun _ _ _ _ h=>h.1) (fun c A o s H v Q E hr h=>?_)
 refine ⟨_,(@a9 _ _ _ _ _ (@iW _ _ _ _ _ _ _ _ (eZ zU (pv 2) aR (aI _)) (@a9 _ _ _ _ _ (@cR (i:=0) _ _ _ _ _ _ E7.nd rfl (by w_up) (g7 nC (by rfl) T.bP nD (@ao _ _ _ _ _ (qx (own:=["_law_one"]) (fr:=["_law_turning_here"]) (js:=[0]) rfl ⟨⟨rfl,by w_fin,by w_fin,by dsimp only [gn,aQ,Cx.mw,Cx.wish,PyProof.Rows.envOfC,compEnvC,relabel,Env.kindOf];decide +kernel,by w_fin⟩,rfl⟩ (ot rfl T.aW (@ao _ _ _ _ _ (jl jM (by rfl) T.bJ jN (@ao _ _ _ _ _ (pv 0) ay (by rfl))) ay (by rfl))) (fun _ _ _ _ _=>(gI (i:=0) (show ((["_law_one"]:List Str) ++ (["_law_turning_here"]:List Str)).Nodup by w_fin) rfl (by w_up))) (fun _ _ _ _ _=>rD) (fun _ _ _ _ _=>(GP (K:=K) rfl PySem.F.plainAttrs_tuple PySem.F.slot_tuple_index PySem.F.type_tuple_index (GO (K:=K) rfl) (pv 1) (@ao _ _ _ _ _ (pv 0) ay (by rfl))))) ay (by rfl))) (by rfl) (by w_up))
  (@bC _ _ _ (@cR (i:=2) _ _ _ _ _ _ E7.nd rfl (by w_up) (dF DA aR (pv 2)) (by rfl) (by w_up)))) jK)
  (@a9 _ _ _ _ _ (@cR (i:=3) _ _ _ _ _ _ E7.nd rfl (by w_up) (@kY _ _ _ _ (@ao _ _ _ _ _ (pv 1) ay (by rfl))) (by rfl) (by w_up))
  (@a9 _ _ _ _ _ (yB PassesOwn.never (eZ zT (@bT _ _ _ _ _ _ _ eu (pv 0) (@bT _ _ _ _ _ _ _ lX (pv 3) (vm vn aR) (fun _ _=>rfl)) (fun _ _=>rfl)) (pv 1) (aI _)) (@bC _ _ _ (qe (oU PySem.F.plainAttrs_list PySem.F.slot_list_append PySem.F.type_list_append qj (pv 3) (@ao _ _ _ _ _ (@bT _ _ _ _ _ _ _ eu (pv 0) (@bT _ _ _ _ _ _ _ lX (pv 3) (vm vn aR) (fun _ _=>rfl)) (fun _ _=>rfl)) ay (by rfl))))))
  (@bC _ _ _ (@dP _ _ _ _ (@bT _ _ _ _ _ _ _ lX (pv 3) (dF pZ (pv 2) (jl jM (by rfl) T.bJ jN (@ao _ _ _ _ _ (pv 3) ay (by rfl)))) (fun _ _=>rfl))))))),?_⟩
 exact gX (b:=E6) (bh (iZ (eX (aH Bo (ai 2) (aS _))) (bh (ck (cO nI (au (pe (oG (au (cO jO (au (ai 0) az)) az)) (a5 0) rL (oi Hx (ai 1) (au (ai 0) az))) az)) (a5 0))
  (ck (aH Ec (aS _) (ai 2)) (a5 2))) jP)
  (bh (ck (lb (au (ai 1) az)) (a5 3))
  (bh (yW (eX (aH Bs (aH dB (ai 0) (aH lh (ai 3) (wu wI (aS _)))) (ai 1))) (qP (oi qO (ai 3) (au (aH dB (ai 0) (aH lh (ai 3) (wu wI (aS _)))) az))))
  (dR (aH lh (ai 3) (aH p6 (ai 2) (cO jO (au (ai 3) az)))))))) rfl h
def zm:aj->Dm Fl :=
 (aB (aL (ag 0) (mW 2 (fW (hName 2) (fW (hName 3) nY))))
 (aB (fV (aC (aG (iY false) (aG aN (ag 1) (fC (.int 0))) (fC (.str "s")))) (aU (dC (ae (ag 2) (ae (aM bU (ae (c6 (cn (ae (aM cT (ae (ag 3) ah)) ah)) 1 [1,2,3] (hName 0) eY (aG aN (ag 3) (aM CI (ae (ag 2) (ae (ag 0) (ae (aG mN (fC (.int 0)) (aG aN (ag 1) (fC (.int 1)))) ah)))))) ah)) ah)))) aX)
 (aB (eQ (cn (ae (aG jU (aG aN (ag 1) (fC (.int 1))) (fC (.int 4))) ah)) (hName 4) (aL (dC (ae (aM bU (ae (c6 (cn (ae (aM cT (ae (ag 3) ah)) ah)) 1 [3] (hName 0) eY (mG "tuple" hJ (ag 1) (ae (ag 0) ah))) ah)) (ae (ag 2) ah))) (mW 2 (fW (hName 2) (fW (hName 3) nY)))))
 (aU (dC (ae (ag 2) (ae (ag 3) ah)))))))
def x3:List D->Dm D:=gs 5 zm
def CK:Stmt:=top 47
theorem zo:aD ["_law_floor_here","_law_step","_law_right","_law_up","_law_turn"] ["_law_floor_here","_law_step"] (av CK):=⟨rfl,rfl,rfl,by w_fin,rfl,by w_fin,by w_fin⟩
theorem Sw {f:Addr} {fd:FuncData} (D:Def K mg "_law_stepped" CK ["_law_floor_here","_law_step"] f fd) (T:Txt mg)  {fj:Addr} {fq:FuncData} (ft:Def K mg "_law_behind" CJ ["_law_turning_here","_law_s","_law_k"] fj fq) (ie:aA P w K mg base aY 1 fj fq ["_law_turning_here","_law_s","_law_k"] (bg K 3 CI)):aA P w K mg base aY 2 f fd ["_law_floor_here","_law_step"] (bg K 2 x3):=by
 refine D.F.ok zo (fun _ _ _ _ h=>h.1) (fun c A o s H v Q E hr h=>?_)
 refine ⟨_,(@a9 _ _ _ _ _ (vh (pv 0) (yz (n:=2) rfl (pY (gI (i:=2) zo.nd rfl (by w_up)) (pY (gI (i:=3) zo.nd rfl (by w_up)) yy))))
  (@a9 _ _ _ _ _ (@iW _ _ _ _ _ _ _ _ (eZ nQ (@bT _ _ _ _ _ _ _ eu (pv 1) aR (fun _ _=>rfl)) pF (aI _)) (@bC _ _ _ (@dP _ _ _ _ (@kA _ _ _ _ _ (@ao _ _ _ _ _ (pv 2) (@ao _ _ _ _ _ (g7 nC (by rfl) T.bP nD (@ao _ _ _ _ _ (qx (own:=["_law_s"]) (fr:=["_law_step","_law_right","_law_up"]) (js:=[1,2,3]) rfl ⟨⟨rfl,by w_fin,by w_fin,by dsimp only [gn,aQ,Cx.mw,Cx.wish,PyProof.Rows.envOfC,compEnvC,relabel,Env.kindOf];decide +kernel,by w_fin⟩,rfl⟩ (ot rfl T.aW (@ao _ _ _ _ _ (jl jM (by rfl) T.bJ jN (@ao _ _ _ _ _ (pv 3) ay (by rfl))) ay (by rfl))) (fun _ _ _ _ _=>(gI (i:=0) (show ((["_law_s"]:List Str) ++ (["_law_step","_law_right","_law_up"]:List Str)).Nodup by w_fin) rfl (by w_up))) (fun _ _ _ _ _=>rD) (fun _ _ _ _ _=>(@bT _ _ _ _ _ _ _ (rE (K:=K) rfl) (pv 3) (cb ie ft hr (by decide) rfl (@ao _ _ _ _ _ (pv 2) (@ao _ _ _ _ _ (pv 0) (@ao _ _ _ _ _ (dF DA aR (@bT _ _ _ _ _ _ _ (rE (K:=K) rfl) (pv 1) aR (fun _ _=>rfl))) ay (by rfl)) (by rfl)) (by rfl))) (fun _ _=>rfl)))) ay (by rfl))) ay (by rfl)) (by rfl))))) jK)
  (@a9 _ _ _ _ _ (@mx _ _ _ _ _ _ _ _ PassesOwn.never rfl (ot rfl T.aW (@ao _ _ _ _ _ (dF pZ (@bT _ _ _ _ _ _ _ eu (pv 1) aR (fun _ _=>rfl)) aR) ay (by rfl))) (gI (i:=4) zo.nd rfl (by w_up)) (@bC _ _ _ (vh (@kA _ _ _ _ _ (@ao _ _ _ _ _ (g7 nC (by rfl) T.bP nD (@ao _ _ _ _ _ (qx (own:=["_law_s"]) (fr:=["_law_up"]) (js:=[3]) rfl ⟨⟨rfl,by w_fin,by w_fin,by dsimp only [gn,aQ,Cx.mw,Cx.wish,PyProof.Rows.envOfC,compEnvC,relabel,Env.kindOf];decide +kernel,by w_fin⟩,rfl⟩ (ot rfl T.aW (@ao _ _ _ _ _ (jl jM (by rfl) T.bJ jN (@ao _ _ _ _ _ (pv 3) ay (by rfl))) ay (by rfl))) (fun _ _ _ _ _=>(gI (i:=0) (show ((["_law_s"]:List Str) ++ (["_law_up"]:List Str)).Nodup by w_fin) rfl (by w_up))) (fun _ _ _ _ _=>rD) (fun _ _ _ _ _=>(GP (K:=K) rfl PySem.F.plainAttrs_tuple PySem.F.slot_tuple_index PySem.F.type_tuple_index (GO (K:=K) rfl) (pv 1) (@ao _ _ _ _ _ (pv 0) ay (by rfl))))) ay (by rfl))) (@ao _ _ _ _ _ (pv 2) ay (by rfl)) (by rfl))) (yz (n:=2) rfl (pY (gI (i:=2) zo.nd rfl (by w_up)) (pY (gI (i:=3) zo.nd rfl (by w_up)) yy))))) (by intro _;rfl))
  (@bC _ _ _ (@dP _ _ _ _ (@kA _ _ _ _ _ (@ao _ _ _ _ _ (pv 2) (@ao _ _ _ _ _ (pv 3) ay (by rfl)) (by rfl)))))))),?_⟩
 exact gX (b:=zm) (bh (ck (ai 0) (yU (p8 (a5 2) (p8 (a5 3) yT))))
  (bh (iZ (eX (aH nX (aH dB (ai 1) (aS _)) (pN _))) (dR (kG (au (ai 2) (au (cO nI (au (pe (oG (au (cO jO (au (ai 3) az)) az)) (a5 0) rL (aH dB (ai 3) (b8 (F:=CI) (au (ai 2) (au (ai 0) (au (aH Ec (aS _) (aH dB (ai 1) (aS _))) az))) uJ))) az)) az)))) jP)
  (bh (mH (oG (au (aH p6 (aH dB (ai 1) (aS _)) (aS _)) az)) (a5 4) (ck (kG (au (cO nI (au (pe (oG (au (cO jO (au (ai 3) az)) az)) (a5 0) rL (oi Hx (ai 1) (au (ai 0) az))) az)) (au (ai 2) az))) (yU (p8 (a5 2) (p8 (a5 3) yT)))))
  (dR (kG (au (ai 2) (au (ai 3) az))))))) rfl h
def E8:aj->Dm Fl :=
 (aB (eQ (eC (ag 1)) (hName 2) (aL (aM x3 (ae (ag 0) (ae (ag 2) ah))) (hName 0)))
 (aU (ag 0)))
def pW:List D->Dm D:=gs 3 E8
def x4:Stmt:=top 48
theorem Iq:aD ["_law_floor_here","_law_word_here","_law_step"] ["_law_floor_here","_law_word_here"] (av x4):=⟨rfl,rfl,rfl,by w_fin,rfl,by w_fin,by w_fin⟩
theorem Sx {f:Addr} {fd:FuncData} (D:Def K mg "_law_led" x4 ["_law_floor_here","_law_word_here"] f fd) (T:Txt mg)  {d7:Addr} {d8:FuncData} (d9:Def K mg "_law_stepped" CK ["_law_floor_here","_law_step"] d7 d8) (gx:aA P w K mg base aY 2 d7 d8 ["_law_floor_here","_law_step"] (bg K 2 x3)):aA P w K mg base aY 3 f fd ["_law_floor_here","_law_word_here"] (bg K 2 pW):=by
 refine D.F.ok Iq (fun _ _ _ _ h=>h.1) (fun c A o s H v Q E hr h=>?_)
 refine ⟨_,(@a9 _ _ _ _ _ (@mx _ _ _ _ _ _ _ _ PassesOwn.never rfl (pH (pv 1)) (gI (i:=2) Iq.nd rfl (by w_up)) (@bC _ _ _ (@cR (i:=0) _ _ _ _ _ _ Iq.nd rfl (by w_up) (cb gx d9 hr (by decide) rfl (@ao _ _ _ _ _ (pv 0) (@ao _ _ _ _ _ (pv 2) ay (by rfl)) (by rfl))) (by rfl) (by w_up))) (by intro _;rfl))
  (@bC _ _ _ (@dP _ _ _ _ (pv 0)))),?_⟩
 exact gX (b:=E8) (bh (mH (pR (ai 1)) (a5 2) (ck (b8 (F:=x3) (au (ai 0) (au (ai 2) az)) dO) (a5 0)))
  (dR (ai 0))) rfl h
def E9:aj->Dm Fl :=
 (aB (fV (aC (aG (iY false) (aG aN (ag 0) (fC (.int 0))) (fC (.str "s")))) (aU (dC (ae (fC (.str "s")) (ae (sI mh (aG aN (ag 0) (fC (.int 1)))) ah)))) aX)
 (aU (dC (ae (fC (.str "t")) (ae (aG mN (fC (.int 4)) (aG aN (ag 0) (fC (.int 1)))) ah)))))
def CL:List D->Dm D:=gs 1 E9
def CM:Stmt:=top 21
theorem Sy:aD ["step"] ["step"] (av CM):=⟨rfl,rfl,rfl,by w_fin,rfl,by w_fin,by w_fin⟩
theorem Sz {f:Addr} {fd:FuncData} (D:Def K mg "back_step" CM ["step"] f fd) (T:Txt mg)  :aA P w K mg base aY 1 f fd ["step"] (bg K 1 CL):=by
 refine D.F.ok Sy (fun _ _ _ _ h=>h.1) (fun c A o s H v Q E hr h=>?_)
 refine ⟨_,(@a9 _ _ _ _ _ (@iW _ _ _ _ _ _ _ _ (eZ nQ (@bT _ _ _ _ _ _ _ eu (pv 0) aR (fun _ _=>rfl)) pF (aI _)) (@bC _ _ _ (@dP _ _ _ _ (@kA _ _ _ _ _ (@ao _ _ _ _ _ pF (@ao _ _ _ _ _ (vm vn (@bT _ _ _ _ _ _ _ eu (pv 0) aR (fun _ _=>rfl))) ay (by rfl)) (by rfl))))) jK)
  (@bC _ _ _ (@dP _ _ _ _ (@kA _ _ _ _ _ (@ao _ _ _ _ _ pF (@ao _ _ _ _ _ (dF DA aR (@bT _ _ _ _ _ _ _ eu (pv 0) aR (fun _ _=>rfl))) ay (by rfl)) (by rfl)))))),?_⟩
 exact gX (b:=E9) (bh (iZ (eX (aH nX (aH dB (ai 0) (aS _)) (pN _))) (dR (kG (au (pN _) (au (wu wI (aH dB (ai 0) (aS _))) az)))) jP)
  (dR (kG (au (pN _) (au (aH Ec (aS _) (aH dB (ai 0) (aS _))) az))))) rfl h
def Fb:aj->Dm Fl :=
 (aU (aM bU (ae (c6 (pj (ae (ag 0) ah)) 1 [] (hName 0) eY (aM CL (ae (ag 0) ah))) ah)))
def CN:List D->Dm D:=gs 1 Fb
def CO:Stmt:=top 22
theorem SA:aD ["word"] ["word"] (av CO):=⟨rfl,rfl,rfl,by w_fin,rfl,by w_fin,by w_fin⟩
theorem SD {f:Addr} {fd:FuncData} (D:Def K mg "back_word" CO ["word"] f fd) (T:Txt mg)  {ig:Addr} {ik:FuncData} (il:Def K mg "back_step" CM ["step"] ig ik) (jX:aA P w K mg base aY 1 ig ik ["step"] (bg K 1 CL)):aA P w K mg base aY 2 f fd ["word"] (bg K 1 CN):=by
 refine D.F.ok SA (fun _ _ _ _ h=>h.1) (fun c A o s H v Q E hr h=>?_)
 refine ⟨_,(@bC _ _ _ (@dP _ _ _ _ (g7 nC (by rfl) T.bP nD (@ao _ _ _ _ _ (qx (own:=["step"]) (fr:=[]) (js:=[]) rfl ⟨⟨rfl,by w_fin,by w_fin,by dsimp only [gn,aQ,Cx.mw,Cx.wish,PyProof.Rows.envOfC,compEnvC,relabel,Env.kindOf];decide +kernel,by w_fin⟩,rfl⟩ (vQ rfl T.oJ (@ao _ _ _ _ _ (pv 0) ay (by rfl))) (fun _ _ _ _ _=>(gI (i:=0) (show ((["step"]:List Str) ++ ([]:List Str)).Nodup by w_fin) rfl (by w_up))) (fun _ _ _ _ _=>rD) (fun _ _ _ _ _=>(cb jX il hr (by decide) rfl (@ao _ _ _ _ _ (pv 0) ay (by rfl))))) ay (by rfl))))),?_⟩
 exact gX (b:=Fb) (dR (cO nI (au (pe (Rb (au (ai 0) az)) (a5 0) rL (b8 (F:=CL) (au (ai 0) az) ng)) az))) rfl h
def Fc:aj->Dm Fl :=
 (aB (fV (aC (aG (iY true) (aM cT (ae (ag 3) ah)) (aM cT (ae (aG aN (ag 0) (fC (.int 0))) ah)))) (aU (fC (.bl false))) aX)
 (aU (aG (eN false) (aM uL (ae (aM pz (ae (ag 0) (ae (ag 2) ah))) (ae (ag 3) ah))) (ag 1))))
def CP:List D->Dm D:=gs 4 Fc
def CQ:Stmt:=top 38
theorem SE:aD ["one","other","word","p"] ["one","other","word","p"] (av CQ):=⟨rfl,rfl,rfl,by w_fin,rfl,by w_fin,by w_fin⟩
theorem SF {f:Addr} {fd:FuncData} (D:Def K mg "leads_to" CQ ["one","other","word","p"] f fd) (T:Txt mg)  {cu:Addr} {cv:FuncData} (cw:Def K mg "called_anew" zc ["floor","p"] cu cv) (cY:aA P w K mg base aY 2 cu cv ["floor","p"] (bg K 2 uL)) {cZ:Addr} {c4:FuncData} (c5:Def K mg "led_by" uO ["floor","word"] cZ c4) (dg:aA P w K mg base aY 6 cZ c4 ["floor","word"] (bg K 2 pz)):aA P w K mg base aY 7 f fd ["one","other","word","p"] (bg K 4 CP):=by
 refine D.F.ok SE (fun _ _ _ _ h=>h.1) (fun c A o s H v Q E hr h=>?_)
 have hu:=hr.units
 refine ⟨_,(@a9 _ _ _ _ _ (@iW _ _ _ _ _ _ _ _ (eZ zT (jl jM (by rfl) T.bJ jN (@ao _ _ _ _ _ (pv 3) ay (by rfl))) (jl jM (by rfl) T.bJ jN (@ao _ _ _ _ _ (@bT _ _ _ _ _ _ _ eu (pv 0) aR (fun _ _=>rfl)) ay (by rfl))) (aI _)) (@bC _ _ _ (@dP _ _ _ _ nM)) jK)
  (@bC _ _ _ (@dP _ _ _ _ (zY (Gu hu) (cb cY cw hr (by decide) rfl (@ao _ _ _ _ _ (cb dg c5 hr (by decide) rfl (@ao _ _ _ _ _ (pv 0) (@ao _ _ _ _ _ (pv 2) ay (by rfl)) (by rfl))) (@ao _ _ _ _ _ (pv 3) ay (by rfl)) (by rfl))) (pv 1) (aI _))))),?_⟩
 exact gX (b:=Fc) (bh (iZ (eX (aH Bs (cO jO (au (ai 3) az)) (cO jO (au (aH dB (ai 0) (aS _)) az)))) (dR (nV _)) jP)
  (dR (aH (p7 false) (b8 (F:=uL) (au (b8 (F:=pz) (au (ai 0) (au (ai 2) az)) dO) (au (ai 3) az)) dO) (ai 1)))) rfl h
def Fe:aj->Dm Fl :=
 (aB (pQ 3 4 (ae (aG aN (ag 2) (fC (.int 1))) (ae (aG aN (ag 2) (fC (.int 2))) ah)))
 (aB (fV (wx (aC (aG (qY true) (aM CP (ae (ag 0) (ae (ag 1) (ae (ag 3) (ae (ag 4) ah))))) (fC (.bl true)))) (aC (aG (eN true) (aM uP (ae (aM pW (ae (ag 0) (ae (ag 3) ah))) (ae (ag 4) ah))) (ag 1)))) (aU (fC (.bl false))) aX)
 (aB (aL (aM pW (ae (ag 1) (ae (aM CN (ae (ag 3) ah)) ah))) (hName 5))
 (aU (aG (eN true) (aM oN (ae (ag 5) (ae (ag 0) ah))) (dI ah))))))
def x5:List D->Dm D:=gs 6 Fe
def CT:Stmt:=top 50
theorem Ir:aD ["_law_one","_law_other","_law_found","_law_word_here","_law_p","_law_back"] ["_law_one","_law_other","_law_found"] (av CT):=⟨rfl,rfl,rfl,by w_fin,rfl,by w_fin,by w_fin⟩
theorem SG {f:Addr} {fd:FuncData} (D:Def K mg "_law_is_led" CT ["_law_one","_law_other","_law_found"] f fd) (T:Txt mg)  {cG:Addr} {cH:FuncData} (cf:Def K mg "_law_led" x4 ["_law_floor_here","_law_word_here"] cG cH) (cI:aA P w K mg base aY 3 cG cH ["_law_floor_here","_law_word_here"] (bg K 2 pW)) {ip:Addr} {iq:FuncData} (iu:Def K mg "back_word" CO ["word"] ip iq) (jY:aA P w K mg base aY 2 ip iq ["word"] (bg K 1 CN)) {cD:Addr} {cE:FuncData} (cc:Def K mg "callings" xZ ["one","other"] cD cE) (cF:aA P w K mg base aY 4 cD cE ["one","other"] (bg K 2 oN)) {jA:Addr} {jB:FuncData} (jC:Def K mg "leads_to" CQ ["one","other","word","p"] jA jB) (kN:aA P w K mg base aY 7 jA jB ["one","other","word","p"] (bg K 4 CP)) {dk:Addr} {dr:FuncData} (du:Def K mg "_law_anew" zk ["_law_floor_here","_law_p"] dk dr) (dX:aA P w K mg base aY 1 dk dr ["_law_floor_here","_law_p"] (bg K 2 uP)):aA P w K mg base aY 8 f fd ["_law_one","_law_other","_law_found"] (bg K 3 x5):=by
 refine D.F.ok Ir (fun _ _ _ _ h=>h.1) (fun c A o s H v Q E hr h=>?_)
 have hu:=hr.units
 refine ⟨_,(@a9 _ _ _ _ _ (FW (i:=3) (j:=4) rfl Ir.nd rfl rfl (by decide) rfl rfl (@ao _ _ _ _ _ (@bT _ _ _ _ _ _ _ eu (pv 2) aR (fun _ _=>rfl)) (@ao _ _ _ _ _ (@bT _ _ _ _ _ _ _ eu (pv 2) aR (fun _ _=>rfl)) ay (by rfl)) (by rfl)) rfl)
  (@a9 _ _ _ _ _ (@iW _ _ _ _ _ _ _ _ (PW.pt (Du (eZ LL (cb kN jC hr (by decide) rfl (@ao _ _ _ _ _ (pv 0) (@ao _ _ _ _ _ (pv 1) (@ao _ _ _ _ _ (pv 3) (@ao _ _ _ _ _ (pv 4) ay (by rfl)) (by rfl)) (by rfl)) (by rfl))) nM (aI _)) (Ds (eZ (t6 hu) (cb dX du hr (by decide) rfl (@ao _ _ _ _ _ (cb cI cf hr (by decide) rfl (@ao _ _ _ _ _ (pv 0) (@ao _ _ _ _ _ (pv 3) ay (by rfl)) (by rfl))) (@ao _ _ _ _ _ (pv 4) ay (by rfl)) (by rfl))) (pv 1) (aI _))))) (@bC _ _ _ (@dP _ _ _ _ nM)) jK)
  (@a9 _ _ _ _ _ (@cR (i:=5) _ _ _ _ _ _ Ir.nd rfl (by w_up) (cb cI cf hr (by decide) rfl (@ao _ _ _ _ _ (pv 1) (@ao _ _ _ _ _ (cb jY iu hr (by decide) rfl (@ao _ _ _ _ _ (pv 3) ay (by rfl))) ay (by rfl)) (by rfl))) (by rfl) (by w_up))
  (@bC _ _ _ (@dP _ _ _ _ (zY (t6 hu) (cb cF cc hr (by decide) rfl (@ao _ _ _ _ _ (pv 5) (@ao _ _ _ _ _ (pv 0) ay (by rfl)) (by rfl))) (@kY _ _ _ _ ay) (aI _))))))),?_⟩
 exact gX (b:=Fe) (bh (Hy (au (aH dB (ai 2) (aS _)) (au (aH dB (ai 2) (aS _)) az)))
  (bh (iZ (D8 (eX (aH (LK true) (b8 (F:=CP) (au (ai 0) (au (ai 1) (au (ai 3) (au (ai 4) az)))) Et) (nV _))) (eX (aH (p7 true) (b8 (F:=uP) (au (b8 (F:=pW) (au (ai 0) (au (ai 3) az)) dO) (au (ai 4) az)) dO) (ai 1)))) (dR (nV _)) jP)
  (bh (ck (b8 (F:=pW) (au (ai 1) (au (b8 (F:=CN) (au (ai 3) az) ng) az)) dO) (a5 5))
  (dR (aH (p7 true) (b8 (F:=oN) (au (ai 5) (au (ai 0) az)) dO) (lb az)))))) rfl h
def Ff:aj->Dm Fl :=
 (aU (mE (aG Hs (fC (.int 0)) (ag 1)) (mE (aG wG (ag 1) (aM cT (ae (ag 0) ah))) (aG (eN false) (aG dQ (ag 0) (ag 1)) (aM lZ (ae (ag 2) ah))))))
def x6:List D->Dm D:=gs 3 Ff
def CU:Stmt:=top 35
theorem SH:aD ["forms","number","floor"] ["forms","number","floor"] (av CU):=⟨rfl,rfl,rfl,by w_fin,rfl,by w_fin,by w_fin⟩
theorem SI {f:Addr} {fd:FuncData} (D:Def K mg "has_form" CU ["forms","number","floor"] f fd) (T:Txt mg)  {bG:Addr} {bH:FuncData} (a6:Def K mg "form_of" sU ["floor"] bG bH) (bB:aA P w K mg base aY 4 bG bH ["floor"] (bg K 1 lZ)):aA P w K mg base aY 5 f fd ["forms","number","floor"] (bg K 3 x6):=by
 refine D.F.ok SH (fun _ _ _ _ h=>h.1) (fun c A o s H v Q E hr h=>?_)
 have hu:=hr.units
 refine ⟨_,(@bC _ _ _ (@dP _ _ _ _ (FU (zY zV aR (pv 1) (aI _)) (FU (zY zU (pv 1) (jl jM (by rfl) T.bJ jN (@ao _ _ _ _ _ (pv 0) ay (by rfl))) (aI _)) (Jj (zY (Gu hu) (@bT _ _ _ _ _ _ _ lX (pv 0) (pv 1) (fun _ _=>rfl)) (cb bB a6 hr (by decide) rfl (@ao _ _ _ _ _ (pv 2) ay (by rfl))) (aI _))))))),?_⟩
 exact gX (b:=Ff) (dR (Hq (aH Bp (aS _) (ai 1)) (Hq (aH Bo (ai 1) (cO jO (au (ai 0) az))) (aH (p7 false) (aH lh (ai 0) (ai 1)) (b8 (F:=lZ) (au (ai 2) az) ng))))) rfl h
def Fg:aj->Dm Fl :=
 (aB (fV (aC (aG (eN true) (aM lZ (ae (aM pz (ae (ag 0) (ae (aG aN (ag 1) (fC (.int 1))) ah))) ah)) (aM lZ (ae (aG aN (ag 1) (fC (.int 0))) ah)))) (aU (fC (.bl false))) aX)
 (aU (mE (aM x6 (ae (ag 2) (ae (aG aN (ag 1) (fC (.int 2))) (ae (aM sW (ae (aG aN (ag 1) (fC (.int 0))) (ae (fC (.int 1)) ah))) ah)))) (aM x6 (ae (ag 2) (ae (aG aN (ag 1) (fC (.int 3))) (ae (aM sX (ae (aG aN (ag 1) (fC (.int 0))) ah)) ah)))))))
def CV:List D->Dm D:=gs 3 Fg
def CW:Stmt:=top 34
theorem SJ:aD ["floor","row","forms"] ["floor","row","forms"] (av CW):=⟨rfl,rfl,rfl,by w_fin,rfl,by w_fin,by w_fin⟩
theorem SK {f:Addr} {fd:FuncData} (D:Def K mg "row_holds" CW ["floor","row","forms"] f fd) (T:Txt mg)  {bG:Addr} {bH:FuncData} (a6:Def K mg "form_of" sU ["floor"] bG bH) (bB:aA P w K mg base aY 4 bG bH ["floor"] (bg K 1 lZ)) {jD:Addr} {jE:FuncData} (gT:Def K mg "has_form" CU ["forms","number","floor"] jD jE) (jF:aA P w K mg base aY 5 jD jE ["forms","number","floor"] (bg K 3 x6)) {cZ:Addr} {c4:FuncData} (c5:Def K mg "led_by" uO ["floor","word"] cZ c4) (dg:aA P w K mg base aY 6 cZ c4 ["floor","word"] (bg K 2 pz)) {fK:Addr} {fL:FuncData} (fM:Def K mg "sheared" zi ["floor","k"] fK fL) (gS:aA P w K mg base aY 4 fK fL ["floor","k"] (bg K 2 sW)) {dh:Addr} {di:FuncData} (dj:Def K mg "quartered" zj ["floor"] dh di) (dW:aA P w K mg base aY 2 dh di ["floor"] (bg K 1 sX)):aA P w K mg base aY 7 f fd ["floor","row","forms"] (bg K 3 CV):=by
 refine D.F.ok SJ (fun _ _ _ _ h=>h.1) (fun c A o s H v Q E hr h=>?_)
 have hu:=hr.units
 refine ⟨_,(@a9 _ _ _ _ _ (@iW _ _ _ _ _ _ _ _ (eZ (t6 hu) (cb bB a6 hr (by decide) rfl (@ao _ _ _ _ _ (cb dg c5 hr (by decide) rfl (@ao _ _ _ _ _ (pv 0) (@ao _ _ _ _ _ (@bT _ _ _ _ _ _ _ eu (pv 1) aR (fun _ _=>rfl)) ay (by rfl)) (by rfl))) ay (by rfl))) (cb bB a6 hr (by decide) rfl (@ao _ _ _ _ _ (@bT _ _ _ _ _ _ _ eu (pv 1) aR (fun _ _=>rfl)) ay (by rfl))) (aI _)) (@bC _ _ _ (@dP _ _ _ _ nM)) jK)
  (@bC _ _ _ (@dP _ _ _ _ (FU (cb jF gT hr (by decide) rfl (@ao _ _ _ _ _ (pv 2) (@ao _ _ _ _ _ (@bT _ _ _ _ _ _ _ eu (pv 1) aR (fun _ _=>rfl)) (@ao _ _ _ _ _ (cb gS fM hr (by decide) rfl (@ao _ _ _ _ _ (@bT _ _ _ _ _ _ _ eu (pv 1) aR (fun _ _=>rfl)) (@ao _ _ _ _ _ aR ay (by rfl)) (by rfl))) ay (by rfl)) (by rfl)) (by rfl))) (Jj (cb jF gT hr (by decide) rfl (@ao _ _ _ _ _ (pv 2) (@ao _ _ _ _ _ (@bT _ _ _ _ _ _ _ eu (pv 1) aR (fun _ _=>rfl)) (@ao _ _ _ _ _ (cb dW dj hr (by decide) rfl (@ao _ _ _ _ _ (@bT _ _ _ _ _ _ _ eu (pv 1) aR (fun _ _=>rfl)) ay (by rfl))) ay (by rfl)) (by rfl)) (by rfl)))))))),?_⟩
 exact gX (b:=Fg) (bh (iZ (eX (aH (p7 true) (b8 (F:=lZ) (au (b8 (F:=pz) (au (ai 0) (au (aH dB (ai 1) (aS _)) az)) dO) az) ng) (b8 (F:=lZ) (au (aH dB (ai 1) (aS _)) az) ng))) (dR (nV _)) jP)
  (dR (Hq (b8 (F:=x6) (au (ai 2) (au (aH dB (ai 1) (aS _)) (au (b8 (F:=sW) (au (aH dB (ai 1) (aS _)) (au (aS _) az)) dO) az))) uJ) (b8 (F:=x6) (au (ai 2) (au (aH dB (ai 1) (aS _)) (au (b8 (F:=sX) (au (aH dB (ai 1) (aS _)) az) ng) az))) uJ)))) rfl h
def Fh:aj->Dm Fl :=
 (aB (aL (c6 (eC (ag 1)) 1 [] (hName 0) eY (aM lZ (ae (aG aN (ag 0) (fC (.int 0))) ah))) (hName 2))
 (aB (fV (wx (aC (aG (iY false) (aM cT (ae (ag 2) ah)) (fC (.int 0)))) (aC (aG (eN true) (aG dQ (ag 2) (fC (.int 0))) (aM lZ (ae (ag 0) ah))))) (aU (fC (.bl false))) aX)
 (aB (eQ (kI (ae (ag 1) ah)) (mW 2 (fW (hName 3) (fW (hName 4) nY))) (fV (wx (aC (aG (oH false) (aG dQ (ag 2) (ag 3)) (wz pO (ag 2) kj (kW (ag 3))))) (mf (aC (aM CV (ae (ag 0) (ae (ag 4) (ae (ag 2) ah))))))) (aU (fC (.bl false))) aX))
 (aU (fC (.bl true))))))
def CY:List D->Dm D:=gs 5 Fh
def CZ:Stmt:=top 33
theorem Fi:aD ["floor","chart","forms","place","row"] ["floor","chart"] (av CZ):=⟨rfl,rfl,rfl,by w_fin,rfl,by w_fin,by w_fin⟩
theorem SM {f:Addr} {fd:FuncData} (D:Def K mg "chart_holds" CZ ["floor","chart"] f fd) (T:Txt mg)  {bG:Addr} {bH:FuncData} (a6:Def K mg "form_of" sU ["floor"] bG bH) (bB:aA P w K mg base aY 4 bG bH ["floor"] (bg K 1 lZ)) {iw:Addr} {iy:FuncData} (iz:Def K mg "row_holds" CW ["floor","row","forms"] iw iy) (jZ:aA P w K mg base aY 7 iw iy ["floor","row","forms"] (bg K 3 CV)):aA P w K mg base aY 8 f fd ["floor","chart"] (bg K 2 CY):=by
 refine D.F.ok Fi (fun _ _ _ _ h=>h.1) (fun c A o s H v Q E hr h=>?_)
 have hu:=hr.units
 refine ⟨_,(@a9 _ _ _ _ _ (GI (i:=2) (own:=["row"]) (fr:=[]) (js:=[]) rfl Fi.nd rfl rfl ⟨⟨rfl,by w_fin,by w_fin,by dsimp only [gn,aQ,Cx.mw,Cx.wish,PyProof.Rows.envOfC,compEnvC,relabel,Env.kindOf];decide +kernel,by w_fin⟩,rfl⟩ (pH (pv 1)) (fun _ _ _ _ _=>(gI (i:=0) (show ((["row"]:List Str) ++ ([]:List Str)).Nodup by w_fin) rfl (by w_up))) (fun _ _ _ _ _=>rD) (fun _ _ _ _ _=>(cb bB a6 hr (by decide) rfl (@ao _ _ _ _ _ (@bT _ _ _ _ _ _ _ (rE (K:=K) rfl) (pv 0) aR (fun _ _=>rfl)) ay (by rfl)))))
  (@a9 _ _ _ _ _ (@iW _ _ _ _ _ _ _ _ (PW.pt (Du (eZ nQ (jl jM (by rfl) T.bJ jN (@ao _ _ _ _ _ (pv 2) ay (by rfl))) aR (aI _)) (Ds (eZ (t6 hu) (@bT _ _ _ _ _ _ _ lX (pv 2) aR (fun _ _=>rfl)) (cb bB a6 hr (by decide) rfl (@ao _ _ _ _ _ (pv 0) ay (by rfl))) (aI _))))) (@bC _ _ _ (@dP _ _ _ _ nM)) jK)
  (@a9 _ _ _ _ _ (@mx _ _ _ _ _ _ _ _ PassesOwn.never rfl (GN rfl T.i6 (@ao _ _ _ _ _ (pv 1) ay (by rfl))) (yz (n:=2) rfl (pY (gI (i:=3) Fi.nd rfl (by w_up)) (pY (gI (i:=4) Fi.nd rfl (by w_up)) yy))) (@bC _ _ _ (@iW _ _ _ _ _ _ _ _ (PW.pt (Du (eZ (vP hu) (@bT _ _ _ _ _ _ _ lX (pv 2) (pv 3) (fun _ _=>rfl)) (DC Gb (pv 2) F8 (Ab (pv 3))) (by with_unfolding_all rfl)) (Ds (FT (FR (cb jZ iz hr (by decide) rfl (@ao _ _ _ _ _ (pv 0) (@ao _ _ _ _ _ (pv 4) (@ao _ _ _ _ _ (pv 2) ay (by rfl)) (by rfl)) (by rfl)))))))) (@bC _ _ _ (@dP _ _ _ _ nM)) jK)) (by intro _;rfl))
  (@bC _ _ _ (@dP _ _ _ _ nM))))),?_⟩
 exact gX (b:=Fh) (bh (ck (pe (pR (ai 1)) (a5 0) rL (b8 (F:=lZ) (au (aH dB (ai 0) (aS _)) az) ng)) (a5 2))
  (bh (iZ (D8 (eX (aH nX (cO jO (au (ai 2) az)) (aS _))) (eX (aH (p7 true) (aH lh (ai 2) (aS _)) (b8 (F:=lZ) (au (ai 0) az) ng)))) (dR (nV _)) jP)
  (bh (mH (HA (au (ai 1) az)) (yU (p8 (a5 3) (p8 (a5 4) yT))) (iZ (D8 (eX (aH (LQ false) (aH lh (ai 2) (ai 3)) (D9 Hu (ai 2) Hr (Bn (ai 3))))) (Ho (D6 (b8 (F:=CV) (au (ai 0) (au (ai 4) (au (ai 2) az))) uJ)))) (dR (nV _)) jP))
  (dR (nV _))))) rfl h
def Fj:aj->Dm Fl :=
 (aB (aL (dI ah) (hName 3))
 (aB (eQ (cn (ae (aM kX (ae (ag 0) (ae (aG gO (ag 1) (fC (.int 1))) ah))) ah)) (hName 4) (fV (aC (aG (iY false) (aM kX (ae (ag 0) (ae (fC (.int 2)) ah))) (fC (.int 0)))) (fX (mG "list" cM (ag 3) (ae (dC (ae (fC (.str "t")) (ae (aG gO (fC (.int 1)) (aM kX (ae (ag 0) (ae (fC (.int 3)) ah)))) ah))) ah))) (aB (aL (aG gO (fC (.int 1)) (aM kX (ae (ag 0) (ae (ag 2) ah)))) (hName 4))
 (fX (mG "list" cM (ag 3) (ae (dC (ae (fC (.str "s")) (ae (aG dQ (dI (ae (ag 4) (ae (aG mN (fC (.int 0)) (ag 4)) ah))) (aM kX (ae (ag 0) (ae (fC (.int 2)) ah)))) ah))) ah))))))
 (aU (aM bU (ae (ag 3) ah)))))
def uQ:List D->Dm D:=gs 5 Fj
def zp:Stmt:=top 45
theorem Fm:aD ["_law_feed_here","_law_most","_law_great","_law_found","_law_k"] ["_law_feed_here","_law_most","_law_great"] (av zp):=⟨rfl,rfl,rfl,by w_fin,rfl,by w_fin,by w_fin⟩
theorem SN {f:Addr} {fd:FuncData} (D:Def K mg "_law_word" zp ["_law_feed_here","_law_most","_law_great"] f fd) (T:Txt mg)  {bj:Addr} {bp:FuncData} (aO:Def K mg "_law_take" uK ["_law_feed_here","_law_many"] bj bp) (aP:aA P w K mg base aY 1 bj bp ["_law_feed_here","_law_many"] (bg K 2 kX)):aA P w K mg base aY 2 f fd ["_law_feed_here","_law_most","_law_great"] (bg K 3 uQ):=by
 refine D.F.ok Fm (fun _ _ _ _ h=>h.1) (fun c A o s H v Q E hr h=>?_)
 refine ⟨_,(@a9 _ _ _ _ _ (@cR (i:=3) _ _ _ _ _ _ Fm.nd rfl (by w_up) (@kY _ _ _ _ ay) (by rfl) (by w_up))
  (@a9 _ _ _ _ _ (@mx _ _ _ _ _ _ _ _ PassesOwn.never rfl (ot rfl T.aW (@ao _ _ _ _ _ (cb aP aO hr (by decide) rfl (@ao _ _ _ _ _ (pv 0) (@ao _ _ _ _ _ (dF nB (pv 1) aR) ay (by rfl)) (by rfl))) ay (by rfl))) (gI (i:=4) Fm.nd rfl (by w_up)) (@bC _ _ _ (@iW _ _ _ _ _ _ _ _ (eZ nQ (cb aP aO hr (by decide) rfl (@ao _ _ _ _ _ (pv 0) (@ao _ _ _ _ _ aR ay (by rfl)) (by rfl))) aR (aI _)) (@bC _ _ _ (qe (oU PySem.F.plainAttrs_list PySem.F.slot_list_append PySem.F.type_list_append qj (pv 3) (@ao _ _ _ _ _ (@kA _ _ _ _ _ (@ao _ _ _ _ _ pF (@ao _ _ _ _ _ (dF nB aR (cb aP aO hr (by decide) rfl (@ao _ _ _ _ _ (pv 0) (@ao _ _ _ _ _ aR ay (by rfl)) (by rfl)))) ay (by rfl)) (by rfl))) ay (by rfl))))) (@a9 _ _ _ _ _ (@cR (i:=4) _ _ _ _ _ _ Fm.nd rfl (by w_up) (dF nB aR (cb aP aO hr (by decide) rfl (@ao _ _ _ _ _ (pv 0) (@ao _ _ _ _ _ (pv 2) ay (by rfl)) (by rfl)))) (by rfl) (by w_up))
  (@bC _ _ _ (qe (oU PySem.F.plainAttrs_list PySem.F.slot_list_append PySem.F.type_list_append qj (pv 3) (@ao _ _ _ _ _ (@kA _ _ _ _ _ (@ao _ _ _ _ _ pF (@ao _ _ _ _ _ (@bT _ _ _ _ _ _ _ lX (@kY _ _ _ _ (@ao _ _ _ _ _ (pv 4) (@ao _ _ _ _ _ (dF DA aR (pv 4)) ay (by rfl)) (by rfl))) (cb aP aO hr (by decide) rfl (@ao _ _ _ _ _ (pv 0) (@ao _ _ _ _ _ aR ay (by rfl)) (by rfl))) (fun _ _=>rfl)) ay (by rfl)) (by rfl))) ay (by rfl)))))))) (by intro _;rfl))
  (@bC _ _ _ (@dP _ _ _ _ (g7 nC (by rfl) T.bP nD (@ao _ _ _ _ _ (pv 3) ay (by rfl))))))),?_⟩
 exact gX (b:=Fj) (bh (ck (lb az) (a5 3))
  (bh (mH (oG (au (b8 (F:=kX) (au (ai 0) (au (aH nH (ai 1) (aS _)) az)) dO) az)) (a5 4) (iZ (eX (aH nX (b8 (F:=kX) (au (ai 0) (au (aS _) az)) dO) (aS _))) (qP (oi qO (ai 3) (au (kG (au (pN _) (au (aH nH (aS _) (b8 (F:=kX) (au (ai 0) (au (aS _) az)) dO)) az))) az))) (bh (ck (aH nH (aS _) (b8 (F:=kX) (au (ai 0) (au (ai 2) az)) dO)) (a5 4))
  (qP (oi qO (ai 3) (au (kG (au (pN _) (au (aH lh (lb (au (ai 4) (au (aH Ec (aS _) (ai 4)) az))) (b8 (F:=kX) (au (ai 0) (au (aS _) az)) dO)) az))) az))))))
  (dR (cO nI (au (ai 3) az))))) rfl h
def Fn:aj->Dm Fl :=
 (aB (fV (wx (aC (aG (qY true) (aM CY (ae (ag 1) (ae (ag 3) ah))) (fC (.bl true)))) (aC (aG (eN true) (c6 (eC (ag 3)) 1 [2] (hName 0) (aC (aG (eN true) (aM oN (ae (aG aN (ag 0) (fC (.int 0))) (ae (ag 1) ah))) (dI ah))) (ag 0)) (dI ah)))) (aU (fC (.bl false))) aX)
 (aB (eQ (cn (ae (fC (.int 4)) ah)) (hName 4) (aB (aL (aM pW (ae (ag 1) (ae (aM uQ (ae (ag 0) (ae (fC (.int 6)) (ae (fC (.int 5)) ah)))) ah))) (hName 5))
 (fV (aC (aG (iY true) (aM cT (ae (c6 (eC (ag 3)) 1 [5] (hName 0) (aC (aG (eN true) (aM oN (ae (aG aN (ag 0) (fC (.int 0))) (ae (ag 1) ah))) (dI ah))) (ag 0)) ah)) (fC (.int 1)))) (aU (fC (.bl false))) aX)))
 (aU (fC (.bl true)))))
def x8:List D->Dm D:=gs 6 Fn
def C0:Stmt:=top 51
theorem Iu:aD ["_law_feed_here","_law_one","_law_other","_law_chart","_law_turn","_law_here"] ["_law_feed_here","_law_one","_law_other","_law_chart"] (av C0):=⟨rfl,rfl,rfl,by w_fin,rfl,by w_fin,by w_fin⟩
theorem SO {f:Addr} {fd:FuncData} (D:Def K mg "_law_is_apart" C0 ["_law_feed_here","_law_one","_law_other","_law_chart"] f fd) (T:Txt mg)  {cG:Addr} {cH:FuncData} (cf:Def K mg "_law_led" x4 ["_law_floor_here","_law_word_here"] cG cH) (cI:aA P w K mg base aY 3 cG cH ["_law_floor_here","_law_word_here"] (bg K 2 pW)) {fu:Addr} {fw:FuncData} (fz:Def K mg "chart_holds" CZ ["floor","chart"] fu fw) (iA:aA P w K mg base aY 8 fu fw ["floor","chart"] (bg K 2 CY)) {dv:Addr} {dw:FuncData} (dz:Def K mg "_law_word" zp ["_law_feed_here","_law_most","_law_great"] dv dw) (dY:aA P w K mg base aY 2 dv dw ["_law_feed_here","_law_most","_law_great"] (bg K 3 uQ)) {cD:Addr} {cE:FuncData} (cc:Def K mg "callings" xZ ["one","other"] cD cE) (cF:aA P w K mg base aY 4 cD cE ["one","other"] (bg K 2 oN)):aA P w K mg base aY 9 f fd ["_law_feed_here","_law_one","_law_other","_law_chart"] (bg K 4 x8):=by
 refine D.F.ok Iu (fun _ _ _ _ h=>h.1) (fun c A o s H v Q E hr h=>?_)
 have hu:=hr.units
 refine ⟨_,(@a9 _ _ _ _ _ (@iW _ _ _ _ _ _ _ _ (PW.pt (Du (eZ LL (cb iA fz hr (by decide) rfl (@ao _ _ _ _ _ (pv 1) (@ao _ _ _ _ _ (pv 3) ay (by rfl)) (by rfl))) nM (aI _)) (Ds (eZ (t6 hu) (qx (own:=["_law_row"]) (fr:=["_law_other"]) (js:=[2]) rfl ⟨⟨rfl,by w_fin,by w_fin,by dsimp only [gn,aQ,Cx.mw,Cx.wish,PyProof.Rows.envOfC,compEnvC,relabel,Env.kindOf];decide +kernel,by w_fin⟩,rfl⟩ (pH (pv 3)) (fun _ _ _ _ _=>(gI (i:=0) (show ((["_law_row"]:List Str) ++ (["_law_other"]:List Str)).Nodup by w_fin) rfl (by w_up))) (fun _ _ _ _ _=>(DI (eZ (J7 (K:=K) rfl hu) (cb cF cc hr (by decide) rfl (@ao _ _ _ _ _ (@bT _ _ _ _ _ _ _ (rE (K:=K) rfl) (pv 0) aR (fun _ _=>rfl)) (@ao _ _ _ _ _ (pv 1) ay (by rfl)) (by rfl))) (@kY _ _ _ _ ay) (aI _)))) (fun _ _ _ _ _=>(pv 0))) (@kY _ _ _ _ ay) (aI _))))) (@bC _ _ _ (@dP _ _ _ _ nM)) jK)
  (@a9 _ _ _ _ _ (@mx _ _ _ _ _ _ _ _ PassesOwn.never rfl (ot rfl T.aW (@ao _ _ _ _ _ aR ay (by rfl))) (gI (i:=4) Iu.nd rfl (by w_up)) (@a9 _ _ _ _ _ (@cR (i:=5) _ _ _ _ _ _ Iu.nd rfl (by w_up) (cb cI cf hr (by decide) rfl (@ao _ _ _ _ _ (pv 1) (@ao _ _ _ _ _ (cb dY dz hr (by decide) rfl (@ao _ _ _ _ _ (pv 0) (@ao _ _ _ _ _ aR (@ao _ _ _ _ _ aR ay (by rfl)) (by rfl)) (by rfl))) ay (by rfl)) (by rfl))) (by rfl) (by w_up))
  (@bC _ _ _ (@iW _ _ _ _ _ _ _ _ (eZ zT (jl jM (by rfl) T.bJ jN (@ao _ _ _ _ _ (qx (own:=["_law_row"]) (fr:=["_law_here"]) (js:=[5]) rfl ⟨⟨rfl,by w_fin,by w_fin,by dsimp only [gn,aQ,Cx.mw,Cx.wish,PyProof.Rows.envOfC,compEnvC,relabel,Env.kindOf];decide +kernel,by w_fin⟩,rfl⟩ (pH (pv 3)) (fun _ _ _ _ _=>(gI (i:=0) (show ((["_law_row"]:List Str) ++ (["_law_here"]:List Str)).Nodup by w_fin) rfl (by w_up))) (fun _ _ _ _ _=>(DI (eZ (J7 (K:=K) rfl hu) (cb cF cc hr (by decide) rfl (@ao _ _ _ _ _ (@bT _ _ _ _ _ _ _ (rE (K:=K) rfl) (pv 0) aR (fun _ _=>rfl)) (@ao _ _ _ _ _ (pv 1) ay (by rfl)) (by rfl))) (@kY _ _ _ _ ay) (aI _)))) (fun _ _ _ _ _=>(pv 0))) ay (by rfl))) aR (aI _)) (@bC _ _ _ (@dP _ _ _ _ nM)) jK))) (by intro _;rfl))
  (@bC _ _ _ (@dP _ _ _ _ nM)))),?_⟩
 exact gX (b:=Fn) (bh (iZ (D8 (eX (aH (LK true) (b8 (F:=CY) (au (ai 1) (au (ai 3) az)) dO) (nV _))) (eX (aH (p7 true) (pe (pR (ai 3)) (a5 0) (eX (aH (p7 true) (b8 (F:=oN) (au (aH dB (ai 0) (aS _)) (au (ai 1) az)) dO) (lb az))) (ai 0)) (lb az)))) (dR (nV _)) jP)
  (bh (mH (oG (au (aS _) az)) (a5 4) (bh (ck (b8 (F:=pW) (au (ai 1) (au (b8 (F:=uQ) (au (ai 0) (au (aS _) (au (aS _) az))) uJ) az)) dO) (a5 5))
  (iZ (eX (aH Bs (cO jO (au (pe (pR (ai 3)) (a5 0) (eX (aH (p7 true) (b8 (F:=oN) (au (aH dB (ai 0) (aS _)) (au (ai 1) az)) dO) (lb az))) (ai 0)) az)) (aS _))) (dR (nV _)) jP)))
  (dR (nV _)))) rfl h
def Fp:aj->Dm Fl :=
 (aB (eQ (mY (ae (fC (.int 1)) (ae (aG gO (fC (.int 2)) (aM cT (ae (wz pO (ag 0) (kW (fC (.int 1))) (kW (fC (.int 2)))) ah))) ah))) (hName 1) (aB (aL (aM Cc (ae (ag 0) (ae (ag 1) ah))) (hName 2))
 (aB (aL (aM kX (ae (ag 2) (ae (fC (.int 2)) ah))) (hName 3))
 (aB (aL (aM xU (ae (ag 2) (ae (aG gO (fC (.int 1)) (aM kX (ae (ag 2) (ae (fC (.int 5)) ah)))) ah))) (hName 4))
 (aB (aL (aM xU (ae (ag 2) (ae (aM cT (ae (aG aN (ag 4) (fC (.int 0))) ah)) ah))) (hName 5))
 (aB (fV (aC (aG (iY false) (ag 3) (fC (.int 0)))) (aL (aM uP (ae (aM pW (ae (ag 4) (ae (aM uQ (ae (ag 2) (ae (fC (.int 6)) (ae (fC (.int 5)) ah)))) ah))) (ae (aM rO (ae (ag 2) (ae (aM cT (ae (aG aN (ag 4) (fC (.int 0))) ah)) ah))) ah))) (hName 5)) aX)
 (aB (aL (aM (fun as=>rj (as ++ [.int 60])) (ae (ag 4) (ae (ag 5) ah))) (hName 6))
 (aB (fV (aC (aG (iY true) (aG aN (aM (fun as=>rj (as ++ [.int 60])) (ae (ag 5) (ae (ag 4) ah))) (fC (.int 0))) (aG aN (ag 6) (fC (.int 0))))) (aU (fC (.bl false))) aX)
 (aB (fV (lg (aC (aG (iY false) (ag 3) (fC (.int 0)))) (aC (aG (iY false) (aG aN (ag 6) (fC (.int 0))) (fC (.str "apart"))))) (aU (fC (.bl false))) aX)
 (aB (fV (lg (aC (aG (iY false) (aG aN (ag 6) (fC (.int 0))) (fC (.str "led")))) (mf (aC (aM x5 (ae (ag 4) (ae (ag 5) (ae (ag 6) ah))))))) (aU (fC (.bl false))) aX)
 (fV (lg (aC (aG (iY false) (aG aN (ag 6) (fC (.int 0))) (fC (.str "apart")))) (mf (aC (aM x8 (ae (ag 2) (ae (ag 4) (ae (ag 5) (ae (aG aN (ag 6) (fC (.int 1))) ah)))))))) (aU (fC (.bl false))) aX)))))))))))
 (aU (fC (.bl true))))
def Iv:List D->Dm D:=gs 7 Fp
def Fq:Stmt:=top 52
theorem uR:aD ["_law_script","_law_k","_law_feed_here","_law_form","_law_one","_law_other","_law_found"] ["_law_script"] (av Fq):=⟨rfl,rfl,rfl,by w_fin,rfl,by w_fin,by w_fin⟩
theorem x9 {f:Addr} {fd:FuncData} (D:Def K mg "law" Fq ["_law_script"] f fd) (T:Txt mg)  {iB:Addr} {iC:FuncData} (iD:Def K mg "_law_feed" Cd ["_law_script","_law_k"] iB iC) (j3:aA P w K mg base aY 1 iB iC ["_law_script","_law_k"] (bg K 2 Cc)) {bj:Addr} {bp:FuncData} (aO:Def K mg "_law_take" uK ["_law_feed_here","_law_many"] bj bp) (aP:aA P w K mg base aY 1 bj bp ["_law_feed_here","_law_many"] (bg K 2 kX)) {gh:Addr} {gi:FuncData} (eG:Def K mg "_law_floor" Ci ["_law_feed_here","_law_n"] gh gi) (gj:aA P w K mg base aY 3 gh gi ["_law_feed_here","_law_n"] (bg K 2 xU)) {pA:Addr} {pB:FuncData} (km:mQ K mg "meet" CG ["one","other","most"] [V.int 60] pA pB) (pC:aA P w K mg base aY 9 pA pB ["one","other","most"] (bg K 3 rj)) {dk:Addr} {dr:FuncData} (du:Def K mg "_law_anew" zk ["_law_floor_here","_law_p"] dk dr) (dX:aA P w K mg base aY 1 dk dr ["_law_floor_here","_law_p"] (bg K 2 uP)) {cG:Addr} {cH:FuncData} (cf:Def K mg "_law_led" x4 ["_law_floor_here","_law_word_here"] cG cH) (cI:aA P w K mg base aY 3 cG cH ["_law_floor_here","_law_word_here"] (bg K 2 pW)) {bW:Addr} {bX:FuncData} (bK:Def K mg "_law_turning" zb ["_law_feed_here","_law_n"] bW bX) (bY:aA P w K mg base aY 2 bW bX ["_law_feed_here","_law_n"] (bg K 2 rO)) {fA:Addr} {fB:FuncData} (fD:Def K mg "_law_is_led" CT ["_law_one","_law_other","_law_found"] fA fB) (iE:aA P w K mg base aY 8 fA fB ["_law_one","_law_other","_law_found"] (bg K 3 x5)) {dJ:Addr} {dM:FuncData} (dN:Def K mg "_law_is_apart" C0 ["_law_feed_here","_law_one","_law_other","_law_chart"] dJ dM) (fN:aA P w K mg base aY 9 dJ dM ["_law_feed_here","_law_one","_law_other","_law_chart"] (bg K 4 x8)) {dv:Addr} {dw:FuncData} (dz:Def K mg "_law_word" zp ["_law_feed_here","_law_most","_law_great"] dv dw) (dY:aA P w K mg base aY 2 dv dw ["_law_feed_here","_law_most","_law_great"] (bg K 3 uQ)):aA P w K mg base aY 10 f fd ["_law_script"] (bg K 1 Iv):=by
 refine D.F.ok uR (fun _ _ _ _ h=>h.1) (fun c A o s H v Q E hr h=>?_)
 refine ⟨_,(@a9 _ _ _ _ _ (@mx _ _ _ _ _ _ _ _ PassesOwn.never rfl (Ng rfl T.aW (@ao _ _ _ _ _ aR (@ao _ _ _ _ _ (dF nB aR (jl jM (by rfl) T.bJ jN (@ao _ _ _ _ _ (DC Gb (pv 0) (Ab aR) (Ab aR)) ay (by rfl)))) ay (by rfl)) (by rfl))) (gI (i:=1) uR.nd rfl (by w_up)) (@a9 _ _ _ _ _ (@cR (i:=2) _ _ _ _ _ _ uR.nd rfl (by w_up) (cb j3 iD hr (by decide) rfl (@ao _ _ _ _ _ (pv 0) (@ao _ _ _ _ _ (pv 1) ay (by rfl)) (by rfl))) (by rfl) (by w_up))
  (@a9 _ _ _ _ _ (@cR (i:=3) _ _ _ _ _ _ uR.nd rfl (by w_up) (cb aP aO hr (by decide) rfl (@ao _ _ _ _ _ (pv 2) (@ao _ _ _ _ _ aR ay (by rfl)) (by rfl))) (by rfl) (by w_up))
  (@a9 _ _ _ _ _ (@cR (i:=4) _ _ _ _ _ _ uR.nd rfl (by w_up) (cb gj eG hr (by decide) rfl (@ao _ _ _ _ _ (pv 2) (@ao _ _ _ _ _ (dF nB aR (cb aP aO hr (by decide) rfl (@ao _ _ _ _ _ (pv 2) (@ao _ _ _ _ _ aR ay (by rfl)) (by rfl)))) ay (by rfl)) (by rfl))) (by rfl) (by w_up))
  (@a9 _ _ _ _ _ (@cR (i:=5) _ _ _ _ _ _ uR.nd rfl (by w_up) (cb gj eG hr (by decide) rfl (@ao _ _ _ _ _ (pv 2) (@ao _ _ _ _ _ (jl jM (by rfl) T.bJ jN (@ao _ _ _ _ _ (@bT _ _ _ _ _ _ _ eu (pv 4) aR (fun _ _=>rfl)) ay (by rfl))) ay (by rfl)) (by rfl))) (by rfl) (by w_up))
  (@a9 _ _ _ _ _ (@iW _ _ _ _ _ _ _ _ (eZ nQ (pv 3) aR (aI _)) (@bC _ _ _ (@cR (i:=5) _ _ _ _ _ _ uR.nd rfl (by w_up) (cb dX du hr (by decide) rfl (@ao _ _ _ _ _ (cb cI cf hr (by decide) rfl (@ao _ _ _ _ _ (pv 4) (@ao _ _ _ _ _ (cb dY dz hr (by decide) rfl (@ao _ _ _ _ _ (pv 2) (@ao _ _ _ _ _ aR (@ao _ _ _ _ _ aR ay (by rfl)) (by rfl)) (by rfl))) ay (by rfl)) (by rfl))) (@ao _ _ _ _ _ (cb bY bK hr (by decide) rfl (@ao _ _ _ _ _ (pv 2) (@ao _ _ _ _ _ (jl jM (by rfl) T.bJ jN (@ao _ _ _ _ _ (@bT _ _ _ _ _ _ _ eu (pv 4) aR (fun _ _=>rfl)) ay (by rfl))) ay (by rfl)) (by rfl))) ay (by rfl)) (by rfl))) (by rfl) (by w_up))) jK)
  (@a9 _ _ _ _ _ (@cR (i:=6) _ _ _ _ _ _ uR.nd rfl (by w_up) (KG pC (hr.mono (by decide)) rfl km.m km.F.kp km.bd oY (@ao _ _ _ _ _ (pv 4) (@ao _ _ _ _ _ (pv 5) ay (by rfl)) (by rfl))) (by rfl) (by w_up))
  (@a9 _ _ _ _ _ (@iW _ _ _ _ _ _ _ _ (eZ zT (@bT _ _ _ _ _ _ _ eu (KG pC (hr.mono (by decide)) rfl km.m km.F.kp km.bd oY (@ao _ _ _ _ _ (pv 5) (@ao _ _ _ _ _ (pv 4) ay (by rfl)) (by rfl))) aR (fun _ _=>rfl)) (@bT _ _ _ _ _ _ _ eu (pv 6) aR (fun _ _=>rfl)) (aI _)) (@bC _ _ _ (@dP _ _ _ _ nM)) jK)
  (@a9 _ _ _ _ _ (@iW _ _ _ _ _ _ _ _ (PW.pt (Dt (eZ nQ (pv 3) aR (aI _)) (Dr (eZ nQ (@bT _ _ _ _ _ _ _ eu (pv 6) aR (fun _ _=>rfl)) pF (aI _))))) (@bC _ _ _ (@dP _ _ _ _ nM)) jK)
  (@a9 _ _ _ _ _ (@iW _ _ _ _ _ _ _ _ (PW.pt (Dt (eZ nQ (@bT _ _ _ _ _ _ _ eu (pv 6) aR (fun _ _=>rfl)) pF (aI _)) (Dr (FT (FR (cb iE fD hr (by decide) rfl (@ao _ _ _ _ _ (pv 4) (@ao _ _ _ _ _ (pv 5) (@ao _ _ _ _ _ (pv 6) ay (by rfl)) (by rfl)) (by rfl)))))))) (@bC _ _ _ (@dP _ _ _ _ nM)) jK)
  (@bC _ _ _ (@iW _ _ _ _ _ _ _ _ (PW.pt (Dt (eZ nQ (@bT _ _ _ _ _ _ _ eu (pv 6) aR (fun _ _=>rfl)) pF (aI _)) (Dr (FT (FR (cb fN dN hr (by decide) rfl (@ao _ _ _ _ _ (pv 2) (@ao _ _ _ _ _ (pv 4) (@ao _ _ _ _ _ (pv 5) (@ao _ _ _ _ _ (@bT _ _ _ _ _ _ _ eu (pv 6) aR (fun _ _=>rfl)) ay (by rfl)) (by rfl)) (by rfl)) (by rfl)))))))) (@bC _ _ _ (@dP _ _ _ _ nM)) jK))))))))))) (by intro _;rfl))
  (@bC _ _ _ (@dP _ _ _ _ nM))),?_⟩
 exact gX (b:=Fp) (bh (mH (Qb (au (aS _) (au (aH nH (aS _) (cO jO (au (D9 Hu (ai 0) (Bn (aS _)) (Bn (aS _))) az))) az))) (a5 1) (bh (ck (b8 (F:=Cc) (au (ai 0) (au (ai 1) az)) dO) (a5 2))
  (bh (ck (b8 (F:=kX) (au (ai 2) (au (aS _) az)) dO) (a5 3))
  (bh (ck (b8 (F:=xU) (au (ai 2) (au (aH nH (aS _) (b8 (F:=kX) (au (ai 2) (au (aS _) az)) dO)) az)) dO) (a5 4))
  (bh (ck (b8 (F:=xU) (au (ai 2) (au (cO jO (au (aH dB (ai 4) (aS _)) az)) az)) dO) (a5 5))
  (bh (iZ (eX (aH nX (ai 3) (aS _))) (ck (b8 (F:=uP) (au (b8 (F:=pW) (au (ai 4) (au (b8 (F:=uQ) (au (ai 2) (au (aS _) (au (aS _) az))) uJ) az)) dO) (au (b8 (F:=rO) (au (ai 2) (au (cO jO (au (aH dB (ai 4) (aS _)) az)) az)) dO) az)) dO) (a5 5)) jP)
  (bh (ck (Mk (m:=2) (F:=rj) (Ca:=[.int 60]) (au (ai 4) (au (ai 5) az)) dO rfl (fun _ _=>.cons (.int _) (.nil))) (a5 6))
  (bh (iZ (eX (aH Bs (aH dB (Mk (m:=2) (F:=rj) (Ca:=[.int 60]) (au (ai 5) (au (ai 4) az)) dO rfl (fun _ _=>.cons (.int _) (.nil))) (aS _)) (aH dB (ai 6) (aS _)))) (dR (nV _)) jP)
  (bh (iZ (D7 (eX (aH nX (ai 3) (aS _))) (eX (aH nX (aH dB (ai 6) (aS _)) (pN _)))) (dR (nV _)) jP)
  (bh (iZ (D7 (eX (aH nX (aH dB (ai 6) (aS _)) (pN _))) (Ho (D6 (b8 (F:=x5) (au (ai 4) (au (ai 5) (au (ai 6) az))) uJ)))) (dR (nV _)) jP)
  (iZ (D7 (eX (aH nX (aH dB (ai 6) (aS _)) (pN _))) (Ho (D6 (b8 (F:=x8) (au (ai 2) (au (ai 4) (au (ai 5) (au (aH dB (ai 6) (aS _)) az)))) Et)))) (dR (nV _)) jP)))))))))))
  (dR (nV _))) rfl h
end
theorem rQ {st:Store} {f:Nat} {n:Int} (hf:bz st f) (h0:0 < n) (h1:n < 1073741824):Wp (kX [.ref f,.int n] st) fun d st'=>∃ k:Int,d=.int k/\0<=k/\k < n/\bz st' f/\Ex [f] st st':=by
 obtain ⟨o,m,e,o0,m0,m1⟩:=hf
 have hfl:=gZ e
 refine gQ ?_
 show Ws (Ew [some (.ref f),some (.int n),none,none] st) _ _ _ _
 unfold Ew
 refine aZ (gY ?_)
 set_option simprocs false in simp only [cm,de e,lA e]
 refine ⟨fun ho=>?_,fun ho=>?_⟩
 ·refine aZ (cK ?_)
  set_option simprocs false in simp only [cm,de e]
  refine ⟨h0,aZ (sP ?_)⟩
  set_option simprocs false in simp only [cm,de e,lA e,(show lq [D.int o,D.int m].length 0=some 0 from BV)]
  refine ⟨⟨h0,h1⟩,eI ?_⟩
  w_how
  refine ⟨Vy _ (by omega),VE _ h0,⟨o / n,m,?_,Int.ediv_nonneg o0 (by omega),m0,m1⟩,Ex.refl.put (by simp)⟩
  rw [UL hfl]
 ·refine iP (aZ (cK ?_))
  set_option simprocs false in simp only [cm,de e]
  refine ⟨by omega,by omega,aZ (sP ?_)⟩
  set_option simprocs false in simp only [cm,de e,lA e,(show lq [D.int o,D.int m].length 1=some 1 from BW)]
  refine ⟨by omega,by omega,eI ?_⟩
  have e2:(st.set f (.lst [.int o,.int ((m * 48271 % 2147483647 * 40692 + 30103) % 2147483399 + 1)]))[f]?=some (.lst [.int o,.int ((m * 48271 % 2147483647 * 40692 + 30103) % 2147483399 + 1)]):=UL hfl
  set_option simprocs false in simp only [cm,de e2]
  refine ⟨by omega,by omega,h0,Vy _ (by omega),VE _ h0,⟨_,_,e2,o0,by omega,by omega⟩,Ex.refl.put (by simp)⟩
theorem SQ {st:Store} {a:Nat} {ns:List Int} {k:Nat} (hs:items st a=some (ns.map D.int)) (hk:k<=100):Wp (Cc [.ref a,.int (k:Int)] st) fun d st'=>d=.ref st.length/\bz st' st.length/\Ex [] st st':=by
 refine gQ ?_
 show Ws (Eu [some (.ref a),some (.int (k:Int)),none,none] st) _ _ _ _
 unfold Eu
 refine aZ (cK ?_)
 w_how
 refine ⟨by omega,aZ (xr (N:=fun δ st1=>st1=st/\∃ c:Int,δ=[some (.ref a),some (.int (k:Int)),some (.int c),none]) (gY ?_) ?_)⟩
 ·set_option simprocs false in simp only [cm,hs]
  refine ⟨fun h=>cK ?_,fun h=>gY ?_⟩
  ·have h:=of_decide_eq_true h
   rw [Uu] at h
   set_option simprocs false in simp only [cm,hs]
   refine ⟨.int (ns[k]'(by omega)),Ad (by rw [UB,Uv];rfl),_,rfl⟩
  ·set_option simprocs false in simp only [cm,hs]
   refine ⟨fun h=>cK ?_,fun h=>iP ⟨rfl,_,rfl⟩⟩
   have h:=of_decide_eq_true h
   obtain ⟨v,hv,hm⟩:=vK (xs:=ns.map D.int) (i:=(k:Int) % ((ns.map D.int).length:Int)) (Vy _ (by omega)) (VE _ h)
   obtain ⟨c,_,rfl⟩:=UH.mp hm
   set_option simprocs false in simp only [cm,hs]
   refine ⟨h,_,hv,?_⟩
   w_how
   exact ⟨by omega,by omega,by omega,_,rfl⟩
 ·rintro δ st1 ⟨rfl,c,rfl⟩
  refine aZ (cK ?_)
  w_how
  refine aZ (xr (N:=fun δ st2=>st2=st1/\∃ o:Int,0<=o/\δ=[some (.ref a),some (.int (k:Int)),some (.int c),some (.int o)]) (gY ?_) ?_)
  ·w_how
   refine ⟨by decide,fun h=>cK ?_,fun h=>iP ⟨rfl,0,by decide,rfl⟩⟩
   have h:=of_decide_eq_true h
   w_how
   exact ⟨c,Int.le_trans (by decide) h,rfl⟩
  ·rintro δ st2 ⟨rfl,o,o0,rfl⟩
   refine eI ?_
   w_how
   have h1:0<=c % 2147483629:=Vy _ (by decide)
   have h2:c % 2147483629 < 2147483629:=VE _ (by decide)
   refine ⟨by omega,by omega,by omega,by omega,by omega,by rfl,⟨_,_,jQ,o0,?_,?_⟩,Ex.cU _⟩
   ·have:=Vy ((c % 2147483629 * 48271 + 40692 * (k:Int)) ^ (5:Int).toNat) (show (2147483629:Int)≠0 by decide)
    omega
   ·have:=VE ((c % 2147483629 * 48271 + 40692 * (k:Int)) ^ (5:Int).toNat) (show (0:Int) < 2147483629 by decide)
    omega
theorem Iw {st:Store} {f:Nat} {n:Nat} (hf:bz st f) (hn:n<=100):Wp (rO [.ref f,.int (n:Int)] st) fun d st'=>∃ xs:List Int,d=.tup (xs.map D.int)/\af.Tn n xs/\bz st' f/\Ex [f] st st':=by
 have hfl:=hf.lt
 refine gQ ?_
 show Ws (Ey [some (.ref f),some (.int (n:Int)),none,none] st) _ _ _ _
 unfold Ey
 refine aZ (cK ?_)
 w_how
 have e1:((n:Int) - 0).toNat=n:=by omega
 rw [e1,pT]
 refine ⟨by unfold pP;rw [UO,decide_eq_true_eq];exact ⟨by omega,kJ (by omega)⟩,aZ (cK ?_)⟩
 w_how
 refine ⟨rfl,aZ (yZ (fun m δ st2=>∃ L xs:List Int,m=L.length/\δ=[some (.ref f),some (.int (n:Int)),some (.ref (st ++ [O.iT 0 (n:Int)]).length),some (.tup (xs.map D.int))]/\st2[(st ++ [O.iT 0 (n:Int)]).length]?=some (.lst (L.map D.int))/\(xs ++ L).Perm (af.upto n)/\bz st2 f/\Ex [f] st st2) n (Vt hn (by decide)) ⟨af.upto n,[],(af.oC n).symm,rfl,jQ,Wc _,hf.keep ((Ex.cU _).app _),(Ex.cU _).app _⟩ ?_)⟩
 have hl:(st ++ [O.iT 0 (n:Int)]).length≠f:=by rw [UG];omega
 have hls:st.length<=(st ++ [O.iT 0 (n:Int)]).length:=by rw [UG];omega
 generalize (st ++ [O.iT 0 (n:Int)]).length=l at hl hls ⊢
 rintro m δ st2 ⟨L,xs,rfl,rfl,hL,pm,hf2,k2⟩
 have hlen:(xs ++ L).length=n:=by rw [pm.length_eq,af.oC]
 rw [UG] at hlen
 refine dD ?_
 intro iF hQ
 set_option simprocs false in simp only [cm,LD (L:=L) (M:=[]) (st:=st2 ++ [O.lst []]) (de (lP hL)) rM]
 refine ⟨rfl,hQ _ _ ⟨fun h=>?_,fun h=>?_⟩⟩
 ·have hne:L≠[]:=by simpa using h
  have hpos:0 < L.length:=Ww.mpr hne
  have Fs:(st2 ++ [O.lst []])[l]?=some (.lst (L.map D.int)):=lP hL
  have f3:bz (st2 ++ [O.lst []]) f:=hf2.keep (Ex.cU _)
  have k3:Ex [f] st (st2 ++ [O.lst []]):=k2.app _
  generalize (st2 ++ [O.lst []])=st3 at Fs f3 k3 ⊢
  refine cK ?_
  refine dD ?_
  intro iF hQ
  set_option simprocs false in simp only [cm,de Fs]
  refine ⟨pS (by rw [de Fs];rfl),?_⟩
  refine aV (rQ (n:=((L.map D.int).length:Int)) f3 (by rw [Uu];omega) (by rw [Uu];omega)) ?_
  rintro d l6 ⟨k,rfl,k0,k1,f4,k4⟩
  rw [Uu] at k1
  have Mm:=k4.keep _ _ Fs (by simpa using hl)
  have nS:k.toNat < L.length:=by omega
  set_option simprocs false in simp only [cm,lA Mm]
  have hk':((k.toNat:Nat):Int)=k:=U0 k0
  refine ⟨by omega,k.toNat,?_,D.int L[k.toNat],by rw [UB,Uv nS];rfl,rfl,kJ ?_,hQ _ _ ⟨(L.eraseIdx k.toNat).length,?_,L.eraseIdx k.toNat,xs ++ [L[k.toNat]],rfl,?_,?_,?_,?_,?_⟩⟩
  ·rw [<- hk',UK]
   exact (Ga (yG (by rw [Uu];exact nS))).1
  ·simp only [Uu,U1,List.length_nil];omega
  ·rw [List.length_eraseIdx,if_pos nS];omega
  ·rw [US];rfl
  ·rw [UL (gZ Mm),Q0]
  ·refine List.Perm.trans ?_ pm
   rw [V9]
   exact List.Perm.append_left xs (Q5 nS)
  ·exact f4.ne hl
  ·exact (k3.trans k4).loc hls
 ·have he:L=[]:=by simpa using h
  subst he
  refine eI ?_
  kspl_open hQ
  exact hQ _ _ ⟨xs,rfl,by simpa [af.Tn] using pm,hf2.keep (Ex.cU _),k2.app _⟩
theorem SR {st:Store} {xs ys:List Int} {n:Nat} (tx:af.Tn n xs) (ty:af.Tn n ys) (n0:0 < n) (hn:n<=100):Wp (sT [b9 xs ys] st) fun d st'=>∃ (g:Nat) (F:List Int),d=.ref g/\items st' g=some (F.map D.int)/\(∀ x,x∈F↔af.iS xs ys x)/\F.length<=n/\af.Od xs ys F/\Ex [] st st':=by
 have hlx:=tx.length
 have C1:=ty.length
 refine gQ ?_
 show Ws (EA [some (b9 xs ys),none,none,none,none] st) _ _ _ _
 unfold EA
 refine aZ (cK ?_)
 kspl_open hQ
 refine ⟨rfl,hQ _ _ (aZ (m8 (aE 0 (n + 1)) (fun i δ st2=>∃ (v2 v3 v4:Option D) (F:List Int),δ=[some (b9 xs ys),some (.ref st.length),v2,v3,v4]/\st2[st.length]?=some (.lst (F.map D.int))/\af.Fo xs ys F/\(af.Cl xs ys F\/i + 1<=F.length)/\Ex [] st st2) ?_ ?_ ?_ ?_))⟩
 ·unfold b9
  kspl_open hQ
  have e0:((1:Int) + ((xs.map D.int).length:Int)).toNat=n + 1:=by rw [Uu];omega
  refine ⟨by rw [Uu];omega,hQ _ _ ⟨by rw [e0],none,none,none,[0],rfl,jQ,af.Fo.one xs ys,.inr (Ux _),Ex.cU _⟩⟩
 ·rw [iM];omega
 ·rintro i d δ st2 hd ⟨v2,v3,v4,F,rfl,Iy,hF,hcl,k2⟩
  kspl_open hQ
  refine hQ _ _ (m8 [.tup (xs.map D.int),.tup (ys.map D.int)] (fun m δ st3=>∃ (v3 v4:Option D) (G:List Int),δ=[some (b9 xs ys),some (.ref st.length),some d,v3,v4]/\st3[st.length]?=some (.lst (G.map D.int))/\af.Fo xs ys G /\
    (m=0->G=F)/\(m=1->F <+: G/\∀ x∈F,af.app xs x∈G)/\(2<=m->∃ F1,F <+: F1/\F1 <+: G/\(∀ x∈F,af.app xs x∈F1)/\∀ x∈F1,af.app ys x∈G)/\Ex [] st st3) ?_ (by simp) ?_ ?_)
  ·unfold b9
   kspl_open hQ
   exact hQ _ _ ⟨rfl,v3,v4,F,rfl,Iy,hF,fun _=>rfl,fun z=>by omega,fun z=>by omega,k2⟩
  ·rintro m z δ st3 hm ⟨v3,v4,G,rfl,C2,hG,m0,m1,_,k3⟩
   have hm2:m < 2:=gZ hm
   obtain ⟨zs,rfl,hz,em⟩:∃ (zs:List Int),z=.tup (zs.map D.int)/\(zs=xs\/zs=ys)/\((m=0/\zs=xs)\/(m=1/\zs=ys)):=by
    rcases (show m=0\/m=1 by omega) with rfl | rfl
    ·exact ⟨xs,by simpa using hm.symm,.inl rfl,.inl ⟨rfl,rfl⟩⟩
    ·exact ⟨ys,by simpa using hm.symm,.inr rfl,.inr ⟨rfl,rfl⟩⟩
   have tz:af.Tn n zs:=by rcases hz with rfl | rfl;exact tx;exact ty
   have Iz:=tz.length
   have go:∀ x,af.iS xs ys x->af.iS xs ys (af.app zs x):=fun x h=>by rcases hz with rfl | rfl;exact h.r;exact h.u
   kspl_open hQ
   refine hQ _ _ (Qu (G.map D.int) st3.length (fun j δ l6=>∃ (v4:Option D) (G':List Int),δ=[some (b9 xs ys),some (.ref st.length),some d,some (.tup (zs.map D.int)),v4]/\l6[st.length]?=some (.lst (G'.map D.int))/\l6[st3.length]?=some (.lst (G.map D.int))/\af.Fo xs ys G'/\G <+: G'/\(∀ i',i' < j->∀ x,G[i']?=some x->af.app zs x∈G')/\Ex [] st l6) ?_ ?_ ?_ ?_ ?_)
   ·refine dD ?_
    intro iF hQ
    set_option simprocs false in simp only [cm,de C2]
    exact hQ _ _ ⟨rfl,v4,G,rfl,lP C2,jQ,hG,Wg _,fun i' h=>absurd h (U9 _),k3.app _⟩
   ·rw [Uu]
    have:=hG.len tx ty n0
    omega
   ·rintro j δ l6 ⟨_,_,_,_,h,_⟩
    exact de h
   ·rintro j Ug δ l6 hj0 ⟨v4,G',rfl,ya,sY,yb,pG,hd',k4⟩
    obtain ⟨y,hj,rfl⟩:=Em hj0
    have hjl:=gZ hj
    have hR:=hG.mt _ (UJ hj)
    obtain ⟨y0,y1⟩:=hR.bound tx ty n0
    have at':=p9 (xs:=zs) y0 (by rw [Iz];exact y1)
    have hnext:∀ Ft:List Int,G' <+: Ft->af.app zs y∈Ft->∀ i',i' < j + 1->∀ x,G[i']?=some x->af.app zs x∈Ft:=fun Ft p h i' hi' x hx=>by
     by_cases e:i'=j
     ·subst e
      rw [hj] at hx
      cases hx;exact h
     ·exact p.subset (hd' i' (by omega) x hx)
    kspl_open hQ
    refine hQ _ _ (gY ?_)
    refine dD ?_
    intro jI cx
    set_option simprocs false in simp only [cm,at',HQ (st:=l6) (c:=.ref st.length) (ns:=G') (de ya)]
    refine cx _ _ ⟨fun hcn=>?_,fun hcn=>?_⟩
    ·have hnm:af.app zs y ∉ G':=fun z=>by rw [VF.mpr z] at hcn;cases hcn
     have Mp:af.Fo xs ys (G' ++ [af.app zs y]):=by
      refine ⟨⟨VW _ yb.z,?_,fun x hx=>?_⟩,yb.od.snoc (pG.subset (UJ hj)) (hz.imp (fun e=>by rw [e]) fun e=>by rw [e])⟩
      ·rw [Wm]
       refine ⟨yb.nd,by simp,fun x hx y' hy e=>hnm ?_⟩
       have e2:y'=af.app zs y:=by simpa using hy
       rw [<- e2,<- e];exact hx
      ·rcases U5.mp hx with h | h
       ·exact yb.mt x h
       ·have e2:x=af.app zs y:=by simpa using h
        rw [e2];exact go _ hR
     have hlen2:=Mp.len tx ty n0
     rw [UG] at hlen2
     refine qS ?_
     refine dD ?_
     intro C3 rm
     set_option simprocs false in simp only [cm,at',lA ya]
     refine ⟨pS (by rw [de ya];rfl),kJ (by rw [Uu];simp at hlen2;omega),rm _ _ ⟨_,G' ++ [af.app zs y],rfl,?_,?_,Mp,pG.trans (WA _ _),hnext _ (WA _ _) (by simp),k4.loc (Ux _)⟩⟩
     ·rw [UL (gZ ya),US];rfl
     ·rw [UX (by have:=gZ C2;omega)];exact sY
    ·have hcn:G'.contains (af.app zs y)=true:=by simpa using hcn
     exact iP ⟨_,G',rfl,ya,sY,yb,pG,hnext G' (Wg _) (VF.mp hcn),k4⟩
   ·rintro δ l6 ⟨v4,G',rfl,ya,sY,yb,pG,hd',k4⟩
    rw [Uu] at hd'
    have hall:∀ x∈G,af.app zs x∈G':=fun x hx=>by
     obtain ⟨i',hi',e⟩:=VM hx
     exact hd' i' hi' x (by rw [Uv hi',e])
    refine ⟨_,_,G',rfl,ya,yb,fun z=>by omega,fun z=>?_,fun z=>?_,k4⟩
    ·rcases em with ⟨rfl,rfl⟩ | ⟨rfl,_⟩
     ·have:=m0 rfl
      subst this
      exact ⟨pG,hall⟩
     ·omega
    ·rcases em with ⟨rfl,_⟩ | ⟨rfl,rfl⟩
     ·omega
     ·obtain ⟨p1,c1⟩:=m1 rfl
      exact ⟨G,p1,pG,c1,hall⟩
  ·rintro δ st3 ⟨v3,v4,G,rfl,C2,hG,_,_,m2,k3⟩
   obtain ⟨F1,p1,p2,c1,c2⟩:=m2 (Ux 2)
   exact ⟨_,_,_,G,rfl,C2,hG,af.round hF.toFd hG.toFd p1 p2 c1 c2 hcl,k3⟩
 ·rintro δ st2 ⟨v2,v3,v4,F,rfl,Iy,hF,hcl,k2⟩
  rw [iM] at hcl
  have hl:=hF.len tx ty n0
  have hc:af.Cl xs ys F:=hcl.resolve_right (by omega)
  refine eI ?_
  kspl_open hQ
  exact hQ _ _ ⟨_,F,rfl,de Iy,fun x=>⟨hF.mt x,fun h=>hc.all hF.z h⟩,hl,hF.od,k2⟩
theorem SS {st:Store} {xs ys:List Int} {n:Nat} (tx:af.Tn n xs) (ty:af.Tn n ys) (n0:0 < n) (hn:n<=100):Wp (sT [b9 xs ys] st) fun d st'=>∃ (g:Nat) (F:List Int),d=.ref g/\items st' g=some (F.map D.int)/\(∀ x,x∈F↔af.iS xs ys x)/\F.length<=n/\Ex [] st st' :=
 aV (SR tx ty n0 hn) fun d st' ⟨g,F,h1,h2,h3,h4,_,h5⟩=>⟨g,F,h1,h2,h3,h4,h5⟩
theorem Mq {st:Store} {δ:aj} {X Y:List Int} {n:Nat} {Q:D->Store->Prop} (tX:af.Tn n X) (tY:af.Tn n Y) (n0:0 < n) (hn:n<=100) (h1:δ[1]?=some (some (.int (n:Int)))) (h6:δ[6]?=some (some (b9 X Y)))
  (q:∀ (L:List Int) (st':Store),L.length<=n->L.Nodup->(∀ x,x∈L↔(0<=x/\x < (n:Int)/\¬ af.iS X Y x))->Ex [] st st'->Q (.ref st'.length) (st' ++ [.lst (L.map D.int)])) :
  Wp (c6 (cn (ae (ag 1) ah)) 1 [6] (hName 0) (aC (aG (qN true) (ag 0) (aM sT (ae (ag 1) ah)))) (ag 0) δ st) Q:=by
 have SU:δ.getD 6 none=some (b9 X Y):=by rw [UA,h6];rfl
 refine Ej (aE 0 n) (fun j zs δ' iQ=>∃ (v:Option D) (L:List Int),δ'=[v,some (b9 X Y)]/\zs=L.map D.int/\L.length<=j/\L.Nodup/\(∀ x,x∈L↔(0<=x/\x < (j:Int)/\¬ af.iS X Y x))/\Ex [] st iQ) ?_ (by rw [iM];omega) ?_ ?_ ?_
 ·refine dD ?_
  intro iF hQ
  set_option simprocs false in simp only [cm,h1]
  refine ⟨by omega,hQ _ _ ⟨fun i ys δ st hi _=>?_,none,[],?_,rfl,Ux _,List.nodup_nil,fun x=>⟨(fun h=>nomatch h),fun h=>by omega⟩,Ex.refl⟩⟩
  ·rw [UK]
   show (if i<=(aE 0 n).length then some (aE 0 n)[i]? else none)=_
   rw [if_pos hi]
  ·unfold nZ
   simp only [UT,Vg,SU]
   rfl
 ·rintro j zs δ' iQ ⟨v,L,_,rfl,hl,_⟩
  rw [Uu];exact hl
 ·rintro j d zs δ' iQ hd ⟨v,L,rfl,rfl,oj,nd,hL,k8⟩
  have hjl:=gZ hd
  rw [iM] at hjl
  rw [yX hjl] at hd
  cases hd
  rw [Wj]
  kspl_open hQ
  refine hQ _ _ ?_
  kspl_open cx
  refine aV (SS (st:=iQ) tX tY n0 hn) ?_
  rintro d nK ⟨g,F,rfl,hg,hF,Uh,k9⟩
  rw [HQ (c:=.ref g) (ns:=F) hg]
  refine ⟨_,rfl,cx _ _ ⟨fun hc=>?_,fun hc=>?_⟩⟩
  ·have hR:¬ af.iS X Y (j:Int):=fun h=>by rw [VF.mpr ((hF _).mpr h)] at hc;cases hc
   kspl_open rm
   refine rm _ _ ⟨_,L ++ [(j:Int)],rfl,by rw [US];rfl,by rw [UG];simp;omega,?_,fun x=>?_,k8.trans k9⟩
   ·rw [Wm]
    refine ⟨nd,by simp,fun x hx y hy e=>?_⟩
    have e2:y=(j:Int):=by simpa using hy
    have:=((hL x).mp hx).2.1
    omega
   ·rw [U5,hL x]
    constructor
    ·rintro (⟨a1,a2,a3⟩ | h)
     ·exact ⟨a1,by omega,a3⟩
     ·have e2:x=(j:Int):=by simpa using h
      rw [e2];exact ⟨by omega,by omega,hR⟩
    ·rintro ⟨a1,a2,a3⟩
     rcases Int.lt_or_le x (j:Int) with h | h
     ·exact .inl ⟨a1,h,a3⟩
     ·exact .inr (by simp;omega)
  ·have hc:F.contains (j:Int)=true:=by simpa using hc
   have hR:=(hF _).mp (VF.mp hc)
   refine ⟨_,L,rfl,rfl,by omega,nd,fun x=>?_,k8.trans k9⟩
   rw [hL x]
   constructor
   ·rintro ⟨a1,a2,a3⟩;exact ⟨a1,by omega,a3⟩
   ·rintro ⟨a1,a2,a3⟩
    refine ⟨a1,?_,a3⟩
    rcases Int.lt_or_le x (j:Int) with h | h
    ·exact h
    ·exact absurd hR (by rw [show (j:Int)=x by omega];exact a3)
 ·rintro zs δ' iQ ⟨v,L,rfl,rfl,oj,nd,hL,k8⟩
  rw [iM] at oj hL
  exact q L iQ oj nd hL k8
theorem Mr {st:Store} {f n:Nat} (hf:bz st f) (n1:1<=n) (SV:n<=20):Wp (xU [.ref f,.int (n:Int)] st) fun d st'=>∃ xs ys:List Int,d=b9 xs ys/\ml n xs ys/\bz st' f/\Ex [f] st st':=by
 have hfl:=hf.lt
 refine gQ ?_
 show Ws (EB [some (.ref f),some (.int (n:Int)),none,none,none,none,none,none,none] st) _ _ _ _
 unfold EB
 refine aZ (cK ?_)
 kspl_open hQ
 refine aV (rQ (n:=6) hf (by decide) (by decide)) ?_
 rintro d st1 ⟨form,rfl,g0,g6,f1,k1⟩
 refine hQ _ _ (aZ (HD ?_))
 clear hQ
 kspl_open hQ
 refine aV (Iw (n:=n) f1 (by omega)) ?_
 rintro d st2 ⟨X,rfl,tX,f2,k2⟩
 w_how
 refine aV (Iw (n:=n) (f2.keep (Ex.cU [.lst (X.map D.int)])) (by omega)) ?_
 rintro d st3 ⟨Y,rfl,tY,f3,k3⟩
 w_how
 refine hQ _ _ ⟨_,_,rfl,?_⟩
 clear hQ
 have C4:st3[st2.length]?=some (.lst (X.map D.int)):=k3.keep _ _ jQ (by have:=f2.lt;simp;omega)
 have two:m9 st (st3 ++ [.lst (Y.map D.int)]) f st2.length st3.length n X Y:=⟨lP C4,jQ,by have:=gZ C4;omega,(k1.trans k2).len,((k1.trans k2).trans ((Ex.cU _).trans k3)).len,tX,tY,f3.keep (Ex.cU _),(((k1.trans k2).app _).trans k3).app _⟩
 show Ws _ _ _ _ _
 generalize (st3 ++ [O.lst (Y.map D.int)])=l6 at two ⊢
 generalize st2.length=r at two ⊢
 generalize st3.length=u at two ⊢
 clear C4 tX tY f3 k3 f2 k2 f1 k1
 refine aZ (xr (N:=fun δ jG=>∃ (r u:Nat) (X Y:List Int),δ=[some (.ref f),some (.int (n:Int)),some (.int form),some (.ref r),some (.ref u),none,none,none,none]/\m9 st jG f r u n X Y) (gY ?_) ?_)
 ·kspl_open hQ
  refine hQ _ _ ⟨fun _=>cK ?_,fun _=>iP ⟨r,u,X,Y,rfl,two⟩⟩
  kspl_open cx
  rw [<- LF]
  refine ⟨uE (by omega),rfl,kJ (by rw [iM];simp;omega),cx _ _ ⟨_,u,_,Y,rfl,(two.keep (((Ex.cU _).app _).app _)).xJ (af.KJ (show n < 21 by omega) (by omega))⟩⟩
 rintro δ jG ⟨r,u,X,Y,rfl,two⟩
 refine aZ (xr (N:=fun δ jG=>∃ (r u:Nat) (X Y:List Int),δ=[some (.ref f),some (.int (n:Int)),some (.int form),some (.ref r),some (.ref u),none,none,none,none]/\m9 st jG f r u n X Y) (gY ?_) ?_)
 ·kspl_open hQ
  refine hQ _ _ ⟨fun _=>HD ?_,fun _=>iP ⟨r,u,X,Y,rfl,two⟩⟩
  kspl_open cx
  rw [<- LF,show ((n:Int) - 0).toNat=n by omega,pT]
  refine ⟨uE (by omega),uE (by omega),rfl,kJ (by rw [iM];simp;omega),cx _ _ ⟨_,_,rfl,_,_,_,_,rfl,(((two.keep (Ex.cU [.iT 0 (n:Int)])).xJ (Z:=af.upto n) (Wc _)).keep (((Ex.cU _).app _).app _)).xK (af.KJ (show n < 21 by omega) (by omega))⟩⟩
 rintro δ Eh ⟨r,u,X,Y,rfl,two⟩
 refine aZ (xr (N:=fun δ jG=>∃ (r u:Nat) (v5:Option D) (X Y:List Int),δ=[some (.ref f),some (.int (n:Int)),some (.int form),some (.ref r),some (.ref u),v5,none,none,none]/\m9 st jG f r u n X Y) (gY ?_) ?_)
 ·kspl_open hQ
  refine hQ _ _ ⟨fun _=>aZ (cK ?_),fun _=>iP ⟨r,u,none,X,Y,rfl,two⟩⟩
  kspl_open cx
  refine aV (rQ (n:=(n:Int)) two.fd (by omega) (by omega)) ?_
  rintro d pK ⟨w,rfl,w0,w1,f7,k7⟩
  obtain ⟨wd,rfl⟩:∃ wd:Nat,w=(wd:Int) - 1:=⟨(w + 1).toNat,by omega⟩
  have t7:m9 st pK f r u n X Y:=⟨k7.keep _ _ two.hr (by have:=two.r0;simp;omega),k7.keep _ _ two.hu (by have:=two.u0;simp;omega),two.ne,two.r0,two.u0,two.tX,two.tY,f7,two.ex.trans k7⟩
  w_how
  rw [show (1:Int) + ((wd:Int) - 1)=(wd:Int) by omega]
  refine cx _ _ (aZ (cK ?_))
  clear cx hQ
  kspl_open cx
  rw [<- xM]
  refine ⟨uE (by omega),rfl,kJ (by rw [iM];simp;omega),uE (by omega),kJ (by rw [UG,iM,iM];simp;omega),cx _ _ (aZ (cK ?_))⟩
  clear cx
  have t8:=(t7.keep ((((((Ex.cU [.iT 1 (wd:Int)]).app [.lst (aE 1 ((wd:Int) - 1).toNat)]).app [.lst [.int 0]]).app [.lst (aE 1 ((wd:Int) - 1).toNat ++ [.int 0])]).app [.iT (wd:Int) (n:Int)]).app [.lst (aE (wd:Int) ((n:Int) - (wd:Int)).toNat)])).xJ (af.Pg (w:=wd) (show n < 21 by omega) (by omega) (by omega))
  generalize SW:(pK ++ _ ++ _ ++ _ ++ _ ++ _ ++ _ ++ _:Store)=iQ at t8 ⊢
  generalize List.length _=r8 at t8 ⊢
  kspl_open cx
  refine ⟨rfl,uE (by omega),kJ (by simp [iM];omega),uE (by omega),kJ (by simp [iM];omega),rfl,kJ (by simp [iM];omega),cx _ _ (gY ?_)⟩
  clear cx
  generalize SX:(iQ ++ _ ++ _ ++ _ ++ _ ++ _ ++ _ ++ _ ++ _ ++ _:Store)=Fu
  have tE:m9 st Fu f r8 u n (af.qG wd n) Y:=by rw [<- SX];exact t8.keep (((((((((Ex.cU _).app _).app _).app _).app _).app _).app _).app _).app _)
  kspl_open hQ
  refine hQ _ _ ⟨fun hw=>?_,fun hw=>?_⟩
  ·refine cK ?_
   kspl_open cx
   rw [show ((n:Int) - 0).toNat=n by omega,pT]
   exact ⟨uE (by omega),cx _ _ ⟨r8,_,_,_,_,rfl,(tE.keep ((Ex.cU _).app _)).xK (Wc _)⟩⟩
  ·have hne:wd≠n:=fun z=>by simp [z] at hw
   have tF:=tE.xK (af.Ph (w:=wd) (show n < 21 by omega) (by omega) (by omega))
   rw [xN (by omega) (by omega)] at tF
   exact iP ⟨r8,_,_,_,_,rfl,tF⟩
 rintro δ pK ⟨r,u,v5,X,Y,rfl,two⟩
 have n0:0 < n:=by omega
 refine aZ (cK ?_)
 refine dD ?_
 intro iF hQ
 set_option simprocs false in simp only [cm,de two.hr,de two.hu]
 refine ⟨rfl,hQ _ _ (aZ (cK (Mq (X:=X) (Y:=Y) two.tX two.tY n0 (by omega) rfl rfl ?_)))⟩
 clear hQ
 intro L iQ oj nd hL k8
 have t8:=(two.keep k8).keep (Ex.cU [.lst (L.map D.int)])
 refine aZ (yZ (fun mm δ nK=>∃ (pa:Nat) (X L:List Int) (v8:Option D),mm=L.length/\δ=[some (.ref f),some (.int (n:Int)),some (.int form),some (.ref r),some (.ref u),v5,some (b9 X Y),some (.ref pa),v8]/\m9 st nK f r u n X Y/\items nK pa=some (L.map D.int)/\L.length<=n/\L.Nodup/\(∀ x,x∈L↔(0<=x/\x < (n:Int)/\¬ af.iS X Y x))) L.length (Vt oj (Vt SV (by decide))) ⟨_,X,L,none,rfl,rfl,t8,rM,oj,nd,hL⟩ ?_)
 rintro mm δ nK ⟨pa,X,L,v8,rfl,rfl,two,hpa,oj,nd,hL⟩
 have Ui:=two.tX.length
 have yc:items (nK ++ [O.lst []]) pa=some (L.map D.int):=by
  unfold items at hpa ⊢
  cases e:nK[pa]? with
  | none=>rw [e] at hpa;cases hpa
  | some o=>rw [lP e];rw [e] at hpa;exact hpa
 refine dD ?_
 intro iF hQ
 set_option simprocs false in simp only [cm,LD (L:=L) (M:=[]) (st:=nK ++ [O.lst []]) yc rM]
 refine ⟨rfl,hQ _ _ ⟨fun h=>?_,fun h=>?_⟩⟩
 ·have hne:L≠[]:=by simpa using h
  clear hQ
  obtain ⟨m,L1,rfl⟩:∃ m L1,L=m :: L1:=by cases L with | nil=>exact absurd rfl hne | cons m L1=>exact ⟨m,L1,rfl⟩
  obtain ⟨m0,m1,mR⟩:=(hL m).mp Uy
  have t2:=two.keep (Ex.cU [O.lst []])
  generalize (nK ++ [O.lst []])=Fu at yc t2 ⊢
  refine aZ (cK ?_)
  refine dD ?_
  intro iF hQ
  set_option simprocs false in simp only [cm,yc,UT]
  refine hQ _ _ (aZ (sP ?_))
  clear hQ
  refine dD ?_
  intro iF hQ
  set_option simprocs false in simp only [cm,de t2.hr,p9 (xs:=X) m0 (by omega),p9 (xs:=X) (i:=0) (by decide) (by omega)]
  refine ⟨rfl,hQ _ _ ?_⟩
  clear hQ
  have i0:lq (X.map D.int).length 0=some 0:=yG (j:=0) (by rw [Uu];omega)
  have im:lq ((X.map D.int).set 0 (.int (af.app X m))).length m=some m.toNat:=by
   rw [Vo]
   have:=yG (n:=(X.map D.int).length) (j:=m.toNat) (by rw [Uu];omega)
   rwa [U0 m0] at this
  have C4:(Fu.set r (.lst ((X.map D.int).set 0 (.int (af.app X m)))))[r]?=some (.lst ((X.map D.int).set 0 (.int (af.app X m)))):=UL (gZ t2.hr)
  have eS:((X.map D.int).set 0 (.int (af.app X m))).set m.toNat (.int (af.app X 0))=(af.l9 X m.toNat).map D.int:=by
   unfold af.l9
   rw [U0 m0,WS,WS]
  refine dD ?_
  intro iF hQ
  set_option simprocs false in simp only [cm,lA t2.hr,lA C4,i0,im,eS]
  refine ⟨rfl,hQ _ _ (aZ (cK ?_))⟩
  clear hQ
  have tS:=af.vV t2.tX (m:=m.toNat) (by omega)
  have hmet:=af.Pb t2.tX t2.tY (m:=m.toNat) (by omega) (by rw [U0 m0];exact mR)
  rw [U0 m0] at hmet
  rw [List.set_set]
  have t3:=t2.put (Z:=af.l9 X m.toNat) tS hfl
  generalize Fu.set r _=st3 at t3 ⊢
  refine dD ?_
  intro iF hQ
  set_option simprocs false in simp only [cm,de t3.hr,de t3.hu]
  refine ⟨rfl,hQ _ _ (cK (Mq (X:=af.l9 X m.toNat) (Y:=Y) t3.tX t3.tY n0 (by omega) rfl rfl ?_))⟩
  intro L' l6 IA Ms hL' k4
  refine ⟨_,?_,l6.length,af.l9 X m.toNat,L',_,rfl,rfl,(t3.keep k4).keep (Ex.cU _),rM,IA,Ms,hL'⟩
  refine af.less (m:=m) Ms (fun x hx=>?_) Uy (fun h=>((hL' m).mp h).2.2 hmet.1)
  obtain ⟨a1,a2,a3⟩:=(hL' x).mp hx
  exact (hL x).mpr ⟨a1,a2,fun h=>a3 (hmet.2 x h)⟩
 ·have he:L=[]:=by simpa using h
  subst he
  refine eI ?_
  kspl_open cx
  have t2:=two.keep (Ex.cU [O.lst []])
  refine cx _ _ ⟨X,Y,rfl,⟨t2.tX,t2.tY,fun x x0 x1=>?_⟩,t2.fd,t2.ex⟩
  exact Classical.byContradiction fun h=>nomatch (hL x).mpr ⟨x0,x1,h⟩
theorem IB {st:Store} {xs:List Int} {n:Nat} (tn:af.Tn n xs) (hn:n<=100):Wp (rh [.tup (xs.map D.int)] st) fun d st'=>d=.tup ((af.inv xs).map D.int)/\Ex [] st st':=by
 have hlen:=tn.length
 refine gQ ?_
 show Ws (EC [some (.tup (xs.map D.int)),none,none,none] st) _ _ _ _
 unfold EC
 refine aZ (cK ?_)
 kspl_open hQ
 have e0:(((xs.map D.int).length:Int)).toNat=n:=by rw [Uu];omega
 have ez:(List.replicate n [D.int 0]).flatten=(List.replicate n (0:Int)).map D.int:=by
  induction n with
  | zero=>rfl
  | succ n ih=>simp [Vi]
 rw [e0,ez]
 refine ⟨rfl,by rw [Uu];omega,kJ (by simp;omega),hQ _ _ (aZ (m8 (gP (xs.map D.int)) (fun k δ st2=>∃ (v2 v3:Option D) (bs:List Int),δ=[some (.tup (xs.map D.int)),some (.ref (st ++ [O.lst [D.int 0]]).length),v2,v3]/\st2[(st ++ [O.lst [D.int 0]]).length]?=some (.lst (bs.map D.int))/\bs.length=n/\(∀ j,j < k->∀ x,xs[j]?=some x->bs[x.toNat]?=some (j:Int))/\Ex [] st st2) ?_ ?_ ?_ ?_))⟩
 ·kspl_open hQ
  exact hQ _ _ ⟨rfl,none,none,_,rfl,jQ,by simp,fun j hj=>absurd hj (U9 _),(Ex.cU _).app _⟩
 ·rw [Bx,Uu];omega
 ·have C5:st.length<=(st ++ [O.lst [D.int 0]]).length:=by simp
  generalize (st ++ [O.lst [D.int 0]]).length=B at C5 ⊢
  rintro k d δ st2 hd ⟨v2,v3,bs,rfl,hB,uS,sZ,k2⟩
  obtain ⟨d',hd',rfl⟩:=Hz hd
  obtain ⟨x,hx,rfl⟩:=Em hd'
  obtain ⟨x0,x1⟩:=tn.bound (UJ hx)
  have nS:=gZ hx
  kspl_open hQ
  refine ⟨rfl,hQ _ _ (sP ?_)⟩
  have hix:lq (bs.map D.int).length x=some x.toNat:=by
   have:=yG (n:=(bs.map D.int).length) (j:=x.toNat) (by rw [Uu];omega)
   rwa [U0 x0] at this
  have es:(bs.map D.int).set x.toNat (.int (k:Int))=(bs.set x.toNat (k:Int)).map D.int:=by rw [WS]
  kspl_open cx
  refine cx _ _ ?_
  refine dD ?_
  intro C3 rm
  set_option simprocs false in simp only [cm,lA hB,hix,es]
  refine rm _ _ ⟨_,_,bs.set x.toNat (k:Int),rfl,UL (gZ hB),by rw [Vo];exact uS,fun j hj y hy=>?_,k2.loc C5⟩
  by_cases hjk:j=k
  ·subst hjk
   rw [hx] at hy
   cases hy
   rw [UL (by rw [uS];omega)]
  ·obtain ⟨y0,y1⟩:=tn.bound (UJ hy)
   rw [UX (fun z=>?_)]
   ·exact sZ j (by omega) y hy
   ·obtain ⟨h1,e1⟩:=Uw.mp hx
    obtain ⟨h2,e2⟩:=Uw.mp hy
    exact hjk ((WH tn.nodup).mp (show xs[j]=xs[k] by omega))
 ·rintro δ st2 ⟨v2,v3,bs,rfl,hB,uS,sZ,k2⟩
  rw [Bx,Uu] at sZ
  have eb:bs=af.inv xs:=by
   apply Wl
   intro i
   by_cases hi:i < n
   ·have hm:=tn.mem (i:=(i:Int)) (by omega) (by omega)
    have hil:=Wf hm
    have:=sZ (xs.idxOf (i:Int)) hil (i:Int) (by rw [Uv hil];exact congrArg some (Wz hil))
    rw [UK] at this
    rw [this]
    have ea:=af.nU (xs:=af.inv xs) (i:=(i:Int)) (by omega) (by rw [af.yJ];omega)
    rw [UK,af.DV (by omega) (by omega)] at ea
    exact ea.symm
   ·rw [Vr (by omega),Vr (by rw [af.yJ];omega)]
  subst eb
  refine eI ?_
  refine dD ?_
  intro iF hQ
  set_option simprocs false in simp only [cm,de hB]
  exact hQ _ _ ⟨rfl,k2⟩
theorem zq {st:Store} {xs ys:List Int} (hb:∀ x∈xs,0<=x/\x < (ys.length:Int)) (hn:xs.length<=100):Wp (n9 [.tup (xs.map D.int),.tup (ys.map D.int)] st) fun d st'=>d=.tup ((af.aK xs ys).map D.int)/\Ex [] st st':=by
 refine gQ ?_
 show Ws (EE [some (.tup (xs.map D.int)),some (.tup (ys.map D.int))] st) _ _ _ _
 unfold EE
 refine eI ?_
 kspl_open hQ
 refine sR (xs.map D.int) (fun d=>.int (af.app ys (inD d))) ?_ (by rw [Uu];omega) ?_ ?_
 ·kspl_open cx
  exact cx _ _ ⟨qX _ _,Ex.refl⟩
 ·intro d hd st1 k1
  obtain ⟨x,hx,rfl⟩:=y2 hd
  obtain ⟨x0,x1⟩:=hb x hx
  refine dD ?_
  intro jI cx
  set_option simprocs false in simp only [cm,UT,Vg,Vm,Vn,p9 (xs:=ys) x0 x1]
  exact cx _ _ ⟨rfl,Ex.refl⟩
 ·intro st' k'
  rw [BX (f:=af.app ys) fun x hx=>rfl]
  w_how
  exact hQ _ _ ⟨rfl,k'.app _⟩
theorem Mt {st:Store} {xs ys p:List Int} {n:Nat} (tx:af.Tn n xs) (ty:af.Tn n ys) (tp:af.Tn n p) (hn:n<=100):Wp (uL [b9 xs ys,.tup (p.map D.int)] st) fun d st'=>d=b9 (af.anew xs p) (af.anew ys p)/\Ex [] st st':=by
 have hlx:=tx.length
 have C1:=ty.length
 have yd:=tp.length
 have ti:=tp.ax
 have hli:=ti.length
 refine gQ ?_
 show Ws (EF [some (b9 xs ys),some (.tup (p.map D.int)),none,none,none] st) _ _ _ _
 unfold EF b9
 refine aZ (cK ?_)
 kspl_open hQ
 refine aV (IB tp hn) ?_
 rintro d st1 ⟨rfl,k1⟩
 refine hQ _ _ (aZ (cK ?_))
 clear hQ
 kspl_open hQ
 refine aV (zq (xs:=af.inv p) (ys:=xs) (fun x hx=>by rw [hlx];exact ti.bound hx) (by omega)) ?_
 rintro d st2 ⟨rfl,k2⟩
 refine aV (zq (xs:=af.aK (af.inv p) xs) (ys:=p) (fun x hx=>by rw [yd];exact (ti.aK tx).bound hx) (by rw [af.yL];omega)) ?_
 rintro d st3 ⟨rfl,k3⟩
 refine hQ _ _ (aZ (cK ?_))
 clear hQ
 kspl_open hQ
 refine aV (zq (xs:=af.inv p) (ys:=ys) (fun x hx=>by rw [C1];exact ti.bound hx) (by omega)) ?_
 rintro d l6 ⟨rfl,k4⟩
 refine aV (zq (xs:=af.aK (af.inv p) ys) (ys:=p) (fun x hx=>by rw [yd];exact (ti.aK ty).bound hx) (by rw [af.yL];omega)) ?_
 rintro d jG ⟨rfl,k5⟩
 refine hQ _ _ (eI ?_)
 clear hQ
 kspl_open hQ
 exact ⟨rfl,hQ _ _ ⟨rfl,(((k1.trans k2).trans k3).trans k4).trans k5⟩⟩
theorem SY {F:List Int} {x:Int}:(!F.contains x)=true->af.dH F x=F ++ [x]:=fun h=>by
 unfold af.dH
 rw [if_neg fun z=>by rw [VF.mpr z] at h;cases h]
theorem S0 {F:List Int} {x:Int}:(!F.contains x)=false->af.dH F x=F:=fun h=>by
 unfold af.dH
 rw [if_pos (VF.mp (by simpa using h))]
theorem Mu {st:Store} {xs ys:List Int} {n:Nat} {s:Int} (tx:af.Tn n xs) (ty:af.Tn n ys) (hn:n<=100) (s0:0<=s) (s1:s < (n:Int)):Wp (uM [b9 xs ys,.int s] st) fun d st'=>d=.tup ((af.bf xs ys s n).map D.int)/\Ex [] st st':=by
 have hlx:=tx.length
 have C1:=ty.length
 refine gQ ?_
 show Ws (EH [some (b9 xs ys),some (.int s),none,none,none,none] st) _ _ _ _
 unfold EH
 refine aZ (cK ?_)
 kspl_open hQ
 refine ⟨rfl,hQ _ _ (aZ (cK ?_))⟩
 clear hQ
 kspl_open hQ
 refine hQ _ _ (aZ (yZ (fun m δ st2=>∃ (k:Nat) (v4 v5:Option D),m=n - k/\δ=[some (b9 xs ys),some (.int s),some (.ref st.length),some (.int (k:Int)),v4,v5]/\st2[st.length]?=some (.lst ((af.bf xs ys s k).map D.int))/\k<=(af.bf xs ys s k).length/\Ex [] st st2) n (Vt hn (by decide)) ⟨0,none,none,by omega,rfl,jQ,U8 _,Ex.cU _⟩ ?_))
 clear hQ
 rintro m δ st2 ⟨k,v4,v5,rfl,rfl,hl,hk,k2⟩
 have uS:=af.G8 tx ty s0 s1 k
 refine dD ?_
 intro iF hQ
 set_option simprocs false in simp only [cm,de hl]
 refine hQ _ _ ⟨fun hlt=>?_,fun hlt=>?_⟩
 ·clear hQ
  have hlt:=of_decide_eq_true hlt
  rw [Uu] at hlt
  have nS:k < (af.bf xs ys s k).length:=by omega
  obtain ⟨x,hx⟩:∃ x,(af.bf xs ys s k)[k]?=some x:=⟨_,Uv nS⟩
  obtain ⟨x0,x1⟩:=af.pM tx ty s0 s1 k x (UJ hx)
  have e1:af.bf xs ys s (k + 1)=af.visit xs ys (af.bf xs ys s k) x:=by
   show (match (af.bf xs ys s k)[k]? with | some x=>af.visit xs ys (af.bf xs ys s k) x | none=>af.bf xs ys s k)=_
   rw [hx]
  have hb1:=af.G8 tx ty s0 s1 (k + 1)
  rw [e1] at hb1
  have hp1:=(af.AR (af.dH (af.bf xs ys s k) (af.app xs x)) (af.app ys x)).length_le
  have hp0:=(af.AR (af.bf xs ys s k) (af.app xs x)).length_le
  change _<=(af.visit xs ys (af.bf xs ys s k) x).length at hp1
  refine aZ (m8 [.tup (xs.map D.int),.tup (ys.map D.int)] (fun m δ st3=>∃ (v4 v5:Option D) (G:List Int),δ=[some (b9 xs ys),some (.int s),some (.ref st.length),some (.int (k:Int)),v4,v5]/\st3[st.length]?=some (.lst (G.map D.int))/\(m=0->G=af.bf xs ys s k)/\(m=1->G=af.dH (af.bf xs ys s k) (af.app xs x))/\(m=2->G=af.visit xs ys (af.bf xs ys s k) x)/\Ex [] st st3) ?_ (by simp) ?_ ?_)
  ·unfold b9
   kspl_open hQ
   exact hQ _ _ ⟨rfl,v4,v5,_,rfl,hl,fun _=>rfl,fun z=>by omega,fun z=>by omega,k2⟩
  ·rintro m z δ st3 hm ⟨v4,v5,G,rfl,hl3,g0,g1,_,k3⟩
   have hm2:m < 2:=gZ hm
   obtain ⟨zs,rfl,tz,em⟩:∃ (zs:List Int),z=.tup (zs.map D.int)/\af.Tn n zs/\((m=0/\zs=xs)\/(m=1/\zs=ys)):=by
    rcases (show m=0\/m=1 by omega) with rfl | rfl
    ·exact ⟨xs,by simpa using hm.symm,tx,.inl ⟨rfl,rfl⟩⟩
    ·exact ⟨ys,by simpa using hm.symm,ty,.inr ⟨rfl,rfl⟩⟩
   have hG:G.length<=100/\G[k]?=some x:=by
    rcases em with ⟨rfl,_⟩ | ⟨rfl,_⟩
    ·rw [g0 rfl];exact ⟨by omega,hx⟩
    ·rw [g1 rfl]
     refine ⟨by omega,?_⟩
     obtain ⟨t,e⟩:=af.AR (af.bf xs ys s k) (af.app xs x)
     rw [<- e,UM nS];exact hx
   have Mv:∀ G',G'=af.dH G (af.app zs x)->(m + 1=0->G'=af.bf xs ys s k)/\(m + 1=1->G'=af.dH (af.bf xs ys s k) (af.app xs x))/\(m + 1=2->G'=af.visit xs ys (af.bf xs ys s k) x):=fun G' e=>by
    rcases em with ⟨rfl,rfl⟩ | ⟨rfl,rfl⟩
    ·exact ⟨fun z=>by omega,fun _=>by rw [e,g0 rfl],fun z=>by omega⟩
    ·exact ⟨fun z=>by omega,fun z=>by omega,fun _=>by rw [e,g1 rfl];rfl⟩
   have hat:gG (G.map D.int) (k:Int)=some (.int x):=Ad (by rw [UB,hG.2];rfl)
   kspl_open hQ
   refine hQ _ _ (aZ (cK ?_))
   clear hQ
   refine dD ?_
   intro iF hQ
   set_option simprocs false in simp only [cm,de hl3,hat,p9 (xs:=zs) x0 (by rw [tz.length];exact x1)]
   refine hQ _ _ (gY ?_)
   clear hQ
   refine dD ?_
   intro iF hQ
   set_option simprocs false in simp only [cm,HQ (st:=st3) (c:=.ref st.length) (ns:=G) (de hl3)]
   refine hQ _ _ ⟨fun hc=>qS ?_,fun hc=>iP ?_⟩
   ·obtain ⟨n0,n1,n2⟩:=Mv (G ++ [af.app zs x]) (SY hc).symm
    refine dD ?_
    intro jI cx
    set_option simprocs false in simp only [cm,lA hl3]
    refine ⟨pS (by rw [de hl3];rfl),kJ (by rw [Uu];omega),cx _ _ ⟨_,_,G ++ [af.app zs x],rfl,?_,n0,n1,n2,k3.loc (Ux _)⟩⟩
    rw [UL (gZ hl3),US];rfl
   ·obtain ⟨n0,n1,n2⟩:=Mv G (S0 hc).symm
    exact ⟨_,_,G,rfl,hl3,n0,n1,n2,k3⟩
  ·rintro δ st3 ⟨v4,v5,G,rfl,hl3,_,_,g2,k3⟩
   have g2:=g2 rfl
   subst g2
   refine cK ?_
   kspl_open hQ
   refine hQ _ _ ⟨n - (k + 1),by omega,k + 1,v4,v5,rfl,by simp,by rw [e1];exact hl3,by rw [e1];omega,k3⟩
 ·have hlt:=of_decide_eq_false hlt
  rw [Uu] at hlt
  have hle:(af.bf xs ys s k).length<=k:=by omega
  have e:af.bf xs ys s n=af.bf xs ys s k:=by
   have:=af.G7 hle (n - k)
   rwa [show k + (n - k)=n by omega] at this
  refine eI ?_
  refine dD ?_
  intro jI cx
  set_option simprocs false in simp only [cm,de hl]
  rw [<- e]
  exact cx _ _ ⟨rfl,k2⟩
theorem S1 {st:Store} {xs:List Int} {n:Nat} {i:Int} (tn:af.Tn n xs) (hn:n<=100) (i0:0<=i) (i1:i < (n:Int)):Wp (Cj [.tup (xs.map D.int),.int i] st) fun d st'=>∃ r:List Int,d=.tup (r.map D.int)/\af.g8 xs i r/\Ex [] st st':=by
 have hlen:=tn.length
 refine gQ ?_
 show Ws (EL [some (.tup (xs.map D.int)),some (.int i),none,none] st) _ _ _ _
 unfold EL
 refine aZ (cK ?_)
 kspl_open hQ
 refine ⟨rfl,hQ _ _ (aZ (cK ?_))⟩
 clear hQ
 refine dD ?_
 intro iF hQ
 set_option simprocs false in simp only [cm,p9 (xs:=xs) i0 (by omega)]
 refine hQ _ _ (aZ (yZ (fun m δ st2=>∃ k:Nat,m=n - (k + 1)/\δ=[some (.tup (xs.map D.int)),some (.int i),some (.ref st.length),some (.int (af.bq xs i (k + 1)))]/\st2[st.length]?=some (.lst ((af.row xs i k).map D.int))/\af.NB xs i k/\Ex [] st st2) (n - 1) (Vt (show n - 1<=100 by omega) (by decide)) ⟨0,rfl,rfl,jQ,fun j h1 h2=>by omega,Ex.cU _⟩ ?_))
 clear hQ
 rintro m δ st2 ⟨k,rfl,rfl,hL,nb,k2⟩
 have hrl:=tn.jT i0 i1 nb
 kspl_open hQ
 refine hQ _ _ ⟨fun hb=>?_,fun hb=>?_⟩
 ·have hb:af.bq xs i (k + 1)≠i:=by simpa using hb
  have C6:af.NB xs i (k + 1):=fun j h1 h2=>by
   by_cases hj:j<=k
   ·exact nb j h1 hj
   ·have:j=k + 1:=by omega
    rw [this];exact hb
  have hle:=tn.jT i0 i1 C6
  have hit:=tn.bq i0 i1 (k + 1)
  refine aZ (qS ?_)
  refine dD ?_
  intro jI cx
  set_option simprocs false in simp only [cm,lA hL]
  refine ⟨pS (by rw [de hL];rfl),kJ (by rw [Uu,af.rF];omega),cx _ _ (cK ?_)⟩
  clear cx
  refine dD ?_
  intro jI cx
  set_option simprocs false in simp only [cm,p9 (xs:=xs) hit.1 (by omega)]
  refine cx _ _ ⟨n - (k + 1 + 1),by omega,k + 1,rfl,rfl,?_,C6,k2.loc (Ux _)⟩
  rw [UL (gZ hL),af.KI,US];rfl
 ·have hb:af.bq xs i (k + 1)=i:=by simpa using hb
  refine eI ?_
  refine dD ?_
  intro jI cx
  set_option simprocs false in simp only [cm,de hL]
  exact cx _ _ ⟨_,rfl,⟨k,rfl,nb,hb⟩,k2⟩
theorem S2 {st:Store} {xs:List Int} {n:Nat} (tn:af.Tn n xs) (hn:n<=100):Wp (Cm [.tup (xs.map D.int)] st) fun d st'=>∃ rs:List (List Int),d=BU rs/\af.ug xs (af.upto n) rs/\(∀ r∈rs,r.length<=n/\∀ x∈r,0<=x/\x < (n:Int))/\rs.length<=n/\Ex [] st st':=by
 have hlen:=tn.length
 refine gQ ?_
 show Ws (EN [some (.tup (xs.map D.int)),none,none,none,none,none] st) _ _ _ _
 unfold EN
 refine aZ (cK ?_)
 kspl_open hQ
 refine ⟨rfl,hQ _ _ (aZ (cK ?_))⟩
 clear hQ
 kspl_open hQ
 have eS:(st ++ [O.lst []]).length=st.length + 1:=by simp
 rw [eS]
 refine hQ _ _ (aZ (m8 (aE 0 n) (fun k δ st2=>∃ (v3 v4 v5:Option D) (rs:List (List Int)) (kvs:List (Key×D)),δ=[some (.tup (xs.map D.int)),some (.ref st.length),some (.ref (st.length + 1)),v3,v4,v5]/\st2[st.length]?=some (.lst (rs.map fun r=>.tup (r.map D.int)))/\st2[st.length + 1]?=some (.dct kvs) /\
   (∀ rest,af.ug xs (af.from' n k (fun x=>(dS kvs (Sum.inl x:Key)).isSome)) rest->af.ug xs (af.upto n) (rs ++ rest))/\(∀ r∈rs,r.length<=n/\∀ x∈r,0<=x/\x < (n:Int))/\rs.length<=k/\kvs.length<=k * n/\Ex [] st st2) ?_ (by rw [iM];omega) ?_ ?_))
 ·clear hQ
  kspl_open hQ
  rw [Uu,hlen]
  refine ⟨by omega,hQ _ _ ⟨by rw [UK],none,none,none,[],[],rfl,lP jQ,by rw [<- eS];exact jQ,fun rest hrest=>?_,(fun r hr=>nomatch hr),Ux _,U8 _,(Ex.cU _).app _⟩⟩
  have e:af.from' n 0 (fun x=>(dS ([]:List (Key×D)) (Sum.inl x:Key)).isSome)=af.upto n:=af.O6 n
  rw [e] at hrest
  exact hrest
 ·rintro k d δ st2 hd ⟨v3,v4,v5,rs,kvs,rfl,Fv,Fw,uT,hb,hrl,nS,k2⟩
  have hk:=gZ hd
  rw [iM] at hk
  rw [yX hk,Wj] at hd
  cases hd
  have hkn:k * n<=10000:=UZ (Nat.mul_le_mul (show k<=100 by omega) hn) (by decide)
  clear hQ
  kspl_open hQ
  refine hQ _ _ (gY ?_)
  clear hQ
  refine dD ?_
  intro iF hQ
  set_option simprocs false in simp only [cm,LI Fw,LJ]
  have hfs:=af.O4 hk (fun x=>(dS kvs (Sum.inl x:Key)).isSome)
  refine hQ _ _ ⟨fun hs=>?_,fun hs=>?_⟩
  ·have IC:(dS kvs (Sum.inl (k:Int):Key)).isSome=false:=by simpa using hs
   simp only [IC,UY,if_false] at hfs
   clear hQ
   refine aZ (cK ?_)
   kspl_open hQ
   refine aV (S1 tn hn (i:=(k:Int)) (by omega) (by omega)) ?_
   rintro d st3 ⟨r,rfl,mI,k3⟩
   refine hQ _ _ (aZ (qS ?_))
   clear hQ
   have IE:=k3.keep _ _ Fv (by simp)
   have S3:=k3.keep _ _ Fw (by simp)
   have IF:=mI.len tn (by omega) (by omega)
   have hrb:=mI.bound tn (by omega) (by omega)
   refine dD ?_
   intro iF hQ
   set_option simprocs false in simp only [cm,lA IE]
   refine ⟨pS (by rw [de IE];rfl),kJ (by rw [Uu];omega),hQ _ _ ?_⟩
   clear hQ
   refine m8 (r.map D.int) (fun j δ jG=>∃ (v5:Option D) (kvs':List (Key×D)),δ=[some (.tup (xs.map D.int)),some (.ref st.length),some (.ref (st.length + 1)),some (.int (k:Int)),some (.tup (r.map D.int)),v5]/\jG[st.length]?=some (.lst ((rs ++ [r]).map fun r=>.tup (r.map D.int)))/\jG[st.length + 1]?=some (.dct kvs') /\
     (∀ x:Int,(dS kvs' (Sum.inl x:Key)).isSome=((dS kvs (Sum.inl x:Key)).isSome || (r.take j).contains x))/\kvs'.length<=kvs.length + j/\Ex [] st jG) ?_ (by rw [Uu];omega) ?_ ?_
   ·kspl_open hQ
    refine hQ _ _ ⟨rfl,v5,kvs,rfl,?_,?_,fun x=>by simp,by omega,(k2.trans k3).loc (Ux _)⟩
    ·rw [UL (gZ IE),US];rfl
    ·rw [UX (by omega)];exact S3
   ·rintro j y δ jG hj ⟨v5,kvs',rfl,IG,Fx,Fy,C7,k5⟩
    obtain ⟨x,hx,rfl⟩:=Em hj
    obtain ⟨hjl,ex⟩:=Uw.mp hx
    subst ex
    kspl_open hQ
    refine hQ _ _ (QD ?_)
    clear hQ
    kspl_open hQ
    refine hQ _ _ ?_
    kspl_open cx
    refine cx _ _ ?_
    kspl_open rm
    refine rm _ _ ⟨_,kvs',_,rfl,LI Fx,LJ _,kJ (by omega),_,_,rfl,?_,UL (gZ Fx),fun x=>?_,?_,k5.loc (by omega)⟩
    ·rw [UX (by omega)];exact IG
    ·rw [Q7,Q9 hjl]
     by_cases hx:x=r[j]
     ·subst hx;simp
     ·rw [if_neg (by intro z;exact hx (Sum.inl.inj z)),Fy x]
      have:(x == r[j])=false:=beq_eq_false_iff_ne.mpr hx
      rw [this,Bool.or_false]
    ·have:=Q8 kvs' (Sum.inl r[j]:Key) (.bl true);omega
   ·rintro δ jG ⟨v5,kvs',rfl,IG,Fx,Fy,C7,k5⟩
    rw [Uu] at C7 Fy
    refine ⟨_,_,_,rs ++ [r],kvs',rfl,IG,Fx,fun rest hrest=>?_,fun r' hr'=>?_,by rw [UG];simp;omega,by rw [Nat.succ_mul];omega,k5⟩
    ·have e:(fun x=>(dS kvs' (Sum.inl x:Key)).isSome)=fun x=>((dS kvs (Sum.inl x:Key)).isSome || r.contains x):=by
      funext x;rw [Fy x,VR]
     rw [e,<- af.O5] at hrest
     rw [V9]
     refine uT _ ?_
     rw [hfs]
     refine .cons mI ?_
     have e2:af.out ((k:Int) :: af.from' n (k + 1) (fun x=>(dS kvs (Sum.inl x:Key)).isSome)) r=af.out (af.from' n (k + 1) (fun x=>(dS kvs (Sum.inl x:Key)).isSome)) r:=by
      unfold af.out
      rw [List.filter_cons,if_neg (by simp [mI.mem])]
     rw [e2]
     exact hrest
    ·rcases U5.mp hr' with h | h
     ·exact hb r' h
     ·have:r'=r:=by simpa using h
      subst this
      exact ⟨IF,hrb⟩
  ·have IC:(dS kvs (Sum.inl (k:Int):Key)).isSome=true:=by simpa using hs
   simp only [IC,if_true] at hfs
   exact iP ⟨_,_,_,rs,kvs,rfl,Fv,Fw,fun rest hrest=>uT rest (by rw [hfs];exact hrest),hb,by omega,by rw [Nat.succ_mul];omega,k2⟩
 ·rintro δ st2 ⟨v3,v4,v5,rs,kvs,rfl,Fv,Fw,uT,hb,hrl,nS,k2⟩
  rw [iM] at uT hrl
  refine eI ?_
  clear hQ
  refine dD ?_
  intro iF hQ
  set_option simprocs false in simp only [cm,de Fv]
  refine hQ _ _ ⟨rs,rfl,?_,hb,hrl,k2⟩
  have:=uT [] (by rw [af.O3];exact .nil)
  rwa [VG] at this
theorem S4 {rs:List (List Int)} {m:Nat} {d:D} (h:(rs.map fun r=>D.tup (r.map D.int))[m]?=some d):∃ r,rs[m]?=some r/\d=.tup (r.map D.int):=by
 rw [UB] at h
 obtain ⟨r,h1,h2⟩:=U3.mp h
 exact ⟨r,h1,h2.symm⟩
theorem Mw {xs:List Int} {i:Int} {m:Nat} {j:Int} (h0:0<=j) (h1:j < ((m + 1:Nat):Int)):gG ((af.row xs i m).map D.int) j=some (.int (af.bq xs i j.toNat)):=by
 have e:((af.row xs i m).map D.int)[j.toNat]?=some (.int (af.bq xs i j.toNat)):=by
  unfold af.row
  rw [UW,UB,VA (by omega)];rfl
 have:=Ad e
 rwa [U0 h0] at this
theorem Mx {bs:List Int} {m v x:Int} (h0:0<=m) (h1:m < (bs.length:Int)) (x0:0<=x):af.app (bs.set m.toNat v) x=if x=m then v else af.app bs x:=by
 have:=af.G6 (xs:=bs) (m:=m.toNat) (v:=v) (x:=x) (by omega) x0
 rw [U0 h0] at this
 exact this
theorem S5 {st:Store} {xs:List Int} {n:Nat} {k:Int} (tn:af.Tn n xs) (hn:n<=100):Wp (Co [.tup (xs.map D.int),.int k] st) fun d st'=>d=.tup ((af.b7 xs k).map D.int)/\Ex [] st st':=by
 have hlen:=tn.length
 refine gQ ?_
 show Ws (EO [some (.tup (xs.map D.int)),some (.int k),none,none,none,none] st) _ _ _ _
 unfold EO
 refine aZ (cK ?_)
 kspl_open hQ
 have e0:(((xs.map D.int).length:Int)).toNat=n:=by rw [Uu];omega
 have ez:(List.replicate n [D.int 0]).flatten=(List.replicate n (0:Int)).map D.int:=by
  clear hlen tn hn e0
  induction n with
  | zero=>rfl
  | succ n ih=>simp [Vi]
 rw [e0,ez]
 have C5:st.length<=(st ++ [O.lst [D.int 0]]).length:=by simp
 refine ⟨rfl,by rw [Uu];omega,kJ (by simp;omega),hQ _ _ ?_⟩
 clear hQ
 have IH:(st ++ [O.lst [D.int 0]] ++ [O.lst ((List.replicate n (0:Int)).map D.int)])[(st ++ [O.lst [D.int 0]]).length]?=some (.lst ((List.replicate n (0:Int)).map D.int)):=jQ
 have kB:Ex [] st (st ++ [O.lst [D.int 0]] ++ [O.lst ((List.replicate n (0:Int)).map D.int)]):=(Ex.cU _).app _
 generalize (st ++ [O.lst [D.int 0]] ++ [O.lst ((List.replicate n (0:Int)).map D.int)])=S6 at IH kB ⊢
 generalize (st ++ [O.lst [D.int 0]]).length=B at C5 IH ⊢
 show Ws _ _ _ _ _
 obtain ⟨d,st2,e2,rs,rfl,uT,hrb,hrl,k2⟩:=S2 (st:=S6) tn hn
 refine aZ (m8 (rs.map fun r=>.tup (r.map D.int)) (fun m δ st3=>∃ (v3 v4 v5:Option D) (bs:List Int),δ=[some (.tup (xs.map D.int)),some (.int k),some (.ref B),v3,v4,v5]/\st3[B]?=some (.lst (bs.map D.int))/\bs.length=n/\(∀ j,j < m->∀ r,rs[j]?=some r->∀ x∈r,af.app bs x=af.pw xs k x)/\Ex [] st st3) ?_ (by rw [Uu];omega) ?_ ?_)
 ·kspl_open hQ
  refine ⟨_,_,e2,?_⟩
  exact ⟨_,rfl,hQ _ _ ⟨rfl,none,none,none,_,rfl,k2.keep _ _ IH (by simp),by simp,fun j hj=>absurd hj (U9 _),kB.trans k2⟩⟩
 ·rintro m d δ st3 hm ⟨v3,v4,v5,bs,rfl,II,uS,sZ,k3⟩
  obtain ⟨r,hr,rfl⟩:=S4 hm
  obtain ⟨i,hi,mI⟩:=uT.all.1 r (UJ hr)
  obtain ⟨i0,i1⟩:=af.kE.mp hi
  obtain ⟨M,rfl,nb,bk⟩:=mI.ex
  have hM:=tn.jT i0 i1 nb
  kspl_open hQ
  refine hQ _ _ (m8 (gP ((af.row xs i M).map D.int)) (fun t δ l6=>∃ (v4 v5:Option D) (cs:List Int),δ=[some (.tup (xs.map D.int)),some (.int k),some (.ref B),some (.tup ((af.row xs i M).map D.int)),v4,v5]/\l6[B]?=some (.lst (cs.map D.int))/\cs.length=n/\(∀ x:Int,0<=x->x < (n:Int)->af.app bs x=af.pw xs k x->af.app cs x=af.pw xs k x)/\(∀ j,j < t->af.app cs (af.bq xs i j)=af.pw xs k (af.bq xs i j))/\Ex [] st l6) ?_ ?_ ?_ ?_)
  ·clear hQ
   kspl_open hQ
   exact hQ _ _ ⟨rfl,v4,v5,bs,rfl,II,uS,fun _ _ _ h=>h,fun j hj=>absurd hj (U9 _),k3⟩
  ·rw [Bx,Uu,af.rF];omega
  ·rintro t d δ l6 hd ⟨v4,v5,cs,rfl,Fz,hcl,hcs,hct,k4⟩
   obtain ⟨d',hd',rfl⟩:=Hz hd
   obtain ⟨y,hy,rfl⟩:=Em hd'
   have Mz:=gZ hy
   rw [af.rF] at Mz
   have ey:y=af.bq xs i t:=by
    unfold af.row at hy
    rw [UB,VA Mz] at hy
    exact (UD hy).symm
   subst ey
   obtain ⟨x0,x1⟩:=tn.bq i0 i1 t
   have hL:(0:Int) < ((M + 1:Nat):Int):=by omega
   have m0:=Vy ((t:Int) + k) (Int.ne_of_gt hL)
   have m1:=VE ((t:Int) + k) hL
   have eL:((((af.row xs i M).map D.int).length:Nat):Int)=((M + 1:Nat):Int):=by rw [Uu,af.rF]
   have hix:lq (cs.map D.int).length (af.bq xs i t)=some (af.bq xs i t).toNat:=by
    have:=yG (n:=(cs.map D.int).length) (j:=(af.bq xs i t).toNat) (by rw [Uu];omega)
    rwa [U0 x0] at this
   have es:∀ v:Int,(cs.map D.int).set (af.bq xs i t).toNat (.int v)=(cs.set (af.bq xs i t).toNat v).map D.int:=fun v=>by rw [WS]
   clear hQ
   kspl_open hQ
   refine ⟨rfl,hQ _ _ (sP ?_)⟩
   clear hQ
   refine dD ?_
   intro iF hQ
   set_option simprocs false in simp only [cm,eL,Mw m0 m1]
   refine ⟨hL,hQ _ _ ?_⟩
   clear hQ
   refine dD ?_
   intro iF hQ
   set_option simprocs false in simp only [cm,lA Fz,hix,es]
   have hat:=tn.vY x0 x1 (tn.vU i0 i1 nb bk t k)
   refine hQ _ _ ⟨_,_,_,rfl,UL (gZ Fz),by rw [Vo];exact hcl,fun x h0 h1 h=>?_,fun j hj=>?_,k4.loc C5⟩
   ·rw [Mx x0 (by omega) h0]
    split
    ·next e=>rw [e];exact hat
    ·exact hcs x h0 h1 h
   ·obtain ⟨y0,y1⟩:=tn.bq i0 i1 j
    rw [Mx x0 (by omega) y0]
    split
    ·next e=>rw [e];exact hat
    ·next e =>
     by_cases S7:j=t
     ·rw [S7] at e;exact absurd rfl e
     ·exact hct j (by omega)
  ·rintro δ l6 ⟨v4,v5,cs,rfl,Fz,hcl,hcs,hct,k4⟩
   rw [Bx,Uu,af.rF] at hct
   refine ⟨_,_,_,cs,rfl,Fz,hcl,fun j hj r hr2 x hx=>?_,k4⟩
   by_cases S8:j=m
   ·subst S8
    rw [hr] at hr2
    cases hr2
    obtain ⟨jj,Uj,rfl⟩:=af.DS.mp hx
    exact hct jj (by omega)
   ·obtain ⟨b0,b1⟩:=(hrb r (UJ hr2)).2 x hx
    exact hcs x b0 b1 (sZ j (by omega) r hr2 x hx)
 ·rintro δ st3 ⟨v3,v4,v5,bs,rfl,II,uS,sZ,k3⟩
  rw [Uu] at sZ
  have e:bs=af.b7 xs k:=by
   refine af.o7 (n:=n) uS (by rw [af.AX];exact hlen) fun s s0 s1=>?_
   rw [af.oD s0 (by omega)]
   obtain ⟨r,hr',hx⟩:=uT.all.2 s (af.kE.mpr ⟨s0,s1⟩)
   obtain ⟨j,hj,ej⟩:=VM hr'
   exact sZ j hj r (by rw [Uv hj,ej]) s hx
  subst e
  refine eI ?_
  refine dD ?_
  intro iF hQ
  set_option simprocs false in simp only [cm,de II]
  exact hQ _ _ ⟨rfl,k3⟩
theorem MA {st:Store} {xs ys:List Int} {n:Nat} {k:Int} (tx:af.Tn n xs) (ty:af.Tn n ys) (hn:n<=100):Wp (sW [b9 xs ys,.int k] st) fun d st'=>d=b9 xs (af.shr xs ys k)/\Ex [] st st':=by
 refine gQ ?_
 show Ws (ER [some (b9 xs ys),some (.int k)] st) _ _ _ _
 unfold ER b9
 refine eI ?_
 have tp:=tx.b7 (-k)
 kspl_open hQ
 refine aV (S5 (k:=-k) tx hn) ?_
 rintro d st1 ⟨rfl,k1⟩
 refine aV (zq (xs:=af.b7 xs (-k)) (ys:=ys) (fun x hx=>by rw [ty.length];exact tp.bound hx) (by rw [tp.length];exact hn)) ?_
 rintro d st2 ⟨rfl,k2⟩
 exact ⟨rfl,hQ _ _ ⟨rfl,k1.trans k2⟩⟩
theorem MB {st:Store} {xs ys:List Int} {n:Nat} (tx:af.Tn n xs) (ty:af.Tn n ys) (hn:n<=100):Wp (sX [b9 xs ys] st) fun d st'=>d=b9 (af.inv ys) xs/\Ex [] st st':=by
 refine gQ ?_
 show Ws (ES [some (b9 xs ys)] st) _ _ _ _
 unfold ES b9
 refine eI ?_
 kspl_open hQ
 refine aV (IB ty hn) ?_
 rintro d st1 ⟨rfl,k1⟩
 exact ⟨rfl,hQ _ _ ⟨rfl,k1⟩⟩
theorem IJ {st:Store} {Q:D->Store->Prop} {xs:List Int} {v:Int} (h:v∈xs):Wp (hJ (.tup (xs.map D.int)) [.int v] st) Q↔Q (.int (xs.idxOf v:Int)) st:=by
 rw [Lx]
 constructor
 ·rintro ⟨ns,j,h1,h2,q⟩
  rw [Lz] at h1
  cases h1
  rw [LH h] at h2
  cases h2
  exact q
 ·intro q
  exact ⟨xs,_,Lz xs,LH h,q⟩
theorem MC {st:Store} {xs ys p:List Int} {n:Nat} (tx:af.Tn n xs) (ty:af.Tn n ys) (tp:af.Tn n p) (hn:n<=100):Wp (uP [b9 xs ys,.tup (p.map D.int)] st) fun d st'=>d=b9 (af.anew xs p) (af.anew ys p)/\Ex [] st st':=by
 have yd:=tp.length
 refine gQ ?_
 show Ws (E5 [some (b9 xs ys),some (.tup (p.map D.int))] st) _ _ _ _
 unfold E5 b9
 refine eI ?_
 kspl_open hQ
 refine sR [.tup (xs.map D.int),.tup (ys.map D.int)] (fun d=>match d with | .tup ds=>.tup ((af.anew (ds.map inD) p).map D.int) | _=>.non) ?_ (by simp) ?_ ?_
 ·kspl_open cx
  exact cx _ _ ⟨qX _ _,Ex.refl⟩
 ·intro d hd st1 k1
  obtain ⟨zs,rfl,tz⟩:∃ zs:List Int,d=.tup (zs.map D.int)/\af.Tn n zs:=by
   rcases UU.mp hd with rfl | hd
   ·exact ⟨xs,rfl,tx⟩
   ·exact ⟨ys,UP.mp hd,ty⟩
  have Iz:=tz.length
  refine dD ?_
  intro jI cx
  set_option simprocs false in simp only [cm,UT,Vg,Vm,Vn]
  refine sR (aE 0 n) (fun d=>.int (af.app p (af.app zs (p.idxOf (inD d):Int)))) ?_ (by rw [iM];omega) ?_ ?_
  ·kspl_open rm
   rw [Uu,yd]
   exact ⟨by omega,rm _ _ ⟨by rw [UK];exact qX _ _,Ex.refl⟩⟩
  ·intro d hd st2 k2
   rw [pT] at hd
   obtain ⟨x,hx,rfl⟩:=y2 hd
   obtain ⟨x0,x1⟩:=af.kE.mp hx
   have hm:=tp.mem x0 x1
   have hi:=tp.idx x0 x1
   obtain ⟨a0,a1⟩:=tz.app (i:=(p.idxOf x:Int)) (by omega) (by omega)
   refine dD ?_
   intro C3 rm
   set_option simprocs false in simp only [cm,UT,Vg,Vm,Vn,HE,IJ hm,p9 (xs:=zs) (i:=(p.idxOf x:Int)) (by omega) (by omega),p9 (xs:=p) a0 (by omega)]
   exact rm _ _ ⟨rfl,Ex.refl⟩
  ·intro st' k'
   have e:(aE 0 n).map (fun d=>D.int (af.app p (af.app zs (p.idxOf (inD d):Int))))=(af.anew zs p).map D.int:=by
    rw [pT,BX (f:=fun x=>af.app p (af.app zs (p.idxOf x:Int))) fun x hx=>rfl]
    congr 1
    unfold af.anew af.aK af.inv
    rw [UW,UW,yd]
    rfl
   rw [e]
   w_how
   refine cx _ _ ⟨?_,k'.app _⟩
   show D.tup _=D.tup ((af.anew ((zs.map D.int).map inD) p).map D.int)
   rw [UW]
   congr 3
   exact (V8 zs).symm
 ·intro st' k'
  w_how
  refine hQ _ _ ⟨?_,k'.app _⟩
  have e:∀ zs:List Int,(zs.map D.int).map inD=zs:=fun zs=>by rw [UW];exact V8 zs
  simp only [UT,Vg,e]
theorem MD {xs:List Int} {i:Int} {m:Nat}:gG ((af.row xs i m).map D.int) (-1)=some (.int (af.bq xs i m)):=by
 have hl:((af.row xs i m).map D.int).length=m + 1:=by rw [Uu,af.rF]
 unfold gG lq
 rw [if_neg (by decide),hl,if_pos (by omega),V3,show ((-1:Int) + ((m + 1:Nat):Int)).toNat=m by omega]
 unfold af.row
 rw [UW,UB,VA (by omega)];rfl
theorem S9 {st:Store} {xs:List Int} {n:Nat} {s k:Int} (tn:af.Tn n xs) (hn:n<=100) (s0:0<=s) (s1:s < (n:Int)):Wp (CI [.tup (xs.map D.int),.int s,.int k] st) fun d st'=>d=.int (af.pw xs k s)/\Ex [] st st':=by
 have hlen:=tn.length
 refine gQ ?_
 show Ws (E6 [some (.tup (xs.map D.int)),some (.int s),some (.int k),none] st) _ _ _ _
 unfold E6
 refine aZ (xr (N:=fun δ st1=>∃ (zs:List Int) (j:Nat),δ=[some (.tup (zs.map D.int)),some (.int s),some (.int (j:Int)),none]/\af.Tn n zs/\af.bq zs s j=af.pw xs k s/\Ex [] st st1) (gY ?_) ?_)
 ·kspl_open hQ
  refine hQ _ _ ⟨fun h=>?_,fun h=>iP ⟨xs,k.toNat,?_,tn,?_,Ex.refl⟩⟩
  ·have h:=of_decide_eq_true h
   clear hQ
   refine aZ (cK ?_)
   kspl_open hQ
   refine sR (aE 0 n) (fun d=>.int (xs.idxOf (inD d):Int)) ?_ (by rw [iM];omega) ?_ ?_
   ·kspl_open cx
    rw [Uu,hlen]
    exact ⟨by omega,cx _ _ ⟨by rw [UK];exact qX _ _,Ex.refl⟩⟩
   ·intro d hd pK k7
    rw [pT] at hd
    obtain ⟨x,hx,rfl⟩:=y2 hd
    obtain ⟨x0,x1⟩:=af.kE.mp hx
    refine dD ?_
    intro jI cx
    set_option simprocs false in simp only [cm,UT,Vg,Vm,Vn,HE,IJ (tn.mem x0 x1)]
    exact cx _ _ ⟨rfl,Ex.refl⟩
   ·intro pK k7
    have e:(aE 0 n).map (fun d=>D.int (xs.idxOf (inD d):Int))=(af.inv xs).map D.int:=by
     rw [pT,BX (f:=fun x=>(xs.idxOf x:Int)) fun x hx=>rfl]
     unfold af.inv
     rw [hlen]
    rw [e]
    w_how
    refine hQ _ _ (cK ?_)
    clear hQ
    kspl_open hQ
    refine hQ _ _ ⟨af.inv xs,(-k).toNat,?_,tn.ax,?_,k7.app _⟩
    ·rw [show (0:Int) - k=(((-k).toNat:Nat):Int) by omega];rfl
    ·unfold af.pw;rw [if_neg (by omega)]
  ·have h:=of_decide_eq_false h
   rw [U0 (by omega)]
  ·have h:=of_decide_eq_false h
   unfold af.pw;rw [if_pos (by omega)]
 rintro δ st1 ⟨zs,j,rfl,tz,ej,k1⟩
 have Iz:=tz.length
 refine aZ (cK ?_)
 kspl_open hQ
 refine ⟨rfl,hQ _ _ (aZ (yZ (fun m δ st2=>∃ k:Nat,m=n - (k + 1)/\δ=[some (.tup (zs.map D.int)),some (.int s),some (.int (j:Int)),some (.ref st1.length)]/\st2[st1.length]?=some (.lst ((af.row zs s k).map D.int))/\af.NB zs s k/\Ex [] st1 st2) (n - 1) (Vt (show n - 1<=100 by omega) (by decide)) ⟨0,rfl,rfl,jQ,fun j h1 h2=>by omega,Ex.cU _⟩ ?_))⟩
 clear hQ
 rintro m δ st2 ⟨k',rfl,rfl,hL,nb,k2⟩
 have hrl:=tz.jT s0 s1 nb
 obtain ⟨y0,y1⟩:=tz.bq s0 s1 k'
 refine dD ?_
 intro iF hQ
 set_option simprocs false in simp only [cm,de hL,MD,p9 (xs:=zs) y0 (by omega)]
 refine hQ _ _ ⟨fun hb=>?_,fun hb=>?_⟩
 ·have hb:af.bq zs s (k' + 1)≠s:=by show af.app zs (af.bq zs s k')≠s;simpa using hb
  have C6:af.NB zs s (k' + 1):=fun j h1 h2=>by
   by_cases hj:j<=k'
   ·exact nb j h1 hj
   ·have:j=k' + 1:=by omega
    rw [this];exact hb
  have hle:=tz.jT s0 s1 C6
  refine qS ?_
  refine dD ?_
  intro jI cx
  set_option simprocs false in simp only [cm,de hL,MD,p9 (xs:=zs) y0 (by omega),lA hL]
  refine ⟨pS (by rw [de hL];rfl),kJ (by rw [Uu,af.rF];omega),cx _ _ ⟨n - (k' + 1 + 1),by omega,k' + 1,rfl,rfl,?_,C6,k2.loc (Ux _)⟩⟩
  rw [UL (gZ hL),af.KI,US];rfl
 ·have hb:af.bq zs s (k' + 1)=s:=by show af.app zs (af.bq zs s k')=s;simpa using hb
  refine eI ?_
  have hpos:(0:Int) < ((k' + 1:Nat):Int):=by omega
  have eL:((((af.row zs s k').map D.int).length:Nat):Int)=((k' + 1:Nat):Int):=by rw [Uu,af.rF]
  refine dD ?_
  intro jI cx
  set_option simprocs false in simp only [cm,de hL,eL,Mw (Vy (j:Int) (Int.ne_of_gt hpos)) (VE (j:Int) hpos)]
  refine ⟨hpos,cx _ _ ⟨?_,k1.trans k2⟩⟩
  rw [<- ej,show ((j:Int) % ((k' + 1:Nat):Int)).toNat=j % (k' + 1) by omega,af.KN hb]
theorem Ta {st:Store} {xs ys:List Int} {n:Nat} {k:Int} (tx:af.Tn n xs) (ty:af.Tn n ys) (hn:n<=100):Wp (x3 [b9 xs ys,.tup [.str "s",.int k]] st) fun d st'=>d=b9 xs (af.shr xs ys k)/\Ex [] st st':=by
 have hlx:=tx.length
 have C1:=ty.length
 refine gQ ?_
 show Ws (zm [some (b9 xs ys),some (.tup [.str "s",.int k]),none,none,none] st) _ _ _ _
 unfold zm b9
 refine aZ (sP ?_)
 kspl_open hQ
 refine hQ _ _ ?_
 clear hQ
 kspl_open hQ
 refine ⟨rfl,hQ _ _ (aZ (gY ?_))⟩
 clear hQ
 kspl_open hQ
 refine hQ _ _ ⟨fun _=>eI ?_,fun h=>absurd h (by simp)⟩
 clear hQ
 kspl_open hQ
 refine sR (aE 0 n) (fun d=>.int (af.app ys (af.pw xs (-k) (inD d)))) ?_ (by rw [iM];omega) ?_ ?_
 ·kspl_open cx
  rw [Uu,C1]
  exact ⟨by omega,cx _ _ ⟨by rw [UK];exact qX _ _,Ex.refl⟩⟩
 ·intro d hd pK k7
  rw [pT] at hd
  obtain ⟨x,hx,rfl⟩:=y2 hd
  obtain ⟨x0,x1⟩:=af.kE.mp hx
  obtain ⟨p0,p1⟩:=tx.pw x0 x1 (-k)
  refine dD ?_
  intro jI cx
  set_option simprocs false in simp only [cm,UT,Vg,Vm,Vn]
  refine aV (S9 (k:=0 - k) tx hn x0 x1) ?_
  rintro d iQ ⟨rfl,k8⟩
  rw [show (0:Int) - k=-k by omega]
  set_option simprocs false in simp only [cm,p9 (xs:=ys) p0 (by omega)]
  exact cx _ _ ⟨rfl,k8⟩
 ·intro pK k7
  have e:(aE 0 n).map (fun d=>D.int (af.app ys (af.pw xs (-k) (inD d))))=(af.shr xs ys k).map D.int:=by
   rw [pT,BX (f:=fun x=>af.app ys (af.pw xs (-k) x)) fun x hx=>rfl]
   unfold af.shr af.aK af.b7
   rw [hlx,UW,UW,UW]
   rfl
  rw [e]
  w_how
  exact ⟨rfl,hQ _ _ ⟨rfl,k7.app _⟩⟩
def mr (xs ys:List Int):Nat->List Int×List Int
 | 0=>(xs,ys)
 | j + 1=>(af.inv (mr xs ys j).2,(mr xs ys j).1)
theorem C8 {n:Nat} {xs ys:List Int} (tx:af.Tn n xs) (ty:af.Tn n ys):∀ j,af.Tn n (mr xs ys j).1/\af.Tn n (mr xs ys j).2
 | 0=>⟨tx,ty⟩
 | j + 1=>⟨(C8 tx ty j).2.ax,(C8 tx ty j).1⟩
theorem Tb {st:Store} {xs ys:List Int} {n j:Nat} (tx:af.Tn n xs) (ty:af.Tn n ys) (hn:n<=100) (hj:j < 4):Wp (x3 [b9 xs ys,.tup [.str "t",.int (j:Int)]] st) fun d st'=>d=b9 (mr xs ys j).1 (mr xs ys j).2/\Ex [] st st':=by
 refine gQ ?_
 show Ws (zm [some (b9 xs ys),some (.tup [.str "t",.int (j:Int)]),none,none,none] st) _ _ _ _
 unfold zm b9
 refine aZ (sP ?_)
 kspl_open hQ
 refine hQ _ _ ?_
 clear hQ
 kspl_open hQ
 refine ⟨rfl,hQ _ _ (aZ (gY ?_))⟩
 clear hQ
 kspl_open hQ
 refine hQ _ _ ⟨fun h=>absurd h (by decide),fun _=>iP (aZ (m8 (aE 0 j) (fun i δ st2=>∃ v4:Option D,δ=[some (.tup [.tup (xs.map D.int),.tup (ys.map D.int)]),some (.tup [.str "t",.int (j:Int)]),some (.tup ((mr xs ys i).1.map D.int)),some (.tup ((mr xs ys i).2.map D.int)),v4]/\Ex [] st st2) ?_ (by rw [iM];omega) ?_ ?_))⟩
 ·clear hQ
  kspl_open hQ
  rw [show (j:Int) % 4=(j:Int) by omega]
  exact ⟨by omega,by omega,hQ _ _ ⟨by rw [UK],none,rfl,Ex.refl⟩⟩
 ·rintro i d δ st2 hd ⟨v4,rfl,k2⟩
  obtain ⟨ta,tb⟩:=C8 tx ty i
  show Wp _ _
  have hlb:=tb.length
  generalize hzs:(mr xs ys i).2=zs at tb hlb ⊢
  clear hQ
  kspl_open hQ
  refine hQ _ _ (sP ?_)
  clear hQ
  kspl_open hQ
  refine sR (aE 0 n) (fun d=>.int (zs.idxOf (inD d):Int)) ?_ (by rw [iM];omega) ?_ ?_
  ·kspl_open cx
   rw [Uu,hlb]
   exact ⟨by omega,cx _ _ ⟨by rw [UK];exact qX _ _,Ex.refl⟩⟩
  ·intro d hd pK k7
   rw [pT] at hd
   obtain ⟨x,hx,rfl⟩:=y2 hd
   obtain ⟨x0,x1⟩:=af.kE.mp hx
   refine dD ?_
   intro jI cx
   set_option simprocs false in simp only [cm,UT,Vg,Vm,Vn,HE,IJ (tb.mem x0 x1)]
   exact cx _ _ ⟨rfl,Ex.refl⟩
  ·intro pK k7
   have e:(aE 0 n).map (fun d=>D.int (zs.idxOf (inD d):Int))=(af.inv zs).map D.int:=by
    rw [pT,BX (f:=fun x=>(zs.idxOf x:Int)) fun x hx=>rfl]
    unfold af.inv
    rw [hlb]
   rw [e]
   w_how
   refine ⟨rfl,hQ _ _ ?_⟩
   clear hQ
   kspl_open hQ
   refine ⟨rfl,hQ _ _ ⟨some d,?_,(k2.trans k7).app _⟩⟩
   rw [show (mr xs ys (i + 1)).1=af.inv (mr xs ys i).2 from rfl,show (mr xs ys (i + 1)).2=(mr xs ys i).1 from rfl,hzs]
 ·rintro δ st2 ⟨v4,rfl,k2⟩
  rw [iM]
  refine eI ?_
  clear hQ
  kspl_open hQ
  exact ⟨rfl,hQ _ _ ⟨rfl,k2⟩⟩
def zt (s:g5):Prop:=s.1=false->1<=s.2/\s.2<=3
def gk (p:List Int×List Int) (s:g5):List Int×List Int:=if s.1=true then (p.1,af.shr p.1 p.2 s.2) else mr p.1 p.2 s.2.toNat
def gU (p:List Int×List Int) (w:List g5):List Int×List Int:=w.foldl gk p
theorem Tc {n:Nat} {p:List Int×List Int} (h:af.Tn n p.1/\af.Tn n p.2) (s:g5):af.Tn n (gk p s).1/\af.Tn n (gk p s).2:=by
 unfold gk
 split
 ·exact ⟨h.1,h.1.shr h.2 _⟩
 ·exact C8 h.1 h.2 _
theorem FA {n:Nat}:∀ {p:List Int×List Int},af.Tn n p.1/\af.Tn n p.2->∀ w:List g5,af.Tn n (gU p w).1/\af.Tn n (gU p w).2
 | _,h,[]=>h
 | _,h,s :: w=>FA (Tc h s) w
theorem Td (p:List Int×List Int) (v w:List g5):gU p (v ++ w)=gU (gU p v) w:=by unfold gU;rw [Vw]
theorem ME (p:List Int×List Int) (w:List g5) (s:g5):gU p (w ++ [s])=gk (gU p w) s:=by rw [Td];rfl
def aT (p:List Int×List Int):D:=b9 p.1 p.2
theorem Te {st:Store} {p:List Int×List Int} {n:Nat} {s:g5} (h:af.Tn n p.1/\af.Tn n p.2) (hn:n<=100) (hs:zt s):Wp (x3 [aT p,cV s] st) fun d st'=>d=aT (gk p s)/\Ex [] st st':=by
 obtain ⟨b,k⟩:=s
 cases b with
 | true=>exact Ta (k:=k) h.1 h.2 hn
 | false =>
  obtain ⟨k1,k3⟩:=hs rfl
  obtain ⟨j,rfl⟩:∃ j:Nat,k=(j:Int):=⟨k.toNat,by simp only at k1;omega⟩
  have:=Tb (st:=st) (j:=j) h.1 h.2 hn (by simp only at k3;omega)
  refine aV this ?_
  rintro d st1 ⟨rfl,k1⟩
  refine ⟨?_,k1⟩
  unfold aT gk
  rw [if_neg (show ¬ (false=true) from UE),UK]
theorem FC {st:Store} {p:List Int×List Int} {n:Nat} {w:List g5} (h:af.Tn n p.1/\af.Tn n p.2) (hn:n<=100) (hw:∀ s∈w,zt s) (hl:w.length<=1000):Wp (pW [aT p,.tup (w.map cV)] st) fun d st'=>d=aT (gU p w)/\Ex [] st st':=by
 refine gQ ?_
 show Ws (E8 [some (aT p),some (.tup (w.map cV)),none] st) _ _ _ _
 unfold E8
 refine aZ (m8 (w.map cV) (fun i δ st2=>∃ v2:Option D,δ=[some (aT (gU p (w.take i))),some (.tup (w.map cV)),v2]/\Ex [] st st2) ?_ (by rw [Uu];omega) ?_ ?_)
 ·kspl_open hQ
  exact hQ _ _ ⟨rfl,none,rfl,Ex.refl⟩
 ·rintro i d δ st2 hd ⟨v2,rfl,k2⟩
  rw [UB] at hd
  obtain ⟨s,hs,rfl⟩:=U3.mp hd
  obtain ⟨hil,es⟩:=Uw.mp hs
  kspl_open hQ
  refine hQ _ _ (cK ?_)
  clear hQ
  kspl_open hQ
  refine aV (Te (FA h _) hn (hw s (UJ hs))) ?_
  rintro d st3 ⟨rfl,k3⟩
  refine hQ _ _ ⟨some (cV s),?_,k2.trans k3⟩
  rw [U2 hil,ME,es]
  rfl
 ·rintro δ st2 ⟨v2,rfl,k2⟩
  rw [Uu,VR]
  refine eI ?_
  kspl_open hQ
  exact hQ _ _ ⟨rfl,k2⟩
theorem Tf {st:Store} {p:List Int×List Int} {n:Nat} {s:g5} (h:af.Tn n p.1/\af.Tn n p.2) (hn:n<=100) (hs:zt s):Wp (Cr [aT p,cV s] st) fun d st'=>d=aT (gk p s)/\Ex [] st st':=by
 obtain ⟨b,k⟩:=s
 refine gQ ?_
 show Ws (ET [some (aT p),some (cV (b,k)),none,none] st) _ _ _ _
 unfold ET cV
 cases b with
 | true =>
  refine aZ (gY ?_)
  kspl_open hQ
  refine hQ _ _ ⟨fun _=>eI ?_,fun z=>absurd z (by decide)⟩
  clear hQ
  kspl_open hQ
  refine aV (MA (k:=k) h.1 h.2 hn) ?_
  rintro d st1 ⟨rfl,k1⟩
  exact hQ _ _ ⟨rfl,k1⟩
 | false =>
  obtain ⟨k1,k3⟩:=hs rfl
  obtain ⟨j,rfl⟩:∃ j:Nat,k=(j:Int):=⟨k.toNat,by simp only at k1;omega⟩
  refine aZ (gY ?_)
  kspl_open hQ
  refine hQ _ _ ⟨fun z=>absurd z (by decide),fun _=>iP (aZ (cK ?_))⟩
  clear hQ
  kspl_open hQ
  refine hQ _ _ (aZ (m8 (aE 0 j) (fun i δ st2=>∃ v3:Option D,δ=[some (aT p),some (cV (false,(j:Int))),some (b9 (mr p.1 p.2 i).1 (mr p.1 p.2 i).2),v3]/\Ex [] st st2) ?_ (by rw [iM];simp only at k3;omega) ?_ ?_))
  ·clear hQ
   kspl_open hQ
   exact ⟨by simp only at k3;omega,hQ _ _ ⟨by rw [UK],none,rfl,Ex.refl⟩⟩
  ·rintro i d δ st2 hd ⟨v3,rfl,k2⟩
   obtain ⟨ta,tb⟩:=C8 h.1 h.2 i
   clear hQ
   kspl_open hQ
   refine hQ _ _ (cK ?_)
   clear hQ
   kspl_open hQ
   refine aV (MB ta tb hn) ?_
   rintro d' st3 ⟨rfl,k3⟩
   exact hQ _ _ ⟨some d,rfl,k2.trans k3⟩
  ·rintro δ st2 ⟨v3,rfl,k2⟩
   rw [iM]
   refine eI ?_
   clear hQ
   kspl_open hQ
   refine hQ _ _ ⟨?_,k2⟩
   unfold aT gk
   rw [if_neg (show ¬ (false=true) from UE),UK]
theorem FD {st:Store} {p:List Int×List Int} {n:Nat} {w:List g5} (h:af.Tn n p.1/\af.Tn n p.2) (hn:n<=100) (hw:∀ s∈w,zt s) (hl:w.length<=1000):Wp (pz [aT p,.tup (w.map cV)] st) fun d st'=>d=aT (gU p w)/\Ex [] st st':=by
 refine gQ ?_
 show Ws (EV [some (aT p),some (.tup (w.map cV)),none,none] st) _ _ _ _
 unfold EV
 refine aZ (cK ?_)
 kspl_open hQ
 refine hQ _ _ (aZ (m8 (w.map cV) (fun i δ st2=>∃ v2:Option D,δ=[some (aT p),some (.tup (w.map cV)),some (aT (gU p (w.take i))),v2]/\Ex [] st st2) ?_ (by rw [Uu];omega) ?_ ?_))
 ·clear hQ
  kspl_open hQ
  exact hQ _ _ ⟨rfl,none,rfl,Ex.refl⟩
 ·rintro i d δ st2 hd ⟨v2,rfl,k2⟩
  rw [UB] at hd
  obtain ⟨s,hs,rfl⟩:=U3.mp hd
  obtain ⟨hil,es⟩:=Uw.mp hs
  clear hQ
  kspl_open hQ
  refine hQ _ _ (cK ?_)
  clear hQ
  kspl_open hQ
  refine aV (Tf (FA h _) hn (hw s (UJ hs))) ?_
  rintro d st3 ⟨rfl,k3⟩
  refine hQ _ _ ⟨some (cV s),?_,k2.trans k3⟩
  rw [U2 hil,ME,es]
  rfl
 ·rintro δ st2 ⟨v2,rfl,k2⟩
  rw [Uu,VR]
  refine eI ?_
  clear hQ
  kspl_open hQ
  exact hQ _ _ ⟨rfl,k2⟩
def C9 (g:Int) (s:g5):Prop:=(s.1=false->1<=s.2/\s.2<=3)/\(s.2.natAbs:Int)<=g/\s.2≠0
theorem MF {st:Store} {f:Nat} {most great:Int} (hf:bz st f) (m0:0<=most) (m1:most<=100) (g0:3<=great) (g1:great<=1000):Wp (uQ [.ref f,.int most,.int great] st) fun d st'=>∃ w:List g5,d=.tup (w.map cV)/\(∀ s∈w,C9 great s)/\(w.length:Int)<=most/\bz st' f/\Ex [f] st st':=by
 have hfl:=hf.lt
 refine gQ ?_
 show Ws (Fj [some (.ref f),some (.int most),some (.int great),none,none] st) _ _ _ _
 unfold Fj
 refine aZ (cK ?_)
 kspl_open hQ
 refine ⟨rfl,hQ _ _ ?_⟩
 clear hQ
 show Ws _ _ _ _ _
 obtain ⟨d,st1,e1,c,rfl,c0,c1,f1,k1⟩:=rQ (st:=st ++ [O.lst []]) (n:=most + 1) (hf.keep (Ex.cU _)) (by omega) (by omega)
 obtain ⟨m,rfl⟩:∃ m:Nat,c=(m:Int):=⟨c.toNat,by omega⟩
 have hl1:st1[st.length]?=some (.lst []):=k1.keep _ _ jQ (by simp;omega)
 have kx:Ex [f] st st1:=(Ex.cU _).trans k1
 refine aZ (m8 (aE 0 m) (fun i δ st2=>∃ (v4:Option D) (w:List g5),δ=[some (.ref f),some (.int most),some (.int great),some (.ref st.length),v4]/\st2[st.length]?=some (.lst (w.map cV))/\(∀ s∈w,C9 great s)/\w.length<=i/\bz st2 f/\Ex [f] st st2) ?_ (by rw [iM];omega) ?_ ?_)
 ·kspl_open hQ
  refine ⟨_,_,e1,?_⟩
  exact ⟨_,rfl,by omega,hQ _ _ ⟨by rw [UK],none,[],rfl,hl1,(fun s hs=>nomatch hs),Ux _,f1,kx⟩⟩
 ·rintro i d δ st2 hd ⟨v4,w,rfl,hl2,hw,hwl,f2,k2⟩
  have hil:=gZ hd
  rw [iM] at hil
  have put:∀ (s:g5) (jG:Store),C9 great s->bz jG f->jG[st.length]?=some (.lst (w.map cV))->Ex [f] st jG->∀ v4:Option D,∃ (IK:Option D) (w':List g5),[some (.ref f),some (.int most),some (.int great),some (.ref st.length),v4]=[some (.ref f),some (.int most),some (.int great),some (.ref st.length),IK]/\(jG.set st.length (.lst (w.map cV ++ [cV s])))[st.length]?=some (.lst (w'.map cV))/\(∀ s∈w',C9 great s)/\w'.length<=i + 1/\bz (jG.set st.length (.lst (w.map cV ++ [cV s]))) f/\Ex [f] st (jG.set st.length (.lst (w.map cV ++ [cV s]))):=fun s jG os f5 h5 k5 v4=>by
   refine ⟨v4,w ++ [s],rfl,?_,fun s' hs'=>?_,by rw [UG];simp;omega,f5.ne (by omega),k5.loc (Ux _)⟩
   ·rw [UL (gZ h5),US];rfl
   ·rcases U5.mp hs' with h | h
    ·exact hw s' h
    ·rw [UP.mp h];exact os
  kspl_open hQ
  refine hQ _ _ (gY ?_)
  clear hQ
  kspl_open hQ
  refine aV (rQ (n:=2) f2 (by decide) (by decide)) ?_
  rintro d' st3 ⟨b,rfl,b0,b1,f3,k3⟩
  have hl3:=k3.keep _ _ hl2 (by simp;omega)
  w_how
  refine hQ _ _ ⟨fun _=>qS ?_,fun _=>aZ (cK ?_)⟩
  ·clear hQ
   kspl_open hQ
   refine ⟨pS (by rw [de hl3];rfl),?_⟩
   refine aV (rQ (n:=3) f3 (by decide) (by decide)) ?_
   rintro d' l6 ⟨c,rfl,c0,c1,f4,k4⟩
   have sY:=k4.keep _ _ hl3 (by simp;omega)
   set_option simprocs false in simp only [cm,lA sY]
   refine ⟨rfl,kJ (by rw [Uu];omega),hQ _ _ ?_⟩
   exact put (false,1 + c) l6 ⟨fun _=>⟨by show 1<=1 + c;omega,by show 1 + c<=3;omega⟩,by show ((1 + c).natAbs:Int)<=great;omega,by show 1 + c≠0;omega⟩ f4 sY ((k2.trans k3).trans k4) _
  ·clear hQ
   kspl_open hQ
   refine aV (rQ (n:=great) f3 (by omega) (by omega)) ?_
   rintro d' l6 ⟨c,rfl,c0,c1,f4,k4⟩
   have sY:=k4.keep _ _ hl3 (by simp;omega)
   w_how
   refine hQ _ _ (qS ?_)
   clear hQ
   kspl_open hQ
   refine ⟨pS (by rw [de sY];rfl),rfl,?_⟩
   refine aV (rQ (n:=2) (f4.keep (Ex.cU [O.lst [D.int (1 + c),D.int (0 - (1 + c))]])) (by decide) (by decide)) ?_
   rintro d' jG ⟨g,rfl,Uk,Um,f5,k5⟩
   have Tg:jG[l6.length]?=some (.lst [D.int (1 + c),D.int (0 - (1 + c))]):=k5.keep _ _ jQ (by have:=f4.lt;simp;omega)
   have C7:jG[st.length]?=some (.lst (w.map cV)):=k5.keep _ _ (lP sY) (by simp;omega)
   obtain ⟨sg,hsg,s1,s2⟩:∃ sg:Int,gG [D.int (1 + c),D.int (0 - (1 + c))] g=some (.int sg)/\(sg.natAbs:Int)<=great/\sg≠0:=by
    rcases (show g=0\/g=1 by omega) with rfl | rfl
    ·exact ⟨1 + c,LA _ _,by omega,by omega⟩
    ·exact ⟨0 - (1 + c),LB _ _ _,by omega,by omega⟩
   set_option simprocs false in simp only [cm,de Tg,hsg,lA C7]
   refine ⟨rfl,kJ (by rw [Uu];omega),hQ _ _ ?_⟩
   exact put (true,sg) jG ⟨fun z=>Bool.noConfusion (show true=false from z),s1,s2⟩ f5 C7 (((k2.trans k3).trans k4).trans ((Ex.cU _).trans k5)) _
 ·rintro δ st2 ⟨v4,w,rfl,hl2,hw,hwl,f2,k2⟩
  rw [iM] at hwl
  refine eI ?_
  refine dD ?_
  intro iF hQ
  set_option simprocs false in simp only [cm,de hl2]
  exact hQ _ _ ⟨w,rfl,hw,by omega,f2,k2⟩
theorem Ti {st:Store} {a b:g5}:Wp (Ct [cV a,cV b] st) fun d st'=>d=.tup ((af.cL a b).map cV)/\Ex [] st st':=by
 obtain ⟨ab,ak⟩:=a
 obtain ⟨bb,bk⟩:=b
 refine gQ ?_
 show Ws (EX [some (.tup [.str (if ab then "s" else "t"),.int ak]),some (.tup [.str (if bb then "s" else "t"),.int bk]),none] st) _ _ _ _
 unfold EX
 have hj:af.cL (ab,ak) (bb,bk)=if af.g9 (ab,ak) (bb,bk)=0 then [] else [(ab,af.g9 (ab,ak) (bb,bk))]:=rfl
 refine aZ (cK ?_)
 kspl_open hQ
 refine hQ _ _ ?_
 clear hQ
 show Ws _ _ _ _ _
 refine aZ (xr (N:=fun δ st1=>st1=st/\δ=[some (.tup [.str (if ab then "s" else "t"),.int ak]),some (.tup [.str (if bb then "s" else "t"),.int bk]),some (.int (af.g9 (ab,ak) (bb,bk)))]) (gY ?_) ?_)
 ·kspl_open hQ
  refine hQ _ _ ⟨fun h=>cK ?_,fun h=>iP ⟨rfl,?_⟩⟩
  ·cases ab with
   | true=>exact absurd h (by decide)
   | false =>
    clear hQ
    kspl_open hQ
    exact ⟨by decide,hQ _ _ ⟨rfl,rfl⟩⟩
  ·cases ab with
   | true=>rfl
   | false=>exact absurd h (by decide)
 ·rintro δ st1 ⟨rfl,rfl⟩
  refine aZ (gY ?_)
  kspl_open hQ
  refine hQ _ _ ⟨fun h=>eI ?_,fun h=>iP (eI ?_)⟩
  ·have h:=of_decide_eq_true h
   clear hQ
   kspl_open hQ
   refine ⟨rfl,hQ _ _ ⟨?_,Ex.refl⟩⟩
   rw [hj,if_pos h];rfl
  ·have h:=of_decide_eq_false h
   clear hQ
   kspl_open hQ
   refine ⟨rfl,rfl,hQ _ _ ⟨?_,Ex.refl⟩⟩
   rw [hj,if_neg h];rfl
theorem MG {xs:List D} {x:D}:gG (xs ++ [x]) (-1)=some x:=by
 unfold gG lq
 rw [UG,if_neg (by decide),if_pos (by simp;omega)]
 simp only [V3]
 have e:((-1:Int) + ((xs.length + [x].length:Nat):Int)).toNat=xs.length:=by simp only [VD];omega
 rw [e];simp
theorem Tj {xs:List D} {x:D}:cutD (xs ++ [x]) none (some (-1))=xs:=by
 have e1:HT.cN (xs ++ [x]).length 0 none=0:=rfl
 have e2:HT.cN (xs ++ [x]).length (xs ++ [x]).length (some (-1))=xs.length:=by
  unfold HT.cN
  simp only
  rw [if_pos (by decide),UG,VD];omega
 unfold cutD
 rw [e1,e2,Wx,Nat.sub_zero]
 simp
theorem To (a b:Bool):(((if a=true then ("s" : Str) else "t")=(if b=true then ("s" : Str) else "t")))↔a=b:=by
 cases a <;> cases b <;> decide
theorem Tp {st:Store} {w:List g5} (hl:w.length<=1000):Wp (Cv [.tup (w.map cV)] st) fun d st'=>d=.tup ((af.kS w).reverse.map cV)/\Ex [] st st':=by
 refine gQ ?_
 show Ws (EY [some (.tup (w.map cV)),none,none] st) _ _ _ _
 unfold EY
 refine aZ (cK ?_)
 kspl_open hQ
 refine ⟨rfl,hQ _ _ ?_⟩
 clear hQ
 show Ws _ _ _ _ _
 refine aZ (m8 (w.map cV) (fun i δ st2=>∃ v:Option D,δ=[some (.tup (w.map cV)),some (.tup ((af.kS (w.take i)).reverse.map cV)),v]/\Ex [] st st2) ?_ (by rw [Uu];omega) ?_ ?_)
 ·kspl_open hQ
  exact hQ _ _ ⟨rfl,none,rfl,Ex.refl⟩
 ·rintro i d δ st2 hd ⟨v2,rfl,k2⟩
  rw [UB] at hd
  obtain ⟨s,hs,rfl⟩:=U3.mp hd
  obtain ⟨hil,es⟩:=Uw.mp hs
  have ep:af.kS (w.take (i + 1))=af.cS (af.kS (w.take i)) s:=by rw [U2 hil,af.KZ,es];rfl
  have hpl:(af.kS (w.take i)).length<=1000:=by have:=af.K0 (w.take i);rw [Vs] at this;omega
  rw [ep]
  clear ep
  generalize af.kS (w.take i)=l at hpl ⊢
  kspl_open hQ
  refine hQ _ _ (gY ?_)
  clear hQ
  kspl_open hQ
  cases l with
  | nil =>
   refine hQ _ _ ⟨fun h=>absurd h (by decide),fun _=>cK ?_⟩
   clear hQ
   kspl_open hQ
   exact ⟨rfl,rfl,hQ _ _ ⟨some (cV s),rfl,k2⟩⟩
  | cons t r =>
   have eg:(t :: r).reverse.map cV=r.reverse.map cV ++ [cV t]:=by simp
   rw [eg]
   have el:decide ((0:Int) < ((r.reverse.map cV ++ [cV t]).length:Nat))=true:=decide_eq_true (by simp)
   have es1:cV t=.tup [.str (if t.1 then "s" else "t"),.int t.2]:=rfl
   have Tq:cV s=.tup [.str (if s.1 then "s" else "t"),.int s.2]:=rfl
   have elt:(if t.1=true then ("s" : Str) else "t")=(if s.1=true then ("s" : Str) else "t")↔t.1=s.1:=To _ _
   set_option simprocs false in simp only [cm,MG,es1,Tq]
   rw [if_pos (by simp)]
   refine hQ _ _ ⟨fun h=>cK ?_,fun h=>cK ?_⟩
   ·have h:=elt.mp (of_decide_eq_true h)
    clear hQ
    kspl_open hQ
    rw [eg,Tj]
    set_option simprocs false in simp only [cm,MG]
    refine aV Ti ?_
    rintro d st3 ⟨rfl,k3⟩
    w_how
    refine ⟨kJ ?_,hQ _ _ ⟨some (cV s),?_,k2.trans k3⟩⟩
    ·have:(af.cL t s).length<=1:=by unfold af.cL;split <;> simp
     simp only [Uu,Vl]
     simp only [U1] at hpl
     omega
    ·have ej:(af.cL t s).reverse=af.cL t s:=by unfold af.cL;split <;> rfl
     rw [af.sD,if_pos h,List.reverse_append,US,ej]
     rfl
   ·have h:=fun e=>of_decide_eq_false h (elt.mpr e)
    clear hQ
    kspl_open hQ
    refine ⟨rfl,kJ ?_,hQ _ _ ⟨some (cV s),?_,k2⟩⟩
    ·simp only [Uu,Vl,VD]
     omega
    ·have e2:(s :: t :: r).reverse.map cV=(t :: r).reverse.map cV ++ [cV s]:=by simp
     rw [af.sD,if_neg h,e2]
     rfl
 ·rintro δ st2 ⟨v2,rfl,k2⟩
  rw [Uu,VR]
  refine eI ?_
  kspl_open hQ
  exact hQ _ _ ⟨rfl,k2⟩
theorem Tr {st:Store} {v w:List g5} (hl:v.length + w.length<=1000):Wp (Cz [.tup (v.map cV),.tup (w.map cV)] st) fun d st'=>d=.tup ((af.kS (v ++ w)).reverse.map cV)/\Ex [] st st':=by
 refine gQ ?_
 show Ws (EZ [some (.tup (v.map cV)),some (.tup (w.map cV))] st) _ _ _ _
 unfold EZ
 refine eI ?_
 kspl_open hQ
 refine ⟨kJ (by simp only [Uu];omega),?_⟩
 rw [<- US]
 refine aV (Tp (by rw [UG];exact hl)) ?_
 rintro d st3 ⟨rfl,k3⟩
 exact hQ _ _ ⟨rfl,k3⟩
theorem Ts {st:Store} {s:g5}:Wp (CL [cV s] st) fun d st'=>d=cV (af.kT s)/\Ex [] st st':=by
 obtain ⟨b,k⟩:=s
 refine gQ ?_
 show Ws (E9 [some (.tup [.str (if b then "s" else "t"),.int k])] st) _ _ _ _
 unfold E9
 refine aZ (gY ?_)
 cases b with
 | true =>
  kspl_open hQ
  refine hQ _ _ ⟨fun _=>eI ?_,fun h=>absurd h (by decide)⟩
  clear hQ
  kspl_open hQ
  exact ⟨rfl,hQ _ _ ⟨rfl,Ex.refl⟩⟩
 | false =>
  kspl_open hQ
  refine hQ _ _ ⟨fun h=>absurd h (by decide),fun _=>iP (eI ?_)⟩
  clear hQ
  kspl_open hQ
  exact ⟨rfl,hQ _ _ ⟨rfl,Ex.refl⟩⟩
theorem Tt {st:Store} {w:List g5} (hl:w.length<=1000):Wp (CN [.tup (w.map cV)] st) fun d st'=>d=.tup ((af.ki w).map cV)/\Ex [] st st':=by
 refine gQ ?_
 show Ws (Fb [some (.tup (w.map cV))] st) _ _ _ _
 unfold Fb
 refine eI ?_
 kspl_open hQ
 refine Ra (w.reverse.map cV) (fun i y=>∃ s,w.reverse[i]?=some s/\y=cV (af.kT s)) (Ex [] st) ?_ (by rw [Uu,Vl];omega) ?_ ?_
 ·refine dD ?_
  intro jI cx
  set_option simprocs false in simp only [cm,Rc]
  refine ⟨_,rfl,cx _ _ ⟨fun i st2 hi _=>?_,Ex.refl⟩⟩
  rw [<- List.map_reverse]
  exact qX _ st2 i st2 hi Ex.refl
 ·intro i d hd st1 k1
  rw [UB] at hd
  obtain ⟨s,hs,rfl⟩:=U3.mp hd
  kspl_open cx
  refine aV Ts ?_
  rintro d st3 ⟨rfl,k3⟩
  exact cx _ _ ⟨⟨s,hs,rfl⟩,k1.trans k3⟩
 ·intro ys st' k' hy h
  w_how
  refine hQ _ _ ⟨?_,k'.app _⟩
  congr 1
  refine Wl fun i=>?_
  rw [Uu,Vl] at hy
  have eb:af.ki w=w.reverse.map af.kT:=by unfold af.ki;rw [List.map_reverse]
  rw [eb,UB,UB]
  rcases V2 i ys.length with hi | hi
  ·obtain ⟨s,hs,e⟩:=h i ys[i] (Uv hi)
   rw [hs,Uv hi,e];rfl
  ·rw [Vr hi,Vr (by rw [Vl];omega)];rfl
theorem MH {st:Store} {xs ys:List Int} {n:Nat} {s:Int} (fl:ml n xs ys) (hn:n<=100) (s0:0<=s) (s1:s < (n:Int)):Wp (uN [b9 xs ys,.int s] st) fun d st'=>d=.tup ((af.inv (af.bf xs ys s n)).map D.int)/\Ex [] st st':=by
 obtain ⟨tx,ty,all⟩:=fl
 refine gQ ?_
 show Ws (EI [some (b9 xs ys),some (.int s)] st) _ _ _ _
 unfold EI
 refine eI ?_
 kspl_open hQ
 refine aV (Mu tx ty hn s0 s1) ?_
 rintro d st1 ⟨rfl,k1⟩
 refine aV (IB (af.Ha tx ty s0 s1 all) hn) ?_
 rintro d st2 ⟨rfl,k2⟩
 exact hQ _ _ ⟨rfl,k1.trans k2⟩
def ye (xs ys:List Int) (s:Int) (n:Nat):D:=b9 (af.num xs (af.bf xs ys s n)) (af.num ys (af.bf xs ys s n))
theorem IL {st:Store} {xs ys:List Int} {n:Nat} {s:Int} (fl:ml n xs ys) (hn:n<=100) (s0:0<=s) (s1:s < (n:Int)):Wp (rP [b9 xs ys,.int s] st) fun d st'=>d=ye xs ys s n/\Ex [] st st':=by
 have Tv:=fl
 obtain ⟨tx,ty,all⟩:=fl
 have tb:=af.Ha tx ty s0 s1 all
 refine gQ ?_
 show Ws (EJ [some (b9 xs ys),some (.int s)] st) _ _ _ _
 unfold EJ
 refine eI ?_
 kspl_open hQ
 refine aV (MH Tv hn s0 s1) ?_
 rintro d st1 ⟨rfl,k1⟩
 refine aV (Mt tx ty tb.ax hn) ?_
 rintro d st2 ⟨rfl,k2⟩
 rw [af.uh tx tb,af.uh ty tb]
 exact hQ _ _ ⟨rfl,k1.trans k2⟩
def tD (l:List Int):D:=.tup (l.map D.int)
def kO (L:List (List Int)):List D:=oI (L.map tD) (L.map fU)
theorem yf {n:Nat} {xs ys:List Int} (fl:ml n xs ys):af.Wh n (xs,ys):=⟨⟨fl.1,fl.2.1⟩,fl.2.2⟩
theorem yg (st:Store) (m:Nat) (l:List Int):dc st (m + 2) (tD l)=some (fU l):=by
 show (bQ (dc st (m + 1)) (l.map D.int)).map PyData.tuple=_
 rw [sL (f:=dc st (m + 1)) (g:=D.int) (k:=PyData.int) (fun _=>rfl) l]
 rfl
theorem Tw (st:Store) (m:Nat) (L:List (List Int)):bQ (dc st (m + 2)) (L.map tD)=some (L.map fU):=sL (f:=dc st (m + 2)) (g:=tD) (k:=fU) (fun l=>yg st m l) L
theorem yh {n:Nat} {L:List (List Int)} (h:∀ l∈L,l.length=n) (n0:0 < n) (hl:L.length < 64):n4 (L.map fU)=true:=by
 unfold n4
 simp only [UO,Wt,decide_eq_true_eq,VB,Uu]
 refine ⟨⟨⟨hl,fun a ha b hb=>?_⟩,fun a ha=>?_⟩,.inr fun a ha=>?_⟩
 ·obtain ⟨p,_,rfl⟩:=UH.mp ha
  obtain ⟨q,_,rfl⟩:=UH.mp hb
  exact Eo p q
 ·obtain ⟨p,_,rfl⟩:=UH.mp ha
  refine ⟨vJ p,?_⟩
  show PyData.depthAll (dA p) + 1<=50
  have:=yF p
  omega
 ·obtain ⟨p,hp,rfl⟩:=UH.mp ha
  have:=h p hp
  cases p with
  | nil=>simp at this;omega
  | cons x r=>rfl
theorem MI (L:List (List Int)):(kO L).length=L.length:=by
 have:=(L0 (ds:=L.map tD) (ps:=L.map fU) (by rw [Uu,Uu])).length_eq
 rw [Uu] at this
 exact this
theorem MJ (L:List (List Int)):∃ M:List (List Int),kO L=M.map tD/\M.length=L.length/\∀ l∈M,l∈L:=by
 have p:=L0 (ds:=L.map tD) (ps:=L.map fU) (by rw [Uu,Uu])
 have all:∀ d∈kO L,∃ l∈L,d=tD l:=fun d hd=>by
  obtain ⟨l,hl,e⟩:=UH.mp (p.subset hd)
  exact ⟨l,hl,e.symm⟩
 have len:=MI L
 generalize kO L=S at all len
 rw [<- len]
 clear len p
 induction S with
 | nil=>exact ⟨[],rfl,rfl,fun l h=>nomatch h⟩
 | cons d S ih =>
  obtain ⟨l,hl,rfl⟩:=all d Uy
  obtain ⟨M,e,el,hm⟩:=ih fun d hd=>all d (Uz _ hd)
  refine ⟨l :: M,by rw [e];rfl,by rw [U1,el,U1],fun x hx=>?_⟩
  rcases UU.mp hx with rfl | hx
  ·exact hl
  ·exact hm x hx
def pD (p q:af.aJ) (n m i:Nat):List (List Int):=(((af.upto m).take i).filter fun s=>decide (af.jo q m s=af.jo p n 0)).map fun s=>af.aK (af.inv (af.bf p.1 p.2 0 n)) (af.bf q.1 q.2 s m)
theorem IP (p q:af.aJ) (n m:Nat):pD p q n m m=af.oE p q n m:=by
 unfold pD
 rw [List.take_of_length_le (by rw [af.oC];exact Ux _)]
 rfl
theorem MK {p q:af.aJ} {n m i:Nat} (h:i < m):pD p q n m (i + 1)=pD p q n m i ++ if af.jo q m (i:Int)=af.jo p n 0 then [af.aK (af.inv (af.bf p.1 p.2 0 n)) (af.bf q.1 q.2 (i:Int) m)] else []:=by
 unfold pD
 have hl:i < (af.upto m).length:=by rw [af.oC];exact h
 have e:(af.upto m)[i]=(i:Int):=by
  have:=af.DT h
  rw [Uv hl] at this
  exact UD this
 rw [U2 hl,WB,US,e]
 congr 1
 by_cases c:af.jo q m (i:Int)=af.jo p n 0
 ·rw [if_pos c];simp [c]
 ·rw [if_neg c];simp [c]
theorem ML (p q:af.aJ) (n m i:Nat):(pD p q n m i).length<=i:=by
 unfold pD
 rw [Uu]
 refine UZ (List.length_filter_le _ _) ?_
 rw [Vs]
 omega
theorem Tx {p q:af.aJ} {n m i:Nat} {l:List Int} (wp:af.Wh n p) (n0:0 < n) (h:l∈pD p q n m i):l.length=n:=by
 obtain ⟨s,_,rfl⟩:=UH.mp h
 rw [af.yL,af.yJ,(wp.bf (by decide) (by omega)).length]
theorem MN (xs ys:List Int) (s:Int) (n:Nat):ye xs ys s n=b9 (af.jo (xs,ys) n s).1 (af.jo (xs,ys) n s).2:=rfl
theorem MO {st:Store} {xs ys us vs:List Int} {n m:Nat} (fl:ml n xs ys) (fm:ml m us vs) (n0:0 < n) (hn:n<=20) (hm:m<=20):Wp (oN [b9 xs ys,b9 us vs] st) fun d st'=>∃ r,d=.ref r/\st'[r]?=some (.lst (kO (af.oE (xs,ys) (us,vs) n m)))/\st.length<=r/\Ex [] st st':=by
 have Tz:=fm.1.length
 refine gQ ?_
 show Ws (E3 [some (b9 xs ys),some (b9 us vs),none,none,none,none] st) _ _ _ _
 unfold E3
 refine aZ (cK ?_)
 kspl_open hQ
 refine ⟨rfl,?_⟩
 refine hQ _ _ (aZ (cK ?_))
 clear hQ
 kspl_open hQ
 refine aV (IL fl (by omega) (s:=0) (by decide) (by omega)) ?_
 rintro d st1 ⟨rfl,k1⟩
 refine hQ _ _ (aZ (cK ?_))
 clear hQ
 kspl_open hQ
 refine aV (MH fl (by omega) (s:=0) (by decide) (by omega)) ?_
 rintro d st2 ⟨rfl,k2⟩
 have h2:st2[st.length]?=some (.lst []):=(k1.trans k2).keep _ _ jQ (by simp)
 refine hQ _ _ (aZ (m8 (aE 0 m) (fun i δ st3=>∃ v5:Option D,δ=[some (b9 xs ys),some (b9 us vs),some (.ref st.length),some (ye xs ys 0 n),some (.tup ((af.inv (af.bf xs ys 0 n)).map D.int)),v5]/\st3[st.length]?=some (.lst ((pD (xs,ys) (us,vs) n m i).map tD))/\Ex [] st st3) ?_ (by rw [iM];omega) ?_ ?_))
 ·clear hQ
  unfold b9
  kspl_open hQ
  rw [Uu,Tz]
  exact ⟨by omega,hQ _ _ ⟨by rw [UK],none,rfl,h2,(Ex.cU _).trans (k1.trans k2)⟩⟩
 ·rintro i d δ st3 hd ⟨v5,rfl,h3,k3⟩
  have hil:=gZ hd
  rw [iM] at hil
  rw [yX hil,Wj] at hd
  cases hd
  clear hQ
  kspl_open hQ
  refine hQ _ _ (gY ?_)
  clear hQ
  kspl_open hQ
  refine aV (IL fm (by omega) (s:=(i:Int)) (by omega) (by omega)) ?_
  rintro d l6 ⟨rfl,k4⟩
  rw [MN,MN]
  set_option simprocs false in simp only [cm,HR]
  have h4:=k4.keep _ _ h3 (by simp)
  refine hQ _ _ ⟨fun hc=>qS ?_,fun hc=>iP ?_⟩
  ·have hc:af.jo (us,vs) m (i:Int)=af.jo (xs,ys) n 0:=WJ (of_decide_eq_true hc).1 (of_decide_eq_true hc).2
   clear hQ
   kspl_open hQ
   refine ⟨pS (by rw [de h4];rfl),?_⟩
   refine aV (Mu fm.1 fm.2.1 (by omega) (s:=(i:Int)) (by omega) (by omega)) ?_
   rintro d jG ⟨rfl,k5⟩
   have tb:=(yf fl).bf (s:=0) (by decide) (by omega)
   have e1:m=n:=by
    have:=congrArg (fun z:af.aJ=>z.1.length) hc
    have this:(af.jo (us,vs) m (i:Int)).1.length=(af.jo (xs,ys) n 0).1.length:=this
    rw [af.Lf (yf fm) (by omega) (by omega),af.Lf (yf fl) (by decide) (by omega)] at this
    exact this
   have tc:=(yf fm).bf (s:=(i:Int)) (by omega) (by omega)
   refine aV (zq (fun x hx=>by rw [tc.length,e1];exact tb.ax.bound hx) (by rw [tb.ax.length];omega)) ?_
   rintro d Eh ⟨rfl,k6⟩
   have h6:=(k5.trans k6).keep _ _ h4 (by simp)
   have hlen:=ML (xs,ys) (us,vs) n m i
   refine ⟨_,lA h6,kJ (by rw [Uu];omega),hQ _ _ ⟨_,rfl,?_,(((k3.trans k4).trans k5).trans k6).loc (Ux _)⟩⟩
   rw [UL (gZ h6),MK hil,if_pos hc,US]
   rfl
  ·have hc:¬ af.jo (us,vs) m (i:Int)=af.jo (xs,ys) n 0:=fun z=>of_decide_eq_false hc ⟨congrArg Prod.fst z,congrArg Prod.snd z⟩
   refine ⟨_,rfl,?_,k3.trans k4⟩
   rw [MK hil,if_neg hc,VG]
   exact h4
 ·rintro δ st3 ⟨v5,rfl,h3,k3⟩
  rw [iM,IP] at h3
  have hlen:=ML (xs,ys) (us,vs) n m m
  rw [IP] at hlen
  have hmem:∀ l∈af.oE (xs,ys) (us,vs) n m,l.length=n:=fun l hl=>Tx (yf fl) n0 (by rw [IP];exact hl)
  refine eI ?_
  clear hQ
  kspl_open hQ
  rw [Rt (lA h3) (Tw _ 18 _) (yh hmem n0 (by omega))]
  refine hQ _ _ ⟨_,rfl,jQ,k3.len,k3.app _⟩
theorem uU {n:Nat} {p:af.aJ} (w:af.Wh n p):ml n p.1 p.2:=⟨w.v.1,w.v.2,w.all⟩
theorem yi {n:Nat} {p q:af.aJ} (w:af.Wh n p) (n0:0 < n) (a:af.a7 n p q):af.Wh n q:=by
 obtain ⟨g,tg,rfl⟩:=a
 have:=af.nc (uU w) tg n0
 exact ⟨⟨this.1,this.2.1⟩,this.2.2⟩
theorem TB (p:af.aJ) (n:Nat):(aE 0 n).map (fun d=>b9 (af.jo p n (inD d)).1 (af.jo p n (inD d)).2)=((af.upto n).map (af.jo p n)).map fun q=>b9 q.1 q.2:=by
 rw [pT,UW,UW]
 rfl
theorem IQ {st:Store} {xs ys:List Int} {n:Nat} (fl:ml n xs ys) (n0:0 < n) (hn:n<=20):Wp (lZ [b9 xs ys] st) fun d st'=>d=b9 (af.a8 n (xs,ys)).1 (af.a8 n (xs,ys)).2/\Ex [] st st':=by
 have hlx:=fl.1.length
 refine gQ ?_
 show Ws (EK [some (b9 xs ys)] st) _ _ _ _
 unfold EK
 refine eI ?_
 kspl_open hQ
 refine sR (aE 0 n) (fun d=>b9 (af.jo (xs,ys) n (inD d)).1 (af.jo (xs,ys) n (inD d)).2) ?_ (by rw [iM];omega) ?_ ?_
 ·unfold b9
  kspl_open cx
  rw [Uu,hlx]
  exact ⟨by omega,cx _ _ ⟨by rw [UK];exact qX _ _,Ex.refl⟩⟩
 ·intro d hd st2 k2
  rw [pT] at hd
  obtain ⟨x,hx,rfl⟩:=y2 hd
  obtain ⟨x0,x1⟩:=af.kE.mp hx
  refine dD ?_
  intro jI cx
  set_option simprocs false in simp only [cm,UT,Vg,Vm,Vn]
  refine aV (IL fl (by omega) x0 x1) ?_
  rintro d st3 ⟨rfl,k3⟩
  exact cx _ _ ⟨rfl,k3⟩
 ·intro st' k'
  rw [TB,Rn (lA jQ) (by rw [Uu,af.oC];exact n0)]
  exact hQ _ _ ⟨rfl,k'.app _⟩
theorem TC (w:List g5):(af.ki w).length=w.length:=by unfold af.ki;rw [Vl,Uu]
theorem MP {g:Int} {s:g5} (h:C9 g s):af.gL s:=⟨h.1,h.2.2⟩
theorem yj {w:List g5} (h:∀ s∈w,af.gL s):∀ s∈w,zt s:=fun s hs=>(h s hs).1
theorem zu:∀ (w:List g5) (p:List Int×List Int),gU p w=af.d3 p w:=by
 have hq:∀ (p:List Int×List Int) (j:Nat),mr p.1 p.2 j=af.kq j p:=fun p j=>by
  induction j with
  | zero=>rfl
  | succ j ih=>show (af.inv (mr p.1 p.2 j).2,(mr p.1 p.2 j).1)=af.Qt (af.kq j p);rw [ih];rfl
 have hs:∀ (p:List Int×List Int) (s:g5),gk p s=af.stM p s:=fun p s=>by
  unfold gk af.stM
  rw [hq]
  rfl
 intro w
 induction w with
 | nil=>intro p;rfl
 | cons s w ih =>
  intro p
  show gU (gk p s) w=af.d3 (af.stM p s) w
  rw [hs,ih]
open Classical in
theorem MQ {st:Store} {Q:D->Store->Prop} {neg:Bool} {n a b:Nat} {ds es:List D} (ha:items st a=some ds) (hb:items st b=some es) (h1:∀ d∈ds,pU n d) (h2:∀ d∈es,pU n d) (hn:n<=14):Wp (eN neg (.ref a) (.ref b) st) Q↔Q (.bl (if neg then !decide (ds=es) else decide (ds=es))) st:=by
 have p1:∀ (i:Nat) (l:List D),items st i=some l->(∀ d∈l,pU n d)->dc st 20 (.ref i)=some (.list (l.map (iR n))):=fun i l h hl=>by
  simp only [dc,h]
  rw [B0 (g:=iR n) fun x hx=>y3 n x (hl x hx) 19 (by omega) st]
  rfl
 have e:PyData.eqv (.list (ds.map (iR n))) (.list (es.map (iR n)))=decide (ds=es):=by
  rw [HL]
  have:=HV (B1 n) ds es h1 h2
  cases h:PyData.eqvAll (ds.map (iR n)) (es.map (iR n)) with
  | true=>exact (decide_eq_true (this.mp h)).symm
  | false=>exact (decide_eq_false fun z=>by rw [this.mpr z] at h;cases h).symm
 have ly:∀ l:List D,(∀ d∈l,pU n d)->PyData.canLay0 (.list (l.map (iR n)))=true/\PyData.depth (.list (l.map (iR n)))<=n + 1:=fun l hl=>by
  refine ⟨?_,?_⟩
  ·show PyData.canLayAll0 (l.map (iR n))=true
   exact HS fun x hx=>by
    obtain ⟨d,hd,rfl⟩:=UH.mp hx
    exact (uF n d (hl d hd)).1
  ·show PyData.depthAll (l.map (iR n)) + 1<=n + 1
   have:=HU (n:=n) (l:=l.map (iR n)) fun x hx=>by
    obtain ⟨d,hd,rfl⟩:=UH.mp hx
    exact (uF n d (hl d hd)).2
   omega
 rw [HF]
 constructor
 ·rintro ⟨p,q,e1,e2,_,h⟩
  rw [p1 a ds ha h1] at e1
  rw [p1 b es hb h2] at e2
  cases e1
  cases e2
  rw [e] at h
  exact h
 ·intro h
  refine ⟨_,_,p1 a ds ha h1,p1 b es hb h2,⟨(ly ds h1).1,(ly es h2).1,?_⟩,?_⟩
  ·have:=(ly ds h1).2
   omega
  ·rw [e];exact h
theorem yk (p:List Int×List Int) (s:g5):gk p s=af.stM p s:=by
 have hq:∀ j,mr p.1 p.2 j=af.kq j p:=fun j=>by
  induction j with
  | zero=>rfl
  | succ j ih=>show _=_;unfold mr af.kq;rw [ih];rfl
 unfold gk af.stM
 split
 ·rfl
 ·exact hq _
theorem Dc {p q:af.aJ} (h:aT p=aT q):p=q:=by
 have h:D.tup [.tup (p.1.map D.int),.tup (p.2.map D.int)]=D.tup [.tup (q.1.map D.int),.tup (q.2.map D.int)]:=h
 injection h with h
 injection h with h1 h2
 injection h2 with h2 _
 have inj:∀ {x y:List Int},D.tup (x.map D.int)=D.tup (y.map D.int)->x=y:=fun {x y} e=>by
  injection e with e
  have:=congrArg (List.map inD) e
  rw [UW,UW] at this
  exact (V8 x).symm.trans (this.trans (V8 y))
 exact WJ (inj h1) (inj h2)
theorem tf {α:Type} {fs:List α} {g:α->D} {k:Nat} {p:α} (h:fs[k]?=some p):gG (fs.map g) (k:Int)=some (g p):=by
 have hk:k < fs.length:=(Uw.mp h).1
 unfold gG
 rw [yG (by rw [Uu];exact hk)]
 show (fs.map g)[k]?=_
 rw [UB,h];rfl
theorem TF {fs:List af.aJ} {F:af.aJ} {j:Nat} (nd:fs.Nodup) (hj:fs[j]?=some F):∀ i e,i < j->(fs.map aT)[i]?=some e->e≠aT F:=fun i e hij he z=>by
 rw [UB] at he
 obtain ⟨q,hq,rfl⟩:=U3.mp he
 have:=Dc z
 subst this
 obtain ⟨g1,g2⟩:=Uw.mp hq
 obtain ⟨g3,g4⟩:=Uw.mp hj
 exact Vp.mp nd i j g1 g3 hij (by rw [g2,g4])
theorem i9 {α:Type} {l:List α} {k:Nat} {d:α} (h:k < l.length):l[k]?=some (l.getD k d):=by rw [UA,Uv h];rfl
def wD (w:List g5):D:=.tup (w.map cV)
def Dd (p:af.aJ) (w:List g5) (l:Nat×Nat):D:=.tup [aT p,wD w,.int (l.1:Int),.int (l.2:Int)]
def ph (c:af.CS) (N:Nat):D:=.tup ((List.range N).map fun k=>Dd (c.1.getD k ([],[])) (c.2.1.getD k []) (c.2.2.getD k (0,0)))
theorem uV {n:Nat} {p:af.aJ} (n0:0 < n) (w:af.Wh n p):∀ (N j:Nat),(∀ i,i < N->i < (af.ch n p i).1.length)->j<=N->(af.ch n p j).1.length<=(af.ch n p N).1.length
 | 0,j,_,hj=>by
  have:j=0:=by omega
  subst this
  exact Ux _
 | N + 1,j,pr,hj=>by
  by_cases e:j=N + 1
  ·subst e;exact Ux _
  ·have h1:=uV n0 w N j (fun i hi=>pr i (by omega)) (by omega)
   have g:=af.B4 n0 w N fun i hi=>pr i (by omega)
   have hN:=pr N (by omega)
   have oj:=g.ll
   have r1:=af.xP (s:=(true,1)) n0 g.r w.v (k:=(af.ch n p N).2.2.length) (by omega) (.inl rfl)
   have r2:=af.xP (s:=(false,1)) n0 r1.1 w.v (k:=(af.ch n p N).2.2.length) (by have:=r1.2.2.1;omega) (.inr rfl)
   have a:=r1.2.2.1
   have b:=r2.2.2.1
   have:(af.ch n p N).1.length<=(af.ch n p (N + 1)).1.length:=UZ a b
   omega
theorem MR {st:Store} {a b n k:Nat} {p:af.aJ} {fs:List af.aJ} {ws:List (List g5)} {s1:g5} (n0:0 < n) (hn:n<=20) (hs:s1=(true,1)\/s1=(false,1)) (ab:a≠b) (ha:st[a]?=some (.lst (fs.map aT))) (hb:st[b]?=some (.lst (ws.map wD))) (g:af.GR n p fs ws) (vp:af.Vf n p) (hk:k < fs.length) (few:fs.length<=100) :
  Wp (xX [.ref a,.ref b,.int (k:Int),cV s1] st) fun d st'=>d=.int ((af.cq n fs ws k s1).2.2:Int)/\st'[a]?=some (.lst ((af.cq n fs ws k s1).1.map aT))/\st'[b]?=some (.lst ((af.cq n fs ws k s1).2.1.map wD))/\Ex [a,b] st st':=by
 refine gQ ?_
 show Ws (E1 [some (.ref a),some (.ref b),some (.int (k:Int)),some (cV s1),none] st) _ _ _ _
 unfold E1
 have ek:=i9 (d:=(([],[]):af.aJ)) hk
 have hkw:k < ws.length:=by rw [g.wl];exact hk
 have ew:=i9 (d:=([]:List g5)) hkw
 have ps:af.gL s1:=by rcases hs with rfl | rfl <;> exact ⟨fun _=>by decide,by decide⟩
 have gN:=af.xP n0 g vp hk hs
 have lN:(af.cq n fs ws k s1).1.length<=101:=by have:=gN.2.2.2.1;omega
 generalize hq:fs.getD k ([],[])=q at ek
 generalize hw:ws.getD k []=w at ew
 obtain ⟨wq,oq⟩:=g.own q (UJ ek)
 obtain ⟨pw,lw,nw,-⟩:=g.wd k w ew
 have hat:gG (fs.map aT) (k:Int)=some (aT q):=tf ek
 refine aZ (cK ?_)
 refine dD ?_
 intro iF hQ
 set_option simprocs false in simp only [cm,de ha,hat]
 refine ⟨rfl,?_⟩
 have hw1:(D.tup [cV s1])=.tup ([s1].map cV):=rfl
 rw [hw1]
 refine aV (FD (p:=q) (w:=[s1]) ⟨wq.v.1,wq.v.2⟩ (by omega) (fun x hx=>by rw [UP.mp hx];exact ps.1) (show 1<=1000 by decide)) ?_
 rintro d t1 ⟨rfl,k1⟩
 have e1:gU q [s1]=af.stM q s1:=yk q s1
 rw [e1]
 have Ic:=wq.st n0 s1
 have eS:aT (af.stM q s1)=b9 (af.stM q s1).1 (af.stM q s1).2:=rfl
 rw [eS]
 refine aV (IQ (uU Ic) n0 hn) ?_
 rintro d t2 ⟨rfl,k2⟩
 have eF:b9 (af.a8 n ((af.stM q s1).1,(af.stM q s1).2)).1 (af.a8 n ((af.stM q s1).1,(af.stM q s1).2)).2=aT (af.a8 n (af.stM q s1)):=rfl
 rw [eF]
 have FE:=k1.trans k2
 have ha2:=FE.keep _ _ ha (by simp)
 have hb2:=FE.keep _ _ hb (by simp)
 have pf:∀ q:af.aJ,pU 2 (aT q):=fun q=>uG 0 _ _
 have hj:(af.cq n fs ws k s1).1[(af.cq n fs ws k s1).2.2]?=some (af.a8 n (af.stM q s1)):=by
  obtain ⟨q',h1,h2⟩:=gN.2.2.2.2
  rw [ek] at h1;cases h1;exact h2
 have rest:∀ {s3:Store},s3[a]?=some (.lst ((af.cq n fs ws k s1).1.map aT))->s3[b]?=some (.lst ((af.cq n fs ws k s1).2.1.map wD))->Ex [a,b] st s3 ->
   Ws ((aU (mG "list" hV (ag 0) (ae (ag 4) ah))) [some (.ref a),some (.ref b),some (.int (k:Int)),some (cV s1),some (aT (af.a8 n (af.stM q s1)))] s3) (fun _ st1=>D.non=D.int ((af.cq n fs ws k s1).2.2:Int)/\st1[a]?=some (.lst ((af.cq n fs ws k s1).1.map aT))/\st1[b]?=some (.lst ((af.cq n fs ws k s1).2.1.map wD))/\Ex [a,b] st st1) (fun _ _=>False) (fun _ _=>False) (fun d st1=>d=D.int ((af.cq n fs ws k s1).2.2:Int)/\st1[a]?=some (.lst ((af.cq n fs ws k s1).1.map aT))/\st1[b]?=some (.lst ((af.cq n fs ws k s1).2.1.map wD))/\Ex [a,b] st st1):=by
  intro s3 uW qa k3
  refine eI ?_
  kspl_open cx
  refine ⟨pS (by rw [de uW];rfl),?_⟩
  rw [RA (n:=2) (j:=(af.cq n fs ws k s1).2.2) (pf _) (de uW) (fun e he=>by obtain ⟨q,_,rfl⟩:=UH.mp he;exact pf q) (by decide) (by rw [Uu];omega) (by rw [UB,hj];rfl) (TF gN.1.nd hj)]
  exact cx _ _ ⟨rfl,uW,qa,k3⟩
 refine hQ _ _ (aZ (gY ?_))
 clear hQ
 kspl_open hQ
 have TH:df t2 (.ref a)=some (fs.map aT):=de ha2
 rw [LR (n:=2) (es:=fs.map aT) (pf _) TH (fun e he=>by obtain ⟨q,_,rfl⟩:=UH.mp he;exact pf q) (by decide)]
 by_cases hm:af.a8 n (af.stM q s1)∈fs
 ·have hm':aT (af.a8 n (af.stM q s1))∈fs.map aT:=UH.mpr ⟨_,hm,rfl⟩
  have eR:af.cq n fs ws k s1=(fs,ws,fs.idxOf (af.a8 n (af.stM q s1))):=by unfold af.cq;rw [hq,if_pos hm]
  refine ⟨false,by simp [hm'],hQ _ _ ⟨fun z=>(nomatch z),fun _=>iP (rest ?_ ?_ FE.any)⟩⟩
  ·rw [eR];exact ha2
  ·rw [eR];exact hb2
 ·have hm':aT (af.a8 n (af.stM q s1)) ∉ fs.map aT:=fun z=>by
   obtain ⟨q',h1,h2⟩:=UH.mp z
   exact hm (Dc h2 ▸ h1)
  have eR:af.cq n fs ws k s1=(fs ++ [af.a8 n (af.stM q s1)],ws ++ [(af.kS (w ++ [s1])).reverse],fs.length):=by unfold af.cq;rw [hq,hw,if_neg hm]
  refine ⟨true,by simp [hm'],hQ _ _ ⟨fun _=>?_,fun z=>(nomatch z)⟩⟩
  clear hQ
  refine aZ (qS ?_)
  refine dD ?_
  intro iF hQ
  set_option simprocs false in simp only [cm,lA ha2]
  refine ⟨pS (by rw [de ha2];rfl),kJ (by rw [Uu];omega),hQ _ _ (qS ?_)⟩
  clear hQ
  have em:fs.map aT ++ [aT (af.a8 n (af.stM q s1))]=(af.cq n fs ws k s1).1.map aT:=by rw [eR,US];rfl
  rw [em]
  have uW:(t2.set a (.lst ((af.cq n fs ws k s1).1.map aT)))[a]?=some (.lst ((af.cq n fs ws k s1).1.map aT)):=UL (gZ ha2)
  have qa:(t2.set a (.lst ((af.cq n fs ws k s1).1.map aT)))[b]?=some (.lst (ws.map wD)):=by rw [UX ab];exact hb2
  have k3:Ex [a,b] st (t2.set a (.lst ((af.cq n fs ws k s1).1.map aT))):=(FE.any).put (by simp)
  generalize t2.set a (.lst ((af.cq n fs ws k s1).1.map aT))=s3 at uW qa k3 ⊢
  have IU:gG (ws.map wD) (k:Int)=some (.tup (w.map cV)):=tf (g:=wD) ew
  refine dD ?_
  intro iF hQ
  set_option simprocs false in simp only [cm,de qa,IU]
  refine ⟨pS (by rw [de qa];rfl),rfl,?_⟩
  rw [hw1]
  refine aV (Tr (v:=w) (w:=[s1]) (by show _ + 1<=_;omega)) ?_
  rintro d s4 ⟨rfl,k4⟩
  have IV:=k4.keep _ _ uW (by simp)
  have yl:=k4.keep _ _ qa (by simp)
  set_option simprocs false in simp only [cm,lA yl]
  refine ⟨kJ (by rw [Uu,g.wl];omega),hQ _ _ (rest ?_ ?_ ((k3.trans k4.any).put (by simp)))⟩
  ·rw [UX (Ne.symm ab)];exact IV
  ·rw [UL (gZ yl),eR,US];rfl
def ym (l:Nat×Nat):D:=.tup [.int (l.1:Int),.int (l.2:Int)]
theorem TJ {st:Store} {p:af.aJ} {n N most:Nat} (w0:af.Wh n p) (n0:0 < n) (hn:n<=20) (F:af.Full n p (af.ch n p N) N) (pr:∀ j,j < N->j < (af.ch n p j).1.length) (hN:N<=most) (Uo:most<=60):Wp (CC [aT p,.int (most:Int)] st) fun d st'=>d=ph (af.ch n p N) N/\Ex [] st st':=by
 refine gQ ?_
 show Ws (E2 [some (aT p),some (.int (most:Int)),none,none,none,none,none,none] st) _ _ _ _
 unfold E2
 refine aZ (cK ?_)
 kspl_open hQ
 refine aV (IQ (uU w0) n0 hn) ?_
 rintro d s1 ⟨rfl,k1⟩
 refine ⟨rfl,hQ _ _ (aZ (cK ?_))⟩
 clear hQ
 kspl_open hQ
 refine ⟨rfl,rfl,hQ _ _ (aZ (cK ?_))⟩
 clear hQ
 kspl_open hQ
 refine ⟨rfl,hQ _ _ ?_⟩
 clear hQ
 have eF:b9 (af.a8 n (p.1,p.2)).1 (af.a8 n (p.1,p.2)).2=aT (af.a8 n p):=rfl
 rw [eF]
 obtain ⟨a,b,c,s2,ea,eb,ec,es,ab,bc,la,ha,hb,hc,kx⟩:∃ (a b c:Nat) (s2:Store),s1.length=a/\(s1 ++ [O.lst [aT (af.a8 n p)]]).length=b/\(s1 ++ [O.lst [aT (af.a8 n p)]] ++ [O.lst [D.tup []]]).length=c/\s1 ++ [O.lst [aT (af.a8 n p)]] ++ [O.lst [D.tup []]] ++ [O.lst []]=s2/\a < b/\b < c/\st.length<=a/\s2[a]?=some (.lst ((af.ch n p 0).1.map aT))/\s2[b]?=some (.lst ((af.ch n p 0).2.1.map wD))/\s2[c]?=some (.lst ((af.ch n p 0).2.2.map ym))/\Ex [] st s2 :=
  ⟨_,_,_,_,rfl,rfl,rfl,rfl,by simp,by simp,k1.len,lP (lP jQ),lP jQ,jQ,((k1.app _).app _).app _⟩
 rw [ea,eb,ec,es]
 refine aZ (yZ (fun m δ s=>∃ (v5 v6 v7:Option D) (j:Nat),δ=[some (aT p),some (.int (most:Int)),some (.ref a),some (.ref b),some (.ref c),v5,v6,v7]/\m + j=N/\s[a]?=some (.lst ((af.ch n p j).1.map aT))/\s[b]?=some (.lst ((af.ch n p j).2.1.map wD))/\s[c]?=some (.lst ((af.ch n p j).2.2.map ym))/\Ex [] st s) N (by show N < 1000000;omega) ⟨none,none,none,0,rfl,rfl,ha,hb,hc,kx⟩ ?_)
 rintro m δ s ⟨v5,v6,v7,j,rfl,hm,ha,hb,hc,k⟩
 have g:=af.B4 n0 w0 j fun i hi=>pr i (by omega)
 have oj:=g.ll
 have up:=uV n0 w0 N j pr (by omega)
 have hfl:=F.fl
 refine dD ?_
 intro iF hQ
 set_option simprocs false in simp only [cm,de ha,de hc]
 rw [Uu,Uu,oj]
 refine hQ _ _ ⟨fun z=>aZ (gY ?_),fun z=>eI ?_⟩
 ·have z:j < (af.ch n p j).1.length:=by have:=of_decide_eq_true z;omega
  clear hQ
  refine dD ?_
  intro iF hQ
  set_option simprocs false in simp only [cm,de ha]
  rw [Uu]
  refine hQ _ _ ⟨fun y=>?_,fun y=>iP (aZ (cK ?_))⟩
  ·have:=of_decide_eq_true y
   omega
  ·clear hQ
   have FF:j < N:=by
    rcases V2 j N with h | h
    ·exact h
    ·have:j=N:=by omega
     subst this
     omega
   refine dD ?_
   intro iF hQ
   set_option simprocs false in simp only [cm,de hc]
   rw [Uu,oj]
   refine hQ _ _ (aZ (cK ?_))
   clear hQ
   kspl_open hQ
   have es1:D.tup [D.str (Str.ofString "s"),D.int 1]=cV (true,1):=rfl
   have TK:D.tup [D.str (Str.ofString "t"),D.int 1]=cV (false,1):=rfl
   rw [es1]
   have r1:=af.xP (s:=(true,1)) n0 g.r w0.v (k:=j) z (.inl rfl)
   have r2:=af.xP (s:=(false,1)) n0 r1.1 w0.v (k:=j) (by have:=r1.2.2.1;omega) (.inr rfl)
   refine aV (MR (s1:=(true,1)) (k:=j) n0 hn (.inl rfl) (by omega) ha hb g.r w0.v z (by omega)) ?_
   rintro d s3 ⟨rfl,uW,qa,k3⟩
   have hc3:=k3.keep _ _ hc (by simp;omega)
   refine hQ _ _ (aZ (cK ?_))
   clear hQ
   kspl_open hQ
   rw [TK]
   refine aV (MR (s1:=(false,1)) (k:=j) n0 hn (.inr rfl) (by omega) uW qa r1.1 w0.v (by have:=r1.2.2.1;omega) (by have:=r1.2.2.2.1;omega)) ?_
   rintro d s4 ⟨rfl,IV,yl,k4⟩
   have hc4:=k4.keep _ _ hc3 (by simp;omega)
   refine hQ _ _ (qS ?_)
   clear hQ
   refine dD ?_
   intro iF hQ
   set_option simprocs false in simp only [cm,lA hc4]
   have eS:af.n6 n (af.ch n p j)=af.cq n (af.ch n p j).1 (af.ch n p j).2.1 j (true,1):=by unfold af.n6;rw [oj]
   have eT:af.lR n (af.ch n p j)=af.cq n (af.cq n (af.ch n p j).1 (af.ch n p j).2.1 j (true,1)).1 (af.cq n (af.ch n p j).1 (af.ch n p j).2.1 j (true,1)).2.1 j (false,1):=by unfold af.lR;rw [eS,oj]
   have kd:∀ {x y:Store},Ex [] st x->Ex [a,b] x y->Ex [] st y:=fun {x y} h g=>⟨UZ h.len g.len,fun i o e n=>g.keep i o (h.keep i o e n) (by have:=gZ e;simp;omega)⟩
   have k5:Ex [] st s4:=kd (kd k k3) k4
   refine ⟨pS (by rw [de hc4];rfl),rfl,kJ (by rw [Uu];omega),hQ _ _ ⟨m - 1,by omega,_,_,_,j + 1,rfl,by omega,?_,?_,?_,k5.loc (by omega)⟩⟩
   ·rw [UX (by omega)]
    show _=some (O.lst ((af.lR n (af.ch n p j)).1.map aT))
    rw [eT];exact IV
   ·rw [UX (by omega)]
    show _=some (O.lst ((af.lR n (af.ch n p j)).2.1.map wD))
    rw [eT];exact yl
   ·rw [UL (gZ hc4)]
    show _=some (O.lst (((af.ch n p j).2.2 ++ [((af.n6 n (af.ch n p j)).2.2,(af.lR n (af.ch n p j)).2.2)]).map ym))
    rw [US,eT,eS];rfl
 ·have z:¬ j < (af.ch n p j).1.length:=by have:=of_decide_eq_false z;omega
  have ej:j=N:=by
   rcases V2 j N with h | h
   ·exact absurd (pr j h) z
   ·omega
  subst ej
  clear hQ
  kspl_open hQ
  generalize hC:af.ch n p j=C at ha hb hc g F hfl oj
  refine sR (aE 0 j) (fun d=>Dd (C.1.getD (inD d).toNat ([],[])) (C.2.1.getD (inD d).toNat []) (C.2.2.getD (inD d).toNat (0,0))) ?_ (by rw [iM];omega) ?_ ?_
  ·refine dD ?_
   intro jI cx
   set_option simprocs false in simp only [cm,de ha]
   rw [Uu,hfl]
   exact ⟨by omega,cx _ _ ⟨by rw [UK];exact qX _ _,Ex.refl⟩⟩
  ·intro d hd s5 k5
   obtain ⟨i,hi⟩:=Vb hd
   have hil:=gZ hi
   rw [iM] at hil
   rw [yX hil,Wj] at hi
   cases hi
   have hwl:=g.r.wl
   have ef:=i9 (d:=(([],[]):af.aJ)) (show i < C.1.length by omega)
   have ew:=i9 (d:=([]:List g5)) (show i < C.2.1.length by omega)
   have el:=i9 (d:=((0,0):Nat×Nat)) (show i < C.2.2.length by omega)
   have a1:gG (C.1.map aT) (i:Int)=some (aT (C.1.getD i ([],[]))):=tf ef
   have a2:gG (C.2.1.map wD) (i:Int)=some (wD (C.2.1.getD i [])):=tf ew
   have a3:gG (C.2.2.map ym) (i:Int)=some (ym (C.2.2.getD i (0,0))):=tf el
   have g0:∀ {l:Nat×Nat} {s:Store} {Q:D->Store->Prop},Wp (aN (ym l) (.int 0) s) Q↔Q (.int (l.1:Int)) s:=bx
   have g1:∀ {l:Nat×Nat} {s:Store} {Q:D->Store->Prop},Wp (aN (ym l) (.int 1) s) Q↔Q (.int (l.2:Int)) s:=bx
   have TL:=k5.keep _ _ ha (by simp)
   have IW:=k5.keep _ _ hb (by simp)
   have hc5:=k5.keep _ _ hc (by simp)
   refine dD ?_
   intro jI cx
   set_option simprocs false in simp only [cm,UT,Vg,Vm,Vn,de TL,de IW,de hc5,a1,a2,a3,g0,g1]
   exact ⟨rfl,cx _ _ ⟨rfl,Ex.refl⟩⟩
  ·intro s5 k5
   refine ⟨_,rM,hQ _ _ ⟨?_,(k.trans k5).app _⟩⟩
   rw [hC]
   unfold ph
   congr 1
   unfold aE
   rw [UW]
   refine Vd fun i _=>?_
   show Dd _ _ _=_
   simp only [Function.comp,inD,Wj,UK]
def lE (r:af.Ro):D:=.tup [aT r.q,wD r.w,.int r.s,.int r.t]
def De (R:List af.Ro):D:=.tup (R.map lE)
theorem IX (n N:Nat) (C:af.CS):ph C N=De (af.gu n C N):=by
 unfold ph De af.gu
 rw [UW]
 rfl
theorem FG {st:Store} {Q:D->Store->Prop} {r:af.Ro}:Wp (aN (lE r) (.int 0) st) Q↔Q (aT r.q) st:=bx
theorem yn {st:Store} {Q:D->Store->Prop} {r:af.Ro}:Wp (aN (lE r) (.int 1) st) Q↔Q (wD r.w) st:=bx
theorem yo {st:Store} {Q:D->Store->Prop} {r:af.Ro}:Wp (aN (lE r) (.int 2) st) Q↔Q (.int r.s) st:=bx
theorem yp {st:Store} {Q:D->Store->Prop} {r:af.Ro}:Wp (aN (lE r) (.int 3) st) Q↔Q (.int r.t) st:=bx
theorem Df {st:Store} {n:Nat} {p:af.aJ} (w:af.Wh n p) (n0:0 < n) (hn:n<=20):Wp (lZ [aT p] st) fun d st'=>d=aT (af.a8 n p)/\Ex [] st st':=IQ (uU w) n0 hn
theorem FH {st:Store} {Q:D->Store->Prop} {neg:Bool} {p q:af.aJ}:Wp (eN neg (aT p) (aT q) st) Q↔Q (.bl (if neg then !decide (p=q) else decide (p=q))) st:=by
 have e:decide ([p.1,p.2]=[q.1,q.2])=decide (p=q):=decide_eq_decide.mpr ⟨fun z=>by injection z with z1 z2;injection z2 with z2 _;exact WJ z1 z2,fun z=>by rw [z]⟩
 show Wp (eN neg (b9 p.1 p.2) (b9 q.1 q.2) st) Q↔_
 rw [HR,e]
theorem TM {st:Store} {n:Nat} {p:af.aJ} (v:af.Vf n p) (hn:n<=100):Wp (sW [aT p,.int 1] st) fun d st'=>d=aT (af.Sh 1 p)/\Ex [] st st':=MA v.1 v.2 hn
theorem TN {st:Store} {n:Nat} {p:af.aJ} (v:af.Vf n p) (hn:n<=100):Wp (sX [aT p] st) fun d st'=>d=aT (af.Qt p)/\Ex [] st st':=MB v.1 v.2 hn
theorem MS {st:Store} {b m:Nat} {fs:List af.aJ} {i:Int} {q:af.aJ} (hb:st[b]?=some (.lst (fs.map aT))) (w:af.Wh m q) (m0:0 < m) (hm:m<=20):Wp (x6 [.ref b,.int i,aT q] st) fun d st'=>(∃ c:Bool,d=.bl c/\(c=true↔af.At fs i (af.a8 m q)))/\Ex [] st st':=by
 refine gQ ?_
 show Ws (Ff [some (.ref b),some (.int i),some (aT q)] st) _ _ _ _
 unfold Ff
 refine eI ?_
 refine dD ?_
 intro iF hQ
 set_option simprocs false in simp only [cm,HC,de hb]
 rw [Uu]
 by_cases h0:0<=i
 ·by_cases h1:i < (fs.length:Int)
  ·simp only [h0,h1,decide_true,if_true]
   have hi:i.toNat < fs.length:=by omega
   have e:=i9 (d:=(([],[]):af.aJ)) hi
   have ea:gG (fs.map aT) i=some (aT (fs.getD i.toNat ([],[]))):=by
    have:=tf (g:=aT) e
    rwa [U0 h0] at this
   refine ⟨_,ea,?_⟩
   refine aV (Df w m0 hm) ?_
   rintro d s1 ⟨rfl,k1⟩
   rw [FH]
   refine hQ _ _ ⟨⟨_,rfl,?_⟩,k1⟩
   unfold af.At
   simp only [h0,h1,true_and]
   rw [e]
   simp
  ·simp only [h0,h1,decide_true,decide_false,if_true,UY,if_false]
   exact hQ _ _ ⟨⟨_,rfl,⟨fun z=>(nomatch z),fun z=>absurd z.2.1 h1⟩⟩,Ex.refl⟩
 ·simp only [h0,decide_false,UY,if_false]
  exact hQ _ _ ⟨⟨_,rfl,⟨fun z=>(nomatch z),fun z=>absurd z.1 h0⟩⟩,Ex.refl⟩
theorem TQ {st:Store} {b n:Nat} {p:af.aJ} {fs:List af.aJ} {r:af.Ro} (hb:st[b]?=some (.lst (fs.map aT))) (wp:af.Wh n p) (n0:0 < n) (hn:n<=20) (ok:af.xT r):Wp (CV [aT p,lE r,.ref b] st) fun d st'=>(∃ c:Bool,d=.bl c/\(c=true↔af.q5 n p fs r))/\Ex [] st st':=by
 refine gQ ?_
 show Ws (Fg [some (aT p),some (lE r),some (.ref b)] st) _ _ _ _
 unfold Fg
 refine aZ (gY ?_)
 refine dD ?_
 intro iF hQ
 set_option simprocs false in simp only [cm,FG,yn]
 unfold wD
 refine aV (FD (p:=p) (w:=r.w) ⟨wp.v.1,wp.v.2⟩ (by omega) (yj ok.pr) ok.wl) ?_
 rintro d s1 ⟨rfl,k1⟩
 rw [zu]
 refine aV (Df (wp.ld n0 (w:=r.w)) n0 hn) ?_
 rintro d s2 ⟨rfl,k2⟩
 refine aV (Df ok.w ok.m0 ok.y9) ?_
 rintro d s3 ⟨rfl,k3⟩
 have tj:=(k1.trans k2).trans k3
 have qa:=tj.keep _ _ hb (by simp)
 rw [FH,if_pos rfl]
 refine ⟨_,rfl,hQ _ _ ⟨fun z=>eI ?_,fun z=>iP (eI ?_)⟩⟩
 ·clear hQ
  kspl_open hQ
  refine hQ _ _ ⟨⟨_,rfl,⟨fun z=>(nomatch z),fun y=>?_⟩⟩,tj⟩
  have:af.a8 n (af.d3 p r.w)=af.a8 r.m r.q:=y.1
  rw [this] at z
  simp at z
 ·have e:af.a8 n (af.d3 p r.w)=af.a8 r.m r.q:=by simpa using z
  clear hQ
  refine dD ?_
  intro iF hQ
  set_option simprocs false in simp only [cm,HC,FG,yo,yp]
  have vq:=ok.w.v
  refine aV (TM (p:=r.q) vq (by have:=ok.y9;omega)) ?_
  rintro d s4 ⟨rfl,k4⟩
  have yl:=k4.keep _ _ qa (by simp)
  refine aV (MS (i:=r.s) yl (ok.w.sh ok.m0 1) ok.m0 ok.y9) ?_
  rintro d s5 ⟨⟨c1,rfl,hc1⟩,k5⟩
  have IW:=k5.keep _ _ yl (by simp)
  refine ⟨_,rfl,?_⟩
  cases c1 with
  | false =>
   simp only [UY,if_false]
   refine hQ _ _ ⟨⟨_,rfl,⟨fun z=>(nomatch z),fun y=>by have:=hc1.mpr y.2.1;cases this⟩⟩,(tj.trans k4).trans k5⟩
  | true =>
   simp only [if_true]
   refine aV (TN (p:=r.q) vq (by have:=ok.y9;omega)) ?_
   rintro d s6 ⟨rfl,k6⟩
   have IY:=k6.keep _ _ IW (by simp)
   refine aV (MS (i:=r.t) IY (ok.w.qt ok.m0) ok.m0 ok.y9) ?_
   rintro d s7 ⟨⟨c2,rfl,hc2⟩,k7⟩
   refine hQ _ _ ⟨⟨_,rfl,⟨fun z=>⟨e,hc1.mp rfl,hc2.mp z⟩,fun y=>hc2.mpr y.2.2⟩⟩,(((tj.trans k4).trans k5).trans k6).trans k7⟩
theorem TR {ds:List D} {i:Nat} {d:D} (h:ds[i]?=some d):(gP ds)[i]?=some (.tup [.int (i:Int),d]):=by
 unfold gP
 simp [UB,List.getElem?_zipIdx,h]
theorem TU {st:Store} {n:Nat} {p:af.aJ} {R:List af.Ro} (wp:af.Wh n p) (n0:0 < n) (hn:n<=20) (ok:∀ r∈R,af.xT r) (few:R.length<=100):Wp (CY [aT p,De R] st) fun d st'=>(∃ c:Bool,d=.bl c/\(c=true↔af.Holds n p R))/\Ex [] st st':=by
 refine gQ ?_
 show Ws (Fh [some (aT p),some (De R),none,none,none] st) _ _ _ _
 unfold Fh
 refine aZ (cK ?_)
 obtain ⟨h,hh⟩:∃ h:D->D,∀ r∈R,h (lE r)=aT r.f:=by
  classical
  refine ⟨fun d=>if x:∃ r,r∈R/\lE r=d then aT x.choose.f else .non,fun r hr=>?_⟩
  have x:∃ r',r'∈R/\lE r'=lE r:=⟨r,hr,rfl⟩
  show (if x:∃ r',r'∈R/\lE r'=lE r then aT x.choose.f else .non)=_
  rw [dif_pos x]
  obtain ⟨h1,h2⟩:=x.choose_spec
  have e:x.choose.q=r.q:=Dc (by injection h2 with h2;injection h2)
  have em:x.choose.m=r.m:=by rw [<- (ok _ h1).w.v.1.length,<- (ok _ hr).w.v.1.length,e]
  unfold af.Ro.f
  rw [e,em]
 refine sR (R.map lE) h ?_ (by rw [Uu];omega) ?_ ?_
 ·kspl_open hQ
  exact ⟨_,rfl,hQ _ _ ⟨qX _ _,Ex.refl⟩⟩
 ·intro d hd s1 k1
  obtain ⟨r,hr,rfl⟩:=UH.mp hd
  refine dD ?_
  intro iF hQ
  set_option simprocs false in simp only [cm,FG]
  refine aV (Df (ok r hr).w (ok r hr).m0 (ok r hr).y9) ?_
  rintro d s2 ⟨rfl,k2⟩
  exact hQ _ _ ⟨(hh r hr).symm,k2⟩
 intro s1 k1
 have eh:(R.map lE).map h=(R.map af.Ro.f).map aT:=by
  rw [UW,UW]
  exact Vd fun r hr=>hh r hr
 rw [eh]
 have hb:(s1 ++ [O.lst ((R.map af.Ro.f).map aT)])[s1.length]?=some (.lst ((R.map af.Ro.f).map aT)):=jQ
 have kb:Ex [] st (s1 ++ [O.lst ((R.map af.Ro.f).map aT)]):=k1.app _
 generalize s1 ++ [O.lst ((R.map af.Ro.f).map aT)]=s2 at hb kb ⊢
 generalize s1.length=b at hb ⊢
 show Ws _ _ _ _ _
 have el:(R.map af.Ro.f).length=R.length:=Uu _
 have pf:∀ q:af.aJ,pU 2 (aT q):=fun q=>uG 0 _ _
 refine aZ (gY ?_)
 refine dD ?_
 intro iF hQ
 set_option simprocs false in simp only [cm,de hb]
 rw [Uu,el]
 by_cases z:R.length=0
 ·have z1:((R.length:Int)=0):=by omega
  simp only [z1,decide_true,if_true]
  refine hQ _ _ ⟨fun _=>eI ?_,fun y=>(nomatch y)⟩
  clear hQ
  kspl_open hQ
  refine hQ _ _ ⟨⟨_,rfl,⟨fun y=>(nomatch y),fun y=>?_⟩⟩,kb⟩
  have:=(Uw.mp y.1).1
  omega
 ·have z1:¬ ((R.length:Int)=0):=by omega
  simp only [z1,decide_false,UY,if_false]
  have e0:=i9 (d:=(([],[]):af.aJ)) (show 0 < (R.map af.Ro.f).length by omega)
  have ea:gG ((R.map af.Ro.f).map aT) 0=some (aT ((R.map af.Ro.f).getD 0 ([],[]))):=tf (g:=aT) e0
  refine ⟨_,ea,?_⟩
  refine aV (Df wp n0 hn) ?_
  rintro d s3 ⟨rfl,k3⟩
  have qa:=k3.keep _ _ hb (by simp)
  rw [FH,if_pos rfl]
  refine ⟨_,rfl,hQ _ _ ⟨fun y=>eI ?_,fun y=>iP ?_⟩⟩
  ·clear hQ
   kspl_open hQ
   refine hQ _ _ ⟨⟨_,rfl,⟨fun y=>(nomatch y),fun x=>?_⟩⟩,kb.trans k3⟩
   have:=x.1
   rw [e0] at this
   rw [UD this] at y
   simp at y
  ·have y:(R.map af.Ro.f)[0]?=some (af.a8 n p):=by rw [e0];congr 1;simpa using y
   clear hQ
   have eL:(gP (R.map lE)).length=R.length:=by unfold gP;simp
   refine aZ (m8 (gP (R.map lE)) (fun i δ s=>∃ (v3 v4:Option D),δ=[some (aT p),some (De R),some (.ref b),v3,v4]/\s[b]?=some (.lst ((R.map af.Ro.f).map aT))/\(∀ (k:Nat) (r:af.Ro),k < i->R[k]?=some r->r.f ∉ (R.map af.Ro.f).take k/\af.q5 n p (R.map af.Ro.f) r)/\Ex [] st s) ?_ (by omega) ?_ ?_)
   ·kspl_open hQ
    exact ⟨_,rfl,hQ _ _ ⟨rfl,_,_,rfl,qa,fun k r hk=>absurd hk (U9 k),kb.trans k3⟩⟩
   ·rintro i d δ s hd ⟨v3,v4,rfl,hb,good,k⟩
    have hi:i < R.length:=by have:=gZ hd;omega
    have er:R[i]?=some R[i]:=Uv hi
    have hr:R[i]∈R:=Vh hi
    generalize R[i]=r at er hr
    rw [TR (d:=lE r) (by rw [UB,er];rfl)] at hd
    cases hd
    have ef:(R.map af.Ro.f)[i]?=some r.f:=by rw [UB,er];rfl
    have ec:cutD ((R.map af.Ro.f).map aT) none (some (i:Int))=((R.map af.Ro.f).take i).map aT:=by
     rw [List.map_take]
     exact LG _ i
    kspl_open hQ
    refine ⟨rfl,hQ _ _ (gY ?_)⟩
    clear hQ
    refine dD ?_
    intro iF hQ
    set_option simprocs false in simp only [cm,de hb,tf (g:=aT) ef]
    rw [ec]
    rw [LR (n:=2) (es:=((R.map af.Ro.f).take i).map aT) (pf _) (by rw [Lw];exact rM) (fun e he=>by obtain ⟨q,_,rfl⟩:=UH.mp he;exact pf q) (by decide)]
    have hb1:=lP (m:=[O.lst (((R.map af.Ro.f).take i).map aT)]) hb
    have k1:Ex [] st (s ++ [O.lst (((R.map af.Ro.f).take i).map aT)]):=k.app _
    generalize s ++ [O.lst (((R.map af.Ro.f).take i).map aT)]=s5 at hb1 k1 ⊢
    by_cases hm:r.f∈(R.map af.Ro.f).take i
    ·have hm':aT r.f∈((R.map af.Ro.f).take i).map aT:=UH.mpr ⟨_,hm,rfl⟩
     refine ⟨true,by simp only [hm',decide_true,UY,if_false],?_⟩
     simp only [if_true]
     refine hQ _ _ ⟨fun _=>eI ?_,fun y=>(nomatch y)⟩
     clear hQ
     kspl_open hQ
     exact hQ _ _ ⟨⟨_,rfl,⟨fun y=>(nomatch y),fun x=>absurd hm (x.2 i r er).1⟩⟩,k1⟩
    ·have hm':aT r.f ∉ ((R.map af.Ro.f).take i).map aT:=fun x=>by
      obtain ⟨q,h1,h2⟩:=UH.mp x
      exact hm (Dc h2 ▸ h1)
     refine ⟨false,by simp only [hm',decide_false,UY,if_false],?_⟩
     simp only [UY,if_false]
     refine aV (TQ hb1 wp n0 hn (ok r hr)) ?_
     rintro d s6 ⟨⟨c,rfl,hc⟩,k6⟩
     have IY:=k6.keep _ _ hb1 (by simp)
     refine ⟨_,rfl,?_⟩
     cases c with
     | true =>
      refine hQ _ _ ⟨fun y=>(nomatch y),fun _=>iP ⟨_,_,rfl,IY,fun j r' hj hr'=>?_,k1.trans k6⟩⟩
      by_cases e:j=i
      ·subst e
       rw [er] at hr'
       cases hr'
       exact ⟨hm,hc.mp rfl⟩
      ·exact good j r' (by omega) hr'
     | false =>
      refine hQ _ _ ⟨fun _=>eI ?_,fun y=>(nomatch y)⟩
      clear hQ
      kspl_open hQ
      exact hQ _ _ ⟨⟨_,rfl,⟨fun y=>(nomatch y),fun x=>by have:=hc.mpr (x.2 i r er).2;cases this⟩⟩,k1.trans k6⟩
   ·rintro δ s ⟨v3,v4,rfl,hb,good,k⟩
    rw [eL] at good
    refine eI ?_
    kspl_open hQ
    exact hQ _ _ ⟨⟨_,rfl,⟨fun _=>⟨y,fun k r hr=>good k r (Uw.mp hr).1 hr⟩,fun _=>rfl⟩⟩,k⟩
abbrev MT:=List Int×List Int
def lU (a b:MT) (w:List g5) (p:List Int):Bool:=decide (p.length=a.1.length/\[af.anew (gU a w).1 p,af.anew (gU a w).2 p]=[b.1,b.2])
theorem TV {st:Store} {a b:MT} {n m:Nat} {w:List g5} {p:List Int} (ha:af.Tn n a.1/\af.Tn n a.2) (hn:n<=100) (hw:∀ s∈w,zt s) (hl:w.length<=1000) (tp:af.Tn m p):Wp (CP [aT a,aT b,.tup (w.map cV),.tup (p.map D.int)] st) fun d st'=>d=.bl (lU a b w p)/\Ex [] st st':=by
 have hla:=ha.1.length
 have yd:=tp.length
 refine gQ ?_
 show Ws (Fc [some (aT a),some (aT b),some (.tup (w.map cV)),some (.tup (p.map D.int))] st) _ _ _ _
 unfold Fc
 refine aZ (gY ?_)
 unfold aT b9
 kspl_open hQ
 rw [Uu,Uu]
 refine hQ _ _ ⟨fun h=>eI ?_,fun h=>iP (eI ?_)⟩
 ·clear hQ
  kspl_open hQ
  refine hQ _ _ ⟨?_,Ex.refl⟩
  unfold lU
  rw [decide_eq_false]
  rintro ⟨e,_⟩
  simp [e] at h
 ·clear hQ
  have e:p.length=a.1.length:=by simpa [Int.natCast_inj] using h
  have tp':af.Tn n p:=by rw [hla,yd] at e;rw [<- e];exact tp
  kspl_open hQ
  refine aV (FD (p:=a) ha hn hw hl) ?_
  rintro d st1 ⟨rfl,k1⟩
  have tl:=FA ha w
  refine aV (Mt (xs:=(gU a w).1) (ys:=(gU a w).2) tl.1 tl.2 tp' hn) ?_
  rintro d st2 ⟨rfl,k2⟩
  rw [show (D.tup [.tup (b.1.map D.int),.tup (b.2.map D.int)])=b9 b.1 b.2 from rfl,HR]
  refine hQ _ _ ⟨?_,k1.trans k2⟩
  unfold lU
  simp only [e,true_and]
  rfl
theorem MU {L:List (List Int)}:kO L=[]↔L=[]:=by
 rw [<- VJ,MI,VJ]
theorem TX {L:List (List Int)}:∀ d∈kO L,pU 1 d:=fun d hd=>by
 obtain ⟨M,e,_,_⟩:=MJ L
 rw [e] at hd
 obtain ⟨g,_,rfl⟩:=UH.mp hd
 exact HW 0 g
theorem rq {st:Store} {n:Nat} {p q:af.aJ} {Q:D->Store->Prop} (wp:af.Wh n p) (wq:af.Wh n q) (n0:0 < n) (hn:n<=20) (h:∀ s',Ex [] st s'->Q (.bl (decide (af.a8 n p=af.a8 n q))) s'):Wp (oN [aT p,aT q] st) fun d st1=>lim ([]:List D).length=true/\Wp (eN true d (.ref st1.length) (st1 ++ [O.lst []])) Q:=by
 refine aV (MO (xs:=p.1) (ys:=p.2) (us:=q.1) (vs:=q.2) (uU wp) (uU wq) n0 hn hn) ?_
 rintro d s1 ⟨r,rfl,hr,lr,k1⟩
 refine ⟨rfl,?_⟩
 rw [MQ (n:=1) (ds:=kO (af.oE p q n n)) (es:=[]) (de (lP hr)) rM TX (fun d hd=>nomatch hd) (by decide)]
 have e:(if true=true then !decide (kO (af.oE p q n n)=[]) else decide (kO (af.oE p q n n)=[]))=decide (af.a8 n p=af.a8 n q):=by
  rw [if_pos rfl]
  by_cases z:af.a8 n p=af.a8 n q
  ·have:¬ kO (af.oE p q n n)=[]:=fun y=>(af.Il wp wq n0).mp (MU.mp y) z
   simp only [this,z,decide_true,decide_false,Bool.not_false]
  ·have:kO (af.oE p q n n)=[]:=MU.mpr ((af.Il wp wq n0).mpr z)
   simp only [this,z,decide_true,decide_false,Bool.not_true]
 rw [e]
 exact h _ (k1.app _)
theorem yq {st:Store} {Q:D->Store->Prop} {p:af.aJ} {w:List g5} {l:Nat×Nat}:Wp (aN (Dd p w l) (.int 1) st) Q↔Q (wD w) st:=bx
theorem MV {st:Store} {n N:Nat} {p q:af.aJ} (wp:af.Wh n p) (wq:af.Wh n q) (n0:0 < n) (hn:n<=20) (F:af.Full n p (af.ch n p N) N) (pr:∀ j,j < N->j < (af.ch n p j).1.length) (hN:N<=60):Wp (rj [aT p,aT q,.int 60] st) fun d st'=>Ex [] st st'/\((∃ (w:List g5) (g:List Int),d=.tup [.str "led",wD w,tD g]/\(∀ s∈w,af.gL s)/\w.length<=60/\af.Cg n (af.d3 p w) q g/\af.Rel n p q)\/(d=.tup [.str "apart",ph (af.ch n p N) N]/\¬ af.Rel n p q)):=by
 refine gQ ?_
 show Ws (E4 [some (aT p),some (aT q),some (.int 60),none,none,none,none] st) _ _ _ _
 unfold E4
 refine aZ (cK ?_)
 kspl_open hQ
 rw [show (D.int 60)=.int ((60:Nat):Int) from rfl]
 refine aV (TJ (most:=60) wp n0 hn F pr (by omega) (by decide)) ?_
 rintro d s1 ⟨rfl,k1⟩
 refine hQ _ _ ?_
 clear hQ
 generalize hC:af.ch n p N=C at F ⊢
 refine aZ (m8 ((List.range N).map fun k=>Dd (C.1.getD k ([],[])) (C.2.1.getD k []) (C.2.2.getD k (0,0))) (fun i δ s=>∃ (v4 v5 v6:Option D),δ=[some (aT p),some (aT q),some (.int ((60:Nat):Int)),some (ph C N),v4,v5,v6]/\(∀ k,k < i->af.a8 n (af.d3 p (C.2.1.getD k []))≠af.a8 n q)/\Ex [] st s) ?_ (by rw [Uu,Vv];omega) ?_ ?_)
 ·kspl_open hQ
  exact ⟨_,rfl,hQ _ _ ⟨rfl,_,_,_,rfl,fun k hk=>absurd hk (U9 k),k1⟩⟩
 ·rintro i d δ s hd ⟨v4,v5,v6,rfl,no,k⟩
  have hi:i < N:=by have:=gZ hd;rw [Uu,Vv] at this;exact this
  rw [UB,VA hi] at hd
  cases hd
  dsimp only
  obtain ⟨pw,lw,_⟩:=af.Im n0 wp F hi
  kspl_open hQ
  refine hQ _ _ (aZ (cK ?_))
  clear hQ
  kspl_open hQ
  rw [yq]
  refine hQ _ _ (aZ (cK ?_))
  clear hQ
  generalize hw:C.2.1.getD i []=w at pw lw ⊢
  kspl_open hQ
  unfold wD
  refine aV (FD (p:=p) (w:=w) ⟨wp.v.1,wp.v.2⟩ (by omega) (yj pw) (by omega)) ?_
  rintro d s2 ⟨rfl,k2⟩
  rw [zu]
  have wl:=wp.ld n0 (w:=w)
  refine aV (MO (xs:=(af.d3 p w).1) (ys:=(af.d3 p w).2) (us:=q.1) (vs:=q.2) (uU wl) (uU wq) n0 hn hn) ?_
  rintro d s3 ⟨r,rfl,hr,lr,k3⟩
  have tj:=(k.trans k2).trans k3
  refine hQ _ _ (gY ?_)
  clear hQ
  obtain ⟨M,eM,lM,hM⟩:=MJ (af.oE (af.d3 p w) q n n)
  have TY:kO (af.oE ((af.d3 p w).1,(af.d3 p w).2) (q.1,q.2) n n)=M.map tD:=eM
  rw [TY] at hr
  refine dD ?_
  intro iF hQ
  set_option simprocs false in simp only [cm,de hr]
  rw [Uu]
  cases M with
  | nil =>
   have e0:af.oE (af.d3 p w) q n n=[]:=VJ.mp lM.symm
   have ne:=(af.Il wl wq n0).mp e0
   refine hQ _ _ ⟨fun z=>absurd (of_decide_eq_true z) (by simp),fun _=>iP ⟨_,_,_,rfl,fun j hj=>?_,tj⟩⟩
   rcases V2 j i with h | h
   ·exact no j h
   ·have:j=i:=by omega
    subst this
    rw [hw];exact ne
  | cons g M =>
   refine hQ _ _ ⟨fun _=>eI ?_,fun z=>absurd (of_decide_eq_false z) (by simp)⟩
   clear hQ
   refine dD ?_
   intro iF hQ
   set_option simprocs false in simp only [cm,de hr]
   have hg:=hM g Uy
   have cg:=(af.Ik wl wq n0).mp hg
   refine ⟨_,tf (g:=tD) (k:=0) (p:=g) rfl,rfl,hQ _ _ ⟨tj,.inl ⟨w,g,rfl,pw,by omega,cg,w,pw,af.oh n0 wl.v ⟨g,cg⟩⟩⟩⟩
 ·rintro δ s ⟨v4,v5,v6,rfl,no,k⟩
  rw [Uu,Vv] at no
  refine eI ?_
  kspl_open hQ
  refine ⟨rfl,hQ _ _ ⟨k,.inr ⟨rfl,fun h=>?_⟩⟩⟩
  have hm:=af.RK n0 wp F h
  obtain ⟨j,hj⟩:=Vb hm
  have FF:j < N:=by rw [<- F.fl];exact (Uw.mp hj).1
  obtain ⟨_,_,e,_⟩:=af.Im n0 wp F FF
  refine no j FF ?_
  rw [e]
  have:=i9 (d:=(([],[]):af.aJ)) (show j < C.1.length by rw [F.fl];exact FF)
  rw [hj] at this
  exact (UD this).symm
theorem T1 {st:Store} {n:Nat} {p q:af.aJ} {w:List g5} {g:List Int} (wp:af.Wh n p) (wq:af.Wh n q) (n0:0 < n) (hn:n<=20) (pw:∀ s∈w,af.gL s) (wl:w.length<=60) (cg:af.Cg n (af.d3 p w) q g):Wp (x5 [aT p,aT q,.tup [.str "led",wD w,tD g]] st) fun d st'=>d=.bl true/\Ex [] st st':=by
 refine gQ ?_
 show Ws (Fe [some (aT p),some (aT q),some (.tup [.str "led",wD w,tD g]),none,none,none] st) _ _ _ _
 unfold Fe
 refine aZ (HD ?_)
 kspl_open hQ
 refine ⟨_,rfl,hQ _ _ ⟨_,_,rfl,?_⟩⟩
 clear hQ
 refine aZ (gY ?_)
 have el:gU p w=af.d3 p w:=zu w p
 have wd:=wp.ld n0 (w:=w)
 unfold wD tD
 kspl_open hQ
 refine aV (TV (a:=p) (b:=q) (n:=n) (m:=n) (w:=w) (p:=g) ⟨wp.v.1,wp.v.2⟩ (by omega) (yj pw) (by omega) cg.1) ?_
 rintro d s1 ⟨rfl,k1⟩
 have eB:lU p q w g=true:=by
  unfold lU
  rw [el]
  refine decide_eq_true ⟨by rw [cg.1.length,wp.v.1.length],?_⟩
  rw [cg.2]
 rw [eB,LM]
 simp only [if_true,Bool.not_true,Bool.true_and,decide_true]
 refine ⟨_,rfl,?_⟩
 rw [if_neg UE]
 refine aV (FC (p:=p) (w:=w) ⟨wp.v.1,wp.v.2⟩ (by omega) (yj pw) (by omega)) ?_
 rintro d s2 ⟨rfl,k2⟩
 rw [el]
 refine aV (MC (xs:=(af.d3 p w).1) (ys:=(af.d3 p w).2) (p:=g) wd.v.1 wd.v.2 cg.1 (by omega)) ?_
 rintro d s3 ⟨rfl,k3⟩
 have eq:b9 (af.anew (af.d3 p w).1 g) (af.anew (af.d3 p w).2 g)=aT q:=by rw [cg.2];rfl
 rw [eq,FH]
 have tj:=(k1.trans k2).trans k3
 refine ⟨_,rfl,hQ _ _ ⟨fun z=>absurd z (by simp),fun _=>iP (aZ (cK ?_))⟩⟩
 clear hQ
 kspl_open hQ
 refine aV (Tt (w:=w) (by omega)) ?_
 rintro d s4 ⟨rfl,k4⟩
 have pb:=af.Bc pw
 refine aV (FC (p:=q) (w:=af.ki w) ⟨wq.v.1,wq.v.2⟩ (by omega) (yj pb) (by rw [TC];omega)) ?_
 rintro d s5 ⟨rfl,k5⟩
 rw [zu]
 refine hQ _ _ (eI ?_)
 clear hQ
 kspl_open hQ
 have ef:=af.Mi n0 wp wq pw (af.oh n0 wd.v ⟨g,cg⟩)
 refine rq (wq.ld n0 (w:=af.ki w)) wp n0 hn fun s' k'=>hQ _ _ ⟨by rw [decide_eq_true ef],((tj.trans k4).trans k5).trans k'⟩
theorem MW {st:Store} {n N i:Nat} {p q:af.aJ} {C:af.CS} {δ:aj} {Q:D->Store->Prop} (F:af.Full n p C N) (wp:af.Wh n p) (wq:af.Wh n q) (n0:0 < n) (hn:n<=20) (hN:N<=60) (hc:δ[3]?=some (some (ph C N))) (hi:δ.getD i none=some (aT q))
  (h:∀ s',Ex [] st s'->Q (.ref s'.length) (s' ++ [O.lst (((af.gu n C N).filter fun r=>decide (r.f=af.a8 n q)).map lE)])) :
  Wp (c6 (eC (ag 3)) 1 [i] (hName 0) (aC (aG (eN true) (aM oN (ae (aG aN (ag 0) (fC (.int 0))) (ae (ag 1) ah))) (dI ah))) (ag 0) δ st) Q:=by
 have ok:=af.Mh F n0 hn hN
 have em:∀ r∈af.gu n C N,r.m=n:=fun r hr=>by
  obtain ⟨k,hk⟩:=Vb hr
  rw [(af.Es hk).2]
 obtain ⟨g,hg⟩:∃ g:D->Bool,∀ r∈af.gu n C N,g (lE r)=decide (r.f=af.a8 n q):=by
  classical
  refine ⟨fun d=>decide (∃ r,r∈af.gu n C N/\lE r=d/\r.f=af.a8 n q),fun r hr=>decide_eq_decide.mpr ⟨?_,fun e=>⟨r,hr,rfl,e⟩⟩⟩
  rintro ⟨r',hr',e,ef⟩
  have eq:r'.q=r.q:=Dc (by injection e with e;injection e)
  unfold af.Ro.f at ef ⊢
  rw [em r' hr'] at ef
  rw [em r hr,<- eq]
  exact ef
 refine Rw ((af.gu n C N).map lE) g id ?_ (by rw [Uu];unfold af.gu;rw [Uu,Vv];omega) ?_ ?_ ?_
 ·kspl_open hQ
  refine ⟨_,hc,?_⟩
  rw [IX n N C]
  exact ⟨_,rfl,hQ _ _ ⟨qX _ _,Ex.refl⟩⟩
 ·intro d hd s1 k1
  obtain ⟨r,hr,rfl⟩:=UH.mp hd
  simp only [UT,Vg,hi]
  have hw:=(ok r hr).w
  rw [em r hr] at hw
  refine dD ?_
  intro iF hQ
  set_option simprocs false in simp only [cm,FG]
  refine rq hw wq n0 hn fun s' k'=>⟨_,rfl,hQ _ _ ⟨?_,k'⟩⟩
  rw [hg r hr]
  unfold af.Ro.f
  rw [em r hr]
 ·intro d hd hgd s1 k1
  kspl_open hQ
  exact hQ _ _ ⟨rfl,Ex.refl⟩
 ·intro s1 k1
  have e:(((af.gu n C N).map lE).filter g).map id=((af.gu n C N).filter fun r=>decide (r.f=af.a8 n q)).map lE:=by
   rw [V8,List.filter_map]
   congr 1
   exact List.filter_congr fun r hr=>hg r hr
  rw [e]
  exact h s1 k1
theorem T2 {st:Store} {f n N:Nat} {p q:af.aJ} {C:af.CS} (hf:bz st f) (F:af.Full n p C N) (wp:af.Wh n p) (wq:af.Wh n q) (n0:0 < n) (hn:n<=20) (hN:N<=60) (nr:¬ af.Rel n p q):Wp (x8 [.ref f,aT p,aT q,ph C N] st) fun d st'=>d=.bl true/\Ex [f] st st':=by
 refine gQ ?_
 show Ws (Fn [some (.ref f),some (aT p),some (aT q),some (ph C N),none,none] st) _ _ _ _
 unfold Fn
 have ok:=af.Mh F n0 hn hN
 have ef:=af.Mg F
 have hlen:(af.gu n C N).length=N:=by unfold af.gu;rw [Uu,Vv]
 have nd:((af.gu n C N).map af.Ro.f).Nodup:=by rw [ef];exact F.r.nd
 refine aZ (gY ?_)
 kspl_open hQ
 rw [IX n N C]
 refine aV (TU wp n0 hn ok (by omega)) ?_
 rintro d s1 ⟨⟨c,rfl,hc⟩,k1⟩
 have ec:c=true:=hc.mpr (af.RJ F n0 wp)
 subst ec
 rw [LM]
 refine ⟨_,rfl,?_⟩
 rw [if_neg (by decide)]
 rw [<- IX n N C]
 refine MW (i:=2) F wp wq n0 hn hN rfl rfl fun s2 k2=>?_
 have e0:((af.gu n C N).filter fun r=>decide (r.f=af.a8 n q))=[]:=List.filter_eq_nil_iff.mpr fun r hr z=>by
  refine nr ?_
  obtain ⟨k,hk⟩:=Vb hr
  obtain ⟨hkN,er⟩:=af.Es hk
  obtain ⟨pw,_,e,_,e',_⟩:=af.Im n0 wp F hkN
  refine ⟨_,pw,?_⟩
  rw [e,<- e',<- of_decide_eq_true z,er]
  rfl
 rw [e0,Vg]
 refine ⟨rfl,?_⟩
 rw [MQ (n:=1) (ds:=[]) (es:=[]) (de (lP jQ)) rM (fun d hd=>nomatch hd) (fun d hd=>nomatch hd) (by decide)]
 have f2:=((hf.keep k1).keep k2).keep (Ex.cU [O.lst []])
 have f3:=f2.keep (Ex.cU [O.lst []])
 have k3:Ex [f] st (s2 ++ [O.lst []] ++ [O.lst []]):=(((k1.trans k2).app _).app _).any
 generalize s2 ++ [O.lst []] ++ [O.lst []]=s3 at f3 k3 ⊢
 refine ⟨_,rfl,hQ _ _ ⟨fun z=>absurd z (by simp),fun _=>iP ?_⟩⟩
 clear hQ
 refine aZ (m8 (aE 0 4) (fun i δ s=>∃ (v4 v5:Option D),δ=[some (.ref f),some (aT p),some (aT q),some (ph C N),v4,v5]/\bz s f/\Ex [f] st s) ?_ (by decide) ?_ ?_)
 ·kspl_open hQ
  exact ⟨by decide,hQ _ _ ⟨rfl,_,_,rfl,f3,k3⟩⟩
 ·rintro i d δ s hd ⟨v4,v5,rfl,fs,ks⟩
  kspl_open hQ
  refine hQ _ _ (aZ (cK ?_))
  clear hQ
  kspl_open hQ
  refine aV (MF (most:=6) (great:=5) fs (by decide) (by decide) (by decide) (by decide)) ?_
  rintro d s4 ⟨w,rfl,hw,wl,f4,k4⟩
  have pw:∀ s∈w,af.gL s:=fun s hs=>MP (hw s hs)
  refine aV (FC (p:=p) (w:=w) ⟨wp.v.1,wp.v.2⟩ (by omega) (yj pw) (by omega)) ?_
  rintro d s5 ⟨rfl,k5⟩
  rw [zu]
  have f5:=f4.keep k5
  refine hQ _ _ (gY ?_)
  clear hQ
  kspl_open hQ
  refine MW (i:=5) F wp (wp.ld n0 (w:=w)) n0 hn hN rfl rfl fun s6 k6=>?_
  have e1:((af.gu n C N).filter fun r=>decide (r.f=af.a8 n (af.d3 p w))).length=1:=af.Mj nd (by rw [ef];exact F.word n0 wp w)
  set_option simprocs false in simp only [cm,rM]
  rw [Uu,e1]
  exact hQ _ _ ⟨fun z=>absurd z (by simp),fun _=>iP ⟨_,_,rfl,(f5.keep k6).keep (Ex.cU _),((ks.trans k4).trans (k5.trans k6).any).app _⟩⟩
 ·rintro δ s ⟨v4,v5,rfl,fs,ks⟩
  refine eI ?_
  kspl_open hQ
  exact hQ _ _ ⟨rfl,ks⟩
theorem IZ (ns:List Int):∃ m:Nat,(2:Int) + ((cutD (ns.map D.int) (some 1) (some 2)).length:Int)=(m:Int) + 1/\m<=10:=by
 have h:(cutD (ns.map D.int) (some 1) (some 2)).length<=1:=by
  unfold cutD
  rw [Vs,WK]
  have a:HT.cN (ns.map D.int).length 0 (some 1)=min 1 (ns.map D.int).length:=HT.F6 _ _ 1
  have b:HT.cN (ns.map D.int).length (ns.map D.int).length (some 2)=min 2 (ns.map D.int).length:=HT.F6 _ _ 2
  rw [a,b]
  omega
 exact ⟨(cutD (ns.map D.int) (some 1) (some 2)).length + 1,by omega,by omega⟩
theorem rA (ns:List Int) (hns:ns.length<=63):Wp (Iv [.ref 0] [.lY (ns.map D.int)]) fun d _=>d=.bl true:=by
 refine gQ ?_
 show Ws (Fp [some (.ref 0),none,none,none,none,none,none] [.lY (ns.map D.int)]) _ _ _ _
 unfold Fp
 have I0:([O.lY (ns.map D.int)]:Store)[0]?=some (.lY (ns.map D.int)):=rfl
 generalize ([O.lY (ns.map D.int)]:Store)=kr at I0
 obtain ⟨m,hm,T3⟩:=IZ ns
 refine aZ (m8 (aE 1 m) (fun i δ s=>∃ (v1 v2 v3 v4 v5 v6:Option D),δ=[some (.ref 0),v1,v2,v3,v4,v5,v6]/\s[0]?=some (.lY (ns.map D.int))) ?_ (by rw [iM];omega) ?_ ?_)
 ·refine dD ?_
  intro iF hQ
  set_option simprocs false in simp only [cm,Lv I0]
  rw [hm]
  exact ⟨1,(m:Int) + 1,⟨rfl,rfl⟩,⟨⟨by decide,by decide⟩,by omega,by omega⟩,hQ _ _ ⟨by rw [show ((m:Int) + 1 - 1).toNat=m by omega],_,_,_,_,_,_,rfl,lP I0⟩⟩
 ·rintro i d δ s hd ⟨v1,v2,v3,v4,v5,v6,rfl,h0⟩
  have hil:=gZ hd
  rw [iM] at hil
  rw [yX hil] at hd
  cases hd
  kspl_open hQ
  refine hQ _ _ (aZ (cK ?_))
  clear hQ
  kspl_open hQ
  rw [show (1:Int) + (i:Int)=((1 + i:Nat):Int) by omega]
  refine aV (SQ (a:=0) (ns:=ns) (k:=1 + i) (Lv h0) (by omega)) ?_
  rintro d s1 ⟨rfl,f1,k1⟩
  have h01:=k1.keep _ _ h0 (by simp)
  have GL:0 < s.length:=gZ h0
  generalize s.length=f at f1 GL
  refine hQ _ _ (aZ (cK ?_))
  clear hQ
  kspl_open hQ
  refine aV (rQ (n:=2) f1 (by decide) (by decide)) ?_
  rintro d s2 ⟨kf,rfl,Up,Uq,f2,k2⟩
  refine hQ _ _ (aZ (cK ?_))
  clear hQ
  kspl_open hQ
  refine aV (rQ (n:=5) f2 (by decide) (by decide)) ?_
  rintro d s3 ⟨n1,rfl,Ur,Us,f3,k3⟩
  w_how
  obtain ⟨n,hn1⟩:∃ n:Nat,(1:Int) + n1=(n:Int):=⟨(1 + n1).toNat,by omega⟩
  rw [hn1]
  refine aV (Mr (n:=n) f3 (by omega) (by omega)) ?_
  rintro d s4 ⟨xs,ys,rfl,fl,f4,k4⟩
  have wA:=yf fl
  have n0:0 < n:=by omega
  have lx:=fl.1.length
  refine hQ _ _ (aZ (cK ?_))
  clear hQ
  unfold b9
  kspl_open hQ
  rw [Uu,lx]
  refine aV (Mr (n:=n) f4 (by omega) (by omega)) ?_
  rintro d s5 ⟨us,vs,rfl,fm,f5,k5⟩
  have T5:Ex [f] s1 s5:=((k2.trans k3).trans k4).trans k5
  have MX:=T5.keep _ _ h01 (by simp;omega)
  have wB:=yf fm
  refine hQ _ _ (aZ ?_)
  clear hQ
  have eA:D.tup [D.tup (xs.map D.int),D.tup (ys.map D.int)]=aT (xs,ys):=rfl
  have eB:b9 us vs=aT (us,vs):=rfl
  rw [eA,eB]
  generalize ((xs,ys):af.aJ)=p at wA ⊢
  generalize Ut:((us,vs):af.aJ)=q0 at wB ⊢
  have main:∀ (v1:Option D) (Bk:aj->Store->Prop) (q:af.aJ) (s6:Store),af.Wh n q->(kf=0->af.Rel n p q)->bz s6 f->s6[0]?=some (.lY (ns.map D.int)) ->
   Ws ((aB (aL (aM (fun as=>rj (as ++ [.int 60])) (ae (ag 4) (ae (ag 5) ah))) (hName 6))
 (aB (fV (aC (aG (iY true) (aG aN (aM (fun as=>rj (as ++ [.int 60])) (ae (ag 5) (ae (ag 4) ah))) (fC (.int 0))) (aG aN (ag 6) (fC (.int 0))))) (aU (fC (.bl false))) aX)
 (aB (fV (lg (aC (aG (iY false) (ag 3) (fC (.int 0)))) (aC (aG (iY false) (aG aN (ag 6) (fC (.int 0))) (fC (.str "apart"))))) (aU (fC (.bl false))) aX)
 (aB (fV (lg (aC (aG (iY false) (aG aN (ag 6) (fC (.int 0))) (fC (.str "led")))) (mf (aC (aM x5 (ae (ag 4) (ae (ag 5) (ae (ag 6) ah))))))) (aU (fC (.bl false))) aX)
 (fV (lg (aC (aG (iY false) (aG aN (ag 6) (fC (.int 0))) (fC (.str "apart")))) (mf (aC (aM x8 (ae (ag 2) (ae (ag 4) (ae (ag 5) (ae (aG aN (ag 6) (fC (.int 1))) ah)))))))) (aU (fC (.bl false))) aX))))) [some (.ref 0),v1,some (.ref f),some (.int kf),some (aT p),some (aT q),v6] s6) (fun δ s=>∃ (v1 v2 v3 v4 v5 v6:Option D),δ=[some (.ref 0),v1,v2,v3,v4,v5,v6]/\s[0]?=some (.lY (ns.map D.int))) Bk (fun δ s=>∃ (v1 v2 v3 v4 v5 v6:Option D),δ=[some (.ref 0),v1,v2,v3,v4,v5,v6]/\s[0]?=some (.lY (ns.map D.int))) (fun d _=>d=.bl true):=by
   intro v1 Bk q s6 wq rl f6 h6
   obtain ⟨N,F,pr,hN⟩:=af.Mf n0 (by omega) wA
   obtain ⟨N',F',T6,T7⟩:=af.Mf n0 (by omega) wq
   refine aZ (cK ?_)
   kspl_open hQ
   show Wp (rj [aT p,aT q,.int 60] s6) _
   refine aV (MV wA wq n0 (by omega) F pr hN) ?_
   rintro d s7 ⟨k7,hc⟩
   have f7:=f6.keep k7
   have h7:=k7.keep _ _ h6 (by simp)
   refine hQ _ _ (aZ (gY ?_))
   clear hQ
   kspl_open hQ
   show Wp (rj [aT q,aT p,.int 60] s7) _
   refine aV (MV wq wA n0 (by omega) F' T6 T7) ?_
   rintro d s8 ⟨k8,hc'⟩
   have f8:=f7.keep k8
   have h8:=k8.keep _ _ h7 (by simp)
   have fin:∀ {d:D} {s:Store} {v1 v2 v3 v4 v5 v6:Option D},s[0]?=some (.lY (ns.map D.int))->(∃ (v1' v2' T8 IK T9 Ua:Option D),[some (D.ref 0),v1,v2,v3,v4,v5,v6]=[some (D.ref 0),v1',v2',T8,IK,T9,Ua]/\s[0]?=some (.lY (ns.map D.int))):=fun {d s v1 v2 v3 v4 v5 v6} h=>⟨_,_,_,_,_,_,rfl,h⟩
   rcases hc with ⟨w,g,rfl,pw,wl,cg,re⟩ | ⟨rfl,Ja⟩
   ·have re':=af.Rel.symm n0 wA wq re
    rcases hc' with ⟨w',g',rfl,_⟩ | ⟨rfl,Dg⟩
    ·w_how
     refine hQ _ _ ⟨fun z=>absurd z (by simp),fun _=>iP (aZ (gY ?_))⟩
     clear hQ
     kspl_open hQ
     have MY:(Str.ofString "led" = Str.ofString "apart")=False:=eq_false (by decide)
     have go:Ws ((aB (fV (lg (aC (aG (iY false) (aG aN (ag 6) (fC (.int 0))) (fC (.str "led")))) (mf (aC (aM x5 (ae (ag 4) (ae (ag 5) (ae (ag 6) ah))))))) (aU (fC (.bl false))) aX)
 (fV (lg (aC (aG (iY false) (aG aN (ag 6) (fC (.int 0))) (fC (.str "apart")))) (mf (aC (aM x8 (ae (ag 2) (ae (ag 4) (ae (ag 5) (ae (aG aN (ag 6) (fC (.int 1))) ah)))))))) (aU (fC (.bl false))) aX)) [some (.ref 0),v1,some (.ref f),some (.int kf),some (aT p),some (aT q),some (.tup [.str "led",wD w,tD g])] s8) (fun δ s=>∃ (v1 v2 v3 v4 v5 v6:Option D),δ=[some (.ref 0),v1,v2,v3,v4,v5,v6]/\s[0]?=some (.lY (ns.map D.int))) Bk (fun δ s=>∃ (v1 v2 v3 v4 v5 v6:Option D),δ=[some (.ref 0),v1,v2,v3,v4,v5,v6]/\s[0]?=some (.lY (ns.map D.int))) (fun d _=>d=.bl true):=by
      refine aZ (gY ?_)
      kspl_open cx
      simp only [decide_true,if_true]
      refine aV (T1 wA wq n0 (by omega) pw wl cg) ?_
      rintro d s9 ⟨rfl,k9⟩
      have h9:=k9.keep _ _ h8 (by simp)
      refine ⟨_,rfl,cx _ _ ⟨fun z=>absurd z (by simp),fun _=>iP (gY ?_)⟩⟩
      clear cx
      kspl_open cx
      simp only [MY,decide_false,UY,if_false]
      exact cx _ _ ⟨fun z=>absurd z (by simp),fun _=>iP ⟨_,_,_,_,_,_,rfl,h9⟩⟩
     simp only [MY,decide_false]
     split
     ·exact hQ _ _ ⟨fun z=>absurd z (by simp),fun _=>iP go⟩
     ·exact hQ _ _ ⟨fun z=>absurd z (by simp),fun _=>iP go⟩
    ·exact absurd re' Dg
   ·rcases hc' with ⟨w',g',rfl,_,_,_,re'⟩ | ⟨rfl,Dg⟩
    ·exact absurd (af.Rel.symm n0 wq wA re') Ja
    ·w_how
     refine hQ _ _ ⟨fun z=>absurd z (by simp),fun _=>iP (aZ (gY ?_))⟩
     clear hQ
     kspl_open hQ
     have kn:¬ kf=0:=fun z=>Ja (rl z)
     have Ub:(Str.ofString "apart" = Str.ofString "led")=False:=eq_false (by decide)
     simp only [kn,decide_false,UY,if_false]
     refine hQ _ _ ⟨fun z=>absurd z (by simp),fun _=>iP (aZ (gY ?_))⟩
     clear hQ
     kspl_open hQ
     simp only [Ub,decide_false,UY,if_false]
     refine hQ _ _ ⟨fun z=>absurd z (by simp),fun _=>iP (gY ?_)⟩
     clear hQ
     kspl_open hQ
     simp only [decide_true,if_true]
     refine aV (T2 f8 F wA wq n0 (by omega) hN Ja) ?_
     rintro d s9 ⟨rfl,k9⟩
     have h9:=k9.keep _ _ h8 (by simp;omega)
     exact ⟨_,rfl,hQ _ _ ⟨fun z=>absurd z (by simp),fun _=>iP ⟨_,_,_,_,_,_,rfl,h9⟩⟩⟩
  refine gY ?_
  kspl_open hQ
  by_cases kz:kf=0
  ·refine hQ _ _ ⟨fun _=>cK ?_,fun z=>absurd z (by simp [kz])⟩
   clear hQ
   kspl_open hQ
   refine aV (MF (most:=6) (great:=5) f5 (by decide) (by decide) (by decide) (by decide)) ?_
   rintro d s6 ⟨w,rfl,hw,wl,f6,k6⟩
   have pw:∀ s∈w,af.gL s:=fun s hs=>MP (hw s hs)
   refine aV (FC (p:=p) (w:=w) ⟨wA.v.1,wA.v.2⟩ (by omega) (yj pw) (by omega)) ?_
   rintro d s7 ⟨rfl,k7⟩
   rw [zu]
   unfold aT b9
   w_how
   rw [Uu,wA.v.1.length]
   refine aV (Iw (n:=n) (f6.keep k7) (by omega)) ?_
   rintro d s8 ⟨g,rfl,tg,f8,k8⟩
   have wl:=wA.ld n0 (w:=w)
   refine aV (MC (xs:=(af.d3 p w).1) (ys:=(af.d3 p w).2) (p:=g) wl.v.1 wl.v.2 tg (by omega)) ?_
   rintro d s9 ⟨rfl,k9⟩
   have al:af.a7 n (af.d3 p w) (af.anew (af.d3 p w).1 g,af.anew (af.d3 p w).2 g):=⟨g,tg,rfl⟩
   have h9:=((k6.trans (k7.any.trans k8)).trans k9.any).keep _ _ MX (by simp;omega)
   exact hQ _ _ (main _ _ (af.anew (af.d3 p w).1 g,af.anew (af.d3 p w).2 g) _ (yi wl n0 al) (fun _=>⟨w,pw,af.oh n0 wl.v al⟩) (f8.keep k9) h9)
  ·exact hQ _ _ ⟨fun z=>absurd (of_decide_eq_true z) kz,fun _=>iP (main _ _ q0 _ wB (fun z=>absurd z kz) f5 MX)⟩
 ·rintro δ s ⟨v1,v2,v3,v4,v5,v6,rfl,h0⟩
  refine eI ?_
  kspl_open hQ
  exact hQ _ _ rfl
theorem yr {P:Program} {w:World} {K:Zfr} {mg:Str->Option Value} {base:Heap} (T:Txt mg) {lS:V} (kl:rC K mg "QUARTER" lS (.tup [(.str "t"),(.int 1)])) {oM:V} (ny:rC K mg "SHEAR" oM (.tup [(.str "s"),(.int 1)])) {iB:Addr} {iC:FuncData} (iD:Def K mg "_law_feed" Cd ["_law_script","_law_k"] iB iC) {bj:Addr} {bp:FuncData} (aO:Def K mg "_law_take" uK ["_law_feed_here","_law_many"] bj bp) {bW:Addr} {bX:FuncData} (bK:Def K mg "_law_turning" zb ["_law_feed_here","_law_n"] bW bX) {jr:Addr} {jt:FuncData} (gR:Def K mg "_law_met" Ce ["_law_floor_here"] jr jt) {gh:Addr} {gi:FuncData} (eG:Def K mg "_law_floor" Ci ["_law_feed_here","_law_n"] gh gi) {br:Addr} {bu:FuncData} (bw:Def K mg "turned_back" xV ["turning"] br bu) {cz:Addr} {cB:FuncData} (bL:Def K mg "followed" xW ["one","other"] cz cB) {cu:Addr} {cv:FuncData} (cw:Def K mg "called_anew" zc ["floor","p"] cu cv) {bZ:Addr} {b5:FuncData} (b6:Def K mg "squares_from" zd ["floor","s"] bZ b5) {bD:Addr} {bE:FuncData} (bF:Def K mg "numbering_from" zf ["floor","s"] bD bE) {bM:Addr} {bN:FuncData} (bA:Def K mg "numbered_from" zg ["floor","s"] bM bN) {bG:Addr} {bH:FuncData} (a6:Def K mg "form_of" sU ["floor"] bG bH) {hW:Addr} {ia:FuncData} (ib:Def K mg "ring_from" Ck ["turning","first"] hW ia) {jv:Addr} {jw:FuncData} (jx:Def K mg "rings_of" Cn ["turning"] jv jw) {nh:Addr} {ni:FuncData} (nt:Def K mg "often" Cp ["turning","k"] nh ni) {fK:Addr} {fL:FuncData} (fM:Def K mg "sheared" zi ["floor","k"] fK fL) {dh:Addr} {di:FuncData} (dj:Def K mg "quartered" zj ["floor"] dh di) {fe:Addr} {ff:FuncData} (fg:Def K mg "led_by_step" Cs ["floor","step"] fe ff) {cZ:Addr} {c4:FuncData} (c5:Def K mg "led_by" uO ["floor","word"] cZ c4) {lB:Addr} {lC:FuncData} (lD:Def K mg "joined" Cu ["one","other"] lB lC) {fY:Addr} {fZ:FuncData} (f9:Def K mg "made_plain" Cw ["word"] fY fZ) {d4:Addr} {d5:FuncData} (d6:Def K mg "put_together" CA ["one","other"] d4 d5) {gb:Addr} {gf:FuncData} (eE:Def K mg "row_led_to" CB ["forms","words","place","step"] gb gf) {jy:Addr} {jz:FuncData} (fE:mQ K mg "chart_of" CD ["floor","most"] [V.int 60] jy jz) {cD:Addr} {cE:FuncData} (cc:Def K mg "callings" xZ ["one","other"] cD cE) {pA:Addr} {pB:FuncData} (km:mQ K mg "meet" CG ["one","other","most"] [V.int 60] pA pB) {dk:Addr} {dr:FuncData} (du:Def K mg "_law_anew" zk ["_law_floor_here","_law_p"] dk dr) {fj:Addr} {fq:FuncData} (ft:Def K mg "_law_behind" CJ ["_law_turning_here","_law_s","_law_k"] fj fq) {d7:Addr} {d8:FuncData} (d9:Def K mg "_law_stepped" CK ["_law_floor_here","_law_step"] d7 d8) {cG:Addr} {cH:FuncData} (cf:Def K mg "_law_led" x4 ["_law_floor_here","_law_word_here"] cG cH) {ig:Addr} {ik:FuncData} (il:Def K mg "back_step" CM ["step"] ig ik) {ip:Addr} {iq:FuncData} (iu:Def K mg "back_word" CO ["word"] ip iq) {jA:Addr} {jB:FuncData} (jC:Def K mg "leads_to" CQ ["one","other","word","p"] jA jB) {fA:Addr} {fB:FuncData} (fD:Def K mg "_law_is_led" CT ["_law_one","_law_other","_law_found"] fA fB) {jD:Addr} {jE:FuncData} (gT:Def K mg "has_form" CU ["forms","number","floor"] jD jE) {iw:Addr} {iy:FuncData} (iz:Def K mg "row_holds" CW ["floor","row","forms"] iw iy) {fu:Addr} {fw:FuncData} (fz:Def K mg "chart_holds" CZ ["floor","chart"] fu fw) {dv:Addr} {dw:FuncData} (dz:Def K mg "_law_word" zp ["_law_feed_here","_law_most","_law_great"] dv dw) {dJ:Addr} {dM:FuncData} (dN:Def K mg "_law_is_apart" C0 ["_law_feed_here","_law_one","_law_other","_law_chart"] dJ dM) {Dh:Addr} {Di:FuncData} (Jb:Def K mg "law" Fq ["_law_script"] Dh Di):aA P w K mg base aY 10 Dh Di ["_law_script"] (bg K 1 Iv):=by
 have j3:=RM (P:=P) (w:=w) (base:=base) iD T
 have aP:=RN (P:=P) (w:=w) (base:=base) aO T
 have bY:=RO (P:=P) (w:=w) (base:=base) bK T  aO aP
 have ju:=RP (P:=P) (w:=w) (base:=base) gR T
 have gj:=RQ (P:=P) (w:=w) (base:=base) eG T  aO aP bK bY gR ju
 have bI:=RS (P:=P) (w:=w) (base:=base) bw T
 have bR:=RU (P:=P) (w:=w) (base:=base) bL T
 have cY:=RV (P:=P) (w:=w) (base:=base) cw T  bw bI bL bR
 have cC:=RW (P:=P) (w:=w) (base:=base) b6 T
 have bS:=RY (P:=P) (w:=w) (base:=base) bF T  bw bI b6 cC
 have bO:=R0 (P:=P) (w:=w) (base:=base) bA T  cw cY bF bS
 have bB:=R3 (P:=P) (w:=w) (base:=base) a6 T  bA bO
 have jW:=R4 (P:=P) (w:=w) (base:=base) ib T
 have kL:=R5 (P:=P) (w:=w) (base:=base) jx T  ib jW
 have oK:=R6 (P:=P) (w:=w) (base:=base) nt T  jx kL
 have gS:=R8 (P:=P) (w:=w) (base:=base) fM T  bL bR nt oK
 have dW:=Sb (P:=P) (w:=w) (base:=base) dj T  bw bI
 have ic:=Sd (P:=P) (w:=w) (base:=base) fg T  fM gS dj dW
 have dg:=Se (P:=P) (w:=w) (base:=base) c5 T  fg ic
 have nu:=Sf (P:=P) (w:=w) (base:=base) lD T
 have i7:=Sg (P:=P) (w:=w) (base:=base) f9 T  lD nu
 have gw:=Sj (P:=P) (w:=w) (base:=base) d6 T  f9 i7
 have gg:=Sk (P:=P) (w:=w) (base:=base) eE T  a6 bB c5 dg d6 gw
 have kM:=Sl (P:=P) (w:=w) (base:=base) fE T kl ny a6 bB eE gg
 have cF:=Sn (P:=P) (w:=w) (base:=base) cc T  bA bO bF bS bL bR b6 cC
 have pC:=Sq (P:=P) (w:=w) (base:=base) km T  fE kM cc cF c5 dg
 have dX:=Ss (P:=P) (w:=w) (base:=base) du T
 have ie:=Sv (P:=P) (w:=w) (base:=base) ft T
 have gx:=Sw (P:=P) (w:=w) (base:=base) d9 T  ft ie
 have cI:=Sx (P:=P) (w:=w) (base:=base) cf T  d9 gx
 have jX:=Sz (P:=P) (w:=w) (base:=base) il T
 have jY:=SD (P:=P) (w:=w) (base:=base) iu T  il jX
 have kN:=SF (P:=P) (w:=w) (base:=base) jC T  cw cY c5 dg
 have iE:=SG (P:=P) (w:=w) (base:=base) fD T  cf cI iu jY cc cF jC kN du dX
 have jF:=SI (P:=P) (w:=w) (base:=base) gT T  a6 bB
 have jZ:=SK (P:=P) (w:=w) (base:=base) iz T  a6 bB gT jF c5 dg fM gS dj dW
 have iA:=SM (P:=P) (w:=w) (base:=base) fz T  a6 bB iz jZ
 have dY:=SN (P:=P) (w:=w) (base:=base) dz T  aO aP
 have fN:=SO (P:=P) (w:=w) (base:=base) dN T  cf cI fz iA dz dY cc cF
 have Jc:=x9 (P:=P) (w:=w) (base:=base) Jb T  iD j3 aO aP eG gj km pC du dX cf cI bK bY fD iE dN fN dz dY
 exact Jc
end My
open PySem PySem.W PyProof.Rows L2
namespace PySem.W.Fast
theorem tw14279565437122201772:True:=⟨⟩
theorem tw1841765162187169931:True:=⟨⟩
theorem tw16280060949179084814:True:=⟨⟩
theorem tw5163044523782621004:True:=⟨⟩
theorem tw6754343848672975956:True:=⟨⟩
theorem tw31688135137641172:True:=⟨⟩
theorem tw4716180646163162316:True:=⟨⟩
theorem tw5934148298668065127:True:=⟨⟩
theorem tw7107059823958053135:True:=⟨⟩
theorem tw3287558068979540773:True:=⟨⟩
theorem tw11924256957107125644:True:=⟨⟩
theorem tw4874572943151492363:True:=⟨⟩
theorem tw13684196595003642990:True:=⟨⟩
theorem tw16424972165846654472:True:=⟨⟩
theorem tw16816487959106161293:True:=⟨⟩
theorem tw16019844427247816844:True:=⟨⟩
theorem tw9910215795078305397:True:=⟨⟩
theorem tw2022883920368423090:True:=⟨⟩
theorem tw7434952729415089194:True:=⟨⟩
theorem tw17333954755987209886:True:=⟨⟩
theorem tw1351466741009819098:True:=⟨⟩
theorem tw10469748673418996943:True:=⟨⟩
theorem tw12811662539015870773:True:=⟨⟩
theorem tw2600363570367472604:True:=⟨⟩
theorem tw4285353417839592183:True:=⟨⟩
theorem tw8359929475686767108:True:=⟨⟩
theorem tw5986121300151369052:True:=⟨⟩
theorem tw5390435809124092928:True:=⟨⟩
theorem tw14109065179603236413:True:=⟨⟩
theorem tw7722519660402033829:True:=⟨⟩
theorem tw9973196871479424147:True:=⟨⟩
theorem tw9536194345350819390:True:=⟨⟩
theorem tw11669141921002624691:True:=⟨⟩
theorem tw7287101888690527821:True:=⟨⟩
theorem tw15870254100781208838:True:=⟨⟩
theorem tw3936570475216382319:True:=⟨⟩
theorem tw4892319621620430684:True:=⟨⟩
theorem tw2980300832397015669:True:=⟨⟩
theorem tw288036750406198910:True:=⟨⟩
theorem tw16765021497855824762:True:=⟨⟩
theorem tw10497559344835845680:True:=⟨⟩
theorem tw220847456561006624:True:=⟨⟩
theorem tw12997534277827809211:True:=⟨⟩
theorem tw7919282805534003126:True:=⟨⟩
theorem tw1622650310438001606:True:=⟨⟩
theorem tw9155919321835054606:True:=⟨⟩
theorem tw3211071587024757111:True:=⟨⟩
theorem tw11992446048917379466:True:=⟨⟩
theorem tw6471013722006981395:True:=⟨⟩
theorem tw2369400289634603076:True:=⟨⟩
theorem tw14096733217995413587:True:=⟨⟩
theorem tw4696628367203503754:True:=⟨⟩
theorem tw1963255113693658200:True:=⟨⟩
theorem tw7470878102399865674:True:=⟨⟩
theorem tw16744544362680044650:True:=⟨⟩
theorem tw1337344997047944044:True:=⟨⟩
theorem tw10918149991742691493:True:=⟨⟩
theorem tw11685054431747771149:True:=⟨⟩
theorem tw8432864912529113664:True:=⟨⟩
theorem tw8849311850737178768:True:=⟨⟩
theorem tw8464216154780279507:True:=⟨⟩
theorem tw11897530134069738232:True:=⟨⟩
theorem tw717061069925697495:True:=⟨⟩
theorem tw13680705530851961805:True:=⟨⟩
theorem tw15119992601191182368:True:=⟨⟩
theorem tw10065029283364011472:True:=⟨⟩
theorem tw6405643649205370304:True:=⟨⟩
theorem tw1667156655878003454:True:=⟨⟩
theorem tw8624103713907088686:True:=⟨⟩
theorem tw561914131244581604:True:=⟨⟩
theorem tw13322822859404657603:True:=⟨⟩
theorem tw10382659488604923356:True:=⟨⟩
theorem tw17406691198777012799:True:=⟨⟩
theorem tw10602329799486688645:True:=⟨⟩
end PySem.W.Fast
set_option maxRecDepth 100000 in
set_option maxHeartbeats 0 in
theorem PySem.Challenge.cw_shearfloor_k62_whole_led_or_apart_holds : PySem.Challenge.rw_shearfloor_k62_whole_led_or_apart.Holds := by
 w_on;o_law;k_head;(case hw=>w_witness2)
 k_fill
 refine L2.NR (l:=PySem.Challenge.rw_shearfloor_k62_whole_led_or_apart) (n:=63) (k:=10) (x:="_law_script") (CX:=aY) (sp:=L4.uA) rfl (by decide) rfl ⟨rfl,by decide,by decide,rfl⟩ (fun w h Y=>PySem.W.kIn_of Y) ?F ?S ?C
 case F =>
  intro w mg fa h KX G hmg
  have T:My.Txt mg:=by
   refine' ⟨t9 KX G ?z0,t9 KX G ?z1,t9 KX G ?z2,t9 KX G ?z3,t9 KX G ?z4,t9 KX G ?z5,t9 KX G ?z6,t9 KX G ?z7⟩
   (case z0=>k_is);(case z1=>k_is);(case z2=>k_is);(case z3=>k_is);(case z4=>k_is);(case z5=>k_is);(case z6=>k_is);(case z7=>k_is)
  have kP:∃ v,L4.rC (L2.KOf KX) mg "QUARTER" v (.tup [(.str "t"),(.int 1)]):=by
   dsimp only [L2.KOf];refine' L4.LP (vs:=[V.str "t",V.int 1]) KX G ?a ?l ?o ?z ?v ?d
   (case a=>k_is);(case l=>k_is);(case o=>rfl);(case z=>decide);(case v=>exact (.cons ⟨_,rfl⟩ (.cons ⟨_,rfl⟩ .nil)));(case d=>exact fun ρ H=>(.cons (.str _) (.cons (.int _) .nil)))
  obtain ⟨_,kP⟩:=kP
  have nz:∃ v,L4.rC (L2.KOf KX) mg "SHEAR" v (.tup [(.str "s"),(.int 1)]):=by
   dsimp only [L2.KOf];refine' L4.LP (vs:=[V.str "s",V.int 1]) KX G ?a ?l ?o ?z ?v ?d
   (case a=>k_is);(case l=>k_is);(case o=>rfl);(case z=>decide);(case v=>exact (.cons ⟨_,rfl⟩ (.cons ⟨_,rfl⟩ .nil)));(case d=>exact fun ρ H=>(.cons (.str _) (.cons (.int _) .nil)))
  obtain ⟨_,nz⟩:=nz
  have ja:∃ f fd,Def (L2.KOf KX) mg "_law_feed" My.Cd ["_law_script","_law_k"] f fd:=by
   dsimp only [L2.KOf];refine' iK KX G (fun _ _ _ _ _ _ us hl=>match us,hl with | [_,_],_=>rfl) ?a ?l ?c ?k
   (case a=>k_is);(case l=>k_is);(case c=>k_is);(case k=>k_is)
  obtain ⟨_,_,ja⟩:=ja
  have jb:∃ f fd,Def (L2.KOf KX) mg "_law_take" My.uK ["_law_feed_here","_law_many"] f fd:=by
   dsimp only [L2.KOf];refine' iK KX G (fun _ _ _ _ _ _ us hl=>match us,hl with | [_,_],_=>rfl) ?a ?l ?c ?k
   (case a=>k_is);(case l=>k_is);(case c=>k_is);(case k=>k_is)
  obtain ⟨_,_,jb⟩:=jb
  have fO:∃ f fd,Def (L2.KOf KX) mg "_law_turning" My.zb ["_law_feed_here","_law_n"] f fd:=by
   dsimp only [L2.KOf];refine' iK KX G (fun _ _ _ _ _ _ us hl=>match us,hl with | [_,_],_=>rfl) ?a ?l ?c ?k
   (case a=>k_is);(case l=>k_is);(case c=>k_is);(case k=>k_is)
  obtain ⟨_,_,fO⟩:=fO
  have j4:∃ f fd,Def (L2.KOf KX) mg "_law_met" My.Ce ["_law_floor_here"] f fd:=by
   dsimp only [L2.KOf];refine' iK KX G (fun _ _ _ _ _ _ us hl=>match us,hl with | [_],_=>rfl) ?a ?l ?c ?k
   (case a=>k_is);(case l=>k_is);(case c=>k_is);(case k=>k_is)
  obtain ⟨_,_,j4⟩:=j4
  have iG:∃ f fd,Def (L2.KOf KX) mg "_law_floor" My.Ci ["_law_feed_here","_law_n"] f fd:=by
   dsimp only [L2.KOf];refine' iK KX G (fun _ _ _ _ _ _ us hl=>match us,hl with | [_,_],_=>rfl) ?a ?l ?c ?k
   (case a=>k_is);(case l=>k_is);(case c=>k_is);(case k=>k_is)
  obtain ⟨_,_,iG⟩:=iG
  have gy:∃ f fd,Def (L2.KOf KX) mg "turned_back" My.xV ["turning"] f fd:=by
   dsimp only [L2.KOf];refine' iK KX G (fun _ _ _ _ _ _ us hl=>match us,hl with | [_],_=>rfl) ?a ?l ?c ?k
   (case a=>k_is);(case l=>k_is);(case c=>k_is);(case k=>k_is)
  obtain ⟨_,_,gy⟩:=gy
  have j5:∃ f fd,Def (L2.KOf KX) mg "followed" My.xW ["one","other"] f fd:=by
   dsimp only [L2.KOf];refine' iK KX G (fun _ _ _ _ _ _ us hl=>match us,hl with | [_,_],_=>rfl) ?a ?l ?c ?k
   (case a=>k_is);(case l=>k_is);(case c=>k_is);(case k=>k_is)
  obtain ⟨_,_,j5⟩:=j5
  have gA:∃ f fd,Def (L2.KOf KX) mg "called_anew" My.zc ["floor","p"] f fd:=by
   dsimp only [L2.KOf];refine' iK KX G (fun _ _ _ _ _ _ us hl=>match us,hl with | [_,_],_=>rfl) ?a ?l ?c ?k
   (case a=>k_is);(case l=>k_is);(case c=>k_is);(case k=>k_is)
  obtain ⟨_,_,gA⟩:=gA
  have fP:∃ f fd,Def (L2.KOf KX) mg "squares_from" My.zd ["floor","s"] f fd:=by
   dsimp only [L2.KOf];refine' iK KX G (fun _ _ _ _ _ _ us hl=>match us,hl with | [_,_],_=>rfl) ?a ?l ?c ?k
   (case a=>k_is);(case l=>k_is);(case c=>k_is);(case k=>k_is)
  obtain ⟨_,_,fP⟩:=fP
  have dZ:∃ f fd,Def (L2.KOf KX) mg "numbering_from" My.zf ["floor","s"] f fd:=by
   dsimp only [L2.KOf];refine' iK KX G (fun _ _ _ _ _ _ us hl=>match us,hl with | [_,_],_=>rfl) ?a ?l ?c ?k
   (case a=>k_is);(case l=>k_is);(case c=>k_is);(case k=>k_is)
  obtain ⟨_,_,dZ⟩:=dZ
  have eV:∃ f fd,Def (L2.KOf KX) mg "numbered_from" My.zg ["floor","s"] f fd:=by
   dsimp only [L2.KOf];refine' iK KX G (fun _ _ _ _ _ _ us hl=>match us,hl with | [_,_],_=>rfl) ?a ?l ?c ?k
   (case a=>k_is);(case l=>k_is);(case c=>k_is);(case k=>k_is)
  obtain ⟨_,_,eV⟩:=eV
  have kQ:∃ f fd,Def (L2.KOf KX) mg "form_of" My.sU ["floor"] f fd:=by
   dsimp only [L2.KOf];refine' iK KX G (fun _ _ _ _ _ _ us hl=>match us,hl with | [_],_=>rfl) ?a ?l ?c ?k
   (case a=>k_is);(case l=>k_is);(case c=>k_is);(case k=>k_is)
  obtain ⟨_,_,kQ⟩:=kQ
  have jc:∃ f fd,Def (L2.KOf KX) mg "ring_from" My.Ck ["turning","first"] f fd:=by
   dsimp only [L2.KOf];refine' iK KX G (fun _ _ _ _ _ _ us hl=>match us,hl with | [_,_],_=>rfl) ?a ?l ?c ?k
   (case a=>k_is);(case l=>k_is);(case c=>k_is);(case k=>k_is)
  obtain ⟨_,_,jc⟩:=jc
  have j6:∃ f fd,Def (L2.KOf KX) mg "rings_of" My.Cn ["turning"] f fd:=by
   dsimp only [L2.KOf];refine' iK KX G (fun _ _ _ _ _ _ us hl=>match us,hl with | [_],_=>rfl) ?a ?l ?c ?k
   (case a=>k_is);(case l=>k_is);(case c=>k_is);(case k=>k_is)
  obtain ⟨_,_,j6⟩:=j6
  have nA:∃ f fd,Def (L2.KOf KX) mg "often" My.Cp ["turning","k"] f fd:=by
   dsimp only [L2.KOf];refine' iK KX G (fun _ _ _ _ _ _ us hl=>match us,hl with | [_,_],_=>rfl) ?a ?l ?c ?k
   (case a=>k_is);(case l=>k_is);(case c=>k_is);(case k=>k_is)
  obtain ⟨_,_,nA⟩:=nA
  have kR:∃ f fd,Def (L2.KOf KX) mg "sheared" My.zi ["floor","k"] f fd:=by
   dsimp only [L2.KOf];refine' iK KX G (fun _ _ _ _ _ _ us hl=>match us,hl with | [_,_],_=>rfl) ?a ?l ?c ?k
   (case a=>k_is);(case l=>k_is);(case c=>k_is);(case k=>k_is)
  obtain ⟨_,_,kR⟩:=kR
  have jd:∃ f fd,Def (L2.KOf KX) mg "quartered" My.zj ["floor"] f fd:=by
   dsimp only [L2.KOf];refine' iK KX G (fun _ _ _ _ _ _ us hl=>match us,hl with | [_],_=>rfl) ?a ?l ?c ?k
   (case a=>k_is);(case l=>k_is);(case c=>k_is);(case k=>k_is)
  obtain ⟨_,_,jd⟩:=jd
  have gB:∃ f fd,Def (L2.KOf KX) mg "led_by_step" My.Cs ["floor","step"] f fd:=by
   dsimp only [L2.KOf];refine' iK KX G (fun _ _ _ _ _ _ us hl=>match us,hl with | [_,_],_=>rfl) ?a ?l ?c ?k
   (case a=>k_is);(case l=>k_is);(case c=>k_is);(case k=>k_is)
  obtain ⟨_,_,gB⟩:=gB
  have lV:∃ f fd,Def (L2.KOf KX) mg "led_by" My.uO ["floor","word"] f fd:=by
   dsimp only [L2.KOf];refine' iK KX G (fun _ _ _ _ _ _ us hl=>match us,hl with | [_,_],_=>rfl) ?a ?l ?c ?k
   (case a=>k_is);(case l=>k_is);(case c=>k_is);(case k=>k_is)
  obtain ⟨_,_,lV⟩:=lV
  have lW:∃ f fd,Def (L2.KOf KX) mg "joined" My.Cu ["one","other"] f fd:=by
   dsimp only [L2.KOf];refine' iK KX G (fun _ _ _ _ _ _ us hl=>match us,hl with | [_,_],_=>rfl) ?a ?l ?c ?k
   (case a=>k_is);(case l=>k_is);(case c=>k_is);(case k=>k_is)
  obtain ⟨_,_,lW⟩:=lW
  have iH:∃ f fd,Def (L2.KOf KX) mg "made_plain" My.Cw ["word"] f fd:=by
   dsimp only [L2.KOf];refine' iK KX G (fun _ _ _ _ _ _ us hl=>match us,hl with | [_],_=>rfl) ?a ?l ?c ?k
   (case a=>k_is);(case l=>k_is);(case c=>k_is);(case k=>k_is)
  obtain ⟨_,_,iH⟩:=iH
  have fQ:∃ f fd,Def (L2.KOf KX) mg "put_together" My.CA ["one","other"] f fd:=by
   dsimp only [L2.KOf];refine' iK KX G (fun _ _ _ _ _ _ us hl=>match us,hl with | [_,_],_=>rfl) ?a ?l ?c ?k
   (case a=>k_is);(case l=>k_is);(case c=>k_is);(case k=>k_is)
  obtain ⟨_,_,fQ⟩:=fQ
  have iI:∃ f fd,Def (L2.KOf KX) mg "row_led_to" My.CB ["forms","words","place","step"] f fd:=by
   dsimp only [L2.KOf];refine' iK KX G (fun _ _ _ _ _ _ us hl=>match us,hl with | [_,_,_,_],_=>rfl) ?a ?l ?c ?k
   (case a=>k_is);(case l=>k_is);(case c=>k_is);(case k=>k_is)
  obtain ⟨_,_,iI⟩:=iI
  have j7:∃ f fd,mQ (L2.KOf KX) mg "chart_of" My.CD ["floor","most"] [V.int 60] f fd:=by
   dsimp only [L2.KOf];refine' KD (d:=1) KX G (by decide) (fun _ _ _ _ _ _ _ us ds hl hd=>match us,ds,hl,hd with | [_],[_],_,_=>⟨_,rfl,rfl⟩) (fun _ _ _ _ _ _ _ us ds hl hd=>match us,ds,hl,hd with | [_,_],[_],_,_=>⟨_,rfl,rfl⟩) ?a ?l ?lT ?e ?v ?c ?k
   (case a=>k_is);(case l=>k_is);(case lT=>k_is);(case e=>rfl);(case v=>exact .cons ⟨_,rfl⟩ (.nil));(case c=>k_is);(case k=>k_is)
  obtain ⟨_,_,j7⟩:=j7
  have j8:∃ f fd,Def (L2.KOf KX) mg "callings" My.xZ ["one","other"] f fd:=by
   dsimp only [L2.KOf];refine' iK KX G (fun _ _ _ _ _ _ us hl=>match us,hl with | [_,_],_=>rfl) ?a ?l ?c ?k
   (case a=>k_is);(case l=>k_is);(case c=>k_is);(case k=>k_is)
  obtain ⟨_,_,j8⟩:=j8
  have oO:∃ f fd,mQ (L2.KOf KX) mg "meet" My.CG ["one","other","most"] [V.int 60] f fd:=by
   dsimp only [L2.KOf];refine' KD (d:=1) KX G (by decide) (fun _ _ _ _ _ _ _ us ds hl hd=>match us,ds,hl,hd with | [_,_],[_],_,_=>⟨_,rfl,rfl⟩) (fun _ _ _ _ _ _ _ us ds hl hd=>match us,ds,hl,hd with | [_,_,_],[_],_,_=>⟨_,rfl,rfl⟩) ?a ?l ?lT ?e ?v ?c ?k
   (case a=>k_is);(case l=>k_is);(case lT=>k_is);(case e=>rfl);(case v=>exact .cons ⟨_,rfl⟩ (.nil));(case c=>k_is);(case k=>k_is)
  obtain ⟨_,_,oO⟩:=oO
  have je:∃ f fd,Def (L2.KOf KX) mg "_law_anew" My.zk ["_law_floor_here","_law_p"] f fd:=by
   dsimp only [L2.KOf];refine' iK KX G (fun _ _ _ _ _ _ us hl=>match us,hl with | [_,_],_=>rfl) ?a ?l ?c ?k
   (case a=>k_is);(case l=>k_is);(case c=>k_is);(case k=>k_is)
  obtain ⟨_,_,je⟩:=je
  have gC:∃ f fd,Def (L2.KOf KX) mg "_law_behind" My.CJ ["_law_turning_here","_law_s","_law_k"] f fd:=by
   dsimp only [L2.KOf];refine' iK KX G (fun _ _ _ _ _ _ us hl=>match us,hl with | [_,_,_],_=>rfl) ?a ?l ?c ?k
   (case a=>k_is);(case l=>k_is);(case c=>k_is);(case k=>k_is)
  obtain ⟨_,_,gC⟩:=gC
  have fR:∃ f fd,Def (L2.KOf KX) mg "_law_stepped" My.CK ["_law_floor_here","_law_step"] f fd:=by
   dsimp only [L2.KOf];refine' iK KX G (fun _ _ _ _ _ _ us hl=>match us,hl with | [_,_],_=>rfl) ?a ?l ?c ?k
   (case a=>k_is);(case l=>k_is);(case c=>k_is);(case k=>k_is)
  obtain ⟨_,_,fR⟩:=fR
  have j9:∃ f fd,Def (L2.KOf KX) mg "_law_led" My.x4 ["_law_floor_here","_law_word_here"] f fd:=by
   dsimp only [L2.KOf];refine' iK KX G (fun _ _ _ _ _ _ us hl=>match us,hl with | [_,_],_=>rfl) ?a ?l ?c ?k
   (case a=>k_is);(case l=>k_is);(case c=>k_is);(case k=>k_is)
  obtain ⟨_,_,j9⟩:=j9
  have jf:∃ f fd,Def (L2.KOf KX) mg "back_step" My.CM ["step"] f fd:=by
   dsimp only [L2.KOf];refine' iK KX G (fun _ _ _ _ _ _ us hl=>match us,hl with | [_],_=>rfl) ?a ?l ?c ?k
   (case a=>k_is);(case l=>k_is);(case c=>k_is);(case k=>k_is)
  obtain ⟨_,_,jf⟩:=jf
  have jg:∃ f fd,Def (L2.KOf KX) mg "back_word" My.CO ["word"] f fd:=by
   dsimp only [L2.KOf];refine' iK KX G (fun _ _ _ _ _ _ us hl=>match us,hl with | [_],_=>rfl) ?a ?l ?c ?k
   (case a=>k_is);(case l=>k_is);(case c=>k_is);(case k=>k_is)
  obtain ⟨_,_,jg⟩:=jg
  have ka:∃ f fd,Def (L2.KOf KX) mg "leads_to" My.CQ ["one","other","word","p"] f fd:=by
   dsimp only [L2.KOf];refine' iK KX G (fun _ _ _ _ _ _ us hl=>match us,hl with | [_,_,_,_],_=>rfl) ?a ?l ?c ?k
   (case a=>k_is);(case l=>k_is);(case c=>k_is);(case k=>k_is)
  obtain ⟨_,_,ka⟩:=ka
  have gD:∃ f fd,Def (L2.KOf KX) mg "_law_is_led" My.CT ["_law_one","_law_other","_law_found"] f fd:=by
   dsimp only [L2.KOf];refine' iK KX G (fun _ _ _ _ _ _ us hl=>match us,hl with | [_,_,_],_=>rfl) ?a ?l ?c ?k
   (case a=>k_is);(case l=>k_is);(case c=>k_is);(case k=>k_is)
  obtain ⟨_,_,gD⟩:=gD
  have kc:∃ f fd,Def (L2.KOf KX) mg "has_form" My.CU ["forms","number","floor"] f fd:=by
   dsimp only [L2.KOf];refine' iK KX G (fun _ _ _ _ _ _ us hl=>match us,hl with | [_,_,_],_=>rfl) ?a ?l ?c ?k
   (case a=>k_is);(case l=>k_is);(case c=>k_is);(case k=>k_is)
  obtain ⟨_,_,kc⟩:=kc
  have jh:∃ f fd,Def (L2.KOf KX) mg "row_holds" My.CW ["floor","row","forms"] f fd:=by
   dsimp only [L2.KOf];refine' iK KX G (fun _ _ _ _ _ _ us hl=>match us,hl with | [_,_,_],_=>rfl) ?a ?l ?c ?k
   (case a=>k_is);(case l=>k_is);(case c=>k_is);(case k=>k_is)
  obtain ⟨_,_,jh⟩:=jh
  have gE:∃ f fd,Def (L2.KOf KX) mg "chart_holds" My.CZ ["floor","chart"] f fd:=by
   dsimp only [L2.KOf];refine' iK KX G (fun _ _ _ _ _ _ us hl=>match us,hl with | [_,_],_=>rfl) ?a ?l ?c ?k
   (case a=>k_is);(case l=>k_is);(case c=>k_is);(case k=>k_is)
  obtain ⟨_,_,gE⟩:=gE
  have ji:∃ f fd,Def (L2.KOf KX) mg "_law_word" My.zp ["_law_feed_here","_law_most","_law_great"] f fd:=by
   dsimp only [L2.KOf];refine' iK KX G (fun _ _ _ _ _ _ us hl=>match us,hl with | [_,_,_],_=>rfl) ?a ?l ?c ?k
   (case a=>k_is);(case l=>k_is);(case c=>k_is);(case k=>k_is)
  obtain ⟨_,_,ji⟩:=ji
  have eW:∃ f fd,Def (L2.KOf KX) mg "_law_is_apart" My.C0 ["_law_feed_here","_law_one","_law_other","_law_chart"] f fd:=by
   dsimp only [L2.KOf];refine' iK KX G (fun _ _ _ _ _ _ us hl=>match us,hl with | [_,_,_,_],_=>rfl) ?a ?l ?c ?k
   (case a=>k_is);(case l=>k_is);(case c=>k_is);(case k=>k_is)
  obtain ⟨_,_,eW⟩:=eW
  have oe:∃ f fd,Def (L2.KOf KX) mg "law" My.Fq ["_law_script"] f fd:=by
   dsimp only [L2.KOf];refine' iK KX G (fun _ _ _ _ _ _ us hl=>match us,hl with | [_],_=>rfl) ?a ?l ?c ?k
   (case a=>k_is);(case l=>k_is);(case c=>k_is);(case k=>k_is)
  obtain ⟨_,_,oe⟩:=oe
  have e0:=hmg.symm.trans oe.m
  cases e0
  exact ⟨_,oe.sf,fun base _ _=>L4.wV (My.yr T kP nz ja jb fO j4 iG gy j5 gA fP dZ eV kQ jc j6 nA kR jd gB lV lW iH fQ iI j7 j8 oO je gC fR j9 jf jg ka gD kc jh gE ji eW oe) fun ns hn=>let ⟨_,st,e,h⟩:=My.rA ns hn;⟨st,h ▸ e⟩⟩
 case S=>exact fun K H a ns hl hO hS=>⟨a,ns,rfl,hS.script hO,hl,fun _=>rfl⟩
 case C=>exact fun _ _ _ _ z=>z
