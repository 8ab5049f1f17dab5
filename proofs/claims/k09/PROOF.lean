import PyProof.Rows.All
import Wide.All
import OpenK.AllK
import Wide.FinOn
import Lean
import PyProof.EqAt
import PyProof.EqKinds
import PyProof.TupleCall
import PyProof.DictIter
import PyProof.EnumMake
import KE.KSortTup
import KE.KDictLaws
import KE.KDictSum
import KE.KIsAll
import PyProof.ExcInit
import PyProof.NsDelKeeps
import PyProof.ExcBaseAll.ValueError
import OpenK.KOwn
import PyProof.ExcAttrAll.ValueError
import PyProof.StrLawsTight
import KE.KIntText
import PyProof.MinMaxWalk
import PyProof.WalkInts
import PyProof.InstStoreFacts
import PySem.Challenge.RW_shearfloor_k09_texts_of_no_floor
set_option Elab.async false
set_option linter.all false
set_option compiler.extract_closed false
set_option maxRecDepth 100000
set_option maxHeartbeats 4000000
set_option genSizeOf false
set_option bootstrap.genMatcherCode false
noncomputable section
section
local macro_rules|`(command|def $n:declId $s:optDeclSig $v:declVal)=>`(theorem $n:declId $(⟨Lean.mkNode ``Lean.Parser.Command.declSig #[s.raw[0],s.raw[1][0]]⟩):declSig $v:declVal)
local macro_rules|`(command|abbrev $n:declId $s:optDeclSig $v:declVal)=>`(noncomputable def $n:declId $s:optDeclSig $v:declVal)
local macro_rules|`(⋯)=>`(by lk)
local macro_rules|`(∅)=>`(by decide)
local macro_rules|`(tactic|lk)=>`(tactic|first|lia|omega)
abbrev S8:=@List.length_map
abbrev S9:=@PySem.Heap.get?_push_of_some
abbrev Tb:=@Bool.false_ne_true
abbrev Tc:=@Nat.le_refl
abbrev Td:=@List.length_append
abbrev Te:=@List.mem_cons_self
abbrev Tf:=@List.length_cons
abbrev Tg:=@List.mem_cons_of_mem
abbrev Ti:=@List.getElem?_eq_some_iff
abbrev Tj:=@List.getElem?_eq_getElem
abbrev To:=@PySem.Heap.get?_push_size
abbrev Tp:=@List.mem_cons
abbrev Tq:=@Option.some.inj
abbrev Ts:=@PySem.Heap.lt_size
abbrev Tv:=@List.size_toArray
abbrev Tw:=@List.mem_append
abbrev Tx:=@List.count_append
abbrev Tz:=@Bool.and_eq_true
abbrev TB:=@List.getElem?_set_self
abbrev TC:=@List.getElem?_map
abbrev TF:=@Nat.le_trans
abbrev TH:=@Nat.lt_of_lt_of_le
abbrev TJ:=@List.mem_append_right
abbrev TK:=@List.mem_singleton
abbrev TL:=@List.mem_of_getElem?
abbrev TM:=@Option.map_eq_some_iff
abbrev TN:=@List.map_append
abbrev TQ:=@List.getElem?_set_ne
abbrev TR:=@List.not_mem_nil
abbrev TU:=@List.getElem?_append_right
abbrev TV:=@List.getD_eq_getElem?_getD
abbrev TX:=@List.getElem?_append_left
abbrev TY:=@PySem.Heap.get?_update_other
abbrev T5:=@List.append_nil
abbrev T6:=@List.mem_map
abbrev T7:=@Nat.ne_of_lt
abbrev T8:=@List.length_set
abbrev T9:=@Int.toNat_natCast
abbrev Ua:=@Option.bind_eq_some_iff
abbrev Ub:=@List.length_take
abbrev Uc:=@PySem.Heap.get?_update_self
abbrev Ud:=@List.getElem?_eq_none_iff
abbrev Ue:=@List.take_succ_eq_append_getElem
abbrev Ug:=@List.contains_iff_mem
abbrev Uh:=@Array.getElem?_eq_some_iff
abbrev Ui:=@List.mem_append_left
abbrev Uj:=@List.length_nil
abbrev Uk:=@List.lookup_cons
abbrev Ul:=@Option.bind_some
abbrev Um:=@List.map_cons
abbrev Uo:=@List.map_map
abbrev Up:=@PySem.Heap.size_push
abbrev Uq:=@Nat.zero_le
abbrev Ur:=@Array.getElem?_setIfInBounds_ne
abbrev Us:=@Nat.lt_succ_self
abbrev Ut:=@List.mem_range
abbrev Uu:=@Nat.toDigits_of_lt_base
abbrev Uv:=@List.append_assoc
abbrev Uw:=@Int.toNat_of_nonneg
abbrev Ux:=@List.nodup_cons
abbrev Uy:=@Option.isSome_iff_exists
abbrev Uz:=@List.map_take
abbrev UA:=@List.eq_nil_of_length_eq_zero
abbrev UB:=@List.getElem?_replicate
abbrev UC:=@List.length_drop
abbrev UD:=@Nat.lt_of_le_of_lt
abbrev UE:=@Array.append_empty
abbrev UG:=@Bool.eq_iff_iff
abbrev UH:=@List.length_replicate
abbrev UI:=@List.append_eq_append_iff
abbrev UJ:=@Nat.le_of_lt
abbrev UK:=@List.getElem_mem
abbrev UL:=@Nat.le_add_right
abbrev UM:=@List.prefix_refl
abbrev UN:=@Array.length_toList
abbrev UO:=@Nat.lt_irrefl
abbrev UP:=@List.map_drop
abbrev UQ:=@Nat.not_lt_zero
abbrev UR:=@Int.emod_lt_of_pos
abbrev US:=@List.drop_eq_nil_of_le
abbrev UT:=@List.reverse_cons
abbrev UU:=@Nat.ne_of_gt
abbrev UW:=@List.length_singleton
abbrev UX:=@List.all_eq_true
abbrev UY:=@List.getElem_of_mem
abbrev UZ:=@Int.emod_nonneg
abbrev U0:=@List.contains_cons
abbrev U1:=@List.count_eq_zero
abbrev U2:=@List.Perm.refl
abbrev U3:=@List.getElem?_cons_zero
abbrev U4:=@List.pairwise_lt_range
abbrev U5:=@List.take_of_length_le
abbrev U6:=@List.cons.inj
abbrev U7:=@Nat.le_of_not_lt
abbrev U8:=@List.take_length
abbrev U9:=@Nat.le_of_ble_eq_true
abbrev Va:=@List.take_append_drop
abbrev Vb:=@PySem.Heap.get?_none_of_le
abbrev Vc:=@List.of_mem_zip
abbrev Vd:=@List.forIn_cons
abbrev Ve:=@List.perm_cons_erase
abbrev Vf:=@List.mem_erase_of_ne
abbrev Vg:=@Nat.zero_add
abbrev Vh:=@Nat.sub_self
abbrev Vi:=@List.count_cons_self
abbrev Vj:=@List.filterMap_cons
abbrev Vk:=@List.map_congr_left
abbrev Vl:=@List.length_reverse
abbrev Vm:=@List.forIn_nil
abbrev Vn:=@Nat.le_succ
abbrev Vo:=@List.map_id
abbrev Vp:=@List.prefix_append
abbrev Vq:=@List.IsInfix.trans
abbrev Vr:=@Bool.not_eq_true'
abbrev Vt:=@List.pairwise_map
abbrev Vu:=@List.nodup_append
abbrev Vy:=@List.getElem_inj
abbrev VA:=@List.any_eq_true
abbrev VD:=@Nat.lt_trans
abbrev VE:=@List.map_reverse
abbrev VF:=@Int.zero_add
abbrev VG:=@List.map_set
@[reducible]def Zfr:=PySem.W.Frag
namespace L2
open PySem PySem.Spec PyProof.Rows
@[reducible]def Key:=Sum Int Str
abbrev sy:Key->Value->Bool
 |.inl k,v=>Value.isInt k v
 |.inr x,v=>Value.isStrOf x v
abbrev Ep(w:World):Key->Int
 |.inl k=>hashInt k
 |.inr x=>hashStr w x
def qW:∀{k:Key} {v:Value},sy k v=true->(∃i t,k=Sum.inl i/\v=Value.int i t)\/(∃x t,k=Sum.inr x/\v=Value.str x t)
 |.inl i,v,h=>by
  obtain⟨t,e⟩:=Value.isInt_shape (k:=i) (v:=v) h;exact .inl ⟨i,t,rfl,e⟩
 |.inr x,v,h=>by
  obtain⟨t,e⟩:=Value.isStrOf_shape (x:=x) (v:=v) h;exact .inr ⟨x,t,rfl,e⟩
def uk(a b:Int):decide ((Sum.inl a:Key)=Sum.inl b)=(a == b):=by by_cases e:a=b;subst e;simp;have h:¬(Sum.inl a:Key)=Sum.inl b:=λq=>e (Sum.inl.inj q);rw[decide_eq_false h];exact(beq_eq_false_iff_ne.mpr e).symm
def um(a b:Str):decide ((Sum.inr a:Key)=Sum.inr b)=decide (a=b):=by by_cases e:a=b;subst e;simp;have h:¬(Sum.inr a:Key)=Sum.inr b:=λq=>e (Sum.inr.inj q);rw[decide_eq_false h,decide_eq_false e]
def uo(a:Int)(b:Str):decide ((Sum.inl a:Key)=Sum.inr b)=false:=decide_eq_false (λq=>nomatch q)
def uq(a:Str)(b:Int):decide ((Sum.inr a:Key)=Sum.inl b)=false:=decide_eq_false (λq=>nomatch q)
abbrev ou(prog:Program)(w:World):PySem.KeyKind prog w Key where
 is:=sy
 hash:=Ep w
 inj:=λv a b ha hb=>by
  rcases qW ha with⟨i,t,rfl,rfl⟩|⟨x,t,rfl,rfl⟩
  rcases qW hb with⟨j,u,rfl,e⟩|⟨y,u,rfl,e⟩
  injection e with e1 _;rw[e1];exact nomatch e;rcases qW hb with⟨j,u,rfl,e⟩|⟨y,u,rfl,e⟩
  exact nomatch e;injection e with e1 _;rw[e1]
 byValue:=λk v h=>by
  rcases qW h with⟨i,t,rfl,rfl⟩|⟨x,t,rfl,rfl⟩<;>rfl
 pyHash:=λhv h=>by
  rcases qW hv with⟨i,t,rfl,rfl⟩|⟨x,t,rfl,rfl⟩
  exact wpAny_pyHash_int h;exact wpAny_pyHash_str h
 eqBool:=λhu hv h=>by
  rcases qW hu with⟨i,t,rfl,rfl⟩|⟨x,t,rfl,rfl⟩
  rcases qW hv with⟨j,u,rfl,rfl⟩|⟨y,u,rfl,rfl⟩
  rw[uk]at h;exact wpAny_eqBool_int h;rw[uo]at h;exact SeqAt.EqAt.int_str i t y u _ _ _ _ h;rcases qW hv with⟨j,u,rfl,rfl⟩|⟨y,u,rfl,rfl⟩
  rw[uq]at h;exact SeqAt.EqAt.str_int x t j u _ _ _ _ h;rw[um]at h;exact wpAny_eqBool_str h
 «strs»:=λk x t v h=>by
  rcases qW h with⟨i,u,rfl,e⟩|⟨y,u,rfl,e⟩
  exact nomatch e;injection e with e1 _;subst e1;cases v<;>rfl
inductive V where
 |non|bl (b:Bool)|int (i:Int)|str (x:Str)|pB (b:Array UInt8)|Cw (b:UInt64)|ref (a:Addr)|ty (n:String)
 deriving DecidableEq
abbrev RelV:V->Value->Prop
 |.non,u=>u=Value.none
 |.bl b,u=>u=Value.bool b
 |.int i,u=>∃t,u=Value.int i t
 |.str x,u=>∃t,u=Value.str x t
 |.pB b,u=>∃t,u=Value.bytes b t
 |.Cw b,u=>∃t,u=Value.float b t
 |.ref a,u=>u=Value.ref a
 |.ty n,u=>u=Value.type n
@[reducible]def Vals:List V->List Value->Prop:=Paired RelV
def Vals.length{xs:List V}{us:List Value}(r:Vals xs us):xs.length=us.length:=Paired.length r
def Vals.get:∀{xs:List V} {us:List Value} {i:Nat} {x:V},Vals xs us->xs[i]?=some x->∃u,us[i]?=some u/\RelV x u
 |_,_,_,_,.nil,e=>by simp at e
 |_,_,0,_,.cons r _,e=>by simp at e;subst e;exact⟨_,rfl,r⟩
 |_,_,i+1,x,.cons _ t,e=>by
  obtain⟨u,h1,h2⟩:=Vals.get (i:=i) (x:=x) t (by simpa using e);exact⟨u,by simpa using h1,h2⟩
def Vals.set{x:V}{u:Value}(r:RelV x u):∀{xs:List V} {us:List Value} (i:Nat),Vals xs us->Vals (xs.set i x) (us.set i u)
 |_,_,_,.nil=>.nil
 |_,_,0,.cons _ t=>.cons r t
 |_,_,i+1,.cons q t=>.cons q (Vals.set r i t)
def Vals.append:∀{xs ys:List V} {us ws:List Value},Vals xs us->Vals ys ws->Vals (xs ++ ys) (us ++ ws)
 |_,_,_,_,.nil,s=>s
 |_,_,_,_,.cons r t,s=>.cons r (Vals.append t s)
def Vals.take:∀{xs:List V} {us:List Value} (n:Nat),Vals xs us->Vals (xs.take n) (us.take n)
 |_,_,0,_=>.nil
 |_,_,_+1,.nil=>.nil
 |_,_,n+1,.cons r t=>.cons r (Vals.take n t)
def Vals.drop:∀{xs:List V} {us:List Value} (n:Nat),Vals xs us->Vals (xs.drop n) (us.drop n)
 |_,_,0,r=>r
 |_,_,_+1,.nil=>.nil
 |_,_,n+1,.cons _ t=>Vals.drop n t
abbrev nA:Option V->Option Value->Prop
 |some v,some u=>RelV v u
 |none,none=>True
 |_,_=>False
abbrev KV{S:Type}:List (S×V)->List (S×Value)->Prop:=Paired λ(p:S×V) (q:S×Value)=>p.1=q.1/\RelV p.2 q.2
abbrev kV:Key->V
 |.inl i=>.int i
 |.inr x=>.str x
set_option genInjectivity false in
inductive HO where
 /-- a list -/
 |lst (xs:List V)
 /-- a tuple (never changes) -/
 |tup (xs:List V)
 /-- a dict whose keys are ints and texts;one whose keys are tuples of ints and texts (the empty one is both) -/
 |dK (kvs:List (Key×V))|dT (kvs:List (List Key×V))
 /-- a set of ints: its members,its size -/
 |set (S:Int->Bool) (n:Nat)
 /-- an instance of the class at C,its dict at dx,its attributes -/
 |ins (C dx:Addr) (fs:List (Str×V))
 /-- the dict of the instance at x -/
 |own (x:Addr)
 /-- the dict of an exception -/
 |xd (fs:List (Str×V))
 /-- a bound method,f of x -/
 |met (f x:Addr)
 /-- a range object lo,lo+1,.. below hi -/
 |fR (lo hi:Int)
 /-- a thing that is known to the object (the script;a dict while a loop walks it): read,never written while it is so -/
 |kM (o:Obj) (u:HO)
 /-- a code yr table -/
 |sA (ps:Array Value)
 /-- any other thing,by what is true of its one object (a def of HI own: Mq a S n:=HO.ext λh=>..) -/
 |ext (z:Heap->Prop)
@[reducible]def Hp:=Addr->Option HO
abbrev upd(H:Hp)(a:Addr)(o:HO):Hp:=λb=>if b=a then some o else H b
def h8{H:Hp}{a:Addr}{o:HO}:upd H a o a=some o:=by unfold upd;rw[if_pos rfl]
def b8{H:Hp}{a b:Addr}{o:HO}(h:b≠a):upd H a o b=H b:=by unfold upd;rw[if_neg h]
def sC{H:Hp}{a:Addr}{o u:HO}:upd (upd H a o) a u=upd H a u:=by funext b;unfold upd;split<;>rfl
def sD{H:Hp}{a b:Addr}{o u:HO}(h:H a=some o)(h':H b=some u)(d:o≠u):a≠b:=by intro e;subst e;rw[h]at h';exact d (Tq h')
def ur{H:Hp}{a b:Addr}{o:HO}(h:H a=some o)(h':H b=none):a≠b:=by intro e;subst e;rw[h]at h';cases h'
abbrev lq(h:Heap)(a:Addr)(its:Array Value):Prop:=∃o,h.get? a=some o/\o.cls=.type "tuple" /\ o.dict=none/\∃n,o.data=.seq its n
def lq.tup{h:Heap}{a:Addr}{its:Array Value}(x:lq h a its):IsTup h a its:=let ⟨o,e,c,_,n,d⟩:=x;⟨o,e,c,n,d⟩
def lq.new(h:Heap)(its:Array Value):lq (h.push { cls:=.type "tuple",data:=.seq its }) h.objs.size its:=⟨_,To _ rfl,rfl,rfl,_,rfl⟩
section
variable (P:Program)(w:World)
abbrev bz(H:Hp)(h:Heap)(a:Addr):HO->Prop
 |.lst xs=>xs.length<=sizeLine/\∃(its:List Value) (n:Nat),Vals xs its/\h.get? a=some { cls:=.type "list",data:=.seq its.toArray n }
 |.tup xs=>xs.length<=sizeLine/\∃its:List Value,Vals xs its/\lq h a its.toArray
 |.dK kvs=>kvs.length<=sizeLine/\(a == sysModules)=false/\∃vs,KV kvs vs/\h.DictOf (ou P w) a vs
 | .dT kvs=>kvs.length<=sizeLine/\(a == sysModules)=false/\∃ xs:List (List Key×Addr×Value),
   Paired (λ(p:List Key×V) (q:List Key×Addr×Value)=>p.1=q.1/\H q.2.1=some (.tup (p.1.map kV))/\RelV p.2 q.2.2) kvs xs /\
   ∃o es ep,h.get? a=some o/\o.ExactDict/\o.data=.dict es ep/\es.toList=xs.map (entryOfKey (tupleKind (ou P w)))/\(xs.map (·.1)).Nodup
 |.set S n=>h.SetOf (intKind P w) a S n
 | .ins C dx fs=>H dx=some (.own a)/\fs.length<=1000/\dx≠a/\h.get? a=some (PySem.W.instObj C dx) /\
   ∃mA,h.Ns1 dx mA/\(∀f,nA (fs.lookup f) (mA f))/\PySem.Within mA (fs.map (·.1))
 |.own _=>∃o,h.get? a=some o
 |.xd fs=>∃mA,h.Ns1 a mA/\∀f,nA (fs.lookup f) (mA f)
 |.fR lo hi=>∃t u v,h.get? a=some { cls:=.type "range",data:=.fields #[.int lo t,.int hi u,.int 1 v] }
 |.kM o u=>h.get? a=some o/\bz H h a u
 |.sA ps=>h.get? a=some { cls:=.none,data:=.fields ps }
 |.met f x=>h.get? a=some (PySem.W.methodObj (.ref f) (.ref x))
 |.ext z=>z h/\(∃o,h.get? a=some o)/\∀h1 h2:Heap,z h1->(∀o,h1.get? a=some o->h2.get? a=some o)->z h2
abbrev jd(H:Hp)(h:Heap):Prop:=∀a o,H a=some o->bz P w H h a o
end
section
variable {P:Program}{w:World}{H H':Hp}{h h':Heap}{a:Addr}{o:HO}
def bz.lt(x:bz P w H h a o):a<h.objs.size:=by
 cases o with
 |lst xs=>obtain⟨_,_,_,_,e⟩:=x;exact Ts e
 |tup xs=>obtain⟨_,_,_,_,e,_⟩:=x;exact Ts e
 |dK kvs=>obtain⟨_,_,_,_,o,_,_,e,_⟩:=x;exact Ts e
 |dT kvs=>obtain⟨_,_,_,_,o,_,_,e,_⟩:=x;exact Ts e
 |set S n=>obtain⟨o,_,_,_,e,_⟩:=x;exact Ts e
 |ins C dx fs=>obtain⟨_,_,_,e,_⟩:=x;exact Ts e
 |own y=>obtain⟨_,e⟩:=x;exact Ts e
 |xd fs=>obtain⟨_,⟨_,_,_,e,_⟩,_⟩:=x;exact Ts e
 |fR lo hi=>obtain⟨_,_,_,e⟩:=x;exact Ts e
 |kM ob u=>obtain⟨e,_⟩:=x;exact Ts e
 |sA ps=>exact Ts (show h.get? a=some _ from x)
 |met f y=>exact Ts (show h.get? a=some _ from x)
 |ext z=>obtain⟨_,⟨_,e⟩,_⟩:=x;exact Ts e
def Paired.yt{J U:Type}{F G:J->U->Prop}:∀{l₁:List J} {l₂:List U},Paired F l₁ l₂->(∀a b,F a b->G a b)->Paired G l₁ l₂
 |_,_,.nil,_=>.nil
 |_,_,.cons r t,f=>.cons (f _ _ r) (Paired.yt t f)
def bz.stay(x:bz P w H h a o)(k:∀b u,(b=a\/H b=some (.own a))->h.get? b=some u->h'.get? b=some u)
  (ho:∀b,H b=some (.own a)->H' b=some (.own a)) (ht:∀b xs,H b=some (.tup xs)->H' b=some (.tup xs)):bz P w H' h' a o:=by
 induction o with
 |lst xs=>obtain⟨z,its,n,r,e⟩:=x;exact⟨z,its,n,r,k _ _ (.inl rfl) e⟩
 |tup xs=>obtain⟨z,its,r,ob,e,c⟩:=x;exact⟨z,its,r,ob,k _ _ (.inl rfl) e,c⟩
 |dK kvs=>obtain⟨z,y,vs,r,ob,es,ep,e,c⟩:=x;exact⟨z,y,vs,r,ob,es,ep,k _ _ (.inl rfl) e,c⟩
 |dT kvs =>
  obtain⟨z,y,xs,r,ob,es,ep,e,c⟩:=x;exact⟨z,y,xs,Paired.yt r λp q z=>⟨z.1,ht _ _ z.2.1,z.2.2⟩,ob,es,ep,k _ _ (.inl rfl) e,c⟩
 |set S n=>obtain⟨ob,es,ep,t,e,c⟩:=x;exact⟨ob,es,ep,t,k _ _ (.inl rfl) e,c⟩
 |ins C dx fs =>
  obtain⟨d,z,ne,e,mA,⟨od,es,ep,e2,c⟩,r⟩:=x;exact⟨ho _ d,z,ne,k _ _ (.inl rfl) e,mA,⟨od,es,ep,k _ _ (.inr d) e2,c⟩,r⟩
 |own y=>obtain⟨ob,e⟩:=x;exact⟨ob,k _ _ (.inl rfl) e⟩
 |xd fs=>obtain⟨mA,⟨od,es,ep,e,c⟩,r⟩:=x;exact⟨mA,⟨od,es,ep,k _ _ (.inl rfl) e,c⟩,r⟩
 |fR lo hi=>obtain⟨t,u,v,e⟩:=x;exact⟨t,u,v,k _ _ (.inl rfl) e⟩
 |kM ob u ih=>obtain⟨e,q⟩:=x;exact⟨k _ _ (.inl rfl) e,ih q⟩
 |sA ps =>
  have e:h.get? a=some { cls:=.none,data:=.fields ps }:=x;show h'.get? a=some { cls:=.none,data:=.fields ps };exact k a _ (.inl rfl) e
 |met f y =>
  have e:h.get? a=some (PySem.W.methodObj (.ref f) (.ref y)):=x;show h'.get? a=some (PySem.W.methodObj (.ref f) (.ref y));exact k a _ (.inl rfl) e
 |ext φ=>obtain⟨p,⟨o,e⟩,st⟩:=x;exact⟨st _ _ p λo q=>k _ _ (.inl rfl) q,⟨o,k _ _ (.inl rfl) e⟩,st⟩
def jd.lt(x:jd P w H h)(e:H a=some o):a<h.objs.size:=(x a o e).lt
def jd.fresh(x:jd P w H h)(e:h.objs.size<=a):H a=none:=by
 cases q:H a with
 |none=>rfl
 |some u=>exact absurd (TH (x.lt q) e) (UO _)
def jd.kept(x:jd P w H h)(k:∀b u,h.get? b=some u->h'.get? b=some u):jd P w H h':=λa o e =>
 (x a o e).stay (λb u _ q=>k b u q) (λ_ q=>q) λ_ _ q=>q
def jd.laid(x:jd P w H h)(k:∀b u,h.get? b=some u->h'.get? b=some u)(hp:h.objs.size<=a)(new:bz P w (upd H a o) h' a o):jd P w (upd H a o) h':=λb u e=>by
 have hn:=x.fresh hp;by_cases hb:b=a;subst hb;rw[h8]at e;cases e;exact new;rw[b8 hb]at e;exact(x b u e).stay (λc v _ q=>k c v q) (λc q=>by rw[b8 (ur q hn)];exact q) λc xs q=>by rw[b8 (ur q hn)];exact q
end
abbrev Rd(H:Hp)(a:Addr)(u:HO):Prop:=H a=some u\/∃o,H a=some (.kM o u)
def Rd.ok{P:Program}{w:World}{H:Hp}{h:Heap}{a:Addr}{u:HO}(r:Rd H a u)(x:jd P w H h):bz P w H h a u:=by
 rcases r with r|⟨o,r⟩
 exact x a u r;obtain⟨_,q⟩:=x a _ r;exact q
abbrev Cy:Option HO->Prop
 |some (.lst _)=>True
 |some (.dK _)=>True
 |some (.dT _)=>True
 |some (.set _ _)=>True
 |some (.ins _ _ _)=>True
 |some (.ext _)=>True
 |_=>False
section
variable {P:Program}{w:World}{H:Hp}{h h':Heap}{x e:Addr}{o':HO}
def jd.write(ok:jd P w H h)(mu:Cy (H x))(he:e=x\/H e=some (.own x))(k:∀b u,b≠e->h.get? b=some u->h'.get? b=some u)(xJ:∃u,h'.get? e=some u)
  (new:bz P w (upd H x o') h' x o'):jd P w (upd H x o') h':=λb u q=>by
 have yu:∀c y,H c=some (.own y)->c≠x:=λc y r z=>by subst z;rw[r]at mu;exact mu
 have Er:∀c xs,H c=some (.tup xs)->c≠x:=λc xs r z=>by subst z;rw[r]at mu;exact mu
 by_cases hb:b=x;subst hb;rw[h8]at q;cases q;exact new;rw[b8 hb]at q;by_cases uu:b=e;have q':H b=some (.own x):=by
  rcases he with z|z
  exact absurd (uu.trans z) hb;rw[uu];exact z
 rw[q]at q';cases q';obtain⟨v,hv⟩:=xJ;exact⟨v,by rw[uu];exact hv⟩;refine(ok b u q).stay (λc v hc r=>k c v ?_ r) (λc r=>by rw[b8 (yu c b r)];exact r) λc xs r=>by rw[b8 (Er c xs r)];exact r
 rcases hc with rfl|hc
 exact uu;rintro rfl;rcases he with z|z
 exact yu c b hc z;rw[hc]at z;cases z;exact hb rfl
end
structure Un(fs ex:List Addr)(H H':Hp)(h h':Heap):Prop where
 keep:∀b o,h.get? b=some o->H b=none->b ∉ fs->b ∉ ex->h'.get? b=some o
 slot:∀b o,h.get? b=some o->H b=none->b∈fs->b ∉ ex->∃sl,h'.get? b=some { o with slots:=sl }
 free:∀b o,h.get? b=some o->H b=none->b ∉ ex->H' b=none
 there:∀b o,h.get? b=some o->b ∉ ex->∃o',h'.get? b=some o'
 tups:∀b xs,H b=some (.tup xs)->H' b=some (.tup xs)
 kF:∀b o u,H b=some (.kM o u)->H' b=some (.kM o u)
 lr:∀b ps,H b=some (.sA ps)->∃more,H' b=some (.sA (ps ++ more))
section
variable {fs fs' ex ex':List Addr}{H H1 H2:Hp}{h h1 h2 h':Heap}{a x e:Addr}{o:HO}
def Un.any(u:Un fs ex H H1 h h1){b:Addr}{ob:Obj}(q:h.get? b=some ob)(n:H b=none)(hx:b ∉ ex):∃sl,h1.get? b=some { ob with slots:=sl }:=by by_cases hb:b∈fs;exact u.slot b ob q n hb hx;exact⟨ob.slots,u.keep b ob q n hb hx⟩
def Un.kept(k:∀b u,h.get? b=some u->h'.get? b=some u):Un fs ex H H h h' :=
 ⟨λb ob q _ _ _=>k b ob q,λb ob q _ _ _=>⟨ob.slots,k b ob q⟩,λ_ _ _ n _=>n,λb ob q _=>⟨ob,k b ob q⟩,λ_ _ q=>q,λ_ _ _ q=>q,λ_ ps q=>⟨#[],by rw[q];simp⟩⟩
def Un.refl:Un fs ex H H h h:=Un.kept λ_ _ q=>q
def Un.laid(k:∀b u,h.get? b=some u->h'.get? b=some u)(hp:h.objs.size<=a)(hn:H a=none):Un fs ex H (upd H a o) h h' where
 keep:=λb u q _ _ _=>k b u q
 slot:=λb u q _ _ _=>⟨u.slots,k b u q⟩
 free:=λb u q n _=>by rw[b8 (T7 (TH (Ts q) hp))];exact n
 there:=λb u q _=>⟨u,k b u q⟩
 tups:=λb xs q=>by rw[b8 (ur q hn)];exact q
 kF:=λb u xs q=>by rw[b8 (ur q hn)];exact q
 lr:=λb ps q=>⟨#[],by rw[b8 (ur q hn),q];simp⟩
def Un.write(mu:Cy (H x))(he:e=x\/H e=some (.own x))(k:∀b u,b≠e->h.get? b=some u->h'.get? b=some u)(xJ:∃u,h'.get? e=some u):Un fs ex H (upd H x o) h h':=by
 have hx:∀b,H b=none->b≠x:=λb n z=>by subst z;rw[n]at mu;exact mu
 have hb:∀b,H b=none->b≠e:=λb n z=>by
  subst z;rcases he with r|r
  exact hx b n r;rw[n]at r;cases r
 have hm:∀b u,H b=some u->¬Cy (some u)->b≠x:=λb u q nm z=>by subst z;rw[q]at mu;exact nm mu
 refine⟨λb u q n _ _=>k b u (hb b n) q,λb u q n _ _=>⟨u.slots,k b u (hb b n) q⟩,λb u q n _=>by rw[b8 (hx b n)];exact n,λb u q _=>?_,
  λb xs q=>by rw[b8 (hm b _ q λz=>z)];exact q,λb u xs q=>by rw[b8 (hm b _ q λz=>z)];exact q,λb ps q=>⟨#[],by rw[b8 (hm b _ q λz=>z),q];simp⟩⟩
 by_cases uu:b=e;subst uu;exact xJ;exact⟨u,k b u uu q⟩
end
abbrev Cz(h:Heap)(H:Hp):List Addr:=(List.range h.objs.size).filter λa=>(H a).isSome
abbrev lu(h:Heap)(H:Hp):Heap:=PySem.W.hideAll h (Cz h H)
def Mr(h:Heap)(H:Hp):(lu h H).objs.size=h.objs.size:=PySem.W.hideAll_size _ _
def Ms{h:Heap}{H:Hp}{b:Addr}{o:Obj}(e:h.get? b=some o)(n:H b=none):(lu h H).get? b=some o :=
 PySem.W.hideAll_get _ e λhm=>by
  have q:(H b).isSome=true:=(List.mem_filter.mp hm).2;rw[n]at q;simp at q
def Mt{h:Heap}{H:Hp}{b:Addr}{o:Obj}(e:(lu h H).get? b=some o):h.get? b=some o/\H b=none:=by
 have e':h.get? b=some o:=PySem.W.of_hideAll (Cz h H) e;refine⟨e',?_⟩;cases q:H b with
 |none=>rfl
 |some x =>
  have hm:b∈Cz h H:=List.mem_filter.mpr ⟨Ut.mpr (Ts e'),by simp[q]⟩;have z:(lu h H).get? b=none:=PySem.W.hideAll_none (Cz h H) hm;rw[z]at e;cases e
abbrev qX(g h:Heap)(L:Addr):List (Addr×Obj):=(List.range h.objs.size).filterMap λa=>if a=L\/(g.get? a).isSome=true then none else(h.get? a).map λo=>(a,o)
abbrev rest(g h:Heap)(L d:Addr):List (Addr×Obj):=(qX g h L).filter λp=>decide (p.1≠d)
structure Mod(K:Zfr)(mg:Str->Option Value)(base:Heap):Prop where
 qY:K.In base
 glob:base.Ns mainGlobals mg
 blt:∃mb,base.Ns builtinsNs mb/\∀x:Str,x≠"__name__" -> mb x=bootBuiltins x
 nolimit:base.NoLimit
set_option genInjectivity false in
structure Cx where
 prog:Program
 w:World
 K:Zfr
 mg:Str->Option Value
 base:Heap
 A:Around
 N:List Str
 s₀:Shared
 H₀:Hp
 env:Env
 outer:List Env
 stack:List Env
 ex:List Addr
 fn:Str->Bool
 calm:Bool
 pn:List (Addr×Obj)
 xe:Value->Shared->Prop
abbrev frs(l:List Env):List Addr:=l.filterMap (·.frame)
@[reducible]def Cx.fs(X:Cx):List Addr:=frs X.outer
abbrev Es(sc:Scope)(x:Str):Prop:=sc.names.lookup x=some .local\/sc.names.lookup x=some .cell\/sc.names.lookup x=some .free
abbrev Loc(sc:Scope)(x:Str):Prop:=sc.names.lookup x=some .local\/sc.names.lookup x=some .cell
abbrev Look(env:Env)(h:Heap)(m:Str->Option Value)(x:Str)(u:Value):Prop :=
 (env.kindOf x=some .local/\m x=some u)\/((env.kindOf x=some .cell\/env.kindOf x=some .free)/\∃c,env.cells.lookup x=some c/\h.IsCell c (some u))
structure Cx.Ok(X:Cx):Prop where
 mod:Mod X.K X.mg X.base
 kind:X.env.scope.kind=.function
 glob:X.env.globals=mainGlobals
 blt:X.env.builtins=builtinsNs
 above:X.s₀.heap.objs.size<=X.env.locals
 inj:∀x y c,X.env.cells.lookup x=some c->X.env.cells.lookup y=some c->x=y
 has:∀x,(X.env.kindOf x=some .cell\/X.env.kindOf x=some .free)->∃c,X.env.cells.lookup x=some c
 qZ:∀x c,X.fn x=true->X.env.cells.lookup x=some c->X.s₀.heap.objs.size<=c
 hd:X.calm=true->X.A.handled=none
 frames:X.A.frames=some X.stack
 stk:X.stack=X.outer\/(X.stack=X.env :: X.outer/\X.env.frame=some X.env.locals)
 xK:∀b∈X.ex,b≠X.env.locals/\∀x c,X.env.cells.lookup x=some c->c≠b
 bs:∀b o,X.base.get? b=some o->X.s₀.heap.get? b=some o/\X.H₀ b=none
 mU:X.base.objs.size<=X.s₀.heap.objs.size
 j3:∀b o,X.base.get? b=some o->b ∉ X.ex
 mq:∀b∈X.ex,b ∉ X.fs
 ia:X.s₀.heap.FunFrames X.base X.outer
 pC:∀b∈X.fs,X.H₀ b=none
structure Inv(X:Cx)(pins:List (Addr×Obj))(G:List (Option V))(H:Hp)(s:Shared):Prop where
 ok:X.Ok
 os:s.os=X.s₀.os
 bare:AllBare s.gens
 base:Un X.fs X.ex X.H₀ H X.s₀.heap s.heap
 loc:∃m,s.heap.Ns X.env.locals m/\∀(i:Nat) (x:Str) (v:V),X.N[i]?=some x->G[i]?=some (some v)->Es X.env.scope x->∃u,RelV v u/\Look X.env s.heap m x u
 cell:∀x c,X.env.cells.lookup x=some c->∃v,s.heap.IsCell c v
 free:H X.env.locals=none
 dR:∀x c,X.env.cells.lookup x=some c->H c=none
 pin:∀p∈X.pn ++ pins,s.heap.get? p.1=some p.2/\H p.1=none/\p.1≠X.env.locals/\p.1 ∉ X.fs/\∀v,p.2.data≠.cell v
 hok:jd X.prog X.w H s.heap
 len:G.length=X.N.length
section
variable {X:Cx}{pins:List (Addr×Obj)}{G:List (Option V)}{H H':Hp}{s:Shared}{h':Heap}
def Cx.Ok.Et(ok:X.Ok){b:Addr}{o:Obj}(e:X.base.get? b=some o):b ∉ X.fs:=λhb=>by
 have:=(ok.ia.mem hb).1;rw[e]at this;cases this
def Inv.bs(I:Inv X pins G H s):∀b o,X.base.get? b=some o->s.heap.get? b=some o/\H b=none:=λb o e =>
 ⟨I.base.keep b o (I.ok.bs b o e).1 (I.ok.bs b o e).2 (I.ok.Et e) (I.ok.j3 b o e),I.base.free b o (I.ok.bs b o e).1 (I.ok.bs b o e).2 (I.ok.j3 b o e)⟩
def Inv.bk(I:Inv X pins G H s):∀b o,X.base.get? b=some o->s.heap.get? b=some o:=λb o e=>(I.bs b o e).1
def Inv.mod(I:Inv X pins G H s):Mod X.K X.mg X.base:=I.ok.mod
def Inv.j4(I:Inv X pins G H s):X.K.In s.heap:=I.ok.mod.qY.keeps I.bk
def Inv.lt(I:Inv X pins G H s):X.env.locals<s.heap.objs.size:=let ⟨_,hn,_⟩:=I.loc;hn.lt
def Inv.sz(I:Inv X pins G H s):X.s₀.heap.objs.size<=s.heap.objs.size:=TF I.ok.above (UJ I.lt)
def Inv.yw(I:Inv X pins G H s){a:Addr}(h:s.heap.objs.size<=a):a ∉ X.fs:=λhb=>by
 obtain⟨_,o,ho,_⟩:=I.ok.ia.mem hb;exact absurd (TH (Ts ho) (TF I.sz h)) (UO _)
def Inv.pM(I:Inv X pins G H s):∀x c,X.env.cells.lookup x=some c->c≠X.env.locals:=λx c e z=>by
 obtain⟨v,o,ho,hd⟩:=I.cell x c e;obtain⟨m,⟨o',es,ep,ho',hd',_⟩,_⟩:=I.loc;rw[z,ho']at ho;cases ho;rw[hd']at hd;cases hd
def Inv.ia(I:Inv X pins G H s):s.heap.FunFrames X.base X.outer:=by
 have all:∀(l:List Env),(∀b∈frs l,b∈X.fs)->X.s₀.heap.FunFrames X.base l->s.heap.FunFrames X.base l:=by
  intro l
  induction l with
  |nil=>intro _ _;trivial
  |cons env r ih =>
   intro hs hl;obtain⟨hk,⟨L,o,hf,hn,ho,hd⟩,hr⟩:=hl;have hL:L∈X.fs:=hs L (by unfold frs;rw[Vj,hf];exact Te);obtain⟨sl,e⟩:=I.base.slot L o ho (I.ok.pC L hL) hL λz=>I.ok.mq L z hL;exact⟨hk,⟨L,_,hf,hn,e,hd⟩,ih (λb hb=>hs b (by unfold frs;rw[Vj,hf];exact Tg _ hb)) hr⟩
 exact all X.outer (λ_ hb=>hb) I.ok.ia
def Inv.stack(I:Inv X pins G H s):s.heap.FunFrames X.base X.stack:=by
 rcases I.ok.stk with e|⟨e,hf⟩
 rw[e];exact I.ia;rw[e];obtain⟨m,hn,_⟩:=I.loc;refine .cons (by rw[I.ok.kind];decide) hf hn ?_ I.ia;exact Vb (TF I.ok.mU I.ok.above)
def Inv.j5(I:Inv X pins G H s):∀b∈frs X.stack,b∈X.env.locals :: X.fs:=λb hb=>by
 rcases I.ok.stk with e|⟨e,hf⟩
 rw[e]at hb;exact Tg _ hb;rw[e]at hb;unfold frs at hb;rw[Vj,hf]at hb;exact hb
def Inv.lz(I:Inv X pins G H s):∀b∈frs X.stack,H b=none:=λb hb=>by
 rcases Tp.mp (I.j5 b hb)with e|hb
 rw[e];exact I.free;obtain⟨_,o,ho,_⟩:=I.ok.ia.mem hb;exact I.base.free b o ho (I.ok.pC b hb) λz=>I.ok.mq b z hb
def Inv.step{g':Array GenState}{t':Nat}{d':Drawn}{ch:List Addr}(I:Inv X pins G H s)
  (hch:∀b∈ch,(b∈X.ex\/X.s₀.heap.objs.size<=b)/\b≠X.env.locals/\(∀x c,X.env.cells.lookup x=some c->c≠b)/\∀p∈X.pn ++ pins,p.1≠b)
  (keep:∀b o,b≠X.env.locals->b ∉ X.fs->b ∉ ch->s.heap.get? b=some o->H b=none->h'.get? b=some o)
  (slot:∀b o,b≠X.env.locals->b∈X.fs->b ∉ ch->s.heap.get? b=some o->H b=none->∃sl,h'.get? b=some { o with slots:=sl }) (free:∀b o,b ∉ ch->s.heap.get? b=some o->H b=none->H' b=none)
  (there:∀b o,b ∉ ch->s.heap.get? b=some o->∃o',h'.get? b=some o')
  (tups:∀b xs,H b=some (.tup xs)->H' b=some (.tup xs)) (kF:∀b o u,H b=some (.kM o u)->H' b=some (.kM o u)) (lr:∀b ps,H b=some (.sA ps)->∃more,H' b=some (.sA (ps ++ more)))
  (ns:∀m,s.heap.Ns X.env.locals m->h'.Ns X.env.locals m) (hok:jd X.prog X.w H' h') (hg:AllBare g') :
  Inv X pins G H' { s with heap:=h',gens:=g',drawn:=d',toks:=t' }:=by
 have uv:∀b o,X.s₀.heap.get? b=some o->b≠X.env.locals:=λb o e=>T7 (TH (Ts e) I.ok.above);have CA:∀b o,X.s₀.heap.get? b=some o->b ∉ X.ex->b ∉ ch:=λb o e hx hb=>by
  rcases(hch b hb).1 with z|z
  exact hx z;exact absurd (TH (Ts e) z) (UO _)
 have cellK:∀x c,X.env.cells.lookup x=some c->∀v,s.heap.IsCell c v->h'.IsCell c v:=λx c e v ⟨o,ho,hd⟩=>by
  have yx:c ∉ ch:=λz=>(hch c z).2.2.1 x c e rfl;by_cases hc:c∈X.fs;obtain⟨sl,q⟩:=slot c o (I.pM x c e) hc yx ho (I.dR x c e);exact⟨_,q,hd⟩;exact⟨o,keep c o (I.pM x c e) hc yx ho (I.dR x c e),hd⟩
 refine⟨I.ok,I.os,hg,⟨λb o e n hb hx=>?_,λb o e n hb hx=>?_,λb o e n hx=>?_,λb o e hx=>?_,λb xs e=>tups b xs (I.base.tups b xs e),λb o xs e=>kF b o xs (I.base.kF b o xs e),λb ps e=>?_⟩,?_,λx c e=>?_,?_,λx c e=>?_,λp hp=>?_,hok,I.len⟩;exact keep b o (uv b o e) hb (CA b o e hx) (I.base.keep b o e n hb hx) (I.base.free b o e n hx);obtain⟨sl,e1⟩:=I.base.slot b o e n hb hx;obtain⟨Eu,e2⟩:=slot b _ (uv b o e) hb (CA b o e hx) e1 (I.base.free b o e n hx);exact⟨Eu,e2⟩;obtain⟨o',e1⟩:=I.base.there b o e hx;exact free b o' (CA b o e hx) e1 (I.base.free b o e n hx);obtain⟨o',e1⟩:=I.base.there b o e hx;exact there b o' (CA b o e hx) e1;obtain⟨m1,e1⟩:=I.base.lr b ps e;obtain⟨m2,e2⟩:=lr b _ e1;exact⟨m1 ++ m2,by rw[e2,Array.append_assoc]⟩;obtain⟨m,hn,hl⟩:=I.loc;refine⟨m,ns m hn,λi x v e1 e2 e3=>?_⟩;obtain⟨u,r,l⟩:=hl i x v e1 e2 e3;refine⟨u,r,?_⟩;rcases l with l|⟨k,c,e,z⟩
 exact .inl l;exact .inr ⟨k,c,e,cellK x c e _ z⟩;obtain⟨v,z⟩:=I.cell x c e;exact⟨v,cellK x c e v z⟩;obtain⟨m,⟨o,_,_,ho,_⟩,_⟩:=I.loc;exact free _ o (λz=>(hch _ z).2.1 rfl) ho I.free;obtain⟨v,o,ho,hd⟩:=I.cell x c e;exact free c o (λz=>(hch c z).2.2.1 x c e rfl) ho (I.dR x c e);obtain⟨e,n,ne,nf,d⟩:=I.pin p hp;have yx:p.1 ∉ ch:=λz=>(hch p.1 z).2.2.2 p hp rfl;exact⟨keep p.1 p.2 ne nf yx e n,free p.1 p.2 yx e n,ne,nf,d⟩
def Inv.un{t':Nat}(I:Inv X pins G H s)(u:Un X.fs [] H H' s.heap h')(hok:jd X.prog X.w H' h'):Inv X pins G H' { s with heap:=h',toks:=t' }:=by
 obtain⟨m,⟨o,es,ep,ho,r⟩,_⟩:=id I.loc;obtain⟨sl,hL⟩:=u.any ho I.free (by simp)
 exact I.step (g':=s.gens) (d':=s.drawn) (ch:=[]) (λ_ z=>nomatch z) (λb o _ hb _ e n=>u.keep b o e n hb (by simp)) (λb o _ hb _ e n=>u.slot b o e n hb (by simp)) (λb o _ e n=>u.free b o e n (by simp)) (λb o _ e=>u.there b o e (by simp)) u.tups u.kF u.lr (λm' hm=>by
  obtain⟨o',es',Ew,ho',r'⟩:=hm;rw[ho]at ho';cases ho'
  exact⟨_,es',Ew,hL,r'⟩) hok I.bare
def Inv.call{g':Array GenState}{t':Nat}{d':Drawn}{ch:List Addr}(I:Inv X pins G H s)(u:Un (frs X.stack) ch H H' s.heap h')(hok:jd X.prog X.w H' h')(hg:AllBare g')
  (hch:∀b∈ch,(b∈X.ex\/X.s₀.heap.objs.size<=b)/\b≠X.env.locals/\(∀x c,X.env.cells.lookup x=some c->c≠b)/\∀p∈X.pn ++ pins,p.1≠b) :
  Inv X pins G H' { s with heap:=h',gens:=g',drawn:=d',toks:=t' }:=by
 obtain⟨m,⟨o,es,ep,ho,r⟩,_⟩:=id I.loc;obtain⟨sl,hL⟩:=u.any ho I.free λz=>(hch _ z).2.1 rfl
 exact I.step (ch:=ch) hch (λb o hL hb hc e n=>u.keep b o e n (λz=>(Tp.mp (I.j5 b z)).elim hL hb) hc) (λb o _ _ hc e n=>u.any e n hc) (λb o hc e n=>u.free b o e n hc) (λb o hc e=>u.there b o e hc) u.tups u.kF u.lr (λm' hm=>by
  obtain⟨o',es',Ew,ho',r'⟩:=hm;rw[ho]at ho';cases ho'
  exact⟨_,es',Ew,hL,r'⟩) hok hg
def Inv.turned{t':Nat}{it:Addr}(I:Inv X pins G H s)(k:∀b o,b≠it->s.heap.get? b=some o->h'.get? b=some o)(hn:H it=none)(hL:it≠X.env.locals)
  (h1:it∈X.ex\/X.s₀.heap.objs.size<=it) (h2:∀x c,X.env.cells.lookup x=some c->c≠it) (h3:∀p∈X.pn ++ pins,p.1≠it):Inv X pins G H { s with heap:=h',toks:=t' }:=by
 have yy:∀b u,H b=some u->b≠it:=λb u e z=>by rw[z,hn]at e;cases e
 refine I.step (g':=s.gens) (d':=s.drawn) (ch:=[it]) (λb hb=>?_) (λb o _ _ hc e _=>k b o (λz=>hc (by simp[z])) e) (λb o _ _ hc e _=>⟨o.slots,k b o (λz=>hc (by simp[z])) e⟩) (λ_ _ _ _ n=>n)
  (λb o hc e=>⟨o,k b o (λz=>hc (by simp[z])) e⟩) (λ_ _ e=>e) (λ_ _ _ e=>e) (λb ps e=>⟨#[],by rw[e];simp⟩) (λm hm=>?_) (λb u e=>?_) I.bare
 have e:b=it:=by simpa using hb
 subst e;exact⟨h1,hL,h2,h3⟩;obtain⟨o,es,ep,ho,r⟩:=hm;exact⟨o,es,ep,k _ o (Ne.symm hL) ho,r⟩;refine(I.hok b u e).stay (λc v hc q=>k c v ?_ q) (λ_ q=>q) λ_ _ q=>q;rcases hc with z|z
 rw[z];exact yy b u e;exact yy c _ z
def Inv.tok(I:Inv X pins G H s)(t:Nat):Inv X pins G H { s with toks:=t }:=I.un (h':=s.heap) (t':=t) Un.refl I.hok
def Inv.kept{t':Nat}(I:Inv X pins G H s)(k:∀b u,s.heap.get? b=some u->h'.get? b=some u):Inv X pins G H { s with heap:=h',toks:=t' }:=I.un (Un.kept k) (I.hok.kept k)
def Inv.laid{a:Addr}{o:HO}{t':Nat}(I:Inv X pins G H s)(k:∀b u,s.heap.get? b=some u->h'.get? b=some u)(hp:s.heap.objs.size<=a)(new:bz X.prog X.w (upd H a o) h' a o):
  Inv X pins G (upd H a o) { s with heap:=h',toks:=t' }:=I.un (Un.laid k hp (I.hok.fresh hp)) (I.hok.laid k hp new)
def Inv.write{x e:Addr}{o:HO}{t':Nat}(I:Inv X pins G H s)(mu:Cy (H x))(he:e=x\/H e=some (.own x))(k:∀b u,b≠e->s.heap.get? b=some u->h'.get? b=some u)(xJ:∃u,h'.get? e=some u)
  (new:bz X.prog X.w (upd H x o) h' x o):Inv X pins G (upd H x o) { s with heap:=h',toks:=t' }:=I.un (Un.write mu he k xJ) (I.hok.write mu he k xJ new)
def Inv.jW{jG:List (Addr×Obj)}(I:Inv X pins G H s)(h:∀p∈jG,s.heap.get? p.1=some p.2/\H p.1=none/\p.1≠X.env.locals/\p.1 ∉ X.fs/\∀v,p.2.data≠.cell v):Inv X jG G H s :=
 ⟨I.ok,I.os,I.bare,I.base,I.loc,I.cell,I.free,I.dR,λp hp=>(Tw.mp hp).elim (λz=>I.pin p (Ui _ z)) (h p),I.hok,I.len⟩
def Ey{N:List Str}(hN:N.Nodup){i j:Nat}{x:Str}(a:N[i]?=some x)(b:N[j]?=some x):i=j:=by obtain⟨h1,e1⟩:=Ti.mp a;obtain⟨h2,e2⟩:=Ti.mp b;exact(Vy hN).mp (e1.trans e2.symm)
def HJ{M:Model}{A:Around}{E:Value->Shared->Prop}{i:Nat}{x:Str}{v:V}{u:Value}{Q:Unit->Shared->Prop}(I:Inv X pins G H s)(hN:X.N.Nodup)(hi:X.N[i]?=some x)(hx:Loc X.env.scope x)(r:RelV v u)
  (h:∀s',Inv X pins (G.set i (some v)) H s'->(∃a,Heap.SameBut a s.heap s'.heap/\(a=X.env.locals\/X.env.cells.lookup x=some a))->Q () s') (hf:X.fn x=true\/X.env.scope.names.lookup x=some .local:=by first|exact .inl rfl|exact .inr rfl|assumption):wpAny M A (storeName X.env x u) Q E s:=by
 obtain⟨m,hn,hl⟩:=id I.loc;have hcls:(X.env.scope.kind == .class || (X.env.scope.kind == .module && X.env.locals != X.env.globals))=false:=by rw[I.ok.kind];rfl
 have hiσ:i<G.length:=by rw[I.len];exact(Ti.mp hi).1
 have pM:=I.pM;have tracked:∀{a:Addr} {h':Heap},(∃o,s.heap.get? a=some o/\H a=none)->Heap.SameBut a s.heap h'->jd X.prog X.w H h':=λ{a h'} ha hs b ob e=>by
  obtain⟨_,_,hfree⟩:=ha;refine(I.hok b ob e).stay (λc w' hc q=>(hs.2 c ?_).trans q) (λ_ q=>q) λ_ _ q=>q;rintro rfl;rcases hc with rfl|hc
  rw[hfree]at e;cases e;rw[hfree]at hc;cases hc
 rcases hx with hk|hk
 refine wpAny_storeName_local hk hn (λh' hn' hs=>?_) hcls;obtain⟨oL,_,_,CB,_⟩:=id hn;refine h _ ⟨I.ok,I.os,I.bare,⟨λb o e n hb hx=>?_,λb o e n hb hx=>?_,I.base.free,λb o e hx=>?_,I.base.tups,I.base.kF,I.base.lr⟩,⟨_,hn',λj y v' e1 e2 e3=>?_⟩,λy c e=>?_,I.free,I.dR,λp hp=>?_,tracked ⟨oL,CB,I.free⟩ hs,by simpa using I.len⟩ ⟨_,hs,.inl rfl⟩;exact(hs.2 b (T7 (TH (Ts e) I.ok.above))).trans (I.base.keep b o e n hb hx);obtain⟨sl,e1⟩:=I.base.slot b o e n hb hx;exact⟨sl,(hs.2 b (T7 (TH (Ts e) I.ok.above))).trans e1⟩;obtain⟨o',e1⟩:=I.base.there b o e hx;exact⟨o',(hs.2 b (T7 (TH (Ts e) I.ok.above))).trans e1⟩;by_cases hj:j=i;subst hj;rw[hi]at e1;cases e1;rw[TB hiσ]at e2;cases e2;exact⟨u,r,.inl ⟨hk,by simp⟩⟩;rw[TQ (Ne.symm hj)]at e2;obtain⟨u',r',q⟩:=hl j y v' e1 e2 e3;refine⟨u',r',?_⟩;rcases q with⟨k,e⟩|⟨k,c,e,z⟩
 refine .inl ⟨k,?_⟩
 have:y≠x:=λe=>hj (Ey hN e1 (e ▸ hi));simp[this,e]
 exact .inr ⟨k,c,e,z.sameBut hs (pM y c e)⟩;obtain⟨w',z⟩:=I.cell y c e;exact⟨w',z.sameBut hs (pM y c e)⟩;obtain⟨e,n,ne,nf,d⟩:=I.pin p hp;exact⟨(hs.2 p.1 ne).trans e,n,ne,nf,d⟩;have hfn:X.fn x=true:=by
  rcases hf with z|z
  exact z;rw[z]at hk;cases hk
 obtain⟨c,hc⟩:=I.ok.has x (.inl hk);obtain⟨w',z⟩:=I.cell x c hc;refine wpAny_storeName_cell I.ok.kind hk hc z (λh' hc' hs=>?_);obtain⟨oc,hoc,Ez⟩:=id z;refine h { s with heap:=h' } ⟨I.ok,I.os,I.bare,⟨λb o e n hb hx=>?_,λb o e n hb hx=>?_,I.base.free,λb o e hx=>?_,I.base.tups,I.base.kF,I.base.lr⟩,⟨m,hn.sameBut hs (Ne.symm (pM x c hc)),λj y v' e1 e2 e3=>?_⟩,λy c' e=>?_,I.free,I.dR,λp hp=>?_,tracked ⟨oc,hoc,I.dR x c hc⟩ hs,by simpa using I.len⟩ ⟨c,hs,.inr hc⟩;exact(hs.2 b (T7 (TH (Ts e) (I.ok.qZ x c hfn hc)))).trans (I.base.keep b o e n hb hx);obtain⟨sl,e1⟩:=I.base.slot b o e n hb hx;exact⟨sl,(hs.2 b (T7 (TH (Ts e) (I.ok.qZ x c hfn hc)))).trans e1⟩;obtain⟨o',e1⟩:=I.base.there b o e hx;exact⟨o',(hs.2 b (T7 (TH (Ts e) (I.ok.qZ x c hfn hc)))).trans e1⟩;by_cases hj:j=i;subst hj;rw[hi]at e1;cases e1;rw[TB hiσ]at e2;cases e2;exact⟨u,r,.inr ⟨.inl hk,c,hc,hc'⟩⟩;rw[TQ (Ne.symm hj)]at e2;obtain⟨u',r',q⟩:=hl j y v' e1 e2 e3;refine⟨u',r',?_⟩;rcases q with q|⟨k,c',e,z'⟩
 exact .inl q;refine .inr ⟨k,c',e,z'.sameBut hs ?_⟩;rintro rfl;exact hj (Ey hN e1 (I.ok.inj _ _ _ e hc ▸ hi));by_cases hcc:c'=c;subst hcc;exact⟨_,hc'⟩;obtain⟨w2,z2⟩:=I.cell y c' e;exact⟨w2,z2.sameBut hs hcc⟩;obtain⟨e,n,ne,nf,d⟩:=I.pin p hp;refine⟨(hs.2 p.1 ?_).trans e,n,ne,nf,d⟩;intro q;rw[q,hoc]at e;have q':oc=p.2:=Tq e;exact d w' (by rw[<- q'];exact Ez)
def yz{M:Model}{A:Around}{E:Value->Shared->Prop}{i:Nat}{x:Str}{v:V}{u:Value}{Q:Unit->Shared->Prop}(I:Inv X pins G H s)(hN:X.N.Nodup)(hi:X.N[i]?=some x)(hx:Loc X.env.scope x)(r:RelV v u)
  (h:∀s',Inv X pins (G.set i (some v)) H s'->Q () s') (hf:X.fn x=true\/X.env.scope.names.lookup x=some .local:=by first|exact .inl rfl|exact .inr rfl|assumption):wpAny M A (storeName X.env x u) Q E s :=
 HJ I hN hi hx r (λs' I' _=>h s' I') hf
def Inv.pN{s':Shared}{ch:List Addr}(I:Inv X pins G H s)(ho:s'.os=s.os)(u:Un (frs X.stack) ch H H' s.heap s'.heap)(hok:jd X.prog X.w H' s'.heap)(hg:AllBare s'.gens)
  (hch:∀b∈ch,(b∈X.ex\/X.s₀.heap.objs.size<=b)/\b≠X.env.locals/\(∀x c,X.env.cells.lookup x=some c->c≠b)/\∀p∈X.pn ++ pins,p.1≠b):Inv X pins G H' s':=by
 obtain⟨h',g',d',t',o'⟩:=s';have e:o'=s.os:=ho;subst e;exact I.call (g':=g') (t':=t') (d':=d') u hok hg hch
end
@[reducible]def XK:=Value->Option Addr->Hp->Prop
@[reducible]def St:=List (Option V)
@[reducible]def VK:=V->Hp->Prop
@[reducible]def TE:=St->Hp->VK->Prop
@[reducible]def TT:=St->Hp->(Bool->Hp->Prop)->Prop
@[reducible]def TA:=St->Hp->(List V->Hp->Prop)->Prop
set_option genInjectivity false in
structure Ends where
 nx:St->Hp->Prop
 rt:VK
 bk:St->Hp->Prop:=λ_ _=>False
 ct:St->Hp->Prop:=λ_ _=>False
@[reducible]def TS:=Ends->St->Hp->Prop
abbrev EP(X:Cx)(pins:List (Addr×Obj))(G:St)(Q:VK)(u:Value)(s':Shared):Prop:=∃v H',Inv X pins G H' s'/\RelV v u/\Q v H'
abbrev TP(X:Cx)(pins:List (Addr×Obj))(G:St)(Q:Bool->Hp->Prop)(b:Bool)(s':Shared):Prop:=∃H',Inv X pins G H' s'/\Q b H'
abbrev AP(X:Cx)(pins:List (Addr×Obj))(G:St)(Q:List V->Hp->Prop)(us:List Value)(s':Shared):Prop:=∃vs H',Inv X pins G H' s'/\Vals vs us/\Q vs H'
abbrev SP(X:Cx)(pins:List (Addr×Obj))(D:Ends)(f:Flow)(s':Shared):Prop :=
 match f with
 |.next=>∃G' H',Inv X pins G' H' s'/\D.nx G' H'
 |.brk=>∃G' H',Inv X pins G' H' s'/\D.bk G' H'
 |.cont=>∃G' H',Inv X pins G' H' s'/\D.ct G' H'
 |.ret u=>∃v G' H',Inv X pins G' H' s'/\RelV v u/\D.rt v H'
abbrev PE(X:Cx)(e:Expr)(t:TE):Prop :=
 ∀(pins:List (Addr×Obj)) (s:Shared) (G:St) (H:Hp) (Q:VK),Inv X pins G H s->t G H Q->wpAny (model X.prog X.w) X.A (eval e X.env) (EP X pins G Q) X.xe s
abbrev PT(X:Cx)(e:Expr)(t:TT):Prop :=
 ∀(pins:List (Addr×Obj)) (s:Shared) (G:St) (H:Hp) (Q:Bool->Hp->Prop),Inv X pins G H s->t G H Q->wpAny (model X.prog X.w) X.A (isTrue e X.env (eval e X.env)) (TP X pins G Q) X.xe s
abbrev PW(X:Cx)(e:Expr)(t:TT):Prop :=
 ∀(whole:Sem Value) (pins:List (Addr×Obj)) (s:Shared) (G:St) (H:Hp) (Q:Bool->Hp->Prop),Inv X pins G H s->t G H Q->wpAny (model X.prog X.w) X.A (isTrue e X.env whole) (TP X pins G Q) X.xe s
def PW.pt{X:Cx}{e:Expr}{t:TT}(h:PW X e t):PT X e t:=h _
abbrev PA(X:Cx)(es:List Expr)(t:TA):Prop :=
 ∀(pos:Pos) (pins:List (Addr×Obj)) (s:Shared) (G:St) (H:Hp) (Q:List V->Hp->Prop),Inv X pins G H s->t G H Q->wpAny (model X.prog X.w) X.A (spliced (backTo pos (starEach es X.env))) (AP X pins G Q) X.xe s
abbrev PS(X:Cx)(st:Stmt)(t:TS):Prop :=
 ∀(pins:List (Addr×Obj)) (s:Shared) (G:St) (H:Hp) (D:Ends),Inv X pins G H s->t D G H->wpAny (model X.prog X.w) X.A (exec st X.env) (SP X pins D) X.xe s
abbrev kN(X:Cx)(st:List Stmt)(t:TS):Prop :=
 ∀(pins:List (Addr×Obj)) (s:Shared) (G:St) (H:Hp) (D:Ends),Inv X pins G H s->t D G H->wpAny (model X.prog X.w) X.A (execs st X.env) (SP X pins D) X.xe s
def bA{J:Type}{t:Sem J}{Q Q':J->Shared->Prop}{M:Model}{A:Around}{E:Value->Shared->Prop}{s:Shared}(h:wpAny M A t Q E s)(hQ:∀a s,Q a s->Q' a s):wpAny M A t Q' E s:=wpAny_mono h hQ λ_ _ x=>x
section
variable {X:Cx}
abbrev lA(i:Nat):TE:=λG H Q=>∃v,G[i]?=some (some v)/\Q v H
abbrev tC(v:V):TE:=λ_ H Q=>Q v H
def uw{i:Nat}{x:Str}{pos:Pos}(hN:X.N[i]?=some x)(hv:Es X.env.scope x)(hd:(x == ("__debug__" : Str))=false:=by decide)(hcd:(x == ("__classdict__" : Str))=false:=by decide):PE X (.Name x pos) (lA i):=by
 intro pins s G H Q I h;obtain⟨v,e,h⟩:=h;obtain⟨m,hn,hl⟩:=I.loc;obtain⟨u,r,l⟩:=hl i x v hN e hv;have fin:EP X pins G Q u s:=⟨v,H,I,r,h⟩;rcases l with⟨hk,hm⟩|⟨hk,c,hc,hcell⟩
 exact wpAny_Name (wpAny_loadName_local I.ok.kind hk hn hm fin) hd;rcases hk with hk|hk
 exact wpAny_Name (wpAny_loadName_cell I.ok.kind hk hc hcell fin) hd;exact wpAny_Name (wpAny_loadName_free I.ok.kind hk hc hcell fin hcd) hd
def aP{i j pos}:PE X (.Constant (.int i) j pos) (tC (.int i)):=λ_ _ _ H _ I h=>wpAny_Constant_int ⟨.int i,H,I.tok _,⟨_,rfl⟩,h⟩
def yA{b j pos}:PE X (.Constant (.bool b) j pos) (tC (.bl b)):=λ_ _ _ H _ I h=>Constant_bool ⟨.bl b,H,I,rfl,h⟩
def sE{j pos}:PE X (.Constant .none j pos) (tC .non):=λ_ _ _ H _ I h=>Constant_none ⟨.non,H,I,rfl,h⟩
def cb{x j pos}:PE X (.Constant (.str x) j pos) (tC (.str x)):=λ_ _ _ H _ I h=>Calls.Constant_str ⟨.str x,H,I.tok _,⟨_,rfl⟩,h⟩
abbrev Gl(X:Cx)(x:Str):Prop:=X.env.kindOf x=some .globalImplicit
def ux{E:Value->Shared->Prop}{pins:List (Addr×Obj)}{s:Shared}{G:St}{H:Hp}{x:Str}{u:Value}{pos:Pos}{Q:Value->Shared->Prop}(I:Inv X pins G H s)(hg:Gl X x)(hm:X.mg x=some u)(h:Q u s)
  (hd:(x == ("__debug__" : Str))=false:=by decide):wpAny (model X.prog X.w) X.A (eval (.Name x pos) X.env) Q E s :=
 Calls.Name_function_global I.ok.kind hg (Calls.loadGlobal_global (by rw[I.ok.glob];exact I.mod.glob.keeps I.bk) hm h) hd
def xM{E:Value->Shared->Prop}{pins:List (Addr×Obj)}{s:Shared}{G:St}{H:Hp}{x:Str}{u:Value}{pos:Pos}{Q:Value->Shared->Prop}(I:Inv X pins G H s)(hg:Gl X x)(hm:X.mg x=none)(hv:bootBuiltins x=some u)(h:Q u s)
  (hn:x≠"__name__" := by decide) (hd:(x == ("__debug__" : Str))=false:=by decide):wpAny (model X.prog X.w) X.A (eval (.Name x pos) X.env) Q E s:=by
 obtain⟨mb,h1,h2⟩:=I.mod.blt;exact Calls.Name_function_global I.ok.kind hg (Calls.loadGlobal_builtin (by rw[I.ok.glob];exact I.mod.glob.keeps I.bk) hm (by rw[I.ok.blt];exact h1.keeps I.bk) ((h2 x hn).trans hv) h) hd
def HK{x:Str}{v:V}{u:Value}{pos:Pos}(hg:Gl X x)(hm:X.mg x=some u)(r:RelV v u)(hd:(x == ("__debug__" : Str))=false:=by decide):PE X (.Name x pos) (tC v) :=
 λ_ _ _ H _ I h=>ux I hg hm ⟨v,H,I,r,h⟩ hd
def Mu{x:Str}{v:V}{u:Value}{pos:Pos}(hg:Gl X x)(hm:X.mg x=none)(hv:bootBuiltins x=some u)(r:RelV v u)(hn:x≠"__name__" := by decide)(hd:(x == ("__debug__" : Str))=false:=by decide):PE X (.Name x pos) (tC v) :=
 λ_ _ _ H _ I h=>xM I hg hm hv ⟨v,H,I,r,h⟩ hn hd
variable {a b:Expr}{ta tb:TE}{pos:Pos}
abbrev tB(t:TE):TT:=λG H Q=>t G H λx H1=>∃c,x=.bl c/\Q c H1
def uy{e:Expr}{t:TE}(h:PE X e t)(he:∀whole,isTrue e X.env whole=(do let v <- whole;standAt e.pos;holding [v] (truthy v)):=by intro _;rfl):PT X e (tB t):=by intro pins s G H Q I hw;refine isTrue_plain (bA (h pins s G H _ I hw) λv s1 ⟨x,H1,I1,r1,q1⟩=>?_) (he _);obtain⟨d,rfl,q⟩:=q1;cases r1;exact wpAny_truthy_bool ⟨H1,I1,q⟩
variable {tA CC:TT}{rest:List Expr}
abbrev yB(t u:TT):TT:=λG H Q=>t G H λc H1=>if c=true then u G H1 Q else Q false H1
abbrev HL(t u:TT):TT:=λG H Q=>t G H λc H1=>if c=true then Q true H1 else u G H1 Q
abbrev yC(t:TT):TT:=λG H Q=>t G H λc H1=>Q (!c) H1
def Mv(ha:PT X a tA):PW X (.BoolOp .And [a] pos) tA:=by
 intro wh pins s G H Q I h;refine isTrue_and (bA (ha pins s G H Q I h) λc s1 e=>?_);cases c with
 |true=>exact isTrue_and_nil e
 |false=>exact e
def rg(ha:PT X a tA):PW X (.BoolOp .Or [a] pos) tA:=by
 intro wh pins s G H Q I h;refine isTrue_or (bA (ha pins s G H Q I h) λc s1 e=>?_);cases c with
 |false=>exact isTrue_or_nil e
 |true=>exact e
def pw_and(ha:PT X a tA)(hb:PW X (.BoolOp .And (b :: rest) pos) CC):PW X (.BoolOp .And (a :: b :: rest) pos) (yB tA CC):=by
 intro wh pins s G H Q I h;refine isTrue_and (bA (ha pins s G H _ I h) λc s1 ⟨H1,I1,q1⟩=>?_);cases c with
 |true=>exact hb wh pins s1 G H1 Q I1 q1
 |false=>exact⟨H1,I1,q1⟩
def mV(ha:PT X a tA)(hb:PW X (.BoolOp .Or (b :: rest) pos) CC):PW X (.BoolOp .Or (a :: b :: rest) pos) (HL tA CC):=by
 intro wh pins s G H Q I h;refine isTrue_or (bA (ha pins s G H _ I h) λc s1 ⟨H1,I1,q1⟩=>?_);cases c with
 |true=>exact⟨H1,I1,q1⟩
 |false=>exact hb wh pins s1 G H1 Q I1 q1
def xN(ha:PT X a tA):PT X (.UnaryOp .Not a pos) (yC tA):=by intro pins s G H Q I h;exact isTrue_not (ha pins s G H (λc H1=>Q (!c) H1) I h)
abbrev sF(ta tb:TE):TE:=λG H Q=>ta G H λx H1=>∃c,x=.bl c/\if c=true then tb G H1 Q else Q (.bl false) H1
def uz{op}{t:TE}(h:PE X a t):PE X (.BoolOp op [a] pos) t:=λpins s G H Q I hw=>BoolOp_one (h pins s G H Q I hw)
def uA(ha:PE X a ta)(hb:PE X (.BoolOp .And (b :: rest) pos) tb):PE X (.BoolOp .And (a :: b :: rest) pos) (sF ta tb):=by
 intro pins s G H Q I h;refine BoolOp_and (bA (ha pins s G H _ I h) λv s1 ⟨x,H1,I1,r1,q1⟩=>?_);obtain⟨c,rfl,q1⟩:=q1;cases r1;refine wpAny_truthy_bool ?_;cases c with
 |true=>exact hb pins s1 G H1 Q I1 q1
 |false=>exact⟨.bl false,H1,I1,rfl,q1⟩
end
abbrev fG(K:Zfr)(H:Hp)(a:Addr)(xs:List V):Prop :=
 Rd H a (.lst xs) \/
  ∃(o:Obj) (its:Array Value) (n:Nat),K.lookup a=some o/\o.cls=.type "list" /\ o.dict=none/\o.data=.seq its n/\its.size<=sizeLine/\Vals xs its.toList
abbrev df(K:Zfr)(H:Hp)(a:Addr)(xs:List V):Prop :=
 Rd H a (.tup xs) \/
  ∃(o:Obj) (its:Array Value) (n:Nat),K.lookup a=some o/\o.cls=.type "tuple" /\ o.dict=none/\o.data=.seq its n/\its.size<=sizeLine/\Vals xs its.toList
abbrev EA:Value->Option V
 |.none=>some .non
 |.bool b=>some (.bl b)
 |.int i _=>some (.int i)
 |.str x _=>some (.str x)
 |.bytes b _=>some (.pB b)
 |.float b _=>some (.Cw b)
 |.ref a=>some (.ref a)
 |.type n=>some (.ty n)
 |_=>none
def RelV.abs{x:V}{u:Value}(r:RelV x u):EA u=some x:=by
 cases x with
 |non=>cases r;rfl
 |bl _=>cases r;rfl
 |int _=>obtain⟨t,rfl⟩:=r;rfl
 |str _=>obtain⟨t,rfl⟩:=r;rfl
 |pB _=>obtain⟨t,rfl⟩:=r;rfl
 |Cw _=>obtain⟨t,rfl⟩:=r;rfl
 |ref _=>cases r;rfl
 |ty _=>cases r;rfl
def RelV.inj{x y:V}{u:Value}(r:RelV x u)(q:RelV y u):x=y:=Tq (r.abs.symm.trans q.abs)
def Vals.inj:∀{xs ys:List V} {us:List Value},Vals xs us->Vals ys us->xs=ys
 |_,_,_,.nil,.nil=>rfl
 |_,_,_,.cons r t,.cons r' t'=>by rw[r.inj r',Vals.inj t t']
section
variable {X:Cx}{pins:List (Addr×Obj)}{G:St}{H:Hp}{s:Shared}{a:Addr}{xs ys:List V}
def df.of{K:Zfr}(h:H a=some (.tup xs)):df K H a xs:=.inl (.inl h)
def Inv.list(I:Inv X pins G H s)(h:fG X.K H a xs):∃its:List Value,Vals xs its/\PlainL s.heap a its.toArray/\xs.length<=sizeLine:=by
 rcases h with h|⟨o,its,n,hk,hc,hd,hs,hz,r⟩
 obtain⟨z,its,n,r,e⟩:=h.ok I.hok;exact⟨its,r,⟨_,n,e,rfl,rfl,rfl⟩,z⟩;refine⟨its.toList,r,⟨o,n,I.j4 a o hk,hc,hd,by simpa using hs⟩,?_⟩;have e:=r.length;simp only[UN]at e;lk
def Inv.pO(I:Inv X pins G H s)(h:df X.K H a xs):∃its:List Value,Vals xs its/\lq s.heap a its.toArray/\xs.length<=sizeLine:=by
 rcases h with h|⟨o,its,n,hk,hc,hd0,hs,hz,r⟩
 obtain⟨z,its,r,p⟩:=h.ok I.hok;exact⟨its,r,p,z⟩;refine⟨its.toList,r,⟨o,I.j4 a o hk,hc,hd0,n,by simpa using hs⟩,?_⟩;have e:=r.length;simp only[UN]at e;lk
def Inv.tuple(I:Inv X pins G H s)(h:df X.K H a xs):∃its:List Value,Vals xs its/\IsTup s.heap a its.toArray/\xs.length<=sizeLine :=
 let ⟨its,r,p,z⟩:=I.pO h
 ⟨its,r,p.tup,z⟩
def Inv.mr(I:Inv X pins G H s)(h:fG X.K H a xs)(h':fG X.K H a ys):xs=ys:=by
 obtain⟨its,r,⟨o,n,e,_,_,d⟩,_⟩:=I.list h;obtain⟨its',r',⟨o',n',e',_,_,d'⟩,_⟩:=I.list h';rw[e]at e';cases e';rw[d]at d';injection d' with d1 _;have:its=its':=by simpa using congrArg Array.toList d1
 subst this;exact r.inj r'
def Inv.jz(I:Inv X pins G H s)(h:df X.K H a xs)(h':df X.K H a ys):xs=ys:=by
 obtain⟨its,r,⟨o,e,_,n,d⟩,_⟩:=I.tuple h;obtain⟨its',r',⟨o',e',_,n',d'⟩,_⟩:=I.tuple h';rw[e]at e';cases e';rw[d]at d';injection d' with d1 _;have:its=its':=by simpa using congrArg Array.toList d1
 subst this;exact r.inj r'
end
@[reducible]def Cx.wish(X:Cx)(E:Value->Shared->Prop):Cx:={ X with xe:=E }
@[reducible]def Cx.pD(X:Cx):Cx:=X.wish λ_ _=>False
def Cx.Ok.wish{X:Cx}(ok:X.Ok)(E:Value->Shared->Prop):(X.wish E).Ok :=
 ⟨ok.mod,ok.kind,ok.glob,ok.blt,ok.above,ok.inj,ok.has,ok.qZ,ok.hd,ok.frames,ok.stk,ok.xK,ok.bs,ok.mU,ok.j3,ok.mq,ok.ia,ok.pC⟩
def Cx.Ok.cN{X:Cx}{E:Value->Shared->Prop}(ok:(X.wish E).Ok):X.Ok :=
 ⟨ok.mod,ok.kind,ok.glob,ok.blt,ok.above,ok.inj,ok.has,ok.qZ,ok.hd,ok.frames,ok.stk,ok.xK,ok.bs,ok.mU,ok.j3,ok.mq,ok.ia,ok.pC⟩
section
variable {X:Cx}{pins:List (Addr×Obj)}{G:St}{H:Hp}{s:Shared}{E:Value->Shared->Prop}
def Inv.wish(I:Inv X pins G H s)(E:Value->Shared->Prop):Inv (X.wish E) pins G H s:=⟨I.ok.wish E,I.os,I.bare,I.base,I.loc,I.cell,I.free,I.dR,I.pin,I.hok,I.len⟩
def Inv.cN(I:Inv (X.wish E) pins G H s):Inv X pins G H s:=⟨I.ok.cN,I.os,I.bare,I.base,I.loc,I.cell,I.free,I.dR,I.pin,I.hok,I.len⟩
def SP.cN{D:Ends}{f:Flow}{s':Shared}(h:SP (X.wish E) pins D f s'):SP X pins D f s':=by
 cases f with
 |next=>obtain⟨G',H',I,q⟩:=h;exact⟨G',H',I.cN,q⟩
 |brk=>obtain⟨G',H',I,q⟩:=h;exact⟨G',H',I.cN,q⟩
 |cont=>obtain⟨G',H',I,q⟩:=h;exact⟨G',H',I.cN,q⟩
 |ret u=>obtain⟨v,G',H',I,r,q⟩:=h;exact⟨v,G',H',I.cN,r,q⟩
def kN.pD{st:List Stmt}{t:TS}(h:kN X.pD st t):kN X st t:=λpins s G H D I hw =>
 wpAny_mono (h pins s G H D (I.wish _) hw) (λ_ _ q=>q.cN) λ_ _ z=>False.elim z
end
section
variable {X:Cx}{st:Stmt}{rest:List Stmt}{t u:TS}{e:Expr}{te:TE}{pos:Pos}
abbrev sG:TS:=λD G H=>D.nx G H
abbrev rh(t u:TS):TS:=λD G H=>t { D with nx:=u D } G H
def iG:kN X [] sG:=λ_ _ G H _ I h=>wpAny_execs_nil ⟨G,H,I,h⟩
def HM(h1:PS X st t)(h2:kN X rest u):kN X (st :: rest) (rh t u):=by
 intro pins s G H D I h;refine wpAny_execs_cons (bA (h1 pins s G H { D with nx:=u D } I h) λf s1 q=>?_);cases f with
 |next =>
  obtain⟨G',H',I',q⟩:=q;exact h2 pins s1 G' H' D I' q
 |ret v=>exact q
 |brk=>exact q
 |cont=>exact q
def yD(h1:PS X st t):kN X [st] t:=by
 intro pins s G H D I h;refine wpAny_execs_cons (bA (h1 pins s G H D I h) λf s1 q=>?_);cases f with
 |next=>exact wpAny_execs_nil q
 |ret v=>exact q
 |brk=>exact q
 |cont=>exact q
def Inv.quiet{pins:List (Addr×Obj)}{G:St}{H:Hp}{s:Shared}(I:Inv X pins G H s):interactive X.env=false:=by simp[interactive,I.ok.kind]
abbrev ow(te:TE):TS:=λD G H=>te G H λ_ H1=>D.nx G H1
def qK(he:PE X e te)(hs:swapsWith e none pos.line X.env=pure false:=by rfl):PS X (.Expr e pos) (ow te):=by intro pins s G H D I h;exact wpAny_Expr_any (bA (he pins s G H _ I h) λv s1 ⟨x,H1,I1,r1,q1⟩=>⟨G,H1,I1,q1⟩) I.quiet hs
abbrev yE(te:TE):TS:=λD G H=>te G H D.rt
def g9(he:PE X e te):PS X (.Return (some e) pos) (yE te):=by intro pins s G H D I h;exact wpAny_Return_some (bA (he pins s G H _ I h) λv s1 ⟨x,H1,I1,r1,q1⟩=>⟨x,G,H1,I1,r1,q1⟩)
abbrev uB(c:TT)(t u:TS):TS:=λD G H=>c G H λb H1=>if b=true then t D G H1 else u D G H1
def yF{c:Expr}{a b:List Stmt}{tc:TT}(hc:PT X c tc)(ha:kN X a t)(hb:kN X b u):PS X (.If c a b pos) (uB tc t u):=by
 intro pins s G H D I h;refine wpAny_If (bA (hc pins s G H _ I h) λd s1 ⟨H1,I1,q1⟩=>?_);cases d with
 |true=>exact ha pins s1 G H1 D I1 q1
 |false=>exact hb pins s1 G H1 D I1 q1
end
@[reducible]def TG:=V->St->Hp->(St->Hp->Prop)->Prop
@[reducible]def pP:=List V->St->Hp->(St->Hp->Prop)->Prop
abbrev PG(X:Cx)(target:Expr)(t:TG):Prop :=
 ∀(pins:List (Addr×Obj)) (s:Shared) (G:St) (H:Hp) (v:V) (u:Value) (Q:St->Hp->Prop),Inv X pins G H s->RelV v u->t v G H Q ->
  wpAny (model X.prog X.w) X.A (assign target X.env u) (λ_ s'=>∃G' H',Inv X pins G' H' s'/\Q G' H') X.xe s
abbrev yG(X:Cx)(ts:List Expr)(t:pP):Prop :=
 ∀(pins:List (Addr×Obj)) (s:Shared) (G:St) (H:Hp) (vs:List V) (us:List Value) (Q:St->Hp->Prop),Inv X pins G H s->Vals vs us->t vs G H Q ->
  wpAny (model X.prog X.w) X.A (assignInOrder ((assignEach ts X.env).map (·.2)) us) (λ_ s'=>∃G' H',Inv X pins G' H' s'/\Q G' H') X.xe s
@[reducible]def uC:=V->V->V->Hp->(Hp->Prop)->Prop
abbrev yH(X:Cx)(t:uC):Prop :=
 ∀(pins:List (Addr×Obj)) (s:Shared) (G:St) (H:Hp) (o i v:V) (ov iv u:Value) (Q:Hp->Prop),Inv X pins G H s->RelV o ov->RelV i iv->RelV v u->t o i v H Q ->
  wpAny (model X.prog X.w) X.A (setItem ov iv u) (λ_ s'=>∃H',Inv X pins G H' s'/\Q H') X.xe s
section
variable {X:Cx}{pos:Pos}
abbrev jH(i:Nat):TG:=λv G H Q=>Q (G.set i (some v)) H
def kz{i:Nat}{x:Str}(hN:X.N.Nodup)(hi:X.N[i]?=some x)(hx:Loc X.env.scope x)(hf:X.fn x=true\/X.env.scope.names.lookup x=some .local:=by first|exact .inl rfl|exact .inr rfl|assumption):PG X (.Name x pos) (jH i):=by intro pins s G H v u Q I r h;exact wpAny_assign_Name (yz I hN hi hx r (λs' I'=>⟨_,H,I',h⟩) hf)
abbrev yI:pP:=λvs G H Q=>vs=[]/\Q G H
abbrev sH(t:TG)(u:pP):pP:=λvs G H Q=>∃v r,vs=v :: r/\t v G H λG' H'=>u r G' H' Q
def yJ:yG X [] yI:=by intro pins s G H vs us Q I r h;obtain⟨e,h⟩:=h;subst e;cases r;exact assignInOrder_nil ⟨G,H,I,h⟩
def qL{e:Expr}{es:List Expr}{t:TG}{u:pP}(h1:PG X e t)(h2:yG X es u)
  (hs:(assignEach (e :: es) X.env).map (·.2)=assign e X.env :: (assignEach es X.env).map (·.2):=by rfl):yG X (e :: es) (sH t u):=by
 intro pins s G H vs us Q I r h;obtain⟨v,vr,e1,h⟩:=h;subst e1;cases r with
 |cons r rr =>
  rw[hs];refine assignInOrder_cons (bA (h1 pins s G H _ _ _ I r h) λ_ s1 ⟨G1,H1,I1,q1⟩=>?_);exact h2 pins s1 G1 H1 _ _ Q I1 rr q1
abbrev uD(K:Zfr)(n:Nat)(t:pP):TG:=λv G H Q=>∃a xs,v=.ref a/\df K H a xs/\xs.length=n/\t xs G H Q
def yK{es:List Expr}{k:Nat}{t:pP}{n:Nat}(hc:X.calm=true)(h:yG X es t)
  (hn:(assignEach es X.env).length=n:=by rfl) (hst:(assignEach es X.env).findIdx? (·.1)=none:=by rfl):PG X (.Tuple es k pos) (uD X.K n t):=by
 intro pins s G H v u Q I r hw;obtain⟨a,xs,e1,hq,hl,hw⟩:=hw;subst e1;cases r;obtain⟨its,rv,ht,hz⟩:=I.tuple hq;refine assign_Tuple_tuple (I.ok.hd hc) ht (by simp[hn,<- hl,rv.length]) hst λh' hx=>?_;have I1:Inv X pins G H { s with heap:=h' }:=I.kept (t':=s.toks) λb o e=>hx b o (T7 (Ts e)) e;exact h pins _ G H xs _ Q I1 (by simpa using rv) hw
abbrev nB(to ti:TE)(t:uC):TG:=λv G H Q=>to G H λo H1=>ti G H1 λi H2=>t o i v H2 λH3=>Q G H3
def xO{o i:Expr}{to ti:TE}{t:uC}(ho:PE X o to)(hi:PE X i ti)(hs:yH X t)
  (ha:∀v,assign (.Subscript o i pos) X.env v=(do
   let ov <- holding [v] (eval o X.env)
   let iv <- holding [v,ov] (eval i X.env)
   standAt pos
   holding [v,ov,iv] (setItem ov iv v)
   release [v,ov,iv] []):=by intro _;rfl):PG X (.Subscript o i pos) (nB to ti t):=by
 intro pins s G H v u Q I r h;rw[ha];refine wpAny_bind (wpAny_holding (bA (ho pins s G H _ I h) λov s1 ⟨x,H1,I1,r1,q1⟩=>?_));refine wpAny_bind (wpAny_holding (bA (hi pins s1 G H1 _ I1 q1) λiv s2 ⟨y,H2,I2,r2,q2⟩=>?_));refine wpAny_bind (wpAny_standAt (wpAny_bind (wpAny_holding (bA (hs pins s2 G H2 x y v ov iv u _ I2 r1 r2 r q2) λ_ s3 ⟨H3,I3,q3⟩=>?_))));exact wpAny_release ⟨G,H3,I3,q3⟩
abbrev nE(te:TE)(g:TG):TS:=λD G H=>te G H λx H1=>g x G H1 D.nx
def CD{tg e:Expr}{te:TE}{g:TG}(he:PE X e te)(hg:PG X tg g)(hs:swapsWithSole [tg] e pos.line X.env=pure false:=by rfl)(hw:swappedStores [tg] e X.env=pure none:=by rfl)
  (h1:(assignEach [tg] X.env).map (·.2)=[assign tg X.env]:=by rfl):PS X (.Assign [tg] e pos) (nE te g):=by
 intro pins s G H D I h;refine wpAny_Assign_stores (bA (he pins s G H _ I h) λv s1 ⟨x,H1,I1,r1,q1⟩=>?_) hs hw;rw[h1];exact bA (hg pins s1 G H1 x v _ I1 r1 q1) λ_ s2 q=>q
def uE{i:Nat}{x:Str}{e:Expr}{te:TE}{pos':Pos}(hN:X.N.Nodup)(hi:X.N[i]?=some x)(hx:Loc X.env.scope x)(he:PE X e te)(hs:swapsWith e (some (.Name x pos')) pos.line X.env=pure false:=by rfl)(hf:X.fn x=true\/X.env.scope.names.lookup x=some .local:=by first | exact .inl rfl | exact .inr rfl | assumption):
  PS X (.Assign [.Name x pos'] e pos) (nE te (jH i)):=by
 intro pins s G H D I h;refine wpAny_Assign_Name (bA (he pins s G H _ I h) λv s1 ⟨y,H1,I1,r1,q1⟩=>?_) hs;exact yz I1 hN hi hx r1 (λs2 I2=>⟨_,H1,I2,q1⟩) hf
abbrev yL(i j:Nat)(ta:TA):TS:=λD G H=>ta G H λvs H1=>∃v w,vs=[v,w]/\D.nx ((G.set i (some v)).set j (some w)) H1
def CF{i j:Nat}{x y:Str}{a b:Expr}{ta:TA}{px py pt:Pos}{kt k2 EB}(hc:X.calm=true)(hN:X.N.Nodup)(hi:X.N[i]?=some x)(hj:X.N[j]?=some y)(hij:i≠j)
  (hx:X.env.scope.names.lookup x=some .local) (hy:X.env.scope.names.lookup y=some .local) (ha:PA X [a,b] ta)
  (hw:swappedStores [.Tuple [.Name x px,.Name y py] kt pt] (.Tuple [a,b] k2 EB) X.env=pure (some [x,y]))
  (hs:swapsWithSole [.Tuple [.Name x px,.Name y py] kt pt] (.Tuple [a,b] k2 EB) pos.line X.env=pure false:=by rfl) :
  PS X (.Assign [.Tuple [.Name x px,.Name y py] kt pt] (.Tuple [a,b] k2 EB) pos) (yL i j ta):=by
 intro pins s G H D I h;rw[exec_Assign_arm];refine wpAny_bind (wpAny_standAt ?_);rw[hs];refine wpAny_bind (wpAny_pure ?_);rw[if_neg ∅];refine wpAny_bind (Tuple_ (bA (ha _ pins s G H _ I h) λus s1 ⟨vs,H1,I1,r1,q1⟩=>?_));obtain⟨v,w,e1,q1⟩:=q1;subst e1;obtain⟨u1,u2,rfl,rv,rw'⟩:∃u1 u2,us=[u1,u2]/\RelV v u1/\RelV w u2:=by
  cases r1 with
  |cons p q =>
   cases q with
   |cons p' q' =>
    cases q';exact⟨_,_,rfl,p,p'⟩
 refine wpAny_newObj_type ?_ (by show 2<=sizeLine;decide);have I2:Inv X pins G H1 { s1 with heap:=s1.heap.push { cls:=.type "tuple",data:=.seq [u1,u2].toArray } }:=I1.kept (t':=s1.toks) λb o e=>S9 _ e;rw[hw];refine wpAny_bind (wpAny_pure ?_);show wpAny (model X.prog X.w) X.A (do rule "assign.swapped-stores";let items <- unpackItems (.ref s1.heap.objs.size) 2 none;assignInOrder [λv=>bindName X.env y v,λv=>bindName X.env x v] items.reverse;pure Flow.next) _ _ _;refine wpAny_bind (wpAny_rule (wpAny_bind (unpackItems_tuple (items:=#[u1,u2]) (I.ok.hd hc) (IsTup.new s1.heap _) λh' hx'=>?_)));have I3:=I2.kept (h':=h') (t':=s1.toks) λb o e=>hx' b o (T7 (Ts e)) e;show wpAny _ _ (assignInOrder [λv=>bindName X.env y v,λv=>bindName X.env x v] [u2,u1] >>= λ_=>pure Flow.next) _ _ _;refine wpAny_bind (assignInOrder_cons (wpAny_bindName (yz I3 hN hj (.inl hy) rw' (λs2 I4=>?_) (.inr hy))));refine assignInOrder_cons (wpAny_bindName (yz I4 hN hi (.inl hx) rv (λs3 I5=>assignInOrder_nil (wpAny_pure ?_)) (.inr hx)));rw[List.set_comm _ _ (Ne.symm hij)]at I5;exact⟨_,H1,I5,q1⟩
end
section
variable {X:Cx}{pos:Pos}
abbrev pQ(c:TT)(tb:TS):TS:=λD G H=>∃W:Nat->St->Hp->Prop,(∃m,W m G H)/\∀m G H,W m G H ->
 c G H λb H1=>if b=true then∃N:St->Hp->Prop,(∀G' H',N G' H'->∃m',m' < m/\W m' G' H')/\tb { D with nx:=N,ct:=N,bk:=D.nx } G H1 else D.nx G H1
def EC{c:Expr}{body:List Stmt}{tc:TT}{tb:TS}(hp:PassesOwn (model X.prog X.w) X.A X.env X.xe)(hc:PT X c tc)(hb:kN X body tb):PS X (.While c body [] pos) (pQ tc tb):=by
 intro pins s G H D I h;obtain⟨W,⟨m0,w0⟩,turn⟩:=h;refine wpAny_While (codeAny_whileLoop (λn s'=>∃G' H',Inv X pins G' H' s'/\W n G' H') ?_ m0 ⟨G,H,I,w0⟩);rintro n s1 ⟨G1,H1,I1,w1⟩;refine wpAny_passesOwn hp (bA (hc pins s1 G1 H1 _ I1 (turn n G1 H1 w1)) λb s2 ⟨H2,I2,q2⟩=>?_);cases b with
 |true =>
  obtain⟨N,hN,q2⟩:=q2;rw[if_pos rfl];refine wpAny_passesOwn hp (bA (hb pins s2 G1 H2 _ I2 q2) λf s3 q3=>?_);cases f with
  |next =>
   obtain⟨G3,H3,I3,n3⟩:=q3;obtain⟨m',hm,w3⟩:=hN G3 H3 n3;exact⟨m',hm,G3,H3,I3,w3⟩
  |cont =>
   obtain⟨G3,H3,I3,n3⟩:=q3;obtain⟨m',hm,w3⟩:=hN G3 H3 n3;exact⟨m',hm,G3,H3,I3,w3⟩
  |brk=>exact q3
  |ret v=>exact q3
 |false =>
  rw[if_neg Tb];exact wpAny_execs_nil ⟨G1,H2,I2,q2⟩
end
set_option genInjectivity false in
structure It where
 go:Nat->Hp->Prop
 pE:Nat->Hp->V->Hp->Prop
 stop:Nat->Hp->Prop
abbrev eK(X:Cx)(pins:List (Addr×Obj))(H:Hp)(b:Addr):Prop :=
 H b=none/\b≠X.env.locals/\b ∉ X.fs/\(b∈X.ex\/X.s₀.heap.objs.size<=b)/\(∀x c,X.env.cells.lookup x=some c->c≠b)/\∀p∈X.pn ++ pins,p.1≠b
def Inv.mv{X:Cx}{pins:List (Addr×Obj)}{G:St}{H H':Hp}{s:Shared}{b:Addr}(I:Inv X pins G H s)(hb:s.heap.objs.size<=b)(hn:H' b=none):eK X pins H' b:=by refine⟨hn,UU (TH I.lt hb),I.yw hb,.inr (TF I.sz hb),λx c e z=>?_,λp hp z=>?_⟩;obtain⟨v,q⟩:=I.cell x c e;exact absurd (TH q.lt (by rw[z];exact hb)) (UO _);exact absurd (TH (Ts (I.pin p hp).1) (by rw[z];exact hb)) (UO _)
structure Turn(P:Program)(w:World)(K:Zfr)(tg:Expr)(J:It)(fp:List Addr)(it:Addr)(tn:Nat->Heap->Prop):Prop where
 mem:it∈fp
 obj:∀i h,tn i h->∀b∈fp,∃o,h.get? b=some o/\∀v,o.data≠.cell v
 keep:∀i h h',tn i h->(∀b∈fp,∀o,h.get? b=some o->h'.get? b=some o)->tn i h'
 item:∀(X:Cx),X.prog=P->X.w=w->X.K=K->X.calm=true->∀(i:Nat) (pins:List (Addr×Obj)) (s:Shared) (G:St) (H:Hp) (E:Value->Shared->Prop),Inv X pins G H s->(∀b∈fp,eK X pins H b)->tn i s.heap->J.go i H ->
  wpAny (model P w) X.A (pyNext (.ref it)) (λr s1=>∃u,r=some u /\
   wpAny (model P w) X.A (letOwnedTupleGo tg (.ref it) u) (λ_ s2=>∃x H',Inv X pins G H' s2/\RelV x u/\J.pE i H x H'/\tn (i+1) s2.heap/\∀b∈fp,H' b=none) E s1) E s
 done:∀(X:Cx),X.prog=P->X.w=w->X.K=K->X.calm=true->∀(i:Nat) (pins:List (Addr×Obj)) (s:Shared) (G:St) (H:Hp) (E:Value->Shared->Prop),Inv X pins G H s->(∀b∈fp,eK X pins H b)->tn i s.heap->J.stop i H ->
  wpAny (model P w) X.A (pyNext (.ref it)) (λr s1=>r=none/\Inv X pins G H s1) E s
 self:∀(A:Around) (i:Nat) (s:Shared) (Q:Value->Shared->Prop) (E:Value->Shared->Prop),tn i s.heap->Q (.ref it) s->wpAny (model P w) A (pyIter (.ref it)) Q E s
@[reducible]def TI:=St->Hp->(It->Hp->Prop)->Prop
abbrev HN(X:Cx)(pins:List (Addr×Obj))(G:St)(tg:Expr)(R:It->Hp->Prop)(itv:Value)(s2:Shared):Prop :=
 ∃(it:Addr) (fp:List Addr) (tn:Nat->Heap->Prop) (J:It) (H':Hp),itv=.ref it/\Inv X pins G H' s2/\Turn X.prog X.w X.K tg J fp it tn/\tn 0 s2.heap/\(∀b∈fp,eK X pins H' b)/\R J H'
abbrev PI(X:Cx)(tg iter:Expr)(wi:TI):Prop :=
 ∀(pins:List (Addr×Obj)) (s:Shared) (G:St) (H:Hp) (R:It->Hp->Prop),Inv X pins G H s->wi G H R ->
  wpAny (model X.prog X.w) X.A (eval iter X.env) (λv s1=>wpAny (model X.prog X.w) X.A (pyIter v) (HN X pins G tg R) X.xe s1) X.xe s
def yM{M:Model}{A:Around}{E:Value->Shared->Prop}{s:Shared}{tg:Expr}{it:Addr}{u:Value}{o:Obj}{n:String}{vs:Array Value}{Q:Unit->Shared->Prop}(ho:s.heap.get? it=some o)(hc:o.cls=.type n)(hd:o.data=.fields vs)
  (hn:["enumerate","zip","dict_itemiterator","dict_reverseitemiterator","odict_iterator","itertools.zip_longest","itertools.pairwise"].contains n=false) (hQ:Q () s):wpAny M A (letOwnedTupleGo tg (.ref it) u) Q E s:=by
 unfold letOwnedTupleGo;cases tg<;>first
  |exact wpAny_pure hQ
  | (cases u <;> first
    |exact wpAny_pure hQ
    | (refine wpAny_bind (wpAny_load ho ?_)
       rw[hc,hd];show wpAny M A (if(["enumerate","zip","dict_itemiterator","dict_reverseitemiterator","odict_iterator","itertools.zip_longest","itertools.pairwise"].contains n && vs[0]? == some (rawInt _))=true then _ else _) Q E s;rw[if_neg (by intro h;rw[hn,Bool.false_and]at h;cases h)]
       exact wpAny_pure hQ))
abbrev HP(K:Zfr)(a:Addr):It :=
 ⟨λi H=>∃xs x,fG K H a xs/\xs[i]?=some x,λi H x H'=>H'=H/\∀xs,fG K H a xs->xs[i]?=some x,λi H=>∃xs,fG K H a xs/\xs.length<=i⟩
abbrev HQ(K:Zfr)(a:Addr):It :=
 ⟨λi H=>∃xs x,df K H a xs/\xs[i]?=some x,λi H x H'=>H'=H/\∀xs,df K H a xs->xs[i]?=some x,λi H=>∃xs,df K H a xs/\xs.length<=i⟩
abbrev CG(lo:Int)(n:Nat):It:=⟨λi _=>i<n,λi H x H'=>H'=H/\x=.int (lo+i),λi _=>n<=i⟩
def Mw{P:Program}{w:World}{K:Zfr}{tg:Expr}(a it:Addr):Turn P w K tg (HP K a) [it] it (λi h=>h.IsListIter it a i) where
 mem:=by simp
 obj:=λi h st b hb=>by
  have e:b=it:=by simpa using hb
  subst e;obtain⟨o,e,c,d⟩:=st;exact⟨o,e,λv z=>by rw[d]at z;cases z⟩
 keep:=λi h h' st k=>st.at λo e=>k it (by simp) o e
 item:=by
  intro X hP hw hK hc i pins s G H E I hf st hg;subst hP hw hK;obtain⟨xs,x,hq,hx⟩:=hg;obtain⟨its,rv,p,hz⟩:=I.list hq;obtain⟨u,hu,ru⟩:=rv.get hx;obtain⟨f0,f1,f2,f3,f4,f5⟩:=hf it (by simp);refine wpAny_pyNext_list_item st p.isList (x:=u) (by simpa using hu) λh' st' sb=>?_;have I1:Inv X pins G H { s with heap:=h' }:=I.turned (t':=s.toks) (λb o hb e=>(sb.2 b hb).trans e) f0 f1 f3 f4 f5;obtain⟨o,e,c,d⟩:=id st';exact⟨u,rfl,yM (s:={ s with heap:=h' }) e c d ∅ ⟨x,H,I1,ru,⟨rfl,λys hy=>by rw[I.mr hy hq];exact hx⟩,st',λb hb=>(hf b hb).1⟩⟩
 done:=by
  intro X hP hw hK hc i pins s G H E I hf st hg;subst hP hw hK;obtain⟨xs,hq,hx⟩:=hg;obtain⟨its,rv,p,hz⟩:=I.list hq;obtain⟨f0,f1,f2,f3,f4,f5⟩:=hf it (by simp);have hl:=rv.length;exact wpAny_pyNext_list_end (I.ok.hd hc) st p.isList (by simp;lk) λh' eb=>⟨rfl,I.turned (t':=s.toks) (λb o hb e=>eb b o hb e) f0 f1 f3 f4 f5⟩
 self:=λ_ _ _ _ _ st h=>wpAny_pyIter_listiter st h
def Mx{P:Program}{w:World}{K:Zfr}{tg:Expr}(a it:Addr):Turn P w K tg (HQ K a) [it] it (λi h=>h.IsTupleIter it a i) where
 mem:=by simp
 obj:=λi h st b hb=>by
  have e:b=it:=by simpa using hb
  subst e;obtain⟨o,e,c,d⟩:=st;exact⟨o,e,λv z=>by rw[d]at z;cases z⟩
 keep:=λi h h' st k=>st.at λo e=>k it (by simp) o e
 item:=by
  intro X hP hw hK hc i pins s G H E I hf st hg;subst hP hw hK;obtain⟨xs,x,hq,hx⟩:=hg;obtain⟨its,rv,p,hz⟩:=I.tuple hq;obtain⟨u,hu,ru⟩:=rv.get hx;obtain⟨f0,f1,f2,f3,f4,f5⟩:=hf it (by simp);refine wpAny_pyNext_tuple_item st (show s.heap.IsTuple a its.toArray from p) (x:=u) (by simpa using hu) λh' st' sb=>?_;have I1:Inv X pins G H { s with heap:=h' }:=I.turned (t':=s.toks) (λb o hb e=>(sb.2 b hb).trans e) f0 f1 f3 f4 f5;obtain⟨o,e,c,d⟩:=id st';exact⟨u,rfl,yM (s:={ s with heap:=h' }) e c d ∅ ⟨x,H,I1,ru,⟨rfl,λys hy=>by rw[I.jz hy hq];exact hx⟩,st',λb hb=>(hf b hb).1⟩⟩
 done:=by
  intro X hP hw hK hc i pins s G H E I hf st hg;subst hP hw hK;obtain⟨xs,hq,hx⟩:=hg;obtain⟨its,rv,p,hz⟩:=I.tuple hq;obtain⟨f0,f1,f2,f3,f4,f5⟩:=hf it (by simp);have hl:=rv.length;exact wpAny_pyNext_tuple_end (I.ok.hd hc) st (show s.heap.IsTuple a its.toArray from p) (by simp;lk) λh' eb=>⟨rfl,I.turned (t':=s.toks) (λb o hb e=>eb b o hb e) f0 f1 f3 f4 f5⟩
 self:=λ_ _ _ _ _ st h=>wpAny_pyIter_tupleiter st h
def Mz{P:Program}{w:World}{K:Zfr}{tg:Expr}(it:Addr)(lo:Int)(n:Nat):Turn P w K tg (CG lo n) [it] it (λi h=>IsRangeIter h it (lo+(i:Nat)*1) ((n:Int)-(i:Nat)) 1) where
 mem:=by simp
 obj:=λi h st b hb=>by
  have e:b=it:=by simpa using hb
  subst e
  exact⟨_,st,λv z=>by
   have z':Data.fields _=Data.cell v:=z
   cases z'⟩
 keep:=λi h h' st k=>k it (by simp) _ st
 item:=by
  intro X hP hw hK hc i pins s G H E I hf st hg;subst hP hw hK;obtain⟨f0,f1,f2,f3,f4,f5⟩:=hf it (by simp);have W:=Walks.range (prog:=X.prog) (w:=X.w) (I.ok.hd hc) it lo 1 n;refine W.item i s _ _ hg st λv h' tk hv st' kk=>?_;obtain⟨t,rfl⟩:=hv;have I1:Inv X pins G H { s with heap:=h',toks:=tk }:=I.turned (λb o hb e=>kk b o (by simpa using hb) e) f0 f1 f3 f4 f5;refine⟨_,rfl,yM (s:={ s with heap:=h',toks:=tk }) (n:="range_iterator") st' rfl rfl ∅ ⟨.int (lo+i),H,I1,⟨t,?_⟩,⟨rfl,rfl⟩,st',λb hb=>(hf b hb).1⟩⟩;rw[Int.mul_one]
 done:=by
  intro X hP hw hK hc i pins s G H E I hf st hg;subst hP hw hK;obtain⟨f0,f1,f2,f3,f4,f5⟩:=hf it (by simp);exact wpAny_pyNext_range_end (I.ok.hd hc) st (by have:n<=i:=hg;lk) λh' eb=>⟨rfl,I.turned (t':=s.toks) (λb o hb e=>eb b o hb e) f0 f1 f3 f4 f5⟩
 self:=λ_ _ _ _ _ st h=>wpAny_pyIter_rangeiter st h
section
variable {X:Cx}{tg:Expr}
abbrev sI(K:Zfr)(tl:TE):TI:=λG H R=>tl G H λx H1=>∃a,x=.ref a/\(∃xs,fG K H1 a xs)/\R (HP K a) H1
abbrev uF(K:Zfr)(tl:TE):TI:=λG H R=>tl G H λx H1=>∃a,x=.ref a/\(∃xs,df K H1 a xs)/\R (HQ K a) H1
def CH{l:Expr}{tl:TE}(hl:PE X l tl):PI X tg l (sI X.K tl):=by
 intro pins s G H R I h;refine bA (hl pins s G H _ I h) λv s1 ⟨x,H1,I1,r1,q1⟩=>?_;obtain⟨a,e,⟨xs,hq⟩,q⟩:=q1;subst e;cases r1;obtain⟨its,rv,p,hz⟩:=I1.list hq;refine wpAny_pyIter_list p.isList ?_;refine⟨s1.heap.objs.size,[s1.heap.objs.size],_,_,H1,rfl,I1.kept (t':=s1.toks) λb o e=>S9 _ e,Mw a _,⟨_,To _ rfl,rfl,rfl⟩,λb hb=>?_,q⟩;have e:b=s1.heap.objs.size:=by simpa using hb
 subst e;exact I1.mv (Tc _) (I1.hok.fresh (Tc _))
def CI{l:Expr}{tl:TE}(hl:PE X l tl):PI X tg l (uF X.K tl):=by
 intro pins s G H R I h;refine bA (hl pins s G H _ I h) λv s1 ⟨x,H1,I1,r1,q1⟩=>?_;obtain⟨a,e,⟨xs,hq⟩,q⟩:=q1;subst e;cases r1;obtain⟨its,rv,p,hz⟩:=I1.tuple hq;refine wpAny_pyIter_tuple (show s1.heap.IsTuple a its.toArray from p) ?_;refine⟨s1.heap.objs.size,[s1.heap.objs.size],_,_,H1,rfl,I1.kept (t':=s1.toks) λb o e=>S9 _ e,Mx a _,⟨_,To _ rfl,rfl,rfl⟩,λb hb=>?_,q⟩;have e:b=s1.heap.objs.size:=by simpa using hb
 subst e;exact I1.mv (Tc _) (I1.hok.fresh (Tc _))
def MA{pins:List (Addr×Obj)}{G:St}{H:Hp}{s:Shared}{R:It->Hp->Prop}{E:Value->Shared->Prop}{lo hi:Int}{t u v:Tok}{tk:Nat}(I:Inv X pins G H s)(h1:-(2 ^ 62)<=lo)(h2:lo<2 ^ 62)(h3:-(2 ^ 62)<=hi)(h4:hi<2 ^ 62)
  (q:R (CG lo (hi-lo).toNat) H):wpAny (model X.prog X.w) X.A (pyIter (.ref s.heap.objs.size)) (HN X pins G tg R) E { s with heap:=s.heap.push { cls:=.type "range",data:=.fields #[.int lo t,.int hi u,.int 1 v] },toks:=tk }:=by
 refine wpAny_pyIter_range (IsRange.new ..) (small_one h1 h2 h3 h4) ?_;have I1:Inv X pins G H { s with heap:=s.heap.push { cls:=.type "range",data:=.fields #[.int lo t,.int hi u,.int 1 v] },toks:=tk }:=I.kept λb o e=>S9 _ e
 refine⟨(s.heap.push { cls:=.type "range",data:=.fields #[.int lo t,.int hi u,.int 1 v] }).objs.size,[(s.heap.push { cls:=.type "range",data:=.fields #[.int lo t,.int hi u,.int 1 v] }).objs.size],_,_,H,rfl,
  I1.kept (t':=tk) λb o e=>S9 _ e,Mz _ lo (hi-lo).toNat,?_,λb hb=>?_,q⟩
 have e1:lo+((0:Nat):Int)*1=lo:=by simp
 have e2:(((hi-lo).toNat:Nat):Int)-((0:Nat):Int)=Builtin.Range.rangeSize lo hi 1:=by rw[rangeSize_one];split<;>lk
 show IsRangeIter _ _ (lo+((0:Nat):Int)*1) ((((hi-lo).toNat:Nat):Int)-((0:Nat):Int)) 1;rw[e1,e2];exact To _ rfl;have e:b=(s.heap.push { cls:=.type "range",data:=.fields #[.int lo t,.int hi u,.int 1 v] }).objs.size:=by simpa using hb
 subst e;exact I1.mv (Tc _) (I1.hok.fresh (Tc _))
abbrev sJ(ta:TA):TI:=λG H R=>ta G H λvs H1=>∃j:Int,vs=[.int j]/\-(2 ^ 62)<=j/\j<2 ^ 62/\R (CG 0 j.toNat) H1
def sL{a:Expr}{ta:TA}{p pos:Pos}(hg:Gl X "range")(hm:X.mg "range" = none)(ha:PA X [a] ta)(hs:starEach [a] X.env=[(false,eval a X.env)]:=by rfl):PI X tg (.Call (.Name "range" p) [a] [] pos) (sJ ta):=by
 intro pins s G H R I h;refine Call_ (xM I hg hm boot_range (PyProof.Rows.callWith_type1 (bA (ha pos pins s G H _ I h) λus s1 ⟨vs,H1,I1,r1,q1⟩=>?_) hs rfl));obtain⟨j,e,q1,q2,q⟩:=q1;subst e;cases r1 with
 |cons r rr =>
  cases rr;obtain⟨t,rfl⟩:=r;exact call_range_1 (MA I1 ⋯ ⋯ q1 q2 (by simpa using q))
abbrev uG(wi:TI)(g:TG)(tb:TS):TS:=λD G H=>wi G H λJ H1=>∃W:Nat->Nat->St->Hp->Prop,(∃m,W 0 m G H1)/\∀i m G H,W i m G H ->
 (J.stop i H/\D.nx G H)\/(J.go i H/\∃N:St->Hp->Prop,(∀G' H',N G' H'->∃m',m' < m/\W (i+1) m' G' H')/\∀x H',J.pE i H x H'->g x G H' λG2 H2=>tb { D with nx:=N,ct:=N,bk:=D.nx } G2 H2)
abbrev j6(fp:List Addr)(h:Heap):List (Addr×Obj):=fp.filterMap λb=>(h.get? b).map λo=>(b,o)
def CJ{fp:List Addr}{h:Heap}{b:Addr}{o:Obj}(hb:b∈fp)(e:h.get? b=some o):(b,o)∈j6 fp h:=List.mem_filterMap.mpr ⟨b,hb,by rw[e];rfl⟩
def MB{fp:List Addr}{h:Heap}{p:Addr×Obj}(hp:p∈j6 fp h):p.1∈fp/\h.get? p.1=some p.2:=by
 obtain⟨b,hb,e⟩:=List.mem_filterMap.mp hp;cases q:h.get? b with
 |none=>rw[q]at e;cases e
 |some o =>
  rw[q]at e;have e':(b,o)=p:=Tq e;subst e';exact⟨hb,q⟩
def Inv.pinned{pins:List (Addr×Obj)}{G:St}{H:Hp}{s:Shared}{fp:List Addr}(I:Inv X pins G H s)(hf:∀b∈fp,eK X pins H b)(ho:∀b∈fp,∃o,s.heap.get? b=some o/\∀v,o.data≠.cell v):Inv X (pins ++ j6 fp s.heap) G H s :=
 I.jW λp hp=>(Tw.mp hp).elim (λz=>I.pin p (TJ _ z)) λz=>by
  obtain⟨hb,e⟩:=MB z;obtain⟨f0,f1,f2,_⟩:=hf p.1 hb;obtain⟨o,e',d⟩:=ho p.1 hb;rw[e]at e';cases e';exact⟨e,f0,f1,f2,d⟩
def Inv.jl{pins pl:List (Addr×Obj)}{G:St}{H:Hp}{s:Shared}(I:Inv X (pins ++ pl) G H s):Inv X pins G H s:=I.jW λp hp=>I.pin p (TJ _ (Ui _ hp))
def CK{iter:Expr}{body:List Stmt}{wi:TI}{g:TG}{tb:TS}{pos:Pos}(hp:PassesOwn (model X.prog X.w) X.A X.env X.xe)(hc:X.calm=true)(hi:PI X tg iter wi)(hg:PG X tg g)(hb:kN X body tb)
  (hs:∀x,foldedSetIterable iter X.env x=pure x:=by intro _;rfl):PS X (.For tg iter body [] pos) (uG wi g tb):=by
 intro pins s G H D I h;refine wpAny_For (bA (hi pins s G H _ I h) λv s1 h1=>bA h1 λitv s2 h2=>?_) hs;obtain⟨it,fp,tn,J,H2,e,I2,T,st2,f2,W,⟨m0,w0⟩,turn⟩:=h2;subst e;have stat:∀{H':Hp},(∀b∈fp,H' b=none)->∀b∈fp,eK X pins H' b:=λhn b hb=>⟨hn b hb,(f2 b hb).2⟩;refine codeAny_forLoop_any (λn s'=>∃i G' H',Inv X pins G' H' s'/\tn i s'.heap/\(∀b∈fp,H' b=none)/\W i n G' H') ?_ m0 ⟨0,G,H2,I2,st2,λb hb=>(f2 b hb).1,w0⟩;rintro n s3 ⟨i,G3,H3,I3,st3,HR,w3⟩;rcases turn i n G3 H3 w3 with⟨stop,qn⟩|⟨go,N,hN,step⟩
 ·refine wpAny_passesOwn hp (bA (T.done X rfl rfl rfl hc i pins s3 G3 H3 X.xe I3 (stat HR) st3 stop) λr s4 ⟨hr,I4⟩=>?_)
  subst hr;exact wpAny_execs_nil ⟨G3,H3,I4,qn⟩
 ·refine wpAny_passesOwn hp (bA (T.item X rfl rfl rfl hc i pins s3 G3 H3 X.xe I3 (stat HR) st3 go) λr s4 ⟨u,hr,h4⟩=>?_)
  subst hr;refine wpAny_passesOwn hp (bA h4 λ_ s5 ⟨x,H5,I5,r5,y5,mW,CL⟩=>?_);have MC:=I5.pinned (stat CL) (T.obj _ _ mW);refine wpAny_passesOwn hp (bA (hg _ s5 G3 H5 x u _ MC r5 (step x H5 y5)) λ_ s6 ⟨G6,H6,I6,q6⟩=>?_);refine wpAny_passesOwn hp (bA (hb _ s6 G6 H6 _ I6 q6) λf s7 q7=>?_);have again:∀{G7:St} {H7:Hp},Inv X (pins ++ j6 fp s5.heap) G7 H7 s7->N G7 H7->∃m,m<n/\∃i G' H',Inv X pins G' H' s7/\tn i s7.heap/\(∀b∈fp,H' b=none)/\W i m G' H':=λ{G7 H7} I7 n7=>by
   obtain⟨m',hm,w7⟩:=hN G7 H7 n7;refine⟨m',hm,i+1,G7,H7,I7.jl,T.keep _ _ _ mW λb hb o e=>(I7.pin (b,o) (TJ _ (TJ _ (CJ hb e)))).1,λb hb=>?_,w7⟩;obtain⟨o,e,d⟩:=T.obj _ _ mW b hb;exact(I7.pin (b,o) (TJ _ (TJ _ (CJ hb e)))).2.1
  cases f with
  |next=>obtain⟨G7,H7,I7,n7⟩:=q7;exact again I7 n7
  |cont=>obtain⟨G7,H7,I7,n7⟩:=q7;exact again I7 n7
  |brk=>obtain⟨G7,H7,I7,q7⟩:=q7;exact⟨G7,H7,I7.jl,q7⟩
  |ret v=>obtain⟨x7,G7,H7,I7,r7,q7⟩:=q7;exact⟨x7,G7,H7,I7.jl,r7,q7⟩
end
@[reducible]def R2:=V->V->Hp->VK->Prop
abbrev iS(X:Cx)(f:Value->Value->Sem Value)(r:R2):Prop :=
 ∀(pins:List (Addr×Obj)) (s:Shared) (G:St) (H:Hp) (x y:V) (v u:Value) (Q:VK),Inv X pins G H s->RelV x v->RelV y u->r x y H Q ->
  wpAny (model X.prog X.w) X.A (f v u) (EP X pins G Q) X.xe s
abbrev ED(X:Cx)(f:Value->Sem Value)(r:V->Hp->VK->Prop):Prop :=
 ∀(pins:List (Addr×Obj)) (s:Shared) (G:St) (H:Hp) (x:V) (v:Value) (Q:VK),Inv X pins G H s->RelV x v->r x H Q ->
  wpAny (model X.prog X.w) X.A (f v) (EP X pins G Q) X.xe s
abbrev dg(X:Cx)(f:Value)(r:List V->Hp->VK->Prop):Prop :=
 ∀(pins:List (Addr×Obj)) (s:Shared) (G:St) (H:Hp) (xs:List V) (us:List Value) (Q:VK),Inv X pins G H s->Vals xs us->r xs H Q ->
  wpAny (model X.prog X.w) X.A (call f us) (EP X pins G Q) X.xe s
abbrev yN(r:R2)(ta tb:TE):TE:=λG H Q=>ta G H λx H1=>tb G H1 λy H2=>r x y H2 Q
abbrev HS(r:V->Hp->VK->Prop)(ta:TE):TE:=λG H Q=>ta G H λx H1=>r x H1 Q
abbrev rI(C:Int->Int->Prop)(g:Int->Int->V):R2:=λx y H Q=>∃i j,x=.int i/\y=.int j/\C i j/\Q (g i j) H
abbrev nF(g:Int->Int->V):R2:=λx y H Q=>∃i j,x=.int i/\y=.int j/\Q (g i j) H
abbrev rU(g:Int->V):V->Hp->VK->Prop:=λx H Q=>∃i,x=.int i/\Q (g i) H
section
variable {X:Cx}{a b c:Expr}{ta tb tc:TE}{pos:Pos}
def uH(ha:PE X a ta)(hb:PE X b tb){pins:List (Addr×Obj)}{s:Shared}{G:St}{H:Hp}{R:V->V->Hp->Prop}(I:Inv X pins G H s)
  (h:ta G H λx H1=>tb G H1 λy H2=>R x y H2) {Q:Value->Shared->Prop} {f:Value->Value->Sem Value}
  (hf:∀v u s2 x y H2,Inv X pins G H2 s2->RelV x v->RelV y u->R x y H2->wpAny (model X.prog X.w) X.A (f v u) Q X.xe s2) :
  wpAny (model X.prog X.w) X.A (eval a X.env) (λv s₁=>wpAny (model X.prog X.w) X.A (eval b X.env) (λu s₂=>wpAny (model X.prog X.w) X.A (f v u) Q X.xe s₂) X.xe s₁) X.xe s:=by
 refine bA (ha pins s G H _ I h) λv s1 ⟨x,H1,I1,r1,q1⟩=>?_;refine bA (hb pins s1 G H1 _ I1 q1) λu s2 ⟨y,H2,I2,r2,q2⟩=>?_;exact hf v u s2 x y H2 I2 r1 r2 q2
def bS{op:Operator}{r:R2}(ho:iS X (binaryOp op) r)(ha:PE X a ta)(hb:PE X b tb):PE X (.BinOp a op b pos) (yN r ta tb):=by intro pins s G H Q I h;exact wpAny_BinOp (uH ha hb I h λv u s2 x y H2 I2 rx ry q=>ho pins s2 G H2 x y v u Q I2 rx ry q)
def yO{op:UnaryOp}{r:V->Hp->VK->Prop}(ho:ED X (unaryOp op) r)(ha:PE X a ta):PE X (.UnaryOp op a pos) (HS r ta):=by intro pins s G H Q I h;exact UnaryOp_ (bA (ha pins s G H _ I h) λv s1 ⟨x,H1,I1,r1,q1⟩=>ho pins s1 G H1 x v Q I1 r1 q1)
def CM{f:Value->Value->Sem Value}{C:Int->Int->Prop}{g:Int->Int->Int}
  (rule:∀(i j:Int) (t u:Tok) (s:Shared) (Q:Value->Shared->Prop) (E:Value->Shared->Prop),C i j->Q (.int (g i j) s.toks) { s with toks:=s.toks+1 }->wpAny (model X.prog X.w) X.A (f (.int i t) (.int j u)) Q E s) :
  iS X f (rI C λi j=>.int (g i j)):=by
 intro pins s G H x y v u Q I rx ry h;obtain⟨i,j,rfl,rfl,hc,q⟩:=h;obtain⟨t,rfl⟩:=rx;obtain⟨t',rfl⟩:=ry;exact rule i j t t' s _ _ hc ⟨.int (g i j),H,I.tok _,⟨_,rfl⟩,q⟩
def yP{f:Value->Value->Sem Value}{g:Int->Int->Int}
  (rule:∀(i j:Int) (t u:Tok) (s:Shared) (Q:Value->Shared->Prop) (E:Value->Shared->Prop),Q (.int (g i j) s.toks) { s with toks:=s.toks+1 }->wpAny (model X.prog X.w) X.A (f (.int i t) (.int j u)) Q E s) :
  iS X f (nF λi j=>.int (g i j)):=by
 intro pins s G H x y v u Q I rx ry h;obtain⟨i,j,rfl,rfl,q⟩:=h;obtain⟨t,rfl⟩:=rx;obtain⟨t',rfl⟩:=ry;exact rule i j t t' s _ _ ⟨.int (g i j),H,I.tok _,⟨_,rfl⟩,q⟩
def rj{f:Value->Value->Sem Value}{g:Int->Int->Bool}
  (rule:∀(i j:Int) (t u:Tok) (s:Shared) (Q:Value->Shared->Prop) (E:Value->Shared->Prop),Q (.bool (g i j)) s->wpAny (model X.prog X.w) X.A (f (.int i t) (.int j u)) Q E s) :
  iS X f (nF λi j=>.bl (g i j)):=by
 intro pins s G H x y v u Q I rx ry h;obtain⟨i,j,rfl,rfl,q⟩:=h;obtain⟨t,rfl⟩:=rx;obtain⟨t',rfl⟩:=ry;exact rule i j t t' s _ _ ⟨.bl (g i j),H,I,rfl,q⟩
abbrev yQ(i j:Int):Prop:=0<j/\j<1073741824
abbrev yR(i j:Int):Prop:=0<=j/\j<=1000000/\i.natAbs<2 ^ 64
abbrev rk(i j:Int):Prop:=(-(2 ^ 64)<i/\i<2 ^ 64)\/(-(2 ^ 64)<j/\j<2 ^ 64)
def rk.ok{i j:Int}(h:rk i j):IntMulOk i j:=by
 rcases h with⟨h1,h2⟩|⟨h1,h2⟩
 exact .of_left (intBits_le_64 h1 h2);exact .of_right (intBits_le_64 h1 h2)
def kA:iS X (binaryOp .Add) (nF λi j=>.int (i+j)):=yP λ_ _ _ _ _ _ _ q=>add_int q
def HU:iS X (binaryOp .Sub) (nF λi j=>.int (i-j)):=yP λ_ _ _ _ _ _ _ q=>sub_int q
def sM:iS X (binaryOp .Mult) (rI rk λi j=>.int (i*j)):=CM λ_ _ _ _ _ _ _ hc q=>mul_int q hc.ok
def HV:iS X (binaryOp .FloorDiv) (rI yQ λi j=>.int (i / j)):=CM λi j _ _ _ _ _ hc q=>by
 have h1:(0:Int)<j:=hc.1;have h2:j<1073741824:=hc.2;exact floordiv_int ⋯ (by rw[Int.fdiv_eq_ediv_of_nonneg i ⋯];exact q) (.inl (PyProof.noPylong_small ⋯))
def sN:iS X (binaryOp .Mod) (rI (λ_ j=>0<j) λi j=>.int (i % j)):=CM λi j _ _ _ _ _ hc q=>by
 have h1:(0:Int)<j:=hc;exact mod_int' ⋯ (by rw[Int.fmod_eq_emod_of_nonneg i ⋯];exact q)
def HW:iS X (binaryOp .Pow) (rI yR λi j=>.int (i ^ j.toNat)):=CM λ_ _ _ _ _ _ _ hc q=>pow_int_small hc.1 hc.2.1 hc.2.2 q
def MD{f:Value->Sem Value}{g:Int->Int}
  (rule:∀(i:Int) (t:Tok) (s:Shared) (Q:Value->Shared->Prop) (E:Value->Shared->Prop),Q (.int (g i) s.toks) { s with toks:=s.toks+1 }->wpAny (model X.prog X.w) X.A (f (.int i t)) Q E s) :
  ED X f (rU λi=>.int (g i)):=by
 intro pins s G H x v Q I rx h;obtain⟨i,rfl,q⟩:=h;obtain⟨t,rfl⟩:=rx;exact rule i t s _ _ ⟨.int (g i),H,I.tok _,⟨_,rfl⟩,q⟩
def uI:ED X (unaryOp .USub) (rU λi=>.int (-i)):=MD λ_ _ _ _ _ q=>neg_int q
end
abbrev nG:V->V->Bool
 |.non,.non=>true|.non,.int _=>true|.int _,.non=>true|.non,.bl _=>true|.bl _,.non=>true|.non,.str _=>true|.str _,.non=>true
 |.int _,.int _=>true|.bl _,.bl _=>true|.str _,.str _=>true|.pB _,.pB _=>true
 |.int _,.str _=>true|.str _,.int _=>true|.bl _,.str _=>true|.str _,.bl _=>true
 |_,_=>false
abbrev HX:R2:=λx y H Q=>nG x y=true/\Q (.bl (decide (x=y))) H
abbrev HY:R2:=λx y H Q=>nG x y=true/\Q (.bl (!decide (x=y))) H
def HZ{i j:Int}:decide (V.int i=V.int j)=(i == j):=by rw[UG];simp
def Ic{i j:Bool}:decide (V.bl i=V.bl j)=(i == j):=by rw[UG];simp
def Ie{i j:Str}:decide (V.str i=V.str j)=(i == j):=by rw[UG];simp
def Ig{i j:Array UInt8}:decide (V.pB i=V.pB j)=(i.toList == j.toList):=by rw[UG];cases i;cases j;simp
section
variable {X:Cx}{a b c:Expr}{ta tb tc:TE}{pos:Pos}
def iX{pins:List (Addr×Obj)}{G:St}{H:Hp}{s:Shared}{Q:VK}{k k':Bool}(I:Inv X pins G H s)(q:Q (.bl k) H)(e:k=k'):EP X pins G Q (.bool k') s:=by subst e;exact⟨.bl k,H,I,rfl,q⟩
def nH:iS X (compareOp .Eq) HX:=by
 intro pins s G H x y v u Q I rx ry h;obtain⟨hs,q⟩:=h;cases x with
 |non =>
  cases rx;cases y with
  |non=>cases ry;exact PySem.EqNone.eq_none_none (iX I q (by simp))
  |bl j=>cases ry;exact PySem.EqNone.eq_none_bool (iX I q (by simp))
  |int j=>obtain⟨t',rfl⟩:=ry;exact PySem.EqNone.eq_none_int (iX I q (by simp))
  |str j=>obtain⟨t',rfl⟩:=ry;exact PySem.EqNone.eq_none_str (iX I q (by simp))
  |_=>exact absurd (show false=true from hs) Tb
 |bl i =>
  cases rx;cases y with
  |non=>cases ry;exact PySem.EqNone.eq_bool_none (iX I q (by simp))
  |bl j=>cases ry;exact eq_bool (iX I q Ic)
  |str j=>obtain⟨t',rfl⟩:=ry;exact PySem.EqMixed.eq_bool_str (iX I q (by simp))
  |_=>exact absurd (show false=true from hs) Tb
 |int i =>
  obtain⟨t,rfl⟩:=rx;cases y with
  |non=>cases ry;exact PySem.EqNone.eq_int_none (iX I q (by simp))
  |int j=>obtain⟨t',rfl⟩:=ry;exact eq_int (iX I q HZ)
  |str j=>obtain⟨t',rfl⟩:=ry;exact PySem.EqMixed.eq_int_str (iX I q (by simp))
  |_=>exact absurd (show false=true from hs) Tb
 |str i =>
  obtain⟨t,rfl⟩:=rx;cases y with
  |non=>cases ry;exact PySem.EqNone.eq_str_none (iX I q (by simp))
  |bl j=>cases ry;exact PySem.EqMixed.eq_str_bool (iX I q (by simp))
  |int j=>obtain⟨t',rfl⟩:=ry;exact PySem.EqMixed.eq_str_int (iX I q (by simp))
  |str j=>obtain⟨t',rfl⟩:=ry;exact eq_str (iX I q Ie)
  |_=>exact absurd (show false=true from hs) Tb
 |pB i =>
  obtain⟨t,rfl⟩:=rx;cases y with
  |pB j=>obtain⟨t',rfl⟩:=ry;exact PySem.W.eq_bytes (iX I q Ig)
  |_=>exact absurd (show false=true from hs) Tb
 |_=>cases y<;>exact absurd (show false=true from hs) Tb
def yS:iS X (compareOp .NotEq) HY:=by
 intro pins s G H x y v u Q I rx ry h;obtain⟨hs,q⟩:=h;cases x with
 |non =>
  cases rx;cases y with
  |non=>cases ry;exact PySem.EqNone.ne_none_none (iX I q (by simp))
  |bl j=>cases ry;exact PySem.EqNone.ne_none_bool (iX I q (by simp))
  |int j=>obtain⟨t',rfl⟩:=ry;exact PySem.EqNone.ne_none_int (iX I q (by simp))
  |str j=>obtain⟨t',rfl⟩:=ry;exact PySem.EqNone.ne_none_str (iX I q (by simp))
  |_=>exact absurd (show false=true from hs) Tb
 |bl i =>
  cases rx;cases y with
  |non=>cases ry;exact PySem.EqNone.ne_bool_none (iX I q (by simp))
  |bl j=>cases ry;exact ne_bool (iX I q (congrArg not Ic))
  |str j=>obtain⟨t',rfl⟩:=ry;exact PySem.EqMixed.ne_bool_str (iX I q (by simp))
  |_=>exact absurd (show false=true from hs) Tb
 |int i =>
  obtain⟨t,rfl⟩:=rx;cases y with
  |non=>cases ry;exact PySem.EqNone.ne_int_none (iX I q (by simp))
  |int j=>obtain⟨t',rfl⟩:=ry;exact ne_int (iX I q (congrArg not HZ))
  |str j=>obtain⟨t',rfl⟩:=ry;exact PySem.EqMixed.ne_int_str (iX I q (by simp))
  |_=>exact absurd (show false=true from hs) Tb
 |str i =>
  obtain⟨t,rfl⟩:=rx;cases y with
  |non=>cases ry;exact PySem.EqNone.ne_str_none (iX I q (by simp))
  |bl j=>cases ry;exact PySem.EqMixed.ne_str_bool (iX I q (by simp))
  |int j=>obtain⟨t',rfl⟩:=ry;exact PySem.EqMixed.ne_str_int (iX I q (by simp))
  |str j=>obtain⟨t',rfl⟩:=ry;exact ne_str (iX I q (congrArg not Ie))
  |_=>exact absurd (show false=true from hs) Tb
 |pB i =>
  obtain⟨t,rfl⟩:=rx;cases y with
  |pB j=>obtain⟨t',rfl⟩:=ry;exact PySem.W.ne_bytes (iX I q (congrArg not Ig))
  |_=>exact absurd (show false=true from hs) Tb
 |_=>cases y<;>exact absurd (show false=true from hs) Tb
def rl:iS X (compareOp .Lt) (nF λi j=>.bl (decide (i<j))):=rj λ_ _ _ _ _ _ _ q=>lt_int q
def EE:iS X (compareOp .LtE) (nF λi j=>.bl (decide (i<=j))):=rj λ_ _ _ _ _ _ _ q=>le_int q
def sP:iS X (compareOp .Gt) (nF λi j=>.bl (decide (j<i))):=rj λ_ _ _ _ _ _ _ q=>gt_int q
def sQ:iS X (compareOp .GtE) (nF λi j=>.bl (decide (j<=i))):=rj λ_ _ _ _ _ _ _ q=>ge_int q
def ME:iS X (compareOp .In) (λx y H Q=>∃i j,x=.str i/\y=.str j/\Q (.bl (!(Builtin.Str.occurrences j i 0 j.length 1).isEmpty)) H):=by intro pins s G H x y v u Q I rx ry h;obtain⟨i,j,rfl,rfl,q⟩:=h;obtain⟨t,rfl⟩:=rx;obtain⟨t',rfl⟩:=ry;exact in_str (iX I q rfl)
def uJ:iS X (compareOp .Is) (λx y H Q=>y=.non/\Q (.bl (decide (x=.non))) H):=by
 intro pins s G H x y v u Q I rx ry h;obtain⟨rfl,q⟩:=h;cases ry;refine is_none_gen (iX I q ?_);cases x<;>first
  |(cases rx;rfl)
  |(obtain⟨t,rfl⟩:=rx;rfl)
def aC(b:Expr){op:CmpOp}(h:op≠.In:=by decide)(h2:op≠.NotIn:=by decide):behindInMarks op b=false:=by
 have e1:(op == CmpOp.In)=false:=by cases op<;>first|rfl|exact absurd rfl h
 have e2:(op == CmpOp.NotIn)=false:=by cases op<;>first|rfl|exact absurd rfl h2
 cases b<;>simp[behindInMarks,e1,e2]
def yT{op:CmpOp}{r:R2}(ho:iS X (compareOp op) r)(ha:PE X a ta)(hb:PE X b tb)(hm:behindInMarks op b=false):PE X (.Compare a [op] [b] pos) (yN r ta tb):=by intro pins s G H Q I h;exact wpAny_Compare1 (uH ha hb I h λv u s2 x y H2 I2 rx ry q=>ho pins s2 G H2 x y v u Q I2 rx ry q) hm
abbrev pS(t:TE):TT:=λG H Q=>t G H λx H'=>∃k,x=.bl k/\Q k H'
def dN{op:CmpOp}{r:R2}(ho:iS X (compareOp op) r)(ha:PE X a ta)(hb:PE X b tb)(hm:behindInMarks op b=false):PT X (.Compare a [op] [b] pos) (pS (yN r ta tb)):=by
 intro pins s G H Q I h
 refine wpAny_isTrue_Compare1 (bA (ha pins s G H _ I h) λv s1 ⟨x,H1,I1,r1,q1⟩=>bA (hb pins s1 G H1 _ I1 q1) λu s2 ⟨y,H2,I2,r2,q2⟩ =>
  bA (ho pins s2 G H2 x y v u _ I2 r1 r2 q2) λc s3 ⟨z,H3,I3,r3,k,e,q3⟩=>?_) hm
 subst e;cases r3;exact wpAny_truthy_bool ⟨H3,I3,q3⟩
abbrev pT(r r':R2)(ta tb tc:TE):TE:=λG H Q=>ta G H λx H1=>tb G H1 λy H2=>r x y H2 λz H3=>∃k,z=.bl k /\
 (if k=true then tc G H3 λw' H4=>r' y w' H4 Q else Q (.bl false) H3)
def Ih{op op':CmpOp}{r r':R2}(ho:iS X (compareOp op) r)(ho':iS X (compareOp op') r')(ha:PE X a ta)(hb:PE X b tb)(hc:PE X c tc)
  (hm:lastMarks [op,op'] [b,c]=false:=by with_unfolding_all rfl):PT X (.Compare a [op,op'] [b,c] pos) (pS (pT r r' ta tb tc)):=by
 intro pins s G H Q I h
 refine isTrue_chain (bA (ha pins s G H _ I h) λv s1 ⟨x,H1,I1,r1,q1⟩=>test_link (bA (hb pins s1 G H1 _ I1 q1) λu s2 ⟨y,H2,I2,r2,q2⟩ =>
  bA (ho pins s2 G H2 x y v u _ I2 r1 r2 q2) λd s3 ⟨z,H3,I3,r3,k,e,q3⟩=>?_)) hm
 subst e;cases r3;refine wpAny_truthy_bool ?_;cases k with
 |false =>
  obtain⟨k',e',q'⟩:=q3;cases e';exact ite_ff ⟨H3,I3,q'⟩
 |true =>
  refine ite_tt (test_last (bA (hc pins s3 G H3 _ I3 q3) λw' s4 ⟨z',H4,I4,r4,q4⟩=>bA (ho' pins s4 G H4 y z' u w' _ I4 r2 r4 q4) λd' s5 ⟨z2,H5,I5,r5,k2,e2,q5⟩=>?_));subst e2;cases r5;exact wpAny_truthy_bool ⟨H5,I5,q5⟩
def jA:(sizeLine:Nat)<2 ^ 63:=by rw[sizeLine_eq];decide
def EF:iS X (binaryOp .Add) (λx y H Q=>∃i j,x=.str i/\y=.str j/\i.length+j.length<=sizeLine/\Q (.str (i ++ j)) H):=by intro pins s G H x y v u Q I rx ry h;obtain⟨i,j,rfl,rfl,hz,q⟩:=h;obtain⟨t,rfl⟩:=rx;obtain⟨t',rfl⟩:=ry;exact add_str (λt' tk=>⟨.str (i ++ j),H,I.tok _,⟨_,rfl⟩,q⟩) hz
def vals1{x:V}{us:List Value}(r:Vals [x] us):∃u,us=[u]/\RelV x u:=by
 cases r with
 |cons r1 r2=>cases r2;exact⟨_,rfl,r1⟩
def vals2{x y:V}{us:List Value}(r:Vals [x,y] us):∃u w',us=[u,w']/\RelV x u/\RelV y w':=by
 cases r with
 |cons r1 r2 =>
  cases r2 with
  |cons r3 r4=>cases r4;exact⟨_,_,rfl,r1,r3⟩
def MF(hc:X.calm=true):dg X (.builtin "max") (λxs H Q=>∃i j,xs=[.int i,.int j]/\Q (.int (if j > i then j else i)) H):=by intro pins s G H xs us Q I r h;obtain⟨i,j,rfl,q⟩:=h;obtain⟨u,w',rfl,⟨t,rfl⟩,⟨t',rfl⟩⟩:=vals2 r;refine max_two_ints (I.ok.hd hc) λh' tk k=>⟨_,H,I.kept k,?_,q⟩;by_cases hj:j > i;rw[if_pos hj,if_pos hj];exact⟨_,rfl⟩;rw[if_neg hj,if_neg hj];exact⟨_,rfl⟩
def Ii:dg X (.type "int") (λxs H Q=>(∃i,xs=[.int i]/\Q (.int i) H)\/∃k,xs=[.bl k]/\Q (.int (if k then 1 else 0)) H):=by
 intro pins s G H xs us Q I r h;rcases h with⟨i,rfl,q⟩|⟨k,rfl,q⟩
 obtain⟨u,rfl,t,rfl⟩:=vals1 r;exact call_int_int ⟨.int i,H,I,⟨_,rfl⟩,q⟩;obtain⟨u,rfl,r1⟩:=vals1 r;cases r1;exact call_int_bool ⟨.int (if k then 1 else 0),H,I.tok _,⟨_,rfl⟩,q⟩
def Ij:dg X (.type "str") (λxs H Q=>∃i,xs=[.int i]/\i.natAbs.log2<1920/\Q (.str (toString i)) H):=by intro pins s G H xs us Q I r h;obtain⟨i,rfl,hz,q⟩:=h;obtain⟨u,rfl,t,rfl⟩:=vals1 r;exact PySem.P.str_of_int hz ⟨.str _,H,I.tok _,⟨_,rfl⟩,q⟩
end
def MG{h:Heap}{dx:Addr}{mA:Str->Option Value}(n:h.Ns1 dx mA):∃od,h.get? dx=some od/\∀name,PySem.W.lookIn name od=some (mA name):=by
 obtain⟨o,es,ep,ho,hd,hk,_,hm⟩:=n;refine⟨o,ho,λname=>?_⟩;have e:=hm name;unfold nsFind findBy at e;rw[<- Array.find?_toList]at e;unfold PySem.W.lookIn;rw[hd];dsimp only;split
 ·rename_i y q
  rw[q]at e;exact congrArg some e
 ·rename_i q
  rw[q]at e;have a:es.toList.any (·.refKey)=false:=by
   rw[List.any_eq_false];intro y hy;obtain⟨z,t,hkey⟩:=hk y (Array.mem_toList_iff.mp hy);simp[DictEntry.refKey,hkey]
  have a':¬es.toList.any (·.refKey)=true:=by rw[a];exact Tb
  rw[if_neg a'];exact congrArg some e
def nA.some_of{v:V}{o:Option Value}(r:nA (some v) o):∃u,o=some u/\RelV v u:=by
 cases o with
 |none=>exact(show False from r).elim
 |some u=>exact⟨u,rfl,r⟩
def MH{v:V}{u:Value}(r:RelV v u):PySem.W.handedIn u=true:=by
 cases v with
 |non=>cases(show u=Value.none from r);rfl
 |bl b=>cases(show u=Value.bool b from r);rfl
 |int i=>obtain⟨t,e⟩:=(show∃t,u=Value.int i t from r);cases e;rfl
 |str x=>obtain⟨t,e⟩:=(show∃t,u=Value.str x t from r);cases e;rfl
 |pB b=>obtain⟨t,e⟩:=(show∃t,u=Value.bytes b t from r);cases e;rfl
 |Cw b=>obtain⟨t,e⟩:=(show∃t,u=Value.float b t from r);cases e;rfl
 |ref a=>cases(show u=Value.ref a from r);rfl
 |ty n=>cases(show u=Value.type n from r);rfl
structure sR(K:Zfr)(C:Addr)(f:Str)(v:V)(u:Value):Prop where
 at_:PySem.W.findIn K (.ref C) f=some (some u)
 rel:RelV v u
 get:PySem.W.specialIn K u "__get__" = some none
 cp:PySem.W.copiedNames.contains f=false
section
variable {X:Cx}{pins:List (Addr×Obj)}{G:St}{H:Hp}{s:Shared}{a C dx:Addr}{fs:List (Str×V)}{f:Str}{v:V}{A:Around}{E:Value->Shared->Prop}
def MI{prog:Program}{w:World}{env:Env}{e:Expr}{f:Str}{pos:Pos}{s:Shared}{Q:Value->Shared->Prop}(hb:attributeBase e f env (eval e env)=eval e env)
  (h:wpAny (model prog w) A (eval e env) (λo s₁=>wpAny (model prog w) A (getAttr o f true) Q E s₁) E s):wpAny (model prog w) A (eval (.Attribute e f pos) env) Q E s :=
 Attribute_any_ h (by rw[arm_eval_Attribute,hb])
end
structure cq(k:Nat)(A:Around):Prop where
 hd:A.handled=none
 dp:A.depth+3*k+5<recursionLimit
 un:A.units+16*k+200<cLine
 gd:A.guards=some []
def cq.mono{j k:Nat}{A:Around}(r:cq k A)(h:j<=k):cq j A:=⟨r.hd,by have:=r.dp;lk,by have:=r.un;lk,r.gd⟩
def cq.deeper{k:Nat}{A:Around}(r:cq (k+1) A)(env:Env):cq k (A.deeper env) :=
 ⟨r.hd,by have:=r.dp;show A.depth+1+3*k+5<_;lk,by have:=r.un;show A.units+3+16*k+200<_;lk,r.gd⟩
def Ik{A:Around}{C:Addr}{us:List Value}{kw:List (Str×Value)}:(A.under (.builtin "type.__call__" ⟨.ref C :: us,kw⟩)).depth=A.depth+1:=by first|rfl|simp[Around.under,Code.weight,Code.isCreation,Code.isGuard,Code.isCaller,Code.frames,Code.isFrame,guardIds]
def Il{A:Around}{C:Addr}{us:List Value}{kw:List (Str×Value)}:(A.under (.builtin "type.__call__" ⟨.ref C :: us,kw⟩)).units=A.units+1:=by first|rfl|simp[Around.under,Code.cUnits,Code.frames,Code.isFrame]
def Im{A:Around}{C:Addr}{us:List Value}{kw:List (Str×Value)}:(A.under (.builtin "type.__call__" ⟨.ref C :: us,kw⟩)).guards=A.guards:=by first|rfl|simp[Around.under,Code.guards,Code.isGuard,pushGuards,guardIds]
def cq.make{k:Nat}{A:Around}(r:cq (k+1) A)(C:Addr)(us:List Value)(kw:List (Str×Value)):cq k (A.under (.builtin "type.__call__" ⟨.ref C :: us,kw⟩)) :=
 ⟨r.hd,by have:=r.dp;rw[Ik];lk,by have:=r.un;rw[Il];lk,by rw[Im];exact r.gd⟩
def cq.depth{k:Nat}{A:Around}(r:cq k A):A.depth<recursionLimit:=by have:=r.dp;lk
def cq.units{k:Nat}{A:Around}(r:cq k A):A.units+64<cLine:=by have:=r.un;lk
abbrev pV:TA:=λ_ H Q=>Q [] H
abbrev jI(ta:TE)(tr:TA):TA:=λG H Q=>ta G H λx H1=>tr G H1 λxs H2=>Q (x :: xs) H2
section
variable {X:Cx}{e:Expr}{es:List Expr}{te:TE}{t:TA}{pos:Pos}
def az:PA X [] pV:=λ_ _ _ _ H Q I h=>Calls.spliced_nil ⟨[],H,I,.nil,h⟩
def MJ(ha:PE X e te)(hr:PA X es t)(hs:starEach (e :: es) X.env=(false,eval e X.env) :: starEach es X.env:=by rfl):PA X (e :: es) (jI te t):=by intro pos pins s G H Q I h;rw[hs];show wpAny _ _ (spliced ((false,eval e X.env) :: backTo pos (starEach es X.env))) _ _ s;refine Calls.spliced_cons (bA (ha pins s G H _ I h) λu s1 ⟨x,H1,I1,r1,q1⟩=>?_);exact bA (hr pos pins s1 G H1 _ I1 q1) λus s2 ⟨xs,H2,I2,r2,q2⟩=>⟨x :: xs,H2,I2,.cons r1 r2,q2⟩
abbrev rm(t:TA):TE:=λG H Q=>t G H λxs H1=>xs.length<=sizeLine/\∀p,H1 p=none->Q (.ref p) (upd H1 p (.tup xs))
abbrev yU(t:TA):TE:=λG H Q=>t G H λxs H1=>xs.length<=sizeLine/\∀p,H1 p=none->Q (.ref p) (upd H1 p (.lst xs))
def j7{x1}(h:PA X es t):PE X (.Tuple es x1 pos) (rm t):=by intro pins s G H Q I hq;refine wpAny_Tuple_spliced (bA (h pos pins s G H _ I hq) λus s1 ⟨xs,H1,I1,r,z,q⟩=>⟨by rw[<- r.length];exact z,?_⟩);have hf:H1 s1.heap.objs.size=none:=I1.hok.fresh (Tc _);refine⟨.ref s1.heap.objs.size,upd H1 s1.heap.objs.size (.tup xs),I1.laid (t':=s1.toks) (λb u e=>S9 _ e) (Tc _) ?_,rfl,q _ hf⟩;exact⟨z,us,r,⟨_,To _ rfl,rfl,rfl,_,rfl⟩⟩
def jP(h:PA X es t):PE X (.List es pos) (yU t):=by intro pins s G H Q I hq;refine wpAny_List_spliced (bA (h pos pins s G H _ I hq) λus s1 ⟨xs,H1,I1,r,z,q⟩=>⟨by rw[<- r.length];exact z,?_⟩);have hf:H1 s1.heap.objs.size=none:=I1.hok.fresh (Tc _);refine⟨.ref s1.heap.objs.size,upd H1 s1.heap.objs.size (.lst xs),I1.laid (t':=s1.toks) (λb u e=>S9 _ e) (Tc _) ?_,rfl,q _ hf⟩;exact⟨z,us,0,r,To _ rfl⟩
end
@[reducible]def Sp:=List V->Hp->VK->XK->Prop
@[reducible]def kO:=List Env->Hp->Shared->XK->Value->Shared->Prop
structure lB(P:Program)(w:World)(K:Zfr)(mg:Str->Option Value)(base:Heap)(A:Around)(outer:List Env)(s:Shared)(H:Hp):Prop where
 frames:A.frames=some outer
 mod:Mod K mg base
 bs:∀b o,base.get? b=some o->s.heap.get? b=some o/\H b=none
 mU:base.objs.size<=s.heap.objs.size
 ia:s.heap.FunFrames base outer
 pC:∀b∈frs outer,H b=none
 hok:jd P w H s.heap
 bare:AllBare s.gens
abbrev CE(outer:List Env)(P:Program)(w:World)(H:Hp)(s:Shared)(Q:VK)(u:Value)(s':Shared):Prop :=
 ∃v H',s'.os=s.os/\AllBare s'.gens/\Un (frs outer) [] H H' s.heap s'.heap/\jd P w H' s'.heap/\RelV v u/\Q v H'
abbrev CR(CX:kO)(outer:List Env)(P:Program)(w:World)(H:Hp)(s:Shared)(Q:VK)(E:XK)(r:Result)(s':Shared):Prop :=
 match r with
 |.ok (.ret u)=>CE outer P w H s Q u s'
 |.ok _=>False
 |.error e=>CX outer H s E e s'
structure aN(P:Program)(w:World)(K:Zfr)(mg:Str->Option Value)(base:Heap)(CX:kO)(k:Nat)(f:Addr)(fd:FuncData)(ps:List Str)(sp:Sp):Prop where
 len:∀vs H Q E,sp vs H Q E->vs.length=ps.length
 run:∀(A:Around) (outer:List Env) (s:Shared) (H:Hp) (args:Args) (us:List Value) (vs:List V) (Q:VK) (E:XK),cq k A->lB P w K mg base A outer s H->BindsTo s fd args (ps.zip us)->Vals vs us->sp vs H Q E ->
  codeAny (model P w) A (.call (.ref f) args) (CR CX outer P w H s Q E) s
def aN.imp{P:Program}{w:World}{K:Zfr}{mg:Str->Option Value}{base:Heap}{CX:kO}{k:Nat}{f:Addr}{fd:FuncData}{ps:List Str}{sp Io:Sp}(F:aN P w K mg base CX k f fd ps sp)
  (h:∀vs H Q E,Io vs H Q E->sp vs H Q E):aN P w K mg base CX k f fd ps Io :=
 ⟨λvs H Q E q=>F.len vs H Q E (h _ _ _ _ q),λA outer s H args us vs Q E hr he hb hv hs=>F.run A outer s H args us vs Q E hr he hb hv (h _ _ _ _ hs)⟩
def lB.make{P:Program}{w:World}{K:Zfr}{mg:Str->Option Value}{base:Heap}{A:Around}{outer:List Env}{s:Shared}{H:Hp}(e:lB P w K mg base A outer s H)(C:Addr)(us:List Value)(kw:List (Str×Value)):
  lB P w K mg base (A.under (.builtin "type.__call__" ⟨.ref C :: us,kw⟩)) outer s H:=⟨by first|exact e.frames|(simpa[Around.under,Code.envs,Code.isFrame,pushEnvs]using e.frames),e.mod,e.bs,e.mU,e.ia,e.pC,e.hok,e.bare⟩
section
variable {X:Cx}{pins:List (Addr×Obj)}{G:St}{H:Hp}{s s':Shared}
def Inv.rn(I:Inv X pins G H s):lB X.prog X.w X.K X.mg X.base X.A X.stack s H :=
 ⟨I.ok.frames,I.ok.mod,I.bs,TF I.ok.mU I.sz,I.stack,I.lz,I.hok,I.bare⟩
def Inv.after{Q:VK}{u:Value}(I:Inv X pins G H s)(h:CE X.stack X.prog X.w H s Q u s'):EP X pins G Q u s':=by obtain⟨v,H',os,bare,un,hok,r,q⟩:=h;obtain⟨hh,g,d,t,os'⟩:=s';obtain rfl:os'=s.os:=os;exact⟨v,H',I.call (h':=hh) (g':=g) (d':=d) (t':=t) (ch:=[]) un hok bare (λb z=>absurd z (by simp)),r,q⟩
end
abbrev kP(sp:Sp)(pW:List V)(E:XK)(t:TA):TE:=λG H Q=>t G H λvs H1=>sp (vs ++ pW) H1 Q E
abbrev Binds(K:Zfr)(fd:FuncData)(ps:List Str)(ds:List Value):Prop :=
 ∀(s:Shared) (us:List Value),K.In s.heap->(us ++ ds).length=ps.length->BindsTo s fd ⟨us,[]⟩ (ps.zip (us ++ ds))
def Binds.all{K:Zfr}{fd:FuncData}{ps:List Str}(h:∀us:List Value,us.length=ps.length->bindArgs fd ⟨us,[]⟩=pure (ps.zip us)):Binds K fd ps []:=λs us _ hl=>by
 rw[T5]at hl ⊢;exact .of_eq (h us hl)
abbrev Passes(CX:kO)(X:Cx)(E:XK):Prop:=∀(pins:List (Addr×Obj)) (G:St) (H:Hp) (s:Shared) (e:Value) (s':Shared),Inv X pins G H s->CX X.stack H s E e s'->X.xe e s'
section
variable {X:Cx}{CX:kO}{k:Nat}{f C:Addr}{fd:FuncData}{ps:List Str}{sp:Sp}{pW:List V}{ds:List Value}{E:XK}{x m:Str}{p pos apos:Pos}{e o:Expr}{es:List Expr}{ta:TE}{t:TA}
def uK{pins:List (Addr×Obj)}{G:St}{H:Hp}{s:Shared}{Q:VK}{us:List Value}{vs:List V}(F:aN X.prog X.w X.K X.mg X.base CX k f fd ps sp)(hr:cq k X.A)(hb:Binds X.K fd ps ds)(hd:Vals pW ds)(hx:Passes CX X E)
  (I:Inv X pins G H s) (r:Vals vs us) (h:sp (vs ++ pW) H Q E):wpAny (model X.prog X.w) X.A (call (.ref f) us) (EP X pins G Q) X.xe s:=by
 have r2:Vals (vs ++ pW) (us ++ ds):=r.append hd;have hl:(us ++ ds).length=ps.length:=by rw[<- r2.length];exact F.len _ _ _ _ h
 refine wpAny_call (codeAny_mono (F.run X.A X.stack s H ⟨us,[]⟩ (us ++ ds) (vs ++ pW) Q E hr I.rn (hb s us I.j4 hl) r2 h) λr s' hq=>?_);cases r with
 |error e=>exact hx pins G H s e s' I hq
 |ok fl =>
  cases fl with
  |ret u=>exact I.after hq
  |next=>exact False.elim hq
  |brk=>exact False.elim hq
  |cont=>exact False.elim hq
def xP(F:aN X.prog X.w X.K X.mg X.base CX k f fd ps sp)(hr:cq k X.A)(hg:Gl X x)(hm:X.mg x=some (.ref f))(hk:PySem.W.keepIn X.K (.ref f)=true)(hb:Binds X.K fd ps ds)(hd:Vals pW ds)(hx:Passes CX X E)
  (ha:PA X (e :: es) t) (hdb:(x == ("__debug__" : Str))=false:=by decide) (he:starEach (e :: es) X.env=(false,eval e X.env) :: starEach es X.env:=by rfl) (hpl:(backTo pos (starEach es X.env)).any (·.1)=false:=by rfl) :
  PE X (.Call (.Name x p) (e :: es) [] pos) (kP sp pW E t):=by
 intro pins s G H Q I h;refine wpAny_Call_Name_kw (ux I hg hm ?_ hdb);refine PySem.W.callWith_K (h₀:=X.base) I.ok.mod.qY hk (bA (ha pos pins s G H _ I h) λus s1 ⟨vs,H1,I1,r,q⟩=>⟨I1.j4,?_⟩) he hpl;exact uK F hr hb hd hx I1 r q
end
structure aG(N P:List Str)(sc:Scope):Prop where
 kind:sc.kind=.function
 co:sc.isCoroutine=false
 gen:sc.isGenerator=false
 nd:N.Nodup
 pre:N.take P.length=P
 par:∀x∈P,sc.names.lookup x=some .local\/sc.names.lookup x=some .cell
 pX:∀y∈sc.names,y.2≠.free
def Ip{kindOf:Str->Option NameKind}{x:Str}:∀{binds:List (Str×Value)} {m:Str->Option Value},(∀v,(x,v) ∉ binds)->bindL kindOf binds m x=m x
 |[],_,_=>rfl
 |(n,v) :: r,m,h=>by
  unfold bindL;rw[Ip λw hw=>h w (Tg _ hw)];split
  have:x≠n:=by rintro rfl;exact h v Te
  simp[this];rfl
def Iq{kindOf:Str->Option NameKind}{x:Str}:∀{binds:List (Str×Value)} {m:Str->Option Value},(∀v,(x,v) ∉ binds)->bindC kindOf binds m x=m x
 |[],_,_=>rfl
 |(n,v) :: r,m,h=>by
  unfold bindC;rw[Iq λw hw=>h w (Tg _ hw)];split;rfl
  have:x≠n:=by rintro rfl;exact h v Te
  simp[this]
def EG{kindOf:Str->Option NameKind}{x:Str}{v:Value}:∀{P:List Str} {vs:List Value} {i:Nat} {m:Str->Option Value},P.Nodup->P[i]?=some x->vs[i]?=some v->kindOf x=some .local ->
  bindL kindOf (P.zip vs) m x=some v
 |[],_,_,_,_,h,_,_=>by simp at h
 |_ :: _,[],_,_,_,_,h,_=>by simp at h
 |p :: P,w :: vs,0,m,nd,h1,h2,hk=>by
  simp at h1 h2;subst h1;subst h2;show bindL kindOf ((p,w) :: P.zip vs) m p=_;unfold bindL;rw[Ip λv hv=>(Ux.mp nd).1 (Vc hv).1,if_pos hk];simp
 |p :: P,w :: vs,i+1,m,nd,h1,h2,hk=>by
  show bindL kindOf ((p,w) :: P.zip vs) m x=_;unfold bindL;exact EG (i:=i) (Ux.mp nd).2 (by simpa using h1) (by simpa using h2) hk
def EH{kindOf:Str->Option NameKind}{x:Str}{v:Value}:∀{P:List Str} {vs:List Value} {i:Nat} {m:Str->Option Value},P.Nodup->P[i]?=some x->vs[i]?=some v->kindOf x≠some .local ->
  bindC kindOf (P.zip vs) m x=some v
 |[],_,_,_,_,h,_,_=>by simp at h
 |_ :: _,[],_,_,_,_,h,_=>by simp at h
 |p :: P,w :: vs,0,m,nd,h1,h2,hk=>by
  simp at h1 h2;subst h1;subst h2;show bindC kindOf ((p,w) :: P.zip vs) m p=_;unfold bindC;rw[Iq λv hv=>(Ux.mp nd).1 (Vc hv).1,if_neg hk];simp
 |p :: P,w :: vs,i+1,m,nd,h1,h2,hk=>by
  show bindC kindOf ((p,w) :: P.zip vs) m x=_;unfold bindC;exact EH (i:=i) (Ux.mp nd).2 (by simpa using h1) (by simpa using h2) hk
abbrev start(N:List Str)(vs:List V):St:=vs.map some ++ List.replicate (N.length-vs.length) none
abbrev dS(CX:kO)(P:Program)(w:World)(K:Zfr)(mg:Str->Option Value)(base:Heap)(N:List Str)(qual:Str)(scope:Scope)(f:Addr)(cd:Value)(A:Around)(outer:List Env)(s:Shared)(H:Hp)(E:XK):Cx where
 prog:=P
 w:=w
 K:=K
 mg:=mg
 base:=base
 A:=A.deeper (envOfC qual scope s.heap.objs.size f cd)
 N:=N
 s₀:=s
 H₀:=H
 env:=envOfC qual scope s.heap.objs.size f cd
 outer:=outer
 stack:=envOfC qual scope s.heap.objs.size f cd :: outer
 ex:=[]
 calm:=true
 fn:=λ_=>true
 pn:=[]
 xe:=λe s'=>wpAny (model P w) (A.deeper (envOfC qual scope s.heap.objs.size f cd)) («leaving» (envOfC qual scope s.heap.objs.size f cd) e) (λ_ s''=>CX outer H s E e s'') (λe' s''=>CX outer H s E e' s'') s'
def CN{sc:Scope}{n:Nat}{x:Str}(h:sc.names.lookup x=some .cell):∃c,(cellsFrom n sc.names []).lookup x=some c:=by have q:=PySem.W.cellsFrom_some sc.names n [] (.inl h);exact Uy.mp q
def MK{CX:kO}{P:Program}{w:World}{K:Zfr}{mg:Str->Option Value}{base:Heap}{N ps:List Str}{qual:Str}{scope:Scope}{f:Addr}{cd:Value}{A:Around}{outer:List Env}{s s1:Shared}{H:Hp}{E:XK}{us:List Value}{vs:List V}
  (S:aG N ps scope) (hd:A.handled=none) (e0:lB P w K mg base A outer s H) (hl:vs.length=ps.length) (r:Vals vs us)
  (x:InCallC s s.heap.objs.size (bindL (envOfC qual scope s.heap.objs.size f cd).kindOf (ps.zip us) λ_=>none) (cellsFrom (s.heap.objs.size+1) scope.names []) (bindC (envOfC qual scope s.heap.objs.size f cd).kindOf (ps.zip us) λ_=>none) s1) :
  Inv (dS CX P w K mg base N qual scope f cd A outer s H E) [] (start N vs) H s1:=by
 have hpl:ps.length<=N.length:=by have:=congrArg List.length S.pre;rw[Ub]at this;lk
 obtain⟨h1,tk,rfl,hk⟩:=x.done;have rq:∀b:Addr,b ∉ (dS CX P w K mg base N qual scope f cd A outer s H E).ex:=λb z=>absurd (show b∈([]:List Addr)from z) (by simp)
 refine⟨⟨e0.mod,S.kind,rfl,rfl,Tc _,λy z c h1 h2=>?_,λy hy=>?_,λy c _ h=>?_,λ_=>hd,Around.frames_deeper e0.frames,.inr ⟨rfl,rfl⟩,λb z=>absurd z (rq b),e0.bs,e0.mU,λb _ _=>rq b,λb z=>absurd z (rq b),e0.ia,e0.pC⟩,
  rfl,e0.bare,Un.kept hk,⟨_,x.toInCall.ns,λi y v h1 h2 h3=>?_⟩,λy c h=>⟨_,x.cell y c h⟩,e0.hok.fresh (Tc _),λy c h=>?_,λp hp=>absurd (show p∈([]:List (Addr×Obj))from hp) (by simp),e0.hok.kept hk,?_⟩
 exact name_of_addr x.apart (PySem.mem_of_lookup h1) (PySem.mem_of_lookup h2);have hy:scope.names.lookup y=some .cell\/scope.names.lookup y=some .free:=hy;rcases hy with hy|hy
 exact CN hy;exact absurd rfl (S.pX _ (PySem.mem_of_lookup hy));exact UJ (x.above y c (PySem.mem_of_lookup h));have hi:i < vs.length:=by
  unfold start at h2;by_cases hi:i<vs.length;exact hi;rw[TU (by simpa using hi)]at h2;rw[UB]at h2;split at h2<;>cases h2
 have ha:vs[i]?=some v:=by
  unfold start at h2;rw[TX (by simpa using hi),TC]at h2;cases e:vs[i]? with
  |none=>rw[e]at h2;cases h2
  |some a=>rw[e]at h2;cases h2;rfl
 obtain⟨u,hu,rv⟩:=r.get ha;have hp:ps[i]?=some y:=by
  rw[<- S.pre,List.getElem?_take_of_lt ⋯];exact h1
 have yV:ps.Nodup:=by rw[<- S.pre];exact S.nd.sublist (List.take_sublist _ _)
 refine⟨u,rv,?_⟩;rcases S.par y (TL hp)with k|k
 exact .inl ⟨k,EG yV hp hu k⟩;obtain⟨c,e⟩:=CN (n:=s.heap.objs.size+1) k;refine .inr ⟨.inl k,c,e,?_⟩;have q:=x.cell y c e;rw[EH yV hp hu (by show scope.names.lookup y≠_;rw[k];decide)]at q;exact q;exact e0.hok.fresh (UJ (x.above y c (PySem.mem_of_lookup h)));unfold start;show _=N.length;rw[Td,S8,UH];lk
def sS{CX:kO}{P:Program}{w:World}{K:Zfr}{mg:Str->Option Value}{base:Heap}{k:Nat}{f:Addr}{name qual:Str}{params:Arguments}{body:List Stmt}{scope:Scope}{dV kV doc pm cdv ct oc:Value}{an od:Option Addr}
  {osl:Array (Option Value)} {N ps:List Str} {sp:Sp} (lk:K.lookup f=some ⟨oc,od,.func (PySem.W.fnOf name qual params body scope dV kV doc pm an cdv ct),osl⟩) (hcd:PySem.W.codeIn K cdv qual=true) (S:aG N ps scope)
  (len:∀vs H Q E,sp vs H Q E->vs.length=ps.length)
  (hbody:∀(A:Around) (outer:List Env) (s:Shared) (H:Hp) (vs:List V) (Q:VK) (E:XK),cq k (A.deeper (envOfC qual scope s.heap.objs.size f cdv))->sp vs H Q E ->
   ∃t,kN (dS CX P w K mg base N qual scope f cdv A outer s H E) body t/\t { nx:=λ_ H'=>Q .non H',rt:=Q } (start N vs) H) :
  aN P w K mg base CX (k+1) f (PySem.W.fnOf name qual params body scope dV kV doc pm an cdv ct) ps sp:=by
 refine⟨len,λA outer s H args us vs Q E hr e0 hb r mw=>?_⟩;have hl:=len _ _ _ _ mw;have KX:K.In s.heap:=e0.mod.qY.keeps λb o e=>(e0.bs b o e).1;have lim:s.heap.NoLimit:=e0.mod.nolimit.keeps λb o e=>(e0.bs b o e).1;have hkind:∀y∈ps.zip us,scope.names.lookup y.1=some .local\/(scope.names.lookup y.1=some .cell/\((cellsFrom (s.heap.objs.size+1) scope.names []).lookup y.1).isSome=true):=λ⟨n,v⟩ hy=>by
  rcases S.par n (Vc hy).1 with q|q
  ·exact .inl q
  ·exact .inr ⟨q,PySem.W.cellsFrom_some _ _ _ (.inl q)⟩
 refine codeAny_call_function hr.depth (KX _ _ lk) rfl S.co S.gen rfl (PySem.W.codeRec_of KX hcd) (hb _ _ _ _ ?_);refine wpAny_newFunctionEnv_cells S.kind hkind λenv he s1 x=>?_;subst he;refine⟨lim.keeps x.toInCall.keep,codeAny_func ?_⟩;obtain⟨t,ht,hq⟩:=hbody A outer s H vs Q E (hr.deeper _) mw;have I:Inv (dS CX P w K mg base N qual scope f cdv A outer s H E) [] (start N vs) H s1:=MK S hr.hd e0 hl r x;refine wpAny_mono (ht [] s1 (start N vs) H _ I hq) (λfl s' hs=>?_) λe s' hs=>hs;have fin:∀{G':St} {H':Hp} {v:V} {u:Value},Inv (dS CX P w K mg base N qual scope f cdv A outer s H E) [] G' H' s'->RelV v u->Q v H'->CE outer P w H s Q u s' :=
  λ{G' H' v u} J rv q=>⟨v,H',J.os,J.bare,J.base,J.hok,rv,q⟩
 cases fl with
 |ret u =>
  obtain⟨v,G',H',J,rv,q⟩:=hs;exact fin J rv q
 |next =>
  obtain⟨G',H',J,q⟩:=hs;exact fin (v:=V.non) (u:=Value.none) J rfl q
 |brk =>
  obtain⟨_,_,_,q⟩:=hs;exact False.elim q
 |cont =>
  obtain⟨_,_,_,q⟩:=hs;exact False.elim q
section
variable {X:Cx}{x:Str}{p pos:Pos}{e:Expr}{es:List Expr}{t:TA}{id T:String}{r:List V->Hp->VK->Prop}
abbrev yW(r:List V->Hp->VK->Prop)(t:TA):TE:=λG H Q=>t G H λvs H1=>r vs H1 Q
def eJ(hc:dg X (.builtin id) r)(hg:Gl X x)(hm:X.mg x=none)(hv:bootBuiltins x=some (.builtin id))(ha:PA X (e :: es) t)(hn:x≠"__name__" := by decide)(hdb:(x == ("__debug__" : Str))=false:=by decide)
  (he:starEach (e :: es) X.env=(false,eval e X.env) :: starEach es X.env:=by rfl) (hpl:(backTo pos (starEach es X.env)).any (·.1)=false:=by rfl):PE X (.Call (.Name x p) (e :: es) [] pos) (yW r t):=by
 intro pins s G H Q I h;refine wpAny_Call_Name_kw (xM I hg hm hv ?_ hn hdb);exact PyProof.Rows.callWith_builtin1 (bA (ha pos pins s G H _ I h) λus s1 ⟨vs,H1,I1,r1,q1⟩=>hc pins s1 G H1 vs us Q I1 r1 q1) he hpl
def gP(hc:dg X (.type T) r)(hg:Gl X x)(hm:X.mg x=none)(hv:bootBuiltins x=some (.type T))(ha:PA X (e :: es) t)(hn:x≠"__name__" := by decide)(hdb:(x == ("__debug__" : Str))=false:=by decide)
  (he:starEach (e :: es) X.env=(false,eval e X.env) :: starEach es X.env:=by rfl) (hpl:(backTo pos (starEach es X.env)).any (·.1)=false:=by rfl):PE X (.Call (.Name x p) (e :: es) [] pos) (yW r t):=by
 intro pins s G H Q I h;refine wpAny_Call_Name_kw (xM I hg hm hv ?_ hn hdb);exact PyProof.Rows.callWith_type1 (bA (ha pos pins s G H _ I h) λus s1 ⟨vs,H1,I1,r1,q1⟩=>hc pins s1 G H1 vs us Q I1 r1 q1) he hpl
end
end L2
namespace HT
open PySem PyProof.Rows
section
variable {prog:Program}{w:World}{A:Around}{E:Value->Shared->Prop}{s:Shared}
def ML{t b:Addr}{vs ws:List Value}{Q:Value->Shared->Prop}(ht:IsTup s.heap t vs.toArray)(hb:IsTup s.heap b ws.toArray)(hv:vs≠[])
  (h1:ws=[]->Q (.ref t) s) (h2:ws≠[]->Q (.ref s.heap.objs.size) { s with heap:=s.heap.push { cls:=.type "tuple",data:=.seq (vs ++ ws).toArray } })
  (hsz:vs.length+ws.length<=sizeLine):wpAny (model prog w) A (binaryOp .Add (.ref t) (.ref b)) Q E s:=by
 obtain⟨⟨cls,dd,data,sl⟩,ho,hc,n,hd⟩:=id ht;obtain⟨⟨EI,dd2,data2,sl2⟩,ho2,hc2,n2,hd2⟩:=id hb;simp only at hc hd hc2 hd2;subst hc hd hc2 hd2;have e:vs.toArray ++ ws.toArray=(vs ++ ws).toArray:=by simp
 by_cases hw:ws=[];exact concat_meets ⟨_,ho,rfl⟩ ⟨_,ho2,rfl⟩ noFill_tuple_add seq_tuple_add PySem.F.slot_tuple_add PySem.F.entry_tuple_add (PySem.F.args_tuple_add_2 _ _)
  (tuple_addW1 t b vs.toArray ws.toArray n n2 dd dd2 sl sl2 (by simpa using hv) (by simp[hw])) ⟨ho,ho2,h1 hw⟩
 refine concat_meets ⟨_,ho,rfl⟩ ⟨_,ho2,rfl⟩ noFill_tuple_add seq_tuple_add PySem.F.slot_tuple_add PySem.F.entry_tuple_add (PySem.F.args_tuple_add_2 _ _)
  (tuple_addW2 t b vs.toArray ws.toArray n n2 dd dd2 sl sl2 (by simpa using hv) (by simpa using hw) (by rw[Tv,Tv];exact hsz)) ⟨ho,ho2,?_⟩
 rw[e];exact h2 hw
abbrev bT(n d:Nat):Option Int->Nat
 |none=>d
 |some v=>if v<0 then(v+(n:Int)).toNat else min v.toNat n
def Ir(n d:Nat):bT n d none=d:=rfl
def Iu(n d k:Nat):bT n d (some (k:Int))=min k n:=by show(if(k:Int)<0 then((k:Int)+(n:Int)).toNat else min (k:Int).toNat n)=min k n;rw[if_neg ⋯,T9]
def uL(n d:Nat)(hd:d<=n)(o:Option Int):bT n d o<=n:=by
 cases o with
 |none=>exact hd
 |some v =>
  show(if v<0 then(v+(n:Int)).toNat else min v.toNat n)<=n;by_cases hv:v<0;rw[if_pos hv];lk;rw[if_neg hv];exact Nat.min_le_right _ _
def Iv(v:Int)(n d:Nat):(if v<0 then max (v+(n:Int)) 0 else min v (n:Int))=((bT n d (some v):Nat):Int):=by show(if v<0 then max (v+(n:Int)) 0 else min v (n:Int))=(((if v<0 then(v+(n:Int)).toNat else min v.toNat n):Nat):Int);by_cases hv:v<0;simp only[if_pos hv];lk;simp only[if_neg hv];lk
def MN(lo hi:Option Int)(n:Nat):Builtin.Slice.sliceAdjust lo hi 1 (n:Int)=(((bT n 0 lo:Nat):Int),((bT n n hi:Nat):Int)):=by
 have h1:¬((1:Int)<0):=by lk
 unfold Builtin.Slice.sliceAdjust;simp only[h1,if_false];refine Prod.ext ?_ ?_;cases lo with
 |none=>rfl
 |some v=>exact Iv v n 0
 cases hi with
 |none=>rfl
 |some v=>exact Iv v n n
def MO(i j:Nat):Builtin.Slice.slicePlaces (i:Int) (j:Int) 1=j-i:=by
 unfold Builtin.Slice.slicePlaces;have h1:(1:Int) > 0:=by lk
 simp only[h1,if_true,Int.ediv_one];split<;>lk
def Iw{v:Value}{o:Option Int}{Q:Option Int->Shared->Prop}(p:IsPart v o)(h:Q o s):wpAny (model prog w) A (Builtin.Slice.slicePartIndex v) Q E s:=by
 cases p with
 |none=>exact slicePart_none h
 |int i t=>exact slicePart_int h
def Iy{sl:Addr}{vl vu:Value}{lo hi:Option Int}{n:Nat}{Q:Int×Int×Nat->Shared->Prop}(hs:s.heap.IsSliceOf sl vl vu .none)(pl:IsPart vl lo)(pu:IsPart vu hi)
  (h:Q (((bT n 0 lo:Nat):Int),1,bT n n hi-bT n 0 lo) s):wpAny (model prog w) A (Builtin.Slice.sliceApplied (.ref sl) (pure (n:Int))) Q E s:=by
 obtain⟨os,hos,hcs,hds⟩:=id hs;unfold Builtin.Slice.sliceApplied Builtin.Slice.sliceFields;refine wpAny_bind (wpAny_bind (wpAny_field hos hds (x:=vl) rfl (wpAny_bind (wpAny_field hos hds (x:=vu) rfl (wpAny_bind (wpAny_field hos hds (x:=.none) rfl (wpAny_pure ?_)))))));refine wpAny_bind (slicePart_none ?_);show wpAny _ _ (if((1:Int) == 0)=true then _ else _) _ _ s;rw[if_neg ∅];refine wpAny_bind (Iw pl (wpAny_bind (Iw pu (wpAny_bind (wpAny_pure ?_)))));show wpAny _ _ (match Builtin.Slice.sliceAdjust lo hi 1 (n:Int)with|(lo,hi)=>pure (lo,(1:Int),Builtin.Slice.slicePlaces lo hi 1)) _ _ s;rw[MN lo hi n];show wpAny _ _ (pure (((bT n 0 lo:Nat):Int),(1:Int),Builtin.Slice.slicePlaces ((bT n 0 lo:Nat):Int) ((bT n n hi:Nat):Int) 1)) _ _ s;rw[MO];exact wpAny_pure h
def MP(xs:Array Value)(i k:Nat):((List.range k).filterMap λ(m:Nat)=>xs[((i:Int)+(m:Int)*1).toNat]?).toArray=((xs.toList.drop i).take k).toArray:=by
 have e:(λ(m:Nat)=>xs[((i:Int)+(m:Int)*1).toNat]?)=λm=>xs[i+m]?:=by
  funext m
  have:((i:Int)+(m:Int)*1).toNat=i+m:=by lk
  rw[this]
 rw[e];have:=pick_run xs i k;rw[List.filterMap_map]at this;have e2:((λx=>xs[x]?) ∘ λx=>i+x)=λm=>xs[i+m]?:=rfl;rw[e2]at this;rw[this]
def MQ{t sl:Addr}{items:Array Value}{vl vu:Value}{lo hi:Option Int}{Q:Value->Shared->Prop}(ht:IsTup s.heap t items)(hs:s.heap.IsSliceOf sl vl vu .none)(pl:IsPart vl lo)(pu:IsPart vu hi)
  (hw:¬(bT items.size 0 lo=0/\bT items.size items.size hi=items.size))
  (h:Q (.ref s.heap.objs.size) { s with heap:=s.heap.push { cls:=.type "tuple",data:=.seq ((items.toList.drop (bT items.size 0 lo)).take (bT items.size items.size hi-bT items.size 0 lo)).toArray } })
  (hsz:items.size<=sizeLine):wpAny (model prog w) A (getItem (.ref t) (.ref sl)) Q E s:=by
 have oy:sizeOk (.seq ((items.toList.drop (bT items.size 0 lo)).take (bT items.size items.size hi-bT items.size 0 lo)).toArray):=by
  show((items.toList.drop (bT items.size 0 lo)).take (bT items.size items.size hi-bT items.size 0 lo)).toArray.size<=sizeLine;rw[Tv,Ub,UC,UN];lk
 have hj:bT items.size items.size hi<=items.size:=uL _ _ (Tc _) hi;obtain⟨os,hos,hcs,hds⟩:=id hs;have EJ:s.TypeIs (.ref sl) "slice" := ⟨os,hos,hcs⟩;unfold getItem
 try with_reducible refine wpAny_holding ?_
 first|refine wpAny_bind (wpAny_pure ?_)|skip
 refine wpAny_bind (wpAny_sequenceKey ht.typeIs ∅ ?_)
 refine wpAny_bind (wpAny_callSpecial?_slot (name:=Str.ofString "__getitem__") ht.typeIs PyProof.Rows.slot_tuple_getitem
  (wpAny_call_entry PyProof.Rows.slot_tuple_getitem ht.typeIs entry_tuple_getitem ?_ (args_tuple_getitem _ _)))
 show wpAny _ _ (Builtin.Tuple.tupleItemsOf (.ref t) >>= _) _ _ s;refine wpAny_bind (tupleItemsOf_ ht ?_);refine wpAny_bind (wpAny_typeOf EJ ?_);rw[if_pos ∅];refine wpAny_bind (Iy hs pl pu ?_);have hno:¬((((bT items.size 0 lo:Nat):Int) == 0 && (1:Int) == 1 && (bT items.size items.size hi-bT items.size 0 lo) == items.size)=true):=by
  intro q;rw[Tz,Tz]at q;have q1:((bT items.size 0 lo:Nat):Int)=0:=eq_of_beq q.1.1;have q2:bT items.size items.size hi-bT items.size 0 lo=items.size:=eq_of_beq q.2;exact hw ⟨by lk,by lk⟩
 show wpAny _ _ (if(((bT items.size 0 lo:Nat):Int) == 0 && (1:Int) == 1 && (bT items.size items.size hi-bT items.size 0 lo) == items.size)=true then _ else _) _ _ s;rw[if_neg hno,MP]
 first
  |exact wpAny_bind (m:=Builtin.Tuple.tupleExact _) (wpAny_newObj_type (wpAny_pure ⟨_,rfl,wpAny_pure h⟩) oy)
  |exact wpAny_bind (m:=Builtin.Tuple.tupleExact _) (wpAny_newObj_type (wpAny_bind (wpAny_pure (wpAny_pure ⟨_,rfl,wpAny_pure h⟩))) oy)
  |exact wpAny_bind (wpAny_bind (m:=Builtin.Tuple.tupleExact _) (wpAny_newObj_type (wpAny_pure (wpAny_pure ⟨_,rfl,wpAny_pure h⟩)) oy))
  |exact wpAny_bind (wpAny_bind (m:=Builtin.Tuple.tupleExact _) (wpAny_newObj_type (wpAny_pure ⟨_,rfl,wpAny_pure h⟩) oy))
end
end HT
namespace L2
open PySem PySem.Spec PyProof.Rows
@[reducible]def TO:=St->Hp->(Option Int->Hp->Prop)->Prop
abbrev PO(X:Cx)(e:Option Expr)(t:TO):Prop :=
 ∀(pins:List (Addr×Obj)) (s:Shared) (G:St) (H:Hp) (Q:Option Int->Hp->Prop),Inv X pins G H s->t G H Q ->
  wpAny (model X.prog X.w) X.A (evalPart e X.env) (λu s'=>∃o H',Inv X pins G H' s'/\IsPart u o/\Q o H') X.xe s
abbrev oz:TO:=λ_ H Q=>Q none H
abbrev sT(t:TE):TO:=λG H Q=>t G H λx H1=>∃i,x=.int i/\Q (some i) H1
def MR{ns:List Int}:∀{us:List Value},Vals (ns.map V.int) us->IntsAre us ns:=by
 induction ns with
 |nil=>intro us r;rw[List.map_nil]at r;cases r;exact .nil
 |cons n ns ih =>
  intro us r;rw[Um]at r;cases r with
  |cons r1 r2 =>
   obtain⟨t,e⟩:=r1;subst e;exact .cons n t (ih r2)
section
variable {X:Cx}{e:Expr}{te:TE}{lo hi:Option Expr}{tl th:TO}{pos p2:Pos}
def jQ:PO X none oz:=by intro pins s G H Q I h;rw[evalPart_none];exact wpAny_pure ⟨none,H,I,.none,h⟩
def jR(h:PE X e te):PO X (some e) (sT te):=by intro pins s G H Q I hw;rw[evalPart_some];refine bA (h pins s G H _ I hw) λu s1 ⟨x,H1,I1,r1,q1⟩=>?_;obtain⟨i,rfl,q⟩:=q1;obtain⟨t,rfl⟩:=r1;exact⟨some i,H1,I1,.int i t,q⟩
abbrev yX(X:Cx)(r:V->Option Int->Option Int->Hp->VK->Prop):Prop :=
 ∀(pins:List (Addr×Obj)) (s:Shared) (G:St) (H:Hp) (x:V) (v vl vu:Value) (lo hi:Option Int) (sl:Addr) (Q:VK),Inv X pins G H s->RelV x v->s.heap.IsSliceOf sl vl vu .none->IsPart vl lo->IsPart vu hi->r x lo hi H Q ->
  ∃T id,typeLookup (.type T) "__getitem__" = pure (some (.builtin id))/\s.TypeIs v T/\wpAny (model X.prog X.w) X.A (getItem v (.ref sl)) (EP X pins G Q) X.xe s
abbrev Iz(r:V->Option Int->Option Int->Hp->VK->Prop)(te:TE)(tl th:TO):TE:=λG H Q=>te G H λx H1=>tl G H1 λl H2=>th G H2 λu H3=>r x l u H3 Q
def jS{r:V->Option Int->Option Int->Hp->VK->Prop}(hr:yX X r)(he:PE X e te)(hl:PO X lo tl)(hu:PO X hi th):PE X (.Subscript e (.Slice lo hi none p2) pos) (Iz r te tl th):=by intro pins s G H Q I h;refine Subscript_ (bA (he pins s G H _ I h) λv s1 ⟨x,H1,I1,r1,q1⟩=>?_);refine wpAny_Slice (bA (hl pins s1 G H1 _ I1 q1) λvl s2 ⟨l,H2,I2,pl,q2⟩=>bA (hu pins s2 G H2 _ I2 q2) λvu s3 ⟨u,H3,I3,pu,q3⟩=>?_);rw[evalPart_none];refine wpAny_pure ?_;have I4:Inv X pins G H3 { s3 with heap:=s3.heap.push { cls:=.type "slice",data:=.fields #[vl,vu,.none] } }:=I3.kept (t':=s3.toks) λb ob q=>S9 _ q;obtain⟨T,id,hT,ht,hg⟩:=hr pins { s3 with heap:=s3.heap.push { cls:=.type "slice",data:=.fields #[vl,vu,.none] } } G H3 x v vl vu l u s3.heap.objs.size Q I4 r1 (Heap.IsSliceOf.new ..) pl pu q3;show wpAny (model X.prog X.w) X.A (subscriptTail e (.Slice lo hi none p2) v (.ref s3.heap.objs.size)) (EP X pins G Q) X.xe { s3 with heap:=s3.heap.push { cls:=.type "slice",data:=.fields #[vl,vu,.none] } };exact tail_any (ops:=[.ref s3.heap.objs.size,v]) ht hT hg (by with_unfolding_all rfl)
abbrev j8(xs:List V)(lo hi:Option Int):List V:=(xs.drop (HT.bT xs.length 0 lo)).take (HT.bT xs.length xs.length hi-HT.bT xs.length 0 lo)
def IA(xs:List V)(lo hi:Option Int):(j8 xs lo hi).length<=xs.length:=by unfold j8;rw[Ub,UC];lk
abbrev EK(K:Zfr):V->Option Int->Option Int->Hp->VK->Prop:=λx lo hi H Q=>∃a xs,x=.ref a/\df K H a xs /\
 ¬(HT.bT xs.length 0 lo=0/\HT.bT xs.length xs.length hi=xs.length)/\∀p,H p=none->Q (.ref p) (upd H p (.tup (j8 xs lo hi)))
def uM:yX X (EK X.K):=by
 intro pins s G H x v vl vu lo hi sl Q I rx hs pl pu h;obtain⟨a,xs,rfl,hx,hw,q⟩:=h;cases rx;obtain⟨its,r,ht,hz⟩:=I.tuple hx;have hlen:its.toArray.size=xs.length:=by rw[Tv];exact r.length.symm
 refine⟨"tuple",_,PyProof.Rows.slot_tuple_getitem.lookup,ht.typeIs,?_⟩;refine HT.MQ ht hs pl pu (by rw[hlen];exact hw) ?_ (by rw[hlen];exact hz);rw[hlen];refine⟨.ref s.heap.objs.size,_,I.laid (t':=s.toks) (o:=.tup (j8 xs lo hi)) (λb ob q=>S9 _ q) (Tc _) ?_,rfl,q _ (I.hok.fresh (Tc _))⟩;exact⟨TF (IA xs lo hi) hz,_,(r.drop (HT.bT xs.length 0 lo)).take (HT.bT xs.length xs.length hi-HT.bT xs.length 0 lo),lq.new _ _⟩
abbrev yZ(K:Zfr):R2:=λx y H Q=>∃a b xs ys,x=.ref a/\y=.ref b/\df K H a xs/\df K H b ys/\xs≠[]/\xs.length+ys.length<=sizeLine /\
 (ys=[]->Q (.ref a) H)/\(ys≠[]->∀p,H p=none->Q (.ref p) (upd H p (.tup (xs ++ ys))))
def Vals.jX{xs:List V}{us:List Value}(r:Vals xs us):us=[]↔xs=[]:=by
 cases r with
 |nil=>simp
 |cons _ _=>simp
def MS:iS X (binaryOp .Add) (yZ X.K):=by intro pins s G H x y v u Q I rx ry h;obtain⟨a,b,xs,ys,rfl,rfl,ha,hb,hx,hz,q1,q2⟩:=h;cases rx;cases ry;obtain⟨its,r1,p1,_⟩:=I.tuple ha;obtain⟨its2,r2,p2,_⟩:=I.tuple hb;refine HT.ML p1 p2 (λz=>hx (r1.jX.mp z)) (λz=>⟨.ref a,H,I,rfl,q1 (r2.jX.mp z)⟩) (λz=>?_) (by rw[<- r1.length,<- r2.length];exact hz);refine⟨.ref s.heap.objs.size,_,I.laid (t':=s.toks) (o:=.tup (xs ++ ys)) (λb ob q=>S9 _ q) (Tc _) ?_,rfl,q2 (λw=>z (r2.jX.mpr w)) _ (I.hok.fresh (Tc _))⟩;exact⟨by rw[Td];exact hz,_,r1.append r2,lq.new _ _⟩
end
abbrev kR(n:Nat)(i:Int):Option Nat:=if 0<=i then(if i<n then some i.toNat else none)else if -(n:Int)<=i then some (i+n).toNat else none
abbrev iH{J:Type}(xs:List J)(i:Int):Option J:=(kR xs.length i).bind λj=>xs[j]?
def EL{n:Nat}{i:Int}{j:Nat}(h:kR n i=some j):seqIndex? i n=some j/\j<n/\-(n:Int)<=i/\i<n:=by unfold kR at h;by_cases h0:0<=i;rw[if_pos h0]at h;by_cases h1:i<n;rw[if_pos h1]at h;have e:i.toNat=j:=Tq h;exact⟨by rw[seqIndex_of h0 h1,e],by lk,by lk,h1⟩;rw[if_neg h1]at h;cases h;rw[if_neg h0]at h;by_cases h1:-(n:Int)<=i;rw[if_pos h1]at h;have e:(i+n).toNat=j:=Tq h;exact⟨by rw[seqIndex_neg ⋯ h1,e],by lk,h1,by lk⟩;rw[if_neg h1]at h;cases h
def EM{J:Type}{xs:List J}{i:Int}{v:J}(h:iH xs i=some v):∃j,seqIndex? i xs.length=some j/\xs[j]?=some v/\j<xs.length/\-(xs.length:Int)<=i/\i<xs.length:=by
 unfold iH at h;cases e:kR xs.length i with
 |none=>rw[e]at h;cases h
 |some j =>
  rw[e]at h;obtain⟨h1,h2,h3,h4⟩:=EL e;exact⟨j,h1,h,h2,h3,h4⟩
def mh{J:Type}{xs:List J}{j:Nat}{v:J}(h:xs[j]?=some v):iH xs (j:Int)=some v:=by
 have hj:j<xs.length:=(Ti.mp h).1;have e:kR xs.length (j:Int)=some j:=by
  unfold kR;rw[if_pos ⋯,if_pos ⋯];simp
 unfold iH;rw[e];exact h
abbrev rz(b:Expr):Prop:=∀o i,subscripted b false o i=operate [o,i] (getItem o i)
abbrev CO(X:Cx)(r:R2):Prop :=
 ∀(value slice:Expr) (pins:List (Addr×Obj)) (s:Shared) (G:St) (H:Hp) (x y:V) (v u:Value) (Q:VK),Inv X pins G H s->RelV x v->RelV y u->r x y H Q ->
  subscripted slice false v u=operate [v,u] (getItem v u)->wpAny (model X.prog X.w) X.A (subscriptTail value slice v u) (EP X pins G Q) X.xe s
abbrev y8(X:Cx)(id:String)(r:V->List V->Hp->VK->Prop):Prop :=
 ∀(pins:List (Addr×Obj)) (s:Shared) (G:St) (H:Hp) (x:V) (xs:List V) (v:Value) (us:List Value) (Q:VK),Inv X pins G H s->RelV x v->Vals xs us->r x xs H Q ->
  wpAny (model X.prog X.w) X.A (call (.builtin id) (v :: us)) (EP X pins G Q) X.xe s
section
variable {X:Cx}{a b:Expr}{ta tb:TE}{pos:Pos}
def za{r:R2}(hr:CO X r)(ha:PE X a ta)(hb:PE X b tb)(hs:rz b):PE X (.Subscript a b pos) (yN r ta tb):=by intro pins s G H Q I h;exact Subscript_ (uH ha hb I h λv u s2 x y H2 I2 rx ry q=>hr a b pins s2 G H2 x y v u Q I2 rx ry q (hs _ _))
abbrev zb(K:Zfr):R2:=λx y H Q=>∃p xs i v,x=.ref p/\y=.int i/\fG K H p xs/\iH xs i=some v/\Q v H
abbrev zc(K:Zfr):R2:=λx y H Q=>∃p xs i v,x=.ref p/\y=.int i/\df K H p xs/\iH xs i=some v/\Q v H
abbrev zd:R2:=λx y H Q=>∃z i c,x=.str z/\y=.int i/\z.length<=sizeLine/\iH z.cps.toList i=some c/\Q (.str ⟨#[c]⟩) H
def jJ:CO X (zb X.K):=by
 intro value slice pins s G H x y v u Q I rx ry h hs;obtain⟨p,xs,i,z,rfl,rfl,hq,he,q⟩:=h;cases rx;obtain⟨t,rfl⟩:=ry;obtain⟨its,r,pl,hz⟩:=I.list hq;obtain⟨j,h1,h2,h3,h4,h5⟩:=EM he;obtain⟨w,ew,rw'⟩:=r.get h2;have hl:=r.length;have hn:=jA;have fin:EP X pins G Q w s:=⟨z,H,I,rw',q⟩;by_cases h0:0<=i;have hj:i.toNat=j:=by
  rw[seqIndex_of h0 h5]at h1;exact Tq h1
 exact item_listR pl.isList h0 ⋯ (by rw[hj];simpa using ew) fin hs;have hj:(i + (its.toArray.size:Int)).toNat=j:=by
  rw[seqIndex_neg ⋯ h4]at h1;rw[Tv,<- hl];exact Tq h1
 exact subscriptTail_builtinR (x:=w) pl.isList.typeIs slot_list_getitem.lookup
  (wpAny_getItem_list_neg (Q:=λr s'=>r=w/\EP X pins G Q r s') pl.isList ⋯ (by rw[Tv]<;>lk) ⋯ (by rw[hj];simpa using ew) ⟨rfl,fin⟩) hs
def rA:CO X (zc X.K):=by
 intro value slice pins s G H x y v u Q I rx ry h hs;obtain⟨p,xs,i,z,rfl,rfl,hq,he,q⟩:=h;cases rx;obtain⟨t,rfl⟩:=ry;obtain⟨its,r,pl,hz⟩:=I.tuple hq;obtain⟨j,h1,h2,h3,h4,h5⟩:=EM he;obtain⟨w,ew,rw'⟩:=r.get h2;have hl:=r.length;have hn:=jA;have fin:EP X pins G Q w s:=⟨z,H,I,rw',q⟩;exact subscriptTail_builtinR (x:=w) pl.typeIs slot_tuple_getitem.lookup
  (getItem_tuple (j:=j) (Q:=λr s'=>r=w/\EP X pins G Q r s') pl ⋯ ⋯ (by rw[Tv,<- hl];exact h1) (by simpa using ew) ⟨rfl,fin⟩) hs
def EN:CO X zd:=by
 intro value slice pins s G H x y v u Q I rx ry h hs;obtain⟨z,i,c,rfl,rfl,hz,he,q⟩:=h;obtain⟨t,rfl⟩:=rx;obtain⟨t',rfl⟩:=ry;obtain⟨j,h1,h2,h3,h4,h5⟩:=EM he;have hl:z.cps.toList.length=z.length:=by simp[Str.length]
 rw[hl]at h1 h4 h5;have hn:=jA
 exact tail_any (typeIs_str s z t) slot_str_getitem.lookup (getItem_str (c:=c) (by
  have e1:decide (i < -(2 ^ 63:Int))=false:=decide_eq_false ⋯;have e2:decide (i >= 2 ^ 63)=false:=decide_eq_false ⋯
  rw[e1,e2,Bool.or_false]) (by rw[h1];simpa using h2) ⟨.str ⟨#[c]⟩,H,I.tok _,⟨_,rfl⟩,q⟩) hs
def MT(its:List Value)(n j:Nat)(u:Value):Obj.mapSeq (·.setIfInBounds j u) { cls:=.type "list",data:=.seq its.toArray n }={ cls:=.type "list",data:=.seq (its.set j u).toArray n }:=by simp[Obj.mapSeq]
def Inv.lst{pins:List (Addr×Obj)}{G:St}{H:Hp}{s:Shared}{p:Addr}{xs:List V}(I:Inv X pins G H s)(h:H p=some (.lst xs)):
  ∃(its:List Value) (n:Nat),Vals xs its/\s.heap.get? p=some { cls:=.type "list",data:=.seq its.toArray n }/\xs.length<=sizeLine:=by
 obtain⟨z,its,n,r,e⟩:=I.hok p _ h;exact⟨its,n,r,e,z⟩
def Inv.uN{pins:List (Addr×Obj)}{G:St}{H:Hp}{s:Shared}{p:Addr}{xs ys:List V}{its its':List Value}{n n':Nat}{f:Obj->Obj}(I:Inv X pins G H s)(h:H p=some (.lst xs))
  (ho:s.heap.get? p=some { cls:=.type "list",data:=.seq its.toArray n }) (hf:f { cls:=.type "list",data:=.seq its.toArray n }={ cls:=.type "list",data:=.seq its'.toArray n' }) (r:Vals ys its') (hz:ys.length<=sizeLine) (t:Nat) :
  Inv X pins G (upd H p (.lst ys)) { s with heap:=s.heap.update p f,toks:=t }:=by
 have e:(s.heap.update p f).get? p=some { cls:=.type "list",data:=.seq its'.toArray n' }:=by
  rw[Uc f ho (by rw[hf]<;>rfl),hf]
 refine I.write (x:=p) (e:=p) (by rw[h];trivial) (.inl rfl) (λb u hb q=>(TY _ _ (Ne.symm hb)).trans q) ⟨_,e⟩ ?_;exact⟨hz,its',n',r,e⟩
abbrev sU:V->V->V->Hp->(Hp->Prop)->Prop:=λo i v H Q=>∃p xs k j,o=.ref p/\i=.int k/\H p=some (.lst xs)/\kR xs.length k=some j/\Q (upd H p (.lst (xs.set j v)))
def xQ:yH X sU:=by
 intro pins s G H o i v ov iv u Q I ro ri rv h;obtain⟨p,xs,k,j,rfl,rfl,hp,hj,q⟩:=h;cases ro;obtain⟨t,rfl⟩:=ri;obtain⟨its,n,r,ho,hz⟩:=I.lst hp;obtain⟨h1,h2,h3,h4⟩:=EL hj;have hl:=r.length;have hn:=jA;have I':Inv X pins G (upd H p (.lst (xs.set j v))) { s with heap:=s.heap.update p (Obj.mapSeq (·.setIfInBounds j u)) } :=
  I.uN hp ho (MT its n j u) (r.set rv j) (by rw[T8];exact hz) s.toks
 by_cases h0:0<=k;have hk:k.toNat=j:=by
  rw[seqIndex_of h0 h4]at h1;exact Tq h1
 exact PySem.W.ki_setAt ho h0 ⋯ (by rw[Tv,<- hl];exact h4) (by rw[hk];exact⟨_,I',q⟩);have hk:(k + (its.toArray.size:Int)).toNat=j:=by
  rw[seqIndex_neg ⋯ h3]at h1;rw[Tv,<- hl];exact Tq h1
 exact PySem.W.ki_setBack ho ⋯ (by rw[Tv,<- hl];exact h3) ⋯ (by rw[hk];exact⟨_,I',q⟩)
def MU(lo hi:Option Int)(n:Nat):(sliceBounds lo hi none n).1=((HT.bT n 0 lo:Nat):Int)/\(sliceBounds lo hi none n).2.1=((HT.bT n n hi:Nat):Int)/\(sliceBounds lo hi none n).2.2=1:=by
 refine⟨?_,?_,rfl⟩;cases lo with
 |none=>simp[sliceBounds,HT.bT]
 |some i =>
  simp only[sliceBounds,HT.bT,Option.getD_none,show(1:Int) > 0 by decide,if_true];by_cases h:i<0;simp only[h,if_true]<;>lk;simp only[h,if_false]<;>lk
 cases hi with
 |none=>simp[sliceBounds,HT.bT]
 |some i =>
  simp only[sliceBounds,HT.bT,Option.getD_none,show(1:Int) > 0 by decide,if_true];by_cases h:i<0;simp only[h,if_true]<;>lk;simp only[h,if_false]<;>lk
def MV(its:List Value)(lo hi:Option Int):slicePick its.toArray lo hi none=((its.drop (HT.bT its.length 0 lo)).take (HT.bT its.length its.length hi-HT.bT its.length 0 lo)).toArray:=by obtain⟨h1,h2,h3⟩:=MU lo hi its.toArray.size;unfold slicePick;rw[h1,h2,h3];simp only[sliceRange_one,pick_run,Tv]<;>rfl
abbrev ze(K:Zfr):V->Option Int->Option Int->Hp->VK->Prop:=λx lo hi H Q=>∃a xs,x=.ref a/\fG K H a xs/\∀p,H p=none->Q (.ref p) (upd H p (.lst (j8 xs lo hi)))
def lD:yX X (ze X.K):=by intro pins s G H x v vl vu lo hi sl Q I rx hs pl pu h;obtain⟨a,xs,rfl,hx,q⟩:=h;cases rx;obtain⟨its,r,ht,hz⟩:=I.list hx;have hlen:=r.length;refine⟨"list",_,slot_list_getitem.lookup,ht.isList.typeIs,?_⟩;refine wpAny_getItem_list_slice ht.isList hs pl pu .none (by simp) ?_ (by rw[Tv]<;>lk);rw[MV,<- hlen];refine⟨.ref s.heap.objs.size,_,I.laid (t':=s.toks) (o:=.lst (j8 xs lo hi)) (λb ob q=>S9 _ q) (Tc _) ?_,rfl,q _ (I.hok.fresh (Tc _))⟩;exact⟨TF (IA xs lo hi) hz,_,0,(r.drop (HT.bT xs.length 0 lo)).take (HT.bT xs.length xs.length hi-HT.bT xs.length 0 lo),To _ rfl⟩
abbrev iY:V->Bool
 |.non=>true
 |.bl _=>true
 |.int _=>true
 |.str _=>true
 |_=>false
abbrev sW:V->V->Bool
 |.non,.non=>true
 |.bl a,.bl b=>a == b
 |.bl a,.int b=>(if a then 1 else 0) == b
 |.int a,.bl b=>a == (if b then 1 else 0)
 |.int a,.int b=>a == b
 |.str a,.str b=>a == b
 |_,_=>false
def uO{A:Around}{s:Shared}{y x:V}{u v:Value}(ry:RelV y u)(rx:RelV x v)(fy:iY y=true)(fx:iY x=true):SeqAt.EqAt A s u v (sW y x):=by
 cases y with
 |non =>
  cases ry;cases x with
  |non=>cases rx;exact SeqAt.EqAt.same _
  |bl b=>cases rx;exact SeqAt.EqAt.none_bool b
  |int b=>obtain⟨t,rfl⟩:=rx;exact SeqAt.EqAt.none_int b t
  |str b=>obtain⟨t,rfl⟩:=rx;exact SeqAt.EqAt.none_str b t
  |_=>exact absurd (show false=true from fx) Tb
 |bl a =>
  cases ry;cases x with
  |non=>cases rx;exact SeqAt.EqAt.bool_none a
  |bl b=>cases rx;exact SeqAt.EqAt.bool_bool a b
  |int b=>obtain⟨t,rfl⟩:=rx;exact SeqAt.EqAt.bool_int a b t
  |str b=>obtain⟨t,rfl⟩:=rx;exact SeqAt.EqAt.bool_str a b t
  |_=>exact absurd (show false=true from fx) Tb
 |int a =>
  obtain⟨t',rfl⟩:=ry;cases x with
  |non=>cases rx;exact SeqAt.EqAt.int_none a t'
  |bl b=>cases rx;exact SeqAt.EqAt.int_bool a t' b
  |int b=>obtain⟨t,rfl⟩:=rx;exact SeqAt.EqAt.int_int a t' b t
  |str b=>obtain⟨t,rfl⟩:=rx;exact SeqAt.EqAt.int_str a t' b t
  |_=>exact absurd (show false=true from fx) Tb
 |str a =>
  obtain⟨t',rfl⟩:=ry;cases x with
  |non=>cases rx;exact SeqAt.EqAt.str_none a t'
  |bl b=>cases rx;exact SeqAt.EqAt.str_bool a t' b
  |int b=>obtain⟨t,rfl⟩:=rx;exact SeqAt.EqAt.str_int a t' b t
  |str b=>obtain⟨t,rfl⟩:=rx;exact SeqAt.EqAt.str_str a t' b t
  |_=>exact absurd (show false=true from fx) Tb
 |_=>exact absurd (show false=true from fy) Tb
abbrev nI(x:V)(u:Value):Bool:=match u with
 |.none=>sW .non x
 |.bool b=>sW (.bl b) x
 |.int i _=>sW (.int i) x
 |.str z _=>sW (.str z) x
 |_=>false
def IB{x y:V}{u:Value}(r:RelV y u)(f:iY y=true):nI x u=sW y x:=by
 cases y with
 |non=>cases r;rfl
 |bl b=>cases r;rfl
 |int i=>obtain⟨t,rfl⟩:=r;rfl
 |str z=>obtain⟨t,rfl⟩:=r;rfl
 |_=>exact absurd (show false=true from f) Tb
def zf{x:V}:∀{xs:List V} {us:List Value},Vals xs us->xs.all iY=true->us.any (nI x)=xs.any λy=>sW y x
 |_,_,.nil,_=>rfl
 |y :: xs,u :: us,.cons r t,f=>by
  rw[List.all_cons,Tz]at f;rw[List.any_cons,List.any_cons,IB r f.1,zf t f.2]
def zg{A:Around}{s:Shared}{x:V}{v:Value}(rx:RelV x v)(fx:iY x=true):∀{xs:List V} {us:List Value},Vals xs us->xs.all iY=true->∀u∈us,SeqAt.EqAt A s u v (nI x u)
 |_,_,.nil,_=>λu hu=>by cases hu
 |y :: xs,u :: us,.cons r t,f=>λu' hu=>by
  rw[List.all_cons,Tz]at f;rcases Tp.mp hu with rfl|hu
  rw[IB r f.1];exact uO r rx f.1 fx;exact zg rx fx t f.2 u' hu
abbrev sX(x:V)(xs:List V):Bool:=xs.any λy=>sW y x
abbrev CP(K:Zfr)(neg:Bool):R2:=λx y H Q=>∃p xs,y=.ref p/\(fG K H p xs\/df K H p xs)/\iY x=true/\xs.all iY=true/\Q (.bl (if neg then !sX x xs else sX x xs)) H
def IC:iS X (compareOp .In) (CP X.K false):=by
 intro pins s G H x y v u Q I rx ry h;obtain⟨p,xs,rfl,hq,fx,fs,q⟩:=h;cases ry;rcases hq with hq|hq
 obtain⟨its,r,pl,hz⟩:=I.list hq;refine SeqAt.in_listAt (nI x) pl.isList (λw hw=>zg rx fx r fs w (by simpa using hw)) ⟨.bl _,H,I,rfl,?_⟩;rw[show its.toArray.any (nI x)=its.any (nI x) by simp,zf r fs];exact q;obtain⟨its,r,pl,hz⟩:=I.tuple hq;refine SeqAt.in_tupleAt (nI x) pl (λw hw=>zg rx fx r fs w (by simpa using hw)) ⟨.bl _,H,I,rfl,?_⟩;rw[show its.toArray.any (nI x)=its.any (nI x) by simp,zf r fs];exact q
def CQ:iS X (compareOp .NotIn) (CP X.K true):=by
 intro pins s G H x y v u Q I rx ry h;obtain⟨p,xs,rfl,hq,fx,fs,q⟩:=h;cases ry;rcases hq with hq|hq
 obtain⟨its,r,pl,hz⟩:=I.list hq;refine SeqAt.notIn_listAt (nI x) pl.isList (λw hw=>zg rx fx r fs w (by simpa using hw)) ⟨.bl _,H,I,rfl,?_⟩;rw[show its.toArray.any (nI x)=its.any (nI x) by simp,zf r fs];exact q;obtain⟨its,r,pl,hz⟩:=I.tuple hq;refine SeqAt.notIn_tupleAt (nI x) pl (λw hw=>zg rx fx r fs w (by simpa using hw)) ⟨.bl _,H,I,rfl,?_⟩;rw[show its.toArray.any (nI x)=its.any (nI x) by simp,zf r fs];exact q
def iT:dg X (.builtin "len") (λxs H Q=>∃p ys,xs=[.ref p]/\(fG X.K H p ys\/df X.K H p ys)/\Q (.int ys.length) H):=by
 intro pins s G H xs us Q I r h;obtain⟨p,ys,rfl,hq,q⟩:=h;obtain⟨u,rfl,rx⟩:=vals1 r;cases rx;have hn:=jA;rcases hq with hq|hq
 obtain⟨its,r',pl,hz⟩:=I.list hq;have hlen:=r'.length;exact Calls.call_len_list pl.isList (by simp only[Tv]<;>lk) ⟨.int ys.length,H,I.tok _,⟨s.toks+1,by rw[Tv,hlen]⟩,q⟩;obtain⟨its,r',pl,hz⟩:=I.tuple hq;have hlen:=r'.length;exact len_tuple pl (by simp only[Tv]<;>lk) ⟨.int ys.length,H,I.tok _,⟨s.toks+1,by rw[Tv,hlen]⟩,q⟩
def EO:dg X (.builtin "len") (λxs H Q=>∃z,xs=[.str z]/\z.length<=sizeLine/\Q (.int z.length) H):=by intro pins s G H xs us Q I r h;obtain⟨z,rfl,hz,q⟩:=h;obtain⟨u,rfl,t,rfl⟩:=vals1 r;have hn:=jA;exact len_str ⋯ ⟨.int z.length,H,I.tok _,⟨_,rfl⟩,q⟩
def ER:dg X (.type "list") (λxs H Q=>∃p ys,xs=[.ref p]/\(fG X.K H p ys\/df X.K H p ys)/\∀l,H l=none->Q (.ref l) (upd H l (.lst ys))):=by
 intro pins s G H xs us Q I r h;obtain⟨p,ys,rfl,hq,q⟩:=h;obtain⟨u,rfl,rx⟩:=vals1 r;cases rx;have fin:∀ (its:List Value),Vals ys its->ys.length<=sizeLine->∀ (h':Heap) (c':Nat),(∀ b o',s.heap.get? b=some o'->h'.get? b=some o') ->
   h'.get? s.heap.objs.size=some { cls:=.type "list",dict:=none,data:=.seq its.toArray c',slots:=#[] }->EP X pins G Q (.ref s.heap.objs.size) { s with heap:=h' }:=λits r' hz h' c' kp e =>
  ⟨.ref s.heap.objs.size,_,I.laid (t':=s.toks) kp (Tc _) (show bz X.prog X.w _ h' _ (.lst ys)from⟨hz,its,c',r',e⟩),rfl,q _ (I.hok.fresh (Tc _))⟩
 rcases hq with hq|hq
 obtain⟨its,r',pl,hz⟩:=I.list hq;have hlen:=r'.length;obtain⟨o,ho,hc,n,hd⟩:=pl.isList;exact call_list_seq p (.inl rfl) ho hc hd (λh' c' kp e=>fin its r' hz h' c' kp e) (by simp only[Tv]<;>lk);obtain⟨its,r',pl,hz⟩:=I.tuple hq;have hlen:=r'.length;obtain⟨o,ho,hc,n,hd⟩:=pl;exact call_list_seq p (.inr rfl) ho hc hd (λh' c' kp e=>fin its r' hz h' c' kp e) (by simp only[Tv]<;>lk)
def sY:dg X (.type "tuple") (λxs H Q=>∃p ys,xs=[.ref p]/\((fG X.K H p ys/\∀l,H l=none->Q (.ref l) (upd H l (.tup ys)))\/(df X.K H p ys/\Q (.ref p) H))):=by
 intro pins s G H xs us Q I r h;obtain⟨p,ys,rfl,h⟩:=h;obtain⟨u,rfl,rx⟩:=vals1 r;cases rx;rcases h with⟨hq,q⟩|⟨hq,q⟩
 obtain⟨its,r',pl,hz⟩:=I.list hq;have hlen:=r'.length;refine call_tuple_list pl.isList (λh' kp=>?_) (by simp only[Tv]<;>lk);have I1:Inv X pins G H { s with heap:=h' }:=I.kept (t':=s.toks) kp;have I2:Inv X pins G (upd H h'.objs.size (.tup ys)) { s with heap:=h'.push { cls:=.type "tuple",data:=.seq its.toArray } } :=
  I1.laid (t':=s.toks) (λb o e=>S9 _ e) (Tc _) (show bz X.prog X.w _ _ _ (.tup ys)from⟨hz,its,r',lq.new _ _⟩)
 exact⟨.ref h'.objs.size,_,I2,rfl,q _ (I1.hok.fresh (Tc _))⟩;obtain⟨its,r',pl,hz⟩:=I.tuple hq;exact call_tuple_same pl ⟨.ref p,H,I,rfl,q⟩
abbrev ES(K:Zfr)(T:String)(x:V)(H:Hp):Prop:=match x with
 |.str _=>T="str"
 |.int _=>T="int"
 | .ref p=>(T="list" /\ ∃ xs,fG K H p xs)\/(T="tuple" /\ ∃ xs,df K H p xs) \/
   (T="dict" /\ ((∃kvs,H p=some (.dK kvs))\/∃kvs,H p=some (.dT kvs)))\/(T="set" /\ ∃S n,H p=some (.set S n))
 |_=>False
def uP{pins:List (Addr×Obj)}{G:St}{H:Hp}{s:Shared}{T:String}{x:V}{v:Value}(I:Inv X pins G H s)(r:RelV x v)(ty:ES X.K T x H):
  s.TypeIs v T/\∀a,v=.ref a->∃ob,s.heap.get? a=some ob/\ob.dict=none:=by
 cases x with
 |str z =>
  obtain⟨t,rfl⟩:=r;cases(show T="str" from ty);exact⟨typeIs_str s z t,λ_ e=>nomatch e⟩
 |int i =>
  obtain⟨t,rfl⟩:=r;cases(show T="int" from ty);exact⟨typeIs_int s i t,λ_ e=>nomatch e⟩
 |ref p =>
  cases r;rcases ty with⟨rfl,xs,hq⟩|⟨rfl,xs,hq⟩|⟨rfl,hk⟩|⟨rfl,S,n,hk⟩
  obtain⟨its,_,pl,_⟩:=I.list hq;refine⟨pl.isList.typeIs,λa e=>?_⟩;cases e;obtain⟨o,n,e,c,hd,_⟩:=pl;exact⟨o,e,hd⟩;obtain⟨its,_,⟨o,e,c,d,_⟩,_⟩:=I.pO hq;refine⟨⟨o,e,c⟩,λa e2=>?_⟩;cases e2;exact⟨o,e,d⟩;have z:∃ o,s.heap.get? p=some o/\o.ExactDict:=by
   rcases hk with⟨kvs,hk⟩|⟨kvs,hk⟩
   obtain⟨_,_,_,_,o,_,_,e,ex,_⟩:=I.hok p _ hk;exact⟨o,e,ex⟩;obtain⟨_,_,_,_,o,_,_,e,ex,_⟩:=I.hok p _ hk;exact⟨o,e,ex⟩
  obtain⟨o,e,ex⟩:=z;refine⟨⟨o,e,ex.1⟩,λa e2=>?_⟩;cases e2;exact⟨o,e,ex.2.1⟩;obtain⟨o,_,_,_,e,ex,_⟩:=I.hok p _ hk;refine⟨⟨o,e,ex.1⟩,λa e2=>?_⟩;cases e2;exact⟨o,e,ex.2.1⟩
 |_=>exact False.elim ty
abbrev ET(K:Zfr)(T:String)(r:V->List V->Hp->VK->Prop)(to:TE)(t:TA):TE:=λG H Q=>to G H λx H1=>ES K T x H1/\t G H1 λxs H2=>r x xs H2 Q
variable {o e:Expr}{es:List Expr}{to:TE}{t:TA}{name:Str}{apos cpos:Pos}{T id:String}{r:V->List V->Hp->VK->Prop}
def jT(pa:PlainAttrs T)(slot:Slot T name id)(hty:typeOf (.builtin id)=pure (.type "method_descriptor"))(hm:y8 X id r)(ho:PE X o to)(ha:PA X (e :: es) t)
  (hbase:attributeBase o name X.env (eval o X.env)=eval o X.env:=by rfl)
  (hfew:((backTo cpos (starEach (e :: es) X.env)).all (λx=>!x.1) && (backToKw cpos (keywordEach [] X.env)).all (λx=>x.1.isSome)
   && decide ((e :: es).length+([]:List Keyword).length+(if([]:List Keyword).isEmpty then 0 else 1)<30))=true:=by rfl)
  (hline:(apos.endLine == cpos.line)=true:=by rfl) (hs:starEach (e :: es) X.env=(false,eval e X.env) :: starEach es X.env:=by rfl) (hplain:(backTo cpos (starEach es X.env)).any (·.1)=false:=by rfl) :
  PE X (.Call (.Attribute o name apos) (e :: es) [] cpos) (ET X.K T r to t):=by
 intro pins s G H Q I h;refine wpAny_Call_method_late hbase hfew hline rfl (bA (ho pins s G H _ I h) λv s1 ⟨x,H1,I1,r1,ty,q1⟩=>?_);obtain⟨h1,h2⟩:=uP I1 r1 ty;refine⟨T,id,pa,slot,hty,h1,h2,?_⟩;have hA:=ha cpos pins s1 G H1 _ I1 q1;rw[hs]at hA ⊢;refine Calls.callWith_builtin (by show(false || (backTo cpos (starEach es X.env)).any (·.1))=false;rw[hplain]<;>rfl) (Calls.evalArgs_plain ?_);exact bA hA λus s2 ⟨vs,H2,I2,r2,q2⟩=>hm pins s2 G H2 x vs v us Q I2 r1 r2 q2
end
abbrev EU(X:Cx)(id:String)(r:V->List V->Hp->VK->Prop):Prop :=
 ∀(pins:List (Addr×Obj)) (s:Shared) (G:St) (H:Hp) (x:V) (xs:List V) (v:Value) (us:List Value) (Q:VK),Inv X pins G H s->RelV x v->Vals xs us->r x xs H Q ->
  wpAny (model X.prog X.w) X.A (call (.builtin id) (v :: us)) (EP X pins G Q) X.xe s
def Vals.one:∀{x:V} {us:List Value},Vals [x] us->∃u,us=[u]/\RelV x u
 |_,_,.cons r .nil=>⟨_,rfl,r⟩
def Vals.eraseIdx:∀{xs:List V} {us:List Value} (i:Nat),Vals xs us->Vals (xs.eraseIdx i) (us.eraseIdx i)
 |_,_,_,.nil=>.nil
 |_,_,0,.cons _ t=>t
 |_,_,i+1,.cons r t=>.cons r (Vals.eraseIdx i t)
def Vals.reverse{xs:List V}{us:List Value}(h:Vals xs us):Vals xs.reverse us.reverse:=by
 induction h with
 |nil=>exact .nil
 |cons r t ih=>rw[UT,UT];exact Vals.append ih (.cons r .nil)
def IE{J:Type}:∀(l:List J) (i:Nat),(l.eraseIdx i).length<=l.length
 |[],_=>Tc _
 |_ :: _,0=>Vn _
 |_ :: r,i+1=>Nat.succ_le_succ (IE r i)
section
variable {X:Cx}{pins:List (Addr×Obj)}{G:St}{H:Hp}{s:Shared}{l b:Addr}{xs ys zs:List V}
def Inv.zh{its its':List Value}{n:Nat}{f:Array Value->Array Value}{t':Nat}(I:Inv X pins G H s)(hH:H l=some (.lst xs))
  (e:s.heap.get? l=some { cls:=.type "list",data:=.seq its.toArray n }) (hf:f its.toArray=its'.toArray) (hv:Vals ys its') (hz:ys.length<=sizeLine) :
  Inv X pins G (upd H l (.lst ys)) { s with heap:=s.heap.update l (Obj.mapSeq f),toks:=t' }:=by
 have q:=PySem.IsL.update e f;rw[hf]at q;refine I.write (x:=l) (e:=l) (by rw[hH];exact trivial) (.inl rfl) (λb' u hb hu=>(TY s.heap (Obj.mapSeq f) (Ne.symm hb)).trans hu) ⟨_,q⟩ ?_;exact⟨hz,its',_,hv,q⟩
def Inv.EV{its:List Value}{t':Nat}(I:Inv X pins G H s)(hv:Vals ys its)(hz:ys.length<=sizeLine):
  Inv X pins G (upd H s.heap.objs.size (.lst ys)) { s with heap:=s.heap.push { cls:=.type "list",data:=.seq its.toArray },toks:=t' } :=
 I.laid (λ_ _ q=>S9 _ q) (Tc _) ⟨hz,its,0,hv,To _ rfl⟩
def Inv.fresh(I:Inv X pins G H s):H s.heap.objs.size=none:=I.hok.fresh (Tc _)
def Inv.rB(I:Inv X pins G H s)(hH:H l=some (.lst xs)):xs.length<=sizeLine/\∃(its:List Value) (n:Nat),Vals xs its/\xs.length=its.length/\s.heap.get? l=some { cls:=.type "list",data:=.seq its.toArray n }:=by obtain⟨z,its,n,r,e⟩:=I.hok l _ hH;exact⟨z,its,n,r,r.length,e⟩
end
section
variable {X:Cx}
abbrev oA:V->List V->Hp->VK->Prop:=λx vs H Q=>∃l xs y,x=.ref l/\vs=[y]/\H l=some (.lst xs)/\xs.length<sizeLine/\Q .non (upd H l (.lst (xs ++ [y])))
def xR:EU X "list.append" oA:=by intro pins s G H x vs v us Q I rx rv h;obtain⟨l,xs,y,rfl,rfl,hH,hz,q⟩:=h;cases rx;obtain⟨u,rfl,ru⟩:=rv.one;obtain⟨z,its,n,r,hl,e⟩:=I.rB hH;refine call_meets F.slot_list_append ⟨_,e,rfl⟩ F.entry_list_append (F.args_list_append_2 _ _) (PySem.list_append l its.toArray n u (by rw[Tv];lk)) ⟨e,?_⟩;refine⟨.non,_,I.zh (its':=its ++ [u]) hH e (by simp) (r.append (.cons ru .nil)) ?_,rfl,q⟩;rw[Td,UW];lk
abbrev pY:V->List V->Hp->VK->Prop:=λx vs H Q=>∃l xs i k y,x=.ref l/\vs=[.int i]/\H l=some (.lst xs)/\-(2 ^ 63)<=i/\i<2 ^ 63/\seqIndex? i xs.length=some k/\xs[k]?=some y/\Q y (upd H l (.lst (xs.eraseIdx k)))
def MW:EU X "list.pop" pY:=by
 intro pins s G H x vs v us Q I rx rv h;obtain⟨l,xs,i,k,y,rfl,rfl,hH,h1,h2,hk,hy,q⟩:=h;cases rx;obtain⟨u,rfl,ru⟩:=rv.one;obtain⟨t,rfl⟩:=ru;obtain⟨z,its,n,r,hl,e⟩:=I.rB hH;obtain⟨w,hw,rw'⟩:=r.get hy;refine call_meets F.slot_list_pop ⟨_,e,rfl⟩ F.entry_list_pop (F.args_list_pop_2 _ _)
  (MeetsSeq.list_pop_at l its.toArray n i t k w (fitsIndex_both h1 h2) (by rw[Tv,<- hl];exact hk) (by rw[<- Array.getElem?_toList];exact hw) (by rw[Tv];lk)) ⟨e,?_⟩
 refine⟨y,_,I.zh (its':=its.eraseIdx k) hH e ?_ (r.eraseIdx k) ?_,rw',q⟩;show its.toArray.eraseIdxIfInBounds k=(its.eraseIdx k).toArray;rw[List.eraseIdxIfInBounds_toArray]
 have:=IE xs k
 lk
abbrev zi:R2:=λx y H Q=>∃l b xs zs,x=.ref l/\y=.ref b/\H l=some (.lst xs)/\H b=some (.lst zs)/\xs.length+zs.length<=sizeLine/\∀p,H p=none->Q (.ref p) (upd H p (.lst (xs ++ zs)))
def kS:iS X (binaryOp .Add) zi:=by
 intro pins s G H x y v u Q I rx ry h;obtain⟨l,b,xs,zs,rfl,rfl,hH,hB,hz,q⟩:=h;cases rx;cases ry;obtain⟨z,its,n,r,hl,e⟩:=I.rB hH;obtain⟨z2,its2,n2,r2,hl2,e2⟩:=I.rB hB;refine PySem.P.add_list e e2 ?_ (by rw[Tv,Tv];lk);have ea:its.toArray ++ its2.toArray=(its ++ its2).toArray:=by simp
 rw[ea];exact⟨.ref _,_,I.EV (t':=s.toks) (r.append r2) (by rw[Td];lk),rfl,q _ I.fresh⟩
end
end L2
namespace IF
open PySem PySem.W PySem.Calls PyProof.Rows
def MX{P:Params}{h:Heap}:∀(ns:List Int) (vs:List Value),WellAll P h vs (ns.map WData.int)->IntsAre vs ns:=by
 intro ns
 induction ns with
 |nil =>
  intro vs w;rw[List.map_nil]at w;cases w;exact .nil
 |cons n ns ih =>
  intro vs w;rw[Um]at w;cases w with
  |cons a b =>
   cases a;exact .cons _ _ (ih _ b)
def MY{l:OpenLaw}{n:Nat}(hn:l.most=some n){P:Params}{h:Heap}{args:List WData}{vals:List Value}
  (hpre:l.row.toRowW.claim.pre args=true) (hwl:WellAll P h vals args) :
  ∃a vs ns,vals=[Value.ref a]/\args=[WData.list (ns.map WData.int)]/\h.get? a=some { cls:=.type "list",data:=.seq vs.toArray }/\IntsAre vs ns/\ns.length<=n:=by
 have hsh:WShape.hasAll [] args [.list .int]=true:=(pre_splitW hpre).1;have hc:l.pre.holds [] { args:=args }=true:=(pre_splitW hpre).2;obtain⟨d,r,rfl,h1,h2⟩:=hasAllW_cons hsh;obtain rfl:=hasAllW_nil h2;obtain⟨xs,rfl,h3⟩:=hasW_list h1;obtain⟨ns,rfl⟩:=items_int h3;have hlen:ns.length<=n:=by
  unfold OpenLaw.pre at hc;have h4:(WTm.not (.lt (.lit (.int (n:Int))) (.len (.arg 0)))).holds [] { args:=[.list (ns.map .int)] }=true:=by
   have h4:=(holds_andW hc).1;rw[hn]at h4;exact h4
  have h5:=condW_of h4 (w_not (w_lt w_lit (w_len_list (w_arg rfl))));rw[S8]at h5;refine U7 λq=>?_;have q':(n:Int)<((ns.length:Nat):Int):=by lk
  first
   |(rw[decide_eq_true q']at h5;exact absurd h5 ∅)
   |(simp at h5;lk)
 cases hwl with
 |cons w1 w2 =>
  cases w2;cases w1 with
  |list ho hall=>exact⟨_,_,ns,rfl,rfl,ho,MX ns _ hall,hlen⟩
def MZ(l:OpenLaw)(args:List WData):l.row.toRowW.claim.post args (.bool true) args=true :=
 postW_of (r:=l.row.toRowW) (X:=(true == true))
  (show WShape.has [] (.bool true) .bool=true by first|rfl|decide|simp[WShape.has,WShape.arms,WShape.armsAll])
  (show(WTm.eq .res (.lit (.bool true))).value [] { args:=args,res:=some (.bool true),after:=args }=some (.bool (true == true))from w_eq_bool (w_res rfl) w_lit) rfl
def M0{l:OpenLaw}{n:Nat}{q:Program}{loose:List Str}{XP:(Str->Option Value)->Heap->Prop}{YP:World->Heap->Prop}{d:DefRec}
  (hn:l.most=some n) (hdf:d.params.defaults=[])
  (call:∀(w:World) (s₀ s₁:Shared) (mg mb:Str->Option Value) (fa:Addr) (o:Obj) (pm cd doc:Value) (a:Addr) (vs:List Value) (ns:List Int),
   Ground q loose [] XP w s₀ mg mb s₁.heap->YP w s₁.heap ->
   s₁.heap.get? fa=some o->o.data=.func (docDef d.name d.params d.body d.scope pm cd doc)->s₁.heap.CodeRec cd d.name->mg d.name=some (.ref fa) ->
   s₁.heap.get? a=some { cls:=.type "list",data:=.seq vs.toArray }->IntsAre vs ns->ns.length<=n->s₁.gens=#[] ->
   codeAny (model l.prog w) callerA (.call (.ref fa) ⟨[.ref a],[]⟩) (λr s'=>r=.ok (.ret (.bool true))/\OldK s₁.heap s'.heap/\s'.os=s₁.os/\AllBare s'.gens) s₁) :
  WalkO q loose XP YP l.row.toRowW d [] (λf vs=>PySem.call f vs):=by
 intro w s₀ s₁ mg mb G Y fa o pm cd doc dV kV ho hd hcd hD hmg hg args vals as hpre hlay hrd hwl hlo;obtain rfl:dV=.none:=Dflts.none hD hdf;obtain rfl:kV=.none:=Dflts.noKw hD;obtain⟨a,vs,ns,rfl,rfl,hobj,hints,hlen⟩:=MY hn hpre hwl;refine enter_call (codeAny_mono (call w s₀ s₁ mg mb fa o pm cd doc a vs ns G Y ho (fd_plain hd) hcd hmg hobj hints hlen hg) λr s' hq=>?_);obtain⟨rfl,h2,h3,h4⟩:=hq;exact⟨.inl ⟨.bool true,.bool true,[],rfl,λ_=>rfl,.bool true,MZ l _,λ_=>⟨List.Pairwise.nil,λ_ hm=>(nomatch hm)⟩⟩,h2,h3,h4⟩
end IF
namespace L2
open PySem PySem.Spec PyProof.Rows
def EW:∀{vs:List Value} {ns:List Int},IntsAre vs ns->Vals (ns.map V.int) vs
 |_,_,.nil=>.nil
 |_,_,.cons n t h=>.cons ⟨t,rfl⟩ (EW h)
abbrev Only(H:Hp):Prop:=∀b,H b=none\/∃o xs,H b=some (.kM o (.lst xs))
def M1{P:Program}{w:World}{K:Zfr}{mg mb:Str->Option Value}{CX:kO}{k:Nat}{fa a:Addr}{fd:FuncData}{x:Str}{sp:Sp}{s₁:Shared}{vs:List Value}{ns:List Int}
  (KX:K.In s₁.heap) (hns:s₁.heap.Ns mainGlobals mg) (hb:s₁.heap.Ns builtinsNs mb) (M3:∀x:Str,x≠"__name__" -> mb x=bootBuiltins x) (hlim:s₁.heap.NoLimit) (hg:s₁.gens=#[])
  (ha:s₁.heap.get? a=some { cls:=.type "list",data:=.seq vs.toArray }) (hi:IntsAre vs ns) (hl:ns.length<=sizeLine) (hr:cq k callerA)
  (F:∀base:Heap,K.In base->base.Ns mainGlobals mg->aN P w K mg base CX k fa fd [x] sp) (hbind:∀(s:Shared) (u:Value),BindsTo s fd ⟨[u],[]⟩ [(x,u)])
  (mw:∀H:Hp,Only H->fG K H a (ns.map V.int)->sp [.ref a] H (λv _=>v=.bl true) λ_ _ _=>False)
  (zj:∀H e s',CX [] H s₁ (λ_ _ _=>False) e s'->False) :
  codeAny (model P w) callerA (.call (.ref fa) ⟨[.ref a],[]⟩) (λr s'=>r=.ok (.ret (.bool true))/\OldK s₁.heap s'.heap/\s'.os=s₁.os/\AllBare s'.gens) s₁:=by
 have rv:=EW hi;have EX:=hi.length;have core:∀ H:Hp,Only H->fG K H a (ns.map V.int)->jd P w H s₁.heap->(∀ b,H b≠none->b=a)->(H a≠none->K.lookup a=none) ->
   codeAny (model P w) callerA (.call (.ref fa) ⟨[.ref a],[]⟩) (λr s'=>r=.ok (.ret (.bool true))/\OldK s₁.heap s'.heap/\s'.os=s₁.os/\AllBare s'.gens) s₁:=by
  intro H hO hS hok hA hK;have oB:∀{b:Addr} {o:Obj},s₁.heap.get? b=some o->H b=none->(lu s₁.heap H).get? b=some o:=λe n=>Ms e n;have rq:∀{b:Addr} {o:Obj} {es:Array DictEntry} {ep:Nat},s₁.heap.get? b=some o->o.data=.dict es ep->H b=none:=λ{b o es ep} e d=>by
   cases q:H b with
   |none=>rfl
   |some u =>
    have e':b=a:=hA b (by rw[q];simp);subst e';rw[ha]at e;cases e;have d':Data.seq vs.toArray _=Data.dict es ep:=d;cases d'
  have CS:∀{b:Addr} {m:Str->Option Value},s₁.heap.Ns b m->(lu s₁.heap H).Ns b m:=λ{b m} ⟨o,es,ep,e,d,r⟩=>⟨o,es,ep,oB e (rq e d),d,r⟩
  have IG:K.In (lu s₁.heap H):=λb o e=>oB (KX b o e) (by
   cases q:H b with
   |none=>rfl
   |some u =>
    have e':b=a:=hA b (by rw[q];simp);subst e'
    rw[hK (by rw[q];simp)]at e;cases e)
  have hM:Mod K mg (lu s₁.heap H):=⟨IG,CS hns,⟨mb,CS hb,M3⟩,let ⟨mc,h1,h2⟩:=hlim;⟨mc,CS h1,h2⟩⟩;have e0:lB P w K mg (lu s₁.heap H) callerA [] s₁ H:=⟨rfl,hM,λb o e=>Mt e,Nat.le_of_eq (Mr _ _),trivial,λb hb=>absurd (show b∈([]:List Addr)from hb) (by simp),hok,.of_eq hg⟩;refine codeAny_mono ((F _ IG (CS hns)).run callerA [] s₁ H ⟨[.ref a],[]⟩ [.ref a] [.ref a] _ _ hr e0 (hbind s₁ (.ref a)) (.cons rfl .nil) (mw H hO hS)) λr s' h=>?_;cases r with
  |error e=>exact(zj H e s' h).elim
  |ok fl =>
   cases fl with
   |next=>exact False.elim h
   |brk=>exact False.elim h
   |cont=>exact False.elim h
   |ret u =>
    obtain⟨v,H',os,bare,un,EY,r',q⟩:=h;have q':v=.bl true:=q;subst q';obtain rfl:u=Value.bool true:=r';refine⟨rfl,OldK.of_keep λb o e=>?_,os,bare⟩;cases q:H b with
    |none=>exact un.keep b o e q (by intro z;exact absurd (show b∈([]:List Addr)from z) (by simp)) (by simp)
    |some u =>
     rcases hO b with z|⟨ob,xs,z⟩
     ·rw[q]at z;cases z
     ·have z2:=un.kF b ob _ z
      obtain⟨e1,_⟩:=hok b _ z;obtain⟨e2,_⟩:=EY b _ z2;rw[e]at e1;cases e1;exact e2
 cases hk:K.lookup a with
 |some o =>
  have e:=KX a o hk;rw[ha]at e;cases e;refine core (λ_=>none) (λ_=>.inl rfl) (.inr ⟨_,vs.toArray,_,hk,rfl,rfl,rfl,by rw[Tv,EX];exact hl,by simpa using rv⟩) (λb u z=>by have z':(none:Option HO)=some u:=z;cases z') (λb z=>absurd rfl z) λz=>absurd rfl z
 |none =>
  refine core (λb=>if b=a then some (.kM { cls:=.type "list",data:=.seq vs.toArray } (.lst (ns.map V.int)))else none) (λb=>?_) (.inl (.inr ⟨{ cls:=.type "list",data:=.seq vs.toArray },if_pos rfl⟩)) (λb u z=>?_) (λb z=>?_) λ_=>hk
  ·by_cases hb:b=a
   ·exact .inr ⟨_,_,if_pos hb⟩
   ·exact .inl (if_neg hb)
  ·by_cases hb:b=a
   ·have z':=(if_pos hb).symm.trans z
    cases z';subst hb;exact⟨ha,by rw[S8];exact hl,vs,_,rv,ha⟩
   ·have z':=(if_neg hb).symm.trans z
    cases z'
  ·by_cases hb:b=a
   ·exact hb
   ·exact absurd (if_neg hb) z
@[reducible]def KOf{K:Zfr}{h:Heap}(_:K.In h):Zfr:=K
def M4{l:PySem.W.OpenLaw}{n k:Nat}{q:Program}{loose:List Str}{XP:(Str->Option Value)->Heap->Prop}{YP:World->Heap->Prop}{d:DefRec}{K:Params->Zfr}{CX:World->kO}{sp:World->Sp}{x:Str}
  (hn:l.most=some n) (hn2:n<=sizeLine) (hdf:d.params.defaults=[]) (hr:cq k callerA)
  (hY:∀(w:World) (h:Heap),YP w h->(K w.params).In h)
  (F:∀(w:World) (mg:Str->Option Value) (fa:Addr) (h:Heap),(K w.params).In h->h.Ns mainGlobals mg->mg d.name=some (.ref fa) ->
   ∃fd:FuncData,(∀(s:Shared) (u:Value),BindsTo s fd ⟨[u],[]⟩ [(x,u)]) /\
    ∀base:Heap,(K w.params).In base->base.Ns mainGlobals mg->aN l.prog w (K w.params) mg base (CX w) k fa fd [x] (sp w))
  (mw:∀(w:World) (H:Hp) (a:Addr) (ns:List Int),ns.length<=n->Only H->fG (K w.params) H a (ns.map V.int)->sp w [.ref a] H (λv _=>v=.bl true) λ_ _ _=>False)
  (zj:∀(w:World) (H:Hp) (s:Shared) (e:Value) (s':Shared),CX w [] H s (λ_ _ _=>False) e s'->False) :
  PySem.W.WalkO q loose XP YP l.row.toRowW d [] (λf vs=>PySem.call f vs):=by
 refine IF.M0 hn hdf λw s₀ s₁ mg mb fa o pm cd doc a vs ns G Y ho hd hcd hmg hobj hints hlen hg=>?_;have KX:=hY w _ Y;obtain⟨fd,hb,hF⟩:=F w mg fa _ KX G.T.g hmg;exact M1 KX G.T.g G.T.b G.T.builtins G.T.nolimit hg hobj hints (TF hlen hn2) hr hF hb (λH hO hS=>mw w H a ns hlen hO hS) λH e s'=>zj w H s₁ e s'
def M5{l:PySem.W.OpenLaw}{n k:Nat}{q:Program}{loose:List Str}{XP:(Str->Option Value)->Heap->Prop}{YP:World->Heap->Prop}{d:DefRec}{K:Params->Zfr}{CX:kO}{sp:Zfr->Sp}{x:Str}
  (hn:l.most=some n) (hn2:n<=sizeLine) (hdf:d.params.defaults=[]) (hr:cq k callerA)
  (hY:∀(w:World) (h:Heap),YP w h->(K w.params).In h)
  (F:∀(w:World) (mg:Str->Option Value) (fa:Addr) (h:Heap),(K w.params).In h->h.Ns mainGlobals mg->mg d.name=some (.ref fa) ->
   ∃fd:FuncData,(∀(s:Shared) (u:Value),BindsTo s fd ⟨[u],[]⟩ [(x,u)]) /\
    ∀base:Heap,(K w.params).In base->base.Ns mainGlobals mg->aN l.prog w (K w.params) mg base CX k fa fd [x] (sp (K w.params)))
  (mw:∀(K:Zfr) (H:Hp) (a:Addr) (ns:List Int),ns.length<=n->Only H->fG K H a (ns.map V.int)->sp K [.ref a] H (λv _=>v=.bl true) λ_ _ _=>False)
  (zj:∀(H:Hp) (s:Shared) (e:Value) (s':Shared),CX [] H s (λ_ _ _=>False) e s'->False) :
  PySem.W.WalkO q loose XP YP l.row.toRowW d [] (λf vs=>PySem.call f vs) :=
 M4 (K:=K) (CX:=λ_=>CX) (sp:=λw=>sp (K w.params)) hn hn2 hdf hr hY F (λw H a ns h1 h2 h3=>mw (K w.params) H a ns h1 h2 h3) λ_ H s e s'=>zj H s e s'
abbrev fU(s:Stmt):Arguments:=match s with
 |.FunctionDef _ a _ _ _ _ _ _ _ _=>a
 |_=>{ posonlyargs:=[],args:=[],vararg:=none,kwonlyargs:=[],kw_defaults:=[],kwarg:=none,defaults:=[] }
abbrev cR(s:Stmt):List Stmt:=match s with
 |.FunctionDef _ _ b _ _ _ _ _ _ _=>b
 |_=>[]
abbrev aw(s:Stmt):Scope:=match s with
 |.FunctionDef _ _ _ _ _ _ sc _ _ _=>sc
 |_=>{ kind:=.function,names:=[],isGenerator:=false,isCoroutine:=false }
@[reducible]def cS:kO:=λ_ _ _ _ _ _=>False
@[reducible]def E0:XK:=λ_ _ _=>False
def zk{X:Cx}:Passes cS X E0:=λ_ _ _ _ _ _ _ h=>h.elim
structure mX(K:Zfr)(x qual:Str)(st:Stmt)(f:Addr)(fd:FuncData):Prop where
 ex:∃(oc:Value) (od:Option Addr) (kV doc pm:Value) (an:Option Addr) (cdv ct:Value) (osl:Array (Option Value)),
  fd=PySem.W.fnOf x qual (fU st) (cR st) (aw st) .none kV doc pm an cdv ct/\K.lookup f=some ⟨oc,od,.func fd,osl⟩/\PySem.W.codeIn K cdv qual=true
 kp:PySem.W.keepIn K (.ref f)=true
section
variable {P:Program}{w:World}{K:Zfr}{mg:Str->Option Value}{base:Heap}
def mX.ok{x qual:Str}{st:Stmt}{f:Addr}{fd:FuncData}{N ps:List Str}{k:Nat}{sp:Sp}(F:mX K x qual st f fd)(S:aG N ps (aw st))(len:∀vs H Q E,sp vs H Q E->vs.length=ps.length)
  (hbody:∀(cdv:Value) (A:Around) (outer:List Env) (s:Shared) (H:Hp) (vs:List V) (Q:VK) (E:XK),cq k (A.deeper (envOfC qual (aw st) s.heap.objs.size f cdv))->sp vs H Q E ->
   ∃t,kN (dS cS P w K mg base N qual (aw st) f cdv A outer s H E).pD (cR st) t/\t { nx:=λ_ H'=>Q .non H',rt:=Q } (start N vs) H):aN P w K mg base cS (k+1) f fd ps sp:=by
 obtain⟨oc,od,kV,doc,pm,an,cdv,ct,osl,rfl,lk,hcd⟩:=F.ex;refine sS lk hcd S len λA outer s H vs Q E hr mw=>?_;obtain⟨t,h,q⟩:=hbody cdv A outer s H vs Q E hr mw;exact⟨t,h.pD,q⟩
def IH{x qual:Str}{st:Stmt}{f:Addr}{oc:Value}{od an:Option Addr}{osl:Array (Option Value)}{kV doc pm cdv ct:Value}(l:K.lookup f=some ⟨oc,od,.func (PySem.W.fnOf x qual (fU st) (cR st) (aw st) .none kV doc pm an cdv ct),osl⟩)
  (c:PySem.W.codeIn K cdv qual=true) (k:PySem.W.keepIn K (.ref f)=true):mX K x qual st f (PySem.W.fnOf x qual (fU st) (cR st) (aw st) .none kV doc pm an cdv ct):=⟨⟨oc,od,kV,doc,pm,an,cdv,ct,osl,rfl,l,c⟩,k⟩
end
def II{A:Around}{k:Nat}(hr:cq k A):A.units+1<cLine:=UD (Nat.add_le_add_left (by decide:1<=64) _) hr.units
section
variable {X:Cx}
def pv(i:Nat){x:Str}{pos:Pos}(hN:X.N[i]?=some x:=by rfl)(hv:Es X.env.scope x:=by first | exact Or.inl rfl | exact Or.inr (Or.inl rfl) | exact Or.inr (Or.inr rfl))(hd:(x == ("__debug__" : Str))=false:=by decide)
  (hcd:(x == ("__classdict__" : Str))=false:=by decide):PE X (.Name x pos) (lA i):=uw hN hv hd hcd
end
def nJ{A B:Prop}(h:B):if false=true then A else B:=by rw[if_neg Tb];exact h
def nK{A B:Prop}(h:A):if true=true then A else B:=by rw[if_pos rfl];exact h
abbrev cL(H H':Hp):Prop:=∀b o,H b=some o->H' b=some o
def cL.refl(H:Hp):cL H H:=λ_ _ h=>h
def hU:bootBuiltins "len" = some (.builtin "len"):=by decide +kernel
def EZ:bootBuiltins "int" = some (.type "int"):=by decide +kernel
def IJ:bootBuiltins "str" = some (.type "str"):=by decide +kernel
def oE:bootBuiltins "list" = some (.type "list"):=by decide +kernel
def sZ:bootBuiltins "tuple" = some (.type "tuple"):=by decide +kernel
def pZ:bootBuiltins "range" = some (.type "range"):=by decide +kernel
def E1:bootBuiltins "isinstance" = some (.builtin "isinstance"):=by decide +kernel
def uQ:bootBuiltins "max" = some (.builtin "max"):=by decide +kernel
def M6:bootBuiltins "sorted" = some (.builtin "sorted"):=by decide +kernel
def CT:bootBuiltins "repr" = some (.builtin "repr"):=by decide +kernel
def uR:bootBuiltins "all" = some (.builtin "all"):=by decide +kernel
def uS:bootBuiltins "zip" = some (.type "zip"):=by decide +kernel
structure Kp(ch:List Addr)(H H':Hp):Prop where
 keep:∀b o,H b=some o->b ∉ ch->H' b=some o
 tup:∀b xs,H b=some (.tup xs)->H' b=some (.tup xs)
 kM:∀b o u,H b=some (.kM o u)->H' b=some (.kM o u)
section
variable {ch:List Addr}{H H1 H2:Hp}{a l p:Addr}{o:HO}{xs ys:List V}{K:Zfr}
def Kp.refl:Kp ch H H:=⟨λ_ _ h _=>h,λ_ _ h=>h,λ_ _ _ h=>h⟩
def Kp.of_same(h:cL H H1):Kp ch H H1:=⟨λb o e _=>h b o e,λb xs e=>h b _ e,λb o u e=>h b _ e⟩
def Kp.put(h:Kp ch H H1)(ha:a∈ch)(e:H1 a=some (.lst xs)):Kp ch H (upd H1 a o) :=
 ⟨λb u q n=>by rw[b8 (λz=>n (by rw[z];exact ha))];exact h.keep b u q n,
   λb u q=>by
  have r:=h.tup b u q;rw[b8 (sD r e (by intro z;cases z))];exact r,
   λb u v q=>by
  have r:=h.kM b u v q
  rw[b8 (sD r e (by intro z;cases z))];exact r⟩
def Kp.E3(h:Kp ch H H1)(q:df K H a xs):df K H1 a xs:=by
 rcases q with(q|⟨o,q⟩)|q
 exact .inl (.inl (h.tup a xs q));exact .inl (.inr ⟨o,h.kM a o _ q⟩);exact .inr q
abbrev zm(K:Zfr)(H:Hp)(a:Addr)(xs:List V):Prop :=
 (∃o,H a=some (.kM o (.lst xs))) \/
  ∃(o:Obj) (its:Array Value) (n:Nat),K.lookup a=some o/\o.cls=.type "list" /\ o.dict=none/\o.data=.seq its n/\its.size<=sizeLine/\Vals xs its.toList
def zm.sq(h:zm K H a xs):fG K H a xs:=h.elim (λ⟨o,e⟩=>.inl (.inr ⟨o,e⟩)) .inr
def fG.script(hO:Only H)(q:fG K H a xs):zm K H a xs:=by
 rcases q with(q|⟨o,q⟩)|q
 rcases hO a with e|⟨o,ys,e⟩
 rw[e]at q;cases q;rw[e]at q;cases q;exact .inl ⟨o,q⟩;exact .inr q
def cL.up(h:H p=none):cL H (upd H p o):=λb u e=>by rw[b8 (ur e h)];exact e
end
abbrev nL(K:Zfr)(H:Hp)(xs:List V)(Q:VK):Prop:=∀p H',df K H' p xs->cL H H'->Q (.ref p) H'
section
variable {X:Cx}
def nL.new{K:Zfr}{H:Hp}{xs:List V}{Q:VK}(h:nL K H xs Q):∀p,H p=none->Q (.ref p) (upd H p (.tup xs)):=λp hp=>h p _ (df.of h8) (cL.up hp)
def nL.it{K:Zfr}{H:Hp}{xs:List V}{Q:VK}{a:Addr}(h:nL K H xs Q)(q:df K H a xs):Q (.ref a) H:=h a H q (cL.refl H)
abbrev p8(K:Zfr):R2:=λx y H Q=>∃a b xs ys,x=.ref a/\y=.ref b/\df K H a xs/\df K H b ys/\xs.length+ys.length<=sizeLine/\nL K H (xs ++ ys) Q
def M7:iS X (binaryOp .Add) (p8 X.K):=by
 intro pins s G H x y v u Q I rx ry h;obtain⟨a,b,xs,ys,rfl,rfl,ha,hb,hz,q⟩:=h;by_cases hx:xs=[];subst hx;cases rx;cases ry;obtain⟨its,r1,p1,_⟩:=I.tuple ha;obtain⟨its2,r2,p2,_⟩:=I.tuple hb;have e:its=[]:=r1.jX.mpr rfl;subst e;obtain⟨⟨cls,dd,data,sl⟩,ho,hc,n,hd⟩:=id p1;obtain⟨⟨EI,dd2,data2,sl2⟩,ho2,hc2,n2,hd2⟩:=id p2;simp only at hc hd hc2 hd2;subst hc hd hc2 hd2;exact concat_meets ⟨_,ho,rfl⟩ ⟨_,ho2,rfl⟩ noFill_tuple_add seq_tuple_add PySem.F.slot_tuple_add PySem.F.entry_tuple_add (PySem.F.args_tuple_add_2 _ _)
  (tuple_addW0 a b #[] its2.toArray n n2 dd dd2 sl sl2 (by simp)) ⟨ho,ho2,⟨.ref b,H,I,rfl,q.it (by simpa using hb)⟩⟩
 exact MS pins s G H _ _ v u Q I rx ry ⟨a,b,xs,ys,rfl,rfl,ha,hb,hx,hz,λe=>q.it (by subst e;simpa using ha),λ_=>q.new⟩
def M8{prog:Program}{w:World}{A:Around}{E:Value->Shared->Prop}{s:Shared}{t sl:Addr}{items:Array Value}{vl vu:Value}{lo hi:Option Int}{Q:Value->Shared->Prop}(ht:IsTup s.heap t items)(hs:s.heap.IsSliceOf sl vl vu .none)(pl:IsPart vl lo)(pu:IsPart vu hi)
  (hw:HT.bT items.size 0 lo=0/\HT.bT items.size items.size hi=items.size) (h:Q (.ref t) s):wpAny (model prog w) A (getItem (.ref t) (.ref sl)) Q E s:=by
 obtain⟨os,hos,hcs,hds⟩:=id hs;have EJ:s.TypeIs (.ref sl) "slice" := ⟨os,hos,hcs⟩;unfold getItem
 try with_reducible refine wpAny_holding ?_
 first|refine wpAny_bind (wpAny_pure ?_)|skip
 refine wpAny_bind (wpAny_sequenceKey ht.typeIs ∅ ?_)
 refine wpAny_bind (wpAny_callSpecial?_slot (name:=Str.ofString "__getitem__") ht.typeIs PyProof.Rows.slot_tuple_getitem
  (wpAny_call_entry PyProof.Rows.slot_tuple_getitem ht.typeIs entry_tuple_getitem ?_ (args_tuple_getitem _ _)))
 show wpAny _ _ (Builtin.Tuple.tupleItemsOf (.ref t) >>= _) _ _ s;refine wpAny_bind (tupleItemsOf_ ht ?_);refine wpAny_bind (wpAny_typeOf EJ ?_);rw[if_pos ∅];refine wpAny_bind (HT.Iy hs pl pu ?_);have hyes:((((HT.bT items.size 0 lo:Nat):Int) == 0 && (1:Int) == 1 && (HT.bT items.size items.size hi-HT.bT items.size 0 lo) == items.size)=true):=by
  rw[hw.1,hw.2];simp
 show wpAny _ _ (if(((HT.bT items.size 0 lo:Nat):Int) == 0 && (1:Int) == 1 && (HT.bT items.size items.size hi-HT.bT items.size 0 lo) == items.size)=true then _ else _) _ _ s;rw[if_pos hyes];obtain⟨o,ho,hc,n,hd⟩:=id ht;unfold Builtin.Tuple.tupleIsExact
 first
  |exact wpAny_bind (wpAny_bind (wpAny_typeOf (T:="tuple") ⟨o,ho,hc⟩ (wpAny_pure (wpAny_bind (wpAny_rule (wpAny_pure ⟨_,rfl,wpAny_pure h⟩))))))
  |exact wpAny_bind (wpAny_bind (wpAny_typeOf (T:="tuple") ⟨o,ho,hc⟩ (wpAny_pure (wpAny_bind (wpAny_rule (wpAny_bind (wpAny_pure ⟨_,rfl,wpAny_pure h⟩)))))))
  |trace_state
abbrev tf(K:Zfr):V->Option Int->Option Int->Hp->VK->Prop:=λx lo hi H Q=>∃a xs,x=.ref a/\df K H a xs/\nL K H (j8 xs lo hi) Q
def M9{xs:List V}{lo hi:Option Int}(h:HT.bT xs.length 0 lo=0/\HT.bT xs.length xs.length hi=xs.length):j8 xs lo hi=xs:=by unfold j8;rw[h.1,h.2];simp
def IK:yX X (tf X.K):=by
 intro pins s G H x v vl vu lo hi sl Q I rx hs pl pu h;obtain⟨a,xs,rfl,hx,q⟩:=h;by_cases hw:HT.bT xs.length 0 lo=0/\HT.bT xs.length xs.length hi=xs.length;cases rx;obtain⟨its,r,ht,hz⟩:=I.tuple hx;have hlen:its.toArray.size=xs.length:=by rw[Tv];exact r.length.symm
 refine⟨"tuple",_,PyProof.Rows.slot_tuple_getitem.lookup,ht.typeIs,?_⟩;exact M8 ht hs pl pu (by rw[hlen];exact hw) ⟨.ref a,H,I,rfl,q.it (by rw[M9 hw];exact hx)⟩;exact uM pins s G H _ v vl vu lo hi sl Q I rx hs pl pu ⟨a,xs,rfl,hx,hw,q.new⟩
abbrev dU(lo:Int)(n:Nat):List V:=(List.range n).map λ(k:Nat)=>V.int (lo+k)
def Na(lo:Int)(n:Nat):(dU lo n).length=n:=by simp[dU]
def CU:dg X (.type "range") (λxs H Q=>∃j:Int,xs=[.int j]/\∀p,H p=none->Q (.ref p) (upd H p (.fR 0 j))):=by intro pins s G H xs us Q I r h;obtain⟨j,rfl,q⟩:=h;obtain⟨u,rfl,t,rfl⟩:=vals1 r;refine call_range_1 ⟨.ref s.heap.objs.size,_,I.laid (o:=.fR 0 j) (λb o e=>S9 _ e) (Tc _) ?_,rfl,q _ (I.hok.fresh (Tc _))⟩;exact⟨_,_,_,To _ rfl⟩
def uT:dg X (.type "range") (λxs H Q=>∃i j:Int,xs=[.int i,.int j]/\∀p,H p=none->Q (.ref p) (upd H p (.fR i j))):=by intro pins s G H xs us Q I r h;obtain⟨i,j,rfl,q⟩:=h;obtain⟨u,u',rfl,⟨t,rfl⟩,t',rfl⟩:=vals2 r;refine call_range_2 ⟨.ref s.heap.objs.size,_,I.laid (o:=.fR i j) (λb o e=>S9 _ e) (Tc _) ?_,rfl,q _ (I.hok.fresh (Tc _))⟩;exact⟨_,_,_,To _ rfl⟩
def IL:∀(n:Nat) (lo:Int) (us:List Value),us.length=n->(∀(j:Nat) (v:Value),us[j]?=some v->∃t,v=.int (lo+j*1) t)->Vals (dU lo n) us
 |0,lo,[],_,_=>.nil
 |0,lo,_ :: _,h,_=>by simp at h
 |n+1,lo,[],h,_=>by simp at h
 |n+1,lo,u :: us,h,hv=>by
  have e:dU lo (n+1)=V.int lo :: dU (lo+1) n:=by
   unfold dU;rw[List.range_succ_eq_map,Um,Uo]
   congr 1
   simp;apply Vk;intro i _;simp only[Function.comp]
   congr 1
   push_cast
   lk
  rw[e];obtain⟨t,ht⟩:=hv 0 u rfl;refine .cons ⟨t,by rw[ht];simp⟩ (IL n (lo+1) us (by simpa using h) λj v hj=>?_);obtain⟨t',ht'⟩:=hv (j+1) v hj;refine⟨t',ht'.trans ?_⟩
  congr 1
  lk
def p9(hc:X.calm=true):dg X (.type "list") (λxs H Q=>∃p lo hi,xs=[.ref p]/\H p=some (.fR lo hi)/\(-(2 ^ 62)<=lo/\lo<2 ^ 62/\-(2 ^ 62)<=hi/\hi<2 ^ 62)/\(hi-lo).toNat<=2 ^ 24 /\
  ∀l,H l=none->Q (.ref l) (upd H l (.lst (dU lo (hi-lo).toNat)))):=by
 intro pins s G H xs us Q I r h;obtain⟨p,lo,hi,rfl,hp,⟨b1,b2,b3,b4⟩,hz,q⟩:=h;obtain⟨u,rfl,ru⟩:=vals1 r;cases ru;obtain⟨t,t',t'',e⟩:=(show bz X.prog X.w H s.heap p (.fR lo hi)from I.hok p _ hp);refine call_list_range (a:=lo) (b:=hi) (c:=1) (n:=(hi-lo).toNat) (I.ok.hd hc) (show IsRange s.heap p lo hi 1 t t' t'' from e) (small_one b1 b2 b3 b4) (by rw[rangeSize_one];split<;>lk) hz λh' tk acc c kp hD hI=>?_;refine⟨.ref s.heap.objs.size,_,I.laid (t':=tk) (o:=.lst (dU lo (hi-lo).toNat)) kp (Tc _) ?_,rfl,q _ (I.hok.fresh (Tc _))⟩;refine⟨by rw[Na];exact TF hz ∅,acc.toList,c,IL _ _ _ (by rw[UN];exact hI.1) λj v hj=>hI.2 j v (by rw[<- hj,Array.getElem?_toList]),by simpa using hD⟩
def Nb{prog:Program}{w:World}{A:Around}{E:Value->Shared->Prop}{s:Shared}{l:Addr}{vs:List Value}{Q:List Value->Shared->Prop}(hl:IsTup s.heap l vs.toArray)
  (h:Q vs { s with heap:=(s.heap.push (seqObj "list" #[] 0)).update s.heap.objs.size (Obj.mapSeq (· ++ vs.toArray)) }) (hsz:vs.length<=sizeLine) :
  wpAny (model prog w) A (collect (.ref l)) Q E s:=by
 obtain⟨o,ho,hc,n,hd⟩:=id hl;unfold collect;refine wpAny_bind (wpAny_runValue (codeAny_builtin entry_proto_collect' ?_));show wpAny _ _ (do again (.builtin "list.__iadd__" ⟨[<- newList [],.ref l],[]⟩)) _ _ s;refine wpAny_bind (wpAny_newList (wpAny_pure ⟨Code.quiet_builtin _ (by decide +kernel),codeAny_builtin entry_list_iadd' ?_⟩));show wpAny _ _ (Builtin.List.listExtendWith (.ref s.heap.objs.size) (.ref l) (.ref s.heap.objs.size)) _ _ { s with heap:=s.heap.push (seqObj "list" #[] 0) };unfold Builtin.List.listExtendWith;have ho':(s.heap.push (seqObj "list" #[] 0)).get? l=some o:=S9 _ ho;refine wpAny_bind (wpAny_typeOf (T:="tuple") ⟨o,ho',hc⟩ ?_);have ht:(Value.type "tuple" == Value.type "tuple")=true:=by rfl
 rw[if_pos (by rw[ht];simp)];refine wpAny_bind (listItems_at ho' hd ?_);refine wpAny_bind (listItems_at (xs:=#[]) (n:=0) (To _ rfl) rfl ?_);rw[if_neg (by simp)];refine wpAny_bind (listUpdate_at (xs:=#[]) (n:=0) (To _ rfl) rfl ?_ (Uq _) (by show(#[] ++ vs.toArray).size<=sizeLine+1;simp only[Array.size_append,Tv,Uj];lk));refine wpAny_pure ?_
 show wpAny (model prog w) A (do
   let o <- load s.heap.objs.size
   match o.data with
   |.seq xs _=>pure xs.toList
   |_=>unsupported "internal:collect") Q E { s with heap:=(s.heap.push (seqObj "list" #[] 0)).update s.heap.objs.size (Obj.mapSeq (· ++ vs.toArray)) }
 refine wpAny_bind (wpAny_load (get?_update_seq (To _ rfl) _) ?_);show wpAny _ _ (pure ((#[]:Array Value) ++ vs.toArray).toList) Q E _;rw[show((#[]:Array Value) ++ vs.toArray).toList=vs by simp];exact wpAny_pure h
def Nc{prog:Program}{w:World}{A:Around}{E:Value->Shared->Prop}{s:Shared}{l:Addr}{vs:List Value}{ns:List Int}{Q:Value->Shared->Prop}(hl:IsTup s.heap l vs.toArray\/s.heap.IsList l vs.toArray)(hI:IntsAre vs ns)(h64:vs.length<64)
  (h:∀(out:Array Value) (ns':List Int),IntsAre out.toList ns'->ns'.Perm ns->ns'.Pairwise (·<=·)->Q (.ref (s.heap.objs.size+1)) { s with heap:=sortedAll s.heap vs out }) :
  wpAny (model prog w) A (call (.builtin "sorted") [.ref l]) Q E s:=by
 rcases hl with hl|hl
 refine Calls.call_function_entry kind_sorted plain_sorted entry_sorted (args_sorted1 _) ?_;unfold Builtin.«sorted»;refine wpAny_bind (m:=checkCount "sorted" 1 1 _) (wpAny_pure ?_);refine wpAny_bind (Nb hl ?_ (TF (UJ h64) ∅));refine wpAny_bind (wpAny_newList ?_);have hsz:((s.heap.push (seqObj "list" #[] 0)).update s.heap.objs.size (Obj.mapSeq (· ++ vs.toArray))).objs.size=s.heap.objs.size+1:=by
  rw[Heap.size_update,size_push']
 have CB:(((s.heap.push (seqObj "list" #[] 0)).update s.heap.objs.size (Obj.mapSeq (· ++ vs.toArray))).push (seqObj "list" vs.toArray 0)).get? (s.heap.objs.size+1)=some (seqObj "list" vs.toArray 0):=by
  rw[<- hsz];exact To _ rfl
 show wpAny _ _ _ _ _ { s with heap:=((s.heap.push (seqObj "list" #[] 0)).update s.heap.objs.size (Obj.mapSeq (· ++ vs.toArray))).push (seqObj "list" vs.toArray 0) };rw[hsz];refine wpAny_bind (wpAny_holding (wpAny_call_entry slot_list_sort ⟨_,CB,rfl⟩ entry_list_sort (list_sort_tree CB hI h64 λout ns' a1 a2 a3=>⟨_,rfl,?_⟩) (args_list_sort _)));exact wpAny_pure ⟨_,rfl,h out ns' a1 a2 a3⟩;exact sorted_ints hl hI h64 h
def Nd:dg X (.builtin "sorted") (λxs H Q=>∃(p:Addr) (ns:List Int),xs=[.ref p]/\(fG X.K H p (ns.map V.int)\/df X.K H p (ns.map V.int))/\ns.length<64 /\
  ∀(l:Addr) (ms:List Int),H l=none->ms.Perm ns->ms.Pairwise (·<=·)->Q (.ref l) (upd H l (.lst (ms.map V.int)))):=by
 intro pins s G H xs us Q I r h;obtain⟨p,ns,rfl,hq,h64,q⟩:=h;obtain⟨u,rfl,ru⟩:=vals1 r;cases ru;have fin:∀(its:List Value),Vals (ns.map V.int) its->(IsTup s.heap p its.toArray\/s.heap.IsList p its.toArray)->wpAny (model X.prog X.w) X.A (call (.builtin "sorted") [.ref p]) (EP X pins G Q) X.xe s:=λits rv hp=>by
  have hl:=rv.length;rw[S8]at hl;refine Nc hp (MR rv) ⋯ λout ms h1 h2 h3=>?_;obtain⟨e,he⟩:=sortedAll_at s.heap its out;have hz:ms.length=ns.length:=h2.length_eq;refine⟨.ref (s.heap.objs.size+1),_,I.laid (t':=s.toks) (o:=.lst (ms.map V.int)) (λb o q=>sortedAll_old q) (Vn _) ?_,rfl,q _ ms (I.hok.fresh (Vn _)) h2 h3⟩;refine⟨by rw[S8,hz];exact TF (UJ h64) ∅,out.toList,e,EW h1,by simpa using he⟩
 rcases hq with hq|hq
 obtain⟨its,rv,pl,_⟩:=I.list hq;exact fin its rv (.inr pl.isList);obtain⟨its,rv,pl,_⟩:=I.tuple hq;exact fin its rv (.inl pl)
end
mutual
inductive Rep(K:Zfr)(H:Hp):V->PyData->Prop
 |non:Rep K H .non .none
 |bl (b:Bool):Rep K H (.bl b) (.bool b)
 |int (i:Int):Rep K H (.int i) (.int i)
 |str (x:Str):Rep K H (.str x) (.str x)
 |tup {a:Addr} {xs:List V} {ds:List PyData}:df K H a xs->fH K H xs ds->Rep K H (.ref a) (.tuple ds)
 |lst {a:Addr} {xs:List V} {ds:List PyData}:fG K H a xs->fH K H xs ds->Rep K H (.ref a) (.list ds)
inductive fH(K:Zfr)(H:Hp):List V->List PyData->Prop
 |nil:fH K H [] []
 |cons {v:V} {vs:List V} {d:PyData} {ds:List PyData}:Rep K H v d->fH K H vs ds->fH K H (v :: vs) (d :: ds)
end
section
variable {X:Cx}{pins:List (Addr×Obj)}{G:St}{H:Hp}{s:Shared}
mutual
theorem Rep.reads(I:Inv X pins G H s):∀{v:V} {d:PyData} {u:Value},Rep X.K H v d->RelV v u->∃as,Reads s.heap u d as
 |_,_,_,.non,r=>by cases r;exact⟨_,.none⟩
 |_,_,_,.bl b,r=>by cases r;exact⟨_,.bool b⟩
 |_,_,_,.int i,r=>by obtain⟨t,rfl⟩:=r;exact⟨_,.int i t⟩
 |_,_,_,.str x,r=>by obtain⟨t,rfl⟩:=r;exact⟨_,.str x t⟩
 |_,_,_,.tup q rs,r=>by
  cases r;obtain⟨its,rv,⟨o,e,c,n,hd⟩,_⟩:=I.tuple q;obtain⟨as,ra⟩:=fH.reads I rs rv;exact⟨_,.tuple e c hd (by simpa using ra)⟩
 |_,_,_,.lst q rs,r=>by
  cases r;obtain⟨its,rv,pl,_⟩:=I.list q;obtain⟨o,e,c,n,hd⟩:=pl.isList;obtain⟨as,ra⟩:=fH.reads I rs rv;exact⟨_,.list e c hd (by simpa using ra)⟩
theorem fH.reads(I:Inv X pins G H s):∀{vs:List V} {ds:List PyData} {us:List Value},fH X.K H vs ds->Vals vs us->∃as,ReadsAll s.heap us ds as
 |_,_,_,.nil,r=>by cases r;exact⟨_,.nil⟩
 |_,_,_,.cons h t,r=>by
  cases r with
  |cons r1 r2 =>
   obtain⟨as,h1⟩:=Rep.reads I h r1;obtain⟨bs,h2⟩:=fH.reads I t r2;exact⟨_,.cons h1 h2⟩
end
abbrev uU(K:Zfr)(neg:Bool):R2:=λx y H Q=>∃d e,Rep K H x d/\Rep K H y e/\PyData.canLay0 d=true/\PyData.canLay0 e=true/\min d.depth e.depth<=60/\Q (.bl (if neg then !PyData.eqv d e else PyData.eqv d e)) H
def uV(hu:X.A.units+64<cLine):iS X (compareOp .Eq) (uU X.K false):=by intro pins s G H x y v u Q I rx ry h;obtain⟨d,e,hd,he,c1,c2,dp,q⟩:=h;obtain⟨as,ra⟩:=hd.reads I rx;obtain⟨bs,rb⟩:=he.reads I ry;exact SeqAt.eqOverData X.prog X.w X.A X.xe s v u d e as bs _ ra rb c1 c2 ⋯ ⟨.bl _,H,I,rfl,q⟩
def IP(hu:X.A.units+64<cLine):iS X (compareOp .NotEq) (uU X.K true):=by intro pins s G H x y v u Q I rx ry h;obtain⟨d,e,hd,he,c1,c2,dp,q⟩:=h;obtain⟨as,ra⟩:=hd.reads I rx;obtain⟨bs,rb⟩:=he.reads I ry;exact SeqAt.neOverData X.prog X.w X.A X.xe s v u d e as bs _ ra rb c1 c2 ⋯ ⟨.bl _,H,I,rfl,q⟩
end
section
variable {K:Zfr}{H:Hp}
abbrev gQ(ns:List Int):List PyData:=ns.map PyData.int
def E6:∀(ns:List Int),PyData.canLayAll0 (gQ ns)=true
 |[]=>rfl
 |n :: r=>by show(true && PyData.canLayAll0 (gQ r))=true;rw[E6 r];rfl
def IQ:∀(ns:List Int),PyData.depthAll (gQ ns)=0
 |[]=>rfl
 |n :: r=>by show max 0 (PyData.depthAll (gQ r))=0;rw[IQ r];rfl
def E8:∀(ns ms:List Int),PyData.eqvAll (gQ ns) (gQ ms)=decide (ns=ms)
 |[],[]=>rfl
 |[],_ :: _=>rfl
 |_ :: _,[]=>rfl
 |n :: ns,m :: ms=>by
  show((n == m) && PyData.eqvAll (gQ ns) (gQ ms))=decide (n :: ns=m :: ms);rw[E8 ns ms];by_cases h:n=m;subst h;simp;simp[h]
end
end L2
namespace L2
open PySem PySem.Spec PyProof.Rows
structure Def(K:Zfr)(mg:Str->Option Value)(x:Str)(st:Stmt)(ps:List Str)(f:Addr)(fd:FuncData):Prop where
 F:mX K x x st f fd
 be:∀us:List Value,us.length=ps.length->bindArgs fd ⟨us,[]⟩=pure (ps.zip us)
 m:mg x=some (.ref f)
def Def.b{K:Zfr}{mg:Str->Option Value}{x:Str}{st:Stmt}{ps:List Str}{f:Addr}{fd:FuncData}(D:Def K mg x st ps f fd):Binds K fd ps []:=.all D.be
def kG{K:Zfr}{h:Heap}{mg:Str->Option Value}(X:K.In h)(G:h.Ns mainGlobals mg){x:Str}{st:Stmt}{ps:List Str}{f:Addr}{oc:Value}{od an:Option Addr}{osl:Array (Option Value)}{kV doc pm cdv ct:Value}
  (hb:∀(kV doc pm:Value) (an:Option Addr) (cdv ct:Value) (us:List Value),us.length=ps.length->bindArgs (PySem.W.fnOf x x (fU st) (cR st) (aw st) .none kV doc pm an cdv ct) ⟨us,[]⟩=pure (ps.zip us))
  (a:PySem.W.nsIn K mainGlobals x=some (some (.ref f))) (l:K.lookup f=some ⟨oc,od,.func (PySem.W.fnOf x x (fU st) (cR st) (aw st) .none kV doc pm an cdv ct),osl⟩)
  (c:PySem.W.codeIn K cdv x=true) (k:PySem.W.keepIn K (.ref f)=true):∃f fd,Def K mg x st ps f fd :=
 ⟨f,_,IH l c k,hb kV doc pm an cdv ct,PySem.W.mg_of X G a⟩
def Def.rC{K:Zfr}{mg:Str->Option Value}{x p:Str}{st:Stmt}{f:Addr}{fd:FuncData}(D:Def K mg x st [p] f fd)(s:Shared)(u:Value):BindsTo s fd ⟨[u],[]⟩ [(p,u)]:=.of_eq (D.be [u] rfl)
def oF{K:Zfr}{h:Heap}{mg:Str->Option Value}(X:K.In h)(G:h.Ns mainGlobals mg){x:Str}(z:PySem.W.nsIn K mainGlobals x=some none):mg x=none:=PySem.W.mg_none_of X G z
def zo{n j:Nat}(h:j<n):kR n (j:Int)=some j:=by unfold kR;rw[if_pos ⋯,if_pos ⋯];simp
def uW{J:Type}{xs:List J}{i:Int}(h0:0<=i)(h1:i<xs.length):∃v,iH xs i=some v/\v∈xs:=by
 have hi:i.toNat<xs.length:=by lk
 refine⟨xs[i.toNat],?_,UK hi⟩;have:=mh (xs:=xs) (j:=i.toNat) (v:=xs[i.toNat]) (by simp[hi])
 rwa [Uw h0]at this
def dT{c:Prop}[Decidable c](h:decide c=true):c:=of_decide_eq_true h
section
variable {X:Cx}{e:Expr}{te:TE}{pos p0 p1 p2:Pos}{j:Nat}
abbrev IU(X:Cx)(r:V->Hp->VK->Prop):Prop :=
 ∀(pins:List (Addr×Obj)) (s:Shared) (G:St) (H:Hp) (x:V) (v:Value) (sl:Addr) (u:Tok) (Q:VK),Inv X pins G H s->RelV x v->s.heap.IsSliceOf sl .none .none (.int (-1) u)->r x H Q ->
  ∃T id,typeLookup (.type T) "__getitem__" = pure (some (.builtin id))/\s.TypeIs v T/\wpAny (model X.prog X.w) X.A (getItem v (.ref sl)) (EP X pins G Q) X.xe s
def uX{r:V->Hp->VK->Prop}(hr:IU X r)(he:PE X e te):PE X (.Subscript e (.Slice none none (some (.UnaryOp .USub (.Constant (.int 1) j p1) p0)) p2) pos) (λG H Q=>te G H λx H1=>r x H1 Q):=by intro pins s G H Q I h;refine Subscript_ (bA (he pins s G H _ I h) λv s1 ⟨x,H1,I1,r1,q1⟩=>?_);refine wpAny_Slice ?_;rw[evalPart_none];refine wpAny_pure (wpAny_pure ?_);rw[evalPart_some];refine bA ((yO (X:=X) uI (aP (i:=1) (j:=j) (pos:=p1)) (pos:=p0)) pins s1 G H1 (λy H2=>y=.int (-1)/\H2=H1) I1 ⟨1,rfl,rfl,rfl⟩) λw2 s3 ⟨y,H3,I3,r3,e3,e4⟩=>?_;subst e3 e4;obtain⟨u,rfl⟩:=r3;have I4:Inv X pins G H3 { s3 with heap:=s3.heap.push { cls:=.type "slice",data:=.fields #[.none,.none,.int (-1) u] } }:=I3.kept (t':=s3.toks) λb ob q=>S9 _ q;obtain⟨T,id,hT,ht,hg⟩:=hr pins { s3 with heap:=s3.heap.push { cls:=.type "slice",data:=.fields #[.none,.none,.int (-1) u] } } G H3 x v s3.heap.objs.size u Q I4 r1 (Heap.IsSliceOf.new ..) q1;show wpAny (model X.prog X.w) X.A (subscriptTail e (.Slice none none (some (.UnaryOp .USub (.Constant (.int 1) j p1) p0)) p2) v (.ref s3.heap.objs.size)) (EP X pins G Q) X.xe { s3 with heap:=s3.heap.push { cls:=.type "slice",data:=.fields #[.none,.none,.int (-1) u] } };exact tail_any (ops:=[v,.ref s3.heap.objs.size]) ht hT hg (by with_unfolding_all rfl)
def Nf:IU X (λx H Q=>∃a xs,x=.ref a/\fG X.K H a xs/\∀p,H p=none->Q (.ref p) (upd H p (.lst xs.reverse))):=by intro pins s G H x v sl u Q I rx hs h;obtain⟨a,xs,rfl,hx,q⟩:=h;cases rx;obtain⟨its,r,ht,hz⟩:=I.list hx;have hlen:=r.length;refine⟨"list",_,slot_list_getitem.lookup,ht.isList.typeIs,?_⟩;refine wpAny_getItem_list_slice ht.isList hs .none .none (.int (-1) u) (by simp) ?_ (by rw[Tv];lk);rw[PySem.W.krv_pick];refine⟨.ref s.heap.objs.size,_,I.laid (t':=s.toks) (o:=.lst xs.reverse) (λb ob q=>S9 _ q) (Tc _) ?_,rfl,q _ (I.hok.fresh (Tc _))⟩;exact⟨by rw[Vl];exact hz,_,0,r.reverse,To _ rfl⟩
end
def zp:∀(names:List (Str×NameKind)) (n:Nat) (acc:List (Str×Addr)),cellsFrom n names acc=cellsFrom n names [] ++ acc
 |[],_,_=>rfl
 |(x,k) :: r,n,acc=>by
  show(if k == .cell then cellsFrom (n+1) r ((x,n) :: acc)else cellsFrom n r acc)=(if k == .cell then cellsFrom (n+1) r [(x,n)]else cellsFrom n r []) ++ acc;by_cases hk:(k == NameKind.cell)=true;rw[if_pos hk,if_pos hk,zp r (n+1) ((x,n) :: acc),zp r (n+1) [(x,n)],Uv];rfl;rw[if_neg hk,if_neg hk];exact zp r n acc
def E9{x:Str}{c:Addr}:∀(names:List (Str×NameKind)) (n:Nat),(x,c)∈cellsFrom n names []->(x,NameKind.cell)∈names/\n<=c
 |[],_,h=>nomatch h
 |(y,k) :: r,n,h=>by
  have h':(x,c)∈(if k == .cell then cellsFrom (n+1) r [(y,n)]else cellsFrom n r []):=h;by_cases hk:(k == NameKind.cell)=true;rw[if_pos hk,zp]at h';rcases Tw.mp h' with h'|h'
  obtain⟨h1,h2⟩:=E9 r (n+1) h';exact⟨Tg _ h1,by lk⟩;have e:(x,c)=(y,n):=by simpa using h'
  cases e;have e2:k=NameKind.cell:=by simpa using hk
  subst e2;exact⟨Te,Tc _⟩;rw[if_neg hk]at h';obtain⟨h1,h2⟩:=E9 r n h';exact⟨Tg _ h1,h2⟩
def Fb{env:Env}(f:Str×NameKind->List (Str×Addr)->Sem (ForInStep (List (Str×Addr))))
  (hf:∀name kind cs,f (name,kind) cs=if kind == .free then(do let c <- cellOf env name;pure (.yield ((name,c) :: cs)))else pure (.yield cs)) :
  ∀(names:List (Str×NameKind)) (acc:List (Str×Addr)),(∀y∈names,y.2=NameKind.free->∃c,env.cells.lookup y.1=some c) ->
   ∃cl,(forIn names acc f:Sem (List (Str×Addr)))=pure cl/\(∀n c,(n,c)∈cl->(n,c)∈acc\/(env.cells.lookup n=some c/\(n,NameKind.free)∈names))/\(∀p∈acc,p∈cl)/\∀n,(n,NameKind.free)∈names->∃c,(n,c)∈cl
 |[],acc,_=>⟨acc,by rw[Vm],λn c h=>.inl h,λp h=>h,λn h=>nomatch h⟩
 |(x,k) :: r,acc,h=>by
  have hr:∀y∈r,y.2=NameKind.free->∃c,env.cells.lookup y.1=some c:=λy hy=>h y (Tg _ hy);by_cases hk:k=NameKind.free;subst hk;obtain⟨c,hc⟩:=h (x,.free) Te rfl;have e:cellOf env x=pure c:=by unfold cellOf;rw[hc]
  obtain⟨cl,e1,h1,h2,h3⟩:=Fb f hf r ((x,c) :: acc) hr;refine⟨cl,?_,λn d hd=>?_,λp hp=>h2 p (Tg _ hp),λn hn=>?_⟩;rw[Vd,hf,if_pos (by rfl),e];exact e1;rcases h1 n d hd with q|⟨q,q'⟩
  rcases Tp.mp q with q|q
  cases q;exact .inr ⟨hc,Te⟩;exact .inl q;exact .inr ⟨q,Tg _ q'⟩;rcases Tp.mp hn with q|q
  cases q;exact⟨c,h2 _ Te⟩;exact h3 n q;obtain⟨cl,e1,h1,h2,h3⟩:=Fb f hf r acc hr;have hb:¬((k == NameKind.free)=true):=by simpa using hk
  refine⟨cl,?_,λn d hd=>?_,h2,λn hn=>?_⟩;rw[Vd,hf,if_neg hb];exact e1;rcases h1 n d hd with q|⟨q,q'⟩
  exact .inl q;exact .inr ⟨q,Tg _ q'⟩;rcases Tp.mp hn with q|q
  cases q;exact absurd rfl hk;exact h3 n q
def IW{scope:Scope}{env:Env}(h:∀y∈scope.names,y.2=NameKind.free->∃c,env.cells.lookup y.1=some c):
  ∃cl,closureFor scope env=pure cl/\(∀n c,(n,c)∈cl->env.cells.lookup n=some c/\(n,NameKind.free)∈scope.names)/\∀n,(n,NameKind.free)∈scope.names->∃c,(n,c)∈cl:=by
 have key:∀ (f:Str×NameKind->List (Str×Addr)->Sem (ForInStep (List (Str×Addr)))),(∀ name kind cs,f (name,kind) cs=if kind == .free then(do let c <- cellOf env name;pure (.yield ((name,c) :: cs)))else pure (.yield cs)) ->
   ∃cl,((forIn scope.names [] f:Sem (List (Str×Addr))) >>= λr=>pure r)=pure cl/\(∀n c,(n,c)∈cl->env.cells.lookup n=some c/\(n,NameKind.free)∈scope.names)/\∀n,(n,NameKind.free)∈scope.names->∃c,(n,c)∈cl:=λf hf=>by
  obtain⟨cl,e,h1,_,h3⟩:=Fb f hf scope.names [] h;refine⟨cl,?_,λn c hc=>(h1 n c hc).elim (λz=>nomatch z) id,h3⟩;rw[e];rfl
 simp only[closureFor];exact key _ λname kind cs=>by cases hk:kind == NameKind.free<;>simp[hk]
def ltN{a b:Addr}(h:a<b):@LT.lt Nat _ a b:=h
def uv{a b:Addr}(h:@LT.lt Nat _ a b):a≠b:=T7 h
def IX{a b:Addr}(h:@LT.lt Nat _ b a):a≠b:=UU h
def Ng{M:Model}{A:Around}{E:Value->Shared->Prop}{s:Shared}{scope:Scope}{g:Addr}{cl:List (Str×Addr)}{q:Str}{env:Env}{Q:Env->Shared->Prop}
  (h:∀h',h'.Ns s.heap.objs.size (λ_=>none)->(∀b o,s.heap.get? b=some o->h'.get? b=some o)->CellsOk h' (s.heap.objs.size+1) (cellsFrom (s.heap.objs.size+1) scope.names []) ->
   Q { scope:=scope,locals:=s.heap.objs.size,globals:=g,cells:=cellsFrom (s.heap.objs.size+1) scope.names cl,qual:=q,func:=none,code:=env.code,frame:=env.frame,builtins:=env.builtins } { s with heap:=h' }) :
  wpAny M A (newFunctionEnv scope g cl [] q none .none (some env)) Q E s:=by
 simp only[newFunctionEnv,Option.isSome_some,if_true];refine wpAny_bind (wpAny_alloc ?_);refine wpAny_bind (wpAny_layCells _ (λname kind cells=>by cases hkc:kind == NameKind.cell<;>simp[hkc]) _ _ _ _ ?_);have ok:=cellsFrom_ok scope.names (s.heap.push { cls:=.type "dict",data:=.dict #[] }) (s.heap.objs.size+1) [] ⟨λ_ _ hm=>(nomatch hm),List.Pairwise.nil⟩ (by rw[Up];exact Tc _);rw[Up]at ok;rw[show({ s with heap:=s.heap.push { cls:=.type "dict",data:=.dict #[] } }:Shared).heap.objs.size=s.heap.objs.size+1 from Up ..];refine wpAny_bind ?_;rw[Vm];refine wpAny_pure (wpAny_pure ?_);exact h _ ((Heap.Ns.new s.heap (.type "dict")).keeps (pushCells_keeps _ _)) (λb o e=>pushCells_keeps _ _ b o (S9 _ e)) ok
abbrev aU(X:Cx)(N:List Str)(scope:Scope)(cells:List (Str×Addr))(C:Addr)(fp:List Addr)(s:Shared)(H:Hp):Cx where
 prog:=X.prog
 w:=X.w
 K:=X.K
 mg:=X.mg
 base:=X.base
 A:=X.A
 N:=N
 s₀:=s
 H₀:=H
 env:=compEnvC scope cells C X.env
 outer:=X.stack
 stack:=X.stack
 ex:=fp
 fn:=λx=>decide (scope.names.lookup x=some .cell)
 calm:=X.calm
 pn:=[]
 xe:=λ_ _=>False
abbrev qa(scope sc:Scope):Scope :=
 { scope with names:=scope.names.map λ(n,k)=>if(k == .free && sc.kind == .function && sc.names.lookup n == some .cell)then(n,.cell)else(n,k) }
structure qe(sc scope:Scope)(own fr:List Str):Prop where
 kind:scope.kind=.function
 nd:(own ++ fr).Nodup
 xS:(scope.names.map (·.1)).Nodup
 free:∀y∈scope.names,y.2=.free->sc.names.lookup y.1=some .cell\/sc.names.lookup y.1=some .free
 Fc:∀x∈fr,scope.names.lookup x=some .free
structure dW(X:Cx)(scope:Scope)(own fr:List Str)(js:List Nat):Prop where
 c:qe X.env.scope scope own fr
 ix:js.map (λj=>X.N[j]?)=fr.map some
def dW.kind{X:Cx}{scope:Scope}{own fr:List Str}{js:List Nat}(S:dW X scope own fr js):scope.kind=.function:=S.c.kind
def dW.xS{X:Cx}{scope:Scope}{own fr:List Str}{js:List Nat}(S:dW X scope own fr js):(scope.names.map (·.1)).Nodup:=S.c.xS
def dW.Fc{X:Cx}{scope:Scope}{own fr:List Str}{js:List Nat}(S:dW X scope own fr js):∀x∈fr,scope.names.lookup x=some .free:=S.c.Fc
def dW.free{X:Cx}{scope:Scope}{own fr:List Str}{js:List Nat}(S:dW X scope own fr js):∀y∈scope.names,y.2=.free->X.env.kindOf y.1=some .cell\/X.env.kindOf y.1=some .free:=S.c.free
def zq{J:Type}:∀{l:List (Str×J)} {n:Str} {c:J},(l.map (·.1)).Nodup->(n,c)∈l->l.lookup n=some c
 |(k,v) :: r,n,c,nd,h=>by
  obtain⟨h1,h2⟩:=Ux.mp nd;rw[Uk];rcases Tp.mp h with e|h
  cases e;simp
  have:(n == k)=false:=beq_eq_false_iff_ne.mpr λe=>h1 (by rw[<- e];exact T6.mpr ⟨(n,c),h,rfl⟩)
  rw[this];exact zq h2 h
def IY(scope:Scope)(env:Env)(x:Str):(relabel scope env).names.lookup x=none/\scope.names.lookup x=none \/
  ∃k,scope.names.lookup x=some k/\(relabel scope env).names.lookup x=some (if(k == .free && env.scope.kind == .function && env.kindOf x == some .cell)then .cell else k):=by
 have key:∀ names:List (Str×NameKind),(names.map λ(n,k)=>if(k == NameKind.free && env.scope.kind == .function && env.kindOf n == some .cell)then(n,NameKind.cell)else(n,k)).lookup x=none/\names.lookup x=none \/
   ∃k,names.lookup x=some k/\(names.map λ(n,k)=>if(k == NameKind.free && env.scope.kind == .function && env.kindOf n == some .cell)then(n,NameKind.cell)else(n,k)).lookup x=some (if(k == .free && env.scope.kind == .function && env.kindOf x == some .cell)then .cell else k):=by
  intro names
  induction names with
  |nil=>exact .inl ⟨rfl,rfl⟩
  |cons p r ih =>
   obtain⟨n,k⟩:=p;rw[Um];cases hx:x == n with
   |true =>
    have e:x=n:=by simpa using hx
    subst e;refine .inr ⟨k,by simp[Uk],?_⟩;by_cases hc:(k == NameKind.free && env.scope.kind == .function && env.kindOf x == some .cell)=true;simp only[if_pos hc];simp[Uk];simp only[if_neg hc];simp[Uk]
   |false =>
    have e1:∀q:NameKind,(((n,q) :: (r.map λ(n,k)=>if(k == NameKind.free && env.scope.kind == .function && env.kindOf n == some .cell)then(n,NameKind.cell)else(n,k))).lookup x)=((r.map λ(n,k)=>if(k == NameKind.free && env.scope.kind == .function && env.kindOf n == some .cell)then(n,NameKind.cell)else(n,k)).lookup x):=λq=>by rw[Uk,hx]
    have e2:((n,k) :: r).lookup x=r.lookup x:=by rw[Uk,hx]
    rw[e2];by_cases hc:(k == NameKind.free && env.scope.kind == .function && env.kindOf n == some .cell)=true;simp only[if_pos hc];rw[e1];exact ih;simp only[if_neg hc];rw[e1];exact ih
 exact key scope.names
abbrev ib(n:Nat)(js:List Nat)(G:St):St:=List.replicate n none ++ js.map λj=>G.getD j none
def Inv.zt{X:Cx}{pins:List (Addr×Obj)}{G:St}{H:Hp}{s:Shared}{a:Addr}{o:HO}(I:Inv X pins G H s)(f:eK X pins H a)(new:bz X.prog X.w (upd H a o) s.heap a o):Inv X pins G (upd H a o) s:=by
 obtain⟨f0,f1,f2,f3,f4,f5⟩:=f;have ne:∀b u,H b=some u->b≠a:=λb u e z=>by rw[z,f0]at e;cases e
 refine I.step (h':=s.heap) (H':=upd H a o) (g':=s.gens) (d':=s.drawn) (t':=s.toks) (ch:=[a]) (λb hb=>?_) (λb u _ _ _ e _=>e) (λb u _ _ _ e _=>⟨u.slots,e⟩) (λb u hb e n=>?_) (λb u _ e=>⟨u,e⟩)
  (λb xs e=>by rw[b8 (ne b _ e)];exact e) (λb u xs e=>by rw[b8 (ne b _ e)];exact e) (λb ps e=>⟨#[],by rw[b8 (ne b _ e),e];simp⟩) (λm hm=>hm) (λb u e=>?_) I.bare
 have e:b=a:=by simpa using hb
 subst e;exact⟨f3,f1,f4,f5⟩;rw[b8 (λz=>hb (by simp[z]))];exact n;by_cases hb:b=a;subst hb;rw[h8]at e;cases e;exact new;rw[b8 hb]at e;exact(I.hok b u e).stay (λc v _ q=>q) (λc q=>by rw[b8 (ne c _ q)];exact q) λc xs q=>by rw[b8 (ne c _ q)];exact q
abbrev PF(X:Cx)(ifs:List Expr)(t:TT):Prop :=
 ∀(pins:List (Addr×Obj)) (s:Shared) (G:St) (H:Hp) (Q:Bool->Hp->Prop),Inv X pins G H s->t G H Q ->
  wpAny (model X.prog X.w) X.A (forIn ifs true λc r=>if r=true then do let ok <- isTrue c X.env (eval c X.env);pure (ForInStep.yield ok)else pure (ForInStep.yield r)) (TP X pins G Q) X.xe s
def CV{X:Cx}:PF X [] (λ_ H Q=>Q true H):=λ_ _ _ H _ I h=>wpAny_tests_nil ⟨H,I,h⟩
def IZ{X:Cx}{c:Expr}{t:TT}(h:PT X c t):PF X [c] t:=λpins s G H Q I hw=>wpAny_tests_one (h pins s G H Q I hw)
def Nh{prog:Program}{w:World}{A:Around}{R:Result->Shared->Prop}{s:Shared}{elt target iter:Expr}{ifs:List Expr}{scope:Scope}{pos:Pos}{it acc:Value}{env:Env}(I:Nat->Shared->Prop)
  (turn:∀n s,I n s->wpAny (model prog w) A (pyNext it) (λr s₁=>match r with
   |none=>R (.ok .next) s₁
   | some v=>wpAny (model prog w) A (letOwnedTupleGo target it v) (λ_ s₁'=>wpAny (model prog w) A (assign target env v) (λ_ s₂ =>
     wpAny (model prog w) A (forIn ifs true λc r=>if r=true then do let ok <- isTrue c env (eval c env);pure (ForInStep.yield ok)else pure (ForInStep.yield r)) (λok s₃ =>
      if ok=true then wpAny (model prog w) A (eval elt env) (λx s₄ =>
       wpAny (model prog w) A (call (.builtin "list.append") [acc,x]) (λ_ s₅=>∃m,m<n/\I m s₅) (λ_ _=>False) s₄) (λ_ _=>False) s₃
      else∃m,m<n/\I m s₃) (λ_ _=>False) s₂) (λ_ _=>False) s₁') (λ_ _=>False) s₁) (λ_ _=>False) s)
  (n:Nat) (h:I n s) :
  codeAny (model prog w) A (.compLoop (.ListComp elt [⟨target,iter,ifs,0⟩] scope pos) 0 it acc env) R s:=by
 refine codeAny_loop rfl I (λn s hI=>?_) n h;show wpAny _ A ((compTurn (.ListComp elt [⟨target,iter,ifs,0⟩] scope pos) 0 it acc env).onRaise (λx=>do noteFrame x env;theTreesLotGoes x)) _ _ s;refine wpAny_noted ?_;rw[compTurn_list];refine wpAny_bind (wpAny_standAt (wpAny_bind (wpAny_mono (turn n s hI) (λr s₁ h₁=>?_) λ_ _ h'=>h'.elim)));cases r with
 |none=>exact wpAny_pure h₁
 |some v =>
  refine wpAny_bind (wpAny_mono h₁ (λ_ s₁' h₁'=>?_) λ_ _ h'=>h'.elim);refine wpAny_bind (wpAny_mono h₁' (λ_ s₂ h₂=>wpAny_bind (wpAny_mono h₂ (λok s₃ h₃=>?_) λ_ _ h'=>h'.elim)) λ_ _ h'=>h'.elim);cases ok with
  |false=>exact wpAny_pure ⟨rfl,h₃⟩
  |true =>
   exact wpAny_bind (wpAny_bind (wpAny_mono h₃ (λx s₄ h₄=>wpAny_bind (wpAny_mono h₄ (λ_ s₅ h₅=>wpAny_pure (wpAny_pure ⟨rfl,h₅⟩)) λ_ _ h'=>h'.elim)) λ_ _ h'=>h'.elim))
abbrev uY(J:It)(n:Nat)(js:List Nat)(g:TG)(tc:TT)(te:TE)(G:St)(H1:Hp)(Q:VK):Prop :=
 ∃W:Nat->Nat->List V->St->Hp->Prop,(∃m,W 0 m [] (ib n js G) H1)/\∀i m ys G' H',W i m ys G' H' ->
  ys.length<sizeLine/\((J.stop i H'/\∀p,H' p=none->Q (.ref p) (upd H' p (.lst ys))) \/
   (J.go i H'/\∀x H2,J.pE i H' x H2->g x G' H2 λG2 H3=>tc G2 H3 λb H4=>if b=true then te G2 H4 λy H5=>∃m',m' < m/\W (i+1) m' (ys ++ [y]) G2 H5 else∃m',m' < m/\W (i+1) m' ys G2 H4))
abbrev oG(wi:TI)(n:Nat)(js:List Nat)(g:TG)(tc:TT)(te:TE):TE:=λG H Q=>wi G H λJ H1=>uY J n js g tc te G H1 Q
section
variable {X:Cx}{pins:List (Addr×Obj)}{G:St}{tg iter elt:Expr}{ifs:List Expr}{scope:Scope}{pos:Pos}{own fr:List Str}{js:List Nat}{g:TG}{tc:TT}{te:TE}{wi:TI}
def I0{H2:Hp}{s2:Shared}{it:Addr}{fp:List Addr}{tn:Nat->Heap->Prop}{J:It}{Q:VK}{E:Value->Shared->Prop}{cl:List (Str×Addr)}{RR:Value->Addr->Result->Shared->Prop}
  (hc:X.calm=true) (S:dW X scope own fr js) (hg:∀cells C fp s H,PG (aU X (own ++ fr) scope cells C fp s H) tg g) (hf:∀cells C fp s H,PF (aU X (own ++ fr) scope cells C fp s H) ifs tc) (he:∀cells C fp s H,PE (aU X (own ++ fr) scope cells C fp s H) elt te)
  (I2:Inv X pins G H2 s2) (T:Turn X.prog X.w X.K tg J fp it tn) (st2:tn 0 s2.heap) (f2:∀b∈fp,eK X pins H2 b)
  (nM:∀n c,(n,c)∈cl->X.env.cells.lookup n=some c/\(n,NameKind.free)∈scope.names) (qf:∀n,(n,NameKind.free)∈scope.names->∃c,(n,c)∈cl)
  (W:Nat->Nat->List V->St->Hp->Prop) (m0:Nat) (w0:W 0 m0 [] (ib own.length js G) H2)
  (turn:∀i m ys G' H',W i m ys G' H'->ys.length<sizeLine/\((J.stop i H'/\∀p,H' p=none->Q (.ref p) (upd H' p (.lst ys))) \/
   (J.go i H'/\∀x H2,J.pE i H' x H2->g x G' H2 λG2 H3=>tc G2 H3 λb H4=>if b=true then te G2 H4 λy H5=>∃m',m' < m/\W (i+1) m' (ys ++ [y]) G2 H5 else∃m',m' < m/\W (i+1) m' ys G2 H4)))
  (fin:∀(acc C:Addr) (H':Hp) (s':Shared) (v:V),v=.ref acc->Inv X pins G H' s'->eK X pins H' C->(∃m,s'.heap.Ns C m)->Q v H'->RR (.ref acc) C (.ok .next) s') :
  wpAny (model X.prog X.w) X.A (newList []) (λacc s3=>wpAny (model X.prog X.w) X.A (newFunctionEnv scope X.env.globals cl [] X.env.qual none .none (some X.env)) (λcenv s4 =>
   codeAny (model X.prog X.w) X.A (.compStart (.ListComp elt [⟨tg,iter,ifs,0⟩] scope pos) 0 (.ref it) acc { cenv with scope:=relabel scope X.env }) (RR acc cenv.locals) s4) E s3) E s2:=by
 refine wpAny_newObj_type ?_;refine Ng λh4 hns Ja lE=>?_;have hA:s2.heap.objs.size<(s2.heap.push { cls:=.type "list",data:=.seq ([]:List Value).toArray }).objs.size:=by rw[Up];exact Us _
 generalize hC:(s2.heap.push { cls:=.type "list",data:=.seq ([]:List Value).toArray }).objs.size=C at hns lE hA ⊢;generalize hac:s2.heap.objs.size=acc at hA ⊢;have Fe:acc≠C:=T7 hA;have old:∀b o,s2.heap.get? b=some o->h4.get? b=some o:=λb o e=>Ja b o (S9 _ e);have hacc:h4.get? acc=some { cls:=.type "list",data:=.seq ([]:List Value).toArray }:=Ja _ _ (by rw[<- hac];exact To _ rfl);have Ff:∀x c,(x,c)∈cellsFrom (C+1) scope.names []->h4.IsCell c none/\C+1<=c/\scope.names.lookup x=some .cell:=λx c h=>⟨(lE.empty x c h).1,(lE.empty x c h).2,zq S.xS (E9 _ _ h).1⟩;have lk:∀x c,(cellsFrom (C+1) scope.names cl).lookup x=some c->(h4.IsCell c none/\C+1<=c/\(x,c)∈cellsFrom (C+1) scope.names [])\/(X.env.cells.lookup x=some c/\scope.names.lookup x=some .free):=λx c h=>by
  rw[zp]at h;rcases Tw.mp (PySem.mem_of_lookup h)with q|q
  exact .inl ⟨(Ff x c q).1,(Ff x c q).2.1,q⟩;exact .inr ⟨(nM x c q).1,zq S.xS (nM x c q).2⟩
 have Fg:∀x c,X.env.cells.lookup x=some c->c<s2.heap.objs.size:=λx c h=>by
  obtain⟨v,z⟩:=I2.cell x c h;exact z.lt
 have oH:∀x c,(cellsFrom (C+1) scope.names cl).lookup x=some c->c≠C/\c≠acc/\H2 c=none/\∀b∈fp,c≠b:=λx c h=>by
  rcases lk x c h with⟨_,h1,_⟩|⟨h1,_⟩
  refine⟨IX ⋯,IX ⋯,I2.hok.fresh ⋯,λb hb z=>?_⟩;obtain⟨o,e,_⟩:=T.obj 0 _ st2 b hb;have:=ltN (Ts e);rw[<- z]at this;lk
  have:=ltN (Fg x c h1)
  exact⟨uv ⋯,uv ⋯,I2.dR x c h1,λb hb=>(f2 b hb).2.2.2.2.1 x c h1⟩
 have zu:∀x,scope.names.lookup x=some .free->∃c,X.env.cells.lookup x=some c/\(cellsFrom (C+1) scope.names cl).lookup x=some c:=λx h=>by
  obtain⟨c,fV⟩:=qf x (PySem.mem_of_lookup h);have hc1:=(nM x c fV).1;have hs:((cellsFrom (C+1) scope.names cl).lookup x).isSome=true:=by
   refine PySem.W.cellsFrom_some scope.names (C+1) cl (.inr ?_);cases q:cl.lookup x with
   |some d=>rfl
   |none =>
    exfalso;have:∀{l:List (Str×Addr)},(x,c)∈l->l.lookup x≠none:=by
     intro l
     induction l with
     |nil=>intro h;exact nomatch h
     |cons p r ih =>
      intro h z;obtain⟨k,v⟩:=p;rw[Uk]at z;cases hb:x == k with
      |true=>rw[hb]at z;cases z
      |false =>
       rw[hb]at z;rcases Tp.mp h with e|h
       cases e;simp at hb;exact ih h z
    exact this fV q
  obtain⟨d,hd⟩:=Uy.mp hs;rcases lk x d hd with⟨_,_,h2⟩|⟨h1,_⟩
  have:=(Ff x d h2).2.2
  rw[h]at this;cases this;rw[hc1]at h1;cases h1;exact⟨c,hc1,hd⟩
 have CW:∀b∈fp,b≠C/\b≠acc:=λb hb=>by
  obtain⟨o,e,_⟩:=T.obj 0 _ st2 b hb;have:=ltN (Ts e);exact⟨uv ⋯,uv ⋯⟩
 have Ni:(relabel scope X.env).kind=.function:=S.kind;have ok:(aU X (own ++ fr) scope (cellsFrom (C+1) scope.names cl) C fp s2 H2).Ok:=by
  refine⟨I2.ok.mod,Ni,I2.ok.glob,I2.ok.blt,?_,λx y c h1 h2=>?_,λx hx=>?_,λx c hx h=>?_,I2.ok.hd,I2.ok.frames,.inl rfl,λb hb=>⟨(CW b hb).1,λx c h=>(oH x c h).2.2.2 b hb⟩,I2.bs,TF I2.ok.mU I2.sz,λb o e hb=>?_,λb hb z=>?_,I2.stack,I2.lz⟩;show s2.heap.objs.size<=C;lk;rcases lk x c h1 with⟨_,q1,q2⟩|⟨q1,_⟩
  rcases lk y c h2 with⟨_,r1,r2⟩|⟨r1,_⟩
  exact name_of_addr lE.apart q2 r2
  have:=ltN (Fg y c r1);lk
  rcases lk y c h2 with⟨_,r1,r2⟩|⟨r1,_⟩
  have:=ltN (Fg x c q1);lk
  exact I2.ok.inj x y c q1 r1;have hx':(relabel scope X.env).names.lookup x=some .cell\/(relabel scope X.env).names.lookup x=some .free:=hx;rcases IY scope X.env x with⟨e,_⟩|⟨k,e1,e2⟩
  rcases hx' with z|z<;>(rw[e]at z;cases z)
  by_cases hk:k=.free;subst hk;obtain⟨c,_,h⟩:=zu x e1;exact⟨c,h⟩;have hk':k=.cell:=by
   have hb:(k == NameKind.free)=false:=beq_eq_false_iff_ne.mpr hk;rw[hb]at e2;simp only[Bool.false_and,Bool.false_eq_true,if_false]at e2;rcases hx' with z|z
   rw[e2]at z;exact Tq z;rw[e2]at z;exact absurd (Tq z) hk
  subst hk';exact Uy.mp (PySem.W.cellsFrom_some scope.names (C+1) cl (.inl e1));have hx':scope.names.lookup x=some .cell:=of_decide_eq_true hx;show s2.heap.objs.size<=c;rcases lk x c h with⟨_,q,_⟩|⟨_,q⟩
  lk;rw[hx']at q;cases q;rcases(f2 b hb).2.2.2.1 with z|z
  exact I2.ok.j3 b o e z;have h1:@LT.lt Nat _ b X.base.objs.size:=Ts e;have h2:=I2.ok.mU;lk;rcases Tp.mp (I2.j5 b z)with e|e
  exact(f2 b hb).2.1 e;exact(f2 b hb).2.2.1 e
 have I4:Inv (aU X (own ++ fr) scope (cellsFrom (C+1) scope.names cl) C fp s2 H2) [(acc,{ cls:=.type "list",data:=.seq ([]:List Value).toArray })] (ib own.length js G) H2 { s2 with heap:=h4 }:=by
  refine⟨ok,rfl,I2.bare,Un.kept old,⟨_,hns,λi x v e1 e2 e3=>?_⟩,λx c h=>?_,I2.hok.fresh (by show s2.heap.objs.size<=C;lk),λx c h=>(oH x c h).2.2.1,λp hp=>?_,I2.hok.kept old,?_⟩;have Fh:(own ++ fr)[i]?=some x:=e1;unfold ib at e2;by_cases hi:i<own.length;rw[TX (by simpa using hi),UB]at e2;split at e2<;>cases e2;rw[TU (by simpa using hi),UH,TC]at e2;rw[TU ⋯]at Fh;cases hj:js[i-own.length]? with
  |none=>rw[hj]at e2;cases e2
  |some j =>
   rw[hj]at e2;have uZ:G.getD j none=some v:=Tq e2;have hN:X.N[j]?=some x:=by
    have q:=congrArg (λl=>l[i-own.length]?) S.ix;simp only[TC,hj,Fh,Option.map_some]at q;exact Tq q
   have hσ:G[j]?=some (some v):=by
    rw[TV]at uZ;cases q:G[j]? with
    |none=>rw[q]at uZ;cases uZ
    |some o=>rw[q]at uZ;exact congrArg some uZ
   have hfr:scope.names.lookup x=some .free:=S.Fc x (TL Fh);have hk:=S.free _ (PySem.mem_of_lookup hfr) rfl;obtain⟨m,_,hl⟩:=I2.loc;obtain⟨u,ru,lo⟩:=hl j x v hN hσ (by rcases hk with k|k;exact .inr (.inl k);exact .inr (.inr k));refine⟨u,ru,.inr ⟨?_,?_⟩⟩;rcases IY scope X.env x with⟨_,e⟩|⟨k,q1,q2⟩
   rw[hfr]at e;cases e;rw[hfr]at q1;cases q1;have Nj:(compEnvC scope (cellsFrom (C+1) scope.names cl) C X.env).kindOf x=some (if(NameKind.free == .free && X.env.scope.kind == .function && X.env.kindOf x == some .cell)=true then .cell else .free):=q2;rw[show(aU X (own ++ fr) scope (cellsFrom (C+1) scope.names cl) C fp s2 H2).env.kindOf x=_ from Nj];split;exact .inl rfl;exact .inr rfl;rcases lo with⟨k,_⟩|⟨_,c,hc1,hc2⟩
   rcases hk with k'|k'<;>(rw[k]at k';cases k')
   obtain⟨d,hd1,hd2⟩:=zu x hfr;rw[hc1]at hd1;cases hd1;exact⟨c,hd2,hc2.keeps old⟩
  rcases lk x c h with⟨q,_,_⟩|⟨q,_⟩
  exact⟨_,q⟩;obtain⟨v,z⟩:=I2.cell x c q;exact⟨v,z.keeps old⟩;have e:p=(acc,{ cls:=.type "list",data:=.seq ([]:List Value).toArray }):=by simpa[aU]using hp
  subst e;refine⟨hacc,I2.hok.fresh ⋯,Fe,λz=>?_,λv z=>nomatch z⟩;rcases Tp.mp (I2.j5 acc z)with e|e
  have:=ltN I2.lt
  rw[<- e]at this;lk;exact I2.yw ⋯ e;show(ib own.length js G).length=(own ++ fr).length;have q:=congrArg List.length S.ix;simp only[S8]at q;unfold ib;rw[Td,UH,S8,Td,q]
 have Fi:∀{H':Hp} {ob:Obj},(∀b∈fp,H' b=none)->∀b∈fp,eK (aU X (own ++ fr) scope (cellsFrom (C+1) scope.names cl) C fp s2 H2) [(acc,ob)] H' b:=λ{H' ob} hn b hb =>
  ⟨hn b hb,(CW b hb).1,λz=>by
   rcases Tp.mp (I2.j5 b z)with e|e
   exact(f2 b hb).2.1 e;exact(f2 b hb).2.2.1 e,.inl hb,λx c h=>(oH x c h).2.2.2 b hb,λp hp=>by
   have e:p=(acc,ob):=by simpa[aU]using hp
   subst e
   exactλz=>(CW b hb).2 z.symm⟩
 have loop:codeAny (model X.prog X.w) X.A (.compLoop (.ListComp elt [⟨tg,iter,ifs,0⟩] scope pos) 0 (.ref it) (.ref acc) (compEnvC scope (cellsFrom (C+1) scope.names cl) C X.env)) (RR (.ref acc) C) { s2 with heap:=h4 }:=by
  refine Nh (λm s'=>∃(i:Nat) (ys:List V) (its:List Value) (n:Nat) (G':St) (H':Hp),Inv (aU X (own ++ fr) scope (cellsFrom (C+1) scope.names cl) C fp s2 H2) [(acc,{ cls:=.type "list",data:=.seq its.toArray n })] G' H' s'/\Vals ys its/\tn i s'.heap/\(∀b∈fp,H' b=none)/\W i m ys G' H') ?_ m0
   ⟨0,[],[],0,_,H2,I4,.nil,T.keep _ _ _ st2 λb _ o e=>old b o e,λb hb=>(f2 b hb).1,w0⟩
  rintro n s5 ⟨i,ys,its,en,G5,H5,I5,rv,mW,CL,w5⟩;obtain⟨hz,alt⟩:=turn i n ys G5 H5 w5;rcases alt with⟨stop,qn⟩|⟨go,step⟩
  refine bA (T.done (aU X (own ++ fr) scope (cellsFrom (C+1) scope.names cl) C fp s2 H2) rfl rfl rfl hc i _ s5 G5 H5 _ I5 (Fi CL) mW stop) λr s6 ⟨hr,I6⟩=>?_;subst hr;show RR (.ref acc) C (.ok .next) s6;have u:Un (frs X.stack) fp H2 H5 s2.heap s6.heap:=I6.base;have J6:Inv X pins G H5 s6:=I2.pN I6.os u I6.hok I6.bare λb hb=>⟨(f2 b hb).2.2.2.1,(f2 b hb).2.1,(f2 b hb).2.2.2.2.1,(f2 b hb).2.2.2.2.2⟩;have pacc:=I6.pin (acc,_) (TJ _ Te);have Fj:eK X pins H5 acc:=I2.mv ⋯ pacc.2.1;have fC:eK X pins H5 C:=I2.mv ⋯ I6.free;have K6:Inv X pins G (upd H5 acc (.lst ys)) s6:=J6.zt Fj ⟨UJ hz,its,en,rv,pacc.1⟩;obtain⟨m,hm,_⟩:=I6.loc;exact fin acc C _ s6 (.ref acc) rfl K6 ⟨by rw[b8 Fe.symm];exact fC.1,fC.2⟩ ⟨m,hm⟩ (qn acc pacc.2.1);refine bA (T.item (aU X (own ++ fr) scope (cellsFrom (C+1) scope.names cl) C fp s2 H2) rfl rfl rfl hc i _ s5 G5 H5 _ I5 (Fi CL) mW go) λr s6 ⟨u,hr,h6⟩=>?_;subst hr;refine bA h6 λ_ s7 ⟨x,H7,I7,r7,y7,rD,Nk⟩=>?_;have Nl:=I7.pinned (Fi Nk) (T.obj _ _ rD);refine bA (hg _ _ _ _ _ _ s7 G5 H7 x u _ Nl r7 (step x H7 y7)) λ_ s8 ⟨G8,H8,I8,q8⟩=>?_;refine bA (hf _ _ _ _ _ _ s8 G8 H8 _ I8 q8) λb s9 ⟨H9,I9,q9⟩=>?_;have CY:∀{s':Shared} {G':St} {H':Hp},Inv (aU X (own ++ fr) scope (cellsFrom (C+1) scope.names cl) C fp s2 H2) ([(acc,{ cls:=.type "list",data:=.seq its.toArray en })] ++ j6 fp s7.heap) G' H' s'->tn (i+1) s'.heap/\∀b∈fp,H' b=none:=λ{s' G' H'} I' =>
   ⟨T.keep _ _ _ rD λb hb o e=>(I'.pin (b,o) (TJ _ (TJ _ (CJ hb e)))).1,λb hb=>by
    obtain⟨o,e,d⟩:=T.obj _ _ rD b hb
    exact(I'.pin (b,o) (TJ _ (TJ _ (CJ hb e)))).2.1⟩
  cases b with
  |false =>
   obtain⟨m',hm,w9⟩:=q9;exact⟨m',hm,i+1,ys,its,en,G8,H9,I9.jl,rv,(CY I9).1,(CY I9).2,w9⟩
  |true =>
   refine bA (he _ _ _ _ _ _ s9 G8 H9 _ I9 q9) λy Fm ⟨yv,Fn,CZ,Nm,m',hm,Nn⟩=>?_;have pacc:=CZ.pin (acc,_) (TJ _ (Ui _ Te));have hlen:=rv.length;refine wpAny_list_append_plain (items:=its.toArray) ⟨en,pacc.1⟩ (λh11 ⟨Jb,Fo⟩ zv=>?_) (by simp only[Tv];lk);have cA:∀x c,(cellsFrom (C+1) scope.names cl).lookup x=some c->c≠acc:=λx c h=>(oH x c h).2.1;have Ia:Inv (aU X (own ++ fr) scope (cellsFrom (C+1) scope.names cl) C fp s2 H2) [] G8 Fn Fm:=CZ.jW λp hp=>nomatch hp;have Ib:Inv (aU X (own ++ fr) scope (cellsFrom (C+1) scope.names cl) C fp s2 H2) [] G8 Fn { Fm with heap:=h11 }:=Ia.turned (it:=acc) (t':=Fm.toks) (λb o hb e=>(zv.2 b hb).trans e) pacc.2.1 Fe (.inr (by show s2.heap.objs.size<=acc;lk)) cA λp hp=>nomatch (show p∈([]:List (Addr×Obj))from by simpa[aU]using hp);refine⟨m',hm,i+1,ys ++ [yv],its ++ [y],Jb,G8,Fn,Ib.jW λp hp=>?_,rv.append (.cons Nm .nil),T.keep _ _ _ (CY CZ).1 λb hb o e=>(zv.2 b (CW b hb).2).trans e,(CY CZ).2,Nn⟩;have e:p=(acc,{ cls:=.type "list",data:=.seq (its ++ [y]).toArray Jb }):=by simpa using hp
   subst e;exact⟨by simpa using Fo,pacc.2.1,pacc.2.2.1,pacc.2.2.2.1,λv z=>nomatch z⟩
 exact codeAny_compStart_list loop (T.self X.A 0 _ _ _ (T.keep _ _ _ st2 λb _ o e=>old b o e) loop)
def Jc(hc:X.calm=true)(S:dW X scope own fr js)(hi:PI X tg iter wi)(hg:∀cells C fp s H,PG (aU X (own ++ fr) scope cells C fp s H) tg g)(hf:∀cells C fp s H,PF (aU X (own ++ fr) scope cells C fp s H) ifs tc)(he:∀cells C fp s H,PE (aU X (own ++ fr) scope cells C fp s H) elt te)
  (hs:∀x,foldedSetIterable iter X.env x=pure x:=by intro _;rfl):PE X (.ListComp elt [⟨tg,iter,ifs,0⟩] scope pos) (oG wi own.length js g tc te):=by
 intro pins s G H Q I h;obtain⟨cl,hcl,nM,qf⟩:=IW (scope:=scope) (env:=X.env) λy hy hk=>I.ok.has y.1 (S.free y hy hk);rw[eval_ListComp];refine wpAny_comprehension_free (use:=none) rfl hs hcl S.kind (λy hy hk=>by rw[<- hk];exact zq S.xS hy) (bA (hi pins s G H _ I h) λv s1 h1=>bA h1 λitv s2 h2=>?_);obtain⟨it,fp,tn,J,H2,e,I2,T,st2,f2,W,⟨m0,w0⟩,turn⟩:=h2;subst e;refine I0 (RR:=λacc C=>compPost (model X.prog X.w) X.A X.xe none (EP X pins G Q) acc C) hc S hg hf he I2 T st2 f2 nM qf W m0 w0 turn ?_;intro acc C H' s' v hv I' fC ⟨m,hm⟩ q;subst hv;obtain⟨f0,f1,Np,f3,f4,f5⟩:=fC;exact⟨m,hm,λh'' u3=>⟨.ref acc,H',I'.turned (it:=C) (t':=s'.toks) (λb o hb e=>(u3.2 b hb).trans e) f0 f1 f3 f4 f5,rfl,q⟩⟩
def C1{i:Nat}{x:Str}{pos' spos:Pos}(hc:X.calm=true)(hN:X.N.Nodup)(hx:X.N[i]?=some x)(hl:X.env.scope.names.lookup x=some .local)(S:dW X scope own fr js)(hi:PI X tg iter wi)(hg:∀cells C fp s H,PG (aU X (own ++ fr) scope cells C fp s H) tg g)(hf:∀cells C fp s H,PF (aU X (own ++ fr) scope cells C fp s H) ifs tc)(he:∀cells C fp s H,PE (aU X (own ++ fr) scope cells C fp s H) elt te)
  (hsw:swapsWith (.ListComp elt [⟨tg,iter,ifs,0⟩] scope pos) (some (.Name x pos')) spos.line X.env=pure true:=by rfl)
  (hs:∀x,foldedSetIterable iter X.env x=pure x:=by intro _;rfl):PS X (.Assign [.Name x pos'] (.ListComp elt [⟨tg,iter,ifs,0⟩] scope pos) spos) (nE (oG wi own.length js g tc te) (jH i)):=by
 intro pins s G H D I h;obtain⟨cl,hcl,nM,qf⟩:=IW (scope:=scope) (env:=X.env) λy hy hk=>I.ok.has y.1 (S.free y hy hk);rw[exec_Assign_Name_used _ _ _ _ hsw];refine wpAny_bind (wpAny_standAt (wpAny_bind ?_));show wpAny _ X.A (do let _ <- comprehension (.ListComp elt [⟨tg,iter,ifs,0⟩] scope pos) scope X.env _ (newList []) false (eval iter X.env) (some (assign (.Name x pos') X.env))) _ _ s
 refine wpAny_bind (wpAny_mono (wpAny_comprehension_free (use:=some (assign (.Name x pos') X.env)) (Q:=λ_ s'=>SP X pins D .next s') rfl hs hcl S.kind (λy hy hk=>by rw[<- hk];exact zq S.xS hy)
  (bA (hi pins s G H _ I h) λv s1 h1=>bA h1 λitv s2 h2=>?_)) (λ_ s' hq=>wpAny_pure (wpAny_pure hq)) λ_ _ e=>e)
 obtain⟨it,fp,tn,J,H2,e,I2,T,st2,f2,W,⟨m0,w0⟩,turn⟩:=h2;subst e;refine I0 (Q:=λv H'=>jH i v G H' D.nx) (RR:=λacc C=>compPost (model X.prog X.w) X.A X.xe (some (assign (.Name x pos') X.env)) (λ_ s'=>SP X pins D .next s') acc C) hc S hg hf he I2 T st2 f2 nM qf W m0 w0 turn ?_;intro acc C H' s' v hv I' fC ⟨m,hm⟩ q;subst hv;obtain⟨f0,f1,Np,f3,f4,f5⟩:=fC;show wpAny _ X.A (assign (.Name x pos') X.env (.ref acc)) _ _ _;refine wpAny_assign_Name (HJ I' hN hx (.inl hl) (show RelV (.ref acc) (.ref acc)from rfl) (λs'' Nq ⟨a,hs1,ha⟩=>?_) (.inr hl));have haC:a≠C:=by
  rcases ha with e|e
  rw[e];exact f1.symm;exact f4 _ _ e
 exact⟨m,hm.sameBut hs1 haC.symm,λh'' u3=>⟨_,H',Nq.turned (it:=C) (t':=s''.toks) (λb o hb e=>(u3.2 b hb).trans e) f0 f1 f3 f4 f5,q⟩⟩
end
section
variable {X:Cx}
def C2{k:Nat}(hr:cq k X.A):dg X (.builtin "repr") (λxs H Q=>∃(x:V) (d:PyData),xs=[x]/\Rep X.K H x d/\d.showable=true/\d.canLay0=true/\d.shown.length<=sizeLine/\d.depth<=60/\Q (.str d.shown) H):=by
 intro pins s G H xs us Q I r h;obtain⟨x,d,rfl,rp,sh,cl,sz,dp,q⟩:=h;obtain⟨u,rfl,ru⟩:=vals1 r;obtain⟨as,rd⟩:=rp.reads I ru;have hu:=hr.units;have big:∀a,u=.ref a->wpAny (model X.prog X.w) X.A (call (.builtin "repr") [u]) (EP X pins G Q) X.xe s:=λa e=>by
  subst e;exact repr_of_reads' rd sh (PyData.noDict_hsm (PyData.hasDict_of_canLay _ cl)) hr.gd ⋯ (λ_ _ e=>e) (λh' u tk kp=>⟨.str _,H,I.kept kp,⟨_,rfl⟩,q⟩) sz
 cases rp with
 |non =>
  cases ru;have e:PyData.shown .none="None" := by simp only[PyData.shown]
  rw[e]at q;exact P.repr_of_none ⟨.str _,H,I.tok _,⟨_,rfl⟩,q⟩
 |bl b =>
  cases ru;have e:PyData.shown (.bool b)=(if b=true then Str.ofString "True" else Str.ofString "False"):=by simp only[PyData.shown]
  rw[e]at q;exact P.repr_of_bool ⟨.str _,H,I.tok _,⟨_,rfl⟩,q⟩
 |int i =>
  obtain⟨t,rfl⟩:=ru;have e:PyData.shown (.int i)=toString i:=by simp only[PyData.shown]
  rw[e]at q;have Nr:i.natAbs.log2<1920:=by simpa only[PyData.showable,decide_eq_true_eq]using sh
  exact P.repr_of_int Nr ⟨.str _,H,I.tok _,⟨_,rfl⟩,q⟩
 |str x =>
  obtain⟨t,rfl⟩:=ru;have e:PyData.shown (.str x)=reprText x:=by simp only[PyData.shown]
  rw[e]at q sz;exact P.repr_of_str ⟨.str _,H,I.tok _,⟨_,rfl⟩,q⟩ sz
 |tup _ _=>cases ru;exact big _ rfl
 |lst _ _=>cases ru;exact big _ rfl
def Jd:∀{bs:List Bool} {us:List Value} {i:Nat} {v:Value},Vals (bs.map V.bl) us->us[i]?=some v->∃b,bs[i]?=some b/\v=.bool b
 |[],_,i,v,r,h=>by cases r;simp at h
 |b :: bs,_,0,v,r,h=>by
  cases r with
  |cons r1 r2 =>
   cases(show _=Value.bool b from r1);simp at h;exact⟨b,rfl,h.symm⟩
 |b :: bs,_,i+1,v,r,h=>by
  cases r with
  |cons r1 r2 =>
   obtain⟨c,e1,e2⟩:=Jd (i:=i) r2 (by simpa using h);exact⟨c,by simpa using e1,e2⟩
def Nt(hc:X.calm=true):dg X (.builtin "all") (λxs H Q=>∃(p:Addr) (bs:List Bool),xs=[.ref p]/\fG X.K H p (bs.map V.bl)/\Q (.bl (bs.all id)) H):=by
 intro pins s G H xs us Q I r h;obtain⟨p,bs,rfl,hq,q⟩:=h;obtain⟨u,rfl,ru⟩:=vals1 r;cases ru;obtain⟨its,rv,pl,_⟩:=I.list hq;have hl:=pl.isList;have hlt:p<s.heap.objs.size:=by obtain⟨_,e,_⟩:=hl;exact Ts e
 have hlen:=rv.length;rw[S8]at hlen;have hh:X.A.in1.handled=none:=I.ok.hd hc;refine call_all_walk (wpAny_pyIter_list hl ?_)
 refine⟨s.heap.objs.size,[s.heap.objs.size,p],[s.heap.objs.size],its.toArray.size,_,_,λi=>(bs[i]?).getD true,rfl,Walks.list (A:=X.A.in1) hh _ p (T7 hlt) its.toArray,
  ⟨⟨_,To _ rfl,rfl,rfl⟩,hl.push _⟩,λi v s' Q' E' hP hQ=>?_,λh' tk hk=>?_⟩
 obtain⟨b,e,rfl⟩:=Jd rv (by simpa using hP);simp only[e,Option.getD_some]at hQ;exact wpAny_truthy_bool hQ;have e:((List.range its.toArray.size).all λi=>(bs[i]?).getD true)=bs.all id:=by
  rw[Tv,<- hlen];exact PyProof.Rows.LSm.range_all bs
 rw[e];exact⟨.bl _,H,I.kept (PyProof.Rows.LSm.kept_iter hk),rfl,q⟩
end
mutual
noncomputable def wD:PyData->Nat
 |.none=>4
 |.bool _=>5
 |.int _=>1921
 |.str x=>(reprText x).length
 |.list _=>0
 |.tuple xs=>nO xs+3
 |.dict _=>0
noncomputable def nO:List PyData->Nat
 |[]=>0
 |x :: xs=>wD x+2+nO xs
end
mutual
noncomputable def o9:PyData->Bool
 |.none=>true
 |.bool _=>true
 |.int _=>true
 |.str _=>true
 |.list _=>false
 |.tuple xs=>pb xs
 |.dict _=>false
noncomputable def pb:List PyData->Bool
 |[]=>true
 |x :: xs=>o9 x && pb xs
end
def Nu(ts:List Str):(tupleText ts).length<=piled ts+3:=by
 unfold tupleText;rw[strLen_append,strLen_append];have e1:((("(" : String):Str)).length=1:=rfl;have e3:(((if ts.length == 1 then ",)" else ")" : String):Str)).length<=2:=by split<;>decide
 rw[e1];by_cases h:ts=[];subst h;have e4:(Str.join ", " []).length=0:=rfl;rw[e4];lk
 have:=join_length_add ts h
 lk
mutual
theorem Je:∀(d:PyData),d.showable=true->o9 d=true->d.shown.length<=wD d
 |.none,_,_=>by simp only[PyData.shown,wD];decide
 |.bool b,_,_=>by simp only[PyData.shown,wD];cases b<;>decide
 |.int i,h,_=>by
  simp only[PyData.shown,wD];exact int_text_len_1921 (by simpa only[PyData.showable,decide_eq_true_eq]using h)
 |.str x,_,_=>by simp only[PyData.shown,wD];exact Tc _
 |.list _,_,h=>by simp only[o9]at h;cases h
 |.dict _,_,h=>by simp only[o9]at h;cases h
 |.tuple xs,h,h'=>by
  simp only[PyData.shown,wD];have:=Jf xs (by simpa only[PyData.showable]using h) (by simpa only[o9]using h');have:=Nu (PyData.shownAll xs);lk
theorem Jf:∀(ds:List PyData),PyData.showableAll ds=true->pb ds=true->piled (PyData.shownAll ds)<=nO ds
 |[],_,_=>by simp only[PyData.shownAll,nO,piled_nil];exact Tc _
 |d :: ds,h,h'=>by
  simp only[PyData.showableAll,Tz]at h;simp only[pb,Tz]at h';simp only[PyData.shownAll,nO,piled_cons];have:=Je d h.1 h'.1;have:=Jf ds h.2 h'.2;lk
end
section
variable {X:Cx}{K:Zfr}
def Jg(hK:X.K=K):iS X (compareOp .NotIn) (CP K true):=by subst hK;exact CQ
def Nv{tg l:Expr}{tl:TE}(hK:X.K=K)(hl:PE X l tl):PI X tg l (uF K tl):=by subst hK;exact CI hl
end
section
variable {prog:Program}{w:World}{A:Around}{E:Value->Shared->Prop}{s:Shared}
def Nw{j t:Addr}{i:Nat}{ys:Array Value}{y:Value}{Q:Value->Shared->Prop}(hj:s.heap.IsTupleIter j t i)(ht:s.heap.IsTuple t ys)(hy:ys[i]?=some y)
  (hQ:∀h',h'.IsTupleIter j t (i+1)->Heap.SameBut j s.heap h'->Q y { s with heap:=h' }):wpAny (model prog w) A (Builtin.SmallTypes.nextOf (.ref j)) Q E s:=by
 obtain⟨r,hr,rc,rd⟩:=id hj;obtain⟨q,hq,_,nq,dq⟩:=ht;unfold Builtin.SmallTypes.nextOf;refine wpAny_bind (wpAny_callSpecial?_slot (name:=Str.ofString "__next__") hj.typeIs F.slot_tuple_iterator_next (wpAny_call_entry F.slot_tuple_iterator_next hj.typeIs F.entry_tuple_iterator_next ?_ (F.args_tuple_iterator_next_1 _)));show wpAny _ _ (PySem.field (.ref j) 0 >>= _) _ _ s;refine wpAny_bind (wpAny_field hr rd (x:=.ref t) rfl ?_);show wpAny _ _ (if(Value.ref t == Value.none)=true then _ else _) _ _ s;rw[if_neg (λz:(Value.ref t == Value.none)=true=>Tb z)];show wpAny _ _ (PySem.field (.ref j) 1 >>= _) _ _ s;refine wpAny_bind (wpAny_field hr rd (x:=.int i 0) rfl ?_);show wpAny _ _ (seqItems? (.ref t) >>= _) _ _ s;refine wpAny_bind (wpAny_seqItems hq dq ?_);simp only[T9,hy];refine wpAny_bind (wpAny_setField hr rd (by simp) (wpAny_pure ⟨y,rfl,wpAny_pure (hQ _ ⟨_,Uc _ hr (Obj.isFreed_of_fields (Obj.data_mapFields rd _)),(Obj.cls_mapFields ..).trans rc,by rw[Obj.data_mapFields rd];simp[rawInt]⟩ (Heap.SameBut.update ..))⟩))
def Nx{j t:Addr}{i:Nat}{ys:Array Value}{Q:Value->Shared->Prop}(hh:A.handled=none)(hj:s.heap.IsTupleIter j t i)(ht:s.heap.IsTuple t ys)(hy:ys[i]?=none)
  (hE:∀h' e,Heap.ExtBut j s.heap h'->(∃o,h'.get? e=some o/\o.cls=.type "StopIteration")->E (.ref e) { s with heap:=h' }):wpAny (model prog w) A (Builtin.SmallTypes.nextOf (.ref j)) Q E s:=by
 obtain⟨r,hr,rc,rd⟩:=id hj;obtain⟨q,hq,_,nq,dq⟩:=ht;unfold Builtin.SmallTypes.nextOf;refine wpAny_bind (wpAny_callSpecial?_slot (name:=Str.ofString "__next__") hj.typeIs F.slot_tuple_iterator_next (wpAny_call_entry F.slot_tuple_iterator_next hj.typeIs F.entry_tuple_iterator_next ?_ (F.args_tuple_iterator_next_1 _)));show wpAny _ _ (PySem.field (.ref j) 0 >>= _) _ _ s;refine wpAny_bind (wpAny_field hr rd (x:=.ref t) rfl ?_);show wpAny _ _ (if(Value.ref t == Value.none)=true then _ else _) _ _ s;rw[if_neg (λz:(Value.ref t == Value.none)=true=>Tb z)];show wpAny _ _ (PySem.field (.ref j) 1 >>= _) _ _ s;refine wpAny_bind (wpAny_field hr rd (x:=.int i 0) rfl ?_);show wpAny _ _ (seqItems? (.ref t) >>= _) _ _ s;refine wpAny_bind (wpAny_seqItems hq dq ?_);simp only[T9,hy];refine wpAny_bind (wpAny_rule (wpAny_bind (wpAny_setField hr rd (by simp) ?_)));show wpAny _ _ (newExc (.type "StopIteration") [] >>= _) _ _ _;refine wpAny_bind ?_;simp only[newExc,newTuple];refine wpAny_bind (wpAny_newObj_type ?_ (by size_fits));refine wpAny_bind (m:=firstArgMember _ _) (wpAny_of_eq (a:=Value.none) (by first|rfl|(simp only[firstArgMember];rfl)) ?_);refine wpAny_newObj_type ?_ (by size_fits);simp only[raiseNew];refine wpAny_bind (wpAny_handled ?_);first|rw[show A.in1.handled=none from hh]|rw[hh]
 exact wpAny_bind (wpAny_pure (wpAny_throw (hE _ _ (((Heap.SameBut.update ..).extBut.push _).push _) ⟨_,To _ rfl,rfl⟩)))
end
def lF{prog:Program}{w:World}{A:Around}(hh:A.handled=none)(j t:Addr)(hne:t≠j)(ys:Array Value):
  Draws prog w A j [j,t] ys.size (λi v=>ys[i]?=some v) (λi h=>h.IsTupleIter j t i/\h.IsTuple t ys) where
 live:=λ_ _ st=>let ⟨o,ho,_⟩:=st.1;⟨o,ho⟩
 frame:=λ_ _ _ st k=>⟨st.1.at λo e=>k j (by simp) o e,let ⟨o,e,r⟩:=st.2;⟨o,k t (by simp) o e,r⟩⟩
 item:=λi s Q E hi st hQ=>Nw st.1 st.2 (y:=ys[i]) (by simp[hi]) λh' a b=>hQ _ h' s.toks (by simp[hi]) ⟨a,st.2.extBut b.extBut hne⟩ b
 done:=λs Q E st hE=>Nx hh st.1 st.2 (by simp) hE
def Ny(l:Addr)(items:Array Value)(n:Nat)(dct:Option Addr)(sl:Array (Option Value)):
  Meets (Builtin.«enumerate.__new__» ⟨[.type "enumerate",.ref l],[]⟩) (λ_ R s=>s.heap.get? l=some { cls:=.type "tuple",dict:=dct,data:=.seq items n,slots:=sl } /\
   R (.ok (.ret (.ref (s.heap.push { cls:=.type "tuple_iterator",data:=.fields #[.ref l,.int 0 0] }).objs.size)))
    { s with heap:=(s.heap.push { cls:=.type "tuple_iterator",data:=.fields #[.ref l,.int 0 0] }).push { cls:=.type "enumerate",data:=.fields #[.none,.bool false,.ref s.heap.objs.size,rawInt 0,.none,.none] } }) :=
 .of_wp λprog w A R s h=>by
  obtain⟨hp,g,d,tk,os⟩:=s;obtain⟨hl,h⟩:=h;have hsub:=sub_enumerate;have hL:Heap.IsTuple (Shared.heap ⟨hp,g,d,tk,os⟩) l items:=⟨_,hl,rfl,n,rfl⟩
  wp_walk using AutoSeq1.wpAny_loadPart' hl
  refine wpAny_stack_any λst=>wpAny_pure ?_;split
  ·rename_i c _ _ _ _ _
   cases(c == Value.type "enumerate")<;>(wp_walk using AutoSeq1.wpAny_loadPart' hl,wpAny_pyIter_tuple hL;exact⟨_,rfl,h⟩)
  ·wp_walk using AutoSeq1.wpAny_loadPart' hl,wpAny_pyIter_tuple hL
   exact⟨_,rfl,h⟩
section
variable {prog:Program}{w:World}{A:Around}{E:Value->Shared->Prop}{s:Shared}
def Nz{l:Addr}{ys:Array Value}{Q:Value->Shared->Prop}(ht:s.heap.IsTuple l ys)
  (h:∀h',IsEnum h' (s.heap.objs.size+1) s.heap.objs.size 0 .none->h'.IsTupleIter s.heap.objs.size l 0->h'.objs.size=s.heap.objs.size+2 ->
   (∀b o,s.heap.get? b=some o->h'.get? b=some o)->Q (.ref (s.heap.objs.size+1)) { s with heap:=h' }):wpAny (model prog w) A (call (.type "enumerate") [.ref l]) Q E s:=by
 obtain⟨⟨c,dct,dt,sl⟩,hl,hc,n,hd⟩:=ht;cases(show c=.type "tuple" from hc);cases(show dt=.seq ys n from hd);refine callType_new F.called_enumerate ∅ (F.typeCall_enumerate_1 _) (F.newCall_enumerate_1 _) (λobj=>F.args_object_init_2 obj _) F.entry_enumerate_new (Ny l ys n dct sl) ⟨hl,?_⟩;have z:(s.heap.push { cls:=.type "tuple_iterator",data:=.fields #[.ref l,.int 0 0] }).objs.size=s.heap.objs.size+1:=Up ..;show _/\_;rw[z];have en:IsEnum ((s.heap.push { cls:=.type "tuple_iterator",data:=.fields #[.ref l,.int 0 0] }).push { cls:=.type "enumerate",data:=.fields #[.none,.bool false,.ref s.heap.objs.size,rawInt 0,.none,.none] }) (s.heap.objs.size+1) s.heap.objs.size 0 .none:=by
  have g:=To (s.heap.push { cls:=.type "tuple_iterator",data:=.fields #[.ref l,.int 0 0] }) (o:={ cls:=.type "enumerate",data:=.fields #[.none,.bool false,.ref s.heap.objs.size,rawInt 0,.none,.none] }) rfl;rw[z]at g;exact g
 exact⟨⟨_,en,rfl⟩,h _ en ⟨_,S9 _ (To _ rfl),rfl,rfl⟩ (by rw[Up,z]) λb o e=>S9 _ (S9 _ e)⟩
end
section
variable {X:Cx}{pins:List (Addr×Obj)}{G:St}{H:Hp}{s:Shared}{h':Heap}
def Inv.lG{t':Nat}{ch:List Addr}(I:Inv X pins G H s)(k:∀b o,b ∉ ch->s.heap.get? b=some o->h'.get? b=some o)(f:∀b∈ch,eK X pins H b):Inv X pins G H { s with heap:=h',toks:=t' }:=by
 have yy:∀b u,H b=some u->b ∉ ch:=λb u e z=>by rw[(f b z).1]at e;cases e
 refine I.step (g':=s.gens) (d':=s.drawn) (ch:=ch) (λb hb=>⟨(f b hb).2.2.2.1,(f b hb).2.1,(f b hb).2.2.2.2.1,(f b hb).2.2.2.2.2⟩) (λb o _ _ hc e _=>k b o hc e) (λb o _ _ hc e _=>⟨o.slots,k b o hc e⟩) (λ_ _ _ _ n=>n)
  (λb o hc e=>⟨o,k b o hc e⟩) (λ_ _ e=>e) (λ_ _ _ e=>e) (λb ps e=>⟨#[],by rw[e];simp⟩) (λm hm=>?_) (λb u e=>?_) I.bare
 obtain⟨o,es,ep,ho,r⟩:=hm;exact⟨o,es,ep,k _ o (λz=>(f _ z).2.1 rfl) ho,r⟩;refine(I.hok b u e).stay (λc v hc q=>k c v ?_ q) (λ_ q=>q) λ_ _ q=>q;rcases hc with z|z
 rw[z];exact yy b u e;exact yy c _ z
end
abbrev Jh(K:Zfr)(a:Addr):It :=
 ⟨λi H=>∃xs x,df K H a xs/\xs[i]?=some x,λi H x H'=>∃p y,x=.ref p/\H p=none/\H'=upd H p (.tup [.int i,y])/\∀xs,df K H a xs->xs[i]?=some y,λi H=>∃xs,df K H a xs/\xs.length=i⟩
def NA{P:Program}{w:World}{K:Zfr}{es:List Expr}{x1}{pos:Pos}(a e it:Addr)(hne:e≠it):
  Turn P w K (.Tuple es x1 pos) (Jh K a) [e,it] e (λi h=>(∃old,IsEnum h e it i old)/\h.IsTupleIter it a i) where
 mem:=by simp
 obj:=λi h st b hb=>by
  obtain⟨⟨old,he⟩,o,e2,c,d⟩:=st;rcases Tp.mp hb with rfl|hb
  exact⟨_,he,λv z=>by
   have z':Data.fields _=Data.cell v:=z
   cases z'⟩
  have q:b=it:=by simpa using hb
  subst q;exact⟨o,e2,λv z=>by rw[d]at z;cases z⟩
 keep:=λi h h' st k=>⟨let ⟨old,he⟩:=st.1;⟨old,k e (by simp) _ he⟩,st.2.at λo q=>k it (by simp) o q⟩
 item:=by
  intro X hP hw hK hc i pins s G H E I hf st hg;subst hP hw hK;obtain⟨xs,x,hq,hx⟩:=hg;obtain⟨its,rv,p,hz⟩:=I.tuple hq;obtain⟨u,hu,ru⟩:=rv.get hx;obtain⟨⟨old,he⟩,hit⟩:=st;have ht:s.heap.IsTuple a its.toArray:=p;have Fp:a≠it:=λz=>by
   obtain⟨o,e1,c1,_⟩:=hit;obtain⟨o2,e2,c2,_⟩:=ht;rw[z,e1]at e2;cases e2;exact absurd (c1.symm.trans c2) (by simp)
  have NC:e≠a:=λz=>by
   obtain⟨o2,e2,c2,_⟩:=ht;rw[<- z,he]at e2;cases e2;exact absurd c2 (by simp)
  have hl:=rv.length;have hi:i<its.toArray.size:=by
   have:=Ti.mp hu;obtain⟨q,_⟩:=this
   simpa using q
  refine wpAny_pyNext_enum_itemD (lF (A:=X.A.in1) (I.ok.hd hc) it a Fp its.toArray) he ⟨hit,ht⟩ hi hne (by simp[hne,NC]) λy h1 tk hy ho hst hT hsz kk=>?_;have ey:y=u:=by
   have:its.toArray[i]?=some u:=by simpa using hu
   exact Tq (hy.symm.trans this)
  subst ey;refine⟨_,rfl,wpAny_letOwnedTupleGo_enum ho λh2 ND sb=>?_⟩;have hel:@LT.lt Nat _ e s.heap.objs.size:=Ts he;have hil:@LT.lt Nat _ it s.heap.objs.size:=by obtain⟨o,e1,_⟩:=hit;exact Ts e1
  have u5:H s.heap.objs.size=none:=I.hok.fresh (Tc _);have sb':Heap.SameBut e h1 h2:=sb;have I1:Inv X pins G (upd H s.heap.objs.size (.tup [.int i,x])) { s with heap:=s.heap.push { cls:=.type "tuple",data:=.seq #[.int i tk,y] },toks:=s.toks } :=
   I.laid (λb u e=>S9 _ e) (Tc _) ⟨(by decide:2<=sizeLine),[.int i tk,y],.cons ⟨tk,rfl⟩ (.cons ru .nil),⟨_,To _ rfl,rfl,rfl,_,rfl⟩⟩
  have nn:∀b∈[e,it],@LT.lt Nat _ b s.heap.objs.size:=λb hb=>by
   rcases Tp.mp hb with rfl|hb
   exact hel;have q:b=it:=by simpa using hb
   rw[q];exact hil
  have hn:∀b∈[e,it],upd H s.heap.objs.size (.tup [.int i,x]) b=none:=λb hb=>by
   unfold upd;rw[if_neg (T7 (nn b hb))];exact(hf b hb).1
  have I2:Inv X pins G (upd H s.heap.objs.size (.tup [.int i,x])) { s with heap:=h2,toks:=tk+1 }:=by
   refine Inv.lG (s:={ s with heap:=s.heap.push { cls:=.type "tuple",data:=.seq #[.int i tk,y] },toks:=s.toks }) (h':=h2) I1 (ch:=[e,it]) (t':=tk+1) (λb o hb q=>?_) λb hb=>⟨hn b hb,(hf b hb).2⟩;have nb:b≠e/\b≠it:=by simpa using hb
   refine(sb'.2 b nb.1).trans ?_;rcases Heap.get?_push_cases q with⟨rfl,rfl⟩|q
   exact hT;exact kk b o nb.1 nb.2 q
  refine⟨.ref s.heap.objs.size,_,I2,rfl,⟨_,x,rfl,u5,rfl,λys NF=>by rw[I.jz NF hq];exact hx⟩,⟨⟨y,?_⟩,?_⟩,hn⟩
  have:((i+1:Nat):Int)=(i:Int)+1:=by lk
  rw[this];exact ND;exact hst.1.extBut sb'.extBut (Ne.symm hne)
 done:=by
  intro X hP hw hK hc i pins s G H E I hf st hg;subst hP hw hK;obtain⟨xs,hq,hx⟩:=hg;obtain⟨its,rv,p,hz⟩:=I.tuple hq;obtain⟨⟨old,he⟩,hit⟩:=st;have ht:s.heap.IsTuple a its.toArray:=p;have Fp:a≠it:=λz=>by
   obtain⟨o,e1,c1,_⟩:=hit;obtain⟨o2,e2,c2,_⟩:=ht;rw[z,e1]at e2;cases e2;exact absurd (c1.symm.trans c2) (by simp)
  have hl:=rv.length;have ei:its.toArray.size=i:=by simp;lk
  refine wpAny_pyNext_enum_endD (lF (A:=X.A.in1) (I.ok.hd hc) it a Fp its.toArray) he (by rw[ei];exact⟨hit,ht⟩) λh1 eb=>⟨rfl,?_⟩;obtain⟨f0,f1,f2,f3,f4,f5⟩:=hf it (by simp);exact I.turned (t':=s.toks) (λb o hb q=>eb b o hb q) f0 f1 f3 f4 f5
 self:=λ_ _ _ _ _ st h=>let ⟨_,he⟩:=st.1;wpAny_pyIter_enum he h
abbrev tj(K:Zfr)(ta:TA):TI:=λG H R=>ta G H λvs H1=>∃a,vs=[.ref a]/\(∃xs,df K H1 a xs)/\R (Jh K a) H1
def NG{X:Cx}{es:List Expr}{x1}{p0:Pos}{l:Expr}{ta:TA}{p pos:Pos}(hg:Gl X "enumerate")(hm:X.mg "enumerate" = none)(ha:PA X [l] ta)(hs:starEach [l] X.env=[(false,eval l X.env)]:=by rfl):
  PI X (.Tuple es x1 p0) (.Call (.Name "enumerate" p) [l] [] pos) (tj X.K ta):=by
 intro pins s G H R I h;refine Call_ (xM I hg hm boot_enumerate (PyProof.Rows.callWith_type1 (bA (ha pos pins s G H _ I h) λus s1 ⟨vs,H1,I1,r1,q1⟩=>?_) hs rfl));obtain⟨a,e,⟨xs,hq⟩,q⟩:=q1;subst e;cases r1 with
 |cons r rr =>
  cases rr;cases r;obtain⟨its,rv,p,hz⟩:=I1.tuple hq;refine Nz (show s1.heap.IsTuple a its.toArray from p) λh1 he hi hsz kk=>?_;refine wpAny_pyIter_enum he ?_;refine⟨s1.heap.objs.size+1,[s1.heap.objs.size+1,s1.heap.objs.size],_,_,H1,rfl,I1.kept (t':=s1.toks) kk,NA a _ _ (Nat.succ_ne_self _),⟨⟨_,he⟩,hi⟩,λb hb=>?_,q⟩;have hb':@LE.le Nat _ s1.heap.objs.size b:=by
   rcases Tp.mp hb with rfl|hb
   exact Vn _;have e:b=s1.heap.objs.size:=by simpa using hb
   rw[e];exact Tc _
  exact I1.mv hb' (I1.hok.fresh hb')
section
variable {X:Cx}{K:Zfr}
def u6{o e:Expr}{es:List Expr}{to:TE}{t:TA}{name:Str}{apos cpos:Pos}{T id:String}{r:V->List V->Hp->VK->Prop}(hK:X.K=K)(pa:PlainAttrs T)(slot:Slot T name id)(hty:typeOf (.builtin id)=pure (.type "method_descriptor"))(hm:y8 X id r)(ho:PE X o to)(ha:PA X (e :: es) t)
  (hbase:attributeBase o name X.env (eval o X.env)=eval o X.env:=by rfl)
  (hfew:((backTo cpos (starEach (e :: es) X.env)).all (λx=>!x.1) && (backToKw cpos (keywordEach [] X.env)).all (λx=>x.1.isSome)
   && decide ((e :: es).length+([]:List Keyword).length+(if([]:List Keyword).isEmpty then 0 else 1)<30))=true:=by rfl)
  (hline:(apos.endLine == cpos.line)=true:=by rfl) (hs:starEach (e :: es) X.env=(false,eval e X.env) :: starEach es X.env:=by rfl) (hplain:(backTo cpos (starEach es X.env)).any (·.1)=false:=by rfl) :
  PE X (.Call (.Attribute o name apos) (e :: es) [] cpos) (ET K T r to t):=by subst hK;exact jT pa slot hty hm ho ha hbase hfew hline hs hplain
def NH{es:List Expr}{k:Nat}{t:pP}{n:Nat}{pos:Pos}(hK:X.K=K)(hc:X.calm=true)(h:yG X es t)
  (hn:(assignEach es X.env).length=n:=by rfl) (hst:(assignEach es X.env).findIdx? (·.1)=none:=by rfl):PG X (.Tuple es k pos) (uD K n t):=by subst hK;exact yK hc h hn hst
end
open Builtin.Str
section
variable {X:Cx}{K:Zfr}
def Fq:∀{xs:List Str} {us:List Value},Vals (xs.map V.str) us->∃l:List (Str×Tok),us=strValues l/\l.map (·.1)=xs
 |[],us,h=>by
  cases us with
  |nil=>exact⟨[],rfl,rfl⟩
  |cons a b=>cases h
 |x :: xs,us,h=>by
  cases us with
  |nil=>cases h
  |cons u us =>
   cases h with
   |cons r t =>
    obtain⟨l,e1,e2⟩:=Fq t;obtain⟨tk,rfl⟩:=r;exact⟨(x,tk) :: l,by rw[e1];rfl,by rw[Um,e2]⟩
def Ji(sep:Str)(hs:sep.length<=10):∀(ts:List Str),(∀y∈ts,y.length<=2000)->(Str.join sep ts).length<=2010*ts.length
 |[],_=>Uq _
 |[x],h=>by have:=h x (by simp);show x.length<=_;simp only[Tf,Uj];lk
 |x :: y :: r,h=>by
  have h1:=h x (by simp);have h2:=Ji sep hs (y :: r) λz hz=>h z (Tg _ hz);have e:(Str.join sep (x :: y :: r)).length=x.length+sep.length+(Str.join sep (y :: r)).length:=by
   show(x ++ sep ++ Str.join sep (y :: r)).length=_;show(Str.append (Str.append x sep) (Str.join sep (y :: r))).cps.size=_;simp only[Str.append,Array.size_append,Str.length]
  rw[e];simp only[Tf]at h2 ⊢;lk
abbrev rJoin(K:Zfr):V->List V->Hp->VK->Prop:=λx vs H Q=>∃(sep:Str) (a:Addr) (xs:List Str),x=.str sep/\vs=[.ref a]/\fG K H a (xs.map V.str)/\xs.length<=2000/\sep.length<=10/\(∀y∈xs,y.length<=2000)/\Q (.str (Str.join sep xs)) H
def qg:y8 X "str.join" (rJoin X.K):=by
 intro pins s G H x xs v us Q I rx rv h;obtain⟨sep,a,ts,rfl,rfl,hq,h1,h2,h3,q⟩:=h;obtain⟨t,rfl⟩:=rx;obtain⟨u,rfl,ru⟩:=vals1 rv;cases ru;obtain⟨its,r,pl,hz⟩:=I.list hq;obtain⟨l,rfl,e2⟩:=Fq r;have hfit:tooLong ((l.map (·.1)).toArray.foldl (· + ·.length+sep.length) 0)=false:=by
  rw[e2];have a1:ts.length*sep.length<=2000*10:=Nat.mul_le_mul h1 h2;exact StrLaws.joinFits (B:=2000) h3 ⋯
 refine call_meets F.slot_str_join (typeIs_str s sep t) F.entry_str_join (F.args_str_join_2 _ _) (meets_str_join_list sep t a l hfit) ⟨pl.isList,?_⟩;have fin:∀tk k,EP X pins G Q (.str (Str.join sep ts) tk) { s with toks:=k }:=λtk k=>⟨.str _,H,I.tok _,⟨_,rfl⟩,q⟩;have hlen:=Ji sep h2 ts h3;have hz2:(Str.join sep ts).length<=sizeLine:=by
  have e:sizeLine=16777216:=rfl;lk
 match l,e2 with
 |[],e2 =>
  cases e2;exact⟨hz2,fin _ _⟩
 |[p],e2 =>
  cases e2;exact fin p.2 s.toks
 |p :: p2 :: r,e2 =>
  show(glued sep ((p :: p2 :: r).map (·.1))).length<=sizeLine/\_;rw[StrLaws.glued_eq_join,e2];exact⟨hz2,fin _ _⟩
def NI(hK:X.K=K):y8 X "str.join" (rJoin K):=by subst hK;exact qg
end
abbrev Fs(x:Str):It:=⟨λi _=>i<x.cps.size,λi H y H'=>H'=H/\∃c,x.cps[i]?=some c/\y=.str ⟨#[c]⟩,λi _=>x.cps.size<=i⟩
def NJ{P:Program}{w:World}{K:Zfr}{tg:Expr}(it:Addr)(x:Str)(t:Tok):Turn P w K tg (Fs x) [it] it (λi h=>h.IsStrIter it "str_ascii_iterator" x t i) where
 mem:=by simp
 obj:=λi h st b hb=>by
  have e:b=it:=by simpa using hb
  subst e;obtain⟨o,e,c,d⟩:=st;exact⟨o,e,λv z=>by rw[d]at z;cases z⟩
 keep:=λi h h' st k=>let ⟨o,ho,r⟩:=st;⟨o,k it (by simp) o ho,r⟩
 item:=by
  intro X hP hw hK hc i pins s G H E I hf st hg;subst hP hw hK;have hg:i<x.cps.size:=hg;obtain⟨f0,f1,f2,f3,f4,f5⟩:=hf it (by simp);refine wpAny_pyNext_ascii_item st (c:=x.cps[i]) (by simp[hg]) λh' st' sb=>?_;have I1:Inv X pins G H { s with heap:=h',toks:=s.toks+1 }:=I.turned (λb o hb e=>(sb.2 b hb).trans e) f0 f1 f3 f4 f5;obtain⟨o,e,c,d⟩:=id st';exact⟨_,rfl,yM (s:={ s with heap:=h',toks:=s.toks+1 }) e c d ∅ ⟨.str ⟨#[x.cps[i]]⟩,H,I1,⟨_,rfl⟩,⟨rfl,_,by simp[hg],rfl⟩,st',λb hb=>(hf b hb).1⟩⟩
 done:=by
  intro X hP hw hK hc i pins s G H E I hf st hg;subst hP hw hK;have hg:x.cps.size<=i:=hg;obtain⟨f0,f1,f2,f3,f4,f5⟩:=hf it (by simp);exact wpAny_pyNext_ascii_end (I.ok.hd hc) st (by simp[hg]) λh' eb=>⟨rfl,I.turned (t':=s.toks) (λb o hb e=>eb b o hb e) f0 f1 f3 f4 f5⟩
 self:=λ_ _ _ _ _ st h=>wpAny_pyIter_striter_ascii st h
def NK{P:Program}{w:World}{K:Zfr}{tg:Expr}(it:Addr)(x:Str)(t:Tok):Turn P w K tg (Fs x) [it] it (λi h=>h.IsStrIter it "str_iterator" x t i) where
 mem:=by simp
 obj:=λi h st b hb=>by
  have e:b=it:=by simpa using hb
  subst e;obtain⟨o,e,c,d⟩:=st;exact⟨o,e,λv z=>by rw[d]at z;cases z⟩
 keep:=λi h h' st k=>let ⟨o,ho,r⟩:=st;⟨o,k it (by simp) o ho,r⟩
 item:=by
  intro X hP hw hK hc i pins s G H E I hf st hg;subst hP hw hK;have hg:i<x.cps.size:=hg;obtain⟨f0,f1,f2,f3,f4,f5⟩:=hf it (by simp);refine wpAny_pyNext_wide_item st (c:=x.cps[i]) (by simp[hg]) λh' st' sb=>?_;have I1:Inv X pins G H { s with heap:=h',toks:=s.toks+1 }:=I.turned (λb o hb e=>(sb.2 b hb).trans e) f0 f1 f3 f4 f5;obtain⟨o,e,c,d⟩:=id st';exact⟨_,rfl,yM (s:={ s with heap:=h',toks:=s.toks+1 }) e c d ∅ ⟨.str ⟨#[x.cps[i]]⟩,H,I1,⟨_,rfl⟩,⟨rfl,_,by simp[hg],rfl⟩,st',λb hb=>(hf b hb).1⟩⟩
 done:=by
  intro X hP hw hK hc i pins s G H E I hf st hg;subst hP hw hK;have hg:x.cps.size<=i:=hg;obtain⟨f0,f1,f2,f3,f4,f5⟩:=hf it (by simp);exact wpAny_pyNext_wide_end (I.ok.hd hc) st (by simp[hg]) λh' eb=>⟨rfl,I.turned (t':=s.toks) (λb o hb e=>eb b o hb e) f0 f1 f3 f4 f5⟩
 self:=λ_ _ _ _ _ st h=>wpAny_pyIter_striter_wide st h
section
variable {X:Cx}{tg:Expr}
abbrev zw(tl:TE):TI:=λG H R=>tl G H λx H1=>∃z,x=.str z/\R (Fs z) H1
def u7{l:Expr}{tl:TE}(hl:PE X l tl):PI X tg l (zw tl):=by
 intro pins s G H R I h;refine bA (hl pins s G H _ I h) λv s1 ⟨x,H1,I1,r1,q1⟩=>?_;obtain⟨z,e,q⟩:=q1;subst e;obtain⟨t,rfl⟩:=r1;have fp:∀b∈[s1.heap.objs.size],eK X pins H1 b:=λb hb=>by
  have e:b=s1.heap.objs.size:=by simpa using hb
  subst e;exact I1.mv (Tc _) (I1.hok.fresh (Tc _))
 cases ha:z.cps.all (· < 128);refine wpAny_pyIter_wide ha ?_;exact⟨s1.heap.objs.size,[s1.heap.objs.size],_,_,H1,rfl,I1.kept (t':=s1.toks) λb o e=>S9 _ e,NK _ z t,⟨_,To _ rfl,rfl,rfl⟩,fp,q⟩;refine wpAny_pyIter_ascii ha ?_;exact⟨s1.heap.objs.size,[s1.heap.objs.size],_,_,H1,rfl,I1.kept (t':=s1.toks) λb o e=>S9 _ e,NJ _ z t,⟨_,To _ rfl,rfl,rfl⟩,fp,q⟩
end
open Builtin.Str
section
variable {prog:Program}{w:World}{A:Around}{E:Value->Shared->Prop}{s:Shared}
structure jB(z TI TO i1 i2:Addr)(kB ka:List Addr):Prop where
 TIz:TI≠z
 TOz:TO≠z
 i1z:i1≠z
 i2z:i2≠z
 TITO:TI≠TO
 TOi1:TO≠i1
 TOi2:TO≠i2
 i12:i1≠i2
 m1:i1∈kB
 m2:i2∈ka
 z1:∀b∈kB,b≠z/\b≠TO/\b≠i2
 z2:∀b∈ka,b≠z/\b≠TO/\b≠i1
def NL{z TI TO i1 i2:Addr}{kB ka:List Addr}{n1 n2 k:Nat}{P1 P2:Nat->Value->Prop}{nP mY:Nat->Heap->Prop}{a b:Value}{Q:Value->Shared->Prop}(D:jB z TI TO i1 i2 kB ka)
  (D1:Draws prog w A i1 kB n1 P1 nP) (D2:Draws prog w A i2 ka n2 P2 mY)
  (hz:IsZip s.heap z TI TO .none) (hTI:IsPair s.heap TI (.ref i1) (.ref i2)) (hTO:IsPair s.heap TO a b)
  (h1:nP k s.heap) (h2:mY k s.heap) (hk1:k<n1) (hk2:k<n2)
  (hQ:∀x y h' tk,P1 k x->P2 k y->IsZip h' z TI TO (rawInt s.heap.objs.size)->IsPair h' TO x y->nP (k+1) h'->mY (k+1) h'->IsPair h' s.heap.objs.size x y->h'.objs.size=s.heap.objs.size+1 ->
   (∀c o,c≠z->c≠TO->c≠i1->c≠i2->s.heap.get? c=some o->h'.get? c=some o)->Q (.ref s.heap.objs.size) { s with heap:=h',toks:=tk }) :
  wpAny (model prog w) A (Builtin.«zip.__next__» ⟨[.ref z],[]⟩) (λfin s'=>∃v,fin=.done (.ret v)/\Q v s') E s:=by
 show wpAny _ _ (field (.ref z) 2 >>= _) _ _ _;refine wpAny_bind (wpAny_field hz rfl (x:=.bool false) rfl ?_);show wpAny _ _ (field (.ref z) 3 >>= _) _ _ _;refine wpAny_bind (wpAny_field hz rfl (x:=.ref TI) rfl ?_);refine wpAny_bind (wpAny_seqItems hTI rfl ?_);show wpAny _ _ (Builtin.SmallTypes.ownedTupleIsFree (.ref z) >>= _) _ _ _;refine wpAny_bind ?_;unfold Builtin.SmallTypes.ownedTupleIsFree;refine wpAny_bind (wpAny_field hz rfl (x:=.none) rfl (wpAny_pure ?_));simp only[if_true];refine wpAny_bind (wpAny_rule ?_);refine wpAny_bind (wpAny_field hz rfl (x:=.ref TO) rfl ?_);refine wpAny_bind (wpAny_setField_rec hz (by simp) λh₁ hz₁ hs₁=>?_);replace hz₁:IsZip h₁ z TI TO .ellipsis:=hz₁;refine wpAny_bind ?_;simp only[List.zipIdx_cons,List.zipIdx_nil,Vd,Vm];refine wpAny_bind (wpAny_bind (wpAny_onRaise ?_));show wpAny _ _ (Builtin.SmallTypes.nextOf (.ref i1) >>= _) _ _ _;refine wpAny_bind (D1.item k { s with heap:=h₁ } _ _ hk1 (D1.frame _ _ _ h1 λc hc o e=>hs₁.extBut _ _ (D.z1 c hc).1 e) λx h₂ tk₂ hx h1₂ hs₂=>wpAny_pure ?_);replace hs₂:Heap.SameBut i1 h₁ h₂:=hs₂;have hTO₂:IsPair h₂ TO a b:=hs₂.extBut _ _ D.TOi1 (hs₁.extBut _ _ D.TOz hTO);refine wpAny_bind (wpAny_seqItems hTO₂ rfl ?_);refine wpAny_bind (wpAny_updateSeq_pair hTO₂ λh₃ hTO₃ hs₃=>?_);replace hs₃:Heap.SameBut TO h₂ h₃:=hs₃;replace hTO₃:IsPair h₃ TO x b:=hTO₃;refine wpAny_bind (wpAny_letGo (wpAny_pure ?_));refine wpAny_bind (wpAny_bind (wpAny_onRaise ?_));show wpAny _ _ (Builtin.SmallTypes.nextOf (.ref i2) >>= _) _ _ _;have h2₃:mY k h₃:=D2.frame _ _ _ h2 λc hc o e=>hs₃.extBut _ _ (D.z2 c hc).2.1 (hs₂.extBut _ _ (D.z2 c hc).2.2 (hs₁.extBut _ _ (D.z2 c hc).1 e));refine wpAny_bind (D2.item k { s with heap:=h₃,toks:=tk₂ } _ _ hk2 h2₃ λy h₄ tk₄ hy h2₄ hs₄=>wpAny_pure ?_);replace hs₄:Heap.SameBut i2 h₃ h₄:=hs₄;have hTO₄:IsPair h₄ TO x b:=hs₄.extBut _ _ D.TOi2 hTO₃;refine wpAny_bind (wpAny_seqItems hTO₄ rfl ?_);refine wpAny_bind (wpAny_updateSeq_pair hTO₄ λh₅ hTO₅ hs₅=>?_);replace hs₅:Heap.SameBut TO h₄ h₅:=hs₅;replace hTO₅:IsPair h₅ TO x y:=hTO₅;refine wpAny_bind (wpAny_letGo (wpAny_pure (wpAny_pure ?_)));refine wpAny_bind (wpAny_seqItems hTO₅ rfl ?_);refine wpAny_bind (wpAny_newTuple ?_);have hsz:h₅.objs.size=s.heap.objs.size:=by rw[hs₅.1,hs₄.1,hs₃.1,hs₂.1,hs₁.1]
 have hz₅:IsZip h₅ z TI TO .ellipsis:=hs₅.extBut _ _ D.TOz.symm (hs₄.extBut _ _ D.i2z.symm (hs₃.extBut _ _ D.TOz.symm (hs₂.extBut _ _ D.i1z.symm hz₁)));have hk₅:∀c o,c≠z->c≠TO->c≠i1->c≠i2->s.heap.get? c=some o->h₅.get? c=some o:=λc o c1 c2 c3 c4 e =>
  hs₅.extBut _ _ c2 (hs₄.extBut _ _ c4 (hs₃.extBut _ _ c2 (hs₂.extBut _ _ c3 (hs₁.extBut _ _ c1 e))))
 have h1₅:nP (k+1) h₅:=D1.frame _ _ _ h1₂ λc hc o e=>hs₅.extBut _ _ (D.z1 c hc).2.1 (hs₄.extBut _ _ (D.z1 c hc).2.2 (hs₃.extBut _ _ (D.z1 c hc).2.1 e));have h2₅:mY (k+1) h₅:=D2.frame _ _ _ h2₄ λc hc o e=>hs₅.extBut _ _ (D.z2 c hc).2.1 e;have zx:z<h₅.objs.size:=Ts hz₅;show wpAny _ _ (Builtin.SmallTypes.ownedTupleHandOut (.ref z) (.ref h₅.objs.size) >>= _) _ _ _;refine wpAny_bind ?_;unfold Builtin.SmallTypes.ownedTupleHandOut;have hz₆:IsZip (h₅.push { cls:=.type "tuple",data:=.seq #[x,y] }) z TI TO .ellipsis:=S9 _ hz₅;refine wpAny_bind (wpAny_setField_rec hz₆ (by simp) λh₇ hz₇ hs₇=>?_);replace hz₇:IsZip h₇ z TI TO (rawInt h₅.objs.size):=hz₇;refine wpAny_setField_rec hz₇ (by simp) λh₈ hz₈ hs₈=>?_;replace hz₈:IsZip h₈ z TI TO (rawInt h₅.objs.size):=hz₈;replace hs₇:Heap.SameBut z (h₅.push { cls:=.type "tuple",data:=.seq #[x,y] }) h₇:=hs₇;replace hs₈:Heap.SameBut z h₇ h₈:=hs₈;have up:∀c o,c≠z->h₅.get? c=some o->h₈.get? c=some o:=λc o c1 e=>hs₈.extBut _ _ c1 (hs₇.extBut _ _ c1 (S9 _ e));have hT₈:IsPair h₈ h₅.objs.size x y:=hs₈.extBut _ _ (UU zx) (hs₇.extBut _ _ (UU zx) (To _ rfl));have Jj:h₈.objs.size=h₅.objs.size+1:=by rw[hs₈.1,hs₇.1,Up]
 rw[hsz]at hz₈ hT₈ Jj;refine wpAny_pure ⟨_,rfl,?_⟩;show Q (.ref h₅.objs.size) _;rw[hsz];exact hQ x y h₈ tk₄ hx hy hz₈ (up _ _ D.TOz hTO₅) (D1.frame _ _ _ h1₅ λc hc o e=>up _ o (D.z1 c hc).1 e) (D2.frame _ _ _ h2₅ λc hc o e=>up _ o (D.z2 c hc).1 e) hT₈ Jj λc o c1 c2 c3 c4 e=>up c o c1 (hk₅ c o c1 c2 c3 c4 e)
def NM{z TI TO i1 i2:Addr}{kB ka:List Addr}{n1 n2 k:Nat}{P1 P2:Nat->Value->Prop}{nP mY:Nat->Heap->Prop}{a b:Value}{Q:Fin->Shared->Prop}(D:jB z TI TO i1 i2 kB ka)
  (D1:Draws prog w A i1 kB n1 P1 nP) (D2:Draws prog w A i2 ka n2 P2 mY)
  (hz:IsZip s.heap z TI TO .none) (hTI:IsPair s.heap TI (.ref i1) (.ref i2)) (hTO:IsPair s.heap TO a b)
  (h1:nP k s.heap) (h2:mY k s.heap) (hend:k=n1\/(k<n1/\k=n2))
  (hE:∀h' tk e,(∀c o,c≠z->c≠TO->c≠i1->c≠i2->s.heap.get? c=some o->h'.get? c=some o)->(∃o,h'.get? e=some o/\o.cls=.type "StopIteration")->E (.ref e) { s with heap:=h',toks:=tk }) :
  wpAny (model prog w) A (Builtin.«zip.__next__» ⟨[.ref z],[]⟩) Q E s:=by
 show wpAny _ _ (field (.ref z) 2 >>= _) _ _ _;refine wpAny_bind (wpAny_field hz rfl (x:=.bool false) rfl ?_);show wpAny _ _ (field (.ref z) 3 >>= _) _ _ _;refine wpAny_bind (wpAny_field hz rfl (x:=.ref TI) rfl ?_);refine wpAny_bind (wpAny_seqItems hTI rfl ?_);show wpAny _ _ (Builtin.SmallTypes.ownedTupleIsFree (.ref z) >>= _) _ _ _;refine wpAny_bind ?_;unfold Builtin.SmallTypes.ownedTupleIsFree;refine wpAny_bind (wpAny_field hz rfl (x:=.none) rfl (wpAny_pure ?_));simp only[if_true];refine wpAny_bind (wpAny_rule ?_);refine wpAny_bind (wpAny_field hz rfl (x:=.ref TO) rfl ?_);refine wpAny_bind (wpAny_setField_rec hz (by simp) λh₁ hz₁ hs₁=>?_);replace hz₁:IsZip h₁ z TI TO .ellipsis:=hz₁;refine wpAny_bind ?_;simp only[List.zipIdx_cons,List.zipIdx_nil,Vd,Vm];refine wpAny_bind (wpAny_bind (wpAny_onRaise ?_));show wpAny _ _ (Builtin.SmallTypes.nextOf (.ref i1) >>= _) _ _ _;have h1₁:nP k h₁:=D1.frame _ _ _ h1 λc hc o e=>hs₁.extBut _ _ (D.z1 c hc).1 e;rcases hend with rfl|⟨hk1,rfl⟩
 refine wpAny_bind (D1.done { s with heap:=h₁ } _ _ h1₁ λh₂ e hs₂ he=>?_);obtain⟨oe,u9,hce⟩:=he;replace hs₂:Heap.ExtBut i1 h₁ h₂:=hs₂;have hz₂:IsZip h₂ z TI TO .ellipsis:=hs₂ _ _ D.i1z.symm hz₁;have Ft:e≠z:=λx=>by subst x;rw[hz₂]at u9;cases u9;simp at hce
 refine wpAny_setField_rec hz₂ (by simp) λh₃ _ hs₃=>hE h₃ s.toks e (λc o c1 _ c3 _ x=>hs₃.extBut _ _ c1 (hs₂ _ _ c3 (hs₁.extBut _ _ c1 x))) ⟨oe,hs₃.extBut _ _ Ft u9,hce⟩;refine wpAny_bind (D1.item k { s with heap:=h₁ } _ _ hk1 h1₁ λx h₂ tk₂ hx h1₂ hs₂=>wpAny_pure ?_);replace hs₂:Heap.SameBut i1 h₁ h₂:=hs₂;have hTO₂:IsPair h₂ TO a b:=hs₂.extBut _ _ D.TOi1 (hs₁.extBut _ _ D.TOz hTO);refine wpAny_bind (wpAny_seqItems hTO₂ rfl ?_);refine wpAny_bind (wpAny_updateSeq_pair hTO₂ λh₃ hTO₃ hs₃=>?_);replace hs₃:Heap.SameBut TO h₂ h₃:=hs₃;refine wpAny_bind (wpAny_letGo (wpAny_pure ?_));refine wpAny_bind (wpAny_bind (wpAny_onRaise ?_));show wpAny _ _ (Builtin.SmallTypes.nextOf (.ref i2) >>= _) _ _ _;have h2₃:mY k h₃:=D2.frame _ _ _ h2 λc hc o e=>hs₃.extBut _ _ (D.z2 c hc).2.1 (hs₂.extBut _ _ (D.z2 c hc).2.2 (hs₁.extBut _ _ (D.z2 c hc).1 e));refine wpAny_bind (D2.done { s with heap:=h₃,toks:=tk₂ } _ _ h2₃ λh₄ e hs₄ he=>?_);obtain⟨oe,u9,hce⟩:=he;replace hs₄:Heap.ExtBut i2 h₃ h₄:=hs₄;have hz₄:IsZip h₄ z TI TO .ellipsis:=hs₄ _ _ D.i2z.symm (hs₃.extBut _ _ D.TOz.symm (hs₂.extBut _ _ D.i1z.symm hz₁));have Ft:e≠z:=λx=>by subst x;rw[hz₄]at u9;cases u9;simp at hce
 refine wpAny_setField_rec hz₄ (by simp) λh₅ _ hs₅=>hE h₅ tk₂ e (λc o c1 c2 c3 c4 x=>hs₅.extBut _ _ c1 (hs₄ _ _ c4 (hs₃.extBut _ _ c2 (hs₂.extBut _ _ c3 (hs₁.extBut _ _ c1 x))))) ⟨oe,hs₅.extBut _ _ Ft u9,hce⟩
def NP{z TI TO i1 i2:Addr}{kB ka:List Addr}{n1 n2 k:Nat}{P1 P2:Nat->Value->Prop}{nP mY:Nat->Heap->Prop}{a b:Value}{Q:Option Value->Shared->Prop}(D:jB z TI TO i1 i2 kB ka)
  (D1:Draws prog w A.in1 i1 kB n1 P1 nP) (D2:Draws prog w A.in1 i2 ka n2 P2 mY)
  (hz:IsZip s.heap z TI TO .none) (hTI:IsPair s.heap TI (.ref i1) (.ref i2)) (hTO:IsPair s.heap TO a b)
  (h1:nP k s.heap) (h2:mY k s.heap) (hk1:k<n1) (hk2:k<n2)
  (hQ:∀x y h' tk,P1 k x->P2 k y->IsZip h' z TI TO (rawInt s.heap.objs.size)->IsPair h' TO x y->nP (k+1) h'->mY (k+1) h'->IsPair h' s.heap.objs.size x y->h'.objs.size=s.heap.objs.size+1 ->
   (∀c o,c≠z->c≠TO->c≠i1->c≠i2->s.heap.get? c=some o->h'.get? c=some o)->Q (some (.ref s.heap.objs.size)) { s with heap:=h',toks:=tk }) :
  wpAny (model prog w) A (pyNext (.ref z)) Q E s:=by
 have hT:s.TypeIs (.ref z) "zip" := ⟨_,hz,rfl⟩;unfold pyNext
 exact wpAny_bind (wpAny_attempt (wpAny_callSpecial?_slot (name:=Str.ofString "__next__") hT F.slot_zip_next
  (wpAny_call_entry F.slot_zip_next hT F.entry_zip_next
   (NL D D1 D2 hz hTI hTO h1 h2 hk1 hk2 λx y h' tk p1 p2 a1 a2 a3 a4 a5 a6 a7=>wpAny_pure (hQ x y h' tk p1 p2 a1 a2 a3 a4 a5 a6 a7)) (F.args_zip_next_1 _))))
def Fu{z TI TO i1 i2:Addr}{kB ka:List Addr}{n1 n2 k:Nat}{P1 P2:Nat->Value->Prop}{nP mY:Nat->Heap->Prop}{a b:Value}{Q:Option Value->Shared->Prop}(D:jB z TI TO i1 i2 kB ka)
  (D1:Draws prog w A.in1 i1 kB n1 P1 nP) (D2:Draws prog w A.in1 i2 ka n2 P2 mY)
  (hz:IsZip s.heap z TI TO .none) (hTI:IsPair s.heap TI (.ref i1) (.ref i2)) (hTO:IsPair s.heap TO a b)
  (h1:nP k s.heap) (h2:mY k s.heap) (hend:k=n1\/(k<n1/\k=n2))
  (hQ:∀h' tk,(∀c o,c≠z->c≠TO->c≠i1->c≠i2->s.heap.get? c=some o->h'.get? c=some o)->Q none { s with heap:=h',toks:=tk }):wpAny (model prog w) A (pyNext (.ref z)) Q E s:=by
 have hT:s.TypeIs (.ref z) "zip" := ⟨_,hz,rfl⟩;unfold pyNext
 refine wpAny_bind (wpAny_attempt (wpAny_callSpecial?_slot (name:=Str.ofString "__next__") hT F.slot_zip_next
  (wpAny_call_entry F.slot_zip_next hT F.entry_zip_next (NM D D1 D2 hz hTI hTO h1 h2 hend λh' tk e hk he=>?_) (F.args_zip_next_1 _))))
 obtain⟨o,ho,hc⟩:=he;refine wpAny_bind (wpAny_isInstance (T:="StopIteration") (b:=true) ⟨o,ho,hc⟩ isSubtype_stop ?_);exact wpAny_pure (hQ _ _ hk)
end
set_option genInjectivity false in
inductive ZS where
 |tup (a:Addr)|lst (a:Addr)|str (x:Str)
abbrev ZS.it(j:Addr)(i:Nat)(h:Heap):ZS->Prop
 |.tup a=>h.IsTupleIter j a i
 |.lst a=>h.IsListIter j a i
 |.str x=>∃t,h.IsStrIter j "str_ascii_iterator" x t i\/h.IsStrIter j "str_iterator" x t i
abbrev ZS.has(K:Zfr)(H:Hp)(i:Nat)(v:V):ZS->Prop
 |.tup a=>∃xs,df K H a xs/\xs[i]?=some v
 |.lst a=>∃xs,fG K H a xs/\xs[i]?=some v
 |.str x=>∃c,x.cps[i]?=some c/\v=.str ⟨#[c]⟩
abbrev ZS.fin(K:Zfr)(H:Hp)(i:Nat):ZS->Prop
 |.tup a=>∃xs,df K H a xs/\xs.length=i
 |.lst a=>∃xs,fG K H a xs/\xs.length=i
 |.str x=>x.cps.size=i
def ZS.it.at{j:Addr}{i:Nat}{h h':Heap}{src:ZS}(t:src.it j i h)(k:∀o,h.get? j=some o->h'.get? j=some o):src.it j i h':=by
 cases src with
 |tup a=>exact Heap.IsTupleIter.at t k
 |lst a=>exact Heap.IsListIter.at t k
 |str x =>
  obtain⟨tk,t⟩:=t;refine⟨tk,?_⟩;rcases t with⟨o,ho,r⟩|⟨o,ho,r⟩
  exact .inl ⟨o,k o ho,r⟩;exact .inr ⟨o,k o ho,r⟩
def ZS.it.obj{j:Addr}{i:Nat}{h:Heap}{src:ZS}(t:src.it j i h):∃o,h.get? j=some o/\(∀v,o.data≠.cell v)/\(∃n,o.cls=.type n/\n≠"tuple" /\ n≠"list" /\ n≠"zip"):=by
 cases src with
 |tup a=>obtain⟨o,e,c,d⟩:=t;exact⟨o,e,(λv z=>by rw[d]at z;cases z),_,c,by decide,by decide,by decide⟩
 |lst a=>obtain⟨o,e,c,d⟩:=t;exact⟨o,e,(λv z=>by rw[d]at z;cases z),_,c,by decide,by decide,by decide⟩
 |str x =>
  obtain⟨tk,t⟩:=t;rcases t with⟨o,e,c,d⟩|⟨o,e,c,d⟩
  exact⟨o,e,(λv z=>by rw[d]at z;cases z),_,c,by decide,by decide,by decide⟩;exact⟨o,e,(λv z=>by rw[d]at z;cases z),_,c,by decide,by decide,by decide⟩
structure ZS.Dr(P:Program)(w:World)(A:Around)(s:Shared)(j:Addr)(i:Nat)(src:ZS)(fp:List Addr)(n:Nat)(R:Value->Prop):Prop where
 ex:∃(Pv:Nat->Value->Prop) (St:Nat->Heap->Prop),Draws P w A j fp n Pv St/\St i s.heap/\(∀u,Pv i u->R u)/\∀h,St (i+1) h->src.it j (i+1) h
 mem:j∈fp
section
variable {X:Cx}{pins:List (Addr×Obj)}{G:St}{H:Hp}{s:Shared}
def Inv.lH{a b:Addr}{xs:List V}(I:Inv X pins G H s)(h:df X.K H a xs)(f:eK X pins H b):a≠b:=by
 intro z;subst z;rcases h with(h|⟨o,h⟩)|⟨o,its,n,hk,_⟩
 rw[f.1]at h;cases h;rw[f.1]at h;cases h;have hb:=I.ok.mod.qY a o hk;rcases f.2.2.2.1 with he|he
 exact I.ok.j3 a o hb he
 have:=Ts hb
 have:=I.ok.mU;exact absurd (TH (TH ‹a<X.base.objs.size› this) he) (UO _)
def Inv.lJ{a b:Addr}{xs:List V}(I:Inv X pins G H s)(h:fG X.K H a xs)(f:eK X pins H b):a≠b:=by
 intro z;subst z;rcases h with(h|⟨o,h⟩)|⟨o,its,n,hk,_⟩
 rw[f.1]at h;cases h;rw[f.1]at h;cases h;have hb:=I.ok.mod.qY a o hk;rcases f.2.2.2.1 with he|he
 exact I.ok.j3 a o hb he
 have:=Ts hb
 have:=I.ok.mU;exact absurd (TH (TH ‹a<X.base.objs.size› this) he) (UO _)
def ZS.drawn{j:Addr}{i:Nat}{src:ZS}{v:V}(I:Inv X pins G H s)(hc:X.calm=true)(t:src.it j i s.heap)(fj:eK X pins H j)(h:src.has X.K H i v):∃fp n,i<n/\ZS.Dr X.prog X.w X.A.in1 s j i src fp n (RelV v)/\∀b,eK X pins H b->b≠j->b ∉ fp:=by
 cases src with
 |tup a =>
  obtain⟨xs,hq,hx⟩:=h;obtain⟨its,rv,p,hz⟩:=I.tuple hq;obtain⟨u,hu,ru⟩:=rv.get hx;have ht:s.heap.IsTuple a its.toArray:=p;have hi:i<its.toArray.size:=by
   obtain⟨q,_⟩:=Ti.mp hu;simpa using q
  refine⟨[j,a],its.toArray.size,hi,⟨⟨_,_,lF (A:=X.A.in1) (I.ok.hd hc) j a (I.lH hq fj) its.toArray,⟨t,ht⟩,λu' h'=>?_,λh hst=>hst.1⟩,by simp⟩,λb fb hb=>?_⟩
  have:its.toArray[i]?=some u:=by simpa using hu
  rw[this]at h';cases h';exact ru
  have:=I.lH hq fb
  simp only[Tp,TR,or_false,not_or];exact⟨hb,λz=>this z.symm⟩
 |lst a =>
  obtain⟨xs,hq,hx⟩:=h;obtain⟨its,rv,p,hz⟩:=I.list hq;obtain⟨u,hu,ru⟩:=rv.get hx;have ht:s.heap.IsList a its.toArray:=p.isList;have hi:i<its.toArray.size:=by
   obtain⟨q,_⟩:=Ti.mp hu;simpa using q
  refine⟨[j,a],its.toArray.size,hi,⟨⟨_,_,Draws.list (A:=X.A.in1) (I.ok.hd hc) j a (I.lJ hq fj) its.toArray,⟨t,ht⟩,λu' h'=>?_,λh hst=>hst.1⟩,by simp⟩,λb fb hb=>?_⟩
  have:its.toArray[i]?=some u:=by simpa using hu
  rw[this]at h';cases h';exact ru
  have:=I.lJ hq fb
  simp only[Tp,TR,or_false,not_or];exact⟨hb,λz=>this z.symm⟩
 |str x =>
  obtain⟨c,hx,rfl⟩:=h;have hi:i<x.cps.size:=(Uh.mp hx).1;obtain⟨tk,t⟩:=t;have hR:∀u,SignAt x i u->RelV (.str ⟨#[c]⟩) u:=λu hu=>by
   obtain⟨c',u',h1,rfl⟩:=hu;rw[hx]at h1;cases h1;exact⟨_,rfl⟩
  rcases t with t|t
  exact⟨[j],x.cps.size,hi,⟨⟨_,_,Draws.strAscii (A:=X.A.in1) (I.ok.hd hc) j x tk,t,hR,λh hst=>⟨tk,.inl hst⟩⟩,by simp⟩,λb fb hb=>by simpa using hb⟩;exact⟨[j],x.cps.size,hi,⟨⟨_,_,Draws.strWide (A:=X.A.in1) (I.ok.hd hc) j x tk,t,hR,λh hst=>⟨tk,.inr hst⟩⟩,by simp⟩,λb fb hb=>by simpa using hb⟩
def ZS.ended{j:Addr}{i:Nat}{src:ZS}(I:Inv X pins G H s)(hc:X.calm=true)(t:src.it j i s.heap)(fj:eK X pins H j)(h:src.fin X.K H i):∃fp,ZS.Dr X.prog X.w X.A.in1 s j i src fp i (λ_=>True)/\∀b,eK X pins H b->b≠j->b ∉ fp:=by
 cases src with
 |tup a =>
  obtain⟨xs,hq,hx⟩:=h;obtain⟨its,rv,p,hz⟩:=I.tuple hq;have ht:s.heap.IsTuple a its.toArray:=p;have hl:=rv.length;have ei:its.toArray.size=i:=by simp;lk
  subst ei;refine⟨[j,a],⟨⟨_,_,lF (A:=X.A.in1) (I.ok.hd hc) j a (I.lH hq fj) its.toArray,⟨t,ht⟩,λ_ _=>trivial,λh hst=>hst.1⟩,by simp⟩,λb fb hb=>?_⟩;have:=I.lH hq fb;simp only[Tp,TR,or_false,not_or];exact⟨hb,λz=>this z.symm⟩
 |lst a =>
  obtain⟨xs,hq,hx⟩:=h;obtain⟨its,rv,p,hz⟩:=I.list hq;have ht:s.heap.IsList a its.toArray:=p.isList;have hl:=rv.length;have ei:its.toArray.size=i:=by simp;lk
  subst ei;refine⟨[j,a],⟨⟨_,_,Draws.list (A:=X.A.in1) (I.ok.hd hc) j a (I.lJ hq fj) its.toArray,⟨t,ht⟩,λ_ _=>trivial,λh hst=>hst.1⟩,by simp⟩,λb fb hb=>?_⟩;have:=I.lJ hq fb;simp only[Tp,TR,or_false,not_or];exact⟨hb,λz=>this z.symm⟩
 |str x =>
  have h:x.cps.size=i:=h;subst h;obtain⟨tk,t⟩:=t;rcases t with t|t
  exact⟨[j],⟨⟨_,_,Draws.strAscii (A:=X.A.in1) (I.ok.hd hc) j x tk,t,λ_ _=>trivial,λh hst=>⟨tk,.inl hst⟩⟩,by simp⟩,λb fb hb=>by simpa using hb⟩;exact⟨[j],⟨⟨_,_,Draws.strWide (A:=X.A.in1) (I.ok.hd hc) j x tk,t,λ_ _=>trivial,λh hst=>⟨tk,.inr hst⟩⟩,by simp⟩,λb fb hb=>by simpa using hb⟩
end
abbrev xT(K:Zfr)(s1 s2:ZS):It :=
 ⟨λi H=>∃x y,s1.has K H i x/\s2.has K H i y,λi H v H'=>∃p x y,v=.ref p/\H p=none/\H'=upd H p (.tup [x,y])/\(∀z,s1.has K H i z->z=x)/\∀z,s2.has K H i z->z=y,λi H=>(s1.fin K H i/\(s2.fin K H i\/∃y,s2.has K H i y))\/((∃x,s1.has K H i x)/\s2.fin K H i)⟩
def ZS.oJ{X:Cx}{pins:List (Addr×Obj)}{G:St}{H:Hp}{s:Shared}{src:ZS}{i:Nat}{x y:V}(I:Inv X pins G H s)(a:src.has X.K H i x)(b:src.has X.K H i y):y=x:=by
 cases src with
 |tup p =>
  obtain⟨xs,h1,e1⟩:=a;obtain⟨ys,h2,e2⟩:=b;rw[I.jz h2 h1]at e2;rw[e1]at e2;exact(Tq e2).symm
 |lst p =>
  obtain⟨xs,h1,e1⟩:=a;obtain⟨ys,h2,e2⟩:=b;rw[I.mr h2 h1]at e2;rw[e1]at e2;exact(Tq e2).symm
 |str z =>
  obtain⟨c,h1,rfl⟩:=a;obtain⟨d,h2,rfl⟩:=b;rw[h1]at h2;cases h2;rfl
def NQ{P:Program}{w:World}{K:Zfr}{es:List Expr}{x1}{pos:Pos}(s1 s2:ZS)(z TI TO i1 i2:Addr)(hd:TI≠z/\TO≠z/\i1≠z/\i2≠z/\TI≠TO/\TO≠i1/\TO≠i2/\i1≠i2/\TI≠i1/\TI≠i2):
  Turn P w K (.Tuple es x1 pos) (xT K s1 s2) [z,TI,TO,i1,i2] z (λi h=>IsZip h z TI TO .none/\IsPair h TI (.ref i1) (.ref i2)/\(∃a b,IsPair h TO a b)/\s1.it i1 i h/\s2.it i2 i h) where
 mem:=by simp
 obj:=λi h st b hb=>by
  obtain⟨hz,hTI,⟨a,c,hTO⟩,h1,h2⟩:=st;have cl:∀{o:Obj} {vs:Array Value},o.data=.fields vs->∀v,o.data≠.cell v:=λd v z=>by rw[d]at z;cases z
  have cs:∀{o:Obj} {vs:Array Value} {n:Nat},o.data=.seq vs n->∀v,o.data≠.cell v:=λd v z=>by rw[d]at z;cases z
  simp only[Tp,TR,or_false]at hb;rcases hb with rfl|rfl|rfl|rfl|rfl
  exact⟨_,hz,cl rfl⟩;exact⟨_,hTI,cs rfl⟩;exact⟨_,hTO,cs rfl⟩;obtain⟨o,e,n,_⟩:=h1.obj;exact⟨o,e,n⟩;obtain⟨o,e,n,_⟩:=h2.obj;exact⟨o,e,n⟩
 keep:=λi h h' st k=>⟨k z (by simp) _ st.1,k TI (by simp) _ st.2.1,let ⟨a,b,e⟩:=st.2.2.1;⟨a,b,k TO (by simp) _ e⟩,st.2.2.2.1.at λo q=>k i1 (by simp) o q,st.2.2.2.2.at λo q=>k i2 (by simp) o q⟩
 item:=by
  intro X hP hw hK hc i pins s G H E I hf st hg;subst hP hw hK;obtain⟨x,y,hx,hy⟩:=hg;obtain⟨hz,hTI,⟨a,b,hTO⟩,h1,h2⟩:=st;have fz:=hf z (by simp);have zy:=hf TO (by simp);have f1:=hf i1 (by simp);have f2:=hf i2 (by simp);obtain⟨kB,n1,k1,⟨⟨P1,S1,D1,st1,r1,NR⟩,tm⟩,jU⟩:=ZS.drawn I hc h1 f1 hx;obtain⟨ka,n2,k2,⟨⟨P2,S2,D2,st2,r2,NS⟩,rE⟩,jC⟩:=ZS.drawn I hc h2 f2 hy;obtain⟨d1,d2,d3,d4,d5,d6,d7,d8,d9,Jk⟩:=hd
  have ap:jB z TI TO i1 i2 kB ka:=⟨d1,d2,d3,d4,d5,d6,d7,d8,tm,rE,
   λc fV=>⟨λe=>jU z fz (Ne.symm d3) (e ▸ fV),λe=>jU TO zy d6 (e ▸ fV),λe=>jU i2 f2 (Ne.symm d8) (e ▸ fV)⟩,
   λc fV=>⟨λe=>jC z fz (Ne.symm d4) (e ▸ fV),λe=>jC TO zy d7 (e ▸ fV),λe=>jC i1 f1 d8 (e ▸ fV)⟩⟩
  refine NP ap D1 D2 hz hTI hTO st1 st2 k1 k2 λu v Jl tk p1 p2 hz' Fv g1 g2 hT hsz kk=>?_;refine⟨_,rfl,wpAny_letOwnedTupleGo_zip hz' λh2' hz2 sb=>?_⟩;replace sb:Heap.SameBut z Jl h2':=sb;have u5:H s.heap.objs.size=none:=I.hok.fresh (Tc _);have ru:=r1 u p1;have rv:=r2 v p2;have I1:Inv X pins G (upd H s.heap.objs.size (.tup [x,y])) { s with heap:=s.heap.push { cls:=.type "tuple",data:=.seq #[u,v] },toks:=s.toks } :=
   I.laid (λb u e=>S9 _ e) (Tc _) ⟨(by decide:2<=sizeLine),[u,v],.cons ru (.cons rv .nil),⟨_,To _ rfl,rfl,rfl,_,rfl⟩⟩
  have hlt:∀c∈[z,TI,TO,i1,i2],@LT.lt Nat _ c s.heap.objs.size:=λc fV=>by
   simp only[Tp,TR,or_false]at fV;rcases fV with rfl|rfl|rfl|rfl|rfl
   exact Ts hz;exact Ts hTI;exact Ts hTO;obtain⟨o,e,_⟩:=h1.obj;exact Ts e;obtain⟨o,e,_⟩:=h2.obj;exact Ts e
  have hn:∀c∈[z,TI,TO,i1,i2],upd H s.heap.objs.size (.tup [x,y]) c=none:=λc fV=>by
   unfold upd;rw[if_neg (T7 (hlt c fV))];exact(hf c fV).1
  have I2:Inv X pins G (upd H s.heap.objs.size (.tup [x,y])) { s with heap:=h2',toks:=tk }:=by
   refine Inv.lG (s:={ s with heap:=s.heap.push { cls:=.type "tuple",data:=.seq #[u,v] },toks:=s.toks }) (h':=h2') I1 (ch:=[z,TI,TO,i1,i2]) (t':=tk) (λc o fV q=>?_) λc fV=>⟨hn c fV,(hf c fV).2⟩;simp only[Tp,TR,or_false,not_or]at fV;obtain⟨Jm,SM,NT,NU,NV⟩:=fV;refine(sb.2 c Jm).trans ?_;rcases Heap.get?_push_cases q with⟨rfl,rfl⟩|q
   exact hT;exact kk c o Jm NT NU NV q
  have up:∀c o,c≠z->Jl.get? c=some o->h2'.get? c=some o:=λc o n e=>(sb.2 c n).trans e;refine⟨.ref s.heap.objs.size,_,I2,rfl,⟨_,x,y,rfl,u5,rfl,λw hw=>ZS.oJ I hx hw,λw hw=>ZS.oJ I hy hw⟩,⟨hz2,?_,⟨u,v,up _ _ d2 Fv⟩,(NR _ g1).at λo q=>up _ o d3 q,(NS _ g2).at λo q=>up _ o d4 q⟩,hn⟩;exact up _ _ d1 (kk _ _ d1 d5 d9 Jk hTI)
 done:=by
  intro X hP hw hK hc i pins s G H E I hf st hg;subst hP hw hK;obtain⟨hz,hTI,⟨a,b,hTO⟩,h1,h2⟩:=st;have fz:=hf z (by simp);have zy:=hf TO (by simp);have f1:=hf i1 (by simp);have f2:=hf i2 (by simp);obtain⟨d1,d2,d3,d4,d5,d6,d7,d8,d9,Jk⟩:=hd;have fin:∀h' tk,(∀c o,c≠z->c≠TO->c≠i1->c≠i2->s.heap.get? c=some o->h'.get? c=some o)->Inv X pins G H { s with heap:=h',toks:=tk }:=λh' tk kk=>by
   refine Inv.lG I (ch:=[z,TO,i1,i2]) (t':=tk) (λc o fV q=>?_) λc fV=>hf c ?_;simp only[Tp,TR,or_false,not_or]at fV;exact kk c o fV.1 fV.2.1 fV.2.2.1 fV.2.2.2 q;simp only[Tp,TR,or_false]at fV ⊢;rcases fV with rfl|rfl|rfl|rfl<;>simp
  have va:∀{kB ka:List Addr},i1∈kB->i2∈ka->(∀b,eK X pins H b->b≠i1->b ∉ kB)->(∀b,eK X pins H b->b≠i2->b ∉ ka)->jB z TI TO i1 i2 kB ka:=λtm rE jU jC=>⟨d1,d2,d3,d4,d5,d6,d7,d8,tm,rE,
   λc fV=>⟨λe=>jU z fz (Ne.symm d3) (e ▸ fV),λe=>jU TO zy d6 (e ▸ fV),λe=>jU i2 f2 (Ne.symm d8) (e ▸ fV)⟩,
   λc fV=>⟨λe=>jC z fz (Ne.symm d4) (e ▸ fV),λe=>jC TO zy d7 (e ▸ fV),λe=>jC i1 f1 d8 (e ▸ fV)⟩⟩
  rcases hg with⟨hx,hy⟩|⟨⟨x,hx⟩,hy⟩
  obtain⟨kB,⟨⟨P1,S1,D1,st1,_,_⟩,tm⟩,jU⟩:=ZS.ended I hc h1 f1 hx;rcases hy with hy|⟨y,hy⟩
  obtain⟨ka,⟨⟨P2,S2,D2,st2,_,_⟩,rE⟩,jC⟩:=ZS.ended I hc h2 f2 hy;exact Fu (va tm rE jU jC) D1 D2 hz hTI hTO st1 st2 (.inl rfl) λh' tk kk=>⟨rfl,fin h' tk kk⟩;obtain⟨ka,n2,k2,⟨⟨P2,S2,D2,st2,_,_⟩,rE⟩,jC⟩:=ZS.drawn I hc h2 f2 hy;exact Fu (va tm rE jU jC) D1 D2 hz hTI hTO st1 st2 (.inl rfl) λh' tk kk=>⟨rfl,fin h' tk kk⟩;obtain⟨kB,n1,k1,⟨⟨P1,S1,D1,st1,_,_⟩,tm⟩,jU⟩:=ZS.drawn I hc h1 f1 hx;obtain⟨ka,⟨⟨P2,S2,D2,st2,_,_⟩,rE⟩,jC⟩:=ZS.ended I hc h2 f2 hy;exact Fu (va tm rE jU jC) D1 D2 hz hTI hTO st1 st2 (.inr ⟨k1,rfl⟩) λh' tk kk=>⟨rfl,fin h' tk kk⟩
 self:=λ_ _ _ _ _ st h=>wpAny_pyIter_zip st.1 h
abbrev ZS.val(K:Zfr)(H:Hp)(x:V):ZS->Prop
 |.tup a=>x=.ref a/\∃xs,df K H a xs
 |.lst a=>x=.ref a/\∃xs,fG K H a xs
 |.str z=>x=.str z
def ZS.iter{X:Cx}{pins:List (Addr×Obj)}{G:St}{H:Hp}{s s':Shared}{src:ZS}{x:V}{u:Value}(I:Inv X pins G H s)(r:RelV x u)(hv:src.val X.K H x)(up:∀c o,s.heap.get? c=some o->s'.heap.get? c=some o):
  ∃o,src.it s'.heap.objs.size 0 (s'.heap.push o)/\∀(prog:Program) (w:World) (A:Around) (E:Value->Shared->Prop) (Q:Value->Shared->Prop),Q (.ref s'.heap.objs.size) { s' with heap:=s'.heap.push o }->wpAny (model prog w) A (pyIter u) Q E s':=by
 cases src with
 |tup a =>
  obtain⟨rfl,xs,hq⟩:=hv;cases r;obtain⟨its,rv,p,hz⟩:=I.tuple hq;obtain⟨o,e,c,n,d⟩:=(show s.heap.IsTuple a its.toArray from p);exact⟨_,⟨_,To _ rfl,rfl,rfl⟩,λprog w A E Q h=>wpAny_pyIter_tuple ⟨o,up _ _ e,c,n,d⟩ h⟩
 |lst a =>
  obtain⟨rfl,xs,hq⟩:=hv;cases r;obtain⟨its,rv,p,hz⟩:=I.list hq;obtain⟨o,e,c,n,d⟩:=p.isList;exact⟨_,⟨_,To _ rfl,rfl,rfl⟩,λprog w A E Q h=>wpAny_pyIter_list ⟨o,up _ _ e,c,n,d⟩ h⟩
 |str z =>
  cases hv;obtain⟨t,rfl⟩:=r;cases ha:z.cps.all (· < 128);exact⟨_,⟨t,.inr ⟨_,To _ rfl,rfl,rfl⟩⟩,λprog w A E Q h=>wpAny_pyIter_wide ha h⟩;exact⟨_,⟨t,.inl ⟨_,To _ rfl,rfl,rfl⟩⟩,λprog w A E Q h=>wpAny_pyIter_ascii ha h⟩
@[reducible]def zz(h:Heap)(o1 o2:Obj):Heap:=((h.push o1).push o2).push { cls:=.type "tuple",data:=.seq #[.ref h.objs.size,.ref (h.push o1).objs.size] }
@[reducible]def C3(h:Heap)(o1 o2:Obj):Heap:=(zz h o1 o2).push { cls:=.type "tuple",data:=.seq #[.none,.none] }
@[reducible]def vb(h:Heap)(o1 o2:Obj):Heap:=(C3 h o1 o2).push { cls:=.type "zip",data:=.fields #[.none,.bool false,.bool false,.ref ((h.push o1).push o2).objs.size,.ref (zz h o1 o2).objs.size] }
def NW(u1 u2:Value)(o1 o2:Obj):
  Meets (Builtin.«zip.__new__» ⟨[.type "zip",u1,u2],[]⟩) (λ_ R s =>
   (∀(prog:Program) (w:World) (A:Around) (E:Value->Shared->Prop) (Q:Value->Shared->Prop),Q (.ref s.heap.objs.size) { s with heap:=s.heap.push o1 }->wpAny (model prog w) A (pyIter u1) Q E s) /\
   (∀(prog:Program) (w:World) (A:Around) (E:Value->Shared->Prop) (Q:Value->Shared->Prop),Q (.ref (s.heap.push o1).objs.size) { s with heap:=(s.heap.push o1).push o2 }->wpAny (model prog w) A (pyIter u2) Q E { s with heap:=s.heap.push o1 }) /\
   R (.ok (.ret (.ref (C3 s.heap o1 o2).objs.size))) { s with heap:=vb s.heap o1 o2 }) :=
 .of_wp λprog w A R s h=>by
  obtain⟨hp,g,d,tk,os⟩:=s;obtain⟨h1,h2,h⟩:=h;have hsub:=sub_zip;have NX:∀{A:Around} {E:Value->Shared->Prop} {Q:Value->Shared->Prop},Q (.ref hp.objs.size) ⟨hp.push o1,g,d,tk,os⟩->wpAny (model prog w) A (pyIter u1) Q E ⟨hp,g,d,tk,os⟩:=λq=>h1 prog w _ _ _ q;have NY:∀{A:Around} {E:Value->Shared->Prop} {Q:Value->Shared->Prop},Q (.ref (hp.push o1).objs.size) ⟨(hp.push o1).push o2,g,d,tk,os⟩->wpAny (model prog w) A (pyIter u2) Q E ⟨hp.push o1,g,d,tk,os⟩:=λq=>h2 prog w _ _ _ q
  wp_walk using NX,NY
  exact⟨_,rfl,h⟩
abbrev zA(K:Zfr)(ta:TA):TI:=λG H R=>ta G H λvs H1=>∃(x y:V) (s1 s2:ZS),vs=[x,y]/\s1.val K H1 x/\s2.val K H1 y/\R (xT K s1 s2) H1
def vd{X:Cx}{es:List Expr}{x1}{p0:Pos}{l l':Expr}{ta:TA}{p pos:Pos}(hg:Gl X "zip")(hm:X.mg "zip" = none)(ha:PA X [l,l'] ta)(hs:starEach [l,l'] X.env=[(false,eval l X.env),(false,eval l' X.env)]:=by rfl)(hs2:starEach [l'] X.env=[(false,eval l' X.env)]:=by rfl):
  PI X (.Tuple es x1 p0) (.Call (.Name "zip" p) [l,l'] [] pos) (zA X.K ta):=by
 intro pins s G H R I h;refine Call_ (xM I hg hm uS (PyProof.Rows.callWith_type1 (bA (ha pos pins s G H _ I h) λus s1 ⟨vs,H1,I1,r1,q1⟩=>?_) (by rw[hs,hs2]) (by rw[hs2];rfl)));obtain⟨x,y,z1,z2,e,hv1,hv2,q⟩:=q1;subst e;cases r1 with
 |cons ru rr =>
  cases rr with
  |cons rv rr =>
   cases rr;obtain⟨o1,t1,NZ⟩:=ZS.iter (s':=s1) I1 ru hv1 λ_ _ e=>e;obtain⟨o2,t2,N0⟩:=ZS.iter (s':={ s1 with heap:=s1.heap.push o1 }) I1 rv hv2 λ_ _ e=>S9 _ e;refine callType_new F.called_zip ∅ (F.typeCall_zip_2 _ _) (F.newCall_zip_2 _ _) (λobj=>F.args_object_init_3 obj _ _) F.entry_zip_new (NW _ _ o1 o2) ⟨NZ,N0,?_⟩;have w1:(s1.heap.push o1).objs.size=s1.heap.objs.size+1:=Up ..;have w2:((s1.heap.push o1).push o2).objs.size=s1.heap.objs.size+2:=by rw[Up,w1]
   have w3:(zz s1.heap o1 o2).objs.size=s1.heap.objs.size+3:=by rw[Up,w2]
   have w4:(C3 s1.heap o1 o2).objs.size=s1.heap.objs.size+4:=by rw[Up,w3]
   have N1:∀c o,s1.heap.get? c=some o->(vb s1.heap o1 o2).get? c=some o:=λc o e=>S9 _ (S9 _ (S9 _ (S9 _ (S9 _ e))));have g5:IsZip (vb s1.heap o1 o2) (C3 s1.heap o1 o2).objs.size ((s1.heap.push o1).push o2).objs.size (zz s1.heap o1 o2).objs.size .none:=To _ rfl;have g4:IsPair (vb s1.heap o1 o2) (zz s1.heap o1 o2).objs.size .none .none:=S9 _ (To _ rfl);have g3:IsPair (vb s1.heap o1 o2) ((s1.heap.push o1).push o2).objs.size (.ref s1.heap.objs.size) (.ref (s1.heap.push o1).objs.size):=S9 _ (S9 _ (To _ rfl));have g2:z2.it (s1.heap.push o1).objs.size 0 (vb s1.heap o1 o2):=t2.at λo e=>S9 _ (S9 _ (S9 _ e));have g1:z1.it s1.heap.objs.size 0 (vb s1.heap o1 o2):=t1.at λo e=>S9 _ (S9 _ (S9 _ (S9 _ e)));refine⟨⟨_,g5,rfl⟩,?_⟩;refine wpAny_pyIter_zip g5 ?_;rw[w1]at g2 g3;rw[w2]at g3 g5;rw[w3]at g4 g5;rw[w4]at g5;have tz:Turn X.prog X.w X.K (.Tuple es x1 p0) (xT X.K z1 z2) [s1.heap.objs.size+4,s1.heap.objs.size+2,s1.heap.objs.size+3,s1.heap.objs.size,s1.heap.objs.size+1] (s1.heap.objs.size+4) (λi h=>IsZip h (s1.heap.objs.size+4) (s1.heap.objs.size+2) (s1.heap.objs.size+3) .none/\IsPair h (s1.heap.objs.size+2) (.ref s1.heap.objs.size) (.ref (s1.heap.objs.size+1))/\(∃a b,IsPair h (s1.heap.objs.size+3) a b)/\z1.it s1.heap.objs.size i h/\z2.it (s1.heap.objs.size+1) i h):=by
    refine NQ z1 z2 _ _ _ _ _ ?_;have ne:∀{m n:Nat},m≠n->∀{a:Nat},a+m≠a+n:=λh a z=>h (Nat.add_left_cancel z);exact⟨ne (m:=2) (n:=4) ∅,ne (m:=3) (n:=4) ∅,ne (m:=0) (n:=4) ∅,ne (m:=1) (n:=4) ∅,ne (m:=2) (n:=3) ∅,ne (m:=3) (n:=0) ∅,ne (m:=3) (n:=1) ∅,ne (m:=0) (n:=1) ∅,ne (m:=2) (n:=0) ∅,ne (m:=2) (n:=1) ∅⟩
   refine⟨_,_,_,_,H1,by rw[w4],I1.kept (t':=s1.toks) N1,tz,⟨g5,g3,⟨_,_,g4⟩,g1,g2⟩,λb hb=>?_,q⟩;have hb':@LE.le Nat _ s1.heap.objs.size b:=by
    simp only[Tp,TR,or_false]at hb;rcases hb with rfl|rfl|rfl|rfl|rfl
    exact UL _ _;exact UL _ _;exact UL _ _;exact Tc _;exact UL _ _
   exact I1.mv hb' (I1.hok.fresh hb')
section
variable {X:Cx}{K:Zfr}
abbrev eD(us:List Value)(ds:List PyData)(dx:PyData)(u:Value):Bool:=@decide (∃(i:Nat) (d:PyData),us[i]?=some u/\ds[i]?=some d/\PyData.eqv d dx=true) (Classical.propDecidable _)
def fH.get:∀{H:Hp} {vs:List V} {ds:List PyData},fH K H vs ds->∀{i:Nat} {v:V},vs[i]?=some v->∃d,ds[i]?=some d/\Rep K H v d
 |_,_,_,.nil,i,v,e=>by simp at e
 |_,_,_,.cons (d:=d) a b,0,v,e=>⟨d,by simp,by have:_=v:=Tq (by simpa using e);rw[<- this];exact a⟩
 |_,_,_,.cons a b,i+1,v,e=>by
  obtain⟨d,e1,r⟩:=fH.get b (i:=i) (by simpa using e);exact⟨d,by simpa using e1,r⟩
def fH.vf:∀{H:Hp} {vs:List V} {ds:List PyData},fH K H vs ds->vs.length=ds.length
 |_,_,_,.nil=>rfl
 |_,_,_,.cons _ r=>by rw[Tf,Tf,fH.vf r]
def Vals.Fw{xs:List V}{us:List Value}(r:Vals xs us){i:Nat}{u:Value}(h:us[i]?=some u):∃v,xs[i]?=some v/\RelV v u:=by have hi:=(Ti.mp h).1;have hl:=r.length;obtain⟨u',hu,ru⟩:=r.get (i:=i) (x:=xs[i]'⋯) (Tj _);rw[h]at hu;cases hu;exact⟨_,Tj _,ru⟩
open Classical in
def tq{pins:List (Addr×Obj)}{G:St}{H:Hp}{s:Shared}{xs:List V}{us:List Value}{ds:List PyData}{x:V}{v:Value}{dx:PyData}(hu:X.A.units+64<cLine)(I:Inv X pins G H s)(r:Vals xs us)(hr:fH X.K H xs ds)(rx:RelV x v)(hx:Rep X.K H x dx)(c1:∀d∈ds,d.canLay0=true)(c2:dx.canLay0=true)(c3:dx.depth<=60):
  ∀u∈us,SeqAt.EqAt X.A.in1 s u v (eD us ds dx u):=by
 intro u hm;obtain⟨bs,rb⟩:=hx.reads I rx;have key:∀(i:Nat) (d:PyData),us[i]?=some u->ds[i]?=some d->SeqAt.EqAt X.A.in1 s u v (PyData.eqv d dx):=λi d h1 h2=>by
  obtain⟨y,hy,ry⟩:=r.Fw h1;obtain⟨d',hd',rd⟩:=hr.get hy;rw[h2]at hd';cases hd';obtain⟨as,ra⟩:=rd.reads I ry;intro prog w E Q q;refine SeqAt.eqBoolOverData prog w X.A.in1 E s u v d dx as bs Q ra rb (c1 _ (TL h2)) c2 ?_ q;have:X.A.in1.units<=X.A.units+2:=by
   first|exact UL _ _|(show X.A.units<=_;lk)|(show X.A.units+1<=_;lk)
  lk
 obtain⟨i,hi⟩:=List.getElem?_of_mem hm;have hl1:=r.length;have hl2:=hr.vf;have hil:=(Ti.mp hi).1;unfold eD;by_cases h:∃(i:Nat) (d:PyData),us[i]?=some u/\ds[i]?=some d/\PyData.eqv d dx=true;rw[decide_eq_true h];obtain⟨j,d,h1,h2,h3⟩:=h;have:=key j d h1 h2
 rwa [h3]at this
 rw[decide_eq_false h];have h2:ds[i]?=some (ds[i]'⋯):=Tj _;have k:=key i _ hi h2;cases hb:PyData.eqv (ds[i]'⋯) dx with
 |true=>exact absurd ⟨i,_,hi,h2,hb⟩ h
 |false=>rwa [hb]at k
open Classical in
def vg{xs:List V}{us:List Value}{ds:List PyData}{dx:PyData}(h1:us.length=ds.length):us.any (eD us ds dx)=ds.any λd=>PyData.eqv d dx:=by rw[UG,VA,VA];constructor;rintro⟨u,hu,h⟩;unfold eD at h;obtain⟨i,d,_,h2,h3⟩:=of_decide_eq_true h;exact⟨d,TL h2,h3⟩;rintro⟨d,hd,h⟩;obtain⟨i,hi⟩:=List.getElem?_of_mem hd;have hil:=(Ti.mp hi).1;refine⟨us[i]'⋯,UK _,?_⟩;unfold eD;exact decide_eq_true ⟨i,d,Tj _,hi,h⟩
abbrev zB(K:Zfr)(neg:Bool):R2:=λx y H Q=>∃p xs ds dx,y=.ref p/\(fG K H p xs\/df K H p xs)/\fH K H xs ds/\Rep K H x dx/\(∀d∈ds,PyData.canLay0 d=true)/\PyData.canLay0 dx=true/\PyData.depth dx<=60/\Q (.bl (if neg then !ds.any (λd=>PyData.eqv d dx)else ds.any λd=>PyData.eqv d dx)) H
def N2(hu:X.A.units+64<cLine):iS X (compareOp .NotIn) (zB X.K true):=by
 intro pins s G H x y v u Q I rx ry h;obtain⟨p,xs,ds,dx,rfl,hq,hr,hx,c1,c2,c3,q⟩:=h;cases ry;have e2:∀{its:List Value},Vals xs its->its.toArray.any (eD its ds dx)=ds.any λd=>PyData.eqv d dx:=λ{its} r=>by
  rw[show its.toArray.any (eD its ds dx)=its.any (eD its ds dx) by simp];exact vg (xs:=xs) (by rw[<- r.length];exact hr.vf)
 rcases hq with hq|hq
 obtain⟨its,r,pl,hz⟩:=I.list hq;refine SeqAt.notIn_listAt (eD its ds dx) pl.isList (λw hw=>tq hu I r hr rx hx c1 c2 c3 w (by simpa using hw)) ⟨.bl _,H,I,rfl,?_⟩;rw[e2 r];exact q;obtain⟨its,r,pl,hz⟩:=I.tuple hq;refine SeqAt.notIn_tupleAt (eD its ds dx) pl (λw hw=>tq hu I r hr rx hx c1 c2 c3 w (by simpa using hw)) ⟨.bl _,H,I,rfl,?_⟩;rw[e2 r];exact q
end
open Builtin.Str
open Builtin
abbrev DU(a:Addr)(xs:List (List Int×Addr×Value)):HO:=.ext λh=>(a == sysModules)=false/\xs.length<=sizeLine/\∃o es ep,h.get? a=some o/\o.ExactDict/\o.data=.dict es ep /\
 (∃(P:Program) (w:World),es.toList=xs.map (entryOfKey (tupleKind (intKind P w))))/\(xs.map (·.1)).Nodup
end L2
namespace L2
open PySem PySem.Spec PyProof.Rows PySem.SeqAt PySem.MeetsSeq
end L2
namespace L2
open PySem PySem.Spec PyProof.Rows PySem.W
section
variable {lt:Nat->Nat->Bool}{n0:Nat}{cmp:Nat->Nat->(Bool->Shared->Prop)->Shared->Prop}{s:Shared}
structure Ord(lt:Nat->Nat->Bool):Prop where
 tr:∀a b c,lt b a=false->lt c b=false->lt c a=false
 as:∀a b,lt a b=true->lt b a=false
abbrev P(p:Array Nat)(i:Nat):Nat:=p.getD i 0
variable (o:Ord lt)(hn:0<n0)(hc:∀i j (C:Bool->Shared->Prop),i<n0->j<n0->C (lt i j) s->cmp i j C s)
include o hn hc
end
end L2
namespace L2
open PySem PySem.Spec PyProof.Rows
end L2
namespace L2
open PySem PySem.Spec PyProof.Rows PySem.W
end L2
namespace L2
open PySem PySem.Spec PyProof.Rows
structure zC(fs:List Addr)(e:Addr)(oe:Obj)(vs:Array Value)(T:Addr)(h h':Heap):Prop where
 exc:∃o ws,h'.get? e=some o/\o.cls=oe.cls/\o.dict=oe.dict/\o.data=.fields ws/\ws.size=vs.size/\ws[1]?=some (.ref T)/\ws[2]?=vs[2]?
 new:h.objs.size<=T
 head:∃o ts,h'.get? T=some o/\o.data=.fields ts/\ts[3]?=some .none
 keep:∀b o,h.get? b=some o->b≠e->vs[1]?≠some (.ref b)->b ∉ fs->h'.get? b=some o
 slot:∀b o,h.get? b=some o->b≠e->vs[1]?≠some (.ref b)->∃sl,h'.get? b=some { o with slots:=sl }
 old:∀b,b≠e->vs[1]?=some (.ref b)->∃o ts,h'.get? b=some o/\o.data=.fields ts/\ts[3]?=some .none
section
variable {M:Model}{A:Around}{E:Value->Shared->Prop}{s:Shared}
def Jn{base:Heap}{env:Env}{outer:List Env}{L e:Addr}{oe:Obj}{vs:Array Value}{hd0:Value}{hn:Bool}{Q:Unit->Shared->Prop}(hfr:A.frames=some (env :: outer))(hl:s.heap.FunFrames base (env :: outer))
  (hf:env.frame=some L) (he:s.heap.get? e=some oe) (hd:oe.data=.fields vs) (hs:1<vs.size)
  (h:∀h' T,(∃o ws,h'.get? e=some o/\o.cls=oe.cls/\o.dict=oe.dict/\o.data=.fields ws/\ws.size=vs.size/\ws[1]?=some (.ref T)/\ws[2]?=vs[2]?)->s.heap.objs.size<=T->(∃o ts,h'.get? T=some o/\o.data=.fields ts/\ts[3]?=some .none) ->
   (∀b o,s.heap.get? b=some o->b≠e->b ∉ frs (env :: outer)->h'.get? b=some o)->(∀b o,s.heap.get? b=some o->b≠e->∃sl,h'.get? b=some { o with slots:=sl })->Q () { s with heap:=h' }) :
  wpAny M A (do let a <- frameOf env;let pl <- entryPlaceOf L hn;let b <- EntryCells.newEntry hd0 a .none (rawInt L) .none pl;setField (.ref e) 1 b) (λ_ s'=>wpAny M A (setFlight (.ref e) none) Q E s') E s:=by
 have ne:e ∉ frs (env :: outer):=λz=>by
  obtain⟨_,o,q,nf⟩:=hl.mem z;rw[he]at q;cases q;exact nf vs hd
 refine wpAny_bind (wpAny_frameOf_fun hfr hl hf λh1 so=>wpAny_bind (wpAny_entryPlaceOf λpl ip=>?_));obtain⟨N3,Jo,N4⟩:=so;have e1:h1.get? e=some oe:=by rw[Jo e ne];exact he
 unfold EntryCells.newEntry newFields;refine wpAny_bind (wpAny_newObj_type ?_ (ip.sizeOk5 _ _ _ _ _));generalize htd:([hd0,Value.ref L,Value.none,rawInt L,Value.none] ++ (if pl.isEmpty then List.replicate 6 Value.none else pl)).toArray=td;have t3:3<td.size:=by
  rw[<- htd];simp only[Tv,Td,Tf,Uj];lk
 generalize hob:({ cls:=.type "traceback",dict:=none,data:=.fields td }:Obj)=ob;have Jp:ob.data=.fields td:=by rw[<- hob]
 have N5:ob.isFreed=false:=by rw[<- hob];rfl
 have e2:=S9 ob e1;refine wpAny_setField e2 hd hs ?_;have nT:h1.objs.size≠e:=UU (Ts e1);have d3:=Obj.data_mapFields hd (·.setIfInBounds 1 (Value.ref h1.objs.size));have e3:=Uc (Obj.mapFields (·.setIfInBounds 1 (Value.ref h1.objs.size))) e2 (Obj.isFreed_of_fields d3);have T3:((h1.push ob).update e (Obj.mapFields (·.setIfInBounds 1 (Value.ref h1.objs.size)))).get? h1.objs.size=some ob:=by
  rw[TY _ _ (Ne.symm nT)];exact To h1 N5
 unfold setFlight;refine wpAny_bind (wpAny_field e3 d3 (x:=.ref h1.objs.size) (by simp[hs]) ?_);rw[if_pos (by simp)];have d4:=Obj.data_mapFields Jp (·.setIfInBounds 3 ((none:Option Addr).elim Value.none λf=>rawInt f));refine wpAny_setField T3 Jp t3 (h _ h1.objs.size ⟨_,_,?_,Obj.cls_mapFields _ _,?_,d3,by simp,by simp[hs],by simp⟩ ?_ ⟨_,_,Uc _ T3 (Obj.isFreed_of_fields d4),d4,?_⟩ (λb o q n1 n2=>?_) λb o q n1=>?_);rw[TY _ _ nT];exact e3;obtain⟨c0,d0,Fx,s0⟩:=oe;cases Fx<;>first|rfl|cases hd
 rw[N3];exact Tc _;simp[t3];have q1:h1.get? b=some o:=by rw[Jo b n2];exact q
 rw[TY _ _ (UU (Ts q1)),TY _ _ (Ne.symm n1)];exact S9 _ q1;obtain⟨sl,q1⟩:=N4 b o q;refine⟨sl,?_⟩;rw[TY _ _ (UU (Ts q1)),TY _ _ (Ne.symm n1)];exact S9 _ q1
def noted{base:Heap}{env:Env}{outer:List Env}{L e:Addr}{oe:Obj}{vs:Array Value}{Q:Unit->Shared->Prop}(hfr:A.frames=some (env :: outer))(hl:s.heap.FunFrames base (env :: outer))(hf:env.frame=some L)
  (he:s.heap.get? e=some oe) (hd:oe.data=.fields vs) (ht:vs[1]?=some .none\/∃T oT ts,vs[1]?=some (.ref T)/\T≠e/\s.heap.get? T=some oT/\oT.data=.fields ts/\ts[3]?=some .none)
  (h:∀h' T,zC (frs (env :: outer)) e oe vs T s.heap h'->Q () { s with heap:=h' }):wpAny M A (noteFrame (.ref e) env) (λ_ s'=>wpAny M A (setFlight (.ref e) none) Q E s') E s:=by
 unfold noteFrame;simp only[hf];rcases ht with h1|⟨T0,oT,ts,h1,nT,hT,dT,h3⟩
 refine wpAny_bind (wpAny_field he hd h1 ?_);rw[if_neg ∅];refine Jn hfr hl hf he hd (Uh.mp h1).1 λh' T a1 a2 a3 a4 a5=>h h' T ⟨a1,a2,a3,λb o q n1 _ n3=>a4 b o q n1 n3,λb o q n1 _=>a5 b o q n1,λb _ z=>by rw[h1]at z;cases z⟩;refine wpAny_bind (wpAny_field he hd h1 ?_);rw[if_pos (by simp)];refine wpAny_bind (wpAny_field hT dT h3 ?_);rw[if_neg (by simp[rawInt])];refine wpAny_bind (wpAny_setField hT dT (Uh.mp h3).1 ?_);have d2:=Obj.data_mapFields dT (·.setIfInBounds 3 Value.none);have T2:=Uc (Obj.mapFields (·.setIfInBounds 3 Value.none)) hT (Obj.isFreed_of_fields d2);have mx:∀b,b≠T0->(s.heap.update T0 (Obj.mapFields (·.setIfInBounds 3 Value.none))).get? b=s.heap.get? b:=λb n=>TY _ _ (Ne.symm n);have rec':∀b o,s.heap.get? b=some o->(∀ws,o.data≠.fields ws)->b≠T0:=λb o q n z=>by rw[z,hT]at q;cases q;exact n ts dT
 have N6:(ts.setIfInBounds 3 Value.none)[3]?=some .none:=by simp[(Uh.mp h3).1]
 have N7:T0 ∉ frs (env :: outer):=λz=>by
  obtain⟨_,o,q,nf⟩:=hl.mem z;rw[hT]at q;cases q;exact nf ts dT
 refine Jn hfr (hl.of_keeps λb o q n=>⟨o,by rw[mx b (rec' b o q n)];exact q,rfl⟩) hf (by rw[mx e (Ne.symm nT)];exact he) hd (Uh.mp h1).1 λh' T a1 a2 a3 a4 a5=>h h' T ⟨a1,?_,a3,λb o q n1 n2 n3=>?_,λb o q n1 n2=>?_,λb n1 z=>?_⟩;have z:=a2;dsimp only at z;rw[Heap.size_after_update]at z;exact z;have nb:b≠T0:=λz=>n2 (by rw[z];exact h1);exact a4 b o (by dsimp only;rw[mx b nb];exact q) n1 n3;have nb:b≠T0:=λz=>n2 (by rw[z];exact h1);exact a5 b o (by dsimp only;rw[mx b nb];exact q) n1;rw[h1]at z;cases z;exact⟨_,_,a4 T0 _ T2 n1 N7,d2,N6⟩
end
abbrev vh:Option Addr->Value
 |none=>.none
 |some T=>.ref T
@[reducible]def Tr:=Option Addr×Bool
abbrev XO(a C:Addr)(dx:Option Addr)(tr:Tr):HO:=.ext λh=>∃o vs,h.get? a=some o/\o.cls=.ref C/\o.dict=dx/\o.data=.fields vs/\vs[1]?=some (vh tr.1)/\(tr.2=true->vs[2]?=some .none/\4<vs.size)
abbrev XT(T:Addr):HO:=.ext λh=>∃o ts,h.get? T=some o/\o.data=.fields ts/\ts[3]?=some .none
abbrev Exc(H:Hp)(a C:Addr)(dx:Option Addr):Prop:=∃tr,H a=some (XO a C dx tr)/\∀T,tr.1=some T->T≠a/\H T=some (XT T)
abbrev XS(a:Addr)(H H':Hp):Prop:=(∃C dx tr t',H a=some (XO a C dx tr)/\H' a=some (XO a C dx (t',tr.2)))/\∀b,b≠a->∀o,H b=some o->H' b=some o
section
variable {P:Program}{w:World}{H H' H2:Hp}{h h':Heap}{a C T:Addr}{dx:Option Addr}{tr:Tr}{o:HO}
def XO.ok(e:∃o vs,h.get? a=some o/\o.cls=.ref C/\o.dict=dx/\o.data=.fields vs/\vs[1]?=some (vh tr.1)/\(tr.2=true->vs[2]?=some .none/\4<vs.size)):bz P w H h a (XO a C dx tr) :=
 ⟨e,let ⟨o,_,q,_⟩:=e;⟨o,q⟩,λh1 h2 ⟨o,vs,q,r⟩ k=>⟨o,vs,k o q,r⟩⟩
def XT.ok(e:∃o ts,h.get? T=some o/\o.data=.fields ts/\ts[3]?=some .none):bz P w H h T (XT T) :=
 ⟨e,let ⟨o,_,q,_⟩:=e;⟨o,q⟩,λh1 h2 ⟨o,vs,q,r⟩ k=>⟨o,vs,k o q,r⟩⟩
def XO.of(ok:jd P w H h)(e:H a=some (XO a C dx tr)):∃o vs,h.get? a=some o/\o.cls=.ref C/\o.dict=dx/\o.data=.fields vs/\vs[1]?=some (vh tr.1)/\(tr.2=true->vs[2]?=some .none/\4<vs.size):=(ok a _ e).1
def XT.of(ok:jd P w H h)(e:H T=some (XT T)):∃o ts,h.get? T=some o/\o.data=.fields ts/\ts[3]?=some .none:=(ok T _ e).1
def bz.there(x:bz P w H h a o):∃ob,h.get? a=some ob:=by
 cases o with
 |lst xs=>obtain⟨_,_,_,_,e⟩:=x;exact⟨_,e⟩
 |tup xs=>obtain⟨_,_,_,_,e,_⟩:=x;exact⟨_,e⟩
 |dK kvs=>obtain⟨_,_,_,_,o,_,_,e,_⟩:=x;exact⟨_,e⟩
 |dT kvs=>obtain⟨_,_,_,_,o,_,_,e,_⟩:=x;exact⟨_,e⟩
 |set S n=>obtain⟨o,_,_,_,e,_⟩:=x;exact⟨_,e⟩
 |ins C dx fs=>obtain⟨_,_,_,e,_⟩:=x;exact⟨_,e⟩
 |own y=>obtain⟨_,e⟩:=x;exact⟨_,e⟩
 |xd fs=>obtain⟨_,⟨_,_,_,e,_⟩,_⟩:=x;exact⟨_,e⟩
 |fR lo hi=>obtain⟨_,_,_,e⟩:=x;exact⟨_,e⟩
 |kM ob u=>obtain⟨e,_⟩:=x;exact⟨_,e⟩
 |sA ps=>exact⟨_,(show h.get? a=some _ from x)⟩
 |met f y=>exact⟨_,(show h.get? a=some _ from x)⟩
 |ext z=>obtain⟨_,e,_⟩:=x;exact e
def jd.none_of(ok:jd P w H h)(e:h.get? a=none):H a=none:=by
 cases q:H a with
 |none=>rfl
 |some o=>obtain⟨ob,z⟩:=(ok a o q).there;rw[e]at z;cases z
def XO.rF{C':Addr}{nQ:Option Addr}{qh:Tr}(e:XO a C dx tr=XO a C' nQ qh):C=C'/\dx=nQ/\(qh.2=true->tr.2=true):=by
 have q:(λh:Heap=>∃o vs,h.get? a=some o/\o.cls=.ref C/\o.dict=dx/\o.data=.fields vs/\vs[1]?=some (vh tr.1)/\(tr.2=true->vs[2]?=some .none/\4<vs.size))=(λh:Heap=>∃o vs,h.get? a=some o/\o.cls=.ref C'/\o.dict=nQ/\o.data=.fields vs/\vs[1]?=some (vh qh.1)/\(qh.2=true->vs[2]?=some .none/\4<vs.size)):=by
  unfold XO at e;injection e
 let ob (v:Value):Obj:={ cls:=.ref C,dict:=dx,data:=.fields #[.none,vh tr.1,v,.none,.none,.none] }
 let h0 (v:Value):Heap:={ objs:=Array.replicate (a+1) (ob v) }
 have e0 (v:Value):(h0 v).get? a=some (ob v):=by
  refine Heap.get?_some_iff.mpr ⟨?_,rfl⟩;simp[h0]
 have z:=(congrFun q (h0 .none)).mp ⟨ob .none,_,e0 .none,rfl,rfl,rfl,rfl,λ_=>⟨rfl,by simp⟩⟩;obtain⟨o',vs,e1,e2,e3,_⟩:=z;rw[e0]at e1;cases e1;refine⟨Value.ref.inj e2,e3,λht=>?_⟩;cases hb:tr.2 with
 |true=>rfl
 |false =>
  have z:=(congrFun q (h0 (.ref 0))).mp ⟨ob (.ref 0),_,e0 _,rfl,rfl,rfl,rfl,λy=>by rw[hb]at y;cases y⟩;obtain⟨o',vs,e1,_,_,e4,_,e5⟩:=z;rw[e0]at e1;cases e1;cases e4;have:=(e5 ht).1;cases this
def XO.inj{C':Addr}{nQ:Option Addr}{qh:Tr}(e:XO a C dx tr=XO a C' nQ qh):C=C'/\dx=nQ:=⟨(XO.rF e).1,(XO.rF e).2.1⟩
def XO.same{C':Addr}{nQ:Option Addr}{qh:Tr}(e:XO a C dx tr=XO a C' nQ qh):tr.2=qh.2:=by have h1:=(XO.rF e).2.2;have h2:=(XO.rF e.symm).2.2;cases h:tr.2<;>cases h':qh.2;rfl;rw[h1 h']at h;cases h;rw[h2 h]at h';cases h';rfl
def XS.trans(x:XS a H H')(y:XS a H' H2):XS a H H2:=by obtain⟨⟨C,dx,tr,SN,e1,e2⟩,k⟩:=x;obtain⟨⟨C',nQ,N8,N9,e3,e4⟩,k'⟩:=y;rw[e2]at e3;have ef:=XO.same (Tq e3);obtain⟨rfl,rfl⟩:=XO.inj (Tq e3);rw[<- ef]at e4;exact⟨⟨C,dx,tr,N9,e1,e4⟩,λb n o q=>k' b n o (k b n o q)⟩
end
section
variable {X:Cx}{pins:List (Addr×Obj)}{G:St}{H:Hp}{s:Shared}{a C:Addr}{dx:Option Addr}
def Inv.noted{A:Around}{E:Value->Shared->Prop}{Q:Unit->Shared->Prop}(I:Inv X pins G H s)(hst:X.stack=X.env :: X.outer)(hf:X.env.frame=some X.env.locals)(hA:A.frames=some X.stack)(x:Exc H a C dx)
  (h:∀h' H',XS a H H'->Exc H' a C dx->Inv X pins G H' { s with heap:=h' }->Q () { s with heap:=h' }) :
  wpAny (model X.prog X.w) A (noteFrame (.ref a) X.env) (λ_ s'=>wpAny (model X.prog X.w) A (setFlight (.ref a) none) Q E s') E s:=by
 obtain⟨⟨tr,kb⟩,ea,et⟩:=x;obtain⟨oe,vs,he,hc,hdx,hd,h1,h2⟩:=XO.of I.hok ea;have zD:∀b,H b=none->vs[1]?≠some (.ref b):=λb nb z=>by
  rw[h1]at z;cases tr with
  |none=>cases z
  |some T=>cases z;rw[(et _ rfl).2]at nb;cases nb
 have rG:∀b,H b=none->b≠a:=λb nb z=>by rw[z,ea]at nb;cases nb
 refine L2.noted (by rw[hA,hst]) (hst ▸ I.stack) hf he hd ?_ λh' T N=>?_;cases tr with
 |none=>exact .inl h1
 |some T=>obtain⟨oT,ts,q1,q2,q3⟩:=XT.of I.hok (et T rfl).2;exact .inr ⟨T,oT,ts,h1,(et T rfl).1,q1,q2,q3⟩
 have HT:H T=none:=I.hok.fresh N.new;have Ta:T≠a:=rG T HT;have gT:∀b o,s.heap.get? b=some o->b≠T:=λb o q=>T7 (TH (Ts q) N.new)
 let H':Hp:=upd (upd H a (XO a C dx (some T,kb))) T (XT T)
 have Hb:∀b,b≠a->∀o,H b=some o->H' b=some o:=λb n o q=>by
  show upd (upd H a _) T _ b=_;rw[b8 (λz=>by rw[z,HT]at q;cases q),b8 n];exact q
 have Ha:H' a=some (XO a C dx (some T,kb)):=by
  show upd (upd H a _) T _ a=_;rw[b8 (Ne.symm Ta),h8]
 have Jq:H' T=some (XT T):=h8;have Hn:∀b o,s.heap.get? b=some o->H b=none->H' b=none:=λb o q n=>by
  show upd (upd H a _) T _ b=_;rw[b8 (gT b o q),b8 (rG b n)];exact n
 have xs:XS a H H':=⟨⟨C,dx,(tr,kb),some T,ea,Ha⟩,Hb⟩;have pd:∀b u,H b=some u->(∀φ,u≠.ext φ)->b≠a:=λb u q n z=>by rw[z,ea]at q;cases q;exact n _ rfl
 have un:Un (frs X.stack) [] H H' s.heap h':=by
  rw[hst]
  refine⟨λb o q n1 n2 _=>N.keep b o q (rG b n1) (zD b n1) n2,λb o q n1 _ _=>N.slot b o q (rG b n1) (zD b n1),λb o q n _=>Hn b o q n,λb o q _=>?_,
   λb xs q=>Hb b (pd b _ q λφ z=>nomatch z) _ q,λb o u q=>Hb b (pd b _ q λφ z=>nomatch z) _ q,λb ps q=>⟨#[],by rw[UE];exact Hb b (pd b _ q λφ z=>nomatch z) _ q⟩⟩
  by_cases n1:b=a;subst n1;obtain⟨o',_,q',_⟩:=N.exc;exact⟨o',q'⟩;by_cases n2:vs[1]?=some (.ref b);obtain⟨o',_,q',_⟩:=N.old b n1 n2;exact⟨o',q'⟩;obtain⟨sl,q'⟩:=N.slot b o q n1 n2;exact⟨_,q'⟩
 have hok:jd X.prog X.w H' h':=λb u q=>by
  by_cases n0:b=T;subst n0;rw[Jq]at q;cases q;exact XT.ok N.head;by_cases n1:b=a;subst n1;rw[Ha]at q;cases q;obtain⟨o',ws,p1,p2,p3,p4,p5,p6,p7⟩:=N.exc;exact XO.ok ⟨o',ws,p1,by rw[p2];exact hc,by rw[p3];exact hdx,p4,p6,λz=>⟨by rw[p7];exact(h2 z).1,by rw[p5];exact(h2 z).2⟩⟩;have qb:H b=some u:=by
   have z:upd (upd H a (XO a C dx (some T,kb))) T (XT T) b=some u:=q;rw[b8 n0,b8 n1]at z;exact z
  by_cases n2:vs[1]?=some (.ref b);rw[h1]at n2;cases tr with
  |none=>cases n2
  |some T0 =>
   cases n2;rw[(et b rfl).2]at qb;cases qb;exact XT.ok (N.old b n1 h1)
  have Jr:∀c v,H c=some v->c ∉ frs X.stack:=λc v z y=>by rw[I.lz c y]at z;cases z
  refine(I.hok b u qb).stay (λc v hc' r=>?_) (λc r=>Hb c (pd c _ r λφ z=>nomatch z) _ r) λc xs r=>Hb c (pd c _ r λφ z=>nomatch z) _ r;rcases hc' with rfl|hc'
  exact N.keep c v r n1 n2 (hst ▸ Jr c u qb);refine N.keep c v r (pd c _ hc' λφ z=>nomatch z) (λz=>?_) (hst ▸ Jr c _ hc');rw[h1]at z;cases tr with
  |none=>cases z
  |some T0=>cases z;rw[(et c rfl).2]at hc';cases hc'
 exact h h' H' xs ⟨(some T,kb),Ha,λT' e=>by cases e;exact⟨Ta,Jq⟩⟩ (I.call (ch:=[]) un hok I.bare λb z=>absurd z (by simp))
abbrev kc(P:Program)(w:World):kO:=λouter H s E e s'=>∃a C dx H',e=.ref a/\s'.os=s.os/\AllBare s'.gens/\Un (frs outer) [] H H' s.heap s'.heap/\jd P w H' s'.heap/\Exc H' a C dx/\∀vi,XS a H' vi->E (.ref a) none vi
end
section
variable {P:Program}{w:World}{K:Zfr}{mg:Str->Option Value}{base:Heap}{N:List Str}{qual:Str}{scope:Scope}{f:Addr}{cd:Value}{A:Around}{outer:List Env}{s0:Shared}{H0:Hp}{E:XK}
def leave{pins:List (Addr×Obj)}{G:St}{H:Hp}{s:Shared}{a C:Addr}{dx:Option Addr}(I:Inv (dS (kc P w) P w K mg base N qual scope f cd A outer s0 H0 E) pins G H s)(x:Exc H a C dx)(h:∀vi,XS a H vi->E (.ref a) none vi):
  (dS (kc P w) P w K mg base N qual scope f cd A outer s0 H0 E).xe (.ref a) s:=by
 show wpAny _ _ («leaving» _ (.ref a)) _ _ s;unfold «leaving»;refine wpAny_bind (Inv.noted I rfl rfl I.ok.frames x λh' H' xs x' I'=>?_);exact⟨a,C,dx,H',rfl,I'.os,I'.bare,I'.base,I'.hok,x',λvi y=>h vi (xs.trans y)⟩
def zE:Passes (kc P w) (dS (kc P w) P w K mg base N qual scope f cd A outer s0 H0 E) E:=by rintro pins G H s e s' I ⟨a,C,dx,H',rfl,os,bare,un,hok,x,h⟩;exact leave (I.pN os un hok bare λb z=>absurd z (by simp)) x h
end
structure Oa(K:Zfr)(mg:Str->Option Value)(x:Str)(C:Addr)(bmB:List Value)(newId:String):Prop where
 m:mg x=some (.ref C)
 k:PySem.W.excIn K C bmB newId=true
section
open PySem.W
def Ob{K:Frag}{h:Heap}{C:Addr}{bmB:List Value}{newId:String}(X:K.In h)(q:excIn K C bmB newId=true):
  ∃bm N nm qn bs hdct sn sub ab col dd k0 k1 k2 k3 k5 mN,h.get? C=some (excClassObj nm qn C N bs bm hdct sn sub ab col dd k0 k1 k2 k3 k5 newId)/\h.Ns N mN/\mN "__init__" = none/\OwnTail h bmB bm:=by
 unfold excIn at q;split at q
 ·next dd cd sl ho =>
  split at q
  ·next C' bm k0 k1 k2 k3 n k5 hm hs =>
   simp only[Tz,beq_iff_eq,Vr]at q;obtain⟨⟨⟨⟨⟨e1,e2⟩,e3⟩,e4⟩,e5⟩,e6⟩:=q;subst e1 e2;obtain⟨nm,bs,mro,ns,qn,hd,sn,sub,ab,col,del⟩:=cd;obtain⟨l⟩:=sl;dsimp only at hm hs e3 e5 e6;subst hm e3 hs;exact⟨bm,ns,nm,qn,bs,hd,sn,sub,ab,col,dd,k0,k1,k2,k3,k5,_,X _ _ ho,.of_isNs (isNs_of_in X e5),nsMap_none_of_in X e5 e6,tail_of_in X e4⟩
  ·cases q
 ·cases q
end
section
variable {X:Cx}{pins:List (Addr×Obj)}{G:St}{H:Hp}{s:Shared}{a C:Addr}{dx:Option Addr}
def Inv.zF{h':Heap}{o:HO}(I:Inv X pins G H s)(kp:∀b u,s.heap.get? b=some u->h'.get? b=some u)(hn:s.heap.get? a=none)(new:bz X.prog X.w (upd H a o) h' a o):Inv X pins G (upd H a o) { s with heap:=h' }:=by
 have Ha:H a=none:=I.hok.none_of hn;have ne:∀b u,H b=some u->b≠a:=λb u q=>ur q Ha;have up:∀b u,H b=some u->upd H a o b=some u:=λb u q=>by rw[b8 (ne b u q)];exact q
 have hok:jd X.prog X.w (upd H a o) h':=λb u q=>by
  by_cases hb:b=a;subst hb;rw[h8]at q;cases q;exact new;rw[b8 hb]at q;exact(I.hok b u q).stay (λc v _ r=>kp c v r) (λc r=>up c _ r) λc xs r=>up c _ r
 have un:Un (frs X.stack) [] H (upd H a o) s.heap h' :=
  ⟨λb u q _ _ _=>kp b u q,λb u q _ _ _=>⟨u.slots,kp b u q⟩,λb u q n _=>by rw[b8 (λz=>by rw[z,hn]at q;cases q)];exact n,λb u q _=>⟨u,kp b u q⟩,λb xs q=>up b _ q,λb x y q=>up b _ q,λb ps q=>⟨#[],by rw[UE];exact up b _ q⟩⟩
 exact I.call (ch:=[]) un hok I.bare λb z=>absurd z (by simp)
def Inv.flight{M:Model}{A:Around}{E:Value->Shared->Prop}{Q:Unit->Shared->Prop}(I:Inv X pins G H s)(x:Exc H a C dx)(h:∀h',Inv X pins G H { s with heap:=h' }->Q () { s with heap:=h' }):wpAny M A (setFlight (.ref a) none) Q E s:=by
 obtain⟨⟨tr,kb⟩,ea,et⟩:=x;obtain⟨oe,vs,he,hc,hdx,hd,h1,h2⟩:=XO.of I.hok ea;cases tr with
 |none =>
  unfold setFlight;refine wpAny_bind (wpAny_field he hd h1 ?_);exact wpAny_pure (h s.heap I)
 |some T =>
  obtain⟨Ta,eT⟩:=et T rfl;obtain⟨oT,ts,q1,q2,q3⟩:=XT.of I.hok eT;have lt:3<ts.size:=(Uh.mp q3).1;have d2:=Obj.data_mapFields q2 (·.setIfInBounds 3 Value.none);have T2:=Uc (Obj.mapFields (·.setIfInBounds 3 Value.none)) q1 (Obj.isFreed_of_fields d2);have mx:∀b u,b≠T->s.heap.get? b=some u->(s.heap.update T (Obj.mapFields (·.setIfInBounds 3 Value.none))).get? b=some u:=λb u n q=>by rw[TY _ _ (Ne.symm n)];exact q
  have nT:∀b,H b=none->b≠T:=λb n z=>by rw[z,eT]at n;cases n
  refine wpAny_setFlight_none he hd h1 q1 q2 lt (h _ (I.call (ch:=[]) ⟨λb u q n _ _=>mx b u (nT b n) q,λb u q n _ _=>⟨u.slots,mx b u (nT b n) q⟩,λb u q n _=>n,λb u q _=>?_,λ_ _ q=>q,λ_ _ _ q=>q,λb ps q=>⟨#[],by rw[UE];exact q⟩⟩ ?_ I.bare λb z=>absurd z (by simp)));by_cases z:b=T;subst z;exact⟨_,T2⟩;exact⟨u,mx b u z q⟩;intro b u q;by_cases z:b=T;subst z;rw[eT]at q;cases q;exact XT.ok ⟨_,_,T2,d2,by simp[lt]⟩;refine(I.hok b u q).stay (λc v hc' r=>mx c v ?_ r) (λc r=>r) λc xs r=>r;rcases hc' with rfl|hc'
  exact z;rintro rfl;rw[eT]at hc';cases hc'
end
def Oc{M:Model}{A:Around}{E:Value->Shared->Prop}{s:Shared}{K:Zfr}{a C F:Addr}{oe:Obj}{bmB:List Value}{newId:String}{Q:Bool->Shared->Prop}(X:K.In s.heap)(he:s.heap.get? a=some oe)(hc:oe.cls=.ref C)
  (hF:PySem.W.excIn K F bmB newId=true) (hb:bmB.contains (.type "BaseException")=true) (hm:PySem.W.mroIn K C (.ref F)=some true) (hq:Q true s):wpAny M A (excMatches (.ref a) (.ref F)) Q E s:=by
 obtain⟨bm,NN,nm,qn,bs,hdct,sn,sub,ab,col,dd,k0,k1,k2,k3,k5,mN,hC,hN,hni,T⟩:=Ob X hF;have L:=PySem.W.looks_mroIn (M:=M) X hm;obtain⟨h,g,d,t,os⟩:=s;have Fy:(Value.ref F :: bm).contains (.type "BaseException")=true:=by rw[U0,T.hasType hb,Bool.or_true]
 have f:=tc_notTuple;unfold excMatches
 repeat (first|(with_reducible refine wpAny_loadPart_at he ?_;rw[hc])|with_reducible refine wpAny_loadPart_at hC ?_|(with_reducible refine wpAny_isSubtype_exc hC ?_;rw[Fy])|wp_step)
 refine L.at ?_;rw[if_pos rfl]
 wp_walk
 exact hq
@[reducible]def Cx.tr(X:Cx)(pins:List (Addr×Obj))(W:St->Addr->Hp->Prop):Cx :=
 { X with pn:=X.pn ++ pins,xe:=λe s=>∃G H a C dx,e=.ref a/\Inv X pins G H s/\Exc H a C dx/\∀H2,XS a H H2->W G a H2 }
@[reducible]def Cx.held(X:Cx)(a:Addr):Cx:={ X with A:=X.A.mark (some (.ref a)),calm:=false,xe:=λ_ _=>False }
section
variable {X:Cx}{pins:List (Addr×Obj)}{G:St}{H:Hp}{s:Shared}{W:St->Addr->Hp->Prop}{a:Addr}
def Cx.Ok.tr(ok:X.Ok):(X.tr pins W).Ok:=⟨ok.mod,ok.kind,ok.glob,ok.blt,ok.above,ok.inj,ok.has,ok.qZ,ok.hd,ok.frames,ok.stk,ok.xK,ok.bs,ok.mU,ok.j3,ok.mq,ok.ia,ok.pC⟩
def Cx.Ok.iU(ok:(X.tr pins W).Ok):X.Ok:=⟨ok.mod,ok.kind,ok.glob,ok.blt,ok.above,ok.inj,ok.has,ok.qZ,ok.hd,ok.frames,ok.stk,ok.xK,ok.bs,ok.mU,ok.j3,ok.mq,ok.ia,ok.pC⟩
def Inv.tr(I:Inv X pins G H s):Inv (X.tr pins W) [] G H s:=⟨I.ok.tr,I.os,I.bare,I.base,I.loc,I.cell,I.free,I.dR,λp hp=>I.pin p (by rw[T5]at hp;exact hp),I.hok,I.len⟩
def Inv.iU{jG:List (Addr×Obj)}(I:Inv (X.tr pins W) jG G H s):Inv X pins G H s:=⟨I.ok.iU,I.os,I.bare,I.base,I.loc,I.cell,I.free,I.dR,λp hp=>I.pin p (Ui _ hp),I.hok,I.len⟩
def SP.iU{jG:List (Addr×Obj)}{D:Ends}{f:Flow}{s':Shared}(h:SP (X.tr pins W) jG D f s'):SP X pins D f s':=by
 cases f with
 |next=>obtain⟨G',H',I,q⟩:=h;exact⟨G',H',I.iU,q⟩
 |brk=>obtain⟨G',H',I,q⟩:=h;exact⟨G',H',I.iU,q⟩
 |cont=>obtain⟨G',H',I,q⟩:=h;exact⟨G',H',I.iU,q⟩
 |ret u=>obtain⟨v,G',H',I,r,q⟩:=h;exact⟨v,G',H',I.iU,r,q⟩
def Cx.Ok.held(ok:X.Ok):(X.held a).Ok:=⟨ok.mod,ok.kind,ok.glob,ok.blt,ok.above,ok.inj,ok.has,ok.qZ,λz=>(by cases z),ok.frames,ok.stk,ok.xK,ok.bs,ok.mU,ok.j3,ok.mq,ok.ia,ok.pC⟩
def Inv.held(I:Inv X pins G H s):Inv (X.held a) pins G H s:=⟨I.ok.held,I.os,I.bare,I.base,I.loc,I.cell,I.free,I.dR,I.pin,I.hok,I.len⟩
def Inv.fW(ok:X.Ok)(I:Inv (X.held a) pins G H s):Inv X pins G H s:=⟨ok,I.os,I.bare,I.base,I.loc,I.cell,I.free,I.dR,I.pin,I.hok,I.len⟩
def Inv.unbind{M:Model}{A:Around}{E:Value->Shared->Prop}{i:Nat}{n:Str}{pos:Pos}{Q:Unit->Shared->Prop}(I:Inv X pins G H s)(hN:X.N.Nodup)(hi:X.N[i]?=some n)(hk:X.env.scope.names.lookup n=some .local)
  (h:∀s',Inv X pins (G.set i none) H s'->Q () s'):wpAny M A (do bindName X.env n .none;unbindBehindTheSuite X.env n pos) Q E s:=by
 obtain⟨m,hn,hl⟩:=id I.loc;have hcls:(X.env.scope.kind == .class || (X.env.scope.kind == .module && X.env.locals != X.env.globals))=false:=by rw[I.ok.kind];rfl
 have pM:=I.pM;refine wpAny_nameGoes_keeps hk hn hcls λh' v hn' hs=>h _ ?_;have low:∀b o,X.s₀.heap.get? b=some o->b≠X.env.locals:=λb o e=>T7 (TH (Ts e) I.ok.above);have up:∀b o,b≠X.env.locals->s.heap.get? b=some o->h'.get? b=some o:=λb o n q=>(hs.2 b n).trans q;refine⟨I.ok,I.os,I.bare,⟨λb o e n hb hx=>up b o (low b o e) (I.base.keep b o e n hb hx),λb o e n hb hx=>?_,I.base.free,λb o e hx=>?_,I.base.tups,I.base.kF,I.base.lr⟩,⟨_,hn',λj y v' e1 e2 e3=>?_⟩,λy c e=>?_,I.free,I.dR,λp hp=>?_,λb ob e=>?_,by simpa using I.len⟩;obtain⟨sl,e1⟩:=I.base.slot b o e n hb hx;exact⟨sl,up b _ (low b o e) e1⟩;obtain⟨o',e1⟩:=I.base.there b o e hx;exact⟨o',up b _ (low b o e) e1⟩;have hj:j≠i:=λz=>by
  subst z;by_cases hl':j<G.length;rw[TB hl']at e2;cases e2;rw[List.getElem?_eq_none (by rw[T8];lk)]at e2;cases e2
 rw[TQ (Ne.symm hj)]at e2;obtain⟨u',r',q⟩:=hl j y v' e1 e2 e3;refine⟨u',r',?_⟩;have yn:y≠n:=λz=>hj (Ey hN e1 (z ▸ hi));rcases q with⟨k,e⟩|⟨k,c,e,z⟩
 exact .inl ⟨k,by simp[yn,e]⟩;exact .inr ⟨k,c,e,z.sameBut hs (pM y c e)⟩;obtain⟨w',z⟩:=I.cell y c e;exact⟨w',z.sameBut hs (pM y c e)⟩;obtain⟨e,n',ne,nf,d⟩:=I.pin p hp;exact⟨up _ _ ne e,n',ne,nf,d⟩;refine(I.hok b ob e).stay (λc w' hc q=>up c w' ?_ q) (λ_ q=>q) λ_ _ q=>q;rintro rfl;rcases hc with rfl|hc
 rw[I.free]at e;cases e;rw[I.free]at hc;cases hc
end
abbrev zG(K:Zfr)(tb:(St->Addr->Hp->Prop)->TS)(F:Addr)(i:Nat)(ts:TS):TS:=λD G H =>
 tb (λG1 a H1=>∃C dx tr,H1 a=some (XO a C dx tr)/\PySem.W.mroIn K C (.ref F)=some true /\
  ts { nx:=λG2 H2=>D.nx (G2.set i none) H2,bk:=λG2 H2=>D.bk (G2.set i none) H2,ct:=λG2 H2=>D.ct (G2.set i none) H2,rt:=D.rt } (G1.set i (some (.ref a))) H1) D G H
section
variable {X:Cx}{i:Nat}{x n:Str}{F:Addr}{bmB:List Value}{newId:String}{tb:(St->Addr->Hp->Prop)->TS}{ts:TS}{body suite:List Stmt}{b0:Stmt}{np hpos pos:Pos}
def vj(ec:Oa X.K X.mg x F bmB newId)(Fz:bmB.contains (.type "BaseException")=true)(hg:Gl X x)(hN:X.N.Nodup)(hi:X.N[i]?=some n)(hk:X.env.scope.names.lookup n=some .local)(hb:∀pins W,kN (X.tr pins W) body (tb W))(FA:∀a,kN (X.held a) (b0 :: suite) ts)
  (hst:X.stack=X.env :: X.outer:=by rfl) (hf:X.env.frame=some X.env.locals:=by rfl) (hdb:(x == ("__debug__" : Str))=false:=by decide) :
  PS X (.Try body [.ExceptHandler (some (.Name x np)) (some n) (b0 :: suite) hpos] [] [] pos) (zG X.K tb F i ts):=by
 intro pins s G H D I h;refine wpAny_Try_except (wpAny_mono (hb pins _ [] s G H D I.tr h) (λf s1 q=>?_) λe s1 q=>?_)
 ·cases f with
  |next=>exact wpAny_pure q.iU
  |brk=>exact q.iU
  |cont=>exact q.iU
  |ret u=>exact q.iU
 ·obtain⟨G1,H1,a,C,dx,rfl,I1,x1,w1⟩:=q
  refine Inv.noted I1 hst hf I1.ok.frames x1 λh2 H2 xs x2 I2=>?_;obtain⟨C',nQ,tr,e2,hm,q2⟩:=w1 H2 xs;obtain⟨oe,vs,he,hc,_⟩:=XO.of I2.hok e2;refine wpAny_handleBy_cons (codeAny_handlers_test (ux (X:=X.held a) I2.held hg ec.m ?_ hdb)) (by intro z;cases z);refine Oc I2.j4 he hc ec.k Fz hm ?_;refine codeAny_handlers_suite_as (Inv.flight I2 x2 λh3 I3=>yz (X:=X.held a) (v:=.ref a) I3.held hN hi (.inl hk) rfl (λs4 I4=>?_) (.inr hk));refine wpAny_mono (FA a pins s4 _ H2 _ I4 q2) (λf s5 q5=>?_) λ_ _ z=>z.elim;cases f with
  |next=>obtain⟨G6,H6,I6,q6⟩:=q5;exact Inv.unbind (I6.fW I.ok) hN hi hk λs7 I7=>⟨_,H6,I7,q6⟩
  |brk=>obtain⟨G6,H6,I6,q6⟩:=q5;exact Inv.unbind (I6.fW I.ok) hN hi hk λs7 I7=>⟨_,H6,I7,q6⟩
  |cont=>obtain⟨G6,H6,I6,q6⟩:=q5;exact Inv.unbind (I6.fW I.ok) hN hi hk λs7 I7=>⟨_,H6,I7,q6⟩
  |ret u=>obtain⟨v,G6,H6,I6,r6,q6⟩:=q5;exact Inv.unbind (I6.fW I.ok) hN hi hk λs7 I7=>⟨v,_,H6,I7,r6,q6⟩
end
abbrev nR(sp:Sp)(W:St->Addr->Hp->Prop)(t:TA):TE:=λG H Q=>t G H λvs H1=>sp vs H1 Q λu _ H2=>∃a,u=.ref a/\W G a H2
section
variable {X:Cx}{k:Nat}{f:Addr}{fd:FuncData}{ps:List Str}{sp:Sp}{x:Str}{p pos:Pos}{e:Expr}{es:List Expr}{t:TA}{pins:List (Addr×Obj)}{W:St->Addr->Hp->Prop}
def Js(F:aN X.prog X.w X.K X.mg X.base (kc X.prog X.w) k f fd ps sp)(hr:cq k X.A)(hg:Gl X x)(hm:X.mg x=some (.ref f))(hk:PySem.W.keepIn X.K (.ref f)=true)(hb:Binds X.K fd ps [])
  (ha:PA (X.tr pins W) (e :: es) t) (hdb:(x == ("__debug__" : Str))=false:=by decide) (he:starEach (e :: es) X.env=(false,eval e X.env) :: starEach es X.env:=by rfl) (hpl:(backTo pos (starEach es X.env)).any (·.1)=false:=by rfl) :
  PE (X.tr pins W) (.Call (.Name x p) (e :: es) [] pos) (nR sp W t):=by
 intro jG s G H Q I h;refine wpAny_Call_Name_kw (ux I hg hm ?_ hdb);refine PySem.W.callWith_K (h₀:=X.base) I.ok.mod.qY hk (bA (ha pos jG s G H _ I h) λus s1 ⟨vs,H1,I1,r,q⟩=>⟨I1.j4,?_⟩) he hpl;have hl:us.length=ps.length:=by rw[<- r.length];exact F.len _ _ _ _ q
 have hbd:=hb s1 us I1.j4 (by rw[T5];exact hl);rw[T5]at hbd;refine wpAny_call (codeAny_mono (F.run X.A X.stack s1 H1 ⟨us,[]⟩ us vs Q _ hr I1.rn hbd r q) λr s' hq=>?_);cases r with
 |error e =>
  obtain⟨a,C,dx,H',rfl,os,bare,un,hok,x,hw⟩:=hq;refine⟨G,H',a,C,dx,rfl,(I1.pN os un hok bare λb z=>absurd z (by simp)).iU,x,λH2 y=>?_⟩;obtain⟨a',ea,w⟩:=hw H2 y;cases ea;exact w
 |ok fl =>
  cases fl with
  |ret u=>exact I1.after hq
  |next=>exact False.elim hq
  |brk=>exact False.elim hq
  |cont=>exact False.elim hq
end
end L2
namespace L2
open PySem PySem.Spec PyProof.Rows PySem.W
structure my(K:Frag)(C:Addr):Prop where
 ga:findIn K (.ref C) "__getattribute__" = some (some (.builtin "BaseException.__getattribute__"))
 gt:findIn K (.ref C) "__getattr__" = some none
 hd:hasDictIn K C=true
 bx:mroIn K C (.type "BaseException")=some true
 ob:mroIn K C (.type "object")=some true
 cl:findIn K (.ref C) "__class__" = some (some (.builtin "object.__class__"))
 gs:specialIn K (.builtin "object.__class__") "__get__" = some (some (.builtin "getset_descriptor.__get__"))
 tk:takesIn K (.builtin "object.__class__")=some true
section
variable {prog:Program}{w:World}{A:Around}{E:Value->Shared->Prop}{s:Shared}{K:Frag}{a C:Addr}{ox:Obj}{odo:Option Obj}{name:Str}
def Od{M:Model}{nv:Value}{Q:Unit->Shared->Prop}(X:K.In s.heap)(I:InstAt s.heap a ox C odo)(e:my K C)(hq:Q () s):wpAny M A (checkBuiltinCall "BaseException.__getattribute__" ⟨[.ref a,nv],[]⟩) Q E s:=by
 have hk:builtinKind "BaseException.__getattribute__" = some .slot:=by decide +kernel
 have hsplit:splitId "BaseException.__getattribute__" = some ("BaseException","__getattribute__"):=by decide +kernel
 have ha:=F.args_bexc_ga (.ref a) nv;have LT:=I.type (M:=M);have LB:=looks_mroIn (M:=M) X e.bx;obtain⟨h,g,d,t,os⟩:=s;simp only[checkBuiltinCall,hk,hsplit];refine wpAny_bind ?_;unfold isInstance;refine wpAny_bind (LT.at (LB.at ?_))
 repeat (first|assumption|wp_step)
def Jt{tk:Tok}{fill expr:Bool}{Q:Value->Shared->Prop}(X:K.In s.heap)(I:InstAt s.heap a ox C odo)(e:my K C)
  (h:∀A' (R:Fin->Shared->Prop) E',(∀v s',handedOut v=pure v->Q v s'->R (.done (.ret v)) s')->wpAny (model prog w) A' (Builtin.«object.__getattribute__» ⟨[.ref a,.str name tk],[]⟩) R E' s) :
  wpAny (model prog w) A (getAttrBy (.ref a) (.str name tk) fill expr) Q E s:=by
 have f3:=F.attrBase_ValueError.ga.bind (.ref a);have LT:=I.type (M:=model prog w);have L1:=looks_findIn (M:=model prog w) X e.ga;have L2:=looks_findIn (M:=model prog w) X e.gt;have SO:(expr && onTheHeap (Value.builtin "BaseException.__getattribute__"))=false:=by cases expr<;>rfl
 have Oe:(Value.builtin "BaseException.__getattribute__" == Value.builtin "object.__getattribute__")=false:=by decide +kernel
 have SQ:(onTheHeap (Value.ref C) && Value.builtin "BaseException.__getattribute__" == Value.builtin "object.__getattribute__")=false:=by rw[Oe];rfl
 obtain⟨hh,g,d,t,os⟩:=s;unfold getAttrBy
 repeat (any_goals (first|assumption|with_reducible refine LT.at ?_|with_reducible refine L1.at ?_|with_reducible refine L2.at ?_|wp_step))
 refine codeAny_call_builtin F.attrBase_ValueError.ga.plain F.entry_bexc_ga (Od X I e ?_);refine h _ _ _ λv s' hv q=>?_;dsimp only;rw[hv];exact wpAny_pure q
def Og{tk:Tok}{v:Value}{R:Fin->Shared->Prop}(X:K.In s.heap)(I:InstAt s.heap a ox C odo)(hf:findObj K C odo name=some (.value v))(h:R (.done (.ret v)) s):
  wpAny (model prog w) A (Builtin.«object.__getattribute__» ⟨[.ref a,.str name tk],[]⟩) R E s:=by
 have LT:=I.type (M:=model prog w);have LF:=looks_find (M:=model prog w) X I hf;obtain⟨hh,g,d,t,os⟩:=s
 repeat (any_goals (first|assumption|with_reducible refine LT.at ?_|with_reducible refine LF.at ?_|wp_step))
def Oh{v:Value}{expr:Bool}{Q:Value->Shared->Prop}(X:K.In s.heap)(I:InstAt s.heap a ox C odo)(e:my K C)(hf:findObj K C odo name=some (.value v))(hv:handedOut v=pure v)(h:Q v { s with toks:=s.toks+1 }):
  wpAny (model prog w) A (getAttr (.ref a) name expr) Q E s:=by
 obtain⟨hh,g,d,t,os⟩:=s;unfold getAttr
 repeat (any_goals (first|assumption|with_reducible refine Jt (s:=⟨hh,g,d,t+1,os⟩) X I e (λA' R E' k=>Og (s:=⟨hh,g,d,t+1,os⟩) X I hf (k _ _ hv ?_))|wp_step))
def Oi{tk:Tok}{R:Fin->Shared->Prop}(X:K.In s.heap)(I:InstAt s.heap a ox C odo)(e:my K C)(h:R (.done (.ret (.ref C))) s):
  wpAny (model prog w) A (Builtin.«object.__getattribute__» ⟨[.ref a,.str "__class__" tk],[]⟩) R E s:=by
 have LT:=I.type (M:=model prog w);have hf:findObj K C odo "__class__" = some (.bind (.builtin "getset_descriptor.__get__") (.builtin "object.__class__")):=by
  obtain⟨cd,hc,_⟩:=any_some e.hd;unfold findObj;rw[hc,Ul,e.cl,Ul];simp[e.gs,e.tk]
 have LF:=looks_find (M:=model prog w) X I hf;obtain⟨hh,g,d,t,os⟩:=s
 repeat (any_goals (first|assumption|with_reducible refine LT.at ?_|with_reducible refine LF.at ?_|wp_step))
 exact class_get (s:=⟨hh,g,d,t,os⟩) X I e.ob (wpAny_pure h)
def Oj{Q:Option Value->Shared->Prop}(X:K.In s.heap)(I:InstAt s.heap a ox C odo)(e:my K C)(h:Q (some (.ref C)) { s with toks:=s.toks+1 }):wpAny (model prog w) A (getAttr? (.ref a) "__class__") Q E s:=by
 obtain⟨hh,g,d,t,os⟩:=s;unfold getAttr? getAttrBy?
 repeat (any_goals (first|assumption|with_reducible refine Jt (s:=⟨hh,g,d,t+1,os⟩) X I e (λA' R E' k=>Oi (s:=⟨hh,g,d,t+1,os⟩) X I e (k _ _ rfl ?_))|wp_step))
def Ju(e:my K C):KitX K (.ref a) (.ref C) (λh=>∃ox odo,InstAt h a ox C odo) where
 ty:=λ_ _ _ ⟨_,_,I⟩=>I.type
 it:=λ_ _ X _=>by
  obtain⟨cd,hc,_⟩:=any_some e.hd;unfold clsIn at hc;split at hc
  ·next c' d' Ol Eu ho =>
   intro A' Q' E' s' k q;unfold isType loadHead;exact wpAny_bind (wpAny_loadPart (k _ _ (X _ _ ho)) (wpAny_pure q))
  ·cases hc
 ne:=λh tp dd its n sl X htp=>by
  obtain⟨cd,hc,_⟩:=any_some e.hd;refine Bool.eq_false_iff.mpr λq=>?_;have z:C=tp:=Value.ref.inj (beq_iff_eq.mp q);subst z;unfold clsIn at hc;split at hc
  ·next c' d' Ol Eu ho =>
   have z:=(X _ _ ho).symm.trans htp;cases z
  ·cases hc
 ca:=λX ⟨_,_,I⟩ k=>Oj X I e k
end
def Om{P:Program}{w:World}{H:Hp}{h:Heap}{a C:Addr}{dx:Option Addr}{tr:Tr}(ok:jd P w H h)(ea:H a=some (XO a C dx tr))(hd:∀d,dx=some d->∃fs,H d=some (.xd fs)):∃ox odo,InstAt h a ox C odo:=by
 obtain⟨o,vs,he,hc,hdx,hdt,_⟩:=XO.of ok ea;have nc:notCls o=true:=by unfold notCls;rw[hdt]
 cases dx with
 |none=>exact⟨o,none,he,hc,nc,by rw[hdx];trivial⟩
 |some d =>
  obtain⟨fs,ed⟩:=hd d rfl;obtain⟨mA,⟨od,es,ep,e1,_⟩,_⟩:=(show bz P w H h d (.xd fs)from ok d _ ed);exact⟨o,some od,he,hc,nc,by rw[hdx];exact e1⟩
inductive kd(K:Frag)(mg:Str->Option Value):Str->Value->V->Prop where
 |own {x:Str} {C:Addr}:mg x=some (.ref C)->kd K mg x (.ref C) (.ref C)
 |blt {x:Str} {n:String}:mg x=none->bootBuiltins x=some (.type n)->x≠"__name__" -> kd K mg x (.type n) (.ty n)
section
variable {X:Cx}{x:Str}{c:Value}{v:V}{p pos:Pos}{e:Expr}{te:TE}{b:Bool}
def tu(h:kd X.K X.mg x c v)(hg:Gl X x)(hdb:(x == ("__debug__" : Str))=false:=by decide):PE X (.Name x p) (tC v):=by
 cases h with
 |own m=>exact HK hg m rfl hdb
 |blt m b n=>exact Mu hg m b rfl n hdb
end
abbrev rH:V->Option Value
 |.ref a=>some (.ref a)
 |.ty n=>some (.type n)
 |_=>none
abbrev mz:List V->Option (List Value)
 |[]=>some []
 |v :: r=>match rH v,mz r with
  |some c,some cs=>some (c :: cs)
  |_,_=>none
def Jv{v:V}{c u:Value}(h:rH v=some c)(r:RelV v u):u=c:=by cases v<;>first|(cases h;exact r)|cases h
def Jw:∀{vs:List V} {cs us:List Value},mz vs=some cs->Vals vs us->us=cs
 |_,_,_,h,.nil=>by cases h;rfl
 |v :: r,cs,_,h,.cons a b=>by
  unfold mz at h;split at h
  ·next c cs' e1 e2=>cases h;rw[Jv e1 a,Jw e2 b]
  ·cases h
abbrev vk(K:Frag):List V->Hp->VK->Prop:=λxs H Q=>∃a C dx tr v b,xs=[.ref a,v]/\H a=some (XO a C dx tr)/\(∀d,dx=some d->∃fs,H d=some (.xd fs))/\my K C /\
 ((∃c,rH v=some c/\kitOne K (.ref C) c=some b)\/∃p vs cs,v=.ref p/\H p=some (.tup vs)/\mz vs=some cs/\kitAny K (.ref C) cs=some b)/\Q (.bl b) H
def FC{X:Cx}:dg X (.builtin "isinstance") (vk X.K):=by
 intro pins s G H xs us Q I r h;obtain⟨a,C,dx,tr,v,b,rfl,ea,hd,ei,hc,q⟩:=h;obtain⟨u,u',rfl,ru,Jx⟩:=vals2 r;cases(show u=Value.ref a from ru);have J:=Om I.hok ea hd;rcases hc with⟨c,e1,e2⟩|⟨p,vs,cs,rfl,hp,e1,e2⟩
 rw[Jv e1 Jx];exact kia_one (Ju ei) I.j4 J e2 (λz=>nomatch z) λtk=>⟨.bl b,H,I.tok tk,rfl,q⟩;cases(show u'=Value.ref p from Jx);obtain⟨_,its,rv,o,h1,h2,h3,n,h4⟩:=(show bz X.prog X.w H s.heap p (.tup vs)from I.hok p _ hp);have ec:=Jw e1 rv;subst ec;obtain⟨oc,od,Jy,osl⟩:=o;cases h2;cases h4;exact kia_tup (Ju ei) I.j4 J h1 e2 (λz=>nomatch z) λtk=>⟨.bl b,H,I.tok tk,rfl,q⟩
def mX.zH{P:Program}{w:World}{K:Frag}{mg:Str->Option Value}{base:Heap}{x qual:Str}{st:Stmt}{f:Addr}{fd:FuncData}{N ps:List Str}{k:Nat}{sp:Sp}(F:mX K x qual st f fd)(S:aG N ps (aw st))(len:∀vs H Q E,sp vs H Q E->vs.length=ps.length)
  (hbody:∀(cdv:Value) (A:Around) (outer:List Env) (s:Shared) (H:Hp) (vs:List V) (Q:VK) (E:XK),cq k (A.deeper (envOfC qual (aw st) s.heap.objs.size f cdv))->sp vs H Q E ->
   ∃t,kN (dS (kc P w) P w K mg base N qual (aw st) f cdv A outer s H E) (cR st) t/\t { nx:=λ_ H'=>Q .non H',rt:=Q } (start N vs) H):aN P w K mg base (kc P w) (k+1) f fd ps sp:=by
 obtain⟨oc,od,kV,doc,pm,an,cdv,ct,osl,rfl,lk,hcd⟩:=F.ex;exact sS lk hcd S len λA outer s H vs Q E hr mw=>hbody cdv A outer s H vs Q E hr mw
end L2
namespace L2
open PySem PySem.Spec PyProof.Rows
section
variable {X:Cx}{body:List Stmt}{h₀:ExceptHandler}{hs:List ExceptHandler}{pos:Pos}{t:TS}
abbrev qi:V->List V->Hp->VK->Prop:=λx vs H Q=>∃a b:Str,x=.str a/\vs=[.str b]/\(b.length == 0)=false/\a.length<=sizeLine/\(Txt.split a b).length<=sizeLine/\∀l,H l=none->Q (.ref l) (upd H l (.lst ((Txt.split a b).map V.str)))
def Jz:∀(xs:List Str) (tk:Nat),Vals (xs.map V.str) (strsFrom tk xs)
 |[],_=>.nil
 |x :: r,tk=>.cons ⟨_,rfl⟩ (Jz r (tk+1))
def xU:EU X "str.split" qi:=by
 intro pins s G H x vs v us Q I rx rv h;obtain⟨a,b,rfl,rfl,hb,ha,hz,q⟩:=h;obtain⟨t,rfl⟩:=rx;obtain⟨u,rfl,ru⟩:=rv.one;obtain⟨t2,rfl⟩:=ru;have fin:∀(xs:List Str) (us:List Value) (k:Nat),Txt.split a b=xs->Vals (xs.map V.str) us->EP X pins G Q (.ref s.heap.objs.size) { s with heap:=s.heap.push { cls:=.type "list",data:=.seq us.toArray },toks:=k }:=λxs us k e rv=>by
  have hf:H s.heap.objs.size=none:=I.hok.fresh (Tc _);rw[e]at q hz;refine⟨.ref s.heap.objs.size,_,I.laid (t':=k) (o:=.lst (xs.map V.str)) (λb u e=>S9 _ e) (Tc _) ?_,rfl,q _ hf⟩;exact⟨by rw[S8];exact hz,us,0,rv,To _ rfl⟩
 cases h1:(decide (a.length<b.length) || decide (Builtin.Str.strKind a<Builtin.Str.strKind b))with
 |true =>
  refine call_meets F.slot_str_split (typeIs_str s a t) F.entry_str_split (F.args_str_split_2 _ _) (meets_str_split_cannot_occur a b t t2 h1) ?_;exact fin [a] _ s.toks (by unfold Txt.split;rw[if_pos h1]) (.cons ⟨_,rfl⟩ .nil)
 |false =>
  cases hf:(Builtin.Str.occurrences a b 0 a.length (a.length+1)).isEmpty with
  |true =>
   refine call_meets F.slot_str_split (typeIs_str s a t) F.entry_str_split (F.args_str_split_2 _ _) (meets_str_split_not_found a b t t2 h1 hb hf) ?_;exact fin [a] _ s.toks (by unfold Txt.split;rw[if_neg (by rw[h1];exact Tb),if_pos hf]) (.cons ⟨_,rfl⟩ .nil)
  |false =>
   have e:Txt.split a b=Builtin.Str.partsBetween a (Builtin.Str.occurrences a b 0 a.length (a.length+1)) b.length:=by
    unfold Txt.split;rw[if_neg (by rw[h1];exact Tb),if_neg (by rw[hf];exact Tb)]
   refine call_meets F.slot_str_split (typeIs_str s a t) F.entry_str_split (F.args_str_split_2 _ _) (meets_str_split_sep a b t t2 h1 hb hf ha (by rw[<- e];exact hz)) ?_;exact fin _ _ _ e (Jz _ _)
abbrev oK(K:Zfr):V->List V->Hp->VK->Prop:=λx vs H Q=>∃(a:Addr) (ts:List Str) (v:Str),x=.ref a/\vs=[.str v]/\fG K H a (ts.map V.str)/\v∈ts/\ts.length<=2000/\Q (.int (ts.idxOf v:Int)) H
abbrev FD(v:Str):Value->Bool
 |.str a _=>a == v
 |_=>false
def Oo:y8 X "list.index" (oK X.K):=by
 intro pins s G H x xs v us Q I rx rv h;obtain⟨a,ts,y,rfl,rfl,hq,hm,hl,q⟩:=h;cases rx;obtain⟨u,rfl,t,rfl⟩:=vals1 rv;obtain⟨its,r,pl,hz⟩:=I.list hq;obtain⟨l,rfl,e2⟩:=Fq r;have qM:l.length=ts.length:=by rw[<- e2,S8]
 have hj:ts.idxOf y<ts.length:=List.idxOf_lt_length_iff.mpr hm;have at':∀m (hm:m<(strValues l).toArray.size),∃tk,(strValues l).toArray[m]=.str (ts[m]'(by simpa[strValues,qM]using hm)) tk:=λm hm=>by
  have hm2:m<l.length:=by simpa[strValues]using hm
  refine⟨l[m].2,?_⟩;subst e2;simp[strValues]
 obtain⟨⟨c,dd,dt,sl⟩,e,hc,n,hdt⟩:=pl.isList;cases(show c=.type "list" from hc);cases(show dt=.seq (strValues l).toArray n from hdt);have hsz:(strValues l).toArray.size=ts.length:=by simp[strValues,qM]
 refine call_meets F.slot_list_index ⟨_,e,rfl⟩ F.entry_list_index (F.args_list_index_2 _ _) (PySem.SeqAt.list_indexAt a (strValues l).toArray n dd sl (.str y t) (FD y) (ts.idxOf y) (by rw[hsz];exact hj) ⋯ ?_ λm hm Oq=>?_) ⟨e,λz hz=>?_,⟨.int _,H,I.tok _,⟨_,rfl⟩,q⟩⟩;obtain⟨tk,e3⟩:=at' (ts.idxOf y) (by rw[hsz];exact hj);rw[e3];show(ts[ts.idxOf y] == y)=true;rw[List.getElem_idxOf hj];exact beq_self_eq_true y;obtain⟨tk,e3⟩:=at' m hm;rw[e3];show(ts[m] == y)=false;have:=List.not_of_lt_findIdx (p:=λz=>z == y) (xs:=ts) (i:=m) Oq;simpa using this;obtain⟨m,hm,rfl⟩:=Array.getElem_of_mem hz;obtain⟨tk,e3⟩:=at' m hm;rw[e3];exact PySem.SeqAt.EqAt.str_str _ _ _ _
end
open Builtin
end L2
namespace L2
open PySem PySem.Spec PyProof.Rows
section
variable {X:Cx}{K:Zfr}
def Ot:dg X (.type "int") (λxs H Q=>∃(x:Str) (n:Int),xs=[.str x]/\PySem.intText? x=some n/\x.length<=640/\Q (.int n) H):=by intro pins s G H xs us Q I r h;obtain⟨x,n,rfl,hn,hl,q⟩:=h;obtain⟨u,rfl,t,rfl⟩:=vals1 r;exact PySem.W.KIN.call_text hn hl ⟨.int n,H,I.tok _,⟨_,rfl⟩,q⟩
abbrev zI:V->Option Int->Option Int->Hp->VK->Prop:=λx lo hi H Q=>∃z:Str,x=.str z/\z.length<=sizeLine/\Q (.str (Txt.slice z lo hi)) H
def C4:yX X zI:=by
 intro pins s G H x v vl vu lo hi sl Q I rx hs pl pu h;obtain⟨z,rfl,hz,q⟩:=h;obtain⟨t,rfl⟩:=rx;refine⟨"str",_,F.slot_str_getitem.lookup,typeIs_str _ _ _,?_⟩;have fin:∀(t':Tok) (k:Nat),EP X pins G Q (.str (Txt.slice z lo hi) t') { s with toks:=k }:=λt' k=>⟨.str _,H,I.tok _,⟨_,rfl⟩,q⟩;obtain⟨o,ho,hc,hd⟩:=hs;cases pl with
 |none =>
  cases pu with
  |none=>exact wpAny_getItem_str_slice (l:=none) (u:=none) (st:=none) ⟨o,ho,hc,hd⟩ rfl (post_val_or_str ⟨TF (Txt.slice_le z _ _) hz,fin⟩)
  |int j u=>exact wpAny_getItem_str_slice (l:=none) (u:=some (j,u)) (st:=none) ⟨o,ho,hc,hd⟩ rfl (post_val_or_str ⟨TF (Txt.slice_le z _ _) hz,fin⟩)
 |int i w =>
  cases pu with
  |none=>exact wpAny_getItem_str_slice (l:=some (i,w)) (u:=none) (st:=none) ⟨o,ho,hc,hd⟩ rfl (post_val_or_str ⟨TF (Txt.slice_le z _ _) hz,fin⟩)
  |int j u=>exact wpAny_getItem_str_slice (l:=some (i,w)) (u:=some (j,u)) (st:=none) ⟨o,ho,hc,hd⟩ rfl (post_val_or_str ⟨TF (Txt.slice_le z _ _) hz,fin⟩)
def FE(z:Str)(lo hi:Option Int):Txt.slice z lo hi=StrLaws.sliceText z lo hi:=rfl
end
end L2
namespace L2
open PySem PySem.Spec PyProof.Rows PySem.W PySem.Builtin PySem.Builtin.ObjectAttr
abbrev Ou:List Value:=[.type "ValueError",.type "Exception",.type "BaseException",.type "object"]
abbrev oM:List Value->Bool
 |[]=>false
 |v :: r=>(v :: r) == Ou || (match v with|.ref _=>oM r|_=>false)
def JA(self:Value):∀{l:List Value},oM l=true->refuseLoop self "__setattr__" l=pure ()/\l.contains (.type "object")=true
 |[],e=>by cases e
 |v :: r,e=>by
  unfold oM at e;rcases Bool.or_eq_true_iff.mp e with e|e
  ·rw[beq_iff_eq.mp e];exact⟨PySem.F.store_ValueError.passes self,by decide +kernel⟩
  ·split at e
   ·next c =>
    obtain⟨h1,h2⟩:=JA self (l:=r) e;exact⟨by rw[refuseLoop_ref];exact h1,by rw[U0,h2,Bool.or_true]⟩
   ·cases e
structure nS(K:Frag)(C:Addr):Prop where
 sa:findIn K (.ref C) "__setattr__" = some (some (.builtin "object.__setattr__"))
 hd:hasDictIn K C=true
 po:(clsIn K C).any (λcd=>oM cd.mro)=true
section
variable {prog:Program}{w:World}{A:Around}{E:Value->Shared->Prop}{s:Shared}{K:Frag}{a C:Addr}{ox:Obj}{odo:Option Obj}{name:Str}{v:Value}
def JB{R:Result->Shared->Prop}{tk:Tok}(X:K.In s.heap)(I:InstAt s.heap a ox C odo)(e:nS K C)(ht:takerIn K C name=some none)
  (h:∀b,wpAny (model prog w) A.in1 (storeInOwnDict (.ref a) (.ref C) (.str name tk) name v b)
   (λfin s'=>match fin with|.done f=>R (.ok f) s'|.again c'=>c'.quiet=true/\codeAny (model prog w) A c' R s') (λe s'=>R (.error e) s') s) :
  codeAny (model prog w) A (.call (.builtin "object.__setattr__") ⟨[.ref a,.str name tk,v],[]⟩) R s:=by
 have SF:=PySem.F.store_object;obtain⟨cd,hc,ho⟩:=any_some e.po;obtain⟨o1,o2⟩:=JA (.ref a) ho;have ne:cd.mro.isEmpty=false:=by
  cases q:cd.mro with
  |nil=>rw[q]at ho;cases ho
  |cons _ _=>rfl
 have sub:Looks (model prog w) s.heap (isInstance (.ref a) (.type "object")) true:=I.type.andThen (looks_mroIn X (by unfold mroIn;rw[hc,Ul,if_neg (by rw[ne];decide),o2]));refine codeAny_call_builtin SF.slot.plain SF.entry (@check_slot (model prog w) _ _ s "object.__setattr__" "object" "__setattr__" (.ref a) [.str name tk,v] [] _ SF.kind SF.split sub (SF.args (.ref a) (.str name tk) v) ?_);obtain⟨attr,ha,hr⟩:=Ua.mp ht;have LM:Looks (model prog w) s.heap (mroOf (.ref C)) cd.mro:=(looks_clsIn X hc).andThen .now;have LT:Looks (model prog w) s.heap (storeTaker? attr) none:=by
  cases attr with
  |none=>exact .now
  |some u =>
   obtain⟨b,hb,hn⟩:=TM.mp hr;cases b with
   |true=>cases hn
   |false=>exact(looks_takesIn X hb).andThen .now
 rw[osa_eq,refuse_eq];refine wpAny_bind (wpAny_bind (I.type.here (wpAny_bind (LM.here ?_))));rw[o1];exact wpAny_pure (wpAny_bind (I.type.here (wpAny_bind ((looks_findIn X ha).here (wpAny_bind (LT.here (h _)))))))
def Ov{Q:Unit->Shared->Prop}(X:K.In s.heap)(hx:s.heap.get? a=some ox)(hc:ox.cls=.ref C)(hdx:ox.dict=none){vs:Array Value}(hdt:ox.data=.fields vs)(e:nS K C)(ht:takerIn K C name=some none)
  (h:∀h' d tk,s.heap.objs.size<=d->h'.get? a=some { ox with dict:=some d }->h'.Ns1 d (λy=>if y=name then some v else none)->(∀b o,b≠a->s.heap.get? b=some o->h'.get? b=some o)->Q () { s with heap:=h',toks:=tk }) :
  wpAny (model prog w) A (setAttr (.ref a) name v) Q E s:=by
 obtain⟨oc,od,Jy,osl⟩:=ox;dsimp only at hc hdx hdt;subst hc hdx hdt;have J:InstAt s.heap a ⟨.ref C,none,.fields vs,osl⟩ C none:=⟨hx,rfl,rfl,trivial⟩;refine set_plain X J e.sa (JB (s:={ s with toks:=s.toks+1 }) X J e ht λb=>?_);obtain⟨cd,hcd,hd'⟩:=any_some e.hd;refine wpAny_bind (wpAny_pure (wpAny_bind (wpAny_bind (wpAny_loadPart hx (wpAny_bind (Looks.here (s:={ s with toks:=s.toks+1 }) (looks_clsIn X hcd) ?_))))));rw[hd',if_neg ∅];dsimp only;rw[if_neg (by simp[typeHasDict])];have x1:(s.heap.push { cls:=.type "dict",data:=.dict #[] }).get? a=some ⟨.ref C,none,.fields vs,osl⟩:=S9 _ hx;have ns:a≠s.heap.objs.size:=T7 (Ts hx);refine wpAny_bind (wpAny_alloc' (wpAny_bind (wpAny_update' x1 (wpAny_pure ?_))));have gd:((s.heap.push { cls:=.type "dict",data:=.dict #[] }).update a λo=>{ cls:=o.cls,dict:=some s.heap.objs.size,data:=o.data,slots:=o.slots }).get? s.heap.objs.size=some { cls:=.type "dict",data:=.dict #[] } :=
  (Heap.get?_update_ne _ _ _ _ ns.symm).trans (Heap.get?_push_at rfl rfl)
 have nd:((s.heap.push { cls:=.type "dict",data:=.dict #[] }).update a λo=>{ cls:=o.cls,dict:=some s.heap.objs.size,data:=o.data,slots:=o.slots }).Ns s.heap.objs.size (λ_=>none) :=
  ⟨_,#[],_,gd,rfl,λe he=>absurd he (by simp),λ_=>rfl⟩
 show wpAny _ _ (storeInDict s.heap.objs.size (.str name s.toks) name v) _ _ _;unfold storeInDict newKeyGuard;refine wpAny_bind (wpAny_pure (wpAny_bind (wpAny_nsSet1 (Heap.Ns1.of_empty nd) λh' hn hs=>?_)));obtain⟨oD,esD,Ow,FF,FG,FH⟩:=hn.count (Within.cons name v Within.nil);refine wpAny_bind (wpAny_lookBehind FF (by rw[FG];exact pastItsLine_dict (TF FH (by rw[Tf,Uj,sizeLine_eq];lk))) ?_);refine wpAny_pure (h h' s.heap.objs.size _ (Tc _) ((hs.2 a ns).trans (Uc _ x1 rfl)) hn λb o nb q=>?_);exact(hs.2 b (T7 (Ts q))).trans ((Heap.get?_update_ne _ _ _ _ nb).trans (S9 _ q))
def Ox{Q:Unit->Shared->Prop}{d:Addr}{mA:Str->Option Value}{nms:List Str}(X:K.In s.heap)(hx:s.heap.get? a=some ox)(hc:ox.cls=.ref C)(hdx:ox.dict=some d){vs:Array Value}(hdt:ox.data=.fields vs)(hn:s.heap.Ns1 d mA)(e:nS K C)(ht:takerIn K C name=some none)
  (hw:Within mA nms) (hsz:nms.length+1<=sizeLine) (h:∀h' tk,Heap.SameBut d s.heap h'->h'.Ns1 d (λy=>if y=name then some v else mA y)->Q () { s with heap:=h',toks:=tk }) :
  wpAny (model prog w) A (setAttr (.ref a) name v) Q E s:=by
 obtain⟨oc,od,Jy,osl⟩:=ox;dsimp only at hc hdx hdt;subst hc hdx hdt;obtain⟨odd,es,ep,e1,_⟩:=id hn;have J:InstAt s.heap a ⟨.ref C,some d,.fields vs,osl⟩ C (some odd):=⟨hx,rfl,rfl,e1⟩;refine set_plain X J e.sa (JB (s:={ s with toks:=s.toks+1 }) X J e ht λb=>?_);obtain⟨cd,hcd,hd'⟩:=any_some e.hd;refine wpAny_bind (wpAny_pure (wpAny_bind (wpAny_bind (wpAny_loadPart hx (wpAny_bind (Looks.here (s:={ s with toks:=s.toks+1 }) (looks_clsIn X hcd) ?_))))));rw[hd',if_neg ∅];refine wpAny_pure ?_;show wpAny _ _ (storeInDict d (.str name s.toks) name v) _ _ _;unfold storeInDict newKeyGuard;refine wpAny_bind (wpAny_pure (wpAny_bind (wpAny_nsSet1 (s:={ s with toks:=s.toks+1 }) hn λh' hn2 hs2=>?_)));obtain⟨oD,esD,Ow,FF,FG,FH⟩:=hn2.count (Within.cons name v hw);refine wpAny_bind (wpAny_lookBehind FF (by rw[FG];exact pastItsLine_dict (TF FH (by rw[Tf];lk))) ?_);exact wpAny_pure (h h' _ hs2 hn2)
end
abbrev C5(K:Frag)(ta tv:TE)(f:Str):TS:=λD G H=>tv G H λy H1=>ta G H1 λx H2=>∃a C tr,x=.ref a/\nS K C/\takerIn K C f=some none /\
 ((H2 a=some (XO a C none tr)/\∀ d,H2 d=none->d≠a->D.nx G (upd (upd H2 a (XO a C (some d) tr)) d (.xd [(f,y)]))) \/
   ∃d fs,H2 a=some (XO a C (some d) tr)/\H2 d=some (.xd fs)/\fs.length<=10/\D.nx G (upd H2 d (.xd ((f,y) :: fs))))
section
variable {X:Cx}{pins:List (Addr×Obj)}{G:St}{H:Hp}{s:Shared}{a C:Addr}{tr:Tr}{f:Str}{y:V}{u:Value}
def JC{fs:List (Str×V)}{mA:Str->Option Value}(r:∀g,nA (fs.lookup g) (mA g))(ry:RelV y u):∀g,nA (((f,y) :: fs).lookup g) (if g=f then some u else mA g):=λg=>by
 rw[Uk];by_cases e:g=f;subst e;rw[if_pos rfl,beq_self_eq_true];exact ry;rw[if_neg e,show(g == f)=false from by simpa using e];exact r g
def Inv.zJ{A:Around}{E:Value->Shared->Prop}{Q:Unit->Shared->Prop}(I:Inv X pins G H s)(ea:H a=some (XO a C none tr))(e:nS X.K C)(ht:takerIn X.K C f=some none)(ry:RelV y u)
  (h:∀s' d,H d=none->d≠a->Inv X pins G (upd (upd H a (XO a C (some d) tr)) d (.xd [(f,y)])) s'->Q () s'):wpAny (model X.prog X.w) A (setAttr (.ref a) f u) Q E s:=by
 obtain⟨ox,vs,hx,hc,hdx,hdt,h1,h2⟩:=XO.of I.hok ea;refine Ov I.j4 hx hc hdx hdt e ht λh' d tk hd g1 g2 kp=>?_;have Hd:H d=none:=I.hok.fresh hd;have da:d≠a:=λz=>by rw[z,ea]at Hd;cases Hd
 refine h _ d Hd da ?_;have Hb:∀b o,b≠a->H b=some o->upd (upd H a (XO a C (some d) tr)) d (.xd [(f,y)]) b=some o:=λb o n q=>by rw[b8 (λz=>by rw[z,Hd]at q;cases q),b8 n];exact q
 have pd:∀b o,H b=some o->(∀φ,o≠.ext φ)->b≠a:=λb o q n z=>by rw[z,ea]at q;cases q;exact n _ rfl
 have low:∀b o,s.heap.get? b=some o->b≠d:=λb o q=>T7 (TH (Ts q) hd)
 refine I.call (ch:=[]) ⟨λb o q n _ _=>kp b o (λz=>by rw[z,ea]at n;cases n) q,λb o q n _ _=>⟨o.slots,kp b o (λz=>by rw[z,ea]at n;cases n) q⟩,λb o q n _=>?_,λb o q _=>?_,
  λb xs q=>Hb b _ (pd b _ q λφ z=>by cases z) q,λb o v q=>Hb b _ (pd b _ q λφ z=>by cases z) q,λb ps q=>⟨#[],by rw[UE];exact Hb b _ (pd b _ q λφ z=>by cases z) q⟩⟩ ?_ I.bare λb z=>absurd z (by simp)
 rw[b8 (low b o q),b8 (λz=>by rw[z,ea]at n;cases n)];exact n;by_cases z:b=a;subst z;exact⟨_,g1⟩;exact⟨o,kp b o z q⟩;intro b o q;by_cases z:b=d;subst z;rw[h8]at q;cases q;exact⟨_,g2,JC (fs:=[]) (λg=>trivial) ry⟩;rw[b8 z]at q;by_cases z2:b=a;subst z2;rw[h8]at q;cases q;exact XO.ok ⟨_,vs,g1,hc,rfl,hdt,h1,h2⟩;rw[b8 z2]at q;refine(I.hok b o q).stay (λc w' hc' r=>kp c w' ?_ r) (λc r=>Hb c _ (pd c _ r λφ z=>by cases z) r) λc xs r=>Hb c _ (pd c _ r λφ z=>by cases z) r;rcases hc' with rfl|hc'
 exact z2;exact pd c _ hc' λφ z=>by cases z
def Inv.zK{A:Around}{E:Value->Shared->Prop}{Q:Unit->Shared->Prop}{d:Addr}{fs:List (Str×V)}(I:Inv X pins G H s)(ea:H a=some (XO a C (some d) tr))(ed:H d=some (.xd fs))(hl:fs.length<=10)(e:nS X.K C)(ht:takerIn X.K C f=some none)(ry:RelV y u)
  (h:∀s',Inv X pins G (upd H d (.xd ((f,y) :: fs))) s'->Q () s'):wpAny (model X.prog X.w) A (setAttr (.ref a) f u) Q E s:=by
 obtain⟨ox,vs,hx,hc,hdx,hdt,h1,h2⟩:=XO.of I.hok ea;obtain⟨mA,hn,rf⟩:=(show bz X.prog X.w H s.heap d (.xd fs)from I.hok d _ ed);have wi:Within mA (fs.map (·.1)):=λg hg=>by
  cases q:fs.lookup g with
  |some v =>
   have:=PySem.mem_of_lookup q;exact T6.mpr ⟨(g,v),this,rfl⟩
  |none =>
   have z:=rf g;rw[q]at z;cases m:mA g with
   |none=>exact absurd m hg
   |some w=>rw[m]at z;exact z.elim
 refine Ox I.j4 hx hc hdx hdt hn e ht wi (by rw[S8,sizeLine_eq];lk) λh' tk sb hn2=>h _ ?_;have kp:∀b o,b≠d->s.heap.get? b=some o->h'.get? b=some o:=λb o n q=>(sb.2 b n).trans q;have nd:∀b o,H b=some o->(∀ws,o≠.xd ws)->b≠d:=λb o q n z=>by rw[z,ed]at q;cases q;exact n _ rfl
 have Hb:∀b o,H b=some o->(∀ws,o≠.xd ws)->upd H d (.xd ((f,y) :: fs)) b=some o:=λb o q n=>by rw[b8 (nd b o q n)];exact q
 obtain⟨od,es,ep,gd,_⟩:=id hn2
 refine I.call (ch:=[]) ⟨λb o q n _ _=>kp b o (λz=>by rw[z,ed]at n;cases n) q,λb o q n _ _=>⟨o.slots,kp b o (λz=>by rw[z,ed]at n;cases n) q⟩,λb o q n _=>by rw[b8 (λz=>by rw[z,ed]at n;cases n)];exact n,λb o q _=>?_,
  λb xs q=>Hb b _ q (λws z=>by cases z),λb o v q=>Hb b _ q (λws z=>by cases z),λb ps q=>⟨#[],by rw[UE];exact Hb b _ q (λws z=>by cases z)⟩⟩ ?_ I.bare λb z=>absurd z (by simp)
 by_cases z:b=d;subst z;exact⟨_,gd⟩;exact⟨o,kp b o z q⟩;intro b o q;by_cases z:b=d;subst z;rw[h8]at q;cases q;exact⟨_,hn2,JC rf ry⟩;rw[b8 z]at q;refine(I.hok b o q).stay (λc w' hc' r=>kp c w' ?_ r) (λc r=>Hb c _ r λws z=>by cases z) λc xs r=>Hb c _ r λws z=>by cases z
 rcases hc' with rfl|hc'
 exact z;exact nd c _ hc' λws z=>by cases z
variable {o value:Expr}{ta tv:TE}{pos pos':Pos}
def C6(ha:PE X o ta)(hv:PE X value tv)(hs:swapsWith value (some (.Attribute o f pos')) pos.line X.env=pure false):PS X (.Assign [.Attribute o f pos'] value pos) (C5 X.K ta tv f):=by
 intro pins s G H D I h;refine plainObj_wpAny_Assign_Attribute (bA (hv pins s G H _ I h) λu s1 ⟨y,H1,I1,ry,q⟩=>bA (ha pins s1 G H1 _ I1 q) λov s2 ⟨x,H2,I2,rx,a,C,tr,ex,e,ht,q2⟩=>?_) hs;subst ex;obtain rfl:ov=Value.ref a:=rx;rcases q2 with⟨ea,q2⟩|⟨d,fs,ea,ed,hl,q2⟩
 exact I2.zJ ea e ht ry λs3 d h1 h2 I3=>⟨G,_,I3,q2 d h1 h2⟩;exact I2.zK ea ed hl e ht ry λs3 I3=>⟨G,_,I3,q2⟩
end
end L2
namespace L2
open PySem PySem.Spec PyProof.Rows PySem.W
abbrev fX(K:Frag)(C:Addr)(bmB:List Value)(newId:String)(f:Addr):Bool:=match K.lookup C with
 |some ⟨.type "type",_,.cls cd,sl⟩=>(match cd.mro,sl.toList with
  |.ref C' :: bm,[_,_,_,_,some (.builtin n),_]=>C' == C && n == newId && !cd.hasDel && tailIn K bmB bm && nsOkIn K cd.ns && nsIn K cd.ns "__init__" == some (some (.ref f))
  |_,_=>false)
 |_=>false
def Oy{K:Frag}{h:Heap}{N:Addr}{mN:Str->Option Value}{n:Str}{v:Value}(X:K.In h)(G:h.Ns N mN)(e:nsIn K N n=some (some v)):mN n=some v:=by
 obtain⟨o,es,ep,ho,hd,_,hf⟩:=G;unfold nsIn at e;split at e
 ·next c d es' n' sl q =>
  have z:=X _ _ q;rw[ho]at z;cases z;cases hd;split at e
  ·next en he =>
   cases e;rw[<- hf];unfold nsFind findBy;rw[<- Array.find?_toList,he];rfl
  ·split at e<;>cases e
 ·cases e
def FI{K:Frag}{h:Heap}{C f:Addr}{bmB:List Value}{newId:String}(X:K.In h)(q:fX K C bmB newId f=true):
  ∃bm N nm qn bs hdct sn sub ab col dd k0 k1 k2 k3 k5 mN,h.get? C=some (excClassObj nm qn C N bs bm hdct sn sub ab col dd k0 k1 k2 k3 k5 newId)/\h.Ns N mN/\mN "__init__" = some (.ref f)/\OwnTail h bmB bm:=by
 unfold fX at q;split at q
 ·next dd cd sl ho =>
  split at q
  ·next C' bm k0 k1 k2 k3 n k5 hm hs =>
   simp only[Tz,beq_iff_eq,Vr]at q;obtain⟨⟨⟨⟨⟨e1,e2⟩,e3⟩,e4⟩,e5⟩,e6⟩:=q;subst e1 e2;obtain⟨nm,bs,mro,ns,qn,hd,sn,sub,ab,col,del⟩:=cd;obtain⟨l⟩:=sl;dsimp only at hm hs e3 e5 e6;subst hm e3 hs;have G:h.Ns ns (h.nsMap ns):=.of_isNs (isNs_of_in X e5);exact⟨bm,ns,nm,qn,bs,hd,sn,sub,ab,col,dd,k0,k1,k2,k3,k5,_,X _ _ ho,G,Oy X G e6,tail_of_in X e4⟩
  ·cases q
 ·cases q
section
variable {prog:Program}{w:World}{A:Around}{E:Value->Shared->Prop}{h:Heap}{g:Array GenState}{d:Drawn}{t:Nat}{os:OsState}
variable {nm q:Str}{C N:Addr}{bs bm bmB:List Value}{hdct:Bool}{sn:List Str}{sub:List Value}{ab:Bool}{col:Option Bool}{dd:Option Addr}{k0 k1 k2 k3 k5:Option Value}{B newId initId:String}
def Oz(F:ExcBaseFacts B newId initId bmB)(T:OwnTail h bmB bm){mN:Str->Option Value}{rest:List Value}{f:Addr}{oI:Obj}{Q:PySem.Fin->Shared->Prop}
  (hC:h.get? C=some (excClassObj nm q C N bs bm hdct sn sub ab col dd k0 k1 k2 k3 k5 newId)) (hn:h.Ns N mN) (hi:mN "__init__" = some (.ref f)) (hf:h.get? f=some oI) (hfc:oI.cls=.type "function")
  (hq:∀h' e,Heap.MadeExcOf h h' e (.ref C) rest->wpAny (model prog w) A (call (.ref f) (.ref e :: rest)) (λr s'=>r=.none/\Q (.done (.ret (.ref e))) s') E ⟨h',g,d,t,os⟩) (hrest:rest.length<=sizeLine) :
  wpAny (model prog w) A (Builtin.«type.__call__» ⟨.ref C :: rest,[]⟩) Q E ⟨h,g,d,t,os⟩:=by
 repeat (first|with_reducible refine wpAny_loadPart_at hC ?_|with_reducible refine wpAny_madeBy_exc hC ?_|wp_step)
 refine codeAny_call_builtin_code (Code.quiet_builtin _ F.quiet) (wpAny_check_new_subT F T hC (codeAny_exc_new_subT F T hC ?_ hrest));show wpAny _ _ _ _ _ _;generalize e1:({ cls:=.type "tuple",data:=.seq rest.toArray }:Obj)=o1;generalize e2:({ cls:=.ref C,data:=.fields #[.ref h.objs.size,.none,.none,.none,.bool false,.none] }:Obj)=o2;have f1:o1.isFreed=false:=by rw[<- e1];rfl
 have f2:o2.isFreed=false:=by rw[<- e2];rfl
 have kp:∀b o,h.get? b=some o->((h.push o1).push o2).get? b=some o:=λb o z=>S9 _ (S9 _ z);have gE:((h.push o1).push o2).get? (h.objs.size+1)=some o2:=Heap.get?_push_at (by simp only[Up]) f2;have JD:((h.push o1).push o2).get? (h.objs.size+1)=some { cls:=.ref C,data:=.fields #[.ref h.objs.size,.none,.none,.none,.bool false,.none] }:=by rw[gE,<- e2]
 have cC:(Value.ref C :: bm).contains (.ref C)=true:=by simp
 have JE:=kp _ _ hC;have hn1:((h.push o1).push o2).Ns N mN:=hn.keeps kp;have T1:=T.keeps kp;unfold isInstance
 repeat (first|with_reducible refine wpAny_loadPart_at JD ?_|(with_reducible refine wpAny_isSubtype_exc JE ?_;rw[cC])|wp_step)
 show wpAny _ _ (typeLookup (.ref C) _) _ _ _;refine wpAny_typeLookup_tail JE hn1 T1 F.mroIs F.init.lookup ?_;rw[hi];refine wpAny_holding (wpAny_bind ?_);unfold bindSpecial;refine wpAny_bind (wpAny_typeOf (T:="function") ⟨_,kp _ _ hf,hfc⟩ ?_);rw[if_pos ∅];refine wpAny_pure (wpAny_bind (wpAny_mono (hq _ (h.objs.size+1) ⟨kp,Vb (Vn _),h.objs.size,JD,Vb (Tc _),?_⟩) (λr s' hr=>?_) λ_ _ x=>x))
 ·rw[S9 o2 (Heap.get?_push_at rfl f1),e1]
 ·obtain⟨rfl,hQ⟩:=hr
  wp_walk
  exact hQ
def JF(F:ExcBaseFacts B newId initId bmB)(T:OwnTail h bmB bm){mN:Str->Option Value}{rest:List Value}{f:Addr}{oI:Obj}{Q:Value->Shared->Prop}
  (hC:h.get? C=some (excClassObj nm q C N bs bm hdct sn sub ab col dd k0 k1 k2 k3 k5 newId)) (hn:h.Ns N mN) (hi:mN "__init__" = some (.ref f)) (hf:h.get? f=some oI) (hfc:oI.cls=.type "function")
  (hq:∀h' e,Heap.MadeExcOf h h' e (.ref C) rest->wpAny (model prog w) (A.under (.builtin "type.__call__" ⟨.ref C :: rest,[]⟩)) (call (.ref f) (.ref e :: rest)) (λr s'=>r=.none/\Q (.ref e) s') E ⟨h',g,d,t,os⟩) (hrest:rest.length<=sizeLine) :
  wpAny (model prog w) A (call (.ref C) rest) Q E ⟨h,g,d,t,os⟩:=by
 have f1:=tc_lookup;have f2:=tc_bind (.ref C);have hT:(⟨h,g,d,t,os⟩:Shared).TypeIs (.ref C) "type" := ⟨_,hC,rfl⟩;refine wpAny_call (codeAny_of_tree ?_);show wpAny _ _ (callAny (.ref C) _) _ _ _
 repeat (any_goals (first|assumption|with_reducible refine wpAny_loadPart_at hC ?_|wp_step))
 refine⟨rfl,?_⟩;exact codeAny_call_builtin_at (Code.quiet_builtin _ (by decide +kernel)) entry_typeCall (wpAny_check_type_call_sub hC (Oz F T hC hn hi hf hfc (λh' e hm=>hq h' e hm) hrest))
end
def JG{M:Model}{A:Around}{E:Value->Shared->Prop}{env:Env}{s:Shared}{x:Sem Value}{K:Frag}{Q:Flow->Shared->Prop}(hh:A.handled=none)
  (h:wpAny M A x (λv s1=>∃e C dx vs sl,v=.ref e/\K.In s1.heap/\s1.heap.get? e=some ⟨.ref C,dx,.fields vs,sl⟩/\vs[1]?=some .none/\mroIn K C (.type "BaseException")=some true/\typeIn K (.ref C)=some (.type "type")/\E (.ref e) s1) E s) :
  wpAny M A (raiseStmt env (some x) none) Q E s:=by
 unfold raiseStmt;refine wpAny_bind (wpAny_mono h (λv s1 h1=>?_) λ_ _ z=>z);obtain⟨e,C,dx,vs,sl,rfl,X,he,h1,hm,ht,hE⟩:=h1;obtain⟨oC,lC,cC⟩:=TM.mp (show(K.lookup C).map (·.cls)=some (.type "type")from ht);have gC:=X _ _ lC;have LB:=looks_mroIn (M:=M) X hm;obtain⟨hp,g,d,tk,os⟩:=s1
 repeat (first|with_reducible refine wpAny_loadPart_at he ?_|(with_reducible refine wpAny_loadPart_at gC ?_;rw[cC])|with_reducible refine LB.at ?_|with_reducible refine wpAny_field he rfl h1 ?_|wp_step)
 exact wpAny_raiseNew_none hh hE
structure C7(K:Frag)(mg:Str->Option Value)(x:Str)(C f:Addr)(bmB:List Value)(newId:String):Prop where
 m:mg x=some (.ref C)
 k:fX K C bmB newId f=true
 fn:isFn K (.ref f)=true
 kp:keepIn K (.ref C)=true
abbrev ke(C:Addr)(sp:Sp)(t:TA):TE:=λG H Q=>t G H λvs H1=>vs.length<=10/\∀a,H1 a=none->sp (.ref a :: vs) (upd H1 a (XO a C none (none,true))) (λv H2=>v=.non/\Q (.ref a) H2) E0
section
variable {X:Cx}{k:Nat}{f C:Addr}{fd:FuncData}{ps:List Str}{sp:Sp}{x:Str}{p pos:Pos}{e:Expr}{es:List Expr}{t:TA}{B newId initId:String}{bmB:List Value}
def OA{pins:List (Addr×Obj)}{G:St}{H:Hp}{s:Shared}{Q:VK}{us:List Value}{vs:List V}(FB:ExcBaseFacts B newId initId bmB)(M:C7 X.K X.mg x C f bmB newId)(F:aN X.prog X.w X.K X.mg X.base cS k f fd ps sp)(hr:cq (k+1) X.A)(hb:Binds X.K fd ps [])
  (I:Inv X pins G H s) (r:Vals vs us) (hl:vs.length<=10) (h:∀a,H a=none->sp (.ref a :: vs) (upd H a (XO a C none (none,true))) (λv H2=>v=.non/\Q (.ref a) H2) E0) :
  wpAny (model X.prog X.w) X.A (call (.ref C) us) (EP X pins G Q) X.xe s:=by
 obtain⟨bm,NN,nm,qn,bs,hdct,sn,sub,ab,col,dd,k0,k1,k2,k3,k5,mN,hC,hN,hni,T⟩:=FI I.j4 M.k;obtain⟨oI,lI,cI⟩:=TM.mp (show(X.K.lookup f).map (·.cls)=some (.type "function")from beq_iff_eq.mp M.fn);obtain⟨hp,g,d,tk,os⟩:=s;refine JF FB T hC hN hni (I.j4 _ _ lI) cI (λh' a hm=>?_) (by rw[<- r.length,sizeLine_eq];lk);obtain⟨t0,ht,_,_⟩:=hm.there;have I2:=I.zF (o:=XO a C none (none,true)) hm.keeps hm.new (XO.ok ⟨_,_,ht,rfl,rfl,rfl,rfl,λ_=>⟨rfl,by simp⟩⟩);have hq:=h a (I.hok.none_of hm.new);have r2:Vals (V.ref a :: vs) (Value.ref a :: us):=.cons rfl r;have hl2:(Value.ref a :: us).length=ps.length:=by rw[<- r2.length];exact F.len _ _ _ _ hq
 have hbd:=hb _ (Value.ref a :: us) I2.j4 (by rw[T5];exact hl2);rw[T5]at hbd;refine wpAny_call (codeAny_mono (F.run _ X.stack _ _ ⟨Value.ref a :: us,[]⟩ (Value.ref a :: us) _ _ E0 (hr.make C us []) (I2.rn.make C us []) hbd r2 hq) λr s' hq'=>?_);cases r with
 |error e=>exact hq'.elim
 |ok fl =>
  cases fl with
  |ret u =>
   obtain⟨v,H',I3,rv,ev,q3⟩:=I2.after hq';subst ev;exact⟨rv,V.ref a,H',I3,rfl,q3⟩
  |next=>exact False.elim hq'
  |brk=>exact False.elim hq'
  |cont=>exact False.elim hq'
def tD(FB:ExcBaseFacts B newId initId bmB)(M:C7 X.K X.mg x C f bmB newId)(F:aN X.prog X.w X.K X.mg X.base cS k f fd ps sp)(hr:cq (k+1) X.A)(hg:Gl X x)(hb:Binds X.K fd ps [])
  (ha:PA X (e :: es) t) (hdb:(x == ("__debug__" : Str))=false:=by decide) (he:starEach (e :: es) X.env=(false,eval e X.env) :: starEach es X.env:=by rfl) (hpl:(backTo pos (starEach es X.env)).any (·.1)=false:=by rfl) :
  PE X (.Call (.Name x p) (e :: es) [] pos) (ke C sp t):=by
 intro pins s G H Q I h;refine wpAny_Call_Name_kw (ux I hg M.m ?_ hdb);refine callWith_K (h₀:=X.base) I.ok.mod.qY M.kp (bA (ha pos pins s G H _ I h) λus s1 ⟨vs,H1,I1,r,hl,q⟩=>⟨I1.j4,?_⟩) he hpl;exact OA FB M F hr hb I1 r hl q
end
abbrev lK(K:Frag)(te:TE)(E:XK):TS:=λ_ G H=>te G H λv H1=>∃a C dx,v=.ref a/\H1 a=some (XO a C dx (none,true))/\mroIn K C (.type "BaseException")=some true/\typeIn K (.ref C)=some (.type "type")/\∀H2,XS a H1 H2->E (.ref a) none H2
section
variable {P:Program}{w:World}{K:Frag}{mg:Str->Option Value}{base:Heap}{N:List Str}{qual:Str}{scope:Scope}{f:Addr}{cd:Value}{A:Around}{outer:List Env}{s0:Shared}{H0:Hp}{E:XK}
def tG{ex:Expr}{te:TE}{pos:Pos}(he:PE (dS (kc P w) P w K mg base N qual scope f cd A outer s0 H0 E) ex te):
  PS (dS (kc P w) P w K mg base N qual scope f cd A outer s0 H0 E) (.Raise (some ex) none pos) (lK K te E):=by
 intro pins s G H D I h;rw[arm_exec_Raise]
 first
  |refine wpAny_bind (wpAny_standAt (JG (K:=K) (I.ok.hd rfl) (wpAny_bind (wpAny_mono (he pins s G H _ I h) (λv s3 h3=>wpAny_bind (wpAny_standAt (wpAny_pure ?_))) λ_ _ x=>x))))
  |(simp only[evalOpt,Option.map];refine wpAny_bind (wpAny_standAt (JG (K:=K) (I.ok.hd rfl) (wpAny_bind (wpAny_mono (he pins s G H _ I h) (λv s3 h3=>wpAny_bind (wpAny_standAt (wpAny_pure ?_))) λ_ _ x=>x)))))
 obtain⟨y,H1,I1,ry,a,C,dx,rfl,ea,hm,ht,q⟩:=h3;obtain rfl:v=Value.ref a:=ry;obtain⟨oe,vs,g1,g2,g3,g4,g5,g6⟩:=XO.of I1.hok ea;obtain⟨c0,d0,Fx,FJ⟩:=oe;dsimp only at g2 g3 g4;subst g2 g3 g4;exact⟨a,C,d0,vs,FJ,rfl,I1.j4,g1,g5,hm,ht,leave I1 ⟨(none,true),ea,λT z=>by cases z⟩ q⟩
end
abbrev JH(K:Frag)(te:TE)(f:Str):TE:=λG H Q=>te G H λx H1=>∃a C d tr fs v,x=.ref a/\H1 a=some (XO a C (some d) tr)/\H1 d=some (.xd fs)/\fs.lookup f=some v/\my K C/\findIn K (.ref C) f=some none/\Q v H1
section
variable {X:Cx}{e:Expr}{te:TE}{f:Str}{pos:Pos}
def OB(he:PE X e te)(hb:attributeBase e f X.env (eval e X.env)=eval e X.env):PE X (.Attribute e f pos) (JH X.K te f):=by intro pins s G H Q I h;refine MI hb (bA (he pins s G H _ I h) λu s1 ⟨x,H1,I1,rx,a,C,d,tr,fs,v,ex,ea,ed,l,ei,n,q⟩=>?_);subst ex;obtain rfl:u=Value.ref a:=rx;obtain⟨ox,vs,hx,hc,hdx,hdt,_⟩:=XO.of I1.hok ea;obtain⟨mA,hn,rf⟩:=(show bz X.prog X.w H1 s1.heap d (.xd fs)from I1.hok d _ ed);obtain⟨w',hw,rw'⟩:=nA.some_of (v:=v) (o:=mA f) (by rw[<- l];exact rf f);obtain⟨od,ho,hl⟩:=MG hn;have J:InstAt s1.heap a ox C (some od):=⟨hx,hc,by unfold notCls;rw[hdt],by rw[hdx];exact ho⟩;exact Oh I1.j4 J ei (findObj_own ei.hd n rfl (by rw[hl,hw])) (handedOut_of (MH rw')) ⟨v,H1,I1.tok _,rw',q⟩
end
abbrev nU(K:Frag)(f1 f2:Str):Sp:=λvs H Q _=>∃a C tr v1 v2,vs=[.ref a,v1,v2]/\H a=some (XO a C none tr)/\nS K C/\takerIn K C f1=some none/\takerIn K C f2=some none /\
 ∀d,H d=none->d≠a->Q .non (upd (upd H a (XO a C (some d) tr)) d (.xd [(f2,v2),(f1,v1)]))
abbrev lL(K:Frag)(f1:Str):Sp:=λvs H Q _=>∃a C tr v1,vs=[.ref a,v1]/\H a=some (XO a C none tr)/\nS K C/\takerIn K C f1=some none/\∀d,H d=none->d≠a->Q .non (upd (upd H a (XO a C (some d) tr)) d (.xd [(f1,v1)]))
def OC{K:Frag}{f1 f2:Str}{vs:List V}{H:Hp}{Q:VK}{E:XK}(h:nU K f1 f2 vs H Q E):vs.length=3:=by obtain⟨_,_,_,_,_,rfl,_⟩:=h;rfl
def JI{K:Frag}{f1:Str}{vs:List V}{H:Hp}{Q:VK}{E:XK}(h:lL K f1 vs H Q E):vs.length=2:=by obtain⟨_,_,_,_,rfl,_⟩:=h;rfl
def OD{K:Frag}{f1 f2 p0 p1 p2:Str}{vs:List V}{H:Hp}{Q:VK}{E:XK}(h:nU K f1 f2 vs H Q E):
  rh (C5 K (lA 0) (lA 1) f1) (C5 K (lA 0) (lA 2) f2) { nx:=λ_ H'=>Q .non H',rt:=Q } (start [p0,p1,p2] vs) H:=by
 obtain⟨a,C,tr,v1,v2,rfl,ea,es,t1,t2,q⟩:=h;refine⟨v1,rfl,.ref a,rfl,a,C,tr,rfl,es,t1,.inl ⟨ea,λd hd da=>?_⟩⟩;refine⟨v2,rfl,.ref a,rfl,a,C,tr,rfl,es,t2,.inr ⟨d,[(f1,v1)],by rw[b8 (Ne.symm da),h8],h8,(show 1<=10 by decide),?_⟩⟩;show Q .non _;rw[sC];exact q d hd da
def JJ{K:Frag}{f1 p0 p1:Str}{vs:List V}{H:Hp}{Q:VK}{E:XK}(h:lL K f1 vs H Q E):
  C5 K (lA 0) (lA 1) f1 { nx:=λ_ H'=>Q .non H',rt:=Q } (start [p0,p1] vs) H:=by
 obtain⟨a,C,tr,v1,rfl,ea,es,t1,q⟩:=h;exact⟨v1,rfl,.ref a,rfl,a,C,tr,rfl,es,t1,.inl ⟨ea,λd hd da=>q d hd da⟩⟩
def JK{K:Frag}{x qual:Str}{st:Stmt}{ps:List Str}{f:Addr}{oc:Value}{od an:Option Addr}{osl:Array (Option Value)}{kV doc pm cdv ct:Value}
  (hb:∀(kV doc pm:Value) (an:Option Addr) (cdv ct:Value) (us:List Value),us.length=ps.length->bindArgs (fnOf x qual (fU st) (cR st) (aw st) .none kV doc pm an cdv ct) ⟨us,[]⟩=pure (ps.zip us))
  (l:K.lookup f=some ⟨oc,od,.func (fnOf x qual (fU st) (cR st) (aw st) .none kV doc pm an cdv ct),osl⟩) (c:codeIn K cdv qual=true) (k:keepIn K (.ref f)=true):∃fd,mX K x qual st f fd/\Binds K fd ps [] :=
 ⟨_,IH l c k,.all (hb kV doc pm an cdv ct)⟩
end L2
namespace L2
open PySem PySem.Spec PySem.W PyProof.Rows
end L2
namespace L2
open PySem PySem.Spec PyProof.Rows
end L2
namespace L2
open PySem PySem.Spec PyProof.Rows PySem.W
end L2
namespace L2
open PySem PySem.Spec PyProof.Rows
def FK{M:Model}{A:Around}{E:Value->Shared->Prop}{s:Shared}{K:Zfr}{a C F fI:Addr}{oe:Obj}{bmB:List Value}{newId:String}{Q:Bool->Shared->Prop}(X:K.In s.heap)(he:s.heap.get? a=some oe)(hc:oe.cls=.ref C)
  (hF:fX K F bmB newId fI=true) (hb:bmB.contains (.type "BaseException")=true) (hm:PySem.W.mroIn K C (.ref F)=some true) (hq:Q true s):wpAny M A (excMatches (.ref a) (.ref F)) Q E s:=by
 obtain⟨bm,NN,nm,qn,bs,hdct,sn,sub,ab,col,dd,k0,k1,k2,k3,k5,mN,hC,hN,hni,T⟩:=FI X hF;have L:=PySem.W.looks_mroIn (M:=M) X hm;obtain⟨h,g,d,t,os⟩:=s;have Fy:(Value.ref F :: bm).contains (.type "BaseException")=true:=by rw[U0,T.hasType hb,Bool.or_true]
 have f:=tc_notTuple;unfold excMatches
 repeat (first|(with_reducible refine wpAny_loadPart_at he ?_;rw[hc])|with_reducible refine wpAny_loadPart_at hC ?_|(with_reducible refine wpAny_isSubtype_exc hC ?_;rw[Fy])|wp_step)
 refine L.at ?_;rw[if_pos rfl]
 wp_walk
 exact hq
section
variable {prog:Program}{w:World}{A:Around}{E:Value->Shared->Prop}{s:Shared}
def OE:entryFor table "proto.unchain" = some Builtin.«proto.unchain»:=entryFor_of_tree (by kernel_rfl)
def unchain{e h:Value}{a:Addr}{o:Obj}{vs:Array Value}{Q:Value->Shared->Prop}(eh:h=.ref a)(ho:s.heap.get? a=some o)(hd:o.data=.fields vs)(h2:vs[2]?=some .none)(q:Q .none s):wpAny (model prog w) A (runValue (.builtin "proto.unchain" ⟨[e,h,h,.bool false],[]⟩)) Q E s:=by subst eh;refine runValue_entry OE ?_;unfold Builtin.«proto.unchain»;show wpAny _ _ (field (.ref a) 2 >>= _) _ _ s;refine wpAny_bind (wpAny_field ho hd h2 ?_);show wpAny _ _ (if(Value.none == Value.none)=true then _ else _) _ _ s;rw[if_pos (by rfl)];exact wpAny_pure ⟨_,rfl,q⟩
end
structure dh(hx:Addr)(k:Nat)(A:Around):Prop where
 hd:A.handled=some (.ref hx)
 dp:A.depth+3*k+5<recursionLimit
 un:A.units+16*k+200<cLine
 gd:A.guards=some []
def dh.mono{hx:Addr}{j k:Nat}{A:Around}(r:dh hx k A)(h:j<=k):dh hx j A:=⟨r.hd,by have:=r.dp;lk,by have:=r.un;lk,r.gd⟩
def dh.deeper{hx:Addr}{k:Nat}{A:Around}(r:dh hx (k+1) A)(env:Env):dh hx k (A.deeper env) :=
 ⟨r.hd,by have:=r.dp;show A.depth+1+3*k+5<_;lk,by have:=r.un;show A.units+3+16*k+200<_;lk,r.gd⟩
def dh.depth{hx:Addr}{k:Nat}{A:Around}(r:dh hx k A):A.depth<recursionLimit:=by have:=r.dp;lk
def cq.held{k:Nat}{A:Around}(r:cq k A)(a:Addr):dh a k (A.mark (some (.ref a))):=⟨rfl,r.dp,r.un,r.gd⟩
@[reducible]def kT(CX:kO)(P:Program)(w:World)(K:Zfr)(mg:Str->Option Value)(base:Heap)(N:List Str)(qual:Str)(scope:Scope)(f:Addr)(cd:Value)(A:Around)(outer:List Env)(s:Shared)(H:Hp)(E:XK):Cx :=
 { dS CX P w K mg base N qual scope f cd A outer s H E with calm:=false }
structure kU(hx:Addr)(P:Program)(w:World)(K:Zfr)(mg:Str->Option Value)(base:Heap)(CX:kO)(k:Nat)(f:Addr)(fd:FuncData)(ps:List Str)(sp:Sp):Prop where
 len:∀vs H Q E,sp vs H Q E->vs.length=ps.length
 run:∀(A:Around) (outer:List Env) (s:Shared) (H:Hp) (args:Args) (us:List Value) (vs:List V) (Q:VK) (E:XK),dh hx k A->lB P w K mg base A outer s H->BindsTo s fd args (ps.zip us)->Vals vs us->sp vs H Q E ->
  codeAny (model P w) A (.call (.ref f) args) (CR CX outer P w H s Q E) s
def OG{CX:kO}{P:Program}{w:World}{K:Zfr}{mg:Str->Option Value}{base:Heap}{N ps:List Str}{qual:Str}{scope:Scope}{f:Addr}{cd:Value}{A:Around}{outer:List Env}{s s1:Shared}{H:Hp}{E:XK}{us:List Value}{vs:List V}
  (S:aG N ps scope) (e0:lB P w K mg base A outer s H) (hl:vs.length=ps.length) (r:Vals vs us)
  (x:InCallC s s.heap.objs.size (bindL (envOfC qual scope s.heap.objs.size f cd).kindOf (ps.zip us) λ_=>none) (cellsFrom (s.heap.objs.size+1) scope.names []) (bindC (envOfC qual scope s.heap.objs.size f cd).kindOf (ps.zip us) λ_=>none) s1) :
  Inv (kT CX P w K mg base N qual scope f cd A outer s H E) [] (start N vs) H s1:=by
 have hpl:ps.length<=N.length:=by have:=congrArg List.length S.pre;rw[Ub]at this;lk
 obtain⟨h1,tk,rfl,hk⟩:=x.done;have rq:∀b:Addr,b ∉ (kT CX P w K mg base N qual scope f cd A outer s H E).ex:=λb z=>absurd (show b∈([]:List Addr)from z) (by simp)
 refine⟨⟨e0.mod,S.kind,rfl,rfl,Tc _,λy z c h1 h2=>?_,λy hy=>?_,λy c _ h=>?_,λz=>(nomatch z),Around.frames_deeper e0.frames,.inr ⟨rfl,rfl⟩,λb z=>absurd z (rq b),e0.bs,e0.mU,λb _ _=>rq b,λb z=>absurd z (rq b),e0.ia,e0.pC⟩,
  rfl,e0.bare,Un.kept hk,⟨_,x.toInCall.ns,λi y v h1 h2 h3=>?_⟩,λy c h=>⟨_,x.cell y c h⟩,e0.hok.fresh (Tc _),λy c h=>?_,λp hp=>absurd (show p∈([]:List (Addr×Obj))from hp) (by simp),e0.hok.kept hk,?_⟩
 exact name_of_addr x.apart (PySem.mem_of_lookup h1) (PySem.mem_of_lookup h2);have hy:scope.names.lookup y=some .cell\/scope.names.lookup y=some .free:=hy;rcases hy with hy|hy
 exact CN hy;exact absurd rfl (S.pX _ (PySem.mem_of_lookup hy));exact UJ (x.above y c (PySem.mem_of_lookup h));have hi:i < vs.length:=by
  unfold start at h2;by_cases hi:i<vs.length;exact hi;rw[TU (by simpa using hi)]at h2;rw[UB]at h2;split at h2<;>cases h2
 have ha:vs[i]?=some v:=by
  unfold start at h2;rw[TX (by simpa using hi),TC]at h2;cases e:vs[i]? with
  |none=>rw[e]at h2;cases h2
  |some a=>rw[e]at h2;cases h2;rfl
 obtain⟨u,hu,rv⟩:=r.get ha;have hp:ps[i]?=some y:=by
  rw[<- S.pre,List.getElem?_take_of_lt ⋯];exact h1
 have yV:ps.Nodup:=by rw[<- S.pre];exact S.nd.sublist (List.take_sublist _ _)
 refine⟨u,rv,?_⟩;rcases S.par y (TL hp)with k|k
 exact .inl ⟨k,EG yV hp hu k⟩;obtain⟨c,e⟩:=CN (n:=s.heap.objs.size+1) k;refine .inr ⟨.inl k,c,e,?_⟩;have q:=x.cell y c e;rw[EH yV hp hu (by show scope.names.lookup y≠_;rw[k];decide)]at q;exact q;exact e0.hok.fresh (UJ (x.above y c (PySem.mem_of_lookup h)));unfold start;show _=N.length;rw[Td,S8,UH];lk
def vm{hx:Addr}{CX:kO}{P:Program}{w:World}{K:Zfr}{mg:Str->Option Value}{base:Heap}{k:Nat}{f:Addr}{name qual:Str}{params:Arguments}{body:List Stmt}{scope:Scope}{dV kV doc pm cdv ct oc:Value}{an od:Option Addr}
  {osl:Array (Option Value)} {N ps:List Str} {sp:Sp} (lk:K.lookup f=some ⟨oc,od,.func (PySem.W.fnOf name qual params body scope dV kV doc pm an cdv ct),osl⟩) (hcd:PySem.W.codeIn K cdv qual=true) (S:aG N ps scope)
  (len:∀vs H Q E,sp vs H Q E->vs.length=ps.length)
  (hbody:∀(A:Around) (outer:List Env) (s:Shared) (H:Hp) (vs:List V) (Q:VK) (E:XK),dh hx k (A.deeper (envOfC qual scope s.heap.objs.size f cdv))->sp vs H Q E ->
   ∃t,kN (kT CX P w K mg base N qual scope f cdv A outer s H E) body t/\t { nx:=λ_ H'=>Q .non H',rt:=Q } (start N vs) H) :
  kU hx P w K mg base CX (k+1) f (PySem.W.fnOf name qual params body scope dV kV doc pm an cdv ct) ps sp:=by
 refine⟨len,λA outer s H args us vs Q E hr e0 hb r mw=>?_⟩;have hl:=len _ _ _ _ mw;have KX:K.In s.heap:=e0.mod.qY.keeps λb o e=>(e0.bs b o e).1;have lim:s.heap.NoLimit:=e0.mod.nolimit.keeps λb o e=>(e0.bs b o e).1;have hkind:∀y∈ps.zip us,scope.names.lookup y.1=some .local\/(scope.names.lookup y.1=some .cell/\((cellsFrom (s.heap.objs.size+1) scope.names []).lookup y.1).isSome=true):=λ⟨n,v⟩ hy=>by
  rcases S.par n (Vc hy).1 with q|q
  ·exact .inl q
  ·exact .inr ⟨q,PySem.W.cellsFrom_some _ _ _ (.inl q)⟩
 refine codeAny_call_function hr.depth (KX _ _ lk) rfl S.co S.gen rfl (PySem.W.codeRec_of KX hcd) (hb _ _ _ _ ?_);refine wpAny_newFunctionEnv_cells S.kind hkind λenv he s1 x=>?_;subst he;refine⟨lim.keeps x.toInCall.keep,codeAny_func ?_⟩;obtain⟨t,ht,hq⟩:=hbody A outer s H vs Q E (hr.deeper _) mw;have I:Inv (kT CX P w K mg base N qual scope f cdv A outer s H E) [] (start N vs) H s1:=OG S e0 hl r x;refine wpAny_mono (ht [] s1 (start N vs) H _ I hq) (λfl s' hs=>?_) λe s' hs=>hs;have fin:∀{G':St} {H':Hp} {v:V} {u:Value},Inv (kT CX P w K mg base N qual scope f cdv A outer s H E) [] G' H' s'->RelV v u->Q v H'->CE outer P w H s Q u s' :=
  λ{G' H' v u} J rv q=>⟨v,H',J.os,J.bare,J.base,J.hok,rv,q⟩
 cases fl with
 |ret u =>
  obtain⟨v,G',H',J,rv,q⟩:=hs;exact fin J rv q
 |next =>
  obtain⟨G',H',J,q⟩:=hs;exact fin (v:=V.non) (u:=Value.none) J rfl q
 |brk =>
  obtain⟨_,_,_,q⟩:=hs;exact False.elim q
 |cont =>
  obtain⟨_,_,_,q⟩:=hs;exact False.elim q
section
variable {P:Program}{w:World}{K:Zfr}{mg:Str->Option Value}{base:Heap}
def mX.OH{hx:Addr}{x qual:Str}{st:Stmt}{f:Addr}{fd:FuncData}{N ps:List Str}{k:Nat}{sp:Sp}(F:mX K x qual st f fd)(S:aG N ps (aw st))(len:∀vs H Q E,sp vs H Q E->vs.length=ps.length)
  (hbody:∀(cdv:Value) (A:Around) (outer:List Env) (s:Shared) (H:Hp) (vs:List V) (Q:VK) (E:XK),dh hx k (A.deeper (envOfC qual (aw st) s.heap.objs.size f cdv))->sp vs H Q E ->
   ∃t,kN (kT cS P w K mg base N qual (aw st) f cdv A outer s H E).pD (cR st) t/\t { nx:=λ_ H'=>Q .non H',rt:=Q } (start N vs) H):kU hx P w K mg base cS (k+1) f fd ps sp:=by
 obtain⟨oc,od,kV,doc,pm,an,cdv,ct,osl,rfl,lk,hcd⟩:=F.ex;refine vm lk hcd S len λA outer s H vs Q E hr mw=>?_;obtain⟨t,h,q⟩:=hbody cdv A outer s H vs Q E hr mw;exact⟨t,h.pD,q⟩
end
end L2
namespace L2
open PySem PySem.Spec PyProof.Rows PySem.W
def dh.make{hx:Addr}{k:Nat}{A:Around}(r:dh hx (k+1) A)(C:Addr)(us:List Value)(kw:List (Str×Value)):dh hx k (A.under (.builtin "type.__call__" ⟨.ref C :: us,kw⟩)) :=
 ⟨r.hd,by have:=r.dp;rw[Ik];lk,by have:=r.un;rw[Il];lk,by rw[Im];exact r.gd⟩
section
variable {X:Cx}{pins:List (Addr×Obj)}{G:St}{H:Hp}{s:Shared}{a C:Addr}{dx:Option Addr}
def Inv.vn{t:Option Addr}{kb:Bool}{f:Array Value->Array Value}(I:Inv X pins G H s)(ea:H a=some (XO a C dx (t,kb)))(hf:∀vs,(f vs)[1]?=vs[1]?):Inv X pins G (upd H a (XO a C dx (t,false))) { s with heap:=s.heap.update a (Obj.mapFields f) }:=by
 obtain⟨oT,ts,q1,qc,qd,q2,q3,_⟩:=XO.of I.hok ea;have d2:=Obj.data_mapFields q2 f;have T2:=Uc (Obj.mapFields f) q1 (Obj.isFreed_of_fields d2);have mx:∀b u,b≠a->s.heap.get? b=some u->(s.heap.update a (Obj.mapFields f)).get? b=some u:=λb u n q=>by rw[TY _ _ (Ne.symm n)];exact q
 have nT:∀b,H b=none->b≠a:=λb n z=>by rw[z,ea]at n;cases n
 have up:∀b u,H b=some u->(∀φ,u≠.ext φ)->upd H a (XO a C dx (t,false)) b=some u:=λb u q n=>by
  rw[b8 (λz=>by rw[z,ea]at q;cases q;exact n _ rfl)];exact q
 refine I.call (ch:=[]) ⟨λb u q n _ _=>mx b u (nT b n) q,λb u q n _ _=>⟨u.slots,mx b u (nT b n) q⟩,λb u q n _=>by rw[b8 (nT b n)];exact n,λb u q _=>?_,λb xs q=>up b _ q (λφ z=>nomatch z),λb x y q=>up b _ q (λφ z=>nomatch z),λb ps q=>⟨#[],by rw[UE];exact up b _ q (λφ z=>nomatch z)⟩⟩ ?_ I.bare λb z=>absurd z (by simp);by_cases z:b=a;subst z;exact⟨_,T2⟩;exact⟨u,mx b u z q⟩;intro b u q;by_cases z:b=a;subst z;rw[h8]at q;cases q;exact XO.ok ⟨_,_,T2,by rw[Obj.cls_mapFields];exact qc,by rw[show(Obj.mapFields f oT).dict=oT.dict from by unfold Obj.mapFields;split<;>rfl];exact qd,d2,by rw[hf];exact q3,λz=>by cases z⟩;rw[b8 z]at q;refine(I.hok b u q).stay (λc v hc' r=>mx c v ?_ r) (λc r=>up c _ r (λφ z=>nomatch z)) λc xs r=>up c _ r (λφ z=>nomatch z);rcases hc' with rfl|hc'
 exact z;rintro rfl;rw[ea]at hc';cases hc'
end
section
variable {prog:Program}{w:World}{A:Around}{E:Value->Shared->Prop}{s:Shared}
def pe{J:Type}{e hx:Addr}{oe ox:Obj}{ve vx:Array Value}{Q:J->Shared->Prop}(hh:A.handled=some (.ref hx))(ne:hx≠e)(he:s.heap.get? e=some oe)(hd:oe.data=.fields ve)(hl:2<ve.size)(hox:s.heap.get? hx=some ox)(hdx:ox.data=.fields vx)(h2:vx[2]?=some .none)
  (h:E (.ref e) { s with heap:=s.heap.update e (Obj.mapFields (·.setIfInBounds 2 (.ref hx))) }):wpAny (model prog w) A (raiseNew (.ref e):Sem J) Q E s:=by
 unfold raiseNew;refine wpAny_bind (wpAny_handled ?_);rw[hh];show wpAny _ _ (if((Value.ref hx) != Value.ref e)=true then _ else _) _ _ _;rw[if_pos (by simp[bne,ne])];refine wpAny_bind (wpAny_holding (unchain rfl hox hdx h2 ?_));show wpAny _ _ (setField (.ref e) 2 (.ref hx) >>= _) _ _ _;exact wpAny_bind (wpAny_setField he hd hl (wpAny_throw h))
def OI{env:Env}{x c:Sem Value}{K:Frag}{hx:Addr}{Q:Flow->Shared->Prop}(hh:A.handled=some (.ref hx))(hc:∀(s:Shared) (R:Value->Shared->Prop),R .none s->wpAny (model prog w) A c R E s)
  (h:wpAny (model prog w) A x (λv s1=>∃e C dx vs sl ox vx,v=.ref e/\hx≠e/\K.In s1.heap/\s1.heap.get? e=some ⟨.ref C,dx,.fields vs,sl⟩/\vs[1]?=some .none/\4<vs.size/\s1.heap.get? hx=some ox/\ox.data=.fields vx/\vx[2]?=some .none/\mroIn K C (.type "BaseException")=some true/\typeIn K (.ref C)=some (.type "type") /\
   E (.ref e) { s1 with heap:=((s1.heap.update e (Obj.mapFields (·.setIfInBounds 3 .none))).update e (Obj.mapFields (·.setIfInBounds 4 (.bool true)))).update e (Obj.mapFields (·.setIfInBounds 2 (.ref hx))) }) E s) :
  wpAny (model prog w) A (raiseStmt env (some x) (some c)) Q E s:=by
 unfold raiseStmt;refine wpAny_bind (wpAny_mono h (λv s1 h1=>?_) λ_ _ z=>z);obtain⟨e,C,dx,vs,sl,ox,vx,rfl,ne,X,he,h1,hl,hox,hdx,h2,hm,ht,hE⟩:=h1;obtain⟨oC,lC,cC⟩:=TM.mp (show(K.lookup C).map (·.cls)=some (.type "type")from ht);have gC:=X _ _ lC;have LB:=looks_mroIn (M:=model prog w) X hm;refine wpAny_bind (wpAny_holding (hc _ _ ?_));refine wpAny_bind (wpAny_pure ?_);obtain⟨hp,g,d,tk,os⟩:=s1
 repeat (first|with_reducible refine wpAny_loadPart_at he ?_|(with_reducible refine wpAny_loadPart_at gC ?_;rw[cC])|with_reducible refine LB.at ?_|with_reducible refine wpAny_field he rfl h1 ?_|wp_step)
 rw[if_pos ⋯];refine wpAny_update he ?_;have Ce:C≠e:=λz=>by
  rw[z]at gC;rw[gC]at he;cases he;cases cC
 have g1:(hp.update e (Obj.mapFields (·.setIfInBounds 3 Value.none))).get? e=some ⟨.ref C,dx,.fields (vs.setIfInBounds 3 .none),sl⟩:=Uc (Obj.mapFields (·.setIfInBounds 3 Value.none)) he (Obj.isFreed_of_fields (Obj.data_mapFields (show Obj.data ⟨.ref C,dx,.fields vs,sl⟩=.fields vs from rfl) _));refine wpAny_bind (wpAny_setField g1 rfl (by simp;lk) ?_);have g2:((hp.update e (Obj.mapFields (·.setIfInBounds 3 Value.none))).update e (Obj.mapFields (·.setIfInBounds 4 (Value.bool true)))).get? e=some ⟨.ref C,dx,.fields ((vs.setIfInBounds 3 .none).setIfInBounds 4 (.bool true)),sl⟩:=Uc (Obj.mapFields (·.setIfInBounds 4 (Value.bool true))) g1 (Obj.isFreed_of_fields (Obj.data_mapFields (show Obj.data ⟨.ref C,dx,.fields (vs.setIfInBounds 3 .none),sl⟩=.fields (vs.setIfInBounds 3 .none)from rfl) _));have mx:∀b u,b≠e->hp.get? b=some u->((hp.update e (Obj.mapFields (·.setIfInBounds 3 Value.none))).update e (Obj.mapFields (·.setIfInBounds 4 (Value.bool true)))).get? b=some u:=λb u n q=>by
  rw[TY _ _ (Ne.symm n),TY _ _ (Ne.symm n)];exact q
 have JL:=mx C oC Ce gC;have zL:=mx hx ox ne hox;have hv:((vs.setIfInBounds 3 .none).setIfInBounds 4 (.bool true))[1]?=some Value.none:=by
  rw[Ur ∅,Ur ∅];exact h1
 have hz:2<((vs.setIfInBounds 3 .none).setIfInBounds 4 (.bool true)).size:=by simp;lk
 dsimp only at hE ⊢;generalize (vs.setIfInBounds 3 .none).setIfInBounds 4 (.bool true)=FL at g2 hv hz;generalize (hp.update e (Obj.mapFields (·.setIfInBounds 3 Value.none))).update e (Obj.mapFields (·.setIfInBounds 4 (Value.bool true)))=hp2 at g2 JL zL hE ⊢
 repeat (first|with_reducible refine wpAny_loadPart_at g2 ?_|(with_reducible refine wpAny_loadPart_at JL ?_;rw[cC])|with_reducible refine wpAny_field g2 rfl hv ?_|wp_step)
 exact pe hh ne g2 rfl hz zL hdx h2 hE
end
section
variable {X:Cx}{k:Nat}{f C:Addr}{fd:FuncData}{ps:List Str}{sp:Sp}{x:Str}{p pos:Pos}{e:Expr}{es:List Expr}{t:TA}{B newId initId:String}{bmB:List Value}
def OJ{hx:Addr}{pins:List (Addr×Obj)}{G:St}{H:Hp}{s:Shared}{Q:VK}{us:List Value}{vs:List V}(FB:ExcBaseFacts B newId initId bmB)(M:C7 X.K X.mg x C f bmB newId)(F:kU hx X.prog X.w X.K X.mg X.base cS k f fd ps sp)(hr:dh hx (k+1) X.A)(hb:Binds X.K fd ps [])
  (I:Inv X pins G H s) (r:Vals vs us) (hl:vs.length<=10) (h:∀a,H a=none->sp (.ref a :: vs) (upd H a (XO a C none (none,true))) (λv H2=>v=.non/\Q (.ref a) H2) E0) :
  wpAny (model X.prog X.w) X.A (call (.ref C) us) (EP X pins G Q) X.xe s:=by
 obtain⟨bm,NN,nm,qn,bs,hdct,sn,sub,ab,col,dd,k0,k1,k2,k3,k5,mN,hC,hN,hni,T⟩:=FI I.j4 M.k;obtain⟨oI,lI,cI⟩:=TM.mp (show(X.K.lookup f).map (·.cls)=some (.type "function")from beq_iff_eq.mp M.fn);obtain⟨hp,g,d,tk,os⟩:=s;refine JF FB T hC hN hni (I.j4 _ _ lI) cI (λh' a hm=>?_) (by rw[<- r.length,sizeLine_eq];lk);obtain⟨t0,ht,_,_⟩:=hm.there;have I2:=I.zF (o:=XO a C none (none,true)) hm.keeps hm.new (XO.ok ⟨_,_,ht,rfl,rfl,rfl,rfl,λ_=>⟨rfl,by simp⟩⟩);have hq:=h a (I.hok.none_of hm.new);have r2:Vals (V.ref a :: vs) (Value.ref a :: us):=.cons rfl r;have hl2:(Value.ref a :: us).length=ps.length:=by rw[<- r2.length];exact F.len _ _ _ _ hq
 have hbd:=hb _ (Value.ref a :: us) I2.j4 (by rw[T5];exact hl2);rw[T5]at hbd;refine wpAny_call (codeAny_mono (F.run _ X.stack _ _ ⟨Value.ref a :: us,[]⟩ (Value.ref a :: us) _ _ E0 (hr.make C us []) (I2.rn.make C us []) hbd r2 hq) λr s' hq'=>?_);cases r with
 |error e=>exact hq'.elim
 |ok fl =>
  cases fl with
  |ret u =>
   obtain⟨v,H',I3,rv,ev,q3⟩:=I2.after hq';subst ev;exact⟨rv,V.ref a,H',I3,rfl,q3⟩
  |next=>exact False.elim hq'
  |brk=>exact False.elim hq'
  |cont=>exact False.elim hq'
def OL{hx:Addr}(FB:ExcBaseFacts B newId initId bmB)(M:C7 X.K X.mg x C f bmB newId)(F:kU hx X.prog X.w X.K X.mg X.base cS k f fd ps sp)(hr:dh hx (k+1) X.A)(hg:Gl X x)(hb:Binds X.K fd ps [])
  (ha:PA X (e :: es) t) (hdb:(x == ("__debug__" : Str))=false:=by decide) (he:starEach (e :: es) X.env=(false,eval e X.env) :: starEach es X.env:=by rfl) (hpl:(backTo pos (starEach es X.env)).any (·.1)=false:=by rfl) :
  PE X (.Call (.Name x p) (e :: es) [] pos) (ke C sp t):=by
 intro pins s G H Q I h;refine wpAny_Call_Name_kw (ux I hg M.m ?_ hdb);refine callWith_K (h₀:=X.base) I.ok.mod.qY M.kp (bA (ha pos pins s G H _ I h) λus s1 ⟨vs,H1,I1,r,hl,q⟩=>⟨I1.j4,?_⟩) he hpl;exact OJ FB M F hr hb I1 r hl q
end
@[reducible]def Cx.qj(X:Cx)(a:Addr):Cx:=(X.held a).wish X.xe
abbrev oN(K:Frag)(hx:Addr)(te:TE)(E:XK):TS:=λ_ G H=>te G H λv H1=>∃a C dx C' nQ t',v=.ref a/\hx≠a/\H1 a=some (XO a C dx (none,true))/\H1 hx=some (XO hx C' nQ (t',true))/\mroIn K C (.type "BaseException")=some true/\typeIn K (.ref C)=some (.type "type")/\∀H2,XS a (upd H1 a (XO a C dx (none,false))) H2->E (.ref a) none H2
section
variable {P:Program}{w:World}{K:Frag}{mg:Str->Option Value}{base:Heap}{N:List Str}{qual:Str}{scope:Scope}{f:Addr}{cd:Value}{A:Around}{outer:List Env}{s0:Shared}{H0:Hp}{E:XK}
def OM{ex:Expr}{te:TE}{pos cp:Pos}{ci:Nat}{a:Addr}(hh:(dS (kc P w) P w K mg base N qual scope f cd A outer s0 H0 E).A.handled=none)(he:PE ((dS (kc P w) P w K mg base N qual scope f cd A outer s0 H0 E).qj a) ex te):
  PS ((dS (kc P w) P w K mg base N qual scope f cd A outer s0 H0 E).qj a) (.Raise (some ex) (some (.Constant .none ci cp)) pos) (oN K a te E):=by
 intro pins s G H D I h;rw[arm_exec_Raise];simp only[evalOpt,Option.map];refine wpAny_bind (wpAny_standAt (OI (K:=K) (hx:=a) rfl (λs R q=>?_) (wpAny_bind (wpAny_mono (he pins s G H _ I h) (λv s3 h3=>wpAny_bind (wpAny_standAt (wpAny_pure ?_))) λ_ _ x=>x))));exact wpAny_bind (Constant_none (wpAny_bind (wpAny_standAt (wpAny_pure q))));obtain⟨y,H1,I1,ry,b,C,dx,C',nQ,t',rfl,ne,eb,ea,hm,ht,q⟩:=h3;obtain rfl:v=Value.ref b:=ry;obtain⟨oe,vs,g1,g2,g3,g4,g5,g6⟩:=XO.of I1.hok eb;obtain⟨ox,vx,y1,y2,y3,y4,y5,y6⟩:=XO.of I1.hok ea;obtain⟨c0,d0,Fx,FJ⟩:=oe;dsimp only at g2 g3 g4;subst g2 g3 g4;refine⟨b,C,d0,vs,FJ,ox,vx,rfl,ne,I1.j4,g1,g5,(g6 rfl).2,y1,y4,(y6 rfl).1,hm,ht,?_⟩;have ok:(dS (kc P w) P w K mg base N qual scope f cd A outer s0 H0 E).Ok:=⟨I1.ok.mod,I1.ok.kind,I1.ok.glob,I1.ok.blt,I1.ok.above,I1.ok.inj,I1.ok.has,I1.ok.qZ,λ_=>hh,I1.ok.frames,I1.ok.stk,I1.ok.xK,I1.ok.bs,I1.ok.mU,I1.ok.j3,I1.ok.mq,I1.ok.ia,I1.ok.pC⟩;have J0:=(I1.cN).fW ok;have J1:=J0.vn (f:=(·.setIfInBounds 3 .none)) eb (λvs=>by rw[Ur ∅]);have J2:=J1.vn (f:=(·.setIfInBounds 4 (.bool true))) h8 (λvs=>by rw[Ur ∅]);have J3:=J2.vn (f:=(·.setIfInBounds 2 (.ref a))) h8 (λvs=>by rw[Ur ∅]);rw[sC,sC]at J3;exact leave J3 ⟨(none,false),h8,λT z=>by cases z⟩ q
end
abbrev qk(K:Zfr)(tb:(St->Addr->Hp->Prop)->TS)(F:Addr)(ts:Addr->TS):TS:=λD G H=>tb (λG1 a H1=>∃C dx tr,H1 a=some (XO a C dx tr)/\PySem.W.mroIn K C (.ref F)=some true/\ts a D G1 H1) D G H
section
variable {X:Cx}{x:Str}{F fI:Addr}{bmB:List Value}{newId:String}{tb:(St->Addr->Hp->Prop)->TS}{ts:Addr->TS}{body suite:List Stmt}{b0:Stmt}{np hpos pos:Pos}
def OO(hp:∀a:Addr,PassesOwnAt (model X.prog X.w) (X.A.mark (some (.ref a))) X.A X.env X.xe)(hx:X.mg x=some (.ref F))(hF:fX X.K F bmB newId fI=true)(Fz:bmB.contains (.type "BaseException")=true)(hg:Gl X x)(hb:∀pins W,kN (X.tr pins W) body (tb W))(FA:∀a,kN (X.qj a) (b0 :: suite) (ts a))
  (hst:X.stack=X.env :: X.outer:=by rfl) (hf:X.env.frame=some X.env.locals:=by rfl) (hdb:(x == ("__debug__" : Str))=false:=by decide) :
  PS X (.Try body [.ExceptHandler (some (.Name x np)) none (b0 :: suite) hpos] [] [] pos) (qk X.K tb F ts):=by
 intro pins s G H D I h;refine wpAny_Try_except (wpAny_mono (hb pins _ [] s G H D I.tr h) (λf s1 q=>?_) λe s1 q=>?_)
 ·cases f with
  |next=>exact wpAny_pure q.iU
  |brk=>exact q.iU
  |cont=>exact q.iU
  |ret u=>exact q.iU
 ·obtain⟨G1,H1,a,C,dx,rfl,I1,x1,w1⟩:=q
  refine Inv.noted I1 hst hf I1.ok.frames x1 λh2 H2 xs x2 I2=>?_;obtain⟨C',nQ,tr,e2,hm,q2⟩:=w1 H2 xs;obtain⟨oe,vs,he,hc,_⟩:=XO.of I2.hok e2;refine wpAny_handleBy_cons (codeAny_handlers_test (ux (X:=X.held a) I2.held hg hx ?_ hdb)) (by intro z;cases z);refine FK I2.j4 he hc hF Fz hm ?_;refine codeAny_handlers_suite (Inv.flight I2 x2 λh3 I3=>?_);refine wpAny_mono (FA a pins _ _ H2 _ (I3.held.wish _) q2) (λf s5 q5=>?_) λe s z=>hp a e s z;cases f with
  |next=>obtain⟨G6,H6,I6,q6⟩:=q5;exact⟨_,H6,I6.cN.fW I.ok,q6⟩
  |brk=>obtain⟨G6,H6,I6,q6⟩:=q5;exact⟨_,H6,I6.cN.fW I.ok,q6⟩
  |cont=>obtain⟨G6,H6,I6,q6⟩:=q5;exact⟨_,H6,I6.cN.fW I.ok,q6⟩
  |ret u=>obtain⟨v,G6,H6,I6,r6,q6⟩:=q5;exact⟨v,_,H6,I6.cN.fW I.ok,r6,q6⟩
end
end L2
namespace aj
abbrev upto(n:Nat):List Int:=(List.range n).map λ(k:Nat)=>(k:Int)
def qN(n:Nat):(upto n).length=n:=by simp[upto]
def qm{n:Nat}{x:Int}:x∈upto n↔0<=x/\x<(n:Int):=by simp only[upto,T6,Ut];constructor;rintro⟨k,hk,rfl⟩;lk;rintro⟨h1,h2⟩;exact⟨x.toNat,by lk,by lk⟩
def OQ(n:Nat):(upto n).Pairwise (· < ·):=by unfold upto;rw[Vt];exact(U4).imp λh=>by lk
def JM(n:Nat):(upto n).Nodup:=(OQ n).imp λh=>by lk
def JN:∀{xs ys:List Int},xs.Nodup->(∀x∈xs,x∈ys)->ys.length<=xs.length->xs.Perm ys
 |[],ys,_,_,h=>by
  have:ys=[]:=UA (by simpa using h);subst this;exact U2 _
 |x :: xs,ys,hn,hs,hl=>by
  obtain⟨h1,h2⟩:=Ux.mp hn;have hx:x∈ys:=hs x Te;have hp:=Ve hx;have hlen:(ys.erase x).length+1=ys.length:=by have:=hp.length_eq;simpa using this.symm
  refine List.Perm.trans (List.Perm.cons x (JN (ys:=ys.erase x) h2 (λy hy=>?_) ?_)) hp.symm;have hne:y≠x:=λe=>h1 (e ▸ hy);exact(Vf hne).mpr (hs y (Tg _ hy));simp at hl;lk
def JO{xs:List Int}(hn:xs.Nodup)(hb:∀x∈xs,0<=x/\x<(xs.length:Int)):xs.Perm (upto xs.length):=JN hn (λx hx=>qm.mpr (hb x hx)) (by rw[qN];exact Tc _)
end aj
namespace aj
abbrev app(xs:List Int)(i:Int):Int:=xs.getD i.toNat 0
abbrev dO(xs:List Int)(i:Int):Nat->Int
 |0=>i
 |j+1=>app xs (dO xs i j)
abbrev Tn(n:Nat)(xs:List Int):Prop:=xs.Perm (upto n)
def Tn.length{n:Nat}{xs:List Int}(h:Tn n xs):xs.length=n:=by rw[h.length_eq,qN]
def Tn.nodup{n:Nat}{xs:List Int}(h:Tn n xs):xs.Nodup:=h.nodup_iff.mpr (JM n)
def Tn.bound{n:Nat}{xs:List Int}(h:Tn n xs){x:Int}(hx:x∈xs):0<=x/\x<(n:Int):=qm.mp (h.subset hx)
def rJ{xs:List Int}{i:Int}(h0:0<=i)(h1:i<(xs.length:Int)):xs[i.toNat]?=some (app xs i):=by
 have:i.toNat<xs.length:=by lk
 unfold app;rw[TV,Tj this];rfl
def OR{xs:List Int}{i:Int}(h0:0<=i)(h1:i<(xs.length:Int)):app xs i∈xs:=TL (rJ h0 h1)
def Tn.app{n:Nat}{xs:List Int}(h:Tn n xs){i:Int}(h0:0<=i)(h1:i<(n:Int)):0<=app xs i/\app xs i<(n:Int):=h.bound (OR h0 (by rw[h.length];exact h1))
def Tn.inj{n:Nat}{xs:List Int}(h:Tn n xs){i j:Int}(i0:0<=i)(i1:i<(n:Int))(j0:0<=j)(j1:j<(n:Int))(e:aj.app xs i=aj.app xs j):i=j:=by have hl:=h.length;have a:=rJ i0 (by rw[hl];exact i1);have b:=rJ j0 (by rw[hl];exact j1);rw[e]at a;obtain⟨ha,ea⟩:=Ti.mp a;obtain⟨hb,eb⟩:=Ti.mp b;have:=(Vy h.nodup).mp (ea.trans eb.symm);lk
def Tn.dO{n:Nat}{xs:List Int}(h:Tn n xs){i:Int}(h0:0<=i)(h1:i<(n:Int)):∀j,0<=dO xs i j/\dO xs i j<(n:Int)
 |0=>⟨h0,h1⟩
 |j+1=>h.app (h.dO h0 h1 j).1 (h.dO h0 h1 j).2
def Tn.back{n:Nat}{xs:List Int}(h:Tn n xs){i:Int}(h0:0<=i)(h1:i<(n:Int)):∀(a d:Nat),aj.dO xs i a=aj.dO xs i (a+d)->aj.dO xs i d=i
 |0,d,e=>by rw[Vg]at e;exact e.symm
 |a+1,d,e=>by
  have e':aj.app xs (aj.dO xs i a)=aj.app xs (aj.dO xs i (a+d)):=by
   have:a+1+d=(a+d)+1:=by lk
   rw[this]at e;exact e
  exact h.back h0 h1 a d (h.inj (h.dO h0 h1 a).1 (h.dO h0 h1 a).2 (h.dO h0 h1 _).1 (h.dO h0 h1 _).2 e')
def vo:∀{xs ys:List Int},xs.Nodup->(∀x∈xs,x∈ys)->xs.length<=ys.length
 |[],_,_,_=>Uq _
 |x :: xs,ys,hn,hs=>by
  obtain⟨h1,h2⟩:=Ux.mp hn;have hx:x∈ys:=hs x Te;have hp:=Ve hx;have hlen:(ys.erase x).length+1=ys.length:=by have:=hp.length_eq;simpa using this.symm
  have:=vo (ys:=ys.erase x) h2 λy hy=>(Vf (a:=y) (b:=x) (λe=>h1 (by rw[<- e];exact hy))).mpr (hs y (Tg _ hy));simp only[Tf];lk
abbrev row(xs:List Int)(i:Int)(m:Nat):List Int:=(List.range (m+1)).map (dO xs i)
def OS(xs:List Int)(i:Int)(m:Nat):(row xs i m).length=m+1:=by simp[row]
def OT{xs:List Int}{i:Int}{m:Nat}{x:Int}:x∈row xs i m↔∃j,j<=m/\dO xs i j=x:=by unfold row;rw[T6];constructor;rintro⟨j,hj,e⟩;exact⟨j,by have:=Ut.mp hj;lk,e⟩;rintro⟨j,hj,e⟩;exact⟨j,Ut.mpr ⋯,e⟩
abbrev NB(xs:List Int)(i:Int)(m:Nat):Prop:=∀j,1<=j->j<=m->dO xs i j≠i
def Tn.vp{n:Nat}{xs:List Int}(h:Tn n xs){i:Int}(h0:0<=i)(h1:i<(n:Int)){m:Nat}(nb:NB xs i m):m+1<=n:=by
 have hn:(row xs i m).Nodup:=by
  unfold row List.Nodup;rw[Vt];refine List.Pairwise.imp_of_mem (R:=λa b=>a<b) ?_ U4;intro a b ha hb hab e;have ha':=Ut.mp ha;have hb':=Ut.mp hb;obtain⟨d,rfl⟩:∃d,b=a+d:=⟨b-a,by lk⟩;exact nb d ⋯ ⋯ (h.back h0 h1 a d e)
 have:=vo hn (ys:=upto n) λx hx=>by
  obtain⟨j,_,rfl⟩:=OT.mp hx;exact qm.mpr (h.dO h0 h1 j)
 rw[OS,qN]at this;exact this
abbrev out(left r:List Int):List Int:=left.filter λk=>!r.contains k
abbrev iZ(n:Nat):List Int:=((List.range (n-1)).map λ(k:Nat)=>(1:Int)+k) ++ [0]
def OU:∀n,n<21->0<n->(iZ n).isPerm (upto n)=true:=by decide
def JP{n:Nat}(h:n<21)(h0:0<n):Tn n (iZ n):=List.isPerm_iff.mp (OU n h h0)
end aj
namespace aj
def OV{n i:Nat}(h:i<n):(upto n)[i]?=some (i:Int):=by unfold upto;rw[TC,List.getElem?_range h];rfl
def zM(xs:List Int)(i:Int)(j:Nat):∀d,dO xs (dO xs i j) d=dO xs i (j+d)
 |0=>rfl
 |d+1=>by show app xs (dO xs (dO xs i j) d)=app xs (dO xs i (j+d));rw[zM xs i j d]
def OW{xs:List Int}{i:Int}{L:Nat}(h:dO xs i L=i)(a:Nat):dO xs i (a+L)=dO xs i a:=by rw[Nat.add_comm,<- zM xs i L a,h]
def FN{xs:List Int}{i:Int}{L:Nat}(h:dO xs i L=i):∀(q r:Nat),dO xs i (r+L*q)=dO xs i r
 |0,r=>rfl
 |q+1,r=>by rw[Nat.mul_succ,<- Nat.add_assoc,OW h];exact FN h q r
end aj
namespace aj
inductive i6(xs ys:List Int):Int->Prop
 |zero:i6 xs ys 0
 |r {x:Int}:i6 xs ys x->i6 xs ys (app xs x)
 |u {x:Int}:i6 xs ys x->i6 xs ys (app ys x)
def i6.bound{n:Nat}{xs ys:List Int}(hx:Tn n xs)(hy:Tn n ys)(h0:0<n){x:Int}(h:i6 xs ys x):0<=x/\x<(n:Int):=by
 induction h with
 |zero=>lk
 |r _ ih=>exact hx.app ih.1 ih.2
 |u _ ih=>exact hy.app ih.1 ih.2
def i6.dO{xs ys:List Int}{x:Int}(h:i6 xs ys x):∀k,i6 xs ys (aj.dO xs x k)
 |0=>h
 |k+1=>.r (h.dO k)
abbrev kH(xs:List Int)(m:Nat):List Int:=(xs.set 0 (app xs m)).set m (app xs 0)
def OX(xs:List Int)(m:Nat):(kH xs m).length=xs.length:=by simp[kH]
def JQ{xs:List Int}{m:Nat}{v x:Int}(hm:m<xs.length)(h0:0<=x):app (xs.set m v) x=if x=(m:Int)then v else app xs x:=by unfold app;rw[TV,TV];by_cases hx:x=(m:Int);rw[if_pos hx,hx,T9,TB hm];rfl;rw[if_neg hx,TQ ⋯]
def xV{xs:List Int}{m:Nat}(hm:m<xs.length){x:Int}(h0:0<=x):app (kH xs m) x=if x=(m:Int)then app xs 0 else if x=0 then app xs m else app xs x:=by unfold kH;rw[JQ (by simpa using hm) h0,JQ ⋯ h0];rfl
def vq{n:Nat}{xs:List Int}(h:Tn n xs){m:Nat}(hm:m<n):Tn n (kH xs m):=by
 have hl:=h.length;have e:(kH xs m).length=n:=by rw[OX,hl]
 have:=JO (xs:=kH xs m) ?_ ?_
 unfold Tn;rw[e]at this;exact this;unfold List.Nodup;rw[List.pairwise_iff_getElem];intro i j hi hj hij z;have a:=rJ (xs:=kH xs m) (i:=(i:Int)) ⋯ ⋯;have b:=rJ (xs:=kH xs m) (i:=(j:Int)) ⋯ ⋯;rw[T9,Tj hi]at a;rw[T9,Tj hj]at b;have a:=Tq a;have b:=Tq b;rw[xV ⋯ ⋯]at a b;rw[a,b]at z;have inj:∀p q:Int,0<=p->p<(n:Int)->0<=q->q<(n:Int)->app xs p=app xs q->p=q:=λp q p0 p1 q0 q1=>h.inj p0 p1 q0 q1;split at z<;>split at z<;>(try split at z)<;>(try split at z)<;>(first|lk|(have:=inj _ _ ⋯ ⋯ ⋯ ⋯ z;lk));intro x hx;obtain⟨i,hi,rfl⟩:=UY hx;have a:=rJ (xs:=kH xs m) (i:=(i:Int)) ⋯ ⋯;rw[T9,Tj hi]at a;rw[Tq a,xV ⋯ ⋯,e];split;exact h.app ⋯ ⋯;split;exact h.app ⋯ ⋯;exact h.app ⋯ ⋯
def Tn.rK{n:Nat}{xs:List Int}(h:Tn n xs){i:Int}(h0:0<=i)(h1:i<(n:Int)):∃m,NB xs i m/\aj.dO xs i (m+1)=i:=by
 by_cases hb:∃m,m<n/\aj.dO xs i (m+1)=i
 -- the least
 have key:∀b:Nat,(∃m,m<b/\aj.dO xs i (m+1)=i)->∃m,NB xs i m/\aj.dO xs i (m+1)=i:=by
  intro b
  induction b with
  |zero=>rintro⟨m,hm,_⟩;lk
  |succ b ih =>
   rintro⟨m,hm,e⟩;by_cases hc:∃m,m<b/\aj.dO xs i (m+1)=i;exact ih hc;refine⟨m,λj j1 j2 z=>hc ⟨j-1,by lk,?_⟩,e⟩
   have:j-1+1=j:=by lk
   rw[this];exact z
 exact key n hb;have nb:NB xs i n:=λj j1 j2 z=>by
  refine hb ⟨j-1,by lk,?_⟩;have:j-1+1=j:=by lk
  rw[this];exact z
 have:=h.vp h0 h1 nb;lk
def OY{n:Nat}{xs ys:List Int}(hx:Tn n xs)(hy:Tn n ys){m:Nat}(hm:m<n)(nm:¬i6 xs ys (m:Int)):i6 (kH xs m) ys (m:Int)/\∀x,i6 xs ys x->i6 (kH xs m) ys x:=by
 have hl:=hx.length;have m0:m≠0:=λz=>nm (by rw[z];exact .zero);obtain⟨M,nb,bk⟩:=hx.rK (i:=(m:Int)) ⋯ ⋯;have OZ:∀j,aj.dO xs (m:Int) j≠0:=by
  intro j z;have h':i6 xs ys (aj.dO xs (aj.dO xs (m:Int) j) ((M+1)*j)):=by rw[z];exact i6.zero.dO _
  rw[zM]at h';have e2:aj.dO xs (m:Int) ((M+1)*(j+1))=(m:Int):=by
   have:=FN bk (j+1) 0;rw[Vg]at this;exact this
  have h3:=h'.dO ((M+1)*(j+1)-(j+(M+1)*j));rw[zM]at h3;have e3:j+(M+1)*j+((M+1)*(j+1)-(j+(M+1)*j))=if j+(M+1)*j<=(M+1)*(j+1)then(M+1)*(j+1)else j+(M+1)*j:=by split<;>lk
  rw[e3]at h3;by_cases hc:j+(M+1)*j<=(M+1)*(j+1)
  ·rw[if_pos hc,e2]at h3
   exact nm h3
  ·-- round as often as needed
   have h4:=h'.dO ((M+1)*(2*j+2)-(j+(M+1)*j));rw[zM]at h4;have hbig:j+(M+1)*j<=(M+1)*(2*j+2):=by
    have a1:(M+1)*(2*j+2)=(M+1)*j+((M+1)*j+(M+1)*2):=by rw[<- Nat.mul_add,<- Nat.mul_add];congr 1;lk
    have a2:j<=(M+1)*j:=Nat.le_mul_of_pos_left j ⋯;lk
   have e5:j+(M+1)*j+((M+1)*(2*j+2)-(j+(M+1)*j))=(M+1)*(2*j+2):=by lk
   rw[e5]at h4;have:=FN bk (2*j+2) 0;rw[Vg]at this;rw[this]at h4;exact nm h4
 have ring:∀j,j<=M->i6 (kH xs m) ys (aj.dO xs (m:Int) (j+1)):=by
  intro j
  induction j with
  |zero =>
   intro _;have h1:i6 (kH xs m) ys (aj.app (kH xs m) 0):=.r .zero;rw[xV ⋯ ⋯,if_neg ⋯,if_pos rfl]at h1;exact h1
  |succ j ih =>
   intro hj;have h1:=(ih ⋯).r;have b:=hx.dO (i:=(m:Int)) ⋯ ⋯ (j+1);rw[xV ⋯ b.1,if_neg (nb (j+1) ⋯ ⋯),if_neg (OZ (j+1))]at h1;exact h1
 have JR:i6 (kH xs m) ys (m:Int):=by have:=ring M (Tc _);rwa [bk]at this
 refine⟨JR,λx h=>?_⟩;have hpos:0<n:=by lk
 induction h with
 |zero=>exact .zero
 |r hx' ih =>
  rename_i x
  have b:=hx'.bound hx hy hpos;by_cases h0:x=0
  ·have h1:=JR.r
   rw[xV ⋯ ⋯,if_pos rfl]at h1;rw[h0];exact h1
  ·have O0:x≠(m:Int):=λz=>nm (by rw[<- z];exact hx')
   have h1:=ih.r;rw[xV ⋯ b.1,if_neg O0,if_neg h0]at h1;exact h1
 |u _ ih=>exact ih.u
abbrev Cl(xs ys F:List Int):Prop:=∀x∈F,app xs x∈F/\app ys x∈F
def Cl.all{xs ys F:List Int}(h:Cl xs ys F)(h0:(0:Int)∈F){x:Int}(r:i6 xs ys x):x∈F:=by
 induction r with
 |zero=>exact h0
 |r _ ih=>exact(h _ ih).1
 |u _ ih=>exact(h _ ih).2
structure Fd(xs ys:List Int)(F:List Int):Prop where
 z:(0:Int)∈F
 nd:F.Nodup
 mt:∀x∈F,i6 xs ys x
def Fd.len{n:Nat}{xs ys F:List Int}(h:Fd xs ys F)(hx:Tn n xs)(hy:Tn n ys)(h0:0<n):F.length<=n:=by have:=vo h.nd (ys:=upto n) λx hx'=>qm.mpr ((h.mt x hx').bound hx hy h0);rw[qN]at this;exact this
def Fd.one(xs ys:List Int):Fd xs ys [0]:=⟨by simp,by simp,λx hx=>(show x=0 by simpa using hx) ▸ .zero⟩
def round{xs ys F F1 F2:List Int}(d:Fd xs ys F)(d2:Fd xs ys F2)(p1:F <+: F1)(p2:F1 <+: F2)(c1:∀x∈F,app xs x∈F1)(c2:∀x∈F1,app ys x∈F2){t:Nat}(h:Cl xs ys F\/t+1<=F.length):Cl xs ys F2\/t+1+1<=F2.length:=by
 have p:=p1.trans p2;by_cases hc:Cl xs ys F;refine .inl λx hx=>?_;have hF:=hc.all d.z (d2.mt x hx);exact⟨p.subset (hc x hF).1,p.subset (hc x hF).2⟩;have hl:=h.resolve_left hc;by_cases he:F2.length<=F.length;refine absurd ?_ hc;have e2:F2=F:=(p.eq_of_length (by have:=p.length_le;lk)).symm;have e1:F1=F:=by
  have a:=p1.length_le;have b:=p2.length_le;exact(p1.eq_of_length ⋯).symm
 intro x hx;refine⟨?_,?_⟩
 have:=c1 x hx;rwa [e1]at this
 have:=c2 x (by rw[e1];exact hx);rwa [e2]at this
 exact .inr ⋯
abbrev qo(w n:Nat):List Int:=((List.range (w-1)).map λ(k:Nat)=>(1:Int)+k) ++ [0] ++ ((List.range (n-w)).map λ(k:Nat)=>(w:Int)+k)
abbrev rL(w n:Nat):List Int:=[(w:Int)] ++ ((List.range (w-1)).map λ(k:Nat)=>(1:Int)+k) ++ ((List.range (n-(w+1))).map λ(k:Nat)=>((w:Int)+1)+k) ++ [0]
def O1:∀n,n<21->∀w,w<n+1->0<w->(qo w n).isPerm (upto n)=true:=by decide +kernel
def O2:∀n,n<21->∀w,w<n->0<w->(rL w n).isPerm (upto n)=true:=by decide +kernel
def O3{w n:Nat}(h:n<21)(h1:w<=n)(h0:0<w):Tn n (qo w n):=List.isPerm_iff.mp (O1 n h w ⋯ h0)
def O4{w n:Nat}(h:n<21)(h1:w<n)(h0:0<w):Tn n (rL w n):=List.isPerm_iff.mp (O2 n h w h1 h0)
def less{L L':List Int}{m:Int}(nd:L'.Nodup)(hs:∀x∈L',x∈L)(hm:m∈L)(hm':m ∉ L'):L'.length<L.length:=by
 have hp:=Ve hm;have hlen:(L.erase m).length+1=L.length:=by have:=hp.length_eq;simpa using this.symm
 have:=vo (ys:=L.erase m) nd λx hx=>(Vf (λe=>hm' (by rw[<- e];exact hx))).mpr (hs x hx);lk
end aj
namespace aj
def Tn.vt{n:Nat}{xs:List Int}(hl:xs.length=n)(hb:∀s:Int,0<=s->s<(n:Int)->0<=aj.app xs s/\aj.app xs s<(n:Int))(hi:∀s t:Int,0<=s->s<(n:Int)->0<=t->t<(n:Int)->aj.app xs s=aj.app xs t->s=t):Tn n xs:=by
 have el:∀(i:Nat) (h:i<xs.length),xs[i]=aj.app xs (i:Int):=λi h=>by
  have a:=rJ (xs:=xs) (i:=(i:Int)) ⋯ ⋯;rw[T9,Tj h]at a;exact Tq a
 have:=JO (xs:=xs) ?_ ?_
 unfold Tn;rw[hl]at this;exact this;unfold List.Nodup;rw[List.pairwise_iff_getElem];intro i j h1 h2 hij z;rw[el i h1,el j h2]at z;have:=hi i j ⋯ ⋯ ⋯ ⋯ z;lk;intro x hx;obtain⟨i,h,rfl⟩:=UY hx;rw[el i h,hl];exact hb i ⋯ ⋯
end aj
namespace aj
abbrev dB(F:List Int)(x:Int):List Int:=if x∈F then F else F ++ [x]
def zN(F:List Int)(x:Int):F <+: dB F x:=by unfold dB;split;exact UM _;exact Vp _ _
def vv{F:List Int}{x y:Int}:y∈dB F x↔y∈F\/y=x:=by
 unfold dB;split
 ·next h=>exact⟨.inl,λz=>z.elim id λe=>e ▸ h⟩
 ·rw[Tw,TK]
def JS{F:List Int}{x:Int}(h:F.Nodup):(dB F x).Nodup:=by
 unfold dB;split
 ·exact h
 ·next hx =>
  rw[Vu];exact⟨h,by simp,λa ha b hb e=>hx (by rw[TK]at hb;rw[<- hb,<- e];exact ha)⟩
abbrev visit(xs ys F:List Int)(x:Int):List Int:=dB (dB F (app xs x)) (app ys x)
abbrev bf(xs ys:List Int)(s:Int):Nat->List Int
 |0=>[s]
 |k+1=>match (bf xs ys s k)[k]? with
  |some x=>visit xs ys (bf xs ys s k) x
  |none=>bf xs ys s k
def O5(xs ys:List Int)(s:Int)(k:Nat):bf xs ys s k <+: bf xs ys s (k+1):=by show _ <+: (match (bf xs ys s k)[k]? with|some x=>visit xs ys (bf xs ys s k) x|none=>bf xs ys s k);split;exact(zN _ _).trans (zN _ _);exact UM _
def C8(xs ys:List Int)(s:Int)(k:Nat):∀d,bf xs ys s k <+: bf xs ys s (k+d)
 |0=>UM _
 |d+1=>(C8 xs ys s k d).trans (O5 xs ys s (k+d))
def FO(xs ys:List Int)(s:Int):∀k,(bf xs ys s k).Nodup
 |0=>by show[s].Nodup;simp
 |k+1=>by
  show(match (bf xs ys s k)[k]? with|some x=>visit xs ys (bf xs ys s k) x|none=>bf xs ys s k).Nodup;split;exact JS (JS (FO xs ys s k));exact FO xs ys s k
def FP{xs ys:List Int}{s:Int}{k:Nat}(h:(bf xs ys s k).length<=k):∀d,bf xs ys s (k+d)=bf xs ys s k
 |0=>rfl
 |d+1=>by
  have e:=FP h d;show(match (bf xs ys s (k+d))[k+d]? with|some x=>visit xs ys (bf xs ys s (k+d)) x|none=>bf xs ys s (k+d))=_;rw[e,List.getElem?_eq_none ⋯]
section
variable {n:Nat}{xs ys:List Int}{s:Int}
def FQ(hx:Tn n xs)(hy:Tn n ys)(s0:0<=s)(s1:s<(n:Int)):∀k,∀x∈bf xs ys s k,0<=x/\x<(n:Int)
 |0,x,h=>by rw[TK.mp (show x∈[s]from h)];exact⟨s0,s1⟩
 |k+1,x,h=>by
  have ih:=FQ hx hy s0 s1 k;have h':x∈(match (bf xs ys s k)[k]? with|some y=>visit xs ys (bf xs ys s k) y|none=>bf xs ys s k):=h;split at h'
  ·next y hy' =>
   obtain⟨y0,y1⟩:=ih y (TL hy');rcases vv.mp h' with h'|rfl
   ·rcases vv.mp h' with h'|rfl
    ·exact ih x h'
    ·exact hx.app y0 y1
   ·exact hy.app y0 y1
  ·exact ih x h'
def FR(hx:Tn n xs)(hy:Tn n ys)(s0:0<=s)(s1:s<(n:Int))(k:Nat):(bf xs ys s k).length<=n:=by have:=vo (FO xs ys s k) (ys:=upto n) λx h=>qm.mpr (FQ hx hy s0 s1 k x h);rw[qN]at this;exact this
def zO{k i:Nat}(hik:i<=k){x:Int}(h:(bf xs ys s k)[i]?=some x):(bf xs ys s i)[i]?=some x:=by obtain⟨d,rfl⟩:∃d,k=i+d:=⟨k-i,by lk⟩;by_cases hl:(bf xs ys s i).length<=i;rw[FP hl d]at h;exact h;obtain⟨t,e⟩:=C8 xs ys s i d;rw[<- e,TX ⋯]at h;exact h
def zP(hx:Tn n xs)(hy:Tn n ys)(s0:0<=s)(s1:s<(n:Int)):Cl xs ys (bf xs ys s n):=by
 intro x hm;obtain⟨i,hi,e⟩:=UY hm;have hl:=FR hx hy s0 s1 n;have hi':(bf xs ys s i)[i]?=some x:=zO (k:=n) ⋯ (by rw[Tj hi,e]);have hs:visit xs ys (bf xs ys s i) x <+: bf xs ys s n:=by
  have:=C8 xs ys s (i+1) (n-(i+1));rw[show i+1+(n-(i+1))=n by lk]at this;have e2:bf xs ys s (i+1)=visit xs ys (bf xs ys s i) x:=by
   show(match (bf xs ys s i)[i]? with|some x=>visit xs ys (bf xs ys s i) x|none=>bf xs ys s i)=_;rw[hi']
  rw[<- e2];exact this
 refine⟨hs.subset ?_,hs.subset ?_⟩;exact vv.mpr (.inl (vv.mpr (.inr rfl)));exact vv.mpr (.inr rfl)
end
end aj
namespace aj
end aj
namespace aj
abbrev odd(n:Nat):Bool:=n % 2 == 1
abbrev tb(l:Int->Nat)(p:Int->Int)(a b:Int):Bool:=if l a=l b\/l (p a)=l (p b)then false else(decide (l a<l b)).xor (decide (l (p a)<l (p b)))
end aj
namespace aj
end aj
namespace aj
@[reducible]def Sp:=Bool×Int
structure T4 where (a b c d:Int)
def t3{k:Int}(h:1<=k/\k<=3):k=1\/k=2\/k=3:=by lk
end aj
namespace aj
@[reducible]def C9:=List Int×List Int
end aj
namespace aj
abbrev tS(k:Int):T4:=⟨1,k,0,1⟩
section
variable {n:Nat}{p q r:C9}
abbrev big:List Int->Prop
 |[]=>True
 |[_]=>True
 |j :: b :: ks=>(2<=j\/j<=-2)/\big (b :: ks)
end
end aj
namespace aj
section
variable {n:Nat}{p q:C9}{g h:List Int}{s t:Int}
def Dc(xs ys:List Int):∀k,∀y∈bf xs ys 0 k,i6 xs ys y
 |0,y,hy=>by rw[TK.mp (show y∈[(0:Int)]from hy)];exact .zero
 |k+1,y,hy=>by
  have hy':y∈(match (bf xs ys 0 k)[k]? with|some x=>visit xs ys (bf xs ys 0 k) x|none=>bf xs ys 0 k):=hy;split at hy'
  ·next z hz =>
   have JT:=Dc xs ys k z (TL hz);rcases vv.mp hy' with hy'|rfl
   ·rcases vv.mp hy' with hy'|rfl
    ·exact Dc xs ys k y hy'
    ·exact JT.r
   ·exact JT.u
  ·exact Dc xs ys k y hy'
end
end aj
namespace aj
def FT{p:Nat->Bool}{n k:Nat}(hk:k<n)(h:∀j,j<k->p j=false)(hp:p k=true):(List.range n).find? p=some k:=by rw[List.find?_range_eq_some];exact⟨hp,Ut.mpr hk,λj hj=>by rw[h j hj];rfl⟩
def Dd{p:Nat->Bool}{n:Nat}(h:∀j,j<n->p j=false):(List.range n).find? p=none:=by rw[List.find?_eq_none];intro x hx;rw[h x (Ut.mp hx)];decide
def JU{p:Nat->Bool}{n:Nat}(h:(List.range n).find? p=none):∀j,j<n->p j=false:=λj hj=>by
 rw[List.find?_eq_none]at h;simpa using h j (Ut.mpr hj)
abbrev bad(xs:List Int)(k:Nat):Bool:=decide (xs.getD k 0<0) || (decide ((xs.length:Int)<=xs.getD k 0) || (xs.take k).contains (xs.getD k 0))
abbrev am(xs:List Int):Option Nat:=(List.range xs.length).find? (bad xs)
abbrev fu(xs ys:List Int)(n:Nat):Option Nat:=(List.range n).find? λs=>!(bf xs ys 0 n).contains (s:Int)
def tH{xs:List Int}(h:am xs=none):Tn xs.length xs:=by
 have hb:=JU h;have hx:∀k,k<xs.length->(0<=xs.getD k 0/\xs.getD k 0<(xs.length:Int))/\xs.getD k 0 ∉ xs.take k:=λk hk=>by
  have z:=hb k hk;unfold bad at z;simp only[Bool.or_eq_false_iff,decide_eq_false_iff_not]at z;refine⟨by lk,λm=>?_⟩;rw[Ug.mpr m]at z;cases z.2.2
 have at':∀s:Int,0<=s->s<(xs.length:Int)->app xs s=xs.getD s.toNat 0:=λs s0 s1=>by
  have:=rJ (xs:=xs) s0 s1;rw[TV,this];rfl
 have inj:∀i j:Nat,i<j->j<xs.length->xs.getD i 0≠xs.getD j 0:=λi j hij hj e=>by
  refine(hx j hj).2 ?_;rw[<- e,TV,Tj ⋯];exact List.mem_take_iff_getElem.mpr ⟨i,by lk,rfl⟩
 refine Tn.vt rfl (λs s0 s1=>?_) λs t s0 s1 t0 t1 e=>?_;rw[at' s s0 s1];exact(hx s.toNat ⋯).1;rw[at' s s0 s1,at' t t0 t1]at e;rcases Nat.lt_trichotomy s.toNat t.toNat with h|h|h
 exact absurd e (inj _ _ h ⋯);lk;exact absurd e.symm (inj _ _ h ⋯)
def zQ{n:Nat}{xs:List Int}(h:Tn n xs):am xs=none:=by
 refine Dd λk hk=>?_;have e:xs.getD k 0=xs[k]:=by rw[TV,Tj hk];rfl
 have b:=h.bound (UK hk);unfold bad;rw[e];simp only[Bool.or_eq_false_iff,decide_eq_false_iff_not];refine⟨by lk,by rw[h.length];lk,?_⟩;cases z:(xs.take k).contains xs[k]with
 |false=>rfl
 |true =>
  obtain⟨i,hi,ei⟩:=List.mem_take_iff_getElem.mp (Ug.mp z);have:=(Vy h.nodup).mp ei;lk
def vw{n:Nat}{xs ys:List Int}(tx:Tn n xs)(ty:Tn n ys)(n0:0<n)(x:Int):x∈bf xs ys 0 n↔i6 xs ys x:=by
 constructor;exact Dc xs ys n x;intro r;refine(zP tx ty (Int.le_refl _) ⋯).all ?_ r;have:=(C8 xs ys 0 0 n).subset (show(0:Int)∈bf xs ys 0 0 from TK.mpr rfl)
 rwa [Vg]at this
end aj
namespace L4
open PySem PySem.Spec L2
inductive D where
 |non|bl (b:Bool)|int (i:Int)|str (x:Str)|ty (n:String)|tup (ds:List D)|ref (i:Nat)
instance:Inhabited D:=⟨.non⟩
inductive O where
 |lst (ds:List D)|mZ (ds:List D)|dct (kvs:List (Key×D))|zR (kvs:List (List Int×D))|zS (kvs:List (List Key×D))|exc (c:Str) (fs:List (Str×D))|any|fR (lo hi:Int)
@[reducible]def Store:=List O
@[reducible]def ai:=List (Option D)
@[reducible]def Dm(J:Type):=Store->Option (J×Store)
inductive Fl where
 |nx (I:ai)|bk (I:ai)|ct (I:ai)|rt (d:D)
mutual
inductive Rp(K:Zfr)(L:List Addr)(H:Hp):V->D->Prop
 |non:Rp K L H .non .non
 |bl (b:Bool):Rp K L H (.bl b) (.bl b)
 |int (i:Int):Rp K L H (.int i) (.int i)
 |str (x:Str):Rp K L H (.str x) (.str x)
 |ty (n:String):Rp K L H (.ty n) (.ty n)
 |ref {a:Addr} {i:Nat}:L[i]?=some a->Rp K L H (.ref a) (.ref i)
 |tup {a:Addr} {vs:List V} {ds:List D}:df K H a vs->bt K L H vs ds->Rp K L H (.ref a) (.tup ds)
inductive bt(K:Zfr)(L:List Addr)(H:Hp):List V->List D->Prop
 |nil:bt K L H [] []
 |cons {v:V} {vs:List V} {d:D} {ds:List D}:Rp K L H v d->bt K L H vs ds->bt K L H (v :: vs) (d :: ds)
end
structure Mn(K:Zfr)(L:List Addr)(H:Hp)(L':List Addr)(H':Hp):Prop where
 r:∀(i:Nat) (a:Addr),L[i]?=some a->L'[i]?=some a
 t:∀a vs,df K H a vs->df K H' a vs
 f:∀a o u,H a=some (.kM o u)->H' a=some (.kM o u)
 x:∀a ws,H a=some (.xd ws)->H' a=some (.xd ws)
section
variable {K:Zfr}{L L' L2:List Addr}{H H' H2:Hp}
def Mn.refl:Mn K L H L H:=⟨λ_ _ h=>h,λ_ _ h=>h,λ_ _ _ h=>h,λ_ _ h=>h⟩
def Mn.trans(m:Mn K L H L' H')(n:Mn K L' H' L2 H2):Mn K L H L2 H2:=⟨λi a h=>n.r i a (m.r i a h),λa vs h=>n.t a vs (m.t a vs h),λa o u h=>n.f a o u (m.f a o u h),λa ws h=>n.x a ws (m.x a ws h)⟩
mutual
theorem Rp.mn(m:Mn K L H L' H'):∀{v:V} {d:D},Rp K L H v d->Rp K L' H' v d
 |_,_,.non=>.non
 |_,_,.bl b=>.bl b
 |_,_,.int i=>.int i
 |_,_,.str x=>.str x
 |_,_,.ty n=>.ty n
 |_,_,.ref e=>.ref (m.r _ _ e)
 |_,_,.tup q r=>.tup (m.t _ _ q) (bt.mn m r)
theorem bt.mn(m:Mn K L H L' H'):∀{vs:List V} {ds:List D},bt K L H vs ds->bt K L' H' vs ds
 |_,_,.nil=>.nil
 |_,_,.cons a b=>.cons (Rp.mn m a) (bt.mn m b)
end
def bt.length:∀{vs:List V} {ds:List D},bt K L H vs ds->vs.length=ds.length
 |_,_,.nil=>rfl
 |_,_,.cons _ r=>by rw[Tf,Tf,r.length]
def bt.got:∀{vs:List V} {ds:List D},bt K L H vs ds->∀{i:Nat} {d:D},ds[i]?=some d->∃v,vs[i]?=some v/\Rp K L H v d
 |_,_,.nil,i,v,e=>by simp at e
 |_,_,.cons (v:=v) a b,0,d,e=>⟨v,by simp,by have:_=d:=Tq (by simpa using e);rw[<- this];exact a⟩
 |_,_,.cons a b,i+1,d,e=>by
  obtain⟨v,e1,r⟩:=bt.got b (i:=i) (by simpa using e);exact⟨v,by simpa using e1,r⟩
def bt.append:∀{vs:List V} {ds:List D} {ws:List V} {es:List D},bt K L H vs ds->bt K L H ws es->bt K L H (vs ++ ws) (ds ++ es)
 |_,_,_,_,.nil,s=>s
 |_,_,_,_,.cons a b,s=>.cons a (bt.append b s)
def bt.one{v:V}{d:D}(r:Rp K L H v d):bt K L H [v] [d]:=.cons r .nil
def bt.take:∀{vs:List V} {ds:List D} (n:Nat),bt K L H vs ds->bt K L H (vs.take n) (ds.take n)
 |_,_,0,_=>.nil
 |_,_,_+1,.nil=>.nil
 |_,_,n+1,.cons r t=>.cons r (bt.take n t)
def bt.drop:∀{vs:List V} {ds:List D} (n:Nat),bt K L H vs ds->bt K L H (vs.drop n) (ds.drop n)
 |_,_,0,r=>r
 |_,_,_+1,.nil=>.nil
 |_,_,n+1,.cons _ t=>bt.drop n t
def bt.set{v:V}{d:D}(r:Rp K L H v d):∀{vs:List V} {ds:List D} (i:Nat),bt K L H vs ds->bt K L H (vs.set i v) (ds.set i d)
 |_,_,_,.nil=>.nil
 |_,_,0,.cons _ t=>.cons r t
 |_,_,i+1,.cons q t=>.cons q (bt.set r i t)
def bt.erase:∀{vs:List V} {ds:List D} (i:Nat),bt K L H vs ds->bt K L H (vs.eraseIdx i) (ds.eraseIdx i)
 |_,_,_,.nil=>.nil
 |_,_,0,.cons _ t=>t
 |_,_,i+1,.cons q t=>.cons q (bt.erase i t)
def bt.reverse:∀{vs:List V} {ds:List D},bt K L H vs ds->bt K L H vs.reverse ds.reverse
 |_,_,.nil=>.nil
 |_,_,.cons r t=>by rw[UT,UT];exact(bt.reverse t).append (.one r)
def bt.ints:∀(ns:List Int),bt K L H (ns.map V.int) (ns.map D.int)
 |[]=>.nil
 |n :: r=>.cons (.int n) (bt.ints r)
end
abbrev Rs(K:Zfr)(L:List Addr)(H:Hp)(G:St)(I:ai):Prop:=G.length=I.length/\∀(i:Nat) (d:D),I[i]?=some (some d)->∃v,G[i]?=some (some v)/\Rp K L H v d
abbrev Rk(K:Zfr)(L:List Addr)(H:Hp):List (Key×V)->List (Key×D)->Prop:=Paired λp q=>p.1=q.1/\Rp K L H p.2 q.2
abbrev Ru(K:Zfr)(L:List Addr)(H:Hp):List (List Int×D)->List (List Int×Addr×Value)->Prop:=Paired λq x=>q.1=x.1/\df K H x.2.1 (x.1.map V.int)/\∃v,RelV v x.2.2/\Rp K L H v q.2
abbrev Rt(K:Zfr)(L:List Addr)(H:Hp):List (List Key×V)->List (List Key×D)->Prop:=Paired λp q=>p.1=q.1/\Rp K L H p.2 q.2
abbrev Xd(K:Zfr)(L:List Addr)(H:Hp):Option Addr->List (Str×D)->Prop
 |none,fs=>fs=[]
 |some d,fs=>∃ws,H d=some (.xd ws)/\∀f e,fs.lookup f=some e->∃v,ws.lookup f=some v/\Rp K L H v e
abbrev nC(fs:List (Str×D)):Bool:=decide ((fs.map Prod.fst).Nodup)
abbrev Xe(K:Zfr)(L:List Addr)(H:Hp)(dx:Option Addr)(tr:Tr)(fs:List (Str×D)):Prop:=Xd K L H dx fs/\(nC fs=true->tr.2=true)
abbrev tJ(K:Zfr)(L:List Addr)(H:Hp)(a:Addr):O->Prop
 |.lst ds=>∃vs,H a=some (.lst vs)/\bt K L H vs ds
 |.mZ ds=>∃vs,zm K H a vs/\bt K L H vs ds
 |.dct kvs=>∃ws,H a=some (.dK ws)/\Rk K L H ws kvs
 |.zR kvs=>∃xs,H a=some (DU a xs)/\Ru K L H kvs xs
 |.zS kvs=>∃ws,H a=some (.dT ws)/\Rt K L H ws kvs
 |.exc c fs=>∃C dx tr,PySem.W.nsIn K mainGlobals c=some (some (.ref C))/\H a=some (XO a C dx tr)/\Xe K L H dx tr fs
 |.any=>True
 |.fR lo hi=>H a=some (.fR lo hi)
abbrev O.mut:O->Bool
 |.mZ _=>false
 |.any=>false
 |_=>true
structure Rl(K:Zfr)(L:List Addr)(H:Hp)(st:Store):Prop where
 len:L.length=st.length
 nd:∀(i j:Nat) (a:Addr) (o o':O),L[i]?=some a->L[j]?=some a->st[i]?=some o->st[j]?=some o'->o.mut=true->o'.mut=true->i=j
 obj:∀(i:Nat) (a:Addr) (o:O),L[i]?=some a->st[i]?=some o->tJ K L H a o
section
variable {K:Zfr}{L L' L2:List Addr}{H H' H2:Hp}{st st':Store}{a p:Addr}{i:Nat}{o o':O}{ho:HO}{G:St}{I:ai}
def Rs.mn(h:Rs K L H G I)(m:Mn K L H L' H'):Rs K L' H' G I:=⟨h.1,λi d e=>let ⟨v,e1,r⟩:=h.2 i d e;⟨v,e1,r.mn m⟩⟩
def Rk.mn(m:Mn K L H L' H'){ws:List (Key×V)}{kvs:List (Key×D)}(h:Rk K L H ws kvs):Rk K L' H' ws kvs:=by
 induction h with
 |nil=>exact .nil
 |cons a _ ih=>exact .cons ⟨a.1,a.2.mn m⟩ ih
def Ru.mn(m:Mn K L H L' H'){kvs:List (List Int×D)}{xs:List (List Int×Addr×Value)}(h:Ru K L H kvs xs):Ru K L' H' kvs xs:=by
 induction h with
 |nil=>exact .nil
 |cons a _ ih=>obtain⟨a1,a2,v,a3,a4⟩:=a;exact .cons ⟨a1,m.t _ _ a2,v,a3,a4.mn m⟩ ih
def Rt.mn(m:Mn K L H L' H'){ws:List (List Key×V)}{kvs:List (List Key×D)}(h:Rt K L H ws kvs):Rt K L' H' ws kvs:=by
 induction h with
 |nil=>exact .nil
 |cons a _ ih=>exact .cons ⟨a.1,a.2.mn m⟩ ih
def Xd.mn(m:Mn K L H L' H'){dx:Option Addr}{fs:List (Str×D)}(h:Xd K L H dx fs):Xd K L' H' dx fs:=by
 cases dx with
 |none=>exact h
 |some d=>obtain⟨ws,e,q⟩:=h;exact⟨ws,m.x _ _ e,λf e' z=>let ⟨v,z1,z2⟩:=q f e' z;⟨v,z1,z2.mn m⟩⟩
def Xe.mn(m:Mn K L H L' H'){dx:Option Addr}{tr:Tr}{fs:List (Str×D)}(h:Xe K L H dx tr fs):Xe K L' H' dx tr fs:=⟨h.1.mn m,h.2⟩
def tJ.keep(m:Mn K L H L' H')(h:∀u,H a=some u->H' a=some u)(r:tJ K L H a o):tJ K L' H' a o:=by
 cases o with
 |lst ds=>obtain⟨vs,e,q⟩:=r;exact⟨vs,h _ e,q.mn m⟩
 |mZ ds =>
  obtain⟨vs,e,q⟩:=r;refine⟨vs,?_,q.mn m⟩;rcases e with⟨u,e⟩|e
  exact .inl ⟨u,h _ e⟩;exact .inr e
 |dct kvs=>obtain⟨ws,e,q⟩:=r;exact⟨ws,h _ e,q.mn m⟩
 |zR kvs=>obtain⟨ws,e,q⟩:=r;exact⟨ws,h _ e,q.mn m⟩
 |zS kvs=>obtain⟨ws,e,q⟩:=r;exact⟨ws,h _ e,q.mn m⟩
 |exc c fs=>obtain⟨C,dx,tr,n,e,q⟩:=r;exact⟨C,dx,tr,n,h _ e,q.mn m⟩
 |any=>trivial
 |fR lo hi=>exact h _ r
def Mn.same(s:cL H H'):Mn K L H L H':=⟨λ_ _ h=>h,λ_ _ h=>(Kp.of_same (ch:=[]) s).E3 h,λ_ _ _ h=>s _ _ h,λ_ _ h=>s _ _ h⟩
def Rl.same(l:Rl K L H st)(s:cL H H'):Rl K L H' st:=⟨l.len,l.nd,λi a o h1 h2=>(l.obj i a o h1 h2).keep (Mn.same s) λu e=>s _ _ e⟩
def Rl.at(l:Rl K L H st)(h1:L[i]?=some a)(h2:st[i]?=some o)(hm:o.mut=true):∃u,H a=some u/\∀x y,u≠.kM x y:=by
 have r:=l.obj i a o h1 h2;cases o with
 |lst ds=>obtain⟨vs,e,_⟩:=r;exact⟨_,e,λx y z=>nomatch z⟩
 |mZ ds=>cases hm
 |dct kvs=>obtain⟨ws,e,_⟩:=r;exact⟨_,e,λx y z=>nomatch z⟩
 |zR kvs=>obtain⟨ws,e,_⟩:=r;exact⟨_,e,λx y z=>by cases z⟩
 |zS kvs=>obtain⟨ws,e,_⟩:=r;exact⟨_,e,λx y z=>nomatch z⟩
 |exc c fs=>obtain⟨C,dx,tr,_,e,_⟩:=r;exact⟨_,e,λx y z=>by cases z⟩
 |any=>cases hm
 |fR lo hi=>exact⟨_,r,λx y z=>nomatch z⟩
def Mn.new(hp:H p=none):Mn K L H (L ++ [p]) (upd H p ho):=⟨λi a h=>by
  obtain⟨hi,_⟩:=Ti.mp h
  rw[TX hi];exact h,λ_ _ h=>(Kp.of_same (ch:=[]) (cL.up hp)).E3 h,λ_ _ _ h=>cL.up hp _ _ h,λ_ _ h=>cL.up hp _ _ h⟩
def Rl.new(l:Rl K L H st)(hp:H p=none)(mk:tJ K (L ++ [p]) (upd H p ho) p o):Rl K (L ++ [p]) (upd H p ho) (st ++ [o]):=by
 have m:Mn K L H (L ++ [p]) (upd H p ho):=Mn.new hp;have split:∀(i:Nat) (a:Addr) (o':O),(L ++ [p])[i]?=some a->(st ++ [o])[i]?=some o'->(L[i]?=some a/\st[i]?=some o')\/(i=L.length/\a=p/\o'=o):=λi a o' h1 h2=>by
  by_cases hi:i<L.length;rw[TX hi]at h1;rw[TX (by rw[<- l.len];exact hi)]at h2;exact .inl ⟨h1,h2⟩;obtain⟨hb,_⟩:=Ti.mp h1;rw[Td,UW]at hb;have e:i=L.length:=by lk
  subst e;rw[TU (Tc _),Vh]at h1;rw[l.len,TU (Tc _),Vh]at h2;exact .inr ⟨rfl,(Tq h1).symm,(Tq h2).symm⟩
 refine⟨by rw[Td,Td,l.len];rfl,λi j a u u' h1 h2 h3 h4 m1 m2=>?_,λi a u h1 h2=>?_⟩;rcases split i a u h1 h3 with⟨g1,g2⟩|⟨rfl,rfl,rfl⟩<;>rcases split j _ u' h2 h4 with⟨k1,k2⟩|⟨k1,k2,k3⟩
 exact l.nd i j a u u' g1 k1 g2 k2 m1 m2;subst k2;obtain⟨w,e,_⟩:=l.at g1 g2 m1;rw[e]at hp;cases hp;obtain⟨w,e,_⟩:=l.at k1 k2 m2;rw[e]at hp;cases hp;exact k1.symm;rcases split i a u h1 h2 with⟨g1,g2⟩|⟨rfl,rfl,rfl⟩
 exact(l.obj i a u g1 g2).keep m λw e=>cL.up hp _ _ e;exact mk
def Rl.put(l:Rl K L H st)(hi:L[i]?=some a)(hs:st[i]?=some o)(hm:o.mut=true)(hm':o'.mut=true)(m:Mn K L H L (upd H a ho))(r:tJ K L (upd H a ho) a o'):Rl K L (upd H a ho) (st.set i o'):=by
 obtain⟨w,ew,nf⟩:=l.at hi hs hm;have O6:i<st.length:=(Ti.mp hs).1;have old:∀(j:Nat) (u:O),(st.set i o')[j]?=some u->(j=i/\u=o')\/(j≠i/\st[j]?=some u):=λj u h=>by
  by_cases hj:i=j;subst hj;rw[TB O6]at h;exact .inl ⟨rfl,(Tq h).symm⟩;rw[TQ hj]at h;exact .inr ⟨λz=>hj z.symm,h⟩
 refine⟨by rw[T8];exact l.len,λj k b u u' h1 h2 h3 h4 m1 m2=>?_,λj b u h1 h2=>?_⟩;rcases old j u h3 with⟨rfl,rfl⟩|⟨nj,g3⟩<;>rcases old k u' h4 with⟨rfl,rfl⟩|⟨nk,g4⟩
 rfl;exact l.nd _ _ b o u' h1 h2 hs g4 hm m2;exact l.nd _ _ b u o h1 h2 g3 hs m1 hm;exact l.nd _ _ b u u' h1 h2 g3 g4 m1 m2;rcases old j u h2 with⟨rfl,rfl⟩|⟨nj,g2⟩
 rw[hi]at h1;cases h1;exact r;by_cases hb:b=a;subst hb;cases u with
 |mZ ds =>
  obtain⟨vs,e,q⟩:=l.obj j b _ h1 g2;refine⟨vs,?_,q.mn m⟩;rcases e with⟨x,e⟩|e
  rw[ew]at e;cases e;exact absurd rfl (nf _ _);exact .inr e
 |lst ds=>exact absurd (l.nd j i b _ o h1 hi g2 hs rfl hm) nj
 |zR ds=>exact absurd (l.nd j i b _ o h1 hi g2 hs rfl hm) nj
 |zS ds=>exact absurd (l.nd j i b _ o h1 hi g2 hs rfl hm) nj
 |exc c fs=>exact absurd (l.nd j i b _ o h1 hi g2 hs rfl hm) nj
 |dct ds=>exact absurd (l.nd j i b _ o h1 hi g2 hs rfl hm) nj
 |any=>trivial
 |fR lo up=>exact absurd (l.nd j i b _ o h1 hi g2 hs rfl hm) nj
 exact(l.obj j b u h1 g2).keep m λw e=>by rw[b8 hb];exact e
def Mn.put{xs:List V}(e:H a=some (.lst xs)):Mn K L H L (upd H a ho):=⟨λ_ _ h=>h,λb vs h=>(Kp.put (ch:=[a]) (o:=ho) Kp.refl (by simp) e).E3 h,λb o u h=>by rw[b8 (λz=>by rw[z,e]at h;cases h)];exact h,λb ws h=>by rw[b8 (λz=>by rw[z,e]at h;cases h)];exact h⟩
def Rl.newL{vs:List V}{ds:List D}(l:Rl K L H st)(hp:H p=none)(r:bt K L H vs ds):Rl K (L ++ [p]) (upd H p (.lst vs)) (st ++ [.lst ds]):=l.new hp ⟨vs,h8,r.mn (Mn.new hp)⟩
def newR(l:Rl K L H st)(v:D:=.ref st.length):(L ++ [p])[st.length]?=some p:=by rw[<- l.len,TU (Tc _),Vh];rfl
def Rl.putL{vs:List V}{ds xs:List D}(l:Rl K L H st)(hi:L[i]?=some a)(hs:st[i]?=some (.lst xs))(r:bt K L H vs ds):Rl K L (upd H a (.lst vs)) (st.set i (.lst ds))/\Mn K L H L (upd H a (.lst vs)):=by obtain⟨ws,e,_⟩:=l.obj i a _ hi hs;have m:Mn K L H L (upd H a (.lst vs)):=Mn.put e;exact⟨l.put hi hs rfl rfl m ⟨vs,h8,r.mn m⟩,m⟩
abbrev items(st:Store)(i:Nat):Option (List D):=match st[i]? with
 |some (.lst ds)=>some ds
 |some (.mZ ds)=>some ds
 |_=>none
def Rl.items{ds:List D}(l:Rl K L H st)(hi:L[i]?=some a)(h:items st i=some ds):∃vs,fG K H a vs/\bt K L H vs ds:=by
 unfold L4.items at h;split at h
 ·next ds' hs=>cases h;obtain⟨vs,e,r⟩:=l.obj i a _ hi hs;exact⟨vs,.inl (.inl e),r⟩
 ·next ds' hs=>cases h;obtain⟨vs,e,r⟩:=l.obj i a _ hi hs;exact⟨vs,e.sq,r⟩
 ·cases h
end
abbrev So(K:Zfr){J U:Type}(R:List Addr->Hp->J->U->Prop)(t:St->Hp->(J->Hp->Prop)->Prop)(f:ai->Dm U):Prop :=
 ∀(L:List Addr) (G:St) (H:Hp) (I:ai) (st:Store) (b:U) (st':Store) (Q:J->Hp->Prop),Rl K L H st->Rs K L H G I->f I st=some (b,st') ->
  (∀a H' L',Mn K L H L' H'->Rl K L' H' st'->R L' H' a b->Q a H')->t G H Q
@[reducible]def dv(K:Zfr)(t:TE)(f:ai->Dm D):Prop:=So K (Rp K) t f
@[reducible]def m8(K:Zfr)(t:TT)(f:ai->Dm Bool):Prop:=So K (λ_ _=>Eq) t f
@[reducible]def kW(K:Zfr)(t:TA)(f:ai->Dm (List D)):Prop:=So K (bt K) t f
@[reducible]def De(K:Zfr)(t:TO)(f:ai->Dm (Option Int)):Prop:=So K (λ_ _=>Eq) t f
abbrev Df(K:Zfr)(r:V->Hp->VK->Prop)(g:D->Dm D):Prop :=
 ∀(L:List Addr) (H:Hp) (st:Store) (x:V) (a:D) (b:D) (st':Store) (Q:VK),Rl K L H st->Rp K L H x a->g a st=some (b,st')->(∀v H' L',Mn K L H L' H'->Rl K L' H' st'->Rp K L' H' v b->Q v H')->r x H Q
abbrev jx(K:Zfr)(r:R2)(g:D->D->Dm D):Prop :=
 ∀(L:List Addr) (H:Hp) (st:Store) (x y:V) (a c:D) (b:D) (st':Store) (Q:VK),Rl K L H st->Rp K L H x a->Rp K L H y c->g a c st=some (b,st')->(∀v H' L',Mn K L H L' H'->Rl K L' H' st'->Rp K L' H' v b->Q v H')->r x y H Q
abbrev nV(K:Zfr)(r:List V->Hp->VK->Prop)(g:List D->Dm D):Prop :=
 ∀(L:List Addr) (H:Hp) (st:Store) (xs:List V) (as:List D) (b:D) (st':Store) (Q:VK),Rl K L H st->bt K L H xs as->g as st=some (b,st')->(∀v H' L',Mn K L H L' H'->Rl K L' H' st'->Rp K L' H' v b->Q v H')->r xs H Q
abbrev xW(K:Zfr)(T:String)(r:V->List V->Hp->VK->Prop)(g:D->List D->Dm D):Prop :=
 ∀(L:List Addr) (H:Hp) (st:Store) (x:V) (xs:List V) (a:D) (as:List D) (b:D) (st':Store) (Q:VK),Rl K L H st->Rp K L H x a->bt K L H xs as->g a as st=some (b,st')->(∀v H' L',Mn K L H L' H'->Rl K L' H' st'->Rp K L' H' v b->Q v H')->r x xs H Q
abbrev bnd{J U:Type}(m:Option (J×Store))(k:J->Dm U):Option (U×Store):=match m with
 |some (a,st)=>k a st
 |none=>none
def bq{J U:Type}{m:Option (J×Store)}{k:J->Dm U}{r:U×Store}(h:bnd m k=some r):∃a st,m=some (a,st)/\k a st=some r:=by
 cases m with
 |none=>cases h
 |some p=>exact⟨p.1,p.2,rfl,h⟩
section
variable {K:Zfr}
abbrev ag(i:Nat):ai->Dm D:=λI st=>match I[i]? with
 |some (some d)=>some (d,st)
 |_=>none
def aX(i:Nat):dv K (lA i) (ag i):=by
 intro L G H I st b st' Q l rs e q;unfold ag at e;split at e
 ·next d hd=>cases e;obtain⟨v,ev,r⟩:=rs.2 i _ hd;exact⟨v,ev,q v H L .refl l r⟩
 ·cases e
abbrev fC(d:D):ai->Dm D:=λ_ st=>some (d,st)
def qp{v:V}{d:D}(h:∀L H,Rp K L H v d):dv K (tC v) (fC d):=by intro L G H I st b st' Q l rs e q;cases e;exact q v H L .refl l (h L H)
def gR(i:Int):dv K (tC (.int i)) (fC (.int i)):=qp λ_ _=>.int i
def FU(b:Bool):dv K (tC (.bl b)) (fC (.bl b)):=qp λ_ _=>.bl b
def jY(x:Str):dv K (tC (.str x)) (fC (.str x)):=qp λ_ _=>.str x
def xX:dv K (tC .non) (fC .non):=qp λ_ _=>.non
abbrev aF(g:D->D->Dm D)(fa fb:ai->Dm D):ai->Dm D:=λI st=>bnd (fa I st) λa st1=>bnd (fb I st1) λb st2=>g a b st2
def dP{r:R2}{g:D->D->Dm D}{ta tb:TE}{fa fb:ai->Dm D}(hr:jx K r g)(ha:dv K ta fa)(hb:dv K tb fb):dv K (yN r ta tb) (aF g fa fb):=by intro L G H I st b st' Q l rs e q;obtain⟨a,st1,e1,e⟩:=bq e;obtain⟨c,st2,e2,e⟩:=bq e;refine ha L G H I st a st1 _ l rs e1 λx H1 L1 m1 l1 r1=>hb L1 G H1 I st1 c st2 _ l1 (rs.mn m1) e2 λy H2 L2 m2 l2 r2=>?_;exact hr L2 H2 st2 x y a c b st' Q l2 (r1.mn m2) r2 e λv H3 L3 m3 l3 r3=>q v H3 L3 ((m1.trans m2).trans m3) l3 r3
abbrev Dg(g:D->Dm D)(fa:ai->Dm D):ai->Dm D:=λI st=>bnd (fa I st) λa st1=>g a st1
def zT{r:V->Hp->VK->Prop}{g:D->Dm D}{ta:TE}{fa:ai->Dm D}(hr:Df K r g)(ha:dv K ta fa):dv K (HS r ta) (Dg g fa):=by intro L G H I st b st' Q l rs e q;obtain⟨a,st1,e1,e⟩:=bq e;exact ha L G H I st a st1 _ l rs e1 λx H1 L1 m1 l1 r1=>hr L1 H1 st1 x a b st' Q l1 r1 e λv H3 L3 m3 l3 r3=>q v H3 L3 (m1.trans m3) l3 r3
def vy{r:V->Hp->VK->Prop}{g:D->Dm D}{ta:TE}{fa:ai->Dm D}(hr:Df K r g)(ha:dv K ta fa):dv K (λG H Q=>ta G H λx H1=>r x H1 Q) (Dg g fa):=zT hr ha
abbrev ah:ai->Dm (List D):=λ_ st=>some ([],st)
abbrev ae(fa:ai->Dm D)(fr:ai->Dm (List D)):ai->Dm (List D):=λI st=>bnd (fa I st) λa st1=>bnd (fr I st1) λr st2=>some (a :: r,st2)
def bU:kW K pV ah:=by intro L G H I st b st' Q l rs e q;cases e;exact q [] H L .refl l .nil
def bj{ta:TE}{tr:TA}{fa:ai->Dm D}{fr:ai->Dm (List D)}(ha:dv K ta fa)(hr:kW K tr fr):kW K (jI ta tr) (ae fa fr):=by intro L G H I st b st' Q l rs e q;obtain⟨a,st1,e1,e⟩:=bq e;obtain⟨c,st2,e2,e⟩:=bq e;cases e;exact ha L G H I st a st1 _ l rs e1 λx H1 L1 m1 l1 r1=>hr L1 G H1 I st1 c _ _ l1 (rs.mn m1) e2 λy H2 L2 m2 l2 r2=>q _ H2 L2 (m1.trans m2) l2 (.cons (r1.mn m2) r2)
abbrev lim(n:Nat):Bool:=Nat.ble n 100000
def tK{n:Nat}(h:lim n=true):n<=sizeLine:=TF (U9 h) ∅
def JV{n:Nat}(h:lim n=true):n<sizeLine:=UD (U9 h) ∅
abbrev dC(fa:ai->Dm (List D)):ai->Dm D:=λI st=>bnd (fa I st) λas st1=>if lim as.length=true then some (.tup as,st1)else none
def zU{ta:TA}{fa:ai->Dm (List D)}(ha:kW K ta fa):dv K (rm ta) (dC fa):=by
 intro L G H I st b st' Q l rs e q;obtain⟨as,st1,e1,e⟩:=bq e;split at e
 ·next hl =>
  cases e;refine ha L G H I st as _ _ l rs e1 λxs H1 L1 m1 l1 r1=>⟨by rw[r1.length];exact tK hl,λp hp=>?_⟩;have m2:Mn K L1 H1 L1 (upd H1 p (.tup xs)):=Mn.same (cL.up hp);exact q _ _ L1 (m1.trans m2) (l1.same (cL.up hp)) (.tup (df.of h8) (r1.mn m2))
 ·cases e
abbrev cw(fa:ai->Dm (List D)):ai->Dm D:=λI st=>bnd (fa I st) λas st1=>if lim as.length=true then some (.ref st1.length,st1 ++ [.lst as])else none
def vz{ta:TA}{fa:ai->Dm (List D)}(ha:kW K ta fa):dv K (yU ta) (cw fa):=by
 intro L G H I st b st' Q l rs e q;obtain⟨as,st1,e1,e⟩:=bq e;split at e
 ·next hl =>
  cases e;refine ha L G H I st as _ _ l rs e1 λxs H1 L1 m1 l1 r1=>⟨by rw[r1.length];exact tK hl,λp hp=>?_⟩;exact q _ _ _ (m1.trans (Mn.new hp)) (l1.newL hp r1) (.ref (newR l1))
 ·cases e
abbrev aA(fa:ai->Dm D):ai->Dm Bool:=λI st=>bnd (fa I st) λa st1=>match a with
 |.bl b=>some (b,st1)
 |_=>none
def kC{ta:TE}{fa:ai->Dm D}(ha:dv K ta fa):m8 K (pS ta) (aA fa):=by intro L G H I st b st' Q l rs e q;obtain⟨a,st1,e1,e⟩:=bq e;cases a<;>simp at e;obtain⟨rfl,rfl⟩:=e;refine ha L G H I st _ _ _ l rs e1 λx H1 L1 m1 l1 r1=>?_;cases r1;exact⟨_,rfl,q _ H1 L1 m1 l1 rfl⟩
def xY{ta:TE}{fa:ai->Dm D}(ha:dv K ta fa):m8 K (tB ta) (aA fa):=kC ha
abbrev lM(fa:ai->Dm Bool):ai->Dm Bool:=λI st=>bnd (fa I st) λa st1=>some (!a,st1)
def zV{ta:TT}{fa:ai->Dm Bool}(ha:m8 K ta fa):m8 K (yC ta) (lM fa):=by intro L G H I st b st' Q l rs e q;obtain⟨a,st1,e1,e⟩:=bq e;cases e;exact ha L G H I st _ _ _ l rs e1 λx H1 L1 m1 l1 r1=>q _ H1 L1 m1 l1 (by rw[r1])
abbrev rM(fa fb:ai->Dm Bool):ai->Dm Bool:=λI st=>bnd (fa I st) λa st1=>if a=true then fb I st1 else some (false,st1)
abbrev lN(fa fb:ai->Dm Bool):ai->Dm Bool:=λI st=>bnd (fa I st) λa st1=>if a=true then some (true,st1)else fb I st1
def JW{ta tb:TT}{fa fb:ai->Dm Bool}(ha:m8 K ta fa)(hb:m8 K tb fb):m8 K (yB ta tb) (rM fa fb):=by
 intro L G H I st b st' Q l rs e q;obtain⟨a,st1,e1,e⟩:=bq e;refine ha L G H I st _ _ _ l rs e1 λx H1 L1 m1 l1 r1=>?_;subst r1;cases x with
 |true =>
  refine nK ?_;rw[if_pos rfl]at e;exact hb L1 G H1 I st1 b st' _ l1 (rs.mn m1) e λy H2 L2 m2 l2 r2=>q y H2 L2 (m1.trans m2) l2 r2
 |false =>
  refine nJ ?_;rw[if_neg Tb]at e;cases e;exact q _ H1 L1 m1 l1 rfl
def rO{ta tb:TT}{fa fb:ai->Dm Bool}(ha:m8 K ta fa)(hb:m8 K tb fb):m8 K (HL ta tb) (lN fa fb):=by
 intro L G H I st b st' Q l rs e q;obtain⟨a,st1,e1,e⟩:=bq e;refine ha L G H I st _ _ _ l rs e1 λx H1 L1 m1 l1 r1=>?_;subst r1;cases x with
 |false =>
  refine nJ ?_;rw[if_neg Tb]at e;exact hb L1 G H1 I st1 b st' _ l1 (rs.mn m1) e λy H2 L2 m2 l2 r2=>q y H2 L2 (m1.trans m2) l2 r2
 |true =>
  refine nK ?_;rw[if_pos rfl]at e;cases e;exact q _ H1 L1 m1 l1 rfl
abbrev oO(fa fb:ai->Dm D):ai->Dm D:=λI st=>bnd (aA fa I st) λa st1=>if a=true then fb I st1 else some (.bl false,st1)
abbrev zX(fa fb:ai->Dm D):ai->Dm D:=λI st=>bnd (aA fa I st) λa st1=>if a=true then some (.bl true,st1)else fb I st1
abbrev tL(fa:ai->Dm D):ai->Dm D:=λI st=>bnd (aA fa I st) λa st1=>some (.bl (!a),st1)
def O7{fa:ai->Dm D}{I:ai}{st st1:Store}{b:Bool}(h:aA fa I st=some (b,st1)):fa I st=some (.bl b,st1):=by obtain⟨a,st2,e1,e⟩:=bq h;cases a<;>simp at e;obtain⟨rfl,rfl⟩:=e;exact e1
def JX{ta tb:TE}{fa fb:ai->Dm D}(ha:dv K ta fa)(hb:dv K tb fb):dv K (sF ta tb) (oO fa fb):=by
 intro L G H I st b st' Q l rs e q;obtain⟨a,st1,e1,e⟩:=bq e;refine ha L G H I st _ _ _ l rs (O7 e1) λx H1 L1 m1 l1 r1=>?_;cases r1;refine⟨a,rfl,?_⟩;cases a with
 |true =>
  refine nK ?_;rw[if_pos rfl]at e;exact hb L1 G H1 I st1 b st' _ l1 (rs.mn m1) e λy H2 L2 m2 l2 r2=>q y H2 L2 (m1.trans m2) l2 r2
 |false =>
  refine nJ ?_;rw[if_neg Tb]at e;cases e;exact q _ H1 L1 m1 l1 (.bl _)
abbrev fT{U:Type}(c:ai->Dm Bool)(fa fb:ai->Dm U):ai->Dm U:=λI st=>bnd (c I st) λa st1=>if a=true then fa I st1 else fb I st1
abbrev aK:ai->Dm (Option Int):=λ_ st=>some (none,st)
abbrev bp(fa:ai->Dm D):ai->Dm (Option Int):=λI st=>bnd (fa I st) λa st1=>match a with
 |.int i=>some (some i,st1)
 |_=>none
def m9:De K oz aK:=by intro L G H I st b st' Q l rs e q;cases e;exact q _ H L .refl l rfl
def ng{ta:TE}{fa:ai->Dm D}(ha:dv K ta fa):De K (sT ta) (bp fa):=by intro L G H I st b st' Q l rs e q;obtain⟨a,st1,e1,e⟩:=bq e;cases a<;>simp at e;obtain⟨rfl,rfl⟩:=e;refine ha L G H I st _ _ _ l rs e1 λx H1 L1 m1 l1 r1=>?_;cases r1;exact⟨_,rfl,q _ H1 L1 m1 l1 rfl⟩
abbrev rP(K:Zfr)(r:V->Option Int->Option Int->Hp->VK->Prop)(g:D->Option Int->Option Int->Dm D):Prop :=
 ∀lo hi,Df K (λx=>r x lo hi) (λa=>g a lo hi)
abbrev jy(g:D->Option Int->Option Int->Dm D)(fa:ai->Dm D)(fl fh:ai->Dm (Option Int)):ai->Dm D:=λI st=>bnd (fa I st) λa st1=>bnd (fl I st1) λlo st2=>bnd (fh I st2) λhi st3=>g a lo hi st3
def nh{r:V->Option Int->Option Int->Hp->VK->Prop}{g:D->Option Int->Option Int->Dm D}{ta:TE}{tl th:TO}{fa:ai->Dm D}{fl fh:ai->Dm (Option Int)}(hr:rP K r g)(ha:dv K ta fa)(hl:De K tl fl)(hh:De K th fh):dv K (Iz r ta tl th) (jy g fa fl fh):=by intro L G H I st b st' Q l rs e q;obtain⟨a,st1,e1,e⟩:=bq e;obtain⟨lo,st2,e2,e⟩:=bq e;obtain⟨hi,st3,e3,e⟩:=bq e;refine ha L G H I st a st1 _ l rs e1 λx H1 L1 m1 l1 r1=>hl L1 G H1 I st1 lo st2 _ l1 (rs.mn m1) e2 λy H2 L2 m2 l2 r2=>hh L2 G H2 I st2 hi st3 _ l2 (rs.mn (m1.trans m2)) e3 λz H3 L3 m3 l3 r3=>?_;subst r2 r3;exact hr y z L3 H3 st3 x a b st' Q l3 (r1.mn (m2.trans m3)) e λv H4 L4 m4 l4 r4=>q v H4 L4 (((m1.trans m2).trans m3).trans m4) l4 r4
abbrev aQ(g:List D->Dm D)(fa:ai->Dm (List D)):ai->Dm D:=λI st=>bnd (fa I st) λas st1=>g as st1
def mB{r:List V->Hp->VK->Prop}{g:List D->Dm D}{ta:TA}{fa:ai->Dm (List D)}(hr:nV K r g)(ha:kW K ta fa):dv K (yW r ta) (aQ g fa):=by intro L G H I st b st' Q l rs e q;obtain⟨as,st1,e1,e⟩:=bq e;exact ha L G H I st as st1 _ l rs e1 λx H1 L1 m1 l1 r1=>hr L1 H1 st1 x as b st' Q l1 r1 e λv H3 L3 m3 l3 r3=>q v H3 L3 (m1.trans m3) l3 r3
abbrev ie(K:Zfr)(n:Nat)(F:List D->Dm D):Sp:=λvs H Q _=>vs.length=n/\∃(L:List Addr) (st:Store) (ds:List D) (b:D) (st':Store),Rl K L H st/\bt K L H vs ds/\F ds st=some (b,st') /\
 ∀v H' L',Mn K L H L' H'->Rl K L' H' st'->Rp K L' H' v b->Q v H'
def pF{n:Nat}{F:List D->Dm D}{ta:TA}{fa:ai->Dm (List D)}{E:XK}(ha:kW K ta fa)(hn:∀I st as st',fa I st=some (as,st')->as.length=n):dv K (kP (ie K n F) [] E ta) (aQ F fa):=by intro L G H I st b st' Q l rs e q;obtain⟨as,st1,e1,e⟩:=bq e;refine ha L G H I st as st1 _ l rs e1 λvs H1 L1 m1 l1 r1=>⟨?_,L1,st1,as,b,st',l1,?_,e,λv H3 L3 m3 l3 r3=>q v H3 L3 (m1.trans m3) l3 r3⟩;rw[T5,r1.length];exact hn _ _ _ _ e1;rw[T5];exact r1
def JY{I:ai}{st st':Store}{as:List D}(h:ah I st=some (as,st')):as.length=0:=by cases h;rfl
def Dh{fa:ai->Dm D}{fr:ai->Dm (List D)}{n:Nat}(hr:∀I st as st',fr I st=some (as,st')->as.length=n):∀I st as st',ae fa fr I st=some (as,st')->as.length=n+1:=λI st as st' h=>by
 obtain⟨a,st1,e1,e⟩:=bq h;obtain⟨c,st2,e2,e⟩:=bq e;cases e;rw[Tf,hr _ _ _ _ e2]
end
end L4
namespace L4
open PySem PySem.Spec L2
section
variable {K:Zfr}
abbrev tM(h:Int->Int->D):D->D->Dm D
 |.int i,.int j,st=>some (h i j,st)
 |_,_,_=>none
def xZ{gv:Int->Int->V}{h:Int->Int->D}(hh:∀i j L H,Rp K L H (gv i j) (h i j)):jx K (nF gv) (tM h):=by intro L H st x y a c b st' Q l rx ry e q;unfold tM at e;split at e;cases e;cases rx;cases ry;exact⟨_,_,rfl,rfl,q _ H L .refl l (hh _ _ L H)⟩;cases e
abbrev vA(c:Int->Int->Bool)(h:Int->Int->D):D->D->Dm D
 |.int i,.int j,st=>if c i j=true then some (h i j,st)else none
 |_,_,_=>none
def Di{C:Int->Int->Prop}{c:Int->Int->Bool}{gv:Int->Int->V}{h:Int->Int->D}(hc:∀i j,c i j=true->C i j)(hh:∀i j L H,Rp K L H (gv i j) (h i j)):jx K (rI C gv) (vA c h):=by
 intro L H st x y a d b st' Q l rx ry e q;unfold vA at e;split at e
 ·split at e
  ·next hcc=>cases e;cases rx;cases ry;exact⟨_,_,rfl,rfl,hc _ _ hcc,q _ H L .refl l (hh _ _ L H)⟩
  ·cases e
 ·cases e
abbrev dD:D->D->Dm D:=tM λi j=>.int (i+j)
abbrev nB:D->D->Dm D:=tM λi j=>.int (i-j)
abbrev kf:D->D->Dm D:=vA (λi j=>decide (-18446744073709551616<i/\i<18446744073709551616) || decide (-18446744073709551616<j/\j<18446744073709551616)) λi j=>.int (i*j)
abbrev mC:D->D->Dm D:=vA (λi j=>decide (0<j/\j<1073741824)) λi j=>.int (i / j)
abbrev kg:D->D->Dm D:=vA (λi j=>decide (0<j)) λi j=>.int (i % j)
abbrev qq:D->D->Dm D:=vA (λi j=>decide (0<=j/\j<=1000000/\i.natAbs<18446744073709551616)) λi j=>.int (i ^ j.toNat)
abbrev qr:D->D->Dm D:=tM λi j=>.bl (decide (i<j))
abbrev zY:D->D->Dm D:=tM λi j=>.bl (decide (i<=j))
abbrev qO:D->D->Dm D:=tM λi j=>.bl (decide (j<i))
abbrev Dj:D->D->Dm D:=tM λi j=>.bl (decide (j<=i))
def tN:jx K (nF λi j=>.int (i+j)) dD:=xZ λ_ _ _ _=>.int _
def JZ:jx K (nF λi j=>.int (i-j)) nB:=xZ λ_ _ _ _=>.int _
def J4:jx K (rI rk λi j=>.int (i*j)) kf:=Di (λi j h=>by
 rw[Bool.or_eq_true,decide_eq_true_eq,decide_eq_true_eq]at h
 exact h) λ_ _ _ _=>.int _
def J5:jx K (rI yQ λi j=>.int (i / j)) mC:=Di (λi j h=>of_decide_eq_true (p:=0<j/\j<1073741824) h) λ_ _ _ _=>.int _
def J7:jx K (rI (λ_ j=>0<j) λi j=>.int (i % j)) kg:=Di (λi j h=>of_decide_eq_true h) λ_ _ _ _=>.int _
def J8:jx K (rI yR λi j=>.int (i ^ j.toNat)) qq:=Di (λi j h=>by have h:=of_decide_eq_true (p:=0<=j/\j<=1000000/\i.natAbs<18446744073709551616) h;exact⟨h.1,h.2.1,by lk⟩) λ_ _ _ _=>.int _
def x3:jx K (nF λi j=>.bl (decide (i<j))) qr:=xZ λ_ _ _ _=>.bl _
def tO:jx K (nF λi j=>.bl (decide (i<=j))) zY:=xZ λ_ _ _ _=>.bl _
def zZ:jx K (nF λi j=>.bl (decide (j<i))) qO:=xZ λ_ _ _ _=>.bl _
def FV:jx K (nF λi j=>.bl (decide (j<=i))) Dj:=xZ λ_ _ _ _=>.bl _
abbrev FW:D->Dm D
 |.int i,st=>some (.int (-i),st)
 |_,_=>none
abbrev sV:D->Option V
 |.non=>some .non
 |.bl b=>some (.bl b)
 |.int i=>some (.int i)
 |.str x=>some (.str x)
 |_=>none
def x4{L:List Addr}{H:Hp}{x v:V}{a:D}(r:Rp K L H x a)(h:sV a=some v):x=v:=by cases r<;>first|(cases h;rfl)|cases h
abbrev jK(neg:Bool):D->D->Dm D:=λa b st=>match sV a,sV b with
 |some x,some y=>if nG x y=true then some (.bl (if neg then !decide (x=y)else decide (x=y)),st)else none
 |_,_=>none
def vB:jx K HX (jK false):=by
 intro L H st x y a c b st' Q l rx ry e q;unfold jK at e;split at e
 ·next u v h1 h2 =>
  split at e
  ·next hs=>cases e;cases x4 rx h1;cases x4 ry h2;exact⟨hs,q _ H L .refl l (.bl _)⟩
  ·cases e
 ·cases e
def Dk:jx K HY (jK true):=by
 intro L H st x y a c b st' Q l rx ry e q;unfold jK at e;split at e
 ·next u v h1 h2 =>
  split at e
  ·next hs=>cases e;cases x4 rx h1;cases x4 ry h2;exact⟨hs,q _ H L .refl l (.bl _)⟩
  ·cases e
 ·cases e
abbrev bL{J U:Type}(f:J->Option U):List J->Option (List U)
 |[]=>some []
 |a :: r=>match f a,bL f r with
  |some b,some s=>some (b :: s)
  |_,_=>none
def tP{J U:Type}{f:J->Option U}{a:J}{r:List J}{s:List U}(h:bL f (a :: r)=some s):∃b t,f a=some b/\bL f r=some t/\s=b :: t:=by
 unfold bL at h;split at h
 ·next b t h1 h2=>cases h;exact⟨b,t,h1,h2,rfl⟩
 ·cases h
def vC{J U γ:Type}{f:J->Option U}{g:γ->J}{k:γ->U}(h:∀c,f (g c)=some (k c)):∀l:List γ,bL f (l.map g)=some (l.map k)
 |[]=>rfl
 |c :: r=>by
  show bL f (g c :: r.map g)=_;unfold bL;rw[h c,vC h r];rfl
abbrev jm(st:Store):Nat->D->Option PyData
 |0,_=>none
 |_+1,.non=>some .none
 |_+1,.bl b=>some (.bool b)
 |_+1,.int i=>some (.int i)
 |_+1,.str x=>some (.str x)
 |_+1,.ty _=>none
 |n+1,.tup ds=>(bL (jm st n) ds).map PyData.tuple
 |n+1,.ref i=>match items st i with
  |some ds=>(bL (jm st n) ds).map PyData.list
  |none=>none
def x5{L:List Addr}{H:Hp}{st:Store}(l:Rl K L H st):∀(n:Nat) {v:V} {d:D} {p:PyData},Rp K L H v d->jm st n d=some p->Rep K H v p
 |0,_,_,_,_,h=>by simp[jm]at h
 |n+1,v,d,p,r,h=>by
  have all:∀{vs:List V} {ds:List D} {ps:List PyData},bt K L H vs ds->bL (jm st n) ds=some ps->fH K H vs ps:=by
   intro vs ds ps rr
   induction vs generalizing ds ps with
   |nil=>intro hm;cases rr;cases hm;exact .nil
   |cons w ws ih =>
    intro hm;cases rr with
    |cons ra rb =>
     obtain⟨b,t,h1,h2,rfl⟩:=tP hm;exact .cons (x5 l n ra h1) (ih rb h2)
  cases r with
  |non=>simp[jm]at h;subst h;exact .non
  |bl b=>simp[jm]at h;subst h;exact .bl b
  |int i=>simp[jm]at h;subst h;exact .int i
  |str x=>simp[jm]at h;subst h;exact .str x
  |ty n=>simp[jm]at h
  |ref hi =>
   simp only[jm]at h;split at h
   ·next ds hd =>
    obtain⟨ps,h1,rfl⟩:=TM.mp h;obtain⟨vs,e,rr⟩:=l.items hi hd;exact .lst e (all rr h1)
   ·cases h
  |tup q rr =>
   simp only[jm]at h;obtain⟨ps,h1,rfl⟩:=TM.mp h;exact .tup q (all rr h1)
abbrev lO(neg:Bool):D->D->Dm D:=λa b st=>match jm st 20 a,jm st 20 b with
 |some p,some q=>if(PyData.canLay0 p && PyData.canLay0 q && decide (min p.depth q.depth<=60))=true then some (.bl (if neg then !PyData.eqv p q else PyData.eqv p q),st)else none
 |_,_=>none
def J9(neg:Bool):jx K (uU K neg) (lO neg):=by
 intro L H st x y a c b st' Q l rx ry e q;unfold lO at e;split at e
 ·next u v h1 h2 =>
  split at e
  ·next hs =>
   cases e;rw[Tz,Tz,decide_eq_true_eq]at hs;exact⟨u,v,x5 l 20 rx h1,x5 l 20 ry h2,hs.1.1,hs.1.2,hs.2,q _ H L .refl l (.bl _)⟩
  ·cases e
 ·cases e
def at_of{L:List Addr}{H:Hp}{vs:List V}{ds:List D}{i:Int}{d:D}(r:bt K L H vs ds)(h:iH ds i=some d):∃v,iH vs i=some v/\Rp K L H v d:=by
 unfold iH at h ⊢;rw[r.length];cases hx:kR ds.length i with
 |none=>rw[hx]at h;cases h
 |some j =>
  rw[hx]at h;exact r.got h
abbrev je:D->D->Dm D
 |.tup ds,.int i,st=>match iH ds i with
  |some d=>some (d,st)
  |none=>none
 |_,_,_=>none
def Aa:jx K (zc K) je:=by
 intro L H st x y a c b st' Q l rx ry e q;unfold je at e;split at e
 ·split at e
  ·next d hd =>
   cases e;cases ry;cases rx with
   |tup s r =>
    obtain⟨v,hv,rv⟩:=at_of r hd;exact⟨_,_,_,v,rfl,rfl,s,hv,q v H L .refl l rv⟩
  ·cases e
 ·cases e
abbrev cx:D->D->Dm D
 |.ref r,.int i,st=>match items st r with
  |some ds=>match iH ds i with
   |some d=>some (d,st)
   |none=>none
  |none=>none
 |_,_,_=>none
def tQ:jx K (zb K) cx:=by
 intro L H st x y a c b st' Q l rx ry e q;unfold cx at e;split at e
 ·split at e
  ·next ds hi =>
   split at e
   ·next d hd =>
    cases e;cases ry;cases rx with
    |ref hr =>
     obtain⟨vs,s,r⟩:=l.items hr hi;obtain⟨v,hv,rv⟩:=at_of r hd;exact⟨_,_,_,v,rfl,rfl,s,hv,q v H L .refl l rv⟩
   ·cases e
  ·cases e
 ·cases e
abbrev mD:D->D->Dm D
 | .str z,.int i,st=>if lim z.length=true then match iH z.cps.toList i with
   |some c=>some (.str ⟨#[c]⟩,st)
   |none=>none
  else none
 |_,_,_=>none
def FX:jx K zd mD:=by
 intro L H st x y a c b st' Q l rx ry e q;unfold mD at e;split at e
 ·split at e
  ·next hl =>
   split at e
   ·next d hd =>
    cases e;cases ry;cases rx;exact⟨_,_,d,rfl,rfl,tK hl,hd,q _ H L .refl l (.str _)⟩
   ·cases e
  ·cases e
 ·cases e
abbrev cutD(xs:List D)(lo hi:Option Int):List D:=(xs.drop (HT.bT xs.length 0 lo)).take (HT.bT xs.length xs.length hi-HT.bT xs.length 0 lo)
def bt.cut{L:List Addr}{H:Hp}{vs:List V}{ds:List D}(r:bt K L H vs ds)(lo hi:Option Int):bt K L H (j8 vs lo hi) (cutD ds lo hi):=by unfold j8 cutD;rw[r.length];exact(r.drop _).take _
abbrev rQ:D->Option Int->Option Int->Dm D
 |.tup ds,lo,hi,st=>some (.tup (cutD ds lo hi),st)
 |_,_,_,_=>none
def got{L:List Addr}{H:Hp}{st:Store}{vs:List V}{ds:List D}{Q:VK}(l:Rl K L H st)(r:bt K L H vs ds)(q:∀v H' L',Mn K L H L' H'->Rl K L' H' st->Rp K L' H' v (.tup ds)->Q v H'):nL K H vs Q :=
 λp H' s e=>q _ H' L (Mn.same e) (l.same e) (.tup s (r.mn (Mn.same e)))
def FY:rP K (tf K) rQ:=by
 intro lo hi L H st x a b st' Q l rx e q;cases a with
 |tup ds =>
  cases e;cases rx with
  |tup s r=>exact⟨_,_,rfl,s,got l (r.cut lo hi) q⟩
 |_=>cases e
abbrev eL:D->Option Int->Option Int->Dm D
 |.ref r,lo,hi,st=>match items st r with
  |some ds=>some (.ref st.length,st ++ [.lst (cutD ds lo hi)])
  |none=>none
 |_,_,_,_=>none
def qt:rP K (ze K) eL:=by
 intro lo hi L H st x a b st' Q l rx e q;cases a with
 |ref i =>
  simp only[eL]at e;split at e
  ·next ds hd =>
   cases e;cases rx with
   |ref hr =>
    obtain⟨vs,s,r⟩:=l.items hr hd;exact⟨_,_,rfl,s,λp hp=>q _ _ _ (Mn.new hp) (l.newL hp (r.cut lo hi)) (.ref (newR l))⟩
  ·cases e
 |_=>cases e
abbrev oP:D->Dm D
 |.ref i,st=>match items st i with
  |some ds=>some (.ref st.length,st ++ [.lst ds.reverse])
  |none=>none
 |_,_=>none
def O8:Df K (λx H Q=>∃a xs,x=.ref a/\fG K H a xs/\∀p,H p=none->Q (.ref p) (upd H p (.lst xs.reverse))) oP:=by
 intro L H st x a b st' Q l rx e q;cases a with
 |ref i =>
  simp only[oP]at e;split at e
  ·next ds hd =>
   cases e;cases rx with
   |ref hr =>
    obtain⟨vs,s,r⟩:=l.items hr hd;exact⟨_,_,rfl,s,λp hp=>q _ _ _ (Mn.new hp) (l.newL hp r.reverse) (.ref (newR l))⟩
  ·cases e
 |_=>cases e
abbrev oQ:D->D->Dm D
 |.tup a,.tup b,st=>if lim (a.length+b.length)=true then some (.tup (a ++ b),st)else none
 |_,_,_=>none
def Ka:jx K (p8 K) oQ:=by
 intro L H st x y a c b st' Q l rx ry e q;unfold oQ at e;split at e
 ·split at e
  ·next hl =>
   cases e;cases rx with
   |tup s r =>
    cases ry with
    |tup s' r'=>exact⟨_,_,_,_,rfl,rfl,s,s',by rw[r.length,r'.length];exact tK hl,got l (r.append r') q⟩
  ·cases e
 ·cases e
abbrev own(st:Store)(i:Nat):Option (List D):=match st[i]? with
 |some (.lst ds)=>some ds
 |_=>none
def tR{st:Store}{i:Nat}{ds:List D}(h:own st i=some ds):st[i]?=some (.lst ds):=by
 unfold own at h;split at h
 ·next ds' hs=>cases h;exact hs
 ·cases h
abbrev dE:D->D->Dm D
 |.ref i,.ref j,st=>match own st i,own st j with
  |some a,some b=>if lim (a.length+b.length)=true then some (.ref st.length,st ++ [.lst (a ++ b)])else none
  |_,_=>none
 |_,_,_=>none
def tT:jx K zi dE:=by
 intro L H st x y a c b st' Q l rx ry e q;unfold dE at e;split at e
 ·split at e
  ·next a b h1 h2 =>
   split at e
   ·next hl =>
    cases e;cases rx with
    |ref hi =>
     cases ry with
     |ref hj =>
      obtain⟨vs,e1,r1⟩:=l.obj _ _ _ hi (tR h1);obtain⟨ws,e2,r2⟩:=l.obj _ _ _ hj (tR h2);exact⟨_,_,_,_,rfl,rfl,e1,e2,by rw[r1.length,r2.length];exact tK hl,λp hp=>q _ _ _ (Mn.new hp) (l.newL hp (r1.append r2)) (.ref (newR l))⟩
   ·cases e
  ·cases e
 ·cases e
abbrev FZ:D->D->Dm D
 |.ref i,.int k,st=>match own st i with
  |some a=>if(decide (-9223372036854775808<=k/\k<9223372036854775808) && lim (a.length*k.toNat))=true then some (.ref st.length,st ++ [.lst (List.replicate k.toNat a).flatten])else none
  |_=>none
 |_,_,_=>none
def Kb{L:List Addr}{H:Hp}:∀{ws vs:List V} {ds:List D},bt K L H ws ds->bL sV ds=some vs->ws=vs
 |_,_,_,.nil,h=>by cases h;rfl
 |_,_,_,.cons a b,h=>by
  obtain⟨x,t,h1,h2,rfl⟩:=tP h;rw[x4 a h1,Kb b h2]
def Kc{a:D}{v:V}(h:sV a=some v):iY v=true:=by cases a<;>first|(cases h;rfl)|cases h
def Kd:∀{ds:List D} {vs:List V},bL sV ds=some vs->vs.all iY=true
 |[],_,h=>by cases h;rfl
 |d :: r,_,h=>by
  obtain⟨x,t,h1,h2,rfl⟩:=tP h;rw[List.all_cons,Kc h1,Kd h2];rfl
abbrev br(st:Store):D->Option (List D)
 |.tup ds=>some ds
 |.ref i=>items st i
 |_=>none
def Ab{L:List Addr}{H:Hp}{st:Store}{x:V}{a:D}{ds:List D}(l:Rl K L H st)(r:Rp K L H x a)(h:br st a=some ds):∃p vs,x=.ref p/\(fG K H p vs\/df K H p vs)/\bt K L H vs ds:=by
 cases r<;>first|(cases h;done)|skip
 ·next hi=>obtain⟨vs,s,r⟩:=l.items hi h;exact⟨_,vs,rfl,.inl s,r⟩
 ·next s r=>cases h;exact⟨_,_,rfl,.inr s,r⟩
abbrev oR(neg:Bool):D->D->Dm D:=λa c st=>match sV a,(br st c).bind (bL sV)with
 |some x,some vs=>some (.bl (if neg then !sX x vs else sX x vs),st)
 |_,_=>none
def Dl(neg:Bool):jx K (CP K neg) (oR neg):=by
 intro L H st x y a c b st' Q l rx ry e q;unfold oR at e;split at e
 ·next u vs h1 h2 =>
  cases e;obtain⟨ds,h3,h4⟩:=Ua.mp h2;obtain⟨p,ws,rfl,s,r⟩:=Ab l ry h3;cases x4 rx h1;cases Kb r h4;exact⟨p,_,rfl,s,Kc h1,Kd h4,q _ H L .refl l (.bl _)⟩
 ·cases e
def bt.one'{L:List Addr}{H:Hp}{vs:List V}{d:D}(r:bt K L H vs [d]):∃v,vs=[v]/\Rp K L H v d:=by cases r with|cons a b=>cases b;exact⟨_,rfl,a⟩
def bt.two'{L:List Addr}{H:Hp}{vs:List V}{d e:D}(r:bt K L H vs [d,e]):∃v w,vs=[v,w]/\Rp K L H v d/\Rp K L H w e:=by
 cases r with
 |cons a b=>obtain⟨w,rfl,r⟩:=b.one';exact⟨_,_,rfl,a,r⟩
abbrev bK:List D->Dm D
 |[a],st=>match br st a with
  |some ds=>some (.int ds.length,st)
  |none=>none
 |_,_=>none
def oS:nV K (λxs H Q=>∃p ys,xs=[.ref p]/\(fG K H p ys\/df K H p ys)/\Q (.int ys.length) H) bK:=by
 intro L H st xs as b st' Q l rx e q;unfold bK at e;split at e
 ·split at e
  ·next ds hd =>
   cases e;obtain⟨v,rfl,r⟩:=rx.one';obtain⟨p,vs,rfl,s,r⟩:=Ab l r hd;exact⟨p,vs,rfl,s,q _ H L .refl l (by rw[r.length];exact .int _)⟩
  ·cases e
 ·cases e
abbrev kX:List D->Dm D
 |[.str z],st=>if lim z.length=true then some (.int z.length,st)else none
 |_,_=>none
def F0:nV K (λxs H Q=>∃z,xs=[.str z]/\z.length<=sizeLine/\Q (.int z.length) H) kX:=by
 intro L H st xs as b st' Q l rx e q;unfold kX at e;split at e
 ·split at e
  ·next hl =>
   cases e;obtain⟨v,rfl,r⟩:=rx.one';cases r;exact⟨_,rfl,tK hl,q _ H L .refl l (.int _)⟩
  ·cases e
 ·cases e
abbrev kY:List D->Dm D
 |[a],st=>match br st a with
  |some ds=>some (.ref st.length,st ++ [.lst ds])
  |none=>none
 |_,_=>none
def Ke:nV K (λxs H Q=>∃p ys,xs=[.ref p]/\(fG K H p ys\/df K H p ys)/\∀l,H l=none->Q (.ref l) (upd H l (.lst ys))) kY:=by
 intro L H st xs as b st' Q l rx e q;unfold kY at e;split at e
 ·split at e
  ·next ds hd =>
   cases e;obtain⟨v,rfl,r⟩:=rx.one';obtain⟨p,vs,rfl,s,r⟩:=Ab l r hd;exact⟨p,vs,rfl,s,λp hp=>q _ _ _ (Mn.new hp) (l.newL hp r) (.ref (newR l))⟩
  ·cases e
 ·cases e
abbrev dX:List D->Dm D
 |[a],st=>match br st a with
  |some ds=>some (.tup ds,st)
  |none=>none
 |_,_=>none
def F3:nV K (λxs H Q=>∃p ys,xs=[.ref p]/\((fG K H p ys/\∀l,H l=none->Q (.ref l) (upd H l (.tup ys)))\/(df K H p ys/\Q (.ref p) H))) dX:=by
 intro L H st xs as b st' Q l rx e q;unfold dX at e;split at e
 ·split at e
  ·next ds hd =>
   cases e;obtain⟨v,rfl,r⟩:=rx.one';obtain⟨p,vs,rfl,s,r'⟩:=Ab l r hd;refine⟨p,vs,rfl,?_⟩;rcases s with s|s
   ·exact .inl ⟨s,(got l r' q).new⟩
   ·exact .inr ⟨s,(got l r' q).it s⟩
  ·cases e
 ·cases e
abbrev oU:List D->Dm D
 |[.int i,.int j],st=>some (.int (if j > i then j else i),st)
 |_,_=>none
abbrev Ac:List D->Dm D
 |[.int i,.int j],st=>some (.int (if j<i then j else i),st)
 |_,_=>none
def Kf:nV K (λxs H Q=>∃i j,xs=[.int i,.int j]/\Q (.int (if j > i then j else i)) H) oU:=by intro L H st xs as b st' Q l rx e q;unfold oU at e;split at e;cases e;obtain⟨v,w,rfl,r1,r2⟩:=rx.two';cases r1;cases r2;exact⟨_,_,rfl,q _ H L .refl l (.int _)⟩;cases e
abbrev kZ:List D->Dm D
 |[.int i],st=>some (.int i,st)
 |[.bl k],st=>some (.int (if k then 1 else 0),st)
 |_,_=>none
def Kg:nV K (λxs H Q=>(∃i,xs=[.int i]/\Q (.int i) H)\/∃k,xs=[.bl k]/\Q (.int (if k then 1 else 0)) H) kZ:=by intro L H st xs as b st' Q l rx e q;unfold kZ at e;split at e;cases e;obtain⟨v,rfl,r⟩:=rx.one';cases r;exact .inl ⟨_,rfl,q _ H L .refl l (.int _)⟩;cases e;obtain⟨v,rfl,r⟩:=rx.one';cases r;exact .inr ⟨_,rfl,q _ H L .refl l (.int _)⟩;cases e
abbrev fY:List D->Dm D
 |[.int j],st=>some (.ref st.length,st ++ [.fR 0 j])
 |_,_=>none
abbrev cT:List D->Dm D
 |[.int i,.int j],st=>some (.ref st.length,st ++ [.fR i j])
 |_,_=>none
def Kh:nV K (λxs H Q=>∃j:Int,xs=[.int j]/\∀p,H p=none->Q (.ref p) (upd H p (.fR 0 j))) fY:=by intro L H st xs as b st' Q l rx e q;unfold fY at e;split at e;cases e;obtain⟨v,rfl,r⟩:=rx.one';cases r;exact⟨_,rfl,λp hp=>q _ _ _ (Mn.new hp) (l.new hp (show tJ K _ _ p (.fR _ _)from h8)) (.ref (newR l))⟩;cases e
def Ki:nV K (λxs H Q=>∃i j:Int,xs=[.int i,.int j]/\∀p,H p=none->Q (.ref p) (upd H p (.fR i j))) cT:=by intro L H st xs as b st' Q l rx e q;unfold cT at e;split at e;cases e;obtain⟨v,w,rfl,r1,r2⟩:=rx.two';cases r1;cases r2;exact⟨_,_,rfl,λp hp=>q _ _ _ (Mn.new hp) (l.new hp (show tJ K _ _ p (.fR _ _)from h8)) (.ref (newR l))⟩;cases e
abbrev aD(lo:Int)(n:Nat):List D:=(List.range n).map λ(k:Nat)=>D.int (lo+k)
def O9{L:List Addr}{H:Hp}(lo:Int)(n:Nat):bt K L H (dU lo n) (aD lo n):=by
 unfold dU aD
 induction (List.range n)with
 |nil=>exact .nil
 |cons a r ih=>exact .cons (.int _) ih
abbrev pf(lo hi:Int):Bool:=decide (-4611686018427387904<=lo/\lo<4611686018427387904/\-4611686018427387904<=hi/\hi<4611686018427387904) && lim (hi-lo).toNat
def Kj{lo hi:Int}(h:pf lo hi=true):(-(2 ^ 62)<=lo/\lo<2 ^ 62/\-(2 ^ 62)<=hi/\hi<2 ^ 62)/\(hi-lo).toNat<=2 ^ 24:=by unfold pf at h;rw[Tz,decide_eq_true_eq]at h;exact⟨by lk,TF (U9 h.2) ∅⟩
abbrev gU(st:Store):D->Option (Int×Int)
 |.ref i=>match st[i]? with
  |some (.fR lo hi)=>some (lo,hi)
  |_=>none
 |_=>none
def vD{L:List Addr}{H:Hp}{st:Store}{x:V}{a:D}{lo hi:Int}(l:Rl K L H st)(r:Rp K L H x a)(h:gU st a=some (lo,hi)):∃p,x=.ref p/\H p=some (.fR lo hi):=by
 cases r<;>first|(cases h;done)|skip
 ·next hi' =>
  simp only[gU]at h;split at h
  ·next lo' Pa hs=>cases h;exact⟨_,rfl,l.obj _ _ _ hi' hs⟩
  ·cases h
abbrev cy:List D->Dm D
 |[a],st=>match gU st a with
  |some (lo,hi)=>if pf lo hi=true then some (.ref st.length,st ++ [.lst (aD lo (hi-lo).toNat)])else none
  |none=>none
 |_,_=>none
def Kk:nV K (λxs H Q=>∃p lo hi,xs=[.ref p]/\H p=some (.fR lo hi)/\(-(2 ^ 62)<=lo/\lo<2 ^ 62/\-(2 ^ 62)<=hi/\hi<2 ^ 62)/\(hi-lo).toNat<=2 ^ 24 /\
  ∀l,H l=none->Q (.ref l) (upd H l (.lst (dU lo (hi-lo).toNat)))) cy:=by
 intro L H st xs as b st' Q l rx e q;unfold cy at e;split at e
 ·split at e
  ·next lo hi hd =>
   split at e
   ·next ok =>
    cases e;obtain⟨v,rfl,r⟩:=rx.one';obtain⟨p,rfl,s⟩:=vD l r hd;exact⟨p,lo,hi,rfl,s,(Kj ok).1,(Kj ok).2,λp hp=>q _ _ _ (Mn.new hp) (l.newL hp (O9 lo _)) (.ref (newR l))⟩
   ·cases e
  ·cases e
 ·cases e
abbrev rR:List D->Dm D
 |[a],st=>match gU st a with
  |some (lo,hi)=>if pf lo hi=true then some (.tup (aD lo (hi-lo).toNat),st)else none
  |none=>none
 |_,_=>none
abbrev iV:D->Option Int
 |.int i=>some i
 |_=>none
def Kl{L:List Addr}{H:Hp}:∀{ws:List V} {ds:List D} {ns:List Int},bt K L H ws ds->bL iV ds=some ns->ws=ns.map V.int
 |_,_,_,.nil,h=>by cases h;rfl
 |_,_,_,.cons a b,h=>by
  obtain⟨x,t,h1,h2,rfl⟩:=tP h;rw[Kl b h2];cases a<;>first|(cases h1;rfl)|cases h1
abbrev sortI(ns:List Int):List Int:=ns.mergeSort λa b=>decide (a<=b)
def Km{ms ns:List Int}(p:ms.Perm ns)(s:ms.Pairwise (·<=·)):ms=sortI ns:=by
 have p2:(sortI ns).Perm ns:=List.mergeSort_perm _ _;have s2:(sortI ns).Pairwise (·<=·):=by
  have:=List.pairwise_mergeSort (le:=λa b:Int=>decide (a<=b)) (λa b c h1 h2=>by simp only[decide_eq_true_eq]at *;lk) (λa b=>by simp only[Bool.or_eq_true,decide_eq_true_eq];lk) ns;exact this.imp λh=>of_decide_eq_true h
 exact(p.trans p2.symm).eq_of_pairwise (λa b _ _ h1 h2=>Int.le_antisymm h1 h2) s s2
abbrev jn:List D->Dm D
 |[a],st=>match (br st a).bind (bL iV)with
  |some ns=>if ns.length<64 then some (.ref st.length,st ++ [.lst ((sortI ns).map D.int)])else none
  |none=>none
 |_,_=>none
def Kn:nV K (λxs H Q=>∃(p:Addr) (ns:List Int),xs=[.ref p]/\(fG K H p (ns.map V.int)\/df K H p (ns.map V.int))/\ns.length<64 /\
  ∀(l:Addr) (ms:List Int),H l=none->ms.Perm ns->ms.Pairwise (·<=·)->Q (.ref l) (upd H l (.lst (ms.map V.int)))) jn:=by
 intro L H st xs as b st' Q l rx e q;unfold jn at e;split at e
 ·split at e
  ·next ns hd =>
   split at e
   ·next ok =>
    cases e;obtain⟨v,rfl,r⟩:=rx.one';obtain⟨ds,h3,h4⟩:=Ua.mp hd;obtain⟨p,vs,rfl,s,r⟩:=Ab l r h3;cases Kl r h4;exact⟨p,ns,rfl,s,ok,λp ms hp pm sm=>by rw[Km pm sm];exact q _ _ _ (Mn.new hp) (l.newL hp (bt.ints _)) (.ref (newR l))⟩
   ·cases e
  ·cases e
 ·cases e
abbrev ig:List D->Dm D
 |[a],st=>match jm st 20 a with
  |some p=>if(p.showable && p.canLay0 && decide (p.shown.length<=sizeLine) && decide (p.depth<=60))=true then some (.str p.shown,st)else none
  |none=>none
 |_,_=>none
def Ko:nV K (λxs H Q=>∃(x:V) (d:PyData),xs=[x]/\Rep K H x d/\d.showable=true/\d.canLay0=true/\d.shown.length<=sizeLine/\d.depth<=60/\Q (.str d.shown) H) ig:=by
 intro L H st xs as b st' Q l rx e q;unfold ig at e;split at e
 ·split at e
  ·next p hp =>
   split at e
   ·next ok =>
    cases e;rw[Tz,Tz,Tz,decide_eq_true_eq,decide_eq_true_eq]at ok;obtain⟨v,rfl,r⟩:=rx.one';exact⟨v,p,rfl,x5 l 20 r hp,ok.1.1.1,ok.1.1.2,ok.1.2,ok.2,q _ H L .refl l (.str _)⟩
   ·cases e
  ·cases e
 ·cases e
abbrev bV:D->Option Bool
 |.bl i=>some i
 |_=>none
def Kq{L:List Addr}{H:Hp}:∀{ws:List V} {ds:List D} {ns:List Bool},bt K L H ws ds->bL bV ds=some ns->ws=ns.map V.bl
 |_,_,_,.nil,h=>by cases h;rfl
 |_,_,_,.cons a b,h=>by
  obtain⟨x,t,h1,h2,rfl⟩:=tP h;rw[Kq b h2];cases a<;>first|(cases h1;rfl)|cases h1
abbrev pg:List D->Dm D
 |[.ref i],st=>match (items st i).bind (bL bV)with
  |some bs=>some (.bl (bs.all id),st)
  |none=>none
 |_,_=>none
def Kr:nV K (λxs H Q=>∃(p:Addr) (bs:List Bool),xs=[.ref p]/\fG K H p (bs.map V.bl)/\Q (.bl (bs.all id)) H) pg:=by
 intro L H st xs as b st' Q l rx e q;unfold pg at e;split at e
 ·split at e
  ·next bs hd =>
   cases e;obtain⟨v,rfl,r⟩:=rx.one';obtain⟨ds,h3,h4⟩:=Ua.mp hd;cases r with
   |ref hi =>
    obtain⟨vs,s,r⟩:=l.items hi h3;cases Kq r h4;exact⟨_,bs,rfl,s,q _ H L .refl l (.bl _)⟩
  ·cases e
 ·cases e
abbrev x6(T:String)(st:Store):D->Bool
 |.str _=>T == "str"
 |.tup _=>T == "tuple"
 |.ref i=>T == "list" && (items st i).isSome
 |_=>false
def vE{L:List Addr}{H:Hp}{st:Store}{x:V}{a:D}{T:String}(l:Rl K L H st)(r:Rp K L H x a)(h:x6 T st a=true):ES K T x H:=by
 cases r<;>first|(cases h;done)|skip
 ·exact eq_of_beq h
 ·next hi =>
  simp only[x6,Tz]at h;obtain⟨ds,hd⟩:=Uy.mp h.2;obtain⟨vs,s,_⟩:=l.items hi hd;exact .inl ⟨eq_of_beq h.1,vs,s⟩
 ·next s r=>exact .inr (.inl ⟨eq_of_beq h,_,s⟩)
abbrev jo(T:String)(g:D->List D->Dm D)(fo:ai->Dm D)(fa:ai->Dm (List D)):ai->Dm D:=λI st=>bnd (fo I st) λo st1=>if x6 T st1 o=true then bnd (fa I st1) λas st2=>g o as st2 else none
def pH{T:String}{r:V->List V->Hp->VK->Prop}{g:D->List D->Dm D}{to:TE}{ta:TA}{fo:ai->Dm D}{fa:ai->Dm (List D)}(hr:xW K T r g)(ho:dv K to fo)(ha:kW K ta fa):dv K (ET K T r to ta) (jo T g fo fa):=by
 intro L G H I st b st' Q l rs e q;obtain⟨o,st1,e1,e⟩:=bq e;split at e
 ·next ht =>
  obtain⟨as,st2,e2,e⟩:=bq e;refine ho L G H I st o st1 _ l rs e1 λx H1 L1 m1 l1 r1=>⟨vE l1 r1 ht,ha L1 G H1 I st1 as st2 _ l1 (rs.mn m1) e2 λxs H2 L2 m2 l2 r2=>?_⟩;exact hr L2 H2 st2 x xs o as b st' Q l2 (r1.mn m2) r2 e λv H3 L3 m3 l3 r3=>q v H3 L3 ((m1.trans m2).trans m3) l3 r3
 ·cases e
abbrev dF:D->List D->Dm D
 |.ref i,[y],st=>match own st i with
  |some xs=>if lim xs.length=true then some (.non,st.set i (.lst (xs ++ [y])))else none
  |none=>none
 |_,_,_=>none
def F4:xW K "list" oA dF:=by
 intro L H st x xs a as b st' Q l rx rS e q;unfold dF at e;split at e
 ·split at e
  ·next ys hy =>
   split at e
   ·next hl =>
    cases e;obtain⟨v,rfl,r⟩:=rS.one';cases rx with
    |ref hi =>
     obtain⟨vs,e1,r1⟩:=l.obj _ _ _ hi (tR hy);obtain⟨l2,m2⟩:=l.putL hi (tR hy) (r1.append (.one r));exact⟨_,vs,v,rfl,rfl,e1,by rw[r1.length];exact JV hl,q _ _ L m2 l2 .non⟩
   ·cases e
  ·cases e
 ·cases e
abbrev lP:D->List D->Dm D
 |.ref i,[.ref j],st=>match own st i,own st j with
  |some xs,some ys=>if lim (xs.length+ys.length)=true then some (.non,st.set i (.lst (xs ++ ys)))else none
  |_,_=>none
 |_,_,_=>none
abbrev jD:D->List D->Dm D
 |.ref i,[.int k],st=>match own st i with
  | some xs=>if decide (-9223372036854775808<=k/\k < 9223372036854775808)=true then match seqIndex? k xs.length with
    |some j=>match xs[j]? with
     |some y=>some (y,st.set i (.lst (xs.eraseIdx j)))
     |none=>none
    |none=>none
   else none
  |none=>none
 |_,_,_=>none
def Ks:xW K "list" pY jD:=by
 intro L H st x xs a as b st' Q l rx rS e q;unfold jD at e;split at e
 ·split at e
  ·next ys hy =>
   split at e
   ·next hk =>
    split at e
    ·next j hj =>
     split at e
     ·next y hy' =>
      cases e;obtain⟨v,rfl,r⟩:=rS.one';cases r;cases rx with
      |ref hi =>
       obtain⟨vs,e1,r1⟩:=l.obj _ _ _ hi (tR hy);obtain⟨w,hw,rw'⟩:=r1.got hy';obtain⟨l2,m2⟩:=l.putL hi (tR hy) (r1.erase j);have hk:=of_decide_eq_true hk;exact⟨_,vs,_,j,w,rfl,rfl,e1,by lk,by lk,by rw[r1.length];exact hj,hw,q _ _ L m2 l2 (rw'.mn m2)⟩
     ·cases e
    ·cases e
   ·cases e
  ·cases e
 ·cases e
abbrev nX:D->List D->Dm D
 |.tup ds,[.int v],st=>match bL iV ds with
  |some ns=>match ns.findIdx? (λi=>decide (i=v))with
   |some j=>some (.int (j:Int),st)
   |none=>none
  |none=>none
 |_,_,_=>none
abbrev Ad(st:Store):D->Option String
 |.non=>some "NoneType"
 |.bl _=>some "bool"
 |.int _=>some "int"
 |.str _=>some "str"
 |.tup _=>some "tuple"
 |.ref i=>match st[i]? with
  |some (.lst _)=>some "list"
  |some (.dct _)=>some "dict"
  |_=>none
 |.ty _=>none
abbrev lQ:List D->Dm D
 |[a,.ty c],st=>match Ad st a with
  |some T=>if T=c then some (.bl true,st)else none
  |none=>none
 |_,_=>none
end
section
variable {K:Zfr}
def Rs.set{L:List Addr}{H:Hp}{G:St}{I:ai}{v:V}{d:D}{i:Nat}(h:Rs K L H G I)(r:Rp K L H v d):Rs K L H (G.set i (some v)) (I.set i (some d)):=by
 refine⟨by rw[T8,T8];exact h.1,λj e hj=>?_⟩;by_cases hij:i=j;subst hij;have hl:i<I.length:=by
  have:=(Ti.mp hj).1
  rwa [T8]at this
 rw[TB hl]at hj;cases hj;exact⟨v,by rw[TB (by rw[h.1];exact hl)],r⟩;rw[TQ hij]at hj;obtain⟨w,hw,rw'⟩:=h.2 j e hj;exact⟨w,by rw[TQ hij];exact hw,rw'⟩
abbrev rT(K:Zfr)(g:TG)(f:D->ai->Dm ai):Prop :=
 ∀(L:List Addr) (G:St) (H:Hp) (I:ai) (st:Store) (v:V) (d:D) (I':ai) (st':Store) (Q:St->Hp->Prop),Rl K L H st->Rs K L H G I->Rp K L H v d->f d I st=some (I',st') ->
  (∀G' H' L',Mn K L H L' H'->Rl K L' H' st'->Rs K L' H' G' I'->Q G' H')->g v G H Q
abbrev rV(K:Zfr)(g:pP)(f:List D->ai->Dm ai):Prop :=
 ∀(L:List Addr) (G:St) (H:Hp) (I:ai) (st:Store) (v:List V) (d:List D) (I':ai) (st':Store) (Q:St->Hp->Prop),Rl K L H st->Rs K L H G I->bt K L H v d->f d I st=some (I',st') ->
  (∀G' H' L',Mn K L H L' H'->Rl K L' H' st'->Rs K L' H' G' I'->Q G' H')->g v G H Q
abbrev hName(i:Nat):D->ai->Dm ai:=λd I st=>some (I.set i (some d),st)
def kI(i:Nat):rT K (jH i) (hName i):=by intro L G H I st v d I' st' Q l rs r e q;cases e;exact q _ H L .refl l (rs.set r)
abbrev mE:List D->ai->Dm ai
 |[],I,st=>some (I,st)
 |_,_,_=>none
abbrev eO(f:D->ai->Dm ai)(g:List D->ai->Dm ai):List D->ai->Dm ai
 |d :: ds,I,st=>bnd (f d I st) λI1 st1=>g ds I1 st1
 |_,_,_=>none
def F5:rV K yI mE:=by
 intro L G H I st v d I' st' Q l rs r e q;cases r with
 |nil=>cases e;exact⟨rfl,q _ H L .refl l rs⟩
 |cons a b=>cases e
def Dn{t:TG}{u:pP}{f:D->ai->Dm ai}{g:List D->ai->Dm ai}(hf:rT K t f)(hg:rV K u g):rV K (sH t u) (eO f g):=by
 intro L G H I st v d I' st' Q l rs r e q;cases r with
 |nil=>cases e
 |cons a b =>
  obtain⟨I1,st1,e1,e⟩:=bq e;exact⟨_,_,rfl,hf L G H I st _ _ I1 st1 _ l rs a e1 λG1 H1 L1 m1 l1 r1=>hg L1 G1 H1 I1 st1 _ _ I' st' Q l1 r1 (b.mn m1) e λG2 H2 L2 m2 l2 r2=>q G2 H2 L2 (m1.trans m2) l2 r2⟩
abbrev lR(n:Nat)(f:List D->ai->Dm ai):D->ai->Dm ai
 |.tup ds,I,st=>if ds.length=n then f ds I st else none
 |_,_,_=>none
def F6{n:Nat}{t:pP}{f:List D->ai->Dm ai}(hf:rV K t f):rT K (uD K n t) (lR n f):=by
 intro L G H I st v d I' st' Q l rs r e q;cases r<;>first|(cases e;done)|skip
 ·next s r =>
  simp only[lR]at e;split at e
  ·next hl=>exact⟨_,_,rfl,s,by rw[r.length];exact hl,hf L G H I st _ _ I' st' Q l rs r e q⟩
  ·cases e
abbrev hSub(fo fi:ai->Dm D):D->ai->Dm ai:=λd I st=>bnd (fo I st) λo st1=>bnd (fi I st1) λi st2=>match o,i with
 |.ref r,.int k=>match own st2 r with
  |some xs=>match kR xs.length k with
   |some j=>some (I,st2.set r (.lst (xs.set j d)))
   |none=>none
  |none=>none
 |_,_=>none
def Kt{to ti:TE}{fo fi:ai->Dm D}(ho:dv K to fo)(hi:dv K ti fi):rT K (L2.nB to ti sU) (hSub fo fi):=by
 intro ρ G H I st v d I' st' Q l rs r e q;obtain⟨o,st1,e1,e⟩:=bq e;obtain⟨i,st2,e2,e⟩:=bq e;refine ho ρ G H I st o st1 _ l rs e1 λx H1 ρ1 m1 l1 r1=>hi ρ1 G H1 I st1 i st2 _ l1 (rs.mn m1) e2 λy H2 ρ2 m2 l2 r2=>?_;split at e
 ·split at e
  ·next xs hx =>
   split at e
   ·next j hj =>
    cases e;cases r2;cases r1 with
    |ref hr =>
     have hr2:=m2.r _ _ hr;obtain⟨vs,e3,r3⟩:=l2.obj _ _ _ hr2 (tR hx);obtain⟨l3,m3⟩:=l2.putL hr2 (tR hx) (r3.set (r.mn (m1.trans m2)) j);exact⟨_,vs,_,j,rfl,rfl,e3,by rw[r3.length];exact hj,q G _ ρ2 ((m1.trans m2).trans m3) l3 (rs.mn ((m1.trans m2).trans m3))⟩
   ·cases e
  ·cases e
 ·cases e
abbrev Go(K:Zfr)(L:List Addr)(H:Hp)(st':Store)(E:Ends):Fl->Prop
 |.nx I=>∀G' H' L',Mn K L H L' H'->Rl K L' H' st'->Rs K L' H' G' I->E.nx G' H'
 |.bk I=>∀G' H' L',Mn K L H L' H'->Rl K L' H' st'->Rs K L' H' G' I->E.bk G' H'
 |.ct I=>∀G' H' L',Mn K L H L' H'->Rl K L' H' st'->Rs K L' H' G' I->E.ct G' H'
 |.rt d=>∀v H' L',Mn K L H L' H'->Rl K L' H' st'->Rp K L' H' v d->E.rt v H'
def Go.mn{L L1:List Addr}{H H1:Hp}{st':Store}{E:Ends}{fl:Fl}(g:Go K L H st' E fl)(m:Mn K L H L1 H1):Go K L1 H1 st' E fl:=by cases fl<;>exactλv H' L' m' l r=>g v H' L' (m.trans m') l r
abbrev lS(K:Zfr)(t:TS)(f:ai->Dm Fl):Prop :=
 ∀(L:List Addr) (G:St) (H:Hp) (I:ai) (st:Store) (fl:Fl) (st':Store) (E:Ends),Rl K L H st->Rs K L H G I->f I st=some (fl,st')->Go K L H st' E fl->t E G H
abbrev aV:ai->Dm Fl:=λI st=>some (.nx I,st)
def mj:lS K sG aV:=by intro L G H I st fl st' E l rs e g;cases e;exact g G H L .refl l rs
abbrev aB(f g:ai->Dm Fl):ai->Dm Fl:=λI st=>bnd (f I st) λfl st1=>match fl with
 |.nx I1=>g I1 st1
 |x=>some (x,st1)
def ml{t u:TS}{f g:ai->Dm Fl}(hf:lS K t f)(hg:lS K u g):lS K (rh t u) (aB f g):=by
 intro L G H I st fl st' E l rs e q;obtain⟨x,st1,e1,e⟩:=bq e;refine hf L G H I st x st1 _ l rs e1 ?_;cases x with
 |nx I1=>exactλG1 H1 L1 m1 l1 r1=>hg L1 G1 H1 I1 st1 fl st' E l1 r1 e (q.mn m1)
 |bk I1=>cases e;exact q
 |ct I1=>cases e;exact q
 |rt d=>cases e;exact q
def qP{c:TT}{t u:TS}{fc:ai->Dm Bool}{f g:ai->Dm Fl}(hc:m8 K c fc)(hf:lS K t f)(hg:lS K u g):lS K (uB c t u) (fT fc f g):=by
 intro L G H I st fl st' E l rs e q;obtain⟨a,st1,e1,e⟩:=bq e;refine hc L G H I st _ _ _ l rs e1 λx H1 L1 m1 l1 r1=>?_;subst r1;cases x with
 |true =>
  refine nK ?_;rw[if_pos rfl]at e;exact hf L1 G H1 I st1 fl st' E l1 (rs.mn m1) e (q.mn m1)
 |false =>
  refine nJ ?_;rw[if_neg Tb]at e;exact hg L1 G H1 I st1 fl st' E l1 (rs.mn m1) e (q.mn m1)
abbrev jq(f:ai->Dm D):ai->Dm Fl:=λI st=>bnd (f I st) λ_ st1=>some (.nx I,st1)
def F7{t:TE}{f:ai->Dm D}(hf:dv K t f):lS K (ow t) (jq f):=by intro L G H I st fl st' E l rs e q;obtain⟨a,st1,e1,e⟩:=bq e;cases e;exact hf L G H I st a _ _ l rs e1 λx H1 L1 m1 l1 r1=>q G H1 L1 m1 l1 (rs.mn m1)
abbrev bu(f:ai->Dm D):ai->Dm Fl:=λI st=>bnd (f I st) λd st1=>some (.rt d,st1)
def nY{t:TE}{f:ai->Dm D}(hf:dv K t f):lS K (yE t) (bu f):=by intro L G H I st fl st' E l rs e q;obtain⟨a,st1,e1,e⟩:=bq e;cases e;exact hf L G H I st a _ _ l rs e1 λx H1 L1 m1 l1 r1=>q x H1 L1 m1 l1 r1
abbrev aO(f:ai->Dm D)(h:D->ai->Dm ai):ai->Dm Fl:=λI st=>bnd (f I st) λd st1=>bnd (h d I st1) λI1 st2=>some (.nx I1,st2)
def ni{t:TE}{g:TG}{f:ai->Dm D}{h:D->ai->Dm ai}(hf:dv K t f)(hh:rT K g h):lS K (nE t g) (aO f h):=by intro L G H I st fl st' E l rs e q;obtain⟨a,st1,e1,e⟩:=bq e;obtain⟨I1,st2,e2,e⟩:=bq e;cases e;exact hf L G H I st a st1 _ l rs e1 λx H1 L1 m1 l1 r1=>hh L1 G H1 I st1 x a I1 _ _ l1 (rs.mn m1) r1 e2 λG2 H2 L2 m2 l2 r2=>q G2 H2 L2 (m1.trans m2) l2 r2
abbrev nZ(i j:Nat)(fa:ai->Dm (List D)):ai->Dm Fl:=λI st=>bnd (fa I st) λas st1=>match as with
 |[a,b]=>some (.nx ((I.set i (some a)).set j (some b)),st1)
 |_=>none
def F8{i j:Nat}{t:TA}{fa:ai->Dm (List D)}(ha:kW K t fa):lS K (yL i j t) (nZ i j fa):=by intro L G H I st fl st' E l rs e q;obtain⟨as,st1,e1,e⟩:=bq e;split at e;cases e;refine ha L G H I st _ _ _ l rs e1 λx H1 L1 m1 l1 r1=>?_;obtain⟨v,w,rfl,r,r'⟩:=r1.two';exact⟨v,w,rfl,q _ H1 L1 m1 l1 (((rs.mn m1).set r).set r')⟩;cases e
abbrev dY(c:ai->Dm Bool)(b:ai->Dm Fl):Nat->ai->Dm Fl
 |0,_,_=>none
 | n + 1,I,st=>bnd (c I st) λt st1=>if t=true then bnd (b I st1) λfl st2=>match fl with
   |.nx I2=>dY c b n I2 st2
   |.ct I2=>dY c b n I2 st2
   |.bk I2=>some (.nx I2,st2)
   |.rt d=>some (.rt d,st2)
  else some (.nx I,st1)
abbrev fuel:Nat:=1000000
abbrev kh(c:ai->Dm Bool)(b:ai->Dm Fl):ai->Dm Fl:=dY c b fuel
def Ku{tc:TT}{tb:TS}{c:ai->Dm Bool}{b:ai->Dm Fl}(hc:m8 K tc c)(hb:lS K tb b):lS K (pQ tc tb) (kh c b):=by
 intro L G H I st fl st' E l rs e q;refine⟨λm G1 H1=>∃L1 I1 st1,Mn K L H L1 H1/\Rl K L1 H1 st1/\Rs K L1 H1 G1 I1/\dY c b m I1 st1=some (fl,st'),⟨fuel,L,I,st,.refl,l,rs,e⟩,?_⟩;rintro m G1 H1 ⟨L1,I1,st1,m1,l1,qu,e1⟩;cases m with
 |zero=>cases e1
 |succ m =>
  obtain⟨t,st2,e2,e1⟩:=bq e1;refine hc L1 G1 H1 I1 st1 _ _ _ l1 qu e2 λx H2 L2 m2 l2 r2=>?_;subst r2;cases x with
  |true =>
   refine nK ?_;rw[if_pos rfl]at e1;obtain⟨f2,st3,e3,e1⟩:=bq e1;refine⟨λG3 H3=>∃m',m' < m+1/\∃L1 I1 st1,Mn K L H L1 H3/\Rl K L1 H3 st1/\Rs K L1 H3 G3 I1/\dY c b m' I1 st1=some (fl,st'),λ_ _ h=>h,hb L2 G1 H2 I1 st2 f2 st3 _ l2 (qu.mn m2) e3 ?_⟩;cases f2 with
   |nx I3=>exactλG3 H3 L3 m3 l3 r3=>⟨m,Us m,L3,I3,st3,(m1.trans m2).trans m3,l3,r3,e1⟩
   |ct I3=>exactλG3 H3 L3 m3 l3 r3=>⟨m,Us m,L3,I3,st3,(m1.trans m2).trans m3,l3,r3,e1⟩
   |bk I3=>cases e1;exact q.mn (m1.trans m2)
   |rt d=>cases e1;exact q.mn (m1.trans m2)
  |false =>
   refine nJ ?_;rw[if_neg Tb]at e1;cases e1;exact q.mn (m1.trans m2) G1 H2 L2 .refl l2 (qu.mn m2)
inductive Src where
 |fix (ds:List D)|live (i:Nat)|Pb (i:Nat)|zl (i:Nat) (es:List D)|zr (ds:List D) (i:Nat)|fn (f:Nat->Store->Option (Option D))
abbrev Src.at:Src->Nat->Store->Option (Option D)
 |.fix ds,i,_=>if i<=ds.length then some ds[i]? else none
 |.live r,i,st=>(items st r).map λds=>ds[i]?
 |.Pb r,i,st=>(items st r).bind λds=>if i<=ds.length then some (ds.mapIdx λi d=>D.tup [.int (i:Int),d])[i]? else none
 |.zl r es,i,st=>(items st r).bind λds=>if i<=(List.zipWith (λa b=>D.tup [a,b]) ds es).length then some (List.zipWith (λa b=>D.tup [a,b]) ds es)[i]? else none
 |.zr ds r,i,st=>(items st r).bind λes=>if i<=(List.zipWith (λa b=>D.tup [a,b]) ds es).length then some (List.zipWith (λa b=>D.tup [a,b]) ds es)[i]? else none
 |.fn f,i,st=>f i st
def tU{ds:List D}{i:Nat}{st:Store}{o:Option D}(h:Src.at (.fix ds) i st=some o):i<=ds.length/\ds[i]?=o:=by
 simp only[Src.at]at h;split at h
 ·next hl=>exact⟨hl,Tq h⟩
 ·cases h
abbrev vF(K:Zfr)(L:List Addr)(H:Hp)(J:It)(S:Src):Prop :=
 ∀(L2:List Addr) (H2:Hp) (st2:Store) (i:Nat),Mn K L H L2 H2->Rl K L2 H2 st2 ->
  (S.at i st2=some none->J.stop i H2)/\∀d,S.at i st2=some (some d)->J.go i H2/\∀x H3,J.pE i H2 x H3->Mn K L2 H2 L2 H3/\Rl K L2 H3 st2/\Rp K L2 H3 x d
@[reducible]def rW(K:Zfr)(t:TI)(f:ai->Dm Src):Prop:=So K (vF K) t f
abbrev cO(S:Src)(g:D->ai->Dm ai)(b:ai->Dm Fl):Nat->Nat->ai->Dm Fl
 |0,_,_,_=>none
 |n+1,i,I,st=>match S.at i st with
  |none=>none
  |some none=>some (.nx I,st)
  |some (some d)=>bnd (g d I st) λI1 st1=>bnd (b I1 st1) λfl st2=>match fl with
   |.nx I2=>cO S g b n (i+1) I2 st2
   |.ct I2=>cO S g b n (i+1) I2 st2
   |.bk I2=>some (.nx I2,st2)
   |.rt d=>some (.rt d,st2)
abbrev fZ(fi:ai->Dm Src)(g:D->ai->Dm ai)(b:ai->Dm Fl):ai->Dm Fl:=λI st=>bnd (fi I st) λS st1=>cO S g b fuel 0 I st1
def Kv{wi:TI}{tg:TG}{tb:TS}{fi:ai->Dm Src}{g:D->ai->Dm ai}{b:ai->Dm Fl}(hi:rW K wi fi)(hg:rT K tg g)(hb:lS K tb b):lS K (uG wi tg tb) (fZ fi g b):=by
 intro L G H I st fl st' E l rs e q;obtain⟨S,gW,e0,e⟩:=bq e;refine hi L G H I st S gW _ l rs e0 λJ H0 L0 m0 l0 ok=>?_;refine⟨λi m G1 H1=>∃L1 I1 st1,Mn K L0 H0 L1 H1/\Rl K L1 H1 st1/\Rs K L1 H1 G1 I1/\cO S g b m i I1 st1=some (fl,st'),⟨fuel,L0,I,gW,.refl,l0,rs.mn m0,e⟩,?_⟩;rintro i m G1 H1 ⟨L1,I1,st1,m1,l1,qu,e1⟩;cases m with
 |zero=>cases e1
 |succ m =>
  obtain⟨hstop,hgo⟩:=ok L1 H1 st1 i m1 l1;unfold cO at e1;split at e1
  ·cases e1
  ·next hs=>cases e1;exact .inl ⟨hstop hs,q.mn (m0.trans m1) G1 H1 L1 .refl l1 qu⟩
  ·next d hs =>
   obtain⟨I2,st2,e2,e1⟩:=bq e1;obtain⟨f3,st3,e3,e1⟩:=bq e1;obtain⟨go,pE⟩:=hgo d hs;refine .inr ⟨go,λG3 H3=>∃m',m' < m+1/\∃L1 I1 st1,Mn K L0 H0 L1 H3/\Rl K L1 H3 st1/\Rs K L1 H3 G3 I1/\cO S g b m' (i+1) I1 st1=some (fl,st'),λ_ _ h=>h,λx H2 hy=>?_⟩;obtain⟨m2,l2,r2⟩:=pE x H2 hy;refine hg L1 G1 H2 I1 st1 x d I2 st2 _ l2 (qu.mn m2) r2 e2 λG4 H4 L4 m4 l4 r4=>hb L4 G4 H4 I2 st2 f3 st3 _ l4 r4 e3 ?_;have m5:=((m1.trans m2).trans m4);cases f3 with
   |nx I3=>exactλG5 H5 L5 m6 l5 r5=>⟨m,Us m,L5,I3,st3,m5.trans m6,l5,r5,e1⟩
   |ct I3=>exactλG5 H5 L5 m6 l5 r5=>⟨m,Us m,L5,I3,st3,m5.trans m6,l5,r5,e1⟩
   |bk I3=>cases e1;exact q.mn (m0.trans m5)
   |rt d=>cases e1;exact q.mn (m0.trans m5)
abbrev jL(fa:ai->Dm D):ai->Dm Src:=λI st=>bnd (fa I st) λa st1=>match a with
 |.tup ds=>some (.fix ds,st1)
 |_=>none
def Kw{t:TE}{fa:ai->Dm D}(ha:dv K t fa):rW K (uF K t) (jL fa):=by
 intro L G H I st S st' Q l rs e q;obtain⟨a,st1,e1,e⟩:=bq e;cases a<;>simp at e;obtain⟨rfl,rfl⟩:=e;refine ha L G H I st _ _ _ l rs e1 λx H1 L1 m1 l1 r1=>?_;cases r1 with
 |tup s r =>
  refine⟨_,rfl,⟨_,s⟩,q _ H1 L1 m1 l1 λL2 H2 st2 i m2 l2=>⟨λh=>?_,λd h=>?_⟩⟩;exact⟨_,m2.t _ _ s,by rw[r.length];exact Ud.mp (tU h).2⟩;obtain⟨v,hv,rv⟩:=r.got (tU h).2;refine⟨⟨_,v,m2.t _ _ s,hv⟩,λx H3 y=>?_⟩;obtain⟨rfl,hx⟩:=y;have:=hx _ (m2.t _ _ s);rw[hv]at this;cases this;exact⟨.refl,l2,rv.mn m2⟩
abbrev jf(fa:ai->Dm D):ai->Dm Src:=λI st=>bnd (fa I st) λa st1=>match a with
 |.ref i=>match items st1 i with
  |some _=>some (.live i,st1)
  |none=>none
 |_=>none
def F9{t:TE}{fa:ai->Dm D}(ha:dv K t fa):rW K (sI K t) (jf fa):=by
 intro L G H I st S st' Q l rs e q;obtain⟨a,st1,e1,e⟩:=bq e;split at e
 ·next k =>
  split at e
  ·next ds hd =>
   cases e;refine ha L G H I st _ _ _ l rs e1 λx H1 L1 m1 l1 r1=>?_;cases r1 with
   |ref hi =>
    obtain⟨vs,s,r⟩:=l1.items hi hd;refine⟨_,rfl,⟨_,s⟩,q _ H1 L1 m1 l1 λL2 H2 st2 i m2 l2=>⟨λh=>?_,λd h=>?_⟩⟩
    ·obtain⟨Pc,hd2,h⟩:=TM.mp h
     obtain⟨FL,s2,r2⟩:=l2.items (m2.r _ _ hi) hd2;exact⟨FL,s2,by rw[r2.length];exact Ud.mp h⟩
    ·obtain⟨Pc,hd2,h⟩:=TM.mp h
     obtain⟨FL,s2,r2⟩:=l2.items (m2.r _ _ hi) hd2;obtain⟨v,hv,rv⟩:=r2.got h;refine⟨⟨_,v,s2,hv⟩,λx H3 y=>?_⟩;obtain⟨rfl,hx⟩:=y;have:=hx _ s2;rw[hv]at this;cases this;exact⟨.refl,l2,rv⟩
  ·cases e
 ·cases e
abbrev dw(fa:ai->Dm (List D)):ai->Dm Src:=λI st=>bnd (fa I st) λas st1=>match as with
 |[.int j]=>if decide (-4611686018427387904<=j/\j<4611686018427387904)=true then some (.fix (aD 0 j.toNat),st1)else none
 |_=>none
abbrev qv(fa:ai->Dm (List D)):ai->Dm Src:=λI st=>bnd (fa I st) λas st1=>match as with
 |[.int i,.int j]=>if decide ((-4611686018427387904<=i/\i<4611686018427387904)/\-4611686018427387904<=j/\j<4611686018427387904)=true then some (.fix (aD i (j-i).toNat),st1)else none
 |_=>none
def jr(lo:Int)(n:Nat):(aD lo n).length=n:=by simp[aD]
def Ae{lo:Int}{n k:Nat}(h:k<n):(aD lo n)[k]?=some (.int (lo+k)):=by simp[aD,h]
def vG{L:List Addr}{H:Hp}(lo:Int)(n:Nat):vF K L H (CG lo n) (.fix (aD lo n)):=by
 intro L2 H2 st2 i m2 l2;refine⟨λh=>?_,λd h=>?_⟩
 have:=Ud.mp (tU h).2
 rw[jr]at this;exact this;have h:=(tU h).2;have hl:=(Ti.mp h).1;rw[jr]at hl;rw[Ae hl]at h;cases h;refine⟨hl,λx H3 y=>?_⟩;obtain⟨rfl,rfl⟩:=y;exact⟨.refl,l2,.int _⟩
def Dp{t:TA}{fa:ai->Dm (List D)}(ha:kW K t fa):rW K (sJ t) (dw fa):=by
 intro L G H I st S st' Q l rs e q;obtain⟨as,st1,e1,e⟩:=bq e;split at e
 ·split at e
  ·next ok =>
   cases e;have ok:=of_decide_eq_true ok;refine ha L G H I st _ _ _ l rs e1 λx H1 L1 m1 l1 r1=>?_;obtain⟨v,rfl,r⟩:=r1.one';cases r;exact⟨_,rfl,by lk,by lk,q _ H1 L1 m1 l1 (vG 0 _)⟩
  ·cases e
 ·cases e
abbrev ki(ds:List D):List D:=ds.mapIdx λi d=>.tup [.int (i:Int),d]
def Dq(ds:List D):(ki ds).length=ds.length:=by simp[ki]
def Kx{ds:List D}{i:Nat}{x:D}(h:(ki ds)[i]?=some x):∃d,ds[i]?=some d/\x=.tup [.int (i:Int),d]:=by unfold ki at h;rw[List.getElem?_mapIdx]at h;obtain⟨d,h1,h2⟩:=TM.mp h;exact⟨d,h1,h2.symm⟩
abbrev lT(fa:ai->Dm (List D)):ai->Dm Src:=λI st=>bnd (fa I st) λas st1=>match as with
 |[.tup ds]=>some (.fix (ki ds),st1)
 |_=>none
def Pd{t:TA}{fa:ai->Dm (List D)}(ha:kW K t fa):rW K (tj K t) (lT fa):=by
 intro L G H I st S st' Q l rs e q;obtain⟨as,st1,e1,e⟩:=bq e;split at e;cases e;refine ha L G H I st _ _ _ l rs e1 λx H1 L1 m1 l1 r1=>?_;obtain⟨v,rfl,r⟩:=r1.one';cases r with
 |tup s r =>
  refine⟨_,rfl,⟨_,s⟩,q _ H1 L1 m1 l1 λL2 H2 st2 i m2 l2=>⟨λh=>?_,λd h=>?_⟩⟩;obtain⟨h1,h2⟩:=tU h;have h2:=Ud.mp h2;rw[Dq]at h1 h2;exact⟨_,m2.t _ _ s,by rw[r.length];lk⟩;obtain⟨h1,h2⟩:=tU h;obtain⟨d',hd',rfl⟩:=Kx h2;obtain⟨v,hv,rv⟩:=r.got hd';refine⟨⟨_,v,m2.t _ _ s,hv⟩,λx H3 y=>?_⟩;obtain⟨p,z,rfl,hp,rfl,hx⟩:=y;have:=hx _ (m2.t _ _ s);rw[hv]at this;cases this;have m3:Mn K L2 H2 L2 (upd H2 p (.tup [.int (i:Int),v])):=Mn.same (cL.up hp);exact⟨m3,l2.same (cL.up hp),.tup (df.of h8) (.cons (.int _) (.one ((rv.mn m2).mn m3)))⟩
 cases e
abbrev f9(S:Src)(g:D->ai->Dm ai)(tc:ai->Dm Bool)(te:ai->Dm D):Nat->Nat->List D->ai->Dm (List D)
 |0,_,_,_,_=>none
 |n+1,i,ys,I,st=>if lim ys.length=true then match S.at i st with
  |none=>none
  |some none=>some (ys,st)
  |some (some d)=>bnd (g d I st) λI1 st1=>bnd (tc I1 st1) λt st2=>if t=true then bnd (te I1 st2) λy st3=>f9 S g tc te n (i+1) (ys ++ [y]) I1 st3 else f9 S g tc te n (i+1) ys I1 st2
  else none
abbrev mF(n:Nat)(js:List Nat)(I:ai):ai:=List.replicate n none ++ js.map λj=>I.getD j none
abbrev eP(fi:ai->Dm Src)(n:Nat)(js:List Nat)(g:D->ai->Dm ai)(tc:ai->Dm Bool)(te:ai->Dm D):ai->Dm D:=λI st=>bnd (fi I st) λS st1=>bnd (f9 S g tc te fuel 0 [] (mF n js I) st1) λys st2=>some (.ref st2.length,st2 ++ [.lst ys])
def Rs.comp{L:List Addr}{H:Hp}{G:St}{I:ai}(h:Rs K L H G I)(n:Nat)(js:List Nat):Rs K L H (ib n js G) (mF n js I):=by
 unfold ib mF;refine⟨by simp,λi d hd=>?_⟩;by_cases hi:i<n;rw[TX (by simpa using hi),UB,if_pos hi]at hd;cases hd;rw[TU (by simpa using U7 hi),TC]at hd;rw[TU (by simpa using U7 hi),TC];simp only[UH]at hd ⊢;cases hj:js[i-n]? with
 |none=>rw[hj]at hd;cases hd
 |some j =>
  rw[hj]at hd;have hd:I.getD j none=some d:=Tq hd;rw[TV]at hd;have hd':I[j]?=some (some d):=by
   cases hx:I[j]? with
   |none=>rw[hx]at hd;cases hd
   |some y=>rw[hx]at hd;exact congrArg some hd
  obtain⟨v,hv,r⟩:=h.2 j d hd';exact⟨v,by show some (G.getD j none)=_;rw[TV,hv];rfl,r⟩
def Pe{wi:TI}{tg:TG}{tc:TT}{te:TE}{fi:ai->Dm Src}{n:Nat}{js:List Nat}{g:D->ai->Dm ai}{c:ai->Dm Bool}{f:ai->Dm D}{L:List Addr}{G:St}{H:Hp}{I:ai}{st:Store}{b:D}{st':Store}{Q:VK}(hi:∀S gW R,fi I st=some (S,gW)->(∀J H' L',Mn K L H L' H'->Rl K L' H' gW->vF K L' H' J S->R J H')->wi G H R)(hg:rT K tg g)(hc:m8 K tc c)(hf:dv K te f)(rs:Rs K L H G I)(e:eP fi n js g c f I st=some (b,st'))(q:∀a H' L',Mn K L H L' H'->Rl K L' H' st'->Rp K L' H' a b->Q a H'):oG wi n js tg tc te G H Q:=by
 obtain⟨S,gW,e0,e⟩:=bq e;obtain⟨zs,nr,e9,e⟩:=bq e;cases e;refine hi S gW _ e0 λJ H0 L0 m0 l0 ok=>?_;refine⟨λi m ys G1 H1=>∃L1 I1 st1 ws,Mn K L0 H0 L1 H1/\Rl K L1 H1 st1/\Rs K L1 H1 G1 I1/\bt K L1 H1 ys ws/\f9 S g c f m i ws I1 st1=some (zs,nr),⟨fuel,L0,_,gW,[],.refl,l0,(rs.mn m0).comp n js,.nil,e9⟩,?_⟩;rintro i m ys G1 H1 ⟨L1,I1,st1,ws,m1,l1,qu,Ds,e1⟩;cases m with
 |zero=>cases e1
 |succ m =>
  obtain⟨hstop,hgo⟩:=ok L1 H1 st1 i m1 l1;unfold f9 at e1;split at e1
  ·next hl =>
   refine⟨by rw[Ds.length];exact JV hl,?_⟩;split at e1
   ·cases e1
   ·next hs =>
    cases e1;exact .inl ⟨hstop hs,λp hp=>q _ _ _ ((m0.trans m1).trans (Mn.new hp)) (l1.newL hp Ds) (.ref (newR l1))⟩
   ·next d hs =>
    obtain⟨I2,st2,e2,e1⟩:=bq e1;obtain⟨t,st3,e3,e1⟩:=bq e1;obtain⟨go,pE⟩:=hgo d hs;refine .inr ⟨go,λx H2 hy=>?_⟩;obtain⟨m2,l2,r2⟩:=pE x H2 hy;refine hg L1 G1 H2 I1 st1 x d I2 st2 _ l2 (qu.mn m2) r2 e2 λG4 H4 L4 m4 l4 r4=>hc L4 G4 H4 I2 st2 t st3 _ l4 r4 e3 λt' H5 L5 m5 l5 r5=>?_;subst r5;have m6:=(((m1.trans m2).trans m4).trans m5);cases t' with
    |true =>
     refine nK ?_;rw[if_pos rfl]at e1;obtain⟨y,Dt,e6,e1⟩:=bq e1;exact hf L5 G4 H5 I2 st3 y Dt _ l5 (r4.mn m5) e6 λv H7 L7 m7 l7 r7=>⟨m,Us m,L7,I2,Dt,ws ++ [y],m6.trans m7,l7,r4.mn (m5.trans m7),(Ds.mn (((m2.trans m4).trans m5).trans m7)).append (.one r7),e1⟩
    |false =>
     refine nJ ?_;rw[if_neg Tb]at e1;exact⟨m,Us m,L5,I2,st3,ws,m6,l5,r4.mn m5,Ds.mn ((m2.trans m4).trans m5),e1⟩
  ·cases e1
def Ga{wi:TI}{tg:TG}{tc:TT}{te:TE}{fi:ai->Dm Src}{n:Nat}{js:List Nat}{g:D->ai->Dm ai}{c:ai->Dm Bool}{f:ai->Dm D}(hi:rW K wi fi)(hg:rT K tg g)(hc:m8 K tc c)(hf:dv K te f):dv K (oG wi n js tg tc te) (eP fi n js g c f) :=
 λL G H I st _ _ _ l rs e q=>Pe (λS gW R e0 r=>hi L G H I st S gW R l rs e0 r) hg hc hf rs e q
abbrev iq:ai->Dm Bool:=λ_ st=>some (true,st)
abbrev jM(n:Nat)(b:ai->Dm Fl):List D->Dm D:=λds st=>bnd (b (ds.map some ++ List.replicate (n-ds.length) none) st) λfl st1=>match fl with
 |.rt d=>some (d,st1)
 |.nx _=>some (.non,st1)
 |_=>none
def Rs.start{L:List Addr}{H:Hp}{vs:List V}{ds:List D}(r:bt K L H vs ds)(N:List Str):Rs K L H (start N vs) (ds.map some ++ List.replicate (N.length-ds.length) none):=by
 unfold L2.start;rw[r.length];refine⟨by simp[r.length],λi d hd=>?_⟩;by_cases hi:i<ds.length;rw[TX (by simpa using hi),TC]at hd;rw[TX (by rw[S8,r.length];exact hi),TC];cases hx:ds[i]? with
 |none=>rw[hx]at hd;cases hd
 |some y =>
  rw[hx]at hd;cases hd;obtain⟨v,hv,rv⟩:=r.got hx;exact⟨v,by rw[hv];rfl,rv⟩
 rw[TU (by simpa using U7 hi),UB]at hd;split at hd<;>cases hd
def nt{N:List Str}{k n:Nat}{t:TS}{b:ai->Dm Fl}{vs:List V}{H:Hp}{Q:VK}{E:XK}(hb:lS K t b)(hn:N.length=n)(h:ie K k (jM n b) vs H Q E):t { nx:=λ_ H'=>Q .non H',rt:=Q } (start N vs) H:=by
 obtain⟨hk,L,st,ds,d,st',l,r,e,q⟩:=h;subst hn;obtain⟨fl,st1,e1,e⟩:=bq e;refine hb L _ H _ st fl st1 _ l (Rs.start r N) e1 ?_;cases fl with
 |rt v=>cases e;exact q
 |nx I=>cases e;exactλG' H' L' m l' r'=>q .non H' L' m l' .non
 |bk I=>cases e
 |ct I=>cases e
end
section
variable {X:Cx}{K:Zfr}
def Pf{N:List Str}{qw:Scope}{cells:List (Str×Addr)}{C:Addr}{fp:List Addr}{s:Shared}{H:Hp}{qx:Scope}{own fr:List Str}(h:qe (qa qw X.env.scope) qx own fr):qe (aU X N qw cells C fp s H).env.scope qx own fr:=h
def Gb:m8 K (λ_ H Q=>Q true H) iq:=by intro L G H I st b st' Q l rs e q;cases e;exact q _ H L .refl l rfl
end
abbrev tV(K:Zfr):Sp:=λvs H Q _=>∃(a:Addr) (ns:List Int),vs=[.ref a]/\zm K H a (ns.map V.int)/\ns.length<=63/\∀H',Q (.bl true) H'
def vH{P:Program}{w:World}{K:Zfr}{mg:Str->Option Value}{base:Heap}{k:Nat}{f:Addr}{fd:FuncData}{ps:List Str}{F:List D->Dm D}(G:aN P w K mg base cS k f fd ps (ie K 1 F))
  (h:∀ns:List Int,ns.length<=63->∃st',F [.ref 0] [.mZ (ns.map D.int)]=some (.bl true,st')):aN P w K mg base cS k f fd ps (tV K):=by
 refine G.imp λvs H Q E hs=>?_;obtain⟨a,ns,rfl,hS,hn,q⟩:=hs;obtain⟨st',e⟩:=h ns hn;have one:∀i (b:Addr),([a]:List Addr)[i]?=some b->i=0/\b=a:=λi b h=>by
  cases i with
  |zero=>exact⟨rfl,(Tq h).symm⟩
  |succ i=>simp at h
 refine⟨rfl,[a],[.mZ (ns.map D.int)],[.ref 0],.bl true,st',⟨rfl,λi j b o o' h1 h2 _ _ _ _=>by rw[(one i b h1).1,(one j b h2).1],λi b o h1 h2=>?_⟩,.one (.ref rfl),e,λv H' L' m l r=>by cases r;exact q H'⟩;obtain⟨rfl,rfl⟩:=one i b h1;cases(Tq h2);exact⟨ns.map V.int,hS,bt.ints ns⟩
abbrev Wp{J:Type}(m:Option (J×Store))(Q:J->Store->Prop):Prop:=∃a st,m=some (a,st)/\Q a st
section
variable {J U:Type}{Q Q':J->Store->Prop}{st:Store}{I:ai}
def aY{m:Option (J×Store)}(h:Wp m Q)(hq:∀a st,Q a st->Q' a st):Wp m Q':=let ⟨a,st,e,q⟩:=h;⟨a,st,e,hq a st q⟩
def aT{a:J}:Wp (some (a,st)) Q↔Q a st:=⟨λ⟨_,_,e,q⟩=>by cases e;exact q,λq=>⟨a,st,rfl,q⟩⟩
def dr:Wp (none:Option (J×Store)) Q↔False:=⟨λ⟨_,_,e,_⟩=>(by cases e),False.elim⟩
def cz{R:U->Store->Prop}{m:Option (J×Store)}{k:J->Dm U}:Wp (bnd m k) R↔Wp m λa st1=>Wp (k a st1) R:=by
 cases m with
 |none=>exact⟨λ⟨_,_,e,_⟩=>(by cases e),λ⟨_,_,e,_⟩=>(by cases e)⟩
 |some p=>exact⟨λh=>⟨p.1,p.2,rfl,h⟩,λ⟨a,s,e,h⟩=>by cases e;exact h⟩
def kj{c:Prop}[Decidable c]{m n:Option (J×Store)}:Wp (if c then m else n) Q↔if c then Wp m Q else Wp n Q:=by split<;>exact Iff.rfl
end
section
variable {st:Store}{I:ai}{Q:D->Store->Prop}
def vI{i:Nat}:Wp (ag i I st) Q↔∃d,I[i]?=some (some d)/\Q d st:=by
 unfold ag;split
 ·next d hd=>rw[aT];exact⟨λh=>⟨d,hd,h⟩,λ⟨e,he,h⟩=>by rw[hd]at he;cases he;exact h⟩
 ·next h=>rw[dr];exact⟨False.elim,λ⟨e,he,_⟩=>h e he⟩
def Gd{d:D}:Wp (fC d I st) Q↔Q d st:=aT
def Af{g:D->D->Dm D}{fa fb:ai->Dm D}:Wp (aF g fa fb I st) Q↔Wp (fa I st) λa st1=>Wp (fb I st1) λb st2=>Wp (g a b st2) Q:=by unfold aF;rw[cz];simp only[cz]
def Ag{g:D->Dm D}{fa:ai->Dm D}:Wp (Dg g fa I st) Q↔Wp (fa I st) λa st1=>Wp (g a st1) Q:=cz
def Ah{g:List D->Dm D}{fa:ai->Dm (List D)}:Wp (aQ g fa I st) Q↔Wp (fa I st) λa st1=>Wp (g a st1) Q:=cz
def vJ{R:List D->Store->Prop}:Wp (ah I st) R↔R [] st:=aT
def Pg{R:List D->Store->Prop}{fa:ai->Dm D}{fr:ai->Dm (List D)}:Wp (ae fa fr I st) R↔Wp (fa I st) λa st1=>Wp (fr I st1) λr st2=>R (a :: r) st2:=by unfold ae;rw[cz];simp only[cz,aT]
def vK{fa:ai->Dm (List D)}:Wp (dC fa I st) Q↔Wp (fa I st) λas st1=>lim as.length=true/\Q (.tup as) st1:=by unfold dC;rw[cz];simp only[kj,aT,dr];constructor<;>exactλh=>aY h λa s h=>by first|(split at h;exact⟨by assumption,h⟩;exact h.elim)|(rw[if_pos h.1];exact h.2)
def vL{fa:ai->Dm (List D)}:Wp (cw fa I st) Q↔Wp (fa I st) λas st1=>lim as.length=true/\Q (.ref st1.length) (st1 ++ [.lst as]):=by unfold cw;rw[cz];simp only[kj,aT,dr];constructor<;>exactλh=>aY h λa s h=>by first|(split at h;exact⟨by assumption,h⟩;exact h.elim)|(rw[if_pos h.1];exact h.2)
def Ph{R:Bool->Store->Prop}{fa:ai->Dm D}:Wp (aA fa I st) R↔Wp (fa I st) λa st1=>∃b,a=.bl b/\R b st1:=by unfold aA;rw[cz];constructor<;>refineλh=>aY h λa s h=>?_;cases a<;>simp only[aT,dr]at h;exact⟨_,rfl,h⟩;obtain⟨b,rfl,h⟩:=h;exact aT.mpr h
def vM{R:Bool->Store->Prop}{fa:ai->Dm Bool}:Wp (lM fa I st) R↔Wp (fa I st) λa st1=>R (!a) st1:=by unfold lM;rw[cz];simp only[aT]
def vN{R:Bool->Store->Prop}{fa fb:ai->Dm Bool}:Wp (rM fa fb I st) R↔Wp (fa I st) λa st1=>if a=true then Wp (fb I st1) R else R false st1:=by unfold rM;rw[cz];simp only[kj,aT]
def Ai{R:Bool->Store->Prop}{fa fb:ai->Dm Bool}:Wp (lN fa fb I st) R↔Wp (fa I st) λa st1=>if a=true then R true st1 else Wp (fb I st1) R:=by unfold lN;rw[cz];simp only[kj,aT]
def tW{J:Type}{R:J->Store->Prop}{c:ai->Dm Bool}{fa fb:ai->Dm J}:Wp (fT c fa fb I st) R↔Wp (c I st) λa st1=>if a=true then Wp (fa I st1) R else Wp (fb I st1) R:=by unfold fT;rw[cz];simp only[kj]
def Pj{fa fb:ai->Dm D}:Wp (oO fa fb I st) Q↔Wp (aA fa I st) λa st1=>if a=true then Wp (fb I st1) Q else Q (.bl false) st1:=by unfold oO;rw[cz];simp only[kj,aT]
def vO{fa fb:ai->Dm D}:Wp (zX fa fb I st) Q↔Wp (aA fa I st) λa st1=>if a=true then Q (.bl true) st1 else Wp (fb I st1) Q:=by unfold zX;rw[cz];simp only[kj,aT]
def Pk{fa:ai->Dm D}:Wp (tL fa I st) Q↔Wp (aA fa I st) λa st1=>Q (.bl (!a)) st1:=by unfold tL;rw[cz];simp only[aT]
def Pl{R:Option Int->Store->Prop}:Wp (aK I st) R↔R none st:=aT
def Pm{R:Option Int->Store->Prop}{fa:ai->Dm D}:Wp (bp fa I st) R↔Wp (fa I st) λa st1=>∃i,a=.int i/\R (some i) st1:=by unfold bp;rw[cz];constructor<;>refineλh=>aY h λa s h=>?_;cases a<;>simp only[aT,dr]at h;exact⟨_,rfl,h⟩;obtain⟨b,rfl,h⟩:=h;exact aT.mpr h
def Aj{g:D->Option Int->Option Int->Dm D}{fa:ai->Dm D}{fl fh:ai->Dm (Option Int)}:Wp (jy g fa fl fh I st) Q↔Wp (fa I st) λa st1=>Wp (fl I st1) λlo st2=>Wp (fh I st2) λhi st3=>Wp (g a lo hi st3) Q:=by unfold jy;rw[cz];simp only[cz]
def Ak{T:String}{g:D->List D->Dm D}{fo:ai->Dm D}{fa:ai->Dm (List D)}:Wp (jo T g fo fa I st) Q↔Wp (fo I st) λo st1=>x6 T st1 o=true/\Wp (fa I st1) λas st2=>Wp (g o as st2) Q:=by unfold jo;rw[cz];simp only[kj,cz,dr];constructor<;>exactλh=>aY h λa s h=>by first|(split at h;exact⟨by assumption,h⟩;exact h.elim)|(rw[if_pos h.1];exact h.2)
variable {i j:Int}{ds es:List D}{k:Nat}
def vP:Wp (dD (.int i) (.int j) st) Q↔Q (.int (i+j)) st:=aT
def vQ:Wp (nB (.int i) (.int j) st) Q↔Q (.int (i-j)) st:=aT
def Al:Wp (qr (.int i) (.int j) st) Q↔Q (.bl (decide (i<j))) st:=aT
def Am:Wp (zY (.int i) (.int j) st) Q↔Q (.bl (decide (i<=j))) st:=aT
def An:Wp (qO (.int i) (.int j) st) Q↔Q (.bl (decide (j<i))) st:=aT
def Ao:Wp (Dj (.int i) (.int j) st) Q↔Q (.bl (decide (j<=i))) st:=aT
def vR:Wp (FW (.int i) st) Q↔Q (.int (-i)) st:=aT
def Du{c:Int->Int->Bool}{h:Int->Int->D}:Wp (vA c h (.int i) (.int j) st) Q↔c i j=true/\Q (h i j) st:=by
 show Wp (if c i j=true then some (h i j,st)else none) Q↔_;rw[kj,aT,dr];split
 ·next h=>exact⟨λq=>⟨h,q⟩,λq=>q.2⟩
 ·next h=>exact⟨False.elim,λq=>h q.1⟩
def vS:Wp (kf (.int i) (.int j) st) Q↔((-18446744073709551616<i/\i<18446744073709551616)\/(-18446744073709551616<j/\j<18446744073709551616))/\Q (.int (i*j)) st:=by unfold kf;rw[Du,Bool.or_eq_true,decide_eq_true_eq,decide_eq_true_eq]
def Pn:Wp (mC (.int i) (.int j) st) Q↔(0<j/\j<1073741824)/\Q (.int (i / j)) st:=by unfold mC;rw[Du,decide_eq_true_eq]
def vT:Wp (kg (.int i) (.int j) st) Q↔0<j/\Q (.int (i % j)) st:=by unfold kg;rw[Du,decide_eq_true_eq]
def vU:Wp (qq (.int i) (.int j) st) Q↔(0<=j/\j<=1000000/\i.natAbs<18446744073709551616)/\Q (.int (i ^ j.toNat)) st:=by unfold qq;rw[Du,decide_eq_true_eq]
def vV{neg:Bool}:Wp (jK neg (.int i) (.int j) st) Q↔Q (.bl (if neg then !decide (i=j)else decide (i=j))) st:=by
 have e:decide (V.int i=V.int j)=decide (i=j):=by
  by_cases h:i=j;subst h;simp;simp[h]
 show Wp (if nG (V.int i) (V.int j)=true then some (D.bl (if neg then !decide (V.int i=V.int j)else decide (V.int i=V.int j)),st)else none) Q↔_;rw[if_pos (show nG _ _=true from rfl),aT,e]
def x8{neg:Bool}{x y:Str}:Wp (jK neg (.str x) (.str y) st) Q↔Q (.bl (if neg then !decide (x=y)else decide (x=y))) st:=by
 have e:decide (V.str x=V.str y)=decide (x=y):=by
  by_cases h:x=y;subst h;simp;simp[h]
 show Wp (if nG (V.str x) (V.str y)=true then some (D.bl (if neg then !decide (V.str x=V.str y)else decide (V.str x=V.str y)),st)else none) Q↔_;rw[if_pos (show nG _ _=true from rfl),aT,e]
def vW:Wp (je (.tup ds) (.int i) st) Q↔∃d,iH ds i=some d/\Q d st:=by
 show Wp (match iH ds i with|some d=>some (d,st)|none=>none) Q↔_;cases iH ds i with
 |none=>rw[dr];exact⟨False.elim,λ⟨_,e,_⟩=>by cases e⟩
 |some d=>rw[aT];exact⟨λq=>⟨d,rfl,q⟩,λ⟨_,e,q⟩=>by cases e;exact q⟩
def Dv:Wp (cx (.ref k) (.int i) st) Q↔∃ds d,items st k=some ds/\iH ds i=some d/\Q d st:=by
 show Wp (match items st k with|some ds=>(match iH ds i with|some d=>some (d,st)|none=>none)|none=>none) Q↔_;cases items st k with
 |none=>rw[dr];exact⟨False.elim,λ⟨_,_,e,_⟩=>by cases e⟩
 |some ds =>
  show Wp (match iH ds i with|some d=>some (d,st)|none=>none) Q↔_;cases h:iH ds i with
  |none=>rw[dr];exact⟨False.elim,λ⟨_,_,e,e',_⟩=>by cases e;rw[h]at e';cases e'⟩
  |some d=>rw[aT];exact⟨λq=>⟨ds,d,rfl,h,q⟩,λ⟨_,_,e,e',q⟩=>by cases e;rw[h]at e';cases e';exact q⟩
def vX{lo hi:Option Int}:Wp (rQ (.tup ds) lo hi st) Q↔Q (.tup (cutD ds lo hi)) st:=aT
def vY{lo hi:Option Int}:Wp (eL (.ref k) lo hi st) Q↔∃ds,items st k=some ds/\Q (.ref st.length) (st ++ [.lst (cutD ds lo hi)]):=by
 show Wp (match items st k with|some ds=>some (D.ref st.length,st ++ [O.lst (cutD ds lo hi)])|none=>none) Q↔_;cases items st k with
 |none=>rw[dr];exact⟨False.elim,λ⟨_,e,_⟩=>by cases e⟩
 |some ds=>rw[aT];exact⟨λq=>⟨ds,rfl,q⟩,λ⟨_,e,q⟩=>by cases e;exact q⟩
def Po:Wp (oQ (.tup ds) (.tup es) st) Q↔lim (ds.length+es.length)=true/\Q (.tup (ds ++ es)) st:=by
 show Wp (if lim (ds.length+es.length)=true then some (D.tup (ds ++ es),st)else none) Q↔_;rw[kj,aT,dr];split
 ·next h=>exact⟨λq=>⟨h,q⟩,λq=>q.2⟩
 ·next h=>exact⟨False.elim,λq=>h q.1⟩
def vZ{a b:Nat}:Wp (dE (.ref a) (.ref b) st) Q↔∃xs ys,own st a=some xs/\own st b=some ys/\lim (xs.length+ys.length)=true/\Q (.ref st.length) (st ++ [.lst (xs ++ ys)]):=by
 show Wp (match own st a,own st b with|some xs,some ys=>if lim (xs.length+ys.length)=true then some (D.ref st.length,st ++ [O.lst (xs ++ ys)])else none|_,_=>none) Q↔_;cases ha:own st a<;>cases hb:own st b
 ·simp only[dr];exact⟨False.elim,λ⟨_,_,e,_⟩=>by cases e⟩
 ·simp only[dr];exact⟨False.elim,λ⟨_,_,e,_⟩=>by cases e⟩
 ·simp only[dr];exact⟨False.elim,λ⟨_,_,_,e,_⟩=>by cases e⟩
 ·next xs ys =>
  show Wp (if lim (xs.length+ys.length)=true then some (D.ref st.length,st ++ [O.lst (xs ++ ys)])else none) Q↔_;rw[kj,aT,dr];split
  ·next h=>exact⟨λq=>⟨_,_,rfl,rfl,h,q⟩,λ⟨_,_,e,e',_,q⟩=>by cases e;cases e';exact q⟩
  ·next h=>exact⟨False.elim,λ⟨_,_,e,e',q,_⟩=>by cases e;cases e';exact h q⟩
def wa{a:D}:Wp (bK [a] st) Q↔∃ds,br st a=some ds/\Q (.int ds.length) st:=by
 show Wp (match br st a with|some ds=>some (D.int ds.length,st)|none=>none) Q↔_;cases br st a with
 |none=>rw[dr];exact⟨False.elim,λ⟨_,e,_⟩=>by cases e⟩
 |some ds=>rw[aT];exact⟨λq=>⟨ds,rfl,q⟩,λ⟨_,e,q⟩=>by cases e;exact q⟩
def Pp{a:D}:Wp (kY [a] st) Q↔∃ds,br st a=some ds/\Q (.ref st.length) (st ++ [.lst ds]):=by
 show Wp (match br st a with|some ds=>some (D.ref st.length,st ++ [O.lst ds])|none=>none) Q↔_;cases br st a with
 |none=>rw[dr];exact⟨False.elim,λ⟨_,e,_⟩=>by cases e⟩
 |some ds=>rw[aT];exact⟨λq=>⟨ds,rfl,q⟩,λ⟨_,e,q⟩=>by cases e;exact q⟩
def Pq{a:D}:Wp (dX [a] st) Q↔∃ds,br st a=some ds/\Q (.tup ds) st:=by
 show Wp (match br st a with|some ds=>some (D.tup ds,st)|none=>none) Q↔_;cases br st a with
 |none=>rw[dr];exact⟨False.elim,λ⟨_,e,_⟩=>by cases e⟩
 |some ds=>rw[aT];exact⟨λq=>⟨ds,rfl,q⟩,λ⟨_,e,q⟩=>by cases e;exact q⟩
def Pr:Wp (oU [.int i,.int j] st) Q↔Q (.int (if j > i then j else i)) st:=aT
def Pu:Wp (Ac [.int i,.int j] st) Q↔Q (.int (if j<i then j else i)) st:=aT
def Pw:Wp (kZ [.int i] st) Q↔Q (.int i) st:=aT
def Px{b:Bool}:Wp (kZ [.bl b] st) Q↔Q (.int (if b then 1 else 0)) st:=aT
def Py:Wp (fY [.int j] st) Q↔Q (.ref st.length) (st ++ [.fR 0 j]):=aT
def Pz:Wp (cT [.int i,.int j] st) Q↔Q (.ref st.length) (st ++ [.fR i j]):=aT
def PB{y:D}:Wp (dF (.ref k) [y] st) Q↔∃xs,own st k=some xs/\lim xs.length=true/\Q .non (st.set k (.lst (xs ++ [y]))):=by
 show Wp (match own st k with|some xs=>if lim xs.length=true then some (D.non,st.set k (O.lst (xs ++ [y])))else none|none=>none) Q↔_;cases own st k with
 |none=>rw[dr];exact⟨False.elim,λ⟨_,e,_⟩=>by cases e⟩
 |some xs =>
  show Wp (if lim xs.length=true then some (D.non,st.set k (O.lst (xs ++ [y])))else none) Q↔_;rw[kj,aT,dr];split
  ·next h=>exact⟨λq=>⟨_,rfl,h,q⟩,λ⟨_,e,_,q⟩=>by cases e;exact q⟩
  ·next h=>exact⟨False.elim,λ⟨_,e,q,_⟩=>by cases e;exact h q⟩
end
abbrev Ws(m:Option (Fl×Store))(N B C:ai->Store->Prop)(R:D->Store->Prop):Prop:=Wp m λfl st=>match fl with
 |.nx I=>N I st
 |.bk I=>B I st
 |.ct I=>C I st
 |.rt d=>R d st
section
variable {st:Store}{I:ai}{N B C:ai->Store->Prop}{R:D->Store->Prop}{f g:ai->Dm Fl}{e:ai->Dm D}
def Ap{m:Option (Fl×Store)}{N':ai->Store->Prop}(h:Ws m N B C R)(hn:∀I st,N I st->N' I st):Ws m N' B C R:=aY h λfl st q=>by
 cases fl with
 |nx I=>exact hn I st q
 |bk I=>exact q
 |ct I=>exact q
 |rt d=>exact q
def aZ(h:Ws (f I st) (λI1 st1=>Ws (g I1 st1) N B C R) B C R):Ws (aB f g I st) N B C R:=by
 unfold Ws aB;rw[cz];refine aY h λfl st1 q=>?_;cases fl with
 |nx I1=>exact q
 |bk I1=>exact aT.mpr q
 |ct I1=>exact aT.mpr q
 |rt d=>exact aT.mpr q
def iI(h:N I st):Ws (aV I st) N B C R:=aT.mpr h
def Aq{t:D->ai->Dm ai}(h:Wp (e I st) λd st1=>Wp (t d I st1) N):Ws (aO e t I st) N B C R:=by unfold Ws aO;rw[cz];refine aY h λd st1 q=>?_;rw[cz];exact aY q λI1 st2 q=>aT.mpr q
def cM{i:Nat}(h:Wp (e I st) λd st1=>N (I.set i (some d)) st1):Ws (aO e (hName i) I st) N B C R:=Aq (aY h λd st1 q=>aT.mpr q)
def x9(h:Wp (e I st) λ_ st1=>N I st1):Ws (jq e I st) N B C R:=by unfold Ws jq;rw[cz];exact aY h λd st1 q=>aT.mpr q
def hJ(h:Wp (e I st) R):Ws (bu e I st) N B C R:=by unfold Ws bu;rw[cz];exact aY h λd st1 q=>aT.mpr q
def hV{c:ai->Dm Bool}(h:Wp (c I st) λb st1=>(b=true->Ws (f I st1) N B C R)/\(b=false->Ws (g I st1) N B C R)):Ws (fT c f g I st) N B C R:=by
 unfold Ws;rw[tW];refine aY h λb st1 q=>?_;cases b with
 |true=>rw[if_pos rfl];exact q.1 rfl
 |false=>rw[if_neg Tb];exact q.2 rfl
def Dw{i j:Nat}{fa:ai->Dm (List D)}(h:Wp (fa I st) λas st1=>∃a b,as=[a,b]/\N ((I.set i (some a)).set j (some b)) st1):Ws (nZ i j fa I st) N B C R:=by unfold Ws nZ;rw[cz];refine aY h λas st1 q=>?_;obtain⟨a,b,rfl,q⟩:=q;exact aT.mpr q
def mG{n:Nat}{b:ai->Dm Fl}{ds:List D}(h:Ws (b (ds.map some ++ List.replicate (n-ds.length) none) st) (λ_ st1=>R .non st1) (λ_ _=>False) (λ_ _=>False) R):Wp (jM n b ds st) R:=by
 unfold jM;rw[cz];refine aY h λfl st1 q=>?_;cases fl with
 |nx I1=>exact aT.mpr q
 |bk I1=>exact q.elim
 |ct I1=>exact q.elim
 |rt d=>exact aT.mpr q
def Ge{c:ai->Dm Bool}{b:ai->Dm Fl}(W:Nat->ai->Store->Prop)(m:Nat)(hm:m<fuel)(h0:W m I st)
  (step:∀m I st,W m I st->Wp (c I st) λt st1=>(t=true->Ws (b I st1) (λI2 st2=>∃m',m' < m/\W m' I2 st2) N (λI2 st2=>∃m',m' < m/\W m' I2 st2) R)/\(t=false->N I st1)):Ws (kh c b I st) N B C R:=by
 have key:∀(k m:Nat) (I:ai) (st:Store),m<k->W m I st->Ws (dY c b k I st) N B C R:=by
  intro k
  induction k with
  |zero=>intro m I st h;exact absurd h (UQ _)
  |succ k ih =>
   intro m I st hk hw;unfold Ws dY;rw[cz];refine aY (step m I st hw) λt st1 q=>?_;cases t with
   |false=>rw[if_neg Tb];exact aT.mpr (q.2 rfl)
   |true =>
    rw[if_pos rfl,cz];refine aY (q.1 rfl) λfl st2 q=>?_;cases fl with
    |nx I2=>obtain⟨m',hm',w⟩:=q;exact ih m' I2 st2 ⋯ w
    |ct I2=>obtain⟨m',hm',w⟩:=q;exact ih m' I2 st2 ⋯ w
    |bk I2=>exact aT.mpr q
    |rt d=>exact aT.mpr q
 exact key fuel m I st hm h0
def rZ{fi:ai->Dm Src}{t:D->ai->Dm ai}{b:ai->Dm Fl}(ds:List D)(Pv:Nat->ai->Store->Prop)(hi:Wp (fi I st) λS st1=>S=.fix ds/\Pv 0 I st1)(hl:ds.length<100000)
  (step:∀i d I st,ds[i]?=some d->Pv i I st->Wp (t d I st) λI1 st1=>Ws (b I1 st1) (Pv (i+1)) N (Pv (i+1)) R) (fin:∀I st,Pv ds.length I st->N I st):Ws (fZ fi t b I st) N B C R:=by
 unfold Ws fZ;rw[cz];refine aY hi λS gW q=>?_;obtain⟨rfl,h0⟩:=q;have key:∀(k i:Nat) (I:ai) (st:Store),i<=ds.length->ds.length-i<k->Pv i I st->Ws (cO (.fix ds) t b k i I st) N B C R:=by
  intro k
  induction k with
  |zero=>intro i I st _ h;exact absurd h (UQ _)
  |succ k ih =>
   intro i I st hi hk hw;unfold Ws cO;have e:Src.at (.fix ds) i st=some ds[i]?:=by show(if i<=ds.length then some ds[i]? else none)=_;rw[if_pos hi]
   rw[e];cases hd:ds[i]? with
   |none =>
    have:=Ud.mp hd;have e:i=ds.length:=by lk
    exact aT.mpr (fin I st (e ▸ hw))
   |some d =>
    have hlt:=(Ti.mp hd).1;show Wp (bnd _ _) _;rw[cz];refine aY (step i d I st hd hw) λI1 st1 q=>?_;rw[cz];refine aY q λfl st2 q=>?_;cases fl with
    |nx I2=>exact ih (i+1) I2 st2 ⋯ ⋯ q
    |ct I2=>exact ih (i+1) I2 st2 ⋯ ⋯ q
    |bk I2=>exact aT.mpr q
    |rt d=>exact aT.mpr q
 exact key fuel 0 I gW (Uq _) (VD ⋯ (show 100000<fuel by decide)) h0
def Dx{fi:ai->Dm Src}{t:D->ai->Dm ai}{b:ai->Dm Fl}(ds:List D)(r:Nat)(Pv:Nat->ai->Store->Prop)(hi:Wp (fi I st) λS st1=>S=.live r/\Pv 0 I st1)(hl:ds.length<100000)(hk:∀i I st,Pv i I st->items st r=some ds)
  (step:∀i d I st,ds[i]?=some d->Pv i I st->Wp (t d I st) λI1 st1=>Ws (b I1 st1) (Pv (i+1)) N (Pv (i+1)) R) (fin:∀I st,Pv ds.length I st->N I st):Ws (fZ fi t b I st) N B C R:=by
 unfold Ws fZ;rw[cz];refine aY hi λS gW q=>?_;obtain⟨rfl,h0⟩:=q;have key:∀(k i:Nat) (I:ai) (st:Store),i<=ds.length->ds.length-i<k->Pv i I st->Ws (cO (.live r) t b k i I st) N B C R:=by
  intro k
  induction k with
  |zero=>intro i I st _ h;exact absurd h (UQ _)
  |succ k ih =>
   intro i I st hi hk' hw;unfold Ws cO;have e:Src.at (.live r) i st=some ds[i]?:=by show(items st r).map _=_;rw[hk i I st hw];rfl
   rw[e];cases hd:ds[i]? with
   |none =>
    have:=Ud.mp hd;have e:i=ds.length:=by lk
    exact aT.mpr (fin I st (e ▸ hw))
   |some d =>
    have hlt:=(Ti.mp hd).1;show Wp (bnd _ _) _;rw[cz];refine aY (step i d I st hd hw) λI1 st1 q=>?_;rw[cz];refine aY q λfl st2 q=>?_;cases fl with
    |nx I2=>exact ih (i+1) I2 st2 ⋯ ⋯ q
    |ct I2=>exact ih (i+1) I2 st2 ⋯ ⋯ q
    |bk I2=>exact aT.mpr q
    |rt d=>exact aT.mpr q
 exact key fuel 0 I gW (Uq _) (VD ⋯ (show 100000<fuel by decide)) h0
def Gf{fi:ai->Dm Src}{n:Nat}{js:List Nat}{t:D->ai->Dm ai}{c:ai->Dm Bool}{f:ai->Dm D}{Q:D->Store->Prop}(ds:List D)(Pv:Nat->List D->ai->Store->Prop)
  (hi:Wp (fi I st) λS st1=>(∀i ys I st,i<=ds.length->Pv i ys I st->S.at i st=some ds[i]?)/\Pv 0 [] (mF n js I) st1) (hl:ds.length<100000) (hy:∀i ys I st,Pv i ys I st->ys.length<=i)
  (step:∀i d ys I st,ds[i]?=some d->Pv i ys I st->Wp (t d I st) λI1 st1=>Wp (c I1 st1) λb st2=>(b=true->Wp (f I1 st2) λy st3=>Pv (i+1) (ys ++ [y]) I1 st3)/\(b=false->Pv (i+1) ys I1 st2))
  (fin:∀ys I st,Pv ds.length ys I st->Q (.ref st.length) (st ++ [.lst ys])):Wp (eP fi n js t c f I st) Q:=by
 unfold eP;rw[cz];refine aY hi λS gW q=>?_;obtain⟨hS,h0⟩:=q;have key:∀(k i:Nat) (ys:List D) (I:ai) (st:Store),i<=ds.length->ds.length-i<k->Pv i ys I st->Wp (f9 S t c f k i ys I st) λzs nr=>∃I9,Pv ds.length zs I9 nr:=by
  intro k
  induction k with
  |zero=>intro i ys I st _ h;exact absurd h (UQ _)
  |succ k ih =>
   intro i ys I st hi hk' hw;unfold f9;have hlim:lim ys.length=true:=Nat.ble_eq_true_of_le (by have:=hy i ys I st hw;lk);rw[if_pos hlim,hS i ys I st hi hw];cases hd:ds[i]? with
   |none =>
    have:=Ud.mp hd;have e:i=ds.length:=by lk
    exact aT.mpr ⟨I,e ▸ hw⟩
   |some d =>
    have hlt:=(Ti.mp hd).1;show Wp (bnd _ _) _;rw[cz];refine aY (step i d ys I st hd hw) λI1 st1 q=>?_;rw[cz];refine aY q λb st2 q=>?_;cases b with
    |true =>
     rw[if_pos rfl,cz];exact aY (q.1 rfl) λy st3 q=>ih (i+1) _ I1 st3 ⋯ ⋯ q
    |false =>
     rw[if_neg Tb];exact ih (i+1) ys I1 st2 ⋯ ⋯ (q.2 rfl)
 rw[cz];exact aY (key fuel 0 [] _ gW (Uq _) (VD ⋯ (show 100000<fuel by decide)) h0) λzs nr ⟨I9,q⟩=>aT.mpr (fin zs I9 nr q)
end
abbrev keyOf:D->Option Key
 |.int i=>some (.inl i)
 |.str x=>some (.inr x)
 |_=>none
abbrev oV(st:Store):D->Option (List (Key×D))
 |.ref i=>match st[i]? with
  |some (.dct kvs)=>some kvs
  |_=>none
 |_=>none
abbrev ph(kvs:List (Key×D))(k:Key):Option D:=(kvs.find? λkv=>decide (kv.1=k)).map (·.2)
abbrev putD(kvs:List (Key×D))(k:Key)(v:D):List (Key×D) :=
 if(kvs.any λkv=>decide (kv.1=k))=true then kvs.map (λkv=>if kv.1=k then(kv.1,v)else kv)else kvs ++ [(k,v)]
section
variable {K:Zfr}
abbrev Ar:ai->Dm D:=λ_ st=>some (.ref st.length,st ++ [.dct []])
abbrev tZ(fd fy:ai->Dm D):ai->Dm D:=λI st=>bnd (fd I st) λx st1=>bnd (fy I st1) λy st2=>match oV st2 x,keyOf y with
 |some kvs,some k=>match ph kvs k with
  |some v=>some (v,st2)
  |none=>none
 |_,_=>none
abbrev As(neg:Bool)(fy fd:ai->Dm D):ai->Dm D:=λI st=>bnd (fy I st) λy st1=>bnd (fd I st1) λx st2=>match oV st2 x,keyOf y with
 |some kvs,some k=>some (.bl (if neg then !(ph kvs k).isSome else(ph kvs k).isSome),st2)
 |_,_=>none
abbrev Au:ai->Dm (List (D×D)):=λ_ st=>some ([],st)
abbrev qy(fk fv:ai->Dm D)(fr:ai->Dm (List (D×D))):ai->Dm (List (D×D)):=λI st=>bnd (fk I st) λk st1=>bnd (fv I st1) λv st2=>bnd (fr I st2) λr st3=>some ((k,v) :: r,st3)
abbrev keysOf:List (D×D)->Option (List (Key×D))
 |[]=>some []
 |(k,v) :: r=>match keyOf k,keysOf r with
  |some k',some r'=>some ((k',v) :: r')
  |_,_=>none
abbrev qz(kvs more:List (Key×D)):List (Key×D):=more.foldl (λacc kv=>putD acc kv.1 kv.2) kvs
abbrev t4(fp:ai->Dm (List (D×D))):ai->Dm D:=λI st=>bnd (fp I (st ++ [.dct []])) λps st2=>match st2[st.length]?,keysOf ps with
 |some (.dct []),some kvs=>if kvs.length<=15 then some (.ref st.length,st2.set st.length (.dct (qz [] kvs)))else none
 |_,_=>none
end
section
variable {st:Store}{I:ai}{Q:D->Store->Prop}
def PC:Wp (Ar I st) Q↔Q (.ref st.length) (st ++ [.dct []]):=aT
def PD{fd fy:ai->Dm D}:Wp (tZ fd fy I st) Q↔Wp (fd I st) λx st1=>Wp (fy I st1) λy st2=>∃kvs k v,oV st2 x=some kvs/\keyOf y=some k/\ph kvs k=some v/\Q v st2:=by
 unfold tZ;rw[cz];simp only[cz];constructor<;>refineλh=>aY h λx s h=>aY h λy s2 h=>?_
 ·split at h
  ·next kvs k h1 h2 =>
   split at h
   ·next v h3=>exact⟨kvs,k,v,by assumption,by assumption,h3,aT.mp h⟩
   ·exact(dr.mp h).elim
  ·exact(dr.mp h).elim
 ·obtain⟨kvs,k,v,h1,h2,h3,h⟩:=h
  rw[h1,h2];simp only[h3];exact aT.mpr h
def wc{neg:Bool}{fd fy:ai->Dm D}:Wp (As neg fy fd I st) Q↔Wp (fy I st) λy st1=>Wp (fd I st1) λx st2=>∃kvs k,oV st2 x=some kvs/\keyOf y=some k/\Q (.bl (if neg then !(ph kvs k).isSome else(ph kvs k).isSome)) st2:=by
 unfold As;rw[cz];simp only[cz];constructor<;>refineλh=>aY h λx s h=>aY h λy s2 h=>?_
 ·split at h
  ·next kvs k h1 h2=>exact⟨kvs,k,by assumption,by assumption,aT.mp h⟩
  ·exact(dr.mp h).elim
 ·obtain⟨kvs,k,h1,h2,h⟩:=h
  rw[h1,h2];exact aT.mpr h
def PH{R:List (D×D)->Store->Prop}:Wp (Au I st) R↔R [] st:=aT
def PJ{fk fv:ai->Dm D}{fr:ai->Dm (List (D×D))}{R:List (D×D)->Store->Prop}:Wp (qy fk fv fr I st) R↔Wp (fk I st) λk st1=>Wp (fv I st1) λv st2=>Wp (fr I st2) λr st3=>R ((k,v) :: r) st3:=by unfold qy;rw[cz];simp only[cz,aT]
def PK{fp:ai->Dm (List (D×D))}:Wp (t4 fp I st) Q↔Wp (fp I (st ++ [.dct []])) λps st2=>st2[st.length]?=some (.dct [])/\∃kvs,keysOf ps=some kvs/\kvs.length<=15/\Q (.ref st.length) (st2.set st.length (.dct (qz [] kvs))):=by
 unfold t4;rw[cz];constructor<;>refineλh=>aY h λps s h=>?_
 ·split at h
  ·next kvs h1 h2 =>
   rw[kj,aT,dr]at h;split at h
   ·next hl=>exact⟨by assumption,kvs,by assumption,hl,h⟩
   ·exact h.elim
  ·exact(dr.mp h).elim
 ·obtain⟨h1,kvs,h2,h3,h⟩:=h
  rw[h1,h2];simp only[if_pos h3];exact aT.mpr h
end
structure Ex(c:List Nat)(st st':Store):Prop where
 len:st.length<=st'.length
 keep:∀(i:Nat) (o:O),st[i]?=some o->i ∉ c->st'[i]?=some o
section
variable {c c':List Nat}{st st1 st2:Store}{i:Nat}{o:O}{ds:List D}
def Ex.refl:Ex c st st:=⟨Tc _,λ_ _ h _=>h⟩
def Ex.trans(a:Ex c st st1)(b:Ex c st1 st2):Ex c st st2:=⟨TF a.len b.len,λi o h n=>b.keep i o (a.keep i o h n) n⟩
def Ex.mono(a:Ex c st st1)(h:∀x∈c,x∈c'):Ex c' st st1:=⟨a.len,λi o e n=>a.keep i o e λz=>n (h i z)⟩
def Ex.any(a:Ex [] st st1):Ex c st st1:=a.mono λx h=>nomatch h
def iJ{J:Type}{l:List J}{i:Nat}{o:J}(h:l[i]?=some o):i<l.length:=(Ti.mp h).1
def jg{l m:List O}(h:l[i]?=some o):(l ++ m)[i]?=some o:=by rw[TX (iJ h)];exact h
def iK{l:List O}:(l ++ [o])[l.length]?=some o:=by rw[TU (Tc _),Vh];rfl
def Ex.app(a:Ex c st st1)(m:List O):Ex c st (st1 ++ m):=⟨by rw[Td];exact TF a.len (UL _ _),λi o h n=>jg (a.keep i o h n)⟩
def Ex.aM(m:List O):Ex c st (st ++ m):=Ex.refl.app m
def Ex.put(a:Ex c st st1)(h:i∈c):Ex c st (st1.set i o):=⟨by rw[T8];exact a.len,λj u e n=>by rw[TQ (λz=>n (by rw[<- z];exact h))];exact a.keep j u e n⟩
def Ex.loc(a:Ex c st st1)(h:st.length<=i):Ex c st (st1.set i o):=⟨by rw[T8];exact a.len,λj u e n=>by rw[TQ (by have:=iJ e;lk)];exact a.keep j u e n⟩
def dG(h:st[i]?=some (.lst ds)):items st i=some ds:=by unfold items;rw[h]
def Ky(h:st[i]?=some (.mZ ds)):items st i=some ds:=by unfold items;rw[h]
def kD(h:st[i]?=some (.lst ds)):own st i=some ds:=by unfold own;rw[h]
def ja:items (st ++ [.lst ds]) st.length=some ds:=dG iK
def PL:own (st ++ [.lst ds]) st.length=some ds:=kD iK
def PN{o':O}:items (st ++ [.lst ds] ++ [o']) st.length=some ds:=dG (jg iK)
def PQ{o':O}:own (st ++ [.lst ds] ++ [o']) st.length=some ds:=kD (jg iK)
def PR{o' o2:O}:items (st ++ [.lst ds] ++ [o'] ++ [o2]) st.length=some ds:=dG (jg (jg iK))
def PU{o' o2:O}:own (st ++ [.lst ds] ++ [o'] ++ [o2]) st.length=some ds:=kD (jg (jg iK))
def PV{lo hi:Int}:gU (st ++ [.fR lo hi]) (.ref st.length)=some (lo,hi):=by simp only[gU,iK]
def PX:br st (.tup ds)=some ds:=rfl
def Kz:br st (.ref i)=items st i:=rfl
def t5(h:(items st i).isSome=true):x6 "list" st (.ref i)=true:=by simp only[x6,h];rfl
def fJ{n:Nat}(h:n<=100000):lim n=true:=Nat.ble_eq_true_of_le h
end
section
variable {st:Store}{Q:D->Store->Prop}{i j:Int}{k:Nat}{ds es:List D}
def PY{a:D}:Wp (cy [a] st) Q↔∃p,gU st a=some p/\pf p.1 p.2=true/\Q (.ref st.length) (st ++ [.lst (aD p.1 (p.2-p.1).toNat)]):=by
 show Wp (match gU st a with|some (lo,hi)=>if pf lo hi=true then some (D.ref st.length,st ++ [O.lst (aD lo (hi-lo).toNat)])else none|none=>none) Q↔_;cases gU st a with
 |none=>rw[dr];exact⟨False.elim,λ⟨_,e,_⟩=>by cases e⟩
 |some p =>
  obtain⟨lo,hi⟩:=p;show Wp (if pf lo hi=true then some (D.ref st.length,st ++ [O.lst (aD lo (hi-lo).toNat)])else none) Q↔_;rw[kj,aT,dr];split
  ·next h=>exact⟨λq=>⟨_,rfl,h,q⟩,λ⟨_,e,_,q⟩=>by cases e;exact q⟩
  ·next h=>exact⟨False.elim,λ⟨_,e,q,_⟩=>by cases e;exact h q⟩
def PZ{a:D}:Wp (rR [a] st) Q↔∃p,gU st a=some p/\pf p.1 p.2=true/\Q (.tup (aD p.1 (p.2-p.1).toNat)) st:=by
 show Wp (match gU st a with|some (lo,hi)=>if pf lo hi=true then some (D.tup (aD lo (hi-lo).toNat),st)else none|none=>none) Q↔_;cases gU st a with
 |none=>rw[dr];exact⟨False.elim,λ⟨_,e,_⟩=>by cases e⟩
 |some p =>
  obtain⟨lo,hi⟩:=p;show Wp (if pf lo hi=true then some (D.tup (aD lo (hi-lo).toNat),st)else none) Q↔_;rw[kj,aT,dr];split
  ·next h=>exact⟨λq=>⟨_,rfl,h,q⟩,λ⟨_,e,_,q⟩=>by cases e;exact q⟩
  ·next h=>exact⟨False.elim,λ⟨_,e,q,_⟩=>by cases e;exact h q⟩
def wg:Wp (FZ (.ref k) (.int j) st) Q↔∃xs,own st k=some xs/\(-9223372036854775808<=j/\j<9223372036854775808)/\lim (xs.length*j.toNat)=true/\Q (.ref st.length) (st ++ [.lst (List.replicate j.toNat xs).flatten]):=by
 show Wp (match own st k with|some a=>if(decide (-9223372036854775808<=j/\j<9223372036854775808) && lim (a.length*j.toNat))=true then some (D.ref st.length,st ++ [O.lst (List.replicate j.toNat a).flatten])else none|_=>none) Q↔_;cases own st k with
 |none=>simp only[dr];exact⟨False.elim,λ⟨_,e,_⟩=>by cases e⟩
 |some xs =>
  show Wp (if(decide (-9223372036854775808<=j/\j<9223372036854775808) && lim (xs.length*j.toNat))=true then some (D.ref st.length,st ++ [O.lst (List.replicate j.toNat xs).flatten])else none) Q↔_;rw[kj,aT,dr];split
  ·next h=>rw[Tz,decide_eq_true_eq]at h;exact⟨λq=>⟨_,rfl,h.1,h.2,q⟩,λ⟨_,e,_,_,q⟩=>by cases e;exact q⟩
  ·next h=>rw[Tz,decide_eq_true_eq]at h;exact⟨False.elim,λ⟨_,e,q,q',_⟩=>by cases e;exact h ⟨q,q'⟩⟩
def P0:Wp (jD (.ref k) [.int i] st) Q↔∃xs j y,own st k=some xs/\(-9223372036854775808<=i/\i<9223372036854775808)/\seqIndex? i xs.length=some j/\xs[j]?=some y/\Q y (st.set k (.lst (xs.eraseIdx j))):=by
 constructor
 ·rintro⟨a,s,e,q⟩
  simp only[jD]at e;split at e
  ·next xs hx =>
   split at e
   ·next hk =>
    split at e
    ·next j hj =>
     split at e
     ·next y hy=>cases e;exact⟨xs,j,_,hx,of_decide_eq_true hk,hj,hy,q⟩
     ·cases e
    ·cases e
   ·cases e
  ·cases e
 ·rintro⟨xs,j,y,hx,hk,hj,hy,q⟩
  refine⟨_,_,?_,q⟩;simp only[jD,hx,hj,hy,decide_eq_true hk];rfl
def P4{b:Nat}:Wp (lP (.ref k) [.ref b] st) Q↔∃xs ys,own st k=some xs/\own st b=some ys/\lim (xs.length+ys.length)=true/\Q .non (st.set k (.lst (xs ++ ys))):=by
 constructor
 ·rintro⟨a,s,e,q⟩
  simp only[lP]at e;split at e
  ·next xs ys hx hy =>
   split at e
   ·next hl=>cases e;exact⟨xs,ys,hx,hy,hl,q⟩
   ·cases e
  ·cases e
 ·rintro⟨xs,ys,hx,hy,hl,q⟩
  refine⟨_,_,?_,q⟩;simp only[lP,hx,hy,hl];rfl
def P5{v:Int}:Wp (nX (.tup ds) [.int v] st) Q↔∃ns j,bL iV ds=some ns/\ns.findIdx? (λi=>decide (i=v))=some j/\Q (.int (j:Int)) st:=by
 constructor
 ·rintro⟨a,s,e,q⟩
  simp only[nX]at e;split at e
  ·next ns hn =>
   split at e
   ·next j hj=>cases e;exact⟨ns,j,hn,hj,q⟩
   ·cases e
  ·cases e
 ·rintro⟨ns,j,hn,hj,q⟩
  refine⟨_,_,?_,q⟩;simp only[nX,hn,hj]
def KA:Wp (pg [.ref k] st) Q↔∃ds bs,items st k=some ds/\bL bV ds=some bs/\Q (.bl (bs.all id)) st:=by
 constructor
 ·rintro⟨a,s,e,q⟩
  simp only[pg]at e;split at e
  ·next bs hb =>
   cases e;obtain⟨ds,h1,h2⟩:=Ua.mp hb;exact⟨ds,bs,h1,h2,q⟩
  ·cases e
 ·rintro⟨ds,bs,h1,h2,q⟩
  refine⟨_,_,?_,q⟩;simp only[pg,h1,Ul,h2]
def Av{neg:Bool}{a c:D}:Wp (oR neg a c st) Q↔∃x ds vs,sV a=some x/\br st c=some ds/\bL sV ds=some vs/\Q (.bl (if neg then !sX x vs else sX x vs)) st:=by
 constructor
 ·rintro⟨b,s,e,q⟩
  simp only[oR]at e;split at e
  ·next x vs h1 h2 =>
   cases e;obtain⟨ds,h3,h4⟩:=Ua.mp h2;exact⟨x,ds,vs,h1,h3,h4,q⟩
  ·cases e
 ·rintro⟨x,ds,vs,h1,h2,h3,q⟩
  refine⟨_,_,?_,q⟩;simp only[oR,h1,h2,Ul,h3]
def KC(ns:List Int):bL sV (ns.map D.int)=some (ns.map V.int):=vC (f:=sV) (g:=D.int) (k:=V.int) (λ_=>rfl) ns
def wk{neg:Bool}{a b:D}:Wp (lO neg a b st) Q↔∃p q,jm st 20 a=some p/\jm st 20 b=some q/\(PyData.canLay0 p=true/\PyData.canLay0 q=true/\min p.depth q.depth<=60)/\Q (.bl (if neg then !PyData.eqv p q else PyData.eqv p q)) st:=by
 constructor
 ·rintro⟨c,s,e,q⟩
  simp only[lO]at e;split at e
  ·next x y h1 h2 =>
   split at e
   ·next hs =>
    cases e;rw[Tz,Tz,decide_eq_true_eq]at hs;exact⟨x,y,h1,h2,⟨hs.1.1,hs.1.2,hs.2⟩,q⟩
   ·cases e
  ·cases e
 ·rintro⟨x,y,h1,h2,⟨h3,h4,h5⟩,q⟩
  refine⟨_,_,?_,q⟩;simp only[lO,h1,h2,h3,h4,decide_eq_true h5];rfl
def P6{a:D}:Wp (ig [a] st) Q↔∃p,jm st 20 a=some p/\(p.showable=true/\p.canLay0=true/\p.shown.length<=sizeLine/\p.depth<=60)/\Q (.str p.shown) st:=by
 constructor
 ·rintro⟨c,s,e,q⟩
  simp only[ig]at e;split at e
  ·next p h1 =>
   split at e
   ·next hs =>
    cases e;rw[Tz,Tz,Tz,decide_eq_true_eq,decide_eq_true_eq]at hs;exact⟨p,h1,⟨hs.1.1.1,hs.1.1.2,hs.1.2,hs.2⟩,q⟩
   ·cases e
  ·cases e
 ·rintro⟨p,h1,⟨h3,h4,h5,h6⟩,q⟩
  refine⟨_,_,?_,q⟩;simp only[ig,h1,h3,h4,decide_eq_true h5,decide_eq_true h6];rfl
def Gg{z:Str}:Wp (mD (.str z) (.int i) st) Q↔∃c,lim z.length=true/\iH z.cps.toList i=some c/\Q (.str ⟨#[c]⟩) st:=by
 constructor
 ·rintro⟨c,s,e,q⟩
  simp only[mD]at e;split at e
  ·next h1 =>
   split at e
   ·next c hc=>cases e;exact⟨c,h1,hc,q⟩
   ·cases e
  ·cases e
 ·rintro⟨c,h1,h2,q⟩
  refine⟨_,_,?_,q⟩;simp only[mD,h1,h2];rfl
def P7{I:ai}{fa:ai->Dm (List D)}{R:Src->Store->Prop}:Wp (dw fa I st) R↔Wp (fa I st) λas st1=>∃j,as=[.int j]/\(-4611686018427387904<=j/\j<4611686018427387904)/\R (.fix (aD 0 j.toNat)) st1:=by
 unfold dw;rw[cz];constructor<;>refineλh=>aY h λas s h=>?_
 ·split at h
  ·next j =>
   rw[kj,aT,dr]at h;split at h
   ·next hk=>exact⟨j,rfl,of_decide_eq_true hk,h⟩
   ·exact h.elim
  ·exact(dr.mp h).elim
 ·obtain⟨j,rfl,h1,h⟩:=h
  simp only[decide_eq_true h1,if_true];exact aT.mpr h
def P8{I:ai}{fa:ai->Dm (List D)}{R:Src->Store->Prop}:Wp (qv fa I st) R↔Wp (fa I st) λas st1=>∃i j,as=[.int i,.int j]/\((-4611686018427387904<=i/\i<4611686018427387904)/\-4611686018427387904<=j/\j<4611686018427387904)/\R (.fix (aD i (j-i).toNat)) st1:=by
 unfold qv;rw[cz];constructor<;>refineλh=>aY h λas s h=>?_
 ·split at h
  ·next i j =>
   rw[kj,aT,dr]at h;split at h
   ·next hk=>exact⟨i,j,rfl,of_decide_eq_true hk,h⟩
   ·exact h.elim
  ·exact(dr.mp h).elim
 ·obtain⟨i,j,rfl,h1,h⟩:=h
  simp only[decide_eq_true h1,if_true];exact aT.mpr h
def P9{I:ai}{fa:ai->Dm D}{R:Src->Store->Prop}:Wp (jL fa I st) R↔Wp (fa I st) λa st1=>∃ds,a=.tup ds/\R (.fix ds) st1:=by unfold jL;rw[cz];constructor<;>refineλh=>aY h λa s h=>?_;cases a<;>simp only[aT,dr]at h;exact⟨_,rfl,h⟩;obtain⟨j,rfl,h⟩:=h;exact aT.mpr h
def Qa{I:ai}{fa:ai->Dm D}{R:Src->Store->Prop}:Wp (jf fa I st) R↔Wp (fa I st) λa st1=>∃i ds,a=.ref i/\items st1 i=some ds/\R (.live i) st1:=by
 unfold jf;rw[cz];constructor<;>refineλh=>aY h λa s h=>?_
 ·split at h
  ·split at h
   ·next i ds hd=>exact⟨_,ds,rfl,hd,aT.mp h⟩
   ·exact(dr.mp h).elim
  ·exact(dr.mp h).elim
 ·obtain⟨i,ds,rfl,hd,h⟩:=h
  simp only[hd];exact aT.mpr h
def Qb{I:ai}{fa:ai->Dm (List D)}{R:Src->Store->Prop}:Wp (lT fa I st) R↔Wp (fa I st) λas st1=>∃ds,as=[.tup ds]/\R (.fix (ki ds)) st1:=by unfold lT;rw[cz];constructor<;>refineλh=>aY h λas s h=>?_;split at h;exact⟨_,rfl,aT.mp h⟩;exact(dr.mp h).elim;obtain⟨ds,rfl,h⟩:=h;exact aT.mpr h
def Dy{i:Nat}{d:D}{I:ai}{R:ai->Store->Prop}:Wp (hName i d I st) R↔R (I.set i (some d)) st:=aT
def KD{I:ai}{R:ai->Store->Prop}:Wp (mE [] I st) R↔R I st:=aT
def Gh{f:D->ai->Dm ai}{g:List D->ai->Dm ai}{d:D}{ds:List D}{I:ai}{R:ai->Store->Prop}:Wp (eO f g (d :: ds) I st) R↔Wp (f d I st) λI1 st1=>Wp (g ds I1 st1) R:=cz
def KG{n:Nat}{f:List D->ai->Dm ai}{ds:List D}{I:ai}{R:ai->Store->Prop}:Wp (lR n f (.tup ds) I st) R↔ds.length=n/\Wp (f ds I st) R:=by
 show Wp (if ds.length=n then f ds I st else none) R↔_;rw[kj,dr];split
 ·next h=>exact⟨λq=>⟨h,q⟩,λq=>q.2⟩
 ·next h=>exact⟨False.elim,λq=>h q.1⟩
def Qc{fo fi:ai->Dm D}{d:D}{I:ai}{R:ai->Store->Prop}:Wp (hSub fo fi d I st) R↔Wp (fo I st) λo st1=>Wp (fi I st1) λi st2=>∃r k xs j,o=.ref r/\i=.int k/\own st2 r=some xs/\kR xs.length k=some j/\R I (st2.set r (.lst (xs.set j d))):=by
 unfold hSub;rw[cz];simp only[cz];constructor<;>refineλh=>aY h λo s h=>aY h λi s2 h=>?_
 ·split at h
  ·split at h
   ·next xs hx =>
    split at h
    ·next j hj=>exact⟨_,_,xs,j,rfl,rfl,hx,hj,aT.mp h⟩
    ·exact(dr.mp h).elim
   ·exact(dr.mp h).elim
  ·exact(dr.mp h).elim
 ·obtain⟨r,k,xs,j,rfl,rfl,hx,hj,h⟩:=h
  simp only[hx,hj];exact aT.mpr h
def Qd{a:D}{c:String}:Wp (lQ [a,.ty c] st) Q↔Ad st a=some c/\Q (.bl true) st:=by
 constructor
 ·rintro⟨b,s,e,q⟩
  simp only[lQ]at e;split at e
  ·next T hT =>
   split at e
   ·next h=>cases e;subst h;exact⟨hT,q⟩
   ·cases e
  ·cases e
 ·rintro⟨h,q⟩
  refine⟨_,_,?_,q⟩;simp only[lQ,h,if_true]
def Gi{I:ai}{R:Bool->Store->Prop}:Wp (iq I st) R↔R true st:=aT
end
def Qe{J:Type}(x:J)(xs:List J):iH (x :: xs) 0=some x:=by unfold iH kR;rw[if_pos ∅,if_pos (by simp only[Tf];lk)];rfl
def Qf{J:Type}(x y:J)(xs:List J):iH (x :: y :: xs) 1=some y:=by unfold iH kR;rw[if_pos ∅,if_pos (by simp only[Tf];lk)];rfl
def wm{J:Type}{a:J}{l:List J}:(a :: l)[0]?=some a:=U3
def wo{J:Type}{a:J}{l:List J}{i:Nat}:(a :: l)[i+1]?=l[i]?:=List.getElem?_cons_succ
def wq{J:Type}{a b:J}{l:List J}:(a :: l).set 0 b=b :: l:=List.set_cons_zero
def wt{J:Type}{a b:J}{l:List J}{i:Nat}:(a :: l).set (i+1) b=a :: l.set i b:=List.set_cons_succ
def wu{J:Type}(a b:J):(some a=some b)=(a=b):=Option.some.injEq a b
def Aw{J:Type}{p:J->Prop}{a':J}:(∃a,a'=a/\p a)↔p a':=exists_eq_left'
def Gj{J:Type}{p:J->Prop}{a':J}:(∃a,a=a'/\p a)↔p a':=exists_eq_left
def Ax{J:Type}{p:J->Prop}{b:Prop}:(∃x,b/\p x)↔b/\∃x,p x:=exists_and_left
def Ay(a b:Int):(D.int a=D.int b)=(a=b):=D.int.injEq a b
def Gk(a b:Bool):(D.bl a=D.bl b)=(a=b):=D.bl.injEq a b
def Az(a b:Str):(D.str a=D.str b)=(a=b):=D.str.injEq a b
def AA(a b:List D):(D.tup a=D.tup b)=(a=b):=D.tup.injEq a b
def AB(a b:Nat):(D.ref a=D.ref b)=(a=b):=D.ref.injEq a b
def wx{J:Type}(a:J)(l:List J)(b:J)(m:List J):(a :: l=b :: m)=(a=b/\l=m):=List.cons.injEq a l b m
def wy{J U:Type}(a:J)(b:U)(c:J)(d:U):((a,b)=(c,d))=(a=c/\b=d):=Prod.mk.injEq a b c d
def wz(p:Prop):(p/\True)=p:=and_true p
def wA(p:Prop):(True/\p)=p:=true_and p
def wB:(!true)=false:=rfl
def wC:(!false)=true:=rfl
def Gm:(false=true)=False:=by simp
def AE{J:Type}{h:Decidable False}(t e:J):@ite J False h t e=e:=if_false t e
def AF{J:Type}{h:Decidable True}(t e:J):@ite J True h t e=t:=if_true t e
abbrev bh:=And.intro @vI (And.intro @Gd (And.intro @Af (And.intro @Ag (And.intro @Ah (And.intro @vJ (And.intro @Pg (And.intro @vK (And.intro @vL (And.intro @Ph (And.intro @vM (And.intro @vN (And.intro @Ai (And.intro @tW (And.intro @Pj (And.intro @vO (And.intro @Pk (And.intro @Pl (And.intro @Pm (And.intro @Aj (And.intro @Ak (And.intro @vP (And.intro @vQ (And.intro @Al (And.intro @Am (And.intro @An (And.intro @Ao (And.intro @vR (And.intro @vS (And.intro @Pn (And.intro @vT (And.intro @vU (And.intro @vV (And.intro @x8 (And.intro @vW (And.intro @Dv (And.intro @vX (And.intro @vY (And.intro @Po (And.intro @vZ (And.intro @wa (And.intro @Pp (And.intro @Pq (And.intro @Pr (And.intro @Pu (And.intro @Pw (And.intro @Px (And.intro @Py (And.intro @Pz (And.intro @PB (And.intro @PC (And.intro @PD (And.intro @wc (And.intro @PH (And.intro @PJ (And.intro @PK (And.intro @ja (And.intro @PL (And.intro @PN (And.intro @PQ (And.intro @PR (And.intro @PU (And.intro @PV (And.intro @PX (And.intro @Kz (And.intro @PY (And.intro @PZ (And.intro @wg (And.intro @P0 (And.intro @P4 (And.intro @P5 (And.intro @KA (And.intro @Gg (And.intro @P7 (And.intro @P8 (And.intro @P9 (And.intro @Qa (And.intro @Qb (And.intro @Dy (And.intro @KD (And.intro @Gh (And.intro @KG (And.intro @Qc (And.intro @Qd (And.intro @Gi (And.intro @Qe (And.intro @Qf (And.intro @wm (And.intro @wo (And.intro @wq (And.intro @wt (And.intro @wu (And.intro @Aw (And.intro @Gj (And.intro @Ax (And.intro @Ay (And.intro @Gk (And.intro @Az (And.intro @AA (And.intro @AB (And.intro @wx (And.intro @wy (And.intro @wz (And.intro @wA (And.intro @wB (And.intro @wC (And.intro @Gm (And.intro @AE (@AF))))))))))))))))))))))))))))))))))))))))))))))))))))))))))))))))))))))))))))))))))))))))))))))))))))))))))))
def bJ{J:Type}{m:Option (J×Store)}{Q:J->Store->Prop}(h:∀Q':J->Store->Prop,(∀a st,Q a st->Q' a st)->Wp m Q'):Wp m Q:=h Q λ_ _ h=>h
section
variable {st:Store}{Q:D->Store->Prop}
def Qg(n:Nat)(L:List Int):bL (jm st (n+1)) (L.map D.int)=some (gQ L):=vC (f:=jm st (n+1)) (g:=D.int) (k:=PyData.int) (λ_=>by simp only[jm]) L
def KH(a b:List PyData):PyData.eqv (.list a) (.list b)=PyData.eqvAll a b:=by simp only[PyData.eqv]
def Qh(a b:List PyData):PyData.eqv (.tuple a) (.tuple b)=PyData.eqvAll a b:=by simp only[PyData.eqv]
def Gn{neg:Bool}{a b:Nat}{L M:List Int}(ha:items st a=some (L.map D.int))(hb:items st b=some (M.map D.int)):Wp (lO neg (.ref a) (.ref b) st) Q↔Q (.bl (if neg then !decide (L=M)else decide (L=M))) st:=by
 have p1:∀(i:Nat) (N:List Int),items st i=some (N.map D.int)->jm st 20 (.ref i)=some (.list (gQ N)):=λi N h=>by
  simp only[jm,h];rw[Qg];rfl
 have dp:∀N:List Int,PyData.depth (.list (gQ N))<=1:=λN=>by show PyData.depthAll (gQ N)+1<=1;rw[IQ];lk
 rw[wk];constructor;rintro⟨p,q,h1,h2,_,h⟩;rw[p1 a L ha]at h1;rw[p1 b M hb]at h2;cases h1;cases h2;rw[KH,E8]at h;exact h;intro h;refine⟨_,_,p1 a L ha,p1 b M hb,⟨E6 L,E6 M,by have:=dp L;lk⟩,?_⟩;rw[KH,E8];exact h
end
abbrev aL(st:Store)(f:Nat):Prop:=∃o m:Int,st[f]?=some (.lst [.int o,.int m])/\0<=o/\0<=m/\m<4294967296
def AG:kR 2 0=some 0:=by decide
def AH:kR 2 1=some 1:=by decide
def ya(n:Nat):aD 0 n=(aj.upto n).map D.int:=by unfold aD aj.upto;rw[Uo];apply Vk;intro i _;simp
def Qi(L:List Int)(j:Nat):(L.map D.int).eraseIdx j=(L.eraseIdx j).map D.int:=by
 induction L generalizing j with
 |nil=>rfl
 |cons a r ih =>
  cases j with
  |zero=>rfl
  |succ j=>show D.int a :: (r.map D.int).eraseIdx j=_;rw[ih];rfl
def Qj{L:List Int}{j:Nat}(h:j<L.length):(L[j] :: L.eraseIdx j).Perm L:=by
 induction L generalizing j with
 |nil=>exact absurd h (UQ _)
 |cons a r ih =>
  cases j with
  |zero=>exact U2 _
  |succ j =>
   have:=ih (j:=j) (by simpa using h);exact(List.Perm.swap _ _ _).trans (this.cons a)
def aL.keep{st st':Store}{f:Nat}(h:aL st f)(e:Ex [] st st'):aL st' f:=by obtain⟨o,m,e1,r⟩:=h;exact⟨o,m,e.keep _ _ e1 (by simp),r⟩
def aL.ne{st:Store}{f i:Nat}{o:O}(h:aL st f)(hi:i≠f):aL (st.set i o) f:=by obtain⟨x,m,e1,r⟩:=h;exact⟨x,m,by rw[TQ hi];exact e1,r⟩
def aL.lt{st:Store}{f:Nat}(h:aL st f):f<st.length:=let ⟨_,_,e,_⟩:=h;iJ e
def Dz{xs:List Int}{i:Int}(h0:0<=i)(h1:i<(xs.length:Int)):iH (xs.map D.int) i=some (.int (aj.app xs i)):=by
 have e:(xs.map D.int)[i.toNat]?=some (.int (aj.app xs i)):=by rw[TC,aj.rJ h0 h1];rfl
 have:=mh e
 rwa [Uw h0]at this
def Qk{xs:List Int}{i:Nat}{d:D}(h:(xs.map D.int)[i]?=some d):∃x,xs[i]?=some x/\d=.int x:=by rw[TC]at h;obtain⟨x,h1,h2⟩:=TM.mp h;exact⟨x,h1,h2.symm⟩
def Gp(x:Int):∀(ns:List Int),sX (.int x) (ns.map V.int)=ns.contains x
 |[]=>rfl
 |n :: r=>by
  have e:=Gp x r;unfold sX at e ⊢;rw[Um,List.any_cons,e,U0]
  congr 1
  show(n == x)=(x == n);exact Bool.beq_comm
def yb{st:Store}{Q:D->Store->Prop}{neg:Bool}{x:Int}{c:D}{ns:List Int}(hc:br st c=some (ns.map D.int)):Wp (oR neg (.int x) c st) Q↔Q (.bl (if neg then !ns.contains x else ns.contains x)) st:=by rw[Av];constructor;rintro⟨v,ds,vs,h1,h2,h3,h⟩;cases h1;rw[hc]at h2;cases h2;rw[KC]at h3;cases h3;rw[Gp]at h;exact h;intro h;refine⟨_,_,_,rfl,hc,KC ns,?_⟩;rw[Gp];exact h
abbrev jb(xs ys:List Int):D:=.tup [.tup (xs.map D.int),.tup (ys.map D.int)]
structure lU(gW st:Store)(f r u:Nat)(n:Nat)(X Y:List Int):Prop where
 hr:st[r]?=some (.lst (X.map D.int))
 hu:st[u]?=some (.lst (Y.map D.int))
 ne:r≠u
 r0:gW.length<=r
 u0:gW.length<=u
 tX:aj.Tn n X
 tY:aj.Tn n Y
 fd:aL st f
 ex:Ex [f] gW st
section
variable {gW st st':Store}{f r u n:Nat}{X Y Z:List Int}{o:O}
def lU.keep(h:lU gW st f r u n X Y)(e:Ex [] st st'):lU gW st' f r u n X Y:=⟨e.keep _ _ h.hr (by simp),e.keep _ _ h.hu (by simp),h.ne,h.r0,h.u0,h.tX,h.tY,h.fd.keep e,h.ex.trans e.any⟩
def lU.wF(h:lU gW st f r u n X Y)(t:aj.Tn n Z):lU gW (st ++ [.lst (Z.map D.int)]) f st.length u n Z Y:=⟨iK,jg h.hu,by have:=iJ h.hu;lk,h.ex.len,h.u0,t,h.tY,h.fd.keep (Ex.aM _),h.ex.app _⟩
def lU.wG(h:lU gW st f r u n X Y)(t:aj.Tn n Z):lU gW (st ++ [.lst (Z.map D.int)]) f r st.length n X Z:=⟨jg h.hr,iK,by have:=iJ h.hr;lk,h.r0,h.ex.len,h.tX,t,h.fd.keep (Ex.aM _),h.ex.app _⟩
def lU.put(h:lU gW st f r u n X Y)(t:aj.Tn n Z)(hf:f<gW.length):lU gW (st.set r (.lst (Z.map D.int))) f r u n Z Y:=⟨TB (iJ h.hr),by rw[TQ h.ne];exact h.hu,h.ne,h.r0,h.u0,t,h.tY,h.fd.ne (by have:=h.r0;lk),h.ex.loc h.r0⟩
end
def Gq(n:Nat):(aj.iZ n).map D.int=aD 1 ((n:Int)-1).toNat ++ [.int 0]:=by unfold aj.iZ aD;rw[TN,Uo,show((n:Int)-1).toNat=n-1 by lk];rfl
def qQ{lo hi:Int}(h:0<=lo/\lo<=10000/\0<=hi/\hi<=10000):pf lo hi=true:=by unfold pf;rw[Tz,decide_eq_true_eq];exact⟨by lk,fJ ⋯⟩
def wH(w n:Nat):(aj.qo w n).map D.int=aD 1 ((w:Int)-1).toNat ++ [.int 0] ++ aD (w:Int) ((n:Int)-(w:Int)).toNat:=by unfold aj.qo aD;rw[TN,TN,Uo,Uo,show((w:Int)-1).toNat=w-1 by lk,show((n:Int)-(w:Int)).toNat=n-w by lk];rfl
def qA(xs:List D)(j:Nat):cutD xs none (some (j:Int))=xs.take j:=by unfold cutD;rw[HT.Ir,HT.Iu,List.drop_zero,Nat.sub_zero,List.take_eq_take_iff];lk
def r9(xs:List D)(i:Nat):cutD xs (some (i:Int)) none=xs.drop i:=by unfold cutD;rw[HT.Iu,HT.Ir];by_cases h:i<=xs.length;rw[Nat.min_eq_left h,U5 (by rw[UC];exact Tc _)];rw[Nat.min_eq_right ⋯,US (Tc _),US ⋯];simp
def wI{w n:Nat}(h0:0<w)(h:w<n):(aj.rL w n).map D.int=cutD ([D.int (w:Int)] ++ aD 1 ((w:Int)-1).toNat ++ aD ((w:Int)+1) ((n:Int)-((w:Int)+1)).toNat ++ [.int 0]) none (some (n:Int)):=by rw[qA,U5 (by simp[jr];lk)];unfold aj.rL aD;rw[TN,TN,TN,Uo,Uo,show((w:Int)-1).toNat=w-1 by lk,show((n:Int)-((w:Int)+1)).toNat=n-(w+1) by lk];rfl
abbrev Gr(n:Nat)(xs ys:List Int):Prop:=aj.Tn n xs/\aj.Tn n ys/\∀x:Int,0<=x->x<(n:Int)->aj.i6 xs ys x
def Ql{xs:List D}{lo hi:Option Int}{d:D}(h:d∈cutD xs lo hi):d∈xs:=List.mem_of_mem_drop (List.mem_of_mem_take h)
def Qm(xs:List D)(lo hi:Option Int):(cutD xs lo hi).length<=xs.length:=by unfold cutD;rw[Ub,UC];lk
abbrev mH(S:Src)(ds:List D)(st:Store):Prop:=∀(i:Nat) (st2:Store),i<=ds.length->Ex [] st st2->S.at i st2=some ds[i]?
def jE{st st':Store}{r:Nat}{ds:List D}(h:items st r=some ds)(e:Ex [] st st'):items st' r=some ds:=by
 unfold items at h ⊢;cases hx:st[r]? with
 |none=>rw[hx]at h;cases h
 |some o=>rw[e.keep _ _ hx (by simp)];rw[hx]at h;exact h
def Gs(ds:List D)(st:Store):mH (.fix ds) ds st:=λi st2 hi _=>by
 show(if i<=ds.length then some ds[i]? else none)=_;rw[if_pos hi]
def Gu{I:ai}{st:Store}{fi:ai->Dm Src}{js:List Nat}{f:ai->Dm D}{Q:D->Store->Prop}(ds:List D)(h:D->D)(hi:Wp (fi I st) λS st1=>mH S ds st1/\Ex [] st st1)(hl:ds.length<100000)
  (step:∀d∈ds,∀st1,Ex [] st st1->Wp (f (some d :: js.map λj=>I.getD j none) st1) λy st2=>y=h d/\Ex [] st1 st2) (fin:∀st',Ex [] st st'->Q (.ref st'.length) (st' ++ [.lst (ds.map h)])):Wp (eP fi 1 js (hName 0) iq f I st) Q:=by
 obtain⟨S,st1,e1,hS,k1⟩:=hi;refine Gf ds (λi ys I' jF=>(∃v,I'=v :: js.map λj=>I.getD j none)/\ys=(ds.take i).map h/\Ex [] st1 jF) ⟨S,st1,e1,λi ys I' jF hi' hp=>hS i jF hi' hp.2.2,⟨none,rfl⟩,rfl,Ex.refl⟩ hl ?_ ?_ ?_;rintro i ys I' jF ⟨_,rfl,_⟩;rw[S8,Ub];lk;rintro i d ys I' jF hd ⟨⟨v,rfl⟩,rfl,k8⟩;rw[Dy];show Wp (iq _ _) _;rw[Gi];refine⟨λ_=>?_,λh=>absurd h ∅⟩;refine aY (step d (TL hd) jF (k1.trans k8)) ?_;rintro y nr ⟨rfl,k9⟩;refine⟨⟨some d,rfl⟩,?_,k8.trans k9⟩;obtain⟨hlt,e⟩:=Ti.mp hd;rw[Ue hlt,TN,e];rfl;rintro ys I' jF ⟨_,rfl,k8⟩;rw[U8];exact fin jF (k1.trans k8)
def KI{xs:List Int}{d:D}(h:d∈xs.map D.int):∃x∈xs,d=.int x:=by obtain⟨x,hx,rfl⟩:=T6.mp h;exact⟨x,hx,rfl⟩
abbrev inD:D->Int
 |.int i=>i
 |_=>0
def DA(zs:List Int):(zs.map D.int).map inD=zs:=by rw[Uo];exact Vo zs
section
variable {K:Zfr}
abbrev kJ(neg:Bool):D->D->Dm D
 |a,.non,st=>some (.bl (match a with|.non=>!neg|_=>neg),st)
 |_,_,_=>none
abbrev t6(neg:Bool):R2:=λx y H Q=>y=.non/\Q (.bl (if neg then !decide (x=.non)else decide (x=.non))) H
def Gv(neg:Bool):jx K (t6 neg) (kJ neg):=by intro L H st x y a c b st' Q l rx ry e q;unfold kJ at e;split at e;cases e;cases ry;refine⟨rfl,?_⟩;have k:=q _ H L .refl l (.bl _);cases rx<;>cases neg<;>exact k;cases e
end
section
variable {X:Cx}
def Gw:iS X (compareOp .Is) (t6 false):=uJ
end
section
variable {st:Store}{Q:D->Store->Prop}
def Gx{neg:Bool}:Wp (kJ neg .non .non st) Q↔Q (.bl (!neg)) st:=aT
def KJ{neg:Bool}{i:List D}:Wp (kJ neg (.tup i) .non st) Q↔Q (.bl neg) st:=aT
def Qn{neg:Bool}{i:Nat}:Wp (kJ neg (.ref i) .non st) Q↔Q (.bl neg) st:=aT
end
def Qo{st:Store}{Q:D->Store->Prop}{k:Nat}:Wp (oP (.ref k) st) Q↔∃ds,items st k=some ds/\Q (.ref st.length) (st ++ [.lst ds.reverse]):=by
 show Wp (match items st k with|some ds=>some (D.ref st.length,st ++ [O.lst ds.reverse])|none=>none) Q↔_;cases items st k with
 |none=>rw[dr];exact⟨False.elim,λ⟨_,e,_⟩=>by cases e⟩
 |some ds=>rw[aT];exact⟨λq=>⟨ds,rfl,q⟩,λ⟨_,e,q⟩=>by cases e;exact q⟩
abbrev sO(L:List Nat):Str:=⟨L.toArray⟩
def yc(L:List Nat):(sO L).cps.toList=L:=by simp[sO]
def DB(L:List Nat):(sO L).length=L.length:=by simp[sO,Str.length]
def Gy(L M:List Nat):sO L ++ sO M=sO (L ++ M):=by show Str.append (sO L) (sO M)=_;simp[sO,Str.append]
def AI(x:Str):x=sO x.cps.toList:=by simp[sO]
def wJ{L M:List Nat}:sO L=sO M↔L=M:=by constructor;intro h;rw[<- yc L,h,yc];rintro rfl;rfl
abbrev sd:D->Option Str
 |.str x=>some x
 |_=>none
def Qp(xs:List Str):bL sd (xs.map D.str)=some xs:=by have:=vC (f:=sd) (g:=D.str) (k:=id) (λ_=>rfl) xs;rw[this,Vo]
abbrev la:D->D->Dm D
 |.str x,.str y,st=>if lim (x.length+y.length)=true then some (.str (x ++ y),st)else none
 |_,_,_=>none
abbrev se(neg:Bool):D->D->Dm D
 |.str x,.str y,st=>some (.bl (if neg then !(!(Builtin.Str.occurrences y x 0 y.length 1).isEmpty)else !(Builtin.Str.occurrences y x 0 y.length 1).isEmpty),st)
 |_,_,_=>none
abbrev cB:D->List D->Dm D
 |.str sep,[.ref i],st=>match (items st i).bind (bL sd)with
  |some xs=>if xs.length<=2000/\sep.length<=10/\∀x∈xs,x.length<=2000 then some (.str (Str.join sep xs),st)else none
  |none=>none
 |_,_,_=>none
abbrev qB(x:Str):List D:=x.cps.toList.map λc=>.str ⟨#[c]⟩
abbrev oW(fa:ai->Dm D):ai->Dm Src:=λI st=>bnd (fa I st) λa st1=>match a with
 |.str x=>if x.length<=100000 then some (.fix (qB x),st1)else none
 |_=>none
section
variable {K:Zfr}
def KL{L:List Addr}{H:Hp}:∀{ws:List V} {ds:List D} {ns:List Str},bt K L H ws ds->bL sd ds=some ns->ws=ns.map V.str
 |_,_,_,.nil,h=>by cases h;rfl
 |_,_,_,.cons a b,h=>by
  obtain⟨x,t,h1,h2,rfl⟩:=tP h;rw[KL b h2];cases a<;>first|(cases h1;rfl)|cases h1
def wK:xW K "str" (rJoin K) cB:=by
 intro L H st x xs a as b st' Q l rx rS e q;unfold cB at e;split at e
 ·split at e
  ·next ts hd =>
   split at e
   ·next ok =>
    cases e;obtain⟨v,rfl,r⟩:=rS.one';obtain⟨ds,h3,h4⟩:=Ua.mp hd;cases rx;cases r with
    |ref hi =>
     obtain⟨vs,s,r⟩:=l.items hi h3;cases KL r h4;exact⟨_,_,_,rfl,rfl,s,ok.1,ok.2.1,ok.2.2,q _ H L .refl l (.str _)⟩
   ·cases e
  ·cases e
 ·cases e
def Gz:jx K (λx y H Q=>∃i j,x=.str i/\y=.str j/\i.length+j.length<=sizeLine/\Q (.str (i ++ j)) H) la:=by
 intro L H st x y a c b st' Q l rx ry e q;unfold la at e;split at e
 ·split at e
  ·next ok =>
   cases e;cases rx;cases ry;exact⟨_,_,rfl,rfl,tK ok,q _ H L .refl l (.str _)⟩
  ·cases e
 ·cases e
def KN(neg:Bool):jx K (λx y H Q=>∃i j,x=.str i/\y=.str j/\Q (.bl (if neg then !(!(Builtin.Str.occurrences j i 0 j.length 1).isEmpty)else !(Builtin.Str.occurrences j i 0 j.length 1).isEmpty)) H) (se neg):=by intro L H st x y a c b st' Q l rx ry e q;unfold se at e;split at e;cases e;cases rx;cases ry;exact⟨_,_,rfl,rfl,q _ H L .refl l (.bl _)⟩;cases e
def KO{t:TE}{fa:ai->Dm D}(ha:dv K t fa):rW K (zw t) (oW fa):=by
 intro L G H I st S st' Q l rs e q;obtain⟨a,st1,e1,e⟩:=bq e;split at e
 ·next x =>
  split at e
  ·next hl =>
   cases e;refine ha L G H I st _ _ _ l rs e1 λy H1 L1 m1 l1 r1=>?_;cases r1;refine⟨_,rfl,q _ H1 L1 m1 l1 λL2 H2 st2 i m2 l2=>⟨λh=>?_,λd h=>?_⟩⟩
   ·have h2:=Ud.mp (tU h).2
    show x.cps.size<=i;simpa[qB]using h2
   ·have h2:=(tU h).2
    unfold qB at h2;rw[TC]at h2;obtain⟨c,hc,e⟩:=TM.mp h2;subst e;have hc':x.cps[i]?=some c:=by simpa using hc
    refine⟨?_,λy H3 hy=>?_⟩
    ·show i<x.cps.size
     exact(Uh.mp hc').1
    ·obtain⟨rfl,c',hc2,rfl⟩:=hy
     rw[hc']at hc2;cases hc2;exact⟨.refl,l2,.str _⟩
  ·cases e
 ·cases e
end
section
variable {st:Store}{Q:D->Store->Prop}
def DC{sep:Str}{k:Nat}{xs:List Str}(h:items st k=some (xs.map D.str))(hl:xs.length<=2000)(hs:sep.length<=10)(hb:∀x∈xs,x.length<=2000):Wp (cB (.str sep) [.ref k] st) Q↔Q (.str (Str.join sep xs)) st:=by
 have e:cB (.str sep) [.ref k] st=some (.str (Str.join sep xs),st):=by
  simp only[cB,h,Ul,Qp];rw[if_pos ⟨hl,hs,hb⟩]
 rw[e,aT]
def Qq{I:ai}{fa:ai->Dm D}{R:Src->Store->Prop}:Wp (oW fa I st) R↔Wp (fa I st) λa st1=>∃x,a=.str x/\x.length<=100000/\R (.fix (qB x)) st1:=by
 unfold oW;rw[cz];constructor<;>refineλh=>aY h λa s h=>?_
 ·cases a<;>simp only[dr]at h
  ·next x =>
   rw[kj,aT,dr]at h;split at h
   ·next hl=>exact⟨_,rfl,hl,h⟩
   ·exact h.elim
 ·obtain⟨j,rfl,hl,h⟩:=h
  simp only[if_pos hl];exact aT.mpr h
def wL{neg:Bool}{x y:Str}:Wp (se neg (.str x) (.str y) st) Q↔Q (.bl (if neg then !(!(Builtin.Str.occurrences y x 0 y.length 1).isEmpty)else !(Builtin.Str.occurrences y x 0 y.length 1).isEmpty)) st:=aT
def KP{x y:Str}:Wp (la (.str x) (.str y) st) Q↔lim (x.length+y.length)=true/\Q (.str (x ++ y)) st:=by
 show Wp (if lim (x.length+y.length)=true then some (D.str (x ++ y),st)else none) Q↔_;rw[kj,aT,dr];split
 ·next h=>exact⟨λq=>⟨h,q⟩,λq=>q.2⟩
 ·next h=>exact⟨False.elim,λq=>h q.1⟩
end
abbrev GA:D->Option (List D)
 |.tup ds=>some ds
 |.str x=>some (qB x)
 |_=>none
abbrev di:List D->List D->List D
 |a :: r,b :: t=>.tup [a,b] :: di r t
 |_,_=>[]
def KQ:∀{ds es:List D} {i:Nat} {d:D},(di ds es)[i]?=some d->∃a b,ds[i]?=some a/\es[i]?=some b/\d=.tup [a,b]
 |a :: r,b :: t,0,d,h=>⟨a,b,rfl,rfl,(Tq h).symm⟩
 |a :: r,b :: t,i+1,d,h=>KQ (ds:=r) (es:=t) (i:=i) h
 |[],_,_,_,h=>by simp[di]at h
 |_ :: _,[],_,_,h=>by simp[di]at h
def KR:∀{ds es:List D} {i:Nat},i<=(di ds es).length->(di ds es)[i]?=none->(i=ds.length/\i<=es.length)\/(i<ds.length/\i=es.length)
 |[],es,i,h,_=>by
  have:i=0:=by simpa[di]using h
  subst this;exact .inl ⟨rfl,Uq _⟩
 |a :: r,[],i,h,_=>by
  have:i=0:=by simpa[di]using h
  subst this;exact .inr ⟨Nat.succ_pos _,rfl⟩
 |a :: r,b :: t,0,_,h=>by simp[di]at h
 |a :: r,b :: t,i+1,h,hn=>by
  have h1:i<=(di r t).length:=by simp only[di,Tf]at h;lk
  have h2:(di r t)[i]?=none:=by simpa[di]using hn
  have:=KR (ds:=r) (es:=t) h1 h2;simp only[Tf];lk
section
variable {K:Zfr}
def AJ{L:List Addr}{H:Hp}{x:V}{a:D}{ds:List D}(r:Rp K L H x a)(h:GA a=some ds):∃src:ZS,src.val K H x/\∀(L2:List Addr) (H2:Hp),Mn K L H L2 H2->∀i,(∀d,ds[i]?=some d->∃v,src.has K H2 i v/\Rp K L2 H2 v d)/\(i=ds.length->src.fin K H2 i):=by
 cases r with
 |non=>cases h
 |bl b=>cases h
 |int i=>cases h
 |ty n=>cases h
 |ref e=>cases h
 |str x =>
  cases h;refine⟨.str x,rfl,λL2 H2 m i=>⟨λd hd=>?_,λe=>?_⟩⟩;unfold qB at hd;rw[TC]at hd;obtain⟨c,hc,rfl⟩:=TM.mp hd;exact⟨_,⟨c,by simpa using hc,rfl⟩,.str _⟩;show x.cps.size=i;rw[e];simp[qB]
 |tup s r =>
  cases h;refine⟨.tup _,⟨rfl,_,s⟩,λL2 H2 m i=>⟨λd hd=>?_,λe=>?_⟩⟩;obtain⟨v,hv,rv⟩:=r.got hd;exact⟨v,⟨_,m.t _ _ s,hv⟩,rv.mn m⟩;exact⟨_,m.t _ _ s,by rw[r.length];exact e.symm⟩
end
structure sR(K:Zfr)(mg:Str->Option Value)(x:Str)(v:V)(d:D):Prop where
 ex:∃u,mg x=some u/\RelV v u
 rp:∀(L:List Addr) (H:Hp),Rp K L H v d
def KS{X:Cx}{K:Zfr}{mg:Str->Option Value}{x:Str}{v:V}{d:D}{pos:Pos}(C:sR K mg x v d)(hg:Gl X x)(hX:X.mg=mg)(hd:(x == ("__debug__" : Str))=false):PE X (.Name x pos) (tC v):=by obtain⟨u,h,r⟩:=C.ex;subst hX;exact HK hg h r hd
def KU{K:Zfr}{mg:Str->Option Value}{x:Str}{v:V}{d:D}(C:sR K mg x v d):dv K (tC v) (fC d):=qp C.rp
def Qr{K:Zfr}{h:Heap}{mg:Str->Option Value}(X:K.In h)(G:h.Ns mainGlobals mg){x:Str}{u:Value}{v:V}{d:D}(e:PySem.W.nsIn K mainGlobals x=some (some u))(r:RelV v u)(rp:∀(L:List Addr) (H:Hp),Rp K L H v d):∃v,sR K mg x v d :=
 ⟨v,⟨u,PySem.W.mg_of X G e,r⟩,rp⟩
def Qs{I:ai}{st:Store}{fi:ai->Dm Src}{js:List Nat}{f:ai->Dm D}{Q:D->Store->Prop}(ps:List (D×D))(h:D×D->D)(hi:Wp (fi I st) λS st1=>mH S (ps.map λp=>.tup [p.1,p.2]) st1/\Ex [] st st1)(hl:ps.length<100000)
  (step:∀p∈ps,∀st1,Ex [] st st1->Wp (f (some p.1 :: some p.2 :: js.map λj=>I.getD j none) st1) λy st2=>y=h p/\Ex [] st1 st2) (fin:∀st',Ex [] st st'->Q (.ref st'.length) (st' ++ [.lst (ps.map h)])):Wp (eP fi 2 js (lR 2 (eO (hName 0) (eO (hName 1) mE))) iq f I st) Q:=by
 obtain⟨S,st1,e1,hS,k1⟩:=hi;refine Gf (ps.map λp=>.tup [p.1,p.2]) (λi ys I' jF=>(∃v w,I'=v :: w :: js.map λj=>I.getD j none)/\ys=(ps.take i).map h/\Ex [] st1 jF) ⟨S,st1,e1,λi ys I' jF hi' hp=>hS i jF hi' hp.2.2,⟨none,none,rfl⟩,rfl,Ex.refl⟩ (by rw[S8];exact hl) ?_ ?_ ?_;rintro i ys I' jF ⟨_,rfl,_⟩;rw[S8,Ub];lk;rintro i d ys I' jF hd ⟨⟨v,w,rfl⟩,rfl,k8⟩;rw[TC]at hd;obtain⟨p,hp,rfl⟩:=TM.mp hd;rw[KG];refine⟨rfl,?_⟩;rw[Gh,Dy,Gh,Dy,KD];show Wp (iq _ _) _;rw[Gi];refine⟨λ_=>?_,λh=>absurd h ∅⟩;refine aY (step p (TL hp) jF (k1.trans k8)) ?_;rintro y nr ⟨rfl,k9⟩;refine⟨⟨some p.1,some p.2,rfl⟩,?_,k8.trans k9⟩;obtain⟨hlt,e⟩:=Ti.mp hp;rw[Ue hlt,TN,e];rfl;rintro ys I' jF ⟨_,rfl,k8⟩;rw[S8,U8];exact fin jF (k1.trans k8)
abbrev pU:Nat->D->Prop
 |_,.int _=>True
 |_,.str x=>PyData.canLay0 (.str x)=true
 |_,.non=>True
 |n+1,.tup ds=>∀d∈ds,pU n d
 |_,_=>False
abbrev eM:Nat->D->PyData
 |_,.int i=>.int i
 |_,.str x=>.str x
 |n+1,.tup ds=>.tuple (ds.map (eM n))
 |_,_=>.none
def GB{J U:Type}{f:J->Option U}{g:J->U}:∀{l:List J},(∀x∈l,f x=some (g x))->bL f l=some (l.map g)
 |[],_=>rfl
 |a :: r,h=>by
  have h1:=h a Te;have h2:=GB (f:=f) (g:=g) (l:=r) λx hx=>h x (Tg _ hx);simp only[bL,h1,h2,Um]
def DE:∀(n:Nat) (d:D),pU n d->∀(m:Nat),n<m->∀st,jm st m d=some (eM n d)
 |n,.int i,_,m+1,_,st=>by cases n<;>rfl
 |n,.str x,_,m+1,_,st=>by cases n<;>rfl
 |n,.non,_,m+1,_,st=>by cases n<;>rfl
 |n,.bl b,h,_,_,_=>by cases n<;>exact h.elim
 |n,.ty b,h,_,_,_=>by cases n<;>exact h.elim
 |n,.ref b,h,_,_,_=>by cases n<;>exact h.elim
 |0,.tup ds,h,_,_,_=>h.elim
 |n+1,.tup ds,h,m+1,hm,st=>by
  simp only[jm];rw[GB (g:=eM n) λx hx=>DE n x (h x hx) m ⋯ st];rfl
def KW:∀{l:List PyData},(∀x∈l,x.canLay0=true)->PyData.canLayAll0 l=true
 |[],_=>rfl
 |a :: r,h=>by
  simp only[PyData.canLayAll0,h a Te,KW λx hx=>h x (Tg _ hx),Bool.and_self]
def KY{n:Nat}:∀{l:List PyData},(∀x∈l,x.depth<=n)->PyData.depthAll l<=n
 |[],_=>Uq _
 |a :: r,h=>by
  have h1:=h a Te;have h2:=KY λx hx=>h x (Tg _ hx);simp only[PyData.depthAll];lk
def AK:∀(n:Nat) (d:D),pU n d->(eM n d).canLay0=true/\(eM n d).depth<=n
 |n,.int i,_=>by cases n<;>exact⟨rfl,Uq _⟩
 |n,.str x,h=>by cases n<;>exact⟨h,Uq _⟩
 |n,.non,_=>by cases n<;>exact⟨rfl,Uq _⟩
 |n,.bl b,h=>by cases n<;>exact h.elim
 |n,.ty b,h=>by cases n<;>exact h.elim
 |n,.ref b,h=>by cases n<;>exact h.elim
 |0,.tup ds,h=>h.elim
 |n+1,.tup ds,h=>by
  refine⟨?_,?_⟩;show PyData.canLayAll0 (ds.map (eM n))=true;exact KW λx hx=>by
   obtain⟨d,hd,rfl⟩:=T6.mp hx;exact(AK n d (h d hd)).1
  show PyData.depthAll (ds.map (eM n))+1<=n+1
  have:=KY (n:=n) (l:=ds.map (eM n)) λx hx=>by
   obtain⟨d,hd,rfl⟩:=T6.mp hx;exact(AK n d (h d hd)).2
  lk
def KZ{n:Nat}(ih:∀a b:D,pU n a->pU n b->(PyData.eqv (eM n a) (eM n b)=true↔a=b)):∀(l m:List D),(∀x∈l,pU n x)->(∀x∈m,pU n x)->(PyData.eqvAll (l.map (eM n)) (m.map (eM n))=true↔l=m)
 |[],[],_,_=>by simp[PyData.eqvAll]
 |[],_ :: _,_,_=>by simp[PyData.eqvAll]
 |_ :: _,[],_,_=>by simp[PyData.eqvAll]
 |a :: l,b :: m,h1,h2=>by
  have e1:=ih a b (h1 a Te) (h2 b Te);have e2:=KZ ih l m (λx hx=>h1 x (Tg _ hx)) λx hx=>h2 x (Tg _ hx);simp only[Um,PyData.eqvAll,Tz,e1,e2,List.cons.injEq]
def t9:∀(n:Nat) (a b:D),pU n a->pU n b->(PyData.eqv (eM n a) (eM n b)=true↔a=b):=by
 intro n
 induction n with
 |zero =>
  intro a b ha hb;cases a<;>first|exact ha.elim|skip
  all_goals (cases b<;>first|exact hb.elim|simp[eM,PyData.eqv])
 |succ n ih =>
  intro a b ha hb;cases a<;>first|exact ha.elim|skip
  all_goals (cases b<;>first|exact hb.elim|skip)
  all_goals first
   |(simp[eM,PyData.eqv];done)
   |skip
  next l m =>
   have:=KZ ih l m ha hb;show PyData.eqv (.tuple (l.map (eM n))) (.tuple (m.map (eM n)))=true↔_;rw[Qh,this];constructor
   ·rintro rfl;rfl
   ·intro h;exact D.tup.inj h
abbrev pj(neg:Bool):D->D->Dm D:=λa c st=>match jm st 20 a,(br st c).bind (bL (jm st 19))with
 |some dx,some ds=>if dx.canLay0 && ds.all PyData.canLay0 && decide (dx.depth<=60)then some (.bl (if neg then !ds.any (λd=>PyData.eqv d dx)else ds.any λd=>PyData.eqv d dx),st)else none
 |_,_=>none
section
variable {K:Zfr}
def K0{L:List Addr}{H:Hp}{st:Store}(l:Rl K L H st)(n:Nat):∀{vs:List V} {ds:List D} {ps:List PyData},bt K L H vs ds->bL (jm st n) ds=some ps->fH K H vs ps
 |_,_,_,.nil,h=>by cases h;exact .nil
 |_,_,_,.cons a b,h=>by
  obtain⟨x,t,h1,h2,rfl⟩:=tP h;exact .cons (x5 l n a h1) (K0 l n b h2)
def wM(neg:Bool):jx K (zB K neg) (pj neg):=by
 intro L H st x y a c b st' Q l rx ry e q;unfold pj at e;split at e
 ·next dx ds h1 h2 =>
  split at e
  ·next ok =>
   cases e;rw[Tz,Tz,decide_eq_true_eq,UX]at ok;obtain⟨es,h3,h4⟩:=Ua.mp h2;obtain⟨p,xs,rfl,hq,rr⟩:∃p xs,y=.ref p/\(fG K H p xs\/df K H p xs)/\bt K L H xs es:=by
    cases ry with
    |non=>cases h3
    |bl _=>cases h3
    |int _=>cases h3
    |str _=>cases h3
    |ty _=>cases h3
    |ref hi=>obtain⟨vs,s,r⟩:=l.items hi h3;exact⟨_,vs,rfl,.inl s,r⟩
    |tup s r=>cases h3;exact⟨_,_,rfl,.inr s,r⟩
   exact⟨p,xs,ds,dx,rfl,hq,K0 l 19 rr h4,x5 l 20 rx h1,ok.1.2,ok.1.1,ok.2,q _ H L .refl l (.bl _)⟩
  ·cases e
 ·cases e
end
open Classical in
def wN{st:Store}{Q:D->Store->Prop}{neg:Bool}{n:Nat}{a c:D}{es:List D}(ha:pU n a)(hc:br st c=some es)(he:∀e∈es,pU n e)(hn:n<=15):Wp (pj neg a c st) Q↔Q (.bl (if neg then !decide (a∈es)else decide (a∈es))) st:=by
 have h1:=DE n a ha 20 ⋯ st;have h2:bL (jm st 19) es=some (es.map (eM n)):=GB λx hx=>DE n x (he x hx) 19 ⋯ st;have ea:(es.map (eM n)).any (λd=>PyData.eqv d (eM n a))=decide (a∈es):=by
  rw[UG,VA,decide_eq_true_eq];constructor;rintro⟨d,hd,h⟩;obtain⟨x,hx,rfl⟩:=T6.mp hd;rw[<- (t9 n x a (he x hx) ha).mp h];exact hx;intro h;exact⟨_,T6.mpr ⟨a,h,rfl⟩,(t9 n a a ha ha).mpr rfl⟩
 have l1:=AK n a ha;have l2:(es.map (eM n)).all PyData.canLay0=true:=by
  rw[UX];intro d hd;obtain⟨x,hx,rfl⟩:=T6.mp hd;exact(AK n x (he x hx)).1
 have e:pj neg a c st=some (.bl (if neg then !decide (a∈es)else decide (a∈es)),st):=by
  unfold pj;simp only[h1,hc,Ul,h2,ea,l1.1,l2,Bool.true_and,decide_eq_true_eq];rw[if_pos ⋯]
 rw[e,aT]
def GC{st:Store}{Q:D->Store->Prop}{z:Str}:Wp (kX [.str z] st) Q↔lim z.length=true/\Q (.int z.length) st:=by
 show Wp (if lim z.length=true then some (D.int z.length,st)else none) Q↔_;rw[kj,aT,dr];split
 ·next h=>exact⟨λq=>⟨h,q⟩,λq=>q.2⟩
 ·next h=>exact⟨False.elim,λq=>h q.1⟩
section
variable {K:Zfr}
abbrev fE:D->List D->Dm D
 |.str a,[.str b],st=>if(!(b.length == 0) && decide (a.length<=sizeLine) && decide ((Txt.split a b).length<=sizeLine))=true then some (.ref st.length,st ++ [.lst ((Txt.split a b).map D.str)])else none
 |_,_,_=>none
def bt.strs{L:List Addr}{H:Hp}:∀ts:List Str,bt K L H (ts.map V.str) (ts.map D.str)
 |[]=>.nil
 |t :: ts=>.cons (.str t) (bt.strs ts)
def AL:xW K "str" qi fE:=by
 intro L H st x xs a as b st' Q l rx rS e q;unfold fE at e;split at e
 ·next a b =>
  split at e
  ·next ok =>
   cases e;rw[Tz,Tz,decide_eq_true_eq,decide_eq_true_eq,Vr]at ok;obtain⟨v,rfl,r⟩:=rS.one';cases r;cases rx;exact⟨a,b,rfl,rfl,ok.1.1,ok.1.2,ok.2,λp hp=>q _ _ _ (Mn.new hp) (l.newL hp (bt.strs _)) (.ref (newR l))⟩
  ·cases e
 ·cases e
abbrev DF:D->Option Str
 |.str x=>some x
 |_=>none
def K1{L:List Addr}{H:Hp}:∀{ws:List V} {ds:List D} {ts:List Str},bt K L H ws ds->bL DF ds=some ts->ws=ts.map V.str
 |_,_,_,.nil,h=>by cases h;rfl
 |_,_,_,.cons r t,h=>by
  obtain⟨x,y,h1,h2,rfl⟩:=tP h;rw[K1 t h2];cases r<;>first|(cases h1;rfl)|cases h1
abbrev jt:D->List D->Dm D
 |.ref i,[.str v],st=>match (items st i).bind (bL DF)with
  |some ts=>if v∈ts/\ts.length<=2000 then some (.int (ts.idxOf v:Int),st)else none
  |none=>none
 |_,_,_=>none
def Qt:xW K "list" (oK K) jt:=by
 intro L H st x xs a as b st' Q l rx rS e q;unfold jt at e;split at e
 ·split at e
  ·next ts hn =>
   split at e
   ·next hm =>
    cases e;obtain⟨v,rfl,r⟩:=rS.one';cases r;cases rx with
    |ref hi =>
     obtain⟨ds,h1,h2⟩:=Ua.mp hn;obtain⟨vs,s,r⟩:=l.items hi h1;cases K1 r h2;exact⟨_,ts,_,rfl,rfl,s,hm.1,hm.2,q _ H L .refl l (.int _)⟩
   ·cases e
  ·cases e
 ·cases e
abbrev km:List D->Dm D
 |[.int i],st=>if i.natAbs.log2<1920 then some (.str (toString i),st)else none
 |_,_=>none
def GD:nV K (λxs H Q=>∃i:Int,xs=[.int i]/\i.natAbs.log2<1920/\Q (.str (toString i)) H) km:=by
 intro L H st xs as b st' Q l rx e q;unfold km at e;split at e
 ·split at e
  ·next ok =>
   cases e;obtain⟨v,rfl,r⟩:=rx.one';cases r;exact⟨_,rfl,ok,q _ H L .refl l (.str _)⟩
  ·cases e
 ·cases e
end
section
variable {st:Store}{Q:D->Store->Prop}
def yd{a b:Str}(hb:(b.length == 0)=false)(ha:a.length<=sizeLine)(hz:(Txt.split a b).length<=sizeLine):Wp (fE (.str a) [.str b] st) Q↔Q (.ref st.length) (st ++ [.lst ((Txt.split a b).map D.str)]):=by
 have e:fE (.str a) [.str b] st=some (.ref st.length,st ++ [.lst ((Txt.split a b).map D.str)]):=by
  show(if(!(b.length == 0) && decide (a.length<=sizeLine) && decide ((Txt.split a b).length<=sizeLine))=true then _ else none)=_;rw[if_pos (by rw[hb,decide_eq_true ha,decide_eq_true hz];rfl)]
 rw[e,aT]
def Qu{k:Nat}{v:Str}{ts:List Str}(h:items st k=some (ts.map D.str))(hv:v∈ts)(hl:ts.length<=2000):Wp (jt (.ref k) [.str v] st) Q↔Q (.int (ts.idxOf v:Int)) st:=by
 have e:jt (.ref k) [.str v] st=some (.int (ts.idxOf v:Int),st):=by
  show(match (items st k).bind (bL DF)with|some ts=>if v∈ts/\ts.length<=2000 then some (D.int (ts.idxOf v:Int),st)else none|none=>none)=_;rw[h,Ul,vC (f:=DF) (g:=D.str) (k:=id) (λ_=>rfl) ts,Vo];exact if_pos ⟨hv,hl⟩
 rw[e,aT]
def K2{i:Int}(h:i.natAbs.log2<1920):Wp (km [.int i] st) Q↔Q (.str (toString i)) st:=by have e:km [.int i] st=some (.str (toString i),st):=if_pos h;rw[e,aT]
end
abbrev zW(ds es:List D):List D:=List.zipWith (λa b=>D.tup [a,b]) ds es
def GF:∀ds es:List D,zW ds es=di ds es
 |[],es=>by simp[zW,di]
 |a :: r,[]=>by simp[zW,di]
 |a :: r,b :: t=>by
  have:=GF r t;simp only[zW,di,List.zipWith_cons_cons]at this ⊢;rw[this]
def ua{r i:Nat}{es:List D}{st:Store}{o:Option D}(h:Src.at (.zl r es) i st=some o):∃ds,items st r=some ds/\i<=(di ds es).length/\(di ds es)[i]?=o:=by
 simp only[Src.at]at h;obtain⟨ds,h1,h2⟩:=Ua.mp h;refine⟨ds,h1,?_⟩;rw[<- GF];split at h2
 ·next hl=>exact⟨hl,Tq h2⟩
 ·cases h2
abbrev lV(fa:ai->Dm (List D)):ai->Dm Src:=λI st=>bnd (fa I st) λas st1=>match as with
 |[.ref r,b]=>match items st1 r,GA b with
  |some _,some es=>some (.zl r es,st1)
  |_,_=>none
 |_=>none
section
variable {K:Zfr}
def K3{L2:List Addr}{H2:Hp}{st2:Store}{s1 s2:ZS}{i:Nat}{ds es:List D}(l2:Rl K L2 H2 st2)
  (g1:(∀d,ds[i]?=some d->∃v,s1.has K H2 i v/\Rp K L2 H2 v d)/\(i=ds.length->s1.fin K H2 i)) (g2:(∀d,es[i]?=some d->∃v,s2.has K H2 i v/\Rp K L2 H2 v d)/\(i=es.length->s2.fin K H2 i)) (hl:i<=(di ds es).length) :
  ((di ds es)[i]?=none->(xT K s1 s2).stop i H2)/\∀d,(di ds es)[i]?=some d->(xT K s1 s2).go i H2/\∀x H3,(xT K s1 s2).pE i H2 x H3->Mn K L2 H2 L2 H3/\Rl K L2 H3 st2/\Rp K L2 H3 x d:=by
 refine⟨λhn=>?_,λd h=>?_⟩;have GG:i < es.length->∃ y,s2.has K H2 i y:=λhi=>by
  obtain⟨v,hv,_⟩:=g2.1 es[i] (Tj hi);exact⟨v,hv⟩
 rcases KR hl hn with⟨e1,e2⟩|⟨e1,e2⟩
 refine .inl ⟨g1.2 e1,?_⟩;rcases Nat.lt_or_ge i es.length with hi|hi
 exact .inr (GG hi);exact .inl (g2.2 ⋯);obtain⟨v,hv,_⟩:=g1.1 ds[i] (Tj e1);exact .inr ⟨⟨v,hv⟩,g2.2 e2⟩;obtain⟨c,b,hc,hb,rfl⟩:=KQ h;obtain⟨v,hv,rv⟩:=g1.1 c hc;obtain⟨w,hw,rw'⟩:=g2.1 b hb;refine⟨⟨v,w,hv,hw⟩,λz H3 hz=>?_⟩;obtain⟨p,v',w',rfl,hp,rfl,k1,k2⟩:=hz;cases k1 _ hv;cases k2 _ hw;have m3:Mn K L2 H2 L2 (upd H2 p (.tup [v,w])):=Mn.same (cL.up hp);exact⟨m3,l2.same (cL.up hp),.tup (df.of h8) (.cons (rv.mn m3) (.one (rw'.mn m3)))⟩
def K4{L2:List Addr}{H2:Hp}{st2:Store}{k:Nat}{p:Addr}{ds:List D}(l2:Rl K L2 H2 st2)(hi:L2[k]?=some p)(h:items st2 k=some ds)(i:Nat):(∀d,ds[i]?=some d->∃v,(ZS.lst p).has K H2 i v/\Rp K L2 H2 v d)/\(i=ds.length->(ZS.lst p).fin K H2 i):=by obtain⟨vs,s,r⟩:=l2.items hi h;refine⟨λd hd=>?_,λe=>?_⟩;obtain⟨v,hv,rv⟩:=r.got hd;exact⟨v,⟨_,s,hv⟩,rv⟩;exact⟨_,s,by rw[r.length];exact e.symm⟩
def K5{t:TA}{fa:ai->Dm (List D)}(ha:kW K t fa):rW K (zA K t) (lV fa):=by
 intro L G H I st S st' Q l rs e q;obtain⟨as,st1,e1,e⟩:=bq e;split at e
 ·next r b =>
  split at e
  ·next SR es h1 h2 =>
   cases e;refine ha L G H I st _ _ _ l rs e1 λxs H1 L1 m1 l1 r1=>?_;obtain⟨x,y,rfl,rx,ry⟩:=r1.two';cases rx with
   |ref hi =>
    obtain⟨vs,s,_⟩:=l1.items hi h1;obtain⟨s2,v2,g2⟩:=AJ ry h2;refine⟨_,y,.lst _,s2,rfl,⟨rfl,_,s⟩,v2,q _ H1 L1 m1 l1 λL2 H2 st2 i m2 l2=>⟨λh=>?_,λd h=>?_⟩⟩
    ·obtain⟨ds,h3,hl,h4⟩:=ua h
     exact(K3 l2 (K4 l2 (m2.r _ _ hi) h3 i) (g2 L2 H2 m2 i) hl).1 h4
    ·obtain⟨ds,h3,hl,h4⟩:=ua h
     exact(K3 l2 (K4 l2 (m2.r _ _ hi) h3 i) (g2 L2 H2 m2 i) hl).2 d h4
  ·cases e
 ·cases e
end
section
variable {st:Store}{I:ai}
def Qv{fa:ai->Dm (List D)}{R:Src->Store->Prop}:Wp (lV fa I st) R↔Wp (fa I st) λas st1=>∃r b ds es,as=[.ref r,b]/\items st1 r=some ds/\GA b=some es/\R (.zl r es) st1:=by
 unfold lV;rw[cz];constructor<;>refineλh=>aY h λas s h=>?_
 ·split at h
  ·next r b =>
   split at h
   ·next ds es h1 h2=>exact⟨r,b,ds,es,rfl,h1,h2,aT.mp h⟩
   ·exact(dr.mp h).elim
  ·exact(dr.mp h).elim
 ·obtain⟨r,b,ds,es,rfl,h1,h2,h⟩:=h
  simp only[h1,h2];exact aT.mpr h
def AO{r i:Nat}{ds es:List D}(h:items st r=some ds)(hi:i<=(di ds es).length):Src.at (.zl r es) i st=some (di ds es)[i]?:=by simp only[Src.at,h,Ul];rw[<- GF]at hi ⊢;exact if_pos hi
def wO{r:Nat}{ds es:List D}(h:items st r=some ds):mH (.zl r es) (di ds es) st:=λi st2 hi k=>AO (jE h k) hi
end
section
variable {K:Zfr}
abbrev lb:List D->Dm D
 |[.str x],st=>match PySem.intText? x with
  |some n=>if x.length<=640 then some (.int n,st)else none
  |none=>none
 |_,_=>none
def K7:nV K (λxs H Q=>∃(x:Str) (n:Int),xs=[.str x]/\PySem.intText? x=some n/\x.length<=640/\Q (.int n) H) lb:=by
 intro L H st xs as b st' Q l rx e q;unfold lb at e;split at e
 ·split at e
  ·next n hn =>
   split at e
   ·next hl =>
    cases e;obtain⟨v,rfl,r⟩:=rx.one';cases r;exact⟨_,n,rfl,hn,hl,q _ H L .refl l (.int _)⟩
   ·cases e
  ·cases e
 ·cases e
end
section
variable {st:Store}{Q:D->Store->Prop}
def Qw{x:Str}{n:Int}(hn:PySem.intText? x=some n)(hl:x.length<=640):Wp (lb [.str x] st) Q↔Q (.int n) st:=by
 have e:lb [.str x] st=some (.int n,st):=by simp only[lb,hn,if_pos hl]
 rw[e,aT]
end
abbrev mI:D->Option Int->Option Int->Dm D
 |.str z,lo,hi,st=>if lim z.length=true then some (.str (PySem.Txt.slice z lo hi),st)else none
 |_,_,_,_=>none
section
variable {K:Zfr}
def DG:rP K zI mI:=by
 intro lo hi L H st x a b st' Q l rx e q;have e:mI a lo hi st=some (b,st'):=e;unfold mI at e;split at e
 ·split at e
  ·next ok =>
   cases e;cases rx;exact⟨_,rfl,tK ok,q _ H L .refl l (.str _)⟩
  ·cases e
 ·cases e
end
def K8{st:Store}{Q:D->Store->Prop}{z:Str}{lo hi:Option Int}:Wp (mI (.str z) lo hi st) Q↔lim z.length=true/\Q (.str (PySem.Txt.slice z lo hi)) st:=by
 show Wp (if lim z.length=true then some (D.str (PySem.Txt.slice z lo hi),st)else none) Q↔_;rw[kj,aT,dr];split
 ·next h=>exact⟨λq=>⟨h,q⟩,λq=>q.2⟩
 ·next h=>exact⟨False.elim,λq=>h q.1⟩
abbrev aE(d:D)(st:Store):Bool:=match d with
 |.ref i=>match st[i]? with
  |some (.exc _ _)=>true
  |_=>false
 |_=>false
def GH{d:D}{st:Store}(h:aE d st=true):∃i c fs,d=.ref i/\st[i]?=some (.exc c fs):=by
 unfold aE at h;split at h
 ·next i =>
  split at h
  ·next c fs e=>exact⟨i,c,fs,rfl,e⟩
  ·cases h
 ·cases h
def Qx{a C:Addr}{dx:Option Addr}{tr:Tr}{xs:List (List Int×Addr×Value)}(e:DU a xs=XO a C dx tr):False:=by
 unfold DU XO at e;injection e with q
 let ob:Obj:={ cls:=.ref C,dict:=dx,data:=.fields #[.none,vh tr.1,.none,.none,.none,.none] }
 let h0:Heap:={ objs:=Array.replicate (a+1) ob }
 have e0:h0.get? a=some ob:=by
  refine Heap.get?_some_iff.mpr ⟨?_,rfl⟩;simp[h0]
 have z:=(congrFun q h0).mpr ⟨ob,_,e0,rfl,rfl,rfl,rfl,λ_=>⟨rfl,by simp⟩⟩;obtain⟨_,_,o,es,ep,e1,_,e2,_⟩:=z;rw[e0]at e1;cases e1;cases e2
section
variable {K:Zfr}{L L':List Addr}{H H' H2:Hp}{st st':Store}{a:Addr}
def DH(y:XS a H H2){b:Addr}{u:HO}(h:H b=some u)(n:∀φ,u≠.ext φ):H2 b=some u:=by obtain⟨⟨C,dx,tr,qh,e1,e2⟩,k⟩:=y;exact k b (λz=>by rw[z,e1]at h;cases h;exact n _ rfl) u h
def Mn.xs(y:XS a H H2):Mn K L H L H2:=⟨λ_ _ h=>h,λb vs q=>by
  rcases q with(q|⟨o,q⟩)|q
  exact .inl (.inl (DH y q λφ z=>nomatch z));exact .inl (.inr ⟨o,DH y q λφ z=>nomatch z⟩);exact .inr q
  ,λb o u h=>DH y h (λφ z=>by cases z),λb ws h=>DH y h (λφ z=>by cases z)⟩
def Rl.xs(l:Rl K L H st)(y:XS a H H2):Rl K L H2 st:=by
 have m:Mn K L H L H2:=Mn.xs y;refine⟨l.len,l.nd,λi b o h1 h2=>?_⟩;have r:=l.obj i b o h1 h2;by_cases hb:b=a;subst hb;have y0:=y;obtain⟨⟨C,dx,tr,t',e1,e2⟩,k⟩:=y0;cases o with
 |lst ds=>obtain⟨vs,e,_⟩:=r;rw[e1]at e;cases e
 |mZ ds =>
  obtain⟨vs,e,q⟩:=r;refine⟨vs,?_,q.mn m⟩;rcases e with⟨u,e⟩|e
  rw[e1]at e;cases e;exact .inr e
 |dct kvs=>obtain⟨vs,e,_⟩:=r;rw[e1]at e;cases e
 |zS kvs=>obtain⟨vs,e,_⟩:=r;rw[e1]at e;cases e
 |zR kvs=>obtain⟨vs,e,_⟩:=r;rw[e1]at e;exact(Qx (Tq e).symm).elim
 |exc c fs =>
  obtain⟨C',nQ,N8,n,e,q⟩:=r;rw[e1]at e;have ef:=XO.same (Tq e);obtain⟨rfl,rfl⟩:=XO.inj (Tq e);exact⟨C,dx,(t',tr.2),n,e2,q.1.mn m,λz=>ef.trans (q.2 z)⟩
 |any=>trivial
 |fR lo hi=>have z:H b=some (.fR lo hi):=r;rw[e1]at z;cases z
 exact r.keep m λu e=>y.2 b hb u e
abbrev ye(K:Zfr)(W:Addr->Hp->Prop)(L:List Addr)(H:Hp)(st':Store)(E:Ends):Fl->Prop
 |.rt d=>(aE d st'=true->∀a H' L',Mn K L H L' H'->Rl K L' H' st'->Rp K L' H' (.ref a) d->W a H')/\(aE d st'=false->Go K L H st' E (.rt d))
 |fl=>Go K L H st' E fl
def ye.mn{W:Addr->Hp->Prop}{L1:List Addr}{H1:Hp}{E:Ends}{fl:Fl}(g:ye K W L H st' E fl)(m:Mn K L H L1 H1):ye K W L1 H1 st' E fl:=by
 cases fl with
 |rt d=>exact⟨λh a H' L' m' l r=>g.1 h a H' L' (m.trans m') l r,λh=>Go.mn (g.2 h) m⟩
 |nx I=>exact Go.mn (fl:=.nx I) g m
 |bk I=>exact Go.mn (fl:=.bk I) g m
 |ct I=>exact Go.mn (fl:=.ct I) g m
abbrev nu(K:Zfr)(W:Addr->Hp->Prop)(t:TS)(f:ai->Dm Fl):Prop :=
 ∀(L:List Addr) (G:St) (H:Hp) (I:ai) (st:Store) (fl:Fl) (st':Store) (E:Ends),Rl K L H st->Rs K L H G I->f I st=some (fl,st')->ye K W L H st' E fl->t E G H
abbrev kE(f:ai->Dm Fl):ai->Dm Fl:=λI st=>bnd (f I st) λfl st1=>match fl with
 |.rt d=>if aE d st1=true then none else some (.rt d,st1)
 |x=>some (x,st1)
def lW{W:Addr->Hp->Prop}{t:TS}{f:ai->Dm Fl}(hf:lS K t f):nu K W t (kE f):=by
 intro L G H I st fl st' E l rs e q;obtain⟨x,st1,e1,e⟩:=bq e;cases x with
 |rt d =>
  dsimp only at e;split at e
  ·cases e
  ·next hn=>cases e;exact hf L G H I st _ _ E l rs e1 (q.2 (by simpa using hn))
 |nx I1=>cases e;exact hf L G H I st _ _ E l rs e1 q
 |bk I1=>cases e;exact hf L G H I st _ _ E l rs e1 q
 |ct I1=>cases e;exact hf L G H I st _ _ E l rs e1 q
def lg{W:Addr->Hp->Prop}{t u:TS}{f g:ai->Dm Fl}(hf:nu K W t f)(hg:nu K W u g):nu K W (rh t u) (aB f g):=by
 intro L G H I st fl st' E l rs e q;obtain⟨x,st1,e1,e⟩:=bq e;refine hf L G H I st x st1 _ l rs e1 ?_;cases x with
 |nx I1=>exactλG1 H1 L1 m1 l1 r1=>hg L1 G1 H1 I1 st1 fl st' E l1 r1 e (q.mn m1)
 |bk I1=>cases e;exact q
 |ct I1=>cases e;exact q
 |rt d=>cases e;exact q
def ub{W:Addr->Hp->Prop}{c:TT}{t u:TS}{fc:ai->Dm Bool}{f g:ai->Dm Fl}(hc:m8 K c fc)(hf:nu K W t f)(hg:nu K W u g):nu K W (uB c t u) (fT fc f g):=by
 intro L G H I st fl st' E l rs e q;obtain⟨a,st1,e1,e⟩:=bq e;refine hc L G H I st _ _ _ l rs e1 λx H1 L1 m1 l1 r1=>?_;subst r1;cases x with
 |true =>
  refine nK ?_;rw[if_pos rfl]at e;exact hf L1 G H1 I st1 fl st' E l1 (rs.mn m1) e (q.mn m1)
 |false =>
  refine nJ ?_;rw[if_neg Tb]at e;exact hg L1 G H1 I st1 fl st' E l1 (rs.mn m1) e (q.mn m1)
def GJ{c:Str}{fs:List (Str×D)}:aE (.ref st.length) (st ++ [.exc c fs])=true:=by simp[aE]
abbrev ny(K:Zfr)(n:Nat)(F:List D->Dm D):Sp:=λvs H Q E=>vs.length=n/\∃(L:List Addr) (st:Store) (ds:List D) (b:D) (st':Store),Rl K L H st/\bt K L H vs ds/\F ds st=some (b,st') /\
 (aE b st'=true->∀a H' L',Mn K L H L' H'->Rl K L' H' st'->Rp K L' H' (.ref a) b->E (.ref a) none H')/\(aE b st'=false->∀v H' L',Mn K L H L' H'->Rl K L' H' st'->Rp K L' H' v b->Q v H')
def AQ{N:List Str}{k n:Nat}{t:TS}{b:ai->Dm Fl}{vs:List V}{H:Hp}{Q:VK}{E:XK}(hb:nu K (λa H'=>E (.ref a) none H') t b)(hn:N.length=n)(h:ny K k (jM n b) vs H Q E):t { nx:=λ_ H'=>Q .non H',rt:=Q } (start N vs) H:=by
 obtain⟨hk,L,st,ds,d,st',l,r,e,q1,q2⟩:=h;subst hn;obtain⟨fl,st1,e1,e⟩:=bq e;refine hb L _ H _ st fl st1 _ l (Rs.start r N) e1 ?_;cases fl with
 |rt v=>cases e;exact⟨q1,q2⟩
 |nx I=>cases e;exactλG' H' L' m l' r'=>q2 rfl .non H' L' m l' .non
 |bk I=>cases e
 |ct I=>cases e
abbrev DI(K:Zfr)(t:(St->Addr->Hp->Prop)->TS)(f:ai->Dm Fl):Prop :=
 ∀(L:List Addr) (G:St) (H:Hp) (I:ai) (st:Store) (fl:Fl) (st':Store) (E:Ends) (W:St->Addr->Hp->Prop),Rl K L H st->Rs K L H G I->f I st=some (fl,st')->ye K (W G) L H st' E fl->t W E G H
abbrev lh(F:List D->Dm D)(fa:ai->Dm (List D))(i:Nat):ai->Dm Fl:=λI st=>bnd (fa I st) λas st1=>bnd (F as st1) λb st2=>if aE b st2=true then some (.rt b,st2)else some (.nx (I.set i (some b)),st2)
def Qy{n i:Nat}{F:List D->Dm D}{ta:TA}{fa:ai->Dm (List D)}(ha:kW K ta fa)(hn:∀I st as st',fa I st=some (as,st')->as.length=n):DI K (λW=>nE (nR (ny K n F) W ta) (jH i)) (lh F fa i):=by intro L G H I st fl st' E W l rs e q;obtain⟨as,st1,e1,e⟩:=bq e;obtain⟨b,st2,e2,e⟩:=bq e;refine ha L G H I st as st1 _ l rs e1 λvs H1 L1 m1 l1 r1=>⟨by rw[r1.length];exact hn _ _ _ _ e1,L1,st1,as,b,st2,l1,r1,e2,λhr a H3 L3 m3 l3 r3=>?_,λhr v H3 L3 m3 l3 r3=>?_⟩;rw[if_pos hr]at e;cases e;exact⟨a,rfl,q.1 hr a H3 L3 (m1.trans m3) l3 r3⟩;rw[hr,if_neg Tb]at e;cases e;exact q _ H3 L3 (m1.trans m3) l3 ((rs.mn (m1.trans m3)).set r3)
abbrev catches(sub:Str->Bool)(d:D)(st:Store):Bool:=match d with
 |.ref i=>match st[i]? with
  |some (.exc c _)=>sub c
  |_=>false
 |_=>false
abbrev sf(f:ai->Dm Fl)(sub:Str->Bool)(i:Nat)(fs:ai->Dm Fl):ai->Dm Fl:=λI st=>bnd (f I st) λfl st1=>match fl with
 | .rt d=>if aE d st1=true then(if catches sub d st1=true then bnd (fs (I.set i (some d)) st1) (λGK st2=>match GK with
   |.nx I2=>some (.nx (I2.set i none),st2)
   |.rt x=>some (.rt x,st2)
   |_=>none)else none)else some (.rt d,st1)
 |x=>some (x,st1)
def Rs.unset{G:St}{I:ai}{i:Nat}(h:Rs K L H G I):Rs K L H (G.set i none) (I.set i none):=by
 refine⟨by rw[T8,T8];exact h.1,λj e hj=>?_⟩;by_cases hij:i=j;subst hij;have hl:i<I.length:=by
  have:=(Ti.mp hj).1
  rwa [T8]at this
 rw[TB hl]at hj;cases hj;rw[TQ hij]at hj;obtain⟨w,hw,rw'⟩:=h.2 j e hj;exact⟨w,by rw[TQ hij];exact hw,rw'⟩
def wQ{t:(St->Addr->Hp->Prop)->TS}{ts:TS}{f fs:ai->Dm Fl}{sub:Str->Bool}{F:Addr}{i:Nat}(hf:DI K t f)(hs:lS K ts fs)(hsub:∀c C,sub c=true->PySem.W.nsIn K mainGlobals c=some (some (.ref C))->PySem.W.mroIn K C (.ref F)=some true):
  lS K (zG K t F i ts) (sf f sub i fs):=by
 intro L G H I st fl st' E l rs e q;obtain⟨x,st1,e1,e⟩:=bq e;refine hf L G H I st x st1 E _ l rs e1 ?_;cases x with
 |nx I1=>cases e;exact q
 |bk I1=>cases e;exact q
 |ct I1=>cases e;exact q
 |rt d =>
  dsimp only at e;refine⟨λhr a H' L' m' l' r'=>?_,λhr=>?_⟩
  ·rw[if_pos hr]at e
   obtain⟨j,c,gs,rfl,hj⟩:=GH hr;split at e
   ·next hca =>
    have hc:sub c=true:=by simpa[catches,hj]using hca
    obtain⟨y,st2,e2,e⟩:=bq e;cases r' with
    |ref qC =>
     obtain⟨C,dx,tr,hn,ea,_⟩:=l'.obj j a _ qC hj;refine⟨C,dx,tr,ea,hsub c C hc hn,hs L' _ H' _ st1 y st2 _ l' ((rs.mn m').set (.ref qC)) e2 ?_⟩;cases y with
     |nx I2=>cases e;exactλG3 H3 L3 m3 l3 r3=>q _ H3 L3 (m'.trans m3) l3 r3.unset
     |rt v=>cases e;exactλv3 H3 L3 m3 l3 r3=>q v3 H3 L3 (m'.trans m3) l3 r3
     |bk I2=>cases e
     |ct I2=>cases e
   ·cases e
  ·rw[hr,if_neg Tb]at e
   cases e;exact q
abbrev n4(pI:Str->Option Bool)(f:ai->Dm D):ai->Dm D:=λI st=>bnd (f I st) λd st1=>match d with
 |.ref i=>match st1[i]? with
  |some (.exc c _)=>match pI c with
   |some b=>some (.bl b,st1)
   |none=>none
  |_=>none
 |_=>none
def K9{dx:Option Addr}{fs:List (Str×D)}(h:Xd K L H dx fs):∀d,dx=some d->∃ws,H d=some (.xd ws):=λd e=>by
 subst e;obtain⟨ws,e,_⟩:=h;exact⟨ws,e⟩
def La{te:TE}{f:ai->Dm D}{v:V}{cv:Value}{pI:Str->Option Bool}(hf:dv K te f)(hv:rH v=some cv)
  (h:∀c C b,pI c=some b->PySem.W.nsIn K mainGlobals c=some (some (.ref C))->my K C/\PySem.W.kitOne K (.ref C) cv=some b):dv K (yW (vk K) (jI te (jI (tC v) pV))) (n4 pI f):=by
 intro L G H I st b st' Q l rs e q;obtain⟨d,st1,e1,e⟩:=bq e;refine hf L G H I st d st1 _ l rs e1 λx H1 L1 m1 l1 r1=>?_;split at e
 ·split at e
  ·next c fs hj =>
   split at e
   ·next b0 hb =>
    cases e;cases r1 with
    |ref qC =>
     obtain⟨C,dx,tr,hn,ea,hx⟩:=l1.obj _ _ _ qC hj;obtain⟨ei,k⟩:=h c C b0 hb hn;exact⟨_,C,dx,tr,v,b0,rfl,ea,K9 hx.1,ei,.inl ⟨cv,hv,k⟩,q _ H1 L1 m1 l1 (.bl b0)⟩
   ·cases e
  ·cases e
 ·cases e
def wR{te:TE}{f:ai->Dm D}{Lb:TA}{vs:List V}{cs:List Value}{pI:Str->Option Bool}(hf:dv K te f)(ht:∀G H Q,Q vs H->Lb G H Q)(hl:vs.length<=sizeLine)(hv:mz vs=some cs)
  (h:∀c C b,pI c=some b->PySem.W.nsIn K mainGlobals c=some (some (.ref C))->my K C/\PySem.W.kitAny K (.ref C) cs=some b):dv K (yW (vk K) (jI te (jI (rm Lb) pV))) (n4 pI f):=by
 intro L G H I st b st' Q l rs e q;obtain⟨d,st1,e1,e⟩:=bq e;refine hf L G H I st d st1 _ l rs e1 λx H1 L1 m1 l1 r1=>ht G H1 _ ⟨hl,λp hp=>?_⟩;have sm:cL H1 (upd H1 p (.tup vs)):=cL.up hp;have m2:Mn K L1 H1 L1 (upd H1 p (.tup vs)):=Mn.same sm;have l2:=l1.same sm;have r2:=r1.mn m2;split at e
 ·split at e
  ·next c fs hj =>
   split at e
   ·next b0 hb =>
    cases e;cases r2 with
    |ref qC =>
     obtain⟨C,dx,tr,hn,ea,hx⟩:=l2.obj _ _ _ qC hj;obtain⟨ei,k⟩:=h c C b0 hb hn;exact⟨_,C,dx,tr,_,b0,rfl,ea,K9 hx.1,ei,.inr ⟨p,vs,cs,rfl,h8,hv,k⟩,q _ _ L1 (m1.trans m2) l2 (.bl b0)⟩
   ·cases e
  ·cases e
 ·cases e
abbrev n5(x:Str)(b:Bool):Str->Option Bool:=λc=>if c=x then some b else none
abbrev kn(x:Str):Str->Bool:=λc=>decide (c=x)
def GL{x:Str}{C0:Addr}{b0:Bool}{R:Addr->Bool->Prop}(hn:PySem.W.nsIn K mainGlobals x=some (some (.ref C0)))(k:R C0 b0):∀c C b,n5 x b0 c=some b->PySem.W.nsIn K mainGlobals c=some (some (.ref C))->R C b:=λc C b h n=>by
 unfold n5 at h;split at h
 ·next e=>subst e;cases h;rw[hn]at n;cases n;exact k
 ·cases h
def Lc{x:Str}{C0 F:Addr}(hn:PySem.W.nsIn K mainGlobals x=some (some (.ref C0)))(k:PySem.W.mroIn K C0 (.ref F)=some true):∀c C,kn x c=true->PySem.W.nsIn K mainGlobals c=some (some (.ref C))->PySem.W.mroIn K C (.ref F)=some true:=λc C h n=>by
 have e:c=x:=of_decide_eq_true h;subst e;rw[hn]at n;cases n;exact k
@[reducible]def yf:List Value:=[.type "ValueError",.type "Exception",.type "BaseException",.type "object"]
def Qz:bootBuiltins "ValueError" = some (.type "ValueError"):=by decide +kernel
abbrev AR(pI:Str->Option Bool)(d:D)(st1:Store)(Q:D->Store->Prop):Prop:=∃i c fs b,d=.ref i/\st1[i]?=some (.exc c fs)/\pI c=some b/\Q (.bl b) st1
def wU{x:Str}{b:Bool}{i:Nat}{fs:List (Str×D)}{st:Store}{Q:D->Store->Prop}(hi:st[i]?=some (.exc x fs))(q:Q (.bl b) st):AR (n5 x b) (.ref i) st Q:=⟨i,x,fs,b,rfl,hi,by unfold n5;rw[if_pos rfl],q⟩
def Ld{f:ai->Dm D}{I:ai}{st:Store}{pI:Str->Option Bool}{Q:D->Store->Prop}:Wp (n4 pI f I st) Q↔Wp (f I st) λd st1=>AR pI d st1 Q:=by
 constructor
 ·rintro⟨d,st',e,q⟩
  obtain⟨x,st1,e1,e⟩:=bq e;refine⟨x,st1,e1,?_⟩;split at e
  ·split at e
   ·next c fs hj =>
    split at e
    ·next b hb=>cases e;exact⟨_,c,fs,b,rfl,hj,hb,q⟩
    ·cases e
   ·cases e
  ·cases e
 ·rintro⟨x,st1,e1,i,c,fs,b,rfl,hj,hb,q⟩
  refine⟨.bl b,st1,?_,q⟩;unfold n4;rw[e1];simp[bnd,hj,hb]
end
section
variable {st:Store}{I:ai}{N B C:ai->Store->Prop}{R:D->Store->Prop}{f g:ai->Dm Fl}
def lX(h:Ws (f I st) N B C (λd s=>aE d s=false/\R d s)):Ws (kE f I st) N B C R:=by
 obtain⟨fl,s1,e,q⟩:=h;unfold kE;rw[e];cases fl with
 |rt d=>refine⟨.rt d,s1,?_,q.2⟩;simp[bnd,q.1]
 |nx I1=>exact⟨.nx I1,s1,rfl,q⟩
 |bk I1=>exact⟨.bk I1,s1,rfl,q⟩
 |ct I1=>exact⟨.ct I1,s1,rfl,q⟩
def wV{sub:Str->Bool}{i:Nat}{fs:ai->Dm Fl}(h:Ws (f I st) N B C (λd s=>(aE d s=false->R d s)/\(aE d s=true->catches sub d s=true/\Ws (fs (I.set i (some d)) s) (λI2 s2=>N (I2.set i none) s2) (λ_ _=>False) (λ_ _=>False) R))):
  Ws (sf f sub i fs I st) N B C R:=by
 obtain⟨fl,s1,e,q⟩:=h;unfold sf;rw[e];cases fl with
 |rt d =>
  cases hr:aE d s1 with
  |false=>refine⟨.rt d,s1,?_,q.1 hr⟩;simp[bnd,hr]
  |true =>
   obtain⟨hc,GK,s2,e2,q2⟩:=q.2 hr;cases GK with
   |rt x=>refine⟨.rt x,s2,?_,q2⟩;simp[bnd,hr,hc,e2]
   |nx I1=>refine⟨.nx (I1.set i none),s2,?_,q2⟩;simp[bnd,hr,hc,e2]
   |bk I1=>exact q2.elim
   |ct I1=>exact q2.elim
 |nx I1=>exact⟨.nx I1,s1,rfl,q⟩
 |bk I1=>exact⟨.bk I1,s1,rfl,q⟩
 |ct I1=>exact⟨.ct I1,s1,rfl,q⟩
def Le{i:Nat}{F:List D->Dm D}{fa:ai->Dm (List D)}(h:Wp (fa I st) λas s1=>Wp (F as s1) λb s2=>(aE b s2=true->R b s2)/\(aE b s2=false->N (I.set i (some b)) s2)):Ws (lh F fa i I st) N B C R:=by
 obtain⟨as,s1,e,b,s2,e2,q⟩:=h;unfold lh;rw[e];cases hr:aE b s2 with
 |true=>refine⟨.rt b,s2,?_,q.1 hr⟩;simp[bnd,e2,hr]
 |false=>refine⟨.nx (I.set i (some b)),s2,?_,q.2 hr⟩;simp[bnd,e2,hr]
end
section
variable {K:Zfr}{L L':List Addr}{H H' H2:Hp}{st st':Store}{a:Addr}
def GN{a b:Addr}{o u:HO}(n:a≠b):upd (upd H a o) b u=upd (upd H b u) a o:=by
 funext c
 unfold upd;by_cases c1:c=b;subst c1;rw[if_pos rfl,if_neg (Ne.symm n),if_pos rfl];rw[if_neg c1];by_cases c2:c=a;rw[if_pos c2,if_pos c2];rw[if_neg c2,if_neg c2,if_neg c1]
def Rl.newX{C d:Addr}{c:Str}{fs:List (Str×D)}{ws:List (Str×V)}(l:Rl K L H st)(ha:H a=none)(hd:H d=none)(da:d≠a)(hc:PySem.W.nsIn K mainGlobals c=some (some (.ref C)))(hw:∀f e,fs.lookup f=some e->∃v,ws.lookup f=some v/\Rp K L H v e):
  Rl K (L ++ [a]) (upd (upd H a (XO a C (some d) (none,true))) d (.xd ws)) (st ++ [.exc c fs])/\Mn K L H (L ++ [a]) (upd (upd H a (XO a C (some d) (none,true))) d (.xd ws)):=by
 rw[GN (Ne.symm da)];have m1:Mn K L H L (upd H d (.xd ws)):=Mn.same (cL.up hd);have l1:=l.same (cL.up (o:=.xd ws) hd);have ha1:upd H d (.xd ws) a=none:=by rw[b8 (Ne.symm da)];exact ha
 have m2:Mn K L (upd H d (.xd ws)) (L ++ [a]) (upd (upd H d (.xd ws)) a (XO a C (some d) (none,true))):=Mn.new ha1;refine⟨l1.new ha1 ⟨C,some d,(none,true),hc,h8,⟨ws,by rw[b8 da,h8],λf e h=>?_⟩,λ_=>rfl⟩,m1.trans m2⟩;obtain⟨v,h1,h2⟩:=hw f e h;exact⟨v,h1,h2.mn (m1.trans m2)⟩
abbrev b9(c:Str)(fs:List Str)(fa:ai->Dm (List D)):ai->Dm Fl:=λI st=>bnd (fa I st) λds st1=>some (.rt (.ref st1.length),st1 ++ [.exc c (fs.zip ds)])
def GO{C:Addr}{c f1 f2:Str}{E0:XK}{ta:TA}{fa:ai->Dm (List D)}(ha:kW K ta fa)(hn:∀I st as st',fa I st=some (as,st')->as.length=2)(hc:PySem.W.nsIn K mainGlobals c=some (some (.ref C)))(es:nS K C)
  (t1:PySem.W.takerIn K C f1=some none) (t2:PySem.W.takerIn K C f2=some none) (hm:PySem.W.mroIn K C (.type "BaseException")=some true) (ht:PySem.W.typeIn K (.ref C)=some (.type "type")) (hne:(f1 == f2)=false) :
  nu K (λa H'=>E0 (.ref a) none H') (lK K (ke C (nU K f1 f2) ta) E0) (b9 c [f1,f2] fa):=by
 intro L G H I st fl st' E l rs e q;obtain⟨ds,st1,e1,e⟩:=bq e;cases e;refine ha L G H I st ds st1 _ l rs e1 λvs H1 L1 m1 l1 r1=>?_;have hl:=hn _ _ _ _ e1;have hv:vs.length=2:=by rw[r1.length];exact hl
 match vs,ds,r1,hl,hv with
 |[v1,v2],[d1,d2],.cons a1 (.cons a2 .nil),_,_ =>
  refine⟨(show 2<=10 by decide),λa hna=>⟨a,C,(none,true),v1,v2,rfl,h8,es,t1,t2,λd hd da=>⟨rfl,a,C,some d,rfl,?_,hm,ht,λH2 y=>?_⟩⟩⟩;rw[b8 (Ne.symm da),h8];have hd1:H1 d=none:=by rw[b8 da]at hd;exact hd
  rw[sC]at y;obtain⟨l2,m2⟩:=l1.newX (c:=c) (C:=C) (fs:=[(f1,d1),(f2,d2)]) (ws:=[(f2,v2),(f1,v1)]) hna hd1 da hc λf e h=>by
   simp only[Uk,List.lookup_nil]at h ⊢;by_cases z1:(f == f1)=true;rw[z1]at h;cases h;have z2:(f == f2)=false:=by rw[beq_iff_eq.mp z1];exact hne
   rw[z2,z1];exact⟨v1,rfl,a1⟩;have z1:(f == f1)=false:=by simpa using z1
   rw[z1]at h;by_cases z2:(f == f2)=true;rw[z2]at h;cases h;rw[z2];exact⟨v2,rfl,a2⟩;have z2:(f == f2)=false:=by simpa using z2
   rw[z2]at h;cases h
  exact q.1 GJ a H2 (L1 ++ [a]) ((m1.trans m2).trans (Mn.xs y)) (l2.xs y) (.ref (newR l1))
abbrev iu(F:List D->Dm D)(fa:ai->Dm (List D)):ai->Dm Fl:=λI st=>bnd (fa I st) λas st1=>bnd (F as st1) λb st2=>if aE b st2=true then some (.rt b,st2)else some (.nx I,st2)
def GP{n:Nat}{F:List D->Dm D}{ta:TA}{fa:ai->Dm (List D)}{E0:XK}(ha:kW K ta fa)(hn:∀I st as st',fa I st=some (as,st')->as.length=n):nu K (λa H'=>E0 (.ref a) none H') (ow (kP (ny K n F) [] E0 ta)) (iu F fa):=by intro L G H I st fl st' E l rs e q;obtain⟨as,st1,e1,e⟩:=bq e;obtain⟨b,st2,e2,e⟩:=bq e;refine ha L G H I st as st1 _ l rs e1 λvs H1 L1 m1 l1 r1=>⟨?_,L1,st1,as,b,st2,l1,?_,e2,λhr a H3 L3 m3 l3 r3=>?_,λhr v H3 L3 m3 l3 r3=>?_⟩;rw[T5,r1.length];exact hn _ _ _ _ e1;rw[T5];exact r1;rw[if_pos hr]at e;cases e;exact q.1 hr a H3 L3 (m1.trans m3) l3 r3;rw[hr,if_neg Tb]at e;cases e;exact q G H3 L3 (m1.trans m3) l3 (rs.mn (m1.trans m3))
def GQ{W:Addr->Hp->Prop}{wi:TI}{tg:TG}{tb:TS}{fi:ai->Dm Src}{g:D->ai->Dm ai}{b:ai->Dm Fl}(hi:rW K wi fi)(hg:rT K tg g)(hb:nu K W tb b):nu K W (uG wi tg tb) (fZ fi g b):=by
 intro L G H I st fl st' E l rs e q;obtain⟨S,gW,e0,e⟩:=bq e;refine hi L G H I st S gW _ l rs e0 λJ H0 L0 m0 l0 ok=>?_;refine⟨λi m G1 H1=>∃L1 I1 st1,Mn K L0 H0 L1 H1/\Rl K L1 H1 st1/\Rs K L1 H1 G1 I1/\cO S g b m i I1 st1=some (fl,st'),⟨fuel,L0,I,gW,.refl,l0,rs.mn m0,e⟩,?_⟩;rintro i m G1 H1 ⟨L1,I1,st1,m1,l1,qu,e1⟩;cases m with
 |zero=>cases e1
 |succ m =>
  obtain⟨hstop,hgo⟩:=ok L1 H1 st1 i m1 l1;unfold cO at e1;split at e1
  ·cases e1
  ·next hs=>cases e1;exact .inl ⟨hstop hs,q.mn (m0.trans m1) G1 H1 L1 .refl l1 qu⟩
  ·next d hs =>
   obtain⟨I2,st2,e2,e1⟩:=bq e1;obtain⟨f3,st3,e3,e1⟩:=bq e1;obtain⟨go,pE⟩:=hgo d hs;refine .inr ⟨go,λG3 H3=>∃m',m' < m+1/\∃L1 I1 st1,Mn K L0 H0 L1 H3/\Rl K L1 H3 st1/\Rs K L1 H3 G3 I1/\cO S g b m' (i+1) I1 st1=some (fl,st'),λ_ _ h=>h,λx H2 hy=>?_⟩;obtain⟨m2,l2,r2⟩:=pE x H2 hy;refine hg L1 G1 H2 I1 st1 x d I2 st2 _ l2 (qu.mn m2) r2 e2 λG4 H4 L4 m4 l4 r4=>hb L4 G4 H4 I2 st2 f3 st3 _ l4 r4 e3 ?_;have m5:=((m1.trans m2).trans m4);cases f3 with
   |nx I3=>exactλG5 H5 L5 m6 l5 r5=>⟨m,Us m,L5,I3,st3,m5.trans m6,l5,r5,e1⟩
   |ct I3=>exactλG5 H5 L5 m6 l5 r5=>⟨m,Us m,L5,I3,st3,m5.trans m6,l5,r5,e1⟩
   |bk I3=>cases e1;exact Go.mn (fl:=.nx I3) q (m0.trans m5)
   |rt d=>cases e1;exact ye.mn q (m0.trans m5)
abbrev oZ(sub:Str->Bool)(f:Str)(fa:ai->Dm D):ai->Dm D:=λI st=>bnd (fa I st) λd st1=>match d with
 |.ref i=>match st1[i]? with
  |some (.exc c fs)=>if sub c=true then(match fs.lookup f with
   |some e=>some (e,st1)
   |none=>none)else none
  |_=>none
 |_=>none
def QA{te:TE}{fa:ai->Dm D}{sub:Str->Bool}{f:Str}(ha:dv K te fa)(h:∀c C,sub c=true->PySem.W.nsIn K mainGlobals c=some (some (.ref C))->my K C/\PySem.W.findIn K (.ref C) f=some none):dv K (JH K te f) (oZ sub f fa):=by
 intro L G H I st b st' Q l rs e q;obtain⟨d,st1,e1,e⟩:=bq e;refine ha L G H I st d st1 _ l rs e1 λx H1 L1 m1 l1 r1=>?_;split at e
 ·split at e
  ·next c fs hj =>
   split at e
   ·next hs =>
    split at e
    ·next e0 he =>
     cases e;cases r1 with
     |ref qC =>
      obtain⟨C,dx,tr,hn,ea,hx⟩:=l1.obj _ _ _ qC hj;obtain⟨ei,hf⟩:=h c C hs hn;cases dx with
      |none=>rw[show fs=[]from hx.1]at he;cases he
      |some dd =>
       obtain⟨ws,ed,hw⟩:=hx.1;obtain⟨v,hv,rv⟩:=hw f _ he;exact⟨_,C,dd,tr,ws,v,rfl,ea,ed,hv,ei,hf,q v H1 L1 m1 l1 rv⟩
    ·cases e
   ·cases e
  ·cases e
 ·cases e
end
section
variable {st:Store}{I:ai}{N B C:ai->Store->Prop}{R:D->Store->Prop}
def uc{c:Str}{fs:List Str}{fa:ai->Dm (List D)}(h:Wp (fa I st) λds s1=>R (.ref s1.length) (s1 ++ [.exc c (fs.zip ds)])):Ws (b9 c fs fa I st) N B C R:=by obtain⟨ds,s1,e,q⟩:=h;exact⟨_,_,by unfold b9;rw[e];rfl,q⟩
def DJ{F:List D->Dm D}{fa:ai->Dm (List D)}(h:Wp (fa I st) λas s1=>Wp (F as s1) λb s2=>(aE b s2=true->R b s2)/\(aE b s2=false->N I s2)):Ws (iu F fa I st) N B C R:=by
 obtain⟨as,s1,e,b,s2,e2,q⟩:=h;unfold iu;rw[e];cases hr:aE b s2 with
 |true=>refine⟨.rt b,s2,?_,q.1 hr⟩;simp[bnd,e2,hr]
 |false=>refine⟨.nx I,s2,?_,q.2 hr⟩;simp[bnd,e2,hr]
abbrev ud(sub:Str->Bool)(f:Str)(d:D)(st:Store)(Q:D->Store->Prop):Prop:=∃i c fs e,d=.ref i/\st[i]?=some (.exc c fs)/\sub c=true/\fs.lookup f=some e/\Q e st
def AU{x f:Str}{i:Nat}{fs:List (Str×D)}{e:D}{Q:D->Store->Prop}(hi:st[i]?=some (.exc x fs))(he:fs.lookup f=some e)(q:Q e st):ud (kn x) f (.ref i) st Q:=⟨i,x,fs,e,rfl,hi,by unfold kn;simp,he,q⟩
def QB{sub:Str->Bool}{f:Str}{fa:ai->Dm D}{Q:D->Store->Prop}(h:Wp (fa I st) λd s1=>ud sub f d s1 Q):Wp (oZ sub f fa I st) Q:=by obtain⟨d,s1,e,i,c,fs,x,rfl,hi,hs,hl,q⟩:=h;refine⟨x,s1,?_,q⟩;unfold oZ;rw[e];simp[bnd,hi,hs,hl]
end
section
variable {K:Zfr}
abbrev ko(g g':D->D->Dm D)(fa fb fc:ai->Dm D):ai->Dm D:=λI st=>bnd (fa I st) λa st1=>bnd (fb I st1) λb st2=>bnd (g a b st2) λz st3=>match z with
 |.bl true=>bnd (fc I st3) λc kq=>g' b c kq
 |.bl false=>some (.bl false,st3)
 |_=>none
def Lf{r r':R2}{g g':D->D->Dm D}{ta tb tc:TE}{fa fb fc:ai->Dm D}(hr:jx K r g)(hr':jx K r' g')(ha:dv K ta fa)(hb:dv K tb fb)(hc:dv K tc fc):dv K (pT r r' ta tb tc) (ko g g' fa fb fc):=by intro L G H I st v st' Q l rs e q;obtain⟨a,st1,e1,e⟩:=bq e;obtain⟨b,st2,e2,e⟩:=bq e;obtain⟨z,st3,e3,e⟩:=bq e;refine ha L G H I st a st1 _ l rs e1 λx H1 L1 m1 l1 r1=>hb L1 G H1 I st1 b st2 _ l1 (rs.mn m1) e2 λy H2 L2 m2 l2 r2=>?_;refine hr L2 H2 st2 x y a b z st3 _ l2 (r1.mn m2) r2 e3 λw H3 L3 m3 l3 r3=>?_;split at e;obtain⟨c,kq,e4,e⟩:=bq e;cases r3;refine⟨true,rfl,?_⟩;rw[if_pos rfl];refine hc L3 G H3 I st3 c kq _ l3 (rs.mn ((m1.trans m2).trans m3)) e4 λu H4 L4 m4 l4 r4=>?_;exact hr' L4 H4 kq y u b c v st' Q l4 (r2.mn (m3.trans m4)) r4 e λv' H5 L5 m5 l5 r5=>q v' H5 L5 ((((m1.trans m2).trans m3).trans m4).trans m5) l5 r5;cases e;cases r3;refine⟨false,rfl,?_⟩;rw[if_neg Tb];exact q _ H3 L3 ((m1.trans m2).trans m3) l3 (.bl _);cases e
def Lg{g g':D->D->Dm D}{fa fb fc:ai->Dm D}{I:ai}{st:Store}{Q:D->Store->Prop}:Wp (ko g g' fa fb fc I st) Q↔Wp (fa I st) λa st1=>Wp (fb I st1) λb st2=>Wp (g a b st2) λz st3=>(z=.bl true/\Wp (fc I st3) λc kq=>Wp (g' b c kq) Q)\/(z=.bl false/\Q (.bl false) st3):=by unfold ko;rw[cz];constructor;rintro⟨a,st1,e1,b,st2,e2,h⟩;obtain⟨b',GR,uZ,h'⟩:=bq e2;obtain⟨z,st3,e3,h''⟩:=bq h';refine⟨a,st1,e1,b',GR,uZ,z,st3,e3,?_⟩;split at h'';obtain⟨c,kq,e4,e5⟩:=bq h'';exact .inl ⟨rfl,c,kq,e4,b,st2,e5,h⟩;cases h'';exact .inr ⟨rfl,h⟩;cases h'';rintro⟨a,st1,e1,b,st2,e2,z,st3,e3,⟨rfl,c,kq,e4,v,mW,e5,h⟩|⟨rfl,h⟩⟩;refine⟨a,st1,e1,v,mW,?_,h⟩;simp[bnd,e2,e3,e4,e5];refine⟨a,st1,e1,.bl false,st3,?_,h⟩;simp[bnd,e2,e3]
end
def QC{K:Zfr}{x:Str}{C0:Addr}{R:Addr->Prop}(hn:PySem.W.nsIn K mainGlobals x=some (some (.ref C0)))(k:R C0):∀c C,kn x c=true->PySem.W.nsIn K mainGlobals c=some (some (.ref C))->R C:=λc C h n=>by
 have e:c=x:=of_decide_eq_true h;subst e;rw[hn]at n;cases n;exact k
end L4
namespace L2
open PySem PySem.Spec
end L2
namespace L4
open PySem PySem.Spec L2
section
variable {K:Zfr}
def QD{n:Nat}{F:List D->Dm D}{ta:TA}{fa:ai->Dm (List D)}(ha:kW K ta fa)(hn:∀I st as st',fa I st=some (as,st')->as.length=n):DI K (λW=>ow (nR (ny K n F) W ta)) (iu F fa):=by intro L G H I st fl st' E W l rs e q;obtain⟨as,st1,e1,e⟩:=bq e;obtain⟨b,st2,e2,e⟩:=bq e;refine ha L G H I st as st1 _ l rs e1 λvs H1 L1 m1 l1 r1=>⟨by rw[r1.length];exact hn _ _ _ _ e1,L1,st1,as,b,st2,l1,r1,e2,λhr a H3 L3 m3 l3 r3=>?_,λhr v H3 L3 m3 l3 r3=>?_⟩;rw[if_pos hr]at e;cases e;exact⟨a,rfl,q.1 hr a H3 L3 (m1.trans m3) l3 r3⟩;rw[hr,if_neg Tb]at e;cases e;exact q G H3 L3 (m1.trans m3) l3 (rs.mn (m1.trans m3))
end
section
variable {K:Zfr}
def QE{n i:Nat}{F:List D->Dm D}{ta:TA}{fa:ai->Dm (List D)}{E0:XK}(ha:kW K ta fa)(hn:∀I st as st',fa I st=some (as,st')->as.length=n):nu K (λa H'=>E0 (.ref a) none H') (nE (kP (ny K n F) [] E0 ta) (jH i)) (lh F fa i):=by intro L G H I st fl st' E l rs e q;obtain⟨as,st1,e1,e⟩:=bq e;obtain⟨b,st2,e2,e⟩:=bq e;refine ha L G H I st as st1 _ l rs e1 λvs H1 L1 m1 l1 r1=>⟨?_,L1,st1,as,b,st2,l1,?_,e2,λhr a H3 L3 m3 l3 r3=>?_,λhr v H3 L3 m3 l3 r3=>?_⟩;rw[T5,r1.length];exact hn _ _ _ _ e1;rw[T5];exact r1;rw[if_pos hr]at e;cases e;exact q.1 hr a H3 L3 (m1.trans m3) l3 r3;rw[hr,if_neg Tb]at e;cases e;exact q _ H3 L3 (m1.trans m3) l3 ((rs.mn (m1.trans m3)).set r3)
end
section
variable {K:Zfr}
def AV{C:Addr}{c f1:Str}{E0:XK}{ta:TA}{fa:ai->Dm (List D)}(ha:kW K ta fa)(hn:∀I st as st',fa I st=some (as,st')->as.length=1)(hc:PySem.W.nsIn K mainGlobals c=some (some (.ref C)))(es:nS K C)
  (t1:PySem.W.takerIn K C f1=some none) (hm:PySem.W.mroIn K C (.type "BaseException")=some true) (ht:PySem.W.typeIn K (.ref C)=some (.type "type")) :
  nu K (λa H'=>E0 (.ref a) none H') (lK K (ke C (lL K f1) ta) E0) (b9 c [f1] fa):=by
 intro L G H I st fl st' E l rs e q;obtain⟨ds,st1,e1,e⟩:=bq e;cases e;refine ha L G H I st ds st1 _ l rs e1 λvs H1 L1 m1 l1 r1=>?_;have hl:=hn _ _ _ _ e1;have hv:vs.length=1:=by rw[r1.length];exact hl
 match vs,ds,r1,hl,hv with
 |[v1],[d1],.cons a1 .nil,_,_ =>
  refine⟨(show 1<=10 by decide),λa hna=>⟨a,C,(none,true),v1,rfl,h8,es,t1,λd hd da=>⟨rfl,a,C,some d,rfl,?_,hm,ht,λH2 y=>?_⟩⟩⟩;rw[b8 (Ne.symm da),h8];have hd1:H1 d=none:=by rw[b8 da]at hd;exact hd
  rw[sC]at y;obtain⟨l2,m2⟩:=l1.newX (c:=c) (C:=C) (fs:=[(f1,d1)]) (ws:=[(f1,v1)]) hna hd1 da hc λf e h=>by
   simp only[Uk,List.lookup_nil]at h ⊢;by_cases z1:(f == f1)=true;rw[z1]at h;cases h;rw[z1];exact⟨v1,rfl,a1⟩;have z1:(f == f1)=false:=by simpa using z1
   rw[z1]at h;cases h
  exact q.1 GJ a H2 (L1 ++ [a]) ((m1.trans m2).trans (Mn.xs y)) (l2.xs y) (.ref (newR l1))
end
section
variable {K:Zfr}{L:List Addr}{H:Hp}{st:Store}{a:Addr}
def Rl.AW{C d:Addr}{c:Str}{fs:List (Str×D)}{ws:List (Str×V)}{kb:Bool}(l:Rl K L H st)(ha:H a=none)(hd:H d=none)(da:d≠a)(hc:PySem.W.nsIn K mainGlobals c=some (some (.ref C)))(hw:∀f e,fs.lookup f=some e->∃v,ws.lookup f=some v/\Rp K L H v e)(hk:nC fs=true->kb=true):
  Rl K (L ++ [a]) (upd (upd H a (XO a C (some d) (none,kb))) d (.xd ws)) (st ++ [.exc c fs])/\Mn K L H (L ++ [a]) (upd (upd H a (XO a C (some d) (none,kb))) d (.xd ws)):=by
 rw[GN (Ne.symm da)];have m1:Mn K L H L (upd H d (.xd ws)):=Mn.same (cL.up hd);have l1:=l.same (cL.up (o:=.xd ws) hd);have ha1:upd H d (.xd ws) a=none:=by rw[b8 (Ne.symm da)];exact ha
 have m2:Mn K L (upd H d (.xd ws)) (L ++ [a]) (upd (upd H d (.xd ws)) a (XO a C (some d) (none,kb))):=Mn.new ha1;refine⟨l1.new ha1 ⟨C,some d,(none,kb),hc,h8,⟨ws,by rw[b8 da,h8],λf e h=>?_⟩,hk⟩,m1.trans m2⟩;obtain⟨v,h1,h2⟩:=hw f e h;exact⟨v,h1,h2.mn (m1.trans m2)⟩
abbrev o3(f:ai->Dm Fl)(sub:Str->Bool)(c f1:Str)(fa:ai->Dm (List D)):ai->Dm Fl:=λI st=>bnd (f I st) λfl st1=>match fl with
 |.rt (.ref j)=>match st1[j]? with
  |some (.exc c' _)=>if sub c'=true then bnd (fa I st1) (λds st2=>match ds,st2[j]? with
   |[d],some (.exc _ gs)=>if nC gs=true then some (.rt (.ref st2.length),st2 ++ [.exc c [(f1,d),(f1,d)]])else none
   |_,_=>none)else none
  |_=>some (.rt (.ref j),st1)
 |x=>some (x,st1)
def QF{t:(St->Addr->Hp->Prop)->TS}{f:ai->Dm Fl}{sub:Str->Bool}{F C:Addr}{c f1:Str}{E0:XK}{ta:TA}{fa:ai->Dm (List D)}(hf:DI K t f)(ha:kW K ta fa)(hsub:∀c C,sub c=true->PySem.W.nsIn K mainGlobals c=some (some (.ref C))->PySem.W.mroIn K C (.ref F)=some true)
  (hc:PySem.W.nsIn K mainGlobals c=some (some (.ref C))) (es:nS K C) (t1:PySem.W.takerIn K C f1=some none) (hm:PySem.W.mroIn K C (.type "BaseException")=some true) (ht:PySem.W.typeIn K (.ref C)=some (.type "type")) :
  nu K (λa H'=>E0 (.ref a) none H') (qk K t F λa=>oN K a (ke C (lL K f1) ta) E0) (o3 f sub c f1 fa):=by
 intro L G H I st fl st' E l rs e q;obtain⟨x,st1,e1,e⟩:=bq e;refine hf L G H I st x st1 E _ l rs e1 ?_;cases x with
 |nx I1=>cases e;exact q
 |bk I1=>cases e;exact q
 |ct I1=>cases e;exact q
 |rt d =>
  refine⟨λhr a H' L' m' l' r'=>?_,λhr=>?_⟩
  ·obtain⟨j,c',gs,rfl,hj⟩:=GH hr
   simp only[hj]at e;split at e
   ·next AX =>
    obtain⟨ds,st2,e2,e⟩:=bq e;split at e
    ·next d1 c2 DK hj2 =>
     split at e
     ·next hn2 =>
      cases e;cases r' with
      |ref qC =>
       obtain⟨C',dx,tr,hn,ea,_⟩:=l'.obj j a _ qC hj;refine⟨C',dx,tr,ea,hsub c' C' AX hn,ha L' G H' I st1 [d1] st2 _ l' (rs.mn m') e2 λvs H1 L1 m1 l1 r1=>?_⟩;obtain⟨v1,rfl,rv⟩:=r1.one';obtain⟨Ca,QG,⟨QH,kb⟩,hna,GS,hq1⟩:=l1.obj j a _ (m1.r _ _ qC) hj2;obtain rfl:kb=true:=hq1.2 hn2;refine⟨(show 1<=10 by decide),λb hb=>?_⟩;have ab:a≠b:=λz=>by rw[<- z,GS]at hb;cases hb
       refine⟨b,C,(none,true),v1,rfl,h8,es,t1,λd hd db=>?_⟩;have hd1:H1 d=none:=by rw[b8 db]at hd;exact hd
       have ad:a≠d:=λz=>by rw[<- z,GS]at hd1;cases hd1
       refine⟨rfl,b,C,some d,Ca,QG,QH,rfl,ab,by rw[b8 (Ne.symm db),h8],by rw[b8 ad,sC,b8 ab];exact GS,hm,ht,λH2 y=>?_⟩;rw[sC,GN db,sC]at y
       obtain⟨l2,m2⟩:=l1.AW (c:=c) (C:=C) (fs:=[(f1,d1),(f1,d1)]) (ws:=[(f1,v1)]) (kb:=false) hb hd1 db hc (λf e h=>by
        simp only[Uk,List.lookup_nil]at h ⊢;by_cases z1:(f == f1)=true
        ·rw[z1]at h;cases h;rw[z1];exact⟨v1,rfl,rv⟩
        ·have z1:(f == f1)=false:=by simpa using z1
         rw[z1]at h;cases h) (λz=>by unfold nC at z;simp at z)
       exact q.1 GJ b H2 (L1 ++ [b]) (((m'.trans m1).trans m2).trans (Mn.xs y)) (l2.xs y) (.ref (newR l1))
     ·cases e
    ·cases e
   ·cases e
  ·have e':fl=.rt d/\st'=st1:=by
    cases d with
    |ref j =>
     dsimp only at e;split at e
     ·next c gs hj=>simp[aE,hj]at hr
     ·cases e;exact⟨rfl,rfl⟩
    |_=>cases e;exact⟨rfl,rfl⟩
   obtain⟨rfl,rfl⟩:=e';exact q.2 hr
abbrev lY(e:ai->Dm D)(F:List D->Dm D)(fa:ai->Dm (List D))(i:Nat):ai->Dm Fl:=λI st=>bnd (e I st) λd gW=>bnd (fa I gW) λas st1=>bnd (F as st1) λb st2=>if aE b st2=true then some (.rt b,st2)else some (.nx (I.set i (some (.tup [d,b]))),st2)
def QI{n i:Nat}{F:List D->Dm D}{te:TE}{fe:ai->Dm D}{ta:TA}{fa:ai->Dm (List D)}{E0:XK}(he:dv K te fe)(ha:kW K ta fa)(hn:∀I st as st',fa I st=some (as,st')->as.length=n):
  nu K (λa H'=>E0 (.ref a) none H') (nE (rm (jI te (jI (kP (ny K n F) [] E0 ta) pV))) (jH i)) (lY fe F fa i):=by
 intro L G H I st fl st' E l rs e q;obtain⟨d,gW,e0,e⟩:=bq e;obtain⟨as,st1,e1,e⟩:=bq e;obtain⟨b,st2,e2,e⟩:=bq e;refine he L G H I st d gW _ l rs e0 λv0 H0 L0 m0 l0 r0=>?_;refine ha L0 G H0 I gW as st1 _ l0 (rs.mn m0) e1 λvs H1 L1 m1 l1 r1=>⟨?_,L1,st1,as,b,st2,l1,?_,e2,λhr a H3 L3 m3 l3 r3=>?_,λhr v H3 L3 m3 l3 r3=>?_⟩;rw[T5,r1.length];exact hn _ _ _ _ e1;rw[T5];exact r1;rw[if_pos hr]at e;cases e;exact q.1 hr a H3 L3 ((m0.trans m1).trans m3) l3 r3;rw[hr,if_neg Tb]at e;cases e;refine⟨by show 2<=sizeLine;decide,λp hp=>?_⟩;have m4:Mn K L3 H3 L3 (upd H3 p (.tup [v0,v])):=Mn.same (cL.up hp);have mm:=((m0.trans m1).trans m3).trans m4;exact q _ _ L3 mm (l3.same (cL.up hp)) ((rs.mn mm).set (.tup (df.of h8) (.cons (r0.mn ((m1.trans m3).trans m4)) (.cons (r3.mn m4) .nil))))
end
section
variable {st:Store}{I:ai}{N B C:ai->Store->Prop}{R:D->Store->Prop}
def QJ{f:ai->Dm Fl}{sub:Str->Bool}{c f1:Str}{fa:ai->Dm (List D)}(h:Ws (f I st) N B C (λd s=>(aE d s=false->R d s)/\∀j c' gs,d=.ref j->s[j]?=some (.exc c' gs)->sub c'=true/\Wp (fa I s) λds s2=>∃d1 c2 DK,ds=[d1]/\s2[j]?=some (.exc c2 DK)/\nC DK=true/\R (.ref s2.length) (s2 ++ [.exc c [(f1,d1),(f1,d1)]]))):
  Ws (o3 f sub c f1 fa I st) N B C R:=by
 obtain⟨fl,s1,e,q⟩:=h;unfold o3;rw[e];cases fl with
 |rt d =>
  cases hr:aE d s1 with
  |false =>
   refine⟨.rt d,s1,?_,q.1 hr⟩;cases d with
   |ref j =>
    show(match s1[j]? with|some (.exc c _)=>_|_=>_)=_;split
    ·next c gs hj=>simp[aE,hj]at hr
    ·rfl
   |_=>rfl
  |true =>
   obtain⟨j,c',gs,rfl,hj⟩:=GH hr;obtain⟨hc,ds,s2,e2,d1,c2,DK,rfl,hj2,hn,q2⟩:=q.2 j c' gs rfl hj;exact⟨.rt (.ref s2.length),s2 ++ [.exc c [(f1,d1),(f1,d1)]],by simp[bnd,hj,hc,e2,hj2,hn],q2⟩
 |nx I1=>exact⟨.nx I1,s1,rfl,q⟩
 |bk I1=>exact⟨.bk I1,s1,rfl,q⟩
 |ct I1=>exact⟨.ct I1,s1,rfl,q⟩
def QK{e:ai->Dm D}{F:List D->Dm D}{fa:ai->Dm (List D)}{i:Nat}(h:Wp (e I st) λd s0=>Wp (fa I s0) λas s1=>Wp (F as s1) λb s2=>(aE b s2=true->R b s2)/\(aE b s2=false->N (I.set i (some (.tup [d,b]))) s2)):Ws (lY e F fa i I st) N B C R:=by
 obtain⟨d,s0,e0,as,s1,e1,b,s2,e2,q⟩:=h;unfold lY;rw[e0];cases hr:aE b s2 with
 |true=>refine⟨.rt b,s2,?_,q.1 hr⟩;simp[bnd,e1,e2,hr]
 |false=>refine⟨.nx (I.set i (some (.tup [d,b]))),s2,?_,q.2 hr⟩;simp[bnd,e1,e2,hr]
end
def GU{c:Nat}:∀{A A' B B':List Nat},c ∉ A->c ∉ A'->A ++ c :: B=A' ++ c :: B'->A=A'/\B=B'
 |[],[],B,B',_,_,h=>⟨rfl,(U6 h).2⟩
 |[],a :: A',B,B',_,h2,h=>absurd (show c∈a :: A' by rw[(U6 h).1];exact Te) h2
 |a :: A,[],B,B',h1,_,h=>absurd (show c∈a :: A by rw[(U6 h).1];exact Te) h1
 |a :: A,b :: A',B,B',h1,h2,h=>by
  obtain⟨e1,e2⟩:=U6 h;obtain⟨e3,e4⟩:=GU (A:=A) (A':=A') (λz=>h1 (Tg _ z)) (λz=>h2 (Tg _ z)) e2;exact⟨by rw[e1,e3],e4⟩
abbrev fr(c:Nat)(ws:List Str):Prop:=∀w∈ws,c ∉ w.cps.toList
def qS{c:Nat}(x y:Str)(r:List Str):(Str.join ⟨#[c]⟩ (x :: y :: r)).cps.toList=x.cps.toList ++ c :: (Str.join ⟨#[c]⟩ (y :: r)).cps.toList:=by show(x ++ (⟨#[c]⟩:Str) ++ Str.join ⟨#[c]⟩ (y :: r)).cps.toList=_;simp only[Str.cps_append,Array.toList_append];simp
def Lh{c:Nat}:∀(ws us:List Str),ws≠[]->us≠[]->fr c ws->fr c us->Str.join ⟨#[c]⟩ ws=Str.join ⟨#[c]⟩ us->ws=us
 |[],_,h,_,_,_,_=>absurd rfl h
 |_,[],_,h,_,_,_=>absurd rfl h
 |[w],[u],_,_,_,_,h=>by rw[show w=u from h]
 |[w],u :: u' :: r,_,_,f,_,h=>by
  have e:=congrArg (λz:Str=>z.cps.toList) h;have e:w.cps.toList=(Str.join ⟨#[c]⟩ (u :: u' :: r)).cps.toList:=e;rw[qS]at e;exact absurd (show c∈w.cps.toList by rw[e];simp) (f w Te)
 |w :: w' :: r,[u],_,_,_,f,h=>by
  have e:=congrArg (λz:Str=>z.cps.toList) h;have e:(Str.join ⟨#[c]⟩ (w :: w' :: r)).cps.toList=u.cps.toList:=e;rw[qS]at e;exact absurd (show c∈u.cps.toList by rw[<- e];simp) (f u Te)
 |w :: w' :: r,u :: u' :: r',_,_,f,f',h=>by
  have e:=congrArg (λz:Str=>z.cps.toList) h;have e:(Str.join ⟨#[c]⟩ (w :: w' :: r)).cps.toList=(Str.join ⟨#[c]⟩ (u :: u' :: r')).cps.toList:=e;rw[qS,qS]at e;obtain⟨e1,e2⟩:=GU (f w Te) (f' u Te) e;have e3:w=u:=Str.ext' (Array.toList_inj.mp e1);have e4:Str.join ⟨#[c]⟩ (w' :: r)=Str.join ⟨#[c]⟩ (u' :: r'):=Str.ext' (Array.toList_inj.mp e2);rw[e3,Lh (w' :: r) (u' :: r') (by simp) (by simp) (λx hx=>f x (Tg _ hx)) (λx hx=>f' x (Tg _ hx)) e4]
def QL{c:Nat}{ws:List Str}(h:ws≠[])(f:fr c ws):Txt.split (Str.join ⟨#[c]⟩ ws) ⟨#[c]⟩=ws:=by have hp:=PyProof.Rows.split_pos (Str.join ⟨#[c]⟩ ws) ⟨#[c]⟩;refine Lh _ _ (λz=>by rw[z]at hp;simp at hp) h (StrLaws.split_free _ c) f (StrLaws.join_split _ _)
end L4
namespace L4
open PySem PySem.NumText PySem.W
abbrev tx(i:Int):Str:=toString i
def GV{m:Nat}(h:¬m<10):Nat.toDigits 10 m=Nat.toDigits 10 (m / 10) ++ Nat.toDigits 10 (m % 10):=by have hm:m % 10<10:=Nat.mod_lt m ∅;have t:Nat.toDigits 10 (m / 10) ++ Nat.toDigits 10 (m % 10)=Nat.toDigits 10 (10*(m / 10)+m % 10):=Nat.toDigits_append_toDigits ∅ ⋯ hm;rw[Nat.div_add_mod]at t;exact t.symm
def Li:∀(k m:Nat),m<10 ^ (k+1)->(Nat.toDigits 10 m).length<=k+1
 |0,m,h=>by rw[Uu ⋯];simp
 |k+1,m,h=>by
  by_cases hm:m<10;rw[Uu hm];simp;have ih:=Li k (m / 10) (by rw[Nat.pow_succ]at h;lk);have h2:m % 10<10:=Nat.mod_lt m ∅;rw[GV hm,Td,Uu h2];simp;lk
def AY:∀d:Nat,d<10->1<=d->(Nat.digitChar d).toNat≠48:=by decide
def Lj:∀(f m:Nat),m<=f->1<=m->∃c l,Nat.toDigits 10 m=c :: l/\c.toNat≠48
 |0,m,h,h1=>by lk
 |f+1,m,h,h1=>by
  by_cases hm:m<10;exact⟨_,_,Uu hm,AY m hm h1⟩;obtain⟨c,l,e,hc⟩:=Lj f (m / 10) ⋯ ⋯;exact⟨c,l ++ Nat.toDigits 10 (m % 10),by rw[GV hm,e];rfl,hc⟩
def GW(m:Nat):(tx (m:Int)).cps.toList=(Nat.toDigits 10 m).map Char.toNat:=KIN.signs_num m
def QM(m:Nat):AllDigits (tx (m:Int)).cps.toList:=λc hc=>by
 rw[GW]at hc;obtain⟨ch,hch,e⟩:=T6.mp hc;have r:=PyProof.Rows.digit_range (Nat.isDigit_of_mem_toDigits ∅ ∅ hch);rw[<- e];exact r
def wW{m:Nat}(h1:1<=m)(h2:m<10000):∃c l,(tx (m:Int)).cps.toList=c :: l/\c≠48/\l.length<=3:=by obtain⟨c,l,e,hc⟩:=Lj m m (Tc _) h1;have hl:=Li 3 m ⋯;refine⟨c.toNat,l.map Char.toNat,by rw[GW,e];rfl,hc,?_⟩;rw[e,Tf]at hl;rw[S8];lk
def gZ(x:Str):x.length=x.cps.toList.length:=by simp[Str.length]
def wX{m:Nat}(h1:1<=m)(h2:m<10000):PySem.intText? (tx (m:Int))=some (m:Int):=KIN.num_reads ⋯ ⋯
end L4
namespace L4
open PySem PySem.NumText PySem.W L2
def QN(cs:List Nat)(c:Nat):digitsVal (cs ++ [c])=digitsVal cs*10+(c-48):=by unfold digitsVal;rw[List.foldl_append];rfl
def QO{P:List Nat->Prop}(h0:P [])(h1:∀cs c,P cs->P (cs ++ [c]))(l:List Nat):P l:=by
 have key:∀r:List Nat,P r.reverse:=λr=>by
  induction r with
  |nil=>exact h0
  |cons c r ih=>rw[UT];exact h1 _ _ ih
 have:=key l.reverse
 rwa [List.reverse_reverse]at this
def Lk:∀d:Nat,d<10->(Nat.digitChar d).toNat=d+48:=by decide
def wY(cs:List Nat)(h:AllDigits cs)(h0:cs≠[])(h1:cs.head?≠some 48):(Nat.toDigits 10 (digitsVal cs)).map Char.toNat=cs/\1<=digitsVal cs:=by
 revert h h0 h1;refine QO (P:=λcs=>AllDigits cs->cs≠[]->cs.head?≠some 48->(Nat.toDigits 10 (digitsVal cs)).map Char.toNat=cs/\1<=digitsVal cs) ?_ ?_ cs;intro _ h;exact absurd rfl h;intro cs c ih h h0 h1;have hc:=h c (TJ _ Te);rw[QN];by_cases hn:cs=[];subst hn;have hc0:c≠48:=λz=>h1 (by rw[z];rfl);have e0:digitsVal []=0:=rfl;rw[e0,Nat.zero_mul,Vg,Uu ⋯];refine⟨?_,by lk⟩;show[(Nat.digitChar (c-48)).toNat]=[c];rw[Lk _ ⋯]
 congr 1;lk
 obtain⟨e,g⟩:=ih (λd hd=>h d (Ui _ hd)) hn (λz=>h1 (by
  cases cs with
  |nil=>exact absurd rfl hn
  |cons a r=>exact z))
 refine⟨?_,by lk⟩;rw[GV ⋯,show(digitsVal cs*10+(c-48)) / 10=digitsVal cs by lk,show(digitsVal cs*10+(c-48)) % 10=c-48 by lk,TN,e,Uu ⋯];show cs ++ [(Nat.digitChar (c-48)).toNat]=cs ++ [c];rw[Lk _ ⋯]
 congr 2;lk
def AZ{cs:List Nat}(h:AllDigits cs)(h0:cs≠[])(h1:cs.head?≠some 48):tx (digitsVal cs:Nat)=sO cs:=by rw[AI (tx _),GW,(wY cs h h0 h1).1]
def Ll{z:Str}{n:Nat}(h:n<=z.length):PySem.Txt.slice z none (some (n:Int))=sO (z.cps.toList.take n):=by rw[FE,StrLaws.sliceText_to ⟨by lk,by simp[Str.length]at h ⊢;lk⟩];simp[sO]
def Lm{z:Str}{n:Nat}(h:n<=z.length):PySem.Txt.slice z (some (n:Int)) none=sO (z.cps.toList.drop n):=by
 rw[FE,StrLaws.sliceText_from ⟨by lk,by simp[Str.length]at h ⊢;lk⟩];unfold sO
 congr 2
 refine U5 ?_;rw[UC];lk
def QP{z:Str}:PySem.Txt.slice z (some ((z.length:Int)+1)) none=sO []:=by
 have e:=Lm (z:=z) (n:=z.length) (Tc _);rw[FE]at e ⊢;have e2:Builtin.Str.strSliceIndices (some ((z.length:Int)+1)) none 1 z.length=Builtin.Str.strSliceIndices (some (z.length:Int)) none 1 z.length:=by
  unfold Builtin.Str.strSliceIndices;simp only[];rw[if_neg (show ¬((z.length:Int)+1<0) by lk),if_neg (show ¬((z.length:Int)<0) by lk),show min ((z.length:Int)+1) (z.length:Int)=z.length by lk,show min (z.length:Int) (z.length:Int)=z.length by lk,if_pos ∅,if_pos ∅,if_pos ∅]
 unfold StrLaws.sliceText at e ⊢;rw[e2,e,US (by rw[gZ];exact Tc _)]
def uf{z:Str}{n:Nat}(h:n<=z.length+1):PySem.Txt.slice z (some (n:Int)) none=sO (z.cps.toList.drop n):=by
 by_cases hn:n<=z.length;exact Lm hn;rw[show n=z.length+1 by lk]
 have:=QP (z:=z);rw[show((z.length+1:Nat):Int)=(z.length:Int)+1 by lk,this,US (by rw[gZ];lk)]
abbrev jV(ws:List Str):Nat:=(ws.map (·.length)).sum+ws.length
def GX(a b:List Str):jV (a ++ b)=jV a+jV b:=by unfold jV;simp;lk
def QQ(w:Str):jV [w]=w.length+1:=by simp[jV]
def A2(w:Str)(ws:List Str):jV (w :: ws)=w.length+1+jV ws:=by unfold jV;simp;lk
def GY{c:Nat}:∀(ws:List Str),ws≠[]->(Str.join ⟨#[c]⟩ ws).length+1=jV ws
 |[],h=>absurd rfl h
 |[w],_=>by
  rw[QQ];have:Str.join ⟨#[c]⟩ [w]=w:=by simp[Str.join]
  rw[this]
 |w :: u :: r,_=>by
  have ih:=GY (c:=c) (u :: r) (by simp);rw[gZ,qS,Td,Tf,A2,<- ih,gZ,gZ];lk
def GZ(t:Str)(c:Nat):jV (Txt.split t ⟨#[c]⟩)=t.length+1:=by have hp:=PyProof.Rows.split_pos t ⟨#[c]⟩;rw[<- GY (c:=c) _ (λz=>by rw[z]at hp;simp at hp),StrLaws.join_split]
def Ln(ws:List Str):ws.length<=jV ws:=by unfold jV;lk
def Lo{c:Nat}(ws:List Str):(Str.join ⟨#[c]⟩ ws).length<=jV ws:=by
 by_cases h:ws=[];subst h;have e:Str.join ⟨#[c]⟩ []=(⟨#[]⟩:Str):=by simp[Str.join];rfl
 rw[e];exact Uq _
 have:=GY (c:=c) ws h;lk
abbrev g0(c:Nat):Prop:=c=32\/(48<=c/\c<=57)
abbrev gd(l:List Nat):Prop:=∀c∈l,g0 c
abbrev wd(l:List Nat):Prop:=l=[10]\/(32 ∉ l/\10 ∉ l)
abbrev A0(t:List Nat)(n:Nat):Prop:=∀y,y <:+: t->gd y->y.count 32<=n
abbrev A1(t:List Nat)(n:Nat):Prop:=∀a w b,(a ++ w ++ b) <:+: t->gd a->gd b->wd w->a.count 32+b.count 32<=n
def kK{a b:List Nat}(h:gd (a ++ b)):gd a:=λc hc=>h c (Ui _ hc)
def kx{a b:List Nat}(h:gd (a ++ b)):gd b:=λc hc=>h c (TJ _ hc)
def wZ{a b:List Nat}(h:gd a)(g:gd b):gd (a ++ b):=λc hc=>(Tw.mp hc).elim (h c) (g c)
def mJ:gd []:=λc h=>nomatch h
def A3:wd []:=.inr ⟨TR,TR⟩
def A4{y:List Nat}(h:gd y):10 ∉ y:=λz=>by have:=h _ z;unfold g0 at this;lk
def ug{y P S:List Nat}(h:y <:+: P ++ S):y <:+: P\/y <:+: S\/∃p s,y=p ++ s/\p <:+ P/\s <+: S:=by
 obtain⟨x,z,e⟩:=h;rcases UI.mp e with⟨a,e1,e2⟩|⟨c,e1,e2⟩
 exact .inl ⟨x,a,by rw[e1]⟩;rcases UI.mp e1 with⟨a,e3,e4⟩|⟨d,e3,e4⟩
 exact .inr (.inr ⟨a,c,e4,⟨x,e3.symm⟩,⟨z,e2.symm⟩⟩);exact .inr (.inl ⟨d,z,by rw[e2,e4]⟩)
def DL{s P S:List Nat}(h:s <+: P ++ S):s <+: P\/∃r,s=P ++ r/\r <+: S:=by
 obtain⟨z,e⟩:=h;rcases UI.mp e with⟨a,e1,e2⟩|⟨c,e1,e2⟩
 exact .inl ⟨a,e1.symm⟩;exact .inr ⟨c,e1,⟨z,e2.symm⟩⟩
def G0{s P S:List Nat}(h:s <:+ P ++ S):s <:+ S\/∃r,s=r ++ S/\r <:+ P:=by
 obtain⟨x,e⟩:=h;rcases UI.mp e with⟨a,e1,e2⟩|⟨c,e1,e2⟩
 exact .inr ⟨a,e2,⟨x,e1.symm⟩⟩;exact .inl ⟨c,e2.symm⟩
def nz{y t:List Nat}(h:y <:+: t):y.count 32<=t.count 32:=h.sublist.count_le 32
def A5{w:List Nat}(h:32 ∉ w):w.count 32=0:=U1.mpr h
def G1{c:Nat}{y u v:List Nat}(h:y <:+: u ++ c :: v)(hc:c ∉ y):y <:+: u\/y <:+: v:=by
 rcases ug h with h|h|⟨p,s,rfl,hp,hs⟩
 exact .inl h;rw[<- List.singleton_append]at h;rcases ug h with h|h|⟨p,s,rfl,hp,hs⟩
 obtain⟨x,z,e⟩:=h;cases y with
 |nil=>exact .inl (List.nil_infix)
 |cons d y =>
  have:d∈[c]:=by rw[<- e];simp
  rw[TK.mp this]at hc;exact absurd Te hc
 exact .inr h;cases p with
 |nil=>exact .inr hs.isInfix
 |cons d p =>
  have:d∈[c]:=hp.subset Te;rw[TK.mp this]at hc;exact absurd (by simp) hc
 cases s with
 |nil=>rw[T5];exact .inl hp.isInfix
 |cons d s =>
  obtain⟨z,e⟩:=hs;cases e;exact absurd (by simp) hc
def yg{t:List Nat}{n:Nat}(h:A1 t n):A0 t n:=λy hy g=>by
 have:=h y [] [] (by simpa using hy) g mJ A3;lk
def A0.mono{t:List Nat}{n m:Nat}(h:A0 t n)(l:n<=m):A0 t m:=λy hy g=>TF (h y hy g) l
def A1.mono{t:List Nat}{n m:Nat}(h:A1 t n)(l:n<=m):A1 t m:=λa w b hy g1 g2 g3=>TF (h a w b hy g1 g2 g3) l
def A6{t:List Nat}:A1 t (t.count 32):=λa w b h _ _ _=>by
 have:=nz h;rw[Tx,Tx]at this;lk
def A7{t:List Nat}{n:Nat}(h:A0 t n):A1 t (n+n):=λa w b hy g1 g2 _=>by
 have h1:=h a (Vq ⟨[],w ++ b,by simp⟩ hy) g1;have h2:=h b (Vq ⟨a ++ w,[],by simp⟩ hy) g2;lk
structure lj(t t':List Nat):Prop where
 ed:∃P m m' S,t=P ++ m ++ S/\t'=P ++ m' ++ S/\(∃a w b,m=a ++ w ++ b/\gd a/\gd b/\wd w)/\m'.count 32<=1/\(m'.length<=12\/∃w,m'=32 :: w/\w.length<=P.length)/\∀c∈m',c∈P\/c<127
structure o4(t t':List Nat):Prop where
 ed:∃P u Q v S,t=P ++ u ++ Q ++ v ++ S/\t'=P ++ v ++ Q ++ u ++ S/\(32 ∉ u/\10 ∉ u)/\(32 ∉ v/\10 ∉ v)
def lj.ctx{t t':List Nat}(X Y:List Nat)(h:lj t t'):lj (X ++ t ++ Y) (X ++ t' ++ Y):=by
 obtain⟨P,m,m',S,rfl,rfl,h1,h2,h3,h4⟩:=h.ed;refine⟨X ++ P,m,m',S ++ Y,by simp,by simp,h1,h2,?_,λc hc=>?_⟩;rcases h3 with h3|⟨w,e,l⟩
 exact .inl h3;exact .inr ⟨w,e,by rw[Td];lk⟩;rcases h4 c hc with h|h
 exact .inl (TJ _ h);exact .inr h
def o4.ctx{t t':List Nat}(X Y:List Nat)(h:o4 t t'):o4 (X ++ t ++ Y) (X ++ t' ++ Y):=by obtain⟨P,u,Q,v,S,rfl,rfl,h1,h2⟩:=h.ed;exact⟨X ++ P,u,Q,v,S ++ Y,by simp,by simp,h1,h2⟩
def lj.a0{t t':List Nat}{n:Nat}(h:lj t t')(g:A1 t n):A0 t' (n+1):=by
 obtain⟨P,m,m',S,rfl,rfl,⟨a,w,b,rfl,ga,gb,gw⟩,h2,_,_⟩:=h.ed;have g':=yg g;have hP:∀y,y <:+: P->gd y->y.count 32<=n:=λy hy k=>g' y (hy.trans ⟨[],a ++ w ++ b ++ S,by simp⟩) k;have hS:∀y,y <:+: S->gd y->y.count 32<=n:=λy hy k=>g' y (hy.trans ⟨P ++ (a ++ w ++ b),[],by simp⟩) k;intro y hy k;rw[Uv]at hy;rcases ug hy with hy|hy|⟨p,s,rfl,hp,hs⟩
 have:=hP y hy k;lk
 rcases ug hy with hy|hy|⟨p,s,rfl,hp,hs⟩
 have:=nz hy;lk
 have:=hS y hy k;lk
 have h1:=nz hp.isInfix;have h3:=hS s hs.isInfix (kx k);rw[Tx];lk;have k1:=kK k;rcases DL hs with hs|⟨r,rfl,hr⟩
 have h1:=nz hs.isInfix;have h3:=hP p hp.isInfix k1;rw[Tx];lk;obtain⟨x,rfl⟩:=hp;obtain⟨z,rfl⟩:=hr;have:=g (p ++ a) w (b ++ r) ⟨x,z,by simp⟩ (wZ k1 ga) (wZ gb (kx (kx k))) gw;simp only[Tx]at this ⊢;lk
def o4.a0{t t':List Nat}{n:Nat}(h:o4 t t')(g:A1 t n):A0 t' n:=by
 obtain⟨P,u,Q,v,S,rfl,rfl,hu,hv⟩:=h.ed;have g':=yg g;have cu:=A5 hu.1;have cv:=A5 hv.1;have hP:∀y,y <:+: P->gd y->y.count 32<=n:=λy hy k=>g' y (hy.trans ⟨[],u ++ Q ++ v ++ S,by simp⟩) k;have hQ:∀y,y <:+: Q->gd y->y.count 32<=n:=λy hy k=>g' y (hy.trans ⟨P ++ u,v ++ S,by simp⟩) k;have hS:∀y,y <:+: S->gd y->y.count 32<=n:=λy hy k=>g' y (hy.trans ⟨P ++ u ++ Q ++ v,[],by simp⟩) k;have qs:∀q s,q <:+ Q->s <+: S->gd q->gd s->q.count 32+s.count 32<=n:=λq s hq hs k1 k2=>by
  obtain⟨x,rfl⟩:=hq;obtain⟨z,rfl⟩:=hs;exact g q v s ⟨P ++ u ++ x,z,by simp⟩ k1 k2 (.inr hv)
 have pq:∀p q,p <:+ P->q <+: Q->gd p->gd q->p.count 32+q.count 32<=n:=λp q hp hq k1 k2=>by
  obtain⟨x,rfl⟩:=hp;obtain⟨z,rfl⟩:=hq;exact g p u q ⟨x,z ++ v ++ S,by simp⟩ k1 k2 (.inr hu)
 intro y hy k;rw[show P ++ v ++ Q ++ u ++ S=(P ++ v) ++ (Q ++ (u ++ S)) by simp]at hy;rcases ug hy with hy|hy|⟨l,r,rfl,hl,hr⟩
 rcases ug hy with hy|hy|⟨p,s,rfl,hp,hs⟩
 exact hP y hy k
 have:=nz hy;lk
 have h1:=hP p hp.isInfix (kK k);have h2:=nz hs.isInfix;rw[Tx];lk;rcases ug hy with hy|hy|⟨q,s,rfl,hq,hs⟩
 exact hQ y hy k;rcases ug hy with hy|hy|⟨p,s,rfl,hp,hs⟩
 have:=nz hy;lk
 exact hS y hy k;have h1:=hS s hs.isInfix (kx k);have h2:=nz hp.isInfix;rw[Tx];lk;rcases DL hs with hs|⟨r,rfl,hr⟩
 have h1:=hQ q hq.isInfix (kK k);have h2:=nz hs.isInfix;rw[Tx];lk
 have:=qs q r hq hr (kK k) (kx (kx k))
 simp only[Tx];lk;have kl:=kK k;have kr:=kx k;rcases DL hr with hr|⟨r2,rfl,hr2⟩
 rcases G0 hl with hl|⟨p,rfl,hp⟩
 have h1:=hQ r hr.isInfix kr;have h2:=nz hl.isInfix;rw[Tx];lk
 have:=pq p r hp hr (kK kl) kr
 simp only[Tx];lk;have kQ:=kK kr;rcases DL hr2 with hr2|⟨s,rfl,hs⟩
 have h0:=nz hr2.isInfix;rcases G0 hl with hl|⟨p,rfl,hp⟩
 have h1:=hQ Q (List.infix_refl _) kQ;have h2:=nz hl.isInfix;simp only[Tx];lk
 have:=pq p Q hp (UM _) (kK kl) kQ
 simp only[Tx];lk;have ks:=kx (kx kr);have ku:=kK (kx kr);rcases G0 hl with hl|⟨p,rfl,hp⟩
 have h2:=nz hl.isInfix
 have:=qs Q s (List.suffix_refl _) hs kQ ks;simp only[Tx];lk
 obtain⟨x,rfl⟩:=hp;obtain⟨z,rfl⟩:=hs;have:=g' (p ++ u ++ Q ++ v ++ s) ⟨x,z,by simp⟩ (wZ (wZ (wZ (wZ (kK kl) ku) kQ) (kx kl)) ks);simp only[Tx]at this ⊢;lk
def lj.ct{t t':List Nat}(h:lj t t'):t'.count 32<=t.count 32+1:=by obtain⟨P,m,m',S,rfl,rfl,_,h2,_,_⟩:=h.ed;simp only[Tx];lk
def o4.ct{t t':List Nat}(h:o4 t t'):t'.count 32<=t.count 32+1:=by obtain⟨P,u,Q,v,S,rfl,rfl,hu,hv⟩:=h.ed;simp only[Tx];lk
abbrev Wb(t:List Nat)(n:Nat):Prop:=∀y,y <:+: t->32 ∉ y->10 ∉ y->y.length<=n
def lj.wb{t t':List Nat}(h:lj t t'):Wb t' (t.length+12):=λy hy h1 _=>by
 obtain⟨P,m,m',S,rfl,rfl,_,_,h3,_⟩:=h.ed;rcases h3 with h3|⟨w,rfl,l⟩
 have:=hy.length_le
 simp only[Td]at this ⊢;lk;rw[Uv,List.cons_append]at hy;rcases G1 hy h1 with hy|hy
 have:=hy.length_le
 simp only[Td]at this ⊢;lk
 have:=hy.length_le
 simp only[Td]at this ⊢;lk
def o4.len{t t':List Nat}(h:o4 t t'):t'.length=t.length:=by obtain⟨P,u,Q,v,S,rfl,rfl,_,_⟩:=h.ed;simp only[Td];lk
def lj.len{t t':List Nat}(h:lj t t'):t'.length<=2*t.length+12:=by
 obtain⟨P,m,m',S,rfl,rfl,_,_,h3,_⟩:=h.ed;rcases h3 with h3|⟨w,rfl,l⟩
 simp only[Td];lk;simp only[Td,Tf];lk
abbrev dy(l:List Nat):Prop:=∀c∈l,c<1114112
def lj.ok{t t':List Nat}(h:lj t t')(k:dy t):dy t':=λc hc=>by
 obtain⟨P,m,m',S,rfl,rfl,_,_,_,h4⟩:=h.ed;rcases Tw.mp hc with hc|hc
 rcases Tw.mp hc with hc|hc
 exact k c (by simp[hc]);rcases h4 c hc with h|h
 exact k c (by simp[h]);lk;exact k c (by simp[hc])
def o4.ok{t t':List Nat}(h:o4 t t')(k:dy t):dy t':=λc hc=>by
 obtain⟨P,u,Q,v,S,rfl,rfl,_,_⟩:=h.ed;refine k c ?_;simp only[Tw]at hc ⊢;rcases hc with(((h|h)|h)|h)|h<;>simp[h]
def kL{c:Nat}(w:Str)(C:List Str):∀A:List Str,(Str.join ⟨#[c]⟩ (A ++ w :: C)).cps.toList=A.flatMap (λx=>x.cps.toList ++ [c]) ++ w.cps.toList ++ C.flatMap (λx=>c :: x.cps.toList)
 |[]=>by
  show(Str.join ⟨#[c]⟩ (w :: C)).cps.toList=w.cps.toList ++ _
  induction C generalizing w with
  |nil =>
   have:Str.join ⟨#[c]⟩ [w]=w:=by simp[Str.join]
   rw[this];simp
  |cons u C ih=>rw[qS,ih u];simp
 |[a]=>by
  show(Str.join ⟨#[c]⟩ (a :: w :: C)).cps.toList=_;rw[qS];have:=kL (c:=c) w C [];simp only[List.nil_append,List.flatMap_nil]at this;rw[this];simp
 |a :: b :: A=>by
  show(Str.join ⟨#[c]⟩ (a :: b :: (A ++ w :: C))).cps.toList=_;rw[qS];have:=kL (c:=c) w C (b :: A);rw[List.cons_append]at this;rw[this];simp
def QR{c:Nat}{ws:List Str}{w:Str}(h:w∈ws):w.cps.toList <:+: (Str.join ⟨#[c]⟩ ws).cps.toList:=by obtain⟨A,C,rfl⟩:=List.append_of_mem h;rw[kL];exact⟨_,_,rfl⟩
def G2{c:Nat}:(Str.join ⟨#[c]⟩ []).cps.toList=[]:=by
 have e:Str.join ⟨#[c]⟩ []=(⟨#[]⟩:Str):=by simp[Str.join];rfl
 rw[e]
def DM{c:Nat}{y:List Nat}(hc:c ∉ y):∀{ws:List Str},y <:+: (Str.join ⟨#[c]⟩ ws).cps.toList->y=[]\/∃w∈ws,y <:+: w.cps.toList
 |[],h=>by
  rw[G2]at h;exact .inl (List.infix_nil.mp h)
 |[w],h=>by
  have:Str.join ⟨#[c]⟩ [w]=w:=by simp[Str.join]
  rw[this]at h;exact .inr ⟨w,Te,h⟩
 |w :: u :: r,h=>by
  rw[qS]at h;rcases G1 h hc with h|h
  exact .inr ⟨w,Te,h⟩;rcases DM hc (ws:=u :: r) h with h|⟨x,hx,h⟩
  exact .inl h;exact .inr ⟨x,Tg _ hx,h⟩
abbrev bl(w:Str):Nat:=w.cps.toList.count 32
def G3:∀(ws:List Str),bl (Str.join ⟨#[10]⟩ ws)=(ws.map bl).sum
 |[]=>by unfold bl;rw[G2];rfl
 |[w]=>by
  have:Str.join ⟨#[10]⟩ [w]=w:=by simp[Str.join]
  rw[this];simp
 |w :: u :: r=>by
  have:=G3 (u :: r);unfold bl at this ⊢;rw[qS,Tx,List.count_cons,this];simp
def qT{t r:Str}{c:Nat}(h:r∈Txt.split t ⟨#[c]⟩):r.cps.toList <:+: t.cps.toList:=by
 have:=QR (c:=c) h
 rwa [StrLaws.join_split]at this
def DN{t r:Str}{c:Nat}(h:r∈Txt.split t ⟨#[c]⟩):c ∉ r.cps.toList:=StrLaws.split_free t c r h
abbrev rws(t:Str):List Str:=Txt.split t ⟨#[10]⟩
abbrev hW(t:Str):List Str:=Txt.split t ⟨#[32]⟩
def Lp(t:Str):bl t=((rws t).map bl).sum:=by
 have:=G3 (rws t)
 rwa [show Str.join ⟨#[10]⟩ (rws t)=t from StrLaws.join_split _ _]at this
structure Bn(t u:Str):Prop where
 ok:dy u.cps.toList
 len:u.length<=2*t.length+13
 wb:Wb u.cps.toList (t.length+13)
 how:((∀n,A1 t.cps.toList n->A0 u.cps.toList (n+1))/\bl u<=bl t+1)\/((∀n,1<=n->A0 t.cps.toList n->A0 u.cps.toList n)/\∀n,1<=n->(∀r∈rws t,bl r<=n)->bl u<=bl t+n)
def G4{t u:Str}(k:dy t.cps.toList)(h:lj t.cps.toList u.cps.toList):Bn t u:=by have l:=h.len;rw[<- gZ,<- gZ]at l;refine⟨h.ok k,by lk,λy a b c=>?_,.inl ⟨λn=>h.a0,h.ct⟩⟩;have:=h.wb y a b c;rw[<- gZ]at this;lk
def w6{t u:Str}(k:dy t.cps.toList)(h:o4 t.cps.toList u.cps.toList):Bn t u:=by have l:=h.len;rw[<- gZ,<- gZ]at l;refine⟨h.ok k,by lk,λy a b c=>?_,.inl ⟨λn g=>(h.a0 g).mono ⋯,h.ct⟩⟩;have:=a.length_le;rw[<- gZ]at this;lk
def DO{t:Str}{us:List Str}(k:dy t.cps.toList)(h:∀r∈us,r∈rws t\/(bl r<=1/\r.length<=7/\dy r.cps.toList))(hl:jV us<=2*t.length+13)(hb:∀n,1<=n->(∀r∈rws t,bl r<=n)->(us.map bl).sum<=((rws t).map bl).sum+n):Bn t (Str.join ⟨#[10]⟩ us):=by
 refine⟨λc hc=>?_,TF (Lo us) hl,λy hy h1 h2=>?_,.inr ⟨λn n1 g y hy gy=>?_,λn n1 g=>?_⟩⟩;by_cases hn:c=10;lk
 rcases DM (c:=10) (y:=[c]) (by simp;lk) (ws:=us) (by
  obtain⟨a,b,e⟩:=List.append_of_mem hc
  exact⟨a,b,by rw[e];simp⟩)with z|⟨w,hw,z⟩
 cases z;have hm:c∈w.cps.toList:=z.subset (by simp);rcases h w hw with h|h
 exact k c ((qT h).subset hm);exact h.2.2 c hm;rcases DM h2 hy with rfl|⟨w,hw,z⟩
 simp;have z1:=z.length_le;rcases h w hw with h|h
 have z2:=(qT h).length_le;rw[<- gZ,<- gZ]at z2;rw[<- gZ]at z1;lk;have z2:=h.2.1;rw[gZ]at z2;lk;rcases DM (A4 gy) hy with rfl|⟨w,hw,z⟩
 simp;rcases h w hw with h|h
 exact g y (z.trans (qT h)) gy
 have:=nz z
 have:=h.1;unfold bl at this;lk
 rw[G3,Lp];exact hb n n1 g
def w8{A C:List Str}{w:Str}(h:32 ∉ w.cps.toList/\10 ∉ w.cps.toList):lj (Str.join ⟨#[32]⟩ (A ++ w :: C)).cps.toList (Str.join ⟨#[32]⟩ (A ++ C)).cps.toList:=by
 have gb:gd [32]:=λc hc=>.inl (TK.mp hc);cases C with
 |cons c C =>
  rw[kL,kL];exact⟨A.flatMap (λx=>x.cps.toList ++ [32]),w.cps.toList ++ [32],[],c.cps.toList ++ C.flatMap (λx=>32 :: x.cps.toList),by simp,by simp,⟨[],w.cps.toList,[32],by simp,mJ,gb,.inr h⟩,by simp,.inl (by simp),λc hc=>nomatch hc⟩
 |nil =>
  rcases List.eq_nil_or_concat A with rfl|⟨A,u,rfl⟩
  rw[kL,T5,G2];exact⟨[],w.cps.toList,[],[],by simp,by simp,⟨[],w.cps.toList,[],by simp,mJ,mJ,.inr h⟩,by simp,.inl (by simp),λc hc=>nomatch hc⟩;rw[T5,List.concat_eq_append,Uv,List.singleton_append,kL,kL];exact⟨A.flatMap (λx=>x.cps.toList ++ [32]) ++ u.cps.toList,32 :: w.cps.toList,[],[],by simp,by simp,⟨[32],w.cps.toList,[],by simp,gb,mJ,.inr h⟩,by simp,.inl (by simp),λc hc=>nomatch hc⟩
def QS{A C:List Str}{w:Str}(h:32 ∉ w.cps.toList):lj (Str.join ⟨#[32]⟩ (A ++ w :: C)).cps.toList (Str.join ⟨#[32]⟩ (A ++ w :: w :: C)).cps.toList:=by
 rw[kL,kL]
 exact⟨A.flatMap (λx=>x.cps.toList ++ [32]) ++ w.cps.toList,[],32 :: w.cps.toList,C.flatMap (λx=>32 :: x.cps.toList),by simp,by simp,⟨[],[],[],rfl,mJ,mJ,A3⟩,by rw[List.count_cons,A5 h];simp,.inr ⟨_,rfl,by simp⟩,λc hc=>by
  rcases Tp.mp hc with rfl|hc
  exact .inr ∅
  exact .inl (TJ _ hc)⟩
def xa{A C:List Str}{w v:Str}(h:32 ∉ w.cps.toList/\10 ∉ w.cps.toList)(hv:32 ∉ v.cps.toList/\v.cps.toList.length<=12/\∀c∈v.cps.toList,c<127):lj (Str.join ⟨#[32]⟩ (A ++ w :: C)).cps.toList (Str.join ⟨#[32]⟩ (A ++ v :: C)).cps.toList:=by rw[kL,kL];exact⟨_,w.cps.toList,v.cps.toList,_,rfl,rfl,⟨[],w.cps.toList,[],by simp,mJ,mJ,.inr h⟩,by rw[A5 hv.1];lk,.inl hv.2.1,λc hc=>.inr (hv.2.2 c hc)⟩
def QT{A B C:List Str}{u v:Str}(h:32 ∉ u.cps.toList/\10 ∉ u.cps.toList)(g:32 ∉ v.cps.toList/\10 ∉ v.cps.toList):o4 (Str.join ⟨#[32]⟩ (A ++ u :: (B ++ v :: C))).cps.toList (Str.join ⟨#[32]⟩ (A ++ v :: (B ++ u :: C))).cps.toList:=by rw[kL,kL];exact⟨A.flatMap (λx=>x.cps.toList ++ [32]),u.cps.toList,B.flatMap (λx=>32 :: x.cps.toList) ++ [32],v.cps.toList,C.flatMap (λx=>32 :: x.cps.toList),by simp,by simp,h,g⟩
def QU(t:List Nat):lj t t:=⟨t,[],[],[],by simp,by simp,⟨[],[],[],rfl,mJ,mJ,A3⟩,by simp,.inl (by simp),λc hc=>nomatch hc⟩
abbrev A8(r r':Str):Prop:=lj r.cps.toList r'.cps.toList\/o4 r.cps.toList r'.cps.toList
def xb{t r':Str}{A C:List Str}{r:Str}(k:dy t.cps.toList)(e:rws t=A ++ r :: C)(h:A8 r r'):Bn t (Str.join ⟨#[10]⟩ (A ++ r' :: C)):=by
 have et:t.cps.toList=(Str.join ⟨#[10]⟩ (A ++ r :: C)).cps.toList:=by
  rw[<- e,show Str.join ⟨#[10]⟩ (rws t)=t from StrLaws.join_split _ _]
 rcases h with h|h
 refine G4 k ?_;rw[et,kL,kL];exact h.ctx _ _;refine w6 k ?_;rw[et,kL,kL];exact h.ctx _ _
def DP{J:Type}{ws:List J}{i:Nat}(h:i<ws.length):∃A w C,ws=A ++ w :: C/\A.length=i/\ws[i]?=some w:=by refine⟨ws.take i,ws[i],ws.drop (i+1),?_,by rw[Ub];lk,Tj h⟩;rw[List.getElem_cons_drop,Va]
def QV{J:Type}{ws:List J}{i j:Nat}(hi:i<ws.length)(hj:j<ws.length){wi wj:J}(ei:ws[i]?=some wi)(ej:ws[j]?=some wj):(ws.set i wj).set j wi=ws\/∃A B C u v,ws=A ++ u :: (B ++ v :: C)/\(ws.set i wj).set j wi=A ++ v :: (B ++ u :: C):=by
 have key:∀(ws:List J) (i j:Nat) (wi wj:J),i<j->j<ws.length->ws[i]?=some wi->ws[j]?=some wj->∃A B C,ws=A ++ wi :: (B ++ wj :: C)/\A.length=i/\A.length+B.length+1=j:=λws i j wi wj hij hj ei ej=>by
  obtain⟨A,u,D,rfl,hA,e⟩:=DP (ws:=ws) (i:=i) ⋯;rw[ei]at e;cases e;have hd:j-i-1<D.length:=by simp at hj;lk
  obtain⟨B,v,C,rfl,hB,e⟩:=DP hd;have:(A ++ wi :: (B ++ v :: C))[j]?=(B ++ v :: C)[j-i-1]?:=by
   rw[TU ⋯,hA,show j-i=(j-i-1)+1 by lk,List.getElem?_cons_succ];simp
  rw[ej,e]at this;cases this;exact⟨A,B,C,rfl,hA,by lk⟩
 have st:∀(A:List J) (x y:J) (C:List J),(A ++ x :: C).set A.length y=A ++ y :: C:=λA x y C=>by
  rw[List.set_append_right _ _ (Tc _),Vh,List.set_cons_zero]
 rcases Nat.lt_trichotomy i j with h|rfl|h
 ·obtain⟨A,B,C,e,hA,hB⟩:=key ws i j wi wj h hj ei ej
  refine .inr ⟨A,B,C,wi,wj,e,?_⟩;subst e;rw[<- hA,st,show A ++ wj :: (B ++ wj :: C)=(A ++ wj :: B) ++ wj :: C by simp,show j=(A ++ wj :: B).length by simp;lk,st];simp
 ·rw[ei]at ej;cases ej
  left;rw[List.set_set];refine List.ext_getElem? λm=>?_;rw[List.getElem?_set];split
  ·next z=>subst z;exact ei.symm
  ·rfl
 ·obtain⟨A,B,C,e,hA,hB⟩:=key ws j i wj wi h hi ej ei
  refine .inr ⟨A,B,C,wj,wi,e,?_⟩;subst e;rw[show A ++ wj :: (B ++ wi :: C)=(A ++ wj :: B) ++ wi :: C by simp,show i=(A ++ wj :: B).length by simp;lk,st,show(A ++ wj :: B) ++ wj :: C=A ++ wj :: (B ++ wj :: C) by simp,<- hA,st]
def QW{X Y R1 R2:List Nat}{n:Nat}(h1:R1=[114,105,103,104,116] ++ X)(h2:R2=[117,112] ++ Y)(gX:gd X)(gY:gd Y)(cX:X.count 32<=n)(cY:Y.count 32<=n):A1 (R1 ++ 10 :: R2) n:=by
 have n1:10 ∉ R1:=by rw[h1];intro z;rcases Tw.mp z with z|z;exact absurd z ∅;exact A4 gX z
 have n2:10 ∉ R2:=by rw[h2];intro z;rcases Tw.mp z with z|z;exact absurd z ∅;exact A4 gY z
 have c1:R1.count 32<=n:=by rw[h1,Tx,show List.count 32 [114,105,103,104,116]=0 from rfl];lk
 have c2:R2.count 32<=n:=by rw[h2,Tx,show List.count 32 [117,112]=0 from rfl];lk
 intro a w b h ga gb gw;rcases gw with rfl|⟨_,hw⟩
 obtain⟨x,z,e⟩:=h;have e':(x ++ a) ++ 10 :: (b ++ z)=R1 ++ 10 :: R2:=by rw[<- e];simp
 have hc:=congrArg (List.count 10) e';rw[Tx,Tx (l₁:=R1),Vi,Vi,U1.mpr n1,U1.mpr n2]at hc;have hxa:10 ∉ x ++ a:=U1.mp ⋯;obtain⟨e1,e2⟩:=GU hxa n1 e';have hb:b=[]:=by
  cases b with
  |nil=>rfl
  |cons c b =>
   rw[h2]at e2;have e3:c=117:=(U6 e2).1;subst e3;have:=gb 117 Te;unfold g0 at this;lk
 have:(x ++ a).count 32=R1.count 32:=by rw[e1]
 rw[Tx]at this;rw[hb,List.count_nil];lk;have hn:10 ∉ a ++ w ++ b:=by
  simp only[Tw,not_or];exact⟨⟨A4 ga,hw⟩,A4 gb⟩
 rcases G1 h hn with h|h
 have:=nz h
 simp only[Tx]at this;lk
 have:=nz h
 simp only[Tx]at this;lk
abbrev nW(w:Str):Prop:=w.cps.toList≠[]/\(∀c∈w.cps.toList,48<=c/\c<=57)/\¬(w.cps.toList.head?=some 48/\1<w.cps.toList.length)
instance (w:Str):Decidable (nW w):=inferInstanceAs (Decidable (_/\_/\_))
abbrev vl(w:Str):Int:=(digitsVal w.cps.toList:Nat)
def Lq{w:Str}(h:nW w)(hl:w.length<=640):PySem.intText? w=some (vl w):=intText_digits h.2.1 h.1 ⋯
def xc(w:Str):0<=vl w:=Int.natCast_nonneg _
def G5{k:Nat}(h:k<10000):nW (tx (k:Int))/\vl (tx (k:Int))=(k:Int):=by by_cases h0:k=0;subst h0;decide +kernel;obtain⟨c,l,e,hc,hl⟩:=wW ⋯ h;have hd:=QM k;have hn:nW (tx (k:Int)):=⟨by rw[e];simp,hd,by rw[e];simp[hc]⟩;refine⟨hn,?_⟩;have e1:=Lq hn (by rw[gZ,e];simp;lk);rw[wX ⋯ h]at e1;exact(Tq e1).symm
def A9{w:Str}(h:nW w):w=tx (vl w):=by
 obtain⟨h0,h1,h2⟩:=h;by_cases hz:w.cps.toList.head?=some 48;have hl:¬1<w.cps.toList.length:=λz=>h2 ⟨hz,z⟩;have e:w.cps.toList=[48]:=by
  cases hw:w.cps.toList with
  |nil=>exact absurd hw h0
  |cons c l =>
   rw[hw]at hz hl;cases hz;cases l with
   |nil=>rfl
   |cons d l=>simp at hl
 unfold vl;rw[AI w,e];decide +kernel;unfold vl;rw[AZ h1 h0 hz,<- AI]
abbrev jN(n:Nat):List Str:=(aj.upto n).map tx
def G6(n:Nat):(jN n).length=n:=by unfold jN;rw[S8,aj.qN]
def G7{n:Nat}(hn:n<=5000){w:Str}:w∈jN n↔nW w/\vl w<(n:Int):=by unfold jN;rw[T6];constructor;rintro⟨x,hx,rfl⟩;obtain⟨x0,x1⟩:=aj.qm.mp hx;obtain⟨k,rfl⟩:∃k:Nat,x=(k:Int):=⟨x.toNat,by lk⟩;obtain⟨a,b⟩:=G5 (k:=k) ⋯;exact⟨a,by rw[b];exact x1⟩;rintro⟨h1,h2⟩;exact⟨vl w,aj.qm.mpr ⟨xc w,h2⟩,(A9 h1).symm⟩
def xf{n:Nat}(hn:n<=5000){w:Str}(h:w∈jN n):((jN n).idxOf w:Int)=vl w:=by
 have hl:=List.idxOf_lt_length_iff.mpr h;have e:(jN n)[(jN n).idxOf w]=w:=List.getElem_idxOf hl;generalize (jN n).idxOf w=k at hl e ⊢;have e2:(jN n)[k]?=some (tx (k:Int)):=by
  unfold jN;rw[G6]at hl;rw[TC,aj.OV hl];rfl
 rw[Tj hl,e]at e2;rw[G6]at hl;rw[Tq e2,(G5 (k:=k) ⋯).2]
abbrev rN(r h:Str):Option (List Int):=if(hW r).head?=some h/\∀w∈(hW r).tail,nW w then some ((hW r).tail.map vl)else none
abbrev pR(r h:Str):Option (List Int):=if(hW r).head?=some h/\∀w∈(hW r).tail,nW w/\vl w<(((hW r).tail.length:Nat):Int)then some ((hW r).tail.map vl)else none
def G8{r h:Str}{ns:List Int}(e:pR r h=some ns):rN r h=some ns/\(∀w∈(hW r).tail,nW w)/\(hW r).head?=some h/\ns.length=(hW r).tail.length:=by
 unfold pR at e;split at e
 ·next z =>
  cases e;have z2:∀w∈(hW r).tail,nW w:=λw hw=>(z.2 w hw).1;refine⟨?_,z2,z.1,by rw[S8]⟩;unfold rN;rw[if_pos ⟨z.1,z2⟩]
 ·cases e
def Lr{r h:Str}(e:pR r h=none):rN r h=none\/∃ns,rN r h=some ns/\∃x∈ns,(ns.length:Int)<=x:=by
 unfold pR at e;split at e
 ·cases e
 ·next z =>
  by_cases g:(hW r).head?=some h/\∀w∈(hW r).tail,nW w
  ·right
   refine⟨(hW r).tail.map vl,by unfold rN;rw[if_pos g],?_⟩;have:∃w∈(hW r).tail,¬(vl w<(((hW r).tail.length:Nat):Int)):=Classical.byContradiction λk=>z ⟨g.1,λw hw=>⟨g.2 w hw,Classical.byContradiction λq=>k ⟨w,hw,q⟩⟩⟩;obtain⟨w,hw,hv⟩:=this;exact⟨vl w,List.mem_map_of_mem hw,by rw[S8];lk⟩
  ·left
   unfold rN;rw[if_neg g]
def Ba{A C:List Str}{w:Str}{i:Nat}(h:A.length=i):(A ++ w :: C).take i=A/\(A ++ w :: C).drop i=w :: C/\(A ++ w :: C).take (i+1)=A ++ [w]/\(A ++ w :: C).drop (i+1)=C:=by subst h;refine⟨by simp,by simp,?_,by simp⟩;rw[show A ++ w :: C=(A ++ [w]) ++ C by simp];exact List.take_left' (by simp)
def Ls{t v:List Nat}{n m:Nat}(h1:n<=m)(h2:m<=n+1)(hv:v.length<=1)(hc:∀c∈v,c<127):lj t (t.take n ++ v ++ t.drop m):=by
 have e:t=t.take n ++ (t.drop n).take (m-n) ++ t.drop m:=by
  have a:t.drop m=(t.drop n).drop (m-n):=by rw[List.drop_drop,show n+(m-n)=m by lk]
  rw[a,Uv,Va,Va]
 have hm:((t.drop n).take (m-n)).length<=1:=by rw[Ub];lk
 generalize (t.drop n).take (m-n)=x at e hm;refine⟨t.take n,x,v,t.drop m,e,rfl,?_,TF List.count_le_length hv,.inl ⋯,λc h=>.inr (hc c h)⟩
 match x,hm with
 |[],_=>exact⟨[],[],[],rfl,mJ,mJ,A3⟩
 |[c],_ =>
  by_cases a:c=32;exact⟨[c],[],[],rfl,λd hd=>.inl (by rw[TK.mp hd];exact a),mJ,A3⟩;refine⟨[],[c],[],rfl,mJ,mJ,?_⟩;by_cases b:c=10;exact .inl (by rw[b]);exact .inr ⟨λz=>a (TK.mp z).symm,λz=>b (TK.mp z).symm⟩
def DQ(A C:List Str)(r:Str):((A ++ r :: C).map bl).sum=(A.map bl).sum+bl r+(C.map bl).sum:=by simp;lk
def DR(A C:List Str)(r:Str):jV (A ++ r :: C)=jV A+(r.length+1)+jV C:=by rw[GX,A2];lk
def DS(t:Str):jV (rws t)=t.length+1:=GZ t 10
def xg{t r:Str}{A C:List Str}(k:dy t.cps.toList)(e:rws t=A ++ r :: C):Bn t (Str.join ⟨#[10]⟩ (A ++ C)):=by
 have z:=DS t;rw[e,DR]at z;refine DO k (λx hx=>.inl ?_) ?_ λn _ _=>?_;rw[e];simp only[Tw,Tp]at hx ⊢;rcases hx with h|h
 exact .inl h;exact .inr (.inr h);rw[GX];lk;rw[e,DQ,TN,List.sum_append];lk
def QX{t r:Str}{A C:List Str}(k:dy t.cps.toList)(e:rws t=A ++ r :: C):Bn t (Str.join ⟨#[10]⟩ (A ++ r :: r :: C)):=by
 have z:=DS t;rw[e,DR]at z;have hr:r∈rws t:=by rw[e];simp
 refine DO k (λx hx=>.inl ?_) ?_ λn _ h=>?_;rw[e];simp only[Tw,Tp]at hx ⊢;rcases hx with h|h|h|h
 exact .inl h;exact .inr (.inl h);exact .inr (.inl h);exact .inr (.inr h);rw[DR,A2];lk
 have:=h r hr
 rw[e,DQ,DQ,Um,List.sum_cons];lk
def xh{t:Str}(k:dy t.cps.toList):Bn t (Str.join ⟨#[10]⟩ (rws t).reverse):=by
 have z:=DS t;have p:=(List.reverse_perm (rws t));refine DO k (λx hx=>.inl (List.mem_reverse.mp hx)) ?_ λn _ h=>?_
 have:jV (rws t).reverse=jV (rws t):=by unfold jV;rw[VE,List.sum_reverse,Vl]
 lk;rw[VE,List.sum_reverse];lk
def Bb{t v:Str}{A C:List Str}(k:dy t.cps.toList)(e:rws t=A ++ C)(hv:bl v<=1/\v.length<=7/\dy v.cps.toList):Bn t (Str.join ⟨#[10]⟩ (A ++ v :: C)):=by
 have z:=DS t;rw[e,GX]at z;refine DO k (λx hx=>?_) ?_ λn h1 h=>?_;rw[e];simp only[Tw,Tp]at hx ⊢;rcases hx with h|h|h
 exact .inl (.inl h);rw[h];exact .inr hv;exact .inl (.inr h);rw[DR];lk;rw[e,DQ,TN,List.sum_append];lk
end L4
namespace L4
open PySem PySem.Spec L2
abbrev DT(i:Int):Prop:=i.natAbs.log2<1920
abbrev sg:Nat->D->Prop
 |_,.int i=>DT i
 |_,.non=>True
 |_,.str x=>PyData.showable (.str x)=true/\PyData.canLay0 (.str x)=true
 |n+1,.tup ds=>∀d∈ds,sg n d
 |_,_=>False
def Lu:∀{l:List PyData},(∀x∈l,PyData.showable x=true)->PyData.showableAll l=true
 |[],_=>rfl
 |a :: r,h=>by
  show(PyData.showable a && PyData.showableAll r)=true;rw[h a Te,Lu λx hx=>h x (Tg _ hx)];rfl
def Lv:∀{l:List PyData},(∀x∈l,o9 x=true)->pb l=true
 |[],_=>rfl
 |a :: r,h=>by
  show(o9 a && pb r)=true;rw[h a Te,Lv λx hx=>h x (Tg _ hx)];rfl
def Lw{b:Nat}:∀{l:List PyData},(∀x∈l,L2.wD x<=b)->nO l<=l.length*(b+2)
 |[],_=>Uq _
 |a :: r,h=>by
  show L2.wD a+2+nO r<=(r.length+1)*(b+2);have h1:=h a Te;have h2:=Lw λx hx=>h x (Tg _ hx);rw[Nat.add_mul];lk
def Lx:∀(n:Nat) (d:D),sg n d->pU n d
 |n,.int _,_=>by cases n<;>exact True.intro
 |n,.non,_=>by cases n<;>exact True.intro
 |n,.str x,h=>by cases n<;>exact h.2
 |n+1,.tup ds,h=>λd hd=>Lx n d (h d hd)
 |0,.tup ds,h=>h.elim
 |n,.bl _,h=>by cases n<;>exact h.elim
 |n,.ref _,h=>by cases n<;>exact h.elim
 |n,.ty _,h=>by cases n<;>exact h.elim
def Ly:∀(n:Nat) (d:D),sg n d->(eM n d).showable=true/\o9 (eM n d)=true
 |n,.int i,h=>by
  have h:DT i:=by cases n<;>exact h
  have e:eM n (.int i)=.int i:=by cases n<;>rfl
  rw[e];exact⟨by simp only[PyData.showable,decide_eq_true_eq];exact h,by simp only[o9]⟩
 |n,.non,_=>by
  have e:eM n .non=.none:=by cases n<;>rfl
  rw[e];exact⟨by simp only[PyData.showable],by simp only[o9]⟩
 |n,.str x,h=>by
  have h:PyData.showable (.str x)=true/\PyData.canLay0 (.str x)=true:=by cases n<;>exact h
  have e:eM n (.str x)=.str x:=by cases n<;>rfl
  rw[e];exact⟨h.1,by simp only[o9]⟩
 |n+1,.tup ds,h=>by
  have e:eM (n+1) (.tup ds)=.tuple (ds.map (eM n)):=rfl;rw[e];have all:∀x∈ds.map (eM n),x.showable=true/\o9 x=true:=λx hx=>by
   obtain⟨d,hd,rfl⟩:=T6.mp hx;exact Ly n d (h d hd)
  refine⟨?_,?_⟩;simp only[PyData.showable];exact Lu λx hx=>(all x hx).1;simp only[o9];exact Lv λx hx=>(all x hx).2
 |0,.tup ds,h=>h.elim
 |n,.bl _,h=>by cases n<;>exact h.elim
 |n,.ref _,h=>by cases n<;>exact h.elim
 |n,.ty _,h=>by cases n<;>exact h.elim
def QY{st:Store}{Q:D->Store->Prop}{n:Nat}{d:D}(h:sg n d)(hn:n<=15)(hw:L2.wD (eM n d)<=16777216):Wp (ig [d] st) Q↔Q (.str (eM n d).shown) st:=by have a:=Ly n d h;have p:=Lx n d h;have l:=AK n d p;have e:=DE n d p 20 ⋯ st;rw[P6];constructor;rintro⟨q,h1,_,h2⟩;rw[e]at h1;cases h1;exact h2;intro q;exact⟨_,e,⟨a.1,l.1,TF (Je _ a.1 a.2) hw,by lk⟩,q⟩
def DV{n b:Nat}{ds:List D}(h:∀d∈ds,L2.wD (eM n d)<=b):L2.wD (eM (n+1) (.tup ds))<=ds.length*(b+2)+3:=by
 have e:eM (n+1) (.tup ds)=.tuple (ds.map (eM n)):=rfl;rw[e];simp only[L2.wD];have:=Lw (b:=b) (l:=ds.map (eM n)) λx hx=>by
  obtain⟨d,hd,rfl⟩:=T6.mp hx;exact h d hd
 rw[S8]at this;lk
def Lz(n:Nat)(i:Int):L2.wD (eM n (.int i))=1921:=by
 have e:eM n (.int i)=.int i:=by cases n<;>rfl
 exact(congrArg L2.wD e).trans (by simp only[L2.wD])
end L4
namespace My
local macro_rules|`(tactic| w_up)=>`(tactic| first|exact .inl rfl|exact .inr rfl|assumption)
local macro_rules|`(tactic| w_fin)=>`(tactic| decide +kernel)
local macro_rules|`(tactic|walk)=>`(tactic|exact ⟨rfl,rfl,rfl,by w_fin,rfl,by w_fin,by w_fin⟩)
local macro_rules|`(tactic| k_lt $h)=>`(tactic| (refine L4.bJ ?_;intro _ $h;set_option simprocs false in simp only[L4.bh]))
local macro_rules|`(tactic|exists $l,*)=>`(tactic|set_option simprocs false in simp only[L4.bh,$[$l:term],*])
local macro_rules|`(tactic| w_how)=>`(tactic| set_option simprocs false in simp only[L4.bh])
open PySem L2 L4
local macro_rules|`($a<|$b)=>`(@MJ _ _ _ _ _ $a $b (by rfl))
local macro_rules|`($a<|>$b)=>`(@HM _ _ _ _ _ $a $b)
local macro_rules|`($a<*$b<*$c)=>`(@za _ _ _ _ _ _ _ $a $b $c (λ_ _=>rfl))
local macro_rules|`(~~~$a)=>`(@yD _ _ _ $a)
local macro_rules|`($a<*>$b<*>$c)=>`(@yF _ _ _ _ _ _ _ _ $a $b $c)
local macro_rules|`($a&&&$b&&&$c)=>`(@CK _ _ _ _ _ _ _ _ PassesOwn.never rfl $a $b $c (by intro _;rfl))
local macro_rules|`($a>>=$b>>=$c)=>`(@uE (i:=$a) _ _ _ _ _ _ (aG.nd $b) rfl (by w_up) $c (by rfl) (by w_up))
def QZ:∀I st as st',ah I st=some (as,st')->as.length=0:=λ_ _ _ _ h=>JY h
def qD{f1:ai->Dm D}:∀I st as st',ae f1 ah I st=some (as,st')->as.length=1:=Dh QZ
def o6{f1 f2:ai->Dm D}:∀I st as st',ae f2 (ae f1 ah) I st=some (as,st')->as.length=2:=Dh qD
def LA{f1 f2 f3:ai->Dm D}:∀I st as st',ae f3 (ae f2 (ae f1 ah)) I st=some (as,st')->as.length=3:=Dh o6
def gh{X:Cx}{k k':Nat}{f:Addr}{fd:FuncData}{ps:List Str}{sp:Sp}{x:Str}{st:Stmt}{e:Expr}{es:List Expr}{t:TA}{p pos:Pos}(F:aN X.prog X.w X.K X.mg X.base cS k f fd ps sp)(D:Def X.K X.mg x st ps f fd)(hr:cq k' X.A)(hk:k<=k')(hg:Gl X x)(ha:PA X (e :: es) t)(hdb:(x == ("__debug__" : Str))=false:=by decide)(he:starEach (e :: es) X.env=(false,eval e X.env) :: starEach es X.env:=by rfl)(hpl:(backTo pos (starEach es X.env)).any (·.1)=false:=by rfl):PE X (.Call (.Name x p) (e :: es) [] pos) (kP sp [] E0 t):=xP F (hr.mono hk) hg D.m D.F.kp D.b .nil zk ha hdb he hpl
def yh{n:Nat}{us:List Value}(h:us.length=n+1):∃a t,us=a :: t/\t.length=n:=by cases us with|nil=>cases h|cons a t=>exact⟨a,t,rfl,Nat.succ.inj h⟩
def qE{fd:FuncData}{p0:Str}(k:∀x0,bindArgs fd ⟨[x0],[]⟩=pure [(p0,x0)])(us:List Value)(h:us.length=1):bindArgs fd ⟨us,[]⟩=pure ([p0].zip us):=by obtain⟨x0,t0,rfl,g1⟩:=yh h;cases UA g1;exact k x0
def qU{fd:FuncData}{p0 p1:Str}(k:∀x0 x1,bindArgs fd ⟨[x0,x1],[]⟩=pure [(p0,x0),(p1,x1)])(us:List Value)(h:us.length=2):bindArgs fd ⟨us,[]⟩=pure ([p0,p1].zip us):=by obtain⟨x0,t0,rfl,g1⟩:=yh h;obtain⟨x1,t1,rfl,g2⟩:=yh g1;cases UA g2;exact k x0 x1
def LC{fd:FuncData}{p0 p1 p2:Str}(k:∀x0 x1 x2,bindArgs fd ⟨[x0,x1,x2],[]⟩=pure [(p0,x0),(p1,x1),(p2,x2)])(us:List Value)(h:us.length=3):bindArgs fd ⟨us,[]⟩=pure ([p0,p1,p2].zip us):=by obtain⟨x0,t0,rfl,g1⟩:=yh h;obtain⟨x1,t1,rfl,g2⟩:=yh g1;obtain⟨x2,t2,rfl,g3⟩:=yh g2;cases UA g3;exact k x0 x1 x2
local macro_rules|`(tactic| o_norm)=>do let f:=λs:String=>(s.splitOn " ").toArray.map λs=>Lean.mkIdent (.mkSimple s);let x:=f "ml ni dP tN J4 gR aX kI qP kC x3 mB oS bj bU tQ zZ J7 mj FV J8 nY vz Ga K5 jY F6 Dn F5 Gb pH wK tT Kw GD J5 Kt Kk Kh zU Ku J9 Ka Ks pF Kv Dp Aa F9 Ke Dl F7 F4 F8 vB Ki nh qt m9 ng F3 FX F0 AL JX Kn rO zV xY Kr KO KN JW xX K7 Kg Lf tO FY FU Gv Dk Kf Ko";`(tactic| repeat' (first|with_reducible (first|(first $[|apply $x]*)|exactλ_ _ _ _ h=>JY h|apply Dh)|exact gR _|exact aX _|first|(first $[|apply $x]*)))
set_option hygiene false
local macro_rules|`($a|||$b|||$c:ident)=>`(by refine D.F.ok $a (λ_ _ _ _ h=>h.1) (λc A o s H v Q E hr h=>?_);have hu:=hr.units;refine⟨_,$b,?_⟩;exact nt (b:=$c) (by delta $c;o_norm) rfl h)
set_option hygiene true
local macro_rules|`(tactic|k_in)=>`(tactic|exact ⟨⟨rfl,by w_fin,by w_fin,by dsimp only[dS,aU,Cx.pD,Cx.wish,PyProof.Rows.envOfC,compEnvC,relabel,Env.kindOf];decide +kernel,by w_fin⟩,rfl⟩)
local macro_rules|`(tactic|k_lt2 $h)=>`(tactic|(clear $h;k_lt $h))
local macro_rules|`(tactic|exists _,$h:ident,$l,*)=>`(tactic|(refine L4.bJ ?_;intro _ $h;exists $l,*))
abbrev top(i:Nat):Stmt:=PySem.Challenge.pw_shearfloor_k09_texts_of_no_floor.main.body.getD i (.Pass ⟨0,0,0,0⟩)
@[reducible]def IV:=Nat->ai->Store->Prop
@[reducible]def IN:=ai->Store->Prop
def Bc{st:Store}{R:D->Store->Prop}{n:Nat}{b:ai->Dm Fl}{ds:List D}(h:let q:=R;Ws (b (ds.map some ++ List.replicate (n-ds.length) none) st) (λ_ st1=>q .non st1) (λ_ _=>False) (λ_ _=>False) q):Wp (jM n b ds st) R:=mG h
structure Txt(mg:Str->Option Value):Prop where
 lZ:mg "ValueError" = none
 Bd:mg "all" = none
 mK:mg "enumerate" = none
 qF:mg "int" = none
 gi:mg "isinstance" = none
 aW:mg "len" = none
 cD:mg "list" = none
 Be:mg "max" = none
 a9:mg "range" = none
 l6:mg "repr" = none
 qG:mg "sorted" = none
 uh:mg "str" = none
 eQ:mg "tuple" = none
 Bf:mg "zip" = none
abbrev Bg:Stmt:=match top 2 with
 |.ClassDef _ _ _ b _ _ _ _ _ _ _=>b.getD 0 (.Pass ⟨0,0,0,0⟩)
 |_=>.Pass ⟨0,0,0,0⟩
def LD:aG ["self","row"] ["self","row"] (aw Bg):=by walk
abbrev DW:Stmt:=match top 3 with
 |.ClassDef _ _ _ b _ _ _ _ _ _ _=>b.getD 0 (.Pass ⟨0,0,0,0⟩)
 |_=>.Pass ⟨0,0,0,0⟩
def Q0:aG ["self","word","at"] ["self","word","at"] (aw DW):=by walk
structure XF(K:Zfr)(mg:Str->Option Value)(aq av ak aS bg aH aI aJ cI ju:Addr):Prop where
 dZ:mg "NoText" = some (.ref aq)
 l8:mg "FloorError" = some (.ref av)
 fK:mg "NoFloor" = some (.ref ak)
 qH:mg "NoName" = some (.ref aS)
 si:mg "NoRow" = some (.ref bg)
 pk:mg "NoSlope" = some (.ref aH)
 pw:mg "NoTable" = some (.ref aI)
 pz:mg "TooMany" = some (.ref aJ)
 a8:PySem.W.nsIn K mainGlobals "NoText" = some (some (.ref aq))
 cE:PySem.W.nsIn K mainGlobals "FloorError" = some (some (.ref av))
 bQ:PySem.W.nsIn K mainGlobals "NoFloor" = some (some (.ref ak))
 iw:PySem.W.nsIn K mainGlobals "NoName" = some (some (.ref aS))
 jv:PySem.W.nsIn K mainGlobals "NoRow" = some (some (.ref bg))
 fL:PySem.W.nsIn K mainGlobals "NoSlope" = some (some (.ref aH))
 fM:PySem.W.nsIn K mainGlobals "NoTable" = some (some (.ref aI))
 fN:PySem.W.nsIn K mainGlobals "TooMany" = some (some (.ref aJ))
 l9:PySem.W.findIn K (.ref aq) "__init__" = some (some (.ref cI))
 jZ:PySem.W.findIn K (.ref ak) "__init__" = some (some (.ref ju))
 cF:PySem.W.excIn K av yf "ValueError.__new__" = true
 cG:PySem.W.mroIn K aq (.ref av)=some true
 bM:fX K ak yf "ValueError.__new__" ju=true
 cc:PySem.W.isFn K (.ref ju)=true
 cf:PySem.W.keepIn K (.ref ak)=true
 cg:PySem.W.mroIn K ak (.type "BaseException")=some true
 cj:PySem.W.typeIn K (.ref ak)=some (.type "type")
 jw:PySem.W.mroIn K ak (.ref ak)=some true
 jh:PySem.W.takerIn K ak "word" = some none
 n6:PySem.W.takerIn K ak "at" = some none
 bB:fX K aq yf "ValueError.__new__" cI=true
 bC:PySem.W.isFn K (.ref cI)=true
 bD:PySem.W.keepIn K (.ref aq)=true
 bE:PySem.W.mroIn K aq (.type "BaseException")=some true
 bF:PySem.W.typeIn K (.ref aq)=some (.type "type")
 jc:PySem.W.takerIn K aq "row" = some none
 mL:PySem.W.findIn K (.ref aq) "row" = some none
 k0:PySem.W.kitAny K (.ref aq) [.ref ak,.ref aS,.ref bg,.ref aH,.ref aI,.ref aJ]=some false
 k1:PySem.W.kitOne K (.ref aq) (.ref aq)=some true
 k2:PySem.W.kitOne K (.ref aq) (.type "ValueError")=some true
 fO:my K aq
 ck:nS K aq
 I:∃dI,mX K "__init__" "NoText.__init__" Bg cI dI/\Binds K dI ["self","row"] []
 ek:nS K ak
 I2:∃dI,mX K "__init__" "NoFloor.__init__" DW ju dI/\Binds K dI ["self","word","at"] []
def Bh{K:Zfr}{mg:Str->Option Value}{h:Heap}{aq av ak aS bg aH aI aJ cI ju:Addr}(KX:K.In h)(G:h.Ns mainGlobals mg)(a8:PySem.W.nsIn K mainGlobals "NoText" = some (some (.ref aq)))(cE:PySem.W.nsIn K mainGlobals "FloorError" = some (some (.ref av)))(bQ:PySem.W.nsIn K mainGlobals "NoFloor" = some (some (.ref ak)))(iw:PySem.W.nsIn K mainGlobals "NoName" = some (some (.ref aS)))(jv:PySem.W.nsIn K mainGlobals "NoRow" = some (some (.ref bg)))(fL:PySem.W.nsIn K mainGlobals "NoSlope" = some (some (.ref aH)))(fM:PySem.W.nsIn K mainGlobals "NoTable" = some (some (.ref aI)))(fN:PySem.W.nsIn K mainGlobals "TooMany" = some (some (.ref aJ)))(l9:PySem.W.findIn K (.ref aq) "__init__" = some (some (.ref cI)))(jZ:PySem.W.findIn K (.ref ak) "__init__" = some (some (.ref ju)))(cF:PySem.W.excIn K av yf "ValueError.__new__" = true)(cG:PySem.W.mroIn K aq (.ref av)=some true)(bM:fX K ak yf "ValueError.__new__" ju=true)(cc:PySem.W.isFn K (.ref ju)=true)(cf:PySem.W.keepIn K (.ref ak)=true)(cg:PySem.W.mroIn K ak (.type "BaseException")=some true)(cj:PySem.W.typeIn K (.ref ak)=some (.type "type"))(jw:PySem.W.mroIn K ak (.ref ak)=some true)(jh:PySem.W.takerIn K ak "word" = some none)(n6:PySem.W.takerIn K ak "at" = some none)(bB:fX K aq yf "ValueError.__new__" cI=true)(bC:PySem.W.isFn K (.ref cI)=true)(bD:PySem.W.keepIn K (.ref aq)=true)(bE:PySem.W.mroIn K aq (.type "BaseException")=some true)(bF:PySem.W.typeIn K (.ref aq)=some (.type "type"))(jc:PySem.W.takerIn K aq "row" = some none)(mL:PySem.W.findIn K (.ref aq) "row" = some none)(k0:PySem.W.kitAny K (.ref aq) [.ref ak,.ref aS,.ref bg,.ref aH,.ref aI,.ref aJ]=some false)(k1:PySem.W.kitOne K (.ref aq) (.ref aq)=some true)(k2:PySem.W.kitOne K (.ref aq) (.type "ValueError")=some true)(fO:my K aq)(ck:nS K aq)(I:∃dI,mX K "__init__" "NoText.__init__" Bg cI dI/\Binds K dI ["self","row"] [])(ek:nS K ak)(I2:∃dI,mX K "__init__" "NoFloor.__init__" DW ju dI/\Binds K dI ["self","word","at"] []):XF K mg aq av ak aS bg aH aI aJ cI ju :=
 ⟨PySem.W.mg_of KX G a8,PySem.W.mg_of KX G cE,PySem.W.mg_of KX G bQ,PySem.W.mg_of KX G iw,PySem.W.mg_of KX G jv,PySem.W.mg_of KX G fL,PySem.W.mg_of KX G fM,PySem.W.mg_of KX G fN,a8,cE,bQ,iw,jv,fL,fM,fN,l9,jZ,cF,cG,bM,cc,cf,cg,cj,jw,jh,n6,bB,bC,bD,bE,bF,jc,mL,k0,k1,k2,fO,ck,I,ek,I2⟩
def Q5{P:Program}{w:World}{K:Zfr}{mg:Str->Option Value}{base:Heap}{cI:Addr}{dI:FuncData}(I:mX K "__init__" "NoText.__init__" Bg cI dI):aN P w K mg base cS 1 cI dI ["self","row"] (lL K "row"):=I.ok LD (λvs H Q E h=>JI h) (λcdv A outer s H vs Q E hr h=>⟨_,(yD (C6 (pv 0) (pv 1) rfl)),JJ h⟩)
def Q6{P:Program}{w:World}{K:Zfr}{mg:Str->Option Value}{base:Heap}{cI:Addr}{dI:FuncData}(I:mX K "__init__" "NoText.__init__" Bg cI dI)(hx:Addr):kU hx P w K mg base cS 1 cI dI ["self","row"] (lL K "row"):=I.OH LD (λvs H Q E h=>JI h) (λcdv A outer s H vs Q E hr h=>⟨_,(yD (C6 (pv 0) (pv 1) rfl)),JJ h⟩)
def Q7{P:Program}{w:World}{K:Zfr}{mg:Str->Option Value}{base:Heap}{cI:Addr}{dI:FuncData}(I:mX K "__init__" "NoFloor.__init__" DW cI dI):aN P w K mg base cS 1 cI dI ["self","word","at"] (nU K "word" "at"):=I.ok Q0 (λvs H Q E h=>OC h) (λcdv A outer s H vs Q E hr h=>⟨_,(HM (C6 (pv 0) (pv 1) rfl) (yD (C6 (pv 0) (pv 2) rfl))),OD h⟩)
section
variable {P:Program}{w:World}{K:Zfr}{mg:Str->Option Value}{base:Heap}{f:Addr}{fd:FuncData}
abbrev Bi:ai->Dm Fl :=
 (aB (aO (aF dD (aF kf (fC (.int 7901)) (ag 1)) (fC (.int 24697))) (hName 2))
 (aB (fT (aA (aF qr (ag 1) (aQ bK (ae (ag 0) ah)))) (aO (aF cx (ag 0) (ag 1)) (hName 2)) (fT (aA (aF qO (aQ bK (ae (ag 0) ah)) (fC (.int 0)))) (aO (aF dD (aF kf (aF kg (aF cx (ag 0) (aF kg (ag 1) (aQ bK (ae (ag 0) ah)))) (fC (.int 2147483629))) (fC (.int 31))) (aF kf (fC (.int 7901)) (ag 1))) (hName 2)) aV))
 (aB (aO (fC (.int 0)) (hName 3))
 (aB (fT (aA (aF Dj (ag 2) (aF qq (fC (.int 10)) (fC (.int 18))))) (aO (ag 2) (hName 3)) aV)
 (bu (cw (ae (ag 3) (ae (aF dD (aF kg (aF qq (aF dD (aF kf (aF kg (ag 2) (fC (.int 2147483629))) (fC (.int 48271))) (aF kf (fC (.int 40692)) (ag 1))) (fC (.int 5))) (fC (.int 2147483629))) (fC (.int 1))) ah))))))))
abbrev DX:List D->Dm D:=jM 4 Bi
abbrev Bj:Stmt:=top 21
def yi:aG ["_law_script","_law_k","_law_cell","_law_own"] ["_law_script","_law_k"] (aw Bj):=by walk
abbrev Gx1:=λ(n:Str)(s:Stmt)(p:List Str)K mg=>Def K mg n s p
abbrev Gx2:=λ(p:List Str)(N n:Nat)F P w K mg base f d=>aN P w K mg base cS N f d p (ie K n F)
abbrev D10:=Gx1 "_law_feed" Bj ["_law_script","_law_k"]
abbrev G10:=Gx2 ["_law_script","_law_k"] 1 2 DX
def Q8(D:D10 K mg f fd)(T:Txt mg):G10 P w K mg base f fd:=yi|||((2>>=yi>>=bS kA (bS sM aP (pv 1)) aP)<|>(dN rl (pv 1) (eJ iT (by rfl) T.aW hU (pv 0<|az)) (aC _)<*>(~~~(2>>=yi>>=(jJ<*pv 0<*pv 1)))<*>(~~~(dN sP (eJ iT (by rfl) T.aW hU (pv 0<|az)) aP (aC _)<*>(~~~(2>>=yi>>=bS kA (bS sM (bS sN (jJ<*pv 0<*bS sN (pv 1) (eJ iT (by rfl) T.aW hU (pv 0<|az))) aP) aP) (bS sM aP (pv 1))))<*>iG)))<|>(3>>=yi>>=aP)<|>(dN sQ (pv 2) (bS HW aP aP) (aC _)<*>(~~~(3>>=yi>>=pv 2))<*>iG)<|>(~~~(@g9 _ _ _ _ (@jP _ _ _ _ (pv 3<|bS kA (bS sN (bS HW (bS kA (bS sM (bS sN (pv 2) aP) aP) (bS sM aP (pv 1))) aP) aP) aP<|az)))))|||Bi
variable {gj:Addr}{gk:FuncData}(eu:D10 K mg gj gk)(gn:G10 P w K mg base gj gk)
abbrev Bk:ai->Dm Fl :=
 (aB (aO (eP (lV (ae (cw (ae (fC (.str "right")) (ae (fC (.str "up")) ah))) (ae (ag 0) ah))) 2 [] (lR 2 (eO (hName 0) (eO (hName 1) mE))) iq (jo "str" cB (fC (.str " ")) (ae (aF dE (cw (ae (ag 0) ah)) (eP (jL (ag 1)) 1 [] (hName 0) iq (aQ km (ae (ag 0) ah)))) ah))) (hName 1))
 (bu (jo "str" cB (fC (.str "\n")) (ae (ag 1) ah))))
abbrev Bl:List D->Dm D:=jM 2 Bk
abbrev Bm:Stmt:=top 26
def LG:aG ["_law_floor_here","_law_rows"] ["_law_floor_here"] (aw Bm):=by walk
abbrev D11:=Gx1 "_law_text" Bm ["_law_floor_here"]
abbrev G11:=Gx2 ["_law_floor_here"] 1 1 Bl
def Q9(D:D11 K mg f fd)(T:Txt mg):G11 P w K mg base f fd:=LG|||((C1 (i:=1) (own:=["_law_word","_law_numbers_here"]) (fr:=[]) (js:=[]) rfl LG.nd rfl rfl (by k_in) (vd rfl T.Bf ((@jP _ _ _ _ (cb<|cb<|az))<|pv 0<|az)) (λ_ _ _ _ _=>(NH (K:=K) (n:=2) rfl rfl (qL (kz (i:=0) (show((["_law_word","_law_numbers_here"]:List Str) ++ ([]:List Str)).Nodup by w_fin) rfl (by w_up)) (qL (kz (i:=1) (show((["_law_word","_law_numbers_here"]:List Str) ++ ([]:List Str)).Nodup by w_fin) rfl (by w_up)) yJ)))) (λ_ _ _ _ _=>CV) (λ_ _ _ _ _=>(u6 (K:=K) rfl PySem.F.plainAttrs_str PySem.F.slot_str_join PySem.F.type_str_join (NI (K:=K) rfl) cb (bS kS (@jP _ _ _ _ (pv 0<|az)) (Jc (own:=["_law_k"]) (fr:=[]) (js:=[]) rfl ⟨Pf ⟨rfl,by w_fin,by w_fin,by dsimp only[dS,Cx.pD,Cx.wish,PyProof.Rows.envOfC];decide +kernel,by w_fin⟩,rfl⟩ (Nv (K:=K) rfl (pv 1)) (λ_ _ _ _ _=>(kz (i:=0) (show((["_law_k"]:List Str) ++ ([]:List Str)).Nodup by w_fin) rfl (by w_up))) (λ_ _ _ _ _=>CV) (λ_ _ _ _ _=>(gP Ij (by rfl) T.uh IJ (pv 0<|az))))<|az))))<|>(~~~(@g9 _ _ _ _ (jT PySem.F.plainAttrs_str PySem.F.slot_str_join PySem.F.type_str_join qg cb (pv 1<|az)))))|||Bk
variable {gp:Addr}{gq:FuncData}(cP:D11 K mg gp gq)(ez:G11 P w K mg base gp gq)
abbrev Bo:ai->Dm Fl :=
 (aB (fT (aA (aF qO (aF cx (ag 0) (fC (.int 0))) (fC (.int 0)))) (aB (aO (aF kg (aF cx (ag 0) (fC (.int 0))) (ag 1)) (hName 2))
 (aB (aO (aF mC (aF cx (ag 0) (fC (.int 0))) (ag 1)) (hSub (ag 0) (fC (.int 0))))
 (bu (ag 2)))) aV)
 (aB (aO (aF kg (aF kf (aF cx (ag 0) (fC (.int 1))) (fC (.int 48271))) (fC (.int 2147483647))) (hName 3))
 (aB (aO (aF dD (aF kg (aF dD (aF kf (ag 3) (fC (.int 40692))) (fC (.int 30103))) (fC (.int 2147483399))) (fC (.int 1))) (hSub (ag 0) (fC (.int 1))))
 (bu (aF kg (aF mC (aF dD (aF kf (ag 3) (fC (.int 2147483647))) (aF cx (ag 0) (fC (.int 1)))) (fC (.int 8191))) (ag 1))))))
abbrev jO:List D->Dm D:=jM 4 Bo
abbrev Bp:Stmt:=top 22
def G9:aG ["_law_feed_here","_law_many","_law_digit","_law_one"] ["_law_feed_here","_law_many"] (aw Bp):=by walk
abbrev D12:=Gx1 "_law_take" Bp ["_law_feed_here","_law_many"]
abbrev G12:=Gx2 ["_law_feed_here","_law_many"] 1 2 jO
def Ra(D:D12 K mg f fd)(T:Txt mg):G12 P w K mg base f fd:=G9|||((dN sP (jJ<*pv 0<*aP) aP (aC _)<*>((2>>=G9>>=bS sN (jJ<*pv 0<*aP) (pv 1))<|>CD (bS HV (jJ<*pv 0<*aP) (pv 1)) (xO (pv 0) aP xQ)<|>(~~~(@g9 _ _ _ _ (pv 2))))<*>iG)<|>(3>>=G9>>=bS sN (bS sM (jJ<*pv 0<*aP) aP) aP)<|>CD (bS kA (bS sN (bS kA (bS sM (pv 3) aP) aP) aP) aP) (xO (pv 0) aP xQ)<|>(~~~(@g9 _ _ _ _ (bS sN (bS HV (bS kA (bS sM (pv 3) aP) (jJ<*pv 0<*aP)) aP) (pv 1)))))|||Bo
variable {gu:Addr}{gx:FuncData}(ao:D12 K mg gu gx)(au:G12 P w K mg base gu gx)
abbrev Bq:ai->Dm Fl :=
 (aB (aO (aQ cy (ae (aQ fY (ae (ag 1) ah)) ah)) (hName 2))
 (aB (aO (dC ah) (hName 3))
 (aB (kh (aA (aF (lO true) (ag 2) (cw ah))) (aO (aF oQ (ag 3) (dC (ae (jo "list" jD (ag 2) (ae (aQ jO (ae (ag 0) (ae (aQ bK (ae (ag 2) ah)) ah))) ah)) ah))) (hName 3)))
 (bu (ag 3)))))
abbrev Br:List D->Dm D:=jM 4 Bq
abbrev Bs:Stmt:=top 23
def DY:aG ["_law_feed_here","_law_n","_law_left","_law_found"] ["_law_feed_here","_law_n"] (aw Bs):=by walk
abbrev D13:=Gx1 "_law_turning" Bs ["_law_feed_here","_law_n"]
abbrev G13:=Gx2 ["_law_feed_here","_law_n"] 2 2 Br
include ao au in
def Rb(D:D13 K mg f fd)(T:Txt mg):G13 P w K mg base f fd:=DY|||((2>>=DY>>=gP (p9 rfl) (by rfl) T.cD oE (gP CU (by rfl) T.a9 pZ (pv 1<|az)<|az))<|>(3>>=DY>>=(@j7 _ _ _ _ _ az))<|>EC PassesOwn.never (dN (IP hu) (pv 2) (@jP _ _ _ _ az) (aC _)) (~~~(3>>=DY>>=bS M7 (pv 3) (@j7 _ _ _ _ _ (jT PySem.F.plainAttrs_list PySem.F.slot_list_pop PySem.F.type_list_pop MW (pv 2) (gh au ao hr ∅ rfl (pv 0<|eJ iT (by rfl) T.aW hU (pv 2<|az)<|az)<|az)<|az))))<|>(~~~(@g9 _ _ _ _ (pv 3))))|||Bq
variable {cU:Addr}{cV:FuncData}(bG:D13 K mg cU cV)(bW:G13 P w K mg base cU cV)
abbrev Bt:ai->Dm Fl :=
 (aB (aO (cw (ae (fC (.int 0)) ah)) (hName 1))
 (aB (fZ (dw (ae (aF dD (fC (.int 1)) (aQ bK (ae (aF je (ag 0) (fC (.int 0))) ah))) ah)) (hName 2) (fZ (jL (ag 0)) (hName 3) (fZ (jf (aQ kY (ae (ag 1) ah))) (hName 4) (fT (aA (aF (oR true) (aF je (ag 3) (ag 4)) (ag 1))) (jq (jo "list" dF (ag 1) (ae (aF je (ag 3) (ag 4)) ah))) aV))))
 (bu (ag 1))))
abbrev xi:List D->Dm D:=jM 5 Bt
abbrev Bu:Stmt:=top 24
def Bv:aG ["_law_floor_here","_law_found","_law_turn","_law_turning_here","_law_one"] ["_law_floor_here"] (aw Bu):=by walk
abbrev D14:=Gx1 "_law_met" Bu ["_law_floor_here"]
abbrev G14:=Gx2 ["_law_floor_here"] 1 1 xi
def Rc(D:D14 K mg f fd)(T:Txt mg):G14 P w K mg base f fd:=Bv|||((1>>=Bv>>=(@jP _ _ _ _ (aP<|az)))<|>(sL rfl T.a9 (bS kA aP (eJ iT (by rfl) T.aW hU ((rA<*pv 0<*aP)<|az))<|az)&&&(kz (i:=2) Bv.nd rfl (by w_up))&&&(~~~(CI (pv 0)&&&(kz (i:=3) Bv.nd rfl (by w_up))&&&(~~~(CH (gP ER (by rfl) T.cD oE (pv 1<|az))&&&(kz (i:=4) Bv.nd rfl (by w_up))&&&(~~~(dN CQ (rA<*pv 3<*pv 4) (pv 1) (by with_unfolding_all rfl)<*>(~~~qK (jT PySem.F.plainAttrs_list PySem.F.slot_list_append PySem.F.type_list_append xR (pv 1) ((rA<*pv 3<*pv 4)<|az)))<*>iG)))))))<|>(~~~(@g9 _ _ _ _ (pv 1))))|||Bt
variable {iM:Addr}{iN:FuncData}(bR:D14 K mg iM iN)(cm:G14 P w K mg base iM iN)
abbrev Bw:ai->Dm Fl :=
 (aB (aO (aQ jO (ae (ag 0) (ae (fC (.int 6)) ah))) (hName 2))
 (aB (nZ 3 4 (ae (aQ kY (ae (aQ Br (ae (ag 0) (ae (ag 1) ah))) ah)) (ae (aQ kY (ae (aQ Br (ae (ag 0) (ae (ag 1) ah))) ah)) ah)))
 (aB (fT (aA (aF (jK false) (ag 2) (fC (.int 0)))) (aO (aF dE (aQ cy (ae (aQ cT (ae (fC (.int 1)) (ae (ag 1) ah))) ah)) (cw (ae (fC (.int 0)) ah))) (hName 3)) aV)
 (aB (fT (aA (aF (jK false) (ag 2) (fC (.int 1)))) (nZ 3 4 (ae (aQ cy (ae (aQ fY (ae (ag 1) ah)) ah)) (ae (aF dE (aQ cy (ae (aQ cT (ae (fC (.int 1)) (ae (ag 1) ah))) ah)) (cw (ae (fC (.int 0)) ah))) ah))) aV)
 (aB (fT (aA (aF (jK false) (ag 2) (fC (.int 2)))) (aB (aO (aF dD (fC (.int 1)) (aQ jO (ae (ag 0) (ae (ag 1) ah)))) (hName 5))
 (aB (aO (aF dE (aF dE (aQ cy (ae (aQ cT (ae (fC (.int 1)) (ae (ag 5) ah))) ah)) (cw (ae (fC (.int 0)) ah))) (aQ cy (ae (aQ cT (ae (ag 5) (ae (ag 1) ah))) ah))) (hName 3))
 (aB (aO (jy eL (aF dE (aF dE (aF dE (cw (ae (ag 5) ah)) (aQ cy (ae (aQ cT (ae (fC (.int 1)) (ae (ag 5) ah))) ah))) (aQ cy (ae (aQ cT (ae (aF dD (ag 5) (fC (.int 1))) (ae (ag 1) ah))) ah))) (cw (ae (fC (.int 0)) ah))) aK (bp (ag 1))) (hName 4))
 (fT (aA (aF (jK false) (ag 5) (ag 1))) (aO (aQ cy (ae (aQ fY (ae (ag 1) ah)) ah)) (hName 4)) aV)))) aV)
 (aB (aO (dC (ae (aQ dX (ae (ag 3) ah)) (ae (aQ dX (ae (ag 4) ah)) ah))) (hName 6))
 (aB (aO (eP (dw (ae (ag 1) ah)) 1 [6] (hName 0) (aA (aF (oR true) (ag 0) (aQ xi (ae (ag 1) ah)))) (ag 0)) (hName 7))
 (aB (kh (aA (aF (lO true) (ag 7) (cw ah))) (aB (aO (aF cx (ag 7) (fC (.int 0))) (hName 8))
 (aB (aO (dC (ae (aF cx (ag 3) (ag 8)) (ae (aF cx (ag 3) (fC (.int 0))) ah))) (lR 2 (eO (hSub (ag 3) (fC (.int 0))) (eO (hSub (ag 3) (ag 8)) mE))))
 (aB (aO (dC (ae (aQ dX (ae (ag 3) ah)) (ae (aQ dX (ae (ag 4) ah)) ah))) (hName 6))
 (aO (eP (dw (ae (ag 1) ah)) 1 [6] (hName 0) (aA (aF (oR true) (ag 0) (aQ xi (ae (ag 1) ah)))) (ag 0)) (hName 7))))))
 (bu (ag 6))))))))))
abbrev DZ:List D->Dm D:=jM 9 Bw
abbrev Bx:Stmt:=top 25
def o7:aG ["_law_feed_here","_law_n","_law_form","_law_right","_law_up","_law_wide","_law_found","_law_apart","_law_m"] ["_law_feed_here","_law_n"] (aw Bx):=by walk
abbrev D15:=Gx1 "_law_floor" Bx ["_law_feed_here","_law_n"]
abbrev G15:=Gx2 ["_law_feed_here","_law_n"] 3 2 DZ
include ao au bG bW bR cm in
def Rf(D:D15 K mg f fd)(T:Txt mg):G15 P w K mg base f fd:=o7|||((2>>=o7>>=gh au ao hr ∅ rfl (pv 0<|aP<|az))<|>(CF (i:=3) (j:=4) rfl o7.nd rfl rfl ∅ rfl rfl (gP ER (by rfl) T.cD oE (gh bW bG hr ∅ rfl (pv 0<|pv 1<|az)<|az)<|gP ER (by rfl) T.cD oE (gh bW bG hr ∅ rfl (pv 0<|pv 1<|az)<|az)<|az) rfl)<|>(dN nH (pv 2) aP (aC _)<*>(~~~(3>>=o7>>=bS kS (gP (p9 rfl) (by rfl) T.cD oE (gP uT (by rfl) T.a9 pZ (aP<|pv 1<|az)<|az)) (@jP _ _ _ _ (aP<|az))))<*>iG)<|>(dN nH (pv 2) aP (aC _)<*>(~~~(CF (i:=3) (j:=4) rfl o7.nd rfl rfl ∅ rfl rfl (gP (p9 rfl) (by rfl) T.cD oE (gP CU (by rfl) T.a9 pZ (pv 1<|az)<|az)<|bS kS (gP (p9 rfl) (by rfl) T.cD oE (gP uT (by rfl) T.a9 pZ (aP<|pv 1<|az)<|az)) (@jP _ _ _ _ (aP<|az))<|az) rfl))<*>iG)<|>(dN nH (pv 2) aP (aC _)<*>((5>>=o7>>=bS kA aP (gh au ao hr ∅ rfl (pv 0<|pv 1<|az)))<|>(3>>=o7>>=bS kS (bS kS (gP (p9 rfl) (by rfl) T.cD oE (gP uT (by rfl) T.a9 pZ (aP<|pv 5<|az)<|az)) (@jP _ _ _ _ (aP<|az))) (gP (p9 rfl) (by rfl) T.cD oE (gP uT (by rfl) T.a9 pZ (pv 5<|pv 1<|az)<|az)))<|>(4>>=o7>>=jS lD (bS kS (bS kS (bS kS (@jP _ _ _ _ (pv 5<|az)) (gP (p9 rfl) (by rfl) T.cD oE (gP uT (by rfl) T.a9 pZ (aP<|pv 5<|az)<|az))) (gP (p9 rfl) (by rfl) T.cD oE (gP uT (by rfl) T.a9 pZ (bS kA (pv 5) aP<|pv 1<|az)<|az))) (@jP _ _ _ _ (aP<|az))) jQ (jR (pv 1)))<|>(~~~(dN nH (pv 5) (pv 1) (aC _)<*>(~~~(4>>=o7>>=gP (p9 rfl) (by rfl) T.cD oE (gP CU (by rfl) T.a9 pZ (pv 1<|az)<|az)))<*>iG)))<*>iG)<|>(6>>=o7>>=(@j7 _ _ _ _ _ (gP sY (by rfl) T.eQ sZ (pv 3<|az)<|gP sY (by rfl) T.eQ sZ (pv 4<|az)<|az)))<|>(C1 (i:=7) (own:=["_law_s"]) (fr:=["_law_found"]) (js:=[6]) rfl o7.nd rfl rfl (by k_in) (sL rfl T.a9 (pv 1<|az)) (λ_ _ _ _ _=>(kz (i:=0) (show((["_law_s"]:List Str) ++ (["_law_found"]:List Str)).Nodup by w_fin) rfl (by w_up))) (λ_ _ _ _ _=>(IZ (dN (Jg (K:=K) rfl) (pv 0) (gh cm bR hr ∅ rfl (pv 1<|az)) (by with_unfolding_all rfl)))) (λ_ _ _ _ _=>(pv 0)))<|>EC PassesOwn.never (dN (IP hu) (pv 7) (@jP _ _ _ _ az) (aC _)) ((8>>=o7>>=(jJ<*pv 7<*aP))<|>CD (@j7 _ _ _ _ _ ((jJ<*pv 3<*pv 8)<|(jJ<*pv 3<*aP)<|az)) (yK (n:=2) rfl (qL (xO (pv 3) aP xQ) (qL (xO (pv 3) (pv 8) xQ) yJ)))<|>(6>>=o7>>=(@j7 _ _ _ _ _ (gP sY (by rfl) T.eQ sZ (pv 3<|az)<|gP sY (by rfl) T.eQ sZ (pv 4<|az)<|az)))<|>(~~~(C1 (i:=7) (own:=["_law_s"]) (fr:=["_law_found"]) (js:=[6]) rfl o7.nd rfl rfl (by k_in) (sL rfl T.a9 (pv 1<|az)) (λ_ _ _ _ _=>(kz (i:=0) (show((["_law_s"]:List Str) ++ (["_law_found"]:List Str)).Nodup by w_fin) rfl (by w_up))) (λ_ _ _ _ _=>(IZ (dN (Jg (K:=K) rfl) (pv 0) (gh cm bR hr ∅ rfl (pv 1<|az)) (by with_unfolding_all rfl)))) (λ_ _ _ _ _=>(pv 0)))))<|>(~~~(@g9 _ _ _ _ (pv 6))))|||Bw
variable {eU:Addr}{eV:FuncData}(dj:D15 K mg eU eV)(eW:G15 P w K mg base eU eV)
abbrev By:ai->Dm Fl :=
 (aB (aO (fC (.str " !\"#$&'()*+,-./0123456789:;<=>?@ABCDEFGHIJKLMNOPQRSTUVWXYZ[\\]^_`abcdefghijklmnopqrstuvwxyz{|}~\n")) (hName 1))
 (bu (aF mD (ag 1) (aQ jO (ae (ag 0) (ae (aQ kX (ae (ag 1) ah)) ah))))))
abbrev Bz:List D->Dm D:=jM 2 By
abbrev BA:Stmt:=top 31
def LH:aG ["_law_feed_here","_law_signs"] ["_law_feed_here"] (aw BA):=by walk
abbrev D16:=Gx1 "_law_sign" BA ["_law_feed_here"]
abbrev G16:=Gx2 ["_law_feed_here"] 2 1 Bz
include ao au in
def Rg(D:D16 K mg f fd)(T:Txt mg):G16 P w K mg base f fd:=LH|||((1>>=LH>>=cb)<|>(~~~(@g9 _ _ _ _ (EN<*pv 1<*gh au ao hr ∅ rfl (pv 0<|eJ EO (by rfl) T.aW hU (pv 1<|az)<|az)))))|||By
variable {gA:Addr}{gB:FuncData}(eA:D16 K mg gA gB)(gD:G16 P w K mg base gA gB)
abbrev BB:ai->Dm Fl :=
 (aB (aO (aQ jO (ae (ag 0) (ae (fC (.int 5)) ah))) (hName 2))
 (aB (aO (jo "str" fE (ag 1) (ae (fC (.str " ")) ah)) (hName 3))
 (aB (nZ 4 5 (ae (aQ jO (ae (ag 0) (ae (aQ bK (ae (ag 3) ah)) ah))) (ae (aQ jO (ae (ag 0) (ae (aQ bK (ae (ag 3) ah)) ah))) ah)))
 (aB (aO (cw (ae (fC (.str "")) (ae (fC (.str "0")) (ae (fC (.str "1")) (ae (fC (.str "00")) (ae (fC (.str "01")) (ae (fC (.str "-0")) (ae (fC (.str "-1")) (ae (fC (.str "+1")) (ae (fC (.str "20")) (ae (fC (.str "21")) (ae (fC (.str "1_0")) (ae (fC (.str "right")) (ae (fC (.str "up")) (ae (fC (.str "Right")) (ae (fC (.str "x")) (ae (fC (.str "999999999999")) ah))))))))))))))))) (hName 6))
 (aB (fT (aA (aF (jK false) (ag 2) (fC (.int 0)))) (bu (jo "str" cB (fC (.str " ")) (ae (aF dE (jy eL (ag 3) aK (bp (ag 4))) (jy eL (ag 3) (bp (aF dD (ag 4) (fC (.int 1)))) aK)) ah))) aV)
 (aB (fT (aA (aF (jK false) (ag 2) (fC (.int 1)))) (bu (jo "str" cB (fC (.str " ")) (ae (aF dE (jy eL (ag 3) aK (bp (aF dD (ag 4) (fC (.int 1))))) (jy eL (ag 3) (bp (ag 4)) aK)) ah))) aV)
 (aB (fT (aA (aF (jK false) (ag 2) (fC (.int 2)))) (aB (aO (dC (ae (aF cx (ag 3) (ag 5)) (ae (aF cx (ag 3) (ag 4)) ah))) (lR 2 (eO (hSub (ag 3) (ag 4)) (eO (hSub (ag 3) (ag 5)) mE))))
 (bu (jo "str" cB (fC (.str " ")) (ae (ag 3) ah)))) aV)
 (bu (jo "str" cB (fC (.str " ")) (ae (aF dE (aF dE (jy eL (ag 3) aK (bp (ag 4))) (cw (ae (aF cx (ag 6) (aQ jO (ae (ag 0) (ae (aQ bK (ae (ag 6) ah)) ah)))) ah))) (jy eL (ag 3) (bp (aF dD (ag 4) (fC (.int 1)))) aK)) ah))))))))))
abbrev BD:List D->Dm D:=jM 7 BB
abbrev BE:Stmt:=top 32
def BF:aG ["_law_feed_here","_law_row","_law_form","_law_words","_law_at","_law_other","_law_odd"] ["_law_feed_here","_law_row"] (aw BE):=by walk
abbrev D17:=Gx1 "_law_row_bent" BE ["_law_feed_here","_law_row"]
abbrev G17:=Gx2 ["_law_feed_here","_law_row"] 2 2 BD
include ao au in
def Rh(D:D17 K mg f fd)(T:Txt mg):G17 P w K mg base f fd:=BF|||((2>>=BF>>=gh au ao hr ∅ rfl (pv 0<|aP<|az))<|>(3>>=BF>>=jT PySem.F.plainAttrs_str PySem.F.slot_str_split PySem.F.type_str_split xU (pv 1) (cb<|az))<|>(CF (i:=4) (j:=5) rfl BF.nd rfl rfl ∅ rfl rfl (gh au ao hr ∅ rfl (pv 0<|eJ iT (by rfl) T.aW hU (pv 3<|az)<|az)<|gh au ao hr ∅ rfl (pv 0<|eJ iT (by rfl) T.aW hU (pv 3<|az)<|az)<|az) rfl)<|>(6>>=BF>>=(@jP _ _ _ _ (cb<|cb<|cb<|cb<|cb<|cb<|cb<|cb<|cb<|cb<|cb<|cb<|cb<|cb<|cb<|cb<|az)))<|>(dN nH (pv 2) aP (aC _)<*>(~~~(@g9 _ _ _ _ (jT PySem.F.plainAttrs_str PySem.F.slot_str_join PySem.F.type_str_join qg cb (bS kS (jS lD (pv 3) jQ (jR (pv 4))) (jS lD (pv 3) (jR (bS kA (pv 4) aP)) jQ)<|az))))<*>iG)<|>(dN nH (pv 2) aP (aC _)<*>(~~~(@g9 _ _ _ _ (jT PySem.F.plainAttrs_str PySem.F.slot_str_join PySem.F.type_str_join qg cb (bS kS (jS lD (pv 3) jQ (jR (bS kA (pv 4) aP))) (jS lD (pv 3) (jR (pv 4)) jQ)<|az))))<*>iG)<|>(dN nH (pv 2) aP (aC _)<*>(CD (@j7 _ _ _ _ _ ((jJ<*pv 3<*pv 5)<|(jJ<*pv 3<*pv 4)<|az)) (yK (n:=2) rfl (qL (xO (pv 3) (pv 4) xQ) (qL (xO (pv 3) (pv 5) xQ) yJ)))<|>(~~~(@g9 _ _ _ _ (jT PySem.F.plainAttrs_str PySem.F.slot_str_join PySem.F.type_str_join qg cb (pv 3<|az)))))<*>iG)<|>(~~~(@g9 _ _ _ _ (jT PySem.F.plainAttrs_str PySem.F.slot_str_join PySem.F.type_str_join qg cb (bS kS (bS kS (jS lD (pv 3) jQ (jR (pv 4))) (@jP _ _ _ _ ((jJ<*pv 6<*gh au ao hr ∅ rfl (pv 0<|eJ iT (by rfl) T.aW hU (pv 6<|az)<|az))<|az))) (jS lD (pv 3) (jR (bS kA (pv 4) aP)) jQ)<|az)))))|||BB
variable {cH:Addr}{cJ:FuncData}(bN:D17 K mg cH cJ)(cK:G17 P w K mg base cH cJ)
abbrev D0:ai->Dm Fl :=
 (aB (aO (aQ jO (ae (ag 0) (ae (fC (.int 10)) ah))) (hName 2))
 (aB (aO (jo "str" fE (ag 1) (ae (fC (.str "\n")) ah)) (hName 3))
 (aB (nZ 4 5 (ae (aQ jO (ae (ag 0) (ae (aQ bK (ae (ag 3) ah)) ah))) (ae (aQ jO (ae (ag 0) (ae (aF dD (aQ kX (ae (ag 1) ah)) (fC (.int 1))) ah))) ah)))
 (aB (fT (aA (aF (jK false) (ag 2) (fC (.int 0)))) (bu (jo "str" cB (fC (.str "\n")) (ae (aF dE (jy eL (ag 3) aK (bp (ag 4))) (jy eL (ag 3) (bp (aF dD (ag 4) (fC (.int 1)))) aK)) ah))) aV)
 (aB (fT (aA (aF (jK false) (ag 2) (fC (.int 1)))) (bu (jo "str" cB (fC (.str "\n")) (ae (aF dE (jy eL (ag 3) aK (bp (aF dD (ag 4) (fC (.int 1))))) (jy eL (ag 3) (bp (ag 4)) aK)) ah))) aV)
 (aB (fT (aA (aF (jK false) (ag 2) (fC (.int 2)))) (bu (jo "str" cB (fC (.str "\n")) (ae (Dg oP (ag 3)) ah))) aV)
 (aB (fT (aA (aF (jK false) (ag 2) (fC (.int 3)))) (bu (jo "str" cB (fC (.str "\n")) (ae (aF dE (aF dE (jy eL (ag 3) aK (bp (ag 4))) (cw (ae (aF cx (cw (ae (fC (.str "")) (ae (fC (.str "up 0")) (ae (fC (.str "right 0")) (ae (fC (.str " ")) ah))))) (aQ jO (ae (ag 0) (ae (fC (.int 4)) ah)))) ah))) (jy eL (ag 3) (bp (ag 4)) aK)) ah))) aV)
 (aB (fT (aA (aF qr (ag 2) (fC (.int 7)))) (bu (jo "str" cB (fC (.str "\n")) (ae (aF dE (aF dE (jy eL (ag 3) aK (bp (ag 4))) (cw (ae (aQ BD (ae (ag 0) (ae (aF cx (ag 3) (ag 4)) ah))) ah))) (jy eL (ag 3) (bp (aF dD (ag 4) (fC (.int 1)))) aK)) ah))) aV)
 (aB (fT (aA (aF (jK false) (ag 2) (fC (.int 7)))) (bu (aF la (jy mI (ag 1) aK (bp (ag 5))) (jy mI (ag 1) (bp (aF dD (ag 5) (fC (.int 1)))) aK))) aV)
 (aB (aO (aF cx (cw (ae (aQ Bz (ae (ag 0) ah)) (ae (aF mD (fC (.str " 0\n1-u")) (aQ jO (ae (ag 0) (ae (fC (.int 6)) ah)))) ah))) (aQ jO (ae (ag 0) (ae (fC (.int 2)) ah)))) (hName 6))
 (bu (aF la (aF la (jy mI (ag 1) aK (bp (ag 5))) (ag 6)) (jy mI (ag 1) (bp (aF nB (aF dD (ag 5) (ag 2)) (fC (.int 8)))) aK)))))))))))))
abbrev BG:List D->Dm D:=jM 7 D0
abbrev BH:Stmt:=top 33
def BJ:aG ["_law_feed_here","_law_text_here","_law_form","_law_rows","_law_at","_law_spot","_law_sign_here"] ["_law_feed_here","_law_text_here"] (aw BH):=by walk
abbrev D18:=Gx1 "_law_bent" BH ["_law_feed_here","_law_text_here"]
abbrev G18:=Gx2 ["_law_feed_here","_law_text_here"] 3 2 BG
include ao au eA gD bN cK in
def Ri(D:D18 K mg f fd)(T:Txt mg):G18 P w K mg base f fd:=by
 refine D.F.ok BJ (λ_ _ _ _ h=>h.1) (λc A o s H v Q E hr h=>?_);refine⟨_,((2>>=BJ>>=gh au ao hr ∅ rfl (pv 0<|aP<|az))<|>(3>>=BJ>>=jT PySem.F.plainAttrs_str PySem.F.slot_str_split PySem.F.type_str_split xU (pv 1) (cb<|az))<|>(CF (i:=4) (j:=5) rfl BJ.nd rfl rfl ∅ rfl rfl (gh au ao hr ∅ rfl (pv 0<|eJ iT (by rfl) T.aW hU (pv 3<|az)<|az)<|gh au ao hr ∅ rfl (pv 0<|bS kA (eJ EO (by rfl) T.aW hU (pv 1<|az)) aP<|az)<|az) rfl)<|>(dN nH (pv 2) aP (aC _)<*>(~~~(@g9 _ _ _ _ (jT PySem.F.plainAttrs_str PySem.F.slot_str_join PySem.F.type_str_join qg cb (bS kS (jS lD (pv 3) jQ (jR (pv 4))) (jS lD (pv 3) (jR (bS kA (pv 4) aP)) jQ)<|az))))<*>iG)<|>(dN nH (pv 2) aP (aC _)<*>(~~~(@g9 _ _ _ _ (jT PySem.F.plainAttrs_str PySem.F.slot_str_join PySem.F.type_str_join qg cb (bS kS (jS lD (pv 3) jQ (jR (bS kA (pv 4) aP))) (jS lD (pv 3) (jR (pv 4)) jQ)<|az))))<*>iG)<|>(dN nH (pv 2) aP (aC _)<*>(~~~(@g9 _ _ _ _ (jT PySem.F.plainAttrs_str PySem.F.slot_str_join PySem.F.type_str_join qg cb (uX Nf (pv 3)<|az))))<*>iG)<|>(dN nH (pv 2) aP (aC _)<*>(~~~(@g9 _ _ _ _ (jT PySem.F.plainAttrs_str PySem.F.slot_str_join PySem.F.type_str_join qg cb (bS kS (bS kS (jS lD (pv 3) jQ (jR (pv 4))) (@jP _ _ _ _ ((jJ<*(@jP _ _ _ _ (cb<|cb<|cb<|cb<|az))<*gh au ao hr ∅ rfl (pv 0<|aP<|az))<|az))) (jS lD (pv 3) (jR (pv 4)) jQ)<|az))))<*>iG)<|>(dN rl (pv 2) aP (aC _)<*>(~~~(@g9 _ _ _ _ (jT PySem.F.plainAttrs_str PySem.F.slot_str_join PySem.F.type_str_join qg cb (bS kS (bS kS (jS lD (pv 3) jQ (jR (pv 4))) (@jP _ _ _ _ (gh cK bN hr ∅ rfl (pv 0<|(jJ<*pv 3<*pv 4)<|az)<|az))) (jS lD (pv 3) (jR (bS kA (pv 4) aP)) jQ)<|az))))<*>iG)<|>(dN nH (pv 2) aP (aC _)<*>(~~~(@g9 _ _ _ _ (bS EF (jS C4 (pv 1) jQ (jR (pv 5))) (jS C4 (pv 1) (jR (bS kA (pv 5) aP)) jQ))))<*>iG)<|>(6>>=BJ>>=(jJ<*(@jP _ _ _ _ (gh gD eA hr ∅ rfl (pv 0<|az)<|(EN<*cb<*gh au ao hr ∅ rfl (pv 0<|aP<|az))<|az))<*gh au ao hr ∅ rfl (pv 0<|aP<|az)))<|>(~~~(@g9 _ _ _ _ (bS EF (bS EF (jS C4 (pv 1) jQ (jR (pv 5))) (pv 6)) (jS C4 (pv 1) (jR (bS HU (bS kA (pv 5) (pv 2)) aP)) jQ))))),?_⟩
 exact nt (b:=D0) (ml (ni (pF (F:=jO) (bj (aX 0) (bj (gR _) bU)) o6) (kI 2))
  (ml (ni (pH AL (aX 1) (bj (jY _) bU)) (kI 3))
  (ml (F8 (bj (pF (F:=jO) (bj (aX 0) (bj (mB oS (bj (aX 3) bU)) bU)) o6) (bj (pF (F:=jO) (bj (aX 0) (bj (dP tN (mB F0 (bj (aX 1) bU)) (gR _)) bU)) o6) bU)))
  (ml (qP (kC (dP vB (aX 2) (gR _))) (nY (pH wK (jY _) (bj (dP tT (nh qt (aX 3) m9 (ng (aX 4))) (nh qt (aX 3) (ng (dP tN (aX 4) (gR _))) m9)) bU))) mj)
  (ml (qP (kC (dP vB (aX 2) (gR _))) (nY (pH wK (jY _) (bj (dP tT (nh qt (aX 3) m9 (ng (dP tN (aX 4) (gR _)))) (nh qt (aX 3) (ng (aX 4)) m9)) bU))) mj)
  (ml (qP (kC (dP vB (aX 2) (gR _))) (nY (pH wK (jY _) (bj (vy O8 (aX 3)) bU))) mj)
  (ml (qP (kC (dP vB (aX 2) (gR _))) (nY (pH wK (jY _) (bj (dP tT (dP tT (nh qt (aX 3) m9 (ng (aX 4))) (vz (bj (dP tQ (vz (bj (jY _) (bj (jY _) (bj (jY _) (bj (jY _) bU))))) (pF (F:=jO) (bj (aX 0) (bj (gR _) bU)) o6)) bU))) (nh qt (aX 3) (ng (aX 4)) m9)) bU))) mj)
  (ml (qP (kC (dP x3 (aX 2) (gR _))) (nY (pH wK (jY _) (bj (dP tT (dP tT (nh qt (aX 3) m9 (ng (aX 4))) (vz (bj (pF (F:=BD) (bj (aX 0) (bj (dP tQ (aX 3) (aX 4)) bU)) o6) bU))) (nh qt (aX 3) (ng (dP tN (aX 4) (gR _))) m9)) bU))) mj)
  (ml (qP (kC (dP vB (aX 2) (gR _))) (nY (dP Gz (nh DG (aX 1) m9 (ng (aX 5))) (nh DG (aX 1) (ng (dP tN (aX 5) (gR _))) m9))) mj)
  (ml (ni (dP tQ (vz (bj (pF (F:=Bz) (bj (aX 0) bU) qD) (bj (dP FX (jY _) (pF (F:=jO) (bj (aX 0) (bj (gR _) bU)) o6)) bU))) (pF (F:=jO) (bj (aX 0) (bj (gR _) bU)) o6)) (kI 6))
  (nY (dP Gz (dP Gz (nh DG (aX 1) m9 (ng (aX 5))) (aX 6)) (nh DG (aX 1) (ng (dP JZ (dP tN (aX 5) (aX 2)) (gR _))) m9))))))))))))) rfl h
variable {gF:Addr}{gG:FuncData}(eB:D18 K mg gF gG)(gH:G18 P w K mg base gF gG)
abbrev D3:ai->Dm Fl :=
 (aB (kE (aO (jo "str" fE (ag 0) (ae (fC (.str " ")) ah)) (hName 3)))
 (aB (fT (aA (aF (jK true) (aF cx (ag 3) (fC (.int 0))) (ag 1))) (b9 "NoText" ["row"] (ae (ag 2) ah)) (kE aV))
 (aB (kE (aO (eP (dw (ae (aF nB (aQ bK (ae (ag 3) ah)) (fC (.int 1))) ah)) 1 [] (hName 0) iq (aQ km (ae (ag 0) ah))) (hName 4)))
 (aB (kE (aO (cw ah) (hName 5)))
 (aB (fZ (jf (jy eL (ag 3) (bp (fC (.int 1))) aK)) (hName 6) (aB (fT (aA (aF (pj true) (ag 6) (ag 4))) (b9 "NoText" ["row"] (ae (ag 2) ah)) (kE aV))
 (kE (jq (jo "list" dF (ag 5) (ae (jo "list" jt (ag 4) (ae (ag 6) ah)) ah))))))
 (kE (bu (aQ dX (ae (ag 5) ah)))))))))
abbrev xj:List D->Dm D:=jM 7 D3
abbrev BK:Stmt:=top 19
def BL:aG ["row","name","place","words","figures","numbers","word"] ["row","name","place"] (aw BK):=by walk
def Rj(D:Def K mg "read_row" BK ["row","name","place"] f fd)(T:Txt mg){aq av ak aS bg aH aI aJ cI ju:Addr}(Z:XF K mg aq av ak aS bg aH aI aJ cI ju){dI:FuncData}(GI:aN P w K mg base cS 1 cI dI ["self","row"] (lL K "row"))(BI:Binds K dI ["self","row"] []):aN P w K mg base (kc P w) 3 f fd ["row","name","place"] (ny K 3 xj):=by
 refine D.F.zH BL (λ_ _ _ _ h=>h.1) (λc A o s H v Q E hr h=>?_);have hu:=hr.units;refine⟨_,((3>>=BL>>=jT PySem.F.plainAttrs_str PySem.F.slot_str_split PySem.F.type_str_split xU (pv 0) (cb<|az))<|>(dN yS (jJ<*pv 3<*aP) (pv 1) (aC _)<*>(~~~tG (tD PySem.F.excBase_ValueError ⟨Z.dZ,Z.bB,Z.bC,Z.bD⟩ GI (hr.mono ∅) rfl BI (pv 2<|az)))<*>iG)<|>(C1 (i:=4) (own:=["number"]) (fr:=[]) (js:=[]) rfl BL.nd rfl rfl (by k_in) (sL rfl T.a9 (bS HU (eJ iT (by rfl) T.aW hU (pv 3<|az)) aP<|az)) (λ_ _ _ _ _=>(kz (i:=0) (show((["number"]:List Str) ++ ([]:List Str)).Nodup by w_fin) rfl (by w_up))) (λ_ _ _ _ _=>CV) (λ_ _ _ _ _=>(gP Ij (by rfl) T.uh IJ (pv 0<|az))))<|>(5>>=BL>>=(@jP _ _ _ _ az))<|>(@CK _ _ _ _ _ _ _ _ PassesOwn.leaving rfl (CH (jS lD (pv 3) (jR aP) jQ)) (kz (i:=6) BL.nd rfl (by w_up)) ((dN (N2 hu) (pv 6) (pv 4) (by with_unfolding_all rfl)<*>(~~~tG (tD PySem.F.excBase_ValueError ⟨Z.dZ,Z.bB,Z.bC,Z.bD⟩ GI (hr.mono ∅) rfl BI (pv 2<|az)))<*>iG)<|>(~~~qK (jT PySem.F.plainAttrs_list PySem.F.slot_list_append PySem.F.type_list_append xR (pv 5) (jT PySem.F.plainAttrs_list PySem.F.slot_list_index PySem.F.type_list_index Oo (pv 4) (pv 6<|az)<|az)))) (by intro _;rfl))<|>(~~~(@g9 _ _ _ _ (gP sY (by rfl) T.eQ sZ (pv 5<|az))))),?_⟩
 exact AQ (b:=D3) (lg (lW (ni (pH AL (aX 0) (bj (jY _) bU)) (kI 3)))
  (lg (ub (kC (dP Dk (dP tQ (aX 3) (gR _)) (aX 1))) (AV (bj (aX 2) bU) qD Z.a8 Z.ck Z.jc Z.bE Z.bF) (lW mj))
  (lg (lW (ni (Ga (Dp (bj (dP JZ (mB oS (bj (aX 3) bU)) (gR _)) bU)) (kI 0) Gb (mB GD (bj (aX 0) bU))) (kI 4)))
  (lg (lW (ni (vz bU) (kI 5)))
  (lg (GQ (F9 (nh qt (aX 3) (ng (gR _)) m9)) (kI 6) (lg (ub (kC (dP (wM true) (aX 6) (aX 4))) (AV (bj (aX 2) bU) qD Z.a8 Z.ck Z.jc Z.bE Z.bF) (lW mj))
  (lW (F7 (pH F4 (aX 5) (bj (pH Qt (aX 4) (bj (aX 6) bU)) bU))))))
  (lW (nY (mB F3 (bj (aX 5) bU))))))))) rfl h
variable {iO:Addr}{iP:FuncData}(bH:Def K mg "read_row" BK ["row","name","place"] iO iP)(fP:aN P w K mg base (kc P w) 3 iO iP ["row","name","place"] (ny K 3 xj))
abbrev D4:ai->Dm Fl :=
 (fZ (lT (ae (ag 0) ah)) (lR 2 (eO (hName 2) (eO (hName 3) mE))) (fT (lN (aA (aF qr (ag 3) (fC (.int 0)))) (lN (aA (aF Dj (ag 3) (aQ bK (ae (ag 0) ah)))) (aA (aF (oR false) (ag 3) (jy rQ (ag 0) aK (bp (ag 2))))))) (b9 "NoFloor" ["word","at"] (ae (ag 1) (ae (ag 2) ah))) (kE aV)))
abbrev xk:List D->Dm D:=jM 4 D4
abbrev BM:Stmt:=top 15
def Hc:aG ["numbers","word","place","number"] ["numbers","word"] (aw BM):=by walk
def Rm(D:Def K mg "look_turning" BM ["numbers","word"] f fd)(T:Txt mg){aq av ak aS bg aH aI aJ cI ju:Addr}(Z:XF K mg aq av ak aS bg aH aI aJ cI ju){sj:FuncData}(sk:aN P w K mg base cS 1 ju sj ["self","word","at"] (nU K "word" "at"))(sr:Binds K sj ["self","word","at"] []):aN P w K mg base (kc P w) 3 f fd ["numbers","word"] (ny K 2 xk):=by refine D.F.zH Hc (λ_ _ _ _ h=>h.1) (λc A o s H v Q E hr h=>?_);refine⟨_,(~~~(@CK _ _ _ _ _ _ _ _ PassesOwn.leaving rfl (NG rfl T.mK (pv 0<|az)) (yK (n:=2) rfl (qL (kz (i:=2) Hc.nd rfl (by w_up)) (qL (kz (i:=3) Hc.nd rfl (by w_up)) yJ))) (~~~(PW.pt (mV (dN rl (pv 3) aP (aC _)) (mV (dN sQ (pv 3) (eJ iT (by rfl) T.aW hU (pv 0<|az)) (aC _)) (rg (dN IC (pv 3) (jS IK (pv 0) jQ (jR (pv 2))) (by with_unfolding_all rfl)))))<*>(~~~tG (tD PySem.F.excBase_ValueError ⟨Z.fK,Z.bM,Z.cc,Z.cf⟩ sk (hr.mono ∅) rfl sr (pv 1<|pv 2<|az)))<*>iG)) (by intro _;rfl))),?_⟩;exact AQ (b:=D4) (GQ (Pd (bj (aX 0) bU)) (F6 (Dn (kI 2) (Dn (kI 3) F5))) (ub (rO (kC (dP x3 (aX 3) (gR _))) (rO (kC (dP FV (aX 3) (mB oS (bj (aX 0) bU)))) (kC (dP (Dl false) (aX 3) (nh FY (aX 0) m9 (ng (aX 2))))))) (GO (bj (aX 1) (bj (aX 2) bU)) o6 Z.bQ Z.ek Z.jh Z.n6 Z.cg Z.cj ∅) (lW mj))) rfl h
variable {cW:Addr}{cZ:FuncData}(aR:Def K mg "look_turning" BM ["numbers","word"] cW cZ)(bZ:aN P w K mg base (kc P w) 3 cW cZ ["numbers","word"] (ny K 2 xk))
abbrev BN:ai->Dm Fl :=
 (aB (aO (cw (ae (ag 1) ah)) (hName 2))
 (aB (aO (fC (.int 0)) (hName 3))
 (aB (kh (aA (aF qr (ag 3) (aQ bK (ae (ag 2) ah)))) (aB (fZ (jL (ag 0)) (hName 4) (aB (aO (aF je (ag 4) (aF cx (ag 2) (ag 3))) (hName 5))
 (fT (aA (aF (oR true) (ag 5) (ag 2))) (jq (jo "list" dF (ag 2) (ae (ag 5) ah))) aV)))
 (aO (aF dD (ag 3) (fC (.int 1))) (hName 3))))
 (bu (aQ dX (ae (ag 2) ah))))))
abbrev BO:List D->Dm D:=jM 6 BN
abbrev BP:Stmt:=top 13
def yj:aG ["floor","s","squares","place","turning","reached"] ["floor","s"] (aw BP):=by walk
abbrev D19:=Gx1 "squares_from" BP ["floor","s"]
abbrev G19:=Gx2 ["floor","s"] 1 2 BO
def Rn(D:D19 K mg f fd)(T:Txt mg):G19 P w K mg base f fd:=yj|||((2>>=yj>>=(@jP _ _ _ _ (pv 1<|az)))<|>(3>>=yj>>=aP)<|>EC PassesOwn.never (dN rl (pv 3) (eJ iT (by rfl) T.aW hU (pv 2<|az)) (aC _)) ((CI (pv 0)&&&(kz (i:=4) yj.nd rfl (by w_up))&&&((5>>=yj>>=(rA<*pv 4<*(jJ<*pv 2<*pv 3)))<|>(~~~(dN CQ (pv 5) (pv 2) (by with_unfolding_all rfl)<*>(~~~qK (jT PySem.F.plainAttrs_list PySem.F.slot_list_append PySem.F.type_list_append xR (pv 2) (pv 5<|az)))<*>iG))))<|>(~~~(3>>=yj>>=bS kA (pv 3) aP)))<|>(~~~(@g9 _ _ _ _ (gP sY (by rfl) T.eQ sZ (pv 2<|az)))))|||BN
variable {c5:Addr}{c6:FuncData}(b5:D19 K mg c5 c6)(c7:G19 P w K mg base c5 c6)
abbrev D5:ai->Dm Fl :=
 (aB (kE (aO (aQ BO (ae (ag 0) (ae (fC (.int 0)) ah))) (hName 1)))
 (fZ (dw (ae (aQ bK (ae (aF je (ag 0) (fC (.int 0))) ah)) ah)) (hName 2) (fT (aA (aF (oR true) (ag 2) (ag 1))) (b9 "NoFloor" ["word","at"] (ae (fC (.str "parted")) (ae (ag 2) ah))) (kE aV))))
abbrev BQ:List D->Dm D:=jM 3 D5
abbrev BR:Stmt:=top 16
def He:aG ["floor","reached","square"] ["floor"] (aw BR):=by walk
include b5 c7 in
def Ro(D:Def K mg "look_parted" BR ["floor"] f fd)(T:Txt mg){aq av ak aS bg aH aI aJ cI ju:Addr}(Z:XF K mg aq av ak aS bg aH aI aJ cI ju){sj:FuncData}(sk:aN P w K mg base cS 1 ju sj ["self","word","at"] (nU K "word" "at"))(sr:Binds K sj ["self","word","at"] []):aN P w K mg base (kc P w) 3 f fd ["floor"] (ny K 1 BQ):=by
 refine D.F.zH He (λ_ _ _ _ h=>h.1) (λc A o s H v Q E hr h=>?_);refine⟨_,((1>>=He>>=gh c7 b5 hr ∅ rfl (pv 0<|aP<|az))<|>(~~~(@CK _ _ _ _ _ _ _ _ PassesOwn.leaving rfl (sL rfl T.a9 (eJ iT (by rfl) T.aW hU ((rA<*pv 0<*aP)<|az)<|az)) (kz (i:=2) He.nd rfl (by w_up)) (~~~(dN CQ (pv 2) (pv 1) (by with_unfolding_all rfl)<*>(~~~tG (tD PySem.F.excBase_ValueError ⟨Z.fK,Z.bM,Z.cc,Z.cf⟩ sk (hr.mono ∅) rfl sr (cb<|pv 2<|az)))<*>iG)) (by intro _;rfl)))),?_⟩
 exact AQ (b:=D5) (lg (lW (ni (pF (F:=BO) (bj (aX 0) (bj (gR _) bU)) o6) (kI 1)))
  (GQ (Dp (bj (mB oS (bj (dP Aa (aX 0) (gR _)) bU)) bU)) (kI 2) (ub (kC (dP (Dl true) (aX 2) (aX 1))) (GO (bj (jY _) (bj (aX 2) bU)) o6 Z.bQ Z.ek Z.jh Z.n6 Z.cg Z.cj ∅) (lW mj)))) rfl h
variable {dH:Addr}{dJ:FuncData}(bw:Def K mg "look_parted" BR ["floor"] dH dJ)(dM:aN P w K mg base (kc P w) 3 dH dJ ["floor"] (ny K 1 BQ))
abbrev D6:ai->Dm Fl :=
 (aB (kE (aO (aF je (ag 0) (fC (.int 0))) (hName 1)))
 (aB (kE (aO (aF je (ag 0) (fC (.int 1))) (hName 2)))
 (aB (fT (lN (aA (aF qr (aQ bK (ae (ag 1) ah)) (fC (.int 1)))) (lN (aA (aF qO (aQ bK (ae (ag 1) ah)) (fC (.int 20)))) (aA (aF (jK true) (aQ bK (ae (ag 2) ah)) (aQ bK (ae (ag 1) ah)))))) (b9 "NoFloor" ["word","at"] (ae (fC (.str "sizes")) (ae (aQ bK (ae (ag 1) ah)) ah))) (kE aV))
 (aB (iu xk (ae (ag 1) (ae (fC (.str "right")) ah)))
 (aB (iu xk (ae (ag 2) (ae (fC (.str "up")) ah)))
 (aB (iu BQ (ae (ag 0) ah))
 (kE (bu (fC (.bl true))))))))))
abbrev BS:List D->Dm D:=jM 3 D6
abbrev BU:Stmt:=top 14
def Hf:aG ["floor","right","up"] ["floor"] (aw BU):=by walk
include aR bZ bw dM in
def Rq(D:Def K mg "look_floor" BU ["floor"] f fd)(T:Txt mg){b6:V}(bb:sR K mg "MOST_SQUARES" b6 (.int 20)){aq av ak aS bg aH aI aJ cI ju:Addr}(Z:XF K mg aq av ak aS bg aH aI aJ cI ju){sj:FuncData}(sk:aN P w K mg base cS 1 ju sj ["self","word","at"] (nU K "word" "at"))(sr:Binds K sj ["self","word","at"] []):aN P w K mg base (kc P w) 4 f fd ["floor"] (ny K 1 BS):=by
 refine D.F.zH Hf (λ_ _ _ _ h=>h.1) (λc A o s H v Q E hr h=>?_);refine⟨_,((1>>=Hf>>=(rA<*pv 0<*aP))<|>(2>>=Hf>>=(rA<*pv 0<*aP))<|>(PW.pt (mV (dN rl (eJ iT (by rfl) T.aW hU (pv 1<|az)) aP (aC _)) (mV (dN sP (eJ iT (by rfl) T.aW hU (pv 1<|az)) (KS bb rfl rfl ∅) (aC _)) (rg (dN yS (eJ iT (by rfl) T.aW hU (pv 2<|az)) (eJ iT (by rfl) T.aW hU (pv 1<|az)) (aC _)))))<*>(~~~tG (tD PySem.F.excBase_ValueError ⟨Z.fK,Z.bM,Z.cc,Z.cf⟩ sk (hr.mono ∅) rfl sr (cb<|eJ iT (by rfl) T.aW hU (pv 1<|az)<|az)))<*>iG)<|>qK (xP bZ (hr.mono ∅) rfl aR.m aR.F.kp aR.b .nil zE (pv 1<|cb<|az))<|>qK (xP bZ (hr.mono ∅) rfl aR.m aR.F.kp aR.b .nil zE (pv 2<|cb<|az))<|>qK (xP dM (hr.mono ∅) rfl bw.m bw.F.kp bw.b .nil zE (pv 0<|az))<|>(~~~(@g9 _ _ _ _ yA))),?_⟩
 exact AQ (b:=D6) (lg (lW (ni (dP Aa (aX 0) (gR _)) (kI 1)))
  (lg (lW (ni (dP Aa (aX 0) (gR _)) (kI 2)))
  (lg (ub (rO (kC (dP x3 (mB oS (bj (aX 1) bU)) (gR _))) (rO (kC (dP zZ (mB oS (bj (aX 1) bU)) (KU bb))) (kC (dP Dk (mB oS (bj (aX 2) bU)) (mB oS (bj (aX 1) bU)))))) (GO (bj (jY _) (bj (mB oS (bj (aX 1) bU)) bU)) o6 Z.bQ Z.ek Z.jh Z.n6 Z.cg Z.cj ∅) (lW mj))
  (lg (GP (F:=xk) (bj (aX 1) (bj (jY _) bU)) o6)
  (lg (GP (F:=xk) (bj (aX 2) (bj (jY _) bU)) o6)
  (lg (GP (F:=BQ) (bj (aX 0) bU) qD)
  (lW (nY (FU _))))))))) rfl h
variable {eX:Addr}{eY:FuncData}(bO:Def K mg "look_floor" BU ["floor"] eX eY)(eZ:aN P w K mg base (kc P w) 4 eX eY ["floor"] (ny K 1 BS))
abbrev BV:ai->Dm Fl :=
 (bu (oO (aF qO (aQ bK (ae (ag 0) ah)) (fC (.int 0))) (aF (lO false) (aQ jn (ae (ag 0) ah)) (aQ cy (ae (aQ fY (ae (aQ bK (ae (ag 0) ah)) ah)) ah)))))
abbrev BW:List D->Dm D:=jM 1 BV
abbrev BX:Stmt:=top 10
def Rr:aG ["thing"] ["thing"] (aw BX):=by walk
abbrev D20:=Gx1 "is_turning" BX ["thing"]
abbrev G20:=Gx2 ["thing"] 1 1 BW
def Rv(D:D20 K mg f fd)(T:Txt mg):G20 P w K mg base f fd:=Rr|||(~~~(@g9 _ _ _ _ (uA (yT sP (eJ iT (by rfl) T.aW hU (pv 0<|az)) aP (aC _)) (uz (yT (uV hu) (eJ Nd (by rfl) T.qG M6 (pv 0<|az)) (gP (p9 rfl) (by rfl) T.cD oE (gP CU (by rfl) T.a9 pZ (eJ iT (by rfl) T.aW hU (pv 0<|az)<|az)<|az)) (aC _))))))|||BV
variable {fg:Addr}{fm:FuncData}(dm:D20 K mg fg fm)(fq:G20 P w K mg base fg fm)
abbrev D7:ai->Dm Fl :=
 (aB (kE (aO (jo "str" fE (ag 0) (ae (fC (.str "\n")) ah)) (hName 1)))
 (aB (lh xj (ae (aF cx (ag 1) (fC (.int 0))) (ae (fC (.str "right")) (ae (fC (.int 0)) ah))) 2)
 (aB (fT (lN (lM (aA (aQ BW (ae (ag 2) ah)))) (aA (aF qO (aQ bK (ae (ag 2) ah)) (fC (.int 20))))) (b9 "NoText" ["row"] (ae (fC (.int 0)) ah)) (kE aV))
 (aB (fT (aA (aF qr (aQ bK (ae (ag 1) ah)) (fC (.int 2)))) (b9 "NoText" ["row"] (ae (fC (.int 1)) ah)) (kE aV))
 (aB (lY (ag 2) xj (ae (aF cx (ag 1) (fC (.int 1))) (ae (fC (.str "up")) (ae (fC (.int 1)) ah))) 3)
 (aB (o3 (iu BS (ae (ag 3) ah)) (kn "NoFloor") "NoText" "row" (ae (fC (.int 1)) ah))
 (aB (fT (aA (aF qO (aQ bK (ae (ag 1) ah)) (fC (.int 2)))) (b9 "NoText" ["row"] (ae (fC (.int 2)) ah)) (kE aV))
 (kE (bu (ag 3))))))))))
abbrev BZ:List D->Dm D:=jM 4 D7
abbrev B0:Stmt:=top 18
def D8:aG ["text","rows","right","floor"] ["text"] (aw B0):=by walk
include bH fP bO eZ dm fq in
def Rw(D:Def K mg "read_floor" B0 ["text"] f fd)(T:Txt mg){b6:V}(bb:sR K mg "MOST_SQUARES" b6 (.int 20)){aq av ak aS bg aH aI aJ cI ju:Addr}(Z:XF K mg aq av ak aS bg aH aI aJ cI ju){dI:FuncData}(GI:aN P w K mg base cS 1 cI dI ["self","row"] (lL K "row"))(BI:Binds K dI ["self","row"] [])(Hg:∀hx:Addr,kU hx P w K mg base cS 1 cI dI ["self","row"] (lL K "row")):aN P w K mg base (kc P w) 5 f fd ["text"] (ny K 1 BZ):=by
 refine D.F.zH D8 (λ_ _ _ _ h=>h.1) (λc A o s H v Q E hr h=>?_);refine⟨_,((1>>=D8>>=jT PySem.F.plainAttrs_str PySem.F.slot_str_split PySem.F.type_str_split xU (pv 0) (cb<|az))<|>(2>>=D8>>=xP fP (hr.mono ∅) rfl bH.m bH.F.kp bH.b .nil zE ((jJ<*pv 1<*aP)<|cb<|aP<|az))<|>(PW.pt (mV (xN (uy (gh fq dm hr ∅ rfl (pv 2<|az)))) (rg (dN sP (eJ iT (by rfl) T.aW hU (pv 2<|az)) (KS bb rfl rfl ∅) (aC _))))<*>(~~~tG (tD PySem.F.excBase_ValueError ⟨Z.dZ,Z.bB,Z.bC,Z.bD⟩ GI (hr.mono ∅) rfl BI (aP<|az)))<*>iG)<|>(dN rl (eJ iT (by rfl) T.aW hU (pv 1<|az)) aP (aC _)<*>(~~~tG (tD PySem.F.excBase_ValueError ⟨Z.dZ,Z.bB,Z.bC,Z.bD⟩ GI (hr.mono ∅) rfl BI (aP<|az)))<*>iG)<|>(3>>=D8>>=(@j7 _ _ _ _ _ (pv 2<|xP fP (hr.mono ∅) rfl bH.m bH.F.kp bH.b .nil zE ((jJ<*pv 1<*aP)<|cb<|aP<|az)<|az)))<|>OO (λa=>PassesOwnAt.leaving) Z.fK Z.bM ∅ rfl (λpins W=>(~~~qK (Js eZ (hr.mono ∅) rfl bO.m bO.F.kp bO.b (pv 3<|az)))) (λhx=>yD (OM hr.hd (OL PySem.F.excBase_ValueError ⟨Z.dZ,Z.bB,Z.bC,Z.bD⟩ (Hg hx) ((hr.held hx).mono ∅) rfl BI (aP<|az))))<|>(dN sP (eJ iT (by rfl) T.aW hU (pv 1<|az)) aP (aC _)<*>(~~~tG (tD PySem.F.excBase_ValueError ⟨Z.dZ,Z.bB,Z.bC,Z.bD⟩ GI (hr.mono ∅) rfl BI (aP<|az)))<*>iG)<|>(~~~(@g9 _ _ _ _ (pv 3)))),?_⟩
 exact AQ (b:=D7) (lg (lW (ni (pH AL (aX 0) (bj (jY _) bU)) (kI 1)))
  (lg (QE (F:=xj) (bj (dP tQ (aX 1) (gR _)) (bj (jY _) (bj (gR _) bU))) LA)
  (lg (ub (rO (zV (xY (pF (F:=BW) (bj (aX 2) bU) qD))) (kC (dP zZ (mB oS (bj (aX 2) bU)) (KU bb)))) (AV (bj (gR _) bU) qD Z.a8 Z.ck Z.jc Z.bE Z.bF) (lW mj))
  (lg (ub (kC (dP x3 (mB oS (bj (aX 1) bU)) (gR _))) (AV (bj (gR _) bU) qD Z.a8 Z.ck Z.jc Z.bE Z.bF) (lW mj))
  (lg (QI (F:=xj) (aX 2) (bj (dP tQ (aX 1) (gR _)) (bj (jY _) (bj (gR _) bU))) LA)
  (lg (QF (QD (F:=BS) (bj (aX 3) bU) qD) (bj (gR _) bU) (Lc Z.bQ Z.jw) Z.a8 Z.ck Z.jc Z.bE Z.bF)
  (lg (ub (kC (dP zZ (mB oS (bj (aX 1) bU)) (gR _))) (AV (bj (gR _) bU) qD Z.a8 Z.ck Z.jc Z.bE Z.bF) (lW mj))
  (lW (nY (aX 3)))))))))) rfl h
variable {ft:Addr}{fw:FuncData}(bP:Def K mg "read_floor" B0 ["text"] ft fw)(fA:aN P w K mg base (kc P w) 5 ft fw ["text"] (ny K 1 BZ))
abbrev D9:ai->Dm Fl :=
 (aB (aO (fC .non) (hName 1))
 (aB (aO (fC .non) (hName 2))
 (aB (sf (lh BZ (ae (ag 0) ah) 2) (kn "NoText") 3 (aO (ag 3) (hName 1)))
 (aB (fT (aA (aF (kJ false) (ag 1) (fC .non))) (bu (dC (ae (fC (.str "told")) (ae (ag 2) ah)))) aV)
 (aB (aO (n4 (n5 "NoText" false) (ag 1)) (hName 4))
 (aB (fT (lN (lM (aA (n4 (n5 "NoText" true) (ag 1)))) (lN (lM (aA (n4 (n5 "NoText" true) (ag 1)))) (aA (ag 4)))) (bu (dC (ae (fC (.str "another")) (ae (fC .non) ah)))) aV)
 (bu (dC (ae (fC (.str "refused")) (ae (oZ (kn "NoText") "row" (ag 1)) ah))))))))))
abbrev B1:List D->Dm D:=jM 5 D9
abbrev B2:Stmt:=top 30
def xl:aG ["_law_text_here","_law_fault","_law_found","e","_law_others"] ["_law_text_here"] (aw B2):=by walk
abbrev D21:=Gx1 "_law_told" B2 ["_law_text_here"]
abbrev G21:=Gx2 ["_law_text_here"] 6 1 B1
include bP fA in
def Rx(D:D21 K mg f fd)(T:Txt mg){aq av ak aS bg aH aI aJ cI ju:Addr}(Z:XF K mg aq av ak aS bg aH aI aJ cI ju):G21 P w K mg base f fd:=by
 refine D.F.ok xl (λ_ _ _ _ h=>h.1) (λc A o s H v Q E hr h=>?_);refine⟨_,((1>>=xl>>=sE)<|>(2>>=xl>>=sE)<|>(vj (i:=3) (F:=av) ⟨Z.l8,Z.cF⟩ ∅ rfl xl.nd rfl rfl (λpins W=>(~~~(2>>=xl>>=Js fA (hr.mono ∅) rfl bP.m bP.F.kp bP.b (pv 0<|az)))) (λa=>(~~~(1>>=xl>>=pv 3))))<|>(dN Gw (pv 1) sE (aC _)<*>(~~~(@g9 _ _ _ _ (@j7 _ _ _ _ _ (cb<|pv 2<|az))))<*>iG)<|>(4>>=xl>>=eJ FC (by rfl) T.gi E1 (pv 1<|(@j7 _ _ _ _ _ (tu (kd.own Z.fK) rfl<|tu (kd.own Z.qH) rfl<|tu (kd.own Z.si) rfl<|tu (kd.own Z.pk) rfl<|tu (kd.own Z.pw) rfl<|tu (kd.own Z.pz) rfl<|az))<|az))<|>(PW.pt (mV (xN (uy (eJ FC (by rfl) T.gi E1 (pv 1<|tu (kd.own Z.dZ) rfl<|az)))) (mV (xN (uy (eJ FC (by rfl) T.gi E1 (pv 1<|tu (kd.blt T.lZ Qz ∅) rfl<|az)))) (rg (uy (pv 4)))))<*>(~~~(@g9 _ _ _ _ (@j7 _ _ _ _ _ (cb<|sE<|az))))<*>iG)<|>(~~~(@g9 _ _ _ _ (@j7 _ _ _ _ _ (cb<|OB (pv 1) rfl<|az))))),?_⟩
 exact nt (b:=D9) (ml (ni xX (kI 1))
  (ml (ni xX (kI 2))
  (ml (wQ (Qy (F:=BZ) (bj (aX 0) bU) qD) (ni (aX 3) (kI 1)) (Lc Z.a8 Z.cG))
  (ml (qP (kC (dP (Gv false) (aX 1) xX)) (nY (zU (bj (jY _) (bj (aX 2) bU)))) mj)
  (ml (ni (wR (aX 1) (λ_ _ _ q=>q) (by show 6<=sizeLine;decide) rfl (GL (R:=λC b=>my K C/\PySem.W.kitAny K (.ref C) _=some b) Z.a8 ⟨Z.fO,Z.k0⟩)) (kI 4))
  (ml (qP (rO (zV (xY (La (aX 1) rfl (GL (R:=λC b=>my K C/\PySem.W.kitOne K (.ref C) _=some b) Z.a8 ⟨Z.fO,Z.k1⟩)))) (rO (zV (xY (La (aX 1) rfl (GL (R:=λC b=>my K C/\PySem.W.kitOne K (.ref C) _=some b) Z.a8 ⟨Z.fO,Z.k2⟩)))) (xY (aX 4)))) (nY (zU (bj (jY _) (bj xX bU)))) mj)
  (nY (zU (bj (jY _) (bj (QA (aX 1) (QC (R:=λC=>my K C/\PySem.W.findIn K (.ref C) "row" = some none) Z.a8 ⟨Z.fO,Z.mL⟩)) bU)))))))))) rfl h
variable {gI:Addr}{gJ:FuncData}(cQ:D21 K mg gI gJ)(eC:G21 P w K mg base gI gJ)
abbrev B3:ai->Dm Fl :=
 (aB (aO (jo "str" fE (ag 0) (ae (fC (.str " ")) ah)) (hName 2))
 (aB (aO (cw ah) (hName 3))
 (aB (fZ (jf (jy eL (ag 2) (bp (fC (.int 1))) aK)) (hName 4) (aB (fT (lN (aA (aF (jK false) (ag 4) (fC (.str "")))) (lN (lM (aA (aQ pg (ae (eP (oW (ag 4)) 1 [] (hName 0) iq (aF (se false) (ag 0) (fC (.str "0123456789")))) ah)))) (rM (aA (aF (jK false) (aF mD (ag 4) (fC (.int 0))) (fC (.str "0")))) (aA (aF qO (aQ kX (ae (ag 4) ah)) (fC (.int 1))))))) (bu (fC .non)) aV)
 (jq (jo "list" dF (ag 3) (ae (aQ lb (ae (ag 4) ah)) ah)))))
 (bu (aF cx (cw (ae (fC .non) (ae (aQ dX (ae (ag 3) ah)) ah))) (aQ kZ (ae (aF (jK false) (aF cx (ag 2) (fC (.int 0))) (ag 1)) ah)))))))
abbrev xm:List D->Dm D:=jM 5 B3
abbrev B4:Stmt:=top 28
def Ea:aG ["_law_row","_law_head","_law_words","_law_found","_law_word"] ["_law_row","_law_head"] (aw B4):=by walk
abbrev D22:=Gx1 "_law_numbers" B4 ["_law_row","_law_head"]
abbrev G22:=Gx2 ["_law_row","_law_head"] 1 2 xm
def Ry(D:D22 K mg f fd)(T:Txt mg):G22 P w K mg base f fd:=Ea|||((2>>=Ea>>=jT PySem.F.plainAttrs_str PySem.F.slot_str_split PySem.F.type_str_split xU (pv 0) (cb<|az))<|>(3>>=Ea>>=(@jP _ _ _ _ az))<|>(CH (jS lD (pv 2) (jR aP) jQ)&&&(kz (i:=4) Ea.nd rfl (by w_up))&&&((PW.pt (mV (dN nH (pv 4) cb (aC _)) (mV (xN (uy (eJ (Nt rfl) (by rfl) T.Bd uR (Jc (own:=["_law_sign_here"]) (fr:=[]) (js:=[]) rfl (by k_in) (u7 (pv 4)) (λ_ _ _ _ _=>(kz (i:=0) (show((["_law_sign_here"]:List Str) ++ ([]:List Str)).Nodup by w_fin) rfl (by w_up))) (λ_ _ _ _ _=>CV) (λ_ _ _ _ _=>(yT ME (pv 0) cb (by with_unfolding_all rfl)))<|az)))) (rg (PW.pt (pw_and (dN nH (EN<*pv 4<*aP) cb (aC _)) (Mv (dN sP (eJ EO (by rfl) T.aW hU (pv 4<|az)) aP (aC _))))))))<*>(~~~(@g9 _ _ _ _ sE))<*>iG)<|>(~~~qK (jT PySem.F.plainAttrs_list PySem.F.slot_list_append PySem.F.type_list_append xR (pv 3) (gP Ot (by rfl) T.qF EZ (pv 4<|az)<|az)))))<|>(~~~(@g9 _ _ _ _ (jJ<*(@jP _ _ _ _ (sE<|gP sY (by rfl) T.eQ sZ (pv 3<|az)<|az))<*gP Ii (by rfl) T.qF EZ (yT nH (jJ<*pv 2<*aP) (pv 1) (aC _)<|az)))))|||B3
variable {c9:Addr}{dc:FuncData}(bI:D22 K mg c9 dc)(b7:G22 P w K mg base c9 dc)
abbrev B5:ai->Dm Fl :=
 (aB (fZ (dw (ae (aQ bK (ae (ag 0) ah)) ah)) (hName 1) (fT (lN (lM (aA (ko zY qr (fC (.int 0)) (aF je (ag 0) (ag 1)) (aQ bK (ae (ag 0) ah))))) (aA (aF (oR false) (aF je (ag 0) (ag 1)) (jy rQ (ag 0) aK (bp (ag 1)))))) (bu (fC (.bl true))) aV))
 (bu (fC (.bl false))))
abbrev B6:List D->Dm D:=jM 2 B5
abbrev B7:Stmt:=top 27
def LI:aG ["_law_numbers_here","_law_k"] ["_law_numbers_here"] (aw B7):=by walk
abbrev D23:=Gx1 "_law_amiss" B7 ["_law_numbers_here"]
abbrev G23:=Gx2 ["_law_numbers_here"] 1 1 B6
def Rz(D:D23 K mg f fd)(T:Txt mg):G23 P w K mg base f fd:=LI|||((sL rfl T.a9 (eJ iT (by rfl) T.aW hU (pv 0<|az)<|az)&&&(kz (i:=1) LI.nd rfl (by w_up))&&&(~~~(PW.pt (mV (xN (Ih EE rl aP (rA<*pv 0<*pv 1) (eJ iT (by rfl) T.aW hU (pv 0<|az)))) (rg (dN IC (rA<*pv 0<*pv 1) (jS IK (pv 0) jQ (jR (pv 1))) (by with_unfolding_all rfl))))<*>(~~~(@g9 _ _ _ _ yA))<*>iG)))<|>(~~~(@g9 _ _ _ _ yA)))|||B5
variable {fB:Addr}{fD:FuncData}(cn:D23 K mg fB fD)(dn:G23 P w K mg base fB fD)
abbrev B8:ai->Dm Fl :=
 (aB (aO (jo "str" fE (ag 0) (ae (fC (.str "\n")) ah)) (hName 1))
 (aB (aO (aQ xm (ae (aF cx (ag 1) (fC (.int 0))) (ae (fC (.str "right")) ah))) (hName 2))
 (aB (fT (lN (aA (aF (kJ false) (ag 2) (fC .non))) (lN (lM (aA (ko zY zY (fC (.int 1)) (aQ bK (ae (ag 2) ah)) (fC (.int 20))))) (aA (aQ B6 (ae (ag 2) ah))))) (bu (dC (ae (fC (.str "refused")) (ae (fC (.int 0)) ah)))) aV)
 (aB (fT (aA (aF qr (aQ bK (ae (ag 1) ah)) (fC (.int 2)))) (bu (dC (ae (fC (.str "refused")) (ae (fC (.int 1)) ah)))) aV)
 (aB (aO (aQ xm (ae (aF cx (ag 1) (fC (.int 1))) (ae (fC (.str "up")) ah))) (hName 3))
 (aB (fT (lN (aA (aF (kJ false) (ag 3) (fC .non))) (lN (aA (aF (jK true) (aQ bK (ae (ag 3) ah)) (aQ bK (ae (ag 2) ah)))) (lN (aA (aQ B6 (ae (ag 3) ah))) (aA (aF qr (aQ bK (ae (aQ xi (ae (dC (ae (ag 2) (ae (ag 3) ah))) ah)) ah)) (aQ bK (ae (ag 2) ah))))))) (bu (dC (ae (fC (.str "refused")) (ae (fC (.int 1)) ah)))) aV)
 (bu (aF cx (cw (ae (dC (ae (fC (.str "told")) (ae (dC (ae (ag 2) (ae (ag 3) ah))) ah))) (ae (dC (ae (fC (.str "refused")) (ae (fC (.int 2)) ah))) ah))) (aQ kZ (ae (aF qO (aQ bK (ae (ag 1) ah)) (fC (.int 2))) ah))))))))))
abbrev B9:List D->Dm D:=jM 4 B8
abbrev Cb:Stmt:=top 29
def Eb:aG ["_law_text_here","_law_rows","_law_right","_law_up"] ["_law_text_here"] (aw Cb):=by walk
abbrev D24:=Gx1 "_law_due" Cb ["_law_text_here"]
abbrev G24:=Gx2 ["_law_text_here"] 2 1 B9
include bR cm bI b7 cn dn in
def RA(D:D24 K mg f fd)(T:Txt mg):G24 P w K mg base f fd:=Eb|||((1>>=Eb>>=jT PySem.F.plainAttrs_str PySem.F.slot_str_split PySem.F.type_str_split xU (pv 0) (cb<|az))<|>(2>>=Eb>>=gh b7 bI hr ∅ rfl ((jJ<*pv 1<*aP)<|cb<|az))<|>(PW.pt (mV (dN Gw (pv 2) sE (aC _)) (mV (xN (Ih EE EE aP (eJ iT (by rfl) T.aW hU (pv 2<|az)) aP)) (rg (uy (gh dn cn hr ∅ rfl (pv 2<|az))))))<*>(~~~(@g9 _ _ _ _ (@j7 _ _ _ _ _ (cb<|aP<|az))))<*>iG)<|>(dN rl (eJ iT (by rfl) T.aW hU (pv 1<|az)) aP (aC _)<*>(~~~(@g9 _ _ _ _ (@j7 _ _ _ _ _ (cb<|aP<|az))))<*>iG)<|>(3>>=Eb>>=gh b7 bI hr ∅ rfl ((jJ<*pv 1<*aP)<|cb<|az))<|>(PW.pt (mV (dN Gw (pv 3) sE (aC _)) (mV (dN yS (eJ iT (by rfl) T.aW hU (pv 3<|az)) (eJ iT (by rfl) T.aW hU (pv 2<|az)) (aC _)) (mV (uy (gh dn cn hr ∅ rfl (pv 3<|az))) (rg (dN rl (eJ iT (by rfl) T.aW hU (gh cm bR hr ∅ rfl ((@j7 _ _ _ _ _ (pv 2<|pv 3<|az))<|az)<|az)) (eJ iT (by rfl) T.aW hU (pv 2<|az)) (aC _))))))<*>(~~~(@g9 _ _ _ _ (@j7 _ _ _ _ _ (cb<|aP<|az))))<*>iG)<|>(~~~(@g9 _ _ _ _ (jJ<*(@jP _ _ _ _ ((@j7 _ _ _ _ _ (cb<|(@j7 _ _ _ _ _ (pv 2<|pv 3<|az))<|az))<|(@j7 _ _ _ _ _ (cb<|aP<|az))<|az))<*gP Ii (by rfl) T.qF EZ (yT sP (eJ iT (by rfl) T.aW hU (pv 1<|az)) aP (aC _)<|az)))))|||B8
variable {iQ:Addr}{iR:FuncData}(dQ:D24 K mg iQ iR)(fQ:G24 P w K mg base iQ iR)
abbrev Cc:ai->Dm Fl :=
 (aB (aO (cw (ae (dC (ae (fC (.str "")) (ae (fC (.str "right 0\nup 0")) ah))) ah)) (hName 1))
 (aB (fZ (jL (dC (ae (fC (.int 20)) (ae (fC (.int 21)) (ae (fC (.int 22)) ah))))) (hName 2) (aB (aO (aQ dX (ae (aF dE (aQ cy (ae (aQ cT (ae (fC (.int 1)) (ae (ag 2) ah))) ah)) (cw (ae (fC (.int 0)) ah))) ah)) (hName 3))
 (jq (jo "list" dF (ag 1) (ae (dC (ae (aQ Bl (ae (dC (ae (ag 3) (ae (ag 3) ah))) ah)) (ae (fC (.str "right 0\nup 0")) ah))) ah)))))
 (aB (fZ (dw (ae (aQ oU (ae (fC (.int 1)) (ae (aQ bK (ae (jy eL (ag 0) aK (bp (fC (.int 6)))) ah)) ah))) ah)) (hName 4) (aB (aO (aQ DX (ae (ag 0) (ae (ag 4) ah))) (hName 5))
 (aB (aO (aF dD (fC (.int 1)) (aQ jO (ae (ag 5) (ae (fC (.int 3)) ah)))) (hName 6))
 (aB (aO (aQ Bl (ae (aQ DZ (ae (ag 5) (ae (aF dD (fC (.int 1)) (aQ jO (ae (ag 5) (ae (aF cx (cw (ae (fC (.int 3)) (ae (fC (.int 6)) (ae (fC (.int 20)) ah)))) (aQ jO (ae (ag 5) (ae (fC (.int 3)) ah)))) ah)))) ah))) ah)) (hName 7))
 (aB (aO (ag 7) (hName 8))
 (aB (fZ (dw (ae (ag 6) ah)) (hName 9) (aO (aQ BG (ae (ag 5) (ae (ag 8) ah))) (hName 8)))
 (jq (jo "list" dF (ag 1) (ae (dC (ae (ag 8) (ae (ag 7) ah))) ah)))))))))
 (aB (fZ (jf (aF dE (ag 1) (jy eL (ag 1) aK (bp (fC (.int 2)))))) (lR 2 (eO (hName 8) (eO (hName 7) mE))) (fT (lN (aA (aF (jK true) (aQ ig (ae (aQ B1 (ae (ag 8) ah)) ah)) (aQ ig (ae (aQ B9 (ae (ag 8) ah)) ah)))) (aA (aF (jK true) (aQ ig (ae (aQ B1 (ae (ag 7) ah)) ah)) (aQ ig (ae (aQ B9 (ae (ag 7) ah)) ah))))) (bu (fC (.bl false))) aV))
 (bu (fC (.bl true)))))))
abbrev Hh:List D->Dm D:=jM 10 Cc
abbrev Ec:Stmt:=top 34
def pA:aG ["_law_script","_law_asked","_law_n","_law_ring","_law_k","_law_feed_here","_law_turns","_law_good","_law_text_here","_law_turn"] ["_law_script"] (aw Ec):=by walk
abbrev D25:=Gx1 "law" Ec ["_law_script"]
abbrev G25:=Gx2 ["_law_script"] 7 1 Hh
include eu gn cP ez ao au dj eW eB gH cQ eC dQ fQ in
def xn(D:D25 K mg f fd)(T:Txt mg):G25 P w K mg base f fd:=pA|||((1>>=pA>>=(@jP _ _ _ _ ((@j7 _ _ _ _ _ (cb<|cb<|az))<|az)))<|>(CI (@j7 _ _ _ _ _ (aP<|aP<|aP<|az))&&&(kz (i:=2) pA.nd rfl (by w_up))&&&((3>>=pA>>=gP sY (by rfl) T.eQ sZ (bS kS (gP (p9 rfl) (by rfl) T.cD oE (gP uT (by rfl) T.a9 pZ (aP<|pv 2<|az)<|az)) (@jP _ _ _ _ (aP<|az))<|az))<|>(~~~qK (jT PySem.F.plainAttrs_list PySem.F.slot_list_append PySem.F.type_list_append xR (pv 1) ((@j7 _ _ _ _ _ (gh ez cP hr ∅ rfl ((@j7 _ _ _ _ _ (pv 3<|pv 3<|az))<|az)<|cb<|az))<|az)))))<|>(sL rfl T.a9 (eJ (MF rfl) (by rfl) T.Be uQ (aP<|eJ iT (by rfl) T.aW hU (jS lD (pv 0) jQ (jR aP)<|az)<|az)<|az)&&&(kz (i:=4) pA.nd rfl (by w_up))&&&((5>>=pA>>=gh gn eu hr ∅ rfl (pv 0<|pv 4<|az))<|>(6>>=pA>>=bS kA aP (gh au ao hr ∅ rfl (pv 5<|aP<|az)))<|>(7>>=pA>>=gh ez cP hr ∅ rfl (gh eW dj hr ∅ rfl (pv 5<|bS kA aP (gh au ao hr ∅ rfl (pv 5<|(jJ<*(@jP _ _ _ _ (aP<|aP<|aP<|az))<*gh au ao hr ∅ rfl (pv 5<|aP<|az))<|az))<|az)<|az))<|>(8>>=pA>>=pv 7)<|>(sL rfl T.a9 (pv 6<|az)&&&(kz (i:=9) pA.nd rfl (by w_up))&&&(~~~(8>>=pA>>=gh gH eB hr ∅ rfl (pv 5<|pv 8<|az))))<|>(~~~qK (jT PySem.F.plainAttrs_list PySem.F.slot_list_append PySem.F.type_list_append xR (pv 1) ((@j7 _ _ _ _ _ (pv 8<|pv 7<|az))<|az)))))<|>(CH (bS kS (pv 1) (jS lD (pv 1) jQ (jR aP)))&&&yK (n:=2) rfl (qL (kz (i:=8) pA.nd rfl (by w_up)) (qL (kz (i:=7) pA.nd rfl (by w_up)) yJ))&&&(~~~(PW.pt (mV (dN yS (eJ (C2 hr) (by rfl) T.l6 CT (gh eC cQ hr ∅ rfl (pv 8<|az)<|az)) (eJ (C2 hr) (by rfl) T.l6 CT (gh fQ dQ hr ∅ rfl (pv 8<|az)<|az)) (aC _)) (rg (dN yS (eJ (C2 hr) (by rfl) T.l6 CT (gh eC cQ hr ∅ rfl (pv 7<|az)<|az)) (eJ (C2 hr) (by rfl) T.l6 CT (gh fQ dQ hr ∅ rfl (pv 7<|az)<|az)) (aC _))))<*>(~~~(@g9 _ _ _ _ yA))<*>iG)))<|>(~~~(@g9 _ _ _ _ yA)))|||Cc
end
def mM{st:Store}{f:Nat}{n:Int}(hf:aL st f)(h0:0<n)(h1:n<1073741824):Wp (jO [.ref f,.int n] st) λd st'=>∃k:Int,d=.int k/\0<=k/\k<n/\aL st' f/\Ex [f] st st':=by obtain⟨o,m,e,o0,m0,m1⟩:=hf;have hfl:=iJ e;refine mG ?_;show Ws (Bo [some (.ref f),some (.int n),none,none] st) _ _ _ _;unfold Bo;refine aZ (hV ?_);exists dG e,kD e;refine⟨λho=>?_,λho=>?_⟩;refine aZ (cM ?_);exists dG e;refine⟨h0,aZ (Aq ?_)⟩;exists dG e,kD e,(show kR [D.int o,D.int m].length 0=some 0 from AG);refine⟨⟨h0,h1⟩,hJ ?_⟩;w_how;refine⟨UZ _ ⋯,UR _ h0,⟨o / n,m,?_,Int.ediv_nonneg o0 ⋯,m0,m1⟩,Ex.refl.put (by simp)⟩;rw[TB hfl];refine iI (aZ (cM ?_));exists dG e;refine⟨by lk,by lk,aZ (Aq ?_)⟩;exists dG e,kD e,(show kR [D.int o,D.int m].length 1=some 1 from AH);refine⟨by lk,by lk,hJ ?_⟩;have e2:(st.set f (.lst [.int o,.int ((m*48271 % 2147483647*40692+30103) % 2147483399+1)]))[f]?=some (.lst [.int o,.int ((m*48271 % 2147483647*40692+30103) % 2147483399+1)]):=TB hfl;exists dG e2;refine⟨by lk,by lk,h0,UZ _ ⋯,UR _ h0,⟨_,_,e2,o0,by lk,by lk⟩,Ex.refl.put (by simp)⟩
def RB{st:Store}{a:Nat}{ns:List Int}{k:Nat}(hs:items st a=some (ns.map D.int))(hk:k<=100):Wp (DX [.ref a,.int (k:Int)] st) λd st'=>d=.ref st.length/\aL st' st.length/\Ex [] st st':=by
 refine mG ?_;show Ws (Bi [some (.ref a),some (.int (k:Int)),none,none] st) _ _ _ _;unfold Bi;refine aZ (cM ?_);w_how;refine⟨by lk,aZ (Ap (N:=λI st1=>st1=st/\∃c:Int,I=[some (.ref a),some (.int (k:Int)),some (.int c),none]) (hV ?_) ?_)⟩;exists hs;refine⟨λh=>cM ?_,λh=>hV ?_⟩;have h:=of_decide_eq_true h;rw[S8]at h;exists hs;refine⟨.int (ns[k]'⋯),mh (by rw[TC,Tj];rfl),_,rfl⟩;exists hs;refine⟨λh=>cM ?_,λh=>iI ⟨rfl,_,rfl⟩⟩;have h:=of_decide_eq_true h;obtain⟨v,hv,hm⟩:=uW (xs:=ns.map D.int) (i:=(k:Int) % ((ns.map D.int).length:Int)) (UZ _ ⋯) (UR _ h);obtain⟨c,_,rfl⟩:=T6.mp hm;exists hs;refine⟨h,_,hv,?_⟩;w_how;exact⟨by lk,by lk,by lk,_,rfl⟩;rintro I st1 ⟨rfl,c,rfl⟩;refine aZ (cM ?_);w_how;refine aZ (Ap (N:=λI st2=>st2=st1/\∃o:Int,0<=o/\I=[some (.ref a),some (.int (k:Int)),some (.int c),some (.int o)]) (hV ?_) ?_);w_how;refine⟨by decide,λh=>cM ?_,λh=>iI ⟨rfl,0,by decide,rfl⟩⟩;have h:=of_decide_eq_true h;w_how;exact⟨c,Int.le_trans ∅ h,rfl⟩;rintro I st2 ⟨rfl,o,o0,rfl⟩;refine hJ ?_;w_how;have h1:0<=c % 2147483629:=UZ _ ∅;have h2:c % 2147483629<2147483629:=UR _ ∅;refine⟨by lk,by lk,by lk,by lk,by lk,by rfl,⟨_,_,iK,o0,?_,?_⟩,Ex.aM _⟩
 have:=UZ ((c % 2147483629*48271+40692*(k:Int)) ^ (5:Int).toNat) (show(2147483629:Int)≠0 by decide)
 lk
 have:=UR ((c % 2147483629*48271+40692*(k:Int)) ^ (5:Int).toNat) (show(0:Int)<2147483629 by decide)
 lk
def LJ{st:Store}{f:Nat}{n:Nat}(hf:aL st f)(hn:n<=100):Wp (Br [.ref f,.int (n:Int)] st) λd st'=>∃xs:List Int,d=.tup (xs.map D.int)/\aj.Tn n xs/\aL st' f/\Ex [f] st st':=by
 have hfl:=hf.lt;refine Bc ?_;intro qR;show Ws (Bq [some (.ref f),some (.int (n:Int)),none,none] st) _ _ _ _;unfold Bq;refine aZ (cM ?_);w_how;have e1:((n:Int)-0).toNat=n:=by lk
 rw[e1,ya];refine⟨by unfold pf;rw[Tz,decide_eq_true_eq];exact⟨by lk,fJ ⋯⟩,aZ (cM ?_)⟩;w_how;refine⟨rfl,aZ (Ge (λm I st2=>∃L xs:List Int,m=L.length/\I=[some (.ref f),some (.int (n:Int)),some (.ref (st ++ [O.fR 0 (n:Int)]).length),some (.tup (xs.map D.int))]/\st2[(st ++ [O.fR 0 (n:Int)]).length]?=some (.lst (L.map D.int))/\(xs ++ L).Perm (aj.upto n)/\aL st2 f/\Ex [f] st st2) n (UD hn ∅) ⟨aj.upto n,[],(aj.qN n).symm,rfl,iK,U2 _,hf.keep ((Ex.aM _).app _),(Ex.aM _).app _⟩ ?_)⟩;have hl:(st ++ [O.fR 0 (n:Int)]).length≠f:=by rw[Td];lk
 have hls:st.length<=(st ++ [O.fR 0 (n:Int)]).length:=by rw[Td];lk
 generalize (st ++ [O.fR 0 (n:Int)]).length=l at hl hls ⊢;rintro m I st2 ⟨L,xs,rfl,rfl,hL,pm,hf2,k2⟩;have hlen:(xs ++ L).length=n:=by rw[pm.length_eq,aj.qN]
 rw[Td]at hlen;exists _,Z,Gn (L:=L) (M:=[]) (st:=st2 ++ [O.lst []]) (dG (jg hL)) ja;refine⟨rfl,Z _ _ ⟨λh=>?_,λh=>?_⟩⟩;have hne:L≠[]:=by simpa using h
 have hpos:0<L.length:=List.length_pos_iff.mpr hne;have Ed:(st2 ++ [O.lst []])[l]?=some (.lst (L.map D.int)):=jg hL;have f3:aL (st2 ++ [O.lst []]) f:=hf2.keep (Ex.aM _);have k3:Ex [f] st (st2 ++ [O.lst []]):=k2.app _;generalize (st2 ++ [O.lst []])=st3 at Ed f3 k3 ⊢;refine cM ?_;exists _,Z,dG Ed;refine⟨t5 (by rw[dG Ed];rfl),?_⟩;refine aY (mM (n:=((L.map D.int).length:Int)) f3 (by rw[S8];lk) (by rw[S8];lk)) ?_;rintro d kq ⟨k,rfl,k0,k1,f4,k4⟩;rw[S8]at k1;have LK:=k4.keep _ _ Ed (by simpa using hl);have su:k.toNat<L.length:=by lk
 exists kD LK;have hk':((k.toNat:Nat):Int)=k:=Uw k0;refine⟨by lk,k.toNat,?_,D.int L[k.toNat],by rw[TC,Tj su];rfl,rfl,fJ ?_,Z _ _ ⟨(L.eraseIdx k.toNat).length,?_,L.eraseIdx k.toNat,xs ++ [L[k.toNat]],rfl,?_,?_,?_,?_,?_⟩⟩;rw[<- hk',T9];exact(EL (zo (by rw[S8];exact su))).1;simp only[S8,Tf,Uj];lk;rw[List.length_eraseIdx,if_pos su];lk;rw[TN];rfl;rw[TB (iJ LK),Qi];refine List.Perm.trans ?_ pm;rw[Uv];exact List.Perm.append_left xs (Qj su);exact f4.ne hl;exact(k3.trans k4).loc hls;have he:L=[]:=by simpa using h
 subst he;refine hJ ?_;k_lt Z;exact Z _ _ ⟨xs,rfl,by simpa[aj.Tn]using pm,hf2.keep (Ex.aM _),k2.app _⟩
def LL{st:Store}{xs ys:List Int}{n:Nat}(tx:aj.Tn n xs)(ty:aj.Tn n ys)(n0:0<n)(hn:n<=100):Wp (xi [jb xs ys] st) λd st'=>∃(g:Nat) (F:List Int),d=.ref g/\items st' g=some (F.map D.int)/\(∀x,x∈F↔aj.i6 xs ys x)/\(F.length<=n/\F.Nodup)/\Ex [] st st':=by
 have hlx:=tx.length;have RC:=ty.length;refine mG ?_;show Ws (Bt [some (jb xs ys),none,none,none,none] st) _ _ _ _;unfold Bt;refine aZ (cM ?_);k_lt Z;refine⟨rfl,Z _ _ (aZ (rZ (aD 0 (n+1)) (λi I st2=>∃(v2 v3 v4:Option D) (F:List Int),I=[some (jb xs ys),some (.ref st.length),v2,v3,v4]/\st2[st.length]?=some (.lst (F.map D.int))/\aj.Fd xs ys F/\(aj.Cl xs ys F\/i+1<=F.length)/\Ex [] st st2) ?_ ?_ ?_ ?_))⟩;unfold jb;k_lt Z;have e0:((1:Int)+((xs.map D.int).length:Int)).toNat=n+1:=by rw[S8];lk
 refine⟨by rw[S8];lk,Z _ _ ⟨by rw[e0],none,none,none,[0],rfl,iK,aj.Fd.one xs ys,.inr (Tc _),Ex.aM _⟩⟩;rw[jr];lk;rintro i d I st2 hd ⟨v2,v3,v4,F,rfl,Hi,hF,hcl,k2⟩;k_lt Z
 refine Z _ _ (rZ [.tup (xs.map D.int),.tup (ys.map D.int)] (λm I st3=>∃ (v3 v4:Option D) (G:List Int),I=[some (jb xs ys),some (.ref st.length),some d,v3,v4]/\st3[st.length]?=some (.lst (G.map D.int))/\aj.Fd xs ys G /\
   (m=0->G=F)/\(m=1->F <+: G/\∀x∈F,aj.app xs x∈G)/\(2<=m->∃F1,F <+: F1/\F1 <+: G/\(∀x∈F,aj.app xs x∈F1)/\∀x∈F1,aj.app ys x∈G)/\Ex [] st st3) ?_ (by simp) ?_ ?_)
 unfold jb;k_lt Z;exact Z _ _ ⟨rfl,v3,v4,F,rfl,Hi,hF,λ_=>rfl,λz=>by lk,λz=>by lk,k2⟩;rintro m z I st3 hm ⟨v3,v4,G,rfl,Cd,hG,m0,m1,_,k3⟩;have hm2:m<2:=iJ hm;obtain⟨zs,rfl,hz,em⟩:∃(zs:List Int),z=.tup (zs.map D.int)/\(zs=xs\/zs=ys)/\((m=0/\zs=xs)\/(m=1/\zs=ys)):=by
  rcases(show m=0\/m=1 by lk)with rfl|rfl
  exact⟨xs,by simpa using hm.symm,.inl rfl,.inl ⟨rfl,rfl⟩⟩;exact⟨ys,by simpa using hm.symm,.inr rfl,.inr ⟨rfl,rfl⟩⟩
 have tz:aj.Tn n zs:=by rcases hz with rfl|rfl;exact tx;exact ty
 have RD:=tz.length;have go:∀x,aj.i6 xs ys x->aj.i6 xs ys (aj.app zs x):=λx h=>by rcases hz with rfl|rfl;exact h.r;exact h.u
 k_lt Z;refine Z _ _ (Dx (G.map D.int) st3.length (λj I kq=>∃(v4:Option D) (G':List Int),I=[some (jb xs ys),some (.ref st.length),some d,some (.tup (zs.map D.int)),v4]/\kq[st.length]?=some (.lst (G'.map D.int))/\kq[st3.length]?=some (.lst (G.map D.int))/\aj.Fd xs ys G'/\G <+: G'/\(∀i',i' < j->∀x,G[i']?=some x->aj.app zs x∈G')/\Ex [] st kq) ?_ ?_ ?_ ?_ ?_);exists _,Z,dG Cd;exact Z _ _ ⟨rfl,v4,G,rfl,jg Cd,iK,hG,UM _,λi' h=>absurd h (UQ _),k3.app _⟩;rw[S8]
 have:=hG.len tx ty n0;lk
 rintro j I kq ⟨_,_,_,_,h,_⟩;exact dG h;rintro j SS I kq hj0 ⟨v4,G',rfl,xq,Hj,yk,pG,hd',k4⟩;obtain⟨y,hj,rfl⟩:=Qk hj0;have hjl:=iJ hj;have hR:=hG.mt _ (TL hj);obtain⟨y0,y1⟩:=hR.bound tx ty n0;have at':=Dz (xs:=zs) y0 (by rw[RD];exact y1);have hnext:∀Ee:List Int,G' <+: Ee->aj.app zs y∈Ee->∀i',i' < j+1->∀x,G[i']?=some x->aj.app zs x∈Ee:=λEe p h i' hi' x hx=>by
  by_cases e:i'=j;subst e;rw[hj]at hx;cases hx;exact h;exact p.subset (hd' i' ⋯ x hx)
 k_lt Z;refine Z _ _ (hV ?_);exists _,hZ,at',yb (st:=kq) (c:=.ref st.length) (ns:=G') (dG xq);refine hZ _ _ ⟨λhcn=>?_,λhcn=>?_⟩;have hnm:aj.app zs y ∉ G':=λz=>by rw[Ug.mpr z]at hcn;cases hcn
 have LN:aj.Fd xs ys (G' ++ [aj.app zs y]):=by
  refine⟨Ui _ yk.z,?_,λx hx=>?_⟩;rw[Vu];refine⟨yk.nd,by simp,λx hx y' hy e=>hnm ?_⟩;have e2:y'=aj.app zs y:=by simpa using hy
  rw[<- e2,<- e];exact hx;rcases Tw.mp hx with h|h
  exact yk.mt x h;have e2:x=aj.app zs y:=by simpa using h
  rw[e2];exact go _ hR
 have hlen2:=LN.len tx ty n0;rw[Td]at hlen2;refine x9 ?_;exists _,Hk,at',kD xq;refine⟨t5 (by rw[dG xq];rfl),fJ (by rw[S8];simp at hlen2;lk),Hk _ _ ⟨_,G' ++ [aj.app zs y],rfl,?_,?_,LN,pG.trans (Vp _ _),hnext _ (Vp _ _) (by simp),k4.loc (Tc _)⟩⟩;rw[TB (iJ xq),TN];rfl;rw[TQ (by have:=iJ Cd;lk)];exact Hj;have hcn:G'.contains (aj.app zs y)=true:=by simpa using hcn
 exact iI ⟨_,G',rfl,xq,Hj,yk,pG,hnext G' (UM _) (Ug.mp hcn),k4⟩;rintro I kq ⟨v4,G',rfl,xq,Hj,yk,pG,hd',k4⟩;rw[S8]at hd';have hall:∀x∈G,aj.app zs x∈G':=λx hx=>by
  obtain⟨i',hi',e⟩:=UY hx;exact hd' i' hi' x (by rw[Tj hi',e])
 refine⟨_,_,G',rfl,xq,yk,λz=>by lk,λz=>?_,λz=>?_,k4⟩;rcases em with⟨rfl,rfl⟩|⟨rfl,_⟩
 have:=m0 rfl
 subst this;exact⟨pG,hall⟩;lk;rcases em with⟨rfl,_⟩|⟨rfl,rfl⟩
 lk;obtain⟨p1,c1⟩:=m1 rfl;exact⟨G,p1,pG,c1,hall⟩;rintro I st3 ⟨v3,v4,G,rfl,Cd,hG,_,_,m2,k3⟩;obtain⟨F1,p1,p2,c1,c2⟩:=m2 (Tc 2);exact⟨_,_,_,G,rfl,Cd,hG,aj.round hF hG p1 p2 c1 c2 hcl,k3⟩;rintro I st2 ⟨v2,v3,v4,F,rfl,Hi,hF,hcl,k2⟩;rw[jr]at hcl;have hl:=hF.len tx ty n0;have hc:aj.Cl xs ys F:=hcl.resolve_right ⋯;refine hJ ?_;k_lt Z;exact Z _ _ ⟨_,F,rfl,dG Hi,λx=>⟨hF.mt x,λh=>hc.all hF.z h⟩,⟨hl,hF.nd⟩,k2⟩
def LO{st:Store}{I:ai}{X Y:List Int}{n:Nat}{Q:D->Store->Prop}(tX:aj.Tn n X)(tY:aj.Tn n Y)(n0:0<n)(hn:n<=100)(h1:I[1]?=some (some (.int (n:Int))))(h6:I[6]?=some (some (jb X Y)))
  (q:∀(L:List Int) (st':Store),L.length<=n->L.Nodup->(∀x,x∈L↔(0<=x/\x<(n:Int)/\¬aj.i6 X Y x))->Ex [] st st'->Q (.ref st'.length) (st' ++ [.lst (L.map D.int)])) :
  Wp (eP (dw (ae (ag 1) ah)) 1 [6] (hName 0) (aA (aF (oR true) (ag 0) (aQ xi (ae (ag 1) ah)))) (ag 0) I st) Q:=by
 have RF:I.getD 6 none=some (jb X Y):=by rw[TV,h6];rfl
 refine Gf (aD 0 n) (λj zs I' jF=>∃(v:Option D) (L:List Int),I'=[v,some (jb X Y)]/\zs=L.map D.int/\L.length<=j/\L.Nodup/\(∀x,x∈L↔(0<=x/\x<(j:Int)/\¬aj.i6 X Y x))/\Ex [] st jF) ?_ (by rw[jr];lk) ?_ ?_ ?_;exists _,Z,h1;refine⟨by lk,Z _ _ ⟨λi ys I st hi _=>?_,none,[],?_,rfl,Tc _,List.nodup_nil,λx=>⟨(λh=>nomatch h),λh=>by lk⟩,Ex.refl⟩⟩;rw[T9];show(if i<=(aD 0 n).length then some (aD 0 n)[i]? else none)=_;rw[if_pos hi];unfold mF;simp only[Um,List.map_nil,RF];rfl;rintro j zs I' jF ⟨v,L,_,rfl,hl,_⟩;rw[S8];exact hl;rintro j d zs I' jF hd ⟨v,L,rfl,rfl,qM,nd,hL,k8⟩;have hjl:=iJ hd;rw[jr]at hjl;rw[Ae hjl]at hd;cases hd;rw[VF];k_lt Z;refine Z _ _ ?_;k_lt hZ;refine aY (LL (st:=jF) tX tY n0 hn) ?_;rintro d nr ⟨g,F,rfl,hg,hF,LP,k9⟩;rw[yb (c:=.ref g) (ns:=F) hg];refine⟨_,rfl,hZ _ _ ⟨λhc=>?_,λhc=>?_⟩⟩;have hR:¬aj.i6 X Y (j:Int):=λh=>by rw[Ug.mpr ((hF _).mpr h)]at hc;cases hc
 k_lt Hk;refine Hk _ _ ⟨_,L ++ [(j:Int)],rfl,by rw[TN];rfl,by rw[Td];simp;lk,?_,λx=>?_,k8.trans k9⟩;rw[Vu];refine⟨nd,by simp,λx hx y hy e=>?_⟩;have e2:y=(j:Int):=by simpa using hy
 have:=((hL x).mp hx).2.1;lk
 rw[Tw,hL x];constructor;rintro(⟨a1,a2,a3⟩|h);exact⟨a1,by lk,a3⟩;have e2:x=(j:Int):=by simpa using h
 rw[e2];exact⟨by lk,by lk,hR⟩;rintro⟨a1,a2,a3⟩;rcases Int.lt_or_le x (j:Int)with h|h
 exact .inl ⟨a1,h,a3⟩;exact .inr (by simp;lk);have hc:F.contains (j:Int)=true:=by simpa using hc
 have hR:=(hF _).mp (Ug.mp hc);refine⟨_,L,rfl,rfl,by lk,nd,λx=>?_,k8.trans k9⟩;rw[hL x];constructor;rintro⟨a1,a2,a3⟩;exact⟨a1,by lk,a3⟩;rintro⟨a1,a2,a3⟩;refine⟨a1,?_,a3⟩;rcases Int.lt_or_le x (j:Int)with h|h
 exact h;exact absurd hR (by rw[show(j:Int)=x by lk];exact a3);rintro zs I' jF ⟨v,L,rfl,rfl,qM,nd,hL,k8⟩;rw[jr]at qM hL;exact q L jF qM nd hL k8
def RG{st:Store}{f n:Nat}(hf:aL st f)(n1:1<=n)(RH:n<=20):Wp (DZ [.ref f,.int (n:Int)] st) λd st'=>∃xs ys:List Int,d=jb xs ys/\Gr n xs ys/\aL st' f/\Ex [f] st st':=by
 have hfl:=hf.lt;refine Bc ?_;intro qR;show Ws (Bw [some (.ref f),some (.int (n:Int)),none,none,none,none,none,none,none] st) _ _ _ _;unfold Bw;refine aZ (cM ?_);k_lt Z;refine aY (mM (n:=6) hf ∅ ∅) ?_;rintro d st1 ⟨form,rfl,g0,g6,f1,k1⟩;refine Z _ _ (aZ (Dw ?_));k_lt2 Z;refine aY (LJ (n:=n) f1 ⋯) ?_;rintro d st2 ⟨X,rfl,tX,f2,k2⟩;w_how;refine aY (LJ (n:=n) (f2.keep (Ex.aM [.lst (X.map D.int)])) ⋯) ?_;rintro d st3 ⟨Y,rfl,tY,f3,k3⟩;w_how;refine Z _ _ ⟨_,_,rfl,?_⟩;clear Z;have Cf:st3[st2.length]?=some (.lst (X.map D.int)):=k3.keep _ _ iK (by have:=f2.lt;simp;lk);have two:lU st (st3 ++ [.lst (Y.map D.int)]) f st2.length st3.length n X Y:=⟨jg Cf,iK,by have:=iJ Cf;lk,(k1.trans k2).len,((k1.trans k2).trans ((Ex.aM _).trans k3)).len,tX,tY,f3.keep (Ex.aM _),(((k1.trans k2).app _).trans k3).app _⟩;show Ws _ _ _ _ _;generalize (st3 ++ [O.lst (Y.map D.int)])=kq at two ⊢;generalize st2.length=r at two ⊢;generalize st3.length=u at two ⊢;clear Cf tX tY f3 k3 f2 k2 f1 k1
 let Cg:IN:=λI mW=>∃(r u:Nat) (X Y:List Int),I=[some (.ref f),some (.int (n:Int)),some (.int form),some (.ref r),some (.ref u),none,none,none,none]/\lU st mW f r u n X Y
 refine aZ (Ap (N:=Cg) (hV ?_) ?_);k_lt Z;refine Z _ _ ⟨λ_=>cM ?_,λ_=>iI ⟨r,u,X,Y,rfl,two⟩⟩;k_lt hZ;rw[<- Gq];refine⟨qQ ⋯,rfl,fJ (by rw[jr];simp;lk),hZ _ _ ⟨_,u,_,Y,rfl,(two.keep (((Ex.aM _).app _).app _)).wF (aj.JP (show n<21 by lk) ⋯)⟩⟩;rintro I mW ⟨r,u,X,Y,rfl,two⟩
 let Hl:IN:=λI mW=>∃(r u:Nat) (X Y:List Int),I=[some (.ref f),some (.int (n:Int)),some (.int form),some (.ref r),some (.ref u),none,none,none,none]/\lU st mW f r u n X Y
 refine aZ (Ap (N:=Hl) (hV ?_) ?_);k_lt Z;refine Z _ _ ⟨λ_=>Dw ?_,λ_=>iI ⟨r,u,X,Y,rfl,two⟩⟩;k_lt hZ;rw[<- Gq,show((n:Int)-0).toNat=n by lk,ya];refine⟨qQ ⋯,qQ ⋯,rfl,fJ (by rw[jr];simp;lk),hZ _ _ ⟨_,_,rfl,_,_,_,_,rfl,(((two.keep (Ex.aM [.fR 0 (n:Int)])).wF (Z:=aj.upto n) (U2 _)).keep (((Ex.aM _).app _).app _)).wG (aj.JP (show n<21 by lk) ⋯)⟩⟩;rintro I Dt ⟨r,u,X,Y,rfl,two⟩
 let Hm:IN:=λI mW=>∃(r u:Nat) (v5:Option D) (X Y:List Int),I=[some (.ref f),some (.int (n:Int)),some (.int form),some (.ref r),some (.ref u),v5,none,none,none]/\lU st mW f r u n X Y
 refine aZ (Ap (N:=Hm) (hV ?_) ?_);k_lt Z;refine Z _ _ ⟨λ_=>aZ (cM ?_),λ_=>iI ⟨r,u,none,X,Y,rfl,two⟩⟩;k_lt hZ;refine aY (mM (n:=(n:Int)) two.fd ⋯ ⋯) ?_;rintro d rD ⟨w,rfl,w0,w1,f7,k7⟩;obtain⟨wd,rfl⟩:∃wd:Nat,w=(wd:Int)-1:=⟨(w+1).toNat,by lk⟩;have t7:lU st rD f r u n X Y:=⟨k7.keep _ _ two.hr (by have:=two.r0;simp;lk),k7.keep _ _ two.hu (by have:=two.u0;simp;lk),two.ne,two.r0,two.u0,two.tX,two.tY,f7,two.ex.trans k7⟩;w_how;rw[show(1:Int)+((wd:Int)-1)=(wd:Int) by lk];refine hZ _ _ (aZ (cM ?_));clear hZ Z;k_lt hZ;rw[<- wH];refine⟨qQ ⋯,rfl,fJ (by rw[jr];simp;lk),qQ ⋯,fJ (by rw[Td,jr,jr];simp;lk),hZ _ _ (aZ (cM ?_))⟩;clear hZ;have t8:=(t7.keep ((((((Ex.aM [.fR 1 (wd:Int)]).app [.lst (aD 1 ((wd:Int)-1).toNat)]).app [.lst [.int 0]]).app [.lst (aD 1 ((wd:Int)-1).toNat ++ [.int 0])]).app [.fR (wd:Int) (n:Int)]).app [.lst (aD (wd:Int) ((n:Int)-(wd:Int)).toNat)])).wF (aj.O3 (w:=wd) (show n<21 by lk) ⋯ ⋯);generalize RI:(rD ++ _ ++ _ ++ _ ++ _ ++ _ ++ _ ++ _:Store)=jF at t8 ⊢;generalize List.length _=r8 at t8 ⊢;k_lt hZ;refine⟨rfl,qQ ⋯,fJ (by simp[jr];lk),qQ ⋯,fJ (by simp[jr];lk),rfl,fJ (by simp[jr];lk),hZ _ _ (hV ?_)⟩;clear hZ;generalize RJ:(jF ++ _ ++ _ ++ _ ++ _ ++ _ ++ _ ++ _ ++ _ ++ _:Store)=Ef;have tE:lU st Ef f r8 u n (aj.qo wd n) Y:=by rw[<- RJ];exact t8.keep (((((((((Ex.aM _).app _).app _).app _).app _).app _).app _).app _).app _)
 k_lt Z;refine Z _ _ ⟨λhw=>?_,λhw=>?_⟩;refine cM ?_;k_lt hZ;rw[show((n:Int)-0).toNat=n by lk,ya];exact⟨qQ ⋯,hZ _ _ ⟨r8,_,_,_,_,rfl,(tE.keep ((Ex.aM _).app _)).wG (U2 _)⟩⟩;have hne:wd≠n:=λz=>by simp[z]at hw
 have tF:=tE.wG (aj.O4 (w:=wd) (show n<21 by lk) ⋯ ⋯);rw[wI ⋯ ⋯]at tF;exact iI ⟨r8,_,_,_,_,rfl,tF⟩;rintro I rD ⟨r,u,v5,X,Y,rfl,two⟩;have n0:0<n:=by lk
 refine aZ (cM ?_);exists _,Z,dG two.hr,dG two.hu;refine⟨rfl,Z _ _ (aZ (cM (LO (X:=X) (Y:=Y) two.tX two.tY n0 ⋯ rfl rfl ?_)))⟩;clear Z;intro L jF qM nd hL k8;have t8:=(two.keep k8).keep (Ex.aM [.lst (L.map D.int)])
 let RK:IV:=λmm I nr=>∃(pa:Nat) (X L:List Int) (v8:Option D),mm=L.length/\I=[some (.ref f),some (.int (n:Int)),some (.int form),some (.ref r),some (.ref u),v5,some (jb X Y),some (.ref pa),v8]/\lU st nr f r u n X Y/\items nr pa=some (L.map D.int)/\L.length<=n/\L.Nodup/\(∀x,x∈L↔(0<=x/\x<(n:Int)/\¬aj.i6 X Y x))
 refine aZ (Ge RK L.length (UD qM (UD RH ∅)) ⟨_,X,L,none,rfl,rfl,t8,ja,qM,nd,hL⟩ ?_);rintro mm I nr ⟨pa,X,L,v8,rfl,rfl,two,hpa,qM,nd,hL⟩;have SU:=two.tX.length;have xr:items (nr ++ [O.lst []]) pa=some (L.map D.int):=by
  unfold items at hpa ⊢;cases e:nr[pa]? with
  |none=>rw[e]at hpa;cases hpa
  |some o=>rw[jg e];rw[e]at hpa;exact hpa
 exists _,Z,Gn (L:=L) (M:=[]) (st:=nr ++ [O.lst []]) xr ja;refine⟨rfl,Z _ _ ⟨λh=>?_,λh=>?_⟩⟩;have hne:L≠[]:=by simpa using h
 clear Z;obtain⟨m,L1,rfl⟩:∃m L1,L=m :: L1:=by cases L with|nil=>exact absurd rfl hne|cons m L1=>exact⟨m,L1,rfl⟩
 obtain⟨m0,m1,mR⟩:=(hL m).mp Te;have t2:=two.keep (Ex.aM [O.lst []]);generalize (nr ++ [O.lst []])=Ef at xr t2 ⊢;refine aZ (cM ?_);exists _,Z,xr,Um;refine Z _ _ (aZ (Aq ?_));clear Z;exists _,Z,dG t2.hr,Dz (xs:=X) m0 ⋯,Dz (xs:=X) (i:=0) ∅ ⋯;refine⟨rfl,Z _ _ ?_⟩;clear Z;have i0:kR (X.map D.int).length 0=some 0:=zo (j:=0) (by rw[S8];lk);have im:kR ((X.map D.int).set 0 (.int (aj.app X m))).length m=some m.toNat:=by
  rw[T8];have:=zo (n:=(X.map D.int).length) (j:=m.toNat) (by rw[S8];lk)
  rwa [Uw m0]at this
 have Cf:(Ef.set r (.lst ((X.map D.int).set 0 (.int (aj.app X m)))))[r]?=some (.lst ((X.map D.int).set 0 (.int (aj.app X m)))):=TB (iJ t2.hr);have eS:((X.map D.int).set 0 (.int (aj.app X m))).set m.toNat (.int (aj.app X 0))=(aj.kH X m.toNat).map D.int:=by
  unfold aj.kH;rw[Uw m0,VG,VG]
 exists _,Z,kD t2.hr,kD Cf,i0,im,eS;refine⟨rfl,Z _ _ (aZ (cM ?_))⟩;clear Z;have tS:=aj.vq t2.tX (m:=m.toNat) ⋯;have hmet:=aj.OY t2.tX t2.tY (m:=m.toNat) ⋯ (by rw[Uw m0];exact mR);rw[Uw m0]at hmet;rw[List.set_set];have t3:=t2.put (Z:=aj.kH X m.toNat) tS hfl;generalize Ef.set r _=st3 at t3 ⊢;exists _,Z,dG t3.hr,dG t3.hu;refine⟨rfl,Z _ _ (cM (LO (X:=aj.kH X m.toNat) (Y:=Y) t3.tX t3.tY n0 ⋯ rfl rfl ?_))⟩;intro L' kq Ho LQ hL' k4;refine⟨_,?_,kq.length,aj.kH X m.toNat,L',_,rfl,rfl,(t3.keep k4).keep (Ex.aM _),ja,Ho,LQ,hL'⟩;refine aj.less (m:=m) LQ (λx hx=>?_) Te (λh=>((hL' m).mp h).2.2 hmet.1);obtain⟨a1,a2,a3⟩:=(hL' x).mp hx;exact(hL x).mpr ⟨a1,a2,λh=>a3 (hmet.2 x h)⟩;have he:L=[]:=by simpa using h
 subst he;refine hJ ?_;k_lt hZ;have t2:=two.keep (Ex.aM [O.lst []]);refine hZ _ _ ⟨X,Y,rfl,⟨t2.tX,t2.tY,λx x0 x1=>?_⟩,t2.fd,t2.ex⟩;exact Classical.byContradiction λh=>nomatch (hL x).mpr ⟨x0,x1,h⟩
def RL{F:List Int}{x:Int}:(!F.contains x)=true->aj.dB F x=F ++ [x]:=λh=>by
 unfold aj.dB;rw[if_neg λz=>by rw[Ug.mpr z]at h;cases h]
def RM{F:List Int}{x:Int}:(!F.contains x)=false->aj.dB F x=F:=λh=>by
 unfold aj.dB;rw[if_pos (Ug.mp (by simpa using h))]
def RN{st:Store}{xs ys:List Int}{n:Nat}{s:Int}(tx:aj.Tn n xs)(ty:aj.Tn n ys)(hn:n<=100)(s0:0<=s)(s1:s<(n:Int)):Wp (BO [jb xs ys,.int s] st) λd st'=>d=.tup ((aj.bf xs ys s n).map D.int)/\Ex [] st st':=by
 have hlx:=tx.length;have RC:=ty.length;refine Bc ?_;intro qR;show Ws (BN [some (jb xs ys),some (.int s),none,none,none,none] st) _ _ _ _;unfold BN;refine aZ (cM ?_);k_lt Z;refine⟨rfl,Z _ _ (aZ (cM ?_))⟩;k_lt2 Z
 let Cg:IV:=λm I st2=>∃(k:Nat) (v4 v5:Option D),m=n-k/\I=[some (jb xs ys),some (.int s),some (.ref st.length),some (.int (k:Int)),v4,v5]/\st2[st.length]?=some (.lst ((aj.bf xs ys s k).map D.int))/\k<=(aj.bf xs ys s k).length/\Ex [] st st2
 refine Z _ _ (aZ (Ge Cg n (UD hn ∅) ⟨0,none,none,by lk,rfl,iK,Uq _,Ex.aM _⟩ ?_));clear Z;rintro m I st2 ⟨k,v4,v5,rfl,rfl,hl,hk,k2⟩;have SV:=aj.FR tx ty s0 s1 k;exists _,Z,dG hl;refine Z _ _ ⟨λhlt=>?_,λhlt=>?_⟩;clear Z;have hlt:=of_decide_eq_true hlt;rw[S8]at hlt;have su:k<(aj.bf xs ys s k).length:=by lk
 obtain⟨x,hx⟩:∃x,(aj.bf xs ys s k)[k]?=some x:=⟨_,Tj su⟩;obtain⟨x0,x1⟩:=aj.FQ tx ty s0 s1 k x (TL hx);have e1:aj.bf xs ys s (k+1)=aj.visit xs ys (aj.bf xs ys s k) x:=by
  show(match (aj.bf xs ys s k)[k]? with|some x=>aj.visit xs ys (aj.bf xs ys s k) x|none=>aj.bf xs ys s k)=_;rw[hx]
 have hb1:=aj.FR tx ty s0 s1 (k+1);rw[e1]at hb1;have hp1:=(aj.zN (aj.dB (aj.bf xs ys s k) (aj.app xs x)) (aj.app ys x)).length_le;have hp0:=(aj.zN (aj.bf xs ys s k) (aj.app xs x)).length_le;change _<=(aj.visit xs ys (aj.bf xs ys s k) x).length at hp1;refine aZ (rZ [.tup (xs.map D.int),.tup (ys.map D.int)] (λm I st3=>∃(v4 v5:Option D) (G:List Int),I=[some (jb xs ys),some (.int s),some (.ref st.length),some (.int (k:Int)),v4,v5]/\st3[st.length]?=some (.lst (G.map D.int))/\(m=0->G=aj.bf xs ys s k)/\(m=1->G=aj.dB (aj.bf xs ys s k) (aj.app xs x))/\(m=2->G=aj.visit xs ys (aj.bf xs ys s k) x)/\Ex [] st st3) ?_ (by simp) ?_ ?_);unfold jb;k_lt Z;exact Z _ _ ⟨rfl,v4,v5,_,rfl,hl,λ_=>rfl,λz=>by lk,λz=>by lk,k2⟩;rintro m z I st3 hm ⟨v4,v5,G,rfl,hl3,g0,g1,_,k3⟩;have hm2:m<2:=iJ hm;obtain⟨zs,rfl,tz,em⟩:∃(zs:List Int),z=.tup (zs.map D.int)/\aj.Tn n zs/\((m=0/\zs=xs)\/(m=1/\zs=ys)):=by
  rcases(show m=0\/m=1 by lk)with rfl|rfl
  exact⟨xs,by simpa using hm.symm,tx,.inl ⟨rfl,rfl⟩⟩;exact⟨ys,by simpa using hm.symm,ty,.inr ⟨rfl,rfl⟩⟩
 have hG:G.length<=100/\G[k]?=some x:=by
  rcases em with⟨rfl,_⟩|⟨rfl,_⟩
  rw[g0 rfl];exact⟨by lk,hx⟩;rw[g1 rfl];refine⟨by lk,?_⟩;obtain⟨t,e⟩:=aj.zN (aj.bf xs ys s k) (aj.app xs x);rw[<- e,TX su];exact hx
 have LR:∀G',G'=aj.dB G (aj.app zs x)->(m+1=0->G'=aj.bf xs ys s k)/\(m+1=1->G'=aj.dB (aj.bf xs ys s k) (aj.app xs x))/\(m+1=2->G'=aj.visit xs ys (aj.bf xs ys s k) x):=λG' e=>by
  rcases em with⟨rfl,rfl⟩|⟨rfl,rfl⟩
  exact⟨λz=>by lk,λ_=>by rw[e,g0 rfl],λz=>by lk⟩;exact⟨λz=>by lk,λz=>by lk,λ_=>by rw[e,g1 rfl];rfl⟩
 have hat:iH (G.map D.int) (k:Int)=some (.int x):=mh (by rw[TC,hG.2];rfl);k_lt Z;refine Z _ _ (aZ (cM ?_));clear Z;exists _,Z,dG hl3,hat,Dz (xs:=zs) x0 (by rw[tz.length];exact x1);refine Z _ _ (hV ?_);clear Z;exists _,Z,yb (st:=st3) (c:=.ref st.length) (ns:=G) (dG hl3);refine Z _ _ ⟨λhc=>x9 ?_,λhc=>iI ?_⟩;obtain⟨n0,n1,n2⟩:=LR (G ++ [aj.app zs x]) (RL hc).symm;exists _,hZ,kD hl3;refine⟨t5 (by rw[dG hl3];rfl),fJ (by rw[S8];lk),hZ _ _ ⟨_,_,G ++ [aj.app zs x],rfl,?_,n0,n1,n2,k3.loc (Tc _)⟩⟩;rw[TB (iJ hl3),TN];rfl;obtain⟨n0,n1,n2⟩:=LR G (RM hc).symm;exact⟨_,_,G,rfl,hl3,n0,n1,n2,k3⟩;rintro I st3 ⟨v4,v5,G,rfl,hl3,_,_,g2,k3⟩;have g2:=g2 rfl;subst g2;refine cM ?_;k_lt Z;refine Z _ _ ⟨n-(k+1),by lk,k+1,v4,v5,rfl,by simp,by rw[e1];exact hl3,by rw[e1];lk,k3⟩;have hlt:=of_decide_eq_false hlt;rw[S8]at hlt;have hle:(aj.bf xs ys s k).length<=k:=by lk
 have e:aj.bf xs ys s n=aj.bf xs ys s k:=by
  have:=aj.FP hle (n-k)
  rwa [show k+(n-k)=n by lk]at this
 refine hJ ?_;exists _,hZ,dG hl;rw[<- e];exact hZ _ _ ⟨rfl,k2⟩
abbrev tI(xs:List Int):D:=.tup (xs.map D.int)
abbrev RO(w:Str)(k:Int):List (Str×D):=[("word",.str w),("at",.int k)]
abbrev iy(w:Str)(k:Int)(d:D)(st:Store):Prop:=∃i,d=.ref i/\st[i]?=some (.exc "NoFloor" (RO w k))
abbrev RP(o:Option Nat):D:=.bl o.isSome
def xt{xs:List Int}{k:Nat}(h:k<xs.length):iH (xs.map D.int) (k:Int)=some (.int (xs.getD k 0)):=by refine mh ?_;rw[TC,Tj h,TV,Tj h];rfl
def xu{xs:List Int}{k:Nat}:aj.bad xs k=(!(decide (0<=xs.getD k 0) && decide (xs.getD k 0<(xs.length:Int))) || (xs.take k).contains (xs.getD k 0)):=by unfold aj.bad;rw[show decide (xs.getD k 0<0)=!decide (0<=xs.getD k 0)from by rw[<- decide_not];congr 1;exact propext ⟨λh=>by lk,λh=>by lk⟩];rw[show decide ((xs.length:Int)<=xs.getD k 0)=!decide (xs.getD k 0<(xs.length:Int))from by rw[<- decide_not];congr 1;exact propext ⟨λh=>by lk,λh=>by lk⟩];cases decide (0<=xs.getD k 0)<;>cases decide (xs.getD k 0<(xs.length:Int))<;>simp
def LS{st:Store}{xs:List Int}(hl:xs.length<=1200):Wp (B6 [tI xs] st) λd st'=>d=RP (aj.am xs)/\Ex [] st st':=by
 refine mG ?_;show Ws (B5 [some (tI xs),none] st) _ _ _ _;unfold B5 tI;refine aZ (rZ (aD 0 xs.length) (λi I s=>∃v:Option D,I=[some (.tup (xs.map D.int)),v]/\(∀j,j<i->aj.bad xs j=false)/\s=st) ?_ (by rw[jr];lk) ?_ ?_);k_lt Z;rw[S8,T9];exact⟨by lk,Z _ _ ⟨rfl,none,rfl,(λj hj=>nomatch hj),rfl⟩⟩;rintro i d I s hd ⟨v,rfl,hb,rfl⟩;have hil:=iJ hd;rw[jr]at hil;rw[Ae hil,VF]at hd;cases hd;k_lt Z;refine Z _ _ (hV ?_);clear Z;have e1:cutD (xs.map D.int) none (some (i:Int))=(xs.take i).map D.int:=by rw[qA,Uz]
 refine bJ ?_;intro xv;intro Z;exists Lg,xt hil,e1,yb (c:=.tup ((xs.take i).map D.int)) (ns:=xs.take i) rfl;have key:xv (aj.bad xs i) s:=by
  refine Z _ _ ⟨λh=>hJ ?_,λh=>iI ⟨_,rfl,λj hj=>?_,rfl⟩⟩;k_lt2 Z;exact Z _ _ ⟨by unfold aj.am;rw[aj.FT hil hb h];rfl,Ex.refl⟩;by_cases z:j=i;rw[z];exact h;exact hb j ⋯
 clear Z;rw[xu]at key;by_cases h0:0<=xs.getD i 0;refine .inl ⟨decide_eq_true h0,?_⟩;by_cases h1:xs.getD i 0<(xs.length:Int);rw[S8,decide_eq_true h1,if_neg ∅];rw[decide_eq_true h0,decide_eq_true h1]at key;exact key;rw[S8,decide_eq_false h1,if_pos ∅];rw[decide_eq_true h0,decide_eq_false h1]at key;exact key;exact .inr ⟨decide_eq_false h0,by rw[decide_eq_false h0]at key;exact key⟩;rintro I s ⟨v,rfl,hb,rfl⟩;rw[jr]at hb;refine hJ ?_;k_lt Z;exact Z _ _ ⟨by unfold aj.am;rw[aj.Dd hb];rfl,Ex.refl⟩
def LU{st:Store}{xs:List Int}{w:Str}(hl:xs.length<=1200):Wp (xk [tI xs,.str w] st) λd st'=>Ex [] st st'/\match aj.am xs with
  |some k=>iy w (k:Int) d st'
  |none=>d=.non:=by
 refine mG ?_;show Ws (D4 [some (tI xs),some (.str w),none,none] st) _ _ _ _;unfold D4 tI;refine rZ (ki (xs.map D.int)) (λi I s=>∃v u:Option D,I=[some (.tup (xs.map D.int)),some (.str w),v,u]/\(∀j,j<i->aj.bad xs j=false)/\s=st) ?_ (by rw[Dq,S8];lk) ?_ ?_;k_lt Z;exact Z _ _ ⟨rfl,none,none,rfl,(λj hj=>nomatch hj),rfl⟩;rintro i d I s hd ⟨v,u,rfl,hb,rfl⟩;have hil:=iJ hd;rw[Dq,S8]at hil;obtain⟨y,hy,rfl⟩:=Kx hd;have ey:y=.int (xs.getD i 0):=by
  rw[TC,Tj hil]at hy;cases hy;rw[TV,Tj hil];rfl
 subst ey;refine⟨_,_,rfl,hV ?_⟩;have e1:cutD (xs.map D.int) none (some (i:Int))=(xs.take i).map D.int:=by rw[qA,Uz]
 refine bJ ?_;intro xv;intro Z;exists e1,yb (c:=.tup ((xs.take i).map D.int)) (ns:=xs.take i) rfl;have key:xv (aj.bad xs i) s:=by
  refine Z _ _ ⟨λh=>uc ?_,λh=>lX (iI ⟨_,_,rfl,λj hj=>?_,rfl⟩)⟩;k_lt2 Z;have ea:aj.am xs=some i:=aj.FT hil hb h;exact Z _ _ (by rw[ea];exact⟨Ex.aM _,_,rfl,iK⟩);by_cases z:j=i;rw[z];exact h;exact hb j ⋯
 clear Z;unfold aj.bad at key;rw[S8];cases z0:decide (xs.getD i 0<0)with
 |true=>rw[z0]at key;exact key
 |false =>
  rw[z0]at key;cases z1:decide ((xs.length:Int)<=xs.getD i 0)with
  |true=>rw[z1]at key;exact key
  |false=>rw[z1]at key;exact key
 rintro I s ⟨v,u,rfl,hb,rfl⟩;rw[Dq,S8]at hb;unfold aj.am;rw[aj.Dd hb];exact⟨Ex.refl,rfl⟩
def RQ{st:Store}{xs ys:List Int}{n:Nat}(tx:aj.Tn n xs)(ty:aj.Tn n ys)(n0:0<n)(hn:n<=100):Wp (BQ [jb xs ys] st) λd st'=>Ex [] st st'/\match aj.fu xs ys n with
  |some k=>iy "parted" (k:Int) d st'
  |none=>d=.non:=by
 refine mG ?_;show Ws (D5 [some (jb xs ys),none,none] st) _ _ _ _;unfold D5;have u5:∀{s:Store} {Q:D->Store->Prop},Wp (je (jb xs ys) (.int 0) s) Q↔Q (tI xs) s:=aT;have RS:∀s:Store,br s (tI xs)=some (xs.map D.int):=λ_=>rfl;refine aZ (lX (cM ?_));k_lt Z;refine aY (RN tx ty hn (Int.le_refl 0) ⋯) ?_;rintro d s1 ⟨rfl,k1⟩;refine Z _ _ (rZ (aD 0 n) (λi I s=>∃v:Option D,I=[some (jb xs ys),some (.tup ((aj.bf xs ys 0 n).map D.int)),v]/\(∀j,j<i->(!(aj.bf xs ys 0 n).contains (j:Int))=false)/\s=s1) ?_ (by rw[jr];lk) ?_ ?_);clear Z;exists _,Z,u5,RS;rw[S8,tx.length,T9];exact⟨by lk,Z _ _ ⟨rfl,none,rfl,(λj hj=>nomatch hj),rfl⟩⟩;clear Z;rintro i d I s hd ⟨v,rfl,hb,rfl⟩;have hil:=iJ hd;rw[jr]at hil;rw[Ae hil,VF]at hd;cases hd;k_lt Z;refine Z _ _ (hV ?_);clear Z;exists _,Z,yb (c:=.tup ((aj.bf xs ys 0 n).map D.int)) (ns:=aj.bf xs ys 0 n) rfl;refine Z _ _ ⟨λh=>uc ?_,λh=>lX (iI ⟨_,rfl,λj hj=>?_,rfl⟩)⟩;k_lt2 Z;have ea:aj.fu xs ys n=some i:=aj.FT hil hb h;exact Z _ _ (by rw[ea];exact⟨k1.trans (Ex.aM _),_,rfl,iK⟩);by_cases z:j=i;rw[z];exact h;exact hb j ⋯;clear Z;rintro I s ⟨v,rfl,hb,rfl⟩;rw[jr]at hb;unfold aj.fu;rw[aj.Dd hb];exact⟨k1,rfl⟩
abbrev du(xs ys:List Int):Option (Str×Int):=if xs.length<1\/20<xs.length\/ys.length≠xs.length then some ("sizes",(xs.length:Int))else match aj.am xs with
 |some k=>some ("right",(k:Int))
 |none=>match aj.am ys with
  |some k=>some ("up",(k:Int))
  |none=>match aj.fu xs ys xs.length with
   |some s=>some ("parted",(s:Int))
   |none=>none
abbrev RT(o:Option (Str×Int))(d:D)(st:Store):Prop:=match o with
 |some (w,k)=>iy w k d st
 |none=>d=.bl true
def Ci{w:Str}{k:Int}{d:D}{st:Store}(h:iy w k d st):aE d st=true:=by obtain⟨i,rfl,hi⟩:=h;simp[aE,hi]
def RU{st:Store}{xs ys:List Int}(hx:xs.length<=1200)(hy:ys.length<=1200):Wp (BS [jb xs ys] st) λd st'=>Ex [] st st'/\RT (du xs ys) d st':=by
 refine mG ?_;show Ws (D6 [some (jb xs ys),none,none] st) _ _ _ _;unfold D6;have u5:∀{s:Store} {Q:D->Store->Prop},Wp (je (jb xs ys) (.int 0) s) Q↔Q (tI xs) s:=aT;have hf1:∀{s:Store} {Q:D->Store->Prop},Wp (je (jb xs ys) (.int 1) s) Q↔Q (tI ys) s:=aT;have xw:∀s:Store,br s (tI xs)=some (xs.map D.int):=λ_=>rfl;have Hq:∀s:Store,br s (tI ys)=some (ys.map D.int):=λ_=>rfl;refine aZ (lX (cM ?_));exists _,Z,u5;refine Z _ _ (aZ (lX (cM ?_)));clear Z;exists _,Z,hf1;refine Z _ _ (aZ (hV ?_));clear Z;refine bJ ?_;intro xv;intro Z;exists xw,Hq;have key:xv (decide (xs.length<1\/20<xs.length\/ys.length≠xs.length)) st:=by
  refine Z _ _ ⟨λh=>uc ?_,λh=>lX (iI (aZ (DJ ?_)))⟩;have h:=of_decide_eq_true h;clear Z;exists _,Z,xw;refine Z _ _ ⟨Ex.aM _,?_⟩;unfold du;rw[if_pos h,S8];exact⟨_,rfl,iK⟩;have h:=of_decide_eq_false h
  have ed:du xs ys=(match aj.am xs with
   |some k=>some ("right",(k:Int))
   |none=>match aj.am ys with
    |some k=>some ("up",(k:Int))
    |none=>match aj.fu xs ys xs.length with
     |some s=>some ("parted",(s:Int))
     |none=>none):=by unfold du;rw[if_neg h]
  rw[ed];clear Z ed;k_lt Z;refine Z _ _ ?_;clear Z;refine aY (LU (xs:=xs) (w:="right") hx) ?_;rintro d s1 ⟨k1,h1⟩;cases ax:aj.am xs with
  |some k =>
   rw[ax]at h1;exact⟨λ_=>⟨k1,h1⟩,λz=>by rw[Ci h1]at z;cases z⟩
  |none =>
   rw[ax]at h1;subst h1;refine⟨λz=>(by cases(show false=true from z)),λ_=>aZ (DJ ?_)⟩;k_lt Z;refine Z _ _ ?_;clear Z;refine aY (LU (xs:=ys) (w:="up") hy) ?_;rintro d s2 ⟨k2,h2⟩;cases ay:aj.am ys with
   |some k =>
    rw[ay]at h2;exact⟨λ_=>⟨k1.trans k2,h2⟩,λz=>by rw[Ci h2]at z;cases z⟩
   |none =>
    rw[ay]at h2;subst h2;refine⟨λz=>(by cases(show false=true from z)),λ_=>aZ (DJ ?_)⟩;k_lt Z;refine Z _ _ ?_;clear Z;have tx:=aj.tH ax;have ty:aj.Tn xs.length ys:=by
     have:=aj.tH ay
     rwa [show ys.length=xs.length by lk]at this
    refine aY (RQ tx ty ⋯ ⋯) ?_;rintro d s3 ⟨k3,h3⟩;cases af:aj.fu xs ys xs.length with
    |some k =>
     rw[af]at h3;exact⟨λ_=>⟨(k1.trans k2).trans k3,h3⟩,λz=>by rw[Ci h3]at z;cases z⟩
    |none =>
     rw[af]at h3;subst h3;refine⟨λz=>(by cases(show false=true from z)),λ_=>lX (hJ ?_)⟩;k_lt Z;exact Z _ _ ⟨rfl,(k1.trans k2).trans k3,rfl⟩
 clear Z;rw[S8,S8];by_cases a1:xs.length<1;rw[decide_eq_true (show xs.length<1\/20<xs.length\/ys.length≠xs.length from .inl a1)]at key;rw[if_pos (decide_eq_true (show((xs.length:Nat):Int)<1 by lk))];exact key;rw[if_neg (by rw[decide_eq_true_eq];lk)];by_cases a2:20<xs.length;rw[decide_eq_true (show xs.length<1\/20<xs.length\/ys.length≠xs.length from .inr (.inl a2))]at key;rw[if_pos (decide_eq_true (show(20:Int)<((xs.length:Nat):Int) by lk))];exact key;rw[if_neg (by rw[decide_eq_true_eq];lk)];by_cases a3:ys.length=xs.length;rw[decide_eq_false (show ¬(xs.length<1\/20<xs.length\/ys.length≠xs.length) by lk)]at key;rw[decide_eq_true (show((ys.length:Nat):Int)=((xs.length:Nat):Int) by lk)];exact key;rw[decide_eq_true (show xs.length<1\/20<xs.length\/ys.length≠xs.length from .inr (.inr a3))]at key;rw[decide_eq_false (show ¬((ys.length:Nat):Int)=((xs.length:Nat):Int) by lk)];exact key
def Eg{st:Store}{i j:Nat}{o:O}(h:i≠j):items (st.set i o) j=items st j:=by simp only[items,TQ h]
def Hr:(Str.ofString "0")=sO [48]:=by w_fin
def Cj:(Str.ofString "")=sO []:=by w_fin
def Ck:(Str.ofString " ")=⟨#[32]⟩:=by w_fin
def Cm:(Str.ofString "\n")=⟨#[10]⟩:=by w_fin
def xx:∀d:Fin 10,(!(Builtin.Str.occurrences (Str.ofString "0123456789") ⟨#[48+d.1]⟩ 0 (Str.ofString "0123456789").length 1).isEmpty)=true:=by w_fin
def xy:∀i:Fin 10,(Str.ofString "0123456789").cps.extract i.1 (i.1+1)=#[48+i.1]:=by w_fin
def RV:(Str.ofString "0123456789").length=10:=by w_fin
def RW(c:Nat):(!(Builtin.Str.occurrences (Str.ofString "0123456789") ⟨#[c]⟩ 0 (Str.ofString "0123456789").length 1).isEmpty)=decide (48<=c/\c<=57):=by
 by_cases h:48<=c/\c<=57
 have:=xx ⟨c-48,by lk⟩
 rw[show 48+(⟨c-48,by lk⟩:Fin 10).1=c by show 48+(c-48)=c;lk]at this;rw[this,decide_eq_true h];rw[decide_eq_false h,W.occ_nil_of_no];rfl;intro i hi;have h1:(⟨#[c]⟩:Str).length=1:=rfl;rw[h1,RV]at hi;have e:=xy ⟨i,by lk⟩;unfold Builtin.Str.subAt;rw[h1];have e':(Str.ofString "0123456789").cps.extract i (i+1)=#[48+i]:=e;rw[e'];have hne:¬(48+i=c):=by lk
 simp[hne]
def RX{l:List Nat}(h:dy l)(n:Nat):pU n (.str (sO l)):=by
 have e:PyData.canLay0 (.str (sO l))=true:=by
  simp only[PyData.canLay0,PyData.strOk,<- Array.all_toList];rw[yc,UX];intro c hc;exact decide_eq_true (h c hc)
 cases n<;>exact e
def ui{w:Str}(h:dy w.cps.toList):pU 1 (.str w):=by rw[AI w];exact RX h 1
def ll:(16777216:Nat)=sizeLine:=rfl
def Eh(t:Str):(hW t).length<=t.length+1:=by have b:jV (hW t)=t.length+1:=GZ t 32;have c:=Ln (hW t);lk
def Hs(r:Str):∃w0 ws,hW r=w0 :: ws:=by
 have hpos:0<(hW r).length:=PyProof.Rows.split_pos r ⟨#[32]⟩;cases e:hW r with
 |nil=>rw[e]at hpos;cases hpos
 |cons a b=>exact⟨a,b,rfl⟩
abbrev nD:Option (List Int)->D
 |some ns=>tI ns
 |none=>.non
def LV{st:Store}{r h:Str}(hl:r.length<=1200)(hw:∀w∈hW r,w.length<=640):Wp (xm [.str r,.str h] st) λd st'=>d=nD (rN r h)/\Ex [] st st':=by
 have hz:=ll;have hp:=Eh r;obtain⟨w0,ws,ew⟩:=Hs r;have eN:rN r h=if w0=h/\∀w∈ws,nW w then some (ws.map vl)else none:=by unfold rN;rw[ew];simp
 rw[eN];refine Bc ?_;intro qR;show Ws (B3 [some (.str r),some (.str h),none,none,none] st) _ _ _ _;unfold B3;refine aZ (cM ?_);k_lt Z;refine⟨rfl,?_⟩;rw[Ck,yd (by w_fin) ⋯ (show(hW r).length<=_ by lk),show PySem.Txt.split r ⟨#[32]⟩=hW r from rfl];rw[ew]at hp hw ⊢;rw[Tf]at hp;refine Z _ _ (aZ (cM ?_));k_lt2 Z;refine⟨rfl,?_⟩;have w2:items (st ++ [O.lst ((w0 :: ws).map D.str)] ++ [O.lst []]) st.length=some ((w0 :: ws).map D.str):=jE ja (Ex.aM _);have n2:(st ++ [O.lst ((w0 :: ws).map D.str)] ++ [O.lst []])[(st ++ [O.lst ((w0 :: ws).map D.str)]).length]?=some (.lst []):=iK;have k2:Ex [] st (st ++ [O.lst ((w0 :: ws).map D.str)] ++ [O.lst []]):=(Ex.aM _).app _;have RY:st.length<(st ++ [O.lst ((w0 :: ws).map D.str)]).length:=by simp
 generalize (st ++ [O.lst ((w0 :: ws).map D.str)]).length=G at n2 RY ⊢;generalize (st ++ [O.lst ((w0 :: ws).map D.str)] ++ [O.lst []])=st3 at w2 n2 k2 ⊢;have xA:cutD ((w0 :: ws).map D.str) (some 1) none=ws.map D.str:=r9 ((w0 :: ws).map D.str) 1;refine Z _ _ (aZ (Dx (ws.map D.str) st3.length (λk I s=>∃v4:Option D,I=[some (.str r),some (.str h),some (.ref st.length),some (.ref G),v4]/\items s st.length=some ((w0 :: ws).map D.str)/\s[G]?=some (.lst (((ws.take k).map vl).map D.int))/\items s st3.length=some (ws.map D.str)/\G<st3.length/\(∀w∈ws.take k,nW w)/\Ex [] st s) ?_ ?_ ?_ ?_ ?_))
 ·clear Z
  exists _,Z,w2,xA;exact Z _ _ ⟨rfl,none,rfl,jE w2 (Ex.aM _),jg n2,ja,iJ n2,(λw z=>by cases z),k2.app _⟩
 ·rw[S8];lk
 ·rintro k I s ⟨_,_,_,_,h,_⟩
  exact h
 ·rintro k d I s hd ⟨v4,rfl,iW,hG,iL,Cn,hgo,k4⟩
  rw[TC]at hd;obtain⟨w,qV,rfl⟩:=TM.mp hd;have hwl:w.length<=640:=hw w (Tg _ (TL qV));have hlen:=gZ w;k_lt2 Z;refine Z _ _ (aZ (hV ?_));clear Z;refine bJ ?_;intro LW;intro Z;exists GC,x8;have no:∀s3:Store,Ex [] s s3->¬nW w->LW true s3:=λs3 k3 hn=>by
   refine Z _ _ ⟨λ_=>hJ ?_,λz=>absurd z ∅⟩;refine aT.mpr ⟨?_,k4.trans k3⟩;rw[if_neg (λz=>hn (z.2 w (TL qV)))];rfl
  have yes:∀s3:Store,Ex [] s s3->nW w->LW false s3:=λs3 k3 hn=>by
   refine Z _ _ ⟨λz=>absurd z ∅,λ_=>iI (x9 ?_)⟩;clear Z no;have Ht:s3[G]?=some (.lst (((ws.take k).map vl).map D.int)):=k3.keep _ _ hG (by simp);k_lt Z;refine⟨t5 (by rw[dG Ht];rfl),?_⟩;rw[Qw (Lq hn hwl) hwl];have su:=iJ qV;have RZ:=jE iL k3;have R0:=jE iW k3;refine⟨_,kD Ht,fJ (by rw[S8,S8,Ub];lk),Z _ _ ⟨_,rfl,by rw[Eg ⋯];exact R0,?_,by rw[Eg ⋯];exact RZ,Cn,λu hu=>?_,(k4.trans k3).loc ⋯⟩⟩
   ·obtain⟨h1,e1⟩:=Ti.mp qV
    rw[TB (iJ Ht),Ue h1,TN,TN,e1];rfl
   ·obtain⟨h1,e1⟩:=Ti.mp qV
    rw[Ue h1,e1]at hu;rcases Tw.mp hu with hu|hu
    ·exact hgo u hu
    ·rw[TK.mp hu];exact hn
  clear Z;by_cases c1:w=Str.ofString ""
  ·rw[decide_eq_true c1,if_pos rfl]
   exact no _ Ex.refl λz=>z.1 (by rw[c1,Cj,yc])
  rw[decide_eq_false c1,if_neg Tb];refine Gu (qB w) (λd=>match d with|.str x=>.bl (decide (∀y∈x.cps.toList,48<=y/\y<=57))|_=>.non) ?_ (by simp[qB];rw[UN]at hlen;lk) ?_ ?_
  ·refine bJ ?_
   intro n8 hZ;exists Qq;exact⟨by lk,hZ _ _ ⟨Gs _ _,Ex.refl⟩⟩
  ·intro d hd st2 k2
   obtain⟨z,hz,rfl⟩:=T6.mp hd;exists _,hZ,wL,RW;exact hZ _ _ ⟨by simp,Ex.refl⟩
  ·intro st2 k2
   have e1:(qB w).map (λd=>match d with|.str x=>.bl (decide (∀y∈x.cps.toList,48<=y/\y<=57))|_=>.non)=(w.cps.toList.map λy=>decide (48<=y/\y<=57)).map D.bl:=by
    unfold qB;rw[Uo,Uo];refine Vk λy _=>?_;simp
   rw[e1];refine KA.mpr ⟨_,_,ja,vC (f:=bV) (g:=D.bl) (k:=id) (λ_=>rfl) _,?_⟩;have k3:Ex [] s (st2 ++ [O.lst ((w.cps.toList.map λy=>decide (48<=y/\y<=57)).map D.bl)]):=k2.app _;generalize (st2 ++ [O.lst ((w.cps.toList.map λy=>decide (48<=y/\y<=57)).map D.bl)])=s3 at k3 ⊢;have Hu:((w.cps.toList.map λy=>decide (48<=y/\y<=57)).map id).all id=decide (∀c∈w.cps.toList,48<=c/\c<=57):=by
    rw[UG,decide_eq_true_iff,Vo,List.all_map,UX];exact⟨λz c hc=>of_decide_eq_true (z c hc),λz c hc=>decide_eq_true (z c hc)⟩
   rw[Hu];refine⟨_,rfl,?_⟩;by_cases c2:∀c∈w.cps.toList,48<=c/\c<=57
   rotate_left
   ·rw[decide_eq_false c2,if_pos ∅]
    exact no _ k3 λz=>c2 z.2.1
   rw[decide_eq_true c2,if_neg ∅];have c0:w.cps.toList≠[]:=λz=>c1 (by rw[AI w,z,Cj]);obtain⟨c,l,el⟩:∃c l,w.cps.toList=c :: l:=by
    cases z:w.cps.toList with
    |nil=>exact absurd z c0
    |cons c l=>exact⟨c,l,rfl⟩
   refine⟨fJ ⋯,c,by rw[el];exact mh (j:=0) rfl,?_⟩;have e0:((⟨#[c]⟩:Str)=Str.ofString "0")↔c=48:=by
    rw[Hr,show(⟨#[c]⟩:Str)=sO [c]from rfl,wJ];simp
   by_cases c3:c=48
   rotate_left
   ·rw[decide_eq_false (λz=>c3 (e0.mp z)),if_neg Tb]
    exact yes _ k3 ⟨c0,c2,λz=>c3 (by have:=z.1;rw[el]at this;exact Tq this)⟩
   rw[decide_eq_true (e0.mpr c3),if_pos rfl];refine⟨fJ ⋯,?_⟩;by_cases c4:1<w.length
   ·rw[decide_eq_true (show((w.length:Int) > 1) by lk)]
    exact no _ k3 λz=>z.2.2 ⟨by rw[el,c3];rfl,by lk⟩
   ·rw[decide_eq_false (show ¬((w.length:Int) > 1) by lk)]
    exact yes _ k3 ⟨c0,c2,λz=>c4 (by have:=z.2;lk)⟩
 ·rintro I s ⟨v4,rfl,iW,hG,iL,Cn,hgo,k4⟩
  rw[S8,U8]at hG hgo;clear Z;refine hJ ?_;exists _,Z,dG hG,iW;refine⟨rfl,_,jE iW (Ex.aM _),.str w0,mh (j:=0) rfl,?_⟩;rw[x8];exists ja;by_cases c:w0=h
  ·rw[decide_eq_true c]
   exact⟨_,rfl,Z _ _ ⟨by rw[if_pos ⟨c,hgo⟩];rfl,k4.app _⟩⟩
  ·rw[decide_eq_false c]
   exact⟨_,rfl,Z _ _ ⟨by rw[if_neg (λz=>c z.1)];rfl,k4.app _⟩⟩
abbrev mO(k:Int)(d:D)(st:Store):Prop:=∃i gs,d=.ref i/\st[i]?=some (.exc "NoText" gs)/\gs.lookup (Str.ofString "row")=some (.int k)
def Co{k:Int}{st:Store}:mO k (.ref st.length) (st ++ [.exc "NoText" [("row",.int k)]]):=⟨_,_,rfl,iK,rfl⟩
def Hv{k:Int}{d:D}{st:Store}(h:mO k d st):aE d st=true:=by obtain⟨i,gs,rfl,hi,_⟩:=h;simp[aE,hi]
def Cp{x:Int}(h:x.natAbs<10000):x.natAbs.log2<1920:=by
 by_cases h0:x.natAbs=0;rw[h0];decide
 have:=(Nat.log2_lt h0).mpr (show x.natAbs<2 ^ 14 by lk)
 lk
def Cq{n:Nat}(hn:n<=5000){w:Str}(h:w∈jN n):dy w.cps.toList:=λc hc=>by
 have:=((G7 hn).mp h).1.2.1 c hc;lk
abbrev R3(pl:Int)(o:Option (List Int))(d:D)(st:Store):Prop:=match o with
 |some ns=>d=tI ns
 |none=>mO pl d st
def LX{st:Store}{r name:Str}{pl:Int}(hl:r.length<=1200)(hc:dy r.cps.toList):Wp (xj [.str r,.str name,.int pl] st) λd st'=>Ex [] st st'/\R3 pl (pR r name) d st':=by
 have hz:=ll;have hp:=Eh r;have hcw:∀w∈hW r,dy w.cps.toList:=λw hw c h=>hc c ((qT hw).subset h);obtain⟨w0,ws,ew⟩:=Hs r;have eN:pR r name=if w0=name/\∀w∈ws,nW w/\vl w<((ws.length:Nat):Int)then some (ws.map vl)else none:=by unfold pR;rw[ew];simp
 rw[eN];refine mG ?_;show Ws (D3 [some (.str r),some (.str name),some (.int pl),none,none,none,none] st) _ _ _ _;unfold D3;refine aZ (lX (cM ?_));k_lt Z;refine⟨rfl,?_⟩;rw[Ck,yd (by w_fin) ⋯ (show(hW r).length<=_ by lk),show PySem.Txt.split r ⟨#[32]⟩=hW r from rfl];rw[ew]at hp hcw ⊢;rw[Tf]at hp;have i1:items (st ++ [O.lst ((w0 :: ws).map D.str)]) st.length=some ((w0 :: ws).map D.str):=ja;have k1:Ex [] st (st ++ [O.lst ((w0 :: ws).map D.str)]):=Ex.aM _;generalize (st ++ [O.lst ((w0 :: ws).map D.str)])=st1 at i1 k1 ⊢;refine Z _ _ (aZ (hV ?_));clear Z;exists _,Z,i1;refine⟨.str w0,mh (j:=0) rfl,?_⟩;rw[x8];refine⟨_,rfl,Z _ _ ⟨λz=>uc ?_,λz=>lX (iI (aZ (lX (cM ?_))))⟩⟩;k_lt2 Z;refine Z _ _ ⟨k1.app _,?_⟩;rw[if_neg (λq=>by rw[decide_eq_true q.1]at z;cases z)];exact Co;have h0:w0=name:=by simpa using z
 clear Z z;refine bJ ?_;intro de Z;refine Gu (aD 0 ws.length) (λd=>.str (tx (inD d))) ?_ (by rw[jr];lk) ?_ ?_;exists _,hZ,i1;have e:((((w0 :: ws).map D.str).length:Int)-1)=(ws.length:Int):=by rw[S8,Tf];lk
 rw[e];exact⟨by lk,hZ _ _ ⟨by rw[T9];exact Gs _ _,Ex.refl⟩⟩;intro d hd st2 k2;rw[ya]at hd;obtain⟨x,hx,rfl⟩:=KI hd;obtain⟨x0,x1⟩:=aj.qm.mp hx;exists _,hZ,K2 (Cp (x:=x) ⋯);exact hZ _ _ ⟨rfl,Ex.refl⟩;intro st2 k2;have ef:(aD 0 ws.length).map (λd=>D.str (tx (inD d)))=(jN ws.length).map D.str:=by
  rw[ya];unfold jN;rw[Uo,Uo];rfl
 rw[ef];refine Z _ _ (aZ (lX (cM ?_)));k_lt2 Z;refine⟨rfl,?_⟩;have Ei:ws.length<=5000:=by lk
 have i2:items (st2 ++ [O.lst ((jN ws.length).map D.str)] ++ [O.lst []]) st2.length=some ((jN ws.length).map D.str):=jE ja (Ex.aM _);have w2:items (st2 ++ [O.lst ((jN ws.length).map D.str)] ++ [O.lst []]) st.length=some ((w0 :: ws).map D.str):=jE i1 ((k2.app _).app _);have n2:(st2 ++ [O.lst ((jN ws.length).map D.str)] ++ [O.lst []])[(st2 ++ [O.lst ((jN ws.length).map D.str)]).length]?=some (.lst []):=iK;have k3:Ex [] st (st2 ++ [O.lst ((jN ws.length).map D.str)] ++ [O.lst []]):=((k1.trans k2).app _).app _;have hF:st2.length<(st2 ++ [O.lst ((jN ws.length).map D.str)]).length:=by simp
 have hst:st.length<=st2.length:=(k1.trans k2).len;generalize (st2 ++ [O.lst ((jN ws.length).map D.str)]).length=G at n2 hF ⊢;generalize (st2 ++ [O.lst ((jN ws.length).map D.str)] ++ [O.lst []])=st3 at i2 w2 n2 k3 ⊢;clear ef;have xA:cutD ((w0 :: ws).map D.str) (some 1) none=ws.map D.str:=r9 ((w0 :: ws).map D.str) 1;refine Z _ _ (aZ (Dx (ws.map D.str) st3.length (λk I s=>∃v6:Option D,I=[some (.str r),some (.str name),some (.int pl),some (.ref st.length),some (.ref st2.length),some (.ref G),v6]/\items s st2.length=some ((jN ws.length).map D.str)/\s[G]?=some (.lst (((ws.take k).map vl).map D.int))/\items s st3.length=some (ws.map D.str)/\G<st3.length/\(∀w∈ws.take k,nW w/\vl w<((ws.length:Nat):Int))/\Ex [] st s) ?_ ?_ ?_ ?_ ?_));clear Z;exists _,Z,w2,xA;exact Z _ _ ⟨rfl,none,rfl,jE i2 (Ex.aM _),jg n2,ja,iJ n2,(λw z=>by cases z),k3.app _⟩;rw[S8];lk;rintro k I s ⟨_,_,_,_,h,_⟩;exact h;rintro k d I s hd ⟨v6,rfl,iF,hG,iW,Cn,hgo,k4⟩;rw[TC]at hd;obtain⟨w,qV,rfl⟩:=TM.mp hd;have LY:=TL qV;have su:=iJ qV;k_lt2 Z;refine Z _ _ (aZ (hV ?_));k_lt2 Z
 rw[wN (es:=(jN ws.length).map D.str) (n:=1) (ui (hcw w (Tg _ LY))) (by rw[Kz];exact iF) (λe he=>by
  obtain⟨z,hz,rfl⟩:=T6.mp he
  exact ui (Cq Ei hz)) ∅]
 have hm:D.str w∈(jN ws.length).map D.str↔nW w/\vl w<((ws.length:Nat):Int):=by
  rw[<- G7 Ei];constructor;intro z;obtain⟨u,hu,e⟩:=T6.mp z;cases e;exact hu;exact List.mem_map_of_mem
 refine⟨_,rfl,Z _ _ ⟨λz=>uc ?_,λz=>lX (iI (lX (x9 ?_)))⟩⟩;have hno:¬ (nW w/\vl w < ((ws.length:Nat):Int)):=λq=>by
  have:=hm.mpr q;simp[this]at z
 k_lt2 Z;refine Z _ _ ⟨k4.app _,?_⟩;rw[if_neg (λq=>hno (q.2 w LY))];exact Co;have hyes:nW w/\vl w<((ws.length:Nat):Int):=hm.mp (by simpa using z);have m1:=(G7 Ei).mpr hyes;k_lt2 Z;refine⟨t5 (by rw[dG hG];rfl),t5 (by rw[iF];rfl),?_⟩;rw[Qu iF m1 (by rw[G6];lk),xf Ei m1];refine⟨_,kD hG,fJ (by rw[S8,S8,Ub];lk),Z _ _ ⟨_,rfl,by rw[Eg ⋯];exact iF,?_,by rw[Eg ⋯];exact iW,Cn,λu hu=>?_,k4.loc ⋯⟩⟩;obtain⟨h1,e1⟩:=Ti.mp qV;rw[TB (iJ hG),Ue h1,TN,TN,e1];rfl;obtain⟨h1,e1⟩:=Ti.mp qV;rw[Ue h1,e1]at hu;rcases Tw.mp hu with hu|hu
 exact hgo u hu;rw[TK.mp hu];exact hyes;rintro I s ⟨v6,rfl,iF,hG,iW,Cn,hgo,k4⟩;rw[S8,U8]at hG hgo;clear Z;refine lX (hJ ?_);exists _,Z,dG hG;refine Z _ _ ⟨rfl,k4,?_⟩;rw[if_pos ⟨h0,hgo⟩];rfl
def LZ{n:Nat}{l:List Int}(hl:l.length=n):sortI l=aj.upto l.length↔aj.Tn n l:=by constructor;intro h;have p:(sortI l).Perm l:=List.mergeSort_perm _ _;rw[h,hl]at p;exact p.symm;intro h;rw[hl];refine(Km h.symm ?_).symm;unfold aj.upto;rw[Vt];exact U4.imp λh=>by lk
def R4{st:Store}{Q:D->Store->Prop}{ns:List Int}(hl:ns.length<64):Wp (jn [.tup (ns.map D.int)] st) Q↔Q (.ref st.length) (st ++ [.lst ((sortI ns).map D.int)]):=by
 have e:jn [.tup (ns.map D.int)] st=some (.ref st.length,st ++ [.lst ((sortI ns).map D.int)]):=by
  show(match (bL iV (ns.map D.int))with|some ns=>if ns.length<64 then some (D.ref st.length,st ++ [O.lst ((sortI ns).map D.int)])else none|none=>none)=_;rw[vC (f:=iV) (g:=D.int) (k:=id) (λ_=>rfl) ns,Vo,];exact if_pos hl
 rw[e,aT]
def R5{st:Store}{xs:List Int}(hn:xs.length<64):Wp (BW [tI xs] st) λd st'=>d=.bl (decide (0<xs.length/\aj.am xs=none))/\Ex [] st st':=by refine mG ?_;show Ws (BV [some (tI xs)] st) _ _ _ _;unfold BV tI;refine hJ ?_;exists _,Z,R4 (ns:=xs) hn;rw[S8];by_cases n0:0<xs.length;rw[decide_eq_true (show((xs.length:Int) > 0) by lk),if_pos rfl,show((xs.length:Int)-0).toNat=xs.length by lk,ya];refine⟨qQ ⋯,?_⟩;rw[Gn (L:=sortI xs) (M:=aj.upto xs.length) (jE (jE ja (Ex.aM _)) (Ex.aM _)) ja];refine Z _ _ ⟨?_,((Ex.aM _).app _).app _⟩;have e:(sortI xs=aj.upto xs.length)↔(0<xs.length/\aj.am xs=none):=⟨λz=>⟨n0,aj.zQ ((LZ rfl).mp z)⟩,λz=>(LZ rfl).mpr (aj.tH z.2)⟩;simp[e];rw[decide_eq_false (show ¬((xs.length:Int) > 0) by lk),if_neg Tb];exact Z _ _ ⟨by rw[decide_eq_false (λz=>n0 z.1)],Ex.refl⟩
abbrev rd(t:Str):Nat×List Int×List Int:=match ((rws t)[0]?).bind (λr=>rN r "right")with
 |none=>(0,[],[])
 |some xs=>if xs.length<1\/20<xs.length\/(aj.am xs).isSome=true then(0,[],[])else match (rws t)[1]? with
  |none=>(1,[],[])
  |some r=>match rN r "up" with
   |none=>(1,[],[])
   |some ys=>if(du xs ys).isSome=true then(1,[],[])else if 2<(rws t).length then(2,[],[])else(3,xs,ys)
abbrev dV(p:Nat×List Int×List Int):D:=if p.1=3 then .tup [.str "told",jb p.2.1 p.2.2]else .tup [.str "refused",.int (p.1:Int)]
abbrev Cr(p:Nat×List Int×List Int)(d:D)(st:Store):Prop:=if p.1=3 then d=jb p.2.1 p.2.2 else mO (p.1:Int) d st
structure Tk(t:Str):Prop where
 len:t.length<=1200
 ok:dy t.cps.toList
 wb:Wb t.cps.toList 640
 a0:A0 t.cps.toList 62
def Tk.row{t r:Str}(T:Tk t)(h:r∈rws t):r.length<=1200/\dy r.cps.toList/\∀w∈hW r,w.length<=640:=by have i:=qT h;have l:=i.length_le;rw[<- gZ,<- gZ]at l;have:=T.len;refine⟨by lk,λc hc=>T.ok c (i.subset hc),λw hw=>?_⟩;have j:=qT hw;rw[gZ];exact T.wb _ (j.trans i) (DN hw) λz=>DN h (j.subset z)
def Ej:∀{ws:List Str},(∀w∈ws,nW w)->(ws.flatMap (λx=>32 :: x.cps.toList)).count 32=ws.length/\gd (ws.flatMap (λx=>32 :: x.cps.toList))
 |[],_=>⟨rfl,mJ⟩
 |w :: r,h=>by
  obtain⟨a,b⟩:=Ej (ws:=r) λx hx=>h x (Tg _ hx);have hd:=(h w Te).2.1;have c0:w.cps.toList.count 32=0:=A5 λz=>by have:=hd _ z;lk
  rw[List.flatMap_cons,Tx,Vi,a,c0,Tf];refine⟨by lk,wZ (λc hc=>?_) b⟩;rcases Tp.mp hc with rfl|hc
  exact .inl rfl;exact .inr (hd c hc)
def Tk.few{t r h:Str}{ns:List Int}(T:Tk t)(hr:r∈rws t)(e:pR r h=some ns):ns.length<=62:=by
 obtain⟨_,g,_,l⟩:=G8 e;obtain⟨w0,ws,ew⟩:=Hs r;rw[ew]at g l;obtain⟨a,b⟩:=Ej g;have er:r.cps.toList=w0.cps.toList ++ ws.flatMap (λx=>32 :: x.cps.toList):=by
  have:=kL (c:=32) w0 ws [];rw[List.nil_append,<- ew,show Str.join ⟨#[32]⟩ (hW r)=r from StrLaws.join_split _ _]at this
  simpa using this
 have:=T.a0 (ws.flatMap (λx=>32 :: x.cps.toList)) (Vq (List.IsSuffix.isInfix ⟨_,er.symm⟩) (qT hr)) b;rw[l];show ws.length<=62;have a:(ws.flatMap (λx=>32 :: x.cps.toList)).count 32=ws.length:=a;lk
def L0(t:Str):∃r0 rs,rws t=r0 :: rs:=by
 have hpos:0<(rws t).length:=PyProof.Rows.split_pos t ⟨#[10]⟩;cases e:rws t with
 |nil=>rw[e]at hpos;cases hpos
 |cons a b=>exact⟨a,b,rfl⟩
def Hw(t:Str):(rws t).length<=t.length+1:=by have b:jV (rws t)=t.length+1:=GZ t 10;have c:=Ln (rws t);lk
def L3{ns:List Int}{x:Int}(hx:x∈ns)(h:(ns.length:Int)<=x):(aj.am ns).isSome=true:=by
 cases e:aj.am ns with
 |some k=>rfl
 |none =>
  have:=(aj.tH e).bound hx;lk
def yl{k:Nat}{d:D}{st:Store}{p:Nat×List Int×List Int}(e:p=(k,[],[]))(hk:k<3)(h:mO (k:Int) d st):Cr p d st:=by subst e;unfold Cr;rw[if_neg (by show ¬k=3;lk)];exact h
def ym{t r0:Str}{rs:List Str}(er:rws t=r0 :: rs)(h:rN r0 "right" = none\/∃xs,rN r0 "right" = some xs/\(xs.length<1\/20<xs.length\/(aj.am xs).isSome=true)):rd t=(0,[],[]):=by
 unfold rd;rw[er,U3,Ul];rcases h with h|⟨xs,h,g⟩
 rw[h];rw[h];exact if_pos g
abbrev R6(xs:List Int):List Str->Nat×List Int×List Int
 |[]=>(1,[],[])
 |r :: pJ=>match rN r "up" with
  |none=>(1,[],[])
  |some ys=>if(du xs ys).isSome=true then(1,[],[])else if pJ=[]then(3,xs,ys)else(2,[],[])
def L5{t r0:Str}{rs:List Str}{xs:List Int}(er:rws t=r0 :: rs)(h:rN r0 "right" = some xs)(g:¬(xs.length<1\/20<xs.length\/(aj.am xs).isSome=true)):rd t=R6 xs rs:=by
 unfold rd;rw[er,U3,Ul,h];show(if _ then _ else _)=_;rw[if_neg g];cases rs with
 |nil=>rfl
 |cons r pJ =>
  show(match rN r "up" with
   |none=>(1,[],[])
   |some ys=>if(du xs ys).isSome=true then(1,[],[])else if 2<(r0 :: r :: pJ).length then(2,[],[])else(3,xs,ys))=(match rN r "up" with
   |none=>(1,[],[])
   |some ys=>if(du xs ys).isSome=true then(1,[],[])else if pJ=[]then(3,xs,ys)else(2,[],[]))
  cases rN r "up" with
  |none=>rfl
  |some ys =>
   cases pJ with
   |nil=>rfl
   |cons a b =>
    show(if _ then _ else if _ then _ else _)=(if _ then _ else if _ then _ else _);rw[if_pos (show 2<(r0 :: r :: a :: b).length by simp),if_neg (show ¬(a :: b=[]) by simp)]
def Hx{xs ys:List Int}(g:¬(xs.length<1\/20<xs.length\/(aj.am xs).isSome=true))(h:(aj.am ys).isSome=true):(du xs ys).isSome=true:=by
 unfold du;split
 ·rfl
 ·split
  ·rfl
  ·split
   ·rfl
   ·next z=>rw[z]at h;cases h
def L6{xs ys:List Int}(h:ys.length≠xs.length):(du xs ys).isSome=true:=by unfold du;rw[if_pos (.inr (.inr h))];rfl
def R7{st:Store}{t:Str}(T:Tk t):Wp (BZ [.str t] st) λd st'=>Ex [] st st'/\Cr (rd t) d st':=by
 have hz:=ll;have hp:=Hw t;have hlt:=T.len;obtain⟨r0,rs,er⟩:=L0 t;obtain⟨l0,c0,w0⟩:=T.row (r:=r0) (by rw[er];exact Te);refine mG ?_;show Ws (D7 [some (.str t),none,none,none] st) _ _ _ _;unfold D7;refine aZ (lX (cM ?_));k_lt Z;refine⟨rfl,?_⟩;rw[Cm,yd (by w_fin) ⋯ (show(rws t).length<=_ by lk),show PySem.Txt.split t ⟨#[10]⟩=rws t from rfl];rw[er]at hp ⊢;have i1:items (st ++ [O.lst ((r0 :: rs).map D.str)]) st.length=some ((r0 :: rs).map D.str):=ja;have k1:Ex [] st (st ++ [O.lst ((r0 :: rs).map D.str)]):=Ex.aM _;generalize (st ++ [O.lst ((r0 :: rs).map D.str)])=st1 at i1 k1 ⊢;refine Z _ _ (aZ (Le ?_));clear Z;exists _,Z,i1;refine⟨.str r0,mh (j:=0) rfl,Z _ _ ?_⟩;clear Z;refine aY (LX (name:="right") (pl:=0) l0 c0) ?_;rintro d s2 ⟨k2,h2⟩;cases e0:pR r0 "right" with
 |none =>
  rw[e0]at h2;refine⟨λ_=>⟨k1.trans k2,yl (k:=0) (ym er ?_) ∅ h2⟩,λz=>by rw[Hv h2]at z;cases z⟩;rcases Lr e0 with h|⟨ns,h,x,hx,hl⟩
  exact .inl h;exact .inr ⟨ns,h,.inr (.inr (L3 hx hl))⟩
 |some xs =>
  rw[e0]at h2;have n0:=(G8 e0).1;have lx:=T.few (by rw[er];exact Te) e0;have h2:_=tI xs:=h2;subst h2;refine⟨λz=>(by cases(show false=true from z)),λ_=>aZ (hV ?_)⟩;have xw:∀s:Store,br s (tI xs)=some (xs.map D.int):=λ_=>rfl;refine bJ ?_;intro xv;intro Z;exists xw;refine aY (R5 (xs:=xs) ⋯) ?_;rintro d s3 ⟨rfl,k3⟩;have key:xv (decide (xs.length<1\/20<xs.length\/(aj.am xs).isSome=true)) s3:=by
   refine Z _ _ ⟨λz=>uc ?_,λz=>lX (iI (aZ (hV ?_)))⟩;k_lt2 Z;exact Z _ _ ⟨((k1.trans k2).trans k3).app _,yl (k:=0) (ym er (.inr ⟨xs,n0,of_decide_eq_true z⟩)) ∅ Co⟩;have g:=of_decide_eq_false z;have en:=L5 er n0 g;have xB:=(k1.trans k2).trans k3;have i3:=jE i1 (k2.trans k3);clear Z z k1 k2 k3 i1;exists _,Z,i3;rw[S8];cases rs with
   |nil =>
    refine Z _ _ ⟨λz=>uc ?_,λz=>absurd z (by simp)⟩;k_lt2 Z;exact Z _ _ ⟨xB.app _,yl (k:=1) en ∅ Co⟩
   |cons r1 pJ =>
    obtain⟨l1,c1,w1⟩:=T.row (r:=r1) (by rw[er];exact Tg _ Te);rw[Tf,Tf,decide_eq_false ⋯];refine Z _ _ ⟨λz=>absurd z ∅,λ_=>lX (iI (aZ (QK ?_)))⟩;k_lt2 Z;refine Z _ _ ?_;clear Z;exists _,Z,i3;refine⟨.str r1,mh (j:=1) rfl,Z _ _ ?_⟩;clear Z;refine aY (LX (name:="up") (pl:=1) l1 c1) ?_;rintro d s4 ⟨k4,h4⟩;cases e1:pR r1 "up" with
    |none =>
     rw[e1]at h4;refine⟨λ_=>⟨xB.trans k4,yl (k:=1) ?_ ∅ h4⟩,λz=>by rw[Hv h4]at z;cases z⟩;rw[en];rcases Lr e1 with h|⟨ns,h,x,hx,hl⟩
     show(match rN r1 "up" with|none=>_|some ys=>_)=_;rw[h];show(match rN r1 "up" with|none=>_|some ys=>_)=_;rw[h];exact if_pos (Hx g (L3 hx hl))
    |some ys =>
     rw[e1]at h4;have h4:_=tI ys:=h4;subst h4;obtain⟨n1,_,_,ly⟩:=G8 e1;have pK:rd t=if(du xs ys).isSome=true then(1,[],[])else if pJ=[]then(3,xs,ys)else(2,[],[]):=by
      rw[en];show(match rN r1 "up" with|none=>_|some ys=>_)=_;rw[n1]
     have R8:ys.length<=1200:=by
      have a:=T.few (by rw[er];exact Tg _ Te) e1;lk
     refine⟨λz=>(by cases(show false=true from z)),λ_=>aZ (QJ (DJ ?_))⟩;clear en;k_lt Z;refine Z _ _ ?_;clear Z;refine aY (RU (xs:=xs) (ys:=ys) ⋯ R8) ?_;rintro d s5 ⟨k5,h5⟩;have Hy:=(xB.trans k4).trans k5;cases ed:du xs ys with
     |some p =>
      rw[ed]at h5 pK;obtain⟨w,k⟩:=p;have h5:iy w k _ s5:=h5;refine⟨λ_=>⟨λz=>(by rw[Ci h5]at z;cases z),λj c gs e hj=>?_⟩,λz=>by rw[Ci h5]at z;cases z⟩;obtain⟨i,e',hi⟩:=h5;rw[e]at e';cases e';rw[hj]at hi;cases hi;refine⟨by unfold kn;simp,?_⟩;k_lt Z;exact Z _ _ ⟨_,_,_,rfl,hj,rfl,Hy.app _,yl (k:=1) pK ∅ ⟨_,_,rfl,iK,rfl⟩⟩
     |none =>
      rw[ed]at h5 pK;have h5:_=D.bl true:=h5;subst h5;refine⟨λz=>(by cases(show false=true from z)),λ_=>aZ (hV ?_)⟩;exists _,Z,jE i3 (k4.trans k5);rw[S8,Tf,Tf];cases pJ with
      |nil =>
       refine Z _ _ ⟨λz=>absurd z ∅,λ_=>lX (iI (lX (hJ ?_)))⟩;k_lt2 Z;refine Z _ _ ⟨rfl,Hy,?_⟩;rw[pK];rfl
      |cons a b =>
       rw[Tf,decide_eq_true ⋯];refine Z _ _ ⟨λ_=>uc ?_,λz=>absurd z ∅⟩;k_lt2 Z;exact Z _ _ ⟨Hy.app _,yl (k:=2) pK ∅ Co⟩
  clear Z;rw[S8];by_cases a:0<xs.length/\aj.am xs=none;rw[decide_eq_true a];refine⟨_,rfl,?_⟩;rw[if_neg ∅];have:decide (xs.length<1\/20<xs.length\/(aj.am xs).isSome=true)=decide (((xs.length:Nat):Int) > 20):=by
   congr 1
   rw[a.2];refine propext ⟨λz=>?_,λz=>.inr (.inl ⋯)⟩;rcases z with z|z|z
   lk;lk;cases z
  rw[this]at key;exact key;rw[decide_eq_false a];refine⟨_,rfl,?_⟩;rw[if_pos ∅];rw[decide_eq_true]at key;exact key;by_cases b:xs.length<1;exact .inl b;refine .inr (.inr ?_);cases e:aj.am xs with
  |some k=>rfl
  |none=>exact absurd ⟨by lk,e⟩ a
def xC{xs ys F:List Int}{n:Nat}(tx:aj.Tn n xs)(ty:aj.Tn n ys)(n0:0<n)(hF:∀x,x∈F↔aj.i6 xs ys x)(hl:F.length<=n)(nd:F.Nodup):F.length<n↔(aj.fu xs ys n).isSome=true:=by
 have hc:∀k:Nat,(!(aj.bf xs ys 0 n).contains (k:Int))=false↔(k:Int)∈F:=λk=>by
  rw[hF,<- aj.vw tx ty n0,<- Ug];cases(aj.bf xs ys 0 n).contains (k:Int)<;>simp
 constructor;intro h;cases e:aj.fu xs ys n with
 |some k=>rfl
 |none =>
  have h2:=aj.JU e;have:=aj.vo (aj.JM n) (ys:=F) λx hx=>by
   obtain⟨x0,x1⟩:=aj.qm.mp hx;have:=(hc x.toNat).mp (h2 x.toNat ⋯)
   rwa [show((x.toNat:Nat):Int)=x by lk]at this
  rw[aj.qN]at this;lk
 intro h;obtain⟨k,e⟩:=Uy.mp h;unfold aj.fu at e;rw[List.find?_range_eq_some]at e;have hk:=Ut.mp e.2.1;have hno:(k:Int) ∉ F:=λz=>by
  have:=(hc k).mpr z;rw[e.1]at this;cases this
 have:=aj.vo (xs:=(k:Int) :: F) (Ux.mpr ⟨hno,nd⟩) (ys:=aj.upto n) λx hx=>by
  rcases Tp.mp hx with rfl|hx
  exact aj.qm.mpr ⟨by lk,by lk⟩;exact aj.qm.mpr (((hF x).mp hx).bound tx ty n0)
 rw[aj.qN,Tf]at this;lk
def L7{r h:Str}{ns:List Int}(e:rN r h=some ns):ns.length<=r.length:=by
 unfold rN at e;split at e;cases e
 have:=Eh r;rw[S8,List.length_tail];lk
 cases e
def yo{k:Nat}{p:Nat×List Int×List Int}(e:p=(k,[],[]))(hk:k<3):dV p=.tup [.str "refused",.int (k:Int)]:=by subst e;unfold dV;rw[if_neg (by show ¬k=3;lk)]
def L8{st:Store}{t:Str}(T:Tk t):Wp (B9 [.str t] st) λd st'=>d=dV (rd t)/\Ex [] st st':=by
 have hz:=ll;have hp:=Hw t;have hlt:=T.len;obtain⟨r0,rs,er⟩:=L0 t;obtain⟨l0,c0,w0⟩:=T.row (r:=r0) (by rw[er];exact Te);have L9:∀st:Store,Wp (xm [.str r0,.str "right"] st) λd st'=>d=nD (rN r0 "right")/\Ex [] st st':=λst=>LV l0 w0;generalize e0:rN r0 "right" = o0 at L9;refine mG ?_;show Ws (B8 [some (.str t),none,none,none] st) _ _ _ _;unfold B8;refine aZ (cM ?_);k_lt Z;refine⟨rfl,?_⟩;rw[Cm,yd (by w_fin) ⋯ (show(rws t).length<=_ by lk),show PySem.Txt.split t ⟨#[10]⟩=rws t from rfl];rw[er]at hp ⊢;have i1:items (st ++ [O.lst ((r0 :: rs).map D.str)]) st.length=some ((r0 :: rs).map D.str):=ja;have k1:Ex [] st (st ++ [O.lst ((r0 :: rs).map D.str)]):=Ex.aM _;generalize (st ++ [O.lst ((r0 :: rs).map D.str)])=st1 at i1 k1 ⊢;refine Z _ _ (aZ (cM ?_));clear Z;exists _,Z,i1;refine⟨.str r0,mh (j:=0) rfl,?_⟩;refine aY (L9 _) ?_;rintro d s2 ⟨rfl,k2⟩;refine Z _ _ (aZ (hV ?_));clear Z;cases o0 with
 |none =>
  refine bJ ?_;intro q0;intro Z;exists nD,Gx;refine Z _ _ ⟨λ_=>hJ ?_,λz=>absurd z ∅⟩;k_lt2 Z;exact⟨rfl,Z _ _ ⟨(yo (ym er (.inl e0)) ∅).symm,k1.trans k2⟩⟩
 |some xs =>
  rw[show nD (some xs)=tI xs from rfl];refine bJ ?_;intro q0;intro Z;have sv:∀s3:Store,Ex [] s2 s3->rd t=(0,[],[])->q0 true s3:=λs3 k3 e=>by
   refine Z _ _ ⟨λ_=>hJ ?_,λz=>absurd z ∅⟩;k_lt2 Z;exact⟨rfl,Z _ _ ⟨(yo e ∅).symm,(k1.trans k2).trans k3⟩⟩
  have lx:=L7 e0;have xw:∀s:Store,br s (tI xs)=some (xs.map D.int):=λ_=>rfl;have R9:∀(s:Store) (Q:D->Store->Prop),Wp (kJ false (tI xs) .non s) Q↔Q (.bl false) s:=λs Q=>KJ;exists R9,xw,Lg,S8;by_cases a1:1<=xs.length
  rotate_left
  ·right
   exact⟨decide_eq_false ⋯,sv _ Ex.refl (ym er (.inr ⟨xs,e0,.inl ⋯⟩))⟩
  left;refine⟨decide_eq_true ⋯,?_⟩;by_cases a2:xs.length<=20
  rotate_left
  ·rw[decide_eq_false ⋯,if_pos ∅]
   exact sv _ Ex.refl (ym er (.inr ⟨xs,e0,.inr (.inl ⋯)⟩))
  rw[decide_eq_true ⋯,if_neg ∅];refine aY (LS (xs:=xs) ⋯) ?_;rintro d s3 ⟨rfl,k3⟩;refine⟨_,rfl,?_⟩;by_cases a3:(aj.am xs).isSome=true
  ·rw[a3]
   exact sv _ k3 (ym er (.inr ⟨xs,e0,.inr (.inr a3)⟩))
  have g:¬(xs.length<1\/20<xs.length\/(aj.am xs).isSome=true):=by
   rintro(z|z|z)
   ·lk
   ·lk
   ·exact a3 z
  have en:=L5 er e0 g;rw[show(aj.am xs).isSome=false by simpa using a3];refine Z _ _ ⟨λz=>absurd z ∅,λ_=>iI (aZ (hV ?_))⟩;have Ma:=(k1.trans k2).trans k3;have i3:=jE i1 (k2.trans k3);clear Z sv;exists _,Z,i3;rw[S8];cases rs with
  |nil =>
   refine Z _ _ ⟨λ_=>hJ ?_,λz=>absurd z (by simp)⟩;k_lt2 Z;exact⟨rfl,Z _ _ ⟨(yo en ∅).symm,Ma⟩⟩
  |cons r1 pJ =>
   obtain⟨l1,c1,w1⟩:=T.row (r:=r1) (by rw[er];exact Tg _ Te);rw[Tf,Tf,decide_eq_false ⋯];refine Z _ _ ⟨λz=>absurd z ∅,λ_=>iI (aZ (cM ?_))⟩;clear Z;exists _,Z,i3;refine⟨.str r1,mh (j:=1) rfl,?_⟩;have Mb:∀st:Store,Wp (xm [.str r1,.str "up"] st) λd st'=>d=nD (rN r1 "up")/\Ex [] st st':=λst=>LV l1 w1;generalize e1:rN r1 "up" = o1 at Mb;refine aY (Mb _) ?_;rintro d s4 ⟨rfl,k4⟩;refine Z _ _ (aZ (hV ?_));clear Z;have Ek:=Ma.trans k4;have i4:=jE i3 k4;cases o1 with
   |none =>
    refine bJ ?_;intro q1;intro Z;exists nD,Gx;refine Z _ _ ⟨λ_=>hJ ?_,λz=>absurd z ∅⟩;k_lt2 Z;have e:rd t=(1,[],[]):=by
     rw[en];show(match rN r1 "up" with|none=>_|some ys=>_)=_;rw[e1]
    exact⟨rfl,Z _ _ ⟨(yo e ∅).symm,Ek⟩⟩
   |some ys =>
    rw[show nD (some ys)=tI ys from rfl];refine bJ ?_;intro q1;intro Z;have xD:∀s5:Store,Ex [] s4 s5->rd t=(1,[],[])->q1 true s5:=λs5 k5 e=>by
     refine Z _ _ ⟨λ_=>hJ ?_,λz=>absurd z ∅⟩;k_lt2 Z;exact⟨rfl,Z _ _ ⟨(yo e ∅).symm,Ek.trans k5⟩⟩
    have pK:rd t=if(du xs ys).isSome=true then(1,[],[])else if pJ=[]then(3,xs,ys)else(2,[],[]):=by
     rw[en];show(match rN r1 "up" with|none=>_|some ys=>_)=_;rw[e1]
    have ly:=L7 e1;have Hq:∀s:Store,br s (tI ys)=some (ys.map D.int):=λ_=>rfl;have Sb:∀(s:Store) (Q:D->Store->Prop),Wp (kJ false (tI ys) .non s) Q↔Q (.bl false) s:=λs Q=>KJ;exists Sb,Hq,xw,S8;have bad:∀s5:Store,Ex [] s4 s5->(du xs ys).isSome=true->q1 true s5:=λs5 k5 e=>xD s5 k5 (by rw[pK,if_pos e]);have good:∀s5:Store,Ex [] s4 s5->(du xs ys).isSome=false->q1 false s5:=λs5 k5 e=>by
     refine Z _ _ ⟨λz=>absurd z ∅,λ_=>iI (hJ ?_)⟩;rw[e]at pK;have pK:rd t=if pJ=[]then(3,xs,ys)else(2,[],[]):=pK
     clear Z xD bad en;have i5:=jE i4 k5;k_lt Z;refine⟨rfl,rfl,rfl,rfl,_,jE i5 (Ex.aM _),?_⟩;cases pJ with
     |nil=>exact⟨_,rfl,Z _ _ ⟨by rw[pK];rfl,(Ek.trans k5).app _⟩⟩
     |cons a b =>
      rw[decide_eq_true (by rw[S8,Tf,Tf,Tf];lk)];exact⟨_,rfl,Z _ _ ⟨by rw[pK];rfl,(Ek.trans k5).app _⟩⟩
    clear Z xD;by_cases b1:ys.length=xs.length
    rotate_left
    ·rw[decide_eq_false (show ¬((ys.length:Int)=(xs.length:Int)) by lk),if_pos ∅]
     exact bad _ Ex.refl (L6 b1)
    rw[decide_eq_true (show((ys.length:Int)=(xs.length:Int)) by lk),if_neg ∅];refine aY (LS (xs:=ys) ⋯) ?_;rintro d s5 ⟨rfl,k5⟩;refine⟨_,rfl,?_⟩;by_cases b2:(aj.am ys).isSome=true
    ·rw[b2,if_pos rfl]
     exact bad _ k5 (Hx g b2)
    have ax:aj.am xs=none:=by simpa using a3
    have ay:aj.am ys=none:=by simpa using b2
    rw[show(aj.am ys).isSome=false by simpa using b2,if_neg ∅];have tx:=aj.tH ax;have ty:aj.Tn xs.length ys:=by
     have:=aj.tH ay
     rwa [b1]at this
    refine⟨rfl,aY (LL (st:=s5) tx ty ⋯ ⋯) ?_⟩;rintro d s6 ⟨gg,F,rfl,hg,hF,⟨LP,nd⟩,k6⟩;have ed:(du xs ys).isSome=(aj.fu xs ys xs.length).isSome:=by
     unfold du;rw[if_neg ⋯,ax,ay];cases aj.fu xs ys xs.length<;>rfl
    have fi:=xC tx ty ⋯ hF LP nd;exists hg;rw[S8];by_cases b3:F.length<xs.length
    ·rw[decide_eq_true ⋯]
     exact bad _ (k5.trans k6) (by rw[ed];exact fi.mp b3)
    ·rw[decide_eq_false ⋯]
     refine good _ (k5.trans k6) ?_;rw[ed];cases z:(aj.fu xs ys xs.length).isSome with
     |false=>rfl
     |true=>exact absurd (fi.mpr z) b3
def Mc{st:Store}{t:Str}(T:Tk t):Wp (B1 [.str t] st) λd st'=>d=dV (rd t)/\Ex [] st st':=by
 refine mG ?_;show Ws (D9 [some (.str t),none,none,none,none] st) _ _ _ _;unfold D9;refine aZ (cM ?_);k_lt Z;refine Z _ _ (aZ (cM ?_));k_lt2 Z;refine Z _ _ (aZ (wV (Le ?_)));k_lt2 Z;refine Z _ _ ?_;clear Z;refine aY (R7 T) ?_;rintro d s1 ⟨k1,h1⟩;by_cases h3:(rd t).1=3;unfold Cr at h1;rw[if_pos h3]at h1;subst h1;refine⟨λz=>(by cases(show false=true from z)),λ_=>aZ (hV ?_)⟩;exists _,Z,Gx;refine Z _ _ ⟨λ_=>hJ ?_,λz=>absurd z ∅⟩;k_lt2 Z;refine⟨rfl,Z _ _ ⟨?_,k1⟩⟩;unfold dV;rw[if_pos h3];unfold Cr at h1;rw[if_neg h3]at h1;have ev:dV (rd t)=.tup [.str "refused",.int ((rd t).1:Int)]:=by unfold dV;rw[if_neg h3]
 rw[ev];generalize ((rd t).1:Int)=row at h1;clear h3 ev;have hr:=Hv h1;obtain⟨i,gs,rfl,hi,hlk⟩:=h1;refine⟨λ_=>⟨λz=>(by rw[hr]at z;cases z),λ_=>⟨?_,?_⟩⟩,λz=>(by rw[hr]at z;cases z)⟩;show(match s1[i]? with|some (.exc c fs)=>kn (Str.ofString "NoText") c|_=>false)=true;rw[hi];show kn (Str.ofString "NoText") (Str.ofString "NoText")=true;unfold kn;simp;refine cM ?_;k_lt Z;refine Z _ _ (aZ (hV ?_));clear Z;exists _,Z,Qn;refine Z _ _ ⟨λz=>absurd z ∅,λ_=>iI (aZ (cM ?_))⟩;clear Z;exists _,Z,Ld;refine wU hi ?_;refine Z _ _ (aZ (hV ?_));clear Z;exists _,Z,Ld;refine wU hi ⟨_,rfl,?_⟩;rw[if_neg ∅];refine wU hi ⟨_,rfl,?_⟩;rw[if_neg ∅];refine Z _ _ ⟨λz=>absurd z ∅,λ_=>iI (hJ ?_)⟩;k_lt2 Z;refine QB (aT.mpr (AU hi hlk ?_));exact⟨rfl,Z _ _ ⟨rfl,k1⟩⟩
abbrev Sg:Str:=Str.ofString " !\"#$&'()*+,-./0123456789:;<=>?@ABCDEFGHIJKLMNOPQRSTUVWXYZ[\\]^_`abcdefghijklmnopqrstuvwxyz{|}~\n"
abbrev sx(z:Str):Prop:=0<z.cps.toList.length/\z.cps.toList.length<=1000/\∀c∈z.cps.toList,c<127
instance (z:Str):Decidable (sx z):=inferInstanceAs (Decidable (_/\_/\_))
def Cs:sx Sg:=by w_fin
def Md:sx (Str.ofString " 0\n1-u")/\(Str.ofString " 0\n1-u").length=6:=by w_fin
def uj{z:Str}{c:Int}(h:sx z)(c0:0<=c)(c1:c<(z.length:Int)):lim z.length=true/\∃x,iH z.cps.toList c=some x/\x<127:=by
 rw[gZ]at c1 ⊢;obtain⟨n,rfl⟩:∃n:Nat,c=(n:Int):=⟨c.toNat,by lk⟩;have hn:n<z.cps.toList.length:=by lk
 refine⟨fJ (by have:=h.2.1;lk),z.cps.toList[n],mh (Tj hn),h.2.2 _ (UK _)⟩
def Sd{st:Store}{f:Nat}(hf:aL st f):Wp (Bz [.ref f] st) λd st'=>∃c:Nat,d=.str ⟨#[c]⟩/\c<127/\aL st' f/\Ex [f] st st':=by
 refine mG ?_;show Ws (By [some (.ref f),none] st) _ _ _ _;unfold By;refine aZ (cM ?_);k_lt Z;refine Z _ _ (hJ ?_);clear Z;rw[show Str.ofString " !\"#$&'()*+,-./0123456789:;<=>?@ABCDEFGHIJKLMNOPQRSTUVWXYZ[\\]^_`abcdefghijklmnopqrstuvwxyz{|}~\n" = Sg from rfl];have so:=Cs;have sl:0<Sg.length/\Sg.length<=1000:=by rw[gZ];exact⟨so.1,so.2.1⟩
 generalize Sg=z at so sl ⊢;exists _,Z,GC;refine⟨fJ ⋯,?_⟩;refine aY (mM hf ⋯ ⋯) ?_;rintro d s1 ⟨k,rfl,k0,k9,f1,e1⟩;obtain⟨a,x,hx,xo⟩:=uj so k0 k9;rw[Gg];exact⟨x,a,hx,Z _ _ ⟨x,rfl,xo,f1,e1⟩⟩
abbrev g8:List Str:=["","0","1","00","01","-0","-1","+1","20","21","1_0","right","up","Right","x","999999999999"]
def xE:∀w∈g8,32 ∉ w.cps.toList/\w.cps.toList.length<=12/\∀c∈w.cps.toList,c<127:=by w_fin
def Se{st:Store}{f:Nat}{r:Str}(hf:aL st f)(hl:r.length<=600)(Hz:10 ∉ r.cps.toList):Wp (BD [.ref f,.str r] st) λd st'=>∃u:Str,d=.str u/\A8 r u/\u.length<=2000/\aL st' f/\Ex [f] st st':=by
 have hz:=ll;have hp:=Eh r;have hm:∀w∈hW r,(32 ∉ w.cps.toList/\10 ∉ w.cps.toList)/\w.length<=2000:=λw hw=>⟨⟨DN hw,λz=>Hz ((qT hw).subset z)⟩,by have:=(qT hw).length_le;rw[<- gZ,<- gZ]at this;lk⟩;have hj:Str.join ⟨#[32]⟩ (hW r)=r:=StrLaws.join_split _ _;have hpos:0<(hW r).length:=PyProof.Rows.split_pos r ⟨#[32]⟩;refine mG ?_;show Ws (BB [some (.ref f),some (.str r),none,none,none,none,none] st) _ _ _ _;unfold BB;refine aZ (cM ?_);k_lt Z;refine aY (mM hf ∅ ∅) ?_;rintro d s1 ⟨k,rfl,k0,k9,f1,e1⟩;refine Z _ _ (aZ (cM ?_));k_lt2 Z;refine⟨rfl,?_⟩;rw[Ck,yd (by w_fin) ⋯ (show(hW r).length<=_ by lk),show PySem.Txt.split r ⟨#[32]⟩=hW r from rfl];generalize hW r=ws at hp hm hj hpos ⊢;have h2:(s1 ++ [O.lst (ws.map D.str)])[s1.length]?=some (.lst (ws.map D.str)):=iK;have E2:Ex [f] st (s1 ++ [O.lst (ws.map D.str)]):=e1.app _;have f2:aL (s1 ++ [O.lst (ws.map D.str)]) f:=f1.keep (Ex.aM _);have hfl:=f1.lt;have gl:st.length<=s1.length:=e1.len;generalize s1.length=g at h2 hfl gl ⊢;generalize s1 ++ [O.lst (ws.map D.str)]=s2 at h2 E2 f2 ⊢;clear e1 f1;refine Z _ _ (aZ (Dw ?_));clear Z;exists _,Z,dG h2,S8;refine aY (mM f2 ⋯ ⋯) ?_;rintro d s3 ⟨i,rfl,i0,i9,f3,e3⟩;have h3:=e3.keep _ _ h2 (by simp;lk);exists dG h3,S8;refine aY (mM f3 ⋯ ⋯) ?_;rintro d s4 ⟨j,rfl,j0,j9,f4,e4⟩;have h4:=e4.keep _ _ h3 (by simp;lk);have E4:Ex [f] st s4:=(E2.trans e3).trans e4;refine Z _ _ ⟨_,_,rfl,aZ (cM ?_)⟩;clear Z E2 e3 e4 f2 f3 h2 h3;obtain⟨i,rfl⟩:∃n:Nat,i=(n:Int):=⟨i.toNat,by lk⟩;obtain⟨j,rfl⟩:∃n:Nat,j=(n:Int):=⟨j.toNat,by lk⟩;have El:=iJ h4;k_lt Z;refine⟨rfl,?_⟩;have h5:(s4 ++ [O.lst (g8.map D.str)])[g]?=some (.lst (ws.map D.str)):=jg h4;have o5:(s4 ++ [O.lst (g8.map D.str)])[s4.length]?=some (.lst (g8.map D.str)):=iK;have f5:aL (s4 ++ [O.lst (g8.map D.str)]) f:=f4.keep (Ex.aM _);have E5:Ex [f] st (s4 ++ [O.lst (g8.map D.str)]):=E4.app _;refine Z (.ref s4.length) (s4 ++ [O.lst (g8.map D.str)]) ?_;have gv:f≠s4.length:=by have:=f4.lt;lk
 generalize s4.length=v at o5 gv ⊢;generalize s4 ++ [O.lst (g8.map D.str)]=s5 at h5 o5 f5 E5 ⊢;clear Z E4 f4 h4 El;have yp:=dG h5;have xF:((i:Int)+1)=((i+1:Nat):Int):=by lk
 obtain⟨A,w,C,ew,hA,hwi⟩:=DP (ws:=ws) (i:=i) ⋯;obtain⟨c1,c2,c3,c4⟩:=Ba (w:=w) (C:=C) hA;rw[<- ew]at c1 c2 c3 c4;have yq:=hm w (by rw[ew];simp);have Sf:A.length+C.length+1=ws.length:=by rw[ew];simp;lk
 have er:r.cps.toList=(Str.join ⟨#[32]⟩ (A ++ w :: C)).cps.toList:=by rw[<- ew,hj]
 have fin:∀(us:List Str) (s9:Store) (L:Nat),items s9 L=some (us.map D.str)->us.length<=2000->(∀x∈us,x∈ws\/x.length<=12)->A8 r (Str.join ⟨#[32]⟩ us)->aL s9 f->Ex [f] st s9->Wp (cB (.str (Str.ofString " ")) [.ref L] s9) λd st'=>∃u:Str,d=.str u/\A8 r u/\u.length<=2000/\aL st' f/\Ex [f] st st':=λus s9 L h1 h2 h3 h4 h5 h6=>by
  rw[Ck,DC h1 h2 (by w_fin) (λx hx=>(h3 x hx).elim (λz=>(hm x z).2) (λz=>by lk))];refine⟨_,rfl,h4,?_,h5,h6⟩;rcases h4 with h4|h4
  have:=h4.len
  rw[<- gZ,<- gZ]at this;lk
  have:=h4.len
  rw[<- gZ,<- gZ]at this;lk
 refine aZ (hV ?_);k_lt Z;refine Z _ _ ⟨λh=>hJ ?_,λh=>iI ?_⟩;clear Z;exists _,Z,yp;refine⟨rfl,_,jE yp (Ex.aM _),?_⟩;rw[xF,qA,r9,<- Uz,<- UP,c1,c4,<- TN];refine⟨fJ (by rw[S8,S8];lk),?_⟩;refine aY (fin (A ++ C) _ _ ja (by rw[Td];lk) (λx hx=>.inl ?_) (.inl (by rw[er];exact w8 yq.1)) (f5.keep (((Ex.aM _).app _).app _)) (((E5.app _).app _).app _)) λd s q=>Z _ _ q;rw[ew];rcases Tw.mp hx with z|z
 exact Ui _ z;exact TJ _ (Tg _ z);clear Z;refine aZ (hV ?_);k_lt Z;refine Z _ _ ⟨λh=>hJ ?_,λh=>iI ?_⟩;clear Z;exists _,Z,yp;refine⟨rfl,_,jE yp (Ex.aM _),?_⟩;rw[xF,qA,r9,<- Uz,<- UP,c3,c2,<- TN];refine⟨fJ (by simp only[S8,Td,Tf,Uj];lk),?_⟩;refine aY (fin (A ++ [w] ++ w :: C) _ _ ja (by simp only[Td,Tf,Uj];lk) (λx hx=>.inl ?_) (.inl (by rw[er,Uv];exact QS yq.1.1)) (f5.keep (((Ex.aM _).app _).app _)) (((E5.app _).app _).app _)) λd s q=>Z _ _ q;rw[ew];simp only[Tw,Tp,TR,or_false]at hx ⊢;rcases hx with(z|z)|z|z
 exact .inl z;exact .inr (.inl z);exact .inr (.inl z);exact .inr (.inr z);clear Z;refine aZ (hV ?_);k_lt Z;refine Z _ _ ⟨λh=>aZ (Aq ?_),λh=>iI ?_⟩;clear Z;exists _,Z,yp;have Em:ws[j]?=some (ws[j]'⋯):=Tj _;generalize ws[j]'⋯=wj at Em;refine⟨.str wj,mh (by rw[TC,Em];rfl),.str w,mh (by rw[TC,hwi];rfl),rfl,Z _ _ ?_⟩;clear Z;w_how;have gf:g≠f:=by lk
 have El:=iJ h5;have h9:(s5.set g (.lst ((ws.map D.str).set i (.str wj))))[g]?=some (.lst ((ws.map D.str).set i (.str wj))):=TB El;refine⟨rfl,_,kD h5,i,zo (by rw[S8];lk),_,kD h9,j,zo (by rw[T8,S8];lk),hJ ?_⟩;k_lt Z;have e9:((ws.map D.str).set i (.str wj)).set j (.str w)=((ws.set i wj).set j w).map D.str:=by rw[VG,VG]
 rw[e9];have hed:A8 r (Str.join ⟨#[32]⟩ ((ws.set i wj).set j w)):=by
  rcases QV ⋯ ⋯ hwi Em with e|⟨A',B',C',u',v',e,e2⟩
  rw[e,hj];exact .inl (QU _);rw[e2];refine .inr ?_;rw[show r.cps.toList=(Str.join ⟨#[32]⟩ (A' ++ u' :: (B' ++ v' :: C'))).cps.toList by rw[<- e,hj]];exact QT (hm u' (by rw[e];simp)).1 (hm v' (by rw[e];simp)).1
 refine⟨rfl,aY (fin ((ws.set i wj).set j w) _ _ (dG (TB (by rw[T8];exact El))) (by rw[T8,T8];lk) (λx hx=>.inl ?_) hed ((f5.ne gf).ne gf) ((E5.loc gl).loc gl)) λd s q=>Z _ _ q⟩;rcases List.mem_or_eq_of_mem_set hx with hx|rfl
 rcases List.mem_or_eq_of_mem_set hx with hx|rfl
 exact hx;exact TL Em;exact TL hwi;clear Z;refine hJ ?_;exists _,Z,yp;rw[qA,<- Uz,c1];refine⟨rfl,_,jE (dG o5) (Ex.aM _),?_⟩;have SW:=f5.lt;have f6:=f5.keep (Ex.aM (c:=[]) (st:=s5) [O.lst (A.map D.str)]);refine aY (mM f6 ∅ ∅) ?_;rintro d s7 ⟨y,rfl,y0,y9,f7,e7⟩;obtain⟨o,ho,HA⟩:∃o,iH (g8.map D.str) y=some (.str o)/\o∈g8:=by
  obtain⟨y,rfl⟩:∃n:Nat,y=(n:Int):=⟨y.toNat,by lk⟩;have hy:y<g8.length:=by rw[S8]at y9;lk
  refine⟨g8[y],mh ?_,UK _⟩;rw[TC,Tj hy];rfl
 have oo:=xE o HA;have E7:Ex [f] st s7:=(E5.app _).trans e7;have g7:s7[g]?=some (.lst (ws.map D.str)):=e7.keep _ _ (jg h5) (by simp;lk);have a7:s7[s5.length]?=some (.lst (A.map D.str)):=e7.keep _ _ iK (by simp;lk);rw[Dv];refine⟨_,_,dG (e7.keep _ _ (jg o5) (by simp;lk)),ho,rfl,_,kD (jg a7),fJ (by rw[S8];show _+1<=_;lk),_,jE (dG g7) ((Ex.aM _).app _),?_⟩;rw[xF,r9,<- UP,c4];refine⟨fJ (by simp only[S8,Td,Tf,Uj];lk),?_⟩;have eo:A.map D.str ++ [D.str o] ++ C.map D.str=(A ++ o :: C).map D.str:=by simp
 rw[eo];refine aY (fin (A ++ o :: C) _ _ ja (by simp only[Td,Tf];lk) (λx hx=>?_) (.inl (by rw[er];exact xa yq.1 oo)) (f7.keep ((((Ex.aM _).app _).app _).app _)) ((((E7.app _).app _).app _).app _)) λd s q=>Z _ _ q;rw[ew];simp only[Tw,Tp]at hx ⊢;rcases hx with z|z|z
 exact .inl (.inl z);rw[z];exact .inr (by rw[gZ];exact oo.2.1);exact .inl (.inr (.inr z))
abbrev n9:List Str:=["","up 0","right 0"," "]
def Sh:∀w∈n9,bl w<=1/\w.length<=7/\dy w.cps.toList:=by
 have h:∀w∈n9,bl w<=1/\w.length<=7/\∀c∈w.cps.toList,c<1114112:=by w_fin
 exact h
def Si{st:Store}{f:Nat}{t:Str}(hf:aL st f)(hl:t.length<=600)(hc:dy t.cps.toList):Wp (BG [.ref f,.str t] st) λd st'=>∃u:Str,d=.str u/\Bn t u/\aL st' f/\Ex [f] st st':=by
 have hz:=ll;have hp:=Hw t;have hm:∀w∈rws t,10 ∉ w.cps.toList/\w.length<=600:=λw hw=>⟨DN hw,by have:=(qT hw).length_le;rw[<- gZ,<- gZ]at this;lk⟩;have hpos:0<(rws t).length:=PyProof.Rows.split_pos t ⟨#[10]⟩;refine mG ?_;show Ws (D0 [some (.ref f),some (.str t),none,none,none,none,none] st) _ _ _ _;unfold D0;refine aZ (cM ?_);k_lt Z;refine aY (mM hf ∅ ∅) ?_;rintro d s1 ⟨k,rfl,k0,k9,f1,e1⟩;refine Z _ _ (aZ (cM ?_));k_lt2 Z;refine⟨rfl,?_⟩;rw[Cm,yd (by w_fin) ⋯ (show(rws t).length<=_ by lk),show PySem.Txt.split t ⟨#[10]⟩=rws t from rfl];generalize hR:rws t=ws at hp hm hpos ⊢;have h2:(s1 ++ [O.lst (ws.map D.str)])[s1.length]?=some (.lst (ws.map D.str)):=iK;have E2:Ex [f] st (s1 ++ [O.lst (ws.map D.str)]):=e1.app _;have f2:aL (s1 ++ [O.lst (ws.map D.str)]) f:=f1.keep (Ex.aM _);have hfl:=f1.lt;have gl:st.length<=s1.length:=e1.len;generalize s1.length=g at h2 hfl gl ⊢;generalize s1 ++ [O.lst (ws.map D.str)]=s2 at h2 E2 f2 ⊢;clear e1 f1;refine Z _ _ (aZ (Dw ?_));clear Z;exists _,Z,dG h2,S8,GC;refine aY (mM f2 ⋯ ⋯) ?_;rintro d s3 ⟨i,rfl,i0,i9,f3,e3⟩;have h3:=e3.keep _ _ h2 (by simp;lk);refine⟨fJ ⋯,?_⟩;refine aY (mM f3 ⋯ ⋯) ?_;rintro d s4 ⟨j,rfl,j0,j9,f4,e4⟩;have h4:=e4.keep _ _ h3 (by simp;lk);have E4:Ex [f] st s4:=(E2.trans e3).trans e4;refine Z _ _ ⟨_,_,rfl,aZ (hV ?_)⟩;clear Z E2 e3 e4 f2 f3 h2 h3;obtain⟨i,rfl⟩:∃n:Nat,i=(n:Int):=⟨i.toNat,by lk⟩;obtain⟨j,rfl⟩:∃n:Nat,j=(n:Int):=⟨j.toNat,by lk⟩;have pL:=dG h4;have xF:((i:Int)+1)=((i+1:Nat):Int):=by lk
 obtain⟨A,w,C,ew,hA,hwi⟩:=DP (ws:=ws) (i:=i) ⋯;obtain⟨c1,c2,c3,c4⟩:=Ba (w:=w) (C:=C) hA;rw[<- ew]at c1 c2 c3 c4;have yq:=hm w (by rw[ew];simp);have Sf:A.length+C.length+1=ws.length:=by rw[ew];simp;lk
 have eR:rws t=A ++ w :: C:=hR.trans ew;have fin:∀(us:List Str) (s9:Store) (L:Nat),items s9 L=some (us.map D.str)->us.length<=2000->(∀x∈us,x∈ws\/x.length<=2000)->Bn t (Str.join ⟨#[10]⟩ us)->aL s9 f->Ex [f] st s9->Wp (cB (.str (Str.ofString "\n")) [.ref L] s9) λd st'=>∃u:Str,d=.str u/\Bn t u/\aL st' f/\Ex [f] st st':=λus s9 L h1 h2 h3 h4 h5 h6=>by
  rw[Cm,DC h1 h2 (by w_fin) (λx hx=>(h3 x hx).elim (λz=>by have:=(hm x z).2;lk) id)];exact⟨_,rfl,h4,h5,h6⟩
 k_lt Z;refine Z _ _ ⟨λh=>hJ ?_,λh=>iI ?_⟩;clear Z;exists _,Z,pL;refine⟨rfl,_,jE pL (Ex.aM _),?_⟩;rw[xF,qA,r9,<- Uz,<- UP,c1,c4,<- TN];refine⟨fJ (by rw[S8,S8];lk),?_⟩;refine aY (fin (A ++ C) _ _ ja (by rw[Td];lk) (λx hx=>.inl ?_) (xg hc eR) (f4.keep (((Ex.aM _).app _).app _)) (((E4.app _).app _).app _)) λd s q=>Z _ _ q;rw[ew];rcases Tw.mp hx with z|z
 exact Ui _ z;exact TJ _ (Tg _ z);clear Z h;refine aZ (hV ?_);k_lt Z;refine Z _ _ ⟨λh=>hJ ?_,λh=>iI ?_⟩;clear Z;exists _,Z,pL;refine⟨rfl,_,jE pL (Ex.aM _),?_⟩;rw[xF,qA,r9,<- Uz,<- UP,c3,c2,<- TN];refine⟨fJ (by simp only[S8,Td,Tf,Uj];lk),?_⟩;refine aY (fin (A ++ [w] ++ w :: C) _ _ ja (by simp only[Td,Tf,Uj];lk) (λx hx=>.inl ?_) (by rw[Uv];exact QX hc eR) (f4.keep (((Ex.aM _).app _).app _)) (((E4.app _).app _).app _)) λd s q=>Z _ _ q;rw[ew];simp only[Tw,Tp,TR,or_false]at hx ⊢;rcases hx with(z|z)|z|z
 exact .inl z;exact .inr (.inl z);exact .inr (.inl z);exact .inr (.inr z);clear Z h;refine aZ (hV ?_);k_lt Z;refine Z _ _ ⟨λh=>hJ ?_,λh=>iI ?_⟩;clear Z;exists _,Z,pL;refine⟨rfl,Qo.mpr ⟨_,pL,?_⟩⟩;rw[<- VE];refine aY (fin ws.reverse _ _ ja (by rw[Vl];lk) (λx hx=>.inl (List.mem_reverse.mp hx)) (by rw[<- hR];exact xh hc) (f4.keep (Ex.aM _)) (E4.app _)) λd s q=>Z _ _ q;clear Z h;refine aZ (hV ?_);k_lt Z;refine Z _ _ ⟨λh=>hJ ?_,λh=>iI ?_⟩;clear Z;exists _,Z,pL;rw[qA,<- Uz,c1];refine⟨rfl,rfl,?_⟩;have Sj:=f4.lt;have f6:=f4.keep ((Ex.aM (c:=[]) (st:=s4) [O.lst (A.map D.str)]).app [O.lst (n9.map D.str)]);refine aY (mM f6 ∅ ∅) ?_;rintro d s7 ⟨y,rfl,y0,y9,f7,e7⟩;obtain⟨o,ho,HA⟩:∃o,iH (n9.map D.str) y=some (.str o)/\o∈n9:=by
  obtain⟨y,rfl⟩:∃n:Nat,y=(n:Int):=⟨y.toNat,by lk⟩;have hy:y<n9.length:=by show y<4;lk
  refine⟨n9[y],mh ?_,UK _⟩;rw[TC,Tj hy];rfl
 have oo:=Sh o HA;have E7:Ex [f] st s7:=((E4.app _).app _).trans e7;have g7:s7[g]?=some (.lst (ws.map D.str)):=e7.keep _ _ (jg (jg h4)) (by simp;lk);have a7:s7[s4.length]?=some (.lst (A.map D.str)):=e7.keep _ _ (jg iK) (by simp;lk);rw[Dv];refine⟨_,_,dG (e7.keep _ _ iK (by simp;lk)),ho,rfl,_,kD (jg a7),fJ (by rw[S8];show _+1<=_;lk),_,jE (dG g7) ((Ex.aM _).app _),?_⟩;rw[r9,<- UP,c2];refine⟨fJ (by simp only[S8,Td,Tf,Uj];lk),?_⟩;have eo:A.map D.str ++ [D.str o] ++ (w :: C).map D.str=(A ++ o :: w :: C).map D.str:=by simp
 rw[eo];refine aY (fin (A ++ o :: w :: C) _ _ ja (by simp only[Td,Tf];lk) (λx hx=>?_) (Bb hc eR oo) (f7.keep ((((Ex.aM _).app _).app _).app _)) ((((E7.app _).app _).app _).app _)) λd s q=>Z _ _ q;rw[ew];simp only[Tw,Tp]at hx ⊢;rcases hx with z|z|z|z
 exact .inl (.inl z);rw[z];exact .inr (by have:=oo.2.1;lk);exact .inl (.inr (.inl z));exact .inl (.inr (.inr z));clear Z h;refine aZ (hV ?_);k_lt Z;refine Z _ _ ⟨λh=>hJ ?_,λh=>iI ?_⟩;clear Z;exists _,Z,pL;rw[qA,<- Uz,c1];refine⟨rfl,_,jE pL (Ex.aM _),.str w,mh (by rw[TC,hwi];rfl),?_⟩;have Sj:=f4.lt;have f6:=f4.keep (Ex.aM (c:=[]) (st:=s4) [O.lst (A.map D.str)]);refine aY (Se f6 yq.2 yq.1) ?_;rintro d s7 ⟨u,rfl,ed,ul,f7,e7⟩;have E7:Ex [f] st s7:=(E4.app _).trans e7;have g7:s7[g]?=some (.lst (ws.map D.str)):=e7.keep _ _ (jg h4) (by simp;lk);have a7:s7[s4.length]?=some (.lst (A.map D.str)):=e7.keep _ _ iK (by simp;lk);refine⟨rfl,_,kD (jg a7),fJ (by rw[S8];show _+1<=_;lk),_,jE (dG g7) ((Ex.aM _).app _),?_⟩;rw[xF,r9,<- UP,c4];refine⟨fJ (by simp only[S8,Td,Tf,Uj];lk),?_⟩;have eo:A.map D.str ++ [D.str u] ++ C.map D.str=(A ++ u :: C).map D.str:=by simp
 rw[eo];refine aY (fin (A ++ u :: C) _ _ ja (by simp only[Td,Tf];lk) (λx hx=>?_) (xb hc eR ed) (f7.keep ((((Ex.aM _).app _).app _).app _)) ((((E7.app _).app _).app _).app _)) λd s q=>Z _ _ q;rw[ew];simp only[Tw,Tp]at hx ⊢;rcases hx with z|z|z
 exact .inl (.inl z);rw[z];exact .inr ul;exact .inl (.inr (.inr z));have SX:=of_decide_eq_false h;clear Z h;refine aZ (hV ?_);k_lt Z;refine Z _ _ ⟨λh=>hJ ?_,λh=>iI ?_⟩;clear Z;exists _,Z,K8,KP;have el:=gZ t;rw[show((j:Int)+1)=((j+1:Nat):Int) by lk,Ll ⋯,uf ⋯];refine⟨fJ ⋯,fJ ⋯,fJ (by rw[DB,DB,Ub,UC];lk),Z _ _ ⟨_,rfl,G4 hc ?_,f4,E4⟩⟩;have:=Ls (t:=t.cps.toList) (v:=[]) (n:=j) (m:=j+1) ⋯ ⋯ ∅ (λc z=>nomatch z);rw[Gy,yc];simpa using this;clear Z;refine aZ (cM ?_);k_lt Z;refine aY (Sd f4) ?_;rintro d s5 ⟨c,rfl,co,f5,e5⟩;refine aY (mM f5 ∅ ∅) ?_;rintro d s6 ⟨y,rfl,y0,y9,f6,e6⟩;obtain⟨a6,x,hx,xo⟩:=uj Md.1 y0 (by rw[Md.2];exact y9);rw[Gg];refine⟨x,a6,hx,rfl,?_⟩;refine aY (mM (f6.keep (Ex.aM _)) ∅ ∅) ?_;rintro d s7 ⟨z,rfl,z0,z9,f7,e7⟩;have i7:items s7 s6.length=some [D.str ⟨#[c]⟩,.str ⟨#[x]⟩]:=dG (e7.keep _ _ iK (by have:=f6.lt;simp;lk));obtain⟨d,hd,dk⟩:∃d:Nat,iH [D.str ⟨#[c]⟩,.str ⟨#[x]⟩] z=some (.str ⟨#[d]⟩)/\d<127:=by
  rcases(show z=0\/z=1 by lk)with rfl|rfl
  exact⟨c,rfl,co⟩;exact⟨x,rfl,xo⟩
 rw[Dv];refine⟨_,_,i7,hd,?_⟩;have E7:Ex [f] st s7:=(((E4.trans e5).trans e6).app _).trans e7;refine Z _ _ (hJ ?_);clear Z;have h7:=of_decide_eq_false h;obtain⟨m,hm,m1,m2⟩:∃m:Nat,((j:Int)+k-8)=(m:Int)/\j<=m/\m<=j+1:=⟨((j:Int)+k-8).toNat,by lk,by lk,by lk⟩;exists _,Z,K8,KP;have el:=gZ t;rw[hm,Ll ⋯,uf ⋯];have l1:(sO (t.cps.toList.take j)).length<=600:=by rw[DB,Ub];lk
 have l2:(sO (t.cps.toList.drop m)).length<=600:=by rw[DB,UC];lk
 have l3:(⟨#[d]⟩:Str).length=1:=rfl;have l4:(sO (t.cps.toList.take j) ++ (⟨#[d]⟩:Str)).length=(sO (t.cps.toList.take j)).length+1:=by simp[Str.length_append,l3]
 refine⟨fJ ⋯,fJ ⋯,fJ ⋯,fJ ⋯,Z _ _ ⟨_,rfl,G4 hc ?_,f7,E7⟩⟩;have:=Ls (t:=t.cps.toList) (v:=[d]) (n:=j) (m:=m) m1 m2 (by simp) (λc z=>by rw[TK.mp z];exact dk);rw[show(⟨#[d]⟩:Str)=sO [d]from rfl,Gy,Gy,yc];exact this
abbrev ky(l:List Int):Prop:=∀x∈l,0<=x/\x<22
def xG:∀k:Fin 22,(tx (k.1:Int)).length<=2:=by w_fin
def HB{x:Int}(x0:0<=x)(x1:x<22):(tx x).length<=2/\nW (tx x):=by have:=xG ⟨x.toNat,by lk⟩;have h2:=(G5 (k:=x.toNat) ⋯).1;rw[show((⟨x.toNat,by lk⟩:Fin 22).1:Int)=x from by show((x.toNat:Nat):Int)=x;lk]at this;rw[show((x.toNat:Nat):Int)=x by lk]at h2;exact⟨this,h2⟩
abbrev dz(name:Str)(l:List Int):Str:=Str.join ⟨#[32]⟩ (name :: l.map tx)
abbrev lp(xs ys:List Int):Str:=Str.join ⟨#[10]⟩ [dz "right" xs,dz "up" ys]
def Me{name:Str}{l:List Int}:(dz name l).cps.toList=name.cps.toList ++ (l.map tx).flatMap (λx=>32 :: x.cps.toList):=by
 have:=kL (c:=32) name (l.map tx) []
 simpa[dz]using this
def Mf{l:List Int}(h:ky l):∀w∈l.map tx,nW w:=λw hw=>by
 obtain⟨x,hx,rfl⟩:=T6.mp hw;exact(HB (h x hx).1 (h x hx).2).2
def En{name:Str}{l:List Int}(hn:name.length<=5)(h:ky l):(dz name l).length<=name.length+1+3*l.length:=by
 have key:∀l:List Int,ky l->jV (l.map tx)<=3*l.length:=by
  intro l
  induction l with
  |nil=>intro _;exact Uq _
  |cons x r ih =>
   intro h;have a:=(HB (h x Te).1 (h x Te).2).1;have b:=ih λy hy=>h y (Tg _ hy);rw[Um,A2,Tf];lk
 have:=key l h;have:=Lo (c:=32) (name :: l.map tx);rw[A2]at this;unfold dz;lk
structure T0(n:Nat)(t:Str):Prop where
 len:t.length<=6*n+11
 ok:dy t.cps.toList
 a1:A1 t.cps.toList n
 ct:bl t<=2*n
 rw:∀r∈rws t,bl r<=n
def Sk:(Str.ofString "right").cps.toList=[114,105,103,104,116]:=by w_fin
def xH:(Str.ofString "up").cps.toList=[117,112]:=by w_fin
def Mg{xs ys:List Int}{n:Nat}(hx:ky xs)(hy:ky ys)(lx:xs.length<=n)(ly:ys.length<=n):T0 n (lp xs ys):=by
 obtain⟨cX,gX⟩:=Ej (Mf hx);obtain⟨cY,gY⟩:=Ej (Mf hy);rw[S8]at cX cY;have rX:=Me (name:="right") (l:=xs);have rY:=Me (name:="up") (l:=ys);rw[Sk]at rX;rw[xH]at rY;have a1:=QW rX rY gX gY (by lk:_<=n) ⋯;have et:(lp xs ys).cps.toList=(dz "right" xs).cps.toList ++ 10 :: (dz "up" ys).cps.toList:=by
  have:=kL (c:=10) (dz "right" xs) [dz "up" ys] []
  simpa[lp]using this
 have bX:bl (dz "right" xs)<=n:=by
  unfold bl;rw[rX,Tx,cX,show List.count 32 [114,105,103,104,116]=0 from rfl];lk
 have bY:bl (dz "up" ys)<=n:=by
  unfold bl;rw[rY,Tx,cY,show List.count 32 [117,112]=0 from rfl];lk
 have oX:∀c∈(dz "right" xs).cps.toList,c<127/\c≠10:=λc hc=>by
  rw[rX]at hc;rcases Tw.mp hc with hc|hc
  exact(by decide:∀c∈[114,105,103,104,116],c<127/\c≠10) c hc
  have:=gX c hc;unfold g0 at this;lk
 have oY:∀c∈(dz "up" ys).cps.toList,c<127/\c≠10:=λc hc=>by
  rw[rY]at hc;rcases Tw.mp hc with hc|hc
  exact(by decide:∀c∈[117,112],c<127/\c≠10) c hc
  have:=gY c hc;unfold g0 at this;lk
 have l1:=En (name:="right") (by w_fin) hx;have l2:=En (name:="up") (by w_fin) hy;rw[show(Str.ofString "right").length=5 by w_fin]at l1;rw[show(Str.ofString "up").length=2 by w_fin]at l2;have er:rws (lp xs ys)=[dz "right" xs,dz "up" ys]:=QL (by simp) λw hw=>by
  rcases Tp.mp hw with rfl|hw
  exactλz=>(oX 10 z).2 rfl;rw[TK.mp hw];exactλz=>(oY 10 z).2 rfl
 refine⟨?_,λc hc=>?_,by rw[et];exact a1,?_,λr hr=>?_⟩;rw[gZ,et,Td,Tf,<- gZ,<- gZ];lk;rw[et]at hc;rcases Tw.mp hc with hc|hc
 have:=(oX c hc).1;lk
 rcases Tp.mp hc with rfl|hc
 decide
 have:=(oY c hc).1;lk
 rw[Lp,er];show bl _+(bl _+0)<=_;lk;rw[er]at hr;rcases Tp.mp hr with rfl|hr
 exact bX;rw[TK.mp hr];exact bY
def Mh{t:Str}{n:Nat}(h:t.length<=n):Wb t.cps.toList n:=λy hy _ _=>by
 have:=hy.length_le;rw[<- gZ]at this;lk
def T0.tk{n:Nat}{t:Str}(h:T0 n t)(hn:n<=22):Tk t:=⟨by have:=h.len;lk,h.ok,Mh (by have:=h.len;lk),(yg h.a1).mono ⋯⟩
abbrev Pt(i:Nat)(t:Str):Prop:=(i=0->T0 20 t)/\(i=1->t.length<=275/\A0 t.cps.toList 21/\bl t<=60)/\(i=2->t.length<=563/\A1 t.cps.toList 61)/\Tk t
def HC{t u:Str}{n:Nat}(b:Bn t u)(hl:t.length<=563)(h:A0 u.cps.toList n)(hn:n<=62):Tk u:=⟨by have:=b.len;lk,b.ok,λy h1 h2 h3=>by have:=b.wb y h1 h2 h3;lk,h.mono hn⟩
def Sl{i:Nat}{t u:Str}(p:Pt i t)(hi:i<3)(b:Bn t u):Pt (i+1) u:=by
 obtain⟨p0,p1,p2,T⟩:=p;have SY:=b.len;rcases(show i=0\/i=1\/i=2 by lk)with rfl|rfl|rfl
 have q:=p0 rfl;have ql:=q.len;have a:A0 u.cps.toList 21/\bl u<=60:=by
  have:=q.ct;rcases b.how with⟨h1,h2⟩|⟨h1,h2⟩
  exact⟨h1 _ q.a1,by lk⟩;exact⟨(h1 20 ∅ (yg q.a1)).mono ∅,by have:=h2 20 ∅ q.rw;lk⟩
 exact⟨λz=>by lk,λ_=>⟨by lk,a⟩,λz=>by lk,HC b ⋯ a.1 ∅⟩;obtain⟨q1,q2,q3⟩:=p1 rfl;have a:A1 u.cps.toList 61:=by
  rcases b.how with⟨h1,h2⟩|⟨h1,h2⟩
  exact A6.mono (by unfold bl at h2 q3;lk);exact(A7 (h1 21 ∅ q2)).mono ∅
 exact⟨λz=>by lk,λz=>by lk,λ_=>⟨by lk,a⟩,HC b ⋯ (yg a) ∅⟩;obtain⟨q1,q2⟩:=p2 rfl;have a:A0 u.cps.toList 62:=by
  rcases b.how with⟨h1,h2⟩|⟨h1,h2⟩
  exact h1 _ q2;exact(h1 61 ∅ (yg q2)).mono ∅
 exact⟨λz=>by lk,λz=>by lk,λz=>by lk,HC b ⋯ a ∅⟩
def Sm{st:Store}{f i:Nat}{t:Str}(hf:aL st f)(p:Pt i t)(hi:i<3):Wp (BG [.ref f,.str t] st) λd st'=>∃u:Str,d=.str u/\Pt (i+1) u/\aL st' f/\Ex [f] st st':=by
 have hl:t.length<=600:=by
  rcases(show i=0\/i=1\/i=2 by lk)with rfl|rfl|rfl
  have:=(p.1 rfl).len;lk
  have:=(p.2.1 rfl).1;lk
  have:=(p.2.2.1 rfl).1;lk
 refine aY (Si hf hl p.2.2.2.ok) ?_;rintro d s ⟨u,rfl,b,f1,e1⟩;exact⟨u,rfl,Sl p hi b,f1,e1⟩
def Sn{xs:List Int}(name:Str):[D.str name] ++ (xs.map D.int).map (λd=>D.str (tx (inD d)))=(name :: xs.map tx).map D.str:=by rw[Uo,Um,Uo];rfl
def o8{st:Store}{name:Str}{l:List Int}(hn:name.length<=5)(hl:ky l)(S0:l.length<=22):Wp (jo "str" cB (fC (.str " ")) (ae (aF dE (cw (ae (ag 0) ah)) (eP (jL (ag 1)) 1 [] (hName 0) iq (aQ km (ae (ag 0) ah)))) ah) [some (.str name),some (.tup (l.map D.int))] st) λd st'=>d=.str (dz name l)/\Ex [] st st':=by
 k_lt Z;refine⟨rfl,rfl,?_⟩;refine Gu (l.map D.int) (λd=>.str (tx (inD d))) ?_ (by rw[S8];lk) ?_ ?_;k_lt hZ;exact hZ _ _ ⟨Gs _ _,Ex.refl⟩;intro d hd st2 k2;obtain⟨x,hx,rfl⟩:=KI hd;obtain⟨x0,x1⟩:=hl x hx;exists _,hZ,K2 (Cp (x:=x) ⋯);exact hZ _ _ ⟨rfl,Ex.refl⟩;intro st2 k2;have h1:items (st2 ++ [O.lst ((l.map D.int).map (λd=>D.str (tx (inD d))))]) st.length=some [D.str name]:=dG (jg (k2.keep _ _ iK (by simp)));exists ja,h1;refine⟨_,kD (jg (k2.keep _ _ iK (by simp))),fJ (by simp;lk),?_⟩
 rw[Sn,Ck,DC ja (by simp;lk) (by w_fin) (λw hw=>by
  rcases Tp.mp hw with rfl|hw
  lk;obtain⟨x,hx,rfl⟩:=T6.mp hw
  have:=(HB (hl x hx).1 (hl x hx).2).1
  lk)]
 exact Z _ _ ⟨rfl,(((Ex.aM _).trans k2).app _).app _⟩
def Mi{st:Store}{xs ys:List Int}(hx:ky xs)(hy:ky ys)(lx:xs.length<=22)(ly:ys.length<=22):Wp (Bl [jb xs ys] st) λd st'=>d=.str (lp xs ys)/\Ex [] st st':=by
 refine mG ?_;show Ws (Bk [some (jb xs ys),none] st) _ _ _ _;unfold Bk;refine aZ (cM ?_);refine Qs [(D.str "right",D.tup (xs.map D.int)),(D.str "up",D.tup (ys.map D.int))] (λp=>match p with|(.str a,.tup ds)=>.str (dz a (ds.map inD))|_=>.non) ?_ (by simp) ?_ ?_;exists _,Z,Qv;exact⟨rfl,_,_,⟨rfl,rfl⟩,_,ja,_,rfl,Z _ _ ⟨show mH _ (di [D.str "right",D.str "up"] [D.tup (xs.map D.int),D.tup (ys.map D.int)]) _ from wO ja,Ex.aM _⟩⟩;intro p hp st1 k1;rcases Tp.mp hp with rfl|hp
 refine aY (o8 (name:="right") (by w_fin) hx lx) ?_;rintro d st2 ⟨rfl,k2⟩;refine⟨?_,k2⟩;show _=D.str (dz "right" ((xs.map D.int).map inD));rw[DA];rw[TK.mp hp];refine aY (o8 (name:="up") (by w_fin) hy ly) ?_;rintro d st2 ⟨rfl,k2⟩;refine⟨?_,k2⟩;show _=D.str (dz "up" ((ys.map D.int).map inD));rw[DA];intro st1 k1;refine hJ ?_;have l1:=En (name:="right") (by w_fin) hx;have l2:=En (name:="up") (by w_fin) hy;rw[show(Str.ofString "right").length=5 by w_fin]at l1;rw[show(Str.ofString "up").length=2 by w_fin]at l2;have e:([(D.str "right",D.tup (xs.map D.int)),(D.str "up",D.tup (ys.map D.int))]:List (D×D)).map (λp=>match p with|(.str a,.tup ds)=>D.str (dz a (ds.map inD))|_=>.non)=[dz "right" xs,dz "up" ys].map D.str:=by
  show[D.str (dz "right" ((xs.map D.int).map inD)),D.str (dz "up" ((ys.map D.int).map inD))]=_;rw[DA,DA];rfl
 rw[e];k_lt Z
 rw[Cm,DC ja (by simp) (by w_fin) (λw hw=>by
  rcases Tp.mp hw with rfl|hw
  lk
  rw[TK.mp hw];lk)]
 refine⟨rfl,Z _ _ ⟨rfl,k1.app _⟩⟩
def Mj{i:Int}(h:i.natAbs<4294967296):DT i:=by unfold DT;by_cases z:i.natAbs=0;rw[z];decide;exact(Nat.log2_lt z).mpr (VD h (by set_option exponentiation.threshold 3000 in decide))
def Mk{n:Nat}{xs:List Int}(tx:aj.Tn n xs)(hn:n<=20):sg 2 (.tup (xs.map D.int))/\L2.wD (eM 2 (.tup (xs.map D.int)))<=38463:=by
 refine⟨λd hd=>?_,?_⟩;obtain⟨i,hi,rfl⟩:=T6.mp hd
 have:=tx.bound hi;exact Mj ⋯
 have:=DV (n:=1) (b:=1921) (ds:=xs.map D.int) λd hd=>by
  obtain⟨i,hi,rfl⟩:=T6.mp hd;rw[Lz];exact Tc _
 rw[S8,tx.length]at this;have h:n*(1921+2)<=20*(1921+2):=Nat.mul_le_mul_right _ hn;exact TF this ⋯
def Sq(t:Str):(∃k:Nat,k<3/\rd t=(k,[],[]))\/∃n xs ys,rd t=(3,xs,ys)/\aj.Tn n xs/\aj.Tn n ys/\n<=20:=by
 unfold rd;split
 ·exact .inl ⟨0,by decide,rfl⟩
 ·next xs _ =>
  split
  ·exact .inl ⟨0,by decide,rfl⟩
  ·next g =>
   split
   ·exact .inl ⟨1,by decide,rfl⟩
   ·split
    ·exact .inl ⟨1,by decide,rfl⟩
    ·next ys _ =>
     split
     ·exact .inl ⟨1,by decide,rfl⟩
     ·next Ml =>
      split
      ·exact .inl ⟨2,by decide,rfl⟩
      ·right
       have ax:aj.am xs=none:=by
        cases e:aj.am xs with
        |none=>rfl
        |some k=>exact absurd (.inr (.inr (by rw[e];rfl))) g
       have ay:aj.am ys=none:=by
        cases e:aj.am ys with
        |none=>rfl
        |some k=>exact absurd (Hx g (by rw[e];rfl)) Ml
       have hl:ys.length=xs.length:=Classical.byContradiction λz=>Ml (L6 z);have ty:=aj.tH ay;rw[hl]at ty;exact⟨xs.length,xs,ys,rfl,aj.tH ax,ty,by lk⟩
def Eo{st:Store}{Q:D->Store->Prop}{t:Str}:Wp (ig [dV (rd t)] st) Q↔Q (.str (eM 4 (dV (rd t))).shown) st:=by
 have key:sg 4 (dV (rd t))/\L2.wD (eM 4 (dV (rd t)))<=16777216:=by
  have hs:sg 3 (.str "refused")/\L2.wD (eM 3 (.str "refused"))<=1921:=⟨⟨by w_fin,by w_fin⟩,by w_fin⟩;have ht:sg 3 (.str "told")/\L2.wD (eM 3 (.str "told"))<=1921:=⟨⟨by w_fin,by w_fin⟩,by w_fin⟩;rcases Sq t with⟨k,hk,e⟩|⟨n,xs,ys,e,tx,ty,hn⟩
  rw[yo e hk];refine⟨λd hd=>?_,TF (DV (b:=1921) (n:=3) λd hd=>?_) (by show 2*(1921+2)+3<=_;decide)⟩;simp only[Tp,TR,or_false]at hd;rcases hd with rfl|rfl
  exact hs.1;exact Mj (i:=(k:Int)) ⋯;simp only[Tp,TR,or_false]at hd;rcases hd with rfl|rfl
  exact hs.2;rw[Lz];exact Tc _;have ev:dV (rd t)=.tup [.str "told",jb xs ys]:=by rw[e];rfl
  rw[ev];have f1:=Mk tx hn;have f2:=Mk ty hn;have rf:sg 3 (jb xs ys)/\L2.wD (eM 3 (jb xs ys))<=76933:=by
   refine⟨λd hd=>?_,TF (DV (b:=38463) (n:=2) (ds:=[.tup (xs.map D.int),.tup (ys.map D.int)]) λd hd=>?_) (by show 2*(38463+2)+3<=_;decide)⟩;simp only[Tp,TR,or_false]at hd;rcases hd with rfl|rfl
   exact f1.1;exact f2.1;simp only[Tp,TR,or_false]at hd;rcases hd with rfl|rfl
   exact f1.2;exact f2.2
  refine⟨λd hd=>?_,TF (DV (b:=76933) (n:=3) λd hd=>?_) (by show 2*(76933+2)+3<=_;decide)⟩;simp only[Tp,TR,or_false]at hd;rcases hd with rfl|rfl
  exact ht.1;exact rf.1;simp only[Tp,TR,or_false]at hd;rcases hd with rfl|rfl
  exact TF ht.2 ∅;exact rf.2
 exact QY key.1 ∅ key.2
abbrev Ask(d:D):Prop:=∃t u:Str,d=.tup [.str t,.str u]/\Tk t/\Tk u
def Mm{t:Str}(h:t.length<=60/\∀c∈t.cps.toList,c<1114112):Tk t:=⟨by lk,h.2,Mh ⋯,λy hy _=>by
 have a:=hy.length_le;have b:=List.count_le_length (a:=32) (l:=y);rw[<- gZ]at a
 lk⟩
abbrev qI:Str:=Str.ofString "right 0\nup 0"
def Sr:Tk (Str.ofString ""):=Mm (by w_fin)
def Ss:Tk qI:=Mm (by w_fin)
def Sv:∀n,n<23->0<n->(aj.iZ n).all (λx=>decide (0<=x/\x<22))=true/\(aj.iZ n).length<=22:=by decide
def Sw{n:Nat}(h:n<23)(n0:0<n):ky (aj.iZ n)/\(aj.iZ n).length<=22:=by obtain⟨a,b⟩:=Sv n h n0;exact⟨λx hx=>of_decide_eq_true (UX.mp a x hx),b⟩
def qJ(ns:List Int)(hn:ns.length<=63):Wp (Hh [.ref 0] [.mZ (ns.map D.int)]) λd _=>d=.bl true:=by
 refine Bc ?_;intro qR;show Ws (Cc [some (.ref 0),none,none,none,none,none,none,none,none,none] [.mZ (ns.map D.int)]) _ _ _ _;unfold Cc;have hc6:(cutD (ns.map D.int) none (some (6:Int))).length<=6:=by
  have:=qA (ns.map D.int) 6;rw[show(some (6:Int))=some ((6:Nat):Int)from rfl,this,Ub];lk
 obtain⟨m,hm,S3⟩:∃m:Nat,(if((cutD (ns.map D.int) none (some (6:Int))).length:Int) > 1 then((cutD (ns.map D.int) none (some (6:Int))).length:Int)else 1)=(m:Int)/\m<=6:=by
  split;exact⟨_,rfl,hc6⟩;exact⟨1,rfl,by decide⟩
 rw[show Str.ofString "right 0\nup 0" = qI from rfl];have tg:=Ss;generalize qI=gS at tg ⊢;refine aZ (cM ?_);k_lt Z;refine⟨rfl,rfl,Z _ _ ?_⟩;clear Z;have Hz:([O.mZ (ns.map D.int)] ++ [O.lst [.tup [.str (Str.ofString ""),.str gS]]]:Store)[1]?=some (.lst [.tup [.str (Str.ofString ""),.str gS]]):=rfl;refine aZ (rZ [.int 20,.int 21,.int 22] (λi I st=>∃(v2 v3:Option D) (qs:List D),I=[some (.ref 0),some (.ref 1),v2,v3,none,none,none,none,none,none]/\st[0]?=some (.mZ (ns.map D.int))/\st[1]?=some (.lst qs)/\qs.length<=1+i/\∀d∈qs,Ask d) ?_ ∅ ?_ ?_);k_lt Z;refine⟨rfl,Z _ _ ⟨rfl,_,_,_,rfl,rfl,Hz,Tc _,λd hd=>?_⟩⟩;rw[TK.mp hd];exact⟨_,_,rfl,Sr,tg⟩;rintro i d I st hd ⟨v2,v3,qs,rfl,h0,h1,hl,hq⟩;have hil:=iJ hd;obtain⟨n,rfl,n0,n1⟩:∃n:Nat,d=.int (n:Int)/\0<n/\n<23:=by
  rcases(show i=0\/i=1\/i=2 by simp at hil;lk)with rfl|rfl|rfl
  cases hd;exact⟨20,rfl,by decide,by decide⟩;cases hd;exact⟨21,rfl,by decide,by decide⟩;cases hd;exact⟨22,rfl,by decide,by decide⟩
 obtain⟨r1,r2⟩:=Sw n1 n0;have T:=(Mg r1 r1 r2 r2).tk ∅;k_lt Z;refine Z _ _ (aZ (cM ?_));clear Z;exists _,Z,ja;rw[<- Gq];refine⟨qQ ⋯,rfl,fJ (by rw[jr];simp;lk),?_⟩;have k1:Ex [] st _:=(((Ex.aM [O.fR 1 (n:Int)]).app [O.lst (aD 1 ((n:Int)-1).toNat)]).app [O.lst [D.int 0]]).app [O.lst ((aj.iZ n).map D.int)];have h01:=k1.keep _ _ h0 (by simp);have h11:=k1.keep _ _ h1 (by simp);generalize (st ++ [O.fR 1 (n:Int)] ++ [O.lst (aD 1 ((n:Int)-1).toNat)] ++ [O.lst [D.int 0]] ++ [O.lst ((aj.iZ n).map D.int)])=s1 at h01 h11 ⊢;refine Z _ _ (x9 ?_);clear Z k1;k_lt Z;refine⟨t5 (by rw[dG h11];rfl),rfl,?_⟩;refine aY (Mi r1 r1 r2 r2) ?_;rintro d s2 ⟨rfl,k2⟩;have h02:=k2.keep _ _ h01 (by simp);have h12:=k2.keep _ _ h11 (by simp);refine⟨rfl,_,kD h12,fJ (by simp at hil;lk),Z _ _ ⟨_,_,qs ++ [_],rfl,?_,TB (iJ h12),?_,λd hd=>?_⟩⟩;rw[TQ ∅];exact h02;rw[Td,UW];lk;rcases Tw.mp hd with hd|hd
 exact hq d hd;rw[TK.mp hd];exact⟨_,_,rfl,T,tg⟩;rintro I st ⟨v2,v3,qs,rfl,h0,h1,hl,hq⟩;have hl:qs.length<=4:=hl
 let Cg:IV:=λi I st=>∃(v4 v5 v6 v7 v8 v9:Option D) (qs:List D),I=[some (.ref 0),some (.ref 1),v2,v3,v4,v5,v6,v7,v8,v9]/\st[0]?=some (.mZ (ns.map D.int))/\st[1]?=some (.lst qs)/\qs.length<=4+i/\∀d∈qs,Ask d
 refine aZ (rZ (aD 0 m) Cg ?_ (by rw[jr];lk) ?_ ?_);exists _,Z,Ky h0,hm;exact⟨by lk,Z _ _ ⟨by rw[T9],_,_,_,_,_,_,qs,rfl,jg h0,jg h1,by lk,hq⟩⟩;rintro i d I st hd ⟨v4,v5,v6,v7,v8,v9,qs,rfl,h0,h1,hl,hq⟩;have hil:=iJ hd;rw[jr]at hil;rw[Ae hil,VF]at hd;cases hd;k_lt Z;refine Z _ _ (aZ (cM ?_));k_lt2 Z;refine aY (RB (a:=0) (ns:=ns) (k:=i) (Ky h0) ⋯) ?_;rintro d st2 ⟨rfl,f2,k2⟩;generalize hF:st.length=ff at f2 ⊢;have S4:1<ff:=by rw[<- hF];exact iJ h1
 have h02:=k2.keep _ _ h0 (by simp);have h12:=k2.keep _ _ h1 (by simp);have Sx:=f2.lt;refine Z _ _ (aZ (cM ?_));k_lt2 Z;refine aY (mM (n:=3) f2 ∅ ∅) ?_;rintro d st3 ⟨tw,rfl,tw0,tw1,f3,k3⟩;w_how;refine Z _ _ (aZ (cM ?_));k_lt2 Z;refine⟨rfl,?_⟩;have Sy:=f3.lt;refine aY (mM (n:=3) (f3.keep (Ex.aM [O.lst [D.int 3,D.int 6,D.int 20]])) ∅ ∅) ?_;rintro d kq ⟨e,rfl,e0,e1,f4,k4⟩;have pL:items kq st3.length=some [D.int 3,D.int 6,D.int 20]:=dG (k4.keep _ _ iK (by simp;lk));obtain⟨r,hr,r1,S5⟩:∃r:Int,iH [D.int 3,D.int 6,D.int 20] e=some (.int r)/\1<=r/\r<=20:=by
  rcases(show e=0\/e=1\/e=2 by lk)with rfl|rfl|rfl
  exact⟨3,rfl,by decide,by decide⟩;exact⟨6,rfl,by decide,by decide⟩;exact⟨20,rfl,by decide,by decide⟩
 exists pL,hr;refine aY (mM (n:=r) f4 ⋯ ⋯) ?_;rintro d mW ⟨n1,rfl,S6,S7,f5,k5⟩;w_how;obtain⟨n,rfl⟩:∃n:Nat,n1=(n:Int)-1:=⟨(n1+1).toNat,by lk⟩;rw[show(1:Int)+((n:Int)-1)=(n:Int) by lk];refine aY (RG (n:=n) f5 ⋯ ⋯) ?_;rintro d Dt ⟨xs,ys,rfl,fl,f6,k6⟩;have bx:ky xs:=λx hx=>by have:=fl.1.bound hx;lk
 have Mp:ky ys:=λx hx=>by have:=fl.2.1.bound hx;lk
 have lx:=fl.1.length;have ly:=fl.2.1.length;refine aY (Mi bx Mp ⋯ ⋯) ?_;rintro d rD ⟨rfl,k7⟩;have t0:=Mg (n:=20) bx Mp ⋯ ⋯;have kk:Ex [ff] st2 rD:=((((k3.trans (Ex.aM _)).trans k4).trans k5).trans k6).trans k7.any;have f7:=f6.keep k7;have Sz:=kk.keep _ _ h02 (by simp;lk);have SA:=kk.keep _ _ h12 (by simp;lk);clear kk k7 k6 k5 k4 k3 k2 f6 f5 f4 f3 f2 h02 h12 pL;generalize lp xs ys=t0' at t0 ⊢;refine Z _ _ (aZ (cM ?_));k_lt2 Z;obtain⟨tn,rfl⟩:∃n:Nat,tw=(n:Int):=⟨tw.toNat,by lk⟩;have p0:Pt 0 t0':=⟨λ_=>t0,λz=>(nomatch z),λz=>(nomatch z),t0.tk ∅⟩
 let Hl:IV:=λi' I st=>∃(v9:Option D) (t:Str),I=[some (.ref 0),some (.ref 1),v2,v3,some (.int (i:Int)),some (.ref ff),some (.int (1+(tn:Int))),some (.str t0'),some (.str t),v9]/\Pt i' t/\aL st ff/\st[0]?=some (.mZ (ns.map D.int))/\st[1]?=some (.lst qs)
 refine Z _ _ (aZ (rZ (aD 0 (1+tn)) Hl ?_ (by rw[jr];lk) ?_ ?_));k_lt2 Z;exact⟨by lk,Z _ _ ⟨by rw[show((1:Int)+(tn:Int)).toNat=1+tn by lk],_,t0',rfl,p0,f7,Sz,SA⟩⟩;clear Z;rintro i' d I st hd ⟨v9,t,rfl,pt,fS,HD,Ct⟩;have HE:=iJ hd;rw[jr]at HE;k_lt Z;refine Z _ _ (cM ?_);k_lt2 Z;refine aY (Sm fS pt ⋯) ?_;rintro d s8 ⟨u,rfl,pu,f8,e8⟩;exact Z _ _ ⟨_,u,rfl,pu,f8,e8.keep _ _ HD (by simp;lk),e8.keep _ _ Ct (by simp;lk)⟩;clear Z;rintro I st ⟨v9,t,rfl,pt,fS,HD,Ct⟩;refine x9 ?_;exists _,Z,kD Ct;refine⟨t5 (by rw[dG Ct];rfl),rfl,fJ ⋯,Z _ _ ⟨_,_,_,_,_,_,qs ++ [_],rfl,?_,TB (iJ Ct),?_,λd hd=>?_⟩⟩;rw[TQ ∅];exact HD;rw[Td,UW];lk;rcases Tw.mp hd with hd|hd
 exact hq d hd;rw[TK.mp hd];exact⟨_,_,rfl,pt.2.2.2,t0.tk ∅⟩;rintro I st ⟨v4,v5,v6,v7,v8,v9,qs,rfl,h0,h1,hl,hq⟩;rw[jr]at hl;have c2:=Qm qs none (some (2:Int))
 let Hm:IV:=λi I s=>∃v7 v8:Option D,I=[some (.ref 0),some (.ref 1),v2,v3,v4,v5,v6,v7,v8,v9]/\items s (st.length+1)=some (qs ++ cutD qs none (some 2))
 refine aZ (Dx (qs ++ cutD qs none (some 2)) (st.length+1) Hm ?_ ?_ ?_ ?_ ?_);exists _,Z,dG h1,kD (jg (m:=[O.lst (cutD qs none (some (2:Int)))]) h1),ja;have e1:(st ++ [O.lst (cutD qs none (some (2:Int)))]).length=st.length+1:=by simp
 refine⟨fJ ⋯,Z _ _ ⟨by rw[e1],_,_,rfl,?_⟩⟩;rw[<- e1];exact ja;rw[Td];lk;rintro k I s ⟨_,_,_,h⟩;exact h;rintro k d I s hd ⟨v7,v8,rfl,hi⟩;have hd':d∈qs:=by
  rcases Tw.mp (TL hd)with h|h
  exact h;exact Ql h
 obtain⟨t,u,rfl,Tt,Tu⟩:=hq d hd';k_lt Z;refine⟨rfl,Z _ _ (hV ?_)⟩;k_lt2 Z;refine aY (Mc Tt) ?_;rintro d s1 ⟨rfl,k1⟩;rw[Eo];refine aY (L8 Tt) ?_;rintro d s2 ⟨rfl,k2⟩;rw[Eo,x8];refine⟨_,rfl,?_⟩;rw[if_neg (by simp)];refine aY (Mc Tu) ?_;rintro d s3 ⟨rfl,k3⟩;rw[Eo];refine aY (L8 Tu) ?_;rintro d s4 ⟨rfl,k4⟩;rw[Eo,x8];refine⟨_,rfl,Z _ _ ⟨λz=>absurd z (by simp),λ_=>iI ⟨_,_,rfl,jE hi (((k1.trans k2).trans k3).trans k4)⟩⟩⟩;rintro I s ⟨v7,v8,rfl,hi⟩;refine hJ ?_;k_lt Z;exact Z _ _ rfl
def xI{P:Program}{w:World}{K:Zfr}{mg:Str->Option Value}{base:Heap}(T:Txt mg){aq av ak aS bg aH aI aJ cI ju:Addr}(Z:XF K mg aq av ak aS bg aH aI aJ cI ju){b6:V}(bb:sR K mg "MOST_SQUARES" b6 (.int 20)){gj:Addr}{gk:FuncData}(eu:D10 K mg gj gk){gp:Addr}{gq:FuncData}(cP:D11 K mg gp gq){gu:Addr}{gx:FuncData}(ao:D12 K mg gu gx){cU:Addr}{cV:FuncData}(bG:D13 K mg cU cV){iM:Addr}{iN:FuncData}(bR:D14 K mg iM iN){eU:Addr}{eV:FuncData}(dj:D15 K mg eU eV){gA:Addr}{gB:FuncData}(eA:D16 K mg gA gB){cH:Addr}{cJ:FuncData}(bN:D17 K mg cH cJ){gF:Addr}{gG:FuncData}(eB:D18 K mg gF gG){iO:Addr}{iP:FuncData}(bH:Def K mg "read_row" BK ["row","name","place"] iO iP){cW:Addr}{cZ:FuncData}(aR:Def K mg "look_turning" BM ["numbers","word"] cW cZ){c5:Addr}{c6:FuncData}(b5:D19 K mg c5 c6){dH:Addr}{dJ:FuncData}(bw:Def K mg "look_parted" BR ["floor"] dH dJ){eX:Addr}{eY:FuncData}(bO:Def K mg "look_floor" BU ["floor"] eX eY){fg:Addr}{fm:FuncData}(dm:D20 K mg fg fm){ft:Addr}{fw:FuncData}(bP:Def K mg "read_floor" B0 ["text"] ft fw){gI:Addr}{gJ:FuncData}(cQ:D21 K mg gI gJ){c9:Addr}{dc:FuncData}(bI:D22 K mg c9 dc){fB:Addr}{fD:FuncData}(cn:D23 K mg fB fD){iQ:Addr}{iR:FuncData}(dQ:D24 K mg iQ iR){Cu:Addr}{Cv:FuncData}(HF:D25 K mg Cu Cv):G25 P w K mg base Cu Cv:=by obtain⟨dI,I,BI⟩:=Z.I;have GI:=Q5 (P:=P) (w:=w) (mg:=mg) (base:=base) I;have Hg:=Q6 (P:=P) (w:=w) (mg:=mg) (base:=base) I;obtain⟨sj,I2,sr⟩:=Z.I2;have sk:=Q7 (P:=P) (w:=w) (mg:=mg) (base:=base) I2;have gn:=Q8 (P:=P) (w:=w) (base:=base) eu T;have ez:=Q9 (P:=P) (w:=w) (base:=base) cP T;have au:=Ra (P:=P) (w:=w) (base:=base) ao T;have bW:=Rb (P:=P) (w:=w) (base:=base) ao au bG T;have cm:=Rc (P:=P) (w:=w) (base:=base) bR T;have eW:=Rf (P:=P) (w:=w) (base:=base) ao au bG bW bR cm dj T;have gD:=Rg (P:=P) (w:=w) (base:=base) ao au eA T;have cK:=Rh (P:=P) (w:=w) (base:=base) ao au bN T;have gH:=Ri (P:=P) (w:=w) (base:=base) ao au eA gD bN cK eB T;have fP:=Rj (P:=P) (w:=w) (base:=base) bH T Z GI BI;have bZ:=Rm (P:=P) (w:=w) (base:=base) aR T Z sk sr;have c7:=Rn (P:=P) (w:=w) (base:=base) b5 T;have dM:=Ro (P:=P) (w:=w) (base:=base) b5 c7 bw T Z sk sr;have eZ:=Rq (P:=P) (w:=w) (base:=base) aR bZ bw dM bO T bb Z sk sr;have fq:=Rv (P:=P) (w:=w) (base:=base) dm T;have fA:=Rw (P:=P) (w:=w) (base:=base) bH fP bO eZ dm fq bP T bb Z GI BI Hg;have eC:=Rx (P:=P) (w:=w) (base:=base) bP fA cQ T Z;have b7:=Ry (P:=P) (w:=w) (base:=base) bI T;have dn:=Rz (P:=P) (w:=w) (base:=base) cn T;have fQ:=RA (P:=P) (w:=w) (base:=base) bR cm bI b7 cn dn dQ T;have HG:=xn (P:=P) (w:=w) (base:=base) eu gn cP ez ao au dj eW eB gH cQ eC dQ fQ HF T;exact HG
end My
open PySem PySem.W PyProof.Rows L2
namespace PySem.W.Fast
abbrev tw7312762512406441161:=0
abbrev tw15617111867645568448:=0
abbrev tw3865896724133659936:=0
abbrev tw308724563542997013:=0
abbrev tw13057113778477265069:=0
abbrev tw12303839405334204745:=0
abbrev tw18225140786495863446:=0
abbrev tw14681377456641728924:=0
abbrev tw13088030940636770394:=0
abbrev tw239384300657723818:=0
abbrev tw9350713399066968018:=0
abbrev tw1998509237808547314:=0
abbrev tw7302658367076911270:=0
abbrev tw13086524535103364826:=0
abbrev tw16627015230803661564:=0
abbrev tw6573827947739378996:=0
abbrev tw18166775624281889833:=0
abbrev tw8262636824125516011:=0
abbrev tw17209529636117248637:=0
abbrev tw8814843668674213664:=0
abbrev tw15450738541827652330:=0
abbrev tw13766957109001083935:=0
abbrev tw11577647481951642743:=0
abbrev tw3005989784543704911:=0
abbrev tw17383795642977996533:=0
abbrev tw13160527655121064820:=0
abbrev tw7394532970388167542:=0
abbrev tw7718938409698196503:=0
abbrev tw9695873827104741687:=0
abbrev tw14896017273607252381:=0
abbrev tw5796843332308744616:=0
abbrev tw10001650266186390657:=0
abbrev tw10164066414788777923:=0
abbrev tw5593111953374131296:=0
abbrev tw17520629529468386269:=0
abbrev tw14303903562423158287:=0
abbrev tw919055856328047307:=0
abbrev tw10242581176814152995:=0
abbrev tw10895600453411097909:=0
abbrev tw572058378181762694:=0
abbrev tw8515284486193748670:=0
abbrev tw8860477967708475186:=0
abbrev tw9210953849852935860:=0
abbrev tw2143190672983335380:=0
abbrev tw1312059179048106240:=0
abbrev tw9499056854513516832:=0
abbrev tw14782460859270728478:=0
abbrev tw12423080164121987950:=0
abbrev tw3531164506315245235:=0
abbrev tw9421681371675086197:=0
abbrev tw18158856729530351854:=0
abbrev tw2788036331065285254:=0
abbrev tw3918476065473224426:=0
abbrev tw5600017034481442998:=0
abbrev tw14899997659201622105:=0
abbrev tw3178803524136480254:=0
abbrev tw3341566296777710004:=0
abbrev tw12544812718912297077:=0
abbrev tw10763580212559603275:=0
abbrev tw15434265042826458429:=0
abbrev tw8754931124774550268:=0
abbrev tw9222244982156189204:=0
abbrev tw10048983596684363418:=0
abbrev tw3489707422351656413:=0
abbrev tw3160018054178653184:=0
abbrev tw4668502067806748454:=0
abbrev tw7660857775886213268:=0
abbrev tw17128267815511932270:=0
abbrev tw15856608067035867924:=0
abbrev tw12108553747296216237:=0
abbrev tw12823226847959622876:=0
abbrev tw17879314981595690841:=0
abbrev tw13749451920506491929:=0
abbrev tw6855811853338605627:=0
abbrev tw13860715813305342462:=0
abbrev tw3749465320042888319:=0
abbrev tw8668449848071733230:=0
abbrev tw6836952623861749001:=0
abbrev tw9410781528526488261:=0
abbrev tw13463376019017797628:=0
abbrev tw13470613925198760157:=0
abbrev tw2114363860180080718:=0
abbrev tw466406286357859635:=0
abbrev tw12586864200089284055:=0
abbrev tw2204444216849664308:=0
abbrev tw4301993871587243813:=0
abbrev tw5260273367382987513:=0
abbrev tw2564775910772177020:=0
abbrev tw1914105177287795638:=0
abbrev tw16830592230413265184:=0
abbrev tw12654930243268704943:=0
abbrev tw13900661567990018910:=0
abbrev tw7041501357989763793:=0
abbrev tw17454602850332299051:=0
abbrev tw35208861778022812:=0
abbrev tw7282593190780396833:=0
abbrev tw6617016246927934841:=0
abbrev tw16481806694359805794:=0
abbrev tw3343491448638480333:=0
abbrev tw14139078773768044480:=0
abbrev tw14732367809728351277:=0
abbrev tw42379038468543717:=0
abbrev tw9753534487408969553:=0
abbrev tw1347903451053689020:=0
abbrev tw13233407272418549686:=0
abbrev tw42055544373535113:=0
abbrev tw13693619001950290483:=0
abbrev tw2062048280953759017:=0
abbrev tw10319318737298217642:=0
abbrev tw8829710442453536569:=0
abbrev tw13260640088192090573:=0
abbrev tw11946473065228955576:=0
abbrev tw3010956921787180468:=0
abbrev tw14348559417484581210:=0
abbrev tw9050772002894200053:=0
abbrev tw15941379713696546235:=0
abbrev tw1236853999781552771:=0
abbrev tw4702328594922210148:=0
abbrev tw637818342887475206:=0
abbrev tw9275829580375216347:=0
abbrev tw17939880968611328319:=0
abbrev tw14243531988763710586:=0
abbrev tw11828867107950845978:=0
abbrev tw12821095291388746441:=0
abbrev tw8232711448083472870:=0
abbrev tw7034318121272678201:=0
abbrev tw3352902502162045486:=0
abbrev tw18354041571567958761:=0
abbrev tw3216061943800632588:=0
abbrev tw7717546361990644081:=0
abbrev tw17351579237321327840:=0
abbrev tw4834400869284809607:=0
abbrev tw17871299216721623175:=0
abbrev tw10053098713326068492:=0
abbrev tw1439973415813214472:=0
abbrev tw11301678132142613505:=0
abbrev tw5300221125857331113:=0
abbrev tw2839096314735662741:=0
abbrev tw16535182697367562716:=0
abbrev tw1917094366977920468:=0
abbrev tw10194008972258693202:=0
abbrev tw15887162736082047729:=0
abbrev tw880288185519701172:=0
abbrev tw2660415927413794844:=0
abbrev tw10808493552010866342:=0
abbrev tw6182237675734018004:=0
abbrev tw9154646867163743306:=0
abbrev tw13405991433045006947:=0
abbrev tw12346622994908336135:=0
abbrev tw6326270960692105436:=0
abbrev tw554118348291001618:=0
abbrev tw1864196415318781131:=0
abbrev tw12873974138332953038:=0
abbrev tw5980696039155654597:=0
abbrev tw14454308644817002778:=0
abbrev tw11653782733129502368:=0
abbrev tw4073921336182483040:=0
abbrev tw16978424415687439829:=0
abbrev tw15598011249881006387:=0
abbrev tw10259606112707926444:=0
abbrev tw16460732162477124690:=0
abbrev tw17232801219330901282:=0
abbrev tw2526158990790579032:=0
abbrev tw11584715799165962437:=0
abbrev tw5003456954570936580:=0
abbrev tw14800164990483185264:=0
abbrev tw2864084509335474910:=0
end PySem.W.Fast
end
open PySem PySem.W PyProof.Rows L2
local macro_rules|`(tactic|x_fa $a $b $c)=>`(tactic|(dsimp only [L2.KOf];refine' kG $a $b (fun _ _ _ _ _ _=>$c (by intros;rfl)) ?a ?l ?c ?k;(case a=>k_is);(case l=>k_is);(case c=>k_is);(case k=>k_is)))
set_option maxRecDepth 100000 in
set_option maxHeartbeats 0 in
theorem PySem.Challenge.cw_shearfloor_k09_texts_of_no_floor_holds : PySem.Challenge.rw_shearfloor_k09_texts_of_no_floor.Holds := by
 w_on;o_law;k_head;(case hw=>w_witness2)
 k_fill
 refine L2.M5 (l:=PySem.Challenge.rw_shearfloor_k09_texts_of_no_floor) (n:=63) (k:=7) (x:="_law_script") (CX:=cS) (sp:=L4.tV) rfl (by decide) rfl ⟨rfl,by decide,by decide,rfl⟩ (fun w h Y=>PySem.W.kIn_of Y) ?F ?S ?C
 case F =>
  intro w mg fa h KX G hmg;have T:My.Txt mg:=by
   refine' ⟨oF KX G ?z0,oF KX G ?z1,oF KX G ?z2,oF KX G ?z3,oF KX G ?z4,oF KX G ?z5,oF KX G ?z6,oF KX G ?z7,oF KX G ?z8,oF KX G ?z9,oF KX G ?SD,oF KX G ?SE,oF KX G ?SG,oF KX G ?SH⟩
   (case z0=>k_is);(case z1=>k_is);(case z2=>k_is);(case z3=>k_is);(case z4=>k_is);(case z5=>k_is);(case z6=>k_is);(case z7=>k_is);(case z8=>k_is);(case z9=>k_is);(case SD=>k_is);(case SE=>k_is);(case SG=>k_is);(case SH=>k_is)
  have Z:∃aq av ak aS bg aH aI aJ cI ju,My.XF (L2.KOf KX) mg aq av ak aS bg aH aI aJ cI ju:=by
   dsimp only [L2.KOf];refine' ⟨_,_,_,_,_,_,_,_,_,_,My.Bh KX G ?a8 ?cE ?bQ ?iw ?jv ?fL ?fM ?fN ?l9 ?jZ ?cF ?cG ?bM ?cc ?cf ?cg ?cj ?jw ?jh ?n6 ?bB ?bC ?bD ?bE ?bF ?jc ?mL ?k0 ?k1 ?k2 ⟨?oa,?og,?oh,?oi,?oj,?om,?oq,?ot⟩ ⟨?mP,?mQ,?mS⟩ (JK (fun _ _ _ _ _ _=>My.qU fun _ _=>rfl) ?il ?ic ?ik) ⟨?ma,?md,?mf⟩ (JK (fun _ _ _ _ _ _=>My.LC fun _ _ _=>rfl) ?SI ?SJ ?SK)⟩
   (case a8=>k_is);(case cE=>k_is);(case bQ=>k_is);(case iw=>k_is);(case jv=>k_is);(case fL=>k_is);(case fM=>k_is);(case fN=>k_is);(case l9=>k_is);(case jZ=>k_is)
   (case il=>k_is);(case ic=>k_is);(case ik=>k_is)
   (case SI=>k_is);(case SJ=>k_is);(case SK=>k_is)
   (case cF=>first|rfl|k_is|kernel_rfl);(case cG=>first|rfl|k_is|kernel_rfl);(case bM=>first|rfl|k_is|kernel_rfl);(case cc=>first|rfl|k_is|kernel_rfl);(case cf=>first|rfl|k_is|kernel_rfl);(case cg=>first|rfl|k_is|kernel_rfl);(case cj=>first|rfl|k_is|kernel_rfl);(case jw=>first|rfl|k_is|kernel_rfl);(case jh=>first|rfl|k_is|kernel_rfl);(case n6=>first|rfl|k_is|kernel_rfl);(case bB=>first|rfl|k_is|kernel_rfl);(case bC=>first|rfl|k_is|kernel_rfl);(case bD=>first|rfl|k_is|kernel_rfl);(case bE=>first|rfl|k_is|kernel_rfl);(case bF=>first|rfl|k_is|kernel_rfl);(case jc=>first|rfl|k_is|kernel_rfl);(case mL=>first|rfl|k_is|kernel_rfl);(case k0=>first|rfl|k_is|kernel_rfl);(case k1=>first|rfl|k_is|kernel_rfl);(case k2=>first|rfl|k_is|kernel_rfl);(case oa=>first|rfl|k_is|kernel_rfl);(case og=>first|rfl|k_is|kernel_rfl);(case oh=>first|rfl|k_is|kernel_rfl);(case oi=>first|rfl|k_is|kernel_rfl);(case oj=>first|rfl|k_is|kernel_rfl);(case om=>first|rfl|k_is|kernel_rfl);(case oq=>first|rfl|k_is|kernel_rfl);(case ot=>first|rfl|k_is|kernel_rfl);(case mP=>first|rfl|k_is|kernel_rfl);(case mQ=>first|rfl|k_is|kernel_rfl);(case mS=>first|rfl|k_is|kernel_rfl);(case ma=>first|rfl|k_is|kernel_rfl);(case md=>first|rfl|k_is|kernel_rfl);(case mf=>first|rfl|k_is|kernel_rfl)
  obtain ⟨_,_,_,_,_,_,_,_,_,_,Z⟩:=Z;have eE:∃v,L4.sR (L2.KOf KX) mg "MOST_SQUARES" v (.int 20):=by
   dsimp only [L2.KOf];refine' L4.Qr (v:=V.int 20) KX G ?a ?r ?d
   (case a=>k_is);(case r=>exact ⟨_,rfl⟩);(case d=>exact fun ρ H=>.int _)
  obtain ⟨_,eE⟩:=eE;obtain⟨_,_,iz⟩:∃f fd,My.D10 (L2.KOf KX) mg f fd:=by x_fa KX G My.qU
  obtain⟨_,_,iA⟩:∃f fd,My.D11 (L2.KOf KX) mg f fd:=by x_fa KX G My.qE
  obtain⟨_,_,iB⟩:∃f fd,My.D12 (L2.KOf KX) mg f fd:=by x_fa KX G My.qU
  obtain⟨_,_,eF⟩:∃f fd,My.D13 (L2.KOf KX) mg f fd:=by x_fa KX G My.qU
  obtain⟨_,_,ji⟩:∃f fd,My.D14 (L2.KOf KX) mg f fd:=by x_fa KX G My.qE
  obtain⟨_,_,gK⟩:∃f fd,My.D15 (L2.KOf KX) mg f fd:=by x_fa KX G My.qU
  obtain⟨_,_,iC⟩:∃f fd,My.D16 (L2.KOf KX) mg f fd:=by x_fa KX G My.qE
  obtain⟨_,_,dA⟩:∃f fd,My.D17 (L2.KOf KX) mg f fd:=by x_fa KX G My.qU
  obtain⟨_,_,iD⟩:∃f fd,My.D18 (L2.KOf KX) mg f fd:=by x_fa KX G My.qU
  obtain⟨_,_,jj⟩:∃f fd,Def (L2.KOf KX) mg "read_row" My.BK ["row","name","place"] f fd:=by x_fa KX G My.LC
  obtain⟨_,_,eG⟩:∃f fd,Def (L2.KOf KX) mg "look_turning" My.BM ["numbers","word"] f fd:=by x_fa KX G My.qU
  obtain⟨_,_,eH⟩:∃f fd,My.D19 (L2.KOf KX) mg f fd:=by x_fa KX G My.qU
  obtain⟨_,_,fF⟩:∃f fd,Def (L2.KOf KX) mg "look_parted" My.BR ["floor"] f fd:=by x_fa KX G My.qE
  obtain⟨_,_,gL⟩:∃f fd,Def (L2.KOf KX) mg "look_floor" My.BU ["floor"] f fd:=by x_fa KX G My.qE
  obtain⟨_,_,gM⟩:∃f fd,My.D20 (L2.KOf KX) mg f fd:=by x_fa KX G My.qE
  obtain⟨_,_,gN⟩:∃f fd,Def (L2.KOf KX) mg "read_floor" My.B0 ["text"] f fd:=by x_fa KX G My.qE
  obtain⟨_,_,iE⟩:∃f fd,My.D21 (L2.KOf KX) mg f fd:=by x_fa KX G My.qE
  obtain⟨_,_,eI⟩:∃f fd,My.D22 (L2.KOf KX) mg f fd:=by x_fa KX G My.qU
  obtain⟨_,_,gO⟩:∃f fd,My.D23 (L2.KOf KX) mg f fd:=by x_fa KX G My.qE
  obtain⟨_,_,jk⟩:∃f fd,My.D24 (L2.KOf KX) mg f fd:=by x_fa KX G My.qE
  obtain⟨_,_,mT⟩:∃f fd,My.D25 (L2.KOf KX) mg f fd:=by x_fa KX G My.qE
  have e0:=hmg.symm.trans mT.m;cases e0;exact ⟨_,mT.rC,fun base _ _=>L4.vH (My.xI T Z eE iz iA iB eF ji gK iC dA iD jj eG eH fF gL gM gN iE eI gO jk mT) fun ns hn=>let ⟨_,st,e,h⟩:=My.qJ ns hn;⟨st,h ▸ e⟩⟩
 case S=>exact fun K H a ns hl hO hS=>⟨a,ns,rfl,hS.script hO,hl,fun _=>rfl⟩
 case C=>exact fun _ _ _ _ z=>z
