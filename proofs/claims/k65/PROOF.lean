import PyProof.Rows.All
import Wide.All
import OpenK.AllK
import Wide.FinOn
import Lean
import PyProof.EqAt
import PyProof.EqKinds
import PyProof.TupleCall
import PyProof.DictIter
import PyProof.EnumMake
import KE.KSortTup
import KE.KDictLaws
import KE.KDictSum
import PyProof.StrLawsTight
import KE.KIntText
import PyProof.MinMaxWalk
import PyProof.WalkInts
import KE.KIsAll
import PyProof.ExcInit
import PyProof.NsDelKeeps
import PyProof.ExcBaseAll.ValueError
import OpenK.KOwn
import PyProof.ExcAttrAll.ValueError
import PyProof.InstStoreFacts
import PyProof.NoPylong
import PyProof.SumWalkG
import PySem.Challenge.RW_shearfloor_k65_whole_kinds_by_the_group
set_option autoImplicit true
set_option Elab.async false
set_option linter.all false
set_option maxRecDepth 100000
set_option maxHeartbeats 4000000
set_option genSizeOf false
set_option bootstrap.genMatcherCode false
noncomputable section
section
local macro_rules|`(command|def $n:declId $s:optDeclSig $v:declVal)=>`(theorem $n:declId $(⟨Lean.mkNode ``Lean.Parser.Command.declSig #[s.raw[0],s.raw[1][0]]⟩):declSig $v:declVal)
local macro_rules|`(command|abbrev $n:declId $s:optDeclSig $v:declVal)=>`(noncomputable def $n:declId $s:optDeclSig $v:declVal)
local macro_rules|`(⋯)=>`(by lk)
local macro_rules|`(∅)=>`(by decide)
local macro_rules|`(tactic|lk)=>`(tactic|first|lia|omega)
abbrev Zaa:=@List.length_map
abbrev Zab:=@List.getElem?_eq_getElem
abbrev Zac:=@List.getElem?_eq_some_iff
abbrev Zad:=@List.getElem?_map
abbrev Zae:=@List.length_append
abbrev Zaf:=@PySem.Heap.get?_push_of_some
abbrev Zag:=@Nat.le_refl
abbrev Zah:=@List.getD_eq_getElem?_getD
abbrev Zai:=@List.mem_of_getElem?
abbrev Zaj:=@List.mem_cons_self
abbrev Zak:=@List.size_toArray
abbrev Zal:=@Nat.le_trans
abbrev Zam:=@Bool.false_ne_true
abbrev Zan:=@Int.toNat_natCast
abbrev Zao:=@List.getElem?_set_self
abbrev Zap:=@List.getElem?_append_left
abbrev Zaq:=@List.mem_singleton
abbrev Zar:=@Option.some.inj
abbrev Zas:=@List.mem_cons_of_mem
abbrev Zat:=@List.getElem?_set_ne
abbrev Zau:=@List.mem_map
abbrev Zav:=@List.map_append
abbrev Zaw:=@PySem.Heap.get?_push_size
abbrev Zax:=@List.getElem?_append_right
abbrev Zay:=@PySem.Heap.lt_size
abbrev Zaz:=@Option.map_eq_some_iff
abbrev ZaA:=@List.mem_append
abbrev ZaB:=@Bool.and_eq_true
abbrev ZaC:=@List.mem_cons
abbrev ZaD:=@List.map_cons
abbrev ZaE:=@List.length_cons
abbrev ZaF:=@PySem.Heap.get?_update_other
abbrev ZaG:=@Int.toNat_of_nonneg
abbrev ZaH:=@Int.mul_assoc
abbrev ZaI:=@Nat.lt_of_lt_of_le
abbrev ZaJ:=@List.map_map
abbrev ZaK:=@List.take_succ_eq_append_getElem
abbrev ZaL:=@Nat.zero_le
abbrev ZaM:=@List.pairwise_iff_getElem
abbrev ZaN:=@List.mem_append_right
abbrev ZaO:=@List.getElem?_eq_none
abbrev ZaP:=@Int.mul_comm
abbrev ZaQ:=@List.contains_iff_mem
abbrev ZaR:=@Nat.ne_of_lt
abbrev ZaS:=@Nat.lt_of_le_of_lt
abbrev ZaT:=@Bool.false_eq_true
abbrev ZaU:=@List.map_congr_left
abbrev ZaV:=@List.getElem?_range
abbrev ZaW:=@List.length_reverse
abbrev ZaX:=@List.eq_nil_of_length_eq_zero
abbrev ZaY:=@List.getElem?_eq_none_iff
abbrev ZaZ:=@List.append_nil
abbrev Za0:=@Nat.not_lt_zero
abbrev Za1:=@List.getD_cons_succ
abbrev Za2:=@List.getD_cons_zero
abbrev Za3:=@Int.neg_mul
abbrev Za4:=@Option.bind_eq_some_iff
abbrev Za5:=@Int.natAbs_mul
abbrev Za6:=@List.map_nil
abbrev Za7:=@Option.bind_some
abbrev Za8:=@List.replicate_succ
abbrev Zba:=@Nat.lt_irrefl
abbrev Zbb:=@PySem.Heap.get?_update_self
abbrev Zbc:=@List.length_set
abbrev Zbd:=@Int.emod_nonneg
abbrev Zbe:=@List.idxOf_lt_length_of_mem
abbrev Zbf:=@Nat.lt_succ_self
abbrev Zbg:=@List.take_length
abbrev Zbh:=@List.mem_reverse
abbrev Zbi:=@List.length_singleton
abbrev Zbj:=@Nat.sub_self
abbrev Zbk:=@Int.emod_lt_of_pos
abbrev Zbm:=@List.any_cons
abbrev Zbn:=@List.foldl_append
abbrev Zbo:=@List.find?_cons
abbrev Zbp:=@Nat.le_of_lt
abbrev Zbq:=@Int.zero_add
abbrev Zbr:=@List.findIdx?_eq_some_iff_getElem
abbrev Zbs:=@List.getElem_idxOf
abbrev Zbt:=@List.drop_eq_getElem_cons
abbrev Zbu:=@Nat.le_succ
abbrev Zbv:=@List.mem_append_left
abbrev Zbw:=@List.nodup_cons
abbrev Zbx:=@List.append_assoc
abbrev Zby:=@List.ext_getElem?
abbrev ZbA:=@List.length_range
abbrev ZbE:=@PySem.Heap.SameBut.update
abbrev ZbF:=@List.getElem_of_mem
abbrev ZbG:=@List.mem_range
abbrev ZbH:=@List.length_take
abbrev ZbI:=@PySem.Heap.size_push
abbrev ZbJ:=@List.lookup_cons
abbrev ZbK:=@List.all_eq_true
abbrev ZbL:=@Bool.eq_iff_iff
abbrev ZbM:=@Array.getElem?_toList
abbrev ZbN:=@Int.natAbs_dvd_natAbs
abbrev ZbO:=@List.flatten_cons
abbrev ZbP:=@List.getElem?_of_mem
abbrev ZbS:=@Nat.pow_le_pow_right
abbrev ZbU:=@Nat.mul_le_mul_right
abbrev ZbV:=@Int.mul_add
abbrev ZbW:=@Nat.mul_le_mul
abbrev ZbX:=@Option.isSome_iff_exists
abbrev ZbY:=@Nat.mul_comm
abbrev ZbZ:=@Nat.lt_or_ge
abbrev Zb3:=@List.getElem_map
abbrev Zb5:=@List.flatten_append
abbrev Zb6:=@List.getElem?_replicate
abbrev Zb7:=@List.nodup_append
abbrev Zb8:=@List.reverse_cons
abbrev Zb9:=@List.length_replicate
abbrev Zcf:=@List.Perm.refl
abbrev Zcg:=@Nat.zero_add
abbrev Zch:=@List.getElem_mem
abbrev Zci:=@List.mem_erase_of_ne
abbrev Zcj:=@List.prefix_refl
abbrev Zck:=@List.map_id
abbrev Zcl:=@Array.length_toList
abbrev Zcm:=@List.mem_filter
abbrev Zcn:=@List.length_nil
abbrev Zco:=@Bool.or_eq_true
abbrev Zcp:=@Nat.succ_mul
abbrev Zcq:=@List.mem_singleton_self
abbrev Zcr:=@Nat.le_mul_of_pos_right
abbrev Zcv:=@List.pairwise_mergeSort
abbrev Zcw:=@List.pairwise_map
abbrev Zcx:=@Int.add_right_neg
abbrev Zcy:=@Int.gcd_dvd_right
abbrev Zcz:=@List.drop_of_length_le
abbrev ZcA:=@Nat.lt_of_succ_lt_succ
abbrev ZcB:=@List.length_pos_of_mem
abbrev ZcC:=@Int.mul_sub
abbrev ZcD:=@Int.sub_mul
abbrev ZcE:=@Nat.mul_assoc
abbrev ZcF:=@Nat.le_of_not_lt
abbrev ZcG:=@Nat.le_add_right
abbrev ZcH:=@Int.add_left_neg
abbrev ZcI:=@List.not_mem_nil
abbrev ZcJ:=@Nat.le_of_ble_eq_true
abbrev ZcL:=@Nat.lt_trans
abbrev ZcM:=@List.range_succ
abbrev ZcN:=@List.perm_cons_erase
abbrev ZcR:=@List.reverse_reverse
abbrev ZcT:=@Int.zero_sub
abbrev ZcU:=@List.filterMap_cons
abbrev ZcV:=@List.mergeSort_perm
abbrev ZcW:=@List.drop_zero
abbrev ZcX:=@Int.mul_one
abbrev ZcY:=@Int.mul_neg
abbrev ZcZ:=@List.pairwise_cons
abbrev Zc0:=@List.getElem_range
abbrev Zc4:=@List.prefix_append
abbrev Zc7:=@Bool.xor_self
@[reducible]def Zfr:=PySem.W.Frag
namespace L2
open PySem PySem.Spec PyProof.Rows
@[reducible]def Key:=Sum Int Str
abbrev qo:Key->Value->Bool
 |.inl k,v=>Value.isInt k v
 |.inr x,v=>Value.isStrOf x v
abbrev MR(w:World):Key->Int
 |.inl k=>hashInt k
 |.inr x=>hashStr w x
def xb:∀{k:Key} {v:Value},qo k v=true->(∃i t,k=Sum.inl i/\v=Value.int i t)\/(∃x t,k=Sum.inr x/\v=Value.str x t)
 |.inl i,v,h=>by
  obtain⟨t,e⟩:=Value.isInt_shape (k:=i) (v:=v) h;exact .inl ⟨i,t,rfl,e⟩
 |.inr x,v,h=>by
  obtain⟨t,e⟩:=Value.isStrOf_shape (x:=x) (v:=v) h;exact .inr ⟨x,t,rfl,e⟩
def Wd(i:Int)(t:Tok):qo (.inl i) (.int i t)=true:=by simp[qo,Value.isInt]
def Wf(x:Str)(t:Tok):qo (.inr x) (.str x t)=true:=by simp[qo,Value.isStrOf]
def zJ(a b:Int):decide ((Sum.inl a:Key)=Sum.inl b)=(a == b):=by by_cases e:a=b;subst e;simp;have h:¬(Sum.inl a:Key)=Sum.inl b:=λq=>e (Sum.inl.inj q);rw[decide_eq_false h];exact(beq_eq_false_iff_ne.mpr e).symm
def zK(a b:Str):decide ((Sum.inr a:Key)=Sum.inr b)=decide (a=b):=by by_cases e:a=b;subst e;simp;have h:¬(Sum.inr a:Key)=Sum.inr b:=λq=>e (Sum.inr.inj q);rw[decide_eq_false h,decide_eq_false e]
def zL(a:Int)(b:Str):decide ((Sum.inl a:Key)=Sum.inr b)=false:=decide_eq_false (λq=>nomatch q)
def zM(a:Str)(b:Int):decide ((Sum.inr a:Key)=Sum.inl b)=false:=decide_eq_false (λq=>nomatch q)
abbrev df(prog:Program)(w:World):PySem.KeyKind prog w Key where
 is:=qo
 hash:=MR w
 inj:=λv a b ha hb=>by
  rcases xb ha with⟨i,t,rfl,rfl⟩|⟨x,t,rfl,rfl⟩
  rcases xb hb with⟨j,u,rfl,e⟩|⟨y,u,rfl,e⟩
  injection e with e1 _;rw[e1];exact nomatch e;rcases xb hb with⟨j,u,rfl,e⟩|⟨y,u,rfl,e⟩
  exact nomatch e;injection e with e1 _;rw[e1]
 byValue:=λk v h=>by
  rcases xb h with⟨i,t,rfl,rfl⟩|⟨x,t,rfl,rfl⟩<;>rfl
 pyHash:=λhv h=>by
  rcases xb hv with⟨i,t,rfl,rfl⟩|⟨x,t,rfl,rfl⟩
  exact wpAny_pyHash_int h;exact wpAny_pyHash_str h
 eqBool:=λhu hv h=>by
  rcases xb hu with⟨i,t,rfl,rfl⟩|⟨x,t,rfl,rfl⟩
  rcases xb hv with⟨j,u,rfl,rfl⟩|⟨y,u,rfl,rfl⟩
  rw[zJ]at h;exact wpAny_eqBool_int h;rw[zL]at h;exact SeqAt.EqAt.int_str i t y u _ _ _ _ h;rcases xb hv with⟨j,u,rfl,rfl⟩|⟨y,u,rfl,rfl⟩
  rw[zM]at h;exact SeqAt.EqAt.str_int x t j u _ _ _ _ h;rw[zK]at h;exact wpAny_eqBool_str h
 «strs»:=λk x t v h=>by
  rcases xb h with⟨i,u,rfl,e⟩|⟨y,u,rfl,e⟩
  exact nomatch e;injection e with e1 _;subst e1;cases v<;>rfl
def Wg(prog:Program)(w:World)(i:Int)(t:Tok):(df prog w).is (.inl i) (.int i t)=true:=Wd i t
def Wi(prog:Program)(w:World)(x:Str)(t:Tok):(df prog w).is (.inr x) (.str x t)=true:=Wf x t
inductive V where
 |non|bl (b:Bool)|int (i:Int)|str (x:Str)|uP (b:Array UInt8)|CQ (b:UInt64)|ref (a:Addr)|ty (n:String)
 deriving DecidableEq
abbrev RelV:V->Value->Prop
 |.non,u=>u=Value.none
 |.bl b,u=>u=Value.bool b
 |.int i,u=>∃t,u=Value.int i t
 |.str x,u=>∃t,u=Value.str x t
 |.uP b,u=>∃t,u=Value.bytes b t
 |.CQ b,u=>∃t,u=Value.float b t
 |.ref a,u=>u=Value.ref a
 |.ty n,u=>u=Value.type n
@[reducible]def Vals:List V->List Value->Prop:=Paired RelV
def Vals.length{xs:List V}{us:List Value}(r:Vals xs us):xs.length=us.length:=Paired.length r
def Vals.get:∀{xs:List V} {us:List Value} {i:Nat} {x:V},Vals xs us->xs[i]?=some x->∃u,us[i]?=some u/\RelV x u
 |_,_,_,_,.nil,e=>by simp at e
 |_,_,0,_,.cons r _,e=>by simp at e;subst e;exact⟨_,rfl,r⟩
 |_,_,i+1,x,.cons _ t,e=>by
  obtain⟨u,h1,h2⟩:=Vals.get (i:=i) (x:=x) t (by simpa using e);exact⟨u,by simpa using h1,h2⟩
def Vals.set(r:RelV x u):∀{xs:List V} {us:List Value} (i:Nat),Vals xs us->Vals (xs.set i x) (us.set i u)
 |_,_,_,.nil=>.nil
 |_,_,0,.cons _ t=>.cons r t
 |_,_,i+1,.cons q t=>.cons q (Vals.set r i t)
def Vals.append:∀{xs ys:List V} {us ws:List Value},Vals xs us->Vals ys ws->Vals (xs ++ ys) (us ++ ws)
 |_,_,_,_,.nil,s=>s
 |_,_,_,_,.cons r t,s=>.cons r (Vals.append t s)
def Vals.take:∀{xs:List V} {us:List Value} (n:Nat),Vals xs us->Vals (xs.take n) (us.take n)
 |_,_,0,_=>.nil
 |_,_,_+1,.nil=>.nil
 |_,_,n+1,.cons r t=>.cons r (Vals.take n t)
def Vals.drop:∀{xs:List V} {us:List Value} (n:Nat),Vals xs us->Vals (xs.drop n) (us.drop n)
 |_,_,0,r=>r
 |_,_,_+1,.nil=>.nil
 |_,_,n+1,.cons _ t=>Vals.drop n t
abbrev uw:Option V->Option Value->Prop
 |some v,some u=>RelV v u
 |none,none=>True
 |_,_=>False
abbrev KV{κ:Type}:List (κ×V)->List (κ×Value)->Prop:=Paired λ(p:κ×V) (q:κ×Value)=>p.1=q.1/\RelV p.2 q.2
abbrev kV:Key->V
 |.inl i=>.int i
 |.inr x=>.str x
set_option genInjectivity false in
inductive HO where
 /-- a list -/
 |lst (xs:List V)
 /-- a tuple (never changes) -/
 |tup (xs:List V)
 /-- a dict whose keys are ints and texts;one whose keys are tuples of ints and texts (the empty one is both) -/
 |dK (kvs:List (Key×V))|dT (kvs:List (List Key×V))
 /-- a set of ints: its members,its size -/
 |set (S:Int->Bool) (n:Nat)
 /-- an instance of the class at C,its dict at dx,its attributes -/
 |ins (C dx:Addr) (fs:List (Str×V))
 /-- the dict of the instance at x -/
 |own (x:Addr)
 /-- the dict of an exception -/
 |xd (fs:List (Str×V))
 /-- a bound method,f of x -/
 |met (f x:Addr)
 /-- a range object lo,lo+1,.. below hi -/
 |lB (lo hi:Int)
 /-- a thing that is known to the object (the script;a dict while a loop walks it): read,never written while it is so -/
 |pL (o:Obj) (u:HO)
 /-- a code Ea table -/
 |zN (ps:Array Value)
 /-- any other thing,by what is true of its one object (a def of Qp own: Wj a S n:=HO.ext λh=>..) -/
 |ext (φ:Heap->Prop)
@[reducible]def Hp:=Addr->Option HO
abbrev upd(H:Hp)(a:Addr)(o:HO):Hp:=λb=>if b=a then some o else H b
def uG:upd H a o a=some o:=by unfold upd;rw[if_pos rfl]
def ml(h:b≠a):upd H a o b=H b:=by unfold upd;rw[if_neg h]
def MS{H:Hp}{a b:Addr}{o u:HO}(h:H a=some o)(h':H b=some u)(d:o≠u):a≠b:=by intro e;subst e;rw[h]at h';exact d (Zar h')
def CT{H:Hp}{a b:Addr}{o:HO}(h:H a=some o)(h':H b=none):a≠b:=by intro e;subst e;rw[h]at h';cases h'
abbrev qB(h:Heap)(a:Addr)(its:Array Value):Prop:=∃o,h.get? a=some o/\o.cls=.type "tuple" /\ o.dict=none/\∃n,o.data=.seq its n
def qB.tup{h:Heap}{a:Addr}{its:Array Value}(x:qB h a its):IsTup h a its:=let ⟨o,e,c,_,n,d⟩:=x;⟨o,e,c,n,d⟩
def qB.new(h:Heap)(its:Array Value):qB (h.push { cls:=.type "tuple",data:=.seq its }) h.objs.size its:=⟨_,Zaw _ rfl,rfl,rfl,_,rfl⟩
section
variable (P:Program)(w:World)
abbrev cq(H:Hp)(h:Heap)(a:Addr):HO->Prop
 |.lst xs=>xs.length<=sizeLine/\∃(its:List Value) (n:Nat),Vals xs its/\h.get? a=some { cls:=.type "list",data:=.seq its.toArray n }
 |.tup xs=>xs.length<=sizeLine/\∃its:List Value,Vals xs its/\qB h a its.toArray
 |.dK kvs=>kvs.length<=sizeLine/\(a == sysModules)=false/\∃vs,KV kvs vs/\h.DictOf (df P w) a vs
 | .dT kvs=>kvs.length<=sizeLine/\(a == sysModules)=false/\∃ xs:List (List Key×Addr×Value),
   Paired (λ(p:List Key×V) (q:List Key×Addr×Value)=>p.1=q.1/\H q.2.1=some (.tup (p.1.map kV))/\RelV p.2 q.2.2) kvs xs /\
   ∃o es ep,h.get? a=some o/\o.ExactDict/\o.data=.dict es ep/\es.toList=xs.map (entryOfKey (tupleKind (df P w)))/\(xs.map (·.1)).Nodup
 |.set S n=>h.SetOf (intKind P w) a S n
 | .ins C dx fs=>H dx=some (.own a)/\fs.length<=1000/\dx≠a/\h.get? a=some (PySem.W.instObj C dx) /\
   ∃mA,h.Ns1 dx mA/\(∀f,uw (fs.lookup f) (mA f))/\PySem.Within mA (fs.map (·.1))
 |.own _=>∃o,h.get? a=some o
 |.xd fs=>∃mA,h.Ns1 a mA/\∀f,uw (fs.lookup f) (mA f)
 |.lB lo hi=>∃t u v,h.get? a=some { cls:=.type "range",data:=.fields #[.int lo t,.int hi u,.int 1 v] }
 |.pL o u=>h.get? a=some o/\cq H h a u
 |.zN ps=>h.get? a=some { cls:=.none,data:=.fields ps }
 |.met f x=>h.get? a=some (PySem.W.methodObj (.ref f) (.ref x))
 |.ext φ=>φ h/\(∃o,h.get? a=some o)/\∀h1 h2:Heap,φ h1->(∀o,h1.get? a=some o->h2.get? a=some o)->φ h2
abbrev nV(H:Hp)(h:Heap):Prop:=∀a o,H a=some o->cq P w H h a o
end
section
variable {P:Program}{w:World}{H H':Hp}{h h':Heap}{a:Addr}{o:HO}
def cq.lt(x:cq P w H h a o):a<h.objs.size:=by
 cases o with
 |lst xs=>obtain⟨_,_,_,_,e⟩:=x;exact Zay e
 |tup xs=>obtain⟨_,_,_,_,e,_⟩:=x;exact Zay e
 |dK kvs=>obtain⟨_,_,_,_,o,_,_,e,_⟩:=x;exact Zay e
 |dT kvs=>obtain⟨_,_,_,_,o,_,_,e,_⟩:=x;exact Zay e
 |set S n=>obtain⟨o,_,_,_,e,_⟩:=x;exact Zay e
 |ins C dx fs=>obtain⟨_,_,_,e,_⟩:=x;exact Zay e
 |own y=>obtain⟨_,e⟩:=x;exact Zay e
 |xd fs=>obtain⟨_,⟨_,_,_,e,_⟩,_⟩:=x;exact Zay e
 |lB lo hi=>obtain⟨_,_,_,e⟩:=x;exact Zay e
 |pL ob u=>obtain⟨e,_⟩:=x;exact Zay e
 |zN ps=>exact Zay (show h.get? a=some _ from x)
 |met f y=>exact Zay (show h.get? a=some _ from x)
 |ext φ=>obtain⟨_,⟨_,e⟩,_⟩:=x;exact Zay e
def Paired.zO{α β:Type}{F G:α->β->Prop}:∀{l₁:List α} {l₂:List β},Paired F l₁ l₂->(∀a b,F a b->G a b)->Paired G l₁ l₂
 |_,_,.nil,_=>.nil
 |_,_,.cons r t,f=>.cons (f _ _ r) (Paired.zO t f)
def cq.stay(x:cq P w H h a o)(k:∀b u,(b=a\/H b=some (.own a))->h.get? b=some u->h'.get? b=some u)
  (ho:∀b,H b=some (.own a)->H' b=some (.own a)) (ht:∀b xs,H b=some (.tup xs)->H' b=some (.tup xs)):cq P w H' h' a o:=by
 induction o with
 |lst xs=>obtain⟨z,its,n,r,e⟩:=x;exact⟨z,its,n,r,k _ _ (.inl rfl) e⟩
 |tup xs=>obtain⟨z,its,r,ob,e,c⟩:=x;exact⟨z,its,r,ob,k _ _ (.inl rfl) e,c⟩
 |dK kvs=>obtain⟨z,y,vs,r,ob,es,ep,e,c⟩:=x;exact⟨z,y,vs,r,ob,es,ep,k _ _ (.inl rfl) e,c⟩
 |dT kvs =>
  obtain⟨z,y,xs,r,ob,es,ep,e,c⟩:=x;exact⟨z,y,xs,Paired.zO r λp q z=>⟨z.1,ht _ _ z.2.1,z.2.2⟩,ob,es,ep,k _ _ (.inl rfl) e,c⟩
 |set S n=>obtain⟨ob,es,ep,t,e,c⟩:=x;exact⟨ob,es,ep,t,k _ _ (.inl rfl) e,c⟩
 |ins C dx fs =>
  obtain⟨d,z,ne,e,mA,⟨od,es,ep,e2,c⟩,r⟩:=x;exact⟨ho _ d,z,ne,k _ _ (.inl rfl) e,mA,⟨od,es,ep,k _ _ (.inr d) e2,c⟩,r⟩
 |own y=>obtain⟨ob,e⟩:=x;exact⟨ob,k _ _ (.inl rfl) e⟩
 |xd fs=>obtain⟨mA,⟨od,es,ep,e,c⟩,r⟩:=x;exact⟨mA,⟨od,es,ep,k _ _ (.inl rfl) e,c⟩,r⟩
 |lB lo hi=>obtain⟨t,u,v,e⟩:=x;exact⟨t,u,v,k _ _ (.inl rfl) e⟩
 |pL ob u ih=>obtain⟨e,q⟩:=x;exact⟨k _ _ (.inl rfl) e,ih q⟩
 |zN ps =>
  have e:h.get? a=some { cls:=.none,data:=.fields ps }:=x;show h'.get? a=some { cls:=.none,data:=.fields ps };exact k a _ (.inl rfl) e
 |met f y =>
  have e:h.get? a=some (PySem.W.methodObj (.ref f) (.ref y)):=x;show h'.get? a=some (PySem.W.methodObj (.ref f) (.ref y));exact k a _ (.inl rfl) e
 |ext φ=>obtain⟨p,⟨o,e⟩,st⟩:=x;exact⟨st _ _ p λo q=>k _ _ (.inl rfl) q,⟨o,k _ _ (.inl rfl) e⟩,st⟩
def nV.lt(x:nV P w H h)(e:H a=some o):a<h.objs.size:=(x a o e).lt
def nV.fresh(x:nV P w H h)(e:h.objs.size<=a):H a=none:=by
 cases q:H a with
 |none=>rfl
 |some u=>exact absurd (ZaI (x.lt q) e) (Zba _)
def nV.kept(x:nV P w H h)(k:∀b u,h.get? b=some u->h'.get? b=some u):nV P w H h':=λa o e =>
 (x a o e).stay (λb u _ q=>k b u q) (λ_ q=>q) λ_ _ q=>q
def nV.laid(x:nV P w H h)(k:∀b u,h.get? b=some u->h'.get? b=some u)(hp:h.objs.size<=a)(new:cq P w (upd H a o) h' a o):nV P w (upd H a o) h':=λb u e=>by
 have hn:=x.fresh hp;by_cases hb:b=a;subst hb;rw[uG]at e;cases e;exact new;rw[ml hb]at e;exact(x b u e).stay (λc v _ q=>k c v q) (λc q=>by rw[ml (CT q hn)];exact q) λc xs q=>by rw[ml (CT q hn)];exact q
end
abbrev Rd(H:Hp)(a:Addr)(u:HO):Prop:=H a=some u\/∃o,H a=some (.pL o u)
def Rd.ok(r:Rd H a u)(x:nV P w H h):cq P w H h a u:=by
 rcases r with r|⟨o,r⟩
 exact x a u r;obtain⟨_,q⟩:=x a _ r;exact q
abbrev Eb:Option HO->Prop
 |some (.lst _)=>True
 |some (.dK _)=>True
 |some (.dT _)=>True
 |some (.set _ _)=>True
 |some (.ins _ _ _)=>True
 |some (.ext _)=>True
 |_=>False
section
variable {P:Program}{w:World}{H:Hp}{h h':Heap}{x e:Addr}{o':HO}
def nV.write(ok:nV P w H h)(mu:Eb (H x))(he:e=x\/H e=some (.own x))(k:∀b u,b≠e->h.get? b=some u->h'.get? b=some u)(CU:∃u,h'.get? e=some u)
  (new:cq P w (upd H x o') h' x o'):nV P w (upd H x o') h':=λb u q=>by
 have Ec:∀c y,H c=some (.own y)->c≠x:=λc y r z=>by subst z;rw[r]at mu;exact mu
 have MT:∀c xs,H c=some (.tup xs)->c≠x:=λc xs r z=>by subst z;rw[r]at mu;exact mu
 by_cases hb:b=x;subst hb;rw[uG]at q;cases q;exact new;rw[ml hb]at q;by_cases zP:b=e;have q':H b=some (.own x):=by
  rcases he with z|z
  exact absurd (zP.trans z) hb;rw[zP];exact z
 rw[q]at q';cases q';obtain⟨v,hv⟩:=CU;exact⟨v,by rw[zP];exact hv⟩;refine(ok b u q).stay (λc v hc r=>k c v ?_ r) (λc r=>by rw[ml (Ec c b r)];exact r) λc xs r=>by rw[ml (MT c xs r)];exact r
 rcases hc with rfl|hc
 exact zP;rintro rfl;rcases he with z|z
 exact Ec c b hc z;rw[hc]at z;cases z;exact hb rfl
end
structure Un(fs ex:List Addr)(H H':Hp)(h h':Heap):Prop where
 keep:∀b o,h.get? b=some o->H b=none->b ∉ fs->b ∉ ex->h'.get? b=some o
 slot:∀b o,h.get? b=some o->H b=none->b∈fs->b ∉ ex->∃sl,h'.get? b=some { o with slots:=sl }
 free:∀b o,h.get? b=some o->H b=none->b ∉ ex->H' b=none
 there:∀b o,h.get? b=some o->b ∉ ex->∃o',h'.get? b=some o'
 tups:∀b xs,H b=some (.tup xs)->H' b=some (.tup xs)
 qC:∀b o u,H b=some (.pL o u)->H' b=some (.pL o u)
 rA:∀b ps,H b=some (.zN ps)->∃more,H' b=some (.zN (ps ++ more))
section
variable {fs fs' ex ex':List Addr}{H H1 H2:Hp}{h h1 h2 h':Heap}{a x e:Addr}{o:HO}
def Un.any(u:Un fs ex H H1 h h1)(q:h.get? b=some ob)(n:H b=none)(hx:b ∉ ex):∃sl,h1.get? b=some { ob with slots:=sl }:=by by_cases hb:b∈fs;exact u.slot b ob q n hb hx;exact⟨ob.slots,u.keep b ob q n hb hx⟩
def Un.kept(k:∀b u,h.get? b=some u->h'.get? b=some u):Un fs ex H H h h' :=
 ⟨λb ob q _ _ _=>k b ob q,λb ob q _ _ _=>⟨ob.slots,k b ob q⟩,λ_ _ _ n _=>n,λb ob q _=>⟨ob,k b ob q⟩,λ_ _ q=>q,λ_ _ _ q=>q,λ_ ps q=>⟨#[],by rw[q];simp⟩⟩
def Un.refl:Un fs ex H H h h:=Un.kept λ_ _ q=>q
def Un.laid(k:∀b u,h.get? b=some u->h'.get? b=some u)(hp:h.objs.size<=a)(hn:H a=none):Un fs ex H (upd H a o) h h' where
 keep:=λb u q _ _ _=>k b u q
 slot:=λb u q _ _ _=>⟨u.slots,k b u q⟩
 free:=λb u q n _=>by rw[ml (ZaR (ZaI (Zay q) hp))];exact n
 there:=λb u q _=>⟨u,k b u q⟩
 tups:=λb xs q=>by rw[ml (CT q hn)];exact q
 qC:=λb u xs q=>by rw[ml (CT q hn)];exact q
 rA:=λb ps q=>⟨#[],by rw[ml (CT q hn),q];simp⟩
def Un.write(mu:Eb (H x))(he:e=x\/H e=some (.own x))(k:∀b u,b≠e->h.get? b=some u->h'.get? b=some u)(CU:∃u,h'.get? e=some u):Un fs ex H (upd H x o) h h':=by
 have hx:∀b,H b=none->b≠x:=λb n z=>by subst z;rw[n]at mu;exact mu
 have hb:∀b,H b=none->b≠e:=λb n z=>by
  subst z;rcases he with r|r
  exact hx b n r;rw[n]at r;cases r
 have hm:∀b u,H b=some u->¬Eb (some u)->b≠x:=λb u q nm z=>by subst z;rw[q]at mu;exact nm mu
 refine⟨λb u q n _ _=>k b u (hb b n) q,λb u q n _ _=>⟨u.slots,k b u (hb b n) q⟩,λb u q n _=>by rw[ml (hx b n)];exact n,λb u q _=>?_,
  λb xs q=>by rw[ml (hm b _ q λz=>z)];exact q,λb u xs q=>by rw[ml (hm b _ q λz=>z)];exact q,λb ps q=>⟨#[],by rw[ml (hm b _ q λz=>z),q];simp⟩⟩
 by_cases zP:b=e;subst zP;exact CU;exact⟨u,k b u zP q⟩
end
abbrev Kn(h:Heap)(H:Hp):List Addr:=(List.range h.objs.size).filter λa=>(H a).isSome
abbrev qD(h:Heap)(H:Hp):Heap:=PySem.W.hideAll h (Kn h H)
def Wk(h:Heap)(H:Hp):(qD h H).objs.size=h.objs.size:=PySem.W.hideAll_size _ _
def Wl(e:h.get? b=some o)(n:H b=none):(qD h H).get? b=some o :=
 PySem.W.hideAll_get _ e λhm=>by
  have q:(H b).isSome=true:=(Zcm.mp hm).2;rw[n]at q;simp at q
def Wm(e:(qD h H).get? b=some o):h.get? b=some o/\H b=none:=by
 have e':h.get? b=some o:=PySem.W.of_hideAll (Kn h H) e;refine⟨e',?_⟩;cases q:H b with
 |none=>rfl
 |some x =>
  have hm:b∈Kn h H:=Zcm.mpr ⟨ZbG.mpr (Zay e'),by simp[q]⟩;have z:(qD h H).get? b=none:=PySem.W.hideAll_none (Kn h H) hm;rw[z]at e;cases e
abbrev xc(g h:Heap)(L:Addr):List (Addr×Obj):=(List.range h.objs.size).filterMap λa=>if a=L\/(g.get? a).isSome=true then none else(h.get? a).map λo=>(a,o)
abbrev rest(g h:Heap)(L d:Addr):List (Addr×Obj):=(xc g h L).filter λp=>decide (p.1≠d)
structure Mod(K:Zfr)(mg:Str->Option Value)(base:Heap):Prop where
 MU:K.In base
 glob:base.Ns mainGlobals mg
 blt:∃mb,base.Ns builtinsNs mb/\∀x:Str,x≠"__name__" -> mb x=bootBuiltins x
 nolimit:base.NoLimit
set_option genInjectivity false in
structure Cx where
 prog:Program
 w:World
 K:Zfr
 mg:Str->Option Value
 base:Heap
 A:Around
 N:List Str
 s₀:Shared
 H₀:Hp
 env:Env
 outer:List Env
 stack:List Env
 ex:List Addr
 fn:Str->Bool
 calm:Bool
 pn:List (Addr×Obj)
 xe:Value->Shared->Prop
abbrev frs(l:List Env):List Addr:=l.filterMap (·.frame)
@[reducible]def Cx.fs(X:Cx):List Addr:=frs X.outer
abbrev MV(sc:Scope)(x:Str):Prop:=sc.names.lookup x=some .local\/sc.names.lookup x=some .cell\/sc.names.lookup x=some .free
abbrev Loc(sc:Scope)(x:Str):Prop:=sc.names.lookup x=some .local\/sc.names.lookup x=some .cell
abbrev Look(env:Env)(h:Heap)(m:Str->Option Value)(x:Str)(u:Value):Prop :=
 (env.kindOf x=some .local/\m x=some u)\/((env.kindOf x=some .cell\/env.kindOf x=some .free)/\∃c,env.cells.lookup x=some c/\h.IsCell c (some u))
structure Cx.Ok(X:Cx):Prop where
 mod:Mod X.K X.mg X.base
 kind:X.env.scope.kind=.function
 glob:X.env.globals=mainGlobals
 blt:X.env.builtins=builtinsNs
 above:X.s₀.heap.objs.size<=X.env.locals
 inj:∀x y c,X.env.cells.lookup x=some c->X.env.cells.lookup y=some c->x=y
 has:∀x,(X.env.kindOf x=some .cell\/X.env.kindOf x=some .free)->∃c,X.env.cells.lookup x=some c
 Ed:∀x c,X.fn x=true->X.env.cells.lookup x=some c->X.s₀.heap.objs.size<=c
 hd:X.calm=true->X.A.handled=none
 frames:X.A.frames=some X.stack
 stk:X.stack=X.outer\/(X.stack=X.env :: X.outer/\X.env.frame=some X.env.locals)
 Qq:∀b∈X.ex,b≠X.env.locals/\∀x c,X.env.cells.lookup x=some c->c≠b
 bs:∀b o,X.base.get? b=some o->X.s₀.heap.get? b=some o/\X.H₀ b=none
 yd:X.base.objs.size<=X.s₀.heap.objs.size
 uQ:∀b o,X.base.get? b=some o->b ∉ X.ex
 xf:∀b∈X.ex,b ∉ X.fs
 pM:X.s₀.heap.FunFrames X.base X.outer
 CV:∀b∈X.fs,X.H₀ b=none
structure Inv(X:Cx)(pins:List (Addr×Obj))(σ:List (Option V))(H:Hp)(s:Shared):Prop where
 ok:X.Ok
 os:s.os=X.s₀.os
 bare:AllBare s.gens
 base:Un X.fs X.ex X.H₀ H X.s₀.heap s.heap
 loc:∃m,s.heap.Ns X.env.locals m/\∀(i:Nat) (x:Str) (v:V),X.N[i]?=some x->σ[i]?=some (some v)->MV X.env.scope x->∃u,RelV v u/\Look X.env s.heap m x u
 cell:∀x c,X.env.cells.lookup x=some c->∃v,s.heap.IsCell c v
 free:H X.env.locals=none
 ni:∀x c,X.env.cells.lookup x=some c->H c=none
 pin:∀p∈X.pn ++ pins,s.heap.get? p.1=some p.2/\H p.1=none/\p.1≠X.env.locals/\p.1 ∉ X.fs/\∀v,p.2.data≠.cell v
 hok:nV X.prog X.w H s.heap
 len:σ.length=X.N.length
section
variable {X:Cx}{pins:List (Addr×Obj)}{σ:List (Option V)}{H H':Hp}{s:Shared}{h':Heap}
def Cx.Ok.MW(ok:X.Ok)(e:X.base.get? b=some o):b ∉ X.fs:=λhb=>by
 have:=(ok.pM.mem hb).1;rw[e]at this;cases this
def Inv.bs(I:Inv X pins σ H s):∀b o,X.base.get? b=some o->s.heap.get? b=some o/\H b=none:=λb o e =>
 ⟨I.base.keep b o (I.ok.bs b o e).1 (I.ok.bs b o e).2 (I.ok.MW e) (I.ok.uQ b o e),I.base.free b o (I.ok.bs b o e).1 (I.ok.bs b o e).2 (I.ok.uQ b o e)⟩
def Inv.bk(I:Inv X pins σ H s):∀b o,X.base.get? b=some o->s.heap.get? b=some o:=λb o e=>(I.bs b o e).1
def Inv.mod(I:Inv X pins σ H s):Mod X.K X.mg X.base:=I.ok.mod
def Inv.CW(I:Inv X pins σ H s):X.K.In s.heap:=I.ok.mod.MU.keeps I.bk
def Inv.lt(I:Inv X pins σ H s):X.env.locals<s.heap.objs.size:=let ⟨_,hn,_⟩:=I.loc;hn.lt
def Inv.sz(I:Inv X pins σ H s):X.s₀.heap.objs.size<=s.heap.objs.size:=Zal I.ok.above (Zbp I.lt)
def Inv.Ee(I:Inv X pins σ H s){a:Addr}(h:s.heap.objs.size<=a):a ∉ X.fs:=λhb=>by
 obtain⟨_,o,ho,_⟩:=I.ok.pM.mem hb;exact absurd (ZaI (Zay ho) (Zal I.sz h)) (Zba _)
def Inv.zQ(I:Inv X pins σ H s):∀x c,X.env.cells.lookup x=some c->c≠X.env.locals:=λx c e z=>by
 obtain⟨v,o,ho,hd⟩:=I.cell x c e;obtain⟨m,⟨o',es,ep,ho',hd',_⟩,_⟩:=I.loc;rw[z,ho']at ho;cases ho;rw[hd']at hd;cases hd
def Inv.pM(I:Inv X pins σ H s):s.heap.FunFrames X.base X.outer:=by
 have all:∀(l:List Env),(∀b∈frs l,b∈X.fs)->X.s₀.heap.FunFrames X.base l->s.heap.FunFrames X.base l:=by
  intro l
  induction l with
  |nil=>intro _ _;trivial
  |cons env r ih =>
   intro hs hl;obtain⟨hk,⟨L,o,hf,hn,ho,hd⟩,hr⟩:=hl;have hL:L∈X.fs:=hs L (by unfold frs;rw[ZcU,hf];exact Zaj);obtain⟨sl,e⟩:=I.base.slot L o ho (I.ok.CV L hL) hL λz=>I.ok.xf L z hL;exact⟨hk,⟨L,_,hf,hn,e,hd⟩,ih (λb hb=>hs b (by unfold frs;rw[ZcU,hf];exact Zas _ hb)) hr⟩
 exact all X.outer (λ_ hb=>hb) I.ok.pM
def Inv.stack(I:Inv X pins σ H s):s.heap.FunFrames X.base X.stack:=by
 rcases I.ok.stk with e|⟨e,hf⟩
 rw[e];exact I.pM;rw[e];obtain⟨m,hn,_⟩:=I.loc;refine .cons (by rw[I.ok.kind];decide) hf hn ?_ I.pM;exact Heap.get?_none_of_le (Zal I.ok.yd I.ok.above)
def Inv.pN(I:Inv X pins σ H s):∀b∈frs X.stack,b∈X.env.locals :: X.fs:=λb hb=>by
 rcases I.ok.stk with e|⟨e,hf⟩
 rw[e]at hb;exact Zas _ hb;rw[e]at hb;unfold frs at hb;rw[ZcU,hf]at hb;exact hb
def Inv.tD(I:Inv X pins σ H s):∀b∈frs X.stack,H b=none:=λb hb=>by
 rcases ZaC.mp (I.pN b hb)with e|hb
 rw[e];exact I.free;obtain⟨_,o,ho,_⟩:=I.ok.pM.mem hb;exact I.base.free b o ho (I.ok.CV b hb) λz=>I.ok.xf b z hb
def Inv.step{g':Array GenState}{t':Nat}{d':Drawn}{ch:List Addr}(I:Inv X pins σ H s)
  (hch:∀b∈ch,(b∈X.ex\/X.s₀.heap.objs.size<=b)/\b≠X.env.locals/\(∀x c,X.env.cells.lookup x=some c->c≠b)/\∀p∈X.pn ++ pins,p.1≠b)
  (keep:∀b o,b≠X.env.locals->b ∉ X.fs->b ∉ ch->s.heap.get? b=some o->H b=none->h'.get? b=some o)
  (slot:∀b o,b≠X.env.locals->b∈X.fs->b ∉ ch->s.heap.get? b=some o->H b=none->∃sl,h'.get? b=some { o with slots:=sl }) (free:∀b o,b ∉ ch->s.heap.get? b=some o->H b=none->H' b=none)
  (there:∀b o,b ∉ ch->s.heap.get? b=some o->∃o',h'.get? b=some o')
  (tups:∀b xs,H b=some (.tup xs)->H' b=some (.tup xs)) (qC:∀b o u,H b=some (.pL o u)->H' b=some (.pL o u)) (rA:∀b ps,H b=some (.zN ps)->∃more,H' b=some (.zN (ps ++ more)))
  (ns:∀m,s.heap.Ns X.env.locals m->h'.Ns X.env.locals m) (hok:nV X.prog X.w H' h') (hg:AllBare g') :
  Inv X pins σ H' { s with heap:=h',gens:=g',drawn:=d',toks:=t' }:=by
 have zR:∀b o,X.s₀.heap.get? b=some o->b≠X.env.locals:=λb o e=>ZaR (ZaI (Zay e) I.ok.above);have Ko:∀b o,X.s₀.heap.get? b=some o->b ∉ X.ex->b ∉ ch:=λb o e hx hb=>by
  rcases(hch b hb).1 with z|z
  exact hx z;exact absurd (ZaI (Zay e) z) (Zba _)
 have cellK:∀x c,X.env.cells.lookup x=some c->∀v,s.heap.IsCell c v->h'.IsCell c v:=λx c e v ⟨o,ho,hd⟩=>by
  have Ef:c ∉ ch:=λz=>(hch c z).2.2.1 x c e rfl;by_cases hc:c∈X.fs;obtain⟨sl,q⟩:=slot c o (I.zQ x c e) hc Ef ho (I.ni x c e);exact⟨_,q,hd⟩;exact⟨o,keep c o (I.zQ x c e) hc Ef ho (I.ni x c e),hd⟩
 refine⟨I.ok,I.os,hg,⟨λb o e n hb hx=>?_,λb o e n hb hx=>?_,λb o e n hx=>?_,λb o e hx=>?_,λb xs e=>tups b xs (I.base.tups b xs e),λb o xs e=>qC b o xs (I.base.qC b o xs e),λb ps e=>?_⟩,?_,λx c e=>?_,?_,λx c e=>?_,λp hp=>?_,hok,I.len⟩;exact keep b o (zR b o e) hb (Ko b o e hx) (I.base.keep b o e n hb hx) (I.base.free b o e n hx);obtain⟨sl,e1⟩:=I.base.slot b o e n hb hx;obtain⟨Wn,e2⟩:=slot b _ (zR b o e) hb (Ko b o e hx) e1 (I.base.free b o e n hx);exact⟨Wn,e2⟩;obtain⟨o',e1⟩:=I.base.there b o e hx;exact free b o' (Ko b o e hx) e1 (I.base.free b o e n hx);obtain⟨o',e1⟩:=I.base.there b o e hx;exact there b o' (Ko b o e hx) e1;obtain⟨m1,e1⟩:=I.base.rA b ps e;obtain⟨m2,e2⟩:=rA b _ e1;exact⟨m1 ++ m2,by rw[e2,Array.append_assoc]⟩;obtain⟨m,hn,hl⟩:=I.loc;refine⟨m,ns m hn,λi x v e1 e2 e3=>?_⟩;obtain⟨u,r,l⟩:=hl i x v e1 e2 e3;refine⟨u,r,?_⟩;rcases l with l|⟨k,c,e,z⟩
 exact .inl l;exact .inr ⟨k,c,e,cellK x c e _ z⟩;obtain⟨v,z⟩:=I.cell x c e;exact⟨v,cellK x c e v z⟩;obtain⟨m,⟨o,_,_,ho,_⟩,_⟩:=I.loc;exact free _ o (λz=>(hch _ z).2.1 rfl) ho I.free;obtain⟨v,o,ho,hd⟩:=I.cell x c e;exact free c o (λz=>(hch c z).2.2.1 x c e rfl) ho (I.ni x c e);obtain⟨e,n,ne,nf,d⟩:=I.pin p hp;have Ef:p.1 ∉ ch:=λz=>(hch p.1 z).2.2.2 p hp rfl;exact⟨keep p.1 p.2 ne nf Ef e n,free p.1 p.2 Ef e n,ne,nf,d⟩
def Inv.un(I:Inv X pins σ H s)(u:Un X.fs [] H H' s.heap h')(hok:nV X.prog X.w H' h'):Inv X pins σ H' { s with heap:=h',toks:=t' }:=by
 obtain⟨m,⟨o,es,ep,ho,r⟩,_⟩:=id I.loc;obtain⟨sl,hL⟩:=u.any ho I.free (by simp)
 exact I.step (g':=s.gens) (d':=s.drawn) (ch:=[]) (λ_ z=>nomatch z) (λb o _ hb _ e n=>u.keep b o e n hb (by simp)) (λb o _ hb _ e n=>u.slot b o e n hb (by simp)) (λb o _ e n=>u.free b o e n (by simp)) (λb o _ e=>u.there b o e (by simp)) u.tups u.qC u.rA (λm' hm=>by
  obtain⟨o',es',MX,ho',r'⟩:=hm;rw[ho]at ho';cases ho'
  exact⟨_,es',MX,hL,r'⟩) hok I.bare
def Inv.call(I:Inv X pins σ H s)(u:Un (frs X.stack) ch H H' s.heap h')(hok:nV X.prog X.w H' h')(hg:AllBare g')
  (hch:∀b∈ch,(b∈X.ex\/X.s₀.heap.objs.size<=b)/\b≠X.env.locals/\(∀x c,X.env.cells.lookup x=some c->c≠b)/\∀p∈X.pn ++ pins,p.1≠b) :
  Inv X pins σ H' { s with heap:=h',gens:=g',drawn:=d',toks:=t' }:=by
 obtain⟨m,⟨o,es,ep,ho,r⟩,_⟩:=id I.loc;obtain⟨sl,hL⟩:=u.any ho I.free λz=>(hch _ z).2.1 rfl
 exact I.step (ch:=ch) hch (λb o hL hb hc e n=>u.keep b o e n (λz=>(ZaC.mp (I.pN b z)).elim hL hb) hc) (λb o _ _ hc e n=>u.any e n hc) (λb o hc e n=>u.free b o e n hc) (λb o hc e=>u.there b o e hc) u.tups u.qC u.rA (λm' hm=>by
  obtain⟨o',es',MX,ho',r'⟩:=hm;rw[ho]at ho';cases ho'
  exact⟨_,es',MX,hL,r'⟩) hok hg
def Inv.turned(I:Inv X pins σ H s)(k:∀b o,b≠it->s.heap.get? b=some o->h'.get? b=some o)(hn:H it=none)(hL:it≠X.env.locals)
  (h1:it∈X.ex\/X.s₀.heap.objs.size<=it) (h2:∀x c,X.env.cells.lookup x=some c->c≠it) (h3:∀p∈X.pn ++ pins,p.1≠it):Inv X pins σ H { s with heap:=h',toks:=t' }:=by
 have Eg:∀b u,H b=some u->b≠it:=λb u e z=>by rw[z,hn]at e;cases e
 refine I.step (g':=s.gens) (d':=s.drawn) (ch:=[it]) (λb hb=>?_) (λb o _ _ hc e _=>k b o (λz=>hc (by simp[z])) e) (λb o _ _ hc e _=>⟨o.slots,k b o (λz=>hc (by simp[z])) e⟩) (λ_ _ _ _ n=>n)
  (λb o hc e=>⟨o,k b o (λz=>hc (by simp[z])) e⟩) (λ_ _ e=>e) (λ_ _ _ e=>e) (λb ps e=>⟨#[],by rw[e];simp⟩) (λm hm=>?_) (λb u e=>?_) I.bare
 have e:b=it:=by simpa using hb
 subst e;exact⟨h1,hL,h2,h3⟩;obtain⟨o,es,ep,ho,r⟩:=hm;exact⟨o,es,ep,k _ o (Ne.symm hL) ho,r⟩;refine(I.hok b u e).stay (λc v hc q=>k c v ?_ q) (λ_ q=>q) λ_ _ q=>q;rcases hc with z|z
 rw[z];exact Eg b u e;exact Eg c _ z
def Inv.tok(I:Inv X pins σ H s)(t:Nat):Inv X pins σ H { s with toks:=t }:=I.un (h':=s.heap) (t':=t) Un.refl I.hok
def Inv.kept(I:Inv X pins σ H s)(k:∀b u,s.heap.get? b=some u->h'.get? b=some u):Inv X pins σ H { s with heap:=h',toks:=t' }:=I.un (Un.kept k) (I.hok.kept k)
def Inv.laid{a:Addr}{o:HO}{t':Nat}(I:Inv X pins σ H s)(k:∀b u,s.heap.get? b=some u->h'.get? b=some u)(hp:s.heap.objs.size<=a)(new:cq X.prog X.w (upd H a o) h' a o):
  Inv X pins σ (upd H a o) { s with heap:=h',toks:=t' }:=I.un (Un.laid k hp (I.hok.fresh hp)) (I.hok.laid k hp new)
def Inv.write(I:Inv X pins σ H s)(mu:Eb (H x))(he:e=x\/H e=some (.own x))(k:∀b u,b≠e->s.heap.get? b=some u->h'.get? b=some u)(CU:∃u,h'.get? e=some u)
  (new:cq X.prog X.w (upd H x o) h' x o):Inv X pins σ (upd H x o) { s with heap:=h',toks:=t' }:=I.un (Un.write mu he k CU) (I.hok.write mu he k CU new)
def Inv.o9(I:Inv X pins σ H s)(h:∀p∈ye,s.heap.get? p.1=some p.2/\H p.1=none/\p.1≠X.env.locals/\p.1 ∉ X.fs/\∀v,p.2.data≠.cell v):Inv X ye σ H s :=
 ⟨I.ok,I.os,I.bare,I.base,I.loc,I.cell,I.free,I.ni,λp hp=>(ZaA.mp hp).elim (λz=>I.pin p (Zbv _ z)) (h p),I.hok,I.len⟩
def Qr{N:List Str}(hN:N.Nodup){i j:Nat}{x:Str}(a:N[i]?=some x)(b:N[j]?=some x):i=j:=by obtain⟨h1,e1⟩:=Zac.mp a;obtain⟨h2,e2⟩:=Zac.mp b;exact(List.getElem_inj hN).mp (e1.trans e2.symm)
def Qs(I:Inv X pins σ H s)(hN:X.N.Nodup)(hi:X.N[i]?=some x)(hx:Loc X.env.scope x)(r:RelV v u)
  (h:∀s',Inv X pins (σ.set i (some v)) H s'->(∃a,Heap.SameBut a s.heap s'.heap/\(a=X.env.locals\/X.env.cells.lookup x=some a))->Q () s') (hf:X.fn x=true\/X.env.scope.names.lookup x=some .local:=by first|exact .inl rfl|exact .inr rfl|assumption):wpAny M A (storeName X.env x u) Q E s:=by
 obtain⟨m,hn,hl⟩:=id I.loc;have hcls:(X.env.scope.kind == .class || (X.env.scope.kind == .module && X.env.locals != X.env.globals))=false:=by rw[I.ok.kind];rfl
 have hiσ:i<σ.length:=by rw[I.len];exact(Zac.mp hi).1
 have zQ:=I.zQ;have tracked:∀{a:Addr} {h':Heap},(∃o,s.heap.get? a=some o/\H a=none)->Heap.SameBut a s.heap h'->nV X.prog X.w H h':=λ{a h'} ha hs b ob e=>by
  obtain⟨_,_,hfree⟩:=ha;refine(I.hok b ob e).stay (λc w' hc q=>(hs.2 c ?_).trans q) (λ_ q=>q) λ_ _ q=>q;rintro rfl;rcases hc with rfl|hc
  rw[hfree]at e;cases e;rw[hfree]at hc;cases hc
 rcases hx with hk|hk
 refine wpAny_storeName_local hk hn (λh' hn' hs=>?_) hcls;obtain⟨oL,_,_,zS,_⟩:=id hn;refine h _ ⟨I.ok,I.os,I.bare,⟨λb o e n hb hx=>?_,λb o e n hb hx=>?_,I.base.free,λb o e hx=>?_,I.base.tups,I.base.qC,I.base.rA⟩,⟨_,hn',λj y v' e1 e2 e3=>?_⟩,λy c e=>?_,I.free,I.ni,λp hp=>?_,tracked ⟨oL,zS,I.free⟩ hs,by simpa using I.len⟩ ⟨_,hs,.inl rfl⟩;exact(hs.2 b (ZaR (ZaI (Zay e) I.ok.above))).trans (I.base.keep b o e n hb hx);obtain⟨sl,e1⟩:=I.base.slot b o e n hb hx;exact⟨sl,(hs.2 b (ZaR (ZaI (Zay e) I.ok.above))).trans e1⟩;obtain⟨o',e1⟩:=I.base.there b o e hx;exact⟨o',(hs.2 b (ZaR (ZaI (Zay e) I.ok.above))).trans e1⟩;by_cases hj:j=i;subst hj;rw[hi]at e1;cases e1;rw[Zao hiσ]at e2;cases e2;exact⟨u,r,.inl ⟨hk,by simp⟩⟩;rw[Zat (Ne.symm hj)]at e2;obtain⟨u',r',q⟩:=hl j y v' e1 e2 e3;refine⟨u',r',?_⟩;rcases q with⟨k,e⟩|⟨k,c,e,z⟩
 refine .inl ⟨k,?_⟩
 have:y≠x:=λe=>hj (Qr hN e1 (e ▸ hi));simp[this,e]
 exact .inr ⟨k,c,e,z.sameBut hs (zQ y c e)⟩;obtain⟨w',z⟩:=I.cell y c e;exact⟨w',z.sameBut hs (zQ y c e)⟩;obtain⟨e,n,ne,nf,d⟩:=I.pin p hp;exact⟨(hs.2 p.1 ne).trans e,n,ne,nf,d⟩;have hfn:X.fn x=true:=by
  rcases hf with z|z
  exact z;rw[z]at hk;cases hk
 obtain⟨c,hc⟩:=I.ok.has x (.inl hk);obtain⟨w',z⟩:=I.cell x c hc;refine wpAny_storeName_cell I.ok.kind hk hc z (λh' hc' hs=>?_);obtain⟨oc,hoc,MY⟩:=id z;refine h { s with heap:=h' } ⟨I.ok,I.os,I.bare,⟨λb o e n hb hx=>?_,λb o e n hb hx=>?_,I.base.free,λb o e hx=>?_,I.base.tups,I.base.qC,I.base.rA⟩,⟨m,hn.sameBut hs (Ne.symm (zQ x c hc)),λj y v' e1 e2 e3=>?_⟩,λy c' e=>?_,I.free,I.ni,λp hp=>?_,tracked ⟨oc,hoc,I.ni x c hc⟩ hs,by simpa using I.len⟩ ⟨c,hs,.inr hc⟩;exact(hs.2 b (ZaR (ZaI (Zay e) (I.ok.Ed x c hfn hc)))).trans (I.base.keep b o e n hb hx);obtain⟨sl,e1⟩:=I.base.slot b o e n hb hx;exact⟨sl,(hs.2 b (ZaR (ZaI (Zay e) (I.ok.Ed x c hfn hc)))).trans e1⟩;obtain⟨o',e1⟩:=I.base.there b o e hx;exact⟨o',(hs.2 b (ZaR (ZaI (Zay e) (I.ok.Ed x c hfn hc)))).trans e1⟩;by_cases hj:j=i;subst hj;rw[hi]at e1;cases e1;rw[Zao hiσ]at e2;cases e2;exact⟨u,r,.inr ⟨.inl hk,c,hc,hc'⟩⟩;rw[Zat (Ne.symm hj)]at e2;obtain⟨u',r',q⟩:=hl j y v' e1 e2 e3;refine⟨u',r',?_⟩;rcases q with q|⟨k,c',e,z'⟩
 exact .inl q;refine .inr ⟨k,c',e,z'.sameBut hs ?_⟩;rintro rfl;exact hj (Qr hN e1 (I.ok.inj _ _ _ e hc ▸ hi));by_cases hcc:c'=c;subst hcc;exact⟨_,hc'⟩;obtain⟨w2,z2⟩:=I.cell y c' e;exact⟨w2,z2.sameBut hs hcc⟩;obtain⟨e,n,ne,nf,d⟩:=I.pin p hp;refine⟨(hs.2 p.1 ?_).trans e,n,ne,nf,d⟩;intro q;rw[q,hoc]at e;have q':oc=p.2:=Zar e;exact d w' (by rw[<- q'];exact MY)
def Kq(I:Inv X pins σ H s)(hN:X.N.Nodup)(hi:X.N[i]?=some x)(hx:Loc X.env.scope x)(r:RelV v u)
  (h:∀s',Inv X pins (σ.set i (some v)) H s'->Q () s') (hf:X.fn x=true\/X.env.scope.names.lookup x=some .local:=by first|exact .inl rfl|exact .inr rfl|assumption):wpAny M A (storeName X.env x u) Q E s :=
 Qs I hN hi hx r (λs' I' _=>h s' I') hf
def Inv.Eh(I:Inv X pins σ H s)(ho:s'.os=s.os)(u:Un (frs X.stack) ch H H' s.heap s'.heap)(hok:nV X.prog X.w H' s'.heap)(hg:AllBare s'.gens)
  (hch:∀b∈ch,(b∈X.ex\/X.s₀.heap.objs.size<=b)/\b≠X.env.locals/\(∀x c,X.env.cells.lookup x=some c->c≠b)/\∀p∈X.pn ++ pins,p.1≠b):Inv X pins σ H' s':=by
 obtain⟨h',g',d',t',o'⟩:=s';have e:o'=s.os:=ho;subst e;exact I.call (g':=g') (t':=t') (d':=d') u hok hg hch
end
@[reducible]def XK:=Value->Option Addr->Hp->Prop
@[reducible]def St:=List (Option V)
@[reducible]def VK:=V->Hp->Prop
@[reducible]def TE:=St->Hp->VK->Prop
@[reducible]def TT:=St->Hp->(Bool->Hp->Prop)->Prop
@[reducible]def TA:=St->Hp->(List V->Hp->Prop)->Prop
set_option genInjectivity false in
structure Ends where
 nx:St->Hp->Prop
 rt:VK
 bk:St->Hp->Prop:=λ_ _=>False
 ct:St->Hp->Prop:=λ_ _=>False
@[reducible]def TS:=Ends->St->Hp->Prop
abbrev EP(X:Cx)(pins:List (Addr×Obj))(σ:St)(Q:VK)(u:Value)(s':Shared):Prop:=∃v H',Inv X pins σ H' s'/\RelV v u/\Q v H'
abbrev TP(X:Cx)(pins:List (Addr×Obj))(σ:St)(Q:Bool->Hp->Prop)(b:Bool)(s':Shared):Prop:=∃H',Inv X pins σ H' s'/\Q b H'
abbrev AP(X:Cx)(pins:List (Addr×Obj))(σ:St)(Q:List V->Hp->Prop)(us:List Value)(s':Shared):Prop:=∃vs H',Inv X pins σ H' s'/\Vals vs us/\Q vs H'
abbrev SP(X:Cx)(pins:List (Addr×Obj))(D:Ends)(f:Flow)(s':Shared):Prop :=
 match f with
 |.next=>∃σ' H',Inv X pins σ' H' s'/\D.nx σ' H'
 |.brk=>∃σ' H',Inv X pins σ' H' s'/\D.bk σ' H'
 |.cont=>∃σ' H',Inv X pins σ' H' s'/\D.ct σ' H'
 |.ret u=>∃v σ' H',Inv X pins σ' H' s'/\RelV v u/\D.rt v H'
abbrev PE(X:Cx)(e:Expr)(t:TE):Prop :=
 ∀(pins:List (Addr×Obj)) (s:Shared) (σ:St) (H:Hp) (Q:VK),Inv X pins σ H s->t σ H Q->wpAny (model X.prog X.w) X.A (eval e X.env) (EP X pins σ Q) X.xe s
abbrev PT(X:Cx)(e:Expr)(t:TT):Prop :=
 ∀(pins:List (Addr×Obj)) (s:Shared) (σ:St) (H:Hp) (Q:Bool->Hp->Prop),Inv X pins σ H s->t σ H Q->wpAny (model X.prog X.w) X.A (isTrue e X.env (eval e X.env)) (TP X pins σ Q) X.xe s
abbrev PW(X:Cx)(e:Expr)(t:TT):Prop :=
 ∀(whole:Sem Value) (pins:List (Addr×Obj)) (s:Shared) (σ:St) (H:Hp) (Q:Bool->Hp->Prop),Inv X pins σ H s->t σ H Q->wpAny (model X.prog X.w) X.A (isTrue e X.env whole) (TP X pins σ Q) X.xe s
def PW.pt(h:PW X e t):PT X e t:=h _
abbrev PA(X:Cx)(es:List Expr)(t:TA):Prop :=
 ∀(pos:Pos) (pins:List (Addr×Obj)) (s:Shared) (σ:St) (H:Hp) (Q:List V->Hp->Prop),Inv X pins σ H s->t σ H Q->wpAny (model X.prog X.w) X.A (spliced (backTo pos (starEach es X.env))) (AP X pins σ Q) X.xe s
abbrev PS(X:Cx)(st:Stmt)(t:TS):Prop :=
 ∀(pins:List (Addr×Obj)) (s:Shared) (σ:St) (H:Hp) (D:Ends),Inv X pins σ H s->t D σ H->wpAny (model X.prog X.w) X.A (exec st X.env) (SP X pins D) X.xe s
abbrev tF(X:Cx)(st:List Stmt)(t:TS):Prop :=
 ∀(pins:List (Addr×Obj)) (s:Shared) (σ:St) (H:Hp) (D:Ends),Inv X pins σ H s->t D σ H->wpAny (model X.prog X.w) X.A (execs st X.env) (SP X pins D) X.xe s
def cW{α:Type}{t:Sem α}{Q Q':α->Shared->Prop}{M:Model}{A:Around}{E:Value->Shared->Prop}{s:Shared}(h:wpAny M A t Q E s)(hQ:∀a s,Q a s->Q' a s):wpAny M A t Q' E s:=wpAny_mono h hQ λ_ _ x=>x
section
variable {X:Cx}
abbrev xg(i:Nat):TE:=λσ H Q=>∃v,σ[i]?=some (some v)/\Q v H
abbrev tC(v:V):TE:=λ_ H Q=>Q v H
def zT{i:Nat}{x:Str}{pos:Pos}(hN:X.N[i]?=some x)(hv:MV X.env.scope x)(hd:(x == ("__debug__" : Str))=false:=by decide)(hcd:(x == ("__classdict__" : Str))=false:=by decide):PE X (.Name x pos) (xg i):=by
 intro pins s σ H Q I h;obtain⟨v,e,h⟩:=h;obtain⟨m,hn,hl⟩:=I.loc;obtain⟨u,r,l⟩:=hl i x v hN e hv;have fin:EP X pins σ Q u s:=⟨v,H,I,r,h⟩;rcases l with⟨hk,hm⟩|⟨hk,c,hc,hcell⟩
 exact wpAny_Name (wpAny_loadName_local I.ok.kind hk hn hm fin) hd;rcases hk with hk|hk
 exact wpAny_Name (wpAny_loadName_cell I.ok.kind hk hc hcell fin) hd;exact wpAny_Name (wpAny_loadName_free I.ok.kind hk hc hcell fin hcd) hd
def aK{i j pos}:PE X (.Constant (.int i) j pos) (tC (.int i)):=λ_ _ _ H _ I h=>wpAny_Constant_int ⟨.int i,H,I.tok _,⟨_,rfl⟩,h⟩
def uR{b j pos}:PE X (.Constant (.bool b) j pos) (tC (.bl b)):=λ_ _ _ H _ I h=>Constant_bool ⟨.bl b,H,I,rfl,h⟩
def CY{j pos}:PE X (.Constant .none j pos) (tC .non):=λ_ _ _ H _ I h=>Constant_none ⟨.non,H,I,rfl,h⟩
def rg{x j pos}:PE X (.Constant (.str x) j pos) (tC (.str x)):=λ_ _ _ H _ I h=>Calls.Constant_str ⟨.str x,H,I.tok _,⟨_,rfl⟩,h⟩
abbrev Gl(X:Cx)(x:Str):Prop:=X.env.kindOf x=some .globalImplicit
def Qu{E:Value->Shared->Prop}{pins:List (Addr×Obj)}{s:Shared}{σ:St}{H:Hp}{x:Str}{u:Value}{pos:Pos}{Q:Value->Shared->Prop}(I:Inv X pins σ H s)(hg:Gl X x)(hm:X.mg x=some u)(h:Q u s)
  (hd:(x == ("__debug__" : Str))=false:=by decide):wpAny (model X.prog X.w) X.A (eval (.Name x pos) X.env) Q E s :=
 Calls.Name_function_global I.ok.kind hg (Calls.loadGlobal_global (by rw[I.ok.glob];exact I.mod.glob.keeps I.bk) hm h) hd
def zU{E:Value->Shared->Prop}{pins:List (Addr×Obj)}{s:Shared}{σ:St}{H:Hp}{x:Str}{u:Value}{pos:Pos}{Q:Value->Shared->Prop}(I:Inv X pins σ H s)(hg:Gl X x)(hm:X.mg x=none)(hv:bootBuiltins x=some u)(h:Q u s)
  (hn:x≠"__name__" := by decide) (hd:(x == ("__debug__" : Str))=false:=by decide):wpAny (model X.prog X.w) X.A (eval (.Name x pos) X.env) Q E s:=by
 obtain⟨mb,h1,h2⟩:=I.mod.blt;exact Calls.Name_function_global I.ok.kind hg (Calls.loadGlobal_builtin (by rw[I.ok.glob];exact I.mod.glob.keeps I.bk) hm (by rw[I.ok.blt];exact h1.keeps I.bk) ((h2 x hn).trans hv) h) hd
def Wo(hg:Gl X x)(hm:X.mg x=some u)(r:RelV v u)(hd:(x == ("__debug__" : Str))=false:=by decide):PE X (.Name x pos) (tC v) :=
 λ_ _ _ H _ I h=>Qu I hg hm ⟨v,H,I,r,h⟩ hd
def Wq{x:Str}{v:V}{u:Value}{pos:Pos}(hg:Gl X x)(hm:X.mg x=none)(hv:bootBuiltins x=some u)(r:RelV v u)(hn:x≠"__name__" := by decide)(hd:(x == ("__debug__" : Str))=false:=by decide):PE X (.Name x pos) (tC v) :=
 λ_ _ _ H _ I h=>zU I hg hm hv ⟨v,H,I,r,h⟩ hn hd
variable {a b:Expr}{ta tb:TE}{pos:Pos}
abbrev PC(X:Cx)(op:CmpOp)(a b:Expr)(t:TE):Prop :=
 ∀(pins:List (Addr×Obj)) (s:Shared) (σ:St) (H:Hp) (Q:VK),Inv X pins σ H s->t σ H Q ->
  wpAny (model X.prog X.w) X.A (eval a X.env) (λv s₁=>wpAny (model X.prog X.w) X.A (eval b X.env) (λu s₂=>wpAny (model X.prog X.w) X.A (compareOp op v u) (EP X pins σ Q) X.xe s₂) X.xe s₁) X.xe s
def uS(b:Expr)(h:op≠.In)(h2:op≠.NotIn):behindInMarks op b=false:=by
 have e1:(op == CmpOp.In)=false:=by cases op<;>first|rfl|exact absurd rfl h
 have e2:(op == CmpOp.NotIn)=false:=by cases op<;>first|rfl|exact absurd rfl h2
 cases b<;>simp[behindInMarks,e1,e2]
abbrev tB(t:TE):TT:=λσ H Q=>t σ H λx H1=>∃c,x=.bl c/\Q c H1
def zV(h:PC X op a b t)(h1:behindInMarks op b=false:=by first|exact uS _ ∅ ∅|rfl):PT X (.Compare a [op] [b] pos) (tB t):=by intro pins s σ H Q I hw;refine wpAny_isTrue_Compare1 (cW (h pins s σ H _ I hw) λv s1 h1=>cW h1 λu s2 h2=>cW h2 λc s3 ⟨x,H1,I1,r1,q1⟩=>?_) h1;obtain⟨d,rfl,q⟩:=q1;cases r1;exact wpAny_truthy_bool ⟨H1,I1,q⟩
def Kr(h:PE X e t)(he:∀whole,isTrue e X.env whole=(do let v <- whole;standAt e.pos;holding [v] (truthy v)):=by intro _;rfl):PT X e (tB t):=by intro pins s σ H Q I hw;refine isTrue_plain (cW (h pins s σ H _ I hw) λv s1 ⟨x,H1,I1,r1,q1⟩=>?_) (he _);obtain⟨d,rfl,q⟩:=q1;cases r1;exact wpAny_truthy_bool ⟨H1,I1,q⟩
variable {tA Ks:TT}{rest:List Expr}
abbrev Ei(t u:TT):TT:=λσ H Q=>t σ H λc H1=>if c=true then u σ H1 Q else Q false H1
abbrev Qv(t u:TT):TT:=λσ H Q=>t σ H λc H1=>if c=true then Q true H1 else u σ H1 Q
abbrev Ej(t:TT):TT:=λσ H Q=>t σ H λc H1=>Q (!c) H1
def Kt(ha:PT X a tA):PW X (.BoolOp .And [a] pos) tA:=by
 intro wh pins s σ H Q I h;refine isTrue_and (cW (ha pins s σ H Q I h) λc s1 e=>?_);cases c with
 |true=>exact isTrue_and_nil e
 |false=>exact e
def Ek(ha:PT X a tA):PW X (.BoolOp .Or [a] pos) tA:=by
 intro wh pins s σ H Q I h;refine isTrue_or (cW (ha pins s σ H Q I h) λc s1 e=>?_);cases c with
 |false=>exact isTrue_or_nil e
 |true=>exact e
def Ku(ha:PT X a tA)(hb:PW X (.BoolOp .And (b :: rest) pos) Ks):PW X (.BoolOp .And (a :: b :: rest) pos) (Ei tA Ks):=by
 intro wh pins s σ H Q I h;refine isTrue_and (cW (ha pins s σ H _ I h) λc s1 ⟨H1,I1,q1⟩=>?_);cases c with
 |true=>exact hb wh pins s1 σ H1 Q I1 q1
 |false=>exact⟨H1,I1,q1⟩
def yf(ha:PT X a tA)(hb:PW X (.BoolOp .Or (b :: rest) pos) Ks):PW X (.BoolOp .Or (a :: b :: rest) pos) (Qv tA Ks):=by
 intro wh pins s σ H Q I h;refine isTrue_or (cW (ha pins s σ H _ I h) λc s1 ⟨H1,I1,q1⟩=>?_);cases c with
 |true=>exact⟨H1,I1,q1⟩
 |false=>exact hb wh pins s1 σ H1 Q I1 q1
def Kv(ha:PT X a tA):PT X (.UnaryOp .Not a pos) (Ej tA):=by intro pins s σ H Q I h;exact isTrue_not (ha pins s σ H (λc H1=>Q (!c) H1) I h)
abbrev yg(ta tb:TE):TE:=λσ H Q=>ta σ H λx H1=>∃c,x=.bl c/\if c=true then tb σ H1 Q else Q (.bl false) H1
abbrev El(ta tb:TE):TE:=λσ H Q=>ta σ H λx H1=>∃c,x=.bl c/\if c=true then Q (.bl true) H1 else tb σ H1 Q
def MZ{op}(h:PE X a t):PE X (.BoolOp op [a] pos) t:=λpins s σ H Q I hw=>BoolOp_one (h pins s σ H Q I hw)
def Qw(ha:PE X a ta)(hb:PE X (.BoolOp .And (b :: rest) pos) tb):PE X (.BoolOp .And (a :: b :: rest) pos) (yg ta tb):=by
 intro pins s σ H Q I h;refine BoolOp_and (cW (ha pins s σ H _ I h) λv s1 ⟨x,H1,I1,r1,q1⟩=>?_);obtain⟨c,rfl,q1⟩:=q1;cases r1;refine wpAny_truthy_bool ?_;cases c with
 |true=>exact hb pins s1 σ H1 Q I1 q1
 |false=>exact⟨.bl false,H1,I1,rfl,q1⟩
def Em(ha:PE X a ta)(hb:PE X (.BoolOp .Or (b :: rest) pos) tb):PE X (.BoolOp .Or (a :: b :: rest) pos) (El ta tb):=by
 intro pins s σ H Q I h;refine BoolOp_or (cW (ha pins s σ H _ I h) λv s1 ⟨x,H1,I1,r1,q1⟩=>?_);obtain⟨c,rfl,q1⟩:=q1;cases r1;refine wpAny_truthy_bool ?_;cases c with
 |false=>exact hb pins s1 σ H1 Q I1 q1
 |true=>exact⟨.bl true,H1,I1,rfl,q1⟩
abbrev Qx(t:TT)(ta tb:TE):TE:=λσ H Q=>t σ H λc H1=>if c=true then ta σ H1 Q else tb σ H1 Q
def Wr(hc:PT X c tA)(ha:PE X a ta)(hb:PE X b tb):PE X (.IfExp c a b pos) (Qx tA ta tb):=by
 intro pins s σ H Q I h;refine wpAny_IfExp (cW (hc pins s σ H _ I h) λd s1 ⟨H1,I1,q1⟩=>?_);cases d with
 |true=>exact ha pins s1 σ H1 Q I1 q1
 |false=>exact hb pins s1 σ H1 Q I1 q1
end
abbrev j5(K:Zfr)(H:Hp)(a:Addr)(xs:List V):Prop :=
 Rd H a (.lst xs) \/
  ∃(o:Obj) (its:Array Value) (n:Nat),K.lookup a=some o/\o.cls=.type "list" /\ o.dict=none/\o.data=.seq its n/\its.size<=sizeLine/\Vals xs its.toList
abbrev eY(K:Zfr)(H:Hp)(a:Addr)(xs:List V):Prop :=
 Rd H a (.tup xs) \/
  ∃(o:Obj) (its:Array Value) (n:Nat),K.lookup a=some o/\o.cls=.type "tuple" /\ o.dict=none/\o.data=.seq its n/\its.size<=sizeLine/\Vals xs its.toList
abbrev M0:Value->Option V
 |.none=>some .non
 |.bool b=>some (.bl b)
 |.int i _=>some (.int i)
 |.str x _=>some (.str x)
 |.bytes b _=>some (.uP b)
 |.float b _=>some (.CQ b)
 |.ref a=>some (.ref a)
 |.type n=>some (.ty n)
 |_=>none
def RelV.abs(r:RelV x u):M0 u=some x:=by
 cases x with
 |non=>cases r;rfl
 |bl _=>cases r;rfl
 |int _=>obtain⟨t,rfl⟩:=r;rfl
 |str _=>obtain⟨t,rfl⟩:=r;rfl
 |uP _=>obtain⟨t,rfl⟩:=r;rfl
 |CQ _=>obtain⟨t,rfl⟩:=r;rfl
 |ref _=>cases r;rfl
 |ty _=>cases r;rfl
def RelV.inj{x y:V}{u:Value}(r:RelV x u)(q:RelV y u):x=y:=Zar (r.abs.symm.trans q.abs)
def Vals.inj:∀{xs ys:List V} {us:List Value},Vals xs us->Vals ys us->xs=ys
 |_,_,_,.nil,.nil=>rfl
 |_,_,_,.cons r t,.cons r' t'=>by rw[r.inj r',Vals.inj t t']
section
variable {X:Cx}{pins:List (Addr×Obj)}{σ:St}{H:Hp}{s:Shared}{a:Addr}{xs ys:List V}
def eY.of{K:Zfr}(h:H a=some (.tup xs)):eY K H a xs:=.inl (.inl h)
def Inv.list(I:Inv X pins σ H s)(h:j5 X.K H a xs):∃its:List Value,Vals xs its/\PlainL s.heap a its.toArray/\xs.length<=sizeLine:=by
 rcases h with h|⟨o,its,n,hk,hc,hd,hs,hz,r⟩
 obtain⟨z,its,n,r,e⟩:=h.ok I.hok;exact⟨its,r,⟨_,n,e,rfl,rfl,rfl⟩,z⟩;refine⟨its.toList,r,⟨o,n,I.CW a o hk,hc,hd,by simpa using hs⟩,?_⟩;have e:=r.length;simp only[Zcl]at e;lk
def Inv.qE(I:Inv X pins σ H s)(h:eY X.K H a xs):∃its:List Value,Vals xs its/\qB s.heap a its.toArray/\xs.length<=sizeLine:=by
 rcases h with h|⟨o,its,n,hk,hc,hd0,hs,hz,r⟩
 obtain⟨z,its,r,p⟩:=h.ok I.hok;exact⟨its,r,p,z⟩;refine⟨its.toList,r,⟨o,I.CW a o hk,hc,hd0,n,by simpa using hs⟩,?_⟩;have e:=r.length;simp only[Zcl]at e;lk
def Inv.tuple(I:Inv X pins σ H s)(h:eY X.K H a xs):∃its:List Value,Vals xs its/\IsTup s.heap a its.toArray/\xs.length<=sizeLine :=
 let ⟨its,r,p,z⟩:=I.qE h
 ⟨its,r,p.tup,z⟩
def Inv.rB(I:Inv X pins σ H s)(h:j5 X.K H a xs)(h':j5 X.K H a ys):xs=ys:=by
 obtain⟨its,r,⟨o,n,e,_,_,d⟩,_⟩:=I.list h;obtain⟨its',r',⟨o',n',e',_,_,d'⟩,_⟩:=I.list h';rw[e]at e';cases e';rw[d]at d';injection d' with d1 _;have:its=its':=by simpa using congrArg Array.toList d1
 subst this;exact r.inj r'
def Inv.j6(I:Inv X pins σ H s)(h:eY X.K H a xs)(h':eY X.K H a ys):xs=ys:=by
 obtain⟨its,r,⟨o,e,_,n,d⟩,_⟩:=I.tuple h;obtain⟨its',r',⟨o',e',_,n',d'⟩,_⟩:=I.tuple h';rw[e]at e';cases e';rw[d]at d';injection d' with d1 _;have:its=its':=by simpa using congrArg Array.toList d1
 subst this;exact r.inj r'
end
@[reducible]def Cx.wish(X:Cx)(E:Value->Shared->Prop):Cx:={ X with xe:=E }
@[reducible]def Cx.pb(X:Cx):Cx:=X.wish λ_ _=>False
def Cx.Ok.wish{X:Cx}(ok:X.Ok)(E:Value->Shared->Prop):(X.wish E).Ok :=
 ⟨ok.mod,ok.kind,ok.glob,ok.blt,ok.above,ok.inj,ok.has,ok.Ed,ok.hd,ok.frames,ok.stk,ok.Qq,ok.bs,ok.yd,ok.uQ,ok.xf,ok.pM,ok.CV⟩
def Cx.Ok.lL{X:Cx}{E:Value->Shared->Prop}(ok:(X.wish E).Ok):X.Ok :=
 ⟨ok.mod,ok.kind,ok.glob,ok.blt,ok.above,ok.inj,ok.has,ok.Ed,ok.hd,ok.frames,ok.stk,ok.Qq,ok.bs,ok.yd,ok.uQ,ok.xf,ok.pM,ok.CV⟩
section
variable {X:Cx}{pins:List (Addr×Obj)}{σ:St}{H:Hp}{s:Shared}{E:Value->Shared->Prop}
def Inv.wish(I:Inv X pins σ H s)(E:Value->Shared->Prop):Inv (X.wish E) pins σ H s:=⟨I.ok.wish E,I.os,I.bare,I.base,I.loc,I.cell,I.free,I.ni,I.pin,I.hok,I.len⟩
def Inv.lL(I:Inv (X.wish E) pins σ H s):Inv X pins σ H s:=⟨I.ok.lL,I.os,I.bare,I.base,I.loc,I.cell,I.free,I.ni,I.pin,I.hok,I.len⟩
def SP.lL(h:SP (X.wish E) pins D f s'):SP X pins D f s':=by
 cases f with
 |next=>obtain⟨σ',H',I,q⟩:=h;exact⟨σ',H',I.lL,q⟩
 |brk=>obtain⟨σ',H',I,q⟩:=h;exact⟨σ',H',I.lL,q⟩
 |cont=>obtain⟨σ',H',I,q⟩:=h;exact⟨σ',H',I.lL,q⟩
 |ret u=>obtain⟨v,σ',H',I,r,q⟩:=h;exact⟨v,σ',H',I.lL,r,q⟩
def tF.pb{st:List Stmt}{t:TS}(h:tF X.pb st t):tF X st t:=λpins s σ H D I hw =>
 wpAny_mono (h pins s σ H D (I.wish _) hw) (λ_ _ q=>q.lL) λ_ _ z=>False.elim z
end
section
variable {X:Cx}{st:Stmt}{rest:List Stmt}{t u:TS}{e:Expr}{te:TE}{pos:Pos}
abbrev yh:TS:=λD σ H=>D.nx σ H
abbrev En(t u:TS):TS:=λD σ H=>t { D with nx:=u D } σ H
def jN:tF X [] yh:=λ_ _ σ H _ I h=>wpAny_execs_nil ⟨σ,H,I,h⟩
def Wt(h1:PS X st t)(h2:tF X rest u):tF X (st :: rest) (En t u):=by
 intro pins s σ H D I h;refine wpAny_execs_cons (cW (h1 pins s σ H { D with nx:=u D } I h) λf s1 q=>?_);cases f with
 |next =>
  obtain⟨σ',H',I',q⟩:=q;exact h2 pins s1 σ' H' D I' q
 |ret v=>exact q
 |brk=>exact q
 |cont=>exact q
def Wu(h1:PS X st t):tF X [st] t:=by
 intro pins s σ H D I h;refine wpAny_execs_cons (cW (h1 pins s σ H D I h) λf s1 q=>?_);cases f with
 |next=>exact wpAny_execs_nil q
 |ret v=>exact q
 |brk=>exact q
 |cont=>exact q
def Inv.quiet{pins:List (Addr×Obj)}{σ:St}{H:Hp}{s:Shared}(I:Inv X pins σ H s):interactive X.env=false:=by simp[interactive,I.ok.kind]
abbrev yi(te:TE):TS:=λD σ H=>te σ H λ_ H1=>D.nx σ H1
def rY(he:PE X e te)(hs:swapsWith e none pos.line X.env=pure false:=by rfl):PS X (.Expr e pos) (yi te):=by intro pins s σ H D I h;exact wpAny_Expr_any (cW (he pins s σ H _ I h) λv s1 ⟨x,H1,I1,r1,q1⟩=>⟨σ,H1,I1,q1⟩) I.quiet hs
abbrev Eo(te:TE):TS:=λD σ H=>te σ H D.rt
def cC(he:PE X e te):PS X (.Return (some e) pos) (Eo te):=by intro pins s σ H D I h;exact wpAny_Return_some (cW (he pins s σ H _ I h) λv s1 ⟨x,H1,I1,r1,q1⟩=>⟨x,σ,H1,I1,r1,q1⟩)
abbrev Ep(c:TT)(t u:TS):TS:=λD σ H=>c σ H λb H1=>if b=true then t D σ H1 else u D σ H1
def Er{c:Expr}{a b:List Stmt}{tc:TT}(hc:PT X c tc)(ha:tF X a t)(hb:tF X b u):PS X (.If c a b pos) (Ep tc t u):=by
 intro pins s σ H D I h;refine wpAny_If (cW (hc pins s σ H _ I h) λd s1 ⟨H1,I1,q1⟩=>?_);cases d with
 |true=>exact ha pins s1 σ H1 D I1 q1
 |false=>exact hb pins s1 σ H1 D I1 q1
abbrev uT:TS:=λ_ _ _=>False
def M1:PS X st uT:=λ_ _ _ _ _ _ h=>h.elim
end
@[reducible]def TG:=V->St->Hp->(St->Hp->Prop)->Prop
@[reducible]def uU:=List V->St->Hp->(St->Hp->Prop)->Prop
abbrev PG(X:Cx)(target:Expr)(t:TG):Prop :=
 ∀(pins:List (Addr×Obj)) (s:Shared) (σ:St) (H:Hp) (v:V) (u:Value) (Q:St->Hp->Prop),Inv X pins σ H s->RelV v u->t v σ H Q ->
  wpAny (model X.prog X.w) X.A (assign target X.env u) (λ_ s'=>∃σ' H',Inv X pins σ' H' s'/\Q σ' H') X.xe s
abbrev Es(X:Cx)(ts:List Expr)(t:uU):Prop :=
 ∀(pins:List (Addr×Obj)) (s:Shared) (σ:St) (H:Hp) (vs:List V) (us:List Value) (Q:St->Hp->Prop),Inv X pins σ H s->Vals vs us->t vs σ H Q ->
  wpAny (model X.prog X.w) X.A (assignInOrder ((assignEach ts X.env).map (·.2)) us) (λ_ s'=>∃σ' H',Inv X pins σ' H' s'/\Q σ' H') X.xe s
@[reducible]def zW:=V->V->V->Hp->(Hp->Prop)->Prop
abbrev Et(X:Cx)(t:zW):Prop :=
 ∀(pins:List (Addr×Obj)) (s:Shared) (σ:St) (H:Hp) (o i v:V) (ov iv u:Value) (Q:Hp->Prop),Inv X pins σ H s->RelV o ov->RelV i iv->RelV v u->t o i v H Q ->
  wpAny (model X.prog X.w) X.A (setItem ov iv u) (λ_ s'=>∃H',Inv X pins σ H' s'/\Q H') X.xe s
section
variable {X:Cx}{pos:Pos}
abbrev rC(i:Nat):TG:=λv σ H Q=>Q (σ.set i (some v)) H
def cX(hN:X.N.Nodup)(hi:X.N[i]?=some x)(hx:Loc X.env.scope x)(hf:X.fn x=true\/X.env.scope.names.lookup x=some .local:=by first|exact .inl rfl|exact .inr rfl|assumption):PG X (.Name x pos) (rC i):=by intro pins s σ H v u Q I r h;exact wpAny_assign_Name (Kq I hN hi hx r (λs' I'=>⟨_,H,I',h⟩) hf)
abbrev Eu:uU:=λvs σ H Q=>vs=[]/\Q σ H
abbrev yj(t:TG)(u:uU):uU:=λvs σ H Q=>∃v r,vs=v :: r/\t v σ H λσ' H'=>u r σ' H' Q
def tG:Es X [] Eu:=by intro pins s σ H vs us Q I r h;obtain⟨e,h⟩:=h;subst e;cases r;exact assignInOrder_nil ⟨σ,H,I,h⟩
def mq(h1:PG X e t)(h2:Es X es u)
  (hs:(assignEach (e :: es) X.env).map (·.2)=assign e X.env :: (assignEach es X.env).map (·.2):=by rfl):Es X (e :: es) (yj t u):=by
 intro pins s σ H vs us Q I r h;obtain⟨v,vr,e1,h⟩:=h;subst e1;cases r with
 |cons r rr =>
  rw[hs];refine assignInOrder_cons (cW (h1 pins s σ H _ _ _ I r h) λ_ s1 ⟨σ1,H1,I1,q1⟩=>?_);exact h2 pins s1 σ1 H1 _ _ Q I1 rr q1
abbrev zX(K:Zfr)(n:Nat)(t:uU):TG:=λv σ H Q=>∃a xs,v=.ref a/\eY K H a xs/\xs.length=n/\t xs σ H Q
def tH{es:List Expr}{k:Nat}{t:uU}{n:Nat}(hc:X.calm=true)(h:Es X es t)
  (hn:(assignEach es X.env).length=n:=by rfl) (hst:(assignEach es X.env).findIdx? (·.1)=none:=by rfl):PG X (.Tuple es k pos) (zX X.K n t):=by
 intro pins s σ H v u Q I r hw;obtain⟨a,xs,e1,hq,hl,hw⟩:=hw;subst e1;cases r;obtain⟨its,rv,ht,hz⟩:=I.tuple hq;refine assign_Tuple_tuple (I.ok.hd hc) ht (by simp[hn,<- hl,rv.length]) hst λh' hx=>?_;have I1:Inv X pins σ H { s with heap:=h' }:=I.kept (t':=s.toks) λb o e=>hx b o (ZaR (Zay e)) e;exact h pins _ σ H xs _ Q I1 (by simpa using rv) hw
abbrev m8(to ti:TE)(t:zW):TG:=λv σ H Q=>to σ H λo H1=>ti σ H1 λi H2=>t o i v H2 λH3=>Q σ H3
def CZ(ho:PE X o to)(hi:PE X i ti)(hs:Et X t)
  (ha:∀v,assign (.Subscript o i pos) X.env v=(do
   let ov <- holding [v] (eval o X.env)
   let iv <- holding [v,ov] (eval i X.env)
   standAt pos
   holding [v,ov,iv] (setItem ov iv v)
   release [v,ov,iv] []):=by intro _;rfl):PG X (.Subscript o i pos) (m8 to ti t):=by
 intro pins s σ H v u Q I r h;rw[ha];refine wpAny_bind (wpAny_holding (cW (ho pins s σ H _ I h) λov s1 ⟨x,H1,I1,r1,q1⟩=>?_));refine wpAny_bind (wpAny_holding (cW (hi pins s1 σ H1 _ I1 q1) λiv s2 ⟨y,H2,I2,r2,q2⟩=>?_));refine wpAny_bind (wpAny_standAt (wpAny_bind (wpAny_holding (cW (hs pins s2 σ H2 x y v ov iv u _ I2 r1 r2 r q2) λ_ s3 ⟨H3,I3,q3⟩=>?_))));exact wpAny_release ⟨σ,H3,I3,q3⟩
abbrev xh(te:TE)(g:TG):TS:=λD σ H=>te σ H λx H1=>g x σ H1 D.nx
def uH(he:PE X e te)(hg:PG X tg g)(hs:swapsWithSole [tg] e pos.line X.env=pure false:=by rfl)(hw:swappedStores [tg] e X.env=pure none:=by rfl)
  (h1:(assignEach [tg] X.env).map (·.2)=[assign tg X.env]:=by rfl):PS X (.Assign [tg] e pos) (xh te g):=by
 intro pins s σ H D I h;refine wpAny_Assign_stores (cW (he pins s σ H _ I h) λv s1 ⟨x,H1,I1,r1,q1⟩=>?_) hs hw;rw[h1];exact cW (hg pins s1 σ H1 x v _ I1 r1 q1) λ_ s2 q=>q
def zY{i:Nat}{x:Str}{e:Expr}{te:TE}{pos':Pos}(hN:X.N.Nodup)(hi:X.N[i]?=some x)(hx:Loc X.env.scope x)(he:PE X e te)(hs:swapsWith e (some (.Name x pos')) pos.line X.env=pure false:=by rfl)(hf:X.fn x=true\/X.env.scope.names.lookup x=some .local:=by first | exact .inl rfl | exact .inr rfl | assumption):
  PS X (.Assign [.Name x pos'] e pos) (xh te (rC i)):=by
 intro pins s σ H D I h;refine wpAny_Assign_Name (cW (he pins s σ H _ I h) λv s1 ⟨y,H1,I1,r1,q1⟩=>?_) hs;exact Kq I1 hN hi hx r1 (λs2 I2=>⟨_,H1,I2,q1⟩) hf
abbrev Ew(i j:Nat)(ta:TA):TS:=λD σ H=>ta σ H λvs H1=>∃v w,vs=[v,w]/\D.nx ((σ.set i (some v)).set j (some w)) H1
def C0{kt k2 M3}(hc:X.calm=true)(hN:X.N.Nodup)(hi:X.N[i]?=some x)(hj:X.N[j]?=some y)(hij:i≠j)
  (hx:X.env.scope.names.lookup x=some .local) (hy:X.env.scope.names.lookup y=some .local) (ha:PA X [a,b] ta)
  (hw:swappedStores [.Tuple [.Name x px,.Name y py] kt pt] (.Tuple [a,b] k2 M3) X.env=pure (some [x,y]))
  (hs:swapsWithSole [.Tuple [.Name x px,.Name y py] kt pt] (.Tuple [a,b] k2 M3) pos.line X.env=pure false:=by rfl) :
  PS X (.Assign [.Tuple [.Name x px,.Name y py] kt pt] (.Tuple [a,b] k2 M3) pos) (Ew i j ta):=by
 intro pins s σ H D I h;rw[exec_Assign_arm];refine wpAny_bind (wpAny_standAt ?_);rw[hs];refine wpAny_bind (wpAny_pure ?_);rw[if_neg ∅];refine wpAny_bind (Tuple_ (cW (ha _ pins s σ H _ I h) λus s1 ⟨vs,H1,I1,r1,q1⟩=>?_));obtain⟨v,w,e1,q1⟩:=q1;subst e1;obtain⟨u1,u2,rfl,rv,rw'⟩:∃u1 u2,us=[u1,u2]/\RelV v u1/\RelV w u2:=by
  cases r1 with
  |cons p q =>
   cases q with
   |cons p' q' =>
    cases q';exact⟨_,_,rfl,p,p'⟩
 refine wpAny_newObj_type ?_ (by show 2<=sizeLine;decide);have I2:Inv X pins σ H1 { s1 with heap:=s1.heap.push { cls:=.type "tuple",data:=.seq [u1,u2].toArray } }:=I1.kept (t':=s1.toks) λb o e=>Zaf _ e;rw[hw];refine wpAny_bind (wpAny_pure ?_);show wpAny (model X.prog X.w) X.A (do rule "assign.swapped-stores";let items <- unpackItems (.ref s1.heap.objs.size) 2 none;assignInOrder [λv=>bindName X.env y v,λv=>bindName X.env x v] items.reverse;pure Flow.next) _ _ _;refine wpAny_bind (wpAny_rule (wpAny_bind (unpackItems_tuple (items:=#[u1,u2]) (I.ok.hd hc) (IsTup.new s1.heap _) λh' hx'=>?_)));have I3:=I2.kept (h':=h') (t':=s1.toks) λb o e=>hx' b o (ZaR (Zay e)) e;show wpAny _ _ (assignInOrder [λv=>bindName X.env y v,λv=>bindName X.env x v] [u2,u1] >>= λ_=>pure Flow.next) _ _ _;refine wpAny_bind (assignInOrder_cons (wpAny_bindName (Kq I3 hN hj (.inl hy) rw' (λs2 I4=>?_) (.inr hy))));refine assignInOrder_cons (wpAny_bindName (Kq I4 hN hi (.inl hx) rv (λs3 I5=>assignInOrder_nil (wpAny_pure ?_)) (.inr hx)));rw[List.set_comm _ _ (Ne.symm hij)]at I5;exact⟨_,H1,I5,q1⟩
end
section
variable {X:Cx}{pos:Pos}
abbrev uV(c:TT)(tb:TS):TS:=λD σ H=>∃W:Nat->St->Hp->Prop,(∃m,W m σ H)/\∀m σ H,W m σ H ->
 c σ H λb H1=>if b=true then∃N:St->Hp->Prop,(∀σ' H',N σ' H'->∃m',m' < m/\W m' σ' H')/\tb { D with nx:=N,ct:=N,bk:=D.nx } σ H1 else D.nx σ H1
def xi(hp:PassesOwn (model X.prog X.w) X.A X.env X.xe)(hc:PT X c tc)(hb:tF X body tb):PS X (.While c body [] pos) (uV tc tb):=by
 intro pins s σ H D I h;obtain⟨W,⟨m0,w0⟩,turn⟩:=h;refine wpAny_While (codeAny_whileLoop (λn s'=>∃σ' H',Inv X pins σ' H' s'/\W n σ' H') ?_ m0 ⟨σ,H,I,w0⟩);rintro n s1 ⟨σ1,H1,I1,w1⟩;refine wpAny_passesOwn hp (cW (hc pins s1 σ1 H1 _ I1 (turn n σ1 H1 w1)) λb s2 ⟨H2,I2,q2⟩=>?_);cases b with
 |true =>
  obtain⟨N,hN,q2⟩:=q2;rw[if_pos rfl];refine wpAny_passesOwn hp (cW (hb pins s2 σ1 H2 _ I2 q2) λf s3 q3=>?_);cases f with
  |next =>
   obtain⟨σ3,H3,I3,n3⟩:=q3;obtain⟨m',hm,w3⟩:=hN σ3 H3 n3;exact⟨m',hm,σ3,H3,I3,w3⟩
  |cont =>
   obtain⟨σ3,H3,I3,n3⟩:=q3;obtain⟨m',hm,w3⟩:=hN σ3 H3 n3;exact⟨m',hm,σ3,H3,I3,w3⟩
  |brk=>exact q3
  |ret v=>exact q3
 |false =>
  rw[if_neg Zam];exact wpAny_execs_nil ⟨σ1,H2,I2,q2⟩
end
set_option genInjectivity false in
structure It where
 go:Nat->Hp->Prop
 xj:Nat->Hp->V->Hp->Prop
 stop:Nat->Hp->Prop
abbrev oB(X:Cx)(pins:List (Addr×Obj))(H:Hp)(b:Addr):Prop :=
 H b=none/\b≠X.env.locals/\b ∉ X.fs/\(b∈X.ex\/X.s₀.heap.objs.size<=b)/\(∀x c,X.env.cells.lookup x=some c->c≠b)/\∀p∈X.pn ++ pins,p.1≠b
def Inv.sD{X:Cx}{pins:List (Addr×Obj)}{σ:St}{H H':Hp}{s:Shared}{b:Addr}(I:Inv X pins σ H s)(hb:s.heap.objs.size<=b)(hn:H' b=none):oB X pins H' b:=by refine⟨hn,Nat.ne_of_gt (ZaI I.lt hb),I.Ee hb,.inr (Zal I.sz hb),λx c e z=>?_,λp hp z=>?_⟩;obtain⟨v,q⟩:=I.cell x c e;exact absurd (ZaI q.lt (by rw[z];exact hb)) (Zba _);exact absurd (ZaI (Zay (I.pin p hp).1) (by rw[z];exact hb)) (Zba _)
structure Turn(P:Program)(w:World)(K:Zfr)(tg:Expr)(J:It)(fp:List Addr)(it:Addr)(tn:Nat->Heap->Prop):Prop where
 mem:it∈fp
 obj:∀i h,tn i h->∀b∈fp,∃o,h.get? b=some o/\∀v,o.data≠.cell v
 keep:∀i h h',tn i h->(∀b∈fp,∀o,h.get? b=some o->h'.get? b=some o)->tn i h'
 item:∀(X:Cx),X.prog=P->X.w=w->X.K=K->X.calm=true->∀(i:Nat) (pins:List (Addr×Obj)) (s:Shared) (σ:St) (H:Hp) (E:Value->Shared->Prop),Inv X pins σ H s->(∀b∈fp,oB X pins H b)->tn i s.heap->J.go i H ->
  wpAny (model P w) X.A (pyNext (.ref it)) (λr s1=>∃u,r=some u /\
   wpAny (model P w) X.A (letOwnedTupleGo tg (.ref it) u) (λ_ s2=>∃x H',Inv X pins σ H' s2/\RelV x u/\J.xj i H x H'/\tn (i+1) s2.heap/\∀b∈fp,H' b=none) E s1) E s
 done:∀(X:Cx),X.prog=P->X.w=w->X.K=K->X.calm=true->∀(i:Nat) (pins:List (Addr×Obj)) (s:Shared) (σ:St) (H:Hp) (E:Value->Shared->Prop),Inv X pins σ H s->(∀b∈fp,oB X pins H b)->tn i s.heap->J.stop i H ->
  wpAny (model P w) X.A (pyNext (.ref it)) (λr s1=>r=none/\Inv X pins σ H s1) E s
 self:∀(A:Around) (i:Nat) (s:Shared) (Q:Value->Shared->Prop) (E:Value->Shared->Prop),tn i s.heap->Q (.ref it) s->wpAny (model P w) A (pyIter (.ref it)) Q E s
@[reducible]def TI:=St->Hp->(It->Hp->Prop)->Prop
abbrev M4(X:Cx)(pins:List (Addr×Obj))(σ:St)(tg:Expr)(R:It->Hp->Prop)(itv:Value)(s2:Shared):Prop :=
 ∃(it:Addr) (fp:List Addr) (tn:Nat->Heap->Prop) (J:It) (H':Hp),itv=.ref it/\Inv X pins σ H' s2/\Turn X.prog X.w X.K tg J fp it tn/\tn 0 s2.heap/\(∀b∈fp,oB X pins H' b)/\R J H'
abbrev PI(X:Cx)(tg iter:Expr)(wi:TI):Prop :=
 ∀(pins:List (Addr×Obj)) (s:Shared) (σ:St) (H:Hp) (R:It->Hp->Prop),Inv X pins σ H s->wi σ H R ->
  wpAny (model X.prog X.w) X.A (eval iter X.env) (λv s1=>wpAny (model X.prog X.w) X.A (pyIter v) (M4 X pins σ tg R) X.xe s1) X.xe s
def Kw(ho:s.heap.get? it=some o)(hc:o.cls=.type n)(hd:o.data=.fields vs)
  (hn:["enumerate","zip","dict_itemiterator","dict_reverseitemiterator","odict_iterator","itertools.zip_longest","itertools.pairwise"].contains n=false) (hQ:Q () s):wpAny M A (letOwnedTupleGo tg (.ref it) u) Q E s:=by
 unfold letOwnedTupleGo;cases tg<;>first
  |exact wpAny_pure hQ
  | (cases u <;> first
    |exact wpAny_pure hQ
    | (refine wpAny_bind (wpAny_load ho ?_)
       rw[hc,hd];show wpAny M A (if(["enumerate","zip","dict_itemiterator","dict_reverseitemiterator","odict_iterator","itertools.zip_longest","itertools.pairwise"].contains n && vs[0]? == some (rawInt _))=true then _ else _) Q E s;rw[if_neg (by intro h;rw[hn,Bool.false_and]at h;cases h)]
       exact wpAny_pure hQ))
abbrev Qy(K:Zfr)(a:Addr):It :=
 ⟨λi H=>∃xs x,j5 K H a xs/\xs[i]?=some x,λi H x H'=>H'=H/\∀xs,j5 K H a xs->xs[i]?=some x,λi H=>∃xs,j5 K H a xs/\xs.length<=i⟩
abbrev Qz(K:Zfr)(a:Addr):It :=
 ⟨λi H=>∃xs x,eY K H a xs/\xs[i]?=some x,λi H x H'=>H'=H/\∀xs,eY K H a xs->xs[i]?=some x,λi H=>∃xs,eY K H a xs/\xs.length<=i⟩
abbrev Ey(lo:Int)(n:Nat):It:=⟨λi _=>i<n,λi H x H'=>H'=H/\x=.int (lo+i),λi _=>n<=i⟩
def Wv{P:Program}{w:World}{K:Zfr}{tg:Expr}(a it:Addr):Turn P w K tg (Qy K a) [it] it (λi h=>h.IsListIter it a i) where
 mem:=by simp
 obj:=λi h st b hb=>by
  have e:b=it:=by simpa using hb
  subst e;obtain⟨o,e,c,d⟩:=st;exact⟨o,e,λv z=>by rw[d]at z;cases z⟩
 keep:=λi h h' st k=>st.at λo e=>k it (by simp) o e
 item:=by
  intro X hP hw hK hc i pins s σ H E I hf st hg;subst hP hw hK;obtain⟨xs,x,hq,hx⟩:=hg;obtain⟨its,rv,p,hz⟩:=I.list hq;obtain⟨u,hu,ru⟩:=rv.get hx;obtain⟨f0,f1,f2,f3,f4,f5⟩:=hf it (by simp);refine wpAny_pyNext_list_item st p.isList (x:=u) (by simpa using hu) λh' st' sb=>?_;have I1:Inv X pins σ H { s with heap:=h' }:=I.turned (t':=s.toks) (λb o hb e=>(sb.2 b hb).trans e) f0 f1 f3 f4 f5;obtain⟨o,e,c,d⟩:=id st';exact⟨u,rfl,Kw (s:={ s with heap:=h' }) e c d ∅ ⟨x,H,I1,ru,⟨rfl,λys hy=>by rw[I.rB hy hq];exact hx⟩,st',λb hb=>(hf b hb).1⟩⟩
 done:=by
  intro X hP hw hK hc i pins s σ H E I hf st hg;subst hP hw hK;obtain⟨xs,hq,hx⟩:=hg;obtain⟨its,rv,p,hz⟩:=I.list hq;obtain⟨f0,f1,f2,f3,f4,f5⟩:=hf it (by simp);have hl:=rv.length;exact wpAny_pyNext_list_end (I.ok.hd hc) st p.isList (by simp;lk) λh' eb=>⟨rfl,I.turned (t':=s.toks) (λb o hb e=>eb b o hb e) f0 f1 f3 f4 f5⟩
 self:=λ_ _ _ _ _ st h=>wpAny_pyIter_listiter st h
def Ww{P:Program}{w:World}{K:Zfr}{tg:Expr}(a it:Addr):Turn P w K tg (Qz K a) [it] it (λi h=>h.IsTupleIter it a i) where
 mem:=by simp
 obj:=λi h st b hb=>by
  have e:b=it:=by simpa using hb
  subst e;obtain⟨o,e,c,d⟩:=st;exact⟨o,e,λv z=>by rw[d]at z;cases z⟩
 keep:=λi h h' st k=>st.at λo e=>k it (by simp) o e
 item:=by
  intro X hP hw hK hc i pins s σ H E I hf st hg;subst hP hw hK;obtain⟨xs,x,hq,hx⟩:=hg;obtain⟨its,rv,p,hz⟩:=I.tuple hq;obtain⟨u,hu,ru⟩:=rv.get hx;obtain⟨f0,f1,f2,f3,f4,f5⟩:=hf it (by simp);refine wpAny_pyNext_tuple_item st (show s.heap.IsTuple a its.toArray from p) (x:=u) (by simpa using hu) λh' st' sb=>?_;have I1:Inv X pins σ H { s with heap:=h' }:=I.turned (t':=s.toks) (λb o hb e=>(sb.2 b hb).trans e) f0 f1 f3 f4 f5;obtain⟨o,e,c,d⟩:=id st';exact⟨u,rfl,Kw (s:={ s with heap:=h' }) e c d ∅ ⟨x,H,I1,ru,⟨rfl,λys hy=>by rw[I.j6 hy hq];exact hx⟩,st',λb hb=>(hf b hb).1⟩⟩
 done:=by
  intro X hP hw hK hc i pins s σ H E I hf st hg;subst hP hw hK;obtain⟨xs,hq,hx⟩:=hg;obtain⟨its,rv,p,hz⟩:=I.tuple hq;obtain⟨f0,f1,f2,f3,f4,f5⟩:=hf it (by simp);have hl:=rv.length;exact wpAny_pyNext_tuple_end (I.ok.hd hc) st (show s.heap.IsTuple a its.toArray from p) (by simp;lk) λh' eb=>⟨rfl,I.turned (t':=s.toks) (λb o hb e=>eb b o hb e) f0 f1 f3 f4 f5⟩
 self:=λ_ _ _ _ _ st h=>wpAny_pyIter_tupleiter st h
def Wx{P:Program}{w:World}{K:Zfr}{tg:Expr}(it:Addr)(lo:Int)(n:Nat):Turn P w K tg (Ey lo n) [it] it (λi h=>IsRangeIter h it (lo+(i:Nat)*1) ((n:Int)-(i:Nat)) 1) where
 mem:=by simp
 obj:=λi h st b hb=>by
  have e:b=it:=by simpa using hb
  subst e
  exact⟨_,st,λv z=>by
   have z':Data.fields _=Data.cell v:=z
   cases z'⟩
 keep:=λi h h' st k=>k it (by simp) _ st
 item:=by
  intro X hP hw hK hc i pins s σ H E I hf st hg;subst hP hw hK;obtain⟨f0,f1,f2,f3,f4,f5⟩:=hf it (by simp);have W:=Walks.range (prog:=X.prog) (w:=X.w) (I.ok.hd hc) it lo 1 n;refine W.item i s _ _ hg st λv h' tk hv st' kk=>?_;obtain⟨t,rfl⟩:=hv;have I1:Inv X pins σ H { s with heap:=h',toks:=tk }:=I.turned (λb o hb e=>kk b o (by simpa using hb) e) f0 f1 f3 f4 f5;refine⟨_,rfl,Kw (s:={ s with heap:=h',toks:=tk }) (n:="range_iterator") st' rfl rfl ∅ ⟨.int (lo+i),H,I1,⟨t,?_⟩,⟨rfl,rfl⟩,st',λb hb=>(hf b hb).1⟩⟩;rw[ZcX]
 done:=by
  intro X hP hw hK hc i pins s σ H E I hf st hg;subst hP hw hK;obtain⟨f0,f1,f2,f3,f4,f5⟩:=hf it (by simp);exact wpAny_pyNext_range_end (I.ok.hd hc) st (by have:n<=i:=hg;lk) λh' eb=>⟨rfl,I.turned (t':=s.toks) (λb o hb e=>eb b o hb e) f0 f1 f3 f4 f5⟩
 self:=λ_ _ _ _ _ st h=>wpAny_pyIter_rangeiter st h
section
variable {X:Cx}{tg:Expr}
abbrev uW(K:Zfr)(tl:TE):TI:=λσ H R=>tl σ H λx H1=>∃a,x=.ref a/\(∃xs,j5 K H1 a xs)/\R (Qy K a) H1
abbrev Ez(K:Zfr)(tl:TE):TI:=λσ H R=>tl σ H λx H1=>∃a,x=.ref a/\(∃xs,eY K H1 a xs)/\R (Qz K a) H1
def M5(hl:PE X l tl):PI X tg l (uW X.K tl):=by
 intro pins s σ H R I h;refine cW (hl pins s σ H _ I h) λv s1 ⟨x,H1,I1,r1,q1⟩=>?_;obtain⟨a,e,⟨xs,hq⟩,q⟩:=q1;subst e;cases r1;obtain⟨its,rv,p,hz⟩:=I1.list hq;refine wpAny_pyIter_list p.isList ?_;refine⟨s1.heap.objs.size,[s1.heap.objs.size],_,_,H1,rfl,I1.kept (t':=s1.toks) λb o e=>Zaf _ e,Wv a _,⟨_,Zaw _ rfl,rfl,rfl⟩,λb hb=>?_,q⟩;have e:b=s1.heap.objs.size:=by simpa using hb
 subst e;exact I1.sD (Zag _) (I1.hok.fresh (Zag _))
def qi(hl:PE X l tl):PI X tg l (Ez X.K tl):=by
 intro pins s σ H R I h;refine cW (hl pins s σ H _ I h) λv s1 ⟨x,H1,I1,r1,q1⟩=>?_;obtain⟨a,e,⟨xs,hq⟩,q⟩:=q1;subst e;cases r1;obtain⟨its,rv,p,hz⟩:=I1.tuple hq;refine wpAny_pyIter_tuple (show s1.heap.IsTuple a its.toArray from p) ?_;refine⟨s1.heap.objs.size,[s1.heap.objs.size],_,_,H1,rfl,I1.kept (t':=s1.toks) λb o e=>Zaf _ e,Ww a _,⟨_,Zaw _ rfl,rfl,rfl⟩,λb hb=>?_,q⟩;have e:b=s1.heap.objs.size:=by simpa using hb
 subst e;exact I1.sD (Zag _) (I1.hok.fresh (Zag _))
def QA{pins:List (Addr×Obj)}{σ:St}{H:Hp}{s:Shared}{R:It->Hp->Prop}{E:Value->Shared->Prop}{lo hi:Int}{t u v:Tok}{tk:Nat}(I:Inv X pins σ H s)(h1:-(2 ^ 62)<=lo)(h2:lo<2 ^ 62)(h3:-(2 ^ 62)<=hi)(h4:hi<2 ^ 62)
  (q:R (Ey lo (hi-lo).toNat) H):wpAny (model X.prog X.w) X.A (pyIter (.ref s.heap.objs.size)) (M4 X pins σ tg R) E { s with heap:=s.heap.push { cls:=.type "range",data:=.fields #[.int lo t,.int hi u,.int 1 v] },toks:=tk }:=by
 refine wpAny_pyIter_range (IsRange.new ..) (small_one h1 h2 h3 h4) ?_;have I1:Inv X pins σ H { s with heap:=s.heap.push { cls:=.type "range",data:=.fields #[.int lo t,.int hi u,.int 1 v] },toks:=tk }:=I.kept λb o e=>Zaf _ e
 refine⟨(s.heap.push { cls:=.type "range",data:=.fields #[.int lo t,.int hi u,.int 1 v] }).objs.size,[(s.heap.push { cls:=.type "range",data:=.fields #[.int lo t,.int hi u,.int 1 v] }).objs.size],_,_,H,rfl,
  I1.kept (t':=tk) λb o e=>Zaf _ e,Wx _ lo (hi-lo).toNat,?_,λb hb=>?_,q⟩
 have e1:lo+((0:Nat):Int)*1=lo:=by simp
 have e2:(((hi-lo).toNat:Nat):Int)-((0:Nat):Int)=Builtin.Range.rangeSize lo hi 1:=by rw[rangeSize_one];split<;>lk
 show IsRangeIter _ _ (lo+((0:Nat):Int)*1) ((((hi-lo).toNat:Nat):Int)-((0:Nat):Int)) 1;rw[e1,e2];exact Zaw _ rfl;have e:b=(s.heap.push { cls:=.type "range",data:=.fields #[.int lo t,.int hi u,.int 1 v] }).objs.size:=by simpa using hb
 subst e;exact I1.sD (Zag _) (I1.hok.fresh (Zag _))
abbrev yk(ta:TA):TI:=λσ H R=>ta σ H λvs H1=>∃j:Int,vs=[.int j]/\-(2 ^ 62)<=j/\j<2 ^ 62/\R (Ey 0 j.toNat) H1
abbrev yl(ta:TA):TI:=λσ H R=>ta σ H λvs H1=>∃i j:Int,vs=[.int i,.int j]/\(-(2 ^ 62)<=i/\i<2 ^ 62/\-(2 ^ 62)<=j/\j<2 ^ 62)/\R (Ey i (j-i).toNat) H1
def rh(hg:Gl X "range")(hm:X.mg "range" = none)(ha:PA X [a] ta)(hs:starEach [a] X.env=[(false,eval a X.env)]:=by rfl):PI X tg (.Call (.Name "range" p) [a] [] pos) (yk ta):=by
 intro pins s σ H R I h;refine Call_ (zU I hg hm boot_range (PyProof.Rows.callWith_type1 (cW (ha pos pins s σ H _ I h) λus s1 ⟨vs,H1,I1,r1,q1⟩=>?_) hs rfl));obtain⟨j,e,q1,q2,q⟩:=q1;subst e;cases r1 with
 |cons r rr =>
  cases rr;obtain⟨t,rfl⟩:=r;exact call_range_1 (QA I1 ⋯ ⋯ q1 q2 (by simpa using q))
def Wy{a b:Expr}{ta:TA}{p pos:Pos}(hg:Gl X "range")(hm:X.mg "range" = none)(ha:PA X [a,b] ta)(hs:starEach [a,b] X.env=[(false,eval a X.env),(false,eval b X.env)]:=by rfl)(hs2:starEach [b] X.env=[(false,eval b X.env)]:=by rfl):
  PI X tg (.Call (.Name "range" p) [a,b] [] pos) (yl ta):=by
 intro pins s σ H R I h;refine Call_ (zU I hg hm boot_range (PyProof.Rows.callWith_type1 (cW (ha pos pins s σ H _ I h) λus s1 ⟨vs,H1,I1,r1,q1⟩=>?_) (by rw[hs,hs2]) (by rw[hs2];rfl)));obtain⟨i,j,e,⟨q1,q2,q3,q4⟩,q⟩:=q1;subst e;cases r1 with
 |cons r rr =>
  cases rr with
  |cons r' rr =>
   cases rr;obtain⟨t,rfl⟩:=r;obtain⟨t',rfl⟩:=r';exact call_range_2 (QA I1 q1 q2 q3 q4 q)
abbrev EA(wi:TI)(g:TG)(tb:TS):TS:=λD σ H=>wi σ H λJ H1=>∃W:Nat->Nat->St->Hp->Prop,(∃m,W 0 m σ H1)/\∀i m σ H,W i m σ H ->
 (J.stop i H/\D.nx σ H)\/(J.go i H/\∃N:St->Hp->Prop,(∀σ' H',N σ' H'->∃m',m' < m/\W (i+1) m' σ' H')/\∀x H',J.xj i H x H'->g x σ H' λσ2 H2=>tb { D with nx:=N,ct:=N,bk:=D.nx } σ2 H2)
abbrev pO(fp:List Addr)(h:Heap):List (Addr×Obj):=fp.filterMap λb=>(h.get? b).map λo=>(b,o)
def Kx(hb:b∈fp)(e:h.get? b=some o):(b,o)∈pO fp h:=List.mem_filterMap.mpr ⟨b,hb,by rw[e];rfl⟩
def Wz(hp:p∈pO fp h):p.1∈fp/\h.get? p.1=some p.2:=by
 obtain⟨b,hb,e⟩:=List.mem_filterMap.mp hp;cases q:h.get? b with
 |none=>rw[q]at e;cases e
 |some o =>
  rw[q]at e;have e':(b,o)=p:=Zar e;subst e';exact⟨hb,q⟩
def Inv.pinned{pins:List (Addr×Obj)}{σ:St}{H:Hp}{s:Shared}{fp:List Addr}(I:Inv X pins σ H s)(hf:∀b∈fp,oB X pins H b)(ho:∀b∈fp,∃o,s.heap.get? b=some o/\∀v,o.data≠.cell v):Inv X (pins ++ pO fp s.heap) σ H s :=
 I.o9 λp hp=>(ZaA.mp hp).elim (λz=>I.pin p (ZaN _ z)) λz=>by
  obtain⟨hb,e⟩:=Wz z;obtain⟨f0,f1,f2,_⟩:=hf p.1 hb;obtain⟨o,e',d⟩:=ho p.1 hb;rw[e]at e';cases e';exact⟨e,f0,f1,f2,d⟩
def Inv.nW{pins pl:List (Addr×Obj)}{σ:St}{H:Hp}{s:Shared}(I:Inv X (pins ++ pl) σ H s):Inv X pins σ H s:=I.o9 λp hp=>I.pin p (ZaN _ (Zbv _ hp))
def zZ{iter:Expr}{body:List Stmt}{wi:TI}{g:TG}{tb:TS}{pos:Pos}(hp:PassesOwn (model X.prog X.w) X.A X.env X.xe)(hc:X.calm=true)(hi:PI X tg iter wi)(hg:PG X tg g)(hb:tF X body tb)
  (hs:∀x,foldedSetIterable iter X.env x=pure x:=by intro _;rfl):PS X (.For tg iter body [] pos) (EA wi g tb):=by
 intro pins s σ H D I h;refine wpAny_For (cW (hi pins s σ H _ I h) λv s1 h1=>cW h1 λitv s2 h2=>?_) hs;obtain⟨it,fp,tn,J,H2,e,I2,T,st2,f2,W,⟨m0,w0⟩,turn⟩:=h2;subst e;have stat:∀{H':Hp},(∀b∈fp,H' b=none)->∀b∈fp,oB X pins H' b:=λhn b hb=>⟨hn b hb,(f2 b hb).2⟩;refine codeAny_forLoop_any (λn s'=>∃i σ' H',Inv X pins σ' H' s'/\tn i s'.heap/\(∀b∈fp,H' b=none)/\W i n σ' H') ?_ m0 ⟨0,σ,H2,I2,st2,λb hb=>(f2 b hb).1,w0⟩;rintro n s3 ⟨i,σ3,H3,I3,st3,QB,w3⟩;rcases turn i n σ3 H3 w3 with⟨stop,qn⟩|⟨go,N,hN,step⟩
 ·refine wpAny_passesOwn hp (cW (T.done X rfl rfl rfl hc i pins s3 σ3 H3 X.xe I3 (stat QB) st3 stop) λr s4 ⟨hr,I4⟩=>?_)
  subst hr;exact wpAny_execs_nil ⟨σ3,H3,I4,qn⟩
 ·refine wpAny_passesOwn hp (cW (T.item X rfl rfl rfl hc i pins s3 σ3 H3 X.xe I3 (stat QB) st3 go) λr s4 ⟨u,hr,h4⟩=>?_)
  subst hr;refine wpAny_passesOwn hp (cW h4 λ_ s5 ⟨x,H5,I5,r5,y5,qq,Ky⟩=>?_);have WA:=I5.pinned (stat Ky) (T.obj _ _ qq);refine wpAny_passesOwn hp (cW (hg _ s5 σ3 H5 x u _ WA r5 (step x H5 y5)) λ_ s6 ⟨σ6,H6,I6,q6⟩=>?_);refine wpAny_passesOwn hp (cW (hb _ s6 σ6 H6 _ I6 q6) λf s7 q7=>?_);have again:∀{σ7:St} {H7:Hp},Inv X (pins ++ pO fp s5.heap) σ7 H7 s7->N σ7 H7->∃m,m<n/\∃i σ' H',Inv X pins σ' H' s7/\tn i s7.heap/\(∀b∈fp,H' b=none)/\W i m σ' H':=λ{σ7 H7} I7 n7=>by
   obtain⟨m',hm,w7⟩:=hN σ7 H7 n7;refine⟨m',hm,i+1,σ7,H7,I7.nW,T.keep _ _ _ qq λb hb o e=>(I7.pin (b,o) (ZaN _ (ZaN _ (Kx hb e)))).1,λb hb=>?_,w7⟩;obtain⟨o,e,d⟩:=T.obj _ _ qq b hb;exact(I7.pin (b,o) (ZaN _ (ZaN _ (Kx hb e)))).2.1
  cases f with
  |next=>obtain⟨σ7,H7,I7,n7⟩:=q7;exact again I7 n7
  |cont=>obtain⟨σ7,H7,I7,n7⟩:=q7;exact again I7 n7
  |brk=>obtain⟨σ7,H7,I7,q7⟩:=q7;exact⟨σ7,H7,I7.nW,q7⟩
  |ret v=>obtain⟨x7,σ7,H7,I7,r7,q7⟩:=q7;exact⟨x7,σ7,H7,I7.nW,r7,q7⟩
end
@[reducible]def R2:=V->V->Hp->VK->Prop
abbrev mr(X:Cx)(f:Value->Value->Sem Value)(r:R2):Prop :=
 ∀(pins:List (Addr×Obj)) (s:Shared) (σ:St) (H:Hp) (x y:V) (v u:Value) (Q:VK),Inv X pins σ H s->RelV x v->RelV y u->r x y H Q ->
  wpAny (model X.prog X.w) X.A (f v u) (EP X pins σ Q) X.xe s
abbrev M6(X:Cx)(f:Value->Sem Value)(r:V->Hp->VK->Prop):Prop :=
 ∀(pins:List (Addr×Obj)) (s:Shared) (σ:St) (H:Hp) (x:V) (v:Value) (Q:VK),Inv X pins σ H s->RelV x v->r x H Q ->
  wpAny (model X.prog X.w) X.A (f v) (EP X pins σ Q) X.xe s
abbrev d7(X:Cx)(f:Value)(r:List V->Hp->VK->Prop):Prop :=
 ∀(pins:List (Addr×Obj)) (s:Shared) (σ:St) (H:Hp) (xs:List V) (us:List Value) (Q:VK),Inv X pins σ H s->Vals xs us->r xs H Q ->
  wpAny (model X.prog X.w) X.A (call f us) (EP X pins σ Q) X.xe s
abbrev EB(r:R2)(ta tb:TE):TE:=λσ H Q=>ta σ H λx H1=>tb σ H1 λy H2=>r x y H2 Q
abbrev QC(r:V->Hp->VK->Prop)(ta:TE):TE:=λσ H Q=>ta σ H λx H1=>r x H1 Q
abbrev rI(C:Int->Int->Prop)(g:Int->Int->V):R2:=λx y H Q=>∃i j,x=.int i/\y=.int j/\C i j/\Q (g i j) H
abbrev ux(g:Int->Int->V):R2:=λx y H Q=>∃i j,x=.int i/\y=.int j/\Q (g i j) H
abbrev rU(g:Int->V):V->Hp->VK->Prop:=λx H Q=>∃i,x=.int i/\Q (g i) H
section
variable {X:Cx}{a b c:Expr}{ta tb tc:TE}{pos:Pos}
def Aa(ha:PE X a ta)(hb:PE X b tb){pins:List (Addr×Obj)}{s:Shared}{σ:St}{H:Hp}{R:V->V->Hp->Prop}(I:Inv X pins σ H s)
  (h:ta σ H λx H1=>tb σ H1 λy H2=>R x y H2) {Q:Value->Shared->Prop} {f:Value->Value->Sem Value}
  (hf:∀v u s2 x y H2,Inv X pins σ H2 s2->RelV x v->RelV y u->R x y H2->wpAny (model X.prog X.w) X.A (f v u) Q X.xe s2) :
  wpAny (model X.prog X.w) X.A (eval a X.env) (λv s₁=>wpAny (model X.prog X.w) X.A (eval b X.env) (λu s₂=>wpAny (model X.prog X.w) X.A (f v u) Q X.xe s₂) X.xe s₁) X.xe s:=by
 refine cW (ha pins s σ H _ I h) λv s1 ⟨x,H1,I1,r1,q1⟩=>?_;refine cW (hb pins s1 σ H1 _ I1 q1) λu s2 ⟨y,H2,I2,r2,q2⟩=>?_;exact hf v u s2 x y H2 I2 r1 r2 q2
def bg(ho:mr X (binaryOp op) r)(ha:PE X a ta)(hb:PE X b tb):PE X (.BinOp a op b pos) (EB r ta tb):=by intro pins s σ H Q I h;exact wpAny_BinOp (Aa ha hb I h λv u s2 x y H2 I2 rx ry q=>ho pins s2 σ H2 x y v u Q I2 rx ry q)
def sE(ho:M6 X (unaryOp op) r)(ha:PE X a ta):PE X (.UnaryOp op a pos) (QC r ta):=by intro pins s σ H Q I h;exact UnaryOp_ (cW (ha pins s σ H _ I h) λv s1 ⟨x,H1,I1,r1,q1⟩=>ho pins s1 σ H1 x v Q I1 r1 q1)
def C1{f:Value->Value->Sem Value}{C:Int->Int->Prop}{g:Int->Int->Int}
  (rule:∀(i j:Int) (t u:Tok) (s:Shared) (Q:Value->Shared->Prop) (E:Value->Shared->Prop),C i j->Q (.int (g i j) s.toks) { s with toks:=s.toks+1 }->wpAny (model X.prog X.w) X.A (f (.int i t) (.int j u)) Q E s) :
  mr X f (rI C λi j=>.int (g i j)):=by
 intro pins s σ H x y v u Q I rx ry h;obtain⟨i,j,rfl,rfl,hc,q⟩:=h;obtain⟨t,rfl⟩:=rx;obtain⟨t',rfl⟩:=ry;exact rule i j t t' s _ _ hc ⟨.int (g i j),H,I.tok _,⟨_,rfl⟩,q⟩
def EC{f:Value->Value->Sem Value}{g:Int->Int->Int}
  (rule:∀(i j:Int) (t u:Tok) (s:Shared) (Q:Value->Shared->Prop) (E:Value->Shared->Prop),Q (.int (g i j) s.toks) { s with toks:=s.toks+1 }->wpAny (model X.prog X.w) X.A (f (.int i t) (.int j u)) Q E s) :
  mr X f (ux λi j=>.int (g i j)):=by
 intro pins s σ H x y v u Q I rx ry h;obtain⟨i,j,rfl,rfl,q⟩:=h;obtain⟨t,rfl⟩:=rx;obtain⟨t',rfl⟩:=ry;exact rule i j t t' s _ _ ⟨.int (g i j),H,I.tok _,⟨_,rfl⟩,q⟩
def Ab{f:Value->Value->Sem Value}{g:Int->Int->Bool}
  (rule:∀(i j:Int) (t u:Tok) (s:Shared) (Q:Value->Shared->Prop) (E:Value->Shared->Prop),Q (.bool (g i j)) s->wpAny (model X.prog X.w) X.A (f (.int i t) (.int j u)) Q E s) :
  mr X f (ux λi j=>.bl (g i j)):=by
 intro pins s σ H x y v u Q I rx ry h;obtain⟨i,j,rfl,rfl,q⟩:=h;obtain⟨t,rfl⟩:=rx;obtain⟨t',rfl⟩:=ry;exact rule i j t t' s _ _ ⟨.bl (g i j),H,I,rfl,q⟩
abbrev ED(i j:Int):Prop:=0<j/\j<1073741824
abbrev EE(i j:Int):Prop:=0<=j/\j<=1000000/\i.natAbs<2 ^ 64
abbrev uX(i j:Int):Prop:=(-(2 ^ 64)<i/\i<2 ^ 64)\/(-(2 ^ 64)<j/\j<2 ^ 64)
def uX.ok(h:uX i j):IntMulOk i j:=by
 rcases h with⟨h1,h2⟩|⟨h1,h2⟩
 exact .of_left (intBits_le_64 h1 h2);exact .of_right (intBits_le_64 h1 h2)
def nz:mr X (binaryOp .Add) (ux λi j=>.int (i+j)):=EC λ_ _ _ _ _ _ _ q=>add_int q
def uY:mr X (binaryOp .Sub) (ux λi j=>.int (i-j)):=EC λ_ _ _ _ _ _ _ q=>sub_int q
def rD:mr X (binaryOp .Mult) (rI uX λi j=>.int (i*j)):=C1 λ_ _ _ _ _ _ _ hc q=>mul_int q hc.ok
def C2:mr X (binaryOp .FloorDiv) (rI ED λi j=>.int (i / j)):=C1 λi j _ _ _ _ _ hc q=>by
 have h1:(0:Int)<j:=hc.1;have h2:j<1073741824:=hc.2;exact floordiv_int ⋯ (by rw[Int.fdiv_eq_ediv_of_nonneg i ⋯];exact q) (.inl (PyProof.noPylong_small ⋯))
def tJ:mr X (binaryOp .Mod) (rI (λ_ j=>0<j) λi j=>.int (i % j)):=C1 λi j _ _ _ _ _ hc q=>by
 have h1:(0:Int)<j:=hc;exact mod_int' ⋯ (by rw[Int.fmod_eq_emod_of_nonneg i ⋯];exact q)
def QD:mr X (binaryOp .Pow) (rI EE λi j=>.int (i ^ j.toNat)):=C1 λ_ _ _ _ _ _ _ hc q=>pow_int_small hc.1 hc.2.1 hc.2.2 q
def WB{f:Value->Sem Value}{g:Int->Int}
  (rule:∀(i:Int) (t:Tok) (s:Shared) (Q:Value->Shared->Prop) (E:Value->Shared->Prop),Q (.int (g i) s.toks) { s with toks:=s.toks+1 }->wpAny (model X.prog X.w) X.A (f (.int i t)) Q E s) :
  M6 X f (rU λi=>.int (g i)):=by
 intro pins s σ H x v Q I rx h;obtain⟨i,rfl,q⟩:=h;obtain⟨t,rfl⟩:=rx;exact rule i t s _ _ ⟨.int (g i),H,I.tok _,⟨_,rfl⟩,q⟩
def sF:M6 X (unaryOp .USub) (rU λi=>.int (-i)):=WB λ_ _ _ _ _ q=>neg_int q
end
abbrev sG:V->V->Bool
 |.non,.non=>true|.non,.int _=>true|.int _,.non=>true|.non,.bl _=>true|.bl _,.non=>true|.non,.str _=>true|.str _,.non=>true
 |.int _,.int _=>true|.bl _,.bl _=>true|.str _,.str _=>true|.uP _,.uP _=>true
 |.int _,.str _=>true|.str _,.int _=>true|.bl _,.str _=>true|.str _,.bl _=>true
 |_,_=>false
abbrev QE:R2:=λx y H Q=>sG x y=true/\Q (.bl (decide (x=y))) H
abbrev QF:R2:=λx y H Q=>sG x y=true/\Q (.bl (!decide (x=y))) H
def QG:decide (V.int i=V.int j)=(i == j):=by rw[ZbL];simp
def QH:decide (V.bl i=V.bl j)=(i == j):=by rw[ZbL];simp
def QI:decide (V.str i=V.str j)=(i == j):=by rw[ZbL];simp
def QJ:decide (V.uP i=V.uP j)=(i.toList == j.toList):=by rw[ZbL];cases i;cases j;simp
section
variable {X:Cx}{a b c:Expr}{ta tb tc:TE}{pos:Pos}
def nt{pins:List (Addr×Obj)}{σ:St}{H:Hp}{s:Shared}{Q:VK}{k k':Bool}(I:Inv X pins σ H s)(q:Q (.bl k) H)(e:k=k'):EP X pins σ Q (.bool k') s:=by subst e;exact⟨.bl k,H,I,rfl,q⟩
def o3:mr X (compareOp .Eq) QE:=by
 intro pins s σ H x y v u Q I rx ry h;obtain⟨hs,q⟩:=h;cases x with
 |non =>
  cases rx;cases y with
  |non=>cases ry;exact PySem.EqNone.eq_none_none (nt I q (by simp))
  |bl j=>cases ry;exact PySem.EqNone.eq_none_bool (nt I q (by simp))
  |int j=>obtain⟨t',rfl⟩:=ry;exact PySem.EqNone.eq_none_int (nt I q (by simp))
  |str j=>obtain⟨t',rfl⟩:=ry;exact PySem.EqNone.eq_none_str (nt I q (by simp))
  |_=>exact absurd (show false=true from hs) Zam
 |bl i =>
  cases rx;cases y with
  |non=>cases ry;exact PySem.EqNone.eq_bool_none (nt I q (by simp))
  |bl j=>cases ry;exact eq_bool (nt I q QH)
  |str j=>obtain⟨t',rfl⟩:=ry;exact PySem.EqMixed.eq_bool_str (nt I q (by simp))
  |_=>exact absurd (show false=true from hs) Zam
 |int i =>
  obtain⟨t,rfl⟩:=rx;cases y with
  |non=>cases ry;exact PySem.EqNone.eq_int_none (nt I q (by simp))
  |int j=>obtain⟨t',rfl⟩:=ry;exact eq_int (nt I q QG)
  |str j=>obtain⟨t',rfl⟩:=ry;exact PySem.EqMixed.eq_int_str (nt I q (by simp))
  |_=>exact absurd (show false=true from hs) Zam
 |str i =>
  obtain⟨t,rfl⟩:=rx;cases y with
  |non=>cases ry;exact PySem.EqNone.eq_str_none (nt I q (by simp))
  |bl j=>cases ry;exact PySem.EqMixed.eq_str_bool (nt I q (by simp))
  |int j=>obtain⟨t',rfl⟩:=ry;exact PySem.EqMixed.eq_str_int (nt I q (by simp))
  |str j=>obtain⟨t',rfl⟩:=ry;exact eq_str (nt I q QI)
  |_=>exact absurd (show false=true from hs) Zam
 |uP i =>
  obtain⟨t,rfl⟩:=rx;cases y with
  |uP j=>obtain⟨t',rfl⟩:=ry;exact PySem.W.eq_bytes (nt I q QJ)
  |_=>exact absurd (show false=true from hs) Zam
 |_=>cases y<;>exact absurd (show false=true from hs) Zam
def xk:mr X (compareOp .NotEq) QF:=by
 intro pins s σ H x y v u Q I rx ry h;obtain⟨hs,q⟩:=h;cases x with
 |non =>
  cases rx;cases y with
  |non=>cases ry;exact PySem.EqNone.ne_none_none (nt I q (by simp))
  |bl j=>cases ry;exact PySem.EqNone.ne_none_bool (nt I q (by simp))
  |int j=>obtain⟨t',rfl⟩:=ry;exact PySem.EqNone.ne_none_int (nt I q (by simp))
  |str j=>obtain⟨t',rfl⟩:=ry;exact PySem.EqNone.ne_none_str (nt I q (by simp))
  |_=>exact absurd (show false=true from hs) Zam
 |bl i =>
  cases rx;cases y with
  |non=>cases ry;exact PySem.EqNone.ne_bool_none (nt I q (by simp))
  |bl j=>cases ry;exact ne_bool (nt I q (congrArg not QH))
  |str j=>obtain⟨t',rfl⟩:=ry;exact PySem.EqMixed.ne_bool_str (nt I q (by simp))
  |_=>exact absurd (show false=true from hs) Zam
 |int i =>
  obtain⟨t,rfl⟩:=rx;cases y with
  |non=>cases ry;exact PySem.EqNone.ne_int_none (nt I q (by simp))
  |int j=>obtain⟨t',rfl⟩:=ry;exact ne_int (nt I q (congrArg not QG))
  |str j=>obtain⟨t',rfl⟩:=ry;exact PySem.EqMixed.ne_int_str (nt I q (by simp))
  |_=>exact absurd (show false=true from hs) Zam
 |str i =>
  obtain⟨t,rfl⟩:=rx;cases y with
  |non=>cases ry;exact PySem.EqNone.ne_str_none (nt I q (by simp))
  |bl j=>cases ry;exact PySem.EqMixed.ne_str_bool (nt I q (by simp))
  |int j=>obtain⟨t',rfl⟩:=ry;exact PySem.EqMixed.ne_str_int (nt I q (by simp))
  |str j=>obtain⟨t',rfl⟩:=ry;exact ne_str (nt I q (congrArg not QI))
  |_=>exact absurd (show false=true from hs) Zam
 |uP i =>
  obtain⟨t,rfl⟩:=rx;cases y with
  |uP j=>obtain⟨t',rfl⟩:=ry;exact PySem.W.ne_bytes (nt I q (congrArg not QJ))
  |_=>exact absurd (show false=true from hs) Zam
 |_=>cases y<;>exact absurd (show false=true from hs) Zam
def xl:mr X (compareOp .Lt) (ux λi j=>.bl (decide (i<j))):=Ab λ_ _ _ _ _ _ _ q=>lt_int q
def C3:mr X (compareOp .Gt) (ux λi j=>.bl (decide (j<i))):=Ab λ_ _ _ _ _ _ _ q=>gt_int q
def EF:mr X (compareOp .GtE) (ux λi j=>.bl (decide (j<=i))):=Ab λ_ _ _ _ _ _ _ q=>ge_int q
def Ac:mr X (compareOp .Is) (λx y H Q=>y=.non/\Q (.bl (decide (x=.non))) H):=by
 intro pins s σ H x y v u Q I rx ry h;obtain⟨rfl,q⟩:=h;cases ry;refine is_none_gen (nt I q ?_);cases x<;>first
  |(cases rx;rfl)
  |(obtain⟨t,rfl⟩:=rx;rfl)
def aI(b:Expr)(h:op≠.In:=by decide)(h2:op≠.NotIn:=by decide):behindInMarks op b=false:=by
 have e1:(op == CmpOp.In)=false:=by cases op<;>first|rfl|exact absurd rfl h
 have e2:(op == CmpOp.NotIn)=false:=by cases op<;>first|rfl|exact absurd rfl h2
 cases b<;>simp[behindInMarks,e1,e2]
def uZ(ho:mr X (compareOp op) r)(ha:PE X a ta)(hb:PE X b tb)(hm:behindInMarks op b=false):PE X (.Compare a [op] [b] pos) (EB r ta tb):=by intro pins s σ H Q I h;exact wpAny_Compare1 (Aa ha hb I h λv u s2 x y H2 I2 rx ry q=>ho pins s2 σ H2 x y v u Q I2 rx ry q) hm
abbrev ym(t:TE):TT:=λσ H Q=>t σ H λx H'=>∃k,x=.bl k/\Q k H'
def dA(ho:mr X (compareOp op) r)(ha:PE X a ta)(hb:PE X b tb)(hm:behindInMarks op b=false):PT X (.Compare a [op] [b] pos) (ym (EB r ta tb)):=by
 intro pins s σ H Q I h
 refine wpAny_isTrue_Compare1 (cW (ha pins s σ H _ I h) λv s1 ⟨x,H1,I1,r1,q1⟩=>cW (hb pins s1 σ H1 _ I1 q1) λu s2 ⟨y,H2,I2,r2,q2⟩ =>
  cW (ho pins s2 σ H2 x y v u _ I2 r1 r2 q2) λc s3 ⟨z,H3,I3,r3,k,e,q3⟩=>?_) hm
 subst e;cases r3;exact wpAny_truthy_bool ⟨H3,I3,q3⟩
def oC:(sizeLine:Nat)<2 ^ 63:=by rw[sizeLine_eq];decide
def vals1(r:Vals [x] us):∃u,us=[u]/\RelV x u:=by
 cases r with
 |cons r1 r2=>cases r2;exact⟨_,rfl,r1⟩
def vals2(r:Vals [x,y] us):∃u w',us=[u,w']/\RelV x u/\RelV y w':=by
 cases r with
 |cons r1 r2 =>
  cases r2 with
  |cons r3 r4=>cases r4;exact⟨_,_,rfl,r1,r3⟩
def M7:d7 X (.builtin "abs") (λxs H Q=>∃i,xs=[.int i]/\Q (.int (if i<0 then -i else i)) H):=by intro pins s σ H xs us Q I r h;obtain⟨i,rfl,q⟩:=h;obtain⟨u,rfl,t,rfl⟩:=vals1 r;exact call_abs_int λu tk=>⟨.int (if i<0 then -i else i),H,I.tok _,⟨_,rfl⟩,q⟩
def QK(hc:X.calm=true):d7 X (.builtin "max") (λxs H Q=>∃i j,xs=[.int i,.int j]/\Q (.int (if j > i then j else i)) H):=by intro pins s σ H xs us Q I r h;obtain⟨i,j,rfl,q⟩:=h;obtain⟨u,w',rfl,⟨t,rfl⟩,⟨t',rfl⟩⟩:=vals2 r;refine max_two_ints (I.ok.hd hc) λh' tk k=>⟨_,H,I.kept k,?_,q⟩;by_cases hj:j > i;rw[if_pos hj,if_pos hj];exact⟨_,rfl⟩;rw[if_neg hj,if_neg hj];exact⟨_,rfl⟩
def WC(hc:X.calm=true):d7 X (.builtin "min") (λxs H Q=>∃i j,xs=[.int i,.int j]/\Q (.int (if j<i then j else i)) H):=by intro pins s σ H xs us Q I r h;obtain⟨i,j,rfl,q⟩:=h;obtain⟨u,w',rfl,⟨t,rfl⟩,⟨t',rfl⟩⟩:=vals2 r;refine min_two_ints (I.ok.hd hc) λh' tk k=>⟨_,H,I.kept k,?_,q⟩;by_cases hj:j<i;rw[if_pos hj,if_pos hj];exact⟨_,rfl⟩;rw[if_neg hj,if_neg hj];exact⟨_,rfl⟩
def M8:d7 X (.type "int") (λxs H Q=>(∃i,xs=[.int i]/\Q (.int i) H)\/∃k,xs=[.bl k]/\Q (.int (if k then 1 else 0)) H):=by
 intro pins s σ H xs us Q I r h;rcases h with⟨i,rfl,q⟩|⟨k,rfl,q⟩
 obtain⟨u,rfl,t,rfl⟩:=vals1 r;exact call_int_int ⟨.int i,H,I,⟨_,rfl⟩,q⟩;obtain⟨u,rfl,r1⟩:=vals1 r;cases r1;exact call_int_bool ⟨.int (if k then 1 else 0),H,I.tok _,⟨_,rfl⟩,q⟩
end
structure WD(K:Zfr)(C:Addr):Prop where
 pg:PySem.W.plainGet K C Str.empty=true
 hd:PySem.W.hasDictIn K C=true
 po:PySem.W.plainOver K C=true
 sa:PySem.W.findIn K (.ref C) "__setattr__" = some (some (.builtin "object.__setattr__"))
structure rE(K:Zfr)(C:Addr)(f:Str)(v:V)(u:Value):Prop where
 at_:PySem.W.findIn K (.ref C) f=some (some u)
 rel:RelV v u
 get:PySem.W.specialIn K u "__get__" = some none
 cp:PySem.W.copiedNames.contains f=false
section
variable {X:Cx}{pins:List (Addr×Obj)}{σ:St}{H:Hp}{s:Shared}{A:Around}{E:Value->Shared->Prop}{Q:Value->Shared->Prop}{c:Value}{b:Bool}
inductive o4(K:Zfr)(H:Hp):V->Value->Prop where
 |non:o4 K H .non (.type "NoneType")
 |bl (x:Bool):o4 K H (.bl x) (.type "bool")
 |int (i:Int):o4 K H (.int i) (.type "int")
 |str (x:Str):o4 K H (.str x) (.type "str")
 |CQ (x:UInt64):o4 K H (.CQ x) (.type "float")
 |lst {a:Addr} {xs:List V} (e:H a=some (.lst xs)):o4 K H (.ref a) (.type "list")
 |pL {a:Addr} {o:Obj} {xs:List V} (e:H a=some (.pL o (.lst xs))):o4 K H (.ref a) (.type "list")
 |tup {a:Addr} {xs:List V} (e:H a=some (.tup xs)):o4 K H (.ref a) (.type "tuple")
 |dK {a:Addr} {kvs:List (Key×V)} (e:H a=some (.dK kvs)):o4 K H (.ref a) (.type "dict")
 |dT {a:Addr} {kvs:List (List Key×V)} (e:H a=some (.dT kvs)):o4 K H (.ref a) (.type "dict")
 | ins {a C dx:Addr} {fs:List (Str×V)} (e:H a=some (.ins C dx fs)) (cl:WD K C) (ha:PySem.W.findIn K (.ref C) "__class__" = some (some (.builtin "object.__class__")))
   (hn:PySem.W.specialIn K (.builtin "object.__class__") "__get__" = some (some (.builtin "getset_descriptor.__get__"))) (htk:PySem.W.takesIn K (.builtin "object.__class__")=some true)
   (hm:PySem.W.mroIn K C (.type "object")=some true):o4 K H (.ref a) (.ref C)
end
structure i9(k:Nat)(A:Around):Prop where
 hd:A.handled=none
 dp:A.depth+3*k+5<recursionLimit
 un:A.units+16*k+200<cLine
 gd:A.guards=some []
def i9.mono(r:i9 k A)(h:j<=k):i9 j A:=⟨r.hd,by have:=r.dp;lk,by have:=r.un;lk,r.gd⟩
def i9.deeper(r:i9 (k+1) A)(env:Env):i9 k (A.deeper env) :=
 ⟨r.hd,by have:=r.dp;show A.depth+1+3*k+5<_;lk,by have:=r.un;show A.units+3+16*k+200<_;lk,r.gd⟩
def i9.depth(r:i9 k A):A.depth<recursionLimit:=by have:=r.dp;lk
def i9.units(r:i9 k A):A.units+64<cLine:=by have:=r.un;lk
abbrev EG:TA:=λ_ H Q=>Q [] H
abbrev yn(ta:TE)(tr:TA):TA:=λσ H Q=>ta σ H λx H1=>tr σ H1 λxs H2=>Q (x :: xs) H2
section
variable {X:Cx}{e:Expr}{es:List Expr}{te:TE}{t:TA}{pos:Pos}
def aA:PA X [] EG:=λ_ _ _ _ H Q I h=>Calls.spliced_nil ⟨[],H,I,.nil,h⟩
def WE(ha:PE X e te)(hr:PA X es t)(hs:starEach (e :: es) X.env=(false,eval e X.env) :: starEach es X.env:=by rfl):PA X (e :: es) (yn te t):=by intro pos pins s σ H Q I h;rw[hs];show wpAny _ _ (spliced ((false,eval e X.env) :: backTo pos (starEach es X.env))) _ _ s;refine Calls.spliced_cons (cW (ha pins s σ H _ I h) λu s1 ⟨x,H1,I1,r1,q1⟩=>?_);exact cW (hr pos pins s1 σ H1 _ I1 q1) λus s2 ⟨xs,H2,I2,r2,q2⟩=>⟨x :: xs,H2,I2,.cons r1 r2,q2⟩
abbrev EH(t:TA):TE:=λσ H Q=>t σ H λxs H1=>xs.length<=sizeLine/\∀p,H1 p=none->Q (.ref p) (upd H1 p (.tup xs))
abbrev EI(t:TA):TE:=λσ H Q=>t σ H λxs H1=>xs.length<=sizeLine/\∀p,H1 p=none->Q (.ref p) (upd H1 p (.lst xs))
def dr{x1}(h:PA X es t):PE X (.Tuple es x1 pos) (EH t):=by intro pins s σ H Q I hq;refine wpAny_Tuple_spliced (cW (h pos pins s σ H _ I hq) λus s1 ⟨xs,H1,I1,r,z,q⟩=>⟨by rw[<- r.length];exact z,?_⟩);have hf:H1 s1.heap.objs.size=none:=I1.hok.fresh (Zag _);refine⟨.ref s1.heap.objs.size,upd H1 s1.heap.objs.size (.tup xs),I1.laid (t':=s1.toks) (λb u e=>Zaf _ e) (Zag _) ?_,rfl,q _ hf⟩;exact⟨z,us,r,⟨_,Zaw _ rfl,rfl,rfl,_,rfl⟩⟩
def mv(h:PA X es t):PE X (.List es pos) (EI t):=by intro pins s σ H Q I hq;refine wpAny_List_spliced (cW (h pos pins s σ H _ I hq) λus s1 ⟨xs,H1,I1,r,z,q⟩=>⟨by rw[<- r.length];exact z,?_⟩);have hf:H1 s1.heap.objs.size=none:=I1.hok.fresh (Zag _);refine⟨.ref s1.heap.objs.size,upd H1 s1.heap.objs.size (.lst xs),I1.laid (t':=s1.toks) (λb u e=>Zaf _ e) (Zag _) ?_,rfl,q _ hf⟩;exact⟨z,us,0,r,Zaw _ rfl⟩
end
@[reducible]def Sp:=List V->Hp->VK->XK->Prop
@[reducible]def tK:=List Env->Hp->Shared->XK->Value->Shared->Prop
structure xm(P:Program)(w:World)(K:Zfr)(mg:Str->Option Value)(base:Heap)(A:Around)(outer:List Env)(s:Shared)(H:Hp):Prop where
 frames:A.frames=some outer
 mod:Mod K mg base
 bs:∀b o,base.get? b=some o->s.heap.get? b=some o/\H b=none
 yd:base.objs.size<=s.heap.objs.size
 pM:s.heap.FunFrames base outer
 CV:∀b∈frs outer,H b=none
 hok:nV P w H s.heap
 bare:AllBare s.gens
abbrev CE(outer:List Env)(P:Program)(w:World)(H:Hp)(s:Shared)(Q:VK)(u:Value)(s':Shared):Prop :=
 ∃v H',s'.os=s.os/\AllBare s'.gens/\Un (frs outer) [] H H' s.heap s'.heap/\nV P w H' s'.heap/\RelV v u/\Q v H'
abbrev CR(CX:tK)(outer:List Env)(P:Program)(w:World)(H:Hp)(s:Shared)(Q:VK)(E:XK)(r:Result)(s':Shared):Prop :=
 match r with
 |.ok (.ret u)=>CE outer P w H s Q u s'
 |.ok _=>False
 |.error e=>CX outer H s E e s'
structure aE(P:Program)(w:World)(K:Zfr)(mg:Str->Option Value)(base:Heap)(CX:tK)(k:Nat)(f:Addr)(fd:FuncData)(ps:List Str)(sp:Sp):Prop where
 len:∀vs H Q E,sp vs H Q E->vs.length=ps.length
 run:∀(A:Around) (outer:List Env) (s:Shared) (H:Hp) (args:Args) (us:List Value) (vs:List V) (Q:VK) (E:XK),i9 k A->xm P w K mg base A outer s H->BindsTo s fd args (ps.zip us)->Vals vs us->sp vs H Q E ->
  codeAny (model P w) A (.call (.ref f) args) (CR CX outer P w H s Q E) s
def aE.imp{P:Program}{w:World}{K:Zfr}{mg:Str->Option Value}{base:Heap}{CX:tK}{k:Nat}{f:Addr}{fd:FuncData}{ps:List Str}{sp QL:Sp}(F:aE P w K mg base CX k f fd ps sp)
  (h:∀vs H Q E,QL vs H Q E->sp vs H Q E):aE P w K mg base CX k f fd ps QL :=
 ⟨λvs H Q E q=>F.len vs H Q E (h _ _ _ _ q),λA outer s H args us vs Q E hr he hb hv hs=>F.run A outer s H args us vs Q E hr he hb hv (h _ _ _ _ hs)⟩
section
variable {X:Cx}{pins:List (Addr×Obj)}{σ:St}{H:Hp}{s s':Shared}
def Inv.M9(I:Inv X pins σ H s):xm X.prog X.w X.K X.mg X.base X.A X.stack s H :=
 ⟨I.ok.frames,I.ok.mod,I.bs,Zal I.ok.yd I.sz,I.stack,I.tD,I.hok,I.bare⟩
def Inv.after(I:Inv X pins σ H s)(h:CE X.stack X.prog X.w H s Q u s'):EP X pins σ Q u s':=by obtain⟨v,H',os,bare,un,hok,r,q⟩:=h;obtain⟨hh,g,d,t,os'⟩:=s';obtain rfl:os'=s.os:=os;exact⟨v,H',I.call (h':=hh) (g':=g) (d':=d) (t':=t) (ch:=[]) un hok bare (λb z=>absurd z (by simp)),r,q⟩
end
abbrev rF(sp:Sp)(qr:List V)(E:XK)(t:TA):TE:=λσ H Q=>t σ H λvs H1=>sp (vs ++ qr) H1 Q E
abbrev Binds(K:Zfr)(fd:FuncData)(ps:List Str)(ds:List Value):Prop :=
 ∀(s:Shared) (us:List Value),K.In s.heap->(us ++ ds).length=ps.length->BindsTo s fd ⟨us,[]⟩ (ps.zip (us ++ ds))
def Binds.all{K:Zfr}{fd:FuncData}{ps:List Str}(h:∀us:List Value,us.length=ps.length->bindArgs fd ⟨us,[]⟩=pure (ps.zip us)):Binds K fd ps []:=λs us _ hl=>by
 rw[ZaZ]at hl ⊢;exact .of_eq (h us hl)
abbrev Passes(CX:tK)(X:Cx)(E:XK):Prop:=∀(pins:List (Addr×Obj)) (σ:St) (H:Hp) (s:Shared) (e:Value) (s':Shared),Inv X pins σ H s->CX X.stack H s E e s'->X.xe e s'
section
variable {X:Cx}{CX:tK}{k:Nat}{f C:Addr}{fd:FuncData}{ps:List Str}{sp:Sp}{qr:List V}{ds:List Value}{E:XK}{x m:Str}{p pos apos:Pos}{e o:Expr}{es:List Expr}{ta:TE}{t:TA}
def Ad{pins:List (Addr×Obj)}{σ:St}{H:Hp}{s:Shared}{Q:VK}{us:List Value}{vs:List V}(F:aE X.prog X.w X.K X.mg X.base CX k f fd ps sp)(hr:i9 k X.A)(hb:Binds X.K fd ps ds)(hd:Vals qr ds)(hx:Passes CX X E)
  (I:Inv X pins σ H s) (r:Vals vs us) (h:sp (vs ++ qr) H Q E):wpAny (model X.prog X.w) X.A (call (.ref f) us) (EP X pins σ Q) X.xe s:=by
 have r2:Vals (vs ++ qr) (us ++ ds):=r.append hd;have hl:(us ++ ds).length=ps.length:=by rw[<- r2.length];exact F.len _ _ _ _ h
 refine wpAny_call (codeAny_mono (F.run X.A X.stack s H ⟨us,[]⟩ (us ++ ds) (vs ++ qr) Q E hr I.M9 (hb s us I.CW hl) r2 h) λr s' hq=>?_);cases r with
 |error e=>exact hx pins σ H s e s' I hq
 |ok fl =>
  cases fl with
  |ret u=>exact I.after hq
  |next=>exact False.elim hq
  |brk=>exact False.elim hq
  |cont=>exact False.elim hq
def QM(F:aE X.prog X.w X.K X.mg X.base CX k f fd ps sp)(hr:i9 k X.A)(hg:Gl X x)(hm:X.mg x=some (.ref f))(hk:PySem.W.keepIn X.K (.ref f)=true)(hb:Binds X.K fd ps ds)(hd:Vals qr ds)(hx:Passes CX X E)
  (ha:PA X (e :: es) t) (hdb:(x == ("__debug__" : Str))=false:=by decide) (he:starEach (e :: es) X.env=(false,eval e X.env) :: starEach es X.env:=by rfl) (hpl:(backTo pos (starEach es X.env)).any (·.1)=false:=by rfl) :
  PE X (.Call (.Name x p) (e :: es) [] pos) (rF sp qr E t):=by
 intro pins s σ H Q I h;refine wpAny_Call_Name_kw (Qu I hg hm ?_ hdb);refine PySem.W.callWith_K (h₀:=X.base) I.ok.mod.MU hk (cW (ha pos pins s σ H _ I h) λus s1 ⟨vs,H1,I1,r,q⟩=>⟨I1.CW,?_⟩) he hpl;exact Ad F hr hb hd hx I1 r q
structure Mk(K:Zfr)(C f:Addr):Prop where
 makes:PySem.W.makesIn K C=true
 init:PySem.W.findIn K (.ref C) "__init__" = some (some (.ref f))
 fn:PySem.W.isFn K (.ref f)=true
 kp:PySem.W.keepIn K (.ref C)=true
end
structure aB(N P:List Str)(sc:Scope):Prop where
 kind:sc.kind=.function
 co:sc.isCoroutine=false
 gen:sc.isGenerator=false
 nd:N.Nodup
 pre:N.take P.length=P
 par:∀x∈P,sc.names.lookup x=some .local\/sc.names.lookup x=some .cell
 Ae:∀y∈sc.names,y.2≠.free
def QN{kindOf:Str->Option NameKind}{x:Str}:∀{binds:List (Str×Value)} {m:Str->Option Value},(∀v,(x,v) ∉ binds)->bindL kindOf binds m x=m x
 |[],_,_=>rfl
 |(n,v) :: r,m,h=>by
  unfold bindL;rw[QN λw hw=>h w (Zas _ hw)];split
  have:x≠n:=by rintro rfl;exact h v Zaj
  simp[this];rfl
def QO{kindOf:Str->Option NameKind}{x:Str}:∀{binds:List (Str×Value)} {m:Str->Option Value},(∀v,(x,v) ∉ binds)->bindC kindOf binds m x=m x
 |[],_,_=>rfl
 |(n,v) :: r,m,h=>by
  unfold bindC;rw[QO λw hw=>h w (Zas _ hw)];split;rfl
  have:x≠n:=by rintro rfl;exact h v Zaj
  simp[this]
def QP{kindOf:Str->Option NameKind}{x:Str}{v:Value}:∀{P:List Str} {vs:List Value} {i:Nat} {m:Str->Option Value},P.Nodup->P[i]?=some x->vs[i]?=some v->kindOf x=some .local ->
  bindL kindOf (P.zip vs) m x=some v
 |[],_,_,_,_,h,_,_=>by simp at h
 |_ :: _,[],_,_,_,_,h,_=>by simp at h
 |p :: P,w :: vs,0,m,nd,h1,h2,hk=>by
  simp at h1 h2;subst h1;subst h2;show bindL kindOf ((p,w) :: P.zip vs) m p=_;unfold bindL;rw[QN λv hv=>(Zbw.mp nd).1 (List.of_mem_zip hv).1,if_pos hk];simp
 |p :: P,w :: vs,i+1,m,nd,h1,h2,hk=>by
  show bindL kindOf ((p,w) :: P.zip vs) m x=_;unfold bindL;exact QP (i:=i) (Zbw.mp nd).2 (by simpa using h1) (by simpa using h2) hk
def QQ{kindOf:Str->Option NameKind}{x:Str}{v:Value}:∀{P:List Str} {vs:List Value} {i:Nat} {m:Str->Option Value},P.Nodup->P[i]?=some x->vs[i]?=some v->kindOf x≠some .local ->
  bindC kindOf (P.zip vs) m x=some v
 |[],_,_,_,_,h,_,_=>by simp at h
 |_ :: _,[],_,_,_,_,h,_=>by simp at h
 |p :: P,w :: vs,0,m,nd,h1,h2,hk=>by
  simp at h1 h2;subst h1;subst h2;show bindC kindOf ((p,w) :: P.zip vs) m p=_;unfold bindC;rw[QO λv hv=>(Zbw.mp nd).1 (List.of_mem_zip hv).1,if_neg hk];simp
 |p :: P,w :: vs,i+1,m,nd,h1,h2,hk=>by
  show bindC kindOf ((p,w) :: P.zip vs) m x=_;unfold bindC;exact QQ (i:=i) (Zbw.mp nd).2 (by simpa using h1) (by simpa using h2) hk
abbrev start(N:List Str)(vs:List V):St:=vs.map some ++ List.replicate (N.length-vs.length) none
abbrev gE(CX:tK)(P:Program)(w:World)(K:Zfr)(mg:Str->Option Value)(base:Heap)(N:List Str)(qual:Str)(scope:Scope)(f:Addr)(cd:Value)(A:Around)(outer:List Env)(s:Shared)(H:Hp)(E:XK):Cx where
 prog:=P
 w:=w
 K:=K
 mg:=mg
 base:=base
 A:=A.deeper (envOfC qual scope s.heap.objs.size f cd)
 N:=N
 s₀:=s
 H₀:=H
 env:=envOfC qual scope s.heap.objs.size f cd
 outer:=outer
 stack:=envOfC qual scope s.heap.objs.size f cd :: outer
 ex:=[]
 calm:=true
 fn:=λ_=>true
 pn:=[]
 xe:=λe s'=>wpAny (model P w) (A.deeper (envOfC qual scope s.heap.objs.size f cd)) («leaving» (envOfC qual scope s.heap.objs.size f cd) e) (λ_ s''=>CX outer H s E e s'') (λe' s''=>CX outer H s E e' s'') s'
def QR{sc:Scope}{n:Nat}{x:Str}(h:sc.names.lookup x=some .cell):∃c,(cellsFrom n sc.names []).lookup x=some c:=by have q:=PySem.W.cellsFrom_some sc.names n [] (.inl h);exact ZbX.mp q
def WG{CX:tK}{P:Program}{w:World}{K:Zfr}{mg:Str->Option Value}{base:Heap}{N ps:List Str}{qual:Str}{scope:Scope}{f:Addr}{cd:Value}{A:Around}{outer:List Env}{s s1:Shared}{H:Hp}{E:XK}{us:List Value}{vs:List V}
  (S:aB N ps scope) (hd:A.handled=none) (e0:xm P w K mg base A outer s H) (hl:vs.length=ps.length) (r:Vals vs us)
  (x:InCallC s s.heap.objs.size (bindL (envOfC qual scope s.heap.objs.size f cd).kindOf (ps.zip us) λ_=>none) (cellsFrom (s.heap.objs.size+1) scope.names []) (bindC (envOfC qual scope s.heap.objs.size f cd).kindOf (ps.zip us) λ_=>none) s1) :
  Inv (gE CX P w K mg base N qual scope f cd A outer s H E) [] (start N vs) H s1:=by
 have hpl:ps.length<=N.length:=by have:=congrArg List.length S.pre;rw[ZbH]at this;lk
 obtain⟨h1,tk,rfl,hk⟩:=x.done;have EJ:∀b:Addr,b ∉ (gE CX P w K mg base N qual scope f cd A outer s H E).ex:=λb z=>absurd (show b∈([]:List Addr)from z) (by simp)
 refine⟨⟨e0.mod,S.kind,rfl,rfl,Zag _,λy z c h1 h2=>?_,λy hy=>?_,λy c _ h=>?_,λ_=>hd,Around.frames_deeper e0.frames,.inr ⟨rfl,rfl⟩,λb z=>absurd z (EJ b),e0.bs,e0.yd,λb _ _=>EJ b,λb z=>absurd z (EJ b),e0.pM,e0.CV⟩,
  rfl,e0.bare,Un.kept hk,⟨_,x.toInCall.ns,λi y v h1 h2 h3=>?_⟩,λy c h=>⟨_,x.cell y c h⟩,e0.hok.fresh (Zag _),λy c h=>?_,λp hp=>absurd (show p∈([]:List (Addr×Obj))from hp) (by simp),e0.hok.kept hk,?_⟩
 exact name_of_addr x.apart (PySem.mem_of_lookup h1) (PySem.mem_of_lookup h2);have hy:scope.names.lookup y=some .cell\/scope.names.lookup y=some .free:=hy;rcases hy with hy|hy
 exact QR hy;exact absurd rfl (S.Ae _ (PySem.mem_of_lookup hy));exact Zbp (x.above y c (PySem.mem_of_lookup h));have hi:i < vs.length:=by
  unfold start at h2;by_cases hi:i<vs.length;exact hi;rw[Zax (by simpa using hi)]at h2;rw[Zb6]at h2;split at h2<;>cases h2
 have ha:vs[i]?=some v:=by
  unfold start at h2;rw[Zap (by simpa using hi),Zad]at h2;cases e:vs[i]? with
  |none=>rw[e]at h2;cases h2
  |some a=>rw[e]at h2;cases h2;rfl
 obtain⟨u,hu,rv⟩:=r.get ha;have hp:ps[i]?=some y:=by
  rw[<- S.pre,List.getElem?_take_of_lt ⋯];exact h1
 have QS:ps.Nodup:=by rw[<- S.pre];exact S.nd.sublist (List.take_sublist _ _)
 refine⟨u,rv,?_⟩;rcases S.par y (Zai hp)with k|k
 exact .inl ⟨k,QP QS hp hu k⟩;obtain⟨c,e⟩:=QR (n:=s.heap.objs.size+1) k;refine .inr ⟨.inl k,c,e,?_⟩;have q:=x.cell y c e;rw[QQ QS hp hu (by show scope.names.lookup y≠_;rw[k];decide)]at q;exact q;exact e0.hok.fresh (Zbp (x.above y c (PySem.mem_of_lookup h)));unfold start;show _=N.length;rw[Zae,Zaa,Zb9];lk
def yo{CX:tK}{P:Program}{w:World}{K:Zfr}{mg:Str->Option Value}{base:Heap}{k:Nat}{f:Addr}{name qual:Str}{params:Arguments}{body:List Stmt}{scope:Scope}{dV kV doc pm cdv ct oc:Value}{an od:Option Addr}
  {osl:Array (Option Value)} {N ps:List Str} {sp:Sp} (lk:K.lookup f=some ⟨oc,od,.func (PySem.W.fnOf name qual params body scope dV kV doc pm an cdv ct),osl⟩) (hcd:PySem.W.codeIn K cdv qual=true) (S:aB N ps scope)
  (len:∀vs H Q E,sp vs H Q E->vs.length=ps.length)
  (hbody:∀(A:Around) (outer:List Env) (s:Shared) (H:Hp) (vs:List V) (Q:VK) (E:XK),i9 k (A.deeper (envOfC qual scope s.heap.objs.size f cdv))->sp vs H Q E ->
   ∃t,tF (gE CX P w K mg base N qual scope f cdv A outer s H E) body t/\t { nx:=λ_ H'=>Q .non H',rt:=Q } (start N vs) H) :
  aE P w K mg base CX (k+1) f (PySem.W.fnOf name qual params body scope dV kV doc pm an cdv ct) ps sp:=by
 refine⟨len,λA outer s H args us vs Q E hr e0 hb r uI=>?_⟩;have hl:=len _ _ _ _ uI;have KX:K.In s.heap:=e0.mod.MU.keeps λb o e=>(e0.bs b o e).1;have lim:s.heap.NoLimit:=e0.mod.nolimit.keeps λb o e=>(e0.bs b o e).1;have hkind:∀y∈ps.zip us,scope.names.lookup y.1=some .local\/(scope.names.lookup y.1=some .cell/\((cellsFrom (s.heap.objs.size+1) scope.names []).lookup y.1).isSome=true):=λ⟨n,v⟩ hy=>by
  rcases S.par n (List.of_mem_zip hy).1 with q|q
  ·exact .inl q
  ·exact .inr ⟨q,PySem.W.cellsFrom_some _ _ _ (.inl q)⟩
 refine codeAny_call_function hr.depth (KX _ _ lk) rfl S.co S.gen rfl (PySem.W.codeRec_of KX hcd) (hb _ _ _ _ ?_);refine wpAny_newFunctionEnv_cells S.kind hkind λenv he s1 x=>?_;subst he;refine⟨lim.keeps x.toInCall.keep,codeAny_func ?_⟩;obtain⟨t,ht,hq⟩:=hbody A outer s H vs Q E (hr.deeper _) uI;have I:Inv (gE CX P w K mg base N qual scope f cdv A outer s H E) [] (start N vs) H s1:=WG S hr.hd e0 hl r x;refine wpAny_mono (ht [] s1 (start N vs) H _ I hq) (λfl s' hs=>?_) λe s' hs=>hs;have fin:∀{σ':St} {H':Hp} {v:V} {u:Value},Inv (gE CX P w K mg base N qual scope f cdv A outer s H E) [] σ' H' s'->RelV v u->Q v H'->CE outer P w H s Q u s' :=
  λ{σ' H' v u} J rv q=>⟨v,H',J.os,J.bare,J.base,J.hok,rv,q⟩
 cases fl with
 |ret u =>
  obtain⟨v,σ',H',J,rv,q⟩:=hs;exact fin J rv q
 |next =>
  obtain⟨σ',H',J,q⟩:=hs;exact fin (v:=V.non) (u:=Value.none) J rfl q
 |brk =>
  obtain⟨_,_,_,q⟩:=hs;exact False.elim q
 |cont =>
  obtain⟨_,_,_,q⟩:=hs;exact False.elim q
section
variable {X:Cx}{x:Str}{p pos:Pos}{e:Expr}{es:List Expr}{t:TA}{id T:String}{r:List V->Hp->VK->Prop}
abbrev Na(r:List V->Hp->VK->Prop)(t:TA):TE:=λσ H Q=>t σ H λvs H1=>r vs H1 Q
def iA(hc:d7 X (.builtin id) r)(hg:Gl X x)(hm:X.mg x=none)(hv:bootBuiltins x=some (.builtin id))(ha:PA X (e :: es) t)(hn:x≠"__name__" := by decide)(hdb:(x == ("__debug__" : Str))=false:=by decide)
  (he:starEach (e :: es) X.env=(false,eval e X.env) :: starEach es X.env:=by rfl) (hpl:(backTo pos (starEach es X.env)).any (·.1)=false:=by rfl):PE X (.Call (.Name x p) (e :: es) [] pos) (Na r t):=by
 intro pins s σ H Q I h;refine wpAny_Call_Name_kw (zU I hg hm hv ?_ hn hdb);exact PyProof.Rows.callWith_builtin1 (cW (ha pos pins s σ H _ I h) λus s1 ⟨vs,H1,I1,r1,q1⟩=>hc pins s1 σ H1 vs us Q I1 r1 q1) he hpl
def fV(hc:d7 X (.type T) r)(hg:Gl X x)(hm:X.mg x=none)(hv:bootBuiltins x=some (.type T))(ha:PA X (e :: es) t)(hn:x≠"__name__" := by decide)(hdb:(x == ("__debug__" : Str))=false:=by decide)
  (he:starEach (e :: es) X.env=(false,eval e X.env) :: starEach es X.env:=by rfl) (hpl:(backTo pos (starEach es X.env)).any (·.1)=false:=by rfl):PE X (.Call (.Name x p) (e :: es) [] pos) (Na r t):=by
 intro pins s σ H Q I h;refine wpAny_Call_Name_kw (zU I hg hm hv ?_ hn hdb);exact PyProof.Rows.callWith_type1 (cW (ha pos pins s σ H _ I h) λus s1 ⟨vs,H1,I1,r1,q1⟩=>hc pins s1 σ H1 vs us Q I1 r1 q1) he hpl
end
end L2
namespace HT
open PySem PyProof.Rows
def WH(A:Around)(s:Shared)(a:Int)(t:Tok)(c:Int)(u:Tok):∃e,SeqAt.EqAt A s (.int a t) (.int c u) e/\(e=true↔a=c) :=
 ⟨(a == c),SeqAt.EqAt.int_int a t c u,by simp⟩
section
variable {prog:Program}{w:World}{A:Around}{E:Value->Shared->Prop}{s:Shared}
def WI(ht:IsTup s.heap t vs.toArray)(hb:IsTup s.heap b ws.toArray)(hv:vs≠[])
  (h1:ws=[]->Q (.ref t) s) (h2:ws≠[]->Q (.ref s.heap.objs.size) { s with heap:=s.heap.push { cls:=.type "tuple",data:=.seq (vs ++ ws).toArray } })
  (hsz:vs.length+ws.length<=sizeLine):wpAny (model prog w) A (binaryOp .Add (.ref t) (.ref b)) Q E s:=by
 obtain⟨⟨cls,dd,data,sl⟩,ho,hc,n,hd⟩:=id ht;obtain⟨⟨Nb,dd2,data2,sl2⟩,ho2,hc2,n2,hd2⟩:=id hb;simp only at hc hd hc2 hd2;subst hc hd hc2 hd2;have e:vs.toArray ++ ws.toArray=(vs ++ ws).toArray:=by simp
 by_cases hw:ws=[];exact concat_meets ⟨_,ho,rfl⟩ ⟨_,ho2,rfl⟩ noFill_tuple_add seq_tuple_add PySem.F.slot_tuple_add PySem.F.entry_tuple_add (PySem.F.args_tuple_add_2 _ _)
  (tuple_addW1 t b vs.toArray ws.toArray n n2 dd dd2 sl sl2 (by simpa using hv) (by simp[hw])) ⟨ho,ho2,h1 hw⟩
 refine concat_meets ⟨_,ho,rfl⟩ ⟨_,ho2,rfl⟩ noFill_tuple_add seq_tuple_add PySem.F.slot_tuple_add PySem.F.entry_tuple_add (PySem.F.args_tuple_add_2 _ _)
  (tuple_addW2 t b vs.toArray ws.toArray n n2 dd dd2 sl sl2 (by simpa using hv) (by simpa using hw) (by rw[Zak,Zak];exact hsz)) ⟨ho,ho2,?_⟩
 rw[e];exact h2 hw
abbrev c4(n d:Nat):Option Int->Nat
 |none=>d
 |some v=>if v<0 then(v+(n:Int)).toNat else min v.toNat n
def WJ(n d:Nat):c4 n d none=d:=rfl
def WK(n d k:Nat):c4 n d (some (k:Int))=min k n:=by show(if(k:Int)<0 then((k:Int)+(n:Int)).toNat else min (k:Int).toNat n)=min k n;rw[if_neg ⋯,Zan]
def Af(n d:Nat)(hd:d<=n)(o:Option Int):c4 n d o<=n:=by
 cases o with
 |none=>exact hd
 |some v =>
  show(if v<0 then(v+(n:Int)).toNat else min v.toNat n)<=n;by_cases hv:v<0;rw[if_pos hv];lk;rw[if_neg hv];exact Nat.min_le_right _ _
def QT(v:Int)(n d:Nat):(if v<0 then max (v+(n:Int)) 0 else min v (n:Int))=((c4 n d (some v):Nat):Int):=by show(if v<0 then max (v+(n:Int)) 0 else min v (n:Int))=(((if v<0 then(v+(n:Int)).toNat else min v.toNat n):Nat):Int);by_cases hv:v<0;simp only[if_pos hv];lk;simp only[if_neg hv];lk
def WL(lo hi:Option Int)(n:Nat):Builtin.Slice.sliceAdjust lo hi 1 (n:Int)=(((c4 n 0 lo:Nat):Int),((c4 n n hi:Nat):Int)):=by
 have h1:¬((1:Int)<0):=by lk
 unfold Builtin.Slice.sliceAdjust;simp only[h1,if_false];refine Prod.ext ?_ ?_;cases lo with
 |none=>rfl
 |some v=>exact QT v n 0
 cases hi with
 |none=>rfl
 |some v=>exact QT v n n
def WM(i j:Nat):Builtin.Slice.slicePlaces (i:Int) (j:Int) 1=j-i:=by
 unfold Builtin.Slice.slicePlaces;have h1:(1:Int) > 0:=by lk
 simp only[h1,if_true,Int.ediv_one];split<;>lk
def QU(p:IsPart v o)(h:Q o s):wpAny (model prog w) A (Builtin.Slice.slicePartIndex v) Q E s:=by
 cases p with
 |none=>exact slicePart_none h
 |int i t=>exact slicePart_int h
def QV{sl:Addr}{vl vu:Value}{lo hi:Option Int}{n:Nat}{Q:Int×Int×Nat->Shared->Prop}(hs:s.heap.IsSliceOf sl vl vu .none)(pl:IsPart vl lo)(pu:IsPart vu hi)
  (h:Q (((c4 n 0 lo:Nat):Int),1,c4 n n hi-c4 n 0 lo) s):wpAny (model prog w) A (Builtin.Slice.sliceApplied (.ref sl) (pure (n:Int))) Q E s:=by
 obtain⟨os,hos,hcs,hds⟩:=id hs;unfold Builtin.Slice.sliceApplied Builtin.Slice.sliceFields;refine wpAny_bind (wpAny_bind (wpAny_field hos hds (x:=vl) rfl (wpAny_bind (wpAny_field hos hds (x:=vu) rfl (wpAny_bind (wpAny_field hos hds (x:=.none) rfl (wpAny_pure ?_)))))));refine wpAny_bind (slicePart_none ?_);show wpAny _ _ (if((1:Int) == 0)=true then _ else _) _ _ s;rw[if_neg ∅];refine wpAny_bind (QU pl (wpAny_bind (QU pu (wpAny_bind (wpAny_pure ?_)))));show wpAny _ _ (match Builtin.Slice.sliceAdjust lo hi 1 (n:Int)with|(lo,hi)=>pure (lo,(1:Int),Builtin.Slice.slicePlaces lo hi 1)) _ _ s;rw[WL lo hi n];show wpAny _ _ (pure (((c4 n 0 lo:Nat):Int),(1:Int),Builtin.Slice.slicePlaces ((c4 n 0 lo:Nat):Int) ((c4 n n hi:Nat):Int) 1)) _ _ s;rw[WM];exact wpAny_pure h
def WN(xs:Array Value)(i k:Nat):((List.range k).filterMap λ(m:Nat)=>xs[((i:Int)+(m:Int)*1).toNat]?).toArray=((xs.toList.drop i).take k).toArray:=by
 have e:(λ(m:Nat)=>xs[((i:Int)+(m:Int)*1).toNat]?)=λm=>xs[i+m]?:=by
  funext m
  have:((i:Int)+(m:Int)*1).toNat=i+m:=by lk
  rw[this]
 rw[e];have:=pick_run xs i k;rw[List.filterMap_map]at this;have e2:((λx=>xs[x]?) ∘ λx=>i+x)=λm=>xs[i+m]?:=rfl;rw[e2]at this;rw[this]
def WO{t sl:Addr}{items:Array Value}{vl vu:Value}{lo hi:Option Int}{Q:Value->Shared->Prop}(ht:IsTup s.heap t items)(hs:s.heap.IsSliceOf sl vl vu .none)(pl:IsPart vl lo)(pu:IsPart vu hi)
  (hw:¬(c4 items.size 0 lo=0/\c4 items.size items.size hi=items.size))
  (h:Q (.ref s.heap.objs.size) { s with heap:=s.heap.push { cls:=.type "tuple",data:=.seq ((items.toList.drop (c4 items.size 0 lo)).take (c4 items.size items.size hi-c4 items.size 0 lo)).toArray } })
  (hsz:items.size<=sizeLine):wpAny (model prog w) A (getItem (.ref t) (.ref sl)) Q E s:=by
 have tL:sizeOk (.seq ((items.toList.drop (c4 items.size 0 lo)).take (c4 items.size items.size hi-c4 items.size 0 lo)).toArray):=by
  show((items.toList.drop (c4 items.size 0 lo)).take (c4 items.size items.size hi-c4 items.size 0 lo)).toArray.size<=sizeLine;rw[Zak,ZbH,List.length_drop,Zcl];lk
 have hj:c4 items.size items.size hi<=items.size:=Af _ _ (Zag _) hi;obtain⟨os,hos,hcs,hds⟩:=id hs;have Nc:s.TypeIs (.ref sl) "slice" := ⟨os,hos,hcs⟩;unfold getItem
 try with_reducible refine wpAny_holding ?_
 first|refine wpAny_bind (wpAny_pure ?_)|skip
 refine wpAny_bind (wpAny_sequenceKey ht.typeIs ∅ ?_)
 refine wpAny_bind (wpAny_callSpecial?_slot (name:=Str.ofString "__getitem__") ht.typeIs PyProof.Rows.slot_tuple_getitem
  (wpAny_call_entry PyProof.Rows.slot_tuple_getitem ht.typeIs entry_tuple_getitem ?_ (args_tuple_getitem _ _)))
 show wpAny _ _ (Builtin.Tuple.tupleItemsOf (.ref t) >>= _) _ _ s;refine wpAny_bind (tupleItemsOf_ ht ?_);refine wpAny_bind (wpAny_typeOf Nc ?_);rw[if_pos ∅];refine wpAny_bind (QV hs pl pu ?_);have hno:¬((((c4 items.size 0 lo:Nat):Int) == 0 && (1:Int) == 1 && (c4 items.size items.size hi-c4 items.size 0 lo) == items.size)=true):=by
  intro q;rw[ZaB,ZaB]at q;have q1:((c4 items.size 0 lo:Nat):Int)=0:=eq_of_beq q.1.1;have q2:c4 items.size items.size hi-c4 items.size 0 lo=items.size:=eq_of_beq q.2;exact hw ⟨by lk,by lk⟩
 show wpAny _ _ (if(((c4 items.size 0 lo:Nat):Int) == 0 && (1:Int) == 1 && (c4 items.size items.size hi-c4 items.size 0 lo) == items.size)=true then _ else _) _ _ s;rw[if_neg hno,WN]
 first
  |exact wpAny_bind (m:=Builtin.Tuple.tupleExact _) (wpAny_newObj_type (wpAny_pure ⟨_,rfl,wpAny_pure h⟩) tL)
  |exact wpAny_bind (m:=Builtin.Tuple.tupleExact _) (wpAny_newObj_type (wpAny_bind (wpAny_pure (wpAny_pure ⟨_,rfl,wpAny_pure h⟩))) tL)
  |exact wpAny_bind (wpAny_bind (m:=Builtin.Tuple.tupleExact _) (wpAny_newObj_type (wpAny_pure (wpAny_pure ⟨_,rfl,wpAny_pure h⟩)) tL))
  |exact wpAny_bind (wpAny_bind (m:=Builtin.Tuple.tupleExact _) (wpAny_newObj_type (wpAny_pure ⟨_,rfl,wpAny_pure h⟩) tL))
end
end HT
namespace L2
open PySem PySem.Spec PyProof.Rows
@[reducible]def TO:=St->Hp->(Option Int->Hp->Prop)->Prop
abbrev PO(X:Cx)(e:Option Expr)(t:TO):Prop :=
 ∀(pins:List (Addr×Obj)) (s:Shared) (σ:St) (H:Hp) (Q:Option Int->Hp->Prop),Inv X pins σ H s->t σ H Q ->
  wpAny (model X.prog X.w) X.A (evalPart e X.env) (λu s'=>∃o H',Inv X pins σ H' s'/\IsPart u o/\Q o H') X.xe s
abbrev tM:TO:=λ_ H Q=>Q none H
abbrev yp(t:TE):TO:=λσ H Q=>t σ H λx H1=>∃i,x=.int i/\Q (some i) H1
def Nd:∀{us:List Value},Vals (ns.map V.int) us->IntsAre us ns:=by
 induction ns with
 |nil=>intro us r;rw[Za6]at r;cases r;exact .nil
 |cons n ns ih =>
  intro us r;rw[ZaD]at r;cases r with
  |cons r1 r2 =>
   obtain⟨t,e⟩:=r1;subst e;exact .cons n t (ih r2)
section
variable {X:Cx}{e:Expr}{te:TE}{lo hi:Option Expr}{tl th:TO}{pos p2:Pos}
def QW:PO X none tM:=by intro pins s σ H Q I h;rw[evalPart_none];exact wpAny_pure ⟨none,H,I,.none,h⟩
def QX(h:PE X e te):PO X (some e) (yp te):=by intro pins s σ H Q I hw;rw[evalPart_some];refine cW (h pins s σ H _ I hw) λu s1 ⟨x,H1,I1,r1,q1⟩=>?_;obtain⟨i,rfl,q⟩:=q1;obtain⟨t,rfl⟩:=r1;exact⟨some i,H1,I1,.int i t,q⟩
abbrev Kz(X:Cx)(r:V->Option Int->Option Int->Hp->VK->Prop):Prop :=
 ∀(pins:List (Addr×Obj)) (s:Shared) (σ:St) (H:Hp) (x:V) (v vl vu:Value) (lo hi:Option Int) (sl:Addr) (Q:VK),Inv X pins σ H s->RelV x v->s.heap.IsSliceOf sl vl vu .none->IsPart vl lo->IsPart vu hi->r x lo hi H Q ->
  ∃T id,typeLookup (.type T) "__getitem__" = pure (some (.builtin id))/\s.TypeIs v T/\wpAny (model X.prog X.w) X.A (getItem v (.ref sl)) (EP X pins σ Q) X.xe s
abbrev QY(r:V->Option Int->Option Int->Hp->VK->Prop)(te:TE)(tl th:TO):TE:=λσ H Q=>te σ H λx H1=>tl σ H1 λl H2=>th σ H2 λu H3=>r x l u H3 Q
def QZ(hr:Kz X r)(he:PE X e te)(hl:PO X lo tl)(hu:PO X hi th):PE X (.Subscript e (.Slice lo hi none p2) pos) (QY r te tl th):=by intro pins s σ H Q I h;refine Subscript_ (cW (he pins s σ H _ I h) λv s1 ⟨x,H1,I1,r1,q1⟩=>?_);refine wpAny_Slice (cW (hl pins s1 σ H1 _ I1 q1) λvl s2 ⟨l,H2,I2,pl,q2⟩=>cW (hu pins s2 σ H2 _ I2 q2) λvu s3 ⟨u,H3,I3,pu,q3⟩=>?_);rw[evalPart_none];refine wpAny_pure ?_;have I4:Inv X pins σ H3 { s3 with heap:=s3.heap.push { cls:=.type "slice",data:=.fields #[vl,vu,.none] } }:=I3.kept (t':=s3.toks) λb ob q=>Zaf _ q;obtain⟨T,id,hT,ht,hg⟩:=hr pins { s3 with heap:=s3.heap.push { cls:=.type "slice",data:=.fields #[vl,vu,.none] } } σ H3 x v vl vu l u s3.heap.objs.size Q I4 r1 (Heap.IsSliceOf.new ..) pl pu q3;show wpAny (model X.prog X.w) X.A (subscriptTail e (.Slice lo hi none p2) v (.ref s3.heap.objs.size)) (EP X pins σ Q) X.xe { s3 with heap:=s3.heap.push { cls:=.type "slice",data:=.fields #[vl,vu,.none] } };exact tail_any (ops:=[.ref s3.heap.objs.size,v]) ht hT hg (by with_unfolding_all rfl)
abbrev pP(xs:List V)(lo hi:Option Int):List V:=(xs.drop (HT.c4 xs.length 0 lo)).take (HT.c4 xs.length xs.length hi-HT.c4 xs.length 0 lo)
def Q0(xs:List V)(lo hi:Option Int):(pP xs lo hi).length<=xs.length:=by unfold pP;rw[ZbH,List.length_drop];lk
abbrev Nf(K:Zfr):V->Option Int->Option Int->Hp->VK->Prop:=λx lo hi H Q=>∃a xs,x=.ref a/\eY K H a xs /\
 ¬(HT.c4 xs.length 0 lo=0/\HT.c4 xs.length xs.length hi=xs.length)/\∀p,H p=none->Q (.ref p) (upd H p (.tup (pP xs lo hi)))
def Ag:Kz X (Nf X.K):=by
 intro pins s σ H x v vl vu lo hi sl Q I rx hs pl pu h;obtain⟨a,xs,rfl,hx,hw,q⟩:=h;cases rx;obtain⟨its,r,ht,hz⟩:=I.tuple hx;have hlen:its.toArray.size=xs.length:=by rw[Zak];exact r.length.symm
 refine⟨"tuple",_,PyProof.Rows.slot_tuple_getitem.lookup,ht.typeIs,?_⟩;refine HT.WO ht hs pl pu (by rw[hlen];exact hw) ?_ (by rw[hlen];exact hz);rw[hlen];refine⟨.ref s.heap.objs.size,_,I.laid (t':=s.toks) (o:=.tup (pP xs lo hi)) (λb ob q=>Zaf _ q) (Zag _) ?_,rfl,q _ (I.hok.fresh (Zag _))⟩;exact⟨Zal (Q0 xs lo hi) hz,_,(r.drop (HT.c4 xs.length 0 lo)).take (HT.c4 xs.length xs.length hi-HT.c4 xs.length 0 lo),qB.new _ _⟩
abbrev EK(K:Zfr):R2:=λx y H Q=>∃a b xs ys,x=.ref a/\y=.ref b/\eY K H a xs/\eY K H b ys/\xs≠[]/\xs.length+ys.length<=sizeLine /\
 (ys=[]->Q (.ref a) H)/\(ys≠[]->∀p,H p=none->Q (.ref p) (upd H p (.tup (xs ++ ys))))
def Vals.pd(r:Vals xs us):us=[]↔xs=[]:=by
 cases r with
 |nil=>simp
 |cons _ _=>simp
def WQ:mr X (binaryOp .Add) (EK X.K):=by intro pins s σ H x y v u Q I rx ry h;obtain⟨a,b,xs,ys,rfl,rfl,ha,hb,hx,hz,q1,q2⟩:=h;cases rx;cases ry;obtain⟨its,r1,p1,_⟩:=I.tuple ha;obtain⟨its2,r2,p2,_⟩:=I.tuple hb;refine HT.WI p1 p2 (λz=>hx (r1.pd.mp z)) (λz=>⟨.ref a,H,I,rfl,q1 (r2.pd.mp z)⟩) (λz=>?_) (by rw[<- r1.length,<- r2.length];exact hz);refine⟨.ref s.heap.objs.size,_,I.laid (t':=s.toks) (o:=.tup (xs ++ ys)) (λb ob q=>Zaf _ q) (Zag _) ?_,rfl,q2 (λw=>z (r2.pd.mpr w)) _ (I.hok.fresh (Zag _))⟩;exact⟨by rw[Zae];exact hz,_,r1.append r2,qB.new _ _⟩
end
abbrev oV(n:Nat)(i:Int):Option Nat:=if 0<=i then(if i<n then some i.toNat else none)else if -(n:Int)<=i then some (i+n).toNat else none
abbrev eZ{α:Type}(xs:List α)(i:Int):Option α:=(oV xs.length i).bind λj=>xs[j]?
def Ng(h:oV n i=some j):seqIndex? i n=some j/\j<n/\-(n:Int)<=i/\i<n:=by unfold oV at h;by_cases h0:0<=i;rw[if_pos h0]at h;by_cases h1:i<n;rw[if_pos h1]at h;have e:i.toNat=j:=Zar h;exact⟨by rw[seqIndex_of h0 h1,e],by lk,by lk,h1⟩;rw[if_neg h1]at h;cases h;rw[if_neg h0]at h;by_cases h1:-(n:Int)<=i;rw[if_pos h1]at h;have e:(i+n).toNat=j:=Zar h;exact⟨by rw[seqIndex_neg ⋯ h1,e],by lk,h1,by lk⟩;rw[if_neg h1]at h;cases h
def Q5{α:Type}{xs:List α}{i:Int}{v:α}(h:eZ xs i=some v):∃j,seqIndex? i xs.length=some j/\xs[j]?=some v/\j<xs.length/\-(xs.length:Int)<=i/\i<xs.length:=by
 unfold eZ at h;cases e:oV xs.length i with
 |none=>rw[e]at h;cases h
 |some j =>
  rw[e]at h;obtain⟨h1,h2,h3,h4⟩:=Ng e;exact⟨j,h1,h,h2,h3,h4⟩
def yq{α:Type}{xs:List α}{j:Nat}{v:α}(h:xs[j]?=some v):eZ xs (j:Int)=some v:=by
 have hj:j<xs.length:=(Zac.mp h).1;have e:oV xs.length (j:Int)=some j:=by
  unfold oV;rw[if_pos ⋯,if_pos ⋯];simp
 unfold eZ;rw[e];exact h
abbrev xn(b:Expr):Prop:=∀o i,subscripted b false o i=operate [o,i] (getItem o i)
abbrev EL(X:Cx)(r:R2):Prop :=
 ∀(value slice:Expr) (pins:List (Addr×Obj)) (s:Shared) (σ:St) (H:Hp) (x y:V) (v u:Value) (Q:VK),Inv X pins σ H s->RelV x v->RelV y u->r x y H Q ->
  subscripted slice false v u=operate [v,u] (getItem v u)->wpAny (model X.prog X.w) X.A (subscriptTail value slice v u) (EP X pins σ Q) X.xe s
abbrev yr(X:Cx)(id:String)(r:V->List V->Hp->VK->Prop):Prop :=
 ∀(pins:List (Addr×Obj)) (s:Shared) (σ:St) (H:Hp) (x:V) (xs:List V) (v:Value) (us:List Value) (Q:VK),Inv X pins σ H s->RelV x v->Vals xs us->r x xs H Q ->
  wpAny (model X.prog X.w) X.A (call (.builtin id) (v :: us)) (EP X pins σ Q) X.xe s
section
variable {X:Cx}{a b:Expr}{ta tb:TE}{pos:Pos}
def EM{r:R2}(hr:EL X r)(ha:PE X a ta)(hb:PE X b tb)(hs:xn b):PE X (.Subscript a b pos) (EB r ta tb):=by intro pins s σ H Q I h;exact Subscript_ (Aa ha hb I h λv u s2 x y H2 I2 rx ry q=>hr a b pins s2 σ H2 x y v u Q I2 rx ry q (hs _ _))
abbrev Ah(K:Zfr):R2:=λx y H Q=>∃p xs i v,x=.ref p/\y=.int i/\j5 K H p xs/\eZ xs i=some v/\Q v H
abbrev Ai(K:Zfr):R2:=λx y H Q=>∃p xs i v,x=.ref p/\y=.int i/\eY K H p xs/\eZ xs i=some v/\Q v H
def nA:EL X (Ah X.K):=by
 intro value slice pins s σ H x y v u Q I rx ry h hs;obtain⟨p,xs,i,z,rfl,rfl,hq,he,q⟩:=h;cases rx;obtain⟨t,rfl⟩:=ry;obtain⟨its,r,pl,hz⟩:=I.list hq;obtain⟨j,h1,h2,h3,h4,h5⟩:=Q5 he;obtain⟨w,ew,rw'⟩:=r.get h2;have hl:=r.length;have hn:=oC;have fin:EP X pins σ Q w s:=⟨z,H,I,rw',q⟩;by_cases h0:0<=i;have hj:i.toNat=j:=by
  rw[seqIndex_of h0 h5]at h1;exact Zar h1
 exact item_listR pl.isList h0 ⋯ (by rw[hj];simpa using ew) fin hs;have hj:(i + (its.toArray.size:Int)).toNat=j:=by
  rw[seqIndex_neg ⋯ h4]at h1;rw[Zak,<- hl];exact Zar h1
 exact subscriptTail_builtinR (x:=w) pl.isList.typeIs slot_list_getitem.lookup
  (wpAny_getItem_list_neg (Q:=λr s'=>r=w/\EP X pins σ Q r s') pl.isList ⋯ (by rw[Zak]<;>lk) ⋯ (by rw[hj];simpa using ew) ⟨rfl,fin⟩) hs
def bj:EL X (Ai X.K):=by
 intro value slice pins s σ H x y v u Q I rx ry h hs;obtain⟨p,xs,i,z,rfl,rfl,hq,he,q⟩:=h;cases rx;obtain⟨t,rfl⟩:=ry;obtain⟨its,r,pl,hz⟩:=I.tuple hq;obtain⟨j,h1,h2,h3,h4,h5⟩:=Q5 he;obtain⟨w,ew,rw'⟩:=r.get h2;have hl:=r.length;have hn:=oC;have fin:EP X pins σ Q w s:=⟨z,H,I,rw',q⟩;exact subscriptTail_builtinR (x:=w) pl.typeIs slot_tuple_getitem.lookup
  (getItem_tuple (j:=j) (Q:=λr s'=>r=w/\EP X pins σ Q r s') pl ⋯ ⋯ (by rw[Zak,<- hl];exact h1) (by simpa using ew) ⟨rfl,fin⟩) hs
def WR(its:List Value)(n j:Nat)(u:Value):Obj.mapSeq (·.setIfInBounds j u) { cls:=.type "list",data:=.seq its.toArray n }={ cls:=.type "list",data:=.seq (its.set j u).toArray n }:=by simp[Obj.mapSeq]
def Inv.lst{pins:List (Addr×Obj)}{σ:St}{H:Hp}{s:Shared}{p:Addr}{xs:List V}(I:Inv X pins σ H s)(h:H p=some (.lst xs)):
  ∃(its:List Value) (n:Nat),Vals xs its/\s.heap.get? p=some { cls:=.type "list",data:=.seq its.toArray n }/\xs.length<=sizeLine:=by
 obtain⟨z,its,n,r,e⟩:=I.hok p _ h;exact⟨its,n,r,e,z⟩
def Inv.Aj{pins:List (Addr×Obj)}{σ:St}{H:Hp}{s:Shared}{p:Addr}{xs ys:List V}{its its':List Value}{n n':Nat}{f:Obj->Obj}(I:Inv X pins σ H s)(h:H p=some (.lst xs))
  (ho:s.heap.get? p=some { cls:=.type "list",data:=.seq its.toArray n }) (hf:f { cls:=.type "list",data:=.seq its.toArray n }={ cls:=.type "list",data:=.seq its'.toArray n' }) (r:Vals ys its') (hz:ys.length<=sizeLine) (t:Nat) :
  Inv X pins σ (upd H p (.lst ys)) { s with heap:=s.heap.update p f,toks:=t }:=by
 have e:(s.heap.update p f).get? p=some { cls:=.type "list",data:=.seq its'.toArray n' }:=by
  rw[Zbb f ho (by rw[hf]<;>rfl),hf]
 refine I.write (x:=p) (e:=p) (by rw[h];trivial) (.inl rfl) (λb u hb q=>(ZaF _ _ (Ne.symm hb)).trans q) ⟨_,e⟩ ?_;exact⟨hz,its',n',r,e⟩
abbrev yt:V->V->V->Hp->(Hp->Prop)->Prop:=λo i v H Q=>∃p xs k j,o=.ref p/\i=.int k/\H p=some (.lst xs)/\oV xs.length k=some j/\Q (upd H p (.lst (xs.set j v)))
def C4:Et X yt:=by
 intro pins s σ H o i v ov iv u Q I ro ri rv h;obtain⟨p,xs,k,j,rfl,rfl,hp,hj,q⟩:=h;cases ro;obtain⟨t,rfl⟩:=ri;obtain⟨its,n,r,ho,hz⟩:=I.lst hp;obtain⟨h1,h2,h3,h4⟩:=Ng hj;have hl:=r.length;have hn:=oC;have I':Inv X pins σ (upd H p (.lst (xs.set j v))) { s with heap:=s.heap.update p (Obj.mapSeq (·.setIfInBounds j u)) } :=
  I.Aj hp ho (WR its n j u) (r.set rv j) (by rw[Zbc];exact hz) s.toks
 by_cases h0:0<=k;have hk:k.toNat=j:=by
  rw[seqIndex_of h0 h4]at h1;exact Zar h1
 exact PySem.W.ki_setAt ho h0 ⋯ (by rw[Zak,<- hl];exact h4) (by rw[hk];exact⟨_,I',q⟩);have hk:(k + (its.toArray.size:Int)).toNat=j:=by
  rw[seqIndex_neg ⋯ h3]at h1;rw[Zak,<- hl];exact Zar h1
 exact PySem.W.ki_setBack ho ⋯ (by rw[Zak,<- hl];exact h3) ⋯ (by rw[hk];exact⟨_,I',q⟩)
def WS(lo hi:Option Int)(n:Nat):(sliceBounds lo hi none n).1=((HT.c4 n 0 lo:Nat):Int)/\(sliceBounds lo hi none n).2.1=((HT.c4 n n hi:Nat):Int)/\(sliceBounds lo hi none n).2.2=1:=by
 refine⟨?_,?_,rfl⟩;cases lo with
 |none=>simp[sliceBounds,HT.c4]
 |some i =>
  simp only[sliceBounds,HT.c4,Option.getD_none,show(1:Int) > 0 by decide,if_true];by_cases h:i<0;simp only[h,if_true]<;>lk;simp only[h,if_false]<;>lk
 cases hi with
 |none=>simp[sliceBounds,HT.c4]
 |some i =>
  simp only[sliceBounds,HT.c4,Option.getD_none,show(1:Int) > 0 by decide,if_true];by_cases h:i<0;simp only[h,if_true]<;>lk;simp only[h,if_false]<;>lk
def WT(its:List Value)(lo hi:Option Int):slicePick its.toArray lo hi none=((its.drop (HT.c4 its.length 0 lo)).take (HT.c4 its.length its.length hi-HT.c4 its.length 0 lo)).toArray:=by obtain⟨h1,h2,h3⟩:=WS lo hi its.toArray.size;unfold slicePick;rw[h1,h2,h3];simp only[sliceRange_one,pick_run,Zak]<;>rfl
abbrev EN(K:Zfr):V->Option Int->Option Int->Hp->VK->Prop:=λx lo hi H Q=>∃a xs,x=.ref a/\j5 K H a xs/\∀p,H p=none->Q (.ref p) (upd H p (.lst (pP xs lo hi)))
def WU:Kz X (EN X.K):=by intro pins s σ H x v vl vu lo hi sl Q I rx hs pl pu h;obtain⟨a,xs,rfl,hx,q⟩:=h;cases rx;obtain⟨its,r,ht,hz⟩:=I.list hx;have hlen:=r.length;refine⟨"list",_,slot_list_getitem.lookup,ht.isList.typeIs,?_⟩;refine wpAny_getItem_list_slice ht.isList hs pl pu .none (by simp) ?_ (by rw[Zak]<;>lk);rw[WT,<- hlen];refine⟨.ref s.heap.objs.size,_,I.laid (t':=s.toks) (o:=.lst (pP xs lo hi)) (λb ob q=>Zaf _ q) (Zag _) ?_,rfl,q _ (I.hok.fresh (Zag _))⟩;exact⟨Zal (Q0 xs lo hi) hz,_,0,(r.drop (HT.c4 xs.length 0 lo)).take (HT.c4 xs.length xs.length hi-HT.c4 xs.length 0 lo),Zaw _ rfl⟩
abbrev nu:V->Bool
 |.non=>true
 |.bl _=>true
 |.int _=>true
 |.str _=>true
 |_=>false
abbrev yu:V->V->Bool
 |.non,.non=>true
 |.bl a,.bl b=>a == b
 |.bl a,.int b=>(if a then 1 else 0) == b
 |.int a,.bl b=>a == (if b then 1 else 0)
 |.int a,.int b=>a == b
 |.str a,.str b=>a == b
 |_,_=>false
def Ak(ry:RelV y u)(rx:RelV x v)(fy:nu y=true)(fx:nu x=true):SeqAt.EqAt A s u v (yu y x):=by
 cases y with
 |non =>
  cases ry;cases x with
  |non=>cases rx;exact SeqAt.EqAt.same _
  |bl b=>cases rx;exact SeqAt.EqAt.none_bool b
  |int b=>obtain⟨t,rfl⟩:=rx;exact SeqAt.EqAt.none_int b t
  |str b=>obtain⟨t,rfl⟩:=rx;exact SeqAt.EqAt.none_str b t
  |_=>exact absurd (show false=true from fx) Zam
 |bl a =>
  cases ry;cases x with
  |non=>cases rx;exact SeqAt.EqAt.bool_none a
  |bl b=>cases rx;exact SeqAt.EqAt.bool_bool a b
  |int b=>obtain⟨t,rfl⟩:=rx;exact SeqAt.EqAt.bool_int a b t
  |str b=>obtain⟨t,rfl⟩:=rx;exact SeqAt.EqAt.bool_str a b t
  |_=>exact absurd (show false=true from fx) Zam
 |int a =>
  obtain⟨t',rfl⟩:=ry;cases x with
  |non=>cases rx;exact SeqAt.EqAt.int_none a t'
  |bl b=>cases rx;exact SeqAt.EqAt.int_bool a t' b
  |int b=>obtain⟨t,rfl⟩:=rx;exact SeqAt.EqAt.int_int a t' b t
  |str b=>obtain⟨t,rfl⟩:=rx;exact SeqAt.EqAt.int_str a t' b t
  |_=>exact absurd (show false=true from fx) Zam
 |str a =>
  obtain⟨t',rfl⟩:=ry;cases x with
  |non=>cases rx;exact SeqAt.EqAt.str_none a t'
  |bl b=>cases rx;exact SeqAt.EqAt.str_bool a t' b
  |int b=>obtain⟨t,rfl⟩:=rx;exact SeqAt.EqAt.str_int a t' b t
  |str b=>obtain⟨t,rfl⟩:=rx;exact SeqAt.EqAt.str_str a t' b t
  |_=>exact absurd (show false=true from fx) Zam
 |_=>exact absurd (show false=true from fy) Zam
abbrev sH(x:V)(u:Value):Bool:=match u with
 |.none=>yu .non x
 |.bool b=>yu (.bl b) x
 |.int i _=>yu (.int i) x
 |.str z _=>yu (.str z) x
 |_=>false
def Q6(r:RelV y u)(f:nu y=true):sH x u=yu y x:=by
 cases y with
 |non=>cases r;rfl
 |bl b=>cases r;rfl
 |int i=>obtain⟨t,rfl⟩:=r;rfl
 |str z=>obtain⟨t,rfl⟩:=r;rfl
 |_=>exact absurd (show false=true from f) Zam
def EO:∀{xs:List V} {us:List Value},Vals xs us->xs.all nu=true->us.any (sH x)=xs.any λy=>yu y x
 |_,_,.nil,_=>rfl
 |y :: xs,u :: us,.cons r t,f=>by
  rw[List.all_cons,ZaB]at f;rw[Zbm,Zbm,Q6 r f.1,EO t f.2]
def ER(rx:RelV x v)(fx:nu x=true):∀{xs:List V} {us:List Value},Vals xs us->xs.all nu=true->∀u∈us,SeqAt.EqAt A s u v (sH x u)
 |_,_,.nil,_=>λu hu=>by cases hu
 |y :: xs,u :: us,.cons r t,f=>λu' hu=>by
  rw[List.all_cons,ZaB]at f;rcases ZaC.mp hu with rfl|hu
  rw[Q6 r f.1];exact Ak r rx f.1 fx;exact ER rx fx t f.2 u' hu
abbrev yw(x:V)(xs:List V):Bool:=xs.any λy=>yu y x
abbrev ES(K:Zfr)(neg:Bool):R2:=λx y H Q=>∃p xs,y=.ref p/\(j5 K H p xs\/eY K H p xs)/\nu x=true/\xs.all nu=true/\Q (.bl (if neg then !yw x xs else yw x xs)) H
def WV:mr X (compareOp .In) (ES X.K false):=by
 intro pins s σ H x y v u Q I rx ry h;obtain⟨p,xs,rfl,hq,fx,fs,q⟩:=h;cases ry;rcases hq with hq|hq
 obtain⟨its,r,pl,hz⟩:=I.list hq;refine SeqAt.in_listAt (sH x) pl.isList (λw hw=>ER rx fx r fs w (by simpa using hw)) ⟨.bl _,H,I,rfl,?_⟩;rw[show its.toArray.any (sH x)=its.any (sH x) by simp,EO r fs];exact q;obtain⟨its,r,pl,hz⟩:=I.tuple hq;refine SeqAt.in_tupleAt (sH x) pl (λw hw=>ER rx fx r fs w (by simpa using hw)) ⟨.bl _,H,I,rfl,?_⟩;rw[show its.toArray.any (sH x)=its.any (sH x) by simp,EO r fs];exact q
def C5:mr X (compareOp .NotIn) (ES X.K true):=by
 intro pins s σ H x y v u Q I rx ry h;obtain⟨p,xs,rfl,hq,fx,fs,q⟩:=h;cases ry;rcases hq with hq|hq
 obtain⟨its,r,pl,hz⟩:=I.list hq;refine SeqAt.notIn_listAt (sH x) pl.isList (λw hw=>ER rx fx r fs w (by simpa using hw)) ⟨.bl _,H,I,rfl,?_⟩;rw[show its.toArray.any (sH x)=its.any (sH x) by simp,EO r fs];exact q;obtain⟨its,r,pl,hz⟩:=I.tuple hq;refine SeqAt.notIn_tupleAt (sH x) pl (λw hw=>ER rx fx r fs w (by simpa using hw)) ⟨.bl _,H,I,rfl,?_⟩;rw[show its.toArray.any (sH x)=its.any (sH x) by simp,EO r fs];exact q
def mw:d7 X (.builtin "len") (λxs H Q=>∃p ys,xs=[.ref p]/\(j5 X.K H p ys\/eY X.K H p ys)/\Q (.int ys.length) H):=by
 intro pins s σ H xs us Q I r h;obtain⟨p,ys,rfl,hq,q⟩:=h;obtain⟨u,rfl,rx⟩:=vals1 r;cases rx;have hn:=oC;rcases hq with hq|hq
 obtain⟨its,r',pl,hz⟩:=I.list hq;have hlen:=r'.length;exact Calls.call_len_list pl.isList (by simp only[Zak]<;>lk) ⟨.int ys.length,H,I.tok _,⟨s.toks+1,by rw[Zak,hlen]⟩,q⟩;obtain⟨its,r',pl,hz⟩:=I.tuple hq;have hlen:=r'.length;exact len_tuple pl (by simp only[Zak]<;>lk) ⟨.int ys.length,H,I.tok _,⟨s.toks+1,by rw[Zak,hlen]⟩,q⟩
def ET:d7 X (.type "list") (λxs H Q=>∃p ys,xs=[.ref p]/\(j5 X.K H p ys\/eY X.K H p ys)/\∀l,H l=none->Q (.ref l) (upd H l (.lst ys))):=by
 intro pins s σ H xs us Q I r h;obtain⟨p,ys,rfl,hq,q⟩:=h;obtain⟨u,rfl,rx⟩:=vals1 r;cases rx;have fin:∀ (its:List Value),Vals ys its->ys.length<=sizeLine->∀ (h':Heap) (c':Nat),(∀ b o',s.heap.get? b=some o'->h'.get? b=some o') ->
   h'.get? s.heap.objs.size=some { cls:=.type "list",dict:=none,data:=.seq its.toArray c',slots:=#[] }->EP X pins σ Q (.ref s.heap.objs.size) { s with heap:=h' }:=λits r' hz h' c' kp e =>
  ⟨.ref s.heap.objs.size,_,I.laid (t':=s.toks) kp (Zag _) (show cq X.prog X.w _ h' _ (.lst ys)from⟨hz,its,c',r',e⟩),rfl,q _ (I.hok.fresh (Zag _))⟩
 rcases hq with hq|hq
 obtain⟨its,r',pl,hz⟩:=I.list hq;have hlen:=r'.length;obtain⟨o,ho,hc,n,hd⟩:=pl.isList;exact call_list_seq p (.inl rfl) ho hc hd (λh' c' kp e=>fin its r' hz h' c' kp e) (by simp only[Zak]<;>lk);obtain⟨its,r',pl,hz⟩:=I.tuple hq;have hlen:=r'.length;obtain⟨o,ho,hc,n,hd⟩:=pl;exact call_list_seq p (.inr rfl) ho hc hd (λh' c' kp e=>fin its r' hz h' c' kp e) (by simp only[Zak]<;>lk)
def pQ:d7 X (.type "tuple") (λxs H Q=>∃p ys,xs=[.ref p]/\((j5 X.K H p ys/\∀l,H l=none->Q (.ref l) (upd H l (.tup ys)))\/(eY X.K H p ys/\Q (.ref p) H))):=by
 intro pins s σ H xs us Q I r h;obtain⟨p,ys,rfl,h⟩:=h;obtain⟨u,rfl,rx⟩:=vals1 r;cases rx;rcases h with⟨hq,q⟩|⟨hq,q⟩
 obtain⟨its,r',pl,hz⟩:=I.list hq;have hlen:=r'.length;refine call_tuple_list pl.isList (λh' kp=>?_) (by simp only[Zak]<;>lk);have I1:Inv X pins σ H { s with heap:=h' }:=I.kept (t':=s.toks) kp;have I2:Inv X pins σ (upd H h'.objs.size (.tup ys)) { s with heap:=h'.push { cls:=.type "tuple",data:=.seq its.toArray } } :=
  I1.laid (t':=s.toks) (λb o e=>Zaf _ e) (Zag _) (show cq X.prog X.w _ _ _ (.tup ys)from⟨hz,its,r',qB.new _ _⟩)
 exact⟨.ref h'.objs.size,_,I2,rfl,q _ (I1.hok.fresh (Zag _))⟩;obtain⟨its,r',pl,hz⟩:=I.tuple hq;exact call_tuple_same pl ⟨.ref p,H,I,rfl,q⟩
abbrev KA(K:Zfr)(T:String)(x:V)(H:Hp):Prop:=match x with
 |.str _=>T="str"
 |.int _=>T="int"
 | .ref p=>(T="list" /\ ∃ xs,j5 K H p xs)\/(T="tuple" /\ ∃ xs,eY K H p xs) \/
   (T="dict" /\ ((∃kvs,H p=some (.dK kvs))\/∃kvs,H p=some (.dT kvs)))\/(T="set" /\ ∃S n,H p=some (.set S n))
 |_=>False
def Q7{pins:List (Addr×Obj)}{σ:St}{H:Hp}{s:Shared}{T:String}{x:V}{v:Value}(I:Inv X pins σ H s)(r:RelV x v)(ty:KA X.K T x H):
  s.TypeIs v T/\∀a,v=.ref a->∃ob,s.heap.get? a=some ob/\ob.dict=none:=by
 cases x with
 |str z =>
  obtain⟨t,rfl⟩:=r;cases(show T="str" from ty);exact⟨typeIs_str s z t,λ_ e=>nomatch e⟩
 |int i =>
  obtain⟨t,rfl⟩:=r;cases(show T="int" from ty);exact⟨typeIs_int s i t,λ_ e=>nomatch e⟩
 |ref p =>
  cases r;rcases ty with⟨rfl,xs,hq⟩|⟨rfl,xs,hq⟩|⟨rfl,hk⟩|⟨rfl,S,n,hk⟩
  obtain⟨its,_,pl,_⟩:=I.list hq;refine⟨pl.isList.typeIs,λa e=>?_⟩;cases e;obtain⟨o,n,e,c,hd,_⟩:=pl;exact⟨o,e,hd⟩;obtain⟨its,_,⟨o,e,c,d,_⟩,_⟩:=I.qE hq;refine⟨⟨o,e,c⟩,λa e2=>?_⟩;cases e2;exact⟨o,e,d⟩;have z:∃ o,s.heap.get? p=some o/\o.ExactDict:=by
   rcases hk with⟨kvs,hk⟩|⟨kvs,hk⟩
   obtain⟨_,_,_,_,o,_,_,e,ex,_⟩:=I.hok p _ hk;exact⟨o,e,ex⟩;obtain⟨_,_,_,_,o,_,_,e,ex,_⟩:=I.hok p _ hk;exact⟨o,e,ex⟩
  obtain⟨o,e,ex⟩:=z;refine⟨⟨o,e,ex.1⟩,λa e2=>?_⟩;cases e2;exact⟨o,e,ex.2.1⟩;obtain⟨o,_,_,_,e,ex,_⟩:=I.hok p _ hk;refine⟨⟨o,e,ex.1⟩,λa e2=>?_⟩;cases e2;exact⟨o,e,ex.2.1⟩
 |_=>exact False.elim ty
abbrev EU(K:Zfr)(T:String)(r:V->List V->Hp->VK->Prop)(to:TE):TE:=λσ H Q=>to σ H λx H1=>KA K T x H1/\r x [] H1 Q
abbrev Nh(K:Zfr)(T:String)(r:V->List V->Hp->VK->Prop)(to:TE)(t:TA):TE:=λσ H Q=>to σ H λx H1=>KA K T x H1/\t σ H1 λxs H2=>r x xs H2 Q
variable {o e:Expr}{es:List Expr}{to:TE}{t:TA}{name:Str}{apos cpos:Pos}{T id:String}{r:V->List V->Hp->VK->Prop}
def Al(pa:PlainAttrs T)(slot:Slot T name id)(hty:typeOf (.builtin id)=pure (.type "method_descriptor"))(hm:yr X id r)(ho:PE X o to)
  (hbase:attributeBase o name X.env (eval o X.env)=eval o X.env:=by rfl) (hline:(apos.endLine == cpos.line)=true:=by rfl):PE X (.Call (.Attribute o name apos) [] [] cpos) (EU X.K T r to):=by
 intro pins s σ H Q I h;refine wpAny_Call_method0_late hbase hline (cW (ho pins s σ H _ I h) λv s1 ⟨x,H1,I1,r1,ty,q1⟩=>?_);obtain⟨h1,h2⟩:=Q7 I1 r1 ty;exact⟨T,id,pa,slot,hty,h1,h2,Calls.callWith_builtin rfl (PySem.evalArgs_none (hm pins s1 σ H1 x [] v [] Q I1 r1 .nil q1))⟩
def qj(pa:PlainAttrs T)(slot:Slot T name id)(hty:typeOf (.builtin id)=pure (.type "method_descriptor"))(hm:yr X id r)(ho:PE X o to)(ha:PA X (e :: es) t)
  (hbase:attributeBase o name X.env (eval o X.env)=eval o X.env:=by rfl)
  (hfew:((backTo cpos (starEach (e :: es) X.env)).all (λx=>!x.1) && (backToKw cpos (keywordEach [] X.env)).all (λx=>x.1.isSome)
   && decide ((e :: es).length+([]:List Keyword).length+(if([]:List Keyword).isEmpty then 0 else 1)<30))=true:=by rfl)
  (hline:(apos.endLine == cpos.line)=true:=by rfl) (hs:starEach (e :: es) X.env=(false,eval e X.env) :: starEach es X.env:=by rfl) (hplain:(backTo cpos (starEach es X.env)).any (·.1)=false:=by rfl) :
  PE X (.Call (.Attribute o name apos) (e :: es) [] cpos) (Nh X.K T r to t):=by
 intro pins s σ H Q I h;refine wpAny_Call_method_late hbase hfew hline rfl (cW (ho pins s σ H _ I h) λv s1 ⟨x,H1,I1,r1,ty,q1⟩=>?_);obtain⟨h1,h2⟩:=Q7 I1 r1 ty;refine⟨T,id,pa,slot,hty,h1,h2,?_⟩;have hA:=ha cpos pins s1 σ H1 _ I1 q1;rw[hs]at hA ⊢;refine Calls.callWith_builtin (by show(false || (backTo cpos (starEach es X.env)).any (·.1))=false;rw[hplain]<;>rfl) (Calls.evalArgs_plain ?_);exact cW hA λus s2 ⟨vs,H2,I2,r2,q2⟩=>hm pins s2 σ H2 x vs v us Q I2 r1 r2 q2
end
abbrev Ni(X:Cx)(id:String)(r:V->List V->Hp->VK->Prop):Prop :=
 ∀(pins:List (Addr×Obj)) (s:Shared) (σ:St) (H:Hp) (x:V) (xs:List V) (v:Value) (us:List Value) (Q:VK),Inv X pins σ H s->RelV x v->Vals xs us->r x xs H Q ->
  wpAny (model X.prog X.w) X.A (call (.builtin id) (v :: us)) (EP X pins σ Q) X.xe s
def Vals.one:∀{x:V} {us:List Value},Vals [x] us->∃u,us=[u]/\RelV x u
 |_,_,.cons r .nil=>⟨_,rfl,r⟩
def Vals.zero:∀{us:List Value},Vals [] us->us=[]
 |_,.nil=>rfl
def Vals.dropLast(h:Vals xs us):Vals xs.dropLast us.dropLast:=by
 induction h with
 |nil=>exact .nil
 |cons r t ih =>
  cases t with
  |nil=>exact .nil
  |cons q t'=>exact .cons r ih
def Vals.eraseIdx:∀{xs:List V} {us:List Value} (i:Nat),Vals xs us->Vals (xs.eraseIdx i) (us.eraseIdx i)
 |_,_,_,.nil=>.nil
 |_,_,0,.cons _ t=>t
 |_,_,i+1,.cons r t=>.cons r (Vals.eraseIdx i t)
def Vals.rep(h:Vals xs us):∀k:Nat,Vals (List.replicate k xs).flatten (List.replicate k us).flatten
 |0=>.nil
 |k+1=>by
  rw[Za8,Za8,ZbO,ZbO];exact Vals.append h (Vals.rep h k)
def WW{α:Type}(l:List α):l.eraseIdx (l.length-1)=l.dropLast:=by
 induction l with
 |nil=>rfl
 |cons a r ih =>
  cases r with
  |nil=>rfl
  |cons b r =>
   have e:(a :: b :: r).length-1=((b :: r).length-1)+1:=by
    have h1:(a :: b :: r).length=r.length+2:=rfl;have h2:(b :: r).length=r.length+1:=rfl;lk
   rw[e,List.eraseIdx_cons_succ,ih]
   all_goals rfl
def Q8{α:Type}:∀(l:List α) (i:Nat),(l.eraseIdx i).length<=l.length
 |[],_=>Zag _
 |_ :: _,0=>Zbu _
 |_ :: r,i+1=>Nat.succ_le_succ (Q8 r i)
def Q9(its:List Value):∀(k:Nat) (acc:List Value),
  List.foldl (λx1 x2=>x1 ++ x2) acc.toArray (List.replicate k its.toArray)=(acc ++ (List.replicate k its).flatten).toArray
 |0,acc=>by simp
 |k+1,acc=>by
  have e:acc.toArray ++ its.toArray=(acc ++ its).toArray:=by simp
  have e2:(acc ++ its) ++ (List.replicate k its).flatten=acc ++ (List.replicate (k+1) its).flatten:=by
   rw[Za8,ZbO,Zbx]
  rw[<- e2,<- Q9 its k (acc ++ its),<- e,Za8,List.foldl_cons]
section
variable {X:Cx}{pins:List (Addr×Obj)}{σ:St}{H:Hp}{s:Shared}{l b:Addr}{xs ys zs:List V}
def Inv.Am{its its':List Value}{n:Nat}{f:Array Value->Array Value}{t':Nat}(I:Inv X pins σ H s)(hH:H l=some (.lst xs))
  (e:s.heap.get? l=some { cls:=.type "list",data:=.seq its.toArray n }) (hf:f its.toArray=its'.toArray) (hv:Vals ys its') (hz:ys.length<=sizeLine) :
  Inv X pins σ (upd H l (.lst ys)) { s with heap:=s.heap.update l (Obj.mapSeq f),toks:=t' }:=by
 have q:=PySem.IsL.update e f;rw[hf]at q;refine I.write (x:=l) (e:=l) (by rw[hH];exact trivial) (.inl rfl) (λb' u hb hu=>(ZaF s.heap (Obj.mapSeq f) (Ne.symm hb)).trans hu) ⟨_,q⟩ ?_;exact⟨hz,its',_,hv,q⟩
def Inv.EV(I:Inv X pins σ H s)(hv:Vals ys its)(hz:ys.length<=sizeLine):
  Inv X pins σ (upd H s.heap.objs.size (.lst ys)) { s with heap:=s.heap.push { cls:=.type "list",data:=.seq its.toArray },toks:=t' } :=
 I.laid (λ_ _ q=>Zaf _ q) (Zag _) ⟨hz,its,0,hv,Zaw _ rfl⟩
def Inv.fresh(I:Inv X pins σ H s):H s.heap.objs.size=none:=I.hok.fresh (Zag _)
def Inv.rG(I:Inv X pins σ H s)(hH:H l=some (.lst xs)):xs.length<=sizeLine/\∃(its:List Value) (n:Nat),Vals xs its/\xs.length=its.length/\s.heap.get? l=some { cls:=.type "list",data:=.seq its.toArray n }:=by obtain⟨z,its,n,r,e⟩:=I.hok l _ hH;exact⟨z,its,n,r,r.length,e⟩
def u3(h:n<=sizeLine):Builtin.List.listTooLong n=false:=by unfold Builtin.List.listTooLong;exact decide_eq_false ⋯
end
section
variable {X:Cx}
abbrev tN:V->List V->Hp->VK->Prop:=λx vs H Q=>∃l xs y,x=.ref l/\vs=[y]/\H l=some (.lst xs)/\xs.length<sizeLine/\Q .non (upd H l (.lst (xs ++ [y])))
def rZ:Ni X "list.append" tN:=by intro pins s σ H x vs v us Q I rx rv h;obtain⟨l,xs,y,rfl,rfl,hH,hz,q⟩:=h;cases rx;obtain⟨u,rfl,ru⟩:=rv.one;obtain⟨z,its,n,r,hl,e⟩:=I.rG hH;refine call_meets F.slot_list_append ⟨_,e,rfl⟩ F.entry_list_append (F.args_list_append_2 _ _) (PySem.list_append l its.toArray n u (by rw[Zak];lk)) ⟨e,?_⟩;refine⟨.non,_,I.Am (its':=its ++ [u]) hH e (by simp) (r.append (.cons ru .nil)) ?_,rfl,q⟩;rw[Zae,Zbi];lk
abbrev EW:V->List V->Hp->VK->Prop:=λx vs H Q=>∃l xs y,x=.ref l/\vs=[]/\H l=some (.lst xs)/\xs[xs.length-1]?=some y/\Q y (upd H l (.lst xs.dropLast))
def An:Ni X "list.pop" EW:=by
 intro pins s σ H x vs v us Q I rx rv h;obtain⟨l,xs,y,rfl,rfl,hH,hy,q⟩:=h;cases rx;have WX:=rv.zero;subst WX;obtain⟨z,its,n,r,hl,e⟩:=I.rG hH;obtain⟨u,hu,ru⟩:=r.get hy;have hy':its.toArray[its.toArray.size-1]?=some u:=by
  show its.toArray[its.length-1]?=some u;rw[<- ZbM,<- hl];exact hu
 refine call_meets F.slot_list_pop ⟨_,e,rfl⟩ F.entry_list_pop (F.args_list_pop_1 _) (MeetsSeq.list_pop_last l its.toArray n u hy' (by rw[Zak];lk)) ⟨e,?_⟩;refine⟨y,_,I.Am (its':=its.dropLast) hH e ?_ r.dropLast ?_,ru,q⟩;show its.toArray.eraseIdxIfInBounds (its.toArray.size-1)=its.dropLast.toArray;rw[Zak,List.eraseIdxIfInBounds_toArray,WW];rw[List.length_dropLast];lk
abbrev u5:V->List V->Hp->VK->Prop:=λx vs H Q=>∃l xs i k y,x=.ref l/\vs=[.int i]/\H l=some (.lst xs)/\-(2 ^ 63)<=i/\i<2 ^ 63/\seqIndex? i xs.length=some k/\xs[k]?=some y/\Q y (upd H l (.lst (xs.eraseIdx k)))
def WY:Ni X "list.pop" u5:=by
 intro pins s σ H x vs v us Q I rx rv h;obtain⟨l,xs,i,k,y,rfl,rfl,hH,h1,h2,hk,hy,q⟩:=h;cases rx;obtain⟨u,rfl,ru⟩:=rv.one;obtain⟨t,rfl⟩:=ru;obtain⟨z,its,n,r,hl,e⟩:=I.rG hH;obtain⟨w,hw,rw'⟩:=r.get hy;refine call_meets F.slot_list_pop ⟨_,e,rfl⟩ F.entry_list_pop (F.args_list_pop_2 _ _)
  (MeetsSeq.list_pop_at l its.toArray n i t k w (fitsIndex_both h1 h2) (by rw[Zak,<- hl];exact hk) (by rw[<- ZbM];exact hw) (by rw[Zak];lk)) ⟨e,?_⟩
 refine⟨y,_,I.Am (its':=its.eraseIdx k) hH e ?_ (r.eraseIdx k) ?_,rw',q⟩;show its.toArray.eraseIdxIfInBounds k=(its.eraseIdx k).toArray;rw[List.eraseIdxIfInBounds_toArray]
 have:=Q8 xs k
 lk
abbrev EX:R2:=λx y H Q=>∃l b xs zs,x=.ref l/\y=.ref b/\H l=some (.lst xs)/\H b=some (.lst zs)/\xs.length+zs.length<=sizeLine/\∀p,H p=none->Q (.ref p) (upd H p (.lst (xs ++ zs)))
def Ao:mr X (binaryOp .Add) EX:=by
 intro pins s σ H x y v u Q I rx ry h;obtain⟨l,b,xs,zs,rfl,rfl,hH,hB,hz,q⟩:=h;cases rx;cases ry;obtain⟨z,its,n,r,hl,e⟩:=I.rG hH;obtain⟨z2,its2,n2,r2,hl2,e2⟩:=I.rG hB;refine PySem.P.add_list e e2 ?_ (by rw[Zak,Zak];lk);have ea:its.toArray ++ its2.toArray=(its ++ its2).toArray:=by simp
 rw[ea];exact⟨.ref _,_,I.EV (t':=s.toks) (r.append r2) (by rw[Zae];lk),rfl,q _ I.fresh⟩
abbrev EY:R2:=λx y H Q=>∃l k xs,x=.ref l/\y=.int k/\H l=some (.lst xs)/\-(2 ^ 63)<=k/\k<2 ^ 63/\xs.length*k.toNat<=sizeLine /\
 ∀p,H p=none->Q (.ref p) (upd H p (.lst (List.replicate k.toNat xs).flatten))
def WZ{α:Type}(xs:List α)(k:Nat):(List.replicate k xs).flatten.length=k*xs.length:=by
 induction k with
 |zero=>simp
 |succ k ih=>rw[Za8,ZbO,Zae,ih,Zcp,Nat.add_comm]
def Ra:mr X (binaryOp .Mult) EY:=by
 intro pins s σ H x y v u Q I rx ry h;obtain⟨l,k,xs,rfl,rfl,hH,h1,h2,hz,q⟩:=h;cases rx;obtain⟨t,rfl⟩:=ry;obtain⟨z,its,n,r,hl,e⟩:=I.rG hH;have hlen:its.toArray.size*k.toNat<=sizeLine:=by rw[Zak,<- hl];exact hz
 have hcap:¬its.toArray.size*k.toNat > (2 ^ 63-1) / 8:=by
  have:(sizeLine:Nat)<=(2 ^ 63-1) / 8:=by decide
  lk
 have hfit:¬(!Builtin.List.listFitsIndex k)=true:=by
  rw[fitsIndex_both h1 h2];exact Zam
 have EZ:¬Builtin.List.listTooLong (its.toArray.size*k.toNat)=true:=by
  rw[u3 hlen];exact Zam
 have hnew:List.foldl (λx1 x2=>x1 ++ x2) #[] (List.replicate (if its.toArray.isEmpty=true then 0 else k.toNat) its.toArray)=(List.replicate k.toNat its).flatten.toArray:=by
  have f0:∀m:Nat,List.foldl (λx1 x2=>x1 ++ x2) #[] (List.replicate m its.toArray)=(List.replicate m its).flatten.toArray:=λm=>by
   have:=Q9 its m [];rw[List.nil_append]at this;exact this
  rw[f0];cases its with
  |nil=>simp
  |cons a r'=>rw[if_neg (by simp)]
 refine wpAny_binaryOp_repeat_ref (T:="list") (U:="int") ∅ ⟨_,e,rfl⟩ (λs'=>typeIs_int s' k t) noFill_list_mul F.fills_int_mul F.slot_int_rmul repeat_list F.slot_int_index.lookup
  (call_meets F.slot_int_rmul (typeIs_int s k t) F.entry_int_rmul (F.args_int_rmul_2 _ _) (int___rmul___int_list k t l its.toArray n)
   ⟨e,rfl,⟨_,e,rfl⟩,call_meets F.slot_list_mul ⟨_,e,rfl⟩ F.entry_list_mul (F.args_list_mul_2 _ _) (AutoListH.list___mul___list_int_3 l its.toArray n k t hfit hcap EZ) ⟨e,?_⟩⟩)
 rw[hnew];exact⟨.ref _,_,I.EV (t':=s.toks) (r.rep k.toNat) (by rw[WZ,ZbY];exact hz),rfl,q _ I.fresh⟩
end
section
variable {κ:Type}[DecidableEq κ]
abbrev nB(kvs:List (κ×V))(k:κ):Option V:=(kvs.find? λkv=>decide (kv.1=k)).map (·.2)
abbrev putK(kvs:List (κ×V))(k:κ)(v:V):List (κ×V) :=
 if(kvs.any λkv=>decide (kv.1=k))=true then kvs.map (λkv=>if kv.1=k then(kv.1,v)else kv)else kvs ++ [(k,v)]
def Nj{p:κ×V}{r:List (κ×V)}{k:κ}(e:p.1=k):nB (p :: r) k=some p.2:=by simp[nB,Zbo,e]
def Nk{p:κ×V}{r:List (κ×V)}{k:κ}(e:¬p.1=k):nB (p :: r) k=nB r k:=by simp[nB,Zbo,e]
def Rb(k:κ):∀kvs:List (κ×V),(kvs.any λkv=>decide (kv.1=k))=(nB kvs k).isSome
 |[]=>rfl
 |p :: r=>by
  rw[Zbm];by_cases e:p.1=k;simp only[Nj e,decide_eq_true e,Bool.true_or,Option.isSome_some];rw[Nk e,decide_eq_false e,Bool.false_or];exact Rb k r
def Rc(kvs:List (κ×V))(k:κ)(v:V):(putK kvs k v).length<=kvs.length+1:=by unfold putK;split;rw[Zaa];lk;rw[Zae,ZaE,Zcn];lk
def uw.oD(r:uw o u):o.isSome=u.isSome:=by
 cases o with
 |none=>cases u with
  |none=>rfl
  |some _=>exact(show False from r).elim
 |some _=>cases u with
  |none=>exact(show False from r).elim
  |some _=>rfl
def KV.val(r:KV kvs vs)(k:κ):uw (nB kvs k) (valueAt vs k):=by
 unfold KV at r
 induction r with
 |nil=>exact True.intro
 |@cons p q ps qs h t ih =>
  obtain⟨h1,h2⟩:=h;by_cases e:p.1=k;have e':q.1=k:=h1.symm.trans e;have b:valueAt (q :: qs) k=some q.2:=by simp[valueAt,Zbo,e']
  rw[Nj e,b];exact h2;have e':¬q.1=k:=λz=>e (h1.trans z);have b:valueAt (q :: qs) k=valueAt qs k:=by simp[valueAt,Zbo,e']
  rw[Nk e,b];exact ih
def KV.any(r:KV kvs vs)(k:κ):(kvs.any λkv=>decide (kv.1=k))=vs.any λkv=>decide (kv.1=k):=by
 unfold KV at r
 induction r with
 |nil=>rfl
 |cons h t ih=>rw[Zbm,Zbm,ih,h.1]
def KV.repl(r:KV kvs vs)(k:κ)(ry:RelV y u):
  KV (kvs.map λkv=>if kv.1=k then(kv.1,y)else kv) (vs.map λkv=>if kv.1=k then(kv.1,u)else kv):=by
 unfold KV at r ⊢
 induction r with
 |nil=>exact .nil
 |@cons p q ps qs h t ih =>
  rw[ZaD,ZaD];refine .cons ?_ ih;obtain⟨h1,h2⟩:=h;by_cases e:p.1=k;rw[if_pos e,if_pos (h1.symm.trans e)];exact⟨h1,ry⟩;rw[if_neg e,if_neg (λz=>e (h1.trans z))];exact⟨h1,h2⟩
def KV.put(r:KV kvs vs)(k:κ)(ry:RelV y u):KV (putK kvs k y) (stored vs k u):=by unfold putK stored;rw[r.any k];by_cases e:(vs.any λkv=>decide (kv.1=k))=true;rw[if_pos e,if_pos e];exact r.repl k ry;rw[if_neg e,if_neg e];exact Paired.snoc r ⟨rfl,ry⟩
def KV.length{kvs:List (κ×V)}{vs:List (κ×Value)}(r:KV kvs vs):kvs.length=vs.length:=Paired.length r
end
def Nl(r:RelV (kV k) u):(df P w).is k u=true:=by
 cases k with
 |inl i=>obtain⟨t,e⟩:=(show∃t,u=Value.int i t from r);subst e;exact Wg P w i t
 |inr x=>obtain⟨t,e⟩:=(show∃t,u=Value.str x t from r);subst e;exact Wi P w x t
def Rf:∀{ks:List Key} {us:List Value},Vals (ks.map kV) us->ItemsAre (df P w) ks us
 |[],_,r=>by rw[Za6]at r;cases r;exact .nil
 |k :: ks,_,r=>by
  rw[ZaD]at r;cases r with
  |cons h t=>exact .cons (Nl h) (Rf t)
@[reducible]def KT(H:Hp):List (List Key×V)->List (List Key×Addr×Value)->Prop:=Paired λp q=>p.1=q.1/\H q.2.1=some (.tup (p.1.map kV))/\RelV p.2 q.2.2
def KT.val(r:KT H kvs xs)(k:List Key):uw (nB kvs k) ((atKey xs k).map (·.2)):=by
 induction r with
 |nil=>exact True.intro
 |@cons p q ps qs h t ih =>
  obtain⟨h1,_,h2⟩:=h;by_cases e:p.1=k;have e':q.1=k:=h1.symm.trans e;have b:atKey (q :: qs) k=some q.2:=by simp[atKey,Zbo,e']
  rw[Nj e,b];exact h2;have e':¬q.1=k:=λz=>e (h1.trans z);have b:atKey (q :: qs) k=atKey qs k:=by simp[atKey,Zbo,e']
  rw[Nk e,b];exact ih
def KT.repl(r:KT H kvs xs)(k:List Key)(ry:RelV y u):
  KT H (kvs.map λkv=>if kv.1=k then(kv.1,y)else kv) (xs.map (putAt k u)):=by
 induction r with
 |nil=>exact .nil
 |@cons p q ps qs h t ih =>
  rw[ZaD,ZaD];refine .cons ?_ ih;obtain⟨h1,h2,h3⟩:=h;unfold putAt;by_cases e:p.1=k;rw[if_pos e,if_pos (h1.symm.trans e)];exact⟨h1,h2,ry⟩;rw[if_neg e,if_neg (λz=>e (h1.trans z))];exact⟨h1,h2,h3⟩
def KT.put(r:KT H kvs xs)(k:List Key)(hb:H b=some (.tup (k.map kV)))(ry:RelV y u):
  KT H (putK kvs k y) (storedH xs k b u):=by
 have e:(kvs.any λkv=>decide (kv.1=k))=(atKey xs k).isSome:=by
  rw[Rb,(r.val k).oD,Option.isSome_map]
 unfold putK storedH;rw[e];by_cases q:(atKey xs k).isSome=true;rw[if_pos q,if_pos q];exact r.repl k ry;rw[if_neg q,if_neg q];exact Paired.snoc r ⟨rfl,hb,ry⟩
def KT.keeps(r:KT H kvs xs)(ht:∀b ys,H b=some (.tup ys)->H' b=some (.tup ys)):KT H' kvs xs :=
 Paired.zO r λ_ _ z=>⟨z.1,ht _ _ z.2.1,z.2.2⟩
section
variable {P:Program}{w:World}{H:Hp}{h:Heap}{a:Addr}
def yy(ok:nV P w H h)(e:Rd H a u):cq P w H h a u:=e.ok ok
def yz(ok:nV P w H h)(e:Rd H a (.dK kvs)):kvs.length<=sizeLine/\(a == sysModules)=false/\∃vs,KV kvs vs/\h.DictOf (df P w) a vs :=
 show cq P w H h a (.dK kvs)from yy ok e
def E1(ok:nV P w H h)(e:H a=some (.dK kvs)):kvs.length<=sizeLine/\(a == sysModules)=false/\∃vs,KV kvs vs/\h.DictOf (df P w) a vs:=yz ok (.inl e)
def C6(ok:nV P w H h)(e:H a=some (.tup (ks.map kV))):(tupleKind (df P w)).is h ks a:=by obtain⟨_,its,r,o,h1,h2,_,n,h3⟩:=(show cq P w H h a (.tup (ks.map kV))from ok a _ e);exact⟨o,its.toArray,n,h1,h2,h3,by simpa using Rf r⟩
def yA(ok:nV P w H h)(e:Rd H a (.dT kvs)):kvs.length<=sizeLine/\(a == sysModules)=false /\
  ∃xs,KT H kvs xs/\h.DictOfH (tupleKind (df P w)) a xs:=by
 obtain⟨z,y,xs,r,o,es,ep,h1,h2,h3,h4,h5⟩:=(show cq P w H h a (.dT kvs)from yy ok e);refine⟨z,y,xs,r,o,es,ep,h1,h2,h3,h4,λx hx=>?_,h5⟩;have all:∀{l:List (List Key×V)} {m:List (List Key×Addr×Value)},KT H l m->∀x∈m,(tupleKind (df P w)).is h x.1 x.2.1:=by
  intro l m q
  induction q with
  |nil=>intro x hx;exact nomatch hx
  |@cons p q ps qs hq t ih =>
   intro x hx;rcases ZaC.mp hx with e|hx
   subst e;exact C6 ok (by rw[<- hq.1];exact hq.2.1);exact ih x hx
 exact all r x hx
def E2(ok:nV P w H h)(e:H a=some (.dT kvs)):kvs.length<=sizeLine/\(a == sysModules)=false /\
  ∃xs,KT H kvs xs/\h.DictOfH (tupleKind (df P w)) a xs:=yA ok (.inl e)
end
abbrev u6(H:Hp)(a:Addr)(y:V)(r:Option V):Prop :=
 (∃kvs k,Rd H a (.dK kvs)/\y=kV k/\r=nB kvs k)\/∃kvs k b,Rd H a (.dT kvs)/\y=.ref b/\H b=some (.tup (k.map kV))/\r=nB kvs k
abbrev u7(H:Hp)(a:Addr)(y v:V)(H':Hp):Prop :=
 (∃kvs k,H a=some (.dK kvs)/\y=kV k/\kvs.length<sizeLine/\H'=upd H a (.dK (putK kvs k v))) \/
 ∃kvs k b,H a=some (.dT kvs)/\y=.ref b/\H b=some (.tup (k.map kV))/\kvs.length<sizeLine/\H'=upd H a (.dT (putK kvs k v))
def u6.k{H:Hp}{a:Addr}{kvs:List (Key×V)}{k:Key}(e:H a=some (.dK kvs)):u6 H a (kV k) (nB kvs k):=.inl ⟨kvs,k,.inl e,rfl,rfl⟩
def u7.k{H:Hp}{a:Addr}{kvs:List (Key×V)}{k:Key}{v:V}(e:H a=some (.dK kvs))(hl:kvs.length<sizeLine):u7 H a (kV k) v (upd H a (.dK (putK kvs k v))):=.inl ⟨kvs,k,e,rfl,hl,rfl⟩
section
variable {X:Cx}{pins:List (Addr×Obj)}{σ:St}{H:Hp}{s:Shared}{a:Addr}{y v:V}{u r:Value}{o:Option V}{A:Around}{E:Value->Shared->Prop}
def Inv.big(I:Inv X pins σ H s):sysModules<s.heap.objs.size:=by have h:mainGlobals<s.heap.objs.size:=(I.mod.glob.keeps I.bk).lt;exact ZcL ∅ h
def W0(hu:A.units+1<cLine)(I:Inv X pins σ H s)(g:u6 H a y o)(ry:RelV y u)(h:∀s',Inv X pins σ H s'->Q (.bool (!o.isSome)) s'):
  wpAny (model X.prog X.w) A (compareOp .NotIn u (.ref a)) Q E s:=by
 rcases g with⟨kvs,k,e,ey,l⟩|⟨kvs,k,b,e,ey,eb,l⟩
 subst ey;obtain⟨z,hd,vs,rel,dd⟩:=yz I.hok e;refine wpAny_notIn_of (Nl ry) hd dd.mapOf ?_;rw[<- (rel.val k).oD,<- l];exact h _ (I.tok _);subst ey;cases(show u=Value.ref b from ry);obtain⟨z,hd,xs,rel,dd⟩:=yA I.hok e;refine wpAny_notIn_heap (tupleKind_room_in1 hu) (C6 I.hok eb) hd dd ?_;have q:=(rel.val k).oD;rw[Option.isSome_map]at q;rw[<- q,<- l];exact h _ (I.tok _)
def Rg(I:Inv X pins σ H s)(mu:Eb (H a))(hs:Heap.SameBut a s.heap h')(he:∃q,h'.get? a=some q)(new:cq X.prog X.w (upd H a ob) h' a ob):
  Inv X pins σ (upd H a ob) { s with heap:=h',toks:=t' } :=
 I.write (x:=a) (e:=a) mu (.inl rfl) (λb q hb z=>(hs.2 b hb).trans z) he new
def Ap(z:kvs.length<=sizeLine)(hd:(a == sysModules)=false)(rel:KV kvs vs)(dd:h'.DictOf (df P w) a vs):
  cq P w H' h' a (.dK kvs):=⟨z,hd,vs,rel,dd⟩
def W2(hu:A.units+1<cLine)(I:Inv X pins σ H s)(g:u7 H a y v H')(ry:RelV y u)(rv:RelV v r)(h:∀s',Inv X pins σ H' s'->Q () s'):
  wpAny (model X.prog X.w) A (setItem (.ref a) u r) Q E s:=by
 rcases g with⟨kvs,k,e,ey,l,eH⟩|⟨kvs,k,b,e,ey,eb,l,eH⟩
 subst ey eH;obtain⟨z,hd,vs,rel,dd⟩:=E1 I.hok e;have hz:vs.length<=sizeLine:=by rw[<- rel.length];exact z
 have hl:(putK kvs k v).length<=sizeLine:=by have:=Rc kvs k v;lk
 refine wpAny_setItem_pairs (hsz:=hz) (Nl ry) dd λh' KC hs=>h _ ?_;have he:∃q,h'.get? a=some q:=let ⟨q,_,_,hq,_⟩:=KC;⟨q,hq⟩
 exact Rg I (by rw[e];exact True.intro) hs he (Ap hl hd (rel.put k rv) KC);subst ey eH;cases(show u=Value.ref b from ry);obtain⟨z,hd,xs,rel,dd⟩:=E2 I.hok e;have hz:xs.length<=sizeLine:=by rw[<- Paired.length rel];exact z
 have hl:(putK kvs k v).length<=sizeLine:=by have:=Rc kvs k v;lk
 refine wpAny_setItem_heap (hsz:=hz) (tupleKind_room_in1 hu) (C6 I.hok eb) dd λh' KC hs=>h _ ?_;obtain⟨q,es,ep,hq,h2,h3,h4,_,h5⟩:=KC;refine Rg I (by rw[e];exact True.intro) hs ⟨q,hq⟩ ⟨hl,hd,_,(rel.put k eb rv).keeps λc ys ec=>?_,q,es,ep,hq,h2,h3,h4,h5⟩;rw[ml (MS ec e (λz=>nomatch z))];exact ec
end
abbrev tO(ty td:TE):TE:=λσ H Q=>ty σ H λy H1=>td σ H1 λx H2=>∃a o,x=.ref a/\u6 H2 a y o/\Q (.bl (!o.isSome)) H2
abbrev yB(td ty tv:TE):TS:=λD σ H=>tv σ H λv H1=>td σ H1 λx H2=>ty σ H2 λy H3=>∃a H4,x=.ref a/\u7 H3 a y v H4/\D.nx σ H4
section
variable {X:Cx}{o i e value:Expr}{pos pos' tpos:Pos}{td ty tv:TE}
def W3(hu:X.A.units+1<cLine)(hi:PE X i ty)(ho:PE X o td):PC X .NotIn i o (tO ty td):=by intro pins s σ H Q I h;refine cW (hi pins s σ H _ I h) λiv s1 ⟨y,H1,I1,ry,q1⟩=>cW (ho pins s1 σ H1 _ I1 q1) λu s2 ⟨x,H2,I2,rx,a,ov,ex,g,q2⟩=>?_;subst ex;obtain rfl:u=Value.ref a:=rx;exact W0 hu I2 g ry λs3 I3=>⟨.bl (!ov.isSome),H2,I3,rfl,q2⟩
def W4(hu:X.A.units+1<cLine)(ho:PE X o td)(hi:PE X i ty)(hv:PE X value tv)(hs:swapsWith value (some (.Subscript o i pos')) pos.line X.env=pure false):
  PS X (.Assign [.Subscript o i pos'] value pos) (yB td ty tv):=by
 intro pins s σ H D I h;refine wpAny_Assign_Subscript (cW (hv pins s σ H _ I h) λr s1 ⟨v,H1,I1,rv,q1⟩=>cW (ho pins s1 σ H1 _ I1 q1) λu s2 ⟨x,H2,I2,rx,q2⟩=>cW (hi pins s2 σ H2 _ I2 q2) λiv s3 ⟨y,H3,I3,ry,a,H4,ex,g,q3⟩=>?_) hs;subst ex;obtain rfl:u=Value.ref a:=rx;exact W2 hu I3 g ry rv λs4 I4=>⟨σ,H4,I4,q3⟩
end
def W5(h:Heap)(hb:sysModules<h.objs.size):cq P w H (h.push { cls:=.type "dict",data:=.dict #[] }) h.objs.size (.dK []) :=
 ⟨ZaL _,beq_eq_false_iff_ne.mpr (Ne.symm (ZaR hb)),[],.nil,Heap.DictOf.new h⟩
abbrev u9:TE:=λ_ H Q=>∀p,H p=none->Q (.ref p) (upd H p (.dK []))
section
variable {X:Cx}{pos:Pos}
def W6:PE X (.Dict [] [] pos) u9:=λpins s σ H Q I h =>
 wpAny_Dict_empty ⟨.ref s.heap.objs.size,_,I.laid (a:=s.heap.objs.size) (o:=.dK []) (t':=s.toks) (λ_ _ q=>Zaf _ q) (Zag _) (W5 s.heap I.big),rfl,h _ (I.hok.fresh (Zag _))⟩
end
end L2
namespace Rh
open PySem PySem.W PySem.Calls PyProof.Rows
def W7:∀(ns:List Int) (vs:List Value),WellAll P h vs (ns.map WData.int)->IntsAre vs ns:=by
 intro ns
 induction ns with
 |nil =>
  intro vs w;rw[Za6]at w;cases w;exact .nil
 |cons n ns ih =>
  intro vs w;rw[ZaD]at w;cases w with
  |cons a b =>
   cases a;exact .cons _ _ (ih _ b)
def W8{l:OpenLaw}{n:Nat}(hn:l.most=some n){P:Params}{h:Heap}{args:List WData}{vals:List Value}
  (hpre:l.row.toRowW.claim.pre args=true) (hwl:WellAll P h vals args) :
  ∃a vs ns,vals=[Value.ref a]/\args=[WData.list (ns.map WData.int)]/\h.get? a=some { cls:=.type "list",data:=.seq vs.toArray }/\IntsAre vs ns/\ns.length<=n:=by
 have hsh:WShape.hasAll [] args [.list .int]=true:=(pre_splitW hpre).1;have hc:l.pre.holds [] { args:=args }=true:=(pre_splitW hpre).2;obtain⟨d,r,rfl,h1,h2⟩:=hasAllW_cons hsh;obtain rfl:=hasAllW_nil h2;obtain⟨xs,rfl,h3⟩:=hasW_list h1;obtain⟨ns,rfl⟩:=items_int h3;have hlen:ns.length<=n:=by
  unfold OpenLaw.pre at hc;have h4:(WTm.not (.lt (.lit (.int (n:Int))) (.len (.arg 0)))).holds [] { args:=[.list (ns.map .int)] }=true:=by
   have h4:=(holds_andW hc).1;rw[hn]at h4;exact h4
  have h5:=condW_of h4 (w_not (w_lt w_lit (w_len_list (w_arg rfl))));rw[Zaa]at h5;refine ZcF λq=>?_;have q':(n:Int)<((ns.length:Nat):Int):=by lk
  first
   |(rw[decide_eq_true q']at h5;exact absurd h5 ∅)
   |(simp at h5;lk)
 cases hwl with
 |cons w1 w2 =>
  cases w2;cases w1 with
  |list ho hall=>exact⟨_,_,ns,rfl,rfl,ho,W7 ns _ hall,hlen⟩
def W9(l:OpenLaw)(args:List WData):l.row.toRowW.claim.post args (.bool true) args=true :=
 postW_of (r:=l.row.toRowW) (X:=(true == true))
  (show WShape.has [] (.bool true) .bool=true by first|rfl|decide|simp[WShape.has,WShape.arms,WShape.armsAll])
  (show(WTm.eq .res (.lit (.bool true))).value [] { args:=args,res:=some (.bool true),after:=args }=some (.bool (true == true))from w_eq_bool (w_res rfl) w_lit) rfl
def Xa{l:OpenLaw}{n:Nat}{q:Program}{loose:List Str}{XP:(Str->Option Value)->Heap->Prop}{YP:World->Heap->Prop}{d:DefRec}
  (hn:l.most=some n) (hdf:d.params.defaults=[])
  (call:∀(w:World) (s₀ s₁:Shared) (mg mb:Str->Option Value) (fa:Addr) (o:Obj) (pm cd doc:Value) (a:Addr) (vs:List Value) (ns:List Int),
   Ground q loose [] XP w s₀ mg mb s₁.heap->YP w s₁.heap ->
   s₁.heap.get? fa=some o->o.data=.func (docDef d.name d.params d.body d.scope pm cd doc)->s₁.heap.CodeRec cd d.name->mg d.name=some (.ref fa) ->
   s₁.heap.get? a=some { cls:=.type "list",data:=.seq vs.toArray }->IntsAre vs ns->ns.length<=n->s₁.gens=#[] ->
   codeAny (model l.prog w) callerA (.call (.ref fa) ⟨[.ref a],[]⟩) (λr s'=>r=.ok (.ret (.bool true))/\OldK s₁.heap s'.heap/\s'.os=s₁.os/\AllBare s'.gens) s₁) :
  WalkO q loose XP YP l.row.toRowW d [] (λf vs=>PySem.call f vs):=by
 intro w s₀ s₁ mg mb G Y fa o pm cd doc dV kV ho hd hcd hD hmg hg args vals as hpre hlay hrd hwl hlo;obtain rfl:dV=.none:=Dflts.none hD hdf;obtain rfl:kV=.none:=Dflts.noKw hD;obtain⟨a,vs,ns,rfl,rfl,hobj,hints,hlen⟩:=W8 hn hpre hwl;refine enter_call (codeAny_mono (call w s₀ s₁ mg mb fa o pm cd doc a vs ns G Y ho (fd_plain hd) hcd hmg hobj hints hlen hg) λr s' hq=>?_);obtain⟨rfl,h2,h3,h4⟩:=hq;exact⟨.inl ⟨.bool true,.bool true,[],rfl,λ_=>rfl,.bool true,W9 l _,λ_=>⟨List.Pairwise.nil,λ_ hm=>(nomatch hm)⟩⟩,h2,h3,h4⟩
end Rh
namespace L2
open PySem PySem.Spec PyProof.Rows
def Nm:∀{vs:List Value} {ns:List Int},IntsAre vs ns->Vals (ns.map V.int) vs
 |_,_,.nil=>.nil
 |_,_,.cons n t h=>.cons ⟨t,rfl⟩ (Nm h)
abbrev Only(H:Hp):Prop:=∀b,H b=none\/∃o xs,H b=some (.pL o (.lst xs))
def Xb{P:Program}{w:World}{K:Zfr}{mg mb:Str->Option Value}{CX:tK}{k:Nat}{fa a:Addr}{fd:FuncData}{x:Str}{sp:Sp}{s₁:Shared}{vs:List Value}{ns:List Int}
  (KX:K.In s₁.heap) (hns:s₁.heap.Ns mainGlobals mg) (hb:s₁.heap.Ns builtinsNs mb) (Nn:∀x:Str,x≠"__name__" -> mb x=bootBuiltins x) (hlim:s₁.heap.NoLimit) (hg:s₁.gens=#[])
  (ha:s₁.heap.get? a=some { cls:=.type "list",data:=.seq vs.toArray }) (hi:IntsAre vs ns) (hl:ns.length<=sizeLine) (hr:i9 k callerA)
  (F:∀base:Heap,K.In base->base.Ns mainGlobals mg->aE P w K mg base CX k fa fd [x] sp) (hbind:∀(s:Shared) (u:Value),BindsTo s fd ⟨[u],[]⟩ [(x,u)])
  (uI:∀H:Hp,Only H->j5 K H a (ns.map V.int)->sp [.ref a] H (λv _=>v=.bl true) λ_ _ _=>False)
  (E3:∀H e s',CX [] H s₁ (λ_ _ _=>False) e s'->False) :
  codeAny (model P w) callerA (.call (.ref fa) ⟨[.ref a],[]⟩) (λr s'=>r=.ok (.ret (.bool true))/\OldK s₁.heap s'.heap/\s'.os=s₁.os/\AllBare s'.gens) s₁:=by
 have rv:=Nm hi;have Np:=hi.length;have core:∀ H:Hp,Only H->j5 K H a (ns.map V.int)->nV P w H s₁.heap->(∀ b,H b≠none->b=a)->(H a≠none->K.lookup a=none) ->
   codeAny (model P w) callerA (.call (.ref fa) ⟨[.ref a],[]⟩) (λr s'=>r=.ok (.ret (.bool true))/\OldK s₁.heap s'.heap/\s'.os=s₁.os/\AllBare s'.gens) s₁:=by
  intro H hO hS hok hA hK;have tP:∀{b:Addr} {o:Obj},s₁.heap.get? b=some o->H b=none->(qD s₁.heap H).get? b=some o:=λe n=>Wl e n;have EJ:∀{b:Addr} {o:Obj} {es:Array DictEntry} {ep:Nat},s₁.heap.get? b=some o->o.data=.dict es ep->H b=none:=λ{b o es ep} e d=>by
   cases q:H b with
   |none=>rfl
   |some u =>
    have e':b=a:=hA b (by rw[q];simp);subst e';rw[ha]at e;cases e;have d':Data.seq vs.toArray _=Data.dict es ep:=d;cases d'
  have KD:∀{b:Addr} {m:Str->Option Value},s₁.heap.Ns b m->(qD s₁.heap H).Ns b m:=λ{b m} ⟨o,es,ep,e,d,r⟩=>⟨o,es,ep,tP e (EJ e d),d,r⟩
  have Ri:K.In (qD s₁.heap H):=λb o e=>tP (KX b o e) (by
   cases q:H b with
   |none=>rfl
   |some u =>
    have e':b=a:=hA b (by rw[q];simp);subst e'
    rw[hK (by rw[q];simp)]at e;cases e)
  have hM:Mod K mg (qD s₁.heap H):=⟨Ri,KD hns,⟨mb,KD hb,Nn⟩,let ⟨mc,h1,h2⟩:=hlim;⟨mc,KD h1,h2⟩⟩;have e0:xm P w K mg (qD s₁.heap H) callerA [] s₁ H:=⟨rfl,hM,λb o e=>Wm e,Nat.le_of_eq (Wk _ _),trivial,λb hb=>absurd (show b∈([]:List Addr)from hb) (by simp),hok,.of_eq hg⟩;refine codeAny_mono ((F _ Ri (KD hns)).run callerA [] s₁ H ⟨[.ref a],[]⟩ [.ref a] [.ref a] _ _ hr e0 (hbind s₁ (.ref a)) (.cons rfl .nil) (uI H hO hS)) λr s' h=>?_;cases r with
  |error e=>exact(E3 H e s' h).elim
  |ok fl =>
   cases fl with
   |next=>exact False.elim h
   |brk=>exact False.elim h
   |cont=>exact False.elim h
   |ret u =>
    obtain⟨v,H',os,bare,un,Nq,r',q⟩:=h;have q':v=.bl true:=q;subst q';obtain rfl:u=Value.bool true:=r';refine⟨rfl,OldK.of_keep λb o e=>?_,os,bare⟩;cases q:H b with
    |none=>exact un.keep b o e q (by intro z;exact absurd (show b∈([]:List Addr)from z) (by simp)) (by simp)
    |some u =>
     rcases hO b with z|⟨ob,xs,z⟩
     ·rw[q]at z;cases z
     ·have z2:=un.qC b ob _ z
      obtain⟨e1,_⟩:=hok b _ z;obtain⟨e2,_⟩:=Nq b _ z2;rw[e]at e1;cases e1;exact e2
 cases hk:K.lookup a with
 |some o =>
  have e:=KX a o hk;rw[ha]at e;cases e;refine core (λ_=>none) (λ_=>.inl rfl) (.inr ⟨_,vs.toArray,_,hk,rfl,rfl,rfl,by rw[Zak,Np];exact hl,by simpa using rv⟩) (λb u z=>by have z':(none:Option HO)=some u:=z;cases z') (λb z=>absurd rfl z) λz=>absurd rfl z
 |none =>
  refine core (λb=>if b=a then some (.pL { cls:=.type "list",data:=.seq vs.toArray } (.lst (ns.map V.int)))else none) (λb=>?_) (.inl (.inr ⟨{ cls:=.type "list",data:=.seq vs.toArray },if_pos rfl⟩)) (λb u z=>?_) (λb z=>?_) λ_=>hk
  ·by_cases hb:b=a
   ·exact .inr ⟨_,_,if_pos hb⟩
   ·exact .inl (if_neg hb)
  ·by_cases hb:b=a
   ·have z':=(if_pos hb).symm.trans z
    cases z';subst hb;exact⟨ha,by rw[Zaa];exact hl,vs,_,rv,ha⟩
   ·have z':=(if_neg hb).symm.trans z
    cases z'
  ·by_cases hb:b=a
   ·exact hb
   ·exact absurd (if_neg hb) z
@[reducible]def KOf{K:Zfr}{h:Heap}(_:K.In h):Zfr:=K
def Xc{l:PySem.W.OpenLaw}{n k:Nat}{q:Program}{loose:List Str}{XP:(Str->Option Value)->Heap->Prop}{YP:World->Heap->Prop}{d:DefRec}{K:Params->Zfr}{CX:World->tK}{sp:World->Sp}{x:Str}
  (hn:l.most=some n) (hn2:n<=sizeLine) (hdf:d.params.defaults=[]) (hr:i9 k callerA)
  (hY:∀(w:World) (h:Heap),YP w h->(K w.params).In h)
  (F:∀(w:World) (mg:Str->Option Value) (fa:Addr) (h:Heap),(K w.params).In h->h.Ns mainGlobals mg->mg d.name=some (.ref fa) ->
   ∃fd:FuncData,(∀(s:Shared) (u:Value),BindsTo s fd ⟨[u],[]⟩ [(x,u)]) /\
    ∀base:Heap,(K w.params).In base->base.Ns mainGlobals mg->aE l.prog w (K w.params) mg base (CX w) k fa fd [x] (sp w))
  (uI:∀(w:World) (H:Hp) (a:Addr) (ns:List Int),ns.length<=n->Only H->j5 (K w.params) H a (ns.map V.int)->sp w [.ref a] H (λv _=>v=.bl true) λ_ _ _=>False)
  (E3:∀(w:World) (H:Hp) (s:Shared) (e:Value) (s':Shared),CX w [] H s (λ_ _ _=>False) e s'->False) :
  PySem.W.WalkO q loose XP YP l.row.toRowW d [] (λf vs=>PySem.call f vs):=by
 refine Rh.Xa hn hdf λw s₀ s₁ mg mb fa o pm cd doc a vs ns G Y ho hd hcd hmg hobj hints hlen hg=>?_;have KX:=hY w _ Y;obtain⟨fd,hb,hF⟩:=F w mg fa _ KX G.T.g hmg;exact Xb KX G.T.g G.T.b G.T.builtins G.T.nolimit hg hobj hints (Zal hlen hn2) hr hF hb (λH hO hS=>uI w H a ns hlen hO hS) λH e s'=>E3 w H s₁ e s'
def Xe{l:PySem.W.OpenLaw}{n k:Nat}{q:Program}{loose:List Str}{XP:(Str->Option Value)->Heap->Prop}{YP:World->Heap->Prop}{d:DefRec}{K:Params->Zfr}{CX:tK}{sp:Zfr->Sp}{x:Str}
  (hn:l.most=some n) (hn2:n<=sizeLine) (hdf:d.params.defaults=[]) (hr:i9 k callerA)
  (hY:∀(w:World) (h:Heap),YP w h->(K w.params).In h)
  (F:∀(w:World) (mg:Str->Option Value) (fa:Addr) (h:Heap),(K w.params).In h->h.Ns mainGlobals mg->mg d.name=some (.ref fa) ->
   ∃fd:FuncData,(∀(s:Shared) (u:Value),BindsTo s fd ⟨[u],[]⟩ [(x,u)]) /\
    ∀base:Heap,(K w.params).In base->base.Ns mainGlobals mg->aE l.prog w (K w.params) mg base CX k fa fd [x] (sp (K w.params)))
  (uI:∀(K:Zfr) (H:Hp) (a:Addr) (ns:List Int),ns.length<=n->Only H->j5 K H a (ns.map V.int)->sp K [.ref a] H (λv _=>v=.bl true) λ_ _ _=>False)
  (E3:∀(H:Hp) (s:Shared) (e:Value) (s':Shared),CX [] H s (λ_ _ _=>False) e s'->False) :
  PySem.W.WalkO q loose XP YP l.row.toRowW d [] (λf vs=>PySem.call f vs) :=
 Xc (K:=K) (CX:=λ_=>CX) (sp:=λw=>sp (K w.params)) hn hn2 hdf hr hY F (λw H a ns h1 h2 h3=>uI (K w.params) H a ns h1 h2 h3) λ_ H s e s'=>E3 H s e s'
abbrev gK(s:Stmt):Arguments:=match s with
 |.FunctionDef _ a _ _ _ _ _ _ _ _=>a
 |_=>{ posonlyargs:=[],args:=[],vararg:=none,kwonlyargs:=[],kw_defaults:=[],kwarg:=none,defaults:=[] }
abbrev d8(s:Stmt):List Stmt:=match s with
 |.FunctionDef _ _ b _ _ _ _ _ _ _=>b
 |_=>[]
abbrev aj(s:Stmt):Scope:=match s with
 |.FunctionDef _ _ _ _ _ _ sc _ _ _=>sc
 |_=>{ kind:=.function,names:=[],isGenerator:=false,isCoroutine:=false }
@[reducible]def aZ:tK:=λ_ _ _ _ _ _=>False
@[reducible]def E0:XK:=λ_ _ _=>False
def yC:Passes aZ X E0:=λ_ _ _ _ _ _ _ h=>h.elim
structure KG(K:Zfr)(x qual:Str)(st:Stmt)(f:Addr)(fd:FuncData):Prop where
 ex:∃(oc:Value) (od:Option Addr) (kV doc pm:Value) (an:Option Addr) (cdv ct:Value) (osl:Array (Option Value)),
  fd=PySem.W.fnOf x qual (gK st) (d8 st) (aj st) .none kV doc pm an cdv ct/\K.lookup f=some ⟨oc,od,.func fd,osl⟩/\PySem.W.codeIn K cdv qual=true
 kp:PySem.W.keepIn K (.ref f)=true
section
variable {P:Program}{w:World}{K:Zfr}{mg:Str->Option Value}{base:Heap}
def KG.ok{x qual:Str}{st:Stmt}{f:Addr}{fd:FuncData}{N ps:List Str}{k:Nat}{sp:Sp}(F:KG K x qual st f fd)(S:aB N ps (aj st))(len:∀vs H Q E,sp vs H Q E->vs.length=ps.length)
  (hbody:∀(cdv:Value) (A:Around) (outer:List Env) (s:Shared) (H:Hp) (vs:List V) (Q:VK) (E:XK),i9 k (A.deeper (envOfC qual (aj st) s.heap.objs.size f cdv))->sp vs H Q E ->
   ∃t,tF (gE aZ P w K mg base N qual (aj st) f cdv A outer s H E).pb (d8 st) t/\t { nx:=λ_ H'=>Q .non H',rt:=Q } (start N vs) H):aE P w K mg base aZ (k+1) f fd ps sp:=by
 obtain⟨oc,od,kV,doc,pm,an,cdv,ct,osl,rfl,lk,hcd⟩:=F.ex;refine yo lk hcd S len λA outer s H vs Q E hr uI=>?_;obtain⟨t,h,q⟩:=hbody cdv A outer s H vs Q E hr uI;exact⟨t,h.pb,q⟩
def Aq{x qual:Str}{st:Stmt}{f:Addr}{oc:Value}{od an:Option Addr}{osl:Array (Option Value)}{kV doc pm cdv ct:Value}(l:K.lookup f=some ⟨oc,od,.func (PySem.W.fnOf x qual (gK st) (d8 st) (aj st) .none kV doc pm an cdv ct),osl⟩)
  (c:PySem.W.codeIn K cdv qual=true) (k:PySem.W.keepIn K (.ref f)=true):KG K x qual st f (PySem.W.fnOf x qual (gK st) (d8 st) (aj st) .none kV doc pm an cdv ct):=⟨⟨oc,od,kV,doc,pm,an,cdv,ct,osl,rfl,l,c⟩,k⟩
end
def E4(hr:i9 k A):A.units+1<cLine:=ZaS (Nat.add_le_add_left (by decide:1<=64) _) hr.units
section
variable {X:Cx}
def pv(i:Nat){x:Str}{pos:Pos}(hN:X.N[i]?=some x:=by rfl)(hv:MV X.env.scope x:=by first | exact Or.inl rfl | exact Or.inr (Or.inl rfl) | exact Or.inr (Or.inr rfl))(hd:(x == ("__debug__" : Str))=false:=by decide)
  (hcd:(x == ("__classdict__" : Str))=false:=by decide):PE X (.Name x pos) (xg i):=zT hN hv hd hcd
end
def rH{A B:Prop}(h:B):if false=true then A else B:=by rw[if_neg Zam];exact h
def rJ{A B:Prop}(h:A):if true=true then A else B:=by rw[if_pos rfl];exact h
abbrev lC(H H':Hp):Prop:=∀b o,H b=some o->H' b=some o
def lC.refl(H:Hp):lC H H:=λ_ _ h=>h
def mz:bootBuiltins "len" = some (.builtin "len"):=by decide +kernel
def Nr:bootBuiltins "int" = some (.type "int"):=by decide +kernel
def r6:bootBuiltins "list" = some (.type "list"):=by decide +kernel
def pe:bootBuiltins "tuple" = some (.type "tuple"):=by decide +kernel
def va:bootBuiltins "range" = some (.type "range"):=by decide +kernel
def Xf:bootBuiltins "isinstance" = some (.builtin "isinstance"):=by decide +kernel
def Rj:bootBuiltins "max" = some (.builtin "max"):=by decide +kernel
def Nt:bootBuiltins "min" = some (.builtin "min"):=by decide +kernel
def Nu:bootBuiltins "sorted" = some (.builtin "sorted"):=by decide +kernel
def Xg:bootBuiltins "reversed" = some (.type "reversed"):=by decide +kernel
structure Kp(ch:List Addr)(H H':Hp):Prop where
 keep:∀b o,H b=some o->b ∉ ch->H' b=some o
 tup:∀b xs,H b=some (.tup xs)->H' b=some (.tup xs)
 pL:∀b o u,H b=some (.pL o u)->H' b=some (.pL o u)
section
variable {ch:List Addr}{H H1 H2:Hp}{a l p:Addr}{o:HO}{xs ys:List V}{K:Zfr}
def Kp.refl:Kp ch H H:=⟨λ_ _ h _=>h,λ_ _ h=>h,λ_ _ _ h=>h⟩
def Kp.of_same(h:lC H H1):Kp ch H H1:=⟨λb o e _=>h b o e,λb xs e=>h b _ e,λb o u e=>h b _ e⟩
def Kp.put(h:Kp ch H H1)(ha:a∈ch)(e:H1 a=some (.lst xs)):Kp ch H (upd H1 a o) :=
 ⟨λb u q n=>by rw[ml (λz=>n (by rw[z];exact ha))];exact h.keep b u q n,
   λb u q=>by
  have r:=h.tup b u q;rw[ml (MS r e (by intro z;cases z))];exact r,
   λb u v q=>by
  have r:=h.pL b u v q
  rw[ml (MS r e (by intro z;cases z))];exact r⟩
def Kp.Nv(h:Kp ch H H1)(q:eY K H a xs):eY K H1 a xs:=by
 rcases q with(q|⟨o,q⟩)|q
 exact .inl (.inl (h.tup a xs q));exact .inl (.inr ⟨o,h.pL a o _ q⟩);exact .inr q
abbrev E5(K:Zfr)(H:Hp)(a:Addr)(xs:List V):Prop :=
 (∃o,H a=some (.pL o (.lst xs))) \/
  ∃(o:Obj) (its:Array Value) (n:Nat),K.lookup a=some o/\o.cls=.type "list" /\ o.dict=none/\o.data=.seq its n/\its.size<=sizeLine/\Vals xs its.toList
def E5.sq(h:E5 K H a xs):j5 K H a xs:=h.elim (λ⟨o,e⟩=>.inl (.inr ⟨o,e⟩)) .inr
def j5.script(hO:Only H)(q:j5 K H a xs):E5 K H a xs:=by
 rcases q with(q|⟨o,q⟩)|q
 rcases hO a with e|⟨o,ys,e⟩
 rw[e]at q;cases q;rw[e]at q;cases q;exact .inl ⟨o,q⟩;exact .inr q
def lC.up(h:H p=none):lC H (upd H p o):=λb u e=>by rw[ml (CT e h)];exact e
end
abbrev sI(K:Zfr)(H:Hp)(xs:List V)(Q:VK):Prop:=∀p H',eY K H' p xs->lC H H'->Q (.ref p) H'
section
variable {X:Cx}
def sI.new{K:Zfr}{H:Hp}{xs:List V}{Q:VK}(h:sI K H xs Q):∀p,H p=none->Q (.ref p) (upd H p (.tup xs)):=λp hp=>h p _ (eY.of uG) (lC.up hp)
def sI.it{K:Zfr}{H:Hp}{xs:List V}{Q:VK}{a:Addr}(h:sI K H xs Q)(q:eY K H a xs):Q (.ref a) H:=h a H q (lC.refl H)
abbrev vd(K:Zfr):R2:=λx y H Q=>∃a b xs ys,x=.ref a/\y=.ref b/\eY K H a xs/\eY K H b ys/\xs.length+ys.length<=sizeLine/\sI K H (xs ++ ys) Q
def wC:mr X (binaryOp .Add) (vd X.K):=by
 intro pins s σ H x y v u Q I rx ry h;obtain⟨a,b,xs,ys,rfl,rfl,ha,hb,hz,q⟩:=h;by_cases hx:xs=[];subst hx;cases rx;cases ry;obtain⟨its,r1,p1,_⟩:=I.tuple ha;obtain⟨its2,r2,p2,_⟩:=I.tuple hb;have e:its=[]:=r1.pd.mpr rfl;subst e;obtain⟨⟨cls,dd,data,sl⟩,ho,hc,n,hd⟩:=id p1;obtain⟨⟨Nb,dd2,data2,sl2⟩,ho2,hc2,n2,hd2⟩:=id p2;simp only at hc hd hc2 hd2;subst hc hd hc2 hd2;exact concat_meets ⟨_,ho,rfl⟩ ⟨_,ho2,rfl⟩ noFill_tuple_add seq_tuple_add PySem.F.slot_tuple_add PySem.F.entry_tuple_add (PySem.F.args_tuple_add_2 _ _)
  (tuple_addW0 a b #[] its2.toArray n n2 dd dd2 sl sl2 (by simp)) ⟨ho,ho2,⟨.ref b,H,I,rfl,q.it (by simpa using hb)⟩⟩
 exact WQ pins s σ H _ _ v u Q I rx ry ⟨a,b,xs,ys,rfl,rfl,ha,hb,hx,hz,λe=>q.it (by subst e;simpa using ha),λ_=>q.new⟩
def Xh{prog:Program}{w:World}{A:Around}{E:Value->Shared->Prop}{s:Shared}{t sl:Addr}{items:Array Value}{vl vu:Value}{lo hi:Option Int}{Q:Value->Shared->Prop}(ht:IsTup s.heap t items)(hs:s.heap.IsSliceOf sl vl vu .none)(pl:IsPart vl lo)(pu:IsPart vu hi)
  (hw:HT.c4 items.size 0 lo=0/\HT.c4 items.size items.size hi=items.size) (h:Q (.ref t) s):wpAny (model prog w) A (getItem (.ref t) (.ref sl)) Q E s:=by
 obtain⟨os,hos,hcs,hds⟩:=id hs;have Nc:s.TypeIs (.ref sl) "slice" := ⟨os,hos,hcs⟩;unfold getItem
 try with_reducible refine wpAny_holding ?_
 first|refine wpAny_bind (wpAny_pure ?_)|skip
 refine wpAny_bind (wpAny_sequenceKey ht.typeIs ∅ ?_)
 refine wpAny_bind (wpAny_callSpecial?_slot (name:=Str.ofString "__getitem__") ht.typeIs PyProof.Rows.slot_tuple_getitem
  (wpAny_call_entry PyProof.Rows.slot_tuple_getitem ht.typeIs entry_tuple_getitem ?_ (args_tuple_getitem _ _)))
 show wpAny _ _ (Builtin.Tuple.tupleItemsOf (.ref t) >>= _) _ _ s;refine wpAny_bind (tupleItemsOf_ ht ?_);refine wpAny_bind (wpAny_typeOf Nc ?_);rw[if_pos ∅];refine wpAny_bind (HT.QV hs pl pu ?_);have hyes:((((HT.c4 items.size 0 lo:Nat):Int) == 0 && (1:Int) == 1 && (HT.c4 items.size items.size hi-HT.c4 items.size 0 lo) == items.size)=true):=by
  rw[hw.1,hw.2];simp
 show wpAny _ _ (if(((HT.c4 items.size 0 lo:Nat):Int) == 0 && (1:Int) == 1 && (HT.c4 items.size items.size hi-HT.c4 items.size 0 lo) == items.size)=true then _ else _) _ _ s;rw[if_pos hyes];obtain⟨o,ho,hc,n,hd⟩:=id ht;unfold Builtin.Tuple.tupleIsExact
 first
  |exact wpAny_bind (wpAny_bind (wpAny_typeOf (T:="tuple") ⟨o,ho,hc⟩ (wpAny_pure (wpAny_bind (wpAny_rule (wpAny_pure ⟨_,rfl,wpAny_pure h⟩))))))
  |exact wpAny_bind (wpAny_bind (wpAny_typeOf (T:="tuple") ⟨o,ho,hc⟩ (wpAny_pure (wpAny_bind (wpAny_rule (wpAny_bind (wpAny_pure ⟨_,rfl,wpAny_pure h⟩)))))))
  |trace_state
abbrev yD(K:Zfr):V->Option Int->Option Int->Hp->VK->Prop:=λx lo hi H Q=>∃a xs,x=.ref a/\eY K H a xs/\sI K H (pP xs lo hi) Q
def Xi{xs:List V}{lo hi:Option Int}(h:HT.c4 xs.length 0 lo=0/\HT.c4 xs.length xs.length hi=xs.length):pP xs lo hi=xs:=by unfold pP;rw[h.1,h.2];simp
def Xj:Kz X (yD X.K):=by
 intro pins s σ H x v vl vu lo hi sl Q I rx hs pl pu h;obtain⟨a,xs,rfl,hx,q⟩:=h;by_cases hw:HT.c4 xs.length 0 lo=0/\HT.c4 xs.length xs.length hi=xs.length;cases rx;obtain⟨its,r,ht,hz⟩:=I.tuple hx;have hlen:its.toArray.size=xs.length:=by rw[Zak];exact r.length.symm
 refine⟨"tuple",_,PyProof.Rows.slot_tuple_getitem.lookup,ht.typeIs,?_⟩;exact Xh ht hs pl pu (by rw[hlen];exact hw) ⟨.ref a,H,I,rfl,q.it (by rw[Xi hw];exact hx)⟩;exact Ag pins s σ H _ v vl vu lo hi sl Q I rx hs pl pu ⟨a,xs,rfl,hx,hw,q.new⟩
abbrev iB(lo:Int)(n:Nat):List V:=(List.range n).map λ(k:Nat)=>V.int (lo+k)
def Xk(lo:Int)(n:Nat):(iB lo n).length=n:=by simp[iB]
def E6:d7 X (.type "range") (λxs H Q=>∃j:Int,xs=[.int j]/\∀p,H p=none->Q (.ref p) (upd H p (.lB 0 j))):=by intro pins s σ H xs us Q I r h;obtain⟨j,rfl,q⟩:=h;obtain⟨u,rfl,t,rfl⟩:=vals1 r;refine call_range_1 ⟨.ref s.heap.objs.size,_,I.laid (o:=.lB 0 j) (λb o e=>Zaf _ e) (Zag _) ?_,rfl,q _ (I.hok.fresh (Zag _))⟩;exact⟨_,_,_,Zaw _ rfl⟩
def C7:d7 X (.type "range") (λxs H Q=>∃i j:Int,xs=[.int i,.int j]/\∀p,H p=none->Q (.ref p) (upd H p (.lB i j))):=by intro pins s σ H xs us Q I r h;obtain⟨i,j,rfl,q⟩:=h;obtain⟨u,u',rfl,⟨t,rfl⟩,t',rfl⟩:=vals2 r;refine call_range_2 ⟨.ref s.heap.objs.size,_,I.laid (o:=.lB i j) (λb o e=>Zaf _ e) (Zag _) ?_,rfl,q _ (I.hok.fresh (Zag _))⟩;exact⟨_,_,_,Zaw _ rfl⟩
def Rm:∀(n:Nat) (lo:Int) (us:List Value),us.length=n->(∀(j:Nat) (v:Value),us[j]?=some v->∃t,v=.int (lo+j*1) t)->Vals (iB lo n) us
 |0,lo,[],_,_=>.nil
 |0,lo,_ :: _,h,_=>by simp at h
 |n+1,lo,[],h,_=>by simp at h
 |n+1,lo,u :: us,h,hv=>by
  have e:iB lo (n+1)=V.int lo :: iB (lo+1) n:=by
   unfold iB;rw[List.range_succ_eq_map,ZaD,ZaJ]
   congr 1
   simp;apply ZaU;intro i _;simp only[Function.comp]
   congr 1
   push_cast
   lk
  rw[e];obtain⟨t,ht⟩:=hv 0 u rfl;refine .cons ⟨t,by rw[ht];simp⟩ (Rm n (lo+1) us (by simpa using h) λj v hj=>?_);obtain⟨t',ht'⟩:=hv (j+1) v hj;refine⟨t',ht'.trans ?_⟩
  congr 1
  lk
def ve(hc:X.calm=true):d7 X (.type "list") (λxs H Q=>∃p lo hi,xs=[.ref p]/\H p=some (.lB lo hi)/\(-(2 ^ 62)<=lo/\lo<2 ^ 62/\-(2 ^ 62)<=hi/\hi<2 ^ 62)/\(hi-lo).toNat<=2 ^ 24 /\
  ∀l,H l=none->Q (.ref l) (upd H l (.lst (iB lo (hi-lo).toNat)))):=by
 intro pins s σ H xs us Q I r h;obtain⟨p,lo,hi,rfl,hp,⟨b1,b2,b3,b4⟩,hz,q⟩:=h;obtain⟨u,rfl,ru⟩:=vals1 r;cases ru;obtain⟨t,t',t'',e⟩:=(show cq X.prog X.w H s.heap p (.lB lo hi)from I.hok p _ hp);refine call_list_range (a:=lo) (b:=hi) (c:=1) (n:=(hi-lo).toNat) (I.ok.hd hc) (show IsRange s.heap p lo hi 1 t t' t'' from e) (small_one b1 b2 b3 b4) (by rw[rangeSize_one];split<;>lk) hz λh' tk acc c kp hD hI=>?_;refine⟨.ref s.heap.objs.size,_,I.laid (t':=tk) (o:=.lst (iB lo (hi-lo).toNat)) kp (Zag _) ?_,rfl,q _ (I.hok.fresh (Zag _))⟩;refine⟨by rw[Xk];exact Zal hz ∅,acc.toList,c,Rm _ _ _ (by rw[Zcl];exact hI.1) λj v hj=>hI.2 j v (by rw[<- hj,ZbM]),by simpa using hD⟩
def Rn(hl:IsTup s.heap l vs.toArray)
  (h:Q vs { s with heap:=(s.heap.push (seqObj "list" #[] 0)).update s.heap.objs.size (Obj.mapSeq (· ++ vs.toArray)) }) (hsz:vs.length<=sizeLine) :
  wpAny (model prog w) A (collect (.ref l)) Q E s:=by
 obtain⟨o,ho,hc,n,hd⟩:=id hl;unfold collect;refine wpAny_bind (wpAny_runValue (codeAny_builtin entry_proto_collect' ?_));show wpAny _ _ (do again (.builtin "list.__iadd__" ⟨[<- newList [],.ref l],[]⟩)) _ _ s;refine wpAny_bind (wpAny_newList (wpAny_pure ⟨Code.quiet_builtin _ (by decide +kernel),codeAny_builtin entry_list_iadd' ?_⟩));show wpAny _ _ (Builtin.List.listExtendWith (.ref s.heap.objs.size) (.ref l) (.ref s.heap.objs.size)) _ _ { s with heap:=s.heap.push (seqObj "list" #[] 0) };unfold Builtin.List.listExtendWith;have ho':(s.heap.push (seqObj "list" #[] 0)).get? l=some o:=Zaf _ ho;refine wpAny_bind (wpAny_typeOf (T:="tuple") ⟨o,ho',hc⟩ ?_);have ht:(Value.type "tuple" == Value.type "tuple")=true:=by rfl
 rw[if_pos (by rw[ht];simp)];refine wpAny_bind (listItems_at ho' hd ?_);refine wpAny_bind (listItems_at (xs:=#[]) (n:=0) (Zaw _ rfl) rfl ?_);rw[if_neg (by simp)];refine wpAny_bind (listUpdate_at (xs:=#[]) (n:=0) (Zaw _ rfl) rfl ?_ (ZaL _) (by show(#[] ++ vs.toArray).size<=sizeLine+1;simp only[Array.size_append,Zak,Zcn];lk));refine wpAny_pure ?_
 show wpAny (model prog w) A (do
   let o <- load s.heap.objs.size
   match o.data with
   |.seq xs _=>pure xs.toList
   |_=>unsupported "internal:collect") Q E { s with heap:=(s.heap.push (seqObj "list" #[] 0)).update s.heap.objs.size (Obj.mapSeq (· ++ vs.toArray)) }
 refine wpAny_bind (wpAny_load (get?_update_seq (Zaw _ rfl) _) ?_);show wpAny _ _ (pure ((#[]:Array Value) ++ vs.toArray).toList) Q E _;rw[show((#[]:Array Value) ++ vs.toArray).toList=vs by simp];exact wpAny_pure h
def Xl(hl:IsTup s.heap l vs.toArray\/s.heap.IsList l vs.toArray)(hI:IntsAre vs ns)(h64:vs.length<64)
  (h:∀(out:Array Value) (ns':List Int),IntsAre out.toList ns'->ns'.Perm ns->ns'.Pairwise (·<=·)->Q (.ref (s.heap.objs.size+1)) { s with heap:=sortedAll s.heap vs out }) :
  wpAny (model prog w) A (call (.builtin "sorted") [.ref l]) Q E s:=by
 rcases hl with hl|hl
 refine Calls.call_function_entry kind_sorted plain_sorted entry_sorted (args_sorted1 _) ?_;unfold Builtin.«sorted»;refine wpAny_bind (m:=checkCount "sorted" 1 1 _) (wpAny_pure ?_);refine wpAny_bind (Rn hl ?_ (Zal (Zbp h64) ∅));refine wpAny_bind (wpAny_newList ?_);have hsz:((s.heap.push (seqObj "list" #[] 0)).update s.heap.objs.size (Obj.mapSeq (· ++ vs.toArray))).objs.size=s.heap.objs.size+1:=by
  rw[Heap.size_update,size_push']
 have zS:(((s.heap.push (seqObj "list" #[] 0)).update s.heap.objs.size (Obj.mapSeq (· ++ vs.toArray))).push (seqObj "list" vs.toArray 0)).get? (s.heap.objs.size+1)=some (seqObj "list" vs.toArray 0):=by
  rw[<- hsz];exact Zaw _ rfl
 show wpAny _ _ _ _ _ { s with heap:=((s.heap.push (seqObj "list" #[] 0)).update s.heap.objs.size (Obj.mapSeq (· ++ vs.toArray))).push (seqObj "list" vs.toArray 0) };rw[hsz];refine wpAny_bind (wpAny_holding (wpAny_call_entry slot_list_sort ⟨_,zS,rfl⟩ entry_list_sort (list_sort_tree zS hI h64 λout ns' a1 a2 a3=>⟨_,rfl,?_⟩) (args_list_sort _)));exact wpAny_pure ⟨_,rfl,h out ns' a1 a2 a3⟩;exact sorted_ints hl hI h64 h
def Ro:d7 X (.builtin "sorted") (λxs H Q=>∃(p:Addr) (ns:List Int),xs=[.ref p]/\(j5 X.K H p (ns.map V.int)\/eY X.K H p (ns.map V.int))/\ns.length<64 /\
  ∀(l:Addr) (ms:List Int),H l=none->ms.Perm ns->ms.Pairwise (·<=·)->Q (.ref l) (upd H l (.lst (ms.map V.int)))):=by
 intro pins s σ H xs us Q I r h;obtain⟨p,ns,rfl,hq,h64,q⟩:=h;obtain⟨u,rfl,ru⟩:=vals1 r;cases ru;have fin:∀(its:List Value),Vals (ns.map V.int) its->(IsTup s.heap p its.toArray\/s.heap.IsList p its.toArray)->wpAny (model X.prog X.w) X.A (call (.builtin "sorted") [.ref p]) (EP X pins σ Q) X.xe s:=λits rv hp=>by
  have hl:=rv.length;rw[Zaa]at hl;refine Xl hp (Nd rv) ⋯ λout ms h1 h2 h3=>?_;obtain⟨e,he⟩:=sortedAll_at s.heap its out;have hz:ms.length=ns.length:=h2.length_eq;refine⟨.ref (s.heap.objs.size+1),_,I.laid (t':=s.toks) (o:=.lst (ms.map V.int)) (λb o q=>sortedAll_old q) (Zbu _) ?_,rfl,q _ ms (I.hok.fresh (Zbu _)) h2 h3⟩;refine⟨by rw[Zaa,hz];exact Zal (Zbp h64) ∅,out.toList,e,Nm h1,by simpa using he⟩
 rcases hq with hq|hq
 obtain⟨its,rv,pl,_⟩:=I.list hq;exact fin its rv (.inr pl.isList);obtain⟨its,rv,pl,_⟩:=I.tuple hq;exact fin its rv (.inl pl)
end
mutual
inductive Rep(K:Zfr)(H:Hp):V->PyData->Prop
 |non:Rep K H .non .none
 |bl (b:Bool):Rep K H (.bl b) (.bool b)
 |int (i:Int):Rep K H (.int i) (.int i)
 |str (x:Str):Rep K H (.str x) (.str x)
 |tup {a:Addr} {xs:List V} {ds:List PyData}:eY K H a xs->iC K H xs ds->Rep K H (.ref a) (.tuple ds)
 |lst {a:Addr} {xs:List V} {ds:List PyData}:j5 K H a xs->iC K H xs ds->Rep K H (.ref a) (.list ds)
inductive iC(K:Zfr)(H:Hp):List V->List PyData->Prop
 |nil:iC K H [] []
 |cons {v:V} {vs:List V} {d:PyData} {ds:List PyData}:Rep K H v d->iC K H vs ds->iC K H (v :: vs) (d :: ds)
end
section
variable {X:Cx}{pins:List (Addr×Obj)}{σ:St}{H:Hp}{s:Shared}
mutual
theorem Rep.reads(I:Inv X pins σ H s):∀{v:V} {d:PyData} {u:Value},Rep X.K H v d->RelV v u->∃as,Reads s.heap u d as
 |_,_,_,.non,r=>by cases r;exact⟨_,.none⟩
 |_,_,_,.bl b,r=>by cases r;exact⟨_,.bool b⟩
 |_,_,_,.int i,r=>by obtain⟨t,rfl⟩:=r;exact⟨_,.int i t⟩
 |_,_,_,.str x,r=>by obtain⟨t,rfl⟩:=r;exact⟨_,.str x t⟩
 |_,_,_,.tup q rs,r=>by
  cases r;obtain⟨its,rv,⟨o,e,c,n,hd⟩,_⟩:=I.tuple q;obtain⟨as,ra⟩:=iC.reads I rs rv;exact⟨_,.tuple e c hd (by simpa using ra)⟩
 |_,_,_,.lst q rs,r=>by
  cases r;obtain⟨its,rv,pl,_⟩:=I.list q;obtain⟨o,e,c,n,hd⟩:=pl.isList;obtain⟨as,ra⟩:=iC.reads I rs rv;exact⟨_,.list e c hd (by simpa using ra)⟩
theorem iC.reads(I:Inv X pins σ H s):∀{vs:List V} {ds:List PyData} {us:List Value},iC X.K H vs ds->Vals vs us->∃as,ReadsAll s.heap us ds as
 |_,_,_,.nil,r=>by cases r;exact⟨_,.nil⟩
 |_,_,_,.cons h t,r=>by
  cases r with
  |cons r1 r2 =>
   obtain⟨as,h1⟩:=Rep.reads I h r1;obtain⟨bs,h2⟩:=iC.reads I t r2;exact⟨_,.cons h1 h2⟩
end
abbrev Ar(K:Zfr)(neg:Bool):R2:=λx y H Q=>∃d e,Rep K H x d/\Rep K H y e/\PyData.canLay0 d=true/\PyData.canLay0 e=true/\min d.depth e.depth<=60/\Q (.bl (if neg then !PyData.eqv d e else PyData.eqv d e)) H
def Nw(hu:X.A.units+64<cLine):mr X (compareOp .Eq) (Ar X.K false):=by intro pins s σ H x y v u Q I rx ry h;obtain⟨d,e,hd,he,c1,c2,dp,q⟩:=h;obtain⟨as,ra⟩:=hd.reads I rx;obtain⟨bs,rb⟩:=he.reads I ry;exact SeqAt.eqOverData X.prog X.w X.A X.xe s v u d e as bs _ ra rb c1 c2 ⋯ ⟨.bl _,H,I,rfl,q⟩
def C8(hu:X.A.units+64<cLine):mr X (compareOp .NotEq) (Ar X.K true):=by intro pins s σ H x y v u Q I rx ry h;obtain⟨d,e,hd,he,c1,c2,dp,q⟩:=h;obtain⟨as,ra⟩:=hd.reads I rx;obtain⟨bs,rb⟩:=he.reads I ry;exact SeqAt.neOverData X.prog X.w X.A X.xe s v u d e as bs _ ra rb c1 c2 ⋯ ⟨.bl _,H,I,rfl,q⟩
end
section
variable {K:Zfr}{H:Hp}
abbrev cM(ns:List Int):List PyData:=ns.map PyData.int
def xo:∀(ns:List Int),PyData.canLayAll0 (cM ns)=true
 |[]=>rfl
 |n :: r=>by show(true && PyData.canLayAll0 (cM r))=true;rw[xo r];rfl
def As:∀(ns:List Int),PyData.depthAll (cM ns)=0
 |[]=>rfl
 |n :: r=>by show max 0 (PyData.depthAll (cM r))=0;rw[As r];rfl
def Au:∀(ns ms:List Int),PyData.eqvAll (cM ns) (cM ms)=decide (ns=ms)
 |[],[]=>rfl
 |[],_ :: _=>rfl
 |_ :: _,[]=>rfl
 |n :: ns,m :: ms=>by
  show((n == m) && PyData.eqvAll (cM ns) (cM ms))=decide (n :: ns=m :: ms);rw[Au ns ms];by_cases h:n=m;subst h;simp;simp[h]
end
end L2
namespace L2
open PySem PySem.Spec PyProof.Rows
structure Def(K:Zfr)(mg:Str->Option Value)(x:Str)(st:Stmt)(ps:List Str)(f:Addr)(fd:FuncData):Prop where
 F:KG K x x st f fd
 be:∀us:List Value,us.length=ps.length->bindArgs fd ⟨us,[]⟩=pure (ps.zip us)
 m:mg x=some (.ref f)
def Def.b{K:Zfr}{mg:Str->Option Value}{x:Str}{st:Stmt}{ps:List Str}{f:Addr}{fd:FuncData}(D:Def K mg x st ps f fd):Binds K fd ps []:=.all D.be
def dQ{K:Zfr}{h:Heap}{mg:Str->Option Value}(X:K.In h)(G:h.Ns mainGlobals mg){x:Str}{st:Stmt}{ps:List Str}{f:Addr}{oc:Value}{od an:Option Addr}{osl:Array (Option Value)}{kV doc pm cdv ct:Value}
  (hb:∀(kV doc pm:Value) (an:Option Addr) (cdv ct:Value) (us:List Value),us.length=ps.length->bindArgs (PySem.W.fnOf x x (gK st) (d8 st) (aj st) .none kV doc pm an cdv ct) ⟨us,[]⟩=pure (ps.zip us))
  (a:PySem.W.nsIn K mainGlobals x=some (some (.ref f))) (l:K.lookup f=some ⟨oc,od,.func (PySem.W.fnOf x x (gK st) (d8 st) (aj st) .none kV doc pm an cdv ct),osl⟩)
  (c:PySem.W.codeIn K cdv x=true) (k:PySem.W.keepIn K (.ref f)=true):∃f fd,Def K mg x st ps f fd :=
 ⟨f,_,Aq l c k,hb kV doc pm an cdv ct,PySem.W.mg_of X G a⟩
def Def.xq{K:Zfr}{mg:Str->Option Value}{x p:Str}{st:Stmt}{f:Addr}{fd:FuncData}(D:Def K mg x st [p] f fd)(s:Shared)(u:Value):BindsTo s fd ⟨[u],[]⟩ [(p,u)]:=.of_eq (D.be [u] rfl)
def uy{K:Zfr}{h:Heap}{mg:Str->Option Value}(X:K.In h)(G:h.Ns mainGlobals mg){x:Str}(z:PySem.W.nsIn K mainGlobals x=some none):mg x=none:=PySem.W.mg_none_of X G z
def C9(h:j<n):oV n (j:Int)=some j:=by unfold oV;rw[if_pos ⋯,if_pos ⋯];simp
def Av{α:Type}{xs:List α}{i:Int}(h0:0<=i)(h1:i<xs.length):∃v,eZ xs i=some v/\v∈xs:=by
 have hi:i.toNat<xs.length:=by lk
 refine⟨xs[i.toNat],?_,Zch hi⟩;have:=yq (xs:=xs) (j:=i.toNat) (v:=xs[i.toNat]) (by simp[hi])
 rwa [ZaG h0]at this
def dT{c:Prop}[Decidable c](h:decide c=true):c:=of_decide_eq_true h
abbrev vf(H:Hp)(f:Addr):Prop:=∃o m:Int,H f=some (.lst [.int o,.int m])/\0<=o/\0<=m/\m<4294967296
abbrev Ev(f:Addr)(H0:Hp)(σ:St)(t:TE)(R:V->Hp->Prop):Prop :=
 ∀H Q,vf H f->Kp [f] H0 H->(∀v H',R v H'->vf H' f->Kp [f] H0 H'->Kp [f] H H'->Q v H')->t σ H Q
section
variable {K:Zfr}{f:Addr}{H0:Hp}{σ:St}{i:Nat}{t u ta tb:TE}{R R':V->Hp->Prop}{P P' P2:Int->Prop}{L M:Nat}
def uz(h:σ[i]?=some (some v))(hr:∀H,Kp [f] H0 H->R v H):Ev f H0 σ (xg i) R:=λH Q hf k q=>⟨v,h,q v H (hr H k) hf k Kp.refl⟩
end
def E7:∀(names:List (Str×NameKind)) (n:Nat) (acc:List (Str×Addr)),cellsFrom n names acc=cellsFrom n names [] ++ acc
 |[],_,_=>rfl
 |(x,k) :: r,n,acc=>by
  show(if k == .cell then cellsFrom (n+1) r ((x,n) :: acc)else cellsFrom n r acc)=(if k == .cell then cellsFrom (n+1) r [(x,n)]else cellsFrom n r []) ++ acc;by_cases hk:(k == NameKind.cell)=true;rw[if_pos hk,if_pos hk,E7 r (n+1) ((x,n) :: acc),E7 r (n+1) [(x,n)],Zbx];rfl;rw[if_neg hk,if_neg hk];exact E7 r n acc
def Nx:∀(names:List (Str×NameKind)) (n:Nat),(x,c)∈cellsFrom n names []->(x,NameKind.cell)∈names/\n<=c
 |[],_,h=>nomatch h
 |(y,k) :: r,n,h=>by
  have h':(x,c)∈(if k == .cell then cellsFrom (n+1) r [(y,n)]else cellsFrom n r []):=h;by_cases hk:(k == NameKind.cell)=true;rw[if_pos hk,E7]at h';rcases ZaA.mp h' with h'|h'
  obtain⟨h1,h2⟩:=Nx r (n+1) h';exact⟨Zas _ h1,by lk⟩;have e:(x,c)=(y,n):=by simpa using h'
  cases e;have e2:k=NameKind.cell:=by simpa using hk
  subst e2;exact⟨Zaj,Zag _⟩;rw[if_neg hk]at h';obtain⟨h1,h2⟩:=Nx r n h';exact⟨Zas _ h1,h2⟩
def Ny(f:Str×NameKind->List (Str×Addr)->Sem (ForInStep (List (Str×Addr))))
  (hf:∀name kind cs,f (name,kind) cs=if kind == .free then(do let c <- cellOf env name;pure (.yield ((name,c) :: cs)))else pure (.yield cs)) :
  ∀(names:List (Str×NameKind)) (acc:List (Str×Addr)),(∀y∈names,y.2=NameKind.free->∃c,env.cells.lookup y.1=some c) ->
   ∃cl,(forIn names acc f:Sem (List (Str×Addr)))=pure cl/\(∀n c,(n,c)∈cl->(n,c)∈acc\/(env.cells.lookup n=some c/\(n,NameKind.free)∈names))/\(∀p∈acc,p∈cl)/\∀n,(n,NameKind.free)∈names->∃c,(n,c)∈cl
 |[],acc,_=>⟨acc,by rw[List.forIn_nil],λn c h=>.inl h,λp h=>h,λn h=>nomatch h⟩
 |(x,k) :: r,acc,h=>by
  have hr:∀y∈r,y.2=NameKind.free->∃c,env.cells.lookup y.1=some c:=λy hy=>h y (Zas _ hy);by_cases hk:k=NameKind.free;subst hk;obtain⟨c,hc⟩:=h (x,.free) Zaj rfl;have e:cellOf env x=pure c:=by unfold cellOf;rw[hc]
  obtain⟨cl,e1,h1,h2,h3⟩:=Ny f hf r ((x,c) :: acc) hr;refine⟨cl,?_,λn d hd=>?_,λp hp=>h2 p (Zas _ hp),λn hn=>?_⟩;rw[List.forIn_cons,hf,if_pos (by rfl),e];exact e1;rcases h1 n d hd with q|⟨q,q'⟩
  rcases ZaC.mp q with q|q
  cases q;exact .inr ⟨hc,Zaj⟩;exact .inl q;exact .inr ⟨q,Zas _ q'⟩;rcases ZaC.mp hn with q|q
  cases q;exact⟨c,h2 _ Zaj⟩;exact h3 n q;obtain⟨cl,e1,h1,h2,h3⟩:=Ny f hf r acc hr;have hb:¬((k == NameKind.free)=true):=by simpa using hk
  refine⟨cl,?_,λn d hd=>?_,h2,λn hn=>?_⟩;rw[List.forIn_cons,hf,if_neg hb];exact e1;rcases h1 n d hd with q|⟨q,q'⟩
  exact .inl q;exact .inr ⟨q,Zas _ q'⟩;rcases ZaC.mp hn with q|q
  cases q;exact absurd rfl hk;exact h3 n q
def Rq(h:∀y∈scope.names,y.2=NameKind.free->∃c,env.cells.lookup y.1=some c):
  ∃cl,closureFor scope env=pure cl/\(∀n c,(n,c)∈cl->env.cells.lookup n=some c/\(n,NameKind.free)∈scope.names)/\∀n,(n,NameKind.free)∈scope.names->∃c,(n,c)∈cl:=by
 have key:∀ (f:Str×NameKind->List (Str×Addr)->Sem (ForInStep (List (Str×Addr)))),(∀ name kind cs,f (name,kind) cs=if kind == .free then(do let c <- cellOf env name;pure (.yield ((name,c) :: cs)))else pure (.yield cs)) ->
   ∃cl,((forIn scope.names [] f:Sem (List (Str×Addr))) >>= λr=>pure r)=pure cl/\(∀n c,(n,c)∈cl->env.cells.lookup n=some c/\(n,NameKind.free)∈scope.names)/\∀n,(n,NameKind.free)∈scope.names->∃c,(n,c)∈cl:=λf hf=>by
  obtain⟨cl,e,h1,_,h3⟩:=Ny f hf scope.names [] h;refine⟨cl,?_,λn c hc=>(h1 n c hc).elim (λz=>nomatch z) id,h3⟩;rw[e];rfl
 simp only[closureFor];exact key _ λname kind cs=>by cases hk:kind == NameKind.free<;>simp[hk]
def ltN{a b:Addr}(h:a<b):@LT.lt Nat _ a b:=h
def zR{a b:Addr}(h:@LT.lt Nat _ a b):a≠b:=ZaR h
def Rr{a b:Addr}(h:@LT.lt Nat _ b a):a≠b:=Nat.ne_of_gt h
def Xm
  (h:∀h',h'.Ns s.heap.objs.size (λ_=>none)->(∀b o,s.heap.get? b=some o->h'.get? b=some o)->CellsOk h' (s.heap.objs.size+1) (cellsFrom (s.heap.objs.size+1) scope.names []) ->
   Q { scope:=scope,locals:=s.heap.objs.size,globals:=g,cells:=cellsFrom (s.heap.objs.size+1) scope.names cl,qual:=q,func:=none,code:=env.code,frame:=env.frame,builtins:=env.builtins } { s with heap:=h' }) :
  wpAny M A (newFunctionEnv scope g cl [] q none .none (some env)) Q E s:=by
 simp only[newFunctionEnv,Option.isSome_some,if_true];refine wpAny_bind (wpAny_alloc ?_);refine wpAny_bind (wpAny_layCells _ (λname kind cells=>by cases hkc:kind == NameKind.cell<;>simp[hkc]) _ _ _ _ ?_);have ok:=cellsFrom_ok scope.names (s.heap.push { cls:=.type "dict",data:=.dict #[] }) (s.heap.objs.size+1) [] ⟨λ_ _ hm=>(nomatch hm),List.Pairwise.nil⟩ (by rw[ZbI];exact Zag _);rw[ZbI]at ok;rw[show({ s with heap:=s.heap.push { cls:=.type "dict",data:=.dict #[] } }:Shared).heap.objs.size=s.heap.objs.size+1 from ZbI ..];refine wpAny_bind ?_;rw[List.forIn_nil];refine wpAny_pure (wpAny_pure ?_);exact h _ ((Heap.Ns.new s.heap (.type "dict")).keeps (pushCells_keeps _ _)) (λb o e=>pushCells_keeps _ _ b o (Zaf _ e)) ok
abbrev aU(X:Cx)(N:List Str)(scope:Scope)(cells:List (Str×Addr))(C:Addr)(fp:List Addr)(s:Shared)(H:Hp):Cx where
 prog:=X.prog
 w:=X.w
 K:=X.K
 mg:=X.mg
 base:=X.base
 A:=X.A
 N:=N
 s₀:=s
 H₀:=H
 env:=compEnvC scope cells C X.env
 outer:=X.stack
 stack:=X.stack
 ex:=fp
 fn:=λx=>decide (scope.names.lookup x=some .cell)
 calm:=X.calm
 pn:=[]
 xe:=λ_ _=>False
abbrev vg(scope sc:Scope):Scope :=
 { scope with names:=scope.names.map λ(n,k)=>if(k == .free && sc.kind == .function && sc.names.lookup n == some .cell)then(n,.cell)else(n,k) }
structure vh(sc scope:Scope)(own fr:List Str):Prop where
 kind:scope.kind=.function
 nd:(own ++ fr).Nodup
 Dc:(scope.names.map (·.1)).Nodup
 free:∀y∈scope.names,y.2=.free->sc.names.lookup y.1=some .cell\/sc.names.lookup y.1=some .free
 Nz:∀x∈fr,scope.names.lookup x=some .free
structure iD(X:Cx)(scope:Scope)(own fr:List Str)(js:List Nat):Prop where
 c:vh X.env.scope scope own fr
 ix:js.map (λj=>X.N[j]?)=fr.map some
def iD.kind(S:iD X scope own fr js):scope.kind=.function:=S.c.kind
def iD.Dc(S:iD X scope own fr js):(scope.names.map (·.1)).Nodup:=S.c.Dc
def iD.Nz(S:iD X scope own fr js):∀x∈fr,scope.names.lookup x=some .free:=S.c.Nz
def iD.free(S:iD X scope own fr js):∀y∈scope.names,y.2=.free->X.env.kindOf y.1=some .cell\/X.env.kindOf y.1=some .free:=S.c.free
def E8{α:Type}:∀{l:List (Str×α)} {n:Str} {c:α},(l.map (·.1)).Nodup->(n,c)∈l->l.lookup n=some c
 |(k,v) :: r,n,c,nd,h=>by
  obtain⟨h1,h2⟩:=Zbw.mp nd;rw[ZbJ];rcases ZaC.mp h with e|h
  cases e;simp
  have:(n == k)=false:=beq_eq_false_iff_ne.mpr λe=>h1 (by rw[<- e];exact Zau.mpr ⟨(n,c),h,rfl⟩)
  rw[this];exact E8 h2 h
def Rt(scope:Scope)(env:Env)(x:Str):(relabel scope env).names.lookup x=none/\scope.names.lookup x=none \/
  ∃k,scope.names.lookup x=some k/\(relabel scope env).names.lookup x=some (if(k == .free && env.scope.kind == .function && env.kindOf x == some .cell)then .cell else k):=by
 have key:∀ names:List (Str×NameKind),(names.map λ(n,k)=>if(k == NameKind.free && env.scope.kind == .function && env.kindOf n == some .cell)then(n,NameKind.cell)else(n,k)).lookup x=none/\names.lookup x=none \/
   ∃k,names.lookup x=some k/\(names.map λ(n,k)=>if(k == NameKind.free && env.scope.kind == .function && env.kindOf n == some .cell)then(n,NameKind.cell)else(n,k)).lookup x=some (if(k == .free && env.scope.kind == .function && env.kindOf x == some .cell)then .cell else k):=by
  intro names
  induction names with
  |nil=>exact .inl ⟨rfl,rfl⟩
  |cons p r ih =>
   obtain⟨n,k⟩:=p;rw[ZaD];cases hx:x == n with
   |true =>
    have e:x=n:=by simpa using hx
    subst e;refine .inr ⟨k,by simp[ZbJ],?_⟩;by_cases hc:(k == NameKind.free && env.scope.kind == .function && env.kindOf x == some .cell)=true;simp only[if_pos hc];simp[ZbJ];simp only[if_neg hc];simp[ZbJ]
   |false =>
    have e1:∀q:NameKind,(((n,q) :: (r.map λ(n,k)=>if(k == NameKind.free && env.scope.kind == .function && env.kindOf n == some .cell)then(n,NameKind.cell)else(n,k))).lookup x)=((r.map λ(n,k)=>if(k == NameKind.free && env.scope.kind == .function && env.kindOf n == some .cell)then(n,NameKind.cell)else(n,k)).lookup x):=λq=>by rw[ZbJ,hx]
    have e2:((n,k) :: r).lookup x=r.lookup x:=by rw[ZbJ,hx]
    rw[e2];by_cases hc:(k == NameKind.free && env.scope.kind == .function && env.kindOf n == some .cell)=true;simp only[if_pos hc];rw[e1];exact ih;simp only[if_neg hc];rw[e1];exact ih
 exact key scope.names
abbrev lM(n:Nat)(js:List Nat)(σ:St):St:=List.replicate n none ++ js.map λj=>σ.getD j none
def Inv.E9{X:Cx}{pins:List (Addr×Obj)}{σ:St}{H:Hp}{s:Shared}{a:Addr}{o:HO}(I:Inv X pins σ H s)(f:oB X pins H a)(new:cq X.prog X.w (upd H a o) s.heap a o):Inv X pins σ (upd H a o) s:=by
 obtain⟨f0,f1,f2,f3,f4,f5⟩:=f;have ne:∀b u,H b=some u->b≠a:=λb u e z=>by rw[z,f0]at e;cases e
 refine I.step (h':=s.heap) (H':=upd H a o) (g':=s.gens) (d':=s.drawn) (t':=s.toks) (ch:=[a]) (λb hb=>?_) (λb u _ _ _ e _=>e) (λb u _ _ _ e _=>⟨u.slots,e⟩) (λb u hb e n=>?_) (λb u _ e=>⟨u,e⟩)
  (λb xs e=>by rw[ml (ne b _ e)];exact e) (λb u xs e=>by rw[ml (ne b _ e)];exact e) (λb ps e=>⟨#[],by rw[ml (ne b _ e),e];simp⟩) (λm hm=>hm) (λb u e=>?_) I.bare
 have e:b=a:=by simpa using hb
 subst e;exact⟨f3,f1,f4,f5⟩;rw[ml (λz=>hb (by simp[z]))];exact n;by_cases hb:b=a;subst hb;rw[uG]at e;cases e;exact new;rw[ml hb]at e;exact(I.hok b u e).stay (λc v _ q=>q) (λc q=>by rw[ml (ne c _ q)];exact q) λc xs q=>by rw[ml (ne c _ q)];exact q
abbrev PF(X:Cx)(ifs:List Expr)(t:TT):Prop :=
 ∀(pins:List (Addr×Obj)) (s:Shared) (σ:St) (H:Hp) (Q:Bool->Hp->Prop),Inv X pins σ H s->t σ H Q ->
  wpAny (model X.prog X.w) X.A (forIn ifs true λc r=>if r=true then do let ok <- isTrue c X.env (eval c X.env);pure (ForInStep.yield ok)else pure (ForInStep.yield r)) (TP X pins σ Q) X.xe s
def sJ:PF X [] (λ_ H Q=>Q true H):=λ_ _ _ H _ I h=>wpAny_tests_nil ⟨H,I,h⟩
def NA(h:PT X c t):PF X [c] t:=λpins s σ H Q I hw=>wpAny_tests_one (h pins s σ H Q I hw)
def Xn(I:Nat->Shared->Prop)
  (turn:∀n s,I n s->wpAny (model prog w) A (pyNext it) (λr s₁=>match r with
   |none=>R (.ok .next) s₁
   | some v=>wpAny (model prog w) A (letOwnedTupleGo target it v) (λ_ s₁'=>wpAny (model prog w) A (assign target env v) (λ_ s₂ =>
     wpAny (model prog w) A (forIn ifs true λc r=>if r=true then do let ok <- isTrue c env (eval c env);pure (ForInStep.yield ok)else pure (ForInStep.yield r)) (λok s₃ =>
      if ok=true then wpAny (model prog w) A (eval elt env) (λx s₄ =>
       wpAny (model prog w) A (call (.builtin "list.append") [acc,x]) (λ_ s₅=>∃m,m<n/\I m s₅) (λ_ _=>False) s₄) (λ_ _=>False) s₃
      else∃m,m<n/\I m s₃) (λ_ _=>False) s₂) (λ_ _=>False) s₁') (λ_ _=>False) s₁) (λ_ _=>False) s)
  (n:Nat) (h:I n s) :
  codeAny (model prog w) A (.compLoop (.ListComp elt [⟨target,iter,ifs,0⟩] scope pos) 0 it acc env) R s:=by
 refine codeAny_loop rfl I (λn s hI=>?_) n h;show wpAny _ A ((compTurn (.ListComp elt [⟨target,iter,ifs,0⟩] scope pos) 0 it acc env).onRaise (λx=>do noteFrame x env;theTreesLotGoes x)) _ _ s;refine wpAny_noted ?_;rw[compTurn_list];refine wpAny_bind (wpAny_standAt (wpAny_bind (wpAny_mono (turn n s hI) (λr s₁ h₁=>?_) λ_ _ h'=>h'.elim)));cases r with
 |none=>exact wpAny_pure h₁
 |some v =>
  refine wpAny_bind (wpAny_mono h₁ (λ_ s₁' h₁'=>?_) λ_ _ h'=>h'.elim);refine wpAny_bind (wpAny_mono h₁' (λ_ s₂ h₂=>wpAny_bind (wpAny_mono h₂ (λok s₃ h₃=>?_) λ_ _ h'=>h'.elim)) λ_ _ h'=>h'.elim);cases ok with
  |false=>exact wpAny_pure ⟨rfl,h₃⟩
  |true =>
   exact wpAny_bind (wpAny_bind (wpAny_mono h₃ (λx s₄ h₄=>wpAny_bind (wpAny_mono h₄ (λ_ s₅ h₅=>wpAny_pure (wpAny_pure ⟨rfl,h₅⟩)) λ_ _ h'=>h'.elim)) λ_ _ h'=>h'.elim))
abbrev Aw(J:It)(n:Nat)(js:List Nat)(g:TG)(tc:TT)(te:TE)(σ:St)(H1:Hp)(Q:VK):Prop :=
 ∃W:Nat->Nat->List V->St->Hp->Prop,(∃m,W 0 m [] (lM n js σ) H1)/\∀i m ys σ' H',W i m ys σ' H' ->
  ys.length<sizeLine/\((J.stop i H'/\∀p,H' p=none->Q (.ref p) (upd H' p (.lst ys))) \/
   (J.go i H'/\∀x H2,J.xj i H' x H2->g x σ' H2 λσ2 H3=>tc σ2 H3 λb H4=>if b=true then te σ2 H4 λy H5=>∃m',m' < m/\W (i+1) m' (ys ++ [y]) σ2 H5 else∃m',m' < m/\W (i+1) m' ys σ2 H4))
abbrev vk(wi:TI)(n:Nat)(js:List Nat)(g:TG)(tc:TT)(te:TE):TE:=λσ H Q=>wi σ H λJ H1=>Aw J n js g tc te σ H1 Q
section
variable {X:Cx}{pins:List (Addr×Obj)}{σ:St}{tg iter elt:Expr}{ifs:List Expr}{scope:Scope}{pos:Pos}{own fr:List Str}{js:List Nat}{g:TG}{tc:TT}{te:TE}{wi:TI}
def Rv{H2:Hp}{s2:Shared}{it:Addr}{fp:List Addr}{tn:Nat->Heap->Prop}{J:It}{Q:VK}{E:Value->Shared->Prop}{cl:List (Str×Addr)}{RR:Value->Addr->Result->Shared->Prop}
  (hc:X.calm=true) (S:iD X scope own fr js) (hg:∀cells C fp s H,PG (aU X (own ++ fr) scope cells C fp s H) tg g) (hf:∀cells C fp s H,PF (aU X (own ++ fr) scope cells C fp s H) ifs tc) (he:∀cells C fp s H,PE (aU X (own ++ fr) scope cells C fp s H) elt te)
  (I2:Inv X pins σ H2 s2) (T:Turn X.prog X.w X.K tg J fp it tn) (st2:tn 0 s2.heap) (f2:∀b∈fp,oB X pins H2 b)
  (sL:∀n c,(n,c)∈cl->X.env.cells.lookup n=some c/\(n,NameKind.free)∈scope.names) (vm:∀n,(n,NameKind.free)∈scope.names->∃c,(n,c)∈cl)
  (W:Nat->Nat->List V->St->Hp->Prop) (m0:Nat) (w0:W 0 m0 [] (lM own.length js σ) H2)
  (turn:∀i m ys σ' H',W i m ys σ' H'->ys.length<sizeLine/\((J.stop i H'/\∀p,H' p=none->Q (.ref p) (upd H' p (.lst ys))) \/
   (J.go i H'/\∀x H2,J.xj i H' x H2->g x σ' H2 λσ2 H3=>tc σ2 H3 λb H4=>if b=true then te σ2 H4 λy H5=>∃m',m' < m/\W (i+1) m' (ys ++ [y]) σ2 H5 else∃m',m' < m/\W (i+1) m' ys σ2 H4)))
  (fin:∀(acc C:Addr) (H':Hp) (s':Shared) (v:V),v=.ref acc->Inv X pins σ H' s'->oB X pins H' C->(∃m,s'.heap.Ns C m)->Q v H'->RR (.ref acc) C (.ok .next) s') :
  wpAny (model X.prog X.w) X.A (newList []) (λacc s3=>wpAny (model X.prog X.w) X.A (newFunctionEnv scope X.env.globals cl [] X.env.qual none .none (some X.env)) (λcenv s4 =>
   codeAny (model X.prog X.w) X.A (.compStart (.ListComp elt [⟨tg,iter,ifs,0⟩] scope pos) 0 (.ref it) acc { cenv with scope:=relabel scope X.env }) (RR acc cenv.locals) s4) E s3) E s2:=by
 refine wpAny_newObj_type ?_;refine Xm λh4 hns Rw qF=>?_;have hA:s2.heap.objs.size<(s2.heap.push { cls:=.type "list",data:=.seq ([]:List Value).toArray }).objs.size:=by rw[ZbI];exact Zbf _
 generalize hC:(s2.heap.push { cls:=.type "list",data:=.seq ([]:List Value).toArray }).objs.size=C at hns qF hA ⊢;generalize hac:s2.heap.objs.size=acc at hA ⊢;have NC:acc≠C:=ZaR hA;have old:∀b o,s2.heap.get? b=some o->h4.get? b=some o:=λb o e=>Rw b o (Zaf _ e);have hacc:h4.get? acc=some { cls:=.type "list",data:=.seq ([]:List Value).toArray }:=Rw _ _ (by rw[<- hac];exact Zaw _ rfl);have ND:∀x c,(x,c)∈cellsFrom (C+1) scope.names []->h4.IsCell c none/\C+1<=c/\scope.names.lookup x=some .cell:=λx c h=>⟨(qF.empty x c h).1,(qF.empty x c h).2,E8 S.Dc (Nx _ _ h).1⟩;have lk:∀x c,(cellsFrom (C+1) scope.names cl).lookup x=some c->(h4.IsCell c none/\C+1<=c/\(x,c)∈cellsFrom (C+1) scope.names [])\/(X.env.cells.lookup x=some c/\scope.names.lookup x=some .free):=λx c h=>by
  rw[E7]at h;rcases ZaA.mp (PySem.mem_of_lookup h)with q|q
  exact .inl ⟨(ND x c q).1,(ND x c q).2.1,q⟩;exact .inr ⟨(sL x c q).1,E8 S.Dc (sL x c q).2⟩
 have NF:∀x c,X.env.cells.lookup x=some c->c<s2.heap.objs.size:=λx c h=>by
  obtain⟨v,z⟩:=I2.cell x c h;exact z.lt
 have tQ:∀x c,(cellsFrom (C+1) scope.names cl).lookup x=some c->c≠C/\c≠acc/\H2 c=none/\∀b∈fp,c≠b:=λx c h=>by
  rcases lk x c h with⟨_,h1,_⟩|⟨h1,_⟩
  refine⟨Rr ⋯,Rr ⋯,I2.hok.fresh ⋯,λb hb z=>?_⟩;obtain⟨o,e,_⟩:=T.obj 0 _ st2 b hb;have:=ltN (Zay e);rw[<- z]at this;lk
  have:=ltN (NF x c h1)
  exact⟨zR ⋯,zR ⋯,I2.ni x c h1,λb hb=>(f2 b hb).2.2.2.2.1 x c h1⟩
 have Fb:∀x,scope.names.lookup x=some .free->∃c,X.env.cells.lookup x=some c/\(cellsFrom (C+1) scope.names cl).lookup x=some c:=λx h=>by
  obtain⟨c,Rx⟩:=vm x (PySem.mem_of_lookup h);have hc1:=(sL x c Rx).1;have hs:((cellsFrom (C+1) scope.names cl).lookup x).isSome=true:=by
   refine PySem.W.cellsFrom_some scope.names (C+1) cl (.inr ?_);cases q:cl.lookup x with
   |some d=>rfl
   |none =>
    exfalso;have:∀{l:List (Str×Addr)},(x,c)∈l->l.lookup x≠none:=by
     intro l
     induction l with
     |nil=>intro h;exact nomatch h
     |cons p r ih =>
      intro h z;obtain⟨k,v⟩:=p;rw[ZbJ]at z;cases hb:x == k with
      |true=>rw[hb]at z;cases z
      |false =>
       rw[hb]at z;rcases ZaC.mp h with e|h
       cases e;simp at hb;exact ih h z
    exact this Rx q
  obtain⟨d,hd⟩:=ZbX.mp hs;rcases lk x d hd with⟨_,_,h2⟩|⟨h1,_⟩
  have:=(ND x d h2).2.2
  rw[h]at this;cases this;rw[hc1]at h1;cases h1;exact⟨c,hc1,hd⟩
 have KH:∀b∈fp,b≠C/\b≠acc:=λb hb=>by
  obtain⟨o,e,_⟩:=T.obj 0 _ st2 b hb;have:=ltN (Zay e);exact⟨zR ⋯,zR ⋯⟩
 have Xo:(relabel scope X.env).kind=.function:=S.kind;have ok:(aU X (own ++ fr) scope (cellsFrom (C+1) scope.names cl) C fp s2 H2).Ok:=by
  refine⟨I2.ok.mod,Xo,I2.ok.glob,I2.ok.blt,?_,λx y c h1 h2=>?_,λx hx=>?_,λx c hx h=>?_,I2.ok.hd,I2.ok.frames,.inl rfl,λb hb=>⟨(KH b hb).1,λx c h=>(tQ x c h).2.2.2 b hb⟩,I2.bs,Zal I2.ok.yd I2.sz,λb o e hb=>?_,λb hb z=>?_,I2.stack,I2.tD⟩;show s2.heap.objs.size<=C;lk;rcases lk x c h1 with⟨_,q1,q2⟩|⟨q1,_⟩
  rcases lk y c h2 with⟨_,r1,r2⟩|⟨r1,_⟩
  exact name_of_addr qF.apart q2 r2
  have:=ltN (NF y c r1);lk
  rcases lk y c h2 with⟨_,r1,r2⟩|⟨r1,_⟩
  have:=ltN (NF x c q1);lk
  exact I2.ok.inj x y c q1 r1;have hx':(relabel scope X.env).names.lookup x=some .cell\/(relabel scope X.env).names.lookup x=some .free:=hx;rcases Rt scope X.env x with⟨e,_⟩|⟨k,e1,e2⟩
  rcases hx' with z|z<;>(rw[e]at z;cases z)
  by_cases hk:k=.free;subst hk;obtain⟨c,_,h⟩:=Fb x e1;exact⟨c,h⟩;have hk':k=.cell:=by
   have hb:(k == NameKind.free)=false:=beq_eq_false_iff_ne.mpr hk;rw[hb]at e2;simp only[Bool.false_and,ZaT,if_false]at e2;rcases hx' with z|z
   rw[e2]at z;exact Zar z;rw[e2]at z;exact absurd (Zar z) hk
  subst hk';exact ZbX.mp (PySem.W.cellsFrom_some scope.names (C+1) cl (.inl e1));have hx':scope.names.lookup x=some .cell:=of_decide_eq_true hx;show s2.heap.objs.size<=c;rcases lk x c h with⟨_,q,_⟩|⟨_,q⟩
  lk;rw[hx']at q;cases q;rcases(f2 b hb).2.2.2.1 with z|z
  exact I2.ok.uQ b o e z;have h1:@LT.lt Nat _ b X.base.objs.size:=Zay e;have h2:=I2.ok.yd;lk;rcases ZaC.mp (I2.pN b z)with e|e
  exact(f2 b hb).2.1 e;exact(f2 b hb).2.2.1 e
 have I4:Inv (aU X (own ++ fr) scope (cellsFrom (C+1) scope.names cl) C fp s2 H2) [(acc,{ cls:=.type "list",data:=.seq ([]:List Value).toArray })] (lM own.length js σ) H2 { s2 with heap:=h4 }:=by
  refine⟨ok,rfl,I2.bare,Un.kept old,⟨_,hns,λi x v e1 e2 e3=>?_⟩,λx c h=>?_,I2.hok.fresh (by show s2.heap.objs.size<=C;lk),λx c h=>(tQ x c h).2.2.1,λp hp=>?_,I2.hok.kept old,?_⟩;have Dd:(own ++ fr)[i]?=some x:=e1;unfold lM at e2;by_cases hi:i<own.length;rw[Zap (by simpa using hi),Zb6]at e2;split at e2<;>cases e2;rw[Zax (by simpa using hi),Zb9,Zad]at e2;rw[Zax ⋯]at Dd;cases hj:js[i-own.length]? with
  |none=>rw[hj]at e2;cases e2
  |some j =>
   rw[hj]at e2;have Fc:σ.getD j none=some v:=Zar e2;have hN:X.N[j]?=some x:=by
    have q:=congrArg (λl=>l[i-own.length]?) S.ix;simp only[Zad,hj,Dd,Option.map_some]at q;exact Zar q
   have hσ:σ[j]?=some (some v):=by
    rw[Zah]at Fc;cases q:σ[j]? with
    |none=>rw[q]at Fc;cases Fc
    |some o=>rw[q]at Fc;exact congrArg some Fc
   have hfr:scope.names.lookup x=some .free:=S.Nz x (Zai Dd);have hk:=S.free _ (PySem.mem_of_lookup hfr) rfl;obtain⟨m,_,hl⟩:=I2.loc;obtain⟨u,ru,lo⟩:=hl j x v hN hσ (by rcases hk with k|k;exact .inr (.inl k);exact .inr (.inr k));refine⟨u,ru,.inr ⟨?_,?_⟩⟩;rcases Rt scope X.env x with⟨_,e⟩|⟨k,q1,q2⟩
   rw[hfr]at e;cases e;rw[hfr]at q1;cases q1;have Xp:(compEnvC scope (cellsFrom (C+1) scope.names cl) C X.env).kindOf x=some (if(NameKind.free == .free && X.env.scope.kind == .function && X.env.kindOf x == some .cell)=true then .cell else .free):=q2;rw[show(aU X (own ++ fr) scope (cellsFrom (C+1) scope.names cl) C fp s2 H2).env.kindOf x=_ from Xp];split;exact .inl rfl;exact .inr rfl;rcases lo with⟨k,_⟩|⟨_,c,hc1,hc2⟩
   rcases hk with k'|k'<;>(rw[k]at k';cases k')
   obtain⟨d,hd1,hd2⟩:=Fb x hfr;rw[hc1]at hd1;cases hd1;exact⟨c,hd2,hc2.keeps old⟩
  rcases lk x c h with⟨q,_,_⟩|⟨q,_⟩
  exact⟨_,q⟩;obtain⟨v,z⟩:=I2.cell x c q;exact⟨v,z.keeps old⟩;have e:p=(acc,{ cls:=.type "list",data:=.seq ([]:List Value).toArray }):=by simpa[aU]using hp
  subst e;refine⟨hacc,I2.hok.fresh ⋯,NC,λz=>?_,λv z=>nomatch z⟩;rcases ZaC.mp (I2.pN acc z)with e|e
  have:=ltN I2.lt
  rw[<- e]at this;lk;exact I2.Ee ⋯ e;show(lM own.length js σ).length=(own ++ fr).length;have q:=congrArg List.length S.ix;simp only[Zaa]at q;unfold lM;rw[Zae,Zb9,Zaa,Zae,q]
 have NG:∀{H':Hp} {ob:Obj},(∀b∈fp,H' b=none)->∀b∈fp,oB (aU X (own ++ fr) scope (cellsFrom (C+1) scope.names cl) C fp s2 H2) [(acc,ob)] H' b:=λ{H' ob} hn b hb =>
  ⟨hn b hb,(KH b hb).1,λz=>by
   rcases ZaC.mp (I2.pN b z)with e|e
   exact(f2 b hb).2.1 e;exact(f2 b hb).2.2.1 e,.inl hb,λx c h=>(tQ x c h).2.2.2 b hb,λp hp=>by
   have e:p=(acc,ob):=by simpa[aU]using hp
   subst e
   exactλz=>(KH b hb).2 z.symm⟩
 have loop:codeAny (model X.prog X.w) X.A (.compLoop (.ListComp elt [⟨tg,iter,ifs,0⟩] scope pos) 0 (.ref it) (.ref acc) (compEnvC scope (cellsFrom (C+1) scope.names cl) C X.env)) (RR (.ref acc) C) { s2 with heap:=h4 }:=by
  refine Xn (λm s'=>∃(i:Nat) (ys:List V) (its:List Value) (n:Nat) (σ':St) (H':Hp),Inv (aU X (own ++ fr) scope (cellsFrom (C+1) scope.names cl) C fp s2 H2) [(acc,{ cls:=.type "list",data:=.seq its.toArray n })] σ' H' s'/\Vals ys its/\tn i s'.heap/\(∀b∈fp,H' b=none)/\W i m ys σ' H') ?_ m0
   ⟨0,[],[],0,_,H2,I4,.nil,T.keep _ _ _ st2 λb _ o e=>old b o e,λb hb=>(f2 b hb).1,w0⟩
  rintro n s5 ⟨i,ys,its,en,σ5,H5,I5,rv,qq,Ky,w5⟩;obtain⟨hz,alt⟩:=turn i n ys σ5 H5 w5;rcases alt with⟨stop,qn⟩|⟨go,step⟩
  refine cW (T.done (aU X (own ++ fr) scope (cellsFrom (C+1) scope.names cl) C fp s2 H2) rfl rfl rfl hc i _ s5 σ5 H5 _ I5 (NG Ky) qq stop) λr s6 ⟨hr,I6⟩=>?_;subst hr;show RR (.ref acc) C (.ok .next) s6;have u:Un (frs X.stack) fp H2 H5 s2.heap s6.heap:=I6.base;have J6:Inv X pins σ H5 s6:=I2.Eh I6.os u I6.hok I6.bare λb hb=>⟨(f2 b hb).2.2.2.1,(f2 b hb).2.1,(f2 b hb).2.2.2.2.1,(f2 b hb).2.2.2.2.2⟩;have pacc:=I6.pin (acc,_) (ZaN _ Zaj);have NH:oB X pins H5 acc:=I2.sD ⋯ pacc.2.1;have fC:oB X pins H5 C:=I2.sD ⋯ I6.free;have K6:Inv X pins σ (upd H5 acc (.lst ys)) s6:=J6.E9 NH ⟨Zbp hz,its,en,rv,pacc.1⟩;obtain⟨m,hm,_⟩:=I6.loc;exact fin acc C _ s6 (.ref acc) rfl K6 ⟨by rw[ml NC.symm];exact fC.1,fC.2⟩ ⟨m,hm⟩ (qn acc pacc.2.1);refine cW (T.item (aU X (own ++ fr) scope (cellsFrom (C+1) scope.names cl) C fp s2 H2) rfl rfl rfl hc i _ s5 σ5 H5 _ I5 (NG Ky) qq go) λr s6 ⟨u,hr,h6⟩=>?_;subst hr;refine cW h6 λ_ s7 ⟨x,H7,I7,r7,y7,uJ,Xq⟩=>?_;have Xr:=I7.pinned (NG Xq) (T.obj _ _ uJ);refine cW (hg _ _ _ _ _ _ s7 σ5 H7 x u _ Xr r7 (step x H7 y7)) λ_ s8 ⟨σ8,H8,I8,q8⟩=>?_;refine cW (hf _ _ _ _ _ _ s8 σ8 H8 _ I8 q8) λb s9 ⟨H9,I9,q9⟩=>?_;have KI:∀{s':Shared} {σ':St} {H':Hp},Inv (aU X (own ++ fr) scope (cellsFrom (C+1) scope.names cl) C fp s2 H2) ([(acc,{ cls:=.type "list",data:=.seq its.toArray en })] ++ pO fp s7.heap) σ' H' s'->tn (i+1) s'.heap/\∀b∈fp,H' b=none:=λ{s' σ' H'} I' =>
   ⟨T.keep _ _ _ uJ λb hb o e=>(I'.pin (b,o) (ZaN _ (ZaN _ (Kx hb e)))).1,λb hb=>by
    obtain⟨o,e,d⟩:=T.obj _ _ uJ b hb
    exact(I'.pin (b,o) (ZaN _ (ZaN _ (Kx hb e)))).2.1⟩
  cases b with
  |false =>
   obtain⟨m',hm,w9⟩:=q9;exact⟨m',hm,i+1,ys,its,en,σ8,H9,I9.nW,rv,(KI I9).1,(KI I9).2,w9⟩
  |true =>
   refine cW (he _ _ _ _ _ _ s9 σ8 H9 _ I9 q9) λy NI ⟨yv,NJ,KJ,Xs,m',hm,Xt⟩=>?_;have pacc:=KJ.pin (acc,_) (ZaN _ (Zbv _ Zaj));have hlen:=rv.length;refine wpAny_list_append_plain (items:=its.toArray) ⟨en,pacc.1⟩ (λh11 ⟨Ry,NK⟩ Fe=>?_) (by simp only[Zak];lk);have cA:∀x c,(cellsFrom (C+1) scope.names cl).lookup x=some c->c≠acc:=λx c h=>(tQ x c h).2.1;have Ia:Inv (aU X (own ++ fr) scope (cellsFrom (C+1) scope.names cl) C fp s2 H2) [] σ8 NJ NI:=KJ.o9 λp hp=>nomatch hp;have Ib:Inv (aU X (own ++ fr) scope (cellsFrom (C+1) scope.names cl) C fp s2 H2) [] σ8 NJ { NI with heap:=h11 }:=Ia.turned (it:=acc) (t':=NI.toks) (λb o hb e=>(Fe.2 b hb).trans e) pacc.2.1 NC (.inr (by show s2.heap.objs.size<=acc;lk)) cA λp hp=>nomatch (show p∈([]:List (Addr×Obj))from by simpa[aU]using hp);refine⟨m',hm,i+1,ys ++ [yv],its ++ [y],Ry,σ8,NJ,Ib.o9 λp hp=>?_,rv.append (.cons Xs .nil),T.keep _ _ _ (KI KJ).1 λb hb o e=>(Fe.2 b (KH b hb).2).trans e,(KI KJ).2,Xt⟩;have e:p=(acc,{ cls:=.type "list",data:=.seq (its ++ [y]).toArray Ry }):=by simpa using hp
   subst e;exact⟨by simpa using NK,pacc.2.1,pacc.2.2.1,pacc.2.2.2.1,λv z=>nomatch z⟩
 exact codeAny_compStart_list loop (T.self X.A 0 _ _ _ (T.keep _ _ _ st2 λb _ o e=>old b o e) loop)
def r9(hc:X.calm=true)(S:iD X scope own fr js)(hi:PI X tg iter wi)(hg:∀cells C fp s H,PG (aU X (own ++ fr) scope cells C fp s H) tg g)(hf:∀cells C fp s H,PF (aU X (own ++ fr) scope cells C fp s H) ifs tc)(he:∀cells C fp s H,PE (aU X (own ++ fr) scope cells C fp s H) elt te)
  (hs:∀x,foldedSetIterable iter X.env x=pure x:=by intro _;rfl):PE X (.ListComp elt [⟨tg,iter,ifs,0⟩] scope pos) (vk wi own.length js g tc te):=by
 intro pins s σ H Q I h;obtain⟨cl,hcl,sL,vm⟩:=Rq (scope:=scope) (env:=X.env) λy hy hk=>I.ok.has y.1 (S.free y hy hk);rw[eval_ListComp];refine wpAny_comprehension_free (use:=none) rfl hs hcl S.kind (λy hy hk=>by rw[<- hk];exact E8 S.Dc hy) (cW (hi pins s σ H _ I h) λv s1 h1=>cW h1 λitv s2 h2=>?_);obtain⟨it,fp,tn,J,H2,e,I2,T,st2,f2,W,⟨m0,w0⟩,turn⟩:=h2;subst e;refine Rv (RR:=λacc C=>compPost (model X.prog X.w) X.A X.xe none (EP X pins σ Q) acc C) hc S hg hf he I2 T st2 f2 sL vm W m0 w0 turn ?_;intro acc C H' s' v hv I' fC ⟨m,hm⟩ q;subst hv;obtain⟨f0,f1,Xu,f3,f4,f5⟩:=fC;exact⟨m,hm,λh'' Ax=>⟨.ref acc,H',I'.turned (it:=C) (t':=s'.toks) (λb o hb e=>(Ax.2 b hb).trans e) f0 f1 f3 f4 f5,rfl,q⟩⟩
def Rz{i:Nat}{x:Str}{pos' spos:Pos}(hc:X.calm=true)(hN:X.N.Nodup)(hx:X.N[i]?=some x)(hl:X.env.scope.names.lookup x=some .local)(S:iD X scope own fr js)(hi:PI X tg iter wi)(hg:∀cells C fp s H,PG (aU X (own ++ fr) scope cells C fp s H) tg g)(hf:∀cells C fp s H,PF (aU X (own ++ fr) scope cells C fp s H) ifs tc)(he:∀cells C fp s H,PE (aU X (own ++ fr) scope cells C fp s H) elt te)
  (hsw:swapsWith (.ListComp elt [⟨tg,iter,ifs,0⟩] scope pos) (some (.Name x pos')) spos.line X.env=pure true:=by rfl)
  (hs:∀x,foldedSetIterable iter X.env x=pure x:=by intro _;rfl):PS X (.Assign [.Name x pos'] (.ListComp elt [⟨tg,iter,ifs,0⟩] scope pos) spos) (xh (vk wi own.length js g tc te) (rC i)):=by
 intro pins s σ H D I h;obtain⟨cl,hcl,sL,vm⟩:=Rq (scope:=scope) (env:=X.env) λy hy hk=>I.ok.has y.1 (S.free y hy hk);rw[exec_Assign_Name_used _ _ _ _ hsw];refine wpAny_bind (wpAny_standAt (wpAny_bind ?_));show wpAny _ X.A (do let _ <- comprehension (.ListComp elt [⟨tg,iter,ifs,0⟩] scope pos) scope X.env _ (newList []) false (eval iter X.env) (some (assign (.Name x pos') X.env))) _ _ s
 refine wpAny_bind (wpAny_mono (wpAny_comprehension_free (use:=some (assign (.Name x pos') X.env)) (Q:=λ_ s'=>SP X pins D .next s') rfl hs hcl S.kind (λy hy hk=>by rw[<- hk];exact E8 S.Dc hy)
  (cW (hi pins s σ H _ I h) λv s1 h1=>cW h1 λitv s2 h2=>?_)) (λ_ s' hq=>wpAny_pure (wpAny_pure hq)) λ_ _ e=>e)
 obtain⟨it,fp,tn,J,H2,e,I2,T,st2,f2,W,⟨m0,w0⟩,turn⟩:=h2;subst e;refine Rv (Q:=λv H'=>rC i v σ H' D.nx) (RR:=λacc C=>compPost (model X.prog X.w) X.A X.xe (some (assign (.Name x pos') X.env)) (λ_ s'=>SP X pins D .next s') acc C) hc S hg hf he I2 T st2 f2 sL vm W m0 w0 turn ?_;intro acc C H' s' v hv I' fC ⟨m,hm⟩ q;subst hv;obtain⟨f0,f1,Xu,f3,f4,f5⟩:=fC;show wpAny _ X.A (assign (.Name x pos') X.env (.ref acc)) _ _ _;refine wpAny_assign_Name (Qs I' hN hx (.inl hl) (show RelV (.ref acc) (.ref acc)from rfl) (λs'' Xv ⟨a,hs1,ha⟩=>?_) (.inr hl));have haC:a≠C:=by
  rcases ha with e|e
  rw[e];exact f1.symm;exact f4 _ _ e
 exact⟨m,hm.sameBut hs1 haC.symm,λh'' Ax=>⟨_,H',Xv.turned (it:=C) (t':=s''.toks) (λb o hb e=>(Ax.2 b hb).trans e) f0 f1 f3 f4 f5,q⟩⟩
end
mutual
noncomputable def wD:PyData->Nat
 |.none=>4
 |.bool _=>5
 |.int _=>1921
 |.str x=>(reprText x).length
 |.list _=>0
 |.tuple xs=>Ff xs+3
 |.dict _=>0
noncomputable def Ff:List PyData->Nat
 |[]=>0
 |x :: xs=>wD x+2+Ff xs
end
abbrev nC(ns:List Int):PyData:=.tuple (cM ns)
def NL:∀(rs:List (List Int)),PyData.canLayAll0 (rs.map nC)=true
 |[]=>rfl
 |r :: rs=>by
  show(PyData.canLayAll0 (cM r) && PyData.canLayAll0 (rs.map nC))=true;rw[xo,NL rs];rfl
def RA:∀(rs:List (List Int)),PyData.depthAll (rs.map nC)<=1
 |[]=>ZaL _
 |r :: rs=>by
  show max (PyData.depthAll (cM r)+1) (PyData.depthAll (rs.map nC))<=1;have:=RA rs;rw[As];lk
abbrev NM(i:Int):Prop:=-1000000000000000000<=i/\i<=1000000000000000000
end L2
namespace L2
open PySem PySem.Spec PyProof.Rows
section
variable {X:Cx}{K:Zfr}
def wG(hK:X.K=K):EL X (Ah K):=by subst hK;exact nA
def yE(hK:X.K=K):EL X (Ai K):=by subst hK;exact bj
def RB(hK:X.K=K):mr X (compareOp .In) (ES K false):=by subst hK;exact WV
def RC(hK:X.K=K):mr X (compareOp .NotIn) (ES K true):=by subst hK;exact C5
def Xw(hK:X.K=K):d7 X (.type "list") (λxs H Q=>∃p ys,xs=[V.ref p]/\(j5 K H p ys\/eY K H p ys)/\∀l,H l=none->Q (.ref l) (upd H l (.lst ys))):=by subst hK;exact ET
def Xx(hK:X.K=K):d7 X (.type "tuple") (λxs H Q=>∃p ys,xs=[V.ref p]/\((j5 K H p ys/\∀l,H l=none->Q (.ref l) (upd H l (.tup ys)))\/(eY K H p ys/\Q (.ref p) H))):=by subst hK;exact pQ
def Xy(hK:X.K=K)(hl:PE X l tl):PI X tg l (uW K tl):=by subst hK;exact M5 hl
end
section
variable {prog:Program}{w:World}{A:Around}{E:Value->Shared->Prop}{s:Shared}
def Xz(hj:s.heap.IsTupleIter j t i)(ht:s.heap.IsTuple t ys)(hy:ys[i]?=some y)
  (hQ:∀h',h'.IsTupleIter j t (i+1)->Heap.SameBut j s.heap h'->Q y { s with heap:=h' }):wpAny (model prog w) A (Builtin.SmallTypes.nextOf (.ref j)) Q E s:=by
 obtain⟨r,hr,rc,rd⟩:=id hj;obtain⟨q,hq,_,nq,dq⟩:=ht;unfold Builtin.SmallTypes.nextOf;refine wpAny_bind (wpAny_callSpecial?_slot (name:=Str.ofString "__next__") hj.typeIs F.slot_tuple_iterator_next (wpAny_call_entry F.slot_tuple_iterator_next hj.typeIs F.entry_tuple_iterator_next ?_ (F.args_tuple_iterator_next_1 _)));show wpAny _ _ (PySem.field (.ref j) 0 >>= _) _ _ s;refine wpAny_bind (wpAny_field hr rd (x:=.ref t) rfl ?_);show wpAny _ _ (if(Value.ref t == Value.none)=true then _ else _) _ _ s;rw[if_neg (λz:(Value.ref t == Value.none)=true=>Zam z)];show wpAny _ _ (PySem.field (.ref j) 1 >>= _) _ _ s;refine wpAny_bind (wpAny_field hr rd (x:=.int i 0) rfl ?_);show wpAny _ _ (seqItems? (.ref t) >>= _) _ _ s;refine wpAny_bind (wpAny_seqItems hq dq ?_);simp only[Zan,hy];refine wpAny_bind (wpAny_setField hr rd (by simp) (wpAny_pure ⟨y,rfl,wpAny_pure (hQ _ ⟨_,Zbb _ hr (Obj.isFreed_of_fields (Obj.data_mapFields rd _)),(Obj.cls_mapFields ..).trans rc,by rw[Obj.data_mapFields rd];simp[rawInt]⟩ (ZbE ..))⟩))
def XA(hh:A.handled=none)(hj:s.heap.IsTupleIter j t i)(ht:s.heap.IsTuple t ys)(hy:ys[i]?=none)
  (hE:∀h' e,Heap.ExtBut j s.heap h'->(∃o,h'.get? e=some o/\o.cls=.type "StopIteration")->E (.ref e) { s with heap:=h' }):wpAny (model prog w) A (Builtin.SmallTypes.nextOf (.ref j)) Q E s:=by
 obtain⟨r,hr,rc,rd⟩:=id hj;obtain⟨q,hq,_,nq,dq⟩:=ht;unfold Builtin.SmallTypes.nextOf;refine wpAny_bind (wpAny_callSpecial?_slot (name:=Str.ofString "__next__") hj.typeIs F.slot_tuple_iterator_next (wpAny_call_entry F.slot_tuple_iterator_next hj.typeIs F.entry_tuple_iterator_next ?_ (F.args_tuple_iterator_next_1 _)));show wpAny _ _ (PySem.field (.ref j) 0 >>= _) _ _ s;refine wpAny_bind (wpAny_field hr rd (x:=.ref t) rfl ?_);show wpAny _ _ (if(Value.ref t == Value.none)=true then _ else _) _ _ s;rw[if_neg (λz:(Value.ref t == Value.none)=true=>Zam z)];show wpAny _ _ (PySem.field (.ref j) 1 >>= _) _ _ s;refine wpAny_bind (wpAny_field hr rd (x:=.int i 0) rfl ?_);show wpAny _ _ (seqItems? (.ref t) >>= _) _ _ s;refine wpAny_bind (wpAny_seqItems hq dq ?_);simp only[Zan,hy];refine wpAny_bind (wpAny_rule (wpAny_bind (wpAny_setField hr rd (by simp) ?_)));show wpAny _ _ (newExc (.type "StopIteration") [] >>= _) _ _ _;refine wpAny_bind ?_;simp only[newExc,newTuple];refine wpAny_bind (wpAny_newObj_type ?_ (by size_fits));refine wpAny_bind (m:=firstArgMember _ _) (wpAny_of_eq (a:=Value.none) (by first|rfl|(simp only[firstArgMember];rfl)) ?_);refine wpAny_newObj_type ?_ (by size_fits);simp only[raiseNew];refine wpAny_bind (wpAny_handled ?_);first|rw[show A.in1.handled=none from hh]|rw[hh]
 exact wpAny_bind (wpAny_pure (wpAny_throw (hE _ _ (((ZbE ..).extBut.push _).push _) ⟨_,Zaw _ rfl,rfl⟩)))
end
def vn(hh:A.handled=none)(j t:Addr)(hne:t≠j)(ys:Array Value):
  Draws prog w A j [j,t] ys.size (λi v=>ys[i]?=some v) (λi h=>h.IsTupleIter j t i/\h.IsTuple t ys) where
 live:=λ_ _ st=>let ⟨o,ho,_⟩:=st.1;⟨o,ho⟩
 frame:=λ_ _ _ st k=>⟨st.1.at λo e=>k j (by simp) o e,let ⟨o,e,r⟩:=st.2;⟨o,k t (by simp) o e,r⟩⟩
 item:=λi s Q E hi st hQ=>Xz st.1 st.2 (y:=ys[i]) (by simp[hi]) λh' a b=>hQ _ h' s.toks (by simp[hi]) ⟨a,st.2.extBut b.extBut hne⟩ b
 done:=λs Q E st hE=>XA hh st.1 st.2 (by simp) hE
def XB(l:Addr)(items:Array Value)(n:Nat)(dct:Option Addr)(sl:Array (Option Value)):
  Meets (Builtin.«enumerate.__new__» ⟨[.type "enumerate",.ref l],[]⟩) (λ_ R s=>s.heap.get? l=some { cls:=.type "tuple",dict:=dct,data:=.seq items n,slots:=sl } /\
   R (.ok (.ret (.ref (s.heap.push { cls:=.type "tuple_iterator",data:=.fields #[.ref l,.int 0 0] }).objs.size)))
    { s with heap:=(s.heap.push { cls:=.type "tuple_iterator",data:=.fields #[.ref l,.int 0 0] }).push { cls:=.type "enumerate",data:=.fields #[.none,.bool false,.ref s.heap.objs.size,rawInt 0,.none,.none] } }) :=
 .of_wp λprog w A R s h=>by
  obtain⟨hp,g,d,tk,os⟩:=s;obtain⟨hl,h⟩:=h;have hsub:=sub_enumerate;have hL:Heap.IsTuple (Shared.heap ⟨hp,g,d,tk,os⟩) l items:=⟨_,hl,rfl,n,rfl⟩
  wp_walk using AutoSeq1.wpAny_loadPart' hl
  refine wpAny_stack_any λst=>wpAny_pure ?_;split
  ·rename_i c _ _ _ _ _
   cases(c == Value.type "enumerate")<;>(wp_walk using AutoSeq1.wpAny_loadPart' hl,wpAny_pyIter_tuple hL;exact⟨_,rfl,h⟩)
  ·wp_walk using AutoSeq1.wpAny_loadPart' hl,wpAny_pyIter_tuple hL
   exact⟨_,rfl,h⟩
section
variable {prog:Program}{w:World}{A:Around}{E:Value->Shared->Prop}{s:Shared}
def XC(ht:s.heap.IsTuple l ys)
  (h:∀h',IsEnum h' (s.heap.objs.size+1) s.heap.objs.size 0 .none->h'.IsTupleIter s.heap.objs.size l 0->h'.objs.size=s.heap.objs.size+2 ->
   (∀b o,s.heap.get? b=some o->h'.get? b=some o)->Q (.ref (s.heap.objs.size+1)) { s with heap:=h' }):wpAny (model prog w) A (call (.type "enumerate") [.ref l]) Q E s:=by
 obtain⟨⟨c,dct,dt,sl⟩,hl,hc,n,hd⟩:=ht;cases(show c=.type "tuple" from hc);cases(show dt=.seq ys n from hd);refine callType_new F.called_enumerate ∅ (F.typeCall_enumerate_1 _) (F.newCall_enumerate_1 _) (λobj=>F.args_object_init_2 obj _) F.entry_enumerate_new (XB l ys n dct sl) ⟨hl,?_⟩;have z:(s.heap.push { cls:=.type "tuple_iterator",data:=.fields #[.ref l,.int 0 0] }).objs.size=s.heap.objs.size+1:=ZbI ..;show _/\_;rw[z];have en:IsEnum ((s.heap.push { cls:=.type "tuple_iterator",data:=.fields #[.ref l,.int 0 0] }).push { cls:=.type "enumerate",data:=.fields #[.none,.bool false,.ref s.heap.objs.size,rawInt 0,.none,.none] }) (s.heap.objs.size+1) s.heap.objs.size 0 .none:=by
  have g:=Zaw (s.heap.push { cls:=.type "tuple_iterator",data:=.fields #[.ref l,.int 0 0] }) (o:={ cls:=.type "enumerate",data:=.fields #[.none,.bool false,.ref s.heap.objs.size,rawInt 0,.none,.none] }) rfl;rw[z]at g;exact g
 exact⟨⟨_,en,rfl⟩,h _ en ⟨_,Zaf _ (Zaw _ rfl),rfl,rfl⟩ (by rw[ZbI,z]) λb o e=>Zaf _ (Zaf _ e)⟩
end
section
variable {X:Cx}{pins:List (Addr×Obj)}{σ:St}{H:Hp}{s:Shared}{h':Heap}
def Inv.xr{t':Nat}{ch:List Addr}(I:Inv X pins σ H s)(k:∀b o,b ∉ ch->s.heap.get? b=some o->h'.get? b=some o)(f:∀b∈ch,oB X pins H b):Inv X pins σ H { s with heap:=h',toks:=t' }:=by
 have Eg:∀b u,H b=some u->b ∉ ch:=λb u e z=>by rw[(f b z).1]at e;cases e
 refine I.step (g':=s.gens) (d':=s.drawn) (ch:=ch) (λb hb=>⟨(f b hb).2.2.2.1,(f b hb).2.1,(f b hb).2.2.2.2.1,(f b hb).2.2.2.2.2⟩) (λb o _ _ hc e _=>k b o hc e) (λb o _ _ hc e _=>⟨o.slots,k b o hc e⟩) (λ_ _ _ _ n=>n)
  (λb o hc e=>⟨o,k b o hc e⟩) (λ_ _ e=>e) (λ_ _ _ e=>e) (λb ps e=>⟨#[],by rw[e];simp⟩) (λm hm=>?_) (λb u e=>?_) I.bare
 obtain⟨o,es,ep,ho,r⟩:=hm;exact⟨o,es,ep,k _ o (λz=>(f _ z).2.1 rfl) ho,r⟩;refine(I.hok b u e).stay (λc v hc q=>k c v ?_ q) (λ_ q=>q) λ_ _ q=>q;rcases hc with z|z
 rw[z];exact Eg b u e;exact Eg c _ z
end
abbrev RD(K:Zfr)(a:Addr):It :=
 ⟨λi H=>∃xs x,eY K H a xs/\xs[i]?=some x,λi H x H'=>∃p y,x=.ref p/\H p=none/\H'=upd H p (.tup [.int i,y])/\∀xs,eY K H a xs->xs[i]?=some y,λi H=>∃xs,eY K H a xs/\xs.length=i⟩
def XD{P:Program}{w:World}{K:Zfr}{es:List Expr}{x1}{pos:Pos}(a e it:Addr)(hne:e≠it):
  Turn P w K (.Tuple es x1 pos) (RD K a) [e,it] e (λi h=>(∃old,IsEnum h e it i old)/\h.IsTupleIter it a i) where
 mem:=by simp
 obj:=λi h st b hb=>by
  obtain⟨⟨old,he⟩,o,e2,c,d⟩:=st;rcases ZaC.mp hb with rfl|hb
  exact⟨_,he,λv z=>by
   have z':Data.fields _=Data.cell v:=z
   cases z'⟩
  have q:b=it:=by simpa using hb
  subst q;exact⟨o,e2,λv z=>by rw[d]at z;cases z⟩
 keep:=λi h h' st k=>⟨let ⟨old,he⟩:=st.1;⟨old,k e (by simp) _ he⟩,st.2.at λo q=>k it (by simp) o q⟩
 item:=by
  intro X hP hw hK hc i pins s σ H E I hf st hg;subst hP hw hK;obtain⟨xs,x,hq,hx⟩:=hg;obtain⟨its,rv,p,hz⟩:=I.tuple hq;obtain⟨u,hu,ru⟩:=rv.get hx;obtain⟨⟨old,he⟩,hit⟩:=st;have ht:s.heap.IsTuple a its.toArray:=p;have NN:a≠it:=λz=>by
   obtain⟨o,e1,c1,_⟩:=hit;obtain⟨o2,e2,c2,_⟩:=ht;rw[z,e1]at e2;cases e2;exact absurd (c1.symm.trans c2) (by simp)
  have XE:e≠a:=λz=>by
   obtain⟨o2,e2,c2,_⟩:=ht;rw[<- z,he]at e2;cases e2;exact absurd c2 (by simp)
  have hl:=rv.length;have hi:i<its.toArray.size:=by
   have:=Zac.mp hu;obtain⟨q,_⟩:=this
   simpa using q
  refine wpAny_pyNext_enum_itemD (vn (A:=X.A.in1) (I.ok.hd hc) it a NN its.toArray) he ⟨hit,ht⟩ hi hne (by simp[hne,XE]) λy h1 tk hy ho hst hT hsz kk=>?_;have ey:y=u:=by
   have:its.toArray[i]?=some u:=by simpa using hu
   exact Zar (hy.symm.trans this)
  subst ey;refine⟨_,rfl,wpAny_letOwnedTupleGo_enum ho λh2 XF sb=>?_⟩;have hel:@LT.lt Nat _ e s.heap.objs.size:=Zay he;have hil:@LT.lt Nat _ it s.heap.objs.size:=by obtain⟨o,e1,_⟩:=hit;exact Zay e1
  have Fg:H s.heap.objs.size=none:=I.hok.fresh (Zag _);have sb':Heap.SameBut e h1 h2:=sb;have I1:Inv X pins σ (upd H s.heap.objs.size (.tup [.int i,x])) { s with heap:=s.heap.push { cls:=.type "tuple",data:=.seq #[.int i tk,y] },toks:=s.toks } :=
   I.laid (λb u e=>Zaf _ e) (Zag _) ⟨(by decide:2<=sizeLine),[.int i tk,y],.cons ⟨tk,rfl⟩ (.cons ru .nil),⟨_,Zaw _ rfl,rfl,rfl,_,rfl⟩⟩
  have nn:∀b∈[e,it],@LT.lt Nat _ b s.heap.objs.size:=λb hb=>by
   rcases ZaC.mp hb with rfl|hb
   exact hel;have q:b=it:=by simpa using hb
   rw[q];exact hil
  have hn:∀b∈[e,it],upd H s.heap.objs.size (.tup [.int i,x]) b=none:=λb hb=>by
   unfold upd;rw[if_neg (ZaR (nn b hb))];exact(hf b hb).1
  have I2:Inv X pins σ (upd H s.heap.objs.size (.tup [.int i,x])) { s with heap:=h2,toks:=tk+1 }:=by
   refine Inv.xr (s:={ s with heap:=s.heap.push { cls:=.type "tuple",data:=.seq #[.int i tk,y] },toks:=s.toks }) (h':=h2) I1 (ch:=[e,it]) (t':=tk+1) (λb o hb q=>?_) λb hb=>⟨hn b hb,(hf b hb).2⟩;have nb:b≠e/\b≠it:=by simpa using hb
   refine(sb'.2 b nb.1).trans ?_;rcases Heap.get?_push_cases q with⟨rfl,rfl⟩|q
   exact hT;exact kk b o nb.1 nb.2 q
  refine⟨.ref s.heap.objs.size,_,I2,rfl,⟨_,x,rfl,Fg,rfl,λys vo=>by rw[I.j6 vo hq];exact hx⟩,⟨⟨y,?_⟩,?_⟩,hn⟩
  have:((i+1:Nat):Int)=(i:Int)+1:=by lk
  rw[this];exact XF;exact hst.1.extBut sb'.extBut (Ne.symm hne)
 done:=by
  intro X hP hw hK hc i pins s σ H E I hf st hg;subst hP hw hK;obtain⟨xs,hq,hx⟩:=hg;obtain⟨its,rv,p,hz⟩:=I.tuple hq;obtain⟨⟨old,he⟩,hit⟩:=st;have ht:s.heap.IsTuple a its.toArray:=p;have NN:a≠it:=λz=>by
   obtain⟨o,e1,c1,_⟩:=hit;obtain⟨o2,e2,c2,_⟩:=ht;rw[z,e1]at e2;cases e2;exact absurd (c1.symm.trans c2) (by simp)
  have hl:=rv.length;have ei:its.toArray.size=i:=by simp;lk
  refine wpAny_pyNext_enum_endD (vn (A:=X.A.in1) (I.ok.hd hc) it a NN its.toArray) he (by rw[ei];exact⟨hit,ht⟩) λh1 eb=>⟨rfl,?_⟩;obtain⟨f0,f1,f2,f3,f4,f5⟩:=hf it (by simp);exact I.turned (t':=s.toks) (λb o hb q=>eb b o hb q) f0 f1 f3 f4 f5
 self:=λ_ _ _ _ _ st h=>let ⟨_,he⟩:=st.1;wpAny_pyIter_enum he h
abbrev yF(K:Zfr)(ta:TA):TI:=λσ H R=>ta σ H λvs H1=>∃a,vs=[.ref a]/\(∃xs,eY K H1 a xs)/\R (RD K a) H1
def KL{x1}(hg:Gl X "enumerate")(hm:X.mg "enumerate" = none)(ha:PA X [l] ta)(hs:starEach [l] X.env=[(false,eval l X.env)]:=by rfl):
  PI X (.Tuple es x1 p0) (.Call (.Name "enumerate" p) [l] [] pos) (yF X.K ta):=by
 intro pins s σ H R I h;refine Call_ (zU I hg hm boot_enumerate (PyProof.Rows.callWith_type1 (cW (ha pos pins s σ H _ I h) λus s1 ⟨vs,H1,I1,r1,q1⟩=>?_) hs rfl));obtain⟨a,e,⟨xs,hq⟩,q⟩:=q1;subst e;cases r1 with
 |cons r rr =>
  cases rr;cases r;obtain⟨its,rv,p,hz⟩:=I1.tuple hq;refine XC (show s1.heap.IsTuple a its.toArray from p) λh1 he hi hsz kk=>?_;refine wpAny_pyIter_enum he ?_;refine⟨s1.heap.objs.size+1,[s1.heap.objs.size+1,s1.heap.objs.size],_,_,H1,rfl,I1.kept (t':=s1.toks) kk,XD a _ _ (Nat.succ_ne_self _),⟨⟨_,he⟩,hi⟩,λb hb=>?_,q⟩;have hb':@LE.le Nat _ s1.heap.objs.size b:=by
   rcases ZaC.mp hb with rfl|hb
   exact Zbu _;have e:b=s1.heap.objs.size:=by simpa using hb
   rw[e];exact Zag _
  exact I1.sD hb' (I1.hok.fresh hb')
section
open Sem (wp)
open PySem.AutoSeq1 (wpAny_loadPart')
open PySem.MeetsSeq PySem.MeetsSeq2 PySem.MeetsSeq3
def IntsAre.get{vs:List Value}{ns:List Int}(h:IntsAre vs ns):∀{i:Nat} {n:Int},ns[i]?=some n->∃t,vs[i]?=some (.int n t):=by
 induction h with
 |nil=>intro i n e;simp at e
 |cons a t h ih =>
  intro i n e;cases i with
  |zero=>exact⟨t,by simpa using e⟩
  |succ i=>simpa using ih (by simpa using e)
def vt(l:Addr)(items:Array Value)(n:Nat)(dd:Option Addr)(sl:Array (Option Value))(ns:List Int)(hi:IntsAre items.toList ns)(v:Int)(t:Tok)(j:Nat)(hj:ns[j]?=some v)(hb:∀i,i<j->ns[i]?≠some v):
  Meets (Builtin.«tuple.index» ⟨[.ref l,.int v t],[]⟩)
   (λ_ R s=>s.heap.get? l=some { cls:=.type "tuple",dict:=dd,data:=.seq items n,slots:=sl }/\R (.ok (.ret (.int (j:Int) s.toks))) { s with toks:=s.toks+1 }) :=
 .of_wp λprog w A R s h=>by
  obtain⟨hp,g,d,tk,os⟩:=s;obtain⟨hl,h⟩:=h;have z1:items.size=ns.length:=by rw[<- hi.length];simp
  have hjl:j<ns.length:=(Zac.mp hj).1
  wp_walk using wpAny_loadPart' hl
  have key:wpAny (model prog w) A.in1 (forIn (m:=Sem) [:min items.size items.size] ((none,()):Option Fin×Unit) (λ(i:Nat) _ =>
    match items[i]? with
    |some y=>do
     let b <- eqBool y (Value.int v t)
     if b=true then do
      let r <- retInt (i:Int)
      pure (ForInStep.done (some r,()))
     else pure (ForInStep.yield (none,()))
    |_=>pure (ForInStep.yield (none,()))))
   (λa s'=>a.1=some (.done (.ret (.int (j:Int) tk)))/\s'=⟨hp,g,d,tk+1,os⟩) (λe s'=>R (Except.error e) s') ⟨hp,g,d,tk,os⟩:=by
   rw[Std.Legacy.Range.forIn_eq_forIn_range'];have ez:([:min items.size items.size]:Std.Legacy.Range).size=ns.length:=by
    simp[Std.Legacy.Range.size,z1]
   rw[ez];refine wpAny_forIn_list _ (λrest b s'=>b.1=none/\s'=⟨hp,g,d,tk,os⟩/\∃k,k<=j/\rest=List.range' k (ns.length-k) 1) _ ?_ ?_ _ _ ⟨rfl,rfl,0,ZaL _,by simp⟩;rintro x rest b s' ⟨hb',rfl,k,hk,e⟩;have el:ns.length-k=(ns.length-(k+1))+1:=by lk
   rw[el,List.range'_succ]at e;injection e with e1 e2;subst e1;have qc:x<ns.length:=by lk
   obtain⟨t',ht'⟩:=IntsAre.get hi (Zab qc);have XG:items[x]?=some (.int ns[x] t'):=by rw[<- ht',ZbM]
   simp only[XG];obtain⟨e,he,hiff⟩:=HT.WH A.in1 ⟨hp,g,d,tk,os⟩ ns[x] t' v t;refine wpAny_bind (he prog w _ _ ?_);cases e with
   |true =>
    have ev:ns[x]=v:=hiff.mp rfl;have XH:x=j:=by
     rcases ZbZ x j with h'|h'
     exact absurd (by rw[Zab qc,ev]) (hb x h');lk
    subst XH
    wp_walk
    first|exact⟨rfl,rfl⟩|trivial
   |false =>
    have ev:ns[x]≠v:=λq=>absurd (hiff.mpr q) Zam;have:x≠j:=λz=>ev (by subst z;rw[Zab qc]at hj;exact Zar hj)
    wp_walk
    exact⟨rfl,rfl,x+1,by lk,e2⟩
   rintro b s' ⟨hb',rfl,k,hk,e⟩
   have:(List.range' k (ns.length-k) 1).length=0:=by rw[<- e];rfl
   rw[List.length_range']at this;lk
  refine wpAny_mono key (λa s' ha=>?_) (λ_ _ z=>z);obtain⟨ha,rfl⟩:=ha;obtain⟨a1,a2⟩:=a;cases(show a1=_ from ha);exact wpAny_pure ⟨_,rfl,h⟩
end
section
variable {X:Cx}{K:Zfr}
abbrev sM(K:Zfr):V->List V->Hp->VK->Prop:=λx vs H Q=>∃(a:Addr) (ns:List Int) (v:Int) (j:Nat),x=.ref a/\vs=[.int v]/\eY K H a (ns.map V.int)/\ns[j]?=some v/\(∀i,i<j->ns[i]?≠some v)/\Q (.int (j:Int)) H
def XI:yr X "tuple.index" (sM X.K):=by intro pins s σ H x xs v us Q I rx rv h;obtain⟨a,ns,y,j,rfl,rfl,hq,hj,hb,q⟩:=h;cases rx;obtain⟨u,rfl,t,rfl⟩:=vals1 rv;obtain⟨its,r,⟨⟨c,dd,dt,sl⟩,e,hc,hd,n,hdt⟩,hz⟩:=I.qE hq;cases(show c=.type "tuple" from hc);cases(show dt=.seq its.toArray n from hdt);refine call_meets F.slot_tuple_index ⟨_,e,rfl⟩ F.entry_tuple_index (F.args_tuple_index_2 _ _) (vt a its.toArray n dd sl ns (by simpa using Nd r) y t j hj hb) ⟨e,?_⟩;exact⟨.int j,H,I.tok _,⟨_,rfl⟩,q⟩
def RE(hK:X.K=K):yr X "tuple.index" (sM K):=by subst hK;exact XI
def NP{o e:Expr}{es:List Expr}{to:TE}{t:TA}{name:Str}{apos cpos:Pos}{T id:String}{r:V->List V->Hp->VK->Prop}(hK:X.K=K)(pa:PlainAttrs T)(slot:Slot T name id)(hty:typeOf (.builtin id)=pure (.type "method_descriptor"))(hm:yr X id r)(ho:PE X o to)(ha:PA X (e :: es) t)
  (hbase:attributeBase o name X.env (eval o X.env)=eval o X.env:=by rfl)
  (hfew:((backTo cpos (starEach (e :: es) X.env)).all (λx=>!x.1) && (backToKw cpos (keywordEach [] X.env)).all (λx=>x.1.isSome)
   && decide ((e :: es).length+([]:List Keyword).length+(if([]:List Keyword).isEmpty then 0 else 1)<30))=true:=by rfl)
  (hline:(apos.endLine == cpos.line)=true:=by rfl) (hs:starEach (e :: es) X.env=(false,eval e X.env) :: starEach es X.env:=by rfl) (hplain:(backTo cpos (starEach es X.env)).any (·.1)=false:=by rfl) :
  PE X (.Call (.Attribute o name apos) (e :: es) [] cpos) (Nh K T r to t):=by subst hK;exact qj pa slot hty hm ho ha hbase hfew hline hs hplain
def XJ{es:List Expr}{k:Nat}{t:uU}{n:Nat}{pos:Pos}(hK:X.K=K)(hc:X.calm=true)(h:Es X es t)
  (hn:(assignEach es X.env).length=n:=by rfl) (hst:(assignEach es X.env).findIdx? (·.1)=none:=by rfl):PG X (.Tuple es k pos) (zX K n t):=by subst hK;exact tH hc h hn hst
end
open Builtin.Str
section
variable {X:Cx}{K:Zfr}
def NQ:bootBuiltins "abs" = some (.builtin "abs"):=by decide +kernel
def Ay:bootBuiltins "sum" = some (.builtin "sum"):=by decide +kernel
end
end L2
namespace L2
open PySem PySem.Spec PyProof.Rows
open Builtin.Str
set_option genInjectivity false in
inductive ZS where
 |tup (a:Addr)|lst (a:Addr)|str (x:Str)
abbrev ZS.has(K:Zfr)(H:Hp)(i:Nat)(v:V):ZS->Prop
 |.tup a=>∃xs,eY K H a xs/\xs[i]?=some v
 |.lst a=>∃xs,j5 K H a xs/\xs[i]?=some v
 |.str x=>∃c,x.cps[i]?=some c/\v=.str ⟨#[c]⟩
abbrev ZS.fin(K:Zfr)(H:Hp)(i:Nat):ZS->Prop
 |.tup a=>∃xs,eY K H a xs/\xs.length=i
 |.lst a=>∃xs,j5 K H a xs/\xs.length=i
 |.str x=>x.cps.size=i
def ZS.xt{X:Cx}{pins:List (Addr×Obj)}{σ:St}{H:Hp}{s:Shared}{src:ZS}{i:Nat}{x y:V}(I:Inv X pins σ H s)(a:src.has X.K H i x)(b:src.has X.K H i y):y=x:=by
 cases src with
 |tup p =>
  obtain⟨xs,h1,e1⟩:=a;obtain⟨ys,h2,e2⟩:=b;rw[I.j6 h2 h1]at e2;rw[e1]at e2;exact(Zar e2).symm
 |lst p =>
  obtain⟨xs,h1,e1⟩:=a;obtain⟨ys,h2,e2⟩:=b;rw[I.rB h2 h1]at e2;rw[e1]at e2;exact(Zar e2).symm
 |str z =>
  obtain⟨c,h1,rfl⟩:=a;obtain⟨d,h2,rfl⟩:=b;rw[h1]at h2;cases h2;rfl
abbrev ZS.val(K:Zfr)(H:Hp)(x:V):ZS->Prop
 |.tup a=>x=.ref a/\∃xs,eY K H a xs
 |.lst a=>x=.ref a/\∃xs,j5 K H a xs
 |.str z=>x=.str z
end L2
namespace L2
open PySem PySem.Spec PyProof.Rows
section
variable {X:Cx}{K:Zfr}
abbrev eD(us:List Value)(ds:List PyData)(dx:PyData)(u:Value):Bool:=@decide (∃(i:Nat) (d:PyData),us[i]?=some u/\ds[i]?=some d/\PyData.eqv d dx=true) (Classical.propDecidable _)
def iC.get:∀{H:Hp} {vs:List V} {ds:List PyData},iC K H vs ds->∀{i:Nat} {v:V},vs[i]?=some v->∃d,ds[i]?=some d/\Rep K H v d
 |_,_,_,.nil,i,v,e=>by simp at e
 |_,_,_,.cons (d:=d) a b,0,v,e=>⟨d,by simp,by have:_=v:=Zar (by simpa using e);rw[<- this];exact a⟩
 |_,_,_,.cons a b,i+1,v,e=>by
  obtain⟨d,e1,r⟩:=iC.get b (i:=i) (by simpa using e);exact⟨d,by simpa using e1,r⟩
def iC.vw:∀{H:Hp} {vs:List V} {ds:List PyData},iC K H vs ds->vs.length=ds.length
 |_,_,_,.nil=>rfl
 |_,_,_,.cons _ r=>by rw[ZaE,ZaE,iC.vw r]
def Vals.Fh{xs:List V}{us:List Value}(r:Vals xs us){i:Nat}{u:Value}(h:us[i]?=some u):∃v,xs[i]?=some v/\RelV v u:=by have hi:=(Zac.mp h).1;have hl:=r.length;obtain⟨u',hu,ru⟩:=r.get (i:=i) (x:=xs[i]'⋯) (Zab _);rw[h]at hu;cases hu;exact⟨_,Zab _,ru⟩
open Classical in
def Fi{pins:List (Addr×Obj)}{σ:St}{H:Hp}{s:Shared}{xs:List V}{us:List Value}{ds:List PyData}{x:V}{v:Value}{dx:PyData}(hu:X.A.units+64<cLine)(I:Inv X pins σ H s)(r:Vals xs us)(hr:iC X.K H xs ds)(rx:RelV x v)(hx:Rep X.K H x dx)(c1:∀d∈ds,d.canLay0=true)(c2:dx.canLay0=true)(c3:dx.depth<=60):
  ∀u∈us,SeqAt.EqAt X.A.in1 s u v (eD us ds dx u):=by
 intro u hm;obtain⟨bs,rb⟩:=hx.reads I rx;have key:∀(i:Nat) (d:PyData),us[i]?=some u->ds[i]?=some d->SeqAt.EqAt X.A.in1 s u v (PyData.eqv d dx):=λi d h1 h2=>by
  obtain⟨y,hy,ry⟩:=r.Fh h1;obtain⟨d',hd',rd⟩:=hr.get hy;rw[h2]at hd';cases hd';obtain⟨as,ra⟩:=rd.reads I ry;intro prog w E Q q;refine SeqAt.eqBoolOverData prog w X.A.in1 E s u v d dx as bs Q ra rb (c1 _ (Zai h2)) c2 ?_ q;have:X.A.in1.units<=X.A.units+2:=by
   first|exact ZcG _ _|(show X.A.units<=_;lk)|(show X.A.units+1<=_;lk)
  lk
 obtain⟨i,hi⟩:=ZbP hm;have hl1:=r.length;have hl2:=hr.vw;have hil:=(Zac.mp hi).1;unfold eD;by_cases h:∃(i:Nat) (d:PyData),us[i]?=some u/\ds[i]?=some d/\PyData.eqv d dx=true;rw[decide_eq_true h];obtain⟨j,d,h1,h2,h3⟩:=h;have:=key j d h1 h2
 rwa [h3]at this
 rw[decide_eq_false h];have h2:ds[i]?=some (ds[i]'⋯):=Zab _;have k:=key i _ hi h2;cases hb:PyData.eqv (ds[i]'⋯) dx with
 |true=>exact absurd ⟨i,_,hi,h2,hb⟩ h
 |false=>rwa [hb]at k
open Classical in
def RF{xs:List V}{us:List Value}{ds:List PyData}{dx:PyData}(h1:us.length=ds.length):us.any (eD us ds dx)=ds.any λd=>PyData.eqv d dx:=by rw[ZbL,List.any_eq_true,List.any_eq_true];constructor;rintro⟨u,hu,h⟩;unfold eD at h;obtain⟨i,d,_,h2,h3⟩:=of_decide_eq_true h;exact⟨d,Zai h2,h3⟩;rintro⟨d,hd,h⟩;obtain⟨i,hi⟩:=ZbP hd;have hil:=(Zac.mp hi).1;refine⟨us[i]'⋯,Zch _,?_⟩;unfold eD;exact decide_eq_true ⟨i,d,Zab _,hi,h⟩
abbrev Az(K:Zfr)(neg:Bool):R2:=λx y H Q=>∃p xs ds dx,y=.ref p/\(j5 K H p xs\/eY K H p xs)/\iC K H xs ds/\Rep K H x dx/\(∀d∈ds,PyData.canLay0 d=true)/\PyData.canLay0 dx=true/\PyData.depth dx<=60/\Q (.bl (if neg then !ds.any (λd=>PyData.eqv d dx)else ds.any λd=>PyData.eqv d dx)) H
def AA(hu:X.A.units+64<cLine):mr X (compareOp .In) (Az X.K false):=by
 intro pins s σ H x y v u Q I rx ry h;obtain⟨p,xs,ds,dx,rfl,hq,hr,hx,c1,c2,c3,q⟩:=h;cases ry;have e2:∀{its:List Value},Vals xs its->its.toArray.any (eD its ds dx)=ds.any λd=>PyData.eqv d dx:=λ{its} r=>by
  rw[show its.toArray.any (eD its ds dx)=its.any (eD its ds dx) by simp];exact RF (xs:=xs) (by rw[<- r.length];exact hr.vw)
 rcases hq with hq|hq
 obtain⟨its,r,pl,hz⟩:=I.list hq;refine SeqAt.in_listAt (eD its ds dx) pl.isList (λw hw=>Fi hu I r hr rx hx c1 c2 c3 w (by simpa using hw)) ⟨.bl _,H,I,rfl,?_⟩;rw[e2 r];exact q;obtain⟨its,r,pl,hz⟩:=I.tuple hq;refine SeqAt.in_tupleAt (eD its ds dx) pl (λw hw=>Fi hu I r hr rx hx c1 c2 c3 w (by simpa using hw)) ⟨.bl _,H,I,rfl,?_⟩;rw[e2 r];exact q
def NR(hu:X.A.units+64<cLine):mr X (compareOp .NotIn) (Az X.K true):=by
 intro pins s σ H x y v u Q I rx ry h;obtain⟨p,xs,ds,dx,rfl,hq,hr,hx,c1,c2,c3,q⟩:=h;cases ry;have e2:∀{its:List Value},Vals xs its->its.toArray.any (eD its ds dx)=ds.any λd=>PyData.eqv d dx:=λ{its} r=>by
  rw[show its.toArray.any (eD its ds dx)=its.any (eD its ds dx) by simp];exact RF (xs:=xs) (by rw[<- r.length];exact hr.vw)
 rcases hq with hq|hq
 obtain⟨its,r,pl,hz⟩:=I.list hq;refine SeqAt.notIn_listAt (eD its ds dx) pl.isList (λw hw=>Fi hu I r hr rx hx c1 c2 c3 w (by simpa using hw)) ⟨.bl _,H,I,rfl,?_⟩;rw[e2 r];exact q;obtain⟨its,r,pl,hz⟩:=I.tuple hq;refine SeqAt.notIn_tupleAt (eD its ds dx) pl (λw hw=>Fi hu I r hr rx hx c1 c2 c3 w (by simpa using hw)) ⟨.bl _,H,I,rfl,?_⟩;rw[e2 r];exact q
end
open Builtin.Str
def Fj:Slot "reversed" "__next__" "reversed.__next__" :=
 .of (owner:="reversed") (n:="__next__") (by rw[typeLookup_type,builtinLookup_eq_fast];kernel_rfl) (by decide +kernel) (by decide +kernel) (by decide +kernel)
  (by first|exact .inl (by decide +kernel)|exact .inr (by decide +kernel)) (by rw[isSubtype_type];kernel_rfl)
def RG:Slot "reversed" "__iter__" "reversed.__iter__" :=
 .of (owner:="reversed") (n:="__iter__") (by rw[typeLookup_type,builtinLookup_eq_fast];kernel_rfl) (by decide +kernel) (by decide +kernel) (by decide +kernel)
  (by first|exact .inl (by decide +kernel)|exact .inr (by decide +kernel)) (by rw[isSubtype_type];kernel_rfl)
def RH:entryFor table "reversed.__next__" = some Builtin.«reversed.__next__»:=entryFor_of_tree (by kernel_rfl)
def RI(a:Value):argsOk "reversed.__next__" ⟨[a],[]⟩:=by unfold argsOk;kernel_rfl
def XM:entryFor table "reversed.__iter__" = some Builtin.«dict_keyiterator.__iter__» :=
 entryFor_alias (id':="dict_keyiterator.__iter__") (by kernel_rfl) (by first|rfl|decide +kernel) (by decide +kernel) (by kernel_rfl)
def XQ(a:Value):argsOk "reversed.__iter__" ⟨[a],[]⟩:=by unfold argsOk;kernel_rfl
def XR:typeLookup (.type "tuple") "__reversed__" = pure none:=by rw[typeLookup_type,builtinLookup_eq_fast];kernel_rfl
def XS:typeLookup (.type "str") "__reversed__" = pure none:=by rw[typeLookup_type,builtinLookup_eq_fast];kernel_rfl
abbrev oE(h:Heap)(a:Addr)(v:Value)(i:Int):Prop:=∃o,h.get? a=some o/\o.cls=.type "reversed" /\ o.data=.fields #[v,rawInt i]
def oE.at(x:oE h a v i)(e:∀o,h.get? a=some o->h'.get? a=some o):oE h' a v i:=let ⟨o,ho,r⟩:=x;⟨o,e _ ho,r⟩
section
variable {prog:Program}{w:World}{A:Around}{E:Value->Shared->Prop}{s:Shared}
def oE.typeIs(x:oE s.heap a v i):s.TypeIs (.ref a) "reversed" := let ⟨o,ho,hc,_⟩:=x;⟨o,ho,hc⟩
def RJ(hit:oE s.heap it v i)(h:Q (.ref it) s):wpAny (model prog w) A (pyIter (.ref it)) Q E s:=by refine wpAny_pyIter_slot hit.typeIs RG (wpAny_call_entry RG hit.typeIs XM ?_ (XQ _));show wpAny _ _ (ret (.ref it)) _ _ s;exact wpAny_pure ⟨_,rfl,"reversed",_,hit.typeIs,Fj.lookup,h⟩
def XT{it:Addr}{T gid:String}{v:Value}{y:Value->Prop}{i:Nat}{Q:Option Value->Shared->Prop}(hit:oE s.heap it v (i:Int))(hT:s.TypeIs v T)(hg:typeLookup (.type T) "__getitem__" = pure (some (.builtin gid)))
  (hget:∀(A':Around) (E':Value->Shared->Prop) (Q':Value->Shared->Prop) (tk:Tok) (n:Nat),(∀z k,y z->Q' z { s with toks:=k })->wpAny (model prog w) A' (getItem v (.int i tk)) Q' E' { s with toks:=n })
  (hQ:∀x h' k,y x->oE h' it v ((i:Int)-1)->Heap.SameBut it s.heap h'->Q (some x) { s with heap:=h',toks:=k }):wpAny (model prog w) A (pyNext (.ref it)) Q E s:=by
 obtain⟨o,ho,hc,hd⟩:=id hit;unfold pyNext
 refine wpAny_bind (wpAny_attempt (wpAny_callSpecial?_slot (name:=Str.ofString "__next__") hit.typeIs Fj
  (wpAny_call_entry Fj hit.typeIs RH ?_ (RI _))))
 unfold Builtin.«reversed.__next__»;refine wpAny_bind (wpAny_of_eq (a:=(Value.ref it,[])) rfl ?_)
 try dsimp only
 refine wpAny_bind (wpAny_field ho hd (x:=v) rfl ?_);refine wpAny_bind (wpAny_field ho hd (x:=rawInt (i:Int)) rfl ?_);show wpAny _ _ (if(i:Int)<0 then _ else _) _ _ s;rw[if_neg ⋯];refine wpAny_bind (wpAny_specialOf hT hg ?_)
 try dsimp only
 rw[if_neg (by simp)];refine wpAny_bind (wpAny_mkInt ?_);refine wpAny_bind (wpAny_attempt (hget _ _ _ _ _ λx k hx=>?_));show wpAny _ _ (field (.ref it) 1 >>= _) _ _ _;refine wpAny_bind (wpAny_field ho hd (x:=rawInt (i:Int)) rfl ?_);refine wpAny_bind (wpAny_setField ho hd (by simp) ?_)
 first
 |refine wpAny_pure ⟨x,rfl,wpAny_pure (hQ _ _ _ hx ?_ (ZbE ..))⟩
 |refine wpAny_pure ⟨x,rfl,wpAny_bind (wpAny_pure (wpAny_pure (hQ _ _ _ hx ?_ (ZbE ..))))⟩
 exact⟨_,Zbb _ ho (Obj.isFreed_of_fields (Obj.data_mapFields hd _)),(Obj.cls_mapFields ..).trans hc,by rw[Obj.data_mapFields hd];simp[rawInt]⟩
def XU(hh:A.handled=none)(hit:oE s.heap it v i)(hi:i<0)
  (hQ:∀h',Heap.ExtBut it s.heap h'->Q none { s with heap:=h' }):wpAny (model prog w) A (pyNext (.ref it)) Q E s:=by
 obtain⟨o,ho,hc,hd⟩:=id hit;unfold pyNext
 refine wpAny_bind (wpAny_attempt (wpAny_callSpecial?_slot (name:=Str.ofString "__next__") hit.typeIs Fj
  (wpAny_call_entry Fj hit.typeIs RH ?_ (RI _))))
 unfold Builtin.«reversed.__next__»;refine wpAny_bind (wpAny_of_eq (a:=(Value.ref it,[])) rfl ?_)
 try dsimp only
 refine wpAny_bind (wpAny_field ho hd (x:=v) rfl ?_);refine wpAny_bind (wpAny_field ho hd (x:=rawInt i) rfl ?_);show wpAny _ _ (if i<0 then _ else _) _ _ s;rw[if_pos hi];refine wpAny_bind (wpAny_rule ?_);refine wpAny_bind ?_;show wpAny _ _ (setField (.ref it) 1 (rawInt (-1)) >>= λ_=>setField (.ref it) 0 .none) _ _ _;refine wpAny_bind (wpAny_setField ho hd (by simp) ?_);have KN:=Zbb (Obj.mapFields λx=>x.setIfInBounds 1 (rawInt (-1))) ho (Obj.isFreed_of_fields (Obj.data_mapFields hd _));have hd1:=Obj.data_mapFields hd (λx=>x.setIfInBounds 1 (rawInt (-1)));refine wpAny_setField KN hd1 (by simp) ?_
 first
 |show wpAny _ _ (newExc (.type "StopIteration") [] >>= _) _ _ _
 |(refine wpAny_bind ?_;show wpAny _ _ (newExc (.type "StopIteration") [] >>= _) _ _ _)
 refine wpAny_bind ?_;simp only[newExc,newTuple];refine wpAny_bind (wpAny_newObj_type ?_ (by size_fits));refine wpAny_bind (m:=firstArgMember _ _) (wpAny_of_eq (a:=Value.none) (by first|rfl|(simp only[firstArgMember];rfl)) ?_);refine wpAny_newObj_type ?_ (by size_fits);simp only[raiseNew];refine wpAny_bind (wpAny_handled ?_)
 first|rw[show A.in1.handled=none from hh]|rw[hh]
 refine wpAny_bind (wpAny_pure (wpAny_throw ?_));refine wpAny_bind (wpAny_isInstance (T:="StopIteration") (b:=true) ⟨_,Zaw _ rfl,rfl⟩ isSubtype_stop ?_);refine wpAny_pure (hQ _ ?_);have x2:Heap.ExtBut it s.heap ((s.heap.update it (Obj.mapFields λx=>x.setIfInBounds 1 (rawInt (-1)))).update it (Obj.mapFields λx=>x.setIfInBounds 0 .none)):=λc o hc e=>(ZbE ..).extBut c o hc ((ZbE ..).extBut c o hc e);exact(x2.push _).push _
end
abbrev RK(K:Zfr)(src:ZS)(n:Nat):It:=⟨λi H=>i<n/\∃v,src.has K H (n-1-i) v,λi H x H'=>H'=H/\∀v,src.has K H (n-1-i) v->v=x,λi _=>i=n⟩
def ZS.got{X:Cx}{pins:List (Addr×Obj)}{σ:St}{H:Hp}{s:Shared}{src:ZS}{u:Value}{x:V}{i:Nat}{v:V}(I:Inv X pins σ H s)(r:RelV x u)(hv:src.val X.K H x)(nl:∀a,src≠.lst a)(hs:∀z,src=.str z->z.length<=sizeLine)(h:src.has X.K H i v):
  ∃(T gid:String) (y:Value->Prop),s.TypeIs u T/\typeLookup (.type T) "__getitem__" = pure (some (.builtin gid))/\(∀z,y z->RelV v z) /\
   ∀(A':Around) (E':Value->Shared->Prop) (Q':Value->Shared->Prop) (tk:Tok) (n:Nat),(∀z k,y z->Q' z { s with toks:=k })->wpAny (model X.prog X.w) A' (getItem u (.int i tk)) Q' E' { s with toks:=n }:=by
 have hn:=oC;cases src with
 |lst a=>exact absurd rfl (nl a)
 |tup a =>
  obtain⟨rfl,xs,hq⟩:=hv;obtain⟨xs',hq',hx⟩:=h;rw[I.j6 hq' hq]at hx;cases r;obtain⟨its,rv,pl,hz⟩:=I.tuple hq;obtain⟨w,ew,rw'⟩:=rv.get hx;have hl:=rv.length;have hi:=(Zac.mp hx).1;refine⟨"tuple",_,λz=>z=w,pl.typeIs,slot_tuple_getitem.lookup,λz e=>e ▸ rw',λA' E' Q' tk n hq'=>?_⟩;exact getItem_tuple (s:={ s with toks:=n }) (j:=i) pl ⋯ ⋯ (by rw[Zak];exact seqIndex_of ⋯ ⋯) (by simpa using ew) (hq' w n rfl)
 |str z =>
  cases hv;obtain⟨c,hx,rfl⟩:=h;obtain⟨t,rfl⟩:=r;have hi:=(Array.getElem?_eq_some_iff.mp hx).1;have hl:z.length=z.cps.size:=rfl;have hzl:=hs z rfl;refine⟨"str",_,λy=>∃t,y=.str ⟨#[c]⟩ t,typeIs_str s z t,slot_str_getitem.lookup,λy hy=>hy,λA' E' Q' tk n hq'=>?_⟩
  refine getItem_str (s:={ s with toks:=n }) (c:=c) (by
   have e1:decide ((i:Int) < -(2 ^ 63:Int))=false:=decide_eq_false ⋯;have e2:decide ((i:Int) >= 2 ^ 63)=false:=decide_eq_false ⋯
   rw[e1,e2,Bool.or_false]) (by rw[seqIndex_of ⋯ ⋯];simpa using hx) (hq' _ _ ⟨_,rfl⟩)
def XW{P:Program}{w:World}{K:Zfr}{tg:Expr}(src:ZS)(u:Value)(n:Nat)(it:Addr)(nl:∀a,src≠.lst a)(hs:∀z,src=.str z->z.length<=sizeLine)(x:V)(rx:RelV x u)(hsv:∀(H:Hp) (v:V) (i:Nat),src.has K H i v->src.val K H x):
  Turn P w K tg (RK K src n) [it] it (λi h=>oE h it u ((n:Int)-1-(i:Nat))) where
 mem:=by simp
 obj:=λi h st b hb=>by
  have e:b=it:=by simpa using hb
  subst e;obtain⟨o,e,c,d⟩:=st;exact⟨o,e,λv z=>by rw[d]at z;cases z⟩
 keep:=λi h h' st k=>st.at λo e=>k it (by simp) o e
 item:=by
  intro X hP hw hK hc i pins s σ H E I hf st hg;subst hP hw hK;obtain⟨hin,v,hv⟩:=hg;obtain⟨f0,f1,f2,f3,f4,f5⟩:=hf it (by simp);obtain⟨T,gid,y,hT,hl,hy,hget⟩:=ZS.got I rx (hsv H v _ hv) nl hs hv;have st':oE s.heap it u ((n-1-i:Nat):Int):=by
   have e:((n-1-i:Nat):Int)=(n:Int)-1-(i:Nat):=by lk
   rw[e];exact st
  refine XT st' hT hl hget λz h' tk hz hr sb=>?_;have I1:Inv X pins σ H { s with heap:=h',toks:=tk }:=I.turned (λb o hb e=>(sb.2 b hb).trans e) f0 f1 f3 f4 f5;have hr':oE h' it u ((n:Int)-1-((i+1:Nat):Int)):=by
   have e:(n:Int)-1-((i+1:Nat):Int)=((n-1-i:Nat):Int)-1:=by lk
   rw[e];exact hr
  obtain⟨o,e,c,d⟩:=id hr;exact⟨z,rfl,Kw (s:={ s with heap:=h',toks:=tk }) e c d ∅ ⟨v,H,I1,hy z hz,⟨rfl,λv' hv'=>ZS.xt I hv hv'⟩,hr',λb hb=>(hf b hb).1⟩⟩
 done:=by
  intro X hP hw hK hc i pins s σ H E I hf st hg;subst hP hw hK;have hg:i=n:=hg;subst hg;obtain⟨f0,f1,f2,f3,f4,f5⟩:=hf it (by simp);exact XU (I.ok.hd hc) st ⋯ λh' eb=>⟨rfl,I.turned (t':=s.toks) (λb o hb e=>eb b o hb e) f0 f1 f3 f4 f5⟩
 self:=λ_ _ _ _ _ st h=>RJ st h
def XX:Slot "reversed" "__init__" "object.__init__" :=
 .of (owner:="object") (n:="__init__") (by rw[typeLookup_type,builtinLookup_eq_fast];kernel_rfl) (by decide +kernel) (by decide +kernel) (by decide +kernel)
  (by first|exact .inl (by decide +kernel)|exact .inr (by decide +kernel)) (by rw[isSubtype_type];kernel_rfl)
def RL:TypeCalled "reversed" "reversed.__new__" "object.__init__" :=
 ⟨by decide +kernel,by decide +kernel,⟨_,_,F.mro_reversed⟩,F.made_reversed,by decide +kernel,by rw[isSubtype_type];kernel_rfl,XX⟩
def RM{u:Value}{T gid:String}{n:Nat}(h0:typeLookup (.type T) "__reversed__" = pure none)(h1:typeLookup (.type T) "__getitem__" = pure (some (.builtin gid)))(hsub:isSubtype (.type T) (.type "dict")=pure false)
  (NS:["tuple.__getitem__","str.__getitem__","bytes.__getitem__","bytearray.__getitem__","memoryview.__getitem__","numpy.ndarray.__getitem__","sqlite3.Row.__getitem__"].contains gid=true) :
  Meets (Builtin.«reversed.__new__» ⟨[.type "reversed",u],[]⟩) (λ_ R s=>s.TypeIs u T /\
   (∀(prog:Program) (w:World) (A':Around) (E':Value->Shared->Prop) (Q':Value->Shared->Prop),(∀t k,Q' (.int n t) { s with toks:=k })->wpAny (model prog w) A' (call (.builtin "len") [u]) Q' E' s) /\
   ∀k,R (.ok (.ret (.ref s.heap.objs.size))) { s with heap:=s.heap.push { cls:=.type "reversed",data:=.fields #[u,rawInt ((n:Int)-1)] },toks:=k }) :=
 .of_wp λprog w A R s h=>by
 obtain⟨hT,hlen,h⟩:=h;unfold Builtin.«reversed.__new__»;refine wpAny_bind (wpAny_of_eq (newClass_reversed _) ?_)
 try dsimp only
 refine wpAny_bind (wpAny_of_eq (a:=()) (by first|rfl|kernel_rfl) ?_);refine wpAny_bind (wpAny_of_eq (a:=()) (by first|rfl|kernel_rfl) ?_)
 try dsimp only
 refine wpAny_bind (wpAny_specialOf hT h0 ?_)
 try dsimp only
 refine wpAny_bind ?_;show wpAny _ _ (isInstance u (.type "dict") >>= _) _ _ _;refine wpAny_bind (wpAny_isInstance (b:=false) hT hsub ?_);rw[if_neg Zam];refine wpAny_bind (wpAny_specialOf hT h1 ?_);show wpAny _ _ (if["tuple.__getitem__","str.__getitem__","bytes.__getitem__","bytearray.__getitem__","memoryview.__getitem__","numpy.ndarray.__getitem__","sqlite3.Row.__getitem__"].contains gid=true then _ else _) _ _ _;rw[if_pos NS];refine wpAny_pure ?_;rw[if_neg (by simp)];refine wpAny_bind (hlen _ _ _ _ _ λt k=>?_);refine wpAny_bind (wpAny_of_eq (a:=some (n:Int)) rfl ?_)
 try dsimp only
 refine wpAny_bind ?_;show wpAny _ _ (newObj (.type "reversed") (.fields #[u,rawInt ((n:Int)-1)])) _ _ _;refine wpAny_newObj_type ?_;exact wpAny_pure ⟨_,rfl,h k⟩
def XY:isSubtype (.type "tuple") (.type "dict")=pure false:=by rw[isSubtype_type];kernel_rfl
def XZ:isSubtype (.type "str") (.type "dict")=pure false:=by rw[isSubtype_type];kernel_rfl
abbrev Fm(K:Zfr)(ta:TA):TI:=λσ H R=>ta σ H λvs H1=>∃(x:V) (src:ZS) (n:Nat),vs=[x]/\src.val K H1 x/\src.fin K H1 n/\(∀a,src≠.lst a)/\(∀z,src=.str z->z.length<=sizeLine)/\R (RK K src n) H1
def AB(hg:Gl X "reversed")(hm:X.mg "reversed" = none)(ha:PA X [l] ta)(hs:starEach [l] X.env=[(false,eval l X.env)]:=by rfl):
  PI X tg (.Call (.Name "reversed" p) [l] [] pos) (Fm X.K ta):=by
 intro pins s σ H R I h;refine Call_ (zU I hg hm Xg (PyProof.Rows.callWith_type1 (cW (ha pos pins s σ H _ I h) λus s1 ⟨vs,H1,I1,r1,q1⟩=>?_) hs rfl));obtain⟨x,src,n,e,hv,hn,nl,hz,q⟩:=q1;subst e;obtain⟨u,rfl,r⟩:=vals1 r1;have l63:=oC;have hsv:∀(H:Hp) (v:V) (i:Nat),src.has X.K H i v->src.val X.K H x:=λH v i hh=>by
  cases src with
  |tup a=>obtain⟨xs,h1,_⟩:=hh;exact⟨hv.1,xs,h1⟩
  |lst a=>exact absurd rfl (nl a)
  |str z=>exact hv
 have fin:∀k,wpAny (model X.prog X.w) X.A (pyIter (.ref s1.heap.objs.size)) (M4 X pins σ tg R) X.xe { s1 with heap:=s1.heap.push { cls:=.type "reversed",data:=.fields #[u,rawInt ((n:Int)-1)] },toks:=k }:=λk=>by
  have g:oE (s1.heap.push { cls:=.type "reversed",data:=.fields #[u,rawInt ((n:Int)-1)] }) s1.heap.objs.size u ((n:Int)-1-(0:Nat)):=⟨_,Zaw _ rfl,rfl,by simp⟩;refine RJ g ?_;refine⟨s1.heap.objs.size,[s1.heap.objs.size],_,_,H1,rfl,I1.kept (t':=k) λb o e=>Zaf _ e,XW src u n _ nl hz x r hsv,g,λb hb=>?_,q⟩;have e:b=s1.heap.objs.size:=by simpa using hb
  subst e;exact I1.sD (Zag _) (I1.hok.fresh (Zag _))
 cases src with
 |lst a=>exact absurd rfl (nl a)
 |tup a =>
  obtain⟨rfl,xs,hq⟩:=id hv;obtain⟨xs',hq',hx⟩:=hn;have hx:xs.length=n:=by rw[<- I1.j6 hq' hq];exact hx
  cases r;obtain⟨its,rv,pl,hz'⟩:=I1.tuple hq;have hl:=rv.length;refine callType_new RL ∅ (F.typeCall_reversed_1 _) (F.newCall_reversed_1 _) (λobj=>F.args_object_init_2 obj _) F.entry_reversed_new (RM (n:=n) XR slot_tuple_getitem.lookup XY ∅) ⟨pl.typeIs,λprog w A' E' Q' hq=>?_,λk=>⟨⟨_,Zaw _ rfl,rfl⟩,fin k⟩⟩;have e:its.toArray.size=n:=by rw[Zak];lk
  refine len_tuple pl (by rw[e];lk) ?_;rw[e];exact hq _ _
 |str z =>
  cases hv;have hn:z.length=n:=hn;have:=hz z rfl;obtain⟨t,rfl⟩:=r;refine callType_new RL ∅ (F.typeCall_reversed_1 _) (F.newCall_reversed_1 _) (λobj=>F.args_object_init_2 obj _) F.entry_reversed_new (RM (n:=n) XS slot_str_getitem.lookup XZ ∅) ⟨typeIs_str _ z t,λprog w A' E' Q' hq=>?_,λk=>⟨⟨_,Zaw _ rfl,rfl⟩,fin k⟩⟩;refine len_str ⋯ ?_;rw[hn];exact hq _ _
end L2
namespace L2
open PySem PySem.Spec PyProof.Rows
open Builtin
end L2
namespace L2
open PySem PySem.Spec PyProof.Rows
abbrev DU(a:Addr)(xs:List (List Int×Addr×Value)):HO:=.ext λh=>(a == sysModules)=false/\xs.length<=sizeLine/\∃o es ep,h.get? a=some o/\o.ExactDict/\o.data=.dict es ep /\
 (∃(P:Program) (w:World),es.toList=xs.map (entryOfKey (tupleKind (intKind P w))))/\(xs.map (·.1)).Nodup
end L2
namespace L2
open PySem PySem.Spec PyProof.Rows PySem.SeqAt PySem.MeetsSeq
abbrev qG(A:Around)(s:Shared)(y x:Value)(r:Bool):Prop:=∀(prog:Program) (w:World) (E Q:Value->Shared->Prop),Q (.bool r) s->wpAny (model prog w) A (richCompare .Lt y x) Q E s
abbrev du(e lt:Nat->Bool)(fin:Bool):List Nat->Bool
 |[]=>fin
 |i :: r=>if e i then du e lt fin r else lt i
def X0(l m:Addr)(a b:Array Value)(n1 n2:Nat)(d1 d2:Option Addr)(s1 s2:Array (Option Value))(e lt:Nat->Bool):
  Meets (Builtin.«tuple.__lt__» ⟨[.ref l,.ref m],[]⟩) (λA R s=>s.heap.get? l=some { cls:=.type "tuple",dict:=d1,data:=.seq a n1,slots:=s1 }/\s.heap.get? m=some { cls:=.type "tuple",dict:=d2,data:=.seq b n2,slots:=s2 } /\
    (∀j (h1:j<a.size) (h2:j<b.size),EqAt A.in1 s a[j] b[j] (e j))/\(∀j (h1:j<a.size) (h2:j<b.size),e j=false->qG A.in1 s a[j] b[j] (lt j))/\R (.ok (.ret (.bool (du e lt (decide (a.size<b.size)) (List.range (min a.size b.size)))))) s) :=
 .of_wp λprog w A R s h=>by
  obtain⟨hp,g,d,tk,os⟩:=s;obtain⟨hl,hm,he,hlt,h⟩:=h;have f2:=AutoSeq1.sub_tuple_tuple;have hZ:(a.toList.zip b.toList).length=min a.size b.size:=by simp
  wp_walk using wpAny_loadPart' hl,wpAny_loadPart' hm,wpAny_forIn_list _ (λrest q s'=>q.1=none/\s'=⟨hp,g,d,tk,os⟩/\∃i,rest=(a.toList.zip b.toList).drop i/\R (.ok (.ret (.bool (du e lt (decide (a.size<b.size)) ((List.range (min a.size b.size)).drop i))))) ⟨hp,g,d,tk,os⟩) _
  case turn =>
   rintro⟨y,x⟩ rest q s' ⟨hq,rfl,i,hz,hR⟩;have hil:i<(a.toList.zip b.toList).length:=by
    rcases ZbZ i (a.toList.zip b.toList).length with k|k
    ·exact k
    ·rw[Zcz k]at hz;cases hz
   have hmn:i<min a.size b.size:=hZ ▸ hil;have g1:i<a.size:=by lk
   have g2:i<b.size:=by lk
   rw[Zbt hil]at hz;injection hz with hyx hrest;have hy:y=a[i]:=by simpa using congrArg Prod.fst hyx
   have hx:x=b[i]:=by simpa using congrArg Prod.snd hyx
   subst hy hx;have hd:(List.range (min a.size b.size)).drop i=i :: (List.range (min a.size b.size)).drop (i+1):=by simp[Zbt,hmn]
   rw[hd,du]at hR;refine wpAny_bind (he i g1 g2 prog w _ _ ?_);cases hei:e i with
   |true =>
    rw[hei]at hR
    wp_walk
    exact⟨rfl,rfl,i+1,hrest,hR⟩
   |false =>
    rw[hei]at hR;refine wpAny_bind (wpAny_rule (wpAny_bind (hlt i g1 g2 hei prog w _ _ ?_)))
    wp_walk
    exact⟨_,rfl,hR⟩
  case fin =>
   rintro⟨q1,q2⟩ s' ⟨hq,rfl,i,hz,hR⟩;simp only at hq;subst hq;have hge:min a.size b.size<=i:=by
    rcases ZbZ i (a.toList.zip b.toList).length with k|k
    ·rw[Zbt k]at hz;cases hz
    ·exact hZ ▸ k
   rw[Zcz (by simpa using hge),du]at hR
   wp_walk
   exact⟨_,rfl,by simpa[Builtin.Tuple.tupleCompareSizes]using hR⟩
  case h =>
   exact⟨rfl,rfl,0,rfl,by simpa using h⟩
def qG.tuples(hl:s.heap.IsTuple l a)(hm:s.heap.IsTuple m b)(hu:A.units<cLine)
  (he:∀j (h1:j<a.size) (h2:j<b.size),EqAt A.in1 s a[j] b[j] (e j)) (hlt:∀j (h1:j<a.size) (h2:j<b.size),e j=false->qG A.in1 s a[j] b[j] (lt j)) :
  qG A s (.ref l) (.ref m) (du e lt (decide (a.size<b.size)) (List.range (min a.size b.size))):=λprog w E Q h=>by
 obtain⟨⟨c1,d1,t1,s1⟩,o1,k1,n1,j1⟩:=hl;obtain⟨⟨c2,d2,t2,s2⟩,o2,k2,n2,j2⟩:=hm;simp only at k1 j1 k2 j2;subst k1 j1 k2 j2;exact richCompare_meets_room (op:=.Lt) ⟨_,o1,rfl⟩ ⟨_,o2,rfl⟩ F.slot_tuple_lt F.entry_tuple_lt (F.args_tuple_lt_2 _ _) (X0 l m a b n1 n2 d1 d2 s1 s2 e lt)
  ⟨o1,o2,he,hlt,show Value.bool (du e lt (decide (a.size<b.size)) (List.range (min a.size b.size)))≠Value.notImplemented/\Q (.bool (du e lt (decide (a.size<b.size)) (List.range (min a.size b.size)))) s from⟨(λx=>nomatch x),h⟩⟩ hu
mutual
noncomputable def De:PyData->PyData->Bool
 |.int a,.int b=>decide (a<b)
 |.tuple xs,.tuple ys=>pR xs ys
 |_,_=>false
noncomputable def pR:List PyData->List PyData->Bool
 |[],[]=>false
 |[],_ :: _=>true
 |_ :: _,[]=>false
 |x :: xs,y :: ys=>if PyData.eqv x y then pR xs ys else De x y
end
mutual
noncomputable def vz:PyData->PyData->Bool
 |.int _,.int _=>true
 |.tuple xs,.tuple ys=>qH xs ys
 |_,_=>false
noncomputable def qH:List PyData->List PyData->Bool
 |[],_=>true
 |_ :: _,[]=>true
 |x :: xs,y :: ys=>vz x y && qH xs ys
end
def RN(e lt:Nat->Bool)(fin:Bool)(f:Nat->Nat):∀l:List Nat,du e lt fin (l.map f)=du (λi=>e (f i)) (λi=>lt (f i)) fin l
 |[]=>rfl
 |i :: r=>by
  show(if e (f i)then du e lt fin (r.map f)else lt (f i))=if e (f i)then _ else lt (f i)
  rw[RN e lt fin f r]
abbrev sN(xs ys:List PyData)(j:Nat):Bool:=De (xs.getD j .none) (ys.getD j .none)
def RO:∀xs ys:List PyData,du (pairEq xs ys) (sN xs ys) (decide (xs.length<ys.length)) (List.range (min xs.length ys.length))=pR xs ys
 |[],[]=>rfl
 |[],_ :: _=>by simp[du,pR]
 |_ :: _,[]=>by simp[du,pR]
 |x :: xs,y :: ys=>by
  have ih:=RO xs ys;have e1:min (x :: xs).length (y :: ys).length=min xs.length ys.length+1:=by simp only[ZaE];lk
  have e2:decide ((x :: xs).length<(y :: ys).length)=decide (xs.length<ys.length):=by simp
  rw[e1,e2,List.range_succ_eq_map,du,RN];show(if PyData.eqv x y then du (pairEq xs ys) (sN xs ys) (decide (xs.length<ys.length)) (List.range (min xs.length ys.length))else De x y)=_;rw[ih,pR]
mutual
theorem RP:∀(da db:PyData) (A:Around) (s:Shared) (a b:Value) (as bs:List Addr),Reads s.heap a da as->Reads s.heap b db bs->vz da db=true->da.canLay0=true->db.canLay0=true->A.units+min da.depth db.depth<cLine->qG A s a b (De da db)
 |.int x,.int y,A,s,_,_,_,_,ra,rb,_,_,_,_=>by
  cases ra with
  |int _ t =>
   cases rb with
   |int _ u=>exactλprog w E Q h=>richCompare_gives (op:=.Lt) (typeIs_int s _ t) (typeIs_int s _ u) F.slot_int_lt F.entry_int_lt (F.args_int_lt_2 _ _) (gives_int_lt _ _ t u) (λx=>nomatch x) h
 |.tuple xs,.tuple ys,A,s,_,_,_,_,ra,rb,ok,ha,hb,hu=>by
  cases ra with
  |@tuple l o vs n _ as1 h1 h2 h3 h4 =>
   cases rb with
   |@tuple l' o' vs' n' _ bs1 k1 k2 k3 k4 =>
    have t1:s.heap.IsTuple l vs:=⟨_,h1,h2,_,h3⟩;have t2:s.heap.IsTuple l' vs':=⟨_,k1,k2,_,k3⟩;have n1:vs.size=xs.length:=by simpa using ReadsAll.length _ _ _ h4
    have n2:vs'.size=ys.length:=by simpa using ReadsAll.length _ _ _ k4
    show qG A s (.ref l) (.ref l') (pR xs ys);rw[<- RO xs ys,<- n1,<- n2];refine qG.tuples t1 t2 (room_here hu) (λj j1 j2=>?_) (λj j1 j2 _=>?_);have z:=eqAt_readsAll xs ys A.in1 s vs.toList vs'.toList _ _ h4 k4 ha hb (room_in hu) j (by simpa using j1) (by simpa using j2);simpa using z;have z:=RQ xs ys A.in1 s vs.toList vs'.toList _ _ h4 k4 ok ha hb (room_in hu) j (by simpa using j1) (by simpa using j2);simpa using z
 |.int _,.none,_,_,_,_,_,_,_,_,ok,_,_,_=>nomatch ok
 |.int _,.bool _,_,_,_,_,_,_,_,_,ok,_,_,_=>nomatch ok
 |.int _,.str _,_,_,_,_,_,_,_,_,ok,_,_,_=>nomatch ok
 |.int _,.list _,_,_,_,_,_,_,_,_,ok,_,_,_=>nomatch ok
 |.int _,.tuple _,_,_,_,_,_,_,_,_,ok,_,_,_=>nomatch ok
 |.int _,.dict _,_,_,_,_,_,_,_,_,ok,_,_,_=>nomatch ok
 |.tuple _,.none,_,_,_,_,_,_,_,_,ok,_,_,_=>nomatch ok
 |.tuple _,.bool _,_,_,_,_,_,_,_,_,ok,_,_,_=>nomatch ok
 |.tuple _,.int _,_,_,_,_,_,_,_,_,ok,_,_,_=>nomatch ok
 |.tuple _,.str _,_,_,_,_,_,_,_,_,ok,_,_,_=>nomatch ok
 |.tuple _,.list _,_,_,_,_,_,_,_,_,ok,_,_,_=>nomatch ok
 |.tuple _,.dict _,_,_,_,_,_,_,_,_,ok,_,_,_=>nomatch ok
 |.none,_,_,_,_,_,_,_,_,_,ok,_,_,_=>by simp[vz]at ok
 |.bool _,_,_,_,_,_,_,_,_,_,ok,_,_,_=>by simp[vz]at ok
 |.str _,_,_,_,_,_,_,_,_,_,ok,_,_,_=>by simp[vz]at ok
 |.list _,_,_,_,_,_,_,_,_,_,ok,_,_,_=>by simp[vz]at ok
 |.dict _,_,_,_,_,_,_,_,_,_,ok,_,_,_=>by simp[vz]at ok
theorem RQ:∀(xs ys:List PyData) (A:Around) (s:Shared) (vs ws:List Value) (as bs:List Addr),ReadsAll s.heap vs xs as->ReadsAll s.heap ws ys bs->qH xs ys=true->PyData.canLayAll0 xs=true->PyData.canLayAll0 ys=true->A.units+min (PyData.depthAll xs) (PyData.depthAll ys)<cLine->∀j (h1:j<vs.length) (h2:j<ws.length),qG A s vs[j] ws[j] (sN xs ys j)
 |[],_,_,_,_,_,_,_,ra,_,_,_,_,_,j,h1,_=>by cases ra;exact absurd h1 (Za0 _)
 |_ :: _,[],_,_,_,_,_,_,_,rb,_,_,_,_,j,_,h2=>by cases rb;exact absurd h2 (Za0 _)
 |x :: xs,y :: ys,A,s,_,_,_,_,ra,rb,ok,ha,hb,hu,j,h1,h2=>by
  have a':x.canLay0=true/\PyData.canLayAll0 xs=true:=by simpa[PyData.canLayAll0]using ha
  have b':y.canLay0=true/\PyData.canLayAll0 ys=true:=by simpa[PyData.canLayAll0]using hb
  have o':vz x y=true/\qH xs ys=true:=by simpa[qH]using ok
  cases ra with
  |cons r rs =>
   cases rb with
   |cons r' rs' =>
    cases j with
    |zero=>exact RP x y A s _ _ _ _ r r' o'.1 a'.1 b'.1 (room_head hu)
    |succ j=>exact RQ xs ys A s _ _ _ _ rs rs' o'.2 a'.2 b'.2 (room_tail hu) j (ZcA h1) (ZcA h2)
end
section
variable {prog:Program}{w:World}{A:Around}{R:Result->Shared->Prop}{I:Addr}{fp wr:List Addr}{n:Nat}{P:Nat->Value->Prop}{St:Nat->Heap->Prop}
abbrev jb(a b:Heap):Prop:=∀x o,a.get? x=some o->b.get? x=some o
abbrev AE(A:Around)(h0:Heap)(P:Nat->Value->Prop)(bt:Nat->Nat->Bool):Prop:=∀i j vi vj (s:Shared),jb h0 s.heap->P i vi->P j vj->qG A s vi vj (bt i j)
def KO:(toString "min" ++ toString ".loop" : String)="min.loop" := by decide
def NT(W:Walks prog w A.in1 I fp wr n P St)(bt:Nat->Nat->Bool)(hcmp:AE A.in1 h0 P bt)(S:Addr)(hSf:S ∉ fp)(AF:h0.get? S=none)(hw0:∀b∈wr,h0.get? b=none):
  ∀(k j:Nat) (s:Shared) (vb:Value) (c:Nat),n-(j+1)=k->j+1<=n->St (j+1) s.heap->P (argBest bt j) vb->jb h0 s.heap->s.heap.get? S=some { cls:=.type "list",dict:=none,data:=.seq #[vb,vb] c,slots:=#[] } ->
  (∀v h' tk,P (argBest bt (n-1)) v->jb h0 h'->R (.ok (.ret v)) { s with heap:=h',toks:=tk })->codeAny (model prog w) A (.builtin "min.loop" ⟨[.ref I,.none,.ref S],[]⟩) R s
 |0,j,s,vb,c,hk,hj,hst,KP,hK,hS,hR=>by
  have AG:S ∉ wr:=λz=>hSf (W.sub S z);have hin:n=j+1:=by lk
  subst hin;refine codeAny_builtin F.entry_min_loop ?_;rw[Around.under_plainId F.plain_min_loop (A:=A) _];show wpAny (model prog w) A.in1 (seqItems? (.ref S) >>= _) _ _ _;refine wpAny_bind (wpAny_seqItems hS rfl ?_);show wpAny (model prog w) A.in1 (tryCatch (pyNext (.ref I)) _ >>= _) _ _ _;refine wpAny_bind (wpAny_tryCatch (W.done s _ _ hst λh' tk hk'=>?_));have hS':=hk' S _ AG hS;show wpAny (model prog w) A.in1 (updateSeq S (λ_=>#[]) >>= _) _ _ _;refine wpAny_bind (wpAny_updateSeq hS' rfl (wpAny_bind (wpAny_letGo (wpAny_pure (hR vb _ tk KP λb o e=>?_)))));have hb1:b ∉ wr:=λz=>by rw[hw0 b z]at e;cases e
  have hb2:S≠b:=λz=>by rw[<- z,AF]at e;cases e
  exact(ZaF _ _ hb2).trans (hk' b o hb1 (hK b o e))
 |k+1,j,s,vb,c,hk,hj,hst,KP,hK,hS,hR=>by
  have AG:S ∉ wr:=λz=>hSf (W.sub S z);have hlt:j+1<n:=by lk
  refine codeAny_builtin F.entry_min_loop ?_;rw[Around.under_plainId F.plain_min_loop (A:=A) _];show wpAny (model prog w) A.in1 (seqItems? (.ref S) >>= _) _ _ _;refine wpAny_bind (wpAny_seqItems hS rfl ?_);show wpAny (model prog w) A.in1 (tryCatch (pyNext (.ref I)) _ >>= _) _ _ _;refine wpAny_bind (wpAny_tryCatch (W.item (j+1) s _ _ hlt hst λv h' tk hP uA hk'=>?_));have hS':=hk' S _ AG hS;have Fn:jb h0 h':=λb o e=>hk' b o (λz=>by rw[hw0 b z]at e;cases e) (hK b o e);show wpAny (model prog w) A.in1 (tryCatch (holding [v,v] (richCompare .Lt v vb >>= _)) _ >>= _) _ _ _;refine wpAny_bind (wpAny_tryCatch (wpAny_holding (wpAny_bind (hcmp (j+1) (argBest bt j) v vb _ Fn hP KP prog w _ _ ?_))));refine wpAny_bind (wpAny_holding (wpAny_truthy_bool (wpAny_bind (wpAny_letGo (wpAny_pure ?_)))));cases hb:bt (j+1) (argBest bt j)with
  |true =>
   simp only[if_true];refine wpAny_bind (wpAny_updateSeq hS' rfl (wpAny_bind (wpAny_letGo ?_)));rw[KO];have NU:jb h0 (h'.update S (Obj.mapSeq λ_=>#[v,v])):=λb o e=>(ZaF _ _ (λz=>by rw[<- z,AF]at e;cases e)).trans (Fn b o e);refine wpAny_pure ⟨plainId_quiet F.plain_min_loop _,NT W bt hcmp S hSf AF hw0 k (j+1) _ v _ ⋯ hlt (W.frame _ _ _ uA λb NV o e=>?_) (by simp only[argBest,hb,if_true];exact hP) NU (Zbb _ hS' rfl) λv' h'' sO Fp sP=>hR v' h'' sO Fp sP⟩;exact(ZaF _ _ (λz:S=b=>hSf (z ▸ NV))).trans e
  |false =>
   simp only[ZaT,if_false];refine wpAny_bind (wpAny_letGo ?_);rw[KO];exact wpAny_pure ⟨plainId_quiet F.plain_min_loop _,NT W bt hcmp S hSf AF hw0 k (j+1) _ vb c ⋯ hlt uA (by simp only[argBest,hb,ZaT,if_false];exact KP) Fn hS' λv' h'' sO Fp sP=>hR v' h'' sO Fp sP⟩
def X1(W:Walks prog w A.in1 I fp wr n P St)(bt:Nat->Nat->Bool)(hcmp:AE A.in1 h0 P bt)(S:Addr)(hSf:S ∉ fp)(AF:h0.get? S=none)(hw0:∀b∈wr,h0.get? b=none)(hn:0<n)(hst:St 0 s.heap)(hK:jb h0 s.heap)
  (hS:s.heap.get? S=some { cls:=.type "list",dict:=none,data:=.seq #[] c,slots:=#[] }) (hR:∀v h' tk,P (argBest bt (n-1)) v->jb h0 h'->R (.ok (.ret v)) { s with heap:=h',toks:=tk }) :
  codeAny (model prog w) A (.builtin "min.loop" ⟨[.ref I,.none,.ref S],[]⟩) R s:=by
 have AG:S ∉ wr:=λz=>hSf (W.sub S z);refine codeAny_builtin F.entry_min_loop ?_;rw[Around.under_plainId F.plain_min_loop (A:=A) _];show wpAny (model prog w) A.in1 (seqItems? (.ref S) >>= _) _ _ _;refine wpAny_bind (wpAny_seqItems hS rfl ?_);show wpAny (model prog w) A.in1 (tryCatch (pyNext (.ref I)) _ >>= _) _ _ _;refine wpAny_bind (wpAny_tryCatch (W.item 0 s _ _ hn hst λv h' tk hP uA hk'=>?_));have hS':=hk' S _ AG hS;have Fn:jb h0 h':=λb o e=>hk' b o (λz=>by rw[hw0 b z]at e;cases e) (hK b o e);show wpAny (model prog w) A.in1 (updateSeq S (λ_=>#[v,v]) >>= _) _ _ _;refine wpAny_bind (wpAny_updateSeq hS' rfl ?_);rw[KO];have NU:jb h0 (h'.update S (Obj.mapSeq λ_=>#[v,v])):=λb o e=>(ZaF _ _ (λz=>by rw[<- z,AF]at e;cases e)).trans (Fn b o e);refine wpAny_pure ⟨plainId_quiet F.plain_min_loop _,NT W bt hcmp S hSf AF hw0 _ 0 _ v _ rfl hn (W.frame _ _ _ uA λb NV o e=>?_) hP NU (Zbb _ hS' rfl) λv' h'' sO Fp sP=>hR v' h'' sO Fp sP⟩;exact(ZaF _ _ (λz:S=b=>hSf (z ▸ NV))).trans e
end
section
variable {prog:Program}{w:World}{A:Around}{E:Value->Shared->Prop}{s:Shared}
def X2(hh:A.handled=none)(hl:s.heap.IsList p its)(hn:0<its.size)(hcmp:AE A.in1 s.heap (λi v=>its[i]?=some v) bt)
  (hQ:∀v h' tk,its[argBest bt (its.size-1)]?=some v->jb s.heap h'->Q v { s with heap:=h',toks:=tk }):wpAny (model prog w) A (call (.builtin "min") [.ref p]) Q E s:=by
 have hlt:p<s.heap.objs.size:=by obtain⟨_,e,_⟩:=hl;exact Zay e
 have e0:s.heap.get? s.heap.objs.size=none:=by
  cases q:s.heap.get? s.heap.objs.size with
  |none=>rfl
  |some o=>exact absurd (Zay q) (Zba _)
 have e1:s.heap.get? (s.heap.objs.size+1)=none:=by
  cases q:s.heap.get? (s.heap.objs.size+1)with
  |none=>rfl
  |some o=>exact absurd (Zay q) (Nat.not_lt_of_le (Zbu _))
 refine call_function_tree F.kind_min F.plain_min F.entry_min (F.args_min1 _) ?_;show wpAny (model prog w) A.in1 (Builtin.Builtins.bindParams "min" ["key","default"] 0 ⟨[],[]⟩ >>= _) _ _ _;refine wpAny_bind (wpAny_of_eq (show Builtin.Builtins.bindParams "min" ["key","default"] 0 ⟨[],[]⟩=pure [none,none]from rfl) (wpAny_bind (wpAny_pure ?_)));refine wpAny_bind (wpAny_pyIter_list hl (wpAny_bind (wpAny_newObj_type ?_)));have hsz:(s.heap.push { cls:=.type "list_iterator",data:=.fields #[.ref p,.int 0 0] }).objs.size=s.heap.objs.size+1:=ZbI ..;have hne:p≠s.heap.objs.size:=ZaR hlt;rw[KO];have k1:jb s.heap ((s.heap.push { cls:=.type "list_iterator",data:=.fields #[.ref p,.int 0 0] }).push { cls:=.type "list",data:=.seq #[] }):=λb o e=>Zaf _ (Zaf _ e);refine wpAny_pure ⟨plainId_quiet F.plain_min_loop _,?_⟩;show codeAny (model prog w) A (.builtin "min.loop" ⟨[.ref s.heap.objs.size,.none,.ref (s.heap.push { cls:=.type "list_iterator",data:=.fields #[.ref p,.int 0 0] }).objs.size],[]⟩) _ _;rw[hsz];refine X1 (c:=0) (Walks.list (A:=A.in1) hh s.heap.objs.size p hne its) bt hcmp (s.heap.objs.size+1) (λz=>?_) e1 (λb hb=>?_) hn ?_ k1 ?_ λv h' tk hv hk=>hQ v h' tk hv hk;rcases ZaC.mp z with z|z
 exact absurd z (Nat.succ_ne_self _)
 have:s.heap.objs.size+1=p:=Zaq.mp z
 exact absurd hlt (by rw[<- this];exact Nat.not_lt_of_le (Zbu _));rw[Zaq.mp hb];exact e0;exact⟨⟨_,Zaf _ (Zaw _ rfl),rfl,rfl⟩,(hl.push _).push _⟩;rw[<- hsz];exact Zaw _ rfl
end
def NW:∀{us:List Value} {ds:List PyData} {as:List Addr} {i:Nat} {v:Value},ReadsAll h us ds as->us[i]?=some v->∃as',Reads h v (ds.getD i .none) as'/\ds.getD i .none∈ds
 |_,_,_,_,_,.nil,e=>by simp at e
 |_,_,_,0,_,.cons r _,e=>by simp at e;subst e;exact⟨_,r,Zaj⟩
 |_,_,_,i+1,v,.cons _ rs,e=>by
  obtain⟨as',r,m⟩:=NW (i:=i) (v:=v) rs (by simpa using e);exact⟨as',r,Zas _ m⟩
section
variable {X:Cx}
abbrev xu(ds:List PyData)(i j:Nat):Bool:=De (ds.getD i .none) (ds.getD j .none)
abbrev qu(ds:List PyData):Nat:=argBest (xu ds) (ds.length-1)
abbrev yG(K:Zfr):List V->Hp->VK->Prop:=λxs H Q=>∃(p:Addr) (vs:List V) (ds:List PyData),xs=[.ref p]/\j5 K H p vs/\iC K H vs ds/\0<ds.length/\(∀a∈ds,∀b∈ds,vz a b=true)/\(∀a∈ds,a.canLay0=true/\a.depth<=50)/\∃v,vs[qu ds]?=some v/\Q v H
def RS(hc:X.calm=true)(hu:X.A.units+64<cLine):d7 X (.builtin "min") (yG X.K):=by
 intro pins s σ H xs us Q I r h;obtain⟨p,vs,ds,rfl,hq,hr,hn,hok,hlay,v0,hv0,q⟩:=h;obtain⟨u,rfl,ru⟩:=vals1 r;cases ru;obtain⟨its,rv,pl,_⟩:=I.list hq;obtain⟨as,ra⟩:=iC.reads I hr rv;have hlen:its.length=ds.length:=ReadsAll.length _ _ _ ra;refine X2 (bt:=xu ds) (I.ok.hd hc) pl.isList (by rw[Zak];lk) (λi j vi vj s' hK hi hj=>?_) λv h' tk hv hk=>?_;have hi':its[i]?=some vi:=by simpa using hi
 have hj':its[j]?=some vj:=by simpa using hj
 obtain⟨a1,r1,m1⟩:=NW ra hi';obtain⟨a2,r2,m2⟩:=NW ra hj';have b1:=(hlay _ m1).2;have b2:=(hlay _ m2).2;exact RP _ _ _ s' _ _ _ _ (Reads.keeps hK r1) (Reads.keeps hK r2) (hok _ m1 _ m2) (hlay _ m1).1 (hlay _ m2).1 (by show X.A.units+1+_<cLine;lk);have hv':its[qu ds]?=some v:=by
  have e:its.toArray.size-1=ds.length-1:=by rw[Zak,hlen]
  rw[e]at hv;unfold qu;simpa using hv
 obtain⟨u,NX,ru⟩:=Vals.get rv hv0;rw[hv']at NX;cases NX;exact⟨v0,H,I.kept hk,ru,q⟩
end
end L2
namespace L2
open PySem PySem.Spec PyProof.Rows PySem.W
section
variable {lt:Nat->Nat->Bool}{n0:Nat}{cmp:Nat->Nat->(Bool->Shared->Prop)->Shared->Prop}{s:Shared}
structure Ord(lt:Nat->Nat->Bool):Prop where
 tr:∀a b c,lt b a=false->lt c b=false->lt c a=false
 as:∀a b,lt a b=true->lt b a=false
abbrev P(p:Array Nat)(i:Nat):Nat:=p.getD i 0
variable (o:Ord lt)(hn:0<n0)(hc:∀i j (C:Bool->Shared->Prop),i<n0->j<n0->C (lt i j) s->cmp i j C s)
include o hn hc
end
abbrev tR(a:Addr)(h h':Heap):Prop:=∀b o,b≠a->h.get? b=some o->h'.get? b=some o
abbrev Fq(vs:List Value)(p:Array Nat):Array Value:=List.toArray (p.toList.map λi=>vs.getD i Value.none)
def X3(vs:List Value):Fq vs (List.toArray (List.range vs.length))=vs.toArray:=by
 unfold Fq
 congr 1
 refine Zby λi=>?_;rw[Zad];by_cases h:i<vs.length;rw[Zab (by simpa using h)];simp[h];rw[ZaO (by simpa using h),ZaO (by simpa using h)];rfl
end L2
namespace L2
open PySem PySem.Spec PyProof.Rows
end L2
namespace L2
open PySem PySem.Spec PyProof.Rows PySem.W
end L2
namespace L2
open PySem PySem.Spec PyProof.Rows
open Builtin
end L2
namespace L2
open PySem PySem.Spec PyProof.Rows
end L2
namespace L2
open PySem PySem.Spec PyProof.Rows PySem.W
end L2
namespace L2
open PySem PySem.Spec PyProof.Rows
abbrev X4:Option Addr->Value
 |none=>.none
 |some T=>.ref T
abbrev XO(a C:Addr)(dx tr:Option Addr):HO:=.ext λh=>∃o vs,h.get? a=some o/\o.cls=.ref C/\o.dict=dx/\o.data=.fields vs/\vs[1]?=some (X4 tr)
end L2
namespace L2
open PySem PySem.Spec PyProof.Rows PySem.W
end L2
namespace L2
open PySem PySem.Spec PyProof.Rows
end L2
namespace L2
open PySem PySem.Spec PyProof.Rows PySem.W PySem.Builtin PySem.Builtin.ObjectAttr
end L2
namespace L2
open PySem PySem.Spec PyProof.Rows PySem.W
end L2
namespace L2
open PySem PySem.Spec PyProof.Rows
section
variable {X:Cx}{K:Zfr}
abbrev tU(K:Zfr):V->List V->Hp->VK->Prop:=λx vs H Q=>∃(a:Addr) (ys:List V) (ds:List PyData) (y:V) (dy:PyData) (j:Nat),x=.ref a/\vs=[y]/\j5 K H a ys/\iC K H ys ds/\Rep K H y dy/\(∀d∈ds,PyData.canLay0 d=true)/\PyData.canLay0 dy=true/\PyData.depth dy<=60 /\
 ds.length<=1000/\(∃d,ds[j]?=some d/\PyData.eqv d dy=true)/\(∀i d,i<j->ds[i]?=some d->PyData.eqv d dy=false)/\Q (.int (j:Int)) H
def NY(hu:X.A.units+64<cLine):yr X "list.index" (tU X.K):=by
 intro pins s σ H x xs v us Q I rx rv h;obtain⟨a,ys,ds,y,dy,j,rfl,rfl,hq,hr,hy,c1,c2,c3,hl,hit,hno,q⟩:=h;cases rx;obtain⟨u,rfl,ru⟩:=vals1 rv;obtain⟨its,r,pl,hz⟩:=I.list hq;obtain⟨⟨c,dd,dt,sl⟩,e,hc,n,hdt⟩:=pl.isList;cases(show c=.type "list" from hc);cases(show dt=.seq its.toArray n from hdt);have hlen:its.length=ds.length:=by rw[<- r.length];exact hr.vw
 obtain⟨d0,hd0,X5⟩:=hit;have hjl:j<ds.length:=(Zac.mp hd0).1;have rd:∀(i:Nat) (w:Value) (d:PyData),its[i]?=some w->ds[i]?=some d->∃as,Reads s.heap w d as:=λi w d h1 h2=>by
  obtain⟨z,hz',rz⟩:=r.Fh h1;obtain⟨d',hd',rp⟩:=hr.get hz';rw[h2]at hd';cases hd';exact rp.reads I rz
 refine call_meets F.slot_list_index ⟨_,e,rfl⟩ F.entry_list_index (F.args_list_index_2 _ _) (PySem.SeqAt.list_indexAt a its.toArray n dd sl u (eD its ds dy) j (by simp;lk) ⋯ ?_ λm hm X6=>?_) ⟨e,λz hz=>?_,⟨.int _,H,I.tok _,⟨_,rfl⟩,q⟩⟩;unfold eD;refine @decide_eq_true _ (Classical.propDecidable _) ⟨j,d0,?_,hd0,X5⟩;simp[show j<its.length by lk];unfold eD;refine @decide_eq_false _ (Classical.propDecidable _) ?_;rintro⟨i,d,h1,h2,h3⟩;have hm2:m<its.length:=by simpa using hm
 have X7:its[m]?=some (its.toArray[m]):=by simp[hm2]
 obtain⟨dm,RT⟩:∃dm,ds[m]?=some dm:=⟨ds[m]'⋯,Zab _⟩;obtain⟨as,ra⟩:=rd i _ d h1 h2;obtain⟨bs,rb⟩:=rd m _ dm X7 RT;have ed:d=dm:=(Reads.unique ra _ _ rb).1;rw[ed,hno m dm X6 RT]at h3;cases h3;exact Fi hu I r hr ru hy c1 c2 (by first|exact c3|(intro d hd;lk)) z (by simpa using hz)
end
section
variable {X:Cx}
abbrev yH(i j:Int):Prop:=j≠0/\j.natAbs.log2<9000
def X8:mr X (binaryOp .FloorDiv) (rI yH λi j=>.int (i.fdiv j)):=C1 λ_ j _ _ _ _ _ hc q=>floordiv_int hc.1 q (.inl (PyProof.noPylong_of_log2 hc.2))
end
open Builtin
abbrev P2(k:Nat):Nat:=2 ^ k
def RU(a b:Nat):P2 a*P2 b=P2 (a+b):=(Nat.pow_add 2 a b).symm
def Fs(h:a<=b):P2 a<=P2 b:=ZbS ∅ h
def Df(a:Nat):0<P2 a:=Nat.two_pow_pos a
def AH(a n:Nat):P2 a ^ n=P2 (a*n):=(Nat.pow_mul 2 a n).symm
def xv(a:Nat):P2 (a+1)=2*P2 a:=by unfold P2;rw[Nat.pow_succ,ZbY]
def RV(a:Nat):a<P2 a:=Nat.lt_two_pow_self
abbrev tV(i j:Int):Prop:=uX i j\/(Builtin.Int.intBits i<=60000000/\Builtin.Int.intBits j<=60000000)
def yI(h:i.natAbs<P2 k)(hk:k<=60000000):Builtin.Int.intBits i<=60000000:=Zal (PyProof.Rows.intBits_le h) hk
def tV.ok(h:tV i j):IntMulOk i j:=by
 rcases h with h|⟨h1,h2⟩
 exact h.ok;exact PyProof.Rows.mulOk_of_bits (m:=60000000) (n:=60000000) h1 h2 ∅
section
variable {X:Cx}
def qd:mr X (binaryOp .Mult) (rI tV λi j=>.int (i*j)):=C1 λ_ _ _ _ _ _ _ hc q=>mul_int q hc.ok
end
end L2
namespace L2
open PySem PySem.Spec PySem.W PyProof.Rows
structure AI(K:Zfr)(x qual:Str)(st:Stmt)(f:Addr)(fd:FuncData):Prop where
 ex:∃(oc:Value) (od:Option Addr) (dV kV doc pm:Value) (an:Option Addr) (cdv ct:Value) (osl:Array (Option Value)),
  fd=PySem.W.fnOf x qual (gK st) (d8 st) (aj st) dV kV doc pm an cdv ct/\K.lookup f=some ⟨oc,od,.func fd,osl⟩/\PySem.W.codeIn K cdv qual=true
 kp:PySem.W.keepIn K (.ref f)=true
def AI.ok{P:Program}{w:World}{K:Zfr}{mg:Str->Option Value}{base:Heap}{x qual:Str}{st:Stmt}{f:Addr}{fd:FuncData}{N ps:List Str}{k:Nat}{sp:Sp}(F:AI K x qual st f fd)(S:aB N ps (aj st))(len:∀vs H Q E,sp vs H Q E->vs.length=ps.length)
  (hbody:∀(cdv:Value) (A:Around) (outer:List Env) (s:Shared) (H:Hp) (vs:List V) (Q:VK) (E:XK),i9 k (A.deeper (envOfC qual (aj st) s.heap.objs.size f cdv))->sp vs H Q E ->
   ∃t,tF (gE aZ P w K mg base N qual (aj st) f cdv A outer s H E).pb (d8 st) t/\t { nx:=λ_ H'=>Q .non H',rt:=Q } (start N vs) H):aE P w K mg base aZ (k+1) f fd ps sp:=by
 obtain⟨oc,od,dV,kV,doc,pm,an,cdv,ct,osl,rfl,lk,hcd⟩:=F.ex;refine yo lk hcd S len λA outer s H vs Q E hr uI=>?_;obtain⟨t,h,q⟩:=hbody cdv A outer s H vs Q E hr uI;exact⟨t,h.pb,q⟩
structure vA(K:Zfr)(mg:Str->Option Value)(x:Str)(st:Stmt)(ps:List Str)(qr:List V)(f:Addr)(fd:FuncData):Prop where
 F:AI K x x st f fd
 b:Binds K fd ps []
 bd:∃ds,Vals qr ds/\Binds K fd ps ds
 m:mg x=some (.ref f)
abbrev vB(x:Str)(st:Stmt)(ps:List Str)(d m:Nat):Prop :=
 ∀(T:Addr) (kV doc pm:Value) (an:Option Addr) (cdv ct:Value) (us ds:List Value),us.length=m->ds.length=d ->
  ∃k:Option (Array Value)->Sem (List (Str×Value)),bindArgs (PySem.W.fnOf x x (gK st) (d8 st) (aj st) (.ref T) kV doc pm an cdv ct) ⟨us,[]⟩=seqItems? (.ref T) >>= k/\k (some ds.toArray)=pure (ps.zip (us ++ ds.drop (m+d-ps.length)))
def X9{K:Zfr}{h:Heap}{mg:Str->Option Value}(X:K.In h)(G:h.Ns mainGlobals mg){x:Str}{st:Stmt}{ps:List Str}{qr:List V}{f T:Addr}{oc Ya:Value}{od an od':Option Addr}{osl NZ:Array (Option Value)}{kV doc pm cdv ct:Value}{its:Array Value}{n d:Nat}
  (hl:d<=ps.length) (hb:vB x st ps d (ps.length-d)) (hb2:vB x st ps d ps.length)
  (a:PySem.W.nsIn K mainGlobals x=some (some (.ref f))) (l:K.lookup f=some ⟨oc,od,.func (PySem.W.fnOf x x (gK st) (d8 st) (aj st) (.ref T) kV doc pm an cdv ct),osl⟩)
  (lT:K.lookup T=some ⟨Ya,od',.seq its n,NZ⟩) (ei:its.toList.length=d) (hv:Vals qr its.toList)
  (c:PySem.W.codeIn K cdv x=true) (k:PySem.W.keepIn K (.ref f)=true):∃f fd,vA K mg x st ps qr f fd:=by
 have key:∀m (s:Shared) (us:List Value),vB x st ps d m->K.In s.heap->us.length=m->BindsTo s (PySem.W.fnOf x x (gK st) (d8 st) (aj st) (.ref T) kV doc pm an cdv ct) ⟨us,[]⟩ (ps.zip (us ++ its.toList.drop (m+d-ps.length))):=λm s us h KX hu=>by
  obtain⟨kk,h1,h2⟩:=h T kV doc pm an cdv ct us its.toList hu ei;exact BindsTo.of_defaults rfl (KX _ _ lT) rfl h1 (by rw[Array.toArray_toList]at h2;exact h2)
 refine⟨f,_,⟨⟨oc,od,.ref T,kV,doc,pm,an,cdv,ct,osl,rfl,l,c⟩,k⟩,λs us KX hu=>?_,⟨its.toList,hv,λs us KX hu=>?_⟩,PySem.W.mg_of X G a⟩;rw[ZaZ]at hu ⊢
 have:=key ps.length s us hb2 KX hu;rw[show ps.length+d-ps.length=its.toList.length by lk,List.drop_length,ZaZ]at this;exact this
 rw[Zae]at hu
 have:=key (ps.length-d) s us hb KX ⋯;rw[show ps.length-d+d-ps.length=0 by lk,ZcW]at this;exact this
section
variable {X:Cx}{CX:tK}{k:Nat}{f:Addr}{fd:FuncData}{ps:List Str}{sp:Sp}{x:Str}{qr:List V}{E:XK}{e:Expr}{es:List Expr}{t:TA}{p pos:Pos}
def Yb(F:aE X.prog X.w X.K X.mg X.base CX k f fd ps sp)(hr:i9 k X.A)(hg:Gl X x)(hm:X.mg x=some (.ref f))(hk:PySem.W.keepIn X.K (.ref f)=true)(hb:∃ds,Vals qr ds/\Binds X.K fd ps ds)(hx:Passes CX X E)
  (ha:PA X (e :: es) t) (hdb:(x == ("__debug__" : Str))=false:=by decide) (he:starEach (e :: es) X.env=(false,eval e X.env) :: starEach es X.env:=by rfl) (hpl:(backTo pos (starEach es X.env)).any (·.1)=false:=by rfl) :
  PE X (.Call (.Name x p) (e :: es) [] pos) (rF sp qr E t):=by
 obtain⟨ds,hd,hb⟩:=hb;exact QM F hr hg hm hk hb hd hx ha hdb he hpl
end
end L2
namespace L2
open PySem PySem.Spec PyProof.Rows
section
variable {prog:Program}{w:World}{A:Around}{R:Result->Shared->Prop}{I:Addr}{fp wr:List Addr}{n:Nat}{P:Nat->Value->Prop}{St:Nat->Heap->Prop}
abbrev AJ(xs:Array Value)(c:Nat):Obj:={ cls:=.type "list",data:=.seq xs c }
def Yc(W:Walks prog w A.in1 I fp wr n P St)(val:Nat->Addr)(its acc:Nat->Array Value)(hval:∀i v,P i v->v=.ref (val i))(hacc:∀i,i<n->acc (i+1)=acc i ++ its i)(S base:Addr)(hSf:S ∉ fp)(Ft:base<=S)(hwr:∀b∈wr,b<S)(hv:∀j,j<n->val j ∉ wr/\val j≠S)(hz:∀i,i<n->(acc i).size+(its i).size<=sizeLine):
  ∀(k i:Nat) (s:Shared) (T:Addr) (c:Nat),n-i=k->i<=n->St i s.heap->s.heap.get? S=some { cls:=.type "list",dict:=none,data:=.seq #[.ref T] c,slots:=#[] } ->
  (∃c',s.heap.get? T=some (AJ (acc i) c'))->(∀j,j<n->∃c',s.heap.get? (val j)=some (AJ (its j) c'))->T ∉ wr->T≠S->(i=0\/base<=T) ->
  (∀h' tk T',(∀b o,b ∉ wr->b≠S->s.heap.get? b=some o->h'.get? b=some o)->(∃c',h'.get? T'=some (AJ (acc n) c'))->(n=0\/base<=T')->R (.ok (.ret (.ref T'))) { s with heap:=h',toks:=tk }) ->
  codeAny (model prog w) A (.builtin "sum.loop" ⟨[.ref I,.ref S,rawInt 2,rawInt 0],[]⟩) R s:=by
 have AG:S ∉ wr:=λh=>hSf (W.sub _ h);intro k
 induction k with
 |zero =>
  intro i s T c hk hi hst hS hT hL N1 Yd hb hR;have hin:i=n:=by lk
  subst hin;refine codeAny_builtin F.entry_sum_loop ?_;rw[Around.under_plainId F.plain_sum_loop _];show wpAny _ A.in1 (seqItems? (.ref S) >>= _) _ _ s;refine wpAny_bind (wpAny_seqItems hS rfl ?_);show wpAny _ A.in1 (tryCatch (pyNext (.ref I)) _ >>= _) _ _ s;refine wpAny_bind (wpAny_tryCatch (W.done s _ _ hst λh' tk hk'=>?_));obtain⟨c',hT⟩:=hT;exact wpAny_pure (hR h' tk T (λb o KQ _ e=>hk' b o KQ e) ⟨c',hk' T _ N1 hT⟩ hb)
 |succ k ih =>
  intro i s T c hk hi hst hS hT hL N1 Yd hb hR;have hlt:i<n:=by lk
  refine codeAny_builtin F.entry_sum_loop ?_;rw[Around.under_plainId F.plain_sum_loop _];show wpAny _ A.in1 (seqItems? (.ref S) >>= _) _ _ s;refine wpAny_bind (wpAny_seqItems hS rfl ?_);show wpAny _ A.in1 (tryCatch (pyNext (.ref I)) _ >>= _) _ _ s;refine wpAny_bind (wpAny_tryCatch (W.item i s _ _ hlt hst λv h' tk hP uA hk'=>?_));cases hval i v hP;obtain⟨c',hT⟩:=hT;have hS':=hk' S _ AG hS;have Ye:=hk' T _ N1 hT;obtain⟨c2,hv2⟩:=hL i hlt;have hv':=hk' (val i) _ (hv i hlt).1 hv2;show wpAny _ A.in1 ((holding [Value.ref (val i)] (binaryOp .Add (.ref T) (.ref (val i)))).attempt >>= _) _ _ _;refine wpAny_bind (wpAny_attempt (wpAny_holding (PySem.P.add_list Ye hv' ?_ (hz i hlt))));have Dg:(h'.push { cls:=.type "list",data:=.seq (acc i ++ its i) }).get? S=some { cls:=.type "list",dict:=none,data:=.seq #[.ref T] c,slots:=#[] }:=Zaf _ hS';show wpAny _ A.in1 (updateSeq S (λ_=>#[.ref h'.objs.size]) >>= _) _ _ _;refine wpAny_bind ?_;refine wpAny_updateSeq Dg rfl ?_;have AK:=Zbb (Obj.mapSeq λ_=>#[Value.ref h'.objs.size]) Dg rfl;refine wpAny_bind (wpAny_letGo ?_);refine wpAny_bind ?_;have AL:S<h'.objs.size:=Zay hS';have hne:S≠h'.objs.size:=ZaR AL;refine wpAny_updateSeq AK rfl (wpAny_pure ⟨plainId_quiet F.plain_sum_loop _,ih (i+1) _ h'.objs.size _ ⋯ hlt (W.frame _ _ _ uA λb hb o e=>?_) (Zbb _ AK rfl) ⟨0,?_⟩ (λj hj=>?_) ?_ (Ne.symm hne) (.inr (Zbp (ZaS Ft AL))) λh'' sO Yf sP N2 N3=>?_⟩);exact(ZaF _ _ (λh:S=b=>hSf (by rw[h];exact hb))).trans ((ZaF _ _ (λh:S=b=>hSf (by rw[h];exact hb))).trans (Zaf _ e));rw[hacc i hlt];exact(ZaF _ _ hne).trans ((ZaF _ _ hne).trans (Zaw _ rfl));obtain⟨c3,h3⟩:=hL j hj;exact⟨c3,(ZaF _ _ (Ne.symm (hv j hj).2)).trans ((ZaF _ _ (Ne.symm (hv j hj).2)).trans (Zaf _ (hk' _ _ (hv j hj).1 h3)))⟩;exactλh=>Zba _ (ZcL (hwr _ h) AL);refine hR h'' sO Yf (λb o KQ Ft e=>sP b o KQ Ft ((ZaF _ _ (Ne.symm Ft)).trans ((ZaF _ _ (Ne.symm Ft)).trans (Zaf _ (hk' b o KQ e))))) N2 N3
def Yg(a b:Value):argsOk "sum" ⟨[a,b],[]⟩:=by unfold argsOk;kernel_rfl
def Yh{E:Value->Shared->Prop}{s:Shared}{l z:Addr}{items:Array Value}{c0:Nat}{val:Nat->Addr}{its acc:Nat->Array Value}{Q:Value->Shared->Prop}
  (hh:A.handled=none) (hl:s.heap.IsList l items) (hit:∀i,i<items.size->items[i]?=some (.ref (val i))) (hL:∀j,j<items.size->∃c',s.heap.get? (val j)=some (AJ (its j) c'))
  (hz0:s.heap.get? z=some (AJ (acc 0) c0)) (hacc:∀i,i<items.size->acc (i+1)=acc i ++ its i) (hz:∀i,i<items.size->(acc i).size+(its i).size<=sizeLine) (hn:0<items.size)
  (h:∀h' tk T',(∀b o,s.heap.get? b=some o->h'.get? b=some o)->(∃c',h'.get? T'=some (AJ (acc items.size) c'))->s.heap.objs.size<=T'->Q (.ref T') { s with heap:=h',toks:=tk }) :
  wpAny (model prog w) A (call (.builtin "sum") [.ref l,.ref z]) Q E s:=by
 refine call_function_tree F.kind_sum F.plain_sum F.entry_sum (Yg _ _) ?_;unfold Builtin.«sum»;simp only[ZaE,Zcn];rw[if_neg ∅];refine wpAny_bind (wpAny_of_eq (show Builtin.Builtins.bindParams "sum" ["start"] 0 ⟨[.ref z],[]⟩=pure [some (.ref z)]from rfl) ?_);refine wpAny_bind (wpAny_pyIter_list hl ?_);have hlt:l<s.heap.objs.size:=by obtain⟨_,e,_⟩:=hl;exact Zay e
 refine wpAny_bind (wpAny_pure ?_);simp only[List.forIn_cons,List.forIn_nil];have KR:∀o,(s.heap.push o).get? z=some (AJ (acc 0) c0):=λo=>Zaf _ hz0;refine wpAny_bind (wpAny_bind (wpAny_bind (wpAny_isInstance (T:="list") (b:=false) ⟨_,KR _,rfl⟩ F.sub_list_str ?_)));simp only[ZaT,if_false];refine wpAny_pure (wpAny_bind (wpAny_bind (wpAny_isInstance (T:="list") (b:=false) ⟨_,KR _,rfl⟩ F.sub_list_bytes ?_)));simp only[ZaT,if_false];refine wpAny_pure (wpAny_bind (wpAny_bind (wpAny_isInstance (T:="list") (b:=false) ⟨_,KR _,rfl⟩ F.sub_list_bytearray ?_)));simp only[ZaT,if_false];refine wpAny_pure (wpAny_pure ?_);refine wpAny_bind (wpAny_newObj_type ?_);have e1:(s.heap.push { cls:=.type "list_iterator",data:=.fields #[.ref l,.int 0 0] }).objs.size=s.heap.objs.size+1:=ZbI _ _;have yJ:∀i,i<items.size->val i<s.heap.objs.size:=λi hi=>by obtain⟨c',e⟩:=hL i hi;exact Zay e
 have Fu:z<s.heap.objs.size:=Zay hz0;have W:=Walks.list (prog:=prog) (w:=w) (A:=A.in1) hh s.heap.objs.size l (ZaR hlt) items;have N4:∀b,b<s.heap.objs.size->b ∉ [s.heap.objs.size]:=λb hb hm=>by rw[Zaq.mp hm]at hb;exact Zba _ hb
 have Dg:∀b,b<s.heap.objs.size->b≠(s.heap.push { cls:=.type "list_iterator",data:=.fields #[.ref l,.int 0 0] }).objs.size:=λb hb e=>by rw[e,e1]at hb;exact Zba _ (Nat.lt_of_succ_lt hb)
 refine wpAny_pure ⟨plainId_quiet F.plain_sum_loop _,Yc W val its acc (λi v hv=>?_) hacc _ s.heap.objs.size ?_ (by show _<=(s.heap.push _).objs.size;rw[e1];exact Zbu _) ?_ (λj hj=>⟨N4 _ (yJ j hj),Dg _ (yJ j hj)⟩) hz items.size 0 _ z 0 rfl (ZaL _) (W.frame _ _ _ ⟨⟨_,Zaw _ rfl,rfl,rfl⟩,hl.push _⟩ λb _ o e=>Zaf _ e) (Zaw _ rfl) ⟨c0,Zaf _ (KR _)⟩ (λj hj=>?_) (N4 _ Fu) (Dg _ Fu) (.inl rfl) λh' tk T' hk hT hb=>?_⟩;have hi:=(Array.getElem?_eq_some_iff.mp hv).1;rw[hit i hi]at hv;cases hv;rfl;show(s.heap.push _).objs.size ∉ _;rw[e1];intro hm;rcases ZaC.mp hm with hm|hm
 exact absurd hm (Nat.succ_ne_self _)
 have:=Zaq.mp hm
 rw[<- this]at hlt;exact Zba _ (Nat.lt_of_succ_lt hlt);intro b hm;rw[Zaq.mp hm];show _<(s.heap.push _).objs.size;rw[e1];exact Zbf _;obtain⟨c',e⟩:=hL j hj;exact⟨c',Zaf _ (Zaf _ e)⟩;refine h h' tk T' (λb o e=>?_) hT (hb.resolve_left (Nat.ne_of_gt hn));have rK:=Zay e;exact hk b o (N4 b rK) (Dg b rK) (Zaf _ (Zaf _ e))
end
abbrev yK(K:Zfr):List V->Hp->VK->Prop:=λxs H Q=>∃(p z:Addr) (as:List Addr) (xss:List (List V)),xs=[.ref p,.ref z]/\j5 K H p (as.map V.ref)/\H z=some (.lst [])/\as.length=xss.length/\0<as.length/\(∀(i:Nat) (a:Addr) (ys:List V),as[i]?=some a->xss[i]?=some ys->H a=some (.lst ys))/\xss.flatten.length<=sizeLine/\∀r,H r=none->Q (.ref r) (upd H r (.lst xss.flatten))
section
variable {X:Cx}
def Yi(hc:X.calm=true):d7 X (.builtin "sum") (yK X.K):=by
 intro pins s σ H xs us Q I r h;obtain⟨p,z,as,xss,rfl,hp,hz,hlen,hpos,hls,hsz,q⟩:=h;obtain⟨u1,u2,rfl,Yj,Yk⟩:=vals2 r;cases Yj;cases Yk;obtain⟨Fv,rv,pl,_⟩:=I.list hp;have hn:Fv.length=as.length:=by rw[<- rv.length,Zaa]
 obtain⟨z0,Yl,c0,rz,_,ez⟩:=I.rG hz;have Ym:Yl=[]:=by cases rz;rfl
 have hget:∀j,j<as.length->as[j]?=some (as.getD j 0)/\xss[j]?=some (xss.getD j []):=λj hj=>⟨by rw[Zah,Zab hj];rfl,by rw[Zah,Zab ⋯];rfl⟩;have hex:∀j,∃it:List Value,j<as.length->Vals (xss.getD j []) it/\∃c,s.heap.get? (as.getD j 0)=some { cls:=.type "list",data:=.seq it.toArray c }:=λj=>by
  by_cases hj:j<as.length;obtain⟨h1,h2⟩:=hget j hj;obtain⟨_,it,c,rr,_,e⟩:=I.rG (hls j _ _ h1 h2);exact⟨it,λ_=>⟨rr,c,e⟩⟩;exact⟨[],λh=>absurd h hj⟩
 obtain⟨f,hf⟩:=Classical.skolem.mp hex;have yL:∀i,i<=as.length->Vals (xss.take i).flatten ((List.range i).map f).flatten:=λi=>by
  induction i with
  |zero=>intro _;exact .nil
  |succ i ih =>
   intro hi;have hx:i<xss.length:=by lk
   rw[ZaK hx,ZcM,Zav,Zb5,Zb5];refine(ih ⋯).append ?_;have:=(hf i ⋯).1;rw[Zah,Zab hx]at this;simpa using this
 have htk:∀i,(xss.take i).flatten.length<=xss.flatten.length:=λi=>by
  have e:=congrArg List.length (congrArg List.flatten (List.take_append_drop i xss));rw[Zb5,Zae]at e;lk
 refine Yh (items:=Fv.toArray) (c0:=c0) (val:=λj=>as.getD j 0) (its:=λj=>(f j).toArray) (acc:=λi=>(((List.range i).map f).flatten).toArray) (I.ok.hd hc) pl.isList (λi hi=>?_) (λj hj=>?_) ?_ (λi hi=>?_) (λi hi=>?_) (by rw[Zak];lk) λh' tk T' hk hT hb=>?_;rw[Zak,hn]at hi;obtain⟨u,hu,ru⟩:=rv.get (i:=i) (x:=.ref (as.getD i 0)) (by rw[Zad,(hget i hi).1];rfl);cases ru;rw[List.getElem?_toArray];exact hu;rw[Zak,hn]at hj;exact(hf j hj).2;rw[ez,Ym];rfl;show(((List.range (i+1)).map f).flatten).toArray=(((List.range i).map f).flatten).toArray ++ (f i).toArray;rw[ZcM,Zav,Zb5];simp;rw[Zak,hn]at hi
 have:=(yL (i+1) ⋯).length;rw[ZcM,Zav,Zb5,Zae]at this;rw[Zak,Zak];have h2:=htk (i+1);have e:((List.map f [i]).flatten).length=(f i).length:=by simp
 rw[e]at this;lk;obtain⟨c',hT⟩:=hT;rw[Zak,hn]at hT;have hv:=yL as.length (Zag _);rw[hlen,Zbg,<- hlen]at hv;exact⟨.ref T',_,I.laid (o:=.lst xss.flatten) hk hb ⟨hsz,_,c',hv,hT⟩,rfl,q _ (I.hok.fresh hb)⟩
end
end L2
namespace L2
open PySem PySem.Spec PyProof.Rows PySem.W
section
variable {n0:Nat}{cmp:Nat->Nat->(Bool->Shared->Prop)->Shared->Prop}{s:Shared}
def RW(h:i<n0):(List.toArray (List.range n0)).getD i 0=i:=by rw[Array.getD_eq_getD_getElem?,List.getElem?_toArray,ZaV h];rfl
def RX(hc:∀i (C:Bool->Shared->Prop),i+1<n0->C false s->cmp (i+1) i C s)(q:Q n0 s):∀(f n:Nat),1<=n->n+f=n0->(kas_asc (List.toArray (List.range n0)) f n).kasWp cmp Q s
 |0,n,_,e=>by
  have:n=n0:=by lk
  subst this;exact q
 |f+1,n,h1,e=>by
  show cmp ((List.toArray (List.range n0)).getD n 0) ((List.toArray (List.range n0)).getD (n-1) 0) (λb s=>(if b=true then KasT.ret n else kas_asc (List.toArray (List.range n0)) f (n+1)).kasWp cmp Q s) s;rw[RW ⋯,RW ⋯];obtain⟨m,rfl⟩:∃m,n=m+1:=⟨n-1,by lk⟩;exact hc m _ ⋯ (RX hc q f (m+1+1) ⋯ ⋯)
def Yn(hn:0<n0)(hc:∀i (C:Bool->Shared->Prop),i+1<n0->C false s->cmp (i+1) i C s)(q:Q (List.toArray (List.range n0)) s):(kas_sort n0).kasWp cmp Q s:=by unfold kas_sort;rw[KasT.kasWp_bind];unfold kas_count;rw[KasT.kasWp_bind];refine RX hc ?_ (n0-1) 1 (Zag _) ⋯;simp only[beq_self_eq_true,if_true];show(if n0<n0 then kas_bin (n0-max n0 1) _ (max n0 1)else KasT.ret _).kasWp cmp Q s;rw[if_neg (Zba _)];exact q
end
section
variable {prog:Program}{w:World}{A:Around}{E:Value->Shared->Prop}{s:Shared}
def Yo(ho:s.heap.get? a=some (seqObj "list" vs.toArray n))(h64:vs.length<64)
  (hk:2<=vs.length->∀s':Shared,tR a s.heap s'.heap->(∀Q:SortKind->Shared->Prop,Q (tuples' true) s'->wpAny (model prog w) A (keyKind' vs.toArray) Q E s')/\∀i (C:Bool->Shared->Prop),i+1<vs.length->C false s'->kas_ask prog w A (tuples' true) vs (i+1) i C s')
  (h:R (.done (.ret .none)) { s with heap:=sortedHeap s.heap a vs vs.toArray }):wpAny (model prog w) A (Builtin.«list.sort» ⟨[.ref a],[]⟩) R E s:=by
 rw[list_sort_plain];have vC:vs.length<=sizeLine:=Zal (Zbp h64) ∅;refine wpAny_bind (listItems_at ho rfl (wpAny_bind (listUpdate_at ho rfl ?_ (by rw[Zak];exact vC) (ZaL _))));obtain⟨e1,KN⟩:∃e1,(s.heap.update a (Obj.mapSeq λ_=>(#[]:Array Value))).get? a=some (seqObj "list" #[] e1):=⟨_,get?_update_seq ho λ_=>#[]⟩;refine wpAny_bind (seqEpoch_at KN rfl (wpAny_bind (wpAny_newTuple (wpAny_bind (wpAny_newList (wpAny_holding ?_) (ZaL _))) (by show vs.length<=_;exact vC))));show wpAny (model prog w) A _ R E { s with heap:=((s.heap.update a (Obj.mapSeq λ_=>(#[]:Array Value))).push (seqObj "tuple" vs.toArray 0)).push (seqObj "list" #[] 0) };have h:R (.done (.ret .none)) { s with heap:=(((s.heap.update a (Obj.mapSeq λ_=>(#[]:Array Value))).push (seqObj "tuple" vs.toArray 0)).push (seqObj "list" #[] 0)).update a (Obj.mapSeq λ_=>vs.toArray) }:=h;have ho6:(((s.heap.update a (Obj.mapSeq λ_=>(#[]:Array Value))).push (seqObj "tuple" vs.toArray 0)).push (seqObj "list" #[] 0)).get? a=some (seqObj "list" #[] e1):=Zaf _ (Zaf _ KN);have kb:tR a s.heap (((s.heap.update a (Obj.mapSeq λ_=>(#[]:Array Value))).push (seqObj "tuple" vs.toArray 0)).push (seqObj "list" #[] 0)):=λb o hb e=>Zaf _ (Zaf _ ((ZaF _ _ (Ne.symm hb)).trans e));generalize ((s.heap.update a (Obj.mapSeq λ_=>(#[]:Array Value))).push (seqObj "tuple" vs.toArray 0)).push (seqObj "list" #[] 0)=h6 at h ho6 kb ⊢;dsimp only;by_cases h2:vs.toArray.size<2;rw[if_pos h2,if_pos h2];refine wpAny_bind (wpAny_pure ?_);rw[StateT.run_pure];refine wpAny_bind (wpAny_pure ?_);dsimp only;have eo:(arrOf (SortSt.mk' general' (vs.toArray.zip vs.toArray) #[] 7 none)).map (·.2)=vs.toArray:=by
  show(vs.toArray.zip vs.toArray).map (·.2)=vs.toArray;apply Array.toList_inj.mp;simp[List.map_snd_zip]
 refine wpAny_bind (seqEpoch_at ho6 rfl ?_);rw[eo];refine wpAny_bind (listUpdate_at ho6 rfl ?_ (ZaL _) (by rw[Zak];lk));simp only[bne_self_eq_false,ZaT,if_false];exact wpAny_pure h;rw[if_neg h2,if_neg h2];have h2':2<=vs.length:=by rw[Zak]at h2;lk
 obtain⟨hkk,N5⟩:=hk h2' { s with heap:=h6 } kb;refine wpAny_bind (hkk _ ?_);have run:=kat_run (prog:=prog) (w:=w) (A:=A) (E:=E) (κ:=tuples' true) (ks:=vs) (vs:=vs) (s:={ s with heap:=h6 }) (Q:=λst' s'=>arrOf st'=(List.toArray (List.range vs.length)).map (kas_item (vs.toArray.zip vs.toArray))/\failedOf st'=none/\s'={ s with heap:=h6 })
  (G:=λp s'=>s'={ s with heap:=h6 }/\p=List.toArray (List.range vs.length)) rfl h2' h64 (λp st' s' _ x y z=>⟨z.2 ▸ x,y,z.1⟩)
  (Yn ⋯ N5 ⟨rfl,rfl⟩)
 refine wpAny_bind (wpAny_mono run ?_ λ_ _ z=>z);rintro⟨⟨⟩,st'⟩ s' ⟨har,hf,rfl⟩;dsimp only;have eo:(arrOf st').map (·.2)=vs.toArray:=(kat_snds rfl har).trans (X3 vs);refine wpAny_bind (seqEpoch_at ho6 rfl ?_);rw[eo];refine wpAny_bind (listUpdate_at ho6 rfl ?_ (ZaL _) (by rw[Zak];lk));rw[hf];simp only[bne_self_eq_false,ZaT,if_false];exact wpAny_pure h
abbrev Fw(h:Heap)(v:Value)(n:Int):Prop:=∃(q:Addr) (o:Obj) (us:Array Value) (k:Nat) (t:Tok) (r:List Value),v=.ref q/\h.get? q=some o/\o.cls=.type "tuple" /\ o.data=.seq us k/\us.toList=.int n t :: r
abbrev lD(h:Heap):List Value->List Int->Prop
 |[],[]=>True
 |v :: vs,n :: ns=>Fw h v n/\lD h vs ns
 |_,_=>False
def Fw.keep(k:jb h h'):Fw h v n->Fw h' v n
 |⟨q,o,us,m,t,r,e,g,x⟩=>⟨q,o,us,m,t,r,e,k _ _ g,x⟩
def lD.keep(k:jb h h'):∀{vs:List Value} {ns:List Int},lD h vs ns->lD h' vs ns
 |[],[],_=>trivial
 |_ :: _,_ :: _,x=>⟨x.1.keep k,lD.keep k x.2⟩
def lD.len:∀{vs:List Value} {ns:List Int},lD h vs ns->vs.length=ns.length
 |[],[],_=>rfl
 |_ :: _,_ :: _,x=>congrArg Nat.succ (lD.len x.2)
def lD.at:∀{vs:List Value} {ns:List Int} {i:Nat},lD h vs ns->i<vs.length->Fw h (vs.getD i Value.none) (ns.getD i 0)
 |_ :: _,_ :: _,0,x,_=>x.1
 |_ :: _,_ :: _,i+1,x,l=>lD.at (i:=i) x.2 (ZcA l)
def lD.tups:∀{vs:List Value} {ns:List Int},lD h vs ns->∃fs,KatTups h vs fs/\fs.length=vs.length/\∀f∈fs,∃n t,f=Value.int n t
 |[],[],_=>⟨[],trivial,rfl,λf hf=>nomatch hf⟩
 |_ :: _,n :: _,x=>by
  obtain⟨fs,a,b,c⟩:=lD.tups x.2;obtain⟨q,o,us,m,t,r,e,g,hc,hd,hu⟩:=x.1;refine⟨.int n t :: fs,⟨⟨q,o,us,m,e,g,hc,hd,by rw[<- ZbM,hu];rfl⟩,a⟩,by simp[b],λf hf=>?_⟩;rcases ZaC.mp hf with rfl|hf
  exact⟨n,t,rfl⟩;exact c f hf
def AO(x:lD s.heap vs ns)(hu:A.units+52<cLine)(hi:i+1<vs.length)(hl:ns.getD i 0<ns.getD (i+1) 0)(q:C false s):kas_ask prog w A (tuples' true) vs (i+1) i C s:=by obtain⟨a,o,us,m,t,r,e,g,hc,hd,hU⟩:=x.at hi;obtain⟨a',o',us',m',t',r',e',g',hc',hd',hU'⟩:=x.at (show i<vs.length by lk);unfold kas_ask;rw[e,e'];refine kat_lt g hd g' hd' ?_;rw[hU,hU'];generalize ns.getD i 0=y at hl;generalize ns.getD (i+1) 0=z at hl;refine kat_cons (SeqAt.eqAt_reads (.int z) (.int y) A s _ _ [] [] (.int z t) (.int y t') rfl rfl (by show A.units+min 0 0<cLine;lk) prog w _ _ ?_);rw[show PyData.eqv (.int z) (.int y)=false by show(z == y)=false;simp;lk];refine kat_no (oneLt_int ?_);rw[show decide (z<y)=false by simp;lk];exact q
def Yp(hl:IsTup s.heap l vs.toArray\/s.heap.IsList l vs.toArray)(h:Q vs { s with heap:=(s.heap.push (seqObj "list" #[] 0)).update s.heap.objs.size (Obj.mapSeq (· ++ vs.toArray)) })(hz:vs.length<=sizeLine):wpAny (model prog w) A (collect (.ref l)) Q E s:=hl.elim (λt=>Rn t h hz) λt=>collect_list t h hz
def Yq(hl:IsTup s.heap l vs.toArray\/s.heap.IsList l vs.toArray)(h64:vs.length<64)(hx:lD s.heap vs ns)(hp:ns.Pairwise (· < ·))(hu:A.units+64<cLine)
  (h:Q (.ref (s.heap.objs.size+1)) { s with heap:=sortedAll s.heap vs vs.toArray }):wpAny (model prog w) A (call (.builtin "sorted") [.ref l]) Q E s:=by
 have vC:vs.length<=sizeLine:=Zal (Zbp h64) ∅;refine Calls.call_function_entry kind_sorted plain_sorted entry_sorted (args_sorted1 _) ?_;unfold Builtin.«sorted»;refine wpAny_bind (m:=checkCount "sorted" 1 1 _) (wpAny_pure (wpAny_bind (Yp hl (wpAny_bind (wpAny_newList ?_ vC)) vC)));have hsz:((s.heap.push (seqObj "list" #[] 0)).update s.heap.objs.size (Obj.mapSeq (· ++ vs.toArray))).objs.size=s.heap.objs.size+1:=(Heap.size_update _ _ _).trans (size_push' _ _);have zS:(((s.heap.push (seqObj "list" #[] 0)).update s.heap.objs.size (Obj.mapSeq (· ++ vs.toArray))).push (seqObj "list" vs.toArray 0)).get? (s.heap.objs.size+1)=some (seqObj "list" vs.toArray 0):=hsz ▸ Zaw _ rfl;show wpAny (model prog w) _ _ _ _ { s with heap:=((s.heap.push (seqObj "list" #[] 0)).update s.heap.objs.size (Obj.mapSeq (· ++ vs.toArray))).push (seqObj "list" vs.toArray 0) };rw[hsz];have k1:jb s.heap (((s.heap.push (seqObj "list" #[] 0)).update s.heap.objs.size (Obj.mapSeq (· ++ vs.toArray))).push (seqObj "list" vs.toArray 0)):=λb o e=>Zaf _ ((ZaF _ _ (Ne.symm (ZaR (Zay e)))).trans (Zaf _ e));refine wpAny_bind (wpAny_holding (wpAny_call_entry slot_list_sort ⟨_,zS,rfl⟩ entry_list_sort (Yo zS h64 (λh2 s' kb=>?_) ⟨_,rfl,wpAny_pure ⟨_,rfl,h⟩⟩) (args_list_sort _)))
 have hx':lD s'.heap vs ns:=hx.keep λb o' e=>kb b o' (λz=>by
  have:=Zay e;rw[z]at this
  exact absurd this (Nat.not_lt_of_le (Zbu _))) (k1 b o' e)
 obtain⟨fs,t,hl',hf⟩:=hx'.tups;refine⟨λQ' q'=>kat_kind (T:=.type "int") t ⋯ (λv hv=>?_) ∅ q',λi C hi c=>AO hx' (by show A.units+1+1+52<cLine;lk) hi ?_ c⟩;obtain⟨n,t,rfl⟩:=hf v hv;exact Looks.of_pure rfl;have hn:=hx.len;rw[Zah,Zah,Zab ⋯,Zab ⋯];exact ZaM.mp hp i (i+1) ⋯ ⋯ (Zbf _)
end
section
variable {X:Cx}
abbrev vD(K:Zfr):List V->Hp->VK->Prop:=λxs H Q=>∃(p:Addr) (vs:List V) (ns:List Int),xs=[.ref p]/\(j5 K H p vs\/eY K H p vs)/\vs.length<64/\ns.Pairwise (· < ·)/\ns.length=vs.length/\(∀(i:Nat) (v:V) (n:Int),vs[i]?=some v->ns[i]?=some n->∃q ws,v=.ref q/\eY K H q (.int n :: ws)) /\
 ∀l:Addr,H l=none->Q (.ref l) (upd H l (.lst vs))
def AQ{pins:List (Addr×Obj)}{σ:St}{H:Hp}{s:Shared}(I:Inv X pins σ H s){vs:List V}{its:List Value}(rv:Vals vs its):∀{ns:List Int},ns.length=vs.length->(∀(i:Nat) (v:V) (n:Int),vs[i]?=some v->ns[i]?=some n->∃q ws,v=.ref q/\eY X.K H q (.int n :: ws))->lD s.heap its ns:=by
 induction rv with
 |nil =>
  intro ns hl h;cases ns with
  |nil=>exact trivial
  |cons=>cases hl
 |cons r rs ih =>
  intro ns hl h;cases ns with
  |nil=>cases hl
  |cons n ns =>
   refine⟨?_,ih (Nat.succ.inj hl) λi v m e1 e2=>h (i+1) v m e1 e2⟩;obtain⟨q,ws,rfl,hq⟩:=h 0 _ n rfl rfl;cases r;obtain⟨its,rv,⟨o,ho,hc,k,hd⟩,_⟩:=I.tuple hq;cases rv with
   |cons r1 r2 =>
    obtain⟨t,rfl⟩:=r1;exact⟨q,o,_,k,t,_,rfl,ho,hc,hd,rfl⟩
def Yr(hu:X.A.units+64<cLine):d7 X (.builtin "sorted") (vD X.K):=by
 intro pins s σ H xs us Q I r h;obtain⟨p,vs,ns,rfl,hq,h64,hp,hl,hh,q⟩:=h;obtain⟨u,rfl,ru⟩:=vals1 r;cases ru;obtain⟨its,rv,pl⟩:∃its,Vals vs its/\(IsTup s.heap p its.toArray\/s.heap.IsList p its.toArray):=by
  rcases hq with hq|hq
  obtain⟨its,rv,pl,_⟩:=I.list hq;exact⟨its,rv,.inr pl.isList⟩;obtain⟨its,rv,pl,_⟩:=I.tuple hq;exact⟨its,rv,.inl pl⟩
 have hvl:vs.length=its.length:=rv.length;refine Yq pl ⋯ (AQ I rv hl hh) hp hu ?_;obtain⟨e,he⟩:=sortedAll_at s.heap its its.toArray;exact⟨.ref (s.heap.objs.size+1),_,I.laid (t':=s.toks) (o:=.lst vs) (λb o q=>sortedAll_old q) (Zbu _) ⟨Zal (Zbp h64) ∅,its,e,rv,he⟩,rfl,q _ (I.hok.fresh (Zbu _))⟩
end
end L2
namespace ae
abbrev upto(n:Nat):List Int:=(List.range n).map λ(k:Nat)=>(k:Int)
def rj(n:Nat):(upto n).length=n:=by simp[upto]
def o5:x∈upto n↔0<=x/\x<(n:Int):=by simp only[upto,Zau,ZbG];constructor;rintro⟨k,hk,rfl⟩;lk;rintro⟨h1,h2⟩;exact⟨x.toNat,by lk,by lk⟩
def RY(n:Nat):(upto n).Pairwise (· < ·):=by unfold upto;rw[Zcw];exact(List.pairwise_lt_range).imp λh=>by lk
def RZ(n:Nat):(upto n).Nodup:=(RY n).imp λh=>by lk
def N6:∀{xs ys:List Int},xs.Perm ys->xs.Pairwise (·<=·)->ys.Pairwise (·<=·)->xs=ys
 |[],ys,p,_,_=>(List.nil_perm.mp p).symm
 |x :: xs,[],p,_,_=>absurd p.length_eq (by simp)
 |x :: xs,y :: ys,p,hx,hy=>by
  obtain⟨Ys,Yt⟩:=ZcZ.mp hx;obtain⟨hy1,vo⟩:=ZcZ.mp hy;have e:x=y:=by
   have h1:x∈y :: ys:=p.subset Zaj;have h2:y∈x :: xs:=p.symm.subset Zaj;rcases ZaC.mp h1 with e|h1
   exact e;rcases ZaC.mp h2 with e|h2
   exact e.symm
   have:=Ys y h2;have:=hy1 x h1;lk
  subst e;rw[N6 (List.perm_cons x |>.mp p) Yt vo]
def KS:∀{xs ys:List Int},xs.Nodup->(∀x∈xs,x∈ys)->ys.length<=xs.length->xs.Perm ys
 |[],ys,_,_,h=>by
  have:ys=[]:=ZaX (by simpa using h);subst this;exact Zcf _
 |x :: xs,ys,hn,hs,hl=>by
  obtain⟨h1,h2⟩:=Zbw.mp hn;have hx:x∈ys:=hs x Zaj;have hp:=ZcN hx;have hlen:(ys.erase x).length+1=ys.length:=by have:=hp.length_eq;simpa using this.symm
  refine List.Perm.trans (List.Perm.cons x (KS (ys:=ys.erase x) h2 (λy hy=>?_) ?_)) hp.symm;have hne:y≠x:=λe=>h1 (e ▸ hy);exact(Zci hne).mpr (hs y (Zas _ hy));simp at hl;lk
def KU{xs:List Int}(hn:xs.Nodup)(hb:∀x∈xs,0<=x/\x<(xs.length:Int)):xs.Perm (upto xs.length):=KS hn (λx hx=>o5.mpr (hb x hx)) (by rw[rj];exact Zag _)
end ae
namespace ae
abbrev app(xs:List Int)(i:Int):Int:=xs.getD i.toNat 0
abbrev a7(xs:List Int)(i:Int):Nat->Int
 |0=>i
 |j+1=>app xs (a7 xs i j)
abbrev Tn(n:Nat)(xs:List Int):Prop:=xs.Perm (upto n)
def Tn.length{n:Nat}{xs:List Int}(h:Tn n xs):xs.length=n:=by rw[h.length_eq,rj]
def Tn.nodup(h:Tn n xs):xs.Nodup:=h.nodup_iff.mpr (RZ n)
def Tn.bound(h:Tn n xs)(hx:x∈xs):0<=x/\x<(n:Int):=o5.mp (h.subset hx)
def rL(h0:0<=i)(h1:i<(xs.length:Int)):xs[i.toNat]?=some (app xs i):=by
 have:i.toNat<xs.length:=by lk
 unfold app;rw[Zah,Zab this];rfl
def Yu(h0:0<=i)(h1:i<(xs.length:Int)):app xs i∈xs:=Zai (rL h0 h1)
def Tn.app(h:Tn n xs)(h0:0<=i)(h1:i<(n:Int)):0<=app xs i/\app xs i<(n:Int):=h.bound (Yu h0 (by rw[h.length];exact h1))
def Tn.inj{n:Nat}{xs:List Int}(h:Tn n xs){i j:Int}(i0:0<=i)(i1:i<(n:Int))(j0:0<=j)(j1:j<(n:Int))(e:ae.app xs i=ae.app xs j):i=j:=by have hl:=h.length;have a:=rL i0 (by rw[hl];exact i1);have b:=rL j0 (by rw[hl];exact j1);rw[e]at a;obtain⟨ha,ea⟩:=Zac.mp a;obtain⟨hb,eb⟩:=Zac.mp b;have:=(List.getElem_inj h.nodup).mp (ea.trans eb.symm);lk
def Tn.a7(h:Tn n xs)(h0:0<=i)(h1:i<(n:Int)):∀j,0<=a7 xs i j/\a7 xs i j<(n:Int)
 |0=>⟨h0,h1⟩
 |j+1=>h.app (h.a7 h0 h1 j).1 (h.a7 h0 h1 j).2
def Tn.back(h:Tn n xs)(h0:0<=i)(h1:i<(n:Int)):∀(a d:Nat),ae.a7 xs i a=ae.a7 xs i (a+d)->ae.a7 xs i d=i
 |0,d,e=>by rw[Zcg]at e;exact e.symm
 |a+1,d,e=>by
  have e':ae.app xs (ae.a7 xs i a)=ae.app xs (ae.a7 xs i (a+d)):=by
   have:a+1+d=(a+d)+1:=by lk
   rw[this]at e;exact e
  exact h.back h0 h1 a d (h.inj (h.a7 h0 h1 a).1 (h.a7 h0 h1 a).2 (h.a7 h0 h1 _).1 (h.a7 h0 h1 _).2 e')
def Dh:∀{xs ys:List Int},xs.Nodup->(∀x∈xs,x∈ys)->xs.length<=ys.length
 |[],_,_,_=>ZaL _
 |x :: xs,ys,hn,hs=>by
  obtain⟨h1,h2⟩:=Zbw.mp hn;have hx:x∈ys:=hs x Zaj;have hp:=ZcN hx;have hlen:(ys.erase x).length+1=ys.length:=by have:=hp.length_eq;simpa using this.symm
  have:=Dh (ys:=ys.erase x) h2 λy hy=>(Zci (a:=y) (b:=x) (λe=>h1 (by rw[<- e];exact hy))).mpr (hs y (Zas _ hy));simp only[ZaE];lk
abbrev row(xs:List Int)(i:Int)(m:Nat):List Int:=(List.range (m+1)).map (a7 xs i)
def R0(xs:List Int)(i:Int)(m:Nat):row xs i (m+1)=row xs i m ++ [a7 xs i (m+1)]:=by unfold row;rw[ZcM,Zav];rfl
def wH(xs:List Int)(i:Int)(m:Nat):(row xs i m).length=m+1:=by simp[row]
def KW:x∈row xs i m↔∃j,j<=m/\a7 xs i j=x:=by unfold row;rw[Zau];constructor;rintro⟨j,hj,e⟩;exact⟨j,by have:=ZbG.mp hj;lk,e⟩;rintro⟨j,hj,e⟩;exact⟨j,ZbG.mpr ⋯,e⟩
abbrev NB(xs:List Int)(i:Int)(m:Nat):Prop:=∀j,1<=j->j<=m->a7 xs i j≠i
def Tn.kn(h:Tn n xs)(h0:0<=i)(h1:i<(n:Int))(nb:NB xs i m):m+1<=n:=by
 have hn:(row xs i m).Nodup:=by
  unfold row List.Nodup;rw[Zcw];refine List.Pairwise.imp_of_mem (R:=λa b=>a<b) ?_ List.pairwise_lt_range;intro a b ha hb hab e;have ha':=ZbG.mp ha;have hb':=ZbG.mp hb;obtain⟨d,rfl⟩:∃d,b=a+d:=⟨b-a,by lk⟩;exact nb d ⋯ ⋯ (h.back h0 h1 a d e)
 have:=Dh hn (ys:=upto n) λx hx=>by
  obtain⟨j,_,rfl⟩:=KW.mp hx;exact o5.mpr (h.a7 h0 h1 j)
 rw[wH,rj]at this;exact this
structure jO(xs:List Int)(i:Int)(r:List Int):Prop where
 ex:∃m,r=row xs i m/\NB xs i m/\a7 xs i (m+1)=i
def jO.mem(a:jO xs i r):i∈r:=by obtain⟨m,e1,_,_⟩:=a.ex;rw[e1];exact KW.mpr ⟨0,ZaL _,rfl⟩
def jO.len(h:Tn n xs)(h0:0<=i)(h1:i<(n:Int))(a:jO xs i r):r.length<=n:=by obtain⟨m,e1,nb,_⟩:=a.ex;rw[e1,wH];exact h.kn h0 h1 nb
def jO.bound(h:Tn n xs)(h0:0<=i)(h1:i<(n:Int))(a:jO xs i r):∀x∈r,0<=x/\x<(n:Int):=by obtain⟨m,e1,nb,_⟩:=a.ex;subst e1;intro x hx;obtain⟨j,_,rfl⟩:=KW.mp hx;exact h.a7 h0 h1 j
abbrev out(left r:List Int):List Int:=left.filter λk=>!r.contains k
inductive yM(xs:List Int):List Int->List (List Int)->Prop
 |nil:yM xs [] []
 |cons {i:Int} {left r:List Int} {rs:List (List Int)}:jO xs i r->yM xs (out (i :: left) r) rs->yM xs (i :: left) (r :: rs)
abbrev from'(n k:Nat)(seen:Int->Bool):List Int:=(((List.range n).drop k).map λ(j:Nat)=>(j:Int)).filter λx=>!seen x
def Yv(n:Nat)(seen:Int->Bool):from' n n seen=[]:=by unfold from';rw[Zcz (by simp)];rfl
def Yw(h:k<n)(seen:Int->Bool):from' n k seen=if seen (k:Int)then from' n (k+1) seen else(k:Int) :: from' n (k+1) seen:=by unfold from';rw[Zbt (by simpa using h),ZaD,List.filter_cons];simp only[Zc0];cases hs:seen (k:Int)<;>simp
def Yx:out (from' n k seen) r=from' n k (λx=>seen x || r.contains x):=by
 unfold out from';rw[List.filter_filter]
 congr 1
 funext x
 show(!r.contains x && !seen x)=!(seen x || r.contains x);cases seen x<;>cases r.contains x<;>rfl
def Yy(n:Nat):from' n 0 (λ_=>false)=upto n:=by unfold from' upto;rw[ZcW];simp
abbrev tW(n:Nat):List Int:=((List.range (n-1)).map λ(k:Nat)=>(1:Int)+k) ++ [0]
def Yz:∀n,n<21->0<n->(tW n).isPerm (upto n)=true:=by decide
def R1(h:n<21)(h0:0<n):Tn n (tW n):=List.isPerm_iff.mp (Yz n h h0)
end ae
namespace ae
def Fx(h:xs.length=n):(upto n).map (app xs)=xs:=by apply List.ext_getElem;rw[Zaa,rj,h];intro i h1 h2;have e:=rL (xs:=xs) (i:=(i:Int)) ⋯ ⋯;simp only[Zan]at e;rw[Zab h2]at e;rw[Zb3];unfold upto;simp only[Zb3,Zc0];exact(Zar e).symm
abbrev inv(xs:List Int):List Int:=(upto xs.length).map λi=>(xs.idxOf i:Int)
def Fy(xs:List Int):(inv xs).length=xs.length:=by unfold inv;rw[Zaa,rj]
def Fz(h:i<n):(upto n)[i]?=some (i:Int):=by unfold upto;rw[Zad,ZaV h];rfl
def KY(h0:0<=i)(h1:i<(xs.length:Int)):app (inv xs) i=(xs.idxOf i:Int):=by have e:=rL (xs:=inv xs) h0 (by rw[Fy];exact h1);unfold inv at e;rw[Zad,Fz ⋯]at e;have:=Zar e;rw[<- inv]at this;rw[<- this,ZaG h0]
def Tn.mem(h:Tn n xs)(h0:0<=i)(h1:i<(n:Int)):i∈xs:=h.symm.subset (o5.mpr ⟨h0,h1⟩)
def Tn.idx(h:Tn n xs)(h0:0<=i)(h1:i<(n:Int)):xs.idxOf i<n:=by rw[<- h.length];exact Zbe (h.mem h0 h1)
def Tn.dg(h:Tn n xs)(h0:0<=i)(h1:i<(n:Int)):ae.app xs (ae.app (inv xs) i)=i:=by rw[KY h0 (by rw[h.length];exact h1)];have hl:=h.idx h0 h1;have e:=rL (xs:=xs) (i:=(xs.idxOf i:Int)) ⋯ (by rw[h.length];lk);rw[Zan,Zab (by rw[h.length];exact hl)]at e;rw[<- Zar e];exact Zbs _
def Tn.o6(h:Tn n xs)(h0:0<=i)(h1:i<(n:Int)):0<=ae.app (inv xs) i/\ae.app (inv xs) i<(n:Int):=by rw[KY h0 (by rw[h.length];exact h1)];have:=h.idx h0 h1;lk
def Tn.iE(h:Tn n xs)(h0:0<=i)(h1:i<(n:Int)):ae.app (inv xs) (ae.app xs i)=i:=by obtain⟨a0,a1⟩:=h.app h0 h1;obtain⟨b0,b1⟩:=h.o6 a0 a1;exact h.inj b0 b1 h0 h1 (h.dg a0 a1)
def Tn.aG(h:Tn n xs):Tn n (inv xs):=by
 have hl:=h.length;unfold Tn;have e:(inv xs).length=n:=by rw[Fy,hl]
 have:=KU (xs:=inv xs) ?_ ?_
 rw[e]at this;exact this;unfold List.Nodup;rw[ZaM];intro i j hi hj hij z;have a:=rL (xs:=inv xs) (i:=(i:Int)) ⋯ ⋯;have b:=rL (xs:=inv xs) (i:=(j:Int)) ⋯ ⋯;rw[Zan,Zab hi]at a;rw[Zan,Zab hj]at b;have a:=Zar a;have b:=Zar b;have c:=h.dg (i:=(i:Int)) ⋯ ⋯;have d:=h.dg (i:=(j:Int)) ⋯ ⋯;rw[<- a]at c;rw[<- b,<- z]at d;have:=c.symm.trans d;lk;intro x hx;unfold inv at hx;obtain⟨i,hi,rfl⟩:=Zau.mp hx;have:=o5.mp hi;rw[hl]at this;have:=h.idx this.1 this.2;rw[e];lk
def wI(xs:List Int)(i:Int)(j:Nat):∀d,a7 xs (a7 xs i j) d=a7 xs i (j+d)
 |0=>rfl
 |d+1=>by show app xs (a7 xs (a7 xs i j) d)=app xs (a7 xs i (j+d));rw[wI xs i j d]
def R3(h:a7 xs i L=i)(a:Nat):a7 xs i (a+L)=a7 xs i a:=by rw[Nat.add_comm,<- wI xs i L a,h]
def FA(h:a7 xs i L=i):∀(q r:Nat),a7 xs i (r+L*q)=a7 xs i r
 |0,r=>rfl
 |q+1,r=>by rw[Nat.mul_succ,<- Nat.add_assoc,R3 h];exact FA h q r
def R4(h:a7 xs i L=i)(a:Nat):a7 xs i (a % L)=a7 xs i a:=by have:=FA h (a / L) (a % L);rw[Nat.mod_add_div]at this;exact this.symm
abbrev R5(xs:List Int)(k i v:Int):Prop:=∃m,NB xs i m/\a7 xs i (m+1)=i/\v=a7 xs i (k % ((m+1:Nat):Int)).toNat
def Tn.AR(h:Tn n xs)(h0:0<=i)(h1:i<(n:Int))(nb:NB xs i m)(bk:ae.a7 xs i (m+1)=i)(j:Nat)(k:Int):
  R5 xs k (ae.a7 xs i j) (ae.a7 xs i (((j:Int)+k) % ((m+1:Nat):Int)).toNat):=by
 refine⟨m,λd d1 d2 e=>?_,?_,?_⟩;rw[wI]at e;exact nb d d1 d2 (h.back h0 h1 j d e.symm);rw[wI,R3 bk];rw[wI];rw[<- R4 bk (j+(k % ((m+1:Nat):Int)).toNat)]
 congr 1
 have hL:(0:Int)<((m+1:Nat):Int):=by lk
 have k0:=Zbd k (Int.ne_of_gt hL);have e:(((j+(k % ((m+1:Nat):Int)).toNat) % (m+1):Nat):Int)=((j:Int)+k) % ((m+1:Nat):Int):=by
  rw[Int.natCast_emod,Int.natCast_add,ZaG k0,Int.add_emod_emod]
 rw[<- e,Zan]
def yM.all:∀{left:List Int} {rs:List (List Int)},yM xs left rs->(∀r∈rs,∃i∈left,jO xs i r)/\∀x∈left,∃r∈rs,x∈r:=by
 intro left rs a
 induction a with
 |nil=>exact⟨λr hr=>(nomatch hr),λx hx=>(nomatch hx)⟩
 |cons h1 _ ih =>
  refine⟨λr hr=>?_,λx hx=>?_⟩
  ·rcases ZaC.mp hr with rfl|hr
   ·exact⟨_,Zaj,h1⟩
   ·obtain⟨i,hi,r'⟩:=ih.1 r hr
    exact⟨i,(Zcm.mp hi).1,r'⟩
  ·rename_i i left r rs _
   by_cases hc:x∈r
   ·exact⟨r,Zaj,hc⟩
   ·obtain⟨r',hr',hx'⟩:=ih.2 x (Zcm.mpr ⟨hx,by simp[hc]⟩)
    exact⟨r',Zas _ hr',hx'⟩
def YA(h:Tn n xs):xs.map (app (inv xs))=upto n:=by
 have e:((upto n).map (app xs)).map (app (inv xs))=upto n:=by
  rw[ZaJ]
  conv=>rhs;rw[<- Zck (upto n)]
  apply ZaU;intro x hx;obtain⟨a,b⟩:=o5.mp hx;exact h.iE a b
 rw[Fx h.length]at e;exact e
def YB(h:Tn n xs):(inv xs).map (app xs)=upto n:=by
 have e:((upto n).map (app (inv xs))).map (app xs)=upto n:=by
  rw[ZaJ]
  conv=>rhs;rw[<- Zck (upto n)]
  apply ZaU;intro x hx;obtain⟨a,b⟩:=o5.mp hx;exact h.dg a b
 rw[Fx (h.aG).length]at e;exact e
end ae
namespace ae
inductive lK(xs ys:List Int):Int->Prop
 |zero:lK xs ys 0
 |r {x:Int}:lK xs ys x->lK xs ys (app xs x)
 |u {x:Int}:lK xs ys x->lK xs ys (app ys x)
def lK.bound(hx:Tn n xs)(hy:Tn n ys)(h0:0<n)(h:lK xs ys x):0<=x/\x<(n:Int):=by
 induction h with
 |zero=>lk
 |r _ ih=>exact hx.app ih.1 ih.2
 |u _ ih=>exact hy.app ih.1 ih.2
def lK.a7(h:lK xs ys x):∀k,lK xs ys (ae.a7 xs x k)
 |0=>h
 |k+1=>.r (h.a7 k)
abbrev qk(xs:List Int)(m:Nat):List Int:=(xs.set 0 (app xs m)).set m (app xs 0)
def YC(xs:List Int)(m:Nat):(qk xs m).length=xs.length:=by simp[qk]
def N7{xs:List Int}{m:Nat}{v x:Int}(hm:m<xs.length)(h0:0<=x):app (xs.set m v) x=if x=(m:Int)then v else app xs x:=by unfold app;rw[Zah,Zah];by_cases hx:x=(m:Int);rw[if_pos hx,hx,Zan,Zao hm];rfl;rw[if_neg hx,Zat ⋯]
def Di(hm:m<xs.length)(h0:0<=x):app (qk xs m) x=if x=(m:Int)then app xs 0 else if x=0 then app xs m else app xs x:=by unfold qk;rw[N7 (by simpa using hm) h0,N7 ⋯ h0];rfl
def AU(h:Tn n xs)(hm:m<n):Tn n (qk xs m):=by
 have hl:=h.length;have e:(qk xs m).length=n:=by rw[YC,hl]
 have:=KU (xs:=qk xs m) ?_ ?_
 unfold Tn;rw[e]at this;exact this;unfold List.Nodup;rw[ZaM];intro i j hi hj hij z;have a:=rL (xs:=qk xs m) (i:=(i:Int)) ⋯ ⋯;have b:=rL (xs:=qk xs m) (i:=(j:Int)) ⋯ ⋯;rw[Zan,Zab hi]at a;rw[Zan,Zab hj]at b;have a:=Zar a;have b:=Zar b;rw[Di ⋯ ⋯]at a b;rw[a,b]at z;have inj:∀p q:Int,0<=p->p<(n:Int)->0<=q->q<(n:Int)->app xs p=app xs q->p=q:=λp q p0 p1 q0 q1=>h.inj p0 p1 q0 q1;split at z<;>split at z<;>(try split at z)<;>(try split at z)<;>(first|lk|(have:=inj _ _ ⋯ ⋯ ⋯ ⋯ z;lk));intro x hx;obtain⟨i,hi,rfl⟩:=ZbF hx;have a:=rL (xs:=qk xs m) (i:=(i:Int)) ⋯ ⋯;rw[Zan,Zab hi]at a;rw[Zar a,Di ⋯ ⋯,e];split;exact h.app ⋯ ⋯;split;exact h.app ⋯ ⋯;exact h.app ⋯ ⋯
def Tn.tZ(h:Tn n xs)(h0:0<=i)(h1:i<(n:Int)):∃m,NB xs i m/\ae.a7 xs i (m+1)=i:=by
 by_cases hb:∃m,m<n/\ae.a7 xs i (m+1)=i
 -- the least
 have key:∀b:Nat,(∃m,m<b/\ae.a7 xs i (m+1)=i)->∃m,NB xs i m/\ae.a7 xs i (m+1)=i:=by
  intro b
  induction b with
  |zero=>rintro⟨m,hm,_⟩;lk
  |succ b ih =>
   rintro⟨m,hm,e⟩;by_cases hc:∃m,m<b/\ae.a7 xs i (m+1)=i;exact ih hc;refine⟨m,λj j1 j2 z=>hc ⟨j-1,by lk,?_⟩,e⟩
   have:j-1+1=j:=by lk
   rw[this];exact z
 exact key n hb;have nb:NB xs i n:=λj j1 j2 z=>by
  refine hb ⟨j-1,by lk,?_⟩;have:j-1+1=j:=by lk
  rw[this];exact z
 have:=h.kn h0 h1 nb;lk
def YD(hx:Tn n xs)(hy:Tn n ys)(hm:m<n)(nm:¬lK xs ys (m:Int)):lK (qk xs m) ys (m:Int)/\∀x,lK xs ys x->lK (qk xs m) ys x:=by
 have hl:=hx.length;have m0:m≠0:=λz=>nm (by rw[z];exact .zero);obtain⟨M,nb,bk⟩:=hx.tZ (i:=(m:Int)) ⋯ ⋯;have YE:∀j,ae.a7 xs (m:Int) j≠0:=by
  intro j z;have h':lK xs ys (ae.a7 xs (ae.a7 xs (m:Int) j) ((M+1)*j)):=by rw[z];exact lK.zero.a7 _
  rw[wI]at h';have e2:ae.a7 xs (m:Int) ((M+1)*(j+1))=(m:Int):=by
   have:=FA bk (j+1) 0;rw[Zcg]at this;exact this
  have h3:=h'.a7 ((M+1)*(j+1)-(j+(M+1)*j));rw[wI]at h3;have e3:j+(M+1)*j+((M+1)*(j+1)-(j+(M+1)*j))=if j+(M+1)*j<=(M+1)*(j+1)then(M+1)*(j+1)else j+(M+1)*j:=by split<;>lk
  rw[e3]at h3;by_cases hc:j+(M+1)*j<=(M+1)*(j+1)
  ·rw[if_pos hc,e2]at h3
   exact nm h3
  ·-- round as often as needed
   have h4:=h'.a7 ((M+1)*(2*j+2)-(j+(M+1)*j));rw[wI]at h4;have hbig:j+(M+1)*j<=(M+1)*(2*j+2):=by
    have a1:(M+1)*(2*j+2)=(M+1)*j+((M+1)*j+(M+1)*2):=by rw[<- Nat.mul_add,<- Nat.mul_add];congr 1;lk
    have a2:j<=(M+1)*j:=Nat.le_mul_of_pos_left j ⋯;lk
   have e5:j+(M+1)*j+((M+1)*(2*j+2)-(j+(M+1)*j))=(M+1)*(2*j+2):=by lk
   rw[e5]at h4;have:=FA bk (2*j+2) 0;rw[Zcg]at this;rw[this]at h4;exact nm h4
 have ring:∀j,j<=M->lK (qk xs m) ys (ae.a7 xs (m:Int) (j+1)):=by
  intro j
  induction j with
  |zero =>
   intro _;have h1:lK (qk xs m) ys (ae.app (qk xs m) 0):=.r .zero;rw[Di ⋯ ⋯,if_neg ⋯,if_pos rfl]at h1;exact h1
  |succ j ih =>
   intro hj;have h1:=(ih ⋯).r;have b:=hx.a7 (i:=(m:Int)) ⋯ ⋯ (j+1);rw[Di ⋯ b.1,if_neg (nb (j+1) ⋯ ⋯),if_neg (YE (j+1))]at h1;exact h1
 have R6:lK (qk xs m) ys (m:Int):=by have:=ring M (Zag _);rwa [bk]at this
 refine⟨R6,λx h=>?_⟩;have hpos:0<n:=by lk
 induction h with
 |zero=>exact .zero
 |r hx' ih =>
  rename_i x
  have b:=hx'.bound hx hy hpos;by_cases h0:x=0
  ·have h1:=R6.r
   rw[Di ⋯ ⋯,if_pos rfl]at h1;rw[h0];exact h1
  ·have YF:x≠(m:Int):=λz=>nm (by rw[<- z];exact hx')
   have h1:=ih.r;rw[Di ⋯ b.1,if_neg YF,if_neg h0]at h1;exact h1
 |u _ ih=>exact ih.u
abbrev Cl(xs ys F:List Int):Prop:=∀x∈F,app xs x∈F/\app ys x∈F
def Cl.all(h:Cl xs ys F)(h0:(0:Int)∈F)(r:lK xs ys x):x∈F:=by
 induction r with
 |zero=>exact h0
 |r _ ih=>exact(h _ ih).1
 |u _ ih=>exact(h _ ih).2
structure Fd(xs ys:List Int)(F:List Int):Prop where
 z:(0:Int)∈F
 nd:F.Nodup
 mt:∀x∈F,lK xs ys x
def Fd.len(h:Fd xs ys F)(hx:Tn n xs)(hy:Tn n ys)(h0:0<n):F.length<=n:=by have:=Dh h.nd (ys:=upto n) λx hx'=>o5.mpr ((h.mt x hx').bound hx hy h0);rw[rj]at this;exact this
def Fd.one(xs ys:List Int):Fd xs ys [0]:=⟨by simp,by simp,λx hx=>(show x=0 by simpa using hx) ▸ .zero⟩
def round(d:Fd xs ys F)(d2:Fd xs ys F2)(p1:F <+: F1)(p2:F1 <+: F2)(c1:∀x∈F,app xs x∈F1)(c2:∀x∈F1,app ys x∈F2)(h:Cl xs ys F\/t+1<=F.length):Cl xs ys F2\/t+1+1<=F2.length:=by
 have p:=p1.trans p2;by_cases hc:Cl xs ys F;refine .inl λx hx=>?_;have hF:=hc.all d.z (d2.mt x hx);exact⟨p.subset (hc x hF).1,p.subset (hc x hF).2⟩;have hl:=h.resolve_left hc;by_cases he:F2.length<=F.length;refine absurd ?_ hc;have e2:F2=F:=(p.eq_of_length (by have:=p.length_le;lk)).symm;have e1:F1=F:=by
  have a:=p1.length_le;have b:=p2.length_le;exact(p1.eq_of_length ⋯).symm
 intro x hx;refine⟨?_,?_⟩
 have:=c1 x hx;rwa [e1]at this
 have:=c2 x (by rw[e1];exact hx);rwa [e2]at this
 exact .inr ⋯
abbrev xw(w n:Nat):List Int:=((List.range (w-1)).map λ(k:Nat)=>(1:Int)+k) ++ [0] ++ ((List.range (n-w)).map λ(k:Nat)=>(w:Int)+k)
abbrev xx(w n:Nat):List Int:=[(w:Int)] ++ ((List.range (w-1)).map λ(k:Nat)=>(1:Int)+k) ++ ((List.range (n-(w+1))).map λ(k:Nat)=>((w:Int)+1)+k) ++ [0]
def YG:∀n,n<21->∀w,w<n+1->0<w->(xw w n).isPerm (upto n)=true:=by decide +kernel
def YH:∀n,n<21->∀w,w<n->0<w->(xx w n).isPerm (upto n)=true:=by decide +kernel
def YI(h:n<21)(h1:w<=n)(h0:0<w):Tn n (xw w n):=List.isPerm_iff.mp (YG n h w ⋯ h0)
def YJ(h:n<21)(h1:w<n)(h0:0<w):Tn n (xx w n):=List.isPerm_iff.mp (YH n h w h1 h0)
def less{L L':List Int}{m:Int}(nd:L'.Nodup)(hs:∀x∈L',x∈L)(hm:m∈L)(hm':m ∉ L'):L'.length<L.length:=by
 have hp:=ZcN hm;have hlen:(L.erase m).length+1=L.length:=by have:=hp.length_eq;simpa using this.symm
 have:=Dh (ys:=L.erase m) nd λx hx=>(Zci (λe=>hm' (by rw[<- e];exact hx))).mpr (hs x hx);lk
end ae
namespace ae
abbrev a5(xs ys:List Int):List Int:=xs.map (app ys)
def FC(xs ys:List Int):(a5 xs ys).length=xs.length:=by simp[a5]
def uc{n:Nat}{xs ys:List Int}(hx:xs.length=n)(hy:ys.length=n)(h:∀s:Int,0<=s->s<(n:Int)->app xs s=app ys s):xs=ys:=by rw[<- Fx hx,<- Fx hy];apply ZaU;intro s hs;obtain⟨h0,h1⟩:=o5.mp hs;exact h s h0 h1
def qv(h0:0<=s)(h1:s<(xs.length:Int)):app (a5 xs ys) s=app ys (app xs s):=by have e:=rL (xs:=a5 xs ys) h0 (by rw[FC];exact h1);unfold a5 at e;rw[Zad,rL h0 h1]at e;exact(Zar e).symm
def Tn.vE{n:Nat}{xs:List Int}(hl:xs.length=n)(hb:∀s:Int,0<=s->s<(n:Int)->0<=ae.app xs s/\ae.app xs s<(n:Int))(hi:∀s t:Int,0<=s->s<(n:Int)->0<=t->t<(n:Int)->ae.app xs s=ae.app xs t->s=t):Tn n xs:=by
 have el:∀(i:Nat) (h:i<xs.length),xs[i]=ae.app xs (i:Int):=λi h=>by
  have a:=rL (xs:=xs) (i:=(i:Int)) ⋯ ⋯;rw[Zan,Zab h]at a;exact Zar a
 have:=KU (xs:=xs) ?_ ?_
 unfold Tn;rw[hl]at this;exact this;unfold List.Nodup;rw[ZaM];intro i j h1 h2 hij z;rw[el i h1,el j h2]at z;have:=hi i j ⋯ ⋯ ⋯ ⋯ z;lk;intro x hx;obtain⟨i,h,rfl⟩:=ZbF hx;rw[el i h,hl];exact hb i ⋯ ⋯
def Tn.a5(hx:Tn n xs)(hy:Tn n ys):Tn n (a5 xs ys):=by have hl:=hx.length;refine Tn.vE (by rw[FC];exact hl) (λs h0 h1=>?_) λs t s0 s1 t0 t1 e=>?_;rw[qv h0 ⋯];obtain⟨a,b⟩:=hx.app h0 h1;exact hy.app a b;rw[qv s0 ⋯,qv t0 ⋯]at e;obtain⟨a,b⟩:=hx.app s0 s1;obtain⟨c,d⟩:=hx.app t0 t1;exact hx.inj s0 s1 t0 t1 (hy.inj a b c d e)
def Tn.xy(hx:Tn n xs)(hy:Tn n ys)(h0:0<=s)(h1:s<(n:Int)):ae.app (inv (ae.a5 xs ys)) s=ae.app (inv xs) (ae.app (inv ys) s):=by have hf:=hx.a5 hy;obtain⟨a0,a1⟩:=hy.o6 h0 h1;obtain⟨b0,b1⟩:=hx.o6 a0 a1;obtain⟨c0,c1⟩:=hf.o6 h0 h1;refine hf.inj c0 c1 b0 b1 ?_;rw[hf.dg h0 h1,qv b0 (by rw[hx.length];exact b1),hx.dg a0 a1,hy.dg h0 h1]
abbrev anew(xs p:List Int):List Int:=a5 (a5 (inv p) xs) p
def Tn.anew(hx:Tn n xs)(hp:Tn n p):Tn n (anew xs p):=(hp.aG.a5 hx).a5 hp
def Tn.j7(hx:Tn n xs)(hp:Tn n p)(h0:0<=s)(h1:s<(n:Int)):ae.app (ae.anew xs p) s=ae.app p (ae.app xs (ae.app (inv p) s)):=by have hl:=hp.aG.length;unfold ae.anew;rw[qv h0 (by rw[FC,hl];exact h1),qv h0 (by rw[hl];exact h1)]
def Tn.nX(hx:Tn n xs)(hp:Tn n p)(h0:0<=s)(h1:s<(n:Int)):ae.app (ae.anew xs p) (ae.app p s)=ae.app p (ae.app xs s):=by obtain⟨a,b⟩:=hp.app h0 h1;rw[hx.j7 hp a b,hp.iE h0 h1]
def Tn.oG(hx:Tn n xs)(hp:Tn n p)(hq:Tn n q):ae.anew (ae.anew xs p) q=ae.anew xs (ae.a5 p q):=by have hf:=hp.a5 hq;refine uc (n:=n) ((hx.anew hp).anew hq).length (hx.anew hf).length λs h0 h1=>?_;obtain⟨a0,a1⟩:=hq.o6 h0 h1;obtain⟨b0,b1⟩:=hp.o6 a0 a1;obtain⟨c0,c1⟩:=hx.app b0 b1;rw[(hx.anew hp).j7 hq h0 h1,hx.j7 hp a0 a1,hx.j7 hf h0 h1,hp.xy hq h0 h1,qv c0 (by rw[hp.length];exact c1)]
def Tn.oH(hx:Tn n xs)(hp:Tn n p):ae.anew (ae.anew xs p) (inv p)=xs:=by
 refine uc (n:=n) ((hx.anew hp).anew hp.aG).length hx.length λs h0 h1=>?_;obtain⟨a0,a1⟩:=hp.aG.o6 h0 h1;have e:ae.app (inv (inv p)) s=ae.app p s:=by
  obtain⟨b0,b1⟩:=hp.app h0 h1;refine hp.aG.inj a0 a1 b0 b1 ?_;rw[hp.aG.dg h0 h1,hp.iE h0 h1]
 obtain⟨b0,b1⟩:=hp.app h0 h1;obtain⟨c0,c1⟩:=hx.app h0 h1;rw[(hx.anew hp).j7 hp.aG h0 h1,e,hx.nX hp h0 h1,hp.iE c0 c1]
end ae
namespace ae
abbrev cN(F:List Int)(x:Int):List Int:=if x∈F then F else F ++ [x]
def yN(F:List Int)(x:Int):F <+: cN F x:=by unfold cN;split;exact Zcj _;exact Zc4 _ _
def ud:y∈cN F x↔y∈F\/y=x:=by
 unfold cN;split
 ·next h=>exact⟨.inl,λz=>z.elim id λe=>e ▸ h⟩
 ·rw[ZaA,Zaq]
def R7(h:F.Nodup):(cN F x).Nodup:=by
 unfold cN;split
 ·exact h
 ·next hx =>
  rw[Zb7];exact⟨h,by simp,λa ha b hb e=>hx (by rw[Zaq]at hb;rw[<- hb,<- e];exact ha)⟩
abbrev visit(xs ys F:List Int)(x:Int):List Int:=cN (cN F (app xs x)) (app ys x)
abbrev bf(xs ys:List Int)(s:Int):Nat->List Int
 |0=>[s]
 |k+1=>match (bf xs ys s k)[k]? with
  |some x=>visit xs ys (bf xs ys s k) x
  |none=>bf xs ys s k
def R8(xs ys:List Int)(s:Int)(k:Nat):bf xs ys s k <+: bf xs ys s (k+1):=by show _ <+: (match (bf xs ys s k)[k]? with|some x=>visit xs ys (bf xs ys s k) x|none=>bf xs ys s k);split;exact(yN _ _).trans (yN _ _);exact Zcj _
def AV(xs ys:List Int)(s:Int)(k:Nat):∀d,bf xs ys s k <+: bf xs ys s (k+d)
 |0=>Zcj _
 |d+1=>(AV xs ys s k d).trans (R8 xs ys s (k+d))
def wJ(xs ys:List Int)(s:Int):∀k,(bf xs ys s k).Nodup
 |0=>by show[s].Nodup;simp
 |k+1=>by
  show(match (bf xs ys s k)[k]? with|some x=>visit xs ys (bf xs ys s k) x|none=>bf xs ys s k).Nodup;split;exact R7 (R7 (wJ xs ys s k));exact wJ xs ys s k
def KZ(h:(bf xs ys s k).length<=k):∀d,bf xs ys s (k+d)=bf xs ys s k
 |0=>rfl
 |d+1=>by
  have e:=KZ h d;show(match (bf xs ys s (k+d))[k+d]? with|some x=>visit xs ys (bf xs ys s (k+d)) x|none=>bf xs ys s (k+d))=_;rw[e,ZaO ⋯]
section
variable {n:Nat}{xs ys:List Int}{s:Int}
def sd(hx:Tn n xs)(hy:Tn n ys)(s0:0<=s)(s1:s<(n:Int)):∀k,∀x∈bf xs ys s k,0<=x/\x<(n:Int)
 |0,x,h=>by rw[Zaq.mp (show x∈[s]from h)];exact⟨s0,s1⟩
 |k+1,x,h=>by
  have ih:=sd hx hy s0 s1 k;have h':x∈(match (bf xs ys s k)[k]? with|some y=>visit xs ys (bf xs ys s k) y|none=>bf xs ys s k):=h;split at h'
  ·next y hy' =>
   obtain⟨y0,y1⟩:=ih y (Zai hy');rcases ud.mp h' with h'|rfl
   ·rcases ud.mp h' with h'|rfl
    ·exact ih x h'
    ·exact hx.app y0 y1
   ·exact hy.app y0 y1
  ·exact ih x h'
def AW(hx:Tn n xs)(hy:Tn n ys)(s0:0<=s)(s1:s<(n:Int))(k:Nat):(bf xs ys s k).length<=n:=by have:=Dh (wJ xs ys s k) (ys:=upto n) λx h=>o5.mpr (sd hx hy s0 s1 k x h);rw[rj]at this;exact this
def FD(hik:i<=k)(h:(bf xs ys s k)[i]?=some x):(bf xs ys s i)[i]?=some x:=by obtain⟨d,rfl⟩:∃d,k=i+d:=⟨k-i,by lk⟩;by_cases hl:(bf xs ys s i).length<=i;rw[KZ hl d]at h;exact h;obtain⟨t,e⟩:=AV xs ys s i d;rw[<- e,Zap ⋯]at h;exact h
def FE(hx:Tn n xs)(hy:Tn n ys)(s0:0<=s)(s1:s<(n:Int)):Cl xs ys (bf xs ys s n):=by
 intro x hm;obtain⟨i,hi,e⟩:=ZbF hm;have hl:=AW hx hy s0 s1 n;have hi':(bf xs ys s i)[i]?=some x:=FD (k:=n) ⋯ (by rw[Zab hi,e]);have hs:visit xs ys (bf xs ys s i) x <+: bf xs ys s n:=by
  have:=AV xs ys s (i+1) (n-(i+1));rw[show i+1+(n-(i+1))=n by lk]at this;have e2:bf xs ys s (i+1)=visit xs ys (bf xs ys s i) x:=by
   show(match (bf xs ys s i)[i]? with|some x=>visit xs ys (bf xs ys s i) x|none=>bf xs ys s i)=_;rw[hi']
  rw[<- e2];exact this
 refine⟨hs.subset ?_,hs.subset ?_⟩;exact ud.mpr (.inl (ud.mpr (.inr rfl)));exact ud.mpr (.inr rfl)
def FF{zs F:List Int}(hz:Tn n zs)(nd:F.Nodup)(hb:∀x∈F,0<=x/\x<(n:Int))(hc:∀x∈F,app zs x∈F){y:Int}(y0:0<=y)(y1:y<(n:Int))(h:app zs y∈F):y∈F:=by
 have YK:(F.map (app zs)).Nodup:=by
  unfold List.Nodup;rw[Zcw];refine List.Pairwise.imp_of_mem (λ{a b} ha hb' hab e=>?_) nd;obtain⟨a0,a1⟩:=hb a ha;obtain⟨b0,b1⟩:=hb b hb';exact hab (hz.inj a0 a1 b0 b1 e)
 have pm:(F.map (app zs)).Perm F:=KS YK (λx hx=>by obtain⟨z,hz',rfl⟩:=Zau.mp hx;exact hc z hz') (by simp);obtain⟨z,Dj,e⟩:=Zau.mp (pm.symm.subset h);obtain⟨z0,z1⟩:=hb z Dj;rw[<- hz.inj z0 z1 y0 y1 e];exact Dj
def R9(hx:Tn n xs)(hy:Tn n ys)(s0:0<=s)(s1:s<(n:Int))(all:∀x:Int,0<=x->x<(n:Int)->lK xs ys x)(x0:0<=x)(x1:x<(n:Int)):x∈bf xs ys s n:=by
 have cl:=FE hx hy s0 s1;have nd:=wJ xs ys s n;have bd:=sd hx hy s0 s1 n;have hs:s∈bf xs ys s n:=by
  have:=AV xs ys s 0 n;rw[Zcg]at this;exact this.subset (show s∈[s] by simp)
 have hpos:0<n:=by lk
 have zero:∀y,lK xs ys y->y∈bf xs ys s n->(0:Int)∈bf xs ys s n:=by
  intro y hr
  induction hr with
  |zero=>exact id
  |r h ih =>
   intro hm;obtain⟨a,b⟩:=h.bound hx hy hpos;exact ih (FF hx nd bd (λx hx'=>(cl x hx').1) a b hm)
  |u h ih =>
   intro hm;obtain⟨a,b⟩:=h.bound hx hy hpos;exact ih (FF hy nd bd (λx hx'=>(cl x hx').2) a b hm)
 exact cl.all (zero s (all s s0 s1) hs) (all x x0 x1)
def K0(hx:Tn n xs)(hy:Tn n ys)(s0:0<=s)(s1:s<(n:Int))(all:∀x:Int,0<=x->x<(n:Int)->lK xs ys x):Tn n (bf xs ys s n) :=
 KS (wJ xs ys s n) (λx h=>o5.mpr (sd hx hy s0 s1 n x h)) (by
  have:=Dh (RZ n) (ys:=bf xs ys s n) λx h=>by obtain⟨a,b⟩:=o5.mp h;exact R9 hx hy s0 s1 all a b
  exact this)
def Sb(hp:Tn n p)(hb:∀x∈F,0<=x/\x<(n:Int))(x0:0<=x)(x1:x<(n:Int)):cN (F.map (app p)) (app p x)=(cN F x).map (app p):=by
 unfold cN
 have e:app p x∈F.map (app p)↔x∈F:=⟨λh=>by
  obtain⟨y,hy,e⟩:=Zau.mp h;obtain⟨y0,y1⟩:=hb y hy
  rw[<- hp.inj y0 y1 x0 x1 e];exact hy,λh=>Zau.mpr ⟨x,h,rfl⟩⟩
 by_cases h:x∈F;rw[if_pos h,if_pos (e.mpr h)];rw[if_neg h,if_neg λz=>h (e.mp z),Zav];rfl
def N8(hx:Tn n xs)(hy:Tn n ys)(hp:Tn n p)(s0:0<=s)(s1:s<(n:Int)):∀k,bf (anew xs p) (anew ys p) (app p s) k=(bf xs ys s k).map (app p)
 |0=>rfl
 |k+1=>by
  have ih:=N8 hx hy hp s0 s1 k;show(match (bf (anew xs p) (anew ys p) (app p s) k)[k]? with|some x=>visit (anew xs p) (anew ys p) (bf (anew xs p) (anew ys p) (app p s) k) x|none=>bf (anew xs p) (anew ys p) (app p s) k)=(match (bf xs ys s k)[k]? with|some x=>visit xs ys (bf xs ys s k) x|none=>bf xs ys s k).map (app p);rw[ih,Zad];cases h:(bf xs ys s k)[k]? with
  |none=>rfl
  |some x =>
   obtain⟨x0,x1⟩:=sd hx hy s0 s1 k x (Zai h);obtain⟨a0,a1⟩:=hx.app x0 x1;obtain⟨b0,b1⟩:=hy.app x0 x1;show visit (anew xs p) (anew ys p) ((bf xs ys s k).map (app p)) (app p x)=(visit xs ys (bf xs ys s k) x).map (app p);unfold visit;rw[hx.nX hp x0 x1,hy.nX hp x0 x1,Sb hp (sd hx hy s0 s1 k) a0 a1,Sb hp (λz hz=>?_) b0 b1];rcases ud.mp hz with hz|rfl
   exact sd hx hy s0 s1 k z hz;exact⟨a0,a1⟩
end
abbrev num(zs sq:List Int):List Int:=sq.map λo=>(sq.idxOf (app zs o):Int)
def Tn.inv_inv(hp:Tn n p):inv (inv p)=p:=by refine uc (n:=n) hp.aG.aG.length hp.length λs h0 h1=>?_;obtain⟨a0,a1⟩:=hp.aG.o6 h0 h1;obtain⟨b0,b1⟩:=hp.app h0 h1;refine hp.aG.inj a0 a1 b0 b1 ?_;rw[hp.aG.dg h0 h1,hp.iE h0 h1]
def yO(hz:Tn n zs)(hs:Tn n sq):anew zs (inv sq)=num zs sq:=by unfold anew num a5;rw[hs.inv_inv,ZaJ];apply ZaU;intro o ho;obtain⟨o0,o1⟩:=hs.bound ho;obtain⟨a0,a1⟩:=hz.app o0 o1;exact KY a0 (by rw[hs.length];exact a1)
def Sd(hp:Tn n p):∀{sq:List Int},(∀x∈sq,0<=x/\x<(n:Int))->∀{y:Int},0<=y->y<(n:Int)->(sq.map (app p)).idxOf (app p y)=sq.idxOf y
 |[],_,_,_,_=>rfl
 |a :: r,hb,y,y0,y1=>by
  obtain⟨a0,a1⟩:=hb a Zaj;rw[ZaD,List.idxOf_cons,List.idxOf_cons,Sd hp (λx hx=>hb x (Zas _ hx)) y0 y1];by_cases e:a=y;rw[e];simp;have e2:app p a≠app p y:=λz=>e (hp.inj a0 a1 y0 y1 z);rw[show(a == y)=false by simpa using e,show(app p a == app p y)=false by simpa using e2]
def Se(hz:Tn n zs)(hp:Tn n p)(hb:∀x∈sq,0<=x/\x<(n:Int)):num (anew zs p) (sq.map (app p))=num zs sq:=by unfold num;rw[ZaJ];apply ZaU;intro o ho;obtain⟨o0,o1⟩:=hb o ho;obtain⟨a0,a1⟩:=hz.app o0 o1;show((sq.map (app p)).idxOf (app (anew zs p) (app p o)):Int)=_;rw[hz.nX hp o0 o1,Sd hp hb a0 a1]
end ae
namespace ae
abbrev pw(xs:List Int)(k i:Int):Int:=if 0<=k then a7 xs i k.toNat else a7 (inv xs) i (-k).toNat
section
variable {n:Nat}{xs:List Int}{i:Int}
def Tn.qI(h:Tn n xs)(i0:0<=i)(i1:i<(n:Int)):∀(k m:Nat),ae.a7 (inv xs) (ae.a7 xs i m) k=if k<=m then ae.a7 xs i (m-k)else ae.a7 (inv xs) i (k-m)
 |0,m=>by rw[if_pos (ZaL _),Nat.sub_zero];rfl
 |k+1,m=>by
  show ae.app (inv xs) (ae.a7 (inv xs) (ae.a7 xs i m) k)=_;rw[h.qI i0 i1 k m];by_cases hk:k<=m;rw[if_pos hk];by_cases hk1:k+1<=m;rw[if_pos hk1];obtain⟨d,hd⟩:∃d,m-k=d+1:=⟨m-k-1,by lk⟩;rw[hd,show m-(k+1)=d by lk];obtain⟨a,b⟩:=h.a7 i0 i1 d;exact h.iE a b;rw[if_neg hk1,show m-k=0 by lk,show k+1-m=1 by lk];rfl;rw[if_neg hk,if_neg ⋯,show k+1-m=(k-m)+1 by lk];rfl
def Tn.vF(h:Tn n xs)(i0:0<=i)(i1:i<(n:Int))(k m:Nat):ae.a7 xs (ae.a7 (inv xs) i m) k=if k<=m then ae.a7 (inv xs) i (m-k)else ae.a7 xs i (k-m):=by have:=h.aG.qI i0 i1 k m;rw[h.inv_inv]at this;exact this
def Tn.pw(h:Tn n xs)(i0:0<=i)(i1:i<(n:Int))(k:Int):0<=ae.pw xs k i/\ae.pw xs k i<(n:Int):=by unfold ae.pw;split;exact h.a7 i0 i1 _;exact h.aG.a7 i0 i1 _
def Tn.pw_add(h:Tn n xs)(i0:0<=i)(i1:i<(n:Int))(a b:Int):ae.pw xs a (ae.pw xs b i)=ae.pw xs (a+b) i:=by
 by_cases ha:0<=a<;>by_cases hb:0<=b;unfold ae.pw;rw[if_pos ha,if_pos hb,if_pos ⋯,wI]
 congr 1
 lk;have e1:ae.pw xs b i=ae.a7 (inv xs) i (-b).toNat:=by unfold ae.pw;rw[if_neg hb]
 have e2:∀j,ae.pw xs a j=ae.a7 xs j a.toNat:=λj=>by unfold ae.pw;rw[if_pos ha]
 rw[e1,e2,h.vF i0 i1];unfold ae.pw;split;split;rw[show(-b).toNat-a.toNat=0 by lk,show(a+b).toNat=0 by lk];rfl
 congr 1;lk
 rw[if_pos ⋯];congr 1;lk;have e1:ae.pw xs b i=ae.a7 xs i b.toNat:=by unfold ae.pw;rw[if_pos hb]
 have e2:∀j,ae.pw xs a j=ae.a7 (inv xs) j (-a).toNat:=λj=>by unfold ae.pw;rw[if_neg ha]
 rw[e1,e2,h.qI i0 i1];unfold ae.pw;split;rw[if_pos ⋯];congr 1;lk;rw[if_neg ⋯];congr 1;lk;unfold ae.pw;rw[if_neg ha,if_neg hb,if_neg ⋯,wI]
 congr 1
 lk
def Tn.pw_per(h:Tn n xs)(i0:0<=i)(i1:i<(n:Int))(hL:ae.a7 xs i L=i)(q:Int):ae.pw xs ((L:Int)*q) i=i:=by
 have pos:∀m:Nat,ae.pw xs ((L:Int)*(m:Int)) i=i:=λm=>by
  unfold ae.pw;rw[if_pos (Int.mul_nonneg ⋯ ⋯),show((L:Int)*(m:Int)).toNat=0+L*m by rw[<- Int.natCast_mul,Zan];lk,FA hL];rfl
 by_cases hq:0<=q;obtain⟨m,rfl⟩:∃m:Nat,q=(m:Int):=⟨q.toNat,by lk⟩;exact pos m;obtain⟨m,rfl⟩:∃m:Nat,q=-(m:Int):=⟨(-q).toNat,by lk⟩
 have:=h.pw_add i0 i1 ((L:Int) * -(m:Int)) ((L:Int)*(m:Int));rw[pos m]at this;rw[this,ZcY,ZcH];rfl
def Tn.AX(h:Tn n xs)(i0:0<=i)(i1:i<(n:Int))(o:R5 xs k i v):v=ae.pw xs k i:=by
 obtain⟨m,_,bk,rfl⟩:=o;have m0:=Zbd k (show((m+1:Nat):Int)≠0 by lk);have e:ae.a7 xs i (k % ((m+1:Nat):Int)).toNat=ae.pw xs (k % ((m+1:Nat):Int)) i:=by unfold ae.pw;rw[if_pos m0]
 rw[e];have e2:=h.pw_add i0 i1 (k % ((m+1:Nat):Int)) (((m+1:Nat):Int)*(k / ((m+1:Nat):Int)));rw[h.pw_per i0 i1 bk,Int.emod_add_mul_ediv]at e2;exact e2
end
abbrev cJ(xs:List Int)(k:Int):List Int:=(upto xs.length).map (pw xs k)
def FG(xs:List Int)(k:Int):(cJ xs k).length=xs.length:=by simp[cJ,rj]
def se(s0:0<=s)(s1:s<(xs.length:Int)):app (cJ xs k) s=pw xs k s:=by have e:=rL (xs:=cJ xs k) s0 (by rw[FG];exact s1);unfold cJ at e;rw[Zad,Fz ⋯]at e;have:=Zar e;rw[ZaG s0]at this;exact this.symm
def Tn.cJ(h:Tn n xs)(k:Int):Tn n (cJ xs k):=by have hl:=h.length;refine Tn.vE (by rw[FG];exact hl) (λs s0 s1=>by rw[se s0 ⋯];exact h.pw s0 s1 k) λs t s0 s1 t0 t1 e=>?_;rw[se s0 ⋯,se t0 ⋯]at e;have e2:=congrArg (ae.pw xs (-k)) e;rw[h.pw_add s0 s1,h.pw_add t0 t1,ZcH]at e2;exact e2
abbrev shr(xs ys:List Int)(k:Int):List Int:=a5 (cJ xs (-k)) ys
def Tn.shr(hx:Tn n xs)(hy:Tn n ys)(k:Int):Tn n (shr xs ys k):=(hx.cJ (-k)).a5 hy
def Tn.ph(hx:Tn n xs)(s0:0<=s)(s1:s<(n:Int)):ae.app (ae.shr xs ys k) s=ae.app ys (ae.pw xs (-k) s):=by have hl:=hx.length;unfold ae.shr;rw[qv s0 (by rw[FG,hl];exact s1),se s0 (by rw[hl];exact s1)]
def Tn.xA(hx:Tn n xs)(hy:Tn n ys)(a b:Int):ae.shr xs (ae.shr xs ys a) b=ae.shr xs ys (a+b):=by refine uc (n:=n) (hx.shr (hx.shr hy a) b).length (hx.shr hy (a+b)).length λs s0 s1=>?_;obtain⟨p0,p1⟩:=hx.pw s0 s1 (-b);rw[hx.ph s0 s1,hx.ph p0 p1,hx.ph s0 s1,hx.pw_add s0 s1,show -a + -b=-(a+b) by lk]
def Tn.vG(hx:Tn n xs)(hy:Tn n ys):ae.shr xs ys 0=ys:=by refine uc (n:=n) (hx.shr hy 0).length hy.length λs s0 s1=>?_;rw[hx.ph s0 s1];rfl
end ae
namespace ae
abbrev tb(l:Int->Nat)(p:Int->Int)(a b:Int):Bool:=if l a=l b\/l (p a)=l (p b)then false else(decide (l a<l b)).xor (decide (l (p a)<l (p b)))
end ae
namespace ae
end ae
namespace ae
@[reducible]def Sp:=Bool×Int
abbrev bL(s:Sp):Prop:=(s.1=false->1<=s.2/\s.2<=3)/\s.2≠0
abbrev gL(a b:Sp):Int:=if a.1 then a.2+b.2 else(a.2+b.2) % 4
abbrev cE(a b:Sp):List Sp:=if gL a b=0 then[]else[(a.1,gL a b)]
abbrev bR:List Sp->Sp->List Sp
 |[],s=>[s]
 |t :: r,s=>if t.1=s.1 then cE t s ++ r else s :: t :: r
def vH(t:Sp)(r:List Sp)(s:Sp):bR (t :: r) s=if t.1=s.1 then cE t s ++ r else s :: t :: r:=rfl
abbrev j8(w:List Sp):List Sp:=w.foldl bR []
abbrev oW(s:Sp):Sp:=(s.1,if s.1 then -s.2 else 4-s.2)
abbrev iy(w:List Sp):List Sp:=(w.map oW).reverse
abbrev Pl:List Sp->Prop
 |[]=>True
 |a :: r=>bL a/\(∀b,r.head?=some b->a.1≠b.1)/\Pl r
def Pl.pr:∀{l:List Sp},Pl l->∀s∈l,bL s
 |a :: r,h,s,hs=>by
  rcases ZaC.mp hs with rfl|hs
  exact h.1;exact Pl.pr h.2.2 s hs
def Sf(ha:bL a)(e:a.1=b.1):(gL a b=0/\cE a b=[])\/(bL (a.1,gL a b)/\cE a b=[(a.1,gL a b)]):=by unfold cE;by_cases h:gL a b=0;exact .inl ⟨h,by rw[if_pos h]⟩;refine .inr ⟨⟨λhf=>?_,h⟩,by rw[if_neg h]⟩;simp only at hf;unfold gL at h ⊢;simp only[hf,ZaT,if_false]at h ⊢;lk
def Pl.push(h:Pl l)(hs:bL s):Pl (bR l s):=by
 cases l with
 |nil=>exact⟨hs,λb h=>(nomatch h),trivial⟩
 |cons t r =>
  rw[vH];split
  ·next e =>
   rcases Sf h.1 e with⟨_,ej⟩|⟨hp,ej⟩
   ·rw[ej];exact h.2.2
   ·rw[ej];exact⟨hp,h.2.1,h.2.2⟩
  ·next e =>
   refine⟨hs,λb hb=>?_,h⟩;cases hb;exactλe'=>e e'.symm
def Pl.fold{w:List Sp}:∀{l:List Sp},Pl l->(∀s∈w,bL s)->Pl (w.foldl bR l):=by
 induction w with
 |nil=>exactλh _=>h
 |cons s w ih=>exactλh hw=>ih (h.push (hw s (Zaj))) λs' h'=>hw s' (Zas _ h')
def Sg(hw:∀s∈w,bL s):Pl (j8 w):=Pl.fold (l:=[]) trivial hw
def N9(h:∀b,l.head?=some b->s.1≠b.1):bR l s=s :: l:=by
 cases l with
 |nil=>rfl
 |cons t r=>rw[vH,if_neg λe=>h t rfl e.symm]
def Pl.oI:∀{l:List Sp},Pl l->j8 l.reverse=l
 |[],_=>rfl
 |a :: r,h=>by
  unfold j8;rw[Zb8,Zbn];show bR (j8 r.reverse) a=_;rw[Pl.oI h.2.2,N9 h.2.1]
def K1(u v:List Sp):j8 (u ++ v)=v.foldl bR (j8 u):=by unfold j8;rw[Zbn]
def FH(h:bL s):bL (oW s):=by
 obtain⟨b,k⟩:=s;cases b with
 |true=>exact⟨nofun,λe=>h.2 (by have:-k=0:=e;show k=0;lk)⟩
 |false =>
  obtain⟨h1,h2⟩:=h.1 rfl;simp only at h1 h2;exact⟨λ_=>by show 1<=4-k/\4-k<=3;lk,by show 4-k≠0;lk⟩
def YL(hp:Pl p)(hs:bL s):bR (bR p s) (oW s)=p:=by
 have e0:cE s (oW s)=[]:=by
  unfold cE gL oW;cases hb:s.1<;>simp<;>lk
 cases p with
 |nil =>
  show(if s.1=(oW s).1 then cE s (oW s) ++ []else _)=_;rw[if_pos (show s.1=(oW s).1 from rfl),e0];rfl
 |cons t r =>
  by_cases e:t.1=s.1;have e1:bR (t :: r) s=cE t s ++ r:=by rw[vH,if_pos e]
  rw[e1];obtain⟨tb,tk⟩:=t;obtain⟨sb,sk⟩:=s;simp only at e;subst e;have ht:=hp.1;rcases Sf (b:=(tb,sk)) hp.1 rfl with⟨h0,ej⟩|⟨uK,ej⟩
  rw[ej,List.nil_append];have eb:oW (tb,sk)=(tb,tk):=by
   unfold oW;unfold gL at h0;cases tb with
   |true=>simp only[if_true]at h0 ⊢;congr 1;lk
   |false =>
    have h1:=ht.1 rfl;have h2:=hs.1 rfl;simp only[ZaT,if_false]at h0 h1 h2 ⊢
    congr 1;lk
  rw[eb];exact N9 hp.2.1;rw[ej];show(if tb=(oW (tb,sk)).1 then cE (tb,gL (tb,tk) (tb,sk)) (oW (tb,sk)) ++ r else _)=_;rw[if_pos (show tb=(oW (tb,sk)).1 from rfl)];have eb:gL (tb,gL (tb,tk) (tb,sk)) (oW (tb,sk))=tk:=by
   unfold gL oW;cases tb with
   |true=>simp only[if_true];lk
   |false =>
    have h1:=ht.1 rfl;have h2:=hs.1 rfl;simp only[ZaT,if_false]at h1 h2 ⊢;lk
  unfold cE;rw[eb,if_neg ht.2];rfl;have e1:bR (t :: r) s=s :: t :: r:=by rw[vH,if_neg e]
  rw[e1];show(if s.1=(oW s).1 then cE s (oW s) ++ (t :: r)else _)=_;rw[if_pos (show s.1=(oW s).1 from rfl),e0];rfl
def YM:∀{p:List Sp},Pl p->(∀s∈w,bL s)->(w ++ iy w).foldl bR p=p:=by
 induction w with
 |nil=>exactλ_ _=>rfl
 |cons s w ih =>
  intro p hp hw;have e:(s :: w) ++ iy (s :: w)=s :: ((w ++ iy w) ++ [oW s]):=by unfold iy;simp
  rw[e];show((w ++ iy w) ++ [oW s]).foldl bR (bR p s)=p;have hs:=hw s (Zaj);rw[Zbn,ih (hp.push hs) λs' h'=>hw s' (Zas _ h')];exact YL hp hs
def YN(hw:∀s∈w,bL s):j8 (w ++ iy w)=[]:=YM (p:=[]) trivial hw
def Si(h:∀x∈l,x.2.natAbs<=M)(hs:s.2.natAbs<=B)(hp:bL s)(hl:Pl l):∀x∈bR l s,x.2.natAbs<=M+B:=by
 intro x hx;cases l with
 |nil=>rcases Zaq.mp hx with rfl;lk
 |cons t r =>
  rw[vH]at hx;have ht:=h t (Zaj);split at hx
  ·next e0 =>
   rcases ZaA.mp hx with hx|hx
   ·unfold cE at hx
    split at hx
    ·exact(nomatch hx)
    ·rcases Zaq.mp hx with rfl
     show(gL t s).natAbs<=_;unfold gL;split
     ·lk
     ·next hb =>
      have:=hl.1.1 (by simpa using hb);have h2:=hp.1 (by rw[<- e0];simpa using hb);lk
   ·have:=h x (Zas _ hx);lk
  ·rcases ZaC.mp hx with rfl|hx
   ·lk
   ·have:=h x hx;lk
def YO{B:Nat}{w:List Sp}:∀{l:List Sp} {M:Nat},(∀x∈l,x.2.natAbs<=M)->Pl l->(∀s∈w,bL s/\s.2.natAbs<=B)->∀x∈w.foldl bR l,x.2.natAbs<=M+w.length*B:=by
 induction w with
 |nil=>intro l M h _ _ x hx;have:=h x hx;lk
 |cons s w ih =>
  intro l M h hl hw x hx;have hs:=hw s (Zaj);have:=ih (Si h hs.2 hs.1 hl) (hl.push hs.1) (λs' h'=>hw s' (Zas _ h')) x hx;rw[ZaE,Zcp];lk
def AY(hw:∀s∈w,bL s/\s.2.natAbs<=B):∀x∈j8 w,x.2.natAbs<=w.length*B:=λx hx=>by
 have:=YO (l:=[]) (M:=0) nofun trivial hw x hx;lk
def YQ(l:List Sp)(s:Sp):(bR l s).length<=l.length+1:=by
 cases l with
 |nil=>exact Zag _
 |cons t r =>
  rw[vH];split;unfold cE;split<;>simp<;>lk;simp
def YR{w:List Sp}:∀{l:List Sp},(w.foldl bR l).length<=l.length+w.length:=by
 induction w with
 |nil=>exact Zag _
 |cons s w ih =>
  intro l;have:=ih (l:=bR l s);have h2:=YQ l s;rw[ZaE];exact Zal this ⋯
def K2(w:List Sp):(j8 w).length<=w.length:=by have:=YR (w:=w) (l:=[]);simpa[j8]using this
structure T4 where (a b c d:Int)
abbrev T4.one:T4:=⟨1,0,0,1⟩
abbrev T4.qt:T4:=⟨0,-1,1,0⟩
abbrev T4.mul(x y:T4):T4:=⟨x.a*y.a+x.b*y.c,x.a*y.b+x.b*y.d,x.c*y.a+x.d*y.c,x.c*y.b+x.d*y.d⟩
abbrev T4.uB(x:T4):T4:=⟨x.d,-x.b,-x.c,x.a⟩
def T4.ext'{x y:T4}(h1:x.a=y.a)(h2:x.b=y.b)(h3:x.c=y.c)(h4:x.d=y.d):x=y:=by cases x;cases y;simp only at h1 h2 h3 h4;subst h1 h2 h3 h4;rfl
def T4.assoc(x y z:T4):(x.mul y).mul z=x.mul (y.mul z):=by apply T4.ext'<;>simp only[T4.mul,Int.add_mul,ZbV,ZaH]<;>lk
def T4.one_mul(x:T4):T4.one.mul x=x:=by apply T4.ext'<;>simp[T4.mul,T4.one]
def T4.mul_one(x:T4):x.mul T4.one=x:=by apply T4.ext'<;>simp[T4.mul,T4.one]
def T4.xB(x y:T4):(x.mul y).uB=y.uB.mul x.uB:=by apply T4.ext'<;>simp only[T4.mul,T4.uB,Za3,ZcY,Int.neg_neg,ZaP]<;>lk
abbrev qp:Nat->T4
 |0=>T4.one
 |n+1=>T4.qt.mul (qp n)
abbrev j9(s:Sp):T4:=if s.1 then⟨1,s.2,0,1⟩else qp s.2.toNat
abbrev o7(T:T4)(w:List Sp):T4:=w.foldl (λT s=>(j9 s).mul T) T
abbrev ai(w:List Sp):T4:=o7 T4.one w
def YS(w:List Sp):∀T:T4,o7 T w=(ai w).mul T:=by
 induction w with
 |nil=>exactλT=>(T4.one_mul T).symm
 |cons s w ih =>
  intro T;show o7 ((j9 s).mul T) w=(o7 ((j9 s).mul T4.one) w).mul T;rw[ih,ih,T4.mul_one,T4.assoc]
def qw(u v:List Sp):ai (u ++ v)=(ai v).mul (ai u):=by show o7 T4.one (u ++ v)=_;unfold o7;rw[Zbn];exact YS v _
def wK(u:List Sp)(s:Sp):ai (u ++ [s])=(j9 s).mul (ai u):=by show o7 T4.one (u ++ [s])=_;unfold o7;rw[Zbn];rfl
def t3{k:Int}(h:1<=k/\k<=3):k=1\/k=2\/k=3:=by lk
def YT(ht:bL t)(hs:bL s)(e:t.1=s.1):ai (cE t s)=(j9 s).mul (j9 t):=by
 obtain⟨tb,tk⟩:=t;obtain⟨sb,sk⟩:=s;simp only at e;subst e;cases tb with
 |true =>
  have e2:(j9 (true,sk)).mul (j9 (true,tk))=⟨1,tk+sk,0,1⟩:=by apply T4.ext'<;>simp[T4.mul,j9]<;>lk
  rw[e2];unfold cE gL;simp only[if_true];split
  ·next h=>rw[h];rfl
  ·rw[show ai [(true,tk+sk)]=(j9 (true,tk+sk)).mul T4.one from rfl,T4.mul_one];rfl
 |false =>
  have h1:=ht.1 rfl;have h2:=hs.1 rfl;simp only at h1 h2;rcases t3 h1 with rfl|rfl|rfl<;>rcases t3 h2 with rfl|rfl|rfl<;>rfl
def YU(hl:Pl l)(hs:bL s):ai (bR l s).reverse=(j9 s).mul (ai l.reverse):=by
 cases l with
 |nil=>exact wK [] s
 |cons t r =>
  rw[vH];split
  ·next e =>
   rw[List.reverse_append,qw,Zb8,wK,<- T4.assoc]
   congr 1
   rw[<- YT hl.1 hs e];unfold cE;split<;>rfl
  ·rw[Zb8,wK]
def YV:∀{l:List Sp},Pl l->(∀s∈w,bL s)->ai (w.foldl bR l).reverse=o7 (ai l.reverse) w:=by
 induction w with
 |nil=>exactλ_ _=>rfl
 |cons s w ih =>
  intro l hl hw;have hs:=hw s (Zaj);show ai (w.foldl bR (bR l s)).reverse=o7 ((j9 s).mul (ai l.reverse)) w;rw[ih (hl.push hs) λs' h'=>hw s' (Zas _ h'),YU hl hs]
def Oa(hw:∀s∈w,bL s):ai (j8 w).reverse=ai w:=YV (l:=[]) trivial hw
def AZ(h:bL s):j9 (oW s)=(j9 s).uB:=by
 obtain⟨b,k⟩:=s;cases b with
 |true=>apply T4.ext'<;>simp[T4.uB,j9,oW]
 |false =>
  have h1:=h.1 rfl;simp only at h1;rcases t3 h1 with rfl|rfl|rfl<;>rfl
def xC(hw:∀s∈w,bL s):ai (iy w)=(ai w).uB:=by
 induction w with
 |nil=>rfl
 |cons s w ih =>
  have e:iy (s :: w)=iy w ++ [oW s]:=by unfold iy;simp
  have e2:ai (s :: w)=(ai w).mul (j9 s):=by
   rw[show s :: w=[s] ++ w from rfl,qw]
   congr 1
   exact(wK [] s).trans (T4.mul_one _)
  rw[e,wK,ih λs' h'=>hw s' (Zas _ h'),AZ (hw s (Zaj)),e2,T4.xB]
abbrev T4.le(x:T4)(M:Nat):Prop:=x.a.natAbs<=M/\x.b.natAbs<=M/\x.c.natAbs<=M/\x.d.natAbs<=M
def Sj{a c k:Int}{M B:Nat}(ha:a.natAbs<=M)(hc:c.natAbs<=M)(hk:k.natAbs<=B):(a+k*c).natAbs<=(B+1)*M:=by
 have h1:(k*c).natAbs<=B*M:=by rw[Za5];exact ZbW hk hc
 rw[Zcp];lk
def yP(h:T.le M)(hp:bL s)(hs:s.2.natAbs<=B):((j9 s).mul T).le ((B+1)*M):=by
 obtain⟨b,k⟩:=s;obtain⟨ha,hb,hc,hd⟩:=h;have hM:M<=(B+1)*M:=by rw[Zcp];lk
 cases b with
 |true =>
  refine⟨?_,?_,?_,?_⟩<;>simp only[T4.mul,j9,if_true,Int.one_mul,Int.zero_mul,Zbq];exact Sj ha hc hs;exact Sj hb hd hs;lk;lk
 |false =>
  have h1:=hp.1 rfl;simp only at h1;rcases t3 h1 with rfl|rfl|rfl<;>refine⟨?_,?_,?_,?_⟩<;>simp[T4.mul,j9,qp,T4.qt,T4.one]<;>lk
def A0:∀{T:T4} {M:Nat},T.le M->(∀s∈w,bL s/\s.2.natAbs<=B)->(o7 T w).le ((B+1) ^ w.length*M):=by
 induction w with
 |nil=>intro T M h _;simpa[o7]using h
 |cons s w ih =>
  intro T M h hw;have hs:=hw s (Zaj);have:=ih (yP h hs.1 hs.2) λs' h'=>hw s' (Zas _ h');rw[ZaE,Nat.pow_succ,ZcE];exact this
def YW(hw:∀s∈w,bL s/\s.2.natAbs<=B)(hn:w.length<=n):(ai w).le ((B+1) ^ n):=by
 have h:=A0 (T:=T4.one) (M:=1) ⟨by decide,by decide,by decide,by decide⟩ hw;have h2:(B+1) ^ w.length*1<=(B+1) ^ n:=by rw[Nat.mul_one];exact ZbS ⋯ hn
 exact⟨Zal h.1 h2,Zal h.2.1 h2,Zal h.2.2.1 h2,Zal h.2.2.2 h2⟩
end ae
namespace ae
abbrev sf:List Int->List Int->Bool
 |[],[]=>false
 |[],_ :: _=>true
 |_ :: _,[]=>false
 |x :: xs,y :: ys=>if x=y then sf xs ys else decide (x<y)
def K3:∀xs:List Int,sf xs xs=false
 |[]=>rfl
 |x :: xs=>by unfold sf;rw[if_pos rfl];exact K3 xs
def Ob:∀{xs ys zs:List Int},sf xs ys=true->sf ys zs=true->sf xs zs=true
 |[],[],_,h,_=>by cases h
 |[],_ :: _,[],_,h=>by cases h
 |[],_ :: _,_ :: _,_,_=>rfl
 |_ :: _,[],_,h,_=>by cases h
 |_ :: _,_ :: _,[],_,h=>by cases h
 |x :: xs,y :: ys,z :: zs,h1,h2=>by
  unfold sf at h1 h2 ⊢;by_cases a:x=y;rw[if_pos a]at h1;by_cases b:y=z;rw[if_pos b]at h2;rw[if_pos (a.trans b)];exact Ob h1 h2;rw[if_neg b]at h2;rw[if_neg (λe=>b (a.symm.trans e))];rw[a];exact h2;rw[if_neg a]at h1;have h1:=of_decide_eq_true h1;by_cases b:y=z;rw[<- b,if_neg a];exact decide_eq_true h1;rw[if_neg b]at h2;have h2:=of_decide_eq_true h2;rw[if_neg ⋯];exact decide_eq_true ⋯
def Oc:∀{xs ys:List Int},sf xs ys=false->sf ys xs=false->xs=ys
 |[],[],_,_=>rfl
 |[],_ :: _,h,_=>by cases h
 |_ :: _,[],_,h=>by cases h
 |x :: xs,y :: ys,h1,h2=>by
  unfold sf at h1 h2;by_cases a:x=y;subst a;rw[if_pos rfl]at h1 h2;rw[Oc h1 h2];rw[if_neg a]at h1;rw[if_neg (Ne.symm a)]at h2;have h1:=of_decide_eq_false h1;have h2:=of_decide_eq_false h2;lk
@[reducible]def aP:=List Int×List Int
abbrev pS(p q:aP):Bool:=if p.1=q.1 then sf p.2 q.2 else sf p.1 q.1
def Sk(p:aP):pS p p=false:=by unfold pS;rw[if_pos rfl];exact K3 _
def YX(h1:pS p q=true)(h2:pS q r=true):pS p r=true:=by unfold pS at h1 h2 ⊢;by_cases a:p.1=q.1;rw[if_pos a]at h1;by_cases b:q.1=r.1;rw[if_pos b]at h2;rw[if_pos (a.trans b)];exact Ob h1 h2;rw[if_neg b]at h2;rw[if_neg (λe=>b (a.symm.trans e)),a];exact h2;rw[if_neg a]at h1;by_cases b:q.1=r.1;rw[<- b,if_neg a];exact h1;rw[if_neg b]at h2;have h:=Ob h1 h2;rw[if_neg (λe=>by rw[e,K3]at h;cases h)];exact h
def YY(h1:pS p q=false)(h2:pS q p=false):p=q:=by unfold pS at h1 h2;by_cases a:p.1=q.1;rw[if_pos a]at h1;rw[if_pos a.symm]at h2;exact Prod.ext a (Oc h1 h2);rw[if_neg a]at h1;rw[if_neg (Ne.symm a)]at h2;exact absurd (Oc h1 h2) a
abbrev pT:List aP->aP
 |[]=>([],[])
 |p :: l=>l.foldl (λb q=>if pS q b then q else b) p
abbrev Lst(l:List aP)(p:aP):Prop:=p∈l/\∀q∈l,pS q p=false
def Lst.unique(a:Lst l p)(b:Lst m q)(h:∀x,x∈l↔x∈m):p=q:=YY (b.2 p ((h p).mp a.1)) (a.2 q ((h q).mpr b.1))
def Lst.step(h:Lst l b):Lst (l ++ [q]) (if pS q b then q else b):=by
 split
 ·next hq =>
  refine⟨ZaN _ (Zcq _),λx hx=>?_⟩;rcases ZaA.mp hx with hx|hx
  ·cases YZ:pS x q with
   |false=>rfl
   |true=>have:=YX YZ hq;rw[h.2 x hx]at this;cases this
  ·rw[Zaq.mp hx];exact Sk q
 ·next hq =>
  refine⟨Zbv _ h.1,λx hx=>?_⟩;rcases ZaA.mp hx with hx|hx
  ·exact h.2 x hx
  ·rw[Zaq.mp hx];simpa using hq
def Lst.fold:∀(l pre:List aP) (b:aP),Lst pre b->Lst (pre ++ l) (l.foldl (λb q=>if pS q b then q else b) b)
 |[],pre,b,h=>by rw[ZaZ];exact h
 |q :: l,pre,b,h=>by
  have:=Lst.fold l (pre ++ [q]) _ (h.step (q:=q));rw[Zbx]at this;exact this
def Oe(h:l≠[]):Lst l (pT l):=by
 cases l with
 |nil=>exact absurd rfl h
 |cons p l=>exact Lst.fold l [p] p ⟨Zcq _,λq hq=>by rw[Zaq.mp hq];exact Sk p⟩
def Y0(h:∀x,x∈l↔x∈m)(hl:l≠[]):pT l=pT m:=by
 have hm:m≠[]:=λe=>by
  obtain⟨x,hx⟩:=List.exists_mem_of_ne_nil l hl;have:=(h x).mp hx;rw[e]at this;cases this
 exact(Oe hl).unique (Oe hm) h
end ae
namespace ae
def xD(n:Nat):Tn n (upto n):=Zcf _
def K4{n:Nat}{s:Int}(s0:0<=s)(s1:s<(n:Int)):app (upto n) s=s:=by unfold app;rw[Zah,Fz ⋯,Option.getD_some];lk
section
variable {n:Nat}{a b c g x y:List Int}
def uf(ha:Tn n a)(hb:Tn n b)(hc:Tn n c):a5 (a5 a b) c=a5 a (a5 b c):=by refine uc (n:=n) ((ha.a5 hb).a5 hc).length (ha.a5 (hb.a5 hc)).length λs s0 s1=>?_;obtain⟨p0,p1⟩:=ha.app s0 s1;rw[qv s0 (by rw[(ha.a5 hb).length];exact s1),qv s0 (by rw[ha.length];exact s1),qv s0 (by rw[ha.length];exact s1),qv p0 (by rw[hb.length];exact p1)]
def FI(ha:Tn n a):a5 a (inv a)=upto n:=YA ha
def Og(ha:Tn n a):a5 (inv a) a=upto n:=YB ha
def A1(ha:Tn n a):a5 a (upto n)=a:=by refine uc (n:=n) (ha.a5 (xD n)).length ha.length λs s0 s1=>?_;obtain⟨p0,p1⟩:=ha.app s0 s1;rw[qv s0 (by rw[ha.length];exact s1),K4 p0 p1]
def K5(ha:Tn n a):a5 (upto n) a=a:=by refine uc (n:=n) ((xD n).a5 ha).length ha.length λs s0 s1=>?_;rw[qv s0 (by rw[(xD n).length];exact s1),K4 s0 s1]
def K7(ha:Tn n a)(hb:Tn n b)(h:a5 a b=upto n):inv a=b:=by
 have e:a5 (inv a) (a5 a b)=b:=by rw[<- uf ha.aG ha hb,Og ha,K5 hb]
 rw[h,A1 ha.aG]at e;exact e
def yQ(ha:Tn n a)(hb:Tn n b):inv (a5 a b)=a5 (inv b) (inv a):=by refine K7 (ha.a5 hb) (hb.aG.a5 ha.aG) ?_;rw[uf ha hb (hb.aG.a5 ha.aG),<- uf hb hb.aG ha.aG,FI hb,K5 ha.aG,FI ha]
def Sl(ha:Tn n a)(hb:Tn n b):a5 (a5 a b) (inv b)=a:=by rw[uf ha hb hb.aG,FI hb,A1 ha]
def Oh(ha:Tn n a)(hb:Tn n b):a5 (a5 a (inv b)) b=a:=by rw[uf ha hb.aG hb,Og hb,A1 ha]
def Y1(ha:Tn n a)(hb:Tn n b):a5 a (a5 (inv a) b)=b:=by rw[<- uf ha ha.aG hb,FI ha,K5 hb]
def FJ(hx:Tn n x)(i j:Int):a5 (cJ x i) (cJ x j)=cJ x (i+j):=by refine uc (n:=n) ((hx.cJ i).a5 (hx.cJ j)).length (hx.cJ (i+j)).length λs s0 s1=>?_;obtain⟨p0,p1⟩:=hx.pw s0 s1 i;have hl:=hx.length;rw[qv s0 (by rw[FG,hl];exact s1),se s0 (by rw[hl];exact s1),se p0 (by rw[hl];exact p1),se s0 (by rw[hl];exact s1),hx.pw_add s0 s1,Int.add_comm j i]
def Oi(hx:Tn n x):cJ x 0=upto n:=by refine uc (n:=n) (hx.cJ 0).length (xD n).length λs s0 s1=>?_;rw[se s0 (by rw[hx.length];exact s1),K4 s0 s1];rfl
def FK(hx:Tn n x):cJ x 1=x:=by refine uc (n:=n) (hx.cJ 1).length hx.length λs s0 s1=>?_;rw[se s0 (by rw[hx.length];exact s1)];rfl
def Oj(hx:Tn n x)(k:Int):inv (cJ x k)=cJ x (-k):=K7 (hx.cJ k) (hx.cJ (-k)) (by rw[FJ hx,Zcx,Oi hx])
def Ol(hx:Tn n x):cJ x (-1)=inv x:=by rw[<- Oj hx,FK hx]
def Sn(hx:Tn n x)(k:Int):cJ (inv x) k=cJ x (-k):=by refine uc (n:=n) (hx.aG.cJ k).length (hx.cJ (-k)).length λs s0 s1=>?_;rw[se s0 (by rw[hx.aG.length];exact s1),se s0 (by rw[hx.length];exact s1)];unfold pw;by_cases h:0<=k;rw[if_pos h];by_cases h0:k=0;subst h0;rfl;rw[if_neg ⋯,show -(-k)=k by lk];rw[if_neg h,if_pos ⋯,hx.inv_inv]
def Sq(ha:Tn n a)(hb:Tn n b)(hg:Tn n g):a5 (anew a g) (anew b g)=anew (a5 a b) g:=by unfold anew;have hi:=hg.aG;rw[uf (hi.a5 ha) hg ((hi.a5 hb).a5 hg),uf hi hb hg,Y1 hg (hb.a5 hg),uf hi ha (hb.a5 hg),<- uf ha hb hg,<- uf hi (ha.a5 hb) hg]
def Y2(hg:Tn n g):anew (upto n) g=upto n:=by unfold anew;rw[A1 hg.aG,Og hg]
def Sr(ha:Tn n a)(hg:Tn n g):inv (anew a g)=anew (inv a) g:=K7 (ha.anew hg) (ha.aG.anew hg) (by rw[Sq ha ha.aG hg,FI ha,Y2 hg])
def Om(hx:Tn n x)(hg:Tn n g)(i0:0<=i)(i1:i<(n:Int)):∀k,a7 (anew x g) (app g i) k=app g (a7 x i k)
 |0=>rfl
 |k+1=>by
  obtain⟨p0,p1⟩:=hx.a7 i0 i1 k;show app (anew x g) (a7 (anew x g) (app g i) k)=app g (app x (a7 x i k));rw[Om hx hg i0 i1 k,hx.nX hg p0 p1]
def Y3(hx:Tn n x)(hg:Tn n g)(i0:0<=i)(i1:i<(n:Int))(k:Int):pw (anew x g) k (app g i)=app g (pw x k i):=by unfold pw;split;exact Om hx hg i0 i1 _;rw[Sr hx hg];exact Om hx.aG hg i0 i1 _
def Y4(hx:Tn n x)(hg:Tn n g)(k:Int):cJ (anew x g) k=anew (cJ x k) g:=by refine uc (n:=n) ((hx.anew hg).cJ k).length ((hx.cJ k).anew hg).length λs s0 s1=>?_;obtain⟨p0,p1⟩:=hg.o6 s0 s1;rw[se s0 (by rw[(hx.anew hg).length];exact s1),(hx.cJ k).j7 hg s0 s1,se p0 (by rw[hx.length];exact p1),<- Y3 hx hg p0 p1,hg.dg s0 s1]
end
abbrev Vf(n:Nat)(p:aP):Prop:=Tn n p.1/\Tn n p.2
abbrev bA(n:Nat)(p q:aP):Prop:=∃g,Tn n g/\q=(anew p.1 g,anew p.2 g)
abbrev Sh(k:Int)(p:aP):aP:=(p.1,shr p.1 p.2 k)
abbrev Qt(p:aP):aP:=(inv p.2,p.1)
section
variable {n:Nat}{p q r:aP}
def Vf.sh(h:Vf n p)(k:Int):Vf n (Sh k p):=⟨h.1,h.1.shr h.2 k⟩
def Vf.qt(h:Vf n p):Vf n (Qt p):=⟨h.2.aG,h.1⟩
def bA.refl(h:Vf n p):bA n p p:=⟨upto n,xD n,by
 have e:∀a:List Int,Tn n a->anew a (upto n)=a:=λa ha=>by
  unfold anew;rw[K7 (xD n) (xD n) (A1 (xD n)),K5 ha,A1 ha]
 rw[e _ h.1,e _ h.2]⟩
def bA.symm(h:Vf n p)(a:bA n p q):bA n q p:=by obtain⟨g,hg,rfl⟩:=a;exact⟨inv g,hg.aG,by show p=(anew (anew p.1 g) (inv g),anew (anew p.2 g) (inv g));rw[h.1.oH hg,h.2.oH hg]⟩
def bA.trans(h:Vf n p)(a:bA n p q)(b:bA n q r):bA n p r:=by obtain⟨g,hg,rfl⟩:=a;obtain⟨f,hf,rfl⟩:=b;exact⟨a5 g f,hg.a5 hf,by show(anew (anew p.1 g) f,anew (anew p.2 g) f)=_;rw[h.1.oG hg hf,h.2.oG hg hf]⟩
def bA.sh(h:Vf n p)(a:bA n p q)(k:Int):bA n (Sh k p) (Sh k q):=by obtain⟨g,hg,rfl⟩:=a;refine⟨g,hg,?_⟩;show(anew p.1 g,a5 (cJ (anew p.1 g) (-k)) (anew p.2 g))=(anew p.1 g,anew (a5 (cJ p.1 (-k)) p.2) g);rw[Y4 h.1 hg,Sq (h.1.cJ _) h.2 hg]
def bA.qt(h:Vf n p)(a:bA n p q):bA n (Qt p) (Qt q):=by obtain⟨g,hg,rfl⟩:=a;refine⟨g,hg,?_⟩;show(inv (anew p.2 g),anew p.1 g)=(anew (inv p.2) g,anew p.1 g);rw[Sr h.2 hg]
def vI(h:Vf n p)(j k:Int):Sh k (Sh j p)=Sh (j+k) p:=by show(p.1,shr p.1 (shr p.1 p.2 j) k)=(p.1,shr p.1 p.2 (j+k));rw[h.1.xA h.2]
def oJ(h:Vf n p):Sh 0 p=p:=by show(p.1,shr p.1 p.2 0)=p;rw[h.1.vG h.2]
abbrev Q2(p:aP):aP:=(inv p.1,inv p.2)
def FL(p:aP):Qt (Qt p)=Q2 p:=rfl
def FN(h:Vf n p):Q2 (Q2 p)=p:=by show(inv (inv p.1),inv (inv p.2))=p;rw[h.1.inv_inv,h.2.inv_inv]
def Vf.q2(h:Vf n p):Vf n (Q2 p):=⟨h.1.aG,h.2.aG⟩
def bA.q2(h:Vf n p)(a:bA n p q):bA n (Q2 p) (Q2 q):=bA.qt h.qt (bA.qt h a)
def FO(h:Vf n p)(k:Int):bA n (Q2 (Sh k p)) (Sh k (Q2 p)):=by
 have hx:=h.1;have hy:=h.2;refine⟨cJ p.1 (-k),hx.cJ _,?_⟩;show(inv p.1,a5 (cJ (inv p.1) (-k)) (inv p.2))=(anew (inv p.1) (cJ p.1 (-k)),anew (inv (a5 (cJ p.1 (-k)) p.2)) (cJ p.1 (-k)));have e1:anew (inv p.1) (cJ p.1 (-k))=inv p.1:=by
  unfold anew;rw[Oj hx,<- Ol hx,FJ hx,FJ hx]
  congr 1;lk
 have e2:anew (inv (a5 (cJ p.1 (-k)) p.2)) (cJ p.1 (-k))=a5 (cJ (inv p.1) (-k)) (inv p.2):=by
  unfold anew;rw[yQ (hx.cJ _) hy,Sn hx,Oj hx,uf (hx.cJ _) (hy.aG.a5 (hx.cJ _)) (hx.cJ _),uf hy.aG (hx.cJ _) (hx.cJ _),FJ hx,show - -k + -k=0 by lk,Oi hx,A1 hy.aG]
 rw[e1,e2]
def FP(h:Vf n p):bA n (Qt (Sh 1 (Qt p))) (Sh (-1) (Qt (Sh (-1) p))):=by
 have hx:=h.1;have hy:=h.2;have l:Qt (Sh 1 (Qt p))=(a5 (inv p.1) (inv p.2),inv p.2):=by
  show(inv (a5 (cJ (inv p.2) (-1)) p.1),inv p.2)=_;rw[Sn hy,show -(-1:Int)=1 by lk,FK hy,yQ hy hx]
 have r:Sh (-1) (Qt (Sh (-1) p))=(a5 (inv p.2) (inv p.1),inv p.2):=by
  show(inv (a5 (cJ p.1 (-(-1))) p.2),a5 (cJ (inv (a5 (cJ p.1 (-(-1))) p.2)) (-(-1))) p.1)=_;have hf:=hx.a5 hy;rw[show -(-1:Int)=1 by lk,FK hx,FK hf.aG,yQ hx hy,Oh hy.aG hx]
 refine⟨p.2,hy,?_⟩;rw[l,r];show(a5 (inv p.2) (inv p.1),inv p.2)=(a5 (a5 (inv p.2) (a5 (inv p.1) (inv p.2))) p.2,a5 (a5 (inv p.2) (inv p.2)) p.2);rw[<- uf hy.aG hx.aG hy.aG,Oh (hy.aG.a5 hx.aG) hy,Oh hy.aG hy]
def A2(h:Vf n p):bA n (Qt (Sh (-1) (Qt p))) (Q2 (Sh 1 (Qt (Sh 1 p)))):=by
 have hx:=h.1;have hy:=h.2;have hu:=hx.aG.a5 hy;have l:Qt (Sh (-1) (Qt p))=(a5 (inv p.1) p.2,inv p.2):=by
  show(inv (a5 (cJ (inv p.2) (-(-1))) p.1),inv p.2)=_;rw[show -(-1:Int)=1 by lk,FK hy.aG,yQ hy.aG hx,hy.inv_inv]
 have r:Q2 (Sh 1 (Qt (Sh 1 p)))=(a5 (inv p.1) p.2,a5 (inv p.1) (a5 (inv p.2) p.1)):=by
  show(inv (inv (a5 (cJ p.1 (-1)) p.2)),inv (a5 (cJ (inv (a5 (cJ p.1 (-1)) p.2)) (-1)) p.1))=_;rw[Ol hx,Ol hu.aG,hu.inv_inv,yQ hu hx,yQ hx.aG hy,hx.inv_inv]
 refine⟨a5 (inv p.2) p.1,hy.aG.a5 hx,?_⟩;rw[l,r];show(a5 (inv p.1) p.2,a5 (inv p.1) (a5 (inv p.2) p.1))=(a5 (a5 (inv (a5 (inv p.2) p.1)) (a5 (inv p.1) p.2)) (a5 (inv p.2) p.1),a5 (a5 (inv (a5 (inv p.2) p.1)) (inv p.2)) (a5 (inv p.2) p.1));have eg:inv (a5 (inv p.2) p.1)=a5 (inv p.1) p.2:=by rw[yQ hy.aG hx,hy.inv_inv]
 have Y5:a5 (inv p.2) p.1=inv (a5 (inv p.1) p.2):=by rw[yQ hx.aG hy,hx.inv_inv]
 rw[eg];have e1:a5 (a5 (a5 (inv p.1) p.2) (a5 (inv p.1) p.2)) (a5 (inv p.2) p.1)=a5 (inv p.1) p.2:=by rw[Y5,Sl hu hu]
 have e2:a5 (a5 (a5 (inv p.1) p.2) (inv p.2)) (a5 (inv p.2) p.1)=a5 (inv p.1) (a5 (inv p.2) p.1):=by rw[Sl hx.aG hy]
 rw[e1,e2]
end
abbrev act:Int->List Int->aP->aP
 |k,[],p=>Sh k p
 |k,j :: ks,p=>act j ks (Qt (Sh k p))
abbrev tS(k:Int):T4:=⟨1,k,0,1⟩
abbrev kl(k:Int):T4:=⟨0,-1,1,k⟩
abbrev kc:Int->List Int->T4
 |k,[]=>tS k
 |k,j :: ks=>(kc j ks).mul (kl k)
abbrev m9(e:Bool)(M:T4):T4:=if e then⟨-M.a,-M.b,-M.c,-M.d⟩else M
abbrev nY(e:Bool)(p:aP):aP:=if e then Q2 p else p
def FQ(e f:Bool)(M:T4):m9 e (m9 f M)=m9 (e.xor f) M:=by cases e<;>cases f<;>simp[m9]
def FR(e:Bool)(M N:T4):(m9 e M).mul N=m9 e (M.mul N):=by cases e;rfl;unfold m9 T4.mul;simp only[if_true];congr 1<;>grind
section
variable {n:Nat}{p q r:aP}
def Vf.act:∀{ks:List Int} {k:Int} {p:aP},Vf n p->Vf n (ae.act k ks p)
 |[],k,p,h=>h.sh k
 |j :: ks,k,p,h=>Vf.act (ks:=ks) (h.sh k).qt
def bA.act:∀{ks:List Int} {k:Int} {p q:aP},Vf n p->bA n p q->bA n (ae.act k ks p) (ae.act k ks q)
 |[],k,p,q,h,a=>bA.sh h a k
 |j :: ks,k,p,q,h,a=>bA.act (ks:=ks) (h.sh k).qt (bA.qt (h.sh k) (bA.sh h a k))
def bA.nY(h:Vf n p)(a:bA n p q)(e:Bool):bA n (ae.nY e p) (ae.nY e q):=by cases e;exact a;exact bA.q2 h a
def K8(h:Vf n p)(e f:Bool):nY e (nY f p)=nY (e.xor f) p:=by cases e<;>cases f;rfl;rfl;rfl;exact FN h
def FT:∀{ks:List Int} {k:Int} {p:aP},Vf n p->bA n (act k ks (Q2 p)) (Q2 (act k ks p))
 |[],k,p,h=>bA.symm (h.sh k).q2 (FO h k)
 |j :: ks,k,p,h=>by
  have h1:bA n (Qt (Sh k (Q2 p))) (Qt (Q2 (Sh k p))):=bA.qt (h.q2.sh k) (bA.symm (h.sh k).q2 (FO h k));have h2:=bA.act (ks:=ks) (k:=j) ((h.q2.sh k).qt) h1;have h3:=FT (ks:=ks) (k:=j) (h.sh k).qt;exact bA.trans (Vf.act (ks:=j :: ks) (k:=k) h.q2) h2 h3
def K9(h:Vf n p):act k ks (Sh j p)=act (j+k) ks p:=by
 cases ks with
 |nil=>exact vI h j k
 |cons i ks=>show act i ks (Qt (Sh k (Sh j p)))=act i ks (Qt (Sh (j+k) p));rw[vI h]
def Ss(h:Vf n p):act k ks (Qt p)=act 0 (k :: ks) p:=by show _=act k ks (Qt (Sh 0 p));rw[oJ h]
def Y6(hj:j=0\/j=1\/j=-1):∃(k':Int) (ks':List Int) (f:Bool),ks'.length<ks.length+2/\kc a (j :: b :: ks)=m9 f (kc k' ks')/\∀{n:Nat} {p:aP},Vf n p->bA n (act a (j :: b :: ks) p) (nY f (act k' ks' p)):=by
 rcases hj with rfl|rfl|rfl
 refine⟨a+b,ks,true,by lk,?_,λ{n p} h=>?_⟩;cases ks with
 |nil=>simp[kc,m9,T4.mul,tS,kl];lk
 |cons i ks =>
  show(((kc i ks).mul (kl b)).mul (kl 0)).mul (kl a)=m9 true ((kc i ks).mul (kl (a+b)));rw[T4.assoc,T4.assoc];have:(kl b).mul ((kl 0).mul (kl a))=m9 true (kl (a+b)):=by simp[m9,T4.mul,kl];lk
  rw[this];unfold m9 T4.mul;simp only[if_true];congr 1<;>grind
 show bA n (act b ks (Qt (Sh 0 (Qt (Sh a p))))) (Q2 (act (a+b) ks p));rw[oJ (h.sh a).qt,FL,<- K9 h];exact FT (h.sh a);refine⟨a-1,(b-1) :: ks,false,by simp,?_,λ{n p} h=>?_⟩;cases ks with
 |nil=>simp[kc,m9,T4.mul,tS,kl];refine⟨?_,?_⟩<;>grind
 |cons i ks =>
  show(((kc i ks).mul (kl b)).mul (kl 1)).mul (kl a)=((kc i ks).mul (kl (b-1))).mul (kl (a-1));rw[T4.assoc,T4.assoc,T4.assoc];have:(kl b).mul ((kl 1).mul (kl a))=(kl (b-1)).mul (kl (a-1)):=by simp[T4.mul,kl];refine⟨?_,?_,?_⟩<;>grind
  rw[this]
 show bA n (act b ks (Qt (Sh 1 (Qt (Sh a p))))) (act (b-1) ks (Qt (Sh (a-1) p)));have h1:=bA.act (ks:=ks) (k:=b) ((h.sh a).qt.sh 1).qt (FP (h.sh a));rw[K9 ((h.sh a).sh (-1)).qt,vI h,show -1+b=b-1 by lk,show a + -1=a-1 by lk]at h1;exact h1;refine⟨a+1,(b+1) :: ks,true,by simp,?_,λ{n p} h=>?_⟩;cases ks with
 |nil=>simp[kc,m9,T4.mul,tS,kl];refine⟨?_,?_⟩<;>grind
 |cons i ks =>
  show(((kc i ks).mul (kl b)).mul (kl (-1))).mul (kl a)=m9 true (((kc i ks).mul (kl (b+1))).mul (kl (a+1)));rw[T4.assoc,T4.assoc,T4.assoc];have:(kl b).mul ((kl (-1)).mul (kl a))=m9 true ((kl (b+1)).mul (kl (a+1))):=by simp[m9,T4.mul,kl];refine⟨?_,?_,?_⟩<;>grind
  rw[this];unfold m9 T4.mul;simp only[if_true];congr 1<;>grind
 show bA n (act b ks (Qt (Sh (-1) (Qt (Sh a p))))) (Q2 (act (b+1) ks (Qt (Sh (a+1) p))));have h1:=bA.act (ks:=ks) (k:=b) ((h.sh a).qt.sh (-1)).qt (A2 (h.sh a));have h2:=FT (ks:=ks) (k:=b) (((h.sh a).sh 1).qt.sh 1);rw[K9 ((h.sh a).sh 1).qt,vI h,show 1+b=b+1 by lk]at h2;have h3:=bA.trans (Vf.act (ks:=ks) (k:=b) ((h.sh a).qt.sh (-1)).qt) h1 (by rw[vI h]at *;exact h2);exact h3
abbrev big:List Int->Prop
 |[]=>True
 |[_]=>True
 |j :: b :: ks=>(2<=j\/j<=-2)/\big (b :: ks)
def Sv:∀(ks:List Int) (k:Int),big ks\/∃(k':Int) (ks':List Int) (f:Bool),ks'.length<ks.length/\kc k ks=m9 f (kc k' ks')/\∀{n:Nat} {p:aP},Vf n p->bA n (act k ks p) (nY f (act k' ks' p))
 |[],_=>.inl trivial
 |[_],_=>.inl trivial
 |j :: b :: ks,k=>by
  by_cases hj:j=0\/j=1\/j=-1;obtain⟨k',ks',f,hl,hm,ha⟩:=Y6 (a:=k) (b:=b) (ks:=ks) hj;exact .inr ⟨k',ks',f,by simpa using hl,hm,ha⟩;rcases Sv (b :: ks) j with h|⟨k',ks',f,hl,hm,ha⟩
  exact .inl ⟨by lk,h⟩;refine .inr ⟨k,k' :: ks',f,by simpa using hl,?_,λ{n p} h=>?_⟩;show(kc j (b :: ks)).mul (kl k)=m9 f ((kc k' ks').mul (kl k));rw[hm,FR];exact ha (h.sh k).qt
def Sw:∀(ks:List Int) (k:Int),big ks->(ks=[]\/2<=k\/k<=-2)->(kc k ks).c.natAbs<(kc k ks).d.natAbs
 |[],k,_,_=>by show(0:Int).natAbs<(1:Int).natAbs;decide
 |j :: ks,k,h,hk=>by
  have hk:2<=k\/k<=-2:=by rcases hk with hk|hk;cases hk;exact hk
  have hj:ks=[]\/2<=j\/j<=-2:=by
   cases ks with
   |nil=>exact .inl rfl
   |cons b ks=>exact .inr h.1
  have hb:big ks:=by
   cases ks with
   |nil=>trivial
   |cons b ks=>exact h.2
  have ih:=Sw ks j hb hj;show((kc j ks).c*0+(kc j ks).d*1).natAbs<((kc j ks).c * -1+(kc j ks).d*k).natAbs;generalize (kc j ks).c=c at ih;generalize (kc j ks).d=d at ih;rw[Int.mul_zero,Zbq,ZcX];have e:(d*k).natAbs=d.natAbs*k.natAbs:=Za5 d k;have e2:d.natAbs*2<=d.natAbs*k.natAbs:=Nat.mul_le_mul_left _ ⋯;lk
def FU(h:big ks)(hn:ks≠[]):(kc k ks).c≠0:=by
 cases ks with
 |nil=>exact absurd rfl hn
 |cons j ks =>
  have hj:ks=[]\/2<=j\/j<=-2:=by
   cases ks with
   |nil=>exact .inl rfl
   |cons b ks=>exact .inr h.1
  have hb:big ks:=by
   cases ks with
   |nil=>trivial
   |cons b ks=>exact h.2
  have ih:=Sw ks j hb hj;show(kc j ks).c*0+(kc j ks).d*1≠0;lk
def Oo:∀(m:Nat) (ks:List Int) (k:Int),ks.length<=m->∀(e:Bool),kc k ks=m9 e T4.one->∀{n:Nat} {p:aP},Vf n p->bA n (act k ks p) (nY e p):=by
 intro m
 induction m with
 |zero =>
  intro ks k hl e hm n p h;have:ks=[]:=ZaX ⋯;subst this;have hm:(⟨1,k,0,1⟩:T4)=m9 e T4.one:=hm;cases e with
  |false =>
   have hk:k=0:=congrArg T4.b hm;subst hk;show bA n (Sh 0 p) p;rw[oJ h];exact bA.refl h
  |true=>exact absurd (congrArg T4.a hm) (show ¬(1:Int)=-1 by decide)
 |succ m ih =>
  intro ks k hl e hm n p h;by_cases hn:ks=[];subst hn;exact ih [] k (ZaL _) e hm h;rcases Sv ks k with hb|⟨k',ks',f,hl',hm',ha⟩
  have:=FU (k:=k) hb hn
  rw[hm]at this;exact absurd (by cases e<;>rfl) this;have hm2:kc k' ks'=m9 (f.xor e) T4.one:=by
   have:m9 f (kc k ks)=kc k' ks':=by rw[hm',FQ,Zc7];rfl
   rw[<- this,hm,FQ]
  have h1:=ih ks' k' ⋯ (f.xor e) hm2 h;have h2:=bA.trans h.act (ha h) (bA.nY h.act h1 f);rw[K8 h,<- Bool.xor_assoc,Zc7,Bool.false_xor]at h2;exact h2
end
abbrev qe:Nat->aP->aP
 |0,p=>p
 |j+1,p=>Qt (qe j p)
abbrev stM(p:aP)(s:Sp):aP:=if s.1=true then Sh s.2 p else qe s.2.toNat p
abbrev dR(p:aP)(w:List Sp):aP:=w.foldl stM p
section
variable {n:Nat}{p q:aP}
def Vf.qe(h:Vf n p):∀j,Vf n (ae.qe j p)
 |0=>h
 |j+1=>(Vf.qe h j).qt
def Vf.st(h:Vf n p)(s:Sp):Vf n (stM p s):=by unfold stM;split;exact h.sh _;exact h.qe _
def Vf.ld:∀{w:List Sp} {p:aP},Vf n p->Vf n (dR p w)
 |[],_,h=>h
 |s :: w,p,h=>Vf.ld (w:=w) (h.st s)
def bA.qe(h:Vf n p)(a:bA n p q):∀j,bA n (ae.qe j p) (ae.qe j q)
 |0=>a
 |j+1=>bA.qt (h.qe j) (bA.qe h a j)
def bA.st(h:Vf n p)(a:bA n p q)(s:Sp):bA n (stM p s) (stM q s):=by unfold stM;split;exact bA.sh h a _;exact bA.qe h a _
def bA.ld:∀{w:List Sp} {p q:aP},Vf n p->bA n p q->bA n (dR p w) (dR q w)
 |[],_,_,_,a=>a
 |s :: w,p,q,h,a=>bA.ld (w:=w) (h.st s) (bA.st h a s)
def wL(p:aP)(u v:List Sp):dR p (u ++ v)=dR (dR p u) v:=by unfold dR;rw[Zbn]
end
def Sx(s:Sp)(w:List Sp):ai (s :: w)=(ai w).mul (j9 s):=by have:=qw [s] w;rw[show ai [s]=(j9 s).mul T4.one from rfl,T4.mul_one]at this;exact this
def Sy(e:Bool)(M N:T4):M.mul (m9 e N)=m9 e (M.mul N):=by cases e;rfl;unfold m9 T4.mul;simp only[if_true];congr 1<;>grind
def A3(ks:List Int)(j k:Int):(kc k ks).mul (tS j)=kc (j+k) ks:=by
 cases ks with
 |nil=>simp[kc,T4.mul,tS]
 |cons i ks =>
  show((kc i ks).mul (kl k)).mul (tS j)=(kc i ks).mul (kl (j+k));rw[T4.assoc]
  congr 1
  simp[T4.mul,kl,tS]
def A4(ks:List Int)(k:Int):(kc k ks).mul T4.qt=kc 0 (k :: ks):=rfl
def Sz:∀{w:List Sp},(∀s∈w,bL s)->∃(k:Int) (ks:List Int) (f:Bool),ai w=m9 f (kc k ks)/\∀{n:Nat} {p:aP},Vf n p->bA n (dR p w) (nY f (act k ks p))
 |[],_=>⟨0,[],false,rfl,λ{n p} h=>by show bA n p (Sh 0 p);rw[oJ h];exact bA.refl h⟩
 |s :: w,hw=>by
  obtain⟨k,ks,f,hm,ha⟩:=Sz (w:=w) λx hx=>hw x (Zas _ hx);have hs:=hw s Zaj;obtain⟨b,j⟩:=s;rw[Sx,hm];cases b with
  |true =>
   refine⟨j+k,ks,f,?_,λ{n p} h=>?_⟩;rw[FR];congr 1;exact A3 ks j k
   have:=ha (h.sh j)
   rw[K9 h]at this;exact this
  |false =>
   have c:j=1\/j=2\/j=3:=t3 (hs.1 rfl);rcases c with rfl|rfl|rfl
   refine⟨0,k :: ks,f,?_,λ{n p} h=>?_⟩;rw[FR];congr 1
   have:=ha h.qt
   rw[Ss h]at this;exact this;refine⟨k,ks,!f,?_,λ{n p} h=>?_⟩;rw[FR,show j9 (false,2)=m9 true T4.one from rfl,Sy,T4.mul_one,FQ];cases f<;>rfl;have h1:=ha h.q2;have h2:=bA.trans (Vf.ld (w:=w) h.q2) h1 (bA.nY (Vf.act h.q2) (FT h) f);have e:nY f (Q2 (act k ks p))=nY (!f) (act k ks p):=by
    have:=K8 (p:=act k ks p) h.act f true;rw[Bool.xor_true]at this;exact this
   rw[e]at h2;exact h2;refine⟨0,k :: ks,!f,?_,λ{n p} h=>?_⟩;have e3:j9 (false,3)=m9 true T4.qt:=rfl;rw[FR,e3,Sy,FQ,A4];cases f<;>rfl;have h1:=ha (p:=Q2 (Qt p)) h.qt.q2;have h2:=bA.trans (Vf.ld (w:=w) h.qt.q2) h1 (bA.nY (Vf.act h.qt.q2) (FT h.qt) f);have e:nY f (Q2 (act k ks (Qt p)))=nY (!f) (act 0 (k :: ks) p):=by
    have:=K8 (p:=act k ks (Qt p)) h.qt.act f true;rw[Bool.xor_true]at this;rw[<- Ss h];exact this
   rw[e]at h2;exact h2
def SA(hw:∀s∈w,bL s)(h1:ai w=T4.one)(h:Vf n p):bA n (dR p w) p:=by
 obtain⟨k,ks,f,hm,ha⟩:=Sz hw;have e:kc k ks=m9 f T4.one:=by
  have:m9 f (ai w)=kc k ks:=by rw[hm,FQ,Zc7];rfl
  rw[<- this,h1]
 have h2:=Oo ks.length ks k (Zag _) f e h;have h3:=bA.trans (Vf.ld h) (ha h) (bA.nY h.act h2 f);rw[K8 h,Zc7]at h3;exact h3
def A5(hw:∀s∈w,bL s):∀s∈iy w,bL s:=λs hs=>by
 unfold iy at hs;obtain⟨t,ht,rfl⟩:=Zau.mp (Zbh.mp hs);exact FH (hw t ht)
def La(hw:∀s∈w,bL s):ai (w ++ iy w)=T4.one:=by
 have hp:∀s∈w ++ iy w,bL s:=λs hs=>by
  rcases ZaA.mp hs with hs|hs
  exact hw s hs;exact A5 hw s hs
 rw[<- Oa hp,YN hw];rfl
def wM(hw:∀s∈w,bL s):(ai w).a*(ai w).d-(ai w).b*(ai w).c=1:=by have:=La hw;rw[qw,xC hw]at this;have h:=congrArg T4.a this;have h:(ai w).d*(ai w).a + -(ai w).b*(ai w).c=1:=h;rw[ZaP (ai w).d,Za3]at h;lk
def SD{M:T4}(h:M.a*M.d-M.b*M.c=1):M.mul M.uB=T4.one/\M.uB.mul M=T4.one:=by constructor<;>(apply T4.ext'<;>simp[T4.mul,T4.uB,T4.one]<;>grind)
def Dk(hu:∀s∈u,bL s)(hw:∀s∈w,bL s)(e:ai u=ai w)(h:Vf n p):bA n (dR p u) (dR p w):=by
 have hb:=A5 hw
 have h1:bA n (dR p (u ++ iy w)) p:=SA (λs hs=>by
  rcases ZaA.mp hs with hs|hs
  exact hu s hs
  exact hb s hs) (by rw[qw,e,<- qw];exact La hw) h
 rw[wL]at h1;have h2:=bA.ld (w:=w) (Vf.ld (Vf.ld h)) h1;rw[<- wL]at h2
 have h3:bA n (dR (dR p u) (iy w ++ w)) (dR p u):=SA (λs hs=>by
  rcases ZaA.mp hs with hs|hs
  exact hb s hs
  exact hw s hs) (by rw[qw,xC hw];exact(SD (wM hw)).1) (Vf.ld h)
 exact bA.trans (Vf.ld h) (bA.symm (Vf.ld (Vf.ld h)) h3) h2
abbrev sQ(p:aP)(n:Nat)(s:Int):aP:=(num p.1 (bf p.1 p.2 s n),num p.2 (bf p.1 p.2 s n))
abbrev aR(n:Nat)(p:aP):aP:=pT ((upto n).map (sQ p n))
def qf(n0:0<n)(h:Vf n p)(a:bA n p q):aR n p=aR n q:=by
 obtain⟨g,hg,rfl⟩:=a;have key:∀s:Int,0<=s->s<(n:Int)->sQ (anew p.1 g,anew p.2 g) n (app g s)=sQ p n s:=λs s0 s1=>by
  show(num (anew p.1 g) (bf (anew p.1 g) (anew p.2 g) (app g s) n),num (anew p.2 g) (bf (anew p.1 g) (anew p.2 g) (app g s) n))=_;have hb:=sd h.1 h.2 s0 s1 n;rw[N8 h.1 h.2 hg s0 s1 n,Se h.1 hg hb,Se h.2 hg hb];rfl
 refine Y0 (λx=>?_) (λe=>?_);constructor;intro hx;obtain⟨s,hs,rfl⟩:=Zau.mp hx;obtain⟨s0,s1⟩:=o5.mp hs;exact Zau.mpr ⟨app g s,o5.mpr (hg.app s0 s1),key s s0 s1⟩;intro hx;obtain⟨t,ht,rfl⟩:=Zau.mp hx;obtain⟨t0,t1⟩:=o5.mp ht;obtain⟨p0,p1⟩:=hg.o6 t0 t1;refine Zau.mpr ⟨app (inv g) t,o5.mpr ⟨p0,p1⟩,?_⟩;have:=key (app (inv g) t) p0 p1;rw[hg.dg t0 t1]at this;exact this.symm
 have:=congrArg List.length e
 rw[Zaa,rj]at this;simp at this;lk
end ae
namespace ae
section
variable {n:Nat}{p q:aP}{g h:List Int}{s t:Int}
structure Wh(n:Nat)(p:aP):Prop where
 v:Vf n p
 all:∀x:Int,0<=x->x<(n:Int)->lK p.1 p.2 x
def Wh.bf(w:Wh n p)(s0:0<=s)(s1:s<(n:Int)):Tn n (bf p.1 p.2 s n):=K0 w.v.1 w.v.2 s0 s1 w.all
def SE(xs ys:List Int)(s:Int)(n:Nat):app (bf xs ys s n) 0=s:=by have:=AV xs ys s 0 n;rw[Zcg]at this;obtain⟨t,e⟩:=this;rw[<- e];rfl
abbrev gF(p q:aP)(n:Nat)(s t:Int):List Int:=a5 (inv (bf p.1 p.2 s n)) (bf q.1 q.2 t n)
abbrev Cg(n:Nat)(p q:aP)(g:List Int):Prop:=Tn n g/\q=(anew p.1 g,anew p.2 g)
def FV(wp:Wh n p)(wq:Wh n q)(s0:0<=s)(s1:s<(n:Int))(t0:0<=t)(t1:t<(n:Int))(e:sQ p n s=sQ q n t):Cg n p q (gF p q n s t)/\app (gF p q n s t) s=t:=by
 have tb:=wp.bf s0 s1;have tc:=wq.bf t0 t1;have n0:0<n:=by lk
 refine⟨⟨tb.aG.a5 tc,?_⟩,?_⟩;unfold sQ at e;have e1:=congrArg Prod.fst e;have e2:=congrArg Prod.snd e;simp only at e1 e2;rw[<- yO wp.v.1 tb,<- yO wq.v.1 tc]at e1;rw[<- yO wp.v.2 tb,<- yO wq.v.2 tc]at e2;have go:∀{a b:List Int},Tn n a->Tn n b->anew a (inv (bf p.1 p.2 s n))=anew b (inv (bf q.1 q.2 t n))->b=anew a (gF p q n s t):=λ{a b} ta tb' e=>by
  unfold gF;rw[<- Tn.oG ta tb.aG tc,e];have:=Tn.oH tb' tc.aG;rw[tc.inv_inv]at this;exact this.symm
 exact Prod.ext (go wp.v.1 wq.v.1 e1) (go wp.v.2 wq.v.2 e2);unfold gF;rw[qv s0 (by rw[Fy,tb.length];exact s1)];have:app (inv (bf p.1 p.2 s n)) s=0:=by
  have:=tb.iE (i:=0) ∅ ⋯;rw[SE]at this;exact this
 rw[this,SE]
def Lb(xs ys:List Int):∀k,∀y∈bf xs ys 0 k,lK xs ys y
 |0,y,hy=>by rw[Zaq.mp (show y∈[(0:Int)]from hy)];exact .zero
 |k+1,y,hy=>by
  have hy':y∈(match (bf xs ys 0 k)[k]? with|some x=>visit xs ys (bf xs ys 0 k) x|none=>bf xs ys 0 k):=hy;split at hy'
  ·next z hz =>
   have yR:=Lb xs ys k z (Zai hz);rcases ud.mp hy' with hy'|rfl
   ·rcases ud.mp hy' with hy'|rfl
    ·exact Lb xs ys k y hy'
    ·exact yR.r
   ·exact yR.u
  ·exact Lb xs ys k y hy'
def yS(w:Wh n p)(v:Vf n q)(n0:0<n)(h:∀F:List Int,F.Nodup->(∀x∈F,0<=x/\x<(n:Int))->Cl q.1 q.2 F->Cl p.1 p.2 F):Wh n q:=by refine⟨v,λx x0 x1=>Lb q.1 q.2 n x ?_⟩;have c:=h (bf q.1 q.2 0 n) (wJ _ _ _ _) (sd v.1 v.2 ∅ ⋯ n) (FE v.1 v.2 ∅ ⋯);refine c.all ?_ (w.all x x0 x1);have:=AV q.1 q.2 0 0 n;rw[Zcg]at this;exact this.subset (show(0:Int)∈[(0:Int)] by simp)
def SF{zs F:List Int}(hz:Tn n zs)(nd:F.Nodup)(hb:∀x∈F,0<=x/\x<(n:Int))(hc:∀x∈F,app zs x∈F):∀x∈F,app (inv zs) x∈F:=λx hx=>by
 obtain⟨x0,x1⟩:=hb x hx;obtain⟨a0,a1⟩:=hz.o6 x0 x1;exact FF hz nd hb hc a0 a1 (by rw[hz.dg x0 x1];exact hx)
def Oq{zs F:List Int}(hc:∀x∈F,app zs x∈F){x:Int}(hx:x∈F):∀k,a7 zs x k∈F
 |0=>hx
 |k+1=>hc _ (Oq hc hx k)
def FW{zs F:List Int}(hz:Tn n zs)(nd:F.Nodup)(hb:∀x∈F,0<=x/\x<(n:Int))(hc:∀x∈F,app zs x∈F)(k:Int){x:Int}(hx:x∈F):pw zs k x∈F:=by unfold pw;split;exact Oq hc hx _;exact Oq (SF hz nd hb hc) hx _
def Wh.sh(w:Wh n p)(n0:0<n)(k:Int):Wh n (Sh k p):=by
 refine yS w (w.v.sh k) n0 λF nd hb hc x hx=>⟨(hc x hx).1,?_⟩;obtain⟨x0,x1⟩:=hb x hx;have h1:∀x∈F,app p.1 x∈F:=λx hx=>(hc x hx).1;have hy:=FW w.v.1 nd hb h1 k hx;have:=(hc _ hy).2;obtain⟨y0,y1⟩:=hb _ hy;have e:app (Sh k p).2 (pw p.1 k x)=app p.2 x:=by
  show app (shr p.1 p.2 k) (pw p.1 k x)=_;unfold shr;have hlen:(cJ p.1 (-k)).length=n:=(w.v.1.cJ (-k)).length;rw[qv y0 (by rw[hlen];exact y1)]
  congr 1
  have e3:=FJ w.v.1 k (-k);rw[Zcx,Oi w.v.1]at e3;have e4:app (a5 (cJ p.1 k) (cJ p.1 (-k))) x=app (upto n) x:=by rw[e3]
  rw[K4 x0 x1,qv x0 (by rw[(w.v.1.cJ k).length];exact x1)]at e4;have e5:app (cJ p.1 k) x=pw p.1 k x:=se x0 (by rw[w.v.1.length];exact x1);rw[e5]at e4;exact e4
 rw[e]at this;exact this
def Wh.qt(w:Wh n p)(n0:0<n):Wh n (Qt p):=by refine yS w w.v.qt n0 λF nd hb hc x hx=>⟨(hc x hx).2,?_⟩;have:=SF w.v.2.aG nd hb (λx hx=>(hc x hx).1) x hx;rw[w.v.2.inv_inv]at this;exact this
abbrev Od(xs ys F:List Int):Prop:=F[0]?=some 0/\∀(k:Nat) (y:Int),F[k+1]?=some y->∃(j:Nat) (x:Int),j<=k/\F[j]?=some x/\(y=app xs x\/y=app ys x)
def Od.one(xs ys:List Int):Od xs ys [0]:=⟨rfl,λk y h=>by cases h⟩
def Od.snoc(h:Od xs ys F)(hx:x∈F)(hy:y=app xs x\/y=app ys x):Od xs ys (F ++ [y]):=by
 have hl:0<F.length:=ZcB hx;refine⟨by rw[Zap hl];exact h.1,λk z hz=>?_⟩;by_cases hk:k+1<F.length;rw[Zap hk]at hz;obtain⟨j,x',hj,hx',e⟩:=h.2 k z hz;exact⟨j,x',hj,by rw[Zap ⋯];exact hx',e⟩;rw[Zax ⋯]at hz;have hz:z=y:=by
  cases h3:k+1-F.length with
  |zero=>rw[h3]at hz;cases hz;rfl
  |succ m=>rw[h3]at hz;cases hz
 obtain⟨j,hj,e⟩:=ZbF hx;have qc:k+1=F.length\/F.length<k+1:=by lk
 refine⟨j,x,by lk,by rw[Zap hj,Zab hj,e],by rw[hz];exact hy⟩
structure Fo(xs ys F:List Int):Prop extends Fd xs ys F where
 od:Od xs ys F
def Fo.one(xs ys:List Int):Fo xs ys [0]:=⟨Fd.one xs ys,Od.one xs ys⟩
end
end ae
namespace ae
section
variable {n:Nat}{xs ys r r' r2:List Int}{i j x y:Int}
abbrev Sm(xs ys r:List Int):Prop:=∀s∈r,app ys (app xs s)=app xs (app ys s)
instance:Decidable (Sm xs ys r):=inferInstanceAs (Decidable (∀s∈r,app ys (app xs s)=app xs (app ys s)))
end
end ae
namespace ae
section
variable {n:Nat}{p q:aP}{g:List Int}
def Wh.qe(w:Wh n p)(n0:0<n):∀j,Wh n (ae.qe j p)
 |0=>w
 |j+1=>(w.qe n0 j).qt n0
def Wh.st(w:Wh n p)(n0:0<n)(s:Sp):Wh n (stM p s):=by unfold stM;split;exact w.sh n0 _;exact w.qe n0 _
def Wh.ld(n0:0<n):∀{w:List Sp} {p:aP},Wh n p->Wh n (dR p w)
 |[],_,h=>h
 |s :: w,_,h=>Wh.ld n0 (w:=w) (h.st n0 s)
end
end ae
namespace ae
abbrev SH(n:Nat)(xs:List Int)(i:Int):List Int:=row xs i (((List.range n).find? λm=>decide (a7 xs i (m+1)=i)).getD 0)
def Y7(tx:Tn n xs)(i0:0<=i)(i1:i<(n:Int)):jO xs i (SH n xs i):=by
 obtain⟨m,nb,bk⟩:=tx.tZ i0 i1;have hm:=tx.kn i0 i1 nb;unfold SH;cases h:(List.range n).find? λm=>decide (a7 xs i (m+1)=i)with
 |none =>
  have:=List.find?_eq_none.mp h m (ZbG.mpr ⋯);exact absurd (decide_eq_true bk) this
 |some k =>
  have hk:=List.find?_some h;have hk:a7 xs i (k+1)=i:=of_decide_eq_true hk;refine⟨k,rfl,λj j1 j2 z=>?_,hk⟩;obtain⟨_,as,bs,e,ha⟩:=List.find?_eq_some_iff_append.mp h;have hj:j-1∈as:=by
   have h1:(List.range n)[j-1]?=some (j-1):=ZaV (by
    have:k∈List.range n:=by rw[e];simp
    have:=ZbG.mp this
    lk)
   have h2:(List.range n)[as.length]?=some k:=by rw[e];simp
   have h3:as.length=k:=by
    obtain⟨q1,q2⟩:=Zac.mp h2;simpa using q2
   rw[e,Zap ⋯]at h1;exact Zai h1
  have:=ha (j-1) hj;rw[show j-1+1=j by lk]at this;simp[z]at this
end ae
namespace ae
abbrev nr(x y:Int):Int:=(2*x+y).fdiv (2*y)
def Y8(a b:Int)(hb:b≠0):(0<b->0<=a-b*a.fdiv b/\a-b*a.fdiv b<b)/\(b<0->b<a-b*a.fdiv b/\a-b*a.fdiv b<=0):=by
 have h1:=Int.mul_ediv_add_emod a b;have h2:=Zbd a hb;have h3:=Int.emod_lt a hb;rw[Int.fdiv_eq_ediv];constructor;intro h;rw[if_pos (.inl ⋯),Int.sub_zero];have:b.natAbs=b.toNat:=by lk
 constructor<;>lk;intro h;by_cases hd:b ∣ a;rw[if_pos (.inr hd),Int.sub_zero]
 have:a % b=0:=Int.emod_eq_zero_of_dvd hd;constructor<;>lk
 rw[if_neg (by rintro(z|z);lk;exact hd z),ZcC];have hne:a % b≠0:=λz=>hd (Int.dvd_of_emod_eq_zero z);constructor<;>lk
def Lc(hy:y≠0):2*(x-nr x y*y).natAbs<=y.natAbs:=by
 obtain⟨h1,h2⟩:=Y8 (2*x+y) (2*y) ⋯;have e:2*x+y-2*y*(2*x+y).fdiv (2*y)=2*(x-nr x y*y)+y:=by
  unfold nr;rw[ZcC,ZaP ((2*x+y).fdiv (2*y)) y,ZaH];lk
 rw[e]at h1 h2;rcases(show 0<y\/y<0 by lk)with h|h
 have:=h1 ⋯;lk
 have:=h2 ⋯;lk
def SI(hy:y≠0):(nr x y).natAbs<=x.natAbs+1:=by
 have h:=Lc (x:=x) hy;have h1:(nr x y*y).natAbs<=x.natAbs+(x-nr x y*y).natAbs:=by lk
 rw[Za5]at h1;have hy1:1<=y.natAbs:=by lk
 by_cases hq:(nr x y).natAbs<=x.natAbs+1;exact hq;exfalso;have h2:(x.natAbs+2)*y.natAbs<=(nr x y).natAbs*y.natAbs:=ZbU _ ⋯;have h3:(x.natAbs+2)*y.natAbs=x.natAbs*y.natAbs+2*y.natAbs:=Nat.add_mul _ _ _;have h4:x.natAbs<=x.natAbs*y.natAbs:=Zcr _ hy1;lk
abbrev nZ(k:Int):List Sp:=if k=0 then[]else[(true,k)]
def yU:∀s∈nZ k,bL s/\s.2=k:=λs hs=>by
 unfold nZ at hs;split at hs
 ·cases hs
 ·next h =>
  rw[Zaq.mp hs];exact⟨⟨(λz=>by cases z),h⟩,rfl⟩
def A6(k:Int):ai (nZ k)=⟨1,k,0,1⟩:=by
 unfold nZ;split
 ·next h=>rw[h];rfl
 ·show(j9 (true,k)).mul T4.one=_
  rw[T4.mul_one];rfl
def A7(k:Int):(nZ k).length<=1:=by unfold nZ;split<;>simp
abbrev sg(x y:Int):List Sp:=nZ (-(nr x y)) ++ [(false,1)]
def Ld(x y:Int):ai (sg x y)=⟨0,-1,1,-(nr x y)⟩:=by unfold sg;rw[wK,A6];apply T4.ext'<;>simp[T4.mul,j9,qp,T4.qt,T4.one]
def SJ(hy:y≠0):∀s∈sg x y,bL s/\s.2.natAbs<=x.natAbs+1:=λs hs=>by
 have h:=SI (x:=x) hy;rcases ZaA.mp hs with hs|hs
 obtain⟨h1,h2⟩:=yU s hs;exact⟨h1,by rw[h2];lk⟩;rw[Zaq.mp hs];exact⟨⟨λ_=>⟨by decide,by decide⟩,by decide⟩,by show 1<=_;lk⟩
def Ot(x y:Int):(sg x y).length<=2:=by unfold sg;rw[Zae];have:=A7 (-(nr x y));simp;lk
structure Dv(M:Nat)(x y:Int)(g:List Sp)(u v:Int)(r:Nat):Prop where
 pr:∀s∈g,bL s/\s.2.natAbs<=M+1
 ln:g.length<=2*r
 ua:u=(ai g).a*x+(ai g).b*y
 vc:v=(ai g).c*x+(ai g).d*y
 ub:u.natAbs<=M
 vb:v.natAbs*2 ^ r<=M
def Dv.zero(hx:x.natAbs<=M)(hy:y.natAbs<=M):Dv M x y [] x y 0 :=
 ⟨(λs hs=>nomatch hs),Zag _,by show x=1*x+0*y;lk,by show y=0*x+1*y;lk,hx,by lk⟩
def Dv.step(h:Dv M x y g u v r)(hv:v≠0):Dv M x y (g ++ sg u v) (-v) (u-nr u v*v) (r+1):=by
 have hl:=Lc (x:=u) hv;have hlen:=Ot u v;have h2:1<=2 ^ r:=Nat.one_le_two_pow;have vM:v.natAbs<=M:=Zal (Zcr _ h2) h.vb;have e:ai (g ++ sg u v)=⟨-(ai g).c,-(ai g).d,(ai g).a-nr u v*(ai g).c,(ai g).b-nr u v*(ai g).d⟩:=by
  rw[qw,Ld];apply T4.ext'<;>simp[T4.mul,Za3]<;>lk
 refine⟨λs hs=>?_,by rw[Zae];have:=h.ln;lk,?_,?_,by lk,?_⟩;rcases ZaA.mp hs with hs|hs
 exact h.pr s hs;obtain⟨h1,h3⟩:=SJ hv s hs;exact⟨h1,by have:=h.ub;lk⟩;rw[e];show -v=-(ai g).c*x + -(ai g).d*y;rw[h.vc,Za3,Za3];lk;rw[e];show u-nr u v*v=((ai g).a-nr u v*(ai g).c)*x+((ai g).b-nr u v*(ai g).d)*y;generalize hq:nr u v=q;rw[h.ua,h.vc,ZcD,ZcD,ZbV,ZaH,ZaH];lk
 have:=h.vb
 have h3:(u-nr u v*v).natAbs*2 ^ (r+1)=2*(u-nr u v*v).natAbs*2 ^ r:=by rw[Nat.pow_succ,ZbY (2 ^ r) 2,<- ZcE,ZbY _ 2]
 rw[h3];exact Zal (ZbU _ hl) this
def Dv.few(h:Dv M x y g u v r)(hv:v≠0)(hM:M<2 ^ k):r<k:=by have h1:2 ^ r<=M:=Zal (Nat.le_mul_of_pos_left _ ⋯) h.vb;exact(Nat.pow_lt_pow_iff_right ∅).mp (ZaS h1 hM)
abbrev qJ(A:T4):List Sp:=if A.a=1 then nZ A.b else(false,2) :: nZ (-A.b)
def Y9(h:a*d=1):(a=1/\d=1)\/(a=-1/\d=-1):=by
 have h1:=congrArg Int.natAbs h;rw[Za5]at h1;have h2:a.natAbs=1:=Nat.eq_one_of_dvd_one ⟨_,h1.symm⟩;rcases(show a=1\/a=-1 by lk)with rfl|rfl
 exact .inl ⟨rfl,by lk⟩;exact .inr ⟨rfl,by lk⟩
def Za(hc:A.c=0)(hd:A.a*A.d-A.b*A.c=1):ai (qJ A)=A:=by
 have h1:A.a*A.d=1:=by rw[hc,Int.mul_zero]at hd;lk
 unfold qJ;rcases Y9 h1 with⟨e1,e2⟩|⟨e1,e2⟩
 rw[if_pos e1,A6];exact T4.ext' e1.symm rfl hc.symm e2.symm;rw[if_neg (by rw[e1];decide),Sx,A6];apply T4.ext';simp[T4.mul,j9,qp,T4.qt,T4.one,e1];simp[T4.mul,j9,qp,T4.qt,T4.one];simp[T4.mul,j9,qp,T4.qt,T4.one,hc];simp[T4.mul,j9,qp,T4.qt,T4.one,e2]
def SK(A:T4):∀s∈qJ A,bL s:=λs hs=>by
 unfold qJ at hs;split at hs;exact(yU s hs).1;rcases ZaC.mp hs with rfl|hs
 exact⟨λ_=>⟨by decide,by decide⟩,by decide⟩;exact(yU s hs).1
def SM(A:T4):(qJ A).length<=2:=by
 unfold qJ;split
 have:=A7 A.b;lk
 have:=A7 (-A.b);simp;lk
def Zb(A B:T4):(A.mul B).a*(A.mul B).d-(A.mul B).b*(A.mul B).c=(A.a*A.d-A.b*A.c)*(B.a*B.d-B.b*B.c):=by
 simp only[T4.mul]
 grind
def Zc(hd:T.a*T.d-T.b*T.c=1)(hg:∀s∈g,bL s)(h0:(ai g).c*T.a+(ai g).d*T.c=0):ai (j8 (qJ ((ai g).mul T) ++ iy g)).reverse=T/\∀s∈(j8 (qJ ((ai g).mul T) ++ iy g)).reverse,bL s:=by
 have Zd:((ai g).mul T).a*((ai g).mul T).d-((ai g).mul T).b*((ai g).mul T).c=1:=by rw[Zb,wM hg,hd];rfl
 have Ze:((ai g).mul T).c=0:=h0;have pr:∀s∈qJ ((ai g).mul T) ++ iy g,bL s:=λs hs=>by
  rcases ZaA.mp hs with hs|hs
  exact SK _ s hs;exact A5 hg s hs
 refine⟨?_,λs hs=>(Sg pr).pr s (Zbh.mp hs)⟩;rw[Oa pr,qw,Za Ze Zd,xC hg,<- T4.assoc,(SD (wM hg)).2,T4.one_mul]
end ae
namespace ae
def SN(hv:v≠0)(h:2*v.natAbs<=u.natAbs):2<=(nr u v).natAbs:=by
 have h1:=Lc (x:=u) hv;generalize nr u v=q at *;by_cases c:2<=q.natAbs;exact c;have hq:q=-1\/q=0\/q=1:=by lk
 rcases hq with rfl|rfl|rfl<;>lk
def FX(ha:A<=max 1 C)(h2:2*C<=Y)(t:Y<=A+W):C<=max 1 W:=by lk
def grow(ha:a.natAbs<=max 1 c.natAbs)(hq:2<=q.natAbs):(-c).natAbs<=max 1 (a-q*c).natAbs:=by
 rw[Int.natAbs_neg];refine FX ha (ZbU _ hq) ?_;rw[<- Za5];have e:q*c=a-(a-q*c):=by lk
 exact Zal (Nat.le_of_eq (congrArg Int.natAbs e)) (Int.natAbs_sub_le _ _)
structure Bv(g:List Sp)(u v:Int)(r:Nat):Prop where
 b0:r=0->(ai g).c=0/\(ai g).d=1
 b1:1<=r->2*v.natAbs<=u.natAbs
 ba:(ai g).a.natAbs<=max 1 (ai g).c.natAbs
 bb:(ai g).b.natAbs<=max 1 (ai g).d.natAbs
 dt:(ai g).a*(ai g).d-(ai g).b*(ai g).c=1
def Bv.zero(x y:Int):Bv [] x y 0:=⟨λ_=>⟨rfl,rfl⟩,λh=>by lk,by decide,by decide,by decide⟩
def Zf(h:a*d-b*c=1):-c*(b-q*d) - -d*(a-q*c)=1:=by
 rw[ZcC,ZcC,Za3,Za3,Za3,Za3,ZaP c b,ZaP d a];have:c*(q*d)=d*(q*c):=by rw[<- ZaH,<- ZaH,ZaP c q,ZaP d q,ZaH,ZaH,ZaP c d]
 lk
def Bv.step(h:Bv g u v r)(hv:v≠0):Bv (g ++ sg u v) (-v) (u-nr u v*v) (r+1):=by
 have e:ai (g ++ sg u v)=⟨-(ai g).c,-(ai g).d,(ai g).a-nr u v*(ai g).c,(ai g).b-nr u v*(ai g).d⟩:=by
  rw[qw,Ld];apply T4.ext'<;>simp[T4.mul,Za3]<;>lk
 have hl:=Lc (x:=u) hv;refine⟨λz=>by lk,λ_=>by lk,?_,?_,?_⟩;rw[e];show(-(ai g).c).natAbs<=max 1 ((ai g).a-nr u v*(ai g).c).natAbs;by_cases hr:r=0;rw[(h.b0 hr).1];simp;exact grow h.ba (SN hv (h.b1 ⋯));rw[e];show(-(ai g).d).natAbs<=max 1 ((ai g).b-nr u v*(ai g).d).natAbs;by_cases hr:r=0;rw[(h.b0 hr).2];simp;lk;exact grow h.bb (SN hv (h.b1 ⋯));rw[e];exact Zf h.dt
def FY(h:a*d-b*c=1)(h0:c*x+d*y=0):x=d*(a*x+b*y)/\y=-(c*(a*x+b*y)):=by
 have e1:d*(a*x+b*y)=(a*d-b*c)*x+b*(c*x+d*y):=by
  rw[ZbV,ZbV,ZcD,<- ZaH,<- ZaH,<- ZaH,<- ZaH,ZaP d a,ZaP d b];lk
 have e2:c*(a*x+b*y)=a*(c*x+d*y)-(a*d-b*c)*y:=by
  rw[ZbV,ZbV,ZcD,<- ZaH,<- ZaH,<- ZaH,<- ZaH,ZaP c a,ZaP c b];lk
 rw[e1,e2,h,h0];constructor<;>lk
def A8(h:a*d-b*c=1)(h0:c*x+d*y=0):Int.gcd x y=(a*x+b*y).natAbs:=by
 obtain⟨hx,hy⟩:=FY h h0;apply Nat.dvd_antisymm;have h1:((Int.gcd x y:Nat):Int) ∣ a*x+b*y:=Int.dvd_add (Int.dvd_trans (Int.gcd_dvd_left x y) (Int.dvd_mul_left _ _)) (Int.dvd_trans (Zcy x y) (Int.dvd_mul_left _ _))
 have:=ZbN.mpr h1
 simpa using this;have d1:(a*x+b*y) ∣ x:=⟨d,by rw[ZaP];exact hx⟩;have d2:(a*x+b*y) ∣ y:=⟨-c,by rw[ZcY,ZaP];exact hy⟩;exact ZbN.mpr d1 |> λq=>Nat.dvd_gcd q (ZbN.mpr d2)
end ae
namespace ae
section
variable {n:Nat}{xs ys r r':List Int}{x:Int}
abbrev Gd(T:T4)(p c:Int):Prop:=T.a*p+T.b*c=1/\T.c*p+T.d*c=0
def A9(hT:T.a*T.d-T.b*T.c=1)(hU:U.a*U.d-U.b*U.c=1)(gT:Gd T p c)(gU:Gd U p c):U=T4.mul ⟨1,T.a*U.b-U.a*T.b,0,1⟩ T:=by
 obtain⟨t1,t2⟩:=FY hT gT.2;obtain⟨u1,u2⟩:=FY hU gU.2;rw[gT.1,ZcX]at t1 t2;rw[gU.1,ZcX]at u1 u2;have e1:U.c=T.c:=by lk
 have e2:U.d=T.d:=by lk
 apply T4.ext';show U.a=1*T.a+(T.a*U.b-U.a*T.b)*T.c;rw[e1,e2]at hU;have:(T.a*U.b-U.a*T.b)*T.c=T.a*(U.b*T.c)-U.a*(T.b*T.c):=by rw[ZcD,ZaH,ZaH]
 rw[this,show U.b*T.c=U.a*T.d-1 by lk,show T.b*T.c=T.a*T.d-1 by lk,ZcC,ZcC,<- ZaH,<- ZaH,ZaP T.a U.a];lk;show U.b=1*T.b+(T.a*U.b-U.a*T.b)*T.d;rw[e1,e2]at hU;have:(T.a*U.b-U.a*T.b)*T.d=U.b*(T.a*T.d)-T.b*(U.a*T.d):=by rw[ZcD,ZaP T.a U.b,ZaP U.a T.b,ZaH,ZaH]
 rw[this,show T.a*T.d=1+T.b*T.c by lk,show U.a*T.d=1+U.b*T.c by lk,ZbV,ZbV,<- ZaH,<- ZaH,ZaP U.b T.b];lk;show U.c=0*T.a+1*T.c;lk;show U.d=0*T.b+1*T.d;lk
end
end ae
namespace ae
section
variable {n:Nat}{p q:aP}
def Zg(vp:Vf n p)(vq:Vf n q)(k:Int)(a:bA n (Sh k p) (Sh k q)):bA n p q:=by have h:=bA.sh (vp.sh k) a (-k);rw[vI vp,vI vq,Zcx,oJ vp,oJ vq]at h;exact h
def Zh(vp:Vf n p)(vq:Vf n q)(a:bA n (Qt p) (Qt q)):bA n p q:=by have h:=bA.qt vp.qt.qt.qt (bA.qt vp.qt.qt (bA.qt vp.qt a));have ep:Qt (Qt (Qt (Qt p)))=p:=FN vp;have eq:Qt (Qt (Qt (Qt q)))=q:=FN vq;rw[ep,eq]at h;exact h
def SO{fs:List aP}{c:List Int}(f:aP->aP)(nd:fs.Nodup)(hl:c.length=fs.length)
  (hc:∀(k:Nat) (p:aP),fs[k]?=some p->∃j:Nat,c[k]?=some (j:Int)/\fs[j]?=some (f p))
  (hf:∀p∈fs,∀q∈fs,f p=f q->p=q):Tn fs.length c:=by
 have key:∀(k:Nat) (x:Int),c[k]?=some x->∃(p:aP) (j:Nat),fs[k]?=some p/\x=(j:Int)/\fs[j]?=some (f p):=λk x hx=>by
  have hk:k<fs.length:=by
   have:=(Zac.mp hx).1;lk
  have e:fs[k]?=some fs[k]:=Zab hk;obtain⟨j,h1,h2⟩:=hc k _ e;rw[hx]at h1;exact⟨_,j,e,Zar h1,h2⟩
 have nc:c.Nodup:=by
  refine ZaM.mpr λi j hi' hj hij e0=>?_;obtain⟨x,hx⟩:∃x,c[j]?=some x:=⟨c[j],Zab hj⟩;have e:c[i]?=some x:=by rw[Zab hi',e0,<- Zab hj];exact hx
  obtain⟨p,a,p1,rfl,p2⟩:=key i x e;obtain⟨q,b,q1,eb,q2⟩:=key j _ hx;have:a=b:=by lk
  subst this;rw[p2]at q2;have e2:=hf p (Zai p1) q (Zai q1) (Zar q2);subst e2;obtain⟨g1,g2⟩:=Zac.mp p1;obtain⟨g3,g4⟩:=Zac.mp q1;exact ZaM.mp nd i j g1 g3 hij (by rw[g2,g4])
 have hb:∀x∈c,0<=x/\x<(c.length:Int):=λx hx=>by
  obtain⟨k,hk⟩:=ZbP hx;obtain⟨p,j,_,rfl,h2⟩:=key k x hk;have:=(Zac.mp h2).1;lk
 have:=KU nc hb;rw[hl]at this;exact this
def Ou(p:aP)(n0:0<n):∃s:Int,0<=s/\s<(n:Int)/\aR n p=sQ p n s:=by
 have h:=(Oe (l:=(upto n).map (sQ p n)) (λe=>by
  have:=congrArg List.length e;rw[Zaa,rj]at this;simp at this
  lk)).1
 obtain⟨s,hs,e⟩:=Zau.mp h;obtain⟨s0,s1⟩:=o5.mp hs;exact⟨s,s0,s1,e.symm⟩
def SQ(wp:Wh n p)(wq:Wh n q)(n0:0<n)(e:aR n p=aR n q):bA n p q:=by obtain⟨s,s0,s1,es⟩:=Ou p n0;obtain⟨t,t0,t1,et⟩:=Ou q n0;rw[es,et]at e;obtain⟨tg,eq⟩:=(FV wp wq s0 s1 t0 t1 e).1;exact⟨_,tg,eq⟩
def Ba(n0:0<n)(k:Int)(wp:Wh n p)(wq:Wh n q)(op:aR n p=p)(oq:aR n q=q)(e:aR n (Sh k p)=aR n (Sh k q)):p=q:=by have a:=Zg wp.v wq.v k (SQ (wp.sh n0 k) (wq.sh n0 k) n0 e);rw[<- op,<- oq];exact qf n0 wp.v a
def Bb(n0:0<n)(wp:Wh n p)(wq:Wh n q)(op:aR n p=p)(oq:aR n q=q)(e:aR n (Qt p)=aR n (Qt q)):p=q:=by have a:=Zh wp.v wq.v (SQ (wp.qt n0) (wq.qt n0) n0 e);rw[<- op,<- oq];exact qf n0 wp.v a
end
end ae
namespace L4
open PySem PySem.Spec L2
inductive D where
 |non|bl (b:Bool)|int (i:Int)|str (x:Str)|ty (n:String)|tup (ds:List D)|ref (i:Nat)
instance:Inhabited D:=⟨.non⟩
inductive O where
 |lst (ds:List D)|rM (ds:List D)|dct (kvs:List (Key×D))|Le (kvs:List (List Int×D))|exc (c:Str) (fs:List (Str×D))|any|lB (lo hi:Int)
@[reducible]def Store:=List O
@[reducible]def ao:=List (Option D)
@[reducible]def Dm(α:Type):=Store->Option (α×Store)
inductive Fl where
 |nx (δ:ao)|bk (δ:ao)|ct (δ:ao)|rt (d:D)
mutual
inductive Rp(K:Zfr)(ρ:List Addr)(H:Hp):V->D->Prop
 |non:Rp K ρ H .non .non
 |bl (b:Bool):Rp K ρ H (.bl b) (.bl b)
 |int (i:Int):Rp K ρ H (.int i) (.int i)
 |str (x:Str):Rp K ρ H (.str x) (.str x)
 |ty (n:String):Rp K ρ H (.ty n) (.ty n)
 |ref {a:Addr} {i:Nat}:ρ[i]?=some a->Rp K ρ H (.ref a) (.ref i)
 |tup {a:Addr} {vs:List V} {ds:List D}:eY K H a vs->cF K ρ H vs ds->Rp K ρ H (.ref a) (.tup ds)
inductive cF(K:Zfr)(ρ:List Addr)(H:Hp):List V->List D->Prop
 |nil:cF K ρ H [] []
 |cons {v:V} {vs:List V} {d:D} {ds:List D}:Rp K ρ H v d->cF K ρ H vs ds->cF K ρ H (v :: vs) (d :: ds)
end
structure Mn(K:Zfr)(ρ:List Addr)(H:Hp)(ρ':List Addr)(H':Hp):Prop where
 r:∀(i:Nat) (a:Addr),ρ[i]?=some a->ρ'[i]?=some a
 t:∀a vs,eY K H a vs->eY K H' a vs
 f:∀a o u,H a=some (.pL o u)->H' a=some (.pL o u)
 x:∀a ws,H a=some (.xd ws)->H' a=some (.xd ws)
section
variable {K:Zfr}{ρ ρ' ρ2:List Addr}{H H' H2:Hp}
def Mn.refl:Mn K ρ H ρ H:=⟨λ_ _ h=>h,λ_ _ h=>h,λ_ _ _ h=>h,λ_ _ h=>h⟩
def Mn.trans(m:Mn K ρ H ρ' H')(n:Mn K ρ' H' ρ2 H2):Mn K ρ H ρ2 H2:=⟨λi a h=>n.r i a (m.r i a h),λa vs h=>n.t a vs (m.t a vs h),λa o u h=>n.f a o u (m.f a o u h),λa ws h=>n.x a ws (m.x a ws h)⟩
mutual
theorem Rp.mn(m:Mn K ρ H ρ' H'):∀{v:V} {d:D},Rp K ρ H v d->Rp K ρ' H' v d
 |_,_,.non=>.non
 |_,_,.bl b=>.bl b
 |_,_,.int i=>.int i
 |_,_,.str x=>.str x
 |_,_,.ty n=>.ty n
 |_,_,.ref e=>.ref (m.r _ _ e)
 |_,_,.tup q r=>.tup (m.t _ _ q) (cF.mn m r)
theorem cF.mn(m:Mn K ρ H ρ' H'):∀{vs:List V} {ds:List D},cF K ρ H vs ds->cF K ρ' H' vs ds
 |_,_,.nil=>.nil
 |_,_,.cons a b=>.cons (Rp.mn m a) (cF.mn m b)
end
def cF.length:∀{vs:List V} {ds:List D},cF K ρ H vs ds->vs.length=ds.length
 |_,_,.nil=>rfl
 |_,_,.cons _ r=>by rw[ZaE,ZaE,r.length]
def cF.got:∀{vs:List V} {ds:List D},cF K ρ H vs ds->∀{i:Nat} {d:D},ds[i]?=some d->∃v,vs[i]?=some v/\Rp K ρ H v d
 |_,_,.nil,i,v,e=>by simp at e
 |_,_,.cons (v:=v) a b,0,d,e=>⟨v,by simp,by have:_=d:=Zar (by simpa using e);rw[<- this];exact a⟩
 |_,_,.cons a b,i+1,d,e=>by
  obtain⟨v,e1,r⟩:=cF.got b (i:=i) (by simpa using e);exact⟨v,by simpa using e1,r⟩
def cF.append:∀{vs:List V} {ds:List D} {ws:List V} {es:List D},cF K ρ H vs ds->cF K ρ H ws es->cF K ρ H (vs ++ ws) (ds ++ es)
 |_,_,_,_,.nil,s=>s
 |_,_,_,_,.cons a b,s=>.cons a (cF.append b s)
def cF.one(r:Rp K ρ H v d):cF K ρ H [v] [d]:=.cons r .nil
def cF.take:∀{vs:List V} {ds:List D} (n:Nat),cF K ρ H vs ds->cF K ρ H (vs.take n) (ds.take n)
 |_,_,0,_=>.nil
 |_,_,_+1,.nil=>.nil
 |_,_,n+1,.cons r t=>.cons r (cF.take n t)
def cF.drop:∀{vs:List V} {ds:List D} (n:Nat),cF K ρ H vs ds->cF K ρ H (vs.drop n) (ds.drop n)
 |_,_,0,r=>r
 |_,_,_+1,.nil=>.nil
 |_,_,n+1,.cons _ t=>cF.drop n t
def cF.set(r:Rp K ρ H v d):∀{vs:List V} {ds:List D} (i:Nat),cF K ρ H vs ds->cF K ρ H (vs.set i v) (ds.set i d)
 |_,_,_,.nil=>.nil
 |_,_,0,.cons _ t=>.cons r t
 |_,_,i+1,.cons q t=>.cons q (cF.set r i t)
def cF.erase:∀{vs:List V} {ds:List D} (i:Nat),cF K ρ H vs ds->cF K ρ H (vs.eraseIdx i) (ds.eraseIdx i)
 |_,_,_,.nil=>.nil
 |_,_,0,.cons _ t=>t
 |_,_,i+1,.cons q t=>.cons q (cF.erase i t)
def cF.flat(r:cF K ρ H vs ds):∀n:Nat,cF K ρ H (List.replicate n vs).flatten (List.replicate n ds).flatten
 |0=>.nil
 |n+1=>by rw[Za8,Za8,ZbO,ZbO];exact r.append (r.flat n)
def cF.ints:∀(ns:List Int),cF K ρ H (ns.map V.int) (ns.map D.int)
 |[]=>.nil
 |n :: r=>.cons (.int n) (cF.ints r)
end
abbrev Rs(K:Zfr)(ρ:List Addr)(H:Hp)(σ:St)(δ:ao):Prop:=σ.length=δ.length/\∀(i:Nat) (d:D),δ[i]?=some (some d)->∃v,σ[i]?=some (some v)/\Rp K ρ H v d
abbrev Rk(K:Zfr)(ρ:List Addr)(H:Hp):List (Key×V)->List (Key×D)->Prop:=Paired λp q=>p.1=q.1/\Rp K ρ H p.2 q.2
abbrev Ru(K:Zfr)(ρ:List Addr)(H:Hp):List (List Int×D)->List (List Int×Addr×Value)->Prop:=Paired λq x=>q.1=x.1/\eY K H x.2.1 (x.1.map V.int)/\∃v,RelV v x.2.2/\Rp K ρ H v q.2
abbrev Xd(K:Zfr)(ρ:List Addr)(H:Hp):Option Addr->List (Str×D)->Prop
 |none,fs=>fs=[]
 |some d,fs=>∃ws,H d=some (.xd ws)/\∀f e,fs.lookup f=some e->∃v,ws.lookup f=some v/\Rp K ρ H v e
abbrev yV(K:Zfr)(ρ:List Addr)(H:Hp)(a:Addr):O->Prop
 |.lst ds=>∃vs,H a=some (.lst vs)/\cF K ρ H vs ds
 |.rM ds=>∃vs,E5 K H a vs/\cF K ρ H vs ds
 |.dct kvs=>∃ws,H a=some (.dK ws)/\Rk K ρ H ws kvs
 |.Le kvs=>∃xs,H a=some (DU a xs)/\Ru K ρ H kvs xs
 |.exc c fs=>∃C dx tr,PySem.W.nsIn K mainGlobals c=some (some (.ref C))/\H a=some (XO a C dx tr)/\Xd K ρ H dx fs
 |.any=>True
 |.lB lo hi=>H a=some (.lB lo hi)
abbrev O.mut:O->Bool
 |.rM _=>false
 |.any=>false
 |_=>true
structure Rl(K:Zfr)(ρ:List Addr)(H:Hp)(st:Store):Prop where
 len:ρ.length=st.length
 nd:∀(i j:Nat) (a:Addr) (o o':O),ρ[i]?=some a->ρ[j]?=some a->st[i]?=some o->st[j]?=some o'->o.mut=true->o'.mut=true->i=j
 obj:∀(i:Nat) (a:Addr) (o:O),ρ[i]?=some a->st[i]?=some o->yV K ρ H a o
section
variable {K:Zfr}{ρ ρ' ρ2:List Addr}{H H' H2:Hp}{st st':Store}{a p:Addr}{i:Nat}{o o':O}{ho:HO}{σ:St}{δ:ao}
def Rs.mn(h:Rs K ρ H σ δ)(m:Mn K ρ H ρ' H'):Rs K ρ' H' σ δ:=⟨h.1,λi d e=>let ⟨v,e1,r⟩:=h.2 i d e;⟨v,e1,r.mn m⟩⟩
def Rk.mn(m:Mn K ρ H ρ' H')(h:Rk K ρ H ws kvs):Rk K ρ' H' ws kvs:=by
 induction h with
 |nil=>exact .nil
 |cons a _ ih=>exact .cons ⟨a.1,a.2.mn m⟩ ih
def Ru.mn(m:Mn K ρ H ρ' H')(h:Ru K ρ H kvs xs):Ru K ρ' H' kvs xs:=by
 induction h with
 |nil=>exact .nil
 |cons a _ ih=>obtain⟨a1,a2,v,a3,a4⟩:=a;exact .cons ⟨a1,m.t _ _ a2,v,a3,a4.mn m⟩ ih
def Xd.mn(m:Mn K ρ H ρ' H')(h:Xd K ρ H dx fs):Xd K ρ' H' dx fs:=by
 cases dx with
 |none=>exact h
 |some d=>obtain⟨ws,e,q⟩:=h;exact⟨ws,m.x _ _ e,λf e' z=>let ⟨v,z1,z2⟩:=q f e' z;⟨v,z1,z2.mn m⟩⟩
def yV.keep(m:Mn K ρ H ρ' H')(h:∀u,H a=some u->H' a=some u)(r:yV K ρ H a o):yV K ρ' H' a o:=by
 cases o with
 |lst ds=>obtain⟨vs,e,q⟩:=r;exact⟨vs,h _ e,q.mn m⟩
 |rM ds =>
  obtain⟨vs,e,q⟩:=r;refine⟨vs,?_,q.mn m⟩;rcases e with⟨u,e⟩|e
  exact .inl ⟨u,h _ e⟩;exact .inr e
 |dct kvs=>obtain⟨ws,e,q⟩:=r;exact⟨ws,h _ e,q.mn m⟩
 |Le kvs=>obtain⟨ws,e,q⟩:=r;exact⟨ws,h _ e,q.mn m⟩
 |exc c fs=>obtain⟨C,dx,tr,n,e,q⟩:=r;exact⟨C,dx,tr,n,h _ e,q.mn m⟩
 |any=>trivial
 |lB lo hi=>exact h _ r
def Mn.same(s:lC H H'):Mn K ρ H ρ H':=⟨λ_ _ h=>h,λ_ _ h=>(Kp.of_same (ch:=[]) s).Nv h,λ_ _ _ h=>s _ _ h,λ_ _ h=>s _ _ h⟩
def Rl.same(l:Rl K ρ H st)(s:lC H H'):Rl K ρ H' st:=⟨l.len,l.nd,λi a o h1 h2=>(l.obj i a o h1 h2).keep (Mn.same s) λu e=>s _ _ e⟩
def Rl.at(l:Rl K ρ H st)(h1:ρ[i]?=some a)(h2:st[i]?=some o)(hm:o.mut=true):∃u,H a=some u/\∀x y,u≠.pL x y:=by
 have r:=l.obj i a o h1 h2;cases o with
 |lst ds=>obtain⟨vs,e,_⟩:=r;exact⟨_,e,λx y z=>nomatch z⟩
 |rM ds=>cases hm
 |dct kvs=>obtain⟨ws,e,_⟩:=r;exact⟨_,e,λx y z=>nomatch z⟩
 |Le kvs=>obtain⟨ws,e,_⟩:=r;exact⟨_,e,λx y z=>by cases z⟩
 |exc c fs=>obtain⟨C,dx,tr,_,e,_⟩:=r;exact⟨_,e,λx y z=>by cases z⟩
 |any=>cases hm
 |lB lo hi=>exact⟨_,r,λx y z=>nomatch z⟩
def Mn.new(hp:H p=none):Mn K ρ H (ρ ++ [p]) (upd H p ho):=⟨λi a h=>by
  obtain⟨hi,_⟩:=Zac.mp h
  rw[Zap hi];exact h,λ_ _ h=>(Kp.of_same (ch:=[]) (lC.up hp)).Nv h,λ_ _ _ h=>lC.up hp _ _ h,λ_ _ h=>lC.up hp _ _ h⟩
def Rl.new(l:Rl K ρ H st)(hp:H p=none)(mk:yV K (ρ ++ [p]) (upd H p ho) p o):Rl K (ρ ++ [p]) (upd H p ho) (st ++ [o]):=by
 have m:Mn K ρ H (ρ ++ [p]) (upd H p ho):=Mn.new hp;have split:∀(i:Nat) (a:Addr) (o':O),(ρ ++ [p])[i]?=some a->(st ++ [o])[i]?=some o'->(ρ[i]?=some a/\st[i]?=some o')\/(i=ρ.length/\a=p/\o'=o):=λi a o' h1 h2=>by
  by_cases hi:i<ρ.length;rw[Zap hi]at h1;rw[Zap (by rw[<- l.len];exact hi)]at h2;exact .inl ⟨h1,h2⟩;obtain⟨hb,_⟩:=Zac.mp h1;rw[Zae,Zbi]at hb;have e:i=ρ.length:=by lk
  subst e;rw[Zax (Zag _),Zbj]at h1;rw[l.len,Zax (Zag _),Zbj]at h2;exact .inr ⟨rfl,(Zar h1).symm,(Zar h2).symm⟩
 refine⟨by rw[Zae,Zae,l.len];rfl,λi j a u u' h1 h2 h3 h4 m1 m2=>?_,λi a u h1 h2=>?_⟩;rcases split i a u h1 h3 with⟨g1,g2⟩|⟨rfl,rfl,rfl⟩<;>rcases split j _ u' h2 h4 with⟨k1,k2⟩|⟨k1,k2,k3⟩
 exact l.nd i j a u u' g1 k1 g2 k2 m1 m2;subst k2;obtain⟨w,e,_⟩:=l.at g1 g2 m1;rw[e]at hp;cases hp;obtain⟨w,e,_⟩:=l.at k1 k2 m2;rw[e]at hp;cases hp;exact k1.symm;rcases split i a u h1 h2 with⟨g1,g2⟩|⟨rfl,rfl,rfl⟩
 exact(l.obj i a u g1 g2).keep m λw e=>lC.up hp _ _ e;exact mk
def Rl.put(l:Rl K ρ H st)(hi:ρ[i]?=some a)(hs:st[i]?=some o)(hm:o.mut=true)(hm':o'.mut=true)(m:Mn K ρ H ρ (upd H a ho))(r:yV K ρ (upd H a ho) a o'):Rl K ρ (upd H a ho) (st.set i o'):=by
 obtain⟨w,ew,nf⟩:=l.at hi hs hm;have Zi:i<st.length:=(Zac.mp hs).1;have old:∀(j:Nat) (u:O),(st.set i o')[j]?=some u->(j=i/\u=o')\/(j≠i/\st[j]?=some u):=λj u h=>by
  by_cases hj:i=j;subst hj;rw[Zao Zi]at h;exact .inl ⟨rfl,(Zar h).symm⟩;rw[Zat hj]at h;exact .inr ⟨λz=>hj z.symm,h⟩
 refine⟨by rw[Zbc];exact l.len,λj k b u u' h1 h2 h3 h4 m1 m2=>?_,λj b u h1 h2=>?_⟩;rcases old j u h3 with⟨rfl,rfl⟩|⟨nj,g3⟩<;>rcases old k u' h4 with⟨rfl,rfl⟩|⟨nk,g4⟩
 rfl;exact l.nd _ _ b o u' h1 h2 hs g4 hm m2;exact l.nd _ _ b u o h1 h2 g3 hs m1 hm;exact l.nd _ _ b u u' h1 h2 g3 g4 m1 m2;rcases old j u h2 with⟨rfl,rfl⟩|⟨nj,g2⟩
 rw[hi]at h1;cases h1;exact r;by_cases hb:b=a;subst hb;cases u with
 |rM ds =>
  obtain⟨vs,e,q⟩:=l.obj j b _ h1 g2;refine⟨vs,?_,q.mn m⟩;rcases e with⟨x,e⟩|e
  rw[ew]at e;cases e;exact absurd rfl (nf _ _);exact .inr e
 |lst ds=>exact absurd (l.nd j i b _ o h1 hi g2 hs rfl hm) nj
 |Le ds=>exact absurd (l.nd j i b _ o h1 hi g2 hs rfl hm) nj
 |exc c fs=>exact absurd (l.nd j i b _ o h1 hi g2 hs rfl hm) nj
 |dct ds=>exact absurd (l.nd j i b _ o h1 hi g2 hs rfl hm) nj
 |any=>trivial
 |lB lo up=>exact absurd (l.nd j i b _ o h1 hi g2 hs rfl hm) nj
 exact(l.obj j b u h1 g2).keep m λw e=>by rw[ml hb];exact e
def Mn.put(e:H a=some (.lst xs)):Mn K ρ H ρ (upd H a ho):=⟨λ_ _ h=>h,λb vs h=>(Kp.put (ch:=[a]) (o:=ho) Kp.refl (by simp) e).Nv h,λb o u h=>by rw[ml (λz=>by rw[z,e]at h;cases h)];exact h,λb ws h=>by rw[ml (λz=>by rw[z,e]at h;cases h)];exact h⟩
def Mn.putD(e:H a=some (.dK ws)):Mn K ρ H ρ (upd H a ho):=⟨λ_ _ h=>h,λb vs q=>by
 have ne:∀u,H b=some u->(∀w,u≠.dK w)->b≠a:=λu hu n z=>by rw[z,e]at hu;cases hu;exact n _ rfl
 rcases q with(q|⟨o,q⟩)|q
 exact .inl (.inl (by rw[ml (ne _ q λw z=>nomatch z)];exact q));exact .inl (.inr ⟨o,by rw[ml (ne _ q λw z=>nomatch z)];exact q⟩)
 exact .inr q,λb o u h=>by rw[ml (λz=>by rw[z,e]at h;cases h)];exact h,λb ws h=>by rw[ml (λz=>by rw[z,e]at h;cases h)];exact h⟩
def Rl.newL(l:Rl K ρ H st)(hp:H p=none)(r:cF K ρ H vs ds):Rl K (ρ ++ [p]) (upd H p (.lst vs)) (st ++ [.lst ds]):=l.new hp ⟨vs,uG,r.mn (Mn.new hp)⟩
def Rl.newD(l:Rl K ρ H st)(hp:H p=none)(r:Rk K ρ H vs ds):Rl K (ρ ++ [p]) (upd H p (.dK vs)) (st ++ [.dct ds]):=l.new hp ⟨vs,uG,r.mn (Mn.new hp)⟩
def newR(l:Rl K ρ H st)(v:D:=.ref st.length):(ρ ++ [p])[st.length]?=some p:=by rw[<- l.len,Zax (Zag _),Zbj];rfl
def Rl.putL(l:Rl K ρ H st)(hi:ρ[i]?=some a)(hs:st[i]?=some (.lst xs))(r:cF K ρ H vs ds):Rl K ρ (upd H a (.lst vs)) (st.set i (.lst ds))/\Mn K ρ H ρ (upd H a (.lst vs)):=by obtain⟨ws,e,_⟩:=l.obj i a _ hi hs;have m:Mn K ρ H ρ (upd H a (.lst vs)):=Mn.put e;exact⟨l.put hi hs rfl rfl m ⟨vs,uG,r.mn m⟩,m⟩
def Rl.Bc(l:Rl K ρ H st)(hi:ρ[i]?=some a)(hs:st[i]?=some (.dct xs))(r:Rk K ρ H vs ds):Rl K ρ (upd H a (.dK vs)) (st.set i (.dct ds))/\Mn K ρ H ρ (upd H a (.dK vs)):=by obtain⟨ws,e,_⟩:=l.obj i a _ hi hs;have m:Mn K ρ H ρ (upd H a (.dK vs)):=Mn.putD e;exact⟨l.put hi hs rfl rfl m ⟨vs,uG,r.mn m⟩,m⟩
abbrev items(st:Store)(i:Nat):Option (List D):=match st[i]? with
 |some (.lst ds)=>some ds
 |some (.rM ds)=>some ds
 |_=>none
def Rl.items(l:Rl K ρ H st)(hi:ρ[i]?=some a)(h:items st i=some ds):∃vs,j5 K H a vs/\cF K ρ H vs ds:=by
 unfold L4.items at h;split at h
 ·next ds' hs=>cases h;obtain⟨vs,e,r⟩:=l.obj i a _ hi hs;exact⟨vs,.inl (.inl e),r⟩
 ·next ds' hs=>cases h;obtain⟨vs,e,r⟩:=l.obj i a _ hi hs;exact⟨vs,e.sq,r⟩
 ·cases h
end
abbrev So(K:Zfr){α β:Type}(R:List Addr->Hp->α->β->Prop)(t:St->Hp->(α->Hp->Prop)->Prop)(f:ao->Dm β):Prop :=
 ∀(ρ:List Addr) (σ:St) (H:Hp) (δ:ao) (st:Store) (b:β) (st':Store) (Q:α->Hp->Prop),Rl K ρ H st->Rs K ρ H σ δ->f δ st=some (b,st') ->
  (∀a H' ρ',Mn K ρ H ρ' H'->Rl K ρ' H' st'->R ρ' H' a b->Q a H')->t σ H Q
@[reducible]def fW(K:Zfr)(t:TE)(f:ao->Dm D):Prop:=So K (Rp K) t f
@[reducible]def sR(K:Zfr)(t:TT)(f:ao->Dm Bool):Prop:=So K (λ_ _=>Eq) t f
@[reducible]def ug(K:Zfr)(t:TA)(f:ao->Dm (List D)):Prop:=So K (cF K) t f
@[reducible]def Lf(K:Zfr)(t:TO)(f:ao->Dm (Option Int)):Prop:=So K (λ_ _=>Eq) t f
abbrev Ov(K:Zfr)(r:V->Hp->VK->Prop)(g:D->Dm D):Prop :=
 ∀(ρ:List Addr) (H:Hp) (st:Store) (x:V) (a:D) (b:D) (st':Store) (Q:VK),Rl K ρ H st->Rp K ρ H x a->g a st=some (b,st')->(∀v H' ρ',Mn K ρ H ρ' H'->Rl K ρ' H' st'->Rp K ρ' H' v b->Q v H')->r x H Q
abbrev oX(K:Zfr)(r:R2)(g:D->D->Dm D):Prop :=
 ∀(ρ:List Addr) (H:Hp) (st:Store) (x y:V) (a c:D) (b:D) (st':Store) (Q:VK),Rl K ρ H st->Rp K ρ H x a->Rp K ρ H y c->g a c st=some (b,st')->(∀v H' ρ',Mn K ρ H ρ' H'->Rl K ρ' H' st'->Rp K ρ' H' v b->Q v H')->r x y H Q
abbrev si(K:Zfr)(r:List V->Hp->VK->Prop)(g:List D->Dm D):Prop :=
 ∀(ρ:List Addr) (H:Hp) (st:Store) (xs:List V) (as:List D) (b:D) (st':Store) (Q:VK),Rl K ρ H st->cF K ρ H xs as->g as st=some (b,st')->(∀v H' ρ',Mn K ρ H ρ' H'->Rl K ρ' H' st'->Rp K ρ' H' v b->Q v H')->r xs H Q
abbrev yW(K:Zfr)(T:String)(r:V->List V->Hp->VK->Prop)(g:D->List D->Dm D):Prop :=
 ∀(ρ:List Addr) (H:Hp) (st:Store) (x:V) (xs:List V) (a:D) (as:List D) (b:D) (st':Store) (Q:VK),Rl K ρ H st->Rp K ρ H x a->cF K ρ H xs as->g a as st=some (b,st')->(∀v H' ρ',Mn K ρ H ρ' H'->Rl K ρ' H' st'->Rp K ρ' H' v b->Q v H')->r x xs H Q
abbrev bnd{α β:Type}(m:Option (α×Store))(k:α->Dm β):Option (β×Store):=match m with
 |some (a,st)=>k a st
 |none=>none
def d9{α β:Type}{m:Option (α×Store)}{k:α->Dm β}{r:β×Store}(h:bnd m k=some r):∃a st,m=some (a,st)/\k a st=some r:=by
 cases m with
 |none=>cases h
 |some p=>exact⟨p.1,p.2,rfl,h⟩
section
variable {K:Zfr}
abbrev ag(i:Nat):ao->Dm D:=λδ st=>match δ[i]? with
 |some (some d)=>some (d,st)
 |_=>none
def b6(i:Nat):fW K (xg i) (ag i):=by
 intro ρ σ H δ st b st' Q l rs e q;unfold ag at e;split at e
 ·next d hd=>cases e;obtain⟨v,ev,r⟩:=rs.2 i _ hd;exact⟨v,ev,q v H ρ .refl l r⟩
 ·cases e
abbrev fC(d:D):ao->Dm D:=λ_ st=>some (d,st)
def uC(h:∀ρ H,Rp K ρ H v d):fW K (tC v) (fC d):=by intro ρ σ H δ st b st' Q l rs e q;cases e;exact q v H ρ .refl l (h ρ H)
def nD(i:Int):fW K (tC (.int i)) (fC (.int i)):=uC λ_ _=>.int i
def Dl(b:Bool):fW K (tC (.bl b)) (fC (.bl b)):=uC λ_ _=>.bl b
def Lg(x:Str):fW K (tC (.str x)) (fC (.str x)):=uC λ_ _=>.str x
def SR:fW K (tC .non) (fC .non):=uC λ_ _=>.non
def yX(n:String):fW K (tC (.ty n)) (fC (.ty n)):=uC λ_ _=>.ty n
abbrev av(g:D->D->Dm D)(fa fb:ao->Dm D):ao->Dm D:=λδ st=>bnd (fa δ st) λa st1=>bnd (fb δ st1) λb st2=>g a b st2
def lz(hr:oX K r g)(ha:fW K ta fa)(hb:fW K tb fb):fW K (EB r ta tb) (av g fa fb):=by intro ρ σ H δ st b st' Q l rs e q;obtain⟨a,st1,e1,e⟩:=d9 e;obtain⟨c,st2,e2,e⟩:=d9 e;refine ha ρ σ H δ st a st1 _ l rs e1 λx H1 ρ1 m1 l1 r1=>hb ρ1 σ H1 δ st1 c st2 _ l1 (rs.mn m1) e2 λy H2 ρ2 m2 l2 r2=>?_;exact hr ρ2 H2 st2 x y a c b st' Q l2 (r1.mn m2) r2 e λv H3 ρ3 m3 l3 r3=>q v H3 ρ3 ((m1.trans m2).trans m3) l3 r3
abbrev rN(g:D->Dm D)(fa:ao->Dm D):ao->Dm D:=λδ st=>bnd (fa δ st) λa st1=>g a st1
def Ow(hr:Ov K r g)(ha:fW K ta fa):fW K (QC r ta) (rN g fa):=by intro ρ σ H δ st b st' Q l rs e q;obtain⟨a,st1,e1,e⟩:=d9 e;exact ha ρ σ H δ st a st1 _ l rs e1 λx H1 ρ1 m1 l1 r1=>hr ρ1 H1 st1 x a b st' Q l1 r1 e λv H3 ρ3 m3 l3 r3=>q v H3 ρ3 (m1.trans m3) l3 r3
abbrev ah:ao->Dm (List D):=λ_ st=>some ([],st)
abbrev af(fa:ao->Dm D)(fr:ao->Dm (List D)):ao->Dm (List D):=λδ st=>bnd (fa δ st) λa st1=>bnd (fr δ st1) λr st2=>some (a :: r,st2)
def d3:ug K EG ah:=by intro ρ σ H δ st b st' Q l rs e q;cases e;exact q [] H ρ .refl l .nil
def bY(ha:fW K ta fa)(hr:ug K tr fr):ug K (yn ta tr) (af fa fr):=by intro ρ σ H δ st b st' Q l rs e q;obtain⟨a,st1,e1,e⟩:=d9 e;obtain⟨c,st2,e2,e⟩:=d9 e;cases e;exact ha ρ σ H δ st a st1 _ l rs e1 λx H1 ρ1 m1 l1 r1=>hr ρ1 σ H1 δ st1 c _ _ l1 (rs.mn m1) e2 λy H2 ρ2 m2 l2 r2=>q _ H2 ρ2 (m1.trans m2) l2 (.cons (r1.mn m2) r2)
abbrev lim(n:Nat):Bool:=Nat.ble n 100000
def Dn(h:lim n=true):n<=sizeLine:=Zal (ZcJ h) ∅
def Ox(h:lim n=true):n<sizeLine:=ZaS (ZcJ h) ∅
abbrev aW(fa:ao->Dm (List D)):ao->Dm D:=λδ st=>bnd (fa δ st) λas st1=>if lim as.length=true then some (.tup as,st1)else none
def uL(ha:ug K ta fa):fW K (EH ta) (aW fa):=by
 intro ρ σ H δ st b st' Q l rs e q;obtain⟨as,st1,e1,e⟩:=d9 e;split at e
 ·next hl =>
  cases e;refine ha ρ σ H δ st as _ _ l rs e1 λxs H1 ρ1 m1 l1 r1=>⟨by rw[r1.length];exact Dn hl,λp hp=>?_⟩;have m2:Mn K ρ1 H1 ρ1 (upd H1 p (.tup xs)):=Mn.same (lC.up hp);exact q _ _ ρ1 (m1.trans m2) (l1.same (lC.up hp)) (.tup (eY.of uG) (r1.mn m2))
 ·cases e
abbrev cO(fa:ao->Dm (List D)):ao->Dm D:=λδ st=>bnd (fa δ st) λas st1=>if lim as.length=true then some (.ref st1.length,st1 ++ [.lst as])else none
def xE(ha:ug K ta fa):fW K (EI ta) (cO fa):=by
 intro ρ σ H δ st b st' Q l rs e q;obtain⟨as,st1,e1,e⟩:=d9 e;split at e
 ·next hl =>
  cases e;refine ha ρ σ H δ st as _ _ l rs e1 λxs H1 ρ1 m1 l1 r1=>⟨by rw[r1.length];exact Dn hl,λp hp=>?_⟩;exact q _ _ _ (m1.trans (Mn.new hp)) (l1.newL hp r1) (.ref (newR l1))
 ·cases e
abbrev aH(fa:ao->Dm D):ao->Dm Bool:=λδ st=>bnd (fa δ st) λa st1=>match a with
 |.bl b=>some (b,st1)
 |_=>none
def uh(ha:fW K ta fa):sR K (ym ta) (aH fa):=by intro ρ σ H δ st b st' Q l rs e q;obtain⟨a,st1,e1,e⟩:=d9 e;cases a<;>simp at e;obtain⟨rfl,rfl⟩:=e;refine ha ρ σ H δ st _ _ _ l rs e1 λx H1 ρ1 m1 l1 r1=>?_;cases r1;exact⟨_,rfl,q _ H1 ρ1 m1 l1 rfl⟩
def Lh(ha:fW K ta fa):sR K (tB ta) (aH fa):=uh ha
abbrev sS(fa:ao->Dm Bool):ao->Dm Bool:=λδ st=>bnd (fa δ st) λa st1=>some (!a,st1)
def Li(ha:sR K ta fa):sR K (Ej ta) (sS fa):=by intro ρ σ H δ st b st' Q l rs e q;obtain⟨a,st1,e1,e⟩:=d9 e;cases e;exact ha ρ σ H δ st _ _ _ l rs e1 λx H1 ρ1 m1 l1 r1=>q _ H1 ρ1 m1 l1 (by rw[r1])
abbrev sU(fa fb:ao->Dm Bool):ao->Dm Bool:=λδ st=>bnd (fa δ st) λa st1=>if a=true then fb δ st1 else some (false,st1)
abbrev vJ(fa fb:ao->Dm Bool):ao->Dm Bool:=λδ st=>bnd (fa δ st) λa st1=>if a=true then some (true,st1)else fb δ st1
def Oy(ha:sR K ta fa)(hb:sR K tb fb):sR K (Ei ta tb) (sU fa fb):=by
 intro ρ σ H δ st b st' Q l rs e q;obtain⟨a,st1,e1,e⟩:=d9 e;refine ha ρ σ H δ st _ _ _ l rs e1 λx H1 ρ1 m1 l1 r1=>?_;subst r1;cases x with
 |true =>
  refine rJ ?_;rw[if_pos rfl]at e;exact hb ρ1 σ H1 δ st1 b st' _ l1 (rs.mn m1) e λy H2 ρ2 m2 l2 r2=>q y H2 ρ2 (m1.trans m2) l2 r2
 |false =>
  refine rH ?_;rw[if_neg Zam]at e;cases e;exact q _ H1 ρ1 m1 l1 rfl
def Lj(ha:sR K ta fa)(hb:sR K tb fb):sR K (Qv ta tb) (vJ fa fb):=by
 intro ρ σ H δ st b st' Q l rs e q;obtain⟨a,st1,e1,e⟩:=d9 e;refine ha ρ σ H δ st _ _ _ l rs e1 λx H1 ρ1 m1 l1 r1=>?_;subst r1;cases x with
 |false =>
  refine rH ?_;rw[if_neg Zam]at e;exact hb ρ1 σ H1 δ st1 b st' _ l1 (rs.mn m1) e λy H2 ρ2 m2 l2 r2=>q y H2 ρ2 (m1.trans m2) l2 r2
 |true =>
  refine rJ ?_;rw[if_pos rfl]at e;cases e;exact q _ H1 ρ1 m1 l1 rfl
abbrev rO(fa fb:ao->Dm D):ao->Dm D:=λδ st=>bnd (aH fa δ st) λa st1=>if a=true then fb δ st1 else some (.bl false,st1)
abbrev xF(fa fb:ao->Dm D):ao->Dm D:=λδ st=>bnd (aH fa δ st) λa st1=>if a=true then some (.bl true,st1)else fb δ st1
abbrev yZ(fa:ao->Dm D):ao->Dm D:=λδ st=>bnd (aH fa δ st) λa st1=>some (.bl (!a),st1)
def SS(h:aH fa δ st=some (b,st1)):fa δ st=some (.bl b,st1):=by obtain⟨a,st2,e1,e⟩:=d9 h;cases a<;>simp at e;obtain⟨rfl,rfl⟩:=e;exact e1
def SU(ha:fW K ta fa)(hb:fW K tb fb):fW K (yg ta tb) (rO fa fb):=by
 intro ρ σ H δ st b st' Q l rs e q;obtain⟨a,st1,e1,e⟩:=d9 e;refine ha ρ σ H δ st _ _ _ l rs (SS e1) λx H1 ρ1 m1 l1 r1=>?_;cases r1;refine⟨a,rfl,?_⟩;cases a with
 |true =>
  refine rJ ?_;rw[if_pos rfl]at e;exact hb ρ1 σ H1 δ st1 b st' _ l1 (rs.mn m1) e λy H2 ρ2 m2 l2 r2=>q y H2 ρ2 (m1.trans m2) l2 r2
 |false =>
  refine rH ?_;rw[if_neg Zam]at e;cases e;exact q _ H1 ρ1 m1 l1 (.bl _)
def SV(ha:fW K ta fa)(hb:fW K tb fb):fW K (El ta tb) (xF fa fb):=by
 intro ρ σ H δ st b st' Q l rs e q;obtain⟨a,st1,e1,e⟩:=d9 e;refine ha ρ σ H δ st _ _ _ l rs (SS e1) λx H1 ρ1 m1 l1 r1=>?_;cases r1;refine⟨a,rfl,?_⟩;cases a with
 |false =>
  refine rH ?_;rw[if_neg Zam]at e;exact hb ρ1 σ H1 δ st1 b st' _ l1 (rs.mn m1) e λy H2 ρ2 m2 l2 r2=>q y H2 ρ2 (m1.trans m2) l2 r2
 |true =>
  refine rJ ?_;rw[if_pos rfl]at e;cases e;exact q _ H1 ρ1 m1 l1 (.bl _)
abbrev fg{β:Type}(c:ao->Dm Bool)(fa fb:ao->Dm β):ao->Dm β:=λδ st=>bnd (c δ st) λa st1=>if a=true then fa δ st1 else fb δ st1
def y3(hc:sR K tc c)(ha:fW K ta fa)(hb:fW K tb fb):fW K (Qx tc ta tb) (fg c fa fb):=by
 intro ρ σ H δ st b st' Q l rs e q;obtain⟨a,st1,e1,e⟩:=d9 e;refine hc ρ σ H δ st _ _ _ l rs e1 λx H1 ρ1 m1 l1 r1=>?_;subst r1;cases x with
 |true =>
  refine rJ ?_;rw[if_pos rfl]at e;exact ha ρ1 σ H1 δ st1 b st' _ l1 (rs.mn m1) e λy H2 ρ2 m2 l2 r2=>q y H2 ρ2 (m1.trans m2) l2 r2
 |false =>
  refine rH ?_;rw[if_neg Zam]at e;exact hb ρ1 σ H1 δ st1 b st' _ l1 (rs.mn m1) e λy H2 ρ2 m2 l2 r2=>q y H2 ρ2 (m1.trans m2) l2 r2
abbrev n4:ao->Dm (Option Int):=λ_ st=>some (none,st)
abbrev qx(fa:ao->Dm D):ao->Dm (Option Int):=λδ st=>bnd (fa δ st) λa st1=>match a with
 |.int i=>some (some i,st1)
 |_=>none
def SW:Lf K tM n4:=by intro ρ σ H δ st b st' Q l rs e q;cases e;exact q _ H ρ .refl l rfl
def SX(ha:fW K ta fa):Lf K (yp ta) (qx fa):=by intro ρ σ H δ st b st' Q l rs e q;obtain⟨a,st1,e1,e⟩:=d9 e;cases a<;>simp at e;obtain⟨rfl,rfl⟩:=e;refine ha ρ σ H δ st _ _ _ l rs e1 λx H1 ρ1 m1 l1 r1=>?_;cases r1;exact⟨_,rfl,q _ H1 ρ1 m1 l1 rfl⟩
abbrev Bd(K:Zfr)(r:V->Option Int->Option Int->Hp->VK->Prop)(g:D->Option Int->Option Int->Dm D):Prop :=
 ∀lo hi,Ov K (λx=>r x lo hi) (λa=>g a lo hi)
abbrev Dp(g:D->Option Int->Option Int->Dm D)(fa:ao->Dm D)(fl fh:ao->Dm (Option Int)):ao->Dm D:=λδ st=>bnd (fa δ st) λa st1=>bnd (fl δ st1) λlo st2=>bnd (fh δ st2) λhi st3=>g a lo hi st3
def y4(hr:Bd K r g)(ha:fW K ta fa)(hl:Lf K tl fl)(hh:Lf K th fh):fW K (QY r ta tl th) (Dp g fa fl fh):=by intro ρ σ H δ st b st' Q l rs e q;obtain⟨a,st1,e1,e⟩:=d9 e;obtain⟨lo,st2,e2,e⟩:=d9 e;obtain⟨hi,st3,e3,e⟩:=d9 e;refine ha ρ σ H δ st a st1 _ l rs e1 λx H1 ρ1 m1 l1 r1=>hl ρ1 σ H1 δ st1 lo st2 _ l1 (rs.mn m1) e2 λy H2 ρ2 m2 l2 r2=>hh ρ2 σ H2 δ st2 hi st3 _ l2 (rs.mn (m1.trans m2)) e3 λz H3 ρ3 m3 l3 r3=>?_;subst r2 r3;exact hr y z ρ3 H3 st3 x a b st' Q l3 (r1.mn (m2.trans m3)) e λv H4 ρ4 m4 l4 r4=>q v H4 ρ4 (((m1.trans m2).trans m3).trans m4) l4 r4
abbrev aM(g:List D->Dm D)(fa:ao->Dm (List D)):ao->Dm D:=λδ st=>bnd (fa δ st) λas st1=>g as st1
def sW(hr:si K r g)(ha:ug K ta fa):fW K (Na r ta) (aM g fa):=by intro ρ σ H δ st b st' Q l rs e q;obtain⟨as,st1,e1,e⟩:=d9 e;exact ha ρ σ H δ st as st1 _ l rs e1 λx H1 ρ1 m1 l1 r1=>hr ρ1 H1 st1 x as b st' Q l1 r1 e λv H3 ρ3 m3 l3 r3=>q v H3 ρ3 (m1.trans m3) l3 r3
abbrev a6(K:Zfr)(n:Nat)(F:List D->Dm D):Sp:=λvs H Q _=>vs.length=n/\∃(ρ:List Addr) (st:Store) (ds:List D) (b:D) (st':Store),Rl K ρ H st/\cF K ρ H vs ds/\F ds st=some (b,st') /\
 ∀v H' ρ',Mn K ρ H ρ' H'->Rl K ρ' H' st'->Rp K ρ' H' v b->Q v H'
def qg(ha:ug K ta fa)(hn:∀δ st as st',fa δ st=some (as,st')->as.length=n):fW K (rF (a6 K n F) [] E ta) (aM F fa):=by intro ρ σ H δ st b st' Q l rs e q;obtain⟨as,st1,e1,e⟩:=d9 e;refine ha ρ σ H δ st as st1 _ l rs e1 λvs H1 ρ1 m1 l1 r1=>⟨?_,ρ1,st1,as,b,st',l1,?_,e,λv H3 ρ3 m3 l3 r3=>q v H3 ρ3 (m1.trans m3) l3 r3⟩;rw[ZaZ,r1.length];exact hn _ _ _ _ e1;rw[ZaZ];exact r1
def SY(h:ah δ st=some (as,st')):as.length=0:=by cases h;rfl
def Dq(hr:∀δ st as st',fr δ st=some (as,st')->as.length=n):∀δ st as st',af fa fr δ st=some (as,st')->as.length=n+1:=λδ st as st' h=>by
 obtain⟨a,st1,e1,e⟩:=d9 h;obtain⟨c,st2,e2,e⟩:=d9 e;cases e;rw[ZaE,hr _ _ _ _ e2]
end
end L4
namespace L4
open PySem PySem.Spec L2
section
variable {K:Zfr}
abbrev y6(h:Int->Int->D):D->D->Dm D
 |.int i,.int j,st=>some (h i j,st)
 |_,_,_=>none
def FZ(hh:∀i j ρ H,Rp K ρ H (gv i j) (h i j)):oX K (ux gv) (y6 h):=by intro ρ H st x y a c b st' Q l rx ry e q;unfold y6 at e;split at e;cases e;cases rx;cases ry;exact⟨_,_,rfl,rfl,q _ H ρ .refl l (hh _ _ ρ H)⟩;cases e
abbrev xG(c:Int->Int->Bool)(h:Int->Int->D):D->D->Dm D
 |.int i,.int j,st=>if c i j=true then some (h i j,st)else none
 |_,_,_=>none
def Dr(hc:∀i j,c i j=true->C i j)(hh:∀i j ρ H,Rp K ρ H (gv i j) (h i j)):oX K (rI C gv) (xG c h):=by
 intro ρ H st x y a d b st' Q l rx ry e q;unfold xG at e;split at e
 ·split at e
  ·next hcc=>cases e;cases rx;cases ry;exact⟨_,_,rfl,rfl,hc _ _ hcc,q _ H ρ .refl l (hh _ _ ρ H)⟩
  ·cases e
 ·cases e
abbrev dh:D->D->Dm D:=y6 λi j=>.int (i+j)
abbrev m8:D->D->Dm D:=y6 λi j=>.int (i-j)
abbrev ke:D->D->Dm D:=xG (λi j=>decide (-18446744073709551616<i/\i<18446744073709551616) || decide (-18446744073709551616<j/\j<18446744073709551616)) λi j=>.int (i*j)
abbrev n5:D->D->Dm D:=xG (λi j=>decide (0<j/\j<1073741824)) λi j=>.int (i / j)
abbrev lE:D->D->Dm D:=xG (λi j=>decide (0<j)) λi j=>.int (i % j)
abbrev vK:D->D->Dm D:=xG (λi j=>decide (0<=j/\j<=1000000/\i.natAbs<18446744073709551616)) λi j=>.int (i ^ j.toNat)
abbrev vL:D->D->Dm D:=y6 λi j=>.bl (decide (i<j))
abbrev Zj:D->D->Dm D:=y6 λi j=>.bl (decide (i<=j))
abbrev y8:D->D->Dm D:=y6 λi j=>.bl (decide (j<i))
abbrev Oz:D->D->Dm D:=y6 λi j=>.bl (decide (j<=i))
def OA:oX K (ux λi j=>.int (i+j)) dh:=FZ λ_ _ _ _=>.int _
def OB:oX K (ux λi j=>.int (i-j)) m8:=FZ λ_ _ _ _=>.int _
def S0:oX K (rI uX λi j=>.int (i*j)) ke:=Dr (λi j h=>by
 rw[Zco,decide_eq_true_eq,decide_eq_true_eq]at h
 exact h) λ_ _ _ _=>.int _
def S1:oX K (rI ED λi j=>.int (i / j)) n5:=Dr (λi j h=>of_decide_eq_true (p:=0<j/\j<1073741824) h) λ_ _ _ _=>.int _
def OC:oX K (rI (λ_ j=>0<j) λi j=>.int (i % j)) lE:=Dr (λi j h=>of_decide_eq_true h) λ_ _ _ _=>.int _
def S2:oX K (rI EE λi j=>.int (i ^ j.toNat)) vK:=Dr (λi j h=>by have h:=of_decide_eq_true (p:=0<=j/\j<=1000000/\i.natAbs<18446744073709551616) h;exact⟨h.1,h.2.1,by lk⟩) λ_ _ _ _=>.int _
def OD:oX K (ux λi j=>.bl (decide (i<j))) vL:=FZ λ_ _ _ _=>.bl _
def OE:oX K (ux λi j=>.bl (decide (j<i))) y8:=FZ λ_ _ _ _=>.bl _
def y9:oX K (ux λi j=>.bl (decide (j<=i))) Oz:=FZ λ_ _ _ _=>.bl _
abbrev lF:D->Dm D
 |.int i,st=>some (.int (-i),st)
 |_,_=>none
def OG:Ov K (rU λi=>.int (-i)) lF:=by intro ρ H st x a b st' Q l rx e q;unfold lF at e;split at e;cases e;cases rx;exact⟨_,rfl,q _ H ρ .refl l (.int _)⟩;cases e
abbrev sV:D->Option V
 |.non=>some .non
 |.bl b=>some (.bl b)
 |.int i=>some (.int i)
 |.str x=>some (.str x)
 |_=>none
def Ds(r:Rp K ρ H x a)(h:sV a=some v):x=v:=by cases r<;>first|(cases h;rfl)|cases h
abbrev jP(neg:Bool):D->D->Dm D:=λa b st=>match sV a,sV b with
 |some x,some y=>if sG x y=true then some (.bl (if neg then !decide (x=y)else decide (x=y)),st)else none
 |_,_=>none
def F0:oX K QE (jP false):=by
 intro ρ H st x y a c b st' Q l rx ry e q;unfold jP at e;split at e
 ·next u v h1 h2 =>
  split at e
  ·next hs=>cases e;cases Ds rx h1;cases Ds ry h2;exact⟨hs,q _ H ρ .refl l (.bl _)⟩
  ·cases e
 ·cases e
def Lk:oX K QF (jP true):=by
 intro ρ H st x y a c b st' Q l rx ry e q;unfold jP at e;split at e
 ·next u v h1 h2 =>
  split at e
  ·next hs=>cases e;cases Ds rx h1;cases Ds ry h2;exact⟨hs,q _ H ρ .refl l (.bl _)⟩
  ·cases e
 ·cases e
abbrev bB{α β:Type}(f:α->Option β):List α->Option (List β)
 |[]=>some []
 |a :: r=>match f a,bB f r with
  |some b,some s=>some (b :: s)
  |_,_=>none
def xH{α β:Type}{f:α->Option β}{a:α}{r:List α}{s:List β}(h:bB f (a :: r)=some s):∃b t,f a=some b/\bB f r=some t/\s=b :: t:=by
 unfold bB at h;split at h
 ·next b t h1 h2=>cases h;exact⟨b,t,h1,h2,rfl⟩
 ·cases h
def xI{α β γ:Type}{f:α->Option β}{g:γ->α}{k:γ->β}(h:∀c,f (g c)=some (k c)):∀l:List γ,bB f (l.map g)=some (l.map k)
 |[]=>rfl
 |c :: r=>by
  show bB f (g c :: r.map g)=_;unfold bB;rw[h c,xI h r];rfl
abbrev fX(st:Store):Nat->D->Option PyData
 |0,_=>none
 |_+1,.non=>some .none
 |_+1,.bl b=>some (.bool b)
 |_+1,.int i=>some (.int i)
 |_+1,.str x=>some (.str x)
 |_+1,.ty _=>none
 |n+1,.tup ds=>(bB (fX st n) ds).map PyData.tuple
 |n+1,.ref i=>match items st i with
  |some ds=>(bB (fX st n) ds).map PyData.list
  |none=>none
def Dt(l:Rl K ρ H st):∀(n:Nat) {v:V} {d:D} {p:PyData},Rp K ρ H v d->fX st n d=some p->Rep K H v p
 |0,_,_,_,_,h=>by simp[fX]at h
 |n+1,v,d,p,r,h=>by
  have all:∀{vs:List V} {ds:List D} {ps:List PyData},cF K ρ H vs ds->bB (fX st n) ds=some ps->iC K H vs ps:=by
   intro vs ds ps rr
   induction vs generalizing ds ps with
   |nil=>intro hm;cases rr;cases hm;exact .nil
   |cons w ws ih =>
    intro hm;cases rr with
    |cons ra rb =>
     obtain⟨b,t,h1,h2,rfl⟩:=xH hm;exact .cons (Dt l n ra h1) (ih rb h2)
  cases r with
  |non=>simp[fX]at h;subst h;exact .non
  |bl b=>simp[fX]at h;subst h;exact .bl b
  |int i=>simp[fX]at h;subst h;exact .int i
  |str x=>simp[fX]at h;subst h;exact .str x
  |ty n=>simp[fX]at h
  |ref hi =>
   simp only[fX]at h;split at h
   ·next ds hd =>
    obtain⟨ps,h1,rfl⟩:=Zaz.mp h;obtain⟨vs,e,rr⟩:=l.items hi hd;exact .lst e (all rr h1)
   ·cases h
  |tup q rr =>
   simp only[fX]at h;obtain⟨ps,h1,rfl⟩:=Zaz.mp h;exact .tup q (all rr h1)
abbrev jQ(neg:Bool):D->D->Dm D:=λa b st=>match fX st 20 a,fX st 20 b with
 |some p,some q=>if(PyData.canLay0 p && PyData.canLay0 q && decide (min p.depth q.depth<=60))=true then some (.bl (if neg then !PyData.eqv p q else PyData.eqv p q),st)else none
 |_,_=>none
def F3(neg:Bool):oX K (Ar K neg) (jQ neg):=by
 intro ρ H st x y a c b st' Q l rx ry e q;unfold jQ at e;split at e
 ·next u v h1 h2 =>
  split at e
  ·next hs =>
   cases e;rw[ZaB,ZaB,decide_eq_true_eq]at hs;exact⟨u,v,Dt l 20 rx h1,Dt l 20 ry h2,hs.1.1,hs.1.2,hs.2,q _ H ρ .refl l (.bl _)⟩
  ·cases e
 ·cases e
def at_of(r:cF K ρ H vs ds)(h:eZ ds i=some d):∃v,eZ vs i=some v/\Rp K ρ H v d:=by
 unfold eZ at h ⊢;rw[r.length];cases hx:oV ds.length i with
 |none=>rw[hx]at h;cases h
 |some j =>
  rw[hx]at h;exact r.got h
abbrev aD:D->D->Dm D
 |.tup ds,.int i,st=>match eZ ds i with
  |some d=>some (d,st)
  |none=>none
 |_,_,_=>none
def sj:oX K (Ai K) aD:=by
 intro ρ H st x y a c b st' Q l rx ry e q;unfold aD at e;split at e
 ·split at e
  ·next d hd =>
   cases e;cases ry;cases rx with
   |tup s r =>
    obtain⟨v,hv,rv⟩:=at_of r hd;exact⟨_,_,_,v,rfl,rfl,s,hv,q v H ρ .refl l rv⟩
  ·cases e
 ·cases e
abbrev bZ:D->D->Dm D
 |.ref r,.int i,st=>match items st r with
  |some ds=>match eZ ds i with
   |some d=>some (d,st)
   |none=>none
  |none=>none
 |_,_,_=>none
def wN:oX K (Ah K) bZ:=by
 intro ρ H st x y a c b st' Q l rx ry e q;unfold bZ at e;split at e
 ·split at e
  ·next ds hi =>
   split at e
   ·next d hd =>
    cases e;cases ry;cases rx with
    |ref hr =>
     obtain⟨vs,s,r⟩:=l.items hr hi;obtain⟨v,hv,rv⟩:=at_of r hd;exact⟨_,_,_,v,rfl,rfl,s,hv,q v H ρ .refl l rv⟩
   ·cases e
  ·cases e
 ·cases e
abbrev Be:D->D->Dm D
 | .str z,.int i,st=>if lim z.length=true then match eZ z.cps.toList i with
   |some c=>some (.str ⟨#[c]⟩,st)
   |none=>none
  else none
 |_,_,_=>none
abbrev cutD(xs:List D)(lo hi:Option Int):List D:=(xs.drop (HT.c4 xs.length 0 lo)).take (HT.c4 xs.length xs.length hi-HT.c4 xs.length 0 lo)
def cF.cut(r:cF K ρ H vs ds)(lo hi:Option Int):cF K ρ H (pP vs lo hi) (cutD ds lo hi):=by unfold pP cutD;rw[r.length];exact(r.drop _).take _
abbrev Bf:D->Option Int->Option Int->Dm D
 |.tup ds,lo,hi,st=>some (.tup (cutD ds lo hi),st)
 |_,_,_,_=>none
def got(l:Rl K ρ H st)(r:cF K ρ H vs ds)(q:∀v H' ρ',Mn K ρ H ρ' H'->Rl K ρ' H' st->Rp K ρ' H' v (.tup ds)->Q v H'):sI K H vs Q :=
 λp H' s e=>q _ H' ρ (Mn.same e) (l.same e) (.tup s (r.mn (Mn.same e)))
def S3:Bd K (yD K) Bf:=by
 intro lo hi ρ H st x a b st' Q l rx e q;cases a with
 |tup ds =>
  cases e;cases rx with
  |tup s r=>exact⟨_,_,rfl,s,got l (r.cut lo hi) q⟩
 |_=>cases e
abbrev vN:D->Option Int->Option Int->Dm D
 |.ref r,lo,hi,st=>match items st r with
  |some ds=>some (.ref st.length,st ++ [.lst (cutD ds lo hi)])
  |none=>none
 |_,_,_,_=>none
def S4:Bd K (EN K) vN:=by
 intro lo hi ρ H st x a b st' Q l rx e q;cases a with
 |ref i =>
  simp only[vN]at e;split at e
  ·next ds hd =>
   cases e;cases rx with
   |ref hr =>
    obtain⟨vs,s,r⟩:=l.items hr hd;exact⟨_,_,rfl,s,λp hp=>q _ _ _ (Mn.new hp) (l.newL hp (r.cut lo hi)) (.ref (newR l))⟩
  ·cases e
 |_=>cases e
abbrev jc:D->D->Dm D
 |.tup a,.tup b,st=>if lim (a.length+b.length)=true then some (.tup (a ++ b),st)else none
 |_,_,_=>none
def S5:oX K (vd K) jc:=by
 intro ρ H st x y a c b st' Q l rx ry e q;unfold jc at e;split at e
 ·split at e
  ·next hl =>
   cases e;cases rx with
   |tup s r =>
    cases ry with
    |tup s' r'=>exact⟨_,_,_,_,rfl,rfl,s,s',by rw[r.length,r'.length];exact Dn hl,got l (r.append r') q⟩
  ·cases e
 ·cases e
abbrev own(st:Store)(i:Nat):Option (List D):=match st[i]? with
 |some (.lst ds)=>some ds
 |_=>none
def ui(h:own st i=some ds):st[i]?=some (.lst ds):=by
 unfold own at h;split at h
 ·next ds' hs=>cases h;exact hs
 ·cases h
abbrev pV:D->D->Dm D
 |.ref i,.ref j,st=>match own st i,own st j with
  |some a,some b=>if lim (a.length+b.length)=true then some (.ref st.length,st ++ [.lst (a ++ b)])else none
  |_,_=>none
 |_,_,_=>none
def S6:oX K EX pV:=by
 intro ρ H st x y a c b st' Q l rx ry e q;unfold pV at e;split at e
 ·split at e
  ·next a b h1 h2 =>
   split at e
   ·next hl =>
    cases e;cases rx with
    |ref hi =>
     cases ry with
     |ref hj =>
      obtain⟨vs,e1,r1⟩:=l.obj _ _ _ hi (ui h1);obtain⟨ws,e2,r2⟩:=l.obj _ _ _ hj (ui h2);exact⟨_,_,_,_,rfl,rfl,e1,e2,by rw[r1.length,r2.length];exact Dn hl,λp hp=>q _ _ _ (Mn.new hp) (l.newL hp (r1.append r2)) (.ref (newR l))⟩
   ·cases e
  ·cases e
 ·cases e
abbrev vO:D->D->Dm D
 |.ref i,.int k,st=>match own st i with
  |some a=>if(decide (-9223372036854775808<=k/\k<9223372036854775808) && lim (a.length*k.toNat))=true then some (.ref st.length,st ++ [.lst (List.replicate k.toNat a).flatten])else none
  |_=>none
 |_,_,_=>none
def S7:∀{ws vs:List V} {ds:List D},cF K ρ H ws ds->bB sV ds=some vs->ws=vs
 |_,_,_,.nil,h=>by cases h;rfl
 |_,_,_,.cons a b,h=>by
  obtain⟨x,t,h1,h2,rfl⟩:=xH h;rw[Ds a h1,S7 b h2]
def S8(h:sV a=some v):nu v=true:=by cases a<;>first|(cases h;rfl)|cases h
def S9:∀{ds:List D} {vs:List V},bB sV ds=some vs->vs.all nu=true
 |[],_,h=>by cases h;rfl
 |d :: r,_,h=>by
  obtain⟨x,t,h1,h2,rfl⟩:=xH h;rw[List.all_cons,S8 h1,S9 h2];rfl
abbrev b7(st:Store):D->Option (List D)
 |.tup ds=>some ds
 |.ref i=>items st i
 |_=>none
def Du(l:Rl K ρ H st)(r:Rp K ρ H x a)(h:b7 st a=some ds):∃p vs,x=.ref p/\(j5 K H p vs\/eY K H p vs)/\cF K ρ H vs ds:=by
 cases r<;>first|(cases h;done)|skip
 ·next hi=>obtain⟨vs,s,r⟩:=l.items hi h;exact⟨_,vs,rfl,.inl s,r⟩
 ·next s r=>cases h;exact⟨_,_,rfl,.inr s,r⟩
abbrev rP(neg:Bool):D->D->Dm D:=λa c st=>match sV a,(b7 st c).bind (bB sV)with
 |some x,some vs=>some (.bl (if neg then !yw x vs else yw x vs),st)
 |_,_=>none
def OH(neg:Bool):oX K (ES K neg) (rP neg):=by
 intro ρ H st x y a c b st' Q l rx ry e q;unfold rP at e;split at e
 ·next u vs h1 h2 =>
  cases e;obtain⟨ds,h3,h4⟩:=Za4.mp h2;obtain⟨p,ws,rfl,s,r⟩:=Du l ry h3;cases Ds rx h1;cases S7 r h4;exact⟨p,_,rfl,s,S8 h1,S9 h4,q _ H ρ .refl l (.bl _)⟩
 ·cases e
def cF.one'(r:cF K ρ H vs [d]):∃v,vs=[v]/\Rp K ρ H v d:=by cases r with|cons a b=>cases b;exact⟨_,rfl,a⟩
def cF.two'(r:cF K ρ H vs [d,e]):∃v w,vs=[v,w]/\Rp K ρ H v d/\Rp K ρ H w e:=by
 cases r with
 |cons a b=>obtain⟨w,rfl,r⟩:=b.one';exact⟨_,_,rfl,a,r⟩
abbrev cV:List D->Dm D
 |[a],st=>match b7 st a with
  |some ds=>some (.int ds.length,st)
  |none=>none
 |_,_=>none
def xJ:si K (λxs H Q=>∃p ys,xs=[.ref p]/\(j5 K H p ys\/eY K H p ys)/\Q (.int ys.length) H) cV:=by
 intro ρ H st xs as b st' Q l rx e q;unfold cV at e;split at e
 ·split at e
  ·next ds hd =>
   cases e;obtain⟨v,rfl,r⟩:=rx.one';obtain⟨p,vs,rfl,s,r⟩:=Du l r hd;exact⟨p,vs,rfl,s,q _ H ρ .refl l (by rw[r.length];exact .int _)⟩
  ·cases e
 ·cases e
abbrev n8:List D->Dm D
 |[a],st=>match b7 st a with
  |some ds=>some (.ref st.length,st ++ [.lst ds])
  |none=>none
 |_,_=>none
def OI:si K (λxs H Q=>∃p ys,xs=[.ref p]/\(j5 K H p ys\/eY K H p ys)/\∀l,H l=none->Q (.ref l) (upd H l (.lst ys))) n8:=by
 intro ρ H st xs as b st' Q l rx e q;unfold n8 at e;split at e
 ·split at e
  ·next ds hd =>
   cases e;obtain⟨v,rfl,r⟩:=rx.one';obtain⟨p,vs,rfl,s,r⟩:=Du l r hd;exact⟨p,vs,rfl,s,λp hp=>q _ _ _ (Mn.new hp) (l.newL hp r) (.ref (newR l))⟩
  ·cases e
 ·cases e
abbrev bF:List D->Dm D
 |[a],st=>match b7 st a with
  |some ds=>some (.tup ds,st)
  |none=>none
 |_,_=>none
def Ll:si K (λxs H Q=>∃p ys,xs=[.ref p]/\((j5 K H p ys/\∀l,H l=none->Q (.ref l) (upd H l (.tup ys)))\/(eY K H p ys/\Q (.ref p) H))) bF:=by
 intro ρ H st xs as b st' Q l rx e q;unfold bF at e;split at e
 ·split at e
  ·next ds hd =>
   cases e;obtain⟨v,rfl,r⟩:=rx.one';obtain⟨p,vs,rfl,s,r'⟩:=Du l r hd;refine⟨p,vs,rfl,?_⟩;rcases s with s|s
   ·exact .inl ⟨s,(got l r' q).new⟩
   ·exact .inr ⟨s,(got l r' q).it s⟩
  ·cases e
 ·cases e
abbrev rQ:List D->Dm D
 |[.int i,.int j],st=>some (.int (if j > i then j else i),st)
 |_,_=>none
abbrev uj:List D->Dm D
 |[.int i,.int j],st=>some (.int (if j<i then j else i),st)
 |_,_=>none
def OJ:si K (λxs H Q=>∃i j,xs=[.int i,.int j]/\Q (.int (if j > i then j else i)) H) rQ:=by intro ρ H st xs as b st' Q l rx e q;unfold rQ at e;split at e;cases e;obtain⟨v,w,rfl,r1,r2⟩:=rx.two';cases r1;cases r2;exact⟨_,_,rfl,q _ H ρ .refl l (.int _)⟩;cases e
def Zk:si K (λxs H Q=>∃i j,xs=[.int i,.int j]/\Q (.int (if j<i then j else i)) H) uj:=by intro ρ H st xs as b st' Q l rx e q;unfold uj at e;split at e;cases e;obtain⟨v,w,rfl,r1,r2⟩:=rx.two';cases r1;cases r2;exact⟨_,_,rfl,q _ H ρ .refl l (.int _)⟩;cases e
abbrev pW:List D->Dm D
 |[.int i],st=>some (.int i,st)
 |[.bl k],st=>some (.int (if k then 1 else 0),st)
 |_,_=>none
def Ta:si K (λxs H Q=>(∃i,xs=[.int i]/\Q (.int i) H)\/∃k,xs=[.bl k]/\Q (.int (if k then 1 else 0)) H) pW:=by intro ρ H st xs as b st' Q l rx e q;unfold pW at e;split at e;cases e;obtain⟨v,rfl,r⟩:=rx.one';cases r;exact .inl ⟨_,rfl,q _ H ρ .refl l (.int _)⟩;cases e;obtain⟨v,rfl,r⟩:=rx.one';cases r;exact .inr ⟨_,rfl,q _ H ρ .refl l (.int _)⟩;cases e
abbrev gM:List D->Dm D
 |[.int j],st=>some (.ref st.length,st ++ [.lB 0 j])
 |_,_=>none
abbrev fE:List D->Dm D
 |[.int i,.int j],st=>some (.ref st.length,st ++ [.lB i j])
 |_,_=>none
def Tb:si K (λxs H Q=>∃j:Int,xs=[.int j]/\∀p,H p=none->Q (.ref p) (upd H p (.lB 0 j))) gM:=by intro ρ H st xs as b st' Q l rx e q;unfold gM at e;split at e;cases e;obtain⟨v,rfl,r⟩:=rx.one';cases r;exact⟨_,rfl,λp hp=>q _ _ _ (Mn.new hp) (l.new hp (show yV K _ _ p (.lB _ _)from uG)) (.ref (newR l))⟩;cases e
def Tc:si K (λxs H Q=>∃i j:Int,xs=[.int i,.int j]/\∀p,H p=none->Q (.ref p) (upd H p (.lB i j))) fE:=by intro ρ H st xs as b st' Q l rx e q;unfold fE at e;split at e;cases e;obtain⟨v,w,rfl,r1,r2⟩:=rx.two';cases r1;cases r2;exact⟨_,_,rfl,λp hp=>q _ _ _ (Mn.new hp) (l.new hp (show yV K _ _ p (.lB _ _)from uG)) (.ref (newR l))⟩;cases e
abbrev aL(lo:Int)(n:Nat):List D:=(List.range n).map λ(k:Nat)=>D.int (lo+k)
def Zl(lo:Int)(n:Nat):cF K ρ H (iB lo n) (aL lo n):=by
 unfold iB aL
 induction (List.range n)with
 |nil=>exact .nil
 |cons a r ih=>exact .cons (.int _) ih
abbrev sr(lo hi:Int):Bool:=decide (-4611686018427387904<=lo/\lo<4611686018427387904/\-4611686018427387904<=hi/\hi<4611686018427387904) && lim (hi-lo).toNat
def Td(h:sr lo hi=true):(-(2 ^ 62)<=lo/\lo<2 ^ 62/\-(2 ^ 62)<=hi/\hi<2 ^ 62)/\(hi-lo).toNat<=2 ^ 24:=by unfold sr at h;rw[ZaB,decide_eq_true_eq]at h;exact⟨by lk,Zal (ZcJ h.2) ∅⟩
abbrev lA(st:Store):D->Option (Int×Int)
 |.ref i=>match st[i]? with
  |some (.lB lo hi)=>some (lo,hi)
  |_=>none
 |_=>none
def Bg(l:Rl K ρ H st)(r:Rp K ρ H x a)(h:lA st a=some (lo,hi)):∃p,x=.ref p/\H p=some (.lB lo hi):=by
 cases r<;>first|(cases h;done)|skip
 ·next hi' =>
  simp only[lA]at h;split at h
  ·next lo' Zm hs=>cases h;exact⟨_,rfl,l.obj _ _ _ hi' hs⟩
  ·cases h
abbrev c5:List D->Dm D
 |[a],st=>match lA st a with
  |some (lo,hi)=>if sr lo hi=true then some (.ref st.length,st ++ [.lst (aL lo (hi-lo).toNat)])else none
  |none=>none
 |_,_=>none
def Te:si K (λxs H Q=>∃p lo hi,xs=[.ref p]/\H p=some (.lB lo hi)/\(-(2 ^ 62)<=lo/\lo<2 ^ 62/\-(2 ^ 62)<=hi/\hi<2 ^ 62)/\(hi-lo).toNat<=2 ^ 24 /\
  ∀l,H l=none->Q (.ref l) (upd H l (.lst (iB lo (hi-lo).toNat)))) c5:=by
 intro ρ H st xs as b st' Q l rx e q;unfold c5 at e;split at e
 ·split at e
  ·next lo hi hd =>
   split at e
   ·next ok =>
    cases e;obtain⟨v,rfl,r⟩:=rx.one';obtain⟨p,rfl,s⟩:=Bg l r hd;exact⟨p,lo,hi,rfl,s,(Td ok).1,(Td ok).2,λp hp=>q _ _ _ (Mn.new hp) (l.newL hp (Zl lo _)) (.ref (newR l))⟩
   ·cases e
  ·cases e
 ·cases e
abbrev xK:List D->Dm D
 |[a],st=>match lA st a with
  |some (lo,hi)=>if sr lo hi=true then some (.tup (aL lo (hi-lo).toNat),st)else none
  |none=>none
 |_,_=>none
abbrev iV:D->Option Int
 |.int i=>some i
 |_=>none
def Lm:∀{ws:List V} {ds:List D} {ns:List Int},cF K ρ H ws ds->bB iV ds=some ns->ws=ns.map V.int
 |_,_,_,.nil,h=>by cases h;rfl
 |_,_,_,.cons a b,h=>by
  obtain⟨x,t,h1,h2,rfl⟩:=xH h;rw[Lm b h2];cases a<;>first|(cases h1;rfl)|cases h1
abbrev sortI(ns:List Int):List Int:=ns.mergeSort λa b=>decide (a<=b)
def Zn(p:ms.Perm ns)(s:ms.Pairwise (·<=·)):ms=sortI ns:=by
 have p2:(sortI ns).Perm ns:=ZcV _ _;have s2:(sortI ns).Pairwise (·<=·):=by
  have:=Zcv (le:=λa b:Int=>decide (a<=b)) (λa b c h1 h2=>by simp only[decide_eq_true_eq]at *;lk) (λa b=>by simp only[Zco,decide_eq_true_eq];lk) ns;exact this.imp λh=>of_decide_eq_true h
 exact(p.trans p2.symm).eq_of_pairwise (λa b _ _ h1 h2=>Int.le_antisymm h1 h2) s s2
abbrev ko:List D->Dm D
 |[a],st=>match (b7 st a).bind (bB iV)with
  |some ns=>if ns.length<64 then some (.ref st.length,st ++ [.lst ((sortI ns).map D.int)])else none
  |none=>none
 |_,_=>none
def Tf:si K (λxs H Q=>∃(p:Addr) (ns:List Int),xs=[.ref p]/\(j5 K H p (ns.map V.int)\/eY K H p (ns.map V.int))/\ns.length<64 /\
  ∀(l:Addr) (ms:List Int),H l=none->ms.Perm ns->ms.Pairwise (·<=·)->Q (.ref l) (upd H l (.lst (ms.map V.int)))) ko:=by
 intro ρ H st xs as b st' Q l rx e q;unfold ko at e;split at e
 ·split at e
  ·next ns hd =>
   split at e
   ·next ok =>
    cases e;obtain⟨v,rfl,r⟩:=rx.one';obtain⟨ds,h3,h4⟩:=Za4.mp hd;obtain⟨p,vs,rfl,s,r⟩:=Du l r h3;cases Lm r h4;exact⟨p,ns,rfl,s,ok,λp ms hp pm sm=>by rw[Zn pm sm];exact q _ _ _ (Mn.new hp) (l.newL hp (cF.ints _)) (.ref (newR l))⟩
   ·cases e
  ·cases e
 ·cases e
abbrev bV:D->Option Bool
 |.bl i=>some i
 |_=>none
abbrev Bh:List D->Dm D
 |[.ref i],st=>match (items st i).bind (bB bV)with
  |some bs=>some (.bl (bs.all id),st)
  |none=>none
 |_,_=>none
abbrev wO(T:String)(st:Store):D->Bool
 |.str _=>T == "str"
 |.tup _=>T == "tuple"
 |.ref i=>T == "list" && (items st i).isSome
 |_=>false
def Tg(l:Rl K ρ H st)(r:Rp K ρ H x a)(h:wO T st a=true):KA K T x H:=by
 cases r<;>first|(cases h;done)|skip
 ·exact eq_of_beq h
 ·next hi =>
  simp only[wO,ZaB]at h;obtain⟨ds,hd⟩:=ZbX.mp h.2;obtain⟨vs,s,_⟩:=l.items hi hd;exact .inl ⟨eq_of_beq h.1,vs,s⟩
 ·next s r=>exact .inr (.inl ⟨eq_of_beq h,_,s⟩)
abbrev lO(T:String)(g:D->List D->Dm D)(fo:ao->Dm D)(fa:ao->Dm (List D)):ao->Dm D:=λδ st=>bnd (fo δ st) λo st1=>if wO T st1 o=true then bnd (fa δ st1) λas st2=>g o as st2 else none
def F4(hr:yW K T r g)(ho:fW K to fo)(ha:ug K ta fa):fW K (Nh K T r to ta) (lO T g fo fa):=by
 intro ρ σ H δ st b st' Q l rs e q;obtain⟨o,st1,e1,e⟩:=d9 e;split at e
 ·next ht =>
  obtain⟨as,st2,e2,e⟩:=d9 e;refine ho ρ σ H δ st o st1 _ l rs e1 λx H1 ρ1 m1 l1 r1=>⟨Tg l1 r1 ht,ha ρ1 σ H1 δ st1 as st2 _ l1 (rs.mn m1) e2 λxs H2 ρ2 m2 l2 r2=>?_⟩;exact hr ρ2 H2 st2 x xs o as b st' Q l2 (r1.mn m2) r2 e λv H3 ρ3 m3 l3 r3=>q v H3 ρ3 ((m1.trans m2).trans m3) l3 r3
 ·cases e
abbrev a8:D->List D->Dm D
 |.ref i,[y],st=>match own st i with
  |some xs=>if lim xs.length=true then some (.non,st.set i (.lst (xs ++ [y])))else none
  |none=>none
 |_,_,_=>none
def F5:yW K "list" tN a8:=by
 intro ρ H st x xs a as b st' Q l rx vP e q;unfold a8 at e;split at e
 ·split at e
  ·next ys hy =>
   split at e
   ·next hl =>
    cases e;obtain⟨v,rfl,r⟩:=vP.one';cases rx with
    |ref hi =>
     obtain⟨vs,e1,r1⟩:=l.obj _ _ _ hi (ui hy);obtain⟨l2,m2⟩:=l.putL hi (ui hy) (r1.append (.one r));exact⟨_,vs,v,rfl,rfl,e1,by rw[r1.length];exact Ox hl,q _ _ ρ m2 l2 .non⟩
   ·cases e
  ·cases e
 ·cases e
abbrev qK:D->List D->Dm D
 |.ref i,[.ref j],st=>match own st i,own st j with
  |some xs,some ys=>if lim (xs.length+ys.length)=true then some (.non,st.set i (.lst (xs ++ ys)))else none
  |_,_=>none
 |_,_,_=>none
abbrev oK:D->List D->Dm D
 |.ref i,[.int k],st=>match own st i with
  | some xs=>if decide (-9223372036854775808<=k/\k < 9223372036854775808)=true then match seqIndex? k xs.length with
    |some j=>match xs[j]? with
     |some y=>some (y,st.set i (.lst (xs.eraseIdx j)))
     |none=>none
    |none=>none
   else none
  |none=>none
 |_,_,_=>none
def Ti:yW K "list" u5 oK:=by
 intro ρ H st x xs a as b st' Q l rx vP e q;unfold oK at e;split at e
 ·split at e
  ·next ys hy =>
   split at e
   ·next hk =>
    split at e
    ·next j hj =>
     split at e
     ·next y hy' =>
      cases e;obtain⟨v,rfl,r⟩:=vP.one';cases r;cases rx with
      |ref hi =>
       obtain⟨vs,e1,r1⟩:=l.obj _ _ _ hi (ui hy);obtain⟨w,hw,rw'⟩:=r1.got hy';obtain⟨l2,m2⟩:=l.putL hi (ui hy) (r1.erase j);have hk:=of_decide_eq_true hk;exact⟨_,vs,_,j,w,rfl,rfl,e1,by lk,by lk,by rw[r1.length];exact hj,hw,q _ _ ρ m2 l2 (rw'.mn m2)⟩
     ·cases e
    ·cases e
   ·cases e
  ·cases e
 ·cases e
abbrev lP:D->List D->Dm D
 |.tup ds,[.int v],st=>match bB iV ds with
  |some ns=>match ns.findIdx? (λi=>decide (i=v))with
   |some j=>some (.int (j:Int),st)
   |none=>none
  |none=>none
 |_,_,_=>none
def Tj:yW K "tuple" (sM K) lP:=by
 intro ρ H st x xs a as b st' Q l rx vP e q;unfold lP at e;split at e
 ·split at e
  ·next ns hn =>
   split at e
   ·next j hj =>
    cases e;obtain⟨v,rfl,r⟩:=vP.one';cases r;cases rx with
    |tup s r =>
     cases Lm r hn;obtain⟨h1,h2,h3⟩:=Zbr.mp hj;refine⟨_,ns,_,j,rfl,rfl,s,?_,λi hi z=>?_,q _ H ρ .refl l (.int _)⟩
     ·rw[Zab h1];exact congrArg some (of_decide_eq_true h2)
     ·have:=h3 i hi
      obtain⟨hl,ez⟩:=Zac.mp z;rw[ez]at this;simp at this
   ·cases e
  ·cases e
 ·cases e
abbrev mB:D->List D->Dm D
 |.ref i,[.int v],st=>match (items st i).bind (bB iV)with
  |some ns=>if v∈ns/\ns.length<=1000/\∀i∈ns,-1000000000000000000<=i/\i<=1000000000000000000 then some (.int (ns.idxOf v:Int),st)else none
  |none=>none
 |_,_,_=>none
abbrev uD(st:Store):D->Option String
 |.non=>some "NoneType"
 |.bl _=>some "bool"
 |.int _=>some "int"
 |.str _=>some "str"
 |.tup _=>some "tuple"
 |.ref i=>match st[i]? with
  |some (.lst _)=>some "list"
  |some (.dct _)=>some "dict"
  |_=>none
 |.ty _=>none
abbrev qL:List D->Dm D
 |[a,.ty c],st=>match uD st a with
  |some T=>if T=c then some (.bl true,st)else none
  |none=>none
 |_,_=>none
end
section
variable {K:Zfr}
def To:oX K EY vO:=by
 intro ρ H st x y a c b st' Q l rx ry e q;unfold vO at e;split at e
 ·split at e
  ·next ds hd =>
   split at e
   ·next ok =>
    cases e;rw[ZaB,decide_eq_true_eq]at ok;cases ry;cases rx with
    |ref hi =>
     obtain⟨vs,e1,r1⟩:=l.obj _ _ _ hi (ui hd);exact⟨_,_,vs,rfl,rfl,e1,by lk,by lk,by rw[r1.length];exact Dn ok.2,λp hp=>q _ _ _ (Mn.new hp) (l.newL hp (r1.flat _)) (.ref (newR l))⟩
   ·cases e
  ·cases e
 ·cases e
def Rs.set(h:Rs K ρ H σ δ)(r:Rp K ρ H v d):Rs K ρ H (σ.set i (some v)) (δ.set i (some d)):=by
 refine⟨by rw[Zbc,Zbc];exact h.1,λj e hj=>?_⟩;by_cases hij:i=j;subst hij;have hl:i<δ.length:=by
  have:=(Zac.mp hj).1
  rwa [Zbc]at this
 rw[Zao hl]at hj;cases hj;exact⟨v,by rw[Zao (by rw[h.1];exact hl)],r⟩;rw[Zat hij]at hj;obtain⟨w,hw,rw'⟩:=h.2 j e hj;exact⟨w,by rw[Zat hij];exact hw,rw'⟩
abbrev Bi(K:Zfr)(g:TG)(f:D->ao->Dm ao):Prop :=
 ∀(ρ:List Addr) (σ:St) (H:Hp) (δ:ao) (st:Store) (v:V) (d:D) (δ':ao) (st':Store) (Q:St->Hp->Prop),Rl K ρ H st->Rs K ρ H σ δ->Rp K ρ H v d->f d δ st=some (δ',st') ->
  (∀σ' H' ρ',Mn K ρ H ρ' H'->Rl K ρ' H' st'->Rs K ρ' H' σ' δ'->Q σ' H')->g v σ H Q
abbrev xM(K:Zfr)(g:uU)(f:List D->ao->Dm ao):Prop :=
 ∀(ρ:List Addr) (σ:St) (H:Hp) (δ:ao) (st:Store) (v:List V) (d:List D) (δ':ao) (st':Store) (Q:St->Hp->Prop),Rl K ρ H st->Rs K ρ H σ δ->cF K ρ H v d->f d δ st=some (δ',st') ->
  (∀σ' H' ρ',Mn K ρ H ρ' H'->Rl K ρ' H' st'->Rs K ρ' H' σ' δ'->Q σ' H')->g v σ H Q
abbrev hName(i:Nat):D->ao->Dm ao:=λd δ st=>some (δ.set i (some d),st)
def lG(i:Nat):Bi K (rC i) (hName i):=by intro ρ σ H δ st v d δ' st' Q l rs r e q;cases e;exact q _ H ρ .refl l (rs.set r)
abbrev lQ:List D->ao->Dm ao
 |[],δ,st=>some (δ,st)
 |_,_,_=>none
abbrev bx(f:D->ao->Dm ao)(g:List D->ao->Dm ao):List D->ao->Dm ao
 |d :: ds,δ,st=>bnd (f d δ st) λδ1 st1=>g ds δ1 st1
 |_,_,_=>none
def Dw:xM K Eu lQ:=by
 intro ρ σ H δ st v d δ' st' Q l rs r e q;cases r with
 |nil=>cases e;exact⟨rfl,q _ H ρ .refl l rs⟩
 |cons a b=>cases e
def wQ(hf:Bi K t f)(hg:xM K u g):xM K (yj t u) (bx f g):=by
 intro ρ σ H δ st v d δ' st' Q l rs r e q;cases r with
 |nil=>cases e
 |cons a b =>
  obtain⟨δ1,st1,e1,e⟩:=d9 e;exact⟨_,_,rfl,hf ρ σ H δ st _ _ δ1 st1 _ l rs a e1 λσ1 H1 ρ1 m1 l1 r1=>hg ρ1 σ1 H1 δ1 st1 _ _ δ' st' Q l1 r1 (b.mn m1) e λσ2 H2 ρ2 m2 l2 r2=>q σ2 H2 ρ2 (m1.trans m2) l2 r2⟩
abbrev lH(n:Nat)(f:List D->ao->Dm ao):D->ao->Dm ao
 |.tup ds,δ,st=>if ds.length=n then f ds δ st else none
 |_,_,_=>none
def Dx(hf:xM K t f):Bi K (zX K n t) (lH n f):=by
 intro ρ σ H δ st v d δ' st' Q l rs r e q;cases r<;>first|(cases e;done)|skip
 ·next s r =>
  simp only[lH]at e;split at e
  ·next hl=>exact⟨_,_,rfl,s,by rw[r.length];exact hl,hf ρ σ H δ st _ _ δ' st' Q l rs r e q⟩
  ·cases e
abbrev hSub(fo fi:ao->Dm D):D->ao->Dm ao:=λd δ st=>bnd (fo δ st) λo st1=>bnd (fi δ st1) λi st2=>match o,i with
 |.ref r,.int k=>match own st2 r with
  |some xs=>match oV xs.length k with
   |some j=>some (δ,st2.set r (.lst (xs.set j d)))
   |none=>none
  |none=>none
 |_,_=>none
def Tp(ho:fW K to fo)(hi:fW K ti fi):Bi K (L2.m8 to ti yt) (hSub fo fi):=by
 intro ρ σ H δ st v d δ' st' Q l rs r e q;obtain⟨o,st1,e1,e⟩:=d9 e;obtain⟨i,st2,e2,e⟩:=d9 e;refine ho ρ σ H δ st o st1 _ l rs e1 λx H1 ρ1 m1 l1 r1=>hi ρ1 σ H1 δ st1 i st2 _ l1 (rs.mn m1) e2 λy H2 ρ2 m2 l2 r2=>?_;split at e
 ·split at e
  ·next xs hx =>
   split at e
   ·next j hj =>
    cases e;cases r2;cases r1 with
    |ref hr =>
     have hr2:=m2.r _ _ hr;obtain⟨vs,e3,r3⟩:=l2.obj _ _ _ hr2 (ui hx);obtain⟨l3,m3⟩:=l2.putL hr2 (ui hx) (r3.set (r.mn (m1.trans m2)) j);exact⟨_,vs,_,j,rfl,rfl,e3,by rw[r3.length];exact hj,q σ _ ρ2 ((m1.trans m2).trans m3) l3 (rs.mn ((m1.trans m2).trans m3))⟩
   ·cases e
  ·cases e
 ·cases e
abbrev Go(K:Zfr)(ρ:List Addr)(H:Hp)(st':Store)(E:Ends):Fl->Prop
 |.nx δ=>∀σ' H' ρ',Mn K ρ H ρ' H'->Rl K ρ' H' st'->Rs K ρ' H' σ' δ->E.nx σ' H'
 |.bk δ=>∀σ' H' ρ',Mn K ρ H ρ' H'->Rl K ρ' H' st'->Rs K ρ' H' σ' δ->E.bk σ' H'
 |.ct δ=>∀σ' H' ρ',Mn K ρ H ρ' H'->Rl K ρ' H' st'->Rs K ρ' H' σ' δ->E.ct σ' H'
 |.rt d=>∀v H' ρ',Mn K ρ H ρ' H'->Rl K ρ' H' st'->Rp K ρ' H' v d->E.rt v H'
def Go.mn(g:Go K ρ H st' E fl)(m:Mn K ρ H ρ1 H1):Go K ρ1 H1 st' E fl:=by cases fl<;>exactλv H' ρ' m' l r=>g v H' ρ' (m.trans m') l r
abbrev rl(K:Zfr)(t:TS)(f:ao->Dm Fl):Prop :=
 ∀(ρ:List Addr) (σ:St) (H:Hp) (δ:ao) (st:Store) (fl:Fl) (st':Store) (E:Ends),Rl K ρ H st->Rs K ρ H σ δ->f δ st=some (fl,st')->Go K ρ H st' E fl->t E σ H
abbrev aX:ao->Dm Fl:=λδ st=>some (.nx δ,st)
def wR:rl K yh aX:=by intro ρ σ H δ st fl st' E l rs e g;cases e;exact g σ H ρ .refl l rs
abbrev aC(f g:ao->Dm Fl):ao->Dm Fl:=λδ st=>bnd (f δ st) λfl st1=>match fl with
 |.nx δ1=>g δ1 st1
 |x=>some (x,st1)
def ng(hf:rl K t f)(hg:rl K u g):rl K (En t u) (aC f g):=by
 intro ρ σ H δ st fl st' E l rs e q;obtain⟨x,st1,e1,e⟩:=d9 e;refine hf ρ σ H δ st x st1 _ l rs e1 ?_;cases x with
 |nx δ1=>exactλσ1 H1 ρ1 m1 l1 r1=>hg ρ1 σ1 H1 δ1 st1 fl st' E l1 r1 e (q.mn m1)
 |bk δ1=>cases e;exact q
 |ct δ1=>cases e;exact q
 |rt d=>cases e;exact q
def wU(hc:sR K c fc)(hf:rl K t f)(hg:rl K u g):rl K (Ep c t u) (fg fc f g):=by
 intro ρ σ H δ st fl st' E l rs e q;obtain⟨a,st1,e1,e⟩:=d9 e;refine hc ρ σ H δ st _ _ _ l rs e1 λx H1 ρ1 m1 l1 r1=>?_;subst r1;cases x with
 |true =>
  refine rJ ?_;rw[if_pos rfl]at e;exact hf ρ1 σ H1 δ st1 fl st' E l1 (rs.mn m1) e (q.mn m1)
 |false =>
  refine rH ?_;rw[if_neg Zam]at e;exact hg ρ1 σ H1 δ st1 fl st' E l1 (rs.mn m1) e (q.mn m1)
abbrev cP(f:ao->Dm D):ao->Dm Fl:=λδ st=>bnd (f δ st) λ_ st1=>some (.nx δ,st1)
def F6(hf:fW K t f):rl K (yi t) (cP f):=by intro ρ σ H δ st fl st' E l rs e q;obtain⟨a,st1,e1,e⟩:=d9 e;cases e;exact hf ρ σ H δ st a _ _ l rs e1 λx H1 ρ1 m1 l1 r1=>q σ H1 ρ1 m1 l1 (rs.mn m1)
abbrev aQ(f:ao->Dm D):ao->Dm Fl:=λδ st=>bnd (f δ st) λd st1=>some (.rt d,st1)
def vQ(hf:fW K t f):rl K (Eo t) (aQ f):=by intro ρ σ H δ st fl st' E l rs e q;obtain⟨a,st1,e1,e⟩:=d9 e;cases e;exact hf ρ σ H δ st a _ _ l rs e1 λx H1 ρ1 m1 l1 r1=>q x H1 ρ1 m1 l1 r1
abbrev aJ(f:ao->Dm D)(h:D->ao->Dm ao):ao->Dm Fl:=λδ st=>bnd (f δ st) λd st1=>bnd (h d δ st1) λδ1 st2=>some (.nx δ1,st2)
def o8(hf:fW K t f)(hh:Bi K g h):rl K (xh t g) (aJ f h):=by intro ρ σ H δ st fl st' E l rs e q;obtain⟨a,st1,e1,e⟩:=d9 e;obtain⟨δ1,st2,e2,e⟩:=d9 e;cases e;exact hf ρ σ H δ st a st1 _ l rs e1 λx H1 ρ1 m1 l1 r1=>hh ρ1 σ H1 δ st1 x a δ1 _ _ l1 (rs.mn m1) r1 e2 λσ2 H2 ρ2 m2 l2 r2=>q σ2 H2 ρ2 (m1.trans m2) l2 r2
abbrev qM(i j:Nat)(fa:ao->Dm (List D)):ao->Dm Fl:=λδ st=>bnd (fa δ st) λas st1=>match as with
 |[a,b]=>some (.nx ((δ.set i (some a)).set j (some b)),st1)
 |_=>none
def Tq(ha:ug K t fa):rl K (Ew i j t) (qM i j fa):=by intro ρ σ H δ st fl st' E l rs e q;obtain⟨as,st1,e1,e⟩:=d9 e;split at e;cases e;refine ha ρ σ H δ st _ _ _ l rs e1 λx H1 ρ1 m1 l1 r1=>?_;obtain⟨v,w,rfl,r,r'⟩:=r1.two';exact⟨v,w,rfl,q _ H1 ρ1 m1 l1 (((rs.mn m1).set r).set r')⟩;cases e
abbrev iF(c:ao->Dm Bool)(b:ao->Dm Fl):Nat->ao->Dm Fl
 |0,_,_=>none
 | n + 1,δ,st=>bnd (c δ st) λt st1=>if t=true then bnd (b δ st1) λfl st2=>match fl with
   |.nx δ2=>iF c b n δ2 st2
   |.ct δ2=>iF c b n δ2 st2
   |.bk δ2=>some (.nx δ2,st2)
   |.rt d=>some (.rt d,st2)
  else some (.nx δ,st1)
abbrev fuel:Nat:=1000000
abbrev iG(c:ao->Dm Bool)(b:ao->Dm Fl):ao->Dm Fl:=iF c b fuel
def OL(hc:sR K tc c)(hb:rl K tb b):rl K (uV tc tb) (iG c b):=by
 intro ρ σ H δ st fl st' E l rs e q;refine⟨λm σ1 H1=>∃ρ1 δ1 st1,Mn K ρ H ρ1 H1/\Rl K ρ1 H1 st1/\Rs K ρ1 H1 σ1 δ1/\iF c b m δ1 st1=some (fl,st'),⟨fuel,ρ,δ,st,.refl,l,rs,e⟩,?_⟩;rintro m σ1 H1 ⟨ρ1,δ1,st1,m1,l1,za,e1⟩;cases m with
 |zero=>cases e1
 |succ m =>
  obtain⟨t,st2,e2,e1⟩:=d9 e1;refine hc ρ1 σ1 H1 δ1 st1 _ _ _ l1 za e2 λx H2 ρ2 m2 l2 r2=>?_;subst r2;cases x with
  |true =>
   refine rJ ?_;rw[if_pos rfl]at e1;obtain⟨f2,st3,e3,e1⟩:=d9 e1;refine⟨λσ3 H3=>∃m',m' < m+1/\∃ρ1 δ1 st1,Mn K ρ H ρ1 H3/\Rl K ρ1 H3 st1/\Rs K ρ1 H3 σ3 δ1/\iF c b m' δ1 st1=some (fl,st'),λ_ _ h=>h,hb ρ2 σ1 H2 δ1 st2 f2 st3 _ l2 (za.mn m2) e3 ?_⟩;cases f2 with
   |nx δ3=>exactλσ3 H3 ρ3 m3 l3 r3=>⟨m,Zbf m,ρ3,δ3,st3,(m1.trans m2).trans m3,l3,r3,e1⟩
   |ct δ3=>exactλσ3 H3 ρ3 m3 l3 r3=>⟨m,Zbf m,ρ3,δ3,st3,(m1.trans m2).trans m3,l3,r3,e1⟩
   |bk δ3=>cases e1;exact q.mn (m1.trans m2)
   |rt d=>cases e1;exact q.mn (m1.trans m2)
  |false =>
   refine rH ?_;rw[if_neg Zam]at e1;cases e1;exact q.mn (m1.trans m2) σ1 H2 ρ2 .refl l2 (za.mn m2)
inductive Src where
 |fix (ds:List D)|live (i:Nat)|Zo (i:Nat)|zl (i:Nat) (es:List D)|zr (ds:List D) (i:Nat)
abbrev Src.at:Src->Nat->Store->Option (Option D)
 |.fix ds,i,_=>if i<=ds.length then some ds[i]? else none
 |.live r,i,st=>(items st r).map λds=>ds[i]?
 |.Zo r,i,st=>(items st r).bind λds=>if i<=ds.length then some (ds.mapIdx λi d=>D.tup [.int (i:Int),d])[i]? else none
 |.zl r es,i,st=>(items st r).bind λds=>if i<=(List.zipWith (λa b=>D.tup [a,b]) ds es).length then some (List.zipWith (λa b=>D.tup [a,b]) ds es)[i]? else none
 |.zr ds r,i,st=>(items st r).bind λes=>if i<=(List.zipWith (λa b=>D.tup [a,b]) ds es).length then some (List.zipWith (λa b=>D.tup [a,b]) ds es)[i]? else none
def zb(h:Src.at (.fix ds) i st=some o):i<=ds.length/\ds[i]?=o:=by
 simp only[Src.at]at h;split at h
 ·next hl=>exact⟨hl,Zar h⟩
 ·cases h
abbrev F7(K:Zfr)(ρ:List Addr)(H:Hp)(J:It)(S:Src):Prop :=
 ∀(ρ2:List Addr) (H2:Hp) (st2:Store) (i:Nat),Mn K ρ H ρ2 H2->Rl K ρ2 H2 st2 ->
  (S.at i st2=some none->J.stop i H2)/\∀d,S.at i st2=some (some d)->J.go i H2/\∀x H3,J.xj i H2 x H3->Mn K ρ2 H2 ρ2 H3/\Rl K ρ2 H3 st2/\Rp K ρ2 H3 x d
@[reducible]def zc(K:Zfr)(t:TI)(f:ao->Dm Src):Prop:=So K (F7 K) t f
abbrev jR(S:Src)(g:D->ao->Dm ao)(b:ao->Dm Fl):Nat->Nat->ao->Dm Fl
 |0,_,_,_=>none
 |n+1,i,δ,st=>match S.at i st with
  |none=>none
  |some none=>some (.nx δ,st)
  |some (some d)=>bnd (g d δ st) λδ1 st1=>bnd (b δ1 st1) λfl st2=>match fl with
   |.nx δ2=>jR S g b n (i+1) δ2 st2
   |.ct δ2=>jR S g b n (i+1) δ2 st2
   |.bk δ2=>some (.nx δ2,st2)
   |.rt d=>some (.rt d,st2)
abbrev c6(fi:ao->Dm Src)(g:D->ao->Dm ao)(b:ao->Dm Fl):ao->Dm Fl:=λδ st=>bnd (fi δ st) λS st1=>jR S g b fuel 0 δ st1
def zd(hi:zc K wi fi)(hg:Bi K tg g)(hb:rl K tb b):rl K (EA wi tg tb) (c6 fi g b):=by
 intro ρ σ H δ st fl st' E l rs e q;obtain⟨S,ny,e0,e⟩:=d9 e;refine hi ρ σ H δ st S ny _ l rs e0 λJ H0 ρ0 m0 l0 ok=>?_;refine⟨λi m σ1 H1=>∃ρ1 δ1 st1,Mn K ρ0 H0 ρ1 H1/\Rl K ρ1 H1 st1/\Rs K ρ1 H1 σ1 δ1/\jR S g b m i δ1 st1=some (fl,st'),⟨fuel,ρ0,δ,ny,.refl,l0,rs.mn m0,e⟩,?_⟩;rintro i m σ1 H1 ⟨ρ1,δ1,st1,m1,l1,za,e1⟩;cases m with
 |zero=>cases e1
 |succ m =>
  obtain⟨hstop,hgo⟩:=ok ρ1 H1 st1 i m1 l1;unfold jR at e1;split at e1
  ·cases e1
  ·next hs=>cases e1;exact .inl ⟨hstop hs,q.mn (m0.trans m1) σ1 H1 ρ1 .refl l1 za⟩
  ·next d hs =>
   obtain⟨δ2,st2,e2,e1⟩:=d9 e1;obtain⟨f3,st3,e3,e1⟩:=d9 e1;obtain⟨go,xj⟩:=hgo d hs;refine .inr ⟨go,λσ3 H3=>∃m',m' < m+1/\∃ρ1 δ1 st1,Mn K ρ0 H0 ρ1 H3/\Rl K ρ1 H3 st1/\Rs K ρ1 H3 σ3 δ1/\jR S g b m' (i+1) δ1 st1=some (fl,st'),λ_ _ h=>h,λx H2 hy=>?_⟩;obtain⟨m2,l2,r2⟩:=xj x H2 hy;refine hg ρ1 σ1 H2 δ1 st1 x d δ2 st2 _ l2 (za.mn m2) r2 e2 λσ4 H4 ρ4 m4 l4 r4=>hb ρ4 σ4 H4 δ2 st2 f3 st3 _ l4 r4 e3 ?_;have m5:=((m1.trans m2).trans m4);cases f3 with
   |nx δ3=>exactλσ5 H5 ρ5 m6 l5 r5=>⟨m,Zbf m,ρ5,δ3,st3,m5.trans m6,l5,r5,e1⟩
   |ct δ3=>exactλσ5 H5 ρ5 m6 l5 r5=>⟨m,Zbf m,ρ5,δ3,st3,m5.trans m6,l5,r5,e1⟩
   |bk δ3=>cases e1;exact q.mn (m0.trans m5)
   |rt d=>cases e1;exact q.mn (m0.trans m5)
abbrev cQ(fa:ao->Dm D):ao->Dm Src:=λδ st=>bnd (fa δ st) λa st1=>match a with
 |.tup ds=>some (.fix ds,st1)
 |_=>none
def F8(ha:fW K t fa):zc K (Ez K t) (cQ fa):=by
 intro ρ σ H δ st S st' Q l rs e q;obtain⟨a,st1,e1,e⟩:=d9 e;cases a<;>simp at e;obtain⟨rfl,rfl⟩:=e;refine ha ρ σ H δ st _ _ _ l rs e1 λx H1 ρ1 m1 l1 r1=>?_;cases r1 with
 |tup s r =>
  refine⟨_,rfl,⟨_,s⟩,q _ H1 ρ1 m1 l1 λρ2 H2 st2 i m2 l2=>⟨λh=>?_,λd h=>?_⟩⟩;exact⟨_,m2.t _ _ s,by rw[r.length];exact ZaY.mp (zb h).2⟩;obtain⟨v,hv,rv⟩:=r.got (zb h).2;refine⟨⟨_,v,m2.t _ _ s,hv⟩,λx H3 y=>?_⟩;obtain⟨rfl,hx⟩:=y;have:=hx _ (m2.t _ _ s);rw[hv]at this;cases this;exact⟨.refl,l2,rv.mn m2⟩
abbrev oM(fa:ao->Dm D):ao->Dm Src:=λδ st=>bnd (fa δ st) λa st1=>match a with
 |.ref i=>match items st1 i with
  |some _=>some (.live i,st1)
  |none=>none
 |_=>none
def Tr(ha:fW K t fa):zc K (uW K t) (oM fa):=by
 intro ρ σ H δ st S st' Q l rs e q;obtain⟨a,st1,e1,e⟩:=d9 e;split at e
 ·next k =>
  split at e
  ·next ds hd =>
   cases e;refine ha ρ σ H δ st _ _ _ l rs e1 λx H1 ρ1 m1 l1 r1=>?_;cases r1 with
   |ref hi =>
    obtain⟨vs,s,r⟩:=l1.items hi hd;refine⟨_,rfl,⟨_,s⟩,q _ H1 ρ1 m1 l1 λρ2 H2 st2 i m2 l2=>⟨λh=>?_,λd h=>?_⟩⟩
    ·obtain⟨Zp,hd2,h⟩:=Zaz.mp h
     obtain⟨Ts,s2,r2⟩:=l2.items (m2.r _ _ hi) hd2;exact⟨Ts,s2,by rw[r2.length];exact ZaY.mp h⟩
    ·obtain⟨Zp,hd2,h⟩:=Zaz.mp h
     obtain⟨Ts,s2,r2⟩:=l2.items (m2.r _ _ hi) hd2;obtain⟨v,hv,rv⟩:=r2.got h;refine⟨⟨_,v,s2,hv⟩,λx H3 y=>?_⟩;obtain⟨rfl,hx⟩:=y;have:=hx _ s2;rw[hv]at this;cases this;exact⟨.refl,l2,rv⟩
  ·cases e
 ·cases e
abbrev b9(fa:ao->Dm (List D)):ao->Dm Src:=λδ st=>bnd (fa δ st) λas st1=>match as with
 |[.int j]=>if decide (-4611686018427387904<=j/\j<4611686018427387904)=true then some (.fix (aL 0 j.toNat),st1)else none
 |_=>none
abbrev qN(fa:ao->Dm (List D)):ao->Dm Src:=λδ st=>bnd (fa δ st) λas st1=>match as with
 |[.int i,.int j]=>if decide ((-4611686018427387904<=i/\i<4611686018427387904)/\-4611686018427387904<=j/\j<4611686018427387904)=true then some (.fix (aL i (j-i).toNat),st1)else none
 |_=>none
def gO(lo:Int)(n:Nat):(aL lo n).length=n:=by simp[aL]
def xN(h:k<n):(aL lo n)[k]?=some (.int (lo+k)):=by simp[aL,h]
def Tt(lo:Int)(n:Nat):F7 K ρ H (Ey lo n) (.fix (aL lo n)):=by
 intro ρ2 H2 st2 i m2 l2;refine⟨λh=>?_,λd h=>?_⟩
 have:=ZaY.mp (zb h).2
 rw[gO]at this;exact this;have h:=(zb h).2;have hl:=(Zac.mp h).1;rw[gO]at hl;rw[xN hl]at h;cases h;refine⟨hl,λx H3 y=>?_⟩;obtain⟨rfl,rfl⟩:=y;exact⟨.refl,l2,.int _⟩
def Ln(ha:ug K t fa):zc K (yk t) (b9 fa):=by
 intro ρ σ H δ st S st' Q l rs e q;obtain⟨as,st1,e1,e⟩:=d9 e;split at e
 ·split at e
  ·next ok =>
   cases e;have ok:=of_decide_eq_true ok;refine ha ρ σ H δ st _ _ _ l rs e1 λx H1 ρ1 m1 l1 r1=>?_;obtain⟨v,rfl,r⟩:=r1.one';cases r;exact⟨_,rfl,by lk,by lk,q _ H1 ρ1 m1 l1 (Tt 0 _)⟩
  ·cases e
 ·cases e
def Zq(ha:ug K t fa):zc K (yl t) (qN fa):=by
 intro ρ σ H δ st S st' Q l rs e q;obtain⟨as,st1,e1,e⟩:=d9 e;split at e
 ·split at e
  ·next ok =>
   cases e;have ok:=of_decide_eq_true ok;refine ha ρ σ H δ st _ _ _ l rs e1 λx H1 ρ1 m1 l1 r1=>?_;obtain⟨v,w,rfl,r,r'⟩:=r1.two';cases r;cases r';exact⟨_,_,rfl,by lk,q _ H1 ρ1 m1 l1 (Tt _ _)⟩
  ·cases e
 ·cases e
abbrev fY(ds:List D):List D:=ds.mapIdx λi d=>.tup [.int (i:Int),d]
def F9(ds:List D):(fY ds).length=ds.length:=by simp[fY]
def OM{ds:List D}{i:Nat}{x:D}(h:(fY ds)[i]?=some x):∃d,ds[i]?=some d/\x=.tup [.int (i:Int),d]:=by unfold fY at h;rw[List.getElem?_mapIdx]at h;obtain⟨d,h1,h2⟩:=Zaz.mp h;exact⟨d,h1,h2.symm⟩
abbrev lR(fa:ao->Dm (List D)):ao->Dm Src:=λδ st=>bnd (fa δ st) λas st1=>match as with
 |[.tup ds]=>some (.fix (fY ds),st1)
 |_=>none
def Lo(ha:ug K t fa):zc K (yF K t) (lR fa):=by
 intro ρ σ H δ st S st' Q l rs e q;obtain⟨as,st1,e1,e⟩:=d9 e;split at e;cases e;refine ha ρ σ H δ st _ _ _ l rs e1 λx H1 ρ1 m1 l1 r1=>?_;obtain⟨v,rfl,r⟩:=r1.one';cases r with
 |tup s r =>
  refine⟨_,rfl,⟨_,s⟩,q _ H1 ρ1 m1 l1 λρ2 H2 st2 i m2 l2=>⟨λh=>?_,λd h=>?_⟩⟩;obtain⟨h1,h2⟩:=zb h;have h2:=ZaY.mp h2;rw[F9]at h1 h2;exact⟨_,m2.t _ _ s,by rw[r.length];lk⟩;obtain⟨h1,h2⟩:=zb h;obtain⟨d',hd',rfl⟩:=OM h2;obtain⟨v,hv,rv⟩:=r.got hd';refine⟨⟨_,v,m2.t _ _ s,hv⟩,λx H3 y=>?_⟩;obtain⟨p,z,rfl,hp,rfl,hx⟩:=y;have:=hx _ (m2.t _ _ s);rw[hv]at this;cases this;have m3:Mn K ρ2 H2 ρ2 (upd H2 p (.tup [.int (i:Int),v])):=Mn.same (lC.up hp);exact⟨m3,l2.same (lC.up hp),.tup (eY.of uG) (.cons (.int _) (.one ((rv.mn m2).mn m3)))⟩
 cases e
abbrev kq(S:Src)(g:D->ao->Dm ao)(tc:ao->Dm Bool)(te:ao->Dm D):Nat->Nat->List D->ao->Dm (List D)
 |0,_,_,_,_=>none
 |n+1,i,ys,δ,st=>if lim ys.length=true then match S.at i st with
  |none=>none
  |some none=>some (ys,st)
  |some (some d)=>bnd (g d δ st) λδ1 st1=>bnd (tc δ1 st1) λt st2=>if t=true then bnd (te δ1 st2) λy st3=>kq S g tc te n (i+1) (ys ++ [y]) δ1 st3 else kq S g tc te n (i+1) ys δ1 st2
  else none
abbrev rR(n:Nat)(js:List Nat)(δ:ao):ao:=List.replicate n none ++ js.map λj=>δ.getD j none
abbrev cu(fi:ao->Dm Src)(n:Nat)(js:List Nat)(g:D->ao->Dm ao)(tc:ao->Dm Bool)(te:ao->Dm D):ao->Dm D:=λδ st=>bnd (fi δ st) λS st1=>bnd (kq S g tc te fuel 0 [] (rR n js δ) st1) λys st2=>some (.ref st2.length,st2 ++ [.lst ys])
def Rs.comp(h:Rs K ρ H σ δ)(n:Nat)(js:List Nat):Rs K ρ H (lM n js σ) (rR n js δ):=by
 unfold lM rR;refine⟨by simp,λi d hd=>?_⟩;by_cases hi:i<n;rw[Zap (by simpa using hi),Zb6,if_pos hi]at hd;cases hd;rw[Zax (by simpa using ZcF hi),Zad]at hd;rw[Zax (by simpa using ZcF hi),Zad];simp only[Zb9]at hd ⊢;cases hj:js[i-n]? with
 |none=>rw[hj]at hd;cases hd
 |some j =>
  rw[hj]at hd;have hd:δ.getD j none=some d:=Zar hd;rw[Zah]at hd;have hd':δ[j]?=some (some d):=by
   cases hx:δ[j]? with
   |none=>rw[hx]at hd;cases hd
   |some y=>rw[hx]at hd;exact congrArg some hd
  obtain⟨v,hv,r⟩:=h.2 j d hd';exact⟨v,by show some (σ.getD j none)=_;rw[Zah,hv];rfl,r⟩
def Lp(hi:zc K wi fi)(hg:Bi K tg g)(hc:sR K tc c)(hf:fW K te f):fW K (vk wi n js tg tc te) (cu fi n js g c f):=by
 intro ρ σ H δ st b st' Q l rs e q;obtain⟨S,ny,e0,e⟩:=d9 e;obtain⟨zs,rS,e9,e⟩:=d9 e;cases e;refine hi ρ σ H δ st S ny _ l rs e0 λJ H0 ρ0 m0 l0 ok=>?_;refine⟨λi m ys σ1 H1=>∃ρ1 δ1 st1 ws,Mn K ρ0 H0 ρ1 H1/\Rl K ρ1 H1 st1/\Rs K ρ1 H1 σ1 δ1/\cF K ρ1 H1 ys ws/\kq S g c f m i ws δ1 st1=some (zs,rS),⟨fuel,ρ0,_,ny,[],.refl,l0,(rs.mn m0).comp n js,.nil,e9⟩,?_⟩;rintro i m ys σ1 H1 ⟨ρ1,δ1,st1,ws,m1,l1,za,Lq,e1⟩;cases m with
 |zero=>cases e1
 |succ m =>
  obtain⟨hstop,hgo⟩:=ok ρ1 H1 st1 i m1 l1;unfold kq at e1;split at e1
  ·next hl =>
   refine⟨by rw[Lq.length];exact Ox hl,?_⟩;split at e1
   ·cases e1
   ·next hs =>
    cases e1;exact .inl ⟨hstop hs,λp hp=>q _ _ _ ((m0.trans m1).trans (Mn.new hp)) (l1.newL hp Lq) (.ref (newR l1))⟩
   ·next d hs =>
    obtain⟨δ2,st2,e2,e1⟩:=d9 e1;obtain⟨t,st3,e3,e1⟩:=d9 e1;obtain⟨go,xj⟩:=hgo d hs;refine .inr ⟨go,λx H2 hy=>?_⟩;obtain⟨m2,l2,r2⟩:=xj x H2 hy;refine hg ρ1 σ1 H2 δ1 st1 x d δ2 st2 _ l2 (za.mn m2) r2 e2 λσ4 H4 ρ4 m4 l4 r4=>hc ρ4 σ4 H4 δ2 st2 t st3 _ l4 r4 e3 λt' H5 ρ5 m5 l5 r5=>?_;subst r5;have m6:=(((m1.trans m2).trans m4).trans m5);cases t' with
    |true =>
     refine rJ ?_;rw[if_pos rfl]at e1;obtain⟨y,OO,e6,e1⟩:=d9 e1;exact hf ρ5 σ4 H5 δ2 st3 y OO _ l5 (r4.mn m5) e6 λv H7 ρ7 m7 l7 r7=>⟨m,Zbf m,ρ7,δ2,OO,ws ++ [y],m6.trans m7,l7,r4.mn (m5.trans m7),(Lq.mn (((m2.trans m4).trans m5).trans m7)).append (.one r7),e1⟩
    |false =>
     refine rH ?_;rw[if_neg Zam]at e1;exact⟨m,Zbf m,ρ5,δ2,st3,ws,m6,l5,r4.mn m5,Lq.mn ((m2.trans m4).trans m5),e1⟩
  ·cases e1
abbrev cR:ao->Dm Bool:=λ_ st=>some (true,st)
abbrev dw(n:Nat)(b:ao->Dm Fl):List D->Dm D:=λds st=>bnd (b (ds.map some ++ List.replicate (n-ds.length) none) st) λfl st1=>match fl with
 |.rt d=>some (d,st1)
 |.nx _=>some (.non,st1)
 |_=>none
def Rs.start(r:cF K ρ H vs ds)(N:List Str):Rs K ρ H (start N vs) (ds.map some ++ List.replicate (N.length-ds.length) none):=by
 unfold L2.start;rw[r.length];refine⟨by simp[r.length],λi d hd=>?_⟩;by_cases hi:i<ds.length;rw[Zap (by simpa using hi),Zad]at hd;rw[Zap (by rw[Zaa,r.length];exact hi),Zad];cases hx:ds[i]? with
 |none=>rw[hx]at hd;cases hd
 |some y =>
  rw[hx]at hd;cases hd;obtain⟨v,hv,rv⟩:=r.got hx;exact⟨v,by rw[hv];rfl,rv⟩
 rw[Zax (by simpa using ZcF hi),Zb6]at hd;split at hd<;>cases hd
def dO(hb:rl K t b)(hn:N.length=n)(h:a6 K k (dw n b) vs H Q E):t { nx:=λ_ H'=>Q .non H',rt:=Q } (start N vs) H:=by
 obtain⟨hk,ρ,st,ds,d,st',l,r,e,q⟩:=h;subst hn;obtain⟨fl,st1,e1,e⟩:=d9 e;refine hb ρ _ H _ st fl st1 _ l (Rs.start r N) e1 ?_;cases fl with
 |rt v=>cases e;exact q
 |nx δ=>cases e;exactλσ' H' ρ' m l' r'=>q .non H' ρ' m l' .non
 |bk δ=>cases e
 |ct δ=>cases e
end
section
variable {X:Cx}{K:Zfr}
def Zr{N:List Str}{vR:Scope}{cells:List (Str×Addr)}{C:Addr}{fp:List Addr}{s:Shared}{H:Hp}{vS:Scope}{own fr:List Str}(h:vh (vg vR X.env.scope) vS own fr):vh (aU X N vR cells C fp s H).env.scope vS own fr:=h
def OQ:sR K (λ_ H Q=>Q true H) cR:=by intro ρ σ H δ st b st' Q l rs e q;cases e;exact q _ H ρ .refl l rfl
end
abbrev ze(K:Zfr):Sp:=λvs H Q _=>∃(a:Addr) (ns:List Int),vs=[.ref a]/\E5 K H a (ns.map V.int)/\ns.length<=63/\∀H',Q (.bl true) H'
def Bj{P:Program}{w:World}{K:Zfr}{mg:Str->Option Value}{base:Heap}{k:Nat}{f:Addr}{fd:FuncData}{ps:List Str}{F:List D->Dm D}(G:aE P w K mg base aZ k f fd ps (a6 K 1 F))
  (h:∀ns:List Int,ns.length<=63->∃st',F [.ref 0] [.rM (ns.map D.int)]=some (.bl true,st')):aE P w K mg base aZ k f fd ps (ze K):=by
 refine G.imp λvs H Q E hs=>?_;obtain⟨a,ns,rfl,hS,hn,q⟩:=hs;obtain⟨st',e⟩:=h ns hn;have one:∀i (b:Addr),([a]:List Addr)[i]?=some b->i=0/\b=a:=λi b h=>by
  cases i with
  |zero=>exact⟨rfl,(Zar h).symm⟩
  |succ i=>simp at h
 refine⟨rfl,[a],[.rM (ns.map D.int)],[.ref 0],.bl true,st',⟨rfl,λi j b o o' h1 h2 _ _ _ _=>by rw[(one i b h1).1,(one j b h2).1],λi b o h1 h2=>?_⟩,.one (.ref rfl),e,λv H' ρ' m l r=>by cases r;exact q H'⟩;obtain⟨rfl,rfl⟩:=one i b h1;cases(Zar h2);exact⟨ns.map V.int,hS,cF.ints ns⟩
abbrev Wp{α:Type}(m:Option (α×Store))(Q:α->Store->Prop):Prop:=∃a st,m=some (a,st)/\Q a st
section
variable {α β:Type}{Q Q':α->Store->Prop}{st:Store}{δ:ao}
def aS(h:Wp m Q)(hq:∀a st,Q a st->Q' a st):Wp m Q':=let ⟨a,st,e,q⟩:=h;⟨a,st,e,hq a st q⟩
def bh:Wp (some (a,st)) Q↔Q a st:=⟨λ⟨_,_,e,q⟩=>by cases e;exact q,λq=>⟨a,st,rfl,q⟩⟩
def iH:Wp (none:Option (α×Store)) Q↔False:=⟨λ⟨_,_,e,_⟩=>(by cases e),False.elim⟩
def d4{R:β->Store->Prop}{m:Option (α×Store)}{k:α->Dm β}:Wp (bnd m k) R↔Wp m λa st1=>Wp (k a st1) R:=by
 cases m with
 |none=>exact⟨λ⟨_,_,e,_⟩=>(by cases e),λ⟨_,_,e,_⟩=>(by cases e)⟩
 |some p=>exact⟨λh=>⟨p.1,p.2,rfl,h⟩,λ⟨a,s,e,h⟩=>by cases e;exact h⟩
def qy{c:Prop}[Decidable c]:Wp (if c then m else n) Q↔if c then Wp m Q else Wp n Q:=by split<;>exact Iff.rfl
end
section
variable {st:Store}{δ:ao}{Q:D->Store->Prop}
def Bk{i:Nat}:Wp (ag i δ st) Q↔∃d,δ[i]?=some (some d)/\Q d st:=by
 unfold ag;split
 ·next d hd=>rw[bh];exact⟨λh=>⟨d,hd,h⟩,λ⟨e,he,h⟩=>by rw[hd]at he;cases he;exact h⟩
 ·next h=>rw[iH];exact⟨False.elim,λ⟨e,he,_⟩=>h e he⟩
def OR{d:D}:Wp (fC d δ st) Q↔Q d st:=bh
def zf{g:D->D->Dm D}{fa fb:ao->Dm D}:Wp (av g fa fb δ st) Q↔Wp (fa δ st) λa st1=>Wp (fb δ st1) λb st2=>Wp (g a b st2) Q:=by unfold av;rw[d4];simp only[d4]
def Ga{g:D->Dm D}{fa:ao->Dm D}:Wp (rN g fa δ st) Q↔Wp (fa δ st) λa st1=>Wp (g a st1) Q:=d4
def Lr{g:List D->Dm D}{fa:ao->Dm (List D)}:Wp (aM g fa δ st) Q↔Wp (fa δ st) λa st1=>Wp (g a st1) Q:=d4
def Tv{R:List D->Store->Prop}:Wp (ah δ st) R↔R [] st:=bh
def zg{R:List D->Store->Prop}{fa:ao->Dm D}{fr:ao->Dm (List D)}:Wp (af fa fr δ st) R↔Wp (fa δ st) λa st1=>Wp (fr δ st1) λr st2=>R (a :: r) st2:=by unfold af;rw[d4];simp only[d4,bh]
def Bl{fa:ao->Dm (List D)}:Wp (aW fa δ st) Q↔Wp (fa δ st) λas st1=>lim as.length=true/\Q (.tup as) st1:=by unfold aW;rw[d4];simp only[qy,bh,iH];constructor<;>exactλh=>aS h λa s h=>by first|(split at h;exact⟨by assumption,h⟩;exact h.elim)|(rw[if_pos h.1];exact h.2)
def Tw{fa:ao->Dm (List D)}:Wp (cO fa δ st) Q↔Wp (fa δ st) λas st1=>lim as.length=true/\Q (.ref st1.length) (st1 ++ [.lst as]):=by unfold cO;rw[d4];simp only[qy,bh,iH];constructor<;>exactλh=>aS h λa s h=>by first|(split at h;exact⟨by assumption,h⟩;exact h.elim)|(rw[if_pos h.1];exact h.2)
def Zs{R:Bool->Store->Prop}{fa:ao->Dm D}:Wp (aH fa δ st) R↔Wp (fa δ st) λa st1=>∃b,a=.bl b/\R b st1:=by unfold aH;rw[d4];constructor<;>refineλh=>aS h λa s h=>?_;cases a<;>simp only[bh,iH]at h;exact⟨_,rfl,h⟩;obtain⟨b,rfl,h⟩:=h;exact bh.mpr h
def Bm{R:Bool->Store->Prop}{fa:ao->Dm Bool}:Wp (sS fa δ st) R↔Wp (fa δ st) λa st1=>R (!a) st1:=by unfold sS;rw[d4];simp only[bh]
def Bn{R:Bool->Store->Prop}{fa fb:ao->Dm Bool}:Wp (sU fa fb δ st) R↔Wp (fa δ st) λa st1=>if a=true then Wp (fb δ st1) R else R false st1:=by unfold sU;rw[d4];simp only[qy,bh]
def Gb{R:Bool->Store->Prop}{fa fb:ao->Dm Bool}:Wp (vJ fa fb δ st) R↔Wp (fa δ st) λa st1=>if a=true then R true st1 else Wp (fb δ st1) R:=by unfold vJ;rw[d4];simp only[qy,bh]
def zh{α:Type}{R:α->Store->Prop}{c:ao->Dm Bool}{fa fb:ao->Dm α}:Wp (fg c fa fb δ st) R↔Wp (c δ st) λa st1=>if a=true then Wp (fa δ st1) R else Wp (fb δ st1) R:=by unfold fg;rw[d4];simp only[qy]
def Zt{fa fb:ao->Dm D}:Wp (rO fa fb δ st) Q↔Wp (aH fa δ st) λa st1=>if a=true then Wp (fb δ st1) Q else Q (.bl false) st1:=by unfold rO;rw[d4];simp only[qy,bh]
def Bo{fa fb:ao->Dm D}:Wp (xF fa fb δ st) Q↔Wp (aH fa δ st) λa st1=>if a=true then Q (.bl true) st1 else Wp (fb δ st1) Q:=by unfold xF;rw[d4];simp only[qy,bh]
def Zu{fa:ao->Dm D}:Wp (yZ fa δ st) Q↔Wp (aH fa δ st) λa st1=>Q (.bl (!a)) st1:=by unfold yZ;rw[d4];simp only[bh]
def Tx{R:Option Int->Store->Prop}:Wp (n4 δ st) R↔R none st:=bh
def Tz{R:Option Int->Store->Prop}{fa:ao->Dm D}:Wp (qx fa δ st) R↔Wp (fa δ st) λa st1=>∃i,a=.int i/\R (some i) st1:=by unfold qx;rw[d4];constructor<;>refineλh=>aS h λa s h=>?_;cases a<;>simp only[bh,iH]at h;exact⟨_,rfl,h⟩;obtain⟨b,rfl,h⟩:=h;exact bh.mpr h
def zi{g:D->Option Int->Option Int->Dm D}{fa:ao->Dm D}{fl fh:ao->Dm (Option Int)}:Wp (Dp g fa fl fh δ st) Q↔Wp (fa δ st) λa st1=>Wp (fl δ st1) λlo st2=>Wp (fh δ st2) λhi st3=>Wp (g a lo hi st3) Q:=by unfold Dp;rw[d4];simp only[d4]
def Ge{T:String}{g:D->List D->Dm D}{fo:ao->Dm D}{fa:ao->Dm (List D)}:Wp (lO T g fo fa δ st) Q↔Wp (fo δ st) λo st1=>wO T st1 o=true/\Wp (fa δ st1) λas st2=>Wp (g o as st2) Q:=by unfold lO;rw[d4];simp only[qy,d4,iH];constructor<;>exactλh=>aS h λa s h=>by first|(split at h;exact⟨by assumption,h⟩;exact h.elim)|(rw[if_pos h.1];exact h.2)
variable {i j:Int}{ds es:List D}{k:Nat}
def Bp:Wp (dh (.int i) (.int j) st) Q↔Q (.int (i+j)) st:=bh
def Bq:Wp (m8 (.int i) (.int j) st) Q↔Q (.int (i-j)) st:=bh
def Gf:Wp (vL (.int i) (.int j) st) Q↔Q (.bl (decide (i<j))) st:=bh
def Gg:Wp (Zj (.int i) (.int j) st) Q↔Q (.bl (decide (i<=j))) st:=bh
def Gh:Wp (y8 (.int i) (.int j) st) Q↔Q (.bl (decide (j<i))) st:=bh
def Gi:Wp (Oz (.int i) (.int j) st) Q↔Q (.bl (decide (j<=i))) st:=bh
def Br:Wp (lF (.int i) st) Q↔Q (.int (-i)) st:=bh
def Dy:Wp (xG c h (.int i) (.int j) st) Q↔c i j=true/\Q (h i j) st:=by
 show Wp (if c i j=true then some (h i j,st)else none) Q↔_;rw[qy,bh,iH];split
 ·next h=>exact⟨λq=>⟨h,q⟩,λq=>q.2⟩
 ·next h=>exact⟨False.elim,λq=>h q.1⟩
def Bs:Wp (ke (.int i) (.int j) st) Q↔((-18446744073709551616<i/\i<18446744073709551616)\/(-18446744073709551616<j/\j<18446744073709551616))/\Q (.int (i*j)) st:=by unfold ke;rw[Dy,Zco,decide_eq_true_eq,decide_eq_true_eq]
def Zv:Wp (n5 (.int i) (.int j) st) Q↔(0<j/\j<1073741824)/\Q (.int (i / j)) st:=by unfold n5;rw[Dy,decide_eq_true_eq]
def Bt:Wp (lE (.int i) (.int j) st) Q↔0<j/\Q (.int (i % j)) st:=by unfold lE;rw[Dy,decide_eq_true_eq]
def Bu:Wp (vK (.int i) (.int j) st) Q↔(0<=j/\j<=1000000/\i.natAbs<18446744073709551616)/\Q (.int (i ^ j.toNat)) st:=by unfold vK;rw[Dy,decide_eq_true_eq]
def Bw{neg:Bool}:Wp (jP neg (.int i) (.int j) st) Q↔Q (.bl (if neg then !decide (i=j)else decide (i=j))) st:=by
 have e:decide (V.int i=V.int j)=decide (i=j):=by
  by_cases h:i=j;subst h;simp;simp[h]
 show Wp (if sG (V.int i) (V.int j)=true then some (D.bl (if neg then !decide (V.int i=V.int j)else decide (V.int i=V.int j)),st)else none) Q↔_;rw[if_pos (show sG _ _=true from rfl),bh,e]
def Bx{neg:Bool}{x y:Str}:Wp (jP neg (.str x) (.str y) st) Q↔Q (.bl (if neg then !decide (x=y)else decide (x=y))) st:=by
 have e:decide (V.str x=V.str y)=decide (x=y):=by
  by_cases h:x=y;subst h;simp;simp[h]
 show Wp (if sG (V.str x) (V.str y)=true then some (D.bl (if neg then !decide (V.str x=V.str y)else decide (V.str x=V.str y)),st)else none) Q↔_;rw[if_pos (show sG _ _=true from rfl),bh,e]
def vT:Wp (aD (.tup ds) (.int i) st) Q↔∃d,eZ ds i=some d/\Q d st:=by
 show Wp (match eZ ds i with|some d=>some (d,st)|none=>none) Q↔_;cases eZ ds i with
 |none=>rw[iH];exact⟨False.elim,λ⟨_,e,_⟩=>by cases e⟩
 |some d=>rw[bh];exact⟨λq=>⟨d,rfl,q⟩,λ⟨_,e,q⟩=>by cases e;exact q⟩
def By:Wp (bZ (.ref k) (.int i) st) Q↔∃ds d,items st k=some ds/\eZ ds i=some d/\Q d st:=by
 show Wp (match items st k with|some ds=>(match eZ ds i with|some d=>some (d,st)|none=>none)|none=>none) Q↔_;cases items st k with
 |none=>rw[iH];exact⟨False.elim,λ⟨_,_,e,_⟩=>by cases e⟩
 |some ds =>
  show Wp (match eZ ds i with|some d=>some (d,st)|none=>none) Q↔_;cases h:eZ ds i with
  |none=>rw[iH];exact⟨False.elim,λ⟨_,_,e,e',_⟩=>by cases e;rw[h]at e';cases e'⟩
  |some d=>rw[bh];exact⟨λq=>⟨ds,d,rfl,h,q⟩,λ⟨_,_,e,e',q⟩=>by cases e;rw[h]at e';cases e';exact q⟩
def Bz{lo hi:Option Int}:Wp (Bf (.tup ds) lo hi st) Q↔Q (.tup (cutD ds lo hi)) st:=bh
def TB{lo hi:Option Int}:Wp (vN (.ref k) lo hi st) Q↔∃ds,items st k=some ds/\Q (.ref st.length) (st ++ [.lst (cutD ds lo hi)]):=by
 show Wp (match items st k with|some ds=>some (D.ref st.length,st ++ [O.lst (cutD ds lo hi)])|none=>none) Q↔_;cases items st k with
 |none=>rw[iH];exact⟨False.elim,λ⟨_,e,_⟩=>by cases e⟩
 |some ds=>rw[bh];exact⟨λq=>⟨ds,rfl,q⟩,λ⟨_,e,q⟩=>by cases e;exact q⟩
def Zw:Wp (jc (.tup ds) (.tup es) st) Q↔lim (ds.length+es.length)=true/\Q (.tup (ds ++ es)) st:=by
 show Wp (if lim (ds.length+es.length)=true then some (D.tup (ds ++ es),st)else none) Q↔_;rw[qy,bh,iH];split
 ·next h=>exact⟨λq=>⟨h,q⟩,λq=>q.2⟩
 ·next h=>exact⟨False.elim,λq=>h q.1⟩
def TC{a b:Nat}:Wp (pV (.ref a) (.ref b) st) Q↔∃xs ys,own st a=some xs/\own st b=some ys/\lim (xs.length+ys.length)=true/\Q (.ref st.length) (st ++ [.lst (xs ++ ys)]):=by
 show Wp (match own st a,own st b with|some xs,some ys=>if lim (xs.length+ys.length)=true then some (D.ref st.length,st ++ [O.lst (xs ++ ys)])else none|_,_=>none) Q↔_;cases ha:own st a<;>cases hb:own st b
 ·simp only[iH];exact⟨False.elim,λ⟨_,_,e,_⟩=>by cases e⟩
 ·simp only[iH];exact⟨False.elim,λ⟨_,_,e,_⟩=>by cases e⟩
 ·simp only[iH];exact⟨False.elim,λ⟨_,_,_,e,_⟩=>by cases e⟩
 ·next xs ys =>
  show Wp (if lim (xs.length+ys.length)=true then some (D.ref st.length,st ++ [O.lst (xs ++ ys)])else none) Q↔_;rw[qy,bh,iH];split
  ·next h=>exact⟨λq=>⟨_,_,rfl,rfl,h,q⟩,λ⟨_,_,e,e',_,q⟩=>by cases e;cases e';exact q⟩
  ·next h=>exact⟨False.elim,λ⟨_,_,e,e',q,_⟩=>by cases e;cases e';exact h q⟩
def BA{a:D}:Wp (cV [a] st) Q↔∃ds,b7 st a=some ds/\Q (.int ds.length) st:=by
 show Wp (match b7 st a with|some ds=>some (D.int ds.length,st)|none=>none) Q↔_;cases b7 st a with
 |none=>rw[iH];exact⟨False.elim,λ⟨_,e,_⟩=>by cases e⟩
 |some ds=>rw[bh];exact⟨λq=>⟨ds,rfl,q⟩,λ⟨_,e,q⟩=>by cases e;exact q⟩
def Zx{a:D}:Wp (n8 [a] st) Q↔∃ds,b7 st a=some ds/\Q (.ref st.length) (st ++ [.lst ds]):=by
 show Wp (match b7 st a with|some ds=>some (D.ref st.length,st ++ [O.lst ds])|none=>none) Q↔_;cases b7 st a with
 |none=>rw[iH];exact⟨False.elim,λ⟨_,e,_⟩=>by cases e⟩
 |some ds=>rw[bh];exact⟨λq=>⟨ds,rfl,q⟩,λ⟨_,e,q⟩=>by cases e;exact q⟩
def Zy{a:D}:Wp (bF [a] st) Q↔∃ds,b7 st a=some ds/\Q (.tup ds) st:=by
 show Wp (match b7 st a with|some ds=>some (D.tup ds,st)|none=>none) Q↔_;cases b7 st a with
 |none=>rw[iH];exact⟨False.elim,λ⟨_,e,_⟩=>by cases e⟩
 |some ds=>rw[bh];exact⟨λq=>⟨ds,rfl,q⟩,λ⟨_,e,q⟩=>by cases e;exact q⟩
def Zz:Wp (rQ [.int i,.int j] st) Q↔Q (.int (if j > i then j else i)) st:=bh
def ZA:Wp (uj [.int i,.int j] st) Q↔Q (.int (if j<i then j else i)) st:=bh
def ZC:Wp (pW [.int i] st) Q↔Q (.int i) st:=bh
def ZD{b:Bool}:Wp (pW [.bl b] st) Q↔Q (.int (if b then 1 else 0)) st:=bh
def ZE:Wp (gM [.int j] st) Q↔Q (.ref st.length) (st ++ [.lB 0 j]):=bh
def ZF:Wp (fE [.int i,.int j] st) Q↔Q (.ref st.length) (st ++ [.lB i j]):=bh
def ZG{y:D}:Wp (a8 (.ref k) [y] st) Q↔∃xs,own st k=some xs/\lim xs.length=true/\Q .non (st.set k (.lst (xs ++ [y]))):=by
 show Wp (match own st k with|some xs=>if lim xs.length=true then some (D.non,st.set k (O.lst (xs ++ [y])))else none|none=>none) Q↔_;cases own st k with
 |none=>rw[iH];exact⟨False.elim,λ⟨_,e,_⟩=>by cases e⟩
 |some xs =>
  show Wp (if lim xs.length=true then some (D.non,st.set k (O.lst (xs ++ [y])))else none) Q↔_;rw[qy,bh,iH];split
  ·next h=>exact⟨λq=>⟨_,rfl,h,q⟩,λ⟨_,e,_,q⟩=>by cases e;exact q⟩
  ·next h=>exact⟨False.elim,λ⟨_,e,q,_⟩=>by cases e;exact h q⟩
end
abbrev Ws(m:Option (Fl×Store))(N B C:ao->Store->Prop)(R:D->Store->Prop):Prop:=Wp m λfl st=>match fl with
 |.nx δ=>N δ st
 |.bk δ=>B δ st
 |.ct δ=>C δ st
 |.rt d=>R d st
section
variable {st:Store}{δ:ao}{N B C:ao->Store->Prop}{R:D->Store->Prop}{f g:ao->Dm Fl}{e:ao->Dm D}
def zj(h:Ws m N B C R)(hn:∀δ st,N δ st->N' δ st):Ws m N' B C R:=aS h λfl st q=>by
 cases fl with
 |nx δ=>exact hn δ st q
 |bk δ=>exact q
 |ct δ=>exact q
 |rt d=>exact q
def aT(h:Ws (f δ st) (λδ1 st1=>Ws (g δ1 st1) N B C R) B C R):Ws (aC f g δ st) N B C R:=by
 unfold Ws aC;rw[d4];refine aS h λfl st1 q=>?_;cases fl with
 |nx δ1=>exact q
 |bk δ1=>exact bh.mpr q
 |ct δ1=>exact bh.mpr q
 |rt d=>exact bh.mpr q
def ja(h:N δ st):Ws (aX δ st) N B C R:=bh.mpr h
def uk(h:Wp (e δ st) λd st1=>Wp (t d δ st1) N):Ws (aJ e t δ st) N B C R:=by unfold Ws aJ;rw[d4];refine aS h λd st1 q=>?_;rw[d4];exact aS q λδ1 st2 q=>bh.mpr q
def bC(h:Wp (e δ st) λd st1=>N (δ.set i (some d)) st1):Ws (aJ e (hName i) δ st) N B C R:=uk (aS h λd st1 q=>bh.mpr q)
def su(h:Wp (e δ st) λ_ st1=>N δ st1):Ws (cP e δ st) N B C R:=by unfold Ws cP;rw[d4];exact aS h λd st1 q=>bh.mpr q
def cK(h:Wp (e δ st) R):Ws (aQ e δ st) N B C R:=by unfold Ws aQ;rw[d4];exact aS h λd st1 q=>bh.mpr q
def gP(h:Wp (c δ st) λb st1=>(b=true->Ws (f δ st1) N B C R)/\(b=false->Ws (g δ st1) N B C R)):Ws (fg c f g δ st) N B C R:=by
 unfold Ws;rw[zh];refine aS h λb st1 q=>?_;cases b with
 |true=>rw[if_pos rfl];exact q.1 rfl
 |false=>rw[if_neg Zam];exact q.2 rfl
def Dz(h:Wp (fa δ st) λas st1=>∃a b,as=[a,b]/\N ((δ.set i (some a)).set j (some b)) st1):Ws (qM i j fa δ st) N B C R:=by unfold Ws qM;rw[d4];refine aS h λas st1 q=>?_;obtain⟨a,b,rfl,q⟩:=q;exact bh.mpr q
def Gj(h:Ws (b (ds.map some ++ List.replicate (n-ds.length) none) st) (λ_ st1=>R .non st1) (λ_ _=>False) (λ_ _=>False) R):Wp (dw n b ds st) R:=by
 unfold dw;rw[d4];refine aS h λfl st1 q=>?_;cases fl with
 |nx δ1=>exact bh.mpr q
 |bk δ1=>exact q.elim
 |ct δ1=>exact q.elim
 |rt d=>exact bh.mpr q
def xO(W:Nat->ao->Store->Prop)(m:Nat)(hm:m<fuel)(h0:W m δ st)
  (step:∀m δ st,W m δ st->Wp (c δ st) λt st1=>(t=true->Ws (b δ st1) (λδ2 st2=>∃m',m' < m/\W m' δ2 st2) N (λδ2 st2=>∃m',m' < m/\W m' δ2 st2) R)/\(t=false->N δ st1)):Ws (iG c b δ st) N B C R:=by
 have key:∀(k m:Nat) (δ:ao) (st:Store),m<k->W m δ st->Ws (iF c b k δ st) N B C R:=by
  intro k
  induction k with
  |zero=>intro m δ st h;exact absurd h (Za0 _)
  |succ k ih =>
   intro m δ st hk hw;unfold Ws iF;rw[d4];refine aS (step m δ st hw) λt st1 q=>?_;cases t with
   |false=>rw[if_neg Zam];exact bh.mpr (q.2 rfl)
   |true =>
    rw[if_pos rfl,d4];refine aS (q.1 rfl) λfl st2 q=>?_;cases fl with
    |nx δ2=>obtain⟨m',hm',w⟩:=q;exact ih m' δ2 st2 ⋯ w
    |ct δ2=>obtain⟨m',hm',w⟩:=q;exact ih m' δ2 st2 ⋯ w
    |bk δ2=>exact bh.mpr q
    |rt d=>exact bh.mpr q
 exact key fuel m δ st hm h0
def nE(ds:List D)(Pv:Nat->ao->Store->Prop)(hi:Wp (fi δ st) λS st1=>S=.fix ds/\Pv 0 δ st1)(hl:ds.length<100000)
  (step:∀i d δ st,ds[i]?=some d->Pv i δ st->Wp (t d δ st) λδ1 st1=>Ws (b δ1 st1) (Pv (i+1)) N (Pv (i+1)) R) (fin:∀δ st,Pv ds.length δ st->N δ st):Ws (c6 fi t b δ st) N B C R:=by
 unfold Ws c6;rw[d4];refine aS hi λS ny q=>?_;obtain⟨rfl,h0⟩:=q;have key:∀(k i:Nat) (δ:ao) (st:Store),i<=ds.length->ds.length-i<k->Pv i δ st->Ws (jR (.fix ds) t b k i δ st) N B C R:=by
  intro k
  induction k with
  |zero=>intro i δ st _ h;exact absurd h (Za0 _)
  |succ k ih =>
   intro i δ st hi hk hw;unfold Ws jR;have e:Src.at (.fix ds) i st=some ds[i]?:=by show(if i<=ds.length then some ds[i]? else none)=_;rw[if_pos hi]
   rw[e];cases hd:ds[i]? with
   |none =>
    have:=ZaY.mp hd;have e:i=ds.length:=by lk
    exact bh.mpr (fin δ st (e ▸ hw))
   |some d =>
    have hlt:=(Zac.mp hd).1;show Wp (bnd _ _) _;rw[d4];refine aS (step i d δ st hd hw) λδ1 st1 q=>?_;rw[d4];refine aS q λfl st2 q=>?_;cases fl with
    |nx δ2=>exact ih (i+1) δ2 st2 ⋯ ⋯ q
    |ct δ2=>exact ih (i+1) δ2 st2 ⋯ ⋯ q
    |bk δ2=>exact bh.mpr q
    |rt d=>exact bh.mpr q
 exact key fuel 0 δ ny (ZaL _) (ZcL ⋯ (show 100000<fuel by decide)) h0
def TF(ds:List D)(r:Nat)(Pv:Nat->ao->Store->Prop)(hi:Wp (fi δ st) λS st1=>S=.live r/\Pv 0 δ st1)(hl:ds.length<100000)(hk:∀i δ st,Pv i δ st->items st r=some ds)
  (step:∀i d δ st,ds[i]?=some d->Pv i δ st->Wp (t d δ st) λδ1 st1=>Ws (b δ1 st1) (Pv (i+1)) N (Pv (i+1)) R) (fin:∀δ st,Pv ds.length δ st->N δ st):Ws (c6 fi t b δ st) N B C R:=by
 unfold Ws c6;rw[d4];refine aS hi λS ny q=>?_;obtain⟨rfl,h0⟩:=q;have key:∀(k i:Nat) (δ:ao) (st:Store),i<=ds.length->ds.length-i<k->Pv i δ st->Ws (jR (.live r) t b k i δ st) N B C R:=by
  intro k
  induction k with
  |zero=>intro i δ st _ h;exact absurd h (Za0 _)
  |succ k ih =>
   intro i δ st hi hk' hw;unfold Ws jR;have e:Src.at (.live r) i st=some ds[i]?:=by show(items st r).map _=_;rw[hk i δ st hw];rfl
   rw[e];cases hd:ds[i]? with
   |none =>
    have:=ZaY.mp hd;have e:i=ds.length:=by lk
    exact bh.mpr (fin δ st (e ▸ hw))
   |some d =>
    have hlt:=(Zac.mp hd).1;show Wp (bnd _ _) _;rw[d4];refine aS (step i d δ st hd hw) λδ1 st1 q=>?_;rw[d4];refine aS q λfl st2 q=>?_;cases fl with
    |nx δ2=>exact ih (i+1) δ2 st2 ⋯ ⋯ q
    |ct δ2=>exact ih (i+1) δ2 st2 ⋯ ⋯ q
    |bk δ2=>exact bh.mpr q
    |rt d=>exact bh.mpr q
 exact key fuel 0 δ ny (ZaL _) (ZcL ⋯ (show 100000<fuel by decide)) h0
def Gk{fi:ao->Dm Src}{n:Nat}{js:List Nat}{t:D->ao->Dm ao}{c:ao->Dm Bool}{f:ao->Dm D}{Q:D->Store->Prop}(ds:List D)(Pv:Nat->List D->ao->Store->Prop)
  (hi:Wp (fi δ st) λS st1=>(∀i ys δ st,i<=ds.length->Pv i ys δ st->S.at i st=some ds[i]?)/\Pv 0 [] (rR n js δ) st1) (hl:ds.length<100000) (hy:∀i ys δ st,Pv i ys δ st->ys.length<=i)
  (step:∀i d ys δ st,ds[i]?=some d->Pv i ys δ st->Wp (t d δ st) λδ1 st1=>Wp (c δ1 st1) λb st2=>(b=true->Wp (f δ1 st2) λy st3=>Pv (i+1) (ys ++ [y]) δ1 st3)/\(b=false->Pv (i+1) ys δ1 st2))
  (fin:∀ys δ st,Pv ds.length ys δ st->Q (.ref st.length) (st ++ [.lst ys])):Wp (cu fi n js t c f δ st) Q:=by
 unfold cu;rw[d4];refine aS hi λS ny q=>?_;obtain⟨hS,h0⟩:=q;have key:∀(k i:Nat) (ys:List D) (δ:ao) (st:Store),i<=ds.length->ds.length-i<k->Pv i ys δ st->Wp (kq S t c f k i ys δ st) λzs rS=>∃δ9,Pv ds.length zs δ9 rS:=by
  intro k
  induction k with
  |zero=>intro i ys δ st _ h;exact absurd h (Za0 _)
  |succ k ih =>
   intro i ys δ st hi hk' hw;unfold kq;have hlim:lim ys.length=true:=Nat.ble_eq_true_of_le (by have:=hy i ys δ st hw;lk);rw[if_pos hlim,hS i ys δ st hi hw];cases hd:ds[i]? with
   |none =>
    have:=ZaY.mp hd;have e:i=ds.length:=by lk
    exact bh.mpr ⟨δ,e ▸ hw⟩
   |some d =>
    have hlt:=(Zac.mp hd).1;show Wp (bnd _ _) _;rw[d4];refine aS (step i d ys δ st hd hw) λδ1 st1 q=>?_;rw[d4];refine aS q λb st2 q=>?_;cases b with
    |true =>
     rw[if_pos rfl,d4];exact aS (q.1 rfl) λy st3 q=>ih (i+1) _ δ1 st3 ⋯ ⋯ q
    |false =>
     rw[if_neg Zam];exact ih (i+1) ys δ1 st2 ⋯ ⋯ (q.2 rfl)
 rw[d4];exact aS (key fuel 0 [] _ ny (ZaL _) (ZcL ⋯ (show 100000<fuel by decide)) h0) λzs rS ⟨δ9,q⟩=>bh.mpr (fin zs δ9 rS q)
end
abbrev keyOf:D->Option Key
 |.int i=>some (.inl i)
 |.str x=>some (.inr x)
 |_=>none
abbrev lS(st:Store):D->Option (List (Key×D))
 |.ref i=>match st[i]? with
  |some (.dct kvs)=>some kvs
  |_=>none
 |_=>none
abbrev fe(kvs:List (Key×D))(k:Key):Option D:=(kvs.find? λkv=>decide (kv.1=k)).map (·.2)
abbrev putD(kvs:List (Key×D))(k:Key)(v:D):List (Key×D) :=
 if(kvs.any λkv=>decide (kv.1=k))=true then kvs.map (λkv=>if kv.1=k then(kv.1,v)else kv)else kvs ++ [(k,v)]
section
variable {K:Zfr}{ρ:List Addr}{H:Hp}{st:Store}
def C6(r:Rp K ρ H x y)(h:keyOf y=some k):x=kV k:=by cases r<;>first|(cases h;rfl)|cases h
def TH(l:Rl K ρ H st)(r:Rp K ρ H x a)(h:lS st a=some kvs):∃p i ws,x=.ref p/\a=.ref i/\ρ[i]?=some p/\st[i]?=some (.dct kvs)/\H p=some (.dK ws)/\Rk K ρ H ws kvs:=by
 cases r<;>first|(cases h;done)|skip
 next hi =>
  simp only[lS]at h;split at h
  ·next kvs' hs =>
   cases h;obtain⟨ws,e,r⟩:=l.obj _ _ _ hi hs;exact⟨_,_,ws,rfl,rfl,hi,hs,e,r⟩
  ·cases h
def Rk.val(r:Rk K ρ H ws kvs)(k:Key):(∀d,fe kvs k=some d->∃v,nB ws k=some v/\Rp K ρ H v d)/\(nB ws k).isSome=(fe kvs k).isSome:=by
 induction r with
 |nil=>exact⟨λd h=>(by cases h),rfl⟩
 |@cons p q ps qs h t ih =>
  obtain⟨h1,h2⟩:=h;unfold fe nB at ih ⊢;rw[Zbo,Zbo];by_cases e:p.1=k;rw[decide_eq_true e,decide_eq_true (h1 ▸ e)];exact⟨λd hd=>by cases hd;exact⟨_,rfl,h2⟩,rfl⟩;rw[decide_eq_false e,decide_eq_false (h1 ▸ e)];exact ih
def Rk.app(r:Rk K ρ H ws kvs)(r':Rk K ρ H DA kvs'):Rk K ρ H (ws ++ DA) (kvs ++ kvs'):=by
 induction r with
 |nil=>exact r'
 |cons h _ ih=>exact .cons h ih
def Rk.put(r:Rk K ρ H ws kvs)(k:Key)(rv:Rp K ρ H v d):Rk K ρ H (putK ws k v) (putD kvs k d):=by
 have hany:(ws.any λkv=>decide (kv.1=k))=(kvs.any λkv=>decide (kv.1=k)):=by
  induction r with
  |nil=>rfl
  |cons h _ ih=>rw[Zbm,Zbm,ih,h.1]
 have hmap:Rk K ρ H (ws.map λkv=>if kv.1=k then(kv.1,v)else kv) (kvs.map λkv=>if kv.1=k then(kv.1,d)else kv):=by
  clear hany
  induction r with
  |nil=>exact .nil
  |@cons p q ps qs h _ ih =>
   refine .cons ?_ ih;dsimp only;by_cases e:p.1=k;rw[if_pos e,if_pos (h.1 ▸ e)];exact⟨h.1,rv⟩;rw[if_neg e,if_neg (h.1 ▸ e)];exact h
 unfold putK putD;rw[hany];split;exact hmap;exact r.app (.cons ⟨rfl,rv⟩ .nil)
def Rk.length{ws:List (Key×V)}{kvs:List (Key×D)}(r:Rk K ρ H ws kvs):ws.length=kvs.length:=by
 induction r with
 |nil=>rfl
 |cons _ _ ih=>rw[ZaE,ZaE,ih]
end
section
variable {K:Zfr}
abbrev vU:ao->Dm D:=λ_ st=>some (.ref st.length,st ++ [.dct []])
def TJ:fW K u9 vU:=by intro ρ σ H δ st b st' Q l rs e q;cases e;exactλp hp=>q _ _ _ (Mn.new hp) (l.newD hp .nil) (.ref (newR l))
abbrev zk(fd fy:ao->Dm D):ao->Dm D:=λδ st=>bnd (fd δ st) λx st1=>bnd (fy δ st1) λy st2=>match lS st2 x,keyOf y with
 |some kvs,some k=>match fe kvs k with
  |some v=>some (v,st2)
  |none=>none
 |_,_=>none
abbrev xP(neg:Bool)(fy fd:ao->Dm D):ao->Dm D:=λδ st=>bnd (fy δ st) λy st1=>bnd (fd δ st1) λx st2=>match lS st2 x,keyOf y with
 |some kvs,some k=>some (.bl (if neg then !(fe kvs k).isSome else(fe kvs k).isSome),st2)
 |_,_=>none
def TK(hy:fW K ty fy)(hd:fW K td fd):fW K (tO ty td) (xP true fy fd):=by
 intro ρ σ H δ st b st' Q l rs e q;obtain⟨y,st1,e1,e⟩:=d9 e;obtain⟨x,st2,e2,e⟩:=d9 e;refine hy ρ σ H δ st y st1 _ l rs e1 λvy H1 ρ1 m1 l1 r1=>hd ρ1 σ H1 δ st1 x st2 _ l1 (rs.mn m1) e2 λvx H2 ρ2 m2 l2 r2=>?_;split at e
 ·next kvs k hx hk =>
  cases e;obtain⟨p,i,ws,rfl,rfl,hi,hs,hp,rk⟩:=TH l2 r2 hx;refine⟨p,nB ws k,rfl,by rw[C6 r1 hk];exact u6.k hp,q _ H2 ρ2 (m1.trans m2) l2 ?_⟩;rw[(rk.val k).2];exact .bl _
 ·cases e
abbrev um(fd fy fv:ao->Dm D):ao->Dm Fl:=λδ st=>bnd (fv δ st) λv st1=>bnd (fd δ st1) λx st2=>bnd (fy δ st2) λy st3=>match x,lS st3 x,keyOf y with
 |.ref i,some kvs,some k=>if lim kvs.length=true then some (.nx δ,st3.set i (.dct (putD kvs k v)))else none
 |_,_,_=>none
def TL(hd:fW K td fd)(hy:fW K ty fy)(hv:fW K tv fv):rl K (yB td ty tv) (um fd fy fv):=by
 intro ρ σ H δ st fl st' E l rs e q;obtain⟨v,st1,e1,e⟩:=d9 e;obtain⟨x,st2,e2,e⟩:=d9 e;obtain⟨y,st3,e3,e⟩:=d9 e;refine hv ρ σ H δ st v st1 _ l rs e1 λvv H1 ρ1 m1 l1 r1=>hd ρ1 σ H1 δ st1 x st2 _ l1 (rs.mn m1) e2 λvx H2 ρ2 m2 l2 r2=>hy ρ2 σ H2 δ st2 y st3 _ l2 (rs.mn (m1.trans m2)) e3 λvy H3 ρ3 m3 l3 r3=>?_;obtain⟨i,rfl⟩:∃i,x=.ref i:=by
  cases x<;>first|exact⟨_,rfl⟩|(simp at e;done)|cases e
 cases hx:lS st3 (.ref i)with
 |none=>rw[hx]at e;cases e
 |some kvs =>
 cases hk:keyOf y with
 |none=>rw[hx,hk]at e;cases e
 |some k =>
  rw[hx,hk]at e;simp only at e;split at e
  ·next hl =>
   cases e;obtain⟨p,j,ws,rfl,ej,hi,hs,hp,rk⟩:=TH l3 (r2.mn m3) hx;cases ej;obtain⟨l4,m4⟩:=l3.Bc hi hs (rk.put k (r1.mn (m2.trans m3)));have mm:=((m1.trans m2).trans m3).trans m4;refine⟨p,_,rfl,?_,q σ _ ρ3 mm l4 (rs.mn mm)⟩;rw[C6 r3 hk];exact u7.k hp (by rw[rk.length];exact Ox hl)
  ·cases e
abbrev Gm:ao->Dm (List (D×D)):=λ_ st=>some ([],st)
abbrev vV(fk fv:ao->Dm D)(fr:ao->Dm (List (D×D))):ao->Dm (List (D×D)):=λδ st=>bnd (fk δ st) λk st1=>bnd (fv δ st1) λv st2=>bnd (fr δ st2) λr st3=>some ((k,v) :: r,st3)
abbrev keysOf:List (D×D)->Option (List (Key×D))
 |[]=>some []
 |(k,v) :: r=>match keyOf k,keysOf r with
  |some k',some r'=>some ((k',v) :: r')
  |_,_=>none
abbrev vW(kvs more:List (Key×D)):List (Key×D):=more.foldl (λacc kv=>putD acc kv.1 kv.2) kvs
abbrev zm(fp:ao->Dm (List (D×D))):ao->Dm D:=λδ st=>bnd (fp δ (st ++ [.dct []])) λps st2=>match st2[st.length]?,keysOf ps with
 |some (.dct []),some kvs=>if kvs.length<=15 then some (.ref st.length,st2.set st.length (.dct (vW [] kvs)))else none
 |_,_=>none
end
section
variable {st:Store}{δ:ao}{Q:D->Store->Prop}
def ZH:Wp (vU δ st) Q↔Q (.ref st.length) (st ++ [.dct []]):=bh
def ZI{fd fy:ao->Dm D}:Wp (zk fd fy δ st) Q↔Wp (fd δ st) λx st1=>Wp (fy δ st1) λy st2=>∃kvs k v,lS st2 x=some kvs/\keyOf y=some k/\fe kvs k=some v/\Q v st2:=by
 unfold zk;rw[d4];simp only[d4];constructor<;>refineλh=>aS h λx s h=>aS h λy s2 h=>?_
 ·split at h
  ·next kvs k h1 h2 =>
   split at h
   ·next v h3=>exact⟨kvs,k,v,by assumption,by assumption,h3,bh.mp h⟩
   ·exact(iH.mp h).elim
  ·exact(iH.mp h).elim
 ·obtain⟨kvs,k,v,h1,h2,h3,h⟩:=h
  rw[h1,h2];simp only[h3];exact bh.mpr h
def BB{neg:Bool}{fd fy:ao->Dm D}:Wp (xP neg fy fd δ st) Q↔Wp (fy δ st) λy st1=>Wp (fd δ st1) λx st2=>∃kvs k,lS st2 x=some kvs/\keyOf y=some k/\Q (.bl (if neg then !(fe kvs k).isSome else(fe kvs k).isSome)) st2:=by
 unfold xP;rw[d4];simp only[d4];constructor<;>refineλh=>aS h λx s h=>aS h λy s2 h=>?_
 ·split at h
  ·next kvs k h1 h2=>exact⟨kvs,k,by assumption,by assumption,bh.mp h⟩
  ·exact(iH.mp h).elim
 ·obtain⟨kvs,k,h1,h2,h⟩:=h
  rw[h1,h2];exact bh.mpr h
def ZJ{R:List (D×D)->Store->Prop}:Wp (Gm δ st) R↔R [] st:=bh
def ZK{fk fv:ao->Dm D}{fr:ao->Dm (List (D×D))}{R:List (D×D)->Store->Prop}:Wp (vV fk fv fr δ st) R↔Wp (fk δ st) λk st1=>Wp (fv δ st1) λv st2=>Wp (fr δ st2) λr st3=>R ((k,v) :: r) st3:=by unfold vV;rw[d4];simp only[d4,bh]
def ZL{fp:ao->Dm (List (D×D))}:Wp (zm fp δ st) Q↔Wp (fp δ (st ++ [.dct []])) λps st2=>st2[st.length]?=some (.dct [])/\∃kvs,keysOf ps=some kvs/\kvs.length<=15/\Q (.ref st.length) (st2.set st.length (.dct (vW [] kvs))):=by
 unfold zm;rw[d4];constructor<;>refineλh=>aS h λps s h=>?_
 ·split at h
  ·next kvs h1 h2 =>
   rw[qy,bh,iH]at h;split at h
   ·next hl=>exact⟨by assumption,kvs,by assumption,hl,h⟩
   ·exact h.elim
  ·exact(iH.mp h).elim
 ·obtain⟨h1,kvs,h2,h3,h⟩:=h
  rw[h1,h2];simp only[if_pos h3];exact bh.mpr h
def ZM(h:Wp (fv δ st) λv st1=>Wp (fd δ st1) λx st2=>Wp (fy δ st2) λy st3=>∃i kvs k,x=.ref i/\lS st3 x=some kvs/\keyOf y=some k/\lim kvs.length=true/\N δ (st3.set i (.dct (putD kvs k v)))):Ws (um fd fy fv δ st) N B C R:=by unfold Ws um;rw[d4];refine aS h λv st1 h=>?_;rw[d4];refine aS h λx st2 h=>?_;rw[d4];refine aS h λy st3 h=>?_;obtain⟨i,kvs,k,rfl,h1,h2,h3,h⟩:=h;rw[h1,h2];simp only[h3];exact bh.mpr h
end
structure Ex(c:List Nat)(st st':Store):Prop where
 len:st.length<=st'.length
 keep:∀(i:Nat) (o:O),st[i]?=some o->i ∉ c->st'[i]?=some o
section
variable {c c':List Nat}{st st1 st2:Store}{i:Nat}{o:O}{ds:List D}
def Ex.refl:Ex c st st:=⟨Zag _,λ_ _ h _=>h⟩
def Ex.trans(a:Ex c st st1)(b:Ex c st1 st2):Ex c st st2:=⟨Zal a.len b.len,λi o h n=>b.keep i o (a.keep i o h n) n⟩
def Ex.mono(a:Ex c st st1)(h:∀x∈c,x∈c'):Ex c' st st1:=⟨a.len,λi o e n=>a.keep i o e λz=>n (h i z)⟩
def Ex.any(a:Ex [] st st1):Ex c st st1:=a.mono λx h=>nomatch h
def ff{α:Type}{l:List α}{i:Nat}{o:α}(h:l[i]?=some o):i<l.length:=(Zac.mp h).1
def km{l m:List O}(h:l[i]?=some o):(l ++ m)[i]?=some o:=by rw[Zap (ff h)];exact h
def i7:(l ++ [o])[l.length]?=some o:=by rw[Zax (Zag _),Zbj];rfl
def Ex.app(a:Ex c st st1)(m:List O):Ex c st (st1 ++ m):=⟨by rw[Zae];exact Zal a.len (ZcG _ _),λi o h n=>km (a.keep i o h n)⟩
def Ex.cZ(m:List O):Ex c st (st ++ m):=Ex.refl.app m
def Ex.put(a:Ex c st st1)(h:i∈c):Ex c st (st1.set i o):=⟨by rw[Zbc];exact a.len,λj u e n=>by rw[Zat (λz=>n (by rw[<- z];exact h))];exact a.keep j u e n⟩
def Ex.loc(a:Ex c st st1)(h:st.length<=i):Ex c st (st1.set i o):=⟨by rw[Zbc];exact a.len,λj u e n=>by rw[Zat (by have:=ff e;lk)];exact a.keep j u e n⟩
def bO(h:st[i]?=some (.lst ds)):items st i=some ds:=by unfold items;rw[h]
def OS(h:st[i]?=some (.rM ds)):items st i=some ds:=by unfold items;rw[h]
def mC(h:st[i]?=some (.lst ds)):own st i=some ds:=by unfold own;rw[h]
def rm:items (st ++ [.lst ds]) st.length=some ds:=bO i7
def ZN:own (st ++ [.lst ds]) st.length=some ds:=mC i7
def ZO{o':O}:items (st ++ [.lst ds] ++ [o']) st.length=some ds:=bO (km i7)
def ZP{o':O}:own (st ++ [.lst ds] ++ [o']) st.length=some ds:=mC (km i7)
def ZQ{o' o2:O}:items (st ++ [.lst ds] ++ [o'] ++ [o2]) st.length=some ds:=bO (km (km i7))
def ZR{o' o2:O}:own (st ++ [.lst ds] ++ [o'] ++ [o2]) st.length=some ds:=mC (km (km i7))
def ZT{lo hi:Int}:lA (st ++ [.lB lo hi]) (.ref st.length)=some (lo,hi):=by simp only[lA,i7]
def zo:b7 st (.tup ds)=some ds:=rfl
def ZU:b7 st (.ref i)=items st i:=rfl
def qh(h:(items st i).isSome=true):wO "list" st (.ref i)=true:=by simp only[wO,h];rfl
def TM:wO "tuple" st (.tup ds)=true:=by simp only[wO];rfl
def nh(h:n<=100000):lim n=true:=Nat.ble_eq_true_of_le h
end
section
variable {st:Store}{Q:D->Store->Prop}{i j:Int}{k:Nat}{ds es:List D}
def ZV{a:D}:Wp (c5 [a] st) Q↔∃p,lA st a=some p/\sr p.1 p.2=true/\Q (.ref st.length) (st ++ [.lst (aL p.1 (p.2-p.1).toNat)]):=by
 show Wp (match lA st a with|some (lo,hi)=>if sr lo hi=true then some (D.ref st.length,st ++ [O.lst (aL lo (hi-lo).toNat)])else none|none=>none) Q↔_;cases lA st a with
 |none=>rw[iH];exact⟨False.elim,λ⟨_,e,_⟩=>by cases e⟩
 |some p =>
  obtain⟨lo,hi⟩:=p;show Wp (if sr lo hi=true then some (D.ref st.length,st ++ [O.lst (aL lo (hi-lo).toNat)])else none) Q↔_;rw[qy,bh,iH];split
  ·next h=>exact⟨λq=>⟨_,rfl,h,q⟩,λ⟨_,e,_,q⟩=>by cases e;exact q⟩
  ·next h=>exact⟨False.elim,λ⟨_,e,q,_⟩=>by cases e;exact h q⟩
def ZW{a:D}:Wp (xK [a] st) Q↔∃p,lA st a=some p/\sr p.1 p.2=true/\Q (.tup (aL p.1 (p.2-p.1).toNat)) st:=by
 show Wp (match lA st a with|some (lo,hi)=>if sr lo hi=true then some (D.tup (aL lo (hi-lo).toNat),st)else none|none=>none) Q↔_;cases lA st a with
 |none=>rw[iH];exact⟨False.elim,λ⟨_,e,_⟩=>by cases e⟩
 |some p =>
  obtain⟨lo,hi⟩:=p;show Wp (if sr lo hi=true then some (D.tup (aL lo (hi-lo).toNat),st)else none) Q↔_;rw[qy,bh,iH];split
  ·next h=>exact⟨λq=>⟨_,rfl,h,q⟩,λ⟨_,e,_,q⟩=>by cases e;exact q⟩
  ·next h=>exact⟨False.elim,λ⟨_,e,q,_⟩=>by cases e;exact h q⟩
def BD:Wp (vO (.ref k) (.int j) st) Q↔∃xs,own st k=some xs/\(-9223372036854775808<=j/\j<9223372036854775808)/\lim (xs.length*j.toNat)=true/\Q (.ref st.length) (st ++ [.lst (List.replicate j.toNat xs).flatten]):=by
 show Wp (match own st k with|some a=>if(decide (-9223372036854775808<=j/\j<9223372036854775808) && lim (a.length*j.toNat))=true then some (D.ref st.length,st ++ [O.lst (List.replicate j.toNat a).flatten])else none|_=>none) Q↔_;cases own st k with
 |none=>simp only[iH];exact⟨False.elim,λ⟨_,e,_⟩=>by cases e⟩
 |some xs =>
  show Wp (if(decide (-9223372036854775808<=j/\j<9223372036854775808) && lim (xs.length*j.toNat))=true then some (D.ref st.length,st ++ [O.lst (List.replicate j.toNat xs).flatten])else none) Q↔_;rw[qy,bh,iH];split
  ·next h=>rw[ZaB,decide_eq_true_eq]at h;exact⟨λq=>⟨_,rfl,h.1,h.2,q⟩,λ⟨_,e,_,_,q⟩=>by cases e;exact q⟩
  ·next h=>rw[ZaB,decide_eq_true_eq]at h;exact⟨False.elim,λ⟨_,e,q,q',_⟩=>by cases e;exact h ⟨q,q'⟩⟩
def ZX:Wp (oK (.ref k) [.int i] st) Q↔∃xs j y,own st k=some xs/\(-9223372036854775808<=i/\i<9223372036854775808)/\seqIndex? i xs.length=some j/\xs[j]?=some y/\Q y (st.set k (.lst (xs.eraseIdx j))):=by
 constructor
 ·rintro⟨a,s,e,q⟩
  simp only[oK]at e;split at e
  ·next xs hx =>
   split at e
   ·next hk =>
    split at e
    ·next j hj =>
     split at e
     ·next y hy=>cases e;exact⟨xs,j,_,hx,of_decide_eq_true hk,hj,hy,q⟩
     ·cases e
    ·cases e
   ·cases e
  ·cases e
 ·rintro⟨xs,j,y,hx,hk,hj,hy,q⟩
  refine⟨_,_,?_,q⟩;simp only[oK,hx,hj,hy,decide_eq_true hk];rfl
def ZY{b:Nat}:Wp (qK (.ref k) [.ref b] st) Q↔∃xs ys,own st k=some xs/\own st b=some ys/\lim (xs.length+ys.length)=true/\Q .non (st.set k (.lst (xs ++ ys))):=by
 constructor
 ·rintro⟨a,s,e,q⟩
  simp only[qK]at e;split at e
  ·next xs ys hx hy =>
   split at e
   ·next hl=>cases e;exact⟨xs,ys,hx,hy,hl,q⟩
   ·cases e
  ·cases e
 ·rintro⟨xs,ys,hx,hy,hl,q⟩
  refine⟨_,_,?_,q⟩;simp only[qK,hx,hy,hl];rfl
def TN{v:Int}:Wp (lP (.tup ds) [.int v] st) Q↔∃ns j,bB iV ds=some ns/\ns.findIdx? (λi=>decide (i=v))=some j/\Q (.int (j:Int)) st:=by
 constructor
 ·rintro⟨a,s,e,q⟩
  simp only[lP]at e;split at e
  ·next ns hn =>
   split at e
   ·next j hj=>cases e;exact⟨ns,j,hn,hj,q⟩
   ·cases e
  ·cases e
 ·rintro⟨ns,j,hn,hj,q⟩
  refine⟨_,_,?_,q⟩;simp only[lP,hn,hj]
def ZZ{v:Int}{ns:List Int}(h:items st k=some (ns.map D.int))(hv:v∈ns)(hl:ns.length<=1000)(hb:∀i∈ns,-1000000000000000000<=i/\i<=1000000000000000000):Wp (mB (.ref k) [.int v] st) Q↔Q (.int (ns.idxOf v:Int)) st:=by
 have e:bB iV (ns.map D.int)=some ns:=by
  have:=xI (f:=iV) (g:=D.int) (k:=id) (λ_=>rfl) ns;rw[this,Zck]
 have e2:mB (.ref k) [.int v] st=some (.int (ns.idxOf v:Int),st):=by
  simp only[mB,h,Za7,e];rw[if_pos ⟨hv,hl,hb⟩]
 rw[e2,bh]
def BE:Wp (Bh [.ref k] st) Q↔∃ds bs,items st k=some ds/\bB bV ds=some bs/\Q (.bl (bs.all id)) st:=by
 constructor
 ·rintro⟨a,s,e,q⟩
  simp only[Bh]at e;split at e
  ·next bs hb =>
   cases e;obtain⟨ds,h1,h2⟩:=Za4.mp hb;exact⟨ds,bs,h1,h2,q⟩
  ·cases e
 ·rintro⟨ds,bs,h1,h2,q⟩
  refine⟨_,_,?_,q⟩;simp only[Bh,h1,Za7,h2]
def Gn:Wp (rP neg a c st) Q↔∃x ds vs,sV a=some x/\b7 st c=some ds/\bB sV ds=some vs/\Q (.bl (if neg then !yw x vs else yw x vs)) st:=by
 constructor
 ·rintro⟨b,s,e,q⟩
  simp only[rP]at e;split at e
  ·next x vs h1 h2 =>
   cases e;obtain⟨ds,h3,h4⟩:=Za4.mp h2;exact⟨x,ds,vs,h1,h3,h4,q⟩
  ·cases e
 ·rintro⟨x,ds,vs,h1,h2,h3,q⟩
  refine⟨_,_,?_,q⟩;simp only[rP,h1,h2,Za7,h3]
def TQ(ns:List Int):bB sV (ns.map D.int)=some (ns.map V.int):=xI (f:=sV) (g:=D.int) (k:=V.int) (λ_=>rfl) ns
def OT(ns:List Int):bB iV (ns.map D.int)=some ns:=by have:=xI (f:=iV) (g:=D.int) (k:=id) (λ_=>rfl) ns;rw[this,Zck]
def Gp:Wp (jQ neg a b st) Q↔∃p q,fX st 20 a=some p/\fX st 20 b=some q/\(PyData.canLay0 p=true/\PyData.canLay0 q=true/\min p.depth q.depth<=60)/\Q (.bl (if neg then !PyData.eqv p q else PyData.eqv p q)) st:=by
 constructor
 ·rintro⟨c,s,e,q⟩
  simp only[jQ]at e;split at e
  ·next x y h1 h2 =>
   split at e
   ·next hs =>
    cases e;rw[ZaB,ZaB,decide_eq_true_eq]at hs;exact⟨x,y,h1,h2,⟨hs.1.1,hs.1.2,hs.2⟩,q⟩
   ·cases e
  ·cases e
 ·rintro⟨x,y,h1,h2,⟨h3,h4,h5⟩,q⟩
  refine⟨_,_,?_,q⟩;simp only[jQ,h1,h2,h3,h4,decide_eq_true h5];rfl
def BF{z:Str}:Wp (Be (.str z) (.int i) st) Q↔∃c,lim z.length=true/\eZ z.cps.toList i=some c/\Q (.str ⟨#[c]⟩) st:=by
 constructor
 ·rintro⟨c,s,e,q⟩
  simp only[Be]at e;split at e
  ·next h1 =>
   split at e
   ·next c hc=>cases e;exact⟨c,h1,hc,q⟩
   ·cases e
  ·cases e
 ·rintro⟨c,h1,h2,q⟩
  refine⟨_,_,?_,q⟩;simp only[Be,h1,h2];rfl
def Z0{δ:ao}{fa:ao->Dm (List D)}{R:Src->Store->Prop}:Wp (b9 fa δ st) R↔Wp (fa δ st) λas st1=>∃j,as=[.int j]/\(-4611686018427387904<=j/\j<4611686018427387904)/\R (.fix (aL 0 j.toNat)) st1:=by
 unfold b9;rw[d4];constructor<;>refineλh=>aS h λas s h=>?_
 ·split at h
  ·next j =>
   rw[qy,bh,iH]at h;split at h
   ·next hk=>exact⟨j,rfl,of_decide_eq_true hk,h⟩
   ·exact h.elim
  ·exact(iH.mp h).elim
 ·obtain⟨j,rfl,h1,h⟩:=h
  simp only[decide_eq_true h1,if_true];exact bh.mpr h
def Z1{δ:ao}{fa:ao->Dm (List D)}{R:Src->Store->Prop}:Wp (qN fa δ st) R↔Wp (fa δ st) λas st1=>∃i j,as=[.int i,.int j]/\((-4611686018427387904<=i/\i<4611686018427387904)/\-4611686018427387904<=j/\j<4611686018427387904)/\R (.fix (aL i (j-i).toNat)) st1:=by
 unfold qN;rw[d4];constructor<;>refineλh=>aS h λas s h=>?_
 ·split at h
  ·next i j =>
   rw[qy,bh,iH]at h;split at h
   ·next hk=>exact⟨i,j,rfl,of_decide_eq_true hk,h⟩
   ·exact h.elim
  ·exact(iH.mp h).elim
 ·obtain⟨i,j,rfl,h1,h⟩:=h
  simp only[decide_eq_true h1,if_true];exact bh.mpr h
def Z2{δ:ao}{fa:ao->Dm D}{R:Src->Store->Prop}:Wp (cQ fa δ st) R↔Wp (fa δ st) λa st1=>∃ds,a=.tup ds/\R (.fix ds) st1:=by unfold cQ;rw[d4];constructor<;>refineλh=>aS h λa s h=>?_;cases a<;>simp only[bh,iH]at h;exact⟨_,rfl,h⟩;obtain⟨j,rfl,h⟩:=h;exact bh.mpr h
def Z3{δ:ao}{fa:ao->Dm D}{R:Src->Store->Prop}:Wp (oM fa δ st) R↔Wp (fa δ st) λa st1=>∃i ds,a=.ref i/\items st1 i=some ds/\R (.live i) st1:=by
 unfold oM;rw[d4];constructor<;>refineλh=>aS h λa s h=>?_
 ·split at h
  ·split at h
   ·next i ds hd=>exact⟨_,ds,rfl,hd,bh.mp h⟩
   ·exact(iH.mp h).elim
  ·exact(iH.mp h).elim
 ·obtain⟨i,ds,rfl,hd,h⟩:=h
  simp only[hd];exact bh.mpr h
def Z4{δ:ao}{fa:ao->Dm (List D)}{R:Src->Store->Prop}:Wp (lR fa δ st) R↔Wp (fa δ st) λas st1=>∃ds,as=[.tup ds]/\R (.fix (fY ds)) st1:=by unfold lR;rw[d4];constructor<;>refineλh=>aS h λas s h=>?_;split at h;exact⟨_,rfl,bh.mp h⟩;exact(iH.mp h).elim;obtain⟨ds,rfl,h⟩:=h;exact bh.mpr h
def Ls{i:Nat}{d:D}{δ:ao}{R:ao->Store->Prop}:Wp (hName i d δ st) R↔R (δ.set i (some d)) st:=bh
def Z5{δ:ao}{R:ao->Store->Prop}:Wp (lQ [] δ st) R↔R δ st:=bh
def Z6{f:D->ao->Dm ao}{g:List D->ao->Dm ao}{d:D}{ds:List D}{δ:ao}{R:ao->Store->Prop}:Wp (bx f g (d :: ds) δ st) R↔Wp (f d δ st) λδ1 st1=>Wp (g ds δ1 st1) R:=d4
def TR{n:Nat}{f:List D->ao->Dm ao}{ds:List D}{δ:ao}{R:ao->Store->Prop}:Wp (lH n f (.tup ds) δ st) R↔ds.length=n/\Wp (f ds δ st) R:=by
 show Wp (if ds.length=n then f ds δ st else none) R↔_;rw[qy,iH];split
 ·next h=>exact⟨λq=>⟨h,q⟩,λq=>q.2⟩
 ·next h=>exact⟨False.elim,λq=>h q.1⟩
def Z7{fo fi:ao->Dm D}{d:D}{δ:ao}{R:ao->Store->Prop}:Wp (hSub fo fi d δ st) R↔Wp (fo δ st) λo st1=>Wp (fi δ st1) λi st2=>∃r k xs j,o=.ref r/\i=.int k/\own st2 r=some xs/\oV xs.length k=some j/\R δ (st2.set r (.lst (xs.set j d))):=by
 unfold hSub;rw[d4];simp only[d4];constructor<;>refineλh=>aS h λo s h=>aS h λi s2 h=>?_
 ·split at h
  ·split at h
   ·next xs hx =>
    split at h
    ·next j hj=>exact⟨_,_,xs,j,rfl,rfl,hx,hj,bh.mp h⟩
    ·exact(iH.mp h).elim
   ·exact(iH.mp h).elim
  ·exact(iH.mp h).elim
 ·obtain⟨r,k,xs,j,rfl,rfl,hx,hj,h⟩:=h
  simp only[hx,hj];exact bh.mpr h
def Z8{a:D}{c:String}:Wp (qL [a,.ty c] st) Q↔uD st a=some c/\Q (.bl true) st:=by
 constructor
 ·rintro⟨b,s,e,q⟩
  simp only[qL]at e;split at e
  ·next T hT =>
   split at e
   ·next h=>cases e;subst h;exact⟨hT,q⟩
   ·cases e
  ·cases e
 ·rintro⟨h,q⟩
  refine⟨_,_,?_,q⟩;simp only[qL,h,if_true]
def Lu{δ:ao}{R:Bool->Store->Prop}:Wp (cR δ st) R↔R true st:=bh
end
def xQ{α:Type}(x:α)(xs:List α):eZ (x :: xs) 0=some x:=by unfold eZ oV;rw[if_pos ∅,if_pos (by simp only[ZaE];lk)];rfl
def DB{α:Type}(x y:α)(xs:List α):eZ (x :: y :: xs) 1=some y:=by unfold eZ oV;rw[if_pos ∅,if_pos (by simp only[ZaE];lk)];rfl
def BG{α:Type}{a:α}{l:List α}:(a :: l)[0]?=some a:=List.getElem?_cons_zero
def BH{α:Type}{a:α}{l:List α}{i:Nat}:(a :: l)[i+1]?=l[i]?:=List.getElem?_cons_succ
def BI{α:Type}{a b:α}{l:List α}:(a :: l).set 0 b=b :: l:=List.set_cons_zero
def BJ{α:Type}{a b:α}{l:List α}{i:Nat}:(a :: l).set (i+1) b=a :: l.set i b:=List.set_cons_succ
def BK{α:Type}(a b:α):(some a=some b)=(a=b):=Option.some.injEq a b
def Gq{α:Type}{p:α->Prop}{a':α}:(∃a,a'=a/\p a)↔p a':=exists_eq_left'
def OU{α:Type}{p:α->Prop}{a':α}:(∃a,a=a'/\p a)↔p a':=exists_eq_left
def Gr{α:Type}{p:α->Prop}{b:Prop}:(∃x,b/\p x)↔b/\∃x,p x:=exists_and_left
def Gu(a b:Int):(D.int a=D.int b)=(a=b):=D.int.injEq a b
def OV(a b:Bool):(D.bl a=D.bl b)=(a=b):=D.bl.injEq a b
def Gv(a b:Str):(D.str a=D.str b)=(a=b):=D.str.injEq a b
def Gw(a b:List D):(D.tup a=D.tup b)=(a=b):=D.tup.injEq a b
def Gx(a b:Nat):(D.ref a=D.ref b)=(a=b):=D.ref.injEq a b
def BL{α:Type}(a:α)(l:List α)(b:α)(m:List α):(a :: l=b :: m)=(a=b/\l=m):=List.cons.injEq a l b m
def BM{α β:Type}(a:α)(b:β)(c:α)(d:β):((a,b)=(c,d))=(a=c/\b=d):=Prod.mk.injEq a b c d
def BN(p:Prop):(p/\True)=p:=and_true p
def BO(p:Prop):(True/\p)=p:=true_and p
def BP:(!true)=false:=rfl
def BQ:(!false)=true:=rfl
def OW:(false=true)=False:=by simp
def Gy{α:Type}{h:Decidable False}(t e:α):@ite α False h t e=e:=if_false t e
def Gz{α:Type}{h:Decidable True}(t e:α):@ite α True h t e=t:=if_true t e
abbrev bp:=And.intro @Bk (And.intro @OR (And.intro @zf (And.intro @Ga (And.intro @Lr (And.intro @Tv (And.intro @zg (And.intro @Bl (And.intro @Tw (And.intro @Zs (And.intro @Bm (And.intro @Bn (And.intro @Gb (And.intro @zh (And.intro @Zt (And.intro @Bo (And.intro @Zu (And.intro @Tx (And.intro @Tz (And.intro @zi (And.intro @Ge (And.intro @Bp (And.intro @Bq (And.intro @Gf (And.intro @Gg (And.intro @Gh (And.intro @Gi (And.intro @Br (And.intro @Bs (And.intro @Zv (And.intro @Bt (And.intro @Bu (And.intro @Bw (And.intro @Bx (And.intro @vT (And.intro @By (And.intro @Bz (And.intro @TB (And.intro @Zw (And.intro @TC (And.intro @BA (And.intro @Zx (And.intro @Zy (And.intro @Zz (And.intro @ZA (And.intro @ZC (And.intro @ZD (And.intro @ZE (And.intro @ZF (And.intro @ZG (And.intro @ZH (And.intro @ZI (And.intro @BB (And.intro @ZJ (And.intro @ZK (And.intro @ZL (And.intro @rm (And.intro @ZN (And.intro @ZO (And.intro @ZP (And.intro @ZQ (And.intro @ZR (And.intro @ZT (And.intro @zo (And.intro @ZU (And.intro @ZV (And.intro @ZW (And.intro @BD (And.intro @ZX (And.intro @ZY (And.intro @TN (And.intro @BE (And.intro @BF (And.intro @Z0 (And.intro @Z1 (And.intro @Z2 (And.intro @Z3 (And.intro @Z4 (And.intro @Ls (And.intro @Z5 (And.intro @Z6 (And.intro @TR (And.intro @Z7 (And.intro @Z8 (And.intro @Lu (And.intro @xQ (And.intro @DB (And.intro @BG (And.intro @BH (And.intro @BI (And.intro @BJ (And.intro @BK (And.intro @Gq (And.intro @OU (And.intro @Gr (And.intro @Gu (And.intro @OV (And.intro @Gv (And.intro @Gw (And.intro @Gx (And.intro @BL (And.intro @BM (And.intro @BN (And.intro @BO (And.intro @BP (And.intro @BQ (And.intro @OW (And.intro @Gy (@Gz))))))))))))))))))))))))))))))))))))))))))))))))))))))))))))))))))))))))))))))))))))))))))))))))))))))))))))
def bG{α:Type}{m:Option (α×Store)}{Q:α->Store->Prop}(h:∀Q':α->Store->Prop,(∀a st,Q a st->Q' a st)->Wp m Q'):Wp m Q:=h Q λ_ _ h=>h
section
variable {X:Cx}{K:Zfr}
def TU:∀{ns:List Int},(∀i∈ns,NM i)->PyData.weightAll (cM ns)<=65*ns.length
 |[],_=>by show PyData.weightAll []<=0;simp only[PyData.weightAll];exact Zag _
 |n :: r,h=>by
  have ih:=TU (ns:=r) λi hi=>h i (Zas _ hi);have hn:=h n Zaj;have hw:(PyData.int n).weight<=64:=by
   simp only[PyData.weight];split;lk
   have:n.natAbs<2 ^ 63:=by unfold NM at hn;lk
   have h2:n.natAbs.log2<63:=by
    by_cases h0:n.natAbs=0;rw[h0];decide;exact(Nat.log2_lt h0).mpr this
   lk
  show PyData.weightAll (PyData.int n :: cM r)<=65*(r.length+1);simp only[PyData.weightAll];lk
abbrev qO(K:Zfr):V->List V->Hp->VK->Prop:=λx vs H Q=>∃(a:Addr) (ns:List Int) (v:Int),x=.ref a/\vs=[.int v]/\j5 K H a (ns.map V.int)/\v∈ns/\ns.length<=1000/\(∀i∈ns,NM i)/\Q (.int (ns.idxOf v:Int)) H
def Z9:yr X "list.index" (qO X.K):=by
 intro pins s σ H x xs v us Q I rx rv h;obtain⟨a,ns,y,rfl,rfl,hq,hm,hl,hb,q⟩:=h;cases rx;obtain⟨u,rfl,t,rfl⟩:=vals1 rv;obtain⟨its,r,pl,hz⟩:=I.list hq
 exact PyProof.Rows.index_list_ints (vs:=its) pl.isList (Nd r) (by
  have hw:=TU hb;have c1:(PyData.list (List.map PyData.int ns)).canLay0=true:=xo ns;have c2:(PyData.list (List.map PyData.int ns)).depth<=64:=by show PyData.depthAll (cM ns)+1<=64;rw[As];lk
  have c3:(PyData.list (List.map PyData.int ns)).weight<=2 ^ 20:=by simp only[PyData.weight];exact Zal hw ⋯
  show(_ && _ && _)=true
  rw[c1,decide_eq_true c2,decide_eq_true c3];rfl) hm ⟨.int _,H,I.tok _,⟨_,rfl⟩,q⟩
def Ycr(hK:X.K=K):yr X "list.index" (qO K):=by subst hK;exact Z9
def TV:yW K "list" (qO K) mB:=by
 intro ρ H st x xs a as b st' Q l rx vP e q;unfold mB at e;split at e
 ·split at e
  ·next ns hn =>
   split at e
   ·next hm =>
    cases e;obtain⟨v,rfl,r⟩:=vP.one';cases r;cases rx with
    |ref hi =>
     obtain⟨ds,h1,h2⟩:=Za4.mp hn;obtain⟨vs,s,r⟩:=l.items hi h1;cases Lm r h2;exact⟨_,ns,_,rfl,rfl,s,hm.1,hm.2.1,hm.2.2,q _ H ρ .refl l (.int _)⟩
   ·cases e
  ·cases e
 ·cases e
end
section
variable {st:Store}{Q:D->Store->Prop}
def OX(n:Nat)(L:List Int):bB (fX st (n+1)) (L.map D.int)=some (cM L):=xI (f:=fX st (n+1)) (g:=D.int) (k:=PyData.int) (λ_=>by simp only[fX]) L
def OY(a b:List PyData):PyData.eqv (.list a) (.list b)=PyData.eqvAll a b:=by simp only[PyData.eqv]
def DC(a b:List PyData):PyData.eqv (.tuple a) (.tuple b)=PyData.eqvAll a b:=by simp only[PyData.eqv]
def TX{neg:Bool}{a b:Nat}{L M:List Int}(ha:items st a=some (L.map D.int))(hb:items st b=some (M.map D.int)):Wp (jQ neg (.ref a) (.ref b) st) Q↔Q (.bl (if neg then !decide (L=M)else decide (L=M))) st:=by
 have p1:∀(i:Nat) (N:List Int),items st i=some (N.map D.int)->fX st 20 (.ref i)=some (.list (cM N)):=λi N h=>by
  simp only[fX,h];rw[OX];rfl
 have dp:∀N:List Int,PyData.depth (.list (cM N))<=1:=λN=>by show PyData.depthAll (cM N)+1<=1;rw[As];lk
 rw[Gp];constructor;rintro⟨p,q,h1,h2,_,h⟩;rw[p1 a L ha]at h1;rw[p1 b M hb]at h2;cases h1;cases h2;rw[OY,Au]at h;exact h;intro h;refine⟨_,_,p1 a L ha,p1 b M hb,⟨xo L,xo M,by have:=dp L;lk⟩,?_⟩;rw[OY,Au];exact h
def Ydr{neg:Bool}{L M:List Int}:Wp (jQ neg (.tup (L.map D.int)) (.tup (M.map D.int)) st) Q↔Q (.bl (if neg then !decide (L=M)else decide (L=M))) st:=by
 have p1:∀(N:List Int),fX st 20 (.tup (N.map D.int))=some (.tuple (cM N)):=λN=>by
  simp only[fX];rw[OX];rfl
 have dp:∀N:List Int,PyData.depth (.tuple (cM N))<=1:=λN=>by show PyData.depthAll (cM N)+1<=1;rw[As];lk
 rw[Gp];constructor;rintro⟨p,q,h1,h2,_,h⟩;rw[p1 L]at h1;rw[p1 M]at h2;cases h1;cases h2;rw[DC,Au]at h;exact h;intro h;refine⟨_,_,p1 L,p1 M,⟨xo L,xo M,by have:=dp L;lk⟩,?_⟩;rw[DC,Au];exact h
abbrev GA(rs:List (List Int)):D:=.tup (rs.map λr=>.tup (r.map D.int))
def OZ(rs:List (List Int)):fX st 20 (GA rs)=some (.tuple (rs.map nC)):=by unfold GA;simp only[fX];rw[xI (f:=fX st 19) (g:=λr:List Int=>D.tup (r.map D.int)) (k:=nC) (λr=>by simp only[fX];rw[OX];rfl) rs];rfl
def O0:∀(rs ss:List (List Int)),PyData.eqvAll (rs.map nC) (ss.map nC)=decide (rs=ss)
 |[],[]=>rfl
 |[],_ :: _=>rfl
 |_ :: _,[]=>rfl
 |r :: rs,s :: ss=>by
  show(PyData.eqv (nC r) (nC s) && PyData.eqvAll (rs.map nC) (ss.map nC))=decide (r :: rs=s :: ss);rw[O0 rs ss];unfold nC;rw[DC,Au];by_cases h:r=s;subst h;simp;simp[h]
def xdr:Wp (jQ neg (GA rs) (GA ss) st) Q↔Q (.bl (if neg then !decide (rs=ss)else decide (rs=ss))) st:=by
 have dp:∀rs:List (List Int),PyData.depth (.tuple (rs.map nC))<=2:=λN=>by show PyData.depthAll (N.map nC)+1<=2;have:=RA N;lk
 rw[Gp];constructor;rintro⟨p,q,h1,h2,_,h⟩;rw[OZ]at h1 h2;cases h1;cases h2;rw[DC,O0]at h;exact h;intro h;refine⟨_,_,OZ rs,OZ ss,⟨NL rs,NL ss,by have:=dp rs;lk⟩,?_⟩;rw[DC,O0];exact h
end
abbrev bP(st:Store)(f:Nat):Prop:=∃o m:Int,st[f]?=some (.lst [.int o,.int m])/\0<=o/\0<=m/\m<4294967296
def GB:oV 2 0=some 0:=by decide
def GD:oV 2 1=some 1:=by decide
def uo(n:Nat):aL 0 n=(ae.upto n).map D.int:=by unfold aL ae.upto;rw[ZaJ];apply ZaU;intro i _;simp
def xcr(L:List Int)(j:Nat):(L.map D.int).eraseIdx j=(L.eraseIdx j).map D.int:=by
 induction L generalizing j with
 |nil=>rfl
 |cons a r ih =>
  cases j with
  |zero=>rfl
  |succ j=>show D.int a :: (r.map D.int).eraseIdx j=_;rw[ih];rfl
def Yb8{L:List Int}{j:Nat}(h:j<L.length):(L[j] :: L.eraseIdx j).Perm L:=by
 induction L generalizing j with
 |nil=>exact absurd h (Za0 _)
 |cons a r ih =>
  cases j with
  |zero=>exact Zcf _
  |succ j =>
   have:=ih (j:=j) (by simpa using h);exact(List.Perm.swap _ _ _).trans (this.cons a)
def bP.keep(h:bP st f)(e:Ex [] st st'):bP st' f:=by obtain⟨o,m,e1,r⟩:=h;exact⟨o,m,e.keep _ _ e1 (by simp),r⟩
def bP.ne(h:bP st f)(hi:i≠f):bP (st.set i o) f:=by obtain⟨x,m,e1,r⟩:=h;exact⟨x,m,by rw[Zat hi];exact e1,r⟩
def bP.lt{st:Store}{f:Nat}(h:bP st f):f<st.length:=let ⟨_,_,e,_⟩:=h;ff e
def sv{xs:List Int}{i:Int}(h0:0<=i)(h1:i<(xs.length:Int)):eZ (xs.map D.int) i=some (.int (ae.app xs i)):=by
 have e:(xs.map D.int)[i.toNat]?=some (.int (ae.app xs i)):=by rw[Zad,ae.rL h0 h1];rfl
 have:=yq e
 rwa [ZaG h0]at this
def GF{xs:List Int}{i:Nat}{d:D}(h:(xs.map D.int)[i]?=some d):∃x,xs[i]?=some x/\d=.int x:=by rw[Zad]at h;obtain⟨x,h1,h2⟩:=Zaz.mp h;exact⟨x,h1,h2.symm⟩
def O1(x:Int):∀(ns:List Int),yw (.int x) (ns.map V.int)=ns.contains x
 |[]=>rfl
 |n :: r=>by
  have e:=O1 x r;unfold yw at e ⊢;rw[ZaD,Zbm,e,List.contains_cons]
  congr 1
  show(n == x)=(x == n);exact Bool.beq_comm
def zp{st:Store}{Q:D->Store->Prop}{neg:Bool}{x:Int}{c:D}{ns:List Int}(hc:b7 st c=some (ns.map D.int)):Wp (rP neg (.int x) c st) Q↔Q (.bl (if neg then !ns.contains x else ns.contains x)) st:=by rw[Gn];constructor;rintro⟨v,ds,vs,h1,h2,h3,h⟩;cases h1;rw[hc]at h2;cases h2;rw[TQ]at h3;cases h3;rw[O1]at h;exact h;intro h;refine⟨_,_,_,rfl,hc,TQ ns,?_⟩;rw[O1];exact h
abbrev b5(xs ys:List Int):D:=.tup [.tup (xs.map D.int),.tup (ys.map D.int)]
structure sx(ny st:Store)(f r u:Nat)(n:Nat)(X Y:List Int):Prop where
 hr:st[r]?=some (.lst (X.map D.int))
 hu:st[u]?=some (.lst (Y.map D.int))
 ne:r≠u
 r0:ny.length<=r
 u0:ny.length<=u
 tX:ae.Tn n X
 tY:ae.Tn n Y
 fd:bP st f
 ex:Ex [f] ny st
section
variable {ny st st':Store}{f r u n:Nat}{X Y Z:List Int}{o:O}
def sx.keep(h:sx ny st f r u n X Y)(e:Ex [] st st'):sx ny st' f r u n X Y:=⟨e.keep _ _ h.hr (by simp),e.keep _ _ h.hu (by simp),h.ne,h.r0,h.u0,h.tX,h.tY,h.fd.keep e,h.ex.trans e.any⟩
def sx.put(h:sx ny st f r u n X Y)(t:ae.Tn n Z)(hf:f<ny.length):sx ny (st.set r (.lst (Z.map D.int))) f r u n Z Y:=⟨Zao (ff h.hr),by rw[Zat h.ne];exact h.hu,h.ne,h.r0,h.u0,t,h.tY,h.fd.ne (by have:=h.r0;lk),h.ex.loc h.r0⟩
end
def TY(n:Nat):(ae.tW n).map D.int=aL 1 ((n:Int)-1).toNat ++ [.int 0]:=by unfold ae.tW aL;rw[Zav,ZaJ,show((n:Int)-1).toNat=n-1 by lk];rfl
def wV(h:0<=lo/\lo<=10000/\0<=hi/\hi<=10000):sr lo hi=true:=by unfold sr;rw[ZaB,decide_eq_true_eq];exact⟨by lk,nh ⋯⟩
def BR(w n:Nat):(ae.xw w n).map D.int=aL 1 ((w:Int)-1).toNat ++ [.int 0] ++ aL (w:Int) ((n:Int)-(w:Int)).toNat:=by unfold ae.xw aL;rw[Zav,Zav,ZaJ,ZaJ,show((w:Int)-1).toNat=w-1 by lk,show((n:Int)-(w:Int)).toNat=n-w by lk];rfl
def Xdr(xs:List D)(j:Nat):cutD xs none (some (j:Int))=xs.take j:=by unfold cutD;rw[HT.WJ,HT.WK,ZcW,Nat.sub_zero,List.take_eq_take_iff];lk
def BS(h0:0<w)(h:w<n):(ae.xx w n).map D.int=cutD ([D.int (w:Int)] ++ aL 1 ((w:Int)-1).toNat ++ aL ((w:Int)+1) ((n:Int)-((w:Int)+1)).toNat ++ [.int 0]) none (some (n:Int)):=by rw[Xdr,List.take_of_length_le (by simp[gO];lk)];unfold ae.xx aL;rw[Zav,Zav,Zav,ZaJ,ZaJ,show((w:Int)-1).toNat=w-1 by lk,show((n:Int)-((w:Int)+1)).toNat=n-(w+1) by lk];rfl
abbrev pX(n:Nat)(xs ys:List Int):Prop:=ae.Tn n xs/\ae.Tn n ys/\∀x:Int,0<=x->x<(n:Int)->ae.lK xs ys x
def T1{xs:List Int}{v:Int}(h:v∈xs):xs.findIdx? (λi=>decide (i=v))=some (xs.idxOf v):=by
 induction xs with
 |nil=>exact nomatch h
 |cons a r ih =>
  rw[List.findIdx?_cons];by_cases e:a=v;subst e;simp;have hm:v∈r:=by
   rcases ZaC.mp h with h|h
   exact absurd h.symm e;exact h
  rw[decide_eq_false e,ih hm,List.idxOf_cons,show(a == v)=false by simpa using e];rfl
abbrev pY(S:Src)(ds:List D)(st:Store):Prop:=∀(i:Nat) (st2:Store),i<=ds.length->Ex [] st st2->S.at i st2=some ds[i]?
def Xcr(h:items st r=some ds)(e:Ex [] st st'):items st' r=some ds:=by
 unfold items at h ⊢;cases hx:st[r]? with
 |none=>rw[hx]at h;cases h
 |some o=>rw[e.keep _ _ hx (by simp)];rw[hx]at h;exact h
def sX(ds:List D)(st:Store):pY (.fix ds) ds st:=λi st2 hi _=>by
 show(if i<=ds.length then some ds[i]? else none)=_;rw[if_pos hi]
def yc1(h:items st r=some ds):pY (.live r) ds st:=λi st2 hi e=>by
 show(items st2 r).map _=_;rw[Xcr h e];rfl
def vX(ds:List D)(h:D->D)(hi:Wp (fi δ st) λS st1=>pY S ds st1/\Ex [] st st1)(hl:ds.length<100000)
  (step:∀d∈ds,∀st1,Ex [] st st1->Wp (f (some d :: js.map λj=>δ.getD j none) st1) λy st2=>y=h d/\Ex [] st1 st2) (fin:∀st',Ex [] st st'->Q (.ref st'.length) (st' ++ [.lst (ds.map h)])):Wp (cu fi 1 js (hName 0) cR f δ st) Q:=by
 obtain⟨S,st1,e1,hS,k1⟩:=hi;refine Gk ds (λi ys δ' lI=>(∃v,δ'=v :: js.map λj=>δ.getD j none)/\ys=(ds.take i).map h/\Ex [] st1 lI) ⟨S,st1,e1,λi ys δ' lI hi' hp=>hS i lI hi' hp.2.2,⟨none,rfl⟩,rfl,Ex.refl⟩ hl ?_ ?_ ?_;rintro i ys δ' lI ⟨_,rfl,_⟩;rw[Zaa,ZbH];lk;rintro i d ys δ' lI hd ⟨⟨v,rfl⟩,rfl,k8⟩;rw[Ls];show Wp (cR _ _) _;rw[Lu];refine⟨λ_=>?_,λh=>absurd h ∅⟩;refine aS (step d (Zai hd) lI (k1.trans k8)) ?_;rintro y rS ⟨rfl,k9⟩;refine⟨⟨some d,rfl⟩,?_,k8.trans k9⟩;obtain⟨hlt,e⟩:=Zac.mp hd;rw[ZaK hlt,Zav,e];rfl;rintro ys δ' lI ⟨_,rfl,k8⟩;rw[Zbg];exact fin lI (k1.trans k8)
def BU{xs:List Int}{d:D}(h:d∈xs.map D.int):∃x∈xs,d=.int x:=by obtain⟨x,hx,rfl⟩:=Zau.mp h;exact⟨x,hx,rfl⟩
def GG{xs:List Int}{f:Int->Int}{h:D->D}(e:∀x∈xs,h (.int x)=.int (f x)):(xs.map D.int).map h=(xs.map f).map D.int:=by rw[ZaJ,ZaJ];exact ZaU λx hx=>e x hx
abbrev inD:D->Int
 |.int i=>i
 |_=>0
section
variable {st:Store}{Q:D->Store->Prop}
def zds:Wp (jQ neg (b5 xs ys) (b5 zs ws) st) Q↔Q (.bl (if neg then !decide ([xs,ys]=[zs,ws])else decide ([xs,ys]=[zs,ws]))) st:=xdr (rs:=[xs,ys]) (ss:=[zs,ws])
def BV:Wp (jQ neg (.tup [.int a,.int b]) (.tup [.int c,.int d]) st) Q↔Q (.bl (if neg then !decide ([a,b]=[c,d])else decide ([a,b]=[c,d]))) st:=Ydr (L:=[a,b]) (M:=[c,d])
end
def O2(zs:List Int):(zs.map D.int).map inD=zs:=by rw[ZaJ];exact Zck zs
def _root_.ae.xR(fl:pX n xs ys)(tp:ae.Tn n p)(n0:0<n):pX n (ae.anew xs p) (ae.anew ys p):=by
 obtain⟨tx,ty,all⟩:=fl;have tX:=tx.anew tp;have tY:=ty.anew tp;refine⟨tX,tY,λx x0 x1=>?_⟩;obtain⟨a0,a1⟩:=tp.app (i:=0) ∅ ⋯;have hb:∀y:Int,0<=y->y<(n:Int)->y∈ae.bf (ae.anew xs p) (ae.anew ys p) (ae.app p 0) n:=λy y0 y1=>by
  rw[ae.N8 tx ty tp ∅ ⋯ n];obtain⟨b0,b1⟩:=tp.o6 y0 y1;exact Zau.mpr ⟨ae.app (ae.inv p) y,ae.R9 tx ty ∅ ⋯ all b0 b1,tp.dg y0 y1⟩
 have hF:=ae.FE tX tY (s:=0) ∅ ⋯;have nd:=ae.wJ (ae.anew xs p) (ae.anew ys p) 0 n;have bd:=ae.sd tX tY (s:=0) ∅ ⋯ n;have rch:∀k,∀y∈ae.bf (ae.anew xs p) (ae.anew ys p) 0 k,ae.lK (ae.anew xs p) (ae.anew ys p) y:=by
  intro k
  induction k with
  |zero=>intro y hy;rw[Zaq.mp (show y∈[(0:Int)]from hy)];exact .zero
  |succ k ih =>
   intro y hy;have hy':y∈(match (ae.bf (ae.anew xs p) (ae.anew ys p) 0 k)[k]? with|some x=>ae.visit (ae.anew xs p) (ae.anew ys p) (ae.bf (ae.anew xs p) (ae.anew ys p) 0 k) x|none=>ae.bf (ae.anew xs p) (ae.anew ys p) 0 k):=hy;split at hy'
   ·next z hz =>
    have yR:=ih z (Zai hz);rcases ae.ud.mp hy' with hy'|rfl
    ·rcases ae.ud.mp hy' with hy'|rfl
     ·exact ih y hy'
     ·exact yR.r
    ·exact yR.u
   ·exact ih y hy'
 refine rch n x ?_;have z0:(0:Int)∈ae.bf (ae.anew xs p) (ae.anew ys p) 0 n:=by
  have:=ae.AV (ae.anew xs p) (ae.anew ys p) 0 0 n;rw[Zcg]at this;exact this.subset (show(0:Int)∈[(0:Int)] by simp)
 have back:∀k,(∃y∈ae.bf (ae.anew xs p) (ae.anew ys p) (ae.app p 0) k,y∈ae.bf (ae.anew xs p) (ae.anew ys p) 0 n)->ae.app p 0∈ae.bf (ae.anew xs p) (ae.anew ys p) 0 n:=by
  intro k
  induction k with
  |zero =>
   rintro⟨y,hy,vo⟩;rw[Zaq.mp (show y∈[ae.app p 0]from hy)]at vo;exact vo
  |succ k ih =>
   rintro⟨y,hy,vo⟩;have hy':y∈(match (ae.bf (ae.anew xs p) (ae.anew ys p) (ae.app p 0) k)[k]? with|some x=>ae.visit (ae.anew xs p) (ae.anew ys p) (ae.bf (ae.anew xs p) (ae.anew ys p) (ae.app p 0) k) x|none=>ae.bf (ae.anew xs p) (ae.anew ys p) (ae.app p 0) k):=hy;split at hy'
   ·next z hz =>
    have Dj:=Zai hz;obtain⟨c0,c1⟩:=ae.sd tX tY a0 a1 k z Dj;rcases ae.ud.mp hy' with hy'|rfl
    ·rcases ae.ud.mp hy' with hy'|rfl
     ·exact ih ⟨y,hy',vo⟩
     ·exact ih ⟨z,Dj,ae.FF tX nd bd (λx hx=>(hF x hx).1) c0 c1 vo⟩
    ·exact ih ⟨z,Dj,ae.FF tY nd bd (λx hx=>(hF x hx).2) c0 c1 vo⟩
   ·exact ih ⟨y,hy',vo⟩
 have hp0:=back n ⟨0,hb 0 ∅ ⋯,z0⟩;have fwd:∀k,∀y∈ae.bf (ae.anew xs p) (ae.anew ys p) (ae.app p 0) k,y∈ae.bf (ae.anew xs p) (ae.anew ys p) 0 n:=by
  intro k
  induction k with
  |zero=>intro y hy;rw[Zaq.mp (show y∈[ae.app p 0]from hy)];exact hp0
  |succ k ih =>
   intro y hy;have hy':y∈(match (ae.bf (ae.anew xs p) (ae.anew ys p) (ae.app p 0) k)[k]? with|some x=>ae.visit (ae.anew xs p) (ae.anew ys p) (ae.bf (ae.anew xs p) (ae.anew ys p) (ae.app p 0) k) x|none=>ae.bf (ae.anew xs p) (ae.anew ys p) (ae.app p 0) k):=hy;split at hy'
   ·next z hz =>
    have yR:=ih z (Zai hz);rcases ae.ud.mp hy' with hy'|rfl
    ·rcases ae.ud.mp hy' with hy'|rfl
     ·exact ih y hy'
     ·exact(hF z yR).1
    ·exact(hF z yR).2
   ·exact ih y hy'
 exact fwd n x (hb x x0 x1)
def BW(p:Key×D)(r:List (Key×D))(k:Key):fe (p :: r) k=if p.1=k then some p.2 else fe r k:=by unfold fe;rw[Zbo];by_cases e:p.1=k;rw[decide_eq_true e,if_pos e];rfl;rw[decide_eq_false e,if_neg e]
def Zc1(kvs:List (Key×D))(k j:Key)(y:D):fe (putD kvs k y) j=if j=k then some y else fe kvs j:=by
 unfold putD;by_cases a:(kvs.any λkv=>decide (kv.1=k))=true;rw[if_pos a]
 induction kvs with
 |nil=>simp at a
 |cons p r ih =>
  rw[ZaD,BW,BW];by_cases e:p.1=k;rw[if_pos e];by_cases ej:j=k;rw[if_pos ej,if_pos (show(p.1,y).1=j from e.trans ej.symm)];rw[if_neg ej,if_neg (show ¬(p.1,y).1=j fromλz=>ej (z.symm.trans e)),if_neg (λz=>ej (z.symm.trans e))]
  have:∀l:List (Key×D),fe (l.map λkv=>if kv.1=k then(kv.1,y)else kv) j=fe l j:=by
   intro l
   induction l with
   |nil=>rfl
   |cons q l ihl =>
    rw[ZaD,BW,BW,ihl];by_cases eq:q.1=k;rw[if_pos eq,if_neg (show ¬(q.1,y).1=j fromλz=>ej (z.symm.trans eq)),if_neg (λz=>ej (z.symm.trans eq))];rw[if_neg eq]
  exact this r;rw[if_neg e];have a':(r.any λkv=>decide (kv.1=k))=true:=by
   rw[Zbm,decide_eq_false e,Bool.false_or]at a;exact a
  rw[ih a'];by_cases ej:j=k;rw[if_pos ej,if_neg (λz=>e (z.trans ej)),if_pos ej];rw[if_neg ej,if_neg ej]
 rw[if_neg a]
 induction kvs with
 |nil =>
  show fe [(k,y)] j=_;rw[BW];by_cases ej:j=k;rw[if_pos ej.symm,if_pos ej];rw[if_neg (λz=>ej z.symm),if_neg ej]
 |cons p r ih =>
  have a':¬(r.any λkv=>decide (kv.1=k))=true:=λz=>a (by rw[Zbm,z,Bool.or_true]);have ep:p.1≠k:=λz=>a (by rw[Zbm,decide_eq_true z,Bool.true_or]);rw[List.cons_append,BW,ih a',BW];by_cases ej:j=k;rw[if_pos ej,if_pos ej,if_neg (λz=>ep (z.trans ej))];rw[if_neg ej,if_neg ej]
def xb8(kvs:List (Key×D))(k:Key)(v:D):(putD kvs k v).length<=kvs.length+1:=by unfold putD;split;rw[Zaa];lk;rw[Zae,ZaE,Zcn];lk
def T2(h:st[i]?=some (.dct kvs)):lS st (.ref i)=some kvs:=by simp only[lS,h]
def T3(i:Int):keyOf (.int i)=some (.inl i):=rfl
def ZbB{r:List Int}{j:Nat}(h:j<r.length)(x:Int):(r.take (j+1)).contains x=((r.take j).contains x || x == r[j]):=by
 rw[ZaK h,List.contains_append]
 congr 1
 show([r[j]]:List Int).contains x=(x == r[j]);rw[List.contains_cons,List.contains_nil,Bool.or_false]
@[reducible]def cg:=Bool×Int
abbrev bw(s:cg):D:=.tup [.str (if s.1 then "s" else "t"),.int s.2]
section
variable {K:Zfr}
abbrev xS(neg:Bool):D->D->Dm D
 |.bl a,.bl b,st=>some (.bl (if neg then !decide (a=b)else decide (a=b)),st)
 |_,_,_=>none
abbrev GH(neg:Bool):R2:=λx y H Q=>∃a b,x=.bl a/\y=.bl b/\Q (.bl (if neg then !decide (a=b)else decide (a=b))) H
def T5(neg:Bool):oX K (GH neg) (xS neg):=by intro ρ H st x y a c b st' Q l rx ry e q;unfold xS at e;split at e;cases e;cases rx;cases ry;exact⟨_,_,rfl,rfl,q _ H ρ .refl l (.bl _)⟩;cases e
abbrev sY(neg:Bool):D->D->Dm D
 |a,.non,st=>some (.bl (match a with|.non=>!neg|_=>neg),st)
 |_,_,_=>none
abbrev zq(neg:Bool):R2:=λx y H Q=>y=.non/\Q (.bl (if neg then !decide (x=.non)else decide (x=.non))) H
def T6(neg:Bool):oX K (zq neg) (sY neg):=by intro ρ H st x y a c b st' Q l rx ry e q;unfold sY at e;split at e;cases e;cases ry;refine⟨rfl,?_⟩;have k:=q _ H ρ .refl l (.bl _);cases rx<;>cases neg<;>exact k;cases e
abbrev uF:List D->Dm D
 |[.int i],st=>some (.int (if i<0 then -i else i),st)
 |_,_=>none
def T7:si K (λxs H Q=>∃i,xs=[V.int i]/\Q (.int (if i<0 then -i else i)) H) uF:=by intro ρ H st xs as b st' Q l rx e q;unfold uF at e;split at e;cases e;obtain⟨v,rfl,r⟩:=rx.one';cases r;exact⟨_,rfl,q _ H ρ .refl l (.int _)⟩;cases e
end
section
variable {X:Cx}
def BX:mr X (compareOp .Is) (GH false):=by intro pins s σ H x y v u Q I rx ry h;obtain⟨a,b,rfl,rfl,q⟩:=h;cases rx;cases ry;exact PyProof.Rows.is_bool (nt I q (by cases a<;>cases b<;>rfl))
def O3:mr X (compareOp .Is) (zq false):=Ac
end
def at2{α:Type}(x y z:α)(xs:List α):eZ (x :: y :: z :: xs) 2=some z:=by unfold eZ oV;rw[if_pos ∅,if_pos (by simp only[ZaE];lk)];rfl
def T8{α:Type}(x y z u:α)(xs:List α):eZ (x :: y :: z :: u :: xs) 3=some u:=by unfold eZ oV;rw[if_pos ∅,if_pos (by simp only[ZaE];lk)];rfl
section
variable {st:Store}{Q:D->Store->Prop}
def T9:Wp (xS neg (.bl a) (.bl b) st) Q↔Q (.bl (if neg then !decide (a=b)else decide (a=b))) st:=bh
def O4:Wp (sY neg .non .non st) Q↔Q (.bl (!neg)) st:=bh
def Ua:Wp (sY neg (.tup i) .non st) Q↔Q (.bl neg) st:=bh
def Ub:Wp (uF [.int i] st) Q↔Q (.int (if i<0 then -i else i)) st:=bh
end
def Yc1(ds:List D)(P:Nat->D->Prop)(I:Store->Prop)
  (hi:Wp (fi δ st) λS st1=>(∀i st2,i<=ds.length->I st2->S.at i st2=some ds[i]?)/\I st1) (hl:ds.length<100000)
  (step:∀i d,ds[i]?=some d->∀st1,I st1->Wp (f (some d :: js.map λj=>δ.getD j none) st1) λy st2=>P i y/\I st2)
  (fin:∀ys st',I st'->ys.length=ds.length->(∀i y,ys[i]?=some y->P i y)->Q (.ref st'.length) (st' ++ [.lst ys])):Wp (cu fi 1 js (hName 0) cR f δ st) Q:=by
 obtain⟨S,st1,e1,hS,k1⟩:=hi;refine Gk ds (λi ys δ' lI=>(∃v,δ'=v :: js.map λj=>δ.getD j none)/\ys.length=i/\(∀i y,ys[i]?=some y->P i y)/\I lI) ⟨S,st1,e1,λi ys δ' lI hi' hp=>hS i lI hi' hp.2.2.2,⟨none,rfl⟩,rfl,(λi y h=>by simp at h),k1⟩ hl ?_ ?_ ?_;rintro i ys δ' lI ⟨_,h,_⟩;lk;rintro i d ys δ' lI hd ⟨⟨v,rfl⟩,hlen,hP,k8⟩;rw[Ls];show Wp (cR _ _) _;rw[Lu];refine⟨λ_=>?_,λh=>absurd h ∅⟩;refine aS (step i d hd lI k8) ?_;rintro y rS ⟨hp,k9⟩;refine⟨⟨some d,rfl⟩,by rw[Zae,hlen];rfl,λj z hz=>?_,k9⟩;by_cases hj:j<ys.length;rw[Zap hj]at hz;exact hP j z hz;have hb:=ff hz;rw[Zae,Zbi]at hb;have e:j=ys.length:=by lk
 subst e;rw[Zax (Zag _),Zbj]at hz;cases hz;rw[hlen];exact hp;rintro ys δ' lI ⟨_,hlen,hP,k8⟩;exact fin ys lI k8 hlen hP
def Uc(ds:List D)(P:Nat->D->Store->Prop)(mono:∀i y s s',P i y s->Ex [] s s'->P i y s')
  (hi:Wp (fi δ st) λS st1=>pY S ds st1/\Ex [] st st1) (hl:ds.length<100000)
  (step:∀i d,ds[i]?=some d->∀st1,Ex [] st st1->Wp (f (some d :: js.map λj=>δ.getD j none) st1) λy st2=>P i y st2/\Ex [] st1 st2)
  (fin:∀ys st',Ex [] st st'->ys.length=ds.length->(∀i y,ys[i]?=some y->P i y st')->Q (.ref st'.length) (st' ++ [.lst ys])):Wp (cu fi 1 js (hName 0) cR f δ st) Q:=by
 obtain⟨S,st1,e1,hS,k1⟩:=hi;refine Gk ds (λi ys δ' lI=>(∃v,δ'=v :: js.map λj=>δ.getD j none)/\ys.length=i/\(∀i y,ys[i]?=some y->P i y lI)/\Ex [] st1 lI) ⟨S,st1,e1,λi ys δ' lI hi' hp=>hS i lI hi' hp.2.2.2,⟨none,rfl⟩,rfl,(λi y h=>by simp at h),Ex.refl⟩ hl ?_ ?_ ?_;rintro i ys δ' lI ⟨_,h,_⟩;lk;rintro i d ys δ' lI hd ⟨⟨v,rfl⟩,hlen,hP,k8⟩;rw[Ls];show Wp (cR _ _) _;rw[Lu];refine⟨λ_=>?_,λh=>absurd h ∅⟩;refine aS (step i d hd lI (k1.trans k8)) ?_;rintro y rS ⟨hp,k9⟩;refine⟨⟨some d,rfl⟩,by rw[Zae,hlen];rfl,λj z hz=>?_,k8.trans k9⟩;by_cases hj:j<ys.length;rw[Zap hj]at hz;exact mono _ _ _ _ (hP j z hz) k9;have hb:=ff hz;rw[Zae,Zbi]at hb;have e:j=ys.length:=by lk
 subst e;rw[Zax (Zag _),Zbj]at hz;cases hz;rw[hlen];exact hp;rintro ys δ' lI ⟨_,hlen,hP,k8⟩;exact fin ys lI (k1.trans k8) hlen hP
abbrev fj(x:Str):List D:=x.cps.toList.map λc=>.str ⟨#[c]⟩
abbrev Ud:D->Option (List D)
 |.tup ds=>some ds
 |.str x=>some (fj x)
 |_=>none
abbrev GI:List D->List D->List D
 |a :: r,b :: t=>.tup [a,b] :: GI r t
 |_,_=>[]
abbrev Ue(fa:ao->Dm (List D)):ao->Dm Src:=λδ st=>bnd (fa δ st) λas st1=>match as with
 |[a,b]=>match Ud a,Ud b with
  |some ds,some es=>some (.fix (GI ds es),st1)
  |_,_=>none
 |_=>none
abbrev xT:List String:=["NoneType","bool","int","str","tuple","list","dict"]
abbrev xU:List String:=["bool","int","str","tuple","list","dict"]
abbrev BZ(T c:String):Option Bool:=if xT.contains T && xU.contains c then some (T == c || (T == "bool" && c == "int"))else none
abbrev nF(T:String):List String->Option Bool
 |[]=>some false
 |c :: r=>match BZ T c with
  |some true=>some true
  |some false=>nF T r
  |none=>none
abbrev Ug:D->Option String
 |.ty n=>some n
 |_=>none
abbrev GJ:D->Option (List String)
 |.ty n=>some [n]
 |.tup ds=>bB Ug ds
 |_=>none
abbrev sZ:List D->Dm D
 |[a,c],st=>match uD st a,GJ c with
  |some T,some cs=>match nF T cs with
   |some b=>some (.bl b,st)
   |none=>none
  |_,_=>none
 |_,_=>none
def B0(h:uD st a=some T)(hc:GJ c=some cs)(hb:nF T cs=some b):Wp (sZ [a,c] st) Q↔Q (.bl b) st:=by
 have e:sZ [a,c] st=some (.bl b,st):=by simp only[sZ,h,hc,hb]
 rw[e,bh]
section
variable {X:Cx}{K:Zfr}
def Lv(K:Zfr)(h:BZ T c=some b):PySem.W.kitOne K (.type T) (.type c)=some b:=by
 have hh:xT.contains T=true/\xU.contains c=true:=by
  unfold BZ at h;split at h
  ·next g=>simpa using g
  ·cases h
 have h1:T∈xT:=ZaQ.mp hh.1;have h2:c∈xU:=ZaQ.mp hh.2;unfold xT at h1;unfold xU at h2;simp only[ZaC,ZcI,or_false]at h1 h2;rcases h1 with rfl|rfl|rfl|rfl|rfl|rfl|rfl<;>rcases h2 with rfl|rfl|rfl|rfl|rfl|rfl<;>(cases h;rfl)
def Uh(K:Zfr):∀{cs:List String} {b:Bool},nF T cs=some b->PySem.W.kitAny K (.type T) (cs.map Value.type)=some b
 |[],b,h=>by cases h;rfl
 |c :: r,b,h=>by
  simp only[nF]at h;split at h
  ·next e=>cases h;simp only[ZaD,PySem.W.kitAny,Lv K e]
  ·next e=>simp only[ZaD,PySem.W.kitAny,Lv K e];exact Uh K h
  ·cases h
abbrev O5(K:Zfr)(H:Hp)(x:V)(T:String):Prop:=o4 K H x (.type T)\/(T="tuple" /\ ∃a ys,x=.ref a/\eY K H a ys)
abbrev GK(K:Zfr):List V->Hp->VK->Prop:=λxs H Q=>∃x c T cs b,xs=[x,c]/\O5 K H x T/\((∃n,c=.ty n/\cs=[n])\/∃p,c=.ref p/\eY K H p (cs.map V.ty))/\nF T cs=some b/\Q (.bl b) H
def yds{pins:List (Addr×Obj)}{σ:St}{H:Hp}{s:Shared}{x:V}{u:Value}{T:String}(I:Inv X pins σ H s)(rx:RelV x u)(ty:O5 X.K H x T):∃Hh,PySem.W.KitX X.K u (.type T) Hh/\Hh s.heap/\u≠.builtin "__main__.__loader__#opaque" := by
 rcases ty with ty|⟨rfl,a,ys,rfl,hs⟩
 generalize ht:Value.type T=t at ty;cases ty with
 |non=>cases ht;cases(show u=Value.none from rx);exact⟨_,PySem.W.kitx_none,True.intro,λz=>nomatch z⟩
 |bl y=>cases ht;cases(show u=Value.bool y from rx);exact⟨_,PySem.W.kitx_bool,True.intro,λz=>nomatch z⟩
 |int i=>cases ht;obtain⟨t,q⟩:=(show∃t,u=Value.int i t from rx);cases q;exact⟨_,PySem.W.kitx_int,True.intro,λz=>nomatch z⟩
 |str y=>cases ht;obtain⟨t,q⟩:=(show∃t,u=Value.str y t from rx);cases q;exact⟨_,PySem.W.kitx_str,True.intro,λz=>nomatch z⟩
 |CQ y=>cases ht;obtain⟨t,q⟩:=(show∃t,u=Value.float y t from rx);cases q;exact⟨_,PySem.W.kitx_float,True.intro,λz=>nomatch z⟩
 |@lst a xs ea =>
  cases ht;cases(show u=Value.ref a from rx);obtain⟨_,_,n,_,h1⟩:=(show cq X.prog X.w H s.heap a (.lst xs)from I.hok a _ ea);exact⟨_,PySem.W.kitx_list,⟨_,h1,rfl⟩,λz=>nomatch z⟩
 |@pL a ob xs ea =>
  cases ht;cases(show u=Value.ref a from rx);obtain⟨_,_,_,n,_,h1⟩:=(show cq X.prog X.w H s.heap a (.pL ob (.lst xs))from I.hok a _ ea);exact⟨_,PySem.W.kitx_list,⟨_,h1,rfl⟩,λz=>nomatch z⟩
 |@tup a xs ea =>
  cases ht;cases(show u=Value.ref a from rx);obtain⟨_,_,_,p⟩:=(show cq X.prog X.w H s.heap a (.tup xs)from I.hok a _ ea);obtain⟨o,h1,h2,_⟩:=p;exact⟨_,PySem.W.kitx_tuple,⟨o,h1,h2⟩,λz=>nomatch z⟩
 |@dK a kvs ea =>
  cases ht;cases(show u=Value.ref a from rx);obtain⟨_,_,vs,_,p⟩:=(show cq X.prog X.w H s.heap a (.dK kvs)from I.hok a _ ea);obtain⟨o,es,ep,h1,h2,_⟩:=p;exact⟨_,PySem.W.kitx_dict,⟨o,h1,h2.1⟩,λz=>nomatch z⟩
 |@dT a kvs ea =>
  cases ht;cases(show u=Value.ref a from rx);obtain⟨_,_,xs,_,o,es,ep,h1,h2,_⟩:=(show cq X.prog X.w H s.heap a (.dT kvs)from I.hok a _ ea);exact⟨_,PySem.W.kitx_dict,⟨o,h1,h2.1⟩,λz=>nomatch z⟩
 |ins=>cases ht
 cases(show u=Value.ref a from rx);obtain⟨its,_,⟨o,h1,h2,_⟩,_⟩:=I.tuple hs;exact⟨_,PySem.W.kitx_tuple,⟨o,h1,h2⟩,λz=>nomatch z⟩
def Ui:∀{cs:List String} {us:List Value},Vals (cs.map V.ty) us->us=cs.map Value.type
 |[],us,h=>by
  cases us with
  |nil=>rfl
  |cons a b=>cases h
 |x :: xs,us,h=>by
  cases us with
  |nil=>cases h
  |cons u us =>
   cases h with
   |cons r t =>
    rw[Ui t];cases(show u=Value.type x from r);rfl
def xc1:d7 X (.builtin "isinstance") (GK X.K):=by
 intro pins s σ H xs us Q I r h;obtain⟨x,c,T,cs,b,rfl,ty,hc,hb,q⟩:=h;obtain⟨u,u',rfl,ru,Uj⟩:=vals2 r;obtain⟨Hh,Z,hh,hx⟩:=yds I ru ty;have fin:∀tk,EP X pins σ Q (.bool b) { s with toks:=tk }:=λtk=>⟨.bl b,H,I.tok tk,rfl,q⟩;have ka:=Uh X.K hb;rcases hc with⟨n,rfl,rfl⟩|⟨p,rfl,hp⟩
 ·cases(show u'=Value.type n from Uj)
  refine PySem.W.kia_one Z I.CW hh ?_ hx fin;simp only[nF]at hb;split at hb
  ·next e=>cases hb;exact Lv _ e
  ·next e=>cases hb;exact Lv _ e
  ·cases hb
 ·cases(show u'=Value.ref p from Uj)
  obtain⟨its,rv,⟨⟨oc,od,odt,osl⟩,e,h2,h3,n,h4⟩,_⟩:=I.qE hp;cases(show oc=.type "tuple" from h2);cases(show odt=.seq its.toArray n from h4);cases Ui rv;exact PySem.W.kia_tup Z I.CW hh e ka hx fin
def B1(l:Rl K ρ H st)(r1:Rp K ρ H v a)(hT:uD st a=some T):O5 K H v T:=by
 cases r1<;>simp only[uD]at hT
 ·cases hT;exact .inl .non
 ·cases hT;exact .inl (.bl _)
 ·cases hT;exact .inl (.int _)
 ·cases hT;exact .inl (.str _)
 ·cases hT
 ·next hi =>
  split at hT
  ·next ds hs=>cases hT;obtain⟨vs,e1,_⟩:=l.obj _ _ _ hi hs;exact .inl (.lst e1)
  ·next ds hs=>cases hT;obtain⟨vs,e1,_⟩:=l.obj _ _ _ hi hs;exact .inl (.dK e1)
  ·cases hT
 ·next hs hr=>cases hT;exact .inr ⟨rfl,_,_,rfl,hs⟩
def Uk:∀{ws:List V} {ds:List D} {ns:List String},cF K ρ H ws ds->bB Ug ds=some ns->ws=ns.map V.ty
 |_,_,_,.nil,h=>by cases h;rfl
 |_,_,_,.cons a b,h=>by
  obtain⟨x,t,h1,h2,rfl⟩:=xH h;rw[Uk b h2];cases a<;>first|(cases h1;rfl)|cases h1
def Um:si K (GK K) sZ:=by
 intro ρ H st xs as b st' Q l rx e q;unfold sZ at e;split at e
 ·next a c =>
  split at e
  ·next T cs h1 h2 =>
   split at e
   ·next bb hb =>
    cases e;obtain⟨v,w,rfl,r1,r2⟩:=rx.two';refine⟨v,w,T,cs,bb,rfl,B1 l r1 h1,?_,hb,q _ H ρ .refl l (.bl _)⟩;cases r2 with
    |non=>cases h2
    |bl _=>cases h2
    |int _=>cases h2
    |str _=>cases h2
    |ref _=>cases h2
    |ty n=>cases h2;exact .inl ⟨n,rfl,rfl⟩
    |tup s r=>exact .inr ⟨_,rfl,Uk r h2 ▸ s⟩
   ·cases e
  ·cases e
 ·cases e
end
structure rE(K:Zfr)(mg:Str->Option Value)(x:Str)(v:V)(d:D):Prop where
 ex:∃u,mg x=some u/\RelV v u
 rp:∀(ρ:List Addr) (H:Hp),Rp K ρ H v d
def GL(C:rE K mg x v d)(hg:Gl X x)(hX:X.mg=mg)(hd:(x == ("__debug__" : Str))=false):PE X (.Name x pos) (tC v):=by obtain⟨u,h,r⟩:=C.ex;subst hX;exact Wo hg h r hd
def GN(C:rE K mg x v d):fW K (tC v) (fC d):=uC C.rp
def Lw{K:Zfr}{h:Heap}{mg:Str->Option Value}(X:K.In h)(G:h.Ns mainGlobals mg){x:Str}{a:Addr}{od:Option Addr}{its:Array Value}{n:Nat}{sl:Array (Option Value)}{vs:List V}{ds:List D}(e:PySem.W.nsIn K mainGlobals x=some (some (.ref a)))(l:K.lookup a=some ⟨.type "tuple",od,.seq its n,sl⟩)
  (ho:od=none) (hz:its.size<=sizeLine) (hv:Vals vs its.toList) (hd:∀(ρ:List Addr) (H:Hp),cF K ρ H vs ds):∃v,rE K mg x v (.tup ds) :=
 ⟨.ref a,⟨_,PySem.W.mg_of X G e,rfl⟩,λρ H=>.tup (.inr ⟨_,its,n,l,rfl,ho,rfl,hz,hv⟩) (hd ρ H)⟩
abbrev pU:Nat->D->Prop
 |_,.int _=>True
 |_,.str x=>PyData.canLay0 (.str x)=true
 |_,.non=>True
 |n+1,.tup ds=>∀d∈ds,pU n d
 |_,_=>False
abbrev kf:Nat->D->PyData
 |_,.int i=>.int i
 |_,.str x=>.str x
 |n+1,.tup ds=>.tuple (ds.map (kf n))
 |_,_=>.none
def GO{α β:Type}{f:α->Option β}{g:α->β}:∀{l:List α},(∀x∈l,f x=some (g x))->bB f l=some (l.map g)
 |[],_=>rfl
 |a :: r,h=>by
  have h1:=h a Zaj;have h2:=GO (f:=f) (g:=g) (l:=r) λx hx=>h x (Zas _ hx);simp only[bB,h1,h2,ZaD]
def wW:∀(n:Nat) (d:D),pU n d->∀(m:Nat),n<m->∀st,fX st m d=some (kf n d)
 |n,.int i,_,m+1,_,st=>by cases n<;>rfl
 |n,.str x,_,m+1,_,st=>by cases n<;>rfl
 |n,.non,_,m+1,_,st=>by cases n<;>rfl
 |n,.bl b,h,_,_,_=>by cases n<;>exact h.elim
 |n,.ty b,h,_,_,_=>by cases n<;>exact h.elim
 |n,.ref b,h,_,_,_=>by cases n<;>exact h.elim
 |0,.tup ds,h,_,_,_=>h.elim
 |n+1,.tup ds,h,m+1,hm,st=>by
  simp only[fX];rw[GO (g:=kf n) λx hx=>wW n x (h x hx) m ⋯ st];rfl
def O6:∀{l:List PyData},(∀x∈l,x.canLay0=true)->PyData.canLayAll0 l=true
 |[],_=>rfl
 |a :: r,h=>by
  simp only[PyData.canLayAll0,h a Zaj,O6 λx hx=>h x (Zas _ hx),Bool.and_self]
def O7:∀{l:List PyData},(∀x∈l,x.depth<=n)->PyData.depthAll l<=n
 |[],_=>ZaL _
 |a :: r,h=>by
  have h1:=h a Zaj;have h2:=O7 λx hx=>h x (Zas _ hx);simp only[PyData.depthAll];lk
def vY:∀(n:Nat) (d:D),pU n d->(kf n d).canLay0=true/\(kf n d).depth<=n
 |n,.int i,_=>by cases n<;>exact⟨rfl,ZaL _⟩
 |n,.str x,h=>by cases n<;>exact⟨h,ZaL _⟩
 |n,.non,_=>by cases n<;>exact⟨rfl,ZaL _⟩
 |n,.bl b,h=>by cases n<;>exact h.elim
 |n,.ty b,h=>by cases n<;>exact h.elim
 |n,.ref b,h=>by cases n<;>exact h.elim
 |0,.tup ds,h=>h.elim
 |n+1,.tup ds,h=>by
  refine⟨?_,?_⟩;show PyData.canLayAll0 (ds.map (kf n))=true;exact O6 λx hx=>by
   obtain⟨d,hd,rfl⟩:=Zau.mp hx;exact(vY n d (h d hd)).1
  show PyData.depthAll (ds.map (kf n))+1<=n+1
  have:=O7 (n:=n) (l:=ds.map (kf n)) λx hx=>by
   obtain⟨d,hd,rfl⟩:=Zau.mp hx;exact(vY n d (h d hd)).2
  lk
def O8(ih:∀a b:D,pU n a->pU n b->(PyData.eqv (kf n a) (kf n b)=true↔a=b)):∀(l m:List D),(∀x∈l,pU n x)->(∀x∈m,pU n x)->(PyData.eqvAll (l.map (kf n)) (m.map (kf n))=true↔l=m)
 |[],[],_,_=>by simp[PyData.eqvAll]
 |[],_ :: _,_,_=>by simp[PyData.eqvAll]
 |_ :: _,[],_,_=>by simp[PyData.eqvAll]
 |a :: l,b :: m,h1,h2=>by
  have e1:=ih a b (h1 a Zaj) (h2 b Zaj);have e2:=O8 ih l m (λx hx=>h1 x (Zas _ hx)) λx hx=>h2 x (Zas _ hx);simp only[ZaD,PyData.eqvAll,ZaB,e1,e2,List.cons.injEq]
def DE:∀(n:Nat) (a b:D),pU n a->pU n b->(PyData.eqv (kf n a) (kf n b)=true↔a=b):=by
 intro n
 induction n with
 |zero =>
  intro a b ha hb;cases a<;>first|exact ha.elim|skip
  all_goals (cases b<;>first|exact hb.elim|simp[kf,PyData.eqv])
 |succ n ih =>
  intro a b ha hb;cases a<;>first|exact ha.elim|skip
  all_goals (cases b<;>first|exact hb.elim|skip)
  all_goals first
   |(simp[kf,PyData.eqv];done)
   |skip
  next l m =>
   have:=O8 ih l m ha hb;show PyData.eqv (.tuple (l.map (kf n))) (.tuple (m.map (kf n)))=true↔_;rw[DC,this];constructor
   ·rintro rfl;rfl
   ·intro h;exact D.tup.inj h
open Classical in
def Uo(ha:pU n a)(hb:pU n b)(hn:n<=15):Wp (jQ neg a b st) Q↔Q (.bl (if neg then !decide (a=b)else decide (a=b))) st:=by
 have e:PyData.eqv (kf n a) (kf n b)=decide (a=b):=by
  have:=DE n a b ha hb;cases h:PyData.eqv (kf n a) (kf n b)with
  |true=>exact(decide_eq_true (this.mp h)).symm
  |false=>exact(decide_eq_false λz=>by rw[this.mpr z]at h;cases h).symm
 rw[Gp];constructor;rintro⟨p,q,h1,h2,_,h⟩;rw[wW n a ha 20 ⋯]at h1;rw[wW n b hb 20 ⋯]at h2;cases h1;cases h2;rw[e]at h;exact h;intro h;refine⟨_,_,wW n a ha 20 ⋯ st,wW n b hb 20 ⋯ st,⟨(vY n a ha).1,(vY n b hb).1,?_⟩,?_⟩
 have:=(vY n a ha).2
 lk;rw[e];exact h
def zt(n:Nat)(L:List Int):pU (n+1) (.tup (L.map D.int)):=λd hd=>by
 obtain⟨x,_,rfl⟩:=Zau.mp hd;cases n<;>trivial
def zu(n:Nat)(s:cg):pU (n+1) (bw s):=λd hd=>by
 have hd:d=.str (if s.1 then "s" else "t")\/d=.int s.2:=by simpa[bw]using hd
 rcases hd with rfl|rfl
 have h:PyData.canLay0 (.str (if s.1=true then "s" else "t" : Str))=true:=by cases s.1<;>decide +kernel
 cases n<;>exact h;cases n<;>trivial
def O9(n:Nat)(xs ys:List Int):pU (n+2) (b5 xs ys):=λd hd=>by
 have hd:d=.tup (xs.map D.int)\/d=.tup (ys.map D.int):=by simpa[b5]using hd
 rcases hd with rfl|rfl
 exact zt n xs;exact zt n ys
abbrev ql(neg:Bool):D->D->Dm D:=λa c st=>match fX st 20 a,(b7 st c).bind (bB (fX st 19))with
 |some dx,some ds=>if dx.canLay0 && ds.all PyData.canLay0 && decide (dx.depth<=60)then some (.bl (if neg then !ds.any (λd=>PyData.eqv d dx)else ds.any λd=>PyData.eqv d dx),st)else none
 |_,_=>none
section
variable {K:Zfr}
def Lx(l:Rl K ρ H st)(n:Nat):∀{vs:List V} {ds:List D} {ps:List PyData},cF K ρ H vs ds->bB (fX st n) ds=some ps->iC K H vs ps
 |_,_,_,.nil,h=>by cases h;exact .nil
 |_,_,_,.cons a b,h=>by
  obtain⟨x,t,h1,h2,rfl⟩:=xH h;exact .cons (Dt l n a h1) (Lx l n b h2)
def Up(neg:Bool):oX K (Az K neg) (ql neg):=by
 intro ρ H st x y a c b st' Q l rx ry e q;unfold ql at e;split at e
 ·next dx ds h1 h2 =>
  split at e
  ·next ok =>
   cases e;rw[ZaB,ZaB,decide_eq_true_eq,ZbK]at ok;obtain⟨es,h3,h4⟩:=Za4.mp h2;obtain⟨p,xs,rfl,hq,rr⟩:∃p xs,y=.ref p/\(j5 K H p xs\/eY K H p xs)/\cF K ρ H xs es:=by
    cases ry with
    |non=>cases h3
    |bl _=>cases h3
    |int _=>cases h3
    |str _=>cases h3
    |ty _=>cases h3
    |ref hi=>obtain⟨vs,s,r⟩:=l.items hi h3;exact⟨_,vs,rfl,.inl s,r⟩
    |tup s r=>cases h3;exact⟨_,_,rfl,.inr s,r⟩
   exact⟨p,xs,ds,dx,rfl,hq,Lx l 19 rr h4,Dt l 20 rx h1,ok.1.2,ok.1.1,ok.2,q _ H ρ .refl l (.bl _)⟩
  ·cases e
 ·cases e
end
open Classical in
def Ly(ha:pU n a)(hc:b7 st c=some es)(he:∀e∈es,pU n e)(hn:n<=15):Wp (ql neg a c st) Q↔Q (.bl (if neg then !decide (a∈es)else decide (a∈es))) st:=by
 have h1:=wW n a ha 20 ⋯ st;have h2:bB (fX st 19) es=some (es.map (kf n)):=GO λx hx=>wW n x (he x hx) 19 ⋯ st;have ea:(es.map (kf n)).any (λd=>PyData.eqv d (kf n a))=decide (a∈es):=by
  rw[ZbL,List.any_eq_true,decide_eq_true_eq];constructor;rintro⟨d,hd,h⟩;obtain⟨x,hx,rfl⟩:=Zau.mp hd;rw[<- (DE n x a (he x hx) ha).mp h];exact hx;intro h;exact⟨_,Zau.mpr ⟨a,h,rfl⟩,(DE n a a ha ha).mpr rfl⟩
 have l1:=vY n a ha;have l2:(es.map (kf n)).all PyData.canLay0=true:=by
  rw[ZbK];intro d hd;obtain⟨x,hx,rfl⟩:=Zau.mp hd;exact(vY n x (he x hx)).1
 have e:ql neg a c st=some (.bl (if neg then !decide (a∈es)else decide (a∈es)),st):=by
  unfold ql;simp only[h1,hc,Za7,h2,ea,l1.1,l2,Bool.true_and,decide_eq_true_eq];rw[if_pos ⋯]
 rw[e,bh]
abbrev Lz:D->Option (List D)
 |.tup ds=>some ds
 |.str x=>if x.length<=sizeLine then some (fj x)else none
 |_=>none
abbrev uq(fa:ao->Dm (List D)):ao->Dm Src:=λδ st=>bnd (fa δ st) λas st1=>match as with
 |[a]=>match Lz a with
  |some ds=>some (.fix ds.reverse,st1)
  |none=>none
 |_=>none
section
variable {K:Zfr}
def GP(r:Rp K ρ H x a)(h:Lz a=some ds):∃src:ZS,src.val K H x/\(∀a,src≠.lst a)/\(∀z,src=.str z->z.length<=sizeLine)/\∀(ρ2:List Addr) (H2:Hp),Mn K ρ H ρ2 H2->∀i,(∀d,ds[i]?=some d->∃v,src.has K H2 i v/\Rp K ρ2 H2 v d)/\(i=ds.length->src.fin K H2 i):=by
 cases r with
 |non=>cases h
 |bl b=>cases h
 |int i=>cases h
 |ty n=>cases h
 |ref e=>cases h
 |str x =>
  unfold Lz at h;simp only at h;split at h
  ·next hx =>
   cases h;refine⟨.str x,rfl,nofun,λz e=>by cases e;exact hx,λρ2 H2 m i=>⟨λd hd=>?_,λe=>?_⟩⟩
   ·unfold fj at hd
    rw[Zad]at hd;obtain⟨c,hc,rfl⟩:=Zaz.mp hd;have hc':x.cps[i]?=some c:=by simpa using hc
    exact⟨_,⟨c,hc',rfl⟩,.str _⟩
   ·show x.cps.size=i
    rw[e];simp[fj]
  ·cases h
 |tup s r =>
  cases h;refine⟨.tup _,⟨rfl,_,s⟩,nofun,nofun,λρ2 H2 m i=>⟨λd hd=>?_,λe=>?_⟩⟩
  ·obtain⟨v,hv,rv⟩:=r.got hd
   exact⟨v,⟨_,m.t _ _ s,hv⟩,rv.mn m⟩
  ·exact⟨_,m.t _ _ s,by rw[r.length];exact e.symm⟩
def Uq(ha:ug K t fa):zc K (Fm K t) (uq fa):=by
 intro ρ σ H δ st S st' Q l rs e q;obtain⟨as,st1,e1,e⟩:=d9 e;split at e
 ·next a =>
  split at e
  ·next ds h1 =>
   cases e;refine ha ρ σ H δ st _ _ _ l rs e1 λxs H1 ρ1 m1 l1 r1=>?_;obtain⟨x,rfl,rx⟩:=r1.one';obtain⟨s1,v1,nl,hz,g1⟩:=GP rx h1;refine⟨x,s1,ds.length,rfl,v1,(g1 ρ1 H1 Mn.refl ds.length).2 rfl,nl,hz,q _ H1 ρ1 m1 l1 λρ2 H2 st2 i m2 l2=>⟨λh=>?_,λd h=>?_⟩⟩
   ·obtain⟨hl,hn⟩:=zb h
    have:=ZaY.mp hn;simp only[ZaW]at this hl;exact(show i=ds.length by lk)
   ·have hd:=(zb h).2
    have hi:i<ds.length:=by simpa using(Zac.mp hd).1
    rw[List.getElem?_reverse hi]at hd;obtain⟨v,hv,rv⟩:=(g1 ρ2 H2 m2 _).1 d hd;refine⟨⟨hi,v,hv⟩,λz H3 hz=>?_⟩;obtain⟨rfl,k1⟩:=hz;cases k1 _ hv;exact⟨Mn.refl,l2,rv⟩
  ·cases e
 ·cases e
end
section
variable {st:Store}
def Yds:Wp (uq fa δ st) R↔Wp (fa δ st) λas st1=>∃a ds,as=[a]/\Lz a=some ds/\R (.fix ds.reverse) st1:=by
 unfold uq;rw[d4];constructor<;>refineλh=>aS h λas s h=>?_
 ·split at h
  ·next a =>
   split at h
   ·next ds h1=>exact⟨a,ds,rfl,h1,bh.mp h⟩
   ·exact(iH.mp h).elim
  ·exact(iH.mp h).elim
 ·obtain⟨a,ds,rfl,h1,h⟩:=h
  simp only[h1];exact bh.mpr h
end
abbrev ur(ps:List PyData):Bool:=decide (0<ps.length) && ps.all (λa=>ps.all λb=>vz a b) && ps.all λa=>a.canLay0 && decide (a.depth<=50)
abbrev oY:List D->Dm D
 |[.ref r],st=>match own st r with
  |some ds=>match bB (fX st 20) ds with
   |some ps=>if ur ps=true then(match ds[qu ps]? with|some d=>some (d,st)|none=>none)else none
   |none=>none
  |none=>none
 |_,_=>none
section
variable {K:Zfr}
def Ur:si K (yG K) oY:=by
 intro ρ H st xs as b st' Q l rx e q;unfold oY at e;split at e
 ·next r ny =>
  split at e
  ·next ds hd =>
   split at e
   ·next ps hp =>
    split at e
    ·next hok =>
     split at e
     ·next d hd0 =>
      cases e;obtain⟨v,rfl,r⟩:=rx.one';cases r with
      |ref hi =>
       obtain⟨vs,hs,rr⟩:=l.items hi (bO (ui hd));obtain⟨v,hv,rv⟩:=rr.got hd0;simp only[ur,ZaB,decide_eq_true_eq,ZbK]at hok;exact⟨_,vs,ps,rfl,hs,Lx l 20 rr hp,hok.1.1,hok.1.2,hok.2,v,hv,q v H ρ .refl l rv⟩
     ·cases e
    ·cases e
   ·cases e
  ·cases e
 ·cases e
end
def xds(h:own st r=some ds)(hp:bB (fX st 20) ds=some ps)(hok:ur ps=true)(hd:ds[qu ps]?=some d):Wp (oY [.ref r] st) Q↔Q d st:=by
 have e:oY [.ref r] st=some (d,st):=by simp only[oY,h,hp,hok,hd,if_true]
 rw[e,bh]
abbrev tupI(xs:List Int):PyData:=.tuple (xs.map PyData.int)
abbrev nG(p:ae.aP):PyData:=.tuple [tupI p.1,tupI p.2]
def Pa:∀xs ys:List Int,pR (xs.map PyData.int) (ys.map PyData.int)=ae.sf xs ys
 |[],[]=>rfl
 |[],_ :: _=>rfl
 |_ :: _,[]=>rfl
 |x :: xs,y :: ys=>by
  show(if(x == y)=true then pR (xs.map PyData.int) (ys.map PyData.int)else decide (x<y))=if x=y then ae.sf xs ys else decide (x<y)
  rw[Pa xs ys];by_cases h:x=y;rw[if_pos h,if_pos (by simp[h])];rw[if_neg h,if_neg (by simp[h])]
def Us(xs ys:List Int):PyData.eqv (tupI xs) (tupI ys)=decide (xs=ys):=Au xs ys
def Xds(p q:ae.aP):De (nG p) (nG q)=ae.pS p q:=by
 show(if PyData.eqv (tupI p.1) (tupI q.1)=true then(if PyData.eqv (tupI p.2) (tupI q.2)=true then false else pR (p.2.map PyData.int) (q.2.map PyData.int))else pR (p.1.map PyData.int) (q.1.map PyData.int))=if p.1=q.1 then ae.sf p.2 q.2 else ae.sf p.1 q.1
 rw[Us,Us,Pa,Pa];by_cases a:p.1=q.1;rw[if_pos a,if_pos (decide_eq_true a)];by_cases b:p.2=q.2;rw[if_pos (decide_eq_true b),b,ae.K3];rw[if_neg (by simp[b])];rw[if_neg a,if_neg (by simp[a])]
def Pb:∀xs ys:List Int,qH (xs.map PyData.int) (ys.map PyData.int)=true
 |[],_=>rfl
 |_ :: _,[]=>rfl
 |x :: xs,y :: ys=>by show(true && qH (xs.map PyData.int) (ys.map PyData.int))=true;rw[Pb xs ys];rfl
def zdt(p q:ae.aP):vz (nG p) (nG q)=true:=by show(qH (p.1.map PyData.int) (q.1.map PyData.int) && (qH (p.2.map PyData.int) (q.2.map PyData.int) && true))=true;rw[Pb,Pb];rfl
def ydt(p:ae.aP):(nG p).canLay0=true/\(nG p).depth<=50:=by refine⟨?_,?_⟩;show(PyData.canLayAll0 (cM p.1) && (PyData.canLayAll0 (cM p.2) && true))=true;rw[xo,xo];rfl;show max (PyData.depthAll (cM p.1)+1) (max (PyData.depthAll (cM p.2)+1) 0)+1<=50;rw[As,As];decide
def Ut(l:List ae.aP):∀k,k<l.length->l[argBest (λi j=>ae.pS (l.getD i ([],[])) (l.getD j ([],[]))) k]?=some (ae.pT (l.take (k+1)))
 |0,h=>by
  cases l with
  |nil=>simp at h
  |cons p l=>rfl
 |k+1,h=>by
  have ih:=Ut l k ⋯;generalize hb:argBest (λi j=>ae.pS (l.getD i ([],[])) (l.getD j ([],[]))) k=b at ih;have e1:l.getD b ([],[])=ae.pT (l.take (k+1)):=by rw[Zah,ih];rfl
  have e2:ae.pT (l.take (k+1+1))=if ae.pS (l.getD (k+1) ([],[])) (ae.pT (l.take (k+1)))then l.getD (k+1) ([],[])else ae.pT (l.take (k+1)):=by
   have et:l.take (k+1+1)=l.take (k+1) ++ [l.getD (k+1) ([],[])]:=by
    rw[ZaK h,Zah,Zab h];rfl
   rw[et];cases l with
   |nil=>simp at h
   |cons p l =>
    show((l.take k ++ [_]).foldl _ p)=_;rw[Zbn];rfl
  show l[if(ae.pS (l.getD (k+1) ([],[])) (l.getD (argBest _ k) ([],[])))=true then k+1 else argBest _ k]?=_;rw[hb,e1,e2];split;rw[Zah,Zab h];rfl;exact ih
def Zdt(st:Store)(p:ae.aP):fX st 20 (b5 p.1 p.2)=some (nG p):=by
 have h:∀(m:Nat) (xs:List Int),bB (fX st (m+1)) (xs.map D.int)=some (xs.map PyData.int):=λm xs=>by
  have:=xI (f:=fX st (m+1)) (g:=D.int) (k:=PyData.int) (λ_=>rfl) xs;exact this
 show(bB (fX st 19) [D.tup (p.1.map D.int),D.tup (p.2.map D.int)]).map PyData.tuple=_;have e1:fX st 19 (D.tup (p.1.map D.int))=some (tupI p.1):=by show(bB (fX st 18) (p.1.map D.int)).map PyData.tuple=_;rw[h];rfl
 have e2:fX st 19 (D.tup (p.2.map D.int))=some (tupI p.2):=by show(bB (fX st 18) (p.2.map D.int)).map PyData.tuple=_;rw[h];rfl
 simp only[bB,e1,e2];rfl
def Uu(h:own st r=some (l.map λp=>b5 p.1 p.2))(hn:0<l.length):Wp (oY [.ref r] st) Q↔Q (b5 (ae.pT l).1 (ae.pT l).2) st:=by
 have hp:bB (fX st 20) (l.map λp=>b5 p.1 p.2)=some (l.map nG):=xI (f:=fX st 20) (g:=λp:ae.aP=>b5 p.1 p.2) (k:=nG) (λp=>Zdt st p) l;refine xds h hp ?_ ?_;simp only[ur,ZaB,decide_eq_true_eq,ZbK,Zaa];refine⟨⟨hn,λa ha b hb=>?_⟩,λa ha=>?_⟩;obtain⟨p,_,rfl⟩:=Zau.mp ha;obtain⟨q,_,rfl⟩:=Zau.mp hb;exact zdt p q;obtain⟨p,_,rfl⟩:=Zau.mp ha;exact ydt p;have hb:=Ut l (l.length-1) ⋯;rw[show l.length-1+1=l.length by lk,Zbg]at hb;have e:∀k,k<l.length->argBest (xu (l.map nG)) k=argBest (λi j=>ae.pS (l.getD i ([],[])) (l.getD j ([],[]))) k/\argBest (λi j=>ae.pS (l.getD i ([],[])) (l.getD j ([],[]))) k<l.length:=by
  intro k
  induction k with
  |zero=>intro hk;exact⟨rfl,hk⟩
  |succ k ih =>
   intro hk;obtain⟨e1,e2⟩:=ih ⋯;have eb:xu (l.map nG) (k+1) (argBest (xu (l.map nG)) k)=ae.pS (l.getD (k+1) ([],[])) (l.getD (argBest (λi j=>ae.pS (l.getD i ([],[])) (l.getD j ([],[]))) k) ([],[])):=by
    rw[e1];unfold xu;rw[Zah,Zah,Zad,Zad,Zab hk,Zab e2,Zah,Zah,Zab hk,Zab e2];exact Xds _ _
   refine⟨?_,?_⟩;show(if xu (l.map nG) (k+1) (argBest (xu (l.map nG)) k)=true then k+1 else argBest (xu (l.map nG)) k)=if _=true then k+1 else _
   rw[eb,e1];show(if _=true then k+1 else _)<l.length;split;exact hk;exact e2
 unfold qu;rw[Zaa,(e (l.length-1) ⋯).1,Zad,hb];rfl
section
variable {K:Zfr}
abbrev xV(T:String)(g:D->List D->Dm D)(fo:ao->Dm D):ao->Dm D:=λδ st=>bnd (fo δ st) λo st1=>if wO T st1 o=true then g o [] st1 else none
def B2(hr:yW K T r g)(ho:fW K to fo):fW K (EU K T r to) (xV T g fo):=by
 intro ρ σ H δ st b st' Q l rs e q;obtain⟨o,st1,e1,e⟩:=d9 e;split at e
 ·next ht =>
  refine ho ρ σ H δ st o st1 _ l rs e1 λx H1 ρ1 m1 l1 r1=>⟨Tg l1 r1 ht,?_⟩;exact hr ρ1 H1 st1 x [] o [] b st' Q l1 r1 .nil e λv H3 ρ3 m3 l3 r3=>q v H3 ρ3 (m1.trans m3) l3 r3
 ·cases e
end
section
variable {st:Store}{Q:D->Store->Prop}{i:Nat}
def GQ{α:Type}{m:Option (α×Store)}{R R':α->Store->Prop}(h:∀a s,R a s↔R' a s):Wp m R↔Wp m R':=by have e:R=R':=funext λa=>funext λs=>propext (h a s);rw[e]
def B3:Wp (xV T g fo δ st) Q↔Wp (fo δ st) λo st1=>wO T st1 o=true/\Wp (g o [] st1) Q:=by
 unfold xV;rw[d4];refine GQ λo st1=>?_;rw[qy,iH];split
 ·next h=>exact⟨λq=>⟨h,q⟩,λq=>q.2⟩
 ·next h=>exact⟨False.elim,λq=>h q.1⟩
end
section
variable {K:Zfr}
abbrev qP:ao->Dm Fl:=λ_ _=>none
def Pc:rl K uT qP:=by intro ρ σ H δ st fl st' E l rs e q;cases e
end
section
variable {K:Zfr}
abbrev qQ:D->D->Dm D:=xG (λi j=>decide (j≠0/\j.natAbs.log2<9000)) λi j=>.int (i.fdiv j)
def Uv:oX K (rI yH λi j=>.int (i.fdiv j)) qQ:=Dr (λi j h=>of_decide_eq_true (p:=j≠0/\j.natAbs.log2<9000) h) λ_ _ _ _=>.int _
end
section
variable {st:Store}{Q:D->Store->Prop}
def Xc1:Wp (qQ (.int i) (.int j) st) Q↔(j≠0/\j.natAbs.log2<9000)/\Q (.int (i.fdiv j)) st:=by unfold qQ;rw[Dy,decide_eq_true_eq]
end
abbrev cG(i j:Int):Bool:=(decide (-18446744073709551616<i/\i<18446744073709551616) || decide (-18446744073709551616<j/\j<18446744073709551616)) || (decide (Builtin.Int.intBits i<=60000000) && decide (Builtin.Int.intBits j<=60000000))
abbrev cS:D->D->Dm D:=xG cG λi j=>.int (i*j)
section
variable {K:Zfr}
def Uw:oX K (rI tV λi j=>.int (i*j)) cS:=Dr (λi j h=>by
 unfold cG at h;rw[Zco,Zco,ZaB,decide_eq_true_eq,decide_eq_true_eq,decide_eq_true_eq,decide_eq_true_eq]at h
 exact h) λ_ _ _ _=>.int _
end
section
variable {st:Store}{Q:D->Store->Prop}
def LA:Wp (cS (.int i) (.int j) st) Q↔cG i j=true/\Q (.int (i*j)) st:=by unfold cS;rw[Dy]
def zc2(h:i.natAbs<18446744073709551616):cG i j=true:=by unfold cG;rw[decide_eq_true (show -18446744073709551616<i/\i<18446744073709551616 by lk)];rfl
def Pd(hk:k<=60000000)(h:i.natAbs<P2 k)(h2:j.natAbs<P2 k):cG i j=true:=by replace h:=yI h hk;replace h2:=yI h2 hk;unfold cG;rw[decide_eq_true h,decide_eq_true h2];simp
end
abbrev cY:D->List D->Dm D
 |.ref k,[a],st=>match fX st 20 a,(items st k).bind (bB (fX st 19))with
  |some dx,some ds=>match ds.findIdx? λd=>PyData.eqv d dx with
   |some j=>if dx.canLay0 && ds.all PyData.canLay0 && decide (dx.depth<=60) && decide (ds.length<=1000)then some (.int (j:Int),st)else none
   |none=>none
  |_,_=>none
 |_,_,_=>none
section
variable {K:Zfr}
def Ux:yW K "list" (tU K) cY:=by
 intro ρ H st x xs a as b st' Q l rx vP e q;unfold cY at e;split at e
 ·split at e
  ·next dx ds h1 h2 =>
   split at e
   ·next j hj =>
    split at e
    ·next ok =>
     cases e;rw[ZaB,ZaB,ZaB,decide_eq_true_eq,decide_eq_true_eq,ZbK]at ok;obtain⟨es,h3,h4⟩:=Za4.mp h2;obtain⟨y,rfl,r⟩:=vP.one';cases rx with
     |ref hi =>
      obtain⟨vs,s,rr⟩:=l.items hi h3;obtain⟨hjl,hj1,hj2⟩:=Zbr.mp hj
      exact⟨_,vs,ds,y,dx,j,rfl,rfl,s,Lx l 19 rr h4,Dt l 20 r h1,ok.1.1.2,ok.1.1.1,ok.1.2,ok.2,⟨_,Zab hjl,hj1⟩,λi d hij hd=>by
       obtain⟨hil,rfl⟩:=Zac.mp hd
       simpa using hj2 i hij,q _ H ρ .refl l (.int _)⟩
    ·cases e
   ·cases e
  ·cases e
 ·cases e
end
def Uy{st:Store}{Q:D->Store->Prop}{n k j:Nat}{a:D}{es:List D}(ha:pU n a)(hc:items st k=some es)(he:∀e∈es,pU n e)(hn:n<=15)(hl:es.length<=1000)(hj:es[j]?=some a)(hno:∀i e,i<j->es[i]?=some e->e≠a):Wp (cY (.ref k) [a] st) Q↔Q (.int (j:Int)) st:=by
 have h1:=wW n a ha 20 ⋯ st;have h2:bB (fX st 19) es=some (es.map (kf n)):=GO λx hx=>wW n x (he x hx) 19 ⋯ st;obtain⟨hjl,Pe⟩:=Zac.mp hj;have hf:(es.map (kf n)).findIdx? (λd=>PyData.eqv d (kf n a))=some j:=by
  refine Zbr.mpr ⟨by simpa using hjl,?_,λi hij=>?_⟩;rw[Zb3,Pe];exact(DE n a a ha ha).mpr rfl;have hil:i<es.length:=by lk
  rw[Zb3];have hm:es[i]∈es:=Zch hil;intro h;exact hno i es[i] hij (Zab hil) ((DE n es[i] a (he _ hm) ha).mp h)
 have l1:=vY n a ha;have l2:(es.map (kf n)).all PyData.canLay0=true:=by
  rw[ZbK];intro d hd;obtain⟨x,hx,rfl⟩:=Zau.mp hd;exact(vY n x (he x hx)).1
 have e:cY (.ref k) [a] st=some (.int (j:Int),st):=by
  unfold cY;simp only[h1,hc,Za7,h2,hf,l1.1,l2,Bool.true_and,Zaa,decide_eq_true_eq,ZaB];rw[if_pos ⟨by lk,hl⟩]
 rw[e,bh]
abbrev xW:D->List D->Dm D
 |.ref i,[],st=>match own st i with
  |some xs=>match xs[xs.length-1]? with
   |some y=>some (y,st.set i (.lst xs.dropLast))
   |none=>none
  |none=>none
 |_,_,_=>none
section
variable {K:Zfr}
def B4:yW K "list" EW xW:=by
 intro ρ H st x xs a as b st' Q l rx vP e q;unfold xW at e;split at e
 ·split at e
  ·next ys hy =>
   split at e
   ·next y hl =>
    cases e;cases vP;cases rx with
    |ref hi =>
     obtain⟨vs,e1,r1⟩:=l.obj _ _ _ hi (ui hy);obtain⟨v,hv,rv⟩:=r1.got hl;have hlen:=r1.length;have r2:cF K ρ H vs.dropLast ys.dropLast:=by
      rw[List.dropLast_eq_take,List.dropLast_eq_take,hlen];exact r1.take _
     obtain⟨l2,m2⟩:=l.putL hi (ui hy) r2;exact⟨_,vs,v,rfl,rfl,e1,by rw[hlen];exact hv,q _ _ ρ m2 l2 (rv.mn m2)⟩
   ·cases e
  ·cases e
 ·cases e
end
section
variable {st:Store}{Q:D->Store->Prop}{i:Nat}
def B5(h:own st i=some (xs ++ [y])):Wp (xW (.ref i) [] st) Q↔Q y (st.set i (.lst xs)):=by
 have e:(xs ++ [y])[(xs ++ [y]).length-1]?=some y:=by simp
 have e2:(xs ++ [y]).dropLast=xs:=by simp
 show Wp (match own st i with|some xs=>(match xs[xs.length-1]? with|some y=>some (y,st.set i (O.lst xs.dropLast))|none=>none)|none=>none) Q↔_;rw[h];dsimp only;rw[e,e2];exact bh
end
end L4
namespace ae
@[reducible]def CS:=List aP×List (List Sp)×List (Nat×Nat)
abbrev aY(n:Nat)(fs:List aP)(ws:List (List Sp))(k:Nat)(s:Sp):List aP×List (List Sp)×Nat :=
 if aR n (stM (fs.getD k ([],[])) s)∈fs then(fs,ws,fs.idxOf (aR n (stM (fs.getD k ([],[])) s)))else(fs ++ [aR n (stM (fs.getD k ([],[])) s)],ws ++ [(j8 (ws.getD k [] ++ [s])).reverse],fs.length)
abbrev nH(n:Nat)(c:CS):List aP×List (List Sp)×Nat:=aY n c.1 c.2.1 c.2.2.length (true,1)
abbrev lU(n:Nat)(c:CS):List aP×List (List Sp)×Nat:=aY n (nH n c).1 (nH n c).2.1 c.2.2.length (false,1)
abbrev Pf(n:Nat)(c:CS):CS:=((lU n c).1,(lU n c).2.1,c.2.2 ++ [((nH n c).2.2,(lU n c).2.2)])
abbrev ch(n:Nat)(p:aP):Nat->CS
 |0=>([aR n p],[[]],[])
 |i+1=>Pf n (ch n p i)
structure GR(n:Nat)(p:aP)(fs:List aP)(ws:List (List Sp)):Prop where
 nd:fs.Nodup
 own:∀q∈fs,Wh n q/\aR n q=q
 wl:ws.length=fs.length
 hd:fs[0]?=some (aR n p)
 wd:∀(k:Nat) (w:List Sp),ws[k]?=some w->Pl w.reverse/\w.length<=k/\(∀s∈w,s.2.natAbs<=k+3)/\∃q,fs[k]?=some q/\bA n (dR p w) q
abbrev LdR(n:Nat)(fs:List aP)(ls:List (Nat×Nat)):Prop:=∀(k:Nat) (l:Nat×Nat),ls[k]?=some l->∃p,fs[k]?=some p/\fs[l.1]?=some (aR n (stM p (true,1)))/\fs[l.2]?=some (aR n (stM p (false,1)))
structure GC(n:Nat)(p:aP)(c:CS)(i:Nat):Prop where
 r:GR n p c.1 c.2.1
 ll:c.2.2.length=i
 le:i<=c.1.length
 ld:LdR n c.1 c.2.2
section
variable {n:Nat}{p:aP}
def GR.few(g:GR n p fs ws):0<fs.length:=(Zac.mp g.hd).1
def rn(w:Wh n p)(n0:0<n):Wh n (aR n p)/\aR n (aR n p)=aR n p/\bA n p (aR n p):=by
 obtain⟨s,s0,s1,e⟩:=Ou p n0;have tb:=w.bf s0 s1;have a:bA n p (aR n p):=⟨inv (bf p.1 p.2 s n),tb.aG,by rw[e,yO w.v.1 tb,yO w.v.2 tb];rfl⟩;have wq:Wh n (aR n p):=by
  obtain⟨g,tg,eq⟩:=a;have:=xR (xs:=p.1) (ys:=p.2) ⟨w.v.1,w.v.2,w.all⟩ tg n0;rw[eq];exact⟨⟨this.1,this.2.1⟩,this.2.2⟩
 exact⟨wq,(qf n0 w.v a).symm,a⟩
def Ydt{fs:List aP}{q:aP}(h:q∈fs):fs[fs.idxOf q]?=some q:=by have hl:=Zbe h;rw[Zab hl,Zbs]
def xdt{w:List Sp}{k:Nat}{s:Sp}(hp:Pl w.reverse)(hn:∀a∈w,a.2.natAbs<=k+3)(hs:s=(true,1)\/s=(false,1)):Pl (j8 (w ++ [s]))/\∀a∈(j8 (w ++ [s])),a.2.natAbs<=k+1+3:=by
 have ps:bL s:=by rcases hs with rfl|rfl<;>exact⟨λ_=>by decide,by decide⟩
 have ew:j8 w=w.reverse:=by
  have:=Pl.oI hp
  rwa [ZcR]at this
 have e:j8 (w ++ [s])=bR w.reverse s:=by
  rw[K1,ew];rfl
 rw[e];refine⟨hp.push ps,λa ha=>?_⟩;have s1:s.2.natAbs<=1:=by rcases hs with rfl|rfl<;>decide
 exact Si (M:=k+3) (B:=1) (λx hx=>hn x (Zbh.mp hx)) s1 ps hp a ha
def vZ{fs:List aP}{ws:List (List Sp)}{k:Nat}{s:Sp}(n0:0<n)(g:GR n p fs ws)(vp:Vf n p)(hk:k<fs.length)(hs:s=(true,1)\/s=(false,1)):
  GR n p (aY n fs ws k s).1 (aY n fs ws k s).2.1/\(∀(i:Nat) (q:aP),fs[i]?=some q->(aY n fs ws k s).1[i]?=some q)/\fs.length<=(aY n fs ws k s).1.length/\(aY n fs ws k s).1.length<=fs.length+1/\∃q,fs[k]?=some q/\(aY n fs ws k s).1[(aY n fs ws k s).2.2]?=some (aR n (stM q s)):=by
 have ek:fs[k]?=some (fs.getD k ([],[])):=by rw[Zah,Zab hk];rfl
 generalize hq:fs.getD k ([],[])=q at ek;obtain⟨wq,oq⟩:=g.own q (Zai ek);have GS:=wq.st n0 s;obtain⟨wF,oF,aF⟩:=rn GS n0;unfold aY;rw[hq];by_cases hm:aR n (stM q s)∈fs;rw[if_pos hm];exact⟨g,λ_ _ h=>h,Zag _,Zbu _,q,ek,Ydt hm⟩;rw[if_neg hm];have hwk:k<ws.length:=by rw[g.wl];exact hk
 have ew:ws[k]?=some (ws.getD k []):=by rw[Zah,Zab hwk];rfl
 generalize ws.getD k []=w at ew;obtain⟨pw,lw,nw,q',eq',aw⟩:=g.wd k w ew;rw[ek]at eq';cases eq';obtain⟨pl,nl⟩:=xdt (k:=k) pw nw hs;refine⟨⟨Zb7.mpr ⟨g.nd,by simp,λx hx y hy e=>hm (by rw[<- Zaq.mp hy,<- e];exact hx)⟩,λq' hq'=>?_,by rw[Zae,Zae,g.wl];rfl,by rw[Zap g.few];exact g.hd,λi v hv=>?_⟩,λi q' h=>by rw[Zap (Zac.mp h).1];exact h,by rw[Zae];lk,by rw[Zae];exact Zag _,q,ek,?_⟩;rcases ZaA.mp hq' with h|h
 exact g.own q' h;rw[Zaq.mp h];exact⟨wF,oF⟩;by_cases hi:i<ws.length;rw[Zap hi]at hv;obtain⟨a1,a2,a3,q',b1,b2⟩:=g.wd i v hv;exact⟨a1,a2,a3,q',by rw[Zap (Zac.mp b1).1];exact b1,b2⟩;have hi2:i=ws.length:=by
  have:=(Zac.mp hv).1;rw[Zae]at this;have:i<ws.length+1:=this;lk
 subst hi2;rw[Zax (Zag _),Zbj]at hv;cases(show some _=some v from hv);refine⟨by rw[ZcR];exact pl,?_,λa ha=>?_,aR n (stM q s),?_,?_⟩;rw[ZaW]
 have:=K2 (w ++ [s]);rw[Zae]at this;have:(j8 (w ++ [s])).length<=w.length+1:=this;lk
 have:=nl a (Zbh.mp ha)
 lk;rw[g.wl,Zax (Zag _),Zbj];rfl;have cJ:∀ a∈w ++ [s],bL a:=λa ha=>by
  rcases ZaA.mp ha with h|h
  exact Pl.pr pw a (Zbh.mpr h);rw[Zaq.mp h];rcases hs with rfl|rfl<;>exact⟨λ_=>by decide,by decide⟩
 have e1:ai (j8 (w ++ [s])).reverse=ai (w ++ [s]):=Oa cJ;have pp:∀a∈(j8 (w ++ [s])).reverse,bL a:=λa ha=>Pl.pr pl a (Zbh.mp ha);have a1:=Dk pp cJ e1 vp;have a2:bA n (dR p (w ++ [s])) (stM q s):=by
  rw[wL];exact bA.st vp.ld aw s
 exact bA.trans vp.ld (bA.trans vp.ld a1 a2) aF;rw[Zax (Zag _),Zbj];rfl
def B6(n0:0<n)(w:Wh n p):∀i:Nat,(∀j,j<i->j<(ch n p j).1.length)->GC n p (ch n p i) i
 |0,_=>by
  obtain⟨wF,oF,aF⟩:=rn w n0
  exact⟨⟨by show[aR n p].Nodup;simp,λq hq=>by rw[Zaq.mp hq];exact⟨wF,oF⟩,rfl,rfl,λk v hv=>by
   cases k with
   |zero =>
    cases(show some []=some v from hv);exact⟨trivial,Zag _,(λs hs=>nomatch hs),_,rfl,aF⟩
   |succ k=>cases(show none=some v from hv)⟩,rfl,ZaL _,λk l hl=>nomatch hl⟩
 |i+1,h=>by
  have g:=B6 n0 w i λj hj=>h j ⋯;have hi:=h i ⋯;have pZ:=g.ll;have vp:=w.v;have r1:=vZ (s:=(true,1)) n0 g.r vp (k:=(ch n p i).2.2.length) ⋯ (.inl rfl);have r2:=vZ (s:=(false,1)) n0 r1.1 vp (k:=(ch n p i).2.2.length) (by have:=r1.2.2.1;lk) (.inr rfl);refine⟨r2.1,by show((ch n p i).2.2 ++ [_]).length=i+1;rw[Zae,pZ];rfl,?_,λk l hl=>?_⟩;have a:=r1.2.2.1;have b:=r2.2.2.1;show i+1<=(lU n (ch n p i)).1.length;unfold lU nH;lk;have hl:((ch n p i).2.2 ++ [((nH n (ch n p i)).2.2,(lU n (ch n p i)).2.2)])[k]?=some l:=hl;by_cases hk:k<(ch n p i).2.2.length;rw[Zap hk]at hl;obtain⟨q,b1,b2,b3⟩:=g.ld k l hl;exact⟨q,r2.2.1 _ _ (r1.2.1 _ _ b1),r2.2.1 _ _ (r1.2.1 _ _ b2),r2.2.1 _ _ (r1.2.1 _ _ b3)⟩;have hk2:k=(ch n p i).2.2.length:=by
   have:=(Zac.mp hl).1;rw[Zae]at this;have:k<(ch n p i).2.2.length+1:=this;lk
  subst hk2;rw[Zax (Zag _),Zbj]at hl;cases(show some _=some l from hl);obtain⟨q1,c1,c2⟩:=r1.2.2.2.2;obtain⟨q2,d1,d2⟩:=r2.2.2.2.2;have:q2=q1:=by
   have:=r1.2.1 _ _ c1;rw[d1]at this;exact Zar this
  subst this;exact⟨q2,r2.2.1 _ _ d1,r2.2.1 _ _ c2,d2⟩
structure Full(n:Nat)(p:aP)(c:CS)(N:Nat):Prop extends GC n p c N where
 fl:c.1.length=N
end
end ae
namespace ae
abbrev Tl:Nat->List (List Int)
 |1=>[[0]]
 |2=>[[0,1],[1,0]]
 |3=>[[0,1,2],[0,2,1],[1,0,2],[1,2,0],[2,0,1],[2,1,0]]
 |_=>[]
def B7:∀a∈([0,1]:List Int),∀b∈([0,1]:List Int),[a,b].Nodup->[a,b]∈Tl 2:=by decide +kernel
def yc2:∀a∈([0,1,2]:List Int),∀b∈([0,1,2]:List Int),∀c∈([0,1,2]:List Int),[a,b,c].Nodup->[a,b,c]∈Tl 3:=by decide +kernel
def Uz(n0:0<n)(n3:n<=3)(t:Tn n xs):xs∈Tl n:=by
 have hl:=t.length;have hb:∀x∈xs,x∈upto n:=λx hx=>t.subset hx;have nd:=t.nodup;clear t
 match n,n0,n3,xs,hl with
 |1,_,_,[x],_ =>
  have h1:=hb x Zaj;rw[Zaq.mp (show x∈[0]from h1)];exact Zaj
 |2,_,_,[x,y],_=>exact B7 x (hb x Zaj) y (hb y (.tail _ Zaj)) nd
 |3,_,_,[x,y,z],_=>exact yc2 x (hb x Zaj) y (hb y (.tail _ Zaj)) z (hb z (.tail _ (.tail _ Zaj))) nd
abbrev Ul(n:Nat):List aP:=((Tl n).flatMap λx=>(Tl n).map λy=>(x,y)).filter λq=>decide (aR n q=q)
def B8(n0:0<n)(n3:n<=3)(w:Wh n q)(h:aR n q=q):q∈Ul n:=by unfold Ul;refine Zcm.mpr ⟨List.mem_flatMap.mpr ⟨q.1,Uz n0 n3 w.v.1,Zau.mpr ⟨q.2,Uz n0 n3 w.v.2,rfl⟩⟩,by rw[h];exact decide_eq_true rfl⟩
def UA:∀{m l:List aP},m.Nodup->(∀x∈m,x∈l)->m.length<=l.length
 |[],_,_,_=>ZaL _
 |a :: m,l,nd,hs=>by
  have UB:=Zbw.mp nd;have ha:=hs a Zaj;have:=UA (m:=m) (l:=l.erase a) UB.2 λy hy=>by
   have hya:y≠a:=λz=>UB.1 (z ▸ hy);exact(Zci hya).mpr (hs y (Zas _ hy))
  rw[List.length_erase_of_mem ha]at this;have hp:0<l.length:=ZcB ha;simp;lk
def Pg:(Ul 1).length<=30/\(Ul 2).length<=30/\(Ul 3).length<=30:=by decide +kernel
def Xdt{n:Nat}(n0:0<n)(n3:n<=3){fs:List aP}(nd:fs.Nodup)(own:∀q∈fs,Wh n q/\aR n q=q):fs.length<=30:=by
 have h:=UA (l:=Ul n) nd λq hq=>B8 n0 n3 (own q hq).1 (own q hq).2;rcases(show n=1\/n=2\/n=3 by lk)with rfl|rfl|rfl
 exact Zal h Pg.1;exact Zal h Pg.2.1;exact Zal h Pg.2.2
def UC(n0:0<n)(wp:Wh n p)(wq:Wh n q)(e:aR n p=aR n q):bA n p q:=by obtain⟨_,_,a⟩:=rn wp n0;obtain⟨_,_,b⟩:=rn wq n0;rw[e]at a;exact bA.trans wp.v a (bA.symm wq.v b)
def B9(hw:∀s∈w,bL s):ai (iy w ++ w)=T4.one:=by
 have hb:=A5 hw;have h:=La hb;rw[qw]at h ⊢;rw[xC hb,xC hw]at h;rw[xC hw];have ea:(ai w).uB.uB=ai w:=by
  apply T4.ext'<;>simp only[T4.uB,Int.neg_neg]
 rw[ea]at h;exact h
end ae
namespace ae
def Zc2(n0:0<n)(wp:Wh n p)(hu:∀s∈u,bL s)(hv:∀s∈v,bL s):aR n (dR p (u ++ iy v))=aR n p↔aR n (dR p u)=aR n (dR p v):=by
 have hb:=A5 hv;have app:∀{x y:List Sp},(∀s∈x,bL s)->(∀s∈y,bL s)->∀s∈x ++ y,bL s:=λ{x y} hx hy s hs=>by rcases ZaA.mp hs with h|h;exact hx s h;exact hy s h
 constructor;intro h;have a:=UC n0 (wp.ld n0 (w:=u ++ iy v)) wp h;have b:=bA.ld (w:=v) (wp.ld n0 (w:=u ++ iy v)).v a;rw[<- wL]at b;have e:ai (u ++ iy v ++ v)=ai u:=by
  rw[Zbx,qw,B9 hv,T4.one_mul]
 have c:=Dk (app (app hu hb) hv) hu e wp.v;have d:=qf n0 (wp.ld n0 (w:=u ++ iy v ++ v)).v b;have d':=qf n0 (wp.ld n0 (w:=u ++ iy v ++ v)).v c;exact d'.symm.trans d;intro h;have a:=UC n0 (wp.ld n0 (w:=u)) (wp.ld n0 (w:=v)) h;have b:=bA.ld (w:=iy v) (wp.ld n0 (w:=u)).v a;rw[<- wL,<- wL]at b;have c:=Dk (u:=v ++ iy v) (w:=[]) (app hv hb) (λs hs=>nomatch hs) (La hv) wp.v;have d:=qf n0 (wp.ld n0 (w:=u ++ iy v)).v b;have d':=qf n0 (wp.ld n0 (w:=v ++ iy v)).v c;exact d.trans d'
end ae
namespace ae
abbrev sT(c:CS):List Int:=c.2.2.map λl=>(l.1:Int)
abbrev tT(c:CS):List Int:=c.2.2.map λl=>(l.2:Int)
abbrev yT(c:CS):List Int:=a5 (tT c) (tT c)
section
variable {n:Nat}{p:aP}{c:CS}{N:Nat}
def Full.xX(h:Full n p c N){k:Nat}{q:aP}(hq:c.1[k]?=some q):∃l:Nat×Nat,c.2.2[k]?=some l/\c.1[l.1]?=some (aR n (Sh 1 q))/\c.1[l.2]?=some (aR n (Qt q)):=by
 have hk:k<c.2.2.length:=by rw[h.ll,<- h.fl];exact(Zac.mp hq).1
 obtain⟨q',b1,b2,b3⟩:=h.ld k _ (Zab hk);rw[hq]at b1;cases b1;exact⟨_,Zab hk,b2,b3⟩
def Full.wX(n0:0<n)(h:Full n p c N):Tn N (sT c):=by
 have:=SO (fs:=c.1) (c:=sT c) (λq=>aR n (Sh 1 q)) h.r.nd (by unfold sT;rw[Zaa,h.ll,h.fl]) (λk q hq=>by
  obtain⟨l,h1,h2,_⟩:=h.xX hq
  exact⟨l.1,by unfold sT;rw[Zad,h1];rfl,h2⟩) (λa ha b hb e=>Ba n0 1 (h.r.own a ha).1 (h.r.own b hb).1 (h.r.own a ha).2 (h.r.own b hb).2 e)
 rw[h.fl]at this;exact this
def Full.DF(n0:0<n)(h:Full n p c N):Tn N (tT c):=by
 have:=SO (fs:=c.1) (c:=tT c) (λq=>aR n (Qt q)) h.r.nd (by unfold tT;rw[Zaa,h.ll,h.fl]) (λk q hq=>by
  obtain⟨l,h1,_,h2⟩:=h.xX hq
  exact⟨l.2,by unfold tT;rw[Zad,h1];rfl,h2⟩) (λa ha b hb e=>Bb n0 (h.r.own a ha).1 (h.r.own b hb).1 (h.r.own a ha).2 (h.r.own b hb).2 e)
 rw[h.fl]at this;exact this
def Full.Ca(n0:0<n)(h:Full n p c N):Tn N (yT c):=(h.DF n0).a5 (h.DF n0)
abbrev At(c:CS)(x:Int)(q:aP):Prop:=0<=x/\c.1[x.toNat]?=some q
def At.lt(h:Full n p c N){x:Int}{q:aP}(a:At c x q):x<(N:Int):=by have:=(Zac.mp a.2).1;rw[h.fl]at this;have:=a.1;lk
def At.ex(h:Full n p c N)(x0:0<=x)(x1:x<(N:Int)):∃q,At c x q:=⟨_,x0,Zab (by rw[h.fl];lk)⟩
def At.own(h:Full n p c N)(a:At c x q):Wh n q/\aR n q=q:=h.r.own q (Zai a.2)
def At.inj(h:Full n p c N){x y:Int}{q:aP}(a:At c x q)(b:At c y q):x=y:=by
 obtain⟨g1,g2⟩:=Zac.mp a.2;obtain⟨g3,g4⟩:=Zac.mp b.2;have:x.toNat=y.toNat:=by
  rcases Nat.lt_trichotomy x.toNat y.toNat with z|z|z
  exact absurd (by rw[g2,g4]) (ZaM.mp h.r.nd _ _ g1 g3 z);exact z;exact absurd (by rw[g2,g4]) (ZaM.mp h.r.nd _ _ g3 g1 z)
 have:=a.1;have:=b.1;lk
def At.fn(a:At c x q)(b:At c x r):q=r:=by have:=a.2.symm.trans b.2;exact Zar this
def At.s(h:Full n p c N)(a:At c x q):At c (app (sT c) x) (aR n (Sh 1 q)):=by
 obtain⟨l,h1,h2,_⟩:=h.xX a.2;have e:app (sT c) x=(l.1:Int):=by
  unfold app sT;rw[Zah,Zad,h1];rfl
 rw[e];exact⟨by lk,by rw[Zan];exact h2⟩
def At.t(h:Full n p c N)(a:At c x q):At c (app (tT c) x) (aR n (Qt q)):=by
 obtain⟨l,h1,_,h2⟩:=h.xX a.2;have e:app (tT c) x=(l.2:Int):=by
  unfold app tT;rw[Zah,Zad,h1];rfl
 rw[e];exact⟨by lk,by rw[Zan];exact h2⟩
def Cb(n0:0<n)(w:Wh n q)(k:Int):aR n (Sh k (aR n q))=aR n (Sh k q):=(qf n0 (w.sh n0 k).v (bA.sh w.v (rn w n0).2.2 k)).symm
def zv(n0:0<n)(w:Wh n q):aR n (Qt (aR n q))=aR n (Qt q):=(qf n0 (w.qt n0).v (bA.qt w.v (rn w n0).2.2)).symm
def Ph(n0:0<n)(w:Wh n q)(u:List Sp):aR n (dR (aR n q) u)=aR n (dR q u):=(qf n0 (w.ld n0 (w:=u)).v (bA.ld w.v (rn w n0).2.2)).symm
def At.up(n0:0<n)(h:Full n p c N)(a:At c x q):∀m:Nat,At c (a7 (sT c) x m) (aR n (Sh (m:Int) q))
 |0=>by
  show At c x _;rw[show((0:Nat):Int)=0 from rfl,oJ (a.own h).1.v,(a.own h).2];exact a
 |m+1=>by
  have w:=(a.own h).1;have:=(At.up n0 h a m).s h;rw[Cb n0 (w.sh n0 _),vI w.v]at this;exact this
def At.pw(n0:0<n)(h:Full n p c N)(a:At c x q)(k:Int):At c (ae.pw (sT c) k x) (aR n (Sh k q)):=by
 have ts:=h.wX n0;by_cases hk:0<=k
 have:=a.up n0 h k.toNat
 rw[show((k.toNat:Nat):Int)=k by lk]at this;unfold ae.pw;rw[if_pos hk];exact this;obtain⟨y0,y1⟩:=ts.pw a.1 (a.lt h) k;obtain⟨r,b⟩:=At.ex h y0 y1;have:=b.up n0 h (-k).toNat;rw[show(((-k).toNat:Nat):Int)=-k by lk]at this;have e:a7 (sT c) (ae.pw (sT c) k x) (-k).toNat=x:=by
  have e1:=ts.pw_add a.1 (a.lt h) (-k) k;rw[ZcH]at e1;have e2:ae.pw (sT c) (-k) (ae.pw (sT c) k x)=a7 (sT c) (ae.pw (sT c) k x) (-k).toNat:=by unfold ae.pw;rw[if_pos (show 0<=-k by lk)]
  rw[<- e2,e1];rfl
 rw[e]at this;have e3:=a.fn this;have wr:=(b.own h).1;rw[e3,Cb n0 (wr.sh n0 (-k)),vI wr.v,ZcH,oJ wr.v,(b.own h).2];exact b
def At.qt(n0:0<n)(h:Full n p c N)(a:At c x q):∀j:Nat,At c (a7 (tT c) x j) (aR n (qe j q))
 |0=>by show At c x (aR n q);rw[(a.own h).2];exact a
 |j+1=>by
  have:=(At.qt n0 h a j).t h;rw[zv n0 ((a.own h).1.qe n0 j)]at this;exact this
abbrev uM(c:CS):Int->List Sp->Int
 |x,[]=>x
 |x,s :: w=>uM c (if s.1=true then ae.pw (sT c) s.2 x else ae.pw (tT c) s.2 x) w
def At.st(n0:0<n)(h:Full n p c N){x:Int}{q:aP}(a:At c x q){s:Sp}(hs:bL s):At c (if s.1=true then ae.pw (sT c) s.2 x else ae.pw (tT c) s.2 x) (aR n (stM q s)):=by
 unfold stM;split
 ·exact a.pw n0 h s.2
 ·next z =>
  have:=hs.1 (by simpa using z);have e:ae.pw (tT c) s.2 x=a7 (tT c) x s.2.toNat:=by unfold ae.pw;rw[if_pos ⋯]
  rw[e];exact a.qt n0 h _
def At.word(n0:0<n)(h:Full n p c N):∀{w:List Sp} {x:Int} {q:aP},At c x q->(∀s∈w,bL s)->At c (uM c x w) (aR n (dR q w))
 |[],x,q,a,_=>by show At c x (aR n q);rw[(a.own h).2];exact a
 |s :: w,x,q,a,hw=>by
  have:=At.word n0 h (w:=w) (a.st n0 h (hw s Zaj)) λt ht=>hw t (Zas _ ht);rw[Ph n0 ((a.own h).1.st n0 s)]at this;exact this
def Full.xQ(h:Full n p c N):At c 0 (aR n p):=⟨Int.le_refl _,h.r.hd⟩
def Full.xY(n0:0<n)(h:Full n p c N)(wp:Wh n p)(hw:∀s∈w,bL s):At c (uM c 0 w) (aR n (dR p w)):=by have:=h.xQ.word n0 h hw;rw[Ph n0 wp]at this;exact this
abbrev KF(n:Nat)(q r:aP):Prop:=∃(k:Int) (e:Bool),r=aR n (Sh k (nY e q))
def Wh.q2(n0:0<n)(w:Wh n q):Wh n (Q2 q):=(w.qt n0).qt n0
def Wh.nY(n0:0<n)(w:Wh n q)(e:Bool):Wh n (ae.nY e q):=by cases e;exact w;exact w.q2 n0
def KF.refl{q:aP}(w:Wh n q)(o:aR n q=q):KF n q q:=⟨0,false,by show q=aR n (Sh 0 q);rw[oJ w.v,o]⟩
def KF.s(n0:0<n)(w:Wh n q)(a:KF n q r)(j:Int):KF n q (aR n (Sh j r)):=by obtain⟨k,e,rfl⟩:=a;have we:=w.nY n0 e;exact⟨k+j,e,by rw[Cb n0 (we.sh n0 k),vI we.v]⟩
def KF.t(n0:0<n)(w:Wh n q)(a:KF n q r):KF n q (aR n (Q2 r)):=by
 obtain⟨k,e,rfl⟩:=a;have we:=w.nY n0 e;have wk:=we.sh n0 k;refine⟨k,!e,?_⟩;have e1:aR n (Q2 (aR n (Sh k (ae.nY e q))))=aR n (Q2 (Sh k (ae.nY e q))):=(qf n0 (wk.q2 n0).v (bA.q2 wk.v (rn wk n0).2.2)).symm;rw[e1,qf n0 (wk.q2 n0).v (FO we.v k)]
 congr 2
 cases e;rfl;exact FN w.v
def KF.symm(n0:0<n)(w:Wh n q)(o:aR n q=q)(a:KF n q r):KF n r q:=by obtain⟨k,e,rfl⟩:=a;have we:=w.nY n0 e;have wk:=we.sh n0 k;have h1:=KF.s n0 (rn wk n0).1 (KF.refl (rn wk n0).1 (rn wk n0).2.1) (-k);rw[Cb n0 wk,vI we.v,Zcx,oJ we.v]at h1;cases e;have h1:KF n (aR n (Sh k q)) (aR n q):=h1;rw[o]at h1;exact h1;have h2:=KF.t n0 (rn wk n0).1 h1;have h2:KF n (aR n (Sh k (Q2 q))) (aR n (Q2 (aR n (Q2 q)))):=h2;have e1:aR n (Q2 (aR n (Q2 q)))=aR n (Q2 (Q2 q)):=(qf n0 ((w.q2 n0).q2 n0).v (bA.q2 (w.q2 n0).v (rn (w.q2 n0) n0).2.2)).symm;rw[e1,FN w.v,o]at h2;exact h2
def KF.trans(n0:0<n){q r t:aP}(w:Wh n q)(a:KF n q r)(b:KF n r t):KF n q t:=by
 obtain⟨k,e,rfl⟩:=b;cases e;exact a.s n0 w k;have h1:=(a.t n0 w).s n0 w k;have wr:Wh n r:=by obtain⟨j,f,rfl⟩:=a;exact(rn ((w.nY n0 f).sh n0 j) n0).1
 rw[Cb n0 (wr.q2 n0)]at h1;exact h1
def At.y(n0:0<n)(h:Full n p c N)(a:At c x q):At c (app (yT c) x) (aR n (Q2 q)):=by
 have:=(a.t h).t h;rw[zv n0 ((a.own h).1.qt n0)]at this;have e:app (yT c) x=app (tT c) (app (tT c) x):=by
  unfold yT;exact qv a.1 (by rw[(h.DF n0).length];exact a.lt h)
 rw[e];exact this
end
def UD{xs ys:List Int}{s:Int}{P:Int->Prop}(h0:P s)(hx:∀y,P y->P (app xs y))(hy:∀y,P y->P (app ys y)):∀k,∀y∈bf xs ys s k,P y
 |0,y,h=>by rw[Zaq.mp h];exact h0
 |k+1,y,h=>by
  have ih:=UD h0 hx hy k;unfold bf at h;split at h
  ·next x hx' =>
   have px:=ih x (Zai hx');have key:∀(F:List Int) (z:Int),y∈cN F z->y∈F\/y=z:=λF z hm=>by
    unfold cN at hm;split at hm
    ·exact .inl hm
    ·rcases ZaA.mp hm with hm|hm
     ·exact .inl hm
     ·exact .inr (Zaq.mp hm)
   unfold visit at h;rcases key _ _ h with h|rfl
   ·rcases key _ _ h with h|rfl
    ·exact ih y h
    ·exact hx _ px
   ·exact hy _ px
  ·exact ih y h
def UE(tx:Tn n xs)(x0:0<=x)(x1:x<(n:Int))(k:Int):∃m:Nat,m<n/\ae.pw xs k x=a7 xs x m:=by obtain⟨m,e,nb,bk⟩:=(Y7 tx x0 x1).ex;have hml:=tx.kn x0 x1 nb;have h1:=tx.pw_add x0 x1 (k % ((m+1:Nat):Int)) (((m+1:Nat):Int)*(k / ((m+1:Nat):Int)));rw[tx.pw_per x0 x1 bk,Int.emod_add_mul_ediv]at h1;have h2:0<=k % ((m+1:Nat):Int):=Zbd _ ⋯;have h3:k % ((m+1:Nat):Int)<((m+1:Nat):Int):=Zbk _ ⋯;refine⟨(k % ((m+1:Nat):Int)).toNat,by lk,?_⟩;rw[<- h1];unfold ae.pw;rw[if_pos h2]
def UG(h:Cl xs ys F)(hx:x∈F):∀m,a7 xs x m∈F
 |0=>hx
 |m+1=>(h _ (UG h hx m)).1
section
variable {n:Nat}{p:aP}{c:CS}{N:Nat}
def Pj(xs ys:List Int)(s:Int):∀k,s∈bf xs ys s k
 |0=>Zcq s
 |k+1=>(R8 xs ys s k).subset (Pj xs ys s k)
def xZ(n0:0<n)(h:Full n p c N)(a:At c x q)(b:At c y r):y∈bf (sT c) (yT c) x N↔KF n q r:=by
 have wq:=(a.own h).1;have ts:=h.wX n0;have ty:=h.Ca n0;constructor;intro hy
 have:=UD (xs:=sT c) (ys:=yT c) (s:=x) (P:=λz=>∃u,At c z u/\KF n q u) ⟨q,a,KF.refl wq (a.own h).2⟩ (λz ⟨u,hu,ku⟩=>⟨_,hu.s h,ku.s n0 wq 1⟩) (λz ⟨u,hu,ku⟩=>⟨_,hu.y n0 h,ku.t n0 wq⟩) N y hy;obtain⟨u,hu,ku⟩:=this;rw[b.fn hu];exact ku
 rintro⟨k,e,er⟩;have cl:=FE ts ty a.1 (a.lt h);have hx:=Pj (sT c) (yT c) x N;obtain⟨x',hx',a'⟩:∃x',x'∈bf (sT c) (yT c) x N/\At c x' (aR n (nY e q)):=by
  cases e;exact⟨x,hx,by show At c x (aR n q);rw[(a.own h).2];exact a⟩;exact⟨_,(cl x hx).2,a.y n0 h⟩
 have a2:=a'.pw n0 h k;rw[Cb n0 (wq.nY n0 e),<- er]at a2;rw[b.inj h a2];obtain⟨m,_,em⟩:=UE ts a'.1 (a'.lt h) k;rw[em];exact UG cl hx' m
def XcM(n0:0<n)(h:Full n p c N)(a:At c x q)(b:At c y r)(k:KF n q r)(z:Int):z∈bf (sT c) (yT c) x N↔z∈bf (sT c) (yT c) y N:=by have ts:=h.wX n0;have ty:=h.Ca n0;constructor;intro hz;obtain⟨z0,z1⟩:=sd ts ty a.1 (a.lt h) N z hz;obtain⟨u,hu⟩:=At.ex h z0 z1;exact(xZ n0 h b hu).mpr ((k.symm n0 (a.own h).1 (a.own h).2).trans n0 (b.own h).1 ((xZ n0 h a hu).mp hz));intro hz;obtain⟨z0,z1⟩:=sd ts ty b.1 (b.lt h) N z hz;obtain⟨u,hu⟩:=At.ex h z0 z1;exact(xZ n0 h a hu).mpr (k.trans n0 (a.own h).1 ((xZ n0 h b hu).mp hz))
def Yc2(n0:0<n)(h:Full n p c N)(a:At c x q)(b:At c y r)(k:KF n q r):∃m:Nat,m<N/\(a7 (sT c) x m=y\/app (yT c) (a7 (sT c) x m)=y):=by obtain⟨k,e,er⟩:=k;have wq:=(a.own h).1;obtain⟨m,hm,em⟩:=UE (h.wX n0) a.1 (a.lt h) k;have a1:=a.pw n0 h k;rw[em]at a1;refine⟨m,hm,?_⟩;cases e;exact .inl (a1.inj h (by have:r=aR n (Sh k q):=er;rw[<- this];exact b));refine .inr ((a1.y n0 h).inj h ?_);have wk:=wq.sh n0 k;have e1:aR n (Q2 (aR n (Sh k q)))=aR n (Q2 (Sh k q)):=(qf n0 (wk.q2 n0).v (bA.q2 wk.v (rn wk n0).2.2)).symm;rw[e1,qf n0 (wk.q2 n0).v (FO wq.v k)];have:r=aR n (Sh k (Q2 q)):=er;rw[<- this];exact b
end
end ae
namespace ae
abbrev cst(w:List Sp):Nat:=(w.map λs=>s.2.natAbs).sum
def UH(w:List Sp):cst w.reverse=cst w:=by unfold cst;rw[List.map_reverse,List.sum_reverse]
def DG(s:Sp)(w:List Sp):cst (s :: w)=s.2.natAbs+cst w:=by unfold cst;rw[ZaD,List.sum_cons]
def xc2(hl:Pl l)(hp:bL s):cst (bR l s)<=cst l+s.2.natAbs:=by
 cases l with
 |nil=>show cst [s]<=_;rw[DG];unfold cst;simp
 |cons t r =>
  rw[vH];split
  ·next e0 =>
   unfold cE;split
   ·show cst r<=_
    rw[DG];lk
   ·show cst ((t.1,gL t s) :: r)<=_
    rw[DG,DG];have:(gL t s).natAbs<=t.2.natAbs+s.2.natAbs:=by
     unfold gL;split
     ·lk
     ·next hb =>
      have:=hl.1.1 (by simpa using hb);have h2:=hp.1 (by rw[<- e0];simpa using hb);lk
    show(gL t s).natAbs+_<=_;lk
  ·rw[DG];lk
section
variable {n:Nat}{p:aP}
def UI{fs:List aP}{ws:List (List Sp)}{k:Nat}{s:Sp}(g:GR n p fs ws)(hk:k<fs.length)(hs:s=(true,1)\/s=(false,1))(h:∀(j:Nat) (w:List Sp),ws[j]?=some w->cst w<=j):∀(j:Nat) (w:List Sp),(aY n fs ws k s).2.1[j]?=some w->cst w<=j:=by
 intro j w hw;unfold aY at hw;split at hw;exact h j w hw;have hkw:k<ws.length:=by rw[g.wl];exact hk
 rcases ZbZ j ws.length with hj|hj
 rw[Zap hj]at hw;exact h j w hw;rw[Zax hj]at hw;obtain⟨h1,h2⟩:=Zac.mp hw;have hj0:j-ws.length=0:=by simpa using h1
 have e:(j8 (ws.getD k [] ++ [s])).reverse=w:=by
  rw[<- h2];simp[hj0]
 have hg:ws[k]?=some (ws.getD k []):=by rw[Zah,Zab hkw];rfl
 obtain⟨hp,_⟩:=g.wd k _ hg;have ps:bL s:=by rcases hs with rfl|rfl<;>exact⟨λ_=>by decide,by decide⟩
 have s1:s.2.natAbs=1:=by rcases hs with rfl|rfl<;>rfl
 have ew:j8 (ws.getD k [])=(ws.getD k []).reverse:=by
  have:=Pl.oI hp
  rwa [ZcR]at this
 have e2:j8 (ws.getD k [] ++ [s])=bR (ws.getD k []).reverse s:=by rw[K1,ew];rfl
 have h3:=xc2 hp ps;have h4:=h k _ hg;rw[<- e,UH,e2];rw[UH]at h3;lk
def UJ(n0:0<n)(w:Wh n p):∀i:Nat,(∀j,j<i->j<(ch n p j).1.length)->∀(k:Nat) (u:List Sp),(ch n p i).2.1[k]?=some u->cst u<=k
 |0,_,k,u,hu=>by
  have hu:([[]]:List (List Sp))[k]?=some u:=hu;cases k with
  |zero=>cases hu;exact ZaL _
  |succ k=>simp at hu
 |i+1,hp,k,u,hu=>by
  have g:=B6 n0 w i λj hj=>hp j ⋯;have ih:=UJ n0 w i λj hj=>hp j ⋯;have hi:i<(ch n p i).1.length:=hp i ⋯;have hl:(ch n p i).2.2.length=i:=g.ll;have h1:=vZ (k:=(ch n p i).2.2.length) (s:=(true,1)) n0 g.r w.v (by rw[hl];exact hi) (.inl rfl);have c1:=UI (k:=(ch n p i).2.2.length) (s:=(true,1)) g.r (by rw[hl];exact hi) (.inl rfl) ih;have c2:=UI (k:=(ch n p i).2.2.length) (s:=(false,1)) h1.1 (by have:=h1.2.2.1;lk) (.inr rfl) c1;exact c2 k u hu
end
def Zdu{A B:T4}{M N:Nat}(ha:A.le M)(hb:B.le N):(A.mul B).le (2*(M*N)):=by
 have key:∀{a b c d:Int},a.natAbs<=M->b.natAbs<=N->c.natAbs<=M->d.natAbs<=N->(a*b+c*d).natAbs<=2*(M*N):=λ{a b c d} h1 h2 h3 h4=>by
  have e1:(a*b).natAbs<=M*N:=by rw[Za5];exact ZbW h1 h2
  have e2:(c*d).natAbs<=M*N:=by rw[Za5];exact ZbW h3 h4
  have:=Int.natAbs_add_le (a*b) (c*d);lk
 obtain⟨a1,a2,a3,a4⟩:=ha;obtain⟨b1,b2,b3,b4⟩:=hb;exact⟨key a1 b1 a2 b3,key a1 b2 a2 b4,key a3 b1 a4 b3,key a3 b2 a4 b4⟩
def UK:∀x:Nat,1<=x->2*x<=2 ^ x
 |1,_=>by decide
 |x+2,_=>by
  have:=UK (x+1) ⋯;rw[Nat.pow_succ];lk
def UL:∀j:Nat,(qp j).le 1
 |0=>⟨by decide,by decide,by decide,by decide⟩
 |j+1=>by
  obtain⟨h1,h2,h3,h4⟩:=UL j;show(T4.mul T4.qt (qp j)).le 1;refine⟨?_,?_,?_,?_⟩;show(0*(qp j).a + -1*(qp j).c).natAbs<=1;lk;show(0*(qp j).b + -1*(qp j).d).natAbs<=1;lk;show(1*(qp j).a+0*(qp j).c).natAbs<=1;lk;show(1*(qp j).b+0*(qp j).d).natAbs<=1;lk
def UM:∀{w:List Sp},(∀s∈w,bL s)->(ai w).le (2 ^ cst w)
 |[],_=>⟨by decide,by decide,by decide,by decide⟩
 |s :: w,hw=>by
  have ih:=UM (w:=w) λt ht=>hw t (Zas _ ht);have hs:=hw s Zaj;have hs1:1<=s.2.natAbs:=by have:=hs.2;lk
  have e:ai (s :: w)=(ai w).mul (j9 s):=by
   have:=qw [s] w;rw[show[s] ++ w=s :: w from rfl]at this;rw[this]
   congr 1
   show(j9 s).mul T4.one=j9 s;exact T4.mul_one _
  have hle:(j9 s).le s.2.natAbs:=by
   unfold j9;split;exact⟨hs1,Zag _,ZaL _,hs1⟩;obtain⟨h1,h2,h3,h4⟩:=UL s.2.toNat;exact⟨by lk,by lk,by lk,by lk⟩
  rw[e,DG];have:=Zdu ih hle;have h2:2*(2 ^ cst w*s.2.natAbs)<=2 ^ (s.2.natAbs+cst w):=by
   rw[Nat.pow_add,ZbY (2 ^ s.2.natAbs),<- ZcE,ZbY 2,ZcE];exact Nat.mul_le_mul_left _ (UK _ hs1)
  exact⟨Zal this.1 h2,Zal this.2.1 h2,Zal this.2.2.1 h2,Zal this.2.2.2 h2⟩
end ae
namespace L4
open PySem PySem.Spec L2
section
variable {K:Zfr}
def Xc2(ha:ug K ta fa)(hn:∀δ st as st',fa δ st=some (as,st')->as.length=m)(hm:m+qr.length=n)(hd:∀ρ H,cF K ρ H qr LB):fW K (rF (a6 K n F) qr E ta) (aM (λas=>F (as ++ LB)) fa):=by intro ρ σ H δ st b st' Q l rs e q;obtain⟨as,st1,e1,e⟩:=d9 e;refine ha ρ σ H δ st as st1 _ l rs e1 λvs H1 ρ1 m1 l1 r1=>⟨?_,ρ1,st1,as ++ LB,b,st',l1,?_,e,λv H3 ρ3 m3 l3 r3=>q v H3 ρ3 (m1.trans m3) l3 r3⟩;rw[Zae,r1.length,hn _ _ _ _ e1];exact hm;exact r1.append (hd _ _)
end
end L4
namespace L4
open PySem PySem.Spec PyProof.Rows L2
section
variable {K:Zfr}
abbrev rV:D->Option Nat
 |.ref i=>some i
 |_=>none
abbrev qz:List D->Dm D
 |[.ref i,.ref z],st=>match (items st i).bind (bB rV),own st z with
  |some is,some []=>match bB (own st) is with
   |some xss=>if(decide (0<is.length) && lim xss.flatten.length)=true then some (.ref st.length,st ++ [.lst xss.flatten])else none
   |none=>none
  |_,_=>none
 |_,_=>none
def UN:∀{vs:List V} {ds:List D} {is:List Nat},cF K ρ H vs ds->bB rV ds=some is->∃as:List Addr,vs=as.map V.ref/\as.length=is.length/\∀(j i:Nat),is[j]?=some i->∃a,as[j]?=some a/\ρ[i]?=some a
 |_,_,_,.nil,h=>by cases h;exact⟨[],rfl,rfl,λj i e=>by simp at e⟩
 |_,_,_,.cons a b,h=>by
  obtain⟨x,t,h1,h2,rfl⟩:=xH h;obtain⟨as,rfl,hl,hr⟩:=UN b h2;cases a with
  |ref hi =>
   cases h1;refine⟨_ :: as,rfl,by rw[ZaE,ZaE,hl],λj i e=>?_⟩;cases j with
   |zero=>cases e;exact⟨_,rfl,hi⟩
   |succ j=>exact hr j i e
  |_=>cases h1
def UO{ρ:List Addr}{H:Hp}{st:Store}(l:Rl K ρ H st):∀{is:List Nat} {as:List Addr} {xss:List (List D)},bB (own st) is=some xss->as.length=is.length->(∀(j i:Nat),is[j]?=some i->∃a,as[j]?=some a/\ρ[i]?=some a)->∃Cc:List (List V),Cc.length=as.length/\(∀(j:Nat) (a:Addr) (ys:List V),as[j]?=some a->Cc[j]?=some ys->H a=some (.lst ys))/\cF K ρ H Cc.flatten xss.flatten
 |[],as,xss,h,hl,hr=>by
  cases h;cases as with
  |nil=>exact⟨[],rfl,λj a ys e=>by simp at e,.nil⟩
  |cons a as=>cases hl
 |i :: is,[],xss,h,hl,hr=>by cases hl
 |i :: is,a :: as,xss,h,hl,hr=>by
  obtain⟨x,t,h1,h2,rfl⟩:=xH h;obtain⟨a',e1,e2⟩:=hr 0 i rfl;cases e1;obtain⟨vs,e3,r1⟩:=l.obj _ _ _ e2 (ui h1);obtain⟨Cc,hl',hr',rr⟩:=UO l h2 (Nat.succ.inj hl) λj k e=>hr (j+1) k e;refine⟨vs :: Cc,by rw[ZaE,ZaE,hl'],λj b ys e4 e5=>?_,r1.append rr⟩;cases j with
  |zero=>cases e4;cases e5;exact e3
  |succ j=>exact hr' j b ys e4 e5
def UP:si K (yK K) qz:=by
 intro ρ H st xs as b st' Q l rx e q;unfold qz at e;split at e
 ·split at e
  ·next is h1 h2 =>
   split at e
   ·next xss h3 =>
    split at e
    ·next hc =>
     cases e;obtain⟨ds,h4,h5⟩:=Za4.mp h1;rw[ZaB]at hc;cases rx with
     |cons r1 rx =>
      cases rx with
      |cons r2 rx =>
       cases rx;cases r1 with
       |ref hi =>
        cases r2 with
        |ref hz =>
         obtain⟨vs,sq,rv⟩:=l.items hi h4;obtain⟨as,rfl,hal,har⟩:=UN rv h5;obtain⟨Cc,hvl,hvr,rr⟩:=UO l h3 hal har;obtain⟨wz,ez,rz⟩:=l.obj _ _ _ hz (ui h2);cases rz;exact⟨_,_,as,Cc,rfl,sq,ez,hvl.symm,by rw[hal];exact of_decide_eq_true hc.1,hvr,by rw[rr.length];exact Dn hc.2,λp hp=>q _ _ _ (Mn.new hp) (l.newL hp rr) (.ref (newR l))⟩
    ·cases e
   ·cases e
  ·cases e
 ·cases e
end
def Ydu{st:Store}{Q:D->Store->Prop}{i z:Nat}{is:List Nat}{xss:List (List D)}(h1:items st i=some (is.map D.ref))(h2:own st z=some [])(h3:bB (own st) is=some xss)(h4:0<is.length)(h5:lim xss.flatten.length=true):Wp (qz [.ref i,.ref z] st) Q↔Q (.ref st.length) (st ++ [.lst xss.flatten]):=by
 have e0:∀l:List Nat,bB rV (l.map D.ref)=some l:=λl=>by
  induction l with
  |nil=>rfl
  |cons a l ih=>rw[ZaD];simp only[bB,rV,ih,Za7,Option.map_some]
 have e:qz [.ref i,.ref z] st=some (.ref st.length,st ++ [.lst xss.flatten]):=by
  simp only[qz,h1,Za7,e0,h2,h3,h5,decide_eq_true h4,Bool.and_self,if_true]
 rw[e,bh]
end L4
namespace L4
open PySem PySem.Spec L2
abbrev LC:D->Option Int
 |.tup (.int n :: _)=>some n
 |_=>none
abbrev oN:List D->Dm D
 |[a],st=>match b7 st a with
  |some ds=>match bB LC ds with
   |some ns=>if ds.length<64/\ns.Pairwise (· < ·)then some (.ref st.length,st ++ [.lst ds])else none
   |none=>none
  |none=>none
 |_,_=>none
def UQ{α β:Type}{f:α->Option β}:∀{ds:List α} {ns:List β},bB f ds=some ns->ns.length=ds.length/\∀(i:Nat) (n:β),ns[i]?=some n->∃d,ds[i]?=some d/\f d=some n
 |[],_,h=>by cases h;exact⟨rfl,λi n e=>by simp at e⟩
 |d :: ds,_,h=>by
  obtain⟨b,t,e1,e2,rfl⟩:=xH h;obtain⟨hl,hg⟩:=UQ e2;refine⟨congrArg Nat.succ hl,λi n e=>?_⟩;cases i with
  |zero=>cases e;exact⟨d,rfl,e1⟩
  |succ i=>exact hg i n e
section
variable {K:Zfr}
def zc3:si K (vD K) oN:=by
 intro ρ H st xs as b st' Q l rx e q;unfold oN at e;split at e
 ·next a =>
  split at e
  ·next ds hds =>
   split at e
   ·next ns hn =>
    split at e
    ·next ok =>
     cases e;obtain⟨v,rfl,r⟩:=rx.one';obtain⟨p,vs,rfl,hs,rr⟩:=Du l r hds;obtain⟨hl,hg⟩:=UQ hn;have hv:=rr.length;refine⟨_,vs,ns,rfl,hs,by lk,ok.2,by lk,λi v n e1 e2=>?_,λp hp=>q _ _ _ (Mn.new hp) (l.newL hp rr) (.ref (newR l))⟩;obtain⟨d,hd,hf⟩:=hg i n e2;obtain⟨v',hv',rv⟩:=rr.got hd;rw[e1]at hv';cases hv';unfold LC at hf;split at hf
     ·cases hf
      cases rv with
      |tup hs' rr' =>
       cases rr' with
       |cons r1 r2 =>
        cases r1;exact⟨_,_,rfl,hs'⟩
     ·cases hf
    ·cases e
   ·cases e
  ·cases e
 ·cases e
end
def yc3(ha:b7 st a=some ds)(hn:bB LC ds=some ns)(hl:ds.length<64)(hp:ns.Pairwise (· < ·)):Wp (oN [a] st) Q↔Q (.ref st.length) (st ++ [.lst ds]):=by
 have e:oN [a] st=some (.ref st.length,st ++ [.lst ds]):=by
  simp only[oN,ha,hn];rw[if_pos ⟨hl,hp⟩]
 rw[e,bh]
end L4
namespace My
local macro_rules|`(tactic| w_up)=>`(tactic| first|exact .inl rfl|exact .inr rfl|assumption)
local macro_rules|`(tactic| w_fin)=>`(tactic| decide +kernel)
local macro_rules|`(tactic|walk)=>`(tactic|exact ⟨rfl,rfl,rfl,by w_fin,rfl,by w_fin,by w_fin⟩)
local macro_rules|`(tactic| k_lt $h)=>`(tactic| (refine L4.bG ?_;intro _ $h;set_option simprocs false in simp only[L4.bp]))
local macro_rules|`(tactic|exists $l,*)=>`(tactic|set_option simprocs false in simp only[L4.bp,$[$l:term],*])
local macro_rules|`(tactic| w_how)=>`(tactic| set_option simprocs false in simp only[L4.bp])
open PySem L2 L4
local macro_rules|`($a<|$b)=>`(@WE _ _ _ _ _ $a $b (by rfl))
local macro_rules|`($a<|>$b)=>`(@Wt _ _ _ _ _ $a $b)
local macro_rules|`($a<*$b<*$c)=>`(@EM _ _ _ _ _ _ _ $a $b $c (λ_ _=>rfl))
local macro_rules|`(~~~$a)=>`(@Wu _ _ _ $a)
local macro_rules|`($a<*>$b<*>$c)=>`(@Er _ _ _ _ _ _ _ _ $a $b $c)
local macro_rules|`($a&&&$b&&&$c)=>`(@zZ _ _ _ _ _ _ _ _ PassesOwn.never rfl $a $b $c (by intro _;rfl))
local macro_rules|`($a>>=$b>>=$c)=>`(@zY (i:=$a) _ _ _ _ _ _ (aB.nd $b) rfl (by w_up) $c (by rfl) (by w_up))
def Zc3:∀δ st as st',ah δ st=some (as,st')->as.length=0:=λ_ _ _ _ h=>SY h
def x5:∀δ st as st',af f1 ah δ st=some (as,st')->as.length=1:=Dq Zc3
def wY:∀δ st as st',af f2 (af f1 ah) δ st=some (as,st')->as.length=2:=Dq x5
def UR:∀δ st as st',af f3 (af f2 (af f1 ah)) δ st=some (as,st')->as.length=3:=Dq wY
def Pk:∀δ st as st',af f4 (af f3 (af f2 (af f1 ah))) δ st=some (as,st')->as.length=4:=Dq UR
def Yc3:∀δ st as st',af f5 (af f4 (af f3 (af f2 (af f1 ah)))) δ st=some (as,st')->as.length=5:=Dq Pk
def bu{X:Cx}{k k':Nat}{f:Addr}{fd:FuncData}{ps:List Str}{sp:Sp}{x:Str}{st:Stmt}{e:Expr}{es:List Expr}{t:TA}{p pos:Pos}(F:aE X.prog X.w X.K X.mg X.base aZ k f fd ps sp)(D:Def X.K X.mg x st ps f fd)(hr:i9 k' X.A)(hk:k<=k')(hg:Gl X x)(ha:PA X (e :: es) t)(hdb:(x == ("__debug__" : Str))=false:=by decide)(he:starEach (e :: es) X.env=(false,eval e X.env) :: starEach es X.env:=by rfl)(hpl:(backTo pos (starEach es X.env)).any (·.1)=false:=by rfl):PE X (.Call (.Name x p) (e :: es) [] pos) (rF sp [] E0 t):=QM F (hr.mono hk) hg D.m D.F.kp D.b .nil yC ha hdb he hpl
def tf{n:Nat}{us:List Value}(h:us.length=n+1):∃a t,us=a :: t/\t.length=n:=by cases us with|nil=>cases h|cons a t=>exact⟨a,t,rfl,Nat.succ.inj h⟩
def oZ(k:∀x0,bindArgs fd ⟨[x0],[]⟩=pure [(p0,x0)])(us:List Value)(h:us.length=1):bindArgs fd ⟨us,[]⟩=pure ([p0].zip us):=by obtain⟨x0,t0,rfl,g1⟩:=tf h;cases ZaX g1;exact k x0
def nI(k:∀x0 x1,bindArgs fd ⟨[x0,x1],[]⟩=pure [(p0,x0),(p1,x1)])(us:List Value)(h:us.length=2):bindArgs fd ⟨us,[]⟩=pure ([p0,p1].zip us):=by obtain⟨x0,t0,rfl,g1⟩:=tf h;obtain⟨x1,t1,rfl,g2⟩:=tf g1;cases ZaX g2;exact k x0 x1
def Pm(k:∀x0 x1 x2,bindArgs fd ⟨[x0,x1,x2],[]⟩=pure [(p0,x0),(p1,x1),(p2,x2)])(us:List Value)(h:us.length=3):bindArgs fd ⟨us,[]⟩=pure ([p0,p1,p2].zip us):=by obtain⟨x0,t0,rfl,g1⟩:=tf h;obtain⟨x1,t1,rfl,g2⟩:=tf g1;obtain⟨x2,t2,rfl,g3⟩:=tf g2;cases ZaX g3;exact k x0 x1 x2
def lm4(k:∀x0 x1 x2 x3,bindArgs fd ⟨[x0,x1,x2,x3],[]⟩=pure [(p0,x0),(p1,x1),(p2,x2),(p3,x3)])(us:List Value)(h:us.length=4):bindArgs fd ⟨us,[]⟩=pure ([p0,p1,p2,p3].zip us):=by obtain⟨x0,t0,rfl,g1⟩:=tf h;obtain⟨x1,t1,rfl,g2⟩:=tf g1;obtain⟨x2,t2,rfl,g3⟩:=tf g2;obtain⟨x3,t3,rfl,g4⟩:=tf g3;cases ZaX g4;exact k x0 x1 x2 x3
def lm5(k:∀x0 x1 x2 x3 x4,bindArgs fd ⟨[x0,x1,x2,x3,x4],[]⟩=pure [(p0,x0),(p1,x1),(p2,x2),(p3,x3),(p4,x4)])(us:List Value)(h:us.length=5):bindArgs fd ⟨us,[]⟩=pure ([p0,p1,p2,p3,p4].zip us):=by obtain⟨x0,t0,rfl,g1⟩:=tf h;obtain⟨x1,t1,rfl,g2⟩:=tf g1;obtain⟨x2,t2,rfl,g3⟩:=tf g2;obtain⟨x3,t3,rfl,g4⟩:=tf g3;obtain⟨x4,t4,rfl,g5⟩:=tf g4;cases ZaX g5;exact k x0 x1 x2 x3 x4
local macro_rules|`(tactic| o_norm)=>`(tactic| repeat' (first|with_reducible (first|apply ng|apply o8|apply lz|apply OA|apply S0|apply nD|apply b6|apply lG|apply wU|apply uh|apply OD|apply sW|apply xJ|apply bY|apply d3|apply wN|apply OE|apply OC|apply wR|apply y9|apply S2|apply vQ|apply xE|apply S1|apply Tp|apply Te|apply Tb|apply uL|apply OL|apply F3|apply S5|apply F4|apply Ti|apply qg|apply zd|apply Ln|apply sj|apply F8|apply Tr|apply OI|apply OH|apply F6|apply F5|apply Tq|apply F0|apply S6|apply Tc|apply y4|apply S4|apply SW|apply SX|apply Ll|apply Lp|apply Dx|apply wQ|apply Dw|apply Oy|apply OQ|apply TV|apply Ur|apply Tj|apply OB|apply Lk|apply Ow|apply OG|apply Lg|apply Up|apply Ux|apply SR|apply T6|apply To|apply Lo|apply TJ|apply Lh|apply TK|apply TL|apply Dl|apply S3|apply Tf|apply Uw|apply Ta|apply Lj|apply SV|apply T7|apply OJ|apply UP|apply y3|apply Uv|apply SU|apply Uq|apply Li|apply Pc|apply Um|apply yX|apply T5|exactλ_ _ _ _ h=>SY h|apply Dq)|exact nD _|exact b6 _|first|apply ng|apply o8|apply lz|apply OA|apply S0|apply nD|apply b6|apply lG|apply wU|apply uh|apply OD|apply sW|apply xJ|apply bY|apply d3|apply wN|apply OE|apply OC|apply wR|apply y9|apply S2|apply vQ|apply xE|apply S1|apply Tp|apply Te|apply Tb|apply uL|apply OL|apply F3|apply S5|apply F4|apply Ti|apply qg|apply zd|apply Ln|apply sj|apply F8|apply Tr|apply OI|apply OH|apply F6|apply F5|apply Tq|apply F0|apply S6|apply Tc|apply y4|apply S4|apply SW|apply SX|apply Ll|apply Lp|apply Dx|apply wQ|apply Dw|apply Oy|apply OQ|apply TV|apply Ur|apply Tj|apply OB|apply Lk|apply Ow|apply OG|apply Lg|apply Up|apply Ux|apply SR|apply T6|apply To|apply Lo|apply TJ|apply Lh|apply TK|apply TL|apply Dl|apply S3|apply Tf|apply Uw|apply Ta|apply Lj|apply SV|apply T7|apply OJ|apply UP|apply y3|apply Uv|apply SU|apply Uq|apply Li|apply Pc|apply Um|apply yX|apply T5))
set_option hygiene false
local macro_rules|`($a|||$b|||$c:ident)=>`(by refine D.F.ok $a (λ_ _ _ _ h=>h.1) (λc A o s H v Q E hr h=>?_);have hu:=hr.units;refine⟨_,$b,?_⟩;exact dO (b:=$c) (by delta $c;o_norm) rfl h)
set_option hygiene true
local macro_rules|`(tactic|k_in)=>`(tactic|exact ⟨⟨rfl,by w_fin,by w_fin,by dsimp only[gE,aU,Cx.pb,Cx.wish,PyProof.Rows.envOfC,compEnvC,relabel,Env.kindOf];decide +kernel,by w_fin⟩,rfl⟩)
local macro_rules|`(#[$n])=>`(fC (.int $n))
local macro_rules|`(tactic|k_lt2 $h)=>`(tactic|(clear $h;k_lt $h))
local macro_rules|`(tactic|exists _,$h:ident,$l,*)=>`(tactic|(refine L4.bG ?_;intro _ $h;exists $l,*))
abbrev top(i:Nat):Stmt:=PySem.Challenge.pw_shearfloor_k65_whole_kinds_by_the_group.main.body.getD i (.Pass ⟨0,0,0,0⟩)
@[reducible]def IV:=Nat->ao->Store->Prop
@[reducible]def IN:=ao->Store->Prop
def d6(h:let q:=R;Ws (b (ds.map some ++ List.replicate (n-ds.length) none) st) (λ_ st1=>q .non st1) (λ_ _=>False) (λ_ _=>False) q):Wp (dw n b ds st) R:=Gj h
structure Txt(mg:Str->Option Value):Prop where
 wa:mg "abs" = none
 jd:mg "enumerate" = none
 wb:mg "int" = none
 qS:mg "isinstance" = none
 bH:mg "len" = none
 dz:mg "list" = none
 zw:mg "max" = none
 wc:mg "min" = none
 aV:mg "range" = none
 tj:mg "reversed" = none
 p5:mg "sorted" = none
 GU:mg "sum" = none
 a9:mg "tuple" = none
section
variable {P:Program}{w:World}{K:Zfr}{mg:Str->Option Value}{base:Heap}{f:Addr}{fd:FuncData}
abbrev GV:ao->Dm Fl :=
 (aC (aJ (av dh (av ke #[7901] (ag 1)) #[24697]) (hName 2))
 (aC (fg (aH (av vL (ag 1) (aM cV (af (ag 0) ah)))) (aJ (av bZ (ag 0) (ag 1)) (hName 2)) (fg (aH (av y8 (aM cV (af (ag 0) ah)) #[0])) (aJ (av dh (av ke (av lE (av bZ (ag 0) (av lE (ag 1) (aM cV (af (ag 0) ah)))) #[2147483629]) #[31]) (av ke #[7901] (ag 1))) (hName 2)) aX))
 (aC (aJ #[0] (hName 3))
 (aC (fg (aH (av Oz (ag 2) (av vK #[10] #[18]))) (aJ (ag 2) (hName 3)) aX)
 (aQ (cO (af (ag 3) (af (av dh (av lE (av vK (av dh (av ke (av lE (ag 2) #[2147483629]) #[48271]) (av ke #[40692] (ag 1))) #[5]) #[2147483629]) #[1]) ah))))))))
abbrev zx:List D->Dm D:=dw 4 GV
abbrev GW:Stmt:=top 64
def DH:aB ["_law_script","_law_k","_law_cell","_law_own_here"] ["_law_script","_law_k"] (aj GW):=by walk
abbrev Gx1:=λ(n:Str)(s:Stmt)(p:List Str)K mg=>Def K mg n s p
abbrev Gx2:=λ(p:List Str)(N n:Nat)F P w K mg base f d=>aE P w K mg base aZ N f d p (a6 K n F)
abbrev D10:=Gx1 "_law_feed" GW ["_law_script","_law_k"]
abbrev G10:=Gx2 ["_law_script","_law_k"] 1 2 zx
def Zb0(D:D10 K mg f fd)(T:Txt mg):G10 P w K mg base f fd:=DH|||((2>>=DH>>=bg nz (bg rD aK (pv 1)) aK)<|>(dA xl (pv 1) (iA mw (by rfl) T.bH mz (pv 0<|aA)) (aI _)<*>(~~~(2>>=DH>>=(nA<*pv 0<*pv 1)))<*>(~~~(dA C3 (iA mw (by rfl) T.bH mz (pv 0<|aA)) aK (aI _)<*>(~~~(2>>=DH>>=bg nz (bg rD (bg tJ (nA<*pv 0<*bg tJ (pv 1) (iA mw (by rfl) T.bH mz (pv 0<|aA))) aK) aK) (bg rD aK (pv 1))))<*>jN)))<|>(3>>=DH>>=aK)<|>(dA EF (pv 2) (bg QD aK aK) (aI _)<*>(~~~(3>>=DH>>=pv 2))<*>jN)<|>(~~~(@cC _ _ _ _ (@mv _ _ _ _ (pv 3<|bg nz (bg tJ (bg QD (bg nz (bg rD (bg tJ (pv 2) aK) aK) (bg rD aK (pv 1))) aK) aK) aK<|aA)))))|||GV
variable {kr:Addr}{ky:FuncData}(fm:D10 K mg kr ky)(iI:G10 P w K mg base kr ky)
abbrev GX:ao->Dm Fl :=
 (aC (fg (aH (av y8 (av bZ (ag 0) #[0]) #[0])) (aC (aJ (av lE (av bZ (ag 0) #[0]) (ag 1)) (hName 2))
 (aC (aJ (av n5 (av bZ (ag 0) #[0]) (ag 1)) (hSub (ag 0) #[0]))
 (aQ (ag 2)))) aX)
 (aC (aJ (av lE (av ke (av bZ (ag 0) #[1]) #[48271]) #[2147483647]) (hName 3))
 (aC (aJ (av dh (av lE (av dh (av ke (ag 3) #[40692]) #[30103]) #[2147483399]) #[1]) (hSub (ag 0) #[1]))
 (aQ (av lE (av n5 (av dh (av ke (ag 3) #[2147483647]) (av bZ (ag 0) #[1])) #[8191]) (ag 1))))))
abbrev sy:List D->Dm D:=dw 4 GX
abbrev GY:Stmt:=top 65
def Pn:aB ["_law_feed_here","_law_many","_law_digit","_law_one"] ["_law_feed_here","_law_many"] (aj GY):=by walk
abbrev D11:=Gx1 "_law_take" GY ["_law_feed_here","_law_many"]
abbrev G11:=Gx2 ["_law_feed_here","_law_many"] 1 2 sy
def Yb0(D:D11 K mg f fd)(T:Txt mg):G11 P w K mg base f fd:=Pn|||((dA C3 (nA<*pv 0<*aK) aK (aI _)<*>((2>>=Pn>>=bg tJ (nA<*pv 0<*aK) (pv 1))<|>uH (bg C2 (nA<*pv 0<*aK) (pv 1)) (CZ (pv 0) aK C4)<|>(~~~(@cC _ _ _ _ (pv 2))))<*>jN)<|>(3>>=Pn>>=bg tJ (bg rD (nA<*pv 0<*aK) aK) aK)<|>uH (bg nz (bg tJ (bg nz (bg rD (pv 3) aK) aK) aK) aK) (CZ (pv 0) aK C4)<|>(~~~(@cC _ _ _ _ (bg tJ (bg C2 (bg nz (bg rD (pv 3) aK) (nA<*pv 0<*aK)) aK) (pv 1)))))|||GX
variable {kz:Addr}{kA:FuncData}(aN:D11 K mg kz kA)(aO:G11 P w K mg base kz kA)
abbrev GZ:ao->Dm Fl :=
 (aC (aJ (aM c5 (af (aM gM (af (ag 1) ah)) ah)) (hName 2))
 (aC (aJ (aW ah) (hName 3))
 (aC (iG (aH (av (jQ true) (ag 2) (cO ah))) (aJ (av jc (ag 3) (aW (af (lO "list" oK (ag 2) (af (aM sy (af (ag 0) (af (aM cV (af (ag 2) ah)) ah))) ah)) ah))) (hName 3)))
 (aQ (ag 3)))))
abbrev G0:List D->Dm D:=dw 4 GZ
abbrev G1:Stmt:=top 66
def LD:aB ["_law_feed_here","_law_n","_law_left","_law_found"] ["_law_feed_here","_law_n"] (aj G1):=by walk
abbrev D12:=Gx1 "_law_turning" G1 ["_law_feed_here","_law_n"]
abbrev G12:=Gx2 ["_law_feed_here","_law_n"] 2 2 G0
include aN aO in
def xbx(D:D12 K mg f fd)(T:Txt mg):G12 P w K mg base f fd:=LD|||((2>>=LD>>=fV (ve rfl) (by rfl) T.dz r6 (fV E6 (by rfl) T.aV va (pv 1<|aA)<|aA))<|>(3>>=LD>>=(@dr _ _ _ _ _ aA))<|>xi PassesOwn.never (dA (C8 hu) (pv 2) (@mv _ _ _ _ aA) (aI _)) (~~~(3>>=LD>>=bg wC (pv 3) (@dr _ _ _ _ _ (qj PySem.F.plainAttrs_list PySem.F.slot_list_pop PySem.F.type_list_pop WY (pv 2) (bu aO aN hr ∅ rfl (pv 0<|iA mw (by rfl) T.bH mz (pv 2<|aA)<|aA)<|aA)<|aA))))<|>(~~~(@cC _ _ _ _ (pv 3))))|||GZ
variable {fF:Addr}{fG:FuncData}(cU:D12 K mg fF fG)(dB:G12 P w K mg base fF fG)
abbrev G2:ao->Dm Fl :=
 (aC (aJ (cO (af #[0] ah)) (hName 1))
 (aC (c6 (b9 (af (av dh #[1] (aM cV (af (av aD (ag 0) #[0]) ah))) ah)) (hName 2) (c6 (cQ (ag 0)) (hName 3) (c6 (oM (aM n8 (af (ag 1) ah))) (hName 4) (fg (aH (av (rP true) (av aD (ag 3) (ag 4)) (ag 1))) (cP (lO "list" a8 (ag 1) (af (av aD (ag 3) (ag 4)) ah))) aX))))
 (aQ (ag 1))))
abbrev Cd:List D->Dm D:=dw 5 G2
abbrev G3:Stmt:=top 67
def G4:aB ["_law_floor_here","_law_found","_law_turn","_law_turning_here","_law_one"] ["_law_floor_here"] (aj G3):=by walk
abbrev D13:=Gx1 "_law_met" G3 ["_law_floor_here"]
abbrev G13:=Gx2 ["_law_floor_here"] 1 1 Cd
def xb9(D:D13 K mg f fd)(T:Txt mg):G13 P w K mg base f fd:=G4|||((1>>=G4>>=(@mv _ _ _ _ (aK<|aA)))<|>(rh rfl T.aV (bg nz aK (iA mw (by rfl) T.bH mz ((bj<*pv 0<*aK)<|aA))<|aA)&&&(cX (i:=2) G4.nd rfl (by w_up))&&&(~~~(qi (pv 0)&&&(cX (i:=3) G4.nd rfl (by w_up))&&&(~~~(M5 (fV ET (by rfl) T.dz r6 (pv 1<|aA))&&&(cX (i:=4) G4.nd rfl (by w_up))&&&(~~~(dA C5 (bj<*pv 3<*pv 4) (pv 1) (by with_unfolding_all rfl)<*>(~~~rY (qj PySem.F.plainAttrs_list PySem.F.slot_list_append PySem.F.type_list_append rZ (pv 1) ((bj<*pv 3<*pv 4)<|aA)))<*>jN)))))))<|>(~~~(@cC _ _ _ _ (pv 1))))|||G2
variable {mD:Addr}{mE:FuncData}(iz:D13 K mg mD mE)(kg:G13 P w K mg base mD mE)
abbrev G5:ao->Dm Fl :=
 (aC (aJ (aM sy (af (ag 0) (af #[6] ah))) (hName 2))
 (aC (qM 3 4 (af (aM n8 (af (aM G0 (af (ag 0) (af (ag 1) ah))) ah)) (af (aM n8 (af (aM G0 (af (ag 0) (af (ag 1) ah))) ah)) ah)))
 (aC (fg (aH (av (jP false) (ag 2) #[0])) (aJ (av pV (aM c5 (af (aM fE (af #[1] (af (ag 1) ah))) ah)) (cO (af #[0] ah))) (hName 3)) aX)
 (aC (fg (aH (av (jP false) (ag 2) #[1])) (qM 3 4 (af (aM c5 (af (aM gM (af (ag 1) ah)) ah)) (af (av pV (aM c5 (af (aM fE (af #[1] (af (ag 1) ah))) ah)) (cO (af #[0] ah))) ah))) aX)
 (aC (fg (aH (av (jP false) (ag 2) #[2])) (aC (aJ (av dh #[1] (aM sy (af (ag 0) (af (ag 1) ah)))) (hName 5))
 (aC (aJ (av pV (av pV (aM c5 (af (aM fE (af #[1] (af (ag 5) ah))) ah)) (cO (af #[0] ah))) (aM c5 (af (aM fE (af (ag 5) (af (ag 1) ah))) ah))) (hName 3))
 (aC (aJ (Dp vN (av pV (av pV (av pV (cO (af (ag 5) ah)) (aM c5 (af (aM fE (af #[1] (af (ag 5) ah))) ah))) (aM c5 (af (aM fE (af (av dh (ag 5) #[1]) (af (ag 1) ah))) ah))) (cO (af #[0] ah))) n4 (qx (ag 1))) (hName 4))
 (fg (aH (av (jP false) (ag 5) (ag 1))) (aJ (aM c5 (af (aM gM (af (ag 1) ah)) ah)) (hName 4)) aX)))) aX)
 (aC (aJ (aW (af (aM bF (af (ag 3) ah)) (af (aM bF (af (ag 4) ah)) ah))) (hName 6))
 (aC (aJ (cu (b9 (af (ag 1) ah)) 1 [6] (hName 0) (aH (av (rP true) (ag 0) (aM Cd (af (ag 1) ah)))) (ag 0)) (hName 7))
 (aC (iG (aH (av (jQ true) (ag 7) (cO ah))) (aC (aJ (av bZ (ag 7) #[0]) (hName 8))
 (aC (aJ (aW (af (av bZ (ag 3) (ag 8)) (af (av bZ (ag 3) #[0]) ah))) (lH 2 (bx (hSub (ag 3) #[0]) (bx (hSub (ag 3) (ag 8)) lQ))))
 (aC (aJ (aW (af (aM bF (af (ag 3) ah)) (af (aM bF (af (ag 4) ah)) ah))) (hName 6))
 (aJ (cu (b9 (af (ag 1) ah)) 1 [6] (hName 0) (aH (av (rP true) (ag 0) (aM Cd (af (ag 1) ah)))) (ag 0)) (hName 7))))))
 (aQ (ag 6))))))))))
abbrev G6:List D->Dm D:=dw 9 G5
abbrev G7:Stmt:=top 68
def uu:aB ["_law_feed_here","_law_n","_law_form_here","_law_right","_law_up","_law_wide","_law_found","_law_apart","_law_m"] ["_law_feed_here","_law_n"] (aj G7):=by walk
abbrev D14:=Gx1 "_law_floor" G7 ["_law_feed_here","_law_n"]
abbrev G14:=Gx2 ["_law_feed_here","_law_n"] 3 2 G6
include aN aO cU dB iz kg in
def ZbQ(D:D14 K mg f fd)(T:Txt mg):G14 P w K mg base f fd:=uu|||((2>>=uu>>=bu aO aN hr ∅ rfl (pv 0<|aK<|aA))<|>(C0 (i:=3) (j:=4) rfl uu.nd rfl rfl ∅ rfl rfl (fV ET (by rfl) T.dz r6 (bu dB cU hr ∅ rfl (pv 0<|pv 1<|aA)<|aA)<|fV ET (by rfl) T.dz r6 (bu dB cU hr ∅ rfl (pv 0<|pv 1<|aA)<|aA)<|aA) rfl)<|>(dA o3 (pv 2) aK (aI _)<*>(~~~(3>>=uu>>=bg Ao (fV (ve rfl) (by rfl) T.dz r6 (fV C7 (by rfl) T.aV va (aK<|pv 1<|aA)<|aA)) (@mv _ _ _ _ (aK<|aA))))<*>jN)<|>(dA o3 (pv 2) aK (aI _)<*>(~~~(C0 (i:=3) (j:=4) rfl uu.nd rfl rfl ∅ rfl rfl (fV (ve rfl) (by rfl) T.dz r6 (fV E6 (by rfl) T.aV va (pv 1<|aA)<|aA)<|bg Ao (fV (ve rfl) (by rfl) T.dz r6 (fV C7 (by rfl) T.aV va (aK<|pv 1<|aA)<|aA)) (@mv _ _ _ _ (aK<|aA))<|aA) rfl))<*>jN)<|>(dA o3 (pv 2) aK (aI _)<*>((5>>=uu>>=bg nz aK (bu aO aN hr ∅ rfl (pv 0<|pv 1<|aA)))<|>(3>>=uu>>=bg Ao (bg Ao (fV (ve rfl) (by rfl) T.dz r6 (fV C7 (by rfl) T.aV va (aK<|pv 5<|aA)<|aA)) (@mv _ _ _ _ (aK<|aA))) (fV (ve rfl) (by rfl) T.dz r6 (fV C7 (by rfl) T.aV va (pv 5<|pv 1<|aA)<|aA)))<|>(4>>=uu>>=QZ WU (bg Ao (bg Ao (bg Ao (@mv _ _ _ _ (pv 5<|aA)) (fV (ve rfl) (by rfl) T.dz r6 (fV C7 (by rfl) T.aV va (aK<|pv 5<|aA)<|aA))) (fV (ve rfl) (by rfl) T.dz r6 (fV C7 (by rfl) T.aV va (bg nz (pv 5) aK<|pv 1<|aA)<|aA))) (@mv _ _ _ _ (aK<|aA))) QW (QX (pv 1)))<|>(~~~(dA o3 (pv 5) (pv 1) (aI _)<*>(~~~(4>>=uu>>=fV (ve rfl) (by rfl) T.dz r6 (fV E6 (by rfl) T.aV va (pv 1<|aA)<|aA)))<*>jN)))<*>jN)<|>(6>>=uu>>=(@dr _ _ _ _ _ (fV pQ (by rfl) T.a9 pe (pv 3<|aA)<|fV pQ (by rfl) T.a9 pe (pv 4<|aA)<|aA)))<|>(Rz (i:=7) (own:=["_law_s"]) (fr:=["_law_found"]) (js:=[6]) rfl uu.nd rfl rfl (by k_in) (rh rfl T.aV (pv 1<|aA)) (λ_ _ _ _ _=>(cX (i:=0) (show((["_law_s"]:List Str) ++ (["_law_found"]:List Str)).Nodup by w_fin) rfl (by w_up))) (λ_ _ _ _ _=>(NA (dA (RC (K:=K) rfl) (pv 0) (bu kg iz hr ∅ rfl (pv 1<|aA)) (by with_unfolding_all rfl)))) (λ_ _ _ _ _=>(pv 0)))<|>xi PassesOwn.never (dA (C8 hu) (pv 7) (@mv _ _ _ _ aA) (aI _)) ((8>>=uu>>=(nA<*pv 7<*aK))<|>uH (@dr _ _ _ _ _ ((nA<*pv 3<*pv 8)<|(nA<*pv 3<*aK)<|aA)) (tH (n:=2) rfl (mq (CZ (pv 3) aK C4) (mq (CZ (pv 3) (pv 8) C4) tG)))<|>(6>>=uu>>=(@dr _ _ _ _ _ (fV pQ (by rfl) T.a9 pe (pv 3<|aA)<|fV pQ (by rfl) T.a9 pe (pv 4<|aA)<|aA)))<|>(~~~(Rz (i:=7) (own:=["_law_s"]) (fr:=["_law_found"]) (js:=[6]) rfl uu.nd rfl rfl (by k_in) (rh rfl T.aV (pv 1<|aA)) (λ_ _ _ _ _=>(cX (i:=0) (show((["_law_s"]:List Str) ++ (["_law_found"]:List Str)).Nodup by w_fin) rfl (by w_up))) (λ_ _ _ _ _=>(NA (dA (RC (K:=K) rfl) (pv 0) (bu kg iz hr ∅ rfl (pv 1<|aA)) (by with_unfolding_all rfl)))) (λ_ _ _ _ _=>(pv 0)))))<|>(~~~(@cC _ _ _ _ (pv 6))))|||G5
variable {je:Addr}{jf:FuncData}(dS:D14 K mg je jf)(fZ:G14 P w K mg base je jf)
abbrev G8:ao->Dm Fl :=
 (aC (aJ (cO (af (ag 1) ah)) (hName 2))
 (aC (c6 (oM (aM c5 (af (aM gM (af (aM cV (af (av aD (ag 0) #[0]) ah)) ah)) ah))) (hName 3) (c6 (cQ (ag 0)) (hName 4) (fg (sU (aH (av vL (ag 3) (aM cV (af (ag 2) ah)))) (aH (av (rP true) (av aD (ag 4) (av bZ (ag 2) (ag 3))) (ag 2)))) (cP (lO "list" a8 (ag 2) (af (av aD (ag 4) (av bZ (ag 2) (ag 3))) ah))) aX)))
 (aQ (aM bF (af (cu (cQ (ag 0)) 1 [2] (hName 0) cR (aM bF (af (cu (oM (ag 1)) 1 [0,1] (hName 0) cR (lO "list" mB (ag 2) (af (av aD (ag 1) (ag 0)) ah))) ah))) ah)))))
abbrev LF:List D->Dm D:=dw 5 G8
abbrev G9:Stmt:=top 72
def LG:aB ["_law_floor_here","_law_s","_law_called","_law_one","_law_turning_here"] ["_law_floor_here","_law_s"] (aj G9):=by walk
abbrev D15:=Gx1 "_law_numbered" G9 ["_law_floor_here","_law_s"]
abbrev G15:=Gx2 ["_law_floor_here","_law_s"] 1 2 LF
def xbo(D:D15 K mg f fd)(T:Txt mg):G15 P w K mg base f fd:=LG|||((2>>=LG>>=(@mv _ _ _ _ (pv 1<|aA)))<|>(M5 (fV (ve rfl) (by rfl) T.dz r6 (fV E6 (by rfl) T.aV va (iA mw (by rfl) T.bH mz ((bj<*pv 0<*aK)<|aA)<|aA)<|aA))&&&(cX (i:=3) LG.nd rfl (by w_up))&&&(~~~(qi (pv 0)&&&(cX (i:=4) LG.nd rfl (by w_up))&&&(~~~(PW.pt (Ku (dA xl (pv 3) (iA mw (by rfl) T.bH mz (pv 2<|aA)) (aI _)) (Kt (dA C5 (bj<*pv 4<*(nA<*pv 2<*pv 3)) (pv 2) (by with_unfolding_all rfl))))<*>(~~~rY (qj PySem.F.plainAttrs_list PySem.F.slot_list_append PySem.F.type_list_append rZ (pv 2) ((bj<*pv 4<*(nA<*pv 2<*pv 3))<|aA)))<*>jN)))))<|>(~~~(@cC _ _ _ _ (fV pQ (by rfl) T.a9 pe (r9 (own:=["_law_turning_here"]) (fr:=["_law_called"]) (js:=[2]) rfl (by k_in) (qi (pv 0)) (λ_ _ _ _ _=>(cX (i:=0) (show((["_law_turning_here"]:List Str) ++ (["_law_called"]:List Str)).Nodup by w_fin) rfl (by w_up))) (λ_ _ _ _ _=>sJ) (λ_ _ _ _ _=>(fV (Xx (K:=K) rfl) (by rfl) T.a9 pe (r9 (own:=["_law_one"]) (fr:=["_law_turning_here","_law_called"]) (js:=[0,1]) rfl ⟨Zr ⟨rfl,by w_fin,by w_fin,by dsimp only[gE,Cx.pb,Cx.wish,PyProof.Rows.envOfC];decide +kernel,by w_fin⟩,rfl⟩ (Xy (K:=K) rfl (pv 1)) (λ_ _ _ _ _=>(cX (i:=0) (show((["_law_one"]:List Str) ++ (["_law_turning_here","_law_called"]:List Str)).Nodup by w_fin) rfl (by w_up))) (λ_ _ _ _ _=>sJ) (λ_ _ _ _ _=>(NP (K:=K) rfl PySem.F.plainAttrs_list PySem.F.slot_list_index PySem.F.type_list_index (Ycr (K:=K) rfl) (pv 2) ((yE (K:=K) rfl<*pv 1<*pv 0)<|aA)))<|aA)))<|aA)))))|||G8
variable {eh:Addr}{eB:FuncData}(c7:D15 K mg eh eB)(eC:G15 P w K mg base eh eB)
abbrev Ha:ao->Dm Fl :=
 (aQ (aM oY (af (cu (b9 (af (aM cV (af (av aD (ag 0) #[0]) ah)) ah)) 1 [0] (hName 0) cR (aM LF (af (ag 1) (af (ag 0) ah)))) ah)))
abbrev DI:List D->Dm D:=dw 1 Ha
abbrev Hb:Stmt:=top 73
def xb0:aB ["_law_floor_here"] ["_law_floor_here"] (aj Hb):=by walk
abbrev D16:=Gx1 "_law_form" Hb ["_law_floor_here"]
abbrev G16:=Gx2 ["_law_floor_here"] 2 1 DI
include c7 eC in
def Xb0(D:D16 K mg f fd)(T:Txt mg):G16 P w K mg base f fd:=xb0|||(~~~(@cC _ _ _ _ (iA (RS rfl hu) (by rfl) T.wc Nt (r9 (own:=["_law_s"]) (fr:=["_law_floor_here"]) (js:=[0]) rfl (by k_in) (rh rfl T.aV (iA mw (by rfl) T.bH mz ((bj<*pv 0<*aK)<|aA)<|aA)) (λ_ _ _ _ _=>(cX (i:=0) (show((["_law_s"]:List Str) ++ (["_law_floor_here"]:List Str)).Nodup by w_fin) rfl (by w_up))) (λ_ _ _ _ _=>sJ) (λ_ _ _ _ _=>(bu eC c7 hr ∅ rfl (pv 1<|pv 0<|aA)))<|aA))))|||Ha
variable {kC:Addr}{kD:FuncData}(fq:D16 K mg kC kD)(iJ:G16 P w K mg base kC kD)
abbrev Hc:ao->Dm Fl :=
 (aC (fg (aH (av vL (ag 2) #[0])) (aC (aJ (aM bF (af (cu (b9 (af (aM cV (af (ag 0) ah)) ah)) 1 [0] (hName 0) cR (lO "tuple" lP (ag 1) (af (ag 0) ah))) ah)) (hName 0))
 (aJ (av m8 #[0] (ag 2)) (hName 2))) aX)
 (aC (aJ (cO (af (ag 1) ah)) (hName 3))
 (aC (iG (aH (av (jP true) (av aD (ag 0) (av bZ (ag 3) (rN lF #[1]))) (ag 1))) (cP (lO "list" a8 (ag 3) (af (av aD (ag 0) (av bZ (ag 3) (rN lF #[1]))) ah))))
 (aQ (av bZ (ag 3) (av lE (ag 2) (aM cV (af (ag 3) ah))))))))
abbrev LH:List D->Dm D:=dw 4 Hc
abbrev Hd:Stmt:=top 69
def LI:aB ["_law_turning_here","_law_s","_law_k","_law_ring"] ["_law_turning_here","_law_s","_law_k"] (aj Hd):=by walk
abbrev D17:=Gx1 "_law_behind" Hd ["_law_turning_here","_law_s","_law_k"]
abbrev G17:=Gx2 ["_law_turning_here","_law_s","_law_k"] 1 3 LH
def xbB(D:D17 K mg f fd)(T:Txt mg):G17 P w K mg base f fd:=LI|||((dA xl (pv 2) aK (aI _)<*>((0>>=LI>>=fV pQ (by rfl) T.a9 pe (r9 (own:=["_law_one"]) (fr:=["_law_turning_here"]) (js:=[0]) rfl (by k_in) (rh rfl T.aV (iA mw (by rfl) T.bH mz (pv 0<|aA)<|aA)) (λ_ _ _ _ _=>(cX (i:=0) (show((["_law_one"]:List Str) ++ (["_law_turning_here"]:List Str)).Nodup by w_fin) rfl (by w_up))) (λ_ _ _ _ _=>sJ) (λ_ _ _ _ _=>(NP (K:=K) rfl PySem.F.plainAttrs_tuple PySem.F.slot_tuple_index PySem.F.type_tuple_index (RE (K:=K) rfl) (pv 1) (pv 0<|aA)))<|aA))<|>(~~~(2>>=LI>>=bg uY aK (pv 2))))<*>jN)<|>(3>>=LI>>=(@mv _ _ _ _ (pv 1<|aA)))<|>xi PassesOwn.never (dA xk (bj<*pv 0<*(nA<*pv 3<*sE sF aK)) (pv 1) (aI _)) (~~~rY (qj PySem.F.plainAttrs_list PySem.F.slot_list_append PySem.F.type_list_append rZ (pv 3) ((bj<*pv 0<*(nA<*pv 3<*sE sF aK))<|aA)))<|>(~~~(@cC _ _ _ _ (nA<*pv 3<*bg tJ (pv 2) (iA mw (by rfl) T.bH mz (pv 3<|aA))))))|||Hc
variable {gQ:Addr}{gR:FuncData}(eG:D17 K mg gQ gR)(gS:G17 P w K mg base gQ gR)
abbrev Ce:ao->Dm Fl :=
 (aC (aJ (ag 0) (lH 2 (bx (hName 2) (bx (hName 3) lQ))))
 (aC (fg (aH (av (jP false) (av aD (ag 1) #[0]) (fC (.str "s")))) (aQ (aW (af (ag 2) (af (aM bF (af (cu (b9 (af (aM cV (af (ag 3) ah)) ah)) 1 [1,2,3] (hName 0) cR (av aD (ag 3) (aM LH (af (ag 2) (af (ag 0) (af (av m8 #[0] (av aD (ag 1) #[1])) ah)))))) ah)) ah)))) aX)
 (aC (c6 (b9 (af (av lE (av aD (ag 1) #[1]) #[4]) ah)) (hName 4) (aJ (aW (af (aM bF (af (cu (b9 (af (aM cV (af (ag 3) ah)) ah)) 1 [3] (hName 0) cR (lO "tuple" lP (ag 1) (af (ag 0) ah))) ah)) (af (ag 2) ah))) (lH 2 (bx (hName 2) (bx (hName 3) lQ)))))
 (aQ (aW (af (ag 2) (af (ag 3) ah)))))))
abbrev Cf:List D->Dm D:=dw 5 Ce
abbrev He:Stmt:=top 70
def DJ:aB ["_law_floor_here","_law_step","_law_right","_law_up","_law_turn"] ["_law_floor_here","_law_step"] (aj He):=by walk
abbrev D18:=Gx1 "_law_stepped" He ["_law_floor_here","_law_step"]
abbrev G18:=Gx2 ["_law_floor_here","_law_step"] 2 2 Cf
include eG gS in
def Xbx(D:D18 K mg f fd)(T:Txt mg):G18 P w K mg base f fd:=DJ|||(uH (pv 0) (tH (n:=2) rfl (mq (cX (i:=2) DJ.nd rfl (by w_up)) (mq (cX (i:=3) DJ.nd rfl (by w_up)) tG)))<|>(dA o3 (bj<*pv 1<*aK) rg (aI _)<*>(~~~(@cC _ _ _ _ (@dr _ _ _ _ _ (pv 2<|fV pQ (by rfl) T.a9 pe (r9 (own:=["_law_s"]) (fr:=["_law_step","_law_right","_law_up"]) (js:=[1,2,3]) rfl (by k_in) (rh rfl T.aV (iA mw (by rfl) T.bH mz (pv 3<|aA)<|aA)) (λ_ _ _ _ _=>(cX (i:=0) (show((["_law_s"]:List Str) ++ (["_law_step","_law_right","_law_up"]:List Str)).Nodup by w_fin) rfl (by w_up))) (λ_ _ _ _ _=>sJ) (λ_ _ _ _ _=>(yE (K:=K) rfl<*pv 3<*bu gS eG hr ∅ rfl (pv 2<|pv 0<|bg uY aK (yE (K:=K) rfl<*pv 1<*aK)<|aA)))<|aA)<|aA))))<*>jN)<|>(rh rfl T.aV (bg tJ (bj<*pv 1<*aK) aK<|aA)&&&(cX (i:=4) DJ.nd rfl (by w_up))&&&(~~~uH (@dr _ _ _ _ _ (fV pQ (by rfl) T.a9 pe (r9 (own:=["_law_s"]) (fr:=["_law_up"]) (js:=[3]) rfl (by k_in) (rh rfl T.aV (iA mw (by rfl) T.bH mz (pv 3<|aA)<|aA)) (λ_ _ _ _ _=>(cX (i:=0) (show((["_law_s"]:List Str) ++ (["_law_up"]:List Str)).Nodup by w_fin) rfl (by w_up))) (λ_ _ _ _ _=>sJ) (λ_ _ _ _ _=>(NP (K:=K) rfl PySem.F.plainAttrs_tuple PySem.F.slot_tuple_index PySem.F.type_tuple_index (RE (K:=K) rfl) (pv 1) (pv 0<|aA)))<|aA)<|pv 2<|aA)) (tH (n:=2) rfl (mq (cX (i:=2) DJ.nd rfl (by w_up)) (mq (cX (i:=3) DJ.nd rfl (by w_up)) tG)))))<|>(~~~(@cC _ _ _ _ (@dr _ _ _ _ _ (pv 2<|pv 3<|aA)))))|||Ce
variable {fH:Addr}{fI:FuncData}(dD:D18 K mg fH fI)(fJ:G18 P w K mg base fH fI)
abbrev LJ:ao->Dm Fl :=
 (aC (aJ (cO ah) (hName 1))
 (aC (c6 (cQ (ag 0)) (lH 2 (bx (hName 2) (bx (hName 3) lQ))) (aC (fg (sU (aH (av (jQ true) (ag 1) (cO ah))) (aH (av (jP false) (av aD (av bZ (ag 1) (rN lF #[1])) #[0]) (ag 2)))) (aJ (av dh (av aD (xV "list" xW (ag 1)) #[1]) (ag 3)) (hName 3)) aX)
 (aC (fg (aH (av (jP false) (ag 2) (fC (.str "t")))) (aJ (av lE (ag 3) #[4]) (hName 3)) aX)
 (fg (aH (av (jP true) (ag 3) #[0])) (cP (lO "list" a8 (ag 1) (af (aW (af (ag 2) (af (ag 3) ah))) ah))) aX))))
 (aQ (aM bF (af (ag 1) ah)))))
abbrev Hf:List D->Dm D:=dw 4 LJ
abbrev Hg:Stmt:=top 76
def DK:aB ["_law_word","_law_found","_law_letter","_law_k"] ["_law_word"] (aj Hg):=by walk
abbrev D19:=Gx1 "_law_plain" Hg ["_law_word"]
abbrev G19:=Gx2 ["_law_word"] 1 1 Hf
def YbQ(D:D19 K mg f fd)(T:Txt mg):G19 P w K mg base f fd:=by
 refine D.F.ok DK (λ_ _ _ _ h=>h.1) (λc A o s H v Q E hr h=>?_);have hu:=hr.units;refine⟨_,((1>>=DK>>=(@mv _ _ _ _ aA))<|>(qi (pv 0)&&&tH (n:=2) rfl (mq (cX (i:=2) DK.nd rfl (by w_up)) (mq (cX (i:=3) DK.nd rfl (by w_up)) tG))&&&((PW.pt (Ku (dA (C8 hu) (pv 1) (@mv _ _ _ _ aA) (aI _)) (Kt (dA o3 (bj<*(nA<*pv 1<*sE sF aK)<*aK) (pv 2) (aI _))))<*>(~~~(3>>=DK>>=bg nz (bj<*Al PySem.F.plainAttrs_list PySem.F.slot_list_pop PySem.F.type_list_pop An (pv 1)<*aK) (pv 3)))<*>jN)<|>(dA o3 (pv 2) rg (aI _)<*>(~~~(3>>=DK>>=bg tJ (pv 3) aK))<*>jN)<|>(~~~(dA xk (pv 3) aK (aI _)<*>(~~~rY (qj PySem.F.plainAttrs_list PySem.F.slot_list_append PySem.F.type_list_append rZ (pv 1) ((@dr _ _ _ _ _ (pv 2<|pv 3<|aA))<|aA)))<*>jN))))<|>(~~~(@cC _ _ _ _ (fV pQ (by rfl) T.a9 pe (pv 1<|aA))))),?_⟩
 exact dO (b:=LJ) (ng (o8 (xE d3) (lG 1))
  (ng (zd (F8 (b6 0)) (Dx (wQ (lG 2) (wQ (lG 3) Dw))) (ng (wU (Oy (uh (lz (F3 true) (b6 1) (xE d3))) (uh (lz F0 (lz sj (lz wN (b6 1) (Ow OG (nD _))) (nD _)) (b6 2)))) (o8 (lz OA (lz sj (B2 B4 (b6 1)) (nD _)) (b6 3)) (lG 3)) wR)
  (ng (wU (uh (lz F0 (b6 2) (Lg _))) (o8 (lz OC (b6 3) (nD _)) (lG 3)) wR)
  (wU (uh (lz Lk (b6 3) (nD _))) (F6 (F4 F5 (b6 1) (bY (uL (bY (b6 2) (bY (b6 3) d3))) d3))) wR))))
  (vQ (sW Ll (bY (b6 1) d3))))) rfl h
variable {jg:Addr}{jh:FuncData}(f9:D19 K mg jg jh)(ji:G19 P w K mg base jg jh)
abbrev Hi:ao->Dm Fl :=
 (aC (aJ (cO (af (aM DI (af (ag 0) ah)) ah)) (hName 2))
 (aC (aJ (cO (af (aW ah) ah)) (hName 3))
 (aC (aJ (cO ah) (hName 4))
 (aC (c6 (b9 (af (ag 1) ah)) (hName 5) (fg (aH (av vL (ag 5) (aM cV (af (ag 2) ah)))) (aC (cP (lO "list" a8 (ag 4) (af (cO ah) ah)))
 (aC (c6 (cQ (aW (af (aW (af (fC (.str "s")) (af #[1] ah))) (af (aW (af (fC (.str "t")) (af #[1] ah))) ah)))) (hName 6) (aC (aJ (aM DI (af (aM Cf (af (av bZ (ag 2) (ag 5)) (af (ag 6) ah))) ah)) (hName 7))
 (aC (fg (aH (av (ql true) (ag 7) (ag 2))) (aC (cP (lO "list" a8 (ag 2) (af (ag 7) ah)))
 (cP (lO "list" a8 (ag 3) (af (aM Hf (af (av jc (av bZ (ag 3) (ag 5)) (aW (af (ag 6) ah))) ah)) ah)))) aX)
 (cP (lO "list" a8 (av bZ (ag 4) (ag 5)) (af (lO "list" cY (ag 2) (af (ag 7) ah)) ah))))))
 (fg (aH (av y8 (aM cV (af (ag 2) ah)) (ag 1))) (aQ (fC .non)) aX))) aX))
 (aQ (aM bF (af (cu (b9 (af (aM cV (af (ag 2) ah)) ah)) 1 [2,3,4] (hName 0) cR (aW (af (av bZ (ag 1) (ag 0)) (af (av bZ (ag 2) (ag 0)) (af (av bZ (av bZ (ag 3) (ag 0)) #[0]) (af (av bZ (av bZ (ag 3) (ag 0)) #[1]) ah)))))) ah)))))))
abbrev Hj:List D->Dm D:=dw 8 Hi
abbrev Hk:Stmt:=top 77
def Ci:aB ["_law_floor_here","_law_most","_law_forms","_law_words","_law_links","_law_at","_law_step","_law_fresh"] ["_law_floor_here","_law_most"] (aj Hk):=by walk
abbrev D20:=Gx1 "_law_chart" Hk ["_law_floor_here","_law_most"]
abbrev G20:=Gx2 ["_law_floor_here","_law_most"] 3 2 Hj
include fq iJ dD fJ f9 ji in
def xbQ(D:D20 K mg f fd)(T:Txt mg):G20 P w K mg base f fd:=Ci|||((2>>=Ci>>=(@mv _ _ _ _ (bu iJ fq hr ∅ rfl (pv 0<|aA)<|aA)))<|>(3>>=Ci>>=(@mv _ _ _ _ ((@dr _ _ _ _ _ aA)<|aA)))<|>(4>>=Ci>>=(@mv _ _ _ _ aA))<|>(rh rfl T.aV (pv 1<|aA)&&&(cX (i:=5) Ci.nd rfl (by w_up))&&&(~~~(dA xl (pv 5) (iA mw (by rfl) T.bH mz (pv 2<|aA)) (aI _)<*>(rY (qj PySem.F.plainAttrs_list PySem.F.slot_list_append PySem.F.type_list_append rZ (pv 4) ((@mv _ _ _ _ aA)<|aA))<|>(qi (@dr _ _ _ _ _ ((@dr _ _ _ _ _ (rg<|aK<|aA))<|(@dr _ _ _ _ _ (rg<|aK<|aA))<|aA))&&&(cX (i:=6) Ci.nd rfl (by w_up))&&&((7>>=Ci>>=bu iJ fq hr ∅ rfl (bu fJ dD hr ∅ rfl ((nA<*pv 2<*pv 5)<|pv 6<|aA)<|aA))<|>(dA (NR hu) (pv 7) (pv 2) (by with_unfolding_all rfl)<*>(rY (qj PySem.F.plainAttrs_list PySem.F.slot_list_append PySem.F.type_list_append rZ (pv 2) (pv 7<|aA))<|>(~~~rY (qj PySem.F.plainAttrs_list PySem.F.slot_list_append PySem.F.type_list_append rZ (pv 3) (bu ji f9 hr ∅ rfl (bg wC (nA<*pv 3<*pv 5) (@dr _ _ _ _ _ (pv 6<|aA))<|aA)<|aA))))<*>jN)<|>(~~~rY (qj PySem.F.plainAttrs_list PySem.F.slot_list_append PySem.F.type_list_append rZ (nA<*pv 4<*pv 5) (qj PySem.F.plainAttrs_list PySem.F.slot_list_index PySem.F.type_list_index (NY hu) (pv 2) (pv 7<|aA)<|aA)))))<|>(~~~(dA C3 (iA mw (by rfl) T.bH mz (pv 2<|aA)) (pv 1) (aI _)<*>(~~~(@cC _ _ _ _ CY))<*>jN)))<*>jN)))<|>(~~~(@cC _ _ _ _ (fV pQ (by rfl) T.a9 pe (r9 (own:=["_law_at"]) (fr:=["_law_forms","_law_words","_law_links"]) (js:=[2,3,4]) rfl (by k_in) (rh rfl T.aV (iA mw (by rfl) T.bH mz (pv 2<|aA)<|aA)) (λ_ _ _ _ _=>(cX (i:=0) (show((["_law_at"]:List Str) ++ (["_law_forms","_law_words","_law_links"]:List Str)).Nodup by w_fin) rfl (by w_up))) (λ_ _ _ _ _=>sJ) (λ_ _ _ _ _=>(@dr _ _ _ _ _ ((wG (K:=K) rfl<*pv 1<*pv 0)<|(wG (K:=K) rfl<*pv 2<*pv 0)<|(wG (K:=K) rfl<*(wG (K:=K) rfl<*pv 3<*pv 0)<*aK)<|(wG (K:=K) rfl<*(wG (K:=K) rfl<*pv 3<*pv 0)<*aK)<|aA)))<|aA)))))|||Hi
variable {jk:Addr}{jl:FuncData}(dU:D20 K mg jk jl)(gb:G20 P w K mg base jk jl)
abbrev Hl:ao->Dm Fl :=
 (aC (aJ (aM G6 (af (ag 0) (af (av bZ (cO (af (av dh #[1] (aM sy (af (ag 0) (af #[5] ah)))) (af #[6] ah))) (av n5 (aM sy (af (ag 0) (af #[8] ah))) #[7])) ah))) (hName 2))
 (aC (aJ (aM Hj (af (ag 2) (af (ag 1) ah))) (hName 3))
 (aC (iG (aH (av (sY false) (ag 3) (fC .non))) (aC (aJ (aM G6 (af (ag 0) (af (av dh #[1] (aM sy (af (ag 0) (af #[3] ah)))) ah))) (hName 2))
 (aJ (aM Hj (af (ag 2) (af (ag 1) ah))) (hName 3))))
 (aQ (aW (af (ag 2) (af (ag 3) ah)))))))
abbrev DL:List D->Dm D:=dw 4 Hl
abbrev Hm:Stmt:=top 79
def Hn:aB ["_law_feed_here","_law_most","_law_floor_here","_law_chart_here"] ["_law_feed_here","_law_most"] (aj Hm):=by walk
abbrev D21:=Gx1 "_law_own" Hm ["_law_feed_here","_law_most"]
abbrev G21:=Gx2 ["_law_feed_here","_law_most"] 4 2 DL
include aN aO dS fZ dU gb in
def Xb9(D:D21 K mg f fd)(T:Txt mg):G21 P w K mg base f fd:=Hn|||((2>>=Hn>>=bu fZ dS hr ∅ rfl (pv 0<|(nA<*(@mv _ _ _ _ (bg nz aK (bu aO aN hr ∅ rfl (pv 0<|aK<|aA))<|aK<|aA))<*bg C2 (bu aO aN hr ∅ rfl (pv 0<|aK<|aA)) aK)<|aA))<|>(3>>=Hn>>=bu gb dU hr ∅ rfl (pv 2<|pv 1<|aA))<|>xi PassesOwn.never (dA O3 (pv 3) CY (aI _)) ((2>>=Hn>>=bu fZ dS hr ∅ rfl (pv 0<|bg nz aK (bu aO aN hr ∅ rfl (pv 0<|aK<|aA))<|aA))<|>(~~~(3>>=Hn>>=bu gb dU hr ∅ rfl (pv 2<|pv 1<|aA))))<|>(~~~(@cC _ _ _ _ (@dr _ _ _ _ _ (pv 2<|pv 3<|aA)))))|||Hl
variable {mF:Addr}{mG:FuncData}(kh:D21 K mg mF mG)(mH:G21 P w K mg base mF mG)
abbrev Ho:ao->Dm Fl :=
 (aC (aJ (av vO (cO (af #[0] ah)) (aM cV (af (ag 0) ah))) (hName 1))
 (aC (c6 (lR (af (ag 0) ah)) (lH 2 (bx (hName 2) (bx (hName 3) lQ))) (aJ (ag 2) (hSub (ag 1) (ag 3))))
 (aQ (aM bF (af (ag 1) ah)))))
abbrev DM:List D->Dm D:=dw 4 Ho
abbrev Hq:Stmt:=top 7
def LK:aB ["turning","back","number","led"] ["turning"] (aj Hq):=by walk
abbrev D22:=Gx1 "turned_back" Hq ["turning"]
abbrev G22:=Gx2 ["turning"] 1 1 DM
def XbB(D:D22 K mg f fd)(T:Txt mg):G22 P w K mg base f fd:=LK|||((1>>=LK>>=bg Ra (@mv _ _ _ _ (aK<|aA)) (iA mw (by rfl) T.bH mz (pv 0<|aA)))<|>(KL rfl T.jd (pv 0<|aA)&&&tH (n:=2) rfl (mq (cX (i:=2) LK.nd rfl (by w_up)) (mq (cX (i:=3) LK.nd rfl (by w_up)) tG))&&&(~~~uH (pv 2) (CZ (pv 1) (pv 3) C4)))<|>(~~~(@cC _ _ _ _ (fV pQ (by rfl) T.a9 pe (pv 1<|aA)))))|||Ho
variable {gW:Addr}{gX:FuncData}(bq:D22 K mg gW gX)(bE:G22 P w K mg base gW gX)
abbrev Hr:ao->Dm Fl :=
 (aQ (aM bF (af (cu (cQ (ag 0)) 1 [1] (hName 0) cR (av aD (ag 1) (ag 0))) ah)))
abbrev x6:List D->Dm D:=dw 2 Hr
abbrev Hs:Stmt:=top 6
def zca:aB ["one","other"] ["one","other"] (aj Hs):=by walk
abbrev D23:=Gx1 "followed" Hs ["one","other"]
abbrev G23:=Gx2 ["one","other"] 1 2 x6
def yca(D:D23 K mg f fd)(T:Txt mg):G23 P w K mg base f fd:=zca|||(~~~(@cC _ _ _ _ (fV pQ (by rfl) T.a9 pe (r9 (own:=["number"]) (fr:=["other"]) (js:=[1]) rfl (by k_in) (qi (pv 0)) (λ_ _ _ _ _=>(cX (i:=0) (show((["number"]:List Str) ++ (["other"]:List Str)).Nodup by w_fin) rfl (by w_up))) (λ_ _ _ _ _=>sJ) (λ_ _ _ _ _=>(yE (K:=K) rfl<*pv 1<*pv 0))<|aA))))|||Hr
variable {mI:Addr}{mJ:FuncData}(bI:D23 K mg mI mJ)(bX:G23 P w K mg base mI mJ)
abbrev Ht:ao->Dm Fl :=
 (aC (aJ (aM DM (af (ag 1) ah)) (hName 2))
 (aC (aJ (aM x6 (af (aM x6 (af (ag 2) (af (av aD (ag 0) #[0]) ah))) (af (ag 1) ah))) (hName 3))
 (aC (aJ (aM x6 (af (aM x6 (af (ag 2) (af (av aD (ag 0) #[1]) ah))) (af (ag 1) ah))) (hName 4))
 (aQ (aW (af (ag 3) (af (ag 4) ah)))))))
abbrev LL:List D->Dm D:=dw 5 Ht
abbrev Hu:Stmt:=top 14
def LM:aB ["floor","p","back","right","up"] ["floor","p"] (aj Hu):=by walk
abbrev D24:=Gx1 "called_anew" Hu ["floor","p"]
abbrev G24:=Gx2 ["floor","p"] 2 2 LL
include bq bE bI bX in
def zbC(D:D24 K mg f fd)(T:Txt mg):G24 P w K mg base f fd:=LM|||((2>>=LM>>=bu bE bq hr ∅ rfl (pv 1<|aA))<|>(3>>=LM>>=bu bX bI hr ∅ rfl (bu bX bI hr ∅ rfl (pv 2<|(bj<*pv 0<*aK)<|aA)<|pv 1<|aA))<|>(4>>=LM>>=bu bX bI hr ∅ rfl (bu bX bI hr ∅ rfl (pv 2<|(bj<*pv 0<*aK)<|aA)<|pv 1<|aA))<|>(~~~(@cC _ _ _ _ (@dr _ _ _ _ _ (pv 3<|pv 4<|aA)))))|||Ht
variable {gY:Addr}{gZ:FuncData}(eI:D24 K mg gY gZ)(g5:G24 P w K mg base gY gZ)
abbrev Hv:ao->Dm Fl :=
 (aC (aJ (cO (af (ag 1) ah)) (hName 2))
 (aC (aJ #[0] (hName 3))
 (aC (iG (aH (av vL (ag 3) (aM cV (af (ag 2) ah)))) (aC (c6 (cQ (ag 0)) (hName 4) (aC (aJ (av aD (ag 4) (av bZ (ag 2) (ag 3))) (hName 5))
 (fg (aH (av (rP true) (ag 5) (ag 2))) (cP (lO "list" a8 (ag 2) (af (ag 5) ah))) aX)))
 (aJ (av dh (ag 3) #[1]) (hName 3))))
 (aQ (aM bF (af (ag 2) ah))))))
abbrev Hw:List D->Dm D:=dw 6 Hv
abbrev Hx:Stmt:=top 12
def DN:aB ["floor","s","squares","place","turning","reached"] ["floor","s"] (aj Hx):=by walk
abbrev D25:=Gx1 "squares_from" Hx ["floor","s"]
abbrev G25:=Gx2 ["floor","s"] 1 2 Hw
def zby(D:D25 K mg f fd)(T:Txt mg):G25 P w K mg base f fd:=DN|||((2>>=DN>>=(@mv _ _ _ _ (pv 1<|aA)))<|>(3>>=DN>>=aK)<|>xi PassesOwn.never (dA xl (pv 3) (iA mw (by rfl) T.bH mz (pv 2<|aA)) (aI _)) ((qi (pv 0)&&&(cX (i:=4) DN.nd rfl (by w_up))&&&((5>>=DN>>=(bj<*pv 4<*(nA<*pv 2<*pv 3)))<|>(~~~(dA C5 (pv 5) (pv 2) (by with_unfolding_all rfl)<*>(~~~rY (qj PySem.F.plainAttrs_list PySem.F.slot_list_append PySem.F.type_list_append rZ (pv 2) (pv 5<|aA)))<*>jN))))<|>(~~~(3>>=DN>>=bg nz (pv 3) aK)))<|>(~~~(@cC _ _ _ _ (fV pQ (by rfl) T.a9 pe (pv 2<|aA)))))|||Hv
variable {fK:Addr}{fL:FuncData}(bS:D25 K mg fK fL)(cj:G25 P w K mg base fK fL)
abbrev Hy:ao->Dm Fl :=
 (aQ (aM DM (af (aM Hw (af (ag 0) (af (ag 1) ah))) ah)))
abbrev LN:List D->Dm D:=dw 2 Hy
abbrev Hz:Stmt:=top 15
def Xbk:aB ["floor","s"] ["floor","s"] (aj Hz):=by walk
abbrev D26:=Gx1 "numbering_from" Hz ["floor","s"]
abbrev G26:=Gx2 ["floor","s"] 2 2 LN
include bq bE bS cj in
def zbl(D:D26 K mg f fd)(T:Txt mg):G26 P w K mg base f fd:=Xbk|||(~~~(@cC _ _ _ _ (bu bE bq hr ∅ rfl (bu cj bS hr ∅ rfl (pv 0<|pv 1<|aA)<|aA))))|||Hy
variable {dF:Addr}{dG:FuncData}(cT:D26 K mg dF dG)(dH:G26 P w K mg base dF dG)
abbrev HA:ao->Dm Fl :=
 (aQ (aM LL (af (ag 0) (af (aM LN (af (ag 0) (af (ag 1) ah))) ah))))
abbrev LO:List D->Dm D:=dw 2 HA
abbrev HB:Stmt:=top 16
def Xbo:aB ["floor","s"] ["floor","s"] (aj HB):=by walk
abbrev D27:=Gx1 "numbered_from" HB ["floor","s"]
abbrev G27:=Gx2 ["floor","s"] 3 2 LO
include eI g5 cT dH in
def zbp(D:D27 K mg f fd)(T:Txt mg):G27 P w K mg base f fd:=Xbo|||(~~~(@cC _ _ _ _ (bu g5 eI hr ∅ rfl (pv 0<|bu dH cT hr ∅ rfl (pv 0<|pv 1<|aA)<|aA))))|||HA
variable {eJ:Addr}{eK:FuncData}(c9:D27 K mg eJ eK)(eM:G27 P w K mg base eJ eK)
abbrev HC:ao->Dm Fl :=
 (aQ (aM oY (af (cu (b9 (af (aM cV (af (av aD (ag 0) #[0]) ah)) ah)) 1 [0] (hName 0) cR (aM LO (af (ag 1) (af (ag 0) ah)))) ah)))
abbrev zy:List D->Dm D:=dw 1 HC
abbrev HD:Stmt:=top 17
def ycs:aB ["floor"] ["floor"] (aj HD):=by walk
abbrev D28:=Gx1 "form_of" HD ["floor"]
abbrev G28:=Gx2 ["floor"] 4 1 zy
include c9 eM in
def Zcs(D:D28 K mg f fd)(T:Txt mg):G28 P w K mg base f fd:=ycs|||(~~~(@cC _ _ _ _ (iA (RS rfl hu) (by rfl) T.wc Nt (r9 (own:=["s"]) (fr:=["floor"]) (js:=[0]) rfl (by k_in) (rh rfl T.aV (iA mw (by rfl) T.bH mz ((bj<*pv 0<*aK)<|aA)<|aA)) (λ_ _ _ _ _=>(cX (i:=0) (show((["s"]:List Str) ++ (["floor"]:List Str)).Nodup by w_fin) rfl (by w_up))) (λ_ _ _ _ _=>sJ) (λ_ _ _ _ _=>(bu eM c9 hr ∅ rfl (pv 1<|pv 0<|aA)))<|aA))))|||HC
variable {n9:Addr}{oa:FuncData}(cb:D28 K mg n9 oa)(cy:G28 P w K mg base n9 oa)
abbrev HE:ao->Dm Fl :=
 (aC (aJ (cO (af (ag 1) ah)) (hName 2))
 (aC (aJ (av aD (ag 0) (ag 1)) (hName 3))
 (aC (iG (aH (av (jP true) (ag 3) (ag 1))) (aC (cP (lO "list" a8 (ag 2) (af (ag 3) ah)))
 (aJ (av aD (ag 0) (ag 3)) (hName 3))))
 (aQ (aM bF (af (ag 2) ah))))))
abbrev LP:List D->Dm D:=dw 4 HE
abbrev HF:Stmt:=top 9
def LQ:aB ["turning","first","ring","reached"] ["turning","first"] (aj HF):=by walk
abbrev D29:=Gx1 "ring_from" HF ["turning","first"]
abbrev G29:=Gx2 ["turning","first"] 1 2 LP
def zb1(D:D29 K mg f fd)(T:Txt mg):G29 P w K mg base f fd:=LQ|||((2>>=LQ>>=(@mv _ _ _ _ (pv 1<|aA)))<|>(3>>=LQ>>=(bj<*pv 0<*pv 1))<|>xi PassesOwn.never (dA xk (pv 3) (pv 1) (aI _)) (rY (qj PySem.F.plainAttrs_list PySem.F.slot_list_append PySem.F.type_list_append rZ (pv 2) (pv 3<|aA))<|>(~~~(3>>=LQ>>=(bj<*pv 0<*pv 3))))<|>(~~~(@cC _ _ _ _ (fV pQ (by rfl) T.a9 pe (pv 2<|aA)))))|||HE
variable {kE:Addr}{kF:FuncData}(iK:D29 K mg kE kF)(kG:G29 P w K mg base kE kF)
abbrev HG:ao->Dm Fl :=
 (aC (aJ (cO ah) (hName 1))
 (aC (aJ vU (hName 2))
 (aC (c6 (b9 (af (aM cV (af (ag 0) ah)) ah)) (hName 3) (fg (aH (xP true (ag 3) (ag 2))) (aC (aJ (aM LP (af (ag 0) (af (ag 3) ah))) (hName 4))
 (aC (cP (lO "list" a8 (ag 1) (af (ag 4) ah)))
 (c6 (cQ (ag 4)) (hName 5) (um (ag 2) (ag 5) (fC (.bl true)))))) aX))
 (aQ (aM bF (af (ag 1) ah))))))
abbrev LR:List D->Dm D:=dw 6 HG
abbrev HI:Stmt:=top 10
def DO:aB ["turning","rings","seen","first","ring","number"] ["turning"] (aj HI):=by walk
abbrev D30:=Gx1 "rings_of" HI ["turning"]
abbrev G30:=Gx2 ["turning"] 2 1 LR
include iK kG in
def Zca(D:D30 K mg f fd)(T:Txt mg):G30 P w K mg base f fd:=by refine D.F.ok DO (λ_ _ _ _ h=>h.1) (λc A o s H v Q E hr h=>?_);have hu1:=E4 hr;refine⟨_,((1>>=DO>>=(@mv _ _ _ _ aA))<|>(2>>=DO>>=W6)<|>(rh rfl T.aV (iA mw (by rfl) T.bH mz (pv 0<|aA)<|aA)&&&(cX (i:=3) DO.nd rfl (by w_up))&&&(~~~(zV (W3 hu1 (pv 3) (pv 2))<*>((4>>=DO>>=bu kG iK hr ∅ rfl (pv 0<|pv 3<|aA))<|>rY (qj PySem.F.plainAttrs_list PySem.F.slot_list_append PySem.F.type_list_append rZ (pv 1) (pv 4<|aA))<|>(~~~(qi (pv 4)&&&(cX (i:=5) DO.nd rfl (by w_up))&&&(~~~W4 hu1 (pv 2) (pv 5) uR rfl))))<*>jN)))<|>(~~~(@cC _ _ _ _ (fV pQ (by rfl) T.a9 pe (pv 1<|aA))))),?_⟩;exact dO (b:=HG) (by delta HG;o_norm) rfl h
variable {mK:Addr}{mL:FuncData}(ki:D30 K mg mK mL)(mM:G30 P w K mg base mK mL)
abbrev HJ:ao->Dm Fl :=
 (aC (aJ (av vO (cO (af #[0] ah)) (aM cV (af (ag 0) ah))) (hName 2))
 (aC (c6 (cQ (aM LR (af (ag 0) ah))) (hName 3) (c6 (lR (af (ag 3) ah)) (lH 2 (bx (hName 4) (bx (hName 5) lQ))) (aJ (av aD (ag 3) (av lE (av dh (ag 4) (ag 1)) (aM cV (af (ag 3) ah)))) (hSub (ag 2) (ag 5)))))
 (aQ (aM bF (af (ag 2) ah)))))
abbrev DP:List D->Dm D:=dw 6 HJ
abbrev HK:Stmt:=top 8
def HL:aB ["turning","k","led","ring","place","number"] ["turning","k"] (aj HK):=by walk
abbrev D31:=Gx1 "often" HK ["turning","k"]
abbrev G31:=Gx2 ["turning","k"] 3 2 DP
include ki mM in
def xc3(D:D31 K mg f fd)(T:Txt mg):G31 P w K mg base f fd:=HL|||((2>>=HL>>=bg Ra (@mv _ _ _ _ (aK<|aA)) (iA mw (by rfl) T.bH mz (pv 0<|aA)))<|>(qi (bu mM ki hr ∅ rfl (pv 0<|aA))&&&(cX (i:=3) HL.nd rfl (by w_up))&&&(~~~(KL rfl T.jd (pv 3<|aA)&&&tH (n:=2) rfl (mq (cX (i:=4) HL.nd rfl (by w_up)) (mq (cX (i:=5) HL.nd rfl (by w_up)) tG))&&&(~~~uH (bj<*pv 3<*bg tJ (bg nz (pv 4) (pv 1)) (iA mw (by rfl) T.bH mz (pv 3<|aA))) (CZ (pv 2) (pv 5) C4)))))<|>(~~~(@cC _ _ _ _ (fV pQ (by rfl) T.a9 pe (pv 2<|aA)))))|||HJ
variable {qT:Addr}{qU:FuncData}(lV:D31 K mg qT qU)(nJ:G31 P w K mg base qT qU)
abbrev HM:ao->Dm Fl :=
 (aQ (aW (af (av aD (ag 0) #[0]) (af (aM x6 (af (aM DP (af (av aD (ag 0) #[0]) (af (rN lF (ag 1)) ah))) (af (av aD (ag 0) #[1]) ah))) ah))))
abbrev LS:List D->Dm D:=dw 2 HM
abbrev HN:Stmt:=top 40
def Ycs:aB ["floor","k"] ["floor","k"] (aj HN):=by walk
abbrev D32:=Gx1 "sheared" HN ["floor","k"]
abbrev G32:=Gx2 ["floor","k"] 4 2 LS
include bI bX lV nJ in
def xcs(D:D32 K mg f fd)(T:Txt mg):G32 P w K mg base f fd:=Ycs|||(~~~(@cC _ _ _ _ (@dr _ _ _ _ _ ((bj<*pv 0<*aK)<|bu bX bI hr ∅ rfl (bu nJ lV hr ∅ rfl ((bj<*pv 0<*aK)<|sE sF (pv 1)<|aA)<|(bj<*pv 0<*aK)<|aA)<|aA))))|||HM
variable {oe:Addr}{og:FuncData}(lW:D32 K mg oe og)(oh:G32 P w K mg base oe og)
abbrev HP:ao->Dm Fl :=
 (aQ (aW (af (aM DM (af (av aD (ag 0) #[1]) ah)) (af (av aD (ag 0) #[0]) ah))))
abbrev LU:List D->Dm D:=dw 1 HP
abbrev HQ:Stmt:=top 41
def yb1:aB ["floor"] ["floor"] (aj HQ):=by walk
abbrev D33:=Gx1 "quartered" HQ ["floor"]
abbrev G33:=Gx2 ["floor"] 2 1 LU
include bq bE in
def Zb1(D:D33 K mg f fd)(T:Txt mg):G33 P w K mg base f fd:=yb1|||(~~~(@cC _ _ _ _ (@dr _ _ _ _ _ (bu bE bq hr ∅ rfl ((bj<*pv 0<*aK)<|aA)<|(bj<*pv 0<*aK)<|aA))))|||HP
variable {kH:Addr}{kI:FuncData}(iL:D33 K mg kH kI)(kJ:G33 P w K mg base kH kI)
abbrev HR:ao->Dm Fl :=
 (aC (fg (aH (av (jP false) (av aD (ag 1) #[0]) (fC (.str "s")))) (aQ (aM LS (af (ag 0) (af (av aD (ag 1) #[1]) ah)))) aX)
 (aC (aJ (ag 0) (hName 2))
 (aC (c6 (b9 (af (av aD (ag 1) #[1]) ah)) (hName 3) (aJ (aM LU (af (ag 2) ah)) (hName 2)))
 (aQ (ag 2)))))
abbrev LV:List D->Dm D:=dw 4 HR
abbrev HS:Stmt:=top 43
def LW:aB ["floor","step","led","turn"] ["floor","step"] (aj HS):=by walk
abbrev D34:=Gx1 "led_by_step" HS ["floor","step"]
abbrev G34:=Gx2 ["floor","step"] 5 2 LV
include lW oh iL kJ in
def ybC(D:D34 K mg f fd)(T:Txt mg):G34 P w K mg base f fd:=LW|||((dA o3 (bj<*pv 1<*aK) rg (aI _)<*>(~~~(@cC _ _ _ _ (bu oh lW hr ∅ rfl (pv 0<|(bj<*pv 1<*aK)<|aA))))<*>jN)<|>(2>>=LW>>=pv 0)<|>(rh rfl T.aV ((bj<*pv 1<*aK)<|aA)&&&(cX (i:=3) LW.nd rfl (by w_up))&&&(~~~(2>>=LW>>=bu kJ iL hr ∅ rfl (pv 2<|aA))))<|>(~~~(@cC _ _ _ _ (pv 2))))|||HR
variable {g7:Addr}{g8:FuncData}(eN:D34 K mg g7 g8)(g9:G34 P w K mg base g7 g8)
abbrev HU:ao->Dm Fl :=
 (aC (aJ (ag 0) (hName 2))
 (aC (c6 (cQ (ag 1)) (hName 3) (aJ (aM LV (af (ag 2) (af (ag 3) ah))) (hName 2)))
 (aQ (ag 2))))
abbrev HV:List D->Dm D:=dw 4 HU
abbrev HW:Stmt:=top 42
def LX:aB ["floor","word","led","step"] ["floor","word"] (aj HW):=by walk
abbrev D35:=Gx1 "led_by" HW ["floor","word"]
abbrev G35:=Gx2 ["floor","word"] 6 2 HV
include eN g9 in
def xcN(D:D35 K mg f fd)(T:Txt mg):G35 P w K mg base f fd:=LX|||((2>>=LX>>=pv 0)<|>(qi (pv 1)&&&(cX (i:=3) LX.nd rfl (by w_up))&&&(~~~(2>>=LX>>=bu g9 eN hr ∅ rfl (pv 2<|pv 3<|aA))))<|>(~~~(@cC _ _ _ _ (pv 2))))|||HU
variable {pj:Addr}{pq:FuncData}(jm:D35 K mg pj pq)(kK:G35 P w K mg base pj pq)
abbrev HX:ao->Dm Fl :=
 (aC (aJ (av dh (av aD (ag 0) #[1]) (av aD (ag 1) #[1])) (hName 2))
 (aC (fg (aH (av (jP false) (av aD (ag 0) #[0]) (fC (.str "t")))) (aJ (av lE (ag 2) #[4]) (hName 2)) aX)
 (aC (fg (aH (av (jP false) (ag 2) #[0])) (aQ (aW ah)) aX)
 (aQ (aW (af (aW (af (av aD (ag 0) #[0]) (af (ag 2) ah))) ah))))))
abbrev LY:List D->Dm D:=dw 3 HX
abbrev HY:Stmt:=top 28
def Po:aB ["one","other","number"] ["one","other"] (aj HY):=by walk
abbrev D36:=Gx1 "joined" HY ["one","other"]
abbrev G36:=Gx2 ["one","other"] 1 2 LY
def XcN(D:D36 K mg f fd)(T:Txt mg):G36 P w K mg base f fd:=Po|||((2>>=Po>>=bg nz (bj<*pv 0<*aK) (bj<*pv 1<*aK))<|>(dA o3 (bj<*pv 0<*aK) rg (aI _)<*>(~~~(2>>=Po>>=bg tJ (pv 2) aK))<*>jN)<|>(dA o3 (pv 2) aK (aI _)<*>(~~~(@cC _ _ _ _ (@dr _ _ _ _ _ aA)))<*>jN)<|>(~~~(@cC _ _ _ _ (@dr _ _ _ _ _ ((@dr _ _ _ _ _ ((bj<*pv 0<*aK)<|pv 2<|aA))<|aA)))))|||HX
variable {pz:Addr}{pA:FuncData}(oi:D36 K mg pz pA)(pB:G36 P w K mg base pz pA)
abbrev HZ:ao->Dm Fl :=
 (aC (aJ (aW ah) (hName 1))
 (aC (c6 (cQ (ag 0)) (hName 2) (fg (sU (aH (av y8 (aM cV (af (ag 1) ah)) #[0])) (aH (av (jP false) (av aD (av aD (ag 1) (rN lF #[1])) #[0]) (av aD (ag 2) #[0])))) (aJ (av jc (Dp Bf (ag 1) n4 (qx (rN lF #[1]))) (aM LY (af (av aD (ag 1) (rN lF #[1])) (af (ag 2) ah)))) (hName 1)) (aJ (av jc (ag 1) (aW (af (ag 2) ah))) (hName 1))))
 (aQ (ag 1))))
abbrev LZ:List D->Dm D:=dw 3 HZ
abbrev Ie:Stmt:=top 29
def Ig:aB ["word","plain","step"] ["word"] (aj Ie):=by walk
abbrev D37:=Gx1 "made_plain" Ie ["word"]
abbrev G37:=Gx2 ["word"] 2 1 LZ
include oi pB in
def XbQ(D:D37 K mg f fd)(T:Txt mg):G37 P w K mg base f fd:=Ig|||((1>>=Ig>>=(@dr _ _ _ _ _ aA))<|>(qi (pv 0)&&&(cX (i:=2) Ig.nd rfl (by w_up))&&&(~~~(PW.pt (Ku (dA C3 (iA mw (by rfl) T.bH mz (pv 1<|aA)) aK (aI _)) (Kt (dA o3 (bj<*(bj<*pv 1<*sE sF aK)<*aK) (bj<*pv 2<*aK) (aI _))))<*>(~~~(1>>=Ig>>=bg wC (QZ Xj (pv 1) QW (QX (sE sF aK))) (bu pB oi hr ∅ rfl ((bj<*pv 1<*sE sF aK)<|pv 2<|aA))))<*>(~~~(1>>=Ig>>=bg wC (pv 1) (@dr _ _ _ _ _ (pv 2<|aA)))))))<|>(~~~(@cC _ _ _ _ (pv 1))))|||HZ
variable {jn:Addr}{jq:FuncData}(gf:D37 K mg jn jq)(jr:G37 P w K mg base jn jq)
abbrev Ih:ao->Dm Fl :=
 (aQ (aM LZ (af (av jc (ag 0) (ag 1)) ah)))
abbrev Ii:List D->Dm D:=dw 2 Ih
abbrev Ij:Stmt:=top 30
def xby:aB ["one","other"] ["one","other"] (aj Ij):=by walk
abbrev D38:=Gx1 "put_together" Ij ["one","other"]
abbrev G38:=Gx2 ["one","other"] 3 2 Ii
include gf jr in
def Xby(D:D38 K mg f fd)(T:Txt mg):G38 P w K mg base f fd:=xby|||(~~~(@cC _ _ _ _ (bu jr gf hr ∅ rfl (bg wC (pv 0) (pv 1)<|aA))))|||Ih
variable {fM:Addr}{fN:FuncData}(bT:D38 K mg fM fN)(ck:G38 P w K mg base fM fN)
abbrev Ik:ao->Dm Fl :=
 (aC (aJ (aM zy (af (aM HV (af (av bZ (ag 0) (ag 2)) (af (aW (af (ag 3) ah)) ah))) ah)) (hName 4))
 (aC (fg (aH (av (ql true) (ag 4) (ag 0))) (aC (cP (lO "list" a8 (ag 0) (af (ag 4) ah)))
 (cP (lO "list" a8 (ag 1) (af (aM Ii (af (av bZ (ag 1) (ag 2)) (af (aW (af (ag 3) ah)) ah))) ah)))) aX)
 (aQ (lO "list" cY (ag 0) (af (ag 4) ah)))))
abbrev Cj:List D->Dm D:=dw 5 Ik
abbrev Il:Stmt:=top 49
def US:aB ["forms","words","place","step","form"] ["forms","words","place","step"] (aj Il):=by walk
abbrev D39:=Gx1 "row_led_to" Il ["forms","words","place","step"]
abbrev G39:=Gx2 ["forms","words","place","step"] 7 4 Cj
include cb cy jm kK bT ck in
def zbR(D:D39 K mg f fd)(T:Txt mg):G39 P w K mg base f fd:=US|||((4>>=US>>=bu cy cb hr ∅ rfl (bu kK jm hr ∅ rfl ((nA<*pv 0<*pv 2)<|(@dr _ _ _ _ _ (pv 3<|aA))<|aA)<|aA))<|>(dA (NR hu) (pv 4) (pv 0) (by with_unfolding_all rfl)<*>(rY (qj PySem.F.plainAttrs_list PySem.F.slot_list_append PySem.F.type_list_append rZ (pv 0) (pv 4<|aA))<|>(~~~rY (qj PySem.F.plainAttrs_list PySem.F.slot_list_append PySem.F.type_list_append rZ (pv 1) (bu ck bT hr ∅ rfl ((nA<*pv 1<*pv 2)<|(@dr _ _ _ _ _ (pv 3<|aA))<|aA)<|aA))))<*>jN)<|>(~~~(@cC _ _ _ _ (qj PySem.F.plainAttrs_list PySem.F.slot_list_index PySem.F.type_list_index (NY hu) (pv 0) (pv 4<|aA)))))|||Ik
variable {jt:Addr}{ju:FuncData}(dW:D39 K mg jt ju)(gh:G39 P w K mg base jt ju)
abbrev L0:ao->Dm Fl :=
 (aC (aJ (cO (af (aM zy (af (ag 0) ah)) ah)) (hName 2))
 (aC (aJ (cO (af (aW ah) ah)) (hName 3))
 (aC (aJ (cO ah) (hName 4))
 (aC (iG (aH (av vL (aM cV (af (ag 4) ah)) (aM cV (af (ag 2) ah)))) (aC (fg (aH (av y8 (aM cV (af (ag 2) ah)) (ag 1))) qP aX)
 (aC (aJ (aM cV (af (ag 4) ah)) (hName 5))
 (aC (aJ (aM Cj (af (ag 2) (af (ag 3) (af (ag 5) (af (fC (.tup [(.str "s"),(.int 1)])) ah))))) (hName 6))
 (aC (aJ (aM Cj (af (ag 2) (af (ag 3) (af (ag 5) (af (fC (.tup [(.str "t"),(.int 1)])) ah))))) (hName 7))
 (cP (lO "list" a8 (ag 4) (af (aW (af (ag 6) (af (ag 7) ah))) ah))))))))
 (aQ (aM bF (af (cu (b9 (af (aM cV (af (ag 2) ah)) ah)) 1 [2,3,4] (hName 0) cR (aW (af (av bZ (ag 1) (ag 0)) (af (av bZ (ag 2) (ag 0)) (af (av aD (av bZ (ag 3) (ag 0)) #[0]) (af (av aD (av bZ (ag 3) (ag 0)) #[1]) ah)))))) ah)))))))
abbrev DQ:List D->Dm D:=dw 8 L0
abbrev Im:Stmt:=top 48
def Ck:aB ["floor","most","forms","words","leads","place","s","t"] ["floor","most"] (aj Im):=by walk
include cb cy dW gh in
def Yca(D:vA K mg "chart_of" Im ["floor","most"] [V.int 60] f fd)(T:Txt mg)(dI:rE K mg "QUARTER_charts" gG (.tup [(.str "t"),(.int 1)]))(qV:rE K mg "SHEAR" tm (.tup [(.str "s"),(.int 1)])):aE P w K mg base aZ 8 f fd ["floor","most"] (a6 K 2 DQ):=by
 refine D.F.ok Ck (λ_ _ _ _ h=>h.1) (λc A o s H v Q E hr h=>?_);refine⟨_,((2>>=Ck>>=(@mv _ _ _ _ (bu cy cb hr ∅ rfl (pv 0<|aA)<|aA)))<|>(3>>=Ck>>=(@mv _ _ _ _ ((@dr _ _ _ _ _ aA)<|aA)))<|>(4>>=Ck>>=(@mv _ _ _ _ aA))<|>xi PassesOwn.never (dA xl (iA mw (by rfl) T.bH mz (pv 4<|aA)) (iA mw (by rfl) T.bH mz (pv 2<|aA)) (aI _)) ((dA C3 (iA mw (by rfl) T.bH mz (pv 2<|aA)) (pv 1) (aI _)<*>(~~~M1)<*>jN)<|>(5>>=Ck>>=iA mw (by rfl) T.bH mz (pv 4<|aA))<|>(6>>=Ck>>=bu gh dW hr ∅ rfl (pv 2<|pv 3<|pv 5<|GL qV rfl rfl ∅<|aA))<|>(7>>=Ck>>=bu gh dW hr ∅ rfl (pv 2<|pv 3<|pv 5<|GL dI rfl rfl ∅<|aA))<|>(~~~rY (qj PySem.F.plainAttrs_list PySem.F.slot_list_append PySem.F.type_list_append rZ (pv 4) ((@dr _ _ _ _ _ (pv 6<|pv 7<|aA))<|aA))))<|>(~~~(@cC _ _ _ _ (fV pQ (by rfl) T.a9 pe (r9 (own:=["k"]) (fr:=["forms","words","leads"]) (js:=[2,3,4]) rfl (by k_in) (rh rfl T.aV (iA mw (by rfl) T.bH mz (pv 2<|aA)<|aA)) (λ_ _ _ _ _=>(cX (i:=0) (show((["k"]:List Str) ++ (["forms","words","leads"]:List Str)).Nodup by w_fin) rfl (by w_up))) (λ_ _ _ _ _=>sJ) (λ_ _ _ _ _=>(@dr _ _ _ _ _ ((wG (K:=K) rfl<*pv 1<*pv 0)<|(wG (K:=K) rfl<*pv 2<*pv 0)<|(yE (K:=K) rfl<*(wG (K:=K) rfl<*pv 3<*pv 0)<*aK)<|(yE (K:=K) rfl<*(wG (K:=K) rfl<*pv 3<*pv 0)<*aK)<|aA)))<|aA))))),?_⟩
 exact dO (b:=L0) (ng (o8 (xE (bY (qg (F:=zy) (bY (b6 0) d3) x5) d3)) (lG 2))
  (ng (o8 (xE (bY (uL d3) d3)) (lG 3))
  (ng (o8 (xE d3) (lG 4))
  (ng (OL (uh (lz OD (sW xJ (bY (b6 4) d3)) (sW xJ (bY (b6 2) d3)))) (ng (wU (uh (lz OE (sW xJ (bY (b6 2) d3)) (b6 1))) Pc wR)
  (ng (o8 (sW xJ (bY (b6 4) d3)) (lG 5))
  (ng (o8 (qg (F:=Cj) (bY (b6 2) (bY (b6 3) (bY (b6 5) (bY (GN qV) d3)))) Pk) (lG 6))
  (ng (o8 (qg (F:=Cj) (bY (b6 2) (bY (b6 3) (bY (b6 5) (bY (GN dI) d3)))) Pk) (lG 7))
  (F6 (F4 F5 (b6 4) (bY (uL (bY (b6 6) (bY (b6 7) d3))) d3))))))))
  (vQ (sW Ll (bY (Lp (Ln (bY (sW xJ (bY (b6 2) d3)) d3)) (lG 0) OQ (uL (bY (lz wN (b6 1) (b6 0)) (bY (lz wN (b6 2) (b6 0)) (bY (lz sj (lz wN (b6 3) (b6 0)) (nD _)) (bY (lz sj (lz wN (b6 3) (b6 0)) (nD _)) d3)))))) d3))))))) rfl h
variable {mN:Addr}{mO:FuncData}(ft:vA K mg "chart_of" Im ["floor","most"] [V.int 60] mN mO)(mP:aE P w K mg base aZ 8 mN mO ["floor","most"] (a6 K 2 DQ))
abbrev Io:ao->Dm Fl :=
 (aQ (aW (af (aM bF (af (cu (cQ (ag 0)) 1 [] (hName 0) cR (av aD (ag 0) #[2])) ah)) (af (aM bF (af (cu (cQ (ag 0)) 1 [] (hName 0) cR (av aD (ag 0) #[3])) ah)) ah))))
abbrev Ip:List D->Dm D:=dw 1 Io
abbrev Iq:Stmt:=top 50
def zbz:aB ["chart"] ["chart"] (aj Iq):=by walk
abbrev D40:=Gx1 "row_turnings" Iq ["chart"]
abbrev G40:=Gx2 ["chart"] 1 1 Ip
def ybz(D:D40 K mg f fd)(T:Txt mg):G40 P w K mg base f fd:=zbz|||(~~~(@cC _ _ _ _ (@dr _ _ _ _ _ (fV pQ (by rfl) T.a9 pe (r9 (own:=["row"]) (fr:=[]) (js:=[]) rfl (by k_in) (qi (pv 0)) (λ_ _ _ _ _=>(cX (i:=0) (show((["row"]:List Str) ++ ([]:List Str)).Nodup by w_fin) rfl (by w_up))) (λ_ _ _ _ _=>sJ) (λ_ _ _ _ _=>(yE (K:=K) rfl<*pv 0<*aK))<|aA)<|fV pQ (by rfl) T.a9 pe (r9 (own:=["row"]) (fr:=[]) (js:=[]) rfl (by k_in) (qi (pv 0)) (λ_ _ _ _ _=>(cX (i:=0) (show((["row"]:List Str) ++ ([]:List Str)).Nodup by w_fin) rfl (by w_up))) (λ_ _ _ _ _=>sJ) (λ_ _ _ _ _=>(yE (K:=K) rfl<*pv 0<*aK))<|aA)<|aA))))|||Io
variable {fO:Addr}{fP:FuncData}(bU:D40 K mg fO fP)(cm:G40 P w K mg base fO fP)
abbrev Ir:ao->Dm Fl :=
 (aC (aJ (aM Ip (af (ag 0) ah)) (hName 1))
 (aQ (aW (af (av aD (ag 1) #[0]) (af (aM x6 (af (av aD (ag 1) #[1]) (af (av aD (ag 1) #[1]) ah))) ah)))))
abbrev Iu:List D->Dm D:=dw 2 Ir
abbrev Iv:Stmt:=top 54
def UT:aB ["chart","turnings"] ["chart"] (aj Iv):=by walk
abbrev D41:=Gx1 "level_turnings" Iv ["chart"]
abbrev G41:=Gx2 ["chart"] 2 1 Iu
include bI bX bU cm in
def Zbl(D:D41 K mg f fd)(T:Txt mg):G41 P w K mg base f fd:=UT|||((1>>=UT>>=bu cm bU hr ∅ rfl (pv 0<|aA))<|>(~~~(@cC _ _ _ _ (@dr _ _ _ _ _ ((bj<*pv 1<*aK)<|bu bX bI hr ∅ rfl ((bj<*pv 1<*aK)<|(bj<*pv 1<*aK)<|aA)<|aA)))))|||Ir
variable {dJ:Addr}{dM:FuncData}(bz:D41 K mg dJ dM)(bM:G41 P w K mg base dJ dM)
abbrev Iw:ao->Dm Fl :=
 (aC (aJ (aM Iu (af (ag 0) ah)) (hName 1))
 (aC (aJ (cO ah) (hName 2))
 (aC (c6 (b9 (af (aM cV (af (ag 0) ah)) ah)) (hName 3) (aC (aJ (aM bF (af (aM ko (af (aM Hw (af (ag 1) (af (ag 3) ah))) ah)) ah)) (hName 4))
 (fg (aH (av (ql true) (ag 4) (ag 2))) (cP (lO "list" a8 (ag 2) (af (ag 4) ah))) aX)))
 (aQ (aM bF (af (ag 2) ah))))))
abbrev Cm:List D->Dm D:=dw 5 Iw
abbrev Iy:Stmt:=top 55
def Iz:aB ["chart","turnings","kinds","number","kind"] ["chart"] (aj Iy):=by walk
abbrev D42:=Gx1 "kinds_of" Iy ["chart"]
abbrev G42:=Gx2 ["chart"] 3 1 Cm
include bS cj bz bM in
def xca(D:D42 K mg f fd)(T:Txt mg):G42 P w K mg base f fd:=Iz|||((1>>=Iz>>=bu bM bz hr ∅ rfl (pv 0<|aA))<|>(2>>=Iz>>=(@mv _ _ _ _ aA))<|>(rh rfl T.aV (iA mw (by rfl) T.bH mz (pv 0<|aA)<|aA)&&&(cX (i:=3) Iz.nd rfl (by w_up))&&&((4>>=Iz>>=fV pQ (by rfl) T.a9 pe (iA Ro (by rfl) T.p5 Nu (bu cj bS hr ∅ rfl (pv 1<|pv 3<|aA)<|aA)<|aA))<|>(~~~(dA (NR hu) (pv 4) (pv 2) (by with_unfolding_all rfl)<*>(~~~rY (qj PySem.F.plainAttrs_list PySem.F.slot_list_append PySem.F.type_list_append rZ (pv 2) (pv 4<|aA)))<*>jN))))<|>(~~~(@cC _ _ _ _ (fV pQ (by rfl) T.a9 pe (pv 2<|aA)))))|||Iw
variable {mQ:Addr}{mS:FuncData}(dX:D42 K mg mQ mS)(fu:G42 P w K mg base mQ mS)
abbrev IA:ao->Dm Fl :=
 (aC (aJ (ag 0) (lH 4 (bx (hName 2) (bx (hName 3) (bx (hName 4) (bx (hName 5) lQ))))))
 (aC (aJ (ag 1) (lH 4 (bx (hName 6) (bx (hName 7) (bx (hName 8) (bx (hName 9) lQ))))))
 (aQ (aW (af (av dh (av cS (ag 2) (ag 6)) (av cS (ag 3) (ag 8))) (af (av dh (av cS (ag 2) (ag 7)) (av cS (ag 3) (ag 9))) (af (av dh (av cS (ag 4) (ag 6)) (av cS (ag 5) (ag 8))) (af (av dh (av cS (ag 4) (ag 7)) (av cS (ag 5) (ag 9))) ah))))))))
abbrev L3:List D->Dm D:=dw 10 IA
abbrev IB:Stmt:=top 74
def x8:aB ["_law_one","_law_other","_law_a","_law_b","_law_c","_law_d","_law_e","_law_f","_law_g","_law_h"] ["_law_one","_law_other"] (aj IB):=by walk
abbrev D43:=Gx1 "_law_times" IB ["_law_one","_law_other"]
abbrev G43:=Gx2 ["_law_one","_law_other"] 1 2 L3
def ybR(D:D43 K mg f fd)(T:Txt mg):G43 P w K mg base f fd:=x8|||(uH (pv 0) (tH (n:=4) rfl (mq (cX (i:=2) x8.nd rfl (by w_up)) (mq (cX (i:=3) x8.nd rfl (by w_up)) (mq (cX (i:=4) x8.nd rfl (by w_up)) (mq (cX (i:=5) x8.nd rfl (by w_up)) tG)))))<|>uH (pv 1) (tH (n:=4) rfl (mq (cX (i:=6) x8.nd rfl (by w_up)) (mq (cX (i:=7) x8.nd rfl (by w_up)) (mq (cX (i:=8) x8.nd rfl (by w_up)) (mq (cX (i:=9) x8.nd rfl (by w_up)) tG)))))<|>(~~~(@cC _ _ _ _ (@dr _ _ _ _ _ (bg nz (bg qd (pv 2) (pv 6)) (bg qd (pv 3) (pv 8))<|bg nz (bg qd (pv 2) (pv 7)) (bg qd (pv 3) (pv 9))<|bg nz (bg qd (pv 4) (pv 6)) (bg qd (pv 5) (pv 8))<|bg nz (bg qd (pv 4) (pv 7)) (bg qd (pv 5) (pv 9))<|aA)))))|||IA
variable {jv:Addr}{jw:FuncData}(gi:D43 K mg jv jw)(jx:G43 P w K mg base jv jw)
abbrev IC:ao->Dm Fl :=
 (aC (aJ (aW (af #[1] (af #[0] (af #[0] (af #[1] ah))))) (hName 1))
 (aC (c6 (cQ (ag 0)) (lH 2 (bx (hName 2) (bx (hName 3) lQ))) (c6 (b9 (af (av bZ (cO (af #[1] (af (ag 3) ah))) (aM pW (af (av (jP false) (ag 2) (fC (.str "t"))) ah))) ah)) (hName 4) (aJ (aM L3 (af (av bZ (cO (af (aW (af #[1] (af (ag 3) (af #[0] (af #[1] ah))))) (af (aW (af #[0] (af (rN lF #[1]) (af #[1] (af #[0] ah))))) ah))) (aM pW (af (av (jP false) (ag 2) (fC (.str "t"))) ah))) (af (ag 1) ah))) (hName 1))))
 (aQ (ag 1))))
abbrev IE:List D->Dm D:=dw 5 IC
abbrev IF:Stmt:=top 75
def DR:aB ["_law_word","_law_found","_law_letter","_law_k","_law_turn"] ["_law_word"] (aj IF):=by walk
abbrev D44:=Gx1 "_law_table" IF ["_law_word"]
abbrev G44:=Gx2 ["_law_word"] 2 1 IE
include gi jx in
def ZbR(D:D44 K mg f fd)(T:Txt mg):G44 P w K mg base f fd:=DR|||((1>>=DR>>=(@dr _ _ _ _ _ (aK<|aK<|aK<|aK<|aA)))<|>(qi (pv 0)&&&tH (n:=2) rfl (mq (cX (i:=2) DR.nd rfl (by w_up)) (mq (cX (i:=3) DR.nd rfl (by w_up)) tG))&&&(~~~(rh rfl T.aV ((nA<*(@mv _ _ _ _ (aK<|pv 3<|aA))<*fV M8 (by rfl) T.wb Nr (uZ o3 (pv 2) rg (aI _)<|aA))<|aA)&&&(cX (i:=4) DR.nd rfl (by w_up))&&&(~~~(1>>=DR>>=bu jx gi hr ∅ rfl ((nA<*(@mv _ _ _ _ ((@dr _ _ _ _ _ (aK<|pv 3<|aK<|aK<|aA))<|(@dr _ _ _ _ _ (aK<|sE sF aK<|aK<|aK<|aA))<|aA))<*fV M8 (by rfl) T.wb Nr (uZ o3 (pv 2) rg (aI _)<|aA))<|pv 1<|aA))))))<|>(~~~(@cC _ _ _ _ (pv 1))))|||IC
variable {jy:Addr}{jz:FuncData}(gj:D44 K mg jy jz)(jA:G44 P w K mg base jy jz)
abbrev IG:ao->Dm Fl :=
 (aC (aJ (ag 0) (lH 2 (bx (hName 1) (bx (hName 2) lQ))))
 (aC (fg (vJ (aH (av vL (ag 2) #[0])) (sU (aH (av (jP false) (ag 2) #[0])) (aH (av vL (ag 1) #[0])))) (qM 1 2 (af (av m8 #[0] (ag 1)) (af (av m8 #[0] (ag 2)) ah))) aX)
 (aQ (av bZ (cO (af (aW (af (ag 1) (af (ag 2) ah))) (af (aW (af #[1] (af #[0] ah))) ah))) (aM pW (af (xF (av (jQ false) (aW (af (ag 1) (af (ag 2) ah))) (aW (af #[0] (af #[0] ah)))) (av (jP false) (ag 2) #[0])) ah))))))
abbrev DS:List D->Dm D:=dw 3 IG
abbrev IH:Stmt:=top 82
def L5:aB ["_law_pair","_law_a","_law_c"] ["_law_pair"] (aj IH):=by walk
abbrev D45:=Gx1 "_law_upright" IH ["_law_pair"]
abbrev G45:=Gx2 ["_law_pair"] 1 1 DS
def Zbz(D:D45 K mg f fd)(T:Txt mg):G45 P w K mg base f fd:=L5|||(uH (pv 0) (tH (n:=2) rfl (mq (cX (i:=1) L5.nd rfl (by w_up)) (mq (cX (i:=2) L5.nd rfl (by w_up)) tG)))<|>(PW.pt (yf (dA xl (pv 2) aK (aI _)) (Ek (PW.pt (Ku (dA o3 (pv 2) aK (aI _)) (Kt (dA xl (pv 1) aK (aI _)))))))<*>(~~~(C0 (i:=1) (j:=2) rfl L5.nd rfl rfl ∅ rfl rfl (bg uY aK (pv 1)<|bg uY aK (pv 2)<|aA) rfl))<*>jN)<|>(~~~(@cC _ _ _ _ (nA<*(@mv _ _ _ _ ((@dr _ _ _ _ _ (pv 1<|pv 2<|aA))<|(@dr _ _ _ _ _ (aK<|aK<|aA))<|aA))<*fV M8 (by rfl) T.wb Nr (Em (uZ (Nw hu) (@dr _ _ _ _ _ (pv 1<|pv 2<|aA)) (@dr _ _ _ _ _ (aK<|aK<|aA)) (aI _)) (MZ (uZ o3 (pv 2) aK (aI _)))<|aA)))))|||IG
variable {fQ:Addr}{fR:FuncData}(bW:D45 K mg fQ fR)(cn:G45 P w K mg base fQ fR)
abbrev II:ao->Dm Fl :=
 (aC (qM 0 1 (af (aM uF (af (ag 0) ah)) (af (aM uF (af (ag 1) ah)) ah)))
 (aC (iG (aH (av y8 (ag 1) #[0])) (qM 0 1 (af (ag 1) (af (av lE (ag 0) (ag 1)) ah))))
 (aQ (ag 0))))
abbrev L6:List D->Dm D:=dw 2 II
abbrev IJ:Stmt:=top 80
def Pp:aB ["_law_one","_law_other"] ["_law_one","_law_other"] (aj IJ):=by walk
abbrev D46:=Gx1 "_law_common" IJ ["_law_one","_law_other"]
abbrev G46:=Gx2 ["_law_one","_law_other"] 1 2 L6
def ZbC(D:D46 K mg f fd)(T:Txt mg):G46 P w K mg base f fd:=Pp|||((C0 (i:=0) (j:=1) rfl Pp.nd rfl rfl ∅ rfl rfl (iA M7 (by rfl) T.wa NQ (pv 0<|aA)<|iA M7 (by rfl) T.wa NQ (pv 1<|aA)<|aA) rfl)<|>xi PassesOwn.never (dA C3 (pv 1) aK (aI _)) (~~~(C0 (i:=0) (j:=1) rfl Pp.nd rfl rfl ∅ rfl rfl (pv 1<|bg tJ (pv 0) (pv 1)<|aA) rfl))<|>(~~~(@cC _ _ _ _ (pv 0))))|||II
variable {hV:Addr}{h8:FuncData}(eO:D46 K mg hV h8)(h9:G46 P w K mg base hV h8)
abbrev IK:ao->Dm Fl :=
 (aC (aJ (av bZ (cO (af #[12] (af #[1000] ah))) (av n5 (aM sy (af (ag 0) (af #[8] ah))) #[7])) (hName 1))
 (aC (qM 2 3 (af (av m8 (aM sy (af (ag 0) (af (av dh (av ke #[2] (ag 1)) #[1]) ah))) (ag 1)) (af (aM sy (af (ag 0) (af (av dh (ag 1) #[1]) ah))) ah)))
 (aC (aJ (aM rQ (af #[1] (af (aM L6 (af (ag 2) (af (ag 3) ah))) ah))) (hName 4))
 (aQ (aM DS (af (aW (af (av n5 (ag 2) (ag 4)) (af (av n5 (ag 3) (ag 4)) ah))) ah))))))
abbrev Cn:List D->Dm D:=dw 5 IK
abbrev IL:Stmt:=top 81
def L7:aB ["_law_feed_here","_law_far","_law_a","_law_c","_law_part"] ["_law_feed_here"] (aj IL):=by walk
abbrev D47:=Gx1 "_law_slope" IL ["_law_feed_here"]
abbrev G47:=Gx2 ["_law_feed_here"] 2 1 Cn
include aN aO bW cn eO h9 in
def YbR(D:D47 K mg f fd)(T:Txt mg):G47 P w K mg base f fd:=L7|||((1>>=L7>>=(nA<*(@mv _ _ _ _ (aK<|aK<|aA))<*bg C2 (bu aO aN hr ∅ rfl (pv 0<|aK<|aA)) aK))<|>(C0 (i:=2) (j:=3) rfl L7.nd rfl rfl ∅ rfl rfl (bg uY (bu aO aN hr ∅ rfl (pv 0<|bg nz (bg rD aK (pv 1)) aK<|aA)) (pv 1)<|bu aO aN hr ∅ rfl (pv 0<|bg nz (pv 1) aK<|aA)<|aA) rfl)<|>(4>>=L7>>=iA (QK rfl) (by rfl) T.zw Rj (aK<|bu h9 eO hr ∅ rfl (pv 2<|pv 3<|aA)<|aA))<|>(~~~(@cC _ _ _ _ (bu cn bW hr ∅ rfl ((@dr _ _ _ _ _ (bg C2 (pv 2) (pv 4)<|bg C2 (pv 3) (pv 4)<|aA))<|aA)))))|||IK
variable {jB:Addr}{jC:FuncData}(dY:D47 K mg jB jC)(gk:G47 P w K mg base jB jC)
abbrev IP:ao->Dm Fl :=
 (aC (fg (aH (av (jQ true) (aM ko (af (aM qz (af (cu (cQ (ag 1)) 1 [] (hName 0) cR (aM n8 (af (ag 0) ah))) (af (cO ah) ah))) ah)) (aM c5 (af (aM gM (af (aM cV (af (ag 0) ah)) ah)) ah)))) (aQ (fC (.bl false))) aX)
 (aC (c6 (cQ (ag 1)) (hName 2) (c6 (cQ (ag 2)) (hName 3) (fg (vJ (aH (av (rP true) (av aD (av aD (ag 0) (ag 3)) #[2]) (ag 2))) (aH (av (rP true) (av aD (av aD (ag 0) (av aD (av aD (ag 0) (ag 3)) #[3])) #[3]) (ag 2)))) (aQ (fC (.bl false))) aX)))
 (aQ (fC (.bl true)))))
abbrev IQ:List D->Dm D:=dw 4 IP
abbrev IU:Stmt:=top 83
def Pq:aB ["_law_chart_here","_law_kinds","_law_kind","_law_at"] ["_law_chart_here","_law_kinds"] (aj IU):=by walk
abbrev D48:=Gx1 "_law_shut" IU ["_law_chart_here","_law_kinds"]
abbrev G48:=Gx2 ["_law_chart_here","_law_kinds"] 1 2 IQ
def Yb1(D:D48 K mg f fd)(T:Txt mg):G48 P w K mg base f fd:=Pq|||((dA (C8 hu) (iA Ro (by rfl) T.p5 Nu (iA (Yi rfl) (by rfl) T.GU Ay (r9 (own:=["_law_kind"]) (fr:=[]) (js:=[]) rfl (by k_in) (qi (pv 1)) (λ_ _ _ _ _=>(cX (i:=0) (show((["_law_kind"]:List Str) ++ ([]:List Str)).Nodup by w_fin) rfl (by w_up))) (λ_ _ _ _ _=>sJ) (λ_ _ _ _ _=>(fV (Xw (K:=K) rfl) (by rfl) T.dz r6 (pv 0<|aA)))<|(@mv _ _ _ _ aA)<|aA)<|aA)) (fV (ve rfl) (by rfl) T.dz r6 (fV E6 (by rfl) T.aV va (iA mw (by rfl) T.bH mz (pv 0<|aA)<|aA)<|aA)) (aI _)<*>(~~~(@cC _ _ _ _ uR))<*>jN)<|>(qi (pv 1)&&&(cX (i:=2) Pq.nd rfl (by w_up))&&&(~~~(qi (pv 2)&&&(cX (i:=3) Pq.nd rfl (by w_up))&&&(~~~(PW.pt (yf (dA C5 (bj<*(bj<*pv 0<*pv 3)<*aK) (pv 2) (by with_unfolding_all rfl)) (Ek (dA C5 (bj<*(bj<*pv 0<*(bj<*(bj<*pv 0<*pv 3)<*aK))<*aK) (pv 2) (by with_unfolding_all rfl))))<*>(~~~(@cC _ _ _ _ uR))<*>jN)))))<|>(~~~(@cC _ _ _ _ uR)))|||IP
variable {kL:Addr}{kM:FuncData}(iM:D48 K mg kL kM)(kO:G48 P w K mg base kL kM)
abbrev IW:ao->Dm Fl :=
 (aC (aJ (aM Ip (af (ag 0) ah)) (hName 2))
 (aC (aJ #[0] (hName 3))
 (aC (c6 (cQ (ag 1)) (hName 4) (aC (aJ (fg (aH (av (jP false) (av aD (ag 4) #[0]) (fC (.str "s")))) (av aD (ag 2) #[0]) (av aD (ag 2) #[1])) (hName 5))
 (aJ (av aD (aM DP (af (ag 5) (af (av aD (ag 4) #[1]) ah))) (ag 3)) (hName 3))))
 (aQ (ag 3)))))
abbrev L8:List D->Dm D:=dw 6 IW
abbrev IX:Stmt:=top 56
def DT:aB ["chart","word","turnings","reached","step","turning"] ["chart","word"] (aj IX):=by walk
abbrev D49:=Gx1 "row_at" IX ["chart","word"]
abbrev G49:=Gx2 ["chart","word"] 4 2 L8
include lV nJ bU cm in
def zcO(D:D49 K mg f fd)(T:Txt mg):G49 P w K mg base f fd:=DT|||((2>>=DT>>=bu cm bU hr ∅ rfl (pv 0<|aA))<|>(3>>=DT>>=aK)<|>(qi (pv 1)&&&(cX (i:=4) DT.nd rfl (by w_up))&&&((5>>=DT>>=Wr (dA o3 (bj<*pv 4<*aK) rg (aI _)) (bj<*pv 2<*aK) (bj<*pv 2<*aK))<|>(~~~(3>>=DT>>=(bj<*bu nJ lV hr ∅ rfl (pv 5<|(bj<*pv 4<*aK)<|aA)<*pv 3)))))<|>(~~~(@cC _ _ _ _ (pv 3))))|||IW
variable {pC:Addr}{pD:FuncData}(oj:D49 K mg pC pD)(pE:G49 P w K mg base pC pD)
abbrev IY:ao->Dm Fl :=
 (aQ (aW (af (av dh (av cS (av aD (ag 0) #[0]) (av aD (ag 1) #[0])) (av cS (av aD (ag 0) #[1]) (av aD (ag 1) #[1]))) (af (av dh (av cS (av aD (ag 0) #[2]) (av aD (ag 1) #[0])) (av cS (av aD (ag 0) #[3]) (av aD (ag 1) #[1]))) ah))))
abbrev IZ:List D->Dm D:=dw 2 IY
abbrev Ja:Stmt:=top 22
def Xca:aB ["table","pair"] ["table","pair"] (aj Ja):=by walk
abbrev D50:=Gx1 "led_pair" Ja ["table","pair"]
abbrev G50:=Gx2 ["table","pair"] 1 2 IZ
def zcb(D:D50 K mg f fd)(T:Txt mg):G50 P w K mg base f fd:=Xca|||(~~~(@cC _ _ _ _ (@dr _ _ _ _ _ (bg nz (bg qd (bj<*pv 0<*aK) (bj<*pv 1<*aK)) (bg qd (bj<*pv 0<*aK) (bj<*pv 1<*aK))<|bg nz (bg qd (bj<*pv 0<*aK) (bj<*pv 1<*aK)) (bg qd (bj<*pv 0<*aK) (bj<*pv 1<*aK))<|aA))))|||IY
variable {mT:Addr}{mU:FuncData}(dZ:D50 K mg mT mU)(fw:G50 P w K mg base mT mU)
abbrev Jb:ao->Dm Fl :=
 (aC (fg (aH (av (jP false) (ag 0) #[0])) (aQ (aW ah)) aX)
 (aQ (aW (af (aW (af (fC (.str "s")) (af (ag 0) ah))) ah))))
abbrev zz:List D->Dm D:=dw 1 Jb
abbrev Jc:Stmt:=top 37
def ycO:aB ["k"] ["k"] (aj Jc):=by walk
abbrev D51:=Gx1 "shears" Jc ["k"]
abbrev G51:=Gx2 ["k"] 1 1 zz
def ZcO(D:D51 K mg f fd)(T:Txt mg):G51 P w K mg base f fd:=ycO|||((dA o3 (pv 0) aK (aI _)<*>(~~~(@cC _ _ _ _ (@dr _ _ _ _ _ aA)))<*>jN)<|>(~~~(@cC _ _ _ _ (@dr _ _ _ _ _ ((@dr _ _ _ _ _ (rg<|pv 0<|aA))<|aA)))))|||Jb
variable {pF:Addr}{pH:FuncData}(di:D51 K mg pF pH)(dN:G51 P w K mg base pF pH)
abbrev Jd:ao->Dm Fl :=
 (aQ (aW (af (av dh (av cS (av aD (ag 0) #[0]) (av aD (ag 1) #[0])) (av cS (av aD (ag 0) #[1]) (av aD (ag 1) #[2]))) (af (av dh (av cS (av aD (ag 0) #[0]) (av aD (ag 1) #[1])) (av cS (av aD (ag 0) #[1]) (av aD (ag 1) #[3]))) (af (av dh (av cS (av aD (ag 0) #[2]) (av aD (ag 1) #[0])) (av cS (av aD (ag 0) #[3]) (av aD (ag 1) #[2]))) (af (av dh (av cS (av aD (ag 0) #[2]) (av aD (ag 1) #[1])) (av cS (av aD (ag 0) #[3]) (av aD (ag 1) #[3]))) ah))))))
abbrev wZ:List D->Dm D:=dw 2 Jd
abbrev Je:Stmt:=top 20
def Xc3:aB ["one","other"] ["one","other"] (aj Je):=by walk
abbrev D52:=Gx1 "times" Je ["one","other"]
abbrev G52:=Gx2 ["one","other"] 1 2 wZ
def zc4(D:D52 K mg f fd)(T:Txt mg):G52 P w K mg base f fd:=Xc3|||(~~~(@cC _ _ _ _ (@dr _ _ _ _ _ (bg nz (bg qd (bj<*pv 0<*aK) (bj<*pv 1<*aK)) (bg qd (bj<*pv 0<*aK) (bj<*pv 1<*aK))<|bg nz (bg qd (bj<*pv 0<*aK) (bj<*pv 1<*aK)) (bg qd (bj<*pv 0<*aK) (bj<*pv 1<*aK))<|bg nz (bg qd (bj<*pv 0<*aK) (bj<*pv 1<*aK)) (bg qd (bj<*pv 0<*aK) (bj<*pv 1<*aK))<|bg nz (bg qd (bj<*pv 0<*aK) (bj<*pv 1<*aK)) (bg qd (bj<*pv 0<*aK) (bj<*pv 1<*aK))<|aA))))|||Jd
variable {qW:Addr}{qX:FuncData}(dP:D52 K mg qW qX)(eQ:G52 P w K mg base qW qX)
abbrev L9:ao->Dm Fl :=
 (aC (fg (aH (av (jP false) (av aD (ag 0) #[0]) (fC (.str "s")))) (aQ (aW (af #[1] (af (av aD (ag 0) #[1]) (af #[0] (af #[1] ah)))))) aX)
 (aC (aJ (fC (.tup [(.int 1),(.int 0),(.int 0),(.int 1)])) (hName 1))
 (aC (c6 (b9 (af (av aD (ag 0) #[1]) ah)) (hName 2) (aJ (aM wZ (af (fC (.tup [(.int 0),(.int (-1)),(.int 1),(.int 0)])) (af (ag 1) ah))) (hName 1)))
 (aQ (ag 1)))))
abbrev Jf:List D->Dm D:=dw 3 L9
abbrev Jg:Stmt:=top 26
def Ma:aB ["step","table","turn"] ["step"] (aj Jg):=by walk
abbrev D53:=Gx1 "step_table" Jg ["step"]
abbrev G53:=Gx2 ["step"] 2 1 Jf
include dP eQ in
def xbR(D:D53 K mg f fd)(T:Txt mg)(eU:rE K mg "QUARTER_words" iN (.tup [(.int 0),(.int (-1)),(.int 1),(.int 0)]))(gn:rE K mg "UNMOVED" lX (.tup [(.int 1),(.int 0),(.int 0),(.int 1)])):G53 P w K mg base f fd:=by
 refine D.F.ok Ma (λ_ _ _ _ h=>h.1) (λc A o s H v Q E hr h=>?_);refine⟨_,((dA o3 (bj<*pv 0<*aK) rg (aI _)<*>(~~~(@cC _ _ _ _ (@dr _ _ _ _ _ (aK<|(bj<*pv 0<*aK)<|aK<|aK<|aA))))<*>jN)<|>(1>>=Ma>>=GL gn rfl rfl ∅)<|>(rh rfl T.aV ((bj<*pv 0<*aK)<|aA)&&&(cX (i:=2) Ma.nd rfl (by w_up))&&&(~~~(1>>=Ma>>=bu eQ dP hr ∅ rfl (GL eU rfl rfl ∅<|pv 1<|aA))))<|>(~~~(@cC _ _ _ _ (pv 1)))),?_⟩
 exact dO (b:=L9) (ng (wU (uh (lz F0 (lz sj (b6 0) (nD _)) (Lg _))) (vQ (uL (bY (nD _) (bY (lz sj (b6 0) (nD _)) (bY (nD _) (bY (nD _) d3)))))) wR)
  (ng (o8 (GN gn) (lG 1))
  (ng (zd (Ln (bY (lz sj (b6 0) (nD _)) d3)) (lG 2) (o8 (qg (F:=wZ) (bY (GN eU) (bY (b6 1) d3)) wY) (lG 1)))
  (vQ (b6 1))))) rfl h
variable {jD:Addr}{jE:FuncData}(gp:D53 K mg jD jE)(jF:G53 P w K mg base jD jE)
abbrev DV:ao->Dm Fl :=
 (aC (aJ (fC (.tup [(.int 1),(.int 0),(.int 0),(.int 1)])) (hName 1))
 (aC (c6 (cQ (ag 0)) (hName 2) (aJ (aM wZ (af (aM Jf (af (ag 2) ah)) (af (ag 1) ah))) (hName 1)))
 (aQ (ag 1))))
abbrev x9:List D->Dm D:=dw 3 DV
abbrev Jh:Stmt:=top 27
def Mb:aB ["word","table","step"] ["word"] (aj Jh):=by walk
abbrev D54:=Gx1 "table_of" Jh ["word"]
abbrev G54:=Gx2 ["word"] 3 1 x9
include dP eQ gp jF in
def ycb(D:D54 K mg f fd)(T:Txt mg)(gn:rE K mg "UNMOVED" lX (.tup [(.int 1),(.int 0),(.int 0),(.int 1)])):G54 P w K mg base f fd:=by
 refine D.F.ok Mb (λ_ _ _ _ h=>h.1) (λc A o s H v Q E hr h=>?_);refine⟨_,((1>>=Mb>>=GL gn rfl rfl ∅)<|>(qi (pv 0)&&&(cX (i:=2) Mb.nd rfl (by w_up))&&&(~~~(1>>=Mb>>=bu eQ dP hr ∅ rfl (bu jF gp hr ∅ rfl (pv 2<|aA)<|pv 1<|aA))))<|>(~~~(@cC _ _ _ _ (pv 1)))),?_⟩
 exact dO (b:=DV) (ng (o8 (GN gn) (lG 1))
  (ng (zd (F8 (b6 0)) (lG 2) (o8 (qg (F:=wZ) (bY (qg (F:=Jf) (bY (b6 2) d3) x5) (bY (b6 1) d3)) wY) (lG 1)))
  (vQ (b6 1)))) rfl h
variable {mV:Addr}{mW:FuncData}(bD:D54 K mg mV mW)(bJ:G54 P w K mg base mV mW)
abbrev Ji:ao->Dm Fl :=
 (aQ (av qQ (av dh (av ke #[2] (ag 0)) (ag 1)) (av ke #[2] (ag 1))))
abbrev Mc:List D->Dm D:=dw 2 Ji
abbrev Jj:Stmt:=top 36
def Xcs:aB ["number","divisor"] ["number","divisor"] (aj Jj):=by walk
abbrev D55:=Gx1 "nearest" Jj ["number","divisor"]
abbrev G55:=Gx2 ["number","divisor"] 1 2 Mc
def zct(D:D55 K mg f fd)(T:Txt mg):G55 P w K mg base f fd:=Xcs|||(~~~(@cC _ _ _ _ (bg X8 (bg nz (bg rD aK (pv 0)) (pv 1)) (bg rD aK (pv 1)))))|||Ji
variable {om:Addr}{oo:FuncData}(lY:D55 K mg om oo)(ot:G55 P w K mg base om oo)
abbrev Jk:ao->Dm Fl :=
 (aC (aJ (aW ah) (hName 1))
 (aC (aJ (ag 0) (hName 2))
 (aC (iG (aH (av (jP true) (av aD (ag 2) #[1]) #[0])) (aC (aJ (av jc (aM zz (af (rN lF (aM Mc (af (av aD (ag 2) #[0]) (af (av aD (ag 2) #[1]) ah)))) ah)) (aW (af (aW (af (fC (.str "t")) (af #[1] ah))) ah))) (hName 3))
 (aC (aJ (aM IZ (af (aM x9 (af (ag 3) ah)) (af (ag 2) ah))) (hName 2))
 (aJ (av jc (ag 1) (ag 3)) (hName 1)))))
 (aQ (ag 1)))))
abbrev Jl:List D->Dm D:=dw 4 Jk
abbrev Jm:Stmt:=top 35
def DW:aB ["pair","gone","left","steps"] ["pair"] (aj Jm):=by walk
abbrev D56:=Gx1 "level_steps" Jm ["pair"]
abbrev G56:=Gx2 ["pair"] 4 1 Jl
include dZ fw di dN bD bJ lY ot in
def YbC(D:D56 K mg f fd)(T:Txt mg):G56 P w K mg base f fd:=DW|||((1>>=DW>>=(@dr _ _ _ _ _ aA))<|>(2>>=DW>>=pv 0)<|>xi PassesOwn.never (dA xk (bj<*pv 2<*aK) aK (aI _)) ((3>>=DW>>=bg wC (bu dN di hr ∅ rfl (sE sF (bu ot lY hr ∅ rfl ((bj<*pv 2<*aK)<|(bj<*pv 2<*aK)<|aA))<|aA)) (@dr _ _ _ _ _ ((@dr _ _ _ _ _ (rg<|aK<|aA))<|aA)))<|>(2>>=DW>>=bu fw dZ hr ∅ rfl (bu bJ bD hr ∅ rfl (pv 3<|aA)<|pv 2<|aA))<|>(~~~(1>>=DW>>=bg wC (pv 1) (pv 3))))<|>(~~~(@cC _ _ _ _ (pv 1))))|||Jk
variable {ie:Addr}{ik:FuncData}(cc:D56 K mg ie ik)(cH:G56 P w K mg base ie ik)
abbrev Jn:ao->Dm Fl :=
 (aQ (rO (av (jP false) (aM cV (af (ag 0) ah)) #[4]) (av (jP false) (av m8 (av cS (av aD (ag 0) #[0]) (av aD (ag 0) #[3])) (av cS (av aD (ag 0) #[1]) (av aD (ag 0) #[2]))) #[1])))
abbrev Md:List D->Dm D:=dw 1 Jn
abbrev Jo:Stmt:=top 19
def Zcb:aB ["thing"] ["thing"] (aj Jo):=by walk
abbrev D57:=Gx1 "is_table" Jo ["thing"]
abbrev G57:=Gx2 ["thing"] 1 1 Md
def Ycb(D:D57 K mg f fd)(T:Txt mg):G57 P w K mg base f fd:=Zcb|||(~~~(@cC _ _ _ _ (Qw (uZ o3 (iA mw (by rfl) T.bH mz (pv 0<|aA)) aK (aI _)) (MZ (uZ o3 (bg uY (bg qd (bj<*pv 0<*aK) (bj<*pv 0<*aK)) (bg qd (bj<*pv 0<*aK) (bj<*pv 0<*aK))) aK (aI _))))))|||Jn
variable {mX:Addr}{mY:FuncData}(kj:D57 K mg mX mY)(mZ:G57 P w K mg base mX mY)
abbrev Jp:ao->Dm Fl :=
 (aC (fg (aH (av (jP false) (av aD (ag 0) #[0]) #[1])) (aQ (aM zz (af (av aD (ag 0) #[1]) ah))) aX)
 (aQ (av jc (aW (af (aW (af (fC (.str "t")) (af #[2] ah))) ah)) (aM zz (af (rN lF (av aD (ag 0) #[1])) ah)))))
abbrev Me:List D->Dm D:=dw 1 Jp
abbrev Jq:Stmt:=top 38
def XbR:aB ["table"] ["table"] (aj Jq):=by walk
abbrev D58:=Gx1 "level_word" Jq ["table"]
abbrev G58:=Gx2 ["table"] 2 1 Me
include di dN in
def zbS(D:D58 K mg f fd)(T:Txt mg):G58 P w K mg base f fd:=XbR|||((dA o3 (bj<*pv 0<*aK) aK (aI _)<*>(~~~(@cC _ _ _ _ (bu dN di hr ∅ rfl ((bj<*pv 0<*aK)<|aA))))<*>jN)<|>(~~~(@cC _ _ _ _ (bg wC (@dr _ _ _ _ _ ((@dr _ _ _ _ _ (rg<|aK<|aA))<|aA)) (bu dN di hr ∅ rfl (sE sF (bj<*pv 0<*aK)<|aA))))))|||Jp
variable {jG:Addr}{jH:FuncData}(gq:D58 K mg jG jH)(jI:G58 P w K mg base jG jH)
abbrev Jr:ao->Dm Fl :=
 (aC (fg (aH (av (jP false) (av aD (ag 0) #[0]) (fC (.str "s")))) (aQ (aW (af (fC (.str "s")) (af (rN lF (av aD (ag 0) #[1])) ah)))) aX)
 (aQ (aW (af (fC (.str "t")) (af (av m8 #[4] (av aD (ag 0) #[1])) ah)))))
abbrev Mf:List D->Dm D:=dw 1 Jr
abbrev Js:Stmt:=top 31
def xb1:aB ["step"] ["step"] (aj Js):=by walk
abbrev D59:=Gx1 "back_step" Js ["step"]
abbrev G59:=Gx2 ["step"] 1 1 Mf
def Xb1(D:D59 K mg f fd)(T:Txt mg):G59 P w K mg base f fd:=xb1|||((dA o3 (bj<*pv 0<*aK) rg (aI _)<*>(~~~(@cC _ _ _ _ (@dr _ _ _ _ _ (rg<|sE sF (bj<*pv 0<*aK)<|aA))))<*>jN)<|>(~~~(@cC _ _ _ _ (@dr _ _ _ _ _ (rg<|bg uY aK (bj<*pv 0<*aK)<|aA)))))|||Jr
variable {kP:Addr}{kQ:FuncData}(iO:D59 K mg kP kQ)(kR:G59 P w K mg base kP kQ)
abbrev Jt:ao->Dm Fl :=
 (aQ (aM bF (af (cu (uq (af (ag 0) ah)) 1 [] (hName 0) cR (aM Mf (af (ag 0) ah))) ah)))
abbrev Mg:List D->Dm D:=dw 1 Jt
abbrev Ju:Stmt:=top 32
def zb2:aB ["word"] ["word"] (aj Ju):=by walk
abbrev D60:=Gx1 "back_word" Ju ["word"]
abbrev G60:=Gx2 ["word"] 2 1 Mg
include iO kR in
def yb2(D:D60 K mg f fd)(T:Txt mg):G60 P w K mg base f fd:=zb2|||(~~~(@cC _ _ _ _ (fV pQ (by rfl) T.a9 pe (r9 (own:=["step"]) (fr:=[]) (js:=[]) rfl (by k_in) (AB rfl T.tj (pv 0<|aA)) (λ_ _ _ _ _=>(cX (i:=0) (show((["step"]:List Str) ++ ([]:List Str)).Nodup by w_fin) rfl (by w_up))) (λ_ _ _ _ _=>sJ) (λ_ _ _ _ _=>(bu kR iO hr ∅ rfl (pv 0<|aA)))<|aA))))|||Jt
variable {kS:Addr}{kT:FuncData}(iP:D60 K mg kS kT)(kU:G60 P w K mg base kS kT)
abbrev Jv:ao->Dm Fl :=
 (aC (fg (sS (aH (aM Md (af (ag 0) ah)))) qP aX)
 (aC (aJ (aM Jl (af (aW (af (av aD (ag 0) #[0]) (af (av aD (ag 0) #[2]) ah))) ah)) (hName 1))
 (aQ (aM Ii (af (aM Me (af (aM wZ (af (aM x9 (af (ag 1) ah)) (af (ag 0) ah))) ah)) (af (aM Mg (af (ag 1) ah)) ah))))))
abbrev Jw:List D->Dm D:=dw 2 Jv
abbrev Jx:Stmt:=top 34
def UU:aB ["table","gone"] ["table"] (aj Jx):=by walk
abbrev D61:=Gx1 "word_of" Jx ["table"]
abbrev G61:=Gx2 ["table"] 5 1 Jw
include bT ck dP eQ bD bJ cc cH kj mZ gq jI iP kU in
def yct(D:D61 K mg f fd)(T:Txt mg):G61 P w K mg base f fd:=UU|||((Kv (Kr (bu mZ kj hr ∅ rfl (pv 0<|aA)))<*>(~~~M1)<*>jN)<|>(1>>=UU>>=bu cH cc hr ∅ rfl ((@dr _ _ _ _ _ ((bj<*pv 0<*aK)<|(bj<*pv 0<*aK)<|aA))<|aA))<|>(~~~(@cC _ _ _ _ (bu ck bT hr ∅ rfl (bu jI gq hr ∅ rfl (bu eQ dP hr ∅ rfl (bu bJ bD hr ∅ rfl (pv 1<|aA)<|pv 0<|aA)<|aA)<|bu kU iP hr ∅ rfl (pv 1<|aA)<|aA)))))|||Jv
variable {ou:Addr}{ow:FuncData}(gw:D61 K mg ou ow)(iQ:G61 P w K mg base ou ow)
abbrev Jy:ao->Dm Fl :=
 (aC (aJ (aM Jl (af (ag 0) ah)) (hName 1))
 (aC (aJ (aM IZ (af (aM x9 (af (ag 1) ah)) (af (ag 0) ah))) (hName 2))
 (aC (fg (vJ (aH (av vL (av aD (ag 0) #[1]) #[0])) (vJ (aH (av (jP true) (aM uF (af (av aD (ag 2) #[0]) ah)) #[1])) (aH (av (jQ false) (ag 0) (aW (af (rN lF #[1]) (af #[0] ah))))))) qP aX)
 (aC (fg (aH (av (jP false) (av aD (ag 2) #[0]) (rN lF #[1]))) (aJ (av jc (ag 1) (aW (af (aW (af (fC (.str "t")) (af #[2] ah))) ah))) (hName 1)) aX)
 (aQ (aM x9 (af (ag 1) ah)))))))
abbrev DX:List D->Dm D:=dw 3 Jy
abbrev Jz:Stmt:=top 52
def Mh:aB ["slope","steps","led"] ["slope"] (aj Jz):=by walk
abbrev D62:=Gx1 "slope_table" Jz ["slope"]
abbrev G62:=Gx2 ["slope"] 5 1 DX
include dZ fw bD bJ cc cH in
def xbC(D:D62 K mg f fd)(T:Txt mg):G62 P w K mg base f fd:=Mh|||((1>>=Mh>>=bu cH cc hr ∅ rfl (pv 0<|aA))<|>(2>>=Mh>>=bu fw dZ hr ∅ rfl (bu bJ bD hr ∅ rfl (pv 1<|aA)<|pv 0<|aA))<|>(PW.pt (yf (dA xl (bj<*pv 0<*aK) aK (aI _)) (yf (dA xk (iA M7 (by rfl) T.wa NQ ((bj<*pv 2<*aK)<|aA)) aK (aI _)) (Ek (dA (Nw hu) (pv 0) (@dr _ _ _ _ _ (sE sF aK<|aK<|aA)) (aI _)))))<*>(~~~M1)<*>jN)<|>(dA o3 (bj<*pv 2<*aK) (sE sF aK) (aI _)<*>(~~~(1>>=Mh>>=bg wC (pv 1) (@dr _ _ _ _ _ ((@dr _ _ _ _ _ (rg<|aK<|aA))<|aA))))<*>jN)<|>(~~~(@cC _ _ _ _ (bu bJ bD hr ∅ rfl (pv 1<|aA)))))|||Jy
variable {il:Addr}{ip:FuncData}(bQ:D62 K mg il ip)(cf:G62 P w K mg base il ip)
abbrev JA:ao->Dm Fl :=
 (aQ (aM L8 (af (ag 0) (af (aM Jw (af (aM DX (af (ag 1) ah)) ah)) ah))))
abbrev DY:List D->Dm D:=dw 2 JA
abbrev JB:Stmt:=top 57
def Zb2:aB ["chart","slope"] ["chart","slope"] (aj JB):=by walk
abbrev D63:=Gx1 "slope_row" JB ["chart","slope"]
abbrev G63:=Gx2 ["chart","slope"] 6 2 DY
include oj pE gw iQ bQ cf in
def Yb2(D:D63 K mg f fd)(T:Txt mg):G63 P w K mg base f fd:=Zb2|||(~~~(@cC _ _ _ _ (bu pE oj hr ∅ rfl (pv 0<|bu iQ gw hr ∅ rfl (bu cf bQ hr ∅ rfl (pv 1<|aA)<|aA)<|aA))))|||JA
variable {kW:Addr}{kX:FuncData}(cI:D63 K mg kW kX)(dc:G63 P w K mg base kW kX)
abbrev JC:ao->Dm Fl :=
 (aC (aJ (aM DY (af (ag 0) (af (ag 1) ah))) (hName 2))
 (aQ (lO "list" cY (cu (cQ (aM Cm (af (ag 0) ah))) 1 [2] (hName 0) cR (av (rP false) (ag 1) (ag 0))) (af (fC (.bl true)) ah))))
abbrev zA:List D->Dm D:=dw 3 JC
abbrev JD:Stmt:=top 58
def UW:aB ["chart","slope","row"] ["chart","slope"] (aj JD):=by walk
abbrev D64:=Gx1 "kind_at" JD ["chart","slope"]
abbrev G64:=Gx2 ["chart","slope"] 7 2 zA
include dX fu cI dc in
def Zct(D:D64 K mg f fd)(T:Txt mg):G64 P w K mg base f fd:=UW|||((2>>=UW>>=bu dc cI hr ∅ rfl (pv 0<|pv 1<|aA))<|>(~~~(@cC _ _ _ _ (qj PySem.F.plainAttrs_list PySem.F.slot_list_index PySem.F.type_list_index (NY hu) (r9 (own:=["kind"]) (fr:=["row"]) (js:=[2]) rfl (by k_in) (qi (bu fu dX hr ∅ rfl (pv 0<|aA))) (λ_ _ _ _ _=>(cX (i:=0) (show((["kind"]:List Str) ++ (["row"]:List Str)).Nodup by w_fin) rfl (by w_up))) (λ_ _ _ _ _=>sJ) (λ_ _ _ _ _=>(uZ (RB (K:=K) rfl) (pv 1) (pv 0) (by with_unfolding_all rfl)))) (uR<|aA)))))|||JC
variable {oy:Addr}{oz:FuncData}(eV:D64 K mg oy oz)(gB:G64 P w K mg base oy oz)
abbrev JE:ao->Dm Fl :=
 (aQ (aM zy (af (aM HV (af (ag 0) (af (aM Jw (af (ag 1) ah)) ah))) ah)))
abbrev Mi:List D->Dm D:=dw 2 JE
abbrev JF:Stmt:=top 44
def Xbz:aB ["floor","table"] ["floor","table"] (aj JF):=by walk
abbrev D65:=Gx1 "led_by_table" JF ["floor","table"]
abbrev G65:=Gx2 ["floor","table"] 7 2 Mi
include cb cy jm kK gw iQ in
def zbA(D:D65 K mg f fd)(T:Txt mg):G65 P w K mg base f fd:=Xbz|||(~~~(@cC _ _ _ _ (bu cy cb hr ∅ rfl (bu kK jm hr ∅ rfl (pv 0<|bu iQ gw hr ∅ rfl (pv 1<|aA)<|aA)<|aA))))|||JE
variable {fS:Addr}{fT:FuncData}(dE:D65 K mg fS fT)(fU:G65 P w K mg base fS fT)
abbrev JG:ao->Dm Fl :=
 (aQ (av (jQ false) (aM Mi (af (ag 0) (af (ag 1) ah))) (aM zy (af (ag 0) ah))))
abbrev Mj:List D->Dm D:=dw 2 JG
abbrev JH:Stmt:=top 62
def XbC:aB ["floor","table"] ["floor","table"] (aj JH):=by walk
abbrev D66:=Gx1 "is_of_group" JH ["floor","table"]
abbrev G66:=Gx2 ["floor","table"] 8 2 Mj
include cb cy dE fU in
def zbD(D:D66 K mg f fd)(T:Txt mg):G66 P w K mg base f fd:=XbC|||(~~~(@cC _ _ _ _ (uZ (Nw hu) (bu fU dE hr ∅ rfl (pv 0<|pv 1<|aA)) (bu cy cb hr ∅ rfl (pv 0<|aA)) (aI _))))|||JG
variable {iq:Addr}{iu:FuncData}(eW:D66 K mg iq iu)(iw:G66 P w K mg base iq iu)
abbrev JI:ao->Dm Fl :=
 (aC (fg (aH (av (jP true) (aM zA (af (ag 1) (af (ag 2) ah))) (aM zA (af (ag 1) (af (ag 3) ah))))) (aQ (av (sY false) (ag 4) (fC .non))) aX)
 (aC (fg (vJ (sS (aH (aM sZ (af (ag 4) (af (fC (.ty "tuple")) ah))))) (vJ (aH (av (jP true) (aM cV (af (ag 4) ah)) #[4])) (aH (av (jP true) (av m8 (av ke (av aD (ag 4) #[0]) (av aD (ag 4) #[3])) (av ke (av aD (ag 4) #[1]) (av aD (ag 4) #[2]))) #[1])))) (aQ (fC (.bl false))) aX)
 (aC (aJ (ag 4) (lH 4 (bx (hName 5) (bx (hName 6) (bx (hName 7) (bx (hName 8) lQ))))))
 (aC (aJ (aW (af (av dh (av ke (ag 5) (av aD (ag 2) #[0])) (av ke (ag 6) (av aD (ag 2) #[1]))) (af (av dh (av ke (ag 7) (av aD (ag 2) #[0])) (av ke (ag 8) (av aD (ag 2) #[1]))) ah))) (hName 9))
 (aQ (rO (av (xS false) (aM Mj (af (ag 0) (af (ag 4) ah))) (fC (.bl true))) (av (ql false) (ag 9) (aW (af (ag 3) (af (aW (af (av m8 #[0] (av aD (ag 3) #[0])) (af (av m8 #[0] (av aD (ag 3) #[1])) ah))) ah))))))))))
abbrev DZ:List D->Dm D:=dw 10 JI
abbrev JJ:Stmt:=top 84
def D0:aB ["_law_floor_here","_law_chart_here","_law_one","_law_other","_law_found","_law_a","_law_b","_law_c","_law_d","_law_led_here"] ["_law_floor_here","_law_chart_here","_law_one","_law_other","_law_found"] (aj JJ):=by walk
abbrev D67:=Gx1 "_law_pair_right" JJ ["_law_floor_here","_law_chart_here","_law_one","_law_other","_law_found"]
abbrev G67:=Gx2 ["_law_floor_here","_law_chart_here","_law_one","_law_other","_law_found"] 9 5 DZ
include eV gB eW iw in
def xbh(D:D67 K mg f fd)(T:Txt mg):G67 P w K mg base f fd:=D0|||((dA xk (bu gB eV hr ∅ rfl (pv 1<|pv 2<|aA)) (bu gB eV hr ∅ rfl (pv 1<|pv 3<|aA)) (aI _)<*>(~~~(@cC _ _ _ _ (uZ O3 (pv 4) CY (aI _))))<*>jN)<|>(PW.pt (yf (Kv (Kr (iA xc1 (by rfl) T.qS Xf (pv 4<|Wq (v:=.ty "tuple") rfl T.a9 pe rfl<|aA)))) (yf (dA xk (iA mw (by rfl) T.bH mz (pv 4<|aA)) aK (aI _)) (Ek (dA xk (bg uY (bg rD (bj<*pv 4<*aK) (bj<*pv 4<*aK)) (bg rD (bj<*pv 4<*aK) (bj<*pv 4<*aK))) aK (aI _)))))<*>(~~~(@cC _ _ _ _ uR))<*>jN)<|>uH (pv 4) (tH (n:=4) rfl (mq (cX (i:=5) D0.nd rfl (by w_up)) (mq (cX (i:=6) D0.nd rfl (by w_up)) (mq (cX (i:=7) D0.nd rfl (by w_up)) (mq (cX (i:=8) D0.nd rfl (by w_up)) tG)))))<|>(9>>=D0>>=(@dr _ _ _ _ _ (bg nz (bg rD (pv 5) (bj<*pv 2<*aK)) (bg rD (pv 6) (bj<*pv 2<*aK))<|bg nz (bg rD (pv 7) (bj<*pv 2<*aK)) (bg rD (pv 8) (bj<*pv 2<*aK))<|aA)))<|>(~~~(@cC _ _ _ _ (Qw (uZ BX (bu iw eW hr ∅ rfl (pv 0<|pv 4<|aA)) uR (aI _)) (MZ (uZ (AA hu) (pv 9) (@dr _ _ _ _ _ (pv 3<|(@dr _ _ _ _ _ (bg uY aK (bj<*pv 3<*aK)<|bg uY aK (bj<*pv 3<*aK)<|aA))<|aA)) (by with_unfolding_all rfl)))))))|||JI
variable {dj:Addr}{dk:FuncData}(cz:D67 K mg dj dk)(dn:G67 P w K mg base dj dk)
abbrev JK:ao->Dm Fl :=
 (aC (aJ (aM Iu (af (ag 0) ah)) (hName 3))
 (aC (aJ (ag 1) (hName 4))
 (aC (c6 (b9 (af (aM cV (af (ag 0) ah)) ah)) (hName 5) (aC (fg (aH (av (jP false) (ag 4) (ag 2))) (aQ (aM zz (af (ag 5) ah))) aX)
 (aC (fg (aH (av (jP false) (av aD (av aD (ag 3) #[1]) (ag 4)) (ag 2))) (aQ (av jc (aM zz (af (ag 5) ah)) (aW (af (aW (af (fC (.str "t")) (af #[2] ah))) ah)))) aX)
 (aJ (av aD (av aD (ag 3) #[0]) (ag 4)) (hName 4)))))
 (aQ (fC .non)))))
abbrev Ml:List D->Dm D:=dw 6 JK
abbrev JL:Stmt:=top 60
def JM:aB ["chart","first","last","turnings","reached","k"] ["chart","first","last"] (aj JL):=by walk
abbrev D68:=Gx1 "level_word_between" JL ["chart","first","last"]
abbrev G68:=Gx2 ["chart","first","last"] 3 3 Ml
include bz bM di dN in
def Za9(D:D68 K mg f fd)(T:Txt mg):G68 P w K mg base f fd:=JM|||((3>>=JM>>=bu bM bz hr ∅ rfl (pv 0<|aA))<|>(4>>=JM>>=pv 1)<|>(rh rfl T.aV (iA mw (by rfl) T.bH mz (pv 0<|aA)<|aA)&&&(cX (i:=5) JM.nd rfl (by w_up))&&&((dA o3 (pv 4) (pv 2) (aI _)<*>(~~~(@cC _ _ _ _ (bu dN di hr ∅ rfl (pv 5<|aA))))<*>jN)<|>(dA o3 (bj<*(bj<*pv 3<*aK)<*pv 4) (pv 2) (aI _)<*>(~~~(@cC _ _ _ _ (bg wC (bu dN di hr ∅ rfl (pv 5<|aA)) (@dr _ _ _ _ _ ((@dr _ _ _ _ _ (rg<|aK<|aA))<|aA)))))<*>jN)<|>(~~~(4>>=JM>>=(bj<*(bj<*pv 3<*aK)<*pv 4)))))<|>(~~~(@cC _ _ _ _ CY)))|||JK
variable {cv:Addr}{cw:FuncData}(bN:D68 K mg cv cw)(cx:G68 P w K mg base cv cw)
abbrev JN:ao->Dm Fl :=
 (aQ (aW (af (av aD (ag 0) #[3]) (af (rN lF (av aD (ag 0) #[1])) (af (rN lF (av aD (ag 0) #[2])) (af (av aD (ag 0) #[0]) ah))))))
abbrev Mm:List D->Dm D:=dw 1 JN
abbrev JO:Stmt:=top 21
def YcO:aB ["table"] ["table"] (aj JO):=by walk
abbrev D69:=Gx1 "undone" JO ["table"]
abbrev G69:=Gx2 ["table"] 1 1 Mm
def xcO(D:D69 K mg f fd)(T:Txt mg):G69 P w K mg base f fd:=YcO|||(~~~(@cC _ _ _ _ (@dr _ _ _ _ _ ((bj<*pv 0<*aK)<|sE sF (bj<*pv 0<*aK)<|sE sF (bj<*pv 0<*aK)<|(bj<*pv 0<*aK)<|aA))))|||JN
variable {pI:Addr}{pJ:FuncData}(oA:D69 K mg pI pJ)(pK:G69 P w K mg base pI pJ)
abbrev JP:ao->Dm Fl :=
 (aC (aJ (aM Ml (af (ag 0) (af (aM DY (af (ag 0) (af (ag 1) ah))) (af (aM DY (af (ag 0) (af (ag 2) ah))) ah)))) (hName 3))
 (aC (fg (aH (av (sY false) (ag 3) (fC .non))) (aQ (fC .non)) aX)
 (aQ (aM wZ (af (aM Mm (af (aM DX (af (ag 2) ah)) ah)) (af (aM wZ (af (aM x9 (af (ag 3) ah)) (af (aM DX (af (ag 1) ah)) ah))) ah))))))
abbrev D1:List D->Dm D:=dw 4 JP
abbrev JQ:Stmt:=top 59
def UX:aB ["chart","one","other","between"] ["chart","one","other"] (aj JQ):=by walk
abbrev D70:=Gx1 "kind_table" JQ ["chart","one","other"]
abbrev G70:=Gx2 ["chart","one","other"] 7 3 D1
include dP eQ bD bJ bQ cf cI dc bN cx oA pK in
def ybS(D:D70 K mg f fd)(T:Txt mg):G70 P w K mg base f fd:=UX|||((3>>=UX>>=bu cx bN hr ∅ rfl (pv 0<|bu dc cI hr ∅ rfl (pv 0<|pv 1<|aA)<|bu dc cI hr ∅ rfl (pv 0<|pv 2<|aA)<|aA))<|>(dA O3 (pv 3) CY (aI _)<*>(~~~(@cC _ _ _ _ CY))<*>jN)<|>(~~~(@cC _ _ _ _ (bu eQ dP hr ∅ rfl (bu pK oA hr ∅ rfl (bu cf bQ hr ∅ rfl (pv 2<|aA)<|aA)<|bu eQ dP hr ∅ rfl (bu bJ bD hr ∅ rfl (pv 3<|aA)<|bu cf bQ hr ∅ rfl (pv 1<|aA)<|aA)<|aA)))))|||JP
variable {jJ:Addr}{jK:FuncData}(gD:D70 K mg jJ jK)(jL:G70 P w K mg base jJ jK)
abbrev Mp:ao->Dm Fl :=
 (aC (aJ (aM zx (af (ag 0) (af #[1] ah))) (hName 1))
 (aC (aJ (aM DL (af (ag 1) (af #[30] ah))) (lH 2 (bx (hName 2) (bx (hName 3) lQ))))
 (aC (aJ (aM (λas=>DQ (as ++ [.int 60])) (af (ag 2) ah)) (hName 4))
 (aC (aJ (aM Cm (af (ag 4) ah)) (hName 5))
 (aC (fg (vJ (aH (av (jQ true) (ag 4) (ag 3))) (vJ (sS (aH (aM IQ (af (ag 4) (af (ag 5) ah))))) (aH (av (jQ true) (aM n8 (af (ag 5) ah)) (aM oN (af (ag 5) ah)))))) (aQ (fC (.bl false))) aX)
 (aC (aJ (cO ah) (hName 6))
 (aC (c6 (lR (af (ag 4) ah)) (lH 2 (bx (hName 7) (bx (hName 8) lQ))) (aC (aJ (aM IE (af (av aD (ag 8) #[1]) ah)) (hName 9))
 (aC (aJ (aM DS (af (aW (af (av aD (ag 9) #[3]) (af (av m8 #[0] (av aD (ag 9) #[2])) ah))) ah)) (hName 10))
 (aC (cP (lO "list" a8 (ag 6) (af (ag 10) ah)))
 (fg (aH (av (jP true) (aM zA (af (ag 4) (af (ag 10) ah))) (av bZ (cu (lR (af (ag 5) ah)) 2 [7] (lH 2 (bx (hName 0) (bx (hName 1) lQ))) (aH (av (rP false) (ag 2) (ag 1))) (ag 0)) #[0]))) (aQ (fC (.bl false))) aX)))))
 (aC (c6 (qN (af #[2] (af (aM rQ (af #[5] (af (aM uj (af #[9] (af (aM cV (af (ag 0) ah)) ah))) ah))) ah))) (hName 11) (aC (aJ (aM zx (af (ag 0) (af (ag 11) ah))) (hName 1))
 (aC (aJ (av bZ (cO (af (av bZ (ag 6) (aM sy (af (ag 1) (af (aM cV (af (ag 6) ah)) ah)))) (af (aM Cn (af (ag 1) ah)) ah))) (aM sy (af (ag 1) (af #[2] ah)))) (hName 12))
 (aC (aJ (aM Cn (af (ag 1) ah)) (hName 13))
 (c6 (cQ (aW (af (aW (af (ag 13) (af (ag 12) ah))) (af (aW (af (ag 12) (af (ag 13) ah))) (af (aW (af (ag 13) (af (ag 13) ah))) ah))))) (hName 14) (fg (sS (aH (aM DZ (af (ag 2) (af (ag 4) (af (av aD (ag 14) #[0]) (af (av aD (ag 14) #[1]) (af (aM D1 (af (ag 4) (af (av aD (ag 14) #[0]) (af (av aD (ag 14) #[1]) ah)))) ah)))))))) (aQ (fC (.bl false))) aX))))))
 (aQ (fC (.bl true)))))))))))
abbrev Pr:List D->Dm D:=dw 15 Mp
abbrev Mq:Stmt:=top 85
def sA:aB ["_law_script","_law_feed_here","_law_floor_here","_law_due","_law_chart_here","_law_kinds","_law_slopes","_law_at","_law_row","_law_table_here","_law_slope_here","_law_k","_law_some","_law_one","_law_pair"] ["_law_script"] (aj Mq):=by walk
abbrev D71:=Gx1 "law" Mq ["_law_script"]
abbrev G71:=Gx2 ["_law_script"] 10 1 Pr
include fm iI aN aO kh mH ft mP dX fu gj jA bW cn dY gk iM kO eV gB cz dn gD jL in
def Co(D:D71 K mg f fd)(T:Txt mg):G71 P w K mg base f fd:=by
 refine D.F.ok sA (λ_ _ _ _ h=>h.1) (λc A o s H v Q E hr h=>?_);have hu:=hr.units;refine⟨_,((1>>=sA>>=bu iI fm hr ∅ rfl (pv 0<|aK<|aA))<|>uH (bu mH kh hr ∅ rfl (pv 1<|aK<|aA)) (tH (n:=2) rfl (mq (cX (i:=2) sA.nd rfl (by w_up)) (mq (cX (i:=3) sA.nd rfl (by w_up)) tG)))<|>(4>>=sA>>=Yb mP (hr.mono ∅) rfl ft.m ft.F.kp ft.bd yC (pv 2<|aA))<|>(5>>=sA>>=bu fu dX hr ∅ rfl (pv 4<|aA))<|>(PW.pt (yf (dA (C8 hu) (pv 4) (pv 3) (aI _)) (yf (Kv (Kr (bu kO iM hr ∅ rfl (pv 4<|pv 5<|aA)))) (Ek (dA (C8 hu) (fV ET (by rfl) T.dz r6 (pv 5<|aA)) (iA (Yr hu) (by rfl) T.p5 Nu (pv 5<|aA)) (aI _)))))<*>(~~~(@cC _ _ _ _ uR))<*>jN)<|>(6>>=sA>>=(@mv _ _ _ _ aA))<|>(KL rfl T.jd (pv 4<|aA)&&&tH (n:=2) rfl (mq (cX (i:=7) sA.nd rfl (by w_up)) (mq (cX (i:=8) sA.nd rfl (by w_up)) tG))&&&((9>>=sA>>=bu jA gj hr ∅ rfl ((bj<*pv 8<*aK)<|aA))<|>(10>>=sA>>=bu cn bW hr ∅ rfl ((@dr _ _ _ _ _ ((bj<*pv 9<*aK)<|bg uY aK (bj<*pv 9<*aK)<|aA))<|aA))<|>rY (qj PySem.F.plainAttrs_list PySem.F.slot_list_append PySem.F.type_list_append rZ (pv 6) (pv 10<|aA))<|>(~~~(dA xk (bu gB eV hr ∅ rfl (pv 4<|pv 10<|aA)) (nA<*r9 (own:=["_law_k","_law_kind"]) (fr:=["_law_at"]) (js:=[7]) rfl (by k_in) (KL rfl T.jd (pv 5<|aA)) (λ_ _ _ _ _=>(XJ (K:=K) (n:=2) rfl rfl (mq (cX (i:=0) (show((["_law_k","_law_kind"]:List Str) ++ (["_law_at"]:List Str)).Nodup by w_fin) rfl (by w_up)) (mq (cX (i:=1) (show((["_law_k","_law_kind"]:List Str) ++ (["_law_at"]:List Str)).Nodup by w_fin) rfl (by w_up)) tG)))) (λ_ _ _ _ _=>(NA (dA (RB (K:=K) rfl) (pv 2) (pv 1) (by with_unfolding_all rfl)))) (λ_ _ _ _ _=>(pv 0))<*aK) (aI _)<*>(~~~(@cC _ _ _ _ uR))<*>jN))))<|>(Wy rfl T.aV (aK<|iA (QK rfl) (by rfl) T.zw Rj (aK<|iA (WC rfl) (by rfl) T.wc Nt (aK<|iA mw (by rfl) T.bH mz (pv 0<|aA)<|aA)<|aA)<|aA)&&&(cX (i:=11) sA.nd rfl (by w_up))&&&((1>>=sA>>=bu iI fm hr ∅ rfl (pv 0<|pv 11<|aA))<|>(12>>=sA>>=(nA<*(@mv _ _ _ _ ((nA<*pv 6<*bu aO aN hr ∅ rfl (pv 1<|iA mw (by rfl) T.bH mz (pv 6<|aA)<|aA))<|bu gk dY hr ∅ rfl (pv 1<|aA)<|aA))<*bu aO aN hr ∅ rfl (pv 1<|aK<|aA)))<|>(13>>=sA>>=bu gk dY hr ∅ rfl (pv 1<|aA))<|>(~~~(qi (@dr _ _ _ _ _ ((@dr _ _ _ _ _ (pv 13<|pv 12<|aA))<|(@dr _ _ _ _ _ (pv 12<|pv 13<|aA))<|(@dr _ _ _ _ _ (pv 13<|pv 13<|aA))<|aA))&&&(cX (i:=14) sA.nd rfl (by w_up))&&&(~~~(Kv (Kr (bu dn cz hr ∅ rfl (pv 2<|pv 4<|(bj<*pv 14<*aK)<|(bj<*pv 14<*aK)<|bu jL gD hr ∅ rfl (pv 4<|(bj<*pv 14<*aK)<|(bj<*pv 14<*aK)<|aA)<|aA)))<*>(~~~(@cC _ _ _ _ uR))<*>jN))))))<|>(~~~(@cC _ _ _ _ uR))),?_⟩
 exact dO (b:=Mp) (ng (o8 (qg (F:=zx) (bY (b6 0) (bY (nD _) d3)) wY) (lG 1))
  (ng (o8 (qg (F:=DL) (bY (b6 1) (bY (nD _) d3)) wY) (Dx (wQ (lG 2) (wQ (lG 3) Dw))))
  (ng (o8 (Xc2 (m:=1) (F:=DQ) (LB:=[.int 60]) (bY (b6 2) d3) x5 rfl (λ_ _=>.cons (.int _) (.nil))) (lG 4))
  (ng (o8 (qg (F:=Cm) (bY (b6 4) d3) x5) (lG 5))
  (ng (wU (Lj (uh (lz (F3 true) (b6 4) (b6 3))) (Lj (Li (Lh (qg (F:=IQ) (bY (b6 4) (bY (b6 5) d3)) wY))) (uh (lz (F3 true) (sW OI (bY (b6 5) d3)) (sW zc3 (bY (b6 5) d3)))))) (vQ (Dl _)) wR)
  (ng (o8 (xE d3) (lG 6))
  (ng (zd (Lo (bY (b6 4) d3)) (Dx (wQ (lG 7) (wQ (lG 8) Dw))) (ng (o8 (qg (F:=IE) (bY (lz sj (b6 8) (nD _)) d3) x5) (lG 9))
  (ng (o8 (qg (F:=DS) (bY (uL (bY (lz sj (b6 9) (nD _)) (bY (lz OB (nD _) (lz sj (b6 9) (nD _))) d3))) d3) x5) (lG 10))
  (ng (F6 (F4 F5 (b6 6) (bY (b6 10) d3)))
  (wU (uh (lz Lk (qg (F:=zA) (bY (b6 4) (bY (b6 10) d3)) wY) (lz wN (Lp (Lo (bY (b6 5) d3)) (Dx (wQ (lG 0) (wQ (lG 1) Dw))) (uh (lz (OH false) (b6 2) (b6 1))) (b6 0)) (nD _)))) (vQ (Dl _)) wR)))))
  (ng (zd (Zq (bY (nD _) (bY (sW OJ (bY (nD _) (bY (sW Zk (bY (nD _) (bY (sW xJ (bY (b6 0) d3)) d3))) d3))) d3))) (lG 11) (ng (o8 (qg (F:=zx) (bY (b6 0) (bY (b6 11) d3)) wY) (lG 1))
  (ng (o8 (lz wN (xE (bY (lz wN (b6 6) (qg (F:=sy) (bY (b6 1) (bY (sW xJ (bY (b6 6) d3)) d3)) wY)) (bY (qg (F:=Cn) (bY (b6 1) d3) x5) d3))) (qg (F:=sy) (bY (b6 1) (bY (nD _) d3)) wY)) (lG 12))
  (ng (o8 (qg (F:=Cn) (bY (b6 1) d3) x5) (lG 13))
  (zd (F8 (uL (bY (uL (bY (b6 13) (bY (b6 12) d3))) (bY (uL (bY (b6 12) (bY (b6 13) d3))) (bY (uL (bY (b6 13) (bY (b6 13) d3))) d3))))) (lG 14) (wU (Li (Lh (qg (F:=DZ) (bY (b6 2) (bY (b6 4) (bY (lz sj (b6 14) (nD _)) (bY (lz sj (b6 14) (nD _)) (bY (qg (F:=D1) (bY (b6 4) (bY (lz sj (b6 14) (nD _)) (bY (lz sj (b6 14) (nD _)) d3))) UR) d3))))) Yc3))) (vQ (Dl _)) wR))))))
  (vQ (Dl _)))))))))) rfl h
end
def wg(hf:bP st f)(h0:0<n)(h1:n<1073741824):Wp (sy [.ref f,.int n] st) λd st'=>∃k:Int,d=.int k/\0<=k/\k<n/\bP st' f/\Ex [f] st st':=by obtain⟨o,m,e,o0,m0,m1⟩:=hf;have hfl:=ff e;refine Gj ?_;show Ws (GX [some (.ref f),some (.int n),none,none] st) _ _ _ _;unfold GX;refine aT (gP ?_);exists bO e,mC e;refine⟨λho=>?_,λho=>?_⟩;refine aT (bC ?_);exists bO e;refine⟨h0,aT (uk ?_)⟩;exists bO e,mC e,(show oV [D.int o,D.int m].length 0=some 0 from GB);refine⟨⟨h0,h1⟩,cK ?_⟩;w_how;refine⟨Zbd _ ⋯,Zbk _ h0,⟨o / n,m,?_,Int.ediv_nonneg o0 ⋯,m0,m1⟩,Ex.refl.put (by simp)⟩;rw[Zao hfl];refine ja (aT (bC ?_));exists bO e;refine⟨by lk,by lk,aT (uk ?_)⟩;exists bO e,mC e,(show oV [D.int o,D.int m].length 1=some 1 from GD);refine⟨by lk,by lk,cK ?_⟩;have e2:(st.set f (.lst [.int o,.int ((m*48271 % 2147483647*40692+30103) % 2147483399+1)]))[f]?=some (.lst [.int o,.int ((m*48271 % 2147483647*40692+30103) % 2147483399+1)]):=Zao hfl;exists bO e2;refine⟨by lk,by lk,h0,Zbd _ ⋯,Zbk _ h0,⟨_,_,e2,o0,by lk,by lk⟩,Ex.refl.put (by simp)⟩
def UY{st:Store}{a:Nat}{ns:List Int}{k:Nat}(hs:items st a=some (ns.map D.int))(hk:k<=100):Wp (zx [.ref a,.int (k:Int)] st) λd st'=>d=.ref st.length/\bP st' st.length/\Ex [] st st':=by
 refine Gj ?_;show Ws (GV [some (.ref a),some (.int (k:Int)),none,none] st) _ _ _ _;unfold GV;refine aT (bC ?_);w_how;refine⟨by lk,aT (zj (N:=λδ st1=>st1=st/\∃c:Int,δ=[some (.ref a),some (.int (k:Int)),some (.int c),none]) (gP ?_) ?_)⟩;exists hs;refine⟨λh=>bC ?_,λh=>gP ?_⟩;have h:=of_decide_eq_true h;rw[Zaa]at h;exists hs;refine⟨.int (ns[k]'⋯),yq (by rw[Zad,Zab];rfl),_,rfl⟩;exists hs;refine⟨λh=>bC ?_,λh=>ja ⟨rfl,_,rfl⟩⟩;have h:=of_decide_eq_true h;obtain⟨v,hv,hm⟩:=Av (xs:=ns.map D.int) (i:=(k:Int) % ((ns.map D.int).length:Int)) (Zbd _ ⋯) (Zbk _ h);obtain⟨c,_,rfl⟩:=Zau.mp hm;exists hs;refine⟨h,_,hv,?_⟩;w_how;exact⟨by lk,by lk,by lk,_,rfl⟩;rintro δ st1 ⟨rfl,c,rfl⟩;refine aT (bC ?_);w_how;refine aT (zj (N:=λδ st2=>st2=st1/\∃o:Int,0<=o/\δ=[some (.ref a),some (.int (k:Int)),some (.int c),some (.int o)]) (gP ?_) ?_);w_how;refine⟨by decide,λh=>bC ?_,λh=>ja ⟨rfl,0,by decide,rfl⟩⟩;have h:=of_decide_eq_true h;w_how;exact⟨c,Int.le_trans ∅ h,rfl⟩;rintro δ st2 ⟨rfl,o,o0,rfl⟩;refine cK ?_;w_how;have h1:0<=c % 2147483629:=Zbd _ ∅;have h2:c % 2147483629<2147483629:=Zbk _ ∅;refine⟨by lk,by lk,by lk,by lk,by lk,by rfl,⟨_,_,i7,o0,?_,?_⟩,Ex.cZ _⟩
 have:=Zbd ((c % 2147483629*48271+40692*(k:Int)) ^ (5:Int).toNat) (show(2147483629:Int)≠0 by decide)
 lk
 have:=Zbk ((c % 2147483629*48271+40692*(k:Int)) ^ (5:Int).toNat) (show(0:Int)<2147483629 by decide)
 lk
def UZ{st:Store}{f:Nat}{n:Nat}(hf:bP st f)(hn:n<=100):Wp (G0 [.ref f,.int (n:Int)] st) λd st'=>∃xs:List Int,d=.tup (xs.map D.int)/\ae.Tn n xs/\bP st' f/\Ex [f] st st':=by
 have hfl:=hf.lt;refine d6 ?_;intro qR;show Ws (GZ [some (.ref f),some (.int (n:Int)),none,none] st) _ _ _ _;unfold GZ;refine aT (bC ?_);w_how;have e1:((n:Int)-0).toNat=n:=by lk
 rw[e1,uo];refine⟨by unfold sr;rw[ZaB,decide_eq_true_eq];exact⟨by lk,nh ⋯⟩,aT (bC ?_)⟩;w_how;refine⟨rfl,aT (xO (λm δ st2=>∃L xs:List Int,m=L.length/\δ=[some (.ref f),some (.int (n:Int)),some (.ref (st ++ [O.lB 0 (n:Int)]).length),some (.tup (xs.map D.int))]/\st2[(st ++ [O.lB 0 (n:Int)]).length]?=some (.lst (L.map D.int))/\(xs ++ L).Perm (ae.upto n)/\bP st2 f/\Ex [f] st st2) n (ZaS hn ∅) ⟨ae.upto n,[],(ae.rj n).symm,rfl,i7,Zcf _,hf.keep ((Ex.cZ _).app _),(Ex.cZ _).app _⟩ ?_)⟩;have hl:(st ++ [O.lB 0 (n:Int)]).length≠f:=by rw[Zae];lk
 have hls:st.length<=(st ++ [O.lB 0 (n:Int)]).length:=by rw[Zae];lk
 generalize (st ++ [O.lB 0 (n:Int)]).length=l at hl hls ⊢;rintro m δ st2 ⟨L,xs,rfl,rfl,hL,pm,hf2,k2⟩;have hlen:(xs ++ L).length=n:=by rw[pm.length_eq,ae.rj]
 rw[Zae]at hlen;exists _,Z,TX (L:=L) (M:=[]) (st:=st2 ++ [O.lst []]) (bO (km hL)) rm;refine⟨rfl,Z _ _ ⟨λh=>?_,λh=>?_⟩⟩;have hne:L≠[]:=by simpa using h
 have hpos:0<L.length:=List.length_pos_iff.mpr hne;have Mr:(st2 ++ [O.lst []])[l]?=some (.lst (L.map D.int)):=km hL;have f3:bP (st2 ++ [O.lst []]) f:=hf2.keep (Ex.cZ _);have k3:Ex [f] st (st2 ++ [O.lst []]):=k2.app _;generalize (st2 ++ [O.lst []])=st3 at Mr f3 k3 ⊢;refine bC ?_;exists _,Z,bO Mr;refine⟨qh (by rw[bO Mr];rfl),?_⟩;refine aS (wg (n:=((L.map D.int).length:Int)) f3 (by rw[Zaa];lk) (by rw[Zaa];lk)) ?_;rintro d p6 ⟨k,rfl,k0,k1,f4,k4⟩;rw[Zaa]at k1;have U0:=k4.keep _ _ Mr (by simpa using hl);have qc:k.toNat<L.length:=by lk
 exists mC U0;have hk':((k.toNat:Nat):Int)=k:=ZaG k0;refine⟨by lk,k.toNat,?_,D.int L[k.toNat],by rw[Zad,Zab qc];rfl,rfl,nh ?_,Z _ _ ⟨(L.eraseIdx k.toNat).length,?_,L.eraseIdx k.toNat,xs ++ [L[k.toNat]],rfl,?_,?_,?_,?_,?_⟩⟩;rw[<- hk',Zan];exact(Ng (C9 (by rw[Zaa];exact qc))).1;simp only[Zaa,ZaE,Zcn];lk;rw[List.length_eraseIdx,if_pos qc];lk;rw[Zav];rfl;rw[Zao (ff U0),xcr];refine List.Perm.trans ?_ pm;rw[Zbx];exact List.Perm.append_left xs (Yb8 qc);exact f4.ne hl;exact(k3.trans k4).loc hls;have he:L=[]:=by simpa using h
 subst he;refine cK ?_;k_lt Z;exact Z _ _ ⟨xs,rfl,by simpa[ae.Tn]using pm,hf2.keep (Ex.cZ _),k2.app _⟩
def Xdu(tx:ae.Tn n xs)(ty:ae.Tn n ys)(n0:0<n)(hn:n<=100):Wp (Cd [b5 xs ys] st) λd st'=>∃(g:Nat) (F:List Int),d=.ref g/\items st' g=some (F.map D.int)/\(∀x,x∈F↔ae.lK xs ys x)/\F.length<=n/\ae.Od xs ys F/\Ex [] st st':=by
 have hlx:=tx.length;have D2:=ty.length;refine d6 ?_;intro qR;show Ws (G2 [some (b5 xs ys),none,none,none,none] st) _ _ _ _;unfold G2;refine aT (bC ?_);k_lt Z
 let iR:IV:=λi δ st2=>∃(v2 v3 v4:Option D) (F:List Int),δ=[some (b5 xs ys),some (.ref st.length),v2,v3,v4]/\st2[st.length]?=some (.lst (F.map D.int))/\ae.Fo xs ys F/\(ae.Cl xs ys F\/i+1<=F.length)/\Ex [] st st2
 refine⟨rfl,Z _ _ (aT (nE (aL 0 (n+1)) iR ?_ ?_ ?_ ?_))⟩;unfold b5;k_lt Z;have e0:((1:Int)+((xs.map D.int).length:Int)).toNat=n+1:=by rw[Zaa];lk
 refine⟨by rw[Zaa];lk,Z _ _ ⟨by rw[e0],none,none,none,[0],rfl,i7,ae.Fo.one xs ys,.inr (Zag _),Ex.cZ _⟩⟩;rw[gO];lk;rintro i d δ st2 hd ⟨v2,v3,v4,F,rfl,uN,hF,hcl,k2⟩;k_lt Z
 refine Z _ _ (nE [.tup (xs.map D.int),.tup (ys.map D.int)] (λm δ st3=>∃ (v3 v4:Option D) (G:List Int),δ=[some (b5 xs ys),some (.ref st.length),some d,v3,v4]/\st3[st.length]?=some (.lst (G.map D.int))/\ae.Fo xs ys G /\
   (m=0->G=F)/\(m=1->F <+: G/\∀x∈F,ae.app xs x∈G)/\(2<=m->∃F1,F <+: F1/\F1 <+: G/\(∀x∈F,ae.app xs x∈F1)/\∀x∈F1,ae.app ys x∈G)/\Ex [] st st3) ?_ (by simp) ?_ ?_)
 unfold b5;k_lt Z;exact Z _ _ ⟨rfl,v3,v4,F,rfl,uN,hF,λ_=>rfl,λz=>by lk,λz=>by lk,k2⟩;rintro m z δ st3 hm ⟨v3,v4,G,rfl,wj,hG,m0,m1,_,k3⟩;have hm2:m<2:=ff hm;obtain⟨zs,rfl,hz,em⟩:∃(zs:List Int),z=.tup (zs.map D.int)/\(zs=xs\/zs=ys)/\((m=0/\zs=xs)\/(m=1/\zs=ys)):=by
  rcases(show m=0\/m=1 by lk)with rfl|rfl
  exact⟨xs,by simpa using hm.symm,.inl rfl,.inl ⟨rfl,rfl⟩⟩;exact⟨ys,by simpa using hm.symm,.inr rfl,.inr ⟨rfl,rfl⟩⟩
 have tz:ae.Tn n zs:=by rcases hz with rfl|rfl;exact tx;exact ty
 have U1:=tz.length;have go:∀x,ae.lK xs ys x->ae.lK xs ys (ae.app zs x):=λx h=>by rcases hz with rfl|rfl;exact h.r;exact h.u
 k_lt Z
 let wm:IV:=λj δ p6=>∃(v4:Option D) (G':List Int),δ=[some (b5 xs ys),some (.ref st.length),some d,some (.tup (zs.map D.int)),v4]/\p6[st.length]?=some (.lst (G'.map D.int))/\p6[st3.length]?=some (.lst (G.map D.int))/\ae.Fo xs ys G'/\G <+: G'/\(∀i',i' < j->∀x,G[i']?=some x->ae.app zs x∈G')/\Ex [] st p6
 refine Z _ _ (TF (G.map D.int) st3.length wm ?_ ?_ ?_ ?_ ?_);exists _,Z,bO wj;exact Z _ _ ⟨rfl,v4,G,rfl,km wj,i7,hG,Zcj _,λi' h=>absurd h (Za0 _),k3.app _⟩;rw[Zaa]
 have:=hG.len tx ty n0;lk
 rintro j δ p6 ⟨_,_,_,_,h,_⟩;exact bO h;rintro j y0' δ p6 hj0 ⟨v4,G',rfl,Cp,D3,Cq,pG,hd',k4⟩;obtain⟨y,hj,rfl⟩:=GF hj0;have hjl:=ff hj;have hR:=hG.mt _ (Zai hj);obtain⟨y0,y1⟩:=hR.bound tx ty n0;have at':=sv (xs:=zs) y0 (by rw[U1];exact y1);have hnext:∀Ms:List Int,G' <+: Ms->ae.app zs y∈Ms->∀i',i' < j+1->∀x,G[i']?=some x->ae.app zs x∈Ms:=λMs p h i' hi' x hx=>by
  by_cases e:i'=j;subst e;rw[hj]at hx;cases hx;exact h;exact p.subset (hd' i' ⋯ x hx)
 k_lt Z;refine Z _ _ (gP ?_);exists _,cL,at',zp (st:=p6) (c:=.ref st.length) (ns:=G') (bO Cp);refine cL _ _ ⟨λhcn=>?_,λhcn=>?_⟩;have hnm:ae.app zs y ∉ G':=λz=>by rw[ZaQ.mpr z]at hcn;cases hcn
 have U2:ae.Fo xs ys (G' ++ [ae.app zs y]):=by
  refine⟨⟨Zbv _ Cq.z,?_,λx hx=>?_⟩,Cq.od.snoc (pG.subset (Zai hj)) (hz.imp (λe=>by rw[e]) λe=>by rw[e])⟩;rw[Zb7];refine⟨Cq.nd,by simp,λx hx y' hy e=>hnm ?_⟩;have e2:y'=ae.app zs y:=by simpa using hy
  rw[<- e2,<- e];exact hx;rcases ZaA.mp hx with h|h
  exact Cq.mt x h;have e2:x=ae.app zs y:=by simpa using h
  rw[e2];exact go _ hR
 have hlen2:=U2.len tx ty n0;rw[Zae]at hlen2;refine su ?_;exists _,wo,at',mC Cp;refine⟨qh (by rw[bO Cp];rfl),nh (by rw[Zaa];simp at hlen2;lk),wo _ _ ⟨_,G' ++ [ae.app zs y],rfl,?_,?_,U2,pG.trans (Zc4 _ _),hnext _ (Zc4 _ _) (by simp),k4.loc (Zag _)⟩⟩;rw[Zao (ff Cp),Zav];rfl;rw[Zat (by have:=ff wj;lk)];exact D3;have hcn:G'.contains (ae.app zs y)=true:=by simpa using hcn
 exact ja ⟨_,G',rfl,Cp,D3,Cq,pG,hnext G' (Zcj _) (ZaQ.mp hcn),k4⟩;rintro δ p6 ⟨v4,G',rfl,Cp,D3,Cq,pG,hd',k4⟩;rw[Zaa]at hd';have hall:∀x∈G,ae.app zs x∈G':=λx hx=>by
  obtain⟨i',hi',e⟩:=ZbF hx;exact hd' i' hi' x (by rw[Zab hi',e])
 refine⟨_,_,G',rfl,Cp,Cq,λz=>by lk,λz=>?_,λz=>?_,k4⟩;rcases em with⟨rfl,rfl⟩|⟨rfl,_⟩
 have:=m0 rfl
 subst this;exact⟨pG,hall⟩;lk;rcases em with⟨rfl,_⟩|⟨rfl,rfl⟩
 lk;obtain⟨p1,c1⟩:=m1 rfl;exact⟨G,p1,pG,c1,hall⟩;rintro δ st3 ⟨v3,v4,G,rfl,wj,hG,_,_,m2,k3⟩;obtain⟨F1,p1,p2,c1,c2⟩:=m2 (Zag 2);exact⟨_,_,_,G,rfl,wj,hG,ae.round hF.toFd hG.toFd p1 p2 c1 c2 hcl,k3⟩;rintro δ st2 ⟨v2,v3,v4,F,rfl,uN,hF,hcl,k2⟩;rw[gO]at hcl;have hl:=hF.len tx ty n0;have hc:ae.Cl xs ys F:=hcl.resolve_right ⋯;refine cK ?_;k_lt Z;exact Z _ _ ⟨_,F,rfl,bO uN,λx=>⟨hF.mt x,λh=>hc.all hF.z h⟩,hl,hF.od,k2⟩
def Yc4(tx:ae.Tn n xs)(ty:ae.Tn n ys)(n0:0<n)(hn:n<=100):Wp (Cd [b5 xs ys] st) λd st'=>∃(g:Nat) (F:List Int),d=.ref g/\items st' g=some (F.map D.int)/\(∀x,x∈F↔ae.lK xs ys x)/\F.length<=n/\Ex [] st st' :=
 aS (Xdu tx ty n0 hn) λd st' ⟨g,F,h1,h2,h3,h4,_,h5⟩=>⟨g,F,h1,h2,h3,h4,h5⟩
def U3(tX:ae.Tn n X)(tY:ae.Tn n Y)(n0:0<n)(hn:n<=100)(h1:δ[1]?=some (some (.int (n:Int))))(h6:δ[6]?=some (some (b5 X Y)))
  (q:∀(L:List Int) (st':Store),L.length<=n->L.Nodup->(∀x,x∈L↔(0<=x/\x<(n:Int)/\¬ae.lK X Y x))->Ex [] st st'->Q (.ref st'.length) (st' ++ [.lst (L.map D.int)])) :
  Wp (cu (b9 (af (ag 1) ah)) 1 [6] (hName 0) (aH (av (rP true) (ag 0) (aM Cd (af (ag 1) ah)))) (ag 0) δ st) Q:=by
 have h6':δ.getD 6 none=some (b5 X Y):=by rw[Zah,h6];rfl
 refine Gk (aL 0 n) (λj zs δ' lI=>∃(v:Option D) (L:List Int),δ'=[v,some (b5 X Y)]/\zs=L.map D.int/\L.length<=j/\L.Nodup/\(∀x,x∈L↔(0<=x/\x<(j:Int)/\¬ae.lK X Y x))/\Ex [] st lI) ?_ (by rw[gO];lk) ?_ ?_ ?_;exists _,Z,h1;refine⟨by lk,Z _ _ ⟨λi ys δ st hi _=>?_,none,[],?_,rfl,Zag _,List.nodup_nil,λx=>⟨(λh=>nomatch h),λh=>by lk⟩,Ex.refl⟩⟩;rw[Zan];show(if i<=(aL 0 n).length then some (aL 0 n)[i]? else none)=_;rw[if_pos hi];unfold rR;simp only[ZaD,Za6,h6'];rfl;rintro j zs δ' lI ⟨v,L,_,rfl,hl,_⟩;rw[Zaa];exact hl;rintro j d zs δ' lI hd ⟨v,L,rfl,rfl,pZ,nd,hL,k8⟩;have hjl:=ff hd;rw[gO]at hjl;rw[xN hjl]at hd;cases hd;rw[Zbq];k_lt Z;refine Z _ _ ?_;k_lt cL;refine aS (Yc4 (st:=lI) tX tY n0 hn) ?_;rintro d rS ⟨g,F,rfl,hg,hF,hFl,k9⟩;rw[zp (c:=.ref g) (ns:=F) hg];refine⟨_,rfl,cL _ _ ⟨λhc=>?_,λhc=>?_⟩⟩;have hR:¬ae.lK X Y (j:Int):=λh=>by rw[ZaQ.mpr ((hF _).mpr h)]at hc;cases hc
 k_lt wo;refine wo _ _ ⟨_,L ++ [(j:Int)],rfl,by rw[Zav];rfl,by rw[Zae];simp;lk,?_,λx=>?_,k8.trans k9⟩;rw[Zb7];refine⟨nd,by simp,λx hx y hy e=>?_⟩;have e2:y=(j:Int):=by simpa using hy
 have:=((hL x).mp hx).2.1;lk
 rw[ZaA,hL x];constructor;rintro(⟨a1,a2,a3⟩|h);exact⟨a1,by lk,a3⟩;have e2:x=(j:Int):=by simpa using h
 rw[e2];exact⟨by lk,by lk,hR⟩;rintro⟨a1,a2,a3⟩;rcases Int.lt_or_le x (j:Int)with h|h
 exact .inl ⟨a1,h,a3⟩;exact .inr (by simp;lk);have hc:F.contains (j:Int)=true:=by simpa using hc
 have hR:=(hF _).mp (ZaQ.mp hc);refine⟨_,L,rfl,rfl,by lk,nd,λx=>?_,k8.trans k9⟩;rw[hL x];constructor;rintro⟨a1,a2,a3⟩;exact⟨a1,by lk,a3⟩;rintro⟨a1,a2,a3⟩;refine⟨a1,?_,a3⟩;rcases Int.lt_or_le x (j:Int)with h|h
 exact h;exact absurd hR (by rw[show(j:Int)=x by lk];exact a3);rintro zs δ' lI ⟨v,L,rfl,rfl,pZ,nd,hL,k8⟩;rw[gO]at pZ hL;exact q L lI pZ nd hL k8
abbrev Ev(f:ao->Dm D)(δ:ao)(d:D):Prop:=∀st,f δ st=some (d,st)
abbrev Mk(f:ao->Dm D)(δ:ao)(xs:List D):Prop:=∀st,∃r st',f δ st=some (.ref r,st')/\Ex [] st st'/\st.length<=r/\st'[r]?=some (.lst xs)
section
variable {δ:ao}{f g fa fb:ao->Dm D}{xs ys:List D}{d:D}{i j:Int}{st:Store}
def uz(h:δ[k]?=some (some d)):Ev (ag k) δ d:=λst=>by unfold ag;rw[h]
def qY:Ev (fC d) δ d:=λ_=>rfl
def Cr(a:Ev fa δ (.int i))(b:Ev fb δ (.int j)):Ev (av dh fa fb) δ (.int (i+j)):=λst=>by unfold av;rw[a];show bnd (fb δ st) _=_;rw[b];rfl
def Ev.wp(a:Ev f δ d)(q:Q d st):Wp (f δ st) Q:=⟨d,st,a st,q⟩
def Mk.wp(a:Mk f δ xs)(q:∀r st',Ex [] st st'->st.length<=r->st'[r]?=some (.lst xs)->Q (.ref r) st'):Wp (f δ st) Q :=
 let ⟨r,s,e,h1,h2,h3⟩:=a st;⟨_,s,e,q r s h1 h2 h3⟩
def Mt(h:∀st,Wp (f δ st) λd s=>∃r,d=.ref r/\Ex [] st s/\st.length<=r/\s[r]?=some (.lst xs)):Mk f δ xs:=λst =>
 let ⟨_,s,e,r,e2,q⟩:=h st;⟨r,s,e2 ▸ e,q⟩
def U4(h:∀st,Wp (aM gr fr δ st) λd s=>d=.ref st.length/\s=st ++ [.lB i j])(ok:sr i j=true):Mk (aM c5 (af (aM gr fr) ah)) δ (aL i (j-i).toNat):=Mt λst=>by
 rw[Lr,zg];refine aS (h st) ?_;rintro d s ⟨rfl,rfl⟩;w_how;exact⟨ok,(Ex.cZ _).app _,by rw[Zae];exact ZcG _ _,i7⟩
def D4(a:Ev fa δ (.int i))(b:Ev fb δ (.int j))(ok:sr i j=true):Mk (aM c5 (af (aM fE (af fa (af fb ah))) ah)) δ (aL i (j-i).toNat):=by refine U4 (λst=>?_) ok;rw[Lr,zg];refine a.wp ?_;rw[zg];refine b.wp ?_;w_how
def U5(b:Ev fb δ (.int j))(ok:sr 0 j=true):Mk (aM c5 (af (aM gM (af fb ah)) ah)) δ (aL 0 (j-0).toNat):=by refine U4 (λst=>?_) ok;rw[Lr,zg];refine b.wp ?_;w_how
def JS(a:Ev fa δ d):Mk (cO (af fa ah)) δ [d]:=Mt λst=>by
 rw[Tw,zg];refine a.wp ?_;w_how;exact⟨rfl,Ex.cZ _,Zag _,i7⟩
def Cs(a:Mk f δ xs)(b:Mk g δ ys)(l:xs.length+ys.length<=100000):Mk (av pV f g) δ (xs ++ ys):=Mt λst=>by
 rw[zf];refine a.wp λr s e h hr=>b.wp λr2 s2 e2 h2 hr2=>TC.mpr ⟨xs,ys,mC (e2.keep _ _ hr (by simp)),mC hr2,nh l,_,rfl,(e.trans e2).app _,Zal e.len e2.len,i7⟩
def JT(a:Mk f δ xs)(b:Ev fb δ (.int j)):Mk (Dp vN f n4 (qx fb)) δ (cutD xs none (some j)):=Mt λst=>by
 rw[zi];refine a.wp λr s e h hr=>?_;rw[Tx,Tz];refine b.wp ⟨_,rfl,TB.mpr ⟨xs,bO hr,_,rfl,e.app _,e.len,i7⟩⟩
end
def Ct(h:sx ny st f r u n X Y)(e:Ex [] st st')(hl:st.length<=r')(hr:st'[r']?=some (.lst (Z.map D.int)))(t:ae.Tn n Z):sx ny st' f r' u n Z Y:=⟨hr,e.keep _ _ h.hu (by simp),λz=>Zba _ (ZaI (ff h.hu) (z ▸ hl)),Zal h.ex.len hl,h.u0,t,h.tY,h.fd.keep e,h.ex.trans e.any⟩
def Cu(h:sx ny st f r u n X Y)(e:Ex [] st st')(hl:st.length<=u')(hr:st'[u']?=some (.lst (Z.map D.int)))(t:ae.Tn n Z):sx ny st' f r u' n X Z:=⟨e.keep _ _ h.hr (by simp),hr,λz=>Zba _ (ZaI (ff h.hr) (z ▸ hl)),h.r0,Zal h.ex.len hl,h.tX,t,h.fd.keep e,h.ex.trans e.any⟩
def U6{st:Store}{f n:Nat}(hf:bP st f)(n1:1<=n)(n20:n<=20):Wp (G6 [.ref f,.int (n:Int)] st) λd st'=>∃xs ys:List Int,d=b5 xs ys/\pX n xs ys/\bP st' f/\Ex [f] st st':=by
 have hfl:=hf.lt;refine d6 ?_;intro qR;show Ws (G5 [some (.ref f),some (.int (n:Int)),none,none,none,none,none,none,none] st) _ _ _ _;unfold G5;refine aT (bC ?_);k_lt Z;refine aS (wg (n:=6) hf ∅ ∅) ?_;rintro d st1 ⟨form,rfl,g0,g6,f1,k1⟩;refine Z _ _ (aT (Dz ?_));k_lt2 Z;refine aS (UZ (n:=n) f1 ⋯) ?_;rintro d st2 ⟨X,rfl,tX,f2,k2⟩;w_how;refine aS (UZ (n:=n) (f2.keep (Ex.cZ [.lst (X.map D.int)])) ⋯) ?_;rintro d st3 ⟨Y,rfl,tY,f3,k3⟩;w_how;refine Z _ _ ⟨_,_,rfl,?_⟩;clear Z;have rT:st3[st2.length]?=some (.lst (X.map D.int)):=k3.keep _ _ i7 (by have:=f2.lt;simp;lk);have two:sx st (st3 ++ [.lst (Y.map D.int)]) f st2.length st3.length n X Y:=⟨km rT,i7,by have:=ff rT;lk,(k1.trans k2).len,((k1.trans k2).trans ((Ex.cZ _).trans k3)).len,tX,tY,f3.keep (Ex.cZ _),(((k1.trans k2).app _).trans k3).app _⟩;show Ws _ _ _ _ _;generalize (st3 ++ [O.lst (Y.map D.int)])=p6 at two ⊢;generalize st2.length=r at two ⊢;generalize st3.length=u at two ⊢;clear rT tX tY f3 k3 f2 k2 f1 k1
 let iR:IN:=λδ qq=>∃(r u:Nat) (X Y:List Int),δ=[some (.ref f),some (.int (n:Int)),some (.int form),some (.ref r),some (.ref u),none,none,none,none]/\sx st qq f r u n X Y
 refine aT (zj (N:=iR) (gP ?_) ?_);k_lt Z;refine Z _ _ ⟨λ_=>bC ?_,λ_=>ja ⟨r,u,X,Y,rfl,two⟩⟩;have m:=Cs (D4 (δ:=[some (.ref f),some (.int (n:Int)),some (.int form),some (.ref r),some (.ref u),none,none,none,none]) (qY (d:=.int 1)) (uz (k:=1) rfl) (wV ⋯)) (JS (qY (d:=.int 0))) (by rw[gO];simp;lk);rw[<- TY]at m;exact m.wp λr' s' e hl hr=>⟨r',u,_,Y,rfl,Ct two e hl hr (ae.R1 (show n<21 by lk) ⋯)⟩;rintro δ qq ⟨r,u,X,Y,rfl,two⟩
 let wm:IN:=λδ qq=>∃(r u:Nat) (X Y:List Int),δ=[some (.ref f),some (.int (n:Int)),some (.int form),some (.ref r),some (.ref u),none,none,none,none]/\sx st qq f r u n X Y
 refine aT (zj (N:=wm) (gP ?_) ?_);k_lt Z;refine Z _ _ ⟨λ_=>Dz ?_,λ_=>ja ⟨r,u,X,Y,rfl,two⟩⟩;have m:=Cs (D4 (δ:=[some (.ref f),some (.int (n:Int)),some (.int form),some (.ref r),some (.ref u),none,none,none,none]) (qY (d:=.int 1)) (uz (k:=1) rfl) (wV ⋯)) (JS (qY (d:=.int 0))) (by rw[gO];simp;lk);rw[<- TY]at m;have m2:=U5 (δ:=[some (.ref f),some (.int (n:Int)),some (.int form),some (.ref r),some (.ref u),none,none,none,none]) (uz (k:=1) rfl) (wV ⋯);rw[show((n:Int)-0).toNat=n by lk,uo]at m2;rw[zg];refine m2.wp λr' s' e hl hr=>?_;rw[zg];refine m.wp λu' s2 e2 hl2 hr2=>?_;rw[Tv];exact⟨_,_,rfl,r',u',_,_,rfl,Cu (Ct two e hl hr (Zcf _)) e2 hl2 hr2 (ae.R1 (show n<21 by lk) ⋯)⟩;rintro δ OO ⟨r,u,X,Y,rfl,two⟩
 let pv2:IN:=λδ qq=>∃(r u:Nat) (v5:Option D) (X Y:List Int),δ=[some (.ref f),some (.int (n:Int)),some (.int form),some (.ref r),some (.ref u),v5,none,none,none]/\sx st qq f r u n X Y
 refine aT (zj (N:=pv2) (gP ?_) ?_);k_lt Z;refine Z _ _ ⟨λ_=>aT (bC ?_),λ_=>ja ⟨r,u,none,X,Y,rfl,two⟩⟩;k_lt cL;refine aS (wg (n:=(n:Int)) two.fd ⋯ ⋯) ?_;rintro d uJ ⟨w,rfl,w0,w1,f7,k7⟩;obtain⟨wd,rfl⟩:∃wd:Nat,w=(wd:Int)-1:=⟨(w+1).toNat,by lk⟩;have t7:sx st uJ f r u n X Y:=⟨k7.keep _ _ two.hr (by have:=two.r0;simp;lk),k7.keep _ _ two.hu (by have:=two.u0;simp;lk),two.ne,two.r0,two.u0,two.tX,two.tY,f7,two.ex.trans k7⟩;w_how;rw[show(1:Int)+((wd:Int)-1)=(wd:Int) by lk];refine cL _ _ (aT (bC ?_));clear cL Z;have m:=Cs (Cs (D4 (δ:=[some (.ref f),some (.int (n:Int)),some (.int form),some (.ref r),some (.ref u),some (.int (wd:Int)),none,none,none]) (qY (d:=.int 1)) (uz (k:=5) rfl) (wV ⋯)) (JS (qY (d:=.int 0))) (by rw[gO];simp;lk)) (D4 (uz (k:=5) rfl) (uz (k:=1) rfl) (wV ⋯)) (by rw[Zae,gO,gO];simp;lk);rw[<- BR]at m;refine m.wp λr8 lI e8 U7 U8=>aT (bC ?_);have t8:=Ct t7 e8 U7 U8 (ae.YI (w:=wd) (show n<21 by lk) ⋯ ⋯);clear m e8 U7 U8;have m:=JT (Cs (Cs (Cs (JS (uz (δ:=[some (.ref f),some (.int (n:Int)),some (.int form),some (.ref r8),some (.ref u),some (.int (wd:Int)),none,none,none]) (k:=5) rfl)) (D4 (qY (d:=.int 1)) (uz (k:=5) rfl) (wV ⋯)) (by simp[gO];lk)) (D4 (Cr (uz (k:=5) rfl) (qY (d:=.int 1))) (uz (k:=1) rfl) (wV ⋯)) (by simp[gO];lk)) (JS (qY (d:=.int 0))) (by simp[gO];lk)) (uz (k:=1) rfl);refine m.wp λuE Pt eE hlE U9=>gP ?_;clear m;have tE:=t8.keep eE;k_lt Z;refine Z _ _ ⟨λhw=>?_,λhw=>?_⟩;refine bC ?_;have m2:=U5 (δ:=[some (.ref f),some (.int (n:Int)),some (.int form),some (.ref r8),some (.ref uE),some (.int (wd:Int)),none,none,none]) (uz (k:=1) rfl) (wV ⋯);rw[show((n:Int)-0).toNat=n by lk,uo]at m2;exact m2.wp λu' s' e hl hr=>⟨r8,u',_,_,_,rfl,Cu tE e hl hr (Zcf _)⟩;have hne:wd≠n:=λz=>by simp[z]at hw
 rw[<- BS ⋯ ⋯]at U9;exact ja ⟨r8,uE,_,_,_,rfl,Cu t8 eE hlE U9 (ae.YJ (w:=wd) (show n<21 by lk) ⋯ ⋯)⟩;rintro δ uJ ⟨r,u,v5,X,Y,rfl,two⟩;have n0:0<n:=by lk
 refine aT (bC ?_);exists _,Z,bO two.hr,bO two.hu;refine⟨rfl,Z _ _ (aT (bC (U3 (X:=X) (Y:=Y) two.tX two.tY n0 ⋯ rfl rfl ?_)))⟩;clear Z;intro L lI pZ nd hL k8;have t8:=(two.keep k8).keep (Ex.cZ [.lst (L.map D.int)])
 let pv3:IV:=λmm δ rS=>∃(pa:Nat) (X L:List Int) (v8:Option D),mm=L.length/\δ=[some (.ref f),some (.int (n:Int)),some (.int form),some (.ref r),some (.ref u),v5,some (b5 X Y),some (.ref pa),v8]/\sx st rS f r u n X Y/\items rS pa=some (L.map D.int)/\L.length<=n/\L.Nodup/\(∀x,x∈L↔(0<=x/\x<(n:Int)/\¬ae.lK X Y x))
 refine aT (xO pv3 L.length (ZaS pZ (ZaS n20 ∅)) ⟨_,X,L,none,rfl,rfl,t8,rm,pZ,nd,hL⟩ ?_);rintro mm δ rS ⟨pa,X,L,v8,rfl,rfl,two,hpa,pZ,nd,hL⟩;have hlX:=two.tX.length;have Cv:items (rS ++ [O.lst []]) pa=some (L.map D.int):=by
  unfold items at hpa ⊢;cases e:rS[pa]? with
  |none=>rw[e]at hpa;cases hpa
  |some o=>rw[km e];rw[e]at hpa;exact hpa
 exists _,Z,TX (L:=L) (M:=[]) (st:=rS ++ [O.lst []]) Cv rm;refine⟨rfl,Z _ _ ⟨λh=>?_,λh=>?_⟩⟩;have hne:L≠[]:=by simpa using h
 clear Z;obtain⟨m,L1,rfl⟩:∃m L1,L=m :: L1:=by cases L with|nil=>exact absurd rfl hne|cons m L1=>exact⟨m,L1,rfl⟩
 obtain⟨m0,m1,mR⟩:=(hL m).mp Zaj;have t2:=two.keep (Ex.cZ [O.lst []]);generalize (rS ++ [O.lst []])=Pt at Cv t2 ⊢;refine aT (bC ?_);exists _,Z,Cv,ZaD;refine Z _ _ (aT (uk ?_));clear Z;exists _,Z,bO t2.hr,sv (xs:=X) m0 ⋯,sv (xs:=X) (i:=0) ∅ ⋯;refine⟨rfl,Z _ _ ?_⟩;clear Z;have i0:oV (X.map D.int).length 0=some 0:=C9 (j:=0) (by rw[Zaa];lk);have im:oV ((X.map D.int).set 0 (.int (ae.app X m))).length m=some m.toNat:=by
  rw[Zbc];have:=C9 (n:=(X.map D.int).length) (j:=m.toNat) (by rw[Zaa];lk)
  rwa [ZaG m0]at this
 have rT:(Pt.set r (.lst ((X.map D.int).set 0 (.int (ae.app X m)))))[r]?=some (.lst ((X.map D.int).set 0 (.int (ae.app X m)))):=Zao (ff t2.hr);have eS:((X.map D.int).set 0 (.int (ae.app X m))).set m.toNat (.int (ae.app X 0))=(ae.qk X m.toNat).map D.int:=by
  unfold ae.qk;rw[ZaG m0,List.map_set,List.map_set]
 exists _,Z,mC t2.hr,mC rT,i0,im,eS;refine⟨rfl,Z _ _ (aT (bC ?_))⟩;clear Z;have tS:=ae.AU t2.tX (m:=m.toNat) ⋯;have hmet:=ae.YD t2.tX t2.tY (m:=m.toNat) ⋯ (by rw[ZaG m0];exact mR);rw[ZaG m0]at hmet;rw[List.set_set];have t3:=t2.put (Z:=ae.qk X m.toNat) tS hfl;generalize Pt.set r _=st3 at t3 ⊢;exists _,Z,bO t3.hr,bO t3.hu;refine⟨rfl,Z _ _ (bC (U3 (X:=ae.qk X m.toNat) (Y:=Y) t3.tX t3.tY n0 ⋯ rfl rfl ?_))⟩;intro L' p6 Pu Va hL' k4;refine⟨_,?_,p6.length,ae.qk X m.toNat,L',_,rfl,rfl,(t3.keep k4).keep (Ex.cZ _),rm,Pu,Va,hL'⟩;refine ae.less (m:=m) Va (λx hx=>?_) Zaj (λh=>((hL' m).mp h).2.2 hmet.1);obtain⟨a1,a2,a3⟩:=(hL' x).mp hx;exact(hL x).mpr ⟨a1,a2,λh=>a3 (hmet.2 x h)⟩;have he:L=[]:=by simpa using h
 subst he;refine cK ?_;k_lt cL;have t2:=two.keep (Ex.cZ [O.lst []]);refine cL _ _ ⟨X,Y,rfl,⟨t2.tX,t2.tY,λx x0 x1=>?_⟩,t2.fd,t2.ex⟩;exact Classical.byContradiction λh=>nomatch (hL x).mpr ⟨x0,x1,h⟩
def Pw(tn:ae.Tn n xs)(hn:n<=100):Wp (DM [.tup (xs.map D.int)] st) λd st'=>d=.tup ((ae.inv xs).map D.int)/\Ex [] st st':=by
 have hlen:=tn.length;refine d6 ?_;intro qR;show Ws (Ho [some (.tup (xs.map D.int)),none,none,none] st) _ _ _ _;unfold Ho;refine aT (bC ?_);k_lt Z;have e0:(((xs.map D.int).length:Int)).toNat=n:=by rw[Zaa];lk
 have ez:(List.replicate n [D.int 0]).flatten=(List.replicate n (0:Int)).map D.int:=by
  induction n with
  |zero=>rfl
  |succ n ih=>simp[Za8]
 rw[e0,ez];refine⟨rfl,by rw[Zaa];lk,nh (by simp;lk),Z _ _ (aT (nE (fY (xs.map D.int)) (λk δ st2=>∃(v2 v3:Option D) (bs:List Int),δ=[some (.tup (xs.map D.int)),some (.ref (st ++ [O.lst [D.int 0]]).length),v2,v3]/\st2[(st ++ [O.lst [D.int 0]]).length]?=some (.lst (bs.map D.int))/\bs.length=n/\(∀j,j<k->∀x,xs[j]?=some x->bs[x.toNat]?=some (j:Int))/\Ex [] st st2) ?_ ?_ ?_ ?_))⟩;k_lt Z;exact Z _ _ ⟨rfl,none,none,_,rfl,i7,by simp,λj hj=>absurd hj (Za0 _),(Ex.cZ _).app _⟩;rw[F9,Zaa];lk;have JU:st.length<=(st ++ [O.lst [D.int 0]]).length:=by simp
 generalize (st ++ [O.lst [D.int 0]]).length=B at JU ⊢;rintro k d δ st2 hd ⟨v2,v3,bs,rfl,hB,rK,ya,k2⟩;obtain⟨d',hd',rfl⟩:=OM hd;obtain⟨x,hx,rfl⟩:=GF hd';obtain⟨x0,x1⟩:=tn.bound (Zai hx);have qc:=ff hx;k_lt Z;refine⟨rfl,Z _ _ (uk ?_)⟩;have hix:oV (bs.map D.int).length x=some x.toNat:=by
  have:=C9 (n:=(bs.map D.int).length) (j:=x.toNat) (by rw[Zaa];lk)
  rwa [ZaG x0]at this
 have es:(bs.map D.int).set x.toNat (.int (k:Int))=(bs.set x.toNat (k:Int)).map D.int:=by rw[List.map_set]
 k_lt cL;refine cL _ _ ?_;exists _,wo,mC hB,hix,es;refine wo _ _ ⟨_,_,bs.set x.toNat (k:Int),rfl,Zao (ff hB),by rw[Zbc];exact rK,λj hj y hy=>?_,k2.loc JU⟩;by_cases hjk:j=k;subst hjk;rw[hx]at hy;cases hy;rw[Zao (by rw[rK];lk)];obtain⟨y0,y1⟩:=tn.bound (Zai hy);rw[Zat (λz=>?_)];exact ya j ⋯ y hy;obtain⟨h1,e1⟩:=Zac.mp hx;obtain⟨h2,e2⟩:=Zac.mp hy;exact hjk ((List.getElem_inj tn.nodup).mp (show xs[j]=xs[k] by lk));rintro δ st2 ⟨v2,v3,bs,rfl,hB,rK,ya,k2⟩;rw[F9,Zaa]at ya;have eb:bs=ae.inv xs:=by
  apply Zby
  intro i;by_cases hi:i<n;have hm:=tn.mem (i:=(i:Int)) ⋯ ⋯;have hil:=Zbe hm;have:=ya (xs.idxOf (i:Int)) hil (i:Int) (by rw[Zab hil];exact congrArg some (Zbs hil));rw[Zan]at this;rw[this];have ea:=ae.rL (xs:=ae.inv xs) (i:=(i:Int)) ⋯ (by rw[ae.Fy];lk);rw[Zan,ae.KY ⋯ ⋯]at ea;exact ea.symm;rw[ZaO ⋯,ZaO (by rw[ae.Fy];lk)]
 subst eb;refine cK ?_;exists _,Z,bO hB;exact Z _ _ ⟨rfl,k2⟩
def D5(hb:∀x∈xs,0<=x/\x<(ys.length:Int))(hn:xs.length<=100):Wp (x6 [.tup (xs.map D.int),.tup (ys.map D.int)] st) λd st'=>d=.tup ((ae.a5 xs ys).map D.int)/\Ex [] st st':=by refine d6 ?_;intro qR;show Ws (Hr [some (.tup (xs.map D.int)),some (.tup (ys.map D.int))] st) _ _ _ _;unfold Hr;refine cK ?_;k_lt Z;refine vX (xs.map D.int) (λd=>.int (ae.app ys (inD d))) ?_ (by rw[Zaa];lk) ?_ ?_;k_lt cL;exact cL _ _ ⟨sX _ _,Ex.refl⟩;intro d hd st1 k1;obtain⟨x,hx,rfl⟩:=BU hd;obtain⟨x0,x1⟩:=hb x hx;exists _,cL,ZaD,Za6,Za1,Za2,sv (xs:=ys) x0 x1;exact cL _ _ ⟨rfl,Ex.refl⟩;intro st' k';rw[GG (f:=ae.app ys) λx hx=>rfl];w_how;exact Z _ _ ⟨rfl,k'.app _⟩
def xcb(tx:ae.Tn n xs)(ty:ae.Tn n ys)(tp:ae.Tn n p)(hn:n<=100):Wp (LL [b5 xs ys,.tup (p.map D.int)] st) λd st'=>d=b5 (ae.anew xs p) (ae.anew ys p)/\Ex [] st st':=by have hlx:=tx.length;have D2:=ty.length;have Vb:=tp.length;have ti:=tp.aG;have hli:=ti.length;refine d6 ?_;intro qR;show Ws (Ht [some (b5 xs ys),some (.tup (p.map D.int)),none,none,none] st) _ _ _ _;unfold Ht b5;refine aT (bC ?_);k_lt Z;refine aS (Pw tp hn) ?_;rintro d st1 ⟨rfl,k1⟩;refine Z _ _ (aT (bC ?_));k_lt2 Z;refine aS (D5 (xs:=ae.inv p) (ys:=xs) (λx hx=>by rw[hlx];exact ti.bound hx) ⋯) ?_;rintro d st2 ⟨rfl,k2⟩;refine aS (D5 (xs:=ae.a5 (ae.inv p) xs) (ys:=p) (λx hx=>by rw[Vb];exact(ti.a5 tx).bound hx) (by rw[ae.FC];lk)) ?_;rintro d st3 ⟨rfl,k3⟩;refine Z _ _ (aT (bC ?_));k_lt2 Z;refine aS (D5 (xs:=ae.inv p) (ys:=ys) (λx hx=>by rw[D2];exact ti.bound hx) ⋯) ?_;rintro d p6 ⟨rfl,k4⟩;refine aS (D5 (xs:=ae.a5 (ae.inv p) ys) (ys:=p) (λx hx=>by rw[Vb];exact(ti.a5 ty).bound hx) (by rw[ae.FC];lk)) ?_;rintro d qq ⟨rfl,k5⟩;refine Z _ _ (cK ?_);k_lt2 Z;exact⟨rfl,Z _ _ ⟨rfl,(((k1.trans k2).trans k3).trans k4).trans k5⟩⟩
def Vc:(!F.contains x)=true->ae.cN F x=F ++ [x]:=λh=>by
 unfold ae.cN;rw[if_neg λz=>by rw[ZaQ.mpr z]at h;cases h]
def Vd:(!F.contains x)=false->ae.cN F x=F:=λh=>by
 unfold ae.cN;rw[if_pos (ZaQ.mp (by simpa using h))]
def Ve(tx:ae.Tn n xs)(ty:ae.Tn n ys)(hn:n<=100)(s0:0<=s)(s1:s<(n:Int)):Wp (Hw [b5 xs ys,.int s] st) λd st'=>d=.tup ((ae.bf xs ys s n).map D.int)/\Ex [] st st':=by
 have hlx:=tx.length;have D2:=ty.length;refine d6 ?_;intro qR;show Ws (Hv [some (b5 xs ys),some (.int s),none,none,none,none] st) _ _ _ _;unfold Hv;refine aT (bC ?_);k_lt Z;refine⟨rfl,Z _ _ (aT (bC ?_))⟩;k_lt2 Z
 let iR:IV:=λm δ st2=>∃(k:Nat) (v4 v5:Option D),m=n-k/\δ=[some (b5 xs ys),some (.int s),some (.ref st.length),some (.int (k:Int)),v4,v5]/\st2[st.length]?=some (.lst ((ae.bf xs ys s k).map D.int))/\k<=(ae.bf xs ys s k).length/\Ex [] st st2
 refine Z _ _ (aT (xO iR n (ZaS hn ∅) ⟨0,none,none,by lk,rfl,i7,ZaL _,Ex.cZ _⟩ ?_));clear Z;rintro m δ st2 ⟨k,v4,v5,rfl,rfl,hl,hk,k2⟩;have rK:=ae.AW tx ty s0 s1 k;exists _,Z,bO hl;refine Z _ _ ⟨λhlt=>?_,λhlt=>?_⟩;clear Z;have hlt:=of_decide_eq_true hlt;rw[Zaa]at hlt;have qc:k<(ae.bf xs ys s k).length:=by lk
 obtain⟨x,hx⟩:∃x,(ae.bf xs ys s k)[k]?=some x:=⟨_,Zab qc⟩;obtain⟨x0,x1⟩:=ae.sd tx ty s0 s1 k x (Zai hx);have e1:ae.bf xs ys s (k+1)=ae.visit xs ys (ae.bf xs ys s k) x:=by
  show(match (ae.bf xs ys s k)[k]? with|some x=>ae.visit xs ys (ae.bf xs ys s k) x|none=>ae.bf xs ys s k)=_;rw[hx]
 have hb1:=ae.AW tx ty s0 s1 (k+1);rw[e1]at hb1;have hp1:=(ae.yN (ae.cN (ae.bf xs ys s k) (ae.app xs x)) (ae.app ys x)).length_le;have hp0:=(ae.yN (ae.bf xs ys s k) (ae.app xs x)).length_le;change _<=(ae.visit xs ys (ae.bf xs ys s k) x).length at hp1;refine aT (nE [.tup (xs.map D.int),.tup (ys.map D.int)] (λm δ st3=>∃(v4 v5:Option D) (G:List Int),δ=[some (b5 xs ys),some (.int s),some (.ref st.length),some (.int (k:Int)),v4,v5]/\st3[st.length]?=some (.lst (G.map D.int))/\(m=0->G=ae.bf xs ys s k)/\(m=1->G=ae.cN (ae.bf xs ys s k) (ae.app xs x))/\(m=2->G=ae.visit xs ys (ae.bf xs ys s k) x)/\Ex [] st st3) ?_ (by simp) ?_ ?_);unfold b5;k_lt Z;exact Z _ _ ⟨rfl,v4,v5,_,rfl,hl,λ_=>rfl,λz=>by lk,λz=>by lk,k2⟩;rintro m z δ st3 hm ⟨v4,v5,G,rfl,hl3,g0,g1,_,k3⟩;have hm2:m<2:=ff hm;obtain⟨zs,rfl,tz,em⟩:∃(zs:List Int),z=.tup (zs.map D.int)/\ae.Tn n zs/\((m=0/\zs=xs)\/(m=1/\zs=ys)):=by
  rcases(show m=0\/m=1 by lk)with rfl|rfl
  exact⟨xs,by simpa using hm.symm,tx,.inl ⟨rfl,rfl⟩⟩;exact⟨ys,by simpa using hm.symm,ty,.inr ⟨rfl,rfl⟩⟩
 have hG:G.length<=100/\G[k]?=some x:=by
  rcases em with⟨rfl,_⟩|⟨rfl,_⟩
  rw[g0 rfl];exact⟨by lk,hx⟩;rw[g1 rfl];refine⟨by lk,?_⟩;obtain⟨t,e⟩:=ae.yN (ae.bf xs ys s k) (ae.app xs x);rw[<- e,Zap qc];exact hx
 have JV:∀G',G'=ae.cN G (ae.app zs x)->(m+1=0->G'=ae.bf xs ys s k)/\(m+1=1->G'=ae.cN (ae.bf xs ys s k) (ae.app xs x))/\(m+1=2->G'=ae.visit xs ys (ae.bf xs ys s k) x):=λG' e=>by
  rcases em with⟨rfl,rfl⟩|⟨rfl,rfl⟩
  exact⟨λz=>by lk,λ_=>by rw[e,g0 rfl],λz=>by lk⟩;exact⟨λz=>by lk,λz=>by lk,λ_=>by rw[e,g1 rfl];rfl⟩
 have hat:eZ (G.map D.int) (k:Int)=some (.int x):=yq (by rw[Zad,hG.2];rfl);k_lt Z;refine Z _ _ (aT (bC ?_));clear Z;exists _,Z,bO hl3,hat,sv (xs:=zs) x0 (by rw[tz.length];exact x1);refine Z _ _ (gP ?_);clear Z;exists _,Z,zp (st:=st3) (c:=.ref st.length) (ns:=G) (bO hl3);refine Z _ _ ⟨λhc=>su ?_,λhc=>ja ?_⟩;obtain⟨n0,n1,n2⟩:=JV (G ++ [ae.app zs x]) (Vc hc).symm;exists _,cL,mC hl3;refine⟨qh (by rw[bO hl3];rfl),nh (by rw[Zaa];lk),cL _ _ ⟨_,_,G ++ [ae.app zs x],rfl,?_,n0,n1,n2,k3.loc (Zag _)⟩⟩;rw[Zao (ff hl3),Zav];rfl;obtain⟨n0,n1,n2⟩:=JV G (Vd hc).symm;exact⟨_,_,G,rfl,hl3,n0,n1,n2,k3⟩;rintro δ st3 ⟨v4,v5,G,rfl,hl3,_,_,g2,k3⟩;have g2:=g2 rfl;subst g2;refine bC ?_;k_lt Z;refine Z _ _ ⟨n-(k+1),by lk,k+1,v4,v5,rfl,by simp,by rw[e1];exact hl3,by rw[e1];lk,k3⟩;have hlt:=of_decide_eq_false hlt;rw[Zaa]at hlt;have hle:(ae.bf xs ys s k).length<=k:=by lk
 have e:ae.bf xs ys s n=ae.bf xs ys s k:=by
  have:=ae.KZ hle (n-k)
  rwa [show k+(n-k)=n by lk]at this
 refine cK ?_;exists _,cL,bO hl;rw[<- e];exact cL _ _ ⟨rfl,k2⟩
def ZcP(tn:ae.Tn n xs)(hn:n<=100)(i0:0<=i)(i1:i<(n:Int)):Wp (LP [.tup (xs.map D.int),.int i] st) λd st'=>∃r:List Int,d=.tup (r.map D.int)/\ae.jO xs i r/\Ex [] st st':=by
 have hlen:=tn.length;refine d6 ?_;intro qR;show Ws (HE [some (.tup (xs.map D.int)),some (.int i),none,none] st) _ _ _ _;unfold HE;refine aT (bC ?_);k_lt Z;refine⟨rfl,Z _ _ (aT (bC ?_))⟩;clear Z;exists _,Z,sv (xs:=xs) i0 ⋯
 let iR:IV:=λm δ st2=>∃k:Nat,m=n-(k+1)/\δ=[some (.tup (xs.map D.int)),some (.int i),some (.ref st.length),some (.int (ae.a7 xs i (k+1)))]/\st2[st.length]?=some (.lst ((ae.row xs i k).map D.int))/\ae.NB xs i k/\Ex [] st st2
 refine Z _ _ (aT (xO iR (n-1) (ZaS (show n-1<=100 by lk) ∅) ⟨0,rfl,rfl,i7,λj h1 h2=>by lk,Ex.cZ _⟩ ?_));clear Z;rintro m δ st2 ⟨k,rfl,rfl,hL,nb,k2⟩;have hrl:=tn.kn i0 i1 nb;k_lt Z;refine Z _ _ ⟨λhb=>?_,λhb=>?_⟩;have hb:ae.a7 xs i (k+1)≠i:=by simpa using hb
 have JW:ae.NB xs i (k+1):=λj h1 h2=>by
  by_cases hj:j<=k;exact nb j h1 hj
  have:j=k+1:=by lk
  rw[this];exact hb
 have hle:=tn.kn i0 i1 JW;have hit:=tn.a7 i0 i1 (k+1);refine aT (su ?_);exists _,cL,mC hL;refine⟨qh (by rw[bO hL];rfl),nh (by rw[Zaa,ae.wH];lk),cL _ _ (bC ?_)⟩;clear cL;exists _,cL,sv (xs:=xs) hit.1 ⋯;refine cL _ _ ⟨n-(k+1+1),by lk,k+1,rfl,rfl,?_,JW,k2.loc (Zag _)⟩;rw[Zao (ff hL),ae.R0,Zav];rfl;have hb:ae.a7 xs i (k+1)=i:=by simpa using hb
 refine cK ?_;exists _,cL,bO hL;exact cL _ _ ⟨_,rfl,⟨k,rfl,nb,hb⟩,k2⟩
def Yct(tn:ae.Tn n xs)(hn:n<=100):Wp (LR [.tup (xs.map D.int)] st) λd st'=>∃rs:List (List Int),d=GA rs/\ae.yM xs (ae.upto n) rs/\(∀r∈rs,r.length<=n/\∀x∈r,0<=x/\x<(n:Int))/\rs.length<=n/\Ex [] st st':=by
 have hlen:=tn.length;refine d6 ?_;intro qR;show Ws (HG [some (.tup (xs.map D.int)),none,none,none,none,none] st) _ _ _ _;unfold HG;refine aT (bC ?_);k_lt Z;refine⟨rfl,Z _ _ (aT (bC ?_))⟩;k_lt2 Z;have eS:(st ++ [O.lst []]).length=st.length+1:=by simp
 rw[eS]
 refine Z _ _ (aT (nE (aL 0 n) (λk δ st2=>∃ (v3 v4 v5:Option D) (rs:List (List Int)) (kvs:List (Key×D)),δ=[some (.tup (xs.map D.int)),some (.ref st.length),some (.ref (st.length + 1)),v3,v4,v5]/\st2[st.length]?=some (.lst (rs.map λr=>.tup (r.map D.int)))/\st2[st.length + 1]?=some (.dct kvs) /\
   (∀rest,ae.yM xs (ae.from' n k (λx=>(fe kvs (Sum.inl x:Key)).isSome)) rest->ae.yM xs (ae.upto n) (rs ++ rest))/\(∀r∈rs,r.length<=n/\∀x∈r,0<=x/\x<(n:Int))/\rs.length<=k/\kvs.length<=k*n/\Ex [] st st2) ?_ (by rw[gO];lk) ?_ ?_))
 k_lt2 Z;rw[Zaa,hlen];refine⟨by lk,Z _ _ ⟨by rw[Zan],none,none,none,[],[],rfl,km i7,by rw[<- eS];exact i7,λrest hrest=>?_,(λr hr=>nomatch hr),Zag _,ZaL _,(Ex.cZ _).app _⟩⟩;have e:ae.from' n 0 (λx=>(fe ([]:List (Key×D)) (Sum.inl x:Key)).isSome)=ae.upto n:=ae.Yy n;rw[e]at hrest;exact hrest;rintro k d δ st2 hd ⟨v3,v4,v5,rs,kvs,rfl,Mu,AK,zB,hb,hrl,qc,k2⟩;have hk:=ff hd;rw[gO]at hk;rw[xN hk,Zbq]at hd;cases hd;have hkn:k*n<=10000:=Zal (ZbW (show k<=100 by lk) hn) ∅;k_lt2 Z;refine Z _ _ (gP ?_);clear Z;exists _,Z,T2 AK,T3;have hfs:=ae.Yw hk (λx=>(fe kvs (Sum.inl x:Key)).isSome);refine Z _ _ ⟨λhs=>?_,λhs=>?_⟩;have Px:(fe kvs (Sum.inl (k:Int):Key)).isSome=false:=by simpa using hs
 simp only[Px,ZaT,if_false]at hfs;clear Z;refine aT (bC ?_);k_lt Z;refine aS (ZcP tn hn (i:=(k:Int)) ⋯ ⋯) ?_;rintro d st3 ⟨r,rfl,qA,k3⟩;refine Z _ _ (aT (su ?_));clear Z;have Py:=k3.keep _ _ Mu (by simp);have hS3:=k3.keep _ _ AK (by simp);have Pz:=qA.len tn ⋯ ⋯;have hrb:=qA.bound tn ⋯ ⋯;exists _,Z,mC Py;refine⟨qh (by rw[bO Py];rfl),nh (by rw[Zaa];lk),Z _ _ ?_⟩;clear Z
 refine nE (r.map D.int) (λj δ qq=>∃ (v5:Option D) (kvs':List (Key×D)),δ=[some (.tup (xs.map D.int)),some (.ref st.length),some (.ref (st.length + 1)),some (.int (k:Int)),some (.tup (r.map D.int)),v5]/\qq[st.length]?=some (.lst ((rs ++ [r]).map λr=>.tup (r.map D.int)))/\qq[st.length + 1]?=some (.dct kvs') /\
   (∀x:Int,(fe kvs' (Sum.inl x:Key)).isSome=((fe kvs (Sum.inl x:Key)).isSome || (r.take j).contains x))/\kvs'.length<=kvs.length+j/\Ex [] st qq) ?_ (by rw[Zaa];lk) ?_ ?_
 k_lt Z;refine Z _ _ ⟨rfl,v5,kvs,rfl,?_,?_,λx=>by simp,by lk,(k2.trans k3).loc (Zag _)⟩;rw[Zao (ff Py),Zav];rfl;rw[Zat ⋯];exact hS3;rintro j y δ qq hj ⟨v5,kvs',rfl,PB,Mv,Mw,Vg,k5⟩;obtain⟨x,hx,rfl⟩:=GF hj;obtain⟨hjl,ex⟩:=Zac.mp hx;subst ex;k_lt Z;refine Z _ _ (ZM ?_);k_lt2 Z;refine Z _ _ ?_;k_lt cL;refine cL _ _ ?_;k_lt wo;refine wo _ _ ⟨_,kvs',_,rfl,T2 Mv,T3 _,nh ⋯,_,_,rfl,?_,Zao (ff Mv),λx=>?_,?_,k5.loc ⋯⟩;rw[Zat ⋯];exact PB;rw[Zc1,ZbB hjl];by_cases hx:x=r[j];subst hx;simp;rw[if_neg (by intro z;exact hx (Sum.inl.inj z)),Mw x]
 have:(x == r[j])=false:=beq_eq_false_iff_ne.mpr hx;rw[this,Bool.or_false]
 have:=xb8 kvs' (Sum.inl r[j]:Key) (.bl true);lk
 rintro δ qq ⟨v5,kvs',rfl,PB,Mv,Mw,Vg,k5⟩;rw[Zaa]at Vg Mw;refine⟨_,_,_,rs ++ [r],kvs',rfl,PB,Mv,λrest hrest=>?_,λr' hr'=>?_,by rw[Zae];simp;lk,by rw[Zcp];lk,k5⟩;have e:(λx=>(fe kvs' (Sum.inl x:Key)).isSome)=λx=>((fe kvs (Sum.inl x:Key)).isSome || r.contains x):=by
  funext x;rw[Mw x,Zbg]
 rw[e,<- ae.Yx]at hrest;rw[Zbx];refine zB _ ?_;rw[hfs];refine .cons qA ?_;have e2:ae.out ((k:Int) :: ae.from' n (k+1) (λx=>(fe kvs (Sum.inl x:Key)).isSome)) r=ae.out (ae.from' n (k+1) (λx=>(fe kvs (Sum.inl x:Key)).isSome)) r:=by
  unfold ae.out;rw[List.filter_cons,if_neg (by simp[qA.mem])]
 rw[e2];exact hrest;rcases ZaA.mp hr' with h|h
 exact hb r' h
 have:r'=r:=by simpa using h
 subst this;exact⟨Pz,hrb⟩;have Px:(fe kvs (Sum.inl (k:Int):Key)).isSome=true:=by simpa using hs
 simp only[Px,if_true]at hfs;exact ja ⟨_,_,_,rs,kvs,rfl,Mu,AK,λrest hrest=>zB rest (by rw[hfs];exact hrest),hb,by lk,by rw[Zcp];lk,k2⟩;rintro δ st2 ⟨v3,v4,v5,rs,kvs,rfl,Mu,AK,zB,hb,hrl,qc,k2⟩;rw[gO]at zB hrl;refine cK ?_;clear Z;exists _,Z,bO Mu;refine Z _ _ ⟨rs,rfl,?_,hb,hrl,k2⟩;have:=zB [] (by rw[ae.Yv];exact .nil)
 rwa [ZaZ]at this
def zdv{rs:List (List Int)}{m:Nat}{d:D}(h:(rs.map λr=>D.tup (r.map D.int))[m]?=some d):∃r,rs[m]?=some r/\d=.tup (r.map D.int):=by rw[Zad]at h;obtain⟨r,h1,h2⟩:=Zaz.mp h;exact⟨r,h1,h2.symm⟩
def Vh(h0:0<=j)(h1:j<((m+1:Nat):Int)):eZ ((ae.row xs i m).map D.int) j=some (.int (ae.a7 xs i j.toNat)):=by
 have e:((ae.row xs i m).map D.int)[j.toNat]?=some (.int (ae.a7 xs i j.toNat)):=by
  unfold ae.row;rw[ZaJ,Zad,ZaV ⋯];rfl
 have:=yq e
 rwa [ZaG h0]at this
def Vi(h0:0<=m)(h1:m<(bs.length:Int))(x0:0<=x):ae.app (bs.set m.toNat v) x=if x=m then v else ae.app bs x:=by have:=ae.N7 (xs:=bs) (m:=m.toNat) (v:=v) (x:=x) ⋯ x0;rw[ZaG h0]at this;exact this
def Vj(tn:ae.Tn n xs)(hn:n<=100):Wp (DP [.tup (xs.map D.int),.int k] st) λd st'=>d=.tup ((ae.cJ xs k).map D.int)/\Ex [] st st':=by
 have hlen:=tn.length;refine d6 ?_;intro qR;show Ws (HJ [some (.tup (xs.map D.int)),some (.int k),none,none,none,none] st) _ _ _ _;unfold HJ;refine aT (bC ?_);k_lt Z;have e0:(((xs.map D.int).length:Int)).toNat=n:=by rw[Zaa];lk
 have ez:(List.replicate n [D.int 0]).flatten=(List.replicate n (0:Int)).map D.int:=by
  clear hlen tn hn e0
  induction n with
  |zero=>rfl
  |succ n ih=>simp[Za8]
 rw[e0,ez];have JU:st.length<=(st ++ [O.lst [D.int 0]]).length:=by simp
 refine⟨rfl,by rw[Zaa];lk,nh (by simp;lk),Z _ _ ?_⟩;clear Z;have PD:(st ++ [O.lst [D.int 0]] ++ [O.lst ((List.replicate n (0:Int)).map D.int)])[(st ++ [O.lst [D.int 0]]).length]?=some (.lst ((List.replicate n (0:Int)).map D.int)):=i7;have kB:Ex [] st (st ++ [O.lst [D.int 0]] ++ [O.lst ((List.replicate n (0:Int)).map D.int)]):=(Ex.cZ _).app _;generalize (st ++ [O.lst [D.int 0]] ++ [O.lst ((List.replicate n (0:Int)).map D.int)])=stB at PD kB ⊢;generalize (st ++ [O.lst [D.int 0]]).length=B at JU PD ⊢;show Ws _ _ _ _ _;obtain⟨d,st2,e2,rs,rfl,zB,hrb,hrl,k2⟩:=Yct (st:=stB) tn hn
 let iR:IV:=λm δ st3=>∃(v3 v4 v5:Option D) (bs:List Int),δ=[some (.tup (xs.map D.int)),some (.int k),some (.ref B),v3,v4,v5]/\st3[B]?=some (.lst (bs.map D.int))/\bs.length=n/\(∀j,j<m->∀r,rs[j]?=some r->∀x∈r,ae.app bs x=ae.pw xs k x)/\Ex [] st st3
 refine aT (nE (rs.map λr=>.tup (r.map D.int)) iR ?_ (by rw[Zaa];lk) ?_ ?_)
 ·k_lt Z
  refine⟨_,_,e2,?_⟩;exact⟨_,rfl,Z _ _ ⟨rfl,none,none,none,_,rfl,k2.keep _ _ PD (by simp),by simp,λj hj=>absurd hj (Za0 _),kB.trans k2⟩⟩
 ·rintro m d δ st3 hm ⟨v3,v4,v5,bs,rfl,PH,rK,ya,k3⟩
  obtain⟨r,hr,rfl⟩:=zdv hm;obtain⟨i,hi,qA⟩:=zB.all.1 r (Zai hr);obtain⟨i0,i1⟩:=ae.o5.mp hi;obtain⟨M,rfl,nb,bk⟩:=qA.ex;have hM:=tn.kn i0 i1 nb;k_lt Z
  let wm:IV:=λt δ p6=>∃(v4 v5:Option D) (cs:List Int),δ=[some (.tup (xs.map D.int)),some (.int k),some (.ref B),some (.tup ((ae.row xs i M).map D.int)),v4,v5]/\p6[B]?=some (.lst (cs.map D.int))/\cs.length=n/\(∀x:Int,0<=x->x<(n:Int)->ae.app bs x=ae.pw xs k x->ae.app cs x=ae.pw xs k x)/\(∀j,j<t->ae.app cs (ae.a7 xs i j)=ae.pw xs k (ae.a7 xs i j))/\Ex [] st p6
  refine Z _ _ (nE (fY ((ae.row xs i M).map D.int)) wm ?_ ?_ ?_ ?_)
  ·clear Z
   k_lt Z;exact Z _ _ ⟨rfl,v4,v5,bs,rfl,PH,rK,λ_ _ _ h=>h,λj hj=>absurd hj (Za0 _),k3⟩
  ·rw[F9,Zaa,ae.wH];lk
  ·rintro t d δ p6 hd ⟨v4,v5,cs,rfl,Mx,hcl,hcs,hct,k4⟩
   obtain⟨d',hd',rfl⟩:=OM hd;obtain⟨y,hy,rfl⟩:=GF hd';have Vk:=ff hy;rw[ae.wH]at Vk;have ey:y=ae.a7 xs i t:=by
    unfold ae.row at hy;rw[Zad,ZaV Vk]at hy;exact(Zar hy).symm
   subst ey;obtain⟨x0,x1⟩:=tn.a7 i0 i1 t;have hL:(0:Int)<((M+1:Nat):Int):=by lk
   have m0:=Zbd ((t:Int)+k) (Int.ne_of_gt hL);have m1:=Zbk ((t:Int)+k) hL;have eL:((((ae.row xs i M).map D.int).length:Nat):Int)=((M+1:Nat):Int):=by rw[Zaa,ae.wH]
   have hix:oV (cs.map D.int).length (ae.a7 xs i t)=some (ae.a7 xs i t).toNat:=by
    have:=C9 (n:=(cs.map D.int).length) (j:=(ae.a7 xs i t).toNat) (by rw[Zaa];lk)
    rwa [ZaG x0]at this
   have es:∀v:Int,(cs.map D.int).set (ae.a7 xs i t).toNat (.int v)=(cs.set (ae.a7 xs i t).toNat v).map D.int:=λv=>by rw[List.map_set]
   k_lt2 Z;refine⟨rfl,Z _ _ (uk ?_)⟩;clear Z;exists _,Z,eL,Vh m0 m1;refine⟨hL,Z _ _ ?_⟩;clear Z;exists _,Z,mC Mx,hix,es;have hat:=tn.AX x0 x1 (tn.AR i0 i1 nb bk t k);refine Z _ _ ⟨_,_,_,rfl,Zao (ff Mx),by rw[Zbc];exact hcl,λx h0 h1 h=>?_,λj hj=>?_,k4.loc JU⟩
   ·rw[Vi x0 ⋯ h0]
    split
    ·next e=>rw[e];exact hat
    ·exact hcs x h0 h1 h
   ·obtain⟨y0,y1⟩:=tn.a7 i0 i1 j
    rw[Vi x0 ⋯ y0];split
    ·next e=>rw[e];exact hat
    ·next e =>
     by_cases hjt:j=t
     ·rw[hjt]at e;exact absurd rfl e
     ·exact hct j ⋯
  ·rintro δ p6 ⟨v4,v5,cs,rfl,Mx,hcl,hcs,hct,k4⟩
   rw[F9,Zaa,ae.wH]at hct;refine⟨_,_,_,cs,rfl,Mx,hcl,λj hj r hr2 x hx=>?_,k4⟩;by_cases hjm:j=m
   ·subst hjm
    rw[hr]at hr2;cases hr2;obtain⟨jj,hjj,rfl⟩:=ae.KW.mp hx;exact hct jj ⋯
   ·obtain⟨b0,b1⟩:=(hrb r (Zai hr2)).2 x hx
    exact hcs x b0 b1 (ya j ⋯ r hr2 x hx)
 ·rintro δ st3 ⟨v3,v4,v5,bs,rfl,PH,rK,ya,k3⟩
  rw[Zaa]at ya;have e:bs=ae.cJ xs k:=by
   refine ae.uc (n:=n) rK (by rw[ae.FG];exact hlen) λs s0 s1=>?_;rw[ae.se s0 ⋯];obtain⟨r,hr',hx⟩:=zB.all.2 s (ae.o5.mpr ⟨s0,s1⟩);obtain⟨j,hj,ej⟩:=ZbF hr';exact ya j hj r (by rw[Zab hj,ej]) s hx
  subst e;refine cK ?_;exists _,Z,bO PH;exact Z _ _ ⟨rfl,k3⟩
def zb3(tx:ae.Tn n xs)(ty:ae.Tn n ys)(hn:n<=100):Wp (LS [b5 xs ys,.int k] st) λd st'=>d=b5 xs (ae.shr xs ys k)/\Ex [] st st':=by refine d6 ?_;intro qR;show Ws (HM [some (b5 xs ys),some (.int k)] st) _ _ _ _;unfold HM b5;refine cK ?_;have tp:=tx.cJ (-k);k_lt Z;refine aS (Vj (k:=-k) tx hn) ?_;rintro d st1 ⟨rfl,k1⟩;refine aS (D5 (xs:=ae.cJ xs (-k)) (ys:=ys) (λx hx=>by rw[ty.length];exact tp.bound hx) (by rw[tp.length];exact hn)) ?_;rintro d st2 ⟨rfl,k2⟩;exact⟨rfl,Z _ _ ⟨rfl,k1.trans k2⟩⟩
def ybD(tx:ae.Tn n xs)(ty:ae.Tn n ys)(hn:n<=100):Wp (LU [b5 xs ys] st) λd st'=>d=b5 (ae.inv ys) xs/\Ex [] st st':=by refine d6 ?_;intro qR;show Ws (HP [some (b5 xs ys)] st) _ _ _ _;unfold HP b5;refine cK ?_;k_lt Z;refine aS (Pw ty hn) ?_;rintro d st1 ⟨rfl,k1⟩;exact⟨rfl,Z _ _ ⟨rfl,k1⟩⟩
def Vl{st:Store}{Q:D->Store->Prop}{xs:List Int}{v:Int}(h:v∈xs):Wp (lP (.tup (xs.map D.int)) [.int v] st) Q↔Q (.int (xs.idxOf v:Int)) st:=by rw[TN];constructor;rintro⟨ns,j,h1,h2,q⟩;rw[OT]at h1;cases h1;rw[T1 h]at h2;cases h2;exact q;intro q;exact⟨xs,_,OT xs,T1 h,q⟩
def Vm:eZ ((ae.row xs i m).map D.int) (-1)=some (.int (ae.a7 xs i m)):=by
 have hl:((ae.row xs i m).map D.int).length=m+1:=by rw[Zaa,ae.wH]
 unfold eZ oV;rw[if_neg ∅,hl,if_pos ⋯,Za7,show((-1:Int)+((m+1:Nat):Int)).toNat=m by lk];unfold ae.row;rw[ZaJ,Zad,ZaV ⋯];rfl
def Xcb(tn:ae.Tn n xs)(hn:n<=100)(s0:0<=s)(s1:s<(n:Int)):Wp (LH [.tup (xs.map D.int),.int s,.int k] st) λd st'=>d=.int (ae.pw xs k s)/\Ex [] st st':=by
 have hlen:=tn.length;refine d6 ?_;intro qR;show Ws (Hc [some (.tup (xs.map D.int)),some (.int s),some (.int k),none] st) _ _ _ _;unfold Hc
 let iR:IN:=λδ st1=>∃(zs:List Int) (j:Nat),δ=[some (.tup (zs.map D.int)),some (.int s),some (.int (j:Int)),none]/\ae.Tn n zs/\ae.a7 zs s j=ae.pw xs k s/\Ex [] st st1
 refine aT (zj (N:=iR) (gP ?_) ?_);k_lt Z;refine Z _ _ ⟨λh=>?_,λh=>ja ⟨xs,k.toNat,?_,tn,?_,Ex.refl⟩⟩;have h:=of_decide_eq_true h;clear Z;refine aT (bC ?_);k_lt Z;refine vX (aL 0 n) (λd=>.int (xs.idxOf (inD d):Int)) ?_ (by rw[gO];lk) ?_ ?_;k_lt cL;rw[Zaa,hlen];exact⟨by lk,cL _ _ ⟨by rw[Zan];exact sX _ _,Ex.refl⟩⟩;intro d hd uJ k7;rw[uo]at hd;obtain⟨x,hx,rfl⟩:=BU hd;obtain⟨x0,x1⟩:=ae.o5.mp hx;exists _,cL,ZaD,Za6,Za1,Za2,TM,Vl (tn.mem x0 x1);exact cL _ _ ⟨rfl,Ex.refl⟩;intro uJ k7;have e:(aL 0 n).map (λd=>D.int (xs.idxOf (inD d):Int))=(ae.inv xs).map D.int:=by
  rw[uo,GG (f:=λx=>(xs.idxOf x:Int)) λx hx=>rfl];unfold ae.inv;rw[hlen]
 rw[e];w_how;refine Z _ _ (bC ?_);k_lt2 Z;refine Z _ _ ⟨ae.inv xs,(-k).toNat,?_,tn.aG,?_,k7.app _⟩;rw[show(0:Int)-k=(((-k).toNat:Nat):Int) by lk];rfl;unfold ae.pw;rw[if_neg ⋯];have h:=of_decide_eq_false h;rw[ZaG ⋯];have h:=of_decide_eq_false h;unfold ae.pw;rw[if_pos ⋯];rintro δ st1 ⟨zs,j,rfl,tz,ej,k1⟩;have U1:=tz.length;refine aT (bC ?_);k_lt Z
 let wm:IV:=λm δ st2=>∃k:Nat,m=n-(k+1)/\δ=[some (.tup (zs.map D.int)),some (.int s),some (.int (j:Int)),some (.ref st1.length)]/\st2[st1.length]?=some (.lst ((ae.row zs s k).map D.int))/\ae.NB zs s k/\Ex [] st1 st2
 refine⟨rfl,Z _ _ (aT (xO wm (n-1) (ZaS (show n-1<=100 by lk) ∅) ⟨0,rfl,rfl,i7,λj h1 h2=>by lk,Ex.cZ _⟩ ?_))⟩;clear Z;rintro m δ st2 ⟨k',rfl,rfl,hL,nb,k2⟩;have hrl:=tz.kn s0 s1 nb;obtain⟨y0,y1⟩:=tz.a7 s0 s1 k';exists _,Z,bO hL,Vm,sv (xs:=zs) y0 ⋯;refine Z _ _ ⟨λhb=>?_,λhb=>?_⟩;have hb:ae.a7 zs s (k' + 1)≠s:=by show ae.app zs (ae.a7 zs s k')≠s;simpa using hb
 have JW:ae.NB zs s (k' + 1):=λj h1 h2=>by
  by_cases hj:j<=k';exact nb j h1 hj
  have:j=k' + 1:=by lk
  rw[this];exact hb
 have hle:=tz.kn s0 s1 JW;refine su ?_;exists _,cL,bO hL,Vm,sv (xs:=zs) y0 ⋯,mC hL;refine⟨qh (by rw[bO hL];rfl),nh (by rw[Zaa,ae.wH];lk),cL _ _ ⟨n-(k' + 1+1),by lk,k' + 1,rfl,rfl,?_,JW,k2.loc (Zag _)⟩⟩;rw[Zao (ff hL),ae.R0,Zav];rfl;have hb:ae.a7 zs s (k' + 1)=s:=by show ae.app zs (ae.a7 zs s k')=s;simpa using hb
 refine cK ?_;have hpos:(0:Int)<((k' + 1:Nat):Int):=by lk
 have eL:((((ae.row zs s k').map D.int).length:Nat):Int)=((k' + 1:Nat):Int):=by rw[Zaa,ae.wH]
 exists _,cL,bO hL,eL,Vh (Zbd (j:Int) (Int.ne_of_gt hpos)) (Zbk (j:Int) hpos);refine⟨hpos,cL _ _ ⟨?_,k1.trans k2⟩⟩;rw[<- ej,show((j:Int) % ((k' + 1:Nat):Int)).toNat=j % (k' + 1) by lk,ae.R4 hb]
def xct(tx:ae.Tn n xs)(ty:ae.Tn n ys)(hn:n<=100):Wp (Cf [b5 xs ys,.tup [.str "s",.int k]] st) λd st'=>d=b5 xs (ae.shr xs ys k)/\Ex [] st st':=by
 have hlx:=tx.length;have D2:=ty.length;refine d6 ?_;intro qR;show Ws (Ce [some (b5 xs ys),some (.tup [.str "s",.int k]),none,none,none] st) _ _ _ _;unfold Ce b5;refine aT (uk ?_);k_lt Z;refine Z _ _ ?_;k_lt2 Z;refine⟨rfl,Z _ _ (aT (gP ?_))⟩;k_lt2 Z;refine Z _ _ ⟨λ_=>cK ?_,λh=>absurd h (by simp)⟩;k_lt2 Z;refine vX (aL 0 n) (λd=>.int (ae.app ys (ae.pw xs (-k) (inD d)))) ?_ (by rw[gO];lk) ?_ ?_;k_lt cL;rw[Zaa,D2];exact⟨by lk,cL _ _ ⟨by rw[Zan];exact sX _ _,Ex.refl⟩⟩;intro d hd uJ k7;rw[uo]at hd;obtain⟨x,hx,rfl⟩:=BU hd;obtain⟨x0,x1⟩:=ae.o5.mp hx;obtain⟨p0,p1⟩:=tx.pw x0 x1 (-k);exists _,cL,ZaD,Za6,Za1,Za2;refine aS (Xcb (k:=0-k) tx hn x0 x1) ?_;rintro d lI ⟨rfl,k8⟩;rw[show(0:Int)-k=-k by lk];exists sv (xs:=ys) p0 ⋯;exact cL _ _ ⟨rfl,k8⟩;intro uJ k7;have e:(aL 0 n).map (λd=>D.int (ae.app ys (ae.pw xs (-k) (inD d))))=(ae.shr xs ys k).map D.int:=by
  rw[uo,GG (f:=λx=>ae.app ys (ae.pw xs (-k) x)) λx hx=>rfl];unfold ae.shr ae.a5 ae.cJ;rw[hlx,ZaJ,ZaJ,ZaJ];rfl
 rw[e];w_how;exact⟨rfl,Z _ _ ⟨rfl,k7.app _⟩⟩
abbrev qm(xs ys:List Int):Nat->List Int×List Int
 |0=>(xs,ys)
 |j+1=>(ae.inv (qm xs ys j).2,(qm xs ys j).1)
def JX(tx:ae.Tn n xs)(ty:ae.Tn n ys):∀j,ae.Tn n (qm xs ys j).1/\ae.Tn n (qm xs ys j).2
 |0=>⟨tx,ty⟩
 |j+1=>⟨(JX tx ty j).2.aG,(JX tx ty j).1⟩
def Xct{st:Store}{xs ys:List Int}{n j:Nat}(tx:ae.Tn n xs)(ty:ae.Tn n ys)(hn:n<=100)(hj:j<4):Wp (Cf [b5 xs ys,.tup [.str "t",.int (j:Int)]] st) λd st'=>d=b5 (qm xs ys j).1 (qm xs ys j).2/\Ex [] st st':=by
 refine d6 ?_;intro qR;show Ws (Ce [some (b5 xs ys),some (.tup [.str "t",.int (j:Int)]),none,none,none] st) _ _ _ _;unfold Ce b5;refine aT (uk ?_);k_lt Z;refine Z _ _ ?_;k_lt2 Z;refine⟨rfl,Z _ _ (aT (gP ?_))⟩;k_lt2 Z
 let iR:IV:=λi δ st2=>∃v4:Option D,δ=[some (.tup [.tup (xs.map D.int),.tup (ys.map D.int)]),some (.tup [.str "t",.int (j:Int)]),some (.tup ((qm xs ys i).1.map D.int)),some (.tup ((qm xs ys i).2.map D.int)),v4]/\Ex [] st st2
 refine Z _ _ ⟨λh=>absurd h ∅,λ_=>ja (aT (nE (aL 0 j) iR ?_ (by rw[gO];lk) ?_ ?_))⟩;k_lt2 Z;rw[show(j:Int) % 4=(j:Int) by lk];exact⟨by lk,by lk,Z _ _ ⟨by rw[Zan],none,rfl,Ex.refl⟩⟩;rintro i d δ st2 hd ⟨v4,rfl,k2⟩;obtain⟨ta,tb⟩:=JX tx ty i;show Wp _ _;have hlb:=tb.length;generalize hzs:(qm xs ys i).2=zs at tb hlb ⊢;k_lt2 Z;refine Z _ _ (uk ?_);k_lt2 Z;refine vX (aL 0 n) (λd=>.int (zs.idxOf (inD d):Int)) ?_ (by rw[gO];lk) ?_ ?_;k_lt cL;rw[Zaa,hlb];exact⟨by lk,cL _ _ ⟨by rw[Zan];exact sX _ _,Ex.refl⟩⟩;intro d hd uJ k7;rw[uo]at hd;obtain⟨x,hx,rfl⟩:=BU hd;obtain⟨x0,x1⟩:=ae.o5.mp hx;exists _,cL,ZaD,Za6,Za1,Za2,TM,Vl (tb.mem x0 x1);exact cL _ _ ⟨rfl,Ex.refl⟩;intro uJ k7;have e:(aL 0 n).map (λd=>D.int (zs.idxOf (inD d):Int))=(ae.inv zs).map D.int:=by
  rw[uo,GG (f:=λx=>(zs.idxOf x:Int)) λx hx=>rfl];unfold ae.inv;rw[hlb]
 rw[e];w_how;refine⟨rfl,Z _ _ ?_⟩;k_lt2 Z;refine⟨rfl,Z _ _ ⟨some d,?_,(k2.trans k7).app _⟩⟩;rw[show(qm xs ys (i+1)).1=ae.inv (qm xs ys i).2 from rfl,show(qm xs ys (i+1)).2=(qm xs ys i).1 from rfl,hzs];rintro δ st2 ⟨v4,rfl,k2⟩;rw[gO];refine cK ?_;k_lt2 Z;exact⟨rfl,Z _ _ ⟨rfl,k2⟩⟩
abbrev Mz(s:cg):Prop:=s.1=false->1<=s.2/\s.2<=3
abbrev jM(p:List Int×List Int)(s:cg):List Int×List Int:=if s.1=true then(p.1,ae.shr p.1 p.2 s.2)else qm p.1 p.2 s.2.toNat
abbrev oO(p:List Int×List Int)(w:List cg):List Int×List Int:=w.foldl jM p
def Xc4(h:ae.Tn n p.1/\ae.Tn n p.2)(s:cg):ae.Tn n (jM p s).1/\ae.Tn n (jM p s).2:=by unfold jM;split;exact⟨h.1,h.1.shr h.2 _⟩;exact JX h.1 h.2 _
def Vn:∀{p:List Int×List Int},ae.Tn n p.1/\ae.Tn n p.2->∀w:List cg,ae.Tn n (oO p w).1/\ae.Tn n (oO p w).2
 |_,h,[]=>h
 |_,h,s :: w=>Vn (Xc4 h s) w
def zc5(p:List Int×List Int)(v w:List cg):oO p (v ++ w)=oO (oO p v) w:=by unfold oO;rw[Zbn]
def zcQ(p:List Int×List Int)(w:List cg)(s:cg):oO p (w ++ [s])=jM (oO p w) s:=by rw[zc5];rfl
abbrev bK(p:List Int×List Int):D:=b5 p.1 p.2
def Yb3(h:ae.Tn n p.1/\ae.Tn n p.2)(hn:n<=100)(hs:Mz s):Wp (Cf [bK p,bw s] st) λd st'=>d=bK (jM p s)/\Ex [] st st':=by
 obtain⟨b,k⟩:=s;cases b with
 |true=>exact xct (k:=k) h.1 h.2 hn
 |false =>
  obtain⟨k1,k3⟩:=hs rfl;obtain⟨j,rfl⟩:∃j:Nat,k=(j:Int):=⟨k.toNat,by simp only at k1;lk⟩;have:=Xct (st:=st) (j:=j) h.1 h.2 hn (by simp only at k3;lk);refine aS this ?_;rintro d st1 ⟨rfl,k1⟩;refine⟨?_,k1⟩;unfold bK jM;rw[if_neg (show ¬(false=true)from Zam),Zan]
def xb3(h:ae.Tn n p.1/\ae.Tn n p.2)(hn:n<=100)(hs:Mz s):Wp (LV [bK p,bw s] st) λd st'=>d=bK (jM p s)/\Ex [] st st':=by
 obtain⟨b,k⟩:=s;refine d6 ?_;intro qR;show Ws (HR [some (bK p),some (bw (b,k)),none,none] st) _ _ _ _;unfold HR bw;cases b with
 |true =>
  refine aT (gP ?_);k_lt Z;refine Z _ _ ⟨λ_=>cK ?_,λz=>absurd z ∅⟩;k_lt2 Z;refine aS (zb3 (k:=k) h.1 h.2 hn) ?_;rintro d st1 ⟨rfl,k1⟩;exact Z _ _ ⟨rfl,k1⟩
 |false =>
  obtain⟨k1,k3⟩:=hs rfl;obtain⟨j,rfl⟩:∃j:Nat,k=(j:Int):=⟨k.toNat,by simp only at k1;lk⟩;refine aT (gP ?_);k_lt Z;refine Z _ _ ⟨λz=>absurd z ∅,λ_=>ja (aT (bC ?_))⟩;k_lt2 Z
  let iR:IV:=λi δ st2=>∃v3:Option D,δ=[some (bK p),some (bw (false,(j:Int))),some (b5 (qm p.1 p.2 i).1 (qm p.1 p.2 i).2),v3]/\Ex [] st st2
  refine Z _ _ (aT (nE (aL 0 j) iR ?_ (by rw[gO];simp only at k3;lk) ?_ ?_));k_lt2 Z;exact⟨by simp only at k3;lk,Z _ _ ⟨by rw[Zan],none,rfl,Ex.refl⟩⟩;rintro i d δ st2 hd ⟨v3,rfl,k2⟩;obtain⟨ta,tb⟩:=JX h.1 h.2 i;k_lt2 Z;refine Z _ _ (bC ?_);k_lt2 Z;refine aS (ybD ta tb hn) ?_;rintro d' st3 ⟨rfl,k3⟩;exact Z _ _ ⟨some d,rfl,k2.trans k3⟩;rintro δ st2 ⟨v3,rfl,k2⟩;rw[gO];refine cK ?_;k_lt2 Z;refine Z _ _ ⟨?_,k2⟩;unfold bK jM;rw[if_neg (show ¬(false=true)from Zam),Zan]
def Vo(h:ae.Tn n p.1/\ae.Tn n p.2)(hn:n<=100)(hw:∀s∈w,Mz s)(hl:w.length<=1000):Wp (HV [bK p,.tup (w.map bw)] st) λd st'=>d=bK (oO p w)/\Ex [] st st':=by
 refine d6 ?_;intro qR;show Ws (HU [some (bK p),some (.tup (w.map bw)),none,none] st) _ _ _ _;unfold HU;refine aT (bC ?_);k_lt Z
 let iR:IV:=λi δ st2=>∃v2:Option D,δ=[some (bK p),some (.tup (w.map bw)),some (bK (oO p (w.take i))),v2]/\Ex [] st st2
 refine Z _ _ (aT (nE (w.map bw) iR ?_ (by rw[Zaa];lk) ?_ ?_));k_lt2 Z;exact Z _ _ ⟨rfl,none,rfl,Ex.refl⟩;rintro i d δ st2 hd ⟨v2,rfl,k2⟩;rw[Zad]at hd;obtain⟨s,hs,rfl⟩:=Zaz.mp hd;obtain⟨hil,es⟩:=Zac.mp hs;k_lt2 Z;refine Z _ _ (bC ?_);k_lt2 Z;refine aS (xb3 (Vn h _) hn (hw s (Zai hs))) ?_;rintro d st3 ⟨rfl,k3⟩;refine Z _ _ ⟨some (bw s),?_,k2.trans k3⟩;rw[ZaK hil,zcQ,es];rfl;rintro δ st2 ⟨v2,rfl,k2⟩;rw[Zaa,Zbg];refine cK ?_;k_lt2 Z;exact Z _ _ ⟨rfl,k2⟩
abbrev fz(T:ae.T4):D:=.tup [.int T.a,.int T.b,.int T.c,.int T.d]
abbrev MA(A B:ae.T4):Prop:=∀x∈[A.a,A.b,A.c,A.d],∀y∈[B.a,B.b,B.c,B.d],cG x y=true
def D6(h:A.le 18446744073709551615):MA A B:=λx hx y _=>by
 refine zc2 ?_;obtain⟨h1,h2,h3,h4⟩:=h;simp only[ZaC,ZcI,or_false]at hx;rcases hx with rfl|rfl|rfl|rfl<;>lk
def zC(hk:k<=60000000)(hM:M<P2 k)(h:A.le M)(h':B.le M):MA A B:=λx hx y hy=>by
 obtain⟨h1,h2,h3,h4⟩:=h;obtain⟨g1,g2,g3,g4⟩:=h';simp only[ZaC,ZcI,or_false]at hx hy;refine Pd hk ?_ ?_;rcases hx with rfl|rfl|rfl|rfl<;>lk
 rcases hy with rfl|rfl|rfl|rfl<;>lk
def D7(h:MA A B):Wp (wZ [fz A,fz B] st) λd st'=>d=fz (A.mul B)/\Ex [] st st':=by refine d6 ?_;intro qR;show Ws (Jd [some (fz A),some (fz B)] st) _ _ _ _;unfold Jd fz;refine cK ?_;have hh:∀x y:Int,x∈[A.a,A.b,A.c,A.d]->y∈[B.a,B.b,B.c,B.d]->cG x y=true:=λx y hx hy=>h x hx y hy;have a1:∀y∈[B.a,B.b,B.c,B.d],cG A.a y=true:=h _ (by simp);have a2:∀y∈[B.a,B.b,B.c,B.d],cG A.b y=true:=h _ (by simp);have a3:∀y∈[B.a,B.b,B.c,B.d],cG A.c y=true:=h _ (by simp);have a4:∀y∈[B.a,B.b,B.c,B.d],cG A.d y=true:=h _ (by simp);exists _,Z,LA,at2,T8;exact⟨a1 _ (by simp),a2 _ (by simp),a1 _ (by simp),a2 _ (by simp),a3 _ (by simp),a4 _ (by simp),a3 _ (by simp),a4 _ (by simp),rfl,Z _ _ ⟨rfl,Ex.refl⟩⟩
def Vp{st:Store}{s:cg}(h:ae.bL s):Wp (Jf [bw s] st) λd st'=>d=fz (ae.j9 s)/\Ex [] st st':=by
 obtain⟨b,k⟩:=s;refine d6 ?_;intro qR;show Ws (L9 [some (bw (b,k)),none,none] st) _ _ _ _;unfold L9 bw;cases b with
 |true =>
  refine aT (gP ?_);k_lt Z;refine Z _ _ ⟨λ_=>cK ?_,λh=>absurd h ∅⟩;k_lt2 Z;exact⟨rfl,Z _ _ ⟨rfl,Ex.refl⟩⟩
 |false =>
  obtain⟨k1,k3⟩:=h.1 rfl;simp only at k1 k3;obtain⟨j,rfl⟩:∃j:Nat,k=(j:Int):=⟨k.toNat,by lk⟩;refine aT (gP ?_);k_lt Z;refine Z _ _ ⟨λh=>absurd h ∅,λ_=>ja (aT (bC ?_))⟩;k_lt2 Z;refine Z _ _ ?_;clear Z;show Ws _ _ _ _ _
  let iR:IV:=λi δ st2=>∃v:Option D,δ=[some (.tup [.str "t",.int (j:Int)]),some (fz (ae.qp i)),v]/\Ex [] st st2
  refine aT (nE (aL 0 j) iR ?_ (by rw[gO];lk) ?_ ?_);k_lt Z;exact⟨by lk,Z _ _ ⟨by rw[Zan],none,rfl,Ex.refl⟩⟩;rintro i d δ st2 hd ⟨v,rfl,k2⟩;k_lt Z;refine Z _ _ (bC ?_);k_lt2 Z;refine aS (D7 (A:=ae.T4.qt) (B:=ae.qp i) (D6 ⟨by decide,by decide,by decide,by decide⟩)) ?_;rintro d st3 ⟨rfl,k3⟩;exact Z _ _ ⟨_,rfl,k2.trans k3⟩;rintro δ st2 ⟨v,rfl,k2⟩;rw[gO];refine cK ?_;k_lt Z;refine Z _ _ ⟨?_,k2⟩;show fz (ae.qp j)=fz (ae.qp (j:Int).toNat);rw[Zan]
def PJ{s:cg}{B:Nat}(h:ae.bL s)(hs:s.2.natAbs<=B):(ae.j9 s).le (B+1):=by
 have:=ae.yP (T:=ae.T4.one) (s:=s) (M:=1) (B:=B) ⟨by decide,by decide,by decide,by decide⟩ h hs
 rwa [ae.T4.mul_one,Nat.mul_one]at this
def w6{T:ae.T4}{M N:Nat}(h:T.le M)(hn:M<=N):T.le N:=⟨Zal h.1 hn,Zal h.2.1 hn,Zal h.2.2.1 hn,Zal h.2.2.2 hn⟩
def MB{st:Store}{w:List cg}(hw:∀s∈w,ae.bL s/\s.2.natAbs<=4611686018427387904)(hl:w.length<=1000):Wp (x9 [.tup (w.map bw)] st) λd st'=>d=fz (ae.ai w)/\Ex [] st st':=by
 refine d6 ?_;intro qR;show Ws (DV [some (.tup (w.map bw)),none,none] st) _ _ _ _;unfold DV;refine aT (bC ?_);k_lt Z;refine Z _ _ ?_;clear Z;show Ws _ _ _ _ _
 let iR:IV:=λi δ st2=>∃v:Option D,δ=[some (.tup (w.map bw)),some (fz (ae.ai (w.take i))),v]/\Ex [] st st2
 refine aT (nE (w.map bw) iR ?_ (by rw[Zaa];lk) ?_ ?_);k_lt Z;exact Z _ _ ⟨rfl,none,rfl,Ex.refl⟩;rintro i d δ st2 hd ⟨v2,rfl,k2⟩;rw[Zad]at hd;obtain⟨s,hs,rfl⟩:=Zaz.mp hd;obtain⟨hil,es⟩:=Zac.mp hs;have hsw:=hw s (Zai hs);k_lt Z;refine Z _ _ (bC ?_);k_lt2 Z;refine aS (Vp hsw.1) ?_;rintro d st3 ⟨rfl,k3⟩;refine aS (D7 (D6 (w6 (PJ hsw.1 hsw.2) ∅))) ?_;rintro d p6 ⟨rfl,k4⟩;refine Z _ _ ⟨some (bw s),?_,(k2.trans k3).trans k4⟩;rw[ZaK hil,ae.wK,es];rfl;rintro δ st2 ⟨v2,rfl,k2⟩;rw[Zaa,Zbg];refine cK ?_;k_lt Z;exact Z _ _ ⟨rfl,k2⟩
def PK{w:List cg}{b n:Nat}(hw:∀s∈w,ae.bL s/\s.2.natAbs+1<=P2 b)(hn:w.length<=n):(ae.ai w).le (P2 (b*n)):=by
 have:=ae.YW (B:=P2 b-1) (n:=n) (w:=w) (λs hs=>⟨(hw s hs).1,by have:=(hw s hs).2;lk⟩) hn
 rwa [show P2 b-1+1=P2 b by have:=Df b;lk,AH]at this
def Vq{st:Store}{w:List cg}{b:Nat}(hb:b<=50000)(hw:∀s∈w,ae.bL s/\s.2.natAbs+1<=P2 b)(hl:w.length<=1000):Wp (x9 [.tup (w.map bw)] st) λd st'=>d=fz (ae.ai w)/\Ex [] st st':=by
 refine d6 ?_;intro qR;show Ws (DV [some (.tup (w.map bw)),none,none] st) _ _ _ _;unfold DV;refine aT (bC ?_);k_lt Z;refine Z _ _ ?_;clear Z;show Ws _ _ _ _ _
 let iR:IV:=λi δ st2=>∃v:Option D,δ=[some (.tup (w.map bw)),some (fz (ae.ai (w.take i))),v]/\Ex [] st st2
 refine aT (nE (w.map bw) iR ?_ (by rw[Zaa];lk) ?_ ?_);k_lt Z;exact Z _ _ ⟨rfl,none,rfl,Ex.refl⟩;rintro i d δ st2 hd ⟨v2,rfl,k2⟩;rw[Zad]at hd;obtain⟨s,hs,rfl⟩:=Zaz.mp hd;obtain⟨hil,es⟩:=Zac.mp hs;have hsw:=hw s (Zai hs);k_lt Z;refine Z _ _ (bC ?_);k_lt2 Z;refine aS (Vp hsw.1) ?_;rintro d st3 ⟨rfl,k3⟩;refine aS (D7 (zC (M:=P2 (b*1000)) (k:=b*1000+1) ⋯ (by rw[xv];have:=Df (b*1000);lk) (w6 (PJ (B:=P2 b-1) hsw.1 ⋯) (by have:=Df b;have:=Fs (show b<=b*1000 by lk);lk)) (PK (λs hs=>hw s (List.mem_of_mem_take hs)) (by rw[ZbH];lk)))) ?_;rintro d p6 ⟨rfl,k4⟩;refine Z _ _ ⟨some (bw s),?_,(k2.trans k3).trans k4⟩;rw[ZaK hil,ae.wK,es];rfl;rintro δ st2 ⟨v2,rfl,k2⟩;rw[Zaa,Zbg];refine cK ?_;k_lt Z;exact Z _ _ ⟨rfl,k2⟩
def ycc:Wp (LY [bw a,bw b] st) λd st'=>d=.tup ((ae.cE a b).map bw)/\Ex [] st st':=by
 obtain⟨ab,ak⟩:=a;obtain⟨bb,bk⟩:=b;refine d6 ?_;intro qR;show Ws (HX [some (.tup [.str (if ab then "s" else "t"),.int ak]),some (.tup [.str (if bb then "s" else "t"),.int bk]),none] st) _ _ _ _;unfold HX;have hj:ae.cE (ab,ak) (bb,bk)=if ae.gL (ab,ak) (bb,bk)=0 then[]else[(ab,ae.gL (ab,ak) (bb,bk))]:=rfl
 refine aT (bC ?_);k_lt Z;refine Z _ _ ?_;clear Z;show Ws _ _ _ _ _
 let iR:IN:=λδ st1=>st1=st/\δ=[some (.tup [.str (if ab then "s" else "t"),.int ak]),some (.tup [.str (if bb then "s" else "t"),.int bk]),some (.int (ae.gL (ab,ak) (bb,bk)))]
 refine aT (zj (N:=iR) (gP ?_) ?_);k_lt Z;refine Z _ _ ⟨λh=>bC ?_,λh=>ja ⟨rfl,?_⟩⟩;cases ab with
 |true=>exact absurd h ∅
 |false =>
  k_lt2 Z;exact⟨by decide,Z _ _ ⟨rfl,rfl⟩⟩
 cases ab with
 |true=>rfl
 |false=>exact absurd h ∅
 rintro δ st1 ⟨rfl,rfl⟩;refine aT (gP ?_);k_lt Z;refine Z _ _ ⟨λh=>cK ?_,λh=>ja (cK ?_)⟩;have h:=of_decide_eq_true h;k_lt2 Z;refine⟨rfl,Z _ _ ⟨?_,Ex.refl⟩⟩;rw[hj,if_pos h];rfl;have h:=of_decide_eq_false h;k_lt2 Z;refine⟨rfl,rfl,Z _ _ ⟨?_,Ex.refl⟩⟩;rw[hj,if_neg h];rfl
def PL{xs:List D}{x:D}:eZ (xs ++ [x]) (-1)=some x:=by
 unfold eZ oV;rw[Zae,if_neg ∅,if_pos (by simp;lk)];simp only[Za7];have e:((-1:Int)+((xs.length+[x].length:Nat):Int)).toNat=xs.length:=by simp only[Zbi];lk
 rw[e];simp
def yc5:cutD (xs ++ [x]) none (some (-1))=xs:=by
 have e1:HT.c4 (xs ++ [x]).length 0 none=0:=rfl;have e2:HT.c4 (xs ++ [x]).length (xs ++ [x]).length (some (-1))=xs.length:=by
  unfold HT.c4;simp only;rw[if_pos ∅,Zae,Zbi];lk
 unfold cutD;rw[e1,e2,ZcW,Nat.sub_zero];simp
def ZcQ(a b:Bool):(((if a=true then("s" : Str)else "t")=(if b=true then("s" : Str)else "t")))↔a=b:=by cases a<;>cases b<;>decide
def ZbD{st:Store}{w:List cg}(hl:w.length<=1000):Wp (LZ [.tup (w.map bw)] st) λd st'=>d=.tup ((ae.j8 w).reverse.map bw)/\Ex [] st st':=by
 refine d6 ?_;intro qR;show Ws (HZ [some (.tup (w.map bw)),none,none] st) _ _ _ _;unfold HZ;refine aT (bC ?_);k_lt Z;refine⟨rfl,Z _ _ ?_⟩;clear Z;show Ws _ _ _ _ _;refine aT (nE (w.map bw) (λi δ st2=>∃v:Option D,δ=[some (.tup (w.map bw)),some (.tup ((ae.j8 (w.take i)).reverse.map bw)),v]/\Ex [] st st2) ?_ (by rw[Zaa];lk) ?_ ?_);k_lt Z;exact Z _ _ ⟨rfl,none,rfl,Ex.refl⟩;rintro i d δ st2 hd ⟨v2,rfl,k2⟩;rw[Zad]at hd;obtain⟨s,hs,rfl⟩:=Zaz.mp hd;obtain⟨hil,es⟩:=Zac.mp hs;have ep:ae.j8 (w.take (i+1))=ae.bR (ae.j8 (w.take i)) s:=by rw[ZaK hil,ae.K1,es];rfl
 have hpl:(ae.j8 (w.take i)).length<=1000:=by have:=ae.K2 (w.take i);rw[ZbH]at this;lk
 rw[ep];clear ep;generalize ae.j8 (w.take i)=l at hpl ⊢;k_lt Z;refine Z _ _ (gP ?_);k_lt2 Z;cases l with
 |nil =>
  refine Z _ _ ⟨λh=>absurd h ∅,λ_=>bC ?_⟩;k_lt2 Z;exact⟨rfl,rfl,Z _ _ ⟨some (bw s),rfl,k2⟩⟩
 |cons t r =>
  have eg:(t :: r).reverse.map bw=r.reverse.map bw ++ [bw t]:=by simp
  rw[eg];have el:decide ((0:Int)<((r.reverse.map bw ++ [bw t]).length:Nat))=true:=decide_eq_true (by simp);have es1:bw t=.tup [.str (if t.1 then "s" else "t"),.int t.2]:=rfl;have MC:bw s=.tup [.str (if s.1 then "s" else "t"),.int s.2]:=rfl;have elt:(if t.1=true then("s" : Str)else "t")=(if s.1=true then("s" : Str)else "t")↔t.1=s.1:=ZcQ _ _;exists PL,es1,MC;rw[if_pos (by simp)];refine Z _ _ ⟨λh=>bC ?_,λh=>bC ?_⟩;have h:=elt.mp (of_decide_eq_true h);k_lt2 Z;rw[eg,yc5];exists PL;refine aS ycc ?_;rintro d st3 ⟨rfl,k3⟩;w_how;refine⟨nh ?_,Z _ _ ⟨some (bw s),?_,k2.trans k3⟩⟩
  have:(ae.cE t s).length<=1:=by unfold ae.cE;split<;>simp
  simp only[Zaa,ZaW];simp only[ZaE]at hpl;lk;have ej:(ae.cE t s).reverse=ae.cE t s:=by unfold ae.cE;split<;>rfl
  rw[ae.vH,if_pos h,List.reverse_append,Zav,ej];rfl;have h:=λe=>of_decide_eq_false h (elt.mpr e);k_lt2 Z;refine⟨rfl,nh ?_,Z _ _ ⟨some (bw s),?_,k2⟩⟩;simp only[Zaa,ZaW,Zbi];lk;have e2:(s :: t :: r).reverse.map bw=(t :: r).reverse.map bw ++ [bw s]:=by simp
  rw[ae.vH,if_neg h,e2];rfl
 rintro δ st2 ⟨v2,rfl,k2⟩;rw[Zaa,Zbg];refine cK ?_;k_lt Z;exact Z _ _ ⟨rfl,k2⟩
def Vr{st:Store}{v w:List cg}(hl:v.length+w.length<=1000):Wp (Ii [.tup (v.map bw),.tup (w.map bw)] st) λd st'=>d=.tup ((ae.j8 (v ++ w)).reverse.map bw)/\Ex [] st st':=by refine d6 ?_;intro qR;show Ws (Ih [some (.tup (v.map bw)),some (.tup (w.map bw))] st) _ _ _ _;unfold Ih;refine cK ?_;k_lt Z;refine⟨nh (by simp only[Zaa];lk),?_⟩;rw[<- Zav];refine aS (ZbD (by rw[Zae];exact hl)) ?_;rintro d st3 ⟨rfl,k3⟩;exact Z _ _ ⟨rfl,k3⟩
def YbS:Wp (Mf [bw s] st) λd st'=>d=bw (ae.oW s)/\Ex [] st st':=by
 obtain⟨b,k⟩:=s;refine d6 ?_;intro qR;show Ws (Jr [some (.tup [.str (if b then "s" else "t"),.int k])] st) _ _ _ _;unfold Jr;refine aT (gP ?_);cases b with
 |true =>
  k_lt Z;refine Z _ _ ⟨λ_=>cK ?_,λh=>absurd h ∅⟩;k_lt2 Z;exact⟨rfl,Z _ _ ⟨rfl,Ex.refl⟩⟩
 |false =>
  k_lt Z;refine Z _ _ ⟨λh=>absurd h ∅,λ_=>ja (cK ?_)⟩;k_lt2 Z;exact⟨rfl,Z _ _ ⟨rfl,Ex.refl⟩⟩
def xbS{st:Store}{w:List cg}(hl:w.length<=1000):Wp (Mg [.tup (w.map bw)] st) λd st'=>d=.tup ((ae.iy w).map bw)/\Ex [] st st':=by
 refine d6 ?_;intro qR;show Ws (Jt [some (.tup (w.map bw))] st) _ _ _ _;unfold Jt;refine cK ?_;k_lt Z;refine Yc1 (w.reverse.map bw) (λi y=>∃s,w.reverse[i]?=some s/\y=bw (ae.oW s)) (Ex [] st) ?_ (by rw[Zaa,ZaW];lk) ?_ ?_;exists _,cL,Yds;refine⟨_,rfl,cL _ _ ⟨λi st2 hi _=>?_,Ex.refl⟩⟩;rw[<- List.map_reverse];exact sX _ st2 i st2 hi Ex.refl;intro i d hd st1 k1;rw[Zad]at hd;obtain⟨s,hs,rfl⟩:=Zaz.mp hd;k_lt cL;refine aS YbS ?_;rintro d st3 ⟨rfl,k3⟩;exact cL _ _ ⟨⟨s,hs,rfl⟩,k1.trans k3⟩;intro ys st' k' hy h;w_how;refine Z _ _ ⟨?_,k'.app _⟩
 congr 1
 refine Zby λi=>?_;rw[Zaa,ZaW]at hy;have eb:ae.iy w=w.reverse.map ae.oW:=by unfold ae.iy;rw[List.map_reverse]
 rw[eb,Zad,Zad];rcases ZbZ i ys.length with hi|hi
 obtain⟨s,hs,e⟩:=h i ys[i] (Zab hi);rw[hs,Zab hi,e];rfl;rw[ZaO hi,ZaO (by rw[ZaW];lk)];rfl
def Vs(h:MA A B):Wp (L3 [fz A,fz B] st) λd st'=>d=fz (A.mul B)/\Ex [] st st':=by refine d6 ?_;intro qR;show Ws (IA [some (fz A),some (fz B),none,none,none,none,none,none,none,none] st) _ _ _ _;unfold IA fz;have a1:∀y∈[B.a,B.b,B.c,B.d],cG A.a y=true:=h _ (by simp);have a2:∀y∈[B.a,B.b,B.c,B.d],cG A.b y=true:=h _ (by simp);have a3:∀y∈[B.a,B.b,B.c,B.d],cG A.c y=true:=h _ (by simp);have a4:∀y∈[B.a,B.b,B.c,B.d],cG A.d y=true:=h _ (by simp);refine aT (uk ?_);k_lt Z;refine Z _ _ ?_;k_lt2 Z;refine⟨rfl,Z _ _ (aT (uk ?_))⟩;k_lt2 Z;refine Z _ _ ?_;k_lt2 Z;refine⟨rfl,Z _ _ (cK ?_)⟩;clear Z;exists _,Z,LA;exact⟨a1 _ (by simp),a2 _ (by simp),a1 _ (by simp),a2 _ (by simp),a3 _ (by simp),a4 _ (by simp),a3 _ (by simp),a4 _ (by simp),rfl,Z _ _ ⟨rfl,Ex.refl⟩⟩
def XbS{st:Store}{w:List cg}(hw:∀s∈w,ae.bL s/\s.2.natAbs<=1000000)(hl:w.length<=1000):Wp (IE [.tup (w.map bw)] st) λd st'=>d=fz (ae.ai w)/\Ex [] st st':=by
 refine d6 ?_;intro qR;show Ws (IC [some (.tup (w.map bw)),none,none,none,none] st) _ _ _ _;unfold IC;refine aT (bC ?_);k_lt Z;refine⟨rfl,Z _ _ ?_⟩;clear Z;show Ws _ _ _ _ _;refine aT (nE (w.map bw) (λi δ st2=>∃v1 v2 v3:Option D,δ=[some (.tup (w.map bw)),some (fz (ae.ai (w.take i))),v1,v2,v3]/\Ex [] st st2) ?_ (by rw[Zaa];lk) ?_ ?_);k_lt Z;exact Z _ _ ⟨rfl,none,none,none,rfl,Ex.refl⟩;rintro i d δ st2 hd ⟨v1,v2,v3,rfl,k2⟩;rw[Zad]at hd;obtain⟨s,hs,rfl⟩:=Zaz.mp hd;obtain⟨hil,es⟩:=Zac.mp hs;obtain⟨hp,hb⟩:=hw s (Zai hs);have en:ae.ai (w.take (i+1))=(ae.j9 s).mul (ae.ai (w.take i)):=by rw[ZaK hil,ae.wK,es]
 rw[en];clear en;generalize ae.ai (w.take i)=T;obtain⟨b,k⟩:=s;have es1:bw (b,k)=.tup [.str (if b then "s" else "t"),.int k]:=rfl;rw[es1];k_lt Z;refine⟨rfl,Z _ _ ?_⟩;clear Z;show Ws _ _ _ _ _;cases b with
 |true =>
  refine nE (aL 0 1) (λi δ st3=>∃v3:Option D,δ=[some (.tup (w.map bw)),some (fz (if i=0 then T else(ae.j9 (true,k)).mul T)),some (.str "s"),some (.int k),v3]/\Ex [] st st3) ?_ (by rw[gO];lk) ?_ ?_;k_lt Z;refine⟨rfl,.int 1,by rw[if_neg ∅];exact xQ _ _,_,rfl,?_⟩;exact⟨by decide,Z _ _ ⟨rfl,_,rfl,k2.trans (Ex.cZ _)⟩⟩;rintro i d δ st3 hd ⟨w3,rfl,k3⟩;have hi0:i=0:=by have:=ff hd;rw[gO]at this;lk
  subst hi0;k_lt Z;refine Z _ _ (bC ?_);k_lt2 Z;refine⟨rfl,rfl,rfl,fz (ae.j9 (true,k)),by rw[if_neg ∅];exact xQ _ _,?_⟩;refine aS (Vs (A:=ae.j9 (true,k)) (B:=T) (D6 (w6 (PJ hp hb) ∅))) ?_;rintro d p6 ⟨rfl,k4⟩;exact Z _ _ ⟨_,rfl,(k3.trans (Ex.cZ _)).trans k4⟩;rintro δ st3 ⟨w3,rfl,k3⟩;exact⟨_,_,_,rfl,k3⟩
 |false =>
  obtain⟨j1,j3⟩:=hp.1 rfl;simp only at j1 j3;obtain⟨j,rfl⟩:∃j:Nat,k=(j:Int):=⟨k.toNat,by lk⟩;refine nE (aL 0 j) (λi δ st3=>∃v3:Option D,δ=[some (.tup (w.map bw)),some (fz ((ae.qp i).mul T)),some (.str "t"),some (.int (j:Int)),v3]/\Ex [] st st3) ?_ (by rw[gO];lk) ?_ ?_;k_lt Z;refine⟨rfl,.int (j:Int),by rw[if_pos ∅];exact DB _ _ _,_,rfl,?_⟩;refine⟨by lk,Z _ _ ⟨by rw[Zan],v3,?_,k2.trans (Ex.cZ _)⟩⟩;rw[show(ae.qp 0).mul T=T from ae.T4.one_mul T];rfl;rintro i d δ st3 hd ⟨w3,rfl,k3⟩;k_lt Z;refine Z _ _ (bC ?_);k_lt2 Z;refine⟨rfl,rfl,rfl,fz ae.T4.qt,by rw[if_pos ∅];exact DB _ _ _,?_⟩;refine aS (Vs (A:=ae.T4.qt) (B:=(ae.qp i).mul T) (D6 ⟨by decide,by decide,by decide,by decide⟩)) ?_;rintro d' p6 ⟨rfl,k4⟩;refine Z _ _ ⟨some d,?_,(k3.trans (Ex.cZ _)).trans k4⟩;rw[show(ae.qp (i+1)).mul T=ae.T4.qt.mul ((ae.qp i).mul T)from ae.T4.assoc _ _ _];rfl;rintro δ st3 ⟨w3,rfl,k3⟩;rw[gO];exact⟨_,_,_,rfl,k3⟩
 rintro δ st2 ⟨v1,v2,v3,rfl,k2⟩;rw[Zaa,Zbg];refine cK ?_;k_lt Z;exact Z _ _ ⟨rfl,k2⟩
def Xb3(hy:y≠0)(hb:y.natAbs<P2 100):Wp (Mc [.int x,.int y] st) λd st'=>d=.int (ae.nr x y)/\Ex [] st st':=by
 have hl:(2*y).natAbs.log2<9000:=by
  have h1:(2*y).natAbs<2 ^ 101:=by
   have e:P2 101=2*P2 100:=xv 100;show _<P2 101;lk
  have:=(Nat.log2_lt (n:=(2*y).natAbs) (k:=101) ⋯).mpr h1;lk
 refine d6 ?_;intro qR;show Ws (Ji [some (.int x),some (.int y)] st) _ _ _ _;unfold Ji;refine cK ?_;exists _,Z,Xc1;exact⟨.inl ∅,.inl ∅,⟨by lk,hl⟩,Z _ _ ⟨rfl,Ex.refl⟩⟩
def JY:Wp (zz [.int k] st) λd st'=>d=.tup ((ae.nZ k).map bw)/\Ex [] st st':=by refine d6 ?_;intro qR;show Ws (Jb [some (.int k)] st) _ _ _ _;unfold Jb;refine aT (gP ?_);k_lt Z;refine Z _ _ ⟨λh=>cK ?_,λh=>ja (cK ?_)⟩;have h:k=0:=of_decide_eq_true h;k_lt2 Z;refine⟨rfl,Z _ _ ⟨?_,Ex.refl⟩⟩;unfold ae.nZ;rw[if_pos h];rfl;have h:¬k=0:=of_decide_eq_false h;k_lt2 Z;refine⟨rfl,rfl,Z _ _ ⟨?_,Ex.refl⟩⟩;unfold ae.nZ;rw[if_neg h];rfl
def Vt(hT:T.le (P2 102))(hx:x.natAbs<=P2 102)(hy:y.natAbs<=P2 102):Wp (IZ [fz T,.tup [.int x,.int y]] st) λd st'=>d=.tup [.int (T.a*x+T.b*y),.int (T.c*x+T.d*y)]/\Ex [] st st':=by
 have ok:∀i j:Int,i.natAbs<=P2 102->j.natAbs<=P2 102->cG i j=true:=λi j hi hj=>by
  have e:P2 103=2*P2 102:=xv 102;have:=Df 102;exact Pd (k:=103) ∅ ⋯ ⋯
 obtain⟨h1,h2,h3,h4⟩:=hT;refine d6 ?_;intro qR;show Ws (IY [some (fz T),some (.tup [.int x,.int y])] st) _ _ _ _;unfold IY fz;refine cK ?_;exists _,Z,LA,at2,T8;exact⟨ok _ _ h1 hx,ok _ _ h2 hy,ok _ _ h3 hx,ok _ _ h4 hy,rfl,Z _ _ ⟨rfl,Ex.refl⟩⟩
def PN:Wp (aD (.tup [.int x,.int y]) (.int 0) st) Q↔Q (.int x) st:=bh
def PQ:Wp (aD (.tup [.int x,.int y]) (.int 1) st) Q↔Q (.int y) st:=bh
def tq(hM:M<2 ^ k)(hk:k<=100):M<P2 100/\P2 101=2*P2 100/\P2 102=2*P2 101/\100<P2 100:=⟨ZaI hM (ZbS (n:=2) ∅ hk),xv 100,xv 101,RV 100⟩
abbrev rW:Nat->Int->Int->List cg
 |0,_,_=>[]
 |f+1,u,v=>if v=0 then[]else ae.sg u v ++ rW f (-v) (u-ae.nr u v*v)
def ydv(hv:v≠0)(hr:r<=k)(e:rW (k+1) x y=g ++ rW (k+1-r) u v):rW (k+1) x y=g ++ ae.sg u v ++ rW (k+1-(r+1)) (-v) (u-ae.nr u v*v):=by rw[e,show k+1-r=(k+1-(r+1))+1 by lk,rW,if_neg hv,Zbx]
def Cw(hv:v=0)(hr:r<=k)(e:rW (k+1) x y=g ++ rW (k+1-r) u v):g=rW (k+1) x y:=by rw[e,show k+1-r=(k+1-(r+1))+1 by lk,rW,if_pos hv,ZaZ]
def Vu(hM:M<2 ^ k)(hk:k<=100)(hx:x.natAbs<=M)(hy:y.natAbs<=M):Wp (Jl [.tup [.int x,.int y]] st) λd st'=>∃g:List cg,d=.tup (g.map bw)/\(∀s∈g,ae.bL s/\s.2.natAbs<=M+1)/\g.length<=2*k/\(ae.ai g).c*x+(ae.ai g).d*y=0/\(∃(u:Int) (r:Nat),ae.Bv g u 0 r)/\g=rW (k+1) x y/\Ex [] st st':=by
 refine d6 ?_;intro qR;show Ws (Jk [some (.tup [.int x,.int y]),none,none,none] st) _ _ _ _;unfold Jk;refine aT (bC ?_);refine bG ?_;intro cD Z;w_how;refine⟨rfl,?_⟩;refine Z _ _ (aT (bC ?_));clear Z;refine bG ?_;intro cD Z;w_how
 let iR:IV:=λm δ s=>∃(g:List cg) (u v:Int) (r:Nat) (v3:Option D),m=k+1-r/\r<=k/\δ=[some (.tup [.int x,.int y]),some (.tup (g.map bw)),some (.tup [.int u,.int v]),v3]/\ae.Dv M x y g u v r/\ae.Bv g u v r/\rW (k+1) x y=g ++ rW (k+1-r) u v/\Ex [] st s
 refine Z _ _ (aT (xO iR (k+1) (by show k+1<1000000;lk) ⟨[],x,y,0,none,rfl,ZaL _,rfl,ae.Dv.zero hx hy,ae.Bv.zero x y,rfl,Ex.refl⟩ ?_));clear Z;rintro m δ s ⟨g,u,v,r,v3,rfl,hr,rfl,dv,bv,el,k1⟩;have hub:=dv.ub;obtain⟨PR,Vv,Vw,Vx⟩:=tq hM hk;have hvb:v.natAbs<=M:=Zal (Zcr _ (Nat.one_le_two_pow)) dv.vb;exists _,Z,PQ;refine Z _ _ ⟨λhc=>?_,λhc=>?_⟩;have hv:v≠0:=by simpa using hc
 have few:=dv.few (k:=k) hv hM;have dv':=dv.step hv;refine aT (bC ?_);clear Z;exists _,Z,PN,PQ;refine aS (Xb3 hv ⋯) ?_;rintro d s1 ⟨rfl,k2⟩;w_how;refine aS (JY) ?_;rintro d s2 ⟨rfl,k3⟩;w_how;have hsl:=ae.A7 (-(ae.nr u v));refine⟨rfl,rfl,nh (by rw[Zaa];show _+1<=_;lk),?_⟩;have e1:((ae.nZ (-(ae.nr u v))).map bw ++ [D.tup [D.str "t",D.int 1]])=(ae.sg u v).map bw:=by
  unfold ae.sg;rw[Zav];rfl
 rw[e1];have uK:=ae.SJ (x:=u) hv;refine Z _ _ (aT (bC ?_));clear Z;refine bG ?_;intro cD Z;w_how;refine aS (Vq (b:=102) (w:=ae.sg u v) ∅ (λs hs=>⟨(uK s hs).1,by have:=(uK s hs).2;lk⟩) (by have:=ae.Ot u v;lk)) ?_;rintro d s3 ⟨rfl,k4⟩;have hnr:=ae.SI (x:=u) hv;refine aS (Vt (T:=ae.ai (ae.sg u v)) (x:=u) (y:=v) (by rw[ae.Ld];exact⟨by show(0:Int).natAbs<=_;lk,by show(-1:Int).natAbs<=_;lk,by show(1:Int).natAbs<=_;lk,by show(-(ae.nr u v)).natAbs<=_;lk⟩) ⋯ ⋯) ?_;rintro d s4 ⟨rfl,k5⟩;rw[ae.Ld];have e2:∀q:Int,D.tup [.int ((0:Int)*u + -1*v),.int (1*u + -q*v)]=.tup [.int (-v),.int (u-q*v)]:=λq=>by
  have a1:(0:Int)*u + -1*v=-v:=by lk
  have a2:1*u + -q*v=u-q*v:=by rw[Za3];lk
  rw[a1,a2]
 show cD (D.tup [.int ((0:Int)*u + -1*v),.int (1*u + -(ae.nr u v)*v)]) s4;rw[e2];refine Z _ _ (bC ?_);clear Z;refine bG ?_;intro cD Z;w_how;have Cy:=dv.ln;have hdl:=ae.Ot u v;refine⟨nh (by rw[Zaa,Zaa];lk),Z _ _ ⟨k+1-(r+1),by lk,g ++ ae.sg u v,_,_,r+1,_,rfl,by lk,by rw[Zav];rfl,dv',bv.step hv,ydv hv hr el,(((k1.trans k2).trans k3).trans k4).trans k5⟩⟩;have hv:v=0:=by simpa using hc
 refine cK ?_;clear Z;refine bG ?_;intro cD Z;w_how;exact Z _ _ ⟨g,rfl,dv.pr,by have:=dv.ln;lk,by rw[<- dv.vc];exact hv,⟨u,r,hv ▸ bv⟩,Cw hv hr el,k1⟩
def MD:Wp (aD (fz T) (.int 0) st) Q↔Q (.int T.a) st:=bh
def ME:Wp (aD (fz T) (.int 1) st) Q↔Q (.int T.b) st:=bh
def PU:Wp (aD (fz T) (.int 2) st) Q↔Q (.int T.c) st:=bh
def Vy:Wp (aD (fz T) (.int 3) st) Q↔Q (.int T.d) st:=bh
def zb4(hl:T.le (P2 100)):Wp (Md [fz T] st) λd st'=>d=.bl (decide (T.a*T.d-T.b*T.c=1))/\Ex [] st st':=by
 have ok:∀i j:Int,i.natAbs<=P2 100->j.natAbs<=P2 100->cG i j=true:=λi j hi hj=>by
  have e:P2 101=2*P2 100:=xv 100;have:=Df 100;exact Pd (k:=101) ∅ ⋯ ⋯
 refine d6 ?_;intro qR;show Ws (Jn [some (fz T)] st) _ _ _ _;unfold Jn;refine cK ?_;have hs:b7 st (fz T)=some [.int T.a,.int T.b,.int T.c,.int T.d]:=rfl;exists _,Z,hs,LA,MD,ME,PU,Vy;obtain⟨h1,h2,h3,h4⟩:=hl;rw[if_pos (show decide ((([D.int T.a,D.int T.b,D.int T.c,D.int T.d]:List D).length:Int)=4)=true from rfl)];exact⟨ok _ _ h1 h4,ok _ _ h2 h3,Z _ _ ⟨rfl,Ex.refl⟩⟩
def YbD:Wp (Me [fz A] st) λd st'=>d=.tup ((ae.qJ A).map bw)/\Ex [] st st':=by
 refine d6 ?_;intro qR;show Ws (Jp [some (fz A)] st) _ _ _ _;unfold Jp;refine aT (gP ?_);exists _,Z,MD;refine Z _ _ ⟨λh=>cK ?_,λh=>ja (cK ?_)⟩;have h:A.a=1:=of_decide_eq_true h;clear Z;exists _,Z,ME;refine aS (JY) ?_;rintro d s1 ⟨rfl,k1⟩;refine Z _ _ ⟨?_,k1⟩;unfold ae.qJ;rw[if_pos h];have h:¬A.a=1:=of_decide_eq_false h;clear Z;exists _,Z,ME;refine⟨rfl,rfl,?_⟩;refine aS (JY) ?_;rintro d s1 ⟨rfl,k1⟩;w_how
 have:=ae.A7 (-A.b);refine⟨nh (by rw[Zaa];show 1+_<=_;lk),Z _ _ ⟨?_,k1⟩⟩;unfold ae.qJ;rw[if_neg h];rfl
def Zcc{T:ae.T4}{g:List cg}{M k:Nat}(hM:M<2 ^ k)(hk:k<=100)(hl:T.le M)(hg:∀s∈g,ae.bL s/\s.2.natAbs<=M+1)(Cy:g.length<=2*k):∀s∈ae.j8 (ae.qJ ((ae.ai g).mul T) ++ ae.iy g),s.2.natAbs+1<=P2 20400:=by
 obtain⟨PR,Vv,Vw,Vx⟩:=tq hM hk;have h61:M+2<=P2 101:=by lk
 have hgt:=PK (w:=g) (b:=101) (n:=200) (λs hs=>⟨(hg s hs).1,by have:=(hg s hs).2;lk⟩) ⋯;have JZ:∀x y:Int,x.natAbs<=P2 (101*200)->y.natAbs<=M->(x*y).natAbs<=P2 20301:=λx y hx hy=>by
  rw[Za5];refine Zal (ZbW hx (Zal hy (Zal (ZcG M 2) h61))) ?_;rw[RU];exact Fs ∅
 have hA:((ae.ai g).mul T).b.natAbs<=P2 20302:=by
  have e:((ae.ai g).mul T).b=(ae.ai g).a*T.b+(ae.ai g).b*T.d:=rfl;have h1:=JZ _ _ hgt.1 hl.2.1;have h2:=JZ _ _ hgt.2.1 hl.2.2.2;have h3:P2 20302=2*P2 20301:=xv 20301;rw[e];lk
 have PV:P2 101<=P2 20302:=Fs ∅;have h7:20302<P2 20302:=RV 20302;generalize hB:P2 20302=B at hA PV h7;have hv:∀s∈ae.qJ ((ae.ai g).mul T),ae.bL s/\s.2.natAbs<=B:=λs hs=>by
  refine⟨ae.SK _ s hs,?_⟩;unfold ae.qJ at hs;split at hs;rw[(ae.yU s hs).2];exact hA;rcases ZaC.mp hs with rfl|hs
  show(2:Int).natAbs<=B;lk;rw[(ae.yU s hs).2,Int.natAbs_neg];exact hA
 have hb:∀s∈ae.iy g,ae.bL s/\s.2.natAbs<=B:=λs hs=>by
  refine⟨ae.A5 (λs hs=>(hg s hs).1) s hs,?_⟩;unfold ae.iy at hs;obtain⟨t,ht,rfl⟩:=Zau.mp (Zbh.mp hs);obtain⟨h1,h2⟩:=hg t ht;obtain⟨b,k⟩:=t;cases b with
  |true=>show(-k).natAbs<=B;simp only at h2;lk
  |false=>have:=h1.1 rfl;simp only at this;show(4-k).natAbs<=B;lk
 intro s hs
 have hq:=ae.AY (B:=B) (w:=ae.qJ ((ae.ai g).mul T) ++ ae.iy g) (λs hs=>by
  rcases ZaA.mp hs with h|h
  exact hv s h
  exact hb s h) s hs
 have hlen:(ae.qJ ((ae.ai g).mul T) ++ ae.iy g).length<=256:=by
  rw[Zae];have h1:=ae.SM ((ae.ai g).mul T);have h2:(ae.iy g).length=g.length:=by unfold ae.iy;rw[ZaW,Zaa]
  lk
 have h3:s.2.natAbs<=256*B:=Zal hq (ZbU _ hlen);have h4:P2 20310=256*B:=by
  have:=RU 8 20302;rw[hB]at this;rw[show(20310:Nat)=8+20302 from rfl,<- this];rfl
 have h5:P2 20311=2*P2 20310:=xv 20310;have h6:P2 20311<=P2 20400:=Fs ∅;lk
def Vz(hM:M<2 ^ k)(hk:k<=100)(hl:T.le M)(hd:T.a*T.d-T.b*T.c=1):Wp (Jw [fz T] st) λd st'=>∃w:List cg,d=.tup (w.map bw)/\(∀s∈w,ae.bL s/\s.2.natAbs+1<=P2 20400)/\w.length<=2*k+2/\ae.ai w=T/\Ex [] st st':=by
 refine d6 ?_;intro qR;show Ws (Jv [some (fz T),none] st) _ _ _ _;unfold Jv;refine aT (gP ?_);k_lt Z;obtain⟨PR,Vv,Vw,Vx⟩:=tq hM hk;refine aS (zb4 (w6 hl ⋯)) ?_;rintro d s1 ⟨rfl,k1⟩;refine⟨_,rfl,?_⟩;refine Z _ _ ⟨λh=>absurd h (by simp[hd]),λ_=>ja (aT (bC ?_))⟩;clear Z;exists _,Z,MD,PU;refine⟨rfl,?_⟩;refine aS (Vu hM hk hl.1 hl.2.2.1) ?_;rintro d s2 ⟨g,rfl,hg,Cy,h0,_,_,k2⟩;refine Z _ _ (cK ?_);k_lt2 Z;have J0:∀s∈g,ae.bL s:=λs hs=>(hg s hs).1;have VA:∀s∈g,ae.bL s/\s.2.natAbs+1<=P2 101:=λs hs=>⟨(hg s hs).1,by have:=(hg s hs).2;lk⟩;refine aS (Vq (b:=101) (w:=g) ∅ VA ⋯) ?_;rintro d s3 ⟨rfl,k3⟩;have hgt:=PK (n:=200) VA ⋯;refine aS (D7 (zC (k:=101*200+1) (M:=P2 (101*200)) ∅ (by have:=Df (101*200);have:=xv (101*200);lk) hgt (w6 hl (Zal (Zbp PR) (Fs ∅))))) ?_;rintro d s4 ⟨rfl,k4⟩;refine aS (YbD) ?_;rintro d s5 ⟨rfl,k5⟩;refine aS (xbS (w:=g) ⋯) ?_;rintro d s6 ⟨rfl,k6⟩;have pZ:=ae.SM ((ae.ai g).mul T);have rK:(ae.iy g).length=g.length:=by unfold ae.iy;rw[ZaW,Zaa]
 refine aS (Vr (v:=ae.qJ ((ae.ai g).mul T)) (w:=ae.iy g) ⋯) ?_;rintro d s7 ⟨rfl,k7⟩;obtain⟨e1,e2⟩:=ae.Zc hd J0 h0;refine Z _ _ ⟨_,rfl,λs hs=>⟨e2 s hs,Zcc hM hk hl hg Cy s (Zbh.mp hs)⟩,?_,e1,(((((k1.trans k2).trans k3).trans k4).trans k5).trans k6).trans k7⟩;rw[ZaW];have:=ae.K2 (ae.qJ ((ae.ai g).mul T) ++ ae.iy g);rw[Zae]at this;lk
def xbD(fl:pX n xs ys)(hn:n<=100)(s0:0<=s)(s1:s<(n:Int)):Wp (LN [b5 xs ys,.int s] st) λd st'=>d=.tup ((ae.inv (ae.bf xs ys s n)).map D.int)/\Ex [] st st':=by obtain⟨tx,ty,all⟩:=fl;refine d6 ?_;intro qR;show Ws (Hy [some (b5 xs ys),some (.int s)] st) _ _ _ _;unfold Hy;refine cK ?_;k_lt Z;refine aS (Ve tx ty hn s0 s1) ?_;rintro d st1 ⟨rfl,k1⟩;refine aS (Pw (ae.K0 tx ty s0 s1 all) hn) ?_;rintro d st2 ⟨rfl,k2⟩;exact Z _ _ ⟨rfl,k1.trans k2⟩
abbrev Cz(xs ys:List Int)(s:Int)(n:Nat):D:=b5 (ae.num xs (ae.bf xs ys s n)) (ae.num ys (ae.bf xs ys s n))
def zbT(fl:pX n xs ys)(hn:n<=100)(s0:0<=s)(s1:s<(n:Int)):Wp (LO [b5 xs ys,.int s] st) λd st'=>d=Cz xs ys s n/\Ex [] st st':=by have fl':=fl;obtain⟨tx,ty,all⟩:=fl;have tb:=ae.K0 tx ty s0 s1 all;refine d6 ?_;intro qR;show Ws (HA [some (b5 xs ys),some (.int s)] st) _ _ _ _;unfold HA;refine cK ?_;k_lt Z;refine aS (xbD fl' hn s0 s1) ?_;rintro d st1 ⟨rfl,k1⟩;refine aS (xcb tx ty tb.aG hn) ?_;rintro d st2 ⟨rfl,k2⟩;rw[ae.yO tx tb,ae.yO ty tb];exact Z _ _ ⟨rfl,k1.trans k2⟩
def Ycc(fl:pX n xs ys)(hn:n<=100)(s0:0<=s)(s1:s<(n:Int)):Wp (LF [b5 xs ys,.int s] st) λd st'=>d=Cz xs ys s n/\Ex [] st st':=by
 obtain⟨tx,ty,all⟩:=fl;have hlx:=tx.length;have D2:=ty.length;refine d6 ?_;intro qR;show Ws (G8 [some (b5 xs ys),some (.int s),none,none,none] st) _ _ _ _;unfold G8;refine aT (bC ?_);k_lt Z;refine⟨rfl,Z _ _ (aT (TF ((ae.upto n).map D.int) (st.length+2) (λk δ st2=>∃(v3 v4:Option D),δ=[some (b5 xs ys),some (.int s),some (.ref st.length),v3,v4]/\st2[st.length]?=some (.lst ((ae.bf xs ys s k).map D.int))/\st2[st.length+2]?=some (.lst ((ae.upto n).map D.int))/\Ex [] st st2) ?_ ?_ ?_ ?_ ?_))⟩;clear Z;unfold b5;k_lt Z;rw[Zaa,hlx,show((n:Int)-0).toNat=n by lk,uo];have e:(st ++ [O.lst [D.int s]] ++ [O.lB 0 (n:Int)]).length=st.length+2:=by simp
 rw[e];exact⟨wV ⋯,Z _ _ ⟨rfl,none,none,rfl,km (km i7),by rw[<- e];exact i7,((Ex.cZ _).app _).app _⟩⟩;rw[Zaa,ae.rj];lk;rintro k δ st2 ⟨_,_,_,_,h,_⟩;exact bO h;rintro k d δ st2 hd ⟨v3,v4,rfl,hl,hr,k2⟩;obtain⟨x',hx',rfl⟩:=GF hd;have hkn:=ff hx';rw[ae.rj]at hkn;rw[ae.Fz hkn]at hx';cases hx';have rK:=ae.AW tx ty s0 s1 k;have hb1:=ae.AW tx ty s0 s1 (k+1);k_lt2 Z;refine Z _ _ ?_;clear Z;by_cases qc:k<(ae.bf xs ys s k).length;obtain⟨x,hx⟩:∃x,(ae.bf xs ys s k)[k]?=some x:=⟨_,Zab qc⟩;obtain⟨x0,x1⟩:=ae.sd tx ty s0 s1 k x (Zai hx);have e1:ae.bf xs ys s (k+1)=ae.visit xs ys (ae.bf xs ys s k) x:=by
  show(match (ae.bf xs ys s k)[k]? with|some x=>ae.visit xs ys (ae.bf xs ys s k) x|none=>ae.bf xs ys s k)=_;rw[hx]
 rw[e1]at hb1 ⊢;have hp1:=(ae.yN (ae.cN (ae.bf xs ys s k) (ae.app xs x)) (ae.app ys x)).length_le;have hp0:=(ae.yN (ae.bf xs ys s k) (ae.app xs x)).length_le;change _<=(ae.visit xs ys (ae.bf xs ys s k) x).length at hp1;refine nE [.tup (xs.map D.int),.tup (ys.map D.int)] (λm δ st3=>∃(v4:Option D) (G:List Int),δ=[some (b5 xs ys),some (.int s),some (.ref st.length),some (.int (k:Int)),v4]/\st3[st.length]?=some (.lst (G.map D.int))/\st3[st.length+2]?=some (.lst ((ae.upto n).map D.int))/\(m=0->G=ae.bf xs ys s k)/\(m=1->G=ae.cN (ae.bf xs ys s k) (ae.app xs x))/\(m=2->G=ae.visit xs ys (ae.bf xs ys s k) x)/\Ex [] st st3) ?_ (by simp) ?_ ?_;unfold b5;k_lt Z;exact Z _ _ ⟨rfl,v4,_,rfl,hl,hr,λ_=>rfl,λz=>by lk,λz=>by lk,k2⟩;rintro m z δ st3 hm ⟨v4,G,rfl,hl3,rT,g0,g1,_,k3⟩;have hm2:m<2:=ff hm;obtain⟨zs,rfl,tz,em⟩:∃(zs:List Int),z=.tup (zs.map D.int)/\ae.Tn n zs/\((m=0/\zs=xs)\/(m=1/\zs=ys)):=by
  rcases(show m=0\/m=1 by lk)with rfl|rfl
  exact⟨xs,by simpa using hm.symm,tx,.inl ⟨rfl,rfl⟩⟩;exact⟨ys,by simpa using hm.symm,ty,.inr ⟨rfl,rfl⟩⟩
 have hG:G.length<=100/\G[k]?=some x/\k<G.length:=by
  rcases em with⟨rfl,_⟩|⟨rfl,_⟩
  rw[g0 rfl];exact⟨by lk,hx,qc⟩;rw[g1 rfl];refine⟨by lk,?_,by lk⟩;obtain⟨t,e⟩:=ae.yN (ae.bf xs ys s k) (ae.app xs x);rw[<- e,Zap qc];exact hx
 have JV:∀G',G'=ae.cN G (ae.app zs x)->(m+1=0->G'=ae.bf xs ys s k)/\(m+1=1->G'=ae.cN (ae.bf xs ys s k) (ae.app xs x))/\(m+1=2->G'=ae.visit xs ys (ae.bf xs ys s k) x):=λG' e=>by
  rcases em with⟨rfl,rfl⟩|⟨rfl,rfl⟩
  exact⟨λz=>by lk,λ_=>by rw[e,g0 rfl],λz=>by lk⟩;exact⟨λz=>by lk,λz=>by lk,λ_=>by rw[e,g1 rfl];rfl⟩
 have hat:eZ (G.map D.int) (k:Int)=some (.int x):=yq (by rw[Zad,hG.2.1];rfl);have hdt:decide ((k:Int)<((G.map D.int).length:Int))=true:=decide_eq_true (by rw[Zaa];lk);k_lt Z;refine Z _ _ (gP ?_);clear Z;exists _,Z,bO hl3,hdt,hat,sv (xs:=zs) x0 (by rw[tz.length];exact x1),zp (st:=st3) (c:=.ref st.length) (ns:=G) (bO hl3);refine Z _ _ ⟨λhc=>su ?_,λhc=>ja ?_⟩;obtain⟨n0,n1,n2⟩:=JV (G ++ [ae.app zs x]) (Vc hc).symm;exists _,cL,bO hl3,hat,sv (xs:=zs) x0 (by rw[tz.length];exact x1),mC hl3;refine⟨qh (by rw[bO hl3];rfl),nh (by rw[Zaa];lk),cL _ _ ⟨_,G ++ [ae.app zs x],rfl,?_,?_,n0,n1,n2,k3.loc (Zag _)⟩⟩;rw[Zao (ff hl3),Zav];rfl;rw[Zat ⋯];exact rT;obtain⟨n0,n1,n2⟩:=JV G (Vd hc).symm;exact⟨_,G,rfl,hl3,rT,n0,n1,n2,k3⟩;rintro δ st3 ⟨v4,G,rfl,hl3,rT,_,_,g2,k3⟩;have g2:=g2 rfl;subst g2;exact⟨_,_,rfl,hl3,rT,k3⟩;have e1:ae.bf xs ys s (k+1)=ae.bf xs ys s k:=ae.KZ (k:=k) ⋯ 1;rw[e1];have hdf:decide ((k:Int)<(((ae.bf xs ys s k).map D.int).length:Int))=false:=decide_eq_false (by rw[Zaa];lk);refine nE [.tup (xs.map D.int),.tup (ys.map D.int)] (λm δ st3=>∃(v4:Option D),δ=[some (b5 xs ys),some (.int s),some (.ref st.length),some (.int (k:Int)),v4]/\st3=st2) ?_ (by simp) ?_ ?_;unfold b5;k_lt Z;exact Z _ _ ⟨rfl,v4,rfl,rfl⟩;rintro m z δ st3 hm ⟨v4,rfl,rfl⟩;k_lt Z;refine Z _ _ (gP ?_);clear Z;exists _,Z,bO hl,hdf;exact Z _ _ ⟨λh=>absurd h ∅,λ_=>ja ⟨_,rfl,rfl⟩⟩;rintro δ st3 ⟨v4,rfl,rfl⟩;exact⟨_,_,rfl,hl,hr,k2⟩;rintro δ st2 ⟨v3,v4,rfl,hl,hr,k2⟩;rw[Zaa,ae.rj]at hl;have tb:=ae.K0 tx ty s0 s1 all;have hlb:=tb.length;generalize J1:ae.bf xs ys s n=sq at hl tb hlb ⊢;clear Z;unfold b5;refine cK ?_;k_lt Z;refine vX [.tup (xs.map D.int),.tup (ys.map D.int)] (λd=>match d with|.tup ds=>.tup ((ae.num (ds.map inD) sq).map D.int)|_=>.non) ?_ (by simp) ?_ ?_;k_lt cL;exact cL _ _ ⟨sX _ _,Ex.refl⟩;intro d hd st3 k3;obtain⟨zs,rfl,tz⟩:∃zs:List Int,d=.tup (zs.map D.int)/\ae.Tn n zs:=by
  rcases ZaC.mp hd with rfl|hd
  exact⟨xs,rfl,tx⟩;exact⟨ys,Zaq.mp hd,ty⟩
 have hl3:=k3.keep _ _ hl (by simp);exists _,cL,ZaD,Za6,Za1,Za2;refine vX (sq.map D.int) (λd=>.int (sq.idxOf (ae.app zs (inD d)):Int)) ?_ (by rw[Zaa];lk) ?_ ?_;k_lt wo;exact⟨_,bO hl3,wo _ _ ⟨yc1 (bO hl3),Ex.refl⟩⟩;intro d hd p6 k4;obtain⟨x,hx,rfl⟩:=BU hd;obtain⟨x0,x1⟩:=tb.bound hx;obtain⟨a0,a1⟩:=tz.app x0 x1;have D3:=k4.keep _ _ hl3 (by simp);exists _,wo,ZaD,Za6,Za1,Za2,sv (xs:=zs) x0 (by rw[tz.length];exact x1),ZZ (bO D3) (tb.mem a0 a1) ⋯ (λi hi=>by have:=tb.bound hi;lk);exact⟨qh (by rw[bO D3];rfl),wo _ _ ⟨rfl,Ex.refl⟩⟩;intro p6 k4;rw[GG (f:=λx=>(sq.idxOf (ae.app zs x):Int)) λx hx=>rfl];w_how;refine cL _ _ ⟨?_,k4.app _⟩;show D.tup _=D.tup ((ae.num ((zs.map D.int).map inD) sq).map D.int);rw[O2];rfl;intro st3 k3;w_how;refine Z _ _ ⟨?_,(k2.trans k3).app _⟩;simp only[ZaD,Za6,O2];unfold Cz;rw[J1];rfl
def PX(fl:pX n xs ys):ae.Wh n (xs,ys):=⟨⟨fl.1,fl.2.1⟩,fl.2.2⟩
def CA(w:ae.Wh n p):pX n p.1 p.2:=⟨w.v.1,w.v.2,w.all⟩
def VB(p:ae.aP)(n:Nat):(aL 0 n).map (λd=>b5 (ae.sQ p n (inD d)).1 (ae.sQ p n (inD d)).2)=((ae.upto n).map (ae.sQ p n)).map λq=>b5 q.1 q.2:=by rw[uo,ZaJ,ZaJ];rfl
def MF(fl:pX n xs ys)(n0:0<n)(hn:n<=20):Wp (zy [b5 xs ys] st) λd st'=>d=b5 (ae.aR n (xs,ys)).1 (ae.aR n (xs,ys)).2/\Ex [] st st':=by have hlx:=fl.1.length;refine d6 ?_;intro qR;show Ws (HC [some (b5 xs ys)] st) _ _ _ _;unfold HC;refine cK ?_;k_lt Z;refine vX (aL 0 n) (λd=>b5 (ae.sQ (xs,ys) n (inD d)).1 (ae.sQ (xs,ys) n (inD d)).2) ?_ (by rw[gO];lk) ?_ ?_;unfold b5;k_lt cL;rw[Zaa,hlx];exact⟨by lk,cL _ _ ⟨by rw[Zan];exact sX _ _,Ex.refl⟩⟩;intro d hd st2 k2;rw[uo]at hd;obtain⟨x,hx,rfl⟩:=BU hd;obtain⟨x0,x1⟩:=ae.o5.mp hx;exists _,cL,ZaD,Za6,Za1,Za2;refine aS (zbT fl ⋯ x0 x1) ?_;rintro d st3 ⟨rfl,k3⟩;exact cL _ _ ⟨rfl,k3⟩;intro st' k';rw[VB,Uu (mC i7) (by rw[Zaa,ae.rj];exact n0)];exact Z _ _ ⟨rfl,k'.app _⟩
def VC(fl:pX n xs ys)(n0:0<n)(hn:n<=20):Wp (DI [b5 xs ys] st) λd st'=>d=b5 (ae.aR n (xs,ys)).1 (ae.aR n (xs,ys)).2/\Ex [] st st':=by have hlx:=fl.1.length;refine d6 ?_;intro qR;show Ws (Ha [some (b5 xs ys)] st) _ _ _ _;unfold Ha;refine cK ?_;k_lt Z;refine vX (aL 0 n) (λd=>b5 (ae.sQ (xs,ys) n (inD d)).1 (ae.sQ (xs,ys) n (inD d)).2) ?_ (by rw[gO];lk) ?_ ?_;unfold b5;k_lt cL;rw[Zaa,hlx];exact⟨by lk,cL _ _ ⟨by rw[Zan];exact sX _ _,Ex.refl⟩⟩;intro d hd st2 k2;rw[uo]at hd;obtain⟨x,hx,rfl⟩:=BU hd;obtain⟨x0,x1⟩:=ae.o5.mp hx;exists _,cL,ZaD,Za6,Za1,Za2;refine aS (Ycc fl ⋯ x0 x1) ?_;rintro d st3 ⟨rfl,k3⟩;exact cL _ _ ⟨rfl,k3⟩;intro st' k';rw[VB,Uu (mC i7) (by rw[Zaa,ae.rj];exact n0)];exact Z _ _ ⟨rfl,k'.app _⟩
def Fx{n:Nat}{f:Int->Int}{x:Int}(x0:0<=x)(x1:x<(n:Int)):ae.app ((ae.upto n).map f) x=f x:=by unfold ae.app;rw[Zah,Zad,ae.Fz ⋯];show f ((x.toNat:Nat):Int)=f x;rw[ZaG x0]
def Zdv{w:List cg}(h:∀s∈w,ae.bL s):∀s∈w,Mz s:=λs hs=>(h s hs).1
def Zc5:∀(w:List cg) (p:List Int×List Int),oO p w=ae.dR p w:=by
 have hq:∀(p:List Int×List Int) (j:Nat),qm p.1 p.2 j=ae.qe j p:=λp j=>by
  induction j with
  |zero=>rfl
  |succ j ih=>show(ae.inv (qm p.1 p.2 j).2,(qm p.1 p.2 j).1)=ae.Qt (ae.qe j p);rw[ih];rfl
 have hs:∀(p:List Int×List Int) (s:cg),jM p s=ae.stM p s:=λp s=>by
  unfold jM ae.stM;rw[hq];rfl
 intro w
 induction w with
 |nil=>intro p;rfl
 |cons s w ih =>
  intro p;show oO (jM p s) w=ae.dR (ae.stM p s) w;rw[hs,ih]
open Classical in
def PY(ha:items st a=some ds)(hb:items st b=some es)(h1:∀d∈ds,pU n d)(h2:∀d∈es,pU n d)(hn:n<=14):Wp (jQ neg (.ref a) (.ref b) st) Q↔Q (.bl (if neg then !decide (ds=es)else decide (ds=es))) st:=by
 have p1:∀(i:Nat) (l:List D),items st i=some l->(∀d∈l,pU n d)->fX st 20 (.ref i)=some (.list (l.map (kf n))):=λi l h hl=>by
  simp only[fX,h];rw[GO (g:=kf n) λx hx=>wW n x (hl x hx) 19 ⋯ st];rfl
 have e:PyData.eqv (.list (ds.map (kf n))) (.list (es.map (kf n)))=decide (ds=es):=by
  rw[OY];have:=O8 (DE n) ds es h1 h2;cases h:PyData.eqvAll (ds.map (kf n)) (es.map (kf n))with
  |true=>exact(decide_eq_true (this.mp h)).symm
  |false=>exact(decide_eq_false λz=>by rw[this.mpr z]at h;cases h).symm
 have ly:∀l:List D,(∀d∈l,pU n d)->PyData.canLay0 (.list (l.map (kf n)))=true/\PyData.depth (.list (l.map (kf n)))<=n+1:=λl hl=>by
  refine⟨?_,?_⟩;show PyData.canLayAll0 (l.map (kf n))=true;exact O6 λx hx=>by
   obtain⟨d,hd,rfl⟩:=Zau.mp hx;exact(vY n d (hl d hd)).1
  show PyData.depthAll (l.map (kf n))+1<=n+1
  have:=O7 (n:=n) (l:=l.map (kf n)) λx hx=>by
   obtain⟨d,hd,rfl⟩:=Zau.mp hx;exact(vY n d (hl d hd)).2
  lk
 rw[Gp];constructor;rintro⟨p,q,e1,e2,_,h⟩;rw[p1 a ds ha h1]at e1;rw[p1 b es hb h2]at e2;cases e1;cases e2;rw[e]at h;exact h;intro h;refine⟨_,_,p1 a ds ha h1,p1 b es hb h2,⟨(ly ds h1).1,(ly es h2).1,?_⟩,?_⟩
 have:=(ly ds h1).2
 lk;rw[e];exact h
def VD(pa:ae.bL (b,k))(h:∀(t:cg) (r:List cg),R=t :: r->t.1≠b):ae.bR R (b,k)=(if(if b=true then k else k % 4)=0 then R else(b,if b=true then k else k % 4) :: R):=by
 have e:(if b=true then k else k % 4)=k:=by
  cases b with
  |true=>rfl
  |false =>
   have:=pa.1 rfl;simp only at this;rw[if_neg Zam];lk
 rw[e,if_neg pa.2];exact ae.N9 λt ht=>by
  cases R with
  |nil=>cases ht
  |cons x r=>cases ht;exactλz=>h _ _ rfl z.symm
def PZ{st s2:Store}{w0:D}{b:Bool}{k':Int}{R' X:List cg}{N B C:ao->Store->Prop}{R:D->Store->Prop}(h2:s2[st.length]?=some (.lst (R'.reverse.map bw)))(k2:Ex [] st s2)(hl:R'.length<=1000)(ep:X=(if(if b=true then k' else k' % 4)=0 then R' else(b,if b=true then k' else k' % 4) :: R'))
  (hN:∀(v3:Option D) (s:Store),s[st.length]?=some (.lst (X.reverse.map bw))->Ex [] st s->N [some w0,some (.ref st.length),some (.str (if b then "s" else "t")),v3] s) :
  Ws (aC (fg (aH (av (jP false) (ag 2) (fC (.str "t")))) (aJ (av lE (ag 3) #[4]) (hName 3)) aX) (fg (aH (av (jP true) (ag 3) #[0])) (cP (lO "list" a8 (ag 1) (af (aW (af (ag 2) (af (ag 3) ah))) ah))) aX) [some w0,some (.ref st.length),some (.str (if b then "s" else "t")),some (.int k')] s2) N B C R:=by
 have fin:∀kk:Int,kk=(if b=true then k' else k' % 4)->Ws (fg (aH (av (jP true) (ag 3) #[0])) (cP (lO "list" a8 (ag 1) (af (aW (af (ag 2) (af (ag 3) ah))) ah))) aX [some w0,some (.ref st.length),some (.str (if b then "s" else "t")),some (.int kk)] s2) N B C R:=λkk hk=>by
  rw[<- hk]at ep;refine gP ?_;k_lt Z;by_cases z:kk=0;refine Z _ _ ⟨λy=>absurd z (by simpa using y),λ_=>ja (hN _ _ ?_ k2)⟩;rw[ep,if_pos z];exact h2;refine Z _ _ ⟨λ_=>su ?_,λy=>absurd y (by simp[z])⟩;clear Z;exists _,Z,mC h2;refine⟨qh (by rw[bO h2];rfl),rfl,nh (by rw[Zaa,ZaW];lk),Z _ _ (hN _ _ ?_ (k2.loc (Zag _)))⟩;rw[Zao (ff h2),ep,if_neg z,Zb8,Zav];rfl
 refine aT (gP ?_);cases b with
 |true =>
  k_lt Z;exact Z _ _ ⟨λz=>absurd z ∅,λ_=>ja (fin k' rfl)⟩
 |false =>
  k_lt Z;refine Z _ _ ⟨λ_=>bC ?_,λz=>absurd z ∅⟩;k_lt2 Z;exact⟨by decide,Z _ _ (fin (k' % 4) rfl)⟩
def Xcc{st:Store}{w:List cg}(hw:∀s∈w,ae.bL s)(hl:w.length<=1000):Wp (Hf [.tup (w.map bw)] st) λd st'=>d=.tup ((ae.j8 w).reverse.map bw)/\Ex [] st st':=by
 refine d6 ?_;intro qR;show Ws (LJ [some (.tup (w.map bw)),none,none,none] st) _ _ _ _;unfold LJ;refine aT (bC ?_);k_lt Z;refine⟨rfl,Z _ _ ?_⟩;clear Z;show Ws _ _ _ _ _;refine aT (nE (w.map bw) (λi δ s=>∃v2 v3:Option D,δ=[some (.tup (w.map bw)),some (.ref st.length),v2,v3]/\s[st.length]?=some (.lst ((ae.j8 (w.take i)).reverse.map bw))/\Ex [] st s) ?_ (by rw[Zaa];lk) ?_ ?_);k_lt Z;exact Z _ _ ⟨rfl,none,none,rfl,i7,Ex.cZ _⟩;rintro i d δ s hd ⟨v2,v3,rfl,hs,kx⟩;rw[Zad]at hd;obtain⟨a,ha,rfl⟩:=Zaz.mp hd;obtain⟨hi,ea⟩:=Zac.mp ha;have pa:=hw a (Zai ha);have et:ae.j8 (w.take (i+1))=ae.bR (ae.j8 (w.take i)) a:=by
  rw[ZaK hi,ae.K1,ea];rfl
 have hlen:=ae.K2 (w.take i);rw[ZbH]at hlen;have pl:ae.Pl (ae.j8 (w.take i)):=ae.Sg λs hs=>hw s (List.mem_of_mem_take hs);rw[et];generalize ae.j8 (w.take i)=R at hs hlen pl ⊢;obtain⟨b,k⟩:=a;have es1:bw (b,k)=.tup [.str (if b then "s" else "t"),.int k]:=rfl;rw[es1];k_lt Z;refine⟨rfl,Z _ _ (aT (gP ?_))⟩;clear Z;exists _,Z,bO hs;refine⟨rfl,?_⟩;have pus:∀d∈R.reverse.map bw,pU 1 d:=λd hd=>by
  obtain⟨x,_,rfl⟩:=Zau.mp hd;exact zu 0 x
 rw[PY (n:=1) (ds:=R.reverse.map bw) (es:=[]) (bO (km hs)) rm pus (λd hd=>nomatch hd) ∅];have hs1:=km (m:=[O.lst []]) hs;have MG:Ex [] st (s ++ [O.lst []]):=kx.app _;generalize s ++ [O.lst []]=s1 at hs1 MG ⊢;have J3:∀(t:cg) (r:List cg),R=t :: r->R.reverse.map bw=r.reverse.map bw ++ [bw t]:=λt r e=>by rw[e,Zb8,Zav];rfl
 cases R with
 |nil =>
  refine⟨false,by simp,?_⟩;rw[if_neg ∅];refine Z _ _ ⟨λz=>absurd z ∅,λ_=>ja ?_⟩;refine PZ (X:=ae.bR [] (b,k)) hs1 MG (by simp) ?_ λv3 s h1 h2=>⟨_,_,rfl,h1,h2⟩;exact VD (R:=[]) pa (by simp)
 |cons t r =>
  have e1:=J3 t r rfl;refine⟨true,by simp,?_⟩;rw[if_pos rfl,bO hs1,e1];refine⟨_,rfl,bw t,PL,?_⟩;obtain⟨bt,kt⟩:=t;have MC:bw (bt,kt)=.tup [.str (if bt then "s" else "t"),.int kt]:=rfl;rw[MC];w_how;have eD:decide ((if bt=true then("s" : Str)else "t")=if b=true then("s" : Str)else "t")=decide (bt=b):=by cases bt<;>cases b<;>decide
  rw[eD];by_cases hb:bt=b;subst hb;refine Z _ _ ⟨λ_=>bC ?_,λz=>absurd z (by simp)⟩;clear Z;rw[e1]at hs1;exists _,Z,B3;refine⟨qh (by rw[bO hs1];rfl),?_⟩;rw[B5 (mC hs1),MC];w_how;refine Z _ _ ?_;have hs2:(s1.set st.length (.lst (r.reverse.map bw)))[st.length]?=some (.lst (r.reverse.map bw)):=Zao (ff hs1);refine PZ (X:=ae.bR ((bt,kt) :: r) (bt,k)) hs2 (MG.loc (Zag _)) (by rw[ZaE]at hlen;lk) ?_ λv3 s h1 h2=>⟨_,_,rfl,h1,h2⟩;rw[ae.vH,if_pos rfl];unfold ae.cE ae.gL;cases bt<;>simp<;>split<;>rfl;refine Z _ _ ⟨λz=>absurd (of_decide_eq_true z) hb,λ_=>ja ?_⟩;refine PZ (X:=ae.bR ((bt,kt) :: r) (b,k)) hs1 MG ⋯ ?_ λv3 s h1 h2=>⟨_,_,rfl,h1,h2⟩;exact VD (R:=(bt,kt) :: r) pa (λt r e=>by cases e;exact hb)
 rintro δ s ⟨v2,v3,rfl,hs,kx⟩;rw[Zaa,Zbg]at hs;refine cK ?_;exists _,Z,bO hs;exact Z _ _ ⟨rfl,kx⟩
def zcd{st:Store}{xs ys:List Int}{n:Nat}{w:List cg}(fl:pX n xs ys)(n0:0<n)(hn:n<=20){M k:Nat}(hM:M<2 ^ k)(hk:k<=100)(hw:∀s∈w,ae.bL s)(hl:(ae.ai w).le M):Wp (Mi [b5 xs ys,fz (ae.ai w)] st) λd st'=>d=b5 (ae.aR n (ae.dR (xs,ys) w)).1 (ae.aR n (ae.dR (xs,ys) w)).2/\Ex [] st st':=by have wh:=PX fl;refine d6 ?_;intro qR;show Ws (JE [some (b5 xs ys),some (fz (ae.ai w))] st) _ _ _ _;unfold JE;refine cK ?_;k_lt Z;refine aS (Vz hM hk hl (ae.wM hw)) ?_;rintro d st1 ⟨u,rfl,hu0,hul,eu,k1⟩;have hu:∀s∈u,ae.bL s:=λs hs=>(hu0 s hs).1;refine aS (Vo (p:=(xs,ys)) ⟨fl.1,fl.2.1⟩ ⋯ (Zdv hu) ⋯) ?_;rintro d st2 ⟨rfl,k2⟩;rw[Zc5];have wu:=wh.ld n0 (w:=u);refine aS (MF (xs:=(ae.dR (xs,ys) u).1) (ys:=(ae.dR (xs,ys) u).2) (CA wu) n0 hn) ?_;rintro d st3 ⟨rfl,k3⟩;refine Z _ _ ⟨?_,(k1.trans k2).trans k3⟩;have e:ae.aR n (ae.dR (xs,ys) u)=ae.aR n (ae.dR (xs,ys) w):=ae.qf n0 wu.v (ae.Dk hu hw eu wh.v);show b5 (ae.aR n (ae.dR (xs,ys) u)).1 (ae.aR n (ae.dR (xs,ys) u)).2=_;rw[e]
def VE(p:List Int×List Int)(s:cg):jM p s=ae.stM p s:=by
 have hq:∀j,qm p.1 p.2 j=ae.qe j p:=λj=>by
  induction j with
  |zero=>rfl
  |succ j ih=>show _=_;unfold qm ae.qe;rw[ih];rfl
 unfold jM ae.stM;split;rfl;exact hq _
def P0{p q:ae.aP}(h:bK p=bK q):p=q:=by
 have h:D.tup [.tup (p.1.map D.int),.tup (p.2.map D.int)]=D.tup [.tup (q.1.map D.int),.tup (q.2.map D.int)]:=h;injection h with h;injection h with h1 h2;injection h2 with h2 _;have inj:∀{x y:List Int},D.tup (x.map D.int)=D.tup (y.map D.int)->x=y:=λ{x y} e=>by
  injection e with e;have:=congrArg (List.map inD) e;rw[ZaJ,ZaJ]at this;exact(Zck x).symm.trans (this.trans (Zck y))
 exact Prod.ext (inj h1) (inj h2)
def wt{α:Type}{fs:List α}{g:α->D}{k:Nat}{p:α}(h:fs[k]?=some p):eZ (fs.map g) (k:Int)=some (g p):=by have hk:k<fs.length:=(Zac.mp h).1;unfold eZ;rw[C9 (by rw[Zaa];exact hk)];show(fs.map g)[k]?=_;rw[Zad,h];rfl
def VF{fs:List ae.aP}{F:ae.aP}{j:Nat}(nd:fs.Nodup)(hj:fs[j]?=some F):∀i e,i<j->(fs.map bK)[i]?=some e->e≠bK F:=λi e hij he z=>by
 rw[Zad]at he;obtain⟨q,hq,rfl⟩:=Zaz.mp he;have:=P0 z;subst this;obtain⟨g1,g2⟩:=Zac.mp hq;obtain⟨g3,g4⟩:=Zac.mp hj;exact ZaM.mp nd i j g1 g3 hij (by rw[g2,g4])
def iS{α:Type}{l:List α}{k:Nat}{d:α}(h:k<l.length):l[k]?=some (l.getD k d):=by rw[Zah,Zab h];rfl
abbrev wD(w:List cg):D:=.tup (w.map bw)
def VG{s:Store}{a b c r n k:Nat}{p:ae.aP}{fs:List ae.aP}{ws:List (List cg)}{rs:List Nat}{L:List Int}{s1:cg}{v0 v1 v7:Option D}{N B C:ao->Store->Prop}{R:D->Store->Prop}
  (n0:0<n) (hn:n<=20) (hs:s1=(true,1)\/s1=(false,1)) (ab:a≠b) (ac:a≠c) (bc:b≠c) (ar:a≠r) (br:b≠r) (cr:c≠r)
  (ha:s[a]?=some (.lst (fs.map bK))) (hb:s[b]?=some (.lst (ws.map wD))) (hc:s[c]?=some (.lst (rs.map D.ref))) (hr:s[r]?=some (.lst (L.map D.int))) (hrk:rs[k]?=some r)
  (g:ae.GR n p fs ws) (vp:ae.Vf n p) (hk:k<fs.length) (few:fs.length<=100) (hL:L.length<=5)
  (hN:∀(v:Option D) (s':Store),s'[a]?=some (.lst ((ae.aY n fs ws k s1).1.map bK))->s'[b]?=some (.lst ((ae.aY n fs ws k s1).2.1.map wD))->s'[c]?=some (.lst (rs.map D.ref))->s'[r]?=some (.lst ((L ++ [((ae.aY n fs ws k s1).2.2:Int)]).map D.int))->Ex [a,b,r] s s'->N [v0,v1,some (.ref a),some (.ref b),some (.ref c),some (.int (k:Int)),some (bw s1),v] s') :
  Ws ((aC (aJ (aM DI (af (aM Cf (af (av bZ (ag 2) (ag 5)) (af (ag 6) ah))) ah)) (hName 7))
 (aC (fg (aH (av (ql true) (ag 7) (ag 2))) (aC (cP (lO "list" a8 (ag 2) (af (ag 7) ah)))
 (cP (lO "list" a8 (ag 3) (af (aM Hf (af (av jc (av bZ (ag 3) (ag 5)) (aW (af (ag 6) ah))) ah)) ah)))) aX)
 (cP (lO "list" a8 (av bZ (ag 4) (ag 5)) (af (lO "list" cY (ag 2) (af (ag 7) ah)) ah))))) [v0,v1,some (.ref a),some (.ref b),some (.ref c),some (.int (k:Int)),some (bw s1),v7] s) N B C R:=by
 have ek:=iS (d:=(([],[]):ae.aP)) hk;have hkw:k<ws.length:=by rw[g.wl];exact hk
 have ew:=iS (d:=([]:List cg)) hkw;have ps:ae.bL s1:=by rcases hs with rfl|rfl<;>exact⟨λ_=>by decide,by decide⟩
 have gN:=ae.vZ n0 g vp hk hs;have lN:(ae.aY n fs ws k s1).1.length<=101:=by have:=gN.2.2.2.1;lk
 generalize hq:fs.getD k ([],[])=q at ek;generalize hw:ws.getD k []=w at ew;obtain⟨wq,oq⟩:=g.own q (Zai ek);obtain⟨pw,lw,nw,-⟩:=g.wd k w ew;have hat:eZ (fs.map bK) (k:Int)=some (bK q):=wt ek;have P1:eZ (rs.map D.ref) (k:Int)=some (.ref r):=wt hrk;refine aT (bC ?_);exists _,Z,bO ha,hat;refine aS (Yb3 (p:=q) (s:=s1) ⟨wq.v.1,wq.v.2⟩ ⋯ ps.1) ?_;rintro d t1 ⟨rfl,k1⟩;rw[VE];have GS:=wq.st n0 s1;have eS:bK (ae.stM q s1)=b5 (ae.stM q s1).1 (ae.stM q s1).2:=rfl;rw[eS];refine aS (VC (CA GS) n0 hn) ?_;rintro d t2 ⟨rfl,k2⟩;have eF:b5 (ae.aR n ((ae.stM q s1).1,(ae.stM q s1).2)).1 (ae.aR n ((ae.stM q s1).1,(ae.stM q s1).2)).2=bK (ae.aR n (ae.stM q s1)):=rfl;rw[eF];have wx:=k1.trans k2;have ha2:=wx.keep _ _ ha (by simp);have hb2:=wx.keep _ _ hb (by simp);have hc2:=wx.keep _ _ hc (by simp);have hr2:=wx.keep _ _ hr (by simp);have pf:∀q:ae.aP,pU 2 (bK q):=λq=>O9 0 _ _;have rest:∀ {s3:Store},s3[a]?=some (.lst ((ae.aY n fs ws k s1).1.map bK))->s3[b]?=some (.lst ((ae.aY n fs ws k s1).2.1.map wD))->s3[c]?=some (.lst (rs.map D.ref))->s3[r]?=some (.lst (L.map D.int))->Ex [a,b,r] s s3->(ae.aY n fs ws k s1).1[(ae.aY n fs ws k s1).2.2]?=some (ae.aR n (ae.stM q s1)) ->
   Ws ((cP (lO "list" a8 (av bZ (ag 4) (ag 5)) (af (lO "list" cY (ag 2) (af (ag 7) ah)) ah))) [v0,v1,some (.ref a),some (.ref b),some (.ref c),some (.int (k:Int)),some (bw s1),some (bK (ae.aR n (ae.stM q s1)))] s3) N B C R:=by
  intro s3 tu tw hc3 rT k3 hj;refine su ?_;exists _,cL,bO hc3,P1;refine⟨qh (by rw[bO rT];rfl),qh (by rw[bO tu];rfl),?_⟩;rw[Uy (n:=2) (j:=(ae.aY n fs ws k s1).2.2) (pf _) (bO tu) (λe he=>by obtain⟨q,_,rfl⟩:=Zau.mp he;exact pf q) ∅ (by rw[Zaa];lk) (by rw[Zad,hj];rfl) (VF gN.1.nd hj)];exists mC rT;refine⟨nh (by rw[Zaa];lk),cL _ _ (hN _ _ ?_ ?_ ?_ ?_ ?_)⟩;rw[Zat (Ne.symm ar)];exact tu;rw[Zat (Ne.symm br)];exact tw;rw[Zat (Ne.symm cr)];exact hc3;rw[Zao (ff rT),Zav];rfl;exact k3.put (by simp)
 have hj:(ae.aY n fs ws k s1).1[(ae.aY n fs ws k s1).2.2]?=some (ae.aR n (ae.stM q s1)):=by
  obtain⟨q',h1,h2⟩:=gN.2.2.2.2;rw[ek]at h1;cases h1;exact h2
 refine Z _ _ (aT (gP ?_));k_lt2 Z;have J1:b7 t2 (.ref a)=some (fs.map bK):=bO ha2;rw[Ly (n:=2) (es:=fs.map bK) (pf _) J1 (λe he=>by obtain⟨q,_,rfl⟩:=Zau.mp he;exact pf q) ∅];by_cases hm:ae.aR n (ae.stM q s1)∈fs;have hm':bK (ae.aR n (ae.stM q s1))∈fs.map bK:=Zau.mpr ⟨_,hm,rfl⟩;have eR:ae.aY n fs ws k s1=(fs,ws,fs.idxOf (ae.aR n (ae.stM q s1))):=by unfold ae.aY;rw[hq,if_pos hm]
 refine⟨false,by simp[hm'],Z _ _ ⟨λz=>(nomatch z),λ_=>ja (rest ?_ ?_ hc2 hr2 wx.any hj)⟩⟩;rw[eR];exact ha2;rw[eR];exact hb2;have hm':bK (ae.aR n (ae.stM q s1)) ∉ fs.map bK:=λz=>by
  obtain⟨q',h1,h2⟩:=Zau.mp z;exact hm (P0 h2 ▸ h1)
 have eR:ae.aY n fs ws k s1=(fs ++ [ae.aR n (ae.stM q s1)],ws ++ [(ae.j8 (w ++ [s1])).reverse],fs.length):=by unfold ae.aY;rw[hq,hw,if_neg hm]
 refine⟨true,by simp[hm'],Z _ _ ⟨λ_=>?_,λz=>(nomatch z)⟩⟩;clear Z;refine aT (su ?_);exists _,Z,mC ha2;refine⟨qh (by rw[bO ha2];rfl),nh (by rw[Zaa];lk),Z _ _ (su ?_)⟩;clear Z;have em:fs.map bK ++ [bK (ae.aR n (ae.stM q s1))]=(ae.aY n fs ws k s1).1.map bK:=by rw[eR,Zav];rfl
 rw[em];have tu:(t2.set a (.lst ((ae.aY n fs ws k s1).1.map bK)))[a]?=some (.lst ((ae.aY n fs ws k s1).1.map bK)):=Zao (ff ha2);have tw:(t2.set a (.lst ((ae.aY n fs ws k s1).1.map bK)))[b]?=some (.lst (ws.map wD)):=by rw[Zat ab];exact hb2
 have hc3:(t2.set a (.lst ((ae.aY n fs ws k s1).1.map bK)))[c]?=some (.lst (rs.map D.ref)):=by rw[Zat ac];exact hc2
 have rT:(t2.set a (.lst ((ae.aY n fs ws k s1).1.map bK)))[r]?=some (.lst (L.map D.int)):=by rw[Zat ar];exact hr2
 have k3:Ex [a,b,r] s (t2.set a (.lst ((ae.aY n fs ws k s1).1.map bK))):=(wx.any).put (by simp);generalize t2.set a (.lst ((ae.aY n fs ws k s1).1.map bK))=s3 at tu tw hc3 rT k3 ⊢;have CB:eZ (ws.map wD) (k:Int)=some (wD w):=wt ew;exists _,Z,bO tw,CB;refine⟨qh (by rw[bO tw];rfl),rfl,?_⟩;have e1:w.map bw ++ [bw s1]=(w ++ [s1]).map bw:=by rw[Zav];rfl
 unfold wD;w_how;rw[e1];refine⟨nh (by rw[Zaa];show _+1<=_;lk),?_⟩;have cJ:∀x∈w ++ [s1],ae.bL x:=λx hx=>by
  rcases ZaA.mp hx with h|h
  exact ae.Pl.pr pw x (Zbh.mpr h);rw[Zaq.mp h];exact ps
 refine aS (Xcc (w:=w ++ [s1]) cJ (by rw[Zae];show _+1<=_;lk)) ?_;rintro d s4 ⟨rfl,k4⟩;have J4:=k4.keep _ _ tu (by simp);have CC:=k4.keep _ _ tw (by simp);have hc4:=k4.keep _ _ hc3 (by simp);have hr4:=k4.keep _ _ rT (by simp);exists mC CC;refine⟨nh (by rw[Zaa,g.wl];lk),Z _ _ (rest ?_ ?_ ?_ ?_ ((k3.trans k4.any).put (by simp)) hj)⟩;rw[Zat (Ne.symm ab)];exact J4;rw[Zao (ff CC),eR,Zav];rfl;rw[Zat bc];exact hc4;rw[Zat br];exact hr4
abbrev yb(p:ae.aP)(w:List cg)(l:Nat×Nat):D:=.tup [bK p,wD w,.int (l.1:Int),.int (l.2:Int)]
abbrev fj(c:ae.CS)(N:Nat):D:=.tup ((List.range N).map λk=>yb (c.1.getD k ([],[])) (c.2.1.getD k []) (c.2.2.getD k (0,0)))
structure yc(st s:Store)(ia ib ic:Nat)(fs:List ae.aP)(ws:List (List cg))(ls:List (Nat×Nat))(rs:List Nat):Prop where
 a:s[ia]?=some (.lst (fs.map bK))
 b:s[ib]?=some (.lst (ws.map wD))
 c:s[ic]?=some (.lst (rs.map D.ref))
 l:ls.length<=rs.length
 r:∀(k r:Nat) (l:Nat×Nat),rs[k]?=some r->ls[k]?=some l->s[r]?=some (.lst [.int (l.1:Int),.int (l.2:Int)])
 h:∀r∈rs,ic<r/\r<s.length
 e:Ex [] st s
def J5{x y:D}:eZ [x,y] 0=some x:=rfl
def J7{x y:D}:eZ [x,y] 1=some y:=rfl
def VH{st:Store}{p:ae.aP}{n most:Nat}(w0:ae.Wh n p)(n0:0<n)(hn:n<=20)(m1:1<=most)(MH:most<=60):Wp (Hj [bK p,.int (most:Int)] st) λd st'=>Ex [] st st'/\((∃N,N<=most/\ae.Full n p (ae.ch n p N) N/\(∀j,j<N->j<(ae.ch n p j).1.length)/\d=fj (ae.ch n p N) N)\/(d=.non/\∃i,(∀j,j<i->j<(ae.ch n p j).1.length)/\most<(ae.ch n p i).1.length)):=by
 refine d6 ?_;intro qR;show Ws (Hi [some (bK p),some (.int (most:Int)),none,none,none,none,none,none] st) _ _ _ _;unfold Hi;refine aT (bC ?_);k_lt Z;refine aS (VC (CA w0) n0 hn) ?_;rintro d s1 ⟨rfl,k1⟩;refine⟨rfl,Z _ _ (aT (bC ?_))⟩;k_lt2 Z;refine⟨rfl,rfl,Z _ _ (aT (bC ?_))⟩;k_lt2 Z;refine⟨rfl,Z _ _ ?_⟩;clear Z;have eF:b5 (ae.aR n (p.1,p.2)).1 (ae.aR n (p.1,p.2)).2=bK (ae.aR n p):=rfl;rw[eF];obtain⟨a,b,c,s2,ea,eb,ec,es,ab,bc,la,I0⟩:∃(a b c:Nat) (s2:Store),s1.length=a/\(s1 ++ [O.lst [bK (ae.aR n p)]]).length=b/\(s1 ++ [O.lst [bK (ae.aR n p)]] ++ [O.lst [D.tup []]]).length=c/\s1 ++ [O.lst [bK (ae.aR n p)]] ++ [O.lst [D.tup []]] ++ [O.lst []]=s2/\a<b/\b<c/\st.length<=a/\yc st s2 a b c (ae.ch n p 0).1 (ae.ch n p 0).2.1 (ae.ch n p 0).2.2 [] :=
  ⟨_,_,_,_,rfl,rfl,rfl,rfl,by simp,by simp,k1.len,km (km i7),km i7,i7,Zag _,(λk r l h=>nomatch h),(λr h=>nomatch h),((k1.app _).app _).app _⟩
 rw[ea,eb,ec,es]
 let iR:IV:=λi δ s=>∃(v5 v6 v7:Option D) (j:Nat) (rs:List Nat),δ=[some (bK p),some (.int (most:Int)),some (.ref a),some (.ref b),some (.ref c),v5,v6,v7]/\j<=i/\(∀j',j' < j->j' < (ae.ch n p j').1.length)/\(ae.ch n p j).1.length<=most/\(j=i\/(ae.ch n p j).1.length=j)/\rs.length=j/\yc st s a b c (ae.ch n p j).1 (ae.ch n p j).2.1 (ae.ch n p j).2.2 rs
 refine aT (nE (aL 0 most) iR ?_ (by rw[gO];lk) ?_ ?_);k_lt Z;refine⟨by lk,Z _ _ ⟨by rw[Zan],none,none,none,0,[],rfl,Zag _,(λj' h=>nomatch h),(show 1<=most from m1),.inl rfl,rfl,I0⟩⟩;rintro i d δ s hd ⟨v5,v6,v7,j,rs,rfl,hj,pr,few,jo,hrs,I⟩;have hi:i<most:=by have:=ff hd;rw[gO]at this;exact this
 rw[xN hi,Zbq]at hd;cases hd;have g:=ae.B6 n0 w0 j pr;k_lt Z;refine Z _ _ (gP ?_);clear Z;exists _,Z,bO I.a;rw[Zaa];refine Z _ _ ⟨λz=>?_,λz=>ja ?_⟩;have z:i<(ae.ch n p j).1.length:=by have:=of_decide_eq_true z;lk
 have ej:j=i:=by rcases jo with h|h<;>lk
 subst ej;clear Z;have pZ:=g.ll;have Cy:=g.le;refine aT (su ?_);k_lt Z;have Ic:=km (m:=[O.lst []]) I.c;refine⟨qh (by rw[bO I.c];rfl),rfl,_,mC Ic,nh (by rw[Zaa];lk),Z _ _ ?_⟩;clear Z;have er:rs.map D.ref ++ [D.ref s.length]=(rs ++ [s.length]).map D.ref:=by rw[Zav];rfl
 rw[er];have lc:=ff I.c;have I1:yc st ((s ++ [O.lst []]).set c (.lst ((rs ++ [s.length]).map D.ref))) a b c (ae.ch n p j).1 (ae.ch n p j).2.1 (ae.ch n p j).2.2 (rs ++ [s.length]):=by
  refine⟨?_,?_,Zao (ff Ic),by rw[Zae];have:=I.l;lk,λk r l h1 h2=>?_,λr hr=>?_,?_⟩;rw[Zat ⋯];exact km I.a;rw[Zat ⋯];exact km I.b;have hk:k<rs.length:=by have:=(Zac.mp h2).1;lk
  rw[Zap hk]at h1;have hc:=I.h r (Zai h1);rw[Zat ⋯];exact km (I.r k r l h1 h2);rw[Zbc,Zae];rcases ZaA.mp hr with h|h
  have:=I.h r h;exact⟨this.1,Nat.lt_succ_of_lt this.2⟩
  rw[Zaq.mp h];exact⟨lc,Zbf _⟩;exact(I.e.app _).loc ⋯
 have hr1:((s ++ [O.lst []]).set c (.lst ((rs ++ [s.length]).map D.ref)))[s.length]?=some (.lst (([]:List Int).map D.int)):=by
  rw[Zat ⋯];exact i7
 have hrk:(rs ++ [s.length])[j]?=some s.length:=by rw[Zax ⋯,hrs,Zbj];rfl
 have old:∀r∈rs,r≠s.length:=λr h=>by have:=I.h r h;lk
 have lsr:c<s.length:=lc;generalize (s ++ [O.lst []]).set c (.lst ((rs ++ [s.length]).map D.ref))=s3 at I1 hr1;generalize s.length=r at I1 hr1 hrk old lsr;have r1:=ae.vZ (s:=(true,1)) n0 g.r w0.v (k:=j) z (.inl rfl);have r2:=ae.vZ (s:=(false,1)) n0 r1.1 w0.v (k:=j) (by have:=r1.2.2.1;lk) (.inr rfl);have eS:ae.nH n (ae.ch n p j)=ae.aY n (ae.ch n p j).1 (ae.ch n p j).2.1 j (true,1):=by unfold ae.nH;rw[pZ]
 have eT:ae.lU n (ae.ch n p j)=ae.aY n (ae.aY n (ae.ch n p j).1 (ae.ch n p j).2.1 j (true,1)).1 (ae.aY n (ae.ch n p j).1 (ae.ch n p j).2.1 j (true,1)).2.1 j (false,1):=by unfold ae.lU;rw[eS,pZ]
 have mk:∀{fs fs':List ae.aP} {ws DA:List (List cg)} {s s':Store},yc st s a b c fs ws (ae.ch n p j).2.2 (rs ++ [r])->s'[a]?=some (.lst (fs'.map bK))->s'[b]?=some (.lst (DA.map wD))->s'[c]?=some (.lst ((rs ++ [r]).map D.ref))->Ex [a,b,r] s s'->yc st s' a b c fs' DA (ae.ch n p j).2.2 (rs ++ [r]):=by
  intro fs fs' ws DA s s' J h1 h2 h3 k;refine⟨h1,h2,h3,J.l,λi r' l e1 e2=>?_,λr' hr=>?_,⟨Zal J.e.len k.len,λi o e n=>k.keep i o (J.e.keep i o e n) (by have:=ff e;simp;lk)⟩⟩;have hk:i<rs.length:=by have:=(Zac.mp e2).1;lk
  have Dd:=e1;rw[Zap hk]at Dd;have hm:=Zai Dd;have hc:=J.h r' (Zai e1);have:=old r' hm;exact k.keep _ _ (J.r i r' l e1 e2) (by simp;lk);have hc:=J.h r' hr;exact⟨hc.1,ZaI hc.2 k.len⟩
 refine aT (nE [bw (true,1),bw (false,1)] (λm δ s=>∃(v6 v7:Option D),δ=[some (bK p),some (.int (most:Int)),some (.ref a),some (.ref b),some (.ref c),some (.int (j:Int)),v6,v7]/\((m=0/\yc st s a b c (ae.ch n p j).1 (ae.ch n p j).2.1 (ae.ch n p j).2.2 (rs ++ [r])/\s[r]?=some (.lst (([]:List Int).map D.int)))\/(m=1/\yc st s a b c (ae.nH n (ae.ch n p j)).1 (ae.nH n (ae.ch n p j)).2.1 (ae.ch n p j).2.2 (rs ++ [r])/\s[r]?=some (.lst (([((ae.nH n (ae.ch n p j)).2.2:Int)]:List Int).map D.int)))\/(m=2/\yc st s a b c (ae.lU n (ae.ch n p j)).1 (ae.lU n (ae.ch n p j)).2.1 (ae.ch n p j).2.2 (rs ++ [r])/\s[r]?=some (.lst (([((ae.nH n (ae.ch n p j)).2.2:Int),((ae.lU n (ae.ch n p j)).2.2:Int)]:List Int).map D.int))))) ?_ ∅ ?_ ?_);k_lt Z;exact⟨rfl,rfl,rfl,Z _ _ ⟨rfl,v6,v7,rfl,.inl ⟨rfl,I1,hr1⟩⟩⟩;rintro m d δ s5 hd ⟨v6,v7,rfl,hm⟩;k_lt Z;refine Z _ _ ?_;clear Z;rcases hm with⟨rfl,J,hr⟩|⟨rfl,J,hr⟩|⟨rfl,J,hr⟩
 cases(show some (bw (true,1))=some d from hd);refine VG (s1:=(true,1)) n0 hn (.inl rfl) ⋯ ⋯ ⋯ ⋯ ⋯ ⋯ J.a J.b J.c hr hrk g.r w0.v z ⋯ (by simp) λv s' h1 h2 h3 h4 h5=>?_;refine⟨_,v,rfl,.inr (.inl ⟨rfl,?_,?_⟩)⟩;rw[eS];exact mk J h1 h2 h3 h5;rw[eS];exact h4;cases(show some (bw (false,1))=some d from hd);rw[eS]at J hr;refine VG (s1:=(false,1)) n0 hn (.inr rfl) ⋯ ⋯ ⋯ ⋯ ⋯ ⋯ J.a J.b J.c hr hrk r1.1 w0.v (by have:=r1.2.2.1;lk) (by have:=r1.2.2.2.1;lk) (by simp) λv s' h1 h2 h3 h4 h5=>?_;refine⟨_,v,rfl,.inr (.inr ⟨rfl,?_,?_⟩)⟩;rw[eT];exact mk J h1 h2 h3 h5;rw[eT,eS];exact h4;cases(show none=some d from hd);rintro δ s5 ⟨v6,v7,rfl,⟨h,_⟩|⟨h,_⟩|⟨_,J,hr⟩⟩;cases h;cases h;have VI:∀j',j' < j+1->j' < (ae.ch n p j').1.length:=λj' h=>by
  rcases ZbZ j' j with h'|h'
  exact pr j' h'
  have:j'=j:=by lk
  subst this;exact z
 have J2:yc st s5 a b c (ae.ch n p (j+1)).1 (ae.ch n p (j+1)).2.1 (ae.ch n p (j+1)).2.2 (rs ++ [r]):=by
  refine⟨J.a,J.b,J.c,?_,λk r' l e1 e2=>?_,J.h,J.e⟩;show((ae.ch n p j).2.2 ++ [_]).length<=_;rw[Zae,Zae,pZ,hrs];exact Zag _;have e2:((ae.ch n p j).2.2 ++ [((ae.nH n (ae.ch n p j)).2.2,(ae.lU n (ae.ch n p j)).2.2)])[k]?=some l:=e2;by_cases hk:k<(ae.ch n p j).2.2.length;rw[Zap hk]at e2;exact J.r k r' l e1 e2;have hk2:k=j:=by
   have:=(Zac.mp e2).1;rw[Zae]at this;have:k<(ae.ch n p j).2.2.length+1:=this;lk
  subst hk2;rw[Zax ⋯,pZ,Zbj]at e2;cases(show some _=some l from e2);rw[hrk]at e1;cases e1;exact hr
 refine gP ?_;exists _,Z,bO J2.a;rw[Zaa];refine Z _ _ ⟨λy=>cK ?_,λy=>ja ⟨_,_,_,j+1,_,rfl,Zag _,VI,?_,.inl rfl,?_,J2⟩⟩;k_lt2 Z;exact Z _ _ ⟨J2.e,.inr ⟨rfl,j+1,VI,by have:=of_decide_eq_true y;lk⟩⟩
 have:=of_decide_eq_false y;lk
 rw[Zae,hrs];rfl;have z:¬i<(ae.ch n p j).1.length:=by have:=of_decide_eq_false z;lk
 have:=g.le;exact⟨_,_,_,j,rs,rfl,by lk,pr,few,by lk,hrs,I⟩
 rintro δ s ⟨v5,v6,v7,j,rs,rfl,hj,pr,few,jo,hrs,I⟩;rw[gO]at hj jo;have g:=ae.B6 n0 w0 j pr;have Cy:=g.le;have P4:(ae.ch n p j).1.length=j:=by rcases jo with h|h<;>lk
 have zD:ae.Full n p (ae.ch n p j) j:={ toGC:=g,fl:=P4 };refine cK ?_;k_lt Z;generalize hC:ae.ch n p j=C at I g P4 zD;refine vX (aL 0 j) (λd=>yb (C.1.getD (inD d).toNat ([],[])) (C.2.1.getD (inD d).toNat []) (C.2.2.getD (inD d).toNat (0,0))) ?_ (by rw[gO];lk) ?_ ?_;exists _,cL,bO I.a;rw[Zaa,P4];exact⟨by lk,cL _ _ ⟨by rw[Zan];exact sX _ _,Ex.refl⟩⟩;intro d hd s5 k5;obtain⟨i,hi⟩:=ZbP hd;have hil:=ff hi;rw[gO]at hil;rw[xN hil,Zbq]at hi;cases hi;have hwl:=g.r.wl;have pZ:=g.ll;have ef:=iS (d:=(([],[]):ae.aP)) (show i<C.1.length by lk);have ew:=iS (d:=([]:List cg)) (show i<C.2.1.length by lk);have el:=iS (d:=((0,0):Nat×Nat)) (show i<C.2.2.length by lk);have er:=iS (d:=0) (show i<rs.length by lk);have hR:=k5.keep _ _ (I.r i _ _ er el) (by simp);have a1:eZ (C.1.map bK) (i:Int)=some (bK (C.1.getD i ([],[]))):=wt ef;have a2:eZ (C.2.1.map wD) (i:Int)=some (wD (C.2.1.getD i [])):=wt ew;have a3:eZ (rs.map D.ref) (i:Int)=some (.ref (rs.getD i 0)):=wt er;have P5:=k5.keep _ _ I.a (by simp);have P6:=k5.keep _ _ I.b (by simp);have hc5:=k5.keep _ _ I.c (by simp);generalize rs.getD i 0=r at hR a3;exists _,cL,ZaD,Za6,Za1,Za2,bO P5,bO P6,bO hc5,a1,a2,a3,bO hR,J5,J7;exact⟨rfl,cL _ _ ⟨rfl,Ex.refl⟩⟩;intro s5 k5;refine⟨_,rm,Z _ _ ⟨(I.e.trans k5).app _,.inl ⟨j,by lk,by rw[hC];exact zD,pr,?_⟩⟩⟩;rw[hC];unfold fj
 congr 1
 unfold aL;rw[ZaJ];refine ZaU λi _=>?_;show yb _ _ _=_;simp only[Function.comp,inD,Zbq,Zan]
def zE(n0:0<n)(w:ae.Wh n p):∀(N j:Nat),(∀i,i<N->i<(ae.ch n p i).1.length)->j<=N->(ae.ch n p j).1.length<=(ae.ch n p N).1.length
 |0,j,_,hj=>by
  have:j=0:=by lk
  subst this;exact Zag _
 |N+1,j,pr,hj=>by
  by_cases e:j=N+1;subst e;exact Zag _;have h1:=zE n0 w N j (λi hi=>pr i ⋯) ⋯;have g:=ae.B6 n0 w N λi hi=>pr i ⋯;have hN:=pr N ⋯;have pZ:=g.ll;have r1:=ae.vZ (s:=(true,1)) n0 g.r w.v (k:=(ae.ch n p N).2.2.length) ⋯ (.inl rfl);have r2:=ae.vZ (s:=(false,1)) n0 r1.1 w.v (k:=(ae.ch n p N).2.2.length) (by have:=r1.2.2.1;lk) (.inr rfl);have a:=r1.2.2.1;have b:=r2.2.2.1;have:(ae.ch n p N).1.length<=(ae.ch n p (N+1)).1.length:=Zal a b;lk
def VJ{st:Store}{a b n k:Nat}{p:ae.aP}{fs:List ae.aP}{ws:List (List cg)}{s1:cg}(n0:0<n)(hn:n<=20)(hs:s1=(true,1)\/s1=(false,1))(ab:a≠b)(ha:st[a]?=some (.lst (fs.map bK)))(hb:st[b]?=some (.lst (ws.map wD)))(g:ae.GR n p fs ws)(vp:ae.Vf n p)(hk:k<fs.length)(few:fs.length<=100):
  Wp (Cj [.ref a,.ref b,.int (k:Int),bw s1] st) λd st'=>d=.int ((ae.aY n fs ws k s1).2.2:Int)/\st'[a]?=some (.lst ((ae.aY n fs ws k s1).1.map bK))/\st'[b]?=some (.lst ((ae.aY n fs ws k s1).2.1.map wD))/\Ex [a,b] st st':=by
 refine d6 ?_;intro qR;show Ws (Ik [some (.ref a),some (.ref b),some (.int (k:Int)),some (bw s1),none] st) _ _ _ _;unfold Ik;have ek:=iS (d:=(([],[]):ae.aP)) hk;have hkw:k<ws.length:=by rw[g.wl];exact hk
 have ew:=iS (d:=([]:List cg)) hkw;have ps:ae.bL s1:=by rcases hs with rfl|rfl<;>exact⟨λ_=>by decide,by decide⟩
 have gN:=ae.vZ n0 g vp hk hs;have lN:(ae.aY n fs ws k s1).1.length<=101:=by have:=gN.2.2.2.1;lk
 generalize hq:fs.getD k ([],[])=q at ek;generalize hw:ws.getD k []=w at ew;obtain⟨wq,oq⟩:=g.own q (Zai ek);obtain⟨pw,lw,nw,-⟩:=g.wd k w ew;have hat:eZ (fs.map bK) (k:Int)=some (bK q):=wt ek;refine aT (bC ?_);exists _,Z,bO ha,hat;refine⟨rfl,?_⟩;have hw1:(D.tup [bw s1])=.tup ([s1].map bw):=rfl;rw[hw1];refine aS (Vo (p:=q) (w:=[s1]) ⟨wq.v.1,wq.v.2⟩ ⋯ (λx hx=>by rw[Zaq.mp hx];exact ps.1) (show 1<=1000 by decide)) ?_;rintro d t1 ⟨rfl,k1⟩;have e1:oO q [s1]=ae.stM q s1:=VE q s1;rw[e1];have GS:=wq.st n0 s1;have eS:bK (ae.stM q s1)=b5 (ae.stM q s1).1 (ae.stM q s1).2:=rfl;rw[eS];refine aS (MF (CA GS) n0 hn) ?_;rintro d t2 ⟨rfl,k2⟩;have eF:b5 (ae.aR n ((ae.stM q s1).1,(ae.stM q s1).2)).1 (ae.aR n ((ae.stM q s1).1,(ae.stM q s1).2)).2=bK (ae.aR n (ae.stM q s1)):=rfl;rw[eF];have wx:=k1.trans k2;have ha2:=wx.keep _ _ ha (by simp);have hb2:=wx.keep _ _ hb (by simp);have pf:∀q:ae.aP,pU 2 (bK q):=λq=>O9 0 _ _;have hj:(ae.aY n fs ws k s1).1[(ae.aY n fs ws k s1).2.2]?=some (ae.aR n (ae.stM q s1)):=by
  obtain⟨q',h1,h2⟩:=gN.2.2.2.2;rw[ek]at h1;cases h1;exact h2
 have rest:∀ {s3:Store},s3[a]?=some (.lst ((ae.aY n fs ws k s1).1.map bK))->s3[b]?=some (.lst ((ae.aY n fs ws k s1).2.1.map wD))->Ex [a,b] st s3 ->
   Ws ((aQ (lO "list" cY (ag 0) (af (ag 4) ah))) [some (.ref a),some (.ref b),some (.int (k:Int)),some (bw s1),some (bK (ae.aR n (ae.stM q s1)))] s3) (λ_ st1=>D.non=D.int ((ae.aY n fs ws k s1).2.2:Int)/\st1[a]?=some (.lst ((ae.aY n fs ws k s1).1.map bK))/\st1[b]?=some (.lst ((ae.aY n fs ws k s1).2.1.map wD))/\Ex [a,b] st st1) (λ_ _=>False) (λ_ _=>False) (λd st1=>d=D.int ((ae.aY n fs ws k s1).2.2:Int)/\st1[a]?=some (.lst ((ae.aY n fs ws k s1).1.map bK))/\st1[b]?=some (.lst ((ae.aY n fs ws k s1).2.1.map wD))/\Ex [a,b] st st1):=by
  intro s3 tu tw k3;refine cK ?_;k_lt cL;refine⟨qh (by rw[bO tu];rfl),?_⟩;rw[Uy (n:=2) (j:=(ae.aY n fs ws k s1).2.2) (pf _) (bO tu) (λe he=>by obtain⟨q,_,rfl⟩:=Zau.mp he;exact pf q) ∅ (by rw[Zaa];lk) (by rw[Zad,hj];rfl) (VF gN.1.nd hj)];exact cL _ _ ⟨rfl,tu,tw,k3⟩
 refine Z _ _ (aT (gP ?_));k_lt2 Z;have J1:b7 t2 (.ref a)=some (fs.map bK):=bO ha2;rw[Ly (n:=2) (es:=fs.map bK) (pf _) J1 (λe he=>by obtain⟨q,_,rfl⟩:=Zau.mp he;exact pf q) ∅];by_cases hm:ae.aR n (ae.stM q s1)∈fs;have hm':bK (ae.aR n (ae.stM q s1))∈fs.map bK:=Zau.mpr ⟨_,hm,rfl⟩;have eR:ae.aY n fs ws k s1=(fs,ws,fs.idxOf (ae.aR n (ae.stM q s1))):=by unfold ae.aY;rw[hq,if_pos hm]
 refine⟨false,by simp[hm'],Z _ _ ⟨λz=>(nomatch z),λ_=>ja (rest ?_ ?_ wx.any)⟩⟩;rw[eR];exact ha2;rw[eR];exact hb2;have hm':bK (ae.aR n (ae.stM q s1)) ∉ fs.map bK:=λz=>by
  obtain⟨q',h1,h2⟩:=Zau.mp z;exact hm (P0 h2 ▸ h1)
 have eR:ae.aY n fs ws k s1=(fs ++ [ae.aR n (ae.stM q s1)],ws ++ [(ae.j8 (w ++ [s1])).reverse],fs.length):=by unfold ae.aY;rw[hq,hw,if_neg hm]
 refine⟨true,by simp[hm'],Z _ _ ⟨λ_=>?_,λz=>(nomatch z)⟩⟩;clear Z;refine aT (su ?_);exists _,Z,mC ha2;refine⟨qh (by rw[bO ha2];rfl),nh (by rw[Zaa];lk),Z _ _ (su ?_)⟩;clear Z;have em:fs.map bK ++ [bK (ae.aR n (ae.stM q s1))]=(ae.aY n fs ws k s1).1.map bK:=by rw[eR,Zav];rfl
 rw[em];have tu:(t2.set a (.lst ((ae.aY n fs ws k s1).1.map bK)))[a]?=some (.lst ((ae.aY n fs ws k s1).1.map bK)):=Zao (ff ha2);have tw:(t2.set a (.lst ((ae.aY n fs ws k s1).1.map bK)))[b]?=some (.lst (ws.map wD)):=by rw[Zat ab];exact hb2
 have k3:Ex [a,b] st (t2.set a (.lst ((ae.aY n fs ws k s1).1.map bK))):=(wx.any).put (by simp);generalize t2.set a (.lst ((ae.aY n fs ws k s1).1.map bK))=s3 at tu tw k3 ⊢;have CB:eZ (ws.map wD) (k:Int)=some (.tup (w.map bw)):=wt (g:=wD) ew;exists _,Z,bO tw,CB;refine⟨qh (by rw[bO tw];rfl),rfl,?_⟩;rw[hw1];refine aS (Vr (v:=w) (w:=[s1]) (by show _+1<=_;lk)) ?_;rintro d s4 ⟨rfl,k4⟩;have J4:=k4.keep _ _ tu (by simp);have CC:=k4.keep _ _ tw (by simp);exists mC CC;refine⟨nh (by rw[Zaa,g.wl];lk),Z _ _ (rest ?_ ?_ ((k3.trans k4.any).put (by simp)))⟩;rw[Zat (Ne.symm ab)];exact J4;rw[Zao (ff CC),eR,Zav];rfl
abbrev CD(l:Nat×Nat):D:=.tup [.int (l.1:Int),.int (l.2:Int)]
def Zb4(w0:ae.Wh n p)(n0:0<n)(hn:n<=20)(F:ae.Full n p (ae.ch n p N) N)(pr:∀j,j<N->j<(ae.ch n p j).1.length)(hN:N<=most)(MH:most<=60):Wp (DQ [bK p,.int (most:Int)] st) λd st'=>d=fj (ae.ch n p N) N/\Ex [] st st':=by
 refine d6 ?_;intro qR;show Ws (L0 [some (bK p),some (.int (most:Int)),none,none,none,none,none,none] st) _ _ _ _;unfold L0;refine aT (bC ?_);k_lt Z;refine aS (MF (CA w0) n0 hn) ?_;rintro d s1 ⟨rfl,k1⟩;refine⟨rfl,Z _ _ (aT (bC ?_))⟩;k_lt2 Z;refine⟨rfl,rfl,Z _ _ (aT (bC ?_))⟩;k_lt2 Z;refine⟨rfl,Z _ _ ?_⟩;clear Z;have eF:b5 (ae.aR n (p.1,p.2)).1 (ae.aR n (p.1,p.2)).2=bK (ae.aR n p):=rfl;rw[eF];obtain⟨a,b,c,s2,ea,eb,ec,es,ab,bc,la,ha,hb,hc,kx⟩:∃(a b c:Nat) (s2:Store),s1.length=a/\(s1 ++ [O.lst [bK (ae.aR n p)]]).length=b/\(s1 ++ [O.lst [bK (ae.aR n p)]] ++ [O.lst [D.tup []]]).length=c/\s1 ++ [O.lst [bK (ae.aR n p)]] ++ [O.lst [D.tup []]] ++ [O.lst []]=s2/\a<b/\b<c/\st.length<=a/\s2[a]?=some (.lst ((ae.ch n p 0).1.map bK))/\s2[b]?=some (.lst ((ae.ch n p 0).2.1.map wD))/\s2[c]?=some (.lst ((ae.ch n p 0).2.2.map CD))/\Ex [] st s2 :=
  ⟨_,_,_,_,rfl,rfl,rfl,rfl,by simp,by simp,k1.len,km (km i7),km i7,i7,((k1.app _).app _).app _⟩
 rw[ea,eb,ec,es]
 let iR:IV:=λm δ s=>∃(v5 v6 v7:Option D) (j:Nat),δ=[some (bK p),some (.int (most:Int)),some (.ref a),some (.ref b),some (.ref c),v5,v6,v7]/\m+j=N/\s[a]?=some (.lst ((ae.ch n p j).1.map bK))/\s[b]?=some (.lst ((ae.ch n p j).2.1.map wD))/\s[c]?=some (.lst ((ae.ch n p j).2.2.map CD))/\Ex [] st s
 refine aT (xO iR N (by show N<1000000;lk) ⟨none,none,none,0,rfl,rfl,ha,hb,hc,kx⟩ ?_);rintro m δ s ⟨v5,v6,v7,j,rfl,hm,ha,hb,hc,k⟩;have g:=ae.B6 n0 w0 j λi hi=>pr i ⋯;have pZ:=g.ll;have up:=zE n0 w0 N j pr ⋯;have hfl:=F.fl;exists _,Z,bO ha,bO hc;rw[Zaa,Zaa,pZ];refine Z _ _ ⟨λz=>aT (gP ?_),λz=>cK ?_⟩;have z:j<(ae.ch n p j).1.length:=by have:=of_decide_eq_true z;lk
 clear Z;exists _,Z,bO ha;rw[Zaa];refine Z _ _ ⟨λy=>?_,λy=>ja (aT (bC ?_))⟩
 have:=of_decide_eq_true y
 lk;clear Z;have hjN:j<N:=by
  rcases ZbZ j N with h|h
  exact h
  have:j=N:=by lk
  subst this;lk
 exists _,Z,bO hc;rw[Zaa,pZ];refine Z _ _ (aT (bC ?_));k_lt2 Z;have es1:D.tup [D.str (Str.ofString "s"),D.int 1]=bw (true,1):=rfl;have et1:D.tup [D.str (Str.ofString "t"),D.int 1]=bw (false,1):=rfl;rw[es1];have r1:=ae.vZ (s:=(true,1)) n0 g.r w0.v (k:=j) z (.inl rfl);have r2:=ae.vZ (s:=(false,1)) n0 r1.1 w0.v (k:=j) (by have:=r1.2.2.1;lk) (.inr rfl);refine aS (VJ (s1:=(true,1)) (k:=j) n0 hn (.inl rfl) ⋯ ha hb g.r w0.v z ⋯) ?_;rintro d s3 ⟨rfl,tu,tw,k3⟩;have hc3:=k3.keep _ _ hc (by simp;lk);refine Z _ _ (aT (bC ?_));k_lt2 Z;rw[et1];refine aS (VJ (s1:=(false,1)) (k:=j) n0 hn (.inr rfl) ⋯ tu tw r1.1 w0.v (by have:=r1.2.2.1;lk) (by have:=r1.2.2.2.1;lk)) ?_;rintro d s4 ⟨rfl,J4,CC,k4⟩;have hc4:=k4.keep _ _ hc3 (by simp;lk);refine Z _ _ (su ?_);clear Z;exists _,Z,mC hc4;have eS:ae.nH n (ae.ch n p j)=ae.aY n (ae.ch n p j).1 (ae.ch n p j).2.1 j (true,1):=by unfold ae.nH;rw[pZ]
 have eT:ae.lU n (ae.ch n p j)=ae.aY n (ae.aY n (ae.ch n p j).1 (ae.ch n p j).2.1 j (true,1)).1 (ae.aY n (ae.ch n p j).1 (ae.ch n p j).2.1 j (true,1)).2.1 j (false,1):=by unfold ae.lU;rw[eS,pZ]
 have kd:∀{x y:Store},Ex [] st x->Ex [a,b] x y->Ex [] st y:=λ{x y} h g=>⟨Zal h.len g.len,λi o e n=>g.keep i o (h.keep i o e n) (by have:=ff e;simp;lk)⟩;have k5:Ex [] st s4:=kd (kd k k3) k4;refine⟨qh (by rw[bO hc4];rfl),rfl,nh (by rw[Zaa];lk),Z _ _ ⟨m-1,by lk,_,_,_,j+1,rfl,by lk,?_,?_,?_,k5.loc ⋯⟩⟩;rw[Zat ⋯];show _=some (O.lst ((ae.lU n (ae.ch n p j)).1.map bK));rw[eT];exact J4;rw[Zat ⋯];show _=some (O.lst ((ae.lU n (ae.ch n p j)).2.1.map wD));rw[eT];exact CC;rw[Zao (ff hc4)];show _=some (O.lst (((ae.ch n p j).2.2 ++ [((ae.nH n (ae.ch n p j)).2.2,(ae.lU n (ae.ch n p j)).2.2)]).map CD));rw[Zav,eT,eS];rfl;have z:¬j<(ae.ch n p j).1.length:=by have:=of_decide_eq_false z;lk
 have ej:j=N:=by
  rcases ZbZ j N with h|h
  exact absurd (pr j h) z;lk
 subst ej;k_lt2 Z;generalize hC:ae.ch n p j=C at ha hb hc g F hfl pZ;refine vX (aL 0 j) (λd=>yb (C.1.getD (inD d).toNat ([],[])) (C.2.1.getD (inD d).toNat []) (C.2.2.getD (inD d).toNat (0,0))) ?_ (by rw[gO];lk) ?_ ?_;exists _,cL,bO ha;rw[Zaa,hfl];exact⟨by lk,cL _ _ ⟨by rw[Zan];exact sX _ _,Ex.refl⟩⟩;intro d hd s5 k5;obtain⟨i,hi⟩:=ZbP hd;have hil:=ff hi;rw[gO]at hil;rw[xN hil,Zbq]at hi;cases hi;have hwl:=g.r.wl;have ef:=iS (d:=(([],[]):ae.aP)) (show i<C.1.length by lk);have ew:=iS (d:=([]:List cg)) (show i<C.2.1.length by lk);have el:=iS (d:=((0,0):Nat×Nat)) (show i<C.2.2.length by lk);have a1:eZ (C.1.map bK) (i:Int)=some (bK (C.1.getD i ([],[]))):=wt ef;have a2:eZ (C.2.1.map wD) (i:Int)=some (wD (C.2.1.getD i [])):=wt ew;have a3:eZ (C.2.2.map CD) (i:Int)=some (CD (C.2.2.getD i (0,0))):=wt el;have g0:∀{l:Nat×Nat} {s:Store} {Q:D->Store->Prop},Wp (aD (CD l) (.int 0) s) Q↔Q (.int (l.1:Int)) s:=bh;have g1:∀{l:Nat×Nat} {s:Store} {Q:D->Store->Prop},Wp (aD (CD l) (.int 1) s) Q↔Q (.int (l.2:Int)) s:=bh;have P5:=k5.keep _ _ ha (by simp);have P6:=k5.keep _ _ hb (by simp);have hc5:=k5.keep _ _ hc (by simp);exists _,cL,ZaD,Za6,Za1,Za2,bO P5,bO P6,bO hc5,a1,a2,a3,g0,g1;exact⟨rfl,cL _ _ ⟨rfl,Ex.refl⟩⟩;intro s5 k5;refine⟨_,rm,Z _ _ ⟨?_,(k.trans k5).app _⟩⟩;rw[hC];unfold fj
 congr 1
 unfold aL;rw[ZaJ];refine ZaU λi _=>?_;show yb _ _ _=_;simp only[Function.comp,inD,Zbq,Zan]
def Ydv(c:ae.CS)(N:Nat):∃ds,fj c N=.tup ds:=⟨_,rfl⟩
def Zcd{st:Store}{f most:Nat}(hf:bP st f)(m30:30<=most)(MH:most<=60):Wp (DL [.ref f,.int (most:Int)] st) λd st'=>∃(n:Nat) (p:ae.aP) (N:Nat),d=.tup [bK p,fj (ae.ch n p N) N]/\ae.Wh n p/\0<n/\n<=6/\ae.Full n p (ae.ch n p N) N/\(∀j,j<N->j<(ae.ch n p j).1.length)/\N<=most/\bP st' f/\Ex [f] st st':=by
 refine d6 ?_;intro qR;show Ws (Hl [some (.ref f),some (.int (most:Int)),none,none] st) _ _ _ _;unfold Hl;refine aT (bC ?_);k_lt Z;refine aS (wg (n:=5) hf ∅ ∅) ?_;rintro d t1 ⟨k1,rfl,k10,k11,f1,e1⟩;w_how;refine⟨rfl,?_⟩;have f2:bP (t1 ++ [O.lst [D.int (1+k1),D.int 6]]) f:=f1.keep (Ex.cZ _);have i2:(t1 ++ [O.lst [D.int (1+k1),D.int 6]])[t1.length]?=some (.lst [D.int (1+k1),D.int 6]):=i7;have e2:Ex [f] st (t1 ++ [O.lst [D.int (1+k1),D.int 6]]):=e1.app _;have lf:=f1.lt;have hne:t1.length≠f:=by lk
 generalize t1 ++ [O.lst [D.int (1+k1),D.int 6]]=t2 at f2 i2 e2 ⊢;generalize t1.length=r at i2 hne ⊢;refine aS (wg (n:=8) f2 ∅ ∅) ?_;rintro d t3 ⟨k2,rfl,k20,k21,f3,e3⟩;have i3:items t3 r=some [D.int (1+k1),D.int 6]:=bO (e3.keep _ _ i2 (by simp;exact hne));exists i3;obtain⟨n,x,hx,ex,n0,n6⟩:∃(n:Nat) (x:D),eZ [D.int (1+k1),D.int 6] (k2 / 7)=some x/\x=.int (n:Int)/\0<n/\n<=6:=by
  rcases(show k2 / 7=0\/k2 / 7=1 by lk)with h|h
  rw[h];exact⟨(1+k1).toNat,_,rfl,by rw[ZaG ⋯],by lk,by lk⟩;rw[h];exact⟨6,_,rfl,rfl,by decide,by decide⟩
 refine⟨by decide,x,hx,?_⟩;rw[ex];clear hx ex;refine aS (U6 (n:=n) f3 ⋯ ⋯) ?_;rintro d t4 ⟨xs,ys,rfl,fl,f4,e4⟩;refine Z _ _ (aT (bC ?_));k_lt2 Z;have w4:=PX fl;have e14:Ex [f] st t4:=(e2.trans e3).trans e4;refine aS (VH (p:=(xs,ys)) (most:=most) w4 n0 ⋯ ⋯ MH) ?_;rintro d t5 ⟨e5,hc⟩;have f5:=f4.keep e5;refine Z _ _ ?_;clear Z;show Ws _ _ _ _ _
 let iR:IV:=λm δ s=>∃(n:Nat) (p:ae.aP) (d:D),δ=[some (.ref f),some (.int (most:Int)),some (bK p),some d]/\ae.Wh n p/\0<n/\n<=6/\((∃N,N<=most/\ae.Full n p (ae.ch n p N) N/\(∀j,j<N->j<(ae.ch n p j).1.length)/\d=fj (ae.ch n p N) N)\/(d=.non/\m=1))/\bP s f/\Ex [f] st s
 refine aT (xO iR 1 ∅ ?_ ?_);refine⟨n,(xs,ys),d,rfl,w4,n0,n6,?_,f5,e14.trans e5.any⟩;rcases hc with h|h
 exact .inl h;exact .inr ⟨h.1,rfl⟩;rintro m δ s ⟨n,p,d,rfl,w4,n0,n6,hd,f6,e6⟩;rcases hd with⟨N,P7,hF,uK,rfl⟩|⟨rfl,rfl⟩
 obtain⟨ds,VL⟩:=Ydv (ae.ch n p N) N;rw[VL];exists _,Z,Ua;refine Z _ _ ⟨λz=>(nomatch z),λ_=>cK ?_⟩;k_lt2 Z;exact⟨rfl,Z _ _ ⟨n,p,N,by rw[VL],w4,n0,n6,hF,uK,P7,f6,e6⟩⟩;exists _,Z,O4;refine Z _ _ ⟨λ_=>aT (bC ?_),λz=>(nomatch z)⟩;k_lt2 Z;refine aS (wg (n:=3) f6 ∅ ∅) ?_;rintro d t7 ⟨k3,rfl,k30,k31,f7,e7⟩;w_how;obtain⟨n',hn'⟩:∃n':Nat,(1:Int)+k3=(n':Int):=⟨(1+k3).toNat,by lk⟩;rw[hn'];refine aS (U6 (n:=n') f7 ⋯ ⋯) ?_;rintro d t8 ⟨xs,ys,rfl,fl,f8,e8⟩;refine Z _ _ (bC ?_);k_lt2 Z;have w8:=PX fl;refine aS (VH (p:=(xs,ys)) (most:=most) w8 (show 0<n' by lk) ⋯ ⋯ MH) ?_;rintro d t9 ⟨e9,hc⟩;rcases hc with⟨N,P7,hF,uK,rfl⟩|⟨rfl,i,pr,hi⟩
 exact Z _ _ ⟨0,by decide,n',(xs,ys),_,rfl,w8,by lk,by lk,.inl ⟨N,P7,hF,uK,rfl⟩,f8.keep e9,((e6.trans e7).trans e8).trans e9.any⟩;have g:=ae.B6 ⋯ w8 i pr
 have:=ae.Xdt (n:=n') ⋯ ⋯ g.r.nd g.r.own;lk
def VM(h:b7 st a=some (ns.map D.int))(hl:ns.length<64):Wp (ko [a] st) Q↔Q (.ref st.length) (st ++ [.lst ((sortI ns).map D.int)]):=by
 have e:ko [a] st=some (.ref st.length,st ++ [.lst ((sortI ns).map D.int)]):=by
  simp only[ko,h,Za7,OT,if_pos hl]
 rw[e,bh]
def VN(p:a.Perm b):sortI a=sortI b:=by
 have s:∀ns:List Int,(sortI ns).Pairwise (·<=·):=λns=>by
  unfold sortI;refine(Zcv (le:=λa b=>decide (a<=b)) ?_ ?_ ns).imp ?_;intro a b c h1 h2;simp at *;lk;intro a b;simp;lk;intro a b h;simpa using h
 have q:∀ns:List Int,(sortI ns).Perm ns:=λns=>by unfold sortI;exact ZcV _ _
 exact ae.N6 ((q a).trans (p.trans (q b).symm)) (s a) (s b)
def J8:1073741825<=P2 102:=Zal (show 1073741825<=2 ^ 31 by decide) (ZbS (n:=2) ∅ ∅)
def J9(g:List cg):ae.ai (g ++ [((false,2):cg)])=⟨-(ae.ai g).a,-(ae.ai g).b,-(ae.ai g).c,-(ae.ai g).d⟩:=by rw[ae.wK];have e3:ae.j9 ((false,2):cg)=⟨-1,0,0,-1⟩:=rfl;rw[e3];apply ae.T4.ext'<;>simp[ae.T4.mul]
def MI{g:List cg}(hg:∀s∈g,ae.bL s):∀s∈g ++ [((false,2):cg)],ae.bL s:=λs hs=>by
 rcases ZaA.mp hs with hs|hs
 exact hg s hs;rw[Zaq.mp hs];unfold ae.bL;decide
def CF{g:List cg}{p c:Int}(h1:(ae.ai g).a*p+(ae.ai g).b*c=-1)(h2:(ae.ai g).c*p+(ae.ai g).d*c=0):ae.Gd (ae.ai (g ++ [((false,2):cg)])) p c:=by rw[J9];constructor;show -(ae.ai g).a*p + -(ae.ai g).b*c=1;rw[Za3,Za3];lk;show -(ae.ai g).c*p + -(ae.ai g).d*c=0;rw[Za3,Za3];lk
abbrev lJ(a h:Int):List cg:=if(ae.ai (rW 32 a h)).a*a+(ae.ai (rW 32 a h)).b*h=-1 then rW 32 a h ++ [((false,2):cg)]else rW 32 a h
def P8(hB:B<=1073741824)(hp:p.natAbs<=B)(hc0:0<=c)(hc:c.natAbs<=B)(hgc:Int.gcd p c=1)(hnn:¬(p=-1/\c=0)):Wp (DX [.tup [.int p,.int c]] st) λd st'=>d=fz (ae.ai (lJ p c))/\(∀s∈lJ p c,ae.bL s)/\ae.Gd (ae.ai (lJ p c)) p c/\(ae.ai (lJ p c)).le (B+1)/\Ex [] st st':=by
 refine Gj ?_;show Ws (Jy [some (.tup [.int p,.int c]),none,none] st) _ _ _ _;unfold Jy;refine aT (bC ?_);k_lt Z;refine aS (Vu (x:=p) (y:=c) (M:=1073741824) (k:=31) ∅ ∅ ⋯ ⋯) ?_;rintro d s1 ⟨g,rfl,hg,Cy,h0,⟨ub,r,bv⟩,eg,k1⟩;refine Z _ _ (aT (bC ?_));k_lt2 Z;refine aS (MB (w:=g) (λs hs=>⟨(hg s hs).1,by have:=(hg s hs).2;lk⟩) ⋯) ?_;rintro d s2 ⟨rfl,k2⟩;have uK:∀s∈g,ae.bL s:=λs hs=>(hg s hs).1;have xa:Int.gcd p c=((ae.ai g).a*p+(ae.ai g).b*c).natAbs:=ae.A8 bv.dt h0;obtain⟨ex,ec⟩:=ae.FY bv.dt h0;have hba:=bv.ba;have Nn:=bv.bb;rw[hgc]at xa;obtain⟨u,hu⟩:∃u,(ae.ai g).a*p+(ae.ai g).b*c=u:=⟨_,rfl⟩;rw[hu]at xa ex ec;have hle:(ae.ai g).le (B+1):=by
  have e1:(ae.ai g).d.natAbs=p.natAbs:=by rw[ex,Za5,<- xa,Nat.mul_one]
  have e2:(ae.ai g).c.natAbs=c.natAbs:=by rw[ec,Int.natAbs_neg,Za5,<- xa,Nat.mul_one]
  exact⟨by lk,by lk,by lk,by lk⟩
 clear ex ec hba Nn bv;have hP:=J8;refine aS (Vt (T:=ae.ai g) (x:=p) (y:=c) (w6 hle ⋯) ⋯ ⋯) ?_;rintro d s3 ⟨rfl,k3⟩;rw[hu,h0];have kk:Ex [] st s3:=(k1.trans k2).trans k3;refine Z _ _ (aT (gP ?_));clear Z;exists _,Z,PN,PQ,Ub,BV;rw[if_neg (by simpa using hc0),if_neg (by rw[Bool.not_eq_true',decide_eq_false_iff_not];split<;>lk)];refine⟨rfl,Z _ _ ⟨λh=>absurd (of_decide_eq_true h) hnn,λ_=>ja (aT (gP ?_))⟩⟩;clear Z;exists _,Z,PN;refine Z _ _ ⟨λh=>bC ?_,λh=>ja (cK ?_)⟩;have hu1:u=-1:=of_decide_eq_true h;k_lt2 Z;have e1:(g.map bw ++ [D.tup [D.str "t",D.int 2]])=(g ++ [((false,2):cg)]).map bw:=by rw[Zav];rfl
 rw[e1];refine⟨rfl,rfl,nh (by rw[Zaa];show _+1<=_;lk),Z _ _ (cK ?_)⟩;k_lt2 Z
 have uN:∀s∈g ++ [((false,2):cg)],ae.bL s/\s.2.natAbs<=4611686018427387904:=λs hs=>⟨MI uK s hs,by
  rcases ZaA.mp hs with hs|hs
  have:=(hg s hs).2;lk
  rw[Zaq.mp hs];decide⟩
 refine aS (MB (w:=g ++ [((false,2):cg)]) uN (by rw[Zae];show _+1<=_;lk)) ?_;rintro d s4 ⟨rfl,k4⟩;have es:lJ p c=g ++ [((false,2):cg)]:=by unfold lJ;rw[<- eg,if_pos (by rw[hu];exact hu1)]
 rw[es]at Z;refine Z _ _ ⟨rfl,MI uK,CF (by rw[hu];exact hu1) h0,?_,kk.trans k4⟩;rw[J9];obtain⟨l1,l2,l3,l4⟩:=hle;exact⟨by show(-(ae.ai g).a).natAbs<=B+1;lk,by show(-(ae.ai g).b).natAbs<=B+1;lk,by show(-(ae.ai g).c).natAbs<=B+1;lk,by show(-(ae.ai g).d).natAbs<=B+1;lk⟩;have hu1:u=1:=by have:=of_decide_eq_false h;lk
 k_lt2 Z;refine aS (MB (w:=g) (λs hs=>⟨(hg s hs).1,by have:=(hg s hs).2;lk⟩) ⋯) ?_;rintro d s4 ⟨rfl,k4⟩;have es:lJ p c=g:=by unfold lJ;rw[<- eg,if_neg (by rw[hu];lk)]
 rw[es]at Z;exact Z _ _ ⟨rfl,uK,⟨by rw[hu];exact hu1,h0⟩,hle,kk.trans k4⟩
def P9:Wp (aD (b5 xs ys) (.int 0) st) Q↔Q (.tup (xs.map D.int)) st:=bh
def Qa:Wp (aD (b5 xs ys) (.int 1) st) Q↔Q (.tup (ys.map D.int)) st:=bh
def VO:Wp (aD (yb p w l) (.int 2) st) Q↔Q (.int (l.1:Int)) st:=bh
def Qb:Wp (aD (yb p w l) (.int 3) st) Q↔Q (.int (l.2:Int)) st:=bh
abbrev zF(c:ae.CS)(k:Nat):D:=yb (c.1.getD k ([],[])) (c.2.1.getD k []) (c.2.2.getD k (0,0))
def Ka(c:ae.CS)(N:Nat):fj c N=.tup ((List.range N).map (zF c)):=rfl
def Yc5(h:c.2.2.length=N):(List.range N).map (λk=>((c.2.2.getD k (0,0)).1:Int))=ae.sT c:=by unfold ae.sT;refine Zby λk=>?_;rw[Zad,Zad];by_cases hk:k<N;rw[ZaV hk,Zab (by lk:k<c.2.2.length)];show some ((c.2.2.getD k (0,0)).1:Int)=_;rw[Zah,Zab (by lk:k<c.2.2.length)];rfl;rw[ZaO (by simp;lk),ZaO ⋯];rfl
def xc5(h:c.2.2.length=N):(List.range N).map (λk=>((c.2.2.getD k (0,0)).2:Int))=ae.tT c:=by unfold ae.tT;refine Zby λk=>?_;rw[Zad,Zad];by_cases hk:k<N;rw[ZaV hk,Zab (by lk:k<c.2.2.length)];show some ((c.2.2.getD k (0,0)).2:Int)=_;rw[Zah,Zab (by lk:k<c.2.2.length)];rfl;rw[ZaO (by simp;lk),ZaO ⋯];rfl
def VP(hi:Wp (fi δ st) λS st1=>pY S ((List.range N).map (zF c)) st1/\Ex [] st st1)(hN:N<=60)(hf:∀(k:Nat) (s:Store) (R:D->Store->Prop),R (.int (f k)) s->Wp (aD (zF c k) (.int j) s) R)(Z:∀s,Ex [] st s->Q (.ref s.length) (s ++ [.lst (((List.range N).map f).map D.int)])):Wp (cu fi 1 [] (hName 0) cR (av aD (ag 0) (fC (.int j))) δ st) Q:=by
 refine Uc ((List.range N).map (zF c)) (λi y _=>y=.int (f i)) (λ_ _ _ _ h _=>h) hi (by rw[Zaa,ZbA];lk) ?_ ?_;intro i d hd s1 k1;rw[Zad]at hd;obtain⟨k,hk,rfl⟩:=Zaz.mp hd;have hik:k=i:=by
  have:=(Zac.mp hk);obtain⟨h1,h2⟩:=this;rw[Zc0]at h2;exact h2.symm
 subst hik;k_lt cL;exact hf _ _ _ (cL _ _ ⟨rfl,Ex.refl⟩);intro ys s1 k1 hl hy;have e:ys=((List.range N).map f).map D.int:=by
  refine Zby λi=>?_;rw[Zaa,ZbA]at hl;by_cases hi':i<N;rw[Zad,Zad,ZaV hi',Zab ⋯,hy i _ (Zab (by lk:i<ys.length))];rfl;rw[ZaO ⋯,ZaO (by simp;lk)]
 rw[e];exact Z _ k1
def VQ(F:ae.Full n p c N)(hN:N<=60):Wp (Ip [fj c N] st) λd st'=>d=b5 (ae.sT c) (ae.tT c)/\Ex [] st st':=by refine d6 ?_;intro qR;show Ws (Io [some (fj c N)] st) _ _ _ _;unfold Io;refine cK ?_;k_lt Z;refine VP (c:=c) (N:=N) (f:=λk=>((c.2.2.getD k (0,0)).1:Int)) ?_ hN (λk s R h=>VO.mpr h) λs1 k1=>?_;k_lt hP;exact⟨_,Ka c N,hP _ _ ⟨sX _ _,Ex.refl⟩⟩;rw[Yc5 F.ll];w_how;refine VP (c:=c) (N:=N) (f:=λk=>((c.2.2.getD k (0,0)).2:Int)) ?_ hN (λk s R h=>Qb.mpr h) λs2 k2=>?_;k_lt hP;exact⟨_,Ka c N,hP _ _ ⟨sX _ _,Ex.refl⟩⟩;rw[xc5 F.ll];w_how;exact⟨rfl,Z _ _ ⟨rfl,(k1.trans (Ex.cZ _)).trans (k2.trans (Ex.cZ _))⟩⟩
def VR(n0:0<n)(F:ae.Full n p c N)(hN:N<=60):Wp (Iu [fj c N] st) λd st'=>d=b5 (ae.sT c) (ae.yT c)/\Ex [] st st':=by have tt:=F.DF n0;refine d6 ?_;intro qR;show Ws (Ir [some (fj c N),none] st) _ _ _ _;unfold Ir;refine aT (bC ?_);k_lt Z;refine aS (VQ F hN) ?_;rintro d s1 ⟨rfl,k1⟩;refine Z _ _ (cK ?_);clear Z;exists _,Z,P9,Qa;refine aS (D5 (xs:=ae.tT c) (ys:=ae.tT c) (λx hx=>by rw[tt.length];exact tt.bound hx) (by rw[tt.length];lk)) ?_;rintro d s2 ⟨rfl,k2⟩;exact⟨rfl,Z _ _ ⟨rfl,k1.trans k2⟩⟩
def CG(tx:ae.Tn n xs)(x0:0<=x)(x1:x<(n:Int))(h:Q (.int (ae.app xs x)) st):Wp (aD (.tup (xs.map D.int)) (.int x) st) Q:=by rw[vT];exact⟨_,sv x0 (by rw[tx.length];exact x1),h⟩
def ycu{st:Store}{n N:Nat}{p:ae.aP}{c:ae.CS}{w:List cg}(n0:0<n)(F:ae.Full n p c N)(hN:N<=60)(hw:∀s∈w,ae.bL s)(hl:w.length<=1000):Wp (L8 [fj c N,wD w] st) λd st'=>d=.int (ae.uM c 0 w)/\Ex [] st st':=by
 have ts:=F.wX n0;have tt:=F.DF n0;refine d6 ?_;intro qR;show Ws (IW [some (fj c N),some (wD w),none,none,none,none] st) _ _ _ _;unfold IW;refine aT (bC ?_);k_lt Z;refine aS (VQ F hN) ?_;rintro d s1 ⟨rfl,k1⟩;refine Z _ _ (aT (bC ?_));k_lt2 Z
 let iR:IV:=λi δ s=>∃(v4 v5:Option D) (x:Int),δ=[some (fj c N),some (wD w),some (b5 (ae.sT c) (ae.tT c)),some (.int x),v4,v5]/\0<=x/\x<(N:Int)/\ae.uM c 0 w=ae.uM c x (w.drop i)/\Ex [] st s
 refine Z _ _ (aT (nE (w.map bw) iR ?_ (by rw[Zaa];lk) ?_ ?_));k_lt2 Z;have N0:0<N:=by have:=F.r.few;rw[F.fl]at this;exact this
 exact⟨_,rfl,Z _ _ ⟨rfl,_,_,0,rfl,Int.le_refl _,by lk,rfl,k1⟩⟩;clear Z;rintro i d δ s hd ⟨v4,v5,x,rfl,x0,x1,ex,kk⟩;rw[Zad]at hd;obtain⟨a,ha,rfl⟩:=Zaz.mp hd;have hil:=(Zac.mp ha).1;have uK:=hw a (Zai ha);have ed:w.drop i=a :: w.drop (i+1):=by rw[Zbt hil,(Zac.mp ha).2]
 rw[ed]at ex;k_lt Z;obtain⟨b,k⟩:=a;refine Z _ _ ?_;clear Z;have go:∀{t:List Int} {s1:Store} {B C:ao->Store->Prop} {R:D->Store->Prop},ae.Tn N t->ae.uM c 0 w=ae.uM c (ae.pw t k x) (w.drop (i+1))->Ex [] st s1->Ws (aJ (av aD (aM DP (af (ag 5) (af (av aD (ag 4) (fC (D.int 1))) ah))) (ag 3)) (hName 3) [some (fj c N),some (wD w),some (b5 (ae.sT c) (ae.tT c)),some (.int x),some (bw (b,k)),some (.tup (t.map D.int))] s1) (λδ s=>∃(v4 v5:Option D) (x:Int),δ=[some (fj c N),some (wD w),some (b5 (ae.sT c) (ae.tT c)),some (.int x),v4,v5]/\0<=x/\x<(N:Int)/\ae.uM c 0 w=ae.uM c x (w.drop (i+1))/\Ex [] st s) B C R:=λ{t s1 B C R} tn et k2=>by
  have hb:=tn.pw x0 x1 k;have ea:ae.app (ae.cJ t k) x=ae.pw t k x:=ae.se x0 (by rw[tn.length];exact x1);refine bC ?_;unfold bw;k_lt hP;refine aS (Vj tn ⋯) ?_;rintro d s2 ⟨rfl,k3⟩;refine CG (tn.cJ k) x0 x1 ?_;rw[ea];exact hP _ _ ⟨_,_,_,rfl,hb.1,hb.2,et,k2.trans k3⟩
 cases b;refine aT (bC ?_);show Wp _ _;k_lt Z;show Wp (aD (.tup [.str "t",.int k]) (.int 0) s) _;w_how;rw[if_neg ∅];exact Qa.mpr (Z _ _ (go tt ex kk));refine aT (bC ?_);k_lt Z;show Wp (aD (.tup [.str "s",.int k]) (.int 0) s) _;w_how;rw[if_pos ∅];exact P9.mpr (Z _ _ (go ts ex kk));clear Z;rintro δ s ⟨v4,v5,x,rfl,x0,x1,ex,kk⟩;rw[Zaa,List.drop_length]at ex;refine cK ?_;k_lt Z;exact Z _ _ ⟨by rw[ex];rfl,kk⟩
abbrev tI(l:List Int):D:=.tup (l.map D.int)
def CH(h:tI l=tI m):l=m:=by unfold tI at h;injection h with h;exact List.map_inj_right (λa b e=>by injection e) |>.mp h
def Qc(l:List Int):pU 1 (tI l):=zt 0 l
abbrev kd(c:ae.CS)(N:Nat)(x:Nat):List Int:=sortI (ae.bf (ae.sT c) (ae.yT c) (x:Int) N)
abbrev cB(f:Nat->List Int):Nat->List (List Int)
 |0=>[]
 |i+1=>if f i∈cB f i then cB f i else cB f i ++ [f i]
def Kb(f:Nat->List Int)(i:Nat):cB f (i+1)=if f i∈cB f i then cB f i else cB f i ++ [f i]:=rfl
def D8(f:Nat->List Int):∀i,(cB f i).length<=i
 |0=>Zag _
 |i+1=>by
  unfold cB;have:=D8 f i;split;lk;rw[Zae];show _+1<=_;lk
def VS(n0:0<n)(F:ae.Full n p c N)(hN:N<=60):Wp (Cm [fj c N] st) λd st'=>d=.tup ((cB (kd c N) N).map tI)/\Ex [] st st':=by
 have ts:=F.wX n0;have ty:=F.Ca n0;refine d6 ?_;intro qR;show Ws (Iw [some (fj c N),none,none,none,none] st) _ _ _ _;unfold Iw;refine aT (bC ?_);k_lt Z;refine aS (VR n0 F hN) ?_;rintro d s1 ⟨rfl,k1⟩;refine Z _ _ (aT (bC ?_));k_lt2 Z
 let iR:IV:=λi δ s=>∃v3 v4:Option D,δ=[some (fj c N),some (b5 (ae.sT c) (ae.yT c)),some (.ref s1.length),v3,v4]/\s[s1.length]?=some (.lst ((cB (kd c N) i).map tI))/\Ex [] st s
 refine⟨rfl,Z _ _ (aT (nE (aL 0 N) iR ?_ (by rw[gO];lk) ?_ ?_))⟩;clear Z;exists _,Z,Ka;refine⟨by rw[Zaa,ZbA];lk,Z _ _ ⟨by rw[Zaa,ZbA,Zan],_,_,rfl,i7,k1.app _⟩⟩;clear Z;rintro k d δ s hd ⟨v3,v4,rfl,hl,kk⟩;have hk:=ff hd;rw[gO]at hk;rw[xN hk,Zbq]at hd;cases hd;k_lt Z;refine Z _ _ (aT (bC ?_));k_lt2 Z;refine aS (Ve (s:=(k:Int)) ts ty ⋯ ⋯ ⋯) ?_;rintro d s2 ⟨rfl,k2⟩;have rK:=ae.AW ts ty (show(0:Int)<=(k:Int) by lk) (show(k:Int)<(N:Int) by lk) N;rw[VM (ns:=ae.bf (ae.sT c) (ae.yT c) (k:Int) N) zo ⋯];refine⟨_,(show b7 _ (.ref _)=_ from rm),Z _ _ (gP ?_)⟩;clear Z;have MJ:Ex [] s (s2 ++ [O.lst ((kd c N k).map D.int)]):=k2.app _;have hl3:=MJ.keep _ _ hl (by simp);show Wp (aH _ [some (fj c N),some (b5 (ae.sT c) (ae.yT c)),some (.ref s1.length),some (.int (k:Int)),some (tI (kd c N k))] (s2 ++ [O.lst ((kd c N k).map D.int)])) _;generalize (s2 ++ [O.lst ((kd c N k).map D.int)])=s3 at MJ hl3 ⊢;k_lt Z;rw[Ly (n:=1) (es:=(cB (kd c N) k).map tI) (Qc _) (show b7 _ (.ref _)=_ from bO hl3) (λe he=>by obtain⟨q,_,rfl⟩:=Zau.mp he;exact Qc q) ∅]
 have hmem:tI (kd c N k)∈(cB (kd c N) k).map tI↔kd c N k∈cB (kd c N) k:=⟨λh=>by
  obtain⟨q,hq,e⟩:=Zau.mp h
  rw[<- CH e];exact hq,λh=>List.mem_map_of_mem h⟩
 have hlen:=D8 (kd c N) k;refine⟨_,rfl,Z _ _ ⟨λz=>su ?_,λz=>ja ⟨_,_,rfl,?_,kk.trans MJ⟩⟩⟩;have z:¬ kd c N k∈cB (kd c N) k:=λw=>by
  have:=hmem.mpr w;simp[this]at z
 clear Z;exists _,Z,mC hl3;refine⟨qh (by rw[bO hl3];rfl),nh (by rw[Zaa];lk),Z _ _ ⟨_,_,rfl,?_,(kk.trans MJ).loc (k1.len)⟩⟩;rw[Zao (ff hl3)];rw[Kb,if_neg z,Zav];rfl;have z:kd c N k∈cB (kd c N) k:=by
  refine Classical.byContradiction λw=>?_;have:¬tI (kd c N k)∈(cB (kd c N) k).map tI:=λu=>w (hmem.mp u);simp[this]at z
 rw[Kb,if_pos z];exact hl3;clear Z;rintro δ s ⟨v3,v4,rfl,hl,kk⟩;rw[gO]at hl;refine cK ?_;exists _,Z,bO hl;exact Z _ _ ⟨rfl,kk⟩
def sC(f:Nat->List Int):∀(N:Nat) (k:List Int),k∈cB f N↔∃i,i<N/\k=f i
 |0,k=>⟨λh=>(nomatch h),λ⟨i,h,_⟩=>absurd h (Za0 _)⟩
 |N+1,k=>by
  rw[Kb];constructor
  ·intro h
   have:k∈cB f N\/k=f N:=by
    split at h
    ·exact .inl h
    ·rcases ZaA.mp h with h|h
     ·exact .inl h
     ·exact .inr (Zaq.mp h)
   rcases this with h|rfl
   ·obtain⟨i,hi,e⟩:=(sC f N k).mp h
    exact⟨i,by lk,e⟩
   ·exact⟨N,by lk,rfl⟩
  ·rintro⟨i,hi,rfl⟩
   by_cases hi':i<N
   ·have:=(sC f N (f i)).mpr ⟨i,hi',rfl⟩
    split
    ·exact this
    ·exact Zbv _ this
   ·have e:i=N:=by lk
    subst e;split
    ·next h=>exact h
    ·exact ZaN _ (by simp)
def D9(f:Nat->List Int):∀N,(cB f N).Nodup
 |0=>List.nodup_nil
 |N+1=>by
  rw[Kb];split
  ·exact D9 f N
  ·next h =>
   rw[Zb7];exact⟨D9 f N,by simp,λa ha b hb e=>h (by rw[Zaq.mp hb]at e;rw[<- e];exact ha)⟩
def VT(ns:List Int):(sortI ns).Pairwise (·<=·):=by unfold sortI;refine(Zcv (le:=λa b=>decide (a<=b)) ?_ ?_ ns).imp ?_;intro a b c h1 h2;simp at *;lk;intro a b;simp;lk;intro a b h;simpa using h
def MK(ns:List Int):(sortI ns).Perm ns:=by unfold sortI;exact ZcV _ _
section
variable {n N:Nat}{p:ae.aP}{c:ae.CS}
def wy:y∈kd c N x↔y∈ae.bf (ae.sT c) (ae.yT c) (x:Int) N:=by unfold kd;exact(MK _).mem_iff
def CI(x:Nat):(x:Int)∈kd c N x:=wy.mpr (ae.Pj _ _ _ _)
def Kc(n0:0<n)(F:ae.Full n p c N)(hx:x<N)(hy:y<N)(h:(y:Int)∈kd c N x):kd c N y=kd c N x:=by obtain⟨q,a⟩:=ae.At.ex F (show(0:Int)<=(x:Int) by lk) (show(x:Int)<(N:Int) by lk);obtain⟨r,b⟩:=ae.At.ex F (show(0:Int)<=(y:Int) by lk) (show(y:Int)<(N:Int) by lk);have k:=(ae.xZ n0 F a b).mp (wy.mp h);have hs:=ae.XcM n0 F a b k;unfold kd;refine VN ((List.perm_ext_iff_of_nodup (ae.wJ _ _ _ _) (ae.wJ _ _ _ _)).mpr λz=>(hs z).symm)
def ML(n0:0<n)(F:ae.Full n p c N)(hx:x<N)(hk:k∈cB (kd c N) N):(x:Int)∈k↔k=kd c N x:=by obtain⟨i,hi,rfl⟩:=(sC _ _ _).mp hk;exact⟨λh=>(Kc n0 F hi hx h).symm,λh=>by rw[h];exact CI x⟩
def MN(n0:0<n)(F:ae.Full n p c N)(hx:x<N)(h:y∈kd c N x):0<=y/\y<(N:Int):=ae.sd (F.wX n0) (F.Ca n0) ⋯ ⋯ N y (wy.mp h)
def Kd(x:Nat):(kd c N x).Nodup:=(MK _).nodup_iff.mpr (ae.wJ _ _ _ _)
def kd_len(n0:0<n)(F:ae.Full n p c N)(hx:x<N):(kd c N x).length<=N:=by unfold kd;rw[(MK _).length_eq];exact ae.AW (F.wX n0) (F.Ca n0) ⋯ ⋯ N
end
structure Gs(B:Nat)(a h:Int):Prop where
 b:B<=1073741824
 a1:a.natAbs<=B
 h0:0<=h
 h1:h.natAbs<=B
 g:Int.gcd a h=1
 nn:¬(a=-1/\h=0)
def VU{n N:Nat}{p:ae.aP}{c:ae.CS}{u:List cg}(n0:0<n)(w0:ae.Wh n p)(F:ae.Full n p c N)(hu:∀s∈u,ae.bL s):∃r:Nat,ae.uM c 0 u=(r:Int)/\r<N/\ae.At c (r:Int) (ae.aR n (ae.dR p u)):=by have a:=F.xY n0 w0 hu;have:=a.1;have:=a.lt F;refine⟨(ae.uM c 0 u).toNat,by lk,by lk,?_⟩;rw[ZaG a.1];exact a
def Qd(n0:0<n)(w0:ae.Wh n p)(F:ae.Full n p c N)(hN:N<=60)(g1:Gs B a h):Wp (DY [fj c N,.tup [.int a,.int h]] st) λd st'=>∃r:Nat,d=.int (r:Int)/\r<N/\ae.At c (r:Int) (ae.aR n (ae.dR p (lJ a h)))/\(∀s∈lJ a h,ae.bL s)/\ae.Gd (ae.ai (lJ a h)) a h/\Ex [] st st':=by refine d6 ?_;intro qR;show Ws (JA [some (fj c N),some (.tup [.int a,.int h])] st) _ _ _ _;unfold JA;refine cK ?_;k_lt Z;refine aS (P8 g1.b g1.a1 g1.h0 g1.h1 g1.g g1.nn) ?_;rintro d s1 ⟨rfl,J0,gg,hle,k1⟩;refine aS (Vz (T:=ae.ai (lJ a h)) (M:=1073741825) (k:=31) ∅ ∅ (w6 hle (by have:=g1.b;lk)) (ae.wM J0)) ?_;rintro d s2 ⟨u,rfl,hu,hul,eu,k2⟩;have hu1:∀s∈u,ae.bL s:=λs hs=>(hu s hs).1;refine aS (ycu (w:=u) n0 F hN hu1 ⋯) ?_;rintro d s3 ⟨rfl,k3⟩;obtain⟨r,er,hr,ar⟩:=VU n0 w0 F hu1;rw[er];have e:ae.aR n (ae.dR p u)=ae.aR n (ae.dR p (lJ a h)):=ae.qf n0 (w0.ld n0).v (ae.Dk hu1 J0 eu w0.v);rw[e]at ar;exact Z _ _ ⟨r,rfl,hr,ar,J0,gg,(k1.trans k2).trans k3⟩
def xcR{st:Store}{Q:D->Store->Prop}{k j:Nat}{bs:List Bool}(hc:items st k=some (bs.map D.bl))(hl:bs.length<=1000)(hj:bs[j]?=some true)(hno:∀i,i<j->bs[i]?=some false):Wp (cY (.ref k) [.bl true] st) Q↔Q (.int (j:Int)) st:=by
 have h2:bB (fX st 19) (bs.map D.bl)=some (bs.map PyData.bool):=xI (f:=fX st 19) (g:=D.bl) (k:=PyData.bool) (λb=>rfl) bs;obtain⟨hjl,Pe⟩:=Zac.mp hj;have hf:(bs.map PyData.bool).findIdx? (λd=>PyData.eqv d (.bool true))=some j:=by
  refine Zbr.mpr ⟨by simpa using hjl,?_,λi hij=>?_⟩;rw[Zb3,Pe];rfl;have hil:i<bs.length:=by lk
  have:=hno i hij;rw[Zab hil]at this;rw[Zb3,Zar this];decide
 have l2:(bs.map PyData.bool).all PyData.canLay0=true:=by
  rw[ZbK];intro d hd;obtain⟨x,hx,rfl⟩:=Zau.mp hd;rfl
 have h1:fX st 20 (.bl true)=some (.bool true):=rfl;have l1:PyData.canLay0 (.bool true)=true:=rfl;have l3:PyData.depth (.bool true)<=15:=by decide
 have e:cY (.ref k) [.bl true] st=some (.int (j:Int),st):=by
  unfold cY;simp only[h1,hc,Za7,h2,hf,l1,l2,Bool.true_and,Zaa,decide_eq_true_eq,ZaB];rw[if_pos ⟨by lk,hl⟩]
 rw[e,bh]
def VW(k:List Int):(k.map D.int).map inD=k:=O2 k
def Qe(n0:0<n)(w0:ae.Wh n p)(F:ae.Full n p c N)(hN:N<=60)(g1:Gs B a h):Wp (zA [fj c N,.tup [.int a,.int h]] st) λd st'=>∃r:Nat,d=.int ((cB (kd c N) N).idxOf (kd c N r):Int)/\r<N/\ae.At c (r:Int) (ae.aR n (ae.dR p (lJ a h)))/\(∀s∈lJ a h,ae.bL s)/\ae.Gd (ae.ai (lJ a h)) a h/\Ex [] st st':=by
 refine d6 ?_;intro qR;show Ws (JC [some (fj c N),some (.tup [.int a,.int h]),none] st) _ _ _ _;unfold JC;refine aT (bC ?_);k_lt Z;refine aS (Qd n0 w0 F hN g1) ?_;rintro d s1 ⟨r,rfl,hr,ar,hu,gu,k1⟩;refine Z _ _ (cK ?_);clear Z;obtain⟨S,s2,eS,hS,k2⟩:Wp (cQ (aM Cm (af (ag 0) ah)) [some (fj c N),some (.tup [.int a,.int h]),some (.int (r:Int))] s1) λS s2=>pY S ((cB (kd c N) N).map tI) s2/\Ex [] s1 s2:=by
  k_lt hP;refine aS (VS n0 F hN) ?_;rintro d t1 ⟨rfl,k2⟩;exact⟨_,rfl,hP _ _ ⟨sX _ _,k2⟩⟩
 have VX:=D8 (kd c N) N;k_lt Z;refine vX ((cB (kd c N) N).map tI) (λd=>match d with|.tup ds=>.bl (decide ((r:Int)∈ds.map inD))|_=>.non) ⟨S,s2,eS,hS,k2⟩ (by rw[Zaa];lk) ?_ ?_;intro d hd s3 k3;obtain⟨k,hk,rfl⟩:=Zau.mp hd;k_lt hP;refine⟨_,rfl,?_⟩;rw[zp (c:=tI k) (ns:=k) zo];refine hP _ _ ⟨?_,Ex.refl⟩;show D.bl (k.contains (r:Int))=D.bl (decide ((r:Int)∈(k.map D.int).map inD));rw[VW]
 congr 1
 rw[ZbL];simp;intro s3 k3;have e:((cB (kd c N) N).map tI).map (λd=>match d with|.tup ds=>D.bl (decide ((r:Int)∈ds.map inD))|_=>.non)=((cB (kd c N) N).map λk=>decide ((r:Int)∈k)).map D.bl:=by
  rw[ZaJ,ZaJ];refine ZaU λk _=>?_;show D.bl (decide ((r:Int)∈(k.map D.int).map inD))=D.bl (decide ((r:Int)∈k));rw[VW]
 rw[e];have hm:kd c N r∈cB (kd c N) N:=(sC _ _ _).mpr ⟨r,hr,rfl⟩;have hil:=Zbe hm;refine⟨qh (by rw[rm];rfl),?_⟩;rw[xcR (j:=(cB (kd c N) N).idxOf (kd c N r)) rm (by rw[Zaa];lk) ?_ ?_];exact Z _ _ ⟨r,rfl,hr,ar,hu,gu,(k1.trans k3).trans (Ex.cZ _)⟩;rw[Zad,Zab hil,Zbs];show some (decide ((r:Int)∈kd c N r))=some true;rw[decide_eq_true (CI r)];intro i hi;have hl:i<(cB (kd c N) N).length:=by lk
 rw[Zad,Zab hl];show some (decide ((r:Int)∈(cB (kd c N) N)[i]))=some false;rw[decide_eq_false λz=>?_];have e2:=(ML n0 F hr (Zch hl)).mp z;exact ZaM.mp (D9 (kd c N) N) i _ hl hil hi (by rw[e2,Zbs])
def Yb4(n0:0<n)(F:ae.Full n p c N)(hN:N<=60)(hx:x<N)(hy:y<N)(a:ae.At c (x:Int) q)(b:ae.At c (y:Int) r):Wp (Ml [fj c N,.int (x:Int),.int (y:Int)] st) λd st'=>(if kd c N x=kd c N y then∃(k:Nat) (e:Bool),k<60/\d=wD (ae.nZ (k:Int) ++ (if e then[(false,2)]else[]))/\r=ae.aR n (ae.dR q (ae.nZ (k:Int) ++ (if e then[(false,2)]else[])))else d=.non)/\Ex [] st st':=by
 have ts:=F.wX n0;have ty:=F.Ca n0;have wq:=(a.own F).1;refine d6 ?_;intro qR;show Ws (JK [some (fj c N),some (.int (x:Int)),some (.int (y:Int)),none,none,none] st) _ _ _ _;unfold JK;refine aT (bC ?_);k_lt Z;refine aS (VR n0 F hN) ?_;rintro d s1 ⟨rfl,k1⟩;refine Z _ _ (aT (bC ?_));k_lt2 Z;have hsame:ae.KF n q r->kd c N x=kd c N y:=λk=>(Kc n0 F hx hy (wy.mpr ((ae.xZ n0 F a b).mpr k))).symm;have hkf:kd c N x=kd c N y->ae.KF n q r:=λe=>(ae.xZ n0 F a b).mp (wy.mp (by rw[e];exact CI y));have VY:∀k:Nat,ae.dR q (ae.nZ (k:Int))=ae.Sh (k:Int) q:=λk=>by
  unfold ae.nZ;split
  ·next z=>rw[z,ae.oJ wq.v];rfl
  ·rfl
 let iR:IV:=λi δ s=>∃v5:Option D,δ=[some (fj c N),some (.int (x:Int)),some (.int (y:Int)),some (b5 (ae.sT c) (ae.yT c)),some (.int (ae.a7 (ae.sT c) (x:Int) i)),v5]/\(∀j,j<i->ae.a7 (ae.sT c) (x:Int) j≠(y:Int)/\ae.app (ae.yT c) (ae.a7 (ae.sT c) (x:Int) j)≠(y:Int))/\Ex [] st s
 refine Z _ _ (aT (nE (aL 0 N) iR ?_ (by rw[gO];lk) ?_ ?_))
 ·clear Z
  exists _,Z,Ka;exact⟨by rw[Zaa,ZbA];lk,Z _ _ ⟨by rw[Zaa,ZbA,Zan],_,rfl,λj hj=>absurd hj (Za0 _),k1⟩⟩
 ·clear Z
  rintro k d δ s hd ⟨v5,rfl,hno,kk⟩;have hk:=ff hd;rw[gO]at hk;rw[xN hk,Zbq]at hd;cases hd;have hb:=ts.a7 (show(0:Int)<=(x:Int) by lk) (show(x:Int)<(N:Int) by lk) k;have hb2:=ty.app hb.1 hb.2;have au:=a.up n0 F k;k_lt Z;refine Z _ _ (aT (gP ?_));k_lt2 Z;refine Z _ _ ⟨λz=>cK ?_,λz=>ja (aT (gP ?_))⟩
  ·have z:ae.a7 (ae.sT c) (x:Int) k=(y:Int):=of_decide_eq_true z
   k_lt2 Z;refine aS (JY) ?_;rintro d s2 ⟨rfl,k2⟩;rw[z]at au;have er:=au.fn b;refine Z _ _ ⟨?_,kk.trans k2⟩;rw[if_pos (hsame ⟨k,false,er.symm⟩)];exact⟨k,false,by lk,by rw[if_neg ∅,ZaZ];rfl,by rw[if_neg ∅,ZaZ,VY];exact er.symm⟩
  ·have z:ae.a7 (ae.sT c) (x:Int) k≠(y:Int):=of_decide_eq_false z
   clear Z;exists _,Z,Qa;refine⟨_,sv hb.1 (by rw[ty.length];exact hb.2),?_⟩;w_how;have ay:=au.y n0 F;have wk:=wq.sh n0 (k:Int);have e1:ae.aR n (ae.Q2 (ae.aR n (ae.Sh (k:Int) q)))=ae.aR n (ae.Q2 (ae.Sh (k:Int) q)):=(ae.qf n0 (wk.q2 n0).v (ae.bA.q2 wk.v (ae.rn wk n0).2.2)).symm;rw[e1]at ay;refine Z _ _ ⟨λz2=>cK ?_,λz2=>ja (bC ?_)⟩
   ·have z2:ae.app (ae.yT c) (ae.a7 (ae.sT c) (x:Int) k)=(y:Int):=of_decide_eq_true z2
    k_lt2 Z;refine aS (JY) ?_;rintro d s2 ⟨rfl,k2⟩;have e2:((ae.nZ (k:Int)).map bw ++ [D.tup [D.str "t",D.int 2]])=(ae.nZ (k:Int) ++ [((false,2):cg)]).map bw:=by rw[Zav];rfl
    w_how;rw[e2];have hsl:=ae.A7 (k:Int);refine⟨rfl,rfl,nh (by rw[Zaa];show _+1<=_;lk),Z _ _ ⟨?_,kk.trans k2⟩⟩;rw[z2]at ay;have er:=ay.fn b;rw[if_pos (hsame ⟨k,true,by rw[<- er];exact ae.qf n0 (wk.q2 n0).v (ae.FO wq.v k)⟩)];refine⟨k,true,by lk,rfl,?_⟩;rw[if_pos rfl,ae.wL,VY,<- er];rfl
   ·have z2:ae.app (ae.yT c) (ae.a7 (ae.sT c) (x:Int) k)≠(y:Int):=of_decide_eq_false z2
    clear Z;exists _,Z,P9;refine⟨_,sv hb.1 (by rw[ts.length];exact hb.2),Z _ _ ⟨_,rfl,λj hj=>?_,kk⟩⟩;by_cases hjk:j=k
    ·subst hjk;exact⟨z,z2⟩
    ·exact hno j ⋯
 ·clear Z
  rintro δ s ⟨v5,rfl,hno,kk⟩;rw[gO]at hno;refine cK ?_;k_lt Z;refine Z _ _ ⟨?_,kk⟩;rw[if_neg λe=>?_];obtain⟨m,hm,h1|h1⟩:=ae.Yc2 n0 F a b (hkf e)
  ·exact(hno m hm).1 h1
  ·exact(hno m hm).2 h1
def ZbT{st:Store}{w:List cg}(hw:∀s∈w,ae.bL s):Wp (Mm [fz (ae.ai w)] st) λd st'=>d=fz (ae.ai (ae.iy w))/\Ex [] st st':=by refine d6 ?_;intro qR;show Ws (JN [some (fz (ae.ai w))] st) _ _ _ _;unfold JN;refine cK ?_;exists _,Z,MD,ME,PU,Vy;refine⟨rfl,Z _ _ ⟨?_,Ex.refl⟩⟩;rw[ae.xC hw];rfl
def VZ{A B:ae.T4}{M N:Nat}(ha:A.le M)(hb:B.le N):(A.mul B).le (2*(M*N)):=by
 have key:∀{a b c d:Int},a.natAbs<=M->b.natAbs<=N->c.natAbs<=M->d.natAbs<=N->(a*b+c*d).natAbs<=2*(M*N):=λ{a b c d} h1 h2 h3 h4=>by
  have e1:(a*b).natAbs<=M*N:=by rw[Za5];exact ZbW h1 h2
  have e2:(c*d).natAbs<=M*N:=by rw[Za5];exact ZbW h3 h4
  have:=Int.natAbs_add_le (a*b) (c*d);lk
 obtain⟨a1,a2,a3,a4⟩:=ha;obtain⟨b1,b2,b3,b4⟩:=hb;exact⟨key a1 b1 a2 b3,key a1 b2 a2 b4,key a3 b1 a4 b3,key a3 b2 a4 b4⟩
def V0{n N:Nat}{p:ae.aP}{c:ae.CS}{x y:Nat}{a h:Int}{u v:List cg}(n0:0<n)(w0:ae.Wh n p)(F:ae.Full n p c N)(hx:x<N)(hy:y<N)(ax:ae.At c (x:Int) (ae.aR n (ae.dR p u)))(ay:ae.At c (y:Int) (ae.aR n (ae.dR p v)))(hu:∀s∈u,ae.bL s)(hv:∀s∈v,ae.bL s)(gu:ae.Gd (ae.ai u) a h)(gv:ae.Gd (ae.ai v) a h):kd c N x=kd c N y:=by
 have e:=ae.A9 (ae.wM hu) (ae.wM hv) gu gv;generalize (ae.ai u).a*(ae.ai v).b-(ae.ai v).a*(ae.ai u).b=k at e;have wu:=w0.ld n0 (w:=u);have hk:∀s∈u ++ ae.nZ k,ae.bL s:=λs hs=>by
  rcases ZaA.mp hs with hs|hs
  ·exact hu s hs
  ·exact(ae.yU s hs).1
 have e2:ae.ai v=ae.ai (u ++ ae.nZ k):=by rw[ae.qw,ae.A6];exact e
 have e3:ae.aR n (ae.dR p v)=ae.aR n (ae.dR p (u ++ ae.nZ k)):=ae.qf n0 (w0.ld n0).v (ae.Dk hv hk e2 w0.v);have e4:ae.aR n (ae.dR p (u ++ ae.nZ k))=ae.aR n (ae.Sh k (ae.aR n (ae.dR p u))):=by
  rw[ae.wL,ae.Cb n0 wu];unfold ae.nZ;split
  ·next z=>rw[z,ae.oJ wu.v];rfl
  ·rfl
 exact(Kc n0 F hx hy (wy.mpr ((ae.xZ n0 F ax ay).mpr ⟨k,false,by rw[e3,e4];rfl⟩))).symm
def CJ(k:Nat)(e:Bool)(hk:k<60):(ae.ai (ae.nZ (k:Int) ++ (if e then[((false,2):cg)]else[]))).le 60:=by have h0:ae.ai (ae.nZ (k:Int))=⟨1,k,0,1⟩:=ae.A6 _;cases e;rw[if_neg ∅,ZaZ,h0];exact⟨by show(1:Int).natAbs<=60;decide,by show((k:Int)).natAbs<=60;lk,by show(0:Int).natAbs<=60;decide,by show(1:Int).natAbs<=60;decide⟩;rw[if_pos rfl,J9,h0];exact⟨by show(-1:Int).natAbs<=60;decide,by show(-(k:Int)).natAbs<=60;lk,by show(-0:Int).natAbs<=60;decide,by show(-1:Int).natAbs<=60;decide⟩
def CK(k:Nat)(e:Bool):∀s∈ae.nZ (k:Int) ++ (if e then[((false,2):cg)]else[]),ae.bL s:=by have h0:∀s∈ae.nZ (k:Int),ae.bL s:=λs hs=>(ae.yU s hs).1;cases e;rw[if_neg ∅,ZaZ];exact h0;rw[if_pos rfl];exact MI h0
def Xdv{A B C:ae.T4}{a h a' h':Int}{k:Int}{e:Bool}(gA:ae.Gd A a h)(gC:ae.Gd C a' h')(dC:C.a*C.d-C.b*C.c=1)(hB:B=if e then⟨-1,-k,0,-1⟩else⟨1,k,0,1⟩):
  let T:=(ae.T4.mul ⟨C.d,-C.b,-C.c,C.a⟩ (ae.T4.mul B A))
  (T.a*a+T.b*h=a'/\T.c*a+T.d*h=h')\/(T.a*a+T.b*h=-a'/\T.c*a+T.d*h=-h'):=by
 obtain⟨c1,c2⟩:=ae.FY dC gC.2;rw[gC.1,ZcX]at c1 c2;have Ke:∀(X Y:ae.T4) (u v:Int),(X.mul Y).a*u+(X.mul Y).b*v=X.a*(Y.a*u+Y.b*v)+X.b*(Y.c*u+Y.d*v)/\(X.mul Y).c*u+(X.mul Y).d*v=X.c*(Y.a*u+Y.b*v)+X.d*(Y.c*u+Y.d*v):=λX Y u v=>by
  simp only[ae.T4.mul,Int.add_mul,ZbV,ZaH];lk
 intro T;have e1:=Ke ⟨C.d,-C.b,-C.c,C.a⟩ (ae.T4.mul B A) a h;have e2:=Ke B A a h;rw[gA.1,gA.2]at e2;rw[e2.1,e2.2]at e1;show((ae.T4.mul ⟨C.d,-C.b,-C.c,C.a⟩ (ae.T4.mul B A)).a*a+(ae.T4.mul ⟨C.d,-C.b,-C.c,C.a⟩ (ae.T4.mul B A)).b*h=a'/\(ae.T4.mul ⟨C.d,-C.b,-C.c,C.a⟩ (ae.T4.mul B A)).c*a+(ae.T4.mul ⟨C.d,-C.b,-C.c,C.a⟩ (ae.T4.mul B A)).d*h=h')\/_;rw[e1.1,e1.2];cases e;have hB:B=⟨1,k,0,1⟩:=hB;subst hB;refine .inl ⟨?_,?_⟩;show C.d*(1*1+k*0) + -C.b*(0*1+1*0)=a';simp;lk;show -C.c*(1*1+k*0)+C.a*(0*1+1*0)=h';simp;lk;have hB:B=⟨-1,-k,0,-1⟩:=hB;subst hB;refine .inr ⟨?_,?_⟩;show C.d*(-1*1 + -k*0) + -C.b*(0*1 + -1*0)=-a';simp;lk;show -C.c*(-1*1 + -k*0)+C.a*(0*1 + -1*0)=-h';simp;lk
def XbD(n0:0<n)(w0:ae.Wh n p)(F:ae.Full n p c N)(hN:N<=60)(g1:Gs B a h)(g2:Gs B' a' h'):Wp (D1 [fj c N,.tup [.int a,.int h],.tup [.int a',.int h']] st) λd st'=>∃x y:Nat,x<N/\y<N/\ae.At c (x:Int) (ae.aR n (ae.dR p (lJ a h)))/\ae.At c (y:Int) (ae.aR n (ae.dR p (lJ a' h')))/\(if kd c N x=kd c N y then∃W:List cg,d=fz (ae.ai W)/\(∀s∈W,ae.bL s)/\(ae.ai W).le (240*((B+1)*(B' + 1)))/\ae.aR n (ae.dR p W)=ae.aR n p/\(((ae.ai W).a*a+(ae.ai W).b*h=a'/\(ae.ai W).c*a+(ae.ai W).d*h=h')\/((ae.ai W).a*a+(ae.ai W).b*h=-a'/\(ae.ai W).c*a+(ae.ai W).d*h=-h'))else d=.non)/\Ex [] st st':=by
 refine d6 ?_;intro qR;show Ws (JP [some (fj c N),some (.tup [.int a,.int h]),some (.tup [.int a',.int h']),none] st) _ _ _ _;unfold JP;refine aT (bC ?_);k_lt Z;refine aS (Qd n0 w0 F hN g1) ?_;rintro d s1 ⟨x,rfl,hx,ax,hux,gux,k1⟩;refine aS (Qd n0 w0 F hN g2) ?_;rintro d s2 ⟨y,rfl,hy,ay,huy,guy,k2⟩;refine aS (Yb4 n0 F hN hx hy ax ay) ?_;rintro d s3 ⟨hd,k3⟩;have kk:Ex [] st s3:=(k1.trans k2).trans k3;refine Z _ _ (aT (gP ?_));clear Z;by_cases hs:kd c N x=kd c N y;rw[if_pos hs]at hd;obtain⟨k,e,hk,rfl,er⟩:=hd;obtain⟨b,hb⟩:∃b:List cg,ae.nZ (k:Int) ++ (if e=true then[((false,2):cg)]else[])=b:=⟨_,rfl⟩;have V1:∀s∈b,ae.bL s:=by rw[<- hb];exact CK k e
 have rK:(ae.ai b).le 60:=by rw[<- hb];exact CJ k e hk
 have hbn:b.length<=2/\∀s∈b,s.2.natAbs<=60:=by
  rw[<- hb];have hsl:=ae.A7 (k:Int);refine⟨?_,λs hs=>?_⟩;rw[Zae];cases e<;>simp<;>lk;rcases ZaA.mp hs with hs|hs
  rw[(ae.yU s hs).2];lk;cases e;cases hs;rw[Zaq.mp hs];decide
 have hbT:ae.ai b=if e then⟨-1,-(k:Int),0,-1⟩else⟨1,(k:Int),0,1⟩:=by
  rw[<- hb];cases e;rw[if_neg ∅,ZaZ,ae.A6];rfl;rw[if_pos rfl,J9,ae.A6];rfl
 rw[hb]at er ⊢;k_lt Z;refine Ua.mpr ⟨_,rfl,Z _ _ ⟨λz=>(nomatch z),λ_=>ja (cK ?_)⟩⟩;k_lt2 Z;refine aS (P8 g2.b g2.a1 g2.h0 g2.h1 g2.g g2.nn) ?_;rintro d s4 ⟨rfl,hp2,gg2,Qf,k4⟩;refine aS (ZbT hp2) ?_;rintro d s5 ⟨rfl,k5⟩;refine aS (MB (w:=b) (λs hs=>⟨V1 s hs,by have:=hbn.2 s hs;lk⟩) (by have:=hbn.1;lk)) ?_;rintro d s6 ⟨rfl,k6⟩;refine aS (P8 g1.b g1.a1 g1.h0 g1.h1 g1.g g1.nn) ?_;rintro d s7 ⟨rfl,hp1,gg1,Qg,k7⟩;refine aS (D7 (A:=ae.ai b) (B:=ae.ai (lJ a h)) (D6 (w6 rK ∅))) ?_;rintro d s8 ⟨rfl,k8⟩;have V2:(ae.ai (ae.iy (lJ a' h'))).le (B' + 1):=by
  rw[ae.xC hp2];obtain⟨l1,l2,l3,l4⟩:=Qf;exact⟨l4,by show(-(ae.ai (lJ a' h')).b).natAbs<=B' + 1;lk,by show(-(ae.ai (lJ a' h')).c).natAbs<=B' + 1;lk,l1⟩
 refine aS (D7 (A:=ae.ai (ae.iy (lJ a' h'))) (B:=(ae.ai b).mul (ae.ai (lJ a h))) (D6 (w6 V2 (by have:=g2.b;lk)))) ?_;rintro d s9 ⟨rfl,k9⟩;refine Z _ _ ⟨x,y,hx,hy,ax,ay,?_,(((((kk.trans k4).trans k5).trans k6).trans k7).trans k8).trans k9⟩;rw[if_pos hs];have V3:∀s∈lJ a h ++ b,ae.bL s:=λs hs=>by
  rcases ZaA.mp hs with hs|hs
  exact hp1 s hs;exact V1 s hs
 refine⟨(lJ a h ++ b) ++ ae.iy (lJ a' h'),?_,?_,?_,?_,?_⟩;rw[ae.qw (lJ a h ++ b),ae.qw];intro s hs;rcases ZaA.mp hs with hs|hs
 exact V3 s hs;exact ae.A5 hp2 s hs;rw[ae.qw (lJ a h ++ b),ae.qw];refine w6 (VZ V2 (VZ rK Qg)) (Nat.le_of_eq ?_);have e1:(B' + 1)*(2*(60*(B+1)))=120*((B+1)*(B' + 1)):=by rw[show 2*(60*(B+1))=(B+1)*120 by lk,<- ZcE,ZbY,ZbY (B' + 1)]
 rw[e1];generalize (B+1)*(B' + 1)=z;lk;refine(ae.Zc2 n0 w0 V3 hp2).mpr ?_;rw[ae.wL,<- ae.Ph n0 (w0.ld n0)];exact er.symm
 have:=Xdv (A:=ae.ai (lJ a h)) (B:=ae.ai b) (C:=ae.ai (lJ a' h')) (k:=(k:Int)) (e:=e) gg1 gg2 (ae.wM hp2) hbT
 rw[ae.qw (lJ a h ++ b),ae.qw,ae.xC hp2];exact this;rw[if_neg hs]at hd;subst hd;k_lt Z;refine O4.mpr ⟨_,rfl,Z _ _ ⟨λ_=>cK ?_,λz=>(nomatch z)⟩⟩;k_lt2 Z;exact Z _ _ ⟨x,y,hx,hy,ax,ay,by rw[if_neg hs],kk⟩
abbrev uO(a c:Int):Int×Int:=if c<0\/(c=0/\a<0)then(-a,-c)else(a,c)
abbrev rq(a c:Int):Int×Int:=if(uO a c).2=0 then(1,0)else uO a c
abbrev nK(x:Int×Int):D:=.tup [.int x.1,.int x.2]
def V4{P Q:Prop}(h1:b=true->P)(h2:b=false->Q):if b=true then P else Q:=by cases b;exact h2 rfl;exact h1 rfl
def V5:Wp (DS [.tup [.int a,.int c]] st) λd st'=>d=nK (rq a c)/\Ex [] st st':=by
 refine Gj ?_;show Ws (IG [some (.tup [.int a,.int c]),none,none] st) _ _ _ _;unfold IG;refine aT (uk ?_);refine bG ?_;intro cD Z;w_how;refine Z _ _ ?_;k_lt cL;refine⟨rfl,cL _ _ ?_⟩;clear Z cL
 let iR:IN:=λδ s=>δ=[some (.tup [.int a,.int c]),some (.int (uO a c).1),some (.int (uO a c).2)]/\s=st
 refine aT (zj (N:=iR) (gP ?_) ?_);refine bG ?_;intro cD Z;w_how;have go:cD (decide (c<0\/(c=0/\a<0))) st:=by
  refine Z _ _ ⟨λz=>Dz ?_,λz=>ja ⟨by unfold uO;rw[if_neg (of_decide_eq_false z)],rfl⟩⟩;clear Z;refine bG ?_;intro cD Z;w_how;exact Z _ _ ⟨_,_,rfl,by unfold uO;rw[if_pos (of_decide_eq_true z)];show _=[_,some (D.int (-a)),some (D.int (-c))];rw[ZcT,ZcT];rfl,rfl⟩
 clear Z;by_cases c1:c<0;simpa[c1]using go;by_cases c2:c=0;simpa[c1,c2]using go;simpa[c1,c2]using go;rintro δ s ⟨rfl,rfl⟩;refine cK ?_;generalize hA:uO a c=A;obtain⟨x,y⟩:=A;have eu:rq a c=if y=0 then(1,0)else(x,y):=by unfold rq;rw[hA]
 rw[eu];refine bG ?_;intro cD Z;w_how;refine⟨rfl,rfl,rfl,rfl,rfl,?_⟩;refine(Uo (n:=1) (a:=.tup [.int x,.int y]) (b:=.tup [.int 0,.int 0]) (zt 0 [x,y]) (zt 0 [0,0]) ∅).mpr ⟨_,rfl,?_⟩;have k1:Ex [] s (s ++ [O.lst [D.tup [D.int x,D.int y],D.tup [D.int 1,D.int 0]]]):=Ex.cZ _;have Kf:eZ [D.tup [D.int x,D.int y],D.tup [D.int 1,D.int 0]] 1=some (nK (1,0)):=DB _ _ _;by_cases hy:y=0;rw[if_pos hy]at Z;have go:=Z _ _ ⟨rfl,k1⟩;refine V4 (λz=>⟨_,rm,_,Kf,go⟩) λz=>?_;rw[if_pos (decide_eq_true hy)];exact⟨_,rm,_,Kf,go⟩;rw[if_neg hy]at Z;refine V4 (λz=>?_) λz=>?_;exact absurd (by simpa using z:x=0/\y=0).2 hy;rw[if_neg (by simpa using hy)];exact⟨_,rm,_,xQ _ _,Z _ _ ⟨rfl,k1⟩⟩
def Xcd(ha:a.natAbs<=10000)(hcb:c.natAbs<=10000):Wp (L6 [.int a,.int c] st) λd st'=>d=.int (Int.gcd a c:Nat)/\Ex [] st st':=by
 refine d6 ?_;intro qR;show Ws (II [some (.int a),some (.int c)] st) _ _ _ _;unfold II;refine aT (Dz ?_);have e1:(if a<0 then -a else a)=(a.natAbs:Int):=by split<;>lk
 have e2:(if c<0 then -c else c)=(c.natAbs:Int):=by split<;>lk
 exists _,Z,Ub,e1,e2;refine Z _ _ ⟨_,_,rfl,?_⟩;clear Z
 let iR:IV:=λm δ s=>∃x y:Nat,y=m/\δ=[some (.int (x:Int)),some (.int (y:Int))]/\Nat.gcd x y=Int.gcd a c/\x<=10000/\y<=10000/\s=st
 refine aT (xO iR c.natAbs (ZaS hcb ∅) ⟨a.natAbs,c.natAbs,rfl,rfl,rfl,ha,hcb,rfl⟩ ?_);rintro _ δ s ⟨x,y,rfl,rfl,hp,hx,hy,rfl⟩;k_lt Z;refine Z _ _ ⟨λhb=>Dz ?_,λhb=>cK ?_⟩;have hb:y≠0:=by have:=of_decide_eq_true hb;lk
 k_lt2 Z;have hlt:=Nat.mod_lt x (show y > 0 by lk);refine⟨by lk,Z _ _ ⟨_,_,rfl,x % y,hlt,y,x % y,rfl,rfl,?_,by lk,by lk,rfl⟩⟩;rw[Nat.gcd_comm,<- Nat.gcd_rec,Nat.gcd_comm];exact hp;have hb:y=0:=by have:=of_decide_eq_false hb;lk
 k_lt2 Z;rw[hb,Nat.gcd_zero_right]at hp;exact Z _ _ ⟨by rw[<- hp],Ex.refl⟩
def CL(ha:a.natAbs<=1000)(c0:0<=c)(c1:c<=1000)(hm:(if((Int.gcd a c:Nat):Int) > 1 then((Int.gcd a c:Nat):Int)else 1)=m):Gs 1000 (rq (a / m) (c / m)).1 (rq (a / m) (c / m)).2:=by
 by_cases hc:c=0;subst hc;have e:rq (a / m) (0 / m)=(1,0):=by
  rw[Int.zero_ediv];unfold rq;rw[if_pos];unfold uO;split<;>rfl
 rw[e];exact⟨by decide,by decide,by decide,by decide,rfl,by decide⟩;have g0:0<Int.gcd a c:=Int.gcd_pos_of_ne_zero_right a hc;have hmg:m=((Int.gcd a c:Nat):Int):=by
  rw[<- hm];split<;>lk
 have h1:Int.gcd (a / m) (c / m)=1:=by rw[hmg];exact Int.gcd_ediv_gcd_ediv_gcd g0
 have hle:=Int.le_of_dvd (show(0:Int)<c by lk) (Zcy a c);have h2:1<=c / m:=(Int.le_ediv_iff_mul_le ⋯).mpr ⋯;have h3:c / m<=c:=Int.ediv_le_self _ ⋯;have h4:(a / m).natAbs<=a.natAbs:=by
  have e:=Int.mul_ediv_cancel' (show m ∣ a by rw[hmg];exact Int.gcd_dvd_left a c);have e2:=congrArg Int.natAbs e;rw[Za5]at e2;have h5:1*(a / m).natAbs<=m.natAbs*(a / m).natAbs:=ZbU _ ⋯;lk
 have e:rq (a / m) (c / m)=(a / m,c / m):=by
  have e1:uO (a / m) (c / m)=(a / m,c / m):=by unfold uO;rw[if_neg ⋯]
  unfold rq;rw[e1,if_neg (by show ¬c / m=0;lk)]
 rw[e];exact⟨by decide,by show(a / m).natAbs<=1000;lk,by show 0<=c / m;lk,by show(c / m).natAbs<=1000;lk,h1,by show ¬(a / m=-1/\c / m=0);lk⟩
def uv(hf:bP st f):Wp (Cn [.ref f] st) λd st'=>∃a h:Int,d=.tup [.int a,.int h]/\Gs 1000 a h/\bP st' f/\Ex [f] st st':=by
 refine d6 ?_;intro qR;show Ws (IK [some (.ref f),none,none,none,none] st) _ _ _ _;unfold IK;refine aT (bC ?_);k_lt Z;refine⟨rfl,?_⟩;refine aS (wg (n:=8) (hf.keep (Ex.cZ [O.lst [D.int 12,D.int 1000]])) ∅ ∅) ?_;rintro d s1 ⟨b,rfl,b0,b8,f1,k1⟩;have hi1:s1[st.length]?=some (.lst [.int 12,.int 1000]):=k1.keep _ _ i7 (by have:=hf.lt;simp;lk);obtain⟨fa,hfa,fa1,fa2⟩:∃fa:Int,eZ [D.int 12,D.int 1000] (b / 7)=some (.int fa)/\1<=fa/\fa<=1000:=by
  rcases(show b / 7=0\/b / 7=1 by lk)with e|e
  rw[e];exact⟨12,xQ _ _,by decide,by decide⟩;rw[e];exact⟨1000,DB _ _ _,by decide,by decide⟩
 exists bO hi1,hfa;refine⟨⟨by decide,by decide⟩,Z _ _ (aT (Dz ?_))⟩;k_lt2 Z;refine⟨.inl ⟨by decide,by decide⟩,?_⟩;refine aS (wg (n:=2*fa+1) f1 ⋯ ⋯) ?_;rintro d s2 ⟨x,rfl,x0,x1,f2,k2⟩;w_how;refine aS (wg (n:=fa+1) f2 ⋯ ⋯) ?_;rintro d s3 ⟨c,rfl,c0,c1,f3,k3⟩;refine Z _ _ ⟨_,_,rfl,?_⟩;clear Z;generalize hA:x-fa=a;refine aT (bC ?_);k_lt Z;refine aS (Xcd (a:=a) (c:=c) ⋯ ⋯) ?_;rintro d s4 ⟨rfl,k4⟩;w_how;obtain⟨m,hm⟩:∃m:Int,(if((Int.gcd a c:Nat):Int) > 1 then((Int.gcd a c:Nat):Int)else 1)=m:=⟨_,rfl⟩;have f4:=f3.keep k4;have kk:Ex [f] st s4:=(((Ex.cZ _).any.trans k1).trans (k2.trans k3)).trans k4.any;have Cy:Int.gcd a c<=1000000:=by
  by_cases hc:c=0;rw[hc,Int.gcd_zero_right];lk
  have:=Int.le_of_dvd (show(0:Int)<c by lk) (Zcy a c);lk
 have hm1:1<=m/\m<=1000000:=by rw[<- hm];split<;>lk
 rw[hm];refine Z _ _ (cK ?_);k_lt2 Z;refine⟨⟨by lk,by lk⟩,⟨by lk,by lk⟩,rfl,?_⟩;refine aS (V5 (a:=a / m) (c:=c / m)) ?_;rintro d s5 ⟨rfl,k5⟩;exact Z _ _ ⟨_,_,rfl,CL ⋯ c0 ⋯ hm,f4.keep k5,kk.trans k5.any⟩
def zdw(n0:0<n)(F:ae.Full n p c N):((cB (kd c N) N).flatten).Perm (ae.upto N):=by refine(List.perm_ext_iff_of_nodup ?_ (ae.xD N |>.nodup)).mpr λz=>?_;refine List.pairwise_flatten.mpr ⟨λk hk=>?_,(D9 (kd c N) N).imp_of_mem λ{k l} hk hl qc z hz z' hz' ez=>?_⟩;obtain⟨i,_,rfl⟩:=(sC _ _ _).mp hk;exact Kd i;subst ez;obtain⟨i,hi,rfl⟩:=(sC _ _ _).mp hk;obtain⟨z0,z1⟩:=MN n0 F hi hz;obtain⟨x,rfl⟩:∃x:Nat,z=(x:Int):=⟨z.toNat,by lk⟩;exact qc (((ML n0 F ⋯ hk).mp hz).trans ((ML n0 F ⋯ hl).mp hz').symm);rw[List.mem_flatten,ae.o5];constructor;rintro⟨k,hk,hz⟩;obtain⟨i,hi,rfl⟩:=(sC _ _ _).mp hk;exact MN n0 F hi hz;rintro⟨z0,z1⟩;obtain⟨x,rfl⟩:∃x:Nat,z=(x:Int):=⟨z.toNat,by lk⟩;exact⟨_,(sC _ _ _).mpr ⟨x,by lk,rfl⟩,CI x⟩
def xdg(L:List Int):∀d∈L.map D.int,pU 0 d:=λd hd=>by
 obtain⟨x,_,rfl⟩:=Zau.mp hd;exact trivial
def Qh{α β:Type}{f:α->Option β}:∀{is:List α} {xss:List β},is.length=xss.length->(∀(i:Nat) (a:α) (x:β),is[i]?=some a->xss[i]?=some x->f a=some x)->bB f is=some xss
 |[],[],_,_=>rfl
 |[],_ :: _,h,_=>by cases h
 |_ :: _,[],h,_=>by cases h
 |a :: is,x :: xss,h,hf=>by
  have h1:=hf 0 a x rfl rfl;have h2:=Qh (is:=is) (xss:=xss) (Nat.succ.inj h) λi b y e1 e2=>hf (i+1) b y e1 e2;simp only[bB,h1,h2]
abbrev rfD:D->Nat
 |.ref i=>i
 |_=>0
def Zcu{δ:ao}{st:Store}{fi:ao->Dm Src}{Q:D->Store->Prop}{ks:List (List Int)}(hi:Wp (fi δ st) λS st1=>pY S (ks.map tI) st1/\Ex [] st st1)(hl:ks.length<=60)(Z:∀(is:List Nat) (s:Store),Ex [] st s->is.length=ks.length->(∀(i r:Nat) (k:List Int),is[i]?=some r->ks[i]?=some k->s[r]?=some (.lst (k.map D.int)))->Q (.ref s.length) (s ++ [.lst (is.map D.ref)])):Wp (cu fi 1 [] (hName 0) cR (aM n8 (af (ag 0) ah)) δ st) Q:=by
 refine Uc (ks.map tI) (λi y s=>∃(r:Nat) (k:List Int),y=.ref r/\ks[i]?=some k/\s[r]?=some (.lst (k.map D.int))) (λi y s s' ⟨r,k,h1,h2,h3⟩ kx=>⟨r,k,h1,h2,kx.keep _ _ h3 (by simp)⟩) hi (by rw[Zaa];lk) ?_ ?_;intro i d hd s1 k1;rw[Zad]at hd;obtain⟨k,hk,rfl⟩:=Zaz.mp hd;k_lt hP;exact⟨_,zo,hP _ _ ⟨⟨_,k,rfl,hk,i7⟩,Ex.cZ _⟩⟩;intro ys s1 k1 hyl hy;rw[Zaa]at hyl;have e:ys=(ys.map rfD).map D.ref:=by
  refine Zby λi=>?_;rw[Zad,Zad];by_cases hi':i<ys.length;obtain⟨r,k,h1,_,_⟩:=hy i _ (Zab hi');rw[Zab hi',h1];rfl;rw[ZaO ⋯];rfl
 rw[e];refine Z _ _ k1 (by rw[Zaa];exact hyl) λi r k h1 h2=>?_;rw[Zad]at h1;obtain⟨y,hy1,rfl⟩:=Zaz.mp h1;obtain⟨r',k',e1,e2,e3⟩:=hy i y hy1;rw[h2]at e2;cases e2;rw[e1];exact e3
def Qi(hk:k<N)(h:Q (zF c k) st):Wp (aD (fj c N) (.int (k:Int)) st) Q:=by rw[Ka,vT];refine⟨_,yq (j:=k) (by rw[Zad,ZaV hk];rfl),h⟩
def rw_s(F:ae.Full n p c N)(hk:k<N):((c.2.2.getD k (0,0)).1:Int)=ae.app (ae.sT c) (k:Int)/\((c.2.2.getD k (0,0)).2:Int)=ae.app (ae.tT c) (k:Int):=by
 have hl:k<c.2.2.length:=by rw[F.ll];exact hk
 unfold ae.app ae.sT ae.tT;rw[Zan,Zah,Zah,Zah,Zad,Zad,Zab hl];exact⟨rfl,rfl⟩
def ycS(n0:0<n)(F:ae.Full n p c N)(hN:N<=60):Wp (IQ [fj c N,.tup ((cB (kd c N) N).map tI)] st) λd st'=>d=.bl true/\Ex [] st st':=by
 have ts:=F.wX n0;have tt:=F.DF n0;have N0:0<N:=by have:=F.r.few;rw[F.fl]at this;exact this
 have VX:=D8 (kd c N) N;have pf:=zdw n0 F;refine d6 ?_;intro qR;show Ws (IP [some (fj c N),some (.tup ((cB (kd c N) N).map tI)),none,none] st) _ _ _ _;unfold IP;refine aT (gP ?_);k_lt Z;refine Zcu (ks:=cB (kd c N) N) ?_ ⋯ λis s1 k1 hil his=>?_;k_lt hP;exact hP _ _ ⟨sX _ _,Ex.refl⟩;refine⟨rfl,?_⟩;have e1:items (s1 ++ [O.lst (is.map D.ref)] ++ [O.lst []]) s1.length=some (is.map D.ref):=bO (km i7);have e2:own (s1 ++ [O.lst (is.map D.ref)] ++ [O.lst []]) (s1 ++ [O.lst (is.map D.ref)]).length=some []:=mC i7;have e3:bB (own (s1 ++ [O.lst (is.map D.ref)] ++ [O.lst []])) is=some ((cB (kd c N) N).map λk=>k.map D.int):=Qh (by rw[Zaa];exact hil) λi a x h1 h2=>by
  rw[Zad]at h2;obtain⟨k,hk,rfl⟩:=Zaz.mp h2;exact mC (km (km (his i a k h1 hk)))
 have e4:((cB (kd c N) N).map λk=>k.map D.int).flatten=((cB (kd c N) N).flatten).map D.int:=by rw[List.map_flatten]
 have hK0:0<(cB (kd c N) N).length:=ZcB ((sC _ _ _).mpr ⟨0,N0,rfl⟩);have hfl:(cB (kd c N) N).flatten.length=N:=by rw[pf.length_eq,ae.rj]
 rw[Ydu e1 e2 e3 ⋯ (by rw[e4,Zaa,hfl];exact nh ⋯),e4];rw[VM (ns:=(cB (kd c N) N).flatten) (show b7 _ (.ref _)=_ from rm) ⋯,VN pf];have k2:Ex [] st (s1 ++ [O.lst (is.map D.ref)] ++ [O.lst []] ++ [O.lst ((cB (kd c N) N).flatten.map D.int)]):=((k1.app _).app _).app _;generalize (s1 ++ [O.lst (is.map D.ref)] ++ [O.lst []] ++ [O.lst ((cB (kd c N) N).flatten.map D.int)])=s2 at k2 ⊢;refine⟨_,rfl,?_⟩;rw[Zaa,ZbA];refine⟨wV ⋯,?_⟩;rw[show((N:Int)-0).toNat=N by lk,uo];have e5:sortI (ae.upto N)=ae.upto N:=ae.N6 (MK _) (VT _) ((ae.RY N).imp λh=>Int.le_of_lt h);rw[e5];have k3:Ex [] st (s2 ++ [O.lst ((ae.upto N).map D.int)] ++ [O.lB 0 (N:Int)] ++ [O.lst ((ae.upto N).map D.int)]):=((k2.app _).app _).app _;have hi1:items (s2 ++ [O.lst ((ae.upto N).map D.int)] ++ [O.lB 0 (N:Int)] ++ [O.lst ((ae.upto N).map D.int)]) s2.length=some ((ae.upto N).map D.int):=bO (km (km i7));rw[PY hi1 rm (xdg _) (xdg _) ∅];refine⟨_,rfl,Z _ _ ⟨λz=>absurd z (by simp),λ_=>ja ?_⟩⟩;clear Z;generalize (s2 ++ [O.lst ((ae.upto N).map D.int)] ++ [O.lB 0 (N:Int)] ++ [O.lst ((ae.upto N).map D.int)])=s3 at k3 ⊢
 let iR:IV:=λi δ s=>∃v2 v3:Option D,δ=[some (fj c N),some (.tup ((cB (kd c N) N).map tI)),v2,v3]/\Ex [] st s
 refine aT (nE ((cB (kd c N) N).map tI) iR ?_ (by rw[Zaa];lk) ?_ ?_);k_lt Z;exact Z _ _ ⟨rfl,_,_,rfl,k3⟩;rintro i d δ s hd ⟨v2,v3,rfl,kk⟩;obtain⟨k,hk,rfl⟩:=Zau.mp (Zai hd);obtain⟨a0,ha0,rfl⟩:=(sC _ _ _).mp hk;have qc:=kd_len n0 F ha0;k_lt Z
 let wm:IV:=λi δ s=>∃v3:Option D,δ=[some (fj c N),some (.tup ((cB (kd c N) N).map tI)),some (tI (kd c N a0)),v3]/\Ex [] st s
 refine Z _ _ (nE ((kd c N a0).map D.int) wm ?_ (by rw[Zaa];lk) ?_ ?_);k_lt2 Z;exact⟨_,rfl,Z _ _ ⟨rfl,_,rfl,kk⟩⟩;clear Z;rintro j d δ s hd ⟨v3,rfl,kk⟩;obtain⟨z,hz,rfl⟩:=Zau.mp (Zai hd);obtain⟨z0,z1⟩:=MN n0 F ha0 hz;obtain⟨x,rfl⟩:∃x:Nat,z=(x:Int):=⟨z.toNat,by lk⟩;have hx:x<N:=by lk
 k_lt Z;refine Z _ _ (gP ?_);k_lt2 Z;have cl:=ae.FE ts (F.Ca n0) (show(0:Int)<=(a0:Int) by lk) (show(a0:Int)<(N:Int) by lk);have m1:ae.app (ae.sT c) (x:Int)∈kd c N a0:=wy.mpr (cl _ (wy.mp hz)).1;have m2:ae.app (ae.yT c) (x:Int)∈kd c N a0:=wy.mpr (cl _ (wy.mp hz)).2;obtain⟨y0,y1⟩:=tt.app z0 z1;obtain⟨y,ey⟩:∃y:Nat,ae.app (ae.tT c) (x:Int)=(y:Int):=⟨(ae.app (ae.tT c) (x:Int)).toNat,by lk⟩;have hy:y<N:=by lk
 have e6:ae.app (ae.yT c) (x:Int)=ae.app (ae.tT c) (y:Int):=by
  rw[<- ey];unfold ae.yT;exact ae.qv z0 (by rw[tt.length];exact z1)
 have c1:(kd c N a0).contains (ae.app (ae.sT c) (x:Int))=true:=ZaQ.mpr m1;have c2:(kd c N a0).contains (ae.app (ae.tT c) (y:Int))=true:=ZaQ.mpr (by rw[<- e6];exact m2);refine Qi hx (VO.mpr ?_);rw[(rw_s F hx).1,zp (c:=tI (kd c N a0)) (ns:=kd c N a0) zo,c1];refine⟨_,rfl,?_⟩;rw[if_neg ∅];refine Qi hx (Qb.mpr ?_);rw[(rw_s F hx).2,ey];refine Qi hy (Qb.mpr ?_);rw[(rw_s F hy).2,zp (c:=tI (kd c N a0)) (ns:=kd c N a0) zo,c2];exact⟨_,rfl,Z _ _ ⟨λz=>(nomatch z),λ_=>ja ⟨_,rfl,kk⟩⟩⟩;clear Z;rintro δ s ⟨v3,rfl,kk⟩;exact⟨_,_,rfl,kk⟩;rintro δ s ⟨v2,v3,rfl,kk⟩;refine cK ?_;k_lt Z;exact Z _ _ ⟨rfl,kk⟩
def Kg{p q:ae.aP}:[p.1,p.2]=[q.1,q.2]↔p=q:=⟨λz=>by injection z with z1 z2;injection z2 with z2 _;exact Prod.ext z1 z2,λz=>by rw[z]⟩
def Ycu{st:Store}{p:ae.aP}{n M k:Nat}{w:List cg}(w0:ae.Wh n p)(n0:0<n)(hn:n<=20)(hM:M<2 ^ k)(hk:k<=100)(hw:∀s∈w,ae.bL s)(hl:(ae.ai w).le M):Wp (Mj [bK p,fz (ae.ai w)] st) λd st'=>d=.bl (decide (ae.aR n (ae.dR p w)=ae.aR n p))/\Ex [] st st':=by refine d6 ?_;intro qR;show Ws (JG [some (bK p),some (fz (ae.ai w))] st) _ _ _ _;unfold JG;refine cK ?_;k_lt Z;refine aS (zcd (xs:=p.1) (ys:=p.2) (w:=w) (CA w0) n0 hn hM hk hw hl) ?_;rintro d t1 ⟨rfl,k1⟩;refine aS (MF (xs:=p.1) (ys:=p.2) (CA w0) n0 hn) ?_;rintro d t2 ⟨rfl,k2⟩;rw[zds];refine Z _ _ ⟨?_,k1.trans k2⟩;rw[if_neg ∅];rw[show(((p.1,p.2):ae.aP))=p from rfl];rw[decide_eq_decide.mpr (Kg (p:=ae.aR n (ae.dR p w)) (q:=ae.aR n p))]
def V6{l:List (List Int)}{k:List Int}(h:k∈l):l[l.idxOf k]?=some k:=by have hl:=Zbe h;rw[Zab hl,Zbs]
def ZcS(n0:0<n)(n6:n<=6)(w0:ae.Wh n p)(F:ae.Full n p c N)(hN:N<=60)(g1:Gs B a h)(g2:Gs B' a' h')(hB:240*((B+1)*(B' + 1))<=1000000000000000000)
  (hd:∃x y:Nat,x<N/\y<N/\ae.At c (x:Int) (ae.aR n (ae.dR p (lJ a h)))/\ae.At c (y:Int) (ae.aR n (ae.dR p (lJ a' h')))/\(if kd c N x=kd c N y then∃W:List cg,d5=fz (ae.ai W)/\(∀s∈W,ae.bL s)/\(ae.ai W).le (240*((B+1)*(B' + 1)))/\ae.aR n (ae.dR p W)=ae.aR n p/\(((ae.ai W).a*a+(ae.ai W).b*h=a'/\(ae.ai W).c*a+(ae.ai W).d*h=h')\/((ae.ai W).a*a+(ae.ai W).b*h=-a'/\(ae.ai W).c*a+(ae.ai W).d*h=-h'))else d5=.non)) :
  Wp (DZ [bK p,fj c N,.tup [.int a,.int h],.tup [.int a',.int h'],d5] st) λd st'=>d=.bl true/\Ex [] st st':=by
 obtain⟨x,y,hx,hy,ax,ay,hd⟩:=hd;refine d6 ?_;intro qR;show Ws (JI [some (bK p),some (fj c N),some (.tup [.int a,.int h]),some (.tup [.int a',.int h']),some d5,none,none,none,none,none] st) _ _ _ _;unfold JI;refine aT (gP ?_);k_lt Z;refine aS (Qe n0 w0 F hN g1) ?_;rintro d s1 ⟨r,rfl,hr,ar,hu,gu,k1⟩;refine aS (Qe n0 w0 F hN g2) ?_;rintro d s2 ⟨r',rfl,hr',ar',NX,gu',k2⟩;have ex:r=x:=by have:=ar.inj F ax;lk
 have ey:r'=y:=by have:=ar'.inj F ay;lk
 subst ex ey;have mx:kd c N r∈cB (kd c N) N:=(sC _ _ _).mpr ⟨r,hr,rfl⟩;have my:kd c N r'∈cB (kd c N) N:=(sC _ _ _).mpr ⟨r',hr',rfl⟩
 have V7:((cB (kd c N) N).idxOf (kd c N r):Int)=((cB (kd c N) N).idxOf (kd c N r'):Int)↔kd c N r=kd c N r':=⟨λe=>by
  have e:(cB (kd c N) N).idxOf (kd c N r)=(cB (kd c N) N).idxOf (kd c N r'):=by lk
  have h1:=V6 mx;have h2:=V6 my;rw[e]at h1
  exact Zar (h1.symm.trans h2),λe=>by rw[e]⟩
 have kk:=k1.trans k2;w_how;by_cases hk:kd c N r=kd c N r';rw[if_pos hk]at hd;obtain⟨W,rfl,hW,hle,hg,Kh⟩:=hd;rw[decide_eq_true (V7.mpr hk)];refine Z _ _ ⟨λz=>(nomatch z),λ_=>ja ?_⟩;clear Z;have wA:=ae.wM hW;generalize hT:ae.ai W=T at wA hle Kh;obtain⟨l1,l2,l3,l4⟩:=hle;have isA:∀{s:Store} {Q:D->Store->Prop},Wp (sZ [fz T,.ty "tuple"] s) Q↔Q (.bl true) s:=B0 (T:="tuple") (cs:=["tuple"]) (b:=true) rfl rfl rfl;have x0:∀{s:Store} {Q:D->Store->Prop},Wp (aD (fz T) (.int 0) s) Q↔Q (.int T.a) s:=vT.trans ⟨λ⟨_,h1,h2⟩=>by cases h1;exact h2,λh=>⟨_,rfl,h⟩⟩;have x1:∀{s:Store} {Q:D->Store->Prop},Wp (aD (fz T) (.int 1) s) Q↔Q (.int T.b) s:=vT.trans ⟨λ⟨_,h1,h2⟩=>by cases h1;exact h2,λh=>⟨_,rfl,h⟩⟩;have x2:∀{s:Store} {Q:D->Store->Prop},Wp (aD (fz T) (.int 2) s) Q↔Q (.int T.c) s:=vT.trans ⟨λ⟨_,h1,h2⟩=>by cases h1;exact h2,λh=>⟨_,rfl,h⟩⟩;have x3:∀{s:Store} {Q:D->Store->Prop},Wp (aD (fz T) (.int 3) s) Q↔Q (.int T.d) s:=vT.trans ⟨λ⟨_,h1,h2⟩=>by cases h1;exact h2,λh=>⟨_,rfl,h⟩⟩;refine aT (gP ?_);exists _,Z,isA,x0,x1,x2,x3;generalize hL:240*((B+1)*(B' + 1))=L at l1 l2 l3 l4 hB;have l5:T.le L:=⟨l1,l2,l3,l4⟩;refine⟨_,rfl,?_⟩;rw[show(!decide ((([D.int T.a,D.int T.b,D.int T.c,D.int T.d].length:Nat):Int)=4))=false from rfl,if_neg ∅,decide_eq_true wA];refine⟨.inl ⋯,.inl ⋯,Z _ _ ⟨λz=>(nomatch z),λ_=>ja ?_⟩⟩;clear Z isA x0 x1 x2 x3;refine aT (uk ?_);k_lt Z;refine Z _ _ ?_;clear Z;refine bG ?_;intro cD Z;refine TR.mpr ⟨rfl,?_⟩;w_how;refine Z _ _ (aT (bC ?_));clear Z;have y0:∀{s:Store} {Q:D->Store->Prop} {u v:Int},Wp (aD (.tup [.int u,.int v]) (.int 0) s) Q↔Q (.int u) s:=vT.trans ⟨λ⟨_,h1,h2⟩=>by cases h1;exact h2,λh=>⟨_,rfl,h⟩⟩;have y1:∀{s:Store} {Q:D->Store->Prop} {u v:Int},Wp (aD (.tup [.int u,.int v]) (.int 1) s) Q↔Q (.int v) s:=vT.trans ⟨λ⟨_,h1,h2⟩=>by cases h1;exact h2,λh=>⟨_,rfl,h⟩⟩;exists _,Z,y0,y1;refine⟨.inl ⋯,.inl ⋯,.inl ⋯,.inl ⋯,rfl,Z _ _ (cK ?_)⟩;clear Z;have ig:=Ycu (st:=s2) (M:=L) (k:=60) w0 n0 ⋯ (ZaS hB ∅) ∅ hW (by rw[hT];exact l5);rw[hT,decide_eq_true hg]at ig;exists _,Z,y0,y1,T9;refine aS (ig) ?_;rintro d s3 ⟨rfl,k3⟩;rw[T9];exists y0,y1
 refine(iff_of_eq (if_pos ∅)).mpr ⟨rfl,rfl,(Ly (n:=1) (es:=[.tup [.int a',.int h'],.tup [.int (0-a'),.int (0-h')]]) (zt 0 [T.a*a+T.b*h,T.c*a+T.d*h]) rfl (λe he=>by
  rcases ZaC.mp he with rfl|he
  exact zt 0 [a',h'];rcases Zaq.mp he with rfl
  exact zt 0 [0-a',0-h']) ∅).mpr ?_⟩
 have hmem:D.tup ([T.a*a+T.b*h,T.c*a+T.d*h].map D.int)∈[D.tup [.int a',.int h'],.tup [.int (0-a'),.int (0-h')]]:=by
  show D.tup [.int (T.a*a+T.b*h),.int (T.c*a+T.d*h)]∈_;rcases Kh with⟨e1,e2⟩|⟨e1,e2⟩
  rw[e1,e2];exact Zaj;rw[e1,e2,ZcT,ZcT];exact Zas _ Zaj
 rw[if_neg ∅,@decide_eq_true _ (_) hmem];exact Z _ _ ⟨rfl,kk.trans k3⟩;rw[if_neg hk]at hd;subst hd;rw[decide_eq_false (λe=>hk (V7.mp e))];refine Z _ _ ⟨λ_=>cK ?_,λz=>(nomatch z)⟩;clear Z;exists _,Z,O4;exact Z _ _ ⟨rfl,kk⟩
abbrev hd0(r:List Int):Int:=r.headD 0
def zG(h:l.Pairwise (·<=·))(hx:x∈l):hd0 l<=x/\hd0 l∈l:=by
 cases l with
 |nil=>cases hx
 |cons y l =>
  refine⟨?_,Zaj⟩;rcases ZaC.mp hx with e|h'
  rw[e];exact Int.le_refl _;exact(ZcZ.mp h).1 x h'
section
variable {n N:Nat}{p:ae.aP}{c:ae.CS}
def zH(x:Nat):(kd c N x).Pairwise (·<=·):=by unfold kd;exact VT _
def V8(n0:0<n)(F:ae.Full n p c N):∀M:Nat,M<=N->(cB (kd c N) M).Pairwise λa b=>hd0 a<hd0 b
 |0,_=>.nil
 |M+1,hM=>by
  have ih:=V8 n0 F M ⋯;rw[Kb];split
  ·exact ih
  ·next hno =>
   refine List.pairwise_append.mpr ⟨ih,List.pairwise_singleton _ _,λa ha b hb=>?_⟩;rw[Zaq.mp hb];obtain⟨i,hi,rfl⟩:=(sC _ _ _).mp ha;have h1:=zG (zH (c:=c) (N:=N) i) (CI i);obtain⟨h2,h3⟩:=zG (zH (c:=c) (N:=N) M) (CI M);obtain⟨z0,z1⟩:=MN n0 F (show M<N by lk) h3;obtain⟨z,hz⟩:∃z:Nat,hd0 (kd c N M)=(z:Int):=⟨(hd0 (kd c N M)).toNat,by lk⟩;by_cases hzM:z<M
   ·refine absurd ((sC _ _ _).mpr ⟨z,hzM,?_⟩) hno
    exact(Kc n0 F (show M<N by lk) (show z<N by lk) (by rw[<- hz];exact h3)).symm
   ·lk
def Xc5:bB LC ((cB (kd c N) N).map tI)=some ((cB (kd c N) N).map hd0):=Qh (by rw[Zaa,Zaa]) λi a x h1 h2=>by
 rw[Zad]at h1 h2;obtain⟨k,hk,rfl⟩:=Zaz.mp h1;rw[hk]at h2;cases h2;obtain⟨j,_,rfl⟩:=(sC _ _ _).mp (Zai hk);have:=CI (c:=c) (N:=N) j;cases h:kd c N j with
 |nil=>rw[h]at this;cases this
 |cons y r=>rfl
end
def cop(h:a*x+b*y=1):Int.gcd x y=1:=by have h1:((Int.gcd x y:Nat):Int) ∣ a*x+b*y:=Int.dvd_add (Int.dvd_mul_of_dvd_right (Int.gcd_dvd_left x y)) (Int.dvd_mul_of_dvd_right (Zcy x y));rw[h]at h1;have:=ZbN.mpr h1;exact Nat.dvd_one.mp this
def YcS{w:List cg}{B:Nat}(hw:∀s∈w,ae.bL s)(hl:(ae.ai w).le B)(hB:B<=1073741824):Gs B (rq (ae.ai w).d (0-(ae.ai w).c)).1 (rq (ae.ai w).d (0-(ae.ai w).c)).2/\(ae.Gd (ae.ai w) (rq (ae.ai w).d (0-(ae.ai w).c)).1 (rq (ae.ai w).d (0-(ae.ai w).c)).2\/ae.Gd (ae.ai (w ++ [((false,2):cg)])) (rq (ae.ai w).d (0-(ae.ai w).c)).1 (rq (ae.ai w).d (0-(ae.ai w).c)).2):=by
 have wA:=ae.wM hw;obtain⟨l1,l2,l3,l4⟩:=hl;have hT2:=J9 w;generalize ae.ai w=T at *;rw[ZcT];obtain⟨x,y,eA,hxy,y0,yx⟩:∃x y:Int,uO T.d (-T.c)=(x,y)/\((x=T.d/\y=-T.c)\/(x=-T.d/\y=T.c))/\0<=y/\(y=0->0<=x):=by
  unfold uO;split;exact⟨_,_,rfl,.inr ⟨rfl,Int.neg_neg _⟩,by lk,by lk⟩;exact⟨_,_,rfl,.inl ⟨rfl,rfl⟩,by lk,by lk⟩
 have hc0:y=0->x=1:=λe=>by
  have c0:T.c=0:=by lk
  rw[c0,Int.mul_zero,Int.sub_zero]at wA;have h1:T.d ∣ 1:=⟨T.a,by rw[ZaP];exact wA.symm⟩;have h2:=Nat.dvd_one.mp (ZbN.mpr h1);have:=yx e;lk
 have eP:rq T.d (-T.c)=(x,y):=by
  unfold rq;rw[eA];by_cases e:y=0;rw[if_pos e,hc0 e,e];rw[if_neg e]
 rw[eP];have g:(ae.Gd T x y\/ae.Gd (ae.ai (w ++ [((false,2):cg)])) x y):=by
  rw[hT2];rcases hxy with⟨rfl,rfl⟩|⟨rfl,rfl⟩
  refine .inl ⟨?_,?_⟩;rw[ZcY];lk;rw[ZcY,ZaP T.d];lk;refine .inr ⟨?_,?_⟩;show -T.a * -T.d + -T.b*T.c=1;rw[Int.neg_mul_neg,Za3];lk;show -T.c * -T.d + -T.d*T.c=0;rw[Int.neg_mul_neg,Za3,ZaP T.d];lk
 refine⟨⟨hB,by show x.natAbs<=B;lk,y0,by show y.natAbs<=B;lk,?_,λe=>by have:=hc0 e.2;have:=e.1;lk⟩,g⟩;rcases g with g|g
 exact cop g.1;exact cop g.1
def zc6{n N x r:Nat}{p:ae.aP}{c:ae.CS}{a h:Int}{w:List cg}(n0:0<n)(w0:ae.Wh n p)(F:ae.Full n p c N)(hx:x<N)(hr:r<N)(hw:∀s∈w,ae.bL s)(ax:ae.At c (x:Int) (ae.aR n (ae.dR p w)))(ar:ae.At c (r:Int) (ae.aR n (ae.dR p (lJ a h))))(hu:∀s∈lJ a h,ae.bL s)(gu:ae.Gd (ae.ai (lJ a h)) a h)(g:ae.Gd (ae.ai w) a h\/ae.Gd (ae.ai (w ++ [((false,2):cg)])) a h):kd c N r=kd c N x:=by
 rcases g with g|g
 exact V0 n0 w0 F hr hx ar ax hu hw gu g;have h2:=MI hw;obtain⟨z,_,hz,az⟩:=VU n0 w0 F h2;rw[V0 n0 w0 F hr hz ar az hu h2 gu g];have ww:=w0.ld n0 (w:=w);refine Kc n0 F hx hz (wy.mpr ((ae.xZ n0 F ax az).mpr ⟨0,true,?_⟩));rw[ae.wL];have e1:ae.aR n (ae.Q2 (ae.aR n (ae.dR p w)))=ae.aR n (ae.Q2 (ae.dR p w)):=(ae.qf n0 (ww.q2 n0).v (ae.bA.q2 ww.v (ae.rn ww n0).2.2)).symm;have w2:=((ae.rn ww n0).1).q2 n0;show _=ae.aR n (ae.Sh 0 (ae.Q2 (ae.aR n (ae.dR p w))));rw[ae.oJ w2.v,e1];rfl
def zI(C:ae.CS)(N:Nat):pU 5 (fj C N):=λd hd=>by
 obtain⟨k,_,rfl⟩:=Zau.mp hd;show∀d∈[bK (C.1.getD k ([],[])),wD (C.2.1.getD k []),D.int ((C.2.2.getD k (0,0)).1:Int),D.int ((C.2.2.getD k (0,0)).2:Int)],pU 3 d;intro d hd;simp only[ZaC,ZcI,or_false]at hd;rcases hd with rfl|rfl|rfl|rfl
 exact O9 1 _ _;exactλd hd=>by obtain⟨x,_,rfl⟩:=Zau.mp hd;exact zu 1 x
 exact True.intro;exact True.intro
def CM:Wp (aD (yb p w l) (.int 1) st) Q↔Q (wD w) st:=bh
def V9{ds:List D}{i:Nat}{d:D}(h:ds[i]?=some d):(fY ds)[i]?=some (.tup [.int (i:Int),d]):=by unfold fY;simp[Zad,List.getElem?_zipIdx,h]
def Zce(n0:0<n)(F:ae.Full n p c N)(hN:N<=60)(hx:x<N)(h5:δ[5]?=some (some (.tup ((cB (kd c N) N).map tI))))(h7:δ.getD 7 none=some (.int (x:Int)))(h:∀s,Ex [] st s->Q (.ref s.length) (s ++ [.lst [.int ((cB (kd c N) N).idxOf (kd c N x):Int)]])):Wp (cu (lR (af (ag 5) ah)) 2 [7] (lH 2 (bx (hName 0) (bx (hName 1) lQ))) (aH (av (rP false) (ag 2) (ag 1))) (ag 0) δ st) Q:=by
 have VX:=D8 (kd c N) N;have hm:kd c N x∈cB (kd c N) N:=(sC _ _ _).mpr ⟨x,hx,rfl⟩;have hil:=Zbe hm;generalize hJ:(cB (kd c N) N).idxOf (kd c N x)=J at *;have hel:(fY ((cB (kd c N) N).map tI)).length=(cB (kd c N) N).length:=by unfold fY;simp
 refine Gk (fY ((cB (kd c N) N).map tI)) (λi ys δ' s=>(∃v w,δ'=[v,w,some (.int (x:Int))])/\ys=(if J<i then[D.int (J:Int)]else[])/\s=st) ?_ (by rw[hel];lk) ?_ ?_ ?_;k_lt hP;exact⟨_,h5,_,rfl,hP _ _ ⟨λi ys δ st2 hi _=>sX _ _ i st2 hi Ex.refl,⟨none,none,by show[none,none,δ.getD 7 none]=_;rw[h7]⟩,rfl,rfl⟩⟩;rintro i ys δ' s ⟨_,rfl,_⟩;split;show 1<=i;lk;exact ZaL _;rintro i d ys δ' s hd ⟨⟨v,w,rfl⟩,rfl,rfl⟩;have hi:=ff hd;rw[hel]at hi;have hki:((cB (kd c N) N).map tI)[i]?=some (tI (cB (kd c N) N)[i]):=by rw[Zad,Zab hi];rfl
 rw[V9 hki]at hd;cases hd;have hio:=ML n0 F hx (Zch hi);have Wa:(cB (kd c N) N)[i]=kd c N x↔i=J:=by
  have Qj:(cB (kd c N) N)[J]=kd c N x:=by subst hJ;exact Zbs hil
  constructor;intro e;rcases Nat.lt_trichotomy i J with z|z|z
  exact absurd (e.trans Qj.symm) (ZaM.mp (D9 (kd c N) N) _ _ hi hil z);exact z;exact absurd (Qj.trans e.symm) (ZaM.mp (D9 (kd c N) N) _ _ hil hi z);intro e;subst e;exact Qj
 k_lt hP;refine⟨rfl,hP _ _ ?_⟩;k_lt2 hP;rw[zp (c:=tI (cB (kd c N) N)[i]) (ns:=(cB (kd c N) N)[i]) zo];refine⟨_,rfl,hP _ _ ⟨λz=>?_,λz=>?_⟩⟩;have e:=Wa.mp (hio.mp (ZaQ.mp z));k_lt2 hP;refine hP _ _ ⟨⟨_,_,rfl⟩,?_,rfl⟩;rw[if_neg ⋯,if_pos ⋯,e];rfl;have e:i≠J:=λe=>by
  have:=ZaQ.mpr (hio.mpr (Wa.mpr e));rw[show((cB (kd c N) N)[i]).contains (x:Int)=false from z]at this;cases this
 refine⟨⟨_,_,rfl⟩,?_,rfl⟩;by_cases h1:J<i;rw[if_pos h1,if_pos ⋯];rw[if_neg h1,if_neg ⋯];rintro ys δ' s ⟨_,rfl,rfl⟩;rw[hel,if_pos hil];exact h _ Ex.refl
def wB(ns:List Int)(hns:ns.length<=63):Wp (Pr [.ref 0] [.rM (ns.map D.int)]) λd _=>d=.bl true:=by
 refine d6 ?_;intro qR;show Ws (Mp [some (.ref 0),none,none,none,none,none,none,none,none,none,none,none,none,none,none] [.rM (ns.map D.int)]) _ _ _ _;unfold Mp;have MO:([O.rM (ns.map D.int)]:Store)[0]?=some (.rM (ns.map D.int)):=rfl;generalize ([O.rM (ns.map D.int)]:Store)=ny at MO;obtain⟨m,hm,adN⟩:∃m:Nat,(if(if(ns.length:Int)<9 then(ns.length:Int)else 9) > 5 then(if(ns.length:Int)<9 then(ns.length:Int)else 9)else 5)=(m:Int)+2/\m<=8:=by
  refine⟨((if(if(ns.length:Int)<9 then(ns.length:Int)else 9) > 5 then(if(ns.length:Int)<9 then(ns.length:Int)else 9)else 5)-2).toNat,?_,?_⟩<;>split<;>split<;>lk
 refine aT (bC ?_);k_lt Z;show Wp (zx [.ref 0,.int ((1:Nat):Int)] ny) _;refine aS (UY (a:=0) (ns:=ns) (k:=1) (OS MO) ⋯) ?_;rintro d s1 ⟨rfl,f1,k1⟩;have h01:=k1.keep _ _ MO (by simp);have Fg:0<ny.length:=ff MO;generalize ny.length=f at f1 Fg;refine Z _ _ (aT (uk ?_));k_lt2 Z;show Wp (DL [.ref f,.int ((30:Nat):Int)] s1) _;refine aS (Zcd (most:=30) f1 ∅ ∅) ?_;rintro d s2 ⟨n,p,N,rfl,w0,n0,n6,F,pr,hN,f2,k2⟩;have h02:=k2.keep _ _ h01 (by simp;lk);refine Z _ _ ?_;k_lt2 Z;refine⟨rfl,Z _ _ (aT (bC ?_))⟩;k_lt2 Z;show Wp (DQ [bK p,.int ((60:Nat):Int)] s2) _;refine aS (Zb4 (most:=60) w0 n0 ⋯ F pr ⋯ ∅) ?_;rintro d s3 ⟨rfl,k3⟩;have CN:=k3.keep _ _ h02 (by simp);have Ki:=ae.UJ n0 w0 N pr;refine Z _ _ (aT (bC ?_));clear Z;generalize ae.ch n p N=c at F Ki ⊢;k_lt Z;refine aS (VS n0 F ⋯) ?_;rintro d s4 ⟨rfl,k4⟩;have h04:=k4.keep _ _ CN (by simp);refine Z _ _ (aT (gP ?_));k_lt2 Z;refine(Uo (n:=5) (zI _ _) (zI _ _) ∅).mpr ⟨_,rfl,?_⟩;rw[if_pos rfl,@decide_eq_true _ (_) (rfl:fj c N=fj c N),if_neg ∅];refine aS (ycS n0 F ⋯) ?_;rintro d s5 ⟨rfl,k5⟩;refine⟨_,rfl,?_⟩;rw[if_neg ∅];have Kj:=k5.keep _ _ h04 (by simp);refine(yc3 zo Xc5 (by rw[Zaa];have:=D8 (kd c N) N;lk) (Zcw.mpr (V8 n0 F N (Zag _)))).mpr ?_;have Kk:=km (m:=[O.lst ((cB (kd c N) N).map tI)]) (km (m:=[O.lst ((cB (kd c N) N).map tI)]) Kj);have hi1:items (s5 ++ [O.lst ((cB (kd c N) N).map tI)] ++ [O.lst ((cB (kd c N) N).map tI)]) s5.length=some ((cB (kd c N) N).map tI):=bO (km i7);have pk:∀d∈(cB (kd c N) N).map tI,pU 1 d:=λd hd=>by obtain⟨k,_,rfl⟩:=Zau.mp hd;exact Qc k
 refine(PY hi1 rm pk pk ∅).mpr ⟨_,rfl,?_⟩;rw[if_pos rfl,@decide_eq_true _ (_) (rfl:(cB (kd c N) N).map tI=(cB (kd c N) N).map tI)];refine Z _ _ ⟨λz=>(nomatch z),λ_=>ja ?_⟩;clear Z;generalize s5 ++ [O.lst ((cB (kd c N) N).map tI)] ++ [O.lst ((cB (kd c N) N).map tI)]=s6 at Kk ⊢;refine aT (bC ?_);k_lt Z;refine⟨rfl,Z _ _ ?_⟩;clear Z;have N0:0<N:=by have:=F.r.few;rw[F.fl]at this;exact this
 have MP:N<=60:=by lk
 have g0:0<s6.length:=ff Kk;have Wb:=km (m:=[O.lst []]) Kk;obtain⟨g,hg,xa⟩:∃g:Nat,s6.length=g/\(s6 ++ [O.lst []])[g]?=some (.lst (([]:List (Int×Int)).map nK)):=⟨_,rfl,i7⟩;rw[hg]at g0 ⊢;clear hg;generalize s6 ++ [O.lst []]=s7 at Wb xa ⊢
 let iR:IV:=λi δ s=>∃(v7 v8 v9 v10:Option D) (L:List (Int×Int)),δ=[some (.ref 0),some (.ref f),some (bK p),some (fj c N),some (fj c N),some (.tup ((cB (kd c N) N).map tI)),some (.ref g),v7,v8,v9,v10,none,none,none,none]/\s[0]?=some (.rM (ns.map D.int))/\s[g]?=some (.lst (L.map nK))/\L.length=i/\∀e∈L,Gs 536870912 e.1 e.2
 refine aT (nE (fY ((List.range N).map (zF c))) iR ?_ ?_ ?_ ?_);k_lt Z;exact⟨_,rfl,Z _ _ ⟨rfl,_,_,_,_,[],rfl,Wb,xa,rfl,(λe he=>nomatch he)⟩⟩;unfold fY;simp;lk;rintro i d δ s hd ⟨v7,v8,v9,v10,L,rfl,h0,hg,el,hL⟩;have hi:i<N:=by have:=ff hd;unfold fY at this;simpa using this
 have hki:((List.range N).map (zF c))[i]?=some (zF c i):=by rw[Zad,ZaV hi];rfl
 rw[V9 hki]at hd;cases hd;have hwl:i<c.2.1.length:=by rw[F.r.wl,F.fl];exact hi
 obtain⟨w,hw⟩:∃w,c.2.1[i]?=some w:=⟨_,Zab hwl⟩;have ew:c.2.1.getD i []=w:=by rw[Zah,hw];rfl
 obtain⟨pl,lw,nw,q,hq,aq⟩:=F.r.wd i w hw;have pw:∀s∈w,ae.bL s:=λs hs=>pl.pr s (Zbh.mpr hs);have hq':=F.r.own q (Zai hq);have ax:ae.At c (i:Int) (ae.aR n (ae.dR p w)):=by
  refine⟨by lk,?_⟩;rw[Zan,hq,ae.qf n0 (w0.ld n0).v aq,hq'.2]
 have hle:(ae.ai w).le 536870912:=by
  have h1:=ae.UM pw;have h2:2 ^ ae.cst w<=536870912:=Zal (ZbS ∅ (show ae.cst w<=29 by have:=Ki i w hw;lk)) ∅;obtain⟨a1,a2,a3,a4⟩:=h1;exact⟨Zal a1 h2,Zal a2 h2,Zal a3 h2,Zal a4 h2⟩
 obtain⟨gs,gd⟩:=YcS pw hle ∅;k_lt Z;refine⟨rfl,Z _ _ (aT (bC ?_))⟩;k_lt2 Z;refine CM.mpr ?_;rw[ew];refine aS (XbS (w:=w) (λs hs=>⟨pw s hs,by have:=nw s hs;lk⟩) ⋯) ?_;rintro d t1 ⟨rfl,e1⟩;refine Z _ _ (aT (bC ?_));k_lt2 Z;refine vT.mpr ⟨_,rfl,vT.mpr ⟨_,rfl,?_⟩⟩;w_how;refine⟨rfl,?_⟩;refine aS (V5 (a:=(ae.ai w).d) (c:=0-(ae.ai w).c)) ?_;rintro d t2 ⟨rfl,e2⟩;refine Z _ _ (aT (su ?_));clear Z;generalize rq (ae.ai w).d (0-(ae.ai w).c)=z at gs gd ⊢;obtain⟨x,y⟩:=z;have Wc:=e1.trans e2;have h02:=Wc.keep _ _ h0 (by simp);have uN:=Wc.keep _ _ hg (by simp);k_lt Z;refine⟨qh (by rw[bO uN];rfl),?_⟩;exists mC uN;refine⟨nh (by rw[Zaa];lk),Z _ _ (gP ?_)⟩;clear Z;have CN:(t2.set g (.lst (L.map nK ++ [nK (x,y)])))[0]?=some (.rM (ns.map D.int)):=by rw[Zat ⋯];exact h02
 have wj:(t2.set g (.lst (L.map nK ++ [nK (x,y)])))[g]?=some (.lst ((L ++ [(x,y)]).map nK)):=by rw[Zao (ff uN),Zav];rfl
 generalize t2.set g (.lst (L.map nK ++ [nK (x,y)]))=t3 at CN wj ⊢;k_lt Z;show Wp (zA [fj c N,.tup [.int x,.int y]] t3) _;refine aS (Qe n0 w0 F MP gs) ?_;rintro d t4 ⟨r,rfl,hr,ar,hu,gu,e4⟩;refine Zce n0 F MP hi rfl rfl λt5 e5=>?_;exists rm,xQ;rw[zc6 n0 w0 F hi hr pw ax ar hu gu gd,decide_eq_true rfl];have Kj:=km (m:=[O.lst [D.int ((cB (kd c N) N).idxOf (kd c N i):Int)]]) ((e4.trans e5).keep _ _ CN (by simp));have Qk:=km (m:=[O.lst [D.int ((cB (kd c N) N).idxOf (kd c N i):Int)]]) ((e4.trans e5).keep _ _ wj (by simp));refine Z _ _ ⟨λz=>(nomatch z),λ_=>ja ⟨_,_,_,_,L ++ [(x,y)],rfl,Kj,Qk,by rw[Zae,el];rfl,λe he=>?_⟩⟩;rcases ZaA.mp he with h'|h'
 exact hL e h';rw[Zaq.mp h'];exact gs;rintro δ s ⟨v7,v8,v9,v10,L,rfl,h0,hg,el,hL⟩;have el:L.length=N:=by rw[el];unfold fY;simp
 let wm:IV:=λi δ s=>∃(v1 v7 v8 v9 v10 v11 Ql Qm CO:Option D),δ=[some (.ref 0),v1,some (bK p),some (fj c N),some (fj c N),some (.tup ((cB (kd c N) N).map tI)),some (.ref g),v7,v8,v9,v10,v11,Ql,Qm,CO]/\s[0]?=some (.rM (ns.map D.int))/\s[g]?=some (.lst (L.map nK))
 refine aT (nE (aL 2 m) wm ?_ (by rw[gO];lk) ?_ ?_);exists _,Z,OS h0;rw[Zaa,hm];exact⟨2,(m:Int)+2,⟨rfl,rfl⟩,⟨⟨by decide,by decide⟩,by lk,by lk⟩,Z _ _ ⟨by rw[show((m:Int)+2-2).toNat=m by lk],_,_,_,_,_,_,_,_,_,rfl,h0,hg⟩⟩;clear h0 hg;rintro i d δ s hd ⟨v1,v7,v8,v9,v10,v11,Ql,Qm,CO,rfl,h0,hg⟩;have hil:=ff hd;rw[gO]at hil;rw[xN hil]at hd;cases hd;k_lt Z;refine Z _ _ (aT (bC ?_));k_lt2 Z;rw[show(2:Int)+(i:Int)=((2+i:Nat):Int) by lk];refine aS (UY (a:=0) (ns:=ns) (k:=2+i) (OS h0) ⋯) ?_;rintro d t1 ⟨rfl,f1,e1⟩;have h01:=e1.keep _ _ h0 (by simp);have xa:=e1.keep _ _ hg (by simp);have Fg:g<s.length:=ff hg;generalize s.length=f at f1 Fg;refine Z _ _ (aT (bC ?_));clear Z;exists _,Z,bO xa;rw[Zaa,el];refine aS (wg (n:=(N:Int)) f1 ⋯ ⋯) ?_;rintro d t2 ⟨k,rfl,k0,kN,f2,e2⟩;have h02:=e2.keep _ _ h01 (by simp;lk);have uN:=e2.keep _ _ xa (by simp;lk);obtain⟨j,rfl⟩:∃j:Nat,k=(j:Int):=⟨k.toNat,by lk⟩;have hj:j<L.length:=by lk
 obtain⟨z,hz⟩:∃z,L[j]?=some z:=⟨_,Zab hj⟩;have gz:=hL z (Zai hz);have hat:eZ (L.map nK) (j:Int)=some (nK z):=yq (j:=j) (by rw[Zad,hz];rfl);exists bO uN,hat;refine aS (uv f2) ?_;rintro d t3 ⟨a,h,rfl,ga,f3,e3⟩;have CN:=km (m:=[O.lst [nK z,.tup [.int a,.int h]]]) (e3.keep _ _ h02 (by simp;lk));have wj:=km (m:=[O.lst [nK z,.tup [.int a,.int h]]]) (e3.keep _ _ uN (by simp;lk));have f4:=f3.keep (Ex.cZ [O.lst [nK z,.tup [.int a,.int h]]]);have i3:(t3 ++ [O.lst [nK z,.tup [.int a,.int h]]])[t3.length]?=some (.lst [nK z,.tup [.int a,.int h]]):=i7;have hne:t3.length≠f:=by have:=f3.lt;lk
 generalize t3 ++ [O.lst [nK z,.tup [.int a,.int h]]]=t4 at CN wj f4 i3 ⊢;generalize t3.length=r3 at i3 hne ⊢;refine⟨rfl,?_⟩;refine aS (wg (n:=2) f4 ∅ ∅) ?_;rintro d t5 ⟨b,rfl,b0,b2,f5,e5⟩;have Kj:=e5.keep _ _ CN (by simp;lk);have Qk:=e5.keep _ _ wj (by simp;lk);have i5:=bO (e5.keep _ _ i3 (by simp;exact hne));obtain⟨u,hu,gu⟩:∃u:Int×Int,eZ [nK z,.tup [.int a,.int h]] b=some (nK u)/\Gs 536870912 u.1 u.2:=by
  rcases(show b=0\/b=1 by lk)with e|e
  rw[e];exact⟨z,xQ _ _,gz⟩;rw[e];exact⟨(a,h),DB _ _ _,⟨by decide,Zal ga.a1 ∅,ga.h0,Zal ga.h1 ∅,ga.g,ga.nn⟩⟩
 exists i5,hu;refine Z _ _ (aT (bC ?_));k_lt2 Z;refine aS (uv f5) ?_;rintro d t6 ⟨a',h',rfl,MQ,f6,e6⟩;have Kk:=e6.keep _ _ Kj (by simp;lk);have hg6:=e6.keep _ _ Qk (by simp;lk);refine Z _ _ ?_;clear Z;refine nE [.tup [nK (a',h'),nK u],.tup [nK u,nK (a',h')],.tup [nK (a',h'),nK (a',h')]] (λi' δ s=>∃(CO:Option D),δ=[some (.ref 0),some (.ref f),some (bK p),some (fj c N),some (fj c N),some (.tup ((cB (kd c N) N).map tI)),some (.ref g),v7,v8,v9,v10,some (.int ((2+i:Nat):Int)),some (nK u),some (.tup [.int a',.int h']),CO]/\Ex [] t6 s) ?_ (show 3<100000 by decide) ?_ ?_;k_lt Z;exact⟨rfl,rfl,rfl,rfl,Z _ _ ⟨rfl,_,rfl,Ex.refl⟩⟩;rintro i' d δ s hd ⟨CO,rfl,e7⟩;obtain⟨x,y,B,B',rfl,gx,gy,hB⟩:∃(x y:Int×Int) (B B':Nat),d=.tup [nK x,nK y]/\Gs B x.1 x.2/\Gs B' y.1 y.2/\240*((B+1)*(B' + 1))<=1000000000000000000:=by
  match i',hd with
  |0,hd=>cases(show some _=some d from hd);exact⟨(a',h'),u,_,_,rfl,MQ,gu,by decide⟩
  |1,hd=>cases(show some _=some d from hd);exact⟨u,(a',h'),_,_,rfl,gu,MQ,by decide⟩
  |2,hd=>cases(show some _=some d from hd);exact⟨(a',h'),(a',h'),_,_,rfl,MQ,MQ,by decide⟩
  |i' + 3,hd=>cases(show none=some d from hd)
 obtain⟨x1,x2⟩:=x;obtain⟨y1,y2⟩:=y;k_lt Z;refine Z _ _ (gP ?_);k_lt2 Z;show Wp (D1 [fj c N,.tup [.int x1,.int x2],.tup [.int y1,.int y2]] s) _;refine aS (XbD n0 w0 F MP gx gy) ?_;rintro dd t8 ⟨r,r',h1,h2,h3,h4,h5,e8⟩;show Wp (DZ [bK p,fj c N,.tup [.int x1,.int x2],.tup [.int y1,.int y2],dd] t8) _;refine aS (ZcS n0 n6 w0 F MP gx gy hB ⟨r,r',h1,h2,h3,h4,h5⟩) ?_;rintro d t9 ⟨rfl,e9⟩;exact⟨_,rfl,Z _ _ ⟨λz=>(nomatch z),λ_=>ja ⟨_,rfl,(e7.trans e8).trans e9⟩⟩⟩;rintro δ s ⟨CO,rfl,e7⟩;exact⟨_,_,_,_,_,_,_,_,_,rfl,e7.keep _ _ Kk (by simp),e7.keep _ _ hg6 (by simp)⟩;clear h0 hg;rintro δ s ⟨v1,v7,v8,v9,v10,v11,Ql,Qm,CO,rfl,h0,hg⟩;refine cK ?_;k_lt Z;exact Z _ _ rfl
def CP{P:Program}{w:World}{K:Zfr}{mg:Str->Option Value}{base:Heap}(T:Txt mg){gG:V}(dI:rE K mg "QUARTER_charts" gG (.tup [(.str "t"),(.int 1)])){iN:V}(eU:rE K mg "QUARTER_words" iN (.tup [(.int 0),(.int (-1)),(.int 1),(.int 0)])){tm:V}(qV:rE K mg "SHEAR" tm (.tup [(.str "s"),(.int 1)])){lX:V}(gn:rE K mg "UNMOVED" lX (.tup [(.int 1),(.int 0),(.int 0),(.int 1)])){kr:Addr}{ky:FuncData}(fm:D10 K mg kr ky){kz:Addr}{kA:FuncData}(aN:D11 K mg kz kA){fF:Addr}{fG:FuncData}(cU:D12 K mg fF fG){mD:Addr}{mE:FuncData}(iz:D13 K mg mD mE){je:Addr}{jf:FuncData}(dS:D14 K mg je jf){eh:Addr}{eB:FuncData}(c7:D15 K mg eh eB){kC:Addr}{kD:FuncData}(fq:D16 K mg kC kD){gQ:Addr}{gR:FuncData}(eG:D17 K mg gQ gR){fH:Addr}{fI:FuncData}(dD:D18 K mg fH fI){jg:Addr}{jh:FuncData}(f9:D19 K mg jg jh){jk:Addr}{jl:FuncData}(dU:D20 K mg jk jl){mF:Addr}{mG:FuncData}(kh:D21 K mg mF mG){gW:Addr}{gX:FuncData}(bq:D22 K mg gW gX){mI:Addr}{mJ:FuncData}(bI:D23 K mg mI mJ){gY:Addr}{gZ:FuncData}(eI:D24 K mg gY gZ){fK:Addr}{fL:FuncData}(bS:D25 K mg fK fL){dF:Addr}{dG:FuncData}(cT:D26 K mg dF dG){eJ:Addr}{eK:FuncData}(c9:D27 K mg eJ eK){n9:Addr}{oa:FuncData}(cb:D28 K mg n9 oa){kE:Addr}{kF:FuncData}(iK:D29 K mg kE kF){mK:Addr}{mL:FuncData}(ki:D30 K mg mK mL){qT:Addr}{qU:FuncData}(lV:D31 K mg qT qU){oe:Addr}{og:FuncData}(lW:D32 K mg oe og){kH:Addr}{kI:FuncData}(iL:D33 K mg kH kI){g7:Addr}{g8:FuncData}(eN:D34 K mg g7 g8){pj:Addr}{pq:FuncData}(jm:D35 K mg pj pq){pz:Addr}{pA:FuncData}(oi:D36 K mg pz pA){jn:Addr}{jq:FuncData}(gf:D37 K mg jn jq){fM:Addr}{fN:FuncData}(bT:D38 K mg fM fN){jt:Addr}{ju:FuncData}(dW:D39 K mg jt ju){mN:Addr}{mO:FuncData}(ft:vA K mg "chart_of" Im ["floor","most"] [V.int 60] mN mO){fO:Addr}{fP:FuncData}(bU:D40 K mg fO fP){dJ:Addr}{dM:FuncData}(bz:D41 K mg dJ dM){mQ:Addr}{mS:FuncData}(dX:D42 K mg mQ mS){jv:Addr}{jw:FuncData}(gi:D43 K mg jv jw){jy:Addr}{jz:FuncData}(gj:D44 K mg jy jz){fQ:Addr}{fR:FuncData}(bW:D45 K mg fQ fR){hV:Addr}{h8:FuncData}(eO:D46 K mg hV h8){jB:Addr}{jC:FuncData}(dY:D47 K mg jB jC){kL:Addr}{kM:FuncData}(iM:D48 K mg kL kM){pC:Addr}{pD:FuncData}(oj:D49 K mg pC pD){mT:Addr}{mU:FuncData}(dZ:D50 K mg mT mU){pF:Addr}{pH:FuncData}(di:D51 K mg pF pH){qW:Addr}{qX:FuncData}(dP:D52 K mg qW qX){jD:Addr}{jE:FuncData}(gp:D53 K mg jD jE){mV:Addr}{mW:FuncData}(bD:D54 K mg mV mW){om:Addr}{oo:FuncData}(lY:D55 K mg om oo){ie:Addr}{ik:FuncData}(cc:D56 K mg ie ik){mX:Addr}{mY:FuncData}(kj:D57 K mg mX mY){jG:Addr}{jH:FuncData}(gq:D58 K mg jG jH){kP:Addr}{kQ:FuncData}(iO:D59 K mg kP kQ){kS:Addr}{kT:FuncData}(iP:D60 K mg kS kT){ou:Addr}{ow:FuncData}(gw:D61 K mg ou ow){il:Addr}{ip:FuncData}(bQ:D62 K mg il ip){kW:Addr}{kX:FuncData}(cI:D63 K mg kW kX){oy:Addr}{oz:FuncData}(eV:D64 K mg oy oz){fS:Addr}{fT:FuncData}(dE:D65 K mg fS fT){iq:Addr}{iu:FuncData}(eW:D66 K mg iq iu){dj:Addr}{dk:FuncData}(cz:D67 K mg dj dk){cv:Addr}{cw:FuncData}(bN:D68 K mg cv cw){pI:Addr}{pJ:FuncData}(oA:D69 K mg pI pJ){jJ:Addr}{jK:FuncData}(gD:D70 K mg jJ jK){Kl:Addr}{Km:FuncData}(Qn:D71 K mg Kl Km):G71 P w K mg base Kl Km:=by have iI:=Zb0 (P:=P) (w:=w) (base:=base) fm T;have aO:=Yb0 (P:=P) (w:=w) (base:=base) aN T;have dB:=xbx (P:=P) (w:=w) (base:=base) aN aO cU T;have kg:=xb9 (P:=P) (w:=w) (base:=base) iz T;have fZ:=ZbQ (P:=P) (w:=w) (base:=base) aN aO cU dB iz kg dS T;have eC:=xbo (P:=P) (w:=w) (base:=base) c7 T;have iJ:=Xb0 (P:=P) (w:=w) (base:=base) c7 eC fq T;have gS:=xbB (P:=P) (w:=w) (base:=base) eG T;have fJ:=Xbx (P:=P) (w:=w) (base:=base) eG gS dD T;have ji:=YbQ (P:=P) (w:=w) (base:=base) f9 T;have gb:=xbQ (P:=P) (w:=w) (base:=base) fq iJ dD fJ f9 ji dU T;have mH:=Xb9 (P:=P) (w:=w) (base:=base) aN aO dS fZ dU gb kh T;have bE:=XbB (P:=P) (w:=w) (base:=base) bq T;have bX:=yca (P:=P) (w:=w) (base:=base) bI T;have g5:=zbC (P:=P) (w:=w) (base:=base) bq bE bI bX eI T;have cj:=zby (P:=P) (w:=w) (base:=base) bS T;have dH:=zbl (P:=P) (w:=w) (base:=base) bq bE bS cj cT T;have eM:=zbp (P:=P) (w:=w) (base:=base) eI g5 cT dH c9 T;have cy:=Zcs (P:=P) (w:=w) (base:=base) c9 eM cb T;have kG:=zb1 (P:=P) (w:=w) (base:=base) iK T;have mM:=Zca (P:=P) (w:=w) (base:=base) iK kG ki T;have nJ:=xc3 (P:=P) (w:=w) (base:=base) ki mM lV T;have oh:=xcs (P:=P) (w:=w) (base:=base) bI bX lV nJ lW T;have kJ:=Zb1 (P:=P) (w:=w) (base:=base) bq bE iL T;have g9:=ybC (P:=P) (w:=w) (base:=base) lW oh iL kJ eN T;have kK:=xcN (P:=P) (w:=w) (base:=base) eN g9 jm T;have pB:=XcN (P:=P) (w:=w) (base:=base) oi T;have jr:=XbQ (P:=P) (w:=w) (base:=base) oi pB gf T;have ck:=Xby (P:=P) (w:=w) (base:=base) gf jr bT T;have gh:=zbR (P:=P) (w:=w) (base:=base) cb cy jm kK bT ck dW T;have mP:=Yca (P:=P) (w:=w) (base:=base) cb cy dW gh ft T dI qV;have cm:=ybz (P:=P) (w:=w) (base:=base) bU T;have bM:=Zbl (P:=P) (w:=w) (base:=base) bI bX bU cm bz T;have fu:=xca (P:=P) (w:=w) (base:=base) bS cj bz bM dX T;have jx:=ybR (P:=P) (w:=w) (base:=base) gi T;have jA:=ZbR (P:=P) (w:=w) (base:=base) gi jx gj T;have cn:=Zbz (P:=P) (w:=w) (base:=base) bW T;have h9:=ZbC (P:=P) (w:=w) (base:=base) eO T;have gk:=YbR (P:=P) (w:=w) (base:=base) aN aO bW cn eO h9 dY T;have kO:=Yb1 (P:=P) (w:=w) (base:=base) iM T;have pE:=zcO (P:=P) (w:=w) (base:=base) lV nJ bU cm oj T;have fw:=zcb (P:=P) (w:=w) (base:=base) dZ T;have dN:=ZcO (P:=P) (w:=w) (base:=base) di T;have eQ:=zc4 (P:=P) (w:=w) (base:=base) dP T;have jF:=xbR (P:=P) (w:=w) (base:=base) dP eQ gp T eU gn;have bJ:=ycb (P:=P) (w:=w) (base:=base) dP eQ gp jF bD T gn;have ot:=zct (P:=P) (w:=w) (base:=base) lY T;have cH:=YbC (P:=P) (w:=w) (base:=base) dZ fw di dN bD bJ lY ot cc T;have mZ:=Ycb (P:=P) (w:=w) (base:=base) kj T;have jI:=zbS (P:=P) (w:=w) (base:=base) di dN gq T;have kR:=Xb1 (P:=P) (w:=w) (base:=base) iO T;have kU:=yb2 (P:=P) (w:=w) (base:=base) iO kR iP T;have iQ:=yct (P:=P) (w:=w) (base:=base) bT ck dP eQ bD bJ cc cH kj mZ gq jI iP kU gw T;have cf:=xbC (P:=P) (w:=w) (base:=base) dZ fw bD bJ cc cH bQ T;have dc:=Yb2 (P:=P) (w:=w) (base:=base) oj pE gw iQ bQ cf cI T;have gB:=Zct (P:=P) (w:=w) (base:=base) dX fu cI dc eV T;have fU:=zbA (P:=P) (w:=w) (base:=base) cb cy jm kK gw iQ dE T;have iw:=zbD (P:=P) (w:=w) (base:=base) cb cy dE fU eW T;have dn:=xbh (P:=P) (w:=w) (base:=base) eV gB eW iw cz T;have cx:=Za9 (P:=P) (w:=w) (base:=base) bz bM di dN bN T;have pK:=xcO (P:=P) (w:=w) (base:=base) oA T;have jL:=ybS (P:=P) (w:=w) (base:=base) dP eQ bD bJ bQ cf cI dc bN cx oA pK gD T;have Qo:=Co (P:=P) (w:=w) (base:=base) fm iI aN aO kh mH ft mP dX fu gj jA bW cn dY gk iM kO eV gB cz dn gD jL Qn T;exact Qo
end My
open PySem PySem.W PyProof.Rows L2
namespace PySem.W.Fast
abbrev tw10125216392246697360:=0
abbrev tw10490436960564941760:=0
abbrev tw10748026945168313445:=0
abbrev tw10871360685656681579:=0
abbrev tw11492611761441614694:=0
abbrev tw1168706073620124810:=0
abbrev tw11850922561396353636:=0
abbrev tw12105857752306808358:=0
abbrev tw12211098598460057486:=0
abbrev tw12538385674827722309:=0
abbrev tw12898970123020109544:=0
abbrev tw1291364528790694351:=0
abbrev tw12919074975398273129:=0
abbrev tw13320148699594395408:=0
abbrev tw13362745480120566910:=0
abbrev tw13411435616098750602:=0
abbrev tw1384568595075936735:=0
abbrev tw13873141576599160492:=0
abbrev tw14248345353995225944:=0
abbrev tw14249056771183516288:=0
abbrev tw14298027586357755841:=0
abbrev tw14758205455369624328:=0
abbrev tw15059674516583544742:=0
abbrev tw15380151048451312410:=0
abbrev tw1545374566793802028:=0
abbrev tw15806450387436721126:=0
abbrev tw1627071703288456751:=0
abbrev tw16383911058554196199:=0
abbrev tw16840032799849554476:=0
abbrev tw17005727613808795172:=0
abbrev tw1704603982063490112:=0
abbrev tw17105611110860390691:=0
abbrev tw1741410484313238251:=0
abbrev tw17429359436518012015:=0
abbrev tw17775924821049693876:=0
abbrev tw17816037471397695259:=0
abbrev tw17914935244892705611:=0
abbrev tw17989479005265942597:=0
abbrev tw18336409953211400915:=0
abbrev tw2693276274734340094:=0
abbrev tw2766087911089329112:=0
abbrev tw3015087209861126950:=0
abbrev tw3429891482231037871:=0
abbrev tw3450787930844201662:=0
abbrev tw3461009979623494005:=0
abbrev tw3483452435544572483:=0
abbrev tw3611273992192535347:=0
abbrev tw3870202484735042513:=0
abbrev tw3949110200894425361:=0
abbrev tw4013377021691142345:=0
abbrev tw4027182793475769927:=0
abbrev tw4327936167083274215:=0
abbrev tw4750531686565993526:=0
abbrev tw5132728654512229462:=0
abbrev tw5210002692957328144:=0
abbrev tw5240004645565377625:=0
abbrev tw5241209041827970294:=0
abbrev tw528162004846797775:=0
abbrev tw5340687595713847511:=0
abbrev tw5678407567892420573:=0
abbrev tw5776583894730477716:=0
abbrev tw5863929743937125049:=0
abbrev tw602517048324143721:=0
abbrev tw6115010444691436992:=0
abbrev tw6222856823277543765:=0
abbrev tw6841602851745963230:=0
abbrev tw689764929803592140:=0
abbrev tw695665822747264188:=0
abbrev tw7338132096717770402:=0
abbrev tw7470485067848513228:=0
abbrev tw7513853825671735223:=0
abbrev tw7660566571709463040:=0
abbrev tw7801239324828316543:=0
abbrev tw8110115083998063183:=0
abbrev tw8214960810089817869:=0
abbrev tw8226677683617113411:=0
abbrev tw8755378259057794144:=0
abbrev tw9008537175328285637:=0
abbrev tw9160342786307977932:=0
abbrev tw9209016544704228495:=0
abbrev tw9309478477919560624:=0
abbrev tw9899624388731906487:=0
abbrev tw9955057308792449147:=0
abbrev tw10264352306811215390:=0
abbrev tw10302237626248242356:=0
abbrev tw10305157232471962007:=0
abbrev tw10362332286682733856:=0
abbrev tw10367905497162445675:=0
abbrev tw10389763257640743278:=0
abbrev tw10459221590319660825:=0
abbrev tw10523189356754132084:=0
abbrev tw10528510247443226182:=0
abbrev tw1057462011081550858:=0
abbrev tw10580477959651739972:=0
abbrev tw10627859279874883326:=0
abbrev tw1062955388842875148:=0
abbrev tw10703730544384837759:=0
abbrev tw10798587446996598554:=0
abbrev tw10812138444567837546:=0
abbrev tw11075199329840792715:=0
abbrev tw11108052132296755848:=0
abbrev tw11132067706988569827:=0
abbrev tw11308650453207586650:=0
abbrev tw11314830704123199043:=0
abbrev tw11325316165348799335:=0
abbrev tw11328155078007141751:=0
abbrev tw11331085574496775218:=0
abbrev tw11419587467889748994:=0
abbrev tw11469826786414558824:=0
abbrev tw11473834535995551022:=0
abbrev tw11529524256956834233:=0
abbrev tw11653341209966089512:=0
abbrev tw1167632402719798850:=0
abbrev tw11734541780689139573:=0
abbrev tw11735348365129144945:=0
abbrev tw11752117418919242031:=0
abbrev tw11805898294826945326:=0
abbrev tw11818410319988756502:=0
abbrev tw11853605665663730758:=0
abbrev tw11899863876065675484:=0
abbrev tw12138220760396282253:=0
abbrev tw12194361886348750013:=0
abbrev tw12196056674594158343:=0
abbrev tw12262685108818369144:=0
abbrev tw12426771824705689492:=0
abbrev tw12531183156962245771:=0
abbrev tw12586571106527459971:=0
abbrev tw12590160137049621117:=0
abbrev tw12750783979792047346:=0
abbrev tw13112583681952028340:=0
abbrev tw13399269286800674771:=0
abbrev tw13414363712522040429:=0
abbrev tw13866705706952825397:=0
abbrev tw13904252697862474585:=0
abbrev tw14008598474004407788:=0
abbrev tw14059983574011092077:=0
abbrev tw14090636356846909665:=0
abbrev tw1409467554035500298:=0
abbrev tw14107613112529945860:=0
abbrev tw14123939126257873411:=0
abbrev tw14157292878161547931:=0
abbrev tw14300277829658727090:=0
abbrev tw1438324970533508848:=0
abbrev tw14474670571522166643:=0
abbrev tw14514252763286254624:=0
abbrev tw14548110248346367125:=0
abbrev tw14632238263863212173:=0
abbrev tw14706244706203542480:=0
abbrev tw14752342693423269508:=0
abbrev tw14829852378435080478:=0
abbrev tw15073562968986221790:=0
abbrev tw1513589572632614285:=0
abbrev tw15227409293920157996:=0
abbrev tw15353319655699423334:=0
abbrev tw15371893010770645427:=0
abbrev tw15391000035597442997:=0
abbrev tw15455855938763486743:=0
abbrev tw15477383050212428394:=0
abbrev tw15646892176286894011:=0
abbrev tw15715132285179629537:=0
abbrev tw15813960587807302561:=0
abbrev tw15828497399436189810:=0
abbrev tw15947452522988048939:=0
abbrev tw1632472821942647571:=0
abbrev tw16458777665056693710:=0
abbrev tw16466498343784245021:=0
abbrev tw16633565980254964269:=0
abbrev tw16675386684223576327:=0
abbrev tw16739881331214156008:=0
abbrev tw16765665698805612920:=0
abbrev tw16890888913642939626:=0
abbrev tw16903172076802475480:=0
abbrev tw16941579300803118993:=0
abbrev tw1709117515189710954:=0
abbrev tw17136470507057316029:=0
abbrev tw1728577998426197808:=0
abbrev tw17379592679051730474:=0
abbrev tw17472467747995844012:=0
abbrev tw17476432826845577946:=0
abbrev tw17496434679388560496:=0
abbrev tw17580129377914698138:=0
abbrev tw17770554157627728845:=0
abbrev tw17833742794012678948:=0
abbrev tw18050633224136864630:=0
abbrev tw18152010993303980395:=0
abbrev tw18262238635858606748:=0
abbrev tw18343396197163939867:=0
abbrev tw18365726367963146561:=0
abbrev tw18373559991153131567:=0
abbrev tw18374257344612555365:=0
abbrev tw18426821331631766453:=0
abbrev tw2053258711264588620:=0
abbrev tw2073647390085171423:=0
abbrev tw2085684379053187624:=0
abbrev tw2091757408070311200:=0
abbrev tw2131346150764455224:=0
abbrev tw215599256623391177:=0
abbrev tw218103927610425534:=0
abbrev tw2195847636772478945:=0
abbrev tw2332265160392201951:=0
abbrev tw2369667093072158256:=0
abbrev tw2375078557328186574:=0
abbrev tw2378307265526273618:=0
abbrev tw2477807956140398388:=0
abbrev tw2495605785616332092:=0
abbrev tw2595601903506497811:=0
abbrev tw2668275758507976926:=0
abbrev tw2841506013388325148:=0
abbrev tw2965468738153560526:=0
abbrev tw3064149805746921366:=0
abbrev tw3206741392206967970:=0
abbrev tw3364557591120077877:=0
abbrev tw3435259833559796124:=0
abbrev tw3480672297819279981:=0
abbrev tw355896488011401055:=0
abbrev tw3575325064588097887:=0
abbrev tw3593403636361836658:=0
abbrev tw3786653587205358088:=0
abbrev tw3824600199883808480:=0
abbrev tw3873069692104924012:=0
abbrev tw3890660526532177471:=0
abbrev tw3991711640146443095:=0
abbrev tw4026633517538786363:=0
abbrev tw4136209183353096647:=0
abbrev tw4243047781565485433:=0
abbrev tw4480085485541834315:=0
abbrev tw4861547233145513792:=0
abbrev tw511774701302881391:=0
abbrev tw5164329274932971934:=0
abbrev tw516802074262695892:=0
abbrev tw51766632671680647:=0
abbrev tw5362610633510264655:=0
abbrev tw5556702819097084215:=0
abbrev tw5584889842193728262:=0
abbrev tw5755059364015428551:=0
abbrev tw5778251616732514755:=0
abbrev tw5801763414076436124:=0
abbrev tw5874944326435318642:=0
abbrev tw6010827512955196592:=0
abbrev tw6063663423048686668:=0
abbrev tw6149058048674832128:=0
abbrev tw6271742412297103147:=0
abbrev tw6308657778049814758:=0
abbrev tw6355258296990420070:=0
abbrev tw6467303415186866773:=0
abbrev tw6514979644457806334:=0
abbrev tw6540144573135846113:=0
abbrev tw6605275744029908078:=0
abbrev tw6649516875950691962:=0
abbrev tw6666077395631121105:=0
abbrev tw6734617179117927114:=0
abbrev tw6737153242470620646:=0
abbrev tw6796693585532526520:=0
abbrev tw6855099010149096583:=0
abbrev tw7004389272228524539:=0
abbrev tw718921367721297238:=0
abbrev tw7196645834704896138:=0
abbrev tw771706661248269083:=0
abbrev tw794460527696772443:=0
abbrev tw7973712554337780985:=0
abbrev tw8018908683085897654:=0
abbrev tw8107762864069452080:=0
abbrev tw8164458948560955710:=0
abbrev tw8203190334848772139:=0
abbrev tw8225018723119537617:=0
abbrev tw8330058032171344921:=0
abbrev tw8426772090280083645:=0
abbrev tw8470812124628378242:=0
abbrev tw853544724441886629:=0
abbrev tw8547183017792060660:=0
abbrev tw8648012200901665048:=0
abbrev tw8756854202011146118:=0
abbrev tw8819515294777041283:=0
abbrev tw8835537819778861731:=0
abbrev tw8989335105416989657:=0
abbrev tw913190641174279641:=0
abbrev tw9150626408789783001:=0
abbrev tw9163334657942527681:=0
abbrev tw921605328173234771:=0
abbrev tw9246055355648164394:=0
abbrev tw9283254591503738758:=0
abbrev tw9335024511069719200:=0
abbrev tw9412621605651101766:=0
abbrev tw9633683183789083749:=0
abbrev tw9736236614297022899:=0
abbrev tw9755946639973705542:=0
abbrev tw9834742533887881147:=0
abbrev tw9854462532547964300:=0
abbrev tw9970387486210682926:=0
abbrev tw9981680876825941530:=0
abbrev tw9996072436158816126:=0
end PySem.W.Fast
end
open PySem PySem.W PyProof.Rows L2
local macro_rules|`(tactic|x_fa $a $b $c)=>`(tactic|(dsimp only [L2.KOf];refine' dQ $a $b (fun _ _ _ _ _ _=>$c (by intros;rfl)) ?a ?l ?c ?k;(case a=>k_is);(case l=>k_is);(case c=>k_is);(case k=>k_is)))
set_option maxRecDepth 100000 in
set_option maxHeartbeats 0 in
theorem PySem.Challenge.cw_shearfloor_k65_whole_kinds_by_the_group_holds : PySem.Challenge.rw_shearfloor_k65_whole_kinds_by_the_group.Holds := by
 w_on;o_law;k_head;(case hw=>w_witness2)
 k_fill
 refine L2.Xe (l:=PySem.Challenge.rw_shearfloor_k65_whole_kinds_by_the_group) (n:=63) (k:=10) (x:="_law_script") (CX:=aZ) (sp:=L4.ze) rfl (by decide) rfl ⟨rfl,by decide,by decide,rfl⟩ (fun w h Y=>PySem.W.kIn_of Y) ?F ?S ?C
 case F =>
  intro w mg fa h KX G hmg;have T:My.Txt mg:=by
   refine' ⟨uy KX G ?z0,uy KX G ?z1,uy KX G ?z2,uy KX G ?z3,uy KX G ?z4,uy KX G ?z5,uy KX G ?z6,uy KX G ?z7,uy KX G ?z8,uy KX G ?z9,uy KX G ?z10,uy KX G ?z11,uy KX G ?z12⟩
   (case z0=>k_is);(case z1=>k_is);(case z2=>k_is);(case z3=>k_is);(case z4=>k_is);(case z5=>k_is);(case z6=>k_is);(case z7=>k_is);(case z8=>k_is);(case z9=>k_is);(case z10=>k_is);(case z11=>k_is);(case z12=>k_is)
  have fA:∃v,L4.rE (L2.KOf KX) mg "QUARTER_charts" v (.tup [(.str "t"),(.int 1)]):=by
   dsimp only [L2.KOf];refine' L4.Lw (vs:=[V.str "t",V.int 1]) KX G ?a ?l ?o ?z ?v ?d
   (case a=>k_is);(case l=>k_is);(case o=>rfl);(case z=>decide);(case v=>exact (.cons ⟨_,rfl⟩ (.cons ⟨_,rfl⟩ .nil)));(case d=>exact fun ρ H=>(.cons (.str _) (.cons (.int _) .nil)))
  obtain ⟨_,fA⟩:=fA;have gH:∃v,L4.rE (L2.KOf KX) mg "QUARTER_words" v (.tup [(.int 0),(.int (-1)),(.int 1),(.int 0)]):=by
   dsimp only [L2.KOf];refine' L4.Lw (vs:=[V.int 0,V.int (-1),V.int 1,V.int 0]) KX G ?a ?l ?o ?z ?v ?d
   (case a=>k_is);(case l=>k_is);(case o=>rfl);(case z=>decide);(case v=>exact (.cons ⟨_,rfl⟩ (.cons ⟨_,rfl⟩ (.cons ⟨_,rfl⟩ (.cons ⟨_,rfl⟩ .nil)))));(case d=>exact fun ρ H=>(.cons (.int _) (.cons (.int _) (.cons (.int _) (.cons (.int _) .nil)))))
  obtain ⟨_,gH⟩:=gH;have qZ:∃v,L4.rE (L2.KOf KX) mg "SHEAR" v (.tup [(.str "s"),(.int 1)]):=by
   dsimp only [L2.KOf];refine' L4.Lw (vs:=[V.str "s",V.int 1]) KX G ?a ?l ?o ?z ?v ?d
   (case a=>k_is);(case l=>k_is);(case o=>rfl);(case z=>decide);(case v=>exact (.cons ⟨_,rfl⟩ (.cons ⟨_,rfl⟩ .nil)));(case d=>exact fun ρ H=>(.cons (.str _) (.cons (.int _) .nil)))
  obtain ⟨_,qZ⟩:=qZ;have oP:∃v,L4.rE (L2.KOf KX) mg "UNMOVED" v (.tup [(.int 1),(.int 0),(.int 0),(.int 1)]):=by
   dsimp only [L2.KOf];refine' L4.Lw (vs:=[V.int 1,V.int 0,V.int 0,V.int 1]) KX G ?a ?l ?o ?z ?v ?d
   (case a=>k_is);(case l=>k_is);(case o=>rfl);(case z=>decide);(case v=>exact (.cons ⟨_,rfl⟩ (.cons ⟨_,rfl⟩ (.cons ⟨_,rfl⟩ (.cons ⟨_,rfl⟩ .nil)))));(case d=>exact fun ρ H=>(.cons (.int _) (.cons (.int _) (.cons (.int _) (.cons (.int _) .nil)))))
  obtain ⟨_,oP⟩:=oP;obtain⟨_,_,lZ⟩:∃f fd,My.D10 (L2.KOf KX) mg f fd:=by x_fa KX G My.nI
  obtain⟨_,_,l6⟩:∃f fd,My.D11 (L2.KOf KX) mg f fd:=by x_fa KX G My.nI
  obtain⟨_,_,iT⟩:∃f fd,My.D12 (L2.KOf KX) mg f fd:=by x_fa KX G My.nI
  obtain⟨_,_,nL⟩:∃f fd,My.D13 (L2.KOf KX) mg f fd:=by x_fa KX G My.oZ
  obtain⟨_,_,kY⟩:∃f fd,My.D14 (L2.KOf KX) mg f fd:=by x_fa KX G My.nI
  obtain⟨_,_,gI⟩:∃f fd,My.D15 (L2.KOf KX) mg f fd:=by x_fa KX G My.nI
  obtain⟨_,_,l8⟩:∃f fd,My.D16 (L2.KOf KX) mg f fd:=by x_fa KX G My.oZ
  obtain⟨_,_,jT⟩:∃f fd,My.D17 (L2.KOf KX) mg f fd:=by x_fa KX G My.Pm
  obtain⟨_,_,iU⟩:∃f fd,My.D18 (L2.KOf KX) mg f fd:=by x_fa KX G My.nI
  obtain⟨_,_,kZ⟩:∃f fd,My.D19 (L2.KOf KX) mg f fd:=by x_fa KX G My.oZ
  obtain⟨_,_,lb⟩:∃f fd,My.D20 (L2.KOf KX) mg f fd:=by x_fa KX G My.nI
  obtain⟨_,_,nM⟩:∃f fd,My.D21 (L2.KOf KX) mg f fd:=by x_fa KX G My.nI
  obtain⟨_,_,jU⟩:∃f fd,My.D22 (L2.KOf KX) mg f fd:=by x_fa KX G My.oZ
  obtain⟨_,_,nO⟩:∃f fd,My.D23 (L2.KOf KX) mg f fd:=by x_fa KX G My.nI
  obtain⟨_,_,jV⟩:∃f fd,My.D24 (L2.KOf KX) mg f fd:=by x_fa KX G My.nI
  obtain⟨_,_,iW⟩:∃f fd,My.D25 (L2.KOf KX) mg f fd:=by x_fa KX G My.nI
  obtain⟨_,_,fB⟩:∃f fd,My.D26 (L2.KOf KX) mg f fd:=by x_fa KX G My.nI
  obtain⟨_,_,gJ⟩:∃f fd,My.D27 (L2.KOf KX) mg f fd:=by x_fa KX G My.nI
  obtain⟨_,_,oQ⟩:∃f fd,My.D28 (L2.KOf KX) mg f fd:=by x_fa KX G My.oZ
  obtain⟨_,_,l9⟩:∃f fd,My.D29 (L2.KOf KX) mg f fd:=by x_fa KX G My.nI
  obtain⟨_,_,nP⟩:∃f fd,My.D30 (L2.KOf KX) mg f fd:=by x_fa KX G My.oZ
  obtain⟨_,_,q5⟩:∃f fd,My.D31 (L2.KOf KX) mg f fd:=by x_fa KX G My.nI
  obtain⟨_,_,oR⟩:∃f fd,My.D32 (L2.KOf KX) mg f fd:=by x_fa KX G My.nI
  obtain⟨_,_,ma⟩:∃f fd,My.D33 (L2.KOf KX) mg f fd:=by x_fa KX G My.oZ
  obtain⟨_,_,jW⟩:∃f fd,My.D34 (L2.KOf KX) mg f fd:=by x_fa KX G My.nI
  obtain⟨_,_,p7⟩:∃f fd,My.D35 (L2.KOf KX) mg f fd:=by x_fa KX G My.nI
  obtain⟨_,_,p8⟩:∃f fd,My.D36 (L2.KOf KX) mg f fd:=by x_fa KX G My.nI
  obtain⟨_,_,lg⟩:∃f fd,My.D37 (L2.KOf KX) mg f fd:=by x_fa KX G My.oZ
  obtain⟨_,_,iX⟩:∃f fd,My.D38 (L2.KOf KX) mg f fd:=by x_fa KX G My.nI
  obtain⟨_,_,lh⟩:∃f fd,My.D39 (L2.KOf KX) mg f fd:=by x_fa KX G My.lm4
  have nQ:∃f fd,vA (L2.KOf KX) mg "chart_of" My.Im ["floor","most"] [V.int 60] f fd:=by
   dsimp only [L2.KOf];refine' X9 (d:=1) KX G (by decide) (fun _ _ _ _ _ _ _ us ds hl hd=>match us,ds,hl,hd with|[_],[_],_,_=>⟨_,rfl,rfl⟩) (fun _ _ _ _ _ _ _ us ds hl hd=>match us,ds,hl,hd with|[_,_],[_],_,_=>⟨_,rfl,rfl⟩) ?a ?l ?lT ?e ?v ?c ?k
   (case a=>k_is);(case l=>k_is);(case lT=>k_is);(case e=>rfl);(case v=>exact .cons ⟨_,rfl⟩ (.nil));(case c=>k_is);(case k=>k_is)
  obtain ⟨_,_,nQ⟩:=nQ;obtain⟨_,_,iY⟩:∃f fd,My.D40 (L2.KOf KX) mg f fd:=by x_fa KX G My.oZ
  obtain⟨_,_,fD⟩:∃f fd,My.D41 (L2.KOf KX) mg f fd:=by x_fa KX G My.oZ
  obtain⟨_,_,nR⟩:∃f fd,My.D42 (L2.KOf KX) mg f fd:=by x_fa KX G My.oZ
  obtain⟨_,_,lj⟩:∃f fd,My.D43 (L2.KOf KX) mg f fd:=by x_fa KX G My.nI
  obtain⟨_,_,lp⟩:∃f fd,My.D44 (L2.KOf KX) mg f fd:=by x_fa KX G My.oZ
  obtain⟨_,_,iZ⟩:∃f fd,My.D45 (L2.KOf KX) mg f fd:=by x_fa KX G My.oZ
  obtain⟨_,_,jX⟩:∃f fd,My.D46 (L2.KOf KX) mg f fd:=by x_fa KX G My.nI
  obtain⟨_,_,lq⟩:∃f fd,My.D47 (L2.KOf KX) mg f fd:=by x_fa KX G My.oZ
  obtain⟨_,_,md⟩:∃f fd,My.D48 (L2.KOf KX) mg f fd:=by x_fa KX G My.nI
  obtain⟨_,_,p9⟩:∃f fd,My.D49 (L2.KOf KX) mg f fd:=by x_fa KX G My.nI
  obtain⟨_,_,nS⟩:∃f fd,My.D50 (L2.KOf KX) mg f fd:=by x_fa KX G My.nI
  obtain⟨_,_,qa⟩:∃f fd,My.D51 (L2.KOf KX) mg f fd:=by x_fa KX G My.oZ
  obtain⟨_,_,rf⟩:∃f fd,My.D52 (L2.KOf KX) mg f fd:=by x_fa KX G My.nI
  obtain⟨_,_,lr⟩:∃f fd,My.D53 (L2.KOf KX) mg f fd:=by x_fa KX G My.oZ
  obtain⟨_,_,nT⟩:∃f fd,My.D54 (L2.KOf KX) mg f fd:=by x_fa KX G My.oZ
  obtain⟨_,_,oS⟩:∃f fd,My.D55 (L2.KOf KX) mg f fd:=by x_fa KX G My.nI
  obtain⟨_,_,jY⟩:∃f fd,My.D56 (L2.KOf KX) mg f fd:=by x_fa KX G My.oZ
  obtain⟨_,_,nU⟩:∃f fd,My.D57 (L2.KOf KX) mg f fd:=by x_fa KX G My.oZ
  obtain⟨_,_,lu⟩:∃f fd,My.D58 (L2.KOf KX) mg f fd:=by x_fa KX G My.oZ
  obtain⟨_,_,mf⟩:∃f fd,My.D59 (L2.KOf KX) mg f fd:=by x_fa KX G My.oZ
  obtain⟨_,_,mh⟩:∃f fd,My.D60 (L2.KOf KX) mg f fd:=by x_fa KX G My.oZ
  obtain⟨_,_,oT⟩:∃f fd,My.D61 (L2.KOf KX) mg f fd:=by x_fa KX G My.oZ
  obtain⟨_,_,jZ⟩:∃f fd,My.D62 (L2.KOf KX) mg f fd:=by x_fa KX G My.oZ
  obtain⟨_,_,mj⟩:∃f fd,My.D63 (L2.KOf KX) mg f fd:=by x_fa KX G My.nI
  obtain⟨_,_,oU⟩:∃f fd,My.D64 (L2.KOf KX) mg f fd:=by x_fa KX G My.nI
  obtain⟨_,_,i6⟩:∃f fd,My.D65 (L2.KOf KX) mg f fd:=by x_fa KX G My.nI
  obtain⟨_,_,j4⟩:∃f fd,My.D66 (L2.KOf KX) mg f fd:=by x_fa KX G My.nI
  obtain⟨_,_,eX⟩:∃f fd,My.D67 (L2.KOf KX) mg f fd:=by x_fa KX G My.lm5
  obtain⟨_,_,de⟩:∃f fd,My.D68 (L2.KOf KX) mg f fd:=by x_fa KX G My.Pm
  obtain⟨_,_,qb⟩:∃f fd,My.D69 (L2.KOf KX) mg f fd:=by x_fa KX G My.oZ
  obtain⟨_,_,lx⟩:∃f fd,My.D70 (L2.KOf KX) mg f fd:=by x_fa KX G My.Pm
  obtain⟨_,_,rX⟩:∃f fd,My.D71 (L2.KOf KX) mg f fd:=by x_fa KX G My.oZ
  have e0:=hmg.symm.trans rX.m;cases e0;exact ⟨_,rX.xq,fun base _ _=>L4.Bj (My.CP T fA gH qZ oP lZ l6 iT nL kY gI l8 jT iU kZ lb nM jU nO jV iW fB gJ oQ l9 nP q5 oR ma jW p7 p8 lg iX lh nQ iY fD nR lj lp iZ jX lq md p9 nS qa rf lr nT oS jY nU lu mf mh oT jZ mj oU i6 j4 eX de qb lx rX) fun ns hn=>let ⟨_,st,e,h⟩:=My.wB ns hn;⟨st,h ▸ e⟩⟩
 case S=>exact fun K H a ns hl hO hS=>⟨a,ns,rfl,hS.script hO,hl,fun _=>rfl⟩
 case C=>exact fun _ _ _ _ z=>z
