import PyProof.Rows.All
import Wide.All
import OpenK.AllK
import Wide.FinOn
import Lean
import PyProof.EqAt
import PyProof.EqKinds
import PyProof.TupleCall
import PyProof.DictIter
import PyProof.EnumMake
import KE.KSortTup
import KE.KDictLaws
import KE.KDictSum
import PyProof.StrLawsTight
import KE.KIntText
import PyProof.MinMaxWalk
import PyProof.WalkInts
import KE.KIsAll
import PyProof.ExcInit
import PyProof.NsDelKeeps
import PyProof.ExcBaseAll.ValueError
import OpenK.KOwn
import PyProof.ExcAttrAll.ValueError
import PyProof.InstStoreFacts
import PyProof.NoPylong
import PySem.Challenge.RW_shearfloor_k35_bands_along_slopes
set_option Elab.async false
set_option linter.all false
set_option maxRecDepth 100000
set_option maxHeartbeats 4000000
set_option genSizeOf false
noncomputable section
section
local macro_rules|`(command|def $n:declId $s:optDeclSig $v:declVal)=>`(theorem $n:declId $(⟨Lean.mkNode ``Lean.Parser.Command.declSig #[s.raw[0],s.raw[1][0]]⟩):declSig $v:declVal)
local macro_rules|`(command|abbrev $n:declId $s:optDeclSig $v:declVal)=>`(noncomputable def $n:declId $s:optDeclSig $v:declVal)
local macro_rules|`(⋯)=>`(by first|lia|omega)
local macro_rules|`(∅)=>`(by decide)
local macro_rules|`(tactic|lk)=>`(tactic|first|lia|omega)
abbrev Z7:=@List.length_map
abbrev Z8:=@List.getElem?_eq_getElem
abbrev Z9:=@List.getElem?_eq_some_iff
abbrev Zaa:=@Nat.le_refl
abbrev Zab:=@List.mem_of_getElem?
abbrev Zac:=@List.mem_cons_self
abbrev Zad:=@List.getD_eq_getElem?_getD
abbrev Zae:=@List.getElem?_map
abbrev Zaf:=@List.length_append
abbrev Zag:=@List.mem_map
abbrev Zah:=@List.mem_cons_of_mem
abbrev Zai:=@PySem.Heap.get?_push_of_some
abbrev Zaj:=@Bool.false_ne_true
abbrev Zak:=@List.size_toArray
abbrev Zal:=@List.getElem?_set_self
abbrev Zam:=@Option.some.inj
abbrev Zan:=@List.getElem?_append_left
abbrev Zao:=@Int.toNat_natCast
abbrev Zap:=@Nat.le_trans
abbrev Zaq:=@List.map_cons
abbrev Zar:=@PySem.Heap.get?_push_size
abbrev Zas:=@List.mem_singleton
abbrev Zat:=@List.map_map
abbrev Zau:=@List.map_append
abbrev Zav:=@PySem.Heap.lt_size
abbrev Zaw:=@List.mem_filter
abbrev Zax:=@List.mem_cons
abbrev Zay:=@List.mem_append
abbrev Zaz:=@Option.map_eq_some_iff
abbrev ZaA:=@List.getElem?_set_ne
abbrev ZaB:=@Bool.and_eq_true
abbrev ZaC:=@List.getD_cons_succ
abbrev ZaD:=@List.getD_cons_zero
abbrev ZaE:=@List.getElem?_append_right
abbrev ZaF:=@Int.mul_assoc
abbrev ZaG:=@List.length_cons
abbrev ZaH:=@List.map_nil
abbrev ZaI:=@Int.toNat_of_nonneg
abbrev ZaJ:=@List.take_succ_eq_append_getElem
abbrev ZaK:=@List.getElem?_eq_none_iff
abbrev ZaL:=@List.getElem_mem
abbrev ZaM:=@Nat.zero_le
abbrev ZaN:=@List.mem_append_right
abbrev ZaO:=@List.length_singleton
abbrev ZaP:=@List.contains_iff_mem
abbrev ZaQ:=@Nat.lt_of_lt_of_le
abbrev ZaR:=@Int.neg_mul
abbrev ZaS:=@Int.mul_comm
abbrev ZaT:=@Bool.false_eq_true
abbrev ZaU:=@Nat.ne_of_lt
abbrev ZaV:=@List.mem_range
abbrev ZaW:=@Nat.lt_of_le_of_lt
abbrev ZaX:=@List.map_congr_left
abbrev ZaY:=@PySem.Heap.get?_update_other
abbrev ZaZ:=@Nat.not_lt_zero
abbrev Za0:=@List.length_take
abbrev Za1:=@Array.length_toList
abbrev Za2:=@Array.getElem?_toList
abbrev Za3:=@List.getElem?_eq_none
abbrev Za4:=@Bool.eq_iff_iff
abbrev Za5:=@List.find?_cons
abbrev Za6:=@List.take_length
abbrev Za7:=@List.replicate_succ
abbrev Za8:=@List.getElem_of_mem
abbrev Za9:=@List.length_reverse
abbrev Zba:=@List.pairwise_map
abbrev Zbb:=@List.nodup_cons
abbrev Zbc:=@Array.getD_eq_getD_getElem?
abbrev Zbd:=@PySem.Heap.SameBut.update
abbrev Zbe:=@List.length_set
abbrev Zbf:=@Int.emod_nonneg
abbrev Zbg:=@PySem.Heap.get?_update_self
abbrev Zbh:=@List.Pairwise.imp_of_mem
abbrev Zbi:=@List.all_eq_true
abbrev Zbj:=@List.any_cons
abbrev Zbk:=@List.getElem?_of_mem
abbrev Zbl:=@List.flatten_cons
abbrev Zbm:=@List.perm_ext_iff_of_nodup
abbrev Zbn:=@List.mem_flatten
abbrev Zbo:=@List.Perm.refl
abbrev Zbp:=@List.length_filter_le
abbrev Zbq:=@Int.natAbs_mul
abbrev Zbr:=@Int.emod_lt_of_pos
abbrev Zbs:=@List.exists_mem_of_ne_nil
abbrev Zbt:=@Nat.le_of_lt
abbrev Zbu:=@List.append_nil
abbrev Zbv:=@List.append_assoc
abbrev Zbw:=@List.foldl_append
abbrev Zbx:=@List.eq_nil_of_length_eq_zero
abbrev Zby:=@Option.bind_eq_some_iff
abbrev Zbz:=@List.getElem?_range
abbrev ZbA:=@List.lookup_cons
abbrev ZbB:=@Nat.lt_succ_self
abbrev ZbC:=@Nat.mul_le_mul
abbrev ZbD:=@Option.bind_some
abbrev ZbE:=@List.nodup_append
abbrev ZbF:=@List.mem_append_left
abbrev ZbG:=@List.drop_eq_getElem_cons
abbrev ZbH:=@List.pairwise_iff_getElem
abbrev ZbI:=@Nat.pow_le_pow_right
abbrev ZbJ:=@Nat.mul_le_mul_right
abbrev ZbK:=@Int.mul_add
abbrev ZbL:=@PySem.Heap.size_push
abbrev ZbM:=@Option.isSome_iff_exists
abbrev ZbN:=@Nat.succ_mul
abbrev ZbO:=@List.getElem?_replicate
abbrev ZbP:=@Nat.lt_irrefl
abbrev ZbQ:=@List.pairwise_cons
abbrev ZbR:=@Bool.or_eq_true
abbrev ZbS:=@Int.sub_mul
abbrev ZbT:=@List.ext_getElem?
abbrev ZbU:=@Bool.not_eq_true'
abbrev ZbV:=@List.length_replicate
abbrev ZbW:=@Nat.mul_comm
abbrev ZbX:=@List.getElem_inj
abbrev ZbY:=@Nat.le_of_not_lt
abbrev ZbZ:=@List.perm_cons_erase
abbrev Zb0:=@List.mem_erase_of_ne
abbrev Zb1:=@List.getElem_map
abbrev Zb2:=@List.prefix_refl
abbrev Zb3:=@Int.mul_one
abbrev Zb4:=@Nat.le_succ
abbrev Zb5:=@Nat.mul_one
abbrev Zb6:=@List.length_pos_iff
abbrev Zb7:=@List.filter_sublist
abbrev Zb8:=@Nat.zero_add
abbrev Zb9:=@Int.zero_add
abbrev Zca:=@List.filter_append
abbrev Zcb:=@Int.mul_nonneg
abbrev Zcc:=@Nat.le_mul_of_pos_right
abbrev Zcd:=@List.drop_of_length_le
abbrev Zce:=@List.pairwise_lt_range
abbrev Zcf:=@List.map_id
abbrev Zcg:=@Int.one_mul
abbrev Zch:=@List.length_pos_of_mem
abbrev Zci:=@Int.mul_sub
abbrev Zcj:=@List.filter_cons
abbrev Zck:=@List.mem_reverse
abbrev Zcl:=@List.Pairwise.sublist
abbrev Zcm:=@List.pairwise_flatten
abbrev Zcn:=@Int.natAbs_dvd_natAbs
abbrev Zco:=@Nat.le_of_ble_eq_true
abbrev Zcp:=@Nat.sub_self
abbrev Zcq:=@List.filterMap_cons
abbrev Zcr:=@Nat.mul_le_mul_left
abbrev Zcs:=@List.mem_map_of_mem
abbrev Zct:=@List.nodup_nil
abbrev Zcu:=@List.getElem_range
abbrev Zcw:=@List.prefix_append
abbrev Zcz:=@Nat.mul_assoc
abbrev ZcA:=@Bool.xor_self
@[reducible]def Zfr:=PySem.W.Frag
namespace L2
open PySem PySem.Spec PyProof.Rows
@[reducible]def Key:=Sum Int Str
abbrev oX:Key->Value->Bool
 |.inl k,v=>Value.isInt k v
 |.inr x,v=>Value.isStrOf x v
abbrev JP(w:World):Key->Int
 |.inl k=>hashInt k
 |.inr x=>hashStr w x
def vd:∀{k:Key} {v:Value},oX k v=true->(∃i t,k=Sum.inl i/\v=Value.int i t)\/(∃x t,k=Sum.inr x/\v=Value.str x t)
 |.inl i,v,h=>by
  obtain⟨t,e⟩:=Value.isInt_shape (k:=i) (v:=v) h;exact .inl ⟨i,t,rfl,e⟩
 |.inr x,v,h=>by
  obtain⟨t,e⟩:=Value.isStrOf_shape (x:=x) (v:=v) h;exact .inr ⟨x,t,rfl,e⟩
def RP(i:Int)(t:Tok):oX (.inl i) (.int i t)=true:=by simp[oX,Value.isInt]
def RQ(x:Str)(t:Tok):oX (.inr x) (.str x t)=true:=by simp[oX,Value.isStrOf]
def xY(a b:Int):decide ((Sum.inl a:Key)=Sum.inl b)=(a == b):=by by_cases e:a=b;subst e;simp;have h:¬(Sum.inl a:Key)=Sum.inl b:=λq=>e (Sum.inl.inj q);rw[decide_eq_false h];exact(beq_eq_false_iff_ne.mpr e).symm
def xZ(a b:Str):decide ((Sum.inr a:Key)=Sum.inr b)=decide (a=b):=by by_cases e:a=b;subst e;simp;have h:¬(Sum.inr a:Key)=Sum.inr b:=λq=>e (Sum.inr.inj q);rw[decide_eq_false h,decide_eq_false e]
def x3(a:Int)(b:Str):decide ((Sum.inl a:Key)=Sum.inr b)=false:=decide_eq_false (λq=>nomatch q)
def x4(a:Str)(b:Int):decide ((Sum.inr a:Key)=Sum.inl b)=false:=decide_eq_false (λq=>nomatch q)
abbrev cL(prog:Program)(w:World):PySem.KeyKind prog w Key where
 is:=oX
 hash:=JP w
 inj:=λv a b ha hb=>by
  rcases vd ha with⟨i,t,rfl,rfl⟩|⟨x,t,rfl,rfl⟩
  rcases vd hb with⟨j,u,rfl,e⟩|⟨y,u,rfl,e⟩
  injection e with e1 _;rw[e1];exact nomatch e;rcases vd hb with⟨j,u,rfl,e⟩|⟨y,u,rfl,e⟩
  exact nomatch e;injection e with e1 _;rw[e1]
 byValue:=λk v h=>by
  rcases vd h with⟨i,t,rfl,rfl⟩|⟨x,t,rfl,rfl⟩<;>rfl
 pyHash:=λhv h=>by
  rcases vd hv with⟨i,t,rfl,rfl⟩|⟨x,t,rfl,rfl⟩
  exact wpAny_pyHash_int h;exact wpAny_pyHash_str h
 eqBool:=λhu hv h=>by
  rcases vd hu with⟨i,t,rfl,rfl⟩|⟨x,t,rfl,rfl⟩
  rcases vd hv with⟨j,u,rfl,rfl⟩|⟨y,u,rfl,rfl⟩
  rw[xY]at h;exact wpAny_eqBool_int h;rw[x3]at h;exact SeqAt.EqAt.int_str i t y u _ _ _ _ h;rcases vd hv with⟨j,u,rfl,rfl⟩|⟨y,u,rfl,rfl⟩
  rw[x4]at h;exact SeqAt.EqAt.str_int x t j u _ _ _ _ h;rw[xZ]at h;exact wpAny_eqBool_str h
 «strs»:=λk x t v h=>by
  rcases vd h with⟨i,u,rfl,e⟩|⟨y,u,rfl,e⟩
  exact nomatch e;injection e with e1 _;subst e1;cases v<;>rfl
def RS(prog:Program)(w:World)(i:Int)(t:Tok):(cL prog w).is (.inl i) (.int i t)=true:=RP i t
def RT(prog:Program)(w:World)(x:Str)(t:Tok):(cL prog w).is (.inr x) (.str x t)=true:=RQ x t
inductive V where
 |non|bl (b:Bool)|int (i:Int)|str (x:Str)|tD (b:Array UInt8)|JQ (b:UInt64)|ref (a:Addr)|ty (n:String)
 deriving DecidableEq
abbrev RelV:V->Value->Prop
 |.non,u=>u=Value.none
 |.bl b,u=>u=Value.bool b
 |.int i,u=>∃t,u=Value.int i t
 |.str x,u=>∃t,u=Value.str x t
 |.tD b,u=>∃t,u=Value.bytes b t
 |.JQ b,u=>∃t,u=Value.float b t
 |.ref a,u=>u=Value.ref a
 |.ty n,u=>u=Value.type n
@[reducible]def Vals:List V->List Value->Prop:=Paired RelV
def Vals.length{xs:List V}{us:List Value}(r:Vals xs us):xs.length=us.length:=Paired.length r
def Vals.get:∀{xs:List V} {us:List Value} {i:Nat} {x:V},Vals xs us->xs[i]?=some x->∃u,us[i]?=some u/\RelV x u
 |_,_,_,_,.nil,e=>by simp at e
 |_,_,0,_,.cons r _,e=>by simp at e;subst e;exact⟨_,rfl,r⟩
 |_,_,i+1,x,.cons _ t,e=>by
  obtain⟨u,h1,h2⟩:=Vals.get (i:=i) (x:=x) t (by simpa using e);exact⟨u,by simpa using h1,h2⟩
def Vals.set{x:V}{u:Value}(r:RelV x u):∀{xs:List V} {us:List Value} (i:Nat),Vals xs us->Vals (xs.set i x) (us.set i u)
 |_,_,_,.nil=>.nil
 |_,_,0,.cons _ t=>.cons r t
 |_,_,i+1,.cons q t=>.cons q (Vals.set r i t)
def Vals.append:∀{xs ys:List V} {us ws:List Value},Vals xs us->Vals ys ws->Vals (xs ++ ys) (us ++ ws)
 |_,_,_,_,.nil,s=>s
 |_,_,_,_,.cons r t,s=>.cons r (Vals.append t s)
def Vals.take:∀{xs:List V} {us:List Value} (n:Nat),Vals xs us->Vals (xs.take n) (us.take n)
 |_,_,0,_=>.nil
 |_,_,_+1,.nil=>.nil
 |_,_,n+1,.cons r t=>.cons r (Vals.take n t)
def Vals.drop:∀{xs:List V} {us:List Value} (n:Nat),Vals xs us->Vals (xs.drop n) (us.drop n)
 |_,_,0,r=>r
 |_,_,_+1,.nil=>.nil
 |_,_,n+1,.cons _ t=>Vals.drop n t
abbrev sv:Option V->Option Value->Prop
 |some v,some u=>RelV v u
 |none,none=>True
 |_,_=>False
abbrev KV{κ:Type}:List (κ×V)->List (κ×Value)->Prop:=Paired λ(p:κ×V) (q:κ×Value)=>p.1=q.1/\RelV p.2 q.2
abbrev kV:Key->V
 |.inl i=>.int i
 |.inr x=>.str x
set_option genInjectivity false in
inductive HO where
 /-- a list -/
 |lst (xs:List V)
 /-- a tuple (never changes) -/
 |tup (xs:List V)
 /-- a dict whose keys are ints and texts;one whose keys are tuples of ints and texts (the empty one is both) -/
 |dK (kvs:List (Key×V))|dT (kvs:List (List Key×V))
 /-- a set of ints: its members,its size -/
 |set (S:Int->Bool) (n:Nat)
 /-- an instance of the class at C,its dict at dx,its attributes -/
 |ins (C dx:Addr) (fs:List (Str×V))
 /-- the dict of the instance at x -/
 |own (x:Addr)
 /-- the dict of an exception -/
 |xd (fs:List (Str×V))
 /-- a bound method,f of x -/
 |met (f x:Addr)
 /-- a range object lo,lo+1,.. below hi -/
 |ki (lo hi:Int)
 /-- a thing that is known to the object (the script;a dict while a loop walks it): read,never written while it is so -/
 |pf (o:Obj) (u:HO)
 /-- a code B4 table -/
 |x5 (ps:Array Value)
 /-- any other thing,by what is true of its one object (a def of MX own: RU a S n:=HO.ext λh=>..) -/
 |ext (φ:Heap->Prop)
@[reducible]def Hp:=Addr->Option HO
abbrev upd(H:Hp)(a:Addr)(o:HO):Hp:=λb=>if b=a then some o else H b
def rh{H:Hp}{a:Addr}{o:HO}:upd H a o a=some o:=by unfold upd;rw[if_pos rfl]
def jY{H:Hp}{a b:Addr}{o:HO}(h:b≠a):upd H a o b=H b:=by unfold upd;rw[if_neg h]
def JR{H:Hp}{a b:Addr}{o u:HO}(h:H a=some o)(h':H b=some u)(d:o≠u):a≠b:=by intro e;subst e;rw[h]at h';exact d (Zam h')
def A4{H:Hp}{a b:Addr}{o:HO}(h:H a=some o)(h':H b=none):a≠b:=by intro e;subst e;rw[h]at h';cases h'
abbrev pg(h:Heap)(a:Addr)(its:Array Value):Prop:=∃o,h.get? a=some o/\o.cls=.type "tuple" /\ o.dict=none/\∃n,o.data=.seq its n
def pg.tup{h:Heap}{a:Addr}{its:Array Value}(x:pg h a its):IsTup h a its:=let ⟨o,e,c,_,n,d⟩:=x;⟨o,e,c,n,d⟩
def pg.new(h:Heap)(its:Array Value):pg (h.push { cls:=.type "tuple",data:=.seq its }) h.objs.size its:=⟨_,Zar _ rfl,rfl,rfl,_,rfl⟩
section
variable (P:Program)(w:World)
abbrev cb(H:Hp)(h:Heap)(a:Addr):HO->Prop
 |.lst xs=>xs.length<=sizeLine/\∃(its:List Value) (n:Nat),Vals xs its/\h.get? a=some { cls:=.type "list",data:=.seq its.toArray n }
 |.tup xs=>xs.length<=sizeLine/\∃its:List Value,Vals xs its/\pg h a its.toArray
 |.dK kvs=>kvs.length<=sizeLine/\(a == sysModules)=false/\∃vs,KV kvs vs/\h.DictOf (cL P w) a vs
 | .dT kvs=>kvs.length<=sizeLine/\(a == sysModules)=false/\∃ xs:List (List Key×Addr×Value),
   Paired (λ(p:List Key×V) (q:List Key×Addr×Value)=>p.1=q.1/\H q.2.1=some (.tup (p.1.map kV))/\RelV p.2 q.2.2) kvs xs /\
   ∃o es ep,h.get? a=some o/\o.ExactDict/\o.data=.dict es ep/\es.toList=xs.map (entryOfKey (tupleKind (cL P w)))/\(xs.map (·.1)).Nodup
 |.set S n=>h.SetOf (intKind P w) a S n
 | .ins C dx fs=>H dx=some (.own a)/\fs.length<=1000/\dx≠a/\h.get? a=some (PySem.W.instObj C dx) /\
   ∃mA,h.Ns1 dx mA/\(∀f,sv (fs.lookup f) (mA f))/\PySem.Within mA (fs.map (·.1))
 |.own _=>∃o,h.get? a=some o
 |.xd fs=>∃mA,h.Ns1 a mA/\∀f,sv (fs.lookup f) (mA f)
 |.ki lo hi=>∃t u v,h.get? a=some { cls:=.type "range",data:=.fields #[.int lo t,.int hi u,.int 1 v] }
 |.pf o u=>h.get? a=some o/\cb H h a u
 |.x5 ps=>h.get? a=some { cls:=.none,data:=.fields ps }
 |.met f x=>h.get? a=some (PySem.W.methodObj (.ref f) (.ref x))
 |.ext φ=>φ h/\(∃o,h.get? a=some o)/\∀h1 h2:Heap,φ h1->(∀o,h1.get? a=some o->h2.get? a=some o)->φ h2
abbrev mq(H:Hp)(h:Heap):Prop:=∀a o,H a=some o->cb P w H h a o
end
section
variable {P:Program}{w:World}{H H':Hp}{h h':Heap}{a:Addr}{o:HO}
def cb.lt(x:cb P w H h a o):a<h.objs.size:=by
 cases o with
 |lst xs=>obtain⟨_,_,_,_,e⟩:=x;exact Zav e
 |tup xs=>obtain⟨_,_,_,_,e,_⟩:=x;exact Zav e
 |dK kvs=>obtain⟨_,_,_,_,o,_,_,e,_⟩:=x;exact Zav e
 |dT kvs=>obtain⟨_,_,_,_,o,_,_,e,_⟩:=x;exact Zav e
 |set S n=>obtain⟨o,_,_,_,e,_⟩:=x;exact Zav e
 |ins C dx fs=>obtain⟨_,_,_,e,_⟩:=x;exact Zav e
 |own y=>obtain⟨_,e⟩:=x;exact Zav e
 |xd fs=>obtain⟨_,⟨_,_,_,e,_⟩,_⟩:=x;exact Zav e
 |ki lo hi=>obtain⟨_,_,_,e⟩:=x;exact Zav e
 |pf ob u=>obtain⟨e,_⟩:=x;exact Zav e
 |x5 ps=>exact Zav (show h.get? a=some _ from x)
 |met f y=>exact Zav (show h.get? a=some _ from x)
 |ext φ=>obtain⟨_,⟨_,e⟩,_⟩:=x;exact Zav e
def Paired.x6{α β:Type}{F G:α->β->Prop}:∀{l₁:List α} {l₂:List β},Paired F l₁ l₂->(∀a b,F a b->G a b)->Paired G l₁ l₂
 |_,_,.nil,_=>.nil
 |_,_,.cons r t,f=>.cons (f _ _ r) (Paired.x6 t f)
def cb.stay(x:cb P w H h a o)(k:∀b u,(b=a\/H b=some (.own a))->h.get? b=some u->h'.get? b=some u)
  (ho:∀b,H b=some (.own a)->H' b=some (.own a)) (ht:∀b xs,H b=some (.tup xs)->H' b=some (.tup xs)):cb P w H' h' a o:=by
 induction o with
 |lst xs=>obtain⟨z,its,n,r,e⟩:=x;exact⟨z,its,n,r,k _ _ (.inl rfl) e⟩
 |tup xs=>obtain⟨z,its,r,ob,e,c⟩:=x;exact⟨z,its,r,ob,k _ _ (.inl rfl) e,c⟩
 |dK kvs=>obtain⟨z,y,vs,r,ob,es,ep,e,c⟩:=x;exact⟨z,y,vs,r,ob,es,ep,k _ _ (.inl rfl) e,c⟩
 |dT kvs =>
  obtain⟨z,y,xs,r,ob,es,ep,e,c⟩:=x;exact⟨z,y,xs,Paired.x6 r λp q z=>⟨z.1,ht _ _ z.2.1,z.2.2⟩,ob,es,ep,k _ _ (.inl rfl) e,c⟩
 |set S n=>obtain⟨ob,es,ep,t,e,c⟩:=x;exact⟨ob,es,ep,t,k _ _ (.inl rfl) e,c⟩
 |ins C dx fs =>
  obtain⟨d,z,ne,e,mA,⟨od,es,ep,e2,c⟩,r⟩:=x;exact⟨ho _ d,z,ne,k _ _ (.inl rfl) e,mA,⟨od,es,ep,k _ _ (.inr d) e2,c⟩,r⟩
 |own y=>obtain⟨ob,e⟩:=x;exact⟨ob,k _ _ (.inl rfl) e⟩
 |xd fs=>obtain⟨mA,⟨od,es,ep,e,c⟩,r⟩:=x;exact⟨mA,⟨od,es,ep,k _ _ (.inl rfl) e,c⟩,r⟩
 |ki lo hi=>obtain⟨t,u,v,e⟩:=x;exact⟨t,u,v,k _ _ (.inl rfl) e⟩
 |pf ob u ih=>obtain⟨e,q⟩:=x;exact⟨k _ _ (.inl rfl) e,ih q⟩
 |x5 ps =>
  have e:h.get? a=some { cls:=.none,data:=.fields ps }:=x;show h'.get? a=some { cls:=.none,data:=.fields ps };exact k a _ (.inl rfl) e
 |met f y =>
  have e:h.get? a=some (PySem.W.methodObj (.ref f) (.ref y)):=x;show h'.get? a=some (PySem.W.methodObj (.ref f) (.ref y));exact k a _ (.inl rfl) e
 |ext φ=>obtain⟨p,⟨o,e⟩,st⟩:=x;exact⟨st _ _ p λo q=>k _ _ (.inl rfl) q,⟨o,k _ _ (.inl rfl) e⟩,st⟩
def mq.lt(x:mq P w H h)(e:H a=some o):a<h.objs.size:=(x a o e).lt
def mq.fresh(x:mq P w H h)(e:h.objs.size<=a):H a=none:=by
 cases q:H a with
 |none=>rfl
 |some u=>exact absurd (ZaQ (x.lt q) e) (ZbP _)
def mq.kept(x:mq P w H h)(k:∀b u,h.get? b=some u->h'.get? b=some u):mq P w H h':=λa o e =>
 (x a o e).stay (λb u _ q=>k b u q) (λ_ q=>q) λ_ _ q=>q
def mq.laid(x:mq P w H h)(k:∀b u,h.get? b=some u->h'.get? b=some u)(hp:h.objs.size<=a)(new:cb P w (upd H a o) h' a o):mq P w (upd H a o) h':=λb u e=>by
 have hn:=x.fresh hp;by_cases hb:b=a;subst hb;rw[rh]at e;cases e;exact new;rw[jY hb]at e;exact(x b u e).stay (λc v _ q=>k c v q) (λc q=>by rw[jY (A4 q hn)];exact q) λc xs q=>by rw[jY (A4 q hn)];exact q
end
abbrev Rd(H:Hp)(a:Addr)(u:HO):Prop:=H a=some u\/∃o,H a=some (.pf o u)
def Rd.ok{P:Program}{w:World}{H:Hp}{h:Heap}{a:Addr}{u:HO}(r:Rd H a u)(x:mq P w H h):cb P w H h a u:=by
 rcases r with r|⟨o,r⟩
 exact x a u r;obtain⟨_,q⟩:=x a _ r;exact q
abbrev B5:Option HO->Prop
 |some (.lst _)=>True
 |some (.dK _)=>True
 |some (.dT _)=>True
 |some (.set _ _)=>True
 |some (.ins _ _ _)=>True
 |some (.ext _)=>True
 |_=>False
section
variable {P:Program}{w:World}{H:Hp}{h h':Heap}{x e:Addr}{o':HO}
def mq.write(ok:mq P w H h)(mu:B5 (H x))(he:e=x\/H e=some (.own x))(k:∀b u,b≠e->h.get? b=some u->h'.get? b=some u)(A5:∃u,h'.get? e=some u)
  (new:cb P w (upd H x o') h' x o'):mq P w (upd H x o') h':=λb u q=>by
 have B6:∀c y,H c=some (.own y)->c≠x:=λc y r z=>by subst z;rw[r]at mu;exact mu
 have JS:∀c xs,H c=some (.tup xs)->c≠x:=λc xs r z=>by subst z;rw[r]at mu;exact mu
 by_cases hb:b=x;subst hb;rw[rh]at q;cases q;exact new;rw[jY hb]at q;by_cases x8:b=e;have q':H b=some (.own x):=by
  rcases he with z|z
  exact absurd (x8.trans z) hb;rw[x8];exact z
 rw[q]at q';cases q';obtain⟨v,hv⟩:=A5;exact⟨v,by rw[x8];exact hv⟩;refine(ok b u q).stay (λc v hc r=>k c v ?_ r) (λc r=>by rw[jY (B6 c b r)];exact r) λc xs r=>by rw[jY (JS c xs r)];exact r
 rcases hc with rfl|hc
 exact x8;rintro rfl;rcases he with z|z
 exact B6 c b hc z;rw[hc]at z;cases z;exact hb rfl
end
structure Un(fs ex:List Addr)(H H':Hp)(h h':Heap):Prop where
 keep:∀b o,h.get? b=some o->H b=none->b ∉ fs->b ∉ ex->h'.get? b=some o
 slot:∀b o,h.get? b=some o->H b=none->b∈fs->b ∉ ex->∃sl,h'.get? b=some { o with slots:=sl }
 free:∀b o,h.get? b=some o->H b=none->b ∉ ex->H' b=none
 there:∀b o,h.get? b=some o->b ∉ ex->∃o',h'.get? b=some o'
 tups:∀b xs,H b=some (.tup xs)->H' b=some (.tup xs)
 ph:∀b o u,H b=some (.pf o u)->H' b=some (.pf o u)
 qc:∀b ps,H b=some (.x5 ps)->∃more,H' b=some (.x5 (ps ++ more))
section
variable {fs fs' ex ex':List Addr}{H H1 H2:Hp}{h h1 h2 h':Heap}{a x e:Addr}{o:HO}
def Un.any(u:Un fs ex H H1 h h1){b:Addr}{ob:Obj}(q:h.get? b=some ob)(n:H b=none)(hx:b ∉ ex):∃sl,h1.get? b=some { ob with slots:=sl }:=by by_cases hb:b∈fs;exact u.slot b ob q n hb hx;exact⟨ob.slots,u.keep b ob q n hb hx⟩
def Un.kept(k:∀b u,h.get? b=some u->h'.get? b=some u):Un fs ex H H h h' :=
 ⟨λb ob q _ _ _=>k b ob q,λb ob q _ _ _=>⟨ob.slots,k b ob q⟩,λ_ _ _ n _=>n,λb ob q _=>⟨ob,k b ob q⟩,λ_ _ q=>q,λ_ _ _ q=>q,λ_ ps q=>⟨#[],by rw[q];simp⟩⟩
def Un.refl:Un fs ex H H h h:=Un.kept λ_ _ q=>q
def Un.laid(k:∀b u,h.get? b=some u->h'.get? b=some u)(hp:h.objs.size<=a)(hn:H a=none):Un fs ex H (upd H a o) h h' where
 keep:=λb u q _ _ _=>k b u q
 slot:=λb u q _ _ _=>⟨u.slots,k b u q⟩
 free:=λb u q n _=>by rw[jY (ZaU (ZaQ (Zav q) hp))];exact n
 there:=λb u q _=>⟨u,k b u q⟩
 tups:=λb xs q=>by rw[jY (A4 q hn)];exact q
 ph:=λb u xs q=>by rw[jY (A4 q hn)];exact q
 qc:=λb ps q=>⟨#[],by rw[jY (A4 q hn),q];simp⟩
def Un.write(mu:B5 (H x))(he:e=x\/H e=some (.own x))(k:∀b u,b≠e->h.get? b=some u->h'.get? b=some u)(A5:∃u,h'.get? e=some u):Un fs ex H (upd H x o) h h':=by
 have hx:∀b,H b=none->b≠x:=λb n z=>by subst z;rw[n]at mu;exact mu
 have hb:∀b,H b=none->b≠e:=λb n z=>by
  subst z;rcases he with r|r
  exact hx b n r;rw[n]at r;cases r
 have hm:∀b u,H b=some u->¬B5 (some u)->b≠x:=λb u q nm z=>by subst z;rw[q]at mu;exact nm mu
 refine⟨λb u q n _ _=>k b u (hb b n) q,λb u q n _ _=>⟨u.slots,k b u (hb b n) q⟩,λb u q n _=>by rw[jY (hx b n)];exact n,λb u q _=>?_,
  λb xs q=>by rw[jY (hm b _ q λz=>z)];exact q,λb u xs q=>by rw[jY (hm b _ q λz=>z)];exact q,λb ps q=>⟨#[],by rw[jY (hm b _ q λz=>z),q];simp⟩⟩
 by_cases x8:b=e;subst x8;exact A5;exact⟨u,k b u x8 q⟩
end
abbrev GC(h:Heap)(H:Hp):List Addr:=(List.range h.objs.size).filter λa=>(H a).isSome
abbrev pj(h:Heap)(H:Hp):Heap:=PySem.W.hideAll h (GC h H)
def RV(h:Heap)(H:Hp):(pj h H).objs.size=h.objs.size:=PySem.W.hideAll_size _ _
def RW{h:Heap}{H:Hp}{b:Addr}{o:Obj}(e:h.get? b=some o)(n:H b=none):(pj h H).get? b=some o :=
 PySem.W.hideAll_get _ e λhm=>by
  have q:(H b).isSome=true:=(Zaw.mp hm).2;rw[n]at q;simp at q
def RX{h:Heap}{H:Hp}{b:Addr}{o:Obj}(e:(pj h H).get? b=some o):h.get? b=some o/\H b=none:=by
 have e':h.get? b=some o:=PySem.W.of_hideAll (GC h H) e;refine⟨e',?_⟩;cases q:H b with
 |none=>rfl
 |some x =>
  have hm:b∈GC h H:=Zaw.mpr ⟨ZaV.mpr (Zav e'),by simp[q]⟩;have z:(pj h H).get? b=none:=PySem.W.hideAll_none (GC h H) hm;rw[z]at e;cases e
abbrev ve(g h:Heap)(L:Addr):List (Addr×Obj):=(List.range h.objs.size).filterMap λa=>if a=L\/(g.get? a).isSome=true then none else(h.get? a).map λo=>(a,o)
abbrev rest(g h:Heap)(L d:Addr):List (Addr×Obj):=(ve g h L).filter λp=>decide (p.1≠d)
structure Mod(K:Zfr)(mg:Str->Option Value)(base:Heap):Prop where
 JT:K.In base
 glob:base.Ns mainGlobals mg
 blt:∃mb,base.Ns builtinsNs mb/\∀x:Str,x≠"__name__" -> mb x=bootBuiltins x
 nolimit:base.NoLimit
set_option genInjectivity false in
structure Cx where
 prog:Program
 w:World
 K:Zfr
 mg:Str->Option Value
 base:Heap
 A:Around
 N:List Str
 s₀:Shared
 H₀:Hp
 env:Env
 outer:List Env
 stack:List Env
 ex:List Addr
 fn:Str->Bool
 calm:Bool
 pn:List (Addr×Obj)
 xe:Value->Shared->Prop
abbrev frs(l:List Env):List Addr:=l.filterMap (·.frame)
@[reducible]def Cx.fs(X:Cx):List Addr:=frs X.outer
abbrev JU(sc:Scope)(x:Str):Prop:=sc.names.lookup x=some .local\/sc.names.lookup x=some .cell\/sc.names.lookup x=some .free
abbrev Loc(sc:Scope)(x:Str):Prop:=sc.names.lookup x=some .local\/sc.names.lookup x=some .cell
abbrev Look(env:Env)(h:Heap)(m:Str->Option Value)(x:Str)(u:Value):Prop :=
 (env.kindOf x=some .local/\m x=some u)\/((env.kindOf x=some .cell\/env.kindOf x=some .free)/\∃c,env.cells.lookup x=some c/\h.IsCell c (some u))
structure Cx.Ok(X:Cx):Prop where
 mod:Mod X.K X.mg X.base
 kind:X.env.scope.kind=.function
 glob:X.env.globals=mainGlobals
 blt:X.env.builtins=builtinsNs
 above:X.s₀.heap.objs.size<=X.env.locals
 inj:∀x y c,X.env.cells.lookup x=some c->X.env.cells.lookup y=some c->x=y
 has:∀x,(X.env.kindOf x=some .cell\/X.env.kindOf x=some .free)->∃c,X.env.cells.lookup x=some c
 B7:∀x c,X.fn x=true->X.env.cells.lookup x=some c->X.s₀.heap.objs.size<=c
 hd:X.calm=true->X.A.handled=none
 frames:X.A.frames=some X.stack
 stk:X.stack=X.outer\/(X.stack=X.env :: X.outer/\X.env.frame=some X.env.locals)
 MY:∀b∈X.ex,b≠X.env.locals/\∀x c,X.env.cells.lookup x=some c->c≠b
 bs:∀b o,X.base.get? b=some o->X.s₀.heap.get? b=some o/\X.H₀ b=none
 wG:X.base.objs.size<=X.s₀.heap.objs.size
 tG:∀b o,X.base.get? b=some o->b ∉ X.ex
 vf:∀b∈X.ex,b ∉ X.fs
 og:X.s₀.heap.FunFrames X.base X.outer
 A6:∀b∈X.fs,X.H₀ b=none
structure Inv(X:Cx)(pins:List (Addr×Obj))(σ:List (Option V))(H:Hp)(s:Shared):Prop where
 ok:X.Ok
 os:s.os=X.s₀.os
 bare:AllBare s.gens
 base:Un X.fs X.ex X.H₀ H X.s₀.heap s.heap
 loc:∃m,s.heap.Ns X.env.locals m/\∀(i:Nat) (x:Str) (v:V),X.N[i]?=some x->σ[i]?=some (some v)->JU X.env.scope x->∃u,RelV v u/\Look X.env s.heap m x u
 cell:∀x c,X.env.cells.lookup x=some c->∃v,s.heap.IsCell c v
 free:H X.env.locals=none
 lG:∀x c,X.env.cells.lookup x=some c->H c=none
 pin:∀p∈X.pn ++ pins,s.heap.get? p.1=some p.2/\H p.1=none/\p.1≠X.env.locals/\p.1 ∉ X.fs/\∀v,p.2.data≠.cell v
 hok:mq X.prog X.w H s.heap
 len:σ.length=X.N.length
section
variable {X:Cx}{pins:List (Addr×Obj)}{σ:List (Option V)}{H H':Hp}{s:Shared}{h':Heap}
def Cx.Ok.JV(ok:X.Ok){b:Addr}{o:Obj}(e:X.base.get? b=some o):b ∉ X.fs:=λhb=>by
 have:=(ok.og.mem hb).1;rw[e]at this;cases this
def Inv.bs(I:Inv X pins σ H s):∀b o,X.base.get? b=some o->s.heap.get? b=some o/\H b=none:=λb o e =>
 ⟨I.base.keep b o (I.ok.bs b o e).1 (I.ok.bs b o e).2 (I.ok.JV e) (I.ok.tG b o e),I.base.free b o (I.ok.bs b o e).1 (I.ok.bs b o e).2 (I.ok.tG b o e)⟩
def Inv.bk(I:Inv X pins σ H s):∀b o,X.base.get? b=some o->s.heap.get? b=some o:=λb o e=>(I.bs b o e).1
def Inv.mod(I:Inv X pins σ H s):Mod X.K X.mg X.base:=I.ok.mod
def Inv.GD(I:Inv X pins σ H s):X.K.In s.heap:=I.ok.mod.JT.keeps I.bk
def Inv.lt(I:Inv X pins σ H s):X.env.locals<s.heap.objs.size:=let ⟨_,hn,_⟩:=I.loc;hn.lt
def Inv.sz(I:Inv X pins σ H s):X.s₀.heap.objs.size<=s.heap.objs.size:=Zap I.ok.above (Zbt I.lt)
def Inv.B8(I:Inv X pins σ H s){a:Addr}(h:s.heap.objs.size<=a):a ∉ X.fs:=λhb=>by
 obtain⟨_,o,ho,_⟩:=I.ok.og.mem hb;exact absurd (ZaQ (Zav ho) (Zap I.sz h)) (ZbP _)
def Inv.x9(I:Inv X pins σ H s):∀x c,X.env.cells.lookup x=some c->c≠X.env.locals:=λx c e z=>by
 obtain⟨v,o,ho,hd⟩:=I.cell x c e;obtain⟨m,⟨o',es,ep,ho',hd',_⟩,_⟩:=I.loc;rw[z,ho']at ho;cases ho;rw[hd']at hd;cases hd
def Inv.og(I:Inv X pins σ H s):s.heap.FunFrames X.base X.outer:=by
 have all:∀(l:List Env),(∀b∈frs l,b∈X.fs)->X.s₀.heap.FunFrames X.base l->s.heap.FunFrames X.base l:=by
  intro l
  induction l with
  |nil=>intro _ _;trivial
  |cons env r ih =>
   intro hs hl;obtain⟨hk,⟨L,o,hf,hn,ho,hd⟩,hr⟩:=hl;have hL:L∈X.fs:=hs L (by unfold frs;rw[Zcq,hf];exact Zac);obtain⟨sl,e⟩:=I.base.slot L o ho (I.ok.A6 L hL) hL λz=>I.ok.vf L z hL;exact⟨hk,⟨L,_,hf,hn,e,hd⟩,ih (λb hb=>hs b (by unfold frs;rw[Zcq,hf];exact Zah _ hb)) hr⟩
 exact all X.outer (λ_ hb=>hb) I.ok.og
def Inv.stack(I:Inv X pins σ H s):s.heap.FunFrames X.base X.stack:=by
 rcases I.ok.stk with e|⟨e,hf⟩
 rw[e];exact I.og;rw[e];obtain⟨m,hn,_⟩:=I.loc;refine .cons (by rw[I.ok.kind];decide) hf hn ?_ I.og;exact Heap.get?_none_of_le (Zap I.ok.wG I.ok.above)
def Inv.oh(I:Inv X pins σ H s):∀b∈frs X.stack,b∈X.env.locals :: X.fs:=λb hb=>by
 rcases I.ok.stk with e|⟨e,hf⟩
 rw[e]at hb;exact Zah _ hb;rw[e]at hb;unfold frs at hb;rw[Zcq,hf]at hb;exact hb
def Inv.rl(I:Inv X pins σ H s):∀b∈frs X.stack,H b=none:=λb hb=>by
 rcases Zax.mp (I.oh b hb)with e|hb
 rw[e];exact I.free;obtain⟨_,o,ho,_⟩:=I.ok.og.mem hb;exact I.base.free b o ho (I.ok.A6 b hb) λz=>I.ok.vf b z hb
def Inv.step{g':Array GenState}{t':Nat}{d':Drawn}{ch:List Addr}(I:Inv X pins σ H s)
  (hch:∀b∈ch,(b∈X.ex\/X.s₀.heap.objs.size<=b)/\b≠X.env.locals/\(∀x c,X.env.cells.lookup x=some c->c≠b)/\∀p∈X.pn ++ pins,p.1≠b)
  (keep:∀b o,b≠X.env.locals->b ∉ X.fs->b ∉ ch->s.heap.get? b=some o->H b=none->h'.get? b=some o)
  (slot:∀b o,b≠X.env.locals->b∈X.fs->b ∉ ch->s.heap.get? b=some o->H b=none->∃sl,h'.get? b=some { o with slots:=sl }) (free:∀b o,b ∉ ch->s.heap.get? b=some o->H b=none->H' b=none)
  (there:∀b o,b ∉ ch->s.heap.get? b=some o->∃o',h'.get? b=some o')
  (tups:∀b xs,H b=some (.tup xs)->H' b=some (.tup xs)) (ph:∀b o u,H b=some (.pf o u)->H' b=some (.pf o u)) (qc:∀b ps,H b=some (.x5 ps)->∃more,H' b=some (.x5 (ps ++ more)))
  (ns:∀m,s.heap.Ns X.env.locals m->h'.Ns X.env.locals m) (hok:mq X.prog X.w H' h') (hg:AllBare g') :
  Inv X pins σ H' { s with heap:=h',gens:=g',drawn:=d',toks:=t' }:=by
 have ya:∀b o,X.s₀.heap.get? b=some o->b≠X.env.locals:=λb o e=>ZaU (ZaQ (Zav e) I.ok.above);have GF:∀b o,X.s₀.heap.get? b=some o->b ∉ X.ex->b ∉ ch:=λb o e hx hb=>by
  rcases(hch b hb).1 with z|z
  exact hx z;exact absurd (ZaQ (Zav e) z) (ZbP _)
 have cellK:∀x c,X.env.cells.lookup x=some c->∀v,s.heap.IsCell c v->h'.IsCell c v:=λx c e v ⟨o,ho,hd⟩=>by
  have B9:c ∉ ch:=λz=>(hch c z).2.2.1 x c e rfl;by_cases hc:c∈X.fs;obtain⟨sl,q⟩:=slot c o (I.x9 x c e) hc B9 ho (I.lG x c e);exact⟨_,q,hd⟩;exact⟨o,keep c o (I.x9 x c e) hc B9 ho (I.lG x c e),hd⟩
 refine⟨I.ok,I.os,hg,⟨λb o e n hb hx=>?_,λb o e n hb hx=>?_,λb o e n hx=>?_,λb o e hx=>?_,λb xs e=>tups b xs (I.base.tups b xs e),λb o xs e=>ph b o xs (I.base.ph b o xs e),λb ps e=>?_⟩,?_,λx c e=>?_,?_,λx c e=>?_,λp hp=>?_,hok,I.len⟩;exact keep b o (ya b o e) hb (GF b o e hx) (I.base.keep b o e n hb hx) (I.base.free b o e n hx);obtain⟨sl,e1⟩:=I.base.slot b o e n hb hx;obtain⟨RY,e2⟩:=slot b _ (ya b o e) hb (GF b o e hx) e1 (I.base.free b o e n hx);exact⟨RY,e2⟩;obtain⟨o',e1⟩:=I.base.there b o e hx;exact free b o' (GF b o e hx) e1 (I.base.free b o e n hx);obtain⟨o',e1⟩:=I.base.there b o e hx;exact there b o' (GF b o e hx) e1;obtain⟨m1,e1⟩:=I.base.qc b ps e;obtain⟨m2,e2⟩:=qc b _ e1;exact⟨m1 ++ m2,by rw[e2,Array.append_assoc]⟩;obtain⟨m,hn,hl⟩:=I.loc;refine⟨m,ns m hn,λi x v e1 e2 e3=>?_⟩;obtain⟨u,r,l⟩:=hl i x v e1 e2 e3;refine⟨u,r,?_⟩;rcases l with l|⟨k,c,e,z⟩
 exact .inl l;exact .inr ⟨k,c,e,cellK x c e _ z⟩;obtain⟨v,z⟩:=I.cell x c e;exact⟨v,cellK x c e v z⟩;obtain⟨m,⟨o,_,_,ho,_⟩,_⟩:=I.loc;exact free _ o (λz=>(hch _ z).2.1 rfl) ho I.free;obtain⟨v,o,ho,hd⟩:=I.cell x c e;exact free c o (λz=>(hch c z).2.2.1 x c e rfl) ho (I.lG x c e);obtain⟨e,n,ne,nf,d⟩:=I.pin p hp;have B9:p.1 ∉ ch:=λz=>(hch p.1 z).2.2.2 p hp rfl;exact⟨keep p.1 p.2 ne nf B9 e n,free p.1 p.2 B9 e n,ne,nf,d⟩
def Inv.un{t':Nat}(I:Inv X pins σ H s)(u:Un X.fs [] H H' s.heap h')(hok:mq X.prog X.w H' h'):Inv X pins σ H' { s with heap:=h',toks:=t' }:=by
 obtain⟨m,⟨o,es,ep,ho,r⟩,_⟩:=id I.loc;obtain⟨sl,hL⟩:=u.any ho I.free (by simp)
 exact I.step (g':=s.gens) (d':=s.drawn) (ch:=[]) (λ_ z=>nomatch z) (λb o _ hb _ e n=>u.keep b o e n hb (by simp)) (λb o _ hb _ e n=>u.slot b o e n hb (by simp)) (λb o _ e n=>u.free b o e n (by simp)) (λb o _ e=>u.there b o e (by simp)) u.tups u.ph u.qc (λm' hm=>by
  obtain⟨o',es',JW,ho',r'⟩:=hm;rw[ho]at ho';cases ho'
  exact⟨_,es',JW,hL,r'⟩) hok I.bare
def Inv.call{g':Array GenState}{t':Nat}{d':Drawn}{ch:List Addr}(I:Inv X pins σ H s)(u:Un (frs X.stack) ch H H' s.heap h')(hok:mq X.prog X.w H' h')(hg:AllBare g')
  (hch:∀b∈ch,(b∈X.ex\/X.s₀.heap.objs.size<=b)/\b≠X.env.locals/\(∀x c,X.env.cells.lookup x=some c->c≠b)/\∀p∈X.pn ++ pins,p.1≠b) :
  Inv X pins σ H' { s with heap:=h',gens:=g',drawn:=d',toks:=t' }:=by
 obtain⟨m,⟨o,es,ep,ho,r⟩,_⟩:=id I.loc;obtain⟨sl,hL⟩:=u.any ho I.free λz=>(hch _ z).2.1 rfl
 exact I.step (ch:=ch) hch (λb o hL hb hc e n=>u.keep b o e n (λz=>(Zax.mp (I.oh b z)).elim hL hb) hc) (λb o _ _ hc e n=>u.any e n hc) (λb o hc e n=>u.free b o e n hc) (λb o hc e=>u.there b o e hc) u.tups u.ph u.qc (λm' hm=>by
  obtain⟨o',es',JW,ho',r'⟩:=hm;rw[ho]at ho';cases ho'
  exact⟨_,es',JW,hL,r'⟩) hok hg
def Inv.turned{t':Nat}{it:Addr}(I:Inv X pins σ H s)(k:∀b o,b≠it->s.heap.get? b=some o->h'.get? b=some o)(hn:H it=none)(hL:it≠X.env.locals)
  (h1:it∈X.ex\/X.s₀.heap.objs.size<=it) (h2:∀x c,X.env.cells.lookup x=some c->c≠it) (h3:∀p∈X.pn ++ pins,p.1≠it):Inv X pins σ H { s with heap:=h',toks:=t' }:=by
 have Ca:∀b u,H b=some u->b≠it:=λb u e z=>by rw[z,hn]at e;cases e
 refine I.step (g':=s.gens) (d':=s.drawn) (ch:=[it]) (λb hb=>?_) (λb o _ _ hc e _=>k b o (λz=>hc (by simp[z])) e) (λb o _ _ hc e _=>⟨o.slots,k b o (λz=>hc (by simp[z])) e⟩) (λ_ _ _ _ n=>n)
  (λb o hc e=>⟨o,k b o (λz=>hc (by simp[z])) e⟩) (λ_ _ e=>e) (λ_ _ _ e=>e) (λb ps e=>⟨#[],by rw[e];simp⟩) (λm hm=>?_) (λb u e=>?_) I.bare
 have e:b=it:=by simpa using hb
 subst e;exact⟨h1,hL,h2,h3⟩;obtain⟨o,es,ep,ho,r⟩:=hm;exact⟨o,es,ep,k _ o (Ne.symm hL) ho,r⟩;refine(I.hok b u e).stay (λc v hc q=>k c v ?_ q) (λ_ q=>q) λ_ _ q=>q;rcases hc with z|z
 rw[z];exact Ca b u e;exact Ca c _ z
def Inv.tok(I:Inv X pins σ H s)(t:Nat):Inv X pins σ H { s with toks:=t }:=I.un (h':=s.heap) (t':=t) Un.refl I.hok
def Inv.kept{t':Nat}(I:Inv X pins σ H s)(k:∀b u,s.heap.get? b=some u->h'.get? b=some u):Inv X pins σ H { s with heap:=h',toks:=t' }:=I.un (Un.kept k) (I.hok.kept k)
def Inv.laid{a:Addr}{o:HO}{t':Nat}(I:Inv X pins σ H s)(k:∀b u,s.heap.get? b=some u->h'.get? b=some u)(hp:s.heap.objs.size<=a)(new:cb X.prog X.w (upd H a o) h' a o):
  Inv X pins σ (upd H a o) { s with heap:=h',toks:=t' }:=I.un (Un.laid k hp (I.hok.fresh hp)) (I.hok.laid k hp new)
def Inv.write{x e:Addr}{o:HO}{t':Nat}(I:Inv X pins σ H s)(mu:B5 (H x))(he:e=x\/H e=some (.own x))(k:∀b u,b≠e->s.heap.get? b=some u->h'.get? b=some u)(A5:∃u,h'.get? e=some u)
  (new:cb X.prog X.w (upd H x o) h' x o):Inv X pins σ (upd H x o) { s with heap:=h',toks:=t' }:=I.un (Un.write mu he k A5) (I.hok.write mu he k A5 new)
def Inv.nT{wH:List (Addr×Obj)}(I:Inv X pins σ H s)(h:∀p∈wH,s.heap.get? p.1=some p.2/\H p.1=none/\p.1≠X.env.locals/\p.1 ∉ X.fs/\∀v,p.2.data≠.cell v):Inv X wH σ H s :=
 ⟨I.ok,I.os,I.bare,I.base,I.loc,I.cell,I.free,I.lG,λp hp=>(Zay.mp hp).elim (λz=>I.pin p (ZbF _ z)) (h p),I.hok,I.len⟩
def MZ{N:List Str}(hN:N.Nodup){i j:Nat}{x:Str}(a:N[i]?=some x)(b:N[j]?=some x):i=j:=by obtain⟨h1,e1⟩:=Z9.mp a;obtain⟨h2,e2⟩:=Z9.mp b;exact(ZbX hN).mp (e1.trans e2.symm)
def M0{M:Model}{A:Around}{E:Value->Shared->Prop}{i:Nat}{x:Str}{v:V}{u:Value}{Q:Unit->Shared->Prop}(I:Inv X pins σ H s)(hN:X.N.Nodup)(hi:X.N[i]?=some x)(hx:Loc X.env.scope x)(r:RelV v u)
  (h:∀s',Inv X pins (σ.set i (some v)) H s'->(∃a,Heap.SameBut a s.heap s'.heap/\(a=X.env.locals\/X.env.cells.lookup x=some a))->Q () s') (hf:X.fn x=true\/X.env.scope.names.lookup x=some .local:=by first|exact .inl rfl|exact .inr rfl|assumption):wpAny M A (storeName X.env x u) Q E s:=by
 obtain⟨m,hn,hl⟩:=id I.loc;have hcls:(X.env.scope.kind == .class || (X.env.scope.kind == .module && X.env.locals != X.env.globals))=false:=by rw[I.ok.kind];rfl
 have hiσ:i<σ.length:=by rw[I.len];exact(Z9.mp hi).1
 have x9:=I.x9;have tracked:∀{a:Addr} {h':Heap},(∃o,s.heap.get? a=some o/\H a=none)->Heap.SameBut a s.heap h'->mq X.prog X.w H h':=λ{a h'} ha hs b ob e=>by
  obtain⟨_,_,hfree⟩:=ha;refine(I.hok b ob e).stay (λc w' hc q=>(hs.2 c ?_).trans q) (λ_ q=>q) λ_ _ q=>q;rintro rfl;rcases hc with rfl|hc
  rw[hfree]at e;cases e;rw[hfree]at hc;cases hc
 rcases hx with hk|hk
 refine wpAny_storeName_local hk hn (λh' hn' hs=>?_) hcls;obtain⟨oL,_,_,GG,_⟩:=id hn;refine h _ ⟨I.ok,I.os,I.bare,⟨λb o e n hb hx=>?_,λb o e n hb hx=>?_,I.base.free,λb o e hx=>?_,I.base.tups,I.base.ph,I.base.qc⟩,⟨_,hn',λj y v' e1 e2 e3=>?_⟩,λy c e=>?_,I.free,I.lG,λp hp=>?_,tracked ⟨oL,GG,I.free⟩ hs,by simpa using I.len⟩ ⟨_,hs,.inl rfl⟩;exact(hs.2 b (ZaU (ZaQ (Zav e) I.ok.above))).trans (I.base.keep b o e n hb hx);obtain⟨sl,e1⟩:=I.base.slot b o e n hb hx;exact⟨sl,(hs.2 b (ZaU (ZaQ (Zav e) I.ok.above))).trans e1⟩;obtain⟨o',e1⟩:=I.base.there b o e hx;exact⟨o',(hs.2 b (ZaU (ZaQ (Zav e) I.ok.above))).trans e1⟩;by_cases hj:j=i;subst hj;rw[hi]at e1;cases e1;rw[Zal hiσ]at e2;cases e2;exact⟨u,r,.inl ⟨hk,by simp⟩⟩;rw[ZaA (Ne.symm hj)]at e2;obtain⟨u',r',q⟩:=hl j y v' e1 e2 e3;refine⟨u',r',?_⟩;rcases q with⟨k,e⟩|⟨k,c,e,z⟩
 refine .inl ⟨k,?_⟩
 have:y≠x:=λe=>hj (MZ hN e1 (e ▸ hi));simp[this,e]
 exact .inr ⟨k,c,e,z.sameBut hs (x9 y c e)⟩;obtain⟨w',z⟩:=I.cell y c e;exact⟨w',z.sameBut hs (x9 y c e)⟩;obtain⟨e,n,ne,nf,d⟩:=I.pin p hp;exact⟨(hs.2 p.1 ne).trans e,n,ne,nf,d⟩;have hfn:X.fn x=true:=by
  rcases hf with z|z
  exact z;rw[z]at hk;cases hk
 obtain⟨c,hc⟩:=I.ok.has x (.inl hk);obtain⟨w',z⟩:=I.cell x c hc;refine wpAny_storeName_cell I.ok.kind hk hc z (λh' hc' hs=>?_);obtain⟨oc,hoc,JX⟩:=id z;refine h { s with heap:=h' } ⟨I.ok,I.os,I.bare,⟨λb o e n hb hx=>?_,λb o e n hb hx=>?_,I.base.free,λb o e hx=>?_,I.base.tups,I.base.ph,I.base.qc⟩,⟨m,hn.sameBut hs (Ne.symm (x9 x c hc)),λj y v' e1 e2 e3=>?_⟩,λy c' e=>?_,I.free,I.lG,λp hp=>?_,tracked ⟨oc,hoc,I.lG x c hc⟩ hs,by simpa using I.len⟩ ⟨c,hs,.inr hc⟩;exact(hs.2 b (ZaU (ZaQ (Zav e) (I.ok.B7 x c hfn hc)))).trans (I.base.keep b o e n hb hx);obtain⟨sl,e1⟩:=I.base.slot b o e n hb hx;exact⟨sl,(hs.2 b (ZaU (ZaQ (Zav e) (I.ok.B7 x c hfn hc)))).trans e1⟩;obtain⟨o',e1⟩:=I.base.there b o e hx;exact⟨o',(hs.2 b (ZaU (ZaQ (Zav e) (I.ok.B7 x c hfn hc)))).trans e1⟩;by_cases hj:j=i;subst hj;rw[hi]at e1;cases e1;rw[Zal hiσ]at e2;cases e2;exact⟨u,r,.inr ⟨.inl hk,c,hc,hc'⟩⟩;rw[ZaA (Ne.symm hj)]at e2;obtain⟨u',r',q⟩:=hl j y v' e1 e2 e3;refine⟨u',r',?_⟩;rcases q with q|⟨k,c',e,z'⟩
 exact .inl q;refine .inr ⟨k,c',e,z'.sameBut hs ?_⟩;rintro rfl;exact hj (MZ hN e1 (I.ok.inj _ _ _ e hc ▸ hi));by_cases hcc:c'=c;subst hcc;exact⟨_,hc'⟩;obtain⟨w2,z2⟩:=I.cell y c' e;exact⟨w2,z2.sameBut hs hcc⟩;obtain⟨e,n,ne,nf,d⟩:=I.pin p hp;refine⟨(hs.2 p.1 ?_).trans e,n,ne,nf,d⟩;intro q;rw[q,hoc]at e;have q':oc=p.2:=Zam e;exact d w' (by rw[<- q'];exact JX)
def GH{M:Model}{A:Around}{E:Value->Shared->Prop}{i:Nat}{x:Str}{v:V}{u:Value}{Q:Unit->Shared->Prop}(I:Inv X pins σ H s)(hN:X.N.Nodup)(hi:X.N[i]?=some x)(hx:Loc X.env.scope x)(r:RelV v u)
  (h:∀s',Inv X pins (σ.set i (some v)) H s'->Q () s') (hf:X.fn x=true\/X.env.scope.names.lookup x=some .local:=by first|exact .inl rfl|exact .inr rfl|assumption):wpAny M A (storeName X.env x u) Q E s :=
 M0 I hN hi hx r (λs' I' _=>h s' I') hf
def Inv.Cb{s':Shared}{ch:List Addr}(I:Inv X pins σ H s)(ho:s'.os=s.os)(u:Un (frs X.stack) ch H H' s.heap s'.heap)(hok:mq X.prog X.w H' s'.heap)(hg:AllBare s'.gens)
  (hch:∀b∈ch,(b∈X.ex\/X.s₀.heap.objs.size<=b)/\b≠X.env.locals/\(∀x c,X.env.cells.lookup x=some c->c≠b)/\∀p∈X.pn ++ pins,p.1≠b):Inv X pins σ H' s':=by
 obtain⟨h',g',d',t',o'⟩:=s';have e:o'=s.os:=ho;subst e;exact I.call (g':=g') (t':=t') (d':=d') u hok hg hch
end
@[reducible]def XK:=Value->Option Addr->Hp->Prop
@[reducible]def St:=List (Option V)
@[reducible]def VK:=V->Hp->Prop
@[reducible]def TE:=St->Hp->VK->Prop
@[reducible]def TT:=St->Hp->(Bool->Hp->Prop)->Prop
@[reducible]def TA:=St->Hp->(List V->Hp->Prop)->Prop
set_option genInjectivity false in
structure Ends where
 nx:St->Hp->Prop
 rt:VK
 bk:St->Hp->Prop:=λ_ _=>False
 ct:St->Hp->Prop:=λ_ _=>False
@[reducible]def TS:=Ends->St->Hp->Prop
abbrev EP(X:Cx)(pins:List (Addr×Obj))(σ:St)(Q:VK)(u:Value)(s':Shared):Prop:=∃v H',Inv X pins σ H' s'/\RelV v u/\Q v H'
abbrev TP(X:Cx)(pins:List (Addr×Obj))(σ:St)(Q:Bool->Hp->Prop)(b:Bool)(s':Shared):Prop:=∃H',Inv X pins σ H' s'/\Q b H'
abbrev AP(X:Cx)(pins:List (Addr×Obj))(σ:St)(Q:List V->Hp->Prop)(us:List Value)(s':Shared):Prop:=∃vs H',Inv X pins σ H' s'/\Vals vs us/\Q vs H'
abbrev SP(X:Cx)(pins:List (Addr×Obj))(D:Ends)(f:Flow)(s':Shared):Prop :=
 match f with
 |.next=>∃σ' H',Inv X pins σ' H' s'/\D.nx σ' H'
 |.brk=>∃σ' H',Inv X pins σ' H' s'/\D.bk σ' H'
 |.cont=>∃σ' H',Inv X pins σ' H' s'/\D.ct σ' H'
 |.ret u=>∃v σ' H',Inv X pins σ' H' s'/\RelV v u/\D.rt v H'
abbrev PE(X:Cx)(e:Expr)(t:TE):Prop :=
 ∀(pins:List (Addr×Obj)) (s:Shared) (σ:St) (H:Hp) (Q:VK),Inv X pins σ H s->t σ H Q->wpAny (model X.prog X.w) X.A (eval e X.env) (EP X pins σ Q) X.xe s
abbrev PT(X:Cx)(e:Expr)(t:TT):Prop :=
 ∀(pins:List (Addr×Obj)) (s:Shared) (σ:St) (H:Hp) (Q:Bool->Hp->Prop),Inv X pins σ H s->t σ H Q->wpAny (model X.prog X.w) X.A (isTrue e X.env (eval e X.env)) (TP X pins σ Q) X.xe s
abbrev PW(X:Cx)(e:Expr)(t:TT):Prop :=
 ∀(whole:Sem Value) (pins:List (Addr×Obj)) (s:Shared) (σ:St) (H:Hp) (Q:Bool->Hp->Prop),Inv X pins σ H s->t σ H Q->wpAny (model X.prog X.w) X.A (isTrue e X.env whole) (TP X pins σ Q) X.xe s
def PW.pt{X:Cx}{e:Expr}{t:TT}(h:PW X e t):PT X e t:=h _
abbrev PA(X:Cx)(es:List Expr)(t:TA):Prop :=
 ∀(pos:Pos) (pins:List (Addr×Obj)) (s:Shared) (σ:St) (H:Hp) (Q:List V->Hp->Prop),Inv X pins σ H s->t σ H Q->wpAny (model X.prog X.w) X.A (spliced (backTo pos (starEach es X.env))) (AP X pins σ Q) X.xe s
abbrev PS(X:Cx)(st:Stmt)(t:TS):Prop :=
 ∀(pins:List (Addr×Obj)) (s:Shared) (σ:St) (H:Hp) (D:Ends),Inv X pins σ H s->t D σ H->wpAny (model X.prog X.w) X.A (exec st X.env) (SP X pins D) X.xe s
abbrev sx(X:Cx)(st:List Stmt)(t:TS):Prop :=
 ∀(pins:List (Addr×Obj)) (s:Shared) (σ:St) (H:Hp) (D:Ends),Inv X pins σ H s->t D σ H->wpAny (model X.prog X.w) X.A (execs st X.env) (SP X pins D) X.xe s
def b8{α:Type}{t:Sem α}{Q Q':α->Shared->Prop}{M:Model}{A:Around}{E:Value->Shared->Prop}{s:Shared}(h:wpAny M A t Q E s)(hQ:∀a s,Q a s->Q' a s):wpAny M A t Q' E s:=wpAny_mono h hQ λ_ _ x=>x
section
variable {X:Cx}
abbrev yb(i:Nat):TE:=λσ H Q=>∃v,σ[i]?=some (some v)/\Q v H
abbrev tC(v:V):TE:=λ_ H Q=>Q v H
def yc{i:Nat}{x:Str}{pos:Pos}(hN:X.N[i]?=some x)(hv:JU X.env.scope x)(hd:(x == ("__debug__" : Str))=false:=by decide)(hcd:(x == ("__classdict__" : Str))=false:=by decide):PE X (.Name x pos) (yb i):=by
 intro pins s σ H Q I h;obtain⟨v,e,h⟩:=h;obtain⟨m,hn,hl⟩:=I.loc;obtain⟨u,r,l⟩:=hl i x v hN e hv;have fin:EP X pins σ Q u s:=⟨v,H,I,r,h⟩;rcases l with⟨hk,hm⟩|⟨hk,c,hc,hcell⟩
 exact wpAny_Name (wpAny_loadName_local I.ok.kind hk hn hm fin) hd;rcases hk with hk|hk
 exact wpAny_Name (wpAny_loadName_cell I.ok.kind hk hc hcell fin) hd;exact wpAny_Name (wpAny_loadName_free I.ok.kind hk hc hcell fin hcd) hd
def aG{i j pos}:PE X (.Constant (.int i) j pos) (tC (.int i)):=λ_ _ _ H _ I h=>wpAny_Constant_int ⟨.int i,H,I.tok _,⟨_,rfl⟩,h⟩
def GI{b j pos}:PE X (.Constant (.bool b) j pos) (tC (.bl b)):=λ_ _ _ H _ I h=>Constant_bool ⟨.bl b,H,I,rfl,h⟩
def rm{x j pos}:PE X (.Constant (.str x) j pos) (tC (.str x)):=λ_ _ _ H _ I h=>Calls.Constant_str ⟨.str x,H,I.tok _,⟨_,rfl⟩,h⟩
abbrev Gl(X:Cx)(x:Str):Prop:=X.env.kindOf x=some .globalImplicit
def M1{E:Value->Shared->Prop}{pins:List (Addr×Obj)}{s:Shared}{σ:St}{H:Hp}{x:Str}{u:Value}{pos:Pos}{Q:Value->Shared->Prop}(I:Inv X pins σ H s)(hg:Gl X x)(hm:X.mg x=some u)(h:Q u s)
  (hd:(x == ("__debug__" : Str))=false:=by decide):wpAny (model X.prog X.w) X.A (eval (.Name x pos) X.env) Q E s :=
 Calls.Name_function_global I.ok.kind hg (Calls.loadGlobal_global (by rw[I.ok.glob];exact I.mod.glob.keeps I.bk) hm h) hd
def A7{E:Value->Shared->Prop}{pins:List (Addr×Obj)}{s:Shared}{σ:St}{H:Hp}{x:Str}{u:Value}{pos:Pos}{Q:Value->Shared->Prop}(I:Inv X pins σ H s)(hg:Gl X x)(hm:X.mg x=none)(hv:bootBuiltins x=some u)(h:Q u s)
  (hn:x≠"__name__" := by decide) (hd:(x == ("__debug__" : Str))=false:=by decide):wpAny (model X.prog X.w) X.A (eval (.Name x pos) X.env) Q E s:=by
 obtain⟨mb,h1,h2⟩:=I.mod.blt;exact Calls.Name_function_global I.ok.kind hg (Calls.loadGlobal_builtin (by rw[I.ok.glob];exact I.mod.glob.keeps I.bk) hm (by rw[I.ok.blt];exact h1.keeps I.bk) ((h2 x hn).trans hv) h) hd
def RZ{x:Str}{v:V}{u:Value}{pos:Pos}(hg:Gl X x)(hm:X.mg x=some u)(r:RelV v u)(hd:(x == ("__debug__" : Str))=false:=by decide):PE X (.Name x pos) (tC v) :=
 λ_ _ _ H _ I h=>M1 I hg hm ⟨v,H,I,r,h⟩ hd
variable {a b:Expr}{ta tb:TE}{pos:Pos}
abbrev PC(X:Cx)(op:CmpOp)(a b:Expr)(t:TE):Prop :=
 ∀(pins:List (Addr×Obj)) (s:Shared) (σ:St) (H:Hp) (Q:VK),Inv X pins σ H s->t σ H Q ->
  wpAny (model X.prog X.w) X.A (eval a X.env) (λv s₁=>wpAny (model X.prog X.w) X.A (eval b X.env) (λu s₂=>wpAny (model X.prog X.w) X.A (compareOp op v u) (EP X pins σ Q) X.xe s₂) X.xe s₁) X.xe s
def tH(b:Expr){op:CmpOp}(h:op≠.In)(h2:op≠.NotIn):behindInMarks op b=false:=by
 have e1:(op == CmpOp.In)=false:=by cases op<;>first|rfl|exact absurd rfl h
 have e2:(op == CmpOp.NotIn)=false:=by cases op<;>first|rfl|exact absurd rfl h2
 cases b<;>simp[behindInMarks,e1,e2]
abbrev tB(t:TE):TT:=λσ H Q=>t σ H λx H1=>∃c,x=.bl c/\Q c H1
def M3{op:CmpOp}{t:TE}(h:PC X op a b t)(h1:behindInMarks op b=false:=by first|exact tH _ ∅ ∅|rfl):PT X (.Compare a [op] [b] pos) (tB t):=by intro pins s σ H Q I hw;refine wpAny_isTrue_Compare1 (b8 (h pins s σ H _ I hw) λv s1 h1=>b8 h1 λu s2 h2=>b8 h2 λc s3 ⟨x,H1,I1,r1,q1⟩=>?_) h1;obtain⟨d,rfl,q⟩:=q1;cases r1;exact wpAny_truthy_bool ⟨H1,I1,q⟩
def JY{e:Expr}{t:TE}(h:PE X e t)(he:∀whole,isTrue e X.env whole=(do let v <- whole;standAt e.pos;holding [v] (truthy v)):=by intro _;rfl):PT X e (tB t):=by intro pins s σ H Q I hw;refine isTrue_plain (b8 (h pins s σ H _ I hw) λv s1 ⟨x,H1,I1,r1,q1⟩=>?_) (he _);obtain⟨d,rfl,q⟩:=q1;cases r1;exact wpAny_truthy_bool ⟨H1,I1,q⟩
variable {tA GJ:TT}{rest:List Expr}
abbrev Cc(t u:TT):TT:=λσ H Q=>t σ H λc H1=>if c=true then u σ H1 Q else Q false H1
abbrev M4(t u:TT):TT:=λσ H Q=>t σ H λc H1=>if c=true then Q true H1 else u σ H1 Q
abbrev Cd(t:TT):TT:=λσ H Q=>t σ H λc H1=>Q (!c) H1
def M5(ha:PT X a tA):PW X (.BoolOp .And [a] pos) tA:=by
 intro wh pins s σ H Q I h;refine isTrue_and (b8 (ha pins s σ H Q I h) λc s1 e=>?_);cases c with
 |true=>exact isTrue_and_nil e
 |false=>exact e
def M6(ha:PT X a tA):PW X (.BoolOp .Or [a] pos) tA:=by
 intro wh pins s σ H Q I h;refine isTrue_or (b8 (ha pins s σ H Q I h) λc s1 e=>?_);cases c with
 |false=>exact isTrue_or_nil e
 |true=>exact e
def M7(ha:PT X a tA)(hb:PW X (.BoolOp .And (b :: rest) pos) GJ):PW X (.BoolOp .And (a :: b :: rest) pos) (Cc tA GJ):=by
 intro wh pins s σ H Q I h;refine isTrue_and (b8 (ha pins s σ H _ I h) λc s1 ⟨H1,I1,q1⟩=>?_);cases c with
 |true=>exact hb wh pins s1 σ H1 Q I1 q1
 |false=>exact⟨H1,I1,q1⟩
def JZ(ha:PT X a tA)(hb:PW X (.BoolOp .Or (b :: rest) pos) GJ):PW X (.BoolOp .Or (a :: b :: rest) pos) (M4 tA GJ):=by
 intro wh pins s σ H Q I h;refine isTrue_or (b8 (ha pins s σ H _ I h) λc s1 ⟨H1,I1,q1⟩=>?_);cases c with
 |true=>exact⟨H1,I1,q1⟩
 |false=>exact hb wh pins s1 σ H1 Q I1 q1
def yd(ha:PT X a tA):PT X (.UnaryOp .Not a pos) (Cd tA):=by intro pins s σ H Q I h;exact isTrue_not (ha pins s σ H (λc H1=>Q (!c) H1) I h)
abbrev wI(ta tb:TE):TE:=λσ H Q=>ta σ H λx H1=>∃c,x=.bl c/\if c=true then tb σ H1 Q else Q (.bl false) H1
def ye{op}{t:TE}(h:PE X a t):PE X (.BoolOp op [a] pos) t:=λpins s σ H Q I hw=>BoolOp_one (h pins s σ H Q I hw)
def yf(ha:PE X a ta)(hb:PE X (.BoolOp .And (b :: rest) pos) tb):PE X (.BoolOp .And (a :: b :: rest) pos) (wI ta tb):=by
 intro pins s σ H Q I h;refine BoolOp_and (b8 (ha pins s σ H _ I h) λv s1 ⟨x,H1,I1,r1,q1⟩=>?_);obtain⟨c,rfl,q1⟩:=q1;cases r1;refine wpAny_truthy_bool ?_;cases c with
 |true=>exact hb pins s1 σ H1 Q I1 q1
 |false=>exact⟨.bl false,H1,I1,rfl,q1⟩
end
abbrev jZ(K:Zfr)(H:Hp)(a:Addr)(xs:List V):Prop :=
 Rd H a (.lst xs) \/
  ∃(o:Obj) (its:Array Value) (n:Nat),K.lookup a=some o/\o.cls=.type "list" /\ o.dict=none/\o.data=.seq its n/\its.size<=sizeLine/\Vals xs its.toList
abbrev dr(K:Zfr)(H:Hp)(a:Addr)(xs:List V):Prop :=
 Rd H a (.tup xs) \/
  ∃(o:Obj) (its:Array Value) (n:Nat),K.lookup a=some o/\o.cls=.type "tuple" /\ o.dict=none/\o.data=.seq its n/\its.size<=sizeLine/\Vals xs its.toList
abbrev J0:Value->Option V
 |.none=>some .non
 |.bool b=>some (.bl b)
 |.int i _=>some (.int i)
 |.str x _=>some (.str x)
 |.bytes b _=>some (.tD b)
 |.float b _=>some (.JQ b)
 |.ref a=>some (.ref a)
 |.type n=>some (.ty n)
 |_=>none
def RelV.abs{x:V}{u:Value}(r:RelV x u):J0 u=some x:=by
 cases x with
 |non=>cases r;rfl
 |bl _=>cases r;rfl
 |int _=>obtain⟨t,rfl⟩:=r;rfl
 |str _=>obtain⟨t,rfl⟩:=r;rfl
 |tD _=>obtain⟨t,rfl⟩:=r;rfl
 |JQ _=>obtain⟨t,rfl⟩:=r;rfl
 |ref _=>cases r;rfl
 |ty _=>cases r;rfl
def RelV.inj{x y:V}{u:Value}(r:RelV x u)(q:RelV y u):x=y:=Zam (r.abs.symm.trans q.abs)
def Vals.inj:∀{xs ys:List V} {us:List Value},Vals xs us->Vals ys us->xs=ys
 |_,_,_,.nil,.nil=>rfl
 |_,_,_,.cons r t,.cons r' t'=>by rw[r.inj r',Vals.inj t t']
section
variable {X:Cx}{pins:List (Addr×Obj)}{σ:St}{H:Hp}{s:Shared}{a:Addr}{xs ys:List V}
def dr.of{K:Zfr}(h:H a=some (.tup xs)):dr K H a xs:=.inl (.inl h)
def Inv.list(I:Inv X pins σ H s)(h:jZ X.K H a xs):∃its:List Value,Vals xs its/\PlainL s.heap a its.toArray/\xs.length<=sizeLine:=by
 rcases h with h|⟨o,its,n,hk,hc,hd,hs,hz,r⟩
 obtain⟨z,its,n,r,e⟩:=h.ok I.hok;exact⟨its,r,⟨_,n,e,rfl,rfl,rfl⟩,z⟩;refine⟨its.toList,r,⟨o,n,I.GD a o hk,hc,hd,by simpa using hs⟩,?_⟩;have e:=r.length;simp only[Za1]at e;lk
def Inv.pk(I:Inv X pins σ H s)(h:dr X.K H a xs):∃its:List Value,Vals xs its/\pg s.heap a its.toArray/\xs.length<=sizeLine:=by
 rcases h with h|⟨o,its,n,hk,hc,hd0,hs,hz,r⟩
 obtain⟨z,its,r,p⟩:=h.ok I.hok;exact⟨its,r,p,z⟩;refine⟨its.toList,r,⟨o,I.GD a o hk,hc,hd0,n,by simpa using hs⟩,?_⟩;have e:=r.length;simp only[Za1]at e;lk
def Inv.tuple(I:Inv X pins σ H s)(h:dr X.K H a xs):∃its:List Value,Vals xs its/\IsTup s.heap a its.toArray/\xs.length<=sizeLine :=
 let ⟨its,r,p,z⟩:=I.pk h
 ⟨its,r,p.tup,z⟩
def Inv.qd(I:Inv X pins σ H s)(h:jZ X.K H a xs)(h':jZ X.K H a ys):xs=ys:=by
 obtain⟨its,r,⟨o,n,e,_,_,d⟩,_⟩:=I.list h;obtain⟨its',r',⟨o',n',e',_,_,d'⟩,_⟩:=I.list h';rw[e]at e';cases e';rw[d]at d';injection d' with d1 _;have:its=its':=by simpa using congrArg Array.toList d1
 subst this;exact r.inj r'
def Inv.iY(I:Inv X pins σ H s)(h:dr X.K H a xs)(h':dr X.K H a ys):xs=ys:=by
 obtain⟨its,r,⟨o,e,_,n,d⟩,_⟩:=I.tuple h;obtain⟨its',r',⟨o',e',_,n',d'⟩,_⟩:=I.tuple h';rw[e]at e';cases e';rw[d]at d';injection d' with d1 _;have:its=its':=by simpa using congrArg Array.toList d1
 subst this;exact r.inj r'
end
@[reducible]def Cx.wish(X:Cx)(E:Value->Shared->Prop):Cx:={ X with xe:=E }
@[reducible]def Cx.nE(X:Cx):Cx:=X.wish λ_ _=>False
def Cx.Ok.wish{X:Cx}(ok:X.Ok)(E:Value->Shared->Prop):(X.wish E).Ok :=
 ⟨ok.mod,ok.kind,ok.glob,ok.blt,ok.above,ok.inj,ok.has,ok.B7,ok.hd,ok.frames,ok.stk,ok.MY,ok.bs,ok.wG,ok.tG,ok.vf,ok.og,ok.A6⟩
def Cx.Ok.kl{X:Cx}{E:Value->Shared->Prop}(ok:(X.wish E).Ok):X.Ok :=
 ⟨ok.mod,ok.kind,ok.glob,ok.blt,ok.above,ok.inj,ok.has,ok.B7,ok.hd,ok.frames,ok.stk,ok.MY,ok.bs,ok.wG,ok.tG,ok.vf,ok.og,ok.A6⟩
section
variable {X:Cx}{pins:List (Addr×Obj)}{σ:St}{H:Hp}{s:Shared}{E:Value->Shared->Prop}
def Inv.wish(I:Inv X pins σ H s)(E:Value->Shared->Prop):Inv (X.wish E) pins σ H s:=⟨I.ok.wish E,I.os,I.bare,I.base,I.loc,I.cell,I.free,I.lG,I.pin,I.hok,I.len⟩
def Inv.kl(I:Inv (X.wish E) pins σ H s):Inv X pins σ H s:=⟨I.ok.kl,I.os,I.bare,I.base,I.loc,I.cell,I.free,I.lG,I.pin,I.hok,I.len⟩
def SP.kl{D:Ends}{f:Flow}{s':Shared}(h:SP (X.wish E) pins D f s'):SP X pins D f s':=by
 cases f with
 |next=>obtain⟨σ',H',I,q⟩:=h;exact⟨σ',H',I.kl,q⟩
 |brk=>obtain⟨σ',H',I,q⟩:=h;exact⟨σ',H',I.kl,q⟩
 |cont=>obtain⟨σ',H',I,q⟩:=h;exact⟨σ',H',I.kl,q⟩
 |ret u=>obtain⟨v,σ',H',I,r,q⟩:=h;exact⟨v,σ',H',I.kl,r,q⟩
def sx.nE{st:List Stmt}{t:TS}(h:sx X.nE st t):sx X st t:=λpins s σ H D I hw =>
 wpAny_mono (h pins s σ H D (I.wish _) hw) (λ_ _ q=>q.kl) λ_ _ z=>False.elim z
end
section
variable {X:Cx}{st:Stmt}{rest:List Stmt}{t u:TS}{e:Expr}{te:TE}{pos:Pos}
abbrev wJ:TS:=λD σ H=>D.nx σ H
abbrev Ce(t u:TS):TS:=λD σ H=>t { D with nx:=u D } σ H
def l6:sx X [] wJ:=λ_ _ σ H _ I h=>wpAny_execs_nil ⟨σ,H,I,h⟩
def R0(h1:PS X st t)(h2:sx X rest u):sx X (st :: rest) (Ce t u):=by
 intro pins s σ H D I h;refine wpAny_execs_cons (b8 (h1 pins s σ H { D with nx:=u D } I h) λf s1 q=>?_);cases f with
 |next =>
  obtain⟨σ',H',I',q⟩:=q;exact h2 pins s1 σ' H' D I' q
 |ret v=>exact q
 |brk=>exact q
 |cont=>exact q
def R1(h1:PS X st t):sx X [st] t:=by
 intro pins s σ H D I h;refine wpAny_execs_cons (b8 (h1 pins s σ H D I h) λf s1 q=>?_);cases f with
 |next=>exact wpAny_execs_nil q
 |ret v=>exact q
 |brk=>exact q
 |cont=>exact q
abbrev tJ:TS:=λD σ H=>D.bk σ H
def R3:PS X (.Break pos) tJ:=λ_ _ σ H _ I h=>wpAny_Break ⟨σ,H,I,h⟩
def Inv.quiet{pins:List (Addr×Obj)}{σ:St}{H:Hp}{s:Shared}(I:Inv X pins σ H s):interactive X.env=false:=by simp[interactive,I.ok.kind]
abbrev wK(te:TE):TS:=λD σ H=>te σ H λ_ H1=>D.nx σ H1
def rn(he:PE X e te)(hs:swapsWith e none pos.line X.env=pure false:=by rfl):PS X (.Expr e pos) (wK te):=by intro pins s σ H D I h;exact wpAny_Expr_any (b8 (he pins s σ H _ I h) λv s1 ⟨x,H1,I1,r1,q1⟩=>⟨σ,H1,I1,q1⟩) I.quiet hs
abbrev Cf(te:TE):TS:=λD σ H=>te σ H D.rt
def cR(he:PE X e te):PS X (.Return (some e) pos) (Cf te):=by intro pins s σ H D I h;exact wpAny_Return_some (b8 (he pins s σ H _ I h) λv s1 ⟨x,H1,I1,r1,q1⟩=>⟨x,σ,H1,I1,r1,q1⟩)
abbrev Cg(c:TT)(t u:TS):TS:=λD σ H=>c σ H λb H1=>if b=true then t D σ H1 else u D σ H1
def Ci{c:Expr}{a b:List Stmt}{tc:TT}(hc:PT X c tc)(ha:sx X a t)(hb:sx X b u):PS X (.If c a b pos) (Cg tc t u):=by
 intro pins s σ H D I h;refine wpAny_If (b8 (hc pins s σ H _ I h) λd s1 ⟨H1,I1,q1⟩=>?_);cases d with
 |true=>exact ha pins s1 σ H1 D I1 q1
 |false=>exact hb pins s1 σ H1 D I1 q1
abbrev tK:TS:=λ_ _ _=>False
def M8:PS X st tK:=λ_ _ _ _ _ _ h=>h.elim
end
@[reducible]def TG:=V->St->Hp->(St->Hp->Prop)->Prop
@[reducible]def uR:=List V->St->Hp->(St->Hp->Prop)->Prop
abbrev PG(X:Cx)(target:Expr)(t:TG):Prop :=
 ∀(pins:List (Addr×Obj)) (s:Shared) (σ:St) (H:Hp) (v:V) (u:Value) (Q:St->Hp->Prop),Inv X pins σ H s->RelV v u->t v σ H Q ->
  wpAny (model X.prog X.w) X.A (assign target X.env u) (λ_ s'=>∃σ' H',Inv X pins σ' H' s'/\Q σ' H') X.xe s
abbrev GK(X:Cx)(ts:List Expr)(t:uR):Prop :=
 ∀(pins:List (Addr×Obj)) (s:Shared) (σ:St) (H:Hp) (vs:List V) (us:List Value) (Q:St->Hp->Prop),Inv X pins σ H s->Vals vs us->t vs σ H Q ->
  wpAny (model X.prog X.w) X.A (assignInOrder ((assignEach ts X.env).map (·.2)) us) (λ_ s'=>∃σ' H',Inv X pins σ' H' s'/\Q σ' H') X.xe s
@[reducible]def yg:=V->V->V->Hp->(Hp->Prop)->Prop
abbrev Cj(X:Cx)(t:yg):Prop :=
 ∀(pins:List (Addr×Obj)) (s:Shared) (σ:St) (H:Hp) (o i v:V) (ov iv u:Value) (Q:Hp->Prop),Inv X pins σ H s->RelV o ov->RelV i iv->RelV v u->t o i v H Q ->
  wpAny (model X.prog X.w) X.A (setItem ov iv u) (λ_ s'=>∃H',Inv X pins σ H' s'/\Q H') X.xe s
section
variable {X:Cx}{pos:Pos}
abbrev qe(i:Nat):TG:=λv σ H Q=>Q (σ.set i (some v)) H
def dU{i:Nat}{x:Str}(hN:X.N.Nodup)(hi:X.N[i]?=some x)(hx:Loc X.env.scope x)(hf:X.fn x=true\/X.env.scope.names.lookup x=some .local:=by first|exact .inl rfl|exact .inr rfl|assumption):PG X (.Name x pos) (qe i):=by intro pins s σ H v u Q I r h;exact wpAny_assign_Name (GH I hN hi hx r (λs' I'=>⟨_,H,I',h⟩) hf)
abbrev Ck:uR:=λvs σ H Q=>vs=[]/\Q σ H
abbrev wL(t:TG)(u:uR):uR:=λvs σ H Q=>∃v r,vs=v :: r/\t v σ H λσ' H'=>u r σ' H' Q
def vg:GK X [] Ck:=by intro pins s σ H vs us Q I r h;obtain⟨e,h⟩:=h;subst e;cases r;exact assignInOrder_nil ⟨σ,H,I,h⟩
def pq{e:Expr}{es:List Expr}{t:TG}{u:uR}(h1:PG X e t)(h2:GK X es u)
  (hs:(assignEach (e :: es) X.env).map (·.2)=assign e X.env :: (assignEach es X.env).map (·.2):=by rfl):GK X (e :: es) (wL t u):=by
 intro pins s σ H vs us Q I r h;obtain⟨v,vr,e1,h⟩:=h;subst e1;cases r with
 |cons r rr =>
  rw[hs];refine assignInOrder_cons (b8 (h1 pins s σ H _ _ _ I r h) λ_ s1 ⟨σ1,H1,I1,q1⟩=>?_);exact h2 pins s1 σ1 H1 _ _ Q I1 rr q1
abbrev Cm(K:Zfr)(n:Nat)(t:uR):TG:=λv σ H Q=>∃a xs,v=.ref a/\dr K H a xs/\xs.length=n/\t xs σ H Q
def vh{es:List Expr}{k:Nat}{t:uR}{n:Nat}(hc:X.calm=true)(h:GK X es t)
  (hn:(assignEach es X.env).length=n:=by rfl) (hst:(assignEach es X.env).findIdx? (·.1)=none:=by rfl):PG X (.Tuple es k pos) (Cm X.K n t):=by
 intro pins s σ H v u Q I r hw;obtain⟨a,xs,e1,hq,hl,hw⟩:=hw;subst e1;cases r;obtain⟨its,rv,ht,hz⟩:=I.tuple hq;refine assign_Tuple_tuple (I.ok.hd hc) ht (by simp[hn,<- hl,rv.length]) hst λh' hx=>?_;have I1:Inv X pins σ H { s with heap:=h' }:=I.kept (t':=s.toks) λb o e=>hx b o (ZaU (Zav e)) e;exact h pins _ σ H xs _ Q I1 (by simpa using rv) hw
abbrev jh(to ti:TE)(t:yg):TG:=λv σ H Q=>to σ H λo H1=>ti σ H1 λi H2=>t o i v H2 λH3=>Q σ H3
def A8{o i:Expr}{to ti:TE}{t:yg}(ho:PE X o to)(hi:PE X i ti)(hs:Cj X t)
  (ha:∀v,assign (.Subscript o i pos) X.env v=(do
   let ov <- holding [v] (eval o X.env)
   let iv <- holding [v,ov] (eval i X.env)
   standAt pos
   holding [v,ov,iv] (setItem ov iv v)
   release [v,ov,iv] []):=by intro _;rfl):PG X (.Subscript o i pos) (jh to ti t):=by
 intro pins s σ H v u Q I r h;rw[ha];refine wpAny_bind (wpAny_holding (b8 (ho pins s σ H _ I h) λov s1 ⟨x,H1,I1,r1,q1⟩=>?_));refine wpAny_bind (wpAny_holding (b8 (hi pins s1 σ H1 _ I1 q1) λiv s2 ⟨y,H2,I2,r2,q2⟩=>?_));refine wpAny_bind (wpAny_standAt (wpAny_bind (wpAny_holding (b8 (hs pins s2 σ H2 x y v ov iv u _ I2 r1 r2 r q2) λ_ s3 ⟨H3,I3,q3⟩=>?_))));exact wpAny_release ⟨σ,H3,I3,q3⟩
abbrev vk(te:TE)(g:TG):TS:=λD σ H=>te σ H λx H1=>g x σ H1 D.nx
def uS{tg e:Expr}{te:TE}{g:TG}(he:PE X e te)(hg:PG X tg g)(hs:swapsWithSole [tg] e pos.line X.env=pure false:=by rfl)(hw:swappedStores [tg] e X.env=pure none:=by rfl)
  (h1:(assignEach [tg] X.env).map (·.2)=[assign tg X.env]:=by rfl):PS X (.Assign [tg] e pos) (vk te g):=by
 intro pins s σ H D I h;refine wpAny_Assign_stores (b8 (he pins s σ H _ I h) λv s1 ⟨x,H1,I1,r1,q1⟩=>?_) hs hw;rw[h1];exact b8 (hg pins s1 σ H1 x v _ I1 r1 q1) λ_ s2 q=>q
def yh{i:Nat}{x:Str}{e:Expr}{te:TE}{pos':Pos}(hN:X.N.Nodup)(hi:X.N[i]?=some x)(hx:Loc X.env.scope x)(he:PE X e te)(hs:swapsWith e (some (.Name x pos')) pos.line X.env=pure false:=by rfl)(hf:X.fn x=true\/X.env.scope.names.lookup x=some .local:=by first | exact .inl rfl | exact .inr rfl | assumption):
  PS X (.Assign [.Name x pos'] e pos) (vk te (qe i)):=by
 intro pins s σ H D I h;refine wpAny_Assign_Name (b8 (he pins s σ H _ I h) λv s1 ⟨y,H1,I1,r1,q1⟩=>?_) hs;exact GH I1 hN hi hx r1 (λs2 I2=>⟨_,H1,I2,q1⟩) hf
abbrev Cn(i j:Nat)(ta:TA):TS:=λD σ H=>ta σ H λvs H1=>∃v w,vs=[v,w]/\D.nx ((σ.set i (some v)).set j (some w)) H1
def A9{i j:Nat}{x y:Str}{a b:Expr}{ta:TA}{px py pt:Pos}{kt k2 J1}(hc:X.calm=true)(hN:X.N.Nodup)(hi:X.N[i]?=some x)(hj:X.N[j]?=some y)(hij:i≠j)
  (hx:X.env.scope.names.lookup x=some .local) (hy:X.env.scope.names.lookup y=some .local) (ha:PA X [a,b] ta)
  (hw:swappedStores [.Tuple [.Name x px,.Name y py] kt pt] (.Tuple [a,b] k2 J1) X.env=pure (some [x,y]))
  (hs:swapsWithSole [.Tuple [.Name x px,.Name y py] kt pt] (.Tuple [a,b] k2 J1) pos.line X.env=pure false:=by rfl) :
  PS X (.Assign [.Tuple [.Name x px,.Name y py] kt pt] (.Tuple [a,b] k2 J1) pos) (Cn i j ta):=by
 intro pins s σ H D I h;rw[exec_Assign_arm];refine wpAny_bind (wpAny_standAt ?_);rw[hs];refine wpAny_bind (wpAny_pure ?_);rw[if_neg ∅];refine wpAny_bind (Tuple_ (b8 (ha _ pins s σ H _ I h) λus s1 ⟨vs,H1,I1,r1,q1⟩=>?_));obtain⟨v,w,e1,q1⟩:=q1;subst e1;obtain⟨u1,u2,rfl,rv,rw'⟩:∃u1 u2,us=[u1,u2]/\RelV v u1/\RelV w u2:=by
  cases r1 with
  |cons p q =>
   cases q with
   |cons p' q' =>
    cases q';exact⟨_,_,rfl,p,p'⟩
 refine wpAny_newObj_type ?_ (by show 2<=sizeLine;decide);have I2:Inv X pins σ H1 { s1 with heap:=s1.heap.push { cls:=.type "tuple",data:=.seq [u1,u2].toArray } }:=I1.kept (t':=s1.toks) λb o e=>Zai _ e;rw[hw];refine wpAny_bind (wpAny_pure ?_);show wpAny (model X.prog X.w) X.A (do rule "assign.swapped-stores";let items <- unpackItems (.ref s1.heap.objs.size) 2 none;assignInOrder [λv=>bindName X.env y v,λv=>bindName X.env x v] items.reverse;pure Flow.next) _ _ _;refine wpAny_bind (wpAny_rule (wpAny_bind (unpackItems_tuple (items:=#[u1,u2]) (I.ok.hd hc) (IsTup.new s1.heap _) λh' hx'=>?_)));have I3:=I2.kept (h':=h') (t':=s1.toks) λb o e=>hx' b o (ZaU (Zav e)) e;show wpAny _ _ (assignInOrder [λv=>bindName X.env y v,λv=>bindName X.env x v] [u2,u1] >>= λ_=>pure Flow.next) _ _ _;refine wpAny_bind (assignInOrder_cons (wpAny_bindName (GH I3 hN hj (.inl hy) rw' (λs2 I4=>?_) (.inr hy))));refine assignInOrder_cons (wpAny_bindName (GH I4 hN hi (.inl hx) rv (λs3 I5=>assignInOrder_nil (wpAny_pure ?_)) (.inr hx)));rw[List.set_comm _ _ (Ne.symm hij)]at I5;exact⟨_,H1,I5,q1⟩
end
section
variable {X:Cx}{pos:Pos}
abbrev tL(c:TT)(tb:TS):TS:=λD σ H=>∃W:Nat->St->Hp->Prop,(∃m,W m σ H)/\∀m σ H,W m σ H ->
 c σ H λb H1=>if b=true then∃N:St->Hp->Prop,(∀σ' H',N σ' H'->∃m',m' < m/\W m' σ' H')/\tb { D with nx:=N,ct:=N,bk:=D.nx } σ H1 else D.nx σ H1
def tM{c:Expr}{body:List Stmt}{tc:TT}{tb:TS}(hp:PassesOwn (model X.prog X.w) X.A X.env X.xe)(hc:PT X c tc)(hb:sx X body tb):PS X (.While c body [] pos) (tL tc tb):=by
 intro pins s σ H D I h;obtain⟨W,⟨m0,w0⟩,turn⟩:=h;refine wpAny_While (codeAny_whileLoop (λn s'=>∃σ' H',Inv X pins σ' H' s'/\W n σ' H') ?_ m0 ⟨σ,H,I,w0⟩);rintro n s1 ⟨σ1,H1,I1,w1⟩;refine wpAny_passesOwn hp (b8 (hc pins s1 σ1 H1 _ I1 (turn n σ1 H1 w1)) λb s2 ⟨H2,I2,q2⟩=>?_);cases b with
 |true =>
  obtain⟨N,hN,q2⟩:=q2;rw[if_pos rfl];refine wpAny_passesOwn hp (b8 (hb pins s2 σ1 H2 _ I2 q2) λf s3 q3=>?_);cases f with
  |next =>
   obtain⟨σ3,H3,I3,n3⟩:=q3;obtain⟨m',hm,w3⟩:=hN σ3 H3 n3;exact⟨m',hm,σ3,H3,I3,w3⟩
  |cont =>
   obtain⟨σ3,H3,I3,n3⟩:=q3;obtain⟨m',hm,w3⟩:=hN σ3 H3 n3;exact⟨m',hm,σ3,H3,I3,w3⟩
  |brk=>exact q3
  |ret v=>exact q3
 |false =>
  rw[if_neg Zaj];exact wpAny_execs_nil ⟨σ1,H2,I2,q2⟩
end
set_option genInjectivity false in
structure It where
 go:Nat->Hp->Prop
 vm:Nat->Hp->V->Hp->Prop
 stop:Nat->Hp->Prop
abbrev mQ(X:Cx)(pins:List (Addr×Obj))(H:Hp)(b:Addr):Prop :=
 H b=none/\b≠X.env.locals/\b ∉ X.fs/\(b∈X.ex\/X.s₀.heap.objs.size<=b)/\(∀x c,X.env.cells.lookup x=some c->c≠b)/\∀p∈X.pn ++ pins,p.1≠b
def Inv.qC{X:Cx}{pins:List (Addr×Obj)}{σ:St}{H H':Hp}{s:Shared}{b:Addr}(I:Inv X pins σ H s)(hb:s.heap.objs.size<=b)(hn:H' b=none):mQ X pins H' b:=by refine⟨hn,Nat.ne_of_gt (ZaQ I.lt hb),I.B8 hb,.inr (Zap I.sz hb),λx c e z=>?_,λp hp z=>?_⟩;obtain⟨v,q⟩:=I.cell x c e;exact absurd (ZaQ q.lt (by rw[z];exact hb)) (ZbP _);exact absurd (ZaQ (Zav (I.pin p hp).1) (by rw[z];exact hb)) (ZbP _)
structure Turn(P:Program)(w:World)(K:Zfr)(tg:Expr)(J:It)(fp:List Addr)(it:Addr)(tn:Nat->Heap->Prop):Prop where
 mem:it∈fp
 obj:∀i h,tn i h->∀b∈fp,∃o,h.get? b=some o/\∀v,o.data≠.cell v
 keep:∀i h h',tn i h->(∀b∈fp,∀o,h.get? b=some o->h'.get? b=some o)->tn i h'
 item:∀(X:Cx),X.prog=P->X.w=w->X.K=K->X.calm=true->∀(i:Nat) (pins:List (Addr×Obj)) (s:Shared) (σ:St) (H:Hp) (E:Value->Shared->Prop),Inv X pins σ H s->(∀b∈fp,mQ X pins H b)->tn i s.heap->J.go i H ->
  wpAny (model P w) X.A (pyNext (.ref it)) (λr s1=>∃u,r=some u /\
   wpAny (model P w) X.A (letOwnedTupleGo tg (.ref it) u) (λ_ s2=>∃x H',Inv X pins σ H' s2/\RelV x u/\J.vm i H x H'/\tn (i+1) s2.heap/\∀b∈fp,H' b=none) E s1) E s
 done:∀(X:Cx),X.prog=P->X.w=w->X.K=K->X.calm=true->∀(i:Nat) (pins:List (Addr×Obj)) (s:Shared) (σ:St) (H:Hp) (E:Value->Shared->Prop),Inv X pins σ H s->(∀b∈fp,mQ X pins H b)->tn i s.heap->J.stop i H ->
  wpAny (model P w) X.A (pyNext (.ref it)) (λr s1=>r=none/\Inv X pins σ H s1) E s
 self:∀(A:Around) (i:Nat) (s:Shared) (Q:Value->Shared->Prop) (E:Value->Shared->Prop),tn i s.heap->Q (.ref it) s->wpAny (model P w) A (pyIter (.ref it)) Q E s
@[reducible]def TI:=St->Hp->(It->Hp->Prop)->Prop
abbrev J2(X:Cx)(pins:List (Addr×Obj))(σ:St)(tg:Expr)(R:It->Hp->Prop)(itv:Value)(s2:Shared):Prop :=
 ∃(it:Addr) (fp:List Addr) (tn:Nat->Heap->Prop) (J:It) (H':Hp),itv=.ref it/\Inv X pins σ H' s2/\Turn X.prog X.w X.K tg J fp it tn/\tn 0 s2.heap/\(∀b∈fp,mQ X pins H' b)/\R J H'
abbrev PI(X:Cx)(tg iter:Expr)(wi:TI):Prop :=
 ∀(pins:List (Addr×Obj)) (s:Shared) (σ:St) (H:Hp) (R:It->Hp->Prop),Inv X pins σ H s->wi σ H R ->
  wpAny (model X.prog X.w) X.A (eval iter X.env) (λv s1=>wpAny (model X.prog X.w) X.A (pyIter v) (J2 X pins σ tg R) X.xe s1) X.xe s
def GL{M:Model}{A:Around}{E:Value->Shared->Prop}{s:Shared}{tg:Expr}{it:Addr}{u:Value}{o:Obj}{n:String}{vs:Array Value}{Q:Unit->Shared->Prop}(ho:s.heap.get? it=some o)(hc:o.cls=.type n)(hd:o.data=.fields vs)
  (hn:["enumerate","zip","dict_itemiterator","dict_reverseitemiterator","odict_iterator","itertools.zip_longest","itertools.pairwise"].contains n=false) (hQ:Q () s):wpAny M A (letOwnedTupleGo tg (.ref it) u) Q E s:=by
 unfold letOwnedTupleGo;cases tg<;>first
  |exact wpAny_pure hQ
  | (cases u <;> first
    |exact wpAny_pure hQ
    | (refine wpAny_bind (wpAny_load ho ?_)
       rw[hc,hd];show wpAny M A (if(["enumerate","zip","dict_itemiterator","dict_reverseitemiterator","odict_iterator","itertools.zip_longest","itertools.pairwise"].contains n && vs[0]? == some (rawInt _))=true then _ else _) Q E s;rw[if_neg (by intro h;rw[hn,Bool.false_and]at h;cases h)]
       exact wpAny_pure hQ))
abbrev M9(K:Zfr)(a:Addr):It :=
 ⟨λi H=>∃xs x,jZ K H a xs/\xs[i]?=some x,λi H x H'=>H'=H/\∀xs,jZ K H a xs->xs[i]?=some x,λi H=>∃xs,jZ K H a xs/\xs.length<=i⟩
abbrev Na(K:Zfr)(a:Addr):It :=
 ⟨λi H=>∃xs x,dr K H a xs/\xs[i]?=some x,λi H x H'=>H'=H/\∀xs,dr K H a xs->xs[i]?=some x,λi H=>∃xs,dr K H a xs/\xs.length<=i⟩
abbrev GN(lo:Int)(n:Nat):It:=⟨λi _=>i<n,λi H x H'=>H'=H/\x=.int (lo+i),λi _=>n<=i⟩
def R4{P:Program}{w:World}{K:Zfr}{tg:Expr}(a it:Addr):Turn P w K tg (M9 K a) [it] it (λi h=>h.IsListIter it a i) where
 mem:=by simp
 obj:=λi h st b hb=>by
  have e:b=it:=by simpa using hb
  subst e;obtain⟨o,e,c,d⟩:=st;exact⟨o,e,λv z=>by rw[d]at z;cases z⟩
 keep:=λi h h' st k=>st.at λo e=>k it (by simp) o e
 item:=by
  intro X hP hw hK hc i pins s σ H E I hf st hg;subst hP hw hK;obtain⟨xs,x,hq,hx⟩:=hg;obtain⟨its,rv,p,hz⟩:=I.list hq;obtain⟨u,hu,ru⟩:=rv.get hx;obtain⟨f0,f1,f2,f3,f4,f5⟩:=hf it (by simp);refine wpAny_pyNext_list_item st p.isList (x:=u) (by simpa using hu) λh' st' sb=>?_;have I1:Inv X pins σ H { s with heap:=h' }:=I.turned (t':=s.toks) (λb o hb e=>(sb.2 b hb).trans e) f0 f1 f3 f4 f5;obtain⟨o,e,c,d⟩:=id st';exact⟨u,rfl,GL (s:={ s with heap:=h' }) e c d ∅ ⟨x,H,I1,ru,⟨rfl,λys hy=>by rw[I.qd hy hq];exact hx⟩,st',λb hb=>(hf b hb).1⟩⟩
 done:=by
  intro X hP hw hK hc i pins s σ H E I hf st hg;subst hP hw hK;obtain⟨xs,hq,hx⟩:=hg;obtain⟨its,rv,p,hz⟩:=I.list hq;obtain⟨f0,f1,f2,f3,f4,f5⟩:=hf it (by simp);have hl:=rv.length;exact wpAny_pyNext_list_end (I.ok.hd hc) st p.isList (by simp;lk) λh' eb=>⟨rfl,I.turned (t':=s.toks) (λb o hb e=>eb b o hb e) f0 f1 f3 f4 f5⟩
 self:=λ_ _ _ _ _ st h=>wpAny_pyIter_listiter st h
def R5{P:Program}{w:World}{K:Zfr}{tg:Expr}(a it:Addr):Turn P w K tg (Na K a) [it] it (λi h=>h.IsTupleIter it a i) where
 mem:=by simp
 obj:=λi h st b hb=>by
  have e:b=it:=by simpa using hb
  subst e;obtain⟨o,e,c,d⟩:=st;exact⟨o,e,λv z=>by rw[d]at z;cases z⟩
 keep:=λi h h' st k=>st.at λo e=>k it (by simp) o e
 item:=by
  intro X hP hw hK hc i pins s σ H E I hf st hg;subst hP hw hK;obtain⟨xs,x,hq,hx⟩:=hg;obtain⟨its,rv,p,hz⟩:=I.tuple hq;obtain⟨u,hu,ru⟩:=rv.get hx;obtain⟨f0,f1,f2,f3,f4,f5⟩:=hf it (by simp);refine wpAny_pyNext_tuple_item st (show s.heap.IsTuple a its.toArray from p) (x:=u) (by simpa using hu) λh' st' sb=>?_;have I1:Inv X pins σ H { s with heap:=h' }:=I.turned (t':=s.toks) (λb o hb e=>(sb.2 b hb).trans e) f0 f1 f3 f4 f5;obtain⟨o,e,c,d⟩:=id st';exact⟨u,rfl,GL (s:={ s with heap:=h' }) e c d ∅ ⟨x,H,I1,ru,⟨rfl,λys hy=>by rw[I.iY hy hq];exact hx⟩,st',λb hb=>(hf b hb).1⟩⟩
 done:=by
  intro X hP hw hK hc i pins s σ H E I hf st hg;subst hP hw hK;obtain⟨xs,hq,hx⟩:=hg;obtain⟨its,rv,p,hz⟩:=I.tuple hq;obtain⟨f0,f1,f2,f3,f4,f5⟩:=hf it (by simp);have hl:=rv.length;exact wpAny_pyNext_tuple_end (I.ok.hd hc) st (show s.heap.IsTuple a its.toArray from p) (by simp;lk) λh' eb=>⟨rfl,I.turned (t':=s.toks) (λb o hb e=>eb b o hb e) f0 f1 f3 f4 f5⟩
 self:=λ_ _ _ _ _ st h=>wpAny_pyIter_tupleiter st h
def R6{P:Program}{w:World}{K:Zfr}{tg:Expr}(it:Addr)(lo:Int)(n:Nat):Turn P w K tg (GN lo n) [it] it (λi h=>IsRangeIter h it (lo+(i:Nat)*1) ((n:Int)-(i:Nat)) 1) where
 mem:=by simp
 obj:=λi h st b hb=>by
  have e:b=it:=by simpa using hb
  subst e
  exact⟨_,st,λv z=>by
   have z':Data.fields _=Data.cell v:=z
   cases z'⟩
 keep:=λi h h' st k=>k it (by simp) _ st
 item:=by
  intro X hP hw hK hc i pins s σ H E I hf st hg;subst hP hw hK;obtain⟨f0,f1,f2,f3,f4,f5⟩:=hf it (by simp);have W:=Walks.range (prog:=X.prog) (w:=X.w) (I.ok.hd hc) it lo 1 n;refine W.item i s _ _ hg st λv h' tk hv st' kk=>?_;obtain⟨t,rfl⟩:=hv;have I1:Inv X pins σ H { s with heap:=h',toks:=tk }:=I.turned (λb o hb e=>kk b o (by simpa using hb) e) f0 f1 f3 f4 f5;refine⟨_,rfl,GL (s:={ s with heap:=h',toks:=tk }) (n:="range_iterator") st' rfl rfl ∅ ⟨.int (lo+i),H,I1,⟨t,?_⟩,⟨rfl,rfl⟩,st',λb hb=>(hf b hb).1⟩⟩;rw[Zb3]
 done:=by
  intro X hP hw hK hc i pins s σ H E I hf st hg;subst hP hw hK;obtain⟨f0,f1,f2,f3,f4,f5⟩:=hf it (by simp);exact wpAny_pyNext_range_end (I.ok.hd hc) st (by have:n<=i:=hg;lk) λh' eb=>⟨rfl,I.turned (t':=s.toks) (λb o hb e=>eb b o hb e) f0 f1 f3 f4 f5⟩
 self:=λ_ _ _ _ _ st h=>wpAny_pyIter_rangeiter st h
section
variable {X:Cx}{tg:Expr}
abbrev wM(K:Zfr)(tl:TE):TI:=λσ H R=>tl σ H λx H1=>∃a,x=.ref a/\(∃xs,jZ K H1 a xs)/\R (M9 K a) H1
abbrev Co(K:Zfr)(tl:TE):TI:=λσ H R=>tl σ H λx H1=>∃a,x=.ref a/\(∃xs,dr K H1 a xs)/\R (Na K a) H1
def GO{l:Expr}{tl:TE}(hl:PE X l tl):PI X tg l (wM X.K tl):=by
 intro pins s σ H R I h;refine b8 (hl pins s σ H _ I h) λv s1 ⟨x,H1,I1,r1,q1⟩=>?_;obtain⟨a,e,⟨xs,hq⟩,q⟩:=q1;subst e;cases r1;obtain⟨its,rv,p,hz⟩:=I1.list hq;refine wpAny_pyIter_list p.isList ?_;refine⟨s1.heap.objs.size,[s1.heap.objs.size],_,_,H1,rfl,I1.kept (t':=s1.toks) λb o e=>Zai _ e,R4 a _,⟨_,Zar _ rfl,rfl,rfl⟩,λb hb=>?_,q⟩;have e:b=s1.heap.objs.size:=by simpa using hb
 subst e;exact I1.qC (Zaa _) (I1.hok.fresh (Zaa _))
def oP{l:Expr}{tl:TE}(hl:PE X l tl):PI X tg l (Co X.K tl):=by
 intro pins s σ H R I h;refine b8 (hl pins s σ H _ I h) λv s1 ⟨x,H1,I1,r1,q1⟩=>?_;obtain⟨a,e,⟨xs,hq⟩,q⟩:=q1;subst e;cases r1;obtain⟨its,rv,p,hz⟩:=I1.tuple hq;refine wpAny_pyIter_tuple (show s1.heap.IsTuple a its.toArray from p) ?_;refine⟨s1.heap.objs.size,[s1.heap.objs.size],_,_,H1,rfl,I1.kept (t':=s1.toks) λb o e=>Zai _ e,R5 a _,⟨_,Zar _ rfl,rfl,rfl⟩,λb hb=>?_,q⟩;have e:b=s1.heap.objs.size:=by simpa using hb
 subst e;exact I1.qC (Zaa _) (I1.hok.fresh (Zaa _))
def R7{pins:List (Addr×Obj)}{σ:St}{H:Hp}{s:Shared}{R:It->Hp->Prop}{E:Value->Shared->Prop}{lo hi:Int}{t u v:Tok}{tk:Nat}(I:Inv X pins σ H s)(h1:-(2 ^ 62)<=lo)(h2:lo<2 ^ 62)(h3:-(2 ^ 62)<=hi)(h4:hi<2 ^ 62)
  (q:R (GN lo (hi-lo).toNat) H):wpAny (model X.prog X.w) X.A (pyIter (.ref s.heap.objs.size)) (J2 X pins σ tg R) E { s with heap:=s.heap.push { cls:=.type "range",data:=.fields #[.int lo t,.int hi u,.int 1 v] },toks:=tk }:=by
 refine wpAny_pyIter_range (IsRange.new ..) (small_one h1 h2 h3 h4) ?_;have I1:Inv X pins σ H { s with heap:=s.heap.push { cls:=.type "range",data:=.fields #[.int lo t,.int hi u,.int 1 v] },toks:=tk }:=I.kept λb o e=>Zai _ e
 refine⟨(s.heap.push { cls:=.type "range",data:=.fields #[.int lo t,.int hi u,.int 1 v] }).objs.size,[(s.heap.push { cls:=.type "range",data:=.fields #[.int lo t,.int hi u,.int 1 v] }).objs.size],_,_,H,rfl,
  I1.kept (t':=tk) λb o e=>Zai _ e,R6 _ lo (hi-lo).toNat,?_,λb hb=>?_,q⟩
 have e1:lo+((0:Nat):Int)*1=lo:=by simp
 have e2:(((hi-lo).toNat:Nat):Int)-((0:Nat):Int)=Builtin.Range.rangeSize lo hi 1:=by rw[rangeSize_one];split<;>lk
 show IsRangeIter _ _ (lo+((0:Nat):Int)*1) ((((hi-lo).toNat:Nat):Int)-((0:Nat):Int)) 1;rw[e1,e2];exact Zar _ rfl;have e:b=(s.heap.push { cls:=.type "range",data:=.fields #[.int lo t,.int hi u,.int 1 v] }).objs.size:=by simpa using hb
 subst e;exact I1.qC (Zaa _) (I1.hok.fresh (Zaa _))
abbrev wN(ta:TA):TI:=λσ H R=>ta σ H λvs H1=>∃j:Int,vs=[.int j]/\-(2 ^ 62)<=j/\j<2 ^ 62/\R (GN 0 j.toNat) H1
def qD{a:Expr}{ta:TA}{p pos:Pos}(hg:Gl X "range")(hm:X.mg "range" = none)(ha:PA X [a] ta)(hs:starEach [a] X.env=[(false,eval a X.env)]:=by rfl):PI X tg (.Call (.Name "range" p) [a] [] pos) (wN ta):=by
 intro pins s σ H R I h;refine Call_ (A7 I hg hm boot_range (PyProof.Rows.callWith_type1 (b8 (ha pos pins s σ H _ I h) λus s1 ⟨vs,H1,I1,r1,q1⟩=>?_) hs rfl));obtain⟨j,e,q1,q2,q⟩:=q1;subst e;cases r1 with
 |cons r rr =>
  cases rr;obtain⟨t,rfl⟩:=r;exact call_range_1 (R7 I1 ⋯ ⋯ q1 q2 (by simpa using q))
abbrev Cp(wi:TI)(g:TG)(tb:TS):TS:=λD σ H=>wi σ H λJ H1=>∃W:Nat->Nat->St->Hp->Prop,(∃m,W 0 m σ H1)/\∀i m σ H,W i m σ H ->
 (J.stop i H/\D.nx σ H)\/(J.go i H/\∃N:St->Hp->Prop,(∀σ' H',N σ' H'->∃m',m' < m/\W (i+1) m' σ' H')/\∀x H',J.vm i H x H'->g x σ H' λσ2 H2=>tb { D with nx:=N,ct:=N,bk:=D.nx } σ2 H2)
abbrev oi(fp:List Addr)(h:Heap):List (Addr×Obj):=fp.filterMap λb=>(h.get? b).map λo=>(b,o)
def GP{fp:List Addr}{h:Heap}{b:Addr}{o:Obj}(hb:b∈fp)(e:h.get? b=some o):(b,o)∈oi fp h:=List.mem_filterMap.mpr ⟨b,hb,by rw[e];rfl⟩
def R8{fp:List Addr}{h:Heap}{p:Addr×Obj}(hp:p∈oi fp h):p.1∈fp/\h.get? p.1=some p.2:=by
 obtain⟨b,hb,e⟩:=List.mem_filterMap.mp hp;cases q:h.get? b with
 |none=>rw[q]at e;cases e
 |some o =>
  rw[q]at e;have e':(b,o)=p:=Zam e;subst e';exact⟨hb,q⟩
def Inv.pinned{pins:List (Addr×Obj)}{σ:St}{H:Hp}{s:Shared}{fp:List Addr}(I:Inv X pins σ H s)(hf:∀b∈fp,mQ X pins H b)(ho:∀b∈fp,∃o,s.heap.get? b=some o/\∀v,o.data≠.cell v):Inv X (pins ++ oi fp s.heap) σ H s :=
 I.nT λp hp=>(Zay.mp hp).elim (λz=>I.pin p (ZaN _ z)) λz=>by
  obtain⟨hb,e⟩:=R8 z;obtain⟨f0,f1,f2,_⟩:=hf p.1 hb;obtain⟨o,e',d⟩:=ho p.1 hb;rw[e]at e';cases e';exact⟨e,f0,f1,f2,d⟩
def Inv.mr{pins pl:List (Addr×Obj)}{σ:St}{H:Hp}{s:Shared}(I:Inv X (pins ++ pl) σ H s):Inv X pins σ H s:=I.nT λp hp=>I.pin p (ZaN _ (ZbF _ hp))
def yi{iter:Expr}{body:List Stmt}{wi:TI}{g:TG}{tb:TS}{pos:Pos}(hp:PassesOwn (model X.prog X.w) X.A X.env X.xe)(hc:X.calm=true)(hi:PI X tg iter wi)(hg:PG X tg g)(hb:sx X body tb)
  (hs:∀x,foldedSetIterable iter X.env x=pure x:=by intro _;rfl):PS X (.For tg iter body [] pos) (Cp wi g tb):=by
 intro pins s σ H D I h;refine wpAny_For (b8 (hi pins s σ H _ I h) λv s1 h1=>b8 h1 λitv s2 h2=>?_) hs;obtain⟨it,fp,tn,J,H2,e,I2,T,st2,f2,W,⟨m0,w0⟩,turn⟩:=h2;subst e;have stat:∀{H':Hp},(∀b∈fp,H' b=none)->∀b∈fp,mQ X pins H' b:=λhn b hb=>⟨hn b hb,(f2 b hb).2⟩;refine codeAny_forLoop_any (λn s'=>∃i σ' H',Inv X pins σ' H' s'/\tn i s'.heap/\(∀b∈fp,H' b=none)/\W i n σ' H') ?_ m0 ⟨0,σ,H2,I2,st2,λb hb=>(f2 b hb).1,w0⟩;rintro n s3 ⟨i,σ3,H3,I3,st3,Nb,w3⟩;rcases turn i n σ3 H3 w3 with⟨stop,qn⟩|⟨go,N,hN,step⟩
 ·refine wpAny_passesOwn hp (b8 (T.done X rfl rfl rfl hc i pins s3 σ3 H3 X.xe I3 (stat Nb) st3 stop) λr s4 ⟨hr,I4⟩=>?_)
  subst hr;exact wpAny_execs_nil ⟨σ3,H3,I4,qn⟩
 ·refine wpAny_passesOwn hp (b8 (T.item X rfl rfl rfl hc i pins s3 σ3 H3 X.xe I3 (stat Nb) st3 go) λr s4 ⟨u,hr,h4⟩=>?_)
  subst hr;refine wpAny_passesOwn hp (b8 h4 λ_ s5 ⟨x,H5,I5,r5,y5,g9,GQ⟩=>?_);have R9:=I5.pinned (stat GQ) (T.obj _ _ g9);refine wpAny_passesOwn hp (b8 (hg _ s5 σ3 H5 x u _ R9 r5 (step x H5 y5)) λ_ s6 ⟨σ6,H6,I6,q6⟩=>?_);refine wpAny_passesOwn hp (b8 (hb _ s6 σ6 H6 _ I6 q6) λf s7 q7=>?_);have again:∀{σ7:St} {H7:Hp},Inv X (pins ++ oi fp s5.heap) σ7 H7 s7->N σ7 H7->∃m,m<n/\∃i σ' H',Inv X pins σ' H' s7/\tn i s7.heap/\(∀b∈fp,H' b=none)/\W i m σ' H':=λ{σ7 H7} I7 n7=>by
   obtain⟨m',hm,w7⟩:=hN σ7 H7 n7;refine⟨m',hm,i+1,σ7,H7,I7.mr,T.keep _ _ _ g9 λb hb o e=>(I7.pin (b,o) (ZaN _ (ZaN _ (GP hb e)))).1,λb hb=>?_,w7⟩;obtain⟨o,e,d⟩:=T.obj _ _ g9 b hb;exact(I7.pin (b,o) (ZaN _ (ZaN _ (GP hb e)))).2.1
  cases f with
  |next=>obtain⟨σ7,H7,I7,n7⟩:=q7;exact again I7 n7
  |cont=>obtain⟨σ7,H7,I7,n7⟩:=q7;exact again I7 n7
  |brk=>obtain⟨σ7,H7,I7,q7⟩:=q7;exact⟨σ7,H7,I7.mr,q7⟩
  |ret v=>obtain⟨x7,σ7,H7,I7,r7,q7⟩:=q7;exact⟨x7,σ7,H7,I7.mr,r7,q7⟩
end
@[reducible]def R2:=V->V->Hp->VK->Prop
abbrev lN(X:Cx)(f:Value->Value->Sem Value)(r:R2):Prop :=
 ∀(pins:List (Addr×Obj)) (s:Shared) (σ:St) (H:Hp) (x y:V) (v u:Value) (Q:VK),Inv X pins σ H s->RelV x v->RelV y u->r x y H Q ->
  wpAny (model X.prog X.w) X.A (f v u) (EP X pins σ Q) X.xe s
abbrev J3(X:Cx)(f:Value->Sem Value)(r:V->Hp->VK->Prop):Prop :=
 ∀(pins:List (Addr×Obj)) (s:Shared) (σ:St) (H:Hp) (x:V) (v:Value) (Q:VK),Inv X pins σ H s->RelV x v->r x H Q ->
  wpAny (model X.prog X.w) X.A (f v) (EP X pins σ Q) X.xe s
abbrev eZ(X:Cx)(f:Value)(r:List V->Hp->VK->Prop):Prop :=
 ∀(pins:List (Addr×Obj)) (s:Shared) (σ:St) (H:Hp) (xs:List V) (us:List Value) (Q:VK),Inv X pins σ H s->Vals xs us->r xs H Q ->
  wpAny (model X.prog X.w) X.A (call f us) (EP X pins σ Q) X.xe s
abbrev Cq(r:R2)(ta tb:TE):TE:=λσ H Q=>ta σ H λx H1=>tb σ H1 λy H2=>r x y H2 Q
abbrev Nc(r:V->Hp->VK->Prop)(ta:TE):TE:=λσ H Q=>ta σ H λx H1=>r x H1 Q
abbrev rI(C:Int->Int->Prop)(g:Int->Int->V):R2:=λx y H Q=>∃i j,x=.int i/\y=.int j/\C i j/\Q (g i j) H
abbrev sy(g:Int->Int->V):R2:=λx y H Q=>∃i j,x=.int i/\y=.int j/\Q (g i j) H
abbrev rU(g:Int->V):V->Hp->VK->Prop:=λx H Q=>∃i,x=.int i/\Q (g i) H
section
variable {X:Cx}{a b c:Expr}{ta tb tc:TE}{pos:Pos}
def yj(ha:PE X a ta)(hb:PE X b tb){pins:List (Addr×Obj)}{s:Shared}{σ:St}{H:Hp}{R:V->V->Hp->Prop}(I:Inv X pins σ H s)
  (h:ta σ H λx H1=>tb σ H1 λy H2=>R x y H2) {Q:Value->Shared->Prop} {f:Value->Value->Sem Value}
  (hf:∀v u s2 x y H2,Inv X pins σ H2 s2->RelV x v->RelV y u->R x y H2->wpAny (model X.prog X.w) X.A (f v u) Q X.xe s2) :
  wpAny (model X.prog X.w) X.A (eval a X.env) (λv s₁=>wpAny (model X.prog X.w) X.A (eval b X.env) (λu s₂=>wpAny (model X.prog X.w) X.A (f v u) Q X.xe s₂) X.xe s₁) X.xe s:=by
 refine b8 (ha pins s σ H _ I h) λv s1 ⟨x,H1,I1,r1,q1⟩=>?_;refine b8 (hb pins s1 σ H1 _ I1 q1) λu s2 ⟨y,H2,I2,r2,q2⟩=>?_;exact hf v u s2 x y H2 I2 r1 r2 q2
def bC{op:Operator}{r:R2}(ho:lN X (binaryOp op) r)(ha:PE X a ta)(hb:PE X b tb):PE X (.BinOp a op b pos) (Cq r ta tb):=by intro pins s σ H Q I h;exact wpAny_BinOp (yj ha hb I h λv u s2 x y H2 I2 rx ry q=>ho pins s2 σ H2 x y v u Q I2 rx ry q)
def oY{op:UnaryOp}{r:V->Hp->VK->Prop}(ho:J3 X (unaryOp op) r)(ha:PE X a ta):PE X (.UnaryOp op a pos) (Nc r ta):=by intro pins s σ H Q I h;exact UnaryOp_ (b8 (ha pins s σ H _ I h) λv s1 ⟨x,H1,I1,r1,q1⟩=>ho pins s1 σ H1 x v Q I1 r1 q1)
def Ba{f:Value->Value->Sem Value}{C:Int->Int->Prop}{g:Int->Int->Int}
  (rule:∀(i j:Int) (t u:Tok) (s:Shared) (Q:Value->Shared->Prop) (E:Value->Shared->Prop),C i j->Q (.int (g i j) s.toks) { s with toks:=s.toks+1 }->wpAny (model X.prog X.w) X.A (f (.int i t) (.int j u)) Q E s) :
  lN X f (rI C λi j=>.int (g i j)):=by
 intro pins s σ H x y v u Q I rx ry h;obtain⟨i,j,rfl,rfl,hc,q⟩:=h;obtain⟨t,rfl⟩:=rx;obtain⟨t',rfl⟩:=ry;exact rule i j t t' s _ _ hc ⟨.int (g i j),H,I.tok _,⟨_,rfl⟩,q⟩
def Cr{f:Value->Value->Sem Value}{g:Int->Int->Int}
  (rule:∀(i j:Int) (t u:Tok) (s:Shared) (Q:Value->Shared->Prop) (E:Value->Shared->Prop),Q (.int (g i j) s.toks) { s with toks:=s.toks+1 }->wpAny (model X.prog X.w) X.A (f (.int i t) (.int j u)) Q E s) :
  lN X f (sy λi j=>.int (g i j)):=by
 intro pins s σ H x y v u Q I rx ry h;obtain⟨i,j,rfl,rfl,q⟩:=h;obtain⟨t,rfl⟩:=rx;obtain⟨t',rfl⟩:=ry;exact rule i j t t' s _ _ ⟨.int (g i j),H,I.tok _,⟨_,rfl⟩,q⟩
def yk{f:Value->Value->Sem Value}{g:Int->Int->Bool}
  (rule:∀(i j:Int) (t u:Tok) (s:Shared) (Q:Value->Shared->Prop) (E:Value->Shared->Prop),Q (.bool (g i j)) s->wpAny (model X.prog X.w) X.A (f (.int i t) (.int j u)) Q E s) :
  lN X f (sy λi j=>.bl (g i j)):=by
 intro pins s σ H x y v u Q I rx ry h;obtain⟨i,j,rfl,rfl,q⟩:=h;obtain⟨t,rfl⟩:=rx;obtain⟨t',rfl⟩:=ry;exact rule i j t t' s _ _ ⟨.bl (g i j),H,I,rfl,q⟩
abbrev Cs(i j:Int):Prop:=0<j/\j<1073741824
abbrev Ct(i j:Int):Prop:=0<=j/\j<=1000000/\i.natAbs<2 ^ 64
abbrev tN(i j:Int):Prop:=(-(2 ^ 64)<i/\i<2 ^ 64)\/(-(2 ^ 64)<j/\j<2 ^ 64)
def tN.ok{i j:Int}(h:tN i j):IntMulOk i j:=by
 rcases h with⟨h1,h2⟩|⟨h1,h2⟩
 exact .of_left (intBits_le_64 h1 h2);exact .of_right (intBits_le_64 h1 h2)
def oj:lN X (binaryOp .Add) (sy λi j=>.int (i+j)):=Cr λ_ _ _ _ _ _ _ q=>add_int q
def sS:lN X (binaryOp .Sub) (sy λi j=>.int (i-j)):=Cr λ_ _ _ _ _ _ _ q=>sub_int q
def rq:lN X (binaryOp .Mult) (rI tN λi j=>.int (i*j)):=Ba λ_ _ _ _ _ _ _ hc q=>mul_int q hc.ok
def Cu:lN X (binaryOp .FloorDiv) (rI Cs λi j=>.int (i / j)):=Ba λi j _ _ _ _ _ hc q=>by
 have h1:(0:Int)<j:=hc.1;have h2:j<1073741824:=hc.2;exact floordiv_int ⋯ (by rw[Int.fdiv_eq_ediv_of_nonneg i ⋯];exact q) (.inl (PyProof.noPylong_small ⋯))
def sA:lN X (binaryOp .Mod) (rI (λ_ j=>0<j) λi j=>.int (i % j)):=Ba λi j _ _ _ _ _ hc q=>by
 have h1:(0:Int)<j:=hc;exact mod_int' ⋯ (by rw[Int.fmod_eq_emod_of_nonneg i ⋯];exact q)
def Nd:lN X (binaryOp .Pow) (rI Ct λi j=>.int (i ^ j.toNat)):=Ba λ_ _ _ _ _ _ _ hc q=>pow_int_small hc.1 hc.2.1 hc.2.2 q
def Sb{f:Value->Sem Value}{g:Int->Int}
  (rule:∀(i:Int) (t:Tok) (s:Shared) (Q:Value->Shared->Prop) (E:Value->Shared->Prop),Q (.int (g i) s.toks) { s with toks:=s.toks+1 }->wpAny (model X.prog X.w) X.A (f (.int i t)) Q E s) :
  J3 X f (rU λi=>.int (g i)):=by
 intro pins s σ H x v Q I rx h;obtain⟨i,rfl,q⟩:=h;obtain⟨t,rfl⟩:=rx;exact rule i t s _ _ ⟨.int (g i),H,I.tok _,⟨_,rfl⟩,q⟩
def oZ:J3 X (unaryOp .USub) (rU λi=>.int (-i)):=Sb λ_ _ _ _ _ q=>neg_int q
end
abbrev qE:V->V->Bool
 |.non,.non=>true|.non,.int _=>true|.int _,.non=>true|.non,.bl _=>true|.bl _,.non=>true|.non,.str _=>true|.str _,.non=>true
 |.int _,.int _=>true|.bl _,.bl _=>true|.str _,.str _=>true|.tD _,.tD _=>true
 |.int _,.str _=>true|.str _,.int _=>true|.bl _,.str _=>true|.str _,.bl _=>true
 |_,_=>false
abbrev Nf:R2:=λx y H Q=>qE x y=true/\Q (.bl (decide (x=y))) H
abbrev Ng:R2:=λx y H Q=>qE x y=true/\Q (.bl (!decide (x=y))) H
def Nh{i j:Int}:decide (V.int i=V.int j)=(i == j):=by rw[Za4];simp
def Ni{i j:Bool}:decide (V.bl i=V.bl j)=(i == j):=by rw[Za4];simp
def Nj{i j:Str}:decide (V.str i=V.str j)=(i == j):=by rw[Za4];simp
def Nk{i j:Array UInt8}:decide (V.tD i=V.tD j)=(i.toList == j.toList):=by rw[Za4];cases i;cases j;simp
section
variable {X:Cx}{a b c:Expr}{ta tb tc:TE}{pos:Pos}
def l8{pins:List (Addr×Obj)}{σ:St}{H:Hp}{s:Shared}{Q:VK}{k k':Bool}(I:Inv X pins σ H s)(q:Q (.bl k) H)(e:k=k'):EP X pins σ Q (.bool k') s:=by subst e;exact⟨.bl k,H,I,rfl,q⟩
def pz:lN X (compareOp .Eq) Nf:=by
 intro pins s σ H x y v u Q I rx ry h;obtain⟨hs,q⟩:=h;cases x with
 |non =>
  cases rx;cases y with
  |non=>cases ry;exact PySem.EqNone.eq_none_none (l8 I q (by simp))
  |bl j=>cases ry;exact PySem.EqNone.eq_none_bool (l8 I q (by simp))
  |int j=>obtain⟨t',rfl⟩:=ry;exact PySem.EqNone.eq_none_int (l8 I q (by simp))
  |str j=>obtain⟨t',rfl⟩:=ry;exact PySem.EqNone.eq_none_str (l8 I q (by simp))
  |_=>exact absurd (show false=true from hs) Zaj
 |bl i =>
  cases rx;cases y with
  |non=>cases ry;exact PySem.EqNone.eq_bool_none (l8 I q (by simp))
  |bl j=>cases ry;exact eq_bool (l8 I q Ni)
  |str j=>obtain⟨t',rfl⟩:=ry;exact PySem.EqMixed.eq_bool_str (l8 I q (by simp))
  |_=>exact absurd (show false=true from hs) Zaj
 |int i =>
  obtain⟨t,rfl⟩:=rx;cases y with
  |non=>cases ry;exact PySem.EqNone.eq_int_none (l8 I q (by simp))
  |int j=>obtain⟨t',rfl⟩:=ry;exact eq_int (l8 I q Nh)
  |str j=>obtain⟨t',rfl⟩:=ry;exact PySem.EqMixed.eq_int_str (l8 I q (by simp))
  |_=>exact absurd (show false=true from hs) Zaj
 |str i =>
  obtain⟨t,rfl⟩:=rx;cases y with
  |non=>cases ry;exact PySem.EqNone.eq_str_none (l8 I q (by simp))
  |bl j=>cases ry;exact PySem.EqMixed.eq_str_bool (l8 I q (by simp))
  |int j=>obtain⟨t',rfl⟩:=ry;exact PySem.EqMixed.eq_str_int (l8 I q (by simp))
  |str j=>obtain⟨t',rfl⟩:=ry;exact eq_str (l8 I q Nj)
  |_=>exact absurd (show false=true from hs) Zaj
 |tD i =>
  obtain⟨t,rfl⟩:=rx;cases y with
  |tD j=>obtain⟨t',rfl⟩:=ry;exact PySem.W.eq_bytes (l8 I q Nk)
  |_=>exact absurd (show false=true from hs) Zaj
 |_=>cases y<;>exact absurd (show false=true from hs) Zaj
def vn:lN X (compareOp .NotEq) Ng:=by
 intro pins s σ H x y v u Q I rx ry h;obtain⟨hs,q⟩:=h;cases x with
 |non =>
  cases rx;cases y with
  |non=>cases ry;exact PySem.EqNone.ne_none_none (l8 I q (by simp))
  |bl j=>cases ry;exact PySem.EqNone.ne_none_bool (l8 I q (by simp))
  |int j=>obtain⟨t',rfl⟩:=ry;exact PySem.EqNone.ne_none_int (l8 I q (by simp))
  |str j=>obtain⟨t',rfl⟩:=ry;exact PySem.EqNone.ne_none_str (l8 I q (by simp))
  |_=>exact absurd (show false=true from hs) Zaj
 |bl i =>
  cases rx;cases y with
  |non=>cases ry;exact PySem.EqNone.ne_bool_none (l8 I q (by simp))
  |bl j=>cases ry;exact ne_bool (l8 I q (congrArg not Ni))
  |str j=>obtain⟨t',rfl⟩:=ry;exact PySem.EqMixed.ne_bool_str (l8 I q (by simp))
  |_=>exact absurd (show false=true from hs) Zaj
 |int i =>
  obtain⟨t,rfl⟩:=rx;cases y with
  |non=>cases ry;exact PySem.EqNone.ne_int_none (l8 I q (by simp))
  |int j=>obtain⟨t',rfl⟩:=ry;exact ne_int (l8 I q (congrArg not Nh))
  |str j=>obtain⟨t',rfl⟩:=ry;exact PySem.EqMixed.ne_int_str (l8 I q (by simp))
  |_=>exact absurd (show false=true from hs) Zaj
 |str i =>
  obtain⟨t,rfl⟩:=rx;cases y with
  |non=>cases ry;exact PySem.EqNone.ne_str_none (l8 I q (by simp))
  |bl j=>cases ry;exact PySem.EqMixed.ne_str_bool (l8 I q (by simp))
  |int j=>obtain⟨t',rfl⟩:=ry;exact PySem.EqMixed.ne_str_int (l8 I q (by simp))
  |str j=>obtain⟨t',rfl⟩:=ry;exact ne_str (l8 I q (congrArg not Nj))
  |_=>exact absurd (show false=true from hs) Zaj
 |tD i =>
  obtain⟨t,rfl⟩:=rx;cases y with
  |tD j=>obtain⟨t',rfl⟩:=ry;exact PySem.W.ne_bytes (l8 I q (congrArg not Nk))
  |_=>exact absurd (show false=true from hs) Zaj
 |_=>cases y<;>exact absurd (show false=true from hs) Zaj
def Bb:lN X (compareOp .Lt) (sy λi j=>.bl (decide (i<j))):=yk λ_ _ _ _ _ _ _ q=>lt_int q
def J4:lN X (compareOp .Gt) (sy λi j=>.bl (decide (j<i))):=yk λ_ _ _ _ _ _ _ q=>gt_int q
def Cv:lN X (compareOp .GtE) (sy λi j=>.bl (decide (j<=i))):=yk λ_ _ _ _ _ _ _ q=>ge_int q
def aL(b:Expr){op:CmpOp}(h:op≠.In:=by decide)(h2:op≠.NotIn:=by decide):behindInMarks op b=false:=by
 have e1:(op == CmpOp.In)=false:=by cases op<;>first|rfl|exact absurd rfl h
 have e2:(op == CmpOp.NotIn)=false:=by cases op<;>first|rfl|exact absurd rfl h2
 cases b<;>simp[behindInMarks,e1,e2]
def Bc{op:CmpOp}{r:R2}(ho:lN X (compareOp op) r)(ha:PE X a ta)(hb:PE X b tb)(hm:behindInMarks op b=false):PE X (.Compare a [op] [b] pos) (Cq r ta tb):=by intro pins s σ H Q I h;exact wpAny_Compare1 (yj ha hb I h λv u s2 x y H2 I2 rx ry q=>ho pins s2 σ H2 x y v u Q I2 rx ry q) hm
abbrev wO(t:TE):TT:=λσ H Q=>t σ H λx H'=>∃k,x=.bl k/\Q k H'
def fL{op:CmpOp}{r:R2}(ho:lN X (compareOp op) r)(ha:PE X a ta)(hb:PE X b tb)(hm:behindInMarks op b=false):PT X (.Compare a [op] [b] pos) (wO (Cq r ta tb)):=by
 intro pins s σ H Q I h
 refine wpAny_isTrue_Compare1 (b8 (ha pins s σ H _ I h) λv s1 ⟨x,H1,I1,r1,q1⟩=>b8 (hb pins s1 σ H1 _ I1 q1) λu s2 ⟨y,H2,I2,r2,q2⟩ =>
  b8 (ho pins s2 σ H2 x y v u _ I2 r1 r2 q2) λc s3 ⟨z,H3,I3,r3,k,e,q3⟩=>?_) hm
 subst e;cases r3;exact wpAny_truthy_bool ⟨H3,I3,q3⟩
def mS:(sizeLine:Nat)<2 ^ 63:=by rw[sizeLine_eq];decide
def vals1{x:V}{us:List Value}(r:Vals [x] us):∃u,us=[u]/\RelV x u:=by
 cases r with
 |cons r1 r2=>cases r2;exact⟨_,rfl,r1⟩
def vals2{x y:V}{us:List Value}(r:Vals [x,y] us):∃u w',us=[u,w']/\RelV x u/\RelV y w':=by
 cases r with
 |cons r1 r2 =>
  cases r2 with
  |cons r3 r4=>cases r4;exact⟨_,_,rfl,r1,r3⟩
def Sd:eZ X (.builtin "abs") (λxs H Q=>∃i,xs=[.int i]/\Q (.int (if i<0 then -i else i)) H):=by intro pins s σ H xs us Q I r h;obtain⟨i,rfl,q⟩:=h;obtain⟨u,rfl,t,rfl⟩:=vals1 r;exact call_abs_int λu tk=>⟨.int (if i<0 then -i else i),H,I.tok _,⟨_,rfl⟩,q⟩
def Cw(hc:X.calm=true):eZ X (.builtin "max") (λxs H Q=>∃i j,xs=[.int i,.int j]/\Q (.int (if j > i then j else i)) H):=by intro pins s σ H xs us Q I r h;obtain⟨i,j,rfl,q⟩:=h;obtain⟨u,w',rfl,⟨t,rfl⟩,⟨t',rfl⟩⟩:=vals2 r;refine max_two_ints (I.ok.hd hc) λh' tk k=>⟨_,H,I.kept k,?_,q⟩;by_cases hj:j > i;rw[if_pos hj,if_pos hj];exact⟨_,rfl⟩;rw[if_neg hj,if_neg hj];exact⟨_,rfl⟩
def Se(hc:X.calm=true):eZ X (.builtin "min") (λxs H Q=>∃i j,xs=[.int i,.int j]/\Q (.int (if j<i then j else i)) H):=by intro pins s σ H xs us Q I r h;obtain⟨i,j,rfl,q⟩:=h;obtain⟨u,w',rfl,⟨t,rfl⟩,⟨t',rfl⟩⟩:=vals2 r;refine min_two_ints (I.ok.hd hc) λh' tk k=>⟨_,H,I.kept k,?_,q⟩;by_cases hj:j<i;rw[if_pos hj,if_pos hj];exact⟨_,rfl⟩;rw[if_neg hj,if_neg hj];exact⟨_,rfl⟩
def J5:eZ X (.type "int") (λxs H Q=>(∃i,xs=[.int i]/\Q (.int i) H)\/∃k,xs=[.bl k]/\Q (.int (if k then 1 else 0)) H):=by
 intro pins s σ H xs us Q I r h;rcases h with⟨i,rfl,q⟩|⟨k,rfl,q⟩
 obtain⟨u,rfl,t,rfl⟩:=vals1 r;exact call_int_int ⟨.int i,H,I,⟨_,rfl⟩,q⟩;obtain⟨u,rfl,r1⟩:=vals1 r;cases r1;exact call_int_bool ⟨.int (if k then 1 else 0),H,I.tok _,⟨_,rfl⟩,q⟩
end
structure tO(K:Zfr)(C:Addr)(f:Str)(v:V)(u:Value):Prop where
 at_:PySem.W.findIn K (.ref C) f=some (some u)
 rel:RelV v u
 get:PySem.W.specialIn K u "__get__" = some none
 cp:PySem.W.copiedNames.contains f=false
structure iZ(k:Nat)(A:Around):Prop where
 hd:A.handled=none
 dp:A.depth+3*k+5<recursionLimit
 un:A.units+16*k+200<cLine
 gd:A.guards=some []
def iZ.mono{j k:Nat}{A:Around}(r:iZ k A)(h:j<=k):iZ j A:=⟨r.hd,by have:=r.dp;lk,by have:=r.un;lk,r.gd⟩
def iZ.deeper{k:Nat}{A:Around}(r:iZ (k+1) A)(env:Env):iZ k (A.deeper env) :=
 ⟨r.hd,by have:=r.dp;show A.depth+1+3*k+5<_;lk,by have:=r.un;show A.units+3+16*k+200<_;lk,r.gd⟩
def iZ.depth{k:Nat}{A:Around}(r:iZ k A):A.depth<recursionLimit:=by have:=r.dp;lk
def iZ.units{k:Nat}{A:Around}(r:iZ k A):A.units+64<cLine:=by have:=r.un;lk
abbrev Cy:TA:=λ_ H Q=>Q [] H
abbrev wQ(ta:TE)(tr:TA):TA:=λσ H Q=>ta σ H λx H1=>tr σ H1 λxs H2=>Q (x :: xs) H2
section
variable {X:Cx}{e:Expr}{es:List Expr}{te:TE}{t:TA}{pos:Pos}
def aw:PA X [] Cy:=λ_ _ _ _ H Q I h=>Calls.spliced_nil ⟨[],H,I,.nil,h⟩
def Sf(ha:PE X e te)(hr:PA X es t)(hs:starEach (e :: es) X.env=(false,eval e X.env) :: starEach es X.env:=by rfl):PA X (e :: es) (wQ te t):=by intro pos pins s σ H Q I h;rw[hs];show wpAny _ _ (spliced ((false,eval e X.env) :: backTo pos (starEach es X.env))) _ _ s;refine Calls.spliced_cons (b8 (ha pins s σ H _ I h) λu s1 ⟨x,H1,I1,r1,q1⟩=>?_);exact b8 (hr pos pins s1 σ H1 _ I1 q1) λus s2 ⟨xs,H2,I2,r2,q2⟩=>⟨x :: xs,H2,I2,.cons r1 r2,q2⟩
abbrev Cz(t:TA):TE:=λσ H Q=>t σ H λxs H1=>xs.length<=sizeLine/\∀p,H1 p=none->Q (.ref p) (upd H1 p (.tup xs))
abbrev CA(t:TA):TE:=λσ H Q=>t σ H λxs H1=>xs.length<=sizeLine/\∀p,H1 p=none->Q (.ref p) (upd H1 p (.lst xs))
def g7{x1}(h:PA X es t):PE X (.Tuple es x1 pos) (Cz t):=by intro pins s σ H Q I hq;refine wpAny_Tuple_spliced (b8 (h pos pins s σ H _ I hq) λus s1 ⟨xs,H1,I1,r,z,q⟩=>⟨by rw[<- r.length];exact z,?_⟩);have hf:H1 s1.heap.objs.size=none:=I1.hok.fresh (Zaa _);refine⟨.ref s1.heap.objs.size,upd H1 s1.heap.objs.size (.tup xs),I1.laid (t':=s1.toks) (λb u e=>Zai _ e) (Zaa _) ?_,rfl,q _ hf⟩;exact⟨z,us,r,⟨_,Zar _ rfl,rfl,rfl,_,rfl⟩⟩
def l9(h:PA X es t):PE X (.List es pos) (CA t):=by intro pins s σ H Q I hq;refine wpAny_List_spliced (b8 (h pos pins s σ H _ I hq) λus s1 ⟨xs,H1,I1,r,z,q⟩=>⟨by rw[<- r.length];exact z,?_⟩);have hf:H1 s1.heap.objs.size=none:=I1.hok.fresh (Zaa _);refine⟨.ref s1.heap.objs.size,upd H1 s1.heap.objs.size (.lst xs),I1.laid (t':=s1.toks) (λb u e=>Zai _ e) (Zaa _) ?_,rfl,q _ hf⟩;exact⟨z,us,0,r,Zar _ rfl⟩
end
@[reducible]def Sp:=List V->Hp->VK->XK->Prop
@[reducible]def sC:=List Env->Hp->Shared->XK->Value->Shared->Prop
structure vp(P:Program)(w:World)(K:Zfr)(mg:Str->Option Value)(base:Heap)(A:Around)(outer:List Env)(s:Shared)(H:Hp):Prop where
 frames:A.frames=some outer
 mod:Mod K mg base
 bs:∀b o,base.get? b=some o->s.heap.get? b=some o/\H b=none
 wG:base.objs.size<=s.heap.objs.size
 og:s.heap.FunFrames base outer
 A6:∀b∈frs outer,H b=none
 hok:mq P w H s.heap
 bare:AllBare s.gens
abbrev CE(outer:List Env)(P:Program)(w:World)(H:Hp)(s:Shared)(Q:VK)(u:Value)(s':Shared):Prop :=
 ∃v H',s'.os=s.os/\AllBare s'.gens/\Un (frs outer) [] H H' s.heap s'.heap/\mq P w H' s'.heap/\RelV v u/\Q v H'
abbrev CR(CX:sC)(outer:List Env)(P:Program)(w:World)(H:Hp)(s:Shared)(Q:VK)(E:XK)(r:Result)(s':Shared):Prop :=
 match r with
 |.ok (.ret u)=>CE outer P w H s Q u s'
 |.ok _=>False
 |.error e=>CX outer H s E e s'
structure aD(P:Program)(w:World)(K:Zfr)(mg:Str->Option Value)(base:Heap)(CX:sC)(k:Nat)(f:Addr)(fd:FuncData)(ps:List Str)(sp:Sp):Prop where
 len:∀vs H Q E,sp vs H Q E->vs.length=ps.length
 run:∀(A:Around) (outer:List Env) (s:Shared) (H:Hp) (args:Args) (us:List Value) (vs:List V) (Q:VK) (E:XK),iZ k A->vp P w K mg base A outer s H->BindsTo s fd args (ps.zip us)->Vals vs us->sp vs H Q E ->
  codeAny (model P w) A (.call (.ref f) args) (CR CX outer P w H s Q E) s
def aD.imp{P:Program}{w:World}{K:Zfr}{mg:Str->Option Value}{base:Heap}{CX:sC}{k:Nat}{f:Addr}{fd:FuncData}{ps:List Str}{sp Nl:Sp}(F:aD P w K mg base CX k f fd ps sp)
  (h:∀vs H Q E,Nl vs H Q E->sp vs H Q E):aD P w K mg base CX k f fd ps Nl :=
 ⟨λvs H Q E q=>F.len vs H Q E (h _ _ _ _ q),λA outer s H args us vs Q E hr he hb hv hs=>F.run A outer s H args us vs Q E hr he hb hv (h _ _ _ _ hs)⟩
section
variable {X:Cx}{pins:List (Addr×Obj)}{σ:St}{H:Hp}{s s':Shared}
def Inv.J7(I:Inv X pins σ H s):vp X.prog X.w X.K X.mg X.base X.A X.stack s H :=
 ⟨I.ok.frames,I.ok.mod,I.bs,Zap I.ok.wG I.sz,I.stack,I.rl,I.hok,I.bare⟩
def Inv.after{Q:VK}{u:Value}(I:Inv X pins σ H s)(h:CE X.stack X.prog X.w H s Q u s'):EP X pins σ Q u s':=by obtain⟨v,H',os,bare,un,hok,r,q⟩:=h;obtain⟨hh,g,d,t,os'⟩:=s';obtain rfl:os'=s.os:=os;exact⟨v,H',I.call (h':=hh) (g':=g) (d':=d) (t':=t) (ch:=[]) un hok bare (λb z=>absurd z (by simp)),r,q⟩
end
abbrev tP(sp:Sp)(wR:List V)(E:XK)(t:TA):TE:=λσ H Q=>t σ H λvs H1=>sp (vs ++ wR) H1 Q E
abbrev Binds(K:Zfr)(fd:FuncData)(ps:List Str)(ds:List Value):Prop :=
 ∀(s:Shared) (us:List Value),K.In s.heap->(us ++ ds).length=ps.length->BindsTo s fd ⟨us,[]⟩ (ps.zip (us ++ ds))
def Binds.all{K:Zfr}{fd:FuncData}{ps:List Str}(h:∀us:List Value,us.length=ps.length->bindArgs fd ⟨us,[]⟩=pure (ps.zip us)):Binds K fd ps []:=λs us _ hl=>by
 rw[Zbu]at hl ⊢;exact .of_eq (h us hl)
abbrev Passes(CX:sC)(X:Cx)(E:XK):Prop:=∀(pins:List (Addr×Obj)) (σ:St) (H:Hp) (s:Shared) (e:Value) (s':Shared),Inv X pins σ H s->CX X.stack H s E e s'->X.xe e s'
section
variable {X:Cx}{CX:sC}{k:Nat}{f C:Addr}{fd:FuncData}{ps:List Str}{sp:Sp}{wR:List V}{ds:List Value}{E:XK}{x m:Str}{p pos apos:Pos}{e o:Expr}{es:List Expr}{ta:TE}{t:TA}
def yl{pins:List (Addr×Obj)}{σ:St}{H:Hp}{s:Shared}{Q:VK}{us:List Value}{vs:List V}(F:aD X.prog X.w X.K X.mg X.base CX k f fd ps sp)(hr:iZ k X.A)(hb:Binds X.K fd ps ds)(hd:Vals wR ds)(hx:Passes CX X E)
  (I:Inv X pins σ H s) (r:Vals vs us) (h:sp (vs ++ wR) H Q E):wpAny (model X.prog X.w) X.A (call (.ref f) us) (EP X pins σ Q) X.xe s:=by
 have r2:Vals (vs ++ wR) (us ++ ds):=r.append hd;have hl:(us ++ ds).length=ps.length:=by rw[<- r2.length];exact F.len _ _ _ _ h
 refine wpAny_call (codeAny_mono (F.run X.A X.stack s H ⟨us,[]⟩ (us ++ ds) (vs ++ wR) Q E hr I.J7 (hb s us I.GD hl) r2 h) λr s' hq=>?_);cases r with
 |error e=>exact hx pins σ H s e s' I hq
 |ok fl =>
  cases fl with
  |ret u=>exact I.after hq
  |next=>exact False.elim hq
  |brk=>exact False.elim hq
  |cont=>exact False.elim hq
def Si(F:aD X.prog X.w X.K X.mg X.base CX k f fd ps sp)(hr:iZ k X.A)(hg:Gl X x)(hm:X.mg x=some (.ref f))(hk:PySem.W.keepIn X.K (.ref f)=true)(hb:Binds X.K fd ps ds)(hd:Vals wR ds)(hx:Passes CX X E)
  (ha:PA X (e :: es) t) (hdb:(x == ("__debug__" : Str))=false:=by decide) (he:starEach (e :: es) X.env=(false,eval e X.env) :: starEach es X.env:=by rfl) (hpl:(backTo pos (starEach es X.env)).any (·.1)=false:=by rfl) :
  PE X (.Call (.Name x p) (e :: es) [] pos) (tP sp wR E t):=by
 intro pins s σ H Q I h;refine wpAny_Call_Name_kw (M1 I hg hm ?_ hdb);refine PySem.W.callWith_K (h₀:=X.base) I.ok.mod.JT hk (b8 (ha pos pins s σ H _ I h) λus s1 ⟨vs,H1,I1,r,q⟩=>⟨I1.GD,?_⟩) he hpl;exact yl F hr hb hd hx I1 r q
end
structure az(N P:List Str)(sc:Scope):Prop where
 kind:sc.kind=.function
 co:sc.isCoroutine=false
 gen:sc.isGenerator=false
 nd:N.Nodup
 pre:N.take P.length=P
 par:∀x∈P,sc.names.lookup x=some .local\/sc.names.lookup x=some .cell
 ym:∀y∈sc.names,y.2≠.free
def Nm{kindOf:Str->Option NameKind}{x:Str}:∀{binds:List (Str×Value)} {m:Str->Option Value},(∀v,(x,v) ∉ binds)->bindL kindOf binds m x=m x
 |[],_,_=>rfl
 |(n,v) :: r,m,h=>by
  unfold bindL;rw[Nm λw hw=>h w (Zah _ hw)];split
  have:x≠n:=by rintro rfl;exact h v Zac
  simp[this];rfl
def Nn{kindOf:Str->Option NameKind}{x:Str}:∀{binds:List (Str×Value)} {m:Str->Option Value},(∀v,(x,v) ∉ binds)->bindC kindOf binds m x=m x
 |[],_,_=>rfl
 |(n,v) :: r,m,h=>by
  unfold bindC;rw[Nn λw hw=>h w (Zah _ hw)];split;rfl
  have:x≠n:=by rintro rfl;exact h v Zac
  simp[this]
def Np{kindOf:Str->Option NameKind}{x:Str}{v:Value}:∀{P:List Str} {vs:List Value} {i:Nat} {m:Str->Option Value},P.Nodup->P[i]?=some x->vs[i]?=some v->kindOf x=some .local ->
  bindL kindOf (P.zip vs) m x=some v
 |[],_,_,_,_,h,_,_=>by simp at h
 |_ :: _,[],_,_,_,_,h,_=>by simp at h
 |p :: P,w :: vs,0,m,nd,h1,h2,hk=>by
  simp at h1 h2;subst h1;subst h2;show bindL kindOf ((p,w) :: P.zip vs) m p=_;unfold bindL;rw[Nm λv hv=>(Zbb.mp nd).1 (List.of_mem_zip hv).1,if_pos hk];simp
 |p :: P,w :: vs,i+1,m,nd,h1,h2,hk=>by
  show bindL kindOf ((p,w) :: P.zip vs) m x=_;unfold bindL;exact Np (i:=i) (Zbb.mp nd).2 (by simpa using h1) (by simpa using h2) hk
def Nq{kindOf:Str->Option NameKind}{x:Str}{v:Value}:∀{P:List Str} {vs:List Value} {i:Nat} {m:Str->Option Value},P.Nodup->P[i]?=some x->vs[i]?=some v->kindOf x≠some .local ->
  bindC kindOf (P.zip vs) m x=some v
 |[],_,_,_,_,h,_,_=>by simp at h
 |_ :: _,[],_,_,_,_,h,_=>by simp at h
 |p :: P,w :: vs,0,m,nd,h1,h2,hk=>by
  simp at h1 h2;subst h1;subst h2;show bindC kindOf ((p,w) :: P.zip vs) m p=_;unfold bindC;rw[Nn λv hv=>(Zbb.mp nd).1 (List.of_mem_zip hv).1,if_neg hk];simp
 |p :: P,w :: vs,i+1,m,nd,h1,h2,hk=>by
  show bindC kindOf ((p,w) :: P.zip vs) m x=_;unfold bindC;exact Nq (i:=i) (Zbb.mp nd).2 (by simpa using h1) (by simpa using h2) hk
abbrev start(N:List Str)(vs:List V):St:=vs.map some ++ List.replicate (N.length-vs.length) none
abbrev dW(CX:sC)(P:Program)(w:World)(K:Zfr)(mg:Str->Option Value)(base:Heap)(N:List Str)(qual:Str)(scope:Scope)(f:Addr)(cd:Value)(A:Around)(outer:List Env)(s:Shared)(H:Hp)(E:XK):Cx where
 prog:=P
 w:=w
 K:=K
 mg:=mg
 base:=base
 A:=A.deeper (envOfC qual scope s.heap.objs.size f cd)
 N:=N
 s₀:=s
 H₀:=H
 env:=envOfC qual scope s.heap.objs.size f cd
 outer:=outer
 stack:=envOfC qual scope s.heap.objs.size f cd :: outer
 ex:=[]
 calm:=true
 fn:=λ_=>true
 pn:=[]
 xe:=λe s'=>wpAny (model P w) (A.deeper (envOfC qual scope s.heap.objs.size f cd)) («leaving» (envOfC qual scope s.heap.objs.size f cd) e) (λ_ s''=>CX outer H s E e s'') (λe' s''=>CX outer H s E e' s'') s'
def Nr{sc:Scope}{n:Nat}{x:Str}(h:sc.names.lookup x=some .cell):∃c,(cellsFrom n sc.names []).lookup x=some c:=by have q:=PySem.W.cellsFrom_some sc.names n [] (.inl h);exact ZbM.mp q
def Sj{CX:sC}{P:Program}{w:World}{K:Zfr}{mg:Str->Option Value}{base:Heap}{N ps:List Str}{qual:Str}{scope:Scope}{f:Addr}{cd:Value}{A:Around}{outer:List Env}{s s1:Shared}{H:Hp}{E:XK}{us:List Value}{vs:List V}
  (S:az N ps scope) (hd:A.handled=none) (e0:vp P w K mg base A outer s H) (hl:vs.length=ps.length) (r:Vals vs us)
  (x:InCallC s s.heap.objs.size (bindL (envOfC qual scope s.heap.objs.size f cd).kindOf (ps.zip us) λ_=>none) (cellsFrom (s.heap.objs.size+1) scope.names []) (bindC (envOfC qual scope s.heap.objs.size f cd).kindOf (ps.zip us) λ_=>none) s1) :
  Inv (dW CX P w K mg base N qual scope f cd A outer s H E) [] (start N vs) H s1:=by
 have hpl:ps.length<=N.length:=by have:=congrArg List.length S.pre;rw[Za0]at this;lk
 obtain⟨h1,tk,rfl,hk⟩:=x.done;have CB:∀b:Addr,b ∉ (dW CX P w K mg base N qual scope f cd A outer s H E).ex:=λb z=>absurd (show b∈([]:List Addr)from z) (by simp)
 refine⟨⟨e0.mod,S.kind,rfl,rfl,Zaa _,λy z c h1 h2=>?_,λy hy=>?_,λy c _ h=>?_,λ_=>hd,Around.frames_deeper e0.frames,.inr ⟨rfl,rfl⟩,λb z=>absurd z (CB b),e0.bs,e0.wG,λb _ _=>CB b,λb z=>absurd z (CB b),e0.og,e0.A6⟩,
  rfl,e0.bare,Un.kept hk,⟨_,x.toInCall.ns,λi y v h1 h2 h3=>?_⟩,λy c h=>⟨_,x.cell y c h⟩,e0.hok.fresh (Zaa _),λy c h=>?_,λp hp=>absurd (show p∈([]:List (Addr×Obj))from hp) (by simp),e0.hok.kept hk,?_⟩
 exact name_of_addr x.apart (PySem.mem_of_lookup h1) (PySem.mem_of_lookup h2);have hy:scope.names.lookup y=some .cell\/scope.names.lookup y=some .free:=hy;rcases hy with hy|hy
 exact Nr hy;exact absurd rfl (S.ym _ (PySem.mem_of_lookup hy));exact Zbt (x.above y c (PySem.mem_of_lookup h));have hi:i < vs.length:=by
  unfold start at h2;by_cases hi:i<vs.length;exact hi;rw[ZaE (by simpa using hi)]at h2;rw[ZbO]at h2;split at h2<;>cases h2
 have ha:vs[i]?=some v:=by
  unfold start at h2;rw[Zan (by simpa using hi),Zae]at h2;cases e:vs[i]? with
  |none=>rw[e]at h2;cases h2
  |some a=>rw[e]at h2;cases h2;rfl
 obtain⟨u,hu,rv⟩:=r.get ha;have hp:ps[i]?=some y:=by
  rw[<- S.pre,List.getElem?_take_of_lt ⋯];exact h1
 have Nt:ps.Nodup:=by rw[<- S.pre];exact S.nd.sublist (List.take_sublist _ _)
 refine⟨u,rv,?_⟩;rcases S.par y (Zab hp)with k|k
 exact .inl ⟨k,Np Nt hp hu k⟩;obtain⟨c,e⟩:=Nr (n:=s.heap.objs.size+1) k;refine .inr ⟨.inl k,c,e,?_⟩;have q:=x.cell y c e;rw[Nq Nt hp hu (by show scope.names.lookup y≠_;rw[k];decide)]at q;exact q;exact e0.hok.fresh (Zbt (x.above y c (PySem.mem_of_lookup h)));unfold start;show _=N.length;rw[Zaf,Z7,ZbV];lk
def CC{CX:sC}{P:Program}{w:World}{K:Zfr}{mg:Str->Option Value}{base:Heap}{k:Nat}{f:Addr}{name qual:Str}{params:Arguments}{body:List Stmt}{scope:Scope}{dV kV doc pm cdv ct oc:Value}{an od:Option Addr}
  {osl:Array (Option Value)} {N ps:List Str} {sp:Sp} (lk:K.lookup f=some ⟨oc,od,.func (PySem.W.fnOf name qual params body scope dV kV doc pm an cdv ct),osl⟩) (hcd:PySem.W.codeIn K cdv qual=true) (S:az N ps scope)
  (len:∀vs H Q E,sp vs H Q E->vs.length=ps.length)
  (hbody:∀(A:Around) (outer:List Env) (s:Shared) (H:Hp) (vs:List V) (Q:VK) (E:XK),iZ k (A.deeper (envOfC qual scope s.heap.objs.size f cdv))->sp vs H Q E ->
   ∃t,sx (dW CX P w K mg base N qual scope f cdv A outer s H E) body t/\t { nx:=λ_ H'=>Q .non H',rt:=Q } (start N vs) H) :
  aD P w K mg base CX (k+1) f (PySem.W.fnOf name qual params body scope dV kV doc pm an cdv ct) ps sp:=by
 refine⟨len,λA outer s H args us vs Q E hr e0 hb r uT=>?_⟩;have hl:=len _ _ _ _ uT;have KX:K.In s.heap:=e0.mod.JT.keeps λb o e=>(e0.bs b o e).1;have lim:s.heap.NoLimit:=e0.mod.nolimit.keeps λb o e=>(e0.bs b o e).1;have hkind:∀y∈ps.zip us,scope.names.lookup y.1=some .local\/(scope.names.lookup y.1=some .cell/\((cellsFrom (s.heap.objs.size+1) scope.names []).lookup y.1).isSome=true):=λ⟨n,v⟩ hy=>by
  rcases S.par n (List.of_mem_zip hy).1 with q|q
  ·exact .inl q
  ·exact .inr ⟨q,PySem.W.cellsFrom_some _ _ _ (.inl q)⟩
 refine codeAny_call_function hr.depth (KX _ _ lk) rfl S.co S.gen rfl (PySem.W.codeRec_of KX hcd) (hb _ _ _ _ ?_);refine wpAny_newFunctionEnv_cells S.kind hkind λenv he s1 x=>?_;subst he;refine⟨lim.keeps x.toInCall.keep,codeAny_func ?_⟩;obtain⟨t,ht,hq⟩:=hbody A outer s H vs Q E (hr.deeper _) uT;have I:Inv (dW CX P w K mg base N qual scope f cdv A outer s H E) [] (start N vs) H s1:=Sj S hr.hd e0 hl r x;refine wpAny_mono (ht [] s1 (start N vs) H _ I hq) (λfl s' hs=>?_) λe s' hs=>hs;have fin:∀{σ':St} {H':Hp} {v:V} {u:Value},Inv (dW CX P w K mg base N qual scope f cdv A outer s H E) [] σ' H' s'->RelV v u->Q v H'->CE outer P w H s Q u s' :=
  λ{σ' H' v u} J rv q=>⟨v,H',J.os,J.bare,J.base,J.hok,rv,q⟩
 cases fl with
 |ret u =>
  obtain⟨v,σ',H',J,rv,q⟩:=hs;exact fin J rv q
 |next =>
  obtain⟨σ',H',J,q⟩:=hs;exact fin (v:=V.non) (u:=Value.none) J rfl q
 |brk =>
  obtain⟨_,_,_,q⟩:=hs;exact False.elim q
 |cont =>
  obtain⟨_,_,_,q⟩:=hs;exact False.elim q
section
variable {X:Cx}{x:Str}{p pos:Pos}{e:Expr}{es:List Expr}{t:TA}{id T:String}{r:List V->Hp->VK->Prop}
abbrev J8(r:List V->Hp->VK->Prop)(t:TA):TE:=λσ H Q=>t σ H λvs H1=>r vs H1 Q
def ji(hc:eZ X (.builtin id) r)(hg:Gl X x)(hm:X.mg x=none)(hv:bootBuiltins x=some (.builtin id))(ha:PA X (e :: es) t)(hn:x≠"__name__" := by decide)(hdb:(x == ("__debug__" : Str))=false:=by decide)
  (he:starEach (e :: es) X.env=(false,eval e X.env) :: starEach es X.env:=by rfl) (hpl:(backTo pos (starEach es X.env)).any (·.1)=false:=by rfl):PE X (.Call (.Name x p) (e :: es) [] pos) (J8 r t):=by
 intro pins s σ H Q I h;refine wpAny_Call_Name_kw (A7 I hg hm hv ?_ hn hdb);exact PyProof.Rows.callWith_builtin1 (b8 (ha pos pins s σ H _ I h) λus s1 ⟨vs,H1,I1,r1,q1⟩=>hc pins s1 σ H1 vs us Q I1 r1 q1) he hpl
def fD(hc:eZ X (.type T) r)(hg:Gl X x)(hm:X.mg x=none)(hv:bootBuiltins x=some (.type T))(ha:PA X (e :: es) t)(hn:x≠"__name__" := by decide)(hdb:(x == ("__debug__" : Str))=false:=by decide)
  (he:starEach (e :: es) X.env=(false,eval e X.env) :: starEach es X.env:=by rfl) (hpl:(backTo pos (starEach es X.env)).any (·.1)=false:=by rfl):PE X (.Call (.Name x p) (e :: es) [] pos) (J8 r t):=by
 intro pins s σ H Q I h;refine wpAny_Call_Name_kw (A7 I hg hm hv ?_ hn hdb);exact PyProof.Rows.callWith_type1 (b8 (ha pos pins s σ H _ I h) λus s1 ⟨vs,H1,I1,r1,q1⟩=>hc pins s1 σ H1 vs us Q I1 r1 q1) he hpl
end
end L2
namespace HT
open PySem PyProof.Rows
def Sk(A:Around)(s:Shared)(a:Int)(t:Tok)(c:Int)(u:Tok):∃e,SeqAt.EqAt A s (.int a t) (.int c u) e/\(e=true↔a=c) :=
 ⟨(a == c),SeqAt.EqAt.int_int a t c u,by simp⟩
section
variable {prog:Program}{w:World}{A:Around}{E:Value->Shared->Prop}{s:Shared}
def Sl{t b:Addr}{vs ws:List Value}{Q:Value->Shared->Prop}(ht:IsTup s.heap t vs.toArray)(hb:IsTup s.heap b ws.toArray)(hv:vs≠[])
  (h1:ws=[]->Q (.ref t) s) (h2:ws≠[]->Q (.ref s.heap.objs.size) { s with heap:=s.heap.push { cls:=.type "tuple",data:=.seq (vs ++ ws).toArray } })
  (hsz:vs.length+ws.length<=sizeLine):wpAny (model prog w) A (binaryOp .Add (.ref t) (.ref b)) Q E s:=by
 obtain⟨⟨cls,dd,data,sl⟩,ho,hc,n,hd⟩:=id ht;obtain⟨⟨J9,dd2,data2,sl2⟩,ho2,hc2,n2,hd2⟩:=id hb;simp only at hc hd hc2 hd2;subst hc hd hc2 hd2;have e:vs.toArray ++ ws.toArray=(vs ++ ws).toArray:=by simp
 by_cases hw:ws=[];exact concat_meets ⟨_,ho,rfl⟩ ⟨_,ho2,rfl⟩ noFill_tuple_add seq_tuple_add PySem.F.slot_tuple_add PySem.F.entry_tuple_add (PySem.F.args_tuple_add_2 _ _)
  (tuple_addW1 t b vs.toArray ws.toArray n n2 dd dd2 sl sl2 (by simpa using hv) (by simp[hw])) ⟨ho,ho2,h1 hw⟩
 refine concat_meets ⟨_,ho,rfl⟩ ⟨_,ho2,rfl⟩ noFill_tuple_add seq_tuple_add PySem.F.slot_tuple_add PySem.F.entry_tuple_add (PySem.F.args_tuple_add_2 _ _)
  (tuple_addW2 t b vs.toArray ws.toArray n n2 dd dd2 sl sl2 (by simpa using hv) (by simpa using hw) (by rw[Zak,Zak];exact hsz)) ⟨ho,ho2,?_⟩
 rw[e];exact h2 hw
abbrev cw(n d:Nat):Option Int->Nat
 |none=>d
 |some v=>if v<0 then(v+(n:Int)).toNat else min v.toNat n
def Sn(n d:Nat):cw n d none=d:=rfl
def Sq(n d k:Nat):cw n d (some (k:Int))=min k n:=by show(if(k:Int)<0 then((k:Int)+(n:Int)).toNat else min (k:Int).toNat n)=min k n;rw[if_neg ⋯,Zao]
def yn(n d:Nat)(hd:d<=n)(o:Option Int):cw n d o<=n:=by
 cases o with
 |none=>exact hd
 |some v =>
  show(if v<0 then(v+(n:Int)).toNat else min v.toNat n)<=n;by_cases hv:v<0;rw[if_pos hv];lk;rw[if_neg hv];exact Nat.min_le_right _ _
def Nu(v:Int)(n d:Nat):(if v<0 then max (v+(n:Int)) 0 else min v (n:Int))=((cw n d (some v):Nat):Int):=by show(if v<0 then max (v+(n:Int)) 0 else min v (n:Int))=(((if v<0 then(v+(n:Int)).toNat else min v.toNat n):Nat):Int);by_cases hv:v<0;simp only[if_pos hv];lk;simp only[if_neg hv];lk
def Sr(lo hi:Option Int)(n:Nat):Builtin.Slice.sliceAdjust lo hi 1 (n:Int)=(((cw n 0 lo:Nat):Int),((cw n n hi:Nat):Int)):=by
 have h1:¬((1:Int)<0):=by lk
 unfold Builtin.Slice.sliceAdjust;simp only[h1,if_false];refine Prod.ext ?_ ?_;cases lo with
 |none=>rfl
 |some v=>exact Nu v n 0
 cases hi with
 |none=>rfl
 |some v=>exact Nu v n n
def Ss(i j:Nat):Builtin.Slice.slicePlaces (i:Int) (j:Int) 1=j-i:=by
 unfold Builtin.Slice.slicePlaces;have h1:(1:Int) > 0:=by lk
 simp only[h1,if_true,Int.ediv_one];split<;>lk
def Nv{v:Value}{o:Option Int}{Q:Option Int->Shared->Prop}(p:IsPart v o)(h:Q o s):wpAny (model prog w) A (Builtin.Slice.slicePartIndex v) Q E s:=by
 cases p with
 |none=>exact slicePart_none h
 |int i t=>exact slicePart_int h
def Nw{sl:Addr}{vl vu:Value}{lo hi:Option Int}{n:Nat}{Q:Int×Int×Nat->Shared->Prop}(hs:s.heap.IsSliceOf sl vl vu .none)(pl:IsPart vl lo)(pu:IsPart vu hi)
  (h:Q (((cw n 0 lo:Nat):Int),1,cw n n hi-cw n 0 lo) s):wpAny (model prog w) A (Builtin.Slice.sliceApplied (.ref sl) (pure (n:Int))) Q E s:=by
 obtain⟨os,hos,hcs,hds⟩:=id hs;unfold Builtin.Slice.sliceApplied Builtin.Slice.sliceFields;refine wpAny_bind (wpAny_bind (wpAny_field hos hds (x:=vl) rfl (wpAny_bind (wpAny_field hos hds (x:=vu) rfl (wpAny_bind (wpAny_field hos hds (x:=.none) rfl (wpAny_pure ?_)))))));refine wpAny_bind (slicePart_none ?_);show wpAny _ _ (if((1:Int) == 0)=true then _ else _) _ _ s;rw[if_neg ∅];refine wpAny_bind (Nv pl (wpAny_bind (Nv pu (wpAny_bind (wpAny_pure ?_)))));show wpAny _ _ (match Builtin.Slice.sliceAdjust lo hi 1 (n:Int)with|(lo,hi)=>pure (lo,(1:Int),Builtin.Slice.slicePlaces lo hi 1)) _ _ s;rw[Sr lo hi n];show wpAny _ _ (pure (((cw n 0 lo:Nat):Int),(1:Int),Builtin.Slice.slicePlaces ((cw n 0 lo:Nat):Int) ((cw n n hi:Nat):Int) 1)) _ _ s;rw[Ss];exact wpAny_pure h
def Sv(xs:Array Value)(i k:Nat):((List.range k).filterMap λ(m:Nat)=>xs[((i:Int)+(m:Int)*1).toNat]?).toArray=((xs.toList.drop i).take k).toArray:=by
 have e:(λ(m:Nat)=>xs[((i:Int)+(m:Int)*1).toNat]?)=λm=>xs[i+m]?:=by
  funext m
  have:((i:Int)+(m:Int)*1).toNat=i+m:=by lk
  rw[this]
 rw[e];have:=pick_run xs i k;rw[List.filterMap_map]at this;have e2:((λx=>xs[x]?) ∘ λx=>i+x)=λm=>xs[i+m]?:=rfl;rw[e2]at this;rw[this]
def Sw{t sl:Addr}{items:Array Value}{vl vu:Value}{lo hi:Option Int}{Q:Value->Shared->Prop}(ht:IsTup s.heap t items)(hs:s.heap.IsSliceOf sl vl vu .none)(pl:IsPart vl lo)(pu:IsPart vu hi)
  (hw:¬(cw items.size 0 lo=0/\cw items.size items.size hi=items.size))
  (h:Q (.ref s.heap.objs.size) { s with heap:=s.heap.push { cls:=.type "tuple",data:=.seq ((items.toList.drop (cw items.size 0 lo)).take (cw items.size items.size hi-cw items.size 0 lo)).toArray } })
  (hsz:items.size<=sizeLine):wpAny (model prog w) A (getItem (.ref t) (.ref sl)) Q E s:=by
 have rz:sizeOk (.seq ((items.toList.drop (cw items.size 0 lo)).take (cw items.size items.size hi-cw items.size 0 lo)).toArray):=by
  show((items.toList.drop (cw items.size 0 lo)).take (cw items.size items.size hi-cw items.size 0 lo)).toArray.size<=sizeLine;rw[Zak,Za0,List.length_drop,Za1];lk
 have hj:cw items.size items.size hi<=items.size:=yn _ _ (Zaa _) hi;obtain⟨os,hos,hcs,hds⟩:=id hs;have Ka:s.TypeIs (.ref sl) "slice" := ⟨os,hos,hcs⟩;unfold getItem
 try with_reducible refine wpAny_holding ?_
 first|refine wpAny_bind (wpAny_pure ?_)|skip
 refine wpAny_bind (wpAny_sequenceKey ht.typeIs ∅ ?_)
 refine wpAny_bind (wpAny_callSpecial?_slot (name:=Str.ofString "__getitem__") ht.typeIs PyProof.Rows.slot_tuple_getitem
  (wpAny_call_entry PyProof.Rows.slot_tuple_getitem ht.typeIs entry_tuple_getitem ?_ (args_tuple_getitem _ _)))
 show wpAny _ _ (Builtin.Tuple.tupleItemsOf (.ref t) >>= _) _ _ s;refine wpAny_bind (tupleItemsOf_ ht ?_);refine wpAny_bind (wpAny_typeOf Ka ?_);rw[if_pos ∅];refine wpAny_bind (Nw hs pl pu ?_);have hno:¬((((cw items.size 0 lo:Nat):Int) == 0 && (1:Int) == 1 && (cw items.size items.size hi-cw items.size 0 lo) == items.size)=true):=by
  intro q;rw[ZaB,ZaB]at q;have q1:((cw items.size 0 lo:Nat):Int)=0:=eq_of_beq q.1.1;have q2:cw items.size items.size hi-cw items.size 0 lo=items.size:=eq_of_beq q.2;exact hw ⟨by lk,by lk⟩
 show wpAny _ _ (if(((cw items.size 0 lo:Nat):Int) == 0 && (1:Int) == 1 && (cw items.size items.size hi-cw items.size 0 lo) == items.size)=true then _ else _) _ _ s;rw[if_neg hno,Sv]
 first
  |exact wpAny_bind (m:=Builtin.Tuple.tupleExact _) (wpAny_newObj_type (wpAny_pure ⟨_,rfl,wpAny_pure h⟩) rz)
  |exact wpAny_bind (m:=Builtin.Tuple.tupleExact _) (wpAny_newObj_type (wpAny_bind (wpAny_pure (wpAny_pure ⟨_,rfl,wpAny_pure h⟩))) rz)
  |exact wpAny_bind (wpAny_bind (m:=Builtin.Tuple.tupleExact _) (wpAny_newObj_type (wpAny_pure (wpAny_pure ⟨_,rfl,wpAny_pure h⟩)) rz))
  |exact wpAny_bind (wpAny_bind (m:=Builtin.Tuple.tupleExact _) (wpAny_newObj_type (wpAny_pure ⟨_,rfl,wpAny_pure h⟩) rz))
end
end HT
namespace L2
open PySem PySem.Spec PyProof.Rows
@[reducible]def TO:=St->Hp->(Option Int->Hp->Prop)->Prop
abbrev PO(X:Cx)(e:Option Expr)(t:TO):Prop :=
 ∀(pins:List (Addr×Obj)) (s:Shared) (σ:St) (H:Hp) (Q:Option Int->Hp->Prop),Inv X pins σ H s->t σ H Q ->
  wpAny (model X.prog X.w) X.A (evalPart e X.env) (λu s'=>∃o H',Inv X pins σ H' s'/\IsPart u o/\Q o H') X.xe s
abbrev rA:TO:=λ_ H Q=>Q none H
abbrev wU(t:TE):TO:=λσ H Q=>t σ H λx H1=>∃i,x=.int i/\Q (some i) H1
def Sx{ns:List Int}:∀{us:List Value},Vals (ns.map V.int) us->IntsAre us ns:=by
 induction ns with
 |nil=>intro us r;rw[ZaH]at r;cases r;exact .nil
 |cons n ns ih =>
  intro us r;rw[Zaq]at r;cases r with
  |cons r1 r2 =>
   obtain⟨t,e⟩:=r1;subst e;exact .cons n t (ih r2)
section
variable {X:Cx}{e:Expr}{te:TE}{lo hi:Option Expr}{tl th:TO}{pos p2:Pos}
def GR:PO X none rA:=by intro pins s σ H Q I h;rw[evalPart_none];exact wpAny_pure ⟨none,H,I,.none,h⟩
def GS(h:PE X e te):PO X (some e) (wU te):=by intro pins s σ H Q I hw;rw[evalPart_some];refine b8 (h pins s σ H _ I hw) λu s1 ⟨x,H1,I1,r1,q1⟩=>?_;obtain⟨i,rfl,q⟩:=q1;obtain⟨t,rfl⟩:=r1;exact⟨some i,H1,I1,.int i t,q⟩
abbrev GU(X:Cx)(r:V->Option Int->Option Int->Hp->VK->Prop):Prop :=
 ∀(pins:List (Addr×Obj)) (s:Shared) (σ:St) (H:Hp) (x:V) (v vl vu:Value) (lo hi:Option Int) (sl:Addr) (Q:VK),Inv X pins σ H s->RelV x v->s.heap.IsSliceOf sl vl vu .none->IsPart vl lo->IsPart vu hi->r x lo hi H Q ->
  ∃T id,typeLookup (.type T) "__getitem__" = pure (some (.builtin id))/\s.TypeIs v T/\wpAny (model X.prog X.w) X.A (getItem v (.ref sl)) (EP X pins σ Q) X.xe s
abbrev Nx(r:V->Option Int->Option Int->Hp->VK->Prop)(te:TE)(tl th:TO):TE:=λσ H Q=>te σ H λx H1=>tl σ H1 λl H2=>th σ H2 λu H3=>r x l u H3 Q
def GV{r:V->Option Int->Option Int->Hp->VK->Prop}(hr:GU X r)(he:PE X e te)(hl:PO X lo tl)(hu:PO X hi th):PE X (.Subscript e (.Slice lo hi none p2) pos) (Nx r te tl th):=by intro pins s σ H Q I h;refine Subscript_ (b8 (he pins s σ H _ I h) λv s1 ⟨x,H1,I1,r1,q1⟩=>?_);refine wpAny_Slice (b8 (hl pins s1 σ H1 _ I1 q1) λvl s2 ⟨l,H2,I2,pl,q2⟩=>b8 (hu pins s2 σ H2 _ I2 q2) λvu s3 ⟨u,H3,I3,pu,q3⟩=>?_);rw[evalPart_none];refine wpAny_pure ?_;have I4:Inv X pins σ H3 { s3 with heap:=s3.heap.push { cls:=.type "slice",data:=.fields #[vl,vu,.none] } }:=I3.kept (t':=s3.toks) λb ob q=>Zai _ q;obtain⟨T,id,hT,ht,hg⟩:=hr pins { s3 with heap:=s3.heap.push { cls:=.type "slice",data:=.fields #[vl,vu,.none] } } σ H3 x v vl vu l u s3.heap.objs.size Q I4 r1 (Heap.IsSliceOf.new ..) pl pu q3;show wpAny (model X.prog X.w) X.A (subscriptTail e (.Slice lo hi none p2) v (.ref s3.heap.objs.size)) (EP X pins σ Q) X.xe { s3 with heap:=s3.heap.push { cls:=.type "slice",data:=.fields #[vl,vu,.none] } };exact tail_any (ops:=[.ref s3.heap.objs.size,v]) ht hT hg (by with_unfolding_all rfl)
abbrev om(xs:List V)(lo hi:Option Int):List V:=(xs.drop (HT.cw xs.length 0 lo)).take (HT.cw xs.length xs.length hi-HT.cw xs.length 0 lo)
def Ny(xs:List V)(lo hi:Option Int):(om xs lo hi).length<=xs.length:=by unfold om;rw[Za0,List.length_drop];lk
abbrev Kb(K:Zfr):V->Option Int->Option Int->Hp->VK->Prop:=λx lo hi H Q=>∃a xs,x=.ref a/\dr K H a xs /\
 ¬(HT.cw xs.length 0 lo=0/\HT.cw xs.length xs.length hi=xs.length)/\∀p,H p=none->Q (.ref p) (upd H p (.tup (om xs lo hi)))
def yo:GU X (Kb X.K):=by
 intro pins s σ H x v vl vu lo hi sl Q I rx hs pl pu h;obtain⟨a,xs,rfl,hx,hw,q⟩:=h;cases rx;obtain⟨its,r,ht,hz⟩:=I.tuple hx;have hlen:its.toArray.size=xs.length:=by rw[Zak];exact r.length.symm
 refine⟨"tuple",_,PyProof.Rows.slot_tuple_getitem.lookup,ht.typeIs,?_⟩;refine HT.Sw ht hs pl pu (by rw[hlen];exact hw) ?_ (by rw[hlen];exact hz);rw[hlen];refine⟨.ref s.heap.objs.size,_,I.laid (t':=s.toks) (o:=.tup (om xs lo hi)) (λb ob q=>Zai _ q) (Zaa _) ?_,rfl,q _ (I.hok.fresh (Zaa _))⟩;exact⟨Zap (Ny xs lo hi) hz,_,(r.drop (HT.cw xs.length 0 lo)).take (HT.cw xs.length xs.length hi-HT.cw xs.length 0 lo),pg.new _ _⟩
abbrev CD(K:Zfr):R2:=λx y H Q=>∃a b xs ys,x=.ref a/\y=.ref b/\dr K H a xs/\dr K H b ys/\xs≠[]/\xs.length+ys.length<=sizeLine /\
 (ys=[]->Q (.ref a) H)/\(ys≠[]->∀p,H p=none->Q (.ref p) (upd H p (.tup (xs ++ ys))))
def Vals.nU{xs:List V}{us:List Value}(r:Vals xs us):us=[]↔xs=[]:=by
 cases r with
 |nil=>simp
 |cons _ _=>simp
def Sy:lN X (binaryOp .Add) (CD X.K):=by intro pins s σ H x y v u Q I rx ry h;obtain⟨a,b,xs,ys,rfl,rfl,ha,hb,hx,hz,q1,q2⟩:=h;cases rx;cases ry;obtain⟨its,r1,p1,_⟩:=I.tuple ha;obtain⟨its2,r2,p2,_⟩:=I.tuple hb;refine HT.Sl p1 p2 (λz=>hx (r1.nU.mp z)) (λz=>⟨.ref a,H,I,rfl,q1 (r2.nU.mp z)⟩) (λz=>?_) (by rw[<- r1.length,<- r2.length];exact hz);refine⟨.ref s.heap.objs.size,_,I.laid (t':=s.toks) (o:=.tup (xs ++ ys)) (λb ob q=>Zai _ q) (Zaa _) ?_,rfl,q2 (λw=>z (r2.nU.mpr w)) _ (I.hok.fresh (Zaa _))⟩;exact⟨by rw[Zaf];exact hz,_,r1.append r2,pg.new _ _⟩
end
abbrev mP(n:Nat)(i:Int):Option Nat:=if 0<=i then(if i<n then some i.toNat else none)else if -(n:Int)<=i then some (i+n).toNat else none
abbrev gD{α:Type}(xs:List α)(i:Int):Option α:=(mP xs.length i).bind λj=>xs[j]?
def Kc{n:Nat}{i:Int}{j:Nat}(h:mP n i=some j):seqIndex? i n=some j/\j<n/\-(n:Int)<=i/\i<n:=by unfold mP at h;by_cases h0:0<=i;rw[if_pos h0]at h;by_cases h1:i<n;rw[if_pos h1]at h;have e:i.toNat=j:=Zam h;exact⟨by rw[seqIndex_of h0 h1,e],by lk,by lk,h1⟩;rw[if_neg h1]at h;cases h;rw[if_neg h0]at h;by_cases h1:-(n:Int)<=i;rw[if_pos h1]at h;have e:(i+n).toNat=j:=Zam h;exact⟨by rw[seqIndex_neg ⋯ h1,e],by lk,h1,by lk⟩;rw[if_neg h1]at h;cases h
def Nz{α:Type}{xs:List α}{i:Int}{v:α}(h:gD xs i=some v):∃j,seqIndex? i xs.length=some j/\xs[j]?=some v/\j<xs.length/\-(xs.length:Int)<=i/\i<xs.length:=by
 unfold gD at h;cases e:mP xs.length i with
 |none=>rw[e]at h;cases h
 |some j =>
  rw[e]at h;obtain⟨h1,h2,h3,h4⟩:=Kc e;exact⟨j,h1,h,h2,h3,h4⟩
def tQ{α:Type}{xs:List α}{j:Nat}{v:α}(h:xs[j]?=some v):gD xs (j:Int)=some v:=by
 have hj:j<xs.length:=(Z9.mp h).1;have e:mP xs.length (j:Int)=some j:=by
  unfold mP;rw[if_pos ⋯,if_pos ⋯];simp
 unfold gD;rw[e];exact h
abbrev vq(b:Expr):Prop:=∀o i,subscripted b false o i=operate [o,i] (getItem o i)
abbrev GW(X:Cx)(r:R2):Prop :=
 ∀(value slice:Expr) (pins:List (Addr×Obj)) (s:Shared) (σ:St) (H:Hp) (x y:V) (v u:Value) (Q:VK),Inv X pins σ H s->RelV x v->RelV y u->r x y H Q ->
  subscripted slice false v u=operate [v,u] (getItem v u)->wpAny (model X.prog X.w) X.A (subscriptTail value slice v u) (EP X pins σ Q) X.xe s
abbrev GX(X:Cx)(id:String)(r:V->List V->Hp->VK->Prop):Prop :=
 ∀(pins:List (Addr×Obj)) (s:Shared) (σ:St) (H:Hp) (x:V) (xs:List V) (v:Value) (us:List Value) (Q:VK),Inv X pins σ H s->RelV x v->Vals xs us->r x xs H Q ->
  wpAny (model X.prog X.w) X.A (call (.builtin id) (v :: us)) (EP X pins σ Q) X.xe s
section
variable {X:Cx}{a b:Expr}{ta tb:TE}{pos:Pos}
def CF{r:R2}(hr:GW X r)(ha:PE X a ta)(hb:PE X b tb)(hs:vq b):PE X (.Subscript a b pos) (Cq r ta tb):=by intro pins s σ H Q I h;exact Subscript_ (yj ha hb I h λv u s2 x y H2 I2 rx ry q=>hr a b pins s2 σ H2 x y v u Q I2 rx ry q (hs _ _))
abbrev CG(K:Zfr):R2:=λx y H Q=>∃p xs i v,x=.ref p/\y=.int i/\jZ K H p xs/\gD xs i=some v/\Q v H
abbrev yp(K:Zfr):R2:=λx y H Q=>∃p xs i v,x=.ref p/\y=.int i/\dr K H p xs/\gD xs i=some v/\Q v H
def nM:GW X (CG X.K):=by
 intro value slice pins s σ H x y v u Q I rx ry h hs;obtain⟨p,xs,i,z,rfl,rfl,hq,he,q⟩:=h;cases rx;obtain⟨t,rfl⟩:=ry;obtain⟨its,r,pl,hz⟩:=I.list hq;obtain⟨j,h1,h2,h3,h4,h5⟩:=Nz he;obtain⟨w,ew,rw'⟩:=r.get h2;have hl:=r.length;have hn:=mS;have fin:EP X pins σ Q w s:=⟨z,H,I,rw',q⟩;by_cases h0:0<=i;have hj:i.toNat=j:=by
  rw[seqIndex_of h0 h5]at h1;exact Zam h1
 exact item_listR pl.isList h0 ⋯ (by rw[hj];simpa using ew) fin hs;have hj:(i + (its.toArray.size:Int)).toNat=j:=by
  rw[seqIndex_neg ⋯ h4]at h1;rw[Zak,<- hl];exact Zam h1
 exact subscriptTail_builtinR (x:=w) pl.isList.typeIs slot_list_getitem.lookup
  (wpAny_getItem_list_neg (Q:=λr s'=>r=w/\EP X pins σ Q r s') pl.isList ⋯ (by rw[Zak]<;>lk) ⋯ (by rw[hj];simpa using ew) ⟨rfl,fin⟩) hs
def bT:GW X (yp X.K):=by
 intro value slice pins s σ H x y v u Q I rx ry h hs;obtain⟨p,xs,i,z,rfl,rfl,hq,he,q⟩:=h;cases rx;obtain⟨t,rfl⟩:=ry;obtain⟨its,r,pl,hz⟩:=I.tuple hq;obtain⟨j,h1,h2,h3,h4,h5⟩:=Nz he;obtain⟨w,ew,rw'⟩:=r.get h2;have hl:=r.length;have hn:=mS;have fin:EP X pins σ Q w s:=⟨z,H,I,rw',q⟩;exact subscriptTail_builtinR (x:=w) pl.typeIs slot_tuple_getitem.lookup
  (getItem_tuple (j:=j) (Q:=λr s'=>r=w/\EP X pins σ Q r s') pl ⋯ ⋯ (by rw[Zak,<- hl];exact h1) (by simpa using ew) ⟨rfl,fin⟩) hs
def Sz(its:List Value)(n j:Nat)(u:Value):Obj.mapSeq (·.setIfInBounds j u) { cls:=.type "list",data:=.seq its.toArray n }={ cls:=.type "list",data:=.seq (its.set j u).toArray n }:=by simp[Obj.mapSeq]
def Inv.lst{pins:List (Addr×Obj)}{σ:St}{H:Hp}{s:Shared}{p:Addr}{xs:List V}(I:Inv X pins σ H s)(h:H p=some (.lst xs)):
  ∃(its:List Value) (n:Nat),Vals xs its/\s.heap.get? p=some { cls:=.type "list",data:=.seq its.toArray n }/\xs.length<=sizeLine:=by
 obtain⟨z,its,n,r,e⟩:=I.hok p _ h;exact⟨its,n,r,e,z⟩
def Inv.yq{pins:List (Addr×Obj)}{σ:St}{H:Hp}{s:Shared}{p:Addr}{xs ys:List V}{its its':List Value}{n n':Nat}{f:Obj->Obj}(I:Inv X pins σ H s)(h:H p=some (.lst xs))
  (ho:s.heap.get? p=some { cls:=.type "list",data:=.seq its.toArray n }) (hf:f { cls:=.type "list",data:=.seq its.toArray n }={ cls:=.type "list",data:=.seq its'.toArray n' }) (r:Vals ys its') (hz:ys.length<=sizeLine) (t:Nat) :
  Inv X pins σ (upd H p (.lst ys)) { s with heap:=s.heap.update p f,toks:=t }:=by
 have e:(s.heap.update p f).get? p=some { cls:=.type "list",data:=.seq its'.toArray n' }:=by
  rw[Zbg f ho (by rw[hf]<;>rfl),hf]
 refine I.write (x:=p) (e:=p) (by rw[h];trivial) (.inl rfl) (λb u hb q=>(ZaY _ _ (Ne.symm hb)).trans q) ⟨_,e⟩ ?_;exact⟨hz,its',n',r,e⟩
abbrev wV:V->V->V->Hp->(Hp->Prop)->Prop:=λo i v H Q=>∃p xs k j,o=.ref p/\i=.int k/\H p=some (.lst xs)/\mP xs.length k=some j/\Q (upd H p (.lst (xs.set j v)))
def Be:Cj X wV:=by
 intro pins s σ H o i v ov iv u Q I ro ri rv h;obtain⟨p,xs,k,j,rfl,rfl,hp,hj,q⟩:=h;cases ro;obtain⟨t,rfl⟩:=ri;obtain⟨its,n,r,ho,hz⟩:=I.lst hp;obtain⟨h1,h2,h3,h4⟩:=Kc hj;have hl:=r.length;have hn:=mS;have I':Inv X pins σ (upd H p (.lst (xs.set j v))) { s with heap:=s.heap.update p (Obj.mapSeq (·.setIfInBounds j u)) } :=
  I.yq hp ho (Sz its n j u) (r.set rv j) (by rw[Zbe];exact hz) s.toks
 by_cases h0:0<=k;have hk:k.toNat=j:=by
  rw[seqIndex_of h0 h4]at h1;exact Zam h1
 exact PySem.W.ki_setAt ho h0 ⋯ (by rw[Zak,<- hl];exact h4) (by rw[hk];exact⟨_,I',q⟩);have hk:(k + (its.toArray.size:Int)).toNat=j:=by
  rw[seqIndex_neg ⋯ h3]at h1;rw[Zak,<- hl];exact Zam h1
 exact PySem.W.ki_setBack ho ⋯ (by rw[Zak,<- hl];exact h3) ⋯ (by rw[hk];exact⟨_,I',q⟩)
def SA(lo hi:Option Int)(n:Nat):(sliceBounds lo hi none n).1=((HT.cw n 0 lo:Nat):Int)/\(sliceBounds lo hi none n).2.1=((HT.cw n n hi:Nat):Int)/\(sliceBounds lo hi none n).2.2=1:=by
 refine⟨?_,?_,rfl⟩;cases lo with
 |none=>simp[sliceBounds,HT.cw]
 |some i =>
  simp only[sliceBounds,HT.cw,Option.getD_none,show(1:Int) > 0 by decide,if_true];by_cases h:i<0;simp only[h,if_true]<;>lk;simp only[h,if_false]<;>lk
 cases hi with
 |none=>simp[sliceBounds,HT.cw]
 |some i =>
  simp only[sliceBounds,HT.cw,Option.getD_none,show(1:Int) > 0 by decide,if_true];by_cases h:i<0;simp only[h,if_true]<;>lk;simp only[h,if_false]<;>lk
def SD(its:List Value)(lo hi:Option Int):slicePick its.toArray lo hi none=((its.drop (HT.cw its.length 0 lo)).take (HT.cw its.length its.length hi-HT.cw its.length 0 lo)).toArray:=by obtain⟨h1,h2,h3⟩:=SA lo hi its.toArray.size;unfold slicePick;rw[h1,h2,h3];simp only[sliceRange_one,pick_run,Zak]<;>rfl
abbrev CH(K:Zfr):V->Option Int->Option Int->Hp->VK->Prop:=λx lo hi H Q=>∃a xs,x=.ref a/\jZ K H a xs/\∀p,H p=none->Q (.ref p) (upd H p (.lst (om xs lo hi)))
def NA:GU X (CH X.K):=by intro pins s σ H x v vl vu lo hi sl Q I rx hs pl pu h;obtain⟨a,xs,rfl,hx,q⟩:=h;cases rx;obtain⟨its,r,ht,hz⟩:=I.list hx;have hlen:=r.length;refine⟨"list",_,slot_list_getitem.lookup,ht.isList.typeIs,?_⟩;refine wpAny_getItem_list_slice ht.isList hs pl pu .none (by simp) ?_ (by rw[Zak]<;>lk);rw[SD,<- hlen];refine⟨.ref s.heap.objs.size,_,I.laid (t':=s.toks) (o:=.lst (om xs lo hi)) (λb ob q=>Zai _ q) (Zaa _) ?_,rfl,q _ (I.hok.fresh (Zaa _))⟩;exact⟨Zap (Ny xs lo hi) hz,_,0,(r.drop (HT.cw xs.length 0 lo)).take (HT.cw xs.length xs.length hi-HT.cw xs.length 0 lo),Zar _ rfl⟩
abbrev lH:V->Bool
 |.non=>true
 |.bl _=>true
 |.int _=>true
 |.str _=>true
 |_=>false
abbrev wW:V->V->Bool
 |.non,.non=>true
 |.bl a,.bl b=>a == b
 |.bl a,.int b=>(if a then 1 else 0) == b
 |.int a,.bl b=>a == (if b then 1 else 0)
 |.int a,.int b=>a == b
 |.str a,.str b=>a == b
 |_,_=>false
def yr{A:Around}{s:Shared}{y x:V}{u v:Value}(ry:RelV y u)(rx:RelV x v)(fy:lH y=true)(fx:lH x=true):SeqAt.EqAt A s u v (wW y x):=by
 cases y with
 |non =>
  cases ry;cases x with
  |non=>cases rx;exact SeqAt.EqAt.same _
  |bl b=>cases rx;exact SeqAt.EqAt.none_bool b
  |int b=>obtain⟨t,rfl⟩:=rx;exact SeqAt.EqAt.none_int b t
  |str b=>obtain⟨t,rfl⟩:=rx;exact SeqAt.EqAt.none_str b t
  |_=>exact absurd (show false=true from fx) Zaj
 |bl a =>
  cases ry;cases x with
  |non=>cases rx;exact SeqAt.EqAt.bool_none a
  |bl b=>cases rx;exact SeqAt.EqAt.bool_bool a b
  |int b=>obtain⟨t,rfl⟩:=rx;exact SeqAt.EqAt.bool_int a b t
  |str b=>obtain⟨t,rfl⟩:=rx;exact SeqAt.EqAt.bool_str a b t
  |_=>exact absurd (show false=true from fx) Zaj
 |int a =>
  obtain⟨t',rfl⟩:=ry;cases x with
  |non=>cases rx;exact SeqAt.EqAt.int_none a t'
  |bl b=>cases rx;exact SeqAt.EqAt.int_bool a t' b
  |int b=>obtain⟨t,rfl⟩:=rx;exact SeqAt.EqAt.int_int a t' b t
  |str b=>obtain⟨t,rfl⟩:=rx;exact SeqAt.EqAt.int_str a t' b t
  |_=>exact absurd (show false=true from fx) Zaj
 |str a =>
  obtain⟨t',rfl⟩:=ry;cases x with
  |non=>cases rx;exact SeqAt.EqAt.str_none a t'
  |bl b=>cases rx;exact SeqAt.EqAt.str_bool a t' b
  |int b=>obtain⟨t,rfl⟩:=rx;exact SeqAt.EqAt.str_int a t' b t
  |str b=>obtain⟨t,rfl⟩:=rx;exact SeqAt.EqAt.str_str a t' b t
  |_=>exact absurd (show false=true from fx) Zaj
 |_=>exact absurd (show false=true from fy) Zaj
abbrev qF(x:V)(u:Value):Bool:=match u with
 |.none=>wW .non x
 |.bool b=>wW (.bl b) x
 |.int i _=>wW (.int i) x
 |.str z _=>wW (.str z) x
 |_=>false
def NC{x y:V}{u:Value}(r:RelV y u)(f:lH y=true):qF x u=wW y x:=by
 cases y with
 |non=>cases r;rfl
 |bl b=>cases r;rfl
 |int i=>obtain⟨t,rfl⟩:=r;rfl
 |str z=>obtain⟨t,rfl⟩:=r;rfl
 |_=>exact absurd (show false=true from f) Zaj
def CI{x:V}:∀{xs:List V} {us:List Value},Vals xs us->xs.all lH=true->us.any (qF x)=xs.any λy=>wW y x
 |_,_,.nil,_=>rfl
 |y :: xs,u :: us,.cons r t,f=>by
  rw[List.all_cons,ZaB]at f;rw[Zbj,Zbj,NC r f.1,CI t f.2]
def CJ{A:Around}{s:Shared}{x:V}{v:Value}(rx:RelV x v)(fx:lH x=true):∀{xs:List V} {us:List Value},Vals xs us->xs.all lH=true->∀u∈us,SeqAt.EqAt A s u v (qF x u)
 |_,_,.nil,_=>λu hu=>by cases hu
 |y :: xs,u :: us,.cons r t,f=>λu' hu=>by
  rw[List.all_cons,ZaB]at f;rcases Zax.mp hu with rfl|hu
  rw[NC r f.1];exact yr r rx f.1 fx;exact CJ rx fx t f.2 u' hu
abbrev wX(x:V)(xs:List V):Bool:=xs.any λy=>wW y x
abbrev CK(K:Zfr)(neg:Bool):R2:=λx y H Q=>∃p xs,y=.ref p/\(jZ K H p xs\/dr K H p xs)/\lH x=true/\xs.all lH=true/\Q (.bl (if neg then !wX x xs else wX x xs)) H
def SE:lN X (compareOp .In) (CK X.K false):=by
 intro pins s σ H x y v u Q I rx ry h;obtain⟨p,xs,rfl,hq,fx,fs,q⟩:=h;cases ry;rcases hq with hq|hq
 obtain⟨its,r,pl,hz⟩:=I.list hq;refine SeqAt.in_listAt (qF x) pl.isList (λw hw=>CJ rx fx r fs w (by simpa using hw)) ⟨.bl _,H,I,rfl,?_⟩;rw[show its.toArray.any (qF x)=its.any (qF x) by simp,CI r fs];exact q;obtain⟨its,r,pl,hz⟩:=I.tuple hq;refine SeqAt.in_tupleAt (qF x) pl (λw hw=>CJ rx fx r fs w (by simpa using hw)) ⟨.bl _,H,I,rfl,?_⟩;rw[show its.toArray.any (qF x)=its.any (qF x) by simp,CI r fs];exact q
def GY:lN X (compareOp .NotIn) (CK X.K true):=by
 intro pins s σ H x y v u Q I rx ry h;obtain⟨p,xs,rfl,hq,fx,fs,q⟩:=h;cases ry;rcases hq with hq|hq
 obtain⟨its,r,pl,hz⟩:=I.list hq;refine SeqAt.notIn_listAt (qF x) pl.isList (λw hw=>CJ rx fx r fs w (by simpa using hw)) ⟨.bl _,H,I,rfl,?_⟩;rw[show its.toArray.any (qF x)=its.any (qF x) by simp,CI r fs];exact q;obtain⟨its,r,pl,hz⟩:=I.tuple hq;refine SeqAt.notIn_tupleAt (qF x) pl (λw hw=>CJ rx fx r fs w (by simpa using hw)) ⟨.bl _,H,I,rfl,?_⟩;rw[show its.toArray.any (qF x)=its.any (qF x) by simp,CI r fs];exact q
def mT:eZ X (.builtin "len") (λxs H Q=>∃p ys,xs=[.ref p]/\(jZ X.K H p ys\/dr X.K H p ys)/\Q (.int ys.length) H):=by
 intro pins s σ H xs us Q I r h;obtain⟨p,ys,rfl,hq,q⟩:=h;obtain⟨u,rfl,rx⟩:=vals1 r;cases rx;have hn:=mS;rcases hq with hq|hq
 obtain⟨its,r',pl,hz⟩:=I.list hq;have hlen:=r'.length;exact Calls.call_len_list pl.isList (by simp only[Zak]<;>lk) ⟨.int ys.length,H,I.tok _,⟨s.toks+1,by rw[Zak,hlen]⟩,q⟩;obtain⟨its,r',pl,hz⟩:=I.tuple hq;have hlen:=r'.length;exact len_tuple pl (by simp only[Zak]<;>lk) ⟨.int ys.length,H,I.tok _,⟨s.toks+1,by rw[Zak,hlen]⟩,q⟩
def GZ:eZ X (.type "list") (λxs H Q=>∃p ys,xs=[.ref p]/\(jZ X.K H p ys\/dr X.K H p ys)/\∀l,H l=none->Q (.ref l) (upd H l (.lst ys))):=by
 intro pins s σ H xs us Q I r h;obtain⟨p,ys,rfl,hq,q⟩:=h;obtain⟨u,rfl,rx⟩:=vals1 r;cases rx;have fin:∀ (its:List Value),Vals ys its->ys.length<=sizeLine->∀ (h':Heap) (c':Nat),(∀ b o',s.heap.get? b=some o'->h'.get? b=some o') ->
   h'.get? s.heap.objs.size=some { cls:=.type "list",dict:=none,data:=.seq its.toArray c',slots:=#[] }->EP X pins σ Q (.ref s.heap.objs.size) { s with heap:=h' }:=λits r' hz h' c' kp e =>
  ⟨.ref s.heap.objs.size,_,I.laid (t':=s.toks) kp (Zaa _) (show cb X.prog X.w _ h' _ (.lst ys)from⟨hz,its,c',r',e⟩),rfl,q _ (I.hok.fresh (Zaa _))⟩
 rcases hq with hq|hq
 obtain⟨its,r',pl,hz⟩:=I.list hq;have hlen:=r'.length;obtain⟨o,ho,hc,n,hd⟩:=pl.isList;exact call_list_seq p (.inl rfl) ho hc hd (λh' c' kp e=>fin its r' hz h' c' kp e) (by simp only[Zak]<;>lk);obtain⟨its,r',pl,hz⟩:=I.tuple hq;have hlen:=r'.length;obtain⟨o,ho,hc,n,hd⟩:=pl;exact call_list_seq p (.inr rfl) ho hc hd (λh' c' kp e=>fin its r' hz h' c' kp e) (by simp only[Zak]<;>lk)
def mV:eZ X (.type "tuple") (λxs H Q=>∃p ys,xs=[.ref p]/\((jZ X.K H p ys/\∀l,H l=none->Q (.ref l) (upd H l (.tup ys)))\/(dr X.K H p ys/\Q (.ref p) H))):=by
 intro pins s σ H xs us Q I r h;obtain⟨p,ys,rfl,h⟩:=h;obtain⟨u,rfl,rx⟩:=vals1 r;cases rx;rcases h with⟨hq,q⟩|⟨hq,q⟩
 obtain⟨its,r',pl,hz⟩:=I.list hq;have hlen:=r'.length;refine call_tuple_list pl.isList (λh' kp=>?_) (by simp only[Zak]<;>lk);have I1:Inv X pins σ H { s with heap:=h' }:=I.kept (t':=s.toks) kp;have I2:Inv X pins σ (upd H h'.objs.size (.tup ys)) { s with heap:=h'.push { cls:=.type "tuple",data:=.seq its.toArray } } :=
  I1.laid (t':=s.toks) (λb o e=>Zai _ e) (Zaa _) (show cb X.prog X.w _ _ _ (.tup ys)from⟨hz,its,r',pg.new _ _⟩)
 exact⟨.ref h'.objs.size,_,I2,rfl,q _ (I1.hok.fresh (Zaa _))⟩;obtain⟨its,r',pl,hz⟩:=I.tuple hq;exact call_tuple_same pl ⟨.ref p,H,I,rfl,q⟩
abbrev Kd(K:Zfr)(T:String)(x:V)(H:Hp):Prop:=match x with
 |.str _=>T="str"
 |.int _=>T="int"
 | .ref p=>(T="list" /\ ∃ xs,jZ K H p xs)\/(T="tuple" /\ ∃ xs,dr K H p xs) \/
   (T="dict" /\ ((∃kvs,H p=some (.dK kvs))\/∃kvs,H p=some (.dT kvs)))\/(T="set" /\ ∃S n,H p=some (.set S n))
 |_=>False
def yt{pins:List (Addr×Obj)}{σ:St}{H:Hp}{s:Shared}{T:String}{x:V}{v:Value}(I:Inv X pins σ H s)(r:RelV x v)(ty:Kd X.K T x H):
  s.TypeIs v T/\∀a,v=.ref a->∃ob,s.heap.get? a=some ob/\ob.dict=none:=by
 cases x with
 |str z =>
  obtain⟨t,rfl⟩:=r;cases(show T="str" from ty);exact⟨typeIs_str s z t,λ_ e=>nomatch e⟩
 |int i =>
  obtain⟨t,rfl⟩:=r;cases(show T="int" from ty);exact⟨typeIs_int s i t,λ_ e=>nomatch e⟩
 |ref p =>
  cases r;rcases ty with⟨rfl,xs,hq⟩|⟨rfl,xs,hq⟩|⟨rfl,hk⟩|⟨rfl,S,n,hk⟩
  obtain⟨its,_,pl,_⟩:=I.list hq;refine⟨pl.isList.typeIs,λa e=>?_⟩;cases e;obtain⟨o,n,e,c,hd,_⟩:=pl;exact⟨o,e,hd⟩;obtain⟨its,_,⟨o,e,c,d,_⟩,_⟩:=I.pk hq;refine⟨⟨o,e,c⟩,λa e2=>?_⟩;cases e2;exact⟨o,e,d⟩;have z:∃ o,s.heap.get? p=some o/\o.ExactDict:=by
   rcases hk with⟨kvs,hk⟩|⟨kvs,hk⟩
   obtain⟨_,_,_,_,o,_,_,e,ex,_⟩:=I.hok p _ hk;exact⟨o,e,ex⟩;obtain⟨_,_,_,_,o,_,_,e,ex,_⟩:=I.hok p _ hk;exact⟨o,e,ex⟩
  obtain⟨o,e,ex⟩:=z;refine⟨⟨o,e,ex.1⟩,λa e2=>?_⟩;cases e2;exact⟨o,e,ex.2.1⟩;obtain⟨o,_,_,_,e,ex,_⟩:=I.hok p _ hk;refine⟨⟨o,e,ex.1⟩,λa e2=>?_⟩;cases e2;exact⟨o,e,ex.2.1⟩
 |_=>exact False.elim ty
abbrev Ke(K:Zfr)(T:String)(r:V->List V->Hp->VK->Prop)(to:TE)(t:TA):TE:=λσ H Q=>to σ H λx H1=>Kd K T x H1/\t σ H1 λxs H2=>r x xs H2 Q
variable {o e:Expr}{es:List Expr}{to:TE}{t:TA}{name:Str}{apos cpos:Pos}{T id:String}{r:V->List V->Hp->VK->Prop}
def qz(pa:PlainAttrs T)(slot:Slot T name id)(hty:typeOf (.builtin id)=pure (.type "method_descriptor"))(hm:GX X id r)(ho:PE X o to)(ha:PA X (e :: es) t)
  (hbase:attributeBase o name X.env (eval o X.env)=eval o X.env:=by rfl)
  (hfew:((backTo cpos (starEach (e :: es) X.env)).all (λx=>!x.1) && (backToKw cpos (keywordEach [] X.env)).all (λx=>x.1.isSome)
   && decide ((e :: es).length+([]:List Keyword).length+(if([]:List Keyword).isEmpty then 0 else 1)<30))=true:=by rfl)
  (hline:(apos.endLine == cpos.line)=true:=by rfl) (hs:starEach (e :: es) X.env=(false,eval e X.env) :: starEach es X.env:=by rfl) (hplain:(backTo cpos (starEach es X.env)).any (·.1)=false:=by rfl) :
  PE X (.Call (.Attribute o name apos) (e :: es) [] cpos) (Ke X.K T r to t):=by
 intro pins s σ H Q I h;refine wpAny_Call_method_late hbase hfew hline rfl (b8 (ho pins s σ H _ I h) λv s1 ⟨x,H1,I1,r1,ty,q1⟩=>?_);obtain⟨h1,h2⟩:=yt I1 r1 ty;refine⟨T,id,pa,slot,hty,h1,h2,?_⟩;have hA:=ha cpos pins s1 σ H1 _ I1 q1;rw[hs]at hA ⊢;refine Calls.callWith_builtin (by show(false || (backTo cpos (starEach es X.env)).any (·.1))=false;rw[hplain]<;>rfl) (Calls.evalArgs_plain ?_);exact b8 hA λus s2 ⟨vs,H2,I2,r2,q2⟩=>hm pins s2 σ H2 x vs v us Q I2 r1 r2 q2
end
abbrev Kf(X:Cx)(id:String)(r:V->List V->Hp->VK->Prop):Prop :=
 ∀(pins:List (Addr×Obj)) (s:Shared) (σ:St) (H:Hp) (x:V) (xs:List V) (v:Value) (us:List Value) (Q:VK),Inv X pins σ H s->RelV x v->Vals xs us->r x xs H Q ->
  wpAny (model X.prog X.w) X.A (call (.builtin id) (v :: us)) (EP X pins σ Q) X.xe s
def Vals.one:∀{x:V} {us:List Value},Vals [x] us->∃u,us=[u]/\RelV x u
 |_,_,.cons r .nil=>⟨_,rfl,r⟩
def Vals.eraseIdx:∀{xs:List V} {us:List Value} (i:Nat),Vals xs us->Vals (xs.eraseIdx i) (us.eraseIdx i)
 |_,_,_,.nil=>.nil
 |_,_,0,.cons _ t=>t
 |_,_,i+1,.cons r t=>.cons r (Vals.eraseIdx i t)
def Vals.rep{xs:List V}{us:List Value}(h:Vals xs us):∀k:Nat,Vals (List.replicate k xs).flatten (List.replicate k us).flatten
 |0=>.nil
 |k+1=>by
  rw[Za7,Za7,Zbl,Zbl];exact Vals.append h (Vals.rep h k)
def ND{α:Type}:∀(l:List α) (i:Nat),(l.eraseIdx i).length<=l.length
 |[],_=>Zaa _
 |_ :: _,0=>Zb4 _
 |_ :: r,i+1=>Nat.succ_le_succ (ND r i)
def NF(its:List Value):∀(k:Nat) (acc:List Value),
  List.foldl (λx1 x2=>x1 ++ x2) acc.toArray (List.replicate k its.toArray)=(acc ++ (List.replicate k its).flatten).toArray
 |0,acc=>by simp
 |k+1,acc=>by
  have e:acc.toArray ++ its.toArray=(acc ++ its).toArray:=by simp
  have e2:(acc ++ its) ++ (List.replicate k its).flatten=acc ++ (List.replicate (k+1) its).flatten:=by
   rw[Za7,Zbl,Zbv]
  rw[<- e2,<- NF its k (acc ++ its),<- e,Za7,List.foldl_cons]
section
variable {X:Cx}{pins:List (Addr×Obj)}{σ:St}{H:Hp}{s:Shared}{l b:Addr}{xs ys zs:List V}
def Inv.yu{its its':List Value}{n:Nat}{f:Array Value->Array Value}{t':Nat}(I:Inv X pins σ H s)(hH:H l=some (.lst xs))
  (e:s.heap.get? l=some { cls:=.type "list",data:=.seq its.toArray n }) (hf:f its.toArray=its'.toArray) (hv:Vals ys its') (hz:ys.length<=sizeLine) :
  Inv X pins σ (upd H l (.lst ys)) { s with heap:=s.heap.update l (Obj.mapSeq f),toks:=t' }:=by
 have q:=PySem.IsL.update e f;rw[hf]at q;refine I.write (x:=l) (e:=l) (by rw[hH];exact trivial) (.inl rfl) (λb' u hb hu=>(ZaY s.heap (Obj.mapSeq f) (Ne.symm hb)).trans hu) ⟨_,q⟩ ?_;exact⟨hz,its',_,hv,q⟩
def Inv.CL{its:List Value}{t':Nat}(I:Inv X pins σ H s)(hv:Vals ys its)(hz:ys.length<=sizeLine):
  Inv X pins σ (upd H s.heap.objs.size (.lst ys)) { s with heap:=s.heap.push { cls:=.type "list",data:=.seq its.toArray },toks:=t' } :=
 I.laid (λ_ _ q=>Zai _ q) (Zaa _) ⟨hz,its,0,hv,Zar _ rfl⟩
def Inv.fresh(I:Inv X pins σ H s):H s.heap.objs.size=none:=I.hok.fresh (Zaa _)
def Inv.qG(I:Inv X pins σ H s)(hH:H l=some (.lst xs)):xs.length<=sizeLine/\∃(its:List Value) (n:Nat),Vals xs its/\xs.length=its.length/\s.heap.get? l=some { cls:=.type "list",data:=.seq its.toArray n }:=by obtain⟨z,its,n,r,e⟩:=I.hok l _ hH;exact⟨z,its,n,r,r.length,e⟩
def qf{n:Nat}(h:n<=sizeLine):Builtin.List.listTooLong n=false:=by unfold Builtin.List.listTooLong;exact decide_eq_false ⋯
end
section
variable {X:Cx}
abbrev rB:V->List V->Hp->VK->Prop:=λx vs H Q=>∃l xs y,x=.ref l/\vs=[y]/\H l=some (.lst xs)/\xs.length<sizeLine/\Q .non (upd H l (.lst (xs ++ [y])))
def sD:Kf X "list.append" rB:=by intro pins s σ H x vs v us Q I rx rv h;obtain⟨l,xs,y,rfl,rfl,hH,hz,q⟩:=h;cases rx;obtain⟨u,rfl,ru⟩:=rv.one;obtain⟨z,its,n,r,hl,e⟩:=I.qG hH;refine call_meets F.slot_list_append ⟨_,e,rfl⟩ F.entry_list_append (F.args_list_append_2 _ _) (PySem.list_append l its.toArray n u (by rw[Zak];lk)) ⟨e,?_⟩;refine⟨.non,_,I.yu (its':=its ++ [u]) hH e (by simp) (r.append (.cons ru .nil)) ?_,rfl,q⟩;rw[Zaf,ZaO];lk
abbrev rC:V->List V->Hp->VK->Prop:=λx vs H Q=>∃l b xs zs,x=.ref l/\vs=[.ref b]/\H l=some (.lst xs)/\H b=some (.lst zs)/\xs.length+zs.length<=sizeLine/\Q .non (upd H l (.lst (xs ++ zs)))
def SF:Kf X "list.extend" rC:=by
 intro pins s σ H x vs v us Q I rx rv h;obtain⟨l,b,xs,zs,rfl,rfl,hH,hB,hz,q⟩:=h;cases rx;obtain⟨u,rfl,ru⟩:=rv.one;cases ru;obtain⟨z,its,n,r,hl,e⟩:=I.qG hH;obtain⟨z2,its2,n2,r2,hl2,e2⟩:=I.qG hB;have hsz:its.toArray.size+its2.toArray.size<=sizeLine:=by rw[Zak,Zak];lk
 have tR:¬(!its.toArray.isEmpty && Builtin.List.listTooLong (its.toArray.size+its2.toArray.size))=true:=by
  rw[qf hsz,Bool.and_false];exact Zaj
 refine call_meets F.slot_list_extend ⟨_,e,rfl⟩ F.entry_list_extend (F.args_list_extend_2 _ _)
  (AutoSeq1.list_extend_list_list_0 l its.toArray n b its2.toArray n2 tR (by rw[Zak];lk) ⋯) ⟨e,e2,?_⟩
 refine⟨.non,_,I.yu (its':=its ++ its2) hH e (by simp) (r.append r2) ?_,rfl,q⟩;rw[Zaf];lk
abbrev tT:V->List V->Hp->VK->Prop:=λx vs H Q=>∃l xs i k y,x=.ref l/\vs=[.int i]/\H l=some (.lst xs)/\-(2 ^ 63)<=i/\i<2 ^ 63/\seqIndex? i xs.length=some k/\xs[k]?=some y/\Q y (upd H l (.lst (xs.eraseIdx k)))
def SG:Kf X "list.pop" tT:=by
 intro pins s σ H x vs v us Q I rx rv h;obtain⟨l,xs,i,k,y,rfl,rfl,hH,h1,h2,hk,hy,q⟩:=h;cases rx;obtain⟨u,rfl,ru⟩:=rv.one;obtain⟨t,rfl⟩:=ru;obtain⟨z,its,n,r,hl,e⟩:=I.qG hH;obtain⟨w,hw,rw'⟩:=r.get hy;refine call_meets F.slot_list_pop ⟨_,e,rfl⟩ F.entry_list_pop (F.args_list_pop_2 _ _)
  (MeetsSeq.list_pop_at l its.toArray n i t k w (fitsIndex_both h1 h2) (by rw[Zak,<- hl];exact hk) (by rw[<- Za2];exact hw) (by rw[Zak];lk)) ⟨e,?_⟩
 refine⟨y,_,I.yu (its':=its.eraseIdx k) hH e ?_ (r.eraseIdx k) ?_,rw',q⟩;show its.toArray.eraseIdxIfInBounds k=(its.eraseIdx k).toArray;rw[List.eraseIdxIfInBounds_toArray]
 have:=ND xs k
 lk
abbrev CM:R2:=λx y H Q=>∃l b xs zs,x=.ref l/\y=.ref b/\H l=some (.lst xs)/\H b=some (.lst zs)/\xs.length+zs.length<=sizeLine/\∀p,H p=none->Q (.ref p) (upd H p (.lst (xs ++ zs)))
def uU:lN X (binaryOp .Add) CM:=by
 intro pins s σ H x y v u Q I rx ry h;obtain⟨l,b,xs,zs,rfl,rfl,hH,hB,hz,q⟩:=h;cases rx;cases ry;obtain⟨z,its,n,r,hl,e⟩:=I.qG hH;obtain⟨z2,its2,n2,r2,hl2,e2⟩:=I.qG hB;refine PySem.P.add_list e e2 ?_ (by rw[Zak,Zak];lk);have ea:its.toArray ++ its2.toArray=(its ++ its2).toArray:=by simp
 rw[ea];exact⟨.ref _,_,I.CL (t':=s.toks) (r.append r2) (by rw[Zaf];lk),rfl,q _ I.fresh⟩
abbrev CN:R2:=λx y H Q=>∃l k xs,x=.ref l/\y=.int k/\H l=some (.lst xs)/\-(2 ^ 63)<=k/\k<2 ^ 63/\xs.length*k.toNat<=sizeLine /\
 ∀p,H p=none->Q (.ref p) (upd H p (.lst (List.replicate k.toNat xs).flatten))
def SH{α:Type}(xs:List α)(k:Nat):(List.replicate k xs).flatten.length=k*xs.length:=by
 induction k with
 |zero=>simp
 |succ k ih=>rw[Za7,Zbl,Zaf,ih,ZbN,Nat.add_comm]
def G0:lN X (binaryOp .Mult) CN:=by
 intro pins s σ H x y v u Q I rx ry h;obtain⟨l,k,xs,rfl,rfl,hH,h1,h2,hz,q⟩:=h;cases rx;obtain⟨t,rfl⟩:=ry;obtain⟨z,its,n,r,hl,e⟩:=I.qG hH;have hlen:its.toArray.size*k.toNat<=sizeLine:=by rw[Zak,<- hl];exact hz
 have hcap:¬its.toArray.size*k.toNat > (2 ^ 63-1) / 8:=by
  have:(sizeLine:Nat)<=(2 ^ 63-1) / 8:=by decide
  lk
 have hfit:¬(!Builtin.List.listFitsIndex k)=true:=by
  rw[fitsIndex_both h1 h2];exact Zaj
 have tR:¬Builtin.List.listTooLong (its.toArray.size*k.toNat)=true:=by
  rw[qf hlen];exact Zaj
 have hnew:List.foldl (λx1 x2=>x1 ++ x2) #[] (List.replicate (if its.toArray.isEmpty=true then 0 else k.toNat) its.toArray)=(List.replicate k.toNat its).flatten.toArray:=by
  have f0:∀m:Nat,List.foldl (λx1 x2=>x1 ++ x2) #[] (List.replicate m its.toArray)=(List.replicate m its).flatten.toArray:=λm=>by
   have:=NF its m [];rw[List.nil_append]at this;exact this
  rw[f0];cases its with
  |nil=>simp
  |cons a r'=>rw[if_neg (by simp)]
 refine wpAny_binaryOp_repeat_ref (T:="list") (U:="int") ∅ ⟨_,e,rfl⟩ (λs'=>typeIs_int s' k t) noFill_list_mul F.fills_int_mul F.slot_int_rmul repeat_list F.slot_int_index.lookup
  (call_meets F.slot_int_rmul (typeIs_int s k t) F.entry_int_rmul (F.args_int_rmul_2 _ _) (int___rmul___int_list k t l its.toArray n)
   ⟨e,rfl,⟨_,e,rfl⟩,call_meets F.slot_list_mul ⟨_,e,rfl⟩ F.entry_list_mul (F.args_list_mul_2 _ _) (AutoListH.list___mul___list_int_3 l its.toArray n k t hfit hcap tR) ⟨e,?_⟩⟩)
 rw[hnew];exact⟨.ref _,_,I.CL (t':=s.toks) (r.rep k.toNat) (by rw[SH,ZbW];exact hz),rfl,q _ I.fresh⟩
end
section
variable {κ:Type}[DecidableEq κ]
abbrev lO(kvs:List (κ×V))(k:κ):Option V:=(kvs.find? λkv=>decide (kv.1=k)).map (·.2)
abbrev putK(kvs:List (κ×V))(k:κ)(v:V):List (κ×V) :=
 if(kvs.any λkv=>decide (kv.1=k))=true then kvs.map (λkv=>if kv.1=k then(kv.1,v)else kv)else kvs ++ [(k,v)]
def Kg{p:κ×V}{r:List (κ×V)}{k:κ}(e:p.1=k):lO (p :: r) k=some p.2:=by simp[lO,Za5,e]
def Kh{p:κ×V}{r:List (κ×V)}{k:κ}(e:¬p.1=k):lO (p :: r) k=lO r k:=by simp[lO,Za5,e]
def NG(k:κ):∀kvs:List (κ×V),(kvs.any λkv=>decide (kv.1=k))=(lO kvs k).isSome
 |[]=>rfl
 |p :: r=>by
  rw[Zbj];by_cases e:p.1=k;simp only[Kg e,decide_eq_true e,Bool.true_or,Option.isSome_some];rw[Kh e,decide_eq_false e,Bool.false_or];exact NG k r
def NH(kvs:List (κ×V))(k:κ)(v:V):(putK kvs k v).length<=kvs.length+1:=by unfold putK;split;rw[Z7];lk;rw[Zaf,ZaG,List.length_nil];lk
def sv.mW{o:Option V}{u:Option Value}(r:sv o u):o.isSome=u.isSome:=by
 cases o with
 |none=>cases u with
  |none=>rfl
  |some _=>exact(show False from r).elim
 |some _=>cases u with
  |none=>exact(show False from r).elim
  |some _=>rfl
def KV.val{kvs:List (κ×V)}{vs:List (κ×Value)}(r:KV kvs vs)(k:κ):sv (lO kvs k) (valueAt vs k):=by
 unfold KV at r
 induction r with
 |nil=>exact True.intro
 |@cons p q ps qs h t ih =>
  obtain⟨h1,h2⟩:=h;by_cases e:p.1=k;have e':q.1=k:=h1.symm.trans e;have b:valueAt (q :: qs) k=some q.2:=by simp[valueAt,Za5,e']
  rw[Kg e,b];exact h2;have e':¬q.1=k:=λz=>e (h1.trans z);have b:valueAt (q :: qs) k=valueAt qs k:=by simp[valueAt,Za5,e']
  rw[Kh e,b];exact ih
def KV.any{kvs:List (κ×V)}{vs:List (κ×Value)}(r:KV kvs vs)(k:κ):(kvs.any λkv=>decide (kv.1=k))=vs.any λkv=>decide (kv.1=k):=by
 unfold KV at r
 induction r with
 |nil=>rfl
 |cons h t ih=>rw[Zbj,Zbj,ih,h.1]
def KV.repl{kvs:List (κ×V)}{vs:List (κ×Value)}(r:KV kvs vs)(k:κ){y:V}{u:Value}(ry:RelV y u):
  KV (kvs.map λkv=>if kv.1=k then(kv.1,y)else kv) (vs.map λkv=>if kv.1=k then(kv.1,u)else kv):=by
 unfold KV at r ⊢
 induction r with
 |nil=>exact .nil
 |@cons p q ps qs h t ih =>
  rw[Zaq,Zaq];refine .cons ?_ ih;obtain⟨h1,h2⟩:=h;by_cases e:p.1=k;rw[if_pos e,if_pos (h1.symm.trans e)];exact⟨h1,ry⟩;rw[if_neg e,if_neg (λz=>e (h1.trans z))];exact⟨h1,h2⟩
def KV.put{kvs:List (κ×V)}{vs:List (κ×Value)}(r:KV kvs vs)(k:κ){y:V}{u:Value}(ry:RelV y u):KV (putK kvs k y) (stored vs k u):=by unfold putK stored;rw[r.any k];by_cases e:(vs.any λkv=>decide (kv.1=k))=true;rw[if_pos e,if_pos e];exact r.repl k ry;rw[if_neg e,if_neg e];exact Paired.snoc r ⟨rfl,ry⟩
def KV.length{kvs:List (κ×V)}{vs:List (κ×Value)}(r:KV kvs vs):kvs.length=vs.length:=Paired.length r
end
def Ki{P:Program}{w:World}{k:Key}{u:Value}(r:RelV (kV k) u):(cL P w).is k u=true:=by
 cases k with
 |inl i=>obtain⟨t,e⟩:=(show∃t,u=Value.int i t from r);subst e;exact RS P w i t
 |inr x=>obtain⟨t,e⟩:=(show∃t,u=Value.str x t from r);subst e;exact RT P w x t
def NI{P:Program}{w:World}:∀{ks:List Key} {us:List Value},Vals (ks.map kV) us->ItemsAre (cL P w) ks us
 |[],_,r=>by rw[ZaH]at r;cases r;exact .nil
 |k :: ks,_,r=>by
  rw[Zaq]at r;cases r with
  |cons h t=>exact .cons (Ki h) (NI t)
@[reducible]def KT(H:Hp):List (List Key×V)->List (List Key×Addr×Value)->Prop:=Paired λp q=>p.1=q.1/\H q.2.1=some (.tup (p.1.map kV))/\RelV p.2 q.2.2
def KT.val{H:Hp}{kvs:List (List Key×V)}{xs:List (List Key×Addr×Value)}(r:KT H kvs xs)(k:List Key):sv (lO kvs k) ((atKey xs k).map (·.2)):=by
 induction r with
 |nil=>exact True.intro
 |@cons p q ps qs h t ih =>
  obtain⟨h1,_,h2⟩:=h;by_cases e:p.1=k;have e':q.1=k:=h1.symm.trans e;have b:atKey (q :: qs) k=some q.2:=by simp[atKey,Za5,e']
  rw[Kg e,b];exact h2;have e':¬q.1=k:=λz=>e (h1.trans z);have b:atKey (q :: qs) k=atKey qs k:=by simp[atKey,Za5,e']
  rw[Kh e,b];exact ih
def KT.repl{H:Hp}{kvs:List (List Key×V)}{xs:List (List Key×Addr×Value)}(r:KT H kvs xs)(k:List Key){y:V}{u:Value}(ry:RelV y u):
  KT H (kvs.map λkv=>if kv.1=k then(kv.1,y)else kv) (xs.map (putAt k u)):=by
 induction r with
 |nil=>exact .nil
 |@cons p q ps qs h t ih =>
  rw[Zaq,Zaq];refine .cons ?_ ih;obtain⟨h1,h2,h3⟩:=h;unfold putAt;by_cases e:p.1=k;rw[if_pos e,if_pos (h1.symm.trans e)];exact⟨h1,h2,ry⟩;rw[if_neg e,if_neg (λz=>e (h1.trans z))];exact⟨h1,h2,h3⟩
def KT.put{H:Hp}{kvs:List (List Key×V)}{xs:List (List Key×Addr×Value)}(r:KT H kvs xs)(k:List Key){b:Addr}{y:V}{u:Value}(hb:H b=some (.tup (k.map kV)))(ry:RelV y u):
  KT H (putK kvs k y) (storedH xs k b u):=by
 have e:(kvs.any λkv=>decide (kv.1=k))=(atKey xs k).isSome:=by
  rw[NG,(r.val k).mW,Option.isSome_map]
 unfold putK storedH;rw[e];by_cases q:(atKey xs k).isSome=true;rw[if_pos q,if_pos q];exact r.repl k ry;rw[if_neg q,if_neg q];exact Paired.snoc r ⟨rfl,hb,ry⟩
def KT.keeps{H H':Hp}{kvs:List (List Key×V)}{xs:List (List Key×Addr×Value)}(r:KT H kvs xs)(ht:∀b ys,H b=some (.tup ys)->H' b=some (.tup ys)):KT H' kvs xs :=
 Paired.x6 r λ_ _ z=>⟨z.1,ht _ _ z.2.1,z.2.2⟩
section
variable {P:Program}{w:World}{H:Hp}{h:Heap}{a:Addr}
def wY{u:HO}(ok:mq P w H h)(e:Rd H a u):cb P w H h a u:=e.ok ok
def wZ{kvs:List (Key×V)}(ok:mq P w H h)(e:Rd H a (.dK kvs)):kvs.length<=sizeLine/\(a == sysModules)=false/\∃vs,KV kvs vs/\h.DictOf (cL P w) a vs :=
 show cb P w H h a (.dK kvs)from wY ok e
def CO{kvs:List (Key×V)}(ok:mq P w H h)(e:H a=some (.dK kvs)):kvs.length<=sizeLine/\(a == sysModules)=false/\∃vs,KV kvs vs/\h.DictOf (cL P w) a vs:=wZ ok (.inl e)
def Bf{ks:List Key}(ok:mq P w H h)(e:H a=some (.tup (ks.map kV))):(tupleKind (cL P w)).is h ks a:=by obtain⟨_,its,r,o,h1,h2,_,n,h3⟩:=(show cb P w H h a (.tup (ks.map kV))from ok a _ e);exact⟨o,its.toArray,n,h1,h2,h3,by simpa using NI r⟩
def w8{kvs:List (List Key×V)}(ok:mq P w H h)(e:Rd H a (.dT kvs)):kvs.length<=sizeLine/\(a == sysModules)=false /\
  ∃xs,KT H kvs xs/\h.DictOfH (tupleKind (cL P w)) a xs:=by
 obtain⟨z,y,xs,r,o,es,ep,h1,h2,h3,h4,h5⟩:=(show cb P w H h a (.dT kvs)from wY ok e);refine⟨z,y,xs,r,o,es,ep,h1,h2,h3,h4,λx hx=>?_,h5⟩;have all:∀{l:List (List Key×V)} {m:List (List Key×Addr×Value)},KT H l m->∀x∈m,(tupleKind (cL P w)).is h x.1 x.2.1:=by
  intro l m q
  induction q with
  |nil=>intro x hx;exact nomatch hx
  |@cons p q ps qs hq t ih =>
   intro x hx;rcases Zax.mp hx with e|hx
   subst e;exact Bf ok (by rw[<- hq.1];exact hq.2.1);exact ih x hx
 exact all r x hx
def CP{kvs:List (List Key×V)}(ok:mq P w H h)(e:H a=some (.dT kvs)):kvs.length<=sizeLine/\(a == sysModules)=false /\
  ∃xs,KT H kvs xs/\h.DictOfH (tupleKind (cL P w)) a xs:=w8 ok (.inl e)
end
abbrev tU(H:Hp)(a:Addr)(y:V)(r:Option V):Prop :=
 (∃kvs k,Rd H a (.dK kvs)/\y=kV k/\r=lO kvs k)\/∃kvs k b,Rd H a (.dT kvs)/\y=.ref b/\H b=some (.tup (k.map kV))/\r=lO kvs k
abbrev tV(H:Hp)(a:Addr)(y v:V)(H':Hp):Prop :=
 (∃kvs k,H a=some (.dK kvs)/\y=kV k/\kvs.length<sizeLine/\H'=upd H a (.dK (putK kvs k v))) \/
 ∃kvs k b,H a=some (.dT kvs)/\y=.ref b/\H b=some (.tup (k.map kV))/\kvs.length<sizeLine/\H'=upd H a (.dT (putK kvs k v))
def tU.k{H:Hp}{a:Addr}{kvs:List (Key×V)}{k:Key}(e:H a=some (.dK kvs)):tU H a (kV k) (lO kvs k):=.inl ⟨kvs,k,.inl e,rfl,rfl⟩
def tV.k{H:Hp}{a:Addr}{kvs:List (Key×V)}{k:Key}{v:V}(e:H a=some (.dK kvs))(hl:kvs.length<sizeLine):tV H a (kV k) v (upd H a (.dK (putK kvs k v))):=.inl ⟨kvs,k,e,rfl,hl,rfl⟩
section
variable {X:Cx}{pins:List (Addr×Obj)}{σ:St}{H:Hp}{s:Shared}{a:Addr}{y v:V}{u r:Value}{o:Option V}{A:Around}{E:Value->Shared->Prop}
def Inv.big(I:Inv X pins σ H s):sysModules<s.heap.objs.size:=by have h:mainGlobals<s.heap.objs.size:=(I.mod.glob.keeps I.bk).lt;exact Nat.lt_trans ∅ h
def SI{Q:Value->Shared->Prop}(hu:A.units+1<cLine)(I:Inv X pins σ H s)(g:tU H a y o)(ry:RelV y u)(h:∀s',Inv X pins σ H s'->Q (.bool (!o.isSome)) s'):
  wpAny (model X.prog X.w) A (compareOp .NotIn u (.ref a)) Q E s:=by
 rcases g with⟨kvs,k,e,ey,l⟩|⟨kvs,k,b,e,ey,eb,l⟩
 subst ey;obtain⟨z,hd,vs,rel,dd⟩:=wZ I.hok e;refine wpAny_notIn_of (Ki ry) hd dd.mapOf ?_;rw[<- (rel.val k).mW,<- l];exact h _ (I.tok _);subst ey;cases(show u=Value.ref b from ry);obtain⟨z,hd,xs,rel,dd⟩:=w8 I.hok e;refine wpAny_notIn_heap (tupleKind_room_in1 hu) (Bf I.hok eb) hd dd ?_;have q:=(rel.val k).mW;rw[Option.isSome_map]at q;rw[<- q,<- l];exact h _ (I.tok _)
def Kj{h':Heap}{t':Nat}{ob:HO}(I:Inv X pins σ H s)(mu:B5 (H a))(hs:Heap.SameBut a s.heap h')(he:∃q,h'.get? a=some q)(new:cb X.prog X.w (upd H a ob) h' a ob):
  Inv X pins σ (upd H a ob) { s with heap:=h',toks:=t' } :=
 I.write (x:=a) (e:=a) mu (.inl rfl) (λb q hb z=>(hs.2 b hb).trans z) he new
def yw{P:Program}{w:World}{H':Hp}{h':Heap}{kvs:List (Key×V)}{vs:List (Key×Value)}(z:kvs.length<=sizeLine)(hd:(a == sysModules)=false)(rel:KV kvs vs)(dd:h'.DictOf (cL P w) a vs):
  cb P w H' h' a (.dK kvs):=⟨z,hd,vs,rel,dd⟩
def SJ{H':Hp}{Q:Unit->Shared->Prop}(hu:A.units+1<cLine)(I:Inv X pins σ H s)(g:tV H a y v H')(ry:RelV y u)(rv:RelV v r)(h:∀s',Inv X pins σ H' s'->Q () s'):
  wpAny (model X.prog X.w) A (setItem (.ref a) u r) Q E s:=by
 rcases g with⟨kvs,k,e,ey,l,eH⟩|⟨kvs,k,b,e,ey,eb,l,eH⟩
 subst ey eH;obtain⟨z,hd,vs,rel,dd⟩:=CO I.hok e;have hz:vs.length<=sizeLine:=by rw[<- rel.length];exact z
 have hl:(putK kvs k v).length<=sizeLine:=by have:=NH kvs k v;lk
 refine wpAny_setItem_pairs (hsz:=hz) (Ki ry) dd λh' Bg hs=>h _ ?_;have he:∃q,h'.get? a=some q:=let ⟨q,_,_,hq,_⟩:=Bg;⟨q,hq⟩
 exact Kj I (by rw[e];exact True.intro) hs he (yw hl hd (rel.put k rv) Bg);subst ey eH;cases(show u=Value.ref b from ry);obtain⟨z,hd,xs,rel,dd⟩:=CP I.hok e;have hz:xs.length<=sizeLine:=by rw[<- Paired.length rel];exact z
 have hl:(putK kvs k v).length<=sizeLine:=by have:=NH kvs k v;lk
 refine wpAny_setItem_heap (hsz:=hz) (tupleKind_room_in1 hu) (Bf I.hok eb) dd λh' Bg hs=>h _ ?_;obtain⟨q,es,ep,hq,h2,h3,h4,_,h5⟩:=Bg;refine Kj I (by rw[e];exact True.intro) hs ⟨q,hq⟩ ⟨hl,hd,_,(rel.put k eb rv).keeps λc ys ec=>?_,q,es,ep,hq,h2,h3,h4,h5⟩;rw[jY (JR ec e (λz=>nomatch z))];exact ec
end
abbrev CQ(i:Expr):Prop:=∀ov iv,subscripted i false ov iv=operate [ov,iv] (getItem ov iv)
def SK{prog:Program}{w:World}{A:Around}{E:Value->Shared->Prop}{s:Shared}{env:Env}{value slice:Expr}{pos:Pos}{T id:String}{Q:Value->Shared->Prop}
  (hl:typeLookup (.type T) "__getitem__" = pure (some (.builtin id))) (hs:CQ slice)
  (h:wpAny (model prog w) A (eval value env) (λo s₁=>wpAny (model prog w) A (eval slice env) (λi s₂=>s₂.TypeIs o T/\wpAny (model prog w) A (getItem o i) Q E s₂) E s₁) E s) :
  wpAny (model prog w) A (eval (.Subscript value slice pos) env) Q E s:=by
 refine Subscript_ (wpAny_mono h (λo s₁ h₁=>wpAny_mono h₁ (λi s₂ h₂=>?_) λ_ _ x=>x) λ_ _ x=>x);obtain⟨hT,h₂⟩:=h₂;unfold subscriptTail;refine wpAny_bind ?_;rw[getitemInPython_of_ne hT.not_modules];refine wpAny_bind (wpAny_specialOf hT hl ?_);have fin:wpAny (model prog w) A (subscripted slice false o i) (λr s₃=>wpAny (model prog w) A (letTemporaryGo value o r >>= λ_=>pure r) Q E s₃) E s₂:=by
  rw[hs o i];exact wpAny_operating (wpAny_mono h₂ (λr s₃ h₃=>wpAny_bind (wpAny_letTemporaryGo (wpAny_pure h₃))) λ_ _ x=>x)
 first
  |exact wpAny_pure (wpAny_bind fin)
  |exact wpAny_bind (wpAny_pure (wpAny_bind fin))
  |exact wpAny_bind fin
abbrev rD(ty td:TE):TE:=λσ H Q=>ty σ H λy H1=>td σ H1 λx H2=>∃a o,x=.ref a/\tU H2 a y o/\Q (.bl (!o.isSome)) H2
abbrev xa(td ty tv:TE):TS:=λD σ H=>tv σ H λv H1=>td σ H1 λx H2=>ty σ H2 λy H3=>∃a H4,x=.ref a/\tV H3 a y v H4/\D.nx σ H4
section
variable {X:Cx}{o i e value:Expr}{pos pos' tpos:Pos}{td ty tv:TE}
def SM(hu:X.A.units+1<cLine)(hi:PE X i ty)(ho:PE X o td):PC X .NotIn i o (rD ty td):=by intro pins s σ H Q I h;refine b8 (hi pins s σ H _ I h) λiv s1 ⟨y,H1,I1,ry,q1⟩=>b8 (ho pins s1 σ H1 _ I1 q1) λu s2 ⟨x,H2,I2,rx,a,ov,ex,g,q2⟩=>?_;subst ex;obtain rfl:u=Value.ref a:=rx;exact SI hu I2 g ry λs3 I3=>⟨.bl (!ov.isSome),H2,I3,rfl,q2⟩
def SN(hu:X.A.units+1<cLine)(ho:PE X o td)(hi:PE X i ty)(hv:PE X value tv)(hs:swapsWith value (some (.Subscript o i pos')) pos.line X.env=pure false):
  PS X (.Assign [.Subscript o i pos'] value pos) (xa td ty tv):=by
 intro pins s σ H D I h;refine wpAny_Assign_Subscript (b8 (hv pins s σ H _ I h) λr s1 ⟨v,H1,I1,rv,q1⟩=>b8 (ho pins s1 σ H1 _ I1 q1) λu s2 ⟨x,H2,I2,rx,q2⟩=>b8 (hi pins s2 σ H2 _ I2 q2) λiv s3 ⟨y,H3,I3,ry,a,H4,ex,g,q3⟩=>?_) hs;subst ex;obtain rfl:u=Value.ref a:=rx;exact SJ hu I3 g ry rv λs4 I4=>⟨σ,H4,I4,q3⟩
end
def SO{P:Program}{w:World}{H:Hp}(h:Heap)(hb:sysModules<h.objs.size):cb P w H (h.push { cls:=.type "dict",data:=.dict #[] }) h.objs.size (.dK []) :=
 ⟨ZaM _,beq_eq_false_iff_ne.mpr (Ne.symm (ZaU hb)),[],.nil,Heap.DictOf.new h⟩
abbrev tW:TE:=λ_ H Q=>∀p,H p=none->Q (.ref p) (upd H p (.dK []))
section
variable {X:Cx}{pos:Pos}
def SQ:PE X (.Dict [] [] pos) tW:=λpins s σ H Q I h =>
 wpAny_Dict_empty ⟨.ref s.heap.objs.size,_,I.laid (a:=s.heap.objs.size) (o:=.dK []) (t':=s.toks) (λ_ _ q=>Zai _ q) (Zaa _) (SO s.heap I.big),rfl,h _ (I.hok.fresh (Zaa _))⟩
end
end L2
namespace NJ
open PySem PySem.W PySem.Calls PyProof.Rows
def SR{P:Params}{h:Heap}:∀(ns:List Int) (vs:List Value),WellAll P h vs (ns.map WData.int)->IntsAre vs ns:=by
 intro ns
 induction ns with
 |nil =>
  intro vs w;rw[ZaH]at w;cases w;exact .nil
 |cons n ns ih =>
  intro vs w;rw[Zaq]at w;cases w with
  |cons a b =>
   cases a;exact .cons _ _ (ih _ b)
def SS{l:OpenLaw}{n:Nat}(hn:l.most=some n){P:Params}{h:Heap}{args:List WData}{vals:List Value}
  (hpre:l.row.toRowW.claim.pre args=true) (hwl:WellAll P h vals args) :
  ∃a vs ns,vals=[Value.ref a]/\args=[WData.list (ns.map WData.int)]/\h.get? a=some { cls:=.type "list",data:=.seq vs.toArray }/\IntsAre vs ns/\ns.length<=n:=by
 have hsh:WShape.hasAll [] args [.list .int]=true:=(pre_splitW hpre).1;have hc:l.pre.holds [] { args:=args }=true:=(pre_splitW hpre).2;obtain⟨d,r,rfl,h1,h2⟩:=hasAllW_cons hsh;obtain rfl:=hasAllW_nil h2;obtain⟨xs,rfl,h3⟩:=hasW_list h1;obtain⟨ns,rfl⟩:=items_int h3;have hlen:ns.length<=n:=by
  unfold OpenLaw.pre at hc;have h4:(WTm.not (.lt (.lit (.int (n:Int))) (.len (.arg 0)))).holds [] { args:=[.list (ns.map .int)] }=true:=by
   have h4:=(holds_andW hc).1;rw[hn]at h4;exact h4
  have h5:=condW_of h4 (w_not (w_lt w_lit (w_len_list (w_arg rfl))));rw[Z7]at h5;refine ZbY λq=>?_;have q':(n:Int)<((ns.length:Nat):Int):=by lk
  first
   |(rw[decide_eq_true q']at h5;exact absurd h5 ∅)
   |(simp at h5;lk)
 cases hwl with
 |cons w1 w2 =>
  cases w2;cases w1 with
  |list ho hall=>exact⟨_,_,ns,rfl,rfl,ho,SR ns _ hall,hlen⟩
def SU(l:OpenLaw)(args:List WData):l.row.toRowW.claim.post args (.bool true) args=true :=
 postW_of (r:=l.row.toRowW) (X:=(true == true))
  (show WShape.has [] (.bool true) .bool=true by first|rfl|decide|simp[WShape.has,WShape.arms,WShape.armsAll])
  (show(WTm.eq .res (.lit (.bool true))).value [] { args:=args,res:=some (.bool true),after:=args }=some (.bool (true == true))from w_eq_bool (w_res rfl) w_lit) rfl
def SV{l:OpenLaw}{n:Nat}{q:Program}{loose:List Str}{XP:(Str->Option Value)->Heap->Prop}{YP:World->Heap->Prop}{d:DefRec}
  (hn:l.most=some n) (hdf:d.params.defaults=[])
  (call:∀(w:World) (s₀ s₁:Shared) (mg mb:Str->Option Value) (fa:Addr) (o:Obj) (pm cd doc:Value) (a:Addr) (vs:List Value) (ns:List Int),
   Ground q loose [] XP w s₀ mg mb s₁.heap->YP w s₁.heap ->
   s₁.heap.get? fa=some o->o.data=.func (docDef d.name d.params d.body d.scope pm cd doc)->s₁.heap.CodeRec cd d.name->mg d.name=some (.ref fa) ->
   s₁.heap.get? a=some { cls:=.type "list",data:=.seq vs.toArray }->IntsAre vs ns->ns.length<=n->s₁.gens=#[] ->
   codeAny (model l.prog w) callerA (.call (.ref fa) ⟨[.ref a],[]⟩) (λr s'=>r=.ok (.ret (.bool true))/\OldK s₁.heap s'.heap/\s'.os=s₁.os/\AllBare s'.gens) s₁) :
  WalkO q loose XP YP l.row.toRowW d [] (λf vs=>PySem.call f vs):=by
 intro w s₀ s₁ mg mb G Y fa o pm cd doc dV kV ho hd hcd hD hmg hg args vals as hpre hlay hrd hwl hlo;obtain rfl:dV=.none:=Dflts.none hD hdf;obtain rfl:kV=.none:=Dflts.noKw hD;obtain⟨a,vs,ns,rfl,rfl,hobj,hints,hlen⟩:=SS hn hpre hwl;refine enter_call (codeAny_mono (call w s₀ s₁ mg mb fa o pm cd doc a vs ns G Y ho (fd_plain hd) hcd hmg hobj hints hlen hg) λr s' hq=>?_);obtain⟨rfl,h2,h3,h4⟩:=hq;exact⟨.inl ⟨.bool true,.bool true,[],rfl,λ_=>rfl,.bool true,SU l _,λ_=>⟨List.Pairwise.nil,λ_ hm=>(nomatch hm)⟩⟩,h2,h3,h4⟩
end NJ
namespace L2
open PySem PySem.Spec PyProof.Rows
def NK:∀{vs:List Value} {ns:List Int},IntsAre vs ns->Vals (ns.map V.int) vs
 |_,_,.nil=>.nil
 |_,_,.cons n t h=>.cons ⟨t,rfl⟩ (NK h)
abbrev Only(H:Hp):Prop:=∀b,H b=none\/∃o xs,H b=some (.pf o (.lst xs))
def SW{P:Program}{w:World}{K:Zfr}{mg mb:Str->Option Value}{CX:sC}{k:Nat}{fa a:Addr}{fd:FuncData}{x:Str}{sp:Sp}{s₁:Shared}{vs:List Value}{ns:List Int}
  (KX:K.In s₁.heap) (hns:s₁.heap.Ns mainGlobals mg) (hb:s₁.heap.Ns builtinsNs mb) (Kk:∀x:Str,x≠"__name__" -> mb x=bootBuiltins x) (hlim:s₁.heap.NoLimit) (hg:s₁.gens=#[])
  (ha:s₁.heap.get? a=some { cls:=.type "list",data:=.seq vs.toArray }) (hi:IntsAre vs ns) (hl:ns.length<=sizeLine) (hr:iZ k callerA)
  (F:∀base:Heap,K.In base->base.Ns mainGlobals mg->aD P w K mg base CX k fa fd [x] sp) (hbind:∀(s:Shared) (u:Value),BindsTo s fd ⟨[u],[]⟩ [(x,u)])
  (uT:∀H:Hp,Only H->jZ K H a (ns.map V.int)->sp [.ref a] H (λv _=>v=.bl true) λ_ _ _=>False)
  (CS:∀H e s',CX [] H s₁ (λ_ _ _=>False) e s'->False) :
  codeAny (model P w) callerA (.call (.ref fa) ⟨[.ref a],[]⟩) (λr s'=>r=.ok (.ret (.bool true))/\OldK s₁.heap s'.heap/\s'.os=s₁.os/\AllBare s'.gens) s₁:=by
 have rv:=NK hi;have Kl:=hi.length;have core:∀ H:Hp,Only H->jZ K H a (ns.map V.int)->mq P w H s₁.heap->(∀ b,H b≠none->b=a)->(H a≠none->K.lookup a=none) ->
   codeAny (model P w) callerA (.call (.ref fa) ⟨[.ref a],[]⟩) (λr s'=>r=.ok (.ret (.bool true))/\OldK s₁.heap s'.heap/\s'.os=s₁.os/\AllBare s'.gens) s₁:=by
  intro H hO hS hok hA hK;have rE:∀{b:Addr} {o:Obj},s₁.heap.get? b=some o->H b=none->(pj s₁.heap H).get? b=some o:=λe n=>RW e n;have CB:∀{b:Addr} {o:Obj} {es:Array DictEntry} {ep:Nat},s₁.heap.get? b=some o->o.data=.dict es ep->H b=none:=λ{b o es ep} e d=>by
   cases q:H b with
   |none=>rfl
   |some u =>
    have e':b=a:=hA b (by rw[q];simp);subst e';rw[ha]at e;cases e;have d':Data.seq vs.toArray _=Data.dict es ep:=d;cases d'
  have G1:∀{b:Addr} {m:Str->Option Value},s₁.heap.Ns b m->(pj s₁.heap H).Ns b m:=λ{b m} ⟨o,es,ep,e,d,r⟩=>⟨o,es,ep,rE e (CB e d),d,r⟩
  have NL:K.In (pj s₁.heap H):=λb o e=>rE (KX b o e) (by
   cases q:H b with
   |none=>rfl
   |some u =>
    have e':b=a:=hA b (by rw[q];simp);subst e'
    rw[hK (by rw[q];simp)]at e;cases e)
  have hM:Mod K mg (pj s₁.heap H):=⟨NL,G1 hns,⟨mb,G1 hb,Kk⟩,let ⟨mc,h1,h2⟩:=hlim;⟨mc,G1 h1,h2⟩⟩;have e0:vp P w K mg (pj s₁.heap H) callerA [] s₁ H:=⟨rfl,hM,λb o e=>RX e,Nat.le_of_eq (RV _ _),trivial,λb hb=>absurd (show b∈([]:List Addr)from hb) (by simp),hok,.of_eq hg⟩;refine codeAny_mono ((F _ NL (G1 hns)).run callerA [] s₁ H ⟨[.ref a],[]⟩ [.ref a] [.ref a] _ _ hr e0 (hbind s₁ (.ref a)) (.cons rfl .nil) (uT H hO hS)) λr s' h=>?_;cases r with
  |error e=>exact(CS H e s' h).elim
  |ok fl =>
   cases fl with
   |next=>exact False.elim h
   |brk=>exact False.elim h
   |cont=>exact False.elim h
   |ret u =>
    obtain⟨v,H',os,bare,un,Km,r',q⟩:=h;have q':v=.bl true:=q;subst q';obtain rfl:u=Value.bool true:=r';refine⟨rfl,OldK.of_keep λb o e=>?_,os,bare⟩;cases q:H b with
    |none=>exact un.keep b o e q (by intro z;exact absurd (show b∈([]:List Addr)from z) (by simp)) (by simp)
    |some u =>
     rcases hO b with z|⟨ob,xs,z⟩
     ·rw[q]at z;cases z
     ·have z2:=un.ph b ob _ z
      obtain⟨e1,_⟩:=hok b _ z;obtain⟨e2,_⟩:=Km b _ z2;rw[e]at e1;cases e1;exact e2
 cases hk:K.lookup a with
 |some o =>
  have e:=KX a o hk;rw[ha]at e;cases e;refine core (λ_=>none) (λ_=>.inl rfl) (.inr ⟨_,vs.toArray,_,hk,rfl,rfl,rfl,by rw[Zak,Kl];exact hl,by simpa using rv⟩) (λb u z=>by have z':(none:Option HO)=some u:=z;cases z') (λb z=>absurd rfl z) λz=>absurd rfl z
 |none =>
  refine core (λb=>if b=a then some (.pf { cls:=.type "list",data:=.seq vs.toArray } (.lst (ns.map V.int)))else none) (λb=>?_) (.inl (.inr ⟨{ cls:=.type "list",data:=.seq vs.toArray },if_pos rfl⟩)) (λb u z=>?_) (λb z=>?_) λ_=>hk
  ·by_cases hb:b=a
   ·exact .inr ⟨_,_,if_pos hb⟩
   ·exact .inl (if_neg hb)
  ·by_cases hb:b=a
   ·have z':=(if_pos hb).symm.trans z
    cases z';subst hb;exact⟨ha,by rw[Z7];exact hl,vs,_,rv,ha⟩
   ·have z':=(if_neg hb).symm.trans z
    cases z'
  ·by_cases hb:b=a
   ·exact hb
   ·exact absurd (if_neg hb) z
@[reducible]def KOf{K:Zfr}{h:Heap}(_:K.In h):Zfr:=K
def SX{l:PySem.W.OpenLaw}{n k:Nat}{q:Program}{loose:List Str}{XP:(Str->Option Value)->Heap->Prop}{YP:World->Heap->Prop}{d:DefRec}{K:Params->Zfr}{CX:World->sC}{sp:World->Sp}{x:Str}
  (hn:l.most=some n) (hn2:n<=sizeLine) (hdf:d.params.defaults=[]) (hr:iZ k callerA)
  (hY:∀(w:World) (h:Heap),YP w h->(K w.params).In h)
  (F:∀(w:World) (mg:Str->Option Value) (fa:Addr) (h:Heap),(K w.params).In h->h.Ns mainGlobals mg->mg d.name=some (.ref fa) ->
   ∃fd:FuncData,(∀(s:Shared) (u:Value),BindsTo s fd ⟨[u],[]⟩ [(x,u)]) /\
    ∀base:Heap,(K w.params).In base->base.Ns mainGlobals mg->aD l.prog w (K w.params) mg base (CX w) k fa fd [x] (sp w))
  (uT:∀(w:World) (H:Hp) (a:Addr) (ns:List Int),ns.length<=n->Only H->jZ (K w.params) H a (ns.map V.int)->sp w [.ref a] H (λv _=>v=.bl true) λ_ _ _=>False)
  (CS:∀(w:World) (H:Hp) (s:Shared) (e:Value) (s':Shared),CX w [] H s (λ_ _ _=>False) e s'->False) :
  PySem.W.WalkO q loose XP YP l.row.toRowW d [] (λf vs=>PySem.call f vs):=by
 refine NJ.SV hn hdf λw s₀ s₁ mg mb fa o pm cd doc a vs ns G Y ho hd hcd hmg hobj hints hlen hg=>?_;have KX:=hY w _ Y;obtain⟨fd,hb,hF⟩:=F w mg fa _ KX G.T.g hmg;exact SW KX G.T.g G.T.b G.T.builtins G.T.nolimit hg hobj hints (Zap hlen hn2) hr hF hb (λH hO hS=>uT w H a ns hlen hO hS) λH e s'=>CS w H s₁ e s'
def SY{l:PySem.W.OpenLaw}{n k:Nat}{q:Program}{loose:List Str}{XP:(Str->Option Value)->Heap->Prop}{YP:World->Heap->Prop}{d:DefRec}{K:Params->Zfr}{CX:sC}{sp:Zfr->Sp}{x:Str}
  (hn:l.most=some n) (hn2:n<=sizeLine) (hdf:d.params.defaults=[]) (hr:iZ k callerA)
  (hY:∀(w:World) (h:Heap),YP w h->(K w.params).In h)
  (F:∀(w:World) (mg:Str->Option Value) (fa:Addr) (h:Heap),(K w.params).In h->h.Ns mainGlobals mg->mg d.name=some (.ref fa) ->
   ∃fd:FuncData,(∀(s:Shared) (u:Value),BindsTo s fd ⟨[u],[]⟩ [(x,u)]) /\
    ∀base:Heap,(K w.params).In base->base.Ns mainGlobals mg->aD l.prog w (K w.params) mg base CX k fa fd [x] (sp (K w.params)))
  (uT:∀(K:Zfr) (H:Hp) (a:Addr) (ns:List Int),ns.length<=n->Only H->jZ K H a (ns.map V.int)->sp K [.ref a] H (λv _=>v=.bl true) λ_ _ _=>False)
  (CS:∀(H:Hp) (s:Shared) (e:Value) (s':Shared),CX [] H s (λ_ _ _=>False) e s'->False) :
  PySem.W.WalkO q loose XP YP l.row.toRowW d [] (λf vs=>PySem.call f vs) :=
 SX (K:=K) (CX:=λ_=>CX) (sp:=λw=>sp (K w.params)) hn hn2 hdf hr hY F (λw H a ns h1 h2 h3=>uT (K w.params) H a ns h1 h2 h3) λ_ H s e s'=>CS H s e s'
abbrev mv(s:Stmt):Arguments:=match s with
 |.FunctionDef _ a _ _ _ _ _ _ _ _=>a
 |_=>{ posonlyargs:=[],args:=[],vararg:=none,kwonlyargs:=[],kw_defaults:=[],kwarg:=none,defaults:=[] }
abbrev kO(s:Stmt):List Stmt:=match s with
 |.FunctionDef _ _ b _ _ _ _ _ _ _=>b
 |_=>[]
abbrev au(s:Stmt):Scope:=match s with
 |.FunctionDef _ _ _ _ _ _ sc _ _ _=>sc
 |_=>{ kind:=.function,names:=[],isGenerator:=false,isCoroutine:=false }
@[reducible]def bq:sC:=λ_ _ _ _ _ _=>False
@[reducible]def E0:XK:=λ_ _ _=>False
def CT{X:Cx}:Passes bq X E0:=λ_ _ _ _ _ _ _ h=>h.elim
structure G2(K:Zfr)(x qual:Str)(st:Stmt)(f:Addr)(fd:FuncData):Prop where
 ex:∃(oc:Value) (od:Option Addr) (kV doc pm:Value) (an:Option Addr) (cdv ct:Value) (osl:Array (Option Value)),
  fd=PySem.W.fnOf x qual (mv st) (kO st) (au st) .none kV doc pm an cdv ct/\K.lookup f=some ⟨oc,od,.func fd,osl⟩/\PySem.W.codeIn K cdv qual=true
 kp:PySem.W.keepIn K (.ref f)=true
section
variable {P:Program}{w:World}{K:Zfr}{mg:Str->Option Value}{base:Heap}
def G2.ok{x qual:Str}{st:Stmt}{f:Addr}{fd:FuncData}{N ps:List Str}{k:Nat}{sp:Sp}(F:G2 K x qual st f fd)(S:az N ps (au st))(len:∀vs H Q E,sp vs H Q E->vs.length=ps.length)
  (hbody:∀(cdv:Value) (A:Around) (outer:List Env) (s:Shared) (H:Hp) (vs:List V) (Q:VK) (E:XK),iZ k (A.deeper (envOfC qual (au st) s.heap.objs.size f cdv))->sp vs H Q E ->
   ∃t,sx (dW bq P w K mg base N qual (au st) f cdv A outer s H E).nE (kO st) t/\t { nx:=λ_ H'=>Q .non H',rt:=Q } (start N vs) H):aD P w K mg base bq (k+1) f fd ps sp:=by
 obtain⟨oc,od,kV,doc,pm,an,cdv,ct,osl,rfl,lk,hcd⟩:=F.ex;refine CC lk hcd S len λA outer s H vs Q E hr uT=>?_;obtain⟨t,h,q⟩:=hbody cdv A outer s H vs Q E hr uT;exact⟨t,h.nE,q⟩
def yx{x qual:Str}{st:Stmt}{f:Addr}{oc:Value}{od an:Option Addr}{osl:Array (Option Value)}{kV doc pm cdv ct:Value}(l:K.lookup f=some ⟨oc,od,.func (PySem.W.fnOf x qual (mv st) (kO st) (au st) .none kV doc pm an cdv ct),osl⟩)
  (c:PySem.W.codeIn K cdv qual=true) (k:PySem.W.keepIn K (.ref f)=true):G2 K x qual st f (PySem.W.fnOf x qual (mv st) (kO st) (au st) .none kV doc pm an cdv ct):=⟨⟨oc,od,kV,doc,pm,an,cdv,ct,osl,rfl,l,c⟩,k⟩
end
def xb{A:Around}{k:Nat}(hr:iZ k A):A.units+1<cLine:=ZaW (Nat.add_le_add_left (by decide:1<=64) _) hr.units
section
variable {X:Cx}
def pv(i:Nat){x:Str}{pos:Pos}(hN:X.N[i]?=some x:=by rfl)(hv:JU X.env.scope x:=by first | exact Or.inl rfl | exact Or.inr (Or.inl rfl) | exact Or.inr (Or.inr rfl))(hd:(x == ("__debug__" : Str))=false:=by decide)
  (hcd:(x == ("__classdict__" : Str))=false:=by decide):PE X (.Name x pos) (yb i):=yc hN hv hd hcd
end
def sE{A B:Prop}(h:B):if false=true then A else B:=by rw[if_neg Zaj];exact h
def sF{A B:Prop}(h:A):if true=true then A else B:=by rw[if_pos rfl];exact h
abbrev j8(H H':Hp):Prop:=∀b o,H b=some o->H' b=some o
def j8.refl(H:Hp):j8 H H:=λ_ _ h=>h
def mX:bootBuiltins "len" = some (.builtin "len"):=by decide +kernel
def Kn:bootBuiltins "int" = some (.type "int"):=by decide +kernel
def rF:bootBuiltins "list" = some (.type "list"):=by decide +kernel
def mY:bootBuiltins "tuple" = some (.type "tuple"):=by decide +kernel
def vt:bootBuiltins "range" = some (.type "range"):=by decide +kernel
def CU:bootBuiltins "max" = some (.builtin "max"):=by decide +kernel
def Ko:bootBuiltins "min" = some (.builtin "min"):=by decide +kernel
def NM:bootBuiltins "sorted" = some (.builtin "sorted"):=by decide +kernel
def yy:bootBuiltins "all" = some (.builtin "all"):=by decide +kernel
def S0:bootBuiltins "reversed" = some (.type "reversed"):=by decide +kernel
structure Kp(ch:List Addr)(H H':Hp):Prop where
 keep:∀b o,H b=some o->b ∉ ch->H' b=some o
 tup:∀b xs,H b=some (.tup xs)->H' b=some (.tup xs)
 pf:∀b o u,H b=some (.pf o u)->H' b=some (.pf o u)
section
variable {ch:List Addr}{H H1 H2:Hp}{a l p:Addr}{o:HO}{xs ys:List V}{K:Zfr}
def Kp.refl:Kp ch H H:=⟨λ_ _ h _=>h,λ_ _ h=>h,λ_ _ _ h=>h⟩
def Kp.of_same(h:j8 H H1):Kp ch H H1:=⟨λb o e _=>h b o e,λb xs e=>h b _ e,λb o u e=>h b _ e⟩
def Kp.put(h:Kp ch H H1)(ha:a∈ch)(e:H1 a=some (.lst xs)):Kp ch H (upd H1 a o) :=
 ⟨λb u q n=>by rw[jY (λz=>n (by rw[z];exact ha))];exact h.keep b u q n,
   λb u q=>by
  have r:=h.tup b u q;rw[jY (JR r e (by intro z;cases z))];exact r,
   λb u v q=>by
  have r:=h.pf b u v q
  rw[jY (JR r e (by intro z;cases z))];exact r⟩
def Kp.Kq(h:Kp ch H H1)(q:dr K H a xs):dr K H1 a xs:=by
 rcases q with(q|⟨o,q⟩)|q
 exact .inl (.inl (h.tup a xs q));exact .inl (.inr ⟨o,h.pf a o _ q⟩);exact .inr q
abbrev CV(K:Zfr)(H:Hp)(a:Addr)(xs:List V):Prop :=
 (∃o,H a=some (.pf o (.lst xs))) \/
  ∃(o:Obj) (its:Array Value) (n:Nat),K.lookup a=some o/\o.cls=.type "list" /\ o.dict=none/\o.data=.seq its n/\its.size<=sizeLine/\Vals xs its.toList
def CV.sq(h:CV K H a xs):jZ K H a xs:=h.elim (λ⟨o,e⟩=>.inl (.inr ⟨o,e⟩)) .inr
def jZ.script(hO:Only H)(q:jZ K H a xs):CV K H a xs:=by
 rcases q with(q|⟨o,q⟩)|q
 rcases hO a with e|⟨o,ys,e⟩
 rw[e]at q;cases q;rw[e]at q;cases q;exact .inl ⟨o,q⟩;exact .inr q
def j8.up(h:H p=none):j8 H (upd H p o):=λb u e=>by rw[jY (A4 e h)];exact e
end
abbrev qH(K:Zfr)(H:Hp)(xs:List V)(Q:VK):Prop:=∀p H',dr K H' p xs->j8 H H'->Q (.ref p) H'
section
variable {X:Cx}
def qH.new{K:Zfr}{H:Hp}{xs:List V}{Q:VK}(h:qH K H xs Q):∀p,H p=none->Q (.ref p) (upd H p (.tup xs)):=λp hp=>h p _ (dr.of rh) (j8.up hp)
def qH.it{K:Zfr}{H:Hp}{xs:List V}{Q:VK}{a:Addr}(h:qH K H xs Q)(q:dr K H a xs):Q (.ref a) H:=h a H q (j8.refl H)
abbrev tZ(K:Zfr):R2:=λx y H Q=>∃a b xs ys,x=.ref a/\y=.ref b/\dr K H a xs/\dr K H b ys/\xs.length+ys.length<=sizeLine/\qH K H (xs ++ ys) Q
def xc:lN X (binaryOp .Add) (tZ X.K):=by
 intro pins s σ H x y v u Q I rx ry h;obtain⟨a,b,xs,ys,rfl,rfl,ha,hb,hz,q⟩:=h;by_cases hx:xs=[];subst hx;cases rx;cases ry;obtain⟨its,r1,p1,_⟩:=I.tuple ha;obtain⟨its2,r2,p2,_⟩:=I.tuple hb;have e:its=[]:=r1.nU.mpr rfl;subst e;obtain⟨⟨cls,dd,data,sl⟩,ho,hc,n,hd⟩:=id p1;obtain⟨⟨J9,dd2,data2,sl2⟩,ho2,hc2,n2,hd2⟩:=id p2;simp only at hc hd hc2 hd2;subst hc hd hc2 hd2;exact concat_meets ⟨_,ho,rfl⟩ ⟨_,ho2,rfl⟩ noFill_tuple_add seq_tuple_add PySem.F.slot_tuple_add PySem.F.entry_tuple_add (PySem.F.args_tuple_add_2 _ _)
  (tuple_addW0 a b #[] its2.toArray n n2 dd dd2 sl sl2 (by simp)) ⟨ho,ho2,⟨.ref b,H,I,rfl,q.it (by simpa using hb)⟩⟩
 exact Sy pins s σ H _ _ v u Q I rx ry ⟨a,b,xs,ys,rfl,rfl,ha,hb,hx,hz,λe=>q.it (by subst e;simpa using ha),λ_=>q.new⟩
def S1{prog:Program}{w:World}{A:Around}{E:Value->Shared->Prop}{s:Shared}{t sl:Addr}{items:Array Value}{vl vu:Value}{lo hi:Option Int}{Q:Value->Shared->Prop}(ht:IsTup s.heap t items)(hs:s.heap.IsSliceOf sl vl vu .none)(pl:IsPart vl lo)(pu:IsPart vu hi)
  (hw:HT.cw items.size 0 lo=0/\HT.cw items.size items.size hi=items.size) (h:Q (.ref t) s):wpAny (model prog w) A (getItem (.ref t) (.ref sl)) Q E s:=by
 obtain⟨os,hos,hcs,hds⟩:=id hs;have Ka:s.TypeIs (.ref sl) "slice" := ⟨os,hos,hcs⟩;unfold getItem
 try with_reducible refine wpAny_holding ?_
 first|refine wpAny_bind (wpAny_pure ?_)|skip
 refine wpAny_bind (wpAny_sequenceKey ht.typeIs ∅ ?_)
 refine wpAny_bind (wpAny_callSpecial?_slot (name:=Str.ofString "__getitem__") ht.typeIs PyProof.Rows.slot_tuple_getitem
  (wpAny_call_entry PyProof.Rows.slot_tuple_getitem ht.typeIs entry_tuple_getitem ?_ (args_tuple_getitem _ _)))
 show wpAny _ _ (Builtin.Tuple.tupleItemsOf (.ref t) >>= _) _ _ s;refine wpAny_bind (tupleItemsOf_ ht ?_);refine wpAny_bind (wpAny_typeOf Ka ?_);rw[if_pos ∅];refine wpAny_bind (HT.Nw hs pl pu ?_);have hyes:((((HT.cw items.size 0 lo:Nat):Int) == 0 && (1:Int) == 1 && (HT.cw items.size items.size hi-HT.cw items.size 0 lo) == items.size)=true):=by
  rw[hw.1,hw.2];simp
 show wpAny _ _ (if(((HT.cw items.size 0 lo:Nat):Int) == 0 && (1:Int) == 1 && (HT.cw items.size items.size hi-HT.cw items.size 0 lo) == items.size)=true then _ else _) _ _ s;rw[if_pos hyes];obtain⟨o,ho,hc,n,hd⟩:=id ht;unfold Builtin.Tuple.tupleIsExact
 first
  |exact wpAny_bind (wpAny_bind (wpAny_typeOf (T:="tuple") ⟨o,ho,hc⟩ (wpAny_pure (wpAny_bind (wpAny_rule (wpAny_pure ⟨_,rfl,wpAny_pure h⟩))))))
  |exact wpAny_bind (wpAny_bind (wpAny_typeOf (T:="tuple") ⟨o,ho,hc⟩ (wpAny_pure (wpAny_bind (wpAny_rule (wpAny_bind (wpAny_pure ⟨_,rfl,wpAny_pure h⟩)))))))
  |trace_state
abbrev xf(K:Zfr):V->Option Int->Option Int->Hp->VK->Prop:=λx lo hi H Q=>∃a xs,x=.ref a/\dr K H a xs/\qH K H (om xs lo hi) Q
def S2{xs:List V}{lo hi:Option Int}(h:HT.cw xs.length 0 lo=0/\HT.cw xs.length xs.length hi=xs.length):om xs lo hi=xs:=by unfold om;rw[h.1,h.2];simp
def NN:GU X (xf X.K):=by
 intro pins s σ H x v vl vu lo hi sl Q I rx hs pl pu h;obtain⟨a,xs,rfl,hx,q⟩:=h;by_cases hw:HT.cw xs.length 0 lo=0/\HT.cw xs.length xs.length hi=xs.length;cases rx;obtain⟨its,r,ht,hz⟩:=I.tuple hx;have hlen:its.toArray.size=xs.length:=by rw[Zak];exact r.length.symm
 refine⟨"tuple",_,PyProof.Rows.slot_tuple_getitem.lookup,ht.typeIs,?_⟩;exact S1 ht hs pl pu (by rw[hlen];exact hw) ⟨.ref a,H,I,rfl,q.it (by rw[S2 hw];exact hx)⟩;exact yo pins s σ H _ v vl vu lo hi sl Q I rx hs pl pu ⟨a,xs,rfl,hx,hw,q.new⟩
abbrev gH(lo:Int)(n:Nat):List V:=(List.range n).map λ(k:Nat)=>V.int (lo+k)
def S3(lo:Int)(n:Nat):(gH lo n).length=n:=by simp[gH]
def Kr:eZ X (.type "range") (λxs H Q=>∃j:Int,xs=[.int j]/\∀p,H p=none->Q (.ref p) (upd H p (.ki 0 j))):=by intro pins s σ H xs us Q I r h;obtain⟨j,rfl,q⟩:=h;obtain⟨u,rfl,t,rfl⟩:=vals1 r;refine call_range_1 ⟨.ref s.heap.objs.size,_,I.laid (o:=.ki 0 j) (λb o e=>Zai _ e) (Zaa _) ?_,rfl,q _ (I.hok.fresh (Zaa _))⟩;exact⟨_,_,_,Zar _ rfl⟩
def Bh:eZ X (.type "range") (λxs H Q=>∃i j:Int,xs=[.int i,.int j]/\∀p,H p=none->Q (.ref p) (upd H p (.ki i j))):=by intro pins s σ H xs us Q I r h;obtain⟨i,j,rfl,q⟩:=h;obtain⟨u,u',rfl,⟨t,rfl⟩,t',rfl⟩:=vals2 r;refine call_range_2 ⟨.ref s.heap.objs.size,_,I.laid (o:=.ki i j) (λb o e=>Zai _ e) (Zaa _) ?_,rfl,q _ (I.hok.fresh (Zaa _))⟩;exact⟨_,_,_,Zar _ rfl⟩
def NP:∀(n:Nat) (lo:Int) (us:List Value),us.length=n->(∀(j:Nat) (v:Value),us[j]?=some v->∃t,v=.int (lo+j*1) t)->Vals (gH lo n) us
 |0,lo,[],_,_=>.nil
 |0,lo,_ :: _,h,_=>by simp at h
 |n+1,lo,[],h,_=>by simp at h
 |n+1,lo,u :: us,h,hv=>by
  have e:gH lo (n+1)=V.int lo :: gH (lo+1) n:=by
   unfold gH;rw[List.range_succ_eq_map,Zaq,Zat]
   congr 1
   simp;apply ZaX;intro i _;simp only[Function.comp]
   congr 1
   push_cast
   lk
  rw[e];obtain⟨t,ht⟩:=hv 0 u rfl;refine .cons ⟨t,by rw[ht];simp⟩ (NP n (lo+1) us (by simpa using h) λj v hj=>?_);obtain⟨t',ht'⟩:=hv (j+1) v hj;refine⟨t',ht'.trans ?_⟩
  congr 1
  lk
def vw(hc:X.calm=true):eZ X (.type "list") (λxs H Q=>∃p lo hi,xs=[.ref p]/\H p=some (.ki lo hi)/\(-(2 ^ 62)<=lo/\lo<2 ^ 62/\-(2 ^ 62)<=hi/\hi<2 ^ 62)/\(hi-lo).toNat<=2 ^ 24 /\
  ∀l,H l=none->Q (.ref l) (upd H l (.lst (gH lo (hi-lo).toNat)))):=by
 intro pins s σ H xs us Q I r h;obtain⟨p,lo,hi,rfl,hp,⟨b1,b2,b3,b4⟩,hz,q⟩:=h;obtain⟨u,rfl,ru⟩:=vals1 r;cases ru;obtain⟨t,t',t'',e⟩:=(show cb X.prog X.w H s.heap p (.ki lo hi)from I.hok p _ hp);refine call_list_range (a:=lo) (b:=hi) (c:=1) (n:=(hi-lo).toNat) (I.ok.hd hc) (show IsRange s.heap p lo hi 1 t t' t'' from e) (small_one b1 b2 b3 b4) (by rw[rangeSize_one];split<;>lk) hz λh' tk acc c kp hD hI=>?_;refine⟨.ref s.heap.objs.size,_,I.laid (t':=tk) (o:=.lst (gH lo (hi-lo).toNat)) kp (Zaa _) ?_,rfl,q _ (I.hok.fresh (Zaa _))⟩;refine⟨by rw[S3];exact Zap hz ∅,acc.toList,c,NP _ _ _ (by rw[Za1];exact hI.1) λj v hj=>hI.2 j v (by rw[<- hj,Za2]),by simpa using hD⟩
end
mutual
inductive Rep(K:Zfr)(H:Hp):V->PyData->Prop
 |non:Rep K H .non .none
 |bl (b:Bool):Rep K H (.bl b) (.bool b)
 |int (i:Int):Rep K H (.int i) (.int i)
 |str (x:Str):Rep K H (.str x) (.str x)
 |tup {a:Addr} {xs:List V} {ds:List PyData}:dr K H a xs->fN K H xs ds->Rep K H (.ref a) (.tuple ds)
 |lst {a:Addr} {xs:List V} {ds:List PyData}:jZ K H a xs->fN K H xs ds->Rep K H (.ref a) (.list ds)
inductive fN(K:Zfr)(H:Hp):List V->List PyData->Prop
 |nil:fN K H [] []
 |cons {v:V} {vs:List V} {d:PyData} {ds:List PyData}:Rep K H v d->fN K H vs ds->fN K H (v :: vs) (d :: ds)
end
section
variable {X:Cx}{pins:List (Addr×Obj)}{σ:St}{H:Hp}{s:Shared}
mutual
def Rep.reads(I:Inv X pins σ H s):∀{v:V} {d:PyData} {u:Value},Rep X.K H v d->RelV v u->∃as,Reads s.heap u d as
 |_,_,_,.non,r=>by cases r;exact⟨_,.none⟩
 |_,_,_,.bl b,r=>by cases r;exact⟨_,.bool b⟩
 |_,_,_,.int i,r=>by obtain⟨t,rfl⟩:=r;exact⟨_,.int i t⟩
 |_,_,_,.str x,r=>by obtain⟨t,rfl⟩:=r;exact⟨_,.str x t⟩
 |_,_,_,.tup q rs,r=>by
  cases r;obtain⟨its,rv,⟨o,e,c,n,hd⟩,_⟩:=I.tuple q;obtain⟨as,ra⟩:=fN.reads I rs rv;exact⟨_,.tuple e c hd (by simpa using ra)⟩
 |_,_,_,.lst q rs,r=>by
  cases r;obtain⟨its,rv,pl,_⟩:=I.list q;obtain⟨o,e,c,n,hd⟩:=pl.isList;obtain⟨as,ra⟩:=fN.reads I rs rv;exact⟨_,.list e c hd (by simpa using ra)⟩
def fN.reads(I:Inv X pins σ H s):∀{vs:List V} {ds:List PyData} {us:List Value},fN X.K H vs ds->Vals vs us->∃as,ReadsAll s.heap us ds as
 |_,_,_,.nil,r=>by cases r;exact⟨_,.nil⟩
 |_,_,_,.cons h t,r=>by
  cases r with
  |cons r1 r2 =>
   obtain⟨as,h1⟩:=Rep.reads I h r1;obtain⟨bs,h2⟩:=fN.reads I t r2;exact⟨_,.cons h1 h2⟩
end
abbrev yz(K:Zfr)(neg:Bool):R2:=λx y H Q=>∃d e,Rep K H x d/\Rep K H y e/\PyData.canLay0 d=true/\PyData.canLay0 e=true/\min d.depth e.depth<=60/\Q (.bl (if neg then !PyData.eqv d e else PyData.eqv d e)) H
def G3(hu:X.A.units+64<cLine):lN X (compareOp .Eq) (yz X.K false):=by intro pins s σ H x y v u Q I rx ry h;obtain⟨d,e,hd,he,c1,c2,dp,q⟩:=h;obtain⟨as,ra⟩:=hd.reads I rx;obtain⟨bs,rb⟩:=he.reads I ry;exact SeqAt.eqOverData X.prog X.w X.A X.xe s v u d e as bs _ ra rb c1 c2 ⋯ ⟨.bl _,H,I,rfl,q⟩
def CW(hu:X.A.units+64<cLine):lN X (compareOp .NotEq) (yz X.K true):=by intro pins s σ H x y v u Q I rx ry h;obtain⟨d,e,hd,he,c1,c2,dp,q⟩:=h;obtain⟨as,ra⟩:=hd.reads I rx;obtain⟨bs,rb⟩:=he.reads I ry;exact SeqAt.neOverData X.prog X.w X.A X.xe s v u d e as bs _ ra rb c1 c2 ⋯ ⟨.bl _,H,I,rfl,q⟩
end
section
variable {K:Zfr}{H:Hp}
abbrev cx(ns:List Int):List PyData:=ns.map PyData.int
def vz:∀(ns:List Int),PyData.canLayAll0 (cx ns)=true
 |[]=>rfl
 |n :: r=>by show(true && PyData.canLayAll0 (cx r))=true;rw[vz r];rfl
def yA:∀(ns:List Int),PyData.depthAll (cx ns)=0
 |[]=>rfl
 |n :: r=>by show max 0 (PyData.depthAll (cx r))=0;rw[yA r];rfl
def yB:∀(ns ms:List Int),PyData.eqvAll (cx ns) (cx ms)=decide (ns=ms)
 |[],[]=>rfl
 |[],_ :: _=>rfl
 |_ :: _,[]=>rfl
 |n :: ns,m :: ms=>by
  show((n == m) && PyData.eqvAll (cx ns) (cx ms))=decide (n :: ns=m :: ms);rw[yB ns ms];by_cases h:n=m;subst h;simp;simp[h]
end
end L2
namespace L2
open PySem PySem.Spec PyProof.Rows
structure Def(K:Zfr)(mg:Str->Option Value)(x:Str)(st:Stmt)(ps:List Str)(f:Addr)(fd:FuncData):Prop where
 F:G2 K x x st f fd
 be:∀us:List Value,us.length=ps.length->bindArgs fd ⟨us,[]⟩=pure (ps.zip us)
 m:mg x=some (.ref f)
def Def.b{K:Zfr}{mg:Str->Option Value}{x:Str}{st:Stmt}{ps:List Str}{f:Addr}{fd:FuncData}(D:Def K mg x st ps f fd):Binds K fd ps []:=.all D.be
def ef{K:Zfr}{h:Heap}{mg:Str->Option Value}(X:K.In h)(G:h.Ns mainGlobals mg){x:Str}{st:Stmt}{ps:List Str}{f:Addr}{oc:Value}{od an:Option Addr}{osl:Array (Option Value)}{kV doc pm cdv ct:Value}
  (hb:∀(kV doc pm:Value) (an:Option Addr) (cdv ct:Value) (us:List Value),us.length=ps.length->bindArgs (PySem.W.fnOf x x (mv st) (kO st) (au st) .none kV doc pm an cdv ct) ⟨us,[]⟩=pure (ps.zip us))
  (a:PySem.W.nsIn K mainGlobals x=some (some (.ref f))) (l:K.lookup f=some ⟨oc,od,.func (PySem.W.fnOf x x (mv st) (kO st) (au st) .none kV doc pm an cdv ct),osl⟩)
  (c:PySem.W.codeIn K cdv x=true) (k:PySem.W.keepIn K (.ref f)=true):∃f fd,Def K mg x st ps f fd :=
 ⟨f,_,yx l c k,hb kV doc pm an cdv ct,PySem.W.mg_of X G a⟩
def Def.vA{K:Zfr}{mg:Str->Option Value}{x p:Str}{st:Stmt}{f:Addr}{fd:FuncData}(D:Def K mg x st [p] f fd)(s:Shared)(u:Value):BindsTo s fd ⟨[u],[]⟩ [(p,u)]:=.of_eq (D.be [u] rfl)
def sT{K:Zfr}{h:Heap}{mg:Str->Option Value}(X:K.In h)(G:h.Ns mainGlobals mg){x:Str}(z:PySem.W.nsIn K mainGlobals x=some none):mg x=none:=PySem.W.mg_none_of X G z
def CY{n j:Nat}(h:j<n):mP n (j:Int)=some j:=by unfold mP;rw[if_pos ⋯,if_pos ⋯];simp
def yC{α:Type}{xs:List α}{i:Int}(h0:0<=i)(h1:i<xs.length):∃v,gD xs i=some v/\v∈xs:=by
 have hi:i.toNat<xs.length:=by lk
 refine⟨xs[i.toNat],?_,ZaL hi⟩;have:=tQ (xs:=xs) (j:=i.toNat) (v:=xs[i.toNat]) (by simp[hi])
 rwa [ZaI h0]at this
def dT{c:Prop}[Decidable c](h:decide c=true):c:=of_decide_eq_true h
def CZ:∀(names:List (Str×NameKind)) (n:Nat) (acc:List (Str×Addr)),cellsFrom n names acc=cellsFrom n names [] ++ acc
 |[],_,_=>rfl
 |(x,k) :: r,n,acc=>by
  show(if k == .cell then cellsFrom (n+1) r ((x,n) :: acc)else cellsFrom n r acc)=(if k == .cell then cellsFrom (n+1) r [(x,n)]else cellsFrom n r []) ++ acc;by_cases hk:(k == NameKind.cell)=true;rw[if_pos hk,if_pos hk,CZ r (n+1) ((x,n) :: acc),CZ r (n+1) [(x,n)],Zbv];rfl;rw[if_neg hk,if_neg hk];exact CZ r n acc
def Ks{x:Str}{c:Addr}:∀(names:List (Str×NameKind)) (n:Nat),(x,c)∈cellsFrom n names []->(x,NameKind.cell)∈names/\n<=c
 |[],_,h=>nomatch h
 |(y,k) :: r,n,h=>by
  have h':(x,c)∈(if k == .cell then cellsFrom (n+1) r [(y,n)]else cellsFrom n r []):=h;by_cases hk:(k == NameKind.cell)=true;rw[if_pos hk,CZ]at h';rcases Zay.mp h' with h'|h'
  obtain⟨h1,h2⟩:=Ks r (n+1) h';exact⟨Zah _ h1,by lk⟩;have e:(x,c)=(y,n):=by simpa using h'
  cases e;have e2:k=NameKind.cell:=by simpa using hk
  subst e2;exact⟨Zac,Zaa _⟩;rw[if_neg hk]at h';obtain⟨h1,h2⟩:=Ks r n h';exact⟨Zah _ h1,h2⟩
def Kt{env:Env}(f:Str×NameKind->List (Str×Addr)->Sem (ForInStep (List (Str×Addr))))
  (hf:∀name kind cs,f (name,kind) cs=if kind == .free then(do let c <- cellOf env name;pure (.yield ((name,c) :: cs)))else pure (.yield cs)) :
  ∀(names:List (Str×NameKind)) (acc:List (Str×Addr)),(∀y∈names,y.2=NameKind.free->∃c,env.cells.lookup y.1=some c) ->
   ∃cl,(forIn names acc f:Sem (List (Str×Addr)))=pure cl/\(∀n c,(n,c)∈cl->(n,c)∈acc\/(env.cells.lookup n=some c/\(n,NameKind.free)∈names))/\(∀p∈acc,p∈cl)/\∀n,(n,NameKind.free)∈names->∃c,(n,c)∈cl
 |[],acc,_=>⟨acc,by rw[List.forIn_nil],λn c h=>.inl h,λp h=>h,λn h=>nomatch h⟩
 |(x,k) :: r,acc,h=>by
  have hr:∀y∈r,y.2=NameKind.free->∃c,env.cells.lookup y.1=some c:=λy hy=>h y (Zah _ hy);by_cases hk:k=NameKind.free;subst hk;obtain⟨c,hc⟩:=h (x,.free) Zac rfl;have e:cellOf env x=pure c:=by unfold cellOf;rw[hc]
  obtain⟨cl,e1,h1,h2,h3⟩:=Kt f hf r ((x,c) :: acc) hr;refine⟨cl,?_,λn d hd=>?_,λp hp=>h2 p (Zah _ hp),λn hn=>?_⟩;rw[List.forIn_cons,hf,if_pos (by rfl),e];exact e1;rcases h1 n d hd with q|⟨q,q'⟩
  rcases Zax.mp q with q|q
  cases q;exact .inr ⟨hc,Zac⟩;exact .inl q;exact .inr ⟨q,Zah _ q'⟩;rcases Zax.mp hn with q|q
  cases q;exact⟨c,h2 _ Zac⟩;exact h3 n q;obtain⟨cl,e1,h1,h2,h3⟩:=Kt f hf r acc hr;have hb:¬((k == NameKind.free)=true):=by simpa using hk
  refine⟨cl,?_,λn d hd=>?_,h2,λn hn=>?_⟩;rw[List.forIn_cons,hf,if_neg hb];exact e1;rcases h1 n d hd with q|⟨q,q'⟩
  exact .inl q;exact .inr ⟨q,Zah _ q'⟩;rcases Zax.mp hn with q|q
  cases q;exact absurd rfl hk;exact h3 n q
def NQ{scope:Scope}{env:Env}(h:∀y∈scope.names,y.2=NameKind.free->∃c,env.cells.lookup y.1=some c):
  ∃cl,closureFor scope env=pure cl/\(∀n c,(n,c)∈cl->env.cells.lookup n=some c/\(n,NameKind.free)∈scope.names)/\∀n,(n,NameKind.free)∈scope.names->∃c,(n,c)∈cl:=by
 have key:∀ (f:Str×NameKind->List (Str×Addr)->Sem (ForInStep (List (Str×Addr)))),(∀ name kind cs,f (name,kind) cs=if kind == .free then(do let c <- cellOf env name;pure (.yield ((name,c) :: cs)))else pure (.yield cs)) ->
   ∃cl,((forIn scope.names [] f:Sem (List (Str×Addr))) >>= λr=>pure r)=pure cl/\(∀n c,(n,c)∈cl->env.cells.lookup n=some c/\(n,NameKind.free)∈scope.names)/\∀n,(n,NameKind.free)∈scope.names->∃c,(n,c)∈cl:=λf hf=>by
  obtain⟨cl,e,h1,_,h3⟩:=Kt f hf scope.names [] h;refine⟨cl,?_,λn c hc=>(h1 n c hc).elim (λz=>nomatch z) id,h3⟩;rw[e];rfl
 simp only[closureFor];exact key _ λname kind cs=>by cases hk:kind == NameKind.free<;>simp[hk]
def ltN{a b:Addr}(h:a<b):@LT.lt Nat _ a b:=h
def ya{a b:Addr}(h:@LT.lt Nat _ a b):a≠b:=ZaU h
def NR{a b:Addr}(h:@LT.lt Nat _ b a):a≠b:=Nat.ne_of_gt h
def S4{M:Model}{A:Around}{E:Value->Shared->Prop}{s:Shared}{scope:Scope}{g:Addr}{cl:List (Str×Addr)}{q:Str}{env:Env}{Q:Env->Shared->Prop}
  (h:∀h',h'.Ns s.heap.objs.size (λ_=>none)->(∀b o,s.heap.get? b=some o->h'.get? b=some o)->CellsOk h' (s.heap.objs.size+1) (cellsFrom (s.heap.objs.size+1) scope.names []) ->
   Q { scope:=scope,locals:=s.heap.objs.size,globals:=g,cells:=cellsFrom (s.heap.objs.size+1) scope.names cl,qual:=q,func:=none,code:=env.code,frame:=env.frame,builtins:=env.builtins } { s with heap:=h' }) :
  wpAny M A (newFunctionEnv scope g cl [] q none .none (some env)) Q E s:=by
 simp only[newFunctionEnv,Option.isSome_some,if_true];refine wpAny_bind (wpAny_alloc ?_);refine wpAny_bind (wpAny_layCells _ (λname kind cells=>by cases hkc:kind == NameKind.cell<;>simp[hkc]) _ _ _ _ ?_);have ok:=cellsFrom_ok scope.names (s.heap.push { cls:=.type "dict",data:=.dict #[] }) (s.heap.objs.size+1) [] ⟨λ_ _ hm=>(nomatch hm),List.Pairwise.nil⟩ (by rw[ZbL];exact Zaa _);rw[ZbL]at ok;rw[show({ s with heap:=s.heap.push { cls:=.type "dict",data:=.dict #[] } }:Shared).heap.objs.size=s.heap.objs.size+1 from ZbL ..];refine wpAny_bind ?_;rw[List.forIn_nil];refine wpAny_pure (wpAny_pure ?_);exact h _ ((Heap.Ns.new s.heap (.type "dict")).keeps (pushCells_keeps _ _)) (λb o e=>pushCells_keeps _ _ b o (Zai _ e)) ok
abbrev aM(X:Cx)(N:List Str)(scope:Scope)(cells:List (Str×Addr))(C:Addr)(fp:List Addr)(s:Shared)(H:Hp):Cx where
 prog:=X.prog
 w:=X.w
 K:=X.K
 mg:=X.mg
 base:=X.base
 A:=X.A
 N:=N
 s₀:=s
 H₀:=H
 env:=compEnvC scope cells C X.env
 outer:=X.stack
 stack:=X.stack
 ex:=fp
 fn:=λx=>decide (scope.names.lookup x=some .cell)
 calm:=X.calm
 pn:=[]
 xe:=λ_ _=>False
abbrev t4(scope sc:Scope):Scope :=
 { scope with names:=scope.names.map λ(n,k)=>if(k == .free && sc.kind == .function && sc.names.lookup n == some .cell)then(n,.cell)else(n,k) }
structure t5(sc scope:Scope)(own fr:List Str):Prop where
 kind:scope.kind=.function
 nd:(own ++ fr).Nodup
 Bi:(scope.names.map (·.1)).Nodup
 free:∀y∈scope.names,y.2=.free->sc.names.lookup y.1=some .cell\/sc.names.lookup y.1=some .free
 Ku:∀x∈fr,scope.names.lookup x=some .free
structure gI(X:Cx)(scope:Scope)(own fr:List Str)(js:List Nat):Prop where
 c:t5 X.env.scope scope own fr
 ix:js.map (λj=>X.N[j]?)=fr.map some
def gI.kind{X:Cx}{scope:Scope}{own fr:List Str}{js:List Nat}(S:gI X scope own fr js):scope.kind=.function:=S.c.kind
def gI.Bi{X:Cx}{scope:Scope}{own fr:List Str}{js:List Nat}(S:gI X scope own fr js):(scope.names.map (·.1)).Nodup:=S.c.Bi
def gI.Ku{X:Cx}{scope:Scope}{own fr:List Str}{js:List Nat}(S:gI X scope own fr js):∀x∈fr,scope.names.lookup x=some .free:=S.c.Ku
def gI.free{X:Cx}{scope:Scope}{own fr:List Str}{js:List Nat}(S:gI X scope own fr js):∀y∈scope.names,y.2=.free->X.env.kindOf y.1=some .cell\/X.env.kindOf y.1=some .free:=S.c.free
def C0{α:Type}:∀{l:List (Str×α)} {n:Str} {c:α},(l.map (·.1)).Nodup->(n,c)∈l->l.lookup n=some c
 |(k,v) :: r,n,c,nd,h=>by
  obtain⟨h1,h2⟩:=Zbb.mp nd;rw[ZbA];rcases Zax.mp h with e|h
  cases e;simp
  have:(n == k)=false:=beq_eq_false_iff_ne.mpr λe=>h1 (by rw[<- e];exact Zag.mpr ⟨(n,c),h,rfl⟩)
  rw[this];exact C0 h2 h
def NS(scope:Scope)(env:Env)(x:Str):(relabel scope env).names.lookup x=none/\scope.names.lookup x=none \/
  ∃k,scope.names.lookup x=some k/\(relabel scope env).names.lookup x=some (if(k == .free && env.scope.kind == .function && env.kindOf x == some .cell)then .cell else k):=by
 have key:∀ names:List (Str×NameKind),(names.map λ(n,k)=>if(k == NameKind.free && env.scope.kind == .function && env.kindOf n == some .cell)then(n,NameKind.cell)else(n,k)).lookup x=none/\names.lookup x=none \/
   ∃k,names.lookup x=some k/\(names.map λ(n,k)=>if(k == NameKind.free && env.scope.kind == .function && env.kindOf n == some .cell)then(n,NameKind.cell)else(n,k)).lookup x=some (if(k == .free && env.scope.kind == .function && env.kindOf x == some .cell)then .cell else k):=by
  intro names
  induction names with
  |nil=>exact .inl ⟨rfl,rfl⟩
  |cons p r ih =>
   obtain⟨n,k⟩:=p;rw[Zaq];cases hx:x == n with
   |true =>
    have e:x=n:=by simpa using hx
    subst e;refine .inr ⟨k,by simp[ZbA],?_⟩;by_cases hc:(k == NameKind.free && env.scope.kind == .function && env.kindOf x == some .cell)=true;simp only[if_pos hc];simp[ZbA];simp only[if_neg hc];simp[ZbA]
   |false =>
    have e1:∀q:NameKind,(((n,q) :: (r.map λ(n,k)=>if(k == NameKind.free && env.scope.kind == .function && env.kindOf n == some .cell)then(n,NameKind.cell)else(n,k))).lookup x)=((r.map λ(n,k)=>if(k == NameKind.free && env.scope.kind == .function && env.kindOf n == some .cell)then(n,NameKind.cell)else(n,k)).lookup x):=λq=>by rw[ZbA,hx]
    have e2:((n,k) :: r).lookup x=r.lookup x:=by rw[ZbA,hx]
    rw[e2];by_cases hc:(k == NameKind.free && env.scope.kind == .function && env.kindOf n == some .cell)=true;simp only[if_pos hc];rw[e1];exact ih;simp only[if_neg hc];rw[e1];exact ih
 exact key scope.names
abbrev km(n:Nat)(js:List Nat)(σ:St):St:=List.replicate n none ++ js.map λj=>σ.getD j none
def Inv.C1{X:Cx}{pins:List (Addr×Obj)}{σ:St}{H:Hp}{s:Shared}{a:Addr}{o:HO}(I:Inv X pins σ H s)(f:mQ X pins H a)(new:cb X.prog X.w (upd H a o) s.heap a o):Inv X pins σ (upd H a o) s:=by
 obtain⟨f0,f1,f2,f3,f4,f5⟩:=f;have ne:∀b u,H b=some u->b≠a:=λb u e z=>by rw[z,f0]at e;cases e
 refine I.step (h':=s.heap) (H':=upd H a o) (g':=s.gens) (d':=s.drawn) (t':=s.toks) (ch:=[a]) (λb hb=>?_) (λb u _ _ _ e _=>e) (λb u _ _ _ e _=>⟨u.slots,e⟩) (λb u hb e n=>?_) (λb u _ e=>⟨u,e⟩)
  (λb xs e=>by rw[jY (ne b _ e)];exact e) (λb u xs e=>by rw[jY (ne b _ e)];exact e) (λb ps e=>⟨#[],by rw[jY (ne b _ e),e];simp⟩) (λm hm=>hm) (λb u e=>?_) I.bare
 have e:b=a:=by simpa using hb
 subst e;exact⟨f3,f1,f4,f5⟩;rw[jY (λz=>hb (by simp[z]))];exact n;by_cases hb:b=a;subst hb;rw[rh]at e;cases e;exact new;rw[jY hb]at e;exact(I.hok b u e).stay (λc v _ q=>q) (λc q=>by rw[jY (ne c _ q)];exact q) λc xs q=>by rw[jY (ne c _ q)];exact q
abbrev PF(X:Cx)(ifs:List Expr)(t:TT):Prop :=
 ∀(pins:List (Addr×Obj)) (s:Shared) (σ:St) (H:Hp) (Q:Bool->Hp->Prop),Inv X pins σ H s->t σ H Q ->
  wpAny (model X.prog X.w) X.A (forIn ifs true λc r=>if r=true then do let ok <- isTrue c X.env (eval c X.env);pure (ForInStep.yield ok)else pure (ForInStep.yield r)) (TP X pins σ Q) X.xe s
def qI{X:Cx}:PF X [] (λ_ H Q=>Q true H):=λ_ _ _ H _ I h=>wpAny_tests_nil ⟨H,I,h⟩
def yD{X:Cx}{c:Expr}{t:TT}(h:PT X c t):PF X [c] t:=λpins s σ H Q I hw=>wpAny_tests_one (h pins s σ H Q I hw)
def S5{prog:Program}{w:World}{A:Around}{R:Result->Shared->Prop}{s:Shared}{elt target iter:Expr}{ifs:List Expr}{scope:Scope}{pos:Pos}{it acc:Value}{env:Env}(I:Nat->Shared->Prop)
  (turn:∀n s,I n s->wpAny (model prog w) A (pyNext it) (λr s₁=>match r with
   |none=>R (.ok .next) s₁
   | some v=>wpAny (model prog w) A (letOwnedTupleGo target it v) (λ_ s₁'=>wpAny (model prog w) A (assign target env v) (λ_ s₂ =>
     wpAny (model prog w) A (forIn ifs true λc r=>if r=true then do let ok <- isTrue c env (eval c env);pure (ForInStep.yield ok)else pure (ForInStep.yield r)) (λok s₃ =>
      if ok=true then wpAny (model prog w) A (eval elt env) (λx s₄ =>
       wpAny (model prog w) A (call (.builtin "list.append") [acc,x]) (λ_ s₅=>∃m,m<n/\I m s₅) (λ_ _=>False) s₄) (λ_ _=>False) s₃
      else∃m,m<n/\I m s₃) (λ_ _=>False) s₂) (λ_ _=>False) s₁') (λ_ _=>False) s₁) (λ_ _=>False) s)
  (n:Nat) (h:I n s) :
  codeAny (model prog w) A (.compLoop (.ListComp elt [⟨target,iter,ifs,0⟩] scope pos) 0 it acc env) R s:=by
 refine codeAny_loop rfl I (λn s hI=>?_) n h;show wpAny _ A ((compTurn (.ListComp elt [⟨target,iter,ifs,0⟩] scope pos) 0 it acc env).onRaise (λx=>do noteFrame x env;theTreesLotGoes x)) _ _ s;refine wpAny_noted ?_;rw[compTurn_list];refine wpAny_bind (wpAny_standAt (wpAny_bind (wpAny_mono (turn n s hI) (λr s₁ h₁=>?_) λ_ _ h'=>h'.elim)));cases r with
 |none=>exact wpAny_pure h₁
 |some v =>
  refine wpAny_bind (wpAny_mono h₁ (λ_ s₁' h₁'=>?_) λ_ _ h'=>h'.elim);refine wpAny_bind (wpAny_mono h₁' (λ_ s₂ h₂=>wpAny_bind (wpAny_mono h₂ (λok s₃ h₃=>?_) λ_ _ h'=>h'.elim)) λ_ _ h'=>h'.elim);cases ok with
  |false=>exact wpAny_pure ⟨rfl,h₃⟩
  |true =>
   exact wpAny_bind (wpAny_bind (wpAny_mono h₃ (λx s₄ h₄=>wpAny_bind (wpAny_mono h₄ (λ_ s₅ h₅=>wpAny_pure (wpAny_pure ⟨rfl,h₅⟩)) λ_ _ h'=>h'.elim)) λ_ _ h'=>h'.elim))
abbrev yE(J:It)(n:Nat)(js:List Nat)(g:TG)(tc:TT)(te:TE)(σ:St)(H1:Hp)(Q:VK):Prop :=
 ∃W:Nat->Nat->List V->St->Hp->Prop,(∃m,W 0 m [] (km n js σ) H1)/\∀i m ys σ' H',W i m ys σ' H' ->
  ys.length<sizeLine/\((J.stop i H'/\∀p,H' p=none->Q (.ref p) (upd H' p (.lst ys))) \/
   (J.go i H'/\∀x H2,J.vm i H' x H2->g x σ' H2 λσ2 H3=>tc σ2 H3 λb H4=>if b=true then te σ2 H4 λy H5=>∃m',m' < m/\W (i+1) m' (ys ++ [y]) σ2 H5 else∃m',m' < m/\W (i+1) m' ys σ2 H4))
abbrev t6(wi:TI)(n:Nat)(js:List Nat)(g:TG)(tc:TT)(te:TE):TE:=λσ H Q=>wi σ H λJ H1=>yE J n js g tc te σ H1 Q
section
variable {X:Cx}{pins:List (Addr×Obj)}{σ:St}{tg iter elt:Expr}{ifs:List Expr}{scope:Scope}{pos:Pos}{own fr:List Str}{js:List Nat}{g:TG}{tc:TT}{te:TE}{wi:TI}
def NT{H2:Hp}{s2:Shared}{it:Addr}{fp:List Addr}{tn:Nat->Heap->Prop}{J:It}{Q:VK}{E:Value->Shared->Prop}{cl:List (Str×Addr)}{RR:Value->Addr->Result->Shared->Prop}
  (hc:X.calm=true) (S:gI X scope own fr js) (hg:∀cells C fp s H,PG (aM X (own ++ fr) scope cells C fp s H) tg g) (hf:∀cells C fp s H,PF (aM X (own ++ fr) scope cells C fp s H) ifs tc) (he:∀cells C fp s H,PE (aM X (own ++ fr) scope cells C fp s H) elt te)
  (I2:Inv X pins σ H2 s2) (T:Turn X.prog X.w X.K tg J fp it tn) (st2:tn 0 s2.heap) (f2:∀b∈fp,mQ X pins H2 b)
  (qJ:∀n c,(n,c)∈cl->X.env.cells.lookup n=some c/\(n,NameKind.free)∈scope.names) (t9:∀n,(n,NameKind.free)∈scope.names->∃c,(n,c)∈cl)
  (W:Nat->Nat->List V->St->Hp->Prop) (m0:Nat) (w0:W 0 m0 [] (km own.length js σ) H2)
  (turn:∀i m ys σ' H',W i m ys σ' H'->ys.length<sizeLine/\((J.stop i H'/\∀p,H' p=none->Q (.ref p) (upd H' p (.lst ys))) \/
   (J.go i H'/\∀x H2,J.vm i H' x H2->g x σ' H2 λσ2 H3=>tc σ2 H3 λb H4=>if b=true then te σ2 H4 λy H5=>∃m',m' < m/\W (i+1) m' (ys ++ [y]) σ2 H5 else∃m',m' < m/\W (i+1) m' ys σ2 H4)))
  (fin:∀(acc C:Addr) (H':Hp) (s':Shared) (v:V),v=.ref acc->Inv X pins σ H' s'->mQ X pins H' C->(∃m,s'.heap.Ns C m)->Q v H'->RR (.ref acc) C (.ok .next) s') :
  wpAny (model X.prog X.w) X.A (newList []) (λacc s3=>wpAny (model X.prog X.w) X.A (newFunctionEnv scope X.env.globals cl [] X.env.qual none .none (some X.env)) (λcenv s4 =>
   codeAny (model X.prog X.w) X.A (.compStart (.ListComp elt [⟨tg,iter,ifs,0⟩] scope pos) 0 (.ref it) acc { cenv with scope:=relabel scope X.env }) (RR acc cenv.locals) s4) E s3) E s2:=by
 refine wpAny_newObj_type ?_;refine S4 λh4 hns NU pA=>?_;have hA:s2.heap.objs.size<(s2.heap.push { cls:=.type "list",data:=.seq ([]:List Value).toArray }).objs.size:=by rw[ZbL];exact ZbB _
 generalize hC:(s2.heap.push { cls:=.type "list",data:=.seq ([]:List Value).toArray }).objs.size=C at hns pA hA ⊢;generalize hac:s2.heap.objs.size=acc at hA ⊢;have Kv:acc≠C:=ZaU hA;have old:∀b o,s2.heap.get? b=some o->h4.get? b=some o:=λb o e=>NU b o (Zai _ e);have hacc:h4.get? acc=some { cls:=.type "list",data:=.seq ([]:List Value).toArray }:=NU _ _ (by rw[<- hac];exact Zar _ rfl);have Kw:∀x c,(x,c)∈cellsFrom (C+1) scope.names []->h4.IsCell c none/\C+1<=c/\scope.names.lookup x=some .cell:=λx c h=>⟨(pA.empty x c h).1,(pA.empty x c h).2,C0 S.Bi (Ks _ _ h).1⟩;have lk:∀x c,(cellsFrom (C+1) scope.names cl).lookup x=some c->(h4.IsCell c none/\C+1<=c/\(x,c)∈cellsFrom (C+1) scope.names [])\/(X.env.cells.lookup x=some c/\scope.names.lookup x=some .free):=λx c h=>by
  rw[CZ]at h;rcases Zay.mp (PySem.mem_of_lookup h)with q|q
  exact .inl ⟨(Kw x c q).1,(Kw x c q).2.1,q⟩;exact .inr ⟨(qJ x c q).1,C0 S.Bi (qJ x c q).2⟩
 have Kx:∀x c,X.env.cells.lookup x=some c->c<s2.heap.objs.size:=λx c h=>by
  obtain⟨v,z⟩:=I2.cell x c h;exact z.lt
 have rG:∀x c,(cellsFrom (C+1) scope.names cl).lookup x=some c->c≠C/\c≠acc/\H2 c=none/\∀b∈fp,c≠b:=λx c h=>by
  rcases lk x c h with⟨_,h1,_⟩|⟨h1,_⟩
  refine⟨NR ⋯,NR ⋯,I2.hok.fresh ⋯,λb hb z=>?_⟩;obtain⟨o,e,_⟩:=T.obj 0 _ st2 b hb;have:=ltN (Zav e);rw[<- z]at this;lk
  have:=ltN (Kx x c h1)
  exact⟨ya ⋯,ya ⋯,I2.lG x c h1,λb hb=>(f2 b hb).2.2.2.2.1 x c h1⟩
 have C2:∀x,scope.names.lookup x=some .free->∃c,X.env.cells.lookup x=some c/\(cellsFrom (C+1) scope.names cl).lookup x=some c:=λx h=>by
  obtain⟨c,NV⟩:=t9 x (PySem.mem_of_lookup h);have hc1:=(qJ x c NV).1;have hs:((cellsFrom (C+1) scope.names cl).lookup x).isSome=true:=by
   refine PySem.W.cellsFrom_some scope.names (C+1) cl (.inr ?_);cases q:cl.lookup x with
   |some d=>rfl
   |none =>
    exfalso;have:∀{l:List (Str×Addr)},(x,c)∈l->l.lookup x≠none:=by
     intro l
     induction l with
     |nil=>intro h;exact nomatch h
     |cons p r ih =>
      intro h z;obtain⟨k,v⟩:=p;rw[ZbA]at z;cases hb:x == k with
      |true=>rw[hb]at z;cases z
      |false =>
       rw[hb]at z;rcases Zax.mp h with e|h
       cases e;simp at hb;exact ih h z
    exact this NV q
  obtain⟨d,hd⟩:=ZbM.mp hs;rcases lk x d hd with⟨_,_,h2⟩|⟨h1,_⟩
  have:=(Kw x d h2).2.2
  rw[h]at this;cases this;rw[hc1]at h1;cases h1;exact⟨c,hc1,hd⟩
 have G4:∀b∈fp,b≠C/\b≠acc:=λb hb=>by
  obtain⟨o,e,_⟩:=T.obj 0 _ st2 b hb;have:=ltN (Zav e);exact⟨ya ⋯,ya ⋯⟩
 have S6:(relabel scope X.env).kind=.function:=S.kind;have ok:(aM X (own ++ fr) scope (cellsFrom (C+1) scope.names cl) C fp s2 H2).Ok:=by
  refine⟨I2.ok.mod,S6,I2.ok.glob,I2.ok.blt,?_,λx y c h1 h2=>?_,λx hx=>?_,λx c hx h=>?_,I2.ok.hd,I2.ok.frames,.inl rfl,λb hb=>⟨(G4 b hb).1,λx c h=>(rG x c h).2.2.2 b hb⟩,I2.bs,Zap I2.ok.wG I2.sz,λb o e hb=>?_,λb hb z=>?_,I2.stack,I2.rl⟩;show s2.heap.objs.size<=C;lk;rcases lk x c h1 with⟨_,q1,q2⟩|⟨q1,_⟩
  rcases lk y c h2 with⟨_,r1,r2⟩|⟨r1,_⟩
  exact name_of_addr pA.apart q2 r2
  have:=ltN (Kx y c r1);lk
  rcases lk y c h2 with⟨_,r1,r2⟩|⟨r1,_⟩
  have:=ltN (Kx x c q1);lk
  exact I2.ok.inj x y c q1 r1;have hx':(relabel scope X.env).names.lookup x=some .cell\/(relabel scope X.env).names.lookup x=some .free:=hx;rcases NS scope X.env x with⟨e,_⟩|⟨k,e1,e2⟩
  rcases hx' with z|z<;>(rw[e]at z;cases z)
  by_cases hk:k=.free;subst hk;obtain⟨c,_,h⟩:=C2 x e1;exact⟨c,h⟩;have hk':k=.cell:=by
   have hb:(k == NameKind.free)=false:=beq_eq_false_iff_ne.mpr hk;rw[hb]at e2;simp only[Bool.false_and,ZaT,if_false]at e2;rcases hx' with z|z
   rw[e2]at z;exact Zam z;rw[e2]at z;exact absurd (Zam z) hk
  subst hk';exact ZbM.mp (PySem.W.cellsFrom_some scope.names (C+1) cl (.inl e1));have hx':scope.names.lookup x=some .cell:=of_decide_eq_true hx;show s2.heap.objs.size<=c;rcases lk x c h with⟨_,q,_⟩|⟨_,q⟩
  lk;rw[hx']at q;cases q;rcases(f2 b hb).2.2.2.1 with z|z
  exact I2.ok.tG b o e z;have h1:@LT.lt Nat _ b X.base.objs.size:=Zav e;have h2:=I2.ok.wG;lk;rcases Zax.mp (I2.oh b z)with e|e
  exact(f2 b hb).2.1 e;exact(f2 b hb).2.2.1 e
 have I4:Inv (aM X (own ++ fr) scope (cellsFrom (C+1) scope.names cl) C fp s2 H2) [(acc,{ cls:=.type "list",data:=.seq ([]:List Value).toArray })] (km own.length js σ) H2 { s2 with heap:=h4 }:=by
  refine⟨ok,rfl,I2.bare,Un.kept old,⟨_,hns,λi x v e1 e2 e3=>?_⟩,λx c h=>?_,I2.hok.fresh (by show s2.heap.objs.size<=C;lk),λx c h=>(rG x c h).2.2.1,λp hp=>?_,I2.hok.kept old,?_⟩;have C3:(own ++ fr)[i]?=some x:=e1;unfold km at e2;by_cases hi:i<own.length;rw[Zan (by simpa using hi),ZbO]at e2;split at e2<;>cases e2;rw[ZaE (by simpa using hi),ZbV,Zae]at e2;rw[ZaE ⋯]at C3;cases hj:js[i-own.length]? with
  |none=>rw[hj]at e2;cases e2
  |some j =>
   rw[hj]at e2;have yF:σ.getD j none=some v:=Zam e2;have hN:X.N[j]?=some x:=by
    have q:=congrArg (λl=>l[i-own.length]?) S.ix;simp only[Zae,hj,C3,Option.map_some]at q;exact Zam q
   have hσ:σ[j]?=some (some v):=by
    rw[Zad]at yF;cases q:σ[j]? with
    |none=>rw[q]at yF;cases yF
    |some o=>rw[q]at yF;exact congrArg some yF
   have hfr:scope.names.lookup x=some .free:=S.Ku x (Zab C3);have hk:=S.free _ (PySem.mem_of_lookup hfr) rfl;obtain⟨m,_,hl⟩:=I2.loc;obtain⟨u,ru,lo⟩:=hl j x v hN hσ (by rcases hk with k|k;exact .inr (.inl k);exact .inr (.inr k));refine⟨u,ru,.inr ⟨?_,?_⟩⟩;rcases NS scope X.env x with⟨_,e⟩|⟨k,q1,q2⟩
   rw[hfr]at e;cases e;rw[hfr]at q1;cases q1;have S7:(compEnvC scope (cellsFrom (C+1) scope.names cl) C X.env).kindOf x=some (if(NameKind.free == .free && X.env.scope.kind == .function && X.env.kindOf x == some .cell)=true then .cell else .free):=q2;rw[show(aM X (own ++ fr) scope (cellsFrom (C+1) scope.names cl) C fp s2 H2).env.kindOf x=_ from S7];split;exact .inl rfl;exact .inr rfl;rcases lo with⟨k,_⟩|⟨_,c,hc1,hc2⟩
   rcases hk with k'|k'<;>(rw[k]at k';cases k')
   obtain⟨d,hd1,hd2⟩:=C2 x hfr;rw[hc1]at hd1;cases hd1;exact⟨c,hd2,hc2.keeps old⟩
  rcases lk x c h with⟨q,_,_⟩|⟨q,_⟩
  exact⟨_,q⟩;obtain⟨v,z⟩:=I2.cell x c q;exact⟨v,z.keeps old⟩;have e:p=(acc,{ cls:=.type "list",data:=.seq ([]:List Value).toArray }):=by simpa[aM]using hp
  subst e;refine⟨hacc,I2.hok.fresh ⋯,Kv,λz=>?_,λv z=>nomatch z⟩;rcases Zax.mp (I2.oh acc z)with e|e
  have:=ltN I2.lt
  rw[<- e]at this;lk;exact I2.B8 ⋯ e;show(km own.length js σ).length=(own ++ fr).length;have q:=congrArg List.length S.ix;simp only[Z7]at q;unfold km;rw[Zaf,ZbV,Z7,Zaf,q]
 have Ky:∀{H':Hp} {ob:Obj},(∀b∈fp,H' b=none)->∀b∈fp,mQ (aM X (own ++ fr) scope (cellsFrom (C+1) scope.names cl) C fp s2 H2) [(acc,ob)] H' b:=λ{H' ob} hn b hb =>
  ⟨hn b hb,(G4 b hb).1,λz=>by
   rcases Zax.mp (I2.oh b z)with e|e
   exact(f2 b hb).2.1 e;exact(f2 b hb).2.2.1 e,.inl hb,λx c h=>(rG x c h).2.2.2 b hb,λp hp=>by
   have e:p=(acc,ob):=by simpa[aM]using hp
   subst e
   exactλz=>(G4 b hb).2 z.symm⟩
 have loop:codeAny (model X.prog X.w) X.A (.compLoop (.ListComp elt [⟨tg,iter,ifs,0⟩] scope pos) 0 (.ref it) (.ref acc) (compEnvC scope (cellsFrom (C+1) scope.names cl) C X.env)) (RR (.ref acc) C) { s2 with heap:=h4 }:=by
  refine S5 (λm s'=>∃(i:Nat) (ys:List V) (its:List Value) (n:Nat) (σ':St) (H':Hp),Inv (aM X (own ++ fr) scope (cellsFrom (C+1) scope.names cl) C fp s2 H2) [(acc,{ cls:=.type "list",data:=.seq its.toArray n })] σ' H' s'/\Vals ys its/\tn i s'.heap/\(∀b∈fp,H' b=none)/\W i m ys σ' H') ?_ m0
   ⟨0,[],[],0,_,H2,I4,.nil,T.keep _ _ _ st2 λb _ o e=>old b o e,λb hb=>(f2 b hb).1,w0⟩
  rintro n s5 ⟨i,ys,its,en,σ5,H5,I5,rv,g9,GQ,w5⟩;obtain⟨hz,alt⟩:=turn i n ys σ5 H5 w5;rcases alt with⟨stop,qn⟩|⟨go,step⟩
  refine b8 (T.done (aM X (own ++ fr) scope (cellsFrom (C+1) scope.names cl) C fp s2 H2) rfl rfl rfl hc i _ s5 σ5 H5 _ I5 (Ky GQ) g9 stop) λr s6 ⟨hr,I6⟩=>?_;subst hr;show RR (.ref acc) C (.ok .next) s6;have u:Un (frs X.stack) fp H2 H5 s2.heap s6.heap:=I6.base;have J6:Inv X pins σ H5 s6:=I2.Cb I6.os u I6.hok I6.bare λb hb=>⟨(f2 b hb).2.2.2.1,(f2 b hb).2.1,(f2 b hb).2.2.2.2.1,(f2 b hb).2.2.2.2.2⟩;have pacc:=I6.pin (acc,_) (ZaN _ Zac);have Kz:mQ X pins H5 acc:=I2.qC ⋯ pacc.2.1;have fC:mQ X pins H5 C:=I2.qC ⋯ I6.free;have K6:Inv X pins σ (upd H5 acc (.lst ys)) s6:=J6.C1 Kz ⟨Zbt hz,its,en,rv,pacc.1⟩;obtain⟨m,hm,_⟩:=I6.loc;exact fin acc C _ s6 (.ref acc) rfl K6 ⟨by rw[jY Kv.symm];exact fC.1,fC.2⟩ ⟨m,hm⟩ (qn acc pacc.2.1);refine b8 (T.item (aM X (own ++ fr) scope (cellsFrom (C+1) scope.names cl) C fp s2 H2) rfl rfl rfl hc i _ s5 σ5 H5 _ I5 (Ky GQ) g9 go) λr s6 ⟨u,hr,h6⟩=>?_;subst hr;refine b8 h6 λ_ s7 ⟨x,H7,I7,r7,y7,qA,S8⟩=>?_;have S9:=I7.pinned (Ky S8) (T.obj _ _ qA);refine b8 (hg _ _ _ _ _ _ s7 σ5 H7 x u _ S9 r7 (step x H7 y7)) λ_ s8 ⟨σ8,H8,I8,q8⟩=>?_;refine b8 (hf _ _ _ _ _ _ s8 σ8 H8 _ I8 q8) λb s9 ⟨H9,I9,q9⟩=>?_;have G5:∀{s':Shared} {σ':St} {H':Hp},Inv (aM X (own ++ fr) scope (cellsFrom (C+1) scope.names cl) C fp s2 H2) ([(acc,{ cls:=.type "list",data:=.seq its.toArray en })] ++ oi fp s7.heap) σ' H' s'->tn (i+1) s'.heap/\∀b∈fp,H' b=none:=λ{s' σ' H'} I' =>
   ⟨T.keep _ _ _ qA λb hb o e=>(I'.pin (b,o) (ZaN _ (ZaN _ (GP hb e)))).1,λb hb=>by
    obtain⟨o,e,d⟩:=T.obj _ _ qA b hb
    exact(I'.pin (b,o) (ZaN _ (ZaN _ (GP hb e)))).2.1⟩
  cases b with
  |false =>
   obtain⟨m',hm,w9⟩:=q9;exact⟨m',hm,i+1,ys,its,en,σ8,H9,I9.mr,rv,(G5 I9).1,(G5 I9).2,w9⟩
  |true =>
   refine b8 (he _ _ _ _ _ _ s9 σ8 H9 _ I9 q9) λy KA ⟨yv,KC,G6,Ta,m',hm,Tb⟩=>?_;have pacc:=G6.pin (acc,_) (ZaN _ (ZbF _ Zac));have hlen:=rv.length;refine wpAny_list_append_plain (items:=its.toArray) ⟨en,pacc.1⟩ (λh11 ⟨NW,KD⟩ C4=>?_) (by simp only[Zak];lk);have cA:∀x c,(cellsFrom (C+1) scope.names cl).lookup x=some c->c≠acc:=λx c h=>(rG x c h).2.1;have Ia:Inv (aM X (own ++ fr) scope (cellsFrom (C+1) scope.names cl) C fp s2 H2) [] σ8 KC KA:=G6.nT λp hp=>nomatch hp;have Ib:Inv (aM X (own ++ fr) scope (cellsFrom (C+1) scope.names cl) C fp s2 H2) [] σ8 KC { KA with heap:=h11 }:=Ia.turned (it:=acc) (t':=KA.toks) (λb o hb e=>(C4.2 b hb).trans e) pacc.2.1 Kv (.inr (by show s2.heap.objs.size<=acc;lk)) cA λp hp=>nomatch (show p∈([]:List (Addr×Obj))from by simpa[aM]using hp);refine⟨m',hm,i+1,ys ++ [yv],its ++ [y],NW,σ8,KC,Ib.nT λp hp=>?_,rv.append (.cons Ta .nil),T.keep _ _ _ (G5 G6).1 λb hb o e=>(C4.2 b (G4 b hb).2).trans e,(G5 G6).2,Tb⟩;have e:p=(acc,{ cls:=.type "list",data:=.seq (its ++ [y]).toArray NW }):=by simpa using hp
   subst e;exact⟨by simpa using KD,pacc.2.1,pacc.2.2.1,pacc.2.2.2.1,λv z=>nomatch z⟩
 exact codeAny_compStart_list loop (T.self X.A 0 _ _ _ (T.keep _ _ _ st2 λb _ o e=>old b o e) loop)
def p5(hc:X.calm=true)(S:gI X scope own fr js)(hi:PI X tg iter wi)(hg:∀cells C fp s H,PG (aM X (own ++ fr) scope cells C fp s H) tg g)(hf:∀cells C fp s H,PF (aM X (own ++ fr) scope cells C fp s H) ifs tc)(he:∀cells C fp s H,PE (aM X (own ++ fr) scope cells C fp s H) elt te)
  (hs:∀x,foldedSetIterable iter X.env x=pure x:=by intro _;rfl):PE X (.ListComp elt [⟨tg,iter,ifs,0⟩] scope pos) (t6 wi own.length js g tc te):=by
 intro pins s σ H Q I h;obtain⟨cl,hcl,qJ,t9⟩:=NQ (scope:=scope) (env:=X.env) λy hy hk=>I.ok.has y.1 (S.free y hy hk);rw[eval_ListComp];refine wpAny_comprehension_free (use:=none) rfl hs hcl S.kind (λy hy hk=>by rw[<- hk];exact C0 S.Bi hy) (b8 (hi pins s σ H _ I h) λv s1 h1=>b8 h1 λitv s2 h2=>?_);obtain⟨it,fp,tn,J,H2,e,I2,T,st2,f2,W,⟨m0,w0⟩,turn⟩:=h2;subst e;refine NT (RR:=λacc C=>compPost (model X.prog X.w) X.A X.xe none (EP X pins σ Q) acc C) hc S hg hf he I2 T st2 f2 qJ t9 W m0 w0 turn ?_;intro acc C H' s' v hv I' fC ⟨m,hm⟩ q;subst hv;obtain⟨f0,f1,Tc,f3,f4,f5⟩:=fC;exact⟨m,hm,λh'' yG=>⟨.ref acc,H',I'.turned (it:=C) (t':=s'.toks) (λb o hb e=>(yG.2 b hb).trans e) f0 f1 f3 f4 f5,rfl,q⟩⟩
def G7{i:Nat}{x:Str}{pos' spos:Pos}(hc:X.calm=true)(hN:X.N.Nodup)(hx:X.N[i]?=some x)(hl:X.env.scope.names.lookup x=some .local)(S:gI X scope own fr js)(hi:PI X tg iter wi)(hg:∀cells C fp s H,PG (aM X (own ++ fr) scope cells C fp s H) tg g)(hf:∀cells C fp s H,PF (aM X (own ++ fr) scope cells C fp s H) ifs tc)(he:∀cells C fp s H,PE (aM X (own ++ fr) scope cells C fp s H) elt te)
  (hsw:swapsWith (.ListComp elt [⟨tg,iter,ifs,0⟩] scope pos) (some (.Name x pos')) spos.line X.env=pure true:=by rfl)
  (hs:∀x,foldedSetIterable iter X.env x=pure x:=by intro _;rfl):PS X (.Assign [.Name x pos'] (.ListComp elt [⟨tg,iter,ifs,0⟩] scope pos) spos) (vk (t6 wi own.length js g tc te) (qe i)):=by
 intro pins s σ H D I h;obtain⟨cl,hcl,qJ,t9⟩:=NQ (scope:=scope) (env:=X.env) λy hy hk=>I.ok.has y.1 (S.free y hy hk);rw[exec_Assign_Name_used _ _ _ _ hsw];refine wpAny_bind (wpAny_standAt (wpAny_bind ?_));show wpAny _ X.A (do let _ <- comprehension (.ListComp elt [⟨tg,iter,ifs,0⟩] scope pos) scope X.env _ (newList []) false (eval iter X.env) (some (assign (.Name x pos') X.env))) _ _ s
 refine wpAny_bind (wpAny_mono (wpAny_comprehension_free (use:=some (assign (.Name x pos') X.env)) (Q:=λ_ s'=>SP X pins D .next s') rfl hs hcl S.kind (λy hy hk=>by rw[<- hk];exact C0 S.Bi hy)
  (b8 (hi pins s σ H _ I h) λv s1 h1=>b8 h1 λitv s2 h2=>?_)) (λ_ s' hq=>wpAny_pure (wpAny_pure hq)) λ_ _ e=>e)
 obtain⟨it,fp,tn,J,H2,e,I2,T,st2,f2,W,⟨m0,w0⟩,turn⟩:=h2;subst e;refine NT (Q:=λv H'=>qe i v σ H' D.nx) (RR:=λacc C=>compPost (model X.prog X.w) X.A X.xe (some (assign (.Name x pos') X.env)) (λ_ s'=>SP X pins D .next s') acc C) hc S hg hf he I2 T st2 f2 qJ t9 W m0 w0 turn ?_;intro acc C H' s' v hv I' fC ⟨m,hm⟩ q;subst hv;obtain⟨f0,f1,Tc,f3,f4,f5⟩:=fC;show wpAny _ X.A (assign (.Name x pos') X.env (.ref acc)) _ _ _;refine wpAny_assign_Name (M0 I' hN hx (.inl hl) (show RelV (.ref acc) (.ref acc)from rfl) (λs'' Td ⟨a,hs1,ha⟩=>?_) (.inr hl));have haC:a≠C:=by
  rcases ha with e|e
  rw[e];exact f1.symm;exact f4 _ _ e
 exact⟨m,hm.sameBut hs1 haC.symm,λh'' yG=>⟨_,H',Td.turned (it:=C) (t':=s''.toks) (λb o hb e=>(yG.2 b hb).trans e) f0 f1 f3 f4 f5,q⟩⟩
end
section
variable {X:Cx}
def NX:∀{bs:List Bool} {us:List Value} {i:Nat} {v:Value},Vals (bs.map V.bl) us->us[i]?=some v->∃b,bs[i]?=some b/\v=.bool b
 |[],_,i,v,r,h=>by cases r;simp at h
 |b :: bs,_,0,v,r,h=>by
  cases r with
  |cons r1 r2 =>
   cases(show _=Value.bool b from r1);simp at h;exact⟨b,rfl,h.symm⟩
 |b :: bs,_,i+1,v,r,h=>by
  cases r with
  |cons r1 r2 =>
   obtain⟨c,e1,e2⟩:=NX (i:=i) r2 (by simpa using h);exact⟨c,by simpa using e1,e2⟩
def Te(hc:X.calm=true):eZ X (.builtin "all") (λxs H Q=>∃(p:Addr) (bs:List Bool),xs=[.ref p]/\jZ X.K H p (bs.map V.bl)/\Q (.bl (bs.all id)) H):=by
 intro pins s σ H xs us Q I r h;obtain⟨p,bs,rfl,hq,q⟩:=h;obtain⟨u,rfl,ru⟩:=vals1 r;cases ru;obtain⟨its,rv,pl,_⟩:=I.list hq;have hl:=pl.isList;have hlt:p<s.heap.objs.size:=by obtain⟨_,e,_⟩:=hl;exact Zav e
 have hlen:=rv.length;rw[Z7]at hlen;have hh:X.A.in1.handled=none:=I.ok.hd hc;refine call_all_walk (wpAny_pyIter_list hl ?_)
 refine⟨s.heap.objs.size,[s.heap.objs.size,p],[s.heap.objs.size],its.toArray.size,_,_,λi=>(bs[i]?).getD true,rfl,Walks.list (A:=X.A.in1) hh _ p (ZaU hlt) its.toArray,
  ⟨⟨_,Zar _ rfl,rfl,rfl⟩,hl.push _⟩,λi v s' Q' E' hP hQ=>?_,λh' tk hk=>?_⟩
 obtain⟨b,e,rfl⟩:=NX rv (by simpa using hP);simp only[e,Option.getD_some]at hQ;exact wpAny_truthy_bool hQ;have e:((List.range its.toArray.size).all λi=>(bs[i]?).getD true)=bs.all id:=by
  rw[Zak,<- hlen];exact PyProof.Rows.LSm.range_all bs
 rw[e];exact⟨.bl _,H,I.kept (PyProof.Rows.LSm.kept_iter hk),rfl,q⟩
end
abbrev lP(ns:List Int):PyData:=.tuple (cx ns)
def KG:∀(rs:List (List Int)),PyData.canLayAll0 (rs.map lP)=true
 |[]=>rfl
 |r :: rs=>by
  show(PyData.canLayAll0 (cx r) && PyData.canLayAll0 (rs.map lP))=true;rw[vz,KG rs];rfl
def NY:∀(rs:List (List Int)),PyData.depthAll (rs.map lP)<=1
 |[]=>ZaM _
 |r :: rs=>by
  show max (PyData.depthAll (cx r)+1) (PyData.depthAll (rs.map lP))<=1;have:=NY rs;rw[yA];lk
section
variable {X:Cx}{K:Zfr}
def o4(hK:X.K=K):GW X (yp K):=by subst hK;exact bT
def Tf(hK:X.K=K):lN X (compareOp .In) (CK K false):=by subst hK;exact SE
def NZ(hK:X.K=K):lN X (compareOp .NotIn) (CK K true):=by subst hK;exact GY
def Tg(hK:X.K=K):eZ X (.builtin "len") (λxs H Q=>∃p ys,xs=[V.ref p]/\(jZ K H p ys\/dr K H p ys)/\Q (.int ys.length) H):=by subst hK;exact mT
def Ti(hK:X.K=K):eZ X (.type "tuple") (λxs H Q=>∃p ys,xs=[V.ref p]/\((jZ K H p ys/\∀l,H l=none->Q (.ref l) (upd H l (.tup ys)))\/(dr K H p ys/\Q (.ref p) H))):=by subst hK;exact mV
end
section
variable {prog:Program}{w:World}{A:Around}{E:Value->Shared->Prop}{s:Shared}
def Tj{j t:Addr}{i:Nat}{ys:Array Value}{y:Value}{Q:Value->Shared->Prop}(hj:s.heap.IsTupleIter j t i)(ht:s.heap.IsTuple t ys)(hy:ys[i]?=some y)
  (hQ:∀h',h'.IsTupleIter j t (i+1)->Heap.SameBut j s.heap h'->Q y { s with heap:=h' }):wpAny (model prog w) A (Builtin.SmallTypes.nextOf (.ref j)) Q E s:=by
 obtain⟨r,hr,rc,rd⟩:=id hj;obtain⟨q,hq,_,nq,dq⟩:=ht;unfold Builtin.SmallTypes.nextOf;refine wpAny_bind (wpAny_callSpecial?_slot (name:=Str.ofString "__next__") hj.typeIs F.slot_tuple_iterator_next (wpAny_call_entry F.slot_tuple_iterator_next hj.typeIs F.entry_tuple_iterator_next ?_ (F.args_tuple_iterator_next_1 _)));show wpAny _ _ (PySem.field (.ref j) 0 >>= _) _ _ s;refine wpAny_bind (wpAny_field hr rd (x:=.ref t) rfl ?_);show wpAny _ _ (if(Value.ref t == Value.none)=true then _ else _) _ _ s;rw[if_neg (λz:(Value.ref t == Value.none)=true=>Zaj z)];show wpAny _ _ (PySem.field (.ref j) 1 >>= _) _ _ s;refine wpAny_bind (wpAny_field hr rd (x:=.int i 0) rfl ?_);show wpAny _ _ (seqItems? (.ref t) >>= _) _ _ s;refine wpAny_bind (wpAny_seqItems hq dq ?_);simp only[Zao,hy];refine wpAny_bind (wpAny_setField hr rd (by simp) (wpAny_pure ⟨y,rfl,wpAny_pure (hQ _ ⟨_,Zbg _ hr (Obj.isFreed_of_fields (Obj.data_mapFields rd _)),(Obj.cls_mapFields ..).trans rc,by rw[Obj.data_mapFields rd];simp[rawInt]⟩ (Zbd ..))⟩))
def To{j t:Addr}{i:Nat}{ys:Array Value}{Q:Value->Shared->Prop}(hh:A.handled=none)(hj:s.heap.IsTupleIter j t i)(ht:s.heap.IsTuple t ys)(hy:ys[i]?=none)
  (hE:∀h' e,Heap.ExtBut j s.heap h'->(∃o,h'.get? e=some o/\o.cls=.type "StopIteration")->E (.ref e) { s with heap:=h' }):wpAny (model prog w) A (Builtin.SmallTypes.nextOf (.ref j)) Q E s:=by
 obtain⟨r,hr,rc,rd⟩:=id hj;obtain⟨q,hq,_,nq,dq⟩:=ht;unfold Builtin.SmallTypes.nextOf;refine wpAny_bind (wpAny_callSpecial?_slot (name:=Str.ofString "__next__") hj.typeIs F.slot_tuple_iterator_next (wpAny_call_entry F.slot_tuple_iterator_next hj.typeIs F.entry_tuple_iterator_next ?_ (F.args_tuple_iterator_next_1 _)));show wpAny _ _ (PySem.field (.ref j) 0 >>= _) _ _ s;refine wpAny_bind (wpAny_field hr rd (x:=.ref t) rfl ?_);show wpAny _ _ (if(Value.ref t == Value.none)=true then _ else _) _ _ s;rw[if_neg (λz:(Value.ref t == Value.none)=true=>Zaj z)];show wpAny _ _ (PySem.field (.ref j) 1 >>= _) _ _ s;refine wpAny_bind (wpAny_field hr rd (x:=.int i 0) rfl ?_);show wpAny _ _ (seqItems? (.ref t) >>= _) _ _ s;refine wpAny_bind (wpAny_seqItems hq dq ?_);simp only[Zao,hy];refine wpAny_bind (wpAny_rule (wpAny_bind (wpAny_setField hr rd (by simp) ?_)));show wpAny _ _ (newExc (.type "StopIteration") [] >>= _) _ _ _;refine wpAny_bind ?_;simp only[newExc,newTuple];refine wpAny_bind (wpAny_newObj_type ?_ (by size_fits));refine wpAny_bind (m:=firstArgMember _ _) (wpAny_of_eq (a:=Value.none) (by first|rfl|(simp only[firstArgMember];rfl)) ?_);refine wpAny_newObj_type ?_ (by size_fits);simp only[raiseNew];refine wpAny_bind (wpAny_handled ?_);first|rw[show A.in1.handled=none from hh]|rw[hh]
 exact wpAny_bind (wpAny_pure (wpAny_throw (hE _ _ (((Zbd ..).extBut.push _).push _) ⟨_,Zar _ rfl,rfl⟩)))
end
def uc{prog:Program}{w:World}{A:Around}(hh:A.handled=none)(j t:Addr)(hne:t≠j)(ys:Array Value):
  Draws prog w A j [j,t] ys.size (λi v=>ys[i]?=some v) (λi h=>h.IsTupleIter j t i/\h.IsTuple t ys) where
 live:=λ_ _ st=>let ⟨o,ho,_⟩:=st.1;⟨o,ho⟩
 frame:=λ_ _ _ st k=>⟨st.1.at λo e=>k j (by simp) o e,let ⟨o,e,r⟩:=st.2;⟨o,k t (by simp) o e,r⟩⟩
 item:=λi s Q E hi st hQ=>Tj st.1 st.2 (y:=ys[i]) (by simp[hi]) λh' a b=>hQ _ h' s.toks (by simp[hi]) ⟨a,st.2.extBut b.extBut hne⟩ b
 done:=λs Q E st hE=>To hh st.1 st.2 (by simp) hE
def Tp(l:Addr)(items:Array Value)(n:Nat)(dct:Option Addr)(sl:Array (Option Value)):
  Meets (Builtin.«enumerate.__new__» ⟨[.type "enumerate",.ref l],[]⟩) (λ_ R s=>s.heap.get? l=some { cls:=.type "tuple",dict:=dct,data:=.seq items n,slots:=sl } /\
   R (.ok (.ret (.ref (s.heap.push { cls:=.type "tuple_iterator",data:=.fields #[.ref l,.int 0 0] }).objs.size)))
    { s with heap:=(s.heap.push { cls:=.type "tuple_iterator",data:=.fields #[.ref l,.int 0 0] }).push { cls:=.type "enumerate",data:=.fields #[.none,.bool false,.ref s.heap.objs.size,rawInt 0,.none,.none] } }) :=
 .of_wp λprog w A R s h=>by
  obtain⟨hp,g,d,tk,os⟩:=s;obtain⟨hl,h⟩:=h;have hsub:=sub_enumerate;have hL:Heap.IsTuple (Shared.heap ⟨hp,g,d,tk,os⟩) l items:=⟨_,hl,rfl,n,rfl⟩
  wp_walk using AutoSeq1.wpAny_loadPart' hl
  refine wpAny_stack_any λst=>wpAny_pure ?_;split
  ·rename_i c _ _ _ _ _
   cases(c == Value.type "enumerate")<;>(wp_walk using AutoSeq1.wpAny_loadPart' hl,wpAny_pyIter_tuple hL;exact⟨_,rfl,h⟩)
  ·wp_walk using AutoSeq1.wpAny_loadPart' hl,wpAny_pyIter_tuple hL
   exact⟨_,rfl,h⟩
section
variable {prog:Program}{w:World}{A:Around}{E:Value->Shared->Prop}{s:Shared}
def Tq{l:Addr}{ys:Array Value}{Q:Value->Shared->Prop}(ht:s.heap.IsTuple l ys)
  (h:∀h',IsEnum h' (s.heap.objs.size+1) s.heap.objs.size 0 .none->h'.IsTupleIter s.heap.objs.size l 0->h'.objs.size=s.heap.objs.size+2 ->
   (∀b o,s.heap.get? b=some o->h'.get? b=some o)->Q (.ref (s.heap.objs.size+1)) { s with heap:=h' }):wpAny (model prog w) A (call (.type "enumerate") [.ref l]) Q E s:=by
 obtain⟨⟨c,dct,dt,sl⟩,hl,hc,n,hd⟩:=ht;cases(show c=.type "tuple" from hc);cases(show dt=.seq ys n from hd);refine callType_new F.called_enumerate ∅ (F.typeCall_enumerate_1 _) (F.newCall_enumerate_1 _) (λobj=>F.args_object_init_2 obj _) F.entry_enumerate_new (Tp l ys n dct sl) ⟨hl,?_⟩;have z:(s.heap.push { cls:=.type "tuple_iterator",data:=.fields #[.ref l,.int 0 0] }).objs.size=s.heap.objs.size+1:=ZbL ..;show _/\_;rw[z];have en:IsEnum ((s.heap.push { cls:=.type "tuple_iterator",data:=.fields #[.ref l,.int 0 0] }).push { cls:=.type "enumerate",data:=.fields #[.none,.bool false,.ref s.heap.objs.size,rawInt 0,.none,.none] }) (s.heap.objs.size+1) s.heap.objs.size 0 .none:=by
  have g:=Zar (s.heap.push { cls:=.type "tuple_iterator",data:=.fields #[.ref l,.int 0 0] }) (o:={ cls:=.type "enumerate",data:=.fields #[.none,.bool false,.ref s.heap.objs.size,rawInt 0,.none,.none] }) rfl;rw[z]at g;exact g
 exact⟨⟨_,en,rfl⟩,h _ en ⟨_,Zai _ (Zar _ rfl),rfl,rfl⟩ (by rw[ZbL,z]) λb o e=>Zai _ (Zai _ e)⟩
end
section
variable {X:Cx}{pins:List (Addr×Obj)}{σ:St}{H:Hp}{s:Shared}{h':Heap}
def Inv.vB{t':Nat}{ch:List Addr}(I:Inv X pins σ H s)(k:∀b o,b ∉ ch->s.heap.get? b=some o->h'.get? b=some o)(f:∀b∈ch,mQ X pins H b):Inv X pins σ H { s with heap:=h',toks:=t' }:=by
 have Ca:∀b u,H b=some u->b ∉ ch:=λb u e z=>by rw[(f b z).1]at e;cases e
 refine I.step (g':=s.gens) (d':=s.drawn) (ch:=ch) (λb hb=>⟨(f b hb).2.2.2.1,(f b hb).2.1,(f b hb).2.2.2.2.1,(f b hb).2.2.2.2.2⟩) (λb o _ _ hc e _=>k b o hc e) (λb o _ _ hc e _=>⟨o.slots,k b o hc e⟩) (λ_ _ _ _ n=>n)
  (λb o hc e=>⟨o,k b o hc e⟩) (λ_ _ e=>e) (λ_ _ _ e=>e) (λb ps e=>⟨#[],by rw[e];simp⟩) (λm hm=>?_) (λb u e=>?_) I.bare
 obtain⟨o,es,ep,ho,r⟩:=hm;exact⟨o,es,ep,k _ o (λz=>(f _ z).2.1 rfl) ho,r⟩;refine(I.hok b u e).stay (λc v hc q=>k c v ?_ q) (λ_ q=>q) λ_ _ q=>q;rcases hc with z|z
 rw[z];exact Ca b u e;exact Ca c _ z
end
abbrev N0(K:Zfr)(a:Addr):It :=
 ⟨λi H=>∃xs x,dr K H a xs/\xs[i]?=some x,λi H x H'=>∃p y,x=.ref p/\H p=none/\H'=upd H p (.tup [.int i,y])/\∀xs,dr K H a xs->xs[i]?=some y,λi H=>∃xs,dr K H a xs/\xs.length=i⟩
def Tr{P:Program}{w:World}{K:Zfr}{es:List Expr}{x1}{pos:Pos}(a e it:Addr)(hne:e≠it):
  Turn P w K (.Tuple es x1 pos) (N0 K a) [e,it] e (λi h=>(∃old,IsEnum h e it i old)/\h.IsTupleIter it a i) where
 mem:=by simp
 obj:=λi h st b hb=>by
  obtain⟨⟨old,he⟩,o,e2,c,d⟩:=st;rcases Zax.mp hb with rfl|hb
  exact⟨_,he,λv z=>by
   have z':Data.fields _=Data.cell v:=z
   cases z'⟩
  have q:b=it:=by simpa using hb
  subst q;exact⟨o,e2,λv z=>by rw[d]at z;cases z⟩
 keep:=λi h h' st k=>⟨let ⟨old,he⟩:=st.1;⟨old,k e (by simp) _ he⟩,st.2.at λo q=>k it (by simp) o q⟩
 item:=by
  intro X hP hw hK hc i pins s σ H E I hf st hg;subst hP hw hK;obtain⟨xs,x,hq,hx⟩:=hg;obtain⟨its,rv,p,hz⟩:=I.tuple hq;obtain⟨u,hu,ru⟩:=rv.get hx;obtain⟨⟨old,he⟩,hit⟩:=st;have ht:s.heap.IsTuple a its.toArray:=p;have KH:a≠it:=λz=>by
   obtain⟨o,e1,c1,_⟩:=hit;obtain⟨o2,e2,c2,_⟩:=ht;rw[z,e1]at e2;cases e2;exact absurd (c1.symm.trans c2) (by simp)
  have Ts:e≠a:=λz=>by
   obtain⟨o2,e2,c2,_⟩:=ht;rw[<- z,he]at e2;cases e2;exact absurd c2 (by simp)
  have hl:=rv.length;have hi:i<its.toArray.size:=by
   have:=Z9.mp hu;obtain⟨q,_⟩:=this
   simpa using q
  refine wpAny_pyNext_enum_itemD (uc (A:=X.A.in1) (I.ok.hd hc) it a KH its.toArray) he ⟨hit,ht⟩ hi hne (by simp[hne,Ts]) λy h1 tk hy ho hst hT hsz kk=>?_;have ey:y=u:=by
   have:its.toArray[i]?=some u:=by simpa using hu
   exact Zam (hy.symm.trans this)
  subst ey;refine⟨_,rfl,wpAny_letOwnedTupleGo_enum ho λh2 Tt sb=>?_⟩;have hel:@LT.lt Nat _ e s.heap.objs.size:=Zav he;have hil:@LT.lt Nat _ it s.heap.objs.size:=by obtain⟨o,e1,_⟩:=hit;exact Zav e1
  have Tv:H s.heap.objs.size=none:=I.hok.fresh (Zaa _);have sb':Heap.SameBut e h1 h2:=sb;have I1:Inv X pins σ (upd H s.heap.objs.size (.tup [.int i,x])) { s with heap:=s.heap.push { cls:=.type "tuple",data:=.seq #[.int i tk,y] },toks:=s.toks } :=
   I.laid (λb u e=>Zai _ e) (Zaa _) ⟨(by decide:2<=sizeLine),[.int i tk,y],.cons ⟨tk,rfl⟩ (.cons ru .nil),⟨_,Zar _ rfl,rfl,rfl,_,rfl⟩⟩
  have nn:∀b∈[e,it],@LT.lt Nat _ b s.heap.objs.size:=λb hb=>by
   rcases Zax.mp hb with rfl|hb
   exact hel;have q:b=it:=by simpa using hb
   rw[q];exact hil
  have hn:∀b∈[e,it],upd H s.heap.objs.size (.tup [.int i,x]) b=none:=λb hb=>by
   unfold upd;rw[if_neg (ZaU (nn b hb))];exact(hf b hb).1
  have I2:Inv X pins σ (upd H s.heap.objs.size (.tup [.int i,x])) { s with heap:=h2,toks:=tk+1 }:=by
   refine Inv.vB (s:={ s with heap:=s.heap.push { cls:=.type "tuple",data:=.seq #[.int i tk,y] },toks:=s.toks }) (h':=h2) I1 (ch:=[e,it]) (t':=tk+1) (λb o hb q=>?_) λb hb=>⟨hn b hb,(hf b hb).2⟩;have nb:b≠e/\b≠it:=by simpa using hb
   refine(sb'.2 b nb.1).trans ?_;rcases Heap.get?_push_cases q with⟨rfl,rfl⟩|q
   exact hT;exact kk b o nb.1 nb.2 q
  refine⟨.ref s.heap.objs.size,_,I2,rfl,⟨_,x,rfl,Tv,rfl,λys vC=>by rw[I.iY vC hq];exact hx⟩,⟨⟨y,?_⟩,?_⟩,hn⟩
  have:((i+1:Nat):Int)=(i:Int)+1:=by lk
  rw[this];exact Tt;exact hst.1.extBut sb'.extBut (Ne.symm hne)
 done:=by
  intro X hP hw hK hc i pins s σ H E I hf st hg;subst hP hw hK;obtain⟨xs,hq,hx⟩:=hg;obtain⟨its,rv,p,hz⟩:=I.tuple hq;obtain⟨⟨old,he⟩,hit⟩:=st;have ht:s.heap.IsTuple a its.toArray:=p;have KH:a≠it:=λz=>by
   obtain⟨o,e1,c1,_⟩:=hit;obtain⟨o2,e2,c2,_⟩:=ht;rw[z,e1]at e2;cases e2;exact absurd (c1.symm.trans c2) (by simp)
  have hl:=rv.length;have ei:its.toArray.size=i:=by simp;lk
  refine wpAny_pyNext_enum_endD (uc (A:=X.A.in1) (I.ok.hd hc) it a KH its.toArray) he (by rw[ei];exact⟨hit,ht⟩) λh1 eb=>⟨rfl,?_⟩;obtain⟨f0,f1,f2,f3,f4,f5⟩:=hf it (by simp);exact I.turned (t':=s.toks) (λb o hb q=>eb b o hb q) f0 f1 f3 f4 f5
 self:=λ_ _ _ _ _ st h=>let ⟨_,he⟩:=st.1;wpAny_pyIter_enum he h
abbrev xg(K:Zfr)(ta:TA):TI:=λσ H R=>ta σ H λvs H1=>∃a,vs=[.ref a]/\(∃xs,dr K H1 a xs)/\R (N0 K a) H1
def N1{X:Cx}{es:List Expr}{x1}{p0:Pos}{l:Expr}{ta:TA}{p pos:Pos}(hg:Gl X "enumerate")(hm:X.mg "enumerate" = none)(ha:PA X [l] ta)(hs:starEach [l] X.env=[(false,eval l X.env)]:=by rfl):
  PI X (.Tuple es x1 p0) (.Call (.Name "enumerate" p) [l] [] pos) (xg X.K ta):=by
 intro pins s σ H R I h;refine Call_ (A7 I hg hm boot_enumerate (PyProof.Rows.callWith_type1 (b8 (ha pos pins s σ H _ I h) λus s1 ⟨vs,H1,I1,r1,q1⟩=>?_) hs rfl));obtain⟨a,e,⟨xs,hq⟩,q⟩:=q1;subst e;cases r1 with
 |cons r rr =>
  cases rr;cases r;obtain⟨its,rv,p,hz⟩:=I1.tuple hq;refine Tq (show s1.heap.IsTuple a its.toArray from p) λh1 he hi hsz kk=>?_;refine wpAny_pyIter_enum he ?_;refine⟨s1.heap.objs.size+1,[s1.heap.objs.size+1,s1.heap.objs.size],_,_,H1,rfl,I1.kept (t':=s1.toks) kk,Tr a _ _ (Nat.succ_ne_self _),⟨⟨_,he⟩,hi⟩,λb hb=>?_,q⟩;have hb':@LE.le Nat _ s1.heap.objs.size b:=by
   rcases Zax.mp hb with rfl|hb
   exact Zb4 _;have e:b=s1.heap.objs.size:=by simpa using hb
   rw[e];exact Zaa _
  exact I1.qC hb' (I1.hok.fresh hb')
section
open Sem (wp)
open PySem.AutoSeq1 (wpAny_loadPart')
open PySem.MeetsSeq PySem.MeetsSeq2 PySem.MeetsSeq3
def IntsAre.get{vs:List Value}{ns:List Int}(h:IntsAre vs ns):∀{i:Nat} {n:Int},ns[i]?=some n->∃t,vs[i]?=some (.int n t):=by
 induction h with
 |nil=>intro i n e;simp at e
 |cons a t h ih =>
  intro i n e;cases i with
  |zero=>exact⟨t,by simpa using e⟩
  |succ i=>simpa using ih (by simpa using e)
def ud(l:Addr)(items:Array Value)(n:Nat)(dd:Option Addr)(sl:Array (Option Value))(ns:List Int)(hi:IntsAre items.toList ns)(v:Int)(t:Tok)(j:Nat)(hj:ns[j]?=some v)(hb:∀i,i<j->ns[i]?≠some v):
  Meets (Builtin.«tuple.index» ⟨[.ref l,.int v t],[]⟩)
   (λ_ R s=>s.heap.get? l=some { cls:=.type "tuple",dict:=dd,data:=.seq items n,slots:=sl }/\R (.ok (.ret (.int (j:Int) s.toks))) { s with toks:=s.toks+1 }) :=
 .of_wp λprog w A R s h=>by
  obtain⟨hp,g,d,tk,os⟩:=s;obtain⟨hl,h⟩:=h;have z1:items.size=ns.length:=by rw[<- hi.length];simp
  have hjl:j<ns.length:=(Z9.mp hj).1
  wp_walk using wpAny_loadPart' hl
  have key:wpAny (model prog w) A.in1 (forIn (m:=Sem) [:min items.size items.size] ((none,()):Option Fin×Unit) (λ(i:Nat) _ =>
    match items[i]? with
    |some y=>do
     let b <- eqBool y (Value.int v t)
     if b=true then do
      let r <- retInt (i:Int)
      pure (ForInStep.done (some r,()))
     else pure (ForInStep.yield (none,()))
    |_=>pure (ForInStep.yield (none,()))))
   (λa s'=>a.1=some (.done (.ret (.int (j:Int) tk)))/\s'=⟨hp,g,d,tk+1,os⟩) (λe s'=>R (Except.error e) s') ⟨hp,g,d,tk,os⟩:=by
   rw[Std.Legacy.Range.forIn_eq_forIn_range'];have ez:([:min items.size items.size]:Std.Legacy.Range).size=ns.length:=by
    simp[Std.Legacy.Range.size,z1]
   rw[ez];refine wpAny_forIn_list _ (λrest b s'=>b.1=none/\s'=⟨hp,g,d,tk,os⟩/\∃k,k<=j/\rest=List.range' k (ns.length-k) 1) _ ?_ ?_ _ _ ⟨rfl,rfl,0,ZaM _,by simp⟩;rintro x rest b s' ⟨hb',rfl,k,hk,e⟩;have el:ns.length-k=(ns.length-(k+1))+1:=by lk
   rw[el,List.range'_succ]at e;injection e with e1 e2;subst e1;have p6:x<ns.length:=by lk
   obtain⟨t',ht'⟩:=IntsAre.get hi (Z8 p6);have Tw:items[x]?=some (.int ns[x] t'):=by rw[<- ht',Za2]
   simp only[Tw];obtain⟨e,he,hiff⟩:=HT.Sk A.in1 ⟨hp,g,d,tk,os⟩ ns[x] t' v t;refine wpAny_bind (he prog w _ _ ?_);cases e with
   |true =>
    have ev:ns[x]=v:=hiff.mp rfl;have Tx:x=j:=by
     rcases Nat.lt_or_ge x j with h'|h'
     exact absurd (by rw[Z8 p6,ev]) (hb x h');lk
    subst Tx
    wp_walk
    first|exact⟨rfl,rfl⟩|trivial
   |false =>
    have ev:ns[x]≠v:=λq=>absurd (hiff.mpr q) Zaj;have:x≠j:=λz=>ev (by subst z;rw[Z8 p6]at hj;exact Zam hj)
    wp_walk
    exact⟨rfl,rfl,x+1,by lk,e2⟩
   rintro b s' ⟨hb',rfl,k,hk,e⟩
   have:(List.range' k (ns.length-k) 1).length=0:=by rw[<- e];rfl
   rw[List.length_range']at this;lk
  refine wpAny_mono key (λa s' ha=>?_) (λ_ _ z=>z);obtain⟨ha,rfl⟩:=ha;obtain⟨a1,a2⟩:=a;cases(show a1=_ from ha);exact wpAny_pure ⟨_,rfl,h⟩
end
section
variable {X:Cx}{K:Zfr}
abbrev qK(K:Zfr):V->List V->Hp->VK->Prop:=λx vs H Q=>∃(a:Addr) (ns:List Int) (v:Int) (j:Nat),x=.ref a/\vs=[.int v]/\dr K H a (ns.map V.int)/\ns[j]?=some v/\(∀i,i<j->ns[i]?≠some v)/\Q (.int (j:Int)) H
def Tz:GX X "tuple.index" (qK X.K):=by intro pins s σ H x xs v us Q I rx rv h;obtain⟨a,ns,y,j,rfl,rfl,hq,hj,hb,q⟩:=h;cases rx;obtain⟨u,rfl,t,rfl⟩:=vals1 rv;obtain⟨its,r,⟨⟨c,dd,dt,sl⟩,e,hc,hd,n,hdt⟩,hz⟩:=I.pk hq;cases(show c=.type "tuple" from hc);cases(show dt=.seq its.toArray n from hdt);refine call_meets F.slot_tuple_index ⟨_,e,rfl⟩ F.entry_tuple_index (F.args_tuple_index_2 _ _) (ud a its.toArray n dd sl ns (by simpa using Sx r) y t j hj hb) ⟨e,?_⟩;exact⟨.int j,H,I.tok _,⟨_,rfl⟩,q⟩
def C5(hK:X.K=K):GX X "tuple.index" (qK K):=by subst hK;exact Tz
def C6{o e:Expr}{es:List Expr}{to:TE}{t:TA}{name:Str}{apos cpos:Pos}{T id:String}{r:V->List V->Hp->VK->Prop}(hK:X.K=K)(pa:PlainAttrs T)(slot:Slot T name id)(hty:typeOf (.builtin id)=pure (.type "method_descriptor"))(hm:GX X id r)(ho:PE X o to)(ha:PA X (e :: es) t)
  (hbase:attributeBase o name X.env (eval o X.env)=eval o X.env:=by rfl)
  (hfew:((backTo cpos (starEach (e :: es) X.env)).all (λx=>!x.1) && (backToKw cpos (keywordEach [] X.env)).all (λx=>x.1.isSome)
   && decide ((e :: es).length+([]:List Keyword).length+(if([]:List Keyword).isEmpty then 0 else 1)<30))=true:=by rfl)
  (hline:(apos.endLine == cpos.line)=true:=by rfl) (hs:starEach (e :: es) X.env=(false,eval e X.env) :: starEach es X.env:=by rfl) (hplain:(backTo cpos (starEach es X.env)).any (·.1)=false:=by rfl) :
  PE X (.Call (.Attribute o name apos) (e :: es) [] cpos) (Ke K T r to t):=by subst hK;exact qz pa slot hty hm ho ha hbase hfew hline hs hplain
end
open Builtin.Str
section
variable {X:Cx}{K:Zfr}
def yH:bootBuiltins "abs" = some (.builtin "abs"):=by decide +kernel
end
end L2
namespace L2
open PySem PySem.Spec PyProof.Rows
open Builtin.Str
set_option genInjectivity false in
inductive ZS where
 |tup (a:Addr)|lst (a:Addr)|str (x:Str)
abbrev ZS.has(K:Zfr)(H:Hp)(i:Nat)(v:V):ZS->Prop
 |.tup a=>∃xs,dr K H a xs/\xs[i]?=some v
 |.lst a=>∃xs,jZ K H a xs/\xs[i]?=some v
 |.str x=>∃c,x.cps[i]?=some c/\v=.str ⟨#[c]⟩
abbrev ZS.fin(K:Zfr)(H:Hp)(i:Nat):ZS->Prop
 |.tup a=>∃xs,dr K H a xs/\xs.length=i
 |.lst a=>∃xs,jZ K H a xs/\xs.length=i
 |.str x=>x.cps.size=i
def ZS.vD{X:Cx}{pins:List (Addr×Obj)}{σ:St}{H:Hp}{s:Shared}{src:ZS}{i:Nat}{x y:V}(I:Inv X pins σ H s)(a:src.has X.K H i x)(b:src.has X.K H i y):y=x:=by
 cases src with
 |tup p =>
  obtain⟨xs,h1,e1⟩:=a;obtain⟨ys,h2,e2⟩:=b;rw[I.iY h2 h1]at e2;rw[e1]at e2;exact(Zam e2).symm
 |lst p =>
  obtain⟨xs,h1,e1⟩:=a;obtain⟨ys,h2,e2⟩:=b;rw[I.qd h2 h1]at e2;rw[e1]at e2;exact(Zam e2).symm
 |str z =>
  obtain⟨c,h1,rfl⟩:=a;obtain⟨d,h2,rfl⟩:=b;rw[h1]at h2;cases h2;rfl
abbrev ZS.val(K:Zfr)(H:Hp)(x:V):ZS->Prop
 |.tup a=>x=.ref a/\∃xs,dr K H a xs
 |.lst a=>x=.ref a/\∃xs,jZ K H a xs
 |.str z=>x=.str z
end L2
namespace L2
open PySem PySem.Spec PyProof.Rows
section
variable {X:Cx}{K:Zfr}
abbrev eD(us:List Value)(ds:List PyData)(dx:PyData)(u:Value):Bool:=@decide (∃(i:Nat) (d:PyData),us[i]?=some u/\ds[i]?=some d/\PyData.eqv d dx=true) (Classical.propDecidable _)
def fN.get:∀{H:Hp} {vs:List V} {ds:List PyData},fN K H vs ds->∀{i:Nat} {v:V},vs[i]?=some v->∃d,ds[i]?=some d/\Rep K H v d
 |_,_,_,.nil,i,v,e=>by simp at e
 |_,_,_,.cons (d:=d) a b,0,v,e=>⟨d,by simp,by have:_=v:=Zam (by simpa using e);rw[<- this];exact a⟩
 |_,_,_,.cons a b,i+1,v,e=>by
  obtain⟨d,e1,r⟩:=fN.get b (i:=i) (by simpa using e);exact⟨d,by simpa using e1,r⟩
def fN.yI:∀{H:Hp} {vs:List V} {ds:List PyData},fN K H vs ds->vs.length=ds.length
 |_,_,_,.nil=>rfl
 |_,_,_,.cons _ r=>by rw[ZaG,ZaG,fN.yI r]
def Vals.KI{xs:List V}{us:List Value}(r:Vals xs us){i:Nat}{u:Value}(h:us[i]?=some u):∃v,xs[i]?=some v/\RelV v u:=by have hi:=(Z9.mp h).1;have hl:=r.length;obtain⟨u',hu,ru⟩:=r.get (i:=i) (x:=xs[i]'⋯) (Z8 _);rw[h]at hu;cases hu;exact⟨_,Z8 _,ru⟩
open Classical in
def xh{pins:List (Addr×Obj)}{σ:St}{H:Hp}{s:Shared}{xs:List V}{us:List Value}{ds:List PyData}{x:V}{v:Value}{dx:PyData}(hu:X.A.units+64<cLine)(I:Inv X pins σ H s)(r:Vals xs us)(hr:fN X.K H xs ds)(rx:RelV x v)(hx:Rep X.K H x dx)(c1:∀d∈ds,d.canLay0=true)(c2:dx.canLay0=true)(c3:dx.depth<=60):
  ∀u∈us,SeqAt.EqAt X.A.in1 s u v (eD us ds dx u):=by
 intro u hm;obtain⟨bs,rb⟩:=hx.reads I rx;have key:∀(i:Nat) (d:PyData),us[i]?=some u->ds[i]?=some d->SeqAt.EqAt X.A.in1 s u v (PyData.eqv d dx):=λi d h1 h2=>by
  obtain⟨y,hy,ry⟩:=r.KI h1;obtain⟨d',hd',rd⟩:=hr.get hy;rw[h2]at hd';cases hd';obtain⟨as,ra⟩:=rd.reads I ry;intro prog w E Q q;refine SeqAt.eqBoolOverData prog w X.A.in1 E s u v d dx as bs Q ra rb (c1 _ (Zab h2)) c2 ?_ q;have:X.A.in1.units<=X.A.units+2:=by
   first|exact Nat.le_add_right _ _|(show X.A.units<=_;lk)|(show X.A.units+1<=_;lk)
  lk
 obtain⟨i,hi⟩:=Zbk hm;have hl1:=r.length;have hl2:=hr.yI;have hil:=(Z9.mp hi).1;unfold eD;by_cases h:∃(i:Nat) (d:PyData),us[i]?=some u/\ds[i]?=some d/\PyData.eqv d dx=true;rw[decide_eq_true h];obtain⟨j,d,h1,h2,h3⟩:=h;have:=key j d h1 h2
 rwa [h3]at this
 rw[decide_eq_false h];have h2:ds[i]?=some (ds[i]'⋯):=Z8 _;have k:=key i _ hi h2;cases hb:PyData.eqv (ds[i]'⋯) dx with
 |true=>exact absurd ⟨i,_,hi,h2,hb⟩ h
 |false=>rwa [hb]at k
open Classical in
def yJ{xs:List V}{us:List Value}{ds:List PyData}{dx:PyData}(h1:us.length=ds.length):us.any (eD us ds dx)=ds.any λd=>PyData.eqv d dx:=by rw[Za4,List.any_eq_true,List.any_eq_true];constructor;rintro⟨u,hu,h⟩;unfold eD at h;obtain⟨i,d,_,h2,h3⟩:=of_decide_eq_true h;exact⟨d,Zab h2,h3⟩;rintro⟨d,hd,h⟩;obtain⟨i,hi⟩:=Zbk hd;have hil:=(Z9.mp hi).1;refine⟨us[i]'⋯,ZaL _,?_⟩;unfold eD;exact decide_eq_true ⟨i,d,Z8 _,hi,h⟩
abbrev yK(K:Zfr)(neg:Bool):R2:=λx y H Q=>∃p xs ds dx,y=.ref p/\(jZ K H p xs\/dr K H p xs)/\fN K H xs ds/\Rep K H x dx/\(∀d∈ds,PyData.canLay0 d=true)/\PyData.canLay0 dx=true/\PyData.depth dx<=60/\Q (.bl (if neg then !ds.any (λd=>PyData.eqv d dx)else ds.any λd=>PyData.eqv d dx)) H
def N2(hu:X.A.units+64<cLine):lN X (compareOp .NotIn) (yK X.K true):=by
 intro pins s σ H x y v u Q I rx ry h;obtain⟨p,xs,ds,dx,rfl,hq,hr,hx,c1,c2,c3,q⟩:=h;cases ry;have e2:∀{its:List Value},Vals xs its->its.toArray.any (eD its ds dx)=ds.any λd=>PyData.eqv d dx:=λ{its} r=>by
  rw[show its.toArray.any (eD its ds dx)=its.any (eD its ds dx) by simp];exact yJ (xs:=xs) (by rw[<- r.length];exact hr.yI)
 rcases hq with hq|hq
 obtain⟨its,r,pl,hz⟩:=I.list hq;refine SeqAt.notIn_listAt (eD its ds dx) pl.isList (λw hw=>xh hu I r hr rx hx c1 c2 c3 w (by simpa using hw)) ⟨.bl _,H,I,rfl,?_⟩;rw[e2 r];exact q;obtain⟨its,r,pl,hz⟩:=I.tuple hq;refine SeqAt.notIn_tupleAt (eD its ds dx) pl (λw hw=>xh hu I r hr rx hx c1 c2 c3 w (by simpa using hw)) ⟨.bl _,H,I,rfl,?_⟩;rw[e2 r];exact q
def N3(hK:X.K=K)(hu:X.A.units+64<cLine):lN X (compareOp .NotIn) (yK K true):=by subst hK;exact N2 hu
end
open Builtin.Str
def C7:Slot "reversed" "__next__" "reversed.__next__" :=
 .of (owner:="reversed") (n:="__next__") (by rw[typeLookup_type,builtinLookup_eq_fast];kernel_rfl) (by decide +kernel) (by decide +kernel) (by decide +kernel)
  (by first|exact .inl (by decide +kernel)|exact .inr (by decide +kernel)) (by rw[isSubtype_type];kernel_rfl)
def N4:Slot "reversed" "__iter__" "reversed.__iter__" :=
 .of (owner:="reversed") (n:="__iter__") (by rw[typeLookup_type,builtinLookup_eq_fast];kernel_rfl) (by decide +kernel) (by decide +kernel) (by decide +kernel)
  (by first|exact .inl (by decide +kernel)|exact .inr (by decide +kernel)) (by rw[isSubtype_type];kernel_rfl)
def N5:entryFor table "reversed.__next__" = some Builtin.«reversed.__next__»:=entryFor_of_tree (by kernel_rfl)
def N6(a:Value):argsOk "reversed.__next__" ⟨[a],[]⟩:=by unfold argsOk;kernel_rfl
def TB:entryFor table "reversed.__iter__" = some Builtin.«dict_keyiterator.__iter__» :=
 entryFor_alias (id':="dict_keyiterator.__iter__") (by kernel_rfl) (by first|rfl|decide +kernel) (by decide +kernel) (by kernel_rfl)
def TC(a:Value):argsOk "reversed.__iter__" ⟨[a],[]⟩:=by unfold argsOk;kernel_rfl
def TF:typeLookup (.type "tuple") "__reversed__" = pure none:=by rw[typeLookup_type,builtinLookup_eq_fast];kernel_rfl
def TH:typeLookup (.type "str") "__reversed__" = pure none:=by rw[typeLookup_type,builtinLookup_eq_fast];kernel_rfl
abbrev mZ(h:Heap)(a:Addr)(v:Value)(i:Int):Prop:=∃o,h.get? a=some o/\o.cls=.type "reversed" /\ o.data=.fields #[v,rawInt i]
def mZ.at{h h':Heap}{a:Addr}{v:Value}{i:Int}(x:mZ h a v i)(e:∀o,h.get? a=some o->h'.get? a=some o):mZ h' a v i:=let ⟨o,ho,r⟩:=x;⟨o,e _ ho,r⟩
section
variable {prog:Program}{w:World}{A:Around}{E:Value->Shared->Prop}{s:Shared}
def mZ.typeIs{a:Addr}{v:Value}{i:Int}(x:mZ s.heap a v i):s.TypeIs (.ref a) "reversed" := let ⟨o,ho,hc,_⟩:=x;⟨o,ho,hc⟩
def N7{it:Addr}{v:Value}{i:Int}{Q:Value->Shared->Prop}(hit:mZ s.heap it v i)(h:Q (.ref it) s):wpAny (model prog w) A (pyIter (.ref it)) Q E s:=by refine wpAny_pyIter_slot hit.typeIs N4 (wpAny_call_entry N4 hit.typeIs TB ?_ (TC _));show wpAny _ _ (ret (.ref it)) _ _ s;exact wpAny_pure ⟨_,rfl,"reversed",_,hit.typeIs,C7.lookup,h⟩
def TJ{it:Addr}{T gid:String}{v:Value}{y:Value->Prop}{i:Nat}{Q:Option Value->Shared->Prop}(hit:mZ s.heap it v (i:Int))(hT:s.TypeIs v T)(hg:typeLookup (.type T) "__getitem__" = pure (some (.builtin gid)))
  (hget:∀(A':Around) (E':Value->Shared->Prop) (Q':Value->Shared->Prop) (tk:Tok) (n:Nat),(∀z k,y z->Q' z { s with toks:=k })->wpAny (model prog w) A' (getItem v (.int i tk)) Q' E' { s with toks:=n })
  (hQ:∀x h' k,y x->mZ h' it v ((i:Int)-1)->Heap.SameBut it s.heap h'->Q (some x) { s with heap:=h',toks:=k }):wpAny (model prog w) A (pyNext (.ref it)) Q E s:=by
 obtain⟨o,ho,hc,hd⟩:=id hit;unfold pyNext
 refine wpAny_bind (wpAny_attempt (wpAny_callSpecial?_slot (name:=Str.ofString "__next__") hit.typeIs C7
  (wpAny_call_entry C7 hit.typeIs N5 ?_ (N6 _))))
 unfold Builtin.«reversed.__next__»;refine wpAny_bind (wpAny_of_eq (a:=(Value.ref it,[])) rfl ?_)
 try dsimp only
 refine wpAny_bind (wpAny_field ho hd (x:=v) rfl ?_);refine wpAny_bind (wpAny_field ho hd (x:=rawInt (i:Int)) rfl ?_);show wpAny _ _ (if(i:Int)<0 then _ else _) _ _ s;rw[if_neg ⋯];refine wpAny_bind (wpAny_specialOf hT hg ?_)
 try dsimp only
 rw[if_neg (by simp)];refine wpAny_bind (wpAny_mkInt ?_);refine wpAny_bind (wpAny_attempt (hget _ _ _ _ _ λx k hx=>?_));show wpAny _ _ (field (.ref it) 1 >>= _) _ _ _;refine wpAny_bind (wpAny_field ho hd (x:=rawInt (i:Int)) rfl ?_);refine wpAny_bind (wpAny_setField ho hd (by simp) ?_)
 first
 |refine wpAny_pure ⟨x,rfl,wpAny_pure (hQ _ _ _ hx ?_ (Zbd ..))⟩
 |refine wpAny_pure ⟨x,rfl,wpAny_bind (wpAny_pure (wpAny_pure (hQ _ _ _ hx ?_ (Zbd ..))))⟩
 exact⟨_,Zbg _ ho (Obj.isFreed_of_fields (Obj.data_mapFields hd _)),(Obj.cls_mapFields ..).trans hc,by rw[Obj.data_mapFields hd];simp[rawInt]⟩
def TK{it:Addr}{v:Value}{i:Int}{Q:Option Value->Shared->Prop}(hh:A.handled=none)(hit:mZ s.heap it v i)(hi:i<0)
  (hQ:∀h',Heap.ExtBut it s.heap h'->Q none { s with heap:=h' }):wpAny (model prog w) A (pyNext (.ref it)) Q E s:=by
 obtain⟨o,ho,hc,hd⟩:=id hit;unfold pyNext
 refine wpAny_bind (wpAny_attempt (wpAny_callSpecial?_slot (name:=Str.ofString "__next__") hit.typeIs C7
  (wpAny_call_entry C7 hit.typeIs N5 ?_ (N6 _))))
 unfold Builtin.«reversed.__next__»;refine wpAny_bind (wpAny_of_eq (a:=(Value.ref it,[])) rfl ?_)
 try dsimp only
 refine wpAny_bind (wpAny_field ho hd (x:=v) rfl ?_);refine wpAny_bind (wpAny_field ho hd (x:=rawInt i) rfl ?_);show wpAny _ _ (if i<0 then _ else _) _ _ s;rw[if_pos hi];refine wpAny_bind (wpAny_rule ?_);refine wpAny_bind ?_;show wpAny _ _ (setField (.ref it) 1 (rawInt (-1)) >>= λ_=>setField (.ref it) 0 .none) _ _ _;refine wpAny_bind (wpAny_setField ho hd (by simp) ?_);have G8:=Zbg (Obj.mapFields λx=>x.setIfInBounds 1 (rawInt (-1))) ho (Obj.isFreed_of_fields (Obj.data_mapFields hd _));have hd1:=Obj.data_mapFields hd (λx=>x.setIfInBounds 1 (rawInt (-1)));refine wpAny_setField G8 hd1 (by simp) ?_
 first
 |show wpAny _ _ (newExc (.type "StopIteration") [] >>= _) _ _ _
 |(refine wpAny_bind ?_;show wpAny _ _ (newExc (.type "StopIteration") [] >>= _) _ _ _)
 refine wpAny_bind ?_;simp only[newExc,newTuple];refine wpAny_bind (wpAny_newObj_type ?_ (by size_fits));refine wpAny_bind (m:=firstArgMember _ _) (wpAny_of_eq (a:=Value.none) (by first|rfl|(simp only[firstArgMember];rfl)) ?_);refine wpAny_newObj_type ?_ (by size_fits);simp only[raiseNew];refine wpAny_bind (wpAny_handled ?_)
 first|rw[show A.in1.handled=none from hh]|rw[hh]
 refine wpAny_bind (wpAny_pure (wpAny_throw ?_));refine wpAny_bind (wpAny_isInstance (T:="StopIteration") (b:=true) ⟨_,Zar _ rfl,rfl⟩ isSubtype_stop ?_);refine wpAny_pure (hQ _ ?_);have x2:Heap.ExtBut it s.heap ((s.heap.update it (Obj.mapFields λx=>x.setIfInBounds 1 (rawInt (-1)))).update it (Obj.mapFields λx=>x.setIfInBounds 0 .none)):=λc o hc e=>(Zbd ..).extBut c o hc ((Zbd ..).extBut c o hc e);exact(x2.push _).push _
end
abbrev N8(K:Zfr)(src:ZS)(n:Nat):It:=⟨λi H=>i<n/\∃v,src.has K H (n-1-i) v,λi H x H'=>H'=H/\∀v,src.has K H (n-1-i) v->v=x,λi _=>i=n⟩
def ZS.got{X:Cx}{pins:List (Addr×Obj)}{σ:St}{H:Hp}{s:Shared}{src:ZS}{u:Value}{x:V}{i:Nat}{v:V}(I:Inv X pins σ H s)(r:RelV x u)(hv:src.val X.K H x)(nl:∀a,src≠.lst a)(hs:∀z,src=.str z->z.length<=sizeLine)(h:src.has X.K H i v):
  ∃(T gid:String) (y:Value->Prop),s.TypeIs u T/\typeLookup (.type T) "__getitem__" = pure (some (.builtin gid))/\(∀z,y z->RelV v z) /\
   ∀(A':Around) (E':Value->Shared->Prop) (Q':Value->Shared->Prop) (tk:Tok) (n:Nat),(∀z k,y z->Q' z { s with toks:=k })->wpAny (model X.prog X.w) A' (getItem u (.int i tk)) Q' E' { s with toks:=n }:=by
 have hn:=mS;cases src with
 |lst a=>exact absurd rfl (nl a)
 |tup a =>
  obtain⟨rfl,xs,hq⟩:=hv;obtain⟨xs',hq',hx⟩:=h;rw[I.iY hq' hq]at hx;cases r;obtain⟨its,rv,pl,hz⟩:=I.tuple hq;obtain⟨w,ew,rw'⟩:=rv.get hx;have hl:=rv.length;have hi:=(Z9.mp hx).1;refine⟨"tuple",_,λz=>z=w,pl.typeIs,slot_tuple_getitem.lookup,λz e=>e ▸ rw',λA' E' Q' tk n hq'=>?_⟩;exact getItem_tuple (s:={ s with toks:=n }) (j:=i) pl ⋯ ⋯ (by rw[Zak];exact seqIndex_of ⋯ ⋯) (by simpa using ew) (hq' w n rfl)
 |str z =>
  cases hv;obtain⟨c,hx,rfl⟩:=h;obtain⟨t,rfl⟩:=r;have hi:=(Array.getElem?_eq_some_iff.mp hx).1;have hl:z.length=z.cps.size:=rfl;have ZJ:=hs z rfl;refine⟨"str",_,λy=>∃t,y=.str ⟨#[c]⟩ t,typeIs_str s z t,slot_str_getitem.lookup,λy hy=>hy,λA' E' Q' tk n hq'=>?_⟩
  refine getItem_str (s:={ s with toks:=n }) (c:=c) (by
   have e1:decide ((i:Int) < -(2 ^ 63:Int))=false:=decide_eq_false ⋯;have e2:decide ((i:Int) >= 2 ^ 63)=false:=decide_eq_false ⋯
   rw[e1,e2,Bool.or_false]) (by rw[seqIndex_of ⋯ ⋯];simpa using hx) (hq' _ _ ⟨_,rfl⟩)
def TL{P:Program}{w:World}{K:Zfr}{tg:Expr}(src:ZS)(u:Value)(n:Nat)(it:Addr)(nl:∀a,src≠.lst a)(hs:∀z,src=.str z->z.length<=sizeLine)(x:V)(rx:RelV x u)(hsv:∀(H:Hp) (v:V) (i:Nat),src.has K H i v->src.val K H x):
  Turn P w K tg (N8 K src n) [it] it (λi h=>mZ h it u ((n:Int)-1-(i:Nat))) where
 mem:=by simp
 obj:=λi h st b hb=>by
  have e:b=it:=by simpa using hb
  subst e;obtain⟨o,e,c,d⟩:=st;exact⟨o,e,λv z=>by rw[d]at z;cases z⟩
 keep:=λi h h' st k=>st.at λo e=>k it (by simp) o e
 item:=by
  intro X hP hw hK hc i pins s σ H E I hf st hg;subst hP hw hK;obtain⟨hin,v,hv⟩:=hg;obtain⟨f0,f1,f2,f3,f4,f5⟩:=hf it (by simp);obtain⟨T,gid,y,hT,hl,hy,hget⟩:=ZS.got I rx (hsv H v _ hv) nl hs hv;have st':mZ s.heap it u ((n-1-i:Nat):Int):=by
   have e:((n-1-i:Nat):Int)=(n:Int)-1-(i:Nat):=by lk
   rw[e];exact st
  refine TJ st' hT hl hget λz h' tk hz hr sb=>?_;have I1:Inv X pins σ H { s with heap:=h',toks:=tk }:=I.turned (λb o hb e=>(sb.2 b hb).trans e) f0 f1 f3 f4 f5;have hr':mZ h' it u ((n:Int)-1-((i+1:Nat):Int)):=by
   have e:(n:Int)-1-((i+1:Nat):Int)=((n-1-i:Nat):Int)-1:=by lk
   rw[e];exact hr
  obtain⟨o,e,c,d⟩:=id hr;exact⟨z,rfl,GL (s:={ s with heap:=h',toks:=tk }) e c d ∅ ⟨v,H,I1,hy z hz,⟨rfl,λv' hv'=>ZS.vD I hv hv'⟩,hr',λb hb=>(hf b hb).1⟩⟩
 done:=by
  intro X hP hw hK hc i pins s σ H E I hf st hg;subst hP hw hK;have hg:i=n:=hg;subst hg;obtain⟨f0,f1,f2,f3,f4,f5⟩:=hf it (by simp);exact TK (I.ok.hd hc) st ⋯ λh' eb=>⟨rfl,I.turned (t':=s.toks) (λb o hb e=>eb b o hb e) f0 f1 f3 f4 f5⟩
 self:=λ_ _ _ _ _ st h=>N7 st h
def TM:Slot "reversed" "__init__" "object.__init__" :=
 .of (owner:="object") (n:="__init__") (by rw[typeLookup_type,builtinLookup_eq_fast];kernel_rfl) (by decide +kernel) (by decide +kernel) (by decide +kernel)
  (by first|exact .inl (by decide +kernel)|exact .inr (by decide +kernel)) (by rw[isSubtype_type];kernel_rfl)
def N9:TypeCalled "reversed" "reversed.__new__" "object.__init__" :=
 ⟨by decide +kernel,by decide +kernel,⟨_,_,F.mro_reversed⟩,F.made_reversed,by decide +kernel,by rw[isSubtype_type];kernel_rfl,TM⟩
def Oa{u:Value}{T gid:String}{n:Nat}(h0:typeLookup (.type T) "__reversed__" = pure none)(h1:typeLookup (.type T) "__getitem__" = pure (some (.builtin gid)))(hsub:isSubtype (.type T) (.type "dict")=pure false)
  (KJ:["tuple.__getitem__","str.__getitem__","bytes.__getitem__","bytearray.__getitem__","memoryview.__getitem__","numpy.ndarray.__getitem__","sqlite3.Row.__getitem__"].contains gid=true) :
  Meets (Builtin.«reversed.__new__» ⟨[.type "reversed",u],[]⟩) (λ_ R s=>s.TypeIs u T /\
   (∀(prog:Program) (w:World) (A':Around) (E':Value->Shared->Prop) (Q':Value->Shared->Prop),(∀t k,Q' (.int n t) { s with toks:=k })->wpAny (model prog w) A' (call (.builtin "len") [u]) Q' E' s) /\
   ∀k,R (.ok (.ret (.ref s.heap.objs.size))) { s with heap:=s.heap.push { cls:=.type "reversed",data:=.fields #[u,rawInt ((n:Int)-1)] },toks:=k }) :=
 .of_wp λprog w A R s h=>by
 obtain⟨hT,hlen,h⟩:=h;unfold Builtin.«reversed.__new__»;refine wpAny_bind (wpAny_of_eq (newClass_reversed _) ?_)
 try dsimp only
 refine wpAny_bind (wpAny_of_eq (a:=()) (by first|rfl|kernel_rfl) ?_);refine wpAny_bind (wpAny_of_eq (a:=()) (by first|rfl|kernel_rfl) ?_)
 try dsimp only
 refine wpAny_bind (wpAny_specialOf hT h0 ?_)
 try dsimp only
 refine wpAny_bind ?_;show wpAny _ _ (isInstance u (.type "dict") >>= _) _ _ _;refine wpAny_bind (wpAny_isInstance (b:=false) hT hsub ?_);rw[if_neg Zaj];refine wpAny_bind (wpAny_specialOf hT h1 ?_);show wpAny _ _ (if["tuple.__getitem__","str.__getitem__","bytes.__getitem__","bytearray.__getitem__","memoryview.__getitem__","numpy.ndarray.__getitem__","sqlite3.Row.__getitem__"].contains gid=true then _ else _) _ _ _;rw[if_pos KJ];refine wpAny_pure ?_;rw[if_neg (by simp)];refine wpAny_bind (hlen _ _ _ _ _ λt k=>?_);refine wpAny_bind (wpAny_of_eq (a:=some (n:Int)) rfl ?_)
 try dsimp only
 refine wpAny_bind ?_;show wpAny _ _ (newObj (.type "reversed") (.fields #[u,rawInt ((n:Int)-1)])) _ _ _;refine wpAny_newObj_type ?_;exact wpAny_pure ⟨_,rfl,h k⟩
def TN:isSubtype (.type "tuple") (.type "dict")=pure false:=by rw[isSubtype_type];kernel_rfl
def TQ:isSubtype (.type "str") (.type "dict")=pure false:=by rw[isSubtype_type];kernel_rfl
abbrev C8(K:Zfr)(ta:TA):TI:=λσ H R=>ta σ H λvs H1=>∃(x:V) (src:ZS) (n:Nat),vs=[x]/\src.val K H1 x/\src.fin K H1 n/\(∀a,src≠.lst a)/\(∀z,src=.str z->z.length<=sizeLine)/\R (N8 K src n) H1
def yL{X:Cx}{tg l:Expr}{ta:TA}{p pos:Pos}(hg:Gl X "reversed")(hm:X.mg "reversed" = none)(ha:PA X [l] ta)(hs:starEach [l] X.env=[(false,eval l X.env)]:=by rfl):
  PI X tg (.Call (.Name "reversed" p) [l] [] pos) (C8 X.K ta):=by
 intro pins s σ H R I h;refine Call_ (A7 I hg hm S0 (PyProof.Rows.callWith_type1 (b8 (ha pos pins s σ H _ I h) λus s1 ⟨vs,H1,I1,r1,q1⟩=>?_) hs rfl));obtain⟨x,src,n,e,hv,hn,nl,hz,q⟩:=q1;subst e;obtain⟨u,rfl,r⟩:=vals1 r1;have ZK:=mS;have hsv:∀(H:Hp) (v:V) (i:Nat),src.has X.K H i v->src.val X.K H x:=λH v i hh=>by
  cases src with
  |tup a=>obtain⟨xs,h1,_⟩:=hh;exact⟨hv.1,xs,h1⟩
  |lst a=>exact absurd rfl (nl a)
  |str z=>exact hv
 have fin:∀k,wpAny (model X.prog X.w) X.A (pyIter (.ref s1.heap.objs.size)) (J2 X pins σ tg R) X.xe { s1 with heap:=s1.heap.push { cls:=.type "reversed",data:=.fields #[u,rawInt ((n:Int)-1)] },toks:=k }:=λk=>by
  have g:mZ (s1.heap.push { cls:=.type "reversed",data:=.fields #[u,rawInt ((n:Int)-1)] }) s1.heap.objs.size u ((n:Int)-1-(0:Nat)):=⟨_,Zar _ rfl,rfl,by simp⟩;refine N7 g ?_;refine⟨s1.heap.objs.size,[s1.heap.objs.size],_,_,H1,rfl,I1.kept (t':=k) λb o e=>Zai _ e,TL src u n _ nl hz x r hsv,g,λb hb=>?_,q⟩;have e:b=s1.heap.objs.size:=by simpa using hb
  subst e;exact I1.qC (Zaa _) (I1.hok.fresh (Zaa _))
 cases src with
 |lst a=>exact absurd rfl (nl a)
 |tup a =>
  obtain⟨rfl,xs,hq⟩:=id hv;obtain⟨xs',hq',hx⟩:=hn;have hx:xs.length=n:=by rw[<- I1.iY hq' hq];exact hx
  cases r;obtain⟨its,rv,pl,hz'⟩:=I1.tuple hq;have hl:=rv.length;refine callType_new N9 ∅ (F.typeCall_reversed_1 _) (F.newCall_reversed_1 _) (λobj=>F.args_object_init_2 obj _) F.entry_reversed_new (Oa (n:=n) TF slot_tuple_getitem.lookup TN ∅) ⟨pl.typeIs,λprog w A' E' Q' hq=>?_,λk=>⟨⟨_,Zar _ rfl,rfl⟩,fin k⟩⟩;have e:its.toArray.size=n:=by rw[Zak];lk
  refine len_tuple pl (by rw[e];lk) ?_;rw[e];exact hq _ _
 |str z =>
  cases hv;have hn:z.length=n:=hn;have:=hz z rfl;obtain⟨t,rfl⟩:=r;refine callType_new N9 ∅ (F.typeCall_reversed_1 _) (F.newCall_reversed_1 _) (λobj=>F.args_object_init_2 obj _) F.entry_reversed_new (Oa (n:=n) TH slot_str_getitem.lookup TQ ∅) ⟨typeIs_str _ z t,λprog w A' E' Q' hq=>?_,λk=>⟨⟨_,Zar _ rfl,rfl⟩,fin k⟩⟩;refine len_str ⋯ ?_;rw[hn];exact hq _ _
end L2
namespace L2
open PySem PySem.Spec PyProof.Rows
open Builtin
end L2
namespace L2
open PySem PySem.Spec PyProof.Rows
section
variable {prog:Program}{w:World}{A:Around}{E:Value->Shared->Prop}{s:Shared}
abbrev lI(h:Heap)(d:Addr)(es:Array DictEntry)(ep:Nat):Prop:=∃od,h.get? d=some od/\od.ExactDict/\od.data=.dict es ep
end
abbrev DU(a:Addr)(xs:List (List Int×Addr×Value)):HO:=.ext λh=>(a == sysModules)=false/\xs.length<=sizeLine/\∃o es ep,h.get? a=some o/\o.ExactDict/\o.data=.dict es ep /\
 (∃(P:Program) (w:World),es.toList=xs.map (entryOfKey (tupleKind (intKind P w))))/\(xs.map (·.1)).Nodup
def xi{P:Program}{w:World}{H:Hp}{h:Heap}{a:Addr}{xs:List (List Int×Addr×Value)}(hd:(a == sysModules)=false)(hl:xs.length<=sizeLine){o:Obj}{es:Array DictEntry}{ep:Nat}(h1:h.get? a=some o)(h2:o.ExactDict)(h3:o.data=.dict es ep)
  (h4:es.toList=xs.map (entryOfKey (tupleKind (intKind P w)))) (h5:(xs.map (·.1)).Nodup):cb P w H h a (DU a xs) :=
 ⟨⟨hd,hl,o,es,ep,h1,h2,h3,⟨P,w,h4⟩,h5⟩,⟨o,h1⟩,λg1 g2 ⟨c1,c2,u,KL,TR,c3,c4⟩ k=>⟨c1,c2,u,KL,TR,k _ c3,c4⟩⟩
def Ob{P:Program}{w:World}:∀{ks:List Int} {us:List Value},Vals (ks.map V.int) us->ItemsAre (intKind P w) ks us
 |[],_,r=>by rw[ZaH]at r;cases r;exact .nil
 |k :: ks,_,r=>by
  rw[Zaq]at r;cases r with
  |@cons a b as bs h t =>
   obtain⟨t',e⟩:=(show∃t,b=Value.int k t from h);subst e;refine .cons ?_ (Ob t);show Value.isInt k (.int k t')=true;simp[Value.isInt]
section
variable {X:Cx}{pins:List (Addr×Obj)}{σ:St}{H:Hp}{s:Shared}{a b:Addr}{k:List Int}{xs:List (List Int×Addr×Value)}
def Inv.vE(I:Inv X pins σ H s)(q:dr X.K H b (k.map V.int)):(tupleKind (intKind X.prog X.w)).is s.heap k b:=by obtain⟨its,r,⟨o,h1,h2,_,n,h3⟩,_⟩:=I.pk q;exact⟨o,its.toArray,n,h1,h2,h3,by simpa using Ob r⟩
abbrev KN(K:Zfr)(H:Hp)(a:Addr)(y:V)(xs:List (List Int×Addr×Value))(k:List Int):Prop :=
 (∃b,y=.ref b/\dr K H b (k.map V.int))/\H a=some (DU a xs)/\∀x∈xs,dr K H x.2.1 (x.1.map V.int)
def Inv.du(I:Inv X pins σ H s)(e:H a=some (DU a xs))(hk:∀x∈xs,dr X.K H x.2.1 (x.1.map V.int)):(a == sysModules)=false/\xs.length<=sizeLine/\s.heap.DictOfH (tupleKind (intKind X.prog X.w)) a xs:=by obtain⟨⟨h1,h2,o,es,ep,h3,h4,h5,⟨P,w,h6⟩,h7⟩,_⟩:=(show cb X.prog X.w H s.heap a (DU a xs)from I.hok a _ e);exact⟨h1,h2,o,es,ep,h3,h4,h5,h6,λx hx=>I.vE (hk x hx),h7⟩
end
abbrev xj:TE:=λ_ H Q=>∀p,H p=none->Q (.ref p) (upd H p (DU p []))
abbrev xk(K:Zfr)(td ty:TE):TE:=λσ H Q=>td σ H λx H1=>ty σ H1 λy H2=>∃a xs k p v,x=.ref a/\KN K H2 a y xs k/\atKey xs k=some p/\RelV v p.2/\Q v H2
abbrev C9(K:Zfr)(ty td:TE):TE:=λσ H Q=>ty σ H λy H1=>td σ H1 λx H2=>∃a xs k,x=.ref a/\KN K H2 a y xs k/\Q (.bl (atKey xs k).isSome) H2
abbrev xl(K:Zfr)(td ty tv:TE):TS:=λD σ H=>tv σ H λv H1=>td σ H1 λx H2=>ty σ H2 λy H3=>∃a b xs k,x=.ref a/\y=.ref b/\KN K H3 a y xs k/\xs.length<sizeLine/\∀r,RelV v r->D.nx σ (upd H3 a (DU a (storedH xs k b r)))
def TU(xs:List (List Int×Addr×Value))(k:List Int)(b:Addr)(r:Value):(storedH xs k b r).length<=xs.length+1:=by unfold storedH;split;rw[Z7];lk;rw[Zaf];simp
section
variable {X:Cx}{o i e value:Expr}{pos pos' tpos:Pos}{td ty tv:TE}
def TV:PE X (.Dict [] [] pos) xj:=λpins s σ H Q I h =>
 wpAny_Dict_empty ⟨.ref s.heap.objs.size,_,I.laid (a:=s.heap.objs.size) (o:=DU s.heap.objs.size []) (t':=s.toks) (λ_ _ q=>Zai _ q) (Zaa _)
  (xi (beq_eq_false_iff_ne.mpr (Ne.symm (ZaU I.big))) (ZaM _) (es:=#[]) (ep:=0) (Zar _ rfl) ⟨rfl,rfl,rfl⟩ rfl rfl Zct),rfl,h _ (I.hok.fresh (Zaa _))⟩
def Oc(hu:X.A.units+1<cLine)(ho:PE X o td)(hi:PE X i ty)(hs:CQ i):PE X (.Subscript o i pos) (xk X.K td ty):=by intro pins s σ H Q I h;refine SK PySem.F.slot_dict_getitem.lookup hs (b8 (ho pins s σ H _ I h) λu s1 ⟨x,H1,I1,rx,q1⟩=>b8 (hi pins s1 σ H1 _ I1 q1) λiv s2 ⟨y,H2,I2,ry,a,xs,k,p,v,ex,⟨⟨b,ey,eb⟩,ea,hk⟩,hp,rv,q2⟩=>?_);subst ex ey;obtain rfl:u=Value.ref a:=rx;obtain rfl:iv=Value.ref b:=ry;obtain⟨hd,hl,dd⟩:=I2.du ea hk;exact⟨dd.typeIs,wpAny_getItem_heap (tupleKind_room_in1 hu) (I2.vE eb) dd hp ⟨v,H2,I2.tok _,rv,q2⟩⟩
def yM(hu:X.A.units+1<cLine)(hi:PE X i ty)(ho:PE X o td):PC X .In i o (C9 X.K ty td):=by intro pins s σ H Q I h;refine b8 (hi pins s σ H _ I h) λiv s1 ⟨y,H1,I1,ry,q1⟩=>b8 (ho pins s1 σ H1 _ I1 q1) λu s2 ⟨x,H2,I2,rx,a,xs,k,ex,⟨⟨b,ey,eb⟩,ea,hk⟩,q2⟩=>?_;subst ex ey;obtain rfl:u=Value.ref a:=rx;obtain rfl:iv=Value.ref b:=ry;obtain⟨hd,hl,dd⟩:=I2.du ea hk;exact wpAny_in_heap (tupleKind_room_in1 hu) (I2.vE eb) hd dd ⟨.bl _,H2,I2.tok _,rfl,q2⟩
def TX(hu:X.A.units+1<cLine)(ho:PE X o td)(hi:PE X i ty)(hv:PE X value tv)(hs:swapsWith value (some (.Subscript o i pos')) pos.line X.env=pure false):
  PS X (.Assign [.Subscript o i pos'] value pos) (xl X.K td ty tv):=by
 intro pins s σ H D I h;refine wpAny_Assign_Subscript (b8 (hv pins s σ H _ I h) λr s1 ⟨v,H1,I1,rv,q1⟩=>b8 (ho pins s1 σ H1 _ I1 q1) λu s2 ⟨x,H2,I2,rx,q2⟩=>b8 (hi pins s2 σ H2 _ I2 q2) λiv s3 ⟨y,H3,I3,ry,a,b,xs,k,ex,ey,⟨⟨b',TY,eb⟩,ea,hk⟩,hl,q3⟩=>?_) hs;subst ex ey;cases TY;obtain rfl:u=Value.ref a:=rx;obtain rfl:iv=Value.ref b:=ry;obtain⟨hd,hz,dd⟩:=I3.du ea hk;refine wpAny_setItem_heap (hsz:=hz) (tupleKind_room_in1 hu) (I3.vE eb) dd λh' Bg hs=>⟨σ,_,?_,q3 r rv⟩;obtain⟨q,es,ep,hq,h2,h3,h4,_,h5⟩:=Bg;exact Kj I3 (by rw[ea];exact True.intro) hs ⟨q,hq⟩ (xi hd (by have:=TU xs k b r;lk) hq h2 h3 h4 h5)
end
end L2
namespace L2
open PySem PySem.Spec PyProof.Rows PySem.SeqAt PySem.MeetsSeq
abbrev pB(A:Around)(s:Shared)(y x:Value)(r:Bool):Prop:=∀(prog:Program) (w:World) (E Q:Value->Shared->Prop),Q (.bool r) s->wpAny (model prog w) A (richCompare .Lt y x) Q E s
abbrev cO(e lt:Nat->Bool)(fin:Bool):List Nat->Bool
 |[]=>fin
 |i :: r=>if e i then cO e lt fin r else lt i
def T1(l m:Addr)(a b:Array Value)(n1 n2:Nat)(d1 d2:Option Addr)(s1 s2:Array (Option Value))(e lt:Nat->Bool):
  Meets (Builtin.«tuple.__lt__» ⟨[.ref l,.ref m],[]⟩) (λA R s=>s.heap.get? l=some { cls:=.type "tuple",dict:=d1,data:=.seq a n1,slots:=s1 }/\s.heap.get? m=some { cls:=.type "tuple",dict:=d2,data:=.seq b n2,slots:=s2 } /\
    (∀j (h1:j<a.size) (h2:j<b.size),EqAt A.in1 s a[j] b[j] (e j))/\(∀j (h1:j<a.size) (h2:j<b.size),e j=false->pB A.in1 s a[j] b[j] (lt j))/\R (.ok (.ret (.bool (cO e lt (decide (a.size<b.size)) (List.range (min a.size b.size)))))) s) :=
 .of_wp λprog w A R s h=>by
  obtain⟨hp,g,d,tk,os⟩:=s;obtain⟨hl,hm,he,hlt,h⟩:=h;have f2:=AutoSeq1.sub_tuple_tuple;have hZ:(a.toList.zip b.toList).length=min a.size b.size:=by simp
  wp_walk using wpAny_loadPart' hl,wpAny_loadPart' hm,wpAny_forIn_list _ (λrest q s'=>q.1=none/\s'=⟨hp,g,d,tk,os⟩/\∃i,rest=(a.toList.zip b.toList).drop i/\R (.ok (.ret (.bool (cO e lt (decide (a.size<b.size)) ((List.range (min a.size b.size)).drop i))))) ⟨hp,g,d,tk,os⟩) _
  case turn =>
   rintro⟨y,x⟩ rest q s' ⟨hq,rfl,i,hz,hR⟩;have hil:i<(a.toList.zip b.toList).length:=by
    rcases Nat.lt_or_ge i (a.toList.zip b.toList).length with k|k
    ·exact k
    ·rw[Zcd k]at hz;cases hz
   have hmn:i<min a.size b.size:=hZ ▸ hil;have g1:i<a.size:=by lk
   have g2:i<b.size:=by lk
   rw[ZbG hil]at hz;injection hz with hyx hrest;have hy:y=a[i]:=by simpa using congrArg Prod.fst hyx
   have hx:x=b[i]:=by simpa using congrArg Prod.snd hyx
   subst hy hx;have hd:(List.range (min a.size b.size)).drop i=i :: (List.range (min a.size b.size)).drop (i+1):=by simp[ZbG,hmn]
   rw[hd,cO]at hR;refine wpAny_bind (he i g1 g2 prog w _ _ ?_);cases hei:e i with
   |true =>
    rw[hei]at hR
    wp_walk
    exact⟨rfl,rfl,i+1,hrest,hR⟩
   |false =>
    rw[hei]at hR;refine wpAny_bind (wpAny_rule (wpAny_bind (hlt i g1 g2 hei prog w _ _ ?_)))
    wp_walk
    exact⟨_,rfl,hR⟩
  case fin =>
   rintro⟨q1,q2⟩ s' ⟨hq,rfl,i,hz,hR⟩;simp only at hq;subst hq;have hge:min a.size b.size<=i:=by
    rcases Nat.lt_or_ge i (a.toList.zip b.toList).length with k|k
    ·rw[ZbG k]at hz;cases hz
    ·exact hZ ▸ k
   rw[Zcd (by simpa using hge),cO]at hR
   wp_walk
   exact⟨_,rfl,by simpa[Builtin.Tuple.tupleCompareSizes]using hR⟩
  case h =>
   exact⟨rfl,rfl,0,rfl,by simpa using h⟩
def pB.tuples{A:Around}{s:Shared}{l m:Addr}{a b:Array Value}{e lt:Nat->Bool}(hl:s.heap.IsTuple l a)(hm:s.heap.IsTuple m b)(hu:A.units<cLine)
  (he:∀j (h1:j<a.size) (h2:j<b.size),EqAt A.in1 s a[j] b[j] (e j)) (hlt:∀j (h1:j<a.size) (h2:j<b.size),e j=false->pB A.in1 s a[j] b[j] (lt j)) :
  pB A s (.ref l) (.ref m) (cO e lt (decide (a.size<b.size)) (List.range (min a.size b.size))):=λprog w E Q h=>by
 obtain⟨⟨c1,d1,t1,s1⟩,o1,k1,n1,j1⟩:=hl;obtain⟨⟨c2,d2,t2,s2⟩,o2,k2,n2,j2⟩:=hm;simp only at k1 j1 k2 j2;subst k1 j1 k2 j2;exact richCompare_meets_room (op:=.Lt) ⟨_,o1,rfl⟩ ⟨_,o2,rfl⟩ F.slot_tuple_lt F.entry_tuple_lt (F.args_tuple_lt_2 _ _) (T1 l m a b n1 n2 d1 d2 s1 s2 e lt)
  ⟨o1,o2,he,hlt,show Value.bool (cO e lt (decide (a.size<b.size)) (List.range (min a.size b.size)))≠Value.notImplemented/\Q (.bool (cO e lt (decide (a.size<b.size)) (List.range (min a.size b.size)))) s from⟨(λx=>nomatch x),h⟩⟩ hu
mutual
abbrev md:PyData->PyData->Bool
 |.int a,.int b=>decide (a<b)
 |.tuple xs,.tuple ys=>cf xs ys
 |_,_=>false
abbrev cf:List PyData->List PyData->Bool
 |[],[]=>false
 |[],_ :: _=>true
 |_ :: _,[]=>false
 |x :: xs,y :: ys=>if PyData.eqv x y then cf xs ys else md x y
end
mutual
abbrev gE:PyData->PyData->Bool
 |.int _,.int _=>true
 |.tuple xs,.tuple ys=>cm xs ys
 |_,_=>false
abbrev cm:List PyData->List PyData->Bool
 |[],_=>true
 |_ :: _,[]=>true
 |x :: xs,y :: ys=>gE x y && cm xs ys
end
def Oe(e lt:Nat->Bool)(fin:Bool)(f:Nat->Nat):∀l:List Nat,cO e lt fin (l.map f)=cO (λi=>e (f i)) (λi=>lt (f i)) fin l
 |[]=>rfl
 |i :: r=>by
  show(if e (f i)then cO e lt fin (r.map f)else lt (f i))=if e (f i)then _ else lt (f i)
  rw[Oe e lt fin f r]
abbrev qL(xs ys:List PyData)(j:Nat):Bool:=md (xs.getD j .none) (ys.getD j .none)
def Og:∀xs ys:List PyData,cO (pairEq xs ys) (qL xs ys) (decide (xs.length<ys.length)) (List.range (min xs.length ys.length))=cf xs ys
 |[],[]=>rfl
 |[],_ :: _=>by simp[cO,cf]
 |_ :: _,[]=>by simp[cO,cf]
 |x :: xs,y :: ys=>by
  have ih:=Og xs ys;have e1:min (x :: xs).length (y :: ys).length=min xs.length ys.length+1:=by simp only[ZaG];lk
  have e2:decide ((x :: xs).length<(y :: ys).length)=decide (xs.length<ys.length):=by simp
  rw[e1,e2,List.range_succ_eq_map,cO,Oe];show(if PyData.eqv x y then cO (pairEq xs ys) (qL xs ys) (decide (xs.length<ys.length)) (List.range (min xs.length ys.length))else md x y)=_;rw[ih,cf]
mutual
def KO:∀(da db:PyData) (A:Around) (s:Shared) (a b:Value) (as bs:List Addr),Reads s.heap a da as->Reads s.heap b db bs->gE da db=true->da.canLay0=true->db.canLay0=true->A.units+min da.depth db.depth<cLine->pB A s a b (md da db)
 |.int x,.int y,A,s,_,_,_,_,ra,rb,_,_,_,_=>by
  cases ra with
  |int _ t =>
   cases rb with
   |int _ u=>exactλprog w E Q h=>richCompare_gives (op:=.Lt) (typeIs_int s _ t) (typeIs_int s _ u) F.slot_int_lt F.entry_int_lt (F.args_int_lt_2 _ _) (gives_int_lt _ _ t u) (λx=>nomatch x) h
 |.tuple xs,.tuple ys,A,s,_,_,_,_,ra,rb,ok,ha,hb,hu=>by
  cases ra with
  |@tuple l o vs n _ Oh h1 h2 h3 h4 =>
   cases rb with
   |@tuple l' o' vs' n' _ T2 k1 k2 k3 k4 =>
    have t1:s.heap.IsTuple l vs:=⟨_,h1,h2,_,h3⟩;have t2:s.heap.IsTuple l' vs':=⟨_,k1,k2,_,k3⟩;have n1:vs.size=xs.length:=by simpa using ReadsAll.length _ _ _ h4
    have n2:vs'.size=ys.length:=by simpa using ReadsAll.length _ _ _ k4
    show pB A s (.ref l) (.ref l') (cf xs ys);rw[<- Og xs ys,<- n1,<- n2];refine pB.tuples t1 t2 (room_here hu) (λj j1 j2=>?_) (λj j1 j2 _=>?_);have z:=eqAt_readsAll xs ys A.in1 s vs.toList vs'.toList _ _ h4 k4 ha hb (room_in hu) j (by simpa using j1) (by simpa using j2);simpa using z;have z:=Oi xs ys A.in1 s vs.toList vs'.toList _ _ h4 k4 ok ha hb (room_in hu) j (by simpa using j1) (by simpa using j2);simpa using z
 |.int _,.none,_,_,_,_,_,_,_,_,ok,_,_,_=>nomatch ok
 |.int _,.bool _,_,_,_,_,_,_,_,_,ok,_,_,_=>nomatch ok
 |.int _,.str _,_,_,_,_,_,_,_,_,ok,_,_,_=>nomatch ok
 |.int _,.list _,_,_,_,_,_,_,_,_,ok,_,_,_=>nomatch ok
 |.int _,.tuple _,_,_,_,_,_,_,_,_,ok,_,_,_=>nomatch ok
 |.int _,.dict _,_,_,_,_,_,_,_,_,ok,_,_,_=>nomatch ok
 |.tuple _,.none,_,_,_,_,_,_,_,_,ok,_,_,_=>nomatch ok
 |.tuple _,.bool _,_,_,_,_,_,_,_,_,ok,_,_,_=>nomatch ok
 |.tuple _,.int _,_,_,_,_,_,_,_,_,ok,_,_,_=>nomatch ok
 |.tuple _,.str _,_,_,_,_,_,_,_,_,ok,_,_,_=>nomatch ok
 |.tuple _,.list _,_,_,_,_,_,_,_,_,ok,_,_,_=>nomatch ok
 |.tuple _,.dict _,_,_,_,_,_,_,_,_,ok,_,_,_=>nomatch ok
 |.none,_,_,_,_,_,_,_,_,_,ok,_,_,_=>by simp[gE]at ok
 |.bool _,_,_,_,_,_,_,_,_,_,ok,_,_,_=>by simp[gE]at ok
 |.str _,_,_,_,_,_,_,_,_,_,ok,_,_,_=>by simp[gE]at ok
 |.list _,_,_,_,_,_,_,_,_,_,ok,_,_,_=>by simp[gE]at ok
 |.dict _,_,_,_,_,_,_,_,_,_,ok,_,_,_=>by simp[gE]at ok
def Oi:∀(xs ys:List PyData) (A:Around) (s:Shared) (vs ws:List Value) (as bs:List Addr),ReadsAll s.heap vs xs as->ReadsAll s.heap ws ys bs->cm xs ys=true->PyData.canLayAll0 xs=true->PyData.canLayAll0 ys=true->A.units+min (PyData.depthAll xs) (PyData.depthAll ys)<cLine->∀j (h1:j<vs.length) (h2:j<ws.length),pB A s vs[j] ws[j] (qL xs ys j)
 |[],_,_,_,_,_,_,_,ra,_,_,_,_,_,j,h1,_=>by cases ra;exact absurd h1 (ZaZ _)
 |_ :: _,[],_,_,_,_,_,_,_,rb,_,_,_,_,j,_,h2=>by cases rb;exact absurd h2 (ZaZ _)
 |x :: xs,y :: ys,A,s,_,_,_,_,ra,rb,ok,ha,hb,hu,j,h1,h2=>by
  have a':x.canLay0=true/\PyData.canLayAll0 xs=true:=by simpa[PyData.canLayAll0]using ha
  have b':y.canLay0=true/\PyData.canLayAll0 ys=true:=by simpa[PyData.canLayAll0]using hb
  have o':gE x y=true/\cm xs ys=true:=by simpa[cm]using ok
  cases ra with
  |cons r rs =>
   cases rb with
   |cons r' rs' =>
    cases j with
    |zero=>exact KO x y A s _ _ _ _ r r' o'.1 a'.1 b'.1 (room_head hu)
    |succ j=>exact Oi xs ys A s _ _ _ _ rs rs' o'.2 a'.2 b'.2 (room_tail hu) j (Nat.lt_of_succ_lt_succ h1) (Nat.lt_of_succ_lt_succ h2)
end
section
variable {prog:Program}{w:World}{A:Around}{R:Result->Shared->Prop}{I:Addr}{fp wr:List Addr}{n:Nat}{P:Nat->Value->Prop}{St:Nat->Heap->Prop}
abbrev i3(a b:Heap):Prop:=∀x o,a.get? x=some o->b.get? x=some o
abbrev yN(A:Around)(h0:Heap)(P:Nat->Value->Prop)(bt:Nat->Nat->Bool):Prop:=∀i j vi vj (s:Shared),i3 h0 s.heap->P i vi->P j vj->pB A s vi vj (bt i j)
def G9:(toString "min" ++ toString ".loop" : String)="min.loop" := by decide
def KP(W:Walks prog w A.in1 I fp wr n P St)(bt:Nat->Nat->Bool){h0:Heap}(hcmp:yN A.in1 h0 P bt)(S:Addr)(hSf:S ∉ fp)(yO:h0.get? S=none)(hw0:∀b∈wr,h0.get? b=none):
  ∀(k j:Nat) (s:Shared) (vb:Value) (c:Nat),n-(j+1)=k->j+1<=n->St (j+1) s.heap->P (argBest bt j) vb->i3 h0 s.heap->s.heap.get? S=some { cls:=.type "list",dict:=none,data:=.seq #[vb,vb] c,slots:=#[] } ->
  (∀v h' tk,P (argBest bt (n-1)) v->i3 h0 h'->R (.ok (.ret v)) { s with heap:=h',toks:=tk })->codeAny (model prog w) A (.builtin "min.loop" ⟨[.ref I,.none,.ref S],[]⟩) R s
 |0,j,s,vb,c,hk,hj,hst,Ha,hK,hS,hR=>by
  have Dc:S ∉ wr:=λz=>hSf (W.sub S z);have hin:n=j+1:=by lk
  subst hin;refine codeAny_builtin F.entry_min_loop ?_;rw[Around.under_plainId F.plain_min_loop (A:=A) _];show wpAny (model prog w) A.in1 (seqItems? (.ref S) >>= _) _ _ _;refine wpAny_bind (wpAny_seqItems hS rfl ?_);show wpAny (model prog w) A.in1 (tryCatch (pyNext (.ref I)) _ >>= _) _ _ _;refine wpAny_bind (wpAny_tryCatch (W.done s _ _ hst λh' tk hk'=>?_));have hS':=hk' S _ Dc hS;show wpAny (model prog w) A.in1 (updateSeq S (λ_=>#[]) >>= _) _ _ _;refine wpAny_bind (wpAny_updateSeq hS' rfl (wpAny_bind (wpAny_letGo (wpAny_pure (hR vb _ tk Ha λb o e=>?_)))));have hb1:b ∉ wr:=λz=>by rw[hw0 b z]at e;cases e
  have hb2:S≠b:=λz=>by rw[<- z,yO]at e;cases e
  exact(ZaY _ _ hb2).trans (hk' b o hb1 (hK b o e))
 |k+1,j,s,vb,c,hk,hj,hst,Ha,hK,hS,hR=>by
  have Dc:S ∉ wr:=λz=>hSf (W.sub S z);have hlt:j+1<n:=by lk
  refine codeAny_builtin F.entry_min_loop ?_;rw[Around.under_plainId F.plain_min_loop (A:=A) _];show wpAny (model prog w) A.in1 (seqItems? (.ref S) >>= _) _ _ _;refine wpAny_bind (wpAny_seqItems hS rfl ?_);show wpAny (model prog w) A.in1 (tryCatch (pyNext (.ref I)) _ >>= _) _ _ _;refine wpAny_bind (wpAny_tryCatch (W.item (j+1) s _ _ hlt hst λv h' tk hP vF hk'=>?_));have hS':=hk' S _ Dc hS;have Dd:i3 h0 h':=λb o e=>hk' b o (λz=>by rw[hw0 b z]at e;cases e) (hK b o e);show wpAny (model prog w) A.in1 (tryCatch (holding [v,v] (richCompare .Lt v vb >>= _)) _ >>= _) _ _ _;refine wpAny_bind (wpAny_tryCatch (wpAny_holding (wpAny_bind (hcmp (j+1) (argBest bt j) v vb _ Dd hP Ha prog w _ _ ?_))));refine wpAny_bind (wpAny_holding (wpAny_truthy_bool (wpAny_bind (wpAny_letGo (wpAny_pure ?_)))));cases hb:bt (j+1) (argBest bt j)with
  |true =>
   simp only[if_true];refine wpAny_bind (wpAny_updateSeq hS' rfl (wpAny_bind (wpAny_letGo ?_)));rw[G9];have KQ:i3 h0 (h'.update S (Obj.mapSeq λ_=>#[v,v])):=λb o e=>(ZaY _ _ (λz=>by rw[<- z,yO]at e;cases e)).trans (Dd b o e);refine wpAny_pure ⟨plainId_quiet F.plain_min_loop _,KP W bt hcmp S hSf yO hw0 k (j+1) _ v _ ⋯ hlt (W.frame _ _ _ vF λb KR o e=>?_) (by simp only[argBest,hb,if_true];exact hP) KQ (Zbg _ hS' rfl) λv' h'' uf De ug=>hR v' h'' uf De ug⟩;exact(ZaY _ _ (λz:S=b=>hSf (z ▸ KR))).trans e
  |false =>
   simp only[ZaT,if_false];refine wpAny_bind (wpAny_letGo ?_);rw[G9];exact wpAny_pure ⟨plainId_quiet F.plain_min_loop _,KP W bt hcmp S hSf yO hw0 k (j+1) _ vb c ⋯ hlt vF (by simp only[argBest,hb,ZaT,if_false];exact Ha) Dd hS' λv' h'' uf De ug=>hR v' h'' uf De ug⟩
def T3(W:Walks prog w A.in1 I fp wr n P St)(bt:Nat->Nat->Bool){h0:Heap}(hcmp:yN A.in1 h0 P bt)(S:Addr)(hSf:S ∉ fp)(yO:h0.get? S=none)(hw0:∀b∈wr,h0.get? b=none)(hn:0<n){s:Shared}{c:Nat}(hst:St 0 s.heap)(hK:i3 h0 s.heap)
  (hS:s.heap.get? S=some { cls:=.type "list",dict:=none,data:=.seq #[] c,slots:=#[] }) (hR:∀v h' tk,P (argBest bt (n-1)) v->i3 h0 h'->R (.ok (.ret v)) { s with heap:=h',toks:=tk }) :
  codeAny (model prog w) A (.builtin "min.loop" ⟨[.ref I,.none,.ref S],[]⟩) R s:=by
 have Dc:S ∉ wr:=λz=>hSf (W.sub S z);refine codeAny_builtin F.entry_min_loop ?_;rw[Around.under_plainId F.plain_min_loop (A:=A) _];show wpAny (model prog w) A.in1 (seqItems? (.ref S) >>= _) _ _ _;refine wpAny_bind (wpAny_seqItems hS rfl ?_);show wpAny (model prog w) A.in1 (tryCatch (pyNext (.ref I)) _ >>= _) _ _ _;refine wpAny_bind (wpAny_tryCatch (W.item 0 s _ _ hn hst λv h' tk hP vF hk'=>?_));have hS':=hk' S _ Dc hS;have Dd:i3 h0 h':=λb o e=>hk' b o (λz=>by rw[hw0 b z]at e;cases e) (hK b o e);show wpAny (model prog w) A.in1 (updateSeq S (λ_=>#[v,v]) >>= _) _ _ _;refine wpAny_bind (wpAny_updateSeq hS' rfl ?_);rw[G9];have KQ:i3 h0 (h'.update S (Obj.mapSeq λ_=>#[v,v])):=λb o e=>(ZaY _ _ (λz=>by rw[<- z,yO]at e;cases e)).trans (Dd b o e);refine wpAny_pure ⟨plainId_quiet F.plain_min_loop _,KP W bt hcmp S hSf yO hw0 _ 0 _ v _ rfl hn (W.frame _ _ _ vF λb KR o e=>?_) hP KQ (Zbg _ hS' rfl) λv' h'' uf De ug=>hR v' h'' uf De ug⟩;exact(ZaY _ _ (λz:S=b=>hSf (z ▸ KR))).trans e
end
section
variable {prog:Program}{w:World}{A:Around}{E:Value->Shared->Prop}{s:Shared}
def T5{p:Addr}{its:Array Value}{bt:Nat->Nat->Bool}{Q:Value->Shared->Prop}(hh:A.handled=none)(hl:s.heap.IsList p its)(hn:0<its.size)(hcmp:yN A.in1 s.heap (λi v=>its[i]?=some v) bt)
  (hQ:∀v h' tk,its[argBest bt (its.size-1)]?=some v->i3 s.heap h'->Q v { s with heap:=h',toks:=tk }):wpAny (model prog w) A (call (.builtin "min") [.ref p]) Q E s:=by
 have hlt:p<s.heap.objs.size:=by obtain⟨_,e,_⟩:=hl;exact Zav e
 have e0:s.heap.get? s.heap.objs.size=none:=by
  cases q:s.heap.get? s.heap.objs.size with
  |none=>rfl
  |some o=>exact absurd (Zav q) (ZbP _)
 have e1:s.heap.get? (s.heap.objs.size+1)=none:=by
  cases q:s.heap.get? (s.heap.objs.size+1)with
  |none=>rfl
  |some o=>exact absurd (Zav q) (Nat.not_lt_of_le (Zb4 _))
 refine call_function_tree F.kind_min F.plain_min F.entry_min (F.args_min1 _) ?_;show wpAny (model prog w) A.in1 (Builtin.Builtins.bindParams "min" ["key","default"] 0 ⟨[],[]⟩ >>= _) _ _ _;refine wpAny_bind (wpAny_of_eq (show Builtin.Builtins.bindParams "min" ["key","default"] 0 ⟨[],[]⟩=pure [none,none]from rfl) (wpAny_bind (wpAny_pure ?_)));refine wpAny_bind (wpAny_pyIter_list hl (wpAny_bind (wpAny_newObj_type ?_)));have hsz:(s.heap.push { cls:=.type "list_iterator",data:=.fields #[.ref p,.int 0 0] }).objs.size=s.heap.objs.size+1:=ZbL ..;have hne:p≠s.heap.objs.size:=ZaU hlt;rw[G9];have k1:i3 s.heap ((s.heap.push { cls:=.type "list_iterator",data:=.fields #[.ref p,.int 0 0] }).push { cls:=.type "list",data:=.seq #[] }):=λb o e=>Zai _ (Zai _ e);refine wpAny_pure ⟨plainId_quiet F.plain_min_loop _,?_⟩;show codeAny (model prog w) A (.builtin "min.loop" ⟨[.ref s.heap.objs.size,.none,.ref (s.heap.push { cls:=.type "list_iterator",data:=.fields #[.ref p,.int 0 0] }).objs.size],[]⟩) _ _;rw[hsz];refine T3 (c:=0) (Walks.list (A:=A.in1) hh s.heap.objs.size p hne its) bt hcmp (s.heap.objs.size+1) (λz=>?_) e1 (λb hb=>?_) hn ?_ k1 ?_ λv h' tk hv hk=>hQ v h' tk hv hk;rcases Zax.mp z with z|z
 exact absurd z (Nat.succ_ne_self _)
 have:s.heap.objs.size+1=p:=Zas.mp z
 exact absurd hlt (by rw[<- this];exact Nat.not_lt_of_le (Zb4 _));rw[Zas.mp hb];exact e0;exact⟨⟨_,Zai _ (Zar _ rfl),rfl,rfl⟩,(hl.push _).push _⟩;rw[<- hsz];exact Zar _ rfl
end
def Df{h:Heap}:∀{us:List Value} {ds:List PyData} {as:List Addr} {i:Nat} {v:Value},ReadsAll h us ds as->us[i]?=some v->∃as',Reads h v (ds.getD i .none) as'/\ds.getD i .none∈ds
 |_,_,_,_,_,.nil,e=>by simp at e
 |_,_,_,0,_,.cons r _,e=>by simp at e;subst e;exact⟨_,r,Zac⟩
 |_,_,_,i+1,v,.cons _ rs,e=>by
  obtain⟨as',r,m⟩:=Df (i:=i) (v:=v) rs (by simpa using e);exact⟨as',r,Zah _ m⟩
section
variable {X:Cx}
abbrev kd(ds:List PyData)(i j:Nat):Bool:=md (ds.getD i .none) (ds.getD j .none)
abbrev oo(ds:List PyData):Nat:=argBest (kd ds) (ds.length-1)
abbrev xm(K:Zfr):List V->Hp->VK->Prop:=λxs H Q=>∃(p:Addr) (vs:List V) (ds:List PyData),xs=[.ref p]/\jZ K H p vs/\fN K H vs ds/\0<ds.length/\(∀a∈ds,∀b∈ds,gE a b=true)/\(∀a∈ds,a.canLay0=true/\a.depth<=50)/\∃v,vs[oo ds]?=some v/\Q v H
def Oj(hc:X.calm=true)(hu:X.A.units+64<cLine):eZ X (.builtin "min") (xm X.K):=by
 intro pins s σ H xs us Q I r h;obtain⟨p,vs,ds,rfl,hq,hr,hn,hok,hlay,v0,hv0,q⟩:=h;obtain⟨u,rfl,ru⟩:=vals1 r;cases ru;obtain⟨its,rv,pl,_⟩:=I.list hq;obtain⟨as,ra⟩:=fN.reads I hr rv;have hlen:its.length=ds.length:=ReadsAll.length _ _ _ ra;refine T5 (bt:=kd ds) (I.ok.hd hc) pl.isList (by rw[Zak];lk) (λi j vi vj s' hK hi hj=>?_) λv h' tk hv hk=>?_;have hi':its[i]?=some vi:=by simpa using hi
 have hj':its[j]?=some vj:=by simpa using hj
 obtain⟨a1,r1,m1⟩:=Df ra hi';obtain⟨a2,r2,m2⟩:=Df ra hj';have b1:=(hlay _ m1).2;have b2:=(hlay _ m2).2;exact KO _ _ _ s' _ _ _ _ (Reads.keeps hK r1) (Reads.keeps hK r2) (hok _ m1 _ m2) (hlay _ m1).1 (hlay _ m2).1 (by show X.A.units+1+_<cLine;lk);have hv':its[oo ds]?=some v:=by
  have e:its.toArray.size-1=ds.length-1:=by rw[Zak,hlen]
  rw[e]at hv;unfold oo;simpa using hv
 obtain⟨u,Ol,ru⟩:=Vals.get rv hv0;rw[hv']at Ol;cases Ol;exact⟨v0,H,I.kept hk,ru,q⟩
end
end L2
namespace L2
open PySem PySem.Spec PyProof.Rows PySem.W
section
variable {lt:Nat->Nat->Bool}{n0:Nat}{cmp:Nat->Nat->(Bool->Shared->Prop)->Shared->Prop}{s:Shared}
structure Ord(lt:Nat->Nat->Bool):Prop where
 tr:∀a b c,lt b a=false->lt c b=false->lt c a=false
 as:∀a b,lt a b=true->lt b a=false
def Ord.rf(o:Ord lt)(a:Nat):lt a a=false:=by
 cases h:lt a a with
 |false=>rfl
 |true=>have:=o.as a a h;rw[h]at this;cases this
abbrev P(p:Array Nat)(i:Nat):Nat:=p.getD i 0
abbrev sG(lt:Nat->Nat->Bool)(p:Array Nat)(k:Nat):Prop:=∀i j,i<=j->j<k->lt (P p j) (P p i)=false
abbrev xn(lt:Nat->Nat->Bool)(p:Array Nat)(k:Nat):Prop:=∀i j,i<=j->j<k->lt (P p i) (P p j)=false
structure Arr(n0:Nat)(p:Array Nat):Prop where
 sz:p.size=n0
 pm:p.toList.Perm (List.range n0)
def Arr.bd{p:Array Nat}(h:Arr n0 p)(hn:0<n0)(i:Nat):P p i<n0:=by
 unfold P;rw[Zbc];cases e:p[i]? with
 |none=>exact hn
 |some x =>
  have:x∈p.toList:=by
   rw[<- Za2]at e;exact Zab e
  exact ZaV.mp (h.pm.subset this)
def xo{p:Array Nat}{i j:Nat}(hj:j<=p.size)(k:Nat):P (kas_rev p i j) k=if i<=k/\k<j then P p (i+j-1-k)else P p k:=by unfold P kas_rev;rw[Zbc,getElem?_mirror_all hj];split<;>rw[Zbc]
def Arr.rev{p:Array Nat}(h:Arr n0 p)(i j:Nat):Arr n0 (kas_rev p i j):=⟨(mirror_size _ _ _ _).trans h.sz,(Array.perm_iff_toList_perm.mp (mirror_perm p i j _)).trans h.pm⟩
def Om{p:Array Nat}{k d:Nat}(hk:k<p.size)(hd:d<=k)(m:Nat):P (bubble p k d) m=if m=k-d then P p k else if k-d<m/\m<=k then P p (m-1)else P p m:=by unfold P;simp only[Zbc];rw[getElem?_bubble hk d hd];split;rfl;split<;>rfl
def Arr.T6{p:Array Nat}(h:Arr n0 p)(k d:Nat):Arr n0 (bubble p k d):=⟨(bubble_size _ _ _).trans h.sz,(Array.perm_iff_toList_perm.mp (bubble_perm p k d)).trans h.pm⟩
variable (o:Ord lt)(hn:0<n0)(hc:∀i j (C:Bool->Shared->Prop),i<n0->j<n0->C (lt i j) s->cmp i j C s)
include o hn hc
def KS{p:Array Nat}(ha:Arr n0 p){Q:Nat->Shared->Prop}:∀(f n:Nat),sG lt p n->1<=n->(∀m,n<=m->m<=n+f->sG lt p m->(m<n+f->lt (P p m) (P p (m-1))=true)->Q m s)->(kas_asc p f n).kasWp cmp Q s
 |0,n,hs,h1,q=>q n (Zaa _) (Zaa _) hs λh=>absurd h (ZbP _)
 |f+1,n,hs,h1,q=>by
  refine hc _ _ _ (ha.bd hn n) (ha.bd hn (n-1)) ?_;show(if lt (P p n) (P p (n-1))=true then KasT.ret n else kas_asc p f (n+1)).kasWp cmp Q s;cases hb:lt (P p n) (P p (n-1))with
  |true=>exact q n (Zaa _) ⋯ hs λ_=>hb
  |false =>
   refine KS ha f (n+1) (λi j hij hj=>?_) ⋯ λm m1 m2 m3 m4=>q m ⋯ ⋯ m3 λh=>m4 ⋯;by_cases hjn:j<n;exact hs i j hij hjn
   have:j=n:=by lk
   subst this;by_cases hin:i=j;subst hin;exact o.rf _;exact o.tr _ (P p (j-1)) _ (hs i (j-1) ⋯ ⋯) hb
def Hb{Q:Array Nat×Nat×Nat->Shared->Prop}:∀(f:Nat) (p:Array Nat) (n q:Nat),Arr n0 p->xn lt p n->q+1<=n->n+f<=n0->(∀i j,n-(q+1)<=i->i<n->n-(q+1)<=j->j<n->lt (P p i) (P p j)=false) ->
  (∀p' n' q',Arr n0 p'->xn lt p' n'->q' + 1<=n'->n<=n'->n'<=n+f->(∀i j,n' - (q' + 1)<=i->i<n'->n' - (q' + 1)<=j->j<n'->lt (P p' i) (P p' j)=false)->Q (p',n',q') s)->(kas_desc f p n q).kasWp cmp Q s
 |0,p,n,q,ha,hd,h1,hf,he,hQ=>hQ p n q ha hd h1 (Zaa _) (Zaa _) he
 |f+1,p,n,q,ha,hd,h1,hf,he,hQ=>by
  refine hc _ _ _ (ha.bd hn n) (ha.bd hn (n-1)) ?_;show(if lt (P p n) (P p (n-1))=true then(if q > 0 then kas_desc f (kas_rev p (n-(q+1)) n) (n+1) 0 else kas_desc f p (n+1) 0)else .ask (P p (n-1)) (P p n) λd=>if d=true then .ret (p,n,q)else kas_desc f p (n+1) (q+1)).kasWp cmp Q s;cases hb:lt (P p n) (P p (n-1))with
  |true =>
   rw[if_pos rfl];have hx:=o.as _ _ hb;have Dg:∀p':Array Nat,xn lt p' n->P p' n=P p n->lt (P p' (n-1)) (P p n)=false->xn lt p' (n+1):=λp' h e1 e2 i j hij hj=>by
    by_cases hjn:j<n;exact h i j hij hjn
    have:j=n:=by lk
    subst this;by_cases hin:i=j;subst hin;exact o.rf _;rw[e1];exact o.tr _ (P p' (j-1)) _ e2 (h i (j-1) ⋯ ⋯)
   have one:∀p':Array Nat,∀i j,n+1-(0+1)<=i->i<n+1->n+1-(0+1)<=j->j<n+1->lt (P p' i) (P p' j)=false:=λp' i j a b c d=>by
    have e1:i=n:=by lk
    have e2:j=n:=by lk
    subst e1;subst e2;exact o.rf _
   by_cases hq:q > 0;rw[if_pos hq];have hns:n<=p.size:=by rw[ha.sz];lk
   have er:=λk=>xo (p:=p) (i:=n-(q+1)) hns k;refine Hb f _ (n+1) 0 (ha.rev _ _) (Dg _ (λi j hij hj=>?_) ?_ ?_) ⋯ ⋯ (one _) λp' n' q' a b c d e g=>hQ p' n' q' a b c ⋯ ⋯ g;rw[er i,er j];by_cases hi:n-(q+1)<=i;rw[if_pos ⟨hi,by lk⟩,if_pos ⟨by lk,hj⟩];exact he _ _ ⋯ ⋯ ⋯ ⋯;rw[if_neg ⋯];by_cases hj':n-(q+1)<=j;rw[if_pos ⟨hj',hj⟩];exact hd _ _ ⋯ ⋯;rw[if_neg ⋯];exact hd i j hij hj;rw[er n,if_neg ⋯];rw[er (n-1),if_pos ⟨by lk,by lk⟩];exact o.tr _ (P p (n-1)) _ hx (he _ _ ⋯ ⋯ ⋯ ⋯);rw[if_neg hq];exact Hb f p (n+1) 0 ha (Dg p hd rfl hx) ⋯ ⋯ (one _) λp' n' q' a b c d e g=>hQ p' n' q' a b c ⋯ ⋯ g
  |false =>
   rw[if_neg ∅];refine hc _ _ _ (ha.bd hn (n-1)) (ha.bd hn n) ?_;cases hb2:lt (P p (n-1)) (P p n)with
   |true=>exact hQ p n q ha hd h1 (Zaa _) ⋯ he
   |false =>
    refine Hb f p (n+1) (q+1) ha (λi j hij hj=>?_) ⋯ ⋯ (λi j a b c d=>?_) λp' n' q' a b c d e g=>hQ p' n' q' a b c ⋯ ⋯ g;by_cases hjn:j<n;exact hd i j hij hjn
    have:j=n:=by lk
    subst this;by_cases hin:i=j;subst hin;exact o.rf _;exact o.tr _ (P p (j-1)) _ hb2 (hd i (j-1) ⋯ ⋯);by_cases hi:i=n;subst hi;by_cases hj:j=i;subst hj;exact o.rf _;exact o.tr _ (P p (i-1)) _ (he (i-1) j ⋯ ⋯ ⋯ ⋯) hb;by_cases hj:j=n;subst hj;exact o.tr _ (P p (j-1)) _ hb2 (he i (j-1) ⋯ ⋯ ⋯ ⋯);exact he i j ⋯ ⋯ ⋯ ⋯
def Oo{p:Array Nat}{n nrem:Nat}{Q:Nat×Array Nat->Shared->Prop}(ha:Arr n0 p)(hd:xn lt p n)(h1:1<=n)(hr:n<=nrem)(hz:nrem<=n0)(hQ:∀m p',Arr n0 p'->sG lt p' m->n<=m->m<=nrem->Q (m,p') s):(kas_tail3 n nrem p).kasWp cmp Q s:=by
 unfold kas_tail3;rw[KasT.kasWp_bind];have hns:n<=p.size:=by rw[ha.sz];lk
 refine KS o hn hc (ha.rev 0 n) (nrem-n) n (λi j hij hj=>?_) h1 λm m1 m2 m3 _=>hQ m _ (ha.rev 0 n) m3 m1 ⋯;rw[xo hns,xo hns,if_pos ⟨by lk,hj⟩,if_pos ⟨by lk,by lk⟩];exact hd _ _ ⋯ ⋯
def Oq{p:Array Nat}{n nrem:Nat}{Q:Nat×Array Nat->Shared->Prop}(ha:Arr n0 p)(hd:xn lt p (n+1))(hr:n+1<=nrem)(hz:nrem<=n0)(hQ:∀m p',Arr n0 p'->sG lt p' m->1<=m->m<=nrem->Q (m,p') s):(kas_descPart n nrem p).kasWp cmp Q s:=by
 unfold kas_descPart;rw[KasT.kasWp_bind];refine Hb o hn hc (nrem-(n+1)) p (n+1) 0 ha hd ⋯ ⋯ (λi j a b c d=>?_) λp' n' q' a b c d e g=>?_;have e1:i=n:=by lk
 have e2:j=n:=by lk
 subst e1;subst e2;exact o.rf _;show(if q' > 0 then kas_tail3 n' nrem (kas_rev p' (n' - (q' + 1)) n')else kas_tail3 n' nrem p').kasWp cmp Q s;by_cases hq:q' > 0;rw[if_pos hq];have hns:n'<=p'.size:=by rw[a.sz];lk
 have er:=λk=>xo (p:=p') (i:=n' - (q' + 1)) hns k;refine Oo o hn hc (a.rev _ _) (λi j hij hj=>?_) ⋯ ⋯ hz λm p2 x y z w=>hQ m p2 x y ⋯ w;rw[er i,er j];by_cases hi:n' - (q' + 1)<=i;rw[if_pos ⟨hi,by lk⟩,if_pos ⟨by lk,hj⟩];exact g _ _ ⋯ ⋯ ⋯ ⋯;rw[if_neg ⋯];by_cases hj':n' - (q' + 1)<=j;rw[if_pos ⟨hj',hj⟩];exact b _ _ ⋯ ⋯;rw[if_neg ⋯];exact b i j hij hj;rw[if_neg hq];exact Oo o hn hc a b ⋯ ⋯ hz λm p2 x y z w=>hQ m p2 x y ⋯ w
def T7{p:Array Nat}{Q:Nat×Array Nat->Shared->Prop}(ha:Arr n0 p)(hQ:∀m p',Arr n0 p'->sG lt p' m->1<=m->m<=n0->Q (m,p') s):(kas_count n0 p).kasWp cmp Q s:=by
 unfold kas_count;rw[KasT.kasWp_bind];refine KS o hn hc ha (n0-1) 1 (λi j hij hj=>?_) (Zaa _) λn m1 m2 hs hl=>?_;have e1:i=0:=by lk
 have e2:j=0:=by lk
 subst e1;subst e2;exact o.rf _;by_cases he:n=n0;subst he;simp only[beq_self_eq_true,if_true];exact hQ n p ha hs m1 (Zaa _);have hne:(n == n0)=false:=by simpa using he
 simp only[hne,ZaT,if_false];have hlt:=hl ⋯;have hx:=o.as _ _ hlt;have grow:∀p':Array Nat,xn lt p' n->P p' n=P p n->lt (P p' (n-1)) (P p n)=false->xn lt p' (n+1):=λp' h e1 e2 i j hij hj=>by
  by_cases hjn:j<n;exact h i j hij hjn
  have:j=n:=by lk
  subst this;by_cases hin:i=j;subst hin;exact o.rf _;rw[e1];exact o.tr _ (P p' (j-1)) _ e2 (h i (j-1) ⋯ ⋯)
 by_cases h1:n > 1;rw[if_pos h1];refine hc _ _ _ (ha.bd hn 0) (ha.bd hn (n-1)) ?_;cases hb:lt (P p 0) (P p (n-1))with
 |true =>
  show(if lt (P p 0) (P p (n-1))=true then KasT.ret (n,p)else kas_descPart n n0 (kas_rev p 0 n)).kasWp cmp Q s;rw[hb,if_pos rfl];exact hQ n p ha hs m1 ⋯
 |false =>
  have all:∀i j,i<n->j<n->lt (P p i) (P p j)=false:=λi j hi hj=>o.tr (P p j) (P p (n-1)) (P p i) (hs j (n-1) ⋯ ⋯) (o.tr (P p (n-1)) (P p 0) (P p i) hb (hs 0 i ⋯ hi));have hns:n<=p.size:=by rw[ha.sz];lk
  show(if lt (P p 0) (P p (n-1))=true then KasT.ret (n,p)else kas_descPart n n0 (kas_rev p 0 n)).kasWp cmp Q s;rw[hb,if_neg ∅];refine Oq o hn hc (ha.rev 0 n) (grow _ (λi j hij hj=>?_) ?_ ?_) ⋯ (Zaa _) λm p' a b c d=>hQ m p' a b c d;rw[xo hns,xo hns,if_pos ⟨by lk,by lk⟩,if_pos ⟨by lk,hj⟩];exact all _ _ ⋯ ⋯;rw[xo hns,if_neg ⋯];rw[xo hns,if_pos ⟨by lk,by lk⟩,show 0+n-1-(n-1)=0 by lk];exact o.tr (P p n) (P p (n-1)) (P p 0) hx hb
 rw[if_neg h1]
 have:n=1:=by lk
 subst this;refine Oq o hn hc ha (grow p (λi j hij hj=>?_) rfl hx) ⋯ (Zaa _) λm p' a b c d=>hQ m p' a b c d;have e1:i=0:=by lk
 have e2:j=0:=by lk
 subst e1;subst e2;exact o.rf _
def KU{p:Array Nat}{k:Nat}{Q:Nat->Shared->Prop}(ha:Arr n0 p)(hs:sG lt p k):∀(f l r:Nat),r<=l+f->l<=r->r<=k->(∀i,i<l->lt (P p k) (P p i)=false)->(∀i,r<=i->i<k->lt (P p k) (P p i)=true) ->
  (∀m,m<=k->(∀i,i<m->lt (P p k) (P p i)=false)->(∀i,m<=i->i<k->lt (P p k) (P p i)=true)->Q m s)->(kas_place p k f l r).kasWp cmp Q s
 |0,l,r,hf,hlr,hrk,h1,h2,q=>by
  have:l=r:=by lk
  subst this;exact q l hrk h1 h2
 |f+1,l,r,hf,hlr,hrk,h1,h2,q=>by
  unfold kas_place;by_cases hge:l >= r;rw[if_pos hge]
  have:l=r:=by lk
  subst this;exact q l hrk h1 h2;rw[if_neg hge];refine hc _ _ _ (ha.bd hn k) (ha.bd hn ((l+r) / 2)) ?_;show(if lt (P p k) (P p ((l+r) / 2))=true then kas_place p k f l ((l+r) / 2)else kas_place p k f ((l+r) / 2+1) r).kasWp cmp Q s;cases hb:lt (P p k) (P p ((l+r) / 2))with
  |true =>
   rw[if_pos rfl];refine KU ha hs f l ((l+r) / 2) ⋯ ⋯ ⋯ h1 (λi i1 i2=>?_) q;cases hx:lt (P p k) (P p i)with
   |true=>rfl
   |false =>
    have:=o.tr (P p ((l+r) / 2)) (P p i) (P p k) (hs _ _ i1 i2) hx;rw[hb]at this;cases this
  |false =>
   rw[if_neg ∅];refine KU ha hs f ((l+r) / 2+1) r ⋯ ⋯ hrk (λi i1=>?_) h2 q;exact o.tr (P p i) (P p ((l+r) / 2)) (P p k) (hs _ _ ⋯ ⋯) hb
def Ot{Q:Array Nat->Shared->Prop}:∀(f:Nat) (p:Array Nat) (k:Nat),Arr n0 p->sG lt p k->1<=k->k+f=n0->(∀p',Arr n0 p'->sG lt p' n0->Q p' s)->(kas_bin f p k).kasWp cmp Q s
 |0,p,k,ha,hs,h1,hf,q=>q p ha (by rw[<- hf];exact hs)
 |f+1,p,k,ha,hs,h1,hf,q=>by
  unfold kas_bin;rw[KasT.kasWp_bind];refine KU o hn hc ha hs k 0 k ⋯ ⋯ (Zaa _) (λi h=>absurd h (ZaZ _)) (λi a b=>by lk) λl hl T8 h2'=>?_;have hk:k<p.size:=by rw[ha.sz];lk
  refine Ot f _ (k+1) (ha.T6 _ _) (λi j hij hj=>?_) ⋯ ⋯ q;rw[Om hk ⋯,Om hk ⋯,show k-(k-l)=l by lk];by_cases hi:i=l;rw[if_pos hi];by_cases hj':j=l;rw[if_pos hj'];exact o.rf _;rw[if_neg hj',if_pos ⟨by lk,by lk⟩];exact o.as _ _ (h2' (j-1) ⋯ ⋯);rw[if_neg hi];by_cases hj':j=l;rw[if_pos hj',if_neg ⋯];exact T8 i ⋯;rw[if_neg hj'];by_cases hi2:l<i;rw[if_pos (show l<j/\j<=k by lk),if_pos (show l<i/\i<=k by lk)];exact hs _ _ ⋯ ⋯;by_cases hj2:l<j;rw[if_pos (show l<j/\j<=k by lk),if_neg (show ¬(l<i/\i<=k) by lk)];exact hs _ _ ⋯ ⋯;rw[if_neg (show ¬(l<j/\j<=k) by lk),if_neg (show ¬(l<i/\i<=k) by lk)];exact hs _ _ hij ⋯
def T9{Q:Array Nat->Shared->Prop}(q:∀p',Arr n0 p'->sG lt p' n0->Q p' s):(kas_sort n0).kasWp cmp Q s:=by
 unfold kas_sort;rw[KasT.kasWp_bind];have ha:Arr n0 (List.toArray (List.range n0)):=⟨by simp,by simp⟩;refine T7 o hn hc ha λm p' a b c d=>?_;show(if m<n0 then kas_bin (n0-max m 1) p' (max m 1)else KasT.ret p').kasWp cmp Q s;rw[show max m 1=m by lk];by_cases h:m<n0;rw[if_pos h];exact Ot o hn hc (n0-m) p' m a b c ⋯ q;rw[if_neg h]
 have:m=n0:=by lk
 subst this;exact q p' a b
end
abbrev qg(fin:Bool):List PyData->List PyData->Bool
 |x :: xs,y :: ys=>if PyData.eqv x y then qg fin xs ys else md x y
 |_,_=>fin
def Ou:∀xs ys:List PyData,qg (decide (xs.length<ys.length)) xs ys=cf xs ys
 |[],[]=>rfl
 |[],_ :: _=>by simp[qg,cf]
 |_ :: _,[]=>by simp[qg,cf]
 |x :: xs,y :: ys=>by
  have e:decide ((x :: xs).length<(y :: ys).length)=decide (xs.length<ys.length):=by simp
  rw[e];show(if PyData.eqv x y=true then qg (decide (xs.length<ys.length)) xs ys else md x y)=if PyData.eqv x y=true then cf xs ys else md x y
  rw[Ou xs ys]
abbrev xq(p7:Bool):PyData->Bool
 |.tuple (.int _ :: _)=>!p7
 |.tuple (.tuple _ :: _)=>p7
 |_=>false
section
variable {prog:Program}{w:World}{A:Around}{E:Value->Shared->Prop}{s:Shared}
def Ov{b fin:Bool}{Q:Bool->Shared->Prop}:∀(xs ys:List PyData) (vs ws:List Value) (as bs:List Addr) (i:Nat),ReadsAll s.heap vs xs as->ReadsAll s.heap ws ys bs->cm xs ys=true->PyData.canLayAll0 xs=true->PyData.canLayAll0 ys=true->A.units+min (PyData.depthAll xs) (PyData.depthAll ys)<cLine ->
  (b=true->i=0->∀x r,xs=x :: r->∃n,x=.int n)->Q (qg fin xs ys) s->KatLex prog w A b fin Q (vs.zip ws) i s
 |[],_,_,_,_,_,i,ra,rb,_,_,_,_,_,q=>by cases ra;exact q
 |_ :: _,[],_,_,_,_,i,ra,rb,_,_,_,_,_,q=>by cases rb;cases ra;exact q
 |x :: xs,y :: ys,_,_,_,_,i,ra,rb,ok,ha,hb,hu,hf,q=>by
  have a':x.canLay0=true/\PyData.canLayAll0 xs=true:=by simpa[PyData.canLayAll0]using ha
  have b':y.canLay0=true/\PyData.canLayAll0 ys=true:=by simpa[PyData.canLayAll0]using hb
  have o':gE x y=true/\cm xs ys=true:=by simpa[cm]using ok
  cases ra with
  |cons r rs =>
   cases rb with
   |cons r' rs' =>
    refine kat_cons (SeqAt.eqAt_reads x y A s _ _ _ _ r r' a'.1 b'.1 (SeqAt.room_head hu) prog w _ _ ?_);cases he:PyData.eqv x y with
    |true =>
     refine kat_yes (Ov xs ys _ _ _ _ (i+1) rs rs' o'.2 a'.2 b'.2 (SeqAt.room_tail hu) (λ_ z=>absurd z (Nat.succ_ne_zero _)) ?_);rw[qg,he,if_pos rfl]at q;exact q
    |false =>
     rw[qg,he,if_neg ∅]at q;refine kat_no ?_;cases hbi:(b && i == 0)with
     |true =>
      have hb1:b=true/\i=0:=by simpa using hbi
      obtain⟨n,rfl⟩:=hf hb1.1 hb1.2 x xs rfl;cases y with
      |int m =>
       cases r with
       |int _ t =>
        cases r' with
        |int _ u=>exact oneLt_int q
      |none=>cases o'.1
      |bool _=>cases o'.1
      |str _=>cases o'.1
      |list _=>cases o'.1
      |tuple _=>cases o'.1
      |dict _=>cases o'.1
     |false=>exact kat_one _ _ (KO x y A s _ _ _ _ r r' o'.1 a'.1 b'.1 (SeqAt.room_head hu) prog w _ _ q)
def Ua{p7:Bool}{vs:List Value}{ds:List PyData}{as:List Addr}{i j:Nat}{C:Bool->Shared->Prop}(ra:ReadsAll s.heap vs ds as)(hh:∀d∈ds,xq p7 d=true)(hok:∀a∈ds,∀b∈ds,gE a b=true)(hlay:∀a∈ds,a.canLay0=true/\a.depth<=50)(hu:A.units+52<cLine)
  (hi:i<vs.length) (hj:j<vs.length) (q:C (kd ds i j) s):kas_ask prog w A (tuples' (!p7)) vs i j C s:=by
 obtain⟨a1,r1,m1⟩:=Df (i:=i) (v:=vs.getD i Value.none) ra (by rw[Zad,Z8 hi];rfl);obtain⟨a2,r2,m2⟩:=Df (i:=j) (v:=vs.getD j Value.none) ra (by rw[Zad,Z8 hj];rfl);have ok:=hok _ m1 _ m2;have l1:=hlay _ m1;have l2:=hlay _ m2;have h1:=hh _ m1;unfold kd at q;unfold kas_ask;generalize vs.getD i Value.none=v at r1;generalize vs.getD j Value.none=v' at r2;generalize ds.getD i .none=d at r1 ok l1 h1 q;generalize ds.getD j .none=d' at r2 ok l2 q;cases d with
 |tuple xs =>
  cases d' with
  |tuple ys =>
   cases r1 with
   |@tuple l o us n _ Oh g1 g2 g3 g4 =>
    cases r2 with
    |@tuple l' o2 us' n' _ T2 k1 k2 k3 k4 =>
     have n1:us.size=xs.length:=by simpa using SeqAt.ReadsAll.length _ _ _ g4
     have n2:us'.size=ys.length:=by simpa using SeqAt.ReadsAll.length _ _ _ k4
     have dp:PyData.depthAll xs+1<=50:=l1.2;refine kat_lt g1 g3 k1 k3 ?_;rw[n1,n2];refine Ov xs ys _ _ _ _ 0 g4 k4 ok l1.1 l2.1 ⋯ (λhb _ x r e=>?_) (by rw[Ou];exact q);subst e;have hT:p7=false:=by simpa using hb
     subst hT;cases x with
     |int n=>exact⟨n,rfl⟩
     |none=>cases h1
     |bool _=>cases h1
     |str _=>cases h1
     |list _=>cases h1
     |tuple _=>cases h1
     |dict _=>cases h1
  |none=>cases ok
  |bool _=>cases ok
  |str _=>cases ok
  |list _=>cases ok
  |int _=>cases ok
  |dict _=>cases ok
 |none=>cases h1
 |bool _=>cases h1
 |str _=>cases h1
 |list _=>cases h1
 |int _=>cases h1
 |dict _=>cases h1
def Ow{p7:Bool}{h:Heap}:∀{ds:List PyData} {vs:List Value} {as:List Addr},ReadsAll h vs ds as->(∀d∈ds,xq p7 d=true)->∃fs,KatTups h vs fs/\fs.length=vs.length/\∀f∈fs,(p7=false/\∃n t,f=.int n t)\/(p7=true/\∃a o,f=.ref a/\h.get? a=some o/\o.cls=.type "tuple")
 |[],_,_,r,_=>by cases r;exact⟨[],trivial,rfl,λf hf=>nomatch hf⟩
 |d :: ds,_,_,r,hh=>by
  cases r with
  |cons r rs =>
   obtain⟨fs,t,hl,hf⟩:=Ow rs λd hd=>hh d (Zah _ hd);have h1:=hh d Zac;cases d with
   |tuple xs =>
    cases r with
    |@tuple l o us n _ Oh g1 g2 g3 g4 =>
     cases xs with
     |nil=>cases h1
     |cons x xs =>
      have hz:∃u r,us.toList=u :: r/\∃Ox,Reads h u x Ox:=by
       generalize us.toList=L at g4;cases g4 with
       |cons q _=>exact⟨_,_,rfl,_,q⟩
      obtain⟨u,r0,eL,Ox,q⟩:=hz;have e0:us[0]?=some u:=by rw[<- Za2,eL];rfl
      refine⟨u :: fs,⟨⟨l,o,us,n,rfl,g1,g2,g3,e0⟩,t⟩,by simp[hl],λf hf'=>?_⟩;rcases Zax.mp hf' with rfl|hf'
      cases x with
      |int n =>
       cases q with
       |int _ t=>exact .inl ⟨by simpa[xq]using h1,_,_,rfl⟩
      |tuple _ =>
       cases q with
       |tuple k1 k2 k3 k4=>exact .inr ⟨by simpa[xq]using h1,_,_,rfl,k1,k2⟩
      |none=>cases h1
      |bool _=>cases h1
      |str _=>cases h1
      |list _=>cases h1
      |dict _=>cases h1
      exact hf f hf'
   |none=>cases h1
   |bool _=>cases h1
   |str _=>cases h1
   |list _=>cases h1
   |int _=>cases h1
   |dict _=>cases h1
def Ub{p7:Bool}{vs:List Value}{ds:List PyData}{as:List Addr}{Q:SortKind->Shared->Prop}(ra:ReadsAll s.heap vs ds as)(hh:∀d∈ds,xq p7 d=true)(hn:0<vs.length)(q:Q (tuples' (!p7)) s):wpAny (model prog w) A (keyKind' vs.toArray) Q E s:=by
 obtain⟨fs,t,hl,hf⟩:=Ow ra hh;cases p7 with
 |false =>
  refine kat_kind (T:=.type "int") t ⋯ (λv hv=>?_) ∅ q;rcases hf v hv with⟨_,n,t,rfl⟩|⟨z,_⟩
  exact Looks.of_pure rfl;cases z
 |true =>
  refine kat_kind (T:=.type "tuple") t ⋯ (λv hv=>?_) ∅ q;rcases hf v hv with⟨z,_⟩|⟨_,a,o,rfl,ho,hc⟩
  cases z;rw[<- hc];exact(Looks.ld ho).andThen .now
end
abbrev rH(a:Addr)(h h':Heap):Prop:=∀b o,b≠a->h.get? b=some o->h'.get? b=some o
abbrev oQ(vs:List Value)(p:Array Nat):Array Value:=List.toArray (p.toList.map λi=>vs.getD i Value.none)
def Uc(vs:List Value):oQ vs (List.toArray (List.range vs.length))=vs.toArray:=by
 unfold oQ
 congr 1
 refine ZbT λi=>?_;rw[Zae];by_cases h:i<vs.length;rw[Z8 (by simpa using h)];simp[h];rw[Za3 (by simpa using h),Za3 (by simpa using h)];rfl
section
variable {prog:Program}{w:World}{A:Around}{E:Value->Shared->Prop}{s:Shared}{lt:Nat->Nat->Bool}
def Ud{a:Addr}{vs:List Value}{n:Nat}{R:PySem.Fin->Shared->Prop}(ho:s.heap.get? a=some (seqObj "list" vs.toArray n))(h64:vs.length<64)(o:Ord lt)
  (hk:2<=vs.length->∀s':Shared,rH a s.heap s'.heap->∃κ,(∀Q:SortKind->Shared->Prop,Q κ s'->wpAny (model prog w) A (keyKind' vs.toArray) Q E s')/\∀i j (C:Bool->Shared->Prop),i<vs.length->j<vs.length->C (lt i j) s'->kas_ask prog w A κ vs i j C s')
  (h:∀p:Array Nat,Arr vs.length p->sG lt p vs.length->R (.done (.ret .none)) { s with heap:=sortedHeap s.heap a vs (oQ vs p) }):wpAny (model prog w) A (Builtin.«list.sort» ⟨[.ref a],[]⟩) R E s:=by
 rw[list_sort_plain];have halt:a<s.heap.objs.size:=Zav ho;have hsl:sizeLine=sizeLine:=rfl;have uh:vs.length<=sizeLine:=Zap (Zbt h64) ∅;refine wpAny_bind (listItems_at ho rfl (wpAny_bind (listUpdate_at ho rfl ?_ (by rw[Zak];exact uh) (ZaM _))));obtain⟨e1,G8⟩:∃e1,(s.heap.update a (Obj.mapSeq λ_=>(#[]:Array Value))).get? a=some (seqObj "list" #[] e1):=⟨_,get?_update_seq ho λ_=>#[]⟩;refine wpAny_bind (seqEpoch_at G8 rfl (wpAny_bind (wpAny_newTuple (wpAny_bind (wpAny_newList (wpAny_holding ?_) (ZaM _))) (by show vs.length<=_;exact uh))));have ne1:a≠(s.heap.update a (Obj.mapSeq λ_=>(#[]:Array Value))).objs.size:=by rw[Heap.size_update];exact ZaU halt
 have ho6:(((s.heap.update a (Obj.mapSeq λ_=>(#[]:Array Value))).push (seqObj "tuple" vs.toArray 0)).push (seqObj "list" #[] 0)).get? a=some (seqObj "list" #[] e1):=Zai _ (Zai _ G8);have kb:rH a s.heap (((s.heap.update a (Obj.mapSeq λ_=>(#[]:Array Value))).push (seqObj "tuple" vs.toArray 0)).push (seqObj "list" #[] 0)):=λb o hb e=>Zai _ (Zai _ ((ZaY _ _ (Ne.symm hb)).trans e));show wpAny (model prog w) A _ R E { s with heap:=((s.heap.update a (Obj.mapSeq λ_=>(#[]:Array Value))).push (seqObj "tuple" vs.toArray 0)).push (seqObj "list" #[] 0) };dsimp only;by_cases h2:vs.toArray.size<2;rw[if_pos h2,if_pos h2];refine wpAny_bind (wpAny_pure ?_);rw[StateT.run_pure];refine wpAny_bind (wpAny_pure ?_);dsimp only;have eo:(arrOf (SortSt.mk' general' (vs.toArray.zip vs.toArray) #[] 7 none)).map (·.2)=oQ vs (List.toArray (List.range vs.length)):=by
  rw[Uc];show(vs.toArray.zip vs.toArray).map (·.2)=vs.toArray;apply Array.toList_inj.mp;simp[List.map_snd_zip]
 refine wpAny_bind (seqEpoch_at ho6 rfl ?_);rw[eo];refine wpAny_bind (listUpdate_at ho6 rfl ?_ (ZaM _) (by unfold oQ;rw[Zak,Z7,Za1,Zak,List.length_range];lk));simp only[bne_self_eq_false,ZaT,if_false];refine wpAny_pure (h _ ⟨by simp,by simp⟩ λi j hij hj=>?_);have e:i=j:=by rw[Zak]at h2;lk
 subst e;exact o.rf _;rw[if_neg h2,if_neg h2];have h2':2<=vs.length:=by rw[Zak]at h2;lk
 obtain⟨κ,hkk,KW⟩:=hk h2' { s with heap:=((s.heap.update a (Obj.mapSeq λ_=>(#[]:Array Value))).push (seqObj "tuple" vs.toArray 0)).push (seqObj "list" #[] 0) } kb;refine wpAny_bind (hkk _ ?_);have run:=kat_run (prog:=prog) (w:=w) (A:=A) (E:=E) (κ:=κ) (ks:=vs) (vs:=vs) (s:={ s with heap:=((s.heap.update a (Obj.mapSeq λ_=>(#[]:Array Value))).push (seqObj "tuple" vs.toArray 0)).push (seqObj "list" #[] 0) }) (Q:=λst' s'=>∃p:Array Nat,arrOf st'=p.map (kas_item (vs.toArray.zip vs.toArray))/\failedOf st'=none/\s'={ s with heap:=((s.heap.update a (Obj.mapSeq λ_=>(#[]:Array Value))).push (seqObj "tuple" vs.toArray 0)).push (seqObj "list" #[] 0) }/\Arr vs.length p/\sG lt p vs.length)
  (G:=λp s'=>s'={ s with heap:=((s.heap.update a (Obj.mapSeq λ_=>(#[]:Array Value))).push (seqObj "tuple" vs.toArray 0)).push (seqObj "list" #[] 0) }/\Arr vs.length p/\sG lt p vs.length) rfl h2' h64 (λp st' s' _ x y z=>⟨p,x,y,z⟩)
  (T9 o ⋯ KW λp' x y=>⟨rfl,x,y⟩)
 refine wpAny_bind (wpAny_mono run ?_ λ_ _ z=>z);rintro⟨⟨⟩,st'⟩ s' ⟨p,har,hf,rfl,hA,hS⟩;dsimp only;have eo:(arrOf st').map (·.2)=oQ vs p:=kat_snds rfl har;refine wpAny_bind (seqEpoch_at ho6 rfl ?_);rw[eo];refine wpAny_bind (listUpdate_at ho6 rfl ?_ (ZaM _) (by unfold oQ;rw[Zak,Z7,Za1,hA.sz];lk));rw[hf];simp only[bne_self_eq_false,ZaT,if_false];exact wpAny_pure (h p hA hS)
def Ue{l:Addr}{vs:List Value}{Q:Value->Shared->Prop}(hl:s.heap.IsList l vs.toArray)(h64:vs.length<64)(o:Ord lt)
  (hk:2<=vs.length->∀(s':Shared) (E':Value->Shared->Prop),i3 s.heap s'.heap->∃κ,(∀Q:SortKind->Shared->Prop,Q κ s'->wpAny (model prog w) A.in1.in1 (keyKind' vs.toArray) Q E' s')/\∀i j (C:Bool->Shared->Prop),i<vs.length->j<vs.length->C (lt i j) s'->kas_ask prog w A.in1.in1 κ vs i j C s')
  (h:∀p:Array Nat,Arr vs.length p->sG lt p vs.length->Q (.ref (s.heap.objs.size+1)) { s with heap:=sortedAll s.heap vs (oQ vs p) }):wpAny (model prog w) A (call (.builtin "sorted") [.ref l]) Q E s:=by
 have uh:vs.length<=sizeLine:=Zap (Zbt h64) ∅;refine Calls.call_function_entry kind_sorted plain_sorted entry_sorted (args_sorted1 _) ?_;unfold Builtin.«sorted»;refine wpAny_bind (m:=checkCount "sorted" 1 1 _) (wpAny_pure (wpAny_bind (collect_list hl (wpAny_bind (wpAny_newList ?_ uh)) uh)));have hsz:((s.heap.push (seqObj "list" #[] 0)).update s.heap.objs.size (Obj.mapSeq (· ++ vs.toArray))).objs.size=s.heap.objs.size+1:=(Heap.size_update _ _ _).trans (size_push' _ _);have GG:(((s.heap.push (seqObj "list" #[] 0)).update s.heap.objs.size (Obj.mapSeq (· ++ vs.toArray))).push (seqObj "list" vs.toArray 0)).get? (s.heap.objs.size+1)=some (seqObj "list" vs.toArray 0):=hsz ▸ Zar _ rfl;show wpAny (model prog w) _ _ _ _ { s with heap:=((s.heap.push (seqObj "list" #[] 0)).update s.heap.objs.size (Obj.mapSeq (· ++ vs.toArray))).push (seqObj "list" vs.toArray 0) };rw[hsz];have k1:i3 s.heap (((s.heap.push (seqObj "list" #[] 0)).update s.heap.objs.size (Obj.mapSeq (· ++ vs.toArray))).push (seqObj "list" vs.toArray 0)):=λb o e=>Zai _ ((ZaY _ _ (Ne.symm (ZaU (Zav e)))).trans (Zai _ e));refine wpAny_bind (wpAny_holding (wpAny_call_entry slot_list_sort ⟨_,GG,rfl⟩ entry_list_sort (Ud GG h64 o (λh2 s' kb=>hk h2 s' _ λb o' e=>kb b o' (λz=>?_) (k1 b o' e)) λp a1 a2=>⟨_,rfl,?_⟩) (args_list_sort _)))
 have:=Zav e
 rw[z]at this;exact absurd this (Nat.not_lt_of_le (Zb4 _));exact wpAny_pure ⟨_,rfl,h p a1 a2⟩
end
mutual
def KY:∀(a b:PyData),gE a b=true->(PyData.eqv a b=true↔a=b)
 |.int x,.int y,_=>by show((x == y)=true)↔_;simp
 |.tuple xs,.tuple ys,h=>by show PyData.eqvAll xs ys=true↔_;rw[Oy xs ys h];simp
 |.int _,.none,h=>nomatch h
 |.int _,.bool _,h=>nomatch h
 |.int _,.str _,h=>nomatch h
 |.int _,.list _,h=>nomatch h
 |.int _,.tuple _,h=>nomatch h
 |.int _,.dict _,h=>nomatch h
 |.tuple _,.none,h=>nomatch h
 |.tuple _,.bool _,h=>nomatch h
 |.tuple _,.int _,h=>nomatch h
 |.tuple _,.str _,h=>nomatch h
 |.tuple _,.list _,h=>nomatch h
 |.tuple _,.dict _,h=>nomatch h
 |.none,_,h=>by simp[gE]at h
 |.bool _,_,h=>by simp[gE]at h
 |.str _,_,h=>by simp[gE]at h
 |.list _,_,h=>by simp[gE]at h
 |.dict _,_,h=>by simp[gE]at h
def Oy:∀(xs ys:List PyData),cm xs ys=true->(PyData.eqvAll xs ys=true↔xs=ys)
 |[],[],_=>by simp[PyData.eqvAll]
 |[],_ :: _,_=>by simp[PyData.eqvAll]
 |_ :: _,[],_=>by simp[PyData.eqvAll]
 |x :: xs,y :: ys,h=>by
  have h':gE x y=true/\cm xs ys=true:=by simpa[cm]using h
  rw[PyData.eqvAll,ZaB,KY x y h'.1,Oy xs ys h'.2];simp
end
def Dh{x y:PyData}{xs ys:List PyData}(h:gE x y=true):cf (x :: xs) (y :: ys)=true↔(x=y/\cf xs ys=true)\/(x≠y/\md x y=true):=by rw[cf];by_cases e:x=y;rw[if_pos ((KY x y h).mpr e)];simp[e];rw[if_neg (λz=>e ((KY x y h).mp z))];simp[e]
mutual
def KZ:∀a:PyData,md a a=false
 |.int x=>by simp[md]
 |.tuple xs=>by show cf xs xs=false;exact Oz xs
 |.none=>rfl
 |.bool _=>rfl
 |.str _=>rfl
 |.list _=>rfl
 |.dict _=>rfl
def Oz:∀xs:List PyData,cf xs xs=false
 |[]=>rfl
 |x :: xs=>by
  rw[cf];split;exact Oz xs;exact KZ x
end
mutual
def K0:∀(a b:PyData),gE a b=true->gE b a=true->md a b=false->md b a=false->a=b
 |.int x,.int y,_,_,h1,h2=>by
  have h1:=of_decide_eq_false h1;have h2:=of_decide_eq_false h2;rw[show x=y by lk]
 |.tuple xs,.tuple ys,o1,o2,h1,h2=>by rw[OA xs ys o1 o2 h1 h2]
 |.int _,.none,h,_,_,_=>nomatch h
 |.int _,.bool _,h,_,_,_=>nomatch h
 |.int _,.str _,h,_,_,_=>nomatch h
 |.int _,.list _,h,_,_,_=>nomatch h
 |.int _,.tuple _,h,_,_,_=>nomatch h
 |.int _,.dict _,h,_,_,_=>nomatch h
 |.tuple _,.none,h,_,_,_=>nomatch h
 |.tuple _,.bool _,h,_,_,_=>nomatch h
 |.tuple _,.int _,h,_,_,_=>nomatch h
 |.tuple _,.str _,h,_,_,_=>nomatch h
 |.tuple _,.list _,h,_,_,_=>nomatch h
 |.tuple _,.dict _,h,_,_,_=>nomatch h
 |.none,_,h,_,_,_=>by simp[gE]at h
 |.bool _,_,h,_,_,_=>by simp[gE]at h
 |.str _,_,h,_,_,_=>by simp[gE]at h
 |.list _,_,h,_,_,_=>by simp[gE]at h
 |.dict _,_,h,_,_,_=>by simp[gE]at h
def OA:∀(xs ys:List PyData),cm xs ys=true->cm ys xs=true->cf xs ys=false->cf ys xs=false->xs=ys
 |[],[],_,_,_,_=>rfl
 |[],_ :: _,_,_,h,_=>by simp[cf]at h
 |_ :: _,[],_,_,_,h=>by simp[cf]at h
 |x :: xs,y :: ys,o1,o2,h1,h2=>by
  have a:gE x y=true/\cm xs ys=true:=by simpa[cm]using o1
  have b:gE y x=true/\cm ys xs=true:=by simpa[cm]using o2
  have n1:¬((x=y/\cf xs ys=true)\/(x≠y/\md x y=true)):=λz=>by rw[<- Dh a.1]at z;rw[h1]at z;cases z
  have n2:¬((y=x/\cf ys xs=true)\/(y≠x/\md y x=true)):=λz=>by rw[<- Dh b.1]at z;rw[h2]at z;cases z
  by_cases e:x=y;subst e;rw[OA xs ys a.2 b.2 (by cases q:cf xs ys with|false=>rfl|true=>exact absurd (.inl ⟨rfl,q⟩) n1) (by cases q:cf ys xs with|false=>rfl|true=>exact absurd (.inl ⟨rfl,q⟩) n2)];exact absurd (K0 x y a.1 b.1 (by cases q:md x y with|false=>rfl|true=>exact absurd (.inr ⟨e,q⟩) n1) (by cases q:md y x with|false=>rfl|true=>exact absurd (.inr ⟨Ne.symm e,q⟩) n2)) e
end
mutual
def K1:∀(a b c:PyData),gE a b=true->gE b c=true->gE a c=true->md a b=true->md b c=true->md a c=true
 |.int x,.int y,.int z,_,_,_,h1,h2=>by
  have h1:=of_decide_eq_true h1;have h2:=of_decide_eq_true h2;exact decide_eq_true ⋯
 |.tuple xs,.tuple ys,.tuple zs,o1,o2,o3,h1,h2=>OB xs ys zs o1 o2 o3 h1 h2
 |.int _,.int _,.none,_,h,_,_,_=>nomatch h
 |.int _,.int _,.bool _,_,h,_,_,_=>nomatch h
 |.int _,.int _,.str _,_,h,_,_,_=>nomatch h
 |.int _,.int _,.list _,_,h,_,_,_=>nomatch h
 |.int _,.int _,.tuple _,_,h,_,_,_=>nomatch h
 |.int _,.int _,.dict _,_,h,_,_,_=>nomatch h
 |.tuple _,.tuple _,.none,_,h,_,_,_=>nomatch h
 |.tuple _,.tuple _,.bool _,_,h,_,_,_=>nomatch h
 |.tuple _,.tuple _,.str _,_,h,_,_,_=>nomatch h
 |.tuple _,.tuple _,.list _,_,h,_,_,_=>nomatch h
 |.tuple _,.tuple _,.int _,_,h,_,_,_=>nomatch h
 |.tuple _,.tuple _,.dict _,_,h,_,_,_=>nomatch h
 |.int _,.none,_,h,_,_,_,_=>nomatch h
 |.int _,.bool _,_,h,_,_,_,_=>nomatch h
 |.int _,.str _,_,h,_,_,_,_=>nomatch h
 |.int _,.list _,_,h,_,_,_,_=>nomatch h
 |.int _,.tuple _,_,h,_,_,_,_=>nomatch h
 |.int _,.dict _,_,h,_,_,_,_=>nomatch h
 |.tuple _,.none,_,h,_,_,_,_=>nomatch h
 |.tuple _,.bool _,_,h,_,_,_,_=>nomatch h
 |.tuple _,.int _,_,h,_,_,_,_=>nomatch h
 |.tuple _,.str _,_,h,_,_,_,_=>nomatch h
 |.tuple _,.list _,_,h,_,_,_,_=>nomatch h
 |.tuple _,.dict _,_,h,_,_,_,_=>nomatch h
 |.none,_,_,h,_,_,_,_=>by simp[gE]at h
 |.bool _,_,_,h,_,_,_,_=>by simp[gE]at h
 |.str _,_,_,h,_,_,_,_=>by simp[gE]at h
 |.list _,_,_,h,_,_,_,_=>by simp[gE]at h
 |.dict _,_,_,h,_,_,_,_=>by simp[gE]at h
def OB:∀(xs ys zs:List PyData),cm xs ys=true->cm ys zs=true->cm xs zs=true->cf xs ys=true->cf ys zs=true->cf xs zs=true
 |[],[],_,_,_,_,h,_=>by simp[cf]at h
 |[],_ :: _,[],_,_,_,_,h=>by simp[cf]at h
 |[],_ :: _,_ :: _,_,_,_,_,_=>by simp[cf]
 |_ :: _,[],_,_,_,_,h,_=>by simp[cf]at h
 |_ :: _,_ :: _,[],_,_,_,_,h=>by simp[cf]at h
 |x :: xs,y :: ys,z :: zs,o1,o2,o3,h1,h2=>by
  have a:gE x y=true/\cm xs ys=true:=by simpa[cm]using o1
  have b:gE y z=true/\cm ys zs=true:=by simpa[cm]using o2
  have c:gE x z=true/\cm xs zs=true:=by simpa[cm]using o3
  rw[Dh a.1]at h1;rw[Dh b.1]at h2;rw[Dh c.1];rcases h1 with⟨rfl,h1⟩|⟨n1,h1⟩
  rcases h2 with⟨rfl,h2⟩|⟨n2,h2⟩
  exact .inl ⟨rfl,OB xs ys zs a.2 b.2 c.2 h1 h2⟩;exact .inr ⟨n2,h2⟩;rcases h2 with⟨rfl,h2⟩|⟨n2,h2⟩
  exact .inr ⟨n1,h1⟩;have h3:=K1 x y z a.1 b.1 c.1 h1 h2;exact .inr ⟨(λe=>by rw[e,KZ]at h3;cases h3),h3⟩
end
def OC{ds:List PyData}(hok:∀a∈ds,∀b∈ds,gE a b=true)(hn:ds≠[]):Ord λi j=>kd ds (min i (ds.length-1)) (min j (ds.length-1)):=by
 have mem:∀i,ds.getD (min i (ds.length-1)) .none∈ds:=λi=>by
  have hl:0<ds.length:=Zb6.mpr hn;rw[Zad,Z8 ⋯];exact ZaL _
 have as:∀a∈ds,∀b∈ds,md a b=true->md b a=false:=λa ha b hb h=>by
  cases q:md b a with
  |false=>rfl
  |true=>have:=K1 a b a (hok a ha b hb) (hok b hb a ha) (hok a ha a ha) h q;rw[KZ]at this;cases this
 refine⟨λa b c h1 h2=>?_,λa b h=>as _ (mem a) _ (mem b) h⟩;have ma:=mem a;have mb:=mem b;have mc:=mem c;unfold kd at h1 h2 ⊢;generalize ds.getD (min a (ds.length-1)) .none=x at *;generalize ds.getD (min b (ds.length-1)) .none=y at *;generalize ds.getD (min c (ds.length-1)) .none=z at *;cases q:md z x with
 |false=>rfl
 |true =>
  cases q1:md x y with
  |true =>
   have:=K1 z x y (hok z mc x ma) (hok x ma y mb) (hok z mc y mb) q q1;rw[h2]at this;cases this
  |false =>
   have:=K0 x y (hok x ma y mb) (hok y mb x ma) q1 h1;subst this;rw[h2]at q;cases q
section
variable {X:Cx}
abbrev ui(K:Zfr):List V->Hp->VK->Prop:=λxs H Q=>∃(p:Addr) (vs:List V) (ds:List PyData),xs=[.ref p]/\jZ K H p vs/\fN K H vs ds/\ds.length<64/\(∀a∈ds,∀b∈ds,gE a b=true)/\(∀a∈ds,a.canLay0=true/\a.depth<=50)/\(∃p7,∀d∈ds,xq p7 d=true) /\
 ∀(l:Addr) (is:List Nat),H l=none->is.Perm (List.range ds.length)->(is.map λi=>ds.getD i .none).Pairwise (λa b=>md b a=false)->Q (.ref l) (upd H l (.lst (is.map λi=>vs.getD i .non)))
def OD{vs:List V}{its:List Value}(r:Vals vs its):∀(is:List Nat),(∀i∈is,i<vs.length)->Vals (is.map λi=>vs.getD i .non) (is.map λi=>its.getD i Value.none)
 |[],_=>.nil
 |i :: is,h=>by
  have hi:=h i Zac;obtain⟨u,hu,ru⟩:=Vals.get r (Z8 hi);refine .cons ?_ (OD r is λj hj=>h j (Zah _ hj));show RelV (vs.getD i .non) (its.getD i Value.none);rw[Zad,Zad,Z8 hi,hu];exact ru
def OE(hu:X.A.units+64<cLine):eZ X (.builtin "sorted") (ui X.K):=by
 intro pins s σ H xs us Q I r h;obtain⟨p,vs,ds,rfl,hq,hr,h64,hok,hlay,⟨p7,hT⟩,q⟩:=h;obtain⟨u,rfl,ru⟩:=vals1 r;cases ru;obtain⟨its,rv,pl,_⟩:=I.list hq;obtain⟨as,ra⟩:=fN.reads I hr rv;have hlen:its.length=ds.length:=SeqAt.ReadsAll.length _ _ _ ra;have hvl:vs.length=its.length:=rv.length;have o:Ord λi j=>kd ds (min i (ds.length-1)) (min j (ds.length-1)):=by
  by_cases hn:ds=[];subst hn;exact⟨λ_ _ _ _ _=>rfl,λ_ _ _=>rfl⟩;exact OC hok hn
 refine Ue pl.isList ⋯ o (λh2 s' E' hK=>⟨tuples' (!p7),λQ' q'=>Ub (ReadsAll.keeps hK ra) hT ⋯ q',λi j C hi hj c=>?_⟩) λpp a1 a2=>?_;refine Ua (ReadsAll.keeps hK ra) hT hok hlay (by show X.A.units+1+1+52<cLine;lk) hi hj ?_;rw[show min i (ds.length-1)=i by lk,show min j (ds.length-1)=j by lk]at c;exact c;have hb:∀ i∈pp.toList,i < ds.length:=λi hi=>by
  have:=ZaV.mp (a1.pm.subset hi);lk
 have hpl:pp.toList.length=ds.length:=by rw[Za1,a1.sz,hlen]
 obtain⟨e,he⟩:=sortedAll_at s.heap its (oQ its pp);refine⟨.ref (s.heap.objs.size+1),_,I.laid (t':=s.toks) (o:=.lst (pp.toList.map λi=>vs.getD i .non)) (λb o q=>sortedAll_old q) (Zb4 _) ?_,rfl,q _ pp.toList (I.hok.fresh (Zb4 _)) (by rw[<- hlen];exact a1.pm) ?_⟩;refine⟨by rw[Z7,hpl];exact Zap (Zbt h64) ∅,pp.toList.map λi=>its.getD i Value.none,e,OD rv _ λi hi=>by rw[hvl,hlen];exact hb i hi,?_⟩
 have:oQ its pp=(pp.toList.map λi=>its.getD i Value.none).toArray:=rfl;rw[<- this];exact he
 rw[Zba,ZbH];intro i j hi hj hij;have:=a2 i j (Zbt hij) (by rw[hlen,<- hpl];exact hj);have e1:P pp i=pp.toList[i]:=by unfold P;rw[Zbc,<- Za2,Z8 hi];rfl
 have e2:P pp j=pp.toList[j]:=by unfold P;rw[Zbc,<- Za2,Z8 hj];rfl
 have b1:=hb _ (ZaL hi);have b2:=hb _ (ZaL hj);simp only[e1,e2,show min pp.toList[i] (ds.length-1)=pp.toList[i] by lk,show min pp.toList[j] (ds.length-1)=pp.toList[j] by lk]at this;exact this
end
end L2
namespace L2
open PySem PySem.Spec PyProof.Rows
end L2
namespace L2
open PySem PySem.Spec PyProof.Rows PySem.W
end L2
namespace L2
open PySem PySem.Spec PyProof.Rows
open Builtin
end L2
namespace L2
open PySem PySem.Spec PyProof.Rows
end L2
namespace L2
open PySem PySem.Spec PyProof.Rows PySem.W
section
variable {prog:Program}{w:World}{A:Around}{E:Value->Shared->Prop}{s:Shared}
def Ug{v d:Addr}{es:Array DictEntry}{ep:Nat}{Q:Value->Shared->Prop}(hv:s.heap.IsValuesView v d)(m:lI s.heap d es ep)
  (q:Q (.ref s.heap.objs.size) { s with heap:=s.heap.push { cls:=.type "dict_valueiterator",data:=.fields #[.ref d,.int 0 0,.int es.size 0,.int ep 0] } }):wpAny (model prog w) A (pyIter (.ref v)) Q E s:=by
 obtain⟨vo,Uh,hcl,hfs⟩:=id hv;obtain⟨od,hod,hx,xr⟩:=m;refine wpAny_pyIter_slot hv.typeIs F.slot_dict_values_iter (wpAny_call_entry F.slot_dict_values_iter hv.typeIs F.entry_dict_values_iter ?_ (F.args_dict_values_iter_1 _));unfold Builtin.«dict_values.__iter__»;refine wpAny_bind (wpAny_pure (wpAny_bind ?_));unfold Builtin.Dict_items.dictOf;refine wpAny_bind (wpAny_field Uh hfs (x:=.ref d) rfl (wpAny_pure (wpAny_bind ?_)));unfold Builtin.Dict_items.newIterator;refine wpAny_bind (wpAny_dictEntries hod xr (wpAny_bind (wpAny_dictEpoch hod xr ?_)));have uj:Builtin.Dict_items.ownsTuple "dict_valueiterator" = false:=by decide
 simp only[uj,ZaT,if_false];refine wpAny_newObj_type (wpAny_pure ⟨_,rfl,"dict_valueiterator",_,⟨_,Zar _ rfl,rfl⟩,F.slot_dict_valueiterator_next.lookup,?_⟩);simpa only[rawInt]using q
def Ui{it d:Addr}{i ep:Nat}{es:Array DictEntry}{e:DictEntry}{Q:Option Value->Shared->Prop}(ik:s.heap.IsValIter it d i es.size ep)(m:lI s.heap d es ep)(he:es[i]?=some e)
  (q:∀h',h'.IsValIter it d (i+1) es.size ep->Heap.SameBut it s.heap h'->Q (some e.val) { s with heap:=h' }):wpAny (model prog w) A (pyNext (.ref it)) Q E s:=by
 obtain⟨io,hio,hcl,hfs⟩:=id ik;obtain⟨od,hod,hx,xr⟩:=id m;obtain⟨li,ge⟩:=Array.getElem?_eq_some_iff.mp he;unfold pyNext;refine wpAny_bind (wpAny_attempt (wpAny_callSpecial?_slot (name:=Str.ofString "__next__") ik.typeIs F.slot_dict_valueiterator_next (wpAny_call_entry F.slot_dict_valueiterator_next ik.typeIs F.entry_dict_valueiterator_next ?_ (F.args_dict_valueiterator_next_1 _))));refine wpAny_bind (wpAny_pure (wpAny_bind (wpAny_bind ?_)))
 first|refine wpAny_bind (wpAny_typeNameOfWhole_valiter ik.typeIs (wpAny_pure ?_))|refine wpAny_bind (wpAny_typeNameOf_valiter ik.typeIs (wpAny_pure ?_))
 refine wpAny_bind (wpAny_fieldsOf hio hfs ?_);have uj:Builtin.Dict_items.ownsTuple "dict_valueiterator" = false:=by decide
 simp only[uj,ZaT,if_false];refine(show wpAny _ _ (if(Value.ref d == Value.none)=true then _ else _) _ _ s from ?_);rw[if_neg (show ¬(Value.ref d == Value.none)=true from Zaj)];refine wpAny_bind (wpAny_pure (wpAny_bind (wpAny_dictEntries hod xr ?_)));rw[if_neg (by simp)];refine wpAny_bind (wpAny_pure (wpAny_bind (wpAny_dictEpoch hod xr ?_)));rw[if_neg (by simp)];refine wpAny_pure ?_;have ni:¬((i:Int)<0):=by lk
 simp only[ni,if_false,Zao,he];refine wpAny_bind ?_
 first|refine wpAny_bind (wpAny_typeNameOfWhole_valiter ik.typeIs (wpAny_pure ?_))|refine wpAny_bind (wpAny_typeNameOf_valiter ik.typeIs (wpAny_pure ?_))
 refine wpAny_bind (wpAny_isOneOf_valiter ik.typeIs ?_);refine(show wpAny _ _ (setField (.ref it) 1 (rawInt ((i:Int)+1)) >>= λ_=>_) _ _ s from ?_);refine wpAny_bind (wpAny_setField hio hfs (by simp) ?_);have K2:(s.heap.update it (Obj.mapFields λx=>x.setIfInBounds 1 (rawInt ((i:Int)+1)))).IsValIter it d (i+1) es.size ep:=⟨_,Zbg _ hio (Obj.isFreed_of_fields (Obj.data_mapFields hfs _)),(Obj.cls_mapFields ..).trans hcl,by rw[Obj.data_mapFields hfs];simp[rawInt]⟩;refine wpAny_bind (wpAny_holding (wpAny_bind (wpAny_isOneOf_valiter (s:={ s with heap:=s.heap.update it (Obj.mapFields λx=>x.setIfInBounds 1 (rawInt ((i:Int)+1))) }) K2.typeIs (wpAny_bind (wpAny_isOneOf_valiter (s:={ s with heap:=s.heap.update it (Obj.mapFields λx=>x.setIfInBounds 1 (rawInt ((i:Int)+1))) }) K2.typeIs ?_)))));refine(show wpAny _ _ (pure e.val) _ _ _ from wpAny_pure (wpAny_pure ⟨_,rfl,wpAny_pure (q _ K2 (Zbd ..))⟩))
def yP{it d:Addr}{i ep:Nat}{es:Array DictEntry}{Q:Option Value->Shared->Prop}(hh:A.handled=none)(ik:s.heap.IsValIter it d i es.size ep)(m:lI s.heap d es ep)(ge:es.size<=i)
  (q:∀h',Heap.ExtBut it s.heap h'->Q none { s with heap:=h' }):wpAny (model prog w) A (pyNext (.ref it)) Q E s:=by
 obtain⟨io,hio,hcl,hfs⟩:=id ik;obtain⟨od,hod,hx,xr⟩:=id m;unfold pyNext;refine wpAny_bind (wpAny_attempt (wpAny_callSpecial?_slot (name:=Str.ofString "__next__") ik.typeIs F.slot_dict_valueiterator_next (wpAny_call_entry F.slot_dict_valueiterator_next ik.typeIs F.entry_dict_valueiterator_next ?_ (F.args_dict_valueiterator_next_1 _))));refine wpAny_bind (wpAny_pure (wpAny_bind (wpAny_bind ?_)))
 first|refine wpAny_bind (wpAny_typeNameOfWhole_valiter ik.typeIs (wpAny_pure ?_))|refine wpAny_bind (wpAny_typeNameOf_valiter ik.typeIs (wpAny_pure ?_))
 refine wpAny_bind (wpAny_fieldsOf hio hfs ?_);have uj:Builtin.Dict_items.ownsTuple "dict_valueiterator" = false:=by decide
 simp only[uj,ZaT,if_false];refine(show wpAny _ _ (if(Value.ref d == Value.none)=true then _ else _) _ _ s from ?_);rw[if_neg (show ¬(Value.ref d == Value.none)=true from Zaj)];refine wpAny_bind (wpAny_pure (wpAny_bind (wpAny_dictEntries hod xr ?_)));rw[if_neg (by simp)];refine wpAny_bind (wpAny_pure (wpAny_bind (wpAny_dictEpoch hod xr ?_)));rw[if_neg (by simp)];refine wpAny_pure ?_;have ni:¬((i:Int)<0):=by lk
 simp only[ni,if_false,Zao,Array.getElem?_eq_none ge];refine wpAny_bind ?_
 first|refine wpAny_bind (wpAny_typeNameOfWhole_valiter ik.typeIs (wpAny_pure ?_))|refine wpAny_bind (wpAny_typeNameOf_valiter ik.typeIs (wpAny_pure ?_))
 refine(show wpAny _ _ (setField (.ref it) 0 .none >>= λ_=>_) _ _ s from wpAny_bind (wpAny_setField hio hfs (by simp) ?_));refine(show wpAny _ _ (newExc (.type "StopIteration") [] >>= λ_=>_) _ _ _ from wpAny_bind ?_);simp only[newExc,newTuple];refine wpAny_bind (wpAny_newObj_type (wpAny_bind (m:=firstArgMember _ _) (wpAny_of_eq (a:=Value.none) (by first|rfl|(simp only[firstArgMember];rfl)) (wpAny_newObj_type ?_ (by size_fits)))) (by size_fits));simp only[raiseNew];refine wpAny_bind (wpAny_handled ?_)
 first|rw[show A.in1.handled=none from hh]|rw[hh]
 refine wpAny_bind (wpAny_pure (wpAny_throw ?_));refine wpAny_bind (m:=isInstance _ _) (wpAny_isInstance (T:="StopIteration") (b:=true) ⟨_,Zar _ rfl,rfl⟩ isSubtype_stop ?_);exact wpAny_pure (q _ (((Zbd ..).extBut.push _).push _))
def lI.up{h h':Heap}{d:Addr}{es:Array DictEntry}{ep:Nat}(m:lI h d es ep)(k:∀o,h.get? d=some o->h'.get? d=some o):lI h' d es ep:=let ⟨o,e,r⟩:=m;⟨o,k o e,r⟩
def lI.lt{h:Heap}{d:Addr}{es:Array DictEntry}{ep:Nat}(m:lI h d es ep):d<h.objs.size:=let ⟨_,e,_⟩:=m;Zav e
def Uj(hh:A.handled=none)(I d:Addr)(hne:d≠I)(es:Array DictEntry)(ep:Nat):Walks prog w A I [I,d] [I] es.size (λi v=>∃e,es[i]?=some e/\e.val=v) (λi h=>h.IsValIter I d i es.size ep/\lI h d es ep) where
 sub:=λb hb=>by simp at hb;simp[hb]
 frame:=λ_ _ _ st hk=>⟨let ⟨o,e,r⟩:=st.1;⟨o,hk I (by simp) o e,r⟩,st.2.up λo e=>hk d (by simp) o e⟩
 item:=λi s Q E hi st hQ=>by
  have hx:es[i]?=some es[i]:=Array.getElem?_eq_getElem hi;refine Ui st.1 st.2 hx λh' ik sb=>?_;exact hQ _ h' s.toks ⟨_,hx,rfl⟩ ⟨ik,st.2.up λo e=>sb.extBut d o hne e⟩ λb o hb e=>sb.extBut b o (λz=>hb (by simp[z])) e
 done:=λs Q E st hQ=>yP hh st.1 st.2 (Zaa _) λh' eb=>hQ h' s.toks λb o hb e=>eb b o (λz=>hb (by simp[z])) e
 self:=λ_ _ _ _ st hQ=>wpAny_pyIter_valiter st.1 hQ
def Uk(r d:Addr)(es:Array DictEntry)(ep:Nat):KdlSrc prog w "dict_values" r d es.size (λi v=>∃e,es[i]?=some e/\e.val=v) (λh=>h.IsValuesView r d/\lI h d es ep) where
 type:=λ_ hm=>hm.1.typeIs
 there:=λ_ hm=>⟨let ⟨_,e,_⟩:=hm.1;Zav e,hm.2.lt⟩
 keep:=λ_ _ hm hk=>⟨let ⟨o,e,x⟩:=hm.1;⟨o,hk r (.inl rfl) o e,x⟩,hm.2.up λo e=>hk d (.inr rfl) o e⟩
 notList:=by decide
 notTuple:=by decide
 hint:=λ_ _ _ _ hm hq=>kdl_hint_values hm.1.typeIs hq
 iter:=λ_ _ hh hm=>⟨_,_,(λ_ _ hq=>Ug hm.1 hm.2 hq),Uj hh _ d (ZaU hm.2.lt) es ep,⟨⟨_,Zar _ rfl,rfl,rfl⟩,hm.2.up λo e=>Zai _ e⟩⟩
def Ul(d:Addr)(hd:(d == sysModules)=false):MeetsIn prog w (Builtin.«dict.values» ⟨[.ref d],[]⟩) (λ_ R s=>s.TypeIs (.ref d) "dict" /\
   R (.ok (.ret (.ref s.heap.objs.size))) { s with heap:=s.heap.push { cls:=.type "dict_values",data:=.fields #[.ref d] } }) :=
 .of_wp λA R s ⟨ty,h⟩=>by
  refine wpAny_bind ?_;unfold Builtin.Dict.noArgs;refine wpAny_bind (wpAny_notOrdered_dict ty ?_);refine(show wpAny _ _ (pure d) _ _ s from wpAny_pure ?_);refine(show wpAny _ _ (Builtin.Dict.showsAll d >>= λ_=>_) _ _ s from ?_);unfold Builtin.Dict.showsAll;rw[if_neg (show ¬(d == sysModules)=true by rw[hd];decide)];exact wpAny_bind (wpAny_pure (wpAny_bind (wpAny_newObj_type (wpAny_pure ⟨_,rfl,h⟩))))
end
abbrev qM(K:Zfr)(td:TE):TE:=λσ H Q=>td σ H λx H1=>∃(a:Addr) (xs:List (List Int×Addr×Value)) (vs:List V),x=.ref a/\H1 a=some (DU a xs)/\(∀x∈xs,dr K H1 x.2.1 (x.1.map V.int))/\Vals vs (xs.map (·.2.2)) /\
 ∀l,H1 l=none->Q (.ref l) (upd H1 l (.lst vs))
def Um{X:Cx}{o:Expr}{td:TE}{apos cpos pos p:Pos}(hc:X.calm=true)(hg:Gl X "list")(hm:X.mg "list" = none)(ho:PE X o td)
  (hbase:attributeBase o "values" X.env (eval o X.env)=eval o X.env:=by rfl) (hline:(apos.endLine == cpos.line)=true:=by rfl)
  (hs:starEach [.Call (.Attribute o "values" apos) [] [] cpos] X.env=[(false,eval (.Call (.Attribute o "values" apos) [] [] cpos) X.env)]:=by rfl) :
  PE X (.Call (.Name "list" p) [.Call (.Attribute o "values" apos) [] [] cpos] [] pos) (qM X.K td):=by
 intro pins s σ H Q I h;refine wpAny_Call_Name_kw (A7 I hg hm rF ?_ ∅ ∅);refine PyProof.Rows.callWith_type1 ?_ hs rfl;rw[hs];show wpAny _ _ (spliced [(false,eval (.Call (.Attribute o "values" apos) [] [] cpos) X.env)]) _ _ s;refine Calls.spliced_cons (wpAny_Call_method0_late hbase hline (b8 (ho pins s σ H _ I h) λu s1 ⟨x,H1,I1,rx,a,xs,vs,ex,hH,hk,rv,q⟩=>?_));subst ex;obtain rfl:u=Value.ref a:=rx;obtain⟨hd,hl,dd⟩:=I1.du hH hk;obtain⟨od,es,ep,h1,h2,h3,h4,_,_⟩:=id dd;refine⟨"dict","dict.values",PySem.F.plainAttrs_dict,PySem.F.slot_dict_values,PySem.F.type_dict_values,dd.typeIs,(λb q=>by cases q;exact⟨od,h1,h2.2.1⟩),Calls.callWith_builtin rfl (PySem.evalArgs_none ?_)⟩;refine call_meetsIn PySem.F.slot_dict_values dd.typeIs PySem.F.entry_dict_values (PySem.F.args_dict_values_1 _) (Ul a hd) ⟨dd.typeIs,?_⟩;refine Calls.spliced_nil ?_;have hes:es.size=xs.length:=by rw[<- Za1,h4,Z7]
 refine kdl_call (Uk s1.heap.objs.size a es ep) (I1.ok.hd hc) ⟨⟨_,Zar _ rfl,rfl,rfl⟩,⟨od,Zai _ h1,h2,h3⟩⟩ (by rw[hes];exact hl) λh' tk acc c hkeep hL hacc=>?_;have ha:acc.toList=xs.map (·.2.2):=by
  refine ZbT λj=>?_;rw[Zae];by_cases hj:j<xs.length;have hj2:j<acc.toList.length:=by rw[Za1,hacc.1];lk
  obtain⟨e,he,hev⟩:=hacc.2 j _ (by rw[<- Za2];exact Z8 hj2);rw[Z8 hj2,<- hev];rw[<- Za2,h4,Zae,Z8 hj]at he;rw[Z8 hj];cases he;rfl;rw[Za3 (by rw[Za1,hacc.1];lk),Za3 ⋯];rfl
 have hz:(s1.heap.push { cls:=.type "dict_values",data:=.fields #[.ref a] }).objs.size=s1.heap.objs.size+1:=size_push' ..;refine⟨.ref _,_,I1.laid (a:=(s1.heap.push { cls:=.type "dict_values",data:=.fields #[.ref a] }).objs.size) (t':=tk) (o:=.lst vs) (λb ob hb=>hkeep b ob (Zai _ hb)) (by rw[hz];lk) ?_,rfl,q _ (I1.hok.fresh (by rw[hz];lk))⟩;refine⟨by have:=rv.length;rw[Z7]at this;lk,acc.toList,c,by rw[ha];exact rv,by simpa using hL⟩
def Uo{X:Cx}{K:Zfr}{o:Expr}{td:TE}{apos cpos pos p:Pos}(hK:X.K=K)(hc:X.calm=true)(hg:Gl X "list")(hm:X.mg "list" = none)(ho:PE X o td)
  (hbase:attributeBase o "values" X.env (eval o X.env)=eval o X.env:=by rfl) (hline:(apos.endLine == cpos.line)=true:=by rfl)
  (hs:starEach [.Call (.Attribute o "values" apos) [] [] cpos] X.env=[(false,eval (.Call (.Attribute o "values" apos) [] [] cpos) X.env)]:=by rfl) :
  PE X (.Call (.Name "list" p) [.Call (.Attribute o "values" apos) [] [] cpos] [] pos) (qM K td):=by subst hK;exact Um hc hg hm ho hbase hline hs
end L2
namespace L2
open PySem PySem.Spec PyProof.Rows
abbrev Uq:Option Addr->Value
 |none=>.none
 |some T=>.ref T
abbrev XO(a C:Addr)(dx tr:Option Addr):HO:=.ext λh=>∃o vs,h.get? a=some o/\o.cls=.ref C/\o.dict=dx/\o.data=.fields vs/\vs[1]?=some (Uq tr)
end L2
namespace L2
open PySem PySem.Spec PyProof.Rows PySem.W
end L2
namespace L2
open PySem PySem.Spec PyProof.Rows
end L2
namespace L2
open PySem PySem.Spec PyProof.Rows PySem.W PySem.Builtin PySem.Builtin.ObjectAttr
end L2
namespace L2
open PySem PySem.Spec PyProof.Rows PySem.W
end L2
namespace L2
open PySem PySem.Spec PyProof.Rows
section
variable {X:Cx}
abbrev xt(i j:Int):Prop:=j≠0/\j.natAbs.log2<9000
def Ur:lN X (binaryOp .FloorDiv) (rI xt λi j=>.int (i.fdiv j)):=Ba λ_ j _ _ _ _ _ hc q=>floordiv_int hc.1 q (.inl (PyProof.noPylong_of_log2 hc.2))
end
open Builtin
abbrev P2(k:Nat):Nat:=2 ^ k
def OG(a b:Nat):P2 a*P2 b=P2 (a+b):=(Nat.pow_add 2 a b).symm
def Di{a b:Nat}(h:a<=b):P2 a<=P2 b:=ZbI ∅ h
def Bj(a:Nat):0<P2 a:=Nat.two_pow_pos a
def yQ(a n:Nat):P2 a ^ n=P2 (a*n):=(Nat.pow_mul 2 a n).symm
def vG(a:Nat):P2 (a+1)=2*P2 a:=by unfold P2;rw[Nat.pow_succ,ZbW]
def OH(a:Nat):a<P2 a:=Nat.lt_two_pow_self
abbrev rJ(i j:Int):Prop:=tN i j\/(Builtin.Int.intBits i<=60000000/\Builtin.Int.intBits j<=60000000)
def xu{i:Int}{k:Nat}(h:i.natAbs<P2 k)(hk:k<=60000000):Builtin.Int.intBits i<=60000000:=Zap (PyProof.Rows.intBits_le h) hk
def rJ.ok{i j:Int}(h:rJ i j):IntMulOk i j:=by
 rcases h with h|⟨h1,h2⟩
 exact h.ok;exact PyProof.Rows.mulOk_of_bits (m:=60000000) (n:=60000000) h1 h2 ∅
section
variable {X:Cx}
def rK:lN X (binaryOp .Mult) (rI rJ λi j=>.int (i*j)):=Ba λ_ _ _ _ _ _ _ hc q=>mul_int q hc.ok
end
end L2
namespace af
abbrev upto(n:Nat):List Int:=(List.range n).map λ(k:Nat)=>(k:Int)
def qN(n:Nat):(upto n).length=n:=by simp[upto]
def ke{n:Nat}{x:Int}:x∈upto n↔0<=x/\x<(n:Int):=by simp only[upto,Zag,ZaV];constructor;rintro⟨k,hk,rfl⟩;lk;rintro⟨h1,h2⟩;exact⟨x.toNat,by lk,by lk⟩
def OI(n:Nat):(upto n).Pairwise (· < ·):=by unfold upto;rw[Zba];exact(Zce).imp λh=>by lk
def Dj(n:Nat):(upto n).Nodup:=(OI n).imp λh=>by lk
def Hc:∀{xs ys:List Int},xs.Nodup->(∀x∈xs,x∈ys)->ys.length<=xs.length->xs.Perm ys
 |[],ys,_,_,h=>by
  have:ys=[]:=Zbx (by simpa using h);subst this;exact Zbo _
 |x :: xs,ys,hn,hs,hl=>by
  obtain⟨h1,h2⟩:=Zbb.mp hn;have hx:x∈ys:=hs x Zac;have hp:=ZbZ hx;have hlen:(ys.erase x).length+1=ys.length:=by have:=hp.length_eq;simpa using this.symm
  refine List.Perm.trans (List.Perm.cons x (Hc (ys:=ys.erase x) h2 (λy hy=>?_) ?_)) hp.symm;have hne:y≠x:=λe=>h1 (e ▸ hy);exact(Zb0 hne).mpr (hs y (Zah _ hy));simp at hl;lk
def Bk{xs:List Int}(hn:xs.Nodup)(hb:∀x∈xs,0<=x/\x<(xs.length:Int)):xs.Perm (upto xs.length):=Hc hn (λx hx=>ke.mpr (hb x hx)) (by rw[qN];exact Zaa _)
end af
namespace af
abbrev app(xs:List Int)(i:Int):Int:=xs.getD i.toNat 0
abbrev aU(xs:List Int)(i:Int):Nat->Int
 |0=>i
 |j+1=>app xs (aU xs i j)
abbrev Tn(n:Nat)(xs:List Int):Prop:=xs.Perm (upto n)
def Tn.length{n:Nat}{xs:List Int}(h:Tn n xs):xs.length=n:=by rw[h.length_eq,qN]
def Tn.nodup{n:Nat}{xs:List Int}(h:Tn n xs):xs.Nodup:=h.nodup_iff.mpr (Dj n)
def Tn.bound{n:Nat}{xs:List Int}(h:Tn n xs){x:Int}(hx:x∈xs):0<=x/\x<(n:Int):=ke.mp (h.subset hx)
def qh{xs:List Int}{i:Int}(h0:0<=i)(h1:i<(xs.length:Int)):xs[i.toNat]?=some (app xs i):=by
 have:i.toNat<xs.length:=by lk
 unfold app;rw[Zad,Z8 this];rfl
def Us{xs:List Int}{i:Int}(h0:0<=i)(h1:i<(xs.length:Int)):app xs i∈xs:=Zab (qh h0 h1)
def Tn.app{n:Nat}{xs:List Int}(h:Tn n xs){i:Int}(h0:0<=i)(h1:i<(n:Int)):0<=app xs i/\app xs i<(n:Int):=h.bound (Us h0 (by rw[h.length];exact h1))
def Tn.inj{n:Nat}{xs:List Int}(h:Tn n xs){i j:Int}(i0:0<=i)(i1:i<(n:Int))(j0:0<=j)(j1:j<(n:Int))(e:af.app xs i=af.app xs j):i=j:=by have hl:=h.length;have a:=qh i0 (by rw[hl];exact i1);have b:=qh j0 (by rw[hl];exact j1);rw[e]at a;obtain⟨ha,ea⟩:=Z9.mp a;obtain⟨hb,eb⟩:=Z9.mp b;have:=(ZbX h.nodup).mp (ea.trans eb.symm);lk
def Tn.aU{n:Nat}{xs:List Int}(h:Tn n xs){i:Int}(h0:0<=i)(h1:i<(n:Int)):∀j,0<=aU xs i j/\aU xs i j<(n:Int)
 |0=>⟨h0,h1⟩
 |j+1=>h.app (h.aU h0 h1 j).1 (h.aU h0 h1 j).2
def Tn.back{n:Nat}{xs:List Int}(h:Tn n xs){i:Int}(h0:0<=i)(h1:i<(n:Int)):∀(a d:Nat),af.aU xs i a=af.aU xs i (a+d)->af.aU xs i d=i
 |0,d,e=>by rw[Zb8]at e;exact e.symm
 |a+1,d,e=>by
  have e':af.app xs (af.aU xs i a)=af.app xs (af.aU xs i (a+d)):=by
   have:a+1+d=(a+d)+1:=by lk
   rw[this]at e;exact e
  exact h.back h0 h1 a d (h.inj (h.aU h0 h1 a).1 (h.aU h0 h1 a).2 (h.aU h0 h1 _).1 (h.aU h0 h1 _).2 e')
def yR:∀{xs ys:List Int},xs.Nodup->(∀x∈xs,x∈ys)->xs.length<=ys.length
 |[],_,_,_=>ZaM _
 |x :: xs,ys,hn,hs=>by
  obtain⟨h1,h2⟩:=Zbb.mp hn;have hx:x∈ys:=hs x Zac;have hp:=ZbZ hx;have hlen:(ys.erase x).length+1=ys.length:=by have:=hp.length_eq;simpa using this.symm
  have:=yR (ys:=ys.erase x) h2 λy hy=>(Zb0 (a:=y) (b:=x) (λe=>h1 (by rw[<- e];exact hy))).mpr (hs y (Zah _ hy));simp only[ZaG];lk
abbrev row(xs:List Int)(i:Int)(m:Nat):List Int:=(List.range (m+1)).map (aU xs i)
def K3(xs:List Int)(i:Int)(m:Nat):row xs i (m+1)=row xs i m ++ [aU xs i (m+1)]:=by unfold row;rw[List.range_succ,Zau];rfl
def sU(xs:List Int)(i:Int)(m:Nat):(row xs i m).length=m+1:=by simp[row]
def qO{xs:List Int}{i:Int}{m:Nat}{x:Int}:x∈row xs i m↔∃j,j<=m/\aU xs i j=x:=by unfold row;rw[Zag];constructor;rintro⟨j,hj,e⟩;exact⟨j,by have:=ZaV.mp hj;lk,e⟩;rintro⟨j,hj,e⟩;exact⟨j,ZaV.mpr ⋯,e⟩
abbrev NB(xs:List Int)(i:Int)(m:Nat):Prop:=∀j,1<=j->j<=m->aU xs i j≠i
def Tn.iL{n:Nat}{xs:List Int}(h:Tn n xs){i:Int}(h0:0<=i)(h1:i<(n:Int)){m:Nat}(nb:NB xs i m):m+1<=n:=by
 have hn:(row xs i m).Nodup:=by
  unfold row List.Nodup;rw[Zba];refine Zbh (R:=λa b=>a<b) ?_ Zce;intro a b ha hb hab e;have ha':=ZaV.mp ha;have hb':=ZaV.mp hb;obtain⟨d,rfl⟩:∃d,b=a+d:=⟨b-a,by lk⟩;exact nb d ⋯ ⋯ (h.back h0 h1 a d e)
 have:=yR hn (ys:=upto n) λx hx=>by
  obtain⟨j,_,rfl⟩:=qO.mp hx;exact ke.mpr (h.aU h0 h1 j)
 rw[sU,qN]at this;exact this
structure bu(xs:List Int)(i:Int)(r:List Int):Prop where
 ex:∃m,r=row xs i m/\NB xs i m/\aU xs i (m+1)=i
def bu.unique{xs:List Int}{i:Int}{r r':List Int}(a:bu xs i r)(b:bu xs i r'):r=r':=by
 obtain⟨m,e1,n1,b1⟩:=a.ex;obtain⟨m',e2,n2,b2⟩:=b.ex;have:m=m':=by
  rcases Nat.lt_trichotomy m m' with h|h|h
  exact absurd b1 (n2 (m+1) ⋯ ⋯);exact h;exact absurd b2 (n1 (m' + 1) ⋯ ⋯)
 rw[e1,e2,this]
def bu.mem{xs:List Int}{i:Int}{r:List Int}(a:bu xs i r):i∈r:=by obtain⟨m,e1,_,_⟩:=a.ex;rw[e1];exact qO.mpr ⟨0,ZaM _,rfl⟩
def bu.len{n:Nat}{xs:List Int}(h:Tn n xs){i:Int}(h0:0<=i)(h1:i<(n:Int)){r:List Int}(a:bu xs i r):r.length<=n:=by obtain⟨m,e1,nb,_⟩:=a.ex;rw[e1,sU];exact h.iL h0 h1 nb
def bu.bound{n:Nat}{xs:List Int}(h:Tn n xs){i:Int}(h0:0<=i)(h1:i<(n:Int)){r:List Int}(a:bu xs i r):∀x∈r,0<=x/\x<(n:Int):=by obtain⟨m,e1,nb,_⟩:=a.ex;subst e1;intro x hx;obtain⟨j,_,rfl⟩:=qO.mp hx;exact h.aU h0 h1 j
abbrev out(left r:List Int):List Int:=left.filter λk=>!r.contains k
inductive i5(xs:List Int):List Int->List (List Int)->Prop
 |nil:i5 xs [] []
 |cons {i:Int} {left r:List Int} {rs:List (List Int)}:bu xs i r->i5 xs (out (i :: left) r) rs->i5 xs (i :: left) (r :: rs)
def yS{i:Int}{left r:List Int}(h:i∈r):(out (i :: left) r).length<=left.length:=by
 unfold out;rw[Zcj];have:(!r.contains i)=false:=by simp[h]
 rw[if_neg (by rw[this];decide)];exact Zbp _ _
abbrev from'(n k:Nat)(seen:Int->Bool):List Int:=(((List.range n).drop k).map λ(j:Nat)=>(j:Int)).filter λx=>!seen x
def OJ(n:Nat)(seen:Int->Bool):from' n n seen=[]:=by unfold from';rw[Zcd (by simp)];rfl
def OL{n k:Nat}(h:k<n)(seen:Int->Bool):from' n k seen=if seen (k:Int)then from' n (k+1) seen else(k:Int) :: from' n (k+1) seen:=by unfold from';rw[ZbG (by simpa using h),Zaq,Zcj];simp only[Zcu];cases hs:seen (k:Int)<;>simp
def OM{n k:Nat}{seen:Int->Bool}{r:List Int}:out (from' n k seen) r=from' n k (λx=>seen x || r.contains x):=by
 unfold out from';rw[List.filter_filter]
 congr 1
 funext x
 show(!r.contains x && !seen x)=!(seen x || r.contains x);cases seen x<;>cases r.contains x<;>rfl
def OO(n:Nat):from' n 0 (λ_=>false)=upto n:=by unfold from' upto;rw[List.drop_zero];simp
abbrev rL(n:Nat):List Int:=((List.range (n-1)).map λ(k:Nat)=>(1:Int)+k) ++ [0]
def Ut:∀n,n<21->0<n->(rL n).isPerm (upto n)=true:=by decide
def OQ{n:Nat}(h:n<21)(h0:0<n):Tn n (rL n):=List.isPerm_iff.mp (Ut n h h0)
end af
namespace af
def Dk{n:Nat}{xs:List Int}(h:xs.length=n):(upto n).map (app xs)=xs:=by apply List.ext_getElem;rw[Z7,qN,h];intro i h1 h2;have e:=qh (xs:=xs) (i:=(i:Int)) ⋯ ⋯;simp only[Zao]at e;rw[Z8 h2]at e;rw[Zb1];unfold upto;simp only[Zb1,Zcu];exact(Zam e).symm
abbrev inv(xs:List Int):List Int:=(upto xs.length).map λi=>(xs.idxOf i:Int)
def Bl(xs:List Int):(inv xs).length=xs.length:=by unfold inv;rw[Z7,qN]
def K4{n i:Nat}(h:i<n):(upto n)[i]?=some (i:Int):=by unfold upto;rw[Zae,Zbz h];rfl
def Bm{xs:List Int}{i:Int}(h0:0<=i)(h1:i<(xs.length:Int)):app (inv xs) i=(xs.idxOf i:Int):=by have e:=qh (xs:=inv xs) h0 (by rw[Bl];exact h1);unfold inv at e;rw[Zae,K4 ⋯]at e;have:=Zam e;rw[<- inv]at this;rw[<- this,ZaI h0]
def Tn.mem{n:Nat}{xs:List Int}(h:Tn n xs){i:Int}(h0:0<=i)(h1:i<(n:Int)):i∈xs:=h.symm.subset (ke.mpr ⟨h0,h1⟩)
def Tn.idx{n:Nat}{xs:List Int}(h:Tn n xs){i:Int}(h0:0<=i)(h1:i<(n:Int)):xs.idxOf i<n:=by rw[<- h.length];exact List.idxOf_lt_length_of_mem (h.mem h0 h1)
def Tn.bU{n:Nat}{xs:List Int}(h:Tn n xs){i:Int}(h0:0<=i)(h1:i<(n:Int)):af.app xs (af.app (inv xs) i)=i:=by rw[Bm h0 (by rw[h.length];exact h1)];have hl:=h.idx h0 h1;have e:=qh (xs:=xs) (i:=(xs.idxOf i:Int)) ⋯ (by rw[h.length];lk);rw[Zao,Z8 (by rw[h.length];exact hl)]at e;rw[<- Zam e];exact List.getElem_idxOf _
def Tn.lB{n:Nat}{xs:List Int}(h:Tn n xs){i:Int}(h0:0<=i)(h1:i<(n:Int)):0<=af.app (inv xs) i/\af.app (inv xs) i<(n:Int):=by rw[Bm h0 (by rw[h.length];exact h1)];have:=h.idx h0 h1;lk
def Tn.fe{n:Nat}{xs:List Int}(h:Tn n xs){i:Int}(h0:0<=i)(h1:i<(n:Int)):af.app (inv xs) (af.app xs i)=i:=by obtain⟨a0,a1⟩:=h.app h0 h1;obtain⟨b0,b1⟩:=h.lB a0 a1;exact h.inj b0 b1 h0 h1 (h.bU a0 a1)
def Tn.aC{n:Nat}{xs:List Int}(h:Tn n xs):Tn n (inv xs):=by
 have hl:=h.length;unfold Tn;have e:(inv xs).length=n:=by rw[Bl,hl]
 have:=Bk (xs:=inv xs) ?_ ?_
 rw[e]at this;exact this;unfold List.Nodup;rw[ZbH];intro i j hi hj hij z;have a:=qh (xs:=inv xs) (i:=(i:Int)) ⋯ ⋯;have b:=qh (xs:=inv xs) (i:=(j:Int)) ⋯ ⋯;rw[Zao,Z8 hi]at a;rw[Zao,Z8 hj]at b;have a:=Zam a;have b:=Zam b;have c:=h.bU (i:=(i:Int)) ⋯ ⋯;have d:=h.bU (i:=(j:Int)) ⋯ ⋯;rw[<- a]at c;rw[<- b,<- z]at d;have:=c.symm.trans d;lk;intro x hx;unfold inv at hx;obtain⟨i,hi,rfl⟩:=Zag.mp hx;have:=ke.mp hi;rw[hl]at this;have:=h.idx this.1 this.2;rw[e];lk
def sW(xs:List Int)(i:Int)(j:Nat):∀d,aU xs (aU xs i j) d=aU xs i (j+d)
 |0=>rfl
 |d+1=>by show app xs (aU xs (aU xs i j) d)=app xs (aU xs i (j+d));rw[sW xs i j d]
def Hd{xs:List Int}{i:Int}{L:Nat}(h:aU xs i L=i)(a:Nat):aU xs i (a+L)=aU xs i a:=by rw[Nat.add_comm,<- sW xs i L a,h]
def Dl{xs:List Int}{i:Int}{L:Nat}(h:aU xs i L=i):∀(q r:Nat),aU xs i (r+L*q)=aU xs i r
 |0,r=>rfl
 |q+1,r=>by rw[Nat.mul_succ,<- Nat.add_assoc,Hd h];exact Dl h q r
def OR{xs:List Int}{i:Int}{L:Nat}(h:aU xs i L=i)(a:Nat):aU xs i (a % L)=aU xs i a:=by have:=Dl h (a / L) (a % L);rw[Nat.mod_add_div]at this;exact this.symm
abbrev OS(xs:List Int)(k i v:Int):Prop:=∃m,NB xs i m/\aU xs i (m+1)=i/\v=aU xs i (k % ((m+1:Nat):Int)).toNat
def Tn.yT{n:Nat}{xs:List Int}(h:Tn n xs){i:Int}(h0:0<=i)(h1:i<(n:Int)){m:Nat}(nb:NB xs i m)(bk:af.aU xs i (m+1)=i)(j:Nat)(k:Int):
  OS xs k (af.aU xs i j) (af.aU xs i (((j:Int)+k) % ((m+1:Nat):Int)).toNat):=by
 refine⟨m,λd d1 d2 e=>?_,?_,?_⟩;rw[sW]at e;exact nb d d1 d2 (h.back h0 h1 j d e.symm);rw[sW,Hd bk];rw[sW];rw[<- OR bk (j+(k % ((m+1:Nat):Int)).toNat)]
 congr 1
 have hL:(0:Int)<((m+1:Nat):Int):=by lk
 have k0:=Zbf k (Int.ne_of_gt hL);have e:(((j+(k % ((m+1:Nat):Int)).toNat) % (m+1):Nat):Int)=((j:Int)+k) % ((m+1:Nat):Int):=by
  rw[Int.natCast_emod,Int.natCast_add,ZaI k0,Int.add_emod_emod]
 rw[<- e,Zao]
def i5.all{xs:List Int}:∀{left:List Int} {rs:List (List Int)},i5 xs left rs->(∀r∈rs,∃i∈left,bu xs i r)/\∀x∈left,∃r∈rs,x∈r:=by
 intro left rs a
 induction a with
 |nil=>exact⟨λr hr=>(nomatch hr),λx hx=>(nomatch hx)⟩
 |cons h1 _ ih =>
  refine⟨λr hr=>?_,λx hx=>?_⟩
  ·rcases Zax.mp hr with rfl|hr
   ·exact⟨_,Zac,h1⟩
   ·obtain⟨i,hi,r'⟩:=ih.1 r hr
    exact⟨i,(Zaw.mp hi).1,r'⟩
  ·rename_i i left r rs _
   by_cases hc:x∈r
   ·exact⟨r,Zac,hc⟩
   ·obtain⟨r',hr',hx'⟩:=ih.2 x (Zaw.mpr ⟨hx,by simp[hc]⟩)
    exact⟨r',Zah _ hr',hx'⟩
def Uu{n:Nat}{xs:List Int}(h:Tn n xs):xs.map (app (inv xs))=upto n:=by
 have e:((upto n).map (app xs)).map (app (inv xs))=upto n:=by
  rw[Zat]
  conv=>rhs;rw[<- Zcf (upto n)]
  apply ZaX;intro x hx;obtain⟨a,b⟩:=ke.mp hx;exact h.fe a b
 rw[Dk h.length]at e;exact e
def Uv{n:Nat}{xs:List Int}(h:Tn n xs):(inv xs).map (app xs)=upto n:=by
 have e:((upto n).map (app (inv xs))).map (app xs)=upto n:=by
  rw[Zat]
  conv=>rhs;rw[<- Zcf (upto n)]
  apply ZaX;intro x hx;obtain⟨a,b⟩:=ke.mp hx;exact h.bU a b
 rw[Dk (h.aC).length]at e;exact e
end af
namespace af
inductive i6(xs ys:List Int):Int->Prop
 |zero:i6 xs ys 0
 |r {x:Int}:i6 xs ys x->i6 xs ys (app xs x)
 |u {x:Int}:i6 xs ys x->i6 xs ys (app ys x)
def i6.bound{n:Nat}{xs ys:List Int}(hx:Tn n xs)(hy:Tn n ys)(h0:0<n){x:Int}(h:i6 xs ys x):0<=x/\x<(n:Int):=by
 induction h with
 |zero=>lk
 |r _ ih=>exact hx.app ih.1 ih.2
 |u _ ih=>exact hy.app ih.1 ih.2
def i6.aU{xs ys:List Int}{x:Int}(h:i6 xs ys x):∀k,i6 xs ys (af.aU xs x k)
 |0=>h
 |k+1=>.r (h.aU k)
abbrev oR(xs:List Int)(m:Nat):List Int:=(xs.set 0 (app xs m)).set m (app xs 0)
def Uw(xs:List Int)(m:Nat):(oR xs m).length=xs.length:=by simp[oR]
def K5{xs:List Int}{m:Nat}{v x:Int}(hm:m<xs.length)(h0:0<=x):app (xs.set m v) x=if x=(m:Int)then v else app xs x:=by unfold app;rw[Zad,Zad];by_cases hx:x=(m:Int);rw[if_pos hx,hx,Zao,Zal hm];rfl;rw[if_neg hx,ZaA ⋯]
def Bn{xs:List Int}{m:Nat}(hm:m<xs.length){x:Int}(h0:0<=x):app (oR xs m) x=if x=(m:Int)then app xs 0 else if x=0 then app xs m else app xs x:=by unfold oR;rw[K5 (by simpa using hm) h0,K5 ⋯ h0];rfl
def yU{n:Nat}{xs:List Int}(h:Tn n xs){m:Nat}(hm:m<n):Tn n (oR xs m):=by
 have hl:=h.length;have e:(oR xs m).length=n:=by rw[Uw,hl]
 have:=Bk (xs:=oR xs m) ?_ ?_
 unfold Tn;rw[e]at this;exact this;unfold List.Nodup;rw[ZbH];intro i j hi hj hij z;have a:=qh (xs:=oR xs m) (i:=(i:Int)) ⋯ ⋯;have b:=qh (xs:=oR xs m) (i:=(j:Int)) ⋯ ⋯;rw[Zao,Z8 hi]at a;rw[Zao,Z8 hj]at b;have a:=Zam a;have b:=Zam b;rw[Bn ⋯ ⋯]at a b;rw[a,b]at z;have inj:∀p q:Int,0<=p->p<(n:Int)->0<=q->q<(n:Int)->app xs p=app xs q->p=q:=λp q p0 p1 q0 q1=>h.inj p0 p1 q0 q1;split at z<;>split at z<;>(try split at z)<;>(try split at z)<;>(first|lk|(have:=inj _ _ ⋯ ⋯ ⋯ ⋯ z;lk));intro x hx;obtain⟨i,hi,rfl⟩:=Za8 hx;have a:=qh (xs:=oR xs m) (i:=(i:Int)) ⋯ ⋯;rw[Zao,Z8 hi]at a;rw[Zam a,Bn ⋯ ⋯,e];split;exact h.app ⋯ ⋯;split;exact h.app ⋯ ⋯;exact h.app ⋯ ⋯
def Tn.rM{n:Nat}{xs:List Int}(h:Tn n xs){i:Int}(h0:0<=i)(h1:i<(n:Int)):∃m,NB xs i m/\af.aU xs i (m+1)=i:=by
 by_cases hb:∃m,m<n/\af.aU xs i (m+1)=i
 -- the least
 have key:∀b:Nat,(∃m,m<b/\af.aU xs i (m+1)=i)->∃m,NB xs i m/\af.aU xs i (m+1)=i:=by
  intro b
  induction b with
  |zero=>rintro⟨m,hm,_⟩;lk
  |succ b ih =>
   rintro⟨m,hm,e⟩;by_cases hc:∃m,m<b/\af.aU xs i (m+1)=i;exact ih hc;refine⟨m,λj j1 j2 z=>hc ⟨j-1,by lk,?_⟩,e⟩
   have:j-1+1=j:=by lk
   rw[this];exact z
 exact key n hb;have nb:NB xs i n:=λj j1 j2 z=>by
  refine hb ⟨j-1,by lk,?_⟩;have:j-1+1=j:=by lk
  rw[this];exact z
 have:=h.iL h0 h1 nb;lk
def Ux{n:Nat}{xs ys:List Int}(hx:Tn n xs)(hy:Tn n ys){m:Nat}(hm:m<n)(nm:¬i6 xs ys (m:Int)):i6 (oR xs m) ys (m:Int)/\∀x,i6 xs ys x->i6 (oR xs m) ys x:=by
 have hl:=hx.length;have m0:m≠0:=λz=>nm (by rw[z];exact .zero);obtain⟨M,nb,bk⟩:=hx.rM (i:=(m:Int)) ⋯ ⋯;have Uy:∀j,af.aU xs (m:Int) j≠0:=by
  intro j z;have h':i6 xs ys (af.aU xs (af.aU xs (m:Int) j) ((M+1)*j)):=by rw[z];exact i6.zero.aU _
  rw[sW]at h';have e2:af.aU xs (m:Int) ((M+1)*(j+1))=(m:Int):=by
   have:=Dl bk (j+1) 0;rw[Zb8]at this;exact this
  have h3:=h'.aU ((M+1)*(j+1)-(j+(M+1)*j));rw[sW]at h3;have e3:j+(M+1)*j+((M+1)*(j+1)-(j+(M+1)*j))=if j+(M+1)*j<=(M+1)*(j+1)then(M+1)*(j+1)else j+(M+1)*j:=by split<;>lk
  rw[e3]at h3;by_cases hc:j+(M+1)*j<=(M+1)*(j+1)
  ·rw[if_pos hc,e2]at h3
   exact nm h3
  ·-- round as often as needed
   have h4:=h'.aU ((M+1)*(2*j+2)-(j+(M+1)*j));rw[sW]at h4;have hbig:j+(M+1)*j<=(M+1)*(2*j+2):=by
    have a1:(M+1)*(2*j+2)=(M+1)*j+((M+1)*j+(M+1)*2):=by rw[<- Nat.mul_add,<- Nat.mul_add];congr 1;lk
    have a2:j<=(M+1)*j:=Nat.le_mul_of_pos_left j ⋯;lk
   have e5:j+(M+1)*j+((M+1)*(2*j+2)-(j+(M+1)*j))=(M+1)*(2*j+2):=by lk
   rw[e5]at h4;have:=Dl bk (2*j+2) 0;rw[Zb8]at this;rw[this]at h4;exact nm h4
 have ring:∀j,j<=M->i6 (oR xs m) ys (af.aU xs (m:Int) (j+1)):=by
  intro j
  induction j with
  |zero =>
   intro _;have h1:i6 (oR xs m) ys (af.app (oR xs m) 0):=.r .zero;rw[Bn ⋯ ⋯,if_neg ⋯,if_pos rfl]at h1;exact h1
  |succ j ih =>
   intro hj;have h1:=(ih ⋯).r;have b:=hx.aU (i:=(m:Int)) ⋯ ⋯ (j+1);rw[Bn ⋯ b.1,if_neg (nb (j+1) ⋯ ⋯),if_neg (Uy (j+1))]at h1;exact h1
 have OT:i6 (oR xs m) ys (m:Int):=by have:=ring M (Zaa _);rwa [bk]at this
 refine⟨OT,λx h=>?_⟩;have hpos:0<n:=by lk
 induction h with
 |zero=>exact .zero
 |r hx' ih =>
  rename_i x
  have b:=hx'.bound hx hy hpos;by_cases h0:x=0
  ·have h1:=OT.r
   rw[Bn ⋯ ⋯,if_pos rfl]at h1;rw[h0];exact h1
  ·have Uz:x≠(m:Int):=λz=>nm (by rw[<- z];exact hx')
   have h1:=ih.r;rw[Bn ⋯ b.1,if_neg Uz,if_neg h0]at h1;exact h1
 |u _ ih=>exact ih.u
abbrev Cl(xs ys F:List Int):Prop:=∀x∈F,app xs x∈F/\app ys x∈F
def Cl.all{xs ys F:List Int}(h:Cl xs ys F)(h0:(0:Int)∈F){x:Int}(r:i6 xs ys x):x∈F:=by
 induction r with
 |zero=>exact h0
 |r _ ih=>exact(h _ ih).1
 |u _ ih=>exact(h _ ih).2
structure Fd(xs ys:List Int)(F:List Int):Prop where
 z:(0:Int)∈F
 nd:F.Nodup
 mt:∀x∈F,i6 xs ys x
def Fd.len{n:Nat}{xs ys F:List Int}(h:Fd xs ys F)(hx:Tn n xs)(hy:Tn n ys)(h0:0<n):F.length<=n:=by have:=yR h.nd (ys:=upto n) λx hx'=>ke.mpr ((h.mt x hx').bound hx hy h0);rw[qN]at this;exact this
def Fd.one(xs ys:List Int):Fd xs ys [0]:=⟨by simp,by simp,λx hx=>(show x=0 by simpa using hx) ▸ .zero⟩
def round{xs ys F F1 F2:List Int}(d:Fd xs ys F)(d2:Fd xs ys F2)(p1:F <+: F1)(p2:F1 <+: F2)(c1:∀x∈F,app xs x∈F1)(c2:∀x∈F1,app ys x∈F2){t:Nat}(h:Cl xs ys F\/t+1<=F.length):Cl xs ys F2\/t+1+1<=F2.length:=by
 have p:=p1.trans p2;by_cases hc:Cl xs ys F;refine .inl λx hx=>?_;have hF:=hc.all d.z (d2.mt x hx);exact⟨p.subset (hc x hF).1,p.subset (hc x hF).2⟩;have hl:=h.resolve_left hc;by_cases he:F2.length<=F.length;refine absurd ?_ hc;have e2:F2=F:=(p.eq_of_length (by have:=p.length_le;lk)).symm;have e1:F1=F:=by
  have a:=p1.length_le;have b:=p2.length_le;exact(p1.eq_of_length ⋯).symm
 intro x hx;refine⟨?_,?_⟩
 have:=c1 x hx;rwa [e1]at this
 have:=c2 x (by rw[e1];exact hx);rwa [e2]at this
 exact .inr ⋯
abbrev uk(w n:Nat):List Int:=((List.range (w-1)).map λ(k:Nat)=>(1:Int)+k) ++ [0] ++ ((List.range (n-w)).map λ(k:Nat)=>(w:Int)+k)
abbrev vH(w n:Nat):List Int:=[(w:Int)] ++ ((List.range (w-1)).map λ(k:Nat)=>(1:Int)+k) ++ ((List.range (n-(w+1))).map λ(k:Nat)=>((w:Int)+1)+k) ++ [0]
def UA:∀n,n<21->∀w,w<n+1->0<w->(uk w n).isPerm (upto n)=true:=by decide +kernel
def UB:∀n,n<21->∀w,w<n->0<w->(vH w n).isPerm (upto n)=true:=by decide +kernel
def UC{w n:Nat}(h:n<21)(h1:w<=n)(h0:0<w):Tn n (uk w n):=List.isPerm_iff.mp (UA n h w ⋯ h0)
def UD{w n:Nat}(h:n<21)(h1:w<n)(h0:0<w):Tn n (vH w n):=List.isPerm_iff.mp (UB n h w h1 h0)
def less{L L':List Int}{m:Int}(nd:L'.Nodup)(hs:∀x∈L',x∈L)(hm:m∈L)(hm':m ∉ L'):L'.length<L.length:=by
 have hp:=ZbZ hm;have hlen:(L.erase m).length+1=L.length:=by have:=hp.length_eq;simpa using this.symm
 have:=yR (ys:=L.erase m) nd λx hx=>(Zb0 (λe=>hm' (by rw[<- e];exact hx))).mpr (hs x hx);lk
end af
namespace af
abbrev aY(xs ys:List Int):List Int:=xs.map (app ys)
def vI(xs ys:List Int):(aY xs ys).length=xs.length:=by simp[aY]
def rN{n:Nat}{xs ys:List Int}(hx:xs.length=n)(hy:ys.length=n)(h:∀s:Int,0<=s->s<(n:Int)->app xs s=app ys s):xs=ys:=by rw[<- Dk hx,<- Dk hy];apply ZaX;intro s hs;obtain⟨h0,h1⟩:=ke.mp hs;exact h s h0 h1
def oq{xs ys:List Int}{s:Int}(h0:0<=s)(h1:s<(xs.length:Int)):app (aY xs ys) s=app ys (app xs s):=by have e:=qh (xs:=aY xs ys) h0 (by rw[vI];exact h1);unfold aY at e;rw[Zae,qh h0 h1]at e;exact(Zam e).symm
def Tn.um{n:Nat}{xs:List Int}(hl:xs.length=n)(hb:∀s:Int,0<=s->s<(n:Int)->0<=af.app xs s/\af.app xs s<(n:Int))(hi:∀s t:Int,0<=s->s<(n:Int)->0<=t->t<(n:Int)->af.app xs s=af.app xs t->s=t):Tn n xs:=by
 have el:∀(i:Nat) (h:i<xs.length),xs[i]=af.app xs (i:Int):=λi h=>by
  have a:=qh (xs:=xs) (i:=(i:Int)) ⋯ ⋯;rw[Zao,Z8 h]at a;exact Zam a
 have:=Bk (xs:=xs) ?_ ?_
 unfold Tn;rw[hl]at this;exact this;unfold List.Nodup;rw[ZbH];intro i j h1 h2 hij z;rw[el i h1,el j h2]at z;have:=hi i j ⋯ ⋯ ⋯ ⋯ z;lk;intro x hx;obtain⟨i,h,rfl⟩:=Za8 hx;rw[el i h,hl];exact hb i ⋯ ⋯
def Tn.aY{n:Nat}{xs ys:List Int}(hx:Tn n xs)(hy:Tn n ys):Tn n (aY xs ys):=by have hl:=hx.length;refine Tn.um (by rw[vI];exact hl) (λs h0 h1=>?_) λs t s0 s1 t0 t1 e=>?_;rw[oq h0 ⋯];obtain⟨a,b⟩:=hx.app h0 h1;exact hy.app a b;rw[oq s0 ⋯,oq t0 ⋯]at e;obtain⟨a,b⟩:=hx.app s0 s1;obtain⟨c,d⟩:=hx.app t0 t1;exact hx.inj s0 s1 t0 t1 (hy.inj a b c d e)
def Tn.vJ{n:Nat}{xs ys:List Int}(hx:Tn n xs)(hy:Tn n ys){s:Int}(h0:0<=s)(h1:s<(n:Int)):af.app (inv (af.aY xs ys)) s=af.app (inv xs) (af.app (inv ys) s):=by have hf:=hx.aY hy;obtain⟨a0,a1⟩:=hy.lB h0 h1;obtain⟨b0,b1⟩:=hx.lB a0 a1;obtain⟨c0,c1⟩:=hf.lB h0 h1;refine hf.inj c0 c1 b0 b1 ?_;rw[hf.bU h0 h1,oq b0 (by rw[hx.length];exact b1),hx.bU a0 a1,hy.bU h0 h1]
abbrev anew(xs p:List Int):List Int:=aY (aY (inv p) xs) p
def Tn.anew{n:Nat}{xs p:List Int}(hx:Tn n xs)(hp:Tn n p):Tn n (anew xs p):=(hp.aC.aY hx).aY hp
def Tn.i7{n:Nat}{xs p:List Int}(hx:Tn n xs)(hp:Tn n p){s:Int}(h0:0<=s)(h1:s<(n:Int)):af.app (af.anew xs p) s=af.app p (af.app xs (af.app (inv p) s)):=by have hl:=hp.aC.length;unfold af.anew;rw[oq h0 (by rw[vI,hl];exact h1),oq h0 (by rw[hl];exact h1)]
def Tn.dw{n:Nat}{xs p:List Int}(hx:Tn n xs)(hp:Tn n p){s:Int}(h0:0<=s)(h1:s<(n:Int)):af.app (af.anew xs p) (af.app p s)=af.app p (af.app xs s):=by obtain⟨a,b⟩:=hp.app h0 h1;rw[hx.i7 hp a b,hp.fe h0 h1]
def Tn.o5{n:Nat}{xs p q:List Int}(hx:Tn n xs)(hp:Tn n p)(hq:Tn n q):af.anew (af.anew xs p) q=af.anew xs (af.aY p q):=by have hf:=hp.aY hq;refine rN (n:=n) ((hx.anew hp).anew hq).length (hx.anew hf).length λs h0 h1=>?_;obtain⟨a0,a1⟩:=hq.lB h0 h1;obtain⟨b0,b1⟩:=hp.lB a0 a1;obtain⟨c0,c1⟩:=hx.app b0 b1;rw[(hx.anew hp).i7 hq h0 h1,hx.i7 hp a0 a1,hx.i7 hf h0 h1,hp.vJ hq h0 h1,oq c0 (by rw[hp.length];exact c1)]
def Tn.o6{n:Nat}{xs p:List Int}(hx:Tn n xs)(hp:Tn n p):af.anew (af.anew xs p) (inv p)=xs:=by
 refine rN (n:=n) ((hx.anew hp).anew hp.aC).length hx.length λs h0 h1=>?_;obtain⟨a0,a1⟩:=hp.aC.lB h0 h1;have e:af.app (inv (inv p)) s=af.app p s:=by
  obtain⟨b0,b1⟩:=hp.app h0 h1;refine hp.aC.inj a0 a1 b0 b1 ?_;rw[hp.aC.bU h0 h1,hp.fe h0 h1]
 obtain⟨b0,b1⟩:=hp.app h0 h1;obtain⟨c0,c1⟩:=hx.app h0 h1;rw[(hx.anew hp).i7 hp.aC h0 h1,e,hx.dw hp h0 h1,hp.fe c0 c1]
end af
namespace af
abbrev dy(F:List Int)(x:Int):List Int:=if x∈F then F else F ++ [x]
def Dn(F:List Int)(x:Int):F <+: dy F x:=by unfold dy;split;exact Zb2 _;exact Zcw _ _
def rO{F:List Int}{x y:Int}:y∈dy F x↔y∈F\/y=x:=by
 unfold dy;split
 ·next h=>exact⟨.inl,λz=>z.elim id λe=>e ▸ h⟩
 ·rw[Zay,Zas]
def OU{F:List Int}{x:Int}(h:F.Nodup):(dy F x).Nodup:=by
 unfold dy;split
 ·exact h
 ·next hx =>
  rw[ZbE];exact⟨h,by simp,λa ha b hb e=>hx (by rw[Zas]at hb;rw[<- hb,<- e];exact ha)⟩
abbrev visit(xs ys F:List Int)(x:Int):List Int:=dy (dy F (app xs x)) (app ys x)
abbrev bf(xs ys:List Int)(s:Int):Nat->List Int
 |0=>[s]
 |k+1=>match (bf xs ys s k)[k]? with
  |some x=>visit xs ys (bf xs ys s k) x
  |none=>bf xs ys s k
def UE(xs ys:List Int)(s:Int)(k:Nat):bf xs ys s k <+: bf xs ys s (k+1):=by show _ <+: (match (bf xs ys s k)[k]? with|some x=>visit xs ys (bf xs ys s k) x|none=>bf xs ys s k);split;exact(Dn _ _).trans (Dn _ _);exact Zb2 _
def Bo(xs ys:List Int)(s:Int)(k:Nat):∀d,bf xs ys s k <+: bf xs ys s (k+d)
 |0=>Zb2 _
 |d+1=>(Bo xs ys s k d).trans (UE xs ys s (k+d))
def yV(xs ys:List Int)(s:Int):∀k,(bf xs ys s k).Nodup
 |0=>by show[s].Nodup;simp
 |k+1=>by
  show(match (bf xs ys s k)[k]? with|some x=>visit xs ys (bf xs ys s k) x|none=>bf xs ys s k).Nodup;split;exact OU (OU (yV xs ys s k));exact yV xs ys s k
def K7{xs ys:List Int}{s:Int}{k:Nat}(h:(bf xs ys s k).length<=k):∀d,bf xs ys s (k+d)=bf xs ys s k
 |0=>rfl
 |d+1=>by
  have e:=K7 h d;show(match (bf xs ys s (k+d))[k+d]? with|some x=>visit xs ys (bf xs ys s (k+d)) x|none=>bf xs ys s (k+d))=_;rw[e,Za3 ⋯]
section
variable {n:Nat}{xs ys:List Int}{s:Int}
def sX(hx:Tn n xs)(hy:Tn n ys)(s0:0<=s)(s1:s<(n:Int)):∀k,∀x∈bf xs ys s k,0<=x/\x<(n:Int)
 |0,x,h=>by rw[Zas.mp (show x∈[s]from h)];exact⟨s0,s1⟩
 |k+1,x,h=>by
  have ih:=sX hx hy s0 s1 k;have h':x∈(match (bf xs ys s k)[k]? with|some y=>visit xs ys (bf xs ys s k) y|none=>bf xs ys s k):=h;split at h'
  ·next y hy' =>
   obtain⟨y0,y1⟩:=ih y (Zab hy');rcases rO.mp h' with h'|rfl
   ·rcases rO.mp h' with h'|rfl
    ·exact ih x h'
    ·exact hx.app y0 y1
   ·exact hy.app y0 y1
  ·exact ih x h'
def K8(hx:Tn n xs)(hy:Tn n ys)(s0:0<=s)(s1:s<(n:Int))(k:Nat):(bf xs ys s k).length<=n:=by have:=yR (yV xs ys s k) (ys:=upto n) λx h=>ke.mpr (sX hx hy s0 s1 k x h);rw[qN]at this;exact this
def Dp{k i:Nat}(hik:i<=k){x:Int}(h:(bf xs ys s k)[i]?=some x):(bf xs ys s i)[i]?=some x:=by obtain⟨d,rfl⟩:∃d,k=i+d:=⟨k-i,by lk⟩;by_cases hl:(bf xs ys s i).length<=i;rw[K7 hl d]at h;exact h;obtain⟨t,e⟩:=Bo xs ys s i d;rw[<- e,Zan ⋯]at h;exact h
def K9(hx:Tn n xs)(hy:Tn n ys)(s0:0<=s)(s1:s<(n:Int)):Cl xs ys (bf xs ys s n):=by
 intro x hm;obtain⟨i,hi,e⟩:=Za8 hm;have hl:=K8 hx hy s0 s1 n;have hi':(bf xs ys s i)[i]?=some x:=Dp (k:=n) ⋯ (by rw[Z8 hi,e]);have hs:visit xs ys (bf xs ys s i) x <+: bf xs ys s n:=by
  have:=Bo xs ys s (i+1) (n-(i+1));rw[show i+1+(n-(i+1))=n by lk]at this;have e2:bf xs ys s (i+1)=visit xs ys (bf xs ys s i) x:=by
   show(match (bf xs ys s i)[i]? with|some x=>visit xs ys (bf xs ys s i) x|none=>bf xs ys s i)=_;rw[hi']
  rw[<- e2];exact this
 refine⟨hs.subset ?_,hs.subset ?_⟩;exact rO.mpr (.inl (rO.mpr (.inr rfl)));exact rO.mpr (.inr rfl)
def yW{zs F:List Int}(hz:Tn n zs)(nd:F.Nodup)(hb:∀x∈F,0<=x/\x<(n:Int))(hc:∀x∈F,app zs x∈F){y:Int}(y0:0<=y)(y1:y<(n:Int))(h:app zs y∈F):y∈F:=by
 have La:(F.map (app zs)).Nodup:=by
  unfold List.Nodup;rw[Zba];refine Zbh (λ{a b} ha hb' hab e=>?_) nd;obtain⟨a0,a1⟩:=hb a ha;obtain⟨b0,b1⟩:=hb b hb';exact hab (hz.inj a0 a1 b0 b1 e)
 have pm:(F.map (app zs)).Perm F:=Hc La (λx hx=>by obtain⟨z,hz',rfl⟩:=Zag.mp hx;exact hc z hz') (by simp);obtain⟨z,Bp,e⟩:=Zag.mp (pm.symm.subset h);obtain⟨z0,z1⟩:=hb z Bp;rw[<- hz.inj z0 z1 y0 y1 e];exact Bp
def OV(hx:Tn n xs)(hy:Tn n ys)(s0:0<=s)(s1:s<(n:Int))(all:∀x:Int,0<=x->x<(n:Int)->i6 xs ys x){x:Int}(x0:0<=x)(x1:x<(n:Int)):x∈bf xs ys s n:=by
 have cl:=K9 hx hy s0 s1;have nd:=yV xs ys s n;have bd:=sX hx hy s0 s1 n;have hs:s∈bf xs ys s n:=by
  have:=Bo xs ys s 0 n;rw[Zb8]at this;exact this.subset (show s∈[s] by simp)
 have hpos:0<n:=by lk
 have zero:∀y,i6 xs ys y->y∈bf xs ys s n->(0:Int)∈bf xs ys s n:=by
  intro y hr
  induction hr with
  |zero=>exact id
  |r h ih =>
   intro hm;obtain⟨a,b⟩:=h.bound hx hy hpos;exact ih (yW hx nd bd (λx hx'=>(cl x hx').1) a b hm)
  |u h ih =>
   intro hm;obtain⟨a,b⟩:=h.bound hx hy hpos;exact ih (yW hy nd bd (λx hx'=>(cl x hx').2) a b hm)
 exact cl.all (zero s (all s s0 s1) hs) (all x x0 x1)
def Lb(hx:Tn n xs)(hy:Tn n ys)(s0:0<=s)(s1:s<(n:Int))(all:∀x:Int,0<=x->x<(n:Int)->i6 xs ys x):Tn n (bf xs ys s n) :=
 Hc (yV xs ys s n) (λx h=>ke.mpr (sX hx hy s0 s1 n x h)) (by
  have:=yR (Dj n) (ys:=bf xs ys s n) λx h=>by obtain⟨a,b⟩:=ke.mp h;exact OV hx hy s0 s1 all a b
  exact this)
def OW{p F:List Int}(hp:Tn n p)(hb:∀x∈F,0<=x/\x<(n:Int)){x:Int}(x0:0<=x)(x1:x<(n:Int)):dy (F.map (app p)) (app p x)=(dy F x).map (app p):=by
 unfold dy
 have e:app p x∈F.map (app p)↔x∈F:=⟨λh=>by
  obtain⟨y,hy,e⟩:=Zag.mp h;obtain⟨y0,y1⟩:=hb y hy
  rw[<- hp.inj y0 y1 x0 x1 e];exact hy,λh=>Zag.mpr ⟨x,h,rfl⟩⟩
 by_cases h:x∈F;rw[if_pos h,if_pos (e.mpr h)];rw[if_neg h,if_neg λz=>h (e.mp z),Zau];rfl
def Lc{p:List Int}(hx:Tn n xs)(hy:Tn n ys)(hp:Tn n p)(s0:0<=s)(s1:s<(n:Int)):∀k,bf (anew xs p) (anew ys p) (app p s) k=(bf xs ys s k).map (app p)
 |0=>rfl
 |k+1=>by
  have ih:=Lc hx hy hp s0 s1 k;show(match (bf (anew xs p) (anew ys p) (app p s) k)[k]? with|some x=>visit (anew xs p) (anew ys p) (bf (anew xs p) (anew ys p) (app p s) k) x|none=>bf (anew xs p) (anew ys p) (app p s) k)=(match (bf xs ys s k)[k]? with|some x=>visit xs ys (bf xs ys s k) x|none=>bf xs ys s k).map (app p);rw[ih,Zae];cases h:(bf xs ys s k)[k]? with
  |none=>rfl
  |some x =>
   obtain⟨x0,x1⟩:=sX hx hy s0 s1 k x (Zab h);obtain⟨a0,a1⟩:=hx.app x0 x1;obtain⟨b0,b1⟩:=hy.app x0 x1;show visit (anew xs p) (anew ys p) ((bf xs ys s k).map (app p)) (app p x)=(visit xs ys (bf xs ys s k) x).map (app p);unfold visit;rw[hx.dw hp x0 x1,hy.dw hp x0 x1,OW hp (sX hx hy s0 s1 k) a0 a1,OW hp (λz hz=>?_) b0 b1];rcases rO.mp hz with hz|rfl
   exact sX hx hy s0 s1 k z hz;exact⟨a0,a1⟩
end
abbrev num(zs sq:List Int):List Int:=sq.map λo=>(sq.idxOf (app zs o):Int)
def Tn.inv_inv{n:Nat}{p:List Int}(hp:Tn n p):inv (inv p)=p:=by refine rN (n:=n) hp.aC.aC.length hp.length λs h0 h1=>?_;obtain⟨a0,a1⟩:=hp.aC.lB h0 h1;obtain⟨b0,b1⟩:=hp.app h0 h1;refine hp.aC.inj a0 a1 b0 b1 ?_;rw[hp.aC.bU h0 h1,hp.fe h0 h1]
def He{n:Nat}{zs sq:List Int}(hz:Tn n zs)(hs:Tn n sq):anew zs (inv sq)=num zs sq:=by unfold anew num aY;rw[hs.inv_inv,Zat];apply ZaX;intro o ho;obtain⟨o0,o1⟩:=hs.bound ho;obtain⟨a0,a1⟩:=hz.app o0 o1;exact Bm a0 (by rw[hs.length];exact a1)
def OX{n:Nat}{p:List Int}(hp:Tn n p):∀{sq:List Int},(∀x∈sq,0<=x/\x<(n:Int))->∀{y:Int},0<=y->y<(n:Int)->(sq.map (app p)).idxOf (app p y)=sq.idxOf y
 |[],_,_,_,_=>rfl
 |a :: r,hb,y,y0,y1=>by
  obtain⟨a0,a1⟩:=hb a Zac;rw[Zaq,List.idxOf_cons,List.idxOf_cons,OX hp (λx hx=>hb x (Zah _ hx)) y0 y1];by_cases e:a=y;rw[e];simp;have e2:app p a≠app p y:=λz=>e (hp.inj a0 a1 y0 y1 z);rw[show(a == y)=false by simpa using e,show(app p a == app p y)=false by simpa using e2]
def OY{n:Nat}{zs sq p:List Int}(hz:Tn n zs)(hp:Tn n p)(hb:∀x∈sq,0<=x/\x<(n:Int)):num (anew zs p) (sq.map (app p))=num zs sq:=by unfold num;rw[Zat];apply ZaX;intro o ho;obtain⟨o0,o1⟩:=hb o ho;obtain⟨a0,a1⟩:=hz.app o0 o1;show((sq.map (app p)).idxOf (app (anew zs p) (app p o)):Int)=_;rw[hz.dw hp o0 o1,OX hp hb a0 a1]
end af
namespace af
abbrev pw(xs:List Int)(k i:Int):Int:=if 0<=k then aU xs i k.toNat else aU (inv xs) i (-k).toNat
section
variable {n:Nat}{xs:List Int}{i:Int}
def Tn.pC(h:Tn n xs)(i0:0<=i)(i1:i<(n:Int)):∀(k m:Nat),af.aU (inv xs) (af.aU xs i m) k=if k<=m then af.aU xs i (m-k)else af.aU (inv xs) i (k-m)
 |0,m=>by rw[if_pos (ZaM _),Nat.sub_zero];rfl
 |k+1,m=>by
  show af.app (inv xs) (af.aU (inv xs) (af.aU xs i m) k)=_;rw[h.pC i0 i1 k m];by_cases hk:k<=m;rw[if_pos hk];by_cases hk1:k+1<=m;rw[if_pos hk1];obtain⟨d,hd⟩:∃d,m-k=d+1:=⟨m-k-1,by lk⟩;rw[hd,show m-(k+1)=d by lk];obtain⟨a,b⟩:=h.aU i0 i1 d;exact h.fe a b;rw[if_neg hk1,show m-k=0 by lk,show k+1-m=1 by lk];rfl;rw[if_neg hk,if_neg ⋯,show k+1-m=(k-m)+1 by lk];rfl
def Tn.uo(h:Tn n xs)(i0:0<=i)(i1:i<(n:Int))(k m:Nat):af.aU xs (af.aU (inv xs) i m) k=if k<=m then af.aU (inv xs) i (m-k)else af.aU xs i (k-m):=by have:=h.aC.pC i0 i1 k m;rw[h.inv_inv]at this;exact this
def Tn.pw(h:Tn n xs)(i0:0<=i)(i1:i<(n:Int))(k:Int):0<=af.pw xs k i/\af.pw xs k i<(n:Int):=by unfold af.pw;split;exact h.aU i0 i1 _;exact h.aC.aU i0 i1 _
def Tn.pw_add(h:Tn n xs)(i0:0<=i)(i1:i<(n:Int))(a b:Int):af.pw xs a (af.pw xs b i)=af.pw xs (a+b) i:=by
 by_cases ha:0<=a<;>by_cases hb:0<=b;unfold af.pw;rw[if_pos ha,if_pos hb,if_pos ⋯,sW]
 congr 1
 lk;have e1:af.pw xs b i=af.aU (inv xs) i (-b).toNat:=by unfold af.pw;rw[if_neg hb]
 have e2:∀j,af.pw xs a j=af.aU xs j a.toNat:=λj=>by unfold af.pw;rw[if_pos ha]
 rw[e1,e2,h.uo i0 i1];unfold af.pw;split;split;rw[show(-b).toNat-a.toNat=0 by lk,show(a+b).toNat=0 by lk];rfl
 congr 1;lk
 rw[if_pos ⋯];congr 1;lk;have e1:af.pw xs b i=af.aU xs i b.toNat:=by unfold af.pw;rw[if_pos hb]
 have e2:∀j,af.pw xs a j=af.aU (inv xs) j (-a).toNat:=λj=>by unfold af.pw;rw[if_neg ha]
 rw[e1,e2,h.pC i0 i1];unfold af.pw;split;rw[if_pos ⋯];congr 1;lk;rw[if_neg ⋯];congr 1;lk;unfold af.pw;rw[if_neg ha,if_neg hb,if_neg ⋯,sW]
 congr 1
 lk
def Tn.pw_per(h:Tn n xs)(i0:0<=i)(i1:i<(n:Int)){L:Nat}(hL:af.aU xs i L=i)(q:Int):af.pw xs ((L:Int)*q) i=i:=by
 have pos:∀m:Nat,af.pw xs ((L:Int)*(m:Int)) i=i:=λm=>by
  unfold af.pw;rw[if_pos (Zcb ⋯ ⋯),show((L:Int)*(m:Int)).toNat=0+L*m by rw[<- Int.natCast_mul,Zao];lk,Dl hL];rfl
 by_cases hq:0<=q;obtain⟨m,rfl⟩:∃m:Nat,q=(m:Int):=⟨q.toNat,by lk⟩;exact pos m;obtain⟨m,rfl⟩:∃m:Nat,q=-(m:Int):=⟨(-q).toNat,by lk⟩
 have:=h.pw_add i0 i1 ((L:Int) * -(m:Int)) ((L:Int)*(m:Int));rw[pos m]at this;rw[this,Int.mul_neg,Int.add_left_neg];rfl
def Tn.yX(h:Tn n xs)(i0:0<=i)(i1:i<(n:Int)){k v:Int}(o:OS xs k i v):v=af.pw xs k i:=by
 obtain⟨m,_,bk,rfl⟩:=o;have m0:=Zbf k (show((m+1:Nat):Int)≠0 by lk);have e:af.aU xs i (k % ((m+1:Nat):Int)).toNat=af.pw xs (k % ((m+1:Nat):Int)) i:=by unfold af.pw;rw[if_pos m0]
 rw[e];have e2:=h.pw_add i0 i1 (k % ((m+1:Nat):Int)) (((m+1:Nat):Int)*(k / ((m+1:Nat):Int)));rw[h.pw_per i0 i1 bk,Int.emod_add_mul_ediv]at e2;exact e2
end
abbrev cy(xs:List Int)(k:Int):List Int:=(upto xs.length).map (pw xs k)
def Dq(xs:List Int)(k:Int):(cy xs k).length=xs.length:=by simp[cy,qN]
def qP{xs:List Int}{k s:Int}(s0:0<=s)(s1:s<(xs.length:Int)):app (cy xs k) s=pw xs k s:=by have e:=qh (xs:=cy xs k) s0 (by rw[Dq];exact s1);unfold cy at e;rw[Zae,K4 ⋯]at e;have:=Zam e;rw[ZaI s0]at this;exact this.symm
def Tn.cy{n:Nat}{xs:List Int}(h:Tn n xs)(k:Int):Tn n (cy xs k):=by have hl:=h.length;refine Tn.um (by rw[Dq];exact hl) (λs s0 s1=>by rw[qP s0 ⋯];exact h.pw s0 s1 k) λs t s0 s1 t0 t1 e=>?_;rw[qP s0 ⋯,qP t0 ⋯]at e;have e2:=congrArg (af.pw xs (-k)) e;rw[h.pw_add s0 s1,h.pw_add t0 t1,Int.add_left_neg]at e2;exact e2
abbrev shr(xs ys:List Int)(k:Int):List Int:=aY (cy xs (-k)) ys
def Tn.shr{n:Nat}{xs ys:List Int}(hx:Tn n xs)(hy:Tn n ys)(k:Int):Tn n (shr xs ys k):=(hx.cy (-k)).aY hy
def Tn.jk{n:Nat}{xs ys:List Int}(hx:Tn n xs){k s:Int}(s0:0<=s)(s1:s<(n:Int)):af.app (af.shr xs ys k) s=af.app ys (af.pw xs (-k) s):=by have hl:=hx.length;unfold af.shr;rw[oq s0 (by rw[Dq,hl];exact s1),qP s0 (by rw[hl];exact s1)]
def Tn.rP{n:Nat}{xs ys:List Int}(hx:Tn n xs)(hy:Tn n ys)(a b:Int):af.shr xs (af.shr xs ys a) b=af.shr xs ys (a+b):=by refine rN (n:=n) (hx.shr (hx.shr hy a) b).length (hx.shr hy (a+b)).length λs s0 s1=>?_;obtain⟨p0,p1⟩:=hx.pw s0 s1 (-b);rw[hx.jk s0 s1,hx.jk p0 p1,hx.jk s0 s1,hx.pw_add s0 s1,show -a + -b=-(a+b) by lk]
def Tn.qi{n:Nat}{xs ys:List Int}(hx:Tn n xs)(hy:Tn n ys):af.shr xs ys 0=ys:=by refine rN (n:=n) (hx.shr hy 0).length hy.length λs s0 s1=>?_;rw[hx.jk s0 s1];rfl
end af
namespace af
abbrev tb(l:Int->Nat)(p:Int->Int)(a b:Int):Bool:=if l a=l b\/l (p a)=l (p b)then false else(decide (l a<l b)).xor (decide (l (p a)<l (p b)))
section
variable {n:Nat}{L:List Int}{l:Int->Nat}
abbrev j3(xs ys:List Int):List Int:=aY (aY xs ys) (aY (inv xs) (inv ys))
def Tn.j3{xs ys:List Int}(hx:Tn n xs)(hy:Tn n ys):Tn n (j3 xs ys):=(hx.aY hy).aY (hx.aC.aY hy.aC)
end
end af
namespace af
def bu.step{xs r:List Int}{i:Int}(h:bu xs i r){a:Int}(ha:a∈r):app xs a∈r:=by obtain⟨m,e,_,bk⟩:=h.ex;subst e;obtain⟨j,hj,rfl⟩:=qO.mp ha;by_cases q:j=m;subst q;exact qO.mpr ⟨0,ZaM _,bk.symm⟩;exact qO.mpr ⟨j+1,by lk,rfl⟩
def bu.nodup{n:Nat}{xs r:List Int}{i:Int}(h:Tn n xs)(h0:0<=i)(h1:i<(n:Int))(a:bu xs i r):r.Nodup:=by obtain⟨m,e,nb,_⟩:=a.ex;subst e;unfold row List.Nodup;rw[Zba];refine Zbh (R:=λa b=>a<b) ?_ Zce;intro a b ha hb hab e;have hb':=ZaV.mp hb;obtain⟨d,rfl⟩:∃d,b=a+d:=⟨b-a,by lk⟩;exact nb d ⋯ ⋯ (h.back h0 h1 a d e)
def bu.uq{n:Nat}{xs r:List Int}{i:Int}(h:Tn n xs)(h0:0<=i)(h1:i<(n:Int))(a:bu xs i r){x:Int}(x0:0<=x)(x1:x<(n:Int))(hx:app xs x∈r):x∈r:=by
 obtain⟨m,e,nb,bk⟩:=a.ex;subst e;obtain⟨j,hj,e⟩:=qO.mp hx;cases j with
 |zero =>
  have e':app xs (aU xs i m)=app xs x:=bk.trans e;have:=h.inj (h.aU h0 h1 m).1 (h.aU h0 h1 m).2 x0 x1 e';exact qO.mpr ⟨m,Zaa _,this⟩
 |succ j =>
  have e':app xs (aU xs i j)=app xs x:=e;have:=h.inj (h.aU h0 h1 j).1 (h.aU h0 h1 j).2 x0 x1 e';exact qO.mpr ⟨j,by lk,this⟩
def i5.perm{n:Nat}{xs:List Int}(h:Tn n xs):∀{left:List Int} {rs:List (List Int)},i5 xs left rs->left.Nodup->(∀x∈left,(0<=x/\x<(n:Int))/\app xs x∈left)->rs.flatten.Perm left:=by
 intro left rs a
 induction a with
 |nil=>intro _ _;exact Zbo _
 |cons h1 _ ih =>
  rename_i i left r rs _
  intro nd cl;obtain⟨i0,i1⟩:=(cl i Zac).1;have sub:∀x∈r,x∈i :: left:=by
   obtain⟨m,e,_,_⟩:=h1.ex;subst e;have:∀j,aU xs i j∈i :: left:=λj=>by
    induction j with
    |zero=>exact Zac
    |succ j ih=>exact(cl _ ih).2
   intro x hx;obtain⟨j,_,rfl⟩:=qO.mp hx;exact this j
  have p:=ih (Zcl Zb7 nd) (λx hx=>by
   obtain⟨Ld,Le⟩:=Zaw.mp hx;have nr:x ∉ r:=by simpa using Le
   obtain⟨b,c⟩:=cl x Ld
   exact⟨b,Zaw.mpr ⟨c,by simpa usingλz=>nr (h1.uq h i0 i1 b.1 b.2 z)⟩⟩)
  rw[Zbl];refine(List.Perm.append_left r p).trans ?_;refine(Zbm ?_ nd).mpr ?_
  ·refine ZbE.mpr ⟨h1.nodup h i0 i1,Zcl Zb7 nd,?_⟩
   intro a ha b hb e;subst e;have:=(Zaw.mp hb).2;simp[ha]at this
  ·intro x
   rw[Zay];constructor
   ·rintro(q|q)
    ·exact sub x q
    ·exact(Zaw.mp q).1
   ·intro q
    by_cases c:x∈r
    ·exact .inl c
    ·exact .inr (Zaw.mpr ⟨q,by simp[c]⟩)
def i5.Bk{n:Nat}{xs:List Int}(h:Tn n xs){rs:List (List Int)}(a:i5 xs (upto n) rs):rs.flatten.Perm (upto n) :=
 a.perm h (Dj n) λx hx=>⟨ke.mp hx,ke.mpr (h.app (ke.mp hx).1 (ke.mp hx).2)⟩
end af
namespace af
@[reducible]def Sp:=Bool×Int
abbrev cJ(s:Sp):Prop:=(s.1=false->1<=s.2/\s.2<=3)/\s.2≠0
abbrev jl(a b:Sp):Int:=if a.1 then a.2+b.2 else(a.2+b.2) % 4
abbrev cq(a b:Sp):List Sp:=if jl a b=0 then[]else[(a.1,jl a b)]
abbrev cz:List Sp->Sp->List Sp
 |[],s=>[s]
 |t :: r,s=>if t.1=s.1 then cq t s ++ r else s :: t :: r
def vK(t:Sp)(r:List Sp)(s:Sp):cz (t :: r) s=if t.1=s.1 then cq t s ++ r else s :: t :: r:=rfl
abbrev pE(w:List Sp):List Sp:=w.foldl cz []
abbrev nF(s:Sp):Sp:=(s.1,if s.1 then -s.2 else 4-s.2)
abbrev lC(w:List Sp):List Sp:=(w.map nF).reverse
abbrev Pl:List Sp->Prop
 |[]=>True
 |a :: r=>cJ a/\(∀b,r.head?=some b->a.1≠b.1)/\Pl r
def Pl.pr:∀{l:List Sp},Pl l->∀s∈l,cJ s
 |a :: r,h,s,hs=>by
  rcases Zax.mp hs with rfl|hs
  exact h.1;exact Pl.pr h.2.2 s hs
def OZ{a b:Sp}(ha:cJ a)(e:a.1=b.1):(jl a b=0/\cq a b=[])\/(cJ (a.1,jl a b)/\cq a b=[(a.1,jl a b)]):=by unfold cq;by_cases h:jl a b=0;exact .inl ⟨h,by rw[if_pos h]⟩;refine .inr ⟨⟨λhf=>?_,h⟩,by rw[if_neg h]⟩;simp only at hf;unfold jl at h ⊢;simp only[hf,ZaT,if_false]at h ⊢;lk
def Pl.push{l:List Sp}{s:Sp}(h:Pl l)(hs:cJ s):Pl (cz l s):=by
 cases l with
 |nil=>exact⟨hs,λb h=>(nomatch h),trivial⟩
 |cons t r =>
  rw[vK];split
  ·next e =>
   rcases OZ h.1 e with⟨_,ej⟩|⟨hp,ej⟩
   ·rw[ej];exact h.2.2
   ·rw[ej];exact⟨hp,h.2.1,h.2.2⟩
  ·next e =>
   refine⟨hs,λb hb=>?_,h⟩;cases hb;exactλe'=>e e'.symm
def Pl.fold{w:List Sp}:∀{l:List Sp},Pl l->(∀s∈w,cJ s)->Pl (w.foldl cz l):=by
 induction w with
 |nil=>exactλh _=>h
 |cons s w ih=>exactλh hw=>ih (h.push (hw s (Zac))) λs' h'=>hw s' (Zah _ h')
def yZ{w:List Sp}(hw:∀s∈w,cJ s):Pl (pE w):=Pl.fold (l:=[]) trivial hw
def UG{l:List Sp}{s:Sp}(h:∀b,l.head?=some b->s.1≠b.1):cz l s=s :: l:=by
 cases l with
 |nil=>rfl
 |cons t r=>rw[vK,if_neg λe=>h t rfl e.symm]
def UH(u v:List Sp):pE (u ++ v)=v.foldl cz (pE u):=by unfold pE;rw[Zbw]
def Dr{s:Sp}(h:cJ s):cJ (nF s):=by
 obtain⟨b,k⟩:=s;cases b with
 |true=>exact⟨nofun,λe=>h.2 (by have:-k=0:=e;show k=0;lk)⟩
 |false =>
  obtain⟨h1,h2⟩:=h.1 rfl;simp only at h1 h2;exact⟨λ_=>by show 1<=4-k/\4-k<=3;lk,by show 4-k≠0;lk⟩
def UI{p:List Sp}{s:Sp}(hp:Pl p)(hs:cJ s):cz (cz p s) (nF s)=p:=by
 have e0:cq s (nF s)=[]:=by
  unfold cq jl nF;cases hb:s.1<;>simp<;>lk
 cases p with
 |nil =>
  show(if s.1=(nF s).1 then cq s (nF s) ++ []else _)=_;rw[if_pos (show s.1=(nF s).1 from rfl),e0];rfl
 |cons t r =>
  by_cases e:t.1=s.1;have e1:cz (t :: r) s=cq t s ++ r:=by rw[vK,if_pos e]
  rw[e1];obtain⟨tb,tk⟩:=t;obtain⟨sb,sk⟩:=s;simp only at e;subst e;have ht:=hp.1;rcases OZ (b:=(tb,sk)) hp.1 rfl with⟨h0,ej⟩|⟨y2,ej⟩
  rw[ej,List.nil_append];have eb:nF (tb,sk)=(tb,tk):=by
   unfold nF;unfold jl at h0;cases tb with
   |true=>simp only[if_true]at h0 ⊢;congr 1;lk
   |false =>
    have h1:=ht.1 rfl;have h2:=hs.1 rfl;simp only[ZaT,if_false]at h0 h1 h2 ⊢
    congr 1;lk
  rw[eb];exact UG hp.2.1;rw[ej];show(if tb=(nF (tb,sk)).1 then cq (tb,jl (tb,tk) (tb,sk)) (nF (tb,sk)) ++ r else _)=_;rw[if_pos (show tb=(nF (tb,sk)).1 from rfl)];have eb:jl (tb,jl (tb,tk) (tb,sk)) (nF (tb,sk))=tk:=by
   unfold jl nF;cases tb with
   |true=>simp only[if_true];lk
   |false =>
    have h1:=ht.1 rfl;have h2:=hs.1 rfl;simp only[ZaT,if_false]at h1 h2 ⊢;lk
  unfold cq;rw[eb,if_neg ht.2];rfl;have e1:cz (t :: r) s=s :: t :: r:=by rw[vK,if_neg e]
  rw[e1];show(if s.1=(nF s).1 then cq s (nF s) ++ (t :: r)else _)=_;rw[if_pos (show s.1=(nF s).1 from rfl),e0];rfl
def UJ{w:List Sp}:∀{p:List Sp},Pl p->(∀s∈w,cJ s)->(w ++ lC w).foldl cz p=p:=by
 induction w with
 |nil=>exactλ_ _=>rfl
 |cons s w ih =>
  intro p hp hw;have e:(s :: w) ++ lC (s :: w)=s :: ((w ++ lC w) ++ [nF s]):=by unfold lC;simp
  rw[e];show((w ++ lC w) ++ [nF s]).foldl cz (cz p s)=p;have hs:=hw s (Zac);rw[Zbw,ih (hp.push hs) λs' h'=>hw s' (Zah _ h')];exact UI hp hs
def UK{w:List Sp}(hw:∀s∈w,cJ s):pE (w ++ lC w)=[]:=UJ (p:=[]) trivial hw
def UL{l:List Sp}{s:Sp}{M B:Nat}(h:∀x∈l,x.2.natAbs<=M)(hs:s.2.natAbs<=B)(hp:cJ s)(hl:Pl l):∀x∈cz l s,x.2.natAbs<=M+B:=by
 intro x hx;cases l with
 |nil=>rcases Zas.mp hx with rfl;lk
 |cons t r =>
  rw[vK]at hx;have ht:=h t (Zac);split at hx
  ·next e0 =>
   rcases Zay.mp hx with hx|hx
   ·unfold cq at hx
    split at hx
    ·exact(nomatch hx)
    ·rcases Zas.mp hx with rfl
     show(jl t s).natAbs<=_;unfold jl;split
     ·lk
     ·next hb =>
      have:=hl.1.1 (by simpa using hb);have h2:=hp.1 (by rw[<- e0];simpa using hb);lk
   ·have:=h x (Zah _ hx);lk
  ·rcases Zax.mp hx with rfl|hx
   ·lk
   ·have:=h x hx;lk
def UM{B:Nat}{w:List Sp}:∀{l:List Sp} {M:Nat},(∀x∈l,x.2.natAbs<=M)->Pl l->(∀s∈w,cJ s/\s.2.natAbs<=B)->∀x∈w.foldl cz l,x.2.natAbs<=M+w.length*B:=by
 induction w with
 |nil=>intro l M h _ _ x hx;have:=h x hx;lk
 |cons s w ih =>
  intro l M h hl hw x hx;have hs:=hw s (Zac);have:=ih (UL h hs.2 hs.1 hl) (hl.push hs.1) (λs' h'=>hw s' (Zah _ h')) x hx;rw[ZaG,ZbN];lk
def y3{B:Nat}{w:List Sp}(hw:∀s∈w,cJ s/\s.2.natAbs<=B):∀x∈pE w,x.2.natAbs<=w.length*B:=λx hx=>by
 have:=UM (l:=[]) (M:=0) nofun trivial hw x hx;lk
def UN(l:List Sp)(s:Sp):(cz l s).length<=l.length+1:=by
 cases l with
 |nil=>exact Zaa _
 |cons t r =>
  rw[vK];split;unfold cq;split<;>simp<;>lk;simp
def UO{w:List Sp}:∀{l:List Sp},(w.foldl cz l).length<=l.length+w.length:=by
 induction w with
 |nil=>exact Zaa _
 |cons s w ih =>
  intro l;have:=ih (l:=cz l s);have h2:=UN l s;rw[ZaG];exact Zap this ⋯
def O0(w:List Sp):(pE w).length<=w.length:=by have:=UO (w:=w) (l:=[]);simpa[pE]using this
structure T4 where (a b c d:Int)
abbrev T4.one:T4:=⟨1,0,0,1⟩
abbrev T4.qt:T4:=⟨0,-1,1,0⟩
abbrev T4.mul(x y:T4):T4:=⟨x.a*y.a+x.b*y.c,x.a*y.b+x.b*y.d,x.c*y.a+x.d*y.c,x.c*y.b+x.d*y.d⟩
abbrev T4.uV(x:T4):T4:=⟨x.d,-x.b,-x.c,x.a⟩
def T4.ext'{x y:T4}(h1:x.a=y.a)(h2:x.b=y.b)(h3:x.c=y.c)(h4:x.d=y.d):x=y:=by cases x;cases y;simp only at h1 h2 h3 h4;subst h1 h2 h3 h4;rfl
def T4.assoc(x y z:T4):(x.mul y).mul z=x.mul (y.mul z):=by apply T4.ext'<;>simp only[T4.mul,Int.add_mul,ZbK,ZaF]<;>lk
def T4.one_mul(x:T4):T4.one.mul x=x:=by apply T4.ext'<;>simp[T4.mul,T4.one]
def T4.mul_one(x:T4):x.mul T4.one=x:=by apply T4.ext'<;>simp[T4.mul,T4.one]
def T4.vL(x y:T4):(x.mul y).uV=y.uV.mul x.uV:=by apply T4.ext'<;>simp only[T4.mul,T4.uV,ZaR,Int.mul_neg,Int.neg_neg,ZaS]<;>lk
abbrev qp:Nat->T4
 |0=>T4.one
 |n+1=>T4.qt.mul (qp n)
abbrev lD(s:Sp):T4:=if s.1 then⟨1,s.2,0,1⟩else qp s.2.toNat
abbrev nO(T:T4)(w:List Sp):T4:=w.foldl (λT s=>(lD s).mul T) T
abbrev av(w:List Sp):T4:=nO T4.one w
def UP(w:List Sp):∀T:T4,nO T w=(av w).mul T:=by
 induction w with
 |nil=>exactλT=>(T4.one_mul T).symm
 |cons s w ih =>
  intro T;show nO ((lD s).mul T) w=(nO ((lD s).mul T4.one) w).mul T;rw[ih,ih,T4.mul_one,T4.assoc]
def sY(u v:List Sp):av (u ++ v)=(av v).mul (av u):=by show nO T4.one (u ++ v)=_;unfold nO;rw[Zbw];exact UP v _
def uW(u:List Sp)(s:Sp):av (u ++ [s])=(lD s).mul (av u):=by show nO T4.one (u ++ [s])=_;unfold nO;rw[Zbw];rfl
def t3{k:Int}(h:1<=k/\k<=3):k=1\/k=2\/k=3:=by lk
def UQ{t s:Sp}(ht:cJ t)(hs:cJ s)(e:t.1=s.1):av (cq t s)=(lD s).mul (lD t):=by
 obtain⟨tb,tk⟩:=t;obtain⟨sb,sk⟩:=s;simp only at e;subst e;cases tb with
 |true =>
  have e2:(lD (true,sk)).mul (lD (true,tk))=⟨1,tk+sk,0,1⟩:=by apply T4.ext'<;>simp[T4.mul,lD]<;>lk
  rw[e2];unfold cq jl;simp only[if_true];split
  ·next h=>rw[h];rfl
  ·rw[show av [(true,tk+sk)]=(lD (true,tk+sk)).mul T4.one from rfl,T4.mul_one];rfl
 |false =>
  have h1:=ht.1 rfl;have h2:=hs.1 rfl;simp only at h1 h2;rcases t3 h1 with rfl|rfl|rfl<;>rcases t3 h2 with rfl|rfl|rfl<;>rfl
def UR{l:List Sp}{s:Sp}(hl:Pl l)(hs:cJ s):av (cz l s).reverse=(lD s).mul (av l.reverse):=by
 cases l with
 |nil=>exact uW [] s
 |cons t r =>
  rw[vK];split
  ·next e =>
   rw[List.reverse_append,sY,List.reverse_cons,uW,<- T4.assoc]
   congr 1
   rw[<- UQ hl.1 hs e];unfold cq;split<;>rfl
  ·rw[List.reverse_cons,uW]
def US{w:List Sp}:∀{l:List Sp},Pl l->(∀s∈w,cJ s)->av (w.foldl cz l).reverse=nO (av l.reverse) w:=by
 induction w with
 |nil=>exactλ_ _=>rfl
 |cons s w ih =>
  intro l hl hw;have hs:=hw s (Zac);show av (w.foldl cz (cz l s)).reverse=nO ((lD s).mul (av l.reverse)) w;rw[ih (hl.push hs) λs' h'=>hw s' (Zah _ h'),UR hl hs]
def O1{w:List Sp}(hw:∀s∈w,cJ s):av (pE w).reverse=av w:=US (l:=[]) trivial hw
def y4{s:Sp}(h:cJ s):lD (nF s)=(lD s).uV:=by
 obtain⟨b,k⟩:=s;cases b with
 |true=>apply T4.ext'<;>simp[T4.uV,lD,nF]
 |false =>
  have h1:=h.1 rfl;simp only at h1;rcases t3 h1 with rfl|rfl|rfl<;>rfl
def Lf{w:List Sp}(hw:∀s∈w,cJ s):av (lC w)=(av w).uV:=by
 induction w with
 |nil=>rfl
 |cons s w ih =>
  have e:lC (s :: w)=lC w ++ [nF s]:=by unfold lC;simp
  have e2:av (s :: w)=(av w).mul (lD s):=by
   rw[show s :: w=[s] ++ w from rfl,sY]
   congr 1
   exact(uW [] s).trans (T4.mul_one _)
  rw[e,uW,ih λs' h'=>hw s' (Zah _ h'),y4 (hw s (Zac)),e2,T4.vL]
abbrev T4.le(x:T4)(M:Nat):Prop:=x.a.natAbs<=M/\x.b.natAbs<=M/\x.c.natAbs<=M/\x.d.natAbs<=M
def O2{a c k:Int}{M B:Nat}(ha:a.natAbs<=M)(hc:c.natAbs<=M)(hk:k.natAbs<=B):(a+k*c).natAbs<=(B+1)*M:=by
 have h1:(k*c).natAbs<=B*M:=by rw[Zbq];exact ZbC hk hc
 rw[ZbN];lk
def xv{T:T4}{s:Sp}{M B:Nat}(h:T.le M)(hp:cJ s)(hs:s.2.natAbs<=B):((lD s).mul T).le ((B+1)*M):=by
 obtain⟨b,k⟩:=s;obtain⟨ha,hb,hc,hd⟩:=h;have hM:M<=(B+1)*M:=by rw[ZbN];lk
 cases b with
 |true =>
  refine⟨?_,?_,?_,?_⟩<;>simp only[T4.mul,lD,if_true,Zcg,Int.zero_mul,Zb9];exact O2 ha hc hs;exact O2 hb hd hs;lk;lk
 |false =>
  have h1:=hp.1 rfl;simp only at h1;rcases t3 h1 with rfl|rfl|rfl<;>refine⟨?_,?_,?_,?_⟩<;>simp[T4.mul,lD,qp,T4.qt,T4.one]<;>lk
def y6{B:Nat}{w:List Sp}:∀{T:T4} {M:Nat},T.le M->(∀s∈w,cJ s/\s.2.natAbs<=B)->(nO T w).le ((B+1) ^ w.length*M):=by
 induction w with
 |nil=>intro T M h _;simpa[nO]using h
 |cons s w ih =>
  intro T M h hw;have hs:=hw s (Zac);have:=ih (xv h hs.1 hs.2) λs' h'=>hw s' (Zah _ h');rw[ZaG,Nat.pow_succ,Zcz];exact this
def UT{B n:Nat}{w:List Sp}(hw:∀s∈w,cJ s/\s.2.natAbs<=B)(hn:w.length<=n):(av w).le ((B+1) ^ n):=by
 have h:=y6 (T:=T4.one) (M:=1) ⟨by decide,by decide,by decide,by decide⟩ hw;have h2:(B+1) ^ w.length*1<=(B+1) ^ n:=by rw[Zb5];exact ZbI ⋯ hn
 exact⟨Zap h.1 h2,Zap h.2.1 h2,Zap h.2.2.1 h2,Zap h.2.2.2 h2⟩
end af
namespace af
abbrev qB:List Int->List Int->Bool
 |[],[]=>false
 |[],_ :: _=>true
 |_ :: _,[]=>false
 |x :: xs,y :: ys=>if x=y then qB xs ys else decide (x<y)
def Hf:∀xs:List Int,qB xs xs=false
 |[]=>rfl
 |x :: xs=>by unfold qB;rw[if_pos rfl];exact Hf xs
def Lg:∀{xs ys zs:List Int},qB xs ys=true->qB ys zs=true->qB xs zs=true
 |[],[],_,h,_=>by cases h
 |[],_ :: _,[],_,h=>by cases h
 |[],_ :: _,_ :: _,_,_=>rfl
 |_ :: _,[],_,h,_=>by cases h
 |_ :: _,_ :: _,[],_,h=>by cases h
 |x :: xs,y :: ys,z :: zs,h1,h2=>by
  unfold qB at h1 h2 ⊢;by_cases a:x=y;rw[if_pos a]at h1;by_cases b:y=z;rw[if_pos b]at h2;rw[if_pos (a.trans b)];exact Lg h1 h2;rw[if_neg b]at h2;rw[if_neg (λe=>b (a.symm.trans e))];rw[a];exact h2;rw[if_neg a]at h1;have h1:=of_decide_eq_true h1;by_cases b:y=z;rw[<- b,if_neg a];exact decide_eq_true h1;rw[if_neg b]at h2;have h2:=of_decide_eq_true h2;rw[if_neg ⋯];exact decide_eq_true ⋯
def Lh:∀{xs ys:List Int},qB xs ys=false->qB ys xs=false->xs=ys
 |[],[],_,_=>rfl
 |[],_ :: _,h,_=>by cases h
 |_ :: _,[],_,h=>by cases h
 |x :: xs,y :: ys,h1,h2=>by
  unfold qB at h1 h2;by_cases a:x=y;subst a;rw[if_pos rfl]at h1 h2;rw[Lh h1 h2];rw[if_neg a]at h1;rw[if_neg (Ne.symm a)]at h2;have h1:=of_decide_eq_false h1;have h2:=of_decide_eq_false h2;lk
@[reducible]def ck:=List Int×List Int
abbrev ot(p q:ck):Bool:=if p.1=q.1 then qB p.2 q.2 else qB p.1 q.1
def O3(p:ck):ot p p=false:=by unfold ot;rw[if_pos rfl];exact Hf _
def UU{p q r:ck}(h1:ot p q=true)(h2:ot q r=true):ot p r=true:=by unfold ot at h1 h2 ⊢;by_cases a:p.1=q.1;rw[if_pos a]at h1;by_cases b:q.1=r.1;rw[if_pos b]at h2;rw[if_pos (a.trans b)];exact Lg h1 h2;rw[if_neg b]at h2;rw[if_neg (λe=>b (a.symm.trans e)),a];exact h2;rw[if_neg a]at h1;by_cases b:q.1=r.1;rw[<- b,if_neg a];exact h1;rw[if_neg b]at h2;have h:=Lg h1 h2;rw[if_neg (λe=>by rw[e,Hf]at h;cases h)];exact h
def UW{p q:ck}(h1:ot p q=false)(h2:ot q p=false):p=q:=by unfold ot at h1 h2;by_cases a:p.1=q.1;rw[if_pos a]at h1;rw[if_pos a.symm]at h2;exact Prod.ext a (Lh h1 h2);rw[if_neg a]at h1;rw[if_neg (Ne.symm a)]at h2;exact absurd (Lh h1 h2) a
abbrev ou:List ck->ck
 |[]=>([],[])
 |p :: l=>l.foldl (λb q=>if ot q b then q else b) p
abbrev Lst(l:List ck)(p:ck):Prop:=p∈l/\∀q∈l,ot q p=false
def Lst.unique{l m:List ck}{p q:ck}(a:Lst l p)(b:Lst m q)(h:∀x,x∈l↔x∈m):p=q:=UW (b.2 p ((h p).mp a.1)) (a.2 q ((h q).mpr b.1))
def Lst.step{l:List ck}{b q:ck}(h:Lst l b):Lst (l ++ [q]) (if ot q b then q else b):=by
 split
 ·next hq =>
  refine⟨ZaN _ (List.mem_singleton_self _),λx hx=>?_⟩;rcases Zay.mp hx with hx|hx
  ·cases UX:ot x q with
   |false=>rfl
   |true=>have:=UU UX hq;rw[h.2 x hx]at this;cases this
  ·rw[Zas.mp hx];exact O3 q
 ·next hq =>
  refine⟨ZbF _ h.1,λx hx=>?_⟩;rcases Zay.mp hx with hx|hx
  ·exact h.2 x hx
  ·rw[Zas.mp hx];simpa using hq
def Lst.fold:∀(l pre:List ck) (b:ck),Lst pre b->Lst (pre ++ l) (l.foldl (λb q=>if ot q b then q else b) b)
 |[],pre,b,h=>by rw[Zbu];exact h
 |q :: l,pre,b,h=>by
  have:=Lst.fold l (pre ++ [q]) _ (h.step (q:=q));rw[Zbv]at this;exact this
def Li{l:List ck}(h:l≠[]):Lst l (ou l):=by
 cases l with
 |nil=>exact absurd rfl h
 |cons p l=>exact Lst.fold l [p] p ⟨List.mem_singleton_self _,λq hq=>by rw[Zas.mp hq];exact O3 p⟩
def UY{l m:List ck}(h:∀x,x∈l↔x∈m)(hl:l≠[]):ou l=ou m:=by
 have hm:m≠[]:=λe=>by
  obtain⟨x,hx⟩:=Zbs l hl;have:=(h x).mp hx;rw[e]at this;cases this
 exact(Li hl).unique (Li hm) h
end af
namespace af
def sH(n:Nat):Tn n (upto n):=Zbo _
def Hg{n:Nat}{s:Int}(s0:0<=s)(s1:s<(n:Int)):app (upto n) s=s:=by unfold app;rw[Zad,K4 ⋯,Option.getD_some];lk
section
variable {n:Nat}{a b c g x y:List Int}
def rQ(ha:Tn n a)(hb:Tn n b)(hc:Tn n c):aY (aY a b) c=aY a (aY b c):=by refine rN (n:=n) ((ha.aY hb).aY hc).length (ha.aY (hb.aY hc)).length λs s0 s1=>?_;obtain⟨p0,p1⟩:=ha.app s0 s1;rw[oq s0 (by rw[(ha.aY hb).length];exact s1),oq s0 (by rw[ha.length];exact s1),oq s0 (by rw[ha.length];exact s1),oq p0 (by rw[hb.length];exact p1)]
def Ds(ha:Tn n a):aY a (inv a)=upto n:=Uu ha
def Lj(ha:Tn n a):aY (inv a) a=upto n:=Uv ha
def vN(ha:Tn n a):aY a (upto n)=a:=by refine rN (n:=n) (ha.aY (sH n)).length ha.length λs s0 s1=>?_;obtain⟨p0,p1⟩:=ha.app s0 s1;rw[oq s0 (by rw[ha.length];exact s1),Hg p0 p1]
def Dt(ha:Tn n a):aY (upto n) a=a:=by refine rN (n:=n) ((sH n).aY ha).length ha.length λs s0 s1=>?_;rw[oq s0 (by rw[(sH n).length];exact s1),Hg s0 s1]
def Du(ha:Tn n a)(hb:Tn n b)(h:aY a b=upto n):inv a=b:=by
 have e:aY (inv a) (aY a b)=b:=by rw[<- rQ ha.aC ha hb,Lj ha,Dt hb]
 rw[h,vN ha.aC]at e;exact e
def xw(ha:Tn n a)(hb:Tn n b):inv (aY a b)=aY (inv b) (inv a):=by refine Du (ha.aY hb) (hb.aC.aY ha.aC) ?_;rw[rQ ha hb (hb.aC.aY ha.aC),<- rQ hb hb.aC ha.aC,Ds hb,Dt ha.aC,Ds ha]
def O4(ha:Tn n a)(hb:Tn n b):aY (aY a b) (inv b)=a:=by rw[rQ ha hb hb.aC,Ds hb,vN ha]
def Lk(ha:Tn n a)(hb:Tn n b):aY (aY a (inv b)) b=a:=by rw[rQ ha hb.aC hb,Lj hb,vN ha]
def UZ(ha:Tn n a)(hb:Tn n b):aY a (aY (inv a) b)=b:=by rw[<- rQ ha ha.aC hb,Ds ha,Dt hb]
def Dw(hx:Tn n x)(i j:Int):aY (cy x i) (cy x j)=cy x (i+j):=by refine rN (n:=n) ((hx.cy i).aY (hx.cy j)).length (hx.cy (i+j)).length λs s0 s1=>?_;obtain⟨p0,p1⟩:=hx.pw s0 s1 i;have hl:=hx.length;rw[oq s0 (by rw[Dq,hl];exact s1),qP s0 (by rw[hl];exact s1),qP p0 (by rw[hl];exact p1),qP s0 (by rw[hl];exact s1),hx.pw_add s0 s1,Int.add_comm j i]
def Ll(hx:Tn n x):cy x 0=upto n:=by refine rN (n:=n) (hx.cy 0).length (sH n).length λs s0 s1=>?_;rw[qP s0 (by rw[hx.length];exact s1),Hg s0 s1];rfl
def Dx(hx:Tn n x):cy x 1=x:=by refine rN (n:=n) (hx.cy 1).length hx.length λs s0 s1=>?_;rw[qP s0 (by rw[hx.length];exact s1)];rfl
def Lm(hx:Tn n x)(k:Int):inv (cy x k)=cy x (-k):=Du (hx.cy k) (hx.cy (-k)) (by rw[Dw hx,Int.add_right_neg,Ll hx])
def Ln(hx:Tn n x):cy x (-1)=inv x:=by rw[<- Lm hx,Dx hx]
def O5(hx:Tn n x)(k:Int):cy (inv x) k=cy x (-k):=by refine rN (n:=n) (hx.aC.cy k).length (hx.cy (-k)).length λs s0 s1=>?_;rw[qP s0 (by rw[hx.aC.length];exact s1),qP s0 (by rw[hx.length];exact s1)];unfold pw;by_cases h:0<=k;rw[if_pos h];by_cases h0:k=0;subst h0;rfl;rw[if_neg ⋯,show -(-k)=k by lk];rw[if_neg h,if_pos ⋯,hx.inv_inv]
def O6(ha:Tn n a)(hb:Tn n b)(hg:Tn n g):aY (anew a g) (anew b g)=anew (aY a b) g:=by unfold anew;have hi:=hg.aC;rw[rQ (hi.aY ha) hg ((hi.aY hb).aY hg),rQ hi hb hg,UZ hg (hb.aY hg),rQ hi ha (hb.aY hg),<- rQ ha hb hg,<- rQ hi (ha.aY hb) hg]
def U0(hg:Tn n g):anew (upto n) g=upto n:=by unfold anew;rw[vN hg.aC,Lj hg]
def O7(ha:Tn n a)(hg:Tn n g):inv (anew a g)=anew (inv a) g:=Du (ha.anew hg) (ha.aC.anew hg) (by rw[O6 ha ha.aC hg,Ds ha,U0 hg])
def Bq(hx:Tn n x)(hg:Tn n g){i:Int}(i0:0<=i)(i1:i<(n:Int)):∀k,aU (anew x g) (app g i) k=app g (aU x i k)
 |0=>rfl
 |k+1=>by
  obtain⟨p0,p1⟩:=hx.aU i0 i1 k;show app (anew x g) (aU (anew x g) (app g i) k)=app g (app x (aU x i k));rw[Bq hx hg i0 i1 k,hx.dw hg p0 p1]
def U1(hx:Tn n x)(hg:Tn n g){i:Int}(i0:0<=i)(i1:i<(n:Int))(k:Int):pw (anew x g) k (app g i)=app g (pw x k i):=by unfold pw;split;exact Bq hx hg i0 i1 _;rw[O7 hx hg];exact Bq hx.aC hg i0 i1 _
def U2(hx:Tn n x)(hg:Tn n g)(k:Int):cy (anew x g) k=anew (cy x k) g:=by refine rN (n:=n) ((hx.anew hg).cy k).length ((hx.cy k).anew hg).length λs s0 s1=>?_;obtain⟨p0,p1⟩:=hg.lB s0 s1;rw[qP s0 (by rw[(hx.anew hg).length];exact s1),(hx.cy k).i7 hg s0 s1,qP p0 (by rw[hx.length];exact p1),<- U1 hx hg p0 p1,hg.bU s0 s1]
end
abbrev Vf(n:Nat)(p:ck):Prop:=Tn n p.1/\Tn n p.2
abbrev bN(n:Nat)(p q:ck):Prop:=∃g,Tn n g/\q=(anew p.1 g,anew p.2 g)
abbrev Sh(k:Int)(p:ck):ck:=(p.1,shr p.1 p.2 k)
abbrev Qt(p:ck):ck:=(inv p.2,p.1)
section
variable {n:Nat}{p q r:ck}
def Vf.sh(h:Vf n p)(k:Int):Vf n (Sh k p):=⟨h.1,h.1.shr h.2 k⟩
def Vf.qt(h:Vf n p):Vf n (Qt p):=⟨h.2.aC,h.1⟩
def bN.refl(h:Vf n p):bN n p p:=⟨upto n,sH n,by
 have e:∀a:List Int,Tn n a->anew a (upto n)=a:=λa ha=>by
  unfold anew;rw[Du (sH n) (sH n) (vN (sH n)),Dt ha,vN ha]
 rw[e _ h.1,e _ h.2]⟩
def bN.symm(h:Vf n p)(a:bN n p q):bN n q p:=by obtain⟨g,hg,rfl⟩:=a;exact⟨inv g,hg.aC,by show p=(anew (anew p.1 g) (inv g),anew (anew p.2 g) (inv g));rw[h.1.o6 hg,h.2.o6 hg]⟩
def bN.trans(h:Vf n p)(a:bN n p q)(b:bN n q r):bN n p r:=by obtain⟨g,hg,rfl⟩:=a;obtain⟨f,hf,rfl⟩:=b;exact⟨aY g f,hg.aY hf,by show(anew (anew p.1 g) f,anew (anew p.2 g) f)=_;rw[h.1.o5 hg hf,h.2.o5 hg hf]⟩
def bN.sh(h:Vf n p)(a:bN n p q)(k:Int):bN n (Sh k p) (Sh k q):=by obtain⟨g,hg,rfl⟩:=a;refine⟨g,hg,?_⟩;show(anew p.1 g,aY (cy (anew p.1 g) (-k)) (anew p.2 g))=(anew p.1 g,anew (aY (cy p.1 (-k)) p.2) g);rw[U2 h.1 hg,O6 (h.1.cy _) h.2 hg]
def bN.qt(h:Vf n p)(a:bN n p q):bN n (Qt p) (Qt q):=by obtain⟨g,hg,rfl⟩:=a;refine⟨g,hg,?_⟩;show(inv (anew p.2 g),anew p.1 g)=(anew (inv p.2) g,anew p.1 g);rw[O7 h.2 hg]
def Dy(h:Vf n p)(j k:Int):Sh k (Sh j p)=Sh (j+k) p:=by show(p.1,shr p.1 (shr p.1 p.2 j) k)=(p.1,shr p.1 p.2 (j+k));rw[h.1.rP h.2]
def vO(h:Vf n p):Sh 0 p=p:=by show(p.1,shr p.1 p.2 0)=p;rw[h.1.qi h.2]
abbrev Q2(p:ck):ck:=(inv p.1,inv p.2)
def Dz(p:ck):Qt (Qt p)=Q2 p:=rfl
def DA(h:Vf n p):Q2 (Q2 p)=p:=by show(inv (inv p.1),inv (inv p.2))=p;rw[h.1.inv_inv,h.2.inv_inv]
def Vf.q2(h:Vf n p):Vf n (Q2 p):=⟨h.1.aC,h.2.aC⟩
def bN.q2(h:Vf n p)(a:bN n p q):bN n (Q2 p) (Q2 q):=bN.qt h.qt (bN.qt h a)
def xx(h:Vf n p)(k:Int):bN n (Q2 (Sh k p)) (Sh k (Q2 p)):=by
 have hx:=h.1;have hy:=h.2;refine⟨cy p.1 (-k),hx.cy _,?_⟩;show(inv p.1,aY (cy (inv p.1) (-k)) (inv p.2))=(anew (inv p.1) (cy p.1 (-k)),anew (inv (aY (cy p.1 (-k)) p.2)) (cy p.1 (-k)));have e1:anew (inv p.1) (cy p.1 (-k))=inv p.1:=by
  unfold anew;rw[Lm hx,<- Ln hx,Dw hx,Dw hx]
  congr 1;lk
 have e2:anew (inv (aY (cy p.1 (-k)) p.2)) (cy p.1 (-k))=aY (cy (inv p.1) (-k)) (inv p.2):=by
  unfold anew;rw[xw (hx.cy _) hy,O5 hx,Lm hx,rQ (hx.cy _) (hy.aC.aY (hx.cy _)) (hx.cy _),rQ hy.aC (hx.cy _) (hx.cy _),Dw hx,show - -k + -k=0 by lk,Ll hx,vN hy.aC]
 rw[e1,e2]
def DB(h:Vf n p):bN n (Qt (Sh 1 (Qt p))) (Sh (-1) (Qt (Sh (-1) p))):=by
 have hx:=h.1;have hy:=h.2;have l:Qt (Sh 1 (Qt p))=(aY (inv p.1) (inv p.2),inv p.2):=by
  show(inv (aY (cy (inv p.2) (-1)) p.1),inv p.2)=_;rw[O5 hy,show -(-1:Int)=1 by lk,Dx hy,xw hy hx]
 have r:Sh (-1) (Qt (Sh (-1) p))=(aY (inv p.2) (inv p.1),inv p.2):=by
  show(inv (aY (cy p.1 (-(-1))) p.2),aY (cy (inv (aY (cy p.1 (-(-1))) p.2)) (-(-1))) p.1)=_;have hf:=hx.aY hy;rw[show -(-1:Int)=1 by lk,Dx hx,Dx hf.aC,xw hx hy,Lk hy.aC hx]
 refine⟨p.2,hy,?_⟩;rw[l,r];show(aY (inv p.2) (inv p.1),inv p.2)=(aY (aY (inv p.2) (aY (inv p.1) (inv p.2))) p.2,aY (aY (inv p.2) (inv p.2)) p.2);rw[<- rQ hy.aC hx.aC hy.aC,Lk (hy.aC.aY hx.aC) hy,Lk hy.aC hy]
def y8(h:Vf n p):bN n (Qt (Sh (-1) (Qt p))) (Q2 (Sh 1 (Qt (Sh 1 p)))):=by
 have hx:=h.1;have hy:=h.2;have hu:=hx.aC.aY hy;have l:Qt (Sh (-1) (Qt p))=(aY (inv p.1) p.2,inv p.2):=by
  show(inv (aY (cy (inv p.2) (-(-1))) p.1),inv p.2)=_;rw[show -(-1:Int)=1 by lk,Dx hy.aC,xw hy.aC hx,hy.inv_inv]
 have r:Q2 (Sh 1 (Qt (Sh 1 p)))=(aY (inv p.1) p.2,aY (inv p.1) (aY (inv p.2) p.1)):=by
  show(inv (inv (aY (cy p.1 (-1)) p.2)),inv (aY (cy (inv (aY (cy p.1 (-1)) p.2)) (-1)) p.1))=_;rw[Ln hx,Ln hu.aC,hu.inv_inv,xw hu hx,xw hx.aC hy,hx.inv_inv]
 refine⟨aY (inv p.2) p.1,hy.aC.aY hx,?_⟩;rw[l,r];show(aY (inv p.1) p.2,aY (inv p.1) (aY (inv p.2) p.1))=(aY (aY (inv (aY (inv p.2) p.1)) (aY (inv p.1) p.2)) (aY (inv p.2) p.1),aY (aY (inv (aY (inv p.2) p.1)) (inv p.2)) (aY (inv p.2) p.1));have eg:inv (aY (inv p.2) p.1)=aY (inv p.1) p.2:=by rw[xw hy.aC hx,hy.inv_inv]
 have U3:aY (inv p.2) p.1=inv (aY (inv p.1) p.2):=by rw[xw hx.aC hy,hx.inv_inv]
 rw[eg];have e1:aY (aY (aY (inv p.1) p.2) (aY (inv p.1) p.2)) (aY (inv p.2) p.1)=aY (inv p.1) p.2:=by rw[U3,O4 hu hu]
 have e2:aY (aY (aY (inv p.1) p.2) (inv p.2)) (aY (inv p.2) p.1)=aY (inv p.1) (aY (inv p.2) p.1):=by rw[O4 hx.aC hy]
 rw[e1,e2]
end
abbrev act:Int->List Int->ck->ck
 |k,[],p=>Sh k p
 |k,j :: ks,p=>act j ks (Qt (Sh k p))
abbrev tS(k:Int):T4:=⟨1,k,0,1⟩
abbrev jf(k:Int):T4:=⟨0,-1,1,k⟩
abbrev i9:Int->List Int->T4
 |k,[]=>tS k
 |k,j :: ks=>(i9 j ks).mul (jf k)
abbrev lE(e:Bool)(M:T4):T4:=if e then⟨-M.a,-M.b,-M.c,-M.d⟩else M
abbrev p8(e:Bool)(p:ck):ck:=if e then Q2 p else p
def DC(e f:Bool)(M:T4):lE e (lE f M)=lE (e.xor f) M:=by cases e<;>cases f<;>simp[lE]
def DE(e:Bool)(M N:T4):(lE e M).mul N=lE e (M.mul N):=by cases e;rfl;unfold lE T4.mul;simp only[if_true];congr 1<;>grind
section
variable {n:Nat}{p q r:ck}
def Vf.act:∀{ks:List Int} {k:Int} {p:ck},Vf n p->Vf n (af.act k ks p)
 |[],k,p,h=>h.sh k
 |j :: ks,k,p,h=>Vf.act (ks:=ks) (h.sh k).qt
def bN.act:∀{ks:List Int} {k:Int} {p q:ck},Vf n p->bN n p q->bN n (af.act k ks p) (af.act k ks q)
 |[],k,p,q,h,a=>bN.sh h a k
 |j :: ks,k,p,q,h,a=>bN.act (ks:=ks) (h.sh k).qt (bN.qt (h.sh k) (bN.sh h a k))
def bN.p8(h:Vf n p)(a:bN n p q)(e:Bool):bN n (af.p8 e p) (af.p8 e q):=by cases e;exact a;exact bN.q2 h a
def Hh(h:Vf n p)(e f:Bool):p8 e (p8 f p)=p8 (e.xor f) p:=by cases e<;>cases f;rfl;rfl;rfl;exact DA h
def DF:∀{ks:List Int} {k:Int} {p:ck},Vf n p->bN n (act k ks (Q2 p)) (Q2 (act k ks p))
 |[],k,p,h=>bN.symm (h.sh k).q2 (xx h k)
 |j :: ks,k,p,h=>by
  have h1:bN n (Qt (Sh k (Q2 p))) (Qt (Q2 (Sh k p))):=bN.qt (h.q2.sh k) (bN.symm (h.sh k).q2 (xx h k));have h2:=bN.act (ks:=ks) (k:=j) ((h.q2.sh k).qt) h1;have h3:=DF (ks:=ks) (k:=j) (h.sh k).qt;exact bN.trans (Vf.act (ks:=j :: ks) (k:=k) h.q2) h2 h3
def Hi{ks:List Int}{j k:Int}(h:Vf n p):act k ks (Sh j p)=act (j+k) ks p:=by
 cases ks with
 |nil=>exact Dy h j k
 |cons i ks=>show act i ks (Qt (Sh k (Sh j p)))=act i ks (Qt (Sh (j+k) p));rw[Dy h]
def O8{ks:List Int}{k:Int}(h:Vf n p):act k ks (Qt p)=act 0 (k :: ks) p:=by show _=act k ks (Qt (Sh 0 p));rw[vO h]
def U4{a b:Int}{ks:List Int}{j:Int}(hj:j=0\/j=1\/j=-1):∃(k':Int) (ks':List Int) (f:Bool),ks'.length<ks.length+2/\i9 a (j :: b :: ks)=lE f (i9 k' ks')/\∀{n:Nat} {p:ck},Vf n p->bN n (act a (j :: b :: ks) p) (p8 f (act k' ks' p)):=by
 rcases hj with rfl|rfl|rfl
 refine⟨a+b,ks,true,by lk,?_,λ{n p} h=>?_⟩;cases ks with
 |nil=>simp[i9,lE,T4.mul,tS,jf];lk
 |cons i ks =>
  show(((i9 i ks).mul (jf b)).mul (jf 0)).mul (jf a)=lE true ((i9 i ks).mul (jf (a+b)));rw[T4.assoc,T4.assoc];have:(jf b).mul ((jf 0).mul (jf a))=lE true (jf (a+b)):=by simp[lE,T4.mul,jf];lk
  rw[this];unfold lE T4.mul;simp only[if_true];congr 1<;>grind
 show bN n (act b ks (Qt (Sh 0 (Qt (Sh a p))))) (Q2 (act (a+b) ks p));rw[vO (h.sh a).qt,Dz,<- Hi h];exact DF (h.sh a);refine⟨a-1,(b-1) :: ks,false,by simp,?_,λ{n p} h=>?_⟩;cases ks with
 |nil=>simp[i9,lE,T4.mul,tS,jf];refine⟨?_,?_⟩<;>grind
 |cons i ks =>
  show(((i9 i ks).mul (jf b)).mul (jf 1)).mul (jf a)=((i9 i ks).mul (jf (b-1))).mul (jf (a-1));rw[T4.assoc,T4.assoc,T4.assoc];have:(jf b).mul ((jf 1).mul (jf a))=(jf (b-1)).mul (jf (a-1)):=by simp[T4.mul,jf];refine⟨?_,?_,?_⟩<;>grind
  rw[this]
 show bN n (act b ks (Qt (Sh 1 (Qt (Sh a p))))) (act (b-1) ks (Qt (Sh (a-1) p)));have h1:=bN.act (ks:=ks) (k:=b) ((h.sh a).qt.sh 1).qt (DB (h.sh a));rw[Hi ((h.sh a).sh (-1)).qt,Dy h,show -1+b=b-1 by lk,show a + -1=a-1 by lk]at h1;exact h1;refine⟨a+1,(b+1) :: ks,true,by simp,?_,λ{n p} h=>?_⟩;cases ks with
 |nil=>simp[i9,lE,T4.mul,tS,jf];refine⟨?_,?_⟩<;>grind
 |cons i ks =>
  show(((i9 i ks).mul (jf b)).mul (jf (-1))).mul (jf a)=lE true (((i9 i ks).mul (jf (b+1))).mul (jf (a+1)));rw[T4.assoc,T4.assoc,T4.assoc];have:(jf b).mul ((jf (-1)).mul (jf a))=lE true ((jf (b+1)).mul (jf (a+1))):=by simp[lE,T4.mul,jf];refine⟨?_,?_,?_⟩<;>grind
  rw[this];unfold lE T4.mul;simp only[if_true];congr 1<;>grind
 show bN n (act b ks (Qt (Sh (-1) (Qt (Sh a p))))) (Q2 (act (b+1) ks (Qt (Sh (a+1) p))));have h1:=bN.act (ks:=ks) (k:=b) ((h.sh a).qt.sh (-1)).qt (y8 (h.sh a));have h2:=DF (ks:=ks) (k:=b) (((h.sh a).sh 1).qt.sh 1);rw[Hi ((h.sh a).sh 1).qt,Dy h,show 1+b=b+1 by lk]at h2;have h3:=bN.trans (Vf.act (ks:=ks) (k:=b) ((h.sh a).qt.sh (-1)).qt) h1 (by rw[Dy h]at *;exact h2);exact h3
abbrev big:List Int->Prop
 |[]=>True
 |[_]=>True
 |j :: b :: ks=>(2<=j\/j<=-2)/\big (b :: ks)
def O9:∀(ks:List Int) (k:Int),big ks\/∃(k':Int) (ks':List Int) (f:Bool),ks'.length<ks.length/\i9 k ks=lE f (i9 k' ks')/\∀{n:Nat} {p:ck},Vf n p->bN n (act k ks p) (p8 f (act k' ks' p))
 |[],_=>.inl trivial
 |[_],_=>.inl trivial
 |j :: b :: ks,k=>by
  by_cases hj:j=0\/j=1\/j=-1;obtain⟨k',ks',f,hl,hm,ha⟩:=U4 (a:=k) (b:=b) (ks:=ks) hj;exact .inr ⟨k',ks',f,by simpa using hl,hm,ha⟩;rcases O9 (b :: ks) j with h|⟨k',ks',f,hl,hm,ha⟩
  exact .inl ⟨by lk,h⟩;refine .inr ⟨k,k' :: ks',f,by simpa using hl,?_,λ{n p} h=>?_⟩;show(i9 j (b :: ks)).mul (jf k)=lE f ((i9 k' ks').mul (jf k));rw[hm,DE];exact ha (h.sh k).qt
def Pa:∀(ks:List Int) (k:Int),big ks->(ks=[]\/2<=k\/k<=-2)->(i9 k ks).c.natAbs<(i9 k ks).d.natAbs
 |[],k,_,_=>by show(0:Int).natAbs<(1:Int).natAbs;decide
 |j :: ks,k,h,hk=>by
  have hk:2<=k\/k<=-2:=by rcases hk with hk|hk;cases hk;exact hk
  have hj:ks=[]\/2<=j\/j<=-2:=by
   cases ks with
   |nil=>exact .inl rfl
   |cons b ks=>exact .inr h.1
  have hb:big ks:=by
   cases ks with
   |nil=>trivial
   |cons b ks=>exact h.2
  have ih:=Pa ks j hb hj;show((i9 j ks).c*0+(i9 j ks).d*1).natAbs<((i9 j ks).c * -1+(i9 j ks).d*k).natAbs;generalize (i9 j ks).c=c at ih;generalize (i9 j ks).d=d at ih;rw[Int.mul_zero,Zb9,Zb3];have e:(d*k).natAbs=d.natAbs*k.natAbs:=Zbq d k;have e2:d.natAbs*2<=d.natAbs*k.natAbs:=Zcr _ ⋯;lk
def DG{ks:List Int}{k:Int}(h:big ks)(hn:ks≠[]):(i9 k ks).c≠0:=by
 cases ks with
 |nil=>exact absurd rfl hn
 |cons j ks =>
  have hj:ks=[]\/2<=j\/j<=-2:=by
   cases ks with
   |nil=>exact .inl rfl
   |cons b ks=>exact .inr h.1
  have hb:big ks:=by
   cases ks with
   |nil=>trivial
   |cons b ks=>exact h.2
  have ih:=Pa ks j hb hj;show(i9 j ks).c*0+(i9 j ks).d*1≠0;lk
def Lp:∀(m:Nat) (ks:List Int) (k:Int),ks.length<=m->∀(e:Bool),i9 k ks=lE e T4.one->∀{n:Nat} {p:ck},Vf n p->bN n (act k ks p) (p8 e p):=by
 intro m
 induction m with
 |zero =>
  intro ks k hl e hm n p h;have:ks=[]:=Zbx ⋯;subst this;have hm:(⟨1,k,0,1⟩:T4)=lE e T4.one:=hm;cases e with
  |false =>
   have hk:k=0:=congrArg T4.b hm;subst hk;show bN n (Sh 0 p) p;rw[vO h];exact bN.refl h
  |true=>exact absurd (congrArg T4.a hm) (show ¬(1:Int)=-1 by decide)
 |succ m ih =>
  intro ks k hl e hm n p h;by_cases hn:ks=[];subst hn;exact ih [] k (ZaM _) e hm h;rcases O9 ks k with hb|⟨k',ks',f,hl',hm',ha⟩
  have:=DG (k:=k) hb hn
  rw[hm]at this;exact absurd (by cases e<;>rfl) this;have hm2:i9 k' ks'=lE (f.xor e) T4.one:=by
   have:lE f (i9 k ks)=i9 k' ks':=by rw[hm',DC,ZcA];rfl
   rw[<- this,hm,DC]
  have h1:=ih ks' k' ⋯ (f.xor e) hm2 h;have h2:=bN.trans h.act (ha h) (bN.p8 h.act h1 f);rw[Hh h,<- Bool.xor_assoc,ZcA,Bool.false_xor]at h2;exact h2
end
abbrev p9:Nat->ck->ck
 |0,p=>p
 |j+1,p=>Qt (p9 j p)
abbrev stM(p:ck)(s:Sp):ck:=if s.1=true then Sh s.2 p else p9 s.2.toNat p
abbrev jm(p:ck)(w:List Sp):ck:=w.foldl stM p
section
variable {n:Nat}{p q:ck}
def Vf.p9(h:Vf n p):∀j,Vf n (af.p9 j p)
 |0=>h
 |j+1=>(Vf.p9 h j).qt
def Vf.st(h:Vf n p)(s:Sp):Vf n (stM p s):=by unfold stM;split;exact h.sh _;exact h.p9 _
def Vf.ld:∀{w:List Sp} {p:ck},Vf n p->Vf n (jm p w)
 |[],_,h=>h
 |s :: w,p,h=>Vf.ld (w:=w) (h.st s)
def bN.p9(h:Vf n p)(a:bN n p q):∀j,bN n (af.p9 j p) (af.p9 j q)
 |0=>a
 |j+1=>bN.qt (h.p9 j) (bN.p9 h a j)
def bN.st(h:Vf n p)(a:bN n p q)(s:Sp):bN n (stM p s) (stM q s):=by unfold stM;split;exact bN.sh h a _;exact bN.p9 h a _
def bN.ld:∀{w:List Sp} {p q:ck},Vf n p->bN n p q->bN n (jm p w) (jm q w)
 |[],_,_,_,a=>a
 |s :: w,p,q,h,a=>bN.ld (w:=w) (h.st s) (bN.st h a s)
def Lq(p:ck)(u v:List Sp):jm p (u ++ v)=jm (jm p u) v:=by unfold jm;rw[Zbw]
end
def Pb(s:Sp)(w:List Sp):av (s :: w)=(av w).mul (lD s):=by have:=sY [s] w;rw[show av [s]=(lD s).mul T4.one from rfl,T4.mul_one]at this;exact this
def Pc(e:Bool)(M N:T4):M.mul (lE e N)=lE e (M.mul N):=by cases e;rfl;unfold lE T4.mul;simp only[if_true];congr 1<;>grind
def y9(ks:List Int)(j k:Int):(i9 k ks).mul (tS j)=i9 (j+k) ks:=by
 cases ks with
 |nil=>simp[i9,T4.mul,tS]
 |cons i ks =>
  show((i9 i ks).mul (jf k)).mul (tS j)=(i9 i ks).mul (jf (j+k));rw[T4.assoc]
  congr 1
  simp[T4.mul,jf,tS]
def za(ks:List Int)(k:Int):(i9 k ks).mul T4.qt=i9 0 (k :: ks):=rfl
def Pd:∀{w:List Sp},(∀s∈w,cJ s)->∃(k:Int) (ks:List Int) (f:Bool),av w=lE f (i9 k ks)/\∀{n:Nat} {p:ck},Vf n p->bN n (jm p w) (p8 f (act k ks p))
 |[],_=>⟨0,[],false,rfl,λ{n p} h=>by show bN n p (Sh 0 p);rw[vO h];exact bN.refl h⟩
 |s :: w,hw=>by
  obtain⟨k,ks,f,hm,ha⟩:=Pd (w:=w) λx hx=>hw x (Zah _ hx);have hs:=hw s Zac;obtain⟨b,j⟩:=s;rw[Pb,hm];cases b with
  |true =>
   refine⟨j+k,ks,f,?_,λ{n p} h=>?_⟩;rw[DE];congr 1;exact y9 ks j k
   have:=ha (h.sh j)
   rw[Hi h]at this;exact this
  |false =>
   have c:j=1\/j=2\/j=3:=t3 (hs.1 rfl);rcases c with rfl|rfl|rfl
   refine⟨0,k :: ks,f,?_,λ{n p} h=>?_⟩;rw[DE];congr 1
   have:=ha h.qt
   rw[O8 h]at this;exact this;refine⟨k,ks,!f,?_,λ{n p} h=>?_⟩;rw[DE,show lD (false,2)=lE true T4.one from rfl,Pc,T4.mul_one,DC];cases f<;>rfl;have h1:=ha h.q2;have h2:=bN.trans (Vf.ld (w:=w) h.q2) h1 (bN.p8 (Vf.act h.q2) (DF h) f);have e:p8 f (Q2 (act k ks p))=p8 (!f) (act k ks p):=by
    have:=Hh (p:=act k ks p) h.act f true;rw[Bool.xor_true]at this;exact this
   rw[e]at h2;exact h2;refine⟨0,k :: ks,!f,?_,λ{n p} h=>?_⟩;have e3:lD (false,3)=lE true T4.qt:=rfl;rw[DE,e3,Pc,DC,za];cases f<;>rfl;have h1:=ha (p:=Q2 (Qt p)) h.qt.q2;have h2:=bN.trans (Vf.ld (w:=w) h.qt.q2) h1 (bN.p8 (Vf.act h.qt.q2) (DF h.qt) f);have e:p8 f (Q2 (act k ks (Qt p)))=p8 (!f) (act 0 (k :: ks) p):=by
    have:=Hh (p:=act k ks (Qt p)) h.qt.act f true;rw[Bool.xor_true]at this;rw[<- O8 h];exact this
   rw[e]at h2;exact h2
def Pe{w:List Sp}(hw:∀s∈w,cJ s)(h1:av w=T4.one){n:Nat}{p:ck}(h:Vf n p):bN n (jm p w) p:=by
 obtain⟨k,ks,f,hm,ha⟩:=Pd hw;have e:i9 k ks=lE f T4.one:=by
  have:lE f (av w)=i9 k ks:=by rw[hm,DC,ZcA];rfl
  rw[<- this,h1]
 have h2:=Lp ks.length ks k (Zaa _) f e h;have h3:=bN.trans (Vf.ld h) (ha h) (bN.p8 h.act h2 f);rw[Hh h,ZcA]at h3;exact h3
def Hj{w:List Sp}(hw:∀s∈w,cJ s):∀s∈lC w,cJ s:=λs hs=>by
 unfold lC at hs;obtain⟨t,ht,rfl⟩:=Zag.mp (Zck.mp hs);exact Dr (hw t ht)
def Pf{w:List Sp}(hw:∀s∈w,cJ s):av (w ++ lC w)=T4.one:=by
 have hp:∀s∈w ++ lC w,cJ s:=λs hs=>by
  rcases Zay.mp hs with hs|hs
  exact hw s hs;exact Hj hw s hs
 rw[<- O1 hp,UK hw];rfl
def zb{w:List Sp}(hw:∀s∈w,cJ s):(av w).a*(av w).d-(av w).b*(av w).c=1:=by have:=Pf hw;rw[sY,Lf hw]at this;have h:=congrArg T4.a this;have h:(av w).d*(av w).a + -(av w).b*(av w).c=1:=h;rw[ZaS (av w).d,ZaR]at h;lk
def Pg{M:T4}(h:M.a*M.d-M.b*M.c=1):M.mul M.uV=T4.one/\M.uV.mul M=T4.one:=by constructor<;>(apply T4.ext'<;>simp[T4.mul,T4.uV,T4.one]<;>grind)
def Ph{u w:List Sp}(hu:∀s∈u,cJ s)(hw:∀s∈w,cJ s)(e:av u=av w){n:Nat}{p:ck}(h:Vf n p):bN n (jm p u) (jm p w):=by
 have hb:=Hj hw
 have h1:bN n (jm p (u ++ lC w)) p:=Pe (λs hs=>by
  rcases Zay.mp hs with hs|hs
  exact hu s hs
  exact hb s hs) (by rw[sY,e,<- sY];exact Pf hw) h
 rw[Lq]at h1;have h2:=bN.ld (w:=w) (Vf.ld (Vf.ld h)) h1;rw[<- Lq]at h2
 have h3:bN n (jm (jm p u) (lC w ++ w)) (jm p u):=Pe (λs hs=>by
  rcases Zay.mp hs with hs|hs
  exact hb s hs
  exact hw s hs) (by rw[sY,Lf hw];exact(Pg (zb hw)).1) (Vf.ld h)
 exact bN.trans (Vf.ld h) (bN.symm (Vf.ld (Vf.ld h)) h3) h2
abbrev uX(p:ck)(n:Nat)(s:Int):ck:=(num p.1 (bf p.1 p.2 s n),num p.2 (bf p.1 p.2 s n))
abbrev sZ(n:Nat)(p:ck):ck:=ou ((upto n).map (uX p n))
def U5{n:Nat}{p q:ck}(n0:0<n)(h:Vf n p)(a:bN n p q):sZ n p=sZ n q:=by
 obtain⟨g,hg,rfl⟩:=a;have key:∀s:Int,0<=s->s<(n:Int)->uX (anew p.1 g,anew p.2 g) n (app g s)=uX p n s:=λs s0 s1=>by
  show(num (anew p.1 g) (bf (anew p.1 g) (anew p.2 g) (app g s) n),num (anew p.2 g) (bf (anew p.1 g) (anew p.2 g) (app g s) n))=_;have hb:=sX h.1 h.2 s0 s1 n;rw[Lc h.1 h.2 hg s0 s1 n,OY h.1 hg hb,OY h.2 hg hb];rfl
 refine UY (λx=>?_) (λe=>?_);constructor;intro hx;obtain⟨s,hs,rfl⟩:=Zag.mp hx;obtain⟨s0,s1⟩:=ke.mp hs;exact Zag.mpr ⟨app g s,ke.mpr (hg.app s0 s1),key s s0 s1⟩;intro hx;obtain⟨t,ht,rfl⟩:=Zag.mp hx;obtain⟨t0,t1⟩:=ke.mp ht;obtain⟨p0,p1⟩:=hg.lB t0 t1;refine Zag.mpr ⟨app (inv g) t,ke.mpr ⟨p0,p1⟩,?_⟩;have:=key (app (inv g) t) p0 p1;rw[hg.bU t0 t1]at this;exact this.symm
 have:=congrArg List.length e
 rw[Z7,qN]at this;simp at this;lk
end af
namespace af
section
variable {n:Nat}{p q:ck}{g h:List Int}{s t:Int}
structure Wh(n:Nat)(p:ck):Prop where
 v:Vf n p
 all:∀x:Int,0<=x->x<(n:Int)->i6 p.1 p.2 x
def Wh.bf(w:Wh n p)(s0:0<=s)(s1:s<(n:Int)):Tn n (bf p.1 p.2 s n):=Lb w.v.1 w.v.2 s0 s1 w.all
def zc{α β:Type}{f:α->β}:∀{l:List α},l.Nodup->(∀a∈l,∀b∈l,f a=f b->a=b)->(l.map f).Nodup
 |[],_,_=>Zct
 |x :: l,nd,inj=>by
  obtain⟨h1,h2⟩:=Zbb.mp nd;rw[Zaq,Zbb];refine⟨λhm=>?_,zc h2 λa ha b hb=>inj a (Zah _ ha) b (Zah _ hb)⟩;obtain⟨y,hy,e⟩:=Zag.mp hm;exact h1 (inj y (Zah _ hy) x Zac e ▸ hy)
def Hk(xs ys:List Int):∀k,∀y∈bf xs ys 0 k,i6 xs ys y
 |0,y,hy=>by rw[Zas.mp (show y∈[(0:Int)]from hy)];exact .zero
 |k+1,y,hy=>by
  have hy':y∈(match (bf xs ys 0 k)[k]? with|some x=>visit xs ys (bf xs ys 0 k) x|none=>bf xs ys 0 k):=hy;split at hy'
  ·next z hz =>
   have xy:=Hk xs ys k z (Zab hz);rcases rO.mp hy' with hy'|rfl
   ·rcases rO.mp hy' with hy'|rfl
    ·exact Hk xs ys k y hy'
    ·exact xy.r
   ·exact xy.u
  ·exact Hk xs ys k y hy'
def xA(w:Wh n p)(v:Vf n q)(n0:0<n)(h:∀F:List Int,F.Nodup->(∀x∈F,0<=x/\x<(n:Int))->Cl q.1 q.2 F->Cl p.1 p.2 F):Wh n q:=by refine⟨v,λx x0 x1=>Hk q.1 q.2 n x ?_⟩;have c:=h (bf q.1 q.2 0 n) (yV _ _ _ _) (sX v.1 v.2 ∅ ⋯ n) (K9 v.1 v.2 ∅ ⋯);refine c.all ?_ (w.all x x0 x1);have:=Bo q.1 q.2 0 0 n;rw[Zb8]at this;exact this.subset (show(0:Int)∈[(0:Int)] by simp)
def Pj{zs F:List Int}(hz:Tn n zs)(nd:F.Nodup)(hb:∀x∈F,0<=x/\x<(n:Int))(hc:∀x∈F,app zs x∈F):∀x∈F,app (inv zs) x∈F:=λx hx=>by
 obtain⟨x0,x1⟩:=hb x hx;obtain⟨a0,a1⟩:=hz.lB x0 x1;exact yW hz nd hb hc a0 a1 (by rw[hz.bU x0 x1];exact hx)
def Lr{zs F:List Int}(hc:∀x∈F,app zs x∈F){x:Int}(hx:x∈F):∀k,aU zs x k∈F
 |0=>hx
 |k+1=>hc _ (Lr hc hx k)
def DH{zs F:List Int}(hz:Tn n zs)(nd:F.Nodup)(hb:∀x∈F,0<=x/\x<(n:Int))(hc:∀x∈F,app zs x∈F)(k:Int){x:Int}(hx:x∈F):pw zs k x∈F:=by unfold pw;split;exact Lr hc hx _;exact Lr (Pj hz nd hb hc) hx _
def Wh.sh(w:Wh n p)(n0:0<n)(k:Int):Wh n (Sh k p):=by
 refine xA w (w.v.sh k) n0 λF nd hb hc x hx=>⟨(hc x hx).1,?_⟩;obtain⟨x0,x1⟩:=hb x hx;have h1:∀x∈F,app p.1 x∈F:=λx hx=>(hc x hx).1;have hy:=DH w.v.1 nd hb h1 k hx;have:=(hc _ hy).2;obtain⟨y0,y1⟩:=hb _ hy;have e:app (Sh k p).2 (pw p.1 k x)=app p.2 x:=by
  show app (shr p.1 p.2 k) (pw p.1 k x)=_;unfold shr;have hlen:(cy p.1 (-k)).length=n:=(w.v.1.cy (-k)).length;rw[oq y0 (by rw[hlen];exact y1)]
  congr 1
  have e3:=Dw w.v.1 k (-k);rw[Int.add_right_neg,Ll w.v.1]at e3;have e4:app (aY (cy p.1 k) (cy p.1 (-k))) x=app (upto n) x:=by rw[e3]
  rw[Hg x0 x1,oq x0 (by rw[(w.v.1.cy k).length];exact x1)]at e4;have e5:app (cy p.1 k) x=pw p.1 k x:=qP x0 (by rw[w.v.1.length];exact x1);rw[e5]at e4;exact e4
 rw[e]at this;exact this
def Wh.qt(w:Wh n p)(n0:0<n):Wh n (Qt p):=by refine xA w w.v.qt n0 λF nd hb hc x hx=>⟨(hc x hx).2,?_⟩;have:=Pj w.v.2.aC nd hb (λx hx=>(hc x hx).1) x hx;rw[w.v.2.inv_inv]at this;exact this
abbrev Od(xs ys F:List Int):Prop:=F[0]?=some 0/\∀(k:Nat) (y:Int),F[k+1]?=some y->∃(j:Nat) (x:Int),j<=k/\F[j]?=some x/\(y=app xs x\/y=app ys x)
def Od.one(xs ys:List Int):Od xs ys [0]:=⟨rfl,λk y h=>by cases h⟩
def Od.snoc{xs ys F:List Int}{x y:Int}(h:Od xs ys F)(hx:x∈F)(hy:y=app xs x\/y=app ys x):Od xs ys (F ++ [y]):=by
 have hl:0<F.length:=Zch hx;refine⟨by rw[Zan hl];exact h.1,λk z hz=>?_⟩;by_cases hk:k+1<F.length;rw[Zan hk]at hz;obtain⟨j,x',hj,hx',e⟩:=h.2 k z hz;exact⟨j,x',hj,by rw[Zan ⋯];exact hx',e⟩;rw[ZaE ⋯]at hz;have hz:z=y:=by
  cases h3:k+1-F.length with
  |zero=>rw[h3]at hz;cases hz;rfl
  |succ m=>rw[h3]at hz;cases hz
 obtain⟨j,hj,e⟩:=Za8 hx;have p6:k+1=F.length\/F.length<k+1:=by lk
 refine⟨j,x,by lk,by rw[Zan hj,Z8 hj,e],by rw[hz];exact hy⟩
structure Fo(xs ys F:List Int):Prop extends Fd xs ys F where
 od:Od xs ys F
def Fo.one(xs ys:List Int):Fo xs ys [0]:=⟨Fd.one xs ys,Od.one xs ys⟩
end
end af
namespace af
section
variable {n:Nat}{xs ys r r' r2:List Int}{i j x y:Int}
def bu.go(h:bu xs i r)(hx:x∈r)(hy:y∈r):∃k,y=aU xs x k:=by obtain⟨m,e,_,bk⟩:=h.ex;subst e;obtain⟨a,ha,rfl⟩:=qO.mp hx;obtain⟨b,hb,rfl⟩:=qO.mp hy;refine⟨b+(m+1)-a,?_⟩;rw[sW,show a+(b+(m+1)-a)=b+(m+1) by lk];exact(Hd bk b).symm
def bu.dz(h:bu xs i r)(hx:x∈r):∀k,aU xs x k∈r
 |0=>hx
 |k+1=>h.step (h.dz hx k)
def Pk(h:bu xs i r)(h':bu xs j r')(hx:x∈r)(hx':x∈r')(hy:y∈r):y∈r':=by obtain⟨k,rfl⟩:=h.go hx hy;exact h'.dz hx' k
abbrev Rw(n:Nat)(xs r:List Int):Prop:=∃i:Int,(0<=i/\i<(n:Int))/\bu xs i r/\∀x∈r,i<=x
def Rw.eq(a:Rw n xs r)(b:Rw n xs r')(hx:x∈r)(hx':x∈r'):r=r':=by
 obtain⟨i,bi,ri,li⟩:=a;obtain⟨j,bj,rj,lj⟩:=b;have h1:=lj i (Pk ri rj hx hx' ri.mem);have h2:=li j (Pk rj ri hx' hx rj.mem);have:i=j:=by lk
 subst this;exact ri.unique rj
def Rw.bound(tx:Tn n xs)(a:Rw n xs r):∀x∈r,0<=x/\x<(n:Int):=by obtain⟨i,bi,ri,li⟩:=a;exact ri.bound tx bi.1 bi.2
def Rw.nodup(tx:Tn n xs)(a:Rw n xs r):r.Nodup:=by obtain⟨i,bi,ri,li⟩:=a;exact ri.nodup tx bi.1 bi.2
def Rw.len(tx:Tn n xs)(a:Rw n xs r):r.length<=n:=by obtain⟨i,bi,ri,li⟩:=a;exact ri.len tx bi.1 bi.2
def Rw.one(a:Rw n xs r):∃x,x∈r:=let ⟨i,_,ri,_⟩:=a;⟨i,ri.mem⟩
def Rw.step(a:Rw n xs r)(hx:x∈r):app xs x∈r:=let ⟨_,_,ri,_⟩:=a;ri.step hx
def i5.rw'(tx:Tn n xs):∀{left:List Int} {rs:List (List Int)},i5 xs left rs->left.Pairwise (· < ·)->(∀x∈left,(0<=x/\x<(n:Int))/\app xs x∈left)->∀r∈rs,Rw n xs r:=by
 intro left rs a
 induction a with
 |nil=>intro _ _ r hr;cases hr
 |cons h1 _ ih =>
  rename_i i left r rs _
  intro nd cl q hq;obtain⟨i0,i1⟩:=(cl i Zac).1;have sub:∀x∈r,x∈i :: left:=by
   obtain⟨m,e,_,_⟩:=h1.ex;subst e;have:∀j,aU xs i j∈i :: left:=λj=>by
    induction j with
    |zero=>exact Zac
    |succ j ih=>exact(cl _ ih).2
   intro x hx;obtain⟨j,_,rfl⟩:=qO.mp hx;exact this j
  rcases Zax.mp hq with rfl|hq
  ·refine⟨i,⟨i0,i1⟩,h1,λx hx=>?_⟩
   rcases Zax.mp (sub x hx)with rfl|h
   ·lk
   ·have:=(ZbQ.mp nd).1 x h;lk
  ·refine ih (Zcl Zb7 nd) (λx hx=>?_) q hq
   obtain⟨Ld,Le⟩:=Zaw.mp hx;have nr:x ∉ r:=by simpa using Le
   obtain⟨b,c⟩:=cl x Ld;exact⟨b,Zaw.mpr ⟨c,by simpa usingλz=>nr (h1.uq tx i0 i1 b.1 b.2 z)⟩⟩
def i5.rw(tx:Tn n xs){rs:List (List Int)}(g:i5 xs (upto n) rs):∀r∈rs,Rw n xs r :=
 g.rw' tx (OI n) λx hx=>⟨ke.mp hx,ke.mpr (tx.app (ke.mp hx).1 (ke.mp hx).2)⟩
def i5.has{rs:List (List Int)}(g:i5 xs (upto n) rs)(x0:0<=x)(x1:x<(n:Int)):∃r∈rs,x∈r:=g.all.2 x (ke.mpr ⟨x0,x1⟩)
def i5.mem(tx:Tn n xs){rs:List (List Int)}(g:i5 xs (upto n) rs):r∈rs↔Rw n xs r:=by refine⟨g.rw tx r,λh=>?_⟩;obtain⟨x,hx⟩:=h.one;obtain⟨b0,b1⟩:=h.bound tx x hx;obtain⟨r',hr',hx'⟩:=g.has b0 b1;rw[h.eq (g.rw tx r' hr') hx hx'];exact hr'
def U6{rs:List (List Int)}(h:rs.flatten.Nodup)(ne:∀r∈rs,r≠[]):rs.Nodup:=by
 induction rs with
 |nil=>exact Zct
 |cons r rs ih =>
  rw[Zbl]at h;obtain⟨_,h2,h3⟩:=ZbE.mp h;refine Zbb.mpr ⟨λhm=>?_,ih h2 λq hq=>ne q (Zah _ hq)⟩;obtain⟨x,hx⟩:=Zbs r (ne r Zac);exact h3 x hx x (Zbn.mpr ⟨r,hm,hx⟩) rfl
def i5.nodup(tx:Tn n xs){rs:List (List Int)}(g:i5 xs (upto n) rs):rs.Nodup:=by refine U6 ((g.Bk tx).nodup_iff.mpr (Dj n)) λr hr e=>?_;obtain⟨x,hx⟩:=(g.rw tx r hr).one;rw[e]at hx;cases hx
abbrev Sm(xs ys r:List Int):Prop:=∀s∈r,app ys (app xs s)=app xs (app ys s)
instance:Decidable (Sm xs ys r):=inferInstanceAs (Decidable (∀s∈r,app ys (app xs s)=app xs (app ys s)))
def Hl(tx:Tn n xs)(ty:Tn n ys){s:Int}(s0:0<=s)(s1:s<(n:Int)):app (j3 xs ys) s=s↔app ys (app xs s)=app xs (app ys s):=by
 obtain⟨a0,a1⟩:=tx.app s0 s1;obtain⟨b0,b1⟩:=ty.app a0 a1;obtain⟨c0,c1⟩:=tx.lB b0 b1;obtain⟨d0,d1⟩:=ty.app s0 s1;obtain⟨e0,e1⟩:=ty.lB c0 c1;have e:app (j3 xs ys) s=app (inv ys) (app (inv xs) (app ys (app xs s))):=by
  unfold af.j3;rw[oq s0 (by rw[vI,tx.length];exact s1),oq s0 (by rw[tx.length];exact s1),oq b0 (by rw[Bl,tx.length];exact b1)]
 rw[e];constructor;intro h;have h1:=ty.bU c0 c1;rw[h]at h1;rw[h1,tx.bU b0 b1];intro h;rw[h,tx.fe d0 d1,ty.fe s0 s1]
def Sm.aU(hs:Sm xs ys r)(a:Rw n xs r)(hx:x∈r):∀k,app ys (af.aU xs x k)=af.aU xs (app ys x) k
 |0=>rfl
 |k+1=>by
  obtain⟨i,_,ri,_⟩:=a;show app ys (app xs (af.aU xs x k))=app xs (af.aU xs (app ys x) k);rw[hs _ (ri.dz hx k),hs.aU ⟨i,‹_›,ri,‹_›⟩ hx k]
abbrev Up(n:Nat)(xs ys r r':List Int):Prop:=Rw n xs r'/\∃s∈r,app ys s∈r'
def Up.all(u:Up n xs ys r r')(a:Rw n xs r)(hs:Sm xs ys r):∀t∈r,app ys t∈r':=λt ht=>by
 obtain⟨b,s,h1,h2⟩:=u;have a':=a;obtain⟨i,_,ri,_⟩:=a;obtain⟨k,rfl⟩:=ri.go h1 ht;rw[hs.aU a' h1 k];obtain⟨j,_,rj,_⟩:=b;exact rj.dz h2 k
def Up.ow(u:Up n xs ys r r')(a:Rw n xs r)(hs:Sm xs ys r):∀y∈r',∃t∈r,app ys t=y:=λy hy=>by
 obtain⟨b,s,h1,h2⟩:=u;obtain⟨j,_,rj,_⟩:=b;obtain⟨k,rfl⟩:=rj.go h2 hy;have a':=a;obtain⟨i,_,ri,_⟩:=a;exact⟨af.aU xs s k,ri.dz h1 k,hs.aU a' h1 k⟩
def Up.inj(tx:Tn n xs)(ty:Tn n ys)(u:Up n xs ys r r')(v:Up n xs ys r2 r')(a:Rw n xs r)(b:Rw n xs r2)(hs:Sm xs ys r)(ht:Sm xs ys r2):r=r2:=by obtain⟨y,hy⟩:=u.1.one;obtain⟨s,s1,s2⟩:=u.ow a hs y hy;obtain⟨t,t1,t2⟩:=v.ow b ht y hy;have b1:=a.bound tx s s1;have b2:=b.bound tx t t1;have:=ty.inj b1.1 b1.2 b2.1 b2.2 (s2.trans t2.symm);subst this;exact a.eq b s1 t1
def Up.uniq(u:Up n xs ys r r')(v:Up n xs ys r r2)(a:Rw n xs r)(hs:Sm xs ys r):r'=r2:=by obtain⟨x,hx⟩:=a.one;exact u.1.eq v.1 (u.all a hs x hx) (v.all a hs x hx)
def Up.perm(tx:Tn n xs)(ty:Tn n ys)(u:Up n xs ys r r')(a:Rw n xs r)(hs:Sm xs ys r):(r.map (app ys)).Perm r':=by refine(Zbm (zc (a.nodup tx) λp hp q hq e=>?_) (u.1.nodup tx)).mpr λy=>?_;have b1:=a.bound tx p hp;have b2:=a.bound tx q hq;exact ty.inj b1.1 b1.2 b2.1 b2.2 e;rw[Zag];constructor;rintro⟨t,ht,rfl⟩;exact u.all a hs t ht;exact u.ow a hs y
def Up.len(tx:Tn n xs)(ty:Tn n ys)(u:Up n xs ys r r')(a:Rw n xs r)(hs:Sm xs ys r):r.length=r'.length:=by
 have:=(u.perm tx ty a hs).length_eq
 rwa [Z7]at this
def Pm(tx:Tn n xs)(ty:Tn n ys)(a:Rw n xs r)(hs:Sm xs ys r){m:Int}(hm:m∈r.map (app ys))(hl:∀y∈r.map (app ys),m<=y)(q:bu xs m r'):Up n xs ys r r':=by obtain⟨s,s1,rfl⟩:=Zag.mp hm;have bs:=a.bound tx s s1;refine⟨⟨_,ty.app bs.1 bs.2,q,λx hx=>?_⟩,s,s1,q.mem⟩;obtain⟨k,rfl⟩:=q.go q.mem hx;rw[<- hs.aU a s1 k];obtain⟨i,_,ri,_⟩:=a;exact hl _ (Zcs (ri.dz s1 k))
structure Ch(n:Nat)(xs ys l:List Int)(b:List (List Int)):Prop where
 hd:b[0]?=some l
 nd:b.Nodup
 rw:∀r∈b,Rw n xs r
 st:∀(k:Nat) (r r':List Int),b[k]?=some r->b[k+1]?=some r'->Sm xs ys r/\Up n xs ys r r'
def Ch.one{l:List Int}(a:Rw n xs l):Ch n xs ys l [l]:=⟨rfl,by simp,λr hr=>by rw[Zas.mp hr];exact a,λk r r' _ h=>by simp at h⟩
def Ch.len(tx:Tn n xs){l:List Int}{b:List (List Int)}(c:Ch n xs ys l b):b.length<=n:=by
 have nd:(b.map λr=>r.headD 0).Nodup:=by
  refine zc c.nd λp hp q hq e=>?_;have h:∀p:List Int,Rw n xs p->p.headD 0∈p:=λp a=>by
   obtain⟨x,hx⟩:=a.one;cases p with
   |nil=>cases hx
   |cons a p=>exact Zac
  exact(c.rw p hp).eq (c.rw q hq) (h p (c.rw p hp)) (by rw[e];exact h q (c.rw q hq))
 have:=yR nd (ys:=upto n) λx hx=>by
  obtain⟨p,hp,rfl⟩:=Zag.mp hx;have a:=c.rw p hp;obtain⟨x,hx⟩:=a.one;cases p with
  |nil=>cases hx
  |cons y p=>exact ke.mpr (a.bound tx y Zac)
 rwa [Z7,qN]at this
def Ch.snoc(tx:Tn n xs)(ty:Tn n ys){l:List Int}{b:List (List Int)}(c:Ch n xs ys l b)(hr:b[b.length-1]?=some r)(hs:Sm xs ys r)(u:Up n xs ys r r')(ne:r'≠l):Ch n xs ys l (b ++ [r']):=by
 have hl:0<b.length:=by have:=(Z9.mp c.hd).1;lk
 refine⟨by rw[Zan hl];exact c.hd,?_,λq hq=>?_,λk q q' h1 h2=>?_⟩;refine ZbE.mpr ⟨c.nd,by simp,λp hp q hq e=>?_⟩;rw[Zas.mp hq]at e;subst e;obtain⟨k,hk,e⟩:=Za8 hp;cases k with
 |zero =>
  have:=c.hd;rw[Z8 hk,e]at this;exact ne (Zam this)
 |succ k =>
  have h1:b[k]?=some b[k]:=Z8 ⋯;obtain⟨s1,u1⟩:=c.st k b[k] p h1 (by rw[Z8 hk,e]);have e2:=u1.inj tx ty u (c.rw _ (ZaL _)) (c.rw _ (Zab hr)) s1 hs;obtain⟨h3,e3⟩:=Z9.mp hr;have:=(ZbX c.nd).mp (e2.trans e3.symm);lk
 rcases Zay.mp hq with hq|hq
 exact c.rw q hq;rw[Zas.mp hq];exact u.1;by_cases hk:k+1<b.length;rw[Zan hk]at h2;rw[Zan ⋯]at h1;exact c.st k q q' h1 h2;have hk2:=(Z9.mp h2).1;rw[Zaf,ZaO]at hk2;have ek:k=b.length-1:=by lk
 rw[Zan ⋯,ek,hr]at h1;cases h1;rw[ZaE ⋯,show k+1-b.length=0 by lk]at h2;cases h2;exact⟨hs,u⟩
structure Bd(n:Nat)(xs ys l:List Int)(b:List (List Int)):Prop extends Ch n xs ys l b where
 en:∀r,b[b.length-1]?=some r->Sm xs ys r->Up n xs ys r l
def Bd.up{l:List Int}{b:List (List Int)}(c:Bd n xs ys l b)(hr:r∈b)(hs:Sm xs ys r)(u:Up n xs ys r r'):r'∈b:=by
 obtain⟨k,hk,rfl⟩:=Za8 hr;by_cases h:k+1<b.length;obtain⟨s1,u1⟩:=c.st k b[k] b[k+1] (Z8 hk) (Z8 h);rw[u.uniq u1 (c.rw _ hr) hs];exact ZaL _;have ek:k=b.length-1:=by lk
 have:=c.en b[k] (by rw[<- ek];exact Z8 hk) hs;rw[u.uniq this (c.rw _ hr) hs];exact Zab c.hd
def Bd.width(tx:Tn n xs)(ty:Tn n ys){l:List Int}{b:List (List Int)}(c:Ch n xs ys l b):∀r∈b,r.length=l.length:=by
 have key:∀(k:Nat) (r:List Int),b[k]?=some r->r.length=l.length:=by
  intro k
  induction k with
  |zero=>intro r hr;rw[c.hd]at hr;cases hr;rfl
  |succ k ih =>
   intro r hr;have hk:=(Z9.mp hr).1;have h1:b[k]?=some b[k]:=Z8 ⋯;obtain⟨s1,u1⟩:=c.st k _ r h1 hr;rw[<- u1.len tx ty (c.rw _ (ZaL _)) s1];exact ih _ h1
 intro r hr;obtain⟨k,hk⟩:=Zbk hr;exact key k r hk
def Bd.unique{l:List Int}{b b':List (List Int)}(c:Bd n xs ys l b)(d:Bd n xs ys l b'):b=b':=by
 have key:∀k:Nat,b[k]?=b'[k]?:=by
  have half:∀{b b':List (List Int)},Bd n xs ys l b->Bd n xs ys l b'->∀(k:Nat) (r:List Int),b[k]?=some r->b'[k]?=some r->∀q,b'[k+1]?=some q->b[k+1]?=some q:=by
   intro b b' c d k r h1 h2 q hq;obtain⟨s1,u1⟩:=d.st k r q h2 hq;by_cases h:k+1<b.length;have h3:b[k+1]?=some b[k+1]:=Z8 h;obtain⟨s2,u2⟩:=c.st k r _ h1 h3;rw[h3,u2.uniq u1 (c.rw r (Zab h1)) s1];have hk:=(Z9.mp h1).1;have ek:k=b.length-1:=by lk
   have u2:=c.en r (by rw[<- ek];exact h1) s1;have e:=u2.uniq u1 (c.rw r (Zab h1)) s1;obtain⟨h5,e5⟩:=Z9.mp hq;obtain⟨h6,e6⟩:=Z9.mp d.hd;have:=(ZbX d.nd).mp (e6.trans (e.trans e5.symm));lk
  intro k
  induction k with
  |zero=>rw[c.hd,d.hd]
  |succ k ih =>
   cases h:b[k]? with
   |none =>
    rw[h]at ih;have h1:=ZaK.mp h;have h2:=ZaK.mp ih.symm;rw[ZaK.mpr ⋯,ZaK.mpr ⋯]
   |some r =>
    rw[h]at ih;cases h3:b[k+1]? with
    |some q=>exact(half d c k r ih.symm h q h3).symm
    |none =>
     cases h4:b'[k+1]? with
     |none=>rfl
     |some q=>rw[half c d k r h ih.symm q h4]at h3;cases h3
 exact ZbT key
end
end af
namespace af
def Pn{α:Type}[DecidableEq α]:∀{xs ys:List α},xs.Nodup->(∀x∈xs,x∈ys)->ys.length<=xs.length->xs.Perm ys
 |[],ys,_,_,h=>by
  have:ys=[]:=Zbx (by simpa using h);subst this;exact Zbo _
 |x :: xs,ys,hn,hs,hl=>by
  obtain⟨h1,h2⟩:=Zbb.mp hn;have hx:x∈ys:=hs x Zac;have hp:=ZbZ hx;have hlen:(ys.erase x).length+1=ys.length:=by have:=hp.length_eq;simpa using this.symm
  refine List.Perm.trans (List.Perm.cons x (Pn (ys:=ys.erase x) h2 (λy hy=>?_) ?_)) hp.symm;have hne:y≠x:=λe=>h1 (e ▸ hy);exact(Zb0 hne).mpr (hs y (Zah _ hy));simp at hl;lk
def pick{α β:Type}[Inhabited β]{rs:List α}{rs':List β}{P:α->β->Prop}(tot:∀r∈rs,∃r'∈rs',P r r'):∃F:α->β,∀r∈rs,F r∈rs'/\P r (F r):=by
 have:∀r,∃r',r∈rs->r'∈rs'/\P r r':=λr=>by
  by_cases h:r∈rs;obtain⟨r',h1,h2⟩:=tot r h;exact⟨r',λ_=>⟨h1,h2⟩⟩;exact⟨default,λz=>absurd z h⟩
 exact⟨λr=>Classical.choose (this r),λr hr=>Classical.choose_spec (this r) hr⟩
def U7{α:Type}[DecidableEq α][Inhabited α]{U:List α}(nd:U.Nodup){P:α->α->Prop}(h1:∀u∈U,∃p∈U,P p u)(h2:∀p∈U,∀u∈U,∀u'∈U,P p u->P p u'->u=u'):∀p∈U,∃u∈U,P p u:=by
 obtain⟨F,hF⟩:=pick (P:=λu p=>P p u) h1;have Br:(U.map F).Nodup:=zc nd λa ha b hb e=>h2 (F a) (hF a ha).1 a ha b hb (hF a ha).2 (by rw[e];exact(hF b hb).2)
 have hp:=Pn Br (ys:=U) (λx hx=>by
  obtain⟨u,hu,rfl⟩:=Zag.mp hx
  exact(hF u hu).1) (by rw[Z7];exact Zaa _)
 intro p U8;obtain⟨u,hu,rfl⟩:=Zag.mp (hp.symm.subset U8);exact⟨u,hu,(hF u hu).2⟩
def Po{α β γ:Type}[Inhabited β][DecidableEq β]{rs:List α}{rs':List β}{P:α->β->Prop}{f:α->γ}{f':β->γ}(nd:rs.Nodup)(Br:rs'.Nodup)(tot:∀r∈rs,∃r'∈rs',P r r')(ow:∀r'∈rs',∃r∈rs,P r r')
  (fn:∀r∈rs,∀r'∈rs',∀q'∈rs',P r r'->P r q'->r'=q') (inj:∀r∈rs,∀q∈rs,∀r'∈rs',P r r'->P q r'->r=q) (hf:∀r∈rs,∀r'∈rs',P r r'->f r=f' r'):(rs.map f).Perm (rs'.map f'):=by
 obtain⟨F,hF⟩:=pick tot;have La:(rs.map F).Nodup:=zc nd λa ha b hb e=>inj a ha b hb (F a) (hF a ha).1 (hF a ha).2 (by rw[e];exact(hF b hb).2);have p:(rs.map F).Perm rs':=(Zbm La Br).mpr λy=>by
  rw[Zag];constructor;rintro⟨a,ha,rfl⟩;exact(hF a ha).1;intro hy;obtain⟨r,hr,h⟩:=ow y hy;exact⟨r,hr,fn r hr (F r) (hF r hr).1 y hy (hF r hr).2 h⟩
 have e:rs.map f=(rs.map F).map f':=by
  rw[Zat];exact ZaX λr hr=>hf r hr (F r) (hF r hr).1 (hF r hr).2
 rw[e];exact p.map f'
section
variable {n:Nat}{xs ys:List Int}{rs:List (List Int)}{lows:List (List Int)}{B:List Int->List (List Int)}
def cover(tx:Tn n xs)(ty:Tn n ys)(all:∀x:Int,0<=x->x<(n:Int)->i6 xs ys x)(g:i5 xs (upto n) rs)(hB:∀l∈lows,Bd n xs ys l (B l))(ne:lows≠[])(hl:∀l∈lows,l∈rs)
  (H1:∀r∈rs,r∈lows\/∃p,Rw n xs p/\Sm xs ys p/\Up n xs ys p r):∀r∈rs,∃l∈lows,r∈B l:=by
 intro r0 hr0;refine Classical.byContradiction λhc=>?_
 let U:=rs.filter λr=>lows.all λl=>!(B l).contains r
 have mU:∀r,r∈U↔r∈rs/\∀l∈lows,r ∉ B l:=λr=>by
  show r∈rs.filter _↔_;rw[Zaw,Zbi];refine and_congr_right λ_=>forall_congr' λl=>imp_congr_right λ_=>?_;simp
 have h0:r0∈U:=(mU r0).mpr ⟨hr0,λl hl h=>hc ⟨l,hl,h⟩⟩;have U9:U.Nodup:=(g.nodup tx).filter _;have own:∀l∈lows,l∈B l:=λl hl=>Zab (hB l hl).hd
 have nx:=U7 (P:=λp u=>Rw n xs p/\Sm xs ys p/\Up n xs ys p u) U9 (λu hu=>by
  obtain⟨hu1,Pp⟩:=(mU u).mp hu;rcases H1 u hu1 with h|⟨p,a,s,up⟩
  exact absurd (own u h) (Pp u h)
  refine⟨p,(mU p).mpr ⟨(g.mem tx).mpr a,λl hl' hp=>Pp l hl' ((hB l hl').up hp s up)⟩,a,s,up⟩) (λp _ u _ u' _ h h'=>h.2.2.uniq h'.2.2 h.1 h.2.1)
 have Pq:U.flatten.Nodup:=by
  have:=(g.Bk tx).nodup_iff.mpr (Dj n);obtain⟨p1,p2⟩:=Zcm.mp this;exact Zcm.mpr ⟨λl hl=>p1 l (Zaw.mp hl).1,p2.sublist Zb7⟩
 have bF:∀x∈U.flatten,0<=x/\x<(n:Int):=λx hx=>by
  obtain⟨r,hr,hx⟩:=Zbn.mp hx;exact(g.rw tx r ((mU r).mp hr).1).bound tx x hx
 have cF:Cl xs ys U.flatten:=λx hx=>by
  obtain⟨r,hr,hx⟩:=Zbn.mp hx;have a:=g.rw tx r ((mU r).mp hr).1;obtain⟨u,hu,_,s,up⟩:=nx r hr;exact⟨Zbn.mpr ⟨r,hr,a.step hx⟩,Zbn.mpr ⟨u,hu,up.all a s x hx⟩⟩
 by_cases z:(0:Int)∈U.flatten;obtain⟨l,hl'⟩:=Zbs lows ne;have a:=g.rw tx l (hl l hl');obtain⟨x,hx⟩:=a.one;have bx:=a.bound tx x hx;obtain⟨u,hu,Va⟩:=Zbn.mp (cF.all z (all x bx.1 bx.2));obtain⟨u1,u2⟩:=(mU u).mp hu;have e:=a.eq (g.rw tx u u1) hx Va;exact u2 l hl' (by rw[<- e];exact own l hl');have no:∀ x,i6 xs ys x->(0<=x/\x < (n:Int))/\x ∉ U.flatten:=λx h=>by
  induction h with
  |zero =>
   obtain⟨x,hx⟩:=(g.rw tx r0 hr0).one;have:=(g.rw tx r0 hr0).bound tx x hx;exact⟨by lk,z⟩
  |r _ ih=>exact⟨tx.app ih.1.1 ih.1.2,λq=>ih.2 (yW tx Pq bF (λx hx=>(cF x hx).1) ih.1.1 ih.1.2 q)⟩
  |u _ ih=>exact⟨ty.app ih.1.1 ih.1.2,λq=>ih.2 (yW ty Pq bF (λx hx=>(cF x hx).2) ih.1.1 ih.1.2 q)⟩
 obtain⟨x,hx⟩:=(g.rw tx r0 hr0).one;have bx:=(g.rw tx r0 hr0).bound tx x hx;exact(no x (all x bx.1 bx.2)).2 (Zbn.mpr ⟨r0,h0,hx⟩)
def apart{l l':List Int}{b b':List (List Int)}(tx:Tn n xs)(ty:Tn n ys)(c:Bd n xs ys l b)(d:Bd n xs ys l' b')(h:∀p,Rw n xs p->Sm xs ys p->¬Up n xs ys p l)(h':∀p,Rw n xs p->Sm xs ys p->¬Up n xs ys p l'):
  ∀(i j:Nat) (r:List Int),b[i]?=some r->b'[j]?=some r->l=l'
 |0,0,r,h1,h2=>by rw[c.hd]at h1;rw[d.hd]at h2;cases h1;cases h2;rfl
 |0,j+1,r,h1,h2=>by
  rw[c.hd]at h1;cases h1;have hj:=(Z9.mp h2).1;obtain⟨s,u⟩:=d.st j _ _ (Z8 ⋯) h2;exact absurd u (h _ (d.rw _ (ZaL _)) s)
 |i+1,0,r,h1,h2=>by
  rw[d.hd]at h2;cases h2;have hj:=(Z9.mp h1).1;obtain⟨s,u⟩:=c.st i _ _ (Z8 ⋯) h1;exact absurd u (h' _ (c.rw _ (ZaL _)) s)
 |i+1,j+1,r,h1,h2=>by
  have hi:=(Z9.mp h1).1;have hj:=(Z9.mp h2).1;have e1:b[i]?=some b[i]:=Z8 ⋯;have e2:b'[j]?=some b'[j]:=Z8 ⋯;obtain⟨s,u⟩:=c.st i _ _ e1 h1;obtain⟨s',u'⟩:=d.st j _ _ e2 h2;have e:=u.inj tx ty u' (c.rw _ (ZaL _)) (d.rw _ (ZaL _)) s s';rw[<- e]at e2;exact apart tx ty c d h h' i j _ e1 e2
structure Lw(n:Nat)(xs ys:List Int)(rs lows:List (List Int)):Prop where
 ne:lows≠[]
 sub:∀l∈lows,l∈rs
 nd:lows.Nodup
 up:∀r∈rs,r∈lows\/∃p,Rw n xs p/\Sm xs ys p/\Up n xs ys p r
 lo:(∀l∈lows,∀p,Rw n xs p->Sm xs ys p->¬Up n xs ys p l)\/lows.length=1
def Lw.parts(w:Lw n xs ys rs lows)(tx:Tn n xs)(ty:Tn n ys)(all:∀x:Int,0<=x->x<(n:Int)->i6 xs ys x)(g:i5 xs (upto n) rs)(hB:∀l∈lows,Bd n xs ys l (B l)):(lows.map B).flatten.Perm rs:=by
 have cv:=cover tx ty all g hB w.ne w.sub w.up;refine(Zbm ?_ (g.nodup tx)).mpr λr=>?_;refine Zcm.mpr ⟨λb hb=>?_,?_⟩;obtain⟨l,hl,rfl⟩:=Zag.mp hb;exact(hB l hl).nd;rw[Zba];refine Zbh (R:=λa b=>a≠b) (λ{a b} ha hb hab=>?_) w.nd;intro r h1 r2 h2 e;subst e;rcases w.lo with h|h
 obtain⟨i,hi⟩:=Zbk h1;obtain⟨j,hj⟩:=Zbk h2;exact hab (apart tx ty (hB a ha) (hB b hb) (h a ha) (h b hb) i j r hi hj);obtain⟨c,rfl⟩:=List.length_eq_one_iff.mp h;exact hab ((Zas.mp ha).trans (Zas.mp hb).symm);rw[Zbn];constructor;rintro⟨b,hb,hr⟩;obtain⟨l,hl,rfl⟩:=Zag.mp hb;exact(g.mem tx).mpr ((hB l hl).rw r hr);intro hr;obtain⟨l,hl,h⟩:=cv r hr;exact⟨B l,Zcs hl,h⟩
end
section
variable {n:Nat}{c g:List Int}{rs rs':List (List Int)}
abbrev Im(g r r':List Int):Prop:=∀x,x∈r'↔∃s∈r,app g s=x
def Ls(tc:Tn n c)(tg:Tn n g)(b:i5 (anew c g) (upto n) rs'){r:List Int}(a:Rw n c r):∃r'∈rs',Im g r r':=by obtain⟨x,hx⟩:=a.one;have bx:=a.bound tc x hx;have gx:=tg.app bx.1 bx.2;obtain⟨r',hr',h⟩:=b.has gx.1 gx.2;refine⟨r',hr',λy=>?_⟩;obtain⟨i,bi,ri,_⟩:=a;obtain⟨j,bj,rj,_⟩:=b.rw (tc.anew tg) r' hr';constructor;intro hy;obtain⟨k,rfl⟩:=rj.go h hy;exact⟨aU c x k,ri.dz hx k,(Bq tc tg bx.1 bx.2 k).symm⟩;rintro⟨s,hs,rfl⟩;obtain⟨k,rfl⟩:=ri.go hx hs;rw[<- Bq tc tg bx.1 bx.2 k];exact rj.dz h k
def Im.len(tc:Tn n c)(tg:Tn n g){r r':List Int}(a:Rw n c r)(b:Rw n (anew c g) r')(h:Im g r r'):r.length=r'.length:=by
 have p:(r.map (app g)).Perm r':=(Zbm (zc (a.nodup tc) λp hp q hq e=>by
  have b1:=a.bound tc p hp;have b2:=a.bound tc q hq
  exact tg.inj b1.1 b1.2 b2.1 b2.2 e) (b.nodup (tc.anew tg))).mpr λy=>by rw[Zag];exact(h y).symm
 have:=p.length_eq
 rwa [Z7]at this
def Im.fn(tc:Tn n c)(tg:Tn n g){r r' q':List Int}(a:Rw n c r)(b:Rw n (anew c g) r')(b':Rw n (anew c g) q')(h:Im g r r')(h':Im g r q'):r'=q':=by obtain⟨x,hx⟩:=a.one;exact b.eq b' ((h _).mpr ⟨x,hx,rfl⟩) ((h' _).mpr ⟨x,hx,rfl⟩)
def Im.inj(tc:Tn n c)(tg:Tn n g){r q r':List Int}(a:Rw n c r)(a':Rw n c q)(b:Rw n (anew c g) r')(h:Im g r r')(h':Im g q r'):r=q:=by obtain⟨x,hx⟩:=b.one;obtain⟨s,hs,e1⟩:=(h x).mp hx;obtain⟨t,ht,e2⟩:=(h' x).mp hx;have b1:=a.bound tc s hs;have b2:=a'.bound tc t ht;have:=tg.inj b1.1 b1.2 b2.1 b2.2 (e1.trans e2.symm);subst this;exact a.eq a' hs ht
def Im.ow(tc:Tn n c)(tg:Tn n g)(a:i5 c (upto n) rs){r':List Int}(b:Rw n (anew c g) r'):∃r∈rs,Im g r r':=by obtain⟨x,hx⟩:=b.one;have bx:=b.bound (tc.anew tg) x hx;have gx:=tg.lB bx.1 bx.2;obtain⟨r,hr,h⟩:=a.has gx.1 gx.2;refine⟨r,hr,λy=>?_⟩;obtain⟨i,bi,ri,_⟩:=a.rw tc r hr;obtain⟨j,bj,rj,_⟩:=b;have ex:=tg.bU bx.1 bx.2;have it:=λk=>Bq tc tg gx.1 gx.2 k;rw[ex]at it;constructor;intro hy;obtain⟨k,rfl⟩:=rj.go hx hy;exact⟨aU c (app (inv g) x) k,ri.dz h k,(it k).symm⟩;rintro⟨s,hs,rfl⟩;obtain⟨k,rfl⟩:=ri.go h hs;rw[<- it k];exact rj.dz hx k
def Vb(tc:Tn n c)(tg:Tn n g)(a:i5 c (upto n) rs)(b:i5 (anew c g) (upto n) rs'):(rs.map List.length).Perm (rs'.map List.length):=by have A:=a.rw tc;have B:=b.rw (tc.anew tg);exact Po (P:=Im g) (a.nodup tc) (b.nodup (tc.anew tg)) (λr hr=>Ls tc tg b (A r hr)) (λr' hr'=>Im.ow tc tg a (B r' hr')) (λr hr r' hr' q' hq'=>Im.fn tc tg (A r hr) (B r' hr') (B q' hq')) (λr hr q hq r' hr'=>Im.inj tc tg (A r hr) (A q hq) (B r' hr')) (λr hr r' hr'=>Im.len tc tg (A r hr) (B r' hr'))
end
section
variable {n:Nat}{p q:ck}{g:List Int}
def Wh.p9(w:Wh n p)(n0:0<n):∀j,Wh n (af.p9 j p)
 |0=>w
 |j+1=>(w.p9 n0 j).qt n0
def Wh.st(w:Wh n p)(n0:0<n)(s:Sp):Wh n (stM p s):=by unfold stM;split;exact w.sh n0 _;exact w.p9 n0 _
def Wh.ld(n0:0<n):∀{w:List Sp} {p:ck},Wh n p->Wh n (jm p w)
 |[],_,h=>h
 |s :: w,_,h=>Wh.ld n0 (w:=w) (h.st n0 s)
end
end af
namespace af
section
variable {n:Nat}{xs ys:List Int}
abbrev vP(n:Nat)(xs ys r:List Int):Prop:=∀p,Rw n xs p->Sm xs ys p->¬Up n xs ys p r
structure Lo(n:Nat)(xs ys:List Int)(lows:List (List Int)):Prop where
 nd:lows.Nodup
 rw:∀l∈lows,Rw n xs l
 ab:(lows≠[]/\∀r,r∈lows↔Rw n xs r/\vP n xs ys r)\/((∃l,lows=[l])/\∀r,Rw n xs r->¬vP n xs ys r)
def Lo.lw{rs lows:List (List Int)}(a:Lo n xs ys lows)(tx:Tn n xs)(g:i5 xs (upto n) rs):Lw n xs ys rs lows:=by
 have Bs:∀r,¬vP n xs ys r->∃p,Rw n xs p/\Sm xs ys p/\Up n xs ys p r:=λr h=>Classical.byContradiction λc=>h λp h1 h2 h3=>c ⟨p,h1,h2,h3⟩;refine⟨?_,λl hl=>(g.mem tx).mpr (a.rw l hl),a.nd,λr hr=>?_,?_⟩;rcases a.ab with h|⟨⟨l,rfl⟩,_⟩
 exact h.1;simp;by_cases h:vP n xs ys r;rcases a.ab with h'|⟨_,h'⟩
 exact .inl ((h'.2 r).mpr ⟨g.rw tx r hr,h⟩);exact absurd h (h' r (g.rw tx r hr));exact .inr (Bs r h);rcases a.ab with h'|⟨⟨l,rfl⟩,_⟩
 exact .inl λl hl=>((h'.2 l).mp hl).2;exact .inr rfl
variable {g r r' u u':List Int}
def Im.sm(tx:Tn n xs)(ty:Tn n ys)(tg:Tn n g)(a:Rw n xs r)(h:Im g r r'):Sm xs ys r↔Sm (anew xs g) (anew ys g) r':=by
 have e:∀s∈r,app (anew ys g) (app (anew xs g) (app g s))=app g (app ys (app xs s))/\app (anew xs g) (app (anew ys g) (app g s))=app g (app xs (app ys s)):=λs hs=>by
  obtain⟨s0,s1⟩:=a.bound tx s hs;obtain⟨a0,a1⟩:=tx.app s0 s1;obtain⟨b0,b1⟩:=ty.app s0 s1;rw[tx.dw tg s0 s1,ty.dw tg a0 a1,ty.dw tg s0 s1,tx.dw tg b0 b1];exact⟨rfl,rfl⟩
 constructor;intro hs x hx;obtain⟨s,h1,rfl⟩:=(h x).mp hx;rw[(e s h1).1,(e s h1).2,hs s h1];intro hs s h1
 have:=hs (app g s) ((h _).mpr ⟨s,h1,rfl⟩);rw[(e s h1).1,(e s h1).2]at this;obtain⟨s0,s1⟩:=a.bound tx s h1;obtain⟨a0,a1⟩:=tx.app s0 s1;obtain⟨b0,b1⟩:=ty.app s0 s1;obtain⟨c0,c1⟩:=ty.app a0 a1;obtain⟨d0,d1⟩:=tx.app b0 b1;exact tg.inj c0 c1 d0 d1 this
def Im.up(tx:Tn n xs)(ty:Tn n ys)(tg:Tn n g)(a:Rw n xs r)(b:Rw n (anew xs g) u')(h:Im g r r')(h':Im g u u')(k:Up n xs ys r u):Up n (anew xs g) (anew ys g) r' u':=by obtain⟨_,s,s1,s2⟩:=k;obtain⟨b0,b1⟩:=a.bound tx s s1;exact⟨b,app g s,(h _).mpr ⟨s,s1,rfl⟩,(h' _).mpr ⟨app ys s,s2,(ty.dw tg b0 b1).symm⟩⟩
def Im.down(tx:Tn n xs)(ty:Tn n ys)(tg:Tn n g)(a:Rw n xs r)(b:Rw n xs u)(h:Im g r r')(h':Im g u u')(k:Up n (anew xs g) (anew ys g) r' u'):Up n xs ys r u:=by obtain⟨_,x,x1,x2⟩:=k;obtain⟨s,s1,rfl⟩:=(h x).mp x1;obtain⟨s0,s2⟩:=a.bound tx s s1;obtain⟨b0,b1⟩:=ty.app s0 s2;rw[ty.dw tg s0 s2]at x2;obtain⟨t,t1,e⟩:=(h' _).mp x2;obtain⟨c0,c1⟩:=b.bound tx t t1;have:=tg.inj c0 c1 b0 b1 e;exact⟨b,s,s1,by rw[<- this];exact t1⟩
variable {rs rs' lows hJ:List (List Int)}{B B':List Int->List (List Int)}
def Im.Bs(tx:Tn n xs)(ty:Tn n ys)(tg:Tn n g)(R:i5 xs (upto n) rs)(R':i5 (anew xs g) (upto n) rs')(a:Rw n xs r)(b:Rw n (anew xs g) r')(h:Im g r r'):vP n xs ys r↔vP n (anew xs g) (anew ys g) r':=by constructor;intro k p' a' s' u';obtain⟨p,hp,hi⟩:=Im.ow tx tg R a';have ap:=R.rw tx p hp;exact k p ap ((Im.sm tx ty tg ap hi).mpr s') (Im.down tx ty tg ap a hi h u');intro k p ap s u;obtain⟨p',Vc,hi⟩:=Ls tx tg R' ap;exact k p' (R'.rw (tx.anew tg) p' Vc) ((Im.sm tx ty tg ap hi).mp s) (Im.up tx ty tg ap b hi h u)
def Lo.anew(tx:Tn n xs)(ty:Tn n ys)(tg:Tn n g)(all:∀x:Int,0<=x->x<(n:Int)->i6 xs ys x)(all':∀x:Int,0<=x->x<(n:Int)->i6 (anew xs g) (anew ys g) x)(R:i5 xs (upto n) rs)(R':i5 (af.anew xs g) (upto n) rs')
  (a:Lo n xs ys lows) (b:Lo n (af.anew xs g) (af.anew ys g) hJ) (hB:∀l∈lows,Bd n xs ys l (B l)) (Bt:∀l∈hJ,Bd n (af.anew xs g) (af.anew ys g) l (B' l)) :
  (lows.map λl=>(l.length,(B l).length)).Perm (hJ.map λl=>(l.length,(B' l).length)):=by
 have tX:=tx.anew tg;have tY:=ty.anew tg;have A:=R.rw tx;have A':=R'.rw tX;obtain⟨φ,hφ⟩:=pick (P:=Im g) λr (hr:r∈rs)=>Ls tx tg R' (A r hr);have rφ:∀r,Rw n xs r->Rw n (af.anew xs g) (φ r)/\Im g r (φ r):=λr h=>⟨A' _ (hφ r ((R.mem tx).mpr h)).1,(hφ r ((R.mem tx).mpr h)).2⟩;have Vd:∀l b,Rw n xs l->Bd n xs ys l b->Bd n (af.anew xs g) (af.anew ys g) (φ l) (b.map φ):=λl b al c=>by
  have st:∀(k:Nat) (q q':List Int),(b.map φ)[k]?=some q->(b.map φ)[k+1]?=some q'->Sm (af.anew xs g) (af.anew ys g) q/\Up n (af.anew xs g) (af.anew ys g) q q':=λk q q' h1 h2=>by
   rw[Zae]at h1 h2;obtain⟨r,e1,rfl⟩:=Zaz.mp h1;obtain⟨r',e2,rfl⟩:=Zaz.mp h2;obtain⟨s,u⟩:=c.st k r r' e1 e2;have ar:=c.rw r (Zab e1);have Pr:=c.rw r' (Zab e2);exact⟨(Im.sm tx ty tg ar (rφ r ar).2).mp s,Im.up tx ty tg ar (rφ r' Pr).1 (rφ r ar).2 (rφ r' Pr).2 u⟩
  refine⟨⟨by rw[Zae,c.hd];rfl,zc c.nd λp hp q hq e=>?_,λq hq=>?_,st⟩,λq hq s=>?_⟩;have ap:=c.rw p hp;have aq:=c.rw q hq;exact Im.inj tx tg ap aq (rφ p ap).1 (rφ p ap).2 (by rw[e];exact(rφ q aq).2);obtain⟨p,hp,rfl⟩:=Zag.mp hq;exact(rφ p (c.rw p hp)).1;rw[Z7,Zae]at hq;obtain⟨r,e1,rfl⟩:=Zaz.mp hq;have ar:=c.rw r (Zab e1);have u:=c.en r e1 ((Im.sm tx ty tg ar (rφ r ar).2).mpr s);exact Im.up tx ty tg ar (rφ l al).1 (rφ r ar).2 (rφ l al).2 u
 rcases a.ab with⟨ne,ha⟩|⟨⟨l,rfl⟩,ha⟩
 rcases b.ab with⟨_,hb⟩|⟨_,hb⟩
 refine Po (P:=Im g) a.nd b.nd (λr hr=>?_) (λr' hr'=>?_) (λr hr r' hr' q' hq'=>Im.fn tx tg (a.rw r hr) (b.rw r' hr') (b.rw q' hq')) (λr hr q hq r' hr'=>Im.inj tx tg (a.rw r hr) (a.rw q hq) (b.rw r' hr')) (λr hr r' hr' h=>?_);have ar:=a.rw r hr;obtain⟨f1,f2⟩:=rφ r ar;exact⟨φ r,(hb _).mpr ⟨f1,(Im.Bs tx ty tg R R' ar f1 f2).mp ((ha r).mp hr).2⟩,f2⟩;have br:=b.rw r' hr';obtain⟨p,hp,hi⟩:=Im.ow tx tg R br;exact⟨p,(ha p).mpr ⟨A p hp,(Im.Bs tx ty tg R R' (A p hp) br hi).mpr ((hb r').mp hr').2⟩,hi⟩;have ar:=a.rw r hr;have br:=b.rw r' hr';have e:φ r=r':=Im.fn tx tg ar (rφ r ar).1 br (rφ r ar).2 h;have h2:=Vd r (B r) ar (hB r hr);rw[e]at h2;have e2:=h2.unique (Bt r' hr');rw[<- e2,Z7,Im.len tx tg ar br h];obtain⟨r,hr⟩:=Zbs lows ne;have ar:=a.rw r hr;obtain⟨f1,f2⟩:=rφ r ar;exact absurd ((Im.Bs tx ty tg R R' ar f1 f2).mp ((ha r).mp hr).2) (hb _ f1);rcases b.ab with⟨ne,hb⟩|⟨⟨l',rfl⟩,hb⟩
 obtain⟨r',hr'⟩:=Zbs hJ ne;have br:=b.rw r' hr';obtain⟨p,hp,hi⟩:=Im.ow tx tg R br;exact absurd ((Im.Bs tx ty tg R R' (A p hp) br hi).mpr ((hb r').mp hr').2) (ha p (A p hp));have p1:=(a.lw tx R).parts tx ty all R hB;have p2:=(b.lw tX R').parts tX tY all' R' Bt;have e1:(B l).Perm rs:=by simpa using p1
 have e2:(B' l').Perm rs':=by simpa using p2
 have e3:rs.length=rs'.length:=by
  have:=(Vb tx tg R R').length_eq
  rwa [Z7,Z7]at this
 have al:=a.rw l (by simp);have bl:=b.rw l' (by simp);obtain⟨p,hp,hi⟩:=Im.ow tx tg R bl;have w1:=Bd.width tx ty (hB l (by simp)).toCh p (e1.symm.subset hp);have w2:=Im.len tx tg (A p hp) bl hi;have h1:l.length=l'.length:=by lk
 have h2:(B l).length=(B' l').length:=by rw[e1.length_eq,e2.length_eq,e3]
 show[(l.length,(B l).length)].Perm [(l'.length,(B' l').length)];rw[h1,h2]
end
abbrev DI(n:Nat)(xs:List Int)(i:Int):List Int:=row xs i (((List.range n).find? λm=>decide (aU xs i (m+1)=i)).getD 0)
def Pt{n:Nat}{xs:List Int}{i:Int}(tx:Tn n xs)(i0:0<=i)(i1:i<(n:Int)):bu xs i (DI n xs i):=by
 obtain⟨m,nb,bk⟩:=tx.rM i0 i1;have hm:=tx.iL i0 i1 nb;unfold DI;cases h:(List.range n).find? λm=>decide (aU xs i (m+1)=i)with
 |none =>
  have:=List.find?_eq_none.mp h m (ZaV.mpr ⋯);exact absurd (decide_eq_true bk) this
 |some k =>
  have hk:=List.find?_some h;have hk:aU xs i (k+1)=i:=of_decide_eq_true hk;refine⟨k,rfl,λj j1 j2 z=>?_,hk⟩;obtain⟨_,as,bs,e,ha⟩:=List.find?_eq_some_iff_append.mp h;have hj:j-1∈as:=by
   have h1:(List.range n)[j-1]?=some (j-1):=Zbz (by
    have:k∈List.range n:=by rw[e];simp
    have:=ZaV.mp this
    lk)
   have h2:(List.range n)[as.length]?=some k:=by rw[e];simp
   have h3:as.length=k:=by
    obtain⟨q1,q2⟩:=Z9.mp h2;simpa using q2
   rw[e,Zan ⋯]at h1;exact Zab h1
  have:=ha (j-1) hj;rw[show j-1+1=j by lk]at this;simp[z]at this
abbrev zd(n:Nat)(xs:List Int):Nat->List Int->List (List Int)
 |0,_=>[]
 |_+1,[]=>[]
 |k+1,i :: left=>DI n xs i :: zd n xs k (out (i :: left) (DI n xs i))
def Pu{n:Nat}{xs:List Int}(tx:Tn n xs):∀(k:Nat) (left:List Int),left.length<=k->(∀x∈left,0<=x/\x<(n:Int))->i5 xs left (zd n xs k left)
 |0,[],_,_=>.nil
 |0,_ :: _,h,_=>absurd h (by simp)
 |_+1,[],_,_=>.nil
 |k+1,i :: left,h,hb=>by
  have b:=hb i Zac;have r:=Pt tx b.1 b.2;refine .cons r (Pu tx k _ ?_ λx hx=>hb x (Zaw.mp hx).1);have:=yS (left:=left) r.mem;simp at h;lk
abbrev lJ(n:Nat)(xs:List Int):List (List Int):=zd n xs n (upto n)
def xB{n:Nat}{xs:List Int}(tx:Tn n xs):i5 xs (upto n) (lJ n xs):=Pu tx n _ (by rw[qN];exact Zaa _) λx hx=>ke.mp hx
abbrev qQ:List Int->Int
 |[]=>0
 |[x]=>x
 |x :: l=>min x (qQ l)
def Pw:∀{l:List Int},l≠[]->qQ l∈l/\∀y∈l,qQ l<=y
 |[],h=>absurd rfl h
 |[x],_=>⟨Zac,λy hy=>by rw[Zas.mp hy];exact Int.le_refl _⟩
 |x :: y :: l,_=>by
  obtain⟨h1,h2⟩:=Pw (l:=y :: l) (by simp);show min x (qQ (y :: l))∈x :: y :: l/\∀z∈x :: y :: l,min x (qQ (y :: l))<=z;refine⟨?_,λz hz=>?_⟩;by_cases h:x<=qQ (y :: l);rw[Int.min_eq_left h];exact Zac;rw[Int.min_eq_right ⋯];exact Zah _ h1;rcases Zax.mp hz with rfl|hz
  exact Int.min_le_left _ _;exact Int.le_trans (Int.min_le_right _ _) (h2 z hz)
abbrev DJ(n:Nat)(xs ys r:List Int):List Int:=DI n xs (qQ (r.map (app ys)))
section
variable {n:Nat}{xs ys r l:List Int}
def Lu(tx:Tn n xs)(ty:Tn n ys)(a:Rw n xs r)(hs:Sm xs ys r):Up n xs ys r (DJ n xs ys r):=by obtain⟨x,hx⟩:=a.one;obtain⟨h1,h2⟩:=Pw (l:=r.map (app ys)) (λe=>by rw[List.map_eq_nil_iff.mp e]at hx;cases hx);obtain⟨s,s1,e⟩:=Zag.mp h1;have b:=a.bound tx s s1;have c:=ty.app b.1 b.2;rw[e]at c;exact Pm tx ty a hs h1 h2 (Pt tx c.1 c.2)
abbrev vQ(n:Nat)(xs ys:List Int):List (List Int):=(lJ n xs).filter λr=>!(((lJ n xs).filter λr=>decide (Sm xs ys r)).map (DJ n xs ys)).contains r
abbrev o7(n:Nat)(xs ys:List Int):List (List Int):=if vQ n xs ys=[]then[(lJ n xs).headD []]else vQ n xs ys
def Lv(tx:Tn n xs)(ty:Tn n ys):r∈vQ n xs ys↔Rw n xs r/\vP n xs ys r:=by have R:=xB tx;unfold vQ;rw[Zaw,R.mem tx];refine and_congr_right λa=>?_;rw[ZbU,<- Bool.not_eq_true,ZaP,Zag];constructor;intro h p ap s u;exact h ⟨p,Zaw.mpr ⟨(R.mem tx).mpr ap,decide_eq_true s⟩,(Lu tx ty ap s).uniq u ap s⟩;rintro h ⟨p,hp,rfl⟩;obtain⟨h1,h2⟩:=Zaw.mp hp;have ap:=(R.mem tx).mp h1;have s:Sm xs ys p:=of_decide_eq_true h2;exact h p ap s (Lu tx ty ap s)
def Bu(tx:Tn n xs)(ty:Tn n ys)(n0:0<n):Lo n xs ys (o7 n xs ys):=by
 have R:=xB tx;have nd:=R.nodup tx;obtain⟨r0,hr0,_⟩:=R.has (x:=0) ∅ ⋯;unfold o7;split
 ·next e =>
  have hd:(lJ n xs).headD []∈lJ n xs:=by
   cases h:lJ n xs with
   |nil=>rw[h]at hr0;cases hr0
   |cons a t=>exact Zac
  refine⟨by simp,λl hl=>by rw[Zas.mp hl];exact R.rw tx _ hd,.inr ⟨⟨_,rfl⟩,λr a h=>?_⟩⟩;have:=(Lv tx ty).mpr ⟨a,h⟩;rw[e]at this;cases this
 ·next e=>exact⟨nd.filter _,λl hl=>((Lv tx ty).mp hl).1,.inl ⟨e,λr=>Lv tx ty⟩⟩
abbrev pF(n:Nat)(xs ys l:List Int):Nat->List (List Int)->List Int->List (List Int)
 |0,b,_=>b
 |k+1,b,r=>if Sm xs ys r then(if DJ n xs ys r=l then b else pF n xs ys l k (b ++ [DJ n xs ys r]) (DJ n xs ys r))else b
def Px(tx:Tn n xs)(ty:Tn n ys):∀(k:Nat) (b:List (List Int)) (r:List Int),n<b.length+k->Ch n xs ys l b->b[b.length-1]?=some r->Bd n xs ys l (pF n xs ys l k b r)
 |0,b,r,hk,c,_=>absurd (c.len tx) ⋯
 |k+1,b,r,hk,c,hr=>by
  have a:=c.rw r (Zab hr);unfold pF;split
  ·next s =>
   have u:=Lu tx ty a s;split
   ·next e =>
    rw[e]at u;exact⟨c,λq hq _=>by rw[hr]at hq;cases hq;exact u⟩
   ·next e =>
    have c':=c.snoc tx ty hr s u e;refine Px tx ty k _ _ ?_ c' ?_
    ·rw[Zaf,ZaO];lk
    ·rw[Zaf,ZaO,ZaE ⋯,show b.length+1-1-b.length=0 by lk];rfl
  ·next s=>exact⟨c,λq hq hs=>by rw[hr]at hq;cases hq;exact absurd hs s⟩
abbrev qj(n:Nat)(xs ys l:List Int):List (List Int):=pF n xs ys l n [l] l
def Bw(tx:Tn n xs)(ty:Tn n ys)(a:Rw n xs l):Bd n xs ys l (qj n xs ys l):=Px tx ty n [l] l (by simp) (Ch.one a) rfl
abbrev sI(n:Nat)(xs ys:List Int):List (Nat×Nat):=(o7 n xs ys).map λl=>(l.length,(qj n xs ys l).length)
end
end af
namespace af
abbrev nr(x y:Int):Int:=(2*x+y).fdiv (2*y)
def Ve(a b:Int)(hb:b≠0):(0<b->0<=a-b*a.fdiv b/\a-b*a.fdiv b<b)/\(b<0->b<a-b*a.fdiv b/\a-b*a.fdiv b<=0):=by
 have h1:=Int.mul_ediv_add_emod a b;have h2:=Zbf a hb;have h3:=Int.emod_lt a hb;rw[Int.fdiv_eq_ediv];constructor;intro h;rw[if_pos (.inl ⋯),Int.sub_zero];have:b.natAbs=b.toNat:=by lk
 constructor<;>lk;intro h;by_cases hd:b ∣ a;rw[if_pos (.inr hd),Int.sub_zero]
 have:a % b=0:=Int.emod_eq_zero_of_dvd hd;constructor<;>lk
 rw[if_neg (by rintro(z|z);lk;exact hd z),Zci];have hne:a % b≠0:=λz=>hd (Int.dvd_of_emod_eq_zero z);constructor<;>lk
def Hm{x y:Int}(hy:y≠0):2*(x-nr x y*y).natAbs<=y.natAbs:=by
 obtain⟨h1,h2⟩:=Ve (2*x+y) (2*y) ⋯;have e:2*x+y-2*y*(2*x+y).fdiv (2*y)=2*(x-nr x y*y)+y:=by
  unfold nr;rw[Zci,ZaS ((2*x+y).fdiv (2*y)) y,ZaF];lk
 rw[e]at h1 h2;rcases(show 0<y\/y<0 by lk)with h|h
 have:=h1 ⋯;lk
 have:=h2 ⋯;lk
def Py{x y:Int}(hy:y≠0):(nr x y).natAbs<=x.natAbs+1:=by
 have h:=Hm (x:=x) hy;have h1:(nr x y*y).natAbs<=x.natAbs+(x-nr x y*y).natAbs:=by lk
 rw[Zbq]at h1;have hy1:1<=y.natAbs:=by lk
 by_cases hq:(nr x y).natAbs<=x.natAbs+1;exact hq;exfalso;have h2:(x.natAbs+2)*y.natAbs<=(nr x y).natAbs*y.natAbs:=ZbJ _ ⋯;have h3:(x.natAbs+2)*y.natAbs=x.natAbs*y.natAbs+2*y.natAbs:=Nat.add_mul _ _ _;have h4:x.natAbs<=x.natAbs*y.natAbs:=Zcc _ hy1;lk
abbrev oS(k:Int):List Sp:=if k=0 then[]else[(true,k)]
def ze{k:Int}:∀s∈oS k,cJ s/\s.2=k:=λs hs=>by
 unfold oS at hs;split at hs
 ·cases hs
 ·next h =>
  rw[Zas.mp hs];exact⟨⟨(λz=>by cases z),h⟩,rfl⟩
def DK(k:Int):av (oS k)=⟨1,k,0,1⟩:=by
 unfold oS;split
 ·next h=>rw[h];rfl
 ·show(lD (true,k)).mul T4.one=_
  rw[T4.mul_one];rfl
def zf(k:Int):(oS k).length<=1:=by unfold oS;split<;>simp
abbrev rR(x y:Int):List Sp:=oS (-(nr x y)) ++ [(false,1)]
def Hn(x y:Int):av (rR x y)=⟨0,-1,1,-(nr x y)⟩:=by unfold rR;rw[uW,DK];apply T4.ext'<;>simp[T4.mul,lD,qp,T4.qt,T4.one]
def Pz{x y:Int}(hy:y≠0):∀s∈rR x y,cJ s/\s.2.natAbs<=x.natAbs+1:=λs hs=>by
 have h:=Py (x:=x) hy;rcases Zay.mp hs with hs|hs
 obtain⟨h1,h2⟩:=ze s hs;exact⟨h1,by rw[h2];lk⟩;rw[Zas.mp hs];exact⟨⟨λ_=>⟨by decide,by decide⟩,by decide⟩,by show 1<=_;lk⟩
def Lx(x y:Int):(rR x y).length<=2:=by unfold rR;rw[Zaf];have:=zf (-(nr x y));simp;lk
structure Dv(M:Nat)(x y:Int)(g:List Sp)(u v:Int)(r:Nat):Prop where
 pr:∀s∈g,cJ s/\s.2.natAbs<=M+1
 ln:g.length<=2*r
 ua:u=(av g).a*x+(av g).b*y
 vc:v=(av g).c*x+(av g).d*y
 ub:u.natAbs<=M
 vb:v.natAbs*2 ^ r<=M
def Dv.zero{M:Nat}{x y:Int}(hx:x.natAbs<=M)(hy:y.natAbs<=M):Dv M x y [] x y 0 :=
 ⟨(λs hs=>nomatch hs),Zaa _,by show x=1*x+0*y;lk,by show y=0*x+1*y;lk,hx,by lk⟩
def Dv.step{M r:Nat}{x y u v:Int}{g:List Sp}(h:Dv M x y g u v r)(hv:v≠0):Dv M x y (g ++ rR u v) (-v) (u-nr u v*v) (r+1):=by
 have hl:=Hm (x:=u) hv;have hlen:=Lx u v;have h2:1<=2 ^ r:=Nat.one_le_two_pow;have vM:v.natAbs<=M:=Zap (Zcc _ h2) h.vb;have e:av (g ++ rR u v)=⟨-(av g).c,-(av g).d,(av g).a-nr u v*(av g).c,(av g).b-nr u v*(av g).d⟩:=by
  rw[sY,Hn];apply T4.ext'<;>simp[T4.mul,ZaR]<;>lk
 refine⟨λs hs=>?_,by rw[Zaf];have:=h.ln;lk,?_,?_,by lk,?_⟩;rcases Zay.mp hs with hs|hs
 exact h.pr s hs;obtain⟨h1,h3⟩:=Pz hv s hs;exact⟨h1,by have:=h.ub;lk⟩;rw[e];show -v=-(av g).c*x + -(av g).d*y;rw[h.vc,ZaR,ZaR];lk;rw[e];show u-nr u v*v=((av g).a-nr u v*(av g).c)*x+((av g).b-nr u v*(av g).d)*y;generalize hq:nr u v=q;rw[h.ua,h.vc,ZbS,ZbS,ZbK,ZaF,ZaF];lk
 have:=h.vb
 have h3:(u-nr u v*v).natAbs*2 ^ (r+1)=2*(u-nr u v*v).natAbs*2 ^ r:=by rw[Nat.pow_succ,ZbW (2 ^ r) 2,<- Zcz,ZbW _ 2]
 rw[h3];exact Zap (ZbJ _ hl) this
def Dv.few{M r k:Nat}{x y u v:Int}{g:List Sp}(h:Dv M x y g u v r)(hv:v≠0)(hM:M<2 ^ k):r<k:=by have h1:2 ^ r<=M:=Zap (Nat.le_mul_of_pos_left _ ⋯) h.vb;exact(Nat.pow_lt_pow_iff_right ∅).mp (ZaW h1 hM)
abbrev pH(A:T4):List Sp:=if A.a=1 then oS A.b else(false,2) :: oS (-A.b)
def Vg{a d:Int}(h:a*d=1):(a=1/\d=1)\/(a=-1/\d=-1):=by
 have h1:=congrArg Int.natAbs h;rw[Zbq]at h1;have h2:a.natAbs=1:=Nat.eq_one_of_dvd_one ⟨_,h1.symm⟩;rcases(show a=1\/a=-1 by lk)with rfl|rfl
 exact .inl ⟨rfl,by lk⟩;exact .inr ⟨rfl,by lk⟩
def Vh{A:T4}(hc:A.c=0)(hd:A.a*A.d-A.b*A.c=1):av (pH A)=A:=by
 have h1:A.a*A.d=1:=by rw[hc,Int.mul_zero]at hd;lk
 unfold pH;rcases Vg h1 with⟨e1,e2⟩|⟨e1,e2⟩
 rw[if_pos e1,DK];exact T4.ext' e1.symm rfl hc.symm e2.symm;rw[if_neg (by rw[e1];decide),Pb,DK];apply T4.ext';simp[T4.mul,lD,qp,T4.qt,T4.one,e1];simp[T4.mul,lD,qp,T4.qt,T4.one];simp[T4.mul,lD,qp,T4.qt,T4.one,hc];simp[T4.mul,lD,qp,T4.qt,T4.one,e2]
def PB(A:T4):∀s∈pH A,cJ s:=λs hs=>by
 unfold pH at hs;split at hs;exact(ze s hs).1;rcases Zax.mp hs with rfl|hs
 exact⟨λ_=>⟨by decide,by decide⟩,by decide⟩;exact(ze s hs).1
def PD(A:T4):(pH A).length<=2:=by
 unfold pH;split
 have:=zf A.b;lk
 have:=zf (-A.b);simp;lk
def Vi(A B:T4):(A.mul B).a*(A.mul B).d-(A.mul B).b*(A.mul B).c=(A.a*A.d-A.b*A.c)*(B.a*B.d-B.b*B.c):=by
 simp only[T4.mul]
 grind
def Vj{T:T4}{g:List Sp}(hd:T.a*T.d-T.b*T.c=1)(hg:∀s∈g,cJ s)(h0:(av g).c*T.a+(av g).d*T.c=0):av (pE (pH ((av g).mul T) ++ lC g)).reverse=T/\∀s∈(pE (pH ((av g).mul T) ++ lC g)).reverse,cJ s:=by
 have Vk:((av g).mul T).a*((av g).mul T).d-((av g).mul T).b*((av g).mul T).c=1:=by rw[Vi,zb hg,hd];rfl
 have Vl:((av g).mul T).c=0:=h0;have pr:∀s∈pH ((av g).mul T) ++ lC g,cJ s:=λs hs=>by
  rcases Zay.mp hs with hs|hs
  exact PB _ s hs;exact Hj hg s hs
 refine⟨?_,λs hs=>(yZ pr).pr s (Zck.mp hs)⟩;rw[O1 pr,sY,Vh Vl Vk,Lf hg,<- T4.assoc,(Pg (zb hg)).2,T4.one_mul]
end af
namespace af
def PH{u v:Int}(hv:v≠0)(h:2*v.natAbs<=u.natAbs):2<=(nr u v).natAbs:=by
 have h1:=Hm (x:=u) hv;generalize nr u v=q at *;by_cases c:2<=q.natAbs;exact c;have hq:q=-1\/q=0\/q=1:=by lk
 rcases hq with rfl|rfl|rfl<;>lk
def grow{a c q:Int}(ha:a.natAbs<=max 1 c.natAbs)(hq:2<=q.natAbs):(-c).natAbs<=max 1 (a-q*c).natAbs:=by have h1:(q*c).natAbs=q.natAbs*c.natAbs:=Zbq q c;have h2:2*c.natAbs<=q.natAbs*c.natAbs:=ZbJ _ hq;generalize q*c=z at *;generalize q.natAbs*c.natAbs=y at *;lk
structure Bv(g:List Sp)(u v:Int)(r:Nat):Prop where
 b0:r=0->(av g).c=0/\(av g).d=1
 b1:1<=r->2*v.natAbs<=u.natAbs
 ba:(av g).a.natAbs<=max 1 (av g).c.natAbs
 bb:(av g).b.natAbs<=max 1 (av g).d.natAbs
 dt:(av g).a*(av g).d-(av g).b*(av g).c=1
def Bv.zero(x y:Int):Bv [] x y 0:=⟨λ_=>⟨rfl,rfl⟩,λh=>by lk,by decide,by decide,by decide⟩
def Vm{a b c d q:Int}(h:a*d-b*c=1):-c*(b-q*d) - -d*(a-q*c)=1:=by
 rw[Zci,Zci,ZaR,ZaR,ZaR,ZaR,ZaS c b,ZaS d a];have:c*(q*d)=d*(q*c):=by rw[<- ZaF,<- ZaF,ZaS c q,ZaS d q,ZaF,ZaF,ZaS c d]
 lk
def Bv.step{u v:Int}{r:Nat}{g:List Sp}(h:Bv g u v r)(hv:v≠0):Bv (g ++ rR u v) (-v) (u-nr u v*v) (r+1):=by
 have e:av (g ++ rR u v)=⟨-(av g).c,-(av g).d,(av g).a-nr u v*(av g).c,(av g).b-nr u v*(av g).d⟩:=by
  rw[sY,Hn];apply T4.ext'<;>simp[T4.mul,ZaR]<;>lk
 have hl:=Hm (x:=u) hv;refine⟨λz=>by lk,λ_=>by lk,?_,?_,?_⟩;rw[e];show(-(av g).c).natAbs<=max 1 ((av g).a-nr u v*(av g).c).natAbs;by_cases hr:r=0;rw[(h.b0 hr).1];simp;exact grow h.ba (PH hv (h.b1 ⋯));rw[e];show(-(av g).d).natAbs<=max 1 ((av g).b-nr u v*(av g).d).natAbs;by_cases hr:r=0;rw[(h.b0 hr).2];simp;lk;exact grow h.bb (PH hv (h.b1 ⋯));rw[e];exact Vm h.dt
def Ho{a b c d x y:Int}(h:a*d-b*c=1)(h0:c*x+d*y=0):x=d*(a*x+b*y)/\y=-(c*(a*x+b*y)):=by
 have e1:d*(a*x+b*y)=(a*d-b*c)*x+b*(c*x+d*y):=by
  rw[ZbK,ZbK,ZbS,<- ZaF,<- ZaF,<- ZaF,<- ZaF,ZaS d a,ZaS d b];lk
 have e2:c*(a*x+b*y)=a*(c*x+d*y)-(a*d-b*c)*y:=by
  rw[ZbK,ZbK,ZbS,<- ZaF,<- ZaF,<- ZaF,<- ZaF,ZaS c a,ZaS c b];lk
 rw[e1,e2,h,h0];constructor<;>lk
def PJ{a b c d x y:Int}(h:a*d-b*c=1)(h0:c*x+d*y=0):Int.gcd x y=(a*x+b*y).natAbs:=by
 obtain⟨hx,hy⟩:=Ho h h0;apply Nat.dvd_antisymm;have h1:((Int.gcd x y:Nat):Int) ∣ a*x+b*y:=Int.dvd_add (Int.dvd_trans (Int.gcd_dvd_left x y) (Int.dvd_mul_left _ _)) (Int.dvd_trans (Int.gcd_dvd_right x y) (Int.dvd_mul_left _ _))
 have:=Zcn.mpr h1
 simpa using this;have d1:(a*x+b*y) ∣ x:=⟨d,by rw[ZaS];exact hx⟩;have d2:(a*x+b*y) ∣ y:=⟨-c,by rw[Int.mul_neg,ZaS];exact hy⟩;exact Zcn.mpr d1 |> λq=>Nat.dvd_gcd q (Zcn.mpr d2)
end af
namespace af
section
variable {n:Nat}{xs ys r r':List Int}{x:Int}
def Rw.pw(a:Rw n xs r)(tx:Tn n xs)(hx:x∈r)(k:Int):af.pw xs k x∈r:=by
 obtain⟨x0,x1⟩:=a.bound tx x hx;obtain⟨i,_,ri,_⟩:=a;obtain⟨m,e,_,bk⟩:=ri.ex;have hL:af.aU xs x (m+1)=x:=by
  rw[e]at hx;obtain⟨c,_,rfl⟩:=qO.mp hx;rw[sW];exact Hd bk c
 have h1:=tx.pw_add x0 x1 k (((m+1:Nat):Int)*k.natAbs);rw[tx.pw_per x0 x1 hL]at h1;rw[h1];have h2:(0:Int)<=k+((m+1:Nat):Int)*k.natAbs:=by
  have:(k.natAbs:Int)<=((m+1:Nat):Int)*k.natAbs:=by
   have:=Int.mul_le_mul_of_nonneg_right (show(1:Int)<=((m+1:Nat):Int) by lk) (show(0:Int)<=k.natAbs by lk)
   rwa [Zcg]at this
  lk
 unfold af.pw;rw[if_pos h2];exact ri.dz hx _
def Vn(tx:Tn n xs)(x0:0<=x)(x1:x<(n:Int))(k:Int):af.pw xs k (app xs x)=app xs (af.pw xs k x):=by have e:∀y,app xs y=af.pw xs 1 y:=λ_=>rfl;obtain⟨p0,p1⟩:=tx.pw x0 x1 k;rw[e x,e (af.pw xs k x),tx.pw_add x0 x1,tx.pw_add x0 x1,Int.add_comm]
def Sm.DL(tx:Tn n xs)(a:Rw n xs r)(h:Sm xs ys r)(k:Int):Sm xs (shr xs ys k) r:=λs hs=>by
 obtain⟨s0,s1⟩:=a.bound tx s hs;obtain⟨t0,t1⟩:=tx.app s0 s1;rw[tx.jk t0 t1,tx.jk s0 s1,Vn tx s0 s1];exact h _ (a.pw tx hs _)
def PK(tx:Tn n xs)(ty:Tn n ys)(k:Int):shr xs (shr xs ys k) (-k)=ys:=by rw[tx.rP ty,Int.add_right_neg,tx.qi ty]
def Hq(tx:Tn n xs)(ty:Tn n ys)(a:Rw n xs r)(k:Int):Sm xs (shr xs ys k) r↔Sm xs ys r :=
 ⟨λh=>by have:=h.DL tx a (-k);rwa [PK tx ty]at this,λh=>h.DL tx a k⟩
def Up.DL(tx:Tn n xs)(a:Rw n xs r)(u:Up n xs ys r r')(k:Int):Up n xs (shr xs ys k) r r':=by obtain⟨b,s,hs,h⟩:=u;obtain⟨s0,s1⟩:=a.bound tx s hs;obtain⟨t0,t1⟩:=tx.pw s0 s1 k;refine⟨b,_,a.pw tx hs k,?_⟩;rw[tx.jk t0 t1,tx.pw_add s0 s1,Int.add_left_neg];exact h
def Hr(tx:Tn n xs)(ty:Tn n ys)(a:Rw n xs r)(k:Int):Up n xs (shr xs ys k) r r'↔Up n xs ys r r' :=
 ⟨λh=>by have:=h.DL tx a (-k);rwa [PK tx ty]at this,λh=>h.DL tx a k⟩
def PL(tx:Tn n xs)(ty:Tn n ys)(k:Int):vP n xs (shr xs ys k) r↔vP n xs ys r :=
 ⟨λh p a s u=>h p a ((Hq tx ty a k).mpr s) ((Hr tx ty a k).mpr u),λh p a s u=>h p a ((Hq tx ty a k).mp s) ((Hr tx ty a k).mp u)⟩
def Lo.sh(tx:Tn n xs)(ty:Tn n ys){k:Int}{l:List (List Int)}(h:Lo n xs (shr xs ys k) l):Lo n xs ys l:=by
 refine⟨h.nd,h.rw,?_⟩;rcases h.ab with⟨h1,h2⟩|⟨h1,h2⟩
 exact .inl ⟨h1,λr=>by rw[h2,PL tx ty]⟩;exact .inr ⟨h1,λr a=>by rw[<- PL tx ty k];exact h2 r a⟩
def Bd.sh(tx:Tn n xs)(ty:Tn n ys){k:Int}{l:List Int}{b:List (List Int)}(h:Bd n xs (shr xs ys k) l b):Bd n xs ys l b:=by refine⟨⟨h.hd,h.nd,h.rw,λj r r' h1 h2=>?_⟩,λr h1 h2=>?_⟩;have a:=h.rw r (Zab h1);obtain⟨s,u⟩:=h.st j r r' h1 h2;exact⟨(Hq tx ty a k).mp s,(Hr tx ty a k).mp u⟩;have a:=h.rw r (Zab h1);exact(Hr tx ty a k).mp (h.en r h1 ((Hq tx ty a k).mpr h2))
def Hs{a:List Int}(ha:Tn n a):anew a (upto n)=a:=by unfold anew;rw[Du (sH n) (sH n) (vN (sH n)),Dt ha,vN ha]
def PN{p q:ck}(wp:Wh n p)(wq:Wh n q)(n0:0<n)(a:bN n p q):(sI n p.1 p.2).Perm (sI n q.1 q.2):=by obtain⟨g,tg,rfl⟩:=a;have lo:=Bu wp.v.1 wp.v.2 n0;have lo':=Bu wq.v.1 wq.v.2 n0;exact Lo.anew wp.v.1 wp.v.2 tg wp.all wq.all (xB wp.v.1) (xB wq.v.1) lo lo' (λl hl=>Bw wp.v.1 wp.v.2 (lo.rw l hl)) (λl hl=>Bw wq.v.1 wq.v.2 (lo'.rw l hl))
def DM{p:ck}(wp:Wh n p)(n0:0<n)(k:Int):(sI n p.1 p.2).Perm (sI n (Sh k p).1 (Sh k p).2):=by have tx:=wp.v.1;have ty:=wp.v.2;have lo:=Bu tx ty n0;have lo':=Bu tx (tx.shr ty k) n0;have e1:=Hs tx;have e2:=Hs ty;have:=Lo.anew (g:=upto n) (rs:=lJ n p.1) (rs':=lJ n p.1) (lows:=o7 n p.1 p.2) (hJ:=o7 n p.1 (shr p.1 p.2 k)) (B:=qj n p.1 p.2) (B':=qj n p.1 (shr p.1 p.2 k)) tx ty (sH n) wp.all (by rw[e1,e2];exact wp.all) (xB tx) (by rw[e1];exact xB tx) lo (by rw[e1,e2];exact lo'.sh tx ty) (λl hl=>Bw tx ty (lo.rw l hl)) (λl hl=>by rw[e1,e2];exact(Bw tx (tx.shr ty k) (lo'.rw l hl)).sh tx ty);exact this
abbrev Gd(T:T4)(p c:Int):Prop:=T.a*p+T.b*c=1/\T.c*p+T.d*c=0
def zg{T U:T4}{p c:Int}(hT:T.a*T.d-T.b*T.c=1)(hU:U.a*U.d-U.b*U.c=1)(gT:Gd T p c)(gU:Gd U p c):U=T4.mul ⟨1,T.a*U.b-U.a*T.b,0,1⟩ T:=by
 obtain⟨t1,t2⟩:=Ho hT gT.2;obtain⟨u1,u2⟩:=Ho hU gU.2;rw[gT.1,Zb3]at t1 t2;rw[gU.1,Zb3]at u1 u2;have e1:U.c=T.c:=by lk
 have e2:U.d=T.d:=by lk
 apply T4.ext';show U.a=1*T.a+(T.a*U.b-U.a*T.b)*T.c;rw[e1,e2]at hU;have:(T.a*U.b-U.a*T.b)*T.c=T.a*(U.b*T.c)-U.a*(T.b*T.c):=by rw[ZbS,ZaF,ZaF]
 rw[this,show U.b*T.c=U.a*T.d-1 by lk,show T.b*T.c=T.a*T.d-1 by lk,Zci,Zci,<- ZaF,<- ZaF,ZaS T.a U.a];lk;show U.b=1*T.b+(T.a*U.b-U.a*T.b)*T.d;rw[e1,e2]at hU;have:(T.a*U.b-U.a*T.b)*T.d=U.b*(T.a*T.d)-T.b*(U.a*T.d):=by rw[ZbS,ZaS T.a U.b,ZaS U.a T.b,ZaF,ZaF]
 rw[this,show T.a*T.d=1+T.b*T.c by lk,show U.a*T.d=1+U.b*T.c by lk,ZbK,ZbK,<- ZaF,<- ZaF,ZaS U.b T.b];lk;show U.c=0*T.a+1*T.c;lk;show U.d=0*T.b+1*T.d;lk
def along{p:ck}(wp:Wh n p)(n0:0<n){u w:List Sp}{x y:Int}(hu:∀s∈u,cJ s)(hw:∀s∈w,cJ s)(gu:Gd (av u) x y)(gw:Gd (av w) x y):(sI n (jm p u).1 (jm p u).2).Perm (sI n (jm p w).1 (jm p w).2):=by
 have e:=zg (zb hw) (zb hu) gw gu;generalize (av w).a*(av u).b-(av u).a*(av w).b=k at e;have wu:=wp.ld n0 (w:=u);have ww:=wp.ld n0 (w:=w);have hk:∀s∈w ++ oS k,cJ s:=λs hs=>by
  rcases Zay.mp hs with hs|hs
  exact hw s hs;exact(ze s hs).1
 have wk:=wp.ld n0 (w:=w ++ oS k);have e2:av u=av (w ++ oS k):=by rw[sY,DK];exact e
 refine(PN wu wk n0 (Ph hu hk e2 wp.v)).trans ?_;rw[Lq];unfold oS;split;exact Zbo _;exact(DM ww n0 k).symm
end
abbrev tq(a b:Int):Int:=((a.natAbs / b.natAbs:Nat):Int)*(if a*b<0 then -1 else 1)
def PQ(a b:Int):(a-tq a b*b).natAbs=a.natAbs % b.natAbs:=by
 have h:=Nat.div_add_mod a.natAbs b.natAbs;unfold tq;rcases Int.natAbs_eq a with ea|ea<;>rcases Int.natAbs_eq b with eb|eb
 have:¬a*b<0:=by rw[ea,eb];have:=Zcb (show(0:Int)<=a.natAbs by lk) (show(0:Int)<=b.natAbs by lk);lk
 rw[if_neg this,Zb3];have e:((a.natAbs / b.natAbs:Nat):Int)*b=((b.natAbs*(a.natAbs / b.natAbs):Nat):Int):=by rw[ZaS];push_cast;rw[<- eb]
 rw[e];lk;by_cases z:a*b<0;rw[if_pos z];have e:((a.natAbs / b.natAbs:Nat):Int) * -1*b=((b.natAbs*(a.natAbs / b.natAbs):Nat):Int):=by rw[ZaF,ZaS];push_cast;congr 1;lk
 rw[e];lk;have z0:a * b=0:=by
  have:a*b=-((a.natAbs:Int)*b.natAbs):=by rw[<- Int.mul_neg,<- ea,<- eb]
  have:=Zcb (show(0:Int)<=a.natAbs by lk) (show(0:Int)<=b.natAbs by lk);lk
 rcases Int.mul_eq_zero.mp z0 with rfl|rfl<;>simp
 by_cases z:a*b<0;rw[if_pos z];have e:((a.natAbs / b.natAbs:Nat):Int) * -1*b=-((b.natAbs*(a.natAbs / b.natAbs):Nat):Int):=by rw[ZaF,ZaS];push_cast;rw[<- ZaR];congr 1;lk
 rw[e];lk;have z0:a * b=0:=by
  have:a*b=-((a.natAbs:Int)*b.natAbs):=by rw[<- ZaR,<- ea,<- eb]
  have:=Zcb (show(0:Int)<=a.natAbs by lk) (show(0:Int)<=b.natAbs by lk);lk
 rcases Int.mul_eq_zero.mp z0 with rfl|rfl<;>simp
 have:¬a*b<0:=by rw[ea,eb,Int.neg_mul_neg];have:=Zcb (show(0:Int)<=a.natAbs by lk) (show(0:Int)<=b.natAbs by lk);lk
 rw[if_neg this,Zb3];have e:((a.natAbs / b.natAbs:Nat):Int)*b=-((b.natAbs*(a.natAbs / b.natAbs):Nat):Int):=by rw[ZaS];push_cast;rw[<- ZaR,<- eb]
 rw[e];lk
abbrev vR(q:Int):List Sp:=oS (-q) ++ [(false,1)]
def Vo(q:Int):av (vR q)=⟨0,-1,1,-q⟩:=by unfold vR;rw[uW,DK];apply T4.ext'<;>simp[T4.mul,lD,qp,T4.qt,T4.one]
def zh(q:Int):∀s∈vR q,cJ s:=λs hs=>by
 rcases Zay.mp hs with hs|hs
 exact(ze s hs).1;rw[Zas.mp hs];exact⟨λ_=>by decide,by decide⟩
def Vp(q:Int):(vR q).length<=2:=by unfold vR;rw[Zaf];have:=zf (-q);show _+1<=2;lk
structure Sg(p c:Int)(g:List Sp)(a b:Int)(r:Nat):Prop where
 pr:∀s∈g,cJ s
 ta:(av g).a*p+(av g).b*c=a
 tc:(av g).c*p+(av g).d*c=b
 ln:g.length<=2*r
 ba:a.natAbs<=1000/\b.natAbs<=1000
 bd:r=0\/(b.natAbs<a.natAbs/\a.natAbs*b.natAbs*2 ^ (r-1)<=1000000)
def Sg.zero{p c:Int}(hp:p.natAbs<=1000)(hc:c.natAbs<=1000):Sg p c [] p c 0:=⟨λs hs=>(by cases hs),by show(1:Int)*p+0*c=p;lk,by show(0:Int)*p+1*c=c;lk,ZaM _,⟨hp,hc⟩,.inl rfl⟩
def Vq{a b:Nat}(b0:0<b)(h:b<=a):2*(a % b)<=a:=by have h1:=Nat.mod_lt a b0;have h2:=Nat.div_add_mod a b;have h3:b*1<=b*(a / b):=Zcr b ((Nat.one_le_div_iff b0).mpr h);lk
def Sg.step{p c a b:Int}{g:List Sp}{r:Nat}(h:Sg p c g a b r)(hb:b≠0):Sg p c (g ++ vR (tq a b)) (-b) (a-tq a b*b) (r+1):=by
 have hm:=PQ a b;have hb':0<b.natAbs:=by lk
 have hlt:=Nat.mod_lt a.natAbs hb';have e:av (g ++ vR (tq a b))=⟨-(av g).c,-(av g).d,(av g).a-tq a b*(av g).c,(av g).b-tq a b*(av g).d⟩:=by
  rw[sY,Vo];apply T4.ext'<;>simp[T4.mul,ZaR]<;>lk
 have ha:=h.ta;have hc:=h.tc;refine⟨λs hs=>?_,?_,?_,?_,⟨by have:=h.ba;lk,by have:=h.ba;lk⟩,.inr ⟨by lk,?_⟩⟩
 ·rcases Zay.mp hs with hs|hs
  ·exact h.pr s hs
  ·exact zh _ s hs
 ·rw[e]
  show -(av g).c*p + -(av g).d*c=-b;rw[ZaR,ZaR];lk
 ·rw[e]
  show((av g).a-tq a b*(av g).c)*p+((av g).b-tq a b*(av g).d)*c=a-tq a b*b;rw[<- ha,<- hc,ZbS,ZbS,ZbK,ZaF,ZaF];lk
 ·rw[Zaf];have:=h.ln;have:=Vp (tq a b);lk
 ·rw[hm,Int.natAbs_neg,show r+1-1=r by lk]
  rcases h.bd with rfl|⟨h1,h2⟩
  ·rw[Nat.pow_zero,Zb5]
   exact Zap (ZbC h.ba.2 (show a.natAbs % b.natAbs<=1000 by have:=h.ba;lk)) ∅
  ·by_cases hr:r=0
   ·subst hr
    rw[Nat.pow_zero,Zb5];exact Zap (ZbC h.ba.2 (show a.natAbs % b.natAbs<=1000 by have:=h.ba;lk)) ∅
   ·have e2:2 ^ r=2*2 ^ (r-1):=by rw[ZbW,<- Nat.pow_succ];congr 1;lk
    rw[e2];have h3:=Vq hb' (Zbt h1)
    calc b.natAbs*(a.natAbs % b.natAbs)*(2*2 ^ (r-1))=b.natAbs*(2*(a.natAbs % b.natAbs))*2 ^ (r-1):=by rw[<- Zcz,Zcz b.natAbs,ZbW (a.natAbs % b.natAbs) 2]
     _<=b.natAbs*a.natAbs*2 ^ (r-1):=ZbJ _ (Zcr _ h3)
     _=a.natAbs*b.natAbs*2 ^ (r-1):=by rw[ZbW b.natAbs]
     _<=_:=h2
def Sg.few{p c a b:Int}{g:List Sp}{r:Nat}(h:Sg p c g a b r)(hb:b≠0):r<=21:=by
 rcases h.bd with h0|⟨h1,h2⟩
 lk;refine ZbY λhr=>?_;have h3:1<=a.natAbs*b.natAbs:=Nat.mul_pos ⋯ ⋯;have h4:2 ^ 21<=2 ^ (r-1):=ZbI ∅ ⋯;have h5:1*2 ^ 21<=a.natAbs*b.natAbs*2 ^ (r-1):=ZbC h3 h4;have:(2:Nat) ^ 21=2097152:=by decide
 lk
def Sg.done{p c a:Int}{g:List Sp}{r:Nat}(h:Sg p c g a 0 r)(hg:Int.gcd p c=1):a=1\/a=-1:=by have:=PJ (zb h.pr) h.tc;rw[h.ta,hg]at this;lk
end af
namespace L4
open PySem PySem.Spec L2
inductive D where
 |non|bl (b:Bool)|int (i:Int)|str (x:Str)|ty (n:String)|tup (ds:List D)|ref (i:Nat)
instance:Inhabited D:=⟨.non⟩
inductive O where
 |lst (ds:List D)|sJ (ds:List D)|dct (kvs:List (Key×D))|nV (kvs:List (List Int×D))|exc (c:Str) (fs:List (Str×D))|any|ki (lo hi:Int)
@[reducible]def Store:=List O
@[reducible]def ao:=List (Option D)
@[reducible]def Dm(α:Type):=Store->Option (α×Store)
inductive Fl where
 |nx (δ:ao)|bk (δ:ao)|ct (δ:ao)|rt (d:D)
mutual
inductive Rp(K:Zfr)(ρ:List Addr)(H:Hp):V->D->Prop
 |non:Rp K ρ H .non .non
 |bl (b:Bool):Rp K ρ H (.bl b) (.bl b)
 |int (i:Int):Rp K ρ H (.int i) (.int i)
 |str (x:Str):Rp K ρ H (.str x) (.str x)
 |ty (n:String):Rp K ρ H (.ty n) (.ty n)
 |ref {a:Addr} {i:Nat}:ρ[i]?=some a->Rp K ρ H (.ref a) (.ref i)
 |tup {a:Addr} {vs:List V} {ds:List D}:dr K H a vs->b9 K ρ H vs ds->Rp K ρ H (.ref a) (.tup ds)
inductive b9(K:Zfr)(ρ:List Addr)(H:Hp):List V->List D->Prop
 |nil:b9 K ρ H [] []
 |cons {v:V} {vs:List V} {d:D} {ds:List D}:Rp K ρ H v d->b9 K ρ H vs ds->b9 K ρ H (v :: vs) (d :: ds)
end
structure Mn(K:Zfr)(ρ:List Addr)(H:Hp)(ρ':List Addr)(H':Hp):Prop where
 r:∀(i:Nat) (a:Addr),ρ[i]?=some a->ρ'[i]?=some a
 t:∀a vs,dr K H a vs->dr K H' a vs
 f:∀a o u,H a=some (.pf o u)->H' a=some (.pf o u)
 x:∀a ws,H a=some (.xd ws)->H' a=some (.xd ws)
section
variable {K:Zfr}{ρ ρ' ρ2:List Addr}{H H' H2:Hp}
def Mn.refl:Mn K ρ H ρ H:=⟨λ_ _ h=>h,λ_ _ h=>h,λ_ _ _ h=>h,λ_ _ h=>h⟩
def Mn.trans(m:Mn K ρ H ρ' H')(n:Mn K ρ' H' ρ2 H2):Mn K ρ H ρ2 H2:=⟨λi a h=>n.r i a (m.r i a h),λa vs h=>n.t a vs (m.t a vs h),λa o u h=>n.f a o u (m.f a o u h),λa ws h=>n.x a ws (m.x a ws h)⟩
mutual
def Rp.mn(m:Mn K ρ H ρ' H'):∀{v:V} {d:D},Rp K ρ H v d->Rp K ρ' H' v d
 |_,_,.non=>.non
 |_,_,.bl b=>.bl b
 |_,_,.int i=>.int i
 |_,_,.str x=>.str x
 |_,_,.ty n=>.ty n
 |_,_,.ref e=>.ref (m.r _ _ e)
 |_,_,.tup q r=>.tup (m.t _ _ q) (b9.mn m r)
def b9.mn(m:Mn K ρ H ρ' H'):∀{vs:List V} {ds:List D},b9 K ρ H vs ds->b9 K ρ' H' vs ds
 |_,_,.nil=>.nil
 |_,_,.cons a b=>.cons (Rp.mn m a) (b9.mn m b)
end
def b9.length:∀{vs:List V} {ds:List D},b9 K ρ H vs ds->vs.length=ds.length
 |_,_,.nil=>rfl
 |_,_,.cons _ r=>by rw[ZaG,ZaG,r.length]
def b9.got:∀{vs:List V} {ds:List D},b9 K ρ H vs ds->∀{i:Nat} {d:D},ds[i]?=some d->∃v,vs[i]?=some v/\Rp K ρ H v d
 |_,_,.nil,i,v,e=>by simp at e
 |_,_,.cons (v:=v) a b,0,d,e=>⟨v,by simp,by have:_=d:=Zam (by simpa using e);rw[<- this];exact a⟩
 |_,_,.cons a b,i+1,d,e=>by
  obtain⟨v,e1,r⟩:=b9.got b (i:=i) (by simpa using e);exact⟨v,by simpa using e1,r⟩
def b9.append:∀{vs:List V} {ds:List D} {ws:List V} {es:List D},b9 K ρ H vs ds->b9 K ρ H ws es->b9 K ρ H (vs ++ ws) (ds ++ es)
 |_,_,_,_,.nil,s=>s
 |_,_,_,_,.cons a b,s=>.cons a (b9.append b s)
def b9.one{v:V}{d:D}(r:Rp K ρ H v d):b9 K ρ H [v] [d]:=.cons r .nil
def b9.take:∀{vs:List V} {ds:List D} (n:Nat),b9 K ρ H vs ds->b9 K ρ H (vs.take n) (ds.take n)
 |_,_,0,_=>.nil
 |_,_,_+1,.nil=>.nil
 |_,_,n+1,.cons r t=>.cons r (b9.take n t)
def b9.drop:∀{vs:List V} {ds:List D} (n:Nat),b9 K ρ H vs ds->b9 K ρ H (vs.drop n) (ds.drop n)
 |_,_,0,r=>r
 |_,_,_+1,.nil=>.nil
 |_,_,n+1,.cons _ t=>b9.drop n t
def b9.set{v:V}{d:D}(r:Rp K ρ H v d):∀{vs:List V} {ds:List D} (i:Nat),b9 K ρ H vs ds->b9 K ρ H (vs.set i v) (ds.set i d)
 |_,_,_,.nil=>.nil
 |_,_,0,.cons _ t=>.cons r t
 |_,_,i+1,.cons q t=>.cons q (b9.set r i t)
def b9.erase:∀{vs:List V} {ds:List D} (i:Nat),b9 K ρ H vs ds->b9 K ρ H (vs.eraseIdx i) (ds.eraseIdx i)
 |_,_,_,.nil=>.nil
 |_,_,0,.cons _ t=>t
 |_,_,i+1,.cons q t=>.cons q (b9.erase i t)
def b9.flat{vs:List V}{ds:List D}(r:b9 K ρ H vs ds):∀n:Nat,b9 K ρ H (List.replicate n vs).flatten (List.replicate n ds).flatten
 |0=>.nil
 |n+1=>by rw[Za7,Za7,Zbl,Zbl];exact r.append (r.flat n)
def b9.ints:∀(ns:List Int),b9 K ρ H (ns.map V.int) (ns.map D.int)
 |[]=>.nil
 |n :: r=>.cons (.int n) (b9.ints r)
end
abbrev Rs(K:Zfr)(ρ:List Addr)(H:Hp)(σ:St)(δ:ao):Prop:=σ.length=δ.length/\∀(i:Nat) (d:D),δ[i]?=some (some d)->∃v,σ[i]?=some (some v)/\Rp K ρ H v d
abbrev Rk(K:Zfr)(ρ:List Addr)(H:Hp):List (Key×V)->List (Key×D)->Prop:=Paired λp q=>p.1=q.1/\Rp K ρ H p.2 q.2
abbrev Ru(K:Zfr)(ρ:List Addr)(H:Hp):List (List Int×D)->List (List Int×Addr×Value)->Prop:=Paired λq x=>q.1=x.1/\dr K H x.2.1 (x.1.map V.int)/\∃v,RelV v x.2.2/\Rp K ρ H v q.2
abbrev Xd(K:Zfr)(ρ:List Addr)(H:Hp):Option Addr->List (Str×D)->Prop
 |none,fs=>fs=[]
 |some d,fs=>∃ws,H d=some (.xd ws)/\∀f e,fs.lookup f=some e->∃v,ws.lookup f=some v/\Rp K ρ H v e
abbrev xC(K:Zfr)(ρ:List Addr)(H:Hp)(a:Addr):O->Prop
 |.lst ds=>∃vs,H a=some (.lst vs)/\b9 K ρ H vs ds
 |.sJ ds=>∃vs,CV K H a vs/\b9 K ρ H vs ds
 |.dct kvs=>∃ws,H a=some (.dK ws)/\Rk K ρ H ws kvs
 |.nV kvs=>∃xs,H a=some (DU a xs)/\Ru K ρ H kvs xs
 |.exc c fs=>∃C dx tr,PySem.W.nsIn K mainGlobals c=some (some (.ref C))/\H a=some (XO a C dx tr)/\Xd K ρ H dx fs
 |.any=>True
 |.ki lo hi=>H a=some (.ki lo hi)
abbrev O.mut:O->Bool
 |.sJ _=>false
 |.any=>false
 |_=>true
structure Rl(K:Zfr)(ρ:List Addr)(H:Hp)(st:Store):Prop where
 len:ρ.length=st.length
 nd:∀(i j:Nat) (a:Addr) (o o':O),ρ[i]?=some a->ρ[j]?=some a->st[i]?=some o->st[j]?=some o'->o.mut=true->o'.mut=true->i=j
 obj:∀(i:Nat) (a:Addr) (o:O),ρ[i]?=some a->st[i]?=some o->xC K ρ H a o
section
variable {K:Zfr}{ρ ρ' ρ2:List Addr}{H H' H2:Hp}{st st':Store}{a p:Addr}{i:Nat}{o o':O}{ho:HO}{σ:St}{δ:ao}
def Rs.mn(h:Rs K ρ H σ δ)(m:Mn K ρ H ρ' H'):Rs K ρ' H' σ δ:=⟨h.1,λi d e=>let ⟨v,e1,r⟩:=h.2 i d e;⟨v,e1,r.mn m⟩⟩
def Rk.mn(m:Mn K ρ H ρ' H'){ws:List (Key×V)}{kvs:List (Key×D)}(h:Rk K ρ H ws kvs):Rk K ρ' H' ws kvs:=by
 induction h with
 |nil=>exact .nil
 |cons a _ ih=>exact .cons ⟨a.1,a.2.mn m⟩ ih
def Ru.mn(m:Mn K ρ H ρ' H'){kvs:List (List Int×D)}{xs:List (List Int×Addr×Value)}(h:Ru K ρ H kvs xs):Ru K ρ' H' kvs xs:=by
 induction h with
 |nil=>exact .nil
 |cons a _ ih=>obtain⟨a1,a2,v,a3,a4⟩:=a;exact .cons ⟨a1,m.t _ _ a2,v,a3,a4.mn m⟩ ih
def Xd.mn(m:Mn K ρ H ρ' H'){dx:Option Addr}{fs:List (Str×D)}(h:Xd K ρ H dx fs):Xd K ρ' H' dx fs:=by
 cases dx with
 |none=>exact h
 |some d=>obtain⟨ws,e,q⟩:=h;exact⟨ws,m.x _ _ e,λf e' z=>let ⟨v,z1,z2⟩:=q f e' z;⟨v,z1,z2.mn m⟩⟩
def xC.keep(m:Mn K ρ H ρ' H')(h:∀u,H a=some u->H' a=some u)(r:xC K ρ H a o):xC K ρ' H' a o:=by
 cases o with
 |lst ds=>obtain⟨vs,e,q⟩:=r;exact⟨vs,h _ e,q.mn m⟩
 |sJ ds =>
  obtain⟨vs,e,q⟩:=r;refine⟨vs,?_,q.mn m⟩;rcases e with⟨u,e⟩|e
  exact .inl ⟨u,h _ e⟩;exact .inr e
 |dct kvs=>obtain⟨ws,e,q⟩:=r;exact⟨ws,h _ e,q.mn m⟩
 |nV kvs=>obtain⟨ws,e,q⟩:=r;exact⟨ws,h _ e,q.mn m⟩
 |exc c fs=>obtain⟨C,dx,tr,n,e,q⟩:=r;exact⟨C,dx,tr,n,h _ e,q.mn m⟩
 |any=>trivial
 |ki lo hi=>exact h _ r
def Mn.same(s:j8 H H'):Mn K ρ H ρ H':=⟨λ_ _ h=>h,λ_ _ h=>(Kp.of_same (ch:=[]) s).Kq h,λ_ _ _ h=>s _ _ h,λ_ _ h=>s _ _ h⟩
def Rl.same(l:Rl K ρ H st)(s:j8 H H'):Rl K ρ H' st:=⟨l.len,l.nd,λi a o h1 h2=>(l.obj i a o h1 h2).keep (Mn.same s) λu e=>s _ _ e⟩
def Rl.at(l:Rl K ρ H st)(h1:ρ[i]?=some a)(h2:st[i]?=some o)(hm:o.mut=true):∃u,H a=some u/\∀x y,u≠.pf x y:=by
 have r:=l.obj i a o h1 h2;cases o with
 |lst ds=>obtain⟨vs,e,_⟩:=r;exact⟨_,e,λx y z=>nomatch z⟩
 |sJ ds=>cases hm
 |dct kvs=>obtain⟨ws,e,_⟩:=r;exact⟨_,e,λx y z=>nomatch z⟩
 |nV kvs=>obtain⟨ws,e,_⟩:=r;exact⟨_,e,λx y z=>by cases z⟩
 |exc c fs=>obtain⟨C,dx,tr,_,e,_⟩:=r;exact⟨_,e,λx y z=>by cases z⟩
 |any=>cases hm
 |ki lo hi=>exact⟨_,r,λx y z=>nomatch z⟩
def Mn.new(hp:H p=none):Mn K ρ H (ρ ++ [p]) (upd H p ho):=⟨λi a h=>by
  obtain⟨hi,_⟩:=Z9.mp h
  rw[Zan hi];exact h,λ_ _ h=>(Kp.of_same (ch:=[]) (j8.up hp)).Kq h,λ_ _ _ h=>j8.up hp _ _ h,λ_ _ h=>j8.up hp _ _ h⟩
def Rl.new(l:Rl K ρ H st)(hp:H p=none)(mk:xC K (ρ ++ [p]) (upd H p ho) p o):Rl K (ρ ++ [p]) (upd H p ho) (st ++ [o]):=by
 have m:Mn K ρ H (ρ ++ [p]) (upd H p ho):=Mn.new hp;have split:∀(i:Nat) (a:Addr) (o':O),(ρ ++ [p])[i]?=some a->(st ++ [o])[i]?=some o'->(ρ[i]?=some a/\st[i]?=some o')\/(i=ρ.length/\a=p/\o'=o):=λi a o' h1 h2=>by
  by_cases hi:i<ρ.length;rw[Zan hi]at h1;rw[Zan (by rw[<- l.len];exact hi)]at h2;exact .inl ⟨h1,h2⟩;obtain⟨hb,_⟩:=Z9.mp h1;rw[Zaf,ZaO]at hb;have e:i=ρ.length:=by lk
  subst e;rw[ZaE (Zaa _),Zcp]at h1;rw[l.len,ZaE (Zaa _),Zcp]at h2;exact .inr ⟨rfl,(Zam h1).symm,(Zam h2).symm⟩
 refine⟨by rw[Zaf,Zaf,l.len];rfl,λi j a u u' h1 h2 h3 h4 m1 m2=>?_,λi a u h1 h2=>?_⟩;rcases split i a u h1 h3 with⟨g1,g2⟩|⟨rfl,rfl,rfl⟩<;>rcases split j _ u' h2 h4 with⟨k1,k2⟩|⟨k1,k2,k3⟩
 exact l.nd i j a u u' g1 k1 g2 k2 m1 m2;subst k2;obtain⟨w,e,_⟩:=l.at g1 g2 m1;rw[e]at hp;cases hp;obtain⟨w,e,_⟩:=l.at k1 k2 m2;rw[e]at hp;cases hp;exact k1.symm;rcases split i a u h1 h2 with⟨g1,g2⟩|⟨rfl,rfl,rfl⟩
 exact(l.obj i a u g1 g2).keep m λw e=>j8.up hp _ _ e;exact mk
def Rl.put(l:Rl K ρ H st)(hi:ρ[i]?=some a)(hs:st[i]?=some o)(hm:o.mut=true)(hm':o'.mut=true)(m:Mn K ρ H ρ (upd H a ho))(r:xC K ρ (upd H a ho) a o'):Rl K ρ (upd H a ho) (st.set i o'):=by
 obtain⟨w,ew,nf⟩:=l.at hi hs hm;have Vr:i<st.length:=(Z9.mp hs).1;have old:∀(j:Nat) (u:O),(st.set i o')[j]?=some u->(j=i/\u=o')\/(j≠i/\st[j]?=some u):=λj u h=>by
  by_cases hj:i=j;subst hj;rw[Zal Vr]at h;exact .inl ⟨rfl,(Zam h).symm⟩;rw[ZaA hj]at h;exact .inr ⟨λz=>hj z.symm,h⟩
 refine⟨by rw[Zbe];exact l.len,λj k b u u' h1 h2 h3 h4 m1 m2=>?_,λj b u h1 h2=>?_⟩;rcases old j u h3 with⟨rfl,rfl⟩|⟨nj,g3⟩<;>rcases old k u' h4 with⟨rfl,rfl⟩|⟨nk,g4⟩
 rfl;exact l.nd _ _ b o u' h1 h2 hs g4 hm m2;exact l.nd _ _ b u o h1 h2 g3 hs m1 hm;exact l.nd _ _ b u u' h1 h2 g3 g4 m1 m2;rcases old j u h2 with⟨rfl,rfl⟩|⟨nj,g2⟩
 rw[hi]at h1;cases h1;exact r;by_cases hb:b=a;subst hb;cases u with
 |sJ ds =>
  obtain⟨vs,e,q⟩:=l.obj j b _ h1 g2;refine⟨vs,?_,q.mn m⟩;rcases e with⟨x,e⟩|e
  rw[ew]at e;cases e;exact absurd rfl (nf _ _);exact .inr e
 |lst ds=>exact absurd (l.nd j i b _ o h1 hi g2 hs rfl hm) nj
 |nV ds=>exact absurd (l.nd j i b _ o h1 hi g2 hs rfl hm) nj
 |exc c fs=>exact absurd (l.nd j i b _ o h1 hi g2 hs rfl hm) nj
 |dct ds=>exact absurd (l.nd j i b _ o h1 hi g2 hs rfl hm) nj
 |any=>trivial
 |ki lo up=>exact absurd (l.nd j i b _ o h1 hi g2 hs rfl hm) nj
 exact(l.obj j b u h1 g2).keep m λw e=>by rw[jY hb];exact e
def Mn.put{xs:List V}(e:H a=some (.lst xs)):Mn K ρ H ρ (upd H a ho):=⟨λ_ _ h=>h,λb vs h=>(Kp.put (ch:=[a]) (o:=ho) Kp.refl (by simp) e).Kq h,λb o u h=>by rw[jY (λz=>by rw[z,e]at h;cases h)];exact h,λb ws h=>by rw[jY (λz=>by rw[z,e]at h;cases h)];exact h⟩
def Mn.putD{ws:List (Key×V)}(e:H a=some (.dK ws)):Mn K ρ H ρ (upd H a ho):=⟨λ_ _ h=>h,λb vs q=>by
 have ne:∀u,H b=some u->(∀w,u≠.dK w)->b≠a:=λu hu n z=>by rw[z,e]at hu;cases hu;exact n _ rfl
 rcases q with(q|⟨o,q⟩)|q
 exact .inl (.inl (by rw[jY (ne _ q λw z=>nomatch z)];exact q));exact .inl (.inr ⟨o,by rw[jY (ne _ q λw z=>nomatch z)];exact q⟩)
 exact .inr q,λb o u h=>by rw[jY (λz=>by rw[z,e]at h;cases h)];exact h,λb ws h=>by rw[jY (λz=>by rw[z,e]at h;cases h)];exact h⟩
def Rl.newL{vs:List V}{ds:List D}(l:Rl K ρ H st)(hp:H p=none)(r:b9 K ρ H vs ds):Rl K (ρ ++ [p]) (upd H p (.lst vs)) (st ++ [.lst ds]):=l.new hp ⟨vs,rh,r.mn (Mn.new hp)⟩
def Rl.newD{vs:List (Key×V)}{ds:List (Key×D)}(l:Rl K ρ H st)(hp:H p=none)(r:Rk K ρ H vs ds):Rl K (ρ ++ [p]) (upd H p (.dK vs)) (st ++ [.dct ds]):=l.new hp ⟨vs,rh,r.mn (Mn.new hp)⟩
def newR(l:Rl K ρ H st)(v:D:=.ref st.length):(ρ ++ [p])[st.length]?=some p:=by rw[<- l.len,ZaE (Zaa _),Zcp];rfl
def Rl.putL{vs:List V}{ds xs:List D}(l:Rl K ρ H st)(hi:ρ[i]?=some a)(hs:st[i]?=some (.lst xs))(r:b9 K ρ H vs ds):Rl K ρ (upd H a (.lst vs)) (st.set i (.lst ds))/\Mn K ρ H ρ (upd H a (.lst vs)):=by obtain⟨ws,e,_⟩:=l.obj i a _ hi hs;have m:Mn K ρ H ρ (upd H a (.lst vs)):=Mn.put e;exact⟨l.put hi hs rfl rfl m ⟨vs,rh,r.mn m⟩,m⟩
def Rl.zi{vs:List (Key×V)}{ds xs:List (Key×D)}(l:Rl K ρ H st)(hi:ρ[i]?=some a)(hs:st[i]?=some (.dct xs))(r:Rk K ρ H vs ds):Rl K ρ (upd H a (.dK vs)) (st.set i (.dct ds))/\Mn K ρ H ρ (upd H a (.dK vs)):=by obtain⟨ws,e,_⟩:=l.obj i a _ hi hs;have m:Mn K ρ H ρ (upd H a (.dK vs)):=Mn.putD e;exact⟨l.put hi hs rfl rfl m ⟨vs,rh,r.mn m⟩,m⟩
def Mn.Ly{φ:Heap->Prop}(e:H a=some (.ext φ)):Mn K ρ H ρ (upd H a ho):=⟨λ_ _ h=>h,λb vs q=>by
 have ne:∀u,H b=some u->(∀w,u≠.ext w)->b≠a:=λu hu n z=>by rw[z,e]at hu;cases hu;exact n _ rfl
 rcases q with(q|⟨o,q⟩)|q
 exact .inl (.inl (by rw[jY (ne _ q λw z=>nomatch z)];exact q));exact .inl (.inr ⟨o,by rw[jY (ne _ q λw z=>nomatch z)];exact q⟩)
 exact .inr q,λb o u h=>by rw[jY (λz=>by rw[z,e]at h;cases h)];exact h,λb ws h=>by rw[jY (λz=>by rw[z,e]at h;cases h)];exact h⟩
def Rl.qk{vs:List (List Int×Addr×Value)}{ds xs:List (List Int×D)}(l:Rl K ρ H st)(hi:ρ[i]?=some a)(hs:st[i]?=some (.nV xs))(r:Ru K ρ H ds vs):Rl K ρ (upd H a (DU a vs)) (st.set i (.nV ds))/\Mn K ρ H ρ (upd H a (DU a vs)):=by obtain⟨ws,e,_⟩:=l.obj i a _ hi hs;have m:Mn K ρ H ρ (upd H a (DU a vs)):=Mn.Ly e;exact⟨l.put hi hs rfl rfl m ⟨vs,rh,r.mn m⟩,m⟩
abbrev items(st:Store)(i:Nat):Option (List D):=match st[i]? with
 |some (.lst ds)=>some ds
 |some (.sJ ds)=>some ds
 |_=>none
def Rl.items{ds:List D}(l:Rl K ρ H st)(hi:ρ[i]?=some a)(h:items st i=some ds):∃vs,jZ K H a vs/\b9 K ρ H vs ds:=by
 unfold L4.items at h;split at h
 ·next ds' hs=>cases h;obtain⟨vs,e,r⟩:=l.obj i a _ hi hs;exact⟨vs,.inl (.inl e),r⟩
 ·next ds' hs=>cases h;obtain⟨vs,e,r⟩:=l.obj i a _ hi hs;exact⟨vs,e.sq,r⟩
 ·cases h
end
abbrev So(K:Zfr){α β:Type}(R:List Addr->Hp->α->β->Prop)(t:St->Hp->(α->Hp->Prop)->Prop)(f:ao->Dm β):Prop :=
 ∀(ρ:List Addr) (σ:St) (H:Hp) (δ:ao) (st:Store) (b:β) (st':Store) (Q:α->Hp->Prop),Rl K ρ H st->Rs K ρ H σ δ->f δ st=some (b,st') ->
  (∀a H' ρ',Mn K ρ H ρ' H'->Rl K ρ' H' st'->R ρ' H' a b->Q a H')->t σ H Q
@[reducible]def eh(K:Zfr)(t:TE)(f:ao->Dm D):Prop:=So K (Rp K) t f
@[reducible]def rS(K:Zfr)(t:TT)(f:ao->Dm Bool):Prop:=So K (λ_ _=>Eq) t f
@[reducible]def tf(K:Zfr)(t:TA)(f:ao->Dm (List D)):Prop:=So K (b9 K) t f
@[reducible]def Ht(K:Zfr)(t:TO)(f:ao->Dm (Option Int)):Prop:=So K (λ_ _=>Eq) t f
abbrev Lz(K:Zfr)(r:V->Hp->VK->Prop)(g:D->Dm D):Prop :=
 ∀(ρ:List Addr) (H:Hp) (st:Store) (x:V) (a:D) (b:D) (st':Store) (Q:VK),Rl K ρ H st->Rp K ρ H x a->g a st=some (b,st')->(∀v H' ρ',Mn K ρ H ρ' H'->Rl K ρ' H' st'->Rp K ρ' H' v b->Q v H')->r x H Q
abbrev nW(K:Zfr)(r:R2)(g:D->D->Dm D):Prop :=
 ∀(ρ:List Addr) (H:Hp) (st:Store) (x y:V) (a c:D) (b:D) (st':Store) (Q:VK),Rl K ρ H st->Rp K ρ H x a->Rp K ρ H y c->g a c st=some (b,st')->(∀v H' ρ',Mn K ρ H ρ' H'->Rl K ρ' H' st'->Rp K ρ' H' v b->Q v H')->r x y H Q
abbrev rT(K:Zfr)(r:List V->Hp->VK->Prop)(g:List D->Dm D):Prop :=
 ∀(ρ:List Addr) (H:Hp) (st:Store) (xs:List V) (as:List D) (b:D) (st':Store) (Q:VK),Rl K ρ H st->b9 K ρ H xs as->g as st=some (b,st')->(∀v H' ρ',Mn K ρ H ρ' H'->Rl K ρ' H' st'->Rp K ρ' H' v b->Q v H')->r xs H Q
abbrev DN(K:Zfr)(T:String)(r:V->List V->Hp->VK->Prop)(g:D->List D->Dm D):Prop :=
 ∀(ρ:List Addr) (H:Hp) (st:Store) (x:V) (xs:List V) (a:D) (as:List D) (b:D) (st':Store) (Q:VK),Rl K ρ H st->Rp K ρ H x a->b9 K ρ H xs as->g a as st=some (b,st')->(∀v H' ρ',Mn K ρ H ρ' H'->Rl K ρ' H' st'->Rp K ρ' H' v b->Q v H')->r x xs H Q
abbrev bnd{α β:Type}(m:Option (α×Store))(k:α->Dm β):Option (β×Store):=match m with
 |some (a,st)=>k a st
 |none=>none
def di{α β:Type}{m:Option (α×Store)}{k:α->Dm β}{r:β×Store}(h:bnd m k=some r):∃a st,m=some (a,st)/\k a st=some r:=by
 cases m with
 |none=>cases h
 |some p=>exact⟨p.1,p.2,rfl,h⟩
section
variable {K:Zfr}
abbrev ag(i:Nat):ao->Dm D:=λδ st=>match δ[i]? with
 |some (some d)=>some (d,st)
 |_=>none
def ai(i:Nat):eh K (yb i) (ag i):=by
 intro ρ σ H δ st b st' Q l rs e q;unfold ag at e;split at e
 ·next d hd=>cases e;obtain⟨v,ev,r⟩:=rs.2 i _ hd;exact⟨v,ev,q v H ρ .refl l r⟩
 ·cases e
abbrev fC(d:D):ao->Dm D:=λ_ st=>some (d,st)
def vS{v:V}{d:D}(h:∀ρ H,Rp K ρ H v d):eh K (tC v) (fC d):=by intro ρ σ H δ st b st' Q l rs e q;cases e;exact q v H ρ .refl l (h ρ H)
def aH(i:Int):eh K (tC (.int i)) (fC (.int i)):=vS λ_ _=>.int i
def Hu(b:Bool):eh K (tC (.bl b)) (fC (.bl b)):=vS λ_ _=>.bl b
def rV(x:Str):eh K (tC (.str x)) (fC (.str x)):=vS λ_ _=>.str x
abbrev ay(g:D->D->Dm D)(fa fb:ao->Dm D):ao->Dm D:=λδ st=>bnd (fa δ st) λa st1=>bnd (fb δ st1) λb st2=>g a b st2
def aA{r:R2}{g:D->D->Dm D}{ta tb:TE}{fa fb:ao->Dm D}(hr:nW K r g)(ha:eh K ta fa)(hb:eh K tb fb):eh K (Cq r ta tb) (ay g fa fb):=by intro ρ σ H δ st b st' Q l rs e q;obtain⟨a,st1,e1,e⟩:=di e;obtain⟨c,st2,e2,e⟩:=di e;refine ha ρ σ H δ st a st1 _ l rs e1 λx H1 ρ1 m1 l1 r1=>hb ρ1 σ H1 δ st1 c st2 _ l1 (rs.mn m1) e2 λy H2 ρ2 m2 l2 r2=>?_;exact hr ρ2 H2 st2 x y a c b st' Q l2 (r1.mn m2) r2 e λv H3 ρ3 m3 l3 r3=>q v H3 ρ3 ((m1.trans m2).trans m3) l3 r3
abbrev oN(g:D->Dm D)(fa:ao->Dm D):ao->Dm D:=λδ st=>bnd (fa δ st) λa st1=>g a st1
def o8{r:V->Hp->VK->Prop}{g:D->Dm D}{ta:TE}{fa:ao->Dm D}(hr:Lz K r g)(ha:eh K ta fa):eh K (Nc r ta) (oN g fa):=by intro ρ σ H δ st b st' Q l rs e q;obtain⟨a,st1,e1,e⟩:=di e;exact ha ρ σ H δ st a st1 _ l rs e1 λx H1 ρ1 m1 l1 r1=>hr ρ1 H1 st1 x a b st' Q l1 r1 e λv H3 ρ3 m3 l3 r3=>q v H3 ρ3 (m1.trans m3) l3 r3
abbrev ah:ao->Dm (List D):=λ_ st=>some ([],st)
abbrev ae(fa:ao->Dm D)(fr:ao->Dm (List D)):ao->Dm (List D):=λδ st=>bnd (fa δ st) λa st1=>bnd (fr δ st1) λr st2=>some (a :: r,st2)
def ax:tf K Cy ah:=by intro ρ σ H δ st b st' Q l rs e q;cases e;exact q [] H ρ .refl l .nil
def aj{ta:TE}{tr:TA}{fa:ao->Dm D}{fr:ao->Dm (List D)}(ha:eh K ta fa)(hr:tf K tr fr):tf K (wQ ta tr) (ae fa fr):=by intro ρ σ H δ st b st' Q l rs e q;obtain⟨a,st1,e1,e⟩:=di e;obtain⟨c,st2,e2,e⟩:=di e;cases e;exact ha ρ σ H δ st a st1 _ l rs e1 λx H1 ρ1 m1 l1 r1=>hr ρ1 σ H1 δ st1 c _ _ l1 (rs.mn m1) e2 λy H2 ρ2 m2 l2 r2=>q _ H2 ρ2 (m1.trans m2) l2 (.cons (r1.mn m2) r2)
abbrev lim(n:Nat):Bool:=Nat.ble n 100000
def Bx{n:Nat}(h:lim n=true):n<=sizeLine:=Zap (Zco h) ∅
def Hv{n:Nat}(h:lim n=true):n<sizeLine:=ZaW (Zco h) ∅
abbrev bB(fa:ao->Dm (List D)):ao->Dm D:=λδ st=>bnd (fa δ st) λas st1=>if lim as.length=true then some (.tup as,st1)else none
def g8{ta:TA}{fa:ao->Dm (List D)}(ha:tf K ta fa):eh K (Cz ta) (bB fa):=by
 intro ρ σ H δ st b st' Q l rs e q;obtain⟨as,st1,e1,e⟩:=di e;split at e
 ·next hl =>
  cases e;refine ha ρ σ H δ st as _ _ l rs e1 λxs H1 ρ1 m1 l1 r1=>⟨by rw[r1.length];exact Bx hl,λp hp=>?_⟩;have m2:Mn K ρ1 H1 ρ1 (upd H1 p (.tup xs)):=Mn.same (j8.up hp);exact q _ _ ρ1 (m1.trans m2) (l1.same (j8.up hp)) (.tup (dr.of rh) (r1.mn m2))
 ·cases e
abbrev cP(fa:ao->Dm (List D)):ao->Dm D:=λδ st=>bnd (fa δ st) λas st1=>if lim as.length=true then some (.ref st1.length,st1 ++ [.lst as])else none
def mf{ta:TA}{fa:ao->Dm (List D)}(ha:tf K ta fa):eh K (CA ta) (cP fa):=by
 intro ρ σ H δ st b st' Q l rs e q;obtain⟨as,st1,e1,e⟩:=di e;split at e
 ·next hl =>
  cases e;refine ha ρ σ H δ st as _ _ l rs e1 λxs H1 ρ1 m1 l1 r1=>⟨by rw[r1.length];exact Bx hl,λp hp=>?_⟩;exact q _ _ _ (m1.trans (Mn.new hp)) (l1.newL hp r1) (.ref (newR l1))
 ·cases e
abbrev aJ(fa:ao->Dm D):ao->Dm Bool:=λδ st=>bnd (fa δ st) λa st1=>match a with
 |.bl b=>some (b,st1)
 |_=>none
def fE{ta:TE}{fa:ao->Dm D}(ha:eh K ta fa):rS K (wO ta) (aJ fa):=by intro ρ σ H δ st b st' Q l rs e q;obtain⟨a,st1,e1,e⟩:=di e;cases a<;>simp at e;obtain⟨rfl,rfl⟩:=e;refine ha ρ σ H δ st _ _ _ l rs e1 λx H1 ρ1 m1 l1 r1=>?_;cases r1;exact⟨_,rfl,q _ H1 ρ1 m1 l1 rfl⟩
def DO{ta:TE}{fa:ao->Dm D}(ha:eh K ta fa):rS K (tB ta) (aJ fa):=fE ha
abbrev vT(fa:ao->Dm Bool):ao->Dm Bool:=λδ st=>bnd (fa δ st) λa st1=>some (!a,st1)
def zj{ta:TT}{fa:ao->Dm Bool}(ha:rS K ta fa):rS K (Cd ta) (vT fa):=by intro ρ σ H δ st b st' Q l rs e q;obtain⟨a,st1,e1,e⟩:=di e;cases e;exact ha ρ σ H δ st _ _ _ l rs e1 λx H1 ρ1 m1 l1 r1=>q _ H1 ρ1 m1 l1 (by rw[r1])
abbrev ur(fa fb:ao->Dm Bool):ao->Dm Bool:=λδ st=>bnd (fa δ st) λa st1=>if a=true then fb δ st1 else some (false,st1)
abbrev By(fa fb:ao->Dm Bool):ao->Dm Bool:=λδ st=>bnd (fa δ st) λa st1=>if a=true then some (true,st1)else fb δ st1
def PR{ta tb:TT}{fa fb:ao->Dm Bool}(ha:rS K ta fa)(hb:rS K tb fb):rS K (Cc ta tb) (ur fa fb):=by
 intro ρ σ H δ st b st' Q l rs e q;obtain⟨a,st1,e1,e⟩:=di e;refine ha ρ σ H δ st _ _ _ l rs e1 λx H1 ρ1 m1 l1 r1=>?_;subst r1;cases x with
 |true =>
  refine sF ?_;rw[if_pos rfl]at e;exact hb ρ1 σ H1 δ st1 b st' _ l1 (rs.mn m1) e λy H2 ρ2 m2 l2 r2=>q y H2 ρ2 (m1.trans m2) l2 r2
 |false =>
  refine sE ?_;rw[if_neg Zaj]at e;cases e;exact q _ H1 ρ1 m1 l1 rfl
def LA{ta tb:TT}{fa fb:ao->Dm Bool}(ha:rS K ta fa)(hb:rS K tb fb):rS K (M4 ta tb) (By fa fb):=by
 intro ρ σ H δ st b st' Q l rs e q;obtain⟨a,st1,e1,e⟩:=di e;refine ha ρ σ H δ st _ _ _ l rs e1 λx H1 ρ1 m1 l1 r1=>?_;subst r1;cases x with
 |false =>
  refine sE ?_;rw[if_neg Zaj]at e;exact hb ρ1 σ H1 δ st1 b st' _ l1 (rs.mn m1) e λy H2 ρ2 m2 l2 r2=>q y H2 ρ2 (m1.trans m2) l2 r2
 |true =>
  refine sF ?_;rw[if_pos rfl]at e;cases e;exact q _ H1 ρ1 m1 l1 rfl
abbrev rW(fa fb:ao->Dm D):ao->Dm D:=λδ st=>bnd (aJ fa δ st) λa st1=>if a=true then fb δ st1 else some (.bl false,st1)
abbrev DP(fa fb:ao->Dm D):ao->Dm D:=λδ st=>bnd (aJ fa δ st) λa st1=>if a=true then some (.bl true,st1)else fb δ st1
abbrev xD(fa:ao->Dm D):ao->Dm D:=λδ st=>bnd (aJ fa δ st) λa st1=>some (.bl (!a),st1)
def Vs{fa:ao->Dm D}{δ:ao}{st st1:Store}{b:Bool}(h:aJ fa δ st=some (b,st1)):fa δ st=some (.bl b,st1):=by obtain⟨a,st2,e1,e⟩:=di h;cases a<;>simp at e;obtain⟨rfl,rfl⟩:=e;exact e1
def Vt{ta tb:TE}{fa fb:ao->Dm D}(ha:eh K ta fa)(hb:eh K tb fb):eh K (wI ta tb) (rW fa fb):=by
 intro ρ σ H δ st b st' Q l rs e q;obtain⟨a,st1,e1,e⟩:=di e;refine ha ρ σ H δ st _ _ _ l rs (Vs e1) λx H1 ρ1 m1 l1 r1=>?_;cases r1;refine⟨a,rfl,?_⟩;cases a with
 |true =>
  refine sF ?_;rw[if_pos rfl]at e;exact hb ρ1 σ H1 δ st1 b st' _ l1 (rs.mn m1) e λy H2 ρ2 m2 l2 r2=>q y H2 ρ2 (m1.trans m2) l2 r2
 |false =>
  refine sE ?_;rw[if_neg Zaj]at e;cases e;exact q _ H1 ρ1 m1 l1 (.bl _)
abbrev kf{β:Type}(c:ao->Dm Bool)(fa fb:ao->Dm β):ao->Dm β:=λδ st=>bnd (c δ st) λa st1=>if a=true then fa δ st1 else fb δ st1
abbrev kP:ao->Dm (Option Int):=λ_ st=>some (none,st)
abbrev oy(fa:ao->Dm D):ao->Dm (Option Int):=λδ st=>bnd (fa δ st) λa st1=>match a with
 |.int i=>some (some i,st1)
 |_=>none
def Hw:Ht K rA kP:=by intro ρ σ H δ st b st' Q l rs e q;cases e;exact q _ H ρ .refl l rfl
def Hx{ta:TE}{fa:ao->Dm D}(ha:eh K ta fa):Ht K (wU ta) (oy fa):=by intro ρ σ H δ st b st' Q l rs e q;obtain⟨a,st1,e1,e⟩:=di e;cases a<;>simp at e;obtain⟨rfl,rfl⟩:=e;refine ha ρ σ H δ st _ _ _ l rs e1 λx H1 ρ1 m1 l1 r1=>?_;cases r1;exact⟨_,rfl,q _ H1 ρ1 m1 l1 rfl⟩
abbrev zk(K:Zfr)(r:V->Option Int->Option Int->Hp->VK->Prop)(g:D->Option Int->Option Int->Dm D):Prop :=
 ∀lo hi,Lz K (λx=>r x lo hi) (λa=>g a lo hi)
abbrev zm(g:D->Option Int->Option Int->Dm D)(fa:ao->Dm D)(fl fh:ao->Dm (Option Int)):ao->Dm D:=λδ st=>bnd (fa δ st) λa st1=>bnd (fl δ st1) λlo st2=>bnd (fh δ st2) λhi st3=>g a lo hi st3
def Hy{r:V->Option Int->Option Int->Hp->VK->Prop}{g:D->Option Int->Option Int->Dm D}{ta:TE}{tl th:TO}{fa:ao->Dm D}{fl fh:ao->Dm (Option Int)}(hr:zk K r g)(ha:eh K ta fa)(hl:Ht K tl fl)(hh:Ht K th fh):eh K (Nx r ta tl th) (zm g fa fl fh):=by intro ρ σ H δ st b st' Q l rs e q;obtain⟨a,st1,e1,e⟩:=di e;obtain⟨lo,st2,e2,e⟩:=di e;obtain⟨hi,st3,e3,e⟩:=di e;refine ha ρ σ H δ st a st1 _ l rs e1 λx H1 ρ1 m1 l1 r1=>hl ρ1 σ H1 δ st1 lo st2 _ l1 (rs.mn m1) e2 λy H2 ρ2 m2 l2 r2=>hh ρ2 σ H2 δ st2 hi st3 _ l2 (rs.mn (m1.trans m2)) e3 λz H3 ρ3 m3 l3 r3=>?_;subst r2 r3;exact hr y z ρ3 H3 st3 x a b st' Q l3 (r1.mn (m2.trans m3)) e λv H4 ρ4 m4 l4 r4=>q v H4 ρ4 (((m1.trans m2).trans m3).trans m4) l4 r4
abbrev aK(g:List D->Dm D)(fa:ao->Dm (List D)):ao->Dm D:=λδ st=>bnd (fa δ st) λas st1=>g as st1
def bO{r:List V->Hp->VK->Prop}{g:List D->Dm D}{ta:TA}{fa:ao->Dm (List D)}(hr:rT K r g)(ha:tf K ta fa):eh K (J8 r ta) (aK g fa):=by intro ρ σ H δ st b st' Q l rs e q;obtain⟨as,st1,e1,e⟩:=di e;exact ha ρ σ H δ st as st1 _ l rs e1 λx H1 ρ1 m1 l1 r1=>hr ρ1 H1 st1 x as b st' Q l1 r1 e λv H3 ρ3 m3 l3 r3=>q v H3 ρ3 (m1.trans m3) l3 r3
abbrev bw(K:Zfr)(n:Nat)(F:List D->Dm D):Sp:=λvs H Q _=>vs.length=n/\∃(ρ:List Addr) (st:Store) (ds:List D) (b:D) (st':Store),Rl K ρ H st/\b9 K ρ H vs ds/\F ds st=some (b,st') /\
 ∀v H' ρ',Mn K ρ H ρ' H'->Rl K ρ' H' st'->Rp K ρ' H' v b->Q v H'
def bL{n:Nat}{F:List D->Dm D}{ta:TA}{fa:ao->Dm (List D)}{E:XK}(ha:tf K ta fa)(hn:∀δ st as st',fa δ st=some (as,st')->as.length=n):eh K (tP (bw K n F) [] E ta) (aK F fa):=by intro ρ σ H δ st b st' Q l rs e q;obtain⟨as,st1,e1,e⟩:=di e;refine ha ρ σ H δ st as st1 _ l rs e1 λvs H1 ρ1 m1 l1 r1=>⟨?_,ρ1,st1,as,b,st',l1,?_,e,λv H3 ρ3 m3 l3 r3=>q v H3 ρ3 (m1.trans m3) l3 r3⟩;rw[Zbu,r1.length];exact hn _ _ _ _ e1;rw[Zbu];exact r1
def Vu{δ:ao}{st st':Store}{as:List D}(h:ah δ st=some (as,st')):as.length=0:=by cases h;rfl
def LB{fa:ao->Dm D}{fr:ao->Dm (List D)}{n:Nat}(hr:∀δ st as st',fr δ st=some (as,st')->as.length=n):∀δ st as st',ae fa fr δ st=some (as,st')->as.length=n+1:=λδ st as st' h=>by
 obtain⟨a,st1,e1,e⟩:=di h;obtain⟨c,st2,e2,e⟩:=di e;cases e;rw[ZaG,hr _ _ _ _ e2]
end
end L4
namespace L4
open PySem PySem.Spec L2
section
variable {K:Zfr}
abbrev xE(h:Int->Int->D):D->D->Dm D
 |.int i,.int j,st=>some (h i j,st)
 |_,_,_=>none
def DQ{gv:Int->Int->V}{h:Int->Int->D}(hh:∀i j ρ H,Rp K ρ H (gv i j) (h i j)):nW K (sy gv) (xE h):=by intro ρ H st x y a c b st' Q l rx ry e q;unfold xE at e;split at e;cases e;cases rx;cases ry;exact⟨_,_,rfl,rfl,q _ H ρ .refl l (hh _ _ ρ H)⟩;cases e
abbrev vU(c:Int->Int->Bool)(h:Int->Int->D):D->D->Dm D
 |.int i,.int j,st=>if c i j=true then some (h i j,st)else none
 |_,_,_=>none
def Bz{C:Int->Int->Prop}{c:Int->Int->Bool}{gv:Int->Int->V}{h:Int->Int->D}(hc:∀i j,c i j=true->C i j)(hh:∀i j ρ H,Rp K ρ H (gv i j) (h i j)):nW K (rI C gv) (vU c h):=by
 intro ρ H st x y a d b st' Q l rx ry e q;unfold vU at e;split at e
 ·split at e
  ·next hcc=>cases e;cases rx;cases ry;exact⟨_,_,rfl,rfl,hc _ _ hcc,q _ H ρ .refl l (hh _ _ ρ H)⟩
  ·cases e
 ·cases e
abbrev fF:D->D->Dm D:=xE λi j=>.int (i+j)
abbrev jh:D->D->Dm D:=xE λi j=>.int (i-j)
abbrev j9:D->D->Dm D:=vU (λi j=>decide (-18446744073709551616<i/\i<18446744073709551616) || decide (-18446744073709551616<j/\j<18446744073709551616)) λi j=>.int (i*j)
abbrev nG:D->D->Dm D:=vU (λi j=>decide (0<j/\j<1073741824)) λi j=>.int (i / j)
abbrev lF:D->D->Dm D:=vU (λi j=>decide (0<j)) λi j=>.int (i % j)
abbrev uv:D->D->Dm D:=vU (λi j=>decide (0<=j/\j<=1000000/\i.natAbs<18446744073709551616)) λi j=>.int (i ^ j.toNat)
abbrev xF:D->D->Dm D:=xE λi j=>.bl (decide (i<j))
abbrev Vv:D->D->Dm D:=xE λi j=>.bl (decide (i<=j))
abbrev DR:D->D->Dm D:=xE λi j=>.bl (decide (j<i))
abbrev LC:D->D->Dm D:=xE λi j=>.bl (decide (j<=i))
def oz:nW K (sy λi j=>.int (i+j)) fF:=DQ λ_ _ _ _=>.int _
def tj:nW K (sy λi j=>.int (i-j)) jh:=DQ λ_ _ _ _=>.int _
def rX:nW K (rI tN λi j=>.int (i*j)) j9:=Bz (λi j h=>by
 rw[ZbR,decide_eq_true_eq,decide_eq_true_eq]at h
 exact h) λ_ _ _ _=>.int _
def DS:nW K (rI Cs λi j=>.int (i / j)) nG:=Bz (λi j h=>of_decide_eq_true (p:=0<j/\j<1073741824) h) λ_ _ _ _=>.int _
def sL:nW K (rI (λ_ j=>0<j) λi j=>.int (i % j)) lF:=Bz (λi j h=>of_decide_eq_true h) λ_ _ _ _=>.int _
def PU:nW K (rI Ct λi j=>.int (i ^ j.toNat)) uv:=Bz (λi j h=>by have h:=of_decide_eq_true (p:=0<=j/\j<=1000000/\i.natAbs<18446744073709551616) h;exact⟨h.1,h.2.1,by lk⟩) λ_ _ _ _=>.int _
def BA:nW K (sy λi j=>.bl (decide (i<j))) xF:=DQ λ_ _ _ _=>.bl _
def LD:nW K (sy λi j=>.bl (decide (j<i))) DR:=DQ λ_ _ _ _=>.bl _
def DT:nW K (sy λi j=>.bl (decide (j<=i))) LC:=DQ λ_ _ _ _=>.bl _
abbrev gJ:D->Dm D
 |.int i,st=>some (.int (-i),st)
 |_,_=>none
def o9:Lz K (rU λi=>.int (-i)) gJ:=by intro ρ H st x a b st' Q l rx e q;unfold gJ at e;split at e;cases e;cases rx;exact⟨_,rfl,q _ H ρ .refl l (.int _)⟩;cases e
abbrev sV:D->Option V
 |.non=>some .non
 |.bl b=>some (.bl b)
 |.int i=>some (.int i)
 |.str x=>some (.str x)
 |_=>none
def BB{ρ:List Addr}{H:Hp}{x v:V}{a:D}(r:Rp K ρ H x a)(h:sV a=some v):x=v:=by cases r<;>first|(cases h;rfl)|cases h
abbrev kQ(neg:Bool):D->D->Dm D:=λa b st=>match sV a,sV b with
 |some x,some y=>if qE x y=true then some (.bl (if neg then !decide (x=y)else decide (x=y)),st)else none
 |_,_=>none
def pI:nW K Nf (kQ false):=by
 intro ρ H st x y a c b st' Q l rx ry e q;unfold kQ at e;split at e
 ·next u v h1 h2 =>
  split at e
  ·next hs=>cases e;cases BB rx h1;cases BB ry h2;exact⟨hs,q _ H ρ .refl l (.bl _)⟩
  ·cases e
 ·cases e
def vV:nW K Ng (kQ true):=by
 intro ρ H st x y a c b st' Q l rx ry e q;unfold kQ at e;split at e
 ·next u v h1 h2 =>
  split at e
  ·next hs=>cases e;cases BB rx h1;cases BB ry h2;exact⟨hs,q _ H ρ .refl l (.bl _)⟩
  ·cases e
 ·cases e
abbrev bH{α β:Type}(f:α->Option β):List α->Option (List β)
 |[]=>some []
 |a :: r=>match f a,bH f r with
  |some b,some s=>some (b :: s)
  |_,_=>none
def uY{α β:Type}{f:α->Option β}{a:α}{r:List α}{s:List β}(h:bH f (a :: r)=some s):∃b t,f a=some b/\bH f r=some t/\s=b :: t:=by
 unfold bH at h;split at h
 ·next b t h1 h2=>cases h;exact⟨b,t,h1,h2,rfl⟩
 ·cases h
def sM{α β γ:Type}{f:α->Option β}{g:γ->α}{k:γ->β}(h:∀c,f (g c)=some (k c)):∀l:List γ,bH f (l.map g)=some (l.map k)
 |[]=>rfl
 |c :: r=>by
  show bH f (g c :: r.map g)=_;unfold bH;rw[h c,sM h r];rfl
abbrev cK(st:Store):Nat->D->Option PyData
 |0,_=>none
 |_+1,.non=>some .none
 |_+1,.bl b=>some (.bool b)
 |_+1,.int i=>some (.int i)
 |_+1,.str x=>some (.str x)
 |_+1,.ty _=>none
 |n+1,.tup ds=>(bH (cK st n) ds).map PyData.tuple
 |n+1,.ref i=>match items st i with
  |some ds=>(bH (cK st n) ds).map PyData.list
  |none=>none
def DV{ρ:List Addr}{H:Hp}{st:Store}(l:Rl K ρ H st):∀(n:Nat) {v:V} {d:D} {p:PyData},Rp K ρ H v d->cK st n d=some p->Rep K H v p
 |0,_,_,_,_,h=>by simp[cK]at h
 |n+1,v,d,p,r,h=>by
  have all:∀{vs:List V} {ds:List D} {ps:List PyData},b9 K ρ H vs ds->bH (cK st n) ds=some ps->fN K H vs ps:=by
   intro vs ds ps rr
   induction vs generalizing ds ps with
   |nil=>intro hm;cases rr;cases hm;exact .nil
   |cons w ws ih =>
    intro hm;cases rr with
    |cons ra rb =>
     obtain⟨b,t,h1,h2,rfl⟩:=uY hm;exact .cons (DV l n ra h1) (ih rb h2)
  cases r with
  |non=>simp[cK]at h;subst h;exact .non
  |bl b=>simp[cK]at h;subst h;exact .bl b
  |int i=>simp[cK]at h;subst h;exact .int i
  |str x=>simp[cK]at h;subst h;exact .str x
  |ty n=>simp[cK]at h
  |ref hi =>
   simp only[cK]at h;split at h
   ·next ds hd =>
    obtain⟨ps,h1,rfl⟩:=Zaz.mp h;obtain⟨vs,e,rr⟩:=l.items hi hd;exact .lst e (all rr h1)
   ·cases h
  |tup q rr =>
   simp only[cK]at h;obtain⟨ps,h1,rfl⟩:=Zaz.mp h;exact .tup q (all rr h1)
abbrev jn(neg:Bool):D->D->Dm D:=λa b st=>match cK st 20 a,cK st 20 b with
 |some p,some q=>if(PyData.canLay0 p && PyData.canLay0 q && decide (min p.depth q.depth<=60))=true then some (.bl (if neg then !PyData.eqv p q else PyData.eqv p q),st)else none
 |_,_=>none
def vW(neg:Bool):nW K (yz K neg) (jn neg):=by
 intro ρ H st x y a c b st' Q l rx ry e q;unfold jn at e;split at e
 ·next u v h1 h2 =>
  split at e
  ·next hs =>
   cases e;rw[ZaB,ZaB,decide_eq_true_eq]at hs;exact⟨u,v,DV l 20 rx h1,DV l 20 ry h2,hs.1.1,hs.1.2,hs.2,q _ H ρ .refl l (.bl _)⟩
  ·cases e
 ·cases e
def at_of{ρ:List Addr}{H:Hp}{vs:List V}{ds:List D}{i:Int}{d:D}(r:b9 K ρ H vs ds)(h:gD ds i=some d):∃v,gD vs i=some v/\Rp K ρ H v d:=by
 unfold gD at h ⊢;rw[r.length];cases hx:mP ds.length i with
 |none=>rw[hx]at h;cases h
 |some j =>
  rw[hx]at h;exact r.got h
abbrev aE:D->D->Dm D
 |.tup ds,.int i,st=>match gD ds i with
  |some d=>some (d,st)
  |none=>none
 |_,_,_=>none
def bD:nW K (yp K) aE:=by
 intro ρ H st x y a c b st' Q l rx ry e q;unfold aE at e;split at e
 ·split at e
  ·next d hd =>
   cases e;cases ry;cases rx with
   |tup s r =>
    obtain⟨v,hv,rv⟩:=at_of r hd;exact⟨_,_,_,v,rfl,rfl,s,hv,q v H ρ .refl l rv⟩
  ·cases e
 ·cases e
abbrev dX:D->D->Dm D
 |.ref r,.int i,st=>match items st r with
  |some ds=>match gD ds i with
   |some d=>some (d,st)
   |none=>none
  |none=>none
 |_,_,_=>none
def nP:nW K (CG K) dX:=by
 intro ρ H st x y a c b st' Q l rx ry e q;unfold dX at e;split at e
 ·split at e
  ·next ds hi =>
   split at e
   ·next d hd =>
    cases e;cases ry;cases rx with
    |ref hr =>
     obtain⟨vs,s,r⟩:=l.items hr hi;obtain⟨v,hv,rv⟩:=at_of r hd;exact⟨_,_,_,v,rfl,rfl,s,hv,q v H ρ .refl l rv⟩
   ·cases e
  ·cases e
 ·cases e
abbrev zo:D->D->Dm D
 | .str z,.int i,st=>if lim z.length=true then match gD z.cps.toList i with
   |some c=>some (.str ⟨#[c]⟩,st)
   |none=>none
  else none
 |_,_,_=>none
abbrev cutD(xs:List D)(lo hi:Option Int):List D:=(xs.drop (HT.cw xs.length 0 lo)).take (HT.cw xs.length xs.length hi-HT.cw xs.length 0 lo)
def b9.cut{ρ:List Addr}{H:Hp}{vs:List V}{ds:List D}(r:b9 K ρ H vs ds)(lo hi:Option Int):b9 K ρ H (om vs lo hi) (cutD ds lo hi):=by unfold om cutD;rw[r.length];exact(r.drop _).take _
abbrev vX:D->Option Int->Option Int->Dm D
 |.tup ds,lo,hi,st=>some (.tup (cutD ds lo hi),st)
 |_,_,_,_=>none
def got{ρ:List Addr}{H:Hp}{st:Store}{vs:List V}{ds:List D}{Q:VK}(l:Rl K ρ H st)(r:b9 K ρ H vs ds)(q:∀v H' ρ',Mn K ρ H ρ' H'->Rl K ρ' H' st->Rp K ρ' H' v (.tup ds)->Q v H'):qH K H vs Q :=
 λp H' s e=>q _ H' ρ (Mn.same e) (l.same e) (.tup s (r.mn (Mn.same e)))
def PV:zk K (xf K) vX:=by
 intro lo hi ρ H st x a b st' Q l rx e q;cases a with
 |tup ds =>
  cases e;cases rx with
  |tup s r=>exact⟨_,_,rfl,s,got l (r.cut lo hi) q⟩
 |_=>cases e
abbrev uw:D->Option Int->Option Int->Dm D
 |.ref r,lo,hi,st=>match items st r with
  |some ds=>some (.ref st.length,st ++ [.lst (cutD ds lo hi)])
  |none=>none
 |_,_,_,_=>none
def PX:zk K (CH K) uw:=by
 intro lo hi ρ H st x a b st' Q l rx e q;cases a with
 |ref i =>
  simp only[uw]at e;split at e
  ·next ds hd =>
   cases e;cases rx with
   |ref hr =>
    obtain⟨vs,s,r⟩:=l.items hr hd;exact⟨_,_,rfl,s,λp hp=>q _ _ _ (Mn.new hp) (l.newL hp (r.cut lo hi)) (.ref (newR l))⟩
  ·cases e
 |_=>cases e
abbrev kn:D->D->Dm D
 |.tup a,.tup b,st=>if lim (a.length+b.length)=true then some (.tup (a ++ b),st)else none
 |_,_,_=>none
def xG:nW K (tZ K) kn:=by
 intro ρ H st x y a c b st' Q l rx ry e q;unfold kn at e;split at e
 ·split at e
  ·next hl =>
   cases e;cases rx with
   |tup s r =>
    cases ry with
    |tup s' r'=>exact⟨_,_,_,_,rfl,rfl,s,s',by rw[r.length,r'.length];exact Bx hl,got l (r.append r') q⟩
  ·cases e
 ·cases e
abbrev own(st:Store)(i:Nat):Option (List D):=match st[i]? with
 |some (.lst ds)=>some ds
 |_=>none
def rY{st:Store}{i:Nat}{ds:List D}(h:own st i=some ds):st[i]?=some (.lst ds):=by
 unfold own at h;split at h
 ·next ds' hs=>cases h;exact hs
 ·cases h
abbrev m9:D->D->Dm D
 |.ref i,.ref j,st=>match own st i,own st j with
  |some a,some b=>if lim (a.length+b.length)=true then some (.ref st.length,st ++ [.lst (a ++ b)])else none
  |_,_=>none
 |_,_,_=>none
def uZ:nW K CM m9:=by
 intro ρ H st x y a c b st' Q l rx ry e q;unfold m9 at e;split at e
 ·split at e
  ·next a b h1 h2 =>
   split at e
   ·next hl =>
    cases e;cases rx with
    |ref hi =>
     cases ry with
     |ref hj =>
      obtain⟨vs,e1,r1⟩:=l.obj _ _ _ hi (rY h1);obtain⟨ws,e2,r2⟩:=l.obj _ _ _ hj (rY h2);exact⟨_,_,_,_,rfl,rfl,e1,e2,by rw[r1.length,r2.length];exact Bx hl,λp hp=>q _ _ _ (Mn.new hp) (l.newL hp (r1.append r2)) (.ref (newR l))⟩
   ·cases e
  ·cases e
 ·cases e
abbrev qR:D->D->Dm D
 |.ref i,.int k,st=>match own st i with
  |some a=>if(decide (-9223372036854775808<=k/\k<9223372036854775808) && lim (a.length*k.toNat))=true then some (.ref st.length,st ++ [.lst (List.replicate k.toNat a).flatten])else none
  |_=>none
 |_,_,_=>none
def PY{ρ:List Addr}{H:Hp}:∀{ws vs:List V} {ds:List D},b9 K ρ H ws ds->bH sV ds=some vs->ws=vs
 |_,_,_,.nil,h=>by cases h;rfl
 |_,_,_,.cons a b,h=>by
  obtain⟨x,t,h1,h2,rfl⟩:=uY h;rw[BB a h1,PY b h2]
def PZ{a:D}{v:V}(h:sV a=some v):lH v=true:=by cases a<;>first|(cases h;rfl)|cases h
def P0:∀{ds:List D} {vs:List V},bH sV ds=some vs->vs.all lH=true
 |[],_,h=>by cases h;rfl
 |d :: r,_,h=>by
  obtain⟨x,t,h1,h2,rfl⟩:=uY h;rw[List.all_cons,PZ h1,P0 h2];rfl
abbrev cS(st:Store):D->Option (List D)
 |.tup ds=>some ds
 |.ref i=>items st i
 |_=>none
def Hz{ρ:List Addr}{H:Hp}{st:Store}{x:V}{a:D}{ds:List D}(l:Rl K ρ H st)(r:Rp K ρ H x a)(h:cS st a=some ds):∃p vs,x=.ref p/\(jZ K H p vs\/dr K H p vs)/\b9 K ρ H vs ds:=by
 cases r<;>first|(cases h;done)|skip
 ·next hi=>obtain⟨vs,s,r⟩:=l.items hi h;exact⟨_,vs,rfl,.inl s,r⟩
 ·next s r=>cases h;exact⟨_,_,rfl,.inr s,r⟩
abbrev sN(neg:Bool):D->D->Dm D:=λa c st=>match sV a,(cS st c).bind (bH sV)with
 |some x,some vs=>some (.bl (if neg then !wX x vs else wX x vs),st)
 |_,_=>none
def BD(neg:Bool):nW K (CK K neg) (sN neg):=by
 intro ρ H st x y a c b st' Q l rx ry e q;unfold sN at e;split at e
 ·next u vs h1 h2 =>
  cases e;obtain⟨ds,h3,h4⟩:=Zby.mp h2;obtain⟨p,ws,rfl,s,r⟩:=Hz l ry h3;cases BB rx h1;cases PY r h4;exact⟨p,_,rfl,s,PZ h1,P0 h4,q _ H ρ .refl l (.bl _)⟩
 ·cases e
def b9.one'{ρ:List Addr}{H:Hp}{vs:List V}{d:D}(r:b9 K ρ H vs [d]):∃v,vs=[v]/\Rp K ρ H v d:=by cases r with|cons a b=>cases b;exact⟨_,rfl,a⟩
def b9.two'{ρ:List Addr}{H:Hp}{vs:List V}{d e:D}(r:b9 K ρ H vs [d,e]):∃v w,vs=[v,w]/\Rp K ρ H v d/\Rp K ρ H w e:=by
 cases r with
 |cons a b=>obtain⟨w,rfl,r⟩:=b.one';exact⟨_,_,rfl,a,r⟩
abbrev cT:List D->Dm D
 |[a],st=>match cS st a with
  |some ds=>some (.int ds.length,st)
  |none=>none
 |_,_=>none
def nc:rT K (λxs H Q=>∃p ys,xs=[.ref p]/\(jZ K H p ys\/dr K H p ys)/\Q (.int ys.length) H) cT:=by
 intro ρ H st xs as b st' Q l rx e q;unfold cT at e;split at e
 ·split at e
  ·next ds hd =>
   cases e;obtain⟨v,rfl,r⟩:=rx.one';obtain⟨p,vs,rfl,s,r⟩:=Hz l r hd;exact⟨p,vs,rfl,s,q _ H ρ .refl l (by rw[r.length];exact .int _)⟩
  ·cases e
 ·cases e
abbrev oA:List D->Dm D
 |[a],st=>match cS st a with
  |some ds=>some (.ref st.length,st ++ [.lst ds])
  |none=>none
 |_,_=>none
def HA:rT K (λxs H Q=>∃p ys,xs=[.ref p]/\(jZ K H p ys\/dr K H p ys)/\∀l,H l=none->Q (.ref l) (upd H l (.lst ys))) oA:=by
 intro ρ H st xs as b st' Q l rx e q;unfold oA at e;split at e
 ·split at e
  ·next ds hd =>
   cases e;obtain⟨v,rfl,r⟩:=rx.one';obtain⟨p,vs,rfl,s,r⟩:=Hz l r hd;exact⟨p,vs,rfl,s,λp hp=>q _ _ _ (Mn.new hp) (l.newL hp r) (.ref (newR l))⟩
  ·cases e
 ·cases e
abbrev aZ:List D->Dm D
 |[a],st=>match cS st a with
  |some ds=>some (.tup ds,st)
  |none=>none
 |_,_=>none
def ng:rT K (λxs H Q=>∃p ys,xs=[.ref p]/\((jZ K H p ys/\∀l,H l=none->Q (.ref l) (upd H l (.tup ys)))\/(dr K H p ys/\Q (.ref p) H))) aZ:=by
 intro ρ H st xs as b st' Q l rx e q;unfold aZ at e;split at e
 ·split at e
  ·next ds hd =>
   cases e;obtain⟨v,rfl,r⟩:=rx.one';obtain⟨p,vs,rfl,s,r'⟩:=Hz l r hd;refine⟨p,vs,rfl,?_⟩;rcases s with s|s
   ·exact .inl ⟨s,(got l r' q).new⟩
   ·exact .inr ⟨s,(got l r' q).it s⟩
  ·cases e
 ·cases e
abbrev nH:List D->Dm D
 |[.int i,.int j],st=>some (.int (if j > i then j else i),st)
 |_,_=>none
abbrev rZ:List D->Dm D
 |[.int i,.int j],st=>some (.int (if j<i then j else i),st)
 |_,_=>none
def DW:rT K (λxs H Q=>∃i j,xs=[.int i,.int j]/\Q (.int (if j > i then j else i)) H) nH:=by intro ρ H st xs as b st' Q l rx e q;unfold nH at e;split at e;cases e;obtain⟨v,w,rfl,r1,r2⟩:=rx.two';cases r1;cases r2;exact⟨_,_,rfl,q _ H ρ .refl l (.int _)⟩;cases e
def Vw:rT K (λxs H Q=>∃i j,xs=[.int i,.int j]/\Q (.int (if j<i then j else i)) H) rZ:=by intro ρ H st xs as b st' Q l rx e q;unfold rZ at e;split at e;cases e;obtain⟨v,w,rfl,r1,r2⟩:=rx.two';cases r1;cases r2;exact⟨_,_,rfl,q _ H ρ .refl l (.int _)⟩;cases e
abbrev oB:List D->Dm D
 |[.int i],st=>some (.int i,st)
 |[.bl k],st=>some (.int (if k then 1 else 0),st)
 |_,_=>none
def LF:rT K (λxs H Q=>(∃i,xs=[.int i]/\Q (.int i) H)\/∃k,xs=[.bl k]/\Q (.int (if k then 1 else 0)) H) oB:=by intro ρ H st xs as b st' Q l rx e q;unfold oB at e;split at e;cases e;obtain⟨v,rfl,r⟩:=rx.one';cases r;exact .inl ⟨_,rfl,q _ H ρ .refl l (.int _)⟩;cases e;obtain⟨v,rfl,r⟩:=rx.one';cases r;exact .inr ⟨_,rfl,q _ H ρ .refl l (.int _)⟩;cases e
abbrev kR:List D->Dm D
 |[.int j],st=>some (.ref st.length,st ++ [.ki 0 j])
 |_,_=>none
abbrev fO:List D->Dm D
 |[.int i,.int j],st=>some (.ref st.length,st ++ [.ki i j])
 |_,_=>none
def LG:rT K (λxs H Q=>∃j:Int,xs=[.int j]/\∀p,H p=none->Q (.ref p) (upd H p (.ki 0 j))) kR:=by intro ρ H st xs as b st' Q l rx e q;unfold kR at e;split at e;cases e;obtain⟨v,rfl,r⟩:=rx.one';cases r;exact⟨_,rfl,λp hp=>q _ _ _ (Mn.new hp) (l.new hp (show xC K _ _ p (.ki _ _)from rh)) (.ref (newR l))⟩;cases e
def BE:rT K (λxs H Q=>∃i j:Int,xs=[.int i,.int j]/\∀p,H p=none->Q (.ref p) (upd H p (.ki i j))) fO:=by intro ρ H st xs as b st' Q l rx e q;unfold fO at e;split at e;cases e;obtain⟨v,w,rfl,r1,r2⟩:=rx.two';cases r1;cases r2;exact⟨_,_,rfl,λp hp=>q _ _ _ (Mn.new hp) (l.new hp (show xC K _ _ p (.ki _ _)from rh)) (.ref (newR l))⟩;cases e
abbrev aF(lo:Int)(n:Nat):List D:=(List.range n).map λ(k:Nat)=>D.int (lo+k)
def Vx{ρ:List Addr}{H:Hp}(lo:Int)(n:Nat):b9 K ρ H (gH lo n) (aF lo n):=by
 unfold gH aF
 induction (List.range n)with
 |nil=>exact .nil
 |cons a r ih=>exact .cons (.int _) ih
abbrev sO(lo hi:Int):Bool:=decide (-4611686018427387904<=lo/\lo<4611686018427387904/\-4611686018427387904<=hi/\hi<4611686018427387904) && lim (hi-lo).toNat
def P1{lo hi:Int}(h:sO lo hi=true):(-(2 ^ 62)<=lo/\lo<2 ^ 62/\-(2 ^ 62)<=hi/\hi<2 ^ 62)/\(hi-lo).toNat<=2 ^ 24:=by unfold sO at h;rw[ZaB,decide_eq_true_eq]at h;exact⟨by lk,Zap (Zco h.2) ∅⟩
abbrev j4(st:Store):D->Option (Int×Int)
 |.ref i=>match st[i]? with
  |some (.ki lo hi)=>some (lo,hi)
  |_=>none
 |_=>none
def zp{ρ:List Addr}{H:Hp}{st:Store}{x:V}{a:D}{lo hi:Int}(l:Rl K ρ H st)(r:Rp K ρ H x a)(h:j4 st a=some (lo,hi)):∃p,x=.ref p/\H p=some (.ki lo hi):=by
 cases r<;>first|(cases h;done)|skip
 ·next hi' =>
  simp only[j4]at h;split at h
  ·next lo' Vy hs=>cases h;exact⟨_,rfl,l.obj _ _ _ hi' hs⟩
  ·cases h
abbrev fG:List D->Dm D
 |[a],st=>match j4 st a with
  |some (lo,hi)=>if sO lo hi=true then some (.ref st.length,st ++ [.lst (aF lo (hi-lo).toNat)])else none
  |none=>none
 |_,_=>none
def vY:rT K (λxs H Q=>∃p lo hi,xs=[.ref p]/\H p=some (.ki lo hi)/\(-(2 ^ 62)<=lo/\lo<2 ^ 62/\-(2 ^ 62)<=hi/\hi<2 ^ 62)/\(hi-lo).toNat<=2 ^ 24 /\
  ∀l,H l=none->Q (.ref l) (upd H l (.lst (gH lo (hi-lo).toNat)))) fG:=by
 intro ρ H st xs as b st' Q l rx e q;unfold fG at e;split at e
 ·split at e
  ·next lo hi hd =>
   split at e
   ·next ok =>
    cases e;obtain⟨v,rfl,r⟩:=rx.one';obtain⟨p,rfl,s⟩:=zp l r hd;exact⟨p,lo,hi,rfl,s,(P1 ok).1,(P1 ok).2,λp hp=>q _ _ _ (Mn.new hp) (l.newL hp (Vx lo _)) (.ref (newR l))⟩
   ·cases e
  ·cases e
 ·cases e
abbrev vZ:List D->Dm D
 |[a],st=>match j4 st a with
  |some (lo,hi)=>if sO lo hi=true then some (.tup (aF lo (hi-lo).toNat),st)else none
  |none=>none
 |_,_=>none
abbrev iV:D->Option Int
 |.int i=>some i
 |_=>none
def P4{ρ:List Addr}{H:Hp}:∀{ws:List V} {ds:List D} {ns:List Int},b9 K ρ H ws ds->bH iV ds=some ns->ws=ns.map V.int
 |_,_,_,.nil,h=>by cases h;rfl
 |_,_,_,.cons a b,h=>by
  obtain⟨x,t,h1,h2,rfl⟩:=uY h;rw[P4 b h2];cases a<;>first|(cases h1;rfl)|cases h1
abbrev bV:D->Option Bool
 |.bl i=>some i
 |_=>none
def P5{ρ:List Addr}{H:Hp}:∀{ws:List V} {ds:List D} {ns:List Bool},b9 K ρ H ws ds->bH bV ds=some ns->ws=ns.map V.bl
 |_,_,_,.nil,h=>by cases h;rfl
 |_,_,_,.cons a b,h=>by
  obtain⟨x,t,h1,h2,rfl⟩:=uY h;rw[P5 b h2];cases a<;>first|(cases h1;rfl)|cases h1
abbrev sP:List D->Dm D
 |[.ref i],st=>match (items st i).bind (bH bV)with
  |some bs=>some (.bl (bs.all id),st)
  |none=>none
 |_,_=>none
def zq:rT K (λxs H Q=>∃(p:Addr) (bs:List Bool),xs=[.ref p]/\jZ K H p (bs.map V.bl)/\Q (.bl (bs.all id)) H) sP:=by
 intro ρ H st xs as b st' Q l rx e q;unfold sP at e;split at e
 ·split at e
  ·next bs hd =>
   cases e;obtain⟨v,rfl,r⟩:=rx.one';obtain⟨ds,h3,h4⟩:=Zby.mp hd;cases r with
   |ref hi =>
    obtain⟨vs,s,r⟩:=l.items hi h3;cases P5 r h4;exact⟨_,bs,rfl,s,q _ H ρ .refl l (.bl _)⟩
  ·cases e
 ·cases e
abbrev xH(T:String)(st:Store):D->Bool
 |.str _=>T == "str"
 |.tup _=>T == "tuple"
 |.ref i=>T == "list" && (items st i).isSome
 |_=>false
def zt{ρ:List Addr}{H:Hp}{st:Store}{x:V}{a:D}{T:String}(l:Rl K ρ H st)(r:Rp K ρ H x a)(h:xH T st a=true):Kd K T x H:=by
 cases r<;>first|(cases h;done)|skip
 ·exact eq_of_beq h
 ·next hi =>
  simp only[xH,ZaB]at h;obtain⟨ds,hd⟩:=ZbM.mp h.2;obtain⟨vs,s,_⟩:=l.items hi hd;exact .inl ⟨eq_of_beq h.1,vs,s⟩
 ·next s r=>exact .inr (.inl ⟨eq_of_beq h,_,s⟩)
abbrev nX(T:String)(g:D->List D->Dm D)(fo:ao->Dm D)(fa:ao->Dm (List D)):ao->Dm D:=λδ st=>bnd (fo δ st) λo st1=>if xH T st1 o=true then bnd (fa δ st1) λas st2=>g o as st2 else none
def pb{T:String}{r:V->List V->Hp->VK->Prop}{g:D->List D->Dm D}{to:TE}{ta:TA}{fo:ao->Dm D}{fa:ao->Dm (List D)}(hr:DN K T r g)(ho:eh K to fo)(ha:tf K ta fa):eh K (Ke K T r to ta) (nX T g fo fa):=by
 intro ρ σ H δ st b st' Q l rs e q;obtain⟨o,st1,e1,e⟩:=di e;split at e
 ·next ht =>
  obtain⟨as,st2,e2,e⟩:=di e;refine ho ρ σ H δ st o st1 _ l rs e1 λx H1 ρ1 m1 l1 r1=>⟨zt l1 r1 ht,ha ρ1 σ H1 δ st1 as st2 _ l1 (rs.mn m1) e2 λxs H2 ρ2 m2 l2 r2=>?_⟩;exact hr ρ2 H2 st2 x xs o as b st' Q l2 (r1.mn m2) r2 e λv H3 ρ3 m3 l3 r3=>q v H3 ρ3 ((m1.trans m2).trans m3) l3 r3
 ·cases e
abbrev bR:D->List D->Dm D
 |.ref i,[y],st=>match own st i with
  |some xs=>if lim xs.length=true then some (.non,st.set i (.lst (xs ++ [y])))else none
  |none=>none
 |_,_,_=>none
def sQ:DN K "list" rB bR:=by
 intro ρ H st x xs a as b st' Q l rx zu e q;unfold bR at e;split at e
 ·split at e
  ·next ys hy =>
   split at e
   ·next hl =>
    cases e;obtain⟨v,rfl,r⟩:=zu.one';cases rx with
    |ref hi =>
     obtain⟨vs,e1,r1⟩:=l.obj _ _ _ hi (rY hy);obtain⟨l2,m2⟩:=l.putL hi (rY hy) (r1.append (.one r));exact⟨_,vs,v,rfl,rfl,e1,by rw[r1.length];exact Hv hl,q _ _ ρ m2 l2 .non⟩
   ·cases e
  ·cases e
 ·cases e
abbrev kS:D->List D->Dm D
 |.ref i,[.ref j],st=>match own st i,own st j with
  |some xs,some ys=>if lim (xs.length+ys.length)=true then some (.non,st.set i (.lst (xs ++ ys)))else none
  |_,_=>none
 |_,_,_=>none
def Vz:DN K "list" rC kS:=by
 intro ρ H st x xs a as b st' Q l rx zu e q;unfold kS at e;split at e
 ·split at e
  ·next xs' ys hx hy =>
   split at e
   ·next hl =>
    cases e;obtain⟨v,rfl,r⟩:=zu.one';cases rx with
    |ref hi =>
     cases r with
     |ref hj =>
      obtain⟨vs,e1,r1⟩:=l.obj _ _ _ hi (rY hx);obtain⟨ws,e2,r2⟩:=l.obj _ _ _ hj (rY hy);obtain⟨l2,m2⟩:=l.putL hi (rY hx) (r1.append r2);exact⟨_,_,vs,ws,rfl,rfl,e1,e2,by rw[r1.length,r2.length];exact Bx hl,q _ _ ρ m2 l2 .non⟩
   ·cases e
  ·cases e
 ·cases e
abbrev nh:D->List D->Dm D
 |.ref i,[.int k],st=>match own st i with
  | some xs=>if decide (-9223372036854775808<=k/\k < 9223372036854775808)=true then match seqIndex? k xs.length with
    |some j=>match xs[j]? with
     |some y=>some (y,st.set i (.lst (xs.eraseIdx j)))
     |none=>none
    |none=>none
   else none
  |none=>none
 |_,_,_=>none
def VA:DN K "list" tT nh:=by
 intro ρ H st x xs a as b st' Q l rx zu e q;unfold nh at e;split at e
 ·split at e
  ·next ys hy =>
   split at e
   ·next hk =>
    split at e
    ·next j hj =>
     split at e
     ·next y hy' =>
      cases e;obtain⟨v,rfl,r⟩:=zu.one';cases r;cases rx with
      |ref hi =>
       obtain⟨vs,e1,r1⟩:=l.obj _ _ _ hi (rY hy);obtain⟨w,hw,rw'⟩:=r1.got hy';obtain⟨l2,m2⟩:=l.putL hi (rY hy) (r1.erase j);have hk:=of_decide_eq_true hk;exact⟨_,vs,_,j,w,rfl,rfl,e1,by lk,by lk,by rw[r1.length];exact hj,hw,q _ _ ρ m2 l2 (rw'.mn m2)⟩
     ·cases e
    ·cases e
   ·cases e
  ·cases e
 ·cases e
abbrev gK:D->List D->Dm D
 |.tup ds,[.int v],st=>match bH iV ds with
  |some ns=>match ns.findIdx? (λi=>decide (i=v))with
   |some j=>some (.int (j:Int),st)
   |none=>none
  |none=>none
 |_,_,_=>none
def DX:DN K "tuple" (qK K) gK:=by
 intro ρ H st x xs a as b st' Q l rx zu e q;unfold gK at e;split at e
 ·split at e
  ·next ns hn =>
   split at e
   ·next j hj =>
    cases e;obtain⟨v,rfl,r⟩:=zu.one';cases r;cases rx with
    |tup s r =>
     cases P4 r hn;obtain⟨h1,h2,h3⟩:=List.findIdx?_eq_some_iff_getElem.mp hj;refine⟨_,ns,_,j,rfl,rfl,s,?_,λi hi z=>?_,q _ H ρ .refl l (.int _)⟩
     ·rw[Z8 h1];exact congrArg some (of_decide_eq_true h2)
     ·have:=h3 i hi
      obtain⟨hl,ez⟩:=Z9.mp z;rw[ez]at this;simp at this
   ·cases e
  ·cases e
 ·cases e
abbrev DY(st:Store):D->Option String
 |.non=>some "NoneType"
 |.bl _=>some "bool"
 |.int _=>some "int"
 |.str _=>some "str"
 |.tup _=>some "tuple"
 |.ref i=>match st[i]? with
  |some (.lst _)=>some "list"
  |some (.dct _)=>some "dict"
  |_=>none
 |.ty _=>none
abbrev pJ:List D->Dm D
 |[a,.ty c],st=>match DY st a with
  |some T=>if T=c then some (.bl true,st)else none
  |none=>none
 |_,_=>none
end
section
variable {K:Zfr}
def HB:nW K CN qR:=by
 intro ρ H st x y a c b st' Q l rx ry e q;unfold qR at e;split at e
 ·split at e
  ·next ds hd =>
   split at e
   ·next ok =>
    cases e;rw[ZaB,decide_eq_true_eq]at ok;cases ry;cases rx with
    |ref hi =>
     obtain⟨vs,e1,r1⟩:=l.obj _ _ _ hi (rY hd);exact⟨_,_,vs,rfl,rfl,e1,by lk,by lk,by rw[r1.length];exact Bx ok.2,λp hp=>q _ _ _ (Mn.new hp) (l.newL hp (r1.flat _)) (.ref (newR l))⟩
   ·cases e
  ·cases e
 ·cases e
def Rs.set{ρ:List Addr}{H:Hp}{σ:St}{δ:ao}{v:V}{d:D}{i:Nat}(h:Rs K ρ H σ δ)(r:Rp K ρ H v d):Rs K ρ H (σ.set i (some v)) (δ.set i (some d)):=by
 refine⟨by rw[Zbe,Zbe];exact h.1,λj e hj=>?_⟩;by_cases hij:i=j;subst hij;have hl:i<δ.length:=by
  have:=(Z9.mp hj).1
  rwa [Zbe]at this
 rw[Zal hl]at hj;cases hj;exact⟨v,by rw[Zal (by rw[h.1];exact hl)],r⟩;rw[ZaA hij]at hj;obtain⟨w,hw,rw'⟩:=h.2 j e hj;exact⟨w,by rw[ZaA hij];exact hw,rw'⟩
abbrev zv(K:Zfr)(g:TG)(f:D->ao->Dm ao):Prop :=
 ∀(ρ:List Addr) (σ:St) (H:Hp) (δ:ao) (st:Store) (v:V) (d:D) (δ':ao) (st':Store) (Q:St->Hp->Prop),Rl K ρ H st->Rs K ρ H σ δ->Rp K ρ H v d->f d δ st=some (δ',st') ->
  (∀σ' H' ρ',Mn K ρ H ρ' H'->Rl K ρ' H' st'->Rs K ρ' H' σ' δ'->Q σ' H')->g v σ H Q
abbrev v9(K:Zfr)(g:uR)(f:List D->ao->Dm ao):Prop :=
 ∀(ρ:List Addr) (σ:St) (H:Hp) (δ:ao) (st:Store) (v:List V) (d:List D) (δ':ao) (st':Store) (Q:St->Hp->Prop),Rl K ρ H st->Rs K ρ H σ δ->b9 K ρ H v d->f d δ st=some (δ',st') ->
  (∀σ' H' ρ',Mn K ρ H ρ' H'->Rl K ρ' H' st'->Rs K ρ' H' σ' δ'->Q σ' H')->g v σ H Q
abbrev hName(i:Nat):D->ao->Dm ao:=λd δ st=>some (δ.set i (some d),st)
def aS(i:Nat):zv K (qe i) (hName i):=by intro ρ σ H δ st v d δ' st' Q l rs r e q;cases e;exact q _ H ρ .refl l (rs.set r)
abbrev oC:List D->ao->Dm ao
 |[],δ,st=>some (δ,st)
 |_,_,_=>none
abbrev cU(f:D->ao->Dm ao)(g:List D->ao->Dm ao):List D->ao->Dm ao
 |d :: ds,δ,st=>bnd (f d δ st) λδ1 st1=>g ds δ1 st1
 |_,_,_=>none
def wa:v9 K Ck oC:=by
 intro ρ σ H δ st v d δ' st' Q l rs r e q;cases r with
 |nil=>cases e;exact⟨rfl,q _ H ρ .refl l rs⟩
 |cons a b=>cases e
def pK{t:TG}{u:uR}{f:D->ao->Dm ao}{g:List D->ao->Dm ao}(hf:zv K t f)(hg:v9 K u g):v9 K (wL t u) (cU f g):=by
 intro ρ σ H δ st v d δ' st' Q l rs r e q;cases r with
 |nil=>cases e
 |cons a b =>
  obtain⟨δ1,st1,e1,e⟩:=di e;exact⟨_,_,rfl,hf ρ σ H δ st _ _ δ1 st1 _ l rs a e1 λσ1 H1 ρ1 m1 l1 r1=>hg ρ1 σ1 H1 δ1 st1 _ _ δ' st' Q l1 r1 (b.mn m1) e λσ2 H2 ρ2 m2 l2 r2=>q σ2 H2 ρ2 (m1.trans m2) l2 r2⟩
abbrev nQ(n:Nat)(f:List D->ao->Dm ao):D->ao->Dm ao
 |.tup ds,δ,st=>if ds.length=n then f ds δ st else none
 |_,_,_=>none
def wb{n:Nat}{t:uR}{f:List D->ao->Dm ao}(hf:v9 K t f):zv K (Cm K n t) (nQ n f):=by
 intro ρ σ H δ st v d δ' st' Q l rs r e q;cases r<;>first|(cases e;done)|skip
 ·next s r =>
  simp only[nQ]at e;split at e
  ·next hl=>exact⟨_,_,rfl,s,by rw[r.length];exact hl,hf ρ σ H δ st _ _ δ' st' Q l rs r e q⟩
  ·cases e
abbrev hSub(fo fi:ao->Dm D):D->ao->Dm ao:=λd δ st=>bnd (fo δ st) λo st1=>bnd (fi δ st1) λi st2=>match o,i with
 |.ref r,.int k=>match own st2 r with
  |some xs=>match mP xs.length k with
   |some j=>some (δ,st2.set r (.lst (xs.set j d)))
   |none=>none
  |none=>none
 |_,_=>none
def BF{to ti:TE}{fo fi:ao->Dm D}(ho:eh K to fo)(hi:eh K ti fi):zv K (L2.jh to ti wV) (hSub fo fi):=by
 intro ρ σ H δ st v d δ' st' Q l rs r e q;obtain⟨o,st1,e1,e⟩:=di e;obtain⟨i,st2,e2,e⟩:=di e;refine ho ρ σ H δ st o st1 _ l rs e1 λx H1 ρ1 m1 l1 r1=>hi ρ1 σ H1 δ st1 i st2 _ l1 (rs.mn m1) e2 λy H2 ρ2 m2 l2 r2=>?_;split at e
 ·split at e
  ·next xs hx =>
   split at e
   ·next j hj =>
    cases e;cases r2;cases r1 with
    |ref hr =>
     have hr2:=m2.r _ _ hr;obtain⟨vs,e3,r3⟩:=l2.obj _ _ _ hr2 (rY hx);obtain⟨l3,m3⟩:=l2.putL hr2 (rY hx) (r3.set (r.mn (m1.trans m2)) j);exact⟨_,vs,_,j,rfl,rfl,e3,by rw[r3.length];exact hj,q σ _ ρ2 ((m1.trans m2).trans m3) l3 (rs.mn ((m1.trans m2).trans m3))⟩
   ·cases e
  ·cases e
 ·cases e
abbrev Go(K:Zfr)(ρ:List Addr)(H:Hp)(st':Store)(E:Ends):Fl->Prop
 |.nx δ=>∀σ' H' ρ',Mn K ρ H ρ' H'->Rl K ρ' H' st'->Rs K ρ' H' σ' δ->E.nx σ' H'
 |.bk δ=>∀σ' H' ρ',Mn K ρ H ρ' H'->Rl K ρ' H' st'->Rs K ρ' H' σ' δ->E.bk σ' H'
 |.ct δ=>∀σ' H' ρ',Mn K ρ H ρ' H'->Rl K ρ' H' st'->Rs K ρ' H' σ' δ->E.ct σ' H'
 |.rt d=>∀v H' ρ',Mn K ρ H ρ' H'->Rl K ρ' H' st'->Rp K ρ' H' v d->E.rt v H'
def Go.mn{ρ ρ1:List Addr}{H H1:Hp}{st':Store}{E:Ends}{fl:Fl}(g:Go K ρ H st' E fl)(m:Mn K ρ H ρ1 H1):Go K ρ1 H1 st' E fl:=by cases fl<;>exactλv H' ρ' m' l r=>g v H' ρ' (m.trans m') l r
abbrev pd(K:Zfr)(t:TS)(f:ao->Dm Fl):Prop :=
 ∀(ρ:List Addr) (σ:St) (H:Hp) (δ:ao) (st:Store) (fl:Fl) (st':Store) (E:Ends),Rl K ρ H st->Rs K ρ H σ δ->f δ st=some (fl,st')->Go K ρ H st' E fl->t E σ H
abbrev bI:ao->Dm Fl:=λδ st=>some (.nx δ,st)
abbrev qS:ao->Dm Fl:=λδ st=>some (.bk δ,st)
def mh:pd K wJ bI:=by intro ρ σ H δ st fl st' E l rs e g;cases e;exact g σ H ρ .refl l rs
def VB:pd K tJ qS:=by intro ρ σ H δ st fl st' E l rs e g;cases e;exact g σ H ρ .refl l rs
abbrev aB(f g:ao->Dm Fl):ao->Dm Fl:=λδ st=>bnd (f δ st) λfl st1=>match fl with
 |.nx δ1=>g δ1 st1
 |x=>some (x,st1)
def a5{t u:TS}{f g:ao->Dm Fl}(hf:pd K t f)(hg:pd K u g):pd K (Ce t u) (aB f g):=by
 intro ρ σ H δ st fl st' E l rs e q;obtain⟨x,st1,e1,e⟩:=di e;refine hf ρ σ H δ st x st1 _ l rs e1 ?_;cases x with
 |nx δ1=>exactλσ1 H1 ρ1 m1 l1 r1=>hg ρ1 σ1 H1 δ1 st1 fl st' E l1 r1 e (q.mn m1)
 |bk δ1=>cases e;exact q
 |ct δ1=>cases e;exact q
 |rt d=>cases e;exact q
def lK{c:TT}{t u:TS}{fc:ao->Dm Bool}{f g:ao->Dm Fl}(hc:rS K c fc)(hf:pd K t f)(hg:pd K u g):pd K (Cg c t u) (kf fc f g):=by
 intro ρ σ H δ st fl st' E l rs e q;obtain⟨a,st1,e1,e⟩:=di e;refine hc ρ σ H δ st _ _ _ l rs e1 λx H1 ρ1 m1 l1 r1=>?_;subst r1;cases x with
 |true =>
  refine sF ?_;rw[if_pos rfl]at e;exact hf ρ1 σ H1 δ st1 fl st' E l1 (rs.mn m1) e (q.mn m1)
 |false =>
  refine sE ?_;rw[if_neg Zaj]at e;exact hg ρ1 σ H1 δ st1 fl st' E l1 (rs.mn m1) e (q.mn m1)
abbrev d3(f:ao->Dm D):ao->Dm Fl:=λδ st=>bnd (f δ st) λ_ st1=>some (.nx δ,st1)
def r6{t:TE}{f:ao->Dm D}(hf:eh K t f):pd K (wK t) (d3 f):=by intro ρ σ H δ st fl st' E l rs e q;obtain⟨a,st1,e1,e⟩:=di e;cases e;exact hf ρ σ H δ st a _ _ l rs e1 λx H1 ρ1 m1 l1 r1=>q σ H1 ρ1 m1 l1 (rs.mn m1)
abbrev aV(f:ao->Dm D):ao->Dm Fl:=λδ st=>bnd (f δ st) λd st1=>some (.rt d,st1)
def cV{t:TE}{f:ao->Dm D}(hf:eh K t f):pd K (Cf t) (aV f):=by intro ρ σ H δ st fl st' E l rs e q;obtain⟨a,st1,e1,e⟩:=di e;cases e;exact hf ρ σ H δ st a _ _ l rs e1 λx H1 ρ1 m1 l1 r1=>q x H1 ρ1 m1 l1 r1
abbrev aI(f:ao->Dm D)(h:D->ao->Dm ao):ao->Dm Fl:=λδ st=>bnd (f δ st) λd st1=>bnd (h d δ st1) λδ1 st2=>some (.nx δ1,st2)
def bG{t:TE}{g:TG}{f:ao->Dm D}{h:D->ao->Dm ao}(hf:eh K t f)(hh:zv K g h):pd K (vk t g) (aI f h):=by intro ρ σ H δ st fl st' E l rs e q;obtain⟨a,st1,e1,e⟩:=di e;obtain⟨δ1,st2,e2,e⟩:=di e;cases e;exact hf ρ σ H δ st a st1 _ l rs e1 λx H1 ρ1 m1 l1 r1=>hh ρ1 σ H1 δ st1 x a δ1 _ _ l1 (rs.mn m1) r1 e2 λσ2 H2 ρ2 m2 l2 r2=>q σ2 H2 ρ2 (m1.trans m2) l2 r2
abbrev oT(i j:Nat)(fa:ao->Dm (List D)):ao->Dm Fl:=λδ st=>bnd (fa δ st) λas st1=>match as with
 |[a,b]=>some (.nx ((δ.set i (some a)).set j (some b)),st1)
 |_=>none
def BG{i j:Nat}{t:TA}{fa:ao->Dm (List D)}(ha:tf K t fa):pd K (Cn i j t) (oT i j fa):=by intro ρ σ H δ st fl st' E l rs e q;obtain⟨as,st1,e1,e⟩:=di e;split at e;cases e;refine ha ρ σ H δ st _ _ _ l rs e1 λx H1 ρ1 m1 l1 r1=>?_;obtain⟨v,w,rfl,r,r'⟩:=r1.two';exact⟨v,w,rfl,q _ H1 ρ1 m1 l1 (((rs.mn m1).set r).set r')⟩;cases e
abbrev gL(c:ao->Dm Bool)(b:ao->Dm Fl):Nat->ao->Dm Fl
 |0,_,_=>none
 | n + 1,δ,st=>bnd (c δ st) λt st1=>if t=true then bnd (b δ st1) λfl st2=>match fl with
   |.nx δ2=>gL c b n δ2 st2
   |.ct δ2=>gL c b n δ2 st2
   |.bk δ2=>some (.nx δ2,st2)
   |.rt d=>some (.rt d,st2)
  else some (.nx δ,st1)
abbrev fuel:Nat:=1000000
abbrev d5(c:ao->Dm Bool)(b:ao->Dm Fl):ao->Dm Fl:=gL c b fuel
def ux{tc:TT}{tb:TS}{c:ao->Dm Bool}{b:ao->Dm Fl}(hc:rS K tc c)(hb:pd K tb b):pd K (tL tc tb) (d5 c b):=by
 intro ρ σ H δ st fl st' E l rs e q;refine⟨λm σ1 H1=>∃ρ1 δ1 st1,Mn K ρ H ρ1 H1/\Rl K ρ1 H1 st1/\Rs K ρ1 H1 σ1 δ1/\gL c b m δ1 st1=some (fl,st'),⟨fuel,ρ,δ,st,.refl,l,rs,e⟩,?_⟩;rintro m σ1 H1 ⟨ρ1,δ1,st1,m1,l1,xI,e1⟩;cases m with
 |zero=>cases e1
 |succ m =>
  obtain⟨t,st2,e2,e1⟩:=di e1;refine hc ρ1 σ1 H1 δ1 st1 _ _ _ l1 xI e2 λx H2 ρ2 m2 l2 r2=>?_;subst r2;cases x with
  |true =>
   refine sF ?_;rw[if_pos rfl]at e1;obtain⟨f2,st3,e3,e1⟩:=di e1;refine⟨λσ3 H3=>∃m',m' < m+1/\∃ρ1 δ1 st1,Mn K ρ H ρ1 H3/\Rl K ρ1 H3 st1/\Rs K ρ1 H3 σ3 δ1/\gL c b m' δ1 st1=some (fl,st'),λ_ _ h=>h,hb ρ2 σ1 H2 δ1 st2 f2 st3 _ l2 (xI.mn m2) e3 ?_⟩;cases f2 with
   |nx δ3=>exactλσ3 H3 ρ3 m3 l3 r3=>⟨m,ZbB m,ρ3,δ3,st3,(m1.trans m2).trans m3,l3,r3,e1⟩
   |ct δ3=>exactλσ3 H3 ρ3 m3 l3 r3=>⟨m,ZbB m,ρ3,δ3,st3,(m1.trans m2).trans m3,l3,r3,e1⟩
   |bk δ3=>cases e1;exact q.mn (m1.trans m2)
   |rt d=>cases e1;exact q.mn (m1.trans m2)
  |false =>
   refine sE ?_;rw[if_neg Zaj]at e1;cases e1;exact q.mn (m1.trans m2) σ1 H2 ρ2 .refl l2 (xI.mn m2)
inductive Src where
 |fix (ds:List D)|live (i:Nat)|VC (i:Nat)|zl (i:Nat) (es:List D)|zr (ds:List D) (i:Nat)
abbrev Src.at:Src->Nat->Store->Option (Option D)
 |.fix ds,i,_=>if i<=ds.length then some ds[i]? else none
 |.live r,i,st=>(items st r).map λds=>ds[i]?
 |.VC r,i,st=>(items st r).bind λds=>if i<=ds.length then some (ds.mapIdx λi d=>D.tup [.int (i:Int),d])[i]? else none
 |.zl r es,i,st=>(items st r).bind λds=>if i<=(List.zipWith (λa b=>D.tup [a,b]) ds es).length then some (List.zipWith (λa b=>D.tup [a,b]) ds es)[i]? else none
 |.zr ds r,i,st=>(items st r).bind λes=>if i<=(List.zipWith (λa b=>D.tup [a,b]) ds es).length then some (List.zipWith (λa b=>D.tup [a,b]) ds es)[i]? else none
def xJ{ds:List D}{i:Nat}{st:Store}{o:Option D}(h:Src.at (.fix ds) i st=some o):i<=ds.length/\ds[i]?=o:=by
 simp only[Src.at]at h;split at h
 ·next hl=>exact⟨hl,Zam h⟩
 ·cases h
abbrev DZ(K:Zfr)(ρ:List Addr)(H:Hp)(J:It)(S:Src):Prop :=
 ∀(ρ2:List Addr) (H2:Hp) (st2:Store) (i:Nat),Mn K ρ H ρ2 H2->Rl K ρ2 H2 st2 ->
  (S.at i st2=some none->J.stop i H2)/\∀d,S.at i st2=some (some d)->J.go i H2/\∀x H3,J.vm i H2 x H3->Mn K ρ2 H2 ρ2 H3/\Rl K ρ2 H3 st2/\Rp K ρ2 H3 x d
@[reducible]def zw(K:Zfr)(t:TI)(f:ao->Dm Src):Prop:=So K (DZ K) t f
abbrev iM(S:Src)(g:D->ao->Dm ao)(b:ao->Dm Fl):Nat->Nat->ao->Dm Fl
 |0,_,_,_=>none
 |n+1,i,δ,st=>match S.at i st with
  |none=>none
  |some none=>some (.nx δ,st)
  |some (some d)=>bnd (g d δ st) λδ1 st1=>bnd (b δ1 st1) λfl st2=>match fl with
   |.nx δ2=>iM S g b n (i+1) δ2 st2
   |.ct δ2=>iM S g b n (i+1) δ2 st2
   |.bk δ2=>some (.nx δ2,st2)
   |.rt d=>some (.rt d,st2)
abbrev ff(fi:ao->Dm Src)(g:D->ao->Dm ao)(b:ao->Dm Fl):ao->Dm Fl:=λδ st=>bnd (fi δ st) λS st1=>iM S g b fuel 0 δ st1
def oU{wi:TI}{tg:TG}{tb:TS}{fi:ao->Dm Src}{g:D->ao->Dm ao}{b:ao->Dm Fl}(hi:zw K wi fi)(hg:zv K tg g)(hb:pd K tb b):pd K (Cp wi tg tb) (ff fi g b):=by
 intro ρ σ H δ st fl st' E l rs e q;obtain⟨S,nt,e0,e⟩:=di e;refine hi ρ σ H δ st S nt _ l rs e0 λJ H0 ρ0 m0 l0 ok=>?_;refine⟨λi m σ1 H1=>∃ρ1 δ1 st1,Mn K ρ0 H0 ρ1 H1/\Rl K ρ1 H1 st1/\Rs K ρ1 H1 σ1 δ1/\iM S g b m i δ1 st1=some (fl,st'),⟨fuel,ρ0,δ,nt,.refl,l0,rs.mn m0,e⟩,?_⟩;rintro i m σ1 H1 ⟨ρ1,δ1,st1,m1,l1,xI,e1⟩;cases m with
 |zero=>cases e1
 |succ m =>
  obtain⟨hstop,hgo⟩:=ok ρ1 H1 st1 i m1 l1;unfold iM at e1;split at e1
  ·cases e1
  ·next hs=>cases e1;exact .inl ⟨hstop hs,q.mn (m0.trans m1) σ1 H1 ρ1 .refl l1 xI⟩
  ·next d hs =>
   obtain⟨δ2,st2,e2,e1⟩:=di e1;obtain⟨f3,st3,e3,e1⟩:=di e1;obtain⟨go,vm⟩:=hgo d hs;refine .inr ⟨go,λσ3 H3=>∃m',m' < m+1/\∃ρ1 δ1 st1,Mn K ρ0 H0 ρ1 H3/\Rl K ρ1 H3 st1/\Rs K ρ1 H3 σ3 δ1/\iM S g b m' (i+1) δ1 st1=some (fl,st'),λ_ _ h=>h,λx H2 hy=>?_⟩;obtain⟨m2,l2,r2⟩:=vm x H2 hy;refine hg ρ1 σ1 H2 δ1 st1 x d δ2 st2 _ l2 (xI.mn m2) r2 e2 λσ4 H4 ρ4 m4 l4 r4=>hb ρ4 σ4 H4 δ2 st2 f3 st3 _ l4 r4 e3 ?_;have m5:=((m1.trans m2).trans m4);cases f3 with
   |nx δ3=>exactλσ5 H5 ρ5 m6 l5 r5=>⟨m,ZbB m,ρ5,δ3,st3,m5.trans m6,l5,r5,e1⟩
   |ct δ3=>exactλσ5 H5 ρ5 m6 l5 r5=>⟨m,ZbB m,ρ5,δ3,st3,m5.trans m6,l5,r5,e1⟩
   |bk δ3=>cases e1;exact q.mn (m0.trans m5)
   |rt d=>cases e1;exact q.mn (m0.trans m5)
abbrev bY(fa:ao->Dm D):ao->Dm Src:=λδ st=>bnd (fa δ st) λa st1=>match a with
 |.tup ds=>some (.fix ds,st1)
 |_=>none
def oV{t:TE}{fa:ao->Dm D}(ha:eh K t fa):zw K (Co K t) (bY fa):=by
 intro ρ σ H δ st S st' Q l rs e q;obtain⟨a,st1,e1,e⟩:=di e;cases a<;>simp at e;obtain⟨rfl,rfl⟩:=e;refine ha ρ σ H δ st _ _ _ l rs e1 λx H1 ρ1 m1 l1 r1=>?_;cases r1 with
 |tup s r =>
  refine⟨_,rfl,⟨_,s⟩,q _ H1 ρ1 m1 l1 λρ2 H2 st2 i m2 l2=>⟨λh=>?_,λd h=>?_⟩⟩;exact⟨_,m2.t _ _ s,by rw[r.length];exact ZaK.mp (xJ h).2⟩;obtain⟨v,hv,rv⟩:=r.got (xJ h).2;refine⟨⟨_,v,m2.t _ _ s,hv⟩,λx H3 y=>?_⟩;obtain⟨rfl,hx⟩:=y;have:=hx _ (m2.t _ _ s);rw[hv]at this;cases this;exact⟨.refl,l2,rv.mn m2⟩
abbrev ko(fa:ao->Dm D):ao->Dm Src:=λδ st=>bnd (fa δ st) λa st1=>match a with
 |.ref i=>match items st1 i with
  |some _=>some (.live i,st1)
  |none=>none
 |_=>none
def HC{t:TE}{fa:ao->Dm D}(ha:eh K t fa):zw K (wM K t) (ko fa):=by
 intro ρ σ H δ st S st' Q l rs e q;obtain⟨a,st1,e1,e⟩:=di e;split at e
 ·next k =>
  split at e
  ·next ds hd =>
   cases e;refine ha ρ σ H δ st _ _ _ l rs e1 λx H1 ρ1 m1 l1 r1=>?_;cases r1 with
   |ref hi =>
    obtain⟨vs,s,r⟩:=l1.items hi hd;refine⟨_,rfl,⟨_,s⟩,q _ H1 ρ1 m1 l1 λρ2 H2 st2 i m2 l2=>⟨λh=>?_,λd h=>?_⟩⟩
    ·obtain⟨VD,hd2,h⟩:=Zaz.mp h
     obtain⟨P6,s2,r2⟩:=l2.items (m2.r _ _ hi) hd2;exact⟨P6,s2,by rw[r2.length];exact ZaK.mp h⟩
    ·obtain⟨VD,hd2,h⟩:=Zaz.mp h
     obtain⟨P6,s2,r2⟩:=l2.items (m2.r _ _ hi) hd2;obtain⟨v,hv,rv⟩:=r2.got h;refine⟨⟨_,v,s2,hv⟩,λx H3 y=>?_⟩;obtain⟨rfl,hx⟩:=y;have:=hx _ s2;rw[hv]at this;cases this;exact⟨.refl,l2,rv⟩
  ·cases e
 ·cases e
abbrev bZ(fa:ao->Dm (List D)):ao->Dm Src:=λδ st=>bnd (fa δ st) λas st1=>match as with
 |[.int j]=>if decide (-4611686018427387904<=j/\j<4611686018427387904)=true then some (.fix (aF 0 j.toNat),st1)else none
 |_=>none
abbrev uy(fa:ao->Dm (List D)):ao->Dm Src:=λδ st=>bnd (fa δ st) λas st1=>match as with
 |[.int i,.int j]=>if decide ((-4611686018427387904<=i/\i<4611686018427387904)/\-4611686018427387904<=j/\j<4611686018427387904)=true then some (.fix (aF i (j-i).toNat),st1)else none
 |_=>none
def ka(lo:Int)(n:Nat):(aF lo n).length=n:=by simp[aF]
def D0{lo:Int}{n k:Nat}(h:k<n):(aF lo n)[k]?=some (.int (lo+k)):=by simp[aF,h]
def zx{ρ:List Addr}{H:Hp}(lo:Int)(n:Nat):DZ K ρ H (GN lo n) (.fix (aF lo n)):=by
 intro ρ2 H2 st2 i m2 l2;refine⟨λh=>?_,λd h=>?_⟩
 have:=ZaK.mp (xJ h).2
 rw[ka]at this;exact this;have h:=(xJ h).2;have hl:=(Z9.mp h).1;rw[ka]at hl;rw[D0 hl]at h;cases h;refine⟨hl,λx H3 y=>?_⟩;obtain⟨rfl,rfl⟩:=y;exact⟨.refl,l2,.int _⟩
def qT{t:TA}{fa:ao->Dm (List D)}(ha:tf K t fa):zw K (wN t) (bZ fa):=by
 intro ρ σ H δ st S st' Q l rs e q;obtain⟨as,st1,e1,e⟩:=di e;split at e
 ·split at e
  ·next ok =>
   cases e;have ok:=of_decide_eq_true ok;refine ha ρ σ H δ st _ _ _ l rs e1 λx H1 ρ1 m1 l1 r1=>?_;obtain⟨v,rfl,r⟩:=r1.one';cases r;exact⟨_,rfl,by lk,by lk,q _ H1 ρ1 m1 l1 (zx 0 _)⟩
  ·cases e
 ·cases e
abbrev nI(ds:List D):List D:=ds.mapIdx λi d=>.tup [.int (i:Int),d]
def D1(ds:List D):(nI ds).length=ds.length:=by simp[nI]
def LH{ds:List D}{i:Nat}{x:D}(h:(nI ds)[i]?=some x):∃d,ds[i]?=some d/\x=.tup [.int (i:Int),d]:=by unfold nI at h;rw[List.getElem?_mapIdx]at h;obtain⟨d,h1,h2⟩:=Zaz.mp h;exact⟨d,h1,h2.symm⟩
abbrev oD(fa:ao->Dm (List D)):ao->Dm Src:=λδ st=>bnd (fa δ st) λas st1=>match as with
 |[.tup ds]=>some (.fix (nI ds),st1)
 |_=>none
def P7{t:TA}{fa:ao->Dm (List D)}(ha:tf K t fa):zw K (xg K t) (oD fa):=by
 intro ρ σ H δ st S st' Q l rs e q;obtain⟨as,st1,e1,e⟩:=di e;split at e;cases e;refine ha ρ σ H δ st _ _ _ l rs e1 λx H1 ρ1 m1 l1 r1=>?_;obtain⟨v,rfl,r⟩:=r1.one';cases r with
 |tup s r =>
  refine⟨_,rfl,⟨_,s⟩,q _ H1 ρ1 m1 l1 λρ2 H2 st2 i m2 l2=>⟨λh=>?_,λd h=>?_⟩⟩;obtain⟨h1,h2⟩:=xJ h;have h2:=ZaK.mp h2;rw[D1]at h1 h2;exact⟨_,m2.t _ _ s,by rw[r.length];lk⟩;obtain⟨h1,h2⟩:=xJ h;obtain⟨d',hd',rfl⟩:=LH h2;obtain⟨v,hv,rv⟩:=r.got hd';refine⟨⟨_,v,m2.t _ _ s,hv⟩,λx H3 y=>?_⟩;obtain⟨p,z,rfl,hp,rfl,hx⟩:=y;have:=hx _ (m2.t _ _ s);rw[hv]at this;cases this;have m3:Mn K ρ2 H2 ρ2 (upd H2 p (.tup [.int (i:Int),v])):=Mn.same (j8.up hp);exact⟨m3,l2.same (j8.up hp),.tup (dr.of rh) (.cons (.int _) (.one ((rv.mn m2).mn m3)))⟩
 cases e
abbrev jo(S:Src)(g:D->ao->Dm ao)(tc:ao->Dm Bool)(te:ao->Dm D):Nat->Nat->List D->ao->Dm (List D)
 |0,_,_,_,_=>none
 |n+1,i,ys,δ,st=>if lim ys.length=true then match S.at i st with
  |none=>none
  |some none=>some (ys,st)
  |some (some d)=>bnd (g d δ st) λδ1 st1=>bnd (tc δ1 st1) λt st2=>if t=true then bnd (te δ1 st2) λy st3=>jo S g tc te n (i+1) (ys ++ [y]) δ1 st3 else jo S g tc te n (i+1) ys δ1 st2
  else none
abbrev ql(n:Nat)(js:List Nat)(δ:ao):ao:=List.replicate n none ++ js.map λj=>δ.getD j none
abbrev bJ(fi:ao->Dm Src)(n:Nat)(js:List Nat)(g:D->ao->Dm ao)(tc:ao->Dm Bool)(te:ao->Dm D):ao->Dm D:=λδ st=>bnd (fi δ st) λS st1=>bnd (jo S g tc te fuel 0 [] (ql n js δ) st1) λys st2=>some (.ref st2.length,st2 ++ [.lst ys])
def Rs.comp{ρ:List Addr}{H:Hp}{σ:St}{δ:ao}(h:Rs K ρ H σ δ)(n:Nat)(js:List Nat):Rs K ρ H (km n js σ) (ql n js δ):=by
 unfold km ql;refine⟨by simp,λi d hd=>?_⟩;by_cases hi:i<n;rw[Zan (by simpa using hi),ZbO,if_pos hi]at hd;cases hd;rw[ZaE (by simpa using ZbY hi),Zae]at hd;rw[ZaE (by simpa using ZbY hi),Zae];simp only[ZbV]at hd ⊢;cases hj:js[i-n]? with
 |none=>rw[hj]at hd;cases hd
 |some j =>
  rw[hj]at hd;have hd:δ.getD j none=some d:=Zam hd;rw[Zad]at hd;have hd':δ[j]?=some (some d):=by
   cases hx:δ[j]? with
   |none=>rw[hx]at hd;cases hd
   |some y=>rw[hx]at hd;exact congrArg some hd
  obtain⟨v,hv,r⟩:=h.2 j d hd';exact⟨v,by show some (σ.getD j none)=_;rw[Zad,hv];rfl,r⟩
def oO{wi:TI}{tg:TG}{tc:TT}{te:TE}{fi:ao->Dm Src}{n:Nat}{js:List Nat}{g:D->ao->Dm ao}{c:ao->Dm Bool}{f:ao->Dm D}(hi:zw K wi fi)(hg:zv K tg g)(hc:rS K tc c)(hf:eh K te f):eh K (t6 wi n js tg tc te) (bJ fi n js g c f):=by
 intro ρ σ H δ st b st' Q l rs e q;obtain⟨S,nt,e0,e⟩:=di e;obtain⟨zs,qa,e9,e⟩:=di e;cases e;refine hi ρ σ H δ st S nt _ l rs e0 λJ H0 ρ0 m0 l0 ok=>?_;refine⟨λi m ys σ1 H1=>∃ρ1 δ1 st1 ws,Mn K ρ0 H0 ρ1 H1/\Rl K ρ1 H1 st1/\Rs K ρ1 H1 σ1 δ1/\b9 K ρ1 H1 ys ws/\jo S g c f m i ws δ1 st1=some (zs,qa),⟨fuel,ρ0,_,nt,[],.refl,l0,(rs.mn m0).comp n js,.nil,e9⟩,?_⟩;rintro i m ys σ1 H1 ⟨ρ1,δ1,st1,ws,m1,l1,xI,HD,e1⟩;cases m with
 |zero=>cases e1
 |succ m =>
  obtain⟨hstop,hgo⟩:=ok ρ1 H1 st1 i m1 l1;unfold jo at e1;split at e1
  ·next hl =>
   refine⟨by rw[HD.length];exact Hv hl,?_⟩;split at e1
   ·cases e1
   ·next hs =>
    cases e1;exact .inl ⟨hstop hs,λp hp=>q _ _ _ ((m0.trans m1).trans (Mn.new hp)) (l1.newL hp HD) (.ref (newR l1))⟩
   ·next d hs =>
    obtain⟨δ2,st2,e2,e1⟩:=di e1;obtain⟨t,st3,e3,e1⟩:=di e1;obtain⟨go,vm⟩:=hgo d hs;refine .inr ⟨go,λx H2 hy=>?_⟩;obtain⟨m2,l2,r2⟩:=vm x H2 hy;refine hg ρ1 σ1 H2 δ1 st1 x d δ2 st2 _ l2 (xI.mn m2) r2 e2 λσ4 H4 ρ4 m4 l4 r4=>hc ρ4 σ4 H4 δ2 st2 t st3 _ l4 r4 e3 λt' H5 ρ5 m5 l5 r5=>?_;subst r5;have m6:=(((m1.trans m2).trans m4).trans m5);cases t' with
    |true =>
     refine sF ?_;rw[if_pos rfl]at e1;obtain⟨y,BH,e6,e1⟩:=di e1;exact hf ρ5 σ4 H5 δ2 st3 y BH _ l5 (r4.mn m5) e6 λv H7 ρ7 m7 l7 r7=>⟨m,ZbB m,ρ7,δ2,BH,ws ++ [y],m6.trans m7,l7,r4.mn (m5.trans m7),(HD.mn (((m2.trans m4).trans m5).trans m7)).append (.one r7),e1⟩
    |false =>
     refine sE ?_;rw[if_neg Zaj]at e1;exact⟨m,ZbB m,ρ5,δ2,st3,ws,m6,l5,r4.mn m5,HD.mn ((m2.trans m4).trans m5),e1⟩
  ·cases e1
abbrev cu:ao->Dm Bool:=λ_ st=>some (true,st)
abbrev dY(n:Nat)(b:ao->Dm Fl):List D->Dm D:=λds st=>bnd (b (ds.map some ++ List.replicate (n-ds.length) none) st) λfl st1=>match fl with
 |.rt d=>some (d,st1)
 |.nx _=>some (.non,st1)
 |_=>none
def Rs.start{ρ:List Addr}{H:Hp}{vs:List V}{ds:List D}(r:b9 K ρ H vs ds)(N:List Str):Rs K ρ H (start N vs) (ds.map some ++ List.replicate (N.length-ds.length) none):=by
 unfold L2.start;rw[r.length];refine⟨by simp[r.length],λi d hd=>?_⟩;by_cases hi:i<ds.length;rw[Zan (by simpa using hi),Zae]at hd;rw[Zan (by rw[Z7,r.length];exact hi),Zae];cases hx:ds[i]? with
 |none=>rw[hx]at hd;cases hd
 |some y =>
  rw[hx]at hd;cases hd;obtain⟨v,hv,rv⟩:=r.got hx;exact⟨v,by rw[hv];rfl,rv⟩
 rw[ZaE (by simpa using ZbY hi),ZbO]at hd;split at hd<;>cases hd
def eA{N:List Str}{k n:Nat}{t:TS}{b:ao->Dm Fl}{vs:List V}{H:Hp}{Q:VK}{E:XK}(hb:pd K t b)(hn:N.length=n)(h:bw K k (dY n b) vs H Q E):t { nx:=λ_ H'=>Q .non H',rt:=Q } (start N vs) H:=by
 obtain⟨hk,ρ,st,ds,d,st',l,r,e,q⟩:=h;subst hn;obtain⟨fl,st1,e1,e⟩:=di e;refine hb ρ _ H _ st fl st1 _ l (Rs.start r N) e1 ?_;cases fl with
 |rt v=>cases e;exact q
 |nx δ=>cases e;exactλσ' H' ρ' m l' r'=>q .non H' ρ' m l' .non
 |bk δ=>cases e
 |ct δ=>cases e
end
section
variable {X:Cx}{K:Zfr}
def VE{N:List Str}{uz:Scope}{cells:List (Str×Addr)}{C:Addr}{fp:List Addr}{s:Shared}{H:Hp}{uA:Scope}{own fr:List Str}(h:t5 (t4 uz X.env.scope) uA own fr):t5 (aM X N uz cells C fp s H).env.scope uA own fr:=h
def qU:rS K (λ_ H Q=>Q true H) cu:=by intro ρ σ H δ st b st' Q l rs e q;cases e;exact q _ H ρ .refl l rfl
end
abbrev xK(K:Zfr):Sp:=λvs H Q _=>∃(a:Addr) (ns:List Int),vs=[.ref a]/\CV K H a (ns.map V.int)/\ns.length<=63/\∀H',Q (.bl true) H'
def zy{P:Program}{w:World}{K:Zfr}{mg:Str->Option Value}{base:Heap}{k:Nat}{f:Addr}{fd:FuncData}{ps:List Str}{F:List D->Dm D}(G:aD P w K mg base bq k f fd ps (bw K 1 F))
  (h:∀ns:List Int,ns.length<=63->∃st',F [.ref 0] [.sJ (ns.map D.int)]=some (.bl true,st')):aD P w K mg base bq k f fd ps (xK K):=by
 refine G.imp λvs H Q E hs=>?_;obtain⟨a,ns,rfl,hS,hn,q⟩:=hs;obtain⟨st',e⟩:=h ns hn;have one:∀i (b:Addr),([a]:List Addr)[i]?=some b->i=0/\b=a:=λi b h=>by
  cases i with
  |zero=>exact⟨rfl,(Zam h).symm⟩
  |succ i=>simp at h
 refine⟨rfl,[a],[.sJ (ns.map D.int)],[.ref 0],.bl true,st',⟨rfl,λi j b o o' h1 h2 _ _ _ _=>by rw[(one i b h1).1,(one j b h2).1],λi b o h1 h2=>?_⟩,.one (.ref rfl),e,λv H' ρ' m l r=>by cases r;exact q H'⟩;obtain⟨rfl,rfl⟩:=one i b h1;cases(Zam h2);exact⟨ns.map V.int,hS,b9.ints ns⟩
abbrev Wp{α:Type}(m:Option (α×Store))(Q:α->Store->Prop):Prop:=∃a st,m=some (a,st)/\Q a st
section
variable {α β:Type}{Q Q':α->Store->Prop}{st:Store}{δ:ao}
def aQ{m:Option (α×Store)}(h:Wp m Q)(hq:∀a st,Q a st->Q' a st):Wp m Q':=let ⟨a,st,e,q⟩:=h;⟨a,st,e,hq a st q⟩
def bp{a:α}:Wp (some (a,st)) Q↔Q a st:=⟨λ⟨_,_,e,q⟩=>by cases e;exact q,λq=>⟨a,st,rfl,q⟩⟩
def fM:Wp (none:Option (α×Store)) Q↔False:=⟨λ⟨_,_,e,_⟩=>(by cases e),False.elim⟩
def cN{R:β->Store->Prop}{m:Option (α×Store)}{k:α->Dm β}:Wp (bnd m k) R↔Wp m λa st1=>Wp (k a st1) R:=by
 cases m with
 |none=>exact⟨λ⟨_,_,e,_⟩=>(by cases e),λ⟨_,_,e,_⟩=>(by cases e)⟩
 |some p=>exact⟨λh=>⟨p.1,p.2,rfl,h⟩,λ⟨a,s,e,h⟩=>by cases e;exact h⟩
def pL{c:Prop}[Decidable c]{m n:Option (α×Store)}:Wp (if c then m else n) Q↔if c then Wp m Q else Wp n Q:=by split<;>exact Iff.rfl
end
section
variable {st:Store}{δ:ao}{Q:D->Store->Prop}
def zz{i:Nat}:Wp (ag i δ st) Q↔∃d,δ[i]?=some (some d)/\Q d st:=by
 unfold ag;split
 ·next d hd=>rw[bp];exact⟨λh=>⟨d,hd,h⟩,λ⟨e,he,h⟩=>by rw[hd]at he;cases he;exact h⟩
 ·next h=>rw[fM];exact⟨False.elim,λ⟨e,he,_⟩=>h e he⟩
def LI{d:D}:Wp (fC d δ st) Q↔Q d st:=bp
def D2{g:D->D->Dm D}{fa fb:ao->Dm D}:Wp (ay g fa fb δ st) Q↔Wp (fa δ st) λa st1=>Wp (fb δ st1) λb st2=>Wp (g a b st2) Q:=by unfold ay;rw[cN];simp only[cN]
def D3{g:D->Dm D}{fa:ao->Dm D}:Wp (oN g fa δ st) Q↔Wp (fa δ st) λa st1=>Wp (g a st1) Q:=cN
def D4{g:List D->Dm D}{fa:ao->Dm (List D)}:Wp (aK g fa δ st) Q↔Wp (fa δ st) λa st1=>Wp (g a st1) Q:=cN
def zA{R:List D->Store->Prop}:Wp (ah δ st) R↔R [] st:=bp
def VF{R:List D->Store->Prop}{fa:ao->Dm D}{fr:ao->Dm (List D)}:Wp (ae fa fr δ st) R↔Wp (fa δ st) λa st1=>Wp (fr δ st1) λr st2=>R (a :: r) st2:=by unfold ae;rw[cN];simp only[cN,bp]
def zB{fa:ao->Dm (List D)}:Wp (bB fa δ st) Q↔Wp (fa δ st) λas st1=>lim as.length=true/\Q (.tup as) st1:=by unfold bB;rw[cN];simp only[pL,bp,fM];constructor<;>exactλh=>aQ h λa s h=>by first|(split at h;exact⟨by assumption,h⟩;exact h.elim)|(rw[if_pos h.1];exact h.2)
def zC{fa:ao->Dm (List D)}:Wp (cP fa δ st) Q↔Wp (fa δ st) λas st1=>lim as.length=true/\Q (.ref st1.length) (st1 ++ [.lst as]):=by unfold cP;rw[cN];simp only[pL,bp,fM];constructor<;>exactλh=>aQ h λa s h=>by first|(split at h;exact⟨by assumption,h⟩;exact h.elim)|(rw[if_pos h.1];exact h.2)
def VG{R:Bool->Store->Prop}{fa:ao->Dm D}:Wp (aJ fa δ st) R↔Wp (fa δ st) λa st1=>∃b,a=.bl b/\R b st1:=by unfold aJ;rw[cN];constructor<;>refineλh=>aQ h λa s h=>?_;cases a<;>simp only[bp,fM]at h;exact⟨_,rfl,h⟩;obtain⟨b,rfl,h⟩:=h;exact bp.mpr h
def zD{R:Bool->Store->Prop}{fa:ao->Dm Bool}:Wp (vT fa δ st) R↔Wp (fa δ st) λa st1=>R (!a) st1:=by unfold vT;rw[cN];simp only[bp]
def zE{R:Bool->Store->Prop}{fa fb:ao->Dm Bool}:Wp (ur fa fb δ st) R↔Wp (fa δ st) λa st1=>if a=true then Wp (fb δ st1) R else R false st1:=by unfold ur;rw[cN];simp only[pL,bp]
def D5{R:Bool->Store->Prop}{fa fb:ao->Dm Bool}:Wp (By fa fb δ st) R↔Wp (fa δ st) λa st1=>if a=true then R true st1 else Wp (fb δ st1) R:=by unfold By;rw[cN];simp only[pL,bp]
def xM{α:Type}{R:α->Store->Prop}{c:ao->Dm Bool}{fa fb:ao->Dm α}:Wp (kf c fa fb δ st) R↔Wp (c δ st) λa st1=>if a=true then Wp (fa δ st1) R else Wp (fb δ st1) R:=by unfold kf;rw[cN];simp only[pL]
def VH{fa fb:ao->Dm D}:Wp (rW fa fb δ st) Q↔Wp (aJ fa δ st) λa st1=>if a=true then Wp (fb δ st1) Q else Q (.bl false) st1:=by unfold rW;rw[cN];simp only[pL,bp]
def zF{fa fb:ao->Dm D}:Wp (DP fa fb δ st) Q↔Wp (aJ fa δ st) λa st1=>if a=true then Q (.bl true) st1 else Wp (fb δ st1) Q:=by unfold DP;rw[cN];simp only[pL,bp]
def VI{fa:ao->Dm D}:Wp (xD fa δ st) Q↔Wp (aJ fa δ st) λa st1=>Q (.bl (!a)) st1:=by unfold xD;rw[cN];simp only[bp]
def VJ{R:Option Int->Store->Prop}:Wp (kP δ st) R↔R none st:=bp
def VL{R:Option Int->Store->Prop}{fa:ao->Dm D}:Wp (oy fa δ st) R↔Wp (fa δ st) λa st1=>∃i,a=.int i/\R (some i) st1:=by unfold oy;rw[cN];constructor<;>refineλh=>aQ h λa s h=>?_;cases a<;>simp only[bp,fM]at h;exact⟨_,rfl,h⟩;obtain⟨b,rfl,h⟩:=h;exact bp.mpr h
def D6{g:D->Option Int->Option Int->Dm D}{fa:ao->Dm D}{fl fh:ao->Dm (Option Int)}:Wp (zm g fa fl fh δ st) Q↔Wp (fa δ st) λa st1=>Wp (fl δ st1) λlo st2=>Wp (fh δ st2) λhi st3=>Wp (g a lo hi st3) Q:=by unfold zm;rw[cN];simp only[cN]
def D7{T:String}{g:D->List D->Dm D}{fo:ao->Dm D}{fa:ao->Dm (List D)}:Wp (nX T g fo fa δ st) Q↔Wp (fo δ st) λo st1=>xH T st1 o=true/\Wp (fa δ st1) λas st2=>Wp (g o as st2) Q:=by unfold nX;rw[cN];simp only[pL,cN,fM];constructor<;>exactλh=>aQ h λa s h=>by first|(split at h;exact⟨by assumption,h⟩;exact h.elim)|(rw[if_pos h.1];exact h.2)
variable {i j:Int}{ds es:List D}{k:Nat}
def zG:Wp (fF (.int i) (.int j) st) Q↔Q (.int (i+j)) st:=bp
def zH:Wp (jh (.int i) (.int j) st) Q↔Q (.int (i-j)) st:=bp
def D8:Wp (xF (.int i) (.int j) st) Q↔Q (.bl (decide (i<j))) st:=bp
def D9:Wp (Vv (.int i) (.int j) st) Q↔Q (.bl (decide (i<=j))) st:=bp
def Ea:Wp (DR (.int i) (.int j) st) Q↔Q (.bl (decide (j<i))) st:=bp
def Eb:Wp (LC (.int i) (.int j) st) Q↔Q (.bl (decide (j<=i))) st:=bp
def zI:Wp (gJ (.int i) st) Q↔Q (.int (-i)) st:=bp
def BI{c:Int->Int->Bool}{h:Int->Int->D}:Wp (vU c h (.int i) (.int j) st) Q↔c i j=true/\Q (h i j) st:=by
 show Wp (if c i j=true then some (h i j,st)else none) Q↔_;rw[pL,bp,fM];split
 ·next h=>exact⟨λq=>⟨h,q⟩,λq=>q.2⟩
 ·next h=>exact⟨False.elim,λq=>h q.1⟩
def zJ:Wp (j9 (.int i) (.int j) st) Q↔((-18446744073709551616<i/\i<18446744073709551616)\/(-18446744073709551616<j/\j<18446744073709551616))/\Q (.int (i*j)) st:=by unfold j9;rw[BI,ZbR,decide_eq_true_eq,decide_eq_true_eq]
def VM:Wp (nG (.int i) (.int j) st) Q↔(0<j/\j<1073741824)/\Q (.int (i / j)) st:=by unfold nG;rw[BI,decide_eq_true_eq]
def zK:Wp (lF (.int i) (.int j) st) Q↔0<j/\Q (.int (i % j)) st:=by unfold lF;rw[BI,decide_eq_true_eq]
def zL:Wp (uv (.int i) (.int j) st) Q↔(0<=j/\j<=1000000/\i.natAbs<18446744073709551616)/\Q (.int (i ^ j.toNat)) st:=by unfold uv;rw[BI,decide_eq_true_eq]
def zM{neg:Bool}:Wp (kQ neg (.int i) (.int j) st) Q↔Q (.bl (if neg then !decide (i=j)else decide (i=j))) st:=by
 have e:decide (V.int i=V.int j)=decide (i=j):=by
  by_cases h:i=j;subst h;simp;simp[h]
 show Wp (if qE (V.int i) (V.int j)=true then some (D.bl (if neg then !decide (V.int i=V.int j)else decide (V.int i=V.int j)),st)else none) Q↔_;rw[if_pos (show qE _ _=true from rfl),bp,e]
def zN{neg:Bool}{x y:Str}:Wp (kQ neg (.str x) (.str y) st) Q↔Q (.bl (if neg then !decide (x=y)else decide (x=y))) st:=by
 have e:decide (V.str x=V.str y)=decide (x=y):=by
  by_cases h:x=y;subst h;simp;simp[h]
 show Wp (if qE (V.str x) (V.str y)=true then some (D.bl (if neg then !decide (V.str x=V.str y)else decide (V.str x=V.str y)),st)else none) Q↔_;rw[if_pos (show qE _ _=true from rfl),bp,e]
def zO:Wp (aE (.tup ds) (.int i) st) Q↔∃d,gD ds i=some d/\Q d st:=by
 show Wp (match gD ds i with|some d=>some (d,st)|none=>none) Q↔_;cases gD ds i with
 |none=>rw[fM];exact⟨False.elim,λ⟨_,e,_⟩=>by cases e⟩
 |some d=>rw[bp];exact⟨λq=>⟨d,rfl,q⟩,λ⟨_,e,q⟩=>by cases e;exact q⟩
def zP:Wp (dX (.ref k) (.int i) st) Q↔∃ds d,items st k=some ds/\gD ds i=some d/\Q d st:=by
 show Wp (match items st k with|some ds=>(match gD ds i with|some d=>some (d,st)|none=>none)|none=>none) Q↔_;cases items st k with
 |none=>rw[fM];exact⟨False.elim,λ⟨_,_,e,_⟩=>by cases e⟩
 |some ds =>
  show Wp (match gD ds i with|some d=>some (d,st)|none=>none) Q↔_;cases h:gD ds i with
  |none=>rw[fM];exact⟨False.elim,λ⟨_,_,e,e',_⟩=>by cases e;rw[h]at e';cases e'⟩
  |some d=>rw[bp];exact⟨λq=>⟨ds,d,rfl,h,q⟩,λ⟨_,_,e,e',q⟩=>by cases e;rw[h]at e';cases e';exact q⟩
def zQ{lo hi:Option Int}:Wp (vX (.tup ds) lo hi st) Q↔Q (.tup (cutD ds lo hi)) st:=bp
def zR{lo hi:Option Int}:Wp (uw (.ref k) lo hi st) Q↔∃ds,items st k=some ds/\Q (.ref st.length) (st ++ [.lst (cutD ds lo hi)]):=by
 show Wp (match items st k with|some ds=>some (D.ref st.length,st ++ [O.lst (cutD ds lo hi)])|none=>none) Q↔_;cases items st k with
 |none=>rw[fM];exact⟨False.elim,λ⟨_,e,_⟩=>by cases e⟩
 |some ds=>rw[bp];exact⟨λq=>⟨ds,rfl,q⟩,λ⟨_,e,q⟩=>by cases e;exact q⟩
def VN:Wp (kn (.tup ds) (.tup es) st) Q↔lim (ds.length+es.length)=true/\Q (.tup (ds ++ es)) st:=by
 show Wp (if lim (ds.length+es.length)=true then some (D.tup (ds ++ es),st)else none) Q↔_;rw[pL,bp,fM];split
 ·next h=>exact⟨λq=>⟨h,q⟩,λq=>q.2⟩
 ·next h=>exact⟨False.elim,λq=>h q.1⟩
def zS{a b:Nat}:Wp (m9 (.ref a) (.ref b) st) Q↔∃xs ys,own st a=some xs/\own st b=some ys/\lim (xs.length+ys.length)=true/\Q (.ref st.length) (st ++ [.lst (xs ++ ys)]):=by
 show Wp (match own st a,own st b with|some xs,some ys=>if lim (xs.length+ys.length)=true then some (D.ref st.length,st ++ [O.lst (xs ++ ys)])else none|_,_=>none) Q↔_;cases ha:own st a<;>cases hb:own st b
 ·simp only[fM];exact⟨False.elim,λ⟨_,_,e,_⟩=>by cases e⟩
 ·simp only[fM];exact⟨False.elim,λ⟨_,_,e,_⟩=>by cases e⟩
 ·simp only[fM];exact⟨False.elim,λ⟨_,_,_,e,_⟩=>by cases e⟩
 ·next xs ys =>
  show Wp (if lim (xs.length+ys.length)=true then some (D.ref st.length,st ++ [O.lst (xs ++ ys)])else none) Q↔_;rw[pL,bp,fM];split
  ·next h=>exact⟨λq=>⟨_,_,rfl,rfl,h,q⟩,λ⟨_,_,e,e',_,q⟩=>by cases e;cases e';exact q⟩
  ·next h=>exact⟨False.elim,λ⟨_,_,e,e',q,_⟩=>by cases e;cases e';exact h q⟩
def zT{a:D}:Wp (cT [a] st) Q↔∃ds,cS st a=some ds/\Q (.int ds.length) st:=by
 show Wp (match cS st a with|some ds=>some (D.int ds.length,st)|none=>none) Q↔_;cases cS st a with
 |none=>rw[fM];exact⟨False.elim,λ⟨_,e,_⟩=>by cases e⟩
 |some ds=>rw[bp];exact⟨λq=>⟨ds,rfl,q⟩,λ⟨_,e,q⟩=>by cases e;exact q⟩
def VO{a:D}:Wp (oA [a] st) Q↔∃ds,cS st a=some ds/\Q (.ref st.length) (st ++ [.lst ds]):=by
 show Wp (match cS st a with|some ds=>some (D.ref st.length,st ++ [O.lst ds])|none=>none) Q↔_;cases cS st a with
 |none=>rw[fM];exact⟨False.elim,λ⟨_,e,_⟩=>by cases e⟩
 |some ds=>rw[bp];exact⟨λq=>⟨ds,rfl,q⟩,λ⟨_,e,q⟩=>by cases e;exact q⟩
def VP{a:D}:Wp (aZ [a] st) Q↔∃ds,cS st a=some ds/\Q (.tup ds) st:=by
 show Wp (match cS st a with|some ds=>some (D.tup ds,st)|none=>none) Q↔_;cases cS st a with
 |none=>rw[fM];exact⟨False.elim,λ⟨_,e,_⟩=>by cases e⟩
 |some ds=>rw[bp];exact⟨λq=>⟨ds,rfl,q⟩,λ⟨_,e,q⟩=>by cases e;exact q⟩
def VQ:Wp (nH [.int i,.int j] st) Q↔Q (.int (if j > i then j else i)) st:=bp
def VR:Wp (rZ [.int i,.int j] st) Q↔Q (.int (if j<i then j else i)) st:=bp
def VS:Wp (oB [.int i] st) Q↔Q (.int i) st:=bp
def VT{b:Bool}:Wp (oB [.bl b] st) Q↔Q (.int (if b then 1 else 0)) st:=bp
def VU:Wp (kR [.int j] st) Q↔Q (.ref st.length) (st ++ [.ki 0 j]):=bp
def VW:Wp (fO [.int i,.int j] st) Q↔Q (.ref st.length) (st ++ [.ki i j]):=bp
def VX{y:D}:Wp (bR (.ref k) [y] st) Q↔∃xs,own st k=some xs/\lim xs.length=true/\Q .non (st.set k (.lst (xs ++ [y]))):=by
 show Wp (match own st k with|some xs=>if lim xs.length=true then some (D.non,st.set k (O.lst (xs ++ [y])))else none|none=>none) Q↔_;cases own st k with
 |none=>rw[fM];exact⟨False.elim,λ⟨_,e,_⟩=>by cases e⟩
 |some xs =>
  show Wp (if lim xs.length=true then some (D.non,st.set k (O.lst (xs ++ [y])))else none) Q↔_;rw[pL,bp,fM];split
  ·next h=>exact⟨λq=>⟨_,rfl,h,q⟩,λ⟨_,e,_,q⟩=>by cases e;exact q⟩
  ·next h=>exact⟨False.elim,λ⟨_,e,q,_⟩=>by cases e;exact h q⟩
end
abbrev Ws(m:Option (Fl×Store))(N B C:ao->Store->Prop)(R:D->Store->Prop):Prop:=Wp m λfl st=>match fl with
 |.nx δ=>N δ st
 |.bk δ=>B δ st
 |.ct δ=>C δ st
 |.rt d=>R d st
section
variable {st:Store}{δ:ao}{N B C:ao->Store->Prop}{R:D->Store->Prop}{f g:ao->Dm Fl}{e:ao->Dm D}
def zU{m:Option (Fl×Store)}{N':ao->Store->Prop}(h:Ws m N B C R)(hn:∀δ st,N δ st->N' δ st):Ws m N' B C R:=aQ h λfl st q=>by
 cases fl with
 |nx δ=>exact hn δ st q
 |bk δ=>exact q
 |ct δ=>exact q
 |rt d=>exact q
def aW(h:Ws (f δ st) (λδ1 st1=>Ws (g δ1 st1) N B C R) B C R):Ws (aB f g δ st) N B C R:=by
 unfold Ws aB;rw[cN];refine aQ h λfl st1 q=>?_;cases fl with
 |nx δ1=>exact q
 |bk δ1=>exact bp.mpr q
 |ct δ1=>exact bp.mpr q
 |rt d=>exact bp.mpr q
def mj(h:N δ st):Ws (bI δ st) N B C R:=bp.mpr h
def VY(h:B δ st):Ws (qS δ st) N B C R:=bp.mpr h
def tm{t:D->ao->Dm ao}(h:Wp (e δ st) λd st1=>Wp (t d δ st1) N):Ws (aI e t δ st) N B C R:=by unfold Ws aI;rw[cN];refine aQ h λd st1 q=>?_;rw[cN];exact aQ q λδ1 st2 q=>bp.mpr q
def bK{i:Nat}(h:Wp (e δ st) λd st1=>N (δ.set i (some d)) st1):Ws (aI e (hName i) δ st) N B C R:=tm (aQ h λd st1 q=>bp.mpr q)
def r9(h:Wp (e δ st) λ_ st1=>N δ st1):Ws (d3 e δ st) N B C R:=by unfold Ws d3;rw[cN];exact aQ h λd st1 q=>bp.mpr q
def cW(h:Wp (e δ st) R):Ws (aV e δ st) N B C R:=by unfold Ws aV;rw[cN];exact aQ h λd st1 q=>bp.mpr q
def kq{c:ao->Dm Bool}(h:Wp (c δ st) λb st1=>(b=true->Ws (f δ st1) N B C R)/\(b=false->Ws (g δ st1) N B C R)):Ws (kf c f g δ st) N B C R:=by
 unfold Ws;rw[xM];refine aQ h λb st1 q=>?_;cases b with
 |true=>rw[if_pos rfl];exact q.1 rfl
 |false=>rw[if_neg Zaj];exact q.2 rfl
def BJ{i j:Nat}{fa:ao->Dm (List D)}(h:Wp (fa δ st) λas st1=>∃a b,as=[a,b]/\N ((δ.set i (some a)).set j (some b)) st1):Ws (oT i j fa δ st) N B C R:=by unfold Ws oT;rw[cN];refine aQ h λas st1 q=>?_;obtain⟨a,b,rfl,q⟩:=q;exact bp.mpr q
def d4{n:Nat}{b:ao->Dm Fl}{ds:List D}(h:Ws (b (ds.map some ++ List.replicate (n-ds.length) none) st) (λ_ st1=>R .non st1) (λ_ _=>False) (λ_ _=>False) R):Wp (dY n b ds st) R:=by
 unfold dY;rw[cN];refine aQ h λfl st1 q=>?_;cases fl with
 |nx δ1=>exact bp.mpr q
 |bk δ1=>exact q.elim
 |ct δ1=>exact q.elim
 |rt d=>exact bp.mpr q
def uB{c:ao->Dm Bool}{b:ao->Dm Fl}(W:Nat->ao->Store->Prop)(m:Nat)(hm:m<fuel)(h0:W m δ st)
  (step:∀m δ st,W m δ st->Wp (c δ st) λt st1=>(t=true->Ws (b δ st1) (λδ2 st2=>∃m',m' < m/\W m' δ2 st2) N (λδ2 st2=>∃m',m' < m/\W m' δ2 st2) R)/\(t=false->N δ st1)):Ws (d5 c b δ st) N B C R:=by
 have key:∀(k m:Nat) (δ:ao) (st:Store),m<k->W m δ st->Ws (gL c b k δ st) N B C R:=by
  intro k
  induction k with
  |zero=>intro m δ st h;exact absurd h (ZaZ _)
  |succ k ih =>
   intro m δ st hk hw;unfold Ws gL;rw[cN];refine aQ (step m δ st hw) λt st1 q=>?_;cases t with
   |false=>rw[if_neg Zaj];exact bp.mpr (q.2 rfl)
   |true =>
    rw[if_pos rfl,cN];refine aQ (q.1 rfl) λfl st2 q=>?_;cases fl with
    |nx δ2=>obtain⟨m',hm',w⟩:=q;exact ih m' δ2 st2 ⋯ w
    |ct δ2=>obtain⟨m',hm',w⟩:=q;exact ih m' δ2 st2 ⋯ w
    |bk δ2=>exact bp.mpr q
    |rt d=>exact bp.mpr q
 exact key fuel m δ st hm h0
def pN{fi:ao->Dm Src}{t:D->ao->Dm ao}{b:ao->Dm Fl}(ds:List D)(Pv:Nat->ao->Store->Prop)(hi:Wp (fi δ st) λS st1=>S=.fix ds/\Pv 0 δ st1)(hl:ds.length<100000)
  (step:∀i d δ st,ds[i]?=some d->Pv i δ st->Wp (t d δ st) λδ1 st1=>Ws (b δ1 st1) (Pv (i+1)) N (Pv (i+1)) R) (fin:∀δ st,Pv ds.length δ st->N δ st):Ws (ff fi t b δ st) N B C R:=by
 unfold Ws ff;rw[cN];refine aQ hi λS nt q=>?_;obtain⟨rfl,h0⟩:=q;have key:∀(k i:Nat) (δ:ao) (st:Store),i<=ds.length->ds.length-i<k->Pv i δ st->Ws (iM (.fix ds) t b k i δ st) N B C R:=by
  intro k
  induction k with
  |zero=>intro i δ st _ h;exact absurd h (ZaZ _)
  |succ k ih =>
   intro i δ st hi hk hw;unfold Ws iM;have e:Src.at (.fix ds) i st=some ds[i]?:=by show(if i<=ds.length then some ds[i]? else none)=_;rw[if_pos hi]
   rw[e];cases hd:ds[i]? with
   |none =>
    have:=ZaK.mp hd;have e:i=ds.length:=by lk
    exact bp.mpr (fin δ st (e ▸ hw))
   |some d =>
    have hlt:=(Z9.mp hd).1;show Wp (bnd _ _) _;rw[cN];refine aQ (step i d δ st hd hw) λδ1 st1 q=>?_;rw[cN];refine aQ q λfl st2 q=>?_;cases fl with
    |nx δ2=>exact ih (i+1) δ2 st2 ⋯ ⋯ q
    |ct δ2=>exact ih (i+1) δ2 st2 ⋯ ⋯ q
    |bk δ2=>exact bp.mpr q
    |rt d=>exact bp.mpr q
 exact key fuel 0 δ nt (ZaM _) (Nat.lt_trans ⋯ (show 100000<fuel by decide)) h0
def LJ{fi:ao->Dm Src}{t:D->ao->Dm ao}{b:ao->Dm Fl}(ds:List D)(r:Nat)(Pv:Nat->ao->Store->Prop)(hi:Wp (fi δ st) λS st1=>S=.live r/\Pv 0 δ st1)(hl:ds.length<100000)(hk:∀i δ st,Pv i δ st->items st r=some ds)
  (step:∀i d δ st,ds[i]?=some d->Pv i δ st->Wp (t d δ st) λδ1 st1=>Ws (b δ1 st1) (Pv (i+1)) N (Pv (i+1)) R) (fin:∀δ st,Pv ds.length δ st->N δ st):Ws (ff fi t b δ st) N B C R:=by
 unfold Ws ff;rw[cN];refine aQ hi λS nt q=>?_;obtain⟨rfl,h0⟩:=q;have key:∀(k i:Nat) (δ:ao) (st:Store),i<=ds.length->ds.length-i<k->Pv i δ st->Ws (iM (.live r) t b k i δ st) N B C R:=by
  intro k
  induction k with
  |zero=>intro i δ st _ h;exact absurd h (ZaZ _)
  |succ k ih =>
   intro i δ st hi hk' hw;unfold Ws iM;have e:Src.at (.live r) i st=some ds[i]?:=by show(items st r).map _=_;rw[hk i δ st hw];rfl
   rw[e];cases hd:ds[i]? with
   |none =>
    have:=ZaK.mp hd;have e:i=ds.length:=by lk
    exact bp.mpr (fin δ st (e ▸ hw))
   |some d =>
    have hlt:=(Z9.mp hd).1;show Wp (bnd _ _) _;rw[cN];refine aQ (step i d δ st hd hw) λδ1 st1 q=>?_;rw[cN];refine aQ q λfl st2 q=>?_;cases fl with
    |nx δ2=>exact ih (i+1) δ2 st2 ⋯ ⋯ q
    |ct δ2=>exact ih (i+1) δ2 st2 ⋯ ⋯ q
    |bk δ2=>exact bp.mpr q
    |rt d=>exact bp.mpr q
 exact key fuel 0 δ nt (ZaM _) (Nat.lt_trans ⋯ (show 100000<fuel by decide)) h0
def HE{fi:ao->Dm Src}{n:Nat}{js:List Nat}{t:D->ao->Dm ao}{c:ao->Dm Bool}{f:ao->Dm D}{Q:D->Store->Prop}(ds:List D)(Pv:Nat->List D->ao->Store->Prop)
  (hi:Wp (fi δ st) λS st1=>(∀i ys δ st,i<=ds.length->Pv i ys δ st->S.at i st=some ds[i]?)/\Pv 0 [] (ql n js δ) st1) (hl:ds.length<100000) (hy:∀i ys δ st,Pv i ys δ st->ys.length<=i)
  (step:∀i d ys δ st,ds[i]?=some d->Pv i ys δ st->Wp (t d δ st) λδ1 st1=>Wp (c δ1 st1) λb st2=>(b=true->Wp (f δ1 st2) λy st3=>Pv (i+1) (ys ++ [y]) δ1 st3)/\(b=false->Pv (i+1) ys δ1 st2))
  (fin:∀ys δ st,Pv ds.length ys δ st->Q (.ref st.length) (st ++ [.lst ys])):Wp (bJ fi n js t c f δ st) Q:=by
 unfold bJ;rw[cN];refine aQ hi λS nt q=>?_;obtain⟨hS,h0⟩:=q;have key:∀(k i:Nat) (ys:List D) (δ:ao) (st:Store),i<=ds.length->ds.length-i<k->Pv i ys δ st->Wp (jo S t c f k i ys δ st) λzs qa=>∃δ9,Pv ds.length zs δ9 qa:=by
  intro k
  induction k with
  |zero=>intro i ys δ st _ h;exact absurd h (ZaZ _)
  |succ k ih =>
   intro i ys δ st hi hk' hw;unfold jo;have hlim:lim ys.length=true:=Nat.ble_eq_true_of_le (by have:=hy i ys δ st hw;lk);rw[if_pos hlim,hS i ys δ st hi hw];cases hd:ds[i]? with
   |none =>
    have:=ZaK.mp hd;have e:i=ds.length:=by lk
    exact bp.mpr ⟨δ,e ▸ hw⟩
   |some d =>
    have hlt:=(Z9.mp hd).1;show Wp (bnd _ _) _;rw[cN];refine aQ (step i d ys δ st hd hw) λδ1 st1 q=>?_;rw[cN];refine aQ q λb st2 q=>?_;cases b with
    |true =>
     rw[if_pos rfl,cN];exact aQ (q.1 rfl) λy st3 q=>ih (i+1) _ δ1 st3 ⋯ ⋯ q
    |false =>
     rw[if_neg Zaj];exact ih (i+1) ys δ1 st2 ⋯ ⋯ (q.2 rfl)
 rw[cN];exact aQ (key fuel 0 [] _ nt (ZaM _) (Nat.lt_trans ⋯ (show 100000<fuel by decide)) h0) λzs qa ⟨δ9,q⟩=>bp.mpr (fin zs δ9 qa q)
end
abbrev keyOf:D->Option Key
 |.int i=>some (.inl i)
 |.str x=>some (.inr x)
 |_=>none
abbrev kr(st:Store):D->Option (List (Key×D))
 |.ref i=>match st[i]? with
  |some (.dct kvs)=>some kvs
  |_=>none
 |_=>none
abbrev dZ(kvs:List (Key×D))(k:Key):Option D:=(kvs.find? λkv=>decide (kv.1=k)).map (·.2)
abbrev putD(kvs:List (Key×D))(k:Key)(v:D):List (Key×D) :=
 if(kvs.any λkv=>decide (kv.1=k))=true then kvs.map (λkv=>if kv.1=k then(kv.1,v)else kv)else kvs ++ [(k,v)]
section
variable {K:Zfr}{ρ:List Addr}{H:Hp}{st:Store}
def Bf{x:V}{y:D}{k:Key}(r:Rp K ρ H x y)(h:keyOf y=some k):x=kV k:=by cases r<;>first|(cases h;rfl)|cases h
def P8{x:V}{a:D}{kvs:List (Key×D)}(l:Rl K ρ H st)(r:Rp K ρ H x a)(h:kr st a=some kvs):∃p i ws,x=.ref p/\a=.ref i/\ρ[i]?=some p/\st[i]?=some (.dct kvs)/\H p=some (.dK ws)/\Rk K ρ H ws kvs:=by
 cases r<;>first|(cases h;done)|skip
 next hi =>
  simp only[kr]at h;split at h
  ·next kvs' hs =>
   cases h;obtain⟨ws,e,r⟩:=l.obj _ _ _ hi hs;exact⟨_,_,ws,rfl,rfl,hi,hs,e,r⟩
  ·cases h
def Rk.val{ws:List (Key×V)}{kvs:List (Key×D)}(r:Rk K ρ H ws kvs)(k:Key):(∀d,dZ kvs k=some d->∃v,lO ws k=some v/\Rp K ρ H v d)/\(lO ws k).isSome=(dZ kvs k).isSome:=by
 induction r with
 |nil=>exact⟨λd h=>(by cases h),rfl⟩
 |@cons p q ps qs h t ih =>
  obtain⟨h1,h2⟩:=h;unfold dZ lO at ih ⊢;rw[Za5,Za5];by_cases e:p.1=k;rw[decide_eq_true e,decide_eq_true (h1 ▸ e)];exact⟨λd hd=>by cases hd;exact⟨_,rfl,h2⟩,rfl⟩;rw[decide_eq_false e,decide_eq_false (h1 ▸ e)];exact ih
def Rk.app{ws P9:List (Key×V)}{kvs kvs':List (Key×D)}(r:Rk K ρ H ws kvs)(r':Rk K ρ H P9 kvs'):Rk K ρ H (ws ++ P9) (kvs ++ kvs'):=by
 induction r with
 |nil=>exact r'
 |cons h _ ih=>exact .cons h ih
def Rk.put{ws:List (Key×V)}{kvs:List (Key×D)}{v:V}{d:D}(r:Rk K ρ H ws kvs)(k:Key)(rv:Rp K ρ H v d):Rk K ρ H (putK ws k v) (putD kvs k d):=by
 have hany:(ws.any λkv=>decide (kv.1=k))=(kvs.any λkv=>decide (kv.1=k)):=by
  induction r with
  |nil=>rfl
  |cons h _ ih=>rw[Zbj,Zbj,ih,h.1]
 have hmap:Rk K ρ H (ws.map λkv=>if kv.1=k then(kv.1,v)else kv) (kvs.map λkv=>if kv.1=k then(kv.1,d)else kv):=by
  clear hany
  induction r with
  |nil=>exact .nil
  |@cons p q ps qs h _ ih =>
   refine .cons ?_ ih;dsimp only;by_cases e:p.1=k;rw[if_pos e,if_pos (h.1 ▸ e)];exact⟨h.1,rv⟩;rw[if_neg e,if_neg (h.1 ▸ e)];exact h
 unfold putK putD;rw[hany];split;exact hmap;exact r.app (.cons ⟨rfl,rv⟩ .nil)
def Rk.length{ws:List (Key×V)}{kvs:List (Key×D)}(r:Rk K ρ H ws kvs):ws.length=kvs.length:=by
 induction r with
 |nil=>rfl
 |cons _ _ ih=>rw[ZaG,ZaG,ih]
end
section
variable {K:Zfr}
abbrev uC:ao->Dm D:=λ_ st=>some (.ref st.length,st ++ [.dct []])
def VZ:eh K tW uC:=by intro ρ σ H δ st b st' Q l rs e q;cases e;exactλp hp=>q _ _ _ (Mn.new hp) (l.newD hp .nil) (.ref (newR l))
abbrev xN(fd fy:ao->Dm D):ao->Dm D:=λδ st=>bnd (fd δ st) λx st1=>bnd (fy δ st1) λy st2=>match kr st2 x,keyOf y with
 |some kvs,some k=>match dZ kvs k with
  |some v=>some (v,st2)
  |none=>none
 |_,_=>none
abbrev wc(neg:Bool)(fy fd:ao->Dm D):ao->Dm D:=λδ st=>bnd (fy δ st) λy st1=>bnd (fd δ st1) λx st2=>match kr st2 x,keyOf y with
 |some kvs,some k=>some (.bl (if neg then !(dZ kvs k).isSome else(dZ kvs k).isSome),st2)
 |_,_=>none
def V0{td ty:TE}{fd fy:ao->Dm D}(hy:eh K ty fy)(hd:eh K td fd):eh K (rD ty td) (wc true fy fd):=by
 intro ρ σ H δ st b st' Q l rs e q;obtain⟨y,st1,e1,e⟩:=di e;obtain⟨x,st2,e2,e⟩:=di e;refine hy ρ σ H δ st y st1 _ l rs e1 λvy H1 ρ1 m1 l1 r1=>hd ρ1 σ H1 δ st1 x st2 _ l1 (rs.mn m1) e2 λvx H2 ρ2 m2 l2 r2=>?_;split at e
 ·next kvs k hx hk =>
  cases e;obtain⟨p,i,ws,rfl,rfl,hi,hs,hp,rk⟩:=P8 l2 r2 hx;refine⟨p,lO ws k,rfl,by rw[Bf r1 hk];exact tU.k hp,q _ H2 ρ2 (m1.trans m2) l2 ?_⟩;rw[(rk.val k).2];exact .bl _
 ·cases e
abbrev sa(fd fy fv:ao->Dm D):ao->Dm Fl:=λδ st=>bnd (fv δ st) λv st1=>bnd (fd δ st1) λx st2=>bnd (fy δ st2) λy st3=>match x,kr st3 x,keyOf y with
 |.ref i,some kvs,some k=>if lim kvs.length=true then some (.nx δ,st3.set i (.dct (putD kvs k v)))else none
 |_,_,_=>none
def V1{td ty tv:TE}{fd fy fv:ao->Dm D}(hd:eh K td fd)(hy:eh K ty fy)(hv:eh K tv fv):pd K (xa td ty tv) (sa fd fy fv):=by
 intro ρ σ H δ st fl st' E l rs e q;obtain⟨v,st1,e1,e⟩:=di e;obtain⟨x,st2,e2,e⟩:=di e;obtain⟨y,st3,e3,e⟩:=di e;refine hv ρ σ H δ st v st1 _ l rs e1 λvv H1 ρ1 m1 l1 r1=>hd ρ1 σ H1 δ st1 x st2 _ l1 (rs.mn m1) e2 λvx H2 ρ2 m2 l2 r2=>hy ρ2 σ H2 δ st2 y st3 _ l2 (rs.mn (m1.trans m2)) e3 λvy H3 ρ3 m3 l3 r3=>?_;obtain⟨i,rfl⟩:∃i,x=.ref i:=by
  cases x<;>first|exact⟨_,rfl⟩|(simp at e;done)|cases e
 cases hx:kr st3 (.ref i)with
 |none=>rw[hx]at e;cases e
 |some kvs =>
 cases hk:keyOf y with
 |none=>rw[hx,hk]at e;cases e
 |some k =>
  rw[hx,hk]at e;simp only at e;split at e
  ·next hl =>
   cases e;obtain⟨p,j,ws,rfl,ej,hi,hs,hp,rk⟩:=P8 l3 (r2.mn m3) hx;cases ej;obtain⟨l4,m4⟩:=l3.zi hi hs (rk.put k (r1.mn (m2.trans m3)));have mm:=((m1.trans m2).trans m3).trans m4;refine⟨p,_,rfl,?_,q σ _ ρ3 mm l4 (rs.mn mm)⟩;rw[Bf r3 hk];exact tV.k hp (by rw[rk.length];exact Hv hl)
  ·cases e
abbrev Ec:ao->Dm (List (D×D)):=λ_ st=>some ([],st)
abbrev uD(fk fv:ao->Dm D)(fr:ao->Dm (List (D×D))):ao->Dm (List (D×D)):=λδ st=>bnd (fk δ st) λk st1=>bnd (fv δ st1) λv st2=>bnd (fr δ st2) λr st3=>some ((k,v) :: r,st3)
abbrev keysOf:List (D×D)->Option (List (Key×D))
 |[]=>some []
 |(k,v) :: r=>match keyOf k,keysOf r with
  |some k',some r'=>some ((k',v) :: r')
  |_,_=>none
abbrev uE(kvs more:List (Key×D)):List (Key×D):=more.foldl (λacc kv=>putD acc kv.1 kv.2) kvs
abbrev xO(fp:ao->Dm (List (D×D))):ao->Dm D:=λδ st=>bnd (fp δ (st ++ [.dct []])) λps st2=>match st2[st.length]?,keysOf ps with
 |some (.dct []),some kvs=>if kvs.length<=15 then some (.ref st.length,st2.set st.length (.dct (uE [] kvs)))else none
 |_,_=>none
end
section
variable {st:Store}{δ:ao}{Q:D->Store->Prop}
def V2:Wp (uC δ st) Q↔Q (.ref st.length) (st ++ [.dct []]):=bp
def V3{fd fy:ao->Dm D}:Wp (xN fd fy δ st) Q↔Wp (fd δ st) λx st1=>Wp (fy δ st1) λy st2=>∃kvs k v,kr st2 x=some kvs/\keyOf y=some k/\dZ kvs k=some v/\Q v st2:=by
 unfold xN;rw[cN];simp only[cN];constructor<;>refineλh=>aQ h λx s h=>aQ h λy s2 h=>?_
 ·split at h
  ·next kvs k h1 h2 =>
   split at h
   ·next v h3=>exact⟨kvs,k,v,by assumption,by assumption,h3,bp.mp h⟩
   ·exact(fM.mp h).elim
  ·exact(fM.mp h).elim
 ·obtain⟨kvs,k,v,h1,h2,h3,h⟩:=h
  rw[h1,h2];simp only[h3];exact bp.mpr h
def zV{neg:Bool}{fd fy:ao->Dm D}:Wp (wc neg fy fd δ st) Q↔Wp (fy δ st) λy st1=>Wp (fd δ st1) λx st2=>∃kvs k,kr st2 x=some kvs/\keyOf y=some k/\Q (.bl (if neg then !(dZ kvs k).isSome else(dZ kvs k).isSome)) st2:=by
 unfold wc;rw[cN];simp only[cN];constructor<;>refineλh=>aQ h λx s h=>aQ h λy s2 h=>?_
 ·split at h
  ·next kvs k h1 h2=>exact⟨kvs,k,by assumption,by assumption,bp.mp h⟩
  ·exact(fM.mp h).elim
 ·obtain⟨kvs,k,h1,h2,h⟩:=h
  rw[h1,h2];exact bp.mpr h
def V4{R:List (D×D)->Store->Prop}:Wp (Ec δ st) R↔R [] st:=bp
def V5{fk fv:ao->Dm D}{fr:ao->Dm (List (D×D))}{R:List (D×D)->Store->Prop}:Wp (uD fk fv fr δ st) R↔Wp (fk δ st) λk st1=>Wp (fv δ st1) λv st2=>Wp (fr δ st2) λr st3=>R ((k,v) :: r) st3:=by unfold uD;rw[cN];simp only[cN,bp]
def V6{fp:ao->Dm (List (D×D))}:Wp (xO fp δ st) Q↔Wp (fp δ (st ++ [.dct []])) λps st2=>st2[st.length]?=some (.dct [])/\∃kvs,keysOf ps=some kvs/\kvs.length<=15/\Q (.ref st.length) (st2.set st.length (.dct (uE [] kvs))):=by
 unfold xO;rw[cN];constructor<;>refineλh=>aQ h λps s h=>?_
 ·split at h
  ·next kvs h1 h2 =>
   rw[pL,bp,fM]at h;split at h
   ·next hl=>exact⟨by assumption,kvs,by assumption,hl,h⟩
   ·exact h.elim
  ·exact(fM.mp h).elim
 ·obtain⟨h1,kvs,h2,h3,h⟩:=h
  rw[h1,h2];simp only[if_pos h3];exact bp.mpr h
def V7{fd fy fv:ao->Dm D}{N B C:ao->Store->Prop}{R:D->Store->Prop}(h:Wp (fv δ st) λv st1=>Wp (fd δ st1) λx st2=>Wp (fy δ st2) λy st3=>∃i kvs k,x=.ref i/\kr st3 x=some kvs/\keyOf y=some k/\lim kvs.length=true/\N δ (st3.set i (.dct (putD kvs k v)))):Ws (sa fd fy fv δ st) N B C R:=by unfold Ws sa;rw[cN];refine aQ h λv st1 h=>?_;rw[cN];refine aQ h λx st2 h=>?_;rw[cN];refine aQ h λy st3 h=>?_;obtain⟨i,kvs,k,rfl,h1,h2,h3,h⟩:=h;rw[h1,h2];simp only[h3];exact bp.mpr h
end
structure Ex(c:List Nat)(st st':Store):Prop where
 len:st.length<=st'.length
 keep:∀(i:Nat) (o:O),st[i]?=some o->i ∉ c->st'[i]?=some o
section
variable {c c':List Nat}{st st1 st2:Store}{i:Nat}{o:O}{ds:List D}
def Ex.refl:Ex c st st:=⟨Zaa _,λ_ _ h _=>h⟩
def Ex.trans(a:Ex c st st1)(b:Ex c st1 st2):Ex c st st2:=⟨Zap a.len b.len,λi o h n=>b.keep i o (a.keep i o h n) n⟩
def Ex.mono(a:Ex c st st1)(h:∀x∈c,x∈c'):Ex c' st st1:=⟨a.len,λi o e n=>a.keep i o e λz=>n (h i z)⟩
def Ex.any(a:Ex [] st st1):Ex c st st1:=a.mono λx h=>nomatch h
def fH{α:Type}{l:List α}{i:Nat}{o:α}(h:l[i]?=some o):i<l.length:=(Z9.mp h).1
def j5{l m:List O}(h:l[i]?=some o):(l ++ m)[i]?=some o:=by rw[Zan (fH h)];exact h
def kg{l:List O}:(l ++ [o])[l.length]?=some o:=by rw[ZaE (Zaa _),Zcp];rfl
def Ex.app(a:Ex c st st1)(m:List O):Ex c st (st1 ++ m):=⟨by rw[Zaf];exact Zap a.len (Nat.le_add_right _ _),λi o h n=>j5 (a.keep i o h n)⟩
def Ex.cg(m:List O):Ex c st (st ++ m):=Ex.refl.app m
def Ex.put(a:Ex c st st1)(h:i∈c):Ex c st (st1.set i o):=⟨by rw[Zbe];exact a.len,λj u e n=>by rw[ZaA (λz=>n (by rw[<- z];exact h))];exact a.keep j u e n⟩
def Ex.loc(a:Ex c st st1)(h:st.length<=i):Ex c st (st1.set i o):=⟨by rw[Zbe];exact a.len,λj u e n=>by rw[ZaA (by have:=fH e;lk)];exact a.keep j u e n⟩
def cQ(h:st[i]?=some (.lst ds)):items st i=some ds:=by unfold items;rw[h]
def V8(h:st[i]?=some (.sJ ds)):items st i=some ds:=by unfold items;rw[h]
def lL(h:st[i]?=some (.lst ds)):own st i=some ds:=by unfold own;rw[h]
def qb:items (st ++ [.lst ds]) st.length=some ds:=cQ kg
def LK:own (st ++ [.lst ds]) st.length=some ds:=lL kg
def V9{o':O}:items (st ++ [.lst ds] ++ [o']) st.length=some ds:=cQ (j5 kg)
def Wa{o':O}:own (st ++ [.lst ds] ++ [o']) st.length=some ds:=lL (j5 kg)
def Wb{o' o2:O}:items (st ++ [.lst ds] ++ [o'] ++ [o2]) st.length=some ds:=cQ (j5 (j5 kg))
def Wc{o' o2:O}:own (st ++ [.lst ds] ++ [o'] ++ [o2]) st.length=some ds:=lL (j5 (j5 kg))
def Wd{lo hi:Int}:j4 (st ++ [.ki lo hi]) (.ref st.length)=some (lo,hi):=by simp only[j4,kg]
def Qa:cS st (.tup ds)=some ds:=rfl
def HF:cS st (.ref i)=items st i:=rfl
def qV(h:(items st i).isSome=true):xH "list" st (.ref i)=true:=by simp only[xH,h];rfl
def HG:xH "tuple" st (.tup ds)=true:=by simp only[xH];rfl
def jg{n:Nat}(h:n<=100000):lim n=true:=Nat.ble_eq_true_of_le h
end
section
variable {st:Store}{Q:D->Store->Prop}{i j:Int}{k:Nat}{ds es:List D}
def Wf{a:D}:Wp (fG [a] st) Q↔∃p,j4 st a=some p/\sO p.1 p.2=true/\Q (.ref st.length) (st ++ [.lst (aF p.1 (p.2-p.1).toNat)]):=by
 show Wp (match j4 st a with|some (lo,hi)=>if sO lo hi=true then some (D.ref st.length,st ++ [O.lst (aF lo (hi-lo).toNat)])else none|none=>none) Q↔_;cases j4 st a with
 |none=>rw[fM];exact⟨False.elim,λ⟨_,e,_⟩=>by cases e⟩
 |some p =>
  obtain⟨lo,hi⟩:=p;show Wp (if sO lo hi=true then some (D.ref st.length,st ++ [O.lst (aF lo (hi-lo).toNat)])else none) Q↔_;rw[pL,bp,fM];split
  ·next h=>exact⟨λq=>⟨_,rfl,h,q⟩,λ⟨_,e,_,q⟩=>by cases e;exact q⟩
  ·next h=>exact⟨False.elim,λ⟨_,e,q,_⟩=>by cases e;exact h q⟩
def Wg{a:D}:Wp (vZ [a] st) Q↔∃p,j4 st a=some p/\sO p.1 p.2=true/\Q (.tup (aF p.1 (p.2-p.1).toNat)) st:=by
 show Wp (match j4 st a with|some (lo,hi)=>if sO lo hi=true then some (D.tup (aF lo (hi-lo).toNat),st)else none|none=>none) Q↔_;cases j4 st a with
 |none=>rw[fM];exact⟨False.elim,λ⟨_,e,_⟩=>by cases e⟩
 |some p =>
  obtain⟨lo,hi⟩:=p;show Wp (if sO lo hi=true then some (D.tup (aF lo (hi-lo).toNat),st)else none) Q↔_;rw[pL,bp,fM];split
  ·next h=>exact⟨λq=>⟨_,rfl,h,q⟩,λ⟨_,e,_,q⟩=>by cases e;exact q⟩
  ·next h=>exact⟨False.elim,λ⟨_,e,q,_⟩=>by cases e;exact h q⟩
def zW:Wp (qR (.ref k) (.int j) st) Q↔∃xs,own st k=some xs/\(-9223372036854775808<=j/\j<9223372036854775808)/\lim (xs.length*j.toNat)=true/\Q (.ref st.length) (st ++ [.lst (List.replicate j.toNat xs).flatten]):=by
 show Wp (match own st k with|some a=>if(decide (-9223372036854775808<=j/\j<9223372036854775808) && lim (a.length*j.toNat))=true then some (D.ref st.length,st ++ [O.lst (List.replicate j.toNat a).flatten])else none|_=>none) Q↔_;cases own st k with
 |none=>simp only[fM];exact⟨False.elim,λ⟨_,e,_⟩=>by cases e⟩
 |some xs =>
  show Wp (if(decide (-9223372036854775808<=j/\j<9223372036854775808) && lim (xs.length*j.toNat))=true then some (D.ref st.length,st ++ [O.lst (List.replicate j.toNat xs).flatten])else none) Q↔_;rw[pL,bp,fM];split
  ·next h=>rw[ZaB,decide_eq_true_eq]at h;exact⟨λq=>⟨_,rfl,h.1,h.2,q⟩,λ⟨_,e,_,_,q⟩=>by cases e;exact q⟩
  ·next h=>rw[ZaB,decide_eq_true_eq]at h;exact⟨False.elim,λ⟨_,e,q,q',_⟩=>by cases e;exact h ⟨q,q'⟩⟩
def Wi:Wp (nh (.ref k) [.int i] st) Q↔∃xs j y,own st k=some xs/\(-9223372036854775808<=i/\i<9223372036854775808)/\seqIndex? i xs.length=some j/\xs[j]?=some y/\Q y (st.set k (.lst (xs.eraseIdx j))):=by
 constructor
 ·rintro⟨a,s,e,q⟩
  simp only[nh]at e;split at e
  ·next xs hx =>
   split at e
   ·next hk =>
    split at e
    ·next j hj =>
     split at e
     ·next y hy=>cases e;exact⟨xs,j,_,hx,of_decide_eq_true hk,hj,hy,q⟩
     ·cases e
    ·cases e
   ·cases e
  ·cases e
 ·rintro⟨xs,j,y,hx,hk,hj,hy,q⟩
  refine⟨_,_,?_,q⟩;simp only[nh,hx,hj,hy,decide_eq_true hk];rfl
def Wj{b:Nat}:Wp (kS (.ref k) [.ref b] st) Q↔∃xs ys,own st k=some xs/\own st b=some ys/\lim (xs.length+ys.length)=true/\Q .non (st.set k (.lst (xs ++ ys))):=by
 constructor
 ·rintro⟨a,s,e,q⟩
  simp only[kS]at e;split at e
  ·next xs ys hx hy =>
   split at e
   ·next hl=>cases e;exact⟨xs,ys,hx,hy,hl,q⟩
   ·cases e
  ·cases e
 ·rintro⟨xs,ys,hx,hy,hl,q⟩
  refine⟨_,_,?_,q⟩;simp only[kS,hx,hy,hl];rfl
def Qb{v:Int}:Wp (gK (.tup ds) [.int v] st) Q↔∃ns j,bH iV ds=some ns/\ns.findIdx? (λi=>decide (i=v))=some j/\Q (.int (j:Int)) st:=by
 constructor
 ·rintro⟨a,s,e,q⟩
  simp only[gK]at e;split at e
  ·next ns hn =>
   split at e
   ·next j hj=>cases e;exact⟨ns,j,hn,hj,q⟩
   ·cases e
  ·cases e
 ·rintro⟨ns,j,hn,hj,q⟩
  refine⟨_,_,?_,q⟩;simp only[gK,hn,hj]
def zX:Wp (sP [.ref k] st) Q↔∃ds bs,items st k=some ds/\bH bV ds=some bs/\Q (.bl (bs.all id)) st:=by
 constructor
 ·rintro⟨a,s,e,q⟩
  simp only[sP]at e;split at e
  ·next bs hb =>
   cases e;obtain⟨ds,h1,h2⟩:=Zby.mp hb;exact⟨ds,bs,h1,h2,q⟩
  ·cases e
 ·rintro⟨ds,bs,h1,h2,q⟩
  refine⟨_,_,?_,q⟩;simp only[sP,h1,ZbD,h2]
def Ed{neg:Bool}{a c:D}:Wp (sN neg a c st) Q↔∃x ds vs,sV a=some x/\cS st c=some ds/\bH sV ds=some vs/\Q (.bl (if neg then !wX x vs else wX x vs)) st:=by
 constructor
 ·rintro⟨b,s,e,q⟩
  simp only[sN]at e;split at e
  ·next x vs h1 h2 =>
   cases e;obtain⟨ds,h3,h4⟩:=Zby.mp h2;exact⟨x,ds,vs,h1,h3,h4,q⟩
  ·cases e
 ·rintro⟨x,ds,vs,h1,h2,h3,q⟩
  refine⟨_,_,?_,q⟩;simp only[sN,h1,h2,ZbD,h3]
def Qc(ns:List Int):bH sV (ns.map D.int)=some (ns.map V.int):=sM (f:=sV) (g:=D.int) (k:=V.int) (λ_=>rfl) ns
def Qd(ns:List Int):bH iV (ns.map D.int)=some ns:=by have:=sM (f:=iV) (g:=D.int) (k:=id) (λ_=>rfl) ns;rw[this,Zcf]
def HI{neg:Bool}{a b:D}:Wp (jn neg a b st) Q↔∃p q,cK st 20 a=some p/\cK st 20 b=some q/\(PyData.canLay0 p=true/\PyData.canLay0 q=true/\min p.depth q.depth<=60)/\Q (.bl (if neg then !PyData.eqv p q else PyData.eqv p q)) st:=by
 constructor
 ·rintro⟨c,s,e,q⟩
  simp only[jn]at e;split at e
  ·next x y h1 h2 =>
   split at e
   ·next hs =>
    cases e;rw[ZaB,ZaB,decide_eq_true_eq]at hs;exact⟨x,y,h1,h2,⟨hs.1.1,hs.1.2,hs.2⟩,q⟩
   ·cases e
  ·cases e
 ·rintro⟨x,y,h1,h2,⟨h3,h4,h5⟩,q⟩
  refine⟨_,_,?_,q⟩;simp only[jn,h1,h2,h3,h4,decide_eq_true h5];rfl
def zY{z:Str}:Wp (zo (.str z) (.int i) st) Q↔∃c,lim z.length=true/\gD z.cps.toList i=some c/\Q (.str ⟨#[c]⟩) st:=by
 constructor
 ·rintro⟨c,s,e,q⟩
  simp only[zo]at e;split at e
  ·next h1 =>
   split at e
   ·next c hc=>cases e;exact⟨c,h1,hc,q⟩
   ·cases e
  ·cases e
 ·rintro⟨c,h1,h2,q⟩
  refine⟨_,_,?_,q⟩;simp only[zo,h1,h2];rfl
def Wk{δ:ao}{fa:ao->Dm (List D)}{R:Src->Store->Prop}:Wp (bZ fa δ st) R↔Wp (fa δ st) λas st1=>∃j,as=[.int j]/\(-4611686018427387904<=j/\j<4611686018427387904)/\R (.fix (aF 0 j.toNat)) st1:=by
 unfold bZ;rw[cN];constructor<;>refineλh=>aQ h λas s h=>?_
 ·split at h
  ·next j =>
   rw[pL,bp,fM]at h;split at h
   ·next hk=>exact⟨j,rfl,of_decide_eq_true hk,h⟩
   ·exact h.elim
  ·exact(fM.mp h).elim
 ·obtain⟨j,rfl,h1,h⟩:=h
  simp only[decide_eq_true h1,if_true];exact bp.mpr h
def Wl{δ:ao}{fa:ao->Dm (List D)}{R:Src->Store->Prop}:Wp (uy fa δ st) R↔Wp (fa δ st) λas st1=>∃i j,as=[.int i,.int j]/\((-4611686018427387904<=i/\i<4611686018427387904)/\-4611686018427387904<=j/\j<4611686018427387904)/\R (.fix (aF i (j-i).toNat)) st1:=by
 unfold uy;rw[cN];constructor<;>refineλh=>aQ h λas s h=>?_
 ·split at h
  ·next i j =>
   rw[pL,bp,fM]at h;split at h
   ·next hk=>exact⟨i,j,rfl,of_decide_eq_true hk,h⟩
   ·exact h.elim
  ·exact(fM.mp h).elim
 ·obtain⟨i,j,rfl,h1,h⟩:=h
  simp only[decide_eq_true h1,if_true];exact bp.mpr h
def Wm{δ:ao}{fa:ao->Dm D}{R:Src->Store->Prop}:Wp (bY fa δ st) R↔Wp (fa δ st) λa st1=>∃ds,a=.tup ds/\R (.fix ds) st1:=by unfold bY;rw[cN];constructor<;>refineλh=>aQ h λa s h=>?_;cases a<;>simp only[bp,fM]at h;exact⟨_,rfl,h⟩;obtain⟨j,rfl,h⟩:=h;exact bp.mpr h
def Wn{δ:ao}{fa:ao->Dm D}{R:Src->Store->Prop}:Wp (ko fa δ st) R↔Wp (fa δ st) λa st1=>∃i ds,a=.ref i/\items st1 i=some ds/\R (.live i) st1:=by
 unfold ko;rw[cN];constructor<;>refineλh=>aQ h λa s h=>?_
 ·split at h
  ·split at h
   ·next i ds hd=>exact⟨_,ds,rfl,hd,bp.mp h⟩
   ·exact(fM.mp h).elim
  ·exact(fM.mp h).elim
 ·obtain⟨i,ds,rfl,hd,h⟩:=h
  simp only[hd];exact bp.mpr h
def Wo{δ:ao}{fa:ao->Dm (List D)}{R:Src->Store->Prop}:Wp (oD fa δ st) R↔Wp (fa δ st) λas st1=>∃ds,as=[.tup ds]/\R (.fix (nI ds)) st1:=by unfold oD;rw[cN];constructor<;>refineλh=>aQ h λas s h=>?_;split at h;exact⟨_,rfl,bp.mp h⟩;exact(fM.mp h).elim;obtain⟨ds,rfl,h⟩:=h;exact bp.mpr h
def HJ{i:Nat}{d:D}{δ:ao}{R:ao->Store->Prop}:Wp (hName i d δ st) R↔R (δ.set i (some d)) st:=bp
def Wq{δ:ao}{R:ao->Store->Prop}:Wp (oC [] δ st) R↔R δ st:=bp
def Wr{f:D->ao->Dm ao}{g:List D->ao->Dm ao}{d:D}{ds:List D}{δ:ao}{R:ao->Store->Prop}:Wp (cU f g (d :: ds) δ st) R↔Wp (f d δ st) λδ1 st1=>Wp (g ds δ1 st1) R:=cN
def Wt{n:Nat}{f:List D->ao->Dm ao}{ds:List D}{δ:ao}{R:ao->Store->Prop}:Wp (nQ n f (.tup ds) δ st) R↔ds.length=n/\Wp (f ds δ st) R:=by
 show Wp (if ds.length=n then f ds δ st else none) R↔_;rw[pL,fM];split
 ·next h=>exact⟨λq=>⟨h,q⟩,λq=>q.2⟩
 ·next h=>exact⟨False.elim,λq=>h q.1⟩
def Wu{fo fi:ao->Dm D}{d:D}{δ:ao}{R:ao->Store->Prop}:Wp (hSub fo fi d δ st) R↔Wp (fo δ st) λo st1=>Wp (fi δ st1) λi st2=>∃r k xs j,o=.ref r/\i=.int k/\own st2 r=some xs/\mP xs.length k=some j/\R δ (st2.set r (.lst (xs.set j d))):=by
 unfold hSub;rw[cN];simp only[cN];constructor<;>refineλh=>aQ h λo s h=>aQ h λi s2 h=>?_
 ·split at h
  ·split at h
   ·next xs hx =>
    split at h
    ·next j hj=>exact⟨_,_,xs,j,rfl,rfl,hx,hj,bp.mp h⟩
    ·exact(fM.mp h).elim
   ·exact(fM.mp h).elim
  ·exact(fM.mp h).elim
 ·obtain⟨r,k,xs,j,rfl,rfl,hx,hj,h⟩:=h
  simp only[hx,hj];exact bp.mpr h
def Wv{a:D}{c:String}:Wp (pJ [a,.ty c] st) Q↔DY st a=some c/\Q (.bl true) st:=by
 constructor
 ·rintro⟨b,s,e,q⟩
  simp only[pJ]at e;split at e
  ·next T hT =>
   split at e
   ·next h=>cases e;subst h;exact⟨hT,q⟩
   ·cases e
  ·cases e
 ·rintro⟨h,q⟩
  refine⟨_,_,?_,q⟩;simp only[pJ,h,if_true]
def LL{δ:ao}{R:Bool->Store->Prop}:Wp (cu δ st) R↔R true st:=bp
end
def LM{α:Type}(x:α)(xs:List α):gD (x :: xs) 0=some x:=by unfold gD mP;rw[if_pos ∅,if_pos (by simp only[ZaG];lk)];rfl
def LN{α:Type}(x y:α)(xs:List α):gD (x :: y :: xs) 1=some y:=by unfold gD mP;rw[if_pos ∅,if_pos (by simp only[ZaG];lk)];rfl
def zZ{α:Type}{a:α}{l:List α}:(a :: l)[0]?=some a:=List.getElem?_cons_zero
def Aa{α:Type}{a:α}{l:List α}{i:Nat}:(a :: l)[i+1]?=l[i]?:=List.getElem?_cons_succ
def Ab{α:Type}{a b:α}{l:List α}:(a :: l).set 0 b=b :: l:=List.set_cons_zero
def Ac{α:Type}{a b:α}{l:List α}{i:Nat}:(a :: l).set (i+1) b=a :: l.set i b:=List.set_cons_succ
def Ad{α:Type}(a b:α):(some a=some b)=(a=b):=Option.some.injEq a b
def Ee{α:Type}{p:α->Prop}{a':α}:(∃a,a'=a/\p a)↔p a':=exists_eq_left'
def LO{α:Type}{p:α->Prop}{a':α}:(∃a,a=a'/\p a)↔p a':=exists_eq_left
def Ef{α:Type}{p:α->Prop}{b:Prop}:(∃x,b/\p x)↔b/\∃x,p x:=exists_and_left
def Eg(a b:Int):(D.int a=D.int b)=(a=b):=D.int.injEq a b
def LP(a b:Bool):(D.bl a=D.bl b)=(a=b):=D.bl.injEq a b
def Eh(a b:Str):(D.str a=D.str b)=(a=b):=D.str.injEq a b
def Ei(a b:List D):(D.tup a=D.tup b)=(a=b):=D.tup.injEq a b
def Ej(a b:Nat):(D.ref a=D.ref b)=(a=b):=D.ref.injEq a b
def Ae{α:Type}(a:α)(l:List α)(b:α)(m:List α):(a :: l=b :: m)=(a=b/\l=m):=List.cons.injEq a l b m
def Af{α β:Type}(a:α)(b:β)(c:α)(d:β):((a,b)=(c,d))=(a=c/\b=d):=Prod.mk.injEq a b c d
def Ag(p:Prop):(p/\True)=p:=and_true p
def Ah(p:Prop):(True/\p)=p:=true_and p
def Ai:(!true)=false:=rfl
def Aj:(!false)=true:=rfl
def LQ:(false=true)=False:=by simp
def Ek{α:Type}{h:Decidable False}(t e:α):@ite α False h t e=e:=if_false t e
def El{α:Type}{h:Decidable True}(t e:α):@ite α True h t e=t:=if_true t e
abbrev a9:=And.intro @zz (And.intro @LI (And.intro @D2 (And.intro @D3 (And.intro @D4 (And.intro @zA (And.intro @VF (And.intro @zB (And.intro @zC (And.intro @VG (And.intro @zD (And.intro @zE (And.intro @D5 (And.intro @xM (And.intro @VH (And.intro @zF (And.intro @VI (And.intro @VJ (And.intro @VL (And.intro @D6 (And.intro @D7 (And.intro @zG (And.intro @zH (And.intro @D8 (And.intro @D9 (And.intro @Ea (And.intro @Eb (And.intro @zI (And.intro @zJ (And.intro @VM (And.intro @zK (And.intro @zL (And.intro @zM (And.intro @zN (And.intro @zO (And.intro @zP (And.intro @zQ (And.intro @zR (And.intro @VN (And.intro @zS (And.intro @zT (And.intro @VO (And.intro @VP (And.intro @VQ (And.intro @VR (And.intro @VS (And.intro @VT (And.intro @VU (And.intro @VW (And.intro @VX (And.intro @V2 (And.intro @V3 (And.intro @zV (And.intro @V4 (And.intro @V5 (And.intro @V6 (And.intro @qb (And.intro @LK (And.intro @V9 (And.intro @Wa (And.intro @Wb (And.intro @Wc (And.intro @Wd (And.intro @Qa (And.intro @HF (And.intro @Wf (And.intro @Wg (And.intro @zW (And.intro @Wi (And.intro @Wj (And.intro @Qb (And.intro @zX (And.intro @zY (And.intro @Wk (And.intro @Wl (And.intro @Wm (And.intro @Wn (And.intro @Wo (And.intro @HJ (And.intro @Wq (And.intro @Wr (And.intro @Wt (And.intro @Wu (And.intro @Wv (And.intro @LL (And.intro @LM (And.intro @LN (And.intro @zZ (And.intro @Aa (And.intro @Ab (And.intro @Ac (And.intro @Ad (And.intro @Ee (And.intro @LO (And.intro @Ef (And.intro @Eg (And.intro @LP (And.intro @Eh (And.intro @Ei (And.intro @Ej (And.intro @Ae (And.intro @Af (And.intro @Ag (And.intro @Ah (And.intro @Ai (And.intro @Aj (And.intro @LQ (And.intro @Ek (@El))))))))))))))))))))))))))))))))))))))))))))))))))))))))))))))))))))))))))))))))))))))))))))))))))))))))))))
def bA{α:Type}{m:Option (α×Store)}{Q:α->Store->Prop}(h:∀Q':α->Store->Prop,(∀a st,Q a st->Q' a st)->Wp m Q'):Wp m Q:=h Q λ_ _ h=>h
section
variable {st:Store}{Q:D->Store->Prop}
def Qe(n:Nat)(L:List Int):bH (cK st (n+1)) (L.map D.int)=some (cx L):=sM (f:=cK st (n+1)) (g:=D.int) (k:=PyData.int) (λ_=>by simp only[cK]) L
def HK(a b:List PyData):PyData.eqv (.list a) (.list b)=PyData.eqvAll a b:=by simp only[PyData.eqv]
def HL(a b:List PyData):PyData.eqv (.tuple a) (.tuple b)=PyData.eqvAll a b:=by simp only[PyData.eqv]
def LR{neg:Bool}{a b:Nat}{L M:List Int}(ha:items st a=some (L.map D.int))(hb:items st b=some (M.map D.int)):Wp (jn neg (.ref a) (.ref b) st) Q↔Q (.bl (if neg then !decide (L=M)else decide (L=M))) st:=by
 have p1:∀(i:Nat) (N:List Int),items st i=some (N.map D.int)->cK st 20 (.ref i)=some (.list (cx N)):=λi N h=>by
  simp only[cK,h];rw[Qe];rfl
 have dp:∀N:List Int,PyData.depth (.list (cx N))<=1:=λN=>by show PyData.depthAll (cx N)+1<=1;rw[yA];lk
 rw[HI];constructor;rintro⟨p,q,h1,h2,_,h⟩;rw[p1 a L ha]at h1;rw[p1 b M hb]at h2;cases h1;cases h2;rw[HK,yB]at h;exact h;intro h;refine⟨_,_,p1 a L ha,p1 b M hb,⟨vz L,vz M,by have:=dp L;lk⟩,?_⟩;rw[HK,yB];exact h
def Qf{neg:Bool}{L M:List Int}:Wp (jn neg (.tup (L.map D.int)) (.tup (M.map D.int)) st) Q↔Q (.bl (if neg then !decide (L=M)else decide (L=M))) st:=by
 have p1:∀(N:List Int),cK st 20 (.tup (N.map D.int))=some (.tuple (cx N)):=λN=>by
  simp only[cK];rw[Qe];rfl
 have dp:∀N:List Int,PyData.depth (.tuple (cx N))<=1:=λN=>by show PyData.depthAll (cx N)+1<=1;rw[yA];lk
 rw[HI];constructor;rintro⟨p,q,h1,h2,_,h⟩;rw[p1 L]at h1;rw[p1 M]at h2;cases h1;cases h2;rw[HL,yB]at h;exact h;intro h;refine⟨_,_,p1 L,p1 M,⟨vz L,vz M,by have:=dp L;lk⟩,?_⟩;rw[HL,yB];exact h
abbrev wj(rs:List (List Int)):D:=.tup (rs.map λr=>.tup (r.map D.int))
def LS:∀(rs ss:List (List Int)),PyData.eqvAll (rs.map lP) (ss.map lP)=decide (rs=ss)
 |[],[]=>rfl
 |[],_ :: _=>rfl
 |_ :: _,[]=>rfl
 |r :: rs,s :: ss=>by
  show(PyData.eqv (lP r) (lP s) && PyData.eqvAll (rs.map lP) (ss.map lP))=decide (r :: rs=s :: ss);rw[LS rs ss];unfold lP;rw[HL,yB];by_cases h:r=s;subst h;simp;simp[h]
end
abbrev bP(st:Store)(f:Nat):Prop:=∃o m:Int,st[f]?=some (.lst [.int o,.int m])/\0<=o/\0<=m/\m<4294967296
def Em:mP 2 0=some 0:=by decide
def En:mP 2 1=some 1:=by decide
def qW(n:Nat):aF 0 n=(af.upto n).map D.int:=by unfold aF af.upto;rw[Zat];apply ZaX;intro i _;simp
def Ww(L:List Int)(j:Nat):(L.map D.int).eraseIdx j=(L.eraseIdx j).map D.int:=by
 induction L generalizing j with
 |nil=>rfl
 |cons a r ih =>
  cases j with
  |zero=>rfl
  |succ j=>show D.int a :: (r.map D.int).eraseIdx j=_;rw[ih];rfl
def Wx{L:List Int}{j:Nat}(h:j<L.length):(L[j] :: L.eraseIdx j).Perm L:=by
 induction L generalizing j with
 |nil=>exact absurd h (ZaZ _)
 |cons a r ih =>
  cases j with
  |zero=>exact Zbo _
  |succ j =>
   have:=ih (j:=j) (by simpa using h);exact(List.Perm.swap _ _ _).trans (this.cons a)
def bP.keep{st st':Store}{f:Nat}(h:bP st f)(e:Ex [] st st'):bP st' f:=by obtain⟨o,m,e1,r⟩:=h;exact⟨o,m,e.keep _ _ e1 (by simp),r⟩
def bP.ne{st:Store}{f i:Nat}{o:O}(h:bP st f)(hi:i≠f):bP (st.set i o) f:=by obtain⟨x,m,e1,r⟩:=h;exact⟨x,m,by rw[ZaA hi];exact e1,r⟩
def bP.lt{st:Store}{f:Nat}(h:bP st f):f<st.length:=let ⟨_,_,e,_⟩:=h;fH e
def pe{xs:List Int}{i:Int}(h0:0<=i)(h1:i<(xs.length:Int)):gD (xs.map D.int) i=some (.int (af.app xs i)):=by
 have e:(xs.map D.int)[i.toNat]?=some (.int (af.app xs i)):=by rw[Zae,af.qh h0 h1];rfl
 have:=tQ e
 rwa [ZaI h0]at this
def HM{xs:List Int}{i:Nat}{d:D}(h:(xs.map D.int)[i]?=some d):∃x,xs[i]?=some x/\d=.int x:=by rw[Zae]at h;obtain⟨x,h1,h2⟩:=Zaz.mp h;exact⟨x,h1,h2.symm⟩
def LU(x:Int):∀(ns:List Int),wX (.int x) (ns.map V.int)=ns.contains x
 |[]=>rfl
 |n :: r=>by
  have e:=LU x r;unfold wX at e ⊢;rw[Zaq,Zbj,e,List.contains_cons]
  congr 1
  show(n == x)=(x == n);exact Bool.beq_comm
def Eo{st:Store}{Q:D->Store->Prop}{neg:Bool}{x:Int}{c:D}{ns:List Int}(hc:cS st c=some (ns.map D.int)):Wp (sN neg (.int x) c st) Q↔Q (.bl (if neg then !ns.contains x else ns.contains x)) st:=by rw[Ed];constructor;rintro⟨v,ds,vs,h1,h2,h3,h⟩;cases h1;rw[hc]at h2;cases h2;rw[Qc]at h3;cases h3;rw[LU]at h;exact h;intro h;refine⟨_,_,_,rfl,hc,Qc ns,?_⟩;rw[LU];exact h
abbrev bE(xs ys:List Int):D:=.tup [.tup (xs.map D.int),.tup (ys.map D.int)]
structure pO(nt st:Store)(f r u:Nat)(n:Nat)(X Y:List Int):Prop where
 hr:st[r]?=some (.lst (X.map D.int))
 hu:st[u]?=some (.lst (Y.map D.int))
 ne:r≠u
 r0:nt.length<=r
 u0:nt.length<=u
 tX:af.Tn n X
 tY:af.Tn n Y
 fd:bP st f
 ex:Ex [f] nt st
section
variable {nt st st':Store}{f r u n:Nat}{X Y Z:List Int}{o:O}
def pO.keep(h:pO nt st f r u n X Y)(e:Ex [] st st'):pO nt st' f r u n X Y:=⟨e.keep _ _ h.hr (by simp),e.keep _ _ h.hu (by simp),h.ne,h.r0,h.u0,h.tX,h.tY,h.fd.keep e,h.ex.trans e.any⟩
def pO.Ak(h:pO nt st f r u n X Y)(t:af.Tn n Z):pO nt (st ++ [.lst (Z.map D.int)]) f st.length u n Z Y:=⟨kg,j5 h.hu,by have:=fH h.hu;lk,h.ex.len,h.u0,t,h.tY,h.fd.keep (Ex.cg _),h.ex.app _⟩
def pO.Al(h:pO nt st f r u n X Y)(t:af.Tn n Z):pO nt (st ++ [.lst (Z.map D.int)]) f r st.length n X Z:=⟨j5 h.hr,kg,by have:=fH h.hr;lk,h.r0,h.ex.len,h.tX,t,h.fd.keep (Ex.cg _),h.ex.app _⟩
def pO.put(h:pO nt st f r u n X Y)(t:af.Tn n Z)(hf:f<nt.length):pO nt (st.set r (.lst (Z.map D.int))) f r u n Z Y:=⟨Zal (fH h.hr),by rw[ZaA h.ne];exact h.hu,h.ne,h.r0,h.u0,t,h.tY,h.fd.ne (by have:=h.r0;lk),h.ex.loc h.r0⟩
end
def Qg(n:Nat):(af.rL n).map D.int=aF 1 ((n:Int)-1).toNat ++ [.int 0]:=by unfold af.rL aF;rw[Zau,Zat,show((n:Int)-1).toNat=n-1 by lk];rfl
def xP{lo hi:Int}(h:0<=lo/\lo<=10000/\0<=hi/\hi<=10000):sO lo hi=true:=by unfold sO;rw[ZaB,decide_eq_true_eq];exact⟨by lk,jg ⋯⟩
def Am(w n:Nat):(af.uk w n).map D.int=aF 1 ((w:Int)-1).toNat ++ [.int 0] ++ aF (w:Int) ((n:Int)-(w:Int)).toNat:=by unfold af.uk aF;rw[Zau,Zau,Zat,Zat,show((w:Int)-1).toNat=w-1 by lk,show((n:Int)-(w:Int)).toNat=n-w by lk];rfl
def Qh(xs:List D)(j:Nat):cutD xs none (some (j:Int))=xs.take j:=by unfold cutD;rw[HT.Sn,HT.Sq,List.drop_zero,Nat.sub_zero,List.take_eq_take_iff];lk
def An{w n:Nat}(h0:0<w)(h:w<n):(af.vH w n).map D.int=cutD ([D.int (w:Int)] ++ aF 1 ((w:Int)-1).toNat ++ aF ((w:Int)+1) ((n:Int)-((w:Int)+1)).toNat ++ [.int 0]) none (some (n:Int)):=by rw[Qh,List.take_of_length_le (by simp[ka];lk)];unfold af.vH aF;rw[Zau,Zau,Zau,Zat,Zat,show((w:Int)-1).toNat=w-1 by lk,show((n:Int)-((w:Int)+1)).toNat=n-(w+1) by lk];rfl
abbrev nu(n:Nat)(xs ys:List Int):Prop:=af.Tn n xs/\af.Tn n ys/\∀x:Int,0<=x->x<(n:Int)->af.i6 xs ys x
def Qi{xs:List Int}{v:Int}(h:v∈xs):xs.findIdx? (λi=>decide (i=v))=some (xs.idxOf v):=by
 induction xs with
 |nil=>exact nomatch h
 |cons a r ih =>
  rw[List.findIdx?_cons];by_cases e:a=v;subst e;simp;have hm:v∈r:=by
   rcases Zax.mp h with h|h
   exact absurd h.symm e;exact h
  rw[decide_eq_false e,ih hm,List.idxOf_cons,show(a == v)=false by simpa using e];rfl
def Wy{xs:List D}{lo hi:Option Int}{d:D}(h:d∈cutD xs lo hi):d∈xs:=List.mem_of_mem_drop (List.mem_of_mem_take h)
def Wz(xs:List D)(lo hi:Option Int):(cutD xs lo hi).length<=xs.length:=by unfold cutD;rw[Za0,List.length_drop];lk
abbrev nJ(S:Src)(ds:List D)(st:Store):Prop:=∀(i:Nat) (st2:Store),i<=ds.length->Ex [] st st2->S.at i st2=some ds[i]?
def HN{st st':Store}{r:Nat}{ds:List D}(h:items st r=some ds)(e:Ex [] st st'):items st' r=some ds:=by
 unfold items at h ⊢;cases hx:st[r]? with
 |none=>rw[hx]at h;cases h
 |some o=>rw[e.keep _ _ hx (by simp)];rw[hx]at h;exact h
def pP(ds:List D)(st:Store):nJ (.fix ds) ds st:=λi st2 hi _=>by
 show(if i<=ds.length then some ds[i]? else none)=_;rw[if_pos hi]
def WA{ds:List D}{st:Store}{r:Nat}(h:items st r=some ds):nJ (.live r) ds st:=λi st2 hi e=>by
 show(items st2 r).map _=_;rw[HN h e];rfl
def tu{δ:ao}{st:Store}{fi:ao->Dm Src}{js:List Nat}{f:ao->Dm D}{Q:D->Store->Prop}(ds:List D)(h:D->D)(hi:Wp (fi δ st) λS st1=>nJ S ds st1/\Ex [] st st1)(hl:ds.length<100000)
  (step:∀d∈ds,∀st1,Ex [] st st1->Wp (f (some d :: js.map λj=>δ.getD j none) st1) λy st2=>y=h d/\Ex [] st1 st2) (fin:∀st',Ex [] st st'->Q (.ref st'.length) (st' ++ [.lst (ds.map h)])):Wp (bJ fi 1 js (hName 0) cu f δ st) Q:=by
 obtain⟨S,st1,e1,hS,k1⟩:=hi;refine HE ds (λi ys δ' kc=>(∃v,δ'=v :: js.map λj=>δ.getD j none)/\ys=(ds.take i).map h/\Ex [] st1 kc) ⟨S,st1,e1,λi ys δ' kc hi' hp=>hS i kc hi' hp.2.2,⟨none,rfl⟩,rfl,Ex.refl⟩ hl ?_ ?_ ?_;rintro i ys δ' kc ⟨_,rfl,_⟩;rw[Z7,Za0];lk;rintro i d ys δ' kc hd ⟨⟨v,rfl⟩,rfl,k8⟩;rw[HJ];show Wp (cu _ _) _;rw[LL];refine⟨λ_=>?_,λh=>absurd h ∅⟩;refine aQ (step d (Zab hd) kc (k1.trans k8)) ?_;rintro y qa ⟨rfl,k9⟩;refine⟨⟨some d,rfl⟩,?_,k8.trans k9⟩;obtain⟨hlt,e⟩:=Z9.mp hd;rw[ZaJ hlt,Zau,e];rfl;rintro ys δ' kc ⟨_,rfl,k8⟩;rw[Za6];exact fin kc (k1.trans k8)
def uF{xs:List Int}{d:D}(h:d∈xs.map D.int):∃x∈xs,d=.int x:=by obtain⟨x,hx,rfl⟩:=Zag.mp h;exact⟨x,hx,rfl⟩
def Ao{xs:List Int}{f:Int->Int}{h:D->D}(e:∀x∈xs,h (.int x)=.int (f x)):(xs.map D.int).map h=(xs.map f).map D.int:=by rw[Zat,Zat];exact ZaX λx hx=>e x hx
abbrev inD:D->Int
 |.int i=>i
 |_=>0
section
variable {st:Store}{Q:D->Store->Prop}
def Ap{neg:Bool}{a b c d:Int}:Wp (jn neg (.tup [.int a,.int b]) (.tup [.int c,.int d]) st) Q↔Q (.bl (if neg then !decide ([a,b]=[c,d])else decide ([a,b]=[c,d]))) st:=Qf (L:=[a,b]) (M:=[c,d])
end
def WB(zs:List Int):(zs.map D.int).map inD=zs:=by rw[Zat];exact Zcf zs
def _root_.af.mw{n:Nat}{xs ys p:List Int}(fl:nu n xs ys)(tp:af.Tn n p)(n0:0<n):nu n (af.anew xs p) (af.anew ys p):=by
 obtain⟨tx,ty,all⟩:=fl;have tX:=tx.anew tp;have tY:=ty.anew tp;refine⟨tX,tY,λx x0 x1=>?_⟩;obtain⟨a0,a1⟩:=tp.app (i:=0) ∅ ⋯;have hb:∀y:Int,0<=y->y<(n:Int)->y∈af.bf (af.anew xs p) (af.anew ys p) (af.app p 0) n:=λy y0 y1=>by
  rw[af.Lc tx ty tp ∅ ⋯ n];obtain⟨b0,b1⟩:=tp.lB y0 y1;exact Zag.mpr ⟨af.app (af.inv p) y,af.OV tx ty ∅ ⋯ all b0 b1,tp.bU y0 y1⟩
 have hF:=af.K9 tX tY (s:=0) ∅ ⋯;have nd:=af.yV (af.anew xs p) (af.anew ys p) 0 n;have bd:=af.sX tX tY (s:=0) ∅ ⋯ n;have WC:∀k,∀y∈af.bf (af.anew xs p) (af.anew ys p) 0 k,af.i6 (af.anew xs p) (af.anew ys p) y:=by
  intro k
  induction k with
  |zero=>intro y hy;rw[Zas.mp (show y∈[(0:Int)]from hy)];exact .zero
  |succ k ih =>
   intro y hy;have hy':y∈(match (af.bf (af.anew xs p) (af.anew ys p) 0 k)[k]? with|some x=>af.visit (af.anew xs p) (af.anew ys p) (af.bf (af.anew xs p) (af.anew ys p) 0 k) x|none=>af.bf (af.anew xs p) (af.anew ys p) 0 k):=hy;split at hy'
   ·next z hz =>
    have xy:=ih z (Zab hz);rcases af.rO.mp hy' with hy'|rfl
    ·rcases af.rO.mp hy' with hy'|rfl
     ·exact ih y hy'
     ·exact xy.r
    ·exact xy.u
   ·exact ih y hy'
 refine WC n x ?_;have z0:(0:Int)∈af.bf (af.anew xs p) (af.anew ys p) 0 n:=by
  have:=af.Bo (af.anew xs p) (af.anew ys p) 0 0 n;rw[Zb8]at this;exact this.subset (show(0:Int)∈[(0:Int)] by simp)
 have back:∀k,(∃y∈af.bf (af.anew xs p) (af.anew ys p) (af.app p 0) k,y∈af.bf (af.anew xs p) (af.anew ys p) 0 n)->af.app p 0∈af.bf (af.anew xs p) (af.anew ys p) 0 n:=by
  intro k
  induction k with
  |zero =>
   rintro⟨y,hy,vC⟩;rw[Zas.mp (show y∈[af.app p 0]from hy)]at vC;exact vC
  |succ k ih =>
   rintro⟨y,hy,vC⟩;have hy':y∈(match (af.bf (af.anew xs p) (af.anew ys p) (af.app p 0) k)[k]? with|some x=>af.visit (af.anew xs p) (af.anew ys p) (af.bf (af.anew xs p) (af.anew ys p) (af.app p 0) k) x|none=>af.bf (af.anew xs p) (af.anew ys p) (af.app p 0) k):=hy;split at hy'
   ·next z hz =>
    have Bp:=Zab hz;obtain⟨c0,c1⟩:=af.sX tX tY a0 a1 k z Bp;rcases af.rO.mp hy' with hy'|rfl
    ·rcases af.rO.mp hy' with hy'|rfl
     ·exact ih ⟨y,hy',vC⟩
     ·exact ih ⟨z,Bp,af.yW tX nd bd (λx hx=>(hF x hx).1) c0 c1 vC⟩
    ·exact ih ⟨z,Bp,af.yW tY nd bd (λx hx=>(hF x hx).2) c0 c1 vC⟩
   ·exact ih ⟨y,hy',vC⟩
 have hp0:=back n ⟨0,hb 0 ∅ ⋯,z0⟩;have fwd:∀k,∀y∈af.bf (af.anew xs p) (af.anew ys p) (af.app p 0) k,y∈af.bf (af.anew xs p) (af.anew ys p) 0 n:=by
  intro k
  induction k with
  |zero=>intro y hy;rw[Zas.mp (show y∈[af.app p 0]from hy)];exact hp0
  |succ k ih =>
   intro y hy;have hy':y∈(match (af.bf (af.anew xs p) (af.anew ys p) (af.app p 0) k)[k]? with|some x=>af.visit (af.anew xs p) (af.anew ys p) (af.bf (af.anew xs p) (af.anew ys p) (af.app p 0) k) x|none=>af.bf (af.anew xs p) (af.anew ys p) (af.app p 0) k):=hy;split at hy'
   ·next z hz =>
    have xy:=ih z (Zab hz);rcases af.rO.mp hy' with hy'|rfl
    ·rcases af.rO.mp hy' with hy'|rfl
     ·exact ih y hy'
     ·exact(hF z xy).1
    ·exact(hF z xy).2
   ·exact ih y hy'
 exact fwd n x (hb x x0 x1)
def Aq(p:Key×D)(r:List (Key×D))(k:Key):dZ (p :: r) k=if p.1=k then some p.2 else dZ r k:=by unfold dZ;rw[Za5];by_cases e:p.1=k;rw[decide_eq_true e,if_pos e];rfl;rw[decide_eq_false e,if_neg e]
def WD(kvs:List (Key×D))(k j:Key)(y:D):dZ (putD kvs k y) j=if j=k then some y else dZ kvs j:=by
 unfold putD;by_cases a:(kvs.any λkv=>decide (kv.1=k))=true;rw[if_pos a]
 induction kvs with
 |nil=>simp at a
 |cons p r ih =>
  rw[Zaq,Aq,Aq];by_cases e:p.1=k;rw[if_pos e];by_cases ej:j=k;rw[if_pos ej,if_pos (show(p.1,y).1=j from e.trans ej.symm)];rw[if_neg ej,if_neg (show ¬(p.1,y).1=j fromλz=>ej (z.symm.trans e)),if_neg (λz=>ej (z.symm.trans e))]
  have:∀l:List (Key×D),dZ (l.map λkv=>if kv.1=k then(kv.1,y)else kv) j=dZ l j:=by
   intro l
   induction l with
   |nil=>rfl
   |cons q l ihl =>
    rw[Zaq,Aq,Aq,ihl];by_cases eq:q.1=k;rw[if_pos eq,if_neg (show ¬(q.1,y).1=j fromλz=>ej (z.symm.trans eq)),if_neg (λz=>ej (z.symm.trans eq))];rw[if_neg eq]
  exact this r;rw[if_neg e];have a':(r.any λkv=>decide (kv.1=k))=true:=by
   rw[Zbj,decide_eq_false e,Bool.false_or]at a;exact a
  rw[ih a'];by_cases ej:j=k;rw[if_pos ej,if_neg (λz=>e (z.trans ej)),if_pos ej];rw[if_neg ej,if_neg ej]
 rw[if_neg a]
 induction kvs with
 |nil =>
  show dZ [(k,y)] j=_;rw[Aq];by_cases ej:j=k;rw[if_pos ej.symm,if_pos ej];rw[if_neg (λz=>ej z.symm),if_neg ej]
 |cons p r ih =>
  have a':¬(r.any λkv=>decide (kv.1=k))=true:=λz=>a (by rw[Zbj,z,Bool.or_true]);have ep:p.1≠k:=λz=>a (by rw[Zbj,decide_eq_true z,Bool.true_or]);rw[List.cons_append,Aq,ih a',Aq];by_cases ej:j=k;rw[if_pos ej,if_pos ej,if_neg (λz=>ep (z.trans ej))];rw[if_neg ej,if_neg ej]
def WE(kvs:List (Key×D))(k:Key)(v:D):(putD kvs k v).length<=kvs.length+1:=by unfold putD;split;rw[Z7];lk;rw[Zaf,ZaG,List.length_nil];lk
def Qj{st:Store}{i:Nat}{kvs:List (Key×D)}(h:st[i]?=some (.dct kvs)):kr st (.ref i)=some kvs:=by simp only[kr,h]
def Qk(i:Int):keyOf (.int i)=some (.inl i):=rfl
def WG{r:List Int}{j:Nat}(h:j<r.length)(x:Int):(r.take (j+1)).contains x=((r.take j).contains x || x == r[j]):=by
 rw[ZaJ h,List.contains_append]
 congr 1
 show([r[j]]:List Int).contains x=(x == r[j]);rw[List.contains_cons,List.contains_nil,Bool.or_false]
@[reducible]def gF:=Bool×Int
abbrev b5(s:gF):D:=.tup [.str (if s.1 then "s" else "t"),.int s.2]
section
variable {K:Zfr}
abbrev wm:List D->Dm D
 |[.int i],st=>some (.int (if i<0 then -i else i),st)
 |_,_=>none
def Ar:rT K (λxs H Q=>∃i,xs=[V.int i]/\Q (.int (if i<0 then -i else i)) H) wm:=by intro ρ H st xs as b st' Q l rx e q;unfold wm at e;split at e;cases e;obtain⟨v,rfl,r⟩:=rx.one';cases r;exact⟨_,rfl,q _ H ρ .refl l (.int _)⟩;cases e
end
def at2{α:Type}(x y z:α)(xs:List α):gD (x :: y :: z :: xs) 2=some z:=by unfold gD mP;rw[if_pos ∅,if_pos (by simp only[ZaG];lk)];rfl
def Ql{α:Type}(x y z u:α)(xs:List α):gD (x :: y :: z :: u :: xs) 3=some u:=by unfold gD mP;rw[if_pos ∅,if_pos (by simp only[ZaG];lk)];rfl
def Qm{xs:List Int}{i:Int}{m:Nat}:gD ((af.row xs i m).map D.int) (-1)=some (.int (af.aU xs i m)):=by unfold gD mP;rw[Z7,af.sU,if_neg ∅,if_pos ⋯];simp only[ZbD];rw[show((-1:Int)+((m+1:Nat):Int)).toNat=m by lk,Zae];unfold af.row;rw[Zae,Zbz ⋯];rfl
section
variable {st:Store}{Q:D->Store->Prop}
def As{i:Int}:Wp (wm [.int i] st) Q↔Q (.int (if i<0 then -i else i)) st:=bp
end
def WH{δ:ao}{st:Store}{fi:ao->Dm Src}{js:List Nat}{f:ao->Dm D}{Q:D->Store->Prop}(ds:List D)(P:Nat->D->Prop)(I:Store->Prop)
  (hi:Wp (fi δ st) λS st1=>(∀i st2,i<=ds.length->I st2->S.at i st2=some ds[i]?)/\I st1) (hl:ds.length<100000)
  (step:∀i d,ds[i]?=some d->∀st1,I st1->Wp (f (some d :: js.map λj=>δ.getD j none) st1) λy st2=>P i y/\I st2)
  (fin:∀ys st',I st'->ys.length=ds.length->(∀i y,ys[i]?=some y->P i y)->Q (.ref st'.length) (st' ++ [.lst ys])):Wp (bJ fi 1 js (hName 0) cu f δ st) Q:=by
 obtain⟨S,st1,e1,hS,k1⟩:=hi;refine HE ds (λi ys δ' kc=>(∃v,δ'=v :: js.map λj=>δ.getD j none)/\ys.length=i/\(∀i y,ys[i]?=some y->P i y)/\I kc) ⟨S,st1,e1,λi ys δ' kc hi' hp=>hS i kc hi' hp.2.2.2,⟨none,rfl⟩,rfl,(λi y h=>by simp at h),k1⟩ hl ?_ ?_ ?_;rintro i ys δ' kc ⟨_,h,_⟩;lk;rintro i d ys δ' kc hd ⟨⟨v,rfl⟩,hlen,hP,k8⟩;rw[HJ];show Wp (cu _ _) _;rw[LL];refine⟨λ_=>?_,λh=>absurd h ∅⟩;refine aQ (step i d hd kc k8) ?_;rintro y qa ⟨hp,k9⟩;refine⟨⟨some d,rfl⟩,by rw[Zaf,hlen];rfl,λj z hz=>?_,k9⟩;by_cases hj:j<ys.length;rw[Zan hj]at hz;exact hP j z hz;have hb:=fH hz;rw[Zaf,ZaO]at hb;have e:j=ys.length:=by lk
 subst e;rw[ZaE (Zaa _),Zcp]at hz;cases hz;rw[hlen];exact hp;rintro ys δ' kc ⟨_,hlen,hP,k8⟩;exact fin ys kc k8 hlen hP
def Ex.drop{st st1 st2:Store}{f:Nat}(a:Ex [] st st1)(b:Ex [f] st1 st2)(h:st.length<=f):Ex [] st st2:=⟨Zap a.len b.len,λi o e n=>b.keep i o (a.keep i o e n) (by have:=fH e;simp;lk)⟩
abbrev LV(x:Str):List D:=x.cps.toList.map λc=>.str ⟨#[c]⟩
structure tO(K:Zfr)(mg:Str->Option Value)(x:Str)(v:V)(d:D):Prop where
 ex:∃u,mg x=some u/\RelV v u
 rp:∀(ρ:List Addr) (H:Hp),Rp K ρ H v d
def LW{X:Cx}{K:Zfr}{mg:Str->Option Value}{x:Str}{v:V}{d:D}{pos:Pos}(C:tO K mg x v d)(hg:Gl X x)(hX:X.mg=mg)(hd:(x == ("__debug__" : Str))=false):PE X (.Name x pos) (tC v):=by obtain⟨u,h,r⟩:=C.ex;subst hX;exact RZ hg h r hd
def LX{K:Zfr}{mg:Str->Option Value}{x:Str}{v:V}{d:D}(C:tO K mg x v d):eh K (tC v) (fC d):=vS C.rp
def Qn{K:Zfr}{h:Heap}{mg:Str->Option Value}(X:K.In h)(G:h.Ns mainGlobals mg){x:Str}{a:Addr}{od:Option Addr}{its:Array Value}{n:Nat}{sl:Array (Option Value)}{vs:List V}{ds:List D}(e:PySem.W.nsIn K mainGlobals x=some (some (.ref a)))(l:K.lookup a=some ⟨.type "tuple",od,.seq its n,sl⟩)
  (ho:od=none) (hz:its.size<=sizeLine) (hv:Vals vs its.toList) (hd:∀(ρ:List Addr) (H:Hp),b9 K ρ H vs ds):∃v,tO K mg x v (.tup ds) :=
 ⟨.ref a,⟨_,PySem.W.mg_of X G e,rfl⟩,λρ H=>.tup (.inr ⟨_,its,n,l,rfl,ho,rfl,hz,hv⟩) (hd ρ H)⟩
abbrev pU:Nat->D->Prop
 |_,.int _=>True
 |_,.str x=>PyData.canLay0 (.str x)=true
 |_,.non=>True
 |n+1,.tup ds=>∀d∈ds,pU n d
 |_,_=>False
abbrev nK:Nat->D->PyData
 |_,.int i=>.int i
 |_,.str x=>.str x
 |n+1,.tup ds=>.tuple (ds.map (nK n))
 |_,_=>.none
def LY{α β:Type}{f:α->Option β}{g:α->β}:∀{l:List α},(∀x∈l,f x=some (g x))->bH f l=some (l.map g)
 |[],_=>rfl
 |a :: r,h=>by
  have h1:=h a Zac;have h2:=LY (f:=f) (g:=g) (l:=r) λx hx=>h x (Zah _ hx);simp only[bH,h1,h2,Zaq]
def Au:∀(n:Nat) (d:D),pU n d->∀(m:Nat),n<m->∀st,cK st m d=some (nK n d)
 |n,.int i,_,m+1,_,st=>by cases n<;>rfl
 |n,.str x,_,m+1,_,st=>by cases n<;>rfl
 |n,.non,_,m+1,_,st=>by cases n<;>rfl
 |n,.bl b,h,_,_,_=>by cases n<;>exact h.elim
 |n,.ty b,h,_,_,_=>by cases n<;>exact h.elim
 |n,.ref b,h,_,_,_=>by cases n<;>exact h.elim
 |0,.tup ds,h,_,_,_=>h.elim
 |n+1,.tup ds,h,m+1,hm,st=>by
  simp only[cK];rw[LY (g:=nK n) λx hx=>Au n x (h x hx) m ⋯ st];rfl
def LZ:∀{l:List PyData},(∀x∈l,x.canLay0=true)->PyData.canLayAll0 l=true
 |[],_=>rfl
 |a :: r,h=>by
  simp only[PyData.canLayAll0,h a Zac,LZ λx hx=>h x (Zah _ hx),Bool.and_self]
def L0{n:Nat}:∀{l:List PyData},(∀x∈l,x.depth<=n)->PyData.depthAll l<=n
 |[],_=>ZaM _
 |a :: r,h=>by
  have h1:=h a Zac;have h2:=L0 λx hx=>h x (Zah _ hx);simp only[PyData.depthAll];lk
def Av:∀(n:Nat) (d:D),pU n d->(nK n d).canLay0=true/\(nK n d).depth<=n
 |n,.int i,_=>by cases n<;>exact⟨rfl,ZaM _⟩
 |n,.str x,h=>by cases n<;>exact⟨h,ZaM _⟩
 |n,.non,_=>by cases n<;>exact⟨rfl,ZaM _⟩
 |n,.bl b,h=>by cases n<;>exact h.elim
 |n,.ty b,h=>by cases n<;>exact h.elim
 |n,.ref b,h=>by cases n<;>exact h.elim
 |0,.tup ds,h=>h.elim
 |n+1,.tup ds,h=>by
  refine⟨?_,?_⟩;show PyData.canLayAll0 (ds.map (nK n))=true;exact LZ λx hx=>by
   obtain⟨d,hd,rfl⟩:=Zag.mp hx;exact(Av n d (h d hd)).1
  show PyData.depthAll (ds.map (nK n))+1<=n+1
  have:=L0 (n:=n) (l:=ds.map (nK n)) λx hx=>by
   obtain⟨d,hd,rfl⟩:=Zag.mp hx;exact(Av n d (h d hd)).2
  lk
def Qo{n:Nat}(ih:∀a b:D,pU n a->pU n b->(PyData.eqv (nK n a) (nK n b)=true↔a=b)):∀(l m:List D),(∀x∈l,pU n x)->(∀x∈m,pU n x)->(PyData.eqvAll (l.map (nK n)) (m.map (nK n))=true↔l=m)
 |[],[],_,_=>by simp[PyData.eqvAll]
 |[],_ :: _,_,_=>by simp[PyData.eqvAll]
 |_ :: _,[],_,_=>by simp[PyData.eqvAll]
 |a :: l,b :: m,h1,h2=>by
  have e1:=ih a b (h1 a Zac) (h2 b Zac);have e2:=Qo ih l m (λx hx=>h1 x (Zah _ hx)) λx hx=>h2 x (Zah _ hx);simp only[Zaq,PyData.eqvAll,ZaB,e1,e2,List.cons.injEq]
def L3:∀(n:Nat) (a b:D),pU n a->pU n b->(PyData.eqv (nK n a) (nK n b)=true↔a=b):=by
 intro n
 induction n with
 |zero =>
  intro a b ha hb;cases a<;>first|exact ha.elim|skip
  all_goals (cases b<;>first|exact hb.elim|simp[nK,PyData.eqv])
 |succ n ih =>
  intro a b ha hb;cases a<;>first|exact ha.elim|skip
  all_goals (cases b<;>first|exact hb.elim|skip)
  all_goals first
   |(simp[nK,PyData.eqv];done)
   |skip
  next l m =>
   have:=Qo ih l m ha hb;show PyData.eqv (.tuple (l.map (nK n))) (.tuple (m.map (nK n)))=true↔_;rw[HL,this];constructor
   ·rintro rfl;rfl
   ·intro h;exact D.tup.inj h
open Classical in
def L5{st:Store}{Q:D->Store->Prop}{neg:Bool}{n:Nat}{a b:D}(ha:pU n a)(hb:pU n b)(hn:n<=15):Wp (jn neg a b st) Q↔Q (.bl (if neg then !decide (a=b)else decide (a=b))) st:=by
 have e:PyData.eqv (nK n a) (nK n b)=decide (a=b):=by
  have:=L3 n a b ha hb;cases h:PyData.eqv (nK n a) (nK n b)with
  |true=>exact(decide_eq_true (this.mp h)).symm
  |false=>exact(decide_eq_false λz=>by rw[this.mpr z]at h;cases h).symm
 rw[HI];constructor;rintro⟨p,q,h1,h2,_,h⟩;rw[Au n a ha 20 ⋯]at h1;rw[Au n b hb 20 ⋯]at h2;cases h1;cases h2;rw[e]at h;exact h;intro h;refine⟨_,_,Au n a ha 20 ⋯ st,Au n b hb 20 ⋯ st,⟨(Av n a ha).1,(Av n b hb).1,?_⟩,?_⟩
 have:=(Av n a ha).2
 lk;rw[e];exact h
def Qp(n:Nat)(L:List Int):pU (n+1) (.tup (L.map D.int)):=λd hd=>by
 obtain⟨x,_,rfl⟩:=Zag.mp hd;cases n<;>trivial
abbrev qm(neg:Bool):D->D->Dm D:=λa c st=>match cK st 20 a,(cS st c).bind (bH (cK st 19))with
 |some dx,some ds=>if dx.canLay0 && ds.all PyData.canLay0 && decide (dx.depth<=60)then some (.bl (if neg then !ds.any (λd=>PyData.eqv d dx)else ds.any λd=>PyData.eqv d dx),st)else none
 |_,_=>none
section
variable {K:Zfr}
def HP{ρ:List Addr}{H:Hp}{st:Store}(l:Rl K ρ H st)(n:Nat):∀{vs:List V} {ds:List D} {ps:List PyData},b9 K ρ H vs ds->bH (cK st n) ds=some ps->fN K H vs ps
 |_,_,_,.nil,h=>by cases h;exact .nil
 |_,_,_,.cons a b,h=>by
  obtain⟨x,t,h1,h2,rfl⟩:=uY h;exact .cons (DV l n a h1) (HP l n b h2)
def L6(neg:Bool):nW K (yK K neg) (qm neg):=by
 intro ρ H st x y a c b st' Q l rx ry e q;unfold qm at e;split at e
 ·next dx ds h1 h2 =>
  split at e
  ·next ok =>
   cases e;rw[ZaB,ZaB,decide_eq_true_eq,Zbi]at ok;obtain⟨es,h3,h4⟩:=Zby.mp h2;obtain⟨p,xs,rfl,hq,rr⟩:∃p xs,y=.ref p/\(jZ K H p xs\/dr K H p xs)/\b9 K ρ H xs es:=by
    cases ry with
    |non=>cases h3
    |bl _=>cases h3
    |int _=>cases h3
    |str _=>cases h3
    |ty _=>cases h3
    |ref hi=>obtain⟨vs,s,r⟩:=l.items hi h3;exact⟨_,vs,rfl,.inl s,r⟩
    |tup s r=>cases h3;exact⟨_,_,rfl,.inr s,r⟩
   exact⟨p,xs,ds,dx,rfl,hq,HP l 19 rr h4,DV l 20 rx h1,ok.1.2,ok.1.1,ok.2,q _ H ρ .refl l (.bl _)⟩
  ·cases e
 ·cases e
end
open Classical in
def L7{st:Store}{Q:D->Store->Prop}{neg:Bool}{n:Nat}{a c:D}{es:List D}(ha:pU n a)(hc:cS st c=some es)(he:∀e∈es,pU n e)(hn:n<=15):Wp (qm neg a c st) Q↔Q (.bl (if neg then !decide (a∈es)else decide (a∈es))) st:=by
 have h1:=Au n a ha 20 ⋯ st;have h2:bH (cK st 19) es=some (es.map (nK n)):=LY λx hx=>Au n x (he x hx) 19 ⋯ st;have ea:(es.map (nK n)).any (λd=>PyData.eqv d (nK n a))=decide (a∈es):=by
  rw[Za4,List.any_eq_true,decide_eq_true_eq];constructor;rintro⟨d,hd,h⟩;obtain⟨x,hx,rfl⟩:=Zag.mp hd;rw[<- (L3 n x a (he x hx) ha).mp h];exact hx;intro h;exact⟨_,Zag.mpr ⟨a,h,rfl⟩,(L3 n a a ha ha).mpr rfl⟩
 have l1:=Av n a ha;have l2:(es.map (nK n)).all PyData.canLay0=true:=by
  rw[Zbi];intro d hd;obtain⟨x,hx,rfl⟩:=Zag.mp hd;exact(Av n x (he x hx)).1
 have e:qm neg a c st=some (.bl (if neg then !decide (a∈es)else decide (a∈es)),st):=by
  unfold qm;simp only[h1,hc,ZbD,h2,ea,l1.1,l2,Bool.true_and,decide_eq_true_eq];rw[if_pos ⋯]
 rw[e,bp]
abbrev HQ:D->Option (List D)
 |.tup ds=>some ds
 |.str x=>if x.length<=sizeLine then some (LV x)else none
 |_=>none
abbrev sd(fa:ao->Dm (List D)):ao->Dm Src:=λδ st=>bnd (fa δ st) λas st1=>match as with
 |[a]=>match HQ a with
  |some ds=>some (.fix ds.reverse,st1)
  |none=>none
 |_=>none
section
variable {K:Zfr}
def Ep{ρ:List Addr}{H:Hp}{x:V}{a:D}{ds:List D}(r:Rp K ρ H x a)(h:HQ a=some ds):∃src:ZS,src.val K H x/\(∀a,src≠.lst a)/\(∀z,src=.str z->z.length<=sizeLine)/\∀(ρ2:List Addr) (H2:Hp),Mn K ρ H ρ2 H2->∀i,(∀d,ds[i]?=some d->∃v,src.has K H2 i v/\Rp K ρ2 H2 v d)/\(i=ds.length->src.fin K H2 i):=by
 cases r with
 |non=>cases h
 |bl b=>cases h
 |int i=>cases h
 |ty n=>cases h
 |ref e=>cases h
 |str x =>
  unfold HQ at h;simp only at h;split at h
  ·next hx =>
   cases h;refine⟨.str x,rfl,nofun,λz e=>by cases e;exact hx,λρ2 H2 m i=>⟨λd hd=>?_,λe=>?_⟩⟩
   ·unfold LV at hd
    rw[Zae]at hd;obtain⟨c,hc,rfl⟩:=Zaz.mp hd;have hc':x.cps[i]?=some c:=by simpa using hc
    exact⟨_,⟨c,hc',rfl⟩,.str _⟩
   ·show x.cps.size=i
    rw[e];simp[LV]
  ·cases h
 |tup s r =>
  cases h;refine⟨.tup _,⟨rfl,_,s⟩,nofun,nofun,λρ2 H2 m i=>⟨λd hd=>?_,λe=>?_⟩⟩
  ·obtain⟨v,hv,rv⟩:=r.got hd
   exact⟨v,⟨_,m.t _ _ s,hv⟩,rv.mn m⟩
  ·exact⟨_,m.t _ _ s,by rw[r.length];exact e.symm⟩
def WI{t:TA}{fa:ao->Dm (List D)}(ha:tf K t fa):zw K (C8 K t) (sd fa):=by
 intro ρ σ H δ st S st' Q l rs e q;obtain⟨as,st1,e1,e⟩:=di e;split at e
 ·next a =>
  split at e
  ·next ds h1 =>
   cases e;refine ha ρ σ H δ st _ _ _ l rs e1 λxs H1 ρ1 m1 l1 r1=>?_;obtain⟨x,rfl,rx⟩:=r1.one';obtain⟨s1,v1,nl,hz,g1⟩:=Ep rx h1;refine⟨x,s1,ds.length,rfl,v1,(g1 ρ1 H1 Mn.refl ds.length).2 rfl,nl,hz,q _ H1 ρ1 m1 l1 λρ2 H2 st2 i m2 l2=>⟨λh=>?_,λd h=>?_⟩⟩
   ·obtain⟨hl,hn⟩:=xJ h
    have:=ZaK.mp hn;simp only[Za9]at this hl;exact(show i=ds.length by lk)
   ·have hd:=(xJ h).2
    have hi:i<ds.length:=by simpa using(Z9.mp hd).1
    rw[List.getElem?_reverse hi]at hd;obtain⟨v,hv,rv⟩:=(g1 ρ2 H2 m2 _).1 d hd;refine⟨⟨hi,v,hv⟩,λz H3 hz=>?_⟩;obtain⟨rfl,k1⟩:=hz;cases k1 _ hv;exact⟨Mn.refl,l2,rv⟩
  ·cases e
 ·cases e
end
section
variable {st:Store}
def WJ{δ:ao}{fa:ao->Dm (List D)}{R:Src->Store->Prop}:Wp (sd fa δ st) R↔Wp (fa δ st) λas st1=>∃a ds,as=[a]/\HQ a=some ds/\R (.fix ds.reverse) st1:=by
 unfold sd;rw[cN];constructor<;>refineλh=>aQ h λas s h=>?_
 ·split at h
  ·next a =>
   split at h
   ·next ds h1=>exact⟨a,ds,rfl,h1,bp.mp h⟩
   ·exact(fM.mp h).elim
  ·exact(fM.mp h).elim
 ·obtain⟨a,ds,rfl,h1,h⟩:=h
  simp only[h1];exact bp.mpr h
end
abbrev qo(ps:List PyData):Bool:=decide (0<ps.length) && ps.all (λa=>ps.all λb=>gE a b) && ps.all λa=>a.canLay0 && decide (a.depth<=50)
abbrev mx:List D->Dm D
 |[.ref r],st=>match own st r with
  |some ds=>match bH (cK st 20) ds with
   |some ps=>if qo ps=true then(match ds[oo ps]? with|some d=>some (d,st)|none=>none)else none
   |none=>none
  |none=>none
 |_,_=>none
section
variable {K:Zfr}
def Qq:rT K (xm K) mx:=by
 intro ρ H st xs as b st' Q l rx e q;unfold mx at e;split at e
 ·next r nt =>
  split at e
  ·next ds hd =>
   split at e
   ·next ps hp =>
    split at e
    ·next hok =>
     split at e
     ·next d hd0 =>
      cases e;obtain⟨v,rfl,r⟩:=rx.one';cases r with
      |ref hi =>
       obtain⟨vs,hs,rr⟩:=l.items hi (cQ (rY hd));obtain⟨v,hv,rv⟩:=rr.got hd0;simp only[qo,ZaB,decide_eq_true_eq,Zbi]at hok;exact⟨_,vs,ps,rfl,hs,HP l 20 rr hp,hok.1.1,hok.1.2,hok.2,v,hv,q v H ρ .refl l rv⟩
     ·cases e
    ·cases e
   ·cases e
  ·cases e
 ·cases e
end
def Qr{st:Store}{Q:D->Store->Prop}{r:Nat}{ds:List D}{ps:List PyData}(h:own st r=some ds)(hp:bH (cK st 20) ds=some ps)(hok:qo ps=true){d:D}(hd:ds[oo ps]?=some d):Wp (mx [.ref r] st) Q↔Q d st:=by
 have e:mx [.ref r] st=some (d,st):=by simp only[mx,h,hp,hok,hd,if_true]
 rw[e,bp]
abbrev tupI(xs:List Int):PyData:=.tuple (xs.map PyData.int)
abbrev lQ(p:af.ck):PyData:=.tuple [tupI p.1,tupI p.2]
def L8:∀xs ys:List Int,cf (xs.map PyData.int) (ys.map PyData.int)=af.qB xs ys
 |[],[]=>rfl
 |[],_ :: _=>rfl
 |_ :: _,[]=>rfl
 |x :: xs,y :: ys=>by
  show(if(x == y)=true then cf (xs.map PyData.int) (ys.map PyData.int)else decide (x<y))=if x=y then af.qB xs ys else decide (x<y)
  rw[L8 xs ys];by_cases h:x=y;rw[if_pos h,if_pos (by simp[h])];rw[if_neg h,if_neg (by simp[h])]
def Qs(xs ys:List Int):PyData.eqv (tupI xs) (tupI ys)=decide (xs=ys):=yB xs ys
def WK(p q:af.ck):md (lQ p) (lQ q)=af.ot p q:=by
 show(if PyData.eqv (tupI p.1) (tupI q.1)=true then(if PyData.eqv (tupI p.2) (tupI q.2)=true then false else cf (p.2.map PyData.int) (q.2.map PyData.int))else cf (p.1.map PyData.int) (q.1.map PyData.int))=if p.1=q.1 then af.qB p.2 q.2 else af.qB p.1 q.1
 rw[Qs,Qs,L8,L8];by_cases a:p.1=q.1;rw[if_pos a,if_pos (decide_eq_true a)];by_cases b:p.2=q.2;rw[if_pos (decide_eq_true b),b,af.Hf];rw[if_neg (by simp[b])];rw[if_neg a,if_neg (by simp[a])]
def HR:∀xs ys:List Int,cm (xs.map PyData.int) (ys.map PyData.int)=true
 |[],_=>rfl
 |_ :: _,[]=>rfl
 |x :: xs,y :: ys=>by show(true && cm (xs.map PyData.int) (ys.map PyData.int))=true;rw[HR xs ys];rfl
def WL(p q:af.ck):gE (lQ p) (lQ q)=true:=by show(cm (p.1.map PyData.int) (q.1.map PyData.int) && (cm (p.2.map PyData.int) (q.2.map PyData.int) && true))=true;rw[HR,HR];rfl
def WM(p:af.ck):(lQ p).canLay0=true/\(lQ p).depth<=50:=by refine⟨?_,?_⟩;show(PyData.canLayAll0 (cx p.1) && (PyData.canLayAll0 (cx p.2) && true))=true;rw[vz,vz];rfl;show max (PyData.depthAll (cx p.1)+1) (max (PyData.depthAll (cx p.2)+1) 0)+1<=50;rw[yA,yA];decide
def Qu(l:List af.ck):∀k,k<l.length->l[argBest (λi j=>af.ot (l.getD i ([],[])) (l.getD j ([],[]))) k]?=some (af.ou (l.take (k+1)))
 |0,h=>by
  cases l with
  |nil=>simp at h
  |cons p l=>rfl
 |k+1,h=>by
  have ih:=Qu l k ⋯;generalize hb:argBest (λi j=>af.ot (l.getD i ([],[])) (l.getD j ([],[]))) k=b at ih;have e1:l.getD b ([],[])=af.ou (l.take (k+1)):=by rw[Zad,ih];rfl
  have e2:af.ou (l.take (k+1+1))=if af.ot (l.getD (k+1) ([],[])) (af.ou (l.take (k+1)))then l.getD (k+1) ([],[])else af.ou (l.take (k+1)):=by
   have et:l.take (k+1+1)=l.take (k+1) ++ [l.getD (k+1) ([],[])]:=by
    rw[ZaJ h,Zad,Z8 h];rfl
   rw[et];cases l with
   |nil=>simp at h
   |cons p l =>
    show((l.take k ++ [_]).foldl _ p)=_;rw[Zbw];rfl
  show l[if(af.ot (l.getD (k+1) ([],[])) (l.getD (argBest _ k) ([],[])))=true then k+1 else argBest _ k]?=_;rw[hb,e1,e2];split;rw[Zad,Z8 h];rfl;exact ih
def WN(st:Store)(p:af.ck):cK st 20 (bE p.1 p.2)=some (lQ p):=by
 have h:∀(m:Nat) (xs:List Int),bH (cK st (m+1)) (xs.map D.int)=some (xs.map PyData.int):=λm xs=>by
  have:=sM (f:=cK st (m+1)) (g:=D.int) (k:=PyData.int) (λ_=>rfl) xs;exact this
 show(bH (cK st 19) [D.tup (p.1.map D.int),D.tup (p.2.map D.int)]).map PyData.tuple=_;have e1:cK st 19 (D.tup (p.1.map D.int))=some (tupI p.1):=by show(bH (cK st 18) (p.1.map D.int)).map PyData.tuple=_;rw[h];rfl
 have e2:cK st 19 (D.tup (p.2.map D.int))=some (tupI p.2):=by show(bH (cK st 18) (p.2.map D.int)).map PyData.tuple=_;rw[h];rfl
 simp only[bH,e1,e2];rfl
def WO{st:Store}{Q:D->Store->Prop}{r:Nat}{l:List af.ck}(h:own st r=some (l.map λp=>bE p.1 p.2))(hn:0<l.length):Wp (mx [.ref r] st) Q↔Q (bE (af.ou l).1 (af.ou l).2) st:=by
 have hp:bH (cK st 20) (l.map λp=>bE p.1 p.2)=some (l.map lQ):=sM (f:=cK st 20) (g:=λp:af.ck=>bE p.1 p.2) (k:=lQ) (λp=>WN st p) l;refine Qr h hp ?_ ?_;simp only[qo,ZaB,decide_eq_true_eq,Zbi,Z7];refine⟨⟨hn,λa ha b hb=>?_⟩,λa ha=>?_⟩;obtain⟨p,_,rfl⟩:=Zag.mp ha;obtain⟨q,_,rfl⟩:=Zag.mp hb;exact WL p q;obtain⟨p,_,rfl⟩:=Zag.mp ha;exact WM p;have hb:=Qu l (l.length-1) ⋯;rw[show l.length-1+1=l.length by lk,Za6]at hb;have e:∀k,k<l.length->argBest (kd (l.map lQ)) k=argBest (λi j=>af.ot (l.getD i ([],[])) (l.getD j ([],[]))) k/\argBest (λi j=>af.ot (l.getD i ([],[])) (l.getD j ([],[]))) k<l.length:=by
  intro k
  induction k with
  |zero=>intro hk;exact⟨rfl,hk⟩
  |succ k ih =>
   intro hk;obtain⟨e1,e2⟩:=ih ⋯;have eb:kd (l.map lQ) (k+1) (argBest (kd (l.map lQ)) k)=af.ot (l.getD (k+1) ([],[])) (l.getD (argBest (λi j=>af.ot (l.getD i ([],[])) (l.getD j ([],[]))) k) ([],[])):=by
    rw[e1];unfold kd;rw[Zad,Zad,Zae,Zae,Z8 hk,Z8 e2,Zad,Zad,Z8 hk,Z8 e2];exact WK _ _
   refine⟨?_,?_⟩;show(if kd (l.map lQ) (k+1) (argBest (kd (l.map lQ)) k)=true then k+1 else argBest (kd (l.map lQ)) k)=if _=true then k+1 else _
   rw[eb,e1];show(if _=true then k+1 else _)<l.length;split;exact hk;exact e2
 unfold oo;rw[Z7,(e (l.length-1) ⋯).1,Zae,hb];rfl
def L9{α:Type}{r:α->α->Prop}:∀{xs ys:List α},xs.Perm ys->xs.Pairwise r->ys.Pairwise r->(∀a∈xs,∀b∈xs,r a b->r b a->a=b)->xs=ys
 |[],ys,p,_,_,_=>(List.nil_perm.mp p).symm
 |x :: xs,[],p,_,_,_=>absurd p.length_eq (by simp)
 |x :: xs,y :: ys,p,h1,h2,an=>by
  have e:x=y:=by
   have hx:x∈y :: ys:=p.subset Zac;have hy:y∈x :: xs:=p.symm.subset Zac;rcases Zax.mp hx with e|hx
   exact e;rcases Zax.mp hy with e|hy
   exact e.symm;exact an x Zac y (Zah _ hy) ((ZbQ.mp h1).1 y hy) ((ZbQ.mp h2).1 x hx)
  subst e;rw[L9 (List.perm_cons x |>.mp p) (ZbQ.mp h1).2 (ZbQ.mp h2).2 λa ha b hb=>an a (Zah _ ha) b (Zah _ hb)]
abbrev qq(ps:List PyData):Bool:=decide (ps.length<64) && ps.all (λa=>ps.all λb=>gE a b) && (ps.all λa=>a.canLay0 && decide (a.depth<=50)) && (ps.all (xq true) || ps.all (xq false))
abbrev nR(ps:List PyData):List Nat:=(List.range ps.length).mergeSort λi j=>!kd ps (min j (ps.length-1)) (min i (ps.length-1))
abbrev qX(ds:List D)(ps:List PyData):List D:=(nR ps).map λi=>ds.getD i .non
abbrev ku:List D->Dm D
 |[.ref r],st=>match own st r with
  |some ds=>match bH (cK st 20) ds with
   |some ps=>if qq ps=true then some (.ref st.length,st ++ [.lst (qX ds ps)])else none
   |none=>none
  |none=>none
 |_,_=>none
def xQ(ps:List PyData):(nR ps).Perm (List.range ps.length):=List.mergeSort_perm _ _
def Qv(st:Store):∀(n m:Nat) (d d':D) (p:PyData),cK st n d=some p->cK st m d'=some p->gE p p=true->d=d'
 |0,_,_,_,_,h,_,_=>by simp[cK]at h
 |_,0,_,_,_,_,h,_=>by simp[cK]at h
 |n+1,m+1,d,d',p,h,h',ok=>by
  have all:∀(ds ds':List D) (ps:List PyData),bH (cK st n) ds=some ps->bH (cK st m) ds'=some ps->cm ps ps=true->ds=ds':=by
   intro ds
   induction ds with
   |nil =>
    intro ds' ps h1 h2 _;cases h1;cases ds' with
    |nil=>rfl
    |cons x r=>obtain⟨_,_,_,_,e⟩:=uY h2;cases e
   |cons x r ih =>
    intro ds' ps h1 h2 ok;obtain⟨b,t,e1,e2,rfl⟩:=uY h1;cases ds' with
    |nil=>cases h2
    |cons x' r' =>
     obtain⟨b',t',C3,yF,e⟩:=uY h2;cases e;have o2:gE b b=true/\cm t t=true:=by simpa[cm]using ok
     rw[Qv st n m x x' b e1 C3 o2.1,ih r' t e2 yF o2.2]
  cases p with
  |int i =>
   have e1:d=.int i:=by
    cases d<;>simp[cK]at h;rw[h];split at h<;>simp at h
   have e2:d'=.int i:=by
    cases d'<;>simp[cK]at h';rw[h'];split at h'<;>simp at h'
   rw[e1,e2]
  |tuple ps =>
   obtain⟨ds,e1,g1⟩:∃ds,d=.tup ds/\bH (cK st n) ds=some ps:=by
    cases d<;>simp[cK]at h;exact⟨_,rfl,h⟩;split at h<;>simp at h
   obtain⟨ds',e2,g2⟩:∃ds',d'=.tup ds'/\bH (cK st m) ds'=some ps:=by
    cases d'<;>simp[cK]at h';exact⟨_,rfl,h'⟩;split at h'<;>simp at h'
   rw[e1,e2,all ds ds' ps g1 g2 ok]
  |none=>cases ok
  |bool _=>cases ok
  |str _=>cases ok
  |list _=>cases ok
  |dict _=>cases ok
def Qw{ps:List PyData}(hok:∀a∈ps,∀b∈ps,gE a b=true):((nR ps).map λi=>ps.getD i .none).Pairwise λa b=>md b a=false:=by
 by_cases hn:ps=[];subst hn;rw[List.perm_nil.mp (show(nR []).Perm []from xQ [])];exact .nil;have o:=OC hok hn;have hl:0<ps.length:=Zb6.mpr hn;rw[Zba]
 have key:=List.pairwise_mergeSort (le:=λi j=>!kd ps (min j (ps.length-1)) (min i (ps.length-1))) (λa b c h1 h2=>by
  have h1:kd ps (min b (ps.length-1)) (min a (ps.length-1))=false:=by simpa using h1
  have h2:kd ps (min c (ps.length-1)) (min b (ps.length-1))=false:=by simpa using h2
  have:=o.tr a b c h1 h2
  simpa using this) (λa b=>by
  cases q:kd ps (min b (ps.length-1)) (min a (ps.length-1))with
  |false=>rfl
  |true=>have:=o.as b a q;simpa using this) (List.range ps.length)
 refine Zbh (λ{a b} ha hb h=>?_) key;have a1:=ZaV.mp ((xQ ps).subset ha);have b1:=ZaV.mp ((xQ ps).subset hb);rw[show min a (ps.length-1)=a by lk,show min b (ps.length-1)=b by lk]at h;unfold kd at h;simpa using h
def Qx{f:D->Option PyData}:∀{ds:List D} {ps:List PyData},bH f ds=some ps->ds.length=ps.length/\∀i,i<ps.length->f (ds.getD i .non)=some (ps.getD i .none)
 |[],_,h=>by cases h;exact⟨rfl,λi hi=>absurd hi (ZaZ _)⟩
 |d :: ds,_,h=>by
  obtain⟨b,t,e1,e2,rfl⟩:=uY h;obtain⟨hl,ha⟩:=Qx e2;refine⟨by simp[hl],λi hi=>?_⟩;cases i with
  |zero=>exact e1
  |succ i=>exact ha i (by simpa using hi)
section
variable {K:Zfr}
def Qy{ρ:List Addr}{H:Hp}{vs:List V}{ds:List D}(r:b9 K ρ H vs ds):∀{is:List Nat} {es:List D},(∀i∈is,i<ds.length)->es=is.map (λi=>ds.getD i .non)->b9 K ρ H (is.map λi=>vs.getD i .non) es
 |[],_,_,e=>by subst e;exact .nil
 |i :: is,_,h,e=>by
  subst e;have hi:=h i Zac;obtain⟨v,hv,rv⟩:=r.got (Z8 hi);refine .cons ?_ (Qy r (λj hj=>h j (Zah _ hj)) rfl);show Rp K ρ H (vs.getD i .non) (ds.getD i .non);rw[Zad,Zad,hv,Z8 hi];exact rv
def Qz:rT K (ui K) ku:=by
 intro ρ H st xs as b st' Q l rx e q;unfold ku at e;split at e
 ·next r nt =>
  split at e
  ·next ds hd =>
   split at e
   ·next ps hp =>
    split at e
    ·next hok =>
     cases e;obtain⟨v,rfl,r⟩:=rx.one';cases r with
     |ref hi =>
      obtain⟨vs,hs,rr⟩:=l.items hi (cQ (rY hd));simp only[qq,ZaB,ZbR,decide_eq_true_eq,Zbi]at hok;obtain⟨⟨⟨k1,k2⟩,k3⟩,k4⟩:=hok;obtain⟨hl,ha⟩:=Qx hp;refine⟨_,vs,ps,rfl,hs,HP l 20 rr hp,k1,k2,k3,?_,λp is QA xR Ma=>?_⟩
      ·rcases k4 with k4|k4
       ·exact⟨true,k4⟩
       ·exact⟨false,k4⟩
      ·have hb:∀i∈is,i<ps.length:=λi hi'=>ZaV.mp (xR.subset hi')
       have hb2:∀i∈nR ps,i<ps.length:=λi hi'=>ZaV.mp ((xQ ps).subset hi');have eP:(is.map λi=>ps.getD i .none)=(nR ps).map λi=>ps.getD i .none:=by
        refine L9 ((xR.trans (xQ ps).symm).map _) Ma (Qw k2) λa ha' b hb' h1 h2=>?_;have mem:∀x,x∈(is.map λi=>ps.getD i .none)->x∈ps:=λx hx=>by
         obtain⟨i,hi',rfl⟩:=Zag.mp hx;rw[Zad,Z8 (hb i hi')];exact ZaL _
        exact K0 a b (k2 a (mem a ha') b (mem b hb')) (k2 b (mem b hb') a (mem a ha')) h2 h1
       have eD:qX ds ps=is.map λi=>ds.getD i .non:=by
        unfold qX;have hlen:is.length=(nR ps).length:=by have:=congrArg List.length eP;simpa using this
        refine List.ext_getElem (by simp[hlen]) λi h1 h2=>?_;rw[Zb1,Zb1];have g1:i<(nR ps).length:=by simpa using h1
        have g2:i<is.length:=by simpa using h2
        have e1:ps.getD is[i] .none=ps.getD (nR ps)[i] .none:=by
         have:=List.getElem_of_eq eP (i:=i) (by simpa using g2)
         simpa using this
        have b1:=hb2 _ (ZaL g1);have b2:=hb _ (ZaL g2);have m1:ps.getD (nR ps)[i] .none∈ps:=by
         rw[Zad,Z8 b1];exact ZaL _
        exact Qv st 20 20 _ _ _ (ha _ b1) (by rw[ha _ b2,e1]) (k2 _ m1 _ m1)
       exact q _ _ _ (Mn.new QA) (l.newL QA (Qy rr (λi hi'=>by rw[hl];exact hb i hi') eD)) (.ref (newR l))
    ·cases e
   ·cases e
  ·cases e
 ·cases e
end
def QB{st:Store}{Q:D->Store->Prop}{r:Nat}{ds:List D}{ps:List PyData}(h:own st r=some ds)(hp:bH (cK st 20) ds=some ps)(hok:qq ps=true):Wp (ku [.ref r] st) Q↔Q (.ref st.length) (st ++ [.lst (qX ds ps)]):=by
 have e:ku [.ref r] st=some (.ref st.length,st ++ [.lst (qX ds ps)]):=by simp only[ku,h,hp,hok,if_true]
 rw[e,bp]
section
variable {K:Zfr}
abbrev qY:ao->Dm Fl:=λ_ _=>none
def QC:pd K tK qY:=by intro ρ σ H δ st fl st' E l rs e q;cases e
end
def QD(ns:List Int):∀k,k<ns.length->argBest (kd (ns.map PyData.int)) k<=k/\∀i,i<=k->ns.getD (argBest (kd (ns.map PyData.int)) k) 0<=ns.getD i 0
 |0,h=>⟨Zaa _,λi hi=>by rw[show i=0 by lk];exact Int.le_refl _⟩
 |k+1,h=>by
  obtain⟨h1,h2⟩:=QD ns k ⋯;have eb:∀j,j<ns.length->kd (ns.map PyData.int) (k+1) j=decide (ns.getD (k+1) 0<ns.getD j 0):=λj hj=>by
   unfold kd;rw[Zad,Zad,Zae,Zae,Z8 h,Z8 hj,Zad,Zad,Z8 h,Z8 hj];rfl
  have hb:=eb (argBest (kd (ns.map PyData.int)) k) ⋯;show(if kd (ns.map PyData.int) (k+1) (argBest (kd (ns.map PyData.int)) k)=true then k+1 else argBest (kd (ns.map PyData.int)) k)<=k+1/\∀i,i<=k+1->ns.getD (if kd (ns.map PyData.int) (k+1) (argBest (kd (ns.map PyData.int)) k)=true then k+1 else argBest (kd (ns.map PyData.int)) k) 0<=ns.getD i 0;rw[hb];by_cases hc:ns.getD (k+1) 0<ns.getD (argBest (kd (ns.map PyData.int)) k) 0;rw[if_pos (decide_eq_true hc)];refine⟨Zaa _,λi hi=>?_⟩;by_cases hik:i<=k
  have:=h2 i hik;lk
  rw[show i=k+1 by lk];exact Int.le_refl _;rw[if_neg (by rw[decide_eq_true_iff];exact hc)];refine⟨by lk,λi hi=>?_⟩;by_cases hik:i<=k;exact h2 i hik;rw[show i=k+1 by lk];lk
def WQ{st:Store}{r:Nat}{ns:List Int}(h:own st r=some (ns.map D.int))(hn:ns≠[]):∃m:Int,m∈ns/\(∀y∈ns,m<=y)/\∀Q:D->Store->Prop,Wp (mx [.ref r] st) Q↔Q (.int m) st:=by
 have hl:0<ns.length:=Zb6.mpr hn;obtain⟨h1,h2⟩:=QD ns (ns.length-1) ⋯;have hp:bH (cK st 20) (ns.map D.int)=some (ns.map PyData.int):=sM (f:=cK st 20) (g:=D.int) (k:=PyData.int) (λ_=>rfl) ns;have hlt:argBest (kd (ns.map PyData.int)) (ns.length-1)<ns.length:=by lk
 have e0:ns.getD (argBest (kd (ns.map PyData.int)) (ns.length-1)) 0=ns[argBest (kd (ns.map PyData.int)) (ns.length-1)]:=by rw[Zad,Z8 hlt];rfl
 refine⟨ns.getD (argBest (kd (ns.map PyData.int)) (ns.length-1)) 0,?_,λy hy=>?_,λQ=>?_⟩;rw[e0];exact ZaL _;obtain⟨i,hi,rfl⟩:=Za8 hy
 have:=h2 i ⋯;rw[Zad (i:=i),Z8 hi]at this;exact this
 refine Qr h hp ?_ ?_;simp only[qo,ZaB,decide_eq_true_eq,Zbi,Z7];refine⟨⟨hl,λa ha b hb=>?_⟩,λa ha=>?_⟩;obtain⟨p,_,rfl⟩:=Zag.mp ha;obtain⟨q,_,rfl⟩:=Zag.mp hb;rfl;obtain⟨p,_,rfl⟩:=Zag.mp ha;exact⟨rfl,by simp[PyData.depth]⟩;unfold oo;rw[Z7,Zae,Z8 hlt,e0];rfl
def Er{δ:ao}{st:Store}{fi:ao->Dm Src}{js:List Nat}{c:ao->Dm Bool}{f:ao->Dm D}{Q:D->Store->Prop}(ds:List D)(q:D->Bool)(h:D->D)(hi:Wp (fi δ st) λS st1=>nJ S ds st1/\Ex [] st st1)(hl:ds.length<100000)
  (cond:∀d∈ds,∀st1,Ex [] st st1->Wp (c (some d :: js.map λj=>δ.getD j none) st1) λb st2=>b=q d/\Ex [] st1 st2)
  (step:∀d∈ds,q d=true->∀st1,Ex [] st st1->Wp (f (some d :: js.map λj=>δ.getD j none) st1) λy st2=>y=h d/\Ex [] st1 st2) (fin:∀st',Ex [] st st'->Q (.ref st'.length) (st' ++ [.lst ((ds.filter q).map h)])):Wp (bJ fi 1 js (hName 0) c f δ st) Q:=by
 obtain⟨S,st1,e1,hS,k1⟩:=hi;refine HE ds (λi ys δ' kc=>(∃v,δ'=v :: js.map λj=>δ.getD j none)/\ys=((ds.take i).filter q).map h/\Ex [] st1 kc) ⟨S,st1,e1,λi ys δ' kc hi' hp=>hS i kc hi' hp.2.2,⟨none,rfl⟩,rfl,Ex.refl⟩ hl ?_ ?_ ?_;rintro i ys δ' kc ⟨_,rfl,_⟩;rw[Z7];refine Zap (Zbp _ _) ?_;rw[Za0];lk;rintro i d ys δ' kc hd ⟨⟨v,rfl⟩,rfl,k8⟩;obtain⟨hlt,e⟩:=Z9.mp hd;have hm:=Zab hd;rw[HJ];refine aQ (cond d hm kc (k1.trans k8)) ?_;rintro b qa ⟨rfl,k9⟩;refine⟨λhq=>aQ (step d hm hq qa (k1.trans (k8.trans k9))) ?_,λhq=>⟨⟨some d,rfl⟩,?_,k8.trans k9⟩⟩;rintro y WR ⟨rfl,WS⟩;refine⟨⟨some d,rfl⟩,?_,(k8.trans k9).trans WS⟩;rw[ZaJ hlt,Zca,Zau,e,List.filter_cons_of_pos hq];rfl;rw[ZaJ hlt,Zca,Zau,e,List.filter_cons_of_neg (by rw[hq];decide)];simp;rintro ys δ' kc ⟨_,rfl,k8⟩;rw[Za6];exact fin kc (k1.trans k8)
def QE{ds:List D}{d:D}(h:ds[ds.length-1]?=some d):gD ds (-1)=some d:=by have hl:=(Z9.mp h).1;unfold gD mP;rw[if_neg ∅,if_pos ⋯,ZbD,show((-1:Int)+(ds.length:Int)).toNat=ds.length-1 by lk];exact h
abbrev Aw:List D->Option (List Int)
 |[]=>some []
 |.int i :: r=>match Aw r with
  |some l=>some (i :: l)
  |none=>none
 |_=>none
abbrev oE:D->Option (List Int)
 |.tup ds=>Aw ds
 |_=>none
abbrev ja(st:Store):D->Option (List (List Int×D))
 |.ref i=>match st[i]? with
  |some (.nV kvs)=>some kvs
  |_=>none
 |_=>none
abbrev nS(kvs:List (List Int×D))(k:List Int):Option D:=(kvs.find? λkv=>decide (kv.1=k)).map (·.2)
abbrev qk(kvs:List (List Int×D))(k:List Int)(v:D):List (List Int×D) :=
 if(nS kvs k).isSome=true then kvs.map (λkv=>if kv.1=k then(kv.1,v)else kv)else kvs ++ [(k,v)]
def QF:∀(L:List Int),Aw (L.map D.int)=some L
 |[]=>rfl
 |i :: r=>by rw[Zaq,Aw,QF r]
def WT(L:List Int):oE (.tup (L.map D.int))=some L:=QF L
section
variable {K:Zfr}{ρ:List Addr}{H:Hp}{st:Store}
def QG:∀{ds:List D} {vs:List V} {k:List Int},b9 K ρ H vs ds->Aw ds=some k->vs=k.map V.int
 |_,_,_,.nil,h=>by cases h;rfl
 |_,_,_,.cons (d:=d) (ds:=ds) r t,h=>by
  cases d<;>first|(cases h;done)|skip
  next i =>
   rw[Aw]at h;cases hk:Aw ds with
   |none=>rw[hk]at h;cases h
   |some l =>
    rw[hk]at h;cases h;cases r;rw[QG t hk];rfl
def Mb{x:V}{y:D}{k:List Int}(r:Rp K ρ H x y)(h:oE y=some k):∃b,x=.ref b/\dr K H b (k.map V.int):=by
 cases r<;>first|(cases h;done)|skip
 next q t=>rw[oE]at h;rw[QG t h]at q;exact⟨_,rfl,q⟩
def HS{x:V}{a:D}{kvs:List (List Int×D)}(l:Rl K ρ H st)(r:Rp K ρ H x a)(h:ja st a=some kvs):∃p i xs,x=.ref p/\a=.ref i/\ρ[i]?=some p/\st[i]?=some (.nV kvs)/\H p=some (DU p xs)/\Ru K ρ H kvs xs:=by
 cases r<;>first|(cases h;done)|skip
 next hi =>
  simp only[ja]at h;split at h
  ·next kvs' hs =>
   cases h;obtain⟨ws,e,r⟩:=l.obj _ _ _ hi hs;exact⟨_,_,ws,rfl,rfl,hi,hs,e,r⟩
  ·cases h
def Ru.keys{kvs:List (List Int×D)}{xs:List (List Int×Addr×Value)}(r:Ru K ρ H kvs xs):∀x∈xs,dr K H x.2.1 (x.1.map V.int):=by
 induction r with
 |nil=>intro x hx;exact nomatch hx
 |cons h _ ih =>
  intro x hx;rcases Zax.mp hx with e|hx
  subst e;exact h.2.1;exact ih x hx
def Ru.val{kvs:List (List Int×D)}{xs:List (List Int×Addr×Value)}(r:Ru K ρ H kvs xs)(k:List Int):(∀d,nS kvs k=some d->∃p v,atKey xs k=some p/\RelV v p.2/\Rp K ρ H v d)/\(atKey xs k).isSome=(nS kvs k).isSome:=by
 induction r with
 |nil=>exact⟨λd h=>(by cases h),rfl⟩
 |@cons p q ps qs h t ih =>
  obtain⟨h1,h2,v,h3,h4⟩:=h;unfold nS atKey at ih ⊢;rw[Za5,Za5];by_cases e:p.1=k;rw[decide_eq_true e,decide_eq_true (h1 ▸ e)];exact⟨λd hd=>by cases hd;exact⟨_,v,rfl,h3,h4⟩,rfl⟩;rw[decide_eq_false e,decide_eq_false (h1 ▸ e)];exact ih
def Ru.app{kvs kvs':List (List Int×D)}{xs xs':List (List Int×Addr×Value)}(r:Ru K ρ H kvs xs)(r':Ru K ρ H kvs' xs'):Ru K ρ H (kvs ++ kvs') (xs ++ xs'):=by
 induction r with
 |nil=>exact r'
 |cons h _ ih=>exact .cons h ih
def Ru.put{kvs:List (List Int×D)}{xs:List (List Int×Addr×Value)}{v:V}{u:Value}{d:D}{b:Addr}(r:Ru K ρ H kvs xs)(k:List Int)(hb:dr K H b (k.map V.int))(hu:RelV v u)(rv:Rp K ρ H v d):Ru K ρ H (qk kvs k d) (storedH xs k b u):=by
 have hany:=(r.val k).2;have hmap:Ru K ρ H (kvs.map λkv=>if kv.1=k then(kv.1,d)else kv) (xs.map (putAt k u)):=by
  clear hany
  induction r with
  |nil=>exact .nil
  |@cons p q ps qs h _ ih =>
   refine .cons ?_ ih;unfold putAt;dsimp only;by_cases e:p.1=k;rw[if_pos e,if_pos (h.1 ▸ e)];exact⟨h.1,h.2.1,v,hu,rv⟩;rw[if_neg e,if_neg (h.1 ▸ e)];exact h
 unfold qk storedH;rw[hany];split;exact hmap;exact r.app (.cons ⟨rfl,hb,v,hu,rv⟩ .nil)
def Ru.length{kvs:List (List Int×D)}{xs:List (List Int×Addr×Value)}(r:Ru K ρ H kvs xs):xs.length=kvs.length:=by
 induction r with
 |nil=>rfl
 |cons _ _ ih=>rw[ZaG,ZaG,ih]
end
section
variable {K:Zfr}
abbrev uG:ao->Dm D:=λ_ st=>some (.ref st.length,st ++ [.nV []])
def WU:eh K xj uG:=by intro ρ σ H δ st b st' Q l rs e q;cases e;exactλp hp=>q _ _ _ (Mn.new hp) (l.new hp ⟨[],rh,.nil⟩) (.ref (newR l))
abbrev qr(fd fy:ao->Dm D):ao->Dm D:=λδ st=>bnd (fd δ st) λx st1=>bnd (fy δ st1) λy st2=>match ja st2 x,oE y with
 |some kvs,some k=>match nS kvs k with
  |some v=>some (v,st2)
  |none=>none
 |_,_=>none
def QH{td ty:TE}{fd fy:ao->Dm D}(hd:eh K td fd)(hy:eh K ty fy):eh K (xk K td ty) (qr fd fy):=by
 intro ρ σ H δ st b st' Q l rs e q;obtain⟨x,st1,e1,e⟩:=di e;obtain⟨y,st2,e2,e⟩:=di e;refine hd ρ σ H δ st x st1 _ l rs e1 λvx H1 ρ1 m1 l1 r1=>hy ρ1 σ H1 δ st1 y st2 _ l1 (rs.mn m1) e2 λvy H2 ρ2 m2 l2 r2=>?_;split at e
 ·next kvs k hx hk =>
  split at e
  ·next v hv =>
   cases e;obtain⟨p,i,ws,rfl,rfl,hi,hs,hp,rk⟩:=HS l2 (r1.mn m2) hx;obtain⟨w,v',hw,rv,rw'⟩:=(rk.val k).1 _ hv;exact⟨p,ws,k,w,v',rfl,⟨Mb r2 hk,hp,rk.keys⟩,hw,rv,q v' H2 ρ2 (m1.trans m2) l2 rw'⟩
  ·cases e
 ·cases e
abbrev wo(neg:Bool)(fy fd:ao->Dm D):ao->Dm D:=λδ st=>bnd (fy δ st) λy st1=>bnd (fd δ st1) λx st2=>match ja st2 x,oE y with
 |some kvs,some k=>some (.bl (if neg then !(nS kvs k).isSome else(nS kvs k).isSome),st2)
 |_,_=>none
def Ax{td ty:TE}{fd fy:ao->Dm D}(hy:eh K ty fy)(hd:eh K td fd):eh K (C9 K ty td) (wo false fy fd):=by
 intro ρ σ H δ st b st' Q l rs e q;obtain⟨y,st1,e1,e⟩:=di e;obtain⟨x,st2,e2,e⟩:=di e;refine hy ρ σ H δ st y st1 _ l rs e1 λvy H1 ρ1 m1 l1 r1=>hd ρ1 σ H1 δ st1 x st2 _ l1 (rs.mn m1) e2 λvx H2 ρ2 m2 l2 r2=>?_;split at e
 ·next kvs k hx hk =>
  cases e;obtain⟨p,i,ws,rfl,rfl,hi,hs,hp,rk⟩:=HS l2 r2 hx;refine⟨p,ws,k,rfl,⟨Mb (r1.mn m2) hk,hp,rk.keys⟩,q _ H2 ρ2 (m1.trans m2) l2 ?_⟩;rw[(rk.val k).2];exact .bl _
 ·cases e
abbrev se(fd fy fv:ao->Dm D):ao->Dm Fl:=λδ st=>bnd (fv δ st) λv st1=>bnd (fd δ st1) λx st2=>bnd (fy δ st2) λy st3=>match x,ja st3 x,oE y with
 |.ref i,some kvs,some k=>if lim kvs.length=true then some (.nx δ,st3.set i (.nV (qk kvs k v)))else none
 |_,_,_=>none
def WV{td ty tv:TE}{fd fy fv:ao->Dm D}(hd:eh K td fd)(hy:eh K ty fy)(hv:eh K tv fv):pd K (xl K td ty tv) (se fd fy fv):=by
 intro ρ σ H δ st fl st' E l rs e q;obtain⟨v,st1,e1,e⟩:=di e;obtain⟨x,st2,e2,e⟩:=di e;obtain⟨y,st3,e3,e⟩:=di e;refine hv ρ σ H δ st v st1 _ l rs e1 λvv H1 ρ1 m1 l1 r1=>hd ρ1 σ H1 δ st1 x st2 _ l1 (rs.mn m1) e2 λvx H2 ρ2 m2 l2 r2=>hy ρ2 σ H2 δ st2 y st3 _ l2 (rs.mn (m1.trans m2)) e3 λvy H3 ρ3 m3 l3 r3=>?_;obtain⟨i,rfl⟩:∃i,x=.ref i:=by
  cases x<;>first|exact⟨_,rfl⟩|(simp at e;done)|cases e
 cases hx:ja st3 (.ref i)with
 |none=>rw[hx]at e;cases e
 |some kvs =>
 cases hk:oE y with
 |none=>rw[hx,hk]at e;cases e
 |some k =>
  rw[hx,hk]at e;simp only at e;split at e
  ·next hl =>
   cases e;obtain⟨p,j,ws,rfl,ej,hi,hs,hp,rk⟩:=HS l3 (r2.mn m3) hx;cases ej;obtain⟨b,rfl,hb⟩:=Mb r3 hk;refine⟨p,b,ws,k,rfl,rfl,⟨⟨b,rfl,hb⟩,hp,rk.keys⟩,by rw[rk.length];exact Hv hl,λr rr=>?_⟩;obtain⟨l4,m4⟩:=l3.qk hi hs (rk.put k hb rr (r1.mn (m2.trans m3)));have mm:=((m1.trans m2).trans m3).trans m4;exact q σ _ ρ3 mm l4 (rs.mn mm)
  ·cases e
end
section
variable {st:Store}{δ:ao}{Q:D->Store->Prop}
def WW:Wp (uG δ st) Q↔Q (.ref st.length) (st ++ [.nV []]):=bp
def QI{fd fy:ao->Dm D}:Wp (qr fd fy δ st) Q↔Wp (fd δ st) λx st1=>Wp (fy δ st1) λy st2=>∃kvs k v,ja st2 x=some kvs/\oE y=some k/\nS kvs k=some v/\Q v st2:=by
 unfold qr;rw[cN];simp only[cN];constructor<;>refineλh=>aQ h λx s h=>aQ h λy s2 h=>?_
 ·split at h
  ·next kvs k h1 h2 =>
   split at h
   ·next v h3=>exact⟨kvs,k,v,by assumption,by assumption,h3,bp.mp h⟩
   ·exact(fM.mp h).elim
  ·exact(fM.mp h).elim
 ·obtain⟨kvs,k,v,h1,h2,h3,h⟩:=h
  rw[h1,h2];simp only[h3];exact bp.mpr h
def Ay{neg:Bool}{fd fy:ao->Dm D}:Wp (wo neg fy fd δ st) Q↔Wp (fy δ st) λy st1=>Wp (fd δ st1) λx st2=>∃kvs k,ja st2 x=some kvs/\oE y=some k/\Q (.bl (if neg then !(nS kvs k).isSome else(nS kvs k).isSome)) st2:=by
 unfold wo;rw[cN];simp only[cN];constructor<;>refineλh=>aQ h λx s h=>aQ h λy s2 h=>?_
 ·split at h
  ·next kvs k h1 h2=>exact⟨kvs,k,by assumption,by assumption,bp.mp h⟩
  ·exact(fM.mp h).elim
 ·obtain⟨kvs,k,h1,h2,h⟩:=h
  rw[h1,h2];exact bp.mpr h
def WX{fd fy fv:ao->Dm D}{N B C:ao->Store->Prop}{R:D->Store->Prop}(h:Wp (fv δ st) λv st1=>Wp (fd δ st1) λx st2=>Wp (fy δ st2) λy st3=>∃i kvs k,x=.ref i/\ja st3 x=some kvs/\oE y=some k/\lim kvs.length=true/\N δ (st3.set i (.nV (qk kvs k v)))):Ws (se fd fy fv δ st) N B C R:=by unfold Ws se;rw[cN];refine aQ h λv st1 h=>?_;rw[cN];refine aQ h λx st2 h=>?_;rw[cN];refine aQ h λy st3 h=>?_;obtain⟨i,kvs,k,rfl,h1,h2,h3,h⟩:=h;rw[h1,h2];simp only[h3];exact bp.mpr h
end
def Es{st:Store}{i:Nat}{kvs:List (List Int×D)}(h:st[i]?=some (.nV kvs)):ja st (.ref i)=some kvs:=by simp only[ja,h]
section
variable {K:Zfr}
def Ru.vals{ρ:List Addr}{H:Hp}{kvs:List (List Int×D)}{xs:List (List Int×Addr×Value)}(r:Ru K ρ H kvs xs):∃vs,Vals vs (xs.map (·.2.2))/\b9 K ρ H vs (kvs.map (·.2)):=by
 induction r with
 |nil=>exact⟨[],.nil,.nil⟩
 |cons h _ ih =>
  obtain⟨_,_,v,h3,h4⟩:=h;obtain⟨vs,h5,h6⟩:=ih;exact⟨v :: vs,.cons h3 h5,.cons h4 h6⟩
abbrev pQ(fd:ao->Dm D):ao->Dm D:=λδ st=>bnd (fd δ st) λx st1=>match ja st1 x with
 |some kvs=>some (.ref st1.length,st1 ++ [.lst (kvs.map (·.2))])
 |none=>none
def WY{td:TE}{fd:ao->Dm D}(hd:eh K td fd):eh K (qM K td) (pQ fd):=by
 intro ρ σ H δ st b st' Q l rs e q;obtain⟨x,st1,e1,e⟩:=di e;refine hd ρ σ H δ st x st1 _ l rs e1 λvx H1 ρ1 m1 l1 r1=>?_;split at e
 ·next kvs hx =>
  cases e;obtain⟨p,i,ws,rfl,rfl,hi,hs,hp,rk⟩:=HS l1 r1 hx;obtain⟨vs,h1,h2⟩:=rk.vals;exact⟨p,ws,vs,rfl,hp,rk.keys,h1,λa ha=>q _ _ _ (m1.trans (Mn.new ha)) (l1.newL ha h2) (.ref (newR l1))⟩
 ·cases e
end
section
variable {st:Store}{δ:ao}{Q:D->Store->Prop}
def WZ{fd:ao->Dm D}:Wp (pQ fd δ st) Q↔Wp (fd δ st) λx st1=>∃kvs,ja st1 x=some kvs/\Q (.ref st1.length) (st1 ++ [.lst (kvs.map (·.2))]):=by
 unfold pQ;rw[cN];constructor<;>refineλh=>aQ h λx s h=>?_
 ·split at h
  ·next kvs h1=>exact⟨kvs,by assumption,bp.mp h⟩
  ·exact(fM.mp h).elim
 ·obtain⟨kvs,h1,h⟩:=h
  rw[h1];exact bp.mpr h
end
section
variable {K:Zfr}
abbrev pR:D->D->Dm D:=vU (λi j=>decide (j≠0/\j.natAbs.log2<9000)) λi j=>.int (i.fdiv j)
def W0:nW K (rI xt λi j=>.int (i.fdiv j)) pR:=Bz (λi j h=>of_decide_eq_true (p:=j≠0/\j.natAbs.log2<9000) h) λ_ _ _ _=>.int _
end
section
variable {st:Store}{Q:D->Store->Prop}
def W2{i j:Int}:Wp (pR (.int i) (.int j) st) Q↔(j≠0/\j.natAbs.log2<9000)/\Q (.int (i.fdiv j)) st:=by unfold pR;rw[BI,decide_eq_true_eq]
end
abbrev dc(i j:Int):Bool:=(decide (-18446744073709551616<i/\i<18446744073709551616) || decide (-18446744073709551616<j/\j<18446744073709551616)) || (decide (Builtin.Int.intBits i<=60000000) && decide (Builtin.Int.intBits j<=60000000))
abbrev fg:D->D->Dm D:=vU dc λi j=>.int (i*j)
section
variable {K:Zfr}
def sf:nW K (rI rJ λi j=>.int (i*j)) fg:=Bz (λi j h=>by
 unfold dc at h;rw[ZbR,ZbR,ZaB,decide_eq_true_eq,decide_eq_true_eq,decide_eq_true_eq,decide_eq_true_eq]at h
 exact h) λ_ _ _ _=>.int _
end
section
variable {st:Store}{Q:D->Store->Prop}
def Mc{i j:Int}:Wp (fg (.int i) (.int j) st) Q↔dc i j=true/\Q (.int (i*j)) st:=by unfold fg;rw[BI]
def W3{i j:Int}(h:i.natAbs<18446744073709551616):dc i j=true:=by unfold dc;rw[decide_eq_true (show -18446744073709551616<i/\i<18446744073709551616 by lk)];rfl
def Md{i j:Int}{k:Nat}(hk:k<=60000000)(h:i.natAbs<P2 k)(h2:j.natAbs<P2 k):dc i j=true:=by replace h:=xu h hk;replace h2:=xu h2 hk;unfold dc;rw[decide_eq_true h,decide_eq_true h2];simp
end
end L4
namespace My
local macro_rules|`(tactic| w_up)=>`(tactic| first|exact .inl rfl|exact .inr rfl|assumption)
local macro_rules|`(tactic| w_fin)=>`(tactic| decide +kernel)
local macro_rules|`(tactic|walk)=>`(tactic|exact ⟨rfl,rfl,rfl,by w_fin,rfl,by w_fin,by w_fin⟩)
local macro_rules|`(tactic| kspl_open $h)=>`(tactic| (refine L4.bA ?_;intro _ $h;set_option simprocs false in simp only[L4.a9]))
local macro_rules|`(tactic|exists $l,*)=>`(tactic|set_option simprocs false in simp only[L4.a9,$[$l:term],*])
local macro_rules|`(tactic| w_how)=>`(tactic| set_option simprocs false in simp only[L4.a9])
open PySem L2 L4
local macro_rules|`($a<|$b)=>`(@Sf _ _ _ _ _ $a $b (by rfl))
local macro_rules|`($a<|>$b)=>`(@R0 _ _ _ _ _ $a $b)
local macro_rules|`($a<*$b<*$c)=>`(@CF _ _ _ _ _ _ _ $a $b $c (λ_ _=>rfl))
local macro_rules|`(~~~$a)=>`(@R1 _ _ _ $a)
local macro_rules|`($a<*>$b<*>$c)=>`(@Ci _ _ _ _ _ _ _ _ $a $b $c)
local macro_rules|`($a&&&$b&&&$c)=>`(@yi _ _ _ _ _ _ _ _ PassesOwn.never rfl $a $b $c (by intro _;rfl))
local macro_rules|`($a>>=$b>>=$c)=>`(@yh (i:=$a) _ _ _ _ _ _ (az.nd $b) rfl (by w_up) $c (by rfl) (by w_up))
def W4:∀δ st as st',ah δ st=some (as,st')->as.length=0:=λ_ _ _ _ h=>Vu h
def kh{f1:ao->Dm D}:∀δ st as st',ae f1 ah δ st=some (as,st')->as.length=1:=LB W4
def dS{f1 f2:ao->Dm D}:∀δ st as st',ae f2 (ae f1 ah) δ st=some (as,st')->as.length=2:=LB kh
def W5{f1 f2 f3:ao->Dm D}:∀δ st as st',ae f3 (ae f2 (ae f1 ah)) δ st=some (as,st')->as.length=3:=LB dS
def bM{X:Cx}{k k':Nat}{f:Addr}{fd:FuncData}{ps:List Str}{sp:Sp}{x:Str}{st:Stmt}{e:Expr}{es:List Expr}{t:TA}{p pos:Pos}(F:aD X.prog X.w X.K X.mg X.base bq k f fd ps sp)(D:Def X.K X.mg x st ps f fd)(hr:iZ k' X.A)(hk:k<=k')(hg:Gl X x)(ha:PA X (e :: es) t)(hdb:(x == ("__debug__" : Str))=false:=by decide)(he:starEach (e :: es) X.env=(false,eval e X.env) :: starEach es X.env:=by rfl)(hpl:(backTo pos (starEach es X.env)).any (·.1)=false:=by rfl):PE X (.Call (.Name x p) (e :: es) [] pos) (tP sp [] E0 t):=Si F (hr.mono hk) hg D.m D.F.kp D.b .nil CT ha hdb he hpl
def oF{fd:FuncData}{p0:Str}(k:∀x0,bindArgs fd ⟨[x0],[]⟩=pure [(p0,x0)])(us:List Value)(h:us.length=1):bindArgs fd ⟨us,[]⟩=pure ([p0].zip us):=match us,h with|[x0],_=>k x0
def ml{fd:FuncData}{p0 p1:Str}(k:∀x0 x1,bindArgs fd ⟨[x0,x1],[]⟩=pure [(p0,x0),(p1,x1)])(us:List Value)(h:us.length=2):bindArgs fd ⟨us,[]⟩=pure ([p0,p1].zip us):=match us,h with|[x0,x1],_=>k x0 x1
def W6{fd:FuncData}{p0 p1 p2:Str}(k:∀x0 x1 x2,bindArgs fd ⟨[x0,x1,x2],[]⟩=pure [(p0,x0),(p1,x1),(p2,x2)])(us:List Value)(h:us.length=3):bindArgs fd ⟨us,[]⟩=pure ([p0,p1,p2].zip us):=match us,h with|[x0,x1,x2],_=>k x0 x1 x2
abbrev top(i:Nat):Stmt:=PySem.Challenge.pw_shearfloor_k35_bands_along_slopes.main.body.getD i (.Pass ⟨0,0,0,0⟩)
structure Txt(mg:Str->Option Value):Prop where
 Et:mg "abs" = none
 Eu:mg "all" = none
 nL:mg "enumerate" = none
 uH:mg "int" = none
 bW:mg "len" = none
 dA:mg "list" = none
 qu:mg "max" = none
 uI:mg "min" = none
 a7:mg "range" = none
 qZ:mg "reversed" = none
 qv:mg "sorted" = none
 aX:mg "tuple" = none
section
variable {P:Program}{w:World}{K:Zfr}{mg:Str->Option Value}{base:Heap}{f:Addr}{fd:FuncData}
abbrev HU:ao->Dm Fl :=
 (aB (aI (ay fF (ay j9 (fC (.int 7901)) (ag 1)) (fC (.int 24697))) (hName 2))
 (aB (kf (aJ (ay xF (ag 1) (aK cT (ae (ag 0) ah)))) (aI (ay dX (ag 0) (ag 1)) (hName 2)) (kf (aJ (ay DR (aK cT (ae (ag 0) ah)) (fC (.int 0)))) (aI (ay fF (ay j9 (ay lF (ay dX (ag 0) (ay lF (ag 1) (aK cT (ae (ag 0) ah)))) (fC (.int 2147483629))) (fC (.int 31))) (ay j9 (fC (.int 7901)) (ag 1))) (hName 2)) bI))
 (aB (aI (fC (.int 0)) (hName 3))
 (aB (kf (aJ (ay LC (ag 2) (ay uv (fC (.int 10)) (fC (.int 18))))) (aI (ag 2) (hName 3)) bI)
 (aV (cP (ae (ag 3) (ae (ay fF (ay lF (ay uv (ay fF (ay j9 (ay lF (ag 2) (fC (.int 2147483629))) (fC (.int 48271))) (ay j9 (fC (.int 40692)) (ag 1))) (fC (.int 5))) (fC (.int 2147483629))) (fC (.int 1))) ah))))))))
abbrev Ew:List D->Dm D:=dY 4 HU
abbrev Ey:Stmt:=top 54
def BK:az ["_law_script","_law_k","_law_cell","_law_own"] ["_law_script","_law_k"] (au Ey):=by walk
def W7(D:Def K mg "_law_feed" Ey ["_law_script","_law_k"] f fd)(T:Txt mg):aD P w K mg base bq 1 f fd ["_law_script","_law_k"] (bw K 2 Ew):=by
 refine D.F.ok BK (λ_ _ _ _ h=>h.1) (λc A o s H v Q E hr h=>?_);refine⟨_,((2>>=BK>>=bC oj (bC rq aG (pv 1)) aG)<|>(fL Bb (pv 1) (ji mT (by rfl) T.bW mX (pv 0<|aw)) (aL _)<*>(~~~(2>>=BK>>=(nM<*pv 0<*pv 1)))<*>(~~~(fL J4 (ji mT (by rfl) T.bW mX (pv 0<|aw)) aG (aL _)<*>(~~~(2>>=BK>>=bC oj (bC rq (bC sA (nM<*pv 0<*bC sA (pv 1) (ji mT (by rfl) T.bW mX (pv 0<|aw))) aG) aG) (bC rq aG (pv 1))))<*>l6)))<|>(3>>=BK>>=aG)<|>(fL Cv (pv 2) (bC Nd aG aG) (aL _)<*>(~~~(3>>=BK>>=pv 2))<*>l6)<|>(~~~(@cR _ _ _ _ (@l9 _ _ _ _ (pv 3<|bC oj (bC sA (bC Nd (bC oj (bC rq (bC sA (pv 2) aG) aG) (bC rq aG (pv 1))) aG) aG) aG<|aw))))),?_⟩
 exact eA (b:=HU) (a5 (bG (aA oz (aA rX (aH _) (ai 1)) (aH _)) (aS 2))
  (a5 (lK (fE (aA BA (ai 1) (bO nc (aj (ai 0) ax)))) (bG (aA nP (ai 0) (ai 1)) (aS 2)) (lK (fE (aA LD (bO nc (aj (ai 0) ax)) (aH _))) (bG (aA oz (aA rX (aA sL (aA nP (ai 0) (aA sL (ai 1) (bO nc (aj (ai 0) ax)))) (aH _)) (aH _)) (aA rX (aH _) (ai 1))) (aS 2)) mh))
  (a5 (bG (aH _) (aS 3))
  (a5 (lK (fE (aA DT (ai 2) (aA PU (aH _) (aH _)))) (bG (ai 2) (aS 3)) mh)
  (cV (mf (aj (ai 3) (aj (aA oz (aA sL (aA PU (aA oz (aA rX (aA sL (ai 2) (aH _)) (aH _)) (aA rX (aH _) (ai 1))) (aH _)) (aH _)) (aH _)) ax)))))))) rfl h
variable {jq:Addr}{jr:FuncData}(gM:Def K mg "_law_feed" Ey ["_law_script","_law_k"] jq jr)(jt:aD P w K mg base bq 1 jq jr ["_law_script","_law_k"] (bw K 2 Ew))
abbrev HV:ao->Dm Fl :=
 (aB (kf (aJ (ay DR (ay dX (ag 0) (fC (.int 0))) (fC (.int 0)))) (aB (aI (ay lF (ay dX (ag 0) (fC (.int 0))) (ag 1)) (hName 2))
 (aB (aI (ay nG (ay dX (ag 0) (fC (.int 0))) (ag 1)) (hSub (ag 0) (fC (.int 0))))
 (aV (ag 2)))) bI)
 (aB (aI (ay lF (ay j9 (ay dX (ag 0) (fC (.int 1))) (fC (.int 48271))) (fC (.int 2147483647))) (hName 3))
 (aB (aI (ay fF (ay lF (ay fF (ay j9 (ag 3) (fC (.int 40692))) (fC (.int 30103))) (fC (.int 2147483399))) (fC (.int 1))) (hSub (ag 0) (fC (.int 1))))
 (aV (ay lF (ay nG (ay fF (ay j9 (ag 3) (fC (.int 2147483647))) (ay dX (ag 0) (fC (.int 1)))) (fC (.int 8191))) (ag 1))))))
abbrev oW:List D->Dm D:=dY 4 HV
abbrev Ez:Stmt:=top 55
def Me:az ["_law_feed_here","_law_many","_law_digit","_law_one"] ["_law_feed_here","_law_many"] (au Ez):=by walk
def W8(D:Def K mg "_law_take" Ez ["_law_feed_here","_law_many"] f fd)(T:Txt mg):aD P w K mg base bq 1 f fd ["_law_feed_here","_law_many"] (bw K 2 oW):=by
 refine D.F.ok Me (λ_ _ _ _ h=>h.1) (λc A o s H v Q E hr h=>?_);refine⟨_,((fL J4 (nM<*pv 0<*aG) aG (aL _)<*>((2>>=Me>>=bC sA (nM<*pv 0<*aG) (pv 1))<|>uS (bC Cu (nM<*pv 0<*aG) (pv 1)) (A8 (pv 0) aG Be)<|>(~~~(@cR _ _ _ _ (pv 2))))<*>l6)<|>(3>>=Me>>=bC sA (bC rq (nM<*pv 0<*aG) aG) aG)<|>uS (bC oj (bC sA (bC oj (bC rq (pv 3) aG) aG) aG) aG) (A8 (pv 0) aG Be)<|>(~~~(@cR _ _ _ _ (bC sA (bC Cu (bC oj (bC rq (pv 3) aG) (nM<*pv 0<*aG)) aG) (pv 1))))),?_⟩
 exact eA (b:=HV) (a5 (lK (fE (aA LD (aA nP (ai 0) (aH _)) (aH _))) (a5 (bG (aA sL (aA nP (ai 0) (aH _)) (ai 1)) (aS 2))
  (a5 (bG (aA DS (aA nP (ai 0) (aH _)) (ai 1)) (BF (ai 0) (aH _)))
  (cV (ai 2)))) mh)
  (a5 (bG (aA sL (aA rX (aA nP (ai 0) (aH _)) (aH _)) (aH _)) (aS 3))
  (a5 (bG (aA oz (aA sL (aA oz (aA rX (ai 3) (aH _)) (aH _)) (aH _)) (aH _)) (BF (ai 0) (aH _)))
  (cV (aA sL (aA DS (aA oz (aA rX (ai 3) (aH _)) (aA nP (ai 0) (aH _))) (aH _)) (ai 1)))))) rfl h
variable {ju:Addr}{jv:FuncData}(aN:Def K mg "_law_take" Ez ["_law_feed_here","_law_many"] ju jv)(aO:aD P w K mg base bq 1 ju jv ["_law_feed_here","_law_many"] (bw K 2 oW))
abbrev HW:ao->Dm Fl :=
 (aB (oT 0 1 (ae (aK nH (ae (ag 0) (ae (ay jh (fC (.int 0)) (ag 0)) ah))) (ae (aK nH (ae (ag 1) (ae (ay jh (fC (.int 0)) (ag 1)) ah))) ah)))
 (aB (d5 (aJ (ay (kQ true) (ag 1) (fC (.int 0)))) (oT 0 1 (ae (ag 1) (ae (ay lF (ag 0) (ag 1)) ah))))
 (aV (ag 0))))
abbrev EA:List D->Dm D:=dY 2 HW
abbrev EB:Stmt:=top 67
def Mf:az ["_law_a","_law_c"] ["_law_a","_law_c"] (au EB):=by walk
def W9(D:Def K mg "_law_common" EB ["_law_a","_law_c"] f fd)(T:Txt mg):aD P w K mg base bq 1 f fd ["_law_a","_law_c"] (bw K 2 EA):=by
 refine D.F.ok Mf (λ_ _ _ _ h=>h.1) (λc A o s H v Q E hr h=>?_);refine⟨_,((A9 (i:=0) (j:=1) rfl Mf.nd rfl rfl ∅ rfl rfl (ji (Cw rfl) (by rfl) T.qu CU (pv 0<|bC sS aG (pv 0)<|aw)<|ji (Cw rfl) (by rfl) T.qu CU (pv 1<|bC sS aG (pv 1)<|aw)<|aw) rfl)<|>tM PassesOwn.never (fL vn (pv 1) aG (aL _)) (~~~(A9 (i:=0) (j:=1) rfl Mf.nd rfl rfl ∅ rfl rfl (pv 1<|bC sA (pv 0) (pv 1)<|aw) rfl))<|>(~~~(@cR _ _ _ _ (pv 0)))),?_⟩
 exact eA (b:=HW) (a5 (BG (aj (bO DW (aj (ai 0) (aj (aA tj (aH _) (ai 0)) ax))) (aj (bO DW (aj (ai 1) (aj (aA tj (aH _) (ai 1)) ax))) ax)))
  (a5 (ux (fE (aA vV (ai 1) (aH _))) (BG (aj (ai 1) (aj (aA sL (ai 0) (ai 1)) ax))))
  (cV (ai 0)))) rfl h
variable {fP:Addr}{fQ:FuncData}(dB:Def K mg "_law_common" EB ["_law_a","_law_c"] fP fQ)(fR:aD P w K mg base bq 1 fP fQ ["_law_a","_law_c"] (bw K 2 EA))
abbrev HX:ao->Dm Fl :=
 (aB (aI (aK oW (ae (ag 0) (ae (fC (.int 8)) ah))) (hName 2))
 (aB (kf (aJ (ay (kQ false) (ag 2) (fC (.int 0)))) (aV (bB (ae (fC (.int 1)) (ae (fC (.int 0)) ah)))) bI)
 (aB (aI (ay fF (fC (.int 1)) (aK oW (ae (ag 0) (ae (ag 1) ah)))) (hName 3))
 (aB (aI (aK oW (ae (ag 0) (ae (ay fF (ay jh (ag 1) (ag 3)) (fC (.int 1))) ah))) (hName 4))
 (aB (aI (aK EA (ae (ag 4) (ae (ag 3) ah))) (hName 5))
 (aV (bB (ae (ay nG (ay j9 (ay dX (cP (ae (fC (.int 1)) (ae (oN gJ (fC (.int 1))) ah))) (aK oW (ae (ag 0) (ae (fC (.int 2)) ah)))) (ag 4)) (ag 5)) (ae (ay nG (ag 3) (ag 5)) ah)))))))))
abbrev EC:List D->Dm D:=dY 6 HX
abbrev ED:Stmt:=top 68
def EE:az ["_law_feed_here","_law_most","_law_form","_law_c","_law_wide","_law_common_here"] ["_law_feed_here","_law_most"] (au ED):=by walk
include aN aO dB fR in
def Xa(D:Def K mg "_law_slope" ED ["_law_feed_here","_law_most"] f fd)(T:Txt mg):aD P w K mg base bq 2 f fd ["_law_feed_here","_law_most"] (bw K 2 EC):=by
 refine D.F.ok EE (λ_ _ _ _ h=>h.1) (λc A o s H v Q E hr h=>?_);refine⟨_,((2>>=EE>>=bM aO aN hr ∅ rfl (pv 0<|aG<|aw))<|>(fL pz (pv 2) aG (aL _)<*>(~~~(@cR _ _ _ _ (@g7 _ _ _ _ _ (aG<|aG<|aw))))<*>l6)<|>(3>>=EE>>=bC oj aG (bM aO aN hr ∅ rfl (pv 0<|pv 1<|aw)))<|>(4>>=EE>>=bM aO aN hr ∅ rfl (pv 0<|bC oj (bC sS (pv 1) (pv 3)) aG<|aw))<|>(5>>=EE>>=bM fR dB hr ∅ rfl (pv 4<|pv 3<|aw))<|>(~~~(@cR _ _ _ _ (@g7 _ _ _ _ _ (bC Cu (bC rq (nM<*(@l9 _ _ _ _ (aG<|oY oZ aG<|aw))<*bM aO aN hr ∅ rfl (pv 0<|aG<|aw)) (pv 4)) (pv 5)<|bC Cu (pv 3) (pv 5)<|aw))))),?_⟩
 exact eA (b:=HX) (a5 (bG (bL (F:=oW) (aj (ai 0) (aj (aH _) ax)) dS) (aS 2))
  (a5 (lK (fE (aA pI (ai 2) (aH _))) (cV (g8 (aj (aH _) (aj (aH _) ax)))) mh)
  (a5 (bG (aA oz (aH _) (bL (F:=oW) (aj (ai 0) (aj (ai 1) ax)) dS)) (aS 3))
  (a5 (bG (bL (F:=oW) (aj (ai 0) (aj (aA oz (aA tj (ai 1) (ai 3)) (aH _)) ax)) dS) (aS 4))
  (a5 (bG (bL (F:=EA) (aj (ai 4) (aj (ai 3) ax)) dS) (aS 5))
  (cV (g8 (aj (aA DS (aA rX (aA nP (mf (aj (aH _) (aj (o8 o9 (aH _)) ax))) (bL (F:=oW) (aj (ai 0) (aj (aH _) ax)) dS)) (ai 4)) (ai 5)) (aj (aA DS (ai 3) (ai 5)) ax))))))))) rfl h
variable {hV:Addr}{h9:FuncData}(fj:Def K mg "_law_slope" ED ["_law_feed_here","_law_most"] hV h9)(ia:aD P w K mg base bq 2 hV h9 ["_law_feed_here","_law_most"] (bw K 2 EC))
abbrev HY:ao->Dm Fl :=
 (aV (aK aZ (ae (bJ (bY (ag 0)) 1 [1] (hName 0) cu (aK aZ (ae (bJ (bZ (ae (aK cT (ae (ag 1) ah)) ah)) 1 [0,1] (hName 0) cu (ay aE (ag 2) (ay aE (ag 1) (nX "tuple" gK (ag 2) (ae (ag 0) ah))))) ah))) ah)))
abbrev Az:List D->Dm D:=dY 2 HY
abbrev EF:Stmt:=top 62
def Xb:az ["_law_floor_here","_law_p"] ["_law_floor_here","_law_p"] (au EF):=by walk
def Xc(D:Def K mg "_law_anew" EF ["_law_floor_here","_law_p"] f fd)(T:Txt mg):aD P w K mg base bq 1 f fd ["_law_floor_here","_law_p"] (bw K 2 Az):=by refine D.F.ok Xb (λ_ _ _ _ h=>h.1) (λc A o s H v Q E hr h=>?_);refine⟨_,(~~~(@cR _ _ _ _ (fD mV (by rfl) T.aX mY (p5 (own:=["_law_turning_here"]) (fr:=["_law_p"]) (js:=[1]) rfl ⟨⟨rfl,by w_fin,by w_fin,by dsimp only[dW,aM,Cx.nE,Cx.wish,PyProof.Rows.envOfC,compEnvC,relabel,Env.kindOf];decide +kernel,by w_fin⟩,rfl⟩ (oP (pv 0)) (λ_ _ _ _ _=>(dU (i:=0) (show((["_law_turning_here"]:List Str) ++ (["_law_p"]:List Str)).Nodup by w_fin) rfl (by w_up))) (λ_ _ _ _ _=>qI) (λ_ _ _ _ _=>(fD (Ti (K:=K) rfl) (by rfl) T.aX mY (p5 (own:=["_law_s"]) (fr:=["_law_turning_here","_law_p"]) (js:=[0,1]) rfl ⟨VE ⟨rfl,by w_fin,by w_fin,by dsimp only[dW,Cx.nE,Cx.wish,PyProof.Rows.envOfC];decide +kernel,by w_fin⟩,rfl⟩ (qD rfl T.a7 (ji (Tg (K:=K) rfl) (by rfl) T.bW mX (pv 1<|aw)<|aw)) (λ_ _ _ _ _=>(dU (i:=0) (show((["_law_s"]:List Str) ++ (["_law_turning_here","_law_p"]:List Str)).Nodup by w_fin) rfl (by w_up))) (λ_ _ _ _ _=>qI) (λ_ _ _ _ _=>(o4 (K:=K) rfl<*pv 2<*(o4 (K:=K) rfl<*pv 1<*C6 (K:=K) rfl PySem.F.plainAttrs_tuple PySem.F.slot_tuple_index PySem.F.type_tuple_index (C5 (K:=K) rfl) (pv 2) (pv 0<|aw))))<|aw)))<|aw)))),?_⟩;exact eA (b:=HY) (cV (bO ng (aj (oO (oV (ai 0)) (aS 0) qU (bO ng (aj (oO (qT (aj (bO nc (aj (ai 1) ax)) ax)) (aS 0) qU (aA bD (ai 2) (aA bD (ai 1) (pb DX (ai 2) (aj (ai 0) ax))))) ax))) ax))) rfl h
variable {jw:Addr}{jx:FuncData}(cB:Def K mg "_law_anew" EF ["_law_floor_here","_law_p"] jw jx)(de:aD P w K mg base bq 1 jw jx ["_law_floor_here","_law_p"] (bw K 2 Az))
abbrev HZ:ao->Dm Fl :=
 (aB (aI (aK fG (ae (aK kR (ae (ag 1) ah)) ah)) (hName 2))
 (aB (aI (bB ah) (hName 3))
 (aB (d5 (aJ (ay (jn true) (ag 2) (cP ah))) (aI (ay kn (ag 3) (bB (ae (nX "list" nh (ag 2) (ae (aK oW (ae (ag 0) (ae (aK cT (ae (ag 2) ah)) ah))) ah)) ah))) (hName 3)))
 (aV (ag 3)))))
abbrev uJ:List D->Dm D:=dY 4 HZ
abbrev EG:Stmt:=top 56
def Ic:az ["_law_feed_here","_law_n","_law_left","_law_found"] ["_law_feed_here","_law_n"] (au EG):=by walk
include aN aO in
def Xe(D:Def K mg "_law_turning" EG ["_law_feed_here","_law_n"] f fd)(T:Txt mg):aD P w K mg base bq 2 f fd ["_law_feed_here","_law_n"] (bw K 2 uJ):=by
 refine D.F.ok Ic (λ_ _ _ _ h=>h.1) (λc A o s H v Q E hr h=>?_);have hu:=hr.units;refine⟨_,((2>>=Ic>>=fD (vw rfl) (by rfl) T.dA rF (fD Kr (by rfl) T.a7 vt (pv 1<|aw)<|aw))<|>(3>>=Ic>>=(@g7 _ _ _ _ _ aw))<|>tM PassesOwn.never (fL (CW hu) (pv 2) (@l9 _ _ _ _ aw) (aL _)) (~~~(3>>=Ic>>=bC xc (pv 3) (@g7 _ _ _ _ _ (qz PySem.F.plainAttrs_list PySem.F.slot_list_pop PySem.F.type_list_pop SG (pv 2) (bM aO aN hr ∅ rfl (pv 0<|ji mT (by rfl) T.bW mX (pv 2<|aw)<|aw)<|aw)<|aw))))<|>(~~~(@cR _ _ _ _ (pv 3)))),?_⟩
 exact eA (b:=HZ) (a5 (bG (bO vY (aj (bO LG (aj (ai 1) ax)) ax)) (aS 2))
  (a5 (bG (g8 ax) (aS 3))
  (a5 (ux (fE (aA (vW true) (ai 2) (mf ax))) (bG (aA xG (ai 3) (g8 (aj (pb VA (ai 2) (aj (bL (F:=oW) (aj (ai 0) (aj (bO nc (aj (ai 2) ax)) ax)) dS) ax)) ax))) (aS 3)))
  (cV (ai 3))))) rfl h
variable {eC:Addr}{eE:FuncData}(aT:Def K mg "_law_turning" EG ["_law_feed_here","_law_n"] eC eE)(a6:aD P w K mg base bq 2 eC eE ["_law_feed_here","_law_n"] (bw K 2 uJ))
abbrev Ie:ao->Dm Fl :=
 (aB (aI (cP (ae (fC (.int 0)) ah)) (hName 1))
 (aB (ff (bZ (ae (ay fF (fC (.int 1)) (aK cT (ae (ay aE (ag 0) (fC (.int 0))) ah))) ah)) (hName 2) (ff (bY (ag 0)) (hName 3) (ff (ko (aK oA (ae (ag 1) ah))) (hName 4) (kf (aJ (ay (sN true) (ay aE (ag 3) (ag 4)) (ag 1))) (d3 (nX "list" bR (ag 1) (ae (ay aE (ag 3) (ag 4)) ah))) bI))))
 (aV (ag 1))))
abbrev wt:List D->Dm D:=dY 5 Ie
abbrev EH:Stmt:=top 57
def EI:az ["_law_floor_here","_law_found","_law_turn","_law_turning_here","_law_one"] ["_law_floor_here"] (au EH):=by walk
def Xf(D:Def K mg "_law_met" EH ["_law_floor_here"] f fd)(T:Txt mg):aD P w K mg base bq 1 f fd ["_law_floor_here"] (bw K 1 wt):=by
 refine D.F.ok EI (λ_ _ _ _ h=>h.1) (λc A o s H v Q E hr h=>?_);refine⟨_,((1>>=EI>>=(@l9 _ _ _ _ (aG<|aw)))<|>(qD rfl T.a7 (bC oj aG (ji mT (by rfl) T.bW mX ((bT<*pv 0<*aG)<|aw))<|aw)&&&(dU (i:=2) EI.nd rfl (by w_up))&&&(~~~(oP (pv 0)&&&(dU (i:=3) EI.nd rfl (by w_up))&&&(~~~(GO (fD GZ (by rfl) T.dA rF (pv 1<|aw))&&&(dU (i:=4) EI.nd rfl (by w_up))&&&(~~~(fL GY (bT<*pv 3<*pv 4) (pv 1) (by with_unfolding_all rfl)<*>(~~~rn (qz PySem.F.plainAttrs_list PySem.F.slot_list_append PySem.F.type_list_append sD (pv 1) ((bT<*pv 3<*pv 4)<|aw)))<*>l6)))))))<|>(~~~(@cR _ _ _ _ (pv 1)))),?_⟩
 exact eA (b:=Ie) (a5 (bG (mf (aj (aH _) ax)) (aS 1))
  (a5 (oU (qT (aj (aA oz (aH _) (bO nc (aj (aA bD (ai 0) (aH _)) ax))) ax)) (aS 2) (oU (oV (ai 0)) (aS 3) (oU (HC (bO HA (aj (ai 1) ax))) (aS 4) (lK (fE (aA (BD true) (aA bD (ai 3) (ai 4)) (ai 1))) (r6 (pb sQ (ai 1) (aj (aA bD (ai 3) (ai 4)) ax))) mh))))
  (cV (ai 1)))) rfl h
variable {kT:Addr}{kU:FuncData}(gG:Def K mg "_law_met" EH ["_law_floor_here"] kT kU)(jb:aD P w K mg base bq 1 kT kU ["_law_floor_here"] (bw K 1 wt))
abbrev Ig:ao->Dm Fl :=
 (aB (aI (aK oW (ae (ag 0) (ae (fC (.int 6)) ah))) (hName 2))
 (aB (oT 3 4 (ae (aK oA (ae (aK uJ (ae (ag 0) (ae (ag 1) ah))) ah)) (ae (aK oA (ae (aK uJ (ae (ag 0) (ae (ag 1) ah))) ah)) ah)))
 (aB (kf (aJ (ay (kQ false) (ag 2) (fC (.int 0)))) (aI (ay m9 (aK fG (ae (aK fO (ae (fC (.int 1)) (ae (ag 1) ah))) ah)) (cP (ae (fC (.int 0)) ah))) (hName 3)) bI)
 (aB (kf (aJ (ay (kQ false) (ag 2) (fC (.int 1)))) (oT 3 4 (ae (aK fG (ae (aK kR (ae (ag 1) ah)) ah)) (ae (ay m9 (aK fG (ae (aK fO (ae (fC (.int 1)) (ae (ag 1) ah))) ah)) (cP (ae (fC (.int 0)) ah))) ah))) bI)
 (aB (kf (aJ (ay (kQ false) (ag 2) (fC (.int 2)))) (aB (aI (ay fF (fC (.int 1)) (aK oW (ae (ag 0) (ae (ag 1) ah)))) (hName 5))
 (aB (aI (ay m9 (ay m9 (aK fG (ae (aK fO (ae (fC (.int 1)) (ae (ag 5) ah))) ah)) (cP (ae (fC (.int 0)) ah))) (aK fG (ae (aK fO (ae (ag 5) (ae (ag 1) ah))) ah))) (hName 3))
 (aB (aI (zm uw (ay m9 (ay m9 (ay m9 (cP (ae (ag 5) ah)) (aK fG (ae (aK fO (ae (fC (.int 1)) (ae (ag 5) ah))) ah))) (aK fG (ae (aK fO (ae (ay fF (ag 5) (fC (.int 1))) (ae (ag 1) ah))) ah))) (cP (ae (fC (.int 0)) ah))) kP (oy (ag 1))) (hName 4))
 (kf (aJ (ay (kQ false) (ag 5) (ag 1))) (aI (aK fG (ae (aK kR (ae (ag 1) ah)) ah)) (hName 4)) bI)))) bI)
 (aB (aI (bB (ae (aK aZ (ae (ag 3) ah)) (ae (aK aZ (ae (ag 4) ah)) ah))) (hName 6))
 (aB (aI (bJ (bZ (ae (ag 1) ah)) 1 [6] (hName 0) (aJ (ay (sN true) (ag 0) (aK wt (ae (ag 1) ah)))) (ag 0)) (hName 7))
 (aB (d5 (aJ (ay (jn true) (ag 7) (cP ah))) (aB (aI (ay dX (ag 7) (fC (.int 0))) (hName 8))
 (aB (aI (bB (ae (ay dX (ag 3) (ag 8)) (ae (ay dX (ag 3) (fC (.int 0))) ah))) (nQ 2 (cU (hSub (ag 3) (fC (.int 0))) (cU (hSub (ag 3) (ag 8)) oC))))
 (aB (aI (bB (ae (aK aZ (ae (ag 3) ah)) (ae (aK aZ (ae (ag 4) ah)) ah))) (hName 6))
 (aI (bJ (bZ (ae (ag 1) ah)) 1 [6] (hName 0) (aJ (ay (sN true) (ag 0) (aK wt (ae (ag 1) ah)))) (ag 0)) (hName 7))))))
 (aV (ag 6))))))))))
abbrev EJ:List D->Dm D:=dY 9 Ig
abbrev EK:Stmt:=top 58
def si:az ["_law_feed_here","_law_n","_law_form","_law_right","_law_up","_law_wide","_law_found","_law_apart","_law_m"] ["_law_feed_here","_law_n"] (au EK):=by walk
include aN aO aT a6 gG jb in
def Xg(D:Def K mg "_law_floor" EK ["_law_feed_here","_law_n"] f fd)(T:Txt mg):aD P w K mg base bq 3 f fd ["_law_feed_here","_law_n"] (bw K 2 EJ):=by
 refine D.F.ok si (λ_ _ _ _ h=>h.1) (λc A o s H v Q E hr h=>?_);have hu:=hr.units;refine⟨_,((2>>=si>>=bM aO aN hr ∅ rfl (pv 0<|aG<|aw))<|>(A9 (i:=3) (j:=4) rfl si.nd rfl rfl ∅ rfl rfl (fD GZ (by rfl) T.dA rF (bM a6 aT hr ∅ rfl (pv 0<|pv 1<|aw)<|aw)<|fD GZ (by rfl) T.dA rF (bM a6 aT hr ∅ rfl (pv 0<|pv 1<|aw)<|aw)<|aw) rfl)<|>(fL pz (pv 2) aG (aL _)<*>(~~~(3>>=si>>=bC uU (fD (vw rfl) (by rfl) T.dA rF (fD Bh (by rfl) T.a7 vt (aG<|pv 1<|aw)<|aw)) (@l9 _ _ _ _ (aG<|aw))))<*>l6)<|>(fL pz (pv 2) aG (aL _)<*>(~~~(A9 (i:=3) (j:=4) rfl si.nd rfl rfl ∅ rfl rfl (fD (vw rfl) (by rfl) T.dA rF (fD Kr (by rfl) T.a7 vt (pv 1<|aw)<|aw)<|bC uU (fD (vw rfl) (by rfl) T.dA rF (fD Bh (by rfl) T.a7 vt (aG<|pv 1<|aw)<|aw)) (@l9 _ _ _ _ (aG<|aw))<|aw) rfl))<*>l6)<|>(fL pz (pv 2) aG (aL _)<*>((5>>=si>>=bC oj aG (bM aO aN hr ∅ rfl (pv 0<|pv 1<|aw)))<|>(3>>=si>>=bC uU (bC uU (fD (vw rfl) (by rfl) T.dA rF (fD Bh (by rfl) T.a7 vt (aG<|pv 5<|aw)<|aw)) (@l9 _ _ _ _ (aG<|aw))) (fD (vw rfl) (by rfl) T.dA rF (fD Bh (by rfl) T.a7 vt (pv 5<|pv 1<|aw)<|aw)))<|>(4>>=si>>=GV NA (bC uU (bC uU (bC uU (@l9 _ _ _ _ (pv 5<|aw)) (fD (vw rfl) (by rfl) T.dA rF (fD Bh (by rfl) T.a7 vt (aG<|pv 5<|aw)<|aw))) (fD (vw rfl) (by rfl) T.dA rF (fD Bh (by rfl) T.a7 vt (bC oj (pv 5) aG<|pv 1<|aw)<|aw))) (@l9 _ _ _ _ (aG<|aw))) GR (GS (pv 1)))<|>(~~~(fL pz (pv 5) (pv 1) (aL _)<*>(~~~(4>>=si>>=fD (vw rfl) (by rfl) T.dA rF (fD Kr (by rfl) T.a7 vt (pv 1<|aw)<|aw)))<*>l6)))<*>l6)<|>(6>>=si>>=(@g7 _ _ _ _ _ (fD mV (by rfl) T.aX mY (pv 3<|aw)<|fD mV (by rfl) T.aX mY (pv 4<|aw)<|aw)))<|>(G7 (i:=7) (own:=["_law_s"]) (fr:=["_law_found"]) (js:=[6]) rfl si.nd rfl rfl ⟨⟨rfl,by w_fin,by w_fin,by dsimp only[dW,aM,Cx.nE,Cx.wish,PyProof.Rows.envOfC,compEnvC,relabel,Env.kindOf];decide +kernel,by w_fin⟩,rfl⟩ (qD rfl T.a7 (pv 1<|aw)) (λ_ _ _ _ _=>(dU (i:=0) (show((["_law_s"]:List Str) ++ (["_law_found"]:List Str)).Nodup by w_fin) rfl (by w_up))) (λ_ _ _ _ _=>(yD (fL (NZ (K:=K) rfl) (pv 0) (bM jb gG hr ∅ rfl (pv 1<|aw)) (by with_unfolding_all rfl)))) (λ_ _ _ _ _=>(pv 0)))<|>tM PassesOwn.never (fL (CW hu) (pv 7) (@l9 _ _ _ _ aw) (aL _)) ((8>>=si>>=(nM<*pv 7<*aG))<|>uS (@g7 _ _ _ _ _ ((nM<*pv 3<*pv 8)<|(nM<*pv 3<*aG)<|aw)) (vh (n:=2) rfl (pq (A8 (pv 3) aG Be) (pq (A8 (pv 3) (pv 8) Be) vg)))<|>(6>>=si>>=(@g7 _ _ _ _ _ (fD mV (by rfl) T.aX mY (pv 3<|aw)<|fD mV (by rfl) T.aX mY (pv 4<|aw)<|aw)))<|>(~~~(G7 (i:=7) (own:=["_law_s"]) (fr:=["_law_found"]) (js:=[6]) rfl si.nd rfl rfl ⟨⟨rfl,by w_fin,by w_fin,by dsimp only[dW,aM,Cx.nE,Cx.wish,PyProof.Rows.envOfC,compEnvC,relabel,Env.kindOf];decide +kernel,by w_fin⟩,rfl⟩ (qD rfl T.a7 (pv 1<|aw)) (λ_ _ _ _ _=>(dU (i:=0) (show((["_law_s"]:List Str) ++ (["_law_found"]:List Str)).Nodup by w_fin) rfl (by w_up))) (λ_ _ _ _ _=>(yD (fL (NZ (K:=K) rfl) (pv 0) (bM jb gG hr ∅ rfl (pv 1<|aw)) (by with_unfolding_all rfl)))) (λ_ _ _ _ _=>(pv 0)))))<|>(~~~(@cR _ _ _ _ (pv 6)))),?_⟩
 exact eA (b:=Ig) (a5 (bG (bL (F:=oW) (aj (ai 0) (aj (aH _) ax)) dS) (aS 2))
  (a5 (BG (aj (bO HA (aj (bL (F:=uJ) (aj (ai 0) (aj (ai 1) ax)) dS) ax)) (aj (bO HA (aj (bL (F:=uJ) (aj (ai 0) (aj (ai 1) ax)) dS) ax)) ax)))
  (a5 (lK (fE (aA pI (ai 2) (aH _))) (bG (aA uZ (bO vY (aj (bO BE (aj (aH _) (aj (ai 1) ax))) ax)) (mf (aj (aH _) ax))) (aS 3)) mh)
  (a5 (lK (fE (aA pI (ai 2) (aH _))) (BG (aj (bO vY (aj (bO LG (aj (ai 1) ax)) ax)) (aj (aA uZ (bO vY (aj (bO BE (aj (aH _) (aj (ai 1) ax))) ax)) (mf (aj (aH _) ax))) ax))) mh)
  (a5 (lK (fE (aA pI (ai 2) (aH _))) (a5 (bG (aA oz (aH _) (bL (F:=oW) (aj (ai 0) (aj (ai 1) ax)) dS)) (aS 5))
  (a5 (bG (aA uZ (aA uZ (bO vY (aj (bO BE (aj (aH _) (aj (ai 5) ax))) ax)) (mf (aj (aH _) ax))) (bO vY (aj (bO BE (aj (ai 5) (aj (ai 1) ax))) ax))) (aS 3))
  (a5 (bG (Hy PX (aA uZ (aA uZ (aA uZ (mf (aj (ai 5) ax)) (bO vY (aj (bO BE (aj (aH _) (aj (ai 5) ax))) ax))) (bO vY (aj (bO BE (aj (aA oz (ai 5) (aH _)) (aj (ai 1) ax))) ax))) (mf (aj (aH _) ax))) Hw (Hx (ai 1))) (aS 4))
  (lK (fE (aA pI (ai 5) (ai 1))) (bG (bO vY (aj (bO LG (aj (ai 1) ax)) ax)) (aS 4)) mh)))) mh)
  (a5 (bG (g8 (aj (bO ng (aj (ai 3) ax)) (aj (bO ng (aj (ai 4) ax)) ax))) (aS 6))
  (a5 (bG (oO (qT (aj (ai 1) ax)) (aS 0) (fE (aA (BD true) (ai 0) (bL (F:=wt) (aj (ai 1) ax) kh))) (ai 0)) (aS 7))
  (a5 (ux (fE (aA (vW true) (ai 7) (mf ax))) (a5 (bG (aA nP (ai 7) (aH _)) (aS 8))
  (a5 (bG (g8 (aj (aA nP (ai 3) (ai 8)) (aj (aA nP (ai 3) (aH _)) ax))) (wb (pK (BF (ai 3) (aH _)) (pK (BF (ai 3) (ai 8)) wa))))
  (a5 (bG (g8 (aj (bO ng (aj (ai 3) ax)) (aj (bO ng (aj (ai 4) ax)) ax))) (aS 6))
  (bG (oO (qT (aj (ai 1) ax)) (aS 0) (fE (aA (BD true) (ai 0) (bL (F:=wt) (aj (ai 1) ax) kh))) (ai 0)) (aS 7))))))
  (cV (ai 6)))))))))) rfl h
variable {ib:Addr}{ic:FuncData}(fm:Def K mg "_law_floor" EK ["_law_feed_here","_law_n"] ib ic)(ie:aD P w K mg base bq 3 ib ic ["_law_feed_here","_law_n"] (bw K 2 EJ))
abbrev Ih:ao->Dm Fl :=
 (aB (aI (ay fF (fC (.int 1)) (aK oW (ae (ag 0) (ae (ag 1) ah)))) (hName 2))
 (aV (aK Az (ae (aK EJ (ae (ag 0) (ae (ag 2) ah))) (ae (aK uJ (ae (ag 0) (ae (ag 2) ah))) ah)))))
abbrev EL:List D->Dm D:=dY 3 Ih
abbrev EM:Stmt:=top 63
def QJ:az ["_law_feed_here","_law_most","_law_n"] ["_law_feed_here","_law_most"] (au EM):=by walk
include aN aO cB de aT a6 fm ie in
def Xh(D:Def K mg "_law_drawn" EM ["_law_feed_here","_law_most"] f fd)(T:Txt mg):aD P w K mg base bq 4 f fd ["_law_feed_here","_law_most"] (bw K 2 EL):=by
 refine D.F.ok QJ (λ_ _ _ _ h=>h.1) (λc A o s H v Q E hr h=>?_);refine⟨_,((2>>=QJ>>=bC oj aG (bM aO aN hr ∅ rfl (pv 0<|pv 1<|aw)))<|>(~~~(@cR _ _ _ _ (bM de cB hr ∅ rfl (bM ie fm hr ∅ rfl (pv 0<|pv 2<|aw)<|bM a6 aT hr ∅ rfl (pv 0<|pv 2<|aw)<|aw))))),?_⟩
 exact eA (b:=Ih) (a5 (bG (aA oz (aH _) (bL (F:=oW) (aj (ai 0) (aj (ai 1) ax)) dS)) (aS 2))
  (cV (bL (F:=Az) (aj (bL (F:=EJ) (aj (ai 0) (aj (ai 2) ax)) dS) (aj (bL (F:=uJ) (aj (ai 0) (aj (ai 2) ax)) dS) ax)) dS))) rfl h
variable {ig:Addr}{il:FuncData}(fq:Def K mg "_law_drawn" EM ["_law_feed_here","_law_most"] ig il)(ip:aD P w K mg base bq 4 ig il ["_law_feed_here","_law_most"] (bw K 2 EL))
abbrev Ii:ao->Dm Fl :=
 (aB (aI (cP (ae (ag 1) ah)) (hName 2))
 (aB (aI (ay aE (ag 0) (ag 1)) (hName 3))
 (aB (d5 (aJ (ay (kQ true) (ag 3) (ag 1))) (aB (d3 (nX "list" bR (ag 2) (ae (ag 3) ah)))
 (aI (ay aE (ag 0) (ag 3)) (hName 3))))
 (aV (aK aZ (ae (ag 2) ah))))))
abbrev AA:List D->Dm D:=dY 4 Ii
abbrev EN:Stmt:=top 4
def Ij:az ["turning","first","ring","reached"] ["turning","first"] (au EN):=by walk
def Xi(D:Def K mg "ring_from" EN ["turning","first"] f fd)(T:Txt mg):aD P w K mg base bq 1 f fd ["turning","first"] (bw K 2 AA):=by
 refine D.F.ok Ij (λ_ _ _ _ h=>h.1) (λc A o s H v Q E hr h=>?_);refine⟨_,((2>>=Ij>>=(@l9 _ _ _ _ (pv 1<|aw)))<|>(3>>=Ij>>=(bT<*pv 0<*pv 1))<|>tM PassesOwn.never (fL vn (pv 3) (pv 1) (aL _)) (rn (qz PySem.F.plainAttrs_list PySem.F.slot_list_append PySem.F.type_list_append sD (pv 2) (pv 3<|aw))<|>(~~~(3>>=Ij>>=(bT<*pv 0<*pv 3))))<|>(~~~(@cR _ _ _ _ (fD mV (by rfl) T.aX mY (pv 2<|aw))))),?_⟩
 exact eA (b:=Ii) (a5 (bG (mf (aj (ai 1) ax)) (aS 2))
  (a5 (bG (aA bD (ai 0) (ai 1)) (aS 3))
  (a5 (ux (fE (aA vV (ai 3) (ai 1))) (a5 (r6 (pb sQ (ai 2) (aj (ai 3) ax)))
  (bG (aA bD (ai 0) (ai 3)) (aS 3))))
  (cV (bO ng (aj (ai 2) ax)))))) rfl h
variable {jy:Addr}{jz:FuncData}(cC:Def K mg "ring_from" EN ["turning","first"] jy jz)(df:aD P w K mg base bq 1 jy jz ["turning","first"] (bw K 2 AA))
abbrev Ik:ao->Dm Fl :=
 (aB (aI (cP ah) (hName 1))
 (aB (aI uC (hName 2))
 (aB (ff (bZ (ae (aK cT (ae (ag 0) ah)) ah)) (hName 3) (kf (aJ (wc true (ag 3) (ag 2))) (aB (aI (aK AA (ae (ag 0) (ae (ag 3) ah))) (hName 4))
 (aB (d3 (nX "list" bR (ag 1) (ae (ag 4) ah)))
 (ff (bY (ag 4)) (hName 5) (sa (ag 2) (ag 5) (fC (.bl true)))))) bI))
 (aV (aK aZ (ae (ag 1) ah))))))
abbrev AB:List D->Dm D:=dY 6 Ik
abbrev EO:Stmt:=top 5
def BL:az ["turning","rings","seen","first","ring","number"] ["turning"] (au EO):=by walk
include cC df in
def Xj(D:Def K mg "rings_of" EO ["turning"] f fd)(T:Txt mg):aD P w K mg base bq 2 f fd ["turning"] (bw K 1 AB):=by
 refine D.F.ok BL (λ_ _ _ _ h=>h.1) (λc A o s H v Q E hr h=>?_);have hu1:=xb hr;refine⟨_,((1>>=BL>>=(@l9 _ _ _ _ aw))<|>(2>>=BL>>=SQ)<|>(qD rfl T.a7 (ji mT (by rfl) T.bW mX (pv 0<|aw)<|aw)&&&(dU (i:=3) BL.nd rfl (by w_up))&&&(~~~(M3 (SM hu1 (pv 3) (pv 2))<*>((4>>=BL>>=bM df cC hr ∅ rfl (pv 0<|pv 3<|aw))<|>rn (qz PySem.F.plainAttrs_list PySem.F.slot_list_append PySem.F.type_list_append sD (pv 1) (pv 4<|aw))<|>(~~~(oP (pv 4)&&&(dU (i:=5) BL.nd rfl (by w_up))&&&(~~~SN hu1 (pv 2) (pv 5) GI rfl))))<*>l6)))<|>(~~~(@cR _ _ _ _ (fD mV (by rfl) T.aX mY (pv 1<|aw))))),?_⟩
 exact eA (b:=Ik) (a5 (bG (mf ax) (aS 1))
  (a5 (bG VZ (aS 2))
  (a5 (oU (qT (aj (bO nc (aj (ai 0) ax)) ax)) (aS 3) (lK (DO (V0 (ai 3) (ai 2))) (a5 (bG (bL (F:=AA) (aj (ai 0) (aj (ai 3) ax)) dS) (aS 4))
  (a5 (r6 (pb sQ (ai 1) (aj (ai 4) ax)))
  (oU (oV (ai 4)) (aS 5) (V1 (ai 2) (ai 5) (Hu _))))) mh))
  (cV (bO ng (aj (ai 1) ax)))))) rfl h
variable {kW:Addr}{kX:FuncData}(dj:Def K mg "rings_of" EO ["turning"] kW kX)(d6:aD P w K mg base bq 2 kW kX ["turning"] (bw K 1 AB))
abbrev Il:ao->Dm Fl :=
 (aV (aK AA (ae (ay aE (ag 0) (fC (.int 0))) (ae (aK mx (ae (bJ (bY (ag 1)) 1 [0] (hName 0) cu (ay aE (ay aE (ag 1) (fC (.int 1))) (ag 0))) ah)) ah))))
abbrev AE:List D->Dm D:=dY 2 Il
abbrev ER:Stmt:=top 10
def Xk:az ["floor","row"] ["floor","row"] (au ER):=by walk
include cC df in
def Xl(D:Def K mg "upper_row" ER ["floor","row"] f fd)(T:Txt mg):aD P w K mg base bq 2 f fd ["floor","row"] (bw K 2 AE):=by refine D.F.ok Xk (λ_ _ _ _ h=>h.1) (λc A o s H v Q E hr h=>?_);have hu:=hr.units;refine⟨_,(~~~(@cR _ _ _ _ (bM df cC hr ∅ rfl ((bT<*pv 0<*aG)<|ji (Oj rfl hu) (by rfl) T.uI Ko (p5 (own:=["s"]) (fr:=["floor"]) (js:=[0]) rfl ⟨⟨rfl,by w_fin,by w_fin,by dsimp only[dW,aM,Cx.nE,Cx.wish,PyProof.Rows.envOfC,compEnvC,relabel,Env.kindOf];decide +kernel,by w_fin⟩,rfl⟩ (oP (pv 1)) (λ_ _ _ _ _=>(dU (i:=0) (show((["s"]:List Str) ++ (["floor"]:List Str)).Nodup by w_fin) rfl (by w_up))) (λ_ _ _ _ _=>qI) (λ_ _ _ _ _=>(o4 (K:=K) rfl<*(o4 (K:=K) rfl<*pv 1<*aG)<*pv 0))<|aw)<|aw)))),?_⟩;exact eA (b:=Il) (cV (bL (F:=AA) (aj (aA bD (ai 0) (aH _)) (aj (bO Qq (aj (oO (oV (ai 1)) (aS 0) qU (aA bD (aA bD (ai 1) (aH _)) (ai 0))) ax)) ax)) dS)) rfl h
variable {jA:Addr}{jB:FuncData}(cD:Def K mg "upper_row" ER ["floor","row"] jA jB)(dg:aD P w K mg base bq 2 jA jB ["floor","row"] (bw K 2 AE))
abbrev Io:ao->Dm Fl :=
 (aV (aK aZ (ae (bJ (bY (ag 0)) 1 [1] (hName 0) cu (ay aE (ag 1) (ag 0))) ah)))
abbrev pS:List D->Dm D:=dY 2 Io
abbrev ES:Stmt:=top 1
def Xm:az ["one","other"] ["one","other"] (au ES):=by walk
def Xn(D:Def K mg "followed" ES ["one","other"] f fd)(T:Txt mg):aD P w K mg base bq 1 f fd ["one","other"] (bw K 2 pS):=by refine D.F.ok Xm (λ_ _ _ _ h=>h.1) (λc A o s H v Q E hr h=>?_);refine⟨_,(~~~(@cR _ _ _ _ (fD mV (by rfl) T.aX mY (p5 (own:=["number"]) (fr:=["other"]) (js:=[1]) rfl ⟨⟨rfl,by w_fin,by w_fin,by dsimp only[dW,aM,Cx.nE,Cx.wish,PyProof.Rows.envOfC,compEnvC,relabel,Env.kindOf];decide +kernel,by w_fin⟩,rfl⟩ (oP (pv 0)) (λ_ _ _ _ _=>(dU (i:=0) (show((["number"]:List Str) ++ (["other"]:List Str)).Nodup by w_fin) rfl (by w_up))) (λ_ _ _ _ _=>qI) (λ_ _ _ _ _=>(o4 (K:=K) rfl<*pv 1<*pv 0))<|aw)))),?_⟩;exact eA (b:=Io) (cV (bO ng (aj (oO (oV (ai 0)) (aS 0) qU (aA bD (ai 1) (ai 0))) ax))) rfl h
variable {kY:Addr}{kZ:FuncData}(bh:Def K mg "followed" ES ["one","other"] kY kZ)(bz:aD P w K mg base bq 1 kY kZ ["one","other"] (bw K 2 pS))
abbrev Ip:ao->Dm Fl :=
 (aB (aI (ay qR (cP (ae (fC (.int 0)) ah)) (aK cT (ae (ag 0) ah))) (hName 1))
 (aB (ff (oD (ae (ag 0) ah)) (nQ 2 (cU (hName 2) (cU (hName 3) oC))) (aI (ag 2) (hSub (ag 1) (ag 3))))
 (aV (aK aZ (ae (ag 1) ah)))))
abbrev sR:List D->Dm D:=dY 4 Ip
abbrev ET:Stmt:=top 2
def Iq:az ["turning","back","number","led"] ["turning"] (au ET):=by walk
def Xo(D:Def K mg "turned_back" ET ["turning"] f fd)(T:Txt mg):aD P w K mg base bq 1 f fd ["turning"] (bw K 1 sR):=by
 refine D.F.ok Iq (λ_ _ _ _ h=>h.1) (λc A o s H v Q E hr h=>?_);refine⟨_,((1>>=Iq>>=bC G0 (@l9 _ _ _ _ (aG<|aw)) (ji mT (by rfl) T.bW mX (pv 0<|aw)))<|>(N1 rfl T.nL (pv 0<|aw)&&&vh (n:=2) rfl (pq (dU (i:=2) Iq.nd rfl (by w_up)) (pq (dU (i:=3) Iq.nd rfl (by w_up)) vg))&&&(~~~uS (pv 2) (A8 (pv 1) (pv 3) Be)))<|>(~~~(@cR _ _ _ _ (fD mV (by rfl) T.aX mY (pv 1<|aw))))),?_⟩
 exact eA (b:=Ip) (a5 (bG (aA HB (mf (aj (aH _) ax)) (bO nc (aj (ai 0) ax))) (aS 1))
  (a5 (oU (P7 (aj (ai 0) ax)) (wb (pK (aS 2) (pK (aS 3) wa))) (bG (ai 2) (BF (ai 1) (ai 3))))
  (cV (bO ng (aj (ai 1) ax))))) rfl h
variable {fS:Addr}{fT:FuncData}(aP:Def K mg "turned_back" ET ["turning"] fS fT)(aR:aD P w K mg base bq 1 fS fT ["turning"] (bw K 1 sR))
abbrev Ir:ao->Dm Fl :=
 (aB (aI (ay aE (ag 0) (fC (.int 0))) (hName 1))
 (aB (aI (ay aE (ag 0) (fC (.int 1))) (hName 2))
 (aB (aI (aK pS (ae (aK sR (ae (ag 1) ah)) (ae (aK sR (ae (ag 2) ah)) ah))) (hName 3))
 (aV (aK pS (ae (aK pS (ae (ag 1) (ae (ag 2) ah))) (ae (ag 3) ah)))))))
abbrev EU:List D->Dm D:=dY 4 Ir
abbrev EV:Stmt:=top 7
def Iu:az ["floor","right","up","back"] ["floor"] (au EV):=by walk
include bh bz aP aR in
def Xp(D:Def K mg "round_corners" EV ["floor"] f fd)(T:Txt mg):aD P w K mg base bq 2 f fd ["floor"] (bw K 1 EU):=by
 refine D.F.ok Iu (λ_ _ _ _ h=>h.1) (λc A o s H v Q E hr h=>?_);refine⟨_,((1>>=Iu>>=(bT<*pv 0<*aG))<|>(2>>=Iu>>=(bT<*pv 0<*aG))<|>(3>>=Iu>>=bM bz bh hr ∅ rfl (bM aR aP hr ∅ rfl (pv 1<|aw)<|bM aR aP hr ∅ rfl (pv 2<|aw)<|aw))<|>(~~~(@cR _ _ _ _ (bM bz bh hr ∅ rfl (bM bz bh hr ∅ rfl (pv 1<|pv 2<|aw)<|pv 3<|aw))))),?_⟩
 exact eA (b:=Ir) (a5 (bG (aA bD (ai 0) (aH _)) (aS 1))
  (a5 (bG (aA bD (ai 0) (aH _)) (aS 2))
  (a5 (bG (bL (F:=pS) (aj (bL (F:=sR) (aj (ai 1) ax) kh) (aj (bL (F:=sR) (aj (ai 2) ax) kh) ax)) dS) (aS 3))
  (cV (bL (F:=pS) (aj (bL (F:=pS) (aj (ai 1) (aj (ai 2) ax)) dS) (aj (ai 3) ax)) dS))))) rfl h
variable {dC:Addr}{dD:FuncData}(cE:Def K mg "round_corners" EV ["floor"] dC dD)(dE:aD P w K mg base bq 2 dC dD ["floor"] (bw K 1 EU))
abbrev Iv:ao->Dm Fl :=
 (aB (aI (aK EU (ae (ag 0) ah)) (hName 2))
 (aV (aK sP (ae (bJ (bY (ag 1)) 1 [2] (hName 0) cu (ay (kQ false) (ay aE (ag 1) (ag 0)) (ag 0))) ah))))
abbrev AF:List D->Dm D:=dY 3 Iv
abbrev EW:Stmt:=top 9
def QK:az ["floor","ring","led"] ["floor","ring"] (au EW):=by walk
include cE dE in
def Xq(D:Def K mg "is_smooth" EW ["floor","ring"] f fd)(T:Txt mg):aD P w K mg base bq 3 f fd ["floor","ring"] (bw K 2 AF):=by
 refine D.F.ok QK (λ_ _ _ _ h=>h.1) (λc A o s H v Q E hr h=>?_);refine⟨_,((2>>=QK>>=bM dE cE hr ∅ rfl (pv 0<|aw))<|>(~~~(@cR _ _ _ _ (ji (Te rfl) (by rfl) T.Eu yy (p5 (own:=["s"]) (fr:=["led"]) (js:=[2]) rfl ⟨⟨rfl,by w_fin,by w_fin,by dsimp only[dW,aM,Cx.nE,Cx.wish,PyProof.Rows.envOfC,compEnvC,relabel,Env.kindOf];decide +kernel,by w_fin⟩,rfl⟩ (oP (pv 1)) (λ_ _ _ _ _=>(dU (i:=0) (show((["s"]:List Str) ++ (["led"]:List Str)).Nodup by w_fin) rfl (by w_up))) (λ_ _ _ _ _=>qI) (λ_ _ _ _ _=>(Bc pz (o4 (K:=K) rfl<*pv 1<*pv 0) (pv 0) (aL _)))<|aw))))),?_⟩
 exact eA (b:=Iv) (a5 (bG (bL (F:=EU) (aj (ai 0) ax) kh) (aS 2))
  (cV (bO zq (aj (oO (oV (ai 1)) (aS 0) qU (aA pI (aA bD (ai 1) (ai 0)) (ai 0))) ax)))) rfl h
variable {jC:Addr}{jD:FuncData}(cG:Def K mg "is_smooth" EW ["floor","ring"] jC jD)(dh:aD P w K mg base bq 3 jC jD ["floor","ring"] (bw K 2 AF))
abbrev Iw:ao->Dm Fl :=
 (aB (aI (cP (ae (ag 1) ah)) (hName 2))
 (aB (d5 (aJ (aK AF (ae (ag 0) (ae (ay dX (ag 2) (oN gJ (fC (.int 1)))) ah)))) (aB (aI (aK AE (ae (ag 0) (ae (ay dX (ag 2) (oN gJ (fC (.int 1)))) ah))) (hName 3))
 (aB (kf (aJ (ay (jn false) (ag 3) (ag 1))) qS bI)
 (d3 (nX "list" bR (ag 2) (ae (ag 3) ah))))))
 (aV (bB (ae (aK cT (ae (ag 1) ah)) (ae (aK cT (ae (ag 2) ah)) (ae (aK aZ (ae (ag 2) ah)) ah)))))))
abbrev BM:List D->Dm D:=dY 4 Iw
abbrev EX:Stmt:=top 11
def Mg:az ["floor","lowest","rows","upper"] ["floor","lowest"] (au EX):=by walk
include cD dg cG dh in
def Xr(D:Def K mg "band_from" EX ["floor","lowest"] f fd)(T:Txt mg):aD P w K mg base bq 4 f fd ["floor","lowest"] (bw K 2 BM):=by
 refine D.F.ok Mg (λ_ _ _ _ h=>h.1) (λc A o s H v Q E hr h=>?_);have hu:=hr.units;refine⟨_,((2>>=Mg>>=(@l9 _ _ _ _ (pv 1<|aw)))<|>tM PassesOwn.never (JY (bM dh cG hr ∅ rfl (pv 0<|(nM<*pv 2<*oY oZ aG)<|aw))) ((3>>=Mg>>=bM dg cD hr ∅ rfl (pv 0<|(nM<*pv 2<*oY oZ aG)<|aw))<|>(fL (G3 hu) (pv 3) (pv 1) (aL _)<*>(~~~R3)<*>l6)<|>(~~~rn (qz PySem.F.plainAttrs_list PySem.F.slot_list_append PySem.F.type_list_append sD (pv 2) (pv 3<|aw))))<|>(~~~(@cR _ _ _ _ (@g7 _ _ _ _ _ (ji mT (by rfl) T.bW mX (pv 1<|aw)<|ji mT (by rfl) T.bW mX (pv 2<|aw)<|fD mV (by rfl) T.aX mY (pv 2<|aw)<|aw))))),?_⟩
 exact eA (b:=Iw) (a5 (bG (mf (aj (ai 1) ax)) (aS 2))
  (a5 (ux (DO (bL (F:=AF) (aj (ai 0) (aj (aA nP (ai 2) (o8 o9 (aH _))) ax)) dS)) (a5 (bG (bL (F:=AE) (aj (ai 0) (aj (aA nP (ai 2) (o8 o9 (aH _))) ax)) dS) (aS 3))
  (a5 (lK (fE (aA (vW false) (ai 3) (ai 1))) VB mh)
  (r6 (pb sQ (ai 2) (aj (ai 3) ax))))))
  (cV (g8 (aj (bO nc (aj (ai 1) ax)) (aj (bO nc (aj (ai 2) ax)) (aj (bO ng (aj (ai 2) ax)) ax))))))) rfl h
variable {jE:Addr}{jF:FuncData}(gN:Def K mg "band_from" EX ["floor","lowest"] jE jF)(jG:aD P w K mg base bq 4 jE jF ["floor","lowest"] (bw K 2 BM))
abbrev Iy:ao->Dm Fl :=
 (aB (aI (aK AB (ae (ay aE (ag 0) (fC (.int 0))) ah)) (hName 1))
 (aB (aI (bJ (bY (ag 1)) 1 [0] (hName 0) (aJ (aK AF (ae (ag 1) (ae (ag 0) ah)))) (aK AE (ae (ag 1) (ae (ag 0) ah)))) (hName 2))
 (aB (aI (bJ (bY (ag 1)) 1 [2] (hName 0) (aJ (ay (qm true) (ag 0) (ag 1))) (ag 0)) (hName 3))
 (aB (kf (aJ (ay (kQ false) (aK cT (ae (ag 3) ah)) (fC (.int 0)))) (aI (cP (ae (ay aE (ag 1) (fC (.int 0))) ah)) (hName 3)) bI)
 (aV (aK aZ (ae (aK ku (ae (bJ (ko (ag 3)) 1 [0] (hName 0) cu (aK BM (ae (ag 1) (ae (ag 0) ah)))) ah)) ah)))))))
abbrev BN:List D->Dm D:=dY 4 Iy
abbrev EY:Stmt:=top 12
def EZ:az ["floor","rows","upper_rows","lowest_rows"] ["floor"] (au EY):=by walk
include dj d6 cD dg cG dh gN jG in
def Xs(D:Def K mg "bands_of" EY ["floor"] f fd)(T:Txt mg):aD P w K mg base bq 5 f fd ["floor"] (bw K 1 BN):=by
 refine D.F.ok EZ (λ_ _ _ _ h=>h.1) (λc A o s H v Q E hr h=>?_);have hu:=hr.units;refine⟨_,((1>>=EZ>>=bM d6 dj hr ∅ rfl ((bT<*pv 0<*aG)<|aw))<|>(2>>=EZ>>=p5 (own:=["row"]) (fr:=["floor"]) (js:=[0]) rfl ⟨⟨rfl,by w_fin,by w_fin,by dsimp only[dW,aM,Cx.nE,Cx.wish,PyProof.Rows.envOfC,compEnvC,relabel,Env.kindOf];decide +kernel,by w_fin⟩,rfl⟩ (oP (pv 1)) (λ_ _ _ _ _=>(dU (i:=0) (show((["row"]:List Str) ++ (["floor"]:List Str)).Nodup by w_fin) rfl (by w_up))) (λ_ _ _ _ _=>(yD (JY (bM dh cG hr ∅ rfl (pv 1<|pv 0<|aw))))) (λ_ _ _ _ _=>(bM dg cD hr ∅ rfl (pv 1<|pv 0<|aw))))<|>(G7 (i:=3) (own:=["row"]) (fr:=["upper_rows"]) (js:=[2]) rfl EZ.nd rfl rfl ⟨⟨rfl,by w_fin,by w_fin,by dsimp only[dW,aM,Cx.nE,Cx.wish,PyProof.Rows.envOfC,compEnvC,relabel,Env.kindOf];decide +kernel,by w_fin⟩,rfl⟩ (oP (pv 1)) (λ_ _ _ _ _=>(dU (i:=0) (show((["row"]:List Str) ++ (["upper_rows"]:List Str)).Nodup by w_fin) rfl (by w_up))) (λ_ _ _ _ _=>(yD (fL (N3 (K:=K) rfl hu) (pv 0) (pv 1) (by with_unfolding_all rfl)))) (λ_ _ _ _ _=>(pv 0)))<|>(fL pz (ji mT (by rfl) T.bW mX (pv 3<|aw)) aG (aL _)<*>(~~~(3>>=EZ>>=(@l9 _ _ _ _ ((bT<*pv 1<*aG)<|aw))))<*>l6)<|>(~~~(@cR _ _ _ _ (fD mV (by rfl) T.aX mY (ji (OE hu) (by rfl) T.qv NM (p5 (own:=["row"]) (fr:=["floor"]) (js:=[0]) rfl ⟨⟨rfl,by w_fin,by w_fin,by dsimp only[dW,aM,Cx.nE,Cx.wish,PyProof.Rows.envOfC,compEnvC,relabel,Env.kindOf];decide +kernel,by w_fin⟩,rfl⟩ (GO (pv 3)) (λ_ _ _ _ _=>(dU (i:=0) (show((["row"]:List Str) ++ (["floor"]:List Str)).Nodup by w_fin) rfl (by w_up))) (λ_ _ _ _ _=>qI) (λ_ _ _ _ _=>(bM jG gN hr ∅ rfl (pv 1<|pv 0<|aw)))<|aw)<|aw))))),?_⟩
 exact eA (b:=Iy) (a5 (bG (bL (F:=AB) (aj (aA bD (ai 0) (aH _)) ax) kh) (aS 1))
  (a5 (bG (oO (oV (ai 1)) (aS 0) (DO (bL (F:=AF) (aj (ai 1) (aj (ai 0) ax)) dS)) (bL (F:=AE) (aj (ai 1) (aj (ai 0) ax)) dS)) (aS 2))
  (a5 (bG (oO (oV (ai 1)) (aS 0) (fE (aA (L6 true) (ai 0) (ai 1))) (ai 0)) (aS 3))
  (a5 (lK (fE (aA pI (bO nc (aj (ai 3) ax)) (aH _))) (bG (mf (aj (aA bD (ai 1) (aH _)) ax)) (aS 3)) mh)
  (cV (bO ng (aj (bO Qz (aj (oO (HC (ai 3)) (aS 0) qU (bL (F:=BM) (aj (ai 1) (aj (ai 0) ax)) dS)) ax)) ax))))))) rfl h
variable {la:Addr}{lb:FuncData}(jc:Def K mg "bands_of" EY ["floor"] la lb)(lg:aD P w K mg base bq 5 la lb ["floor"] (bw K 1 BN))
abbrev Iz:ao->Dm Fl :=
 (aB (aI (aK sR (ae (ag 1) ah)) (hName 2))
 (aB (aI (aK pS (ae (aK pS (ae (ag 2) (ae (ay aE (ag 0) (fC (.int 0))) ah))) (ae (ag 1) ah))) (hName 3))
 (aB (aI (aK pS (ae (aK pS (ae (ag 2) (ae (ay aE (ag 0) (fC (.int 1))) ah))) (ae (ag 1) ah))) (hName 4))
 (aV (bB (ae (ag 3) (ae (ag 4) ah)))))))
abbrev E1:List D->Dm D:=dY 5 Iz
abbrev E2:Stmt:=top 40
def IA:az ["floor","p","back","right","up"] ["floor","p"] (au E2):=by walk
include bh bz aP aR in
def Xt(D:Def K mg "called_anew" E2 ["floor","p"] f fd)(T:Txt mg):aD P w K mg base bq 2 f fd ["floor","p"] (bw K 2 E1):=by
 refine D.F.ok IA (λ_ _ _ _ h=>h.1) (λc A o s H v Q E hr h=>?_);refine⟨_,((2>>=IA>>=bM aR aP hr ∅ rfl (pv 1<|aw))<|>(3>>=IA>>=bM bz bh hr ∅ rfl (bM bz bh hr ∅ rfl (pv 2<|(bT<*pv 0<*aG)<|aw)<|pv 1<|aw))<|>(4>>=IA>>=bM bz bh hr ∅ rfl (bM bz bh hr ∅ rfl (pv 2<|(bT<*pv 0<*aG)<|aw)<|pv 1<|aw))<|>(~~~(@cR _ _ _ _ (@g7 _ _ _ _ _ (pv 3<|pv 4<|aw))))),?_⟩
 exact eA (b:=Iz) (a5 (bG (bL (F:=sR) (aj (ai 1) ax) kh) (aS 2))
  (a5 (bG (bL (F:=pS) (aj (bL (F:=pS) (aj (ai 2) (aj (aA bD (ai 0) (aH _)) ax)) dS) (aj (ai 1) ax)) dS) (aS 3))
  (a5 (bG (bL (F:=pS) (aj (bL (F:=pS) (aj (ai 2) (aj (aA bD (ai 0) (aH _)) ax)) dS) (aj (ai 1) ax)) dS) (aS 4))
  (cV (g8 (aj (ai 3) (aj (ai 4) ax))))))) rfl h
variable {fU:Addr}{fV:FuncData}(dF:Def K mg "called_anew" E2 ["floor","p"] fU fV)(fW:aD P w K mg base bq 2 fU fV ["floor","p"] (bw K 2 E1))
abbrev IB:ao->Dm Fl :=
 (aB (aI (cP (ae (ag 1) ah)) (hName 2))
 (aB (aI (fC (.int 0)) (hName 3))
 (aB (d5 (aJ (ay xF (ag 3) (aK cT (ae (ag 2) ah)))) (aB (ff (bY (ag 0)) (hName 4) (aB (aI (ay aE (ag 4) (ay dX (ag 2) (ag 3))) (hName 5))
 (kf (aJ (ay (sN true) (ag 5) (ag 2))) (d3 (nX "list" bR (ag 2) (ae (ag 5) ah))) bI)))
 (aI (ay fF (ag 3) (fC (.int 1))) (hName 3))))
 (aV (aK aZ (ae (ag 2) ah))))))
abbrev E3:List D->Dm D:=dY 6 IB
abbrev E4:Stmt:=top 38
def BO:az ["floor","s","squares","place","turning","reached"] ["floor","s"] (au E4):=by walk
def Xu(D:Def K mg "squares_from" E4 ["floor","s"] f fd)(T:Txt mg):aD P w K mg base bq 1 f fd ["floor","s"] (bw K 2 E3):=by
 refine D.F.ok BO (λ_ _ _ _ h=>h.1) (λc A o s H v Q E hr h=>?_);refine⟨_,((2>>=BO>>=(@l9 _ _ _ _ (pv 1<|aw)))<|>(3>>=BO>>=aG)<|>tM PassesOwn.never (fL Bb (pv 3) (ji mT (by rfl) T.bW mX (pv 2<|aw)) (aL _)) ((oP (pv 0)&&&(dU (i:=4) BO.nd rfl (by w_up))&&&((5>>=BO>>=(bT<*pv 4<*(nM<*pv 2<*pv 3)))<|>(~~~(fL GY (pv 5) (pv 2) (by with_unfolding_all rfl)<*>(~~~rn (qz PySem.F.plainAttrs_list PySem.F.slot_list_append PySem.F.type_list_append sD (pv 2) (pv 5<|aw)))<*>l6))))<|>(~~~(3>>=BO>>=bC oj (pv 3) aG)))<|>(~~~(@cR _ _ _ _ (fD mV (by rfl) T.aX mY (pv 2<|aw))))),?_⟩
 exact eA (b:=IB) (a5 (bG (mf (aj (ai 1) ax)) (aS 2))
  (a5 (bG (aH _) (aS 3))
  (a5 (ux (fE (aA BA (ai 3) (bO nc (aj (ai 2) ax)))) (a5 (oU (oV (ai 0)) (aS 4) (a5 (bG (aA bD (ai 4) (aA nP (ai 2) (ai 3))) (aS 5))
  (lK (fE (aA (BD true) (ai 5) (ai 2))) (r6 (pb sQ (ai 2) (aj (ai 5) ax))) mh)))
  (bG (aA oz (ai 3) (aH _)) (aS 3))))
  (cV (bO ng (aj (ai 2) ax)))))) rfl h
variable {eG:Addr}{eI:FuncData}(cX:Def K mg "squares_from" E4 ["floor","s"] eG eI)(eJ:aD P w K mg base bq 1 eG eI ["floor","s"] (bw K 2 E3))
abbrev IC:ao->Dm Fl :=
 (aV (aK sR (ae (aK E3 (ae (ag 0) (ae (ag 1) ah))) ah)))
abbrev E5:List D->Dm D:=dY 2 IC
abbrev E6:Stmt:=top 41
def Xv:az ["floor","s"] ["floor","s"] (au E6):=by walk
include aP aR cX eJ in
def Xw(D:Def K mg "numbering_from" E6 ["floor","s"] f fd)(T:Txt mg):aD P w K mg base bq 2 f fd ["floor","s"] (bw K 2 E5):=by refine D.F.ok Xv (λ_ _ _ _ h=>h.1) (λc A o s H v Q E hr h=>?_);refine⟨_,(~~~(@cR _ _ _ _ (bM aR aP hr ∅ rfl (bM eJ cX hr ∅ rfl (pv 0<|pv 1<|aw)<|aw)))),?_⟩;exact eA (b:=IC) (cV (bL (F:=sR) (aj (bL (F:=E3) (aj (ai 0) (aj (ai 1) ax)) dS) ax) kh)) rfl h
variable {c6:Addr}{c7:FuncData}(cj:Def K mg "numbering_from" E6 ["floor","s"] c6 c7)(c9:aD P w K mg base bq 2 c6 c7 ["floor","s"] (bw K 2 E5))
abbrev IE:ao->Dm Fl :=
 (aV (aK E1 (ae (ag 0) (ae (aK E5 (ae (ag 0) (ae (ag 1) ah))) ah))))
abbrev E7:List D->Dm D:=dY 2 IE
abbrev E8:Stmt:=top 42
def Xx:az ["floor","s"] ["floor","s"] (au E8):=by walk
include dF fW cj c9 in
def Xy(D:Def K mg "numbered_from" E8 ["floor","s"] f fd)(T:Txt mg):aD P w K mg base bq 3 f fd ["floor","s"] (bw K 2 E7):=by refine D.F.ok Xx (λ_ _ _ _ h=>h.1) (λc A o s H v Q E hr h=>?_);refine⟨_,(~~~(@cR _ _ _ _ (bM fW dF hr ∅ rfl (pv 0<|bM c9 cj hr ∅ rfl (pv 0<|pv 1<|aw)<|aw)))),?_⟩;exact eA (b:=IE) (cV (bL (F:=E1) (aj (ai 0) (aj (bL (F:=E5) (aj (ai 0) (aj (ai 1) ax)) dS) ax)) dS)) rfl h
variable {dG:Addr}{dH:FuncData}(cH:Def K mg "numbered_from" E8 ["floor","s"] dG dH)(dI:aD P w K mg base bq 3 dG dH ["floor","s"] (bw K 2 E7))
abbrev IF:ao->Dm Fl :=
 (aV (aK mx (ae (bJ (bZ (ae (aK cT (ae (ay aE (ag 0) (fC (.int 0))) ah)) ah)) 1 [0] (hName 0) cu (aK E7 (ae (ag 1) (ae (ag 0) ah)))) ah)))
abbrev E9:List D->Dm D:=dY 1 IF
abbrev Fb:Stmt:=top 43
def Xz:az ["floor"] ["floor"] (au Fb):=by walk
include cH dI in
def XA(D:Def K mg "form_of" Fb ["floor"] f fd)(T:Txt mg):aD P w K mg base bq 4 f fd ["floor"] (bw K 1 E9):=by refine D.F.ok Xz (λ_ _ _ _ h=>h.1) (λc A o s H v Q E hr h=>?_);have hu:=hr.units;refine⟨_,(~~~(@cR _ _ _ _ (ji (Oj rfl hu) (by rfl) T.uI Ko (p5 (own:=["s"]) (fr:=["floor"]) (js:=[0]) rfl ⟨⟨rfl,by w_fin,by w_fin,by dsimp only[dW,aM,Cx.nE,Cx.wish,PyProof.Rows.envOfC,compEnvC,relabel,Env.kindOf];decide +kernel,by w_fin⟩,rfl⟩ (qD rfl T.a7 (ji mT (by rfl) T.bW mX ((bT<*pv 0<*aG)<|aw)<|aw)) (λ_ _ _ _ _=>(dU (i:=0) (show((["s"]:List Str) ++ (["floor"]:List Str)).Nodup by w_fin) rfl (by w_up))) (λ_ _ _ _ _=>qI) (λ_ _ _ _ _=>(bM dI cH hr ∅ rfl (pv 1<|pv 0<|aw)))<|aw)))),?_⟩;exact eA (b:=IF) (cV (bO Qq (aj (oO (qT (aj (bO nc (aj (aA bD (ai 0) (aH _)) ax)) ax)) (aS 0) qU (bL (F:=E7) (aj (ai 1) (aj (ai 0) ax)) dS)) ax))) rfl h
variable {my:Addr}{mz:FuncData}(kx:Def K mg "form_of" Fb ["floor"] my mz)(mB:aD P w K mg base bq 4 my mz ["floor"] (bw K 1 E9))
abbrev IG:ao->Dm Fl :=
 (aB (aI (ay qR (cP (ae (fC (.int 0)) ah)) (aK cT (ae (ag 0) ah))) (hName 2))
 (aB (ff (bY (aK AB (ae (ag 0) ah))) (hName 3) (ff (oD (ae (ag 3) ah)) (nQ 2 (cU (hName 4) (cU (hName 5) oC))) (aI (ay aE (ag 3) (ay lF (ay fF (ag 4) (ag 1)) (aK cT (ae (ag 3) ah)))) (hSub (ag 2) (ag 5)))))
 (aV (aK aZ (ae (ag 2) ah)))))
abbrev Fc:List D->Dm D:=dY 6 IG
abbrev Fe:Stmt:=top 3
def Ff:az ["turning","k","led","ring","place","number"] ["turning","k"] (au Fe):=by walk
include dj d6 in
def XB(D:Def K mg "often" Fe ["turning","k"] f fd)(T:Txt mg):aD P w K mg base bq 3 f fd ["turning","k"] (bw K 2 Fc):=by
 refine D.F.ok Ff (λ_ _ _ _ h=>h.1) (λc A o s H v Q E hr h=>?_);refine⟨_,((2>>=Ff>>=bC G0 (@l9 _ _ _ _ (aG<|aw)) (ji mT (by rfl) T.bW mX (pv 0<|aw)))<|>(oP (bM d6 dj hr ∅ rfl (pv 0<|aw))&&&(dU (i:=3) Ff.nd rfl (by w_up))&&&(~~~(N1 rfl T.nL (pv 3<|aw)&&&vh (n:=2) rfl (pq (dU (i:=4) Ff.nd rfl (by w_up)) (pq (dU (i:=5) Ff.nd rfl (by w_up)) vg))&&&(~~~uS (bT<*pv 3<*bC sA (bC oj (pv 4) (pv 1)) (ji mT (by rfl) T.bW mX (pv 3<|aw))) (A8 (pv 2) (pv 5) Be)))))<|>(~~~(@cR _ _ _ _ (fD mV (by rfl) T.aX mY (pv 2<|aw))))),?_⟩
 exact eA (b:=IG) (a5 (bG (aA HB (mf (aj (aH _) ax)) (bO nc (aj (ai 0) ax))) (aS 2))
  (a5 (oU (oV (bL (F:=AB) (aj (ai 0) ax) kh)) (aS 3) (oU (P7 (aj (ai 3) ax)) (wb (pK (aS 4) (pK (aS 5) wa))) (bG (aA bD (ai 3) (aA sL (aA oz (ai 4) (ai 1)) (bO nc (aj (ai 3) ax)))) (BF (ai 2) (ai 5)))))
  (cV (bO ng (aj (ai 2) ax))))) rfl h
variable {pT:Addr}{pV:FuncData}(oG:Def K mg "often" Fe ["turning","k"] pT pV)(pW:aD P w K mg base bq 3 pT pV ["turning","k"] (bw K 2 Fc))
abbrev IH:ao->Dm Fl :=
 (aV (bB (ae (ay aE (ag 0) (fC (.int 0))) (ae (aK pS (ae (aK Fc (ae (ay aE (ag 0) (fC (.int 0))) (ae (oN gJ (ag 1)) ah))) (ae (ay aE (ag 0) (fC (.int 1))) ah))) ah))))
abbrev Fg:List D->Dm D:=dY 2 IH
abbrev Fh:Stmt:=top 45
def XC:az ["floor","k"] ["floor","k"] (au Fh):=by walk
include bh bz oG pW in
def XD(D:Def K mg "sheared" Fh ["floor","k"] f fd)(T:Txt mg):aD P w K mg base bq 4 f fd ["floor","k"] (bw K 2 Fg):=by refine D.F.ok XC (λ_ _ _ _ h=>h.1) (λc A o s H v Q E hr h=>?_);refine⟨_,(~~~(@cR _ _ _ _ (@g7 _ _ _ _ _ ((bT<*pv 0<*aG)<|bM bz bh hr ∅ rfl (bM pW oG hr ∅ rfl ((bT<*pv 0<*aG)<|oY oZ (pv 1)<|aw)<|(bT<*pv 0<*aG)<|aw)<|aw)))),?_⟩;exact eA (b:=IH) (cV (g8 (aj (aA bD (ai 0) (aH _)) (aj (bL (F:=pS) (aj (bL (F:=Fc) (aj (aA bD (ai 0) (aH _)) (aj (o8 o9 (ai 1)) ax)) dS) (aj (aA bD (ai 0) (aH _)) ax)) dS) ax)))) rfl h
variable {mC:Addr}{mD:FuncData}(ky:Def K mg "sheared" Fh ["floor","k"] mC mD)(mE:aD P w K mg base bq 4 mC mD ["floor","k"] (bw K 2 Fg))
abbrev II:ao->Dm Fl :=
 (aV (bB (ae (aK sR (ae (ay aE (ag 0) (fC (.int 1))) ah)) (ae (ay aE (ag 0) (fC (.int 0))) ah))))
abbrev Fi:List D->Dm D:=dY 1 II
abbrev Fj:Stmt:=top 46
def XE:az ["floor"] ["floor"] (au Fj):=by walk
include aP aR in
def XF(D:Def K mg "quartered" Fj ["floor"] f fd)(T:Txt mg):aD P w K mg base bq 2 f fd ["floor"] (bw K 1 Fi):=by refine D.F.ok XE (λ_ _ _ _ h=>h.1) (λc A o s H v Q E hr h=>?_);refine⟨_,(~~~(@cR _ _ _ _ (@g7 _ _ _ _ _ (bM aR aP hr ∅ rfl ((bT<*pv 0<*aG)<|aw)<|(bT<*pv 0<*aG)<|aw)))),?_⟩;exact eA (b:=II) (cV (g8 (aj (bL (F:=sR) (aj (aA bD (ai 0) (aH _)) ax) kh) (aj (aA bD (ai 0) (aH _)) ax)))) rfl h
variable {jH:Addr}{jI:FuncData}(gO:Def K mg "quartered" Fj ["floor"] jH jI)(jJ:aD P w K mg base bq 2 jH jI ["floor"] (bw K 1 Fi))
abbrev IJ:ao->Dm Fl :=
 (aB (kf (aJ (ay (kQ false) (ay aE (ag 1) (fC (.int 0))) (fC (.str "s")))) (aV (aK Fg (ae (ag 0) (ae (ay aE (ag 1) (fC (.int 1))) ah)))) bI)
 (aB (aI (ag 0) (hName 2))
 (aB (ff (bZ (ae (ay aE (ag 1) (fC (.int 1))) ah)) (hName 3) (aI (aK Fi (ae (ag 2) ah)) (hName 2)))
 (aV (ag 2)))))
abbrev Fm:List D->Dm D:=dY 4 IJ
abbrev Fn:Stmt:=top 48
def IK:az ["floor","step","led","turn"] ["floor","step"] (au Fn):=by walk
include ky mE gO jJ in
def XG(D:Def K mg "led_by_step" Fn ["floor","step"] f fd)(T:Txt mg):aD P w K mg base bq 5 f fd ["floor","step"] (bw K 2 Fm):=by
 refine D.F.ok IK (λ_ _ _ _ h=>h.1) (λc A o s H v Q E hr h=>?_);refine⟨_,((fL pz (bT<*pv 1<*aG) rm (aL _)<*>(~~~(@cR _ _ _ _ (bM mE ky hr ∅ rfl (pv 0<|(bT<*pv 1<*aG)<|aw))))<*>l6)<|>(2>>=IK>>=pv 0)<|>(qD rfl T.a7 ((bT<*pv 1<*aG)<|aw)&&&(dU (i:=3) IK.nd rfl (by w_up))&&&(~~~(2>>=IK>>=bM jJ gO hr ∅ rfl (pv 2<|aw))))<|>(~~~(@cR _ _ _ _ (pv 2)))),?_⟩
 exact eA (b:=IJ) (a5 (lK (fE (aA pI (aA bD (ai 1) (aH _)) (rV _))) (cV (bL (F:=Fg) (aj (ai 0) (aj (aA bD (ai 1) (aH _)) ax)) dS)) mh)
  (a5 (bG (ai 0) (aS 2))
  (a5 (oU (qT (aj (aA bD (ai 1) (aH _)) ax)) (aS 3) (bG (bL (F:=Fi) (aj (ai 2) ax) kh) (aS 2)))
  (cV (ai 2))))) rfl h
variable {fX:Addr}{fY:FuncData}(dJ:Def K mg "led_by_step" Fn ["floor","step"] fX fY)(fZ:aD P w K mg base bq 5 fX fY ["floor","step"] (bw K 2 Fm))
abbrev IL:ao->Dm Fl :=
 (aB (aI (ag 0) (hName 2))
 (aB (ff (bY (ag 1)) (hName 3) (aI (aK Fm (ae (ag 2) (ae (ag 3) ah))) (hName 2)))
 (aV (ag 2))))
abbrev Fp:List D->Dm D:=dY 4 IL
abbrev Fq:Stmt:=top 47
def IP:az ["floor","word","led","step"] ["floor","word"] (au Fq):=by walk
include dJ fZ in
def XH(D:Def K mg "led_by" Fq ["floor","word"] f fd)(T:Txt mg):aD P w K mg base bq 6 f fd ["floor","word"] (bw K 2 Fp):=by
 refine D.F.ok IP (λ_ _ _ _ h=>h.1) (λc A o s H v Q E hr h=>?_);refine⟨_,((2>>=IP>>=pv 0)<|>(oP (pv 1)&&&(dU (i:=3) IP.nd rfl (by w_up))&&&(~~~(2>>=IP>>=bM fZ dJ hr ∅ rfl (pv 2<|pv 3<|aw))))<|>(~~~(@cR _ _ _ _ (pv 2)))),?_⟩
 exact eA (b:=IL) (a5 (bG (ai 0) (aS 2))
  (a5 (oU (oV (ai 1)) (aS 3) (bG (bL (F:=Fm) (aj (ai 2) (aj (ai 3) ax)) dS) (aS 2)))
  (cV (ai 2)))) rfl h
variable {nY:Addr}{nZ:FuncData}(mF:Def K mg "led_by" Fq ["floor","word"] nY nZ)(n4:aD P w K mg base bq 6 nY nZ ["floor","word"] (bw K 2 Fp))
abbrev IQ:ao->Dm Fl :=
 (aV (bB (ae (ay fF (ay fg (ay aE (ag 0) (fC (.int 0))) (ay aE (ag 1) (fC (.int 0)))) (ay fg (ay aE (ag 0) (fC (.int 1))) (ay aE (ag 1) (fC (.int 1))))) (ae (ay fF (ay fg (ay aE (ag 0) (fC (.int 2))) (ay aE (ag 1) (fC (.int 0)))) (ay fg (ay aE (ag 0) (fC (.int 3))) (ay aE (ag 1) (fC (.int 1))))) ah))))
abbrev AG:List D->Dm D:=dY 2 IQ
abbrev Fs:Stmt:=top 20
def XI:az ["table","pair"] ["table","pair"] (au Fs):=by walk
def XJ(D:Def K mg "led_pair" Fs ["table","pair"] f fd)(T:Txt mg):aD P w K mg base bq 1 f fd ["table","pair"] (bw K 2 AG):=by refine D.F.ok XI (λ_ _ _ _ h=>h.1) (λc A o s H v Q E hr h=>?_);refine⟨_,(~~~(@cR _ _ _ _ (@g7 _ _ _ _ _ (bC oj (bC rK (bT<*pv 0<*aG) (bT<*pv 1<*aG)) (bC rK (bT<*pv 0<*aG) (bT<*pv 1<*aG))<|bC oj (bC rK (bT<*pv 0<*aG) (bT<*pv 1<*aG)) (bC rK (bT<*pv 0<*aG) (bT<*pv 1<*aG))<|aw)))),?_⟩;exact eA (b:=IQ) (cV (g8 (aj (aA oz (aA sf (aA bD (ai 0) (aH _)) (aA bD (ai 1) (aH _))) (aA sf (aA bD (ai 0) (aH _)) (aA bD (ai 1) (aH _)))) (aj (aA oz (aA sf (aA bD (ai 0) (aH _)) (aA bD (ai 1) (aH _))) (aA sf (aA bD (ai 0) (aH _)) (aA bD (ai 1) (aH _)))) ax)))) rfl h
variable {lh:Addr}{ll:FuncData}(dk:Def K mg "led_pair" Fs ["table","pair"] lh ll)(d7:aD P w K mg base bq 1 lh ll ["table","pair"] (bw K 2 AG))
abbrev IU:ao->Dm Fl :=
 (aB (kf (aJ (ay (kQ false) (ag 0) (fC (.int 0)))) (aV (bB ah)) bI)
 (aV (bB (ae (bB (ae (fC (.str "s")) (ae (ag 0) ah))) ah))))
abbrev wx:List D->Dm D:=dY 1 IU
abbrev Ft:Stmt:=top 35
def XM:az ["k"] ["k"] (au Ft):=by walk
def XQ(D:Def K mg "shears" Ft ["k"] f fd)(T:Txt mg):aD P w K mg base bq 1 f fd ["k"] (bw K 1 wx):=by
 refine D.F.ok XM (λ_ _ _ _ h=>h.1) (λc A o s H v Q E hr h=>?_);refine⟨_,((fL pz (pv 0) aG (aL _)<*>(~~~(@cR _ _ _ _ (@g7 _ _ _ _ _ aw)))<*>l6)<|>(~~~(@cR _ _ _ _ (@g7 _ _ _ _ _ ((@g7 _ _ _ _ _ (rm<|pv 0<|aw))<|aw))))),?_⟩
 exact eA (b:=IU) (a5 (lK (fE (aA pI (ai 0) (aH _))) (cV (g8 ax)) mh)
  (cV (g8 (aj (g8 (aj (rV _) (aj (ai 0) ax))) ax)))) rfl h
variable {n5:Addr}{n6:FuncData}(f9:Def K mg "shears" Ft ["k"] n5 n6)(iq:aD P w K mg base bq 1 n5 n6 ["k"] (bw K 1 wx))
abbrev IV:ao->Dm Fl :=
 (aV (bB (ae (ay fF (ay fg (ay aE (ag 0) (fC (.int 0))) (ay aE (ag 1) (fC (.int 0)))) (ay fg (ay aE (ag 0) (fC (.int 1))) (ay aE (ag 1) (fC (.int 2))))) (ae (ay fF (ay fg (ay aE (ag 0) (fC (.int 0))) (ay aE (ag 1) (fC (.int 1)))) (ay fg (ay aE (ag 0) (fC (.int 1))) (ay aE (ag 1) (fC (.int 3))))) (ae (ay fF (ay fg (ay aE (ag 0) (fC (.int 2))) (ay aE (ag 1) (fC (.int 0)))) (ay fg (ay aE (ag 0) (fC (.int 3))) (ay aE (ag 1) (fC (.int 2))))) (ae (ay fF (ay fg (ay aE (ag 0) (fC (.int 2))) (ay aE (ag 1) (fC (.int 1)))) (ay fg (ay aE (ag 0) (fC (.int 3))) (ay aE (ag 1) (fC (.int 3))))) ah))))))
abbrev wy:List D->Dm D:=dY 2 IV
abbrev Fu:Stmt:=top 19
def XR:az ["one","other"] ["one","other"] (au Fu):=by walk
def XS(D:Def K mg "times" Fu ["one","other"] f fd)(T:Txt mg):aD P w K mg base bq 1 f fd ["one","other"] (bw K 2 wy):=by refine D.F.ok XR (λ_ _ _ _ h=>h.1) (λc A o s H v Q E hr h=>?_);refine⟨_,(~~~(@cR _ _ _ _ (@g7 _ _ _ _ _ (bC oj (bC rK (bT<*pv 0<*aG) (bT<*pv 1<*aG)) (bC rK (bT<*pv 0<*aG) (bT<*pv 1<*aG))<|bC oj (bC rK (bT<*pv 0<*aG) (bT<*pv 1<*aG)) (bC rK (bT<*pv 0<*aG) (bT<*pv 1<*aG))<|bC oj (bC rK (bT<*pv 0<*aG) (bT<*pv 1<*aG)) (bC rK (bT<*pv 0<*aG) (bT<*pv 1<*aG))<|bC oj (bC rK (bT<*pv 0<*aG) (bT<*pv 1<*aG)) (bC rK (bT<*pv 0<*aG) (bT<*pv 1<*aG))<|aw)))),?_⟩;exact eA (b:=IV) (cV (g8 (aj (aA oz (aA sf (aA bD (ai 0) (aH _)) (aA bD (ai 1) (aH _))) (aA sf (aA bD (ai 0) (aH _)) (aA bD (ai 1) (aH _)))) (aj (aA oz (aA sf (aA bD (ai 0) (aH _)) (aA bD (ai 1) (aH _))) (aA sf (aA bD (ai 0) (aH _)) (aA bD (ai 1) (aH _)))) (aj (aA oz (aA sf (aA bD (ai 0) (aH _)) (aA bD (ai 1) (aH _))) (aA sf (aA bD (ai 0) (aH _)) (aA bD (ai 1) (aH _)))) (aj (aA oz (aA sf (aA bD (ai 0) (aH _)) (aA bD (ai 1) (aH _))) (aA sf (aA bD (ai 0) (aH _)) (aA bD (ai 1) (aH _)))) ax)))))) rfl h
variable {pX:Addr}{pY:FuncData}(gP:Def K mg "times" Fu ["one","other"] pX pY)(iN:aD P w K mg base bq 1 pX pY ["one","other"] (bw K 2 wy))
abbrev IW:ao->Dm Fl :=
 (aB (kf (aJ (ay (kQ false) (ay aE (ag 0) (fC (.int 0))) (fC (.str "s")))) (aV (bB (ae (fC (.int 1)) (ae (ay aE (ag 0) (fC (.int 1))) (ae (fC (.int 0)) (ae (fC (.int 1)) ah)))))) bI)
 (aB (aI (fC (.tup [(.int 1),(.int 0),(.int 0),(.int 1)])) (hName 1))
 (aB (ff (bZ (ae (ay aE (ag 0) (fC (.int 1))) ah)) (hName 2) (aI (aK wy (ae (fC (.tup [(.int 0),(.int (-1)),(.int 1),(.int 0)])) (ae (ag 1) ah))) (hName 1)))
 (aV (ag 1)))))
abbrev Fv:List D->Dm D:=dY 3 IW
abbrev Fw:Stmt:=top 24
def IX:az ["step","table","turn"] ["step"] (au Fw):=by walk
include gP iN in
def XT(D:Def K mg "step_table" Fw ["step"] f fd)(T:Txt mg){oH:V}(mG:tO K mg "QUARTER" oH (.tup [(.int 0),(.int (-1)),(.int 1),(.int 0)])){kz:V}(ft:tO K mg "UNMOVED" kz (.tup [(.int 1),(.int 0),(.int 0),(.int 1)])):aD P w K mg base bq 2 f fd ["step"] (bw K 1 Fv):=by
 refine D.F.ok IX (λ_ _ _ _ h=>h.1) (λc A o s H v Q E hr h=>?_);refine⟨_,((fL pz (bT<*pv 0<*aG) rm (aL _)<*>(~~~(@cR _ _ _ _ (@g7 _ _ _ _ _ (aG<|(bT<*pv 0<*aG)<|aG<|aG<|aw))))<*>l6)<|>(1>>=IX>>=LW ft rfl rfl ∅)<|>(qD rfl T.a7 ((bT<*pv 0<*aG)<|aw)&&&(dU (i:=2) IX.nd rfl (by w_up))&&&(~~~(1>>=IX>>=bM iN gP hr ∅ rfl (LW mG rfl rfl ∅<|pv 1<|aw))))<|>(~~~(@cR _ _ _ _ (pv 1)))),?_⟩
 exact eA (b:=IW) (a5 (lK (fE (aA pI (aA bD (ai 0) (aH _)) (rV _))) (cV (g8 (aj (aH _) (aj (aA bD (ai 0) (aH _)) (aj (aH _) (aj (aH _) ax)))))) mh)
  (a5 (bG (LX ft) (aS 1))
  (a5 (oU (qT (aj (aA bD (ai 0) (aH _)) ax)) (aS 2) (bG (bL (F:=wy) (aj (LX mG) (aj (ai 1) ax)) dS) (aS 1)))
  (cV (ai 1))))) rfl h
variable {iu:Addr}{iw:FuncData}(fu:Def K mg "step_table" Fw ["step"] iu iw)(iz:aD P w K mg base bq 2 iu iw ["step"] (bw K 1 Fv))
abbrev BP:ao->Dm Fl :=
 (aB (aI (fC (.tup [(.int 1),(.int 0),(.int 0),(.int 1)])) (hName 1))
 (aB (ff (bY (ag 0)) (hName 2) (aI (aK wy (ae (aK Fv (ae (ag 2) ah)) (ae (ag 1) ah))) (hName 1)))
 (aV (ag 1))))
abbrev tw:List D->Dm D:=dY 3 BP
abbrev Fx:Stmt:=top 25
def IY:az ["word","table","step"] ["word"] (au Fx):=by walk
include gP iN fu iz in
def XU(D:Def K mg "table_of" Fx ["word"] f fd)(T:Txt mg){kz:V}(ft:tO K mg "UNMOVED" kz (.tup [(.int 1),(.int 0),(.int 0),(.int 1)])):aD P w K mg base bq 3 f fd ["word"] (bw K 1 tw):=by
 refine D.F.ok IY (λ_ _ _ _ h=>h.1) (λc A o s H v Q E hr h=>?_);refine⟨_,((1>>=IY>>=LW ft rfl rfl ∅)<|>(oP (pv 0)&&&(dU (i:=2) IY.nd rfl (by w_up))&&&(~~~(1>>=IY>>=bM iN gP hr ∅ rfl (bM iz fu hr ∅ rfl (pv 2<|aw)<|pv 1<|aw))))<|>(~~~(@cR _ _ _ _ (pv 1)))),?_⟩
 exact eA (b:=BP) (a5 (bG (LX ft) (aS 1))
  (a5 (oU (oV (ai 0)) (aS 2) (bG (bL (F:=wy) (aj (bL (F:=Fv) (aj (ai 2) ax) kh) (aj (ai 1) ax)) dS) (aS 1)))
  (cV (ai 1)))) rfl h
variable {lp:Addr}{lq:FuncData}(bQ:Def K mg "table_of" Fx ["word"] lp lq)(bX:aD P w K mg base bq 3 lp lq ["word"] (bw K 1 tw))
abbrev IZ:ao->Dm Fl :=
 (aV (ay pR (ay fF (ay j9 (fC (.int 2)) (ag 0)) (ag 1)) (ay j9 (fC (.int 2)) (ag 1))))
abbrev Fy:List D->Dm D:=dY 2 IZ
abbrev Fz:Stmt:=top 34
def XW:az ["number","divisor"] ["number","divisor"] (au Fz):=by walk
def XX(D:Def K mg "nearest" Fz ["number","divisor"] f fd)(T:Txt mg):aD P w K mg base bq 1 f fd ["number","divisor"] (bw K 2 Fy):=by refine D.F.ok XW (λ_ _ _ _ h=>h.1) (λc A o s H v Q E hr h=>?_);refine⟨_,(~~~(@cR _ _ _ _ (bC Ur (bC oj (bC rq aG (pv 0)) (pv 1)) (bC rq aG (pv 1))))),?_⟩;exact eA (b:=IZ) (cV (aA W0 (aA oz (aA rX (aH _) (ai 0)) (ai 1)) (aA rX (aH _) (ai 1)))) rfl h
variable {mH:Addr}{mI:FuncData}(kA:Def K mg "nearest" Fz ["number","divisor"] mH mI)(mJ:aD P w K mg base bq 1 mH mI ["number","divisor"] (bw K 2 Fy))
abbrev I0:ao->Dm Fl :=
 (aB (aI (bB ah) (hName 1))
 (aB (aI (ag 0) (hName 2))
 (aB (d5 (aJ (ay (kQ true) (ay aE (ag 2) (fC (.int 1))) (fC (.int 0)))) (aB (aI (ay kn (aK wx (ae (oN gJ (aK Fy (ae (ay aE (ag 2) (fC (.int 0))) (ae (ay aE (ag 2) (fC (.int 1))) ah)))) ah)) (bB (ae (bB (ae (fC (.str "t")) (ae (fC (.int 1)) ah))) ah))) (hName 3))
 (aB (aI (aK AG (ae (aK tw (ae (ag 3) ah)) (ae (ag 2) ah))) (hName 2))
 (aI (ay kn (ag 1) (ag 3)) (hName 1)))))
 (aV (ag 1)))))
abbrev AH:List D->Dm D:=dY 4 I0
abbrev FA:Stmt:=top 33
def BQ:az ["pair","gone","left","steps"] ["pair"] (au FA):=by walk
include dk d7 f9 iq bQ bX kA mJ in
def XY(D:Def K mg "level_steps" FA ["pair"] f fd)(T:Txt mg):aD P w K mg base bq 4 f fd ["pair"] (bw K 1 AH):=by
 refine D.F.ok BQ (λ_ _ _ _ h=>h.1) (λc A o s H v Q E hr h=>?_);refine⟨_,((1>>=BQ>>=(@g7 _ _ _ _ _ aw))<|>(2>>=BQ>>=pv 0)<|>tM PassesOwn.never (fL vn (bT<*pv 2<*aG) aG (aL _)) ((3>>=BQ>>=bC xc (bM iq f9 hr ∅ rfl (oY oZ (bM mJ kA hr ∅ rfl ((bT<*pv 2<*aG)<|(bT<*pv 2<*aG)<|aw))<|aw)) (@g7 _ _ _ _ _ ((@g7 _ _ _ _ _ (rm<|aG<|aw))<|aw)))<|>(2>>=BQ>>=bM d7 dk hr ∅ rfl (bM bX bQ hr ∅ rfl (pv 3<|aw)<|pv 2<|aw))<|>(~~~(1>>=BQ>>=bC xc (pv 1) (pv 3))))<|>(~~~(@cR _ _ _ _ (pv 1)))),?_⟩
 exact eA (b:=I0) (a5 (bG (g8 ax) (aS 1))
  (a5 (bG (ai 0) (aS 2))
  (a5 (ux (fE (aA vV (aA bD (ai 2) (aH _)) (aH _))) (a5 (bG (aA xG (bL (F:=wx) (aj (o8 o9 (bL (F:=Fy) (aj (aA bD (ai 2) (aH _)) (aj (aA bD (ai 2) (aH _)) ax)) dS)) ax) kh) (g8 (aj (g8 (aj (rV _) (aj (aH _) ax))) ax))) (aS 3))
  (a5 (bG (bL (F:=AG) (aj (bL (F:=tw) (aj (ai 3) ax) kh) (aj (ai 2) ax)) dS) (aS 2))
  (bG (aA xG (ai 1) (ai 3)) (aS 1)))))
  (cV (ai 1))))) rfl h
variable {gb:Addr}{gf:FuncData}(bS:Def K mg "level_steps" FA ["pair"] gb gf)(b6:aD P w K mg base bq 4 gb gf ["pair"] (bw K 1 AH))
abbrev Ja:ao->Dm Fl :=
 (aB (aI (ay fF (ay aE (ag 0) (fC (.int 1))) (ay aE (ag 1) (fC (.int 1)))) (hName 2))
 (aB (kf (aJ (ay (kQ false) (ay aE (ag 0) (fC (.int 0))) (fC (.str "t")))) (aI (ay lF (ag 2) (fC (.int 4))) (hName 2)) bI)
 (aB (kf (aJ (ay (kQ false) (ag 2) (fC (.int 0)))) (aV (bB ah)) bI)
 (aV (bB (ae (bB (ae (ay aE (ag 0) (fC (.int 0))) (ae (ag 2) ah))) ah))))))
abbrev FC:List D->Dm D:=dY 3 Ja
abbrev FD:Stmt:=top 26
def Mh:az ["one","other","number"] ["one","other"] (au FD):=by walk
def XZ(D:Def K mg "joined" FD ["one","other"] f fd)(T:Txt mg):aD P w K mg base bq 1 f fd ["one","other"] (bw K 2 FC):=by
 refine D.F.ok Mh (λ_ _ _ _ h=>h.1) (λc A o s H v Q E hr h=>?_);refine⟨_,((2>>=Mh>>=bC oj (bT<*pv 0<*aG) (bT<*pv 1<*aG))<|>(fL pz (bT<*pv 0<*aG) rm (aL _)<*>(~~~(2>>=Mh>>=bC sA (pv 2) aG))<*>l6)<|>(fL pz (pv 2) aG (aL _)<*>(~~~(@cR _ _ _ _ (@g7 _ _ _ _ _ aw)))<*>l6)<|>(~~~(@cR _ _ _ _ (@g7 _ _ _ _ _ ((@g7 _ _ _ _ _ ((bT<*pv 0<*aG)<|pv 2<|aw))<|aw))))),?_⟩
 exact eA (b:=Ja) (a5 (bG (aA oz (aA bD (ai 0) (aH _)) (aA bD (ai 1) (aH _))) (aS 2))
  (a5 (lK (fE (aA pI (aA bD (ai 0) (aH _)) (rV _))) (bG (aA sL (ai 2) (aH _)) (aS 2)) mh)
  (a5 (lK (fE (aA pI (ai 2) (aH _))) (cV (g8 ax)) mh)
  (cV (g8 (aj (g8 (aj (aA bD (ai 0) (aH _)) (aj (ai 2) ax))) ax)))))) rfl h
variable {n9:Addr}{oa:FuncData}(mK:Def K mg "joined" FD ["one","other"] n9 oa)(oe:aD P w K mg base bq 1 n9 oa ["one","other"] (bw K 2 FC))
abbrev Jb:ao->Dm Fl :=
 (aB (aI (bB ah) (hName 1))
 (aB (ff (bY (ag 0)) (hName 2) (kf (ur (aJ (ay DR (aK cT (ae (ag 1) ah)) (fC (.int 0)))) (aJ (ay (kQ false) (ay aE (ay aE (ag 1) (oN gJ (fC (.int 1)))) (fC (.int 0))) (ay aE (ag 2) (fC (.int 0)))))) (aI (ay kn (zm vX (ag 1) kP (oy (oN gJ (fC (.int 1))))) (aK FC (ae (ay aE (ag 1) (oN gJ (fC (.int 1)))) (ae (ag 2) ah)))) (hName 1)) (aI (ay kn (ag 1) (bB (ae (ag 2) ah))) (hName 1))))
 (aV (ag 1))))
abbrev FE:List D->Dm D:=dY 3 Jb
abbrev FF:Stmt:=top 27
def FG:az ["word","plain","step"] ["word"] (au FF):=by walk
include mK oe in
def X0(D:Def K mg "made_plain" FF ["word"] f fd)(T:Txt mg):aD P w K mg base bq 2 f fd ["word"] (bw K 1 FE):=by
 refine D.F.ok FG (λ_ _ _ _ h=>h.1) (λc A o s H v Q E hr h=>?_);refine⟨_,((1>>=FG>>=(@g7 _ _ _ _ _ aw))<|>(oP (pv 0)&&&(dU (i:=2) FG.nd rfl (by w_up))&&&(~~~(PW.pt (M7 (fL J4 (ji mT (by rfl) T.bW mX (pv 1<|aw)) aG (aL _)) (M5 (fL pz (bT<*(bT<*pv 1<*oY oZ aG)<*aG) (bT<*pv 2<*aG) (aL _))))<*>(~~~(1>>=FG>>=bC xc (GV NN (pv 1) GR (GS (oY oZ aG))) (bM oe mK hr ∅ rfl ((bT<*pv 1<*oY oZ aG)<|pv 2<|aw))))<*>(~~~(1>>=FG>>=bC xc (pv 1) (@g7 _ _ _ _ _ (pv 2<|aw)))))))<|>(~~~(@cR _ _ _ _ (pv 1)))),?_⟩
 exact eA (b:=Jb) (a5 (bG (g8 ax) (aS 1))
  (a5 (oU (oV (ai 0)) (aS 2) (lK (PR (fE (aA LD (bO nc (aj (ai 1) ax)) (aH _))) (fE (aA pI (aA bD (aA bD (ai 1) (o8 o9 (aH _))) (aH _)) (aA bD (ai 2) (aH _))))) (bG (aA xG (Hy PV (ai 1) Hw (Hx (o8 o9 (aH _)))) (bL (F:=FC) (aj (aA bD (ai 1) (o8 o9 (aH _))) (aj (ai 2) ax)) dS)) (aS 1)) (bG (aA xG (ai 1) (g8 (aj (ai 2) ax))) (aS 1))))
  (cV (ai 1)))) rfl h
variable {iA:Addr}{iB:FuncData}(fw:Def K mg "made_plain" FF ["word"] iA iB)(iC:aD P w K mg base bq 2 iA iB ["word"] (bw K 1 FE))
abbrev Jc:ao->Dm Fl :=
 (aV (aK FE (ae (ay kn (ag 0) (ag 1)) ah)))
abbrev FH:List D->Dm D:=dY 2 Jc
abbrev FI:Stmt:=top 28
def X1:az ["one","other"] ["one","other"] (au FI):=by walk
include fw iC in
def X2(D:Def K mg "put_together" FI ["one","other"] f fd)(T:Txt mg):aD P w K mg base bq 3 f fd ["one","other"] (bw K 2 FH):=by refine D.F.ok X1 (λ_ _ _ _ h=>h.1) (λc A o s H v Q E hr h=>?_);refine⟨_,(~~~(@cR _ _ _ _ (bM iC fw hr ∅ rfl (bC xc (pv 0) (pv 1)<|aw)))),?_⟩;exact eA (b:=Jc) (cV (bL (F:=FE) (aj (aA xG (ai 0) (ai 1)) ax) kh)) rfl h
variable {eK:Addr}{eN:FuncData}(cY:Def K mg "put_together" FI ["one","other"] eK eN)(eO:aD P w K mg base bq 3 eK eN ["one","other"] (bw K 2 FH))
abbrev Jd:ao->Dm Fl :=
 (aV (rW (ay (kQ false) (aK cT (ae (ag 0) ah)) (fC (.int 4))) (ay (kQ false) (ay jh (ay fg (ay aE (ag 0) (fC (.int 0))) (ay aE (ag 0) (fC (.int 3)))) (ay fg (ay aE (ag 0) (fC (.int 1))) (ay aE (ag 0) (fC (.int 2))))) (fC (.int 1)))))
abbrev FJ:List D->Dm D:=dY 1 Jd
abbrev FK:Stmt:=top 18
def X3:az ["thing"] ["thing"] (au FK):=by walk
def X4(D:Def K mg "is_table" FK ["thing"] f fd)(T:Txt mg):aD P w K mg base bq 1 f fd ["thing"] (bw K 1 FJ):=by refine D.F.ok X3 (λ_ _ _ _ h=>h.1) (λc A o s H v Q E hr h=>?_);refine⟨_,(~~~(@cR _ _ _ _ (yf (Bc pz (ji mT (by rfl) T.bW mX (pv 0<|aw)) aG (aL _)) (ye (Bc pz (bC sS (bC rK (bT<*pv 0<*aG) (bT<*pv 0<*aG)) (bC rK (bT<*pv 0<*aG) (bT<*pv 0<*aG))) aG (aL _)))))),?_⟩;exact eA (b:=Jd) (cV (Vt (aA pI (bO nc (aj (ai 0) ax)) (aH _)) (aA pI (aA tj (aA sf (aA bD (ai 0) (aH _)) (aA bD (ai 0) (aH _))) (aA sf (aA bD (ai 0) (aH _)) (aA bD (ai 0) (aH _)))) (aH _)))) rfl h
variable {lr:Addr}{lu:FuncData}(jd:Def K mg "is_table" FK ["thing"] lr lu)(lx:aD P w K mg base bq 1 lr lu ["thing"] (bw K 1 FJ))
abbrev Je:ao->Dm Fl :=
 (aB (kf (aJ (ay (kQ false) (ay aE (ag 0) (fC (.int 0))) (fC (.int 1)))) (aV (aK wx (ae (ay aE (ag 0) (fC (.int 1))) ah))) bI)
 (aV (ay kn (bB (ae (bB (ae (fC (.str "t")) (ae (fC (.int 2)) ah))) ah)) (aK wx (ae (oN gJ (ay aE (ag 0) (fC (.int 1)))) ah)))))
abbrev FL:List D->Dm D:=dY 1 Je
abbrev FN:Stmt:=top 36
def X5:az ["table"] ["table"] (au FN):=by walk
include f9 iq in
def X6(D:Def K mg "level_word" FN ["table"] f fd)(T:Txt mg):aD P w K mg base bq 2 f fd ["table"] (bw K 1 FL):=by
 refine D.F.ok X5 (λ_ _ _ _ h=>h.1) (λc A o s H v Q E hr h=>?_);refine⟨_,((fL pz (bT<*pv 0<*aG) aG (aL _)<*>(~~~(@cR _ _ _ _ (bM iq f9 hr ∅ rfl ((bT<*pv 0<*aG)<|aw))))<*>l6)<|>(~~~(@cR _ _ _ _ (bC xc (@g7 _ _ _ _ _ ((@g7 _ _ _ _ _ (rm<|aG<|aw))<|aw)) (bM iq f9 hr ∅ rfl (oY oZ (bT<*pv 0<*aG)<|aw)))))),?_⟩
 exact eA (b:=Je) (a5 (lK (fE (aA pI (aA bD (ai 0) (aH _)) (aH _))) (cV (bL (F:=wx) (aj (aA bD (ai 0) (aH _)) ax) kh)) mh)
  (cV (aA xG (g8 (aj (g8 (aj (rV _) (aj (aH _) ax))) ax)) (bL (F:=wx) (aj (o8 o9 (aA bD (ai 0) (aH _))) ax) kh)))) rfl h
variable {iD:Addr}{iE:FuncData}(fz:Def K mg "level_word" FN ["table"] iD iE)(iF:aD P w K mg base bq 2 iD iE ["table"] (bw K 1 FL))
abbrev Jf:ao->Dm Fl :=
 (aB (kf (aJ (ay (kQ false) (ay aE (ag 0) (fC (.int 0))) (fC (.str "s")))) (aV (bB (ae (fC (.str "s")) (ae (oN gJ (ay aE (ag 0) (fC (.int 1)))) ah)))) bI)
 (aV (bB (ae (fC (.str "t")) (ae (ay jh (fC (.int 4)) (ay aE (ag 0) (fC (.int 1)))) ah)))))
abbrev FO:List D->Dm D:=dY 1 Jf
abbrev FP:Stmt:=top 29
def X7:az ["step"] ["step"] (au FP):=by walk
def X8(D:Def K mg "back_step" FP ["step"] f fd)(T:Txt mg):aD P w K mg base bq 1 f fd ["step"] (bw K 1 FO):=by
 refine D.F.ok X7 (λ_ _ _ _ h=>h.1) (λc A o s H v Q E hr h=>?_);refine⟨_,((fL pz (bT<*pv 0<*aG) rm (aL _)<*>(~~~(@cR _ _ _ _ (@g7 _ _ _ _ _ (rm<|oY oZ (bT<*pv 0<*aG)<|aw))))<*>l6)<|>(~~~(@cR _ _ _ _ (@g7 _ _ _ _ _ (rm<|bC sS aG (bT<*pv 0<*aG)<|aw))))),?_⟩
 exact eA (b:=Jf) (a5 (lK (fE (aA pI (aA bD (ai 0) (aH _)) (rV _))) (cV (g8 (aj (rV _) (aj (o8 o9 (aA bD (ai 0) (aH _))) ax)))) mh)
  (cV (g8 (aj (rV _) (aj (aA tj (aH _) (aA bD (ai 0) (aH _))) ax))))) rfl h
variable {jK:Addr}{jL:FuncData}(gQ:Def K mg "back_step" FP ["step"] jK jL)(jM:aD P w K mg base bq 1 jK jL ["step"] (bw K 1 FO))
abbrev Jg:ao->Dm Fl :=
 (aV (aK aZ (ae (bJ (sd (ae (ag 0) ah)) 1 [] (hName 0) cu (aK FO (ae (ag 0) ah))) ah)))
abbrev FQ:List D->Dm D:=dY 1 Jg
abbrev FR:Stmt:=top 30
def X9:az ["word"] ["word"] (au FR):=by walk
include gQ jM in
def Ya(D:Def K mg "back_word" FR ["word"] f fd)(T:Txt mg):aD P w K mg base bq 2 f fd ["word"] (bw K 1 FQ):=by refine D.F.ok X9 (λ_ _ _ _ h=>h.1) (λc A o s H v Q E hr h=>?_);refine⟨_,(~~~(@cR _ _ _ _ (fD mV (by rfl) T.aX mY (p5 (own:=["step"]) (fr:=[]) (js:=[]) rfl ⟨⟨rfl,by w_fin,by w_fin,by dsimp only[dW,aM,Cx.nE,Cx.wish,PyProof.Rows.envOfC,compEnvC,relabel,Env.kindOf];decide +kernel,by w_fin⟩,rfl⟩ (yL rfl T.qZ (pv 0<|aw)) (λ_ _ _ _ _=>(dU (i:=0) (show((["step"]:List Str) ++ ([]:List Str)).Nodup by w_fin) rfl (by w_up))) (λ_ _ _ _ _=>qI) (λ_ _ _ _ _=>(bM jM gQ hr ∅ rfl (pv 0<|aw)))<|aw)))),?_⟩;exact eA (b:=Jg) (cV (bO ng (aj (oO (WI (aj (ai 0) ax)) (aS 0) qU (bL (F:=FO) (aj (ai 0) ax) kh)) ax))) rfl h
variable {jN:Addr}{jO:FuncData}(gR:Def K mg "back_word" FR ["word"] jN jO)(jP:aD P w K mg base bq 2 jN jO ["word"] (bw K 1 FQ))
abbrev Jh:ao->Dm Fl :=
 (aB (kf (vT (aJ (aK FJ (ae (ag 0) ah)))) qY bI)
 (aB (aI (aK AH (ae (bB (ae (ay aE (ag 0) (fC (.int 0))) (ae (ay aE (ag 0) (fC (.int 2))) ah))) ah)) (hName 1))
 (aV (aK FH (ae (aK FL (ae (aK wy (ae (aK tw (ae (ag 1) ah)) (ae (ag 0) ah))) ah)) (ae (aK FQ (ae (ag 1) ah)) ah))))))
abbrev FT:List D->Dm D:=dY 2 Jh
abbrev FU:Stmt:=top 32
def QL:az ["table","gone"] ["table"] (au FU):=by walk
include gP iN bQ bX bS b6 cY eO jd lx fz iF gR jP in
def Yb(D:Def K mg "word_of" FU ["table"] f fd)(T:Txt mg):aD P w K mg base bq 5 f fd ["table"] (bw K 1 FT):=by
 refine D.F.ok QL (λ_ _ _ _ h=>h.1) (λc A o s H v Q E hr h=>?_);refine⟨_,((yd (JY (bM lx jd hr ∅ rfl (pv 0<|aw)))<*>(~~~M8)<*>l6)<|>(1>>=QL>>=bM b6 bS hr ∅ rfl ((@g7 _ _ _ _ _ ((bT<*pv 0<*aG)<|(bT<*pv 0<*aG)<|aw))<|aw))<|>(~~~(@cR _ _ _ _ (bM eO cY hr ∅ rfl (bM iF fz hr ∅ rfl (bM iN gP hr ∅ rfl (bM bX bQ hr ∅ rfl (pv 1<|aw)<|pv 0<|aw)<|aw)<|bM jP gR hr ∅ rfl (pv 1<|aw)<|aw))))),?_⟩
 exact eA (b:=Jh) (a5 (lK (zj (DO (bL (F:=FJ) (aj (ai 0) ax) kh))) QC mh)
  (a5 (bG (bL (F:=AH) (aj (g8 (aj (aA bD (ai 0) (aH _)) (aj (aA bD (ai 0) (aH _)) ax))) ax) kh) (aS 1))
  (cV (bL (F:=FH) (aj (bL (F:=FL) (aj (bL (F:=wy) (aj (bL (F:=tw) (aj (ai 1) ax) kh) (aj (ai 0) ax)) dS) ax) kh) (aj (bL (F:=FQ) (aj (ai 1) ax) kh) ax)) dS)))) rfl h
variable {mL:Addr}{mM:FuncData}(kC:Def K mg "word_of" FU ["table"] mL mM)(mN:aD P w K mg base bq 5 mL mM ["table"] (bw K 1 FT))
abbrev Ji:ao->Dm Fl :=
 (aV (aK E9 (ae (aK Fp (ae (ag 0) (ae (aK FT (ae (ag 1) ah)) ah))) ah)))
abbrev FV:List D->Dm D:=dY 2 Ji
abbrev FW:Stmt:=top 49
def Yc:az ["floor","table"] ["floor","table"] (au FW):=by walk
include kx mB mF n4 kC mN in
def Yd(D:Def K mg "led_by_table" FW ["floor","table"] f fd)(T:Txt mg):aD P w K mg base bq 7 f fd ["floor","table"] (bw K 2 FV):=by refine D.F.ok Yc (λ_ _ _ _ h=>h.1) (λc A o s H v Q E hr h=>?_);refine⟨_,(~~~(@cR _ _ _ _ (bM mB kx hr ∅ rfl (bM n4 mF hr ∅ rfl (pv 0<|bM mN kC hr ∅ rfl (pv 1<|aw)<|aw)<|aw)))),?_⟩;exact eA (b:=Ji) (cV (bL (F:=E9) (aj (bL (F:=Fp) (aj (ai 0) (aj (bL (F:=FT) (aj (ai 1) ax) kh) ax)) dS) ax) kh)) rfl h
variable {eQ:Addr}{eR:FuncData}(cZ:Def K mg "led_by_table" FW ["floor","table"] eQ eR)(eT:aD P w K mg base bq 7 eQ eR ["floor","table"] (bw K 2 FV))
abbrev Jj:ao->Dm Fl :=
 (aB (aI (aK AH (ae (ag 0) ah)) (hName 1))
 (aB (aI (aK AG (ae (aK tw (ae (ag 1) ah)) (ae (ag 0) ah))) (hName 2))
 (aB (kf (By (aJ (ay xF (ay aE (ag 0) (fC (.int 1))) (fC (.int 0)))) (By (aJ (ay (kQ true) (aK wm (ae (ay aE (ag 2) (fC (.int 0))) ah)) (fC (.int 1)))) (aJ (ay (jn false) (ag 0) (bB (ae (oN gJ (fC (.int 1))) (ae (fC (.int 0)) ah))))))) qY bI)
 (aB (kf (aJ (ay (kQ false) (ay aE (ag 2) (fC (.int 0))) (oN gJ (fC (.int 1))))) (aI (ay kn (ag 1) (bB (ae (bB (ae (fC (.str "t")) (ae (fC (.int 2)) ah))) ah))) (hName 1)) bI)
 (aV (aK tw (ae (ag 1) ah)))))))
abbrev FX:List D->Dm D:=dY 3 Jj
abbrev FY:Stmt:=top 51
def Jk:az ["slope","steps","led"] ["slope"] (au FY):=by walk
include dk d7 bQ bX bS b6 in
def Ye(D:Def K mg "slope_table" FY ["slope"] f fd)(T:Txt mg):aD P w K mg base bq 5 f fd ["slope"] (bw K 1 FX):=by
 refine D.F.ok Jk (λ_ _ _ _ h=>h.1) (λc A o s H v Q E hr h=>?_);have hu:=hr.units;refine⟨_,((1>>=Jk>>=bM b6 bS hr ∅ rfl (pv 0<|aw))<|>(2>>=Jk>>=bM d7 dk hr ∅ rfl (bM bX bQ hr ∅ rfl (pv 1<|aw)<|pv 0<|aw))<|>(PW.pt (JZ (fL Bb (bT<*pv 0<*aG) aG (aL _)) (JZ (fL vn (ji Sd (by rfl) T.Et yH ((bT<*pv 2<*aG)<|aw)) aG (aL _)) (M6 (fL (G3 hu) (pv 0) (@g7 _ _ _ _ _ (oY oZ aG<|aG<|aw)) (aL _)))))<*>(~~~M8)<*>l6)<|>(fL pz (bT<*pv 2<*aG) (oY oZ aG) (aL _)<*>(~~~(1>>=Jk>>=bC xc (pv 1) (@g7 _ _ _ _ _ ((@g7 _ _ _ _ _ (rm<|aG<|aw))<|aw))))<*>l6)<|>(~~~(@cR _ _ _ _ (bM bX bQ hr ∅ rfl (pv 1<|aw))))),?_⟩
 exact eA (b:=Jj) (a5 (bG (bL (F:=AH) (aj (ai 0) ax) kh) (aS 1))
  (a5 (bG (bL (F:=AG) (aj (bL (F:=tw) (aj (ai 1) ax) kh) (aj (ai 0) ax)) dS) (aS 2))
  (a5 (lK (LA (fE (aA BA (aA bD (ai 0) (aH _)) (aH _))) (LA (fE (aA vV (bO Ar (aj (aA bD (ai 2) (aH _)) ax)) (aH _))) (fE (aA (vW false) (ai 0) (g8 (aj (o8 o9 (aH _)) (aj (aH _) ax))))))) QC mh)
  (a5 (lK (fE (aA pI (aA bD (ai 2) (aH _)) (o8 o9 (aH _)))) (bG (aA xG (ai 1) (g8 (aj (g8 (aj (rV _) (aj (aH _) ax))) ax))) (aS 1)) mh)
  (cV (bL (F:=tw) (aj (ai 1) ax) kh)))))) rfl h
variable {gh:Addr}{gi:FuncData}(dM:Def K mg "slope_table" FY ["slope"] gh gi)(gj:aD P w K mg base bq 5 gh gi ["slope"] (bw K 1 FX))
abbrev Jl:ao->Dm Fl :=
 (aB (aI (aK BN (ae (aK FV (ae (ag 0) (ae (aK FX (ae (ag 1) ah)) ah))) ah)) (hName 2))
 (aV (aK aZ (ae (bJ (bY (ag 2)) 1 [] (hName 0) cu (bB (ae (ay aE (ag 0) (fC (.int 0))) (ae (ay aE (ag 0) (fC (.int 1))) ah)))) ah))))
abbrev wz:List D->Dm D:=dY 3 Jl
abbrev FZ:Stmt:=top 52
def QM:az ["floor","slope","bands"] ["floor","slope"] (au FZ):=by walk
include jc lg cZ eT dM gj in
def Yf(D:Def K mg "bands_along" FZ ["floor","slope"] f fd)(T:Txt mg):aD P w K mg base bq 8 f fd ["floor","slope"] (bw K 2 wz):=by
 refine D.F.ok QM (λ_ _ _ _ h=>h.1) (λc A o s H v Q E hr h=>?_);refine⟨_,((2>>=QM>>=bM lg jc hr ∅ rfl (bM eT cZ hr ∅ rfl (pv 0<|bM gj dM hr ∅ rfl (pv 1<|aw)<|aw)<|aw))<|>(~~~(@cR _ _ _ _ (fD mV (by rfl) T.aX mY (p5 (own:=["band"]) (fr:=[]) (js:=[]) rfl ⟨⟨rfl,by w_fin,by w_fin,by dsimp only[dW,aM,Cx.nE,Cx.wish,PyProof.Rows.envOfC,compEnvC,relabel,Env.kindOf];decide +kernel,by w_fin⟩,rfl⟩ (oP (pv 2)) (λ_ _ _ _ _=>(dU (i:=0) (show((["band"]:List Str) ++ ([]:List Str)).Nodup by w_fin) rfl (by w_up))) (λ_ _ _ _ _=>qI) (λ_ _ _ _ _=>(@g7 _ _ _ _ _ ((o4 (K:=K) rfl<*pv 0<*aG)<|(o4 (K:=K) rfl<*pv 0<*aG)<|aw)))<|aw))))),?_⟩
 exact eA (b:=Jl) (a5 (bG (bL (F:=BN) (aj (bL (F:=FV) (aj (ai 0) (aj (bL (F:=FX) (aj (ai 1) ax) kh) ax)) dS) ax) kh) (aS 2))
  (cV (bO ng (aj (oO (oV (ai 2)) (aS 0) qU (g8 (aj (aA bD (ai 0) (aH _)) (aj (aA bD (ai 0) (aH _)) ax)))) ax)))) rfl h
variable {gk:Addr}{gn:FuncData}(b7:Def K mg "bands_along" FZ ["floor","slope"] gk gn)(cM:aD P w K mg base bq 8 gk gn ["floor","slope"] (bw K 2 wz))
abbrev Jm:ao->Dm Fl :=
 (aB (aI (ag 0) (nQ 2 (cU (hName 1) (cU (hName 2) oC))))
 (aV (aK aZ (ae (bJ (bZ (ae (aK cT (ae (ag 2) ah)) ah)) 1 [1,2] (hName 0) cu (nX "tuple" gK (ag 2) (ae (nX "tuple" gK (ag 1) (ae (ay aE (ag 2) (ay aE (ag 1) (ag 0))) ah)) ah))) ah))))
abbrev F0:List D->Dm D:=dY 3 Jm
abbrev F3:Stmt:=top 64
def Mi:az ["_law_floor_here","_law_right","_law_up"] ["_law_floor_here"] (au F3):=by walk
def Yg(D:Def K mg "_law_around" F3 ["_law_floor_here"] f fd)(T:Txt mg):aD P w K mg base bq 1 f fd ["_law_floor_here"] (bw K 1 F0):=by
 refine D.F.ok Mi (λ_ _ _ _ h=>h.1) (λc A o s H v Q E hr h=>?_);refine⟨_,(uS (pv 0) (vh (n:=2) rfl (pq (dU (i:=1) Mi.nd rfl (by w_up)) (pq (dU (i:=2) Mi.nd rfl (by w_up)) vg)))<|>(~~~(@cR _ _ _ _ (fD mV (by rfl) T.aX mY (p5 (own:=["_law_s"]) (fr:=["_law_right","_law_up"]) (js:=[1,2]) rfl ⟨⟨rfl,by w_fin,by w_fin,by dsimp only[dW,aM,Cx.nE,Cx.wish,PyProof.Rows.envOfC,compEnvC,relabel,Env.kindOf];decide +kernel,by w_fin⟩,rfl⟩ (qD rfl T.a7 (ji mT (by rfl) T.bW mX (pv 2<|aw)<|aw)) (λ_ _ _ _ _=>(dU (i:=0) (show((["_law_s"]:List Str) ++ (["_law_right","_law_up"]:List Str)).Nodup by w_fin) rfl (by w_up))) (λ_ _ _ _ _=>qI) (λ_ _ _ _ _=>(C6 (K:=K) rfl PySem.F.plainAttrs_tuple PySem.F.slot_tuple_index PySem.F.type_tuple_index (C5 (K:=K) rfl) (pv 2) (C6 (K:=K) rfl PySem.F.plainAttrs_tuple PySem.F.slot_tuple_index PySem.F.type_tuple_index (C5 (K:=K) rfl) (pv 1) ((o4 (K:=K) rfl<*pv 2<*(o4 (K:=K) rfl<*pv 1<*pv 0))<|aw)<|aw)))<|aw))))),?_⟩
 exact eA (b:=Jm) (a5 (bG (ai 0) (wb (pK (aS 1) (pK (aS 2) wa))))
  (cV (bO ng (aj (oO (qT (aj (bO nc (aj (ai 2) ax)) ax)) (aS 0) qU (pb DX (ai 2) (aj (pb DX (ai 1) (aj (aA bD (ai 2) (aA bD (ai 1) (ai 0))) ax)) ax))) ax)))) rfl h
variable {gp:Addr}{gs:FuncData}(dN:Def K mg "_law_around" F3 ["_law_floor_here"] gp gs)(gy:aD P w K mg base bq 1 gp gs ["_law_floor_here"] (bw K 1 F0))
abbrev Jn:ao->Dm Fl :=
 (aB (oT 1 2 (ae (cP ah) (ae (cP ah) ah)))
 (aB (ff (bZ (ae (aK cT (ae (ag 0) ah)) ah)) (hName 3) (kf (aJ (ay (sN true) (ag 3) (ag 2))) (aB (aI (cP (ae (ag 3) ah)) (hName 4))
 (aB (d5 (aJ (ay (kQ true) (ay aE (ag 0) (ay dX (ag 4) (oN gJ (fC (.int 1))))) (ag 3))) (d3 (nX "list" bR (ag 4) (ae (ay aE (ag 0) (ay dX (ag 4) (oN gJ (fC (.int 1))))) ah))))
 (aB (d3 (nX "list" kS (ag 2) (ae (ag 4) ah)))
 (d3 (nX "list" bR (ag 1) (ae (aK aZ (ae (ag 4) ah)) ah)))))) bI))
 (aV (aK aZ (ae (ag 1) ah)))))
abbrev F4:List D->Dm D:=dY 5 Jn
abbrev F5:Stmt:=top 65
def Jo:az ["_law_turning_here","_law_found","_law_met_here","_law_k","_law_ring"] ["_law_turning_here"] (au F5):=by walk
def Yh(D:Def K mg "_law_rings" F5 ["_law_turning_here"] f fd)(T:Txt mg):aD P w K mg base bq 1 f fd ["_law_turning_here"] (bw K 1 F4):=by
 refine D.F.ok Jo (λ_ _ _ _ h=>h.1) (λc A o s H v Q E hr h=>?_);refine⟨_,((A9 (i:=1) (j:=2) rfl Jo.nd rfl rfl ∅ rfl rfl ((@l9 _ _ _ _ aw)<|(@l9 _ _ _ _ aw)<|aw) rfl)<|>(qD rfl T.a7 (ji mT (by rfl) T.bW mX (pv 0<|aw)<|aw)&&&(dU (i:=3) Jo.nd rfl (by w_up))&&&(~~~(fL GY (pv 3) (pv 2) (by with_unfolding_all rfl)<*>((4>>=Jo>>=(@l9 _ _ _ _ (pv 3<|aw)))<|>tM PassesOwn.never (fL vn (bT<*pv 0<*(nM<*pv 4<*oY oZ aG)) (pv 3) (aL _)) (~~~rn (qz PySem.F.plainAttrs_list PySem.F.slot_list_append PySem.F.type_list_append sD (pv 4) ((bT<*pv 0<*(nM<*pv 4<*oY oZ aG))<|aw)))<|>rn (qz PySem.F.plainAttrs_list PySem.F.slot_list_extend PySem.F.type_list_extend SF (pv 2) (pv 4<|aw))<|>(~~~rn (qz PySem.F.plainAttrs_list PySem.F.slot_list_append PySem.F.type_list_append sD (pv 1) (fD mV (by rfl) T.aX mY (pv 4<|aw)<|aw))))<*>l6)))<|>(~~~(@cR _ _ _ _ (fD mV (by rfl) T.aX mY (pv 1<|aw))))),?_⟩
 exact eA (b:=Jn) (a5 (BG (aj (mf ax) (aj (mf ax) ax)))
  (a5 (oU (qT (aj (bO nc (aj (ai 0) ax)) ax)) (aS 3) (lK (fE (aA (BD true) (ai 3) (ai 2))) (a5 (bG (mf (aj (ai 3) ax)) (aS 4))
  (a5 (ux (fE (aA vV (aA bD (ai 0) (aA nP (ai 4) (o8 o9 (aH _)))) (ai 3))) (r6 (pb sQ (ai 4) (aj (aA bD (ai 0) (aA nP (ai 4) (o8 o9 (aH _)))) ax))))
  (a5 (r6 (pb Vz (ai 2) (aj (ai 4) ax)))
  (r6 (pb sQ (ai 1) (aj (bO ng (aj (ai 4) ax)) ax)))))) mh))
  (cV (bO ng (aj (ai 1) ax))))) rfl h
variable {iG:Addr}{iH:FuncData}(fA:Def K mg "_law_rings" F5 ["_law_turning_here"] iG iH)(iI:aD P w K mg base bq 1 iG iH ["_law_turning_here"] (bw K 1 F4))
abbrev Jp:ao->Dm Fl :=
 (aB (aI (bB (ae (aK F0 (ae (ag 0) ah)) (ae (aK F4 (ae (ay aE (ag 0) (fC (.int 0))) ah)) ah))) (nQ 2 (cU (hName 1) (cU (hName 2) oC))))
 (aB (aI uG (hName 3))
 (aB (ff (bY (ag 2)) (hName 4) (kf (aJ (ay (jn false) (bJ (bY (ag 4)) 1 [1] (hName 0) (aJ (ay (kQ true) (ay aE (ag 1) (ag 0)) (ag 0))) (ag 0)) (cP ah))) (se (ag 3) (ag 4) (ay dX (bJ (bY (ag 2)) 1 [0,4] (hName 0) (aJ (ay (sN false) (ay aE (ay aE (ag 1) (fC (.int 1))) (ay aE (ag 2) (fC (.int 0)))) (ag 0))) (ag 0)) (fC (.int 0)))) bI))
 (aB (aI (bJ (bY (ag 2)) 1 [3] (hName 0) (aJ (ay (qm true) (ag 0) (pQ (ag 1)))) (ag 0)) (hName 5))
 (aB (aI (cP ah) (hName 6))
 (aB (ff (ko (ay m9 (ag 5) (ay qR (aK oA (ae (zm vX (ag 2) kP (oy (fC (.int 1)))) ah)) (aK oB (ae (ay (jn false) (ag 5) (cP ah)) ah))))) (hName 4) (aB (aI (cP (ae (ag 4) ah)) (hName 7))
 (aB (d5 (ur (aJ (wo false (ay dX (ag 7) (oN gJ (fC (.int 1)))) (ag 3))) (aJ (ay (qm true) (qr (ag 3) (ay dX (ag 7) (oN gJ (fC (.int 1))))) (ag 7)))) (d3 (nX "list" bR (ag 7) (ae (qr (ag 3) (ay dX (ag 7) (oN gJ (fC (.int 1))))) ah))))
 (d3 (nX "list" bR (ag 6) (ae (bB (ae (aK cT (ae (ag 4) ah)) (ae (aK cT (ae (ag 7) ah)) (ae (aK aZ (ae (ag 7) ah)) ah)))) ah))))))
 (aV (aK aZ (ae (aK ku (ae (ag 6) ah)) ah)))))))))
abbrev u3:List D->Dm D:=dY 8 Jp
abbrev F6:Stmt:=top 66
def wA:az ["_law_floor_here","_law_around_here","_law_every","_law_above","_law_row","_law_begins","_law_found","_law_band"] ["_law_floor_here"] (au F6):=by walk
include dN gy fA iI in
def Yi(D:Def K mg "_law_bands" F6 ["_law_floor_here"] f fd)(T:Txt mg):aD P w K mg base bq 2 f fd ["_law_floor_here"] (bw K 1 u3):=by
 refine D.F.ok wA (λ_ _ _ _ h=>h.1) (λc A o s H v Q E hr h=>?_);have hu:=hr.units;have hu1:=xb hr;refine⟨_,(uS (@g7 _ _ _ _ _ (bM gy dN hr ∅ rfl (pv 0<|aw)<|bM iI fA hr ∅ rfl ((bT<*pv 0<*aG)<|aw)<|aw)) (vh (n:=2) rfl (pq (dU (i:=1) wA.nd rfl (by w_up)) (pq (dU (i:=2) wA.nd rfl (by w_up)) vg)))<|>(3>>=wA>>=TV)<|>(oP (pv 2)&&&(dU (i:=4) wA.nd rfl (by w_up))&&&(~~~(fL (G3 hu) (p5 (own:=["_law_s"]) (fr:=["_law_around_here"]) (js:=[1]) rfl ⟨⟨rfl,by w_fin,by w_fin,by dsimp only[dW,aM,Cx.nE,Cx.wish,PyProof.Rows.envOfC,compEnvC,relabel,Env.kindOf];decide +kernel,by w_fin⟩,rfl⟩ (oP (pv 4)) (λ_ _ _ _ _=>(dU (i:=0) (show((["_law_s"]:List Str) ++ (["_law_around_here"]:List Str)).Nodup by w_fin) rfl (by w_up))) (λ_ _ _ _ _=>(yD (fL vn (o4 (K:=K) rfl<*pv 1<*pv 0) (pv 0) (aL _)))) (λ_ _ _ _ _=>(pv 0))) (@l9 _ _ _ _ aw) (aL _)<*>(~~~TX hu1 (pv 3) (pv 4) (nM<*p5 (own:=["_law_other"]) (fr:=["_law_floor_here","_law_row"]) (js:=[0,4]) rfl ⟨⟨rfl,by w_fin,by w_fin,by dsimp only[dW,aM,Cx.nE,Cx.wish,PyProof.Rows.envOfC,compEnvC,relabel,Env.kindOf];decide +kernel,by w_fin⟩,rfl⟩ (oP (pv 2)) (λ_ _ _ _ _=>(dU (i:=0) (show((["_law_other"]:List Str) ++ (["_law_floor_here","_law_row"]:List Str)).Nodup by w_fin) rfl (by w_up))) (λ_ _ _ _ _=>(yD (fL (Tf (K:=K) rfl) (o4 (K:=K) rfl<*(o4 (K:=K) rfl<*pv 1<*aG)<*(o4 (K:=K) rfl<*pv 2<*aG)) (pv 0) (by with_unfolding_all rfl)))) (λ_ _ _ _ _=>(pv 0))<*aG) rfl)<*>l6)))<|>(G7 (i:=5) (own:=["_law_row"]) (fr:=["_law_above"]) (js:=[3]) rfl wA.nd rfl rfl ⟨⟨rfl,by w_fin,by w_fin,by dsimp only[dW,aM,Cx.nE,Cx.wish,PyProof.Rows.envOfC,compEnvC,relabel,Env.kindOf];decide +kernel,by w_fin⟩,rfl⟩ (oP (pv 2)) (λ_ _ _ _ _=>(dU (i:=0) (show((["_law_row"]:List Str) ++ (["_law_above"]:List Str)).Nodup by w_fin) rfl (by w_up))) (λ_ _ _ _ _=>(yD (fL (N3 (K:=K) rfl hu) (pv 0) (Uo (K:=K) rfl (by rfl) (by rfl) T.dA (pv 1)) (by with_unfolding_all rfl)))) (λ_ _ _ _ _=>(pv 0)))<|>(6>>=wA>>=(@l9 _ _ _ _ aw))<|>(GO (bC uU (pv 5) (bC G0 (fD GZ (by rfl) T.dA rF (GV NN (pv 2) GR (GS aG)<|aw)) (fD J5 (by rfl) T.uH Kn (Bc (G3 hu) (pv 5) (@l9 _ _ _ _ aw) (aL _)<|aw))))&&&(dU (i:=4) wA.nd rfl (by w_up))&&&((7>>=wA>>=(@l9 _ _ _ _ (pv 4<|aw)))<|>tM PassesOwn.never (PW.pt (M7 (M3 (yM hu1 (nM<*pv 7<*oY oZ aG) (pv 3))) (M5 (fL (N2 hu) (Oc hu1 (pv 3) (nM<*pv 7<*oY oZ aG) (λ_ _=>rfl)) (pv 7) (by with_unfolding_all rfl))))) (~~~rn (qz PySem.F.plainAttrs_list PySem.F.slot_list_append PySem.F.type_list_append sD (pv 7) (Oc hu1 (pv 3) (nM<*pv 7<*oY oZ aG) (λ_ _=>rfl)<|aw)))<|>(~~~rn (qz PySem.F.plainAttrs_list PySem.F.slot_list_append PySem.F.type_list_append sD (pv 6) ((@g7 _ _ _ _ _ (ji mT (by rfl) T.bW mX (pv 4<|aw)<|ji mT (by rfl) T.bW mX (pv 7<|aw)<|fD mV (by rfl) T.aX mY (pv 7<|aw)<|aw))<|aw)))))<|>(~~~(@cR _ _ _ _ (fD mV (by rfl) T.aX mY (ji (OE hu) (by rfl) T.qv NM (pv 6<|aw)<|aw))))),?_⟩
 exact eA (b:=Jp) (a5 (bG (g8 (aj (bL (F:=F0) (aj (ai 0) ax) kh) (aj (bL (F:=F4) (aj (aA bD (ai 0) (aH _)) ax) kh) ax))) (wb (pK (aS 1) (pK (aS 2) wa))))
  (a5 (bG WU (aS 3))
  (a5 (oU (oV (ai 2)) (aS 4) (lK (fE (aA (vW false) (oO (oV (ai 4)) (aS 0) (fE (aA vV (aA bD (ai 1) (ai 0)) (ai 0))) (ai 0)) (mf ax))) (WV (ai 3) (ai 4) (aA nP (oO (oV (ai 2)) (aS 0) (fE (aA (BD false) (aA bD (aA bD (ai 1) (aH _)) (aA bD (ai 2) (aH _))) (ai 0))) (ai 0)) (aH _))) mh))
  (a5 (bG (oO (oV (ai 2)) (aS 0) (fE (aA (L6 true) (ai 0) (WY (ai 1)))) (ai 0)) (aS 5))
  (a5 (bG (mf ax) (aS 6))
  (a5 (oU (HC (aA uZ (ai 5) (aA HB (bO HA (aj (Hy PV (ai 2) Hw (Hx (aH _))) ax)) (bO LF (aj (aA (vW false) (ai 5) (mf ax)) ax))))) (aS 4) (a5 (bG (mf (aj (ai 4) ax)) (aS 7))
  (a5 (ux (PR (DO (Ax (aA nP (ai 7) (o8 o9 (aH _))) (ai 3))) (fE (aA (L6 true) (QH (ai 3) (aA nP (ai 7) (o8 o9 (aH _)))) (ai 7)))) (r6 (pb sQ (ai 7) (aj (QH (ai 3) (aA nP (ai 7) (o8 o9 (aH _)))) ax))))
  (r6 (pb sQ (ai 6) (aj (g8 (aj (bO nc (aj (ai 4) ax)) (aj (bO nc (aj (ai 7) ax)) (aj (bO ng (aj (ai 7) ax)) ax)))) ax))))))
  (cV (bO ng (aj (bO Qz (aj (ai 6) ax)) ax))))))))) rfl h
variable {iJ:Addr}{iK:FuncData}(dm:Def K mg "_law_bands" F6 ["_law_floor_here"] iJ iK)(fB:aD P w K mg base bq 2 iJ iK ["_law_floor_here"] (bw K 1 u3))
abbrev Jq:ao->Dm Fl :=
 (aB (kf (aJ (ay xF (ag 2) (fC (.int 0)))) (aB (aI (aK aZ (ae (bJ (bZ (ae (aK cT (ae (ag 0) ah)) ah)) 1 [0] (hName 0) cu (nX "tuple" gK (ag 1) (ae (ag 0) ah))) ah)) (hName 0))
 (aI (ay jh (fC (.int 0)) (ag 2)) (hName 2))) bI)
 (aB (aI (cP (ae (ag 1) ah)) (hName 3))
 (aB (d5 (aJ (ay (kQ true) (ay aE (ag 0) (ay dX (ag 3) (oN gJ (fC (.int 1))))) (ag 1))) (d3 (nX "list" bR (ag 3) (ae (ay aE (ag 0) (ay dX (ag 3) (oN gJ (fC (.int 1))))) ah))))
 (aV (ay dX (ag 3) (ay lF (ag 2) (aK cT (ae (ag 3) ah))))))))
abbrev F7:List D->Dm D:=dY 4 Jq
abbrev F8:Stmt:=top 59
def Jr:az ["_law_turning_here","_law_s","_law_k","_law_ring"] ["_law_turning_here","_law_s","_law_k"] (au F8):=by walk
def Yj(D:Def K mg "_law_behind" F8 ["_law_turning_here","_law_s","_law_k"] f fd)(T:Txt mg):aD P w K mg base bq 1 f fd ["_law_turning_here","_law_s","_law_k"] (bw K 3 F7):=by
 refine D.F.ok Jr (λ_ _ _ _ h=>h.1) (λc A o s H v Q E hr h=>?_);refine⟨_,((fL Bb (pv 2) aG (aL _)<*>((0>>=Jr>>=fD mV (by rfl) T.aX mY (p5 (own:=["_law_one"]) (fr:=["_law_turning_here"]) (js:=[0]) rfl ⟨⟨rfl,by w_fin,by w_fin,by dsimp only[dW,aM,Cx.nE,Cx.wish,PyProof.Rows.envOfC,compEnvC,relabel,Env.kindOf];decide +kernel,by w_fin⟩,rfl⟩ (qD rfl T.a7 (ji mT (by rfl) T.bW mX (pv 0<|aw)<|aw)) (λ_ _ _ _ _=>(dU (i:=0) (show((["_law_one"]:List Str) ++ (["_law_turning_here"]:List Str)).Nodup by w_fin) rfl (by w_up))) (λ_ _ _ _ _=>qI) (λ_ _ _ _ _=>(C6 (K:=K) rfl PySem.F.plainAttrs_tuple PySem.F.slot_tuple_index PySem.F.type_tuple_index (C5 (K:=K) rfl) (pv 1) (pv 0<|aw)))<|aw))<|>(~~~(2>>=Jr>>=bC sS aG (pv 2))))<*>l6)<|>(3>>=Jr>>=(@l9 _ _ _ _ (pv 1<|aw)))<|>tM PassesOwn.never (fL vn (bT<*pv 0<*(nM<*pv 3<*oY oZ aG)) (pv 1) (aL _)) (~~~rn (qz PySem.F.plainAttrs_list PySem.F.slot_list_append PySem.F.type_list_append sD (pv 3) ((bT<*pv 0<*(nM<*pv 3<*oY oZ aG))<|aw)))<|>(~~~(@cR _ _ _ _ (nM<*pv 3<*bC sA (pv 2) (ji mT (by rfl) T.bW mX (pv 3<|aw)))))),?_⟩
 exact eA (b:=Jq) (a5 (lK (fE (aA BA (ai 2) (aH _))) (a5 (bG (bO ng (aj (oO (qT (aj (bO nc (aj (ai 0) ax)) ax)) (aS 0) qU (pb DX (ai 1) (aj (ai 0) ax))) ax)) (aS 0))
  (bG (aA tj (aH _) (ai 2)) (aS 2))) mh)
  (a5 (bG (mf (aj (ai 1) ax)) (aS 3))
  (a5 (ux (fE (aA vV (aA bD (ai 0) (aA nP (ai 3) (o8 o9 (aH _)))) (ai 1))) (r6 (pb sQ (ai 3) (aj (aA bD (ai 0) (aA nP (ai 3) (o8 o9 (aH _)))) ax))))
  (cV (aA nP (ai 3) (aA sL (ai 2) (bO nc (aj (ai 3) ax)))))))) rfl h
variable {gA:Addr}{gB:FuncData}(dO:Def K mg "_law_behind" F8 ["_law_turning_here","_law_s","_law_k"] gA gB)(gC:aD P w K mg base bq 1 gA gB ["_law_turning_here","_law_s","_law_k"] (bw K 3 F7))
abbrev BR:ao->Dm Fl :=
 (aB (aI (ag 0) (nQ 2 (cU (hName 2) (cU (hName 3) oC))))
 (aB (kf (aJ (ay (kQ false) (ay aE (ag 1) (fC (.int 0))) (fC (.str "s")))) (aV (bB (ae (ag 2) (ae (aK aZ (ae (bJ (bZ (ae (aK cT (ae (ag 3) ah)) ah)) 1 [1,2,3] (hName 0) cu (ay aE (ag 3) (aK F7 (ae (ag 2) (ae (ag 0) (ae (ay jh (fC (.int 0)) (ay aE (ag 1) (fC (.int 1)))) ah)))))) ah)) ah)))) bI)
 (aB (ff (bZ (ae (ay lF (ay aE (ag 1) (fC (.int 1))) (fC (.int 4))) ah)) (hName 4) (aI (bB (ae (aK aZ (ae (bJ (bZ (ae (aK cT (ae (ag 3) ah)) ah)) 1 [3] (hName 0) cu (nX "tuple" gK (ag 1) (ae (ag 0) ah))) ah)) (ae (ag 2) ah))) (nQ 2 (cU (hName 2) (cU (hName 3) oC)))))
 (aV (bB (ae (ag 2) (ae (ag 3) ah)))))))
abbrev AI:List D->Dm D:=dY 5 BR
abbrev F9:Stmt:=top 60
def BS:az ["_law_floor_here","_law_step","_law_right","_law_up","_law_turn"] ["_law_floor_here","_law_step"] (au F9):=by walk
include dO gC in
def Yk(D:Def K mg "_law_stepped" F9 ["_law_floor_here","_law_step"] f fd)(T:Txt mg):aD P w K mg base bq 2 f fd ["_law_floor_here","_law_step"] (bw K 2 AI):=by
 refine D.F.ok BS (λ_ _ _ _ h=>h.1) (λc A o s H v Q E hr h=>?_);refine⟨_,(uS (pv 0) (vh (n:=2) rfl (pq (dU (i:=2) BS.nd rfl (by w_up)) (pq (dU (i:=3) BS.nd rfl (by w_up)) vg)))<|>(fL pz (bT<*pv 1<*aG) rm (aL _)<*>(~~~(@cR _ _ _ _ (@g7 _ _ _ _ _ (pv 2<|fD mV (by rfl) T.aX mY (p5 (own:=["_law_s"]) (fr:=["_law_step","_law_right","_law_up"]) (js:=[1,2,3]) rfl ⟨⟨rfl,by w_fin,by w_fin,by dsimp only[dW,aM,Cx.nE,Cx.wish,PyProof.Rows.envOfC,compEnvC,relabel,Env.kindOf];decide +kernel,by w_fin⟩,rfl⟩ (qD rfl T.a7 (ji mT (by rfl) T.bW mX (pv 3<|aw)<|aw)) (λ_ _ _ _ _=>(dU (i:=0) (show((["_law_s"]:List Str) ++ (["_law_step","_law_right","_law_up"]:List Str)).Nodup by w_fin) rfl (by w_up))) (λ_ _ _ _ _=>qI) (λ_ _ _ _ _=>(o4 (K:=K) rfl<*pv 3<*bM gC dO hr ∅ rfl (pv 2<|pv 0<|bC sS aG (o4 (K:=K) rfl<*pv 1<*aG)<|aw)))<|aw)<|aw))))<*>l6)<|>(qD rfl T.a7 (bC sA (bT<*pv 1<*aG) aG<|aw)&&&(dU (i:=4) BS.nd rfl (by w_up))&&&(~~~uS (@g7 _ _ _ _ _ (fD mV (by rfl) T.aX mY (p5 (own:=["_law_s"]) (fr:=["_law_up"]) (js:=[3]) rfl ⟨⟨rfl,by w_fin,by w_fin,by dsimp only[dW,aM,Cx.nE,Cx.wish,PyProof.Rows.envOfC,compEnvC,relabel,Env.kindOf];decide +kernel,by w_fin⟩,rfl⟩ (qD rfl T.a7 (ji mT (by rfl) T.bW mX (pv 3<|aw)<|aw)) (λ_ _ _ _ _=>(dU (i:=0) (show((["_law_s"]:List Str) ++ (["_law_up"]:List Str)).Nodup by w_fin) rfl (by w_up))) (λ_ _ _ _ _=>qI) (λ_ _ _ _ _=>(C6 (K:=K) rfl PySem.F.plainAttrs_tuple PySem.F.slot_tuple_index PySem.F.type_tuple_index (C5 (K:=K) rfl) (pv 1) (pv 0<|aw)))<|aw)<|pv 2<|aw)) (vh (n:=2) rfl (pq (dU (i:=2) BS.nd rfl (by w_up)) (pq (dU (i:=3) BS.nd rfl (by w_up)) vg)))))<|>(~~~(@cR _ _ _ _ (@g7 _ _ _ _ _ (pv 2<|pv 3<|aw))))),?_⟩
 exact eA (b:=BR) (a5 (bG (ai 0) (wb (pK (aS 2) (pK (aS 3) wa))))
  (a5 (lK (fE (aA pI (aA bD (ai 1) (aH _)) (rV _))) (cV (g8 (aj (ai 2) (aj (bO ng (aj (oO (qT (aj (bO nc (aj (ai 3) ax)) ax)) (aS 0) qU (aA bD (ai 3) (bL (F:=F7) (aj (ai 2) (aj (ai 0) (aj (aA tj (aH _) (aA bD (ai 1) (aH _))) ax))) W5))) ax)) ax)))) mh)
  (a5 (oU (qT (aj (aA sL (aA bD (ai 1) (aH _)) (aH _)) ax)) (aS 4) (bG (g8 (aj (bO ng (aj (oO (qT (aj (bO nc (aj (ai 3) ax)) ax)) (aS 0) qU (pb DX (ai 1) (aj (ai 0) ax))) ax)) (aj (ai 2) ax))) (wb (pK (aS 2) (pK (aS 3) wa)))))
  (cV (g8 (aj (ai 2) (aj (ai 3) ax))))))) rfl h
variable {eW:Addr}{eX:FuncData}(c5:Def K mg "_law_stepped" F9 ["_law_floor_here","_law_step"] eW eX)(eY:aD P w K mg base bq 2 eW eX ["_law_floor_here","_law_step"] (bw K 2 AI))
abbrev Js:ao->Dm Fl :=
 (aB (ff (bY (ag 1)) (hName 2) (aI (aK AI (ae (ag 0) (ae (ag 2) ah))) (hName 0)))
 (aV (ag 0)))
abbrev BU:List D->Dm D:=dY 3 Js
abbrev Ga:Stmt:=top 61
def Mj:az ["_law_floor_here","_law_word","_law_step"] ["_law_floor_here","_law_word"] (au Ga):=by walk
include c5 eY in
def Yl(D:Def K mg "_law_led" Ga ["_law_floor_here","_law_word"] f fd)(T:Txt mg):aD P w K mg base bq 3 f fd ["_law_floor_here","_law_word"] (bw K 2 BU):=by
 refine D.F.ok Mj (λ_ _ _ _ h=>h.1) (λc A o s H v Q E hr h=>?_);refine⟨_,((oP (pv 1)&&&(dU (i:=2) Mj.nd rfl (by w_up))&&&(~~~(0>>=Mj>>=bM eY c5 hr ∅ rfl (pv 0<|pv 2<|aw))))<|>(~~~(@cR _ _ _ _ (pv 0)))),?_⟩
 exact eA (b:=Js) (a5 (oU (oV (ai 1)) (aS 2) (bG (bL (F:=AI) (aj (ai 0) (aj (ai 2) ax)) dS) (aS 0)))
  (cV (ai 0))) rfl h
variable {ly:Addr}{lz:FuncData}(je:Def K mg "_law_led" Ga ["_law_floor_here","_law_word"] ly lz)(lA:aD P w K mg base bq 3 ly lz ["_law_floor_here","_law_word"] (bw K 2 BU))
abbrev Jt:ao->Dm Fl :=
 (aB (aI (ag 0) (nQ 2 (cU (hName 1) (cU (hName 2) oC))))
 (aB (aI (cP ah) (hName 3))
 (aB (d5 (aJ (ay (kQ true) (ag 2) (fC (.int 0)))) (aB (aI (ay j9 (ay nG (aK nH (ae (ag 1) (ae (ay jh (fC (.int 0)) (ag 1)) ah))) (aK nH (ae (ag 2) (ae (ay jh (fC (.int 0)) (ag 2)) ah)))) (ay dX (cP (ae (fC (.int 1)) (ae (oN gJ (fC (.int 1))) ah))) (aK oB (ae (ay xF (ay j9 (ag 1) (ag 2)) (fC (.int 0))) ah)))) (hName 4))
 (aB (kf (aJ (ay (kQ true) (ag 4) (fC (.int 0)))) (d3 (nX "list" bR (ag 3) (ae (bB (ae (fC (.str "s")) (ae (ay jh (fC (.int 0)) (ag 4)) ah))) ah))) bI)
 (aB (oT 1 2 (ae (ay jh (fC (.int 0)) (ag 2)) (ae (ay jh (ag 1) (ay j9 (ag 4) (ag 2))) ah)))
 (d3 (nX "list" bR (ag 3) (ae (bB (ae (fC (.str "t")) (ae (fC (.int 1)) ah))) ah)))))))
 (aV (aK aZ (ae (ay m9 (ag 3) (ay qR (cP (ae (bB (ae (fC (.str "t")) (ae (fC (.int 2)) ah))) ah)) (aK oB (ae (ay xF (ag 1) (fC (.int 0))) ah)))) ah))))))
abbrev BV:List D->Dm D:=dY 5 Jt
abbrev Gb:Stmt:=top 69
def BW:az ["_law_pair","_law_a","_law_c","_law_found","_law_q"] ["_law_pair"] (au Gb):=by walk
def Ym(D:Def K mg "_law_straight" Gb ["_law_pair"] f fd)(T:Txt mg):aD P w K mg base bq 1 f fd ["_law_pair"] (bw K 1 BV):=by
 refine D.F.ok BW (λ_ _ _ _ h=>h.1) (λc A o s H v Q E hr h=>?_);refine⟨_,(uS (pv 0) (vh (n:=2) rfl (pq (dU (i:=1) BW.nd rfl (by w_up)) (pq (dU (i:=2) BW.nd rfl (by w_up)) vg)))<|>(3>>=BW>>=(@l9 _ _ _ _ aw))<|>tM PassesOwn.never (fL vn (pv 2) aG (aL _)) ((4>>=BW>>=bC rq (bC Cu (ji (Cw rfl) (by rfl) T.qu CU (pv 1<|bC sS aG (pv 1)<|aw)) (ji (Cw rfl) (by rfl) T.qu CU (pv 2<|bC sS aG (pv 2)<|aw))) (nM<*(@l9 _ _ _ _ (aG<|oY oZ aG<|aw))<*fD J5 (by rfl) T.uH Kn (Bc Bb (bC rq (pv 1) (pv 2)) aG (aL _)<|aw)))<|>(fL vn (pv 4) aG (aL _)<*>(~~~rn (qz PySem.F.plainAttrs_list PySem.F.slot_list_append PySem.F.type_list_append sD (pv 3) ((@g7 _ _ _ _ _ (rm<|bC sS aG (pv 4)<|aw))<|aw)))<*>l6)<|>(A9 (i:=1) (j:=2) rfl BW.nd rfl rfl ∅ rfl rfl (bC sS aG (pv 2)<|bC sS (pv 1) (bC rq (pv 4) (pv 2))<|aw) rfl)<|>(~~~rn (qz PySem.F.plainAttrs_list PySem.F.slot_list_append PySem.F.type_list_append sD (pv 3) ((@g7 _ _ _ _ _ (rm<|aG<|aw))<|aw))))<|>(~~~(@cR _ _ _ _ (fD mV (by rfl) T.aX mY (bC uU (pv 3) (bC G0 (@l9 _ _ _ _ ((@g7 _ _ _ _ _ (rm<|aG<|aw))<|aw)) (fD J5 (by rfl) T.uH Kn (Bc Bb (pv 1) aG (aL _)<|aw)))<|aw))))),?_⟩
 exact eA (b:=Jt) (a5 (bG (ai 0) (wb (pK (aS 1) (pK (aS 2) wa))))
  (a5 (bG (mf ax) (aS 3))
  (a5 (ux (fE (aA vV (ai 2) (aH _))) (a5 (bG (aA rX (aA DS (bO DW (aj (ai 1) (aj (aA tj (aH _) (ai 1)) ax))) (bO DW (aj (ai 2) (aj (aA tj (aH _) (ai 2)) ax)))) (aA nP (mf (aj (aH _) (aj (o8 o9 (aH _)) ax))) (bO LF (aj (aA BA (aA rX (ai 1) (ai 2)) (aH _)) ax)))) (aS 4))
  (a5 (lK (fE (aA vV (ai 4) (aH _))) (r6 (pb sQ (ai 3) (aj (g8 (aj (rV _) (aj (aA tj (aH _) (ai 4)) ax))) ax))) mh)
  (a5 (BG (aj (aA tj (aH _) (ai 2)) (aj (aA tj (ai 1) (aA rX (ai 4) (ai 2))) ax)))
  (r6 (pb sQ (ai 3) (aj (g8 (aj (rV _) (aj (aH _) ax))) ax)))))))
  (cV (bO ng (aj (aA uZ (ai 3) (aA HB (mf (aj (g8 (aj (rV _) (aj (aH _) ax))) ax)) (bO LF (aj (aA BA (ai 1) (aH _)) ax)))) ax)))))) rfl h
variable {dP:Addr}{dQ:FuncData}(cI:Def K mg "_law_straight" Gb ["_law_pair"] dP dQ)(dR:aD P w K mg base bq 1 dP dQ ["_law_pair"] (bw K 1 BV))
abbrev Ju:ao->Dm Fl :=
 (aB (aI (cP ah) (hName 1))
 (aB (ff (bZ (ae (aK nH (ae (fC (.int 2)) (ae (aK rZ (ae (fC (.int 5)) (ae (aK cT (ae (ag 0) ah)) ah))) ah))) ah)) (hName 2) (aB (aI (aK Ew (ae (ag 0) (ae (ag 2) ah))) (hName 3))
 (aB (aI (aK EC (ae (ag 3) (ae (ay dX (cP (ae (fC (.int 6)) (ae (fC (.int 24)) (ae (fC (.int 1000)) ah)))) (aK oW (ae (ag 3) (ae (fC (.int 3)) ah)))) ah))) (hName 4))
 (aB (aI (aK EL (ae (ag 3) (ae (fC (.int 8)) ah))) (hName 5))
 (d3 (nX "list" bR (ag 1) (ae (bB (ae (ag 5) (ae (ag 4) (ae (aK Az (ae (ag 5) (ae (aK uJ (ae (ag 3) (ae (aK cT (ae (ay aE (ag 5) (fC (.int 0))) ah)) ah))) ah))) ah)))) ah)))))))
 (aB (ff (ko (ay m9 (ag 1) (zm uw (ag 1) kP (oy (fC (.int 1)))))) (nQ 3 (cU (hName 5) (cU (hName 4) (cU (hName 6) oC)))) (aB (aI (aK aZ (ae (bJ (bY (aK u3 (ae (aK BU (ae (ag 5) (ae (aK BV (ae (ag 4) ah)) ah))) ah))) 1 [] (hName 0) cu (bB (ae (ay aE (ag 0) (fC (.int 0))) (ae (ay aE (ag 0) (fC (.int 1))) ah)))) ah)) (hName 7))
 (aB (kf (By (aJ (ay (jn true) (aK wz (ae (ag 5) (ae (ag 4) ah))) (ag 7))) (aJ (ay (jn true) (aK wz (ae (ag 6) (ae (ag 4) ah))) (ag 7)))) (aV (fC (.bl false))) bI)
 (kf (aJ (ay (jn true) (aK wz (ae (ag 5) (ae (bB (ae (fC (.int 1)) (ae (fC (.int 0)) ah))) ah))) (aK aZ (ae (bJ (bY (aK u3 (ae (ag 5) ah))) 1 [] (hName 0) cu (bB (ae (ay aE (ag 0) (fC (.int 0))) (ae (ay aE (ag 0) (fC (.int 1))) ah)))) ah)))) (aV (fC (.bl false))) bI))))
 (aV (fC (.bl true))))))
abbrev Mk:List D->Dm D:=dY 8 Ju
abbrev Jv:Stmt:=top 70
def u5:az ["_law_script","_law_some","_law_k","_law_feed_here","_law_slope_here","_law_floor_here","_law_other","_law_due"] ["_law_script"] (au Jv):=by walk
include gM jt aN aO fj ia cB de aT a6 fq ip b7 cM dm fB je lA cI dR in
def AJ(D:Def K mg "law" Jv ["_law_script"] f fd)(T:Txt mg):aD P w K mg base bq 9 f fd ["_law_script"] (bw K 1 Mk):=by
 refine D.F.ok u5 (λ_ _ _ _ h=>h.1) (λc A o s H v Q E hr h=>?_);have hu:=hr.units;refine⟨_,((1>>=u5>>=(@l9 _ _ _ _ aw))<|>(qD rfl T.a7 (ji (Cw rfl) (by rfl) T.qu CU (aG<|ji (Se rfl) (by rfl) T.uI Ko (aG<|ji mT (by rfl) T.bW mX (pv 0<|aw)<|aw)<|aw)<|aw)&&&(dU (i:=2) u5.nd rfl (by w_up))&&&((3>>=u5>>=bM jt gM hr ∅ rfl (pv 0<|pv 2<|aw))<|>(4>>=u5>>=bM ia fj hr ∅ rfl (pv 3<|(nM<*(@l9 _ _ _ _ (aG<|aG<|aG<|aw))<*bM aO aN hr ∅ rfl (pv 3<|aG<|aw))<|aw))<|>(5>>=u5>>=bM ip fq hr ∅ rfl (pv 3<|aG<|aw))<|>(~~~rn (qz PySem.F.plainAttrs_list PySem.F.slot_list_append PySem.F.type_list_append sD (pv 1) ((@g7 _ _ _ _ _ (pv 5<|pv 4<|bM de cB hr ∅ rfl (pv 5<|bM a6 aT hr ∅ rfl (pv 3<|ji mT (by rfl) T.bW mX ((bT<*pv 5<*aG)<|aw)<|aw)<|aw)<|aw))<|aw)))))<|>(GO (bC uU (pv 1) (GV NA (pv 1) GR (GS aG)))&&&vh (n:=3) rfl (pq (dU (i:=5) u5.nd rfl (by w_up)) (pq (dU (i:=4) u5.nd rfl (by w_up)) (pq (dU (i:=6) u5.nd rfl (by w_up)) vg)))&&&((7>>=u5>>=fD mV (by rfl) T.aX mY (p5 (own:=["_law_one"]) (fr:=[]) (js:=[]) rfl ⟨⟨rfl,by w_fin,by w_fin,by dsimp only[dW,aM,Cx.nE,Cx.wish,PyProof.Rows.envOfC,compEnvC,relabel,Env.kindOf];decide +kernel,by w_fin⟩,rfl⟩ (oP (bM fB dm hr ∅ rfl (bM lA je hr ∅ rfl (pv 5<|bM dR cI hr ∅ rfl (pv 4<|aw)<|aw)<|aw))) (λ_ _ _ _ _=>(dU (i:=0) (show((["_law_one"]:List Str) ++ ([]:List Str)).Nodup by w_fin) rfl (by w_up))) (λ_ _ _ _ _=>qI) (λ_ _ _ _ _=>(@g7 _ _ _ _ _ ((o4 (K:=K) rfl<*pv 0<*aG)<|(o4 (K:=K) rfl<*pv 0<*aG)<|aw)))<|aw))<|>(PW.pt (JZ (fL (CW hu) (bM cM b7 hr ∅ rfl (pv 5<|pv 4<|aw)) (pv 7) (aL _)) (M6 (fL (CW hu) (bM cM b7 hr ∅ rfl (pv 6<|pv 4<|aw)) (pv 7) (aL _))))<*>(~~~(@cR _ _ _ _ GI))<*>l6)<|>(~~~(fL (CW hu) (bM cM b7 hr ∅ rfl (pv 5<|(@g7 _ _ _ _ _ (aG<|aG<|aw))<|aw)) (fD mV (by rfl) T.aX mY (p5 (own:=["_law_one"]) (fr:=[]) (js:=[]) rfl ⟨⟨rfl,by w_fin,by w_fin,by dsimp only[dW,aM,Cx.nE,Cx.wish,PyProof.Rows.envOfC,compEnvC,relabel,Env.kindOf];decide +kernel,by w_fin⟩,rfl⟩ (oP (bM fB dm hr ∅ rfl (pv 5<|aw))) (λ_ _ _ _ _=>(dU (i:=0) (show((["_law_one"]:List Str) ++ ([]:List Str)).Nodup by w_fin) rfl (by w_up))) (λ_ _ _ _ _=>qI) (λ_ _ _ _ _=>(@g7 _ _ _ _ _ ((o4 (K:=K) rfl<*pv 0<*aG)<|(o4 (K:=K) rfl<*pv 0<*aG)<|aw)))<|aw)) (aL _)<*>(~~~(@cR _ _ _ _ GI))<*>l6))))<|>(~~~(@cR _ _ _ _ GI))),?_⟩
 exact eA (b:=Ju) (a5 (bG (mf ax) (aS 1))
  (a5 (oU (qT (aj (bO DW (aj (aH _) (aj (bO Vw (aj (aH _) (aj (bO nc (aj (ai 0) ax)) ax))) ax))) ax)) (aS 2) (a5 (bG (bL (F:=Ew) (aj (ai 0) (aj (ai 2) ax)) dS) (aS 3))
  (a5 (bG (bL (F:=EC) (aj (ai 3) (aj (aA nP (mf (aj (aH _) (aj (aH _) (aj (aH _) ax)))) (bL (F:=oW) (aj (ai 3) (aj (aH _) ax)) dS)) ax)) dS) (aS 4))
  (a5 (bG (bL (F:=EL) (aj (ai 3) (aj (aH _) ax)) dS) (aS 5))
  (r6 (pb sQ (ai 1) (aj (g8 (aj (ai 5) (aj (ai 4) (aj (bL (F:=Az) (aj (ai 5) (aj (bL (F:=uJ) (aj (ai 3) (aj (bO nc (aj (aA bD (ai 5) (aH _)) ax)) ax)) dS) ax)) dS) ax)))) ax)))))))
  (a5 (oU (HC (aA uZ (ai 1) (Hy PX (ai 1) Hw (Hx (aH _))))) (wb (pK (aS 5) (pK (aS 4) (pK (aS 6) wa)))) (a5 (bG (bO ng (aj (oO (oV (bL (F:=u3) (aj (bL (F:=BU) (aj (ai 5) (aj (bL (F:=BV) (aj (ai 4) ax) kh) ax)) dS) ax) kh)) (aS 0) qU (g8 (aj (aA bD (ai 0) (aH _)) (aj (aA bD (ai 0) (aH _)) ax)))) ax)) (aS 7))
  (a5 (lK (LA (fE (aA (vW true) (bL (F:=wz) (aj (ai 5) (aj (ai 4) ax)) dS) (ai 7))) (fE (aA (vW true) (bL (F:=wz) (aj (ai 6) (aj (ai 4) ax)) dS) (ai 7)))) (cV (Hu _)) mh)
  (lK (fE (aA (vW true) (bL (F:=wz) (aj (ai 5) (aj (g8 (aj (aH _) (aj (aH _) ax))) ax)) dS) (bO ng (aj (oO (oV (bL (F:=u3) (aj (ai 5) ax) kh)) (aS 0) qU (g8 (aj (aA bD (ai 0) (aH _)) (aj (aA bD (ai 0) (aH _)) ax)))) ax)))) (cV (Hu _)) mh))))
  (cV (Hu _))))) rfl h
end
def wB{st:Store}{f:Nat}{n:Int}(hf:bP st f)(h0:0<n)(h1:n<1073741824):Wp (oW [.ref f,.int n] st) λd st'=>∃k:Int,d=.int k/\0<=k/\k<n/\bP st' f/\Ex [f] st st':=by obtain⟨o,m,e,o0,m0,m1⟩:=hf;have hfl:=fH e;refine d4 ?_;show Ws (HV [some (.ref f),some (.int n),none,none] st) _ _ _ _;unfold HV;refine aW (kq ?_);exists cQ e,lL e;refine⟨λho=>?_,λho=>?_⟩;refine aW (bK ?_);exists cQ e;refine⟨h0,aW (tm ?_)⟩;exists cQ e,lL e,(show mP [D.int o,D.int m].length 0=some 0 from Em);refine⟨⟨h0,h1⟩,cW ?_⟩;w_how;refine⟨Zbf _ ⋯,Zbr _ h0,⟨o / n,m,?_,Int.ediv_nonneg o0 ⋯,m0,m1⟩,Ex.refl.put (by simp)⟩;rw[Zal hfl];refine mj (aW (bK ?_));exists cQ e;refine⟨by lk,by lk,aW (tm ?_)⟩;exists cQ e,lL e,(show mP [D.int o,D.int m].length 1=some 1 from En);refine⟨by lk,by lk,cW ?_⟩;have e2:(st.set f (.lst [.int o,.int ((m*48271 % 2147483647*40692+30103) % 2147483399+1)]))[f]?=some (.lst [.int o,.int ((m*48271 % 2147483647*40692+30103) % 2147483399+1)]):=Zal hfl;exists cQ e2;refine⟨by lk,by lk,h0,Zbf _ ⋯,Zbr _ h0,⟨_,_,e2,o0,by lk,by lk⟩,Ex.refl.put (by simp)⟩
def Yn{st:Store}{a:Nat}{ns:List Int}{k:Nat}(hs:items st a=some (ns.map D.int))(hk:k<=100):Wp (Ew [.ref a,.int (k:Int)] st) λd st'=>d=.ref st.length/\bP st' st.length/\Ex [] st st':=by
 refine d4 ?_;show Ws (HU [some (.ref a),some (.int (k:Int)),none,none] st) _ _ _ _;unfold HU;refine aW (bK ?_);w_how;refine⟨by lk,aW (zU (N:=λδ st1=>st1=st/\∃c:Int,δ=[some (.ref a),some (.int (k:Int)),some (.int c),none]) (kq ?_) ?_)⟩;exists hs;refine⟨λh=>bK ?_,λh=>kq ?_⟩;have h:=of_decide_eq_true h;rw[Z7]at h;exists hs;refine⟨.int (ns[k]'⋯),tQ (by rw[Zae,Z8];rfl),_,rfl⟩;exists hs;refine⟨λh=>bK ?_,λh=>mj ⟨rfl,_,rfl⟩⟩;have h:=of_decide_eq_true h;obtain⟨v,hv,hm⟩:=yC (xs:=ns.map D.int) (i:=(k:Int) % ((ns.map D.int).length:Int)) (Zbf _ ⋯) (Zbr _ h);obtain⟨c,_,rfl⟩:=Zag.mp hm;exists hs;refine⟨h,_,hv,?_⟩;w_how;exact⟨by lk,by lk,by lk,_,rfl⟩;rintro δ st1 ⟨rfl,c,rfl⟩;refine aW (bK ?_);w_how;refine aW (zU (N:=λδ st2=>st2=st1/\∃o:Int,0<=o/\δ=[some (.ref a),some (.int (k:Int)),some (.int c),some (.int o)]) (kq ?_) ?_);w_how;refine⟨by decide,λh=>bK ?_,λh=>mj ⟨rfl,0,by decide,rfl⟩⟩;have h:=of_decide_eq_true h;w_how;exact⟨c,Int.le_trans ∅ h,rfl⟩;rintro δ st2 ⟨rfl,o,o0,rfl⟩;refine cW ?_;w_how;have h1:0<=c % 2147483629:=Zbf _ ∅;have h2:c % 2147483629<2147483629:=Zbr _ ∅;refine⟨by lk,by lk,by lk,by lk,by lk,by rfl,⟨_,_,kg,o0,?_,?_⟩,Ex.cg _⟩
 have:=Zbf ((c % 2147483629*48271+40692*(k:Int)) ^ (5:Int).toNat) (show(2147483629:Int)≠0 by decide)
 lk
 have:=Zbr ((c % 2147483629*48271+40692*(k:Int)) ^ (5:Int).toNat) (show(0:Int)<2147483629 by decide)
 lk
def Jw{st:Store}{f:Nat}{n:Nat}(hf:bP st f)(hn:n<=100):Wp (uJ [.ref f,.int (n:Int)] st) λd st'=>∃xs:List Int,d=.tup (xs.map D.int)/\af.Tn n xs/\bP st' f/\Ex [f] st st':=by
 have hfl:=hf.lt;refine d4 ?_;show Ws (HZ [some (.ref f),some (.int (n:Int)),none,none] st) _ _ _ _;unfold HZ;refine aW (bK ?_);w_how;have e1:((n:Int)-0).toNat=n:=by lk
 rw[e1,qW];refine⟨by unfold sO;rw[ZaB,decide_eq_true_eq];exact⟨by lk,jg ⋯⟩,aW (bK ?_)⟩;w_how;refine⟨rfl,aW (uB (λm δ st2=>∃L xs:List Int,m=L.length/\δ=[some (.ref f),some (.int (n:Int)),some (.ref (st ++ [O.ki 0 (n:Int)]).length),some (.tup (xs.map D.int))]/\st2[(st ++ [O.ki 0 (n:Int)]).length]?=some (.lst (L.map D.int))/\(xs ++ L).Perm (af.upto n)/\bP st2 f/\Ex [f] st st2) n (ZaW hn ∅) ⟨af.upto n,[],(af.qN n).symm,rfl,kg,Zbo _,hf.keep ((Ex.cg _).app _),(Ex.cg _).app _⟩ ?_)⟩;have hl:(st ++ [O.ki 0 (n:Int)]).length≠f:=by rw[Zaf];lk
 have hls:st.length<=(st ++ [O.ki 0 (n:Int)]).length:=by rw[Zaf];lk
 generalize (st ++ [O.ki 0 (n:Int)]).length=l at hl hls ⊢;rintro m δ st2 ⟨L,xs,rfl,rfl,hL,pm,hf2,k2⟩;have hlen:(xs ++ L).length=n:=by rw[pm.length_eq,af.qN]
 rw[Zaf]at hlen;refine bA ?_;intro cn hQ;exists LR (L:=L) (M:=[]) (st:=st2 ++ [O.lst []]) (cQ (j5 hL)) qb;refine⟨rfl,hQ _ _ ⟨λh=>?_,λh=>?_⟩⟩;have hne:L≠[]:=by simpa using h
 have hpos:0<L.length:=Zb6.mpr hne;have Jx:(st2 ++ [O.lst []])[l]?=some (.lst (L.map D.int)):=j5 hL;have f3:bP (st2 ++ [O.lst []]) f:=hf2.keep (Ex.cg _);have k3:Ex [f] st (st2 ++ [O.lst []]):=k2.app _;generalize (st2 ++ [O.lst []])=st3 at Jx f3 k3 ⊢;refine bK ?_;refine bA ?_;intro cn hQ;exists cQ Jx;refine⟨qV (by rw[cQ Jx];rfl),?_⟩;refine aQ (wB (n:=((L.map D.int).length:Int)) f3 (by rw[Z7];lk) (by rw[Z7];lk)) ?_;rintro d lM ⟨k,rfl,k0,k1,f4,k4⟩;rw[Z7]at k1;have Jy:=k4.keep _ _ Jx (by simpa using hl);have p6:k.toNat<L.length:=by lk
 exists lL Jy;have hk':((k.toNat:Nat):Int)=k:=ZaI k0;refine⟨by lk,k.toNat,?_,D.int L[k.toNat],by rw[Zae,Z8 p6];rfl,rfl,jg ?_,hQ _ _ ⟨(L.eraseIdx k.toNat).length,?_,L.eraseIdx k.toNat,xs ++ [L[k.toNat]],rfl,?_,?_,?_,?_,?_⟩⟩;rw[<- hk',Zao];exact(Kc (CY (by rw[Z7];exact p6))).1;simp only[Z7,ZaG,List.length_nil];lk;rw[List.length_eraseIdx,if_pos p6];lk;rw[Zau];rfl;rw[Zal (fH Jy),Ww];refine List.Perm.trans ?_ pm;rw[Zbv];exact List.Perm.append_left xs (Wx p6);exact f4.ne hl;exact(k3.trans k4).loc hls;have he:L=[]:=by simpa using h
 subst he;refine cW ?_;kspl_open hQ;exact hQ _ _ ⟨xs,rfl,by simpa[af.Tn]using pm,hf2.keep (Ex.cg _),k2.app _⟩
def Yo{st:Store}{xs ys:List Int}{n:Nat}(tx:af.Tn n xs)(ty:af.Tn n ys)(n0:0<n)(hn:n<=100):Wp (wt [bE xs ys] st) λd st'=>∃(g:Nat) (F:List Int),d=.ref g/\items st' g=some (F.map D.int)/\(∀x,x∈F↔af.i6 xs ys x)/\F.length<=n/\af.Od xs ys F/\Ex [] st st':=by
 have hlx:=tx.length;have uK:=ty.length;refine d4 ?_;show Ws (Ie [some (bE xs ys),none,none,none,none] st) _ _ _ _;unfold Ie;refine aW (bK ?_);kspl_open hQ;refine⟨rfl,hQ _ _ (aW (pN (aF 0 (n+1)) (λi δ st2=>∃(v2 v3 v4:Option D) (F:List Int),δ=[some (bE xs ys),some (.ref st.length),v2,v3,v4]/\st2[st.length]?=some (.lst (F.map D.int))/\af.Fo xs ys F/\(af.Cl xs ys F\/i+1<=F.length)/\Ex [] st st2) ?_ ?_ ?_ ?_))⟩;unfold bE;kspl_open hQ;have e0:((1:Int)+((xs.map D.int).length:Int)).toNat=n+1:=by rw[Z7];lk
 refine⟨by rw[Z7];lk,hQ _ _ ⟨by rw[e0],none,none,none,[0],rfl,kg,af.Fo.one xs ys,.inr (Zaa _),Ex.cg _⟩⟩;rw[ka];lk;rintro i d δ st2 hd ⟨v2,v3,v4,F,rfl,u6,hF,hcl,k2⟩;kspl_open hQ
 refine hQ _ _ (pN [.tup (xs.map D.int),.tup (ys.map D.int)] (λm δ st3=>∃ (v3 v4:Option D) (G:List Int),δ=[some (bE xs ys),some (.ref st.length),some d,v3,v4]/\st3[st.length]?=some (.lst (G.map D.int))/\af.Fo xs ys G /\
   (m=0->G=F)/\(m=1->F <+: G/\∀x∈F,af.app xs x∈G)/\(2<=m->∃F1,F <+: F1/\F1 <+: G/\(∀x∈F,af.app xs x∈F1)/\∀x∈F1,af.app ys x∈G)/\Ex [] st st3) ?_ (by simp) ?_ ?_)
 unfold bE;kspl_open hQ;exact hQ _ _ ⟨rfl,v3,v4,F,rfl,u6,hF,λ_=>rfl,λz=>by lk,λz=>by lk,k2⟩;rintro m z δ st3 hm ⟨v3,v4,G,rfl,xS,hG,m0,m1,_,k3⟩;have hm2:m<2:=fH hm;obtain⟨zs,rfl,hz,em⟩:∃(zs:List Int),z=.tup (zs.map D.int)/\(zs=xs\/zs=ys)/\((m=0/\zs=xs)\/(m=1/\zs=ys)):=by
  rcases(show m=0\/m=1 by lk)with rfl|rfl
  exact⟨xs,by simpa using hm.symm,.inl rfl,.inl ⟨rfl,rfl⟩⟩;exact⟨ys,by simpa using hm.symm,.inr rfl,.inr ⟨rfl,rfl⟩⟩
 have tz:af.Tn n zs:=by rcases hz with rfl|rfl;exact tx;exact ty
 have Ml:=tz.length;have go:∀x,af.i6 xs ys x->af.i6 xs ys (af.app zs x):=λx h=>by rcases hz with rfl|rfl;exact h.r;exact h.u
 kspl_open hQ;refine hQ _ _ (LJ (G.map D.int) st3.length (λj δ lM=>∃(v4:Option D) (G':List Int),δ=[some (bE xs ys),some (.ref st.length),some d,some (.tup (zs.map D.int)),v4]/\lM[st.length]?=some (.lst (G'.map D.int))/\lM[st3.length]?=some (.lst (G.map D.int))/\af.Fo xs ys G'/\G <+: G'/\(∀i',i' < j->∀x,G[i']?=some x->af.app zs x∈G')/\Ex [] st lM) ?_ ?_ ?_ ?_ ?_);refine bA ?_;intro cn hQ;exists cQ xS;exact hQ _ _ ⟨rfl,v4,G,rfl,j5 xS,kg,hG,Zb2 _,λi' h=>absurd h (ZaZ _),k3.app _⟩;rw[Z7]
 have:=hG.len tx ty n0;lk
 rintro j δ lM ⟨_,_,_,_,h,_⟩;exact cQ h;rintro j ZL δ lM hj0 ⟨v4,G',rfl,AK,Mm,AL,pG,hd',k4⟩;obtain⟨y,hj,rfl⟩:=HM hj0;have hjl:=fH hj;have hR:=hG.mt _ (Zab hj);obtain⟨y0,y1⟩:=hR.bound tx ty n0;have at':=pe (xs:=zs) y0 (by rw[Ml];exact y1);have hnext:∀Jz:List Int,G' <+: Jz->af.app zs y∈Jz->∀i',i' < j+1->∀x,G[i']?=some x->af.app zs x∈Jz:=λJz p h i' hi' x hx=>by
  by_cases e:i'=j;subst e;rw[hj]at hx;cases hx;exact h;exact p.subset (hd' i' ⋯ x hx)
 kspl_open hQ;refine hQ _ _ (kq ?_);refine bA ?_;intro d8 a8;exists at',Eo (st:=lM) (c:=.ref st.length) (ns:=G') (cQ AK);refine a8 _ _ ⟨λhcn=>?_,λhcn=>?_⟩;have hnm:af.app zs y ∉ G':=λz=>by rw[ZaP.mpr z]at hcn;cases hcn
 have QN:af.Fo xs ys (G' ++ [af.app zs y]):=by
  refine⟨⟨ZbF _ AL.z,?_,λx hx=>?_⟩,AL.od.snoc (pG.subset (Zab hj)) (hz.imp (λe=>by rw[e]) λe=>by rw[e])⟩;rw[ZbE];refine⟨AL.nd,by simp,λx hx y' hy e=>hnm ?_⟩;have e2:y'=af.app zs y:=by simpa using hy
  rw[<- e2,<- e];exact hx;rcases Zay.mp hx with h|h
  exact AL.mt x h;have e2:x=af.app zs y:=by simpa using h
  rw[e2];exact go _ hR
 have hlen2:=QN.len tx ty n0;rw[Zaf]at hlen2;refine r9 ?_;refine bA ?_;intro Ge uL;exists at',lL AK;refine⟨qV (by rw[cQ AK];rfl),jg (by rw[Z7];simp at hlen2;lk),uL _ _ ⟨_,G' ++ [af.app zs y],rfl,?_,?_,QN,pG.trans (Zcw _ _),hnext _ (Zcw _ _) (by simp),k4.loc (Zaa _)⟩⟩;rw[Zal (fH AK),Zau];rfl;rw[ZaA (by have:=fH xS;lk)];exact Mm;have hcn:G'.contains (af.app zs y)=true:=by simpa using hcn
 exact mj ⟨_,G',rfl,AK,Mm,AL,pG,hnext G' (Zb2 _) (ZaP.mp hcn),k4⟩;rintro δ lM ⟨v4,G',rfl,AK,Mm,AL,pG,hd',k4⟩;rw[Z7]at hd';have hall:∀x∈G,af.app zs x∈G':=λx hx=>by
  obtain⟨i',hi',e⟩:=Za8 hx;exact hd' i' hi' x (by rw[Z8 hi',e])
 refine⟨_,_,G',rfl,AK,AL,λz=>by lk,λz=>?_,λz=>?_,k4⟩;rcases em with⟨rfl,rfl⟩|⟨rfl,_⟩
 have:=m0 rfl
 subst this;exact⟨pG,hall⟩;lk;rcases em with⟨rfl,_⟩|⟨rfl,rfl⟩
 lk;obtain⟨p1,c1⟩:=m1 rfl;exact⟨G,p1,pG,c1,hall⟩;rintro δ st3 ⟨v3,v4,G,rfl,xS,hG,_,_,m2,k3⟩;obtain⟨F1,p1,p2,c1,c2⟩:=m2 (Zaa 2);exact⟨_,_,_,G,rfl,xS,hG,af.round hF.toFd hG.toFd p1 p2 c1 c2 hcl,k3⟩;rintro δ st2 ⟨v2,v3,v4,F,rfl,u6,hF,hcl,k2⟩;rw[ka]at hcl;have hl:=hF.len tx ty n0;have hc:af.Cl xs ys F:=hcl.resolve_right ⋯;refine cW ?_;kspl_open hQ;exact hQ _ _ ⟨_,F,rfl,cQ u6,λx=>⟨hF.mt x,λh=>hc.all hF.z h⟩,hl,hF.od,k2⟩
def Yp{st:Store}{xs ys:List Int}{n:Nat}(tx:af.Tn n xs)(ty:af.Tn n ys)(n0:0<n)(hn:n<=100):Wp (wt [bE xs ys] st) λd st'=>∃(g:Nat) (F:List Int),d=.ref g/\items st' g=some (F.map D.int)/\(∀x,x∈F↔af.i6 xs ys x)/\F.length<=n/\Ex [] st st' :=
 aQ (Yo tx ty n0 hn) λd st' ⟨g,F,h1,h2,h3,h4,_,h5⟩=>⟨g,F,h1,h2,h3,h4,h5⟩
def QO{st:Store}{δ:ao}{X Y:List Int}{n:Nat}{Q:D->Store->Prop}(tX:af.Tn n X)(tY:af.Tn n Y)(n0:0<n)(hn:n<=100)(h1:δ[1]?=some (some (.int (n:Int))))(h6:δ[6]?=some (some (bE X Y)))
  (q:∀(L:List Int) (st':Store),L.length<=n->L.Nodup->(∀x,x∈L↔(0<=x/\x<(n:Int)/\¬af.i6 X Y x))->Ex [] st st'->Q (.ref st'.length) (st' ++ [.lst (L.map D.int)])) :
  Wp (bJ (bZ (ae (ag 1) ah)) 1 [6] (hName 0) (aJ (ay (sN true) (ag 0) (aK wt (ae (ag 1) ah)))) (ag 0) δ st) Q:=by
 have Yq:δ.getD 6 none=some (bE X Y):=by rw[Zad,h6];rfl
 refine HE (aF 0 n) (λj zs δ' kc=>∃(v:Option D) (L:List Int),δ'=[v,some (bE X Y)]/\zs=L.map D.int/\L.length<=j/\L.Nodup/\(∀x,x∈L↔(0<=x/\x<(j:Int)/\¬af.i6 X Y x))/\Ex [] st kc) ?_ (by rw[ka];lk) ?_ ?_ ?_;refine bA ?_;intro cn hQ;exists h1;refine⟨by lk,hQ _ _ ⟨λi ys δ st hi _=>?_,none,[],?_,rfl,Zaa _,Zct,λx=>⟨(λh=>nomatch h),λh=>by lk⟩,Ex.refl⟩⟩;rw[Zao];show(if i<=(aF 0 n).length then some (aF 0 n)[i]? else none)=_;rw[if_pos hi];unfold ql;simp only[Zaq,ZaH,Yq];rfl;rintro j zs δ' kc ⟨v,L,_,rfl,hl,_⟩;rw[Z7];exact hl;rintro j d zs δ' kc hd ⟨v,L,rfl,rfl,u7,nd,hL,k8⟩;have hjl:=fH hd;rw[ka]at hjl;rw[D0 hjl]at hd;cases hd;rw[Zb9];kspl_open hQ;refine hQ _ _ ?_;kspl_open a8;refine aQ (Yp (st:=kc) tX tY n0 hn) ?_;rintro d qa ⟨g,F,rfl,hg,hF,Yr,k9⟩;rw[Eo (c:=.ref g) (ns:=F) hg];refine⟨_,rfl,a8 _ _ ⟨λhc=>?_,λhc=>?_⟩⟩;have hR:¬af.i6 X Y (j:Int):=λh=>by rw[ZaP.mpr ((hF _).mpr h)]at hc;cases hc
 kspl_open uL;refine uL _ _ ⟨_,L ++ [(j:Int)],rfl,by rw[Zau];rfl,by rw[Zaf];simp;lk,?_,λx=>?_,k8.trans k9⟩;rw[ZbE];refine⟨nd,by simp,λx hx y hy e=>?_⟩;have e2:y=(j:Int):=by simpa using hy
 have:=((hL x).mp hx).2.1;lk
 rw[Zay,hL x];constructor;rintro(⟨a1,a2,a3⟩|h);exact⟨a1,by lk,a3⟩;have e2:x=(j:Int):=by simpa using h
 rw[e2];exact⟨by lk,by lk,hR⟩;rintro⟨a1,a2,a3⟩;rcases Int.lt_or_le x (j:Int)with h|h
 exact .inl ⟨a1,h,a3⟩;exact .inr (by simp;lk);have hc:F.contains (j:Int)=true:=by simpa using hc
 have hR:=(hF _).mp (ZaP.mp hc);refine⟨_,L,rfl,rfl,by lk,nd,λx=>?_,k8.trans k9⟩;rw[hL x];constructor;rintro⟨a1,a2,a3⟩;exact⟨a1,by lk,a3⟩;rintro⟨a1,a2,a3⟩;refine⟨a1,?_,a3⟩;rcases Int.lt_or_le x (j:Int)with h|h
 exact h;exact absurd hR (by rw[show(j:Int)=x by lk];exact a3);rintro zs δ' kc ⟨v,L,rfl,rfl,u7,nd,hL,k8⟩;rw[ka]at u7 hL;exact q L kc u7 nd hL k8
def Ys{st:Store}{f n:Nat}(hf:bP st f)(n1:1<=n)(Yt:n<=20):Wp (EJ [.ref f,.int (n:Int)] st) λd st'=>∃xs ys:List Int,d=bE xs ys/\nu n xs ys/\bP st' f/\Ex [f] st st':=by
 have hfl:=hf.lt;refine d4 ?_;show Ws (Ig [some (.ref f),some (.int (n:Int)),none,none,none,none,none,none,none] st) _ _ _ _;unfold Ig;refine aW (bK ?_);kspl_open hQ;refine aQ (wB (n:=6) hf ∅ ∅) ?_;rintro d st1 ⟨form,rfl,g0,g6,f1,k1⟩;refine hQ _ _ (aW (BJ ?_));clear hQ;kspl_open hQ;refine aQ (Jw (n:=n) f1 ⋯) ?_;rintro d st2 ⟨X,rfl,tX,f2,k2⟩;w_how;refine aQ (Jw (n:=n) (f2.keep (Ex.cg [.lst (X.map D.int)])) ⋯) ?_;rintro d st3 ⟨Y,rfl,tY,f3,k3⟩;w_how;refine hQ _ _ ⟨_,_,rfl,?_⟩;clear hQ;have Gf:st3[st2.length]?=some (.lst (X.map D.int)):=k3.keep _ _ kg (by have:=f2.lt;simp;lk);have two:pO st (st3 ++ [.lst (Y.map D.int)]) f st2.length st3.length n X Y:=⟨j5 Gf,kg,by have:=fH Gf;lk,(k1.trans k2).len,((k1.trans k2).trans ((Ex.cg _).trans k3)).len,tX,tY,f3.keep (Ex.cg _),(((k1.trans k2).app _).trans k3).app _⟩;show Ws _ _ _ _ _;generalize (st3 ++ [O.lst (Y.map D.int)])=lM at two ⊢;generalize st2.length=r at two ⊢;generalize st3.length=u at two ⊢;clear Gf tX tY f3 k3 f2 k2 f1 k1;refine aW (zU (N:=λδ g9=>∃(r u:Nat) (X Y:List Int),δ=[some (.ref f),some (.int (n:Int)),some (.int form),some (.ref r),some (.ref u),none,none,none,none]/\pO st g9 f r u n X Y) (kq ?_) ?_);kspl_open hQ;refine hQ _ _ ⟨λ_=>bK ?_,λ_=>mj ⟨r,u,X,Y,rfl,two⟩⟩;kspl_open a8;rw[<- Qg];refine⟨xP ⋯,rfl,jg (by rw[ka];simp;lk),a8 _ _ ⟨_,u,_,Y,rfl,(two.keep (((Ex.cg _).app _).app _)).Ak (af.OQ (show n<21 by lk) ⋯)⟩⟩;rintro δ g9 ⟨r,u,X,Y,rfl,two⟩;refine aW (zU (N:=λδ g9=>∃(r u:Nat) (X Y:List Int),δ=[some (.ref f),some (.int (n:Int)),some (.int form),some (.ref r),some (.ref u),none,none,none,none]/\pO st g9 f r u n X Y) (kq ?_) ?_);kspl_open hQ;refine hQ _ _ ⟨λ_=>BJ ?_,λ_=>mj ⟨r,u,X,Y,rfl,two⟩⟩;kspl_open a8;rw[<- Qg,show((n:Int)-0).toNat=n by lk,qW];refine⟨xP ⋯,xP ⋯,rfl,jg (by rw[ka];simp;lk),a8 _ _ ⟨_,_,rfl,_,_,_,_,rfl,(((two.keep (Ex.cg [.ki 0 (n:Int)])).Ak (Z:=af.upto n) (Zbo _)).keep (((Ex.cg _).app _).app _)).Al (af.OQ (show n<21 by lk) ⋯)⟩⟩;rintro δ BH ⟨r,u,X,Y,rfl,two⟩;refine aW (zU (N:=λδ g9=>∃(r u:Nat) (v5:Option D) (X Y:List Int),δ=[some (.ref f),some (.int (n:Int)),some (.int form),some (.ref r),some (.ref u),v5,none,none,none]/\pO st g9 f r u n X Y) (kq ?_) ?_);kspl_open hQ;refine hQ _ _ ⟨λ_=>aW (bK ?_),λ_=>mj ⟨r,u,none,X,Y,rfl,two⟩⟩;kspl_open a8;refine aQ (wB (n:=(n:Int)) two.fd ⋯ ⋯) ?_;rintro d qA ⟨w,rfl,w0,w1,f7,k7⟩;obtain⟨wd,rfl⟩:∃wd:Nat,w=(wd:Int)-1:=⟨(w+1).toNat,by lk⟩;have t7:pO st qA f r u n X Y:=⟨k7.keep _ _ two.hr (by have:=two.r0;simp;lk),k7.keep _ _ two.hu (by have:=two.u0;simp;lk),two.ne,two.r0,two.u0,two.tX,two.tY,f7,two.ex.trans k7⟩;w_how;rw[show(1:Int)+((wd:Int)-1)=(wd:Int) by lk];refine a8 _ _ (aW (bK ?_));clear a8 hQ;kspl_open a8;rw[<- Am];refine⟨xP ⋯,rfl,jg (by rw[ka];simp;lk),xP ⋯,jg (by rw[Zaf,ka,ka];simp;lk),a8 _ _ (aW (bK ?_))⟩;clear a8;have t8:=(t7.keep ((((((Ex.cg [.ki 1 (wd:Int)]).app [.lst (aF 1 ((wd:Int)-1).toNat)]).app [.lst [.int 0]]).app [.lst (aF 1 ((wd:Int)-1).toNat ++ [.int 0])]).app [.ki (wd:Int) (n:Int)]).app [.lst (aF (wd:Int) ((n:Int)-(wd:Int)).toNat)])).Ak (af.UC (w:=wd) (show n<21 by lk) ⋯ ⋯);generalize Yu:(qA ++ _ ++ _ ++ _ ++ _ ++ _ ++ _ ++ _:Store)=kc at t8 ⊢;generalize List.length _=r8 at t8 ⊢;kspl_open a8;refine⟨rfl,xP ⋯,jg (by simp[ka];lk),xP ⋯,jg (by simp[ka];lk),rfl,jg (by simp[ka];lk),a8 _ _ (kq ?_)⟩;clear a8;generalize Yv:(kc ++ _ ++ _ ++ _ ++ _ ++ _ ++ _ ++ _ ++ _ ++ _:Store)=JA;have tE:pO st JA f r8 u n (af.uk wd n) Y:=by rw[<- Yv];exact t8.keep (((((((((Ex.cg _).app _).app _).app _).app _).app _).app _).app _).app _)
 kspl_open hQ;refine hQ _ _ ⟨λhw=>?_,λhw=>?_⟩;refine bK ?_;kspl_open a8;rw[show((n:Int)-0).toNat=n by lk,qW];exact⟨xP ⋯,a8 _ _ ⟨r8,_,_,_,_,rfl,(tE.keep ((Ex.cg _).app _)).Al (Zbo _)⟩⟩;have hne:wd≠n:=λz=>by simp[z]at hw
 have tF:=tE.Al (af.UD (w:=wd) (show n<21 by lk) ⋯ ⋯);rw[An ⋯ ⋯]at tF;exact mj ⟨r8,_,_,_,_,rfl,tF⟩;rintro δ qA ⟨r,u,v5,X,Y,rfl,two⟩;have n0:0<n:=by lk
 refine aW (bK ?_);refine bA ?_;intro cn hQ;exists cQ two.hr,cQ two.hu;refine⟨rfl,hQ _ _ (aW (bK (QO (X:=X) (Y:=Y) two.tX two.tY n0 ⋯ rfl rfl ?_)))⟩;clear hQ;intro L kc u7 nd hL k8;have t8:=(two.keep k8).keep (Ex.cg [.lst (L.map D.int)]);refine aW (uB (λmm δ qa=>∃(pa:Nat) (X L:List Int) (v8:Option D),mm=L.length/\δ=[some (.ref f),some (.int (n:Int)),some (.int form),some (.ref r),some (.ref u),v5,some (bE X Y),some (.ref pa),v8]/\pO st qa f r u n X Y/\items qa pa=some (L.map D.int)/\L.length<=n/\L.Nodup/\(∀x,x∈L↔(0<=x/\x<(n:Int)/\¬af.i6 X Y x))) L.length (ZaW u7 (ZaW Yt ∅)) ⟨_,X,L,none,rfl,rfl,t8,qb,u7,nd,hL⟩ ?_);rintro mm δ qa ⟨pa,X,L,v8,rfl,rfl,two,hpa,u7,nd,hL⟩;have ZM:=two.tX.length;have AO:items (qa ++ [O.lst []]) pa=some (L.map D.int):=by
  unfold items at hpa ⊢;cases e:qa[pa]? with
  |none=>rw[e]at hpa;cases hpa
  |some o=>rw[j5 e];rw[e]at hpa;exact hpa
 refine bA ?_;intro cn hQ;exists LR (L:=L) (M:=[]) (st:=qa ++ [O.lst []]) AO qb;refine⟨rfl,hQ _ _ ⟨λh=>?_,λh=>?_⟩⟩;have hne:L≠[]:=by simpa using h
 clear hQ;obtain⟨m,L1,rfl⟩:∃m L1,L=m :: L1:=by cases L with|nil=>exact absurd rfl hne|cons m L1=>exact⟨m,L1,rfl⟩
 obtain⟨m0,m1,mR⟩:=(hL m).mp Zac;have t2:=two.keep (Ex.cg [O.lst []]);generalize (qa ++ [O.lst []])=JA at AO t2 ⊢;refine aW (bK ?_);refine bA ?_;intro cn hQ;exists AO,Zaq;refine hQ _ _ (aW (tm ?_));clear hQ;refine bA ?_;intro cn hQ;exists cQ t2.hr,pe (xs:=X) m0 ⋯,pe (xs:=X) (i:=0) ∅ ⋯;refine⟨rfl,hQ _ _ ?_⟩;clear hQ;have i0:mP (X.map D.int).length 0=some 0:=CY (j:=0) (by rw[Z7];lk);have im:mP ((X.map D.int).set 0 (.int (af.app X m))).length m=some m.toNat:=by
  rw[Zbe];have:=CY (n:=(X.map D.int).length) (j:=m.toNat) (by rw[Z7];lk)
  rwa [ZaI m0]at this
 have Gf:(JA.set r (.lst ((X.map D.int).set 0 (.int (af.app X m)))))[r]?=some (.lst ((X.map D.int).set 0 (.int (af.app X m)))):=Zal (fH t2.hr);have eS:((X.map D.int).set 0 (.int (af.app X m))).set m.toNat (.int (af.app X 0))=(af.oR X m.toNat).map D.int:=by
  unfold af.oR;rw[ZaI m0,List.map_set,List.map_set]
 refine bA ?_;intro cn hQ;exists lL t2.hr,lL Gf,i0,im,eS;refine⟨rfl,hQ _ _ (aW (bK ?_))⟩;clear hQ;have tS:=af.yU t2.tX (m:=m.toNat) ⋯;have hmet:=af.Ux t2.tX t2.tY (m:=m.toNat) ⋯ (by rw[ZaI m0];exact mR);rw[ZaI m0]at hmet;rw[List.set_set];have t3:=t2.put (Z:=af.oR X m.toNat) tS hfl;generalize JA.set r _=st3 at t3 ⊢;refine bA ?_;intro cn hQ;exists cQ t3.hr,cQ t3.hu;refine⟨rfl,hQ _ _ (bK (QO (X:=af.oR X m.toNat) (Y:=Y) t3.tX t3.tY n0 ⋯ rfl rfl ?_))⟩;intro L' lM Mp Br hL' k4;refine⟨_,?_,lM.length,af.oR X m.toNat,L',_,rfl,rfl,(t3.keep k4).keep (Ex.cg _),qb,Mp,Br,hL'⟩;refine af.less (m:=m) Br (λx hx=>?_) Zac (λh=>((hL' m).mp h).2.2 hmet.1);obtain⟨a1,a2,a3⟩:=(hL' x).mp hx;exact(hL x).mpr ⟨a1,a2,λh=>a3 (hmet.2 x h)⟩;have he:L=[]:=by simpa using h
 subst he;refine cW ?_;kspl_open a8;have t2:=two.keep (Ex.cg [O.lst []]);refine a8 _ _ ⟨X,Y,rfl,⟨t2.tX,t2.tY,λx x0 x1=>?_⟩,t2.fd,t2.ex⟩;exact Classical.byContradiction λh=>nomatch (hL x).mpr ⟨x0,x1,h⟩
def Gg{st:Store}{xs:List Int}{n:Nat}(tn:af.Tn n xs)(hn:n<=100):Wp (sR [.tup (xs.map D.int)] st) λd st'=>d=.tup ((af.inv xs).map D.int)/\Ex [] st st':=by
 have hlen:=tn.length;refine d4 ?_;show Ws (Ip [some (.tup (xs.map D.int)),none,none,none] st) _ _ _ _;unfold Ip;refine aW (bK ?_);kspl_open hQ;have e0:(((xs.map D.int).length:Int)).toNat=n:=by rw[Z7];lk
 have ez:(List.replicate n [D.int 0]).flatten=(List.replicate n (0:Int)).map D.int:=by
  induction n with
  |zero=>rfl
  |succ n ih=>simp[Za7]
 rw[e0,ez];refine⟨rfl,by rw[Z7];lk,jg (by simp;lk),hQ _ _ (aW (pN (nI (xs.map D.int)) (λk δ st2=>∃(v2 v3:Option D) (bs:List Int),δ=[some (.tup (xs.map D.int)),some (.ref (st ++ [O.lst [D.int 0]]).length),v2,v3]/\st2[(st ++ [O.lst [D.int 0]]).length]?=some (.lst (bs.map D.int))/\bs.length=n/\(∀j,j<k->∀x,xs[j]?=some x->bs[x.toNat]?=some (j:Int))/\Ex [] st st2) ?_ ?_ ?_ ?_))⟩;kspl_open hQ;exact hQ _ _ ⟨rfl,none,none,_,rfl,kg,by simp,λj hj=>absurd hj (ZaZ _),(Ex.cg _).app _⟩;rw[D1,Z7];lk;have Gh:st.length<=(st ++ [O.lst [D.int 0]]).length:=by simp
 generalize (st ++ [O.lst [D.int 0]]).length=B at Gh ⊢;rintro k d δ st2 hd ⟨v2,v3,bs,rfl,hB,wC,wD,k2⟩;obtain⟨d',hd',rfl⟩:=LH hd;obtain⟨x,hx,rfl⟩:=HM hd';obtain⟨x0,x1⟩:=tn.bound (Zab hx);have p6:=fH hx;kspl_open hQ;refine⟨rfl,hQ _ _ (tm ?_)⟩;have hix:mP (bs.map D.int).length x=some x.toNat:=by
  have:=CY (n:=(bs.map D.int).length) (j:=x.toNat) (by rw[Z7];lk)
  rwa [ZaI x0]at this
 have es:(bs.map D.int).set x.toNat (.int (k:Int))=(bs.set x.toNat (k:Int)).map D.int:=by rw[List.map_set]
 kspl_open a8;refine a8 _ _ ?_;refine bA ?_;intro Ge uL;exists lL hB,hix,es;refine uL _ _ ⟨_,_,bs.set x.toNat (k:Int),rfl,Zal (fH hB),by rw[Zbe];exact wC,λj hj y hy=>?_,k2.loc Gh⟩;by_cases hjk:j=k;subst hjk;rw[hx]at hy;cases hy;rw[Zal (by rw[wC];lk)];obtain⟨y0,y1⟩:=tn.bound (Zab hy);rw[ZaA (λz=>?_)];exact wD j ⋯ y hy;obtain⟨h1,e1⟩:=Z9.mp hx;obtain⟨h2,e2⟩:=Z9.mp hy;exact hjk ((ZbX tn.nodup).mp (show xs[j]=xs[k] by lk));rintro δ st2 ⟨v2,v3,bs,rfl,hB,wC,wD,k2⟩;rw[D1,Z7]at wD;have eb:bs=af.inv xs:=by
  apply ZbT;intro i;by_cases hi:i<n;have hm:=tn.mem (i:=(i:Int)) ⋯ ⋯;have hil:=List.idxOf_lt_length_of_mem hm;have:=wD (xs.idxOf (i:Int)) hil (i:Int) (by rw[Z8 hil];exact congrArg some (List.getElem_idxOf hil));rw[Zao]at this;rw[this];have ea:=af.qh (xs:=af.inv xs) (i:=(i:Int)) ⋯ (by rw[af.Bl];lk);rw[Zao,af.Bm ⋯ ⋯]at ea;exact ea.symm;rw[Za3 ⋯,Za3 (by rw[af.Bl];lk)]
 subst eb;refine cW ?_;refine bA ?_;intro cn hQ;exists cQ hB;exact hQ _ _ ⟨rfl,k2⟩
def xT{st:Store}{xs ys:List Int}(hb:∀x∈xs,0<=x/\x<(ys.length:Int))(hn:xs.length<=100):Wp (pS [.tup (xs.map D.int),.tup (ys.map D.int)] st) λd st'=>d=.tup ((af.aY xs ys).map D.int)/\Ex [] st st':=by refine d4 ?_;show Ws (Io [some (.tup (xs.map D.int)),some (.tup (ys.map D.int))] st) _ _ _ _;unfold Io;refine cW ?_;kspl_open hQ;refine tu (xs.map D.int) (λd=>.int (af.app ys (inD d))) ?_ (by rw[Z7];lk) ?_ ?_;kspl_open a8;exact a8 _ _ ⟨pP _ _,Ex.refl⟩;intro d hd st1 k1;obtain⟨x,hx,rfl⟩:=uF hd;obtain⟨x0,x1⟩:=hb x hx;refine bA ?_;intro d8 a8;exists Zaq,ZaH,ZaC,ZaD,pe (xs:=ys) x0 x1;exact a8 _ _ ⟨rfl,Ex.refl⟩;intro st' k';rw[Ao (f:=af.app ys) λx hx=>rfl];w_how;exact hQ _ _ ⟨rfl,k'.app _⟩
def Yw{st:Store}{xs ys p:List Int}{n:Nat}(tx:af.Tn n xs)(ty:af.Tn n ys)(tp:af.Tn n p)(hn:n<=100):Wp (E1 [bE xs ys,.tup (p.map D.int)] st) λd st'=>d=bE (af.anew xs p) (af.anew ys p)/\Ex [] st st':=by have hlx:=tx.length;have uK:=ty.length;have Gi:=tp.length;have ti:=tp.aC;have hli:=ti.length;refine d4 ?_;show Ws (Iz [some (bE xs ys),some (.tup (p.map D.int)),none,none,none] st) _ _ _ _;unfold Iz bE;refine aW (bK ?_);kspl_open hQ;refine aQ (Gg tp hn) ?_;rintro d st1 ⟨rfl,k1⟩;refine hQ _ _ (aW (bK ?_));clear hQ;kspl_open hQ;refine aQ (xT (xs:=af.inv p) (ys:=xs) (λx hx=>by rw[hlx];exact ti.bound hx) ⋯) ?_;rintro d st2 ⟨rfl,k2⟩;refine aQ (xT (xs:=af.aY (af.inv p) xs) (ys:=p) (λx hx=>by rw[Gi];exact(ti.aY tx).bound hx) (by rw[af.vI];lk)) ?_;rintro d st3 ⟨rfl,k3⟩;refine hQ _ _ (aW (bK ?_));clear hQ;kspl_open hQ;refine aQ (xT (xs:=af.inv p) (ys:=ys) (λx hx=>by rw[uK];exact ti.bound hx) ⋯) ?_;rintro d lM ⟨rfl,k4⟩;refine aQ (xT (xs:=af.aY (af.inv p) ys) (ys:=p) (λx hx=>by rw[Gi];exact(ti.aY ty).bound hx) (by rw[af.vI];lk)) ?_;rintro d g9 ⟨rfl,k5⟩;refine hQ _ _ (cW ?_);clear hQ;kspl_open hQ;exact⟨rfl,hQ _ _ ⟨rfl,(((k1.trans k2).trans k3).trans k4).trans k5⟩⟩
def Yx{F:List Int}{x:Int}:(!F.contains x)=true->af.dy F x=F ++ [x]:=λh=>by
 unfold af.dy;rw[if_neg λz=>by rw[ZaP.mpr z]at h;cases h]
def Yy{F:List Int}{x:Int}:(!F.contains x)=false->af.dy F x=F:=λh=>by
 unfold af.dy;rw[if_pos (ZaP.mp (by simpa using h))]
def Yz{st:Store}{xs ys:List Int}{n:Nat}{s:Int}(tx:af.Tn n xs)(ty:af.Tn n ys)(hn:n<=100)(s0:0<=s)(s1:s<(n:Int)):Wp (E3 [bE xs ys,.int s] st) λd st'=>d=.tup ((af.bf xs ys s n).map D.int)/\Ex [] st st':=by
 have hlx:=tx.length;have uK:=ty.length;refine d4 ?_;show Ws (IB [some (bE xs ys),some (.int s),none,none,none,none] st) _ _ _ _;unfold IB;refine aW (bK ?_);kspl_open hQ;refine⟨rfl,hQ _ _ (aW (bK ?_))⟩;clear hQ;kspl_open hQ;refine hQ _ _ (aW (uB (λm δ st2=>∃(k:Nat) (v4 v5:Option D),m=n-k/\δ=[some (bE xs ys),some (.int s),some (.ref st.length),some (.int (k:Int)),v4,v5]/\st2[st.length]?=some (.lst ((af.bf xs ys s k).map D.int))/\k<=(af.bf xs ys s k).length/\Ex [] st st2) n (ZaW hn ∅) ⟨0,none,none,by lk,rfl,kg,ZaM _,Ex.cg _⟩ ?_));clear hQ;rintro m δ st2 ⟨k,v4,v5,rfl,rfl,hl,hk,k2⟩;have wC:=af.K8 tx ty s0 s1 k;refine bA ?_;intro cn hQ;exists cQ hl;refine hQ _ _ ⟨λhlt=>?_,λhlt=>?_⟩;clear hQ;have hlt:=of_decide_eq_true hlt;rw[Z7]at hlt;have p6:k<(af.bf xs ys s k).length:=by lk
 obtain⟨x,hx⟩:∃x,(af.bf xs ys s k)[k]?=some x:=⟨_,Z8 p6⟩;obtain⟨x0,x1⟩:=af.sX tx ty s0 s1 k x (Zab hx);have e1:af.bf xs ys s (k+1)=af.visit xs ys (af.bf xs ys s k) x:=by
  show(match (af.bf xs ys s k)[k]? with|some x=>af.visit xs ys (af.bf xs ys s k) x|none=>af.bf xs ys s k)=_;rw[hx]
 have hb1:=af.K8 tx ty s0 s1 (k+1);rw[e1]at hb1;have hp1:=(af.Dn (af.dy (af.bf xs ys s k) (af.app xs x)) (af.app ys x)).length_le;have hp0:=(af.Dn (af.bf xs ys s k) (af.app xs x)).length_le;change _<=(af.visit xs ys (af.bf xs ys s k) x).length at hp1;refine aW (pN [.tup (xs.map D.int),.tup (ys.map D.int)] (λm δ st3=>∃(v4 v5:Option D) (G:List Int),δ=[some (bE xs ys),some (.int s),some (.ref st.length),some (.int (k:Int)),v4,v5]/\st3[st.length]?=some (.lst (G.map D.int))/\(m=0->G=af.bf xs ys s k)/\(m=1->G=af.dy (af.bf xs ys s k) (af.app xs x))/\(m=2->G=af.visit xs ys (af.bf xs ys s k) x)/\Ex [] st st3) ?_ (by simp) ?_ ?_);unfold bE;kspl_open hQ;exact hQ _ _ ⟨rfl,v4,v5,_,rfl,hl,λ_=>rfl,λz=>by lk,λz=>by lk,k2⟩;rintro m z δ st3 hm ⟨v4,v5,G,rfl,hl3,g0,g1,_,k3⟩;have hm2:m<2:=fH hm;obtain⟨zs,rfl,tz,em⟩:∃(zs:List Int),z=.tup (zs.map D.int)/\af.Tn n zs/\((m=0/\zs=xs)\/(m=1/\zs=ys)):=by
  rcases(show m=0\/m=1 by lk)with rfl|rfl
  exact⟨xs,by simpa using hm.symm,tx,.inl ⟨rfl,rfl⟩⟩;exact⟨ys,by simpa using hm.symm,ty,.inr ⟨rfl,rfl⟩⟩
 have hG:G.length<=100/\G[k]?=some x:=by
  rcases em with⟨rfl,_⟩|⟨rfl,_⟩
  rw[g0 rfl];exact⟨by lk,hx⟩;rw[g1 rfl];refine⟨by lk,?_⟩;obtain⟨t,e⟩:=af.Dn (af.bf xs ys s k) (af.app xs x);rw[<- e,Zan p6];exact hx
 have QP:∀G',G'=af.dy G (af.app zs x)->(m+1=0->G'=af.bf xs ys s k)/\(m+1=1->G'=af.dy (af.bf xs ys s k) (af.app xs x))/\(m+1=2->G'=af.visit xs ys (af.bf xs ys s k) x):=λG' e=>by
  rcases em with⟨rfl,rfl⟩|⟨rfl,rfl⟩
  exact⟨λz=>by lk,λ_=>by rw[e,g0 rfl],λz=>by lk⟩;exact⟨λz=>by lk,λz=>by lk,λ_=>by rw[e,g1 rfl];rfl⟩
 have hat:gD (G.map D.int) (k:Int)=some (.int x):=tQ (by rw[Zae,hG.2];rfl);kspl_open hQ;refine hQ _ _ (aW (bK ?_));clear hQ;refine bA ?_;intro cn hQ;exists cQ hl3,hat,pe (xs:=zs) x0 (by rw[tz.length];exact x1);refine hQ _ _ (kq ?_);clear hQ;refine bA ?_;intro cn hQ;exists Eo (st:=st3) (c:=.ref st.length) (ns:=G) (cQ hl3);refine hQ _ _ ⟨λhc=>r9 ?_,λhc=>mj ?_⟩;obtain⟨n0,n1,n2⟩:=QP (G ++ [af.app zs x]) (Yx hc).symm;refine bA ?_;intro d8 a8;exists lL hl3;refine⟨qV (by rw[cQ hl3];rfl),jg (by rw[Z7];lk),a8 _ _ ⟨_,_,G ++ [af.app zs x],rfl,?_,n0,n1,n2,k3.loc (Zaa _)⟩⟩;rw[Zal (fH hl3),Zau];rfl;obtain⟨n0,n1,n2⟩:=QP G (Yy hc).symm;exact⟨_,_,G,rfl,hl3,n0,n1,n2,k3⟩;rintro δ st3 ⟨v4,v5,G,rfl,hl3,_,_,g2,k3⟩;have g2:=g2 rfl;subst g2;refine bK ?_;kspl_open hQ;refine hQ _ _ ⟨n-(k+1),by lk,k+1,v4,v5,rfl,by simp,by rw[e1];exact hl3,by rw[e1];lk,k3⟩;have hlt:=of_decide_eq_false hlt;rw[Z7]at hlt;have hle:(af.bf xs ys s k).length<=k:=by lk
 have e:af.bf xs ys s n=af.bf xs ys s k:=by
  have:=af.K7 hle (n-k)
  rwa [show k+(n-k)=n by lk]at this
 refine cW ?_;refine bA ?_;intro d8 a8;exists cQ hl;rw[<- e];exact a8 _ _ ⟨rfl,k2⟩
def QQ{st:Store}{xs:List Int}{n:Nat}{i:Int}(tn:af.Tn n xs)(hn:n<=100)(i0:0<=i)(i1:i<(n:Int)):Wp (AA [.tup (xs.map D.int),.int i] st) λd st'=>∃r:List Int,d=.tup (r.map D.int)/\af.bu xs i r/\Ex [] st st':=by
 have hlen:=tn.length;refine d4 ?_;show Ws (Ii [some (.tup (xs.map D.int)),some (.int i),none,none] st) _ _ _ _;unfold Ii;refine aW (bK ?_);kspl_open hQ;refine⟨rfl,hQ _ _ (aW (bK ?_))⟩;clear hQ;refine bA ?_;intro cn hQ;exists pe (xs:=xs) i0 ⋯;refine hQ _ _ (aW (uB (λm δ st2=>∃k:Nat,m=n-(k+1)/\δ=[some (.tup (xs.map D.int)),some (.int i),some (.ref st.length),some (.int (af.aU xs i (k+1)))]/\st2[st.length]?=some (.lst ((af.row xs i k).map D.int))/\af.NB xs i k/\Ex [] st st2) (n-1) (ZaW (show n-1<=100 by lk) ∅) ⟨0,rfl,rfl,kg,λj h1 h2=>by lk,Ex.cg _⟩ ?_));clear hQ;rintro m δ st2 ⟨k,rfl,rfl,hL,nb,k2⟩;have hrl:=tn.iL i0 i1 nb;kspl_open hQ;refine hQ _ _ ⟨λhb=>?_,λhb=>?_⟩;have hb:af.aU xs i (k+1)≠i:=by simpa using hb
 have xU:af.NB xs i (k+1):=λj h1 h2=>by
  by_cases hj:j<=k;exact nb j h1 hj
  have:j=k+1:=by lk
  rw[this];exact hb
 have hle:=tn.iL i0 i1 xU;have hit:=tn.aU i0 i1 (k+1);refine aW (r9 ?_);refine bA ?_;intro d8 a8;exists lL hL;refine⟨qV (by rw[cQ hL];rfl),jg (by rw[Z7,af.sU];lk),a8 _ _ (bK ?_)⟩;clear a8;refine bA ?_;intro d8 a8;exists pe (xs:=xs) hit.1 ⋯;refine a8 _ _ ⟨n-(k+1+1),by lk,k+1,rfl,rfl,?_,xU,k2.loc (Zaa _)⟩;rw[Zal (fH hL),af.K3,Zau];rfl;have hb:af.aU xs i (k+1)=i:=by simpa using hb
 refine cW ?_;refine bA ?_;intro d8 a8;exists cQ hL;exact a8 _ _ ⟨_,rfl,⟨k,rfl,nb,hb⟩,k2⟩
def QR{st:Store}{xs:List Int}{n:Nat}(tn:af.Tn n xs)(hn:n<=100):Wp (AB [.tup (xs.map D.int)] st) λd st'=>∃rs:List (List Int),d=wj rs/\af.i5 xs (af.upto n) rs/\(∀r∈rs,r.length<=n/\∀x∈r,0<=x/\x<(n:Int))/\rs.length<=n/\Ex [] st st':=by
 have hlen:=tn.length;refine d4 ?_;show Ws (Ik [some (.tup (xs.map D.int)),none,none,none,none,none] st) _ _ _ _;unfold Ik;refine aW (bK ?_);kspl_open hQ;refine⟨rfl,hQ _ _ (aW (bK ?_))⟩;clear hQ;kspl_open hQ;have eS:(st ++ [O.lst []]).length=st.length+1:=by simp
 rw[eS]
 refine hQ _ _ (aW (pN (aF 0 n) (λk δ st2=>∃ (v3 v4 v5:Option D) (rs:List (List Int)) (kvs:List (Key×D)),δ=[some (.tup (xs.map D.int)),some (.ref st.length),some (.ref (st.length + 1)),v3,v4,v5]/\st2[st.length]?=some (.lst (rs.map λr=>.tup (r.map D.int)))/\st2[st.length + 1]?=some (.dct kvs) /\
   (∀rest,af.i5 xs (af.from' n k (λx=>(dZ kvs (Sum.inl x:Key)).isSome)) rest->af.i5 xs (af.upto n) (rs ++ rest))/\(∀r∈rs,r.length<=n/\∀x∈r,0<=x/\x<(n:Int))/\rs.length<=k/\kvs.length<=k*n/\Ex [] st st2) ?_ (by rw[ka];lk) ?_ ?_))
 clear hQ;kspl_open hQ;rw[Z7,hlen];refine⟨by lk,hQ _ _ ⟨by rw[Zao],none,none,none,[],[],rfl,j5 kg,by rw[<- eS];exact kg,λrest hrest=>?_,(λr hr=>nomatch hr),Zaa _,ZaM _,(Ex.cg _).app _⟩⟩;have e:af.from' n 0 (λx=>(dZ ([]:List (Key×D)) (Sum.inl x:Key)).isSome)=af.upto n:=af.OO n;rw[e]at hrest;exact hrest;rintro k d δ st2 hd ⟨v3,v4,v5,rs,kvs,rfl,u9,va,sj,hb,hrl,p6,k2⟩;have hk:=fH hd;rw[ka]at hk;rw[D0 hk,Zb9]at hd;cases hd;have hkn:k*n<=10000:=Zap (ZbC (show k<=100 by lk) hn) ∅;clear hQ;kspl_open hQ;refine hQ _ _ (kq ?_);clear hQ;refine bA ?_;intro cn hQ;exists Qj va,Qk;have hfs:=af.OL hk (λx=>(dZ kvs (Sum.inl x:Key)).isSome);refine hQ _ _ ⟨λhs=>?_,λhs=>?_⟩;have AQ:(dZ kvs (Sum.inl (k:Int):Key)).isSome=false:=by simpa using hs
 simp only[AQ,ZaT,if_false]at hfs;clear hQ;refine aW (bK ?_);kspl_open hQ;refine aQ (QQ tn hn (i:=(k:Int)) ⋯ ⋯) ?_;rintro d st3 ⟨r,rfl,j6,k3⟩;refine hQ _ _ (aW (r9 ?_));clear hQ;have Gj:=k3.keep _ _ u9 (by simp);have Gk:=k3.keep _ _ va (by simp);have Gm:=j6.len tn ⋯ ⋯;have hrb:=j6.bound tn ⋯ ⋯;refine bA ?_;intro cn hQ;exists lL Gj;refine⟨qV (by rw[cQ Gj];rfl),jg (by rw[Z7];lk),hQ _ _ ?_⟩;clear hQ
 refine pN (r.map D.int) (λj δ g9=>∃ (v5:Option D) (kvs':List (Key×D)),δ=[some (.tup (xs.map D.int)),some (.ref st.length),some (.ref (st.length + 1)),some (.int (k:Int)),some (.tup (r.map D.int)),v5]/\g9[st.length]?=some (.lst ((rs ++ [r]).map λr=>.tup (r.map D.int)))/\g9[st.length + 1]?=some (.dct kvs') /\
   (∀x:Int,(dZ kvs' (Sum.inl x:Key)).isSome=((dZ kvs (Sum.inl x:Key)).isSome || (r.take j).contains x))/\kvs'.length<=kvs.length+j/\Ex [] st g9) ?_ (by rw[Z7];lk) ?_ ?_
 kspl_open hQ;refine hQ _ _ ⟨rfl,v5,kvs,rfl,?_,?_,λx=>by simp,by lk,(k2.trans k3).loc (Zaa _)⟩;rw[Zal (fH Gj),Zau];rfl;rw[ZaA ⋯];exact Gk;rintro j y δ g9 hj ⟨v5,kvs',rfl,Mq,JB,JC,QS,k5⟩;obtain⟨x,hx,rfl⟩:=HM hj;obtain⟨hjl,ex⟩:=Z9.mp hx;subst ex;kspl_open hQ;refine hQ _ _ (V7 ?_);clear hQ;kspl_open hQ;refine hQ _ _ ?_;kspl_open a8;refine a8 _ _ ?_;kspl_open uL;refine uL _ _ ⟨_,kvs',_,rfl,Qj JB,Qk _,jg ⋯,_,_,rfl,?_,Zal (fH JB),λx=>?_,?_,k5.loc ⋯⟩;rw[ZaA ⋯];exact Mq;rw[WD,WG hjl];by_cases hx:x=r[j];subst hx;simp;rw[if_neg (by intro z;exact hx (Sum.inl.inj z)),JC x]
 have:(x == r[j])=false:=beq_eq_false_iff_ne.mpr hx;rw[this,Bool.or_false]
 have:=WE kvs' (Sum.inl r[j]:Key) (.bl true);lk
 rintro δ g9 ⟨v5,kvs',rfl,Mq,JB,JC,QS,k5⟩;rw[Z7]at QS JC;refine⟨_,_,_,rs ++ [r],kvs',rfl,Mq,JB,λrest hrest=>?_,λr' hr'=>?_,by rw[Zaf];simp;lk,by rw[ZbN];lk,k5⟩;have e:(λx=>(dZ kvs' (Sum.inl x:Key)).isSome)=λx=>((dZ kvs (Sum.inl x:Key)).isSome || r.contains x):=by
  funext x;rw[JC x,Za6]
 rw[e,<- af.OM]at hrest;rw[Zbv];refine sj _ ?_;rw[hfs];refine .cons j6 ?_;have e2:af.out ((k:Int) :: af.from' n (k+1) (λx=>(dZ kvs (Sum.inl x:Key)).isSome)) r=af.out (af.from' n (k+1) (λx=>(dZ kvs (Sum.inl x:Key)).isSome)) r:=by
  unfold af.out;rw[Zcj,if_neg (by simp[j6.mem])]
 rw[e2];exact hrest;rcases Zay.mp hr' with h|h
 exact hb r' h
 have:r'=r:=by simpa using h
 subst this;exact⟨Gm,hrb⟩;have AQ:(dZ kvs (Sum.inl (k:Int):Key)).isSome=true:=by simpa using hs
 simp only[AQ,if_true]at hfs;exact mj ⟨_,_,_,rs,kvs,rfl,u9,va,λrest hrest=>sj rest (by rw[hfs];exact hrest),hb,by lk,by rw[ZbN];lk,k2⟩;rintro δ st2 ⟨v3,v4,v5,rs,kvs,rfl,u9,va,sj,hb,hrl,p6,k2⟩;rw[ka]at sj hrl;refine cW ?_;clear hQ;refine bA ?_;intro cn hQ;exists cQ u9;refine hQ _ _ ⟨rs,rfl,?_,hb,hrl,k2⟩;have:=sj [] (by rw[af.OJ];exact .nil)
 rwa [Zbu]at this
def YA{rs:List (List Int)}{m:Nat}{d:D}(h:(rs.map λr=>D.tup (r.map D.int))[m]?=some d):∃r,rs[m]?=some r/\d=.tup (r.map D.int):=by rw[Zae]at h;obtain⟨r,h1,h2⟩:=Zaz.mp h;exact⟨r,h1,h2.symm⟩
def QT{xs:List Int}{i:Int}{m:Nat}{j:Int}(h0:0<=j)(h1:j<((m+1:Nat):Int)):gD ((af.row xs i m).map D.int) j=some (.int (af.aU xs i j.toNat)):=by
 have e:((af.row xs i m).map D.int)[j.toNat]?=some (.int (af.aU xs i j.toNat)):=by
  unfold af.row;rw[Zat,Zae,Zbz ⋯];rfl
 have:=tQ e
 rwa [ZaI h0]at this
def QU{bs:List Int}{m v x:Int}(h0:0<=m)(h1:m<(bs.length:Int))(x0:0<=x):af.app (bs.set m.toNat v) x=if x=m then v else af.app bs x:=by have:=af.K5 (xs:=bs) (m:=m.toNat) (v:=v) (x:=x) ⋯ x0;rw[ZaI h0]at this;exact this
def YB{st:Store}{xs:List Int}{n:Nat}{k:Int}(tn:af.Tn n xs)(hn:n<=100):Wp (Fc [.tup (xs.map D.int),.int k] st) λd st'=>d=.tup ((af.cy xs k).map D.int)/\Ex [] st st':=by
 have hlen:=tn.length;refine d4 ?_;show Ws (IG [some (.tup (xs.map D.int)),some (.int k),none,none,none,none] st) _ _ _ _;unfold IG;refine aW (bK ?_);kspl_open hQ;have e0:(((xs.map D.int).length:Int)).toNat=n:=by rw[Z7];lk
 have ez:(List.replicate n [D.int 0]).flatten=(List.replicate n (0:Int)).map D.int:=by
  clear hlen tn hn e0
  induction n with
  |zero=>rfl
  |succ n ih=>simp[Za7]
 rw[e0,ez];have Gh:st.length<=(st ++ [O.lst [D.int 0]]).length:=by simp
 refine⟨rfl,by rw[Z7];lk,jg (by simp;lk),hQ _ _ ?_⟩;clear hQ;have Mr:(st ++ [O.lst [D.int 0]] ++ [O.lst ((List.replicate n (0:Int)).map D.int)])[(st ++ [O.lst [D.int 0]]).length]?=some (.lst ((List.replicate n (0:Int)).map D.int)):=kg;have kB:Ex [] st (st ++ [O.lst [D.int 0]] ++ [O.lst ((List.replicate n (0:Int)).map D.int)]):=(Ex.cg _).app _;generalize (st ++ [O.lst [D.int 0]] ++ [O.lst ((List.replicate n (0:Int)).map D.int)])=YC at Mr kB ⊢;generalize (st ++ [O.lst [D.int 0]]).length=B at Gh Mr ⊢;show Ws _ _ _ _ _;obtain⟨d,st2,e2,rs,rfl,sj,hrb,hrl,k2⟩:=QR (st:=YC) tn hn;refine aW (pN (rs.map λr=>.tup (r.map D.int)) (λm δ st3=>∃(v3 v4 v5:Option D) (bs:List Int),δ=[some (.tup (xs.map D.int)),some (.int k),some (.ref B),v3,v4,v5]/\st3[B]?=some (.lst (bs.map D.int))/\bs.length=n/\(∀j,j<m->∀r,rs[j]?=some r->∀x∈r,af.app bs x=af.pw xs k x)/\Ex [] st st3) ?_ (by rw[Z7];lk) ?_ ?_)
 ·kspl_open hQ
  refine⟨_,_,e2,?_⟩;exact⟨_,rfl,hQ _ _ ⟨rfl,none,none,none,_,rfl,k2.keep _ _ Mr (by simp),by simp,λj hj=>absurd hj (ZaZ _),kB.trans k2⟩⟩
 ·rintro m d δ st3 hm ⟨v3,v4,v5,bs,rfl,Ms,wC,wD,k3⟩
  obtain⟨r,hr,rfl⟩:=YA hm;obtain⟨i,hi,j6⟩:=sj.all.1 r (Zab hr);obtain⟨i0,i1⟩:=af.ke.mp hi;obtain⟨M,rfl,nb,bk⟩:=j6.ex;have hM:=tn.iL i0 i1 nb;kspl_open hQ;refine hQ _ _ (pN (nI ((af.row xs i M).map D.int)) (λt δ lM=>∃(v4 v5:Option D) (cs:List Int),δ=[some (.tup (xs.map D.int)),some (.int k),some (.ref B),some (.tup ((af.row xs i M).map D.int)),v4,v5]/\lM[B]?=some (.lst (cs.map D.int))/\cs.length=n/\(∀x:Int,0<=x->x<(n:Int)->af.app bs x=af.pw xs k x->af.app cs x=af.pw xs k x)/\(∀j,j<t->af.app cs (af.aU xs i j)=af.pw xs k (af.aU xs i j))/\Ex [] st lM) ?_ ?_ ?_ ?_)
  ·clear hQ
   kspl_open hQ;exact hQ _ _ ⟨rfl,v4,v5,bs,rfl,Ms,wC,λ_ _ _ h=>h,λj hj=>absurd hj (ZaZ _),k3⟩
  ·rw[D1,Z7,af.sU];lk
  ·rintro t d δ lM hd ⟨v4,v5,cs,rfl,JD,hcl,hcs,hct,k4⟩
   obtain⟨d',hd',rfl⟩:=LH hd;obtain⟨y,hy,rfl⟩:=HM hd';have Mt:=fH hy;rw[af.sU]at Mt;have ey:y=af.aU xs i t:=by
    unfold af.row at hy;rw[Zae,Zbz Mt]at hy;exact(Zam hy).symm
   subst ey;obtain⟨x0,x1⟩:=tn.aU i0 i1 t;have hL:(0:Int)<((M+1:Nat):Int):=by lk
   have m0:=Zbf ((t:Int)+k) (Int.ne_of_gt hL);have m1:=Zbr ((t:Int)+k) hL;have eL:((((af.row xs i M).map D.int).length:Nat):Int)=((M+1:Nat):Int):=by rw[Z7,af.sU]
   have hix:mP (cs.map D.int).length (af.aU xs i t)=some (af.aU xs i t).toNat:=by
    have:=CY (n:=(cs.map D.int).length) (j:=(af.aU xs i t).toNat) (by rw[Z7];lk)
    rwa [ZaI x0]at this
   have es:∀v:Int,(cs.map D.int).set (af.aU xs i t).toNat (.int v)=(cs.set (af.aU xs i t).toNat v).map D.int:=λv=>by rw[List.map_set]
   clear hQ;kspl_open hQ;refine⟨rfl,hQ _ _ (tm ?_)⟩;clear hQ;refine bA ?_;intro cn hQ;exists eL,QT m0 m1;refine⟨hL,hQ _ _ ?_⟩;clear hQ;refine bA ?_;intro cn hQ;exists lL JD,hix,es;have hat:=tn.yX x0 x1 (tn.yT i0 i1 nb bk t k);refine hQ _ _ ⟨_,_,_,rfl,Zal (fH JD),by rw[Zbe];exact hcl,λx h0 h1 h=>?_,λj hj=>?_,k4.loc Gh⟩
   ·rw[QU x0 ⋯ h0]
    split
    ·next e=>rw[e];exact hat
    ·exact hcs x h0 h1 h
   ·obtain⟨y0,y1⟩:=tn.aU i0 i1 j
    rw[QU x0 ⋯ y0];split
    ·next e=>rw[e];exact hat
    ·next e =>
     by_cases YD:j=t
     ·rw[YD]at e;exact absurd rfl e
     ·exact hct j ⋯
  ·rintro δ lM ⟨v4,v5,cs,rfl,JD,hcl,hcs,hct,k4⟩
   rw[D1,Z7,af.sU]at hct;refine⟨_,_,_,cs,rfl,JD,hcl,λj hj r hr2 x hx=>?_,k4⟩;by_cases YE:j=m
   ·subst YE
    rw[hr]at hr2;cases hr2;obtain⟨jj,ZN,rfl⟩:=af.qO.mp hx;exact hct jj ⋯
   ·obtain⟨b0,b1⟩:=(hrb r (Zab hr2)).2 x hx
    exact hcs x b0 b1 (wD j ⋯ r hr2 x hx)
 ·rintro δ st3 ⟨v3,v4,v5,bs,rfl,Ms,wC,wD,k3⟩
  rw[Z7]at wD;have e:bs=af.cy xs k:=by
   refine af.rN (n:=n) wC (by rw[af.Dq];exact hlen) λs s0 s1=>?_;rw[af.qP s0 ⋯];obtain⟨r,hr',hx⟩:=sj.all.2 s (af.ke.mpr ⟨s0,s1⟩);obtain⟨j,hj,ej⟩:=Za8 hr';exact wD j hj r (by rw[Z8 hj,ej]) s hx
  subst e;refine cW ?_;refine bA ?_;intro cn hQ;exists cQ Ms;exact hQ _ _ ⟨rfl,k3⟩
def YF{st:Store}{xs ys:List Int}{n:Nat}{k:Int}(tx:af.Tn n xs)(ty:af.Tn n ys)(hn:n<=100):Wp (Fg [bE xs ys,.int k] st) λd st'=>d=bE xs (af.shr xs ys k)/\Ex [] st st':=by refine d4 ?_;show Ws (IH [some (bE xs ys),some (.int k)] st) _ _ _ _;unfold IH bE;refine cW ?_;have tp:=tx.cy (-k);kspl_open hQ;refine aQ (YB (k:=-k) tx hn) ?_;rintro d st1 ⟨rfl,k1⟩;refine aQ (xT (xs:=af.cy xs (-k)) (ys:=ys) (λx hx=>by rw[ty.length];exact tp.bound hx) (by rw[tp.length];exact hn)) ?_;rintro d st2 ⟨rfl,k2⟩;exact⟨rfl,hQ _ _ ⟨rfl,k1.trans k2⟩⟩
def YG{st:Store}{xs ys:List Int}{n:Nat}(tx:af.Tn n xs)(ty:af.Tn n ys)(hn:n<=100):Wp (Fi [bE xs ys] st) λd st'=>d=bE (af.inv ys) xs/\Ex [] st st':=by refine d4 ?_;show Ws (II [some (bE xs ys)] st) _ _ _ _;unfold II bE;refine cW ?_;kspl_open hQ;refine aQ (Gg ty hn) ?_;rintro d st1 ⟨rfl,k1⟩;exact⟨rfl,hQ _ _ ⟨rfl,k1⟩⟩
def Gn{st:Store}{Q:D->Store->Prop}{xs:List Int}{v:Int}(h:v∈xs):Wp (gK (.tup (xs.map D.int)) [.int v] st) Q↔Q (.int (xs.idxOf v:Int)) st:=by rw[Qb];constructor;rintro⟨ns,j,h1,h2,q⟩;rw[Qd]at h1;cases h1;rw[Qi h]at h2;cases h2;exact q;intro q;exact⟨xs,_,Qd xs,Qi h,q⟩
def QV{st:Store}{xs ys p:List Int}{n:Nat}(tx:af.Tn n xs)(ty:af.Tn n ys)(tp:af.Tn n p)(hn:n<=100):Wp (Az [bE xs ys,.tup (p.map D.int)] st) λd st'=>d=bE (af.anew xs p) (af.anew ys p)/\Ex [] st st':=by
 have Gi:=tp.length;refine d4 ?_;show Ws (HY [some (bE xs ys),some (.tup (p.map D.int))] st) _ _ _ _;unfold HY bE;refine cW ?_;kspl_open hQ;refine tu [.tup (xs.map D.int),.tup (ys.map D.int)] (λd=>match d with|.tup ds=>.tup ((af.anew (ds.map inD) p).map D.int)|_=>.non) ?_ (by simp) ?_ ?_;kspl_open a8;exact a8 _ _ ⟨pP _ _,Ex.refl⟩;intro d hd st1 k1;obtain⟨zs,rfl,tz⟩:∃zs:List Int,d=.tup (zs.map D.int)/\af.Tn n zs:=by
  rcases Zax.mp hd with rfl|hd
  exact⟨xs,rfl,tx⟩;exact⟨ys,Zas.mp hd,ty⟩
 have Ml:=tz.length;refine bA ?_;intro d8 a8;exists Zaq,ZaH,ZaC,ZaD;refine tu (aF 0 n) (λd=>.int (af.app p (af.app zs (p.idxOf (inD d):Int)))) ?_ (by rw[ka];lk) ?_ ?_;kspl_open uL;rw[Z7,Gi];exact⟨by lk,uL _ _ ⟨by rw[Zao];exact pP _ _,Ex.refl⟩⟩;intro d hd st2 k2;rw[qW]at hd;obtain⟨x,hx,rfl⟩:=uF hd;obtain⟨x0,x1⟩:=af.ke.mp hx;have hm:=tp.mem x0 x1;have hi:=tp.idx x0 x1;obtain⟨a0,a1⟩:=tz.app (i:=(p.idxOf x:Int)) ⋯ ⋯;refine bA ?_;intro Ge uL;exists Zaq,ZaH,ZaC,ZaD,HG,Gn hm,pe (xs:=zs) (i:=(p.idxOf x:Int)) ⋯ ⋯,pe (xs:=p) a0 ⋯;exact uL _ _ ⟨rfl,Ex.refl⟩;intro st' k';have e:(aF 0 n).map (λd=>D.int (af.app p (af.app zs (p.idxOf (inD d):Int))))=(af.anew zs p).map D.int:=by
  rw[qW,Ao (f:=λx=>af.app p (af.app zs (p.idxOf x:Int))) λx hx=>rfl]
  congr 1
  unfold af.anew af.aY af.inv;rw[Zat,Zat,Gi];rfl
 rw[e];w_how;refine a8 _ _ ⟨?_,k'.app _⟩;show D.tup _=D.tup ((af.anew ((zs.map D.int).map inD) p).map D.int);rw[Zat]
 congr 3
 exact(Zcf zs).symm;intro st' k';w_how;refine hQ _ _ ⟨?_,k'.app _⟩;have e:∀zs:List Int,(zs.map D.int).map inD=zs:=λzs=>by rw[Zat];exact Zcf zs
 simp only[Zaq,ZaH,e]
def YH{st:Store}{f:Nat}{most:Int}(hf:bP st f)(m0:1<=most)(m8:most<=20):Wp (EL [.ref f,.int most] st) λd st'=>∃(n:Nat) (xs ys:List Int),d=bE xs ys/\nu n xs ys/\1<=n/\(n:Int)<=most/\bP st' f/\Ex [f] st st':=by refine d4 ?_;show Ws (Ih [some (.ref f),some (.int most),none] st) _ _ _ _;unfold Ih;refine aW (bK ?_);kspl_open hQ;refine aQ (wB (n:=most) hf ⋯ ⋯) ?_;rintro d st1 ⟨n1,rfl,ZO,ZP,f1,k1⟩;w_how;obtain⟨n,rfl⟩:∃n:Nat,n1=(n:Int)-1:=⟨(n1+1).toNat,by lk⟩;rw[show(1:Int)+((n:Int)-1)=(n:Int) by lk];refine hQ _ _ (cW ?_);clear hQ;kspl_open hQ;refine aQ (Ys (n:=n) f1 ⋯ ⋯) ?_;rintro d st2 ⟨xs,ys,rfl,fl,f2,k2⟩;refine aQ (Jw (n:=n) f2 ⋯) ?_;rintro d st3 ⟨p,rfl,tp,f3,k3⟩;refine aQ (QV fl.1 fl.2.1 tp ⋯) ?_;rintro d lM ⟨rfl,k4⟩;exact hQ _ _ ⟨n,_,_,rfl,af.mw fl tp ⋯,by lk,by lk,f3.keep k4,(((k1.trans k2).trans k3).trans k4.any)⟩
def QW{xs:List Int}{i:Int}{m:Nat}:gD ((af.row xs i m).map D.int) (-1)=some (.int (af.aU xs i m)):=by
 have hl:((af.row xs i m).map D.int).length=m+1:=by rw[Z7,af.sU]
 unfold gD mP;rw[if_neg ∅,hl,if_pos ⋯,ZbD,show((-1:Int)+((m+1:Nat):Int)).toNat=m by lk];unfold af.row;rw[Zat,Zae,Zbz ⋯];rfl
def YI{st:Store}{xs:List Int}{n:Nat}{s k:Int}(tn:af.Tn n xs)(hn:n<=100)(s0:0<=s)(s1:s<(n:Int)):Wp (F7 [.tup (xs.map D.int),.int s,.int k] st) λd st'=>d=.int (af.pw xs k s)/\Ex [] st st':=by
 have hlen:=tn.length;refine d4 ?_;show Ws (Jq [some (.tup (xs.map D.int)),some (.int s),some (.int k),none] st) _ _ _ _;unfold Jq;refine aW (zU (N:=λδ st1=>∃(zs:List Int) (j:Nat),δ=[some (.tup (zs.map D.int)),some (.int s),some (.int (j:Int)),none]/\af.Tn n zs/\af.aU zs s j=af.pw xs k s/\Ex [] st st1) (kq ?_) ?_);kspl_open hQ;refine hQ _ _ ⟨λh=>?_,λh=>mj ⟨xs,k.toNat,?_,tn,?_,Ex.refl⟩⟩;have h:=of_decide_eq_true h;clear hQ;refine aW (bK ?_);kspl_open hQ;refine tu (aF 0 n) (λd=>.int (xs.idxOf (inD d):Int)) ?_ (by rw[ka];lk) ?_ ?_;kspl_open a8;rw[Z7,hlen];exact⟨by lk,a8 _ _ ⟨by rw[Zao];exact pP _ _,Ex.refl⟩⟩;intro d hd qA k7;rw[qW]at hd;obtain⟨x,hx,rfl⟩:=uF hd;obtain⟨x0,x1⟩:=af.ke.mp hx;refine bA ?_;intro d8 a8;exists Zaq,ZaH,ZaC,ZaD,HG,Gn (tn.mem x0 x1);exact a8 _ _ ⟨rfl,Ex.refl⟩;intro qA k7;have e:(aF 0 n).map (λd=>D.int (xs.idxOf (inD d):Int))=(af.inv xs).map D.int:=by
  rw[qW,Ao (f:=λx=>(xs.idxOf x:Int)) λx hx=>rfl];unfold af.inv;rw[hlen]
 rw[e];w_how;refine hQ _ _ (bK ?_);clear hQ;kspl_open hQ;refine hQ _ _ ⟨af.inv xs,(-k).toNat,?_,tn.aC,?_,k7.app _⟩;rw[show(0:Int)-k=(((-k).toNat:Nat):Int) by lk];rfl;unfold af.pw;rw[if_neg ⋯];have h:=of_decide_eq_false h;rw[ZaI ⋯];have h:=of_decide_eq_false h;unfold af.pw;rw[if_pos ⋯];rintro δ st1 ⟨zs,j,rfl,tz,ej,k1⟩;have Ml:=tz.length;refine aW (bK ?_);kspl_open hQ;refine⟨rfl,hQ _ _ (aW (uB (λm δ st2=>∃k:Nat,m=n-(k+1)/\δ=[some (.tup (zs.map D.int)),some (.int s),some (.int (j:Int)),some (.ref st1.length)]/\st2[st1.length]?=some (.lst ((af.row zs s k).map D.int))/\af.NB zs s k/\Ex [] st1 st2) (n-1) (ZaW (show n-1<=100 by lk) ∅) ⟨0,rfl,rfl,kg,λj h1 h2=>by lk,Ex.cg _⟩ ?_))⟩;clear hQ;rintro m δ st2 ⟨k',rfl,rfl,hL,nb,k2⟩;have hrl:=tz.iL s0 s1 nb;obtain⟨y0,y1⟩:=tz.aU s0 s1 k';refine bA ?_;intro cn hQ;exists cQ hL,QW,pe (xs:=zs) y0 ⋯;refine hQ _ _ ⟨λhb=>?_,λhb=>?_⟩;have hb:af.aU zs s (k' + 1)≠s:=by show af.app zs (af.aU zs s k')≠s;simpa using hb
 have xU:af.NB zs s (k' + 1):=λj h1 h2=>by
  by_cases hj:j<=k';exact nb j h1 hj
  have:j=k' + 1:=by lk
  rw[this];exact hb
 have hle:=tz.iL s0 s1 xU;refine r9 ?_;refine bA ?_;intro d8 a8;exists cQ hL,QW,pe (xs:=zs) y0 ⋯,lL hL;refine⟨qV (by rw[cQ hL];rfl),jg (by rw[Z7,af.sU];lk),a8 _ _ ⟨n-(k' + 1+1),by lk,k' + 1,rfl,rfl,?_,xU,k2.loc (Zaa _)⟩⟩;rw[Zal (fH hL),af.K3,Zau];rfl;have hb:af.aU zs s (k' + 1)=s:=by show af.app zs (af.aU zs s k')=s;simpa using hb
 refine cW ?_;have hpos:(0:Int)<((k' + 1:Nat):Int):=by lk
 have eL:((((af.row zs s k').map D.int).length:Nat):Int)=((k' + 1:Nat):Int):=by rw[Z7,af.sU]
 refine bA ?_;intro d8 a8;exists cQ hL,eL,QT (Zbf (j:Int) (Int.ne_of_gt hpos)) (Zbr (j:Int) hpos);refine⟨hpos,a8 _ _ ⟨?_,k1.trans k2⟩⟩;rw[<- ej,show((j:Int) % ((k' + 1:Nat):Int)).toNat=j % (k' + 1) by lk,af.OR hb]
def YJ{st:Store}{xs ys:List Int}{n:Nat}{k:Int}(tx:af.Tn n xs)(ty:af.Tn n ys)(hn:n<=100):Wp (AI [bE xs ys,.tup [.str "s",.int k]] st) λd st'=>d=bE xs (af.shr xs ys k)/\Ex [] st st':=by
 have hlx:=tx.length;have uK:=ty.length;refine d4 ?_;show Ws (BR [some (bE xs ys),some (.tup [.str "s",.int k]),none,none,none] st) _ _ _ _;unfold BR bE;refine aW (tm ?_);kspl_open hQ;refine hQ _ _ ?_;clear hQ;kspl_open hQ;refine⟨rfl,hQ _ _ (aW (kq ?_))⟩;clear hQ;kspl_open hQ;refine hQ _ _ ⟨λ_=>cW ?_,λh=>absurd h (by simp)⟩;clear hQ;kspl_open hQ;refine tu (aF 0 n) (λd=>.int (af.app ys (af.pw xs (-k) (inD d)))) ?_ (by rw[ka];lk) ?_ ?_;kspl_open a8;rw[Z7,uK];exact⟨by lk,a8 _ _ ⟨by rw[Zao];exact pP _ _,Ex.refl⟩⟩;intro d hd qA k7;rw[qW]at hd;obtain⟨x,hx,rfl⟩:=uF hd;obtain⟨x0,x1⟩:=af.ke.mp hx;obtain⟨p0,p1⟩:=tx.pw x0 x1 (-k);refine bA ?_;intro d8 a8;exists Zaq,ZaH,ZaC,ZaD;refine aQ (YI (k:=0-k) tx hn x0 x1) ?_;rintro d kc ⟨rfl,k8⟩;rw[show(0:Int)-k=-k by lk];exists pe (xs:=ys) p0 ⋯;exact a8 _ _ ⟨rfl,k8⟩;intro qA k7;have e:(aF 0 n).map (λd=>D.int (af.app ys (af.pw xs (-k) (inD d))))=(af.shr xs ys k).map D.int:=by
  rw[qW,Ao (f:=λx=>af.app ys (af.pw xs (-k) x)) λx hx=>rfl];unfold af.shr af.aY af.cy;rw[hlx,Zat,Zat,Zat];rfl
 rw[e];w_how;exact⟨rfl,hQ _ _ ⟨rfl,k7.app _⟩⟩
abbrev pZ(xs ys:List Int):Nat->List Int×List Int
 |0=>(xs,ys)
 |j+1=>(af.inv (pZ xs ys j).2,(pZ xs ys j).1)
def Gp{n:Nat}{xs ys:List Int}(tx:af.Tn n xs)(ty:af.Tn n ys):∀j,af.Tn n (pZ xs ys j).1/\af.Tn n (pZ xs ys j).2
 |0=>⟨tx,ty⟩
 |j+1=>⟨(Gp tx ty j).2.aC,(Gp tx ty j).1⟩
def YK{st:Store}{xs ys:List Int}{n j:Nat}(tx:af.Tn n xs)(ty:af.Tn n ys)(hn:n<=100)(hj:j<4):Wp (AI [bE xs ys,.tup [.str "t",.int (j:Int)]] st) λd st'=>d=bE (pZ xs ys j).1 (pZ xs ys j).2/\Ex [] st st':=by
 refine d4 ?_;show Ws (BR [some (bE xs ys),some (.tup [.str "t",.int (j:Int)]),none,none,none] st) _ _ _ _;unfold BR bE;refine aW (tm ?_);kspl_open hQ;refine hQ _ _ ?_;clear hQ;kspl_open hQ;refine⟨rfl,hQ _ _ (aW (kq ?_))⟩;clear hQ;kspl_open hQ;refine hQ _ _ ⟨λh=>absurd h ∅,λ_=>mj (aW (pN (aF 0 j) (λi δ st2=>∃v4:Option D,δ=[some (.tup [.tup (xs.map D.int),.tup (ys.map D.int)]),some (.tup [.str "t",.int (j:Int)]),some (.tup ((pZ xs ys i).1.map D.int)),some (.tup ((pZ xs ys i).2.map D.int)),v4]/\Ex [] st st2) ?_ (by rw[ka];lk) ?_ ?_))⟩;clear hQ;kspl_open hQ;rw[show(j:Int) % 4=(j:Int) by lk];exact⟨by lk,by lk,hQ _ _ ⟨by rw[Zao],none,rfl,Ex.refl⟩⟩;rintro i d δ st2 hd ⟨v4,rfl,k2⟩;obtain⟨ta,tb⟩:=Gp tx ty i;show Wp _ _;have hlb:=tb.length;generalize hzs:(pZ xs ys i).2=zs at tb hlb ⊢;clear hQ;kspl_open hQ;refine hQ _ _ (tm ?_);clear hQ;kspl_open hQ;refine tu (aF 0 n) (λd=>.int (zs.idxOf (inD d):Int)) ?_ (by rw[ka];lk) ?_ ?_;kspl_open a8;rw[Z7,hlb];exact⟨by lk,a8 _ _ ⟨by rw[Zao];exact pP _ _,Ex.refl⟩⟩;intro d hd qA k7;rw[qW]at hd;obtain⟨x,hx,rfl⟩:=uF hd;obtain⟨x0,x1⟩:=af.ke.mp hx;refine bA ?_;intro d8 a8;exists Zaq,ZaH,ZaC,ZaD,HG,Gn (tb.mem x0 x1);exact a8 _ _ ⟨rfl,Ex.refl⟩;intro qA k7;have e:(aF 0 n).map (λd=>D.int (zs.idxOf (inD d):Int))=(af.inv zs).map D.int:=by
  rw[qW,Ao (f:=λx=>(zs.idxOf x:Int)) λx hx=>rfl];unfold af.inv;rw[hlb]
 rw[e];w_how;refine⟨rfl,hQ _ _ ?_⟩;clear hQ;kspl_open hQ;refine⟨rfl,hQ _ _ ⟨some d,?_,(k2.trans k7).app _⟩⟩;rw[show(pZ xs ys (i+1)).1=af.inv (pZ xs ys i).2 from rfl,show(pZ xs ys (i+1)).2=(pZ xs ys i).1 from rfl,hzs];rintro δ st2 ⟨v4,rfl,k2⟩;rw[ka];refine cW ?_;clear hQ;kspl_open hQ;exact⟨rfl,hQ _ _ ⟨rfl,k2⟩⟩
abbrev Gq(s:gF):Prop:=s.1=false->1<=s.2/\s.2<=3
abbrev j7(p:List Int×List Int)(s:gF):List Int×List Int:=if s.1=true then(p.1,af.shr p.1 p.2 s.2)else pZ p.1 p.2 s.2.toNat
abbrev mO(p:List Int×List Int)(w:List gF):List Int×List Int:=w.foldl j7 p
def YL{n:Nat}{p:List Int×List Int}(h:af.Tn n p.1/\af.Tn n p.2)(s:gF):af.Tn n (j7 p s).1/\af.Tn n (j7 p s).2:=by unfold j7;split;exact⟨h.1,h.1.shr h.2 _⟩;exact Gp h.1 h.2 _
def Mu{n:Nat}:∀{p:List Int×List Int},af.Tn n p.1/\af.Tn n p.2->∀w:List gF,af.Tn n (mO p w).1/\af.Tn n (mO p w).2
 |_,h,[]=>h
 |_,h,s :: w=>Mu (YL h s) w
def YM(p:List Int×List Int)(v w:List gF):mO p (v ++ w)=mO (mO p v) w:=by unfold mO;rw[Zbw]
def QX(p:List Int×List Int)(w:List gF)(s:gF):mO p (w ++ [s])=j7 (mO p w) s:=by rw[YM];rfl
abbrev qw(p:List Int×List Int):D:=bE p.1 p.2
def YN{st:Store}{p:List Int×List Int}{n:Nat}{s:gF}(h:af.Tn n p.1/\af.Tn n p.2)(hn:n<=100)(hs:Gq s):Wp (AI [qw p,b5 s] st) λd st'=>d=qw (j7 p s)/\Ex [] st st':=by
 obtain⟨b,k⟩:=s;cases b with
 |true=>exact YJ (k:=k) h.1 h.2 hn
 |false =>
  obtain⟨k1,k3⟩:=hs rfl;obtain⟨j,rfl⟩:∃j:Nat,k=(j:Int):=⟨k.toNat,by simp only at k1;lk⟩;have:=YK (st:=st) (j:=j) h.1 h.2 hn (by simp only at k3;lk);refine aQ this ?_;rintro d st1 ⟨rfl,k1⟩;refine⟨?_,k1⟩;unfold qw j7;rw[if_neg (show ¬(false=true)from Zaj),Zao]
def YO{st:Store}{p:List Int×List Int}{n:Nat}{w:List gF}(h:af.Tn n p.1/\af.Tn n p.2)(hn:n<=100)(hw:∀s∈w,Gq s)(hl:w.length<=1000):Wp (BU [qw p,.tup (w.map b5)] st) λd st'=>d=qw (mO p w)/\Ex [] st st':=by refine d4 ?_;show Ws (Js [some (qw p),some (.tup (w.map b5)),none] st) _ _ _ _;unfold Js;refine aW (pN (w.map b5) (λi δ st2=>∃v2:Option D,δ=[some (qw (mO p (w.take i))),some (.tup (w.map b5)),v2]/\Ex [] st st2) ?_ (by rw[Z7];lk) ?_ ?_);kspl_open hQ;exact hQ _ _ ⟨rfl,none,rfl,Ex.refl⟩;rintro i d δ st2 hd ⟨v2,rfl,k2⟩;rw[Zae]at hd;obtain⟨s,hs,rfl⟩:=Zaz.mp hd;obtain⟨hil,es⟩:=Z9.mp hs;kspl_open hQ;refine hQ _ _ (bK ?_);clear hQ;kspl_open hQ;refine aQ (YN (Mu h _) hn (hw s (Zab hs))) ?_;rintro d st3 ⟨rfl,k3⟩;refine hQ _ _ ⟨some (b5 s),?_,k2.trans k3⟩;rw[ZaJ hil,QX,es];rfl;rintro δ st2 ⟨v2,rfl,k2⟩;rw[Z7,Za6];refine cW ?_;kspl_open hQ;exact hQ _ _ ⟨rfl,k2⟩
def YQ{st:Store}{p:List Int×List Int}{n:Nat}{s:gF}(h:af.Tn n p.1/\af.Tn n p.2)(hn:n<=100)(hs:Gq s):Wp (Fm [qw p,b5 s] st) λd st'=>d=qw (j7 p s)/\Ex [] st st':=by
 obtain⟨b,k⟩:=s;refine d4 ?_;show Ws (IJ [some (qw p),some (b5 (b,k)),none,none] st) _ _ _ _;unfold IJ b5;cases b with
 |true =>
  refine aW (kq ?_);kspl_open hQ;refine hQ _ _ ⟨λ_=>cW ?_,λz=>absurd z ∅⟩;clear hQ;kspl_open hQ;refine aQ (YF (k:=k) h.1 h.2 hn) ?_;rintro d st1 ⟨rfl,k1⟩;exact hQ _ _ ⟨rfl,k1⟩
 |false =>
  obtain⟨k1,k3⟩:=hs rfl;obtain⟨j,rfl⟩:∃j:Nat,k=(j:Int):=⟨k.toNat,by simp only at k1;lk⟩;refine aW (kq ?_);kspl_open hQ;refine hQ _ _ ⟨λz=>absurd z ∅,λ_=>mj (aW (bK ?_))⟩;clear hQ;kspl_open hQ;refine hQ _ _ (aW (pN (aF 0 j) (λi δ st2=>∃v3:Option D,δ=[some (qw p),some (b5 (false,(j:Int))),some (bE (pZ p.1 p.2 i).1 (pZ p.1 p.2 i).2),v3]/\Ex [] st st2) ?_ (by rw[ka];simp only at k3;lk) ?_ ?_));clear hQ;kspl_open hQ;exact⟨by simp only at k3;lk,hQ _ _ ⟨by rw[Zao],none,rfl,Ex.refl⟩⟩;rintro i d δ st2 hd ⟨v3,rfl,k2⟩;obtain⟨ta,tb⟩:=Gp h.1 h.2 i;clear hQ;kspl_open hQ;refine hQ _ _ (bK ?_);clear hQ;kspl_open hQ;refine aQ (YG ta tb hn) ?_;rintro d' st3 ⟨rfl,k3⟩;exact hQ _ _ ⟨some d,rfl,k2.trans k3⟩;rintro δ st2 ⟨v3,rfl,k2⟩;rw[ka];refine cW ?_;clear hQ;kspl_open hQ;refine hQ _ _ ⟨?_,k2⟩;unfold qw j7;rw[if_neg (show ¬(false=true)from Zaj),Zao]
def YR{st:Store}{p:List Int×List Int}{n:Nat}{w:List gF}(h:af.Tn n p.1/\af.Tn n p.2)(hn:n<=100)(hw:∀s∈w,Gq s)(hl:w.length<=1000):Wp (Fp [qw p,.tup (w.map b5)] st) λd st'=>d=qw (mO p w)/\Ex [] st st':=by refine d4 ?_;show Ws (IL [some (qw p),some (.tup (w.map b5)),none,none] st) _ _ _ _;unfold IL;refine aW (bK ?_);kspl_open hQ;refine hQ _ _ (aW (pN (w.map b5) (λi δ st2=>∃v2:Option D,δ=[some (qw p),some (.tup (w.map b5)),some (qw (mO p (w.take i))),v2]/\Ex [] st st2) ?_ (by rw[Z7];lk) ?_ ?_));clear hQ;kspl_open hQ;exact hQ _ _ ⟨rfl,none,rfl,Ex.refl⟩;rintro i d δ st2 hd ⟨v2,rfl,k2⟩;rw[Zae]at hd;obtain⟨s,hs,rfl⟩:=Zaz.mp hd;obtain⟨hil,es⟩:=Z9.mp hs;clear hQ;kspl_open hQ;refine hQ _ _ (bK ?_);clear hQ;kspl_open hQ;refine aQ (YQ (Mu h _) hn (hw s (Zab hs))) ?_;rintro d st3 ⟨rfl,k3⟩;refine hQ _ _ ⟨some (b5 s),?_,k2.trans k3⟩;rw[ZaJ hil,QX,es];rfl;rintro δ st2 ⟨v2,rfl,k2⟩;rw[Z7,Za6];refine cW ?_;clear hQ;kspl_open hQ;exact hQ _ _ ⟨rfl,k2⟩
abbrev lR(T:af.T4):D:=.tup [.int T.a,.int T.b,.int T.c,.int T.d]
abbrev Mv(A B:af.T4):Prop:=∀x∈[A.a,A.b,A.c,A.d],∀y∈[B.a,B.b,B.c,B.d],dc x y=true
def xV{A B:af.T4}(h:A.le 18446744073709551615):Mv A B:=λx hx y _=>by
 refine W3 ?_;obtain⟨h1,h2,h3,h4⟩:=h;simp only[Zax,List.not_mem_nil,or_false]at hx;rcases hx with rfl|rfl|rfl|rfl<;>lk
def xW{A B:af.T4}{M k:Nat}(hk:k<=60000000)(hM:M<P2 k)(h:A.le M)(h':B.le M):Mv A B:=λx hx y hy=>by
 obtain⟨h1,h2,h3,h4⟩:=h;obtain⟨g1,g2,g3,g4⟩:=h';simp only[Zax,List.not_mem_nil,or_false]at hx hy;refine Md hk ?_ ?_;rcases hx with rfl|rfl|rfl|rfl<;>lk
 rcases hy with rfl|rfl|rfl|rfl<;>lk
def JE{st:Store}{A B:af.T4}(h:Mv A B):Wp (wy [lR A,lR B] st) λd st'=>d=lR (A.mul B)/\Ex [] st st':=by refine d4 ?_;show Ws (IV [some (lR A),some (lR B)] st) _ _ _ _;unfold IV lR;refine cW ?_;have hh:∀x y:Int,x∈[A.a,A.b,A.c,A.d]->y∈[B.a,B.b,B.c,B.d]->dc x y=true:=λx y hx hy=>h x hx y hy;have a1:∀y∈[B.a,B.b,B.c,B.d],dc A.a y=true:=h _ (by simp);have a2:∀y∈[B.a,B.b,B.c,B.d],dc A.b y=true:=h _ (by simp);have a3:∀y∈[B.a,B.b,B.c,B.d],dc A.c y=true:=h _ (by simp);have a4:∀y∈[B.a,B.b,B.c,B.d],dc A.d y=true:=h _ (by simp);refine bA ?_;intro cn hQ;exists Mc,at2,Ql;exact⟨a1 _ (by simp),a2 _ (by simp),a1 _ (by simp),a2 _ (by simp),a3 _ (by simp),a4 _ (by simp),a3 _ (by simp),a4 _ (by simp),rfl,hQ _ _ ⟨rfl,Ex.refl⟩⟩
def QY{st:Store}{s:gF}(h:af.cJ s):Wp (Fv [b5 s] st) λd st'=>d=lR (af.lD s)/\Ex [] st st':=by
 obtain⟨b,k⟩:=s;refine d4 ?_;show Ws (IW [some (b5 (b,k)),none,none] st) _ _ _ _;unfold IW b5;cases b with
 |true =>
  refine aW (kq ?_);kspl_open hQ;refine hQ _ _ ⟨λ_=>cW ?_,λh=>absurd h ∅⟩;clear hQ;kspl_open hQ;exact⟨rfl,hQ _ _ ⟨rfl,Ex.refl⟩⟩
 |false =>
  obtain⟨k1,k3⟩:=h.1 rfl;simp only at k1 k3;obtain⟨j,rfl⟩:∃j:Nat,k=(j:Int):=⟨k.toNat,by lk⟩;refine aW (kq ?_);kspl_open hQ;refine hQ _ _ ⟨λh=>absurd h ∅,λ_=>mj (aW (bK ?_))⟩;clear hQ;kspl_open hQ;refine hQ _ _ ?_;clear hQ;show Ws _ _ _ _ _;refine aW (pN (aF 0 j) (λi δ st2=>∃v:Option D,δ=[some (.tup [.str "t",.int (j:Int)]),some (lR (af.qp i)),v]/\Ex [] st st2) ?_ (by rw[ka];lk) ?_ ?_);kspl_open hQ;exact⟨by lk,hQ _ _ ⟨by rw[Zao],none,rfl,Ex.refl⟩⟩;rintro i d δ st2 hd ⟨v,rfl,k2⟩;kspl_open hQ;refine hQ _ _ (bK ?_);clear hQ;kspl_open hQ;refine aQ (JE (A:=af.T4.qt) (B:=af.qp i) (xV ⟨by decide,by decide,by decide,by decide⟩)) ?_;rintro d st3 ⟨rfl,k3⟩;exact hQ _ _ ⟨_,rfl,k2.trans k3⟩;rintro δ st2 ⟨v,rfl,k2⟩;rw[ka];refine cW ?_;kspl_open hQ;refine hQ _ _ ⟨?_,k2⟩;show lR (af.qp j)=lR (af.qp (j:Int).toNat);rw[Zao]
def QZ{s:gF}{B:Nat}(h:af.cJ s)(hs:s.2.natAbs<=B):(af.lD s).le (B+1):=by
 have:=af.xv (T:=af.T4.one) (s:=s) (M:=1) (B:=B) ⟨by decide,by decide,by decide,by decide⟩ h hs
 rwa [af.T4.mul_one,Zb5]at this
def Gr{T:af.T4}{M N:Nat}(h:T.le M)(hn:M<=N):T.le N:=⟨Zap h.1 hn,Zap h.2.1 hn,Zap h.2.2.1 hn,Zap h.2.2.2 hn⟩
def Mw{st:Store}{w:List gF}(hw:∀s∈w,af.cJ s/\s.2.natAbs<=4611686018427387904)(hl:w.length<=1000):Wp (tw [.tup (w.map b5)] st) λd st'=>d=lR (af.av w)/\Ex [] st st':=by refine d4 ?_;show Ws (BP [some (.tup (w.map b5)),none,none] st) _ _ _ _;unfold BP;refine aW (bK ?_);kspl_open hQ;refine hQ _ _ ?_;clear hQ;show Ws _ _ _ _ _;refine aW (pN (w.map b5) (λi δ st2=>∃v:Option D,δ=[some (.tup (w.map b5)),some (lR (af.av (w.take i))),v]/\Ex [] st st2) ?_ (by rw[Z7];lk) ?_ ?_);kspl_open hQ;exact hQ _ _ ⟨rfl,none,rfl,Ex.refl⟩;rintro i d δ st2 hd ⟨v2,rfl,k2⟩;rw[Zae]at hd;obtain⟨s,hs,rfl⟩:=Zaz.mp hd;obtain⟨hil,es⟩:=Z9.mp hs;have hsw:=hw s (Zab hs);kspl_open hQ;refine hQ _ _ (bK ?_);clear hQ;kspl_open hQ;refine aQ (QY hsw.1) ?_;rintro d st3 ⟨rfl,k3⟩;refine aQ (JE (xV (Gr (QZ hsw.1 hsw.2) ∅))) ?_;rintro d lM ⟨rfl,k4⟩;refine hQ _ _ ⟨some (b5 s),?_,(k2.trans k3).trans k4⟩;rw[ZaJ hil,af.uW,es];rfl;rintro δ st2 ⟨v2,rfl,k2⟩;rw[Z7,Za6];refine cW ?_;kspl_open hQ;exact hQ _ _ ⟨rfl,k2⟩
def Mx{w:List gF}{b n:Nat}(hw:∀s∈w,af.cJ s/\s.2.natAbs+1<=P2 b)(hn:w.length<=n):(af.av w).le (P2 (b*n)):=by
 have:=af.UT (B:=P2 b-1) (n:=n) (w:=w) (λs hs=>⟨(hw s hs).1,by have:=(hw s hs).2;lk⟩) hn
 rwa [show P2 b-1+1=P2 b by have:=Bj b;lk,yQ]at this
def Q0{st:Store}{w:List gF}{b:Nat}(hb:b<=50000)(hw:∀s∈w,af.cJ s/\s.2.natAbs+1<=P2 b)(hl:w.length<=1000):Wp (tw [.tup (w.map b5)] st) λd st'=>d=lR (af.av w)/\Ex [] st st':=by refine d4 ?_;show Ws (BP [some (.tup (w.map b5)),none,none] st) _ _ _ _;unfold BP;refine aW (bK ?_);kspl_open hQ;refine hQ _ _ ?_;clear hQ;show Ws _ _ _ _ _;refine aW (pN (w.map b5) (λi δ st2=>∃v:Option D,δ=[some (.tup (w.map b5)),some (lR (af.av (w.take i))),v]/\Ex [] st st2) ?_ (by rw[Z7];lk) ?_ ?_);kspl_open hQ;exact hQ _ _ ⟨rfl,none,rfl,Ex.refl⟩;rintro i d δ st2 hd ⟨v2,rfl,k2⟩;rw[Zae]at hd;obtain⟨s,hs,rfl⟩:=Zaz.mp hd;obtain⟨hil,es⟩:=Z9.mp hs;have hsw:=hw s (Zab hs);kspl_open hQ;refine hQ _ _ (bK ?_);clear hQ;kspl_open hQ;refine aQ (QY hsw.1) ?_;rintro d st3 ⟨rfl,k3⟩;refine aQ (JE (xW (M:=P2 (b*1000)) (k:=b*1000+1) ⋯ (by rw[vG];have:=Bj (b*1000);lk) (Gr (QZ (B:=P2 b-1) hsw.1 ⋯) (by have:=Bj b;have:=Di (show b<=b*1000 by lk);lk)) (Mx (λs hs=>hw s (List.mem_of_mem_take hs)) (by rw[Za0];lk)))) ?_;rintro d lM ⟨rfl,k4⟩;refine hQ _ _ ⟨some (b5 s),?_,(k2.trans k3).trans k4⟩;rw[ZaJ hil,af.uW,es];rfl;rintro δ st2 ⟨v2,rfl,k2⟩;rw[Z7,Za6];refine cW ?_;kspl_open hQ;exact hQ _ _ ⟨rfl,k2⟩
def YS{st:Store}{a b:gF}:Wp (FC [b5 a,b5 b] st) λd st'=>d=.tup ((af.cq a b).map b5)/\Ex [] st st':=by
 obtain⟨ab,ak⟩:=a;obtain⟨bb,bk⟩:=b;refine d4 ?_;show Ws (Ja [some (.tup [.str (if ab then "s" else "t"),.int ak]),some (.tup [.str (if bb then "s" else "t"),.int bk]),none] st) _ _ _ _;unfold Ja;have hj:af.cq (ab,ak) (bb,bk)=if af.jl (ab,ak) (bb,bk)=0 then[]else[(ab,af.jl (ab,ak) (bb,bk))]:=rfl
 refine aW (bK ?_);kspl_open hQ;refine hQ _ _ ?_;clear hQ;show Ws _ _ _ _ _;refine aW (zU (N:=λδ st1=>st1=st/\δ=[some (.tup [.str (if ab then "s" else "t"),.int ak]),some (.tup [.str (if bb then "s" else "t"),.int bk]),some (.int (af.jl (ab,ak) (bb,bk)))]) (kq ?_) ?_);kspl_open hQ;refine hQ _ _ ⟨λh=>bK ?_,λh=>mj ⟨rfl,?_⟩⟩;cases ab with
 |true=>exact absurd h ∅
 |false =>
  clear hQ;kspl_open hQ;exact⟨by decide,hQ _ _ ⟨rfl,rfl⟩⟩
 cases ab with
 |true=>rfl
 |false=>exact absurd h ∅
 rintro δ st1 ⟨rfl,rfl⟩;refine aW (kq ?_);kspl_open hQ;refine hQ _ _ ⟨λh=>cW ?_,λh=>mj (cW ?_)⟩;have h:=of_decide_eq_true h;clear hQ;kspl_open hQ;refine⟨rfl,hQ _ _ ⟨?_,Ex.refl⟩⟩;rw[hj,if_pos h];rfl;have h:=of_decide_eq_false h;clear hQ;kspl_open hQ;refine⟨rfl,rfl,hQ _ _ ⟨?_,Ex.refl⟩⟩;rw[hj,if_neg h];rfl
def Q5{xs:List D}{x:D}:gD (xs ++ [x]) (-1)=some x:=by
 unfold gD mP;rw[Zaf,if_neg ∅,if_pos (by simp;lk)];simp only[ZbD];have e:((-1:Int)+((xs.length+[x].length:Nat):Int)).toNat=xs.length:=by simp only[ZaO];lk
 rw[e];simp
def YT{xs:List D}{x:D}:cutD (xs ++ [x]) none (some (-1))=xs:=by
 have e1:HT.cw (xs ++ [x]).length 0 none=0:=rfl;have e2:HT.cw (xs ++ [x]).length (xs ++ [x]).length (some (-1))=xs.length:=by
  unfold HT.cw;simp only;rw[if_pos ∅,Zaf,ZaO];lk
 unfold cutD;rw[e1,e2,List.drop_zero,Nat.sub_zero];simp
def YU(a b:Bool):(((if a=true then("s" : Str)else "t")=(if b=true then("s" : Str)else "t")))↔a=b:=by cases a<;>cases b<;>decide
def YV{st:Store}{w:List gF}(hl:w.length<=1000):Wp (FE [.tup (w.map b5)] st) λd st'=>d=.tup ((af.pE w).reverse.map b5)/\Ex [] st st':=by
 refine d4 ?_;show Ws (Jb [some (.tup (w.map b5)),none,none] st) _ _ _ _;unfold Jb;refine aW (bK ?_);kspl_open hQ;refine⟨rfl,hQ _ _ ?_⟩;clear hQ;show Ws _ _ _ _ _;refine aW (pN (w.map b5) (λi δ st2=>∃v:Option D,δ=[some (.tup (w.map b5)),some (.tup ((af.pE (w.take i)).reverse.map b5)),v]/\Ex [] st st2) ?_ (by rw[Z7];lk) ?_ ?_);kspl_open hQ;exact hQ _ _ ⟨rfl,none,rfl,Ex.refl⟩;rintro i d δ st2 hd ⟨v2,rfl,k2⟩;rw[Zae]at hd;obtain⟨s,hs,rfl⟩:=Zaz.mp hd;obtain⟨hil,es⟩:=Z9.mp hs;have ep:af.pE (w.take (i+1))=af.cz (af.pE (w.take i)) s:=by rw[ZaJ hil,af.UH,es];rfl
 have hpl:(af.pE (w.take i)).length<=1000:=by have:=af.O0 (w.take i);rw[Za0]at this;lk
 rw[ep];clear ep;generalize af.pE (w.take i)=l at hpl ⊢;kspl_open hQ;refine hQ _ _ (kq ?_);clear hQ;kspl_open hQ;cases l with
 |nil =>
  refine hQ _ _ ⟨λh=>absurd h ∅,λ_=>bK ?_⟩;clear hQ;kspl_open hQ;exact⟨rfl,rfl,hQ _ _ ⟨some (b5 s),rfl,k2⟩⟩
 |cons t r =>
  have eg:(t :: r).reverse.map b5=r.reverse.map b5 ++ [b5 t]:=by simp
  rw[eg];have el:decide ((0:Int)<((r.reverse.map b5 ++ [b5 t]).length:Nat))=true:=decide_eq_true (by simp);have es1:b5 t=.tup [.str (if t.1 then "s" else "t"),.int t.2]:=rfl;have KL:b5 s=.tup [.str (if s.1 then "s" else "t"),.int s.2]:=rfl;have elt:(if t.1=true then("s" : Str)else "t")=(if s.1=true then("s" : Str)else "t")↔t.1=s.1:=YU _ _;exists Q5,es1,KL;rw[if_pos (by simp)];refine hQ _ _ ⟨λh=>bK ?_,λh=>bK ?_⟩;have h:=elt.mp (of_decide_eq_true h);clear hQ;kspl_open hQ;rw[eg,YT];exists Q5;refine aQ YS ?_;rintro d st3 ⟨rfl,k3⟩;w_how;refine⟨jg ?_,hQ _ _ ⟨some (b5 s),?_,k2.trans k3⟩⟩
  have:(af.cq t s).length<=1:=by unfold af.cq;split<;>simp
  simp only[Z7,Za9];simp only[ZaG]at hpl;lk;have ej:(af.cq t s).reverse=af.cq t s:=by unfold af.cq;split<;>rfl
  rw[af.vK,if_pos h,List.reverse_append,Zau,ej];rfl;have h:=λe=>of_decide_eq_false h (elt.mpr e);clear hQ;kspl_open hQ;refine⟨rfl,jg ?_,hQ _ _ ⟨some (b5 s),?_,k2⟩⟩;simp only[Z7,Za9,ZaO];lk;have e2:(s :: t :: r).reverse.map b5=(t :: r).reverse.map b5 ++ [b5 s]:=by simp
  rw[af.vK,if_neg h,e2];rfl
 rintro δ st2 ⟨v2,rfl,k2⟩;rw[Z7,Za6];refine cW ?_;kspl_open hQ;exact hQ _ _ ⟨rfl,k2⟩
def YW{st:Store}{v w:List gF}(hl:v.length+w.length<=1000):Wp (FH [.tup (v.map b5),.tup (w.map b5)] st) λd st'=>d=.tup ((af.pE (v ++ w)).reverse.map b5)/\Ex [] st st':=by refine d4 ?_;show Ws (Jc [some (.tup (v.map b5)),some (.tup (w.map b5))] st) _ _ _ _;unfold Jc;refine cW ?_;kspl_open hQ;refine⟨jg (by simp only[Z7];lk),?_⟩;rw[<- Zau];refine aQ (YV (by rw[Zaf];exact hl)) ?_;rintro d st3 ⟨rfl,k3⟩;exact hQ _ _ ⟨rfl,k3⟩
def YX{st:Store}{s:gF}:Wp (FO [b5 s] st) λd st'=>d=b5 (af.nF s)/\Ex [] st st':=by
 obtain⟨b,k⟩:=s;refine d4 ?_;show Ws (Jf [some (.tup [.str (if b then "s" else "t"),.int k])] st) _ _ _ _;unfold Jf;refine aW (kq ?_);cases b with
 |true =>
  kspl_open hQ;refine hQ _ _ ⟨λ_=>cW ?_,λh=>absurd h ∅⟩;clear hQ;kspl_open hQ;exact⟨rfl,hQ _ _ ⟨rfl,Ex.refl⟩⟩
 |false =>
  kspl_open hQ;refine hQ _ _ ⟨λh=>absurd h ∅,λ_=>mj (cW ?_)⟩;clear hQ;kspl_open hQ;exact⟨rfl,hQ _ _ ⟨rfl,Ex.refl⟩⟩
def YY{st:Store}{w:List gF}(hl:w.length<=1000):Wp (FQ [.tup (w.map b5)] st) λd st'=>d=.tup ((af.lC w).map b5)/\Ex [] st st':=by
 refine d4 ?_;show Ws (Jg [some (.tup (w.map b5))] st) _ _ _ _;unfold Jg;refine cW ?_;kspl_open hQ;refine WH (w.reverse.map b5) (λi y=>∃s,w.reverse[i]?=some s/\y=b5 (af.nF s)) (Ex [] st) ?_ (by rw[Z7,Za9];lk) ?_ ?_;refine bA ?_;intro d8 a8;exists WJ;refine⟨_,rfl,a8 _ _ ⟨λi st2 hi _=>?_,Ex.refl⟩⟩;rw[<- List.map_reverse];exact pP _ st2 i st2 hi Ex.refl;intro i d hd st1 k1;rw[Zae]at hd;obtain⟨s,hs,rfl⟩:=Zaz.mp hd;kspl_open a8;refine aQ YX ?_;rintro d st3 ⟨rfl,k3⟩;exact a8 _ _ ⟨⟨s,hs,rfl⟩,k1.trans k3⟩;intro ys st' k' hy h;w_how;refine hQ _ _ ⟨?_,k'.app _⟩
 congr 1
 refine ZbT λi=>?_;rw[Z7,Za9]at hy;have eb:af.lC w=w.reverse.map af.nF:=by unfold af.lC;rw[List.map_reverse]
 rw[eb,Zae,Zae];rcases Nat.lt_or_ge i ys.length with hi|hi
 obtain⟨s,hs,e⟩:=h i ys[i] (Z8 hi);rw[hs,Z8 hi,e];rfl;rw[Za3 hi,Za3 (by rw[Za9];lk)];rfl
def YZ{st:Store}{x y:Int}(hy:y≠0)(hb:y.natAbs<P2 100):Wp (Fy [.int x,.int y] st) λd st'=>d=.int (af.nr x y)/\Ex [] st st':=by
 have hl:(2*y).natAbs.log2<9000:=by
  have h1:(2*y).natAbs<2 ^ 101:=by
   have e:P2 101=2*P2 100:=vG 100;show _<P2 101;lk
  have:=(Nat.log2_lt (n:=(2*y).natAbs) (k:=101) ⋯).mpr h1;lk
 refine d4 ?_;show Ws (IZ [some (.int x),some (.int y)] st) _ _ _ _;unfold IZ;refine cW ?_;refine bA ?_;intro cn hQ;exists W2;exact⟨.inl ∅,.inl ∅,⟨by lk,hl⟩,hQ _ _ ⟨rfl,Ex.refl⟩⟩
def Mz{st:Store}{k:Int}:Wp (wx [.int k] st) λd st'=>d=.tup ((af.oS k).map b5)/\Ex [] st st':=by refine d4 ?_;show Ws (IU [some (.int k)] st) _ _ _ _;unfold IU;refine aW (kq ?_);kspl_open hQ;refine hQ _ _ ⟨λh=>cW ?_,λh=>mj (cW ?_)⟩;have h:k=0:=of_decide_eq_true h;clear hQ;kspl_open hQ;refine⟨rfl,hQ _ _ ⟨?_,Ex.refl⟩⟩;unfold af.oS;rw[if_pos h];rfl;have h:¬k=0:=of_decide_eq_false h;clear hQ;kspl_open hQ;refine⟨rfl,rfl,hQ _ _ ⟨?_,Ex.refl⟩⟩;unfold af.oS;rw[if_neg h];rfl
def Q6{st:Store}{T:af.T4}{x y:Int}(hT:T.le (P2 102))(hx:x.natAbs<=P2 102)(hy:y.natAbs<=P2 102):Wp (AG [lR T,.tup [.int x,.int y]] st) λd st'=>d=.tup [.int (T.a*x+T.b*y),.int (T.c*x+T.d*y)]/\Ex [] st st':=by
 have ok:∀i j:Int,i.natAbs<=P2 102->j.natAbs<=P2 102->dc i j=true:=λi j hi hj=>by
  have e:P2 103=2*P2 102:=vG 102;have:=Bj 102;exact Md (k:=103) ∅ ⋯ ⋯
 obtain⟨h1,h2,h3,h4⟩:=hT;refine d4 ?_;show Ws (IQ [some (lR T),some (.tup [.int x,.int y])] st) _ _ _ _;unfold IQ lR;refine cW ?_;refine bA ?_;intro cn hQ;exists Mc,at2,Ql;exact⟨ok _ _ h1 hx,ok _ _ h2 hy,ok _ _ h3 hx,ok _ _ h4 hy,rfl,hQ _ _ ⟨rfl,Ex.refl⟩⟩
def MA{st:Store}{Q:D->Store->Prop}{x y:Int}:Wp (aE (.tup [.int x,.int y]) (.int 0) st) Q↔Q (.int x) st:=bp
def MB{st:Store}{Q:D->Store->Prop}{x y:Int}:Wp (aE (.tup [.int x,.int y]) (.int 1) st) Q↔Q (.int y) st:=bp
def q4{M k:Nat}(hM:M<2 ^ k)(hk:k<=100):M<P2 100/\P2 101=2*P2 100/\P2 102=2*P2 101/\100<P2 100:=⟨ZaQ hM (ZbI (n:=2) ∅ hk),vG 100,vG 101,OH 100⟩
def Q7{st:Store}{x y:Int}{M k:Nat}(hM:M<2 ^ k)(hk:k<=100)(hx:x.natAbs<=M)(hy:y.natAbs<=M):Wp (AH [.tup [.int x,.int y]] st) λd st'=>∃g:List gF,d=.tup (g.map b5)/\(∀s∈g,af.cJ s/\s.2.natAbs<=M+1)/\g.length<=2*k/\(af.av g).c*x+(af.av g).d*y=0/\(∃(u:Int) (r:Nat),af.Bv g u 0 r)/\Ex [] st st':=by
 refine d4 ?_;show Ws (I0 [some (.tup [.int x,.int y]),none,none,none] st) _ _ _ _;unfold I0;refine aW (bK ?_);refine bA ?_;intro cn hQ;w_how;refine⟨rfl,?_⟩;refine hQ _ _ (aW (bK ?_));clear hQ;refine bA ?_;intro cn hQ;w_how;refine hQ _ _ (aW (uB (λm δ s=>∃(g:List gF) (u v:Int) (r:Nat) (v3:Option D),m=k+1-r/\r<=k/\δ=[some (.tup [.int x,.int y]),some (.tup (g.map b5)),some (.tup [.int u,.int v]),v3]/\af.Dv M x y g u v r/\af.Bv g u v r/\Ex [] st s) (k+1) (by show k+1<1000000;lk) ⟨[],x,y,0,none,rfl,ZaM _,rfl,af.Dv.zero hx hy,af.Bv.zero x y,Ex.refl⟩ ?_));clear hQ;rintro m δ s ⟨g,u,v,r,v3,rfl,hr,rfl,dv,bv,k1⟩;have ZQ:=dv.ub;obtain⟨MC,Q8,Q9,Ra⟩:=q4 hM hk;have ZR:v.natAbs<=M:=Zap (Zcc _ (Nat.one_le_two_pow)) dv.vb;refine bA ?_;intro cn hQ;exists MB;refine hQ _ _ ⟨λhc=>?_,λhc=>?_⟩;have hv:v≠0:=by simpa using hc
 have few:=dv.few (k:=k) hv hM;have Y0:=dv.step hv;refine aW (bK ?_);clear hQ;refine bA ?_;intro cn hQ;exists MA,MB;refine aQ (YZ hv ⋯) ?_;rintro d s1 ⟨rfl,k2⟩;w_how;refine aQ (Mz) ?_;rintro d s2 ⟨rfl,k3⟩;w_how;have hsl:=af.zf (-(af.nr u v));refine⟨rfl,rfl,jg (by rw[Z7];show _+1<=_;lk),?_⟩;have e1:((af.oS (-(af.nr u v))).map b5 ++ [D.tup [D.str "t",D.int 1]])=(af.rR u v).map b5:=by
  unfold af.rR;rw[Zau];rfl
 rw[e1];have y2:=af.Pz (x:=u) hv;refine hQ _ _ (aW (bK ?_));clear hQ;refine bA ?_;intro cn hQ;w_how;refine aQ (Q0 (b:=102) (w:=af.rR u v) ∅ (λs hs=>⟨(y2 s hs).1,by have:=(y2 s hs).2;lk⟩) (by have:=af.Lx u v;lk)) ?_;rintro d s3 ⟨rfl,k4⟩;have hnr:=af.Py (x:=u) hv;refine aQ (Q6 (T:=af.av (af.rR u v)) (x:=u) (y:=v) (by rw[af.Hn];exact⟨by show(0:Int).natAbs<=_;lk,by show(-1:Int).natAbs<=_;lk,by show(1:Int).natAbs<=_;lk,by show(-(af.nr u v)).natAbs<=_;lk⟩) ⋯ ⋯) ?_;rintro d s4 ⟨rfl,k5⟩;rw[af.Hn];have e2:∀q:Int,D.tup [.int ((0:Int)*u + -1*v),.int (1*u + -q*v)]=.tup [.int (-v),.int (u-q*v)]:=λq=>by
  have a1:(0:Int)*u + -1*v=-v:=by lk
  have a2:1*u + -q*v=u-q*v:=by rw[ZaR];lk
  rw[a1,a2]
 show cn (D.tup [.int ((0:Int)*u + -1*v),.int (1*u + -(af.nr u v)*v)]) s4;rw[e2];refine hQ _ _ (bK ?_);clear hQ;refine bA ?_;intro cn hQ;w_how;have BX:=dv.ln;have hdl:=af.Lx u v;refine⟨jg (by rw[Z7,Z7];lk),hQ _ _ ⟨k+1-(r+1),by lk,g ++ af.rR u v,_,_,r+1,_,rfl,by lk,by rw[Zau];rfl,Y0,bv.step hv,(((k1.trans k2).trans k3).trans k4).trans k5⟩⟩;have hv:v=0:=by simpa using hc
 refine cW ?_;clear hQ;refine bA ?_;intro cn hQ;w_how;exact hQ _ _ ⟨g,rfl,dv.pr,by have:=dv.ln;lk,by rw[<- dv.vc];exact hv,⟨u,r,hv ▸ bv⟩,k1⟩
def MD{st:Store}{Q:D->Store->Prop}{T:af.T4}:Wp (aE (lR T) (.int 0) st) Q↔Q (.int T.a) st:=bp
def ME{st:Store}{Q:D->Store->Prop}{T:af.T4}:Wp (aE (lR T) (.int 1) st) Q↔Q (.int T.b) st:=bp
def Rb{st:Store}{Q:D->Store->Prop}{T:af.T4}:Wp (aE (lR T) (.int 2) st) Q↔Q (.int T.c) st:=bp
def AR{st:Store}{Q:D->Store->Prop}{T:af.T4}:Wp (aE (lR T) (.int 3) st) Q↔Q (.int T.d) st:=bp
def Y1{st:Store}{T:af.T4}(hl:T.le (P2 100)):Wp (FJ [lR T] st) λd st'=>d=.bl (decide (T.a*T.d-T.b*T.c=1))/\Ex [] st st':=by
 have ok:∀i j:Int,i.natAbs<=P2 100->j.natAbs<=P2 100->dc i j=true:=λi j hi hj=>by
  have e:P2 101=2*P2 100:=vG 100;have:=Bj 100;exact Md (k:=101) ∅ ⋯ ⋯
 refine d4 ?_;show Ws (Jd [some (lR T)] st) _ _ _ _;unfold Jd;refine cW ?_;have hs:cS st (lR T)=some [.int T.a,.int T.b,.int T.c,.int T.d]:=rfl;refine bA ?_;intro cn hQ;exists hs,Mc,MD,ME,Rb,AR;obtain⟨h1,h2,h3,h4⟩:=hl;rw[if_pos (show decide ((([D.int T.a,D.int T.b,D.int T.c,D.int T.d]:List D).length:Int)=4)=true from rfl)];exact⟨ok _ _ h1 h4,ok _ _ h2 h3,hQ _ _ ⟨rfl,Ex.refl⟩⟩
def Y2{st:Store}{A:af.T4}:Wp (FL [lR A] st) λd st'=>d=.tup ((af.pH A).map b5)/\Ex [] st st':=by
 refine d4 ?_;show Ws (Je [some (lR A)] st) _ _ _ _;unfold Je;refine aW (kq ?_);refine bA ?_;intro cn hQ;exists MD;refine hQ _ _ ⟨λh=>cW ?_,λh=>mj (cW ?_)⟩;have h:A.a=1:=of_decide_eq_true h;clear hQ;refine bA ?_;intro cn hQ;exists ME;refine aQ (Mz) ?_;rintro d s1 ⟨rfl,k1⟩;refine hQ _ _ ⟨?_,k1⟩;unfold af.pH;rw[if_pos h];have h:¬A.a=1:=of_decide_eq_false h;clear hQ;refine bA ?_;intro cn hQ;exists ME;refine⟨rfl,rfl,?_⟩;refine aQ (Mz) ?_;rintro d s1 ⟨rfl,k1⟩;w_how
 have:=af.zf (-A.b);refine⟨jg (by rw[Z7];show 1+_<=_;lk),hQ _ _ ⟨?_,k1⟩⟩;unfold af.pH;rw[if_neg h];rfl
def Y3{T:af.T4}{g:List gF}{M k:Nat}(hM:M<2 ^ k)(hk:k<=100)(hl:T.le M)(hg:∀s∈g,af.cJ s/\s.2.natAbs<=M+1)(BX:g.length<=2*k):∀s∈af.pE (af.pH ((af.av g).mul T) ++ af.lC g),s.2.natAbs+1<=P2 20400:=by
 obtain⟨MC,Q8,Q9,Ra⟩:=q4 hM hk;have Y4:M+2<=P2 101:=by lk
 have hgt:=Mx (w:=g) (b:=101) (n:=200) (λs hs=>⟨(hg s hs).1,by have:=(hg s hs).2;lk⟩) ⋯;have Gs:∀x y:Int,x.natAbs<=P2 (101*200)->y.natAbs<=M->(x*y).natAbs<=P2 20301:=λx y hx hy=>by
  rw[Zbq];refine Zap (ZbC hx (Zap hy (Zap (Nat.le_add_right M 2) Y4))) ?_;rw[OG];exact Di ∅
 have hA:((af.av g).mul T).b.natAbs<=P2 20302:=by
  have e:((af.av g).mul T).b=(af.av g).a*T.b+(af.av g).b*T.d:=rfl;have h1:=Gs _ _ hgt.1 hl.2.1;have h2:=Gs _ _ hgt.2.1 hl.2.2.2;have h3:P2 20302=2*P2 20301:=vG 20301;rw[e];lk
 have MF:P2 101<=P2 20302:=Di ∅;have h7:20302<P2 20302:=OH 20302;generalize hB:P2 20302=B at hA MF h7;have hv:∀s∈af.pH ((af.av g).mul T),af.cJ s/\s.2.natAbs<=B:=λs hs=>by
  refine⟨af.PB _ s hs,?_⟩;unfold af.pH at hs;split at hs;rw[(af.ze s hs).2];exact hA;rcases Zax.mp hs with rfl|hs
  show(2:Int).natAbs<=B;lk;rw[(af.ze s hs).2,Int.natAbs_neg];exact hA
 have hb:∀s∈af.lC g,af.cJ s/\s.2.natAbs<=B:=λs hs=>by
  refine⟨af.Hj (λs hs=>(hg s hs).1) s hs,?_⟩;unfold af.lC at hs;obtain⟨t,ht,rfl⟩:=Zag.mp (Zck.mp hs);obtain⟨h1,h2⟩:=hg t ht;obtain⟨b,k⟩:=t;cases b with
  |true=>show(-k).natAbs<=B;simp only at h2;lk
  |false=>have:=h1.1 rfl;simp only at this;show(4-k).natAbs<=B;lk
 intro s hs
 have hq:=af.y3 (B:=B) (w:=af.pH ((af.av g).mul T) ++ af.lC g) (λs hs=>by
  rcases Zay.mp hs with h|h
  exact hv s h
  exact hb s h) s hs
 have hlen:(af.pH ((af.av g).mul T) ++ af.lC g).length<=256:=by
  rw[Zaf];have h1:=af.PD ((af.av g).mul T);have h2:(af.lC g).length=g.length:=by unfold af.lC;rw[Za9,Z7]
  lk
 have h3:s.2.natAbs<=256*B:=Zap hq (ZbJ _ hlen);have h4:P2 20310=256*B:=by
  have:=OG 8 20302;rw[hB]at this;rw[show(20310:Nat)=8+20302 from rfl,<- this];rfl
 have h5:P2 20311=2*P2 20310:=vG 20310;have h6:P2 20311<=P2 20400:=Di ∅;lk
def Y5{st:Store}{T:af.T4}{M k:Nat}(hM:M<2 ^ k)(hk:k<=100)(hl:T.le M)(hd:T.a*T.d-T.b*T.c=1):Wp (FT [lR T] st) λd st'=>∃w:List gF,d=.tup (w.map b5)/\(∀s∈w,af.cJ s/\s.2.natAbs+1<=P2 20400)/\w.length<=2*k+2/\af.av w=T/\Ex [] st st':=by
 refine d4 ?_;show Ws (Jh [some (lR T),none] st) _ _ _ _;unfold Jh;refine aW (kq ?_);kspl_open hQ;obtain⟨MC,Q8,Q9,Ra⟩:=q4 hM hk;refine aQ (Y1 (Gr hl ⋯)) ?_;rintro d s1 ⟨rfl,k1⟩;refine⟨_,rfl,?_⟩;refine hQ _ _ ⟨λh=>absurd h (by simp[hd]),λ_=>mj (aW (bK ?_))⟩;clear hQ;refine bA ?_;intro cn hQ;exists MD,Rb;refine⟨rfl,?_⟩;refine aQ (Q7 hM hk hl.1 hl.2.2.1) ?_;rintro d s2 ⟨g,rfl,hg,BX,h0,_,k2⟩;refine hQ _ _ (cW ?_);clear hQ;kspl_open hQ;have Y6:∀s∈g,af.cJ s:=λs hs=>(hg s hs).1;have Rc:∀s∈g,af.cJ s/\s.2.natAbs+1<=P2 101:=λs hs=>⟨(hg s hs).1,by have:=(hg s hs).2;lk⟩;refine aQ (Q0 (b:=101) (w:=g) ∅ Rc ⋯) ?_;rintro d s3 ⟨rfl,k3⟩;have hgt:=Mx (n:=200) Rc ⋯;refine aQ (JE (xW (k:=101*200+1) (M:=P2 (101*200)) ∅ (by have:=Bj (101*200);have:=vG (101*200);lk) hgt (Gr hl (Zap (Zbt MC) (Di ∅))))) ?_;rintro d s4 ⟨rfl,k4⟩;refine aQ (Y2) ?_;rintro d s5 ⟨rfl,k5⟩;refine aQ (YY (w:=g) ⋯) ?_;rintro d s6 ⟨rfl,k6⟩;have u7:=af.PD ((af.av g).mul T);have wC:(af.lC g).length=g.length:=by unfold af.lC;rw[Za9,Z7]
 refine aQ (YW (v:=af.pH ((af.av g).mul T)) (w:=af.lC g) ⋯) ?_;rintro d s7 ⟨rfl,k7⟩;obtain⟨e1,e2⟩:=af.Vj hd Y6 h0;refine hQ _ _ ⟨_,rfl,λs hs=>⟨e2 s hs,Y3 hM hk hl hg BX s (Zck.mp hs)⟩,?_,e1,(((((k1.trans k2).trans k3).trans k4).trans k5).trans k6).trans k7⟩;rw[Za9];have:=af.O0 (af.pH ((af.av g).mul T) ++ af.lC g);rw[Zaf]at this;lk
def Y7{st:Store}{xs ys:List Int}{n:Nat}{s:Int}(fl:nu n xs ys)(hn:n<=100)(s0:0<=s)(s1:s<(n:Int)):Wp (E5 [bE xs ys,.int s] st) λd st'=>d=.tup ((af.inv (af.bf xs ys s n)).map D.int)/\Ex [] st st':=by obtain⟨tx,ty,all⟩:=fl;refine d4 ?_;show Ws (IC [some (bE xs ys),some (.int s)] st) _ _ _ _;unfold IC;refine cW ?_;kspl_open hQ;refine aQ (Yz tx ty hn s0 s1) ?_;rintro d st1 ⟨rfl,k1⟩;refine aQ (Gg (af.Lb tx ty s0 s1 all) hn) ?_;rintro d st2 ⟨rfl,k2⟩;exact hQ _ _ ⟨rfl,k1.trans k2⟩
abbrev MG(xs ys:List Int)(s:Int)(n:Nat):D:=bE (af.num xs (af.bf xs ys s n)) (af.num ys (af.bf xs ys s n))
def Y8{st:Store}{xs ys:List Int}{n:Nat}{s:Int}(fl:nu n xs ys)(hn:n<=100)(s0:0<=s)(s1:s<(n:Int)):Wp (E7 [bE xs ys,.int s] st) λd st'=>d=MG xs ys s n/\Ex [] st st':=by have BZ:=fl;obtain⟨tx,ty,all⟩:=fl;have tb:=af.Lb tx ty s0 s1 all;refine d4 ?_;show Ws (IE [some (bE xs ys),some (.int s)] st) _ _ _ _;unfold IE;refine cW ?_;kspl_open hQ;refine aQ (Y7 BZ hn s0 s1) ?_;rintro d st1 ⟨rfl,k1⟩;refine aQ (Yw tx ty tb.aC hn) ?_;rintro d st2 ⟨rfl,k2⟩;rw[af.He tx tb,af.He ty tb];exact hQ _ _ ⟨rfl,k1.trans k2⟩
def JF{n:Nat}{xs ys:List Int}(fl:nu n xs ys):af.Wh n (xs,ys):=⟨⟨fl.1,fl.2.1⟩,fl.2.2⟩
def MH{n:Nat}{p:af.ck}(w:af.Wh n p):nu n p.1 p.2:=⟨w.v.1,w.v.2,w.all⟩
def AU{n:Nat}(p:af.ck)(n0:0<n):∃s:Int,0<=s/\s<(n:Int)/\af.sZ n p=af.uX p n s:=by
 have h:=(af.Li (l:=(af.upto n).map (af.uX p n)) (λe=>by
  have:=congrArg List.length e;rw[Z7,af.qN]at this;simp at this
  lk)).1
 obtain⟨s,hs,e⟩:=Zag.mp h;obtain⟨s0,s1⟩:=af.ke.mp hs;exact⟨s,s0,s1,e.symm⟩
def Rf{n:Nat}{p:af.ck}(w:af.Wh n p)(n0:0<n):af.bN n p (af.sZ n p):=by obtain⟨s,s0,s1,e⟩:=AU p n0;have tb:=w.bf s0 s1;refine⟨af.inv (af.bf p.1 p.2 s n),tb.aC,?_⟩;rw[e,af.He w.v.1 tb,af.He w.v.2 tb];rfl
def AV{n:Nat}{p q:af.ck}(w:af.Wh n p)(n0:0<n)(a:af.bN n p q):af.Wh n q:=by obtain⟨g,tg,rfl⟩:=a;have:=af.mw (MH w) tg n0;exact⟨⟨this.1,this.2.1⟩,this.2.2⟩
def Y9(p:af.ck)(n:Nat):(aF 0 n).map (λd=>bE (af.uX p n (inD d)).1 (af.uX p n (inD d)).2)=((af.upto n).map (af.uX p n)).map λq=>bE q.1 q.2:=by rw[qW,Zat,Zat];rfl
def Za{st:Store}{xs ys:List Int}{n:Nat}(fl:nu n xs ys)(n0:0<n)(hn:n<=20):Wp (E9 [bE xs ys] st) λd st'=>d=bE (af.sZ n (xs,ys)).1 (af.sZ n (xs,ys)).2/\Ex [] st st':=by have hlx:=fl.1.length;refine d4 ?_;show Ws (IF [some (bE xs ys)] st) _ _ _ _;unfold IF;refine cW ?_;kspl_open hQ;refine tu (aF 0 n) (λd=>bE (af.uX (xs,ys) n (inD d)).1 (af.uX (xs,ys) n (inD d)).2) ?_ (by rw[ka];lk) ?_ ?_;unfold bE;kspl_open a8;rw[Z7,hlx];exact⟨by lk,a8 _ _ ⟨by rw[Zao];exact pP _ _,Ex.refl⟩⟩;intro d hd st2 k2;rw[qW]at hd;obtain⟨x,hx,rfl⟩:=uF hd;obtain⟨x0,x1⟩:=af.ke.mp hx;refine bA ?_;intro d8 a8;exists Zaq,ZaH,ZaC,ZaD;refine aQ (Y8 fl ⋯ x0 x1) ?_;rintro d st3 ⟨rfl,k3⟩;exact a8 _ _ ⟨rfl,k3⟩;intro st' k';rw[Y9,WO (lL kg) (by rw[Z7,af.qN];exact n0)];exact hQ _ _ ⟨rfl,k'.app _⟩
def Rg{w:List gF}(h:∀s∈w,af.cJ s):∀s∈w,Gq s:=λs hs=>(h s hs).1
def Rh:∀(w:List gF) (p:List Int×List Int),mO p w=af.jm p w:=by
 have hq:∀(p:List Int×List Int) (j:Nat),pZ p.1 p.2 j=af.p9 j p:=λp j=>by
  induction j with
  |zero=>rfl
  |succ j ih=>show(af.inv (pZ p.1 p.2 j).2,(pZ p.1 p.2 j).1)=af.Qt (af.p9 j p);rw[ih];rfl
 have hs:∀(p:List Int×List Int) (s:gF),j7 p s=af.stM p s:=λp s=>by
  unfold j7 af.stM;rw[hq];rfl
 intro w
 induction w with
 |nil=>intro p;rfl
 |cons s w ih =>
  intro p;show mO (j7 p s) w=af.jm (af.stM p s) w;rw[hs,ih]
def Zb{st:Store}{xs ys:List Int}{n:Nat}{w:List gF}(fl:nu n xs ys)(n0:0<n)(hn:n<=20){M k:Nat}(hM:M<2 ^ k)(hk:k<=100)(hw:∀s∈w,af.cJ s)(hl:(af.av w).le M):Wp (FV [bE xs ys,lR (af.av w)] st) λd st'=>d=bE (af.sZ n (af.jm (xs,ys) w)).1 (af.sZ n (af.jm (xs,ys) w)).2/\Ex [] st st':=by have wh:=JF fl;refine d4 ?_;show Ws (Ji [some (bE xs ys),some (lR (af.av w))] st) _ _ _ _;unfold Ji;refine cW ?_;kspl_open hQ;refine aQ (Y5 hM hk hl (af.zb hw)) ?_;rintro d st1 ⟨u,rfl,JG,ZT,eu,k1⟩;have hu:∀s∈u,af.cJ s:=λs hs=>(JG s hs).1;refine aQ (YR (p:=(xs,ys)) ⟨fl.1,fl.2.1⟩ ⋯ (Rg hu) ⋯) ?_;rintro d st2 ⟨rfl,k2⟩;rw[Rh];have wu:=wh.ld n0 (w:=u);refine aQ (Za (xs:=(af.jm (xs,ys) u).1) (ys:=(af.jm (xs,ys) u).2) (MH wu) n0 hn) ?_;rintro d st3 ⟨rfl,k3⟩;refine hQ _ _ ⟨?_,(k1.trans k2).trans k3⟩;have e:af.sZ n (af.jm (xs,ys) u)=af.sZ n (af.jm (xs,ys) w):=af.U5 n0 wu.v (af.Ph hu hw eu wh.v);show bE (af.sZ n (af.jm (xs,ys) u)).1 (af.sZ n (af.jm (xs,ys) u)).2=_;rw[e]
def Zc{st:Store}{xs:List Int}{n:Nat}(tn:af.Tn n xs)(hn:n<=100):Wp (F4 [.tup (xs.map D.int)] st) λd st'=>∃rs:List (List Int),d=wj rs/\af.i5 xs (af.upto n) rs/\(∀r∈rs,r.length<=n/\∀x∈r,0<=x/\x<(n:Int))/\rs.length<=n/\Ex [] st st':=by
 have hlen:=tn.length;refine d4 ?_;show Ws (Jn [some (.tup (xs.map D.int)),none,none,none,none] st) _ _ _ _;unfold Jn;refine aW (BJ ?_);kspl_open hQ;have eS:(st ++ [O.lst []]).length=st.length+1:=by simp
 refine⟨rfl,rfl,hQ _ _ ⟨_,_,rfl,?_⟩⟩;rw[eS]
 refine aW (pN (aF 0 n) (λk δ st2=>∃ (v3 v4:Option D) (rs:List (List Int)) (met:List Int),δ=[some (.tup (xs.map D.int)),some (.ref st.length),some (.ref (st.length + 1)),v3,v4]/\st2[st.length]?=some (.lst (rs.map λr=>.tup (r.map D.int)))/\st2[st.length + 1]?=some (.lst (met.map D.int)) /\
   (∀rest,af.i5 xs (af.from' n k (λx=>met.contains x)) rest->af.i5 xs (af.upto n) (rs ++ rest))/\(∀r∈rs,r.length<=n/\∀x∈r,0<=x/\x<(n:Int))/\rs.length<=k/\met.length<=k*n/\Ex [] st st2) ?_ (by rw[ka];lk) ?_ ?_)
 clear hQ;kspl_open hQ;rw[Z7,hlen];refine⟨by lk,hQ _ _ ⟨by rw[Zao],none,none,[],[],rfl,j5 kg,by rw[<- eS];exact kg,λrest hrest=>?_,(λr hr=>nomatch hr),Zaa _,ZaM _,(Ex.cg _).app _⟩⟩;have e:af.from' n 0 (λx=>([]:List Int).contains x)=af.upto n:=af.OO n;rw[e]at hrest;exact hrest;rintro k d δ st2 hd ⟨v3,v4,rs,met,rfl,u9,va,sj,hb,hrl,p6,k2⟩;have hk:=fH hd;rw[ka]at hk;rw[D0 hk,Zb9]at hd;cases hd;have hkn:k*n<=10000:=Zap (ZbC (show k<=100 by lk) hn) ∅;clear hQ;kspl_open hQ;refine hQ _ _ (kq ?_);clear hQ;refine bA ?_;intro cn hQ;exists Eo (st:=st2) (c:=D.ref (st.length+1)) (ns:=met) (cQ va);have hfs:=af.OL hk (λx=>met.contains x);refine hQ _ _ ⟨λhs=>?_,λhs=>?_⟩;have AQ:met.contains (k:Int)=false:=by simpa using hs
 simp only[AQ,ZaT,if_false]at hfs;clear hQ;refine aW (bK ?_);kspl_open hQ;refine⟨rfl,hQ _ _ (aW (uB (λm δ st3=>∃j:Nat,m=n-(j+1)/\δ=[some (.tup (xs.map D.int)),some (.ref st.length),some (.ref (st.length+1)),some (.int (k:Int)),some (.ref st2.length)]/\st3[st2.length]?=some (.lst ((af.row xs (k:Int) j).map D.int))/\af.NB xs (k:Int) j/\Ex [] st2 st3) (n-1) (ZaW (show n-1<=100 by lk) ∅) ⟨0,rfl,rfl,kg,λj h1 h2=>by lk,Ex.cg _⟩ ?_))⟩;clear hQ;rintro m δ st3 ⟨j,rfl,rfl,hL,nb,k3⟩;have Gm:=tn.iL (i:=(k:Int)) ⋯ ⋯ nb;have hit:=tn.aU (i:=(k:Int)) ⋯ ⋯ j;refine bA ?_;intro cn hQ;exists cQ hL,Qm,pe (xs:=xs) hit.1 ⋯;refine hQ _ _ ⟨λhb'=>?_,λhb'=>?_⟩;have hb':af.aU xs (k:Int) (j+1)≠(k:Int):=by simpa[af.aU]using hb'
 have xU:af.NB xs (k:Int) (j+1):=λi h1 h2=>by
  by_cases hj:i<=j;exact nb i h1 hj
  have:i=j+1:=by lk
  rw[this];exact hb'
 have hle:=tn.iL (i:=(k:Int)) ⋯ ⋯ xU;refine r9 ?_;clear hQ;refine bA ?_;intro cn hQ;exists cQ hL,lL hL,Qm,pe (xs:=xs) hit.1 ⋯;refine⟨qV (by rw[cQ hL];rfl),jg (by rw[Z7,af.sU];lk),hQ _ _ ⟨n-(j+1+1),by lk,j+1,rfl,rfl,?_,xU,k3.loc (Zaa _)⟩⟩;rw[Zal (fH hL),af.K3,Zau];rfl;have hb':af.aU xs (k:Int) (j+1)=(k:Int):=by simpa[af.aU]using hb'
 have j6:af.bu xs (k:Int) (af.row xs (k:Int) j):=⟨j,rfl,nb,hb'⟩;have hlen':=j6.len tn ⋯ ⋯;have hrb:=j6.bound tn ⋯ ⋯;have Gj:=k3.keep _ _ u9 (by simp);have Gk:=k3.keep _ _ va (by simp);generalize hrr:af.row xs (k:Int) j=r at hL j6 hlen' hrb;have l1:=fH u9;have l2:=fH va;refine aW (r9 ?_);clear hQ;refine bA ?_;intro cn hQ;exists lL hL,lL Gk;refine⟨qV (by rw[cQ Gk];rfl),jg (by rw[Z7,Z7];lk),hQ _ _ (r9 ?_)⟩;clear hQ;have MI:(st3.set (st.length+1) (.lst (met.map D.int ++ r.map D.int)))[st.length]?=some (.lst (rs.map λr=>.tup (r.map D.int))):=by rw[ZaA ⋯];exact Gj
 have Jy:(st3.set (st.length+1) (.lst (met.map D.int ++ r.map D.int)))[st2.length]?=some (.lst (r.map D.int)):=by rw[ZaA ⋯];exact hL
 refine bA ?_;intro cn hQ;exists cQ Jy,lL MI;refine⟨qV (by rw[cQ MI];rfl),jg (by rw[Z7];lk),hQ _ _ ⟨_,_,rs ++ [r],met ++ r,rfl,?_,?_,λrest hrest=>?_,λr' hr'=>?_,by rw[Zaf];simp;lk,by rw[Zaf,ZbN];lk,((k2.trans k3).loc ⋯).loc (Zaa _)⟩⟩;rw[Zal (fH MI),Zau];rfl;rw[ZaA ⋯,Zal (by rw[<- hrr]at *;exact fH Gk),Zau];have e:(λx=>(met ++ r).contains x)=λx=>(met.contains x || r.contains x):=by
  funext x;rw[Za4];simp
 rw[e,<- af.OM]at hrest;rw[Zbv];refine sj _ ?_;rw[hfs];refine .cons j6 ?_;have e2:af.out ((k:Int) :: af.from' n (k+1) (λx=>met.contains x)) r=af.out (af.from' n (k+1) (λx=>met.contains x)) r:=by
  unfold af.out;rw[Zcj,if_neg (by simp[j6.mem])]
 rw[e2];exact hrest;rcases Zay.mp hr' with h|h
 exact hb r' h
 have:r'=r:=by simpa using h
 subst this;exact⟨hlen',hrb⟩;have AQ:met.contains (k:Int)=true:=by simpa using hs
 simp only[AQ,if_true]at hfs;exact mj ⟨_,_,rs,met,rfl,u9,va,λrest hrest=>sj rest (by rw[hfs];exact hrest),hb,by lk,by rw[ZbN];lk,k2⟩;rintro δ st2 ⟨v3,v4,rs,met,rfl,u9,va,sj,hb,hrl,p6,k2⟩;rw[ka]at sj hrl;refine cW ?_;clear hQ;refine bA ?_;intro cn hQ;exists cQ u9;refine hQ _ _ ⟨rs,rfl,?_,hb,hrl,k2⟩;have:=sj [] (by rw[af.OJ];exact .nil)
 rwa [Zbu]at this
def Zd{st:Store}{xs ys:List Int}{n:Nat}(tx:af.Tn n xs)(ty:af.Tn n ys)(hn:n<=100):Wp (F0 [bE xs ys] st) λd st'=>d=.tup ((af.j3 xs ys).map D.int)/\Ex [] st st':=by
 have hlx:=tx.length;have uK:=ty.length;refine d4 ?_;show Ws (Jm [some (bE xs ys),none,none] st) _ _ _ _;unfold Jm bE;refine aW (tm ?_);kspl_open hQ;refine hQ _ _ ?_;kspl_open a8;refine⟨rfl,a8 _ _ (cW ?_)⟩;clear hQ a8;kspl_open hQ;refine tu (aF 0 n) (λd=>.int (af.app (af.j3 xs ys) (inD d))) ?_ (by rw[ka];lk) ?_ ?_;kspl_open a8;rw[Z7,uK];exact⟨by lk,a8 _ _ ⟨by rw[Zao];exact pP _ _,Ex.refl⟩⟩;intro d hd st1 k1;rw[qW]at hd;obtain⟨x,hx,rfl⟩:=uF hd;obtain⟨x0,x1⟩:=af.ke.mp hx;obtain⟨a0,a1⟩:=tx.app x0 x1;obtain⟨b0,b1⟩:=ty.app a0 a1;obtain⟨c0,c1⟩:=tx.lB b0 b1;have e1:((xs.idxOf (af.app ys (af.app xs x)):Nat):Int)=af.app (af.inv xs) (af.app ys (af.app xs x)):=(af.Bm b0 ⋯).symm;refine bA ?_;intro d8 a8;exists Zaq,ZaH,ZaC,ZaD,HG,pe (xs:=xs) x0 ⋯,pe (xs:=ys) a0 ⋯,Gn (tx.mem b0 b1),e1,Gn (ty.mem c0 c1);refine a8 _ _ ⟨?_,Ex.refl⟩;show D.int _=D.int _
 congr 1
 unfold af.j3 inD;rw[af.oq x0 (by rw[af.vI];lk),af.oq x0 ⋯,af.oq b0 (by rw[af.Bl];lk),af.Bm c0 ⋯];intro st' k';have e:(aF 0 n).map (λd=>D.int (af.app (af.j3 xs ys) (inD d)))=(af.j3 xs ys).map D.int:=by
  rw[qW,Ao (f:=af.app (af.j3 xs ys)) λx hx=>rfl,af.Dk (tx.j3 ty).length]
 rw[e];w_how;exact hQ _ _ ⟨rfl,k'.app _⟩
def Ze{st:Store}{xs ys:List Int}{n:Nat}(tx:af.Tn n xs)(ty:af.Tn n ys)(hn:n<=100):Wp (EU [bE xs ys] st) λd st'=>d=.tup ((af.j3 xs ys).map D.int)/\Ex [] st st':=by have hlx:=tx.length;have uK:=ty.length;have ix:=tx.aC;have iy:=ty.aC;refine d4 ?_;show Ws (Ir [some (bE xs ys),none,none,none] st) _ _ _ _;unfold Ir bE;refine aW (bK ?_);kspl_open hQ;refine hQ _ _ (aW (bK ?_));clear hQ;kspl_open hQ;refine hQ _ _ (aW (bK ?_));clear hQ;kspl_open hQ;refine aQ (Gg tx hn) ?_;rintro d st1 ⟨rfl,k1⟩;refine aQ (Gg ty hn) ?_;rintro d st2 ⟨rfl,k2⟩;refine aQ (xT (xs:=af.inv xs) (ys:=af.inv ys) (λx hx=>by rw[iy.length];exact ix.bound hx) (by rw[ix.length];lk)) ?_;rintro d st3 ⟨rfl,k3⟩;refine hQ _ _ (cW ?_);clear hQ;kspl_open hQ;refine aQ (xT (xs:=xs) (ys:=ys) (λx hx=>by rw[uK];exact tx.bound hx) ⋯) ?_;rintro d lM ⟨rfl,k4⟩;refine aQ (xT (xs:=af.aY xs ys) (ys:=af.aY (af.inv xs) (af.inv ys)) (λx hx=>by rw[af.vI,ix.length];exact(tx.aY ty).bound hx) (by rw[af.vI];lk)) ?_;rintro d g9 ⟨rfl,k5⟩;exact hQ _ _ ⟨rfl,(((k1.trans k2).trans k3).trans k4).trans k5⟩
def JH{st:Store}{xs ys:List Int}{Q:D->Store->Prop}:Wp (aE (bE xs ys) (.int 0) st) Q↔Q (.tup (xs.map D.int)) st:=bp
def Ri{st:Store}{xs ys:List Int}{Q:D->Store->Prop}:Wp (aE (bE xs ys) (.int 1) st) Q↔Q (.tup (ys.map D.int)) st:=bp
abbrev tI(l:List Int):D:=.tup (l.map D.int)
abbrev ofT:D->List Int
 |.tup ds=>ds.map inD
 |_=>[]
def q5(l:List Int):ofT (tI l)=l:=WB l
def Rj{st:Store}{xs ys r:List Int}{n:Nat}(tx:af.Tn n xs)(ty:af.Tn n ys)(hn:n<=100)(hb:∀x∈r,0<=x/\x<(n:Int))(hl:r.length<=100):Wp (AF [bE xs ys,tI r] st) λd st'=>d=.bl (decide (af.Sm xs ys r))/\Ex [] st st':=by
 have tr:=tx.j3 ty;refine d4 ?_;show Ws (Iv [some (bE xs ys),some (.tup (r.map D.int)),none] st) _ _ _ _;unfold Iv;refine aW (bK ?_);kspl_open hQ;refine aQ (Ze tx ty hn) ?_;rintro d st1 ⟨rfl,k1⟩;refine hQ _ _ (cW ?_);clear hQ;kspl_open hQ;refine tu (r.map D.int) (λd=>.bl (decide (af.app (af.j3 xs ys) (inD d)=inD d))) ?_ (by rw[Z7];lk) ?_ ?_;kspl_open a8;exact a8 _ _ ⟨pP _ _,Ex.refl⟩;intro d hd st2 k2;obtain⟨x,hx,rfl⟩:=uF hd;obtain⟨x0,x1⟩:=hb x hx;refine bA ?_;intro d8 a8;exists Zaq,ZaH,ZaC,ZaD,pe (xs:=af.j3 xs ys) x0 (by rw[tr.length];exact x1);exact a8 _ _ ⟨rfl,Ex.refl⟩;intro st2 k2;have e1:bH bV ((r.map D.int).map λd=>D.bl (decide (af.app (af.j3 xs ys) (inD d)=inD d)))=some (r.map λx=>decide (af.app (af.j3 xs ys) x=x)):=by
  rw[Zat];exact sM (f:=bV) (g:=λx=>D.bl (decide (af.app (af.j3 xs ys) x=x))) (k:=λx=>decide (af.app (af.j3 xs ys) x=x)) (λ_=>rfl) r
 have e2:(r.map λx=>decide (af.app (af.j3 xs ys) x=x)).all id=decide (af.Sm xs ys r):=by
  rw[Za4,Zbi,decide_eq_true_eq];constructor;intro h s hs;exact(af.Hl tx ty (hb s hs).1 (hb s hs).2).mp (of_decide_eq_true (h _ (Zcs hs)));intro h b hb';obtain⟨s,hs,rfl⟩:=Zag.mp hb';exact decide_eq_true ((af.Hl tx ty (hb s hs).1 (hb s hs).2).mpr (h s hs))
 exists qb,e1,e2;exact hQ _ _ ⟨rfl,(k1.trans k2).app _⟩
def JI{st:Store}{xs ys r:List Int}{n:Nat}(tx:af.Tn n xs)(ty:af.Tn n ys)(hn:n<=100)(a:af.Rw n xs r)(hs:af.Sm xs ys r):Wp (AE [bE xs ys,tI r] st) λd st'=>∃r',d=tI r'/\af.Up n xs ys r r'/\Ex [] st st':=by
 have hl:=a.len tx;refine d4 ?_;show Ws (Il [some (bE xs ys),some (.tup (r.map D.int))] st) _ _ _ _;unfold Il;refine cW ?_;refine bA ?_;intro cn hQ;exists JH;refine tu (r.map D.int) (λd=>.int (af.app ys (inD d))) ?_ (by rw[Z7];lk) ?_ ?_;kspl_open a8;exact a8 _ _ ⟨pP _ _,Ex.refl⟩;intro d hd st2 k2;obtain⟨x,hx,rfl⟩:=uF hd;obtain⟨x0,x1⟩:=a.bound tx x hx;refine bA ?_;intro d8 a8;exists Zaq,ZaH,ZaC,ZaD,Ri,pe (xs:=ys) x0 (by rw[ty.length];exact x1);exact a8 _ _ ⟨rfl,Ex.refl⟩;intro st2 k2;rw[Ao (f:=af.app ys) λx hx=>rfl]
 obtain⟨m,hm,Zf,hW⟩:=WQ (st:=st2 ++ [O.lst ((r.map (af.app ys)).map D.int)]) (r:=st2.length) (ns:=r.map (af.app ys)) LK (λe=>by
  obtain⟨x,hx⟩:=a.one;rw[List.map_eq_nil_iff.mp e]at hx
  cases hx)
 rw[hW];obtain⟨s,s1,e⟩:=Zag.mp hm;have bm:0<=m/\m<(n:Int):=by
  rw[<- e];exact ty.app (a.bound tx s s1).1 (a.bound tx s s1).2
 refine aQ (QQ tx hn bm.1 bm.2) ?_;rintro d st3 ⟨r',rfl,hr,k3⟩;exact hQ _ _ ⟨r',rfl,af.Pm tx ty a hs hm Zf hr,(k2.app _).trans k3⟩
abbrev gS(l:List Int)(b:List (List Int)):D:=.tup [.int (l.length:Int),.int (b.length:Int),wj b]
def MJ{st:Store}{xs ys l:List Int}{n:Nat}(tx:af.Tn n xs)(ty:af.Tn n ys)(hn:n<=100)(a:af.Rw n xs l):Wp (BM [bE xs ys,tI l] st) λd st'=>∃b,d=gS l b/\af.Bd n xs ys l b/\Ex [] st st':=by
 have u7:=a.len tx;refine d4 ?_;show Ws (Iw [some (bE xs ys),some (tI l),none,none] st) _ _ _ _;unfold Iw;refine aW (bK ?_);kspl_open hQ;refine⟨rfl,hQ _ _ (aW (uB (λm δ st2=>∃(b:List (List Int)) (v3:Option D),m=n-b.length/\δ=[some (bE xs ys),some (tI l),some (.ref st.length),v3]/\st2[st.length]?=some (.lst (b.map tI))/\af.Ch n xs ys l b/\Ex [] st st2) (n-1) (ZaW (show n-1<=100 by lk) ∅) ⟨[l],none,rfl,rfl,kg,af.Ch.one a,Ex.cg _⟩ ?_))⟩;clear hQ;rintro m δ st2 ⟨b,v3,rfl,rfl,hL,c,k2⟩;have hb:=c.len tx;have hb0:0<b.length:=by have:=(Z9.mp c.hd).1;lk
 obtain⟨r,hr⟩:∃r,b[b.length-1]?=some r:=⟨b[b.length-1],Z8 ⋯⟩;have ar:=c.rw r (Zab hr);have hat:gD (b.map tI) (-1)=some (tI r):=QE (by rw[Z7,Zae,hr];rfl);have fin:∀(g9:Store) (v3:Option D),g9[st.length]?=some (.lst (b.map tI))->Ex [] st g9->af.Bd n xs ys l b->Ws (aV (bB (ae (aK cT (ae (ag 1) ah)) (ae (aK cT (ae (ag 2) ah)) (ae (aK aZ (ae (ag 2) ah)) ah)))) [some (bE xs ys),some (tI l),some (.ref st.length),v3] g9) (λ_ st1=>(λd st'=>∃b,d=gS l b/\af.Bd n xs ys l b/\Ex [] st st') .non st1) (λ_ _=>False) (λ_ _=>False) (λd st'=>∃b,d=gS l b/\af.Bd n xs ys l b/\Ex [] st st'):=λg9 v3 h5 k5 hB=>by
  refine cW ?_;unfold tI;refine bA ?_;intro cn hQ;exists cQ h5;refine⟨rfl,hQ _ _ ⟨b,?_,hB,k5⟩⟩;rw[Z7,Z7];rfl
 refine bA ?_;intro cn hQ;exists cQ hL,hat;refine aQ (Rj tx ty hn (ar.bound tx) (by have:=ar.len tx;lk)) ?_;rintro d st3 ⟨rfl,k3⟩;have h3:=k3.keep _ _ hL (by simp);refine⟨_,rfl,hQ _ _ ⟨λht=>?_,λhf=>?_⟩⟩;have sm:af.Sm xs ys r:=of_decide_eq_true ht;refine aW (bK ?_);clear hQ;refine bA ?_;intro cn hQ;exists cQ h3,hat;refine aQ (JI tx ty hn ar sm) ?_;rintro d lM ⟨r',rfl,up,k4⟩;have h4:=k4.keep _ _ h3 (by simp);refine hQ _ _ (aW (kq ?_));clear hQ;unfold tI;refine bA ?_;intro cn hQ;exists Qf;refine hQ _ _ ⟨λhc=>VY ?_,λhc=>mj (r9 ?_)⟩;have e:r'=l:=of_decide_eq_true hc;subst e;exact fin lM _ h4 ((k2.trans k3).trans k4) ⟨c,λq hq _=>by rw[hr]at hq;cases hq;exact up⟩;have ne:r'≠l:=of_decide_eq_false hc;have c':=c.snoc tx ty hr sm up ne;have hb':=c'.len tx;rw[Zaf,ZaO]at hb';clear hQ;refine bA ?_;intro cn hQ;exists lL h4;refine⟨qV (by rw[cQ h4];rfl),jg (by rw[Z7];lk),hQ _ _ ⟨n-(b.length+1),by lk,b ++ [r'],_,by rw[Zaf,ZaO],rfl,?_,c',((k2.trans k3).trans k4).loc (Zaa _)⟩⟩;rw[Zal (fH h4),Zau];rfl;have ns:¬af.Sm xs ys r:=of_decide_eq_false hf;exact fin st3 _ h3 (k2.trans k3) ⟨c,λq hq hs=>by rw[hr]at hq;cases hq;exact absurd hs ns⟩
abbrev qx(n:Nat)(xs ys:List Int)(rs lows:List (List Int)):Prop:=∃q:List Int->Bool,(∀r∈rs,q r=true↔∀p,af.Rw n xs p->af.Sm xs ys p->¬af.Up n xs ys p r)/\lows=if rs.filter q=[]then[rs.headD []]else rs.filter q
def qx.lw{n:Nat}{xs ys:List Int}{rs lows:List (List Int)}(h:qx n xs ys rs lows)(tx:af.Tn n xs)(n0:0<n)(g:af.i5 xs (af.upto n) rs):af.Lw n xs ys rs lows:=by
 obtain⟨q,hq,rfl⟩:=h;have nd:=g.nodup tx;obtain⟨r0,hr0,_⟩:=g.has (x:=0) ∅ ⋯;have hup:∀r∈rs,q r=true\/∃p,af.Rw n xs p/\af.Sm xs ys p/\af.Up n xs ys p r:=λr hr=>by
  by_cases h:q r=true
  ·exact .inl h
  ·refine .inr (Classical.byContradiction λc=>h ((hq r hr).mpr λp a s u=>c ⟨p,a,s,u⟩))
 split
 ·next e =>
  have none:∀r∈rs,q r≠true:=λr hr h=>by
   have:r∈rs.filter q:=Zaw.mpr ⟨hr,h⟩;rw[e]at this;cases this
  refine⟨by simp,λl hl=>?_,by simp,λr hr=>.inr ((hup r hr).resolve_left (none r hr)),.inr rfl⟩;rw[Zas.mp hl];cases rs with
  |nil=>cases hr0
  |cons a t=>exact Zac
 ·next e =>
  refine⟨e,λl hl=>(Zaw.mp hl).1,nd.filter _,λr hr=>?_,.inl λl hl=>?_⟩
  ·rcases hup r hr with h|h
   ·exact .inl (Zaw.mpr ⟨hr,h⟩)
   ·exact .inr h
  ·obtain⟨h1,h2⟩:=Zaw.mp hl
   exact(hq l h1).mp h2
abbrev dn(l:List Int)(b:List (List Int)):PyData:=.tuple [.int (l.length:Int),.int (b.length:Int),.tuple (b.map tupI)]
def Rm(st:Store)(m:Nat)(l:List Int):cK st (m+2) (tI l)=some (tupI l):=by show(bH (cK st (m+1)) (l.map D.int)).map PyData.tuple=_;rw[sM (f:=cK st (m+1)) (g:=D.int) (k:=PyData.int) (λ_=>rfl) l];rfl
def Rn(st:Store)(l:List Int)(b:List (List Int)):cK st 20 (gS l b)=some (dn l b):=by
 have e:cK st 19 (wj b)=some (.tuple (b.map tupI)):=by
  show(bH (cK st 18) (b.map tI)).map PyData.tuple=_;rw[sM (f:=cK st 18) (g:=tI) (k:=tupI) (λl=>Rm st 16 l) b];rfl
 show(bH (cK st 19) [D.int (l.length:Int),.int (b.length:Int),wj b]).map PyData.tuple=_;simp only[bH,e];rfl
def Ro:∀b c:List (List Int),cm (b.map tupI) (c.map tupI)=true
 |[],_=>rfl
 |_ :: _,[]=>rfl
 |x :: b,y :: c=>by
  show(cm (x.map PyData.int) (y.map PyData.int) && cm (b.map tupI) (c.map tupI))=true;rw[HR,Ro b c];rfl
def Rq(l l':List Int)(b b':List (List Int)):gE (dn l b) (dn l' b')=true:=by show(true && (true && (cm (b.map tupI) (b'.map tupI) && true)))=true;rw[Ro];rfl
def Zg(l:List Int)(b:List (List Int)):(dn l b).canLay0=true/\(dn l b).depth<=50:=by
 have h1:PyData.canLayAll0 (b.map tupI)=true:=LZ λx hx=>by
  obtain⟨r,_,rfl⟩:=Zag.mp hx;exact vz r
 have h2:PyData.depthAll (b.map tupI)<=2:=L0 λx hx=>by
  obtain⟨r,_,rfl⟩:=Zag.mp hx;show PyData.depthAll (cx r)+1<=2;have:=yA r;lk
 refine⟨?_,?_⟩;show(true && (true && (PyData.canLayAll0 (b.map tupI) && true)))=true;rw[h1];rfl;show max _ (max _ (max (PyData.depthAll (b.map tupI)+1) 0))+1<=50;have e1:(PyData.int (l.length:Int)).depth<=1:=by simp[PyData.depth]
 have e2:(PyData.int (b.length:Int)).depth<=1:=by simp[PyData.depth]
 lk
def Rr{L:List (List Int)}{B:List Int->List (List Int)}(hl:L.length<64):qq (L.map λl=>dn l (B l))=true:=by unfold qq;simp only[ZaB,ZbR,decide_eq_true_eq,Zbi,Z7];refine⟨⟨⟨hl,λa ha b hb=>?_⟩,λa ha=>?_⟩,.inr λa ha=>?_⟩;obtain⟨p,_,rfl⟩:=Zag.mp ha;obtain⟨q,_,rfl⟩:=Zag.mp hb;exact Rq _ _ _ _;obtain⟨p,_,rfl⟩:=Zag.mp ha;exact Zg _ _;obtain⟨p,_,rfl⟩:=Zag.mp ha;rfl
abbrev AW(L:List (List Int))(B:List Int->List (List Int)):List D:=qX (L.map λl=>gS l (B l)) (L.map λl=>dn l (B l))
def JJ(rs:List (List Int))(q:List Int->Bool)(U:List Int->List Int):((rs.map tI).filter λd=>q (ofT d)).map (λd=>tI (U (ofT d)))=((rs.filter q).map U).map tI:=by
 rw[List.filter_map,Zat,Zat];have e:((λd=>q (ofT d)) ∘ tI)=q:=funext λl=>by show q (ofT (tI l))=q l;rw[q5]
 rw[e];refine ZaX λl _=>?_;show tI (U (ofT (tI l)))=tI (U l);rw[q5]
def B0(l:List Int):pU 1 (tI l):=Qp 0 l
def MK{l m:List Int}(h:tI l=tI m):l=m:=by rw[<- q5 l,h,q5]
abbrev sr(n:Nat)(xs ys:List Int)(st:Store):D->Store->Prop:=λd st'=>∃(rs lows:List (List Int)) (B:List Int->List (List Int)),d=.tup (AW lows B)/\af.i5 xs (af.upto n) rs/\qx n xs ys rs lows/\(∀l∈lows,af.Bd n xs ys l (B l))/\lows.length<=n/\Ex [] st st'
def Zh{st:Store}{xs ys:List Int}{n:Nat}(tx:af.Tn n xs)(ty:af.Tn n ys)(n0:0<n)(hn:n<=60):Wp (BN [bE xs ys] st) (sr n xs ys st):=by
 obtain⟨U,hU⟩:∃U:List Int->List Int,∀r,af.Rw n xs r->af.Sm xs ys r->af.Up n xs ys r (U r):=by
  have:∀r,∃r',af.Rw n xs r->af.Sm xs ys r->af.Up n xs ys r r':=λr=>by
   by_cases h:af.Rw n xs r/\af.Sm xs ys r;obtain⟨_,_,_,r',_,u,_⟩:=JI (st:=[]) tx ty ⋯ h.1 h.2;exact⟨r',λ_ _=>u⟩;exact⟨[],λa b=>absurd ⟨a,b⟩ h⟩
  exact⟨λr=>Classical.choose (this r),λr=>Classical.choose_spec (this r)⟩
 obtain⟨B,hB⟩:∃B:List Int->List (List Int),∀l,af.Rw n xs l->af.Bd n xs ys l (B l):=by
  have:∀l,∃b,af.Rw n xs l->af.Bd n xs ys l b:=λl=>by
   by_cases h:af.Rw n xs l;obtain⟨_,_,_,b,_,u,_⟩:=MJ (st:=[]) tx ty ⋯ h;exact⟨b,λ_=>u⟩;exact⟨[],λa=>absurd a h⟩
  exact⟨λr=>Classical.choose (this r),λr=>Classical.choose_spec (this r)⟩
 refine d4 ?_;show Ws (Iy [some (bE xs ys),none,none,none] st) _ _ _ _;unfold Iy;refine aW (bK ?_);refine bA ?_;intro cn hQ;exists JH;refine aQ (QR tx ⋯) ?_;rintro d st1 ⟨rs,rfl,hr,hb,hl,k1⟩;have rw':=hr.rw tx;have e0:wj rs=D.tup (rs.map tI):=rfl;rw[e0];refine hQ _ _ (aW (bK ?_));clear hQ;kspl_open hQ;refine Er (rs.map tI) (λd=>decide (af.Sm xs ys (ofT d))) (λd=>tI (U (ofT d))) ?_ (by rw[Z7];lk) ?_ ?_ ?_;kspl_open a8;exact a8 _ _ ⟨pP _ _,Ex.refl⟩;intro d hd st2 k2;obtain⟨r,hr',rfl⟩:=Zag.mp hd;have Rt:=hb r hr';refine bA ?_;intro d8 a8;exists Zaq,ZaH,ZaC,ZaD;refine aQ (Rj tx ty ⋯ Rt.2 (by have:=Rt.1;lk)) ?_;rintro d st3 ⟨rfl,k3⟩;refine⟨_,rfl,a8 _ _ ⟨by rw[q5],k3⟩⟩;intro d hd hq st2 k2;obtain⟨r,hr',rfl⟩:=Zag.mp hd;rw[q5]at hq;have sm:af.Sm xs ys r:=of_decide_eq_true hq;refine bA ?_;intro d8 a8;exists Zaq,ZaH,ZaC,ZaD;refine aQ (JI tx ty ⋯ (rw' r hr') sm) ?_;rintro d st3 ⟨r',rfl,up,k3⟩;refine a8 _ _ ⟨?_,k3⟩;rw[q5,up.uniq (hU r (rw' r hr') sm) (rw' r hr') sm];intro st2 k2;have eU:=JJ rs (λr=>decide (af.Sm xs ys r)) U;rw[eU];generalize Zi:((rs.filter λr=>decide (af.Sm xs ys r)).map U)=us;have JK:∀r,r∈us↔∃p,af.Rw n xs p/\af.Sm xs ys p/\af.Up n xs ys p r:=λr=>by
  rw[<- Zi,Zag];constructor;rintro⟨p,hp,rfl⟩;obtain⟨h1,h2⟩:=Zaw.mp hp;have sm:af.Sm xs ys p:=of_decide_eq_true h2;exact⟨p,rw' p h1,sm,hU p (rw' p h1) sm⟩;rintro⟨p,a,sm,up⟩;exact⟨p,Zaw.mpr ⟨(hr.mem tx).mpr a,decide_eq_true sm⟩,(hU p a sm).uniq up a sm⟩
 refine hQ _ _ (aW (bK ?_));clear hQ;have h2:items (st2 ++ [O.lst (us.map tI)]) st2.length=some (us.map tI):=qb;have Rv:Ex [] st (st2 ++ [O.lst (us.map tI)]):=(k1.trans k2).app _;generalize (st2 ++ [O.lst (us.map tI)])=st3 at h2 Rv ⊢;generalize st2.length=uu at h2 ⊢;kspl_open hQ;refine Er (rs.map tI) (λd=>!us.contains (ofT d)) (λd=>tI (ofT d)) ?_ (by rw[Z7];lk) ?_ ?_ ?_;kspl_open a8;exact a8 _ _ ⟨pP _ _,Ex.refl⟩;intro d hd lM k4;obtain⟨r,hr',rfl⟩:=Zag.mp hd;refine bA ?_;intro d8 a8;exists Zaq,ZaH,ZaC,ZaD
 rw[L7 (es:=us.map tI) (n:=1) (B0 r) (by rw[HF];exact HN h2 k4) (λe he=>by
  obtain⟨z,_,rfl⟩:=Zag.mp he
  exact B0 z) ∅]
 refine⟨_,rfl,a8 _ _ ⟨?_,Ex.refl⟩⟩;rw[q5];have e:∀c:Decidable (tI r∈us.map tI),@decide (tI r∈us.map tI) c=us.contains r:=λc=>by
  rw[Za4,decide_eq_true_eq,ZaP,Zag];constructor;rintro⟨z,hz,e⟩;rw[<- MK e];exact hz;intro h;exact⟨r,h,rfl⟩
 show(!_)=!us.contains r;rw[e];intro d hd hq lM k4;obtain⟨r,hr',rfl⟩:=Zag.mp hd;kspl_open a8;exact a8 _ _ ⟨by rw[q5],Ex.refl⟩;intro lM k4;have e3:=JJ rs (λr=>!us.contains r) (λr=>r);rw[List.map_id']at e3;rw[e3];have hq:∀r∈rs,(!us.contains r)=true↔∀p,af.Rw n xs p->af.Sm xs ys p->¬af.Up n xs ys p r:=λr hr'=>by
  rw[ZbU,<- Bool.not_eq_true,ZaP,JK];constructor;intro h p a s u;exact h ⟨p,a,s,u⟩;rintro h ⟨p,a,s,u⟩;exact h p a s u
 have lw:qx n xs ys rs (if rs.filter (λr=>!us.contains r)=[]then[rs.headD []]else rs.filter λr=>!us.contains r):=⟨_,hq,rfl⟩;have Gu:=(lw.lw tx n0 hr);have hfl:(rs.filter λr=>!us.contains r).length<=n:=Zap (Zbp _ _) hl;have h4:items (lM ++ [O.lst ((rs.filter λr=>!us.contains r).map tI)]) lM.length=some ((rs.filter λr=>!us.contains r).map tI):=qb;have AX:Ex [] st (lM ++ [O.lst ((rs.filter λr=>!us.contains r).map tI)]):=(Rv.trans k4).app _;have fin:∀(lows:List (List Int)) (g9:Store) (r5:Nat),qx n xs ys rs lows->lows.length<=n->items g9 r5=some (lows.map tI)->Ex [] st g9->Ws (aV (aK aZ (ae (aK ku (ae (bJ (ko (ag 3)) 1 [0] (hName 0) cu (aK BM (ae (ag 1) (ae (ag 0) ah)))) ah)) ah)) [some (bE xs ys),some (.tup (rs.map tI)),some (.ref uu),some (.ref r5)] g9) (λ_ st1=>sr n xs ys st .non st1) (λ_ _=>False) (λ_ _=>False) (sr n xs ys st):=by
  intro lows g9 r5 hL Zj h5 k5;have sub:=(hL.lw tx n0 hr).sub;refine cW ?_;kspl_open hQ;refine tu (lows.map tI) (λd=>gS (ofT d) (B (ofT d))) ?_ (by rw[Z7];lk) ?_ ?_;kspl_open a8;exact⟨_,h5,a8 _ _ ⟨WA h5,Ex.refl⟩⟩;intro d hd BH k6;obtain⟨l,hl',rfl⟩:=Zag.mp hd;have a:=rw' l (sub l hl');refine bA ?_;intro d8 a8;exists Zaq,ZaH,ZaC,ZaD;refine aQ (MJ tx ty ⋯ a) ?_;rintro d qA ⟨b,rfl,hb',k7⟩;refine a8 _ _ ⟨?_,k7⟩;rw[q5,hb'.unique (hB l a)];intro BH k6;have eB:(lows.map tI).map (λd=>gS (ofT d) (B (ofT d)))=lows.map λl=>gS l (B l):=by
   rw[Zat];refine ZaX λl _=>?_;show gS (ofT (tI l)) (B (ofT (tI l)))=_;rw[q5]
  rw[eB,QB LK (sM (f:=cK _ 20) (g:=λl=>gS l (B l)) (k:=λl=>dn l (B l)) (λl=>Rn _ l (B l)) lows) (Rr ⋯)];exists qb;exact hQ _ _ ⟨rs,lows,B,rfl,hr,hL,λl hl'=>hB l (rw' l (sub l hl')),Zj,((k5.trans k6).app _).app _⟩
 refine hQ _ _ (aW (kq ?_));clear hQ;refine bA ?_;intro cn hQ;exists h4;refine hQ _ _ ⟨λhc=>bK ?_,λhc=>mj ?_⟩;have hc:(rs.filter λr=>!us.contains r)=[]:=by
  have h:=of_decide_eq_true hc;rw[Z7]at h;exact Zbx ⋯
 rw[if_pos hc]at lw;obtain⟨r0,hr0,_⟩:=hr.has (x:=0) ∅ ⋯;have Zk:gD (rs.map tI) 0=some (tI (rs.headD [])):=by
  refine tQ (j:=0) ?_;cases rs with
  |nil=>cases hr0
  |cons a t=>rfl
 clear hQ;refine bA ?_;intro cn hQ;exists Zk;refine⟨rfl,hQ _ _ ?_⟩;exact fin [rs.headD []] _ _ lw (by simp;lk) qb (AX.app _);have hc:(rs.filter λr=>!us.contains r)≠[]:=by
  have h:=of_decide_eq_false hc;rw[Z7]at h;intro z;rw[z]at h;exact h rfl
 rw[if_neg hc]at lw;exact fin _ _ _ lw hfl h4 AX
def Rx(lows:List (List Int))(B:List Int->List (List Int)):∃M:List (List Int),M.Perm lows/\AW lows B=M.map (λl=>gS l (B l))/\M.Pairwise λl l'=>md (dn l' (B l')) (dn l (B l))=false:=by
 refine⟨(nR (lows.map λl=>dn l (B l))).map λi=>lows.getD i [],?_,?_,?_⟩;have h:=(xQ (lows.map λl=>dn l (B l))).map λi=>lows.getD i [];refine h.trans ?_;have e:(List.range (lows.map λl=>dn l (B l)).length).map (λi=>lows.getD i [])=lows:=by
  refine List.ext_getElem (by simp) λi h1 h2=>?_;rw[Zb1,Zcu,Zad,Z8 h2];rfl
 rw[e];unfold AW qX;rw[Zat];refine ZaX λi hi=>?_;have hi':=ZaV.mp ((xQ _).subset hi);rw[Z7]at hi';show(lows.map λl=>gS l (B l)).getD i .non=gS (lows.getD i []) (B (lows.getD i []));rw[Zad,Zae,Zad,Z8 hi'];rfl
 have h:=Qw (ps:=lows.map λl=>dn l (B l)) (λa ha b hb=>by
  obtain⟨p,_,rfl⟩:=Zag.mp ha;obtain⟨q,_,rfl⟩:=Zag.mp hb
  exact Rq _ _ _ _)
 rw[Zba]at h ⊢;refine Zbh (λ{i j} hi hj h=>?_) h;have at':∀i,i∈nR (lows.map λl=>dn l (B l))->(lows.map λl=>dn l (B l)).getD i .none=dn (lows.getD i []) (B (lows.getD i [])):=λi hi=>by
  have hi':=ZaV.mp ((xQ _).subset hi);rw[Z7]at hi';rw[Zad,Zae,Zad,Z8 hi'];rfl
 rw[at' i hi,at' j hj]at h;exact h
def JL(l:List Int):oE (tI l)=some l:=WT l
def AY{n:Nat}{xs ys l r u:List Int}{b:List (List Int)}(tx:af.Tn n xs)(ty:af.Tn n ys)(c:af.Ch n xs ys l b)(hr:b[b.length-1]?=some r)(hs:af.Sm xs ys r)(up:af.Up n xs ys r u)(hm:u∈b):u=l:=by
 obtain⟨j,hj⟩:=Zbk hm;cases j with
 |zero=>rw[c.hd]at hj;cases hj;rfl
 |succ j =>
  have hlt:=fH hj;have h1:b[j]?=some b[j]:=Z8 ⋯;obtain⟨s1,u1⟩:=c.st j _ u h1 hj;have e:=up.inj tx ty u1 (c.rw r (Zab hr)) (c.rw _ (ZaL _)) hs s1;have:=(List.getElem?_inj (show b.length-1<b.length by lk) c.nd).mp (hr.trans (by rw[e];exact h1.symm));lk
def Zl{st:Store}{Q:D->Store->Prop}{neg:Bool}{a b:Nat}{L M:List (List Int)}(ha:items st a=some (L.map tI))(hb:items st b=some (M.map tI)):Wp (jn neg (.ref a) (.ref b) st) Q↔Q (.bl (if neg then !decide (L=M)else decide (L=M))) st:=by
 have p1:∀(i:Nat) (N:List (List Int)),items st i=some (N.map tI)->cK st 20 (.ref i)=some (.list (N.map lP)):=λi N h=>by
  simp only[cK,h];rw[sM (f:=cK st 19) (g:=tI) (k:=lP) (λl=>Rm st 17 l) N];rfl
 have dp:∀N:List (List Int),PyData.depth (.list (N.map lP))<=2:=λN=>by show PyData.depthAll (N.map lP)+1<=2;have:=NY N;lk
 rw[HI];constructor;rintro⟨p,q,h1,h2,_,h⟩;rw[p1 a L ha]at h1;rw[p1 b M hb]at h2;cases h1;cases h2;rw[HK,LS]at h;exact h;intro h;refine⟨_,_,p1 a L ha,p1 b M hb,⟨KG L,KG M,by have:=dp L;lk⟩,?_⟩;rw[HK,LS];exact h
abbrev rg(L:List (List Int))(U:List Int->List Int):List (List Int×D):=L.map λr=>(r,tI (U r))
def Gv(U:List Int->List Int)(r:List Int):∀L:List (List Int),nS (rg L U) r=if r∈L then some (tI (U r))else none
 |[]=>rfl
 |a :: L=>by
  have ih:=Gv U r L;unfold nS rg at ih ⊢;rw[Zaq,Za5];by_cases e:a=r;subst e;rw[if_pos Zac];simp;rw[show decide (a=r)=false from decide_eq_false e];simp only[Zax,show ¬r=a fromλz=>e z.symm,false_or];exact ih
def Zm{U:List Int->List Int}{L:List (List Int)}{r:List Int}(h:r ∉ L):qk (rg L U) r (tI (U r))=rg (L ++ [r]) U:=by unfold qk;rw[Gv,if_neg h,if_neg (by simp)];unfold rg;rw[Zau];rfl
def Zn{st:Store}{xs ys:List Int}{n:Nat}(tx:af.Tn n xs)(ty:af.Tn n ys)(n0:0<n)(hn:n<=60):Wp (u3 [bE xs ys] st) (sr n xs ys st):=by
 have hlx:=tx.length;have uK:=ty.length;obtain⟨U,hU⟩:∃U:List Int->List Int,∀r,af.Rw n xs r->af.Sm xs ys r->af.Up n xs ys r (U r):=by
  have:∀r,∃r',af.Rw n xs r->af.Sm xs ys r->af.Up n xs ys r r':=λr=>by
   by_cases h:af.Rw n xs r/\af.Sm xs ys r;obtain⟨_,_,_,r',_,u,_⟩:=JI (st:=[]) tx ty ⋯ h.1 h.2;exact⟨r',λ_ _=>u⟩;exact⟨[],λa b=>absurd ⟨a,b⟩ h⟩
  exact⟨λr=>Classical.choose (this r),λr=>Classical.choose_spec (this r)⟩
 obtain⟨B,hB⟩:∃B:List Int->List (List Int),∀l,af.Rw n xs l->af.Bd n xs ys l (B l):=by
  have:∀l,∃b,af.Rw n xs l->af.Bd n xs ys l b:=λl=>by
   by_cases h:af.Rw n xs l;obtain⟨_,_,_,b,_,u,_⟩:=MJ (st:=[]) tx ty ⋯ h;exact⟨b,λ_=>u⟩;exact⟨[],λa=>absurd a h⟩
  exact⟨λr=>Classical.choose (this r),λr=>Classical.choose_spec (this r)⟩
 refine d4 ?_;show Ws (Jp [some (bE xs ys),none,none,none,none,none,none,none] st) _ _ _ _;unfold Jp;refine aW (tm ?_);refine bA ?_;intro cn hQ;w_how;refine aQ (Zd tx ty ⋯) ?_;rintro d st1 ⟨rfl,k1⟩;rw[JH];refine aQ (Zc tx ⋯) ?_;rintro d st2 ⟨rs,rfl,hr,hb,hl,k2⟩;have rw':=hr.rw tx;have hnd:=hr.nodup tx;have e0:wj rs=D.tup (rs.map tI):=rfl;rw[e0];refine⟨rfl,hQ _ _ ?_⟩;clear hQ;refine bA ?_;intro cn hQ;w_how;refine⟨rfl,hQ _ _ (aW (bK ?_))⟩;clear hQ;refine bA ?_;intro cn hQ;exists WW;have kk:Ex [] st (st2 ++ [O.nV []]):=(k1.trans k2).app _;have hc0:(st2 ++ [O.nV []])[st2.length]?=some (O.nV []):=kg;have hcl:st.length<=st2.length:=(k1.trans k2).len;refine hQ _ _ ?_;clear hQ;generalize (st2 ++ [O.nV []])=st3 at kk hc0 ⊢;generalize st2.length=c at hcl hc0 ⊢;refine aW (pN (rs.map tI) (λk δ s=>∃(v4:Option D),δ=[some (bE xs ys),some (.tup ((af.j3 xs ys).map D.int)),some (.tup (rs.map tI)),some (.ref c),v4,none,none,none]/\s[c]?=some (.nV (rg ((rs.take k).filter λr=>decide (af.Sm xs ys r)) U))/\Ex [] st s) ?_ (by rw[Z7];lk) ?_ ?_);refine bA ?_;intro cn hQ;w_how;exact hQ _ _ ⟨rfl,_,rfl,hc0,kk⟩;rintro k d δ s hd ⟨v4,rfl,hc,ks⟩;obtain⟨r,hrk,rfl⟩:∃r,rs[k]?=some r/\d=tI r:=by
  rw[Zae]at hd;obtain⟨l,h1,h2⟩:=Zaz.mp hd;exact⟨l,h1,h2.symm⟩
 have hr1:=Zab hrk;have p6:=fH hrk;have ar:=rw' r hr1;have B1:=ar.bound tx;have ZU:=ar.len tx;have Ry:rs.take (k+1)=rs.take k ++ [r]:=by rw[List.take_succ,hrk];rfl
 refine bA ?_;intro cn hQ;w_how;refine hQ _ _ (kq ?_);clear hQ;unfold tI;refine bA ?_;intro cn hQ;w_how;refine Er (r.map D.int) (λd=>decide (af.app (af.j3 xs ys) (inD d)≠inD d)) (λd=>d) ?_ (by rw[Z7];lk) ?_ ?_ ?_;kspl_open a8;exact a8 _ _ ⟨pP _ _,Ex.refl⟩;intro d hd g9 k5;obtain⟨x,hx,rfl⟩:=uF hd;obtain⟨x0,x1⟩:=B1 x hx;refine bA ?_;intro d8 a8;exists Zaq,ZaH,ZaC,ZaD,pe (xs:=af.j3 xs ys) x0 (by rw[(tx.j3 ty).length];exact x1);refine a8 _ _ ⟨?_,Ex.refl⟩;show _=decide (af.app (af.j3 xs ys) x≠x);rw[decide_not];intro d hd hq g9 k5;obtain⟨x,hx,rfl⟩:=uF hd;refine bA ?_;intro d8 a8;exists Zaq,ZaH,ZaC,ZaD;exact a8 _ _ ⟨rfl,Ex.refl⟩;intro g9 k5;have eF:((r.map D.int).filter λd=>decide (af.app (af.j3 xs ys) (inD d)≠inD d)).map (λd=>d)=(r.filter λx=>decide (af.app (af.j3 xs ys) x≠x)).map D.int:=by
  rw[List.map_id',List.filter_map];rfl
 rw[eF];refine⟨rfl,?_⟩;have hA:items (g9 ++ [O.lst ((r.filter λx=>decide (af.app (af.j3 xs ys) x≠x)).map D.int)] ++ [O.lst []]) g9.length=some ((r.filter λx=>decide (af.app (af.j3 xs ys) x≠x)).map D.int):=cQ (j5 kg);have hE:items (g9 ++ [O.lst ((r.filter λx=>decide (af.app (af.j3 xs ys) x≠x)).map D.int)] ++ [O.lst []]) (g9 ++ [O.lst ((r.filter λx=>decide (af.app (af.j3 xs ys) x≠x)).map D.int)]).length=some (([]:List Int).map D.int):=qb;rw[LR hA hE];clear hA hE;have eS:decide ((r.filter λx=>decide (af.app (af.j3 xs ys) x≠x))=[])=decide (af.Sm xs ys r):=by
  rw[Za4,decide_eq_true_eq,decide_eq_true_eq,List.filter_eq_nil_iff];constructor;intro h x hx
  have:=h x hx;exact(af.Hl tx ty (B1 x hx).1 (B1 x hx).2).mp (by simpa using this)
  intro h x hx
  have:=(af.Hl tx ty (B1 x hx).1 (B1 x hx).2).mpr (h x hx);simp[this]
 rw[if_neg ∅,eS];have k6:Ex [] st (g9 ++ [O.lst ((r.filter λx=>decide (af.app (af.j3 xs ys) x≠x)).map D.int)] ++ [O.lst []]):=((ks.trans k5).app _).app _;have hc6:(g9 ++ [O.lst ((r.filter λx=>decide (af.app (af.j3 xs ys) x≠x)).map D.int)] ++ [O.lst []])[c]?=some (.nV (rg ((rs.take k).filter λr=>decide (af.Sm xs ys r)) U)):=j5 (j5 (k5.keep _ _ hc (by simp)));generalize (g9 ++ [O.lst ((r.filter λx=>decide (af.app (af.j3 xs ys) x≠x)).map D.int)] ++ [O.lst []])=s6 at k6 hc6 ⊢;refine⟨_,rfl,hQ _ _ ⟨λhs=>?_,λhs=>mj ⟨_,rfl,?_,k6⟩⟩⟩;have sm:af.Sm xs ys r:=of_decide_eq_true hs;obtain⟨x,Rz⟩:∃x,r[0]?=some x:=by
  obtain⟨y,hy⟩:=ar.one;exact⟨r[0]'(Zch hy),Z8 _⟩
 have RA:=Zab Rz;obtain⟨x0,x1⟩:=B1 x RA;obtain⟨y0,y1⟩:=ty.app x0 x1;have hat:gD (r.map D.int) 0=some (.int x):=tQ (j:=0) (by rw[Zae,Rz];rfl);refine WX ?_;clear hQ;refine bA ?_;intro cn hQ;w_how;refine Er (rs.map tI) (λd=>(ofT d).contains (af.app ys x)) (λd=>tI (ofT d)) ?_ (by rw[Z7];lk) ?_ ?_ ?_;kspl_open a8;exact a8 _ _ ⟨pP _ _,Ex.refl⟩;intro d hd s8 k8;obtain⟨u,hu,rfl⟩:=Zag.mp hd;unfold tI;refine bA ?_;intro d8 a8;exists Zaq,ZaH,ZaC,ZaD,Ri,hat,pe (xs:=ys) x0 (by rw[uK];exact x1);rw[Eo (ns:=u) Qa];refine⟨_,rfl,a8 _ _ ⟨?_,Ex.refl⟩⟩;show _=(ofT (tI u)).contains (af.app ys x);rw[q5];rfl;intro d hd hq s8 k8;obtain⟨u,hu,rfl⟩:=Zag.mp hd;refine bA ?_;intro d8 a8;exists Zaq,ZaH,ZaC,ZaD;exact a8 _ _ ⟨by rw[q5],Ex.refl⟩;intro s8 k8;have eF:=JJ rs (λu=>u.contains (af.app ys x)) (λu=>u);rw[List.map_id']at eF;rw[eF];obtain⟨u,JG⟩:∃u,(rs.filter λu=>u.contains (af.app ys x))[0]?=some u:=by
  obtain⟨u,hu,hy⟩:=hr.has y0 y1;have hm:u∈rs.filter λu=>u.contains (af.app ys x):=Zaw.mpr ⟨hu,ZaP.mpr hy⟩;exact⟨_,Z8 (Zch hm)⟩
 obtain⟨hu,ML⟩:=Zaw.mp (Zab JG);have ML:af.app ys x∈u:=ZaP.mp ML;have up:af.Up n xs ys r u:=⟨rw' u hu,x,RA,ML⟩;have eU:u=U r:=up.uniq (hU r ar sm) ar sm;have MN:gD ((rs.filter λu=>u.contains (af.app ys x)).map tI) 0=some (tI u):=tQ (j:=0) (by rw[Zae,JG];rfl);have k9:Ex [] st (s8 ++ [O.lst ((rs.filter λu=>u.contains (af.app ys x)).map tI)]):=(k6.trans k8).app _;have MO:(s8 ++ [O.lst ((rs.filter λu=>u.contains (af.app ys x)).map tI)])[c]?=some (.nV (rg ((rs.take k).filter λr=>decide (af.Sm xs ys r)) U)):=j5 (k8.keep _ _ hc6 (by simp));have RB:items (s8 ++ [O.lst ((rs.filter λu=>u.contains (af.app ys x)).map tI)]) s8.length=some ((rs.filter λu=>u.contains (af.app ys x)).map tI):=qb;generalize (s8 ++ [O.lst ((rs.filter λu=>u.contains (af.app ys x)).map tI)])=s9 at k9 MO RB ⊢;exists RB,MN;refine hQ _ _ ?_;w_how;have MP:r ∉ (rs.take k).filter λr=>decide (af.Sm xs ys r):=λhm=>by
  obtain⟨i,hi⟩:=Zbk (Zaw.mp hm).1;have hik:i<k:=by have:=fH hi;rw[Za0]at this;lk
  rw[List.getElem?_take_of_lt hik]at hi;have:=(List.getElem?_inj (fH hi) hnd).mp (hi.trans hrk.symm);lk
 refine⟨_,Es MO,r,JL r,jg ?_,?_,k9.loc hcl⟩;unfold rg;rw[Z7];exact Zap (Zbp _ _) (by rw[Za0];lk);rw[Zal (fH MO),eU,Zm MP,Ry,Zca];simp[sm];have ns:¬af.Sm xs ys r:=of_decide_eq_false hs;rw[Ry,Zca,hc6];simp[ns];rintro δ s ⟨v4,rfl,hc,ks⟩;rw[Z7,Za6]at hc;have B2:∀r,r∈rs.filter (λr=>decide (af.Sm xs ys r))↔af.Rw n xs r/\af.Sm xs ys r:=λr=>by
  rw[Zaw,hr.mem tx,decide_eq_true_eq]
 generalize hL:(rs.filter λr=>decide (af.Sm xs ys r))=L at hc B2;have ZV:L.length<=n:=by rw[<- hL];exact Zap (Zbp _ _) hl
 have eV:(rg L U).map (·.2)=(L.map U).map tI:=by unfold rg;rw[Zat,Zat];rfl
 have JK:∀r,r∈L.map U↔∃p,af.Rw n xs p/\af.Sm xs ys p/\af.Up n xs ys p r:=λr=>by
  rw[Zag];constructor;rintro⟨p,hp,rfl⟩;obtain⟨a,sm⟩:=(B2 p).mp hp;exact⟨p,a,sm,hU p a sm⟩;rintro⟨p,a,sm,up⟩;exact⟨p,(B2 p).mpr ⟨a,sm⟩,(hU p a sm).uniq up a sm⟩
 generalize L.map U=us at eV JK;refine aW (bK ?_);refine bA ?_;intro _ hQ;refine Er (rs.map tI) (λd=>!us.contains (ofT d)) (λd=>tI (ofT d)) ?_ (by rw[Z7];lk) ?_ ?_ ?_;kspl_open a8;exact a8 _ _ ⟨pP _ _,Ex.refl⟩;intro d hd s4 k4;obtain⟨r,hr',rfl⟩:=Zag.mp hd;refine bA ?_;intro d8 a8;exists Zaq,ZaH,ZaC,ZaD,WZ;refine⟨_,Es (k4.keep _ _ hc (by simp)),?_⟩
 rw[eV,L7 (es:=us.map tI) (n:=1) (B0 r) (by rw[HF];exact qb) (λe he=>by
  obtain⟨z,_,rfl⟩:=Zag.mp he
  exact B0 z) ∅]
 refine⟨_,rfl,a8 _ _ ⟨?_,(Ex.refl).app _⟩⟩;rw[q5];have e:∀c:Decidable (tI r∈us.map tI),@decide (tI r∈us.map tI) c=us.contains r:=λc=>by
  rw[Za4,decide_eq_true_eq,ZaP,Zag];constructor;rintro⟨z,hz,e⟩;rw[<- MK e];exact hz;intro h;exact⟨r,h,rfl⟩
 show(!_)=!us.contains r;rw[e];intro d hd hq s4 k4;obtain⟨r,hr',rfl⟩:=Zag.mp hd;refine bA ?_;intro d8 a8;exists Zaq,ZaH,ZaC,ZaD;exact a8 _ _ ⟨by rw[q5],Ex.refl⟩;intro s4 k4;have e3:=JJ rs (λr=>!us.contains r) (λr=>r);rw[List.map_id']at e3;rw[e3];have hq:∀r∈rs,(!us.contains r)=true↔∀p,af.Rw n xs p->af.Sm xs ys p->¬af.Up n xs ys p r:=λr hr'=>by
  rw[ZbU,<- Bool.not_eq_true,ZaP,JK];constructor;intro h p a s u;exact h ⟨p,a,s,u⟩;rintro h ⟨p,a,s,u⟩;exact h p a s u
 have lw:qx n xs ys rs (if rs.filter (λr=>!us.contains r)=[]then[rs.headD []]else rs.filter λr=>!us.contains r):=⟨_,hq,rfl⟩;have Gu:=(lw.lw tx n0 hr);have hfl:(rs.filter λr=>!us.contains r).length<=n:=Zap (Zbp _ _) hl;have h4:(s4 ++ [O.lst ((rs.filter λr=>!us.contains r).map tI)])[s4.length]?=some (.lst ((rs.filter λr=>!us.contains r).map tI)):=kg;have AX:Ex [] st (s4 ++ [O.lst ((rs.filter λr=>!us.contains r).map tI)]):=(ks.trans k4).app _;have hc4:(s4 ++ [O.lst ((rs.filter λr=>!us.contains r).map tI)])[c]?=some (.nV (rg L U)):=j5 (k4.keep _ _ hc (by simp));generalize ZW:(rs.filter λr=>!us.contains r)=bg at h4 AX hc4 lw Gu hfl ⊢;generalize hlo:(if bg=[]then[rs.headD []]else bg)=lows at lw Gu;refine hQ _ _ (aW (bK ?_));clear hQ;generalize (s4 ++ [O.lst (bg.map tI)])=s5 at h4 AX hc4 ⊢;generalize s4.length=rb at h4 ⊢;refine bA ?_;intro cn hQ;w_how;refine⟨rfl,hQ _ _ ?_⟩;clear hQ;have h5:(s5 ++ [O.lst []])[s5.length]?=some (.lst []):=kg;have JM:(s5 ++ [O.lst []])[rb]?=some (.lst (bg.map tI)):=j5 h4;have hc5:(s5 ++ [O.lst []])[c]?=some (.nV (rg L U)):=j5 hc4;have RC:Ex [] st (s5 ++ [O.lst []]):=AX.app _;have hfs:st.length<=s5.length:=AX.len;generalize (s5 ++ [O.lst []])=s6 at h5 JM hc5 RC ⊢;generalize s5.length=rf at h5 hfs ⊢;have hlen2:lows.length<=n:=by
  rw[<- hlo];split;simp;lk;exact hfl
 have uM:bg.map tI ++ (List.replicate (if decide (bg=[])=true then(1:Int)else 0).toNat ((rs.map tI).take 1)).flatten=lows.map tI:=by
  rw[<- hlo];by_cases e:bg=[];subst e;obtain⟨r0,hr0,_⟩:=hr.has (x:=0) ∅ ⋯;cases rs with
  |nil=>cases hr0
  |cons a t=>rfl
  rw[if_neg e,if_neg (by simpa using e)];simp
 have MQ:cutD (rs.map tI) none (some 1)=(rs.map tI).take 1:=Qh (rs.map tI) 1;refine aW (LJ (lows.map tI) (s6.length+3) (λj δ s=>∃(v4 v7:Option D),δ=[some (bE xs ys),some (.tup ((af.j3 xs ys).map D.int)),some (.tup (rs.map tI)),some (.ref c),v4,some (.ref rb),some (.ref rf),v7]/\items s (s6.length+3)=some (lows.map tI)/\s[c]?=some (.nV (rg L U))/\s[rf]?=some (.lst ((lows.take j).map λl=>gS l (B l)))/\Ex [] st s) ?_ (by rw[Z7];lk) ?_ ?_ ?_);refine bA ?_;intro cn hQ;exists cQ JM,MQ;refine⟨rfl,?_⟩;have hA:items (s6 ++ [O.lst ((rs.map tI).take 1)] ++ [O.lst []]) rb=some (bg.map tI):=cQ (j5 (j5 JM));have hE:items (s6 ++ [O.lst ((rs.map tI).take 1)] ++ [O.lst []]) (s6 ++ [O.lst ((rs.map tI).take 1)]).length=some (([]:List (List Int)).map tI):=qb;rw[Zl hA hE,if_neg ∅];clear hA hE;have hO:own (s6 ++ [O.lst ((rs.map tI).take 1)] ++ [O.lst []]) s6.length=some ((rs.map tI).take 1):=lL (j5 kg);have RD:(s6 ++ [O.lst ((rs.map tI).take 1)] ++ [O.lst []])[rb]?=some (.lst (bg.map tI)):=j5 (j5 JM);have RE:(s6 ++ [O.lst ((rs.map tI).take 1)] ++ [O.lst []])[c]?=some (.nV (rg L U)):=j5 (j5 hc5);have RF:(s6 ++ [O.lst ((rs.map tI).take 1)] ++ [O.lst []])[rf]?=some (.lst []):=j5 (j5 h5);have Gw:Ex [] st (s6 ++ [O.lst ((rs.map tI).take 1)] ++ [O.lst []]):=(RC.app _).app _;have e7:(s6 ++ [O.lst ((rs.map tI).take 1)] ++ [O.lst []]).length=s6.length+2:=by simp
 generalize (s6 ++ [O.lst ((rs.map tI).take 1)] ++ [O.lst []])=s7 at hO RD RE RF Gw e7 ⊢;exists hO;generalize hF:(List.replicate (if decide (bg=[])=true then(1:Int)else 0).toNat ((rs.map tI).take 1)).flatten=F at uM ⊢;have Yr:bg.length+F.length=lows.length:=by
  have:=congrArg List.length uM
  rwa [Zaf,Z7,Z7]at this
 have e8:(s7 ++ [O.lst F]).length=s6.length+3:=by rw[Zaf,e7];rfl
 refine⟨⟨by split<;>decide,by split<;>decide⟩,jg ?_,_,lL (j5 RD),jg (by rw[Z7];lk),hQ _ _ ⟨by rw[e8],_,_,rfl,?_,j5 (j5 RE),j5 (j5 RF),(Gw.app _).app _⟩⟩;have h1:((rs.map tI).take 1).length<=1:=by rw[Za0];lk
 have h2:(if decide (bg=[])=true then(1:Int)else 0).toNat<=1:=by split<;>decide
 exact Zap (ZbC h1 h2) ∅;rw[<- e8,uM];exact qb;rintro j δ s ⟨_,_,_,h,_⟩;exact h;rintro j d δ s hd ⟨v4,v7,rfl,hit,RG,JN,kj⟩;obtain⟨l,RH,rfl⟩:∃l,lows[j]?=some l/\d=tI l:=by
  rw[Zae]at hd;obtain⟨l,h1,h2⟩:=Zaz.mp hd;exact⟨l,h1,h2.symm⟩
 have hl1:=Gu.sub l (Zab RH);have al:=rw' l hl1;have u7:=al.len tx;refine bA ?_;intro cn hQ;w_how;refine hQ _ _ (aW (bK ?_));clear hQ;refine bA ?_;intro cn hQ;w_how;have hjl:st.length<=s.length:=kj.len;refine⟨rfl,hQ _ _ (aW (uB (λm δ s2=>∃b:List (List Int),m=n-b.length/\δ=[some (bE xs ys),some (.tup ((af.j3 xs ys).map D.int)),some (.tup (rs.map tI)),some (.ref c),some (tI l),some (.ref rb),some (.ref rf),some (.ref s.length)]/\s2[s.length]?=some (.lst (b.map tI))/\af.Ch n xs ys l b/\Ex [] s s2) (n-1) (ZaW (show n-1<=100 by lk) ∅) ⟨[l],rfl,rfl,kg,af.Ch.one al,Ex.cg _⟩ ?_))⟩;clear hQ;rintro m δ s2 ⟨b,rfl,rfl,AZ,ch,k2⟩;have hb:=ch.len tx;have hb0:0<b.length:=by have:=(Z9.mp ch.hd).1;lk
 obtain⟨r,hr2⟩:∃r,b[b.length-1]?=some r:=⟨b[b.length-1],Z8 ⋯⟩;have ar:=ch.rw r (Zab hr2);have hat:gD (b.map tI) (-1)=some (tI r):=QE (by rw[Z7,Zae,hr2];rfl);have hc2:=k2.keep _ _ RG (by simp);have hf2:=k2.keep _ _ JN (by simp);refine bA ?_;intro cn hQ;exists cQ AZ,hat,Ay,QI;refine⟨_,Es hc2,r,JL r,?_⟩
 suffices key:cn (decide (af.Sm xs ys r/\U r ∉ b)) s2 by
  rw[Gv];by_cases sm:af.Sm xs ys r;have hm:r∈L:=(B2 r).mpr ⟨ar,sm⟩;rw[if_pos hm,if_pos (show(some (tI (U r))).isSome=true from rfl)];refine⟨_,Es hc2,r,JL r,_,by rw[Gv,if_pos hm],?_⟩
  rw[L7 (es:=b.map tI) (n:=1) (B0 _) (by rw[HF];exact cQ AZ) (λe he=>by
   obtain⟨z,_,rfl⟩:=Zag.mp he
   exact B0 z) ∅]
  have e:∀cc:Decidable (tI (U r)∈b.map tI),(!@decide (tI (U r)∈b.map tI) cc)=decide (af.Sm xs ys r/\U r ∉ b):=λcc=>by
   rw[Za4,ZbU,decide_eq_false_iff_not,decide_eq_true_eq,Zag];constructor;intro h;exact⟨sm,λz=>h ⟨U r,z,rfl⟩⟩;rintro⟨_,h⟩ ⟨z,hz,e⟩;rw[MK e]at hz;exact h hz
  rw[if_pos rfl,e];exact⟨_,rfl,key⟩;have hm:r ∉ L:=λz=>sm ((B2 r).mp z).2;rw[if_neg hm,if_neg (by simp)];rw[decide_eq_false (λz=>sm z.1)]at key;exact key
 refine hQ _ _ ⟨λht=>?_,λhf=>?_⟩;obtain⟨sm,MP⟩:=of_decide_eq_true ht;have hm:r∈L:=(B2 r).mpr ⟨ar,sm⟩;have c':=ch.snoc tx ty hr2 sm (hU r ar sm) (λz=>MP (by rw[z];exact Zab ch.hd));have hb':=c'.len tx;rw[Zaf,ZaO]at hb';clear hQ;refine r9 ?_;refine bA ?_;intro cn hQ;exists cQ AZ,lL AZ,hat,QI;refine⟨qV (by rw[cQ AZ];rfl),_,Es hc2,r,JL r,_,by rw[Gv,if_pos hm],jg (by rw[Z7];lk),hQ _ _ ⟨n-(b.length+1),by lk,b ++ [U r],by rw[Zaf,ZaO],rfl,?_,c',k2.loc (Zaa _)⟩⟩;rw[Zal (fH AZ),Zau];rfl
 have bd:af.Bd n xs ys l b:=⟨ch,λq hq hs=>by
  rw[hr2]at hq;cases hq;have hm:U r∈b:=Classical.byContradiction λz=>of_decide_eq_false hf ⟨hs,z⟩;have up:=hU r ar hs;rw[AY tx ty ch hr2 hs up hm]at up
  exact up⟩
 have eb:b=B l:=bd.unique (hB l al);clear hQ;refine r9 ?_;refine bA ?_;intro cn hQ;exists cQ AZ,lL hf2;have ZX:=fH h5;have ZY:=fH hc5;have Mt:(lows.take j).length<=n:=by rw[Za0];lk
 have hne:rf≠c:=λz=>by rw[z,hc5]at h5;cases h5
 refine⟨qV (by rw[cQ hf2];rfl),l.map D.int,rfl,rfl,jg (by rw[Z7];lk),hQ _ _ ⟨_,_,rfl,?_,?_,?_,(kj.trans k2).loc hfs⟩⟩;have h3:=HN hit k2;unfold items at h3 ⊢;rw[ZaA ⋯];exact h3;rw[ZaA hne];exact hc2;rw[Zal (fH hf2),List.take_succ,RH,eb];simp only[Option.toList_some,Zau,Zaq,ZaH,Z7];rfl;rintro δ s ⟨v4,v7,rfl,hit,RG,JN,kj⟩;rw[Z7,Za6]at JN;refine cW ?_;refine bA ?_;intro cn hQ;w_how;rw[QB (lL JN) (sM (f:=cK _ 20) (g:=λl=>gS l (B l)) (k:=λl=>dn l (B l)) (λl=>Rn _ l (B l)) lows) (Rr ⋯)];exists qb;exact hQ _ _ ⟨rs,lows,B,rfl,hr,lw,λl hl'=>hB l (rw' l (Gu.sub l hl')),hlen2,kj.app _⟩
def qx.lo{n:Nat}{xs ys:List Int}{rs lows:List (List Int)}(h:qx n xs ys rs lows)(tx:af.Tn n xs)(n0:0<n)(g:af.i5 xs (af.upto n) rs):af.Lo n xs ys lows:=by
 have lw:=h.lw tx n0 g;obtain⟨q,hq,rfl⟩:=h;refine⟨lw.nd,λl hl=>g.rw tx l (lw.sub l hl),?_⟩;split
 ·next e =>
  refine .inr ⟨⟨_,rfl⟩,λr a k=>?_⟩;have:r∈rs.filter q:=Zaw.mpr ⟨(g.mem tx).mpr a,(hq r ((g.mem tx).mpr a)).mpr k⟩;rw[e]at this;cases this
 ·next e =>
  refine .inl ⟨e,λr=>?_⟩;rw[Zaw,g.mem tx];constructor
  ·rintro⟨h1,h2⟩;exact⟨h1,(hq r ((g.mem tx).mpr h1)).mp h2⟩
  ·rintro⟨h1,h2⟩;exact⟨h1,(hq r ((g.mem tx).mpr h1)).mpr h2⟩
abbrev uN(a b:Int×Int):Prop:=a.1<b.1\/(a.1=b.1/\a.2<=b.2)
instance (a b:Int×Int):Decidable (uN a b):=inferInstanceAs (Decidable (_\/_))
abbrev pD(p:Int×Int):D:=.tup [.int p.1,.int p.2]
abbrev kD(p:Nat×Nat):Int×Int:=((p.1:Int),(p.2:Int))
def RI{l l':List Int}{b b':List (List Int)}(h:md (dn l' b') (dn l b)=false):uN ((l.length:Int),(b.length:Int)) ((l'.length:Int),(b'.length:Int)):=by
 have h:(if((l'.length:Int) == (l.length:Int))=true then(if((b'.length:Int) == (b.length:Int))=true then cf [.tuple (b'.map tupI)] [.tuple (b.map tupI)]else decide ((b'.length:Int)<(b.length:Int)))else decide ((l'.length:Int)<(l.length:Int)))=false:=h;unfold uN;show(l.length:Int)<(l'.length:Int)\/((l.length:Int)=(l'.length:Int)/\(b.length:Int)<=(b'.length:Int));by_cases e1:(l'.length:Int)=(l.length:Int);rw[if_pos (by rw[beq_iff_eq];exact e1)]at h;by_cases e2:(b'.length:Int)=(b.length:Int);exact .inr ⟨e1.symm,by lk⟩;rw[if_neg (by rw[beq_iff_eq];exact e2)]at h
 have:=of_decide_eq_false h;exact .inr ⟨e1.symm,by lk⟩
 rw[if_neg (by rw[beq_iff_eq];exact e1)]at h
 have:=of_decide_eq_false h;exact .inl ⋯
def RJ{a b:List (Int×Int)}(p:a.Perm b)(h1:a.Pairwise uN)(h2:b.Pairwise uN):a=b:=L9 p h1 h2 λx _ y _ h h'=>by
 unfold uN at h h';exact Prod.ext ⋯ ⋯
def A0{st:Store}{xs ys g:List Int}{n:Nat}{L:List (Int×Int)}(fl:nu n xs ys)(tg:af.Tn n g)(n0:0<n)(hn:n<=60)(hp:((af.sI n xs ys).map kD).Perm L)(hs:L.Pairwise uN):Wp (BN [bE (af.anew xs g) (af.anew ys g)] st) λd st'=>∃ts:List (D×D×D),d=.tup (ts.map λt=>.tup [t.1,t.2.1,t.2.2])/\(ts.map λt=>D.tup [t.1,t.2.1])=L.map pD/\ts.length<=n/\Ex [] st st':=by
 have tx:=fl.1;have ty:=fl.2.1;have BZ:=af.mw fl tg n0;refine aQ (Zh BZ.1 BZ.2.1 n0 hn) ?_;rintro d st1 ⟨rs',hJ,B',rfl,R',hL',Bt,hl',k1⟩;obtain⟨M,pM,eM,oM⟩:=Rx hJ B';have R:=af.xB tx;have lo:=af.Bu tx ty n0;have P:=af.Lo.anew tx ty tg fl.2.2 BZ.2.2 R R' lo (hL'.lo BZ.1 n0 R') (λl hl=>af.Bw tx ty (lo.rw l hl)) Bt;refine⟨M.map λl=>(.int (l.length:Int),.int ((B' l).length:Int),wj (B' l)),?_,?_,by rw[Z7,pM.length_eq];exact hl',k1⟩;rw[eM,Zat];rfl;have e:(M.map λl=>((l.length:Int),((B' l).length:Int)))=L:=by
  refine RJ ?_ ?_ hs;have p1:(M.map λl=>((l.length:Int),((B' l).length:Int))).Perm (hJ.map λl=>((l.length:Int),((B' l).length:Int))):=pM.map _;have p2:(hJ.map λl=>((l.length:Int),((B' l).length:Int))).Perm ((af.sI n xs ys).map kD):=by
   have:=(P.symm).map kD;rw[Zat]at this;exact this
  exact p1.trans (p2.trans hp);rw[Zba];exact oM.imp λh=>RI h
 rw[<- e,Zat,Zat];rfl
def Zo{st:Store}{a c:Int}(ha:a.natAbs<=10000)(hcb:c.natAbs<=10000):Wp (EA [.int a,.int c] st) λd st'=>d=.int (Int.gcd a c:Nat)/\Ex [] st st':=by
 refine d4 ?_;show Ws (HW [some (.int a),some (.int c)] st) _ _ _ _;unfold HW;refine aW (BJ ?_);have e1:(if 0-a > a then 0-a else a)=(a.natAbs:Int):=by split<;>lk
 have e2:(if 0-c > c then 0-c else c)=(c.natAbs:Int):=by split<;>lk
 refine bA ?_;intro cn hQ;exists e1,e2;refine hQ _ _ ⟨_,_,rfl,?_⟩;clear hQ;refine aW (uB (λm δ s=>∃x y:Nat,y=m/\δ=[some (.int (x:Int)),some (.int (y:Int))]/\Nat.gcd x y=Int.gcd a c/\x<=10000/\y<=10000/\s=st) c.natAbs (ZaW hcb ∅) ⟨a.natAbs,c.natAbs,rfl,rfl,rfl,ha,hcb,rfl⟩ ?_);rintro _ δ s ⟨x,y,rfl,rfl,hp,hx,hy,rfl⟩;kspl_open hQ;refine hQ _ _ ⟨λhb=>BJ ?_,λhb=>cW ?_⟩;have hb:y≠0:=by simpa using hb
 clear hQ;kspl_open hQ;have hlt:=Nat.mod_lt x (show y > 0 by lk);refine⟨by lk,hQ _ _ ⟨_,_,rfl,x % y,hlt,y,x % y,rfl,rfl,?_,by lk,by lk,rfl⟩⟩;rw[Nat.gcd_comm,<- Nat.gcd_rec,Nat.gcd_comm];exact hp;have hb:y=0:=by simpa using hb
 clear hQ;kspl_open hQ;rw[hb,Nat.gcd_zero_right]at hp;exact hQ _ _ ⟨by rw[<- hp],Ex.refl⟩
def Zp(a c:Int)(hc:1<=c)(ha:0<=a):(1<=((Int.gcd a c:Nat):Int)/\((Int.gcd a c:Nat):Int)<=c)/\Int.gcd (a / (Int.gcd a c:Nat)) (c / (Int.gcd a c:Nat))=1/\1<=c / (Int.gcd a c:Nat)/\Int.gcd (-1*a / (Int.gcd a c:Nat)) (c / (Int.gcd a c:Nat))=1:=by
 have g0:0<Int.gcd a c:=Int.gcd_pos_of_ne_zero_right a ⋯;have h1:Int.gcd (a / (Int.gcd a c:Nat)) (c / (Int.gcd a c:Nat))=1:=Int.gcd_ediv_gcd_ediv_gcd g0;have h2:1<=c / (Int.gcd a c:Nat):=by
  have:=Int.le_of_dvd (show(0:Int)<c by lk) (Int.gcd_dvd_right a c);exact(Int.le_ediv_iff_mul_le ⋯).mpr ⋯
 refine⟨⟨by lk,Int.le_of_dvd (show(0:Int)<c by lk) (Int.gcd_dvd_right a c)⟩,h1,h2,?_⟩;have e:-1*a / (Int.gcd a c:Nat)=-(a / (Int.gcd a c:Nat)):=by
  rw[ZaR,Zcg];exact Int.neg_ediv_of_dvd (Int.gcd_dvd_left a c)
 rw[e,Int.neg_gcd];exact h1
def Zq{st:Store}{f:Nat}{most:Int}(hf:bP st f)(m0:1<=most)(m1:most<=1000):Wp (EC [.ref f,.int most] st) λd st'=>∃(a:Int) (h:Nat),d=.tup [.int a,.int (h:Int)]/\(a.natAbs:Int)<=most/\(h:Int)<=most/\Int.gcd a h=1/\¬(a=-1/\h=0)/\bP st' f/\Ex [f] st st':=by
 refine d4 ?_;show Ws (HX [some (.ref f),some (.int most),none,none,none,none] st) _ _ _ _;unfold HX;refine aW (bK ?_);kspl_open hQ;refine aQ (wB (n:=8) hf ∅ ∅) ?_;rintro d st1 ⟨fo,rfl,ZZ,Z0,f1,k1⟩;refine hQ _ _ (aW (kq ?_));clear hQ;kspl_open hQ;refine hQ _ _ ⟨λ_=>cW ?_,λ_=>mj (aW (bK ?_))⟩;clear hQ;kspl_open hQ;exact⟨rfl,hQ _ _ ⟨1,0,rfl,by lk,by lk,rfl,by lk,f1,k1⟩⟩;clear hQ;kspl_open hQ;refine aQ (wB (n:=most) f1 ⋯ ⋯) ?_;rintro d st2 ⟨c1,rfl,Z1,Z2,f2,k2⟩;w_how;refine hQ _ _ (aW (bK ?_));clear hQ;kspl_open hQ;refine aQ (wB (n:=most-(1+c1)+1) f2 ⋯ ⋯) ?_;rintro d st3 ⟨wi,rfl,RK,Z3,f3,k3⟩;refine hQ _ _ (aW (bK ?_));clear hQ;kspl_open hQ;refine aQ (Zo (a:=wi) (c:=1+c1) ⋯ ⋯) ?_;rintro d lM ⟨rfl,k4⟩;have gd:=Zp wi (1+c1) ⋯ RK;obtain⟨g,hg⟩:∃g:Int,((Int.gcd wi (1+c1):Nat):Int)=g:=⟨_,rfl⟩;rw[hg]at gd ⊢;obtain⟨⟨g1,g2⟩,gq,Z4,Zr⟩:=gd;refine hQ _ _ (cW ?_);clear hQ;kspl_open hQ;refine⟨rfl,?_⟩;have f4:=f3.keep k4;refine aQ (wB (n:=2) (f4.keep (Ex.cg [O.lst [D.int 1,D.int (-1)]])) ∅ ∅) ?_;rintro d g9 ⟨b,rfl,b0,b1,f5,k5⟩;have Zs:g9[lM.length]?=some (.lst [.int 1,.int (-1)]):=k5.keep _ _ kg (by have:=f4.lt;simp;lk);obtain⟨sg,hsg,hs1⟩:∃sg:Int,gD [D.int 1,D.int (-1)] b=some (.int sg)/\(sg=1\/sg=-1):=by
  rcases(show b=0\/b=1 by lk)with rfl|rfl
  exact⟨1,LM _ _,.inl rfl⟩;exact⟨-1,LN _ _ _,.inr rfl⟩
 exists cQ Zs,hsg;have hd1:0<=(1+c1) / g:=Int.ediv_nonneg ⋯ ⋯;have hd2:(1+c1) / g<=1+c1:=Int.ediv_le_self _ ⋯;have hb1:(sg*wi / g).natAbs<=wi.natAbs:=by
  have:(sg*wi / g).natAbs<=(sg*wi).natAbs:=by
   rcases hs1 with rfl|rfl
   rw[Zcg];have a1:0<=wi / g:=Int.ediv_nonneg ⋯ ⋯;have a2:wi / g<=wi:=Int.ediv_le_self _ ⋯;lk;have a1:-1*wi / g<=0:=Int.ediv_nonpos_of_nonpos_of_neg ⋯ ⋯;have a2:-1*wi<=-1*wi / g:=by
    refine(Int.le_ediv_iff_mul_le ⋯).mpr ?_;rw[ZaR,Zcg,ZaR];have:wi<=wi*g:=by
     have:=Int.mul_le_mul_of_nonneg_left g1 RK
     rwa [Zb3]at this
    lk
   lk
  rcases hs1 with rfl|rfl<;>simp at this ⊢<;>lk
 refine⟨?_,by lk,by lk,rfl,hQ _ _ ⟨sg*wi / g,((1+c1) / g).toNat,?_,by lk,by lk,?_,by lk,f5,(((k1.trans k2).trans k3).trans k4.any).trans ((Ex.cg _).trans k5)⟩⟩;rcases hs1 with rfl|rfl
 exact .inl ∅;exact .inl ∅;rw[ZaI hd1];rw[ZaI hd1];rcases hs1 with rfl|rfl
 rw[Zcg];exact gq;exact Zr
def Gx:1001<=P2 102:=Zap (show 1001<=2 ^ 10 by decide) (ZbI (n:=2) ∅ ∅)
def RL(g:List gF):af.av (g ++ [((false,2):gF)])=⟨-(af.av g).a,-(af.av g).b,-(af.av g).c,-(af.av g).d⟩:=by rw[af.uW];have e3:af.lD ((false,2):gF)=⟨-1,0,0,-1⟩:=rfl;rw[e3];apply af.T4.ext'<;>simp[af.T4.mul]
def MR{g:List gF}(hg:∀s∈g,af.cJ s):∀s∈g ++ [((false,2):gF)],af.cJ s:=λs hs=>by
 rcases Zay.mp hs with hs|hs
 exact hg s hs;rw[Zas.mp hs];unfold af.cJ;decide
def RM{g:List gF}{p c:Int}(h1:(af.av g).a*p+(af.av g).b*c=-1)(h2:(af.av g).c*p+(af.av g).d*c=0):af.Gd (af.av (g ++ [((false,2):gF)])) p c:=by rw[RL];constructor;show -(af.av g).a*p + -(af.av g).b*c=1;rw[ZaR,ZaR];lk;show -(af.av g).c*p + -(af.av g).d*c=0;rw[ZaR,ZaR];lk
def Zt{st:Store}{p c:Int}(hp:p.natAbs<=1000)(hc0:0<=c)(hc:c.natAbs<=1000)(wF:Int.gcd p c=1)(hnn:¬(p=-1/\c=0)):Wp (FX [.tup [.int p,.int c]] st) λd st'=>∃g:List gF,d=lR (af.av g)/\(∀s∈g,af.cJ s)/\af.Gd (af.av g) p c/\(af.av g).le 1001/\Ex [] st st':=by
 refine d4 ?_;show Ws (Jj [some (.tup [.int p,.int c]),none,none] st) _ _ _ _;unfold Jj;refine aW (bK ?_);kspl_open hQ;refine aQ (Q7 (x:=p) (y:=c) (M:=1000) (k:=10) ∅ ∅ hp hc) ?_;rintro d s1 ⟨g,rfl,hg,BX,h0,⟨ub,r,bv⟩,k1⟩;refine hQ _ _ (aW (bK ?_));clear hQ;kspl_open hQ;refine aQ (Mw (w:=g) (λs hs=>⟨(hg s hs).1,by have:=(hg s hs).2;lk⟩) ⋯) ?_;rintro d s2 ⟨rfl,k2⟩;have y2:∀s∈g,af.cJ s:=λs hs=>(hg s hs).1;have JO:Int.gcd p c=((af.av g).a*p+(af.av g).b*c).natAbs:=af.PJ bv.dt h0;obtain⟨ex,ec⟩:=af.Ho bv.dt h0;have hba:=bv.ba;have Kk:=bv.bb;rw[wF]at JO;obtain⟨u,hu⟩:∃u,(af.av g).a*p+(af.av g).b*c=u:=⟨_,rfl⟩;rw[hu]at JO ex ec;have hle:(af.av g).le 1001:=by
  have e1:(af.av g).d.natAbs=p.natAbs:=by rw[ex,Zbq,<- JO,Zb5]
  have e2:(af.av g).c.natAbs=c.natAbs:=by rw[ec,Int.natAbs_neg,Zbq,<- JO,Zb5]
  exact⟨by lk,by lk,by lk,by lk⟩
 clear ex ec hba Kk bv;have hP:=Gx;refine aQ (Q6 (T:=af.av g) (x:=p) (y:=c) (Gr hle hP) ⋯ ⋯) ?_;rintro d s3 ⟨rfl,k3⟩;rw[hu,h0];have kk:Ex [] st s3:=(k1.trans k2).trans k3;refine hQ _ _ (aW (kq ?_));clear hQ;refine bA ?_;intro cn hQ;exists MA,MB,As,Ap;rw[if_neg (by simpa using hc0),if_neg (by rw[ZbU,decide_eq_false_iff_not];split<;>lk)];refine⟨rfl,hQ _ _ ⟨λh=>absurd (of_decide_eq_true h) hnn,λ_=>mj (aW (kq ?_))⟩⟩;clear hQ;refine bA ?_;intro cn hQ;exists MA;refine hQ _ _ ⟨λh=>bK ?_,λh=>mj (cW ?_)⟩;have hu1:u=-1:=of_decide_eq_true h;clear hQ;kspl_open hQ;have e1:(g.map b5 ++ [D.tup [D.str "t",D.int 2]])=(g ++ [((false,2):gF)]).map b5:=by rw[Zau];rfl
 rw[e1];refine⟨rfl,rfl,jg (by rw[Z7];show _+1<=_;lk),hQ _ _ (cW ?_)⟩;clear hQ;kspl_open hQ
 have u6:∀s∈g ++ [((false,2):gF)],af.cJ s/\s.2.natAbs<=4611686018427387904:=λs hs=>⟨MR y2 s hs,by
  rcases Zay.mp hs with hs|hs
  have:=(hg s hs).2;lk
  rw[Zas.mp hs];decide⟩
 refine aQ (Mw (w:=g ++ [((false,2):gF)]) u6 (by rw[Zaf];show _+1<=_;lk)) ?_;rintro d s4 ⟨rfl,k4⟩;refine hQ _ _ ⟨_,rfl,MR y2,RM (by rw[hu];exact hu1) h0,?_,kk.trans k4⟩;rw[RL];obtain⟨l1,l2,l3,l4⟩:=hle;exact⟨by show(-(af.av g).a).natAbs<=1001;lk,by show(-(af.av g).b).natAbs<=1001;lk,by show(-(af.av g).c).natAbs<=1001;lk,by show(-(af.av g).d).natAbs<=1001;lk⟩;have hu1:u=1:=by have:=of_decide_eq_false h;lk
 clear hQ;kspl_open hQ;refine aQ (Mw (w:=g) (λs hs=>⟨(hg s hs).1,by have:=(hg s hs).2;lk⟩) ⋯) ?_;rintro d s4 ⟨rfl,k4⟩;exact hQ _ _ ⟨g,rfl,y2,⟨by rw[hu];exact hu1,h0⟩,hle,kk.trans k4⟩
def su{δ:ao}{st:Store}{fi:ao->Dm Src}{Q:D->Store->Prop}{ts:List (D×D×D)}{L:List (Int×Int)}(hi:Wp (fi δ st) λS st1=>nJ S (ts.map λt=>.tup [t.1,t.2.1,t.2.2]) st1/\Ex [] st st1)(hl:ts.length<=60)(et:(ts.map λt=>D.tup [t.1,t.2.1])=L.map pD)(hQ:∀s,Ex [] st s->Q (.ref s.length) (s ++ [.lst (L.map pD)])):Wp (bJ fi 1 [] (hName 0) cu (bB (ae (ay aE (ag 0) (fC (.int 0))) (ae (ay aE (ag 0) (fC (.int 1))) ah))) δ st) Q:=by
 refine tu (ts.map λt=>.tup [t.1,t.2.1,t.2.2]) (λd=>match d with|.tup [a,b,_]=>.tup [a,b]|_=>.non) hi (by rw[Z7];lk) ?_ ?_;intro d hd s4 k4;obtain⟨t,_,rfl⟩:=Zag.mp hd;kspl_open a8;exact⟨rfl,a8 _ _ ⟨rfl,Ex.refl⟩⟩;intro s4 k4;have e:(ts.map λt=>D.tup [t.1,t.2.1,t.2.2]).map (λd=>match d with|.tup [a,b,_]=>D.tup [a,b]|_=>.non)=L.map pD:=by rw[<- et,Zat];rfl
 rw[e];exact hQ _ k4
def uO{δ:ao}{st:Store}{fi:ao->Dm Src}{Q:D->Store->Prop}{ts:List (D×D×D)}{L:List (Int×Int)}(hi:Wp (fi δ st) λS st1=>nJ S (ts.map λt=>.tup [t.1,t.2.1,t.2.2]) st1/\Ex [] st st1)(hl:ts.length<=60)(et:(ts.map λt=>D.tup [t.1,t.2.1])=L.map pD)(hQ:∀s,Ex [] st s->Q (.tup (L.map pD)) s):Wp (aK aZ (ae (bJ fi 1 [] (hName 0) cu (bB (ae (ay aE (ag 0) (fC (.int 0))) (ae (ay aE (ag 0) (fC (.int 1))) ah)))) ah) δ st) Q:=by kspl_open hR;refine su hi hl et λs4 k4=>?_;w_how;exact hR _ _ (hQ _ (k4.trans (Ex.cg _)))
def MS{st:Store}{xs ys:List Int}{n:Nat}{p c:Int}{L:List (Int×Int)}{w:List gF}(fl:nu n xs ys)(n0:0<n)(hn:n<=8)(hp:p.natAbs<=1000)(hc0:0<=c)(hc:c.natAbs<=1000)(wF:Int.gcd p c=1)(hnn:¬(p=-1/\c=0))
  (hw:∀s∈w,af.cJ s) (gw:af.Gd (af.av w) p c) (hL:((af.sI n (af.jm (xs,ys) w).1 (af.jm (xs,ys) w).2).map kD).Perm L) (hs:L.Pairwise uN):Wp (wz [bE xs ys,.tup [.int p,.int c]] st) λd st'=>d=.tup (L.map pD)/\Ex [] st st':=by
 refine d4 ?_;show Ws (Jl [some (bE xs ys),some (.tup [.int p,.int c]),none] st) _ _ _ _;unfold Jl;refine aW (bK ?_);kspl_open hQ;refine aQ (Zt hp hc0 hc wF hnn) ?_;rintro d s1 ⟨g,rfl,hg,gg,hle,k1⟩;refine aQ (Zb (w:=g) (M:=1001) (k:=10) fl n0 ⋯ ∅ ∅ hg hle) ?_;rintro d s2 ⟨rfl,k2⟩;have xX:af.Wh n (xs,ys):=JF fl;have wg:=xX.ld n0 (w:=g);have wf:=AV wg n0 (Rf wg n0);obtain⟨q,hq,eq⟩:=Rf wg n0;rw[eq];have pp:=((af.along xX n0 hg hw gg gw).map kD).trans hL;refine aQ (A0 (xs:=(af.jm (xs,ys) g).1) (ys:=(af.jm (xs,ys) g).2) (g:=q) (L:=L) (MH wg) hq n0 ⋯ pp hs) ?_;rintro d s3 ⟨ts,rfl,et,hl,k3⟩;refine hQ _ _ (cW (uO (ts:=ts) (L:=L) ?_ ⋯ et λs4 k4=>⟨rfl,((k1.trans k2).trans k3).trans k4⟩));clear hQ;kspl_open hQ;exact hQ _ _ ⟨pP _ _,Ex.refl⟩
def B3(n:Nat)(L:List (Int×Int)):pU (n+2) (.tup (L.map pD)):=λd hd=>by
 obtain⟨x,_,rfl⟩:=Zag.mp hd;exact Qp n [x.1,x.2]
def A1(a:Int):(if 0-a > a then 0-a else a)=(a.natAbs:Int):=by split<;>lk
def Gy(a b:Int):((a.natAbs:Int) / (b.natAbs:Int))*(if a*b<0 then -1 else 1)=af.tq a b:=by unfold af.tq;push_cast;rfl
def A2(a b:Int):(af.tq a b).natAbs<=a.natAbs:=by
 unfold af.tq;rw[Zbq];have h:(if a*b<0 then(-1:Int)else 1).natAbs=1:=by split<;>rfl
 rw[h,Zb5,Int.natAbs_natCast];exact Nat.div_le_self _ _
def Zu{st:Store}{p c:Int}(hp:p.natAbs<=1000)(hc:c.natAbs<=1000)(wF:Int.gcd p c=1):Wp (BV [.tup [.int p,.int c]] st) λd st'=>∃g:List gF,d=.tup (g.map b5)/\(∀s∈g,af.cJ s)/\g.length<=100/\af.Gd (af.av g) p c/\Ex [] st st':=by
 refine d4 ?_;show Ws (Jt [some (.tup [.int p,.int c]),none,none,none,none] st) _ _ _ _;unfold Jt;refine aW (tm ?_);kspl_open hQ;refine hQ _ _ ?_;kspl_open a8;refine⟨rfl,a8 _ _ (aW (bK ?_))⟩;clear hQ a8;kspl_open hQ;refine⟨rfl,?_⟩;refine hQ _ _ (aW (uB (λm δ s=>∃(g:List gF) (a b:Int) (r:Nat) (v4:Option D),m=b.natAbs/\δ=[some (.tup [.int p,.int c]),some (.int a),some (.int b),some (.ref st.length),v4]/\s[st.length]?=some (.lst (g.map b5))/\r<=22/\af.Sg p c g a b r/\Ex [] st s) c.natAbs (by show c.natAbs<1000000;lk) ⟨[],p,c,0,none,rfl,rfl,kg,by lk,af.Sg.zero hp hc,Ex.cg _⟩ ?_));clear hQ;rintro m δ s ⟨g,a,b,r,v4,rfl,rfl,hg,hr,sg,k1⟩;obtain⟨ba,bb⟩:=sg.ba;kspl_open hQ;refine hQ _ _ ⟨λhb=>?_,λhb=>?_⟩;have hb:b≠0:=by simpa using hb
 have few:=sg.few hb;have Zv:=sg.step hb;refine aW (bK ?_);clear hQ;refine bA ?_;intro cn hQ;exists A1;have hsg:gD [D.int 1,D.int (-1)] (if decide (a*b<0)=true then 1 else 0)=some (.int (if a*b<0 then -1 else 1)):=by
  by_cases z:a*b<0;rw[if_pos (decide_eq_true z),if_pos z];exact LN _ _ _;rw[if_neg (by simpa using z),if_neg z];exact LM _ _
 have hq1:=A2 a b;refine⟨⟨by lk,by lk⟩,rfl,.inl ⋯,_,hsg,?_⟩;exists Gy;refine⟨.inr (by split<;>lk),?_⟩;have k2:Ex [] st (s ++ [O.lst [D.int 1,D.int (-1)]]):=k1.app _;have u6:(s ++ [O.lst [D.int 1,D.int (-1)]])[st.length]?=some (.lst (g.map b5)):=by rw[Zan (fH hg)];exact hg
 generalize hq:af.tq a b=q at *;generalize (s ++ [O.lst [D.int 1,D.int (-1)]])=s2 at *;have BX:=sg.ln;have hm:=af.PQ a b;rw[hq]at hm;have hmb:a.natAbs % b.natAbs<b.natAbs:=Nat.mod_lt _ ⋯;have fin:∀{B C:ao->Store->Prop} {R:D->Store->Prop} {s3:Store},s3[st.length]?=some (.lst ((g ++ af.oS (-q)).map b5))->Ex [] st s3->Ws (aB (oT 1 2 (ae (ay L4.jh (fC (D.int 0)) (ag 2)) (ae (ay L4.jh (ag 1) (ay j9 (ag 4) (ag 2))) ah))) (d3 (nX "list" bR (ag 3) (ae (bB (ae (fC (D.str (Str.ofString "t"))) (ae (fC (D.int 1)) ah))) ah))) [some (D.tup [D.int p,D.int c]),some (D.int a),some (D.int b),some (D.ref (List.length st)),some (D.int q)] s3) (λδ2 st2=>∃m',m' < b.natAbs/\∃(g:List gF) (a b:Int) (r:Nat) (v4:Option D),m'=b.natAbs/\δ2=[some (.tup [.int p,.int c]),some (.int a),some (.int b),some (.ref st.length),v4]/\st2[st.length]?=some (.lst (g.map b5))/\r<=22/\af.Sg p c g a b r/\Ex [] st st2) B C R:=λ{B C R s3} h3 k3=>by
  refine aW (BJ ?_);kspl_open hP;refine⟨.inl ⋯,hP _ _ ⟨_,_,rfl,?_⟩⟩;clear hP;refine r9 ?_;refine bA ?_;intro Z5 hP;exists lL h3;have hsl:=af.zf (-q);refine⟨qV (by rw[cQ h3];rfl),rfl,jg (by rw[Z7,Zaf];lk),?_⟩;refine hP _ _ ⟨(a-q*b).natAbs,by lk,g ++ af.vR q,0-b,a-q*b,r+1,_,rfl,rfl,?_,by lk,?_,k3.loc (Zaa _)⟩;rw[Zal (fH h3)];unfold af.vR;rw[<- Zbv,Zau (l₁:=g ++ af.oS (-q))];rfl;rw[show 0-b=-b by lk];exact Zv
 refine hQ _ _ (aW (kq ?_));clear hQ;kspl_open hQ;refine hQ _ _ ⟨λhz=>r9 ?_,λhz=>mj (fin ?_ k2)⟩;have hz:q≠0:=by simpa using hz
 clear hQ;refine bA ?_;intro cn hQ;exists lL u6;refine⟨qV (by rw[cQ u6];rfl),rfl,jg (by rw[Z7];lk),?_⟩;refine hQ _ _ (fin ?_ (k2.loc (Zaa _)));rw[Zal (fH u6)];unfold af.oS;rw[if_neg ⋯,Zau,show 0-q=-q by lk];rfl;have hz:q=0:=by simpa using hz
 rw[hz];show _=some (O.lst ((g ++ []).map b5));rw[Zbu];exact u6;have hb:b=0:=by simpa using hb
 subst hb;refine cW ?_;clear hQ;kspl_open hQ;have xS:∀x y:O,own (s ++ [x] ++ [y]) st.length=some (g.map b5):=λx y=>lL (by rw[Zan (by have:=fH hg;simp;lk),Zan (fH hg)];exact hg);have BX:=sg.ln;have k3:∀x y z:O,Ex [] st (s ++ [x] ++ [y] ++ [z]):=λx y z=>((k1.app _).app _).app _;rcases sg.done wF with rfl|rfl
 rw[show(if decide ((1:Int)<0)=true then(1:Int)else 0)=0 from rfl];refine⟨rfl,rfl,⟨by decide,by decide⟩,rfl,_,xS _ _,jg (by rw[Z7];show _+0<=_;lk),hQ _ _ ⟨g,?_,sg.pr,by lk,⟨sg.ta,sg.tc⟩,k3 _ _ _⟩⟩;show D.tup (g.map b5 ++ [])=_;rw[Zbu];rw[show(if decide ((-1:Int)<0)=true then(1:Int)else 0)=1 from rfl];refine⟨rfl,rfl,⟨by decide,by decide⟩,rfl,_,xS _ _,jg (by rw[Z7];show _+1<=_;lk),hQ _ _ ⟨g ++ [((false,2):gF)],?_,MR sg.pr,by rw[Zaf];show _+1<=_;lk,RM sg.ta sg.tc,k3 _ _ _⟩⟩;rw[Zau];rfl
def uP{st:Store}{p:af.ck}{n:Nat}(w:af.Wh n p)(n0:0<n)(hn:n<=60):Wp (u3 [bE p.1 p.2] st) λd st'=>∃(ts:List (D×D×D)) (L:List (Int×Int)),d=.tup (ts.map λt=>.tup [t.1,t.2.1,t.2.2])/\(ts.map λt=>D.tup [t.1,t.2.1])=L.map pD/\ts.length<=n/\((af.sI n p.1 p.2).map kD).Perm L/\L.Pairwise uN/\Ex [] st st':=by have tx:=w.v.1;have ty:=w.v.2;refine aQ (Zn tx ty n0 hn) ?_;rintro d st1 ⟨rs',hJ,B',rfl,R',hL',Bt,hl',k1⟩;obtain⟨M,pM,eM,oM⟩:=Rx hJ B';have lo:=af.Bu tx ty n0;have e1:=af.Hs tx;have e2:=af.Hs ty;have lo':=hL'.lo tx n0 R';have P:=af.Lo.anew (g:=af.upto n) (rs:=af.lJ n p.1) (rs':=rs') (lows:=af.o7 n p.1 p.2) (hJ:=hJ) (B:=af.qj n p.1 p.2) (B':=B') tx ty (af.sH n) w.all (by rw[e1,e2];exact w.all) (af.xB tx) (by rw[e1];exact R') lo (by rw[e1,e2];exact lo') (λl hl=>af.Bw tx ty (lo.rw l hl)) (λl hl=>by rw[e1,e2];exact Bt l hl);refine⟨M.map λl=>(.int (l.length:Int),.int ((B' l).length:Int),wj (B' l)),M.map λl=>((l.length:Int),((B' l).length:Int)),?_,?_,by rw[Z7,pM.length_eq];exact hl',?_,?_,k1⟩;rw[eM,Zat];rfl;rw[Zat,Zat];rfl;have p1:(M.map λl=>((l.length:Int),((B' l).length:Int))).Perm (hJ.map λl=>((l.length:Int),((B' l).length:Int))):=pM.map _;have p2:=P.symm.map kD;rw[Zat]at p2;exact p2.symm.trans p1.symm;rw[Zba];exact oM.imp λh=>RI h
abbrev Ask(d:D):Prop:=∃(n:Nat) (xs ys g:List Int) (a:Int) (h:Nat),d=.tup [bE xs ys,.tup [.int a,.int (h:Int)],bE (af.anew xs g) (af.anew ys g)]/\nu n xs ys/\0<n/\n<=8/\af.Tn n g/\a.natAbs<=1000/\h<=1000/\Int.gcd a h=1/\¬(a=-1/\h=0)
def uQ(ns:List Int)(hn:ns.length<=63):Wp (Mk [.ref 0] [.sJ (ns.map D.int)]) λd _=>d=.bl true:=by
 refine d4 ?_;show Ws (Ju [some (.ref 0),none,none,none,none,none,none,none] [.sJ (ns.map D.int)]) _ _ _ _;unfold Ju;obtain⟨m,hm,Z6⟩:∃m:Nat,(if(if((ns.map D.int).length:Int)<5 then((ns.map D.int).length:Int)else 5) > 2 then(if((ns.map D.int).length:Int)<5 then((ns.map D.int).length:Int)else 5)else 2)=(m:Int)/\m<=5:=by
  by_cases h8:((ns.map D.int).length:Int)<5;rw[if_pos h8];by_cases h4:((ns.map D.int).length:Int) > 2;rw[if_pos h4];exact⟨(ns.map D.int).length,rfl,by lk⟩;rw[if_neg h4];exact⟨2,rfl,by lk⟩;rw[if_neg h8];exact⟨5,rfl,by lk⟩
 have Zw:items ([O.sJ (ns.map D.int)] ++ [O.lst []]:Store) 0=some (ns.map D.int):=rfl;refine aW (bK ?_);kspl_open hQ;refine⟨rfl,hQ _ _ (aW (pN (aF 0 m) (λk δ s=>∃(v2 v3 v4 v5:Option D) (qs:List D),δ=[some (.ref 0),some (.ref 1),v2,v3,v4,v5,none,none]/\s[0]?=some (.sJ (ns.map D.int))/\s[1]?=some (.lst qs)/\qs.length=k/\∀d∈qs,Ask d) ?_ (by rw[ka];lk) ?_ ?_))⟩;clear hQ;refine bA ?_;intro cn hQ;exists Zw,hm;exact⟨by lk,hQ _ _ ⟨by rw[Zao],_,_,_,_,[],rfl,rfl,rfl,rfl,λd hd=>nomatch hd⟩⟩;rintro k d δ s hd ⟨v2,v3,v4,v5,qs,rfl,h0,h1,Zx,hq⟩;have hk:=fH hd;rw[ka]at hk;rw[D0 hk,Zb9]at hd;cases hd;clear hQ;kspl_open hQ;refine hQ _ _ (aW (bK ?_));clear hQ;kspl_open hQ;refine aQ (Yn (a:=0) (ns:=ns) (k:=k) (V8 h0) ⋯) ?_;rintro d st2 ⟨rfl,f2,k2⟩;refine hQ _ _ (aW (bK ?_));clear hQ;kspl_open hQ;refine⟨rfl,?_⟩;refine aQ (wB (n:=3) (f2.keep (Ex.cg [O.lst [D.int 6,D.int 24,D.int 1000]])) ∅ ∅) ?_;rintro d st3 ⟨b,rfl,b0,b3,f3,k3⟩;have Zy:st3[st2.length]?=some (.lst [.int 6,.int 24,.int 1000]):=k3.keep _ _ kg (by have:=f2.lt;simp;lk);obtain⟨mo,hmo,Zz,ZA⟩:∃mo:Int,gD [D.int 6,D.int 24,D.int 1000] b=some (.int mo)/\1<=mo/\mo<=1000:=by
  rcases(show b=0\/b=1\/b=2 by lk)with rfl|rfl|rfl
  exact⟨6,tQ (j:=0) rfl,by decide,by decide⟩;exact⟨24,tQ (j:=1) rfl,by decide,by decide⟩;exact⟨1000,tQ (j:=2) rfl,by decide,by decide⟩
 exists cQ Zy,hmo;refine aQ (Zq (most:=mo) f3 Zz ZA) ?_;rintro d lM ⟨a,h,rfl,ha,hh,hg,hnn,f4,k4⟩;refine hQ _ _ (aW (bK ?_));clear hQ;kspl_open hQ;refine aQ (YH (most:=8) f4 ∅ ∅) ?_;rintro d g9 ⟨n,xs,ys,rfl,fl,n1,n8,f5,k5⟩;have kk:Ex [] s g9:=k2.drop (((Ex.cg _).any.trans k3).trans (k4.trans k5)) (Zaa _);refine hQ _ _ (r9 ?_);clear hQ;kspl_open hQ;have ZC:=kk.keep _ _ h1 (by simp);refine⟨qV (by rw[cQ ZC];rfl),?_⟩;exists JH;rw[Z7,fl.1.length];refine aQ (Jw (n:=n) f5 ⋯) ?_;rintro d BH ⟨g,rfl,tg,f6,k6⟩;refine aQ (QV fl.1 fl.2.1 tg ⋯) ?_;rintro d qA ⟨rfl,k7⟩;have Gw:Ex [] s qA:=kk.drop (k6.trans k7.any) (Zaa _);have RN:=Gw.keep _ _ h1 (by simp);have ZD:=Gw.keep _ _ h0 (by simp);refine⟨rfl,_,lL RN,jg ⋯,hQ _ _ ⟨_,_,_,_,qs ++ [D.tup [bE xs ys,.tup [.int a,.int (h:Int)],bE (af.anew xs g) (af.anew ys g)]],rfl,?_,Zal (fH RN),by rw[Zaf];simp[Zx],λd hd=>?_⟩⟩;rw[ZaA ∅];exact ZD;rcases Zay.mp hd with h'|h'
 exact hq d h';rw[Zas.mp h'];exact⟨n,xs,ys,g,a,h,rfl,fl,by lk,by lk,tg,by lk,by lk,hg,hnn⟩;rintro δ st1 ⟨v2,v3,v4,v5,qs,rfl,h0,h1,hl,hq⟩;rw[ka]at hl;have c1:=Wz qs none (some 1);have e1:(st1 ++ [O.lst (cutD qs none (some 1))]).length=st1.length+1:=by simp
 clear hQ;refine aW (LJ (qs ++ cutD qs none (some 1)) (st1.length+1) (λj δ s=>∃(v4 v5 v6 v7:Option D),δ=[some (.ref 0),some (.ref 1),v2,v3,v4,v5,v6,v7]/\items s (st1.length+1)=some (qs ++ cutD qs none (some 1))) ?_ (by rw[Zaf];lk) ?_ ?_ ?_);refine bA ?_;intro cn hQ;exists cQ h1,lL (j5 (m:=[O.lst (cutD qs none (some 1))]) h1);rw[e1];exact⟨jg ⋯,hQ _ _ ⟨rfl,_,_,_,_,rfl,by rw[<- e1];exact qb⟩⟩;rintro j δ s ⟨_,_,_,_,_,h⟩;exact h;rintro j d δ s hd ⟨w4,w5,w6,w7,rfl,hit⟩;have hd':d∈qs:=by
  rcases Zay.mp (Zab hd)with h|h
  exact h;exact Wy h
 obtain⟨n,xs,ys,g,a,h,rfl,fl,n0,n8,tg,ha,hh,wF,hnn⟩:=hq d hd';have xX:af.Wh n (xs,ys):=JF fl;kspl_open hQ;refine⟨rfl,hQ _ _ (aW (bK ?_))⟩;clear hQ;obtain⟨S,s1,eS,wd,ts,L,hS,et,hlt,Gz,gd,pm,pw,k1⟩:Wp (bY (aK u3 (ae (aK BU (ae (ag 5) (ae (aK BV (ae (ag 4) ah)) ah))) ah)) [some (.ref 0),some (.ref 1),v2,v3,some (.tup [.int a,.int (h:Int)]),some (bE xs ys),some (bE (af.anew xs g) (af.anew ys g)),w7] s) λS s1=>∃(wd:List gF) (ts:List (D×D×D)) (L:List (Int×Int)),nJ S (ts.map λt=>.tup [t.1,t.2.1,t.2.2]) s1/\(ts.map λt=>D.tup [t.1,t.2.1])=L.map pD/\ts.length<=n/\(∀z∈wd,af.cJ z)/\af.Gd (af.av wd) a h/\((af.sI n (af.jm (xs,ys) wd).1 (af.jm (xs,ys) wd).2).map kD).Perm L/\L.Pairwise uN/\Ex [] s s1:=by
  kspl_open hQ;refine aQ (Zu (p:=a) (c:=(h:Int)) ha ⋯ wF) ?_;rintro d t1 ⟨wd,rfl,Gz,hwl,gd,k1⟩;refine aQ (YO (p:=(xs,ys)) (n:=n) ⟨fl.1,fl.2.1⟩ ⋯ (Rg Gz) ⋯) ?_;rintro d t2 ⟨rfl,k2⟩;rw[Rh];refine aQ (uP (p:=af.jm (xs,ys) wd) (xX.ld n0) n0 ⋯) ?_;rintro d t3 ⟨ts,L,rfl,et,hlt,pm,pw,k3⟩;exact⟨_,rfl,hQ _ _ ⟨wd,ts,L,pP _ _,et,hlt,Gz,gd,pm,pw,(k1.trans k2).trans k3⟩⟩
 refine uO (ts:=ts) (L:=L) ⟨S,s1,eS,hS,k1⟩ ⋯ et λs2 k2=>aW (kq ?_);have ZE:af.Wh n (af.anew xs g,af.anew ys g):=JF (af.mw fl tg n0);have al:af.bN n (xs,ys) (af.anew xs g,af.anew ys g):=⟨g,tg,rfl⟩;have ZF:((af.sI n (af.jm (af.anew xs g,af.anew ys g) wd).1 (af.jm (af.anew xs g,af.anew ys g) wd).2).map kD).Perm L:=((af.PN (xX.ld n0) (ZE.ld n0) n0 (af.bN.ld xX.v al)).symm.map kD).trans pm;kspl_open hQ;refine aQ (MS (L:=L) (w:=wd) fl n0 n8 ha ⋯ ⋯ wF ⋯ Gz gd pm pw) ?_;rintro d s3 ⟨rfl,k3⟩;exists L5 (B3 0 L) (B3 0 L) ∅;rw[if_neg (by simp)];refine aQ (MS (L:=L) (w:=wd) (af.mw fl tg n0) n0 n8 ha ⋯ ⋯ wF ⋯ Gz gd ZF pw) ?_;rintro d s4 ⟨rfl,k4⟩;exists L5 (B3 0 L) (B3 0 L) ∅;refine hQ _ _ ⟨λz=>absurd z (by simp),λ_=>mj (kq ?_)⟩;clear hQ;have k5:Ex [] s s4:=(k2.trans k3).trans k4;obtain⟨_,_,_,_,L',_,_,_,pm',RO,_⟩:=uP (st:=s4) (p:=(xs,ys)) xX n0 ⋯;kspl_open hQ;refine⟨rfl,?_⟩;refine aQ (MS (p:=1) (c:=0) (L:=L') (w:=[]) fl n0 n8 ∅ ∅ ∅ rfl ∅ (λz hz=>nomatch hz) ⟨rfl,rfl⟩ pm' RO) ?_;rintro d s5 ⟨rfl,k6⟩;obtain⟨S',s6,ZG,ts',L2,hS',et',hlt',MT,MU,k7⟩:Wp (bY (aK u3 (ae (ag 5) ah)) [some (.ref 0),some (.ref 1),v2,v3,some (.tup [.int a,.int (h:Int)]),some (bE xs ys),some (bE (af.anew xs g) (af.anew ys g)),some (.tup (L.map pD))] s5) λS s1=>∃(ts:List (D×D×D)) (L:List (Int×Int)),nJ S (ts.map λt=>.tup [t.1,t.2.1,t.2.2]) s1/\(ts.map λt=>D.tup [t.1,t.2.1])=L.map pD/\ts.length<=n/\((af.sI n xs ys).map kD).Perm L/\L.Pairwise uN/\Ex [] s5 s1:=by
  kspl_open hP;refine aQ (uP (p:=(xs,ys)) xX n0 ⋯) ?_;rintro d t3 ⟨ts,L,rfl,et,hlt,pm,pw,k3⟩;exact⟨_,rfl,hP _ _ ⟨ts,L,pP _ _,et,hlt,pm,pw,k3⟩⟩
 have eL:L2=L':=RJ (MT.symm.trans pm') MU RO;subst eL;refine su (ts:=ts') (L:=L2) ⟨S',s6,ZG,hS',k7⟩ ⋯ et' λs7 k8=>?_;exists qb;rw[L5 (B3 0 L2) (B3 0 L2) ∅];exact⟨_,rfl,hQ _ _ ⟨λz=>absurd z (by simp),λ_=>mj ⟨_,_,_,_,rfl,HN hit (((k5.trans k6).trans k8).trans (Ex.cg _))⟩⟩⟩;rintro δ s ⟨w4,w5,w6,w7,rfl,hit⟩;refine cW ?_;kspl_open hQ;exact hQ _ _ rfl
def A3{P:Program}{w:World}{K:Zfr}{mg:Str->Option Value}{base:Heap}(T:Txt mg){oH:V}(mG:tO K mg "QUARTER" oH (.tup [(.int 0),(.int (-1)),(.int 1),(.int 0)])){kz:V}(ft:tO K mg "UNMOVED" kz (.tup [(.int 1),(.int 0),(.int 0),(.int 1)])){jq:Addr}{jr:FuncData}(gM:Def K mg "_law_feed" Ey ["_law_script","_law_k"] jq jr){ju:Addr}{jv:FuncData}(aN:Def K mg "_law_take" Ez ["_law_feed_here","_law_many"] ju jv){fP:Addr}{fQ:FuncData}(dB:Def K mg "_law_common" EB ["_law_a","_law_c"] fP fQ){hV:Addr}{h9:FuncData}(fj:Def K mg "_law_slope" ED ["_law_feed_here","_law_most"] hV h9){jw:Addr}{jx:FuncData}(cB:Def K mg "_law_anew" EF ["_law_floor_here","_law_p"] jw jx){eC:Addr}{eE:FuncData}(aT:Def K mg "_law_turning" EG ["_law_feed_here","_law_n"] eC eE){kT:Addr}{kU:FuncData}(gG:Def K mg "_law_met" EH ["_law_floor_here"] kT kU){ib:Addr}{ic:FuncData}(fm:Def K mg "_law_floor" EK ["_law_feed_here","_law_n"] ib ic){ig:Addr}{il:FuncData}(fq:Def K mg "_law_drawn" EM ["_law_feed_here","_law_most"] ig il){jy:Addr}{jz:FuncData}(cC:Def K mg "ring_from" EN ["turning","first"] jy jz){kW:Addr}{kX:FuncData}(dj:Def K mg "rings_of" EO ["turning"] kW kX){jA:Addr}{jB:FuncData}(cD:Def K mg "upper_row" ER ["floor","row"] jA jB){kY:Addr}{kZ:FuncData}(bh:Def K mg "followed" ES ["one","other"] kY kZ){fS:Addr}{fT:FuncData}(aP:Def K mg "turned_back" ET ["turning"] fS fT){dC:Addr}{dD:FuncData}(cE:Def K mg "round_corners" EV ["floor"] dC dD){jC:Addr}{jD:FuncData}(cG:Def K mg "is_smooth" EW ["floor","ring"] jC jD){jE:Addr}{jF:FuncData}(gN:Def K mg "band_from" EX ["floor","lowest"] jE jF){la:Addr}{lb:FuncData}(jc:Def K mg "bands_of" EY ["floor"] la lb){fU:Addr}{fV:FuncData}(dF:Def K mg "called_anew" E2 ["floor","p"] fU fV){eG:Addr}{eI:FuncData}(cX:Def K mg "squares_from" E4 ["floor","s"] eG eI){c6:Addr}{c7:FuncData}(cj:Def K mg "numbering_from" E6 ["floor","s"] c6 c7){dG:Addr}{dH:FuncData}(cH:Def K mg "numbered_from" E8 ["floor","s"] dG dH){my:Addr}{mz:FuncData}(kx:Def K mg "form_of" Fb ["floor"] my mz){pT:Addr}{pV:FuncData}(oG:Def K mg "often" Fe ["turning","k"] pT pV){mC:Addr}{mD:FuncData}(ky:Def K mg "sheared" Fh ["floor","k"] mC mD){jH:Addr}{jI:FuncData}(gO:Def K mg "quartered" Fj ["floor"] jH jI){fX:Addr}{fY:FuncData}(dJ:Def K mg "led_by_step" Fn ["floor","step"] fX fY){nY:Addr}{nZ:FuncData}(mF:Def K mg "led_by" Fq ["floor","word"] nY nZ){lh:Addr}{ll:FuncData}(dk:Def K mg "led_pair" Fs ["table","pair"] lh ll){n5:Addr}{n6:FuncData}(f9:Def K mg "shears" Ft ["k"] n5 n6){pX:Addr}{pY:FuncData}(gP:Def K mg "times" Fu ["one","other"] pX pY){iu:Addr}{iw:FuncData}(fu:Def K mg "step_table" Fw ["step"] iu iw){lp:Addr}{lq:FuncData}(bQ:Def K mg "table_of" Fx ["word"] lp lq){mH:Addr}{mI:FuncData}(kA:Def K mg "nearest" Fz ["number","divisor"] mH mI){gb:Addr}{gf:FuncData}(bS:Def K mg "level_steps" FA ["pair"] gb gf){n9:Addr}{oa:FuncData}(mK:Def K mg "joined" FD ["one","other"] n9 oa){iA:Addr}{iB:FuncData}(fw:Def K mg "made_plain" FF ["word"] iA iB){eK:Addr}{eN:FuncData}(cY:Def K mg "put_together" FI ["one","other"] eK eN){lr:Addr}{lu:FuncData}(jd:Def K mg "is_table" FK ["thing"] lr lu){iD:Addr}{iE:FuncData}(fz:Def K mg "level_word" FN ["table"] iD iE){jK:Addr}{jL:FuncData}(gQ:Def K mg "back_step" FP ["step"] jK jL){jN:Addr}{jO:FuncData}(gR:Def K mg "back_word" FR ["word"] jN jO){mL:Addr}{mM:FuncData}(kC:Def K mg "word_of" FU ["table"] mL mM){eQ:Addr}{eR:FuncData}(cZ:Def K mg "led_by_table" FW ["floor","table"] eQ eR){gh:Addr}{gi:FuncData}(dM:Def K mg "slope_table" FY ["slope"] gh gi){gk:Addr}{gn:FuncData}(b7:Def K mg "bands_along" FZ ["floor","slope"] gk gn){gp:Addr}{gs:FuncData}(dN:Def K mg "_law_around" F3 ["_law_floor_here"] gp gs){iG:Addr}{iH:FuncData}(fA:Def K mg "_law_rings" F5 ["_law_turning_here"] iG iH){iJ:Addr}{iK:FuncData}(dm:Def K mg "_law_bands" F6 ["_law_floor_here"] iJ iK){gA:Addr}{gB:FuncData}(dO:Def K mg "_law_behind" F8 ["_law_turning_here","_law_s","_law_k"] gA gB){eW:Addr}{eX:FuncData}(c5:Def K mg "_law_stepped" F9 ["_law_floor_here","_law_step"] eW eX){ly:Addr}{lz:FuncData}(je:Def K mg "_law_led" Ga ["_law_floor_here","_law_word"] ly lz){dP:Addr}{dQ:FuncData}(cI:Def K mg "_law_straight" Gb ["_law_pair"] dP dQ){GA:Addr}{GB:FuncData}(MV:Def K mg "law" Jv ["_law_script"] GA GB):aD P w K mg base bq 9 GA GB ["_law_script"] (bw K 1 Mk):=by have jt:=W7 (P:=P) (w:=w) (base:=base) gM T;have aO:=W8 (P:=P) (w:=w) (base:=base) aN T;have fR:=W9 (P:=P) (w:=w) (base:=base) dB T;have ia:=Xa (P:=P) (w:=w) (base:=base) aN aO dB fR fj T;have de:=Xc (P:=P) (w:=w) (base:=base) cB T;have a6:=Xe (P:=P) (w:=w) (base:=base) aN aO aT T;have jb:=Xf (P:=P) (w:=w) (base:=base) gG T;have ie:=Xg (P:=P) (w:=w) (base:=base) aN aO aT a6 gG jb fm T;have ip:=Xh (P:=P) (w:=w) (base:=base) aN aO cB de aT a6 fm ie fq T;have df:=Xi (P:=P) (w:=w) (base:=base) cC T;have d6:=Xj (P:=P) (w:=w) (base:=base) cC df dj T;have dg:=Xl (P:=P) (w:=w) (base:=base) cC df cD T;have bz:=Xn (P:=P) (w:=w) (base:=base) bh T;have aR:=Xo (P:=P) (w:=w) (base:=base) aP T;have dE:=Xp (P:=P) (w:=w) (base:=base) bh bz aP aR cE T;have dh:=Xq (P:=P) (w:=w) (base:=base) cE dE cG T;have jG:=Xr (P:=P) (w:=w) (base:=base) cD dg cG dh gN T;have lg:=Xs (P:=P) (w:=w) (base:=base) dj d6 cD dg cG dh gN jG jc T;have fW:=Xt (P:=P) (w:=w) (base:=base) bh bz aP aR dF T;have eJ:=Xu (P:=P) (w:=w) (base:=base) cX T;have c9:=Xw (P:=P) (w:=w) (base:=base) aP aR cX eJ cj T;have dI:=Xy (P:=P) (w:=w) (base:=base) dF fW cj c9 cH T;have mB:=XA (P:=P) (w:=w) (base:=base) cH dI kx T;have pW:=XB (P:=P) (w:=w) (base:=base) dj d6 oG T;have mE:=XD (P:=P) (w:=w) (base:=base) bh bz oG pW ky T;have jJ:=XF (P:=P) (w:=w) (base:=base) aP aR gO T;have fZ:=XG (P:=P) (w:=w) (base:=base) ky mE gO jJ dJ T;have n4:=XH (P:=P) (w:=w) (base:=base) dJ fZ mF T;have d7:=XJ (P:=P) (w:=w) (base:=base) dk T;have iq:=XQ (P:=P) (w:=w) (base:=base) f9 T;have iN:=XS (P:=P) (w:=w) (base:=base) gP T;have iz:=XT (P:=P) (w:=w) (base:=base) gP iN fu T mG ft;have bX:=XU (P:=P) (w:=w) (base:=base) gP iN fu iz bQ T ft;have mJ:=XX (P:=P) (w:=w) (base:=base) kA T;have b6:=XY (P:=P) (w:=w) (base:=base) dk d7 f9 iq bQ bX kA mJ bS T;have oe:=XZ (P:=P) (w:=w) (base:=base) mK T;have iC:=X0 (P:=P) (w:=w) (base:=base) mK oe fw T;have eO:=X2 (P:=P) (w:=w) (base:=base) fw iC cY T;have lx:=X4 (P:=P) (w:=w) (base:=base) jd T;have iF:=X6 (P:=P) (w:=w) (base:=base) f9 iq fz T;have jM:=X8 (P:=P) (w:=w) (base:=base) gQ T;have jP:=Ya (P:=P) (w:=w) (base:=base) gQ jM gR T;have mN:=Yb (P:=P) (w:=w) (base:=base) gP iN bQ bX bS b6 cY eO jd lx fz iF gR jP kC T;have eT:=Yd (P:=P) (w:=w) (base:=base) kx mB mF n4 kC mN cZ T;have gj:=Ye (P:=P) (w:=w) (base:=base) dk d7 bQ bX bS b6 dM T;have cM:=Yf (P:=P) (w:=w) (base:=base) jc lg cZ eT dM gj b7 T;have gy:=Yg (P:=P) (w:=w) (base:=base) dN T;have iI:=Yh (P:=P) (w:=w) (base:=base) fA T;have fB:=Yi (P:=P) (w:=w) (base:=base) dN gy fA iI dm T;have gC:=Yj (P:=P) (w:=w) (base:=base) dO T;have eY:=Yk (P:=P) (w:=w) (base:=base) dO gC c5 T;have lA:=Yl (P:=P) (w:=w) (base:=base) c5 eY je T;have dR:=Ym (P:=P) (w:=w) (base:=base) cI T;have MW:=AJ (P:=P) (w:=w) (base:=base) gM jt aN aO fj ia cB de aT a6 fq ip b7 cM dm fB je lA cI dR MV T;exact MW
end My
open PySem PySem.W PyProof.Rows L2
namespace PySem.W.Fast
abbrev tw11945310083600127346:=0
abbrev tw3810206963542947444:=0
abbrev tw1247515958272858374:=0
abbrev tw3922781128831310100:=0
abbrev tw6740142983517659005:=0
abbrev tw1038594069902298743:=0
abbrev tw786607396856336090:=0
abbrev tw15145030049113950674:=0
abbrev tw2344282188913749254:=0
abbrev tw10154652134806993339:=0
abbrev tw8932998964771098492:=0
abbrev tw13367639088411630922:=0
abbrev tw13660052999086058001:=0
abbrev tw12351786195102094801:=0
abbrev tw16214969884191588513:=0
abbrev tw6194106071883067512:=0
abbrev tw6449763351170078004:=0
abbrev tw3917893019409151702:=0
abbrev tw4947043677773489757:=0
abbrev tw6574049556480430836:=0
abbrev tw13942405357303046293:=0
abbrev tw16721870457235804513:=0
abbrev tw17789059990303648493:=0
abbrev tw17048541273862764101:=0
abbrev tw14388744856876448381:=0
abbrev tw10829410770005785275:=0
abbrev tw7862733357183246484:=0
abbrev tw17005933807591852603:=0
abbrev tw4555814535128813209:=0
abbrev tw15151381645298846393:=0
abbrev tw12921535685168406143:=0
abbrev tw8010854715716437609:=0
abbrev tw16456883688634084549:=0
abbrev tw429439766942776524:=0
abbrev tw16704449437150627975:=0
abbrev tw576887195922606404:=0
abbrev tw8632316565077719739:=0
abbrev tw5057431040676861945:=0
abbrev tw15533313167486958776:=0
abbrev tw14345048127881784880:=0
abbrev tw11096514762460246209:=0
abbrev tw14786895577904156600:=0
abbrev tw4658964442035009419:=0
abbrev tw1963701571849177779:=0
abbrev tw235010901203223102:=0
abbrev tw13442923213814225539:=0
abbrev tw12271776652781332826:=0
abbrev tw12347108237858541479:=0
abbrev tw11639820016642728075:=0
abbrev tw16216538932875258019:=0
abbrev tw3392023948914503663:=0
abbrev tw13650059029922388752:=0
abbrev tw10375527499625154448:=0
abbrev tw6001826946423029646:=0
abbrev tw8578263287412413654:=0
abbrev tw3143999874610020894:=0
abbrev tw7827809720420531713:=0
abbrev tw11384808216968702214:=0
abbrev tw9751391210395824891:=0
abbrev tw596033626228498811:=0
abbrev tw2857607803614608196:=0
abbrev tw11441670297422618834:=0
abbrev tw9440512123756370033:=0
abbrev tw5648937564103360169:=0
abbrev tw5262038568610522902:=0
abbrev tw2641146277039562619:=0
abbrev tw2170793523423877101:=0
abbrev tw11595672107967311972:=0
abbrev tw5567205881234915500:=0
abbrev tw11971016507087174091:=0
abbrev tw206791158456892551:=0
abbrev tw5083122737743829343:=0
abbrev tw8236386174160026951:=0
abbrev tw6585376196561497084:=0
abbrev tw10133555424932198378:=0
abbrev tw8077956383320466965:=0
abbrev tw736833101506469284:=0
abbrev tw15498220200990227341:=0
abbrev tw5954809339788851262:=0
abbrev tw6301970092007188780:=0
abbrev tw17846180121430513633:=0
abbrev tw4940596890071982332:=0
abbrev tw14045739972595834086:=0
abbrev tw9432769981046760573:=0
abbrev tw7645239540218877300:=0
abbrev tw2749599066833267800:=0
abbrev tw2703949883321987046:=0
abbrev tw11086991983143994582:=0
abbrev tw13608799896804376810:=0
abbrev tw7279379371531187117:=0
end PySem.W.Fast
end
open PySem PySem.W PyProof.Rows L2
local macro_rules|`(tactic|x_fa $a $b $c)=>`(tactic|(dsimp only [L2.KOf];refine' ef $a $b (fun _ _ _ _ _ _=>$c (by intros;rfl)) ?a ?l ?c ?k;(case a=>k_is);(case l=>k_is);(case c=>k_is);(case k=>k_is)))
set_option maxRecDepth 100000 in
set_option maxHeartbeats 0 in
theorem PySem.Challenge.cw_shearfloor_k35_bands_along_slopes_holds : PySem.Challenge.rw_shearfloor_k35_bands_along_slopes.Holds := by
 w_on;o_law;k_head;(case hw=>w_witness2)
 k_fill
 refine L2.SY (l:=PySem.Challenge.rw_shearfloor_k35_bands_along_slopes) (n:=63) (k:=9) (x:="_law_script") (CX:=bq) (sp:=L4.xK) rfl (by decide) rfl ⟨rfl,by decide,by decide,rfl⟩ (fun w h Y=>PySem.W.kIn_of Y) ?F ?S ?C
 case F =>
  intro w mg fa h KX G hmg;have T:My.Txt mg:=by
   refine' ⟨sT KX G ?z0,sT KX G ?z1,sT KX G ?z2,sT KX G ?z3,sT KX G ?z4,sT KX G ?z5,sT KX G ?z6,sT KX G ?z7,sT KX G ?z8,sT KX G ?z9,sT KX G ?ZH,sT KX G ?ZI⟩
   (case z0=>k_is);(case z1=>k_is);(case z2=>k_is);(case z3=>k_is);(case z4=>k_is);(case z5=>k_is);(case z6=>k_is);(case z7=>k_is);(case z8=>k_is);(case z9=>k_is);(case ZH=>k_is);(case ZI=>k_is)
  have ny:∃v,L4.tO (L2.KOf KX) mg "QUARTER" v (.tup [(.int 0),(.int (-1)),(.int 1),(.int 0)]):=by
   dsimp only [L2.KOf];refine' L4.Qn (vs:=[V.int 0,V.int (-1),V.int 1,V.int 0]) KX G ?a ?l ?o ?z ?v ?d
   (case a=>k_is);(case l=>k_is);(case o=>rfl);(case z=>decide);(case v=>exact (.cons ⟨_,rfl⟩ (.cons ⟨_,rfl⟩ (.cons ⟨_,rfl⟩ (.cons ⟨_,rfl⟩ .nil)))));(case d=>exact fun ρ H=>(.cons (.int _) (.cons (.int _) (.cons (.int _) (.cons (.int _) .nil)))))
  obtain ⟨_,ny⟩:=ny;have nz:∃v,L4.tO (L2.KOf KX) mg "UNMOVED" v (.tup [(.int 1),(.int 0),(.int 0),(.int 1)]):=by
   dsimp only [L2.KOf];refine' L4.Qn (vs:=[V.int 1,V.int 0,V.int 0,V.int 1]) KX G ?a ?l ?o ?z ?v ?d
   (case a=>k_is);(case l=>k_is);(case o=>rfl);(case z=>decide);(case v=>exact (.cons ⟨_,rfl⟩ (.cons ⟨_,rfl⟩ (.cons ⟨_,rfl⟩ (.cons ⟨_,rfl⟩ .nil)))));(case d=>exact fun ρ H=>(.cons (.int _) (.cons (.int _) (.cons (.int _) (.cons (.int _) .nil)))))
  obtain ⟨_,nz⟩:=nz;obtain⟨_,_,kE⟩:∃f fd,Def (L2.KOf KX) mg "_law_feed" My.Ey ["_law_script","_law_k"] f fd:=by x_fa KX G My.ml
  obtain⟨_,_,kF⟩:∃f fd,Def (L2.KOf KX) mg "_law_take" My.Ez ["_law_feed_here","_law_many"] f fd:=by x_fa KX G My.ml
  obtain⟨_,_,iO⟩:∃f fd,Def (L2.KOf KX) mg "_law_common" My.EB ["_law_a","_law_c"] f fd:=by x_fa KX G My.ml
  obtain⟨_,_,jQ⟩:∃f fd,Def (L2.KOf KX) mg "_law_slope" My.ED ["_law_feed_here","_law_most"] f fd:=by x_fa KX G My.ml
  obtain⟨_,_,kG⟩:∃f fd,Def (L2.KOf KX) mg "_law_anew" My.EF ["_law_floor_here","_law_p"] f fd:=by x_fa KX G My.ml
  obtain⟨_,_,gW⟩:∃f fd,Def (L2.KOf KX) mg "_law_turning" My.EG ["_law_feed_here","_law_n"] f fd:=by x_fa KX G My.ml
  obtain⟨_,_,lS⟩:∃f fd,Def (L2.KOf KX) mg "_law_met" My.EH ["_law_floor_here"] f fd:=by x_fa KX G My.oF
  obtain⟨_,_,jR⟩:∃f fd,Def (L2.KOf KX) mg "_law_floor" My.EK ["_law_feed_here","_law_n"] f fd:=by x_fa KX G My.ml
  obtain⟨_,_,jS⟩:∃f fd,Def (L2.KOf KX) mg "_law_drawn" My.EM ["_law_feed_here","_law_most"] f fd:=by x_fa KX G My.ml
  obtain⟨_,_,kH⟩:∃f fd,Def (L2.KOf KX) mg "ring_from" My.EN ["turning","first"] f fd:=by x_fa KX G My.ml
  obtain⟨_,_,lT⟩:∃f fd,Def (L2.KOf KX) mg "rings_of" My.EO ["turning"] f fd:=by x_fa KX G My.oF
  obtain⟨_,_,kI⟩:∃f fd,Def (L2.KOf KX) mg "upper_row" My.ER ["floor","row"] f fd:=by x_fa KX G My.ml
  obtain⟨_,_,lU⟩:∃f fd,Def (L2.KOf KX) mg "followed" My.ES ["one","other"] f fd:=by x_fa KX G My.ml
  obtain⟨_,_,iP⟩:∃f fd,Def (L2.KOf KX) mg "turned_back" My.ET ["turning"] f fd:=by x_fa KX G My.oF
  obtain⟨_,_,fI⟩:∃f fd,Def (L2.KOf KX) mg "round_corners" My.EV ["floor"] f fd:=by x_fa KX G My.oF
  obtain⟨_,_,kJ⟩:∃f fd,Def (L2.KOf KX) mg "is_smooth" My.EW ["floor","ring"] f fd:=by x_fa KX G My.ml
  obtain⟨_,_,kK⟩:∃f fd,Def (L2.KOf KX) mg "band_from" My.EX ["floor","lowest"] f fd:=by x_fa KX G My.ml
  obtain⟨_,_,lV⟩:∃f fd,Def (L2.KOf KX) mg "bands_of" My.EY ["floor"] f fd:=by x_fa KX G My.oF
  obtain⟨_,_,iQ⟩:∃f fd,Def (L2.KOf KX) mg "called_anew" My.E2 ["floor","p"] f fd:=by x_fa KX G My.ml
  obtain⟨_,_,gX⟩:∃f fd,Def (L2.KOf KX) mg "squares_from" My.E4 ["floor","s"] f fd:=by x_fa KX G My.ml
  obtain⟨_,_,d9⟩:∃f fd,Def (L2.KOf KX) mg "numbering_from" My.E6 ["floor","s"] f fd:=by x_fa KX G My.ml
  obtain⟨_,_,fJ⟩:∃f fd,Def (L2.KOf KX) mg "numbered_from" My.E8 ["floor","s"] f fd:=by x_fa KX G My.ml
  obtain⟨_,_,nA⟩:∃f fd,Def (L2.KOf KX) mg "form_of" My.Fb ["floor"] f fd:=by x_fa KX G My.oF
  obtain⟨_,_,p3⟩:∃f fd,Def (L2.KOf KX) mg "often" My.Fe ["turning","k"] f fd:=by x_fa KX G My.ml
  obtain⟨_,_,nB⟩:∃f fd,Def (L2.KOf KX) mg "sheared" My.Fh ["floor","k"] f fd:=by x_fa KX G My.ml
  obtain⟨_,_,kL⟩:∃f fd,Def (L2.KOf KX) mg "quartered" My.Fj ["floor"] f fd:=by x_fa KX G My.oF
  obtain⟨_,_,iR⟩:∃f fd,Def (L2.KOf KX) mg "led_by_step" My.Fn ["floor","step"] f fd:=by x_fa KX G My.ml
  obtain⟨_,_,oI⟩:∃f fd,Def (L2.KOf KX) mg "led_by" My.Fq ["floor","word"] f fd:=by x_fa KX G My.ml
  obtain⟨_,_,lW⟩:∃f fd,Def (L2.KOf KX) mg "led_pair" My.Fs ["table","pair"] f fd:=by x_fa KX G My.ml
  obtain⟨_,_,oJ⟩:∃f fd,Def (L2.KOf KX) mg "shears" My.Ft ["k"] f fd:=by x_fa KX G My.oF
  obtain⟨_,_,p4⟩:∃f fd,Def (L2.KOf KX) mg "times" My.Fu ["one","other"] f fd:=by x_fa KX G My.ml
  obtain⟨_,_,jT⟩:∃f fd,Def (L2.KOf KX) mg "step_table" My.Fw ["step"] f fd:=by x_fa KX G My.oF
  obtain⟨_,_,lX⟩:∃f fd,Def (L2.KOf KX) mg "table_of" My.Fx ["word"] f fd:=by x_fa KX G My.oF
  obtain⟨_,_,nC⟩:∃f fd,Def (L2.KOf KX) mg "nearest" My.Fz ["number","divisor"] f fd:=by x_fa KX G My.ml
  obtain⟨_,_,iS⟩:∃f fd,Def (L2.KOf KX) mg "level_steps" My.FA ["pair"] f fd:=by x_fa KX G My.oF
  obtain⟨_,_,oK⟩:∃f fd,Def (L2.KOf KX) mg "joined" My.FD ["one","other"] f fd:=by x_fa KX G My.ml
  obtain⟨_,_,jU⟩:∃f fd,Def (L2.KOf KX) mg "made_plain" My.FF ["word"] f fd:=by x_fa KX G My.oF
  obtain⟨_,_,gY⟩:∃f fd,Def (L2.KOf KX) mg "put_together" My.FI ["one","other"] f fd:=by x_fa KX G My.ml
  obtain⟨_,_,lY⟩:∃f fd,Def (L2.KOf KX) mg "is_table" My.FK ["thing"] f fd:=by x_fa KX G My.oF
  obtain⟨_,_,jV⟩:∃f fd,Def (L2.KOf KX) mg "level_word" My.FN ["table"] f fd:=by x_fa KX G My.oF
  obtain⟨_,_,kM⟩:∃f fd,Def (L2.KOf KX) mg "back_step" My.FP ["step"] f fd:=by x_fa KX G My.oF
  obtain⟨_,_,kN⟩:∃f fd,Def (L2.KOf KX) mg "back_word" My.FR ["word"] f fd:=by x_fa KX G My.oF
  obtain⟨_,_,nD⟩:∃f fd,Def (L2.KOf KX) mg "word_of" My.FU ["table"] f fd:=by x_fa KX G My.oF
  obtain⟨_,_,gZ⟩:∃f fd,Def (L2.KOf KX) mg "led_by_table" My.FW ["floor","table"] f fd:=by x_fa KX G My.ml
  obtain⟨_,_,iT⟩:∃f fd,Def (L2.KOf KX) mg "slope_table" My.FY ["slope"] f fd:=by x_fa KX G My.oF
  obtain⟨_,_,iU⟩:∃f fd,Def (L2.KOf KX) mg "bands_along" My.FZ ["floor","slope"] f fd:=by x_fa KX G My.ml
  obtain⟨_,_,iW⟩:∃f fd,Def (L2.KOf KX) mg "_law_around" My.F3 ["_law_floor_here"] f fd:=by x_fa KX G My.oF
  obtain⟨_,_,jW⟩:∃f fd,Def (L2.KOf KX) mg "_law_rings" My.F5 ["_law_turning_here"] f fd:=by x_fa KX G My.oF
  obtain⟨_,_,jX⟩:∃f fd,Def (L2.KOf KX) mg "_law_bands" My.F6 ["_law_floor_here"] f fd:=by x_fa KX G My.oF
  obtain⟨_,_,iX⟩:∃f fd,Def (L2.KOf KX) mg "_law_behind" My.F8 ["_law_turning_here","_law_s","_law_k"] f fd:=by x_fa KX G My.W6
  obtain⟨_,_,g5⟩:∃f fd,Def (L2.KOf KX) mg "_law_stepped" My.F9 ["_law_floor_here","_law_step"] f fd:=by x_fa KX G My.ml
  obtain⟨_,_,lZ⟩:∃f fd,Def (L2.KOf KX) mg "_law_led" My.Ga ["_law_floor_here","_law_word"] f fd:=by x_fa KX G My.ml
  obtain⟨_,_,fK⟩:∃f fd,Def (L2.KOf KX) mg "_law_straight" My.Gb ["_law_pair"] f fd:=by x_fa KX G My.oF
  obtain⟨_,_,qy⟩:∃f fd,Def (L2.KOf KX) mg "law" My.Jv ["_law_script"] f fd:=by x_fa KX G My.oF
  have e0:=hmg.symm.trans qy.m;cases e0;exact ⟨_,qy.vA,fun base _ _=>L4.zy (My.A3 T ny nz kE kF iO jQ kG gW lS jR jS kH lT kI lU iP fI kJ kK lV iQ gX d9 fJ nA p3 nB kL iR oI lW oJ p4 jT lX nC iS oK jU gY lY jV kM kN nD gZ iT iU iW jW jX iX g5 lZ fK qy) fun ns hn=>let ⟨_,st,e,h⟩:=My.uQ ns hn;⟨st,h ▸ e⟩⟩
 case S=>exact fun K H a ns hl hO hS=>⟨a,ns,rfl,hS.script hO,hl,fun _=>rfl⟩
 case C=>exact fun _ _ _ _ z=>z
