import PyProof.Rows.All
import Wide.All
import OpenK.AllK
import Wide.FinOn
import Lean
import PyProof.EqAt
import PyProof.EqKinds
import PyProof.TupleCall
import PyProof.DictIter
import PyProof.EnumMake
import KE.KSortTup
import KE.KDictLaws
import KE.KDictSum
import PyProof.StrLawsTight
import KE.KIntText
import PyProof.MinMaxWalk
import PyProof.WalkInts
import KE.KIsAll
import PyProof.ExcInit
import PyProof.NsDelKeeps
import PyProof.ExcBaseAll.ValueError
import OpenK.KOwn
import PyProof.ExcAttrAll.ValueError
import PyProof.InstStoreFacts
import PyProof.NoPylong
import PySem.Challenge.RW_shearfloor_k64_whole_lines_and_led_rows
set_option Elab.async false
set_option linter.all false
set_option maxRecDepth 100000
set_option maxHeartbeats 4000000
set_option genSizeOf false
noncomputable section
section
local macro_rules|`(command|def $n:declId $s:optDeclSig $v:declVal)=>`(theorem $n:declId $(⟨Lean.mkNode ``Lean.Parser.Command.declSig #[s.raw[0],s.raw[1][0]]⟩):declSig $v:declVal)
local macro_rules|`(command|abbrev $n:declId $s:optDeclSig $v:declVal)=>`(noncomputable def $n:declId $s:optDeclSig $v:declVal)
local macro_rules|`(⋯)=>`(by first|lia|omega)
local macro_rules|`(∅)=>`(by decide)
local macro_rules|`(tactic|lk)=>`(tactic|first|lia|omega)
abbrev Zaa:=@List.length_map
abbrev Zab:=@List.getElem?_eq_getElem
abbrev Zac:=@List.getElem?_eq_some_iff
abbrev Zad:=@Nat.le_refl
abbrev Zae:=@List.mem_cons_self
abbrev Zaf:=@List.getD_eq_getElem?_getD
abbrev Zag:=@List.mem_cons_of_mem
abbrev Zah:=@List.mem_map
abbrev Zai:=@PySem.Heap.get?_push_of_some
abbrev Zaj:=@List.length_append
abbrev Zak:=@List.mem_of_getElem?
abbrev Zal:=@List.getElem?_map
abbrev Zam:=@List.size_toArray
abbrev Zan:=@Bool.false_ne_true
abbrev Zao:=@List.getElem?_set_self
abbrev Zap:=@Nat.le_trans
abbrev Zaq:=@Option.some.inj
abbrev Zar:=@PySem.Heap.get?_push_size
abbrev Zas:=@List.map_map
abbrev Zat:=@List.mem_singleton
abbrev Zau:=@Int.toNat_natCast
abbrev Zav:=@List.getElem?_append_left
abbrev Zaw:=@List.map_append
abbrev Zax:=@PySem.Heap.lt_size
abbrev Zay:=@List.map_cons
abbrev Zaz:=@List.length_cons
abbrev ZaA:=@List.mem_cons
abbrev ZaB:=@Option.map_eq_some_iff
abbrev ZaC:=@List.getElem?_append_right
abbrev ZaD:=@Bool.and_eq_true
abbrev ZaE:=@List.take_succ_eq_append_getElem
abbrev ZaF:=@List.mem_append
abbrev ZaG:=@List.getElem?_set_ne
abbrev ZaH:=@List.mem_filter
abbrev ZaI:=@List.getElem?_eq_none_iff
abbrev ZaJ:=@List.map_congr_left
abbrev ZaK:=@List.length_singleton
abbrev ZaL:=@Int.mul_assoc
abbrev ZaM:=@List.getElem_mem
abbrev ZaN:=@Int.toNat_of_nonneg
abbrev ZaO:=@Nat.zero_le
abbrev ZaP:=@List.mem_range
abbrev ZaQ:=@List.mem_append_right
abbrev ZaR:=@Nat.lt_of_lt_of_le
abbrev ZaS:=@Nat.ne_of_lt
abbrev ZaT:=@Nat.lt_of_le_of_lt
abbrev ZaU:=@Int.mul_comm
abbrev ZaV:=@PySem.Heap.get?_update_other
abbrev ZaW:=@Bool.false_eq_true
abbrev ZaX:=@Int.neg_mul
abbrev ZaY:=@Nat.not_lt_zero
abbrev ZaZ:=@List.map_nil
abbrev Za0:=@List.all_eq_true
abbrev Za1:=@List.take_length
abbrev Za2:=@List.getD_cons_succ
abbrev Za3:=@List.getD_cons_zero
abbrev Za4:=@List.contains_iff_mem
abbrev Za5:=@List.flatten_cons
abbrev Za6:=@List.length_take
abbrev Za7:=@List.replicate_succ
abbrev Za8:=@List.getElem_of_mem
abbrev Za9:=@List.length_reverse
abbrev Zba:=@List.pairwise_map
abbrev Zbb:=@Array.getElem?_toList
abbrev Zbc:=@List.nodup_cons
abbrev Zbd:=@Array.getD_eq_getD_getElem?
abbrev Zbe:=@Option.bind_eq_some_iff
abbrev Zbf:=@List.perm_ext_iff_of_nodup
abbrev Zbg:=@Nat.mul_le_mul
abbrev Zbh:=@List.Perm.refl
abbrev Zbi:=@Array.length_toList
abbrev Zbj:=@List.length_set
abbrev Zbk:=@List.length_replicate
abbrev Zbl:=@List.getElem?_eq_none
abbrev Zbm:=@List.Pairwise.imp_of_mem
abbrev Zbn:=@List.mem_flatten
abbrev Zbo:=@Option.bind_some
abbrev Zbp:=@List.any_cons
abbrev Zbq:=@List.append_assoc
abbrev Zbr:=@List.foldl_append
abbrev Zbs:=@Bool.eq_iff_iff
abbrev Zbt:=@List.append_nil
abbrev Zbu:=@List.find?_cons
abbrev Zbv:=@Int.emod_nonneg
abbrev Zbw:=@Nat.le_of_lt
abbrev Zby:=@PySem.Heap.get?_update_self
abbrev Zbz:=@List.pairwise_cons
abbrev ZbA:=@List.exists_mem_of_ne_nil
abbrev ZbB:=@List.length_nil
abbrev ZbC:=@Bool.or_eq_true
abbrev ZbD:=@Nat.mul_le_mul_right
abbrev ZbE:=@List.eq_nil_of_length_eq_zero
abbrev ZbF:=@PySem.Heap.SameBut.update
abbrev ZbG:=@List.length_pos_iff
abbrev ZbH:=@List.lookup_cons
abbrev ZbI:=@Nat.lt_succ_self
abbrev ZbK:=@List.getElem_map
abbrev ZbL:=@Int.natAbs_mul
abbrev ZbM:=@Nat.succ_mul
abbrev ZbN:=@Int.zero_add
abbrev ZbO:=@Int.emod_lt_of_pos
abbrev ZbP:=@List.nodup_append
abbrev ZbQ:=@List.mem_append_left
abbrev ZbR:=@List.getElem?_of_mem
abbrev ZbS:=@List.drop_eq_getElem_cons
abbrev ZbT:=@List.pairwise_iff_getElem
abbrev ZbU:=@Nat.le_succ
abbrev ZbV:=@PySem.Heap.size_push
abbrev ZbW:=@Option.isSome_iff_exists
abbrev ZbX:=@List.getElem?_range
abbrev ZbY:=@List.getElem?_replicate
abbrev ZbZ:=@Nat.lt_irrefl
abbrev Zb0:=@Int.mul_add
abbrev Zb1:=@Nat.sub_self
abbrev Zb2:=@List.getElem_inj
abbrev Zb3:=@Nat.pow_le_pow_right
abbrev Zb4:=@List.perm_cons_erase
abbrev Zb5:=@List.mem_erase_of_ne
abbrev Zb7:=@List.prefix_refl
abbrev Zb8:=@List.mem_reverse
abbrev Zb9:=@List.map_id
abbrev Zca:=@List.filter_sublist
abbrev Zcb:=@Nat.mul_comm
abbrev Zcc:=@Nat.zero_add
abbrev Zcd:=@Nat.le_mul_of_pos_right
abbrev Zce:=@List.pairwise_mergeSort
abbrev Zcf:=@List.ext_getElem?
abbrev Zcg:=@Int.le_ediv_iff_mul_le
abbrev Zch:=@List.drop_of_length_le
abbrev Zci:=@List.pairwise_lt_range
abbrev Zcj:=@Int.one_mul
abbrev Zck:=@Int.mul_sub
abbrev Zcl:=@Int.sub_mul
abbrev Zcm:=@Nat.le_of_not_lt
abbrev Zco:=@List.any_eq_true
abbrev Zcp:=@List.filter_cons
abbrev Zcq:=@List.length_filter_le
abbrev Zcr:=@List.Pairwise.sublist
abbrev Zcs:=@List.pairwise_flatten
abbrev Zct:=@Int.natAbs_dvd_natAbs
abbrev Zcu:=@Nat.le_of_ble_eq_true
abbrev Zcv:=@List.filterMap_cons
abbrev Zcw:=@List.mem_map_of_mem
abbrev Zcx:=@List.mergeSort_perm
abbrev Zcy:=@Int.mul_one
abbrev Zcz:=@List.getElem_range
abbrev ZcB:=@List.prefix_append
abbrev ZcE:=@Bool.xor_self
@[reducible]def Zfr:=PySem.W.Frag
namespace L2
open PySem PySem.Spec PyProof.Rows
@[reducible]def Key:=Sum Int Str
abbrev oP:Key->Value->Bool
 |.inl k,v=>Value.isInt k v
 |.inr x,v=>Value.isStrOf x v
abbrev Kc(w:World):Key->Int
 |.inl k=>hashInt k
 |.inr x=>hashStr w x
def u6:∀{k:Key} {v:Value},oP k v=true->(∃i t,k=Sum.inl i/\v=Value.int i t)\/(∃x t,k=Sum.inr x/\v=Value.str x t)
 |.inl i,v,h=>by
  obtain⟨t,e⟩:=Value.isInt_shape (k:=i) (v:=v) h;exact .inl ⟨i,t,rfl,e⟩
 |.inr x,v,h=>by
  obtain⟨t,e⟩:=Value.isStrOf_shape (x:=x) (v:=v) h;exact .inr ⟨x,t,rfl,e⟩
def Ta(i:Int)(t:Tok):oP (.inl i) (.int i t)=true:=by simp[oP,Value.isInt]
def Tb(x:Str)(t:Tok):oP (.inr x) (.str x t)=true:=by simp[oP,Value.isStrOf]
def x4(a b:Int):decide ((Sum.inl a:Key)=Sum.inl b)=(a == b):=by by_cases e:a=b;subst e;simp;have h:¬(Sum.inl a:Key)=Sum.inl b:=λq=>e (Sum.inl.inj q);rw[decide_eq_false h];exact(beq_eq_false_iff_ne.mpr e).symm
def x5(a b:Str):decide ((Sum.inr a:Key)=Sum.inr b)=decide (a=b):=by by_cases e:a=b;subst e;simp;have h:¬(Sum.inr a:Key)=Sum.inr b:=λq=>e (Sum.inr.inj q);rw[decide_eq_false h,decide_eq_false e]
def x6(a:Int)(b:Str):decide ((Sum.inl a:Key)=Sum.inr b)=false:=decide_eq_false (λq=>nomatch q)
def x8(a:Str)(b:Int):decide ((Sum.inr a:Key)=Sum.inl b)=false:=decide_eq_false (λq=>nomatch q)
abbrev cj(prog:Program)(w:World):PySem.KeyKind prog w Key where
 is:=oP
 hash:=Kc w
 inj:=λv a b ha hb=>by
  rcases u6 ha with⟨i,t,rfl,rfl⟩|⟨x,t,rfl,rfl⟩
  rcases u6 hb with⟨j,u,rfl,e⟩|⟨y,u,rfl,e⟩
  injection e with e1 _;rw[e1];exact nomatch e;rcases u6 hb with⟨j,u,rfl,e⟩|⟨y,u,rfl,e⟩
  exact nomatch e;injection e with e1 _;rw[e1]
 byValue:=λk v h=>by
  rcases u6 h with⟨i,t,rfl,rfl⟩|⟨x,t,rfl,rfl⟩<;>rfl
 pyHash:=λhv h=>by
  rcases u6 hv with⟨i,t,rfl,rfl⟩|⟨x,t,rfl,rfl⟩
  exact wpAny_pyHash_int h;exact wpAny_pyHash_str h
 eqBool:=λhu hv h=>by
  rcases u6 hu with⟨i,t,rfl,rfl⟩|⟨x,t,rfl,rfl⟩
  rcases u6 hv with⟨j,u,rfl,rfl⟩|⟨y,u,rfl,rfl⟩
  rw[x4]at h;exact wpAny_eqBool_int h;rw[x6]at h;exact SeqAt.EqAt.int_str i t y u _ _ _ _ h;rcases u6 hv with⟨j,u,rfl,rfl⟩|⟨y,u,rfl,rfl⟩
  rw[x8]at h;exact SeqAt.EqAt.str_int x t j u _ _ _ _ h;rw[x5]at h;exact wpAny_eqBool_str h
 «strs»:=λk x t v h=>by
  rcases u6 h with⟨i,u,rfl,e⟩|⟨y,u,rfl,e⟩
  exact nomatch e;injection e with e1 _;subst e1;cases v<;>rfl
def Tc(prog:Program)(w:World)(i:Int)(t:Tok):(cj prog w).is (.inl i) (.int i t)=true:=Ta i t
def Td(prog:Program)(w:World)(x:Str)(t:Tok):(cj prog w).is (.inr x) (.str x t)=true:=Tb x t
inductive V where
 |non|bl (b:Bool)|int (i:Int)|str (x:Str)|sZ (b:Array UInt8)|Kd (b:UInt64)|ref (a:Addr)|ty (n:String)
 deriving DecidableEq
abbrev RelV:V->Value->Prop
 |.non,u=>u=Value.none
 |.bl b,u=>u=Value.bool b
 |.int i,u=>∃t,u=Value.int i t
 |.str x,u=>∃t,u=Value.str x t
 |.sZ b,u=>∃t,u=Value.bytes b t
 |.Kd b,u=>∃t,u=Value.float b t
 |.ref a,u=>u=Value.ref a
 |.ty n,u=>u=Value.type n
@[reducible]def Vals:List V->List Value->Prop:=Paired RelV
def Vals.length{xs:List V}{us:List Value}(r:Vals xs us):xs.length=us.length:=Paired.length r
def Vals.get:∀{xs:List V} {us:List Value} {i:Nat} {x:V},Vals xs us->xs[i]?=some x->∃u,us[i]?=some u/\RelV x u
 |_,_,_,_,.nil,e=>by simp at e
 |_,_,0,_,.cons r _,e=>by simp at e;subst e;exact⟨_,rfl,r⟩
 |_,_,i+1,x,.cons _ t,e=>by
  obtain⟨u,h1,h2⟩:=Vals.get (i:=i) (x:=x) t (by simpa using e);exact⟨u,by simpa using h1,h2⟩
def Vals.set{x:V}{u:Value}(r:RelV x u):∀{xs:List V} {us:List Value} (i:Nat),Vals xs us->Vals (xs.set i x) (us.set i u)
 |_,_,_,.nil=>.nil
 |_,_,0,.cons _ t=>.cons r t
 |_,_,i+1,.cons q t=>.cons q (Vals.set r i t)
def Vals.append:∀{xs ys:List V} {us ws:List Value},Vals xs us->Vals ys ws->Vals (xs ++ ys) (us ++ ws)
 |_,_,_,_,.nil,s=>s
 |_,_,_,_,.cons r t,s=>.cons r (Vals.append t s)
def Vals.take:∀{xs:List V} {us:List Value} (n:Nat),Vals xs us->Vals (xs.take n) (us.take n)
 |_,_,0,_=>.nil
 |_,_,_+1,.nil=>.nil
 |_,_,n+1,.cons r t=>.cons r (Vals.take n t)
def Vals.drop:∀{xs:List V} {us:List Value} (n:Nat),Vals xs us->Vals (xs.drop n) (us.drop n)
 |_,_,0,r=>r
 |_,_,_+1,.nil=>.nil
 |_,_,n+1,.cons _ t=>Vals.drop n t
abbrev oF:Option V->Option Value->Prop
 |some v,some u=>RelV v u
 |none,none=>True
 |_,_=>False
abbrev KV{κ:Type}:List (κ×V)->List (κ×Value)->Prop:=Paired λ(p:κ×V) (q:κ×Value)=>p.1=q.1/\RelV p.2 q.2
abbrev kV:Key->V
 |.inl i=>.int i
 |.inr x=>.str x
set_option genInjectivity false in
inductive HO where
 /-- a list -/
 |lst (xs:List V)
 /-- a tuple (never changes) -/
 |tup (xs:List V)
 /-- a dict whose keys are ints and texts;one whose keys are tuples of ints and texts (the empty one is both) -/
 |dK (kvs:List (Key×V))|dT (kvs:List (List Key×V))
 /-- a set of ints: its members,its size -/
 |set (S:Int->Bool) (n:Nat)
 /-- an instance of the class at C,its dict at dx,its attributes -/
 |ins (C dx:Addr) (fs:List (Str×V))
 /-- the dict of the instance at x -/
 |own (x:Addr)
 /-- the dict of an exception -/
 |xd (fs:List (Str×V))
 /-- a bound method,f of x -/
 |met (f x:Addr)
 /-- a range object lo,lo+1,.. below hi -/
 |jR (lo hi:Int)
 /-- a thing that is known to the object (the script;a dict while a loop walks it): read,never written while it is so -/
 |oX (o:Obj) (u:HO)
 /-- a code B0 table -/
 |x9 (ps:Array Value)
 /-- any other thing,by what is true of its one object (a def of Nx own: Te a S n:=HO.ext λh=>..) -/
 |ext (φ:Heap->Prop)
@[reducible]def Hp:=Addr->Option HO
abbrev upd(H:Hp)(a:Addr)(o:HO):Hp:=λb=>if b=a then some o else H b
def sP{H:Hp}{a:Addr}{o:HO}:upd H a o a=some o:=by unfold upd;rw[if_pos rfl]
def kD{H:Hp}{a b:Addr}{o:HO}(h:b≠a):upd H a o b=H b:=by unfold upd;rw[if_neg h]
def Ke{H:Hp}{a b:Addr}{o u:HO}(h:H a=some o)(h':H b=some u)(d:o≠u):a≠b:=by intro e;subst e;rw[h]at h';exact d (Zaq h')
def A3{H:Hp}{a b:Addr}{o:HO}(h:H a=some o)(h':H b=none):a≠b:=by intro e;subst e;rw[h]at h';cases h'
abbrev oG(h:Heap)(a:Addr)(its:Array Value):Prop:=∃o,h.get? a=some o/\o.cls=.type "tuple" /\ o.dict=none/\∃n,o.data=.seq its n
def oG.tup{h:Heap}{a:Addr}{its:Array Value}(x:oG h a its):IsTup h a its:=let ⟨o,e,c,_,n,d⟩:=x;⟨o,e,c,n,d⟩
def oG.new(h:Heap)(its:Array Value):oG (h.push { cls:=.type "tuple",data:=.seq its }) h.objs.size its:=⟨_,Zar _ rfl,rfl,rfl,_,rfl⟩
section
variable (P:Program)(w:World)
abbrev cu(H:Hp)(h:Heap)(a:Addr):HO->Prop
 |.lst xs=>xs.length<=sizeLine/\∃(its:List Value) (n:Nat),Vals xs its/\h.get? a=some { cls:=.type "list",data:=.seq its.toArray n }
 |.tup xs=>xs.length<=sizeLine/\∃its:List Value,Vals xs its/\oG h a its.toArray
 |.dK kvs=>kvs.length<=sizeLine/\(a == sysModules)=false/\∃vs,KV kvs vs/\h.DictOf (cj P w) a vs
 | .dT kvs=>kvs.length<=sizeLine/\(a == sysModules)=false/\∃ xs:List (List Key×Addr×Value),
   Paired (λ(p:List Key×V) (q:List Key×Addr×Value)=>p.1=q.1/\H q.2.1=some (.tup (p.1.map kV))/\RelV p.2 q.2.2) kvs xs /\
   ∃o es ep,h.get? a=some o/\o.ExactDict/\o.data=.dict es ep/\es.toList=xs.map (entryOfKey (tupleKind (cj P w)))/\(xs.map (·.1)).Nodup
 |.set S n=>h.SetOf (intKind P w) a S n
 | .ins C dx fs=>H dx=some (.own a)/\fs.length<=1000/\dx≠a/\h.get? a=some (PySem.W.instObj C dx) /\
   ∃mA,h.Ns1 dx mA/\(∀f,oF (fs.lookup f) (mA f))/\PySem.Within mA (fs.map (·.1))
 |.own _=>∃o,h.get? a=some o
 |.xd fs=>∃mA,h.Ns1 a mA/\∀f,oF (fs.lookup f) (mA f)
 |.jR lo hi=>∃t u v,h.get? a=some { cls:=.type "range",data:=.fields #[.int lo t,.int hi u,.int 1 v] }
 |.oX o u=>h.get? a=some o/\cu H h a u
 |.x9 ps=>h.get? a=some { cls:=.none,data:=.fields ps }
 |.met f x=>h.get? a=some (PySem.W.methodObj (.ref f) (.ref x))
 |.ext φ=>φ h/\(∃o,h.get? a=some o)/\∀h1 h2:Heap,φ h1->(∀o,h1.get? a=some o->h2.get? a=some o)->φ h2
abbrev lW(H:Hp)(h:Heap):Prop:=∀a o,H a=some o->cu P w H h a o
end
section
variable {P:Program}{w:World}{H H':Hp}{h h':Heap}{a:Addr}{o:HO}
def cu.lt(x:cu P w H h a o):a<h.objs.size:=by
 cases o with
 |lst xs=>obtain⟨_,_,_,_,e⟩:=x;exact Zax e
 |tup xs=>obtain⟨_,_,_,_,e,_⟩:=x;exact Zax e
 |dK kvs=>obtain⟨_,_,_,_,o,_,_,e,_⟩:=x;exact Zax e
 |dT kvs=>obtain⟨_,_,_,_,o,_,_,e,_⟩:=x;exact Zax e
 |set S n=>obtain⟨o,_,_,_,e,_⟩:=x;exact Zax e
 |ins C dx fs=>obtain⟨_,_,_,e,_⟩:=x;exact Zax e
 |own y=>obtain⟨_,e⟩:=x;exact Zax e
 |xd fs=>obtain⟨_,⟨_,_,_,e,_⟩,_⟩:=x;exact Zax e
 |jR lo hi=>obtain⟨_,_,_,e⟩:=x;exact Zax e
 |oX ob u=>obtain⟨e,_⟩:=x;exact Zax e
 |x9 ps=>exact Zax (show h.get? a=some _ from x)
 |met f y=>exact Zax (show h.get? a=some _ from x)
 |ext φ=>obtain⟨_,⟨_,e⟩,_⟩:=x;exact Zax e
def Paired.ya{α β:Type}{F G:α->β->Prop}:∀{l₁:List α} {l₂:List β},Paired F l₁ l₂->(∀a b,F a b->G a b)->Paired G l₁ l₂
 |_,_,.nil,_=>.nil
 |_,_,.cons r t,f=>.cons (f _ _ r) (Paired.ya t f)
def cu.stay(x:cu P w H h a o)(k:∀b u,(b=a\/H b=some (.own a))->h.get? b=some u->h'.get? b=some u)
  (ho:∀b,H b=some (.own a)->H' b=some (.own a)) (ht:∀b xs,H b=some (.tup xs)->H' b=some (.tup xs)):cu P w H' h' a o:=by
 induction o with
 |lst xs=>obtain⟨z,its,n,r,e⟩:=x;exact⟨z,its,n,r,k _ _ (.inl rfl) e⟩
 |tup xs=>obtain⟨z,its,r,ob,e,c⟩:=x;exact⟨z,its,r,ob,k _ _ (.inl rfl) e,c⟩
 |dK kvs=>obtain⟨z,y,vs,r,ob,es,ep,e,c⟩:=x;exact⟨z,y,vs,r,ob,es,ep,k _ _ (.inl rfl) e,c⟩
 |dT kvs =>
  obtain⟨z,y,xs,r,ob,es,ep,e,c⟩:=x;exact⟨z,y,xs,Paired.ya r λp q z=>⟨z.1,ht _ _ z.2.1,z.2.2⟩,ob,es,ep,k _ _ (.inl rfl) e,c⟩
 |set S n=>obtain⟨ob,es,ep,t,e,c⟩:=x;exact⟨ob,es,ep,t,k _ _ (.inl rfl) e,c⟩
 |ins C dx fs =>
  obtain⟨d,z,ne,e,mA,⟨od,es,ep,e2,c⟩,r⟩:=x;exact⟨ho _ d,z,ne,k _ _ (.inl rfl) e,mA,⟨od,es,ep,k _ _ (.inr d) e2,c⟩,r⟩
 |own y=>obtain⟨ob,e⟩:=x;exact⟨ob,k _ _ (.inl rfl) e⟩
 |xd fs=>obtain⟨mA,⟨od,es,ep,e,c⟩,r⟩:=x;exact⟨mA,⟨od,es,ep,k _ _ (.inl rfl) e,c⟩,r⟩
 |jR lo hi=>obtain⟨t,u,v,e⟩:=x;exact⟨t,u,v,k _ _ (.inl rfl) e⟩
 |oX ob u ih=>obtain⟨e,q⟩:=x;exact⟨k _ _ (.inl rfl) e,ih q⟩
 |x9 ps =>
  have e:h.get? a=some { cls:=.none,data:=.fields ps }:=x;show h'.get? a=some { cls:=.none,data:=.fields ps };exact k a _ (.inl rfl) e
 |met f y =>
  have e:h.get? a=some (PySem.W.methodObj (.ref f) (.ref y)):=x;show h'.get? a=some (PySem.W.methodObj (.ref f) (.ref y));exact k a _ (.inl rfl) e
 |ext φ=>obtain⟨p,⟨o,e⟩,st⟩:=x;exact⟨st _ _ p λo q=>k _ _ (.inl rfl) q,⟨o,k _ _ (.inl rfl) e⟩,st⟩
def lW.lt(x:lW P w H h)(e:H a=some o):a<h.objs.size:=(x a o e).lt
def lW.fresh(x:lW P w H h)(e:h.objs.size<=a):H a=none:=by
 cases q:H a with
 |none=>rfl
 |some u=>exact absurd (ZaR (x.lt q) e) (ZbZ _)
def lW.kept(x:lW P w H h)(k:∀b u,h.get? b=some u->h'.get? b=some u):lW P w H h':=λa o e =>
 (x a o e).stay (λb u _ q=>k b u q) (λ_ q=>q) λ_ _ q=>q
def lW.laid(x:lW P w H h)(k:∀b u,h.get? b=some u->h'.get? b=some u)(hp:h.objs.size<=a)(new:cu P w (upd H a o) h' a o):lW P w (upd H a o) h':=λb u e=>by
 have hn:=x.fresh hp;by_cases hb:b=a;subst hb;rw[sP]at e;cases e;exact new;rw[kD hb]at e;exact(x b u e).stay (λc v _ q=>k c v q) (λc q=>by rw[kD (A3 q hn)];exact q) λc xs q=>by rw[kD (A3 q hn)];exact q
end
abbrev Rd(H:Hp)(a:Addr)(u:HO):Prop:=H a=some u\/∃o,H a=some (.oX o u)
def Rd.ok{P:Program}{w:World}{H:Hp}{h:Heap}{a:Addr}{u:HO}(r:Rd H a u)(x:lW P w H h):cu P w H h a u:=by
 rcases r with r|⟨o,r⟩
 exact x a u r;obtain⟨_,q⟩:=x a _ r;exact q
abbrev B1:Option HO->Prop
 |some (.lst _)=>True
 |some (.dK _)=>True
 |some (.dT _)=>True
 |some (.set _ _)=>True
 |some (.ins _ _ _)=>True
 |some (.ext _)=>True
 |_=>False
section
variable {P:Program}{w:World}{H:Hp}{h h':Heap}{x e:Addr}{o':HO}
def lW.write(ok:lW P w H h)(mu:B1 (H x))(he:e=x\/H e=some (.own x))(k:∀b u,b≠e->h.get? b=some u->h'.get? b=some u)(A4:∃u,h'.get? e=some u)
  (new:cu P w (upd H x o') h' x o'):lW P w (upd H x o') h':=λb u q=>by
 have B2:∀c y,H c=some (.own y)->c≠x:=λc y r z=>by subst z;rw[r]at mu;exact mu
 have Kf:∀c xs,H c=some (.tup xs)->c≠x:=λc xs r z=>by subst z;rw[r]at mu;exact mu
 by_cases hb:b=x;subst hb;rw[sP]at q;cases q;exact new;rw[kD hb]at q;by_cases yb:b=e;have q':H b=some (.own x):=by
  rcases he with z|z
  exact absurd (yb.trans z) hb;rw[yb];exact z
 rw[q]at q';cases q';obtain⟨v,hv⟩:=A4;exact⟨v,by rw[yb];exact hv⟩;refine(ok b u q).stay (λc v hc r=>k c v ?_ r) (λc r=>by rw[kD (B2 c b r)];exact r) λc xs r=>by rw[kD (Kf c xs r)];exact r
 rcases hc with rfl|hc
 exact yb;rintro rfl;rcases he with z|z
 exact B2 c b hc z;rw[hc]at z;cases z;exact hb rfl
end
structure Un(fs ex:List Addr)(H H':Hp)(h h':Heap):Prop where
 keep:∀b o,h.get? b=some o->H b=none->b ∉ fs->b ∉ ex->h'.get? b=some o
 slot:∀b o,h.get? b=some o->H b=none->b∈fs->b ∉ ex->∃sl,h'.get? b=some { o with slots:=sl }
 free:∀b o,h.get? b=some o->H b=none->b ∉ ex->H' b=none
 there:∀b o,h.get? b=some o->b ∉ ex->∃o',h'.get? b=some o'
 tups:∀b xs,H b=some (.tup xs)->H' b=some (.tup xs)
 oY:∀b o u,H b=some (.oX o u)->H' b=some (.oX o u)
 p6:∀b ps,H b=some (.x9 ps)->∃more,H' b=some (.x9 (ps ++ more))
section
variable {fs fs' ex ex':List Addr}{H H1 H2:Hp}{h h1 h2 h':Heap}{a x e:Addr}{o:HO}
def Un.any(u:Un fs ex H H1 h h1){b:Addr}{ob:Obj}(q:h.get? b=some ob)(n:H b=none)(hx:b ∉ ex):∃sl,h1.get? b=some { ob with slots:=sl }:=by by_cases hb:b∈fs;exact u.slot b ob q n hb hx;exact⟨ob.slots,u.keep b ob q n hb hx⟩
def Un.kept(k:∀b u,h.get? b=some u->h'.get? b=some u):Un fs ex H H h h' :=
 ⟨λb ob q _ _ _=>k b ob q,λb ob q _ _ _=>⟨ob.slots,k b ob q⟩,λ_ _ _ n _=>n,λb ob q _=>⟨ob,k b ob q⟩,λ_ _ q=>q,λ_ _ _ q=>q,λ_ ps q=>⟨#[],by rw[q];simp⟩⟩
def Un.refl:Un fs ex H H h h:=Un.kept λ_ _ q=>q
def Un.laid(k:∀b u,h.get? b=some u->h'.get? b=some u)(hp:h.objs.size<=a)(hn:H a=none):Un fs ex H (upd H a o) h h' where
 keep:=λb u q _ _ _=>k b u q
 slot:=λb u q _ _ _=>⟨u.slots,k b u q⟩
 free:=λb u q n _=>by rw[kD (ZaS (ZaR (Zax q) hp))];exact n
 there:=λb u q _=>⟨u,k b u q⟩
 tups:=λb xs q=>by rw[kD (A3 q hn)];exact q
 oY:=λb u xs q=>by rw[kD (A3 q hn)];exact q
 p6:=λb ps q=>⟨#[],by rw[kD (A3 q hn),q];simp⟩
def Un.write(mu:B1 (H x))(he:e=x\/H e=some (.own x))(k:∀b u,b≠e->h.get? b=some u->h'.get? b=some u)(A4:∃u,h'.get? e=some u):Un fs ex H (upd H x o) h h':=by
 have hx:∀b,H b=none->b≠x:=λb n z=>by subst z;rw[n]at mu;exact mu
 have hb:∀b,H b=none->b≠e:=λb n z=>by
  subst z;rcases he with r|r
  exact hx b n r;rw[n]at r;cases r
 have hm:∀b u,H b=some u->¬B1 (some u)->b≠x:=λb u q nm z=>by subst z;rw[q]at mu;exact nm mu
 refine⟨λb u q n _ _=>k b u (hb b n) q,λb u q n _ _=>⟨u.slots,k b u (hb b n) q⟩,λb u q n _=>by rw[kD (hx b n)];exact n,λb u q _=>?_,
  λb xs q=>by rw[kD (hm b _ q λz=>z)];exact q,λb u xs q=>by rw[kD (hm b _ q λz=>z)];exact q,λb ps q=>⟨#[],by rw[kD (hm b _ q λz=>z),q];simp⟩⟩
 by_cases yb:b=e;subst yb;exact A4;exact⟨u,k b u yb q⟩
end
abbrev GP(h:Heap)(H:Hp):List Addr:=(List.range h.objs.size).filter λa=>(H a).isSome
abbrev oZ(h:Heap)(H:Hp):Heap:=PySem.W.hideAll h (GP h H)
def Tf(h:Heap)(H:Hp):(oZ h H).objs.size=h.objs.size:=PySem.W.hideAll_size _ _
def Tg{h:Heap}{H:Hp}{b:Addr}{o:Obj}(e:h.get? b=some o)(n:H b=none):(oZ h H).get? b=some o :=
 PySem.W.hideAll_get _ e λhm=>by
  have q:(H b).isSome=true:=(ZaH.mp hm).2;rw[n]at q;simp at q
def Ti{h:Heap}{H:Hp}{b:Addr}{o:Obj}(e:(oZ h H).get? b=some o):h.get? b=some o/\H b=none:=by
 have e':h.get? b=some o:=PySem.W.of_hideAll (GP h H) e;refine⟨e',?_⟩;cases q:H b with
 |none=>rfl
 |some x =>
  have hm:b∈GP h H:=ZaH.mpr ⟨ZaP.mpr (Zax e'),by simp[q]⟩;have z:(oZ h H).get? b=none:=PySem.W.hideAll_none (GP h H) hm;rw[z]at e;cases e
abbrev u7(g h:Heap)(L:Addr):List (Addr×Obj):=(List.range h.objs.size).filterMap λa=>if a=L\/(g.get? a).isSome=true then none else(h.get? a).map λo=>(a,o)
abbrev rest(g h:Heap)(L d:Addr):List (Addr×Obj):=(u7 g h L).filter λp=>decide (p.1≠d)
structure Mod(K:Zfr)(mg:Str->Option Value)(base:Heap):Prop where
 Kg:K.In base
 glob:base.Ns mainGlobals mg
 blt:∃mb,base.Ns builtinsNs mb/\∀x:Str,x≠"__name__" -> mb x=bootBuiltins x
 nolimit:base.NoLimit
set_option genInjectivity false in
structure Cx where
 prog:Program
 w:World
 K:Zfr
 mg:Str->Option Value
 base:Heap
 A:Around
 N:List Str
 s₀:Shared
 H₀:Hp
 env:Env
 outer:List Env
 stack:List Env
 ex:List Addr
 fn:Str->Bool
 calm:Bool
 pn:List (Addr×Obj)
 xe:Value->Shared->Prop
abbrev frs(l:List Env):List Addr:=l.filterMap (·.frame)
@[reducible]def Cx.fs(X:Cx):List Addr:=frs X.outer
abbrev Kh(sc:Scope)(x:Str):Prop:=sc.names.lookup x=some .local\/sc.names.lookup x=some .cell\/sc.names.lookup x=some .free
abbrev Loc(sc:Scope)(x:Str):Prop:=sc.names.lookup x=some .local\/sc.names.lookup x=some .cell
abbrev Look(env:Env)(h:Heap)(m:Str->Option Value)(x:Str)(u:Value):Prop :=
 (env.kindOf x=some .local/\m x=some u)\/((env.kindOf x=some .cell\/env.kindOf x=some .free)/\∃c,env.cells.lookup x=some c/\h.IsCell c (some u))
structure Cx.Ok(X:Cx):Prop where
 mod:Mod X.K X.mg X.base
 kind:X.env.scope.kind=.function
 glob:X.env.globals=mainGlobals
 blt:X.env.builtins=builtinsNs
 above:X.s₀.heap.objs.size<=X.env.locals
 inj:∀x y c,X.env.cells.lookup x=some c->X.env.cells.lookup y=some c->x=y
 has:∀x,(X.env.kindOf x=some .cell\/X.env.kindOf x=some .free)->∃c,X.env.cells.lookup x=some c
 B3:∀x c,X.fn x=true->X.env.cells.lookup x=some c->X.s₀.heap.objs.size<=c
 hd:X.calm=true->X.A.handled=none
 frames:X.A.frames=some X.stack
 stk:X.stack=X.outer\/(X.stack=X.env :: X.outer/\X.env.frame=some X.env.locals)
 Ny:∀b∈X.ex,b≠X.env.locals/\∀x c,X.env.cells.lookup x=some c->c≠b
 bs:∀b o,X.base.get? b=some o->X.s₀.heap.get? b=some o/\X.H₀ b=none
 wI:X.base.objs.size<=X.s₀.heap.objs.size
 tj:∀b o,X.base.get? b=some o->b ∉ X.ex
 u9:∀b∈X.ex,b ∉ X.fs
 nY:X.s₀.heap.FunFrames X.base X.outer
 A5:∀b∈X.fs,X.H₀ b=none
structure Inv(X:Cx)(pins:List (Addr×Obj))(σ:List (Option V))(H:Hp)(s:Shared):Prop where
 ok:X.Ok
 os:s.os=X.s₀.os
 bare:AllBare s.gens
 base:Un X.fs X.ex X.H₀ H X.s₀.heap s.heap
 loc:∃m,s.heap.Ns X.env.locals m/\∀(i:Nat) (x:Str) (v:V),X.N[i]?=some x->σ[i]?=some (some v)->Kh X.env.scope x->∃u,RelV v u/\Look X.env s.heap m x u
 cell:∀x c,X.env.cells.lookup x=some c->∃v,s.heap.IsCell c v
 free:H X.env.locals=none
 lg:∀x c,X.env.cells.lookup x=some c->H c=none
 pin:∀p∈X.pn ++ pins,s.heap.get? p.1=some p.2/\H p.1=none/\p.1≠X.env.locals/\p.1 ∉ X.fs/\∀v,p.2.data≠.cell v
 hok:lW X.prog X.w H s.heap
 len:σ.length=X.N.length
section
variable {X:Cx}{pins:List (Addr×Obj)}{σ:List (Option V)}{H H':Hp}{s:Shared}{h':Heap}
def Cx.Ok.Ki(ok:X.Ok){b:Addr}{o:Obj}(e:X.base.get? b=some o):b ∉ X.fs:=λhb=>by
 have:=(ok.nY.mem hb).1;rw[e]at this;cases this
def Inv.bs(I:Inv X pins σ H s):∀b o,X.base.get? b=some o->s.heap.get? b=some o/\H b=none:=λb o e =>
 ⟨I.base.keep b o (I.ok.bs b o e).1 (I.ok.bs b o e).2 (I.ok.Ki e) (I.ok.tj b o e),I.base.free b o (I.ok.bs b o e).1 (I.ok.bs b o e).2 (I.ok.tj b o e)⟩
def Inv.bk(I:Inv X pins σ H s):∀b o,X.base.get? b=some o->s.heap.get? b=some o:=λb o e=>(I.bs b o e).1
def Inv.mod(I:Inv X pins σ H s):Mod X.K X.mg X.base:=I.ok.mod
def Inv.GQ(I:Inv X pins σ H s):X.K.In s.heap:=I.ok.mod.Kg.keeps I.bk
def Inv.lt(I:Inv X pins σ H s):X.env.locals<s.heap.objs.size:=let ⟨_,hn,_⟩:=I.loc;hn.lt
def Inv.sz(I:Inv X pins σ H s):X.s₀.heap.objs.size<=s.heap.objs.size:=Zap I.ok.above (Zbw I.lt)
def Inv.B4(I:Inv X pins σ H s){a:Addr}(h:s.heap.objs.size<=a):a ∉ X.fs:=λhb=>by
 obtain⟨_,o,ho,_⟩:=I.ok.nY.mem hb;exact absurd (ZaR (Zax ho) (Zap I.sz h)) (ZbZ _)
def Inv.yc(I:Inv X pins σ H s):∀x c,X.env.cells.lookup x=some c->c≠X.env.locals:=λx c e z=>by
 obtain⟨v,o,ho,hd⟩:=I.cell x c e;obtain⟨m,⟨o',es,ep,ho',hd',_⟩,_⟩:=I.loc;rw[z,ho']at ho;cases ho;rw[hd']at hd;cases hd
def Inv.nY(I:Inv X pins σ H s):s.heap.FunFrames X.base X.outer:=by
 have all:∀(l:List Env),(∀b∈frs l,b∈X.fs)->X.s₀.heap.FunFrames X.base l->s.heap.FunFrames X.base l:=by
  intro l
  induction l with
  |nil=>intro _ _;trivial
  |cons env r ih =>
   intro hs hl;obtain⟨hk,⟨L,o,hf,hn,ho,hd⟩,hr⟩:=hl;have hL:L∈X.fs:=hs L (by unfold frs;rw[Zcv,hf];exact Zae);obtain⟨sl,e⟩:=I.base.slot L o ho (I.ok.A5 L hL) hL λz=>I.ok.u9 L z hL;exact⟨hk,⟨L,_,hf,hn,e,hd⟩,ih (λb hb=>hs b (by unfold frs;rw[Zcv,hf];exact Zag _ hb)) hr⟩
 exact all X.outer (λ_ hb=>hb) I.ok.nY
def Inv.stack(I:Inv X pins σ H s):s.heap.FunFrames X.base X.stack:=by
 rcases I.ok.stk with e|⟨e,hf⟩
 rw[e];exact I.nY;rw[e];obtain⟨m,hn,_⟩:=I.loc;refine .cons (by rw[I.ok.kind];decide) hf hn ?_ I.nY;exact Heap.get?_none_of_le (Zap I.ok.wI I.ok.above)
def Inv.nZ(I:Inv X pins σ H s):∀b∈frs X.stack,b∈X.env.locals :: X.fs:=λb hb=>by
 rcases I.ok.stk with e|⟨e,hf⟩
 rw[e]at hb;exact Zag _ hb;rw[e]at hb;unfold frs at hb;rw[Zcv,hf]at hb;exact hb
def Inv.q5(I:Inv X pins σ H s):∀b∈frs X.stack,H b=none:=λb hb=>by
 rcases ZaA.mp (I.nZ b hb)with e|hb
 rw[e];exact I.free;obtain⟨_,o,ho,_⟩:=I.ok.nY.mem hb;exact I.base.free b o ho (I.ok.A5 b hb) λz=>I.ok.u9 b z hb
def Inv.step{g':Array GenState}{t':Nat}{d':Drawn}{ch:List Addr}(I:Inv X pins σ H s)
  (hch:∀b∈ch,(b∈X.ex\/X.s₀.heap.objs.size<=b)/\b≠X.env.locals/\(∀x c,X.env.cells.lookup x=some c->c≠b)/\∀p∈X.pn ++ pins,p.1≠b)
  (keep:∀b o,b≠X.env.locals->b ∉ X.fs->b ∉ ch->s.heap.get? b=some o->H b=none->h'.get? b=some o)
  (slot:∀b o,b≠X.env.locals->b∈X.fs->b ∉ ch->s.heap.get? b=some o->H b=none->∃sl,h'.get? b=some { o with slots:=sl }) (free:∀b o,b ∉ ch->s.heap.get? b=some o->H b=none->H' b=none)
  (there:∀b o,b ∉ ch->s.heap.get? b=some o->∃o',h'.get? b=some o')
  (tups:∀b xs,H b=some (.tup xs)->H' b=some (.tup xs)) (oY:∀b o u,H b=some (.oX o u)->H' b=some (.oX o u)) (p6:∀b ps,H b=some (.x9 ps)->∃more,H' b=some (.x9 (ps ++ more)))
  (ns:∀m,s.heap.Ns X.env.locals m->h'.Ns X.env.locals m) (hok:lW X.prog X.w H' h') (hg:AllBare g') :
  Inv X pins σ H' { s with heap:=h',gens:=g',drawn:=d',toks:=t' }:=by
 have yd:∀b o,X.s₀.heap.get? b=some o->b≠X.env.locals:=λb o e=>ZaS (ZaR (Zax e) I.ok.above);have GR:∀b o,X.s₀.heap.get? b=some o->b ∉ X.ex->b ∉ ch:=λb o e hx hb=>by
  rcases(hch b hb).1 with z|z
  exact hx z;exact absurd (ZaR (Zax e) z) (ZbZ _)
 have cellK:∀x c,X.env.cells.lookup x=some c->∀v,s.heap.IsCell c v->h'.IsCell c v:=λx c e v ⟨o,ho,hd⟩=>by
  have B5:c ∉ ch:=λz=>(hch c z).2.2.1 x c e rfl;by_cases hc:c∈X.fs;obtain⟨sl,q⟩:=slot c o (I.yc x c e) hc B5 ho (I.lg x c e);exact⟨_,q,hd⟩;exact⟨o,keep c o (I.yc x c e) hc B5 ho (I.lg x c e),hd⟩
 refine⟨I.ok,I.os,hg,⟨λb o e n hb hx=>?_,λb o e n hb hx=>?_,λb o e n hx=>?_,λb o e hx=>?_,λb xs e=>tups b xs (I.base.tups b xs e),λb o xs e=>oY b o xs (I.base.oY b o xs e),λb ps e=>?_⟩,?_,λx c e=>?_,?_,λx c e=>?_,λp hp=>?_,hok,I.len⟩;exact keep b o (yd b o e) hb (GR b o e hx) (I.base.keep b o e n hb hx) (I.base.free b o e n hx);obtain⟨sl,e1⟩:=I.base.slot b o e n hb hx;obtain⟨Tj,e2⟩:=slot b _ (yd b o e) hb (GR b o e hx) e1 (I.base.free b o e n hx);exact⟨Tj,e2⟩;obtain⟨o',e1⟩:=I.base.there b o e hx;exact free b o' (GR b o e hx) e1 (I.base.free b o e n hx);obtain⟨o',e1⟩:=I.base.there b o e hx;exact there b o' (GR b o e hx) e1;obtain⟨m1,e1⟩:=I.base.p6 b ps e;obtain⟨m2,e2⟩:=p6 b _ e1;exact⟨m1 ++ m2,by rw[e2,Array.append_assoc]⟩;obtain⟨m,hn,hl⟩:=I.loc;refine⟨m,ns m hn,λi x v e1 e2 e3=>?_⟩;obtain⟨u,r,l⟩:=hl i x v e1 e2 e3;refine⟨u,r,?_⟩;rcases l with l|⟨k,c,e,z⟩
 exact .inl l;exact .inr ⟨k,c,e,cellK x c e _ z⟩;obtain⟨v,z⟩:=I.cell x c e;exact⟨v,cellK x c e v z⟩;obtain⟨m,⟨o,_,_,ho,_⟩,_⟩:=I.loc;exact free _ o (λz=>(hch _ z).2.1 rfl) ho I.free;obtain⟨v,o,ho,hd⟩:=I.cell x c e;exact free c o (λz=>(hch c z).2.2.1 x c e rfl) ho (I.lg x c e);obtain⟨e,n,ne,nf,d⟩:=I.pin p hp;have B5:p.1 ∉ ch:=λz=>(hch p.1 z).2.2.2 p hp rfl;exact⟨keep p.1 p.2 ne nf B5 e n,free p.1 p.2 B5 e n,ne,nf,d⟩
def Inv.un{t':Nat}(I:Inv X pins σ H s)(u:Un X.fs [] H H' s.heap h')(hok:lW X.prog X.w H' h'):Inv X pins σ H' { s with heap:=h',toks:=t' }:=by
 obtain⟨m,⟨o,es,ep,ho,r⟩,_⟩:=id I.loc;obtain⟨sl,hL⟩:=u.any ho I.free (by simp)
 exact I.step (g':=s.gens) (d':=s.drawn) (ch:=[]) (λ_ z=>nomatch z) (λb o _ hb _ e n=>u.keep b o e n hb (by simp)) (λb o _ hb _ e n=>u.slot b o e n hb (by simp)) (λb o _ e n=>u.free b o e n (by simp)) (λb o _ e=>u.there b o e (by simp)) u.tups u.oY u.p6 (λm' hm=>by
  obtain⟨o',es',Kj,ho',r'⟩:=hm;rw[ho]at ho';cases ho'
  exact⟨_,es',Kj,hL,r'⟩) hok I.bare
def Inv.call{g':Array GenState}{t':Nat}{d':Drawn}{ch:List Addr}(I:Inv X pins σ H s)(u:Un (frs X.stack) ch H H' s.heap h')(hok:lW X.prog X.w H' h')(hg:AllBare g')
  (hch:∀b∈ch,(b∈X.ex\/X.s₀.heap.objs.size<=b)/\b≠X.env.locals/\(∀x c,X.env.cells.lookup x=some c->c≠b)/\∀p∈X.pn ++ pins,p.1≠b) :
  Inv X pins σ H' { s with heap:=h',gens:=g',drawn:=d',toks:=t' }:=by
 obtain⟨m,⟨o,es,ep,ho,r⟩,_⟩:=id I.loc;obtain⟨sl,hL⟩:=u.any ho I.free λz=>(hch _ z).2.1 rfl
 exact I.step (ch:=ch) hch (λb o hL hb hc e n=>u.keep b o e n (λz=>(ZaA.mp (I.nZ b z)).elim hL hb) hc) (λb o _ _ hc e n=>u.any e n hc) (λb o hc e n=>u.free b o e n hc) (λb o hc e=>u.there b o e hc) u.tups u.oY u.p6 (λm' hm=>by
  obtain⟨o',es',Kj,ho',r'⟩:=hm;rw[ho]at ho';cases ho'
  exact⟨_,es',Kj,hL,r'⟩) hok hg
def Inv.turned{t':Nat}{it:Addr}(I:Inv X pins σ H s)(k:∀b o,b≠it->s.heap.get? b=some o->h'.get? b=some o)(hn:H it=none)(hL:it≠X.env.locals)
  (h1:it∈X.ex\/X.s₀.heap.objs.size<=it) (h2:∀x c,X.env.cells.lookup x=some c->c≠it) (h3:∀p∈X.pn ++ pins,p.1≠it):Inv X pins σ H { s with heap:=h',toks:=t' }:=by
 have B6:∀b u,H b=some u->b≠it:=λb u e z=>by rw[z,hn]at e;cases e
 refine I.step (g':=s.gens) (d':=s.drawn) (ch:=[it]) (λb hb=>?_) (λb o _ _ hc e _=>k b o (λz=>hc (by simp[z])) e) (λb o _ _ hc e _=>⟨o.slots,k b o (λz=>hc (by simp[z])) e⟩) (λ_ _ _ _ n=>n)
  (λb o hc e=>⟨o,k b o (λz=>hc (by simp[z])) e⟩) (λ_ _ e=>e) (λ_ _ _ e=>e) (λb ps e=>⟨#[],by rw[e];simp⟩) (λm hm=>?_) (λb u e=>?_) I.bare
 have e:b=it:=by simpa using hb
 subst e;exact⟨h1,hL,h2,h3⟩;obtain⟨o,es,ep,ho,r⟩:=hm;exact⟨o,es,ep,k _ o (Ne.symm hL) ho,r⟩;refine(I.hok b u e).stay (λc v hc q=>k c v ?_ q) (λ_ q=>q) λ_ _ q=>q;rcases hc with z|z
 rw[z];exact B6 b u e;exact B6 c _ z
def Inv.tok(I:Inv X pins σ H s)(t:Nat):Inv X pins σ H { s with toks:=t }:=I.un (h':=s.heap) (t':=t) Un.refl I.hok
def Inv.kept{t':Nat}(I:Inv X pins σ H s)(k:∀b u,s.heap.get? b=some u->h'.get? b=some u):Inv X pins σ H { s with heap:=h',toks:=t' }:=I.un (Un.kept k) (I.hok.kept k)
def Inv.laid{a:Addr}{o:HO}{t':Nat}(I:Inv X pins σ H s)(k:∀b u,s.heap.get? b=some u->h'.get? b=some u)(hp:s.heap.objs.size<=a)(new:cu X.prog X.w (upd H a o) h' a o):
  Inv X pins σ (upd H a o) { s with heap:=h',toks:=t' }:=I.un (Un.laid k hp (I.hok.fresh hp)) (I.hok.laid k hp new)
def Inv.write{x e:Addr}{o:HO}{t':Nat}(I:Inv X pins σ H s)(mu:B1 (H x))(he:e=x\/H e=some (.own x))(k:∀b u,b≠e->s.heap.get? b=some u->h'.get? b=some u)(A4:∃u,h'.get? e=some u)
  (new:cu X.prog X.w (upd H x o) h' x o):Inv X pins σ (upd H x o) { s with heap:=h',toks:=t' }:=I.un (Un.write mu he k A4) (I.hok.write mu he k A4 new)
def Inv.nG{wJ:List (Addr×Obj)}(I:Inv X pins σ H s)(h:∀p∈wJ,s.heap.get? p.1=some p.2/\H p.1=none/\p.1≠X.env.locals/\p.1 ∉ X.fs/\∀v,p.2.data≠.cell v):Inv X wJ σ H s :=
 ⟨I.ok,I.os,I.bare,I.base,I.loc,I.cell,I.free,I.lg,λp hp=>(ZaF.mp hp).elim (λz=>I.pin p (ZbQ _ z)) (h p),I.hok,I.len⟩
def Nz{N:List Str}(hN:N.Nodup){i j:Nat}{x:Str}(a:N[i]?=some x)(b:N[j]?=some x):i=j:=by obtain⟨h1,e1⟩:=Zac.mp a;obtain⟨h2,e2⟩:=Zac.mp b;exact(Zb2 hN).mp (e1.trans e2.symm)
def NA{M:Model}{A:Around}{E:Value->Shared->Prop}{i:Nat}{x:Str}{v:V}{u:Value}{Q:Unit->Shared->Prop}(I:Inv X pins σ H s)(hN:X.N.Nodup)(hi:X.N[i]?=some x)(hx:Loc X.env.scope x)(r:RelV v u)
  (h:∀s',Inv X pins (σ.set i (some v)) H s'->(∃a,Heap.SameBut a s.heap s'.heap/\(a=X.env.locals\/X.env.cells.lookup x=some a))->Q () s') (hf:X.fn x=true\/X.env.scope.names.lookup x=some .local:=by first|exact .inl rfl|exact .inr rfl|assumption):wpAny M A (storeName X.env x u) Q E s:=by
 obtain⟨m,hn,hl⟩:=id I.loc;have hcls:(X.env.scope.kind == .class || (X.env.scope.kind == .module && X.env.locals != X.env.globals))=false:=by rw[I.ok.kind];rfl
 have hiσ:i<σ.length:=by rw[I.len];exact(Zac.mp hi).1
 have yc:=I.yc;have tracked:∀{a:Addr} {h':Heap},(∃o,s.heap.get? a=some o/\H a=none)->Heap.SameBut a s.heap h'->lW X.prog X.w H h':=λ{a h'} ha hs b ob e=>by
  obtain⟨_,_,hfree⟩:=ha;refine(I.hok b ob e).stay (λc w' hc q=>(hs.2 c ?_).trans q) (λ_ q=>q) λ_ _ q=>q;rintro rfl;rcases hc with rfl|hc
  rw[hfree]at e;cases e;rw[hfree]at hc;cases hc
 rcases hx with hk|hk
 refine wpAny_storeName_local hk hn (λh' hn' hs=>?_) hcls;obtain⟨oL,_,_,ye,_⟩:=id hn;refine h _ ⟨I.ok,I.os,I.bare,⟨λb o e n hb hx=>?_,λb o e n hb hx=>?_,I.base.free,λb o e hx=>?_,I.base.tups,I.base.oY,I.base.p6⟩,⟨_,hn',λj y v' e1 e2 e3=>?_⟩,λy c e=>?_,I.free,I.lg,λp hp=>?_,tracked ⟨oL,ye,I.free⟩ hs,by simpa using I.len⟩ ⟨_,hs,.inl rfl⟩;exact(hs.2 b (ZaS (ZaR (Zax e) I.ok.above))).trans (I.base.keep b o e n hb hx);obtain⟨sl,e1⟩:=I.base.slot b o e n hb hx;exact⟨sl,(hs.2 b (ZaS (ZaR (Zax e) I.ok.above))).trans e1⟩;obtain⟨o',e1⟩:=I.base.there b o e hx;exact⟨o',(hs.2 b (ZaS (ZaR (Zax e) I.ok.above))).trans e1⟩;by_cases hj:j=i;subst hj;rw[hi]at e1;cases e1;rw[Zao hiσ]at e2;cases e2;exact⟨u,r,.inl ⟨hk,by simp⟩⟩;rw[ZaG (Ne.symm hj)]at e2;obtain⟨u',r',q⟩:=hl j y v' e1 e2 e3;refine⟨u',r',?_⟩;rcases q with⟨k,e⟩|⟨k,c,e,z⟩
 refine .inl ⟨k,?_⟩
 have:y≠x:=λe=>hj (Nz hN e1 (e ▸ hi));simp[this,e]
 exact .inr ⟨k,c,e,z.sameBut hs (yc y c e)⟩;obtain⟨w',z⟩:=I.cell y c e;exact⟨w',z.sameBut hs (yc y c e)⟩;obtain⟨e,n,ne,nf,d⟩:=I.pin p hp;exact⟨(hs.2 p.1 ne).trans e,n,ne,nf,d⟩;have hfn:X.fn x=true:=by
  rcases hf with z|z
  exact z;rw[z]at hk;cases hk
 obtain⟨c,hc⟩:=I.ok.has x (.inl hk);obtain⟨w',z⟩:=I.cell x c hc;refine wpAny_storeName_cell I.ok.kind hk hc z (λh' hc' hs=>?_);obtain⟨oc,hoc,Kk⟩:=id z;refine h { s with heap:=h' } ⟨I.ok,I.os,I.bare,⟨λb o e n hb hx=>?_,λb o e n hb hx=>?_,I.base.free,λb o e hx=>?_,I.base.tups,I.base.oY,I.base.p6⟩,⟨m,hn.sameBut hs (Ne.symm (yc x c hc)),λj y v' e1 e2 e3=>?_⟩,λy c' e=>?_,I.free,I.lg,λp hp=>?_,tracked ⟨oc,hoc,I.lg x c hc⟩ hs,by simpa using I.len⟩ ⟨c,hs,.inr hc⟩;exact(hs.2 b (ZaS (ZaR (Zax e) (I.ok.B3 x c hfn hc)))).trans (I.base.keep b o e n hb hx);obtain⟨sl,e1⟩:=I.base.slot b o e n hb hx;exact⟨sl,(hs.2 b (ZaS (ZaR (Zax e) (I.ok.B3 x c hfn hc)))).trans e1⟩;obtain⟨o',e1⟩:=I.base.there b o e hx;exact⟨o',(hs.2 b (ZaS (ZaR (Zax e) (I.ok.B3 x c hfn hc)))).trans e1⟩;by_cases hj:j=i;subst hj;rw[hi]at e1;cases e1;rw[Zao hiσ]at e2;cases e2;exact⟨u,r,.inr ⟨.inl hk,c,hc,hc'⟩⟩;rw[ZaG (Ne.symm hj)]at e2;obtain⟨u',r',q⟩:=hl j y v' e1 e2 e3;refine⟨u',r',?_⟩;rcases q with q|⟨k,c',e,z'⟩
 exact .inl q;refine .inr ⟨k,c',e,z'.sameBut hs ?_⟩;rintro rfl;exact hj (Nz hN e1 (I.ok.inj _ _ _ e hc ▸ hi));by_cases hcc:c'=c;subst hcc;exact⟨_,hc'⟩;obtain⟨w2,z2⟩:=I.cell y c' e;exact⟨w2,z2.sameBut hs hcc⟩;obtain⟨e,n,ne,nf,d⟩:=I.pin p hp;refine⟨(hs.2 p.1 ?_).trans e,n,ne,nf,d⟩;intro q;rw[q,hoc]at e;have q':oc=p.2:=Zaq e;exact d w' (by rw[<- q'];exact Kk)
def GS{M:Model}{A:Around}{E:Value->Shared->Prop}{i:Nat}{x:Str}{v:V}{u:Value}{Q:Unit->Shared->Prop}(I:Inv X pins σ H s)(hN:X.N.Nodup)(hi:X.N[i]?=some x)(hx:Loc X.env.scope x)(r:RelV v u)
  (h:∀s',Inv X pins (σ.set i (some v)) H s'->Q () s') (hf:X.fn x=true\/X.env.scope.names.lookup x=some .local:=by first|exact .inl rfl|exact .inr rfl|assumption):wpAny M A (storeName X.env x u) Q E s :=
 NA I hN hi hx r (λs' I' _=>h s' I') hf
def Inv.B7{s':Shared}{ch:List Addr}(I:Inv X pins σ H s)(ho:s'.os=s.os)(u:Un (frs X.stack) ch H H' s.heap s'.heap)(hok:lW X.prog X.w H' s'.heap)(hg:AllBare s'.gens)
  (hch:∀b∈ch,(b∈X.ex\/X.s₀.heap.objs.size<=b)/\b≠X.env.locals/\(∀x c,X.env.cells.lookup x=some c->c≠b)/\∀p∈X.pn ++ pins,p.1≠b):Inv X pins σ H' s':=by
 obtain⟨h',g',d',t',o'⟩:=s';have e:o'=s.os:=ho;subst e;exact I.call (g':=g') (t':=t') (d':=d') u hok hg hch
end
@[reducible]def XK:=Value->Option Addr->Hp->Prop
@[reducible]def St:=List (Option V)
@[reducible]def VK:=V->Hp->Prop
@[reducible]def TE:=St->Hp->VK->Prop
@[reducible]def TT:=St->Hp->(Bool->Hp->Prop)->Prop
@[reducible]def TA:=St->Hp->(List V->Hp->Prop)->Prop
set_option genInjectivity false in
structure Ends where
 nx:St->Hp->Prop
 rt:VK
 bk:St->Hp->Prop:=λ_ _=>False
 ct:St->Hp->Prop:=λ_ _=>False
@[reducible]def TS:=Ends->St->Hp->Prop
abbrev EP(X:Cx)(pins:List (Addr×Obj))(σ:St)(Q:VK)(u:Value)(s':Shared):Prop:=∃v H',Inv X pins σ H' s'/\RelV v u/\Q v H'
abbrev TP(X:Cx)(pins:List (Addr×Obj))(σ:St)(Q:Bool->Hp->Prop)(b:Bool)(s':Shared):Prop:=∃H',Inv X pins σ H' s'/\Q b H'
abbrev AP(X:Cx)(pins:List (Addr×Obj))(σ:St)(Q:List V->Hp->Prop)(us:List Value)(s':Shared):Prop:=∃vs H',Inv X pins σ H' s'/\Vals vs us/\Q vs H'
abbrev SP(X:Cx)(pins:List (Addr×Obj))(D:Ends)(f:Flow)(s':Shared):Prop :=
 match f with
 |.next=>∃σ' H',Inv X pins σ' H' s'/\D.nx σ' H'
 |.brk=>∃σ' H',Inv X pins σ' H' s'/\D.bk σ' H'
 |.cont=>∃σ' H',Inv X pins σ' H' s'/\D.ct σ' H'
 |.ret u=>∃v σ' H',Inv X pins σ' H' s'/\RelV v u/\D.rt v H'
abbrev PE(X:Cx)(e:Expr)(t:TE):Prop :=
 ∀(pins:List (Addr×Obj)) (s:Shared) (σ:St) (H:Hp) (Q:VK),Inv X pins σ H s->t σ H Q->wpAny (model X.prog X.w) X.A (eval e X.env) (EP X pins σ Q) X.xe s
abbrev PT(X:Cx)(e:Expr)(t:TT):Prop :=
 ∀(pins:List (Addr×Obj)) (s:Shared) (σ:St) (H:Hp) (Q:Bool->Hp->Prop),Inv X pins σ H s->t σ H Q->wpAny (model X.prog X.w) X.A (isTrue e X.env (eval e X.env)) (TP X pins σ Q) X.xe s
abbrev PW(X:Cx)(e:Expr)(t:TT):Prop :=
 ∀(whole:Sem Value) (pins:List (Addr×Obj)) (s:Shared) (σ:St) (H:Hp) (Q:Bool->Hp->Prop),Inv X pins σ H s->t σ H Q->wpAny (model X.prog X.w) X.A (isTrue e X.env whole) (TP X pins σ Q) X.xe s
def PW.pt{X:Cx}{e:Expr}{t:TT}(h:PW X e t):PT X e t:=h _
abbrev PA(X:Cx)(es:List Expr)(t:TA):Prop :=
 ∀(pos:Pos) (pins:List (Addr×Obj)) (s:Shared) (σ:St) (H:Hp) (Q:List V->Hp->Prop),Inv X pins σ H s->t σ H Q->wpAny (model X.prog X.w) X.A (spliced (backTo pos (starEach es X.env))) (AP X pins σ Q) X.xe s
abbrev PS(X:Cx)(st:Stmt)(t:TS):Prop :=
 ∀(pins:List (Addr×Obj)) (s:Shared) (σ:St) (H:Hp) (D:Ends),Inv X pins σ H s->t D σ H->wpAny (model X.prog X.w) X.A (exec st X.env) (SP X pins D) X.xe s
abbrev sr(X:Cx)(st:List Stmt)(t:TS):Prop :=
 ∀(pins:List (Addr×Obj)) (s:Shared) (σ:St) (H:Hp) (D:Ends),Inv X pins σ H s->t D σ H->wpAny (model X.prog X.w) X.A (execs st X.env) (SP X pins D) X.xe s
def cn{α:Type}{t:Sem α}{Q Q':α->Shared->Prop}{M:Model}{A:Around}{E:Value->Shared->Prop}{s:Shared}(h:wpAny M A t Q E s)(hQ:∀a s,Q a s->Q' a s):wpAny M A t Q' E s:=wpAny_mono h hQ λ_ _ x=>x
section
variable {X:Cx}
abbrev yf(i:Nat):TE:=λσ H Q=>∃v,σ[i]?=some (some v)/\Q v H
abbrev tC(v:V):TE:=λ_ H Q=>Q v H
def yg{i:Nat}{x:Str}{pos:Pos}(hN:X.N[i]?=some x)(hv:Kh X.env.scope x)(hd:(x == ("__debug__" : Str))=false:=by decide)(hcd:(x == ("__classdict__" : Str))=false:=by decide):PE X (.Name x pos) (yf i):=by
 intro pins s σ H Q I h;obtain⟨v,e,h⟩:=h;obtain⟨m,hn,hl⟩:=I.loc;obtain⟨u,r,l⟩:=hl i x v hN e hv;have fin:EP X pins σ Q u s:=⟨v,H,I,r,h⟩;rcases l with⟨hk,hm⟩|⟨hk,c,hc,hcell⟩
 exact wpAny_Name (wpAny_loadName_local I.ok.kind hk hn hm fin) hd;rcases hk with hk|hk
 exact wpAny_Name (wpAny_loadName_cell I.ok.kind hk hc hcell fin) hd;exact wpAny_Name (wpAny_loadName_free I.ok.kind hk hc hcell fin hcd) hd
def aJ{i j pos}:PE X (.Constant (.int i) j pos) (tC (.int i)):=λ_ _ _ H _ I h=>wpAny_Constant_int ⟨.int i,H,I.tok _,⟨_,rfl⟩,h⟩
def A6{b j pos}:PE X (.Constant (.bool b) j pos) (tC (.bl b)):=λ_ _ _ H _ I h=>Constant_bool ⟨.bl b,H,I,rfl,h⟩
def pR{x j pos}:PE X (.Constant (.str x) j pos) (tC (.str x)):=λ_ _ _ H _ I h=>Calls.Constant_str ⟨.str x,H,I.tok _,⟨_,rfl⟩,h⟩
abbrev Gl(X:Cx)(x:Str):Prop:=X.env.kindOf x=some .globalImplicit
def NC{E:Value->Shared->Prop}{pins:List (Addr×Obj)}{s:Shared}{σ:St}{H:Hp}{x:Str}{u:Value}{pos:Pos}{Q:Value->Shared->Prop}(I:Inv X pins σ H s)(hg:Gl X x)(hm:X.mg x=some u)(h:Q u s)
  (hd:(x == ("__debug__" : Str))=false:=by decide):wpAny (model X.prog X.w) X.A (eval (.Name x pos) X.env) Q E s :=
 Calls.Name_function_global I.ok.kind hg (Calls.loadGlobal_global (by rw[I.ok.glob];exact I.mod.glob.keeps I.bk) hm h) hd
def B8{E:Value->Shared->Prop}{pins:List (Addr×Obj)}{s:Shared}{σ:St}{H:Hp}{x:Str}{u:Value}{pos:Pos}{Q:Value->Shared->Prop}(I:Inv X pins σ H s)(hg:Gl X x)(hm:X.mg x=none)(hv:bootBuiltins x=some u)(h:Q u s)
  (hn:x≠"__name__" := by decide) (hd:(x == ("__debug__" : Str))=false:=by decide):wpAny (model X.prog X.w) X.A (eval (.Name x pos) X.env) Q E s:=by
 obtain⟨mb,h1,h2⟩:=I.mod.blt;exact Calls.Name_function_global I.ok.kind hg (Calls.loadGlobal_builtin (by rw[I.ok.glob];exact I.mod.glob.keeps I.bk) hm (by rw[I.ok.blt];exact h1.keeps I.bk) ((h2 x hn).trans hv) h) hd
def To{x:Str}{v:V}{u:Value}{pos:Pos}(hg:Gl X x)(hm:X.mg x=some u)(r:RelV v u)(hd:(x == ("__debug__" : Str))=false:=by decide):PE X (.Name x pos) (tC v) :=
 λ_ _ _ H _ I h=>NC I hg hm ⟨v,H,I,r,h⟩ hd
variable {a b:Expr}{ta tb:TE}{pos:Pos}
abbrev PC(X:Cx)(op:CmpOp)(a b:Expr)(t:TE):Prop :=
 ∀(pins:List (Addr×Obj)) (s:Shared) (σ:St) (H:Hp) (Q:VK),Inv X pins σ H s->t σ H Q ->
  wpAny (model X.prog X.w) X.A (eval a X.env) (λv s₁=>wpAny (model X.prog X.w) X.A (eval b X.env) (λu s₂=>wpAny (model X.prog X.w) X.A (compareOp op v u) (EP X pins σ Q) X.xe s₂) X.xe s₁) X.xe s
def tm(b:Expr){op:CmpOp}(h:op≠.In)(h2:op≠.NotIn):behindInMarks op b=false:=by
 have e1:(op == CmpOp.In)=false:=by cases op<;>first|rfl|exact absurd rfl h
 have e2:(op == CmpOp.NotIn)=false:=by cases op<;>first|rfl|exact absurd rfl h2
 cases b<;>simp[behindInMarks,e1,e2]
abbrev tB(t:TE):TT:=λσ H Q=>t σ H λx H1=>∃c,x=.bl c/\Q c H1
def yh{op:CmpOp}{t:TE}(h:PC X op a b t)(h1:behindInMarks op b=false:=by first|exact tm _ ∅ ∅|rfl):PT X (.Compare a [op] [b] pos) (tB t):=by intro pins s σ H Q I hw;refine wpAny_isTrue_Compare1 (cn (h pins s σ H _ I hw) λv s1 h1=>cn h1 λu s2 h2=>cn h2 λc s3 ⟨x,H1,I1,r1,q1⟩=>?_) h1;obtain⟨d,rfl,q⟩:=q1;cases r1;exact wpAny_truthy_bool ⟨H1,I1,q⟩
def Kl{e:Expr}{t:TE}(h:PE X e t)(he:∀whole,isTrue e X.env whole=(do let v <- whole;standAt e.pos;holding [v] (truthy v)):=by intro _;rfl):PT X e (tB t):=by intro pins s σ H Q I hw;refine isTrue_plain (cn (h pins s σ H _ I hw) λv s1 ⟨x,H1,I1,r1,q1⟩=>?_) (he _);obtain⟨d,rfl,q⟩:=q1;cases r1;exact wpAny_truthy_bool ⟨H1,I1,q⟩
variable {tA GU:TT}{rest:List Expr}
abbrev B9(t u:TT):TT:=λσ H Q=>t σ H λc H1=>if c=true then u σ H1 Q else Q false H1
abbrev ND(t u:TT):TT:=λσ H Q=>t σ H λc H1=>if c=true then Q true H1 else u σ H1 Q
abbrev Ca(t:TT):TT:=λσ H Q=>t σ H λc H1=>Q (!c) H1
def NF(ha:PT X a tA):PW X (.BoolOp .And [a] pos) tA:=by
 intro wh pins s σ H Q I h;refine isTrue_and (cn (ha pins s σ H Q I h) λc s1 e=>?_);cases c with
 |true=>exact isTrue_and_nil e
 |false=>exact e
def Km(ha:PT X a tA):PW X (.BoolOp .Or [a] pos) tA:=by
 intro wh pins s σ H Q I h;refine isTrue_or (cn (ha pins s σ H Q I h) λc s1 e=>?_);cases c with
 |false=>exact isTrue_or_nil e
 |true=>exact e
def NG(ha:PT X a tA)(hb:PW X (.BoolOp .And (b :: rest) pos) GU):PW X (.BoolOp .And (a :: b :: rest) pos) (B9 tA GU):=by
 intro wh pins s σ H Q I h;refine isTrue_and (cn (ha pins s σ H _ I h) λc s1 ⟨H1,I1,q1⟩=>?_);cases c with
 |true=>exact hb wh pins s1 σ H1 Q I1 q1
 |false=>exact⟨H1,I1,q1⟩
def GV(ha:PT X a tA)(hb:PW X (.BoolOp .Or (b :: rest) pos) GU):PW X (.BoolOp .Or (a :: b :: rest) pos) (ND tA GU):=by
 intro wh pins s σ H Q I h;refine isTrue_or (cn (ha pins s σ H _ I h) λc s1 ⟨H1,I1,q1⟩=>?_);cases c with
 |true=>exact⟨H1,I1,q1⟩
 |false=>exact hb wh pins s1 σ H1 Q I1 q1
def yi(ha:PT X a tA):PT X (.UnaryOp .Not a pos) (Ca tA):=by intro pins s σ H Q I h;exact isTrue_not (ha pins s σ H (λc H1=>Q (!c) H1) I h)
abbrev wK(ta tb:TE):TE:=λσ H Q=>ta σ H λx H1=>∃c,x=.bl c/\if c=true then tb σ H1 Q else Q (.bl false) H1
def yj{op}{t:TE}(h:PE X a t):PE X (.BoolOp op [a] pos) t:=λpins s σ H Q I hw=>BoolOp_one (h pins s σ H Q I hw)
def yk(ha:PE X a ta)(hb:PE X (.BoolOp .And (b :: rest) pos) tb):PE X (.BoolOp .And (a :: b :: rest) pos) (wK ta tb):=by
 intro pins s σ H Q I h;refine BoolOp_and (cn (ha pins s σ H _ I h) λv s1 ⟨x,H1,I1,r1,q1⟩=>?_);obtain⟨c,rfl,q1⟩:=q1;cases r1;refine wpAny_truthy_bool ?_;cases c with
 |true=>exact hb pins s1 σ H1 Q I1 q1
 |false=>exact⟨.bl false,H1,I1,rfl,q1⟩
abbrev NH(t:TT)(ta tb:TE):TE:=λσ H Q=>t σ H λc H1=>if c=true then ta σ H1 Q else tb σ H1 Q
def Tp{c:Expr}(hc:PT X c tA)(ha:PE X a ta)(hb:PE X b tb):PE X (.IfExp c a b pos) (NH tA ta tb):=by
 intro pins s σ H Q I h;refine wpAny_IfExp (cn (hc pins s σ H _ I h) λd s1 ⟨H1,I1,q1⟩=>?_);cases d with
 |true=>exact ha pins s1 σ H1 Q I1 q1
 |false=>exact hb pins s1 σ H1 Q I1 q1
end
abbrev iL(K:Zfr)(H:Hp)(a:Addr)(xs:List V):Prop :=
 Rd H a (.lst xs) \/
  ∃(o:Obj) (its:Array Value) (n:Nat),K.lookup a=some o/\o.cls=.type "list" /\ o.dict=none/\o.data=.seq its n/\its.size<=sizeLine/\Vals xs its.toList
abbrev eQ(K:Zfr)(H:Hp)(a:Addr)(xs:List V):Prop :=
 Rd H a (.tup xs) \/
  ∃(o:Obj) (its:Array Value) (n:Nat),K.lookup a=some o/\o.cls=.type "tuple" /\ o.dict=none/\o.data=.seq its n/\its.size<=sizeLine/\Vals xs its.toList
abbrev Kn:Value->Option V
 |.none=>some .non
 |.bool b=>some (.bl b)
 |.int i _=>some (.int i)
 |.str x _=>some (.str x)
 |.bytes b _=>some (.sZ b)
 |.float b _=>some (.Kd b)
 |.ref a=>some (.ref a)
 |.type n=>some (.ty n)
 |_=>none
def RelV.abs{x:V}{u:Value}(r:RelV x u):Kn u=some x:=by
 cases x with
 |non=>cases r;rfl
 |bl _=>cases r;rfl
 |int _=>obtain⟨t,rfl⟩:=r;rfl
 |str _=>obtain⟨t,rfl⟩:=r;rfl
 |sZ _=>obtain⟨t,rfl⟩:=r;rfl
 |Kd _=>obtain⟨t,rfl⟩:=r;rfl
 |ref _=>cases r;rfl
 |ty _=>cases r;rfl
def RelV.inj{x y:V}{u:Value}(r:RelV x u)(q:RelV y u):x=y:=Zaq (r.abs.symm.trans q.abs)
def Vals.inj:∀{xs ys:List V} {us:List Value},Vals xs us->Vals ys us->xs=ys
 |_,_,_,.nil,.nil=>rfl
 |_,_,_,.cons r t,.cons r' t'=>by rw[r.inj r',Vals.inj t t']
section
variable {X:Cx}{pins:List (Addr×Obj)}{σ:St}{H:Hp}{s:Shared}{a:Addr}{xs ys:List V}
def eQ.of{K:Zfr}(h:H a=some (.tup xs)):eQ K H a xs:=.inl (.inl h)
def Inv.list(I:Inv X pins σ H s)(h:iL X.K H a xs):∃its:List Value,Vals xs its/\PlainL s.heap a its.toArray/\xs.length<=sizeLine:=by
 rcases h with h|⟨o,its,n,hk,hc,hd,hs,hz,r⟩
 obtain⟨z,its,n,r,e⟩:=h.ok I.hok;exact⟨its,r,⟨_,n,e,rfl,rfl,rfl⟩,z⟩;refine⟨its.toList,r,⟨o,n,I.GQ a o hk,hc,hd,by simpa using hs⟩,?_⟩;have e:=r.length;simp only[Zbi]at e;lk
def Inv.qD(I:Inv X pins σ H s)(h:eQ X.K H a xs):∃its:List Value,Vals xs its/\oG s.heap a its.toArray/\xs.length<=sizeLine:=by
 rcases h with h|⟨o,its,n,hk,hc,hd0,hs,hz,r⟩
 obtain⟨z,its,r,p⟩:=h.ok I.hok;exact⟨its,r,p,z⟩;refine⟨its.toList,r,⟨o,I.GQ a o hk,hc,hd0,n,by simpa using hs⟩,?_⟩;have e:=r.length;simp only[Zbi]at e;lk
def Inv.tuple(I:Inv X pins σ H s)(h:eQ X.K H a xs):∃its:List Value,Vals xs its/\IsTup s.heap a its.toArray/\xs.length<=sizeLine :=
 let ⟨its,r,p,z⟩:=I.qD h
 ⟨its,r,p.tup,z⟩
def Inv.p7(I:Inv X pins σ H s)(h:iL X.K H a xs)(h':iL X.K H a ys):xs=ys:=by
 obtain⟨its,r,⟨o,n,e,_,_,d⟩,_⟩:=I.list h;obtain⟨its',r',⟨o',n',e',_,_,d'⟩,_⟩:=I.list h';rw[e]at e';cases e';rw[d]at d';injection d' with d1 _;have:its=its':=by simpa using congrArg Array.toList d1
 subst this;exact r.inj r'
def Inv.iM(I:Inv X pins σ H s)(h:eQ X.K H a xs)(h':eQ X.K H a ys):xs=ys:=by
 obtain⟨its,r,⟨o,e,_,n,d⟩,_⟩:=I.tuple h;obtain⟨its',r',⟨o',e',_,n',d'⟩,_⟩:=I.tuple h';rw[e]at e';cases e';rw[d]at d';injection d' with d1 _;have:its=its':=by simpa using congrArg Array.toList d1
 subst this;exact r.inj r'
end
@[reducible]def Cx.wish(X:Cx)(E:Value->Shared->Prop):Cx:={ X with xe:=E }
@[reducible]def Cx.oA(X:Cx):Cx:=X.wish λ_ _=>False
def Cx.Ok.wish{X:Cx}(ok:X.Ok)(E:Value->Shared->Prop):(X.wish E).Ok :=
 ⟨ok.mod,ok.kind,ok.glob,ok.blt,ok.above,ok.inj,ok.has,ok.B3,ok.hd,ok.frames,ok.stk,ok.Ny,ok.bs,ok.wI,ok.tj,ok.u9,ok.nY,ok.A5⟩
def Cx.Ok.j5{X:Cx}{E:Value->Shared->Prop}(ok:(X.wish E).Ok):X.Ok :=
 ⟨ok.mod,ok.kind,ok.glob,ok.blt,ok.above,ok.inj,ok.has,ok.B3,ok.hd,ok.frames,ok.stk,ok.Ny,ok.bs,ok.wI,ok.tj,ok.u9,ok.nY,ok.A5⟩
section
variable {X:Cx}{pins:List (Addr×Obj)}{σ:St}{H:Hp}{s:Shared}{E:Value->Shared->Prop}
def Inv.wish(I:Inv X pins σ H s)(E:Value->Shared->Prop):Inv (X.wish E) pins σ H s:=⟨I.ok.wish E,I.os,I.bare,I.base,I.loc,I.cell,I.free,I.lg,I.pin,I.hok,I.len⟩
def Inv.j5(I:Inv (X.wish E) pins σ H s):Inv X pins σ H s:=⟨I.ok.j5,I.os,I.bare,I.base,I.loc,I.cell,I.free,I.lg,I.pin,I.hok,I.len⟩
def SP.j5{D:Ends}{f:Flow}{s':Shared}(h:SP (X.wish E) pins D f s'):SP X pins D f s':=by
 cases f with
 |next=>obtain⟨σ',H',I,q⟩:=h;exact⟨σ',H',I.j5,q⟩
 |brk=>obtain⟨σ',H',I,q⟩:=h;exact⟨σ',H',I.j5,q⟩
 |cont=>obtain⟨σ',H',I,q⟩:=h;exact⟨σ',H',I.j5,q⟩
 |ret u=>obtain⟨v,σ',H',I,r,q⟩:=h;exact⟨v,σ',H',I.j5,r,q⟩
def sr.oA{st:List Stmt}{t:TS}(h:sr X.oA st t):sr X st t:=λpins s σ H D I hw =>
 wpAny_mono (h pins s σ H D (I.wish _) hw) (λ_ _ q=>q.j5) λ_ _ z=>False.elim z
end
section
variable {X:Cx}{st:Stmt}{rest:List Stmt}{t u:TS}{e:Expr}{te:TE}{pos:Pos}
abbrev wL:TS:=λD σ H=>D.nx σ H
abbrev Cb(t u:TS):TS:=λD σ H=>t { D with nx:=u D } σ H
def mG:sr X [] wL:=λ_ _ σ H _ I h=>wpAny_execs_nil ⟨σ,H,I,h⟩
def Tq(h1:PS X st t)(h2:sr X rest u):sr X (st :: rest) (Cb t u):=by
 intro pins s σ H D I h;refine wpAny_execs_cons (cn (h1 pins s σ H { D with nx:=u D } I h) λf s1 q=>?_);cases f with
 |next =>
  obtain⟨σ',H',I',q⟩:=q;exact h2 pins s1 σ' H' D I' q
 |ret v=>exact q
 |brk=>exact q
 |cont=>exact q
def Tr(h1:PS X st t):sr X [st] t:=by
 intro pins s σ H D I h;refine wpAny_execs_cons (cn (h1 pins s σ H D I h) λf s1 q=>?_);cases f with
 |next=>exact wpAny_execs_nil q
 |ret v=>exact q
 |brk=>exact q
 |cont=>exact q
abbrev tu:TS:=λD σ H=>D.bk σ H
def Ts:PS X (.Break pos) tu:=λ_ _ σ H _ I h=>wpAny_Break ⟨σ,H,I,h⟩
def Inv.quiet{pins:List (Addr×Obj)}{σ:St}{H:Hp}{s:Shared}(I:Inv X pins σ H s):interactive X.env=false:=by simp[interactive,I.ok.kind]
abbrev wM(te:TE):TS:=λD σ H=>te σ H λ_ H1=>D.nx σ H1
def su(he:PE X e te)(hs:swapsWith e none pos.line X.env=pure false:=by rfl):PS X (.Expr e pos) (wM te):=by intro pins s σ H D I h;exact wpAny_Expr_any (cn (he pins s σ H _ I h) λv s1 ⟨x,H1,I1,r1,q1⟩=>⟨σ,H1,I1,q1⟩) I.quiet hs
abbrev Cc(te:TE):TS:=λD σ H=>te σ H D.rt
def cU(he:PE X e te):PS X (.Return (some e) pos) (Cc te):=by intro pins s σ H D I h;exact wpAny_Return_some (cn (he pins s σ H _ I h) λv s1 ⟨x,H1,I1,r1,q1⟩=>⟨x,σ,H1,I1,r1,q1⟩)
abbrev Cd(c:TT)(t u:TS):TS:=λD σ H=>c σ H λb H1=>if b=true then t D σ H1 else u D σ H1
def Ce{c:Expr}{a b:List Stmt}{tc:TT}(hc:PT X c tc)(ha:sr X a t)(hb:sr X b u):PS X (.If c a b pos) (Cd tc t u):=by
 intro pins s σ H D I h;refine wpAny_If (cn (hc pins s σ H _ I h) λd s1 ⟨H1,I1,q1⟩=>?_);cases d with
 |true=>exact ha pins s1 σ H1 D I1 q1
 |false=>exact hb pins s1 σ H1 D I1 q1
abbrev tw:TS:=λ_ _ _=>False
def NI:PS X st tw:=λ_ _ _ _ _ _ h=>h.elim
end
@[reducible]def TG:=V->St->Hp->(St->Hp->Prop)->Prop
@[reducible]def tD:=List V->St->Hp->(St->Hp->Prop)->Prop
abbrev PG(X:Cx)(target:Expr)(t:TG):Prop :=
 ∀(pins:List (Addr×Obj)) (s:Shared) (σ:St) (H:Hp) (v:V) (u:Value) (Q:St->Hp->Prop),Inv X pins σ H s->RelV v u->t v σ H Q ->
  wpAny (model X.prog X.w) X.A (assign target X.env u) (λ_ s'=>∃σ' H',Inv X pins σ' H' s'/\Q σ' H') X.xe s
abbrev Cf(X:Cx)(ts:List Expr)(t:tD):Prop :=
 ∀(pins:List (Addr×Obj)) (s:Shared) (σ:St) (H:Hp) (vs:List V) (us:List Value) (Q:St->Hp->Prop),Inv X pins σ H s->Vals vs us->t vs σ H Q ->
  wpAny (model X.prog X.w) X.A (assignInOrder ((assignEach ts X.env).map (·.2)) us) (λ_ s'=>∃σ' H',Inv X pins σ' H' s'/\Q σ' H') X.xe s
@[reducible]def yl:=V->V->V->Hp->(Hp->Prop)->Prop
abbrev Cg(X:Cx)(t:yl):Prop :=
 ∀(pins:List (Addr×Obj)) (s:Shared) (σ:St) (H:Hp) (o i v:V) (ov iv u:Value) (Q:Hp->Prop),Inv X pins σ H s->RelV o ov->RelV i iv->RelV v u->t o i v H Q ->
  wpAny (model X.prog X.w) X.A (setItem ov iv u) (λ_ s'=>∃H',Inv X pins σ H' s'/\Q H') X.xe s
section
variable {X:Cx}{pos:Pos}
abbrev p8(i:Nat):TG:=λv σ H Q=>Q (σ.set i (some v)) H
def gJ{i:Nat}{x:Str}(hN:X.N.Nodup)(hi:X.N[i]?=some x)(hx:Loc X.env.scope x)(hf:X.fn x=true\/X.env.scope.names.lookup x=some .local:=by first|exact .inl rfl|exact .inr rfl|assumption):PG X (.Name x pos) (p8 i):=by intro pins s σ H v u Q I r h;exact wpAny_assign_Name (GS I hN hi hx r (λs' I'=>⟨_,H,I',h⟩) hf)
abbrev Ci:tD:=λvs σ H Q=>vs=[]/\Q σ H
abbrev wN(t:TG)(u:tD):tD:=λvs σ H Q=>∃v r,vs=v :: r/\t v σ H λσ' H'=>u r σ' H' Q
def A7:Cf X [] Ci:=by intro pins s σ H vs us Q I r h;obtain⟨e,h⟩:=h;subst e;cases r;exact assignInOrder_nil ⟨σ,H,I,h⟩
def sv{e:Expr}{es:List Expr}{t:TG}{u:tD}(h1:PG X e t)(h2:Cf X es u)
  (hs:(assignEach (e :: es) X.env).map (·.2)=assign e X.env :: (assignEach es X.env).map (·.2):=by rfl):Cf X (e :: es) (wN t u):=by
 intro pins s σ H vs us Q I r h;obtain⟨v,vr,e1,h⟩:=h;subst e1;cases r with
 |cons r rr =>
  rw[hs];refine assignInOrder_cons (cn (h1 pins s σ H _ _ _ I r h) λ_ s1 ⟨σ1,H1,I1,q1⟩=>?_);exact h2 pins s1 σ1 H1 _ _ Q I1 rr q1
abbrev ym(K:Zfr)(n:Nat)(t:tD):TG:=λv σ H Q=>∃a xs,v=.ref a/\eQ K H a xs/\xs.length=n/\t xs σ H Q
def Cj{es:List Expr}{k:Nat}{t:tD}{n:Nat}(hc:X.calm=true)(h:Cf X es t)
  (hn:(assignEach es X.env).length=n:=by rfl) (hst:(assignEach es X.env).findIdx? (·.1)=none:=by rfl):PG X (.Tuple es k pos) (ym X.K n t):=by
 intro pins s σ H v u Q I r hw;obtain⟨a,xs,e1,hq,hl,hw⟩:=hw;subst e1;cases r;obtain⟨its,rv,ht,hz⟩:=I.tuple hq;refine assign_Tuple_tuple (I.ok.hd hc) ht (by simp[hn,<- hl,rv.length]) hst λh' hx=>?_;have I1:Inv X pins σ H { s with heap:=h' }:=I.kept (t':=s.toks) λb o e=>hx b o (ZaS (Zax e)) e;exact h pins _ σ H xs _ Q I1 (by simpa using rv) hw
abbrev oH(to ti:TE)(t:yl):TG:=λv σ H Q=>to σ H λo H1=>ti σ H1 λi H2=>t o i v H2 λH3=>Q σ H3
def A8{o i:Expr}{to ti:TE}{t:yl}(ho:PE X o to)(hi:PE X i ti)(hs:Cg X t)
  (ha:∀v,assign (.Subscript o i pos) X.env v=(do
   let ov <- holding [v] (eval o X.env)
   let iv <- holding [v,ov] (eval i X.env)
   standAt pos
   holding [v,ov,iv] (setItem ov iv v)
   release [v,ov,iv] []):=by intro _;rfl):PG X (.Subscript o i pos) (oH to ti t):=by
 intro pins s σ H v u Q I r h;rw[ha];refine wpAny_bind (wpAny_holding (cn (ho pins s σ H _ I h) λov s1 ⟨x,H1,I1,r1,q1⟩=>?_));refine wpAny_bind (wpAny_holding (cn (hi pins s1 σ H1 _ I1 q1) λiv s2 ⟨y,H2,I2,r2,q2⟩=>?_));refine wpAny_bind (wpAny_standAt (wpAny_bind (wpAny_holding (cn (hs pins s2 σ H2 x y v ov iv u _ I2 r1 r2 r q2) λ_ s3 ⟨H3,I3,q3⟩=>?_))));exact wpAny_release ⟨σ,H3,I3,q3⟩
abbrev va(te:TE)(g:TG):TS:=λD σ H=>te σ H λx H1=>g x σ H1 D.nx
def Ck{tg e:Expr}{te:TE}{g:TG}(he:PE X e te)(hg:PG X tg g)(hs:swapsWithSole [tg] e pos.line X.env=pure false:=by rfl)(hw:swappedStores [tg] e X.env=pure none:=by rfl)
  (h1:(assignEach [tg] X.env).map (·.2)=[assign tg X.env]:=by rfl):PS X (.Assign [tg] e pos) (va te g):=by
 intro pins s σ H D I h;refine wpAny_Assign_stores (cn (he pins s σ H _ I h) λv s1 ⟨x,H1,I1,r1,q1⟩=>?_) hs hw;rw[h1];exact cn (hg pins s1 σ H1 x v _ I1 r1 q1) λ_ s2 q=>q
def yn{i:Nat}{x:Str}{e:Expr}{te:TE}{pos':Pos}(hN:X.N.Nodup)(hi:X.N[i]?=some x)(hx:Loc X.env.scope x)(he:PE X e te)(hs:swapsWith e (some (.Name x pos')) pos.line X.env=pure false:=by rfl)(hf:X.fn x=true\/X.env.scope.names.lookup x=some .local:=by first | exact .inl rfl | exact .inr rfl | assumption):
  PS X (.Assign [.Name x pos'] e pos) (va te (p8 i)):=by
 intro pins s σ H D I h;refine wpAny_Assign_Name (cn (he pins s σ H _ I h) λv s1 ⟨y,H1,I1,r1,q1⟩=>?_) hs;exact GS I1 hN hi hx r1 (λs2 I2=>⟨_,H1,I2,q1⟩) hf
abbrev Cm(i j:Nat)(ta:TA):TS:=λD σ H=>ta σ H λvs H1=>∃v w,vs=[v,w]/\D.nx ((σ.set i (some v)).set j (some w)) H1
def Cn{i j:Nat}{x y:Str}{a b:Expr}{ta:TA}{px py pt:Pos}{kt k2 Ko}(hc:X.calm=true)(hN:X.N.Nodup)(hi:X.N[i]?=some x)(hj:X.N[j]?=some y)(hij:i≠j)
  (hx:X.env.scope.names.lookup x=some .local) (hy:X.env.scope.names.lookup y=some .local) (ha:PA X [a,b] ta)
  (hw:swappedStores [.Tuple [.Name x px,.Name y py] kt pt] (.Tuple [a,b] k2 Ko) X.env=pure (some [x,y]))
  (hs:swapsWithSole [.Tuple [.Name x px,.Name y py] kt pt] (.Tuple [a,b] k2 Ko) pos.line X.env=pure false:=by rfl) :
  PS X (.Assign [.Tuple [.Name x px,.Name y py] kt pt] (.Tuple [a,b] k2 Ko) pos) (Cm i j ta):=by
 intro pins s σ H D I h;rw[exec_Assign_arm];refine wpAny_bind (wpAny_standAt ?_);rw[hs];refine wpAny_bind (wpAny_pure ?_);rw[if_neg ∅];refine wpAny_bind (Tuple_ (cn (ha _ pins s σ H _ I h) λus s1 ⟨vs,H1,I1,r1,q1⟩=>?_));obtain⟨v,w,e1,q1⟩:=q1;subst e1;obtain⟨u1,u2,rfl,rv,rw'⟩:∃u1 u2,us=[u1,u2]/\RelV v u1/\RelV w u2:=by
  cases r1 with
  |cons p q =>
   cases q with
   |cons p' q' =>
    cases q';exact⟨_,_,rfl,p,p'⟩
 refine wpAny_newObj_type ?_ (by show 2<=sizeLine;decide);have I2:Inv X pins σ H1 { s1 with heap:=s1.heap.push { cls:=.type "tuple",data:=.seq [u1,u2].toArray } }:=I1.kept (t':=s1.toks) λb o e=>Zai _ e;rw[hw];refine wpAny_bind (wpAny_pure ?_);show wpAny (model X.prog X.w) X.A (do rule "assign.swapped-stores";let items <- unpackItems (.ref s1.heap.objs.size) 2 none;assignInOrder [λv=>bindName X.env y v,λv=>bindName X.env x v] items.reverse;pure Flow.next) _ _ _;refine wpAny_bind (wpAny_rule (wpAny_bind (unpackItems_tuple (items:=#[u1,u2]) (I.ok.hd hc) (IsTup.new s1.heap _) λh' hx'=>?_)));have I3:=I2.kept (h':=h') (t':=s1.toks) λb o e=>hx' b o (ZaS (Zax e)) e;show wpAny _ _ (assignInOrder [λv=>bindName X.env y v,λv=>bindName X.env x v] [u2,u1] >>= λ_=>pure Flow.next) _ _ _;refine wpAny_bind (assignInOrder_cons (wpAny_bindName (GS I3 hN hj (.inl hy) rw' (λs2 I4=>?_) (.inr hy))));refine assignInOrder_cons (wpAny_bindName (GS I4 hN hi (.inl hx) rv (λs3 I5=>assignInOrder_nil (wpAny_pure ?_)) (.inr hx)));rw[List.set_comm _ _ (Ne.symm hij)]at I5;exact⟨_,H1,I5,q1⟩
end
section
variable {X:Cx}{pos:Pos}
abbrev tG(c:TT)(tb:TS):TS:=λD σ H=>∃W:Nat->St->Hp->Prop,(∃m,W m σ H)/\∀m σ H,W m σ H ->
 c σ H λb H1=>if b=true then∃N:St->Hp->Prop,(∀σ' H',N σ' H'->∃m',m' < m/\W m' σ' H')/\tb { D with nx:=N,ct:=N,bk:=D.nx } σ H1 else D.nx σ H1
def vd{c:Expr}{body:List Stmt}{tc:TT}{tb:TS}(hp:PassesOwn (model X.prog X.w) X.A X.env X.xe)(hc:PT X c tc)(hb:sr X body tb):PS X (.While c body [] pos) (tG tc tb):=by
 intro pins s σ H D I h;obtain⟨W,⟨m0,w0⟩,turn⟩:=h;refine wpAny_While (codeAny_whileLoop (λn s'=>∃σ' H',Inv X pins σ' H' s'/\W n σ' H') ?_ m0 ⟨σ,H,I,w0⟩);rintro n s1 ⟨σ1,H1,I1,w1⟩;refine wpAny_passesOwn hp (cn (hc pins s1 σ1 H1 _ I1 (turn n σ1 H1 w1)) λb s2 ⟨H2,I2,q2⟩=>?_);cases b with
 |true =>
  obtain⟨N,hN,q2⟩:=q2;rw[if_pos rfl];refine wpAny_passesOwn hp (cn (hb pins s2 σ1 H2 _ I2 q2) λf s3 q3=>?_);cases f with
  |next =>
   obtain⟨σ3,H3,I3,n3⟩:=q3;obtain⟨m',hm,w3⟩:=hN σ3 H3 n3;exact⟨m',hm,σ3,H3,I3,w3⟩
  |cont =>
   obtain⟨σ3,H3,I3,n3⟩:=q3;obtain⟨m',hm,w3⟩:=hN σ3 H3 n3;exact⟨m',hm,σ3,H3,I3,w3⟩
  |brk=>exact q3
  |ret v=>exact q3
 |false =>
  rw[if_neg Zan];exact wpAny_execs_nil ⟨σ1,H2,I2,q2⟩
end
set_option genInjectivity false in
structure It where
 go:Nat->Hp->Prop
 ve:Nat->Hp->V->Hp->Prop
 stop:Nat->Hp->Prop
abbrev lX(X:Cx)(pins:List (Addr×Obj))(H:Hp)(b:Addr):Prop :=
 H b=none/\b≠X.env.locals/\b ∉ X.fs/\(b∈X.ex\/X.s₀.heap.objs.size<=b)/\(∀x c,X.env.cells.lookup x=some c->c≠b)/\∀p∈X.pn ++ pins,p.1≠b
def Inv.p9{X:Cx}{pins:List (Addr×Obj)}{σ:St}{H H':Hp}{s:Shared}{b:Addr}(I:Inv X pins σ H s)(hb:s.heap.objs.size<=b)(hn:H' b=none):lX X pins H' b:=by refine⟨hn,Nat.ne_of_gt (ZaR I.lt hb),I.B4 hb,.inr (Zap I.sz hb),λx c e z=>?_,λp hp z=>?_⟩;obtain⟨v,q⟩:=I.cell x c e;exact absurd (ZaR q.lt (by rw[z];exact hb)) (ZbZ _);exact absurd (ZaR (Zax (I.pin p hp).1) (by rw[z];exact hb)) (ZbZ _)
structure Turn(P:Program)(w:World)(K:Zfr)(tg:Expr)(J:It)(fp:List Addr)(it:Addr)(tn:Nat->Heap->Prop):Prop where
 mem:it∈fp
 obj:∀i h,tn i h->∀b∈fp,∃o,h.get? b=some o/\∀v,o.data≠.cell v
 keep:∀i h h',tn i h->(∀b∈fp,∀o,h.get? b=some o->h'.get? b=some o)->tn i h'
 item:∀(X:Cx),X.prog=P->X.w=w->X.K=K->X.calm=true->∀(i:Nat) (pins:List (Addr×Obj)) (s:Shared) (σ:St) (H:Hp) (E:Value->Shared->Prop),Inv X pins σ H s->(∀b∈fp,lX X pins H b)->tn i s.heap->J.go i H ->
  wpAny (model P w) X.A (pyNext (.ref it)) (λr s1=>∃u,r=some u /\
   wpAny (model P w) X.A (letOwnedTupleGo tg (.ref it) u) (λ_ s2=>∃x H',Inv X pins σ H' s2/\RelV x u/\J.ve i H x H'/\tn (i+1) s2.heap/\∀b∈fp,H' b=none) E s1) E s
 done:∀(X:Cx),X.prog=P->X.w=w->X.K=K->X.calm=true->∀(i:Nat) (pins:List (Addr×Obj)) (s:Shared) (σ:St) (H:Hp) (E:Value->Shared->Prop),Inv X pins σ H s->(∀b∈fp,lX X pins H b)->tn i s.heap->J.stop i H ->
  wpAny (model P w) X.A (pyNext (.ref it)) (λr s1=>r=none/\Inv X pins σ H s1) E s
 self:∀(A:Around) (i:Nat) (s:Shared) (Q:Value->Shared->Prop) (E:Value->Shared->Prop),tn i s.heap->Q (.ref it) s->wpAny (model P w) A (pyIter (.ref it)) Q E s
@[reducible]def TI:=St->Hp->(It->Hp->Prop)->Prop
abbrev Kq(X:Cx)(pins:List (Addr×Obj))(σ:St)(tg:Expr)(R:It->Hp->Prop)(itv:Value)(s2:Shared):Prop :=
 ∃(it:Addr) (fp:List Addr) (tn:Nat->Heap->Prop) (J:It) (H':Hp),itv=.ref it/\Inv X pins σ H' s2/\Turn X.prog X.w X.K tg J fp it tn/\tn 0 s2.heap/\(∀b∈fp,lX X pins H' b)/\R J H'
abbrev PI(X:Cx)(tg iter:Expr)(wi:TI):Prop :=
 ∀(pins:List (Addr×Obj)) (s:Shared) (σ:St) (H:Hp) (R:It->Hp->Prop),Inv X pins σ H s->wi σ H R ->
  wpAny (model X.prog X.w) X.A (eval iter X.env) (λv s1=>wpAny (model X.prog X.w) X.A (pyIter v) (Kq X pins σ tg R) X.xe s1) X.xe s
def A9{M:Model}{A:Around}{E:Value->Shared->Prop}{s:Shared}{tg:Expr}{it:Addr}{u:Value}{o:Obj}{n:String}{vs:Array Value}{Q:Unit->Shared->Prop}(ho:s.heap.get? it=some o)(hc:o.cls=.type n)(hd:o.data=.fields vs)
  (hn:["enumerate","zip","dict_itemiterator","dict_reverseitemiterator","odict_iterator","itertools.zip_longest","itertools.pairwise"].contains n=false) (hQ:Q () s):wpAny M A (letOwnedTupleGo tg (.ref it) u) Q E s:=by
 unfold letOwnedTupleGo;cases tg<;>first
  |exact wpAny_pure hQ
  | (cases u <;> first
    |exact wpAny_pure hQ
    | (refine wpAny_bind (wpAny_load ho ?_)
       rw[hc,hd];show wpAny M A (if(["enumerate","zip","dict_itemiterator","dict_reverseitemiterator","odict_iterator","itertools.zip_longest","itertools.pairwise"].contains n && vs[0]? == some (rawInt _))=true then _ else _) Q E s;rw[if_neg (by intro h;rw[hn,Bool.false_and]at h;cases h)]
       exact wpAny_pure hQ))
abbrev NJ(K:Zfr)(a:Addr):It :=
 ⟨λi H=>∃xs x,iL K H a xs/\xs[i]?=some x,λi H x H'=>H'=H/\∀xs,iL K H a xs->xs[i]?=some x,λi H=>∃xs,iL K H a xs/\xs.length<=i⟩
abbrev NK(K:Zfr)(a:Addr):It :=
 ⟨λi H=>∃xs x,eQ K H a xs/\xs[i]?=some x,λi H x H'=>H'=H/\∀xs,eQ K H a xs->xs[i]?=some x,λi H=>∃xs,eQ K H a xs/\xs.length<=i⟩
abbrev GW(lo:Int)(n:Nat):It:=⟨λi _=>i<n,λi H x H'=>H'=H/\x=.int (lo+i),λi _=>n<=i⟩
def Tt{P:Program}{w:World}{K:Zfr}{tg:Expr}(a it:Addr):Turn P w K tg (NJ K a) [it] it (λi h=>h.IsListIter it a i) where
 mem:=by simp
 obj:=λi h st b hb=>by
  have e:b=it:=by simpa using hb
  subst e;obtain⟨o,e,c,d⟩:=st;exact⟨o,e,λv z=>by rw[d]at z;cases z⟩
 keep:=λi h h' st k=>st.at λo e=>k it (by simp) o e
 item:=by
  intro X hP hw hK hc i pins s σ H E I hf st hg;subst hP hw hK;obtain⟨xs,x,hq,hx⟩:=hg;obtain⟨its,rv,p,hz⟩:=I.list hq;obtain⟨u,hu,ru⟩:=rv.get hx;obtain⟨f0,f1,f2,f3,f4,f5⟩:=hf it (by simp);refine wpAny_pyNext_list_item st p.isList (x:=u) (by simpa using hu) λh' st' sb=>?_;have I1:Inv X pins σ H { s with heap:=h' }:=I.turned (t':=s.toks) (λb o hb e=>(sb.2 b hb).trans e) f0 f1 f3 f4 f5;obtain⟨o,e,c,d⟩:=id st';exact⟨u,rfl,A9 (s:={ s with heap:=h' }) e c d ∅ ⟨x,H,I1,ru,⟨rfl,λys hy=>by rw[I.p7 hy hq];exact hx⟩,st',λb hb=>(hf b hb).1⟩⟩
 done:=by
  intro X hP hw hK hc i pins s σ H E I hf st hg;subst hP hw hK;obtain⟨xs,hq,hx⟩:=hg;obtain⟨its,rv,p,hz⟩:=I.list hq;obtain⟨f0,f1,f2,f3,f4,f5⟩:=hf it (by simp);have hl:=rv.length;exact wpAny_pyNext_list_end (I.ok.hd hc) st p.isList (by simp;lk) λh' eb=>⟨rfl,I.turned (t':=s.toks) (λb o hb e=>eb b o hb e) f0 f1 f3 f4 f5⟩
 self:=λ_ _ _ _ _ st h=>wpAny_pyIter_listiter st h
def Tv{P:Program}{w:World}{K:Zfr}{tg:Expr}(a it:Addr):Turn P w K tg (NK K a) [it] it (λi h=>h.IsTupleIter it a i) where
 mem:=by simp
 obj:=λi h st b hb=>by
  have e:b=it:=by simpa using hb
  subst e;obtain⟨o,e,c,d⟩:=st;exact⟨o,e,λv z=>by rw[d]at z;cases z⟩
 keep:=λi h h' st k=>st.at λo e=>k it (by simp) o e
 item:=by
  intro X hP hw hK hc i pins s σ H E I hf st hg;subst hP hw hK;obtain⟨xs,x,hq,hx⟩:=hg;obtain⟨its,rv,p,hz⟩:=I.tuple hq;obtain⟨u,hu,ru⟩:=rv.get hx;obtain⟨f0,f1,f2,f3,f4,f5⟩:=hf it (by simp);refine wpAny_pyNext_tuple_item st (show s.heap.IsTuple a its.toArray from p) (x:=u) (by simpa using hu) λh' st' sb=>?_;have I1:Inv X pins σ H { s with heap:=h' }:=I.turned (t':=s.toks) (λb o hb e=>(sb.2 b hb).trans e) f0 f1 f3 f4 f5;obtain⟨o,e,c,d⟩:=id st';exact⟨u,rfl,A9 (s:={ s with heap:=h' }) e c d ∅ ⟨x,H,I1,ru,⟨rfl,λys hy=>by rw[I.iM hy hq];exact hx⟩,st',λb hb=>(hf b hb).1⟩⟩
 done:=by
  intro X hP hw hK hc i pins s σ H E I hf st hg;subst hP hw hK;obtain⟨xs,hq,hx⟩:=hg;obtain⟨its,rv,p,hz⟩:=I.tuple hq;obtain⟨f0,f1,f2,f3,f4,f5⟩:=hf it (by simp);have hl:=rv.length;exact wpAny_pyNext_tuple_end (I.ok.hd hc) st (show s.heap.IsTuple a its.toArray from p) (by simp;lk) λh' eb=>⟨rfl,I.turned (t':=s.toks) (λb o hb e=>eb b o hb e) f0 f1 f3 f4 f5⟩
 self:=λ_ _ _ _ _ st h=>wpAny_pyIter_tupleiter st h
def Tw{P:Program}{w:World}{K:Zfr}{tg:Expr}(it:Addr)(lo:Int)(n:Nat):Turn P w K tg (GW lo n) [it] it (λi h=>IsRangeIter h it (lo+(i:Nat)*1) ((n:Int)-(i:Nat)) 1) where
 mem:=by simp
 obj:=λi h st b hb=>by
  have e:b=it:=by simpa using hb
  subst e
  exact⟨_,st,λv z=>by
   have z':Data.fields _=Data.cell v:=z
   cases z'⟩
 keep:=λi h h' st k=>k it (by simp) _ st
 item:=by
  intro X hP hw hK hc i pins s σ H E I hf st hg;subst hP hw hK;obtain⟨f0,f1,f2,f3,f4,f5⟩:=hf it (by simp);have W:=Walks.range (prog:=X.prog) (w:=X.w) (I.ok.hd hc) it lo 1 n;refine W.item i s _ _ hg st λv h' tk hv st' kk=>?_;obtain⟨t,rfl⟩:=hv;have I1:Inv X pins σ H { s with heap:=h',toks:=tk }:=I.turned (λb o hb e=>kk b o (by simpa using hb) e) f0 f1 f3 f4 f5;refine⟨_,rfl,A9 (s:={ s with heap:=h',toks:=tk }) (n:="range_iterator") st' rfl rfl ∅ ⟨.int (lo+i),H,I1,⟨t,?_⟩,⟨rfl,rfl⟩,st',λb hb=>(hf b hb).1⟩⟩;rw[Zcy]
 done:=by
  intro X hP hw hK hc i pins s σ H E I hf st hg;subst hP hw hK;obtain⟨f0,f1,f2,f3,f4,f5⟩:=hf it (by simp);exact wpAny_pyNext_range_end (I.ok.hd hc) st (by have:n<=i:=hg;lk) λh' eb=>⟨rfl,I.turned (t':=s.toks) (λb o hb e=>eb b o hb e) f0 f1 f3 f4 f5⟩
 self:=λ_ _ _ _ _ st h=>wpAny_pyIter_rangeiter st h
section
variable {X:Cx}{tg:Expr}
abbrev wO(K:Zfr)(tl:TE):TI:=λσ H R=>tl σ H λx H1=>∃a,x=.ref a/\(∃xs,iL K H1 a xs)/\R (NJ K a) H1
abbrev Co(K:Zfr)(tl:TE):TI:=λσ H R=>tl σ H λx H1=>∃a,x=.ref a/\(∃xs,eQ K H1 a xs)/\R (NK K a) H1
def Kr{l:Expr}{tl:TE}(hl:PE X l tl):PI X tg l (wO X.K tl):=by
 intro pins s σ H R I h;refine cn (hl pins s σ H _ I h) λv s1 ⟨x,H1,I1,r1,q1⟩=>?_;obtain⟨a,e,⟨xs,hq⟩,q⟩:=q1;subst e;cases r1;obtain⟨its,rv,p,hz⟩:=I1.list hq;refine wpAny_pyIter_list p.isList ?_;refine⟨s1.heap.objs.size,[s1.heap.objs.size],_,_,H1,rfl,I1.kept (t':=s1.toks) λb o e=>Zai _ e,Tt a _,⟨_,Zar _ rfl,rfl,rfl⟩,λb hb=>?_,q⟩;have e:b=s1.heap.objs.size:=by simpa using hb
 subst e;exact I1.p9 (Zad _) (I1.hok.fresh (Zad _))
def o4{l:Expr}{tl:TE}(hl:PE X l tl):PI X tg l (Co X.K tl):=by
 intro pins s σ H R I h;refine cn (hl pins s σ H _ I h) λv s1 ⟨x,H1,I1,r1,q1⟩=>?_;obtain⟨a,e,⟨xs,hq⟩,q⟩:=q1;subst e;cases r1;obtain⟨its,rv,p,hz⟩:=I1.tuple hq;refine wpAny_pyIter_tuple (show s1.heap.IsTuple a its.toArray from p) ?_;refine⟨s1.heap.objs.size,[s1.heap.objs.size],_,_,H1,rfl,I1.kept (t':=s1.toks) λb o e=>Zai _ e,Tv a _,⟨_,Zar _ rfl,rfl,rfl⟩,λb hb=>?_,q⟩;have e:b=s1.heap.objs.size:=by simpa using hb
 subst e;exact I1.p9 (Zad _) (I1.hok.fresh (Zad _))
def Tx{pins:List (Addr×Obj)}{σ:St}{H:Hp}{s:Shared}{R:It->Hp->Prop}{E:Value->Shared->Prop}{lo hi:Int}{t u v:Tok}{tk:Nat}(I:Inv X pins σ H s)(h1:-(2 ^ 62)<=lo)(h2:lo<2 ^ 62)(h3:-(2 ^ 62)<=hi)(h4:hi<2 ^ 62)
  (q:R (GW lo (hi-lo).toNat) H):wpAny (model X.prog X.w) X.A (pyIter (.ref s.heap.objs.size)) (Kq X pins σ tg R) E { s with heap:=s.heap.push { cls:=.type "range",data:=.fields #[.int lo t,.int hi u,.int 1 v] },toks:=tk }:=by
 refine wpAny_pyIter_range (IsRange.new ..) (small_one h1 h2 h3 h4) ?_;have I1:Inv X pins σ H { s with heap:=s.heap.push { cls:=.type "range",data:=.fields #[.int lo t,.int hi u,.int 1 v] },toks:=tk }:=I.kept λb o e=>Zai _ e
 refine⟨(s.heap.push { cls:=.type "range",data:=.fields #[.int lo t,.int hi u,.int 1 v] }).objs.size,[(s.heap.push { cls:=.type "range",data:=.fields #[.int lo t,.int hi u,.int 1 v] }).objs.size],_,_,H,rfl,
  I1.kept (t':=tk) λb o e=>Zai _ e,Tw _ lo (hi-lo).toNat,?_,λb hb=>?_,q⟩
 have e1:lo+((0:Nat):Int)*1=lo:=by simp
 have e2:(((hi-lo).toNat:Nat):Int)-((0:Nat):Int)=Builtin.Range.rangeSize lo hi 1:=by rw[rangeSize_one];split<;>lk
 show IsRangeIter _ _ (lo+((0:Nat):Int)*1) ((((hi-lo).toNat:Nat):Int)-((0:Nat):Int)) 1;rw[e1,e2];exact Zar _ rfl;have e:b=(s.heap.push { cls:=.type "range",data:=.fields #[.int lo t,.int hi u,.int 1 v] }).objs.size:=by simpa using hb
 subst e;exact I1.p9 (Zad _) (I1.hok.fresh (Zad _))
abbrev wQ(ta:TA):TI:=λσ H R=>ta σ H λvs H1=>∃j:Int,vs=[.int j]/\-(2 ^ 62)<=j/\j<2 ^ 62/\R (GW 0 j.toNat) H1
def tH{a:Expr}{ta:TA}{p pos:Pos}(hg:Gl X "range")(hm:X.mg "range" = none)(ha:PA X [a] ta)(hs:starEach [a] X.env=[(false,eval a X.env)]:=by rfl):PI X tg (.Call (.Name "range" p) [a] [] pos) (wQ ta):=by
 intro pins s σ H R I h;refine Call_ (B8 I hg hm boot_range (PyProof.Rows.callWith_type1 (cn (ha pos pins s σ H _ I h) λus s1 ⟨vs,H1,I1,r1,q1⟩=>?_) hs rfl));obtain⟨j,e,q1,q2,q⟩:=q1;subst e;cases r1 with
 |cons r rr =>
  cases rr;obtain⟨t,rfl⟩:=r;exact call_range_1 (Tx I1 ⋯ ⋯ q1 q2 (by simpa using q))
abbrev Cp(wi:TI)(g:TG)(tb:TS):TS:=λD σ H=>wi σ H λJ H1=>∃W:Nat->Nat->St->Hp->Prop,(∃m,W 0 m σ H1)/\∀i m σ H,W i m σ H ->
 (J.stop i H/\D.nx σ H)\/(J.go i H/\∃N:St->Hp->Prop,(∀σ' H',N σ' H'->∃m',m' < m/\W (i+1) m' σ' H')/\∀x H',J.ve i H x H'->g x σ H' λσ2 H2=>tb { D with nx:=N,ct:=N,bk:=D.nx } σ2 H2)
abbrev n4(fp:List Addr)(h:Heap):List (Addr×Obj):=fp.filterMap λb=>(h.get? b).map λo=>(b,o)
def GX{fp:List Addr}{h:Heap}{b:Addr}{o:Obj}(hb:b∈fp)(e:h.get? b=some o):(b,o)∈n4 fp h:=List.mem_filterMap.mpr ⟨b,hb,by rw[e];rfl⟩
def Tz{fp:List Addr}{h:Heap}{p:Addr×Obj}(hp:p∈n4 fp h):p.1∈fp/\h.get? p.1=some p.2:=by
 obtain⟨b,hb,e⟩:=List.mem_filterMap.mp hp;cases q:h.get? b with
 |none=>rw[q]at e;cases e
 |some o =>
  rw[q]at e;have e':(b,o)=p:=Zaq e;subst e';exact⟨hb,q⟩
def Inv.pinned{pins:List (Addr×Obj)}{σ:St}{H:Hp}{s:Shared}{fp:List Addr}(I:Inv X pins σ H s)(hf:∀b∈fp,lX X pins H b)(ho:∀b∈fp,∃o,s.heap.get? b=some o/\∀v,o.data≠.cell v):Inv X (pins ++ n4 fp s.heap) σ H s :=
 I.nG λp hp=>(ZaF.mp hp).elim (λz=>I.pin p (ZaQ _ z)) λz=>by
  obtain⟨hb,e⟩:=Tz z;obtain⟨f0,f1,f2,_⟩:=hf p.1 hb;obtain⟨o,e',d⟩:=ho p.1 hb;rw[e]at e';cases e';exact⟨e,f0,f1,f2,d⟩
def Inv.lY{pins pl:List (Addr×Obj)}{σ:St}{H:Hp}{s:Shared}(I:Inv X (pins ++ pl) σ H s):Inv X pins σ H s:=I.nG λp hp=>I.pin p (ZaQ _ (ZbQ _ hp))
def yo{iter:Expr}{body:List Stmt}{wi:TI}{g:TG}{tb:TS}{pos:Pos}(hp:PassesOwn (model X.prog X.w) X.A X.env X.xe)(hc:X.calm=true)(hi:PI X tg iter wi)(hg:PG X tg g)(hb:sr X body tb)
  (hs:∀x,foldedSetIterable iter X.env x=pure x:=by intro _;rfl):PS X (.For tg iter body [] pos) (Cp wi g tb):=by
 intro pins s σ H D I h;refine wpAny_For (cn (hi pins s σ H _ I h) λv s1 h1=>cn h1 λitv s2 h2=>?_) hs;obtain⟨it,fp,tn,J,H2,e,I2,T,st2,f2,W,⟨m0,w0⟩,turn⟩:=h2;subst e;have stat:∀{H':Hp},(∀b∈fp,H' b=none)->∀b∈fp,lX X pins H' b:=λhn b hb=>⟨hn b hb,(f2 b hb).2⟩;refine codeAny_forLoop_any (λn s'=>∃i σ' H',Inv X pins σ' H' s'/\tn i s'.heap/\(∀b∈fp,H' b=none)/\W i n σ' H') ?_ m0 ⟨0,σ,H2,I2,st2,λb hb=>(f2 b hb).1,w0⟩;rintro n s3 ⟨i,σ3,H3,I3,st3,NL,w3⟩;rcases turn i n σ3 H3 w3 with⟨stop,qn⟩|⟨go,N,hN,step⟩
 ·refine wpAny_passesOwn hp (cn (T.done X rfl rfl rfl hc i pins s3 σ3 H3 X.xe I3 (stat NL) st3 stop) λr s4 ⟨hr,I4⟩=>?_)
  subst hr;exact wpAny_execs_nil ⟨σ3,H3,I4,qn⟩
 ·refine wpAny_passesOwn hp (cn (T.item X rfl rfl rfl hc i pins s3 σ3 H3 X.xe I3 (stat NL) st3 go) λr s4 ⟨u,hr,h4⟩=>?_)
  subst hr;refine wpAny_passesOwn hp (cn h4 λ_ s5 ⟨x,H5,I5,r5,y5,j6,GY⟩=>?_);have TB:=I5.pinned (stat GY) (T.obj _ _ j6);refine wpAny_passesOwn hp (cn (hg _ s5 σ3 H5 x u _ TB r5 (step x H5 y5)) λ_ s6 ⟨σ6,H6,I6,q6⟩=>?_);refine wpAny_passesOwn hp (cn (hb _ s6 σ6 H6 _ I6 q6) λf s7 q7=>?_);have again:∀{σ7:St} {H7:Hp},Inv X (pins ++ n4 fp s5.heap) σ7 H7 s7->N σ7 H7->∃m,m<n/\∃i σ' H',Inv X pins σ' H' s7/\tn i s7.heap/\(∀b∈fp,H' b=none)/\W i m σ' H':=λ{σ7 H7} I7 n7=>by
   obtain⟨m',hm,w7⟩:=hN σ7 H7 n7;refine⟨m',hm,i+1,σ7,H7,I7.lY,T.keep _ _ _ j6 λb hb o e=>(I7.pin (b,o) (ZaQ _ (ZaQ _ (GX hb e)))).1,λb hb=>?_,w7⟩;obtain⟨o,e,d⟩:=T.obj _ _ j6 b hb;exact(I7.pin (b,o) (ZaQ _ (ZaQ _ (GX hb e)))).2.1
  cases f with
  |next=>obtain⟨σ7,H7,I7,n7⟩:=q7;exact again I7 n7
  |cont=>obtain⟨σ7,H7,I7,n7⟩:=q7;exact again I7 n7
  |brk=>obtain⟨σ7,H7,I7,q7⟩:=q7;exact⟨σ7,H7,I7.lY,q7⟩
  |ret v=>obtain⟨x7,σ7,H7,I7,r7,q7⟩:=q7;exact⟨x7,σ7,H7,I7.lY,r7,q7⟩
end
@[reducible]def R2:=V->V->Hp->VK->Prop
abbrev lA(X:Cx)(f:Value->Value->Sem Value)(r:R2):Prop :=
 ∀(pins:List (Addr×Obj)) (s:Shared) (σ:St) (H:Hp) (x y:V) (v u:Value) (Q:VK),Inv X pins σ H s->RelV x v->RelV y u->r x y H Q ->
  wpAny (model X.prog X.w) X.A (f v u) (EP X pins σ Q) X.xe s
abbrev Ks(X:Cx)(f:Value->Sem Value)(r:V->Hp->VK->Prop):Prop :=
 ∀(pins:List (Addr×Obj)) (s:Shared) (σ:St) (H:Hp) (x:V) (v:Value) (Q:VK),Inv X pins σ H s->RelV x v->r x H Q ->
  wpAny (model X.prog X.w) X.A (f v) (EP X pins σ Q) X.xe s
abbrev du(X:Cx)(f:Value)(r:List V->Hp->VK->Prop):Prop :=
 ∀(pins:List (Addr×Obj)) (s:Shared) (σ:St) (H:Hp) (xs:List V) (us:List Value) (Q:VK),Inv X pins σ H s->Vals xs us->r xs H Q ->
  wpAny (model X.prog X.w) X.A (call f us) (EP X pins σ Q) X.xe s
abbrev Cq(r:R2)(ta tb:TE):TE:=λσ H Q=>ta σ H λx H1=>tb σ H1 λy H2=>r x y H2 Q
abbrev NM(r:V->Hp->VK->Prop)(ta:TE):TE:=λσ H Q=>ta σ H λx H1=>r x H1 Q
abbrev rI(C:Int->Int->Prop)(g:Int->Int->V):R2:=λx y H Q=>∃i j,x=.int i/\y=.int j/\C i j/\Q (g i j) H
abbrev qE(g:Int->Int->V):R2:=λx y H Q=>∃i j,x=.int i/\y=.int j/\Q (g i j) H
abbrev rU(g:Int->V):V->Hp->VK->Prop:=λx H Q=>∃i,x=.int i/\Q (g i) H
section
variable {X:Cx}{a b c:Expr}{ta tb tc:TE}{pos:Pos}
def yp(ha:PE X a ta)(hb:PE X b tb){pins:List (Addr×Obj)}{s:Shared}{σ:St}{H:Hp}{R:V->V->Hp->Prop}(I:Inv X pins σ H s)
  (h:ta σ H λx H1=>tb σ H1 λy H2=>R x y H2) {Q:Value->Shared->Prop} {f:Value->Value->Sem Value}
  (hf:∀v u s2 x y H2,Inv X pins σ H2 s2->RelV x v->RelV y u->R x y H2->wpAny (model X.prog X.w) X.A (f v u) Q X.xe s2) :
  wpAny (model X.prog X.w) X.A (eval a X.env) (λv s₁=>wpAny (model X.prog X.w) X.A (eval b X.env) (λu s₂=>wpAny (model X.prog X.w) X.A (f v u) Q X.xe s₂) X.xe s₁) X.xe s:=by
 refine cn (ha pins s σ H _ I h) λv s1 ⟨x,H1,I1,r1,q1⟩=>?_;refine cn (hb pins s1 σ H1 _ I1 q1) λu s2 ⟨y,H2,I2,r2,q2⟩=>?_;exact hf v u s2 x y H2 I2 r1 r2 q2
def bI{op:Operator}{r:R2}(ho:lA X (binaryOp op) r)(ha:PE X a ta)(hb:PE X b tb):PE X (.BinOp a op b pos) (Cq r ta tb):=by intro pins s σ H Q I h;exact wpAny_BinOp (yp ha hb I h λv u s2 x y H2 I2 rx ry q=>ho pins s2 σ H2 x y v u Q I2 rx ry q)
def qa{op:UnaryOp}{r:V->Hp->VK->Prop}(ho:Ks X (unaryOp op) r)(ha:PE X a ta):PE X (.UnaryOp op a pos) (NM r ta):=by intro pins s σ H Q I h;exact UnaryOp_ (cn (ha pins s σ H _ I h) λv s1 ⟨x,H1,I1,r1,q1⟩=>ho pins s1 σ H1 x v Q I1 r1 q1)
def Ba{f:Value->Value->Sem Value}{C:Int->Int->Prop}{g:Int->Int->Int}
  (rule:∀(i j:Int) (t u:Tok) (s:Shared) (Q:Value->Shared->Prop) (E:Value->Shared->Prop),C i j->Q (.int (g i j) s.toks) { s with toks:=s.toks+1 }->wpAny (model X.prog X.w) X.A (f (.int i t) (.int j u)) Q E s) :
  lA X f (rI C λi j=>.int (g i j)):=by
 intro pins s σ H x y v u Q I rx ry h;obtain⟨i,j,rfl,rfl,hc,q⟩:=h;obtain⟨t,rfl⟩:=rx;obtain⟨t',rfl⟩:=ry;exact rule i j t t' s _ _ hc ⟨.int (g i j),H,I.tok _,⟨_,rfl⟩,q⟩
def Cr{f:Value->Value->Sem Value}{g:Int->Int->Int}
  (rule:∀(i j:Int) (t u:Tok) (s:Shared) (Q:Value->Shared->Prop) (E:Value->Shared->Prop),Q (.int (g i j) s.toks) { s with toks:=s.toks+1 }->wpAny (model X.prog X.w) X.A (f (.int i t) (.int j u)) Q E s) :
  lA X f (qE λi j=>.int (g i j)):=by
 intro pins s σ H x y v u Q I rx ry h;obtain⟨i,j,rfl,rfl,q⟩:=h;obtain⟨t,rfl⟩:=rx;obtain⟨t',rfl⟩:=ry;exact rule i j t t' s _ _ ⟨.int (g i j),H,I.tok _,⟨_,rfl⟩,q⟩
def vf{f:Value->Value->Sem Value}{g:Int->Int->Bool}
  (rule:∀(i j:Int) (t u:Tok) (s:Shared) (Q:Value->Shared->Prop) (E:Value->Shared->Prop),Q (.bool (g i j)) s->wpAny (model X.prog X.w) X.A (f (.int i t) (.int j u)) Q E s) :
  lA X f (qE λi j=>.bl (g i j)):=by
 intro pins s σ H x y v u Q I rx ry h;obtain⟨i,j,rfl,rfl,q⟩:=h;obtain⟨t,rfl⟩:=rx;obtain⟨t',rfl⟩:=ry;exact rule i j t t' s _ _ ⟨.bl (g i j),H,I,rfl,q⟩
abbrev Cs(i j:Int):Prop:=0<j/\j<1073741824
abbrev Ct(i j:Int):Prop:=0<=j/\j<=1000000/\i.natAbs<2 ^ 64
abbrev tJ(i j:Int):Prop:=(-(2 ^ 64)<i/\i<2 ^ 64)\/(-(2 ^ 64)<j/\j<2 ^ 64)
def tJ.ok{i j:Int}(h:tJ i j):IntMulOk i j:=by
 rcases h with⟨h1,h2⟩|⟨h1,h2⟩
 exact .of_left (intBits_le_64 h1 h2);exact .of_right (intBits_le_64 h1 h2)
def mZ:lA X (binaryOp .Add) (qE λi j=>.int (i+j)):=Cr λ_ _ _ _ _ _ _ q=>add_int q
def Cu:lA X (binaryOp .Sub) (qE λi j=>.int (i-j)):=Cr λ_ _ _ _ _ _ _ q=>sub_int q
def qF:lA X (binaryOp .Mult) (rI tJ λi j=>.int (i*j)):=Ba λ_ _ _ _ _ _ _ hc q=>mul_int q hc.ok
def Cv:lA X (binaryOp .FloorDiv) (rI Cs λi j=>.int (i / j)):=Ba λi j _ _ _ _ _ hc q=>by
 have h1:(0:Int)<j:=hc.1;have h2:j<1073741824:=hc.2;exact floordiv_int ⋯ (by rw[Int.fdiv_eq_ediv_of_nonneg i ⋯];exact q) (.inl (PyProof.noPylong_small ⋯))
def tK:lA X (binaryOp .Mod) (rI (λ_ j=>0<j) λi j=>.int (i % j)):=Ba λi j _ _ _ _ _ hc q=>by
 have h1:(0:Int)<j:=hc;exact mod_int' ⋯ (by rw[Int.fmod_eq_emod_of_nonneg i ⋯];exact q)
def NN:lA X (binaryOp .Pow) (rI Ct λi j=>.int (i ^ j.toNat)):=Ba λ_ _ _ _ _ _ _ hc q=>pow_int_small hc.1 hc.2.1 hc.2.2 q
def TC{f:Value->Sem Value}{g:Int->Int}
  (rule:∀(i:Int) (t:Tok) (s:Shared) (Q:Value->Shared->Prop) (E:Value->Shared->Prop),Q (.int (g i) s.toks) { s with toks:=s.toks+1 }->wpAny (model X.prog X.w) X.A (f (.int i t)) Q E s) :
  Ks X f (rU λi=>.int (g i)):=by
 intro pins s σ H x v Q I rx h;obtain⟨i,rfl,q⟩:=h;obtain⟨t,rfl⟩:=rx;exact rule i t s _ _ ⟨.int (g i),H,I.tok _,⟨_,rfl⟩,q⟩
def qb:Ks X (unaryOp .USub) (rU λi=>.int (-i)):=TC λ_ _ _ _ _ q=>neg_int q
end
abbrev qG:V->V->Bool
 |.non,.non=>true|.non,.int _=>true|.int _,.non=>true|.non,.bl _=>true|.bl _,.non=>true|.non,.str _=>true|.str _,.non=>true
 |.int _,.int _=>true|.bl _,.bl _=>true|.str _,.str _=>true|.sZ _,.sZ _=>true
 |.int _,.str _=>true|.str _,.int _=>true|.bl _,.str _=>true|.str _,.bl _=>true
 |_,_=>false
abbrev NP:R2:=λx y H Q=>qG x y=true/\Q (.bl (decide (x=y))) H
abbrev NQ:R2:=λx y H Q=>qG x y=true/\Q (.bl (!decide (x=y))) H
def NR{i j:Int}:decide (V.int i=V.int j)=(i == j):=by rw[Zbs];simp
def NS{i j:Bool}:decide (V.bl i=V.bl j)=(i == j):=by rw[Zbs];simp
def NT{i j:Str}:decide (V.str i=V.str j)=(i == j):=by rw[Zbs];simp
def NU{i j:Array UInt8}:decide (V.sZ i=V.sZ j)=(i.toList == j.toList):=by rw[Zbs];cases i;cases j;simp
section
variable {X:Cx}{a b c:Expr}{ta tb tc:TE}{pos:Pos}
def lS{pins:List (Addr×Obj)}{σ:St}{H:Hp}{s:Shared}{Q:VK}{k k':Bool}(I:Inv X pins σ H s)(q:Q (.bl k) H)(e:k=k'):EP X pins σ Q (.bool k') s:=by subst e;exact⟨.bl k,H,I,rfl,q⟩
def pS:lA X (compareOp .Eq) NP:=by
 intro pins s σ H x y v u Q I rx ry h;obtain⟨hs,q⟩:=h;cases x with
 |non =>
  cases rx;cases y with
  |non=>cases ry;exact PySem.EqNone.eq_none_none (lS I q (by simp))
  |bl j=>cases ry;exact PySem.EqNone.eq_none_bool (lS I q (by simp))
  |int j=>obtain⟨t',rfl⟩:=ry;exact PySem.EqNone.eq_none_int (lS I q (by simp))
  |str j=>obtain⟨t',rfl⟩:=ry;exact PySem.EqNone.eq_none_str (lS I q (by simp))
  |_=>exact absurd (show false=true from hs) Zan
 |bl i =>
  cases rx;cases y with
  |non=>cases ry;exact PySem.EqNone.eq_bool_none (lS I q (by simp))
  |bl j=>cases ry;exact eq_bool (lS I q NS)
  |str j=>obtain⟨t',rfl⟩:=ry;exact PySem.EqMixed.eq_bool_str (lS I q (by simp))
  |_=>exact absurd (show false=true from hs) Zan
 |int i =>
  obtain⟨t,rfl⟩:=rx;cases y with
  |non=>cases ry;exact PySem.EqNone.eq_int_none (lS I q (by simp))
  |int j=>obtain⟨t',rfl⟩:=ry;exact eq_int (lS I q NR)
  |str j=>obtain⟨t',rfl⟩:=ry;exact PySem.EqMixed.eq_int_str (lS I q (by simp))
  |_=>exact absurd (show false=true from hs) Zan
 |str i =>
  obtain⟨t,rfl⟩:=rx;cases y with
  |non=>cases ry;exact PySem.EqNone.eq_str_none (lS I q (by simp))
  |bl j=>cases ry;exact PySem.EqMixed.eq_str_bool (lS I q (by simp))
  |int j=>obtain⟨t',rfl⟩:=ry;exact PySem.EqMixed.eq_str_int (lS I q (by simp))
  |str j=>obtain⟨t',rfl⟩:=ry;exact eq_str (lS I q NT)
  |_=>exact absurd (show false=true from hs) Zan
 |sZ i =>
  obtain⟨t,rfl⟩:=rx;cases y with
  |sZ j=>obtain⟨t',rfl⟩:=ry;exact PySem.W.eq_bytes (lS I q NU)
  |_=>exact absurd (show false=true from hs) Zan
 |_=>cases y<;>exact absurd (show false=true from hs) Zan
def Bb:lA X (compareOp .NotEq) NQ:=by
 intro pins s σ H x y v u Q I rx ry h;obtain⟨hs,q⟩:=h;cases x with
 |non =>
  cases rx;cases y with
  |non=>cases ry;exact PySem.EqNone.ne_none_none (lS I q (by simp))
  |bl j=>cases ry;exact PySem.EqNone.ne_none_bool (lS I q (by simp))
  |int j=>obtain⟨t',rfl⟩:=ry;exact PySem.EqNone.ne_none_int (lS I q (by simp))
  |str j=>obtain⟨t',rfl⟩:=ry;exact PySem.EqNone.ne_none_str (lS I q (by simp))
  |_=>exact absurd (show false=true from hs) Zan
 |bl i =>
  cases rx;cases y with
  |non=>cases ry;exact PySem.EqNone.ne_bool_none (lS I q (by simp))
  |bl j=>cases ry;exact ne_bool (lS I q (congrArg not NS))
  |str j=>obtain⟨t',rfl⟩:=ry;exact PySem.EqMixed.ne_bool_str (lS I q (by simp))
  |_=>exact absurd (show false=true from hs) Zan
 |int i =>
  obtain⟨t,rfl⟩:=rx;cases y with
  |non=>cases ry;exact PySem.EqNone.ne_int_none (lS I q (by simp))
  |int j=>obtain⟨t',rfl⟩:=ry;exact ne_int (lS I q (congrArg not NR))
  |str j=>obtain⟨t',rfl⟩:=ry;exact PySem.EqMixed.ne_int_str (lS I q (by simp))
  |_=>exact absurd (show false=true from hs) Zan
 |str i =>
  obtain⟨t,rfl⟩:=rx;cases y with
  |non=>cases ry;exact PySem.EqNone.ne_str_none (lS I q (by simp))
  |bl j=>cases ry;exact PySem.EqMixed.ne_str_bool (lS I q (by simp))
  |int j=>obtain⟨t',rfl⟩:=ry;exact PySem.EqMixed.ne_str_int (lS I q (by simp))
  |str j=>obtain⟨t',rfl⟩:=ry;exact ne_str (lS I q (congrArg not NT))
  |_=>exact absurd (show false=true from hs) Zan
 |sZ i =>
  obtain⟨t,rfl⟩:=rx;cases y with
  |sZ j=>obtain⟨t',rfl⟩:=ry;exact PySem.W.ne_bytes (lS I q (congrArg not NU))
  |_=>exact absurd (show false=true from hs) Zan
 |_=>cases y<;>exact absurd (show false=true from hs) Zan
def yq:lA X (compareOp .Lt) (qE λi j=>.bl (decide (i<j))):=vf λ_ _ _ _ _ _ _ q=>lt_int q
def Cw:lA X (compareOp .LtE) (qE λi j=>.bl (decide (i<=j))):=vf λ_ _ _ _ _ _ _ q=>le_int q
def Kt:lA X (compareOp .Gt) (qE λi j=>.bl (decide (j<i))):=vf λ_ _ _ _ _ _ _ q=>gt_int q
def Cy:lA X (compareOp .GtE) (qE λi j=>.bl (decide (j<=i))):=vf λ_ _ _ _ _ _ _ q=>ge_int q
def aN(b:Expr){op:CmpOp}(h:op≠.In:=by decide)(h2:op≠.NotIn:=by decide):behindInMarks op b=false:=by
 have e1:(op == CmpOp.In)=false:=by cases op<;>first|rfl|exact absurd rfl h
 have e2:(op == CmpOp.NotIn)=false:=by cases op<;>first|rfl|exact absurd rfl h2
 cases b<;>simp[behindInMarks,e1,e2]
def Ku{op:CmpOp}{r:R2}(ho:lA X (compareOp op) r)(ha:PE X a ta)(hb:PE X b tb)(hm:behindInMarks op b=false):PE X (.Compare a [op] [b] pos) (Cq r ta tb):=by intro pins s σ H Q I h;exact wpAny_Compare1 (yp ha hb I h λv u s2 x y H2 I2 rx ry q=>ho pins s2 σ H2 x y v u Q I2 rx ry q) hm
abbrev wR(t:TE):TT:=λσ H Q=>t σ H λx H'=>∃k,x=.bl k/\Q k H'
def gb{op:CmpOp}{r:R2}(ho:lA X (compareOp op) r)(ha:PE X a ta)(hb:PE X b tb)(hm:behindInMarks op b=false):PT X (.Compare a [op] [b] pos) (wR (Cq r ta tb)):=by
 intro pins s σ H Q I h
 refine wpAny_isTrue_Compare1 (cn (ha pins s σ H _ I h) λv s1 ⟨x,H1,I1,r1,q1⟩=>cn (hb pins s1 σ H1 _ I1 q1) λu s2 ⟨y,H2,I2,r2,q2⟩ =>
  cn (ho pins s2 σ H2 x y v u _ I2 r1 r2 q2) λc s3 ⟨z,H3,I3,r3,k,e,q3⟩=>?_) hm
 subst e;cases r3;exact wpAny_truthy_bool ⟨H3,I3,q3⟩
def lB:(sizeLine:Nat)<2 ^ 63:=by rw[sizeLine_eq];decide
def vals1{x:V}{us:List Value}(r:Vals [x] us):∃u,us=[u]/\RelV x u:=by
 cases r with
 |cons r1 r2=>cases r2;exact⟨_,rfl,r1⟩
def vals2{x y:V}{us:List Value}(r:Vals [x,y] us):∃u w',us=[u,w']/\RelV x u/\RelV y w':=by
 cases r with
 |cons r1 r2 =>
  cases r2 with
  |cons r3 r4=>cases r4;exact⟨_,_,rfl,r1,r3⟩
def NV:du X (.builtin "abs") (λxs H Q=>∃i,xs=[.int i]/\Q (.int (if i<0 then -i else i)) H):=by intro pins s σ H xs us Q I r h;obtain⟨i,rfl,q⟩:=h;obtain⟨u,rfl,t,rfl⟩:=vals1 r;exact call_abs_int λu tk=>⟨.int (if i<0 then -i else i),H,I.tok _,⟨_,rfl⟩,q⟩
def Kv(hc:X.calm=true):du X (.builtin "max") (λxs H Q=>∃i j,xs=[.int i,.int j]/\Q (.int (if j > i then j else i)) H):=by intro pins s σ H xs us Q I r h;obtain⟨i,j,rfl,q⟩:=h;obtain⟨u,w',rfl,⟨t,rfl⟩,⟨t',rfl⟩⟩:=vals2 r;refine max_two_ints (I.ok.hd hc) λh' tk k=>⟨_,H,I.kept k,?_,q⟩;by_cases hj:j > i;rw[if_pos hj,if_pos hj];exact⟨_,rfl⟩;rw[if_neg hj,if_neg hj];exact⟨_,rfl⟩
def TF(hc:X.calm=true):du X (.builtin "min") (λxs H Q=>∃i j,xs=[.int i,.int j]/\Q (.int (if j<i then j else i)) H):=by intro pins s σ H xs us Q I r h;obtain⟨i,j,rfl,q⟩:=h;obtain⟨u,w',rfl,⟨t,rfl⟩,⟨t',rfl⟩⟩:=vals2 r;refine min_two_ints (I.ok.hd hc) λh' tk k=>⟨_,H,I.kept k,?_,q⟩;by_cases hj:j<i;rw[if_pos hj,if_pos hj];exact⟨_,rfl⟩;rw[if_neg hj,if_neg hj];exact⟨_,rfl⟩
end
def oF.some_of{v:V}{o:Option Value}(r:oF (some v) o):∃u,o=some u/\RelV v u:=by
 cases o with
 |none=>exact(show False from r).elim
 |some u=>exact⟨u,rfl,r⟩
structure tL(K:Zfr)(C:Addr)(f:Str)(v:V)(u:Value):Prop where
 at_:PySem.W.findIn K (.ref C) f=some (some u)
 rel:RelV v u
 get:PySem.W.specialIn K u "__get__" = some none
 cp:PySem.W.copiedNames.contains f=false
structure iN(k:Nat)(A:Around):Prop where
 hd:A.handled=none
 dp:A.depth+3*k+5<recursionLimit
 un:A.units+16*k+200<cLine
 gd:A.guards=some []
def iN.mono{j k:Nat}{A:Around}(r:iN k A)(h:j<=k):iN j A:=⟨r.hd,by have:=r.dp;lk,by have:=r.un;lk,r.gd⟩
def iN.deeper{k:Nat}{A:Around}(r:iN (k+1) A)(env:Env):iN k (A.deeper env) :=
 ⟨r.hd,by have:=r.dp;show A.depth+1+3*k+5<_;lk,by have:=r.un;show A.units+3+16*k+200<_;lk,r.gd⟩
def iN.depth{k:Nat}{A:Around}(r:iN k A):A.depth<recursionLimit:=by have:=r.dp;lk
def iN.units{k:Nat}{A:Around}(r:iN k A):A.units+64<cLine:=by have:=r.un;lk
abbrev Cz:TA:=λ_ H Q=>Q [] H
abbrev wU(ta:TE)(tr:TA):TA:=λσ H Q=>ta σ H λx H1=>tr σ H1 λxs H2=>Q (x :: xs) H2
section
variable {X:Cx}{e:Expr}{es:List Expr}{te:TE}{t:TA}{pos:Pos}
def ax:PA X [] Cz:=λ_ _ _ _ H Q I h=>Calls.spliced_nil ⟨[],H,I,.nil,h⟩
def TH(ha:PE X e te)(hr:PA X es t)(hs:starEach (e :: es) X.env=(false,eval e X.env) :: starEach es X.env:=by rfl):PA X (e :: es) (wU te t):=by intro pos pins s σ H Q I h;rw[hs];show wpAny _ _ (spliced ((false,eval e X.env) :: backTo pos (starEach es X.env))) _ _ s;refine Calls.spliced_cons (cn (ha pins s σ H _ I h) λu s1 ⟨x,H1,I1,r1,q1⟩=>?_);exact cn (hr pos pins s1 σ H1 _ I1 q1) λus s2 ⟨xs,H2,I2,r2,q2⟩=>⟨x :: xs,H2,I2,.cons r1 r2,q2⟩
abbrev CA(t:TA):TE:=λσ H Q=>t σ H λxs H1=>xs.length<=sizeLine/\∀p,H1 p=none->Q (.ref p) (upd H1 p (.tup xs))
abbrev CB(t:TA):TE:=λσ H Q=>t σ H λxs H1=>xs.length<=sizeLine/\∀p,H1 p=none->Q (.ref p) (upd H1 p (.lst xs))
def jY{x1}(h:PA X es t):PE X (.Tuple es x1 pos) (CA t):=by intro pins s σ H Q I hq;refine wpAny_Tuple_spliced (cn (h pos pins s σ H _ I hq) λus s1 ⟨xs,H1,I1,r,z,q⟩=>⟨by rw[<- r.length];exact z,?_⟩);have hf:H1 s1.heap.objs.size=none:=I1.hok.fresh (Zad _);refine⟨.ref s1.heap.objs.size,upd H1 s1.heap.objs.size (.tup xs),I1.laid (t':=s1.toks) (λb u e=>Zai _ e) (Zad _) ?_,rfl,q _ hf⟩;exact⟨z,us,r,⟨_,Zar _ rfl,rfl,rfl,_,rfl⟩⟩
def m9(h:PA X es t):PE X (.List es pos) (CB t):=by intro pins s σ H Q I hq;refine wpAny_List_spliced (cn (h pos pins s σ H _ I hq) λus s1 ⟨xs,H1,I1,r,z,q⟩=>⟨by rw[<- r.length];exact z,?_⟩);have hf:H1 s1.heap.objs.size=none:=I1.hok.fresh (Zad _);refine⟨.ref s1.heap.objs.size,upd H1 s1.heap.objs.size (.lst xs),I1.laid (t':=s1.toks) (λb u e=>Zai _ e) (Zad _) ?_,rfl,q _ hf⟩;exact⟨z,us,0,r,Zar _ rfl⟩
end
@[reducible]def Sp:=List V->Hp->VK->XK->Prop
@[reducible]def sx:=List Env->Hp->Shared->XK->Value->Shared->Prop
structure vg(P:Program)(w:World)(K:Zfr)(mg:Str->Option Value)(base:Heap)(A:Around)(outer:List Env)(s:Shared)(H:Hp):Prop where
 frames:A.frames=some outer
 mod:Mod K mg base
 bs:∀b o,base.get? b=some o->s.heap.get? b=some o/\H b=none
 wI:base.objs.size<=s.heap.objs.size
 nY:s.heap.FunFrames base outer
 A5:∀b∈frs outer,H b=none
 hok:lW P w H s.heap
 bare:AllBare s.gens
abbrev CE(outer:List Env)(P:Program)(w:World)(H:Hp)(s:Shared)(Q:VK)(u:Value)(s':Shared):Prop :=
 ∃v H',s'.os=s.os/\AllBare s'.gens/\Un (frs outer) [] H H' s.heap s'.heap/\lW P w H' s'.heap/\RelV v u/\Q v H'
abbrev CR(CX:sx)(outer:List Env)(P:Program)(w:World)(H:Hp)(s:Shared)(Q:VK)(E:XK)(r:Result)(s':Shared):Prop :=
 match r with
 |.ok (.ret u)=>CE outer P w H s Q u s'
 |.ok _=>False
 |.error e=>CX outer H s E e s'
structure aD(P:Program)(w:World)(K:Zfr)(mg:Str->Option Value)(base:Heap)(CX:sx)(k:Nat)(f:Addr)(fd:FuncData)(ps:List Str)(sp:Sp):Prop where
 len:∀vs H Q E,sp vs H Q E->vs.length=ps.length
 run:∀(A:Around) (outer:List Env) (s:Shared) (H:Hp) (args:Args) (us:List Value) (vs:List V) (Q:VK) (E:XK),iN k A->vg P w K mg base A outer s H->BindsTo s fd args (ps.zip us)->Vals vs us->sp vs H Q E ->
  codeAny (model P w) A (.call (.ref f) args) (CR CX outer P w H s Q E) s
def aD.imp{P:Program}{w:World}{K:Zfr}{mg:Str->Option Value}{base:Heap}{CX:sx}{k:Nat}{f:Addr}{fd:FuncData}{ps:List Str}{sp NW:Sp}(F:aD P w K mg base CX k f fd ps sp)
  (h:∀vs H Q E,NW vs H Q E->sp vs H Q E):aD P w K mg base CX k f fd ps NW :=
 ⟨λvs H Q E q=>F.len vs H Q E (h _ _ _ _ q),λA outer s H args us vs Q E hr he hb hv hs=>F.run A outer s H args us vs Q E hr he hb hv (h _ _ _ _ hs)⟩
section
variable {X:Cx}{pins:List (Addr×Obj)}{σ:St}{H:Hp}{s s':Shared}
def Inv.Kw(I:Inv X pins σ H s):vg X.prog X.w X.K X.mg X.base X.A X.stack s H :=
 ⟨I.ok.frames,I.ok.mod,I.bs,Zap I.ok.wI I.sz,I.stack,I.q5,I.hok,I.bare⟩
def Inv.after{Q:VK}{u:Value}(I:Inv X pins σ H s)(h:CE X.stack X.prog X.w H s Q u s'):EP X pins σ Q u s':=by obtain⟨v,H',os,bare,un,hok,r,q⟩:=h;obtain⟨hh,g,d,t,os'⟩:=s';obtain rfl:os'=s.os:=os;exact⟨v,H',I.call (h':=hh) (g':=g) (d':=d) (t':=t) (ch:=[]) un hok bare (λb z=>absurd z (by simp)),r,q⟩
end
abbrev tM(sp:Sp)(wV:List V)(E:XK)(t:TA):TE:=λσ H Q=>t σ H λvs H1=>sp (vs ++ wV) H1 Q E
abbrev Binds(K:Zfr)(fd:FuncData)(ps:List Str)(ds:List Value):Prop :=
 ∀(s:Shared) (us:List Value),K.In s.heap->(us ++ ds).length=ps.length->BindsTo s fd ⟨us,[]⟩ (ps.zip (us ++ ds))
def Binds.all{K:Zfr}{fd:FuncData}{ps:List Str}(h:∀us:List Value,us.length=ps.length->bindArgs fd ⟨us,[]⟩=pure (ps.zip us)):Binds K fd ps []:=λs us _ hl=>by
 rw[Zbt]at hl ⊢;exact .of_eq (h us hl)
abbrev Passes(CX:sx)(X:Cx)(E:XK):Prop:=∀(pins:List (Addr×Obj)) (σ:St) (H:Hp) (s:Shared) (e:Value) (s':Shared),Inv X pins σ H s->CX X.stack H s E e s'->X.xe e s'
section
variable {X:Cx}{CX:sx}{k:Nat}{f C:Addr}{fd:FuncData}{ps:List Str}{sp:Sp}{wV:List V}{ds:List Value}{E:XK}{x m:Str}{p pos apos:Pos}{e o:Expr}{es:List Expr}{ta:TE}{t:TA}
def yr{pins:List (Addr×Obj)}{σ:St}{H:Hp}{s:Shared}{Q:VK}{us:List Value}{vs:List V}(F:aD X.prog X.w X.K X.mg X.base CX k f fd ps sp)(hr:iN k X.A)(hb:Binds X.K fd ps ds)(hd:Vals wV ds)(hx:Passes CX X E)
  (I:Inv X pins σ H s) (r:Vals vs us) (h:sp (vs ++ wV) H Q E):wpAny (model X.prog X.w) X.A (call (.ref f) us) (EP X pins σ Q) X.xe s:=by
 have r2:Vals (vs ++ wV) (us ++ ds):=r.append hd;have hl:(us ++ ds).length=ps.length:=by rw[<- r2.length];exact F.len _ _ _ _ h
 refine wpAny_call (codeAny_mono (F.run X.A X.stack s H ⟨us,[]⟩ (us ++ ds) (vs ++ wV) Q E hr I.Kw (hb s us I.GQ hl) r2 h) λr s' hq=>?_);cases r with
 |error e=>exact hx pins σ H s e s' I hq
 |ok fl =>
  cases fl with
  |ret u=>exact I.after hq
  |next=>exact False.elim hq
  |brk=>exact False.elim hq
  |cont=>exact False.elim hq
def TJ(F:aD X.prog X.w X.K X.mg X.base CX k f fd ps sp)(hr:iN k X.A)(hg:Gl X x)(hm:X.mg x=some (.ref f))(hk:PySem.W.keepIn X.K (.ref f)=true)(hb:Binds X.K fd ps ds)(hd:Vals wV ds)(hx:Passes CX X E)
  (ha:PA X (e :: es) t) (hdb:(x == ("__debug__" : Str))=false:=by decide) (he:starEach (e :: es) X.env=(false,eval e X.env) :: starEach es X.env:=by rfl) (hpl:(backTo pos (starEach es X.env)).any (·.1)=false:=by rfl) :
  PE X (.Call (.Name x p) (e :: es) [] pos) (tM sp wV E t):=by
 intro pins s σ H Q I h;refine wpAny_Call_Name_kw (NC I hg hm ?_ hdb);refine PySem.W.callWith_K (h₀:=X.base) I.ok.mod.Kg hk (cn (ha pos pins s σ H _ I h) λus s1 ⟨vs,H1,I1,r,q⟩=>⟨I1.GQ,?_⟩) he hpl;exact yr F hr hb hd hx I1 r q
end
structure aw(N P:List Str)(sc:Scope):Prop where
 kind:sc.kind=.function
 co:sc.isCoroutine=false
 gen:sc.isGenerator=false
 nd:N.Nodup
 pre:N.take P.length=P
 par:∀x∈P,sc.names.lookup x=some .local\/sc.names.lookup x=some .cell
 yt:∀y∈sc.names,y.2≠.free
def NX{kindOf:Str->Option NameKind}{x:Str}:∀{binds:List (Str×Value)} {m:Str->Option Value},(∀v,(x,v) ∉ binds)->bindL kindOf binds m x=m x
 |[],_,_=>rfl
 |(n,v) :: r,m,h=>by
  unfold bindL;rw[NX λw hw=>h w (Zag _ hw)];split
  have:x≠n:=by rintro rfl;exact h v Zae
  simp[this];rfl
def NY{kindOf:Str->Option NameKind}{x:Str}:∀{binds:List (Str×Value)} {m:Str->Option Value},(∀v,(x,v) ∉ binds)->bindC kindOf binds m x=m x
 |[],_,_=>rfl
 |(n,v) :: r,m,h=>by
  unfold bindC;rw[NY λw hw=>h w (Zag _ hw)];split;rfl
  have:x≠n:=by rintro rfl;exact h v Zae
  simp[this]
def NZ{kindOf:Str->Option NameKind}{x:Str}{v:Value}:∀{P:List Str} {vs:List Value} {i:Nat} {m:Str->Option Value},P.Nodup->P[i]?=some x->vs[i]?=some v->kindOf x=some .local ->
  bindL kindOf (P.zip vs) m x=some v
 |[],_,_,_,_,h,_,_=>by simp at h
 |_ :: _,[],_,_,_,_,h,_=>by simp at h
 |p :: P,w :: vs,0,m,nd,h1,h2,hk=>by
  simp at h1 h2;subst h1;subst h2;show bindL kindOf ((p,w) :: P.zip vs) m p=_;unfold bindL;rw[NX λv hv=>(Zbc.mp nd).1 (List.of_mem_zip hv).1,if_pos hk];simp
 |p :: P,w :: vs,i+1,m,nd,h1,h2,hk=>by
  show bindL kindOf ((p,w) :: P.zip vs) m x=_;unfold bindL;exact NZ (i:=i) (Zbc.mp nd).2 (by simpa using h1) (by simpa using h2) hk
def N0{kindOf:Str->Option NameKind}{x:Str}{v:Value}:∀{P:List Str} {vs:List Value} {i:Nat} {m:Str->Option Value},P.Nodup->P[i]?=some x->vs[i]?=some v->kindOf x≠some .local ->
  bindC kindOf (P.zip vs) m x=some v
 |[],_,_,_,_,h,_,_=>by simp at h
 |_ :: _,[],_,_,_,_,h,_=>by simp at h
 |p :: P,w :: vs,0,m,nd,h1,h2,hk=>by
  simp at h1 h2;subst h1;subst h2;show bindC kindOf ((p,w) :: P.zip vs) m p=_;unfold bindC;rw[NY λv hv=>(Zbc.mp nd).1 (List.of_mem_zip hv).1,if_neg hk];simp
 |p :: P,w :: vs,i+1,m,nd,h1,h2,hk=>by
  show bindC kindOf ((p,w) :: P.zip vs) m x=_;unfold bindC;exact N0 (i:=i) (Zbc.mp nd).2 (by simpa using h1) (by simpa using h2) hk
abbrev start(N:List Str)(vs:List V):St:=vs.map some ++ List.replicate (N.length-vs.length) none
abbrev fB(CX:sx)(P:Program)(w:World)(K:Zfr)(mg:Str->Option Value)(base:Heap)(N:List Str)(qual:Str)(scope:Scope)(f:Addr)(cd:Value)(A:Around)(outer:List Env)(s:Shared)(H:Hp)(E:XK):Cx where
 prog:=P
 w:=w
 K:=K
 mg:=mg
 base:=base
 A:=A.deeper (envOfC qual scope s.heap.objs.size f cd)
 N:=N
 s₀:=s
 H₀:=H
 env:=envOfC qual scope s.heap.objs.size f cd
 outer:=outer
 stack:=envOfC qual scope s.heap.objs.size f cd :: outer
 ex:=[]
 calm:=true
 fn:=λ_=>true
 pn:=[]
 xe:=λe s'=>wpAny (model P w) (A.deeper (envOfC qual scope s.heap.objs.size f cd)) («leaving» (envOfC qual scope s.heap.objs.size f cd) e) (λ_ s''=>CX outer H s E e s'') (λe' s''=>CX outer H s E e' s'') s'
def N1{sc:Scope}{n:Nat}{x:Str}(h:sc.names.lookup x=some .cell):∃c,(cellsFrom n sc.names []).lookup x=some c:=by have q:=PySem.W.cellsFrom_some sc.names n [] (.inl h);exact ZbW.mp q
def TK{CX:sx}{P:Program}{w:World}{K:Zfr}{mg:Str->Option Value}{base:Heap}{N ps:List Str}{qual:Str}{scope:Scope}{f:Addr}{cd:Value}{A:Around}{outer:List Env}{s s1:Shared}{H:Hp}{E:XK}{us:List Value}{vs:List V}
  (S:aw N ps scope) (hd:A.handled=none) (e0:vg P w K mg base A outer s H) (hl:vs.length=ps.length) (r:Vals vs us)
  (x:InCallC s s.heap.objs.size (bindL (envOfC qual scope s.heap.objs.size f cd).kindOf (ps.zip us) λ_=>none) (cellsFrom (s.heap.objs.size+1) scope.names []) (bindC (envOfC qual scope s.heap.objs.size f cd).kindOf (ps.zip us) λ_=>none) s1) :
  Inv (fB CX P w K mg base N qual scope f cd A outer s H E) [] (start N vs) H s1:=by
 have hpl:ps.length<=N.length:=by have:=congrArg List.length S.pre;rw[Za6]at this;lk
 obtain⟨h1,tk,rfl,hk⟩:=x.done;have CC:∀b:Addr,b ∉ (fB CX P w K mg base N qual scope f cd A outer s H E).ex:=λb z=>absurd (show b∈([]:List Addr)from z) (by simp)
 refine⟨⟨e0.mod,S.kind,rfl,rfl,Zad _,λy z c h1 h2=>?_,λy hy=>?_,λy c _ h=>?_,λ_=>hd,Around.frames_deeper e0.frames,.inr ⟨rfl,rfl⟩,λb z=>absurd z (CC b),e0.bs,e0.wI,λb _ _=>CC b,λb z=>absurd z (CC b),e0.nY,e0.A5⟩,
  rfl,e0.bare,Un.kept hk,⟨_,x.toInCall.ns,λi y v h1 h2 h3=>?_⟩,λy c h=>⟨_,x.cell y c h⟩,e0.hok.fresh (Zad _),λy c h=>?_,λp hp=>absurd (show p∈([]:List (Addr×Obj))from hp) (by simp),e0.hok.kept hk,?_⟩
 exact name_of_addr x.apart (PySem.mem_of_lookup h1) (PySem.mem_of_lookup h2);have hy:scope.names.lookup y=some .cell\/scope.names.lookup y=some .free:=hy;rcases hy with hy|hy
 exact N1 hy;exact absurd rfl (S.yt _ (PySem.mem_of_lookup hy));exact Zbw (x.above y c (PySem.mem_of_lookup h));have hi:i < vs.length:=by
  unfold start at h2;by_cases hi:i<vs.length;exact hi;rw[ZaC (by simpa using hi)]at h2;rw[ZbY]at h2;split at h2<;>cases h2
 have ha:vs[i]?=some v:=by
  unfold start at h2;rw[Zav (by simpa using hi),Zal]at h2;cases e:vs[i]? with
  |none=>rw[e]at h2;cases h2
  |some a=>rw[e]at h2;cases h2;rfl
 obtain⟨u,hu,rv⟩:=r.get ha;have hp:ps[i]?=some y:=by
  rw[<- S.pre,List.getElem?_take_of_lt ⋯];exact h1
 have N2:ps.Nodup:=by rw[<- S.pre];exact S.nd.sublist (List.take_sublist _ _)
 refine⟨u,rv,?_⟩;rcases S.par y (Zak hp)with k|k
 exact .inl ⟨k,NZ N2 hp hu k⟩;obtain⟨c,e⟩:=N1 (n:=s.heap.objs.size+1) k;refine .inr ⟨.inl k,c,e,?_⟩;have q:=x.cell y c e;rw[N0 N2 hp hu (by show scope.names.lookup y≠_;rw[k];decide)]at q;exact q;exact e0.hok.fresh (Zbw (x.above y c (PySem.mem_of_lookup h)));unfold start;show _=N.length;rw[Zaj,Zaa,Zbk];lk
def CD{CX:sx}{P:Program}{w:World}{K:Zfr}{mg:Str->Option Value}{base:Heap}{k:Nat}{f:Addr}{name qual:Str}{params:Arguments}{body:List Stmt}{scope:Scope}{dV kV doc pm cdv ct oc:Value}{an od:Option Addr}
  {osl:Array (Option Value)} {N ps:List Str} {sp:Sp} (lk:K.lookup f=some ⟨oc,od,.func (PySem.W.fnOf name qual params body scope dV kV doc pm an cdv ct),osl⟩) (hcd:PySem.W.codeIn K cdv qual=true) (S:aw N ps scope)
  (len:∀vs H Q E,sp vs H Q E->vs.length=ps.length)
  (hbody:∀(A:Around) (outer:List Env) (s:Shared) (H:Hp) (vs:List V) (Q:VK) (E:XK),iN k (A.deeper (envOfC qual scope s.heap.objs.size f cdv))->sp vs H Q E ->
   ∃t,sr (fB CX P w K mg base N qual scope f cdv A outer s H E) body t/\t { nx:=λ_ H'=>Q .non H',rt:=Q } (start N vs) H) :
  aD P w K mg base CX (k+1) f (PySem.W.fnOf name qual params body scope dV kV doc pm an cdv ct) ps sp:=by
 refine⟨len,λA outer s H args us vs Q E hr e0 hb r uP=>?_⟩;have hl:=len _ _ _ _ uP;have KX:K.In s.heap:=e0.mod.Kg.keeps λb o e=>(e0.bs b o e).1;have lim:s.heap.NoLimit:=e0.mod.nolimit.keeps λb o e=>(e0.bs b o e).1;have hkind:∀y∈ps.zip us,scope.names.lookup y.1=some .local\/(scope.names.lookup y.1=some .cell/\((cellsFrom (s.heap.objs.size+1) scope.names []).lookup y.1).isSome=true):=λ⟨n,v⟩ hy=>by
  rcases S.par n (List.of_mem_zip hy).1 with q|q
  ·exact .inl q
  ·exact .inr ⟨q,PySem.W.cellsFrom_some _ _ _ (.inl q)⟩
 refine codeAny_call_function hr.depth (KX _ _ lk) rfl S.co S.gen rfl (PySem.W.codeRec_of KX hcd) (hb _ _ _ _ ?_);refine wpAny_newFunctionEnv_cells S.kind hkind λenv he s1 x=>?_;subst he;refine⟨lim.keeps x.toInCall.keep,codeAny_func ?_⟩;obtain⟨t,ht,hq⟩:=hbody A outer s H vs Q E (hr.deeper _) uP;have I:Inv (fB CX P w K mg base N qual scope f cdv A outer s H E) [] (start N vs) H s1:=TK S hr.hd e0 hl r x;refine wpAny_mono (ht [] s1 (start N vs) H _ I hq) (λfl s' hs=>?_) λe s' hs=>hs;have fin:∀{σ':St} {H':Hp} {v:V} {u:Value},Inv (fB CX P w K mg base N qual scope f cdv A outer s H E) [] σ' H' s'->RelV v u->Q v H'->CE outer P w H s Q u s' :=
  λ{σ' H' v u} J rv q=>⟨v,H',J.os,J.bare,J.base,J.hok,rv,q⟩
 cases fl with
 |ret u =>
  obtain⟨v,σ',H',J,rv,q⟩:=hs;exact fin J rv q
 |next =>
  obtain⟨σ',H',J,q⟩:=hs;exact fin (v:=V.non) (u:=Value.none) J rfl q
 |brk =>
  obtain⟨_,_,_,q⟩:=hs;exact False.elim q
 |cont =>
  obtain⟨_,_,_,q⟩:=hs;exact False.elim q
section
variable {X:Cx}{x:Str}{p pos:Pos}{e:Expr}{es:List Expr}{t:TA}{id T:String}{r:List V->Hp->VK->Prop}
abbrev Kx(r:List V->Hp->VK->Prop)(t:TA):TE:=λσ H Q=>t σ H λvs H1=>r vs H1 Q
def iq(hc:du X (.builtin id) r)(hg:Gl X x)(hm:X.mg x=none)(hv:bootBuiltins x=some (.builtin id))(ha:PA X (e :: es) t)(hn:x≠"__name__" := by decide)(hdb:(x == ("__debug__" : Str))=false:=by decide)
  (he:starEach (e :: es) X.env=(false,eval e X.env) :: starEach es X.env:=by rfl) (hpl:(backTo pos (starEach es X.env)).any (·.1)=false:=by rfl):PE X (.Call (.Name x p) (e :: es) [] pos) (Kx r t):=by
 intro pins s σ H Q I h;refine wpAny_Call_Name_kw (B8 I hg hm hv ?_ hn hdb);exact PyProof.Rows.callWith_builtin1 (cn (ha pos pins s σ H _ I h) λus s1 ⟨vs,H1,I1,r1,q1⟩=>hc pins s1 σ H1 vs us Q I1 r1 q1) he hpl
def iu(hc:du X (.type T) r)(hg:Gl X x)(hm:X.mg x=none)(hv:bootBuiltins x=some (.type T))(ha:PA X (e :: es) t)(hn:x≠"__name__" := by decide)(hdb:(x == ("__debug__" : Str))=false:=by decide)
  (he:starEach (e :: es) X.env=(false,eval e X.env) :: starEach es X.env:=by rfl) (hpl:(backTo pos (starEach es X.env)).any (·.1)=false:=by rfl):PE X (.Call (.Name x p) (e :: es) [] pos) (Kx r t):=by
 intro pins s σ H Q I h;refine wpAny_Call_Name_kw (B8 I hg hm hv ?_ hn hdb);exact PyProof.Rows.callWith_type1 (cn (ha pos pins s σ H _ I h) λus s1 ⟨vs,H1,I1,r1,q1⟩=>hc pins s1 σ H1 vs us Q I1 r1 q1) he hpl
end
end L2
namespace HT
open PySem PyProof.Rows
def TL(A:Around)(s:Shared)(a:Int)(t:Tok)(c:Int)(u:Tok):∃e,SeqAt.EqAt A s (.int a t) (.int c u) e/\(e=true↔a=c) :=
 ⟨(a == c),SeqAt.EqAt.int_int a t c u,by simp⟩
section
variable {prog:Program}{w:World}{A:Around}{E:Value->Shared->Prop}{s:Shared}
def TM{t b:Addr}{vs ws:List Value}{Q:Value->Shared->Prop}(ht:IsTup s.heap t vs.toArray)(hb:IsTup s.heap b ws.toArray)(hv:vs≠[])
  (h1:ws=[]->Q (.ref t) s) (h2:ws≠[]->Q (.ref s.heap.objs.size) { s with heap:=s.heap.push { cls:=.type "tuple",data:=.seq (vs ++ ws).toArray } })
  (hsz:vs.length+ws.length<=sizeLine):wpAny (model prog w) A (binaryOp .Add (.ref t) (.ref b)) Q E s:=by
 obtain⟨⟨cls,dd,data,sl⟩,ho,hc,n,hd⟩:=id ht;obtain⟨⟨Ky,dd2,data2,sl2⟩,ho2,hc2,n2,hd2⟩:=id hb;simp only at hc hd hc2 hd2;subst hc hd hc2 hd2;have e:vs.toArray ++ ws.toArray=(vs ++ ws).toArray:=by simp
 by_cases hw:ws=[];exact concat_meets ⟨_,ho,rfl⟩ ⟨_,ho2,rfl⟩ noFill_tuple_add seq_tuple_add PySem.F.slot_tuple_add PySem.F.entry_tuple_add (PySem.F.args_tuple_add_2 _ _)
  (tuple_addW1 t b vs.toArray ws.toArray n n2 dd dd2 sl sl2 (by simpa using hv) (by simp[hw])) ⟨ho,ho2,h1 hw⟩
 refine concat_meets ⟨_,ho,rfl⟩ ⟨_,ho2,rfl⟩ noFill_tuple_add seq_tuple_add PySem.F.slot_tuple_add PySem.F.entry_tuple_add (PySem.F.args_tuple_add_2 _ _)
  (tuple_addW2 t b vs.toArray ws.toArray n n2 dd dd2 sl sl2 (by simpa using hv) (by simpa using hw) (by rw[Zam,Zam];exact hsz)) ⟨ho,ho2,?_⟩
 rw[e];exact h2 hw
abbrev cH(n d:Nat):Option Int->Nat
 |none=>d
 |some v=>if v<0 then(v+(n:Int)).toNat else min v.toNat n
def TN(n d:Nat):cH n d none=d:=rfl
def TQ(n d k:Nat):cH n d (some (k:Int))=min k n:=by show(if(k:Int)<0 then((k:Int)+(n:Int)).toNat else min (k:Int).toNat n)=min k n;rw[if_neg ⋯,Zau]
def yu(n d:Nat)(hd:d<=n)(o:Option Int):cH n d o<=n:=by
 cases o with
 |none=>exact hd
 |some v =>
  show(if v<0 then(v+(n:Int)).toNat else min v.toNat n)<=n;by_cases hv:v<0;rw[if_pos hv];lk;rw[if_neg hv];exact Nat.min_le_right _ _
def N3(v:Int)(n d:Nat):(if v<0 then max (v+(n:Int)) 0 else min v (n:Int))=((cH n d (some v):Nat):Int):=by show(if v<0 then max (v+(n:Int)) 0 else min v (n:Int))=(((if v<0 then(v+(n:Int)).toNat else min v.toNat n):Nat):Int);by_cases hv:v<0;simp only[if_pos hv];lk;simp only[if_neg hv];lk
def TR(lo hi:Option Int)(n:Nat):Builtin.Slice.sliceAdjust lo hi 1 (n:Int)=(((cH n 0 lo:Nat):Int),((cH n n hi:Nat):Int)):=by
 have h1:¬((1:Int)<0):=by lk
 unfold Builtin.Slice.sliceAdjust;simp only[h1,if_false];refine Prod.ext ?_ ?_;cases lo with
 |none=>rfl
 |some v=>exact N3 v n 0
 cases hi with
 |none=>rfl
 |some v=>exact N3 v n n
def TU(i j:Nat):Builtin.Slice.slicePlaces (i:Int) (j:Int) 1=j-i:=by
 unfold Builtin.Slice.slicePlaces;have h1:(1:Int) > 0:=by lk
 simp only[h1,if_true,Int.ediv_one];split<;>lk
def N4{v:Value}{o:Option Int}{Q:Option Int->Shared->Prop}(p:IsPart v o)(h:Q o s):wpAny (model prog w) A (Builtin.Slice.slicePartIndex v) Q E s:=by
 cases p with
 |none=>exact slicePart_none h
 |int i t=>exact slicePart_int h
def N5{sl:Addr}{vl vu:Value}{lo hi:Option Int}{n:Nat}{Q:Int×Int×Nat->Shared->Prop}(hs:s.heap.IsSliceOf sl vl vu .none)(pl:IsPart vl lo)(pu:IsPart vu hi)
  (h:Q (((cH n 0 lo:Nat):Int),1,cH n n hi-cH n 0 lo) s):wpAny (model prog w) A (Builtin.Slice.sliceApplied (.ref sl) (pure (n:Int))) Q E s:=by
 obtain⟨os,hos,hcs,hds⟩:=id hs;unfold Builtin.Slice.sliceApplied Builtin.Slice.sliceFields;refine wpAny_bind (wpAny_bind (wpAny_field hos hds (x:=vl) rfl (wpAny_bind (wpAny_field hos hds (x:=vu) rfl (wpAny_bind (wpAny_field hos hds (x:=.none) rfl (wpAny_pure ?_)))))));refine wpAny_bind (slicePart_none ?_);show wpAny _ _ (if((1:Int) == 0)=true then _ else _) _ _ s;rw[if_neg ∅];refine wpAny_bind (N4 pl (wpAny_bind (N4 pu (wpAny_bind (wpAny_pure ?_)))));show wpAny _ _ (match Builtin.Slice.sliceAdjust lo hi 1 (n:Int)with|(lo,hi)=>pure (lo,(1:Int),Builtin.Slice.slicePlaces lo hi 1)) _ _ s;rw[TR lo hi n];show wpAny _ _ (pure (((cH n 0 lo:Nat):Int),(1:Int),Builtin.Slice.slicePlaces ((cH n 0 lo:Nat):Int) ((cH n n hi:Nat):Int) 1)) _ _ s;rw[TU];exact wpAny_pure h
def TV(xs:Array Value)(i k:Nat):((List.range k).filterMap λ(m:Nat)=>xs[((i:Int)+(m:Int)*1).toNat]?).toArray=((xs.toList.drop i).take k).toArray:=by
 have e:(λ(m:Nat)=>xs[((i:Int)+(m:Int)*1).toNat]?)=λm=>xs[i+m]?:=by
  funext m
  have:((i:Int)+(m:Int)*1).toNat=i+m:=by lk
  rw[this]
 rw[e];have:=pick_run xs i k;rw[List.filterMap_map]at this;have e2:((λx=>xs[x]?) ∘ λx=>i+x)=λm=>xs[i+m]?:=rfl;rw[e2]at this;rw[this]
def TX{t sl:Addr}{items:Array Value}{vl vu:Value}{lo hi:Option Int}{Q:Value->Shared->Prop}(ht:IsTup s.heap t items)(hs:s.heap.IsSliceOf sl vl vu .none)(pl:IsPart vl lo)(pu:IsPart vu hi)
  (hw:¬(cH items.size 0 lo=0/\cH items.size items.size hi=items.size))
  (h:Q (.ref s.heap.objs.size) { s with heap:=s.heap.push { cls:=.type "tuple",data:=.seq ((items.toList.drop (cH items.size 0 lo)).take (cH items.size items.size hi-cH items.size 0 lo)).toArray } })
  (hsz:items.size<=sizeLine):wpAny (model prog w) A (getItem (.ref t) (.ref sl)) Q E s:=by
 have rg:sizeOk (.seq ((items.toList.drop (cH items.size 0 lo)).take (cH items.size items.size hi-cH items.size 0 lo)).toArray):=by
  show((items.toList.drop (cH items.size 0 lo)).take (cH items.size items.size hi-cH items.size 0 lo)).toArray.size<=sizeLine;rw[Zam,Za6,List.length_drop,Zbi];lk
 have hj:cH items.size items.size hi<=items.size:=yu _ _ (Zad _) hi;obtain⟨os,hos,hcs,hds⟩:=id hs;have Kz:s.TypeIs (.ref sl) "slice" := ⟨os,hos,hcs⟩;unfold getItem
 try with_reducible refine wpAny_holding ?_
 first|refine wpAny_bind (wpAny_pure ?_)|skip
 refine wpAny_bind (wpAny_sequenceKey ht.typeIs ∅ ?_)
 refine wpAny_bind (wpAny_callSpecial?_slot (name:=Str.ofString "__getitem__") ht.typeIs PyProof.Rows.slot_tuple_getitem
  (wpAny_call_entry PyProof.Rows.slot_tuple_getitem ht.typeIs entry_tuple_getitem ?_ (args_tuple_getitem _ _)))
 show wpAny _ _ (Builtin.Tuple.tupleItemsOf (.ref t) >>= _) _ _ s;refine wpAny_bind (tupleItemsOf_ ht ?_);refine wpAny_bind (wpAny_typeOf Kz ?_);rw[if_pos ∅];refine wpAny_bind (N5 hs pl pu ?_);have hno:¬((((cH items.size 0 lo:Nat):Int) == 0 && (1:Int) == 1 && (cH items.size items.size hi-cH items.size 0 lo) == items.size)=true):=by
  intro q;rw[ZaD,ZaD]at q;have q1:((cH items.size 0 lo:Nat):Int)=0:=eq_of_beq q.1.1;have q2:cH items.size items.size hi-cH items.size 0 lo=items.size:=eq_of_beq q.2;exact hw ⟨by lk,by lk⟩
 show wpAny _ _ (if(((cH items.size 0 lo:Nat):Int) == 0 && (1:Int) == 1 && (cH items.size items.size hi-cH items.size 0 lo) == items.size)=true then _ else _) _ _ s;rw[if_neg hno,TV]
 first
  |exact wpAny_bind (m:=Builtin.Tuple.tupleExact _) (wpAny_newObj_type (wpAny_pure ⟨_,rfl,wpAny_pure h⟩) rg)
  |exact wpAny_bind (m:=Builtin.Tuple.tupleExact _) (wpAny_newObj_type (wpAny_bind (wpAny_pure (wpAny_pure ⟨_,rfl,wpAny_pure h⟩))) rg)
  |exact wpAny_bind (wpAny_bind (m:=Builtin.Tuple.tupleExact _) (wpAny_newObj_type (wpAny_pure (wpAny_pure ⟨_,rfl,wpAny_pure h⟩)) rg))
  |exact wpAny_bind (wpAny_bind (m:=Builtin.Tuple.tupleExact _) (wpAny_newObj_type (wpAny_pure ⟨_,rfl,wpAny_pure h⟩) rg))
end
end HT
namespace L2
open PySem PySem.Spec PyProof.Rows
@[reducible]def TO:=St->Hp->(Option Int->Hp->Prop)->Prop
abbrev PO(X:Cx)(e:Option Expr)(t:TO):Prop :=
 ∀(pins:List (Addr×Obj)) (s:Shared) (σ:St) (H:Hp) (Q:Option Int->Hp->Prop),Inv X pins σ H s->t σ H Q ->
  wpAny (model X.prog X.w) X.A (evalPart e X.env) (λu s'=>∃o H',Inv X pins σ H' s'/\IsPart u o/\Q o H') X.xe s
abbrev rh:TO:=λ_ H Q=>Q none H
abbrev wW(t:TE):TO:=λσ H Q=>t σ H λx H1=>∃i,x=.int i/\Q (some i) H1
def N6{ns:List Int}:∀{us:List Value},Vals (ns.map V.int) us->IntsAre us ns:=by
 induction ns with
 |nil=>intro us r;rw[ZaZ]at r;cases r;exact .nil
 |cons n ns ih =>
  intro us r;rw[Zay]at r;cases r with
  |cons r1 r2 =>
   obtain⟨t,e⟩:=r1;subst e;exact .cons n t (ih r2)
section
variable {X:Cx}{e:Expr}{te:TE}{lo hi:Option Expr}{tl th:TO}{pos p2:Pos}
def GZ:PO X none rh:=by intro pins s σ H Q I h;rw[evalPart_none];exact wpAny_pure ⟨none,H,I,.none,h⟩
def G0(h:PE X e te):PO X (some e) (wW te):=by intro pins s σ H Q I hw;rw[evalPart_some];refine cn (h pins s σ H _ I hw) λu s1 ⟨x,H1,I1,r1,q1⟩=>?_;obtain⟨i,rfl,q⟩:=q1;obtain⟨t,rfl⟩:=r1;exact⟨some i,H1,I1,.int i t,q⟩
abbrev G1(X:Cx)(r:V->Option Int->Option Int->Hp->VK->Prop):Prop :=
 ∀(pins:List (Addr×Obj)) (s:Shared) (σ:St) (H:Hp) (x:V) (v vl vu:Value) (lo hi:Option Int) (sl:Addr) (Q:VK),Inv X pins σ H s->RelV x v->s.heap.IsSliceOf sl vl vu .none->IsPart vl lo->IsPart vu hi->r x lo hi H Q ->
  ∃T id,typeLookup (.type T) "__getitem__" = pure (some (.builtin id))/\s.TypeIs v T/\wpAny (model X.prog X.w) X.A (getItem v (.ref sl)) (EP X pins σ Q) X.xe s
abbrev N7(r:V->Option Int->Option Int->Hp->VK->Prop)(te:TE)(tl th:TO):TE:=λσ H Q=>te σ H λx H1=>tl σ H1 λl H2=>th σ H2 λu H3=>r x l u H3 Q
def G2{r:V->Option Int->Option Int->Hp->VK->Prop}(hr:G1 X r)(he:PE X e te)(hl:PO X lo tl)(hu:PO X hi th):PE X (.Subscript e (.Slice lo hi none p2) pos) (N7 r te tl th):=by intro pins s σ H Q I h;refine Subscript_ (cn (he pins s σ H _ I h) λv s1 ⟨x,H1,I1,r1,q1⟩=>?_);refine wpAny_Slice (cn (hl pins s1 σ H1 _ I1 q1) λvl s2 ⟨l,H2,I2,pl,q2⟩=>cn (hu pins s2 σ H2 _ I2 q2) λvu s3 ⟨u,H3,I3,pu,q3⟩=>?_);rw[evalPart_none];refine wpAny_pure ?_;have I4:Inv X pins σ H3 { s3 with heap:=s3.heap.push { cls:=.type "slice",data:=.fields #[vl,vu,.none] } }:=I3.kept (t':=s3.toks) λb ob q=>Zai _ q;obtain⟨T,id,hT,ht,hg⟩:=hr pins { s3 with heap:=s3.heap.push { cls:=.type "slice",data:=.fields #[vl,vu,.none] } } σ H3 x v vl vu l u s3.heap.objs.size Q I4 r1 (Heap.IsSliceOf.new ..) pl pu q3;show wpAny (model X.prog X.w) X.A (subscriptTail e (.Slice lo hi none p2) v (.ref s3.heap.objs.size)) (EP X pins σ Q) X.xe { s3 with heap:=s3.heap.push { cls:=.type "slice",data:=.fields #[vl,vu,.none] } };exact tail_any (ops:=[.ref s3.heap.objs.size,v]) ht hT hg (by with_unfolding_all rfl)
abbrev n5(xs:List V)(lo hi:Option Int):List V:=(xs.drop (HT.cH xs.length 0 lo)).take (HT.cH xs.length xs.length hi-HT.cH xs.length 0 lo)
def N8(xs:List V)(lo hi:Option Int):(n5 xs lo hi).length<=xs.length:=by unfold n5;rw[Za6,List.length_drop];lk
abbrev KA(K:Zfr):V->Option Int->Option Int->Hp->VK->Prop:=λx lo hi H Q=>∃a xs,x=.ref a/\eQ K H a xs /\
 ¬(HT.cH xs.length 0 lo=0/\HT.cH xs.length xs.length hi=xs.length)/\∀p,H p=none->Q (.ref p) (upd H p (.tup (n5 xs lo hi)))
def yw:G1 X (KA X.K):=by
 intro pins s σ H x v vl vu lo hi sl Q I rx hs pl pu h;obtain⟨a,xs,rfl,hx,hw,q⟩:=h;cases rx;obtain⟨its,r,ht,hz⟩:=I.tuple hx;have hlen:its.toArray.size=xs.length:=by rw[Zam];exact r.length.symm
 refine⟨"tuple",_,PyProof.Rows.slot_tuple_getitem.lookup,ht.typeIs,?_⟩;refine HT.TX ht hs pl pu (by rw[hlen];exact hw) ?_ (by rw[hlen];exact hz);rw[hlen];refine⟨.ref s.heap.objs.size,_,I.laid (t':=s.toks) (o:=.tup (n5 xs lo hi)) (λb ob q=>Zai _ q) (Zad _) ?_,rfl,q _ (I.hok.fresh (Zad _))⟩;exact⟨Zap (N8 xs lo hi) hz,_,(r.drop (HT.cH xs.length 0 lo)).take (HT.cH xs.length xs.length hi-HT.cH xs.length 0 lo),oG.new _ _⟩
abbrev CF(K:Zfr):R2:=λx y H Q=>∃a b xs ys,x=.ref a/\y=.ref b/\eQ K H a xs/\eQ K H b ys/\xs≠[]/\xs.length+ys.length<=sizeLine /\
 (ys=[]->Q (.ref a) H)/\(ys≠[]->∀p,H p=none->Q (.ref p) (upd H p (.tup (xs ++ ys))))
def Vals.nH{xs:List V}{us:List Value}(r:Vals xs us):us=[]↔xs=[]:=by
 cases r with
 |nil=>simp
 |cons _ _=>simp
def TY:lA X (binaryOp .Add) (CF X.K):=by intro pins s σ H x y v u Q I rx ry h;obtain⟨a,b,xs,ys,rfl,rfl,ha,hb,hx,hz,q1,q2⟩:=h;cases rx;cases ry;obtain⟨its,r1,p1,_⟩:=I.tuple ha;obtain⟨its2,r2,p2,_⟩:=I.tuple hb;refine HT.TM p1 p2 (λz=>hx (r1.nH.mp z)) (λz=>⟨.ref a,H,I,rfl,q1 (r2.nH.mp z)⟩) (λz=>?_) (by rw[<- r1.length,<- r2.length];exact hz);refine⟨.ref s.heap.objs.size,_,I.laid (t':=s.toks) (o:=.tup (xs ++ ys)) (λb ob q=>Zai _ q) (Zad _) ?_,rfl,q2 (λw=>z (r2.nH.mpr w)) _ (I.hok.fresh (Zad _))⟩;exact⟨by rw[Zaj];exact hz,_,r1.append r2,oG.new _ _⟩
end
abbrev mH(n:Nat)(i:Int):Option Nat:=if 0<=i then(if i<n then some i.toNat else none)else if -(n:Int)<=i then some (i+n).toNat else none
abbrev gH{α:Type}(xs:List α)(i:Int):Option α:=(mH xs.length i).bind λj=>xs[j]?
def KC{n:Nat}{i:Int}{j:Nat}(h:mH n i=some j):seqIndex? i n=some j/\j<n/\-(n:Int)<=i/\i<n:=by unfold mH at h;by_cases h0:0<=i;rw[if_pos h0]at h;by_cases h1:i<n;rw[if_pos h1]at h;have e:i.toNat=j:=Zaq h;exact⟨by rw[seqIndex_of h0 h1,e],by lk,by lk,h1⟩;rw[if_neg h1]at h;cases h;rw[if_neg h0]at h;by_cases h1:-(n:Int)<=i;rw[if_pos h1]at h;have e:(i+n).toNat=j:=Zaq h;exact⟨by rw[seqIndex_neg ⋯ h1,e],by lk,h1,by lk⟩;rw[if_neg h1]at h;cases h
def N9{α:Type}{xs:List α}{i:Int}{v:α}(h:gH xs i=some v):∃j,seqIndex? i xs.length=some j/\xs[j]?=some v/\j<xs.length/\-(xs.length:Int)<=i/\i<xs.length:=by
 unfold gH at h;cases e:mH xs.length i with
 |none=>rw[e]at h;cases h
 |some j =>
  rw[e]at h;obtain⟨h1,h2,h3,h4⟩:=KC e;exact⟨j,h1,h,h2,h3,h4⟩
def uQ{α:Type}{xs:List α}{j:Nat}{v:α}(h:xs[j]?=some v):gH xs (j:Int)=some v:=by
 have hj:j<xs.length:=(Zac.mp h).1;have e:mH xs.length (j:Int)=some j:=by
  unfold mH;rw[if_pos ⋯,if_pos ⋯];simp
 unfold gH;rw[e];exact h
abbrev vh(b:Expr):Prop:=∀o i,subscripted b false o i=operate [o,i] (getItem o i)
abbrev G3(X:Cx)(r:R2):Prop :=
 ∀(value slice:Expr) (pins:List (Addr×Obj)) (s:Shared) (σ:St) (H:Hp) (x y:V) (v u:Value) (Q:VK),Inv X pins σ H s->RelV x v->RelV y u->r x y H Q ->
  subscripted slice false v u=operate [v,u] (getItem v u)->wpAny (model X.prog X.w) X.A (subscriptTail value slice v u) (EP X pins σ Q) X.xe s
abbrev CG(X:Cx)(id:String)(r:V->List V->Hp->VK->Prop):Prop :=
 ∀(pins:List (Addr×Obj)) (s:Shared) (σ:St) (H:Hp) (x:V) (xs:List V) (v:Value) (us:List Value) (Q:VK),Inv X pins σ H s->RelV x v->Vals xs us->r x xs H Q ->
  wpAny (model X.prog X.w) X.A (call (.builtin id) (v :: us)) (EP X pins σ Q) X.xe s
section
variable {X:Cx}{a b:Expr}{ta tb:TE}{pos:Pos}
def CH{r:R2}(hr:G3 X r)(ha:PE X a ta)(hb:PE X b tb)(hs:vh b):PE X (.Subscript a b pos) (Cq r ta tb):=by intro pins s σ H Q I h;exact Subscript_ (yp ha hb I h λv u s2 x y H2 I2 rx ry q=>hr a b pins s2 σ H2 x y v u Q I2 rx ry q (hs _ _))
abbrev CI(K:Zfr):R2:=λx y H Q=>∃p xs i v,x=.ref p/\y=.int i/\iL K H p xs/\gH xs i=some v/\Q v H
abbrev yx(K:Zfr):R2:=λx y H Q=>∃p xs i v,x=.ref p/\y=.int i/\eQ K H p xs/\gH xs i=some v/\Q v H
def pT:G3 X (CI X.K):=by
 intro value slice pins s σ H x y v u Q I rx ry h hs;obtain⟨p,xs,i,z,rfl,rfl,hq,he,q⟩:=h;cases rx;obtain⟨t,rfl⟩:=ry;obtain⟨its,r,pl,hz⟩:=I.list hq;obtain⟨j,h1,h2,h3,h4,h5⟩:=N9 he;obtain⟨w,ew,rw'⟩:=r.get h2;have hl:=r.length;have hn:=lB;have fin:EP X pins σ Q w s:=⟨z,H,I,rw',q⟩;by_cases h0:0<=i;have hj:i.toNat=j:=by
  rw[seqIndex_of h0 h5]at h1;exact Zaq h1
 exact item_listR pl.isList h0 ⋯ (by rw[hj];simpa using ew) fin hs;have hj:(i + (its.toArray.size:Int)).toNat=j:=by
  rw[seqIndex_neg ⋯ h4]at h1;rw[Zam,<- hl];exact Zaq h1
 exact subscriptTail_builtinR (x:=w) pl.isList.typeIs slot_list_getitem.lookup
  (wpAny_getItem_list_neg (Q:=λr s'=>r=w/\EP X pins σ Q r s') pl.isList ⋯ (by rw[Zam]<;>lk) ⋯ (by rw[hj];simpa using ew) ⟨rfl,fin⟩) hs
def bT:G3 X (yx X.K):=by
 intro value slice pins s σ H x y v u Q I rx ry h hs;obtain⟨p,xs,i,z,rfl,rfl,hq,he,q⟩:=h;cases rx;obtain⟨t,rfl⟩:=ry;obtain⟨its,r,pl,hz⟩:=I.tuple hq;obtain⟨j,h1,h2,h3,h4,h5⟩:=N9 he;obtain⟨w,ew,rw'⟩:=r.get h2;have hl:=r.length;have hn:=lB;have fin:EP X pins σ Q w s:=⟨z,H,I,rw',q⟩;exact subscriptTail_builtinR (x:=w) pl.typeIs slot_tuple_getitem.lookup
  (getItem_tuple (j:=j) (Q:=λr s'=>r=w/\EP X pins σ Q r s') pl ⋯ ⋯ (by rw[Zam,<- hl];exact h1) (by simpa using ew) ⟨rfl,fin⟩) hs
def T1(its:List Value)(n j:Nat)(u:Value):Obj.mapSeq (·.setIfInBounds j u) { cls:=.type "list",data:=.seq its.toArray n }={ cls:=.type "list",data:=.seq (its.set j u).toArray n }:=by simp[Obj.mapSeq]
def Inv.lst{pins:List (Addr×Obj)}{σ:St}{H:Hp}{s:Shared}{p:Addr}{xs:List V}(I:Inv X pins σ H s)(h:H p=some (.lst xs)):
  ∃(its:List Value) (n:Nat),Vals xs its/\s.heap.get? p=some { cls:=.type "list",data:=.seq its.toArray n }/\xs.length<=sizeLine:=by
 obtain⟨z,its,n,r,e⟩:=I.hok p _ h;exact⟨its,n,r,e,z⟩
def Inv.yy{pins:List (Addr×Obj)}{σ:St}{H:Hp}{s:Shared}{p:Addr}{xs ys:List V}{its its':List Value}{n n':Nat}{f:Obj->Obj}(I:Inv X pins σ H s)(h:H p=some (.lst xs))
  (ho:s.heap.get? p=some { cls:=.type "list",data:=.seq its.toArray n }) (hf:f { cls:=.type "list",data:=.seq its.toArray n }={ cls:=.type "list",data:=.seq its'.toArray n' }) (r:Vals ys its') (hz:ys.length<=sizeLine) (t:Nat) :
  Inv X pins σ (upd H p (.lst ys)) { s with heap:=s.heap.update p f,toks:=t }:=by
 have e:(s.heap.update p f).get? p=some { cls:=.type "list",data:=.seq its'.toArray n' }:=by
  rw[Zby f ho (by rw[hf]<;>rfl),hf]
 refine I.write (x:=p) (e:=p) (by rw[h];trivial) (.inl rfl) (λb u hb q=>(ZaV _ _ (Ne.symm hb)).trans q) ⟨_,e⟩ ?_;exact⟨hz,its',n',r,e⟩
abbrev wX:V->V->V->Hp->(Hp->Prop)->Prop:=λo i v H Q=>∃p xs k j,o=.ref p/\i=.int k/\H p=some (.lst xs)/\mH xs.length k=some j/\Q (upd H p (.lst (xs.set j v)))
def Bc:Cg X wX:=by
 intro pins s σ H o i v ov iv u Q I ro ri rv h;obtain⟨p,xs,k,j,rfl,rfl,hp,hj,q⟩:=h;cases ro;obtain⟨t,rfl⟩:=ri;obtain⟨its,n,r,ho,hz⟩:=I.lst hp;obtain⟨h1,h2,h3,h4⟩:=KC hj;have hl:=r.length;have hn:=lB;have I':Inv X pins σ (upd H p (.lst (xs.set j v))) { s with heap:=s.heap.update p (Obj.mapSeq (·.setIfInBounds j u)) } :=
  I.yy hp ho (T1 its n j u) (r.set rv j) (by rw[Zbj];exact hz) s.toks
 by_cases h0:0<=k;have hk:k.toNat=j:=by
  rw[seqIndex_of h0 h4]at h1;exact Zaq h1
 exact PySem.W.ki_setAt ho h0 ⋯ (by rw[Zam,<- hl];exact h4) (by rw[hk];exact⟨_,I',q⟩);have hk:(k + (its.toArray.size:Int)).toNat=j:=by
  rw[seqIndex_neg ⋯ h3]at h1;rw[Zam,<- hl];exact Zaq h1
 exact PySem.W.ki_setBack ho ⋯ (by rw[Zam,<- hl];exact h3) ⋯ (by rw[hk];exact⟨_,I',q⟩)
def T2(lo hi:Option Int)(n:Nat):(sliceBounds lo hi none n).1=((HT.cH n 0 lo:Nat):Int)/\(sliceBounds lo hi none n).2.1=((HT.cH n n hi:Nat):Int)/\(sliceBounds lo hi none n).2.2=1:=by
 refine⟨?_,?_,rfl⟩;cases lo with
 |none=>simp[sliceBounds,HT.cH]
 |some i =>
  simp only[sliceBounds,HT.cH,Option.getD_none,show(1:Int) > 0 by decide,if_true];by_cases h:i<0;simp only[h,if_true]<;>lk;simp only[h,if_false]<;>lk
 cases hi with
 |none=>simp[sliceBounds,HT.cH]
 |some i =>
  simp only[sliceBounds,HT.cH,Option.getD_none,show(1:Int) > 0 by decide,if_true];by_cases h:i<0;simp only[h,if_true]<;>lk;simp only[h,if_false]<;>lk
def T3(its:List Value)(lo hi:Option Int):slicePick its.toArray lo hi none=((its.drop (HT.cH its.length 0 lo)).take (HT.cH its.length its.length hi-HT.cH its.length 0 lo)).toArray:=by obtain⟨h1,h2,h3⟩:=T2 lo hi its.toArray.size;unfold slicePick;rw[h1,h2,h3];simp only[sliceRange_one,pick_run,Zam]<;>rfl
abbrev CJ(K:Zfr):V->Option Int->Option Int->Hp->VK->Prop:=λx lo hi H Q=>∃a xs,x=.ref a/\iL K H a xs/\∀p,H p=none->Q (.ref p) (upd H p (.lst (n5 xs lo hi)))
def Oa:G1 X (CJ X.K):=by intro pins s σ H x v vl vu lo hi sl Q I rx hs pl pu h;obtain⟨a,xs,rfl,hx,q⟩:=h;cases rx;obtain⟨its,r,ht,hz⟩:=I.list hx;have hlen:=r.length;refine⟨"list",_,slot_list_getitem.lookup,ht.isList.typeIs,?_⟩;refine wpAny_getItem_list_slice ht.isList hs pl pu .none (by simp) ?_ (by rw[Zam]<;>lk);rw[T3,<- hlen];refine⟨.ref s.heap.objs.size,_,I.laid (t':=s.toks) (o:=.lst (n5 xs lo hi)) (λb ob q=>Zai _ q) (Zad _) ?_,rfl,q _ (I.hok.fresh (Zad _))⟩;exact⟨Zap (N8 xs lo hi) hz,_,0,(r.drop (HT.cH xs.length 0 lo)).take (HT.cH xs.length xs.length hi-HT.cH xs.length 0 lo),Zar _ rfl⟩
abbrev lh:V->Bool
 |.non=>true
 |.bl _=>true
 |.int _=>true
 |.str _=>true
 |_=>false
abbrev wY:V->V->Bool
 |.non,.non=>true
 |.bl a,.bl b=>a == b
 |.bl a,.int b=>(if a then 1 else 0) == b
 |.int a,.bl b=>a == (if b then 1 else 0)
 |.int a,.int b=>a == b
 |.str a,.str b=>a == b
 |_,_=>false
def yz{A:Around}{s:Shared}{y x:V}{u v:Value}(ry:RelV y u)(rx:RelV x v)(fy:lh y=true)(fx:lh x=true):SeqAt.EqAt A s u v (wY y x):=by
 cases y with
 |non =>
  cases ry;cases x with
  |non=>cases rx;exact SeqAt.EqAt.same _
  |bl b=>cases rx;exact SeqAt.EqAt.none_bool b
  |int b=>obtain⟨t,rfl⟩:=rx;exact SeqAt.EqAt.none_int b t
  |str b=>obtain⟨t,rfl⟩:=rx;exact SeqAt.EqAt.none_str b t
  |_=>exact absurd (show false=true from fx) Zan
 |bl a =>
  cases ry;cases x with
  |non=>cases rx;exact SeqAt.EqAt.bool_none a
  |bl b=>cases rx;exact SeqAt.EqAt.bool_bool a b
  |int b=>obtain⟨t,rfl⟩:=rx;exact SeqAt.EqAt.bool_int a b t
  |str b=>obtain⟨t,rfl⟩:=rx;exact SeqAt.EqAt.bool_str a b t
  |_=>exact absurd (show false=true from fx) Zan
 |int a =>
  obtain⟨t',rfl⟩:=ry;cases x with
  |non=>cases rx;exact SeqAt.EqAt.int_none a t'
  |bl b=>cases rx;exact SeqAt.EqAt.int_bool a t' b
  |int b=>obtain⟨t,rfl⟩:=rx;exact SeqAt.EqAt.int_int a t' b t
  |str b=>obtain⟨t,rfl⟩:=rx;exact SeqAt.EqAt.int_str a t' b t
  |_=>exact absurd (show false=true from fx) Zan
 |str a =>
  obtain⟨t',rfl⟩:=ry;cases x with
  |non=>cases rx;exact SeqAt.EqAt.str_none a t'
  |bl b=>cases rx;exact SeqAt.EqAt.str_bool a t' b
  |int b=>obtain⟨t,rfl⟩:=rx;exact SeqAt.EqAt.str_int a t' b t
  |str b=>obtain⟨t,rfl⟩:=rx;exact SeqAt.EqAt.str_str a t' b t
  |_=>exact absurd (show false=true from fx) Zan
 |_=>exact absurd (show false=true from fy) Zan
abbrev vk(x:V)(u:Value):Bool:=match u with
 |.none=>wY .non x
 |.bool b=>wY (.bl b) x
 |.int i _=>wY (.int i) x
 |.str z _=>wY (.str z) x
 |_=>false
def Ob{x y:V}{u:Value}(r:RelV y u)(f:lh y=true):vk x u=wY y x:=by
 cases y with
 |non=>cases r;rfl
 |bl b=>cases r;rfl
 |int i=>obtain⟨t,rfl⟩:=r;rfl
 |str z=>obtain⟨t,rfl⟩:=r;rfl
 |_=>exact absurd (show false=true from f) Zan
def KD{x:V}:∀{xs:List V} {us:List Value},Vals xs us->xs.all lh=true->us.any (vk x)=xs.any λy=>wY y x
 |_,_,.nil,_=>rfl
 |y :: xs,u :: us,.cons r t,f=>by
  rw[List.all_cons,ZaD]at f;rw[Zbp,Zbp,Ob r f.1,KD t f.2]
def KG{A:Around}{s:Shared}{x:V}{v:Value}(rx:RelV x v)(fx:lh x=true):∀{xs:List V} {us:List Value},Vals xs us->xs.all lh=true->∀u∈us,SeqAt.EqAt A s u v (vk x u)
 |_,_,.nil,_=>λu hu=>by cases hu
 |y :: xs,u :: us,.cons r t,f=>λu' hu=>by
  rw[List.all_cons,ZaD]at f;rcases ZaA.mp hu with rfl|hu
  rw[Ob r f.1];exact yz r rx f.1 fx;exact KG rx fx t f.2 u' hu
abbrev wZ(x:V)(xs:List V):Bool:=xs.any λy=>wY y x
abbrev KH(K:Zfr)(neg:Bool):R2:=λx y H Q=>∃p xs,y=.ref p/\(iL K H p xs\/eQ K H p xs)/\lh x=true/\xs.all lh=true/\Q (.bl (if neg then !wZ x xs else wZ x xs)) H
def G4:lA X (compareOp .NotIn) (KH X.K true):=by
 intro pins s σ H x y v u Q I rx ry h;obtain⟨p,xs,rfl,hq,fx,fs,q⟩:=h;cases ry;rcases hq with hq|hq
 obtain⟨its,r,pl,hz⟩:=I.list hq;refine SeqAt.notIn_listAt (vk x) pl.isList (λw hw=>KG rx fx r fs w (by simpa using hw)) ⟨.bl _,H,I,rfl,?_⟩;rw[show its.toArray.any (vk x)=its.any (vk x) by simp,KD r fs];exact q;obtain⟨its,r,pl,hz⟩:=I.tuple hq;refine SeqAt.notIn_tupleAt (vk x) pl (λw hw=>KG rx fx r fs w (by simpa using hw)) ⟨.bl _,H,I,rfl,?_⟩;rw[show its.toArray.any (vk x)=its.any (vk x) by simp,KD r fs];exact q
def nI:du X (.builtin "len") (λxs H Q=>∃p ys,xs=[.ref p]/\(iL X.K H p ys\/eQ X.K H p ys)/\Q (.int ys.length) H):=by
 intro pins s σ H xs us Q I r h;obtain⟨p,ys,rfl,hq,q⟩:=h;obtain⟨u,rfl,rx⟩:=vals1 r;cases rx;have hn:=lB;rcases hq with hq|hq
 obtain⟨its,r',pl,hz⟩:=I.list hq;have hlen:=r'.length;exact Calls.call_len_list pl.isList (by simp only[Zam]<;>lk) ⟨.int ys.length,H,I.tok _,⟨s.toks+1,by rw[Zam,hlen]⟩,q⟩;obtain⟨its,r',pl,hz⟩:=I.tuple hq;have hlen:=r'.length;exact len_tuple pl (by simp only[Zam]<;>lk) ⟨.int ys.length,H,I.tok _,⟨s.toks+1,by rw[Zam,hlen]⟩,q⟩
def T5:du X (.builtin "len") (λxs H Q=>∃z,xs=[.str z]/\z.length<=sizeLine/\Q (.int z.length) H):=by intro pins s σ H xs us Q I r h;obtain⟨z,rfl,hz,q⟩:=h;obtain⟨u,rfl,t,rfl⟩:=vals1 r;have hn:=lB;exact len_str ⋯ ⟨.int z.length,H,I.tok _,⟨_,rfl⟩,q⟩
def G5:du X (.type "list") (λxs H Q=>∃p ys,xs=[.ref p]/\(iL X.K H p ys\/eQ X.K H p ys)/\∀l,H l=none->Q (.ref l) (upd H l (.lst ys))):=by
 intro pins s σ H xs us Q I r h;obtain⟨p,ys,rfl,hq,q⟩:=h;obtain⟨u,rfl,rx⟩:=vals1 r;cases rx;have fin:∀ (its:List Value),Vals ys its->ys.length<=sizeLine->∀ (h':Heap) (c':Nat),(∀ b o',s.heap.get? b=some o'->h'.get? b=some o') ->
   h'.get? s.heap.objs.size=some { cls:=.type "list",dict:=none,data:=.seq its.toArray c',slots:=#[] }->EP X pins σ Q (.ref s.heap.objs.size) { s with heap:=h' }:=λits r' hz h' c' kp e =>
  ⟨.ref s.heap.objs.size,_,I.laid (t':=s.toks) kp (Zad _) (show cu X.prog X.w _ h' _ (.lst ys)from⟨hz,its,c',r',e⟩),rfl,q _ (I.hok.fresh (Zad _))⟩
 rcases hq with hq|hq
 obtain⟨its,r',pl,hz⟩:=I.list hq;have hlen:=r'.length;obtain⟨o,ho,hc,n,hd⟩:=pl.isList;exact call_list_seq p (.inl rfl) ho hc hd (λh' c' kp e=>fin its r' hz h' c' kp e) (by simp only[Zam]<;>lk);obtain⟨its,r',pl,hz⟩:=I.tuple hq;have hlen:=r'.length;obtain⟨o,ho,hc,n,hd⟩:=pl;exact call_list_seq p (.inr rfl) ho hc hd (λh' c' kp e=>fin its r' hz h' c' kp e) (by simp only[Zam]<;>lk)
def o5:du X (.type "tuple") (λxs H Q=>∃p ys,xs=[.ref p]/\((iL X.K H p ys/\∀l,H l=none->Q (.ref l) (upd H l (.tup ys)))\/(eQ X.K H p ys/\Q (.ref p) H))):=by
 intro pins s σ H xs us Q I r h;obtain⟨p,ys,rfl,h⟩:=h;obtain⟨u,rfl,rx⟩:=vals1 r;cases rx;rcases h with⟨hq,q⟩|⟨hq,q⟩
 obtain⟨its,r',pl,hz⟩:=I.list hq;have hlen:=r'.length;refine call_tuple_list pl.isList (λh' kp=>?_) (by simp only[Zam]<;>lk);have I1:Inv X pins σ H { s with heap:=h' }:=I.kept (t':=s.toks) kp;have I2:Inv X pins σ (upd H h'.objs.size (.tup ys)) { s with heap:=h'.push { cls:=.type "tuple",data:=.seq its.toArray } } :=
  I1.laid (t':=s.toks) (λb o e=>Zai _ e) (Zad _) (show cu X.prog X.w _ _ _ (.tup ys)from⟨hz,its,r',oG.new _ _⟩)
 exact⟨.ref h'.objs.size,_,I2,rfl,q _ (I1.hok.fresh (Zad _))⟩;obtain⟨its,r',pl,hz⟩:=I.tuple hq;exact call_tuple_same pl ⟨.ref p,H,I,rfl,q⟩
abbrev KI(K:Zfr)(T:String)(x:V)(H:Hp):Prop:=match x with
 |.str _=>T="str"
 |.int _=>T="int"
 | .ref p=>(T="list" /\ ∃ xs,iL K H p xs)\/(T="tuple" /\ ∃ xs,eQ K H p xs) \/
   (T="dict" /\ ((∃kvs,H p=some (.dK kvs))\/∃kvs,H p=some (.dT kvs)))\/(T="set" /\ ∃S n,H p=some (.set S n))
 |_=>False
def yA{pins:List (Addr×Obj)}{σ:St}{H:Hp}{s:Shared}{T:String}{x:V}{v:Value}(I:Inv X pins σ H s)(r:RelV x v)(ty:KI X.K T x H):
  s.TypeIs v T/\∀a,v=.ref a->∃ob,s.heap.get? a=some ob/\ob.dict=none:=by
 cases x with
 |str z =>
  obtain⟨t,rfl⟩:=r;cases(show T="str" from ty);exact⟨typeIs_str s z t,λ_ e=>nomatch e⟩
 |int i =>
  obtain⟨t,rfl⟩:=r;cases(show T="int" from ty);exact⟨typeIs_int s i t,λ_ e=>nomatch e⟩
 |ref p =>
  cases r;rcases ty with⟨rfl,xs,hq⟩|⟨rfl,xs,hq⟩|⟨rfl,hk⟩|⟨rfl,S,n,hk⟩
  obtain⟨its,_,pl,_⟩:=I.list hq;refine⟨pl.isList.typeIs,λa e=>?_⟩;cases e;obtain⟨o,n,e,c,hd,_⟩:=pl;exact⟨o,e,hd⟩;obtain⟨its,_,⟨o,e,c,d,_⟩,_⟩:=I.qD hq;refine⟨⟨o,e,c⟩,λa e2=>?_⟩;cases e2;exact⟨o,e,d⟩;have z:∃ o,s.heap.get? p=some o/\o.ExactDict:=by
   rcases hk with⟨kvs,hk⟩|⟨kvs,hk⟩
   obtain⟨_,_,_,_,o,_,_,e,ex,_⟩:=I.hok p _ hk;exact⟨o,e,ex⟩;obtain⟨_,_,_,_,o,_,_,e,ex,_⟩:=I.hok p _ hk;exact⟨o,e,ex⟩
  obtain⟨o,e,ex⟩:=z;refine⟨⟨o,e,ex.1⟩,λa e2=>?_⟩;cases e2;exact⟨o,e,ex.2.1⟩;obtain⟨o,_,_,_,e,ex,_⟩:=I.hok p _ hk;refine⟨⟨o,e,ex.1⟩,λa e2=>?_⟩;cases e2;exact⟨o,e,ex.2.1⟩
 |_=>exact False.elim ty
abbrev KJ(K:Zfr)(T:String)(r:V->List V->Hp->VK->Prop)(to:TE)(t:TA):TE:=λσ H Q=>to σ H λx H1=>KI K T x H1/\t σ H1 λxs H2=>r x xs H2 Q
variable {o e:Expr}{es:List Expr}{to:TE}{t:TA}{name:Str}{apos cpos:Pos}{T id:String}{r:V->List V->Hp->VK->Prop}
def qx(pa:PlainAttrs T)(slot:Slot T name id)(hty:typeOf (.builtin id)=pure (.type "method_descriptor"))(hm:CG X id r)(ho:PE X o to)(ha:PA X (e :: es) t)
  (hbase:attributeBase o name X.env (eval o X.env)=eval o X.env:=by rfl)
  (hfew:((backTo cpos (starEach (e :: es) X.env)).all (λx=>!x.1) && (backToKw cpos (keywordEach [] X.env)).all (λx=>x.1.isSome)
   && decide ((e :: es).length+([]:List Keyword).length+(if([]:List Keyword).isEmpty then 0 else 1)<30))=true:=by rfl)
  (hline:(apos.endLine == cpos.line)=true:=by rfl) (hs:starEach (e :: es) X.env=(false,eval e X.env) :: starEach es X.env:=by rfl) (hplain:(backTo cpos (starEach es X.env)).any (·.1)=false:=by rfl) :
  PE X (.Call (.Attribute o name apos) (e :: es) [] cpos) (KJ X.K T r to t):=by
 intro pins s σ H Q I h;refine wpAny_Call_method_late hbase hfew hline rfl (cn (ho pins s σ H _ I h) λv s1 ⟨x,H1,I1,r1,ty,q1⟩=>?_);obtain⟨h1,h2⟩:=yA I1 r1 ty;refine⟨T,id,pa,slot,hty,h1,h2,?_⟩;have hA:=ha cpos pins s1 σ H1 _ I1 q1;rw[hs]at hA ⊢;refine Calls.callWith_builtin (by show(false || (backTo cpos (starEach es X.env)).any (·.1))=false;rw[hplain]<;>rfl) (Calls.evalArgs_plain ?_);exact cn hA λus s2 ⟨vs,H2,I2,r2,q2⟩=>hm pins s2 σ H2 x vs v us Q I2 r1 r2 q2
end
abbrev KL(X:Cx)(id:String)(r:V->List V->Hp->VK->Prop):Prop :=
 ∀(pins:List (Addr×Obj)) (s:Shared) (σ:St) (H:Hp) (x:V) (xs:List V) (v:Value) (us:List Value) (Q:VK),Inv X pins σ H s->RelV x v->Vals xs us->r x xs H Q ->
  wpAny (model X.prog X.w) X.A (call (.builtin id) (v :: us)) (EP X pins σ Q) X.xe s
def Vals.one:∀{x:V} {us:List Value},Vals [x] us->∃u,us=[u]/\RelV x u
 |_,_,.cons r .nil=>⟨_,rfl,r⟩
def Vals.eraseIdx:∀{xs:List V} {us:List Value} (i:Nat),Vals xs us->Vals (xs.eraseIdx i) (us.eraseIdx i)
 |_,_,_,.nil=>.nil
 |_,_,0,.cons _ t=>t
 |_,_,i+1,.cons r t=>.cons r (Vals.eraseIdx i t)
def Vals.rep{xs:List V}{us:List Value}(h:Vals xs us):∀k:Nat,Vals (List.replicate k xs).flatten (List.replicate k us).flatten
 |0=>.nil
 |k+1=>by
  rw[Za7,Za7,Za5,Za5];exact Vals.append h (Vals.rep h k)
def Oc{α:Type}:∀(l:List α) (i:Nat),(l.eraseIdx i).length<=l.length
 |[],_=>Zad _
 |_ :: _,0=>ZbU _
 |_ :: r,i+1=>Nat.succ_le_succ (Oc r i)
def Oe(its:List Value):∀(k:Nat) (acc:List Value),
  List.foldl (λx1 x2=>x1 ++ x2) acc.toArray (List.replicate k its.toArray)=(acc ++ (List.replicate k its).flatten).toArray
 |0,acc=>by simp
 |k+1,acc=>by
  have e:acc.toArray ++ its.toArray=(acc ++ its).toArray:=by simp
  have e2:(acc ++ its) ++ (List.replicate k its).flatten=acc ++ (List.replicate (k+1) its).flatten:=by
   rw[Za7,Za5,Zbq]
  rw[<- e2,<- Oe its k (acc ++ its),<- e,Za7,List.foldl_cons]
section
variable {X:Cx}{pins:List (Addr×Obj)}{σ:St}{H:Hp}{s:Shared}{l b:Addr}{xs ys zs:List V}
def Inv.yB{its its':List Value}{n:Nat}{f:Array Value->Array Value}{t':Nat}(I:Inv X pins σ H s)(hH:H l=some (.lst xs))
  (e:s.heap.get? l=some { cls:=.type "list",data:=.seq its.toArray n }) (hf:f its.toArray=its'.toArray) (hv:Vals ys its') (hz:ys.length<=sizeLine) :
  Inv X pins σ (upd H l (.lst ys)) { s with heap:=s.heap.update l (Obj.mapSeq f),toks:=t' }:=by
 have q:=PySem.IsL.update e f;rw[hf]at q;refine I.write (x:=l) (e:=l) (by rw[hH];exact trivial) (.inl rfl) (λb' u hb hu=>(ZaV s.heap (Obj.mapSeq f) (Ne.symm hb)).trans hu) ⟨_,q⟩ ?_;exact⟨hz,its',_,hv,q⟩
def Inv.CK{its:List Value}{t':Nat}(I:Inv X pins σ H s)(hv:Vals ys its)(hz:ys.length<=sizeLine):
  Inv X pins σ (upd H s.heap.objs.size (.lst ys)) { s with heap:=s.heap.push { cls:=.type "list",data:=.seq its.toArray },toks:=t' } :=
 I.laid (λ_ _ q=>Zai _ q) (Zad _) ⟨hz,its,0,hv,Zar _ rfl⟩
def Inv.fresh(I:Inv X pins σ H s):H s.heap.objs.size=none:=I.hok.fresh (Zad _)
def Inv.qH(I:Inv X pins σ H s)(hH:H l=some (.lst xs)):xs.length<=sizeLine/\∃(its:List Value) (n:Nat),Vals xs its/\xs.length=its.length/\s.heap.get? l=some { cls:=.type "list",data:=.seq its.toArray n }:=by obtain⟨z,its,n,r,e⟩:=I.hok l _ hH;exact⟨z,its,n,r,r.length,e⟩
def qc{n:Nat}(h:n<=sizeLine):Builtin.List.listTooLong n=false:=by unfold Builtin.List.listTooLong;exact decide_eq_false ⋯
end
section
variable {X:Cx}
abbrev rm:V->List V->Hp->VK->Prop:=λx vs H Q=>∃l xs y,x=.ref l/\vs=[y]/\H l=some (.lst xs)/\xs.length<sizeLine/\Q .non (upd H l (.lst (xs ++ [y])))
def tN:KL X "list.append" rm:=by intro pins s σ H x vs v us Q I rx rv h;obtain⟨l,xs,y,rfl,rfl,hH,hz,q⟩:=h;cases rx;obtain⟨u,rfl,ru⟩:=rv.one;obtain⟨z,its,n,r,hl,e⟩:=I.qH hH;refine call_meets F.slot_list_append ⟨_,e,rfl⟩ F.entry_list_append (F.args_list_append_2 _ _) (PySem.list_append l its.toArray n u (by rw[Zam];lk)) ⟨e,?_⟩;refine⟨.non,_,I.yB (its':=its ++ [u]) hH e (by simp) (r.append (.cons ru .nil)) ?_,rfl,q⟩;rw[Zaj,ZaK];lk
abbrev rn:V->List V->Hp->VK->Prop:=λx vs H Q=>∃l b xs zs,x=.ref l/\vs=[.ref b]/\H l=some (.lst xs)/\H b=some (.lst zs)/\xs.length+zs.length<=sizeLine/\Q .non (upd H l (.lst (xs ++ zs)))
def Og:KL X "list.extend" rn:=by
 intro pins s σ H x vs v us Q I rx rv h;obtain⟨l,b,xs,zs,rfl,rfl,hH,hB,hz,q⟩:=h;cases rx;obtain⟨u,rfl,ru⟩:=rv.one;cases ru;obtain⟨z,its,n,r,hl,e⟩:=I.qH hH;obtain⟨z2,its2,n2,r2,hl2,e2⟩:=I.qH hB;have hsz:its.toArray.size+its2.toArray.size<=sizeLine:=by rw[Zam,Zam];lk
 have tO:¬(!its.toArray.isEmpty && Builtin.List.listTooLong (its.toArray.size+its2.toArray.size))=true:=by
  rw[qc hsz,Bool.and_false];exact Zan
 refine call_meets F.slot_list_extend ⟨_,e,rfl⟩ F.entry_list_extend (F.args_list_extend_2 _ _)
  (AutoSeq1.list_extend_list_list_0 l its.toArray n b its2.toArray n2 tO (by rw[Zam];lk) ⋯) ⟨e,e2,?_⟩
 refine⟨.non,_,I.yB (its':=its ++ its2) hH e (by simp) (r.append r2) ?_,rfl,q⟩;rw[Zaj];lk
abbrev tP:V->List V->Hp->VK->Prop:=λx vs H Q=>∃l xs i k y,x=.ref l/\vs=[.int i]/\H l=some (.lst xs)/\-(2 ^ 63)<=i/\i<2 ^ 63/\seqIndex? i xs.length=some k/\xs[k]?=some y/\Q y (upd H l (.lst (xs.eraseIdx k)))
def T6:KL X "list.pop" tP:=by
 intro pins s σ H x vs v us Q I rx rv h;obtain⟨l,xs,i,k,y,rfl,rfl,hH,h1,h2,hk,hy,q⟩:=h;cases rx;obtain⟨u,rfl,ru⟩:=rv.one;obtain⟨t,rfl⟩:=ru;obtain⟨z,its,n,r,hl,e⟩:=I.qH hH;obtain⟨w,hw,rw'⟩:=r.get hy;refine call_meets F.slot_list_pop ⟨_,e,rfl⟩ F.entry_list_pop (F.args_list_pop_2 _ _)
  (MeetsSeq.list_pop_at l its.toArray n i t k w (fitsIndex_both h1 h2) (by rw[Zam,<- hl];exact hk) (by rw[<- Zbb];exact hw) (by rw[Zam];lk)) ⟨e,?_⟩
 refine⟨y,_,I.yB (its':=its.eraseIdx k) hH e ?_ (r.eraseIdx k) ?_,rw',q⟩;show its.toArray.eraseIdxIfInBounds k=(its.eraseIdx k).toArray;rw[List.eraseIdxIfInBounds_toArray]
 have:=Oc xs k
 lk
abbrev CL:R2:=λx y H Q=>∃l b xs zs,x=.ref l/\y=.ref b/\H l=some (.lst xs)/\H b=some (.lst zs)/\xs.length+zs.length<=sizeLine/\∀p,H p=none->Q (.ref p) (upd H p (.lst (xs ++ zs)))
def w4:lA X (binaryOp .Add) CL:=by
 intro pins s σ H x y v u Q I rx ry h;obtain⟨l,b,xs,zs,rfl,rfl,hH,hB,hz,q⟩:=h;cases rx;cases ry;obtain⟨z,its,n,r,hl,e⟩:=I.qH hH;obtain⟨z2,its2,n2,r2,hl2,e2⟩:=I.qH hB;refine PySem.P.add_list e e2 ?_ (by rw[Zam,Zam];lk);have ea:its.toArray ++ its2.toArray=(its ++ its2).toArray:=by simp
 rw[ea];exact⟨.ref _,_,I.CK (t':=s.toks) (r.append r2) (by rw[Zaj];lk),rfl,q _ I.fresh⟩
abbrev CM:R2:=λx y H Q=>∃l k xs,x=.ref l/\y=.int k/\H l=some (.lst xs)/\-(2 ^ 63)<=k/\k<2 ^ 63/\xs.length*k.toNat<=sizeLine /\
 ∀p,H p=none->Q (.ref p) (upd H p (.lst (List.replicate k.toNat xs).flatten))
def T7{α:Type}(xs:List α)(k:Nat):(List.replicate k xs).flatten.length=k*xs.length:=by
 induction k with
 |zero=>simp
 |succ k ih=>rw[Za7,Za5,Zaj,ih,ZbM,Nat.add_comm]
def KN:lA X (binaryOp .Mult) CM:=by
 intro pins s σ H x y v u Q I rx ry h;obtain⟨l,k,xs,rfl,rfl,hH,h1,h2,hz,q⟩:=h;cases rx;obtain⟨t,rfl⟩:=ry;obtain⟨z,its,n,r,hl,e⟩:=I.qH hH;have hlen:its.toArray.size*k.toNat<=sizeLine:=by rw[Zam,<- hl];exact hz
 have hcap:¬its.toArray.size*k.toNat > (2 ^ 63-1) / 8:=by
  have:(sizeLine:Nat)<=(2 ^ 63-1) / 8:=by decide
  lk
 have hfit:¬(!Builtin.List.listFitsIndex k)=true:=by
  rw[fitsIndex_both h1 h2];exact Zan
 have tO:¬Builtin.List.listTooLong (its.toArray.size*k.toNat)=true:=by
  rw[qc hlen];exact Zan
 have hnew:List.foldl (λx1 x2=>x1 ++ x2) #[] (List.replicate (if its.toArray.isEmpty=true then 0 else k.toNat) its.toArray)=(List.replicate k.toNat its).flatten.toArray:=by
  have f0:∀m:Nat,List.foldl (λx1 x2=>x1 ++ x2) #[] (List.replicate m its.toArray)=(List.replicate m its).flatten.toArray:=λm=>by
   have:=Oe its m [];rw[List.nil_append]at this;exact this
  rw[f0];cases its with
  |nil=>simp
  |cons a r'=>rw[if_neg (by simp)]
 refine wpAny_binaryOp_repeat_ref (T:="list") (U:="int") ∅ ⟨_,e,rfl⟩ (λs'=>typeIs_int s' k t) noFill_list_mul F.fills_int_mul F.slot_int_rmul repeat_list F.slot_int_index.lookup
  (call_meets F.slot_int_rmul (typeIs_int s k t) F.entry_int_rmul (F.args_int_rmul_2 _ _) (int___rmul___int_list k t l its.toArray n)
   ⟨e,rfl,⟨_,e,rfl⟩,call_meets F.slot_list_mul ⟨_,e,rfl⟩ F.entry_list_mul (F.args_list_mul_2 _ _) (AutoListH.list___mul___list_int_3 l its.toArray n k t hfit hcap tO) ⟨e,?_⟩⟩)
 rw[hnew];exact⟨.ref _,_,I.CK (t':=s.toks) (r.rep k.toNat) (by rw[T7,Zcb];exact hz),rfl,q _ I.fresh⟩
end
section
variable {κ:Type}[DecidableEq κ]
abbrev lC(kvs:List (κ×V))(k:κ):Option V:=(kvs.find? λkv=>decide (kv.1=k)).map (·.2)
abbrev putK(kvs:List (κ×V))(k:κ)(v:V):List (κ×V) :=
 if(kvs.any λkv=>decide (kv.1=k))=true then kvs.map (λkv=>if kv.1=k then(kv.1,v)else kv)else kvs ++ [(k,v)]
def KO{p:κ×V}{r:List (κ×V)}{k:κ}(e:p.1=k):lC (p :: r) k=some p.2:=by simp[lC,Zbu,e]
def KP{p:κ×V}{r:List (κ×V)}{k:κ}(e:¬p.1=k):lC (p :: r) k=lC r k:=by simp[lC,Zbu,e]
def Oh(k:κ):∀kvs:List (κ×V),(kvs.any λkv=>decide (kv.1=k))=(lC kvs k).isSome
 |[]=>rfl
 |p :: r=>by
  rw[Zbp];by_cases e:p.1=k;simp only[KO e,decide_eq_true e,Bool.true_or,Option.isSome_some];rw[KP e,decide_eq_false e,Bool.false_or];exact Oh k r
def KQ(kvs:List (κ×V))(k:κ)(v:V):(putK kvs k v).length<=kvs.length+1:=by unfold putK;split;rw[Zaa];lk;rw[Zaj,Zaz,ZbB];lk
def oF.mK{o:Option V}{u:Option Value}(r:oF o u):o.isSome=u.isSome:=by
 cases o with
 |none=>cases u with
  |none=>rfl
  |some _=>exact(show False from r).elim
 |some _=>cases u with
  |none=>exact(show False from r).elim
  |some _=>rfl
def KV.val{kvs:List (κ×V)}{vs:List (κ×Value)}(r:KV kvs vs)(k:κ):oF (lC kvs k) (valueAt vs k):=by
 unfold KV at r
 induction r with
 |nil=>exact True.intro
 |@cons p q ps qs h t ih =>
  obtain⟨h1,h2⟩:=h;by_cases e:p.1=k;have e':q.1=k:=h1.symm.trans e;have b:valueAt (q :: qs) k=some q.2:=by simp[valueAt,Zbu,e']
  rw[KO e,b];exact h2;have e':¬q.1=k:=λz=>e (h1.trans z);have b:valueAt (q :: qs) k=valueAt qs k:=by simp[valueAt,Zbu,e']
  rw[KP e,b];exact ih
def KV.any{kvs:List (κ×V)}{vs:List (κ×Value)}(r:KV kvs vs)(k:κ):(kvs.any λkv=>decide (kv.1=k))=vs.any λkv=>decide (kv.1=k):=by
 unfold KV at r
 induction r with
 |nil=>rfl
 |cons h t ih=>rw[Zbp,Zbp,ih,h.1]
def KV.repl{kvs:List (κ×V)}{vs:List (κ×Value)}(r:KV kvs vs)(k:κ){y:V}{u:Value}(ry:RelV y u):
  KV (kvs.map λkv=>if kv.1=k then(kv.1,y)else kv) (vs.map λkv=>if kv.1=k then(kv.1,u)else kv):=by
 unfold KV at r ⊢
 induction r with
 |nil=>exact .nil
 |@cons p q ps qs h t ih =>
  rw[Zay,Zay];refine .cons ?_ ih;obtain⟨h1,h2⟩:=h;by_cases e:p.1=k;rw[if_pos e,if_pos (h1.symm.trans e)];exact⟨h1,ry⟩;rw[if_neg e,if_neg (λz=>e (h1.trans z))];exact⟨h1,h2⟩
def KV.put{kvs:List (κ×V)}{vs:List (κ×Value)}(r:KV kvs vs)(k:κ){y:V}{u:Value}(ry:RelV y u):KV (putK kvs k y) (stored vs k u):=by unfold putK stored;rw[r.any k];by_cases e:(vs.any λkv=>decide (kv.1=k))=true;rw[if_pos e,if_pos e];exact r.repl k ry;rw[if_neg e,if_neg e];exact Paired.snoc r ⟨rfl,ry⟩
def KV.length{kvs:List (κ×V)}{vs:List (κ×Value)}(r:KV kvs vs):kvs.length=vs.length:=Paired.length r
end
def CN{P:Program}{w:World}{k:Key}{u:Value}(r:RelV (kV k) u):(cj P w).is k u=true:=by
 cases k with
 |inl i=>obtain⟨t,e⟩:=(show∃t,u=Value.int i t from r);subst e;exact Tc P w i t
 |inr x=>obtain⟨t,e⟩:=(show∃t,u=Value.str x t from r);subst e;exact Td P w x t
def Oi{P:Program}{w:World}:∀{ks:List Key} {us:List Value},Vals (ks.map kV) us->ItemsAre (cj P w) ks us
 |[],_,r=>by rw[ZaZ]at r;cases r;exact .nil
 |k :: ks,_,r=>by
  rw[Zay]at r;cases r with
  |cons h t=>exact .cons (CN h) (Oi t)
@[reducible]def KT(H:Hp):List (List Key×V)->List (List Key×Addr×Value)->Prop:=Paired λp q=>p.1=q.1/\H q.2.1=some (.tup (p.1.map kV))/\RelV p.2 q.2.2
def KT.val{H:Hp}{kvs:List (List Key×V)}{xs:List (List Key×Addr×Value)}(r:KT H kvs xs)(k:List Key):oF (lC kvs k) ((atKey xs k).map (·.2)):=by
 induction r with
 |nil=>exact True.intro
 |@cons p q ps qs h t ih =>
  obtain⟨h1,_,h2⟩:=h;by_cases e:p.1=k;have e':q.1=k:=h1.symm.trans e;have b:atKey (q :: qs) k=some q.2:=by simp[atKey,Zbu,e']
  rw[KO e,b];exact h2;have e':¬q.1=k:=λz=>e (h1.trans z);have b:atKey (q :: qs) k=atKey qs k:=by simp[atKey,Zbu,e']
  rw[KP e,b];exact ih
def KT.repl{H:Hp}{kvs:List (List Key×V)}{xs:List (List Key×Addr×Value)}(r:KT H kvs xs)(k:List Key){y:V}{u:Value}(ry:RelV y u):
  KT H (kvs.map λkv=>if kv.1=k then(kv.1,y)else kv) (xs.map (putAt k u)):=by
 induction r with
 |nil=>exact .nil
 |@cons p q ps qs h t ih =>
  rw[Zay,Zay];refine .cons ?_ ih;obtain⟨h1,h2,h3⟩:=h;unfold putAt;by_cases e:p.1=k;rw[if_pos e,if_pos (h1.symm.trans e)];exact⟨h1,h2,ry⟩;rw[if_neg e,if_neg (λz=>e (h1.trans z))];exact⟨h1,h2,h3⟩
def KT.put{H:Hp}{kvs:List (List Key×V)}{xs:List (List Key×Addr×Value)}(r:KT H kvs xs)(k:List Key){b:Addr}{y:V}{u:Value}(hb:H b=some (.tup (k.map kV)))(ry:RelV y u):
  KT H (putK kvs k y) (storedH xs k b u):=by
 have e:(kvs.any λkv=>decide (kv.1=k))=(atKey xs k).isSome:=by
  rw[Oh,(r.val k).mK,Option.isSome_map]
 unfold putK storedH;rw[e];by_cases q:(atKey xs k).isSome=true;rw[if_pos q,if_pos q];exact r.repl k ry;rw[if_neg q,if_neg q];exact Paired.snoc r ⟨rfl,hb,ry⟩
def KT.keeps{H H':Hp}{kvs:List (List Key×V)}{xs:List (List Key×Addr×Value)}(r:KT H kvs xs)(ht:∀b ys,H b=some (.tup ys)->H' b=some (.tup ys)):KT H' kvs xs :=
 Paired.ya r λ_ _ z=>⟨z.1,ht _ _ z.2.1,z.2.2⟩
section
variable {P:Program}{w:World}{H:Hp}{h:Heap}{a:Addr}
def w6{u:HO}(ok:lW P w H h)(e:Rd H a u):cu P w H h a u:=e.ok ok
def G6{kvs:List (Key×V)}(ok:lW P w H h)(e:Rd H a (.dK kvs)):kvs.length<=sizeLine/\(a == sysModules)=false/\∃vs,KV kvs vs/\h.DictOf (cj P w) a vs :=
 show cu P w H h a (.dK kvs)from w6 ok e
def w8{kvs:List (Key×V)}(ok:lW P w H h)(e:H a=some (.dK kvs)):kvs.length<=sizeLine/\(a == sysModules)=false/\∃vs,KV kvs vs/\h.DictOf (cj P w) a vs:=G6 ok (.inl e)
def vm{ks:List Key}(ok:lW P w H h)(e:H a=some (.tup (ks.map kV))):(tupleKind (cj P w)).is h ks a:=by obtain⟨_,its,r,o,h1,h2,_,n,h3⟩:=(show cu P w H h a (.tup (ks.map kV))from ok a _ e);exact⟨o,its.toArray,n,h1,h2,h3,by simpa using Oi r⟩
def G7{kvs:List (List Key×V)}(ok:lW P w H h)(e:Rd H a (.dT kvs)):kvs.length<=sizeLine/\(a == sysModules)=false /\
  ∃xs,KT H kvs xs/\h.DictOfH (tupleKind (cj P w)) a xs:=by
 obtain⟨z,y,xs,r,o,es,ep,h1,h2,h3,h4,h5⟩:=(show cu P w H h a (.dT kvs)from w6 ok e);refine⟨z,y,xs,r,o,es,ep,h1,h2,h3,h4,λx hx=>?_,h5⟩;have all:∀{l:List (List Key×V)} {m:List (List Key×Addr×Value)},KT H l m->∀x∈m,(tupleKind (cj P w)).is h x.1 x.2.1:=by
  intro l m q
  induction q with
  |nil=>intro x hx;exact nomatch hx
  |@cons p q ps qs hq t ih =>
   intro x hx;rcases ZaA.mp hx with e|hx
   subst e;exact vm ok (by rw[<- hq.1];exact hq.2.1);exact ih x hx
 exact all r x hx
def CO{kvs:List (List Key×V)}(ok:lW P w H h)(e:H a=some (.dT kvs)):kvs.length<=sizeLine/\(a == sysModules)=false /\
  ∃xs,KT H kvs xs/\h.DictOfH (tupleKind (cj P w)) a xs:=G7 ok (.inl e)
end
abbrev o6(H:Hp)(a:Addr)(y:V)(r:Option V):Prop :=
 (∃kvs k,Rd H a (.dK kvs)/\y=kV k/\r=lC kvs k)\/∃kvs k b,Rd H a (.dT kvs)/\y=.ref b/\H b=some (.tup (k.map kV))/\r=lC kvs k
abbrev tQ(H:Hp)(a:Addr)(y v:V)(H':Hp):Prop :=
 (∃kvs k,H a=some (.dK kvs)/\y=kV k/\kvs.length<sizeLine/\H'=upd H a (.dK (putK kvs k v))) \/
 ∃kvs k b,H a=some (.dT kvs)/\y=.ref b/\H b=some (.tup (k.map kV))/\kvs.length<sizeLine/\H'=upd H a (.dT (putK kvs k v))
def o6.k{H:Hp}{a:Addr}{kvs:List (Key×V)}{k:Key}(e:H a=some (.dK kvs)):o6 H a (kV k) (lC kvs k):=.inl ⟨kvs,k,.inl e,rfl,rfl⟩
def tQ.k{H:Hp}{a:Addr}{kvs:List (Key×V)}{k:Key}{v:V}(e:H a=some (.dK kvs))(hl:kvs.length<sizeLine):tQ H a (kV k) v (upd H a (.dK (putK kvs k v))):=.inl ⟨kvs,k,e,rfl,hl,rfl⟩
section
variable {X:Cx}{pins:List (Addr×Obj)}{σ:St}{H:Hp}{s:Shared}{a:Addr}{y v:V}{u r:Value}{o:Option V}{A:Around}{E:Value->Shared->Prop}
def Inv.big(I:Inv X pins σ H s):sysModules<s.heap.objs.size:=by have h:mainGlobals<s.heap.objs.size:=(I.mod.glob.keeps I.bk).lt;exact Nat.lt_trans ∅ h
def T8{Q:Value->Shared->Prop}(hu:A.units+1<cLine)(I:Inv X pins σ H s)(g:o6 H a y (some v))(ry:RelV y u)(h:∀w' s',Inv X pins σ H s'->RelV v w'->Q w' s'):
  wpAny (model X.prog X.w) A (getItem (.ref a) u) Q E s:=by
 rcases g with⟨kvs,k,e,ey,l⟩|⟨kvs,k,b,e,ey,eb,l⟩
 subst ey;obtain⟨z,hd,vs,rel,dd⟩:=G6 I.hok e;obtain⟨w',hw,rw'⟩:=oF.some_of (v:=v) (o:=valueAt vs k) (by rw[l];exact rel.val k);exact wpAny_getItem_of (CN ry) dd.mapOf hw (h w' _ (I.tok _) rw');subst ey;cases(show u=Value.ref b from ry);obtain⟨z,hd,xs,rel,dd⟩:=G7 I.hok e;obtain⟨w',hw,rw'⟩:=oF.some_of (v:=v) (o:=(atKey xs k).map (·.2)) (by rw[l];exact rel.val k);obtain⟨p,hp,hp2⟩:=ZaB.mp hw;refine wpAny_getItem_heap (tupleKind_room_in1 hu) (vm I.hok eb) dd hp ?_;rw[hp2];exact h w' _ (I.tok _) rw'
def T9{Q:Value->Shared->Prop}(hu:A.units+1<cLine)(I:Inv X pins σ H s)(g:o6 H a y o)(ry:RelV y u)(h:∀s',Inv X pins σ H s'->Q (.bool (!o.isSome)) s'):
  wpAny (model X.prog X.w) A (compareOp .NotIn u (.ref a)) Q E s:=by
 rcases g with⟨kvs,k,e,ey,l⟩|⟨kvs,k,b,e,ey,eb,l⟩
 subst ey;obtain⟨z,hd,vs,rel,dd⟩:=G6 I.hok e;refine wpAny_notIn_of (CN ry) hd dd.mapOf ?_;rw[<- (rel.val k).mK,<- l];exact h _ (I.tok _);subst ey;cases(show u=Value.ref b from ry);obtain⟨z,hd,xs,rel,dd⟩:=G7 I.hok e;refine wpAny_notIn_heap (tupleKind_room_in1 hu) (vm I.hok eb) hd dd ?_;have q:=(rel.val k).mK;rw[Option.isSome_map]at q;rw[<- q,<- l];exact h _ (I.tok _)
def KR{h':Heap}{t':Nat}{ob:HO}(I:Inv X pins σ H s)(mu:B1 (H a))(hs:Heap.SameBut a s.heap h')(he:∃q,h'.get? a=some q)(new:cu X.prog X.w (upd H a ob) h' a ob):
  Inv X pins σ (upd H a ob) { s with heap:=h',toks:=t' } :=
 I.write (x:=a) (e:=a) mu (.inl rfl) (λb q hb z=>(hs.2 b hb).trans z) he new
def Oj{P:Program}{w:World}{H':Hp}{h':Heap}{kvs:List (Key×V)}{vs:List (Key×Value)}(z:kvs.length<=sizeLine)(hd:(a == sysModules)=false)(rel:KV kvs vs)(dd:h'.DictOf (cj P w) a vs):
  cu P w H' h' a (.dK kvs):=⟨z,hd,vs,rel,dd⟩
def Ua{H':Hp}{Q:Unit->Shared->Prop}(hu:A.units+1<cLine)(I:Inv X pins σ H s)(g:tQ H a y v H')(ry:RelV y u)(rv:RelV v r)(h:∀s',Inv X pins σ H' s'->Q () s'):
  wpAny (model X.prog X.w) A (setItem (.ref a) u r) Q E s:=by
 rcases g with⟨kvs,k,e,ey,l,eH⟩|⟨kvs,k,b,e,ey,eb,l,eH⟩
 subst ey eH;obtain⟨z,hd,vs,rel,dd⟩:=w8 I.hok e;have hz:vs.length<=sizeLine:=by rw[<- rel.length];exact z
 have hl:(putK kvs k v).length<=sizeLine:=by have:=KQ kvs k v;lk
 refine wpAny_setItem_pairs (hsz:=hz) (CN ry) dd λh' yC hs=>h _ ?_;have he:∃q,h'.get? a=some q:=let ⟨q,_,_,hq,_⟩:=yC;⟨q,hq⟩
 exact KR I (by rw[e];exact True.intro) hs he (Oj hl hd (rel.put k rv) yC);subst ey eH;cases(show u=Value.ref b from ry);obtain⟨z,hd,xs,rel,dd⟩:=CO I.hok e;have hz:xs.length<=sizeLine:=by rw[<- Paired.length rel];exact z
 have hl:(putK kvs k v).length<=sizeLine:=by have:=KQ kvs k v;lk
 refine wpAny_setItem_heap (hsz:=hz) (tupleKind_room_in1 hu) (vm I.hok eb) dd λh' yC hs=>h _ ?_;obtain⟨q,es,ep,hq,h2,h3,h4,_,h5⟩:=yC;refine KR I (by rw[e];exact True.intro) hs ⟨q,hq⟩ ⟨hl,hd,_,(rel.put k eb rv).keeps λc ys ec=>?_,q,es,ep,hq,h2,h3,h4,h5⟩;rw[kD (Ke ec e (λz=>nomatch z))];exact ec
end
abbrev CP(i:Expr):Prop:=∀ov iv,subscripted i false ov iv=operate [ov,iv] (getItem ov iv)
def Ub{prog:Program}{w:World}{A:Around}{E:Value->Shared->Prop}{s:Shared}{env:Env}{value slice:Expr}{pos:Pos}{T id:String}{Q:Value->Shared->Prop}
  (hl:typeLookup (.type T) "__getitem__" = pure (some (.builtin id))) (hs:CP slice)
  (h:wpAny (model prog w) A (eval value env) (λo s₁=>wpAny (model prog w) A (eval slice env) (λi s₂=>s₂.TypeIs o T/\wpAny (model prog w) A (getItem o i) Q E s₂) E s₁) E s) :
  wpAny (model prog w) A (eval (.Subscript value slice pos) env) Q E s:=by
 refine Subscript_ (wpAny_mono h (λo s₁ h₁=>wpAny_mono h₁ (λi s₂ h₂=>?_) λ_ _ x=>x) λ_ _ x=>x);obtain⟨hT,h₂⟩:=h₂;unfold subscriptTail;refine wpAny_bind ?_;rw[getitemInPython_of_ne hT.not_modules];refine wpAny_bind (wpAny_specialOf hT hl ?_);have fin:wpAny (model prog w) A (subscripted slice false o i) (λr s₃=>wpAny (model prog w) A (letTemporaryGo value o r >>= λ_=>pure r) Q E s₃) E s₂:=by
  rw[hs o i];exact wpAny_operating (wpAny_mono h₂ (λr s₃ h₃=>wpAny_bind (wpAny_letTemporaryGo (wpAny_pure h₃))) λ_ _ x=>x)
 first
  |exact wpAny_pure (wpAny_bind fin)
  |exact wpAny_bind (wpAny_pure (wpAny_bind fin))
  |exact wpAny_bind fin
def Uc{X:Cx}{pins:List (Addr×Obj)}{σ:St}{H:Hp}{s:Shared}{a:Addr}{y:V}{o:Option V}(I:Inv X pins σ H s)(g:o6 H a y o):s.TypeIs (.ref a) "dict" := by
 rcases g with⟨kvs,k,e,_,_⟩|⟨kvs,k,b,e,_,_,_⟩
 obtain⟨_,_,vs,_,dd⟩:=G6 I.hok e;exact dd.typeIs;obtain⟨_,_,xs,_,dd⟩:=G7 I.hok e;exact dd.typeIs
abbrev xa(td ty:TE):TE:=λσ H Q=>td σ H λx H1=>ty σ H1 λy H2=>∃a v,x=.ref a/\o6 H2 a y (some v)/\Q v H2
abbrev rq(ty td:TE):TE:=λσ H Q=>ty σ H λy H1=>td σ H1 λx H2=>∃a o,x=.ref a/\o6 H2 a y o/\Q (.bl (!o.isSome)) H2
abbrev xb(td ty tv:TE):TS:=λD σ H=>tv σ H λv H1=>td σ H1 λx H2=>ty σ H2 λy H3=>∃a H4,x=.ref a/\tQ H3 a y v H4/\D.nx σ H4
section
variable {X:Cx}{o i e value:Expr}{pos pos' tpos:Pos}{td ty tv:TE}
def Ol(hu:X.A.units+1<cLine)(ho:PE X o td)(hi:PE X i ty)(hs:CP i):PE X (.Subscript o i pos) (xa td ty):=by intro pins s σ H Q I h;refine Ub PySem.F.slot_dict_getitem.lookup hs (cn (ho pins s σ H _ I h) λu s1 ⟨x,H1,I1,rx,q1⟩=>cn (hi pins s1 σ H1 _ I1 q1) λiv s2 ⟨y,H2,I2,ry,a,v,ex,g,q2⟩=>?_);subst ex;obtain rfl:u=Value.ref a:=rx;exact⟨Uc I2 g,T8 hu I2 g ry λw' s3 I3 rw'=>⟨v,H2,I3,rw',q2⟩⟩
def Ud(hu:X.A.units+1<cLine)(hi:PE X i ty)(ho:PE X o td):PC X .NotIn i o (rq ty td):=by intro pins s σ H Q I h;refine cn (hi pins s σ H _ I h) λiv s1 ⟨y,H1,I1,ry,q1⟩=>cn (ho pins s1 σ H1 _ I1 q1) λu s2 ⟨x,H2,I2,rx,a,ov,ex,g,q2⟩=>?_;subst ex;obtain rfl:u=Value.ref a:=rx;exact T9 hu I2 g ry λs3 I3=>⟨.bl (!ov.isSome),H2,I3,rfl,q2⟩
def Ue(hu:X.A.units+1<cLine)(ho:PE X o td)(hi:PE X i ty)(hv:PE X value tv)(hs:swapsWith value (some (.Subscript o i pos')) pos.line X.env=pure false):
  PS X (.Assign [.Subscript o i pos'] value pos) (xb td ty tv):=by
 intro pins s σ H D I h;refine wpAny_Assign_Subscript (cn (hv pins s σ H _ I h) λr s1 ⟨v,H1,I1,rv,q1⟩=>cn (ho pins s1 σ H1 _ I1 q1) λu s2 ⟨x,H2,I2,rx,q2⟩=>cn (hi pins s2 σ H2 _ I2 q2) λiv s3 ⟨y,H3,I3,ry,a,H4,ex,g,q3⟩=>?_) hs;subst ex;obtain rfl:u=Value.ref a:=rx;exact Ua hu I3 g ry rv λs4 I4=>⟨σ,H4,I4,q3⟩
end
def Om{P:Program}{w:World}{H:Hp}(h:Heap)(hb:sysModules<h.objs.size):cu P w H (h.push { cls:=.type "dict",data:=.dict #[] }) h.objs.size (.dK []) :=
 ⟨ZaO _,beq_eq_false_iff_ne.mpr (Ne.symm (ZaS hb)),[],.nil,Heap.DictOf.new h⟩
abbrev tR:TE:=λ_ H Q=>∀p,H p=none->Q (.ref p) (upd H p (.dK []))
section
variable {X:Cx}{pos:Pos}
def Ug:PE X (.Dict [] [] pos) tR:=λpins s σ H Q I h =>
 wpAny_Dict_empty ⟨.ref s.heap.objs.size,_,I.laid (a:=s.heap.objs.size) (o:=.dK []) (t':=s.toks) (λ_ _ q=>Zai _ q) (Zad _) (Om s.heap I.big),rfl,h _ (I.hok.fresh (Zad _))⟩
end
abbrev o7:List (TE×TE)->St->Hp->(List (V×V)->Hp->Prop)->Prop
 |[],_,H,Q=>Q [] H
 |(tk,tv) :: r,σ,H,Q=>tk σ H λx H1=>tv σ H1 λy H2=>o7 r σ H2 λps H3=>Q ((x,y) :: ps) H3
@[reducible]def VV:List (V×V)->List (Value×Value)->Prop:=Paired λp q=>RelV p.1 q.1/\RelV p.2 q.2
abbrev G8(X:Cx)(pos:Pos)(keys:List (Option Expr))(values:List Expr)(qd:List (TE×TE)):Prop :=
 ∀(pins:List (Addr×Obj)) (s:Shared) (σ:St) (H:Hp) (Q:List (V×V)->Hp->Prop),Inv X pins σ H s->o7 qd σ H Q ->
  wpAny (model X.prog X.w) X.A (evalPairs (pairTrees keys values X.env pos)) (λvs s'=>∃ps H',Inv X pins σ H' s'/\VV ps vs/\Q ps H') X.xe s
def Uh{X:Cx}{pos:Pos}:G8 X pos [] [] []:=λpins s σ H Q I h=>pairTrees_nil_walk ⟨[],H,I,.nil,h⟩
def G9{X:Cx}{pos:Pos}{k v:Expr}{ks:List (Option Expr)}{vs:List Expr}{tk tv:TE}{qd:List (TE×TE)}(hk:PE X k tk)(hv:PE X v tv)(hr:G8 X pos ks vs qd):
  G8 X pos (some k :: ks) (v :: vs) ((tk,tv) :: qd):=λpins s σ H Q I h =>
 pairTrees_cons_walk (cn (hk pins s σ H _ I h) λu s1 ⟨x,H1,I1,rx,q1⟩=>cn (hv pins s1 σ H1 _ I1 q1) λw2 s2 ⟨y,H2,I2,ry,q2⟩ =>
  cn (hr pins s2 σ H2 _ I2 q2) λws s3 ⟨ps,H3,I3,rel,q3⟩=>⟨(x,y) :: ps,H3,I3,.cons ⟨rx,ry⟩ rel,q3⟩)
abbrev mL(kvs more:List (Key×V)):List (Key×V):=more.foldl (λacc kv=>putK acc kv.1 kv.2) kvs
def KV.merge:∀{more:List (Key×V)} {rs:List (Key×Value)} {kvs:List (Key×V)} {vs:List (Key×Value)},KV more rs->KV kvs vs->KV (mL kvs more) (merged vs rs):=by
 intro more rs kvs vs r;unfold KV at r
 induction r generalizing kvs vs with
 |nil=>intro q;exact q
 |@cons p q ps qs h t ih =>
  intro r0;have e:KV (putK kvs p.1 p.2) (stored vs q.1 q.2):=by
   have:=r0.put p.1 h.2;rw[<- h.1];exact this
  exact ih e
def Oo:∀(more kvs:List (Key×V)),(mL kvs more).length<=kvs.length+more.length
 |[],kvs=>by show kvs.length<=kvs.length+0;lk
 |p :: r,kvs=>by
  have h1:=Oo r (putK kvs p.1 p.2);have h2:=KQ kvs p.1 p.2;show(mL (putK kvs p.1 p.2) r).length<=_;rw[Zaz];lk
def Oq{P:Program}{w:World}:∀{kvs:List (Key×V)} {ws:List (Value×Value)},VV (kvs.map λkv=>(kV kv.1,kv.2)) ws->∃rs,Carries (cj P w) ws rs/\KV kvs rs
 |[],_,r=>by rw[ZaZ]at r;cases r;exact⟨[],True.intro,.nil⟩
 |p :: kvs,_,r=>by
  rw[Zay]at r;cases r with
  |@cons a b as bs h t =>
   obtain⟨rs,c,q⟩:=Oq (P:=P) (w:=w) t;obtain⟨b1,b2⟩:=b;exact⟨(p.1,b2) :: rs,⟨CN h.1,rfl,c⟩,.cons ⟨rfl,h.2⟩ q⟩
abbrev xc(qd:List (TE×TE)):TE:=λσ H Q=>∀p,H p=none->o7 qd σ (upd H p (.dK [])) λps H2=>H2 p=some (.dK [])/\∃kvs:List (Key×V),ps=kvs.map (λkv=>(kV kv.1,kv.2))/\kvs.length<=15/\Q (.ref p) (upd H2 p (.dK (mL [] kvs)))
def Ui{X:Cx}{pos:Pos}{keys:List (Option Expr)}{values:List Expr}{qd:List (TE×TE)}(h:G8 X pos keys values qd)(hall:keys.all (·.isSome)=true)(hl:keys.length=values.length)(h0:keys≠[])
  (Ha:keys.length<=15):PE X (.Dict keys values pos) (xc qd):=by
 intro pins s σ H Q I q;have hn:=I.hok.fresh (Zad s.heap.objs.size);have I1:=I.laid (a:=s.heap.objs.size) (o:=.dK []) (h':=s.heap.push { cls:=.type "dict",data:=.dict #[] }) (t':=s.toks) (λ_ _ q=>Zai _ q) (Zad _) (Om s.heap I.big);refine wpAny_Dict_walk (knd:=cj X.prog X.w) hall hl h0 Ha (cn (h pins _ σ _ _ I1 (q _ hn)) λws s2 ⟨ps,H2,I2,rel,e,kvs,ep,lk,q2⟩=>?_);subst ep;obtain⟨rs,c,rk⟩:=Oq (P:=X.prog) (w:=X.w) rel;obtain⟨z,hd,vs0,r0,dd⟩:=w8 I2.hok e;cases r0;refine⟨rs,c,dd,λh' yC hs=>⟨.ref s.heap.objs.size,_,?_,rfl,q2⟩⟩;have hz:(mL [] kvs).length<=sizeLine:=by
  have h1:=Oo kvs [];rw[ZbB]at h1;rw[sizeLine_eq];lk
 have he:∃q,h'.get? s.heap.objs.size=some q:=let ⟨q,_,_,hq,_⟩:=yC;⟨q,hq⟩
 exact KR I2 (by rw[e];exact True.intro) hs he (Oj hz hd (rk.merge .nil) yC)
end L2
namespace Ot
open PySem PySem.W PySem.Calls PyProof.Rows
def Uj{P:Params}{h:Heap}:∀(ns:List Int) (vs:List Value),WellAll P h vs (ns.map WData.int)->IntsAre vs ns:=by
 intro ns
 induction ns with
 |nil =>
  intro vs w;rw[ZaZ]at w;cases w;exact .nil
 |cons n ns ih =>
  intro vs w;rw[Zay]at w;cases w with
  |cons a b =>
   cases a;exact .cons _ _ (ih _ b)
def Uk{l:OpenLaw}{n:Nat}(hn:l.most=some n){P:Params}{h:Heap}{args:List WData}{vals:List Value}
  (hpre:l.row.toRowW.claim.pre args=true) (hwl:WellAll P h vals args) :
  ∃a vs ns,vals=[Value.ref a]/\args=[WData.list (ns.map WData.int)]/\h.get? a=some { cls:=.type "list",data:=.seq vs.toArray }/\IntsAre vs ns/\ns.length<=n:=by
 have hsh:WShape.hasAll [] args [.list .int]=true:=(pre_splitW hpre).1;have hc:l.pre.holds [] { args:=args }=true:=(pre_splitW hpre).2;obtain⟨d,r,rfl,h1,h2⟩:=hasAllW_cons hsh;obtain rfl:=hasAllW_nil h2;obtain⟨xs,rfl,h3⟩:=hasW_list h1;obtain⟨ns,rfl⟩:=items_int h3;have hlen:ns.length<=n:=by
  unfold OpenLaw.pre at hc;have h4:(WTm.not (.lt (.lit (.int (n:Int))) (.len (.arg 0)))).holds [] { args:=[.list (ns.map .int)] }=true:=by
   have h4:=(holds_andW hc).1;rw[hn]at h4;exact h4
  have h5:=condW_of h4 (w_not (w_lt w_lit (w_len_list (w_arg rfl))));rw[Zaa]at h5;refine Zcm λq=>?_;have q':(n:Int)<((ns.length:Nat):Int):=by lk
  first
   |(rw[decide_eq_true q']at h5;exact absurd h5 ∅)
   |(simp at h5;lk)
 cases hwl with
 |cons w1 w2 =>
  cases w2;cases w1 with
  |list ho hall=>exact⟨_,_,ns,rfl,rfl,ho,Uj ns _ hall,hlen⟩
def Ul(l:OpenLaw)(args:List WData):l.row.toRowW.claim.post args (.bool true) args=true :=
 postW_of (r:=l.row.toRowW) (X:=(true == true))
  (show WShape.has [] (.bool true) .bool=true by first|rfl|decide|simp[WShape.has,WShape.arms,WShape.armsAll])
  (show(WTm.eq .res (.lit (.bool true))).value [] { args:=args,res:=some (.bool true),after:=args }=some (.bool (true == true))from w_eq_bool (w_res rfl) w_lit) rfl
def Um{l:OpenLaw}{n:Nat}{q:Program}{loose:List Str}{XP:(Str->Option Value)->Heap->Prop}{YP:World->Heap->Prop}{d:DefRec}
  (hn:l.most=some n) (hdf:d.params.defaults=[])
  (call:∀(w:World) (s₀ s₁:Shared) (mg mb:Str->Option Value) (fa:Addr) (o:Obj) (pm cd doc:Value) (a:Addr) (vs:List Value) (ns:List Int),
   Ground q loose [] XP w s₀ mg mb s₁.heap->YP w s₁.heap ->
   s₁.heap.get? fa=some o->o.data=.func (docDef d.name d.params d.body d.scope pm cd doc)->s₁.heap.CodeRec cd d.name->mg d.name=some (.ref fa) ->
   s₁.heap.get? a=some { cls:=.type "list",data:=.seq vs.toArray }->IntsAre vs ns->ns.length<=n->s₁.gens=#[] ->
   codeAny (model l.prog w) callerA (.call (.ref fa) ⟨[.ref a],[]⟩) (λr s'=>r=.ok (.ret (.bool true))/\OldK s₁.heap s'.heap/\s'.os=s₁.os/\AllBare s'.gens) s₁) :
  WalkO q loose XP YP l.row.toRowW d [] (λf vs=>PySem.call f vs):=by
 intro w s₀ s₁ mg mb G Y fa o pm cd doc dV kV ho hd hcd hD hmg hg args vals as hpre hlay hrd hwl hlo;obtain rfl:dV=.none:=Dflts.none hD hdf;obtain rfl:kV=.none:=Dflts.noKw hD;obtain⟨a,vs,ns,rfl,rfl,hobj,hints,hlen⟩:=Uk hn hpre hwl;refine enter_call (codeAny_mono (call w s₀ s₁ mg mb fa o pm cd doc a vs ns G Y ho (fd_plain hd) hcd hmg hobj hints hlen hg) λr s' hq=>?_);obtain⟨rfl,h2,h3,h4⟩:=hq;exact⟨.inl ⟨.bool true,.bool true,[],rfl,λ_=>rfl,.bool true,Ul l _,λ_=>⟨List.Pairwise.nil,λ_ hm=>(nomatch hm)⟩⟩,h2,h3,h4⟩
end Ot
namespace L2
open PySem PySem.Spec PyProof.Rows
def KS:∀{vs:List Value} {ns:List Int},IntsAre vs ns->Vals (ns.map V.int) vs
 |_,_,.nil=>.nil
 |_,_,.cons n t h=>.cons ⟨t,rfl⟩ (KS h)
abbrev Only(H:Hp):Prop:=∀b,H b=none\/∃o xs,H b=some (.oX o (.lst xs))
def Uo{P:Program}{w:World}{K:Zfr}{mg mb:Str->Option Value}{CX:sx}{k:Nat}{fa a:Addr}{fd:FuncData}{x:Str}{sp:Sp}{s₁:Shared}{vs:List Value}{ns:List Int}
  (KX:K.In s₁.heap) (hns:s₁.heap.Ns mainGlobals mg) (hb:s₁.heap.Ns builtinsNs mb) (KU:∀x:Str,x≠"__name__" -> mb x=bootBuiltins x) (hlim:s₁.heap.NoLimit) (hg:s₁.gens=#[])
  (ha:s₁.heap.get? a=some { cls:=.type "list",data:=.seq vs.toArray }) (hi:IntsAre vs ns) (hl:ns.length<=sizeLine) (hr:iN k callerA)
  (F:∀base:Heap,K.In base->base.Ns mainGlobals mg->aD P w K mg base CX k fa fd [x] sp) (hbind:∀(s:Shared) (u:Value),BindsTo s fd ⟨[u],[]⟩ [(x,u)])
  (uP:∀H:Hp,Only H->iL K H a (ns.map V.int)->sp [.ref a] H (λv _=>v=.bl true) λ_ _ _=>False)
  (CQ:∀H e s',CX [] H s₁ (λ_ _ _=>False) e s'->False) :
  codeAny (model P w) callerA (.call (.ref fa) ⟨[.ref a],[]⟩) (λr s'=>r=.ok (.ret (.bool true))/\OldK s₁.heap s'.heap/\s'.os=s₁.os/\AllBare s'.gens) s₁:=by
 have rv:=KS hi;have KW:=hi.length;have core:∀ H:Hp,Only H->iL K H a (ns.map V.int)->lW P w H s₁.heap->(∀ b,H b≠none->b=a)->(H a≠none->K.lookup a=none) ->
   codeAny (model P w) callerA (.call (.ref fa) ⟨[.ref a],[]⟩) (λr s'=>r=.ok (.ret (.bool true))/\OldK s₁.heap s'.heap/\s'.os=s₁.os/\AllBare s'.gens) s₁:=by
  intro H hO hS hok hA hK;have rz:∀{b:Addr} {o:Obj},s₁.heap.get? b=some o->H b=none->(oZ s₁.heap H).get? b=some o:=λe n=>Tg e n;have CC:∀{b:Addr} {o:Obj} {es:Array DictEntry} {ep:Nat},s₁.heap.get? b=some o->o.data=.dict es ep->H b=none:=λ{b o es ep} e d=>by
   cases q:H b with
   |none=>rfl
   |some u =>
    have e':b=a:=hA b (by rw[q];simp);subst e';rw[ha]at e;cases e;have d':Data.seq vs.toArray _=Data.dict es ep:=d;cases d'
  have Hb:∀{b:Addr} {m:Str->Option Value},s₁.heap.Ns b m->(oZ s₁.heap H).Ns b m:=λ{b m} ⟨o,es,ep,e,d,r⟩=>⟨o,es,ep,rz e (CC e d),d,r⟩
  have Ou:K.In (oZ s₁.heap H):=λb o e=>rz (KX b o e) (by
   cases q:H b with
   |none=>rfl
   |some u =>
    have e':b=a:=hA b (by rw[q];simp);subst e'
    rw[hK (by rw[q];simp)]at e;cases e)
  have hM:Mod K mg (oZ s₁.heap H):=⟨Ou,Hb hns,⟨mb,Hb hb,KU⟩,let ⟨mc,h1,h2⟩:=hlim;⟨mc,Hb h1,h2⟩⟩;have e0:vg P w K mg (oZ s₁.heap H) callerA [] s₁ H:=⟨rfl,hM,λb o e=>Ti e,Nat.le_of_eq (Tf _ _),trivial,λb hb=>absurd (show b∈([]:List Addr)from hb) (by simp),hok,.of_eq hg⟩;refine codeAny_mono ((F _ Ou (Hb hns)).run callerA [] s₁ H ⟨[.ref a],[]⟩ [.ref a] [.ref a] _ _ hr e0 (hbind s₁ (.ref a)) (.cons rfl .nil) (uP H hO hS)) λr s' h=>?_;cases r with
  |error e=>exact(CQ H e s' h).elim
  |ok fl =>
   cases fl with
   |next=>exact False.elim h
   |brk=>exact False.elim h
   |cont=>exact False.elim h
   |ret u =>
    obtain⟨v,H',os,bare,un,KY,r',q⟩:=h;have q':v=.bl true:=q;subst q';obtain rfl:u=Value.bool true:=r';refine⟨rfl,OldK.of_keep λb o e=>?_,os,bare⟩;cases q:H b with
    |none=>exact un.keep b o e q (by intro z;exact absurd (show b∈([]:List Addr)from z) (by simp)) (by simp)
    |some u =>
     rcases hO b with z|⟨ob,xs,z⟩
     ·rw[q]at z;cases z
     ·have z2:=un.oY b ob _ z
      obtain⟨e1,_⟩:=hok b _ z;obtain⟨e2,_⟩:=KY b _ z2;rw[e]at e1;cases e1;exact e2
 cases hk:K.lookup a with
 |some o =>
  have e:=KX a o hk;rw[ha]at e;cases e;refine core (λ_=>none) (λ_=>.inl rfl) (.inr ⟨_,vs.toArray,_,hk,rfl,rfl,rfl,by rw[Zam,KW];exact hl,by simpa using rv⟩) (λb u z=>by have z':(none:Option HO)=some u:=z;cases z') (λb z=>absurd rfl z) λz=>absurd rfl z
 |none =>
  refine core (λb=>if b=a then some (.oX { cls:=.type "list",data:=.seq vs.toArray } (.lst (ns.map V.int)))else none) (λb=>?_) (.inl (.inr ⟨{ cls:=.type "list",data:=.seq vs.toArray },if_pos rfl⟩)) (λb u z=>?_) (λb z=>?_) λ_=>hk
  ·by_cases hb:b=a
   ·exact .inr ⟨_,_,if_pos hb⟩
   ·exact .inl (if_neg hb)
  ·by_cases hb:b=a
   ·have z':=(if_pos hb).symm.trans z
    cases z';subst hb;exact⟨ha,by rw[Zaa];exact hl,vs,_,rv,ha⟩
   ·have z':=(if_neg hb).symm.trans z
    cases z'
  ·by_cases hb:b=a
   ·exact hb
   ·exact absurd (if_neg hb) z
@[reducible]def KOf{K:Zfr}{h:Heap}(_:K.In h):Zfr:=K
def Uq{l:PySem.W.OpenLaw}{n k:Nat}{q:Program}{loose:List Str}{XP:(Str->Option Value)->Heap->Prop}{YP:World->Heap->Prop}{d:DefRec}{K:Params->Zfr}{CX:World->sx}{sp:World->Sp}{x:Str}
  (hn:l.most=some n) (hn2:n<=sizeLine) (hdf:d.params.defaults=[]) (hr:iN k callerA)
  (hY:∀(w:World) (h:Heap),YP w h->(K w.params).In h)
  (F:∀(w:World) (mg:Str->Option Value) (fa:Addr) (h:Heap),(K w.params).In h->h.Ns mainGlobals mg->mg d.name=some (.ref fa) ->
   ∃fd:FuncData,(∀(s:Shared) (u:Value),BindsTo s fd ⟨[u],[]⟩ [(x,u)]) /\
    ∀base:Heap,(K w.params).In base->base.Ns mainGlobals mg->aD l.prog w (K w.params) mg base (CX w) k fa fd [x] (sp w))
  (uP:∀(w:World) (H:Hp) (a:Addr) (ns:List Int),ns.length<=n->Only H->iL (K w.params) H a (ns.map V.int)->sp w [.ref a] H (λv _=>v=.bl true) λ_ _ _=>False)
  (CQ:∀(w:World) (H:Hp) (s:Shared) (e:Value) (s':Shared),CX w [] H s (λ_ _ _=>False) e s'->False) :
  PySem.W.WalkO q loose XP YP l.row.toRowW d [] (λf vs=>PySem.call f vs):=by
 refine Ot.Um hn hdf λw s₀ s₁ mg mb fa o pm cd doc a vs ns G Y ho hd hcd hmg hobj hints hlen hg=>?_;have KX:=hY w _ Y;obtain⟨fd,hb,hF⟩:=F w mg fa _ KX G.T.g hmg;exact Uo KX G.T.g G.T.b G.T.builtins G.T.nolimit hg hobj hints (Zap hlen hn2) hr hF hb (λH hO hS=>uP w H a ns hlen hO hS) λH e s'=>CQ w H s₁ e s'
def Ur{l:PySem.W.OpenLaw}{n k:Nat}{q:Program}{loose:List Str}{XP:(Str->Option Value)->Heap->Prop}{YP:World->Heap->Prop}{d:DefRec}{K:Params->Zfr}{CX:sx}{sp:Zfr->Sp}{x:Str}
  (hn:l.most=some n) (hn2:n<=sizeLine) (hdf:d.params.defaults=[]) (hr:iN k callerA)
  (hY:∀(w:World) (h:Heap),YP w h->(K w.params).In h)
  (F:∀(w:World) (mg:Str->Option Value) (fa:Addr) (h:Heap),(K w.params).In h->h.Ns mainGlobals mg->mg d.name=some (.ref fa) ->
   ∃fd:FuncData,(∀(s:Shared) (u:Value),BindsTo s fd ⟨[u],[]⟩ [(x,u)]) /\
    ∀base:Heap,(K w.params).In base->base.Ns mainGlobals mg->aD l.prog w (K w.params) mg base CX k fa fd [x] (sp (K w.params)))
  (uP:∀(K:Zfr) (H:Hp) (a:Addr) (ns:List Int),ns.length<=n->Only H->iL K H a (ns.map V.int)->sp K [.ref a] H (λv _=>v=.bl true) λ_ _ _=>False)
  (CQ:∀(H:Hp) (s:Shared) (e:Value) (s':Shared),CX [] H s (λ_ _ _=>False) e s'->False) :
  PySem.W.WalkO q loose XP YP l.row.toRowW d [] (λf vs=>PySem.call f vs) :=
 Uq (K:=K) (CX:=λ_=>CX) (sp:=λw=>sp (K w.params)) hn hn2 hdf hr hY F (λw H a ns h1 h2 h3=>uP (K w.params) H a ns h1 h2 h3) λ_ H s e s'=>CQ H s e s'
abbrev lZ(s:Stmt):Arguments:=match s with
 |.FunctionDef _ a _ _ _ _ _ _ _ _=>a
 |_=>{ posonlyargs:=[],args:=[],vararg:=none,kwonlyargs:=[],kw_defaults:=[],kwarg:=none,defaults:=[] }
abbrev kE(s:Stmt):List Stmt:=match s with
 |.FunctionDef _ _ b _ _ _ _ _ _ _=>b
 |_=>[]
abbrev au(s:Stmt):Scope:=match s with
 |.FunctionDef _ _ _ _ _ _ sc _ _ _=>sc
 |_=>{ kind:=.function,names:=[],isGenerator:=false,isCoroutine:=false }
@[reducible]def a7:sx:=λ_ _ _ _ _ _=>False
@[reducible]def E0:XK:=λ_ _ _=>False
def CS{X:Cx}:Passes a7 X E0:=λ_ _ _ _ _ _ _ h=>h.elim
structure Hc(K:Zfr)(x qual:Str)(st:Stmt)(f:Addr)(fd:FuncData):Prop where
 ex:∃(oc:Value) (od:Option Addr) (kV doc pm:Value) (an:Option Addr) (cdv ct:Value) (osl:Array (Option Value)),
  fd=PySem.W.fnOf x qual (lZ st) (kE st) (au st) .none kV doc pm an cdv ct/\K.lookup f=some ⟨oc,od,.func fd,osl⟩/\PySem.W.codeIn K cdv qual=true
 kp:PySem.W.keepIn K (.ref f)=true
section
variable {P:Program}{w:World}{K:Zfr}{mg:Str->Option Value}{base:Heap}
def Hc.ok{x qual:Str}{st:Stmt}{f:Addr}{fd:FuncData}{N ps:List Str}{k:Nat}{sp:Sp}(F:Hc K x qual st f fd)(S:aw N ps (au st))(len:∀vs H Q E,sp vs H Q E->vs.length=ps.length)
  (hbody:∀(cdv:Value) (A:Around) (outer:List Env) (s:Shared) (H:Hp) (vs:List V) (Q:VK) (E:XK),iN k (A.deeper (envOfC qual (au st) s.heap.objs.size f cdv))->sp vs H Q E ->
   ∃t,sr (fB a7 P w K mg base N qual (au st) f cdv A outer s H E).oA (kE st) t/\t { nx:=λ_ H'=>Q .non H',rt:=Q } (start N vs) H):aD P w K mg base a7 (k+1) f fd ps sp:=by
 obtain⟨oc,od,kV,doc,pm,an,cdv,ct,osl,rfl,lk,hcd⟩:=F.ex;refine CD lk hcd S len λA outer s H vs Q E hr uP=>?_;obtain⟨t,h,q⟩:=hbody cdv A outer s H vs Q E hr uP;exact⟨t,h.oA,q⟩
def yD{x qual:Str}{st:Stmt}{f:Addr}{oc:Value}{od an:Option Addr}{osl:Array (Option Value)}{kV doc pm cdv ct:Value}(l:K.lookup f=some ⟨oc,od,.func (PySem.W.fnOf x qual (lZ st) (kE st) (au st) .none kV doc pm an cdv ct),osl⟩)
  (c:PySem.W.codeIn K cdv qual=true) (k:PySem.W.keepIn K (.ref f)=true):Hc K x qual st f (PySem.W.fnOf x qual (lZ st) (kE st) (au st) .none kV doc pm an cdv ct):=⟨⟨oc,od,kV,doc,pm,an,cdv,ct,osl,rfl,l,c⟩,k⟩
end
def KZ{A:Around}{k:Nat}(hr:iN k A):A.units+1<cLine:=ZaT (Nat.add_le_add_left (by decide:1<=64) _) hr.units
section
variable {X:Cx}
def pv(i:Nat){x:Str}{pos:Pos}(hN:X.N[i]?=some x:=by rfl)(hv:Kh X.env.scope x:=by first | exact Or.inl rfl | exact Or.inr (Or.inl rfl) | exact Or.inr (Or.inr rfl))(hd:(x == ("__debug__" : Str))=false:=by decide)
  (hcd:(x == ("__classdict__" : Str))=false:=by decide):PE X (.Name x pos) (yf i):=yg hN hv hd hcd
end
def qI{A B:Prop}(h:B):if false=true then A else B:=by rw[if_neg Zan];exact h
def qJ{A B:Prop}(h:A):if true=true then A else B:=by rw[if_pos rfl];exact h
abbrev jV(H H':Hp):Prop:=∀b o,H b=some o->H' b=some o
def jV.refl(H:Hp):jV H H:=λ_ _ h=>h
def mM:bootBuiltins "len" = some (.builtin "len"):=by decide +kernel
def sy:bootBuiltins "list" = some (.type "list"):=by decide +kernel
def oQ:bootBuiltins "tuple" = some (.type "tuple"):=by decide +kernel
def uR:bootBuiltins "range" = some (.type "range"):=by decide +kernel
def K0:bootBuiltins "max" = some (.builtin "max"):=by decide +kernel
def K1:bootBuiltins "min" = some (.builtin "min"):=by decide +kernel
def Be:bootBuiltins "sorted" = some (.builtin "sorted"):=by decide +kernel
def Ov:bootBuiltins "all" = some (.builtin "all"):=by decide +kernel
def Us:bootBuiltins "reversed" = some (.type "reversed"):=by decide +kernel
structure Kp(ch:List Addr)(H H':Hp):Prop where
 keep:∀b o,H b=some o->b ∉ ch->H' b=some o
 tup:∀b xs,H b=some (.tup xs)->H' b=some (.tup xs)
 oX:∀b o u,H b=some (.oX o u)->H' b=some (.oX o u)
section
variable {ch:List Addr}{H H1 H2:Hp}{a l p:Addr}{o:HO}{xs ys:List V}{K:Zfr}
def Kp.refl:Kp ch H H:=⟨λ_ _ h _=>h,λ_ _ h=>h,λ_ _ _ h=>h⟩
def Kp.of_same(h:jV H H1):Kp ch H H1:=⟨λb o e _=>h b o e,λb xs e=>h b _ e,λb o u e=>h b _ e⟩
def Kp.put(h:Kp ch H H1)(ha:a∈ch)(e:H1 a=some (.lst xs)):Kp ch H (upd H1 a o) :=
 ⟨λb u q n=>by rw[kD (λz=>n (by rw[z];exact ha))];exact h.keep b u q n,
   λb u q=>by
  have r:=h.tup b u q;rw[kD (Ke r e (by intro z;cases z))];exact r,
   λb u v q=>by
  have r:=h.oX b u v q
  rw[kD (Ke r e (by intro z;cases z))];exact r⟩
def Kp.K2(h:Kp ch H H1)(q:eQ K H a xs):eQ K H1 a xs:=by
 rcases q with(q|⟨o,q⟩)|q
 exact .inl (.inl (h.tup a xs q));exact .inl (.inr ⟨o,h.oX a o _ q⟩);exact .inr q
abbrev CT(K:Zfr)(H:Hp)(a:Addr)(xs:List V):Prop :=
 (∃o,H a=some (.oX o (.lst xs))) \/
  ∃(o:Obj) (its:Array Value) (n:Nat),K.lookup a=some o/\o.cls=.type "list" /\ o.dict=none/\o.data=.seq its n/\its.size<=sizeLine/\Vals xs its.toList
def CT.sq(h:CT K H a xs):iL K H a xs:=h.elim (λ⟨o,e⟩=>.inl (.inr ⟨o,e⟩)) .inr
def iL.script(hO:Only H)(q:iL K H a xs):CT K H a xs:=by
 rcases q with(q|⟨o,q⟩)|q
 rcases hO a with e|⟨o,ys,e⟩
 rw[e]at q;cases q;rw[e]at q;cases q;exact .inl ⟨o,q⟩;exact .inr q
def jV.up(h:H p=none):jV H (upd H p o):=λb u e=>by rw[kD (A3 e h)];exact e
end
abbrev o8(K:Zfr)(H:Hp)(xs:List V)(Q:VK):Prop:=∀p H',eQ K H' p xs->jV H H'->Q (.ref p) H'
section
variable {X:Cx}
def o8.new{K:Zfr}{H:Hp}{xs:List V}{Q:VK}(h:o8 K H xs Q):∀p,H p=none->Q (.ref p) (upd H p (.tup xs)):=λp hp=>h p _ (eQ.of sP) (jV.up hp)
def o8.it{K:Zfr}{H:Hp}{xs:List V}{Q:VK}{a:Addr}(h:o8 K H xs Q)(q:eQ K H a xs):Q (.ref a) H:=h a H q (jV.refl H)
abbrev tT(K:Zfr):R2:=λx y H Q=>∃a b xs ys,x=.ref a/\y=.ref b/\eQ K H a xs/\eQ K H b ys/\xs.length+ys.length<=sizeLine/\o8 K H (xs ++ ys) Q
def xf:lA X (binaryOp .Add) (tT X.K):=by
 intro pins s σ H x y v u Q I rx ry h;obtain⟨a,b,xs,ys,rfl,rfl,ha,hb,hz,q⟩:=h;by_cases hx:xs=[];subst hx;cases rx;cases ry;obtain⟨its,r1,p1,_⟩:=I.tuple ha;obtain⟨its2,r2,p2,_⟩:=I.tuple hb;have e:its=[]:=r1.nH.mpr rfl;subst e;obtain⟨⟨cls,dd,data,sl⟩,ho,hc,n,hd⟩:=id p1;obtain⟨⟨Ky,dd2,data2,sl2⟩,ho2,hc2,n2,hd2⟩:=id p2;simp only at hc hd hc2 hd2;subst hc hd hc2 hd2;exact concat_meets ⟨_,ho,rfl⟩ ⟨_,ho2,rfl⟩ noFill_tuple_add seq_tuple_add PySem.F.slot_tuple_add PySem.F.entry_tuple_add (PySem.F.args_tuple_add_2 _ _)
  (tuple_addW0 a b #[] its2.toArray n n2 dd dd2 sl sl2 (by simp)) ⟨ho,ho2,⟨.ref b,H,I,rfl,q.it (by simpa using hb)⟩⟩
 exact TY pins s σ H _ _ v u Q I rx ry ⟨a,b,xs,ys,rfl,rfl,ha,hb,hx,hz,λe=>q.it (by subst e;simpa using ha),λ_=>q.new⟩
def Ut{prog:Program}{w:World}{A:Around}{E:Value->Shared->Prop}{s:Shared}{t sl:Addr}{items:Array Value}{vl vu:Value}{lo hi:Option Int}{Q:Value->Shared->Prop}(ht:IsTup s.heap t items)(hs:s.heap.IsSliceOf sl vl vu .none)(pl:IsPart vl lo)(pu:IsPart vu hi)
  (hw:HT.cH items.size 0 lo=0/\HT.cH items.size items.size hi=items.size) (h:Q (.ref t) s):wpAny (model prog w) A (getItem (.ref t) (.ref sl)) Q E s:=by
 obtain⟨os,hos,hcs,hds⟩:=id hs;have Kz:s.TypeIs (.ref sl) "slice" := ⟨os,hos,hcs⟩;unfold getItem
 try with_reducible refine wpAny_holding ?_
 first|refine wpAny_bind (wpAny_pure ?_)|skip
 refine wpAny_bind (wpAny_sequenceKey ht.typeIs ∅ ?_)
 refine wpAny_bind (wpAny_callSpecial?_slot (name:=Str.ofString "__getitem__") ht.typeIs PyProof.Rows.slot_tuple_getitem
  (wpAny_call_entry PyProof.Rows.slot_tuple_getitem ht.typeIs entry_tuple_getitem ?_ (args_tuple_getitem _ _)))
 show wpAny _ _ (Builtin.Tuple.tupleItemsOf (.ref t) >>= _) _ _ s;refine wpAny_bind (tupleItemsOf_ ht ?_);refine wpAny_bind (wpAny_typeOf Kz ?_);rw[if_pos ∅];refine wpAny_bind (HT.N5 hs pl pu ?_);have hyes:((((HT.cH items.size 0 lo:Nat):Int) == 0 && (1:Int) == 1 && (HT.cH items.size items.size hi-HT.cH items.size 0 lo) == items.size)=true):=by
  rw[hw.1,hw.2];simp
 show wpAny _ _ (if(((HT.cH items.size 0 lo:Nat):Int) == 0 && (1:Int) == 1 && (HT.cH items.size items.size hi-HT.cH items.size 0 lo) == items.size)=true then _ else _) _ _ s;rw[if_pos hyes];obtain⟨o,ho,hc,n,hd⟩:=id ht;unfold Builtin.Tuple.tupleIsExact
 first
  |exact wpAny_bind (wpAny_bind (wpAny_typeOf (T:="tuple") ⟨o,ho,hc⟩ (wpAny_pure (wpAny_bind (wpAny_rule (wpAny_pure ⟨_,rfl,wpAny_pure h⟩))))))
  |exact wpAny_bind (wpAny_bind (wpAny_typeOf (T:="tuple") ⟨o,ho,hc⟩ (wpAny_pure (wpAny_bind (wpAny_rule (wpAny_bind (wpAny_pure ⟨_,rfl,wpAny_pure h⟩)))))))
  |trace_state
abbrev xg(K:Zfr):V->Option Int->Option Int->Hp->VK->Prop:=λx lo hi H Q=>∃a xs,x=.ref a/\eQ K H a xs/\o8 K H (n5 xs lo hi) Q
def Uu{xs:List V}{lo hi:Option Int}(h:HT.cH xs.length 0 lo=0/\HT.cH xs.length xs.length hi=xs.length):n5 xs lo hi=xs:=by unfold n5;rw[h.1,h.2];simp
def Ow:G1 X (xg X.K):=by
 intro pins s σ H x v vl vu lo hi sl Q I rx hs pl pu h;obtain⟨a,xs,rfl,hx,q⟩:=h;by_cases hw:HT.cH xs.length 0 lo=0/\HT.cH xs.length xs.length hi=xs.length;cases rx;obtain⟨its,r,ht,hz⟩:=I.tuple hx;have hlen:its.toArray.size=xs.length:=by rw[Zam];exact r.length.symm
 refine⟨"tuple",_,PyProof.Rows.slot_tuple_getitem.lookup,ht.typeIs,?_⟩;exact Ut ht hs pl pu (by rw[hlen];exact hw) ⟨.ref a,H,I,rfl,q.it (by rw[Uu hw];exact hx)⟩;exact yw pins s σ H _ v vl vu lo hi sl Q I rx hs pl pu ⟨a,xs,rfl,hx,hw,q.new⟩
abbrev dw(lo:Int)(n:Nat):List V:=(List.range n).map λ(k:Nat)=>V.int (lo+k)
def Ox(lo:Int)(n:Nat):(dw lo n).length=n:=by simp[dw]
def Hd:du X (.type "range") (λxs H Q=>∃j:Int,xs=[.int j]/\∀p,H p=none->Q (.ref p) (upd H p (.jR 0 j))):=by intro pins s σ H xs us Q I r h;obtain⟨j,rfl,q⟩:=h;obtain⟨u,rfl,t,rfl⟩:=vals1 r;refine call_range_1 ⟨.ref s.heap.objs.size,_,I.laid (o:=.jR 0 j) (λb o e=>Zai _ e) (Zad _) ?_,rfl,q _ (I.hok.fresh (Zad _))⟩;exact⟨_,_,_,Zar _ rfl⟩
def Bf:du X (.type "range") (λxs H Q=>∃i j:Int,xs=[.int i,.int j]/\∀p,H p=none->Q (.ref p) (upd H p (.jR i j))):=by intro pins s σ H xs us Q I r h;obtain⟨i,j,rfl,q⟩:=h;obtain⟨u,u',rfl,⟨t,rfl⟩,t',rfl⟩:=vals2 r;refine call_range_2 ⟨.ref s.heap.objs.size,_,I.laid (o:=.jR i j) (λb o e=>Zai _ e) (Zad _) ?_,rfl,q _ (I.hok.fresh (Zad _))⟩;exact⟨_,_,_,Zar _ rfl⟩
def K3:∀(n:Nat) (lo:Int) (us:List Value),us.length=n->(∀(j:Nat) (v:Value),us[j]?=some v->∃t,v=.int (lo+j*1) t)->Vals (dw lo n) us
 |0,lo,[],_,_=>.nil
 |0,lo,_ :: _,h,_=>by simp at h
 |n+1,lo,[],h,_=>by simp at h
 |n+1,lo,u :: us,h,hv=>by
  have e:dw lo (n+1)=V.int lo :: dw (lo+1) n:=by
   unfold dw;rw[List.range_succ_eq_map,Zay,Zas]
   congr 1
   simp;apply ZaJ;intro i _;simp only[Function.comp]
   congr 1
   push_cast
   lk
  rw[e];obtain⟨t,ht⟩:=hv 0 u rfl;refine .cons ⟨t,by rw[ht];simp⟩ (K3 n (lo+1) us (by simpa using h) λj v hj=>?_);obtain⟨t',ht'⟩:=hv (j+1) v hj;refine⟨t',ht'.trans ?_⟩
  congr 1
  lk
def vn(hc:X.calm=true):du X (.type "list") (λxs H Q=>∃p lo hi,xs=[.ref p]/\H p=some (.jR lo hi)/\(-(2 ^ 62)<=lo/\lo<2 ^ 62/\-(2 ^ 62)<=hi/\hi<2 ^ 62)/\(hi-lo).toNat<=2 ^ 24 /\
  ∀l,H l=none->Q (.ref l) (upd H l (.lst (dw lo (hi-lo).toNat)))):=by
 intro pins s σ H xs us Q I r h;obtain⟨p,lo,hi,rfl,hp,⟨b1,b2,b3,b4⟩,hz,q⟩:=h;obtain⟨u,rfl,ru⟩:=vals1 r;cases ru;obtain⟨t,t',t'',e⟩:=(show cu X.prog X.w H s.heap p (.jR lo hi)from I.hok p _ hp);refine call_list_range (a:=lo) (b:=hi) (c:=1) (n:=(hi-lo).toNat) (I.ok.hd hc) (show IsRange s.heap p lo hi 1 t t' t'' from e) (small_one b1 b2 b3 b4) (by rw[rangeSize_one];split<;>lk) hz λh' tk acc c kp hD hI=>?_;refine⟨.ref s.heap.objs.size,_,I.laid (t':=tk) (o:=.lst (dw lo (hi-lo).toNat)) kp (Zad _) ?_,rfl,q _ (I.hok.fresh (Zad _))⟩;refine⟨by rw[Ox];exact Zap hz ∅,acc.toList,c,K3 _ _ _ (by rw[Zbi];exact hI.1) λj v hj=>hI.2 j v (by rw[<- hj,Zbb]),by simpa using hD⟩
def Uv{prog:Program}{w:World}{A:Around}{E:Value->Shared->Prop}{s:Shared}{l:Addr}{vs:List Value}{Q:List Value->Shared->Prop}(hl:IsTup s.heap l vs.toArray)
  (h:Q vs { s with heap:=(s.heap.push (seqObj "list" #[] 0)).update s.heap.objs.size (Obj.mapSeq (· ++ vs.toArray)) }) (hsz:vs.length<=sizeLine) :
  wpAny (model prog w) A (collect (.ref l)) Q E s:=by
 obtain⟨o,ho,hc,n,hd⟩:=id hl;unfold collect;refine wpAny_bind (wpAny_runValue (codeAny_builtin entry_proto_collect' ?_));show wpAny _ _ (do again (.builtin "list.__iadd__" ⟨[<- newList [],.ref l],[]⟩)) _ _ s;refine wpAny_bind (wpAny_newList (wpAny_pure ⟨Code.quiet_builtin _ (by decide +kernel),codeAny_builtin entry_list_iadd' ?_⟩));show wpAny _ _ (Builtin.List.listExtendWith (.ref s.heap.objs.size) (.ref l) (.ref s.heap.objs.size)) _ _ { s with heap:=s.heap.push (seqObj "list" #[] 0) };unfold Builtin.List.listExtendWith;have ho':(s.heap.push (seqObj "list" #[] 0)).get? l=some o:=Zai _ ho;refine wpAny_bind (wpAny_typeOf (T:="tuple") ⟨o,ho',hc⟩ ?_);have ht:(Value.type "tuple" == Value.type "tuple")=true:=by rfl
 rw[if_pos (by rw[ht];simp)];refine wpAny_bind (listItems_at ho' hd ?_);refine wpAny_bind (listItems_at (xs:=#[]) (n:=0) (Zar _ rfl) rfl ?_);rw[if_neg (by simp)];refine wpAny_bind (listUpdate_at (xs:=#[]) (n:=0) (Zar _ rfl) rfl ?_ (ZaO _) (by show(#[] ++ vs.toArray).size<=sizeLine+1;simp only[Array.size_append,Zam,ZbB];lk));refine wpAny_pure ?_
 show wpAny (model prog w) A (do
   let o <- load s.heap.objs.size
   match o.data with
   |.seq xs _=>pure xs.toList
   |_=>unsupported "internal:collect") Q E { s with heap:=(s.heap.push (seqObj "list" #[] 0)).update s.heap.objs.size (Obj.mapSeq (· ++ vs.toArray)) }
 refine wpAny_bind (wpAny_load (get?_update_seq (Zar _ rfl) _) ?_);show wpAny _ _ (pure ((#[]:Array Value) ++ vs.toArray).toList) Q E _;rw[show((#[]:Array Value) ++ vs.toArray).toList=vs by simp];exact wpAny_pure h
def Uw{prog:Program}{w:World}{A:Around}{E:Value->Shared->Prop}{s:Shared}{l:Addr}{vs:List Value}{ns:List Int}{Q:Value->Shared->Prop}(hl:IsTup s.heap l vs.toArray\/s.heap.IsList l vs.toArray)(hI:IntsAre vs ns)(h64:vs.length<64)
  (h:∀(out:Array Value) (ns':List Int),IntsAre out.toList ns'->ns'.Perm ns->ns'.Pairwise (·<=·)->Q (.ref (s.heap.objs.size+1)) { s with heap:=sortedAll s.heap vs out }) :
  wpAny (model prog w) A (call (.builtin "sorted") [.ref l]) Q E s:=by
 rcases hl with hl|hl
 refine Calls.call_function_entry kind_sorted plain_sorted entry_sorted (args_sorted1 _) ?_;unfold Builtin.«sorted»;refine wpAny_bind (m:=checkCount "sorted" 1 1 _) (wpAny_pure ?_);refine wpAny_bind (Uv hl ?_ (Zap (Zbw h64) ∅));refine wpAny_bind (wpAny_newList ?_);have hsz:((s.heap.push (seqObj "list" #[] 0)).update s.heap.objs.size (Obj.mapSeq (· ++ vs.toArray))).objs.size=s.heap.objs.size+1:=by
  rw[Heap.size_update,size_push']
 have ye:(((s.heap.push (seqObj "list" #[] 0)).update s.heap.objs.size (Obj.mapSeq (· ++ vs.toArray))).push (seqObj "list" vs.toArray 0)).get? (s.heap.objs.size+1)=some (seqObj "list" vs.toArray 0):=by
  rw[<- hsz];exact Zar _ rfl
 show wpAny _ _ _ _ _ { s with heap:=((s.heap.push (seqObj "list" #[] 0)).update s.heap.objs.size (Obj.mapSeq (· ++ vs.toArray))).push (seqObj "list" vs.toArray 0) };rw[hsz];refine wpAny_bind (wpAny_holding (wpAny_call_entry slot_list_sort ⟨_,ye,rfl⟩ entry_list_sort (list_sort_tree ye hI h64 λout ns' a1 a2 a3=>⟨_,rfl,?_⟩) (args_list_sort _)));exact wpAny_pure ⟨_,rfl,h out ns' a1 a2 a3⟩;exact sorted_ints hl hI h64 h
def CU:du X (.builtin "sorted") (λxs H Q=>∃(p:Addr) (ns:List Int),xs=[.ref p]/\(iL X.K H p (ns.map V.int)\/eQ X.K H p (ns.map V.int))/\ns.length<64 /\
  ∀(l:Addr) (ms:List Int),H l=none->ms.Perm ns->ms.Pairwise (·<=·)->Q (.ref l) (upd H l (.lst (ms.map V.int)))):=by
 intro pins s σ H xs us Q I r h;obtain⟨p,ns,rfl,hq,h64,q⟩:=h;obtain⟨u,rfl,ru⟩:=vals1 r;cases ru;have fin:∀(its:List Value),Vals (ns.map V.int) its->(IsTup s.heap p its.toArray\/s.heap.IsList p its.toArray)->wpAny (model X.prog X.w) X.A (call (.builtin "sorted") [.ref p]) (EP X pins σ Q) X.xe s:=λits rv hp=>by
  have hl:=rv.length;rw[Zaa]at hl;refine Uw hp (N6 rv) ⋯ λout ms h1 h2 h3=>?_;obtain⟨e,he⟩:=sortedAll_at s.heap its out;have hz:ms.length=ns.length:=h2.length_eq;refine⟨.ref (s.heap.objs.size+1),_,I.laid (t':=s.toks) (o:=.lst (ms.map V.int)) (λb o q=>sortedAll_old q) (ZbU _) ?_,rfl,q _ ms (I.hok.fresh (ZbU _)) h2 h3⟩;refine⟨by rw[Zaa,hz];exact Zap (Zbw h64) ∅,out.toList,e,KS h1,by simpa using he⟩
 rcases hq with hq|hq
 obtain⟨its,rv,pl,_⟩:=I.list hq;exact fin its rv (.inr pl.isList);obtain⟨its,rv,pl,_⟩:=I.tuple hq;exact fin its rv (.inl pl)
end
mutual
inductive Rep(K:Zfr)(H:Hp):V->PyData->Prop
 |non:Rep K H .non .none
 |bl (b:Bool):Rep K H (.bl b) (.bool b)
 |int (i:Int):Rep K H (.int i) (.int i)
 |str (x:Str):Rep K H (.str x) (.str x)
 |tup {a:Addr} {xs:List V} {ds:List PyData}:eQ K H a xs->fD K H xs ds->Rep K H (.ref a) (.tuple ds)
 |lst {a:Addr} {xs:List V} {ds:List PyData}:iL K H a xs->fD K H xs ds->Rep K H (.ref a) (.list ds)
inductive fD(K:Zfr)(H:Hp):List V->List PyData->Prop
 |nil:fD K H [] []
 |cons {v:V} {vs:List V} {d:PyData} {ds:List PyData}:Rep K H v d->fD K H vs ds->fD K H (v :: vs) (d :: ds)
end
section
variable {X:Cx}{pins:List (Addr×Obj)}{σ:St}{H:Hp}{s:Shared}
mutual
def Rep.reads(I:Inv X pins σ H s):∀{v:V} {d:PyData} {u:Value},Rep X.K H v d->RelV v u->∃as,Reads s.heap u d as
 |_,_,_,.non,r=>by cases r;exact⟨_,.none⟩
 |_,_,_,.bl b,r=>by cases r;exact⟨_,.bool b⟩
 |_,_,_,.int i,r=>by obtain⟨t,rfl⟩:=r;exact⟨_,.int i t⟩
 |_,_,_,.str x,r=>by obtain⟨t,rfl⟩:=r;exact⟨_,.str x t⟩
 |_,_,_,.tup q rs,r=>by
  cases r;obtain⟨its,rv,⟨o,e,c,n,hd⟩,_⟩:=I.tuple q;obtain⟨as,ra⟩:=fD.reads I rs rv;exact⟨_,.tuple e c hd (by simpa using ra)⟩
 |_,_,_,.lst q rs,r=>by
  cases r;obtain⟨its,rv,pl,_⟩:=I.list q;obtain⟨o,e,c,n,hd⟩:=pl.isList;obtain⟨as,ra⟩:=fD.reads I rs rv;exact⟨_,.list e c hd (by simpa using ra)⟩
def fD.reads(I:Inv X pins σ H s):∀{vs:List V} {ds:List PyData} {us:List Value},fD X.K H vs ds->Vals vs us->∃as,ReadsAll s.heap us ds as
 |_,_,_,.nil,r=>by cases r;exact⟨_,.nil⟩
 |_,_,_,.cons h t,r=>by
  cases r with
  |cons r1 r2 =>
   obtain⟨as,h1⟩:=Rep.reads I h r1;obtain⟨bs,h2⟩:=fD.reads I t r2;exact⟨_,.cons h1 h2⟩
end
abbrev yE(K:Zfr)(neg:Bool):R2:=λx y H Q=>∃d e,Rep K H x d/\Rep K H y e/\PyData.canLay0 d=true/\PyData.canLay0 e=true/\min d.depth e.depth<=60/\Q (.bl (if neg then !PyData.eqv d e else PyData.eqv d e)) H
def Oy(hu:X.A.units+64<cLine):lA X (compareOp .Eq) (yE X.K false):=by intro pins s σ H x y v u Q I rx ry h;obtain⟨d,e,hd,he,c1,c2,dp,q⟩:=h;obtain⟨as,ra⟩:=hd.reads I rx;obtain⟨bs,rb⟩:=he.reads I ry;exact SeqAt.eqOverData X.prog X.w X.A X.xe s v u d e as bs _ ra rb c1 c2 ⋯ ⟨.bl _,H,I,rfl,q⟩
def Bg(hu:X.A.units+64<cLine):lA X (compareOp .NotEq) (yE X.K true):=by intro pins s σ H x y v u Q I rx ry h;obtain⟨d,e,hd,he,c1,c2,dp,q⟩:=h;obtain⟨as,ra⟩:=hd.reads I rx;obtain⟨bs,rb⟩:=he.reads I ry;exact SeqAt.neOverData X.prog X.w X.A X.xe s v u d e as bs _ ra rb c1 c2 ⋯ ⟨.bl _,H,I,rfl,q⟩
end
section
variable {K:Zfr}{H:Hp}
abbrev dh(ns:List Int):List PyData:=ns.map PyData.int
def xh:∀(ns:List Int),PyData.canLayAll0 (dh ns)=true
 |[]=>rfl
 |n :: r=>by show(true && PyData.canLayAll0 (dh r))=true;rw[xh r];rfl
def Bh:∀(ns:List Int),PyData.depthAll (dh ns)=0
 |[]=>rfl
 |n :: r=>by show max 0 (PyData.depthAll (dh r))=0;rw[Bh r];rfl
def Bi:∀(ns ms:List Int),PyData.eqvAll (dh ns) (dh ms)=decide (ns=ms)
 |[],[]=>rfl
 |[],_ :: _=>rfl
 |_ :: _,[]=>rfl
 |n :: ns,m :: ms=>by
  show((n == m) && PyData.eqvAll (dh ns) (dh ms))=decide (n :: ns=m :: ms);rw[Bi ns ms];by_cases h:n=m;subst h;simp;simp[h]
end
end L2
namespace L2
open PySem PySem.Spec PyProof.Rows
structure Def(K:Zfr)(mg:Str->Option Value)(x:Str)(st:Stmt)(ps:List Str)(f:Addr)(fd:FuncData):Prop where
 F:Hc K x x st f fd
 be:∀us:List Value,us.length=ps.length->bindArgs fd ⟨us,[]⟩=pure (ps.zip us)
 m:mg x=some (.ref f)
def Def.b{K:Zfr}{mg:Str->Option Value}{x:Str}{st:Stmt}{ps:List Str}{f:Addr}{fd:FuncData}(D:Def K mg x st ps f fd):Binds K fd ps []:=.all D.be
def d7{K:Zfr}{h:Heap}{mg:Str->Option Value}(X:K.In h)(G:h.Ns mainGlobals mg){x:Str}{st:Stmt}{ps:List Str}{f:Addr}{oc:Value}{od an:Option Addr}{osl:Array (Option Value)}{kV doc pm cdv ct:Value}
  (hb:∀(kV doc pm:Value) (an:Option Addr) (cdv ct:Value) (us:List Value),us.length=ps.length->bindArgs (PySem.W.fnOf x x (lZ st) (kE st) (au st) .none kV doc pm an cdv ct) ⟨us,[]⟩=pure (ps.zip us))
  (a:PySem.W.nsIn K mainGlobals x=some (some (.ref f))) (l:K.lookup f=some ⟨oc,od,.func (PySem.W.fnOf x x (lZ st) (kE st) (au st) .none kV doc pm an cdv ct),osl⟩)
  (c:PySem.W.codeIn K cdv x=true) (k:PySem.W.keepIn K (.ref f)=true):∃f fd,Def K mg x st ps f fd :=
 ⟨f,_,yD l c k,hb kV doc pm an cdv ct,PySem.W.mg_of X G a⟩
def Def.vo{K:Zfr}{mg:Str->Option Value}{x p:Str}{st:Stmt}{f:Addr}{fd:FuncData}(D:Def K mg x st [p] f fd)(s:Shared)(u:Value):BindsTo s fd ⟨[u],[]⟩ [(p,u)]:=.of_eq (D.be [u] rfl)
def tU{K:Zfr}{h:Heap}{mg:Str->Option Value}(X:K.In h)(G:h.Ns mainGlobals mg){x:Str}(z:PySem.W.nsIn K mainGlobals x=some none):mg x=none:=PySem.W.mg_none_of X G z
def CV{n j:Nat}(h:j<n):mH n (j:Int)=some j:=by unfold mH;rw[if_pos ⋯,if_pos ⋯];simp
def yF{α:Type}{xs:List α}{i:Int}(h0:0<=i)(h1:i<xs.length):∃v,gH xs i=some v/\v∈xs:=by
 have hi:i.toNat<xs.length:=by lk
 refine⟨xs[i.toNat],?_,ZaM hi⟩;have:=uQ (xs:=xs) (j:=i.toNat) (v:=xs[i.toNat]) (by simp[hi])
 rwa [ZaN h0]at this
def dT{c:Prop}[Decidable c](h:decide c=true):c:=of_decide_eq_true h
def CW:∀(names:List (Str×NameKind)) (n:Nat) (acc:List (Str×Addr)),cellsFrom n names acc=cellsFrom n names [] ++ acc
 |[],_,_=>rfl
 |(x,k) :: r,n,acc=>by
  show(if k == .cell then cellsFrom (n+1) r ((x,n) :: acc)else cellsFrom n r acc)=(if k == .cell then cellsFrom (n+1) r [(x,n)]else cellsFrom n r []) ++ acc;by_cases hk:(k == NameKind.cell)=true;rw[if_pos hk,if_pos hk,CW r (n+1) ((x,n) :: acc),CW r (n+1) [(x,n)],Zbq];rfl;rw[if_neg hk,if_neg hk];exact CW r n acc
def K4{x:Str}{c:Addr}:∀(names:List (Str×NameKind)) (n:Nat),(x,c)∈cellsFrom n names []->(x,NameKind.cell)∈names/\n<=c
 |[],_,h=>nomatch h
 |(y,k) :: r,n,h=>by
  have h':(x,c)∈(if k == .cell then cellsFrom (n+1) r [(y,n)]else cellsFrom n r []):=h;by_cases hk:(k == NameKind.cell)=true;rw[if_pos hk,CW]at h';rcases ZaF.mp h' with h'|h'
  obtain⟨h1,h2⟩:=K4 r (n+1) h';exact⟨Zag _ h1,by lk⟩;have e:(x,c)=(y,n):=by simpa using h'
  cases e;have e2:k=NameKind.cell:=by simpa using hk
  subst e2;exact⟨Zae,Zad _⟩;rw[if_neg hk]at h';obtain⟨h1,h2⟩:=K4 r n h';exact⟨Zag _ h1,h2⟩
def K5{env:Env}(f:Str×NameKind->List (Str×Addr)->Sem (ForInStep (List (Str×Addr))))
  (hf:∀name kind cs,f (name,kind) cs=if kind == .free then(do let c <- cellOf env name;pure (.yield ((name,c) :: cs)))else pure (.yield cs)) :
  ∀(names:List (Str×NameKind)) (acc:List (Str×Addr)),(∀y∈names,y.2=NameKind.free->∃c,env.cells.lookup y.1=some c) ->
   ∃cl,(forIn names acc f:Sem (List (Str×Addr)))=pure cl/\(∀n c,(n,c)∈cl->(n,c)∈acc\/(env.cells.lookup n=some c/\(n,NameKind.free)∈names))/\(∀p∈acc,p∈cl)/\∀n,(n,NameKind.free)∈names->∃c,(n,c)∈cl
 |[],acc,_=>⟨acc,by rw[List.forIn_nil],λn c h=>.inl h,λp h=>h,λn h=>nomatch h⟩
 |(x,k) :: r,acc,h=>by
  have hr:∀y∈r,y.2=NameKind.free->∃c,env.cells.lookup y.1=some c:=λy hy=>h y (Zag _ hy);by_cases hk:k=NameKind.free;subst hk;obtain⟨c,hc⟩:=h (x,.free) Zae rfl;have e:cellOf env x=pure c:=by unfold cellOf;rw[hc]
  obtain⟨cl,e1,h1,h2,h3⟩:=K5 f hf r ((x,c) :: acc) hr;refine⟨cl,?_,λn d hd=>?_,λp hp=>h2 p (Zag _ hp),λn hn=>?_⟩;rw[List.forIn_cons,hf,if_pos (by rfl),e];exact e1;rcases h1 n d hd with q|⟨q,q'⟩
  rcases ZaA.mp q with q|q
  cases q;exact .inr ⟨hc,Zae⟩;exact .inl q;exact .inr ⟨q,Zag _ q'⟩;rcases ZaA.mp hn with q|q
  cases q;exact⟨c,h2 _ Zae⟩;exact h3 n q;obtain⟨cl,e1,h1,h2,h3⟩:=K5 f hf r acc hr;have hb:¬((k == NameKind.free)=true):=by simpa using hk
  refine⟨cl,?_,λn d hd=>?_,h2,λn hn=>?_⟩;rw[List.forIn_cons,hf,if_neg hb];exact e1;rcases h1 n d hd with q|⟨q,q'⟩
  exact .inl q;exact .inr ⟨q,Zag _ q'⟩;rcases ZaA.mp hn with q|q
  cases q;exact absurd rfl hk;exact h3 n q
def Oz{scope:Scope}{env:Env}(h:∀y∈scope.names,y.2=NameKind.free->∃c,env.cells.lookup y.1=some c):
  ∃cl,closureFor scope env=pure cl/\(∀n c,(n,c)∈cl->env.cells.lookup n=some c/\(n,NameKind.free)∈scope.names)/\∀n,(n,NameKind.free)∈scope.names->∃c,(n,c)∈cl:=by
 have key:∀ (f:Str×NameKind->List (Str×Addr)->Sem (ForInStep (List (Str×Addr)))),(∀ name kind cs,f (name,kind) cs=if kind == .free then(do let c <- cellOf env name;pure (.yield ((name,c) :: cs)))else pure (.yield cs)) ->
   ∃cl,((forIn scope.names [] f:Sem (List (Str×Addr))) >>= λr=>pure r)=pure cl/\(∀n c,(n,c)∈cl->env.cells.lookup n=some c/\(n,NameKind.free)∈scope.names)/\∀n,(n,NameKind.free)∈scope.names->∃c,(n,c)∈cl:=λf hf=>by
  obtain⟨cl,e,h1,_,h3⟩:=K5 f hf scope.names [] h;refine⟨cl,?_,λn c hc=>(h1 n c hc).elim (λz=>nomatch z) id,h3⟩;rw[e];rfl
 simp only[closureFor];exact key _ λname kind cs=>by cases hk:kind == NameKind.free<;>simp[hk]
def ltN{a b:Addr}(h:a<b):@LT.lt Nat _ a b:=h
def yd{a b:Addr}(h:@LT.lt Nat _ a b):a≠b:=ZaS h
def OA{a b:Addr}(h:@LT.lt Nat _ b a):a≠b:=Nat.ne_of_gt h
def Ux{M:Model}{A:Around}{E:Value->Shared->Prop}{s:Shared}{scope:Scope}{g:Addr}{cl:List (Str×Addr)}{q:Str}{env:Env}{Q:Env->Shared->Prop}
  (h:∀h',h'.Ns s.heap.objs.size (λ_=>none)->(∀b o,s.heap.get? b=some o->h'.get? b=some o)->CellsOk h' (s.heap.objs.size+1) (cellsFrom (s.heap.objs.size+1) scope.names []) ->
   Q { scope:=scope,locals:=s.heap.objs.size,globals:=g,cells:=cellsFrom (s.heap.objs.size+1) scope.names cl,qual:=q,func:=none,code:=env.code,frame:=env.frame,builtins:=env.builtins } { s with heap:=h' }) :
  wpAny M A (newFunctionEnv scope g cl [] q none .none (some env)) Q E s:=by
 simp only[newFunctionEnv,Option.isSome_some,if_true];refine wpAny_bind (wpAny_alloc ?_);refine wpAny_bind (wpAny_layCells _ (λname kind cells=>by cases hkc:kind == NameKind.cell<;>simp[hkc]) _ _ _ _ ?_);have ok:=cellsFrom_ok scope.names (s.heap.push { cls:=.type "dict",data:=.dict #[] }) (s.heap.objs.size+1) [] ⟨λ_ _ hm=>(nomatch hm),List.Pairwise.nil⟩ (by rw[ZbV];exact Zad _);rw[ZbV]at ok;rw[show({ s with heap:=s.heap.push { cls:=.type "dict",data:=.dict #[] } }:Shared).heap.objs.size=s.heap.objs.size+1 from ZbV ..];refine wpAny_bind ?_;rw[List.forIn_nil];refine wpAny_pure (wpAny_pure ?_);exact h _ ((Heap.Ns.new s.heap (.type "dict")).keeps (pushCells_keeps _ _)) (λb o e=>pushCells_keeps _ _ b o (Zai _ e)) ok
abbrev aQ(X:Cx)(N:List Str)(scope:Scope)(cells:List (Str×Addr))(C:Addr)(fp:List Addr)(s:Shared)(H:Hp):Cx where
 prog:=X.prog
 w:=X.w
 K:=X.K
 mg:=X.mg
 base:=X.base
 A:=X.A
 N:=N
 s₀:=s
 H₀:=H
 env:=compEnvC scope cells C X.env
 outer:=X.stack
 stack:=X.stack
 ex:=fp
 fn:=λx=>decide (scope.names.lookup x=some .cell)
 calm:=X.calm
 pn:=[]
 xe:=λ_ _=>False
abbrev tV(scope sc:Scope):Scope :=
 { scope with names:=scope.names.map λ(n,k)=>if(k == .free && sc.kind == .function && sc.names.lookup n == some .cell)then(n,.cell)else(n,k) }
structure tW(sc scope:Scope)(own fr:List Str):Prop where
 kind:scope.kind=.function
 nd:(own ++ fr).Nodup
 Bj:(scope.names.map (·.1)).Nodup
 free:∀y∈scope.names,y.2=.free->sc.names.lookup y.1=some .cell\/sc.names.lookup y.1=some .free
 K7:∀x∈fr,scope.names.lookup x=some .free
structure gf(X:Cx)(scope:Scope)(own fr:List Str)(js:List Nat):Prop where
 c:tW X.env.scope scope own fr
 ix:js.map (λj=>X.N[j]?)=fr.map some
def gf.kind{X:Cx}{scope:Scope}{own fr:List Str}{js:List Nat}(S:gf X scope own fr js):scope.kind=.function:=S.c.kind
def gf.Bj{X:Cx}{scope:Scope}{own fr:List Str}{js:List Nat}(S:gf X scope own fr js):(scope.names.map (·.1)).Nodup:=S.c.Bj
def gf.K7{X:Cx}{scope:Scope}{own fr:List Str}{js:List Nat}(S:gf X scope own fr js):∀x∈fr,scope.names.lookup x=some .free:=S.c.K7
def gf.free{X:Cx}{scope:Scope}{own fr:List Str}{js:List Nat}(S:gf X scope own fr js):∀y∈scope.names,y.2=.free->X.env.kindOf y.1=some .cell\/X.env.kindOf y.1=some .free:=S.c.free
def CY{α:Type}:∀{l:List (Str×α)} {n:Str} {c:α},(l.map (·.1)).Nodup->(n,c)∈l->l.lookup n=some c
 |(k,v) :: r,n,c,nd,h=>by
  obtain⟨h1,h2⟩:=Zbc.mp nd;rw[ZbH];rcases ZaA.mp h with e|h
  cases e;simp
  have:(n == k)=false:=beq_eq_false_iff_ne.mpr λe=>h1 (by rw[<- e];exact Zah.mpr ⟨(n,c),h,rfl⟩)
  rw[this];exact CY h2 h
def OB(scope:Scope)(env:Env)(x:Str):(relabel scope env).names.lookup x=none/\scope.names.lookup x=none \/
  ∃k,scope.names.lookup x=some k/\(relabel scope env).names.lookup x=some (if(k == .free && env.scope.kind == .function && env.kindOf x == some .cell)then .cell else k):=by
 have key:∀ names:List (Str×NameKind),(names.map λ(n,k)=>if(k == NameKind.free && env.scope.kind == .function && env.kindOf n == some .cell)then(n,NameKind.cell)else(n,k)).lookup x=none/\names.lookup x=none \/
   ∃k,names.lookup x=some k/\(names.map λ(n,k)=>if(k == NameKind.free && env.scope.kind == .function && env.kindOf n == some .cell)then(n,NameKind.cell)else(n,k)).lookup x=some (if(k == .free && env.scope.kind == .function && env.kindOf x == some .cell)then .cell else k):=by
  intro names
  induction names with
  |nil=>exact .inl ⟨rfl,rfl⟩
  |cons p r ih =>
   obtain⟨n,k⟩:=p;rw[Zay];cases hx:x == n with
   |true =>
    have e:x=n:=by simpa using hx
    subst e;refine .inr ⟨k,by simp[ZbH],?_⟩;by_cases hc:(k == NameKind.free && env.scope.kind == .function && env.kindOf x == some .cell)=true;simp only[if_pos hc];simp[ZbH];simp only[if_neg hc];simp[ZbH]
   |false =>
    have e1:∀q:NameKind,(((n,q) :: (r.map λ(n,k)=>if(k == NameKind.free && env.scope.kind == .function && env.kindOf n == some .cell)then(n,NameKind.cell)else(n,k))).lookup x)=((r.map λ(n,k)=>if(k == NameKind.free && env.scope.kind == .function && env.kindOf n == some .cell)then(n,NameKind.cell)else(n,k)).lookup x):=λq=>by rw[ZbH,hx]
    have e2:((n,k) :: r).lookup x=r.lookup x:=by rw[ZbH,hx]
    rw[e2];by_cases hc:(k == NameKind.free && env.scope.kind == .function && env.kindOf n == some .cell)=true;simp only[if_pos hc];rw[e1];exact ih;simp only[if_neg hc];rw[e1];exact ih
 exact key scope.names
abbrev j7(n:Nat)(js:List Nat)(σ:St):St:=List.replicate n none ++ js.map λj=>σ.getD j none
def Inv.CZ{X:Cx}{pins:List (Addr×Obj)}{σ:St}{H:Hp}{s:Shared}{a:Addr}{o:HO}(I:Inv X pins σ H s)(f:lX X pins H a)(new:cu X.prog X.w (upd H a o) s.heap a o):Inv X pins σ (upd H a o) s:=by
 obtain⟨f0,f1,f2,f3,f4,f5⟩:=f;have ne:∀b u,H b=some u->b≠a:=λb u e z=>by rw[z,f0]at e;cases e
 refine I.step (h':=s.heap) (H':=upd H a o) (g':=s.gens) (d':=s.drawn) (t':=s.toks) (ch:=[a]) (λb hb=>?_) (λb u _ _ _ e _=>e) (λb u _ _ _ e _=>⟨u.slots,e⟩) (λb u hb e n=>?_) (λb u _ e=>⟨u,e⟩)
  (λb xs e=>by rw[kD (ne b _ e)];exact e) (λb u xs e=>by rw[kD (ne b _ e)];exact e) (λb ps e=>⟨#[],by rw[kD (ne b _ e),e];simp⟩) (λm hm=>hm) (λb u e=>?_) I.bare
 have e:b=a:=by simpa using hb
 subst e;exact⟨f3,f1,f4,f5⟩;rw[kD (λz=>hb (by simp[z]))];exact n;by_cases hb:b=a;subst hb;rw[sP]at e;cases e;exact new;rw[kD hb]at e;exact(I.hok b u e).stay (λc v _ q=>q) (λc q=>by rw[kD (ne c _ q)];exact q) λc xs q=>by rw[kD (ne c _ q)];exact q
abbrev PF(X:Cx)(ifs:List Expr)(t:TT):Prop :=
 ∀(pins:List (Addr×Obj)) (s:Shared) (σ:St) (H:Hp) (Q:Bool->Hp->Prop),Inv X pins σ H s->t σ H Q ->
  wpAny (model X.prog X.w) X.A (forIn ifs true λc r=>if r=true then do let ok <- isTrue c X.env (eval c X.env);pure (ForInStep.yield ok)else pure (ForInStep.yield r)) (TP X pins σ Q) X.xe s
def rA{X:Cx}:PF X [] (λ_ H Q=>Q true H):=λ_ _ _ H _ I h=>wpAny_tests_nil ⟨H,I,h⟩
def He{X:Cx}{c:Expr}{t:TT}(h:PT X c t):PF X [c] t:=λpins s σ H Q I hw=>wpAny_tests_one (h pins s σ H Q I hw)
def Uy{prog:Program}{w:World}{A:Around}{R:Result->Shared->Prop}{s:Shared}{elt target iter:Expr}{ifs:List Expr}{scope:Scope}{pos:Pos}{it acc:Value}{env:Env}(I:Nat->Shared->Prop)
  (turn:∀n s,I n s->wpAny (model prog w) A (pyNext it) (λr s₁=>match r with
   |none=>R (.ok .next) s₁
   | some v=>wpAny (model prog w) A (letOwnedTupleGo target it v) (λ_ s₁'=>wpAny (model prog w) A (assign target env v) (λ_ s₂ =>
     wpAny (model prog w) A (forIn ifs true λc r=>if r=true then do let ok <- isTrue c env (eval c env);pure (ForInStep.yield ok)else pure (ForInStep.yield r)) (λok s₃ =>
      if ok=true then wpAny (model prog w) A (eval elt env) (λx s₄ =>
       wpAny (model prog w) A (call (.builtin "list.append") [acc,x]) (λ_ s₅=>∃m,m<n/\I m s₅) (λ_ _=>False) s₄) (λ_ _=>False) s₃
      else∃m,m<n/\I m s₃) (λ_ _=>False) s₂) (λ_ _=>False) s₁') (λ_ _=>False) s₁) (λ_ _=>False) s)
  (n:Nat) (h:I n s) :
  codeAny (model prog w) A (.compLoop (.ListComp elt [⟨target,iter,ifs,0⟩] scope pos) 0 it acc env) R s:=by
 refine codeAny_loop rfl I (λn s hI=>?_) n h;show wpAny _ A ((compTurn (.ListComp elt [⟨target,iter,ifs,0⟩] scope pos) 0 it acc env).onRaise (λx=>do noteFrame x env;theTreesLotGoes x)) _ _ s;refine wpAny_noted ?_;rw[compTurn_list];refine wpAny_bind (wpAny_standAt (wpAny_bind (wpAny_mono (turn n s hI) (λr s₁ h₁=>?_) λ_ _ h'=>h'.elim)));cases r with
 |none=>exact wpAny_pure h₁
 |some v =>
  refine wpAny_bind (wpAny_mono h₁ (λ_ s₁' h₁'=>?_) λ_ _ h'=>h'.elim);refine wpAny_bind (wpAny_mono h₁' (λ_ s₂ h₂=>wpAny_bind (wpAny_mono h₂ (λok s₃ h₃=>?_) λ_ _ h'=>h'.elim)) λ_ _ h'=>h'.elim);cases ok with
  |false=>exact wpAny_pure ⟨rfl,h₃⟩
  |true =>
   exact wpAny_bind (wpAny_bind (wpAny_mono h₃ (λx s₄ h₄=>wpAny_bind (wpAny_mono h₄ (λ_ s₅ h₅=>wpAny_pure (wpAny_pure ⟨rfl,h₅⟩)) λ_ _ h'=>h'.elim)) λ_ _ h'=>h'.elim))
abbrev yG(J:It)(n:Nat)(js:List Nat)(g:TG)(tc:TT)(te:TE)(σ:St)(H1:Hp)(Q:VK):Prop :=
 ∃W:Nat->Nat->List V->St->Hp->Prop,(∃m,W 0 m [] (j7 n js σ) H1)/\∀i m ys σ' H',W i m ys σ' H' ->
  ys.length<sizeLine/\((J.stop i H'/\∀p,H' p=none->Q (.ref p) (upd H' p (.lst ys))) \/
   (J.go i H'/\∀x H2,J.ve i H' x H2->g x σ' H2 λσ2 H3=>tc σ2 H3 λb H4=>if b=true then te σ2 H4 λy H5=>∃m',m' < m/\W (i+1) m' (ys ++ [y]) σ2 H5 else∃m',m' < m/\W (i+1) m' ys σ2 H4))
abbrev tZ(wi:TI)(n:Nat)(js:List Nat)(g:TG)(tc:TT)(te:TE):TE:=λσ H Q=>wi σ H λJ H1=>yG J n js g tc te σ H1 Q
section
variable {X:Cx}{pins:List (Addr×Obj)}{σ:St}{tg iter elt:Expr}{ifs:List Expr}{scope:Scope}{pos:Pos}{own fr:List Str}{js:List Nat}{g:TG}{tc:TT}{te:TE}{wi:TI}
def OC{H2:Hp}{s2:Shared}{it:Addr}{fp:List Addr}{tn:Nat->Heap->Prop}{J:It}{Q:VK}{E:Value->Shared->Prop}{cl:List (Str×Addr)}{RR:Value->Addr->Result->Shared->Prop}
  (hc:X.calm=true) (S:gf X scope own fr js) (hg:∀cells C fp s H,PG (aQ X (own ++ fr) scope cells C fp s H) tg g) (hf:∀cells C fp s H,PF (aQ X (own ++ fr) scope cells C fp s H) ifs tc) (he:∀cells C fp s H,PE (aQ X (own ++ fr) scope cells C fp s H) elt te)
  (I2:Inv X pins σ H2 s2) (T:Turn X.prog X.w X.K tg J fp it tn) (st2:tn 0 s2.heap) (f2:∀b∈fp,lX X pins H2 b)
  (qK:∀n c,(n,c)∈cl->X.env.cells.lookup n=some c/\(n,NameKind.free)∈scope.names) (t4:∀n,(n,NameKind.free)∈scope.names->∃c,(n,c)∈cl)
  (W:Nat->Nat->List V->St->Hp->Prop) (m0:Nat) (w0:W 0 m0 [] (j7 own.length js σ) H2)
  (turn:∀i m ys σ' H',W i m ys σ' H'->ys.length<sizeLine/\((J.stop i H'/\∀p,H' p=none->Q (.ref p) (upd H' p (.lst ys))) \/
   (J.go i H'/\∀x H2,J.ve i H' x H2->g x σ' H2 λσ2 H3=>tc σ2 H3 λb H4=>if b=true then te σ2 H4 λy H5=>∃m',m' < m/\W (i+1) m' (ys ++ [y]) σ2 H5 else∃m',m' < m/\W (i+1) m' ys σ2 H4)))
  (fin:∀(acc C:Addr) (H':Hp) (s':Shared) (v:V),v=.ref acc->Inv X pins σ H' s'->lX X pins H' C->(∃m,s'.heap.Ns C m)->Q v H'->RR (.ref acc) C (.ok .next) s') :
  wpAny (model X.prog X.w) X.A (newList []) (λacc s3=>wpAny (model X.prog X.w) X.A (newFunctionEnv scope X.env.globals cl [] X.env.qual none .none (some X.env)) (λcenv s4 =>
   codeAny (model X.prog X.w) X.A (.compStart (.ListComp elt [⟨tg,iter,ifs,0⟩] scope pos) 0 (.ref it) acc { cenv with scope:=relabel scope X.env }) (RR acc cenv.locals) s4) E s3) E s2:=by
 refine wpAny_newObj_type ?_;refine Ux λh4 hns OD o9=>?_;have hA:s2.heap.objs.size<(s2.heap.push { cls:=.type "list",data:=.seq ([]:List Value).toArray }).objs.size:=by rw[ZbV];exact ZbI _
 generalize hC:(s2.heap.push { cls:=.type "list",data:=.seq ([]:List Value).toArray }).objs.size=C at hns o9 hA ⊢;generalize hac:s2.heap.objs.size=acc at hA ⊢;have K8:acc≠C:=ZaS hA;have old:∀b o,s2.heap.get? b=some o->h4.get? b=some o:=λb o e=>OD b o (Zai _ e);have hacc:h4.get? acc=some { cls:=.type "list",data:=.seq ([]:List Value).toArray }:=OD _ _ (by rw[<- hac];exact Zar _ rfl);have K9:∀x c,(x,c)∈cellsFrom (C+1) scope.names []->h4.IsCell c none/\C+1<=c/\scope.names.lookup x=some .cell:=λx c h=>⟨(o9.empty x c h).1,(o9.empty x c h).2,CY S.Bj (K4 _ _ h).1⟩;have lk:∀x c,(cellsFrom (C+1) scope.names cl).lookup x=some c->(h4.IsCell c none/\C+1<=c/\(x,c)∈cellsFrom (C+1) scope.names [])\/(X.env.cells.lookup x=some c/\scope.names.lookup x=some .free):=λx c h=>by
  rw[CW]at h;rcases ZaF.mp (PySem.mem_of_lookup h)with q|q
  exact .inl ⟨(K9 x c q).1,(K9 x c q).2.1,q⟩;exact .inr ⟨(qK x c q).1,CY S.Bj (qK x c q).2⟩
 have La:∀x c,X.env.cells.lookup x=some c->c<s2.heap.objs.size:=λx c h=>by
  obtain⟨v,z⟩:=I2.cell x c h;exact z.lt
 have rB:∀x c,(cellsFrom (C+1) scope.names cl).lookup x=some c->c≠C/\c≠acc/\H2 c=none/\∀b∈fp,c≠b:=λx c h=>by
  rcases lk x c h with⟨_,h1,_⟩|⟨h1,_⟩
  refine⟨OA ⋯,OA ⋯,I2.hok.fresh ⋯,λb hb z=>?_⟩;obtain⟨o,e,_⟩:=T.obj 0 _ st2 b hb;have:=ltN (Zax e);rw[<- z]at this;lk
  have:=ltN (La x c h1)
  exact⟨yd ⋯,yd ⋯,I2.lg x c h1,λb hb=>(f2 b hb).2.2.2.2.1 x c h1⟩
 have C0:∀x,scope.names.lookup x=some .free->∃c,X.env.cells.lookup x=some c/\(cellsFrom (C+1) scope.names cl).lookup x=some c:=λx h=>by
  obtain⟨c,OE⟩:=t4 x (PySem.mem_of_lookup h);have hc1:=(qK x c OE).1;have hs:((cellsFrom (C+1) scope.names cl).lookup x).isSome=true:=by
   refine PySem.W.cellsFrom_some scope.names (C+1) cl (.inr ?_);cases q:cl.lookup x with
   |some d=>rfl
   |none =>
    exfalso;have:∀{l:List (Str×Addr)},(x,c)∈l->l.lookup x≠none:=by
     intro l
     induction l with
     |nil=>intro h;exact nomatch h
     |cons p r ih =>
      intro h z;obtain⟨k,v⟩:=p;rw[ZbH]at z;cases hb:x == k with
      |true=>rw[hb]at z;cases z
      |false =>
       rw[hb]at z;rcases ZaA.mp h with e|h
       cases e;simp at hb;exact ih h z
    exact this OE q
  obtain⟨d,hd⟩:=ZbW.mp hs;rcases lk x d hd with⟨_,_,h2⟩|⟨h1,_⟩
  have:=(K9 x d h2).2.2
  rw[h]at this;cases this;rw[hc1]at h1;cases h1;exact⟨c,hc1,hd⟩
 have Hf:∀b∈fp,b≠C/\b≠acc:=λb hb=>by
  obtain⟨o,e,_⟩:=T.obj 0 _ st2 b hb;have:=ltN (Zax e);exact⟨yd ⋯,yd ⋯⟩
 have Uz:(relabel scope X.env).kind=.function:=S.kind;have ok:(aQ X (own ++ fr) scope (cellsFrom (C+1) scope.names cl) C fp s2 H2).Ok:=by
  refine⟨I2.ok.mod,Uz,I2.ok.glob,I2.ok.blt,?_,λx y c h1 h2=>?_,λx hx=>?_,λx c hx h=>?_,I2.ok.hd,I2.ok.frames,.inl rfl,λb hb=>⟨(Hf b hb).1,λx c h=>(rB x c h).2.2.2 b hb⟩,I2.bs,Zap I2.ok.wI I2.sz,λb o e hb=>?_,λb hb z=>?_,I2.stack,I2.q5⟩;show s2.heap.objs.size<=C;lk;rcases lk x c h1 with⟨_,q1,q2⟩|⟨q1,_⟩
  rcases lk y c h2 with⟨_,r1,r2⟩|⟨r1,_⟩
  exact name_of_addr o9.apart q2 r2
  have:=ltN (La y c r1);lk
  rcases lk y c h2 with⟨_,r1,r2⟩|⟨r1,_⟩
  have:=ltN (La x c q1);lk
  exact I2.ok.inj x y c q1 r1;have hx':(relabel scope X.env).names.lookup x=some .cell\/(relabel scope X.env).names.lookup x=some .free:=hx;rcases OB scope X.env x with⟨e,_⟩|⟨k,e1,e2⟩
  rcases hx' with z|z<;>(rw[e]at z;cases z)
  by_cases hk:k=.free;subst hk;obtain⟨c,_,h⟩:=C0 x e1;exact⟨c,h⟩;have hk':k=.cell:=by
   have hb:(k == NameKind.free)=false:=beq_eq_false_iff_ne.mpr hk;rw[hb]at e2;simp only[Bool.false_and,ZaW,if_false]at e2;rcases hx' with z|z
   rw[e2]at z;exact Zaq z;rw[e2]at z;exact absurd (Zaq z) hk
  subst hk';exact ZbW.mp (PySem.W.cellsFrom_some scope.names (C+1) cl (.inl e1));have hx':scope.names.lookup x=some .cell:=of_decide_eq_true hx;show s2.heap.objs.size<=c;rcases lk x c h with⟨_,q,_⟩|⟨_,q⟩
  lk;rw[hx']at q;cases q;rcases(f2 b hb).2.2.2.1 with z|z
  exact I2.ok.tj b o e z;have h1:@LT.lt Nat _ b X.base.objs.size:=Zax e;have h2:=I2.ok.wI;lk;rcases ZaA.mp (I2.nZ b z)with e|e
  exact(f2 b hb).2.1 e;exact(f2 b hb).2.2.1 e
 have I4:Inv (aQ X (own ++ fr) scope (cellsFrom (C+1) scope.names cl) C fp s2 H2) [(acc,{ cls:=.type "list",data:=.seq ([]:List Value).toArray })] (j7 own.length js σ) H2 { s2 with heap:=h4 }:=by
  refine⟨ok,rfl,I2.bare,Un.kept old,⟨_,hns,λi x v e1 e2 e3=>?_⟩,λx c h=>?_,I2.hok.fresh (by show s2.heap.objs.size<=C;lk),λx c h=>(rB x c h).2.2.1,λp hp=>?_,I2.hok.kept old,?_⟩;have C1:(own ++ fr)[i]?=some x:=e1;unfold j7 at e2;by_cases hi:i<own.length;rw[Zav (by simpa using hi),ZbY]at e2;split at e2<;>cases e2;rw[ZaC (by simpa using hi),Zbk,Zal]at e2;rw[ZaC ⋯]at C1;cases hj:js[i-own.length]? with
  |none=>rw[hj]at e2;cases e2
  |some j =>
   rw[hj]at e2;have yH:σ.getD j none=some v:=Zaq e2;have hN:X.N[j]?=some x:=by
    have q:=congrArg (λl=>l[i-own.length]?) S.ix;simp only[Zal,hj,C1,Option.map_some]at q;exact Zaq q
   have hσ:σ[j]?=some (some v):=by
    rw[Zaf]at yH;cases q:σ[j]? with
    |none=>rw[q]at yH;cases yH
    |some o=>rw[q]at yH;exact congrArg some yH
   have hfr:scope.names.lookup x=some .free:=S.K7 x (Zak C1);have hk:=S.free _ (PySem.mem_of_lookup hfr) rfl;obtain⟨m,_,hl⟩:=I2.loc;obtain⟨u,ru,lo⟩:=hl j x v hN hσ (by rcases hk with k|k;exact .inr (.inl k);exact .inr (.inr k));refine⟨u,ru,.inr ⟨?_,?_⟩⟩;rcases OB scope X.env x with⟨_,e⟩|⟨k,q1,q2⟩
   rw[hfr]at e;cases e;rw[hfr]at q1;cases q1;have UA:(compEnvC scope (cellsFrom (C+1) scope.names cl) C X.env).kindOf x=some (if(NameKind.free == .free && X.env.scope.kind == .function && X.env.kindOf x == some .cell)=true then .cell else .free):=q2;rw[show(aQ X (own ++ fr) scope (cellsFrom (C+1) scope.names cl) C fp s2 H2).env.kindOf x=_ from UA];split;exact .inl rfl;exact .inr rfl;rcases lo with⟨k,_⟩|⟨_,c,hc1,hc2⟩
   rcases hk with k'|k'<;>(rw[k]at k';cases k')
   obtain⟨d,hd1,hd2⟩:=C0 x hfr;rw[hc1]at hd1;cases hd1;exact⟨c,hd2,hc2.keeps old⟩
  rcases lk x c h with⟨q,_,_⟩|⟨q,_⟩
  exact⟨_,q⟩;obtain⟨v,z⟩:=I2.cell x c q;exact⟨v,z.keeps old⟩;have e:p=(acc,{ cls:=.type "list",data:=.seq ([]:List Value).toArray }):=by simpa[aQ]using hp
  subst e;refine⟨hacc,I2.hok.fresh ⋯,K8,λz=>?_,λv z=>nomatch z⟩;rcases ZaA.mp (I2.nZ acc z)with e|e
  have:=ltN I2.lt
  rw[<- e]at this;lk;exact I2.B4 ⋯ e;show(j7 own.length js σ).length=(own ++ fr).length;have q:=congrArg List.length S.ix;simp only[Zaa]at q;unfold j7;rw[Zaj,Zbk,Zaa,Zaj,q]
 have Lb:∀{H':Hp} {ob:Obj},(∀b∈fp,H' b=none)->∀b∈fp,lX (aQ X (own ++ fr) scope (cellsFrom (C+1) scope.names cl) C fp s2 H2) [(acc,ob)] H' b:=λ{H' ob} hn b hb =>
  ⟨hn b hb,(Hf b hb).1,λz=>by
   rcases ZaA.mp (I2.nZ b z)with e|e
   exact(f2 b hb).2.1 e;exact(f2 b hb).2.2.1 e,.inl hb,λx c h=>(rB x c h).2.2.2 b hb,λp hp=>by
   have e:p=(acc,ob):=by simpa[aQ]using hp
   subst e
   exactλz=>(Hf b hb).2 z.symm⟩
 have loop:codeAny (model X.prog X.w) X.A (.compLoop (.ListComp elt [⟨tg,iter,ifs,0⟩] scope pos) 0 (.ref it) (.ref acc) (compEnvC scope (cellsFrom (C+1) scope.names cl) C X.env)) (RR (.ref acc) C) { s2 with heap:=h4 }:=by
  refine Uy (λm s'=>∃(i:Nat) (ys:List V) (its:List Value) (n:Nat) (σ':St) (H':Hp),Inv (aQ X (own ++ fr) scope (cellsFrom (C+1) scope.names cl) C fp s2 H2) [(acc,{ cls:=.type "list",data:=.seq its.toArray n })] σ' H' s'/\Vals ys its/\tn i s'.heap/\(∀b∈fp,H' b=none)/\W i m ys σ' H') ?_ m0
   ⟨0,[],[],0,_,H2,I4,.nil,T.keep _ _ _ st2 λb _ o e=>old b o e,λb hb=>(f2 b hb).1,w0⟩
  rintro n s5 ⟨i,ys,its,en,σ5,H5,I5,rv,j6,GY,w5⟩;obtain⟨hz,alt⟩:=turn i n ys σ5 H5 w5;rcases alt with⟨stop,qn⟩|⟨go,step⟩
  refine cn (T.done (aQ X (own ++ fr) scope (cellsFrom (C+1) scope.names cl) C fp s2 H2) rfl rfl rfl hc i _ s5 σ5 H5 _ I5 (Lb GY) j6 stop) λr s6 ⟨hr,I6⟩=>?_;subst hr;show RR (.ref acc) C (.ok .next) s6;have u:Un (frs X.stack) fp H2 H5 s2.heap s6.heap:=I6.base;have J6:Inv X pins σ H5 s6:=I2.B7 I6.os u I6.hok I6.bare λb hb=>⟨(f2 b hb).2.2.2.1,(f2 b hb).2.1,(f2 b hb).2.2.2.2.1,(f2 b hb).2.2.2.2.2⟩;have pacc:=I6.pin (acc,_) (ZaQ _ Zae);have Lc:lX X pins H5 acc:=I2.p9 ⋯ pacc.2.1;have fC:lX X pins H5 C:=I2.p9 ⋯ I6.free;have K6:Inv X pins σ (upd H5 acc (.lst ys)) s6:=J6.CZ Lc ⟨Zbw hz,its,en,rv,pacc.1⟩;obtain⟨m,hm,_⟩:=I6.loc;exact fin acc C _ s6 (.ref acc) rfl K6 ⟨by rw[kD K8.symm];exact fC.1,fC.2⟩ ⟨m,hm⟩ (qn acc pacc.2.1);refine cn (T.item (aQ X (own ++ fr) scope (cellsFrom (C+1) scope.names cl) C fp s2 H2) rfl rfl rfl hc i _ s5 σ5 H5 _ I5 (Lb GY) j6 go) λr s6 ⟨u,hr,h6⟩=>?_;subst hr;refine cn h6 λ_ s7 ⟨x,H7,I7,r7,y7,xi,UB⟩=>?_;have UC:=I7.pinned (Lb UB) (T.obj _ _ xi);refine cn (hg _ _ _ _ _ _ s7 σ5 H7 x u _ UC r7 (step x H7 y7)) λ_ s8 ⟨σ8,H8,I8,q8⟩=>?_;refine cn (hf _ _ _ _ _ _ s8 σ8 H8 _ I8 q8) λb s9 ⟨H9,I9,q9⟩=>?_;have Hg:∀{s':Shared} {σ':St} {H':Hp},Inv (aQ X (own ++ fr) scope (cellsFrom (C+1) scope.names cl) C fp s2 H2) ([(acc,{ cls:=.type "list",data:=.seq its.toArray en })] ++ n4 fp s7.heap) σ' H' s'->tn (i+1) s'.heap/\∀b∈fp,H' b=none:=λ{s' σ' H'} I' =>
   ⟨T.keep _ _ _ xi λb hb o e=>(I'.pin (b,o) (ZaQ _ (ZaQ _ (GX hb e)))).1,λb hb=>by
    obtain⟨o,e,d⟩:=T.obj _ _ xi b hb
    exact(I'.pin (b,o) (ZaQ _ (ZaQ _ (GX hb e)))).2.1⟩
  cases b with
  |false =>
   obtain⟨m',hm,w9⟩:=q9;exact⟨m',hm,i+1,ys,its,en,σ8,H9,I9.lY,rv,(Hg I9).1,(Hg I9).2,w9⟩
  |true =>
   refine cn (he _ _ _ _ _ _ s9 σ8 H9 _ I9 q9) λy vp ⟨yv,Ld,Hh,UD,m',hm,UE⟩=>?_;have pacc:=Hh.pin (acc,_) (ZaQ _ (ZbQ _ Zae));have hlen:=rv.length;refine wpAny_list_append_plain (items:=its.toArray) ⟨en,pacc.1⟩ (λh11 ⟨OG,sA⟩ C2=>?_) (by simp only[Zam];lk);have cA:∀x c,(cellsFrom (C+1) scope.names cl).lookup x=some c->c≠acc:=λx c h=>(rB x c h).2.1;have Ia:Inv (aQ X (own ++ fr) scope (cellsFrom (C+1) scope.names cl) C fp s2 H2) [] σ8 Ld vp:=Hh.nG λp hp=>nomatch hp;have Ib:Inv (aQ X (own ++ fr) scope (cellsFrom (C+1) scope.names cl) C fp s2 H2) [] σ8 Ld { vp with heap:=h11 }:=Ia.turned (it:=acc) (t':=vp.toks) (λb o hb e=>(C2.2 b hb).trans e) pacc.2.1 K8 (.inr (by show s2.heap.objs.size<=acc;lk)) cA λp hp=>nomatch (show p∈([]:List (Addr×Obj))from by simpa[aQ]using hp);refine⟨m',hm,i+1,ys ++ [yv],its ++ [y],OG,σ8,Ld,Ib.nG λp hp=>?_,rv.append (.cons UD .nil),T.keep _ _ _ (Hg Hh).1 λb hb o e=>(C2.2 b (Hf b hb).2).trans e,(Hg Hh).2,UE⟩;have e:p=(acc,{ cls:=.type "list",data:=.seq (its ++ [y]).toArray OG }):=by simpa using hp
   subst e;exact⟨by simpa using sA,pacc.2.1,pacc.2.2.1,pacc.2.2.2.1,λv z=>nomatch z⟩
 exact codeAny_compStart_list loop (T.self X.A 0 _ _ _ (T.keep _ _ _ st2 λb _ o e=>old b o e) loop)
def rC(hc:X.calm=true)(S:gf X scope own fr js)(hi:PI X tg iter wi)(hg:∀cells C fp s H,PG (aQ X (own ++ fr) scope cells C fp s H) tg g)(hf:∀cells C fp s H,PF (aQ X (own ++ fr) scope cells C fp s H) ifs tc)(he:∀cells C fp s H,PE (aQ X (own ++ fr) scope cells C fp s H) elt te)
  (hs:∀x,foldedSetIterable iter X.env x=pure x:=by intro _;rfl):PE X (.ListComp elt [⟨tg,iter,ifs,0⟩] scope pos) (tZ wi own.length js g tc te):=by
 intro pins s σ H Q I h;obtain⟨cl,hcl,qK,t4⟩:=Oz (scope:=scope) (env:=X.env) λy hy hk=>I.ok.has y.1 (S.free y hy hk);rw[eval_ListComp];refine wpAny_comprehension_free (use:=none) rfl hs hcl S.kind (λy hy hk=>by rw[<- hk];exact CY S.Bj hy) (cn (hi pins s σ H _ I h) λv s1 h1=>cn h1 λitv s2 h2=>?_);obtain⟨it,fp,tn,J,H2,e,I2,T,st2,f2,W,⟨m0,w0⟩,turn⟩:=h2;subst e;refine OC (RR:=λacc C=>compPost (model X.prog X.w) X.A X.xe none (EP X pins σ Q) acc C) hc S hg hf he I2 T st2 f2 qK t4 W m0 w0 turn ?_;intro acc C H' s' v hv I' fC ⟨m,hm⟩ q;subst hv;obtain⟨f0,f1,UG,f3,f4,f5⟩:=fC;exact⟨m,hm,λh'' yI=>⟨.ref acc,H',I'.turned (it:=C) (t':=s'.toks) (λb o hb e=>(yI.2 b hb).trans e) f0 f1 f3 f4 f5,rfl,q⟩⟩
def Hi{i:Nat}{x:Str}{pos' spos:Pos}(hc:X.calm=true)(hN:X.N.Nodup)(hx:X.N[i]?=some x)(hl:X.env.scope.names.lookup x=some .local)(S:gf X scope own fr js)(hi:PI X tg iter wi)(hg:∀cells C fp s H,PG (aQ X (own ++ fr) scope cells C fp s H) tg g)(hf:∀cells C fp s H,PF (aQ X (own ++ fr) scope cells C fp s H) ifs tc)(he:∀cells C fp s H,PE (aQ X (own ++ fr) scope cells C fp s H) elt te)
  (hsw:swapsWith (.ListComp elt [⟨tg,iter,ifs,0⟩] scope pos) (some (.Name x pos')) spos.line X.env=pure true:=by rfl)
  (hs:∀x,foldedSetIterable iter X.env x=pure x:=by intro _;rfl):PS X (.Assign [.Name x pos'] (.ListComp elt [⟨tg,iter,ifs,0⟩] scope pos) spos) (va (tZ wi own.length js g tc te) (p8 i)):=by
 intro pins s σ H D I h;obtain⟨cl,hcl,qK,t4⟩:=Oz (scope:=scope) (env:=X.env) λy hy hk=>I.ok.has y.1 (S.free y hy hk);rw[exec_Assign_Name_used _ _ _ _ hsw];refine wpAny_bind (wpAny_standAt (wpAny_bind ?_));show wpAny _ X.A (do let _ <- comprehension (.ListComp elt [⟨tg,iter,ifs,0⟩] scope pos) scope X.env _ (newList []) false (eval iter X.env) (some (assign (.Name x pos') X.env))) _ _ s
 refine wpAny_bind (wpAny_mono (wpAny_comprehension_free (use:=some (assign (.Name x pos') X.env)) (Q:=λ_ s'=>SP X pins D .next s') rfl hs hcl S.kind (λy hy hk=>by rw[<- hk];exact CY S.Bj hy)
  (cn (hi pins s σ H _ I h) λv s1 h1=>cn h1 λitv s2 h2=>?_)) (λ_ s' hq=>wpAny_pure (wpAny_pure hq)) λ_ _ e=>e)
 obtain⟨it,fp,tn,J,H2,e,I2,T,st2,f2,W,⟨m0,w0⟩,turn⟩:=h2;subst e;refine OC (Q:=λv H'=>p8 i v σ H' D.nx) (RR:=λacc C=>compPost (model X.prog X.w) X.A X.xe (some (assign (.Name x pos') X.env)) (λ_ s'=>SP X pins D .next s') acc C) hc S hg hf he I2 T st2 f2 qK t4 W m0 w0 turn ?_;intro acc C H' s' v hv I' fC ⟨m,hm⟩ q;subst hv;obtain⟨f0,f1,UG,f3,f4,f5⟩:=fC;show wpAny _ X.A (assign (.Name x pos') X.env (.ref acc)) _ _ _;refine wpAny_assign_Name (NA I' hN hx (.inl hl) (show RelV (.ref acc) (.ref acc)from rfl) (λs'' UH ⟨a,hs1,ha⟩=>?_) (.inr hl));have haC:a≠C:=by
  rcases ha with e|e
  rw[e];exact f1.symm;exact f4 _ _ e
 exact⟨m,hm.sameBut hs1 haC.symm,λh'' yI=>⟨_,H',UH.turned (it:=C) (t':=s''.toks) (λb o hb e=>(yI.2 b hb).trans e) f0 f1 f3 f4 f5,q⟩⟩
end
section
variable {X:Cx}
def OH:∀{bs:List Bool} {us:List Value} {i:Nat} {v:Value},Vals (bs.map V.bl) us->us[i]?=some v->∃b,bs[i]?=some b/\v=.bool b
 |[],_,i,v,r,h=>by cases r;simp at h
 |b :: bs,_,0,v,r,h=>by
  cases r with
  |cons r1 r2 =>
   cases(show _=Value.bool b from r1);simp at h;exact⟨b,rfl,h.symm⟩
 |b :: bs,_,i+1,v,r,h=>by
  cases r with
  |cons r1 r2 =>
   obtain⟨c,e1,e2⟩:=OH (i:=i) r2 (by simpa using h);exact⟨c,by simpa using e1,e2⟩
def OI(hc:X.calm=true):du X (.builtin "all") (λxs H Q=>∃(p:Addr) (bs:List Bool),xs=[.ref p]/\iL X.K H p (bs.map V.bl)/\Q (.bl (bs.all id)) H):=by
 intro pins s σ H xs us Q I r h;obtain⟨p,bs,rfl,hq,q⟩:=h;obtain⟨u,rfl,ru⟩:=vals1 r;cases ru;obtain⟨its,rv,pl,_⟩:=I.list hq;have hl:=pl.isList;have hlt:p<s.heap.objs.size:=by obtain⟨_,e,_⟩:=hl;exact Zax e
 have hlen:=rv.length;rw[Zaa]at hlen;have hh:X.A.in1.handled=none:=I.ok.hd hc;refine call_all_walk (wpAny_pyIter_list hl ?_)
 refine⟨s.heap.objs.size,[s.heap.objs.size,p],[s.heap.objs.size],its.toArray.size,_,_,λi=>(bs[i]?).getD true,rfl,Walks.list (A:=X.A.in1) hh _ p (ZaS hlt) its.toArray,
  ⟨⟨_,Zar _ rfl,rfl,rfl⟩,hl.push _⟩,λi v s' Q' E' hP hQ=>?_,λh' tk hk=>?_⟩
 obtain⟨b,e,rfl⟩:=OH rv (by simpa using hP);simp only[e,Option.getD_some]at hQ;exact wpAny_truthy_bool hQ;have e:((List.range its.toArray.size).all λi=>(bs[i]?).getD true)=bs.all id:=by
  rw[Zam,<- hlen];exact PyProof.Rows.LSm.range_all bs
 rw[e];exact⟨.bl _,H,I.kept (PyProof.Rows.LSm.kept_iter hk),rfl,q⟩
end
section
variable {prog:Program}{w:World}{A:Around}{E:Value->Shared->Prop}{s:Shared}
def UI{Q:List Value->Shared->Prop}{r:Addr}{a b c:Int}{t u v:Tok}{n:Nat}(hh:A.handled=none)(hr:IsRange s.heap r a b c t u v)(hsmall:Builtin.Range.small a b c=true)
  (hn:Builtin.Range.rangeSize a b c=n) (hlen:n<=2 ^ 24)
  (hQ:∀h' tk acc,(∀b o',s.heap.get? b=some o'->h'.get? b=some o')->ItemsOf (λi v=>∃t,v=.int (a+i*c) t) acc n->Q acc.toList { s with heap:=h',toks:=tk }) :
  wpAny (model prog w) A (collect (.ref r)) Q E s:=by
 unfold collect;refine wpAny_bind (wpAny_runValue (codeAny_builtin F.entry_proto_collect ?_));rw[Around.under_plainId F.plain_proto_collect _];show wpAny _ A.in1 (newList [] >>= λl=>again (.builtin "list.__iadd__" ⟨[l,.ref r],[]⟩)) _ _ s;refine wpAny_bind (wpAny_newObj_type ?_);refine wpAny_pure ⟨plainId_quiet F.plain_list_iadd _,codeAny_builtin F.entry_list_iadd ?_⟩;rw[Around.under_plainId F.plain_list_iadd _];show wpAny _ A.in1 (Builtin.List.listExtendWith (.ref s.heap.objs.size) (.ref r) (.ref s.heap.objs.size)) _ _ _;have hS:(s.heap.push { cls:=.type "list",data:=.seq ([]:List Value).toArray }).get? s.heap.objs.size=some { cls:=.type "list",data:=.seq #[] 0 }:=Zar _ rfl
 refine wpAny_mono (wpAny_extend_range (A:=A) (R:=λres s'=>res=.ok (.ret (.ref s.heap.objs.size))/\∃h' tk acc c',s'={ s with heap:=h',toks:=tk }/\(∀b o',s.heap.get? b=some o'->h'.get? b=some o')/\h'.get? s.heap.objs.size=some { cls:=.type "list",dict:=none,data:=.seq acc c',slots:=#[] }/\ItemsOf (λi v=>∃t,v=.int (a+i*c) t) acc n)
  (s:={ s with heap:=s.heap.push { cls:=.type "list",data:=.seq ([]:List Value).toArray } }) hh (Zai _ hr) hsmall hn hlen s.heap.objs.size (.ref s.heap.objs.size) 0 hS
  (λh' tk acc c' hk hS' hacc=>⟨rfl,h',tk,acc,c',rfl,λb o e=>hk b o (ZaS (Zax e)) (Zai _ e),hS',hacc⟩)) (λfin s' h=>?_) (λe s' h=>?_)
 have fin':∀ s',(∃ h' tk acc c',s'={ s with heap:=h',toks:=tk }/\(∀ b o',s.heap.get? b=some o'->h'.get? b=some o')/\h'.get? s.heap.objs.size=some { cls:=.type "list",dict:=none,data:=.seq acc c',slots:=#[] }/\ItemsOf (λi v=>∃ t,v=.int (a + i * c) t) acc n)->wpAny (model prog w) A (match Value.ref s.heap.objs.size with
   |Value.ref a=>do
    match (<- load a).data with
     |Data.seq xs _=>pure xs.toList
     |_=>unsupported "internal:collect"
   |_=>unsupported "internal:collect") Q E s':=by
  rintro s' ⟨h',tk,acc,c',rfl,hk,hS',hacc⟩;show wpAny _ A (load s.heap.objs.size >>= _) _ _ _;refine wpAny_bind (wpAny_load hS' ?_);exact wpAny_pure (hQ h' tk acc hk hacc)
 cases fin with
 |done f =>
  obtain⟨e,h⟩:=h;cases e;exact fin' s' h
 |again c'=>exact⟨h.1,codeAny_mono h.2 λr s'' hr=>by obtain⟨rfl,hr⟩:=hr;exact fin' s'' hr⟩
 exact absurd h.1 (by simp)
def UJ(r:Addr)(a b c:Int)(t u v:Tok)(n:Nat)(hsmall:Builtin.Range.small a b c=true)(hn:Builtin.Range.rangeSize a b c=n)(hlen:n<=2 ^ 24):
  Meets (Builtin.«tuple.__new__» ⟨[.type "tuple",.ref r],[]⟩)
   (λA R s=>A.handled=none/\IsRange s.heap r a b c t u v/\∀(h':Heap) (tk:Nat) (acc:Array Value),(∀b o,s.heap.get? b=some o->h'.get? b=some o)->ItemsOf (λi v=>∃t,v=.int (a+i*c) t) acc n ->
    R (.ok (.ret (.ref h'.objs.size))) { s with heap:=h'.push { cls:=.type "tuple",data:=.seq acc },toks:=tk }) :=
 .of_wp λprog w A R s h=>by
  obtain⟨hp,g,d,tk0,os⟩:=s;obtain⟨hh,hr,h⟩:=h;have hsub:=sub_tuple_self;have OJ:=init_tuple_lookup;have hmh:=madeHere_tuple;have hT:Shared.TypeIs ⟨hp,g,d,tk0,os⟩ (.ref r) "range" := ⟨_,hr,rfl⟩;have UK:A.in1.handled=none:=hh
  wp_walk using AutoSeq1.wpAny_loadPart' hr,wpAny_typeOf hT,UI UK hr hsmall hn hlen
  intro h' tk acc hk hacc;show wpAny _ _ (Builtin.Tuple.tupleExact acc.toList.toArray >>= λv=>ret v) _ _ _;unfold Builtin.Tuple.tupleExact;refine wpAny_bind (wpAny_newObj_type ?_ (show acc.toList.toArray.size<=sizeLine by simp only[Array.toArray_toList];rw[hacc.1];exact Zap hlen ∅));refine wpAny_pure ⟨_,rfl,?_⟩;have e:acc.toList.toArray=acc:=by simp
  rw[e];exact h h' tk acc hk hacc
def UL{Q:Value->Shared->Prop}{r:Addr}{a b c:Int}{t u v:Tok}{n:Nat}(hh:A.handled=none)(hr:IsRange s.heap r a b c t u v)(hsmall:Builtin.Range.small a b c=true)
  (hn:Builtin.Range.rangeSize a b c=n) (hlen:n<=2 ^ 24)
  (hQ:∀(h':Heap) (tk:Nat) (acc:Array Value),(∀b o,s.heap.get? b=some o->h'.get? b=some o)->ItemsOf (λi v=>∃t,v=.int (a+i*c) t) acc n->Q (.ref h'.objs.size) { s with heap:=h'.push { cls:=.type "tuple",data:=.seq acc },toks:=tk }) :
  wpAny (model prog w) A (call (.type "tuple") [.ref r]) Q E s :=
 callType_new F.called_tuple ∅ (F.typeCall_tuple_1 _) (F.newCall_tuple_1 _) (λobj=>F.args_object_init_2 obj _) F.entry_tuple_new
  (UJ r a b c t u v n hsmall hn hlen) ⟨hh,hr,λh' tk acc hk hacc=>⟨⟨_,Zar _ rfl,rfl⟩,hQ h' tk acc hk hacc⟩⟩
end
section
variable {X:Cx}
def UM(hc:X.calm=true):du X (.type "tuple") (λxs H Q=>∃p lo hi,xs=[.ref p]/\H p=some (.jR lo hi)/\(-(2 ^ 62)<=lo/\lo<2 ^ 62/\-(2 ^ 62)<=hi/\hi<2 ^ 62)/\(hi-lo).toNat<=2 ^ 24/\o8 X.K H (dw lo (hi-lo).toNat) Q):=by
 intro pins s σ H xs us Q I r h;obtain⟨p,lo,hi,rfl,hp,⟨b1,b2,b3,b4⟩,hz,q⟩:=h;obtain⟨u,rfl,ru⟩:=vals1 r;cases ru;obtain⟨t,t',t'',e⟩:=(show cu X.prog X.w H s.heap p (.jR lo hi)from I.hok p _ hp);refine UL (a:=lo) (b:=hi) (c:=1) (n:=(hi-lo).toNat) (I.ok.hd hc) (show IsRange s.heap p lo hi 1 t t' t'' from e) (small_one b1 b2 b3 b4) (by rw[rangeSize_one];split<;>lk) hz λh' tk acc kp hI=>?_;have I1:Inv X pins σ H { s with heap:=h',toks:=tk }:=I.kept kp;have I2:Inv X pins σ (upd H h'.objs.size (.tup (dw lo (hi-lo).toNat))) { s with heap:=h'.push { cls:=.type "tuple",data:=.seq acc },toks:=tk } :=
  I1.laid (t':=tk) (λb o e=>Zai _ e) (Zad _) (show cu X.prog X.w _ _ _ (.tup _)from⟨by rw[Ox];exact Zap hz ∅,acc.toList,K3 _ _ _ (by rw[Zbi];exact hI.1) λj v hj=>hI.2 j v (by rw[<- hj,Zbb]),by
   have e:acc.toList.toArray=acc:=by simp
   rw[e]
   exact oG.new _ _⟩)
 exact⟨.ref h'.objs.size,_,I2,rfl,q.new _ (I1.hok.fresh (Zad _))⟩
end
section
variable {X:Cx}{K:Zfr}
def vq(hK:X.K=K):G3 X (yx K):=by subst hK;exact bT
def OL(hK:X.K=K):lA X (compareOp .NotIn) (KH K true):=by subst hK;exact G4
def Le(hK:X.K=K):du X (.builtin "len") (λxs H Q=>∃p ys,xs=[V.ref p]/\(iL K H p ys\/eQ K H p ys)/\Q (.int ys.length) H):=by subst hK;exact nI
def UN(hK:X.K=K):du X (.type "tuple") (λxs H Q=>∃p ys,xs=[V.ref p]/\((iL K H p ys/\∀l,H l=none->Q (.ref l) (upd H l (.tup ys)))\/(eQ K H p ys/\Q (.ref p) H))):=by subst hK;exact o5
end
section
variable {prog:Program}{w:World}{A:Around}{E:Value->Shared->Prop}{s:Shared}
def UO{j t:Addr}{i:Nat}{ys:Array Value}{y:Value}{Q:Value->Shared->Prop}(hj:s.heap.IsTupleIter j t i)(ht:s.heap.IsTuple t ys)(hy:ys[i]?=some y)
  (hQ:∀h',h'.IsTupleIter j t (i+1)->Heap.SameBut j s.heap h'->Q y { s with heap:=h' }):wpAny (model prog w) A (Builtin.SmallTypes.nextOf (.ref j)) Q E s:=by
 obtain⟨r,hr,rc,rd⟩:=id hj;obtain⟨q,hq,_,nq,dq⟩:=ht;unfold Builtin.SmallTypes.nextOf;refine wpAny_bind (wpAny_callSpecial?_slot (name:=Str.ofString "__next__") hj.typeIs F.slot_tuple_iterator_next (wpAny_call_entry F.slot_tuple_iterator_next hj.typeIs F.entry_tuple_iterator_next ?_ (F.args_tuple_iterator_next_1 _)));show wpAny _ _ (PySem.field (.ref j) 0 >>= _) _ _ s;refine wpAny_bind (wpAny_field hr rd (x:=.ref t) rfl ?_);show wpAny _ _ (if(Value.ref t == Value.none)=true then _ else _) _ _ s;rw[if_neg (λz:(Value.ref t == Value.none)=true=>Zan z)];show wpAny _ _ (PySem.field (.ref j) 1 >>= _) _ _ s;refine wpAny_bind (wpAny_field hr rd (x:=.int i 0) rfl ?_);show wpAny _ _ (seqItems? (.ref t) >>= _) _ _ s;refine wpAny_bind (wpAny_seqItems hq dq ?_);simp only[Zau,hy];refine wpAny_bind (wpAny_setField hr rd (by simp) (wpAny_pure ⟨y,rfl,wpAny_pure (hQ _ ⟨_,Zby _ hr (Obj.isFreed_of_fields (Obj.data_mapFields rd _)),(Obj.cls_mapFields ..).trans rc,by rw[Obj.data_mapFields rd];simp[rawInt]⟩ (ZbF ..))⟩))
def UP{j t:Addr}{i:Nat}{ys:Array Value}{Q:Value->Shared->Prop}(hh:A.handled=none)(hj:s.heap.IsTupleIter j t i)(ht:s.heap.IsTuple t ys)(hy:ys[i]?=none)
  (hE:∀h' e,Heap.ExtBut j s.heap h'->(∃o,h'.get? e=some o/\o.cls=.type "StopIteration")->E (.ref e) { s with heap:=h' }):wpAny (model prog w) A (Builtin.SmallTypes.nextOf (.ref j)) Q E s:=by
 obtain⟨r,hr,rc,rd⟩:=id hj;obtain⟨q,hq,_,nq,dq⟩:=ht;unfold Builtin.SmallTypes.nextOf;refine wpAny_bind (wpAny_callSpecial?_slot (name:=Str.ofString "__next__") hj.typeIs F.slot_tuple_iterator_next (wpAny_call_entry F.slot_tuple_iterator_next hj.typeIs F.entry_tuple_iterator_next ?_ (F.args_tuple_iterator_next_1 _)));show wpAny _ _ (PySem.field (.ref j) 0 >>= _) _ _ s;refine wpAny_bind (wpAny_field hr rd (x:=.ref t) rfl ?_);show wpAny _ _ (if(Value.ref t == Value.none)=true then _ else _) _ _ s;rw[if_neg (λz:(Value.ref t == Value.none)=true=>Zan z)];show wpAny _ _ (PySem.field (.ref j) 1 >>= _) _ _ s;refine wpAny_bind (wpAny_field hr rd (x:=.int i 0) rfl ?_);show wpAny _ _ (seqItems? (.ref t) >>= _) _ _ s;refine wpAny_bind (wpAny_seqItems hq dq ?_);simp only[Zau,hy];refine wpAny_bind (wpAny_rule (wpAny_bind (wpAny_setField hr rd (by simp) ?_)));show wpAny _ _ (newExc (.type "StopIteration") [] >>= _) _ _ _;refine wpAny_bind ?_;simp only[newExc,newTuple];refine wpAny_bind (wpAny_newObj_type ?_ (by size_fits));refine wpAny_bind (m:=firstArgMember _ _) (wpAny_of_eq (a:=Value.none) (by first|rfl|(simp only[firstArgMember];rfl)) ?_);refine wpAny_newObj_type ?_ (by size_fits);simp only[raiseNew];refine wpAny_bind (wpAny_handled ?_);first|rw[show A.in1.handled=none from hh]|rw[hh]
 exact wpAny_bind (wpAny_pure (wpAny_throw (hE _ _ (((ZbF ..).extBut.push _).push _) ⟨_,Zar _ rfl,rfl⟩)))
end
def t5{prog:Program}{w:World}{A:Around}(hh:A.handled=none)(j t:Addr)(hne:t≠j)(ys:Array Value):
  Draws prog w A j [j,t] ys.size (λi v=>ys[i]?=some v) (λi h=>h.IsTupleIter j t i/\h.IsTuple t ys) where
 live:=λ_ _ st=>let ⟨o,ho,_⟩:=st.1;⟨o,ho⟩
 frame:=λ_ _ _ st k=>⟨st.1.at λo e=>k j (by simp) o e,let ⟨o,e,r⟩:=st.2;⟨o,k t (by simp) o e,r⟩⟩
 item:=λi s Q E hi st hQ=>UO st.1 st.2 (y:=ys[i]) (by simp[hi]) λh' a b=>hQ _ h' s.toks (by simp[hi]) ⟨a,st.2.extBut b.extBut hne⟩ b
 done:=λs Q E st hE=>UP hh st.1 st.2 (by simp) hE
def UQ(l:Addr)(items:Array Value)(n:Nat)(dct:Option Addr)(sl:Array (Option Value)):
  Meets (Builtin.«enumerate.__new__» ⟨[.type "enumerate",.ref l],[]⟩) (λ_ R s=>s.heap.get? l=some { cls:=.type "tuple",dict:=dct,data:=.seq items n,slots:=sl } /\
   R (.ok (.ret (.ref (s.heap.push { cls:=.type "tuple_iterator",data:=.fields #[.ref l,.int 0 0] }).objs.size)))
    { s with heap:=(s.heap.push { cls:=.type "tuple_iterator",data:=.fields #[.ref l,.int 0 0] }).push { cls:=.type "enumerate",data:=.fields #[.none,.bool false,.ref s.heap.objs.size,rawInt 0,.none,.none] } }) :=
 .of_wp λprog w A R s h=>by
  obtain⟨hp,g,d,tk,os⟩:=s;obtain⟨hl,h⟩:=h;have hsub:=sub_enumerate;have hL:Heap.IsTuple (Shared.heap ⟨hp,g,d,tk,os⟩) l items:=⟨_,hl,rfl,n,rfl⟩
  wp_walk using AutoSeq1.wpAny_loadPart' hl
  refine wpAny_stack_any λst=>wpAny_pure ?_;split
  ·rename_i c _ _ _ _ _
   cases(c == Value.type "enumerate")<;>(wp_walk using AutoSeq1.wpAny_loadPart' hl,wpAny_pyIter_tuple hL;exact⟨_,rfl,h⟩)
  ·wp_walk using AutoSeq1.wpAny_loadPart' hl,wpAny_pyIter_tuple hL
   exact⟨_,rfl,h⟩
section
variable {prog:Program}{w:World}{A:Around}{E:Value->Shared->Prop}{s:Shared}
def UR{l:Addr}{ys:Array Value}{Q:Value->Shared->Prop}(ht:s.heap.IsTuple l ys)
  (h:∀h',IsEnum h' (s.heap.objs.size+1) s.heap.objs.size 0 .none->h'.IsTupleIter s.heap.objs.size l 0->h'.objs.size=s.heap.objs.size+2 ->
   (∀b o,s.heap.get? b=some o->h'.get? b=some o)->Q (.ref (s.heap.objs.size+1)) { s with heap:=h' }):wpAny (model prog w) A (call (.type "enumerate") [.ref l]) Q E s:=by
 obtain⟨⟨c,dct,dt,sl⟩,hl,hc,n,hd⟩:=ht;cases(show c=.type "tuple" from hc);cases(show dt=.seq ys n from hd);refine callType_new F.called_enumerate ∅ (F.typeCall_enumerate_1 _) (F.newCall_enumerate_1 _) (λobj=>F.args_object_init_2 obj _) F.entry_enumerate_new (UQ l ys n dct sl) ⟨hl,?_⟩;have z:(s.heap.push { cls:=.type "tuple_iterator",data:=.fields #[.ref l,.int 0 0] }).objs.size=s.heap.objs.size+1:=ZbV ..;show _/\_;rw[z];have en:IsEnum ((s.heap.push { cls:=.type "tuple_iterator",data:=.fields #[.ref l,.int 0 0] }).push { cls:=.type "enumerate",data:=.fields #[.none,.bool false,.ref s.heap.objs.size,rawInt 0,.none,.none] }) (s.heap.objs.size+1) s.heap.objs.size 0 .none:=by
  have g:=Zar (s.heap.push { cls:=.type "tuple_iterator",data:=.fields #[.ref l,.int 0 0] }) (o:={ cls:=.type "enumerate",data:=.fields #[.none,.bool false,.ref s.heap.objs.size,rawInt 0,.none,.none] }) rfl;rw[z]at g;exact g
 exact⟨⟨_,en,rfl⟩,h _ en ⟨_,Zai _ (Zar _ rfl),rfl,rfl⟩ (by rw[ZbV,z]) λb o e=>Zai _ (Zai _ e)⟩
end
section
variable {X:Cx}{pins:List (Addr×Obj)}{σ:St}{H:Hp}{s:Shared}{h':Heap}
def Inv.vt{t':Nat}{ch:List Addr}(I:Inv X pins σ H s)(k:∀b o,b ∉ ch->s.heap.get? b=some o->h'.get? b=some o)(f:∀b∈ch,lX X pins H b):Inv X pins σ H { s with heap:=h',toks:=t' }:=by
 have B6:∀b u,H b=some u->b ∉ ch:=λb u e z=>by rw[(f b z).1]at e;cases e
 refine I.step (g':=s.gens) (d':=s.drawn) (ch:=ch) (λb hb=>⟨(f b hb).2.2.2.1,(f b hb).2.1,(f b hb).2.2.2.2.1,(f b hb).2.2.2.2.2⟩) (λb o _ _ hc e _=>k b o hc e) (λb o _ _ hc e _=>⟨o.slots,k b o hc e⟩) (λ_ _ _ _ n=>n)
  (λb o hc e=>⟨o,k b o hc e⟩) (λ_ _ e=>e) (λ_ _ _ e=>e) (λb ps e=>⟨#[],by rw[e];simp⟩) (λm hm=>?_) (λb u e=>?_) I.bare
 obtain⟨o,es,ep,ho,r⟩:=hm;exact⟨o,es,ep,k _ o (λz=>(f _ z).2.1 rfl) ho,r⟩;refine(I.hok b u e).stay (λc v hc q=>k c v ?_ q) (λ_ q=>q) λ_ _ q=>q;rcases hc with z|z
 rw[z];exact B6 b u e;exact B6 c _ z
end
abbrev OM(K:Zfr)(a:Addr):It :=
 ⟨λi H=>∃xs x,eQ K H a xs/\xs[i]?=some x,λi H x H'=>∃p y,x=.ref p/\H p=none/\H'=upd H p (.tup [.int i,y])/\∀xs,eQ K H a xs->xs[i]?=some y,λi H=>∃xs,eQ K H a xs/\xs.length=i⟩
def US{P:Program}{w:World}{K:Zfr}{es:List Expr}{x1}{pos:Pos}(a e it:Addr)(hne:e≠it):
  Turn P w K (.Tuple es x1 pos) (OM K a) [e,it] e (λi h=>(∃old,IsEnum h e it i old)/\h.IsTupleIter it a i) where
 mem:=by simp
 obj:=λi h st b hb=>by
  obtain⟨⟨old,he⟩,o,e2,c,d⟩:=st;rcases ZaA.mp hb with rfl|hb
  exact⟨_,he,λv z=>by
   have z':Data.fields _=Data.cell v:=z
   cases z'⟩
  have q:b=it:=by simpa using hb
  subst q;exact⟨o,e2,λv z=>by rw[d]at z;cases z⟩
 keep:=λi h h' st k=>⟨let ⟨old,he⟩:=st.1;⟨old,k e (by simp) _ he⟩,st.2.at λo q=>k it (by simp) o q⟩
 item:=by
  intro X hP hw hK hc i pins s σ H E I hf st hg;subst hP hw hK;obtain⟨xs,x,hq,hx⟩:=hg;obtain⟨its,rv,p,hz⟩:=I.tuple hq;obtain⟨u,hu,ru⟩:=rv.get hx;obtain⟨⟨old,he⟩,hit⟩:=st;have ht:s.heap.IsTuple a its.toArray:=p;have Lf:a≠it:=λz=>by
   obtain⟨o,e1,c1,_⟩:=hit;obtain⟨o2,e2,c2,_⟩:=ht;rw[z,e1]at e2;cases e2;exact absurd (c1.symm.trans c2) (by simp)
  have UT:e≠a:=λz=>by
   obtain⟨o2,e2,c2,_⟩:=ht;rw[<- z,he]at e2;cases e2;exact absurd c2 (by simp)
  have hl:=rv.length;have hi:i<its.toArray.size:=by
   have:=Zac.mp hu;obtain⟨q,_⟩:=this
   simpa using q
  refine wpAny_pyNext_enum_itemD (t5 (A:=X.A.in1) (I.ok.hd hc) it a Lf its.toArray) he ⟨hit,ht⟩ hi hne (by simp[hne,UT]) λy h1 tk hy ho hst hT hsz kk=>?_;have ey:y=u:=by
   have:its.toArray[i]?=some u:=by simpa using hu
   exact Zaq (hy.symm.trans this)
  subst ey;refine⟨_,rfl,wpAny_letOwnedTupleGo_enum ho λh2 UU sb=>?_⟩;have hel:@LT.lt Nat _ e s.heap.objs.size:=Zax he;have hil:@LT.lt Nat _ it s.heap.objs.size:=by obtain⟨o,e1,_⟩:=hit;exact Zax e1
  have UW:H s.heap.objs.size=none:=I.hok.fresh (Zad _);have sb':Heap.SameBut e h1 h2:=sb;have I1:Inv X pins σ (upd H s.heap.objs.size (.tup [.int i,x])) { s with heap:=s.heap.push { cls:=.type "tuple",data:=.seq #[.int i tk,y] },toks:=s.toks } :=
   I.laid (λb u e=>Zai _ e) (Zad _) ⟨(by decide:2<=sizeLine),[.int i tk,y],.cons ⟨tk,rfl⟩ (.cons ru .nil),⟨_,Zar _ rfl,rfl,rfl,_,rfl⟩⟩
  have nn:∀b∈[e,it],@LT.lt Nat _ b s.heap.objs.size:=λb hb=>by
   rcases ZaA.mp hb with rfl|hb
   exact hel;have q:b=it:=by simpa using hb
   rw[q];exact hil
  have hn:∀b∈[e,it],upd H s.heap.objs.size (.tup [.int i,x]) b=none:=λb hb=>by
   unfold upd;rw[if_neg (ZaS (nn b hb))];exact(hf b hb).1
  have I2:Inv X pins σ (upd H s.heap.objs.size (.tup [.int i,x])) { s with heap:=h2,toks:=tk+1 }:=by
   refine Inv.vt (s:={ s with heap:=s.heap.push { cls:=.type "tuple",data:=.seq #[.int i tk,y] },toks:=s.toks }) (h':=h2) I1 (ch:=[e,it]) (t':=tk+1) (λb o hb q=>?_) λb hb=>⟨hn b hb,(hf b hb).2⟩;have nb:b≠e/\b≠it:=by simpa using hb
   refine(sb'.2 b nb.1).trans ?_;rcases Heap.get?_push_cases q with⟨rfl,rfl⟩|q
   exact hT;exact kk b o nb.1 nb.2 q
  refine⟨.ref s.heap.objs.size,_,I2,rfl,⟨_,x,rfl,UW,rfl,λys t6=>by rw[I.iM t6 hq];exact hx⟩,⟨⟨y,?_⟩,?_⟩,hn⟩
  have:((i+1:Nat):Int)=(i:Int)+1:=by lk
  rw[this];exact UU;exact hst.1.extBut sb'.extBut (Ne.symm hne)
 done:=by
  intro X hP hw hK hc i pins s σ H E I hf st hg;subst hP hw hK;obtain⟨xs,hq,hx⟩:=hg;obtain⟨its,rv,p,hz⟩:=I.tuple hq;obtain⟨⟨old,he⟩,hit⟩:=st;have ht:s.heap.IsTuple a its.toArray:=p;have Lf:a≠it:=λz=>by
   obtain⟨o,e1,c1,_⟩:=hit;obtain⟨o2,e2,c2,_⟩:=ht;rw[z,e1]at e2;cases e2;exact absurd (c1.symm.trans c2) (by simp)
  have hl:=rv.length;have ei:its.toArray.size=i:=by simp;lk
  refine wpAny_pyNext_enum_endD (t5 (A:=X.A.in1) (I.ok.hd hc) it a Lf its.toArray) he (by rw[ei];exact⟨hit,ht⟩) λh1 eb=>⟨rfl,?_⟩;obtain⟨f0,f1,f2,f3,f4,f5⟩:=hf it (by simp);exact I.turned (t':=s.toks) (λb o hb q=>eb b o hb q) f0 f1 f3 f4 f5
 self:=λ_ _ _ _ _ st h=>let ⟨_,he⟩:=st.1;wpAny_pyIter_enum he h
abbrev xj(K:Zfr)(ta:TA):TI:=λσ H R=>ta σ H λvs H1=>∃a,vs=[.ref a]/\(∃xs,eQ K H1 a xs)/\R (OM K a) H1
def OO{X:Cx}{es:List Expr}{x1}{p0:Pos}{l:Expr}{ta:TA}{p pos:Pos}(hg:Gl X "enumerate")(hm:X.mg "enumerate" = none)(ha:PA X [l] ta)(hs:starEach [l] X.env=[(false,eval l X.env)]:=by rfl):
  PI X (.Tuple es x1 p0) (.Call (.Name "enumerate" p) [l] [] pos) (xj X.K ta):=by
 intro pins s σ H R I h;refine Call_ (B8 I hg hm boot_enumerate (PyProof.Rows.callWith_type1 (cn (ha pos pins s σ H _ I h) λus s1 ⟨vs,H1,I1,r1,q1⟩=>?_) hs rfl));obtain⟨a,e,⟨xs,hq⟩,q⟩:=q1;subst e;cases r1 with
 |cons r rr =>
  cases rr;cases r;obtain⟨its,rv,p,hz⟩:=I1.tuple hq;refine UR (show s1.heap.IsTuple a its.toArray from p) λh1 he hi hsz kk=>?_;refine wpAny_pyIter_enum he ?_;refine⟨s1.heap.objs.size+1,[s1.heap.objs.size+1,s1.heap.objs.size],_,_,H1,rfl,I1.kept (t':=s1.toks) kk,US a _ _ (Nat.succ_ne_self _),⟨⟨_,he⟩,hi⟩,λb hb=>?_,q⟩;have hb':@LE.le Nat _ s1.heap.objs.size b:=by
   rcases ZaA.mp hb with rfl|hb
   exact ZbU _;have e:b=s1.heap.objs.size:=by simpa using hb
   rw[e];exact Zad _
  exact I1.p9 hb' (I1.hok.fresh hb')
section
open Sem (wp)
open PySem.AutoSeq1 (wpAny_loadPart')
open PySem.MeetsSeq PySem.MeetsSeq2 PySem.MeetsSeq3
def IntsAre.get{vs:List Value}{ns:List Int}(h:IntsAre vs ns):∀{i:Nat} {n:Int},ns[i]?=some n->∃t,vs[i]?=some (.int n t):=by
 induction h with
 |nil=>intro i n e;simp at e
 |cons a t h ih =>
  intro i n e;cases i with
  |zero=>exact⟨t,by simpa using e⟩
  |succ i=>simpa using ih (by simpa using e)
def t9(l:Addr)(items:Array Value)(n:Nat)(dd:Option Addr)(sl:Array (Option Value))(ns:List Int)(hi:IntsAre items.toList ns)(v:Int)(t:Tok)(j:Nat)(hj:ns[j]?=some v)(hb:∀i,i<j->ns[i]?≠some v):
  Meets (Builtin.«tuple.index» ⟨[.ref l,.int v t],[]⟩)
   (λ_ R s=>s.heap.get? l=some { cls:=.type "tuple",dict:=dd,data:=.seq items n,slots:=sl }/\R (.ok (.ret (.int (j:Int) s.toks))) { s with toks:=s.toks+1 }) :=
 .of_wp λprog w A R s h=>by
  obtain⟨hp,g,d,tk,os⟩:=s;obtain⟨hl,h⟩:=h;have z1:items.size=ns.length:=by rw[<- hi.length];simp
  have hjl:j<ns.length:=(Zac.mp hj).1
  wp_walk using wpAny_loadPart' hl
  have key:wpAny (model prog w) A.in1 (forIn (m:=Sem) [:min items.size items.size] ((none,()):Option Fin×Unit) (λ(i:Nat) _ =>
    match items[i]? with
    |some y=>do
     let b <- eqBool y (Value.int v t)
     if b=true then do
      let r <- retInt (i:Int)
      pure (ForInStep.done (some r,()))
     else pure (ForInStep.yield (none,()))
    |_=>pure (ForInStep.yield (none,()))))
   (λa s'=>a.1=some (.done (.ret (.int (j:Int) tk)))/\s'=⟨hp,g,d,tk+1,os⟩) (λe s'=>R (Except.error e) s') ⟨hp,g,d,tk,os⟩:=by
   rw[Std.Legacy.Range.forIn_eq_forIn_range'];have ez:([:min items.size items.size]:Std.Legacy.Range).size=ns.length:=by
    simp[Std.Legacy.Range.size,z1]
   rw[ez];refine wpAny_forIn_list _ (λrest b s'=>b.1=none/\s'=⟨hp,g,d,tk,os⟩/\∃k,k<=j/\rest=List.range' k (ns.length-k) 1) _ ?_ ?_ _ _ ⟨rfl,rfl,0,ZaO _,by simp⟩;rintro x rest b s' ⟨hb',rfl,k,hk,e⟩;have el:ns.length-k=(ns.length-(k+1))+1:=by lk
   rw[el,List.range'_succ]at e;injection e with e1 e2;subst e1;have qe:x<ns.length:=by lk
   obtain⟨t',ht'⟩:=IntsAre.get hi (Zab qe);have UX:items[x]?=some (.int ns[x] t'):=by rw[<- ht',Zbb]
   simp only[UX];obtain⟨e,he,hiff⟩:=HT.TL A.in1 ⟨hp,g,d,tk,os⟩ ns[x] t' v t;refine wpAny_bind (he prog w _ _ ?_);cases e with
   |true =>
    have ev:ns[x]=v:=hiff.mp rfl;have UY:x=j:=by
     rcases Nat.lt_or_ge x j with h'|h'
     exact absurd (by rw[Zab qe,ev]) (hb x h');lk
    subst UY
    wp_walk
    first|exact⟨rfl,rfl⟩|trivial
   |false =>
    have ev:ns[x]≠v:=λq=>absurd (hiff.mpr q) Zan;have:x≠j:=λz=>ev (by subst z;rw[Zab qe]at hj;exact Zaq hj)
    wp_walk
    exact⟨rfl,rfl,x+1,by lk,e2⟩
   rintro b s' ⟨hb',rfl,k,hk,e⟩
   have:(List.range' k (ns.length-k) 1).length=0:=by rw[<- e];rfl
   rw[List.length_range']at this;lk
  refine wpAny_mono key (λa s' ha=>?_) (λ_ _ z=>z);obtain⟨ha,rfl⟩:=ha;obtain⟨a1,a2⟩:=a;cases(show a1=_ from ha);exact wpAny_pure ⟨_,rfl,h⟩
end
section
variable {X:Cx}{K:Zfr}
abbrev qL(K:Zfr):V->List V->Hp->VK->Prop:=λx vs H Q=>∃(a:Addr) (ns:List Int) (v:Int) (j:Nat),x=.ref a/\vs=[.int v]/\eQ K H a (ns.map V.int)/\ns[j]?=some v/\(∀i,i<j->ns[i]?≠some v)/\Q (.int (j:Int)) H
def UZ:CG X "tuple.index" (qL X.K):=by intro pins s σ H x xs v us Q I rx rv h;obtain⟨a,ns,y,j,rfl,rfl,hq,hj,hb,q⟩:=h;cases rx;obtain⟨u,rfl,t,rfl⟩:=vals1 rv;obtain⟨its,r,⟨⟨c,dd,dt,sl⟩,e,hc,hd,n,hdt⟩,hz⟩:=I.qD hq;cases(show c=.type "tuple" from hc);cases(show dt=.seq its.toArray n from hdt);refine call_meets F.slot_tuple_index ⟨_,e,rfl⟩ F.entry_tuple_index (F.args_tuple_index_2 _ _) (t9 a its.toArray n dd sl ns (by simpa using N6 r) y t j hj hb) ⟨e,?_⟩;exact⟨.int j,H,I.tok _,⟨_,rfl⟩,q⟩
def U0(hK:X.K=K):CG X "tuple.index" (qL K):=by subst hK;exact UZ
def yJ{o e:Expr}{es:List Expr}{to:TE}{t:TA}{name:Str}{apos cpos:Pos}{T id:String}{r:V->List V->Hp->VK->Prop}(hK:X.K=K)(pa:PlainAttrs T)(slot:Slot T name id)(hty:typeOf (.builtin id)=pure (.type "method_descriptor"))(hm:CG X id r)(ho:PE X o to)(ha:PA X (e :: es) t)
  (hbase:attributeBase o name X.env (eval o X.env)=eval o X.env:=by rfl)
  (hfew:((backTo cpos (starEach (e :: es) X.env)).all (λx=>!x.1) && (backToKw cpos (keywordEach [] X.env)).all (λx=>x.1.isSome)
   && decide ((e :: es).length+([]:List Keyword).length+(if([]:List Keyword).isEmpty then 0 else 1)<30))=true:=by rfl)
  (hline:(apos.endLine == cpos.line)=true:=by rfl) (hs:starEach (e :: es) X.env=(false,eval e X.env) :: starEach es X.env:=by rfl) (hplain:(backTo cpos (starEach es X.env)).any (·.1)=false:=by rfl) :
  PE X (.Call (.Attribute o name apos) (e :: es) [] cpos) (KJ K T r to t):=by subst hK;exact qx pa slot hty hm ho ha hbase hfew hline hs hplain
def OQ{es:List Expr}{k:Nat}{t:tD}{n:Nat}{pos:Pos}(hK:X.K=K)(hc:X.calm=true)(h:Cf X es t)
  (hn:(assignEach es X.env).length=n:=by rfl) (hst:(assignEach es X.env).findIdx? (·.1)=none:=by rfl):PG X (.Tuple es k pos) (ym K n t):=by subst hK;exact Cj hc h hn hst
end
open Builtin.Str
section
variable {X:Cx}{K:Zfr}
def OR:bootBuiltins "abs" = some (.builtin "abs"):=by decide +kernel
abbrev vw(x:Str)(k:Nat):Str:=⟨(List.replicate k x.cps.toList).flatten.toArray⟩
def OS:∀(l:List (Array Nat)) (a:Array Nat),l.foldl (· ++ ·) a=a ++ (l.map Array.toList).flatten.toArray
 |[],a=>by simp
 |x :: r,a=>by
  rw[List.foldl_cons,OS r,Array.append_assoc,Zay,Za5]
  congr 1
  apply Array.ext';simp
def U1(x:Str)(n:Int):Txt.mul x n=vw x n.toNat:=by
 unfold Txt.mul vw;by_cases h1:n<1;rw[if_pos h1,show n.toNat=0 by lk];rfl;rw[if_neg h1];by_cases h2:(n == 1 || x.length == 0)=true;rw[if_pos h2];rw[ZbC]at h2;rcases h2 with h2|h2
 have e:n=1:=by simpa using h2
 subst e;simp;have e:x.cps=#[]:=by
  have:x.cps.size=0:=by simpa[Str.length]using h2
  exact Array.eq_empty_of_size_eq_zero this
 cases x with
 |mk c =>
  cases e;simp
 rw[if_neg h2,OS];simp
def U2:lA X (binaryOp .Mult) (λx y H Q=>∃z k,x=.str z/\y=.int k/\z.length<=100/\-1000000<=k/\k<=10000/\Q (.str (vw z k.toNat)) H):=by
 intro pins s σ H x y v u Q I rx ry h;obtain⟨z,k,rfl,rfl,h1,h2,h3,q⟩:=h;obtain⟨t,rfl⟩:=rx;obtain⟨t',rfl⟩:=ry;refine SB.mul ⟨by simp;lk,λh4 _ h5=>?_,λh4 _=>?_⟩ λt2 k2=>?_
 have:(100:Int)<=(2 ^ 63 - 1:Int) / k:=by
  refine(Zcg ⋯).mpr ?_;lk
 lk
 have:z.length*k.toNat<=100*10000:=Zbg h1 ⋯
 simp only[tooLong,decide_eq_false_iff_not];have e:sizeLine=16777216:=rfl;lk;rw[U1];exact⟨.str _,H,I.tok _,⟨_,rfl⟩,q⟩
def OT:∀{xs:List Str} {us:List Value},Vals (xs.map V.str) us->∃l:List (Str×Tok),us=strValues l/\l.map (·.1)=xs
 |[],us,h=>by
  cases us with
  |nil=>exact⟨[],rfl,rfl⟩
  |cons a b=>cases h
 |x :: xs,us,h=>by
  cases us with
  |nil=>cases h
  |cons u us =>
   cases h with
   |cons r t =>
    obtain⟨l,e1,e2⟩:=OT t;obtain⟨tk,rfl⟩:=r;exact⟨(x,tk) :: l,by rw[e1];rfl,by rw[Zay,e2]⟩
def OU(sep:Str)(hs:sep.length<=10):∀(ts:List Str),(∀y∈ts,y.length<=100)->(Str.join sep ts).length<=110*ts.length
 |[],_=>ZaO _
 |[x],h=>by have:=h x (by simp);show x.length<=_;simp only[Zaz,ZbB];lk
 |x :: y :: r,h=>by
  have h1:=h x (by simp);have h2:=OU sep hs (y :: r) λz hz=>h z (Zag _ hz);have e:(Str.join sep (x :: y :: r)).length=x.length+sep.length+(Str.join sep (y :: r)).length:=by
   show(x ++ sep ++ Str.join sep (y :: r)).length=_;show(Str.append (Str.append x sep) (Str.join sep (y :: r))).cps.size=_;simp only[Str.append,Array.size_append,Str.length]
  rw[e];simp only[Zaz]at h2 ⊢;lk
abbrev rJoin(K:Zfr):V->List V->Hp->VK->Prop:=λx vs H Q=>∃(sep:Str) (a:Addr) (xs:List Str),x=.str sep/\vs=[.ref a]/\iL K H a (xs.map V.str)/\xs.length<=100000/\sep.length<=10/\(∀y∈xs,y.length<=100)/\Q (.str (Str.join sep xs)) H
def U3:CG X "str.join" (rJoin X.K):=by
 intro pins s σ H x xs v us Q I rx rv h;obtain⟨sep,a,ts,rfl,rfl,hq,h1,h2,h3,q⟩:=h;obtain⟨t,rfl⟩:=rx;obtain⟨u,rfl,ru⟩:=vals1 rv;cases ru;obtain⟨its,r,pl,hz⟩:=I.list hq;obtain⟨l,rfl,e2⟩:=OT r;have hfit:tooLong ((l.map (·.1)).toArray.foldl (· + ·.length+sep.length) 0)=false:=by
  rw[e2];have a1:ts.length*sep.length<=100000*10:=Zbg h1 h2;exact StrLaws.joinFits (B:=100) h3 ⋯
 refine call_meets F.slot_str_join (typeIs_str s sep t) F.entry_str_join (F.args_str_join_2 _ _) (meets_str_join_list sep t a l hfit) ⟨pl.isList,?_⟩;have fin:∀tk k,EP X pins σ Q (.str (Str.join sep ts) tk) { s with toks:=k }:=λtk k=>⟨.str _,H,I.tok _,⟨_,rfl⟩,q⟩;have hlen:=OU sep h2 ts h3;have hz2:(Str.join sep ts).length<=sizeLine:=by
  have e:sizeLine=16777216:=rfl;lk
 match l,e2 with
 |[],e2 =>
  cases e2;exact⟨hz2,fin _ _⟩
 |[p],e2 =>
  cases e2;exact fin p.2 s.toks
 |p :: p2 :: r,e2 =>
  show(glued sep ((p :: p2 :: r).map (·.1))).length<=sizeLine/\_;rw[StrLaws.glued_eq_join,e2];exact⟨hz2,fin _ _⟩
end
abbrev Lg(x:Str):It:=⟨λi _=>i<x.cps.size,λi H y H'=>H'=H/\∃c,x.cps[i]?=some c/\y=.str ⟨#[c]⟩,λi _=>x.cps.size<=i⟩
def U4{P:Program}{w:World}{K:Zfr}{tg:Expr}(it:Addr)(x:Str)(t:Tok):Turn P w K tg (Lg x) [it] it (λi h=>h.IsStrIter it "str_ascii_iterator" x t i) where
 mem:=by simp
 obj:=λi h st b hb=>by
  have e:b=it:=by simpa using hb
  subst e;obtain⟨o,e,c,d⟩:=st;exact⟨o,e,λv z=>by rw[d]at z;cases z⟩
 keep:=λi h h' st k=>let ⟨o,ho,r⟩:=st;⟨o,k it (by simp) o ho,r⟩
 item:=by
  intro X hP hw hK hc i pins s σ H E I hf st hg;subst hP hw hK;have hg:i<x.cps.size:=hg;obtain⟨f0,f1,f2,f3,f4,f5⟩:=hf it (by simp);refine wpAny_pyNext_ascii_item st (c:=x.cps[i]) (by simp[hg]) λh' st' sb=>?_;have I1:Inv X pins σ H { s with heap:=h',toks:=s.toks+1 }:=I.turned (λb o hb e=>(sb.2 b hb).trans e) f0 f1 f3 f4 f5;obtain⟨o,e,c,d⟩:=id st';exact⟨_,rfl,A9 (s:={ s with heap:=h',toks:=s.toks+1 }) e c d ∅ ⟨.str ⟨#[x.cps[i]]⟩,H,I1,⟨_,rfl⟩,⟨rfl,_,by simp[hg],rfl⟩,st',λb hb=>(hf b hb).1⟩⟩
 done:=by
  intro X hP hw hK hc i pins s σ H E I hf st hg;subst hP hw hK;have hg:x.cps.size<=i:=hg;obtain⟨f0,f1,f2,f3,f4,f5⟩:=hf it (by simp);exact wpAny_pyNext_ascii_end (I.ok.hd hc) st (by simp[hg]) λh' eb=>⟨rfl,I.turned (t':=s.toks) (λb o hb e=>eb b o hb e) f0 f1 f3 f4 f5⟩
 self:=λ_ _ _ _ _ st h=>wpAny_pyIter_striter_ascii st h
def U5{P:Program}{w:World}{K:Zfr}{tg:Expr}(it:Addr)(x:Str)(t:Tok):Turn P w K tg (Lg x) [it] it (λi h=>h.IsStrIter it "str_iterator" x t i) where
 mem:=by simp
 obj:=λi h st b hb=>by
  have e:b=it:=by simpa using hb
  subst e;obtain⟨o,e,c,d⟩:=st;exact⟨o,e,λv z=>by rw[d]at z;cases z⟩
 keep:=λi h h' st k=>let ⟨o,ho,r⟩:=st;⟨o,k it (by simp) o ho,r⟩
 item:=by
  intro X hP hw hK hc i pins s σ H E I hf st hg;subst hP hw hK;have hg:i<x.cps.size:=hg;obtain⟨f0,f1,f2,f3,f4,f5⟩:=hf it (by simp);refine wpAny_pyNext_wide_item st (c:=x.cps[i]) (by simp[hg]) λh' st' sb=>?_;have I1:Inv X pins σ H { s with heap:=h',toks:=s.toks+1 }:=I.turned (λb o hb e=>(sb.2 b hb).trans e) f0 f1 f3 f4 f5;obtain⟨o,e,c,d⟩:=id st';exact⟨_,rfl,A9 (s:={ s with heap:=h',toks:=s.toks+1 }) e c d ∅ ⟨.str ⟨#[x.cps[i]]⟩,H,I1,⟨_,rfl⟩,⟨rfl,_,by simp[hg],rfl⟩,st',λb hb=>(hf b hb).1⟩⟩
 done:=by
  intro X hP hw hK hc i pins s σ H E I hf st hg;subst hP hw hK;have hg:x.cps.size<=i:=hg;obtain⟨f0,f1,f2,f3,f4,f5⟩:=hf it (by simp);exact wpAny_pyNext_wide_end (I.ok.hd hc) st (by simp[hg]) λh' eb=>⟨rfl,I.turned (t':=s.toks) (λb o hb e=>eb b o hb e) f0 f1 f3 f4 f5⟩
 self:=λ_ _ _ _ _ st h=>wpAny_pyIter_striter_wide st h
section
variable {X:Cx}{tg:Expr}
abbrev C3(tl:TE):TI:=λσ H R=>tl σ H λx H1=>∃z,x=.str z/\R (Lg z) H1
def OV{l:Expr}{tl:TE}(hl:PE X l tl):PI X tg l (C3 tl):=by
 intro pins s σ H R I h;refine cn (hl pins s σ H _ I h) λv s1 ⟨x,H1,I1,r1,q1⟩=>?_;obtain⟨z,e,q⟩:=q1;subst e;obtain⟨t,rfl⟩:=r1;have fp:∀b∈[s1.heap.objs.size],lX X pins H1 b:=λb hb=>by
  have e:b=s1.heap.objs.size:=by simpa using hb
  subst e;exact I1.p9 (Zad _) (I1.hok.fresh (Zad _))
 cases ha:z.cps.all (· < 128);refine wpAny_pyIter_wide ha ?_;exact⟨s1.heap.objs.size,[s1.heap.objs.size],_,_,H1,rfl,I1.kept (t':=s1.toks) λb o e=>Zai _ e,U5 _ z t,⟨_,Zar _ rfl,rfl,rfl⟩,fp,q⟩;refine wpAny_pyIter_ascii ha ?_;exact⟨s1.heap.objs.size,[s1.heap.objs.size],_,_,H1,rfl,I1.kept (t':=s1.toks) λb o e=>Zai _ e,U4 _ z t,⟨_,Zar _ rfl,rfl,rfl⟩,fp,q⟩
end
end L2
namespace L2
open PySem PySem.Spec PyProof.Rows
open Builtin.Str
set_option genInjectivity false in
inductive ZS where
 |tup (a:Addr)|lst (a:Addr)|str (x:Str)
abbrev ZS.has(K:Zfr)(H:Hp)(i:Nat)(v:V):ZS->Prop
 |.tup a=>∃xs,eQ K H a xs/\xs[i]?=some v
 |.lst a=>∃xs,iL K H a xs/\xs[i]?=some v
 |.str x=>∃c,x.cps[i]?=some c/\v=.str ⟨#[c]⟩
abbrev ZS.fin(K:Zfr)(H:Hp)(i:Nat):ZS->Prop
 |.tup a=>∃xs,eQ K H a xs/\xs.length=i
 |.lst a=>∃xs,iL K H a xs/\xs.length=i
 |.str x=>x.cps.size=i
def ZS.vz{X:Cx}{pins:List (Addr×Obj)}{σ:St}{H:Hp}{s:Shared}{src:ZS}{i:Nat}{x y:V}(I:Inv X pins σ H s)(a:src.has X.K H i x)(b:src.has X.K H i y):y=x:=by
 cases src with
 |tup p =>
  obtain⟨xs,h1,e1⟩:=a;obtain⟨ys,h2,e2⟩:=b;rw[I.iM h2 h1]at e2;rw[e1]at e2;exact(Zaq e2).symm
 |lst p =>
  obtain⟨xs,h1,e1⟩:=a;obtain⟨ys,h2,e2⟩:=b;rw[I.p7 h2 h1]at e2;rw[e1]at e2;exact(Zaq e2).symm
 |str z =>
  obtain⟨c,h1,rfl⟩:=a;obtain⟨d,h2,rfl⟩:=b;rw[h1]at h2;cases h2;rfl
abbrev ZS.val(K:Zfr)(H:Hp)(x:V):ZS->Prop
 |.tup a=>x=.ref a/\∃xs,eQ K H a xs
 |.lst a=>x=.ref a/\∃xs,iL K H a xs
 |.str z=>x=.str z
end L2
namespace L2
open PySem PySem.Spec PyProof.Rows
section
variable {X:Cx}{K:Zfr}
abbrev eD(us:List Value)(ds:List PyData)(dx:PyData)(u:Value):Bool:=@decide (∃(i:Nat) (d:PyData),us[i]?=some u/\ds[i]?=some d/\PyData.eqv d dx=true) (Classical.propDecidable _)
def fD.get:∀{H:Hp} {vs:List V} {ds:List PyData},fD K H vs ds->∀{i:Nat} {v:V},vs[i]?=some v->∃d,ds[i]?=some d/\Rep K H v d
 |_,_,_,.nil,i,v,e=>by simp at e
 |_,_,_,.cons (d:=d) a b,0,v,e=>⟨d,by simp,by have:_=v:=Zaq (by simpa using e);rw[<- this];exact a⟩
 |_,_,_,.cons a b,i+1,v,e=>by
  obtain⟨d,e1,r⟩:=fD.get b (i:=i) (by simpa using e);exact⟨d,by simpa using e1,r⟩
def fD.yK:∀{H:Hp} {vs:List V} {ds:List PyData},fD K H vs ds->vs.length=ds.length
 |_,_,_,.nil=>rfl
 |_,_,_,.cons _ r=>by rw[Zaz,Zaz,fD.yK r]
def Vals.Lh{xs:List V}{us:List Value}(r:Vals xs us){i:Nat}{u:Value}(h:us[i]?=some u):∃v,xs[i]?=some v/\RelV v u:=by have hi:=(Zac.mp h).1;have hl:=r.length;obtain⟨u',hu,ru⟩:=r.get (i:=i) (x:=xs[i]'⋯) (Zab _);rw[h]at hu;cases hu;exact⟨_,Zab _,ru⟩
open Classical in
def xk{pins:List (Addr×Obj)}{σ:St}{H:Hp}{s:Shared}{xs:List V}{us:List Value}{ds:List PyData}{x:V}{v:Value}{dx:PyData}(hu:X.A.units+64<cLine)(I:Inv X pins σ H s)(r:Vals xs us)(hr:fD X.K H xs ds)(rx:RelV x v)(hx:Rep X.K H x dx)(c1:∀d∈ds,d.canLay0=true)(c2:dx.canLay0=true)(c3:dx.depth<=60):
  ∀u∈us,SeqAt.EqAt X.A.in1 s u v (eD us ds dx u):=by
 intro u hm;obtain⟨bs,rb⟩:=hx.reads I rx;have key:∀(i:Nat) (d:PyData),us[i]?=some u->ds[i]?=some d->SeqAt.EqAt X.A.in1 s u v (PyData.eqv d dx):=λi d h1 h2=>by
  obtain⟨y,hy,ry⟩:=r.Lh h1;obtain⟨d',hd',rd⟩:=hr.get hy;rw[h2]at hd';cases hd';obtain⟨as,ra⟩:=rd.reads I ry;intro prog w E Q q;refine SeqAt.eqBoolOverData prog w X.A.in1 E s u v d dx as bs Q ra rb (c1 _ (Zak h2)) c2 ?_ q;have:X.A.in1.units<=X.A.units+2:=by
   first|exact Nat.le_add_right _ _|(show X.A.units<=_;lk)|(show X.A.units+1<=_;lk)
  lk
 obtain⟨i,hi⟩:=ZbR hm;have hl1:=r.length;have hl2:=hr.yK;have hil:=(Zac.mp hi).1;unfold eD;by_cases h:∃(i:Nat) (d:PyData),us[i]?=some u/\ds[i]?=some d/\PyData.eqv d dx=true;rw[decide_eq_true h];obtain⟨j,d,h1,h2,h3⟩:=h;have:=key j d h1 h2
 rwa [h3]at this
 rw[decide_eq_false h];have h2:ds[i]?=some (ds[i]'⋯):=Zab _;have k:=key i _ hi h2;cases hb:PyData.eqv (ds[i]'⋯) dx with
 |true=>exact absurd ⟨i,_,hi,h2,hb⟩ h
 |false=>rwa [hb]at k
open Classical in
def yL{xs:List V}{us:List Value}{ds:List PyData}{dx:PyData}(h1:us.length=ds.length):us.any (eD us ds dx)=ds.any λd=>PyData.eqv d dx:=by rw[Zbs,Zco,Zco];constructor;rintro⟨u,hu,h⟩;unfold eD at h;obtain⟨i,d,_,h2,h3⟩:=of_decide_eq_true h;exact⟨d,Zak h2,h3⟩;rintro⟨d,hd,h⟩;obtain⟨i,hi⟩:=ZbR hd;have hil:=(Zac.mp hi).1;refine⟨us[i]'⋯,ZaM _,?_⟩;unfold eD;exact decide_eq_true ⟨i,d,Zab _,hi,h⟩
abbrev yM(K:Zfr)(neg:Bool):R2:=λx y H Q=>∃p xs ds dx,y=.ref p/\(iL K H p xs\/eQ K H p xs)/\fD K H xs ds/\Rep K H x dx/\(∀d∈ds,PyData.canLay0 d=true)/\PyData.canLay0 dx=true/\PyData.depth dx<=60/\Q (.bl (if neg then !ds.any (λd=>PyData.eqv d dx)else ds.any λd=>PyData.eqv d dx)) H
def U6(hu:X.A.units+64<cLine):lA X (compareOp .NotIn) (yM X.K true):=by
 intro pins s σ H x y v u Q I rx ry h;obtain⟨p,xs,ds,dx,rfl,hq,hr,hx,c1,c2,c3,q⟩:=h;cases ry;have e2:∀{its:List Value},Vals xs its->its.toArray.any (eD its ds dx)=ds.any λd=>PyData.eqv d dx:=λ{its} r=>by
  rw[show its.toArray.any (eD its ds dx)=its.any (eD its ds dx) by simp];exact yL (xs:=xs) (by rw[<- r.length];exact hr.yK)
 rcases hq with hq|hq
 obtain⟨its,r,pl,hz⟩:=I.list hq;refine SeqAt.notIn_listAt (eD its ds dx) pl.isList (λw hw=>xk hu I r hr rx hx c1 c2 c3 w (by simpa using hw)) ⟨.bl _,H,I,rfl,?_⟩;rw[e2 r];exact q;obtain⟨its,r,pl,hz⟩:=I.tuple hq;refine SeqAt.notIn_tupleAt (eD its ds dx) pl (λw hw=>xk hu I r hr rx hx c1 c2 c3 w (by simpa using hw)) ⟨.bl _,H,I,rfl,?_⟩;rw[e2 r];exact q
def U7(hK:X.K=K)(hu:X.A.units+64<cLine):lA X (compareOp .NotIn) (yM K true):=by subst hK;exact U6 hu
end
open Builtin.Str
def C4:Slot "reversed" "__next__" "reversed.__next__" :=
 .of (owner:="reversed") (n:="__next__") (by rw[typeLookup_type,builtinLookup_eq_fast];kernel_rfl) (by decide +kernel) (by decide +kernel) (by decide +kernel)
  (by first|exact .inl (by decide +kernel)|exact .inr (by decide +kernel)) (by rw[isSubtype_type];kernel_rfl)
def OW:Slot "reversed" "__iter__" "reversed.__iter__" :=
 .of (owner:="reversed") (n:="__iter__") (by rw[typeLookup_type,builtinLookup_eq_fast];kernel_rfl) (by decide +kernel) (by decide +kernel) (by decide +kernel)
  (by first|exact .inl (by decide +kernel)|exact .inr (by decide +kernel)) (by rw[isSubtype_type];kernel_rfl)
def OX:entryFor table "reversed.__next__" = some Builtin.«reversed.__next__»:=entryFor_of_tree (by kernel_rfl)
def OY(a:Value):argsOk "reversed.__next__" ⟨[a],[]⟩:=by unfold argsOk;kernel_rfl
def U8:entryFor table "reversed.__iter__" = some Builtin.«dict_keyiterator.__iter__» :=
 entryFor_alias (id':="dict_keyiterator.__iter__") (by kernel_rfl) (by first|rfl|decide +kernel) (by decide +kernel) (by kernel_rfl)
def U9(a:Value):argsOk "reversed.__iter__" ⟨[a],[]⟩:=by unfold argsOk;kernel_rfl
def Va:typeLookup (.type "tuple") "__reversed__" = pure none:=by rw[typeLookup_type,builtinLookup_eq_fast];kernel_rfl
def Vb:typeLookup (.type "str") "__reversed__" = pure none:=by rw[typeLookup_type,builtinLookup_eq_fast];kernel_rfl
abbrev mN(h:Heap)(a:Addr)(v:Value)(i:Int):Prop:=∃o,h.get? a=some o/\o.cls=.type "reversed" /\ o.data=.fields #[v,rawInt i]
def mN.at{h h':Heap}{a:Addr}{v:Value}{i:Int}(x:mN h a v i)(e:∀o,h.get? a=some o->h'.get? a=some o):mN h' a v i:=let ⟨o,ho,r⟩:=x;⟨o,e _ ho,r⟩
section
variable {prog:Program}{w:World}{A:Around}{E:Value->Shared->Prop}{s:Shared}
def mN.typeIs{a:Addr}{v:Value}{i:Int}(x:mN s.heap a v i):s.TypeIs (.ref a) "reversed" := let ⟨o,ho,hc,_⟩:=x;⟨o,ho,hc⟩
def OZ{it:Addr}{v:Value}{i:Int}{Q:Value->Shared->Prop}(hit:mN s.heap it v i)(h:Q (.ref it) s):wpAny (model prog w) A (pyIter (.ref it)) Q E s:=by refine wpAny_pyIter_slot hit.typeIs OW (wpAny_call_entry OW hit.typeIs U8 ?_ (U9 _));show wpAny _ _ (ret (.ref it)) _ _ s;exact wpAny_pure ⟨_,rfl,"reversed",_,hit.typeIs,C4.lookup,h⟩
def Vc{it:Addr}{T gid:String}{v:Value}{y:Value->Prop}{i:Nat}{Q:Option Value->Shared->Prop}(hit:mN s.heap it v (i:Int))(hT:s.TypeIs v T)(hg:typeLookup (.type T) "__getitem__" = pure (some (.builtin gid)))
  (hget:∀(A':Around) (E':Value->Shared->Prop) (Q':Value->Shared->Prop) (tk:Tok) (n:Nat),(∀z k,y z->Q' z { s with toks:=k })->wpAny (model prog w) A' (getItem v (.int i tk)) Q' E' { s with toks:=n })
  (hQ:∀x h' k,y x->mN h' it v ((i:Int)-1)->Heap.SameBut it s.heap h'->Q (some x) { s with heap:=h',toks:=k }):wpAny (model prog w) A (pyNext (.ref it)) Q E s:=by
 obtain⟨o,ho,hc,hd⟩:=id hit;unfold pyNext
 refine wpAny_bind (wpAny_attempt (wpAny_callSpecial?_slot (name:=Str.ofString "__next__") hit.typeIs C4
  (wpAny_call_entry C4 hit.typeIs OX ?_ (OY _))))
 unfold Builtin.«reversed.__next__»;refine wpAny_bind (wpAny_of_eq (a:=(Value.ref it,[])) rfl ?_)
 try dsimp only
 refine wpAny_bind (wpAny_field ho hd (x:=v) rfl ?_);refine wpAny_bind (wpAny_field ho hd (x:=rawInt (i:Int)) rfl ?_);show wpAny _ _ (if(i:Int)<0 then _ else _) _ _ s;rw[if_neg ⋯];refine wpAny_bind (wpAny_specialOf hT hg ?_)
 try dsimp only
 rw[if_neg (by simp)];refine wpAny_bind (wpAny_mkInt ?_);refine wpAny_bind (wpAny_attempt (hget _ _ _ _ _ λx k hx=>?_));show wpAny _ _ (field (.ref it) 1 >>= _) _ _ _;refine wpAny_bind (wpAny_field ho hd (x:=rawInt (i:Int)) rfl ?_);refine wpAny_bind (wpAny_setField ho hd (by simp) ?_)
 first
 |refine wpAny_pure ⟨x,rfl,wpAny_pure (hQ _ _ _ hx ?_ (ZbF ..))⟩
 |refine wpAny_pure ⟨x,rfl,wpAny_bind (wpAny_pure (wpAny_pure (hQ _ _ _ hx ?_ (ZbF ..))))⟩
 exact⟨_,Zby _ ho (Obj.isFreed_of_fields (Obj.data_mapFields hd _)),(Obj.cls_mapFields ..).trans hc,by rw[Obj.data_mapFields hd];simp[rawInt]⟩
def Vd{it:Addr}{v:Value}{i:Int}{Q:Option Value->Shared->Prop}(hh:A.handled=none)(hit:mN s.heap it v i)(hi:i<0)
  (hQ:∀h',Heap.ExtBut it s.heap h'->Q none { s with heap:=h' }):wpAny (model prog w) A (pyNext (.ref it)) Q E s:=by
 obtain⟨o,ho,hc,hd⟩:=id hit;unfold pyNext
 refine wpAny_bind (wpAny_attempt (wpAny_callSpecial?_slot (name:=Str.ofString "__next__") hit.typeIs C4
  (wpAny_call_entry C4 hit.typeIs OX ?_ (OY _))))
 unfold Builtin.«reversed.__next__»;refine wpAny_bind (wpAny_of_eq (a:=(Value.ref it,[])) rfl ?_)
 try dsimp only
 refine wpAny_bind (wpAny_field ho hd (x:=v) rfl ?_);refine wpAny_bind (wpAny_field ho hd (x:=rawInt i) rfl ?_);show wpAny _ _ (if i<0 then _ else _) _ _ s;rw[if_pos hi];refine wpAny_bind (wpAny_rule ?_);refine wpAny_bind ?_;show wpAny _ _ (setField (.ref it) 1 (rawInt (-1)) >>= λ_=>setField (.ref it) 0 .none) _ _ _;refine wpAny_bind (wpAny_setField ho hd (by simp) ?_);have Hj:=Zby (Obj.mapFields λx=>x.setIfInBounds 1 (rawInt (-1))) ho (Obj.isFreed_of_fields (Obj.data_mapFields hd _));have hd1:=Obj.data_mapFields hd (λx=>x.setIfInBounds 1 (rawInt (-1)));refine wpAny_setField Hj hd1 (by simp) ?_
 first
 |show wpAny _ _ (newExc (.type "StopIteration") [] >>= _) _ _ _
 |(refine wpAny_bind ?_;show wpAny _ _ (newExc (.type "StopIteration") [] >>= _) _ _ _)
 refine wpAny_bind ?_;simp only[newExc,newTuple];refine wpAny_bind (wpAny_newObj_type ?_ (by size_fits));refine wpAny_bind (m:=firstArgMember _ _) (wpAny_of_eq (a:=Value.none) (by first|rfl|(simp only[firstArgMember];rfl)) ?_);refine wpAny_newObj_type ?_ (by size_fits);simp only[raiseNew];refine wpAny_bind (wpAny_handled ?_)
 first|rw[show A.in1.handled=none from hh]|rw[hh]
 refine wpAny_bind (wpAny_pure (wpAny_throw ?_));refine wpAny_bind (wpAny_isInstance (T:="StopIteration") (b:=true) ⟨_,Zar _ rfl,rfl⟩ isSubtype_stop ?_);refine wpAny_pure (hQ _ ?_);have x2:Heap.ExtBut it s.heap ((s.heap.update it (Obj.mapFields λx=>x.setIfInBounds 1 (rawInt (-1)))).update it (Obj.mapFields λx=>x.setIfInBounds 0 .none)):=λc o hc e=>(ZbF ..).extBut c o hc ((ZbF ..).extBut c o hc e);exact(x2.push _).push _
end
abbrev O0(K:Zfr)(src:ZS)(n:Nat):It:=⟨λi H=>i<n/\∃v,src.has K H (n-1-i) v,λi H x H'=>H'=H/\∀v,src.has K H (n-1-i) v->v=x,λi _=>i=n⟩
def ZS.got{X:Cx}{pins:List (Addr×Obj)}{σ:St}{H:Hp}{s:Shared}{src:ZS}{u:Value}{x:V}{i:Nat}{v:V}(I:Inv X pins σ H s)(r:RelV x u)(hv:src.val X.K H x)(nl:∀a,src≠.lst a)(hs:∀z,src=.str z->z.length<=sizeLine)(h:src.has X.K H i v):
  ∃(T gid:String) (y:Value->Prop),s.TypeIs u T/\typeLookup (.type T) "__getitem__" = pure (some (.builtin gid))/\(∀z,y z->RelV v z) /\
   ∀(A':Around) (E':Value->Shared->Prop) (Q':Value->Shared->Prop) (tk:Tok) (n:Nat),(∀z k,y z->Q' z { s with toks:=k })->wpAny (model X.prog X.w) A' (getItem u (.int i tk)) Q' E' { s with toks:=n }:=by
 have hn:=lB;cases src with
 |lst a=>exact absurd rfl (nl a)
 |tup a =>
  obtain⟨rfl,xs,hq⟩:=hv;obtain⟨xs',hq',hx⟩:=h;rw[I.iM hq' hq]at hx;cases r;obtain⟨its,rv,pl,hz⟩:=I.tuple hq;obtain⟨w,ew,rw'⟩:=rv.get hx;have hl:=rv.length;have hi:=(Zac.mp hx).1;refine⟨"tuple",_,λz=>z=w,pl.typeIs,slot_tuple_getitem.lookup,λz e=>e ▸ rw',λA' E' Q' tk n hq'=>?_⟩;exact getItem_tuple (s:={ s with toks:=n }) (j:=i) pl ⋯ ⋯ (by rw[Zam];exact seqIndex_of ⋯ ⋯) (by simpa using ew) (hq' w n rfl)
 |str z =>
  cases hv;obtain⟨c,hx,rfl⟩:=h;obtain⟨t,rfl⟩:=r;have hi:=(Array.getElem?_eq_some_iff.mp hx).1;have hl:z.length=z.cps.size:=rfl;have hzl:=hs z rfl;refine⟨"str",_,λy=>∃t,y=.str ⟨#[c]⟩ t,typeIs_str s z t,slot_str_getitem.lookup,λy hy=>hy,λA' E' Q' tk n hq'=>?_⟩
  refine getItem_str (s:={ s with toks:=n }) (c:=c) (by
   have e1:decide ((i:Int) < -(2 ^ 63:Int))=false:=decide_eq_false ⋯;have e2:decide ((i:Int) >= 2 ^ 63)=false:=decide_eq_false ⋯
   rw[e1,e2,Bool.or_false]) (by rw[seqIndex_of ⋯ ⋯];simpa using hx) (hq' _ _ ⟨_,rfl⟩)
def Ve{P:Program}{w:World}{K:Zfr}{tg:Expr}(src:ZS)(u:Value)(n:Nat)(it:Addr)(nl:∀a,src≠.lst a)(hs:∀z,src=.str z->z.length<=sizeLine)(x:V)(rx:RelV x u)(hsv:∀(H:Hp) (v:V) (i:Nat),src.has K H i v->src.val K H x):
  Turn P w K tg (O0 K src n) [it] it (λi h=>mN h it u ((n:Int)-1-(i:Nat))) where
 mem:=by simp
 obj:=λi h st b hb=>by
  have e:b=it:=by simpa using hb
  subst e;obtain⟨o,e,c,d⟩:=st;exact⟨o,e,λv z=>by rw[d]at z;cases z⟩
 keep:=λi h h' st k=>st.at λo e=>k it (by simp) o e
 item:=by
  intro X hP hw hK hc i pins s σ H E I hf st hg;subst hP hw hK;obtain⟨hin,v,hv⟩:=hg;obtain⟨f0,f1,f2,f3,f4,f5⟩:=hf it (by simp);obtain⟨T,gid,y,hT,hl,hy,hget⟩:=ZS.got I rx (hsv H v _ hv) nl hs hv;have st':mN s.heap it u ((n-1-i:Nat):Int):=by
   have e:((n-1-i:Nat):Int)=(n:Int)-1-(i:Nat):=by lk
   rw[e];exact st
  refine Vc st' hT hl hget λz h' tk hz hr sb=>?_;have I1:Inv X pins σ H { s with heap:=h',toks:=tk }:=I.turned (λb o hb e=>(sb.2 b hb).trans e) f0 f1 f3 f4 f5;have hr':mN h' it u ((n:Int)-1-((i+1:Nat):Int)):=by
   have e:(n:Int)-1-((i+1:Nat):Int)=((n-1-i:Nat):Int)-1:=by lk
   rw[e];exact hr
  obtain⟨o,e,c,d⟩:=id hr;exact⟨z,rfl,A9 (s:={ s with heap:=h',toks:=tk }) e c d ∅ ⟨v,H,I1,hy z hz,⟨rfl,λv' hv'=>ZS.vz I hv hv'⟩,hr',λb hb=>(hf b hb).1⟩⟩
 done:=by
  intro X hP hw hK hc i pins s σ H E I hf st hg;subst hP hw hK;have hg:i=n:=hg;subst hg;obtain⟨f0,f1,f2,f3,f4,f5⟩:=hf it (by simp);exact Vd (I.ok.hd hc) st ⋯ λh' eb=>⟨rfl,I.turned (t':=s.toks) (λb o hb e=>eb b o hb e) f0 f1 f3 f4 f5⟩
 self:=λ_ _ _ _ _ st h=>OZ st h
def Vg:Slot "reversed" "__init__" "object.__init__" :=
 .of (owner:="object") (n:="__init__") (by rw[typeLookup_type,builtinLookup_eq_fast];kernel_rfl) (by decide +kernel) (by decide +kernel) (by decide +kernel)
  (by first|exact .inl (by decide +kernel)|exact .inr (by decide +kernel)) (by rw[isSubtype_type];kernel_rfl)
def O1:TypeCalled "reversed" "reversed.__new__" "object.__init__" :=
 ⟨by decide +kernel,by decide +kernel,⟨_,_,F.mro_reversed⟩,F.made_reversed,by decide +kernel,by rw[isSubtype_type];kernel_rfl,Vg⟩
def O2{u:Value}{T gid:String}{n:Nat}(h0:typeLookup (.type T) "__reversed__" = pure none)(h1:typeLookup (.type T) "__getitem__" = pure (some (.builtin gid)))(hsub:isSubtype (.type T) (.type "dict")=pure false)
  (Li:["tuple.__getitem__","str.__getitem__","bytes.__getitem__","bytearray.__getitem__","memoryview.__getitem__","numpy.ndarray.__getitem__","sqlite3.Row.__getitem__"].contains gid=true) :
  Meets (Builtin.«reversed.__new__» ⟨[.type "reversed",u],[]⟩) (λ_ R s=>s.TypeIs u T /\
   (∀(prog:Program) (w:World) (A':Around) (E':Value->Shared->Prop) (Q':Value->Shared->Prop),(∀t k,Q' (.int n t) { s with toks:=k })->wpAny (model prog w) A' (call (.builtin "len") [u]) Q' E' s) /\
   ∀k,R (.ok (.ret (.ref s.heap.objs.size))) { s with heap:=s.heap.push { cls:=.type "reversed",data:=.fields #[u,rawInt ((n:Int)-1)] },toks:=k }) :=
 .of_wp λprog w A R s h=>by
 obtain⟨hT,hlen,h⟩:=h;unfold Builtin.«reversed.__new__»;refine wpAny_bind (wpAny_of_eq (newClass_reversed _) ?_)
 try dsimp only
 refine wpAny_bind (wpAny_of_eq (a:=()) (by first|rfl|kernel_rfl) ?_);refine wpAny_bind (wpAny_of_eq (a:=()) (by first|rfl|kernel_rfl) ?_)
 try dsimp only
 refine wpAny_bind (wpAny_specialOf hT h0 ?_)
 try dsimp only
 refine wpAny_bind ?_;show wpAny _ _ (isInstance u (.type "dict") >>= _) _ _ _;refine wpAny_bind (wpAny_isInstance (b:=false) hT hsub ?_);rw[if_neg Zan];refine wpAny_bind (wpAny_specialOf hT h1 ?_);show wpAny _ _ (if["tuple.__getitem__","str.__getitem__","bytes.__getitem__","bytearray.__getitem__","memoryview.__getitem__","numpy.ndarray.__getitem__","sqlite3.Row.__getitem__"].contains gid=true then _ else _) _ _ _;rw[if_pos Li];refine wpAny_pure ?_;rw[if_neg (by simp)];refine wpAny_bind (hlen _ _ _ _ _ λt k=>?_);refine wpAny_bind (wpAny_of_eq (a:=some (n:Int)) rfl ?_)
 try dsimp only
 refine wpAny_bind ?_;show wpAny _ _ (newObj (.type "reversed") (.fields #[u,rawInt ((n:Int)-1)])) _ _ _;refine wpAny_newObj_type ?_;exact wpAny_pure ⟨_,rfl,h k⟩
def Vh:isSubtype (.type "tuple") (.type "dict")=pure false:=by rw[isSubtype_type];kernel_rfl
def Vi:isSubtype (.type "str") (.type "dict")=pure false:=by rw[isSubtype_type];kernel_rfl
abbrev C5(K:Zfr)(ta:TA):TI:=λσ H R=>ta σ H λvs H1=>∃(x:V) (src:ZS) (n:Nat),vs=[x]/\src.val K H1 x/\src.fin K H1 n/\(∀a,src≠.lst a)/\(∀z,src=.str z->z.length<=sizeLine)/\R (O0 K src n) H1
def yN{X:Cx}{tg l:Expr}{ta:TA}{p pos:Pos}(hg:Gl X "reversed")(hm:X.mg "reversed" = none)(ha:PA X [l] ta)(hs:starEach [l] X.env=[(false,eval l X.env)]:=by rfl):
  PI X tg (.Call (.Name "reversed" p) [l] [] pos) (C5 X.K ta):=by
 intro pins s σ H R I h;refine Call_ (B8 I hg hm Us (PyProof.Rows.callWith_type1 (cn (ha pos pins s σ H _ I h) λus s1 ⟨vs,H1,I1,r1,q1⟩=>?_) hs rfl));obtain⟨x,src,n,e,hv,hn,nl,hz,q⟩:=q1;subst e;obtain⟨u,rfl,r⟩:=vals1 r1;have l63:=lB;have hsv:∀(H:Hp) (v:V) (i:Nat),src.has X.K H i v->src.val X.K H x:=λH v i hh=>by
  cases src with
  |tup a=>obtain⟨xs,h1,_⟩:=hh;exact⟨hv.1,xs,h1⟩
  |lst a=>exact absurd rfl (nl a)
  |str z=>exact hv
 have fin:∀k,wpAny (model X.prog X.w) X.A (pyIter (.ref s1.heap.objs.size)) (Kq X pins σ tg R) X.xe { s1 with heap:=s1.heap.push { cls:=.type "reversed",data:=.fields #[u,rawInt ((n:Int)-1)] },toks:=k }:=λk=>by
  have g:mN (s1.heap.push { cls:=.type "reversed",data:=.fields #[u,rawInt ((n:Int)-1)] }) s1.heap.objs.size u ((n:Int)-1-(0:Nat)):=⟨_,Zar _ rfl,rfl,by simp⟩;refine OZ g ?_;refine⟨s1.heap.objs.size,[s1.heap.objs.size],_,_,H1,rfl,I1.kept (t':=k) λb o e=>Zai _ e,Ve src u n _ nl hz x r hsv,g,λb hb=>?_,q⟩;have e:b=s1.heap.objs.size:=by simpa using hb
  subst e;exact I1.p9 (Zad _) (I1.hok.fresh (Zad _))
 cases src with
 |lst a=>exact absurd rfl (nl a)
 |tup a =>
  obtain⟨rfl,xs,hq⟩:=id hv;obtain⟨xs',hq',hx⟩:=hn;have hx:xs.length=n:=by rw[<- I1.iM hq' hq];exact hx
  cases r;obtain⟨its,rv,pl,hz'⟩:=I1.tuple hq;have hl:=rv.length;refine callType_new O1 ∅ (F.typeCall_reversed_1 _) (F.newCall_reversed_1 _) (λobj=>F.args_object_init_2 obj _) F.entry_reversed_new (O2 (n:=n) Va slot_tuple_getitem.lookup Vh ∅) ⟨pl.typeIs,λprog w A' E' Q' hq=>?_,λk=>⟨⟨_,Zar _ rfl,rfl⟩,fin k⟩⟩;have e:its.toArray.size=n:=by rw[Zam];lk
  refine len_tuple pl (by rw[e];lk) ?_;rw[e];exact hq _ _
 |str z =>
  cases hv;have hn:z.length=n:=hn;have:=hz z rfl;obtain⟨t,rfl⟩:=r;refine callType_new O1 ∅ (F.typeCall_reversed_1 _) (F.newCall_reversed_1 _) (λobj=>F.args_object_init_2 obj _) F.entry_reversed_new (O2 (n:=n) Vb slot_str_getitem.lookup Vi ∅) ⟨typeIs_str _ z t,λprog w A' E' Q' hq=>?_,λk=>⟨⟨_,Zar _ rfl,rfl⟩,fin k⟩⟩;refine len_str ⋯ ?_;rw[hn];exact hq _ _
end L2
namespace L2
open PySem PySem.Spec PyProof.Rows
open Builtin
end L2
namespace L2
open PySem PySem.Spec PyProof.Rows
abbrev DU(a:Addr)(xs:List (List Int×Addr×Value)):HO:=.ext λh=>(a == sysModules)=false/\xs.length<=sizeLine/\∃o es ep,h.get? a=some o/\o.ExactDict/\o.data=.dict es ep /\
 (∃(P:Program) (w:World),es.toList=xs.map (entryOfKey (tupleKind (intKind P w))))/\(xs.map (·.1)).Nodup
end L2
namespace L2
open PySem PySem.Spec PyProof.Rows PySem.SeqAt PySem.MeetsSeq
abbrev pb(A:Around)(s:Shared)(y x:Value)(r:Bool):Prop:=∀(prog:Program) (w:World) (E Q:Value->Shared->Prop),Q (.bool r) s->wpAny (model prog w) A (richCompare .Lt y x) Q E s
abbrev cQ(e lt:Nat->Bool)(fin:Bool):List Nat->Bool
 |[]=>fin
 |i :: r=>if e i then cQ e lt fin r else lt i
def Vj(l m:Addr)(a b:Array Value)(n1 n2:Nat)(d1 d2:Option Addr)(s1 s2:Array (Option Value))(e lt:Nat->Bool):
  Meets (Builtin.«tuple.__lt__» ⟨[.ref l,.ref m],[]⟩) (λA R s=>s.heap.get? l=some { cls:=.type "tuple",dict:=d1,data:=.seq a n1,slots:=s1 }/\s.heap.get? m=some { cls:=.type "tuple",dict:=d2,data:=.seq b n2,slots:=s2 } /\
    (∀j (h1:j<a.size) (h2:j<b.size),EqAt A.in1 s a[j] b[j] (e j))/\(∀j (h1:j<a.size) (h2:j<b.size),e j=false->pb A.in1 s a[j] b[j] (lt j))/\R (.ok (.ret (.bool (cQ e lt (decide (a.size<b.size)) (List.range (min a.size b.size)))))) s) :=
 .of_wp λprog w A R s h=>by
  obtain⟨hp,g,d,tk,os⟩:=s;obtain⟨hl,hm,he,hlt,h⟩:=h;have f2:=AutoSeq1.sub_tuple_tuple;have hZ:(a.toList.zip b.toList).length=min a.size b.size:=by simp
  wp_walk using wpAny_loadPart' hl,wpAny_loadPart' hm,wpAny_forIn_list _ (λrest q s'=>q.1=none/\s'=⟨hp,g,d,tk,os⟩/\∃i,rest=(a.toList.zip b.toList).drop i/\R (.ok (.ret (.bool (cQ e lt (decide (a.size<b.size)) ((List.range (min a.size b.size)).drop i))))) ⟨hp,g,d,tk,os⟩) _
  case turn =>
   rintro⟨y,x⟩ rest q s' ⟨hq,rfl,i,hz,hR⟩;have hil:i<(a.toList.zip b.toList).length:=by
    rcases Nat.lt_or_ge i (a.toList.zip b.toList).length with k|k
    ·exact k
    ·rw[Zch k]at hz;cases hz
   have hmn:i<min a.size b.size:=hZ ▸ hil;have g1:i<a.size:=by lk
   have g2:i<b.size:=by lk
   rw[ZbS hil]at hz;injection hz with hyx hrest;have hy:y=a[i]:=by simpa using congrArg Prod.fst hyx
   have hx:x=b[i]:=by simpa using congrArg Prod.snd hyx
   subst hy hx;have hd:(List.range (min a.size b.size)).drop i=i :: (List.range (min a.size b.size)).drop (i+1):=by simp[ZbS,hmn]
   rw[hd,cQ]at hR;refine wpAny_bind (he i g1 g2 prog w _ _ ?_);cases hei:e i with
   |true =>
    rw[hei]at hR
    wp_walk
    exact⟨rfl,rfl,i+1,hrest,hR⟩
   |false =>
    rw[hei]at hR;refine wpAny_bind (wpAny_rule (wpAny_bind (hlt i g1 g2 hei prog w _ _ ?_)))
    wp_walk
    exact⟨_,rfl,hR⟩
  case fin =>
   rintro⟨q1,q2⟩ s' ⟨hq,rfl,i,hz,hR⟩;simp only at hq;subst hq;have hge:min a.size b.size<=i:=by
    rcases Nat.lt_or_ge i (a.toList.zip b.toList).length with k|k
    ·rw[ZbS k]at hz;cases hz
    ·exact hZ ▸ k
   rw[Zch (by simpa using hge),cQ]at hR
   wp_walk
   exact⟨_,rfl,by simpa[Builtin.Tuple.tupleCompareSizes]using hR⟩
  case h =>
   exact⟨rfl,rfl,0,rfl,by simpa using h⟩
def pb.tuples{A:Around}{s:Shared}{l m:Addr}{a b:Array Value}{e lt:Nat->Bool}(hl:s.heap.IsTuple l a)(hm:s.heap.IsTuple m b)(hu:A.units<cLine)
  (he:∀j (h1:j<a.size) (h2:j<b.size),EqAt A.in1 s a[j] b[j] (e j)) (hlt:∀j (h1:j<a.size) (h2:j<b.size),e j=false->pb A.in1 s a[j] b[j] (lt j)) :
  pb A s (.ref l) (.ref m) (cQ e lt (decide (a.size<b.size)) (List.range (min a.size b.size))):=λprog w E Q h=>by
 obtain⟨⟨c1,d1,t1,s1⟩,o1,k1,n1,j1⟩:=hl;obtain⟨⟨c2,d2,t2,s2⟩,o2,k2,n2,j2⟩:=hm;simp only at k1 j1 k2 j2;subst k1 j1 k2 j2;exact richCompare_meets_room (op:=.Lt) ⟨_,o1,rfl⟩ ⟨_,o2,rfl⟩ F.slot_tuple_lt F.entry_tuple_lt (F.args_tuple_lt_2 _ _) (Vj l m a b n1 n2 d1 d2 s1 s2 e lt)
  ⟨o1,o2,he,hlt,show Value.bool (cQ e lt (decide (a.size<b.size)) (List.range (min a.size b.size)))≠Value.notImplemented/\Q (.bool (cQ e lt (decide (a.size<b.size)) (List.range (min a.size b.size)))) s from⟨(λx=>nomatch x),h⟩⟩ hu
mutual
abbrev lT:PyData->PyData->Bool
 |.int a,.int b=>decide (a<b)
 |.tuple xs,.tuple ys=>cw xs ys
 |_,_=>false
abbrev cw:List PyData->List PyData->Bool
 |[],[]=>false
 |[],_ :: _=>true
 |_ :: _,[]=>false
 |x :: xs,y :: ys=>if PyData.eqv x y then cw xs ys else lT x y
end
mutual
abbrev fZ:PyData->PyData->Bool
 |.int _,.int _=>true
 |.tuple xs,.tuple ys=>cy xs ys
 |_,_=>false
abbrev cy:List PyData->List PyData->Bool
 |[],_=>true
 |_ :: _,[]=>true
 |x :: xs,y :: ys=>fZ x y && cy xs ys
end
def O3(e lt:Nat->Bool)(fin:Bool)(f:Nat->Nat):∀l:List Nat,cQ e lt fin (l.map f)=cQ (λi=>e (f i)) (λi=>lt (f i)) fin l
 |[]=>rfl
 |i :: r=>by
  show(if e (f i)then cQ e lt fin (r.map f)else lt (f i))=if e (f i)then _ else lt (f i)
  rw[O3 e lt fin f r]
abbrev qM(xs ys:List PyData)(j:Nat):Bool:=lT (xs.getD j .none) (ys.getD j .none)
def O4:∀xs ys:List PyData,cQ (pairEq xs ys) (qM xs ys) (decide (xs.length<ys.length)) (List.range (min xs.length ys.length))=cw xs ys
 |[],[]=>rfl
 |[],_ :: _=>by simp[cQ,cw]
 |_ :: _,[]=>by simp[cQ,cw]
 |x :: xs,y :: ys=>by
  have ih:=O4 xs ys;have e1:min (x :: xs).length (y :: ys).length=min xs.length ys.length+1:=by simp only[Zaz];lk
  have e2:decide ((x :: xs).length<(y :: ys).length)=decide (xs.length<ys.length):=by simp
  rw[e1,e2,List.range_succ_eq_map,cQ,O3];show(if PyData.eqv x y then cQ (pairEq xs ys) (qM xs ys) (decide (xs.length<ys.length)) (List.range (min xs.length ys.length))else lT x y)=_;rw[ih,cw]
mutual
def Lj:∀(da db:PyData) (A:Around) (s:Shared) (a b:Value) (as bs:List Addr),Reads s.heap a da as->Reads s.heap b db bs->fZ da db=true->da.canLay0=true->db.canLay0=true->A.units+min da.depth db.depth<cLine->pb A s a b (lT da db)
 |.int x,.int y,A,s,_,_,_,_,ra,rb,_,_,_,_=>by
  cases ra with
  |int _ t =>
   cases rb with
   |int _ u=>exactλprog w E Q h=>richCompare_gives (op:=.Lt) (typeIs_int s _ t) (typeIs_int s _ u) F.slot_int_lt F.entry_int_lt (F.args_int_lt_2 _ _) (gives_int_lt _ _ t u) (λx=>nomatch x) h
 |.tuple xs,.tuple ys,A,s,_,_,_,_,ra,rb,ok,ha,hb,hu=>by
  cases ra with
  |@tuple l o vs n _ O5 h1 h2 h3 h4 =>
   cases rb with
   |@tuple l' o' vs' n' _ Vk k1 k2 k3 k4 =>
    have t1:s.heap.IsTuple l vs:=⟨_,h1,h2,_,h3⟩;have t2:s.heap.IsTuple l' vs':=⟨_,k1,k2,_,k3⟩;have n1:vs.size=xs.length:=by simpa using ReadsAll.length _ _ _ h4
    have n2:vs'.size=ys.length:=by simpa using ReadsAll.length _ _ _ k4
    show pb A s (.ref l) (.ref l') (cw xs ys);rw[<- O4 xs ys,<- n1,<- n2];refine pb.tuples t1 t2 (room_here hu) (λj j1 j2=>?_) (λj j1 j2 _=>?_);have z:=eqAt_readsAll xs ys A.in1 s vs.toList vs'.toList _ _ h4 k4 ha hb (room_in hu) j (by simpa using j1) (by simpa using j2);simpa using z;have z:=O6 xs ys A.in1 s vs.toList vs'.toList _ _ h4 k4 ok ha hb (room_in hu) j (by simpa using j1) (by simpa using j2);simpa using z
 |.int _,.none,_,_,_,_,_,_,_,_,ok,_,_,_=>nomatch ok
 |.int _,.bool _,_,_,_,_,_,_,_,_,ok,_,_,_=>nomatch ok
 |.int _,.str _,_,_,_,_,_,_,_,_,ok,_,_,_=>nomatch ok
 |.int _,.list _,_,_,_,_,_,_,_,_,ok,_,_,_=>nomatch ok
 |.int _,.tuple _,_,_,_,_,_,_,_,_,ok,_,_,_=>nomatch ok
 |.int _,.dict _,_,_,_,_,_,_,_,_,ok,_,_,_=>nomatch ok
 |.tuple _,.none,_,_,_,_,_,_,_,_,ok,_,_,_=>nomatch ok
 |.tuple _,.bool _,_,_,_,_,_,_,_,_,ok,_,_,_=>nomatch ok
 |.tuple _,.int _,_,_,_,_,_,_,_,_,ok,_,_,_=>nomatch ok
 |.tuple _,.str _,_,_,_,_,_,_,_,_,ok,_,_,_=>nomatch ok
 |.tuple _,.list _,_,_,_,_,_,_,_,_,ok,_,_,_=>nomatch ok
 |.tuple _,.dict _,_,_,_,_,_,_,_,_,ok,_,_,_=>nomatch ok
 |.none,_,_,_,_,_,_,_,_,_,ok,_,_,_=>by simp[fZ]at ok
 |.bool _,_,_,_,_,_,_,_,_,_,ok,_,_,_=>by simp[fZ]at ok
 |.str _,_,_,_,_,_,_,_,_,_,ok,_,_,_=>by simp[fZ]at ok
 |.list _,_,_,_,_,_,_,_,_,_,ok,_,_,_=>by simp[fZ]at ok
 |.dict _,_,_,_,_,_,_,_,_,_,ok,_,_,_=>by simp[fZ]at ok
def O6:∀(xs ys:List PyData) (A:Around) (s:Shared) (vs ws:List Value) (as bs:List Addr),ReadsAll s.heap vs xs as->ReadsAll s.heap ws ys bs->cy xs ys=true->PyData.canLayAll0 xs=true->PyData.canLayAll0 ys=true->A.units+min (PyData.depthAll xs) (PyData.depthAll ys)<cLine->∀j (h1:j<vs.length) (h2:j<ws.length),pb A s vs[j] ws[j] (qM xs ys j)
 |[],_,_,_,_,_,_,_,ra,_,_,_,_,_,j,h1,_=>by cases ra;exact absurd h1 (ZaY _)
 |_ :: _,[],_,_,_,_,_,_,_,rb,_,_,_,_,j,_,h2=>by cases rb;exact absurd h2 (ZaY _)
 |x :: xs,y :: ys,A,s,_,_,_,_,ra,rb,ok,ha,hb,hu,j,h1,h2=>by
  have a':x.canLay0=true/\PyData.canLayAll0 xs=true:=by simpa[PyData.canLayAll0]using ha
  have b':y.canLay0=true/\PyData.canLayAll0 ys=true:=by simpa[PyData.canLayAll0]using hb
  have o':fZ x y=true/\cy xs ys=true:=by simpa[cy]using ok
  cases ra with
  |cons r rs =>
   cases rb with
   |cons r' rs' =>
    cases j with
    |zero=>exact Lj x y A s _ _ _ _ r r' o'.1 a'.1 b'.1 (room_head hu)
    |succ j=>exact O6 xs ys A s _ _ _ _ rs rs' o'.2 a'.2 b'.2 (room_tail hu) j (Nat.lt_of_succ_lt_succ h1) (Nat.lt_of_succ_lt_succ h2)
end
section
variable {prog:Program}{w:World}{A:Around}{R:Result->Shared->Prop}{I:Addr}{fp wr:List Addr}{n:Nat}{P:Nat->Value->Prop}{St:Nat->Heap->Prop}
abbrev iO(a b:Heap):Prop:=∀x o,a.get? x=some o->b.get? x=some o
abbrev yO(A:Around)(h0:Heap)(P:Nat->Value->Prop)(bt:Nat->Nat->Bool):Prop:=∀i j vi vj (s:Shared),iO h0 s.heap->P i vi->P j vj->pb A s vi vj (bt i j)
def Hk:(toString "min" ++ toString ".loop" : String)="min.loop" := by decide
def Lk(W:Walks prog w A.in1 I fp wr n P St)(bt:Nat->Nat->Bool){h0:Heap}(hcmp:yO A.in1 h0 P bt)(S:Addr)(hSf:S ∉ fp)(yP:h0.get? S=none)(hw0:∀b∈wr,h0.get? b=none):
  ∀(k j:Nat) (s:Shared) (vb:Value) (c:Nat),n-(j+1)=k->j+1<=n->St (j+1) s.heap->P (argBest bt j) vb->iO h0 s.heap->s.heap.get? S=some { cls:=.type "list",dict:=none,data:=.seq #[vb,vb] c,slots:=#[] } ->
  (∀v h' tk,P (argBest bt (n-1)) v->iO h0 h'->R (.ok (.ret v)) { s with heap:=h',toks:=tk })->codeAny (model prog w) A (.builtin "min.loop" ⟨[.ref I,.none,.ref S],[]⟩) R s
 |0,j,s,vb,c,hk,hj,hst,Hl,hK,hS,hR=>by
  have C6:S ∉ wr:=λz=>hSf (W.sub S z);have hin:n=j+1:=by lk
  subst hin;refine codeAny_builtin F.entry_min_loop ?_;rw[Around.under_plainId F.plain_min_loop (A:=A) _];show wpAny (model prog w) A.in1 (seqItems? (.ref S) >>= _) _ _ _;refine wpAny_bind (wpAny_seqItems hS rfl ?_);show wpAny (model prog w) A.in1 (tryCatch (pyNext (.ref I)) _ >>= _) _ _ _;refine wpAny_bind (wpAny_tryCatch (W.done s _ _ hst λh' tk hk'=>?_));have hS':=hk' S _ C6 hS;show wpAny (model prog w) A.in1 (updateSeq S (λ_=>#[]) >>= _) _ _ _;refine wpAny_bind (wpAny_updateSeq hS' rfl (wpAny_bind (wpAny_letGo (wpAny_pure (hR vb _ tk Hl λb o e=>?_)))));have hb1:b ∉ wr:=λz=>by rw[hw0 b z]at e;cases e
  have hb2:S≠b:=λz=>by rw[<- z,yP]at e;cases e
  exact(ZaV _ _ hb2).trans (hk' b o hb1 (hK b o e))
 |k+1,j,s,vb,c,hk,hj,hst,Hl,hK,hS,hR=>by
  have C6:S ∉ wr:=λz=>hSf (W.sub S z);have hlt:j+1<n:=by lk
  refine codeAny_builtin F.entry_min_loop ?_;rw[Around.under_plainId F.plain_min_loop (A:=A) _];show wpAny (model prog w) A.in1 (seqItems? (.ref S) >>= _) _ _ _;refine wpAny_bind (wpAny_seqItems hS rfl ?_);show wpAny (model prog w) A.in1 (tryCatch (pyNext (.ref I)) _ >>= _) _ _ _;refine wpAny_bind (wpAny_tryCatch (W.item (j+1) s _ _ hlt hst λv h' tk hP vA hk'=>?_));have hS':=hk' S _ C6 hS;have C7:iO h0 h':=λb o e=>hk' b o (λz=>by rw[hw0 b z]at e;cases e) (hK b o e);show wpAny (model prog w) A.in1 (tryCatch (holding [v,v] (richCompare .Lt v vb >>= _)) _ >>= _) _ _ _;refine wpAny_bind (wpAny_tryCatch (wpAny_holding (wpAny_bind (hcmp (j+1) (argBest bt j) v vb _ C7 hP Hl prog w _ _ ?_))));refine wpAny_bind (wpAny_holding (wpAny_truthy_bool (wpAny_bind (wpAny_letGo (wpAny_pure ?_)))));cases hb:bt (j+1) (argBest bt j)with
  |true =>
   simp only[if_true];refine wpAny_bind (wpAny_updateSeq hS' rfl (wpAny_bind (wpAny_letGo ?_)));rw[Hk];have Ll:iO h0 (h'.update S (Obj.mapSeq λ_=>#[v,v])):=λb o e=>(ZaV _ _ (λz=>by rw[<- z,yP]at e;cases e)).trans (C7 b o e);refine wpAny_pure ⟨plainId_quiet F.plain_min_loop _,Lk W bt hcmp S hSf yP hw0 k (j+1) _ v _ ⋯ hlt (W.frame _ _ _ vA λb Lm o e=>?_) (by simp only[argBest,hb,if_true];exact hP) Ll (Zby _ hS' rfl) λv' h'' uc C8 ud=>hR v' h'' uc C8 ud⟩;exact(ZaV _ _ (λz:S=b=>hSf (z ▸ Lm))).trans e
  |false =>
   simp only[ZaW,if_false];refine wpAny_bind (wpAny_letGo ?_);rw[Hk];exact wpAny_pure ⟨plainId_quiet F.plain_min_loop _,Lk W bt hcmp S hSf yP hw0 k (j+1) _ vb c ⋯ hlt vA (by simp only[argBest,hb,ZaW,if_false];exact Hl) C7 hS' λv' h'' uc C8 ud=>hR v' h'' uc C8 ud⟩
def Vl(W:Walks prog w A.in1 I fp wr n P St)(bt:Nat->Nat->Bool){h0:Heap}(hcmp:yO A.in1 h0 P bt)(S:Addr)(hSf:S ∉ fp)(yP:h0.get? S=none)(hw0:∀b∈wr,h0.get? b=none)(hn:0<n){s:Shared}{c:Nat}(hst:St 0 s.heap)(hK:iO h0 s.heap)
  (hS:s.heap.get? S=some { cls:=.type "list",dict:=none,data:=.seq #[] c,slots:=#[] }) (hR:∀v h' tk,P (argBest bt (n-1)) v->iO h0 h'->R (.ok (.ret v)) { s with heap:=h',toks:=tk }) :
  codeAny (model prog w) A (.builtin "min.loop" ⟨[.ref I,.none,.ref S],[]⟩) R s:=by
 have C6:S ∉ wr:=λz=>hSf (W.sub S z);refine codeAny_builtin F.entry_min_loop ?_;rw[Around.under_plainId F.plain_min_loop (A:=A) _];show wpAny (model prog w) A.in1 (seqItems? (.ref S) >>= _) _ _ _;refine wpAny_bind (wpAny_seqItems hS rfl ?_);show wpAny (model prog w) A.in1 (tryCatch (pyNext (.ref I)) _ >>= _) _ _ _;refine wpAny_bind (wpAny_tryCatch (W.item 0 s _ _ hn hst λv h' tk hP vA hk'=>?_));have hS':=hk' S _ C6 hS;have C7:iO h0 h':=λb o e=>hk' b o (λz=>by rw[hw0 b z]at e;cases e) (hK b o e);show wpAny (model prog w) A.in1 (updateSeq S (λ_=>#[v,v]) >>= _) _ _ _;refine wpAny_bind (wpAny_updateSeq hS' rfl ?_);rw[Hk];have Ll:iO h0 (h'.update S (Obj.mapSeq λ_=>#[v,v])):=λb o e=>(ZaV _ _ (λz=>by rw[<- z,yP]at e;cases e)).trans (C7 b o e);refine wpAny_pure ⟨plainId_quiet F.plain_min_loop _,Lk W bt hcmp S hSf yP hw0 _ 0 _ v _ rfl hn (W.frame _ _ _ vA λb Lm o e=>?_) hP Ll (Zby _ hS' rfl) λv' h'' uc C8 ud=>hR v' h'' uc C8 ud⟩;exact(ZaV _ _ (λz:S=b=>hSf (z ▸ Lm))).trans e
end
section
variable {prog:Program}{w:World}{A:Around}{E:Value->Shared->Prop}{s:Shared}
def Vm{p:Addr}{its:Array Value}{bt:Nat->Nat->Bool}{Q:Value->Shared->Prop}(hh:A.handled=none)(hl:s.heap.IsList p its)(hn:0<its.size)(hcmp:yO A.in1 s.heap (λi v=>its[i]?=some v) bt)
  (hQ:∀v h' tk,its[argBest bt (its.size-1)]?=some v->iO s.heap h'->Q v { s with heap:=h',toks:=tk }):wpAny (model prog w) A (call (.builtin "min") [.ref p]) Q E s:=by
 have hlt:p<s.heap.objs.size:=by obtain⟨_,e,_⟩:=hl;exact Zax e
 have e0:s.heap.get? s.heap.objs.size=none:=by
  cases q:s.heap.get? s.heap.objs.size with
  |none=>rfl
  |some o=>exact absurd (Zax q) (ZbZ _)
 have e1:s.heap.get? (s.heap.objs.size+1)=none:=by
  cases q:s.heap.get? (s.heap.objs.size+1)with
  |none=>rfl
  |some o=>exact absurd (Zax q) (Nat.not_lt_of_le (ZbU _))
 refine call_function_tree F.kind_min F.plain_min F.entry_min (F.args_min1 _) ?_;show wpAny (model prog w) A.in1 (Builtin.Builtins.bindParams "min" ["key","default"] 0 ⟨[],[]⟩ >>= _) _ _ _;refine wpAny_bind (wpAny_of_eq (show Builtin.Builtins.bindParams "min" ["key","default"] 0 ⟨[],[]⟩=pure [none,none]from rfl) (wpAny_bind (wpAny_pure ?_)));refine wpAny_bind (wpAny_pyIter_list hl (wpAny_bind (wpAny_newObj_type ?_)));have hsz:(s.heap.push { cls:=.type "list_iterator",data:=.fields #[.ref p,.int 0 0] }).objs.size=s.heap.objs.size+1:=ZbV ..;have hne:p≠s.heap.objs.size:=ZaS hlt;rw[Hk];have k1:iO s.heap ((s.heap.push { cls:=.type "list_iterator",data:=.fields #[.ref p,.int 0 0] }).push { cls:=.type "list",data:=.seq #[] }):=λb o e=>Zai _ (Zai _ e);refine wpAny_pure ⟨plainId_quiet F.plain_min_loop _,?_⟩;show codeAny (model prog w) A (.builtin "min.loop" ⟨[.ref s.heap.objs.size,.none,.ref (s.heap.push { cls:=.type "list_iterator",data:=.fields #[.ref p,.int 0 0] }).objs.size],[]⟩) _ _;rw[hsz];refine Vl (c:=0) (Walks.list (A:=A.in1) hh s.heap.objs.size p hne its) bt hcmp (s.heap.objs.size+1) (λz=>?_) e1 (λb hb=>?_) hn ?_ k1 ?_ λv h' tk hv hk=>hQ v h' tk hv hk;rcases ZaA.mp z with z|z
 exact absurd z (Nat.succ_ne_self _)
 have:s.heap.objs.size+1=p:=Zat.mp z
 exact absurd hlt (by rw[<- this];exact Nat.not_lt_of_le (ZbU _));rw[Zat.mp hb];exact e0;exact⟨⟨_,Zai _ (Zar _ rfl),rfl,rfl⟩,(hl.push _).push _⟩;rw[<- hsz];exact Zar _ rfl
end
def C9{h:Heap}:∀{us:List Value} {ds:List PyData} {as:List Addr} {i:Nat} {v:Value},ReadsAll h us ds as->us[i]?=some v->∃as',Reads h v (ds.getD i .none) as'/\ds.getD i .none∈ds
 |_,_,_,_,_,.nil,e=>by simp at e
 |_,_,_,0,_,.cons r _,e=>by simp at e;subst e;exact⟨_,r,Zae⟩
 |_,_,_,i+1,v,.cons _ rs,e=>by
  obtain⟨as',r,m⟩:=C9 (i:=i) (v:=v) rs (by simpa using e);exact⟨as',r,Zag _ m⟩
section
variable {X:Cx}
abbrev jZ(ds:List PyData)(i j:Nat):Bool:=lT (ds.getD i .none) (ds.getD j .none)
abbrev n6(ds:List PyData):Nat:=argBest (jZ ds) (ds.length-1)
abbrev xl(K:Zfr):List V->Hp->VK->Prop:=λxs H Q=>∃(p:Addr) (vs:List V) (ds:List PyData),xs=[.ref p]/\iL K H p vs/\fD K H vs ds/\0<ds.length/\(∀a∈ds,∀b∈ds,fZ a b=true)/\(∀a∈ds,a.canLay0=true/\a.depth<=50)/\∃v,vs[n6 ds]?=some v/\Q v H
def O7(hc:X.calm=true)(hu:X.A.units+64<cLine):du X (.builtin "min") (xl X.K):=by
 intro pins s σ H xs us Q I r h;obtain⟨p,vs,ds,rfl,hq,hr,hn,hok,hlay,v0,hv0,q⟩:=h;obtain⟨u,rfl,ru⟩:=vals1 r;cases ru;obtain⟨its,rv,pl,_⟩:=I.list hq;obtain⟨as,ra⟩:=fD.reads I hr rv;have hlen:its.length=ds.length:=ReadsAll.length _ _ _ ra;refine Vm (bt:=jZ ds) (I.ok.hd hc) pl.isList (by rw[Zam];lk) (λi j vi vj s' hK hi hj=>?_) λv h' tk hv hk=>?_;have hi':its[i]?=some vi:=by simpa using hi
 have hj':its[j]?=some vj:=by simpa using hj
 obtain⟨a1,r1,m1⟩:=C9 ra hi';obtain⟨a2,r2,m2⟩:=C9 ra hj';have b1:=(hlay _ m1).2;have b2:=(hlay _ m2).2;exact Lj _ _ _ s' _ _ _ _ (Reads.keeps hK r1) (Reads.keeps hK r2) (hok _ m1 _ m2) (hlay _ m1).1 (hlay _ m2).1 (by show X.A.units+1+_<cLine;lk);have hv':its[n6 ds]?=some v:=by
  have e:its.toArray.size-1=ds.length-1:=by rw[Zam,hlen]
  rw[e]at hv;unfold n6;simpa using hv
 obtain⟨u,O8,ru⟩:=Vals.get rv hv0;rw[hv']at O8;cases O8;exact⟨v0,H,I.kept hk,ru,q⟩
end
end L2
namespace L2
open PySem PySem.Spec PyProof.Rows PySem.W
section
variable {lt:Nat->Nat->Bool}{n0:Nat}{cmp:Nat->Nat->(Bool->Shared->Prop)->Shared->Prop}{s:Shared}
structure Ord(lt:Nat->Nat->Bool):Prop where
 tr:∀a b c,lt b a=false->lt c b=false->lt c a=false
 as:∀a b,lt a b=true->lt b a=false
def Ord.rf(o:Ord lt)(a:Nat):lt a a=false:=by
 cases h:lt a a with
 |false=>rfl
 |true=>have:=o.as a a h;rw[h]at this;cases this
abbrev P(p:Array Nat)(i:Nat):Nat:=p.getD i 0
abbrev sC(lt:Nat->Nat->Bool)(p:Array Nat)(k:Nat):Prop:=∀i j,i<=j->j<k->lt (P p j) (P p i)=false
abbrev xm(lt:Nat->Nat->Bool)(p:Array Nat)(k:Nat):Prop:=∀i j,i<=j->j<k->lt (P p i) (P p j)=false
structure Arr(n0:Nat)(p:Array Nat):Prop where
 sz:p.size=n0
 pm:p.toList.Perm (List.range n0)
def Arr.bd{p:Array Nat}(h:Arr n0 p)(hn:0<n0)(i:Nat):P p i<n0:=by
 unfold P;rw[Zbd];cases e:p[i]? with
 |none=>exact hn
 |some x =>
  have:x∈p.toList:=by
   rw[<- Zbb]at e;exact Zak e
  exact ZaP.mp (h.pm.subset this)
def xn{p:Array Nat}{i j:Nat}(hj:j<=p.size)(k:Nat):P (kas_rev p i j) k=if i<=k/\k<j then P p (i+j-1-k)else P p k:=by unfold P kas_rev;rw[Zbd,getElem?_mirror_all hj];split<;>rw[Zbd]
def Arr.rev{p:Array Nat}(h:Arr n0 p)(i j:Nat):Arr n0 (kas_rev p i j):=⟨(mirror_size _ _ _ _).trans h.sz,(Array.perm_iff_toList_perm.mp (mirror_perm p i j _)).trans h.pm⟩
def O9{p:Array Nat}{k d:Nat}(hk:k<p.size)(hd:d<=k)(m:Nat):P (bubble p k d) m=if m=k-d then P p k else if k-d<m/\m<=k then P p (m-1)else P p m:=by unfold P;simp only[Zbd];rw[getElem?_bubble hk d hd];split;rfl;split<;>rfl
def Arr.Vn{p:Array Nat}(h:Arr n0 p)(k d:Nat):Arr n0 (bubble p k d):=⟨(bubble_size _ _ _).trans h.sz,(Array.perm_iff_toList_perm.mp (bubble_perm p k d)).trans h.pm⟩
variable (o:Ord lt)(hn:0<n0)(hc:∀i j (C:Bool->Shared->Prop),i<n0->j<n0->C (lt i j) s->cmp i j C s)
include o hn hc
def Ln{p:Array Nat}(ha:Arr n0 p){Q:Nat->Shared->Prop}:∀(f n:Nat),sC lt p n->1<=n->(∀m,n<=m->m<=n+f->sC lt p m->(m<n+f->lt (P p m) (P p (m-1))=true)->Q m s)->(kas_asc p f n).kasWp cmp Q s
 |0,n,hs,h1,q=>q n (Zad _) (Zad _) hs λh=>absurd h (ZbZ _)
 |f+1,n,hs,h1,q=>by
  refine hc _ _ _ (ha.bd hn n) (ha.bd hn (n-1)) ?_;show(if lt (P p n) (P p (n-1))=true then KasT.ret n else kas_asc p f (n+1)).kasWp cmp Q s;cases hb:lt (P p n) (P p (n-1))with
  |true=>exact q n (Zad _) ⋯ hs λ_=>hb
  |false =>
   refine Ln ha f (n+1) (λi j hij hj=>?_) ⋯ λm m1 m2 m3 m4=>q m ⋯ ⋯ m3 λh=>m4 ⋯;by_cases hjn:j<n;exact hs i j hij hjn
   have:j=n:=by lk
   subst this;by_cases hin:i=j;subst hin;exact o.rf _;exact o.tr _ (P p (j-1)) _ (hs i (j-1) ⋯ ⋯) hb
def Hm{Q:Array Nat×Nat×Nat->Shared->Prop}:∀(f:Nat) (p:Array Nat) (n q:Nat),Arr n0 p->xm lt p n->q+1<=n->n+f<=n0->(∀i j,n-(q+1)<=i->i<n->n-(q+1)<=j->j<n->lt (P p i) (P p j)=false) ->
  (∀p' n' q',Arr n0 p'->xm lt p' n'->q' + 1<=n'->n<=n'->n'<=n+f->(∀i j,n' - (q' + 1)<=i->i<n'->n' - (q' + 1)<=j->j<n'->lt (P p' i) (P p' j)=false)->Q (p',n',q') s)->(kas_desc f p n q).kasWp cmp Q s
 |0,p,n,q,ha,hd,h1,hf,he,hQ=>hQ p n q ha hd h1 (Zad _) (Zad _) he
 |f+1,p,n,q,ha,hd,h1,hf,he,hQ=>by
  refine hc _ _ _ (ha.bd hn n) (ha.bd hn (n-1)) ?_;show(if lt (P p n) (P p (n-1))=true then(if q > 0 then kas_desc f (kas_rev p (n-(q+1)) n) (n+1) 0 else kas_desc f p (n+1) 0)else .ask (P p (n-1)) (P p n) λd=>if d=true then .ret (p,n,q)else kas_desc f p (n+1) (q+1)).kasWp cmp Q s;cases hb:lt (P p n) (P p (n-1))with
  |true =>
   rw[if_pos rfl];have hx:=o.as _ _ hb;have Dc:∀p':Array Nat,xm lt p' n->P p' n=P p n->lt (P p' (n-1)) (P p n)=false->xm lt p' (n+1):=λp' h e1 e2 i j hij hj=>by
    by_cases hjn:j<n;exact h i j hij hjn
    have:j=n:=by lk
    subst this;by_cases hin:i=j;subst hin;exact o.rf _;rw[e1];exact o.tr _ (P p' (j-1)) _ e2 (h i (j-1) ⋯ ⋯)
   have one:∀p':Array Nat,∀i j,n+1-(0+1)<=i->i<n+1->n+1-(0+1)<=j->j<n+1->lt (P p' i) (P p' j)=false:=λp' i j a b c d=>by
    have e1:i=n:=by lk
    have e2:j=n:=by lk
    subst e1;subst e2;exact o.rf _
   by_cases hq:q > 0;rw[if_pos hq];have hns:n<=p.size:=by rw[ha.sz];lk
   have er:=λk=>xn (p:=p) (i:=n-(q+1)) hns k;refine Hm f _ (n+1) 0 (ha.rev _ _) (Dc _ (λi j hij hj=>?_) ?_ ?_) ⋯ ⋯ (one _) λp' n' q' a b c d e g=>hQ p' n' q' a b c ⋯ ⋯ g;rw[er i,er j];by_cases hi:n-(q+1)<=i;rw[if_pos ⟨hi,by lk⟩,if_pos ⟨by lk,hj⟩];exact he _ _ ⋯ ⋯ ⋯ ⋯;rw[if_neg ⋯];by_cases hj':n-(q+1)<=j;rw[if_pos ⟨hj',hj⟩];exact hd _ _ ⋯ ⋯;rw[if_neg ⋯];exact hd i j hij hj;rw[er n,if_neg ⋯];rw[er (n-1),if_pos ⟨by lk,by lk⟩];exact o.tr _ (P p (n-1)) _ hx (he _ _ ⋯ ⋯ ⋯ ⋯);rw[if_neg hq];exact Hm f p (n+1) 0 ha (Dc p hd rfl hx) ⋯ ⋯ (one _) λp' n' q' a b c d e g=>hQ p' n' q' a b c ⋯ ⋯ g
  |false =>
   rw[if_neg ∅];refine hc _ _ _ (ha.bd hn (n-1)) (ha.bd hn n) ?_;cases hb2:lt (P p (n-1)) (P p n)with
   |true=>exact hQ p n q ha hd h1 (Zad _) ⋯ he
   |false =>
    refine Hm f p (n+1) (q+1) ha (λi j hij hj=>?_) ⋯ ⋯ (λi j a b c d=>?_) λp' n' q' a b c d e g=>hQ p' n' q' a b c ⋯ ⋯ g;by_cases hjn:j<n;exact hd i j hij hjn
    have:j=n:=by lk
    subst this;by_cases hin:i=j;subst hin;exact o.rf _;exact o.tr _ (P p (j-1)) _ hb2 (hd i (j-1) ⋯ ⋯);by_cases hi:i=n;subst hi;by_cases hj:j=i;subst hj;exact o.rf _;exact o.tr _ (P p (i-1)) _ (he (i-1) j ⋯ ⋯ ⋯ ⋯) hb;by_cases hj:j=n;subst hj;exact o.tr _ (P p (j-1)) _ hb2 (he i (j-1) ⋯ ⋯ ⋯ ⋯);exact he i j ⋯ ⋯ ⋯ ⋯
def Pa{p:Array Nat}{n nrem:Nat}{Q:Nat×Array Nat->Shared->Prop}(ha:Arr n0 p)(hd:xm lt p n)(h1:1<=n)(hr:n<=nrem)(hz:nrem<=n0)(hQ:∀m p',Arr n0 p'->sC lt p' m->n<=m->m<=nrem->Q (m,p') s):(kas_tail3 n nrem p).kasWp cmp Q s:=by
 unfold kas_tail3;rw[KasT.kasWp_bind];have hns:n<=p.size:=by rw[ha.sz];lk
 refine Ln o hn hc (ha.rev 0 n) (nrem-n) n (λi j hij hj=>?_) h1 λm m1 m2 m3 _=>hQ m _ (ha.rev 0 n) m3 m1 ⋯;rw[xn hns,xn hns,if_pos ⟨by lk,hj⟩,if_pos ⟨by lk,by lk⟩];exact hd _ _ ⋯ ⋯
def Pb{p:Array Nat}{n nrem:Nat}{Q:Nat×Array Nat->Shared->Prop}(ha:Arr n0 p)(hd:xm lt p (n+1))(hr:n+1<=nrem)(hz:nrem<=n0)(hQ:∀m p',Arr n0 p'->sC lt p' m->1<=m->m<=nrem->Q (m,p') s):(kas_descPart n nrem p).kasWp cmp Q s:=by
 unfold kas_descPart;rw[KasT.kasWp_bind];refine Hm o hn hc (nrem-(n+1)) p (n+1) 0 ha hd ⋯ ⋯ (λi j a b c d=>?_) λp' n' q' a b c d e g=>?_;have e1:i=n:=by lk
 have e2:j=n:=by lk
 subst e1;subst e2;exact o.rf _;show(if q' > 0 then kas_tail3 n' nrem (kas_rev p' (n' - (q' + 1)) n')else kas_tail3 n' nrem p').kasWp cmp Q s;by_cases hq:q' > 0;rw[if_pos hq];have hns:n'<=p'.size:=by rw[a.sz];lk
 have er:=λk=>xn (p:=p') (i:=n' - (q' + 1)) hns k;refine Pa o hn hc (a.rev _ _) (λi j hij hj=>?_) ⋯ ⋯ hz λm p2 x y z w=>hQ m p2 x y ⋯ w;rw[er i,er j];by_cases hi:n' - (q' + 1)<=i;rw[if_pos ⟨hi,by lk⟩,if_pos ⟨by lk,hj⟩];exact g _ _ ⋯ ⋯ ⋯ ⋯;rw[if_neg ⋯];by_cases hj':n' - (q' + 1)<=j;rw[if_pos ⟨hj',hj⟩];exact b _ _ ⋯ ⋯;rw[if_neg ⋯];exact b i j hij hj;rw[if_neg hq];exact Pa o hn hc a b ⋯ ⋯ hz λm p2 x y z w=>hQ m p2 x y ⋯ w
def Vo{p:Array Nat}{Q:Nat×Array Nat->Shared->Prop}(ha:Arr n0 p)(hQ:∀m p',Arr n0 p'->sC lt p' m->1<=m->m<=n0->Q (m,p') s):(kas_count n0 p).kasWp cmp Q s:=by
 unfold kas_count;rw[KasT.kasWp_bind];refine Ln o hn hc ha (n0-1) 1 (λi j hij hj=>?_) (Zad _) λn m1 m2 hs hl=>?_;have e1:i=0:=by lk
 have e2:j=0:=by lk
 subst e1;subst e2;exact o.rf _;by_cases he:n=n0;subst he;simp only[beq_self_eq_true,if_true];exact hQ n p ha hs m1 (Zad _);have hne:(n == n0)=false:=by simpa using he
 simp only[hne,ZaW,if_false];have hlt:=hl ⋯;have hx:=o.as _ _ hlt;have grow:∀p':Array Nat,xm lt p' n->P p' n=P p n->lt (P p' (n-1)) (P p n)=false->xm lt p' (n+1):=λp' h e1 e2 i j hij hj=>by
  by_cases hjn:j<n;exact h i j hij hjn
  have:j=n:=by lk
  subst this;by_cases hin:i=j;subst hin;exact o.rf _;rw[e1];exact o.tr _ (P p' (j-1)) _ e2 (h i (j-1) ⋯ ⋯)
 by_cases h1:n > 1;rw[if_pos h1];refine hc _ _ _ (ha.bd hn 0) (ha.bd hn (n-1)) ?_;cases hb:lt (P p 0) (P p (n-1))with
 |true =>
  show(if lt (P p 0) (P p (n-1))=true then KasT.ret (n,p)else kas_descPart n n0 (kas_rev p 0 n)).kasWp cmp Q s;rw[hb,if_pos rfl];exact hQ n p ha hs m1 ⋯
 |false =>
  have all:∀i j,i<n->j<n->lt (P p i) (P p j)=false:=λi j hi hj=>o.tr (P p j) (P p (n-1)) (P p i) (hs j (n-1) ⋯ ⋯) (o.tr (P p (n-1)) (P p 0) (P p i) hb (hs 0 i ⋯ hi));have hns:n<=p.size:=by rw[ha.sz];lk
  show(if lt (P p 0) (P p (n-1))=true then KasT.ret (n,p)else kas_descPart n n0 (kas_rev p 0 n)).kasWp cmp Q s;rw[hb,if_neg ∅];refine Pb o hn hc (ha.rev 0 n) (grow _ (λi j hij hj=>?_) ?_ ?_) ⋯ (Zad _) λm p' a b c d=>hQ m p' a b c d;rw[xn hns,xn hns,if_pos ⟨by lk,by lk⟩,if_pos ⟨by lk,hj⟩];exact all _ _ ⋯ ⋯;rw[xn hns,if_neg ⋯];rw[xn hns,if_pos ⟨by lk,by lk⟩,show 0+n-1-(n-1)=0 by lk];exact o.tr (P p n) (P p (n-1)) (P p 0) hx hb
 rw[if_neg h1]
 have:n=1:=by lk
 subst this;refine Pb o hn hc ha (grow p (λi j hij hj=>?_) rfl hx) ⋯ (Zad _) λm p' a b c d=>hQ m p' a b c d;have e1:i=0:=by lk
 have e2:j=0:=by lk
 subst e1;subst e2;exact o.rf _
def Lp{p:Array Nat}{k:Nat}{Q:Nat->Shared->Prop}(ha:Arr n0 p)(hs:sC lt p k):∀(f l r:Nat),r<=l+f->l<=r->r<=k->(∀i,i<l->lt (P p k) (P p i)=false)->(∀i,r<=i->i<k->lt (P p k) (P p i)=true) ->
  (∀m,m<=k->(∀i,i<m->lt (P p k) (P p i)=false)->(∀i,m<=i->i<k->lt (P p k) (P p i)=true)->Q m s)->(kas_place p k f l r).kasWp cmp Q s
 |0,l,r,hf,hlr,hrk,h1,h2,q=>by
  have:l=r:=by lk
  subst this;exact q l hrk h1 h2
 |f+1,l,r,hf,hlr,hrk,h1,h2,q=>by
  unfold kas_place;by_cases hge:l >= r;rw[if_pos hge]
  have:l=r:=by lk
  subst this;exact q l hrk h1 h2;rw[if_neg hge];refine hc _ _ _ (ha.bd hn k) (ha.bd hn ((l+r) / 2)) ?_;show(if lt (P p k) (P p ((l+r) / 2))=true then kas_place p k f l ((l+r) / 2)else kas_place p k f ((l+r) / 2+1) r).kasWp cmp Q s;cases hb:lt (P p k) (P p ((l+r) / 2))with
  |true =>
   rw[if_pos rfl];refine Lp ha hs f l ((l+r) / 2) ⋯ ⋯ ⋯ h1 (λi i1 i2=>?_) q;cases hx:lt (P p k) (P p i)with
   |true=>rfl
   |false =>
    have:=o.tr (P p ((l+r) / 2)) (P p i) (P p k) (hs _ _ i1 i2) hx;rw[hb]at this;cases this
  |false =>
   rw[if_neg ∅];refine Lp ha hs f ((l+r) / 2+1) r ⋯ ⋯ hrk (λi i1=>?_) h2 q;exact o.tr (P p i) (P p ((l+r) / 2)) (P p k) (hs _ _ ⋯ ⋯) hb
def Pc{Q:Array Nat->Shared->Prop}:∀(f:Nat) (p:Array Nat) (k:Nat),Arr n0 p->sC lt p k->1<=k->k+f=n0->(∀p',Arr n0 p'->sC lt p' n0->Q p' s)->(kas_bin f p k).kasWp cmp Q s
 |0,p,k,ha,hs,h1,hf,q=>q p ha (by rw[<- hf];exact hs)
 |f+1,p,k,ha,hs,h1,hf,q=>by
  unfold kas_bin;rw[KasT.kasWp_bind];refine Lp o hn hc ha hs k 0 k ⋯ ⋯ (Zad _) (λi h=>absurd h (ZaY _)) (λi a b=>by lk) λl hl Vp h2'=>?_;have hk:k<p.size:=by rw[ha.sz];lk
  refine Pc f _ (k+1) (ha.Vn _ _) (λi j hij hj=>?_) ⋯ ⋯ q;rw[O9 hk ⋯,O9 hk ⋯,show k-(k-l)=l by lk];by_cases hi:i=l;rw[if_pos hi];by_cases hj':j=l;rw[if_pos hj'];exact o.rf _;rw[if_neg hj',if_pos ⟨by lk,by lk⟩];exact o.as _ _ (h2' (j-1) ⋯ ⋯);rw[if_neg hi];by_cases hj':j=l;rw[if_pos hj',if_neg ⋯];exact Vp i ⋯;rw[if_neg hj'];by_cases hi2:l<i;rw[if_pos (show l<j/\j<=k by lk),if_pos (show l<i/\i<=k by lk)];exact hs _ _ ⋯ ⋯;by_cases hj2:l<j;rw[if_pos (show l<j/\j<=k by lk),if_neg (show ¬(l<i/\i<=k) by lk)];exact hs _ _ ⋯ ⋯;rw[if_neg (show ¬(l<j/\j<=k) by lk),if_neg (show ¬(l<i/\i<=k) by lk)];exact hs _ _ hij ⋯
def Vq{Q:Array Nat->Shared->Prop}(q:∀p',Arr n0 p'->sC lt p' n0->Q p' s):(kas_sort n0).kasWp cmp Q s:=by
 unfold kas_sort;rw[KasT.kasWp_bind];have ha:Arr n0 (List.toArray (List.range n0)):=⟨by simp,by simp⟩;refine Vo o hn hc ha λm p' a b c d=>?_;show(if m<n0 then kas_bin (n0-max m 1) p' (max m 1)else KasT.ret p').kasWp cmp Q s;rw[show max m 1=m by lk];by_cases h:m<n0;rw[if_pos h];exact Pc o hn hc (n0-m) p' m a b c ⋯ q;rw[if_neg h]
 have:m=n0:=by lk
 subst this;exact q p' a b
end
abbrev qf(fin:Bool):List PyData->List PyData->Bool
 |x :: xs,y :: ys=>if PyData.eqv x y then qf fin xs ys else lT x y
 |_,_=>fin
def Pd:∀xs ys:List PyData,qf (decide (xs.length<ys.length)) xs ys=cw xs ys
 |[],[]=>rfl
 |[],_ :: _=>by simp[qf,cw]
 |_ :: _,[]=>by simp[qf,cw]
 |x :: xs,y :: ys=>by
  have e:decide ((x :: xs).length<(y :: ys).length)=decide (xs.length<ys.length):=by simp
  rw[e];show(if PyData.eqv x y=true then qf (decide (xs.length<ys.length)) xs ys else lT x y)=if PyData.eqv x y=true then cw xs ys else lT x y
  rw[Pd xs ys]
abbrev xo(pV:Bool):PyData->Bool
 |.tuple (.int _ :: _)=>!pV
 |.tuple (.tuple _ :: _)=>pV
 |_=>false
section
variable {prog:Program}{w:World}{A:Around}{E:Value->Shared->Prop}{s:Shared}
def Pe{b fin:Bool}{Q:Bool->Shared->Prop}:∀(xs ys:List PyData) (vs ws:List Value) (as bs:List Addr) (i:Nat),ReadsAll s.heap vs xs as->ReadsAll s.heap ws ys bs->cy xs ys=true->PyData.canLayAll0 xs=true->PyData.canLayAll0 ys=true->A.units+min (PyData.depthAll xs) (PyData.depthAll ys)<cLine ->
  (b=true->i=0->∀x r,xs=x :: r->∃n,x=.int n)->Q (qf fin xs ys) s->KatLex prog w A b fin Q (vs.zip ws) i s
 |[],_,_,_,_,_,i,ra,rb,_,_,_,_,_,q=>by cases ra;exact q
 |_ :: _,[],_,_,_,_,i,ra,rb,_,_,_,_,_,q=>by cases rb;cases ra;exact q
 |x :: xs,y :: ys,_,_,_,_,i,ra,rb,ok,ha,hb,hu,hf,q=>by
  have a':x.canLay0=true/\PyData.canLayAll0 xs=true:=by simpa[PyData.canLayAll0]using ha
  have b':y.canLay0=true/\PyData.canLayAll0 ys=true:=by simpa[PyData.canLayAll0]using hb
  have o':fZ x y=true/\cy xs ys=true:=by simpa[cy]using ok
  cases ra with
  |cons r rs =>
   cases rb with
   |cons r' rs' =>
    refine kat_cons (SeqAt.eqAt_reads x y A s _ _ _ _ r r' a'.1 b'.1 (SeqAt.room_head hu) prog w _ _ ?_);cases he:PyData.eqv x y with
    |true =>
     refine kat_yes (Pe xs ys _ _ _ _ (i+1) rs rs' o'.2 a'.2 b'.2 (SeqAt.room_tail hu) (λ_ z=>absurd z (Nat.succ_ne_zero _)) ?_);rw[qf,he,if_pos rfl]at q;exact q
    |false =>
     rw[qf,he,if_neg ∅]at q;refine kat_no ?_;cases hbi:(b && i == 0)with
     |true =>
      have hb1:b=true/\i=0:=by simpa using hbi
      obtain⟨n,rfl⟩:=hf hb1.1 hb1.2 x xs rfl;cases y with
      |int m =>
       cases r with
       |int _ t =>
        cases r' with
        |int _ u=>exact oneLt_int q
      |none=>cases o'.1
      |bool _=>cases o'.1
      |str _=>cases o'.1
      |list _=>cases o'.1
      |tuple _=>cases o'.1
      |dict _=>cases o'.1
     |false=>exact kat_one _ _ (Lj x y A s _ _ _ _ r r' o'.1 a'.1 b'.1 (SeqAt.room_head hu) prog w _ _ q)
def Vr{pV:Bool}{vs:List Value}{ds:List PyData}{as:List Addr}{i j:Nat}{C:Bool->Shared->Prop}(ra:ReadsAll s.heap vs ds as)(hh:∀d∈ds,xo pV d=true)(hok:∀a∈ds,∀b∈ds,fZ a b=true)(hlay:∀a∈ds,a.canLay0=true/\a.depth<=50)(hu:A.units+52<cLine)
  (hi:i<vs.length) (hj:j<vs.length) (q:C (jZ ds i j) s):kas_ask prog w A (tuples' (!pV)) vs i j C s:=by
 obtain⟨a1,r1,m1⟩:=C9 (i:=i) (v:=vs.getD i Value.none) ra (by rw[Zaf,Zab hi];rfl);obtain⟨a2,r2,m2⟩:=C9 (i:=j) (v:=vs.getD j Value.none) ra (by rw[Zaf,Zab hj];rfl);have ok:=hok _ m1 _ m2;have l1:=hlay _ m1;have l2:=hlay _ m2;have h1:=hh _ m1;unfold jZ at q;unfold kas_ask;generalize vs.getD i Value.none=v at r1;generalize vs.getD j Value.none=v' at r2;generalize ds.getD i .none=d at r1 ok l1 h1 q;generalize ds.getD j .none=d' at r2 ok l2 q;cases d with
 |tuple xs =>
  cases d' with
  |tuple ys =>
   cases r1 with
   |@tuple l o us n _ O5 g1 g2 g3 g4 =>
    cases r2 with
    |@tuple l' o2 us' n' _ Vk k1 k2 k3 k4 =>
     have n1:us.size=xs.length:=by simpa using SeqAt.ReadsAll.length _ _ _ g4
     have n2:us'.size=ys.length:=by simpa using SeqAt.ReadsAll.length _ _ _ k4
     have dp:PyData.depthAll xs+1<=50:=l1.2;refine kat_lt g1 g3 k1 k3 ?_;rw[n1,n2];refine Pe xs ys _ _ _ _ 0 g4 k4 ok l1.1 l2.1 ⋯ (λhb _ x r e=>?_) (by rw[Pd];exact q);subst e;have hT:pV=false:=by simpa using hb
     subst hT;cases x with
     |int n=>exact⟨n,rfl⟩
     |none=>cases h1
     |bool _=>cases h1
     |str _=>cases h1
     |list _=>cases h1
     |tuple _=>cases h1
     |dict _=>cases h1
  |none=>cases ok
  |bool _=>cases ok
  |str _=>cases ok
  |list _=>cases ok
  |int _=>cases ok
  |dict _=>cases ok
 |none=>cases h1
 |bool _=>cases h1
 |str _=>cases h1
 |list _=>cases h1
 |int _=>cases h1
 |dict _=>cases h1
def Pf{pV:Bool}{h:Heap}:∀{ds:List PyData} {vs:List Value} {as:List Addr},ReadsAll h vs ds as->(∀d∈ds,xo pV d=true)->∃fs,KatTups h vs fs/\fs.length=vs.length/\∀f∈fs,(pV=false/\∃n t,f=.int n t)\/(pV=true/\∃a o,f=.ref a/\h.get? a=some o/\o.cls=.type "tuple")
 |[],_,_,r,_=>by cases r;exact⟨[],trivial,rfl,λf hf=>nomatch hf⟩
 |d :: ds,_,_,r,hh=>by
  cases r with
  |cons r rs =>
   obtain⟨fs,t,hl,hf⟩:=Pf rs λd hd=>hh d (Zag _ hd);have h1:=hh d Zae;cases d with
   |tuple xs =>
    cases r with
    |@tuple l o us n _ O5 g1 g2 g3 g4 =>
     cases xs with
     |nil=>cases h1
     |cons x xs =>
      have hz:∃u r,us.toList=u :: r/\∃Pg,Reads h u x Pg:=by
       generalize us.toList=L at g4;cases g4 with
       |cons q _=>exact⟨_,_,rfl,_,q⟩
      obtain⟨u,r0,eL,Pg,q⟩:=hz;have e0:us[0]?=some u:=by rw[<- Zbb,eL];rfl
      refine⟨u :: fs,⟨⟨l,o,us,n,rfl,g1,g2,g3,e0⟩,t⟩,by simp[hl],λf hf'=>?_⟩;rcases ZaA.mp hf' with rfl|hf'
      cases x with
      |int n =>
       cases q with
       |int _ t=>exact .inl ⟨by simpa[xo]using h1,_,_,rfl⟩
      |tuple _ =>
       cases q with
       |tuple k1 k2 k3 k4=>exact .inr ⟨by simpa[xo]using h1,_,_,rfl,k1,k2⟩
      |none=>cases h1
      |bool _=>cases h1
      |str _=>cases h1
      |list _=>cases h1
      |dict _=>cases h1
      exact hf f hf'
   |none=>cases h1
   |bool _=>cases h1
   |str _=>cases h1
   |list _=>cases h1
   |int _=>cases h1
   |dict _=>cases h1
def Vs{pV:Bool}{vs:List Value}{ds:List PyData}{as:List Addr}{Q:SortKind->Shared->Prop}(ra:ReadsAll s.heap vs ds as)(hh:∀d∈ds,xo pV d=true)(hn:0<vs.length)(q:Q (tuples' (!pV)) s):wpAny (model prog w) A (keyKind' vs.toArray) Q E s:=by
 obtain⟨fs,t,hl,hf⟩:=Pf ra hh;cases pV with
 |false =>
  refine kat_kind (T:=.type "int") t ⋯ (λv hv=>?_) ∅ q;rcases hf v hv with⟨_,n,t,rfl⟩|⟨z,_⟩
  exact Looks.of_pure rfl;cases z
 |true =>
  refine kat_kind (T:=.type "tuple") t ⋯ (λv hv=>?_) ∅ q;rcases hf v hv with⟨z,_⟩|⟨_,a,o,rfl,ho,hc⟩
  cases z;rw[<- hc];exact(Looks.ld ho).andThen .now
end
abbrev rD(a:Addr)(h h':Heap):Prop:=∀b o,b≠a->h.get? b=some o->h'.get? b=some o
abbrev oI(vs:List Value)(p:Array Nat):Array Value:=List.toArray (p.toList.map λi=>vs.getD i Value.none)
def Vt(vs:List Value):oI vs (List.toArray (List.range vs.length))=vs.toArray:=by
 unfold oI
 congr 1
 refine Zcf λi=>?_;rw[Zal];by_cases h:i<vs.length;rw[Zab (by simpa using h)];simp[h];rw[Zbl (by simpa using h),Zbl (by simpa using h)];rfl
section
variable {prog:Program}{w:World}{A:Around}{E:Value->Shared->Prop}{s:Shared}{lt:Nat->Nat->Bool}
def Vu{a:Addr}{vs:List Value}{n:Nat}{R:PySem.Fin->Shared->Prop}(ho:s.heap.get? a=some (seqObj "list" vs.toArray n))(h64:vs.length<64)(o:Ord lt)
  (hk:2<=vs.length->∀s':Shared,rD a s.heap s'.heap->∃κ,(∀Q:SortKind->Shared->Prop,Q κ s'->wpAny (model prog w) A (keyKind' vs.toArray) Q E s')/\∀i j (C:Bool->Shared->Prop),i<vs.length->j<vs.length->C (lt i j) s'->kas_ask prog w A κ vs i j C s')
  (h:∀p:Array Nat,Arr vs.length p->sC lt p vs.length->R (.done (.ret .none)) { s with heap:=sortedHeap s.heap a vs (oI vs p) }):wpAny (model prog w) A (Builtin.«list.sort» ⟨[.ref a],[]⟩) R E s:=by
 rw[list_sort_plain];have halt:a<s.heap.objs.size:=Zax ho;have hsl:sizeLine=sizeLine:=rfl;have uf:vs.length<=sizeLine:=Zap (Zbw h64) ∅;refine wpAny_bind (listItems_at ho rfl (wpAny_bind (listUpdate_at ho rfl ?_ (by rw[Zam];exact uf) (ZaO _))));obtain⟨e1,Hj⟩:∃e1,(s.heap.update a (Obj.mapSeq λ_=>(#[]:Array Value))).get? a=some (seqObj "list" #[] e1):=⟨_,get?_update_seq ho λ_=>#[]⟩;refine wpAny_bind (seqEpoch_at Hj rfl (wpAny_bind (wpAny_newTuple (wpAny_bind (wpAny_newList (wpAny_holding ?_) (ZaO _))) (by show vs.length<=_;exact uf))));have ne1:a≠(s.heap.update a (Obj.mapSeq λ_=>(#[]:Array Value))).objs.size:=by rw[Heap.size_update];exact ZaS halt
 have ho6:(((s.heap.update a (Obj.mapSeq λ_=>(#[]:Array Value))).push (seqObj "tuple" vs.toArray 0)).push (seqObj "list" #[] 0)).get? a=some (seqObj "list" #[] e1):=Zai _ (Zai _ Hj);have kb:rD a s.heap (((s.heap.update a (Obj.mapSeq λ_=>(#[]:Array Value))).push (seqObj "tuple" vs.toArray 0)).push (seqObj "list" #[] 0)):=λb o hb e=>Zai _ (Zai _ ((ZaV _ _ (Ne.symm hb)).trans e));show wpAny (model prog w) A _ R E { s with heap:=((s.heap.update a (Obj.mapSeq λ_=>(#[]:Array Value))).push (seqObj "tuple" vs.toArray 0)).push (seqObj "list" #[] 0) };dsimp only;by_cases h2:vs.toArray.size<2;rw[if_pos h2,if_pos h2];refine wpAny_bind (wpAny_pure ?_);rw[StateT.run_pure];refine wpAny_bind (wpAny_pure ?_);dsimp only;have eo:(arrOf (SortSt.mk' general' (vs.toArray.zip vs.toArray) #[] 7 none)).map (·.2)=oI vs (List.toArray (List.range vs.length)):=by
  rw[Vt];show(vs.toArray.zip vs.toArray).map (·.2)=vs.toArray;apply Array.toList_inj.mp;simp[List.map_snd_zip]
 refine wpAny_bind (seqEpoch_at ho6 rfl ?_);rw[eo];refine wpAny_bind (listUpdate_at ho6 rfl ?_ (ZaO _) (by unfold oI;rw[Zam,Zaa,Zbi,Zam,List.length_range];lk));simp only[bne_self_eq_false,ZaW,if_false];refine wpAny_pure (h _ ⟨by simp,by simp⟩ λi j hij hj=>?_);have e:i=j:=by rw[Zam]at h2;lk
 subst e;exact o.rf _;rw[if_neg h2,if_neg h2];have h2':2<=vs.length:=by rw[Zam]at h2;lk
 obtain⟨κ,hkk,Lq⟩:=hk h2' { s with heap:=((s.heap.update a (Obj.mapSeq λ_=>(#[]:Array Value))).push (seqObj "tuple" vs.toArray 0)).push (seqObj "list" #[] 0) } kb;refine wpAny_bind (hkk _ ?_);have run:=kat_run (prog:=prog) (w:=w) (A:=A) (E:=E) (κ:=κ) (ks:=vs) (vs:=vs) (s:={ s with heap:=((s.heap.update a (Obj.mapSeq λ_=>(#[]:Array Value))).push (seqObj "tuple" vs.toArray 0)).push (seqObj "list" #[] 0) }) (Q:=λst' s'=>∃p:Array Nat,arrOf st'=p.map (kas_item (vs.toArray.zip vs.toArray))/\failedOf st'=none/\s'={ s with heap:=((s.heap.update a (Obj.mapSeq λ_=>(#[]:Array Value))).push (seqObj "tuple" vs.toArray 0)).push (seqObj "list" #[] 0) }/\Arr vs.length p/\sC lt p vs.length)
  (G:=λp s'=>s'={ s with heap:=((s.heap.update a (Obj.mapSeq λ_=>(#[]:Array Value))).push (seqObj "tuple" vs.toArray 0)).push (seqObj "list" #[] 0) }/\Arr vs.length p/\sC lt p vs.length) rfl h2' h64 (λp st' s' _ x y z=>⟨p,x,y,z⟩)
  (Vq o ⋯ Lq λp' x y=>⟨rfl,x,y⟩)
 refine wpAny_bind (wpAny_mono run ?_ λ_ _ z=>z);rintro⟨⟨⟩,st'⟩ s' ⟨p,har,hf,rfl,hA,hS⟩;dsimp only;have eo:(arrOf st').map (·.2)=oI vs p:=kat_snds rfl har;refine wpAny_bind (seqEpoch_at ho6 rfl ?_);rw[eo];refine wpAny_bind (listUpdate_at ho6 rfl ?_ (ZaO _) (by unfold oI;rw[Zam,Zaa,Zbi,hA.sz];lk));rw[hf];simp only[bne_self_eq_false,ZaW,if_false];exact wpAny_pure (h p hA hS)
def Vv{l:Addr}{vs:List Value}{Q:Value->Shared->Prop}(hl:s.heap.IsList l vs.toArray)(h64:vs.length<64)(o:Ord lt)
  (hk:2<=vs.length->∀(s':Shared) (E':Value->Shared->Prop),iO s.heap s'.heap->∃κ,(∀Q:SortKind->Shared->Prop,Q κ s'->wpAny (model prog w) A.in1.in1 (keyKind' vs.toArray) Q E' s')/\∀i j (C:Bool->Shared->Prop),i<vs.length->j<vs.length->C (lt i j) s'->kas_ask prog w A.in1.in1 κ vs i j C s')
  (h:∀p:Array Nat,Arr vs.length p->sC lt p vs.length->Q (.ref (s.heap.objs.size+1)) { s with heap:=sortedAll s.heap vs (oI vs p) }):wpAny (model prog w) A (call (.builtin "sorted") [.ref l]) Q E s:=by
 have uf:vs.length<=sizeLine:=Zap (Zbw h64) ∅;refine Calls.call_function_entry kind_sorted plain_sorted entry_sorted (args_sorted1 _) ?_;unfold Builtin.«sorted»;refine wpAny_bind (m:=checkCount "sorted" 1 1 _) (wpAny_pure (wpAny_bind (collect_list hl (wpAny_bind (wpAny_newList ?_ uf)) uf)));have hsz:((s.heap.push (seqObj "list" #[] 0)).update s.heap.objs.size (Obj.mapSeq (· ++ vs.toArray))).objs.size=s.heap.objs.size+1:=(Heap.size_update _ _ _).trans (size_push' _ _);have ye:(((s.heap.push (seqObj "list" #[] 0)).update s.heap.objs.size (Obj.mapSeq (· ++ vs.toArray))).push (seqObj "list" vs.toArray 0)).get? (s.heap.objs.size+1)=some (seqObj "list" vs.toArray 0):=hsz ▸ Zar _ rfl;show wpAny (model prog w) _ _ _ _ { s with heap:=((s.heap.push (seqObj "list" #[] 0)).update s.heap.objs.size (Obj.mapSeq (· ++ vs.toArray))).push (seqObj "list" vs.toArray 0) };rw[hsz];have k1:iO s.heap (((s.heap.push (seqObj "list" #[] 0)).update s.heap.objs.size (Obj.mapSeq (· ++ vs.toArray))).push (seqObj "list" vs.toArray 0)):=λb o e=>Zai _ ((ZaV _ _ (Ne.symm (ZaS (Zax e)))).trans (Zai _ e));refine wpAny_bind (wpAny_holding (wpAny_call_entry slot_list_sort ⟨_,ye,rfl⟩ entry_list_sort (Vu ye h64 o (λh2 s' kb=>hk h2 s' _ λb o' e=>kb b o' (λz=>?_) (k1 b o' e)) λp a1 a2=>⟨_,rfl,?_⟩) (args_list_sort _)))
 have:=Zax e
 rw[z]at this;exact absurd this (Nat.not_lt_of_le (ZbU _));exact wpAny_pure ⟨_,rfl,h p a1 a2⟩
end
mutual
def Lr:∀(a b:PyData),fZ a b=true->(PyData.eqv a b=true↔a=b)
 |.int x,.int y,_=>by show((x == y)=true)↔_;simp
 |.tuple xs,.tuple ys,h=>by show PyData.eqvAll xs ys=true↔_;rw[Ph xs ys h];simp
 |.int _,.none,h=>nomatch h
 |.int _,.bool _,h=>nomatch h
 |.int _,.str _,h=>nomatch h
 |.int _,.list _,h=>nomatch h
 |.int _,.tuple _,h=>nomatch h
 |.int _,.dict _,h=>nomatch h
 |.tuple _,.none,h=>nomatch h
 |.tuple _,.bool _,h=>nomatch h
 |.tuple _,.int _,h=>nomatch h
 |.tuple _,.str _,h=>nomatch h
 |.tuple _,.list _,h=>nomatch h
 |.tuple _,.dict _,h=>nomatch h
 |.none,_,h=>by simp[fZ]at h
 |.bool _,_,h=>by simp[fZ]at h
 |.str _,_,h=>by simp[fZ]at h
 |.list _,_,h=>by simp[fZ]at h
 |.dict _,_,h=>by simp[fZ]at h
def Ph:∀(xs ys:List PyData),cy xs ys=true->(PyData.eqvAll xs ys=true↔xs=ys)
 |[],[],_=>by simp[PyData.eqvAll]
 |[],_ :: _,_=>by simp[PyData.eqvAll]
 |_ :: _,[],_=>by simp[PyData.eqvAll]
 |x :: xs,y :: ys,h=>by
  have h':fZ x y=true/\cy xs ys=true:=by simpa[cy]using h
  rw[PyData.eqvAll,ZaD,Lr x y h'.1,Ph xs ys h'.2];simp
end
def Dd{x y:PyData}{xs ys:List PyData}(h:fZ x y=true):cw (x :: xs) (y :: ys)=true↔(x=y/\cw xs ys=true)\/(x≠y/\lT x y=true):=by rw[cw];by_cases e:x=y;rw[if_pos ((Lr x y h).mpr e)];simp[e];rw[if_neg (λz=>e ((Lr x y h).mp z))];simp[e]
mutual
def Lu:∀a:PyData,lT a a=false
 |.int x=>by simp[lT]
 |.tuple xs=>by show cw xs xs=false;exact Pj xs
 |.none=>rfl
 |.bool _=>rfl
 |.str _=>rfl
 |.list _=>rfl
 |.dict _=>rfl
def Pj:∀xs:List PyData,cw xs xs=false
 |[]=>rfl
 |x :: xs=>by
  rw[cw];split;exact Pj xs;exact Lu x
end
mutual
def Lv:∀(a b:PyData),fZ a b=true->fZ b a=true->lT a b=false->lT b a=false->a=b
 |.int x,.int y,_,_,h1,h2=>by
  have h1:=of_decide_eq_false h1;have h2:=of_decide_eq_false h2;rw[show x=y by lk]
 |.tuple xs,.tuple ys,o1,o2,h1,h2=>by rw[Pk xs ys o1 o2 h1 h2]
 |.int _,.none,h,_,_,_=>nomatch h
 |.int _,.bool _,h,_,_,_=>nomatch h
 |.int _,.str _,h,_,_,_=>nomatch h
 |.int _,.list _,h,_,_,_=>nomatch h
 |.int _,.tuple _,h,_,_,_=>nomatch h
 |.int _,.dict _,h,_,_,_=>nomatch h
 |.tuple _,.none,h,_,_,_=>nomatch h
 |.tuple _,.bool _,h,_,_,_=>nomatch h
 |.tuple _,.int _,h,_,_,_=>nomatch h
 |.tuple _,.str _,h,_,_,_=>nomatch h
 |.tuple _,.list _,h,_,_,_=>nomatch h
 |.tuple _,.dict _,h,_,_,_=>nomatch h
 |.none,_,h,_,_,_=>by simp[fZ]at h
 |.bool _,_,h,_,_,_=>by simp[fZ]at h
 |.str _,_,h,_,_,_=>by simp[fZ]at h
 |.list _,_,h,_,_,_=>by simp[fZ]at h
 |.dict _,_,h,_,_,_=>by simp[fZ]at h
def Pk:∀(xs ys:List PyData),cy xs ys=true->cy ys xs=true->cw xs ys=false->cw ys xs=false->xs=ys
 |[],[],_,_,_,_=>rfl
 |[],_ :: _,_,_,h,_=>by simp[cw]at h
 |_ :: _,[],_,_,_,h=>by simp[cw]at h
 |x :: xs,y :: ys,o1,o2,h1,h2=>by
  have a:fZ x y=true/\cy xs ys=true:=by simpa[cy]using o1
  have b:fZ y x=true/\cy ys xs=true:=by simpa[cy]using o2
  have n1:¬((x=y/\cw xs ys=true)\/(x≠y/\lT x y=true)):=λz=>by rw[<- Dd a.1]at z;rw[h1]at z;cases z
  have n2:¬((y=x/\cw ys xs=true)\/(y≠x/\lT y x=true)):=λz=>by rw[<- Dd b.1]at z;rw[h2]at z;cases z
  by_cases e:x=y;subst e;rw[Pk xs ys a.2 b.2 (by cases q:cw xs ys with|false=>rfl|true=>exact absurd (.inl ⟨rfl,q⟩) n1) (by cases q:cw ys xs with|false=>rfl|true=>exact absurd (.inl ⟨rfl,q⟩) n2)];exact absurd (Lv x y a.1 b.1 (by cases q:lT x y with|false=>rfl|true=>exact absurd (.inr ⟨e,q⟩) n1) (by cases q:lT y x with|false=>rfl|true=>exact absurd (.inr ⟨Ne.symm e,q⟩) n2)) e
end
mutual
def Lx:∀(a b c:PyData),fZ a b=true->fZ b c=true->fZ a c=true->lT a b=true->lT b c=true->lT a c=true
 |.int x,.int y,.int z,_,_,_,h1,h2=>by
  have h1:=of_decide_eq_true h1;have h2:=of_decide_eq_true h2;exact decide_eq_true ⋯
 |.tuple xs,.tuple ys,.tuple zs,o1,o2,o3,h1,h2=>Pm xs ys zs o1 o2 o3 h1 h2
 |.int _,.int _,.none,_,h,_,_,_=>nomatch h
 |.int _,.int _,.bool _,_,h,_,_,_=>nomatch h
 |.int _,.int _,.str _,_,h,_,_,_=>nomatch h
 |.int _,.int _,.list _,_,h,_,_,_=>nomatch h
 |.int _,.int _,.tuple _,_,h,_,_,_=>nomatch h
 |.int _,.int _,.dict _,_,h,_,_,_=>nomatch h
 |.tuple _,.tuple _,.none,_,h,_,_,_=>nomatch h
 |.tuple _,.tuple _,.bool _,_,h,_,_,_=>nomatch h
 |.tuple _,.tuple _,.str _,_,h,_,_,_=>nomatch h
 |.tuple _,.tuple _,.list _,_,h,_,_,_=>nomatch h
 |.tuple _,.tuple _,.int _,_,h,_,_,_=>nomatch h
 |.tuple _,.tuple _,.dict _,_,h,_,_,_=>nomatch h
 |.int _,.none,_,h,_,_,_,_=>nomatch h
 |.int _,.bool _,_,h,_,_,_,_=>nomatch h
 |.int _,.str _,_,h,_,_,_,_=>nomatch h
 |.int _,.list _,_,h,_,_,_,_=>nomatch h
 |.int _,.tuple _,_,h,_,_,_,_=>nomatch h
 |.int _,.dict _,_,h,_,_,_,_=>nomatch h
 |.tuple _,.none,_,h,_,_,_,_=>nomatch h
 |.tuple _,.bool _,_,h,_,_,_,_=>nomatch h
 |.tuple _,.int _,_,h,_,_,_,_=>nomatch h
 |.tuple _,.str _,_,h,_,_,_,_=>nomatch h
 |.tuple _,.list _,_,h,_,_,_,_=>nomatch h
 |.tuple _,.dict _,_,h,_,_,_,_=>nomatch h
 |.none,_,_,h,_,_,_,_=>by simp[fZ]at h
 |.bool _,_,_,h,_,_,_,_=>by simp[fZ]at h
 |.str _,_,_,h,_,_,_,_=>by simp[fZ]at h
 |.list _,_,_,h,_,_,_,_=>by simp[fZ]at h
 |.dict _,_,_,h,_,_,_,_=>by simp[fZ]at h
def Pm:∀(xs ys zs:List PyData),cy xs ys=true->cy ys zs=true->cy xs zs=true->cw xs ys=true->cw ys zs=true->cw xs zs=true
 |[],[],_,_,_,_,h,_=>by simp[cw]at h
 |[],_ :: _,[],_,_,_,_,h=>by simp[cw]at h
 |[],_ :: _,_ :: _,_,_,_,_,_=>by simp[cw]
 |_ :: _,[],_,_,_,_,h,_=>by simp[cw]at h
 |_ :: _,_ :: _,[],_,_,_,_,h=>by simp[cw]at h
 |x :: xs,y :: ys,z :: zs,o1,o2,o3,h1,h2=>by
  have a:fZ x y=true/\cy xs ys=true:=by simpa[cy]using o1
  have b:fZ y z=true/\cy ys zs=true:=by simpa[cy]using o2
  have c:fZ x z=true/\cy xs zs=true:=by simpa[cy]using o3
  rw[Dd a.1]at h1;rw[Dd b.1]at h2;rw[Dd c.1];rcases h1 with⟨rfl,h1⟩|⟨n1,h1⟩
  rcases h2 with⟨rfl,h2⟩|⟨n2,h2⟩
  exact .inl ⟨rfl,Pm xs ys zs a.2 b.2 c.2 h1 h2⟩;exact .inr ⟨n2,h2⟩;rcases h2 with⟨rfl,h2⟩|⟨n2,h2⟩
  exact .inr ⟨n1,h1⟩;have h3:=Lx x y z a.1 b.1 c.1 h1 h2;exact .inr ⟨(λe=>by rw[e,Lu]at h3;cases h3),h3⟩
end
def Pn{ds:List PyData}(hok:∀a∈ds,∀b∈ds,fZ a b=true)(hn:ds≠[]):Ord λi j=>jZ ds (min i (ds.length-1)) (min j (ds.length-1)):=by
 have mem:∀i,ds.getD (min i (ds.length-1)) .none∈ds:=λi=>by
  have hl:0<ds.length:=ZbG.mpr hn;rw[Zaf,Zab ⋯];exact ZaM _
 have as:∀a∈ds,∀b∈ds,lT a b=true->lT b a=false:=λa ha b hb h=>by
  cases q:lT b a with
  |false=>rfl
  |true=>have:=Lx a b a (hok a ha b hb) (hok b hb a ha) (hok a ha a ha) h q;rw[Lu]at this;cases this
 refine⟨λa b c h1 h2=>?_,λa b h=>as _ (mem a) _ (mem b) h⟩;have ma:=mem a;have mb:=mem b;have mc:=mem c;unfold jZ at h1 h2 ⊢;generalize ds.getD (min a (ds.length-1)) .none=x at *;generalize ds.getD (min b (ds.length-1)) .none=y at *;generalize ds.getD (min c (ds.length-1)) .none=z at *;cases q:lT z x with
 |false=>rfl
 |true =>
  cases q1:lT x y with
  |true =>
   have:=Lx z x y (hok z mc x ma) (hok x ma y mb) (hok z mc y mb) q q1;rw[h2]at this;cases this
  |false =>
   have:=Lv x y (hok x ma y mb) (hok y mb x ma) q1 h1;subst this;rw[h2]at q;cases q
section
variable {X:Cx}
abbrev ug(K:Zfr):List V->Hp->VK->Prop:=λxs H Q=>∃(p:Addr) (vs:List V) (ds:List PyData),xs=[.ref p]/\iL K H p vs/\fD K H vs ds/\ds.length<64/\(∀a∈ds,∀b∈ds,fZ a b=true)/\(∀a∈ds,a.canLay0=true/\a.depth<=50)/\(∃pV,∀d∈ds,xo pV d=true) /\
 ∀(l:Addr) (is:List Nat),H l=none->is.Perm (List.range ds.length)->(is.map λi=>ds.getD i .none).Pairwise (λa b=>lT b a=false)->Q (.ref l) (upd H l (.lst (is.map λi=>vs.getD i .non)))
def Po{vs:List V}{its:List Value}(r:Vals vs its):∀(is:List Nat),(∀i∈is,i<vs.length)->Vals (is.map λi=>vs.getD i .non) (is.map λi=>its.getD i Value.none)
 |[],_=>.nil
 |i :: is,h=>by
  have hi:=h i Zae;obtain⟨u,hu,ru⟩:=Vals.get r (Zab hi);refine .cons ?_ (Po r is λj hj=>h j (Zag _ hj));show RelV (vs.getD i .non) (its.getD i Value.none);rw[Zaf,Zaf,Zab hi,hu];exact ru
def Vw(hu:X.A.units+64<cLine):du X (.builtin "sorted") (ug X.K):=by
 intro pins s σ H xs us Q I r h;obtain⟨p,vs,ds,rfl,hq,hr,h64,hok,hlay,⟨pV,hT⟩,q⟩:=h;obtain⟨u,rfl,ru⟩:=vals1 r;cases ru;obtain⟨its,rv,pl,_⟩:=I.list hq;obtain⟨as,ra⟩:=fD.reads I hr rv;have hlen:its.length=ds.length:=SeqAt.ReadsAll.length _ _ _ ra;have hvl:vs.length=its.length:=rv.length;have o:Ord λi j=>jZ ds (min i (ds.length-1)) (min j (ds.length-1)):=by
  by_cases hn:ds=[];subst hn;exact⟨λ_ _ _ _ _=>rfl,λ_ _ _=>rfl⟩;exact Pn hok hn
 refine Vv pl.isList ⋯ o (λh2 s' E' hK=>⟨tuples' (!pV),λQ' q'=>Vs (ReadsAll.keeps hK ra) hT ⋯ q',λi j C hi hj c=>?_⟩) λpp a1 a2=>?_;refine Vr (ReadsAll.keeps hK ra) hT hok hlay (by show X.A.units+1+1+52<cLine;lk) hi hj ?_;rw[show min i (ds.length-1)=i by lk,show min j (ds.length-1)=j by lk]at c;exact c;have hb:∀ i∈pp.toList,i < ds.length:=λi hi=>by
  have:=ZaP.mp (a1.pm.subset hi);lk
 have hpl:pp.toList.length=ds.length:=by rw[Zbi,a1.sz,hlen]
 obtain⟨e,he⟩:=sortedAll_at s.heap its (oI its pp);refine⟨.ref (s.heap.objs.size+1),_,I.laid (t':=s.toks) (o:=.lst (pp.toList.map λi=>vs.getD i .non)) (λb o q=>sortedAll_old q) (ZbU _) ?_,rfl,q _ pp.toList (I.hok.fresh (ZbU _)) (by rw[<- hlen];exact a1.pm) ?_⟩;refine⟨by rw[Zaa,hpl];exact Zap (Zbw h64) ∅,pp.toList.map λi=>its.getD i Value.none,e,Po rv _ λi hi=>by rw[hvl,hlen];exact hb i hi,?_⟩
 have:oI its pp=(pp.toList.map λi=>its.getD i Value.none).toArray:=rfl;rw[<- this];exact he
 rw[Zba,ZbT];intro i j hi hj hij;have:=a2 i j (Zbw hij) (by rw[hlen,<- hpl];exact hj);have e1:P pp i=pp.toList[i]:=by unfold P;rw[Zbd,<- Zbb,Zab hi];rfl
 have e2:P pp j=pp.toList[j]:=by unfold P;rw[Zbd,<- Zbb,Zab hj];rfl
 have b1:=hb _ (ZaM hi);have b2:=hb _ (ZaM hj);simp only[e1,e2,show min pp.toList[i] (ds.length-1)=pp.toList[i] by lk,show min pp.toList[j] (ds.length-1)=pp.toList[j] by lk]at this;exact this
end
end L2
namespace L2
open PySem PySem.Spec PyProof.Rows
end L2
namespace L2
open PySem PySem.Spec PyProof.Rows PySem.W
end L2
namespace L2
open PySem PySem.Spec PyProof.Rows
open Builtin
end L2
namespace L2
open PySem PySem.Spec PyProof.Rows
end L2
namespace L2
open PySem PySem.Spec PyProof.Rows PySem.W
end L2
namespace L2
open PySem PySem.Spec PyProof.Rows
abbrev Vx:Option Addr->Value
 |none=>.none
 |some T=>.ref T
abbrev XO(a C:Addr)(dx tr:Option Addr):HO:=.ext λh=>∃o vs,h.get? a=some o/\o.cls=.ref C/\o.dict=dx/\o.data=.fields vs/\vs[1]?=some (Vx tr)
end L2
namespace L2
open PySem PySem.Spec PyProof.Rows PySem.W
end L2
namespace L2
open PySem PySem.Spec PyProof.Rows
end L2
namespace L2
open PySem PySem.Spec PyProof.Rows PySem.W PySem.Builtin PySem.Builtin.ObjectAttr
end L2
namespace L2
open PySem PySem.Spec PyProof.Rows PySem.W
end L2
namespace L2
open PySem PySem.Spec PyProof.Rows
section
variable {X:Cx}
abbrev xq(i j:Int):Prop:=j≠0/\j.natAbs.log2<9000
def Vy:lA X (binaryOp .FloorDiv) (rI xq λi j=>.int (i.fdiv j)):=Ba λ_ j _ _ _ _ _ hc q=>floordiv_int hc.1 q (.inl (PyProof.noPylong_of_log2 hc.2))
end
open Builtin
abbrev P2(k:Nat):Nat:=2 ^ k
def Pp(a b:Nat):P2 a*P2 b=P2 (a+b):=(Nat.pow_add 2 a b).symm
def De{a b:Nat}(h:a<=b):P2 a<=P2 b:=Zb3 ∅ h
def Bk(a:Nat):0<P2 a:=Nat.two_pow_pos a
def yQ(a n:Nat):P2 a ^ n=P2 (a*n):=(Nat.pow_mul 2 a n).symm
def vB(a:Nat):P2 (a+1)=2*P2 a:=by unfold P2;rw[Nat.pow_succ,Zcb]
def Pq(a:Nat):a<P2 a:=Nat.lt_two_pow_self
abbrev rE(i j:Int):Prop:=tJ i j\/(Builtin.Int.intBits i<=60000000/\Builtin.Int.intBits j<=60000000)
def xr{i:Int}{k:Nat}(h:i.natAbs<P2 k)(hk:k<=60000000):Builtin.Int.intBits i<=60000000:=Zap (PyProof.Rows.intBits_le h) hk
def rE.ok{i j:Int}(h:rE i j):IntMulOk i j:=by
 rcases h with h|⟨h1,h2⟩
 exact h.ok;exact PyProof.Rows.mulOk_of_bits (m:=60000000) (n:=60000000) h1 h2 ∅
section
variable {X:Cx}
def rF:lA X (binaryOp .Mult) (rI rE λi j=>.int (i*j)):=Ba λ_ _ _ _ _ _ _ hc q=>mul_int q hc.ok
end
end L2
namespace ae
abbrev upto(n:Nat):List Int:=(List.range n).map λ(k:Nat)=>(k:Int)
def qN(n:Nat):(upto n).length=n:=by simp[upto]
def ll{n:Nat}{x:Int}:x∈upto n↔0<=x/\x<(n:Int):=by simp only[upto,Zah,ZaP];constructor;rintro⟨k,hk,rfl⟩;lk;rintro⟨h1,h2⟩;exact⟨x.toNat,by lk,by lk⟩
def Pr(n:Nat):(upto n).Pairwise (· < ·):=by unfold upto;rw[Zba];exact(Zci).imp λh=>by lk
def Df(n:Nat):(upto n).Nodup:=(Pr n).imp λh=>by lk
def Pt:∀{xs ys:List Int},xs.Perm ys->xs.Pairwise (·<=·)->ys.Pairwise (·<=·)->xs=ys
 |[],ys,p,_,_=>(List.nil_perm.mp p).symm
 |x :: xs,[],p,_,_=>absurd p.length_eq (by simp)
 |x :: xs,y :: ys,p,hx,hy=>by
  obtain⟨Dg,Dh⟩:=Zbz.mp hx;obtain⟨hy1,t6⟩:=Zbz.mp hy;have e:x=y:=by
   have h1:x∈y :: ys:=p.subset Zae;have h2:y∈x :: xs:=p.symm.subset Zae;rcases ZaA.mp h1 with e|h1
   exact e;rcases ZaA.mp h2 with e|h2
   exact e.symm
   have:=Dg y h2;have:=hy1 x h1;lk
  subst e;rw[Pt (List.perm_cons x |>.mp p) Dh t6]
def Hn:∀{xs ys:List Int},xs.Nodup->(∀x∈xs,x∈ys)->ys.length<=xs.length->xs.Perm ys
 |[],ys,_,_,h=>by
  have:ys=[]:=ZbE (by simpa using h);subst this;exact Zbh _
 |x :: xs,ys,hn,hs,hl=>by
  obtain⟨h1,h2⟩:=Zbc.mp hn;have hx:x∈ys:=hs x Zae;have hp:=Zb4 hx;have hlen:(ys.erase x).length+1=ys.length:=by have:=hp.length_eq;simpa using this.symm
  refine List.Perm.trans (List.Perm.cons x (Hn (ys:=ys.erase x) h2 (λy hy=>?_) ?_)) hp.symm;have hne:y≠x:=λe=>h1 (e ▸ hy);exact(Zb5 hne).mpr (hs y (Zag _ hy));simp at hl;lk
def Bl{xs:List Int}(hn:xs.Nodup)(hb:∀x∈xs,0<=x/\x<(xs.length:Int)):xs.Perm (upto xs.length):=Hn hn (λx hx=>ll.mpr (hb x hx)) (by rw[qN];exact Zad _)
end ae
namespace ae
abbrev app(xs:List Int)(i:Int):Int:=xs.getD i.toNat 0
abbrev aS(xs:List Int)(i:Int):Nat->Int
 |0=>i
 |j+1=>app xs (aS xs i j)
abbrev Tn(n:Nat)(xs:List Int):Prop:=xs.Perm (upto n)
def Tn.length{n:Nat}{xs:List Int}(h:Tn n xs):xs.length=n:=by rw[h.length_eq,qN]
def Tn.nodup{n:Nat}{xs:List Int}(h:Tn n xs):xs.Nodup:=h.nodup_iff.mpr (Df n)
def Tn.bound{n:Nat}{xs:List Int}(h:Tn n xs){x:Int}(hx:x∈xs):0<=x/\x<(n:Int):=ll.mp (h.subset hx)
def qg{xs:List Int}{i:Int}(h0:0<=i)(h1:i<(xs.length:Int)):xs[i.toNat]?=some (app xs i):=by
 have:i.toNat<xs.length:=by lk
 unfold app;rw[Zaf,Zab this];rfl
def Vz{xs:List Int}{i:Int}(h0:0<=i)(h1:i<(xs.length:Int)):app xs i∈xs:=Zak (qg h0 h1)
def Tn.app{n:Nat}{xs:List Int}(h:Tn n xs){i:Int}(h0:0<=i)(h1:i<(n:Int)):0<=app xs i/\app xs i<(n:Int):=h.bound (Vz h0 (by rw[h.length];exact h1))
def Tn.inj{n:Nat}{xs:List Int}(h:Tn n xs){i j:Int}(i0:0<=i)(i1:i<(n:Int))(j0:0<=j)(j1:j<(n:Int))(e:ae.app xs i=ae.app xs j):i=j:=by have hl:=h.length;have a:=qg i0 (by rw[hl];exact i1);have b:=qg j0 (by rw[hl];exact j1);rw[e]at a;obtain⟨ha,ea⟩:=Zac.mp a;obtain⟨hb,eb⟩:=Zac.mp b;have:=(Zb2 h.nodup).mp (ea.trans eb.symm);lk
def Tn.aS{n:Nat}{xs:List Int}(h:Tn n xs){i:Int}(h0:0<=i)(h1:i<(n:Int)):∀j,0<=aS xs i j/\aS xs i j<(n:Int)
 |0=>⟨h0,h1⟩
 |j+1=>h.app (h.aS h0 h1 j).1 (h.aS h0 h1 j).2
def Tn.back{n:Nat}{xs:List Int}(h:Tn n xs){i:Int}(h0:0<=i)(h1:i<(n:Int)):∀(a d:Nat),ae.aS xs i a=ae.aS xs i (a+d)->ae.aS xs i d=i
 |0,d,e=>by rw[Zcc]at e;exact e.symm
 |a+1,d,e=>by
  have e':ae.app xs (ae.aS xs i a)=ae.app xs (ae.aS xs i (a+d)):=by
   have:a+1+d=(a+d)+1:=by lk
   rw[this]at e;exact e
  exact h.back h0 h1 a d (h.inj (h.aS h0 h1 a).1 (h.aS h0 h1 a).2 (h.aS h0 h1 _).1 (h.aS h0 h1 _).2 e')
def yR:∀{xs ys:List Int},xs.Nodup->(∀x∈xs,x∈ys)->xs.length<=ys.length
 |[],_,_,_=>ZaO _
 |x :: xs,ys,hn,hs=>by
  obtain⟨h1,h2⟩:=Zbc.mp hn;have hx:x∈ys:=hs x Zae;have hp:=Zb4 hx;have hlen:(ys.erase x).length+1=ys.length:=by have:=hp.length_eq;simpa using this.symm
  have:=yR (ys:=ys.erase x) h2 λy hy=>(Zb5 (a:=y) (b:=x) (λe=>h1 (by rw[<- e];exact hy))).mpr (hs y (Zag _ hy));simp only[Zaz];lk
abbrev row(xs:List Int)(i:Int)(m:Nat):List Int:=(List.range (m+1)).map (aS xs i)
def Pu(xs:List Int)(i:Int)(m:Nat):row xs i (m+1)=row xs i m ++ [aS xs i (m+1)]:=by unfold row;rw[List.range_succ,Zaw];rfl
def sQ(xs:List Int)(i:Int)(m:Nat):(row xs i m).length=m+1:=by simp[row]
def qO{xs:List Int}{i:Int}{m:Nat}{x:Int}:x∈row xs i m↔∃j,j<=m/\aS xs i j=x:=by unfold row;rw[Zah];constructor;rintro⟨j,hj,e⟩;exact⟨j,by have:=ZaP.mp hj;lk,e⟩;rintro⟨j,hj,e⟩;exact⟨j,ZaP.mpr ⋯,e⟩
abbrev NB(xs:List Int)(i:Int)(m:Nat):Prop:=∀j,1<=j->j<=m->aS xs i j≠i
def Tn.i3{n:Nat}{xs:List Int}(h:Tn n xs){i:Int}(h0:0<=i)(h1:i<(n:Int)){m:Nat}(nb:NB xs i m):m+1<=n:=by
 have hn:(row xs i m).Nodup:=by
  unfold row List.Nodup;rw[Zba];refine Zbm (R:=λa b=>a<b) ?_ Zci;intro a b ha hb hab e;have ha':=ZaP.mp ha;have hb':=ZaP.mp hb;obtain⟨d,rfl⟩:∃d,b=a+d:=⟨b-a,by lk⟩;exact nb d ⋯ ⋯ (h.back h0 h1 a d e)
 have:=yR hn (ys:=upto n) λx hx=>by
  obtain⟨j,_,rfl⟩:=qO.mp hx;exact ll.mpr (h.aS h0 h1 j)
 rw[sQ,qN]at this;exact this
structure a5(xs:List Int)(i:Int)(r:List Int):Prop where
 ex:∃m,r=row xs i m/\NB xs i m/\aS xs i (m+1)=i
def a5.unique{xs:List Int}{i:Int}{r r':List Int}(a:a5 xs i r)(b:a5 xs i r'):r=r':=by
 obtain⟨m,e1,n1,b1⟩:=a.ex;obtain⟨m',e2,n2,b2⟩:=b.ex;have:m=m':=by
  rcases Nat.lt_trichotomy m m' with h|h|h
  exact absurd b1 (n2 (m+1) ⋯ ⋯);exact h;exact absurd b2 (n1 (m' + 1) ⋯ ⋯)
 rw[e1,e2,this]
def a5.mem{xs:List Int}{i:Int}{r:List Int}(a:a5 xs i r):i∈r:=by obtain⟨m,e1,_,_⟩:=a.ex;rw[e1];exact qO.mpr ⟨0,ZaO _,rfl⟩
def a5.len{n:Nat}{xs:List Int}(h:Tn n xs){i:Int}(h0:0<=i)(h1:i<(n:Int)){r:List Int}(a:a5 xs i r):r.length<=n:=by obtain⟨m,e1,nb,_⟩:=a.ex;rw[e1,sQ];exact h.i3 h0 h1 nb
def a5.bound{n:Nat}{xs:List Int}(h:Tn n xs){i:Int}(h0:0<=i)(h1:i<(n:Int)){r:List Int}(a:a5 xs i r):∀x∈r,0<=x/\x<(n:Int):=by obtain⟨m,e1,nb,_⟩:=a.ex;subst e1;intro x hx;obtain⟨j,_,rfl⟩:=qO.mp hx;exact h.aS h0 h1 j
abbrev out(left r:List Int):List Int:=left.filter λk=>!r.contains k
inductive iw(xs:List Int):List Int->List (List Int)->Prop
 |nil:iw xs [] []
 |cons {i:Int} {left r:List Int} {rs:List (List Int)}:a5 xs i r->iw xs (out (i :: left) r) rs->iw xs (i :: left) (r :: rs)
def yS{i:Int}{left r:List Int}(h:i∈r):(out (i :: left) r).length<=left.length:=by
 unfold out;rw[Zcp];have:(!r.contains i)=false:=by simp[h]
 rw[if_neg (by rw[this];decide)];exact Zcq _ _
abbrev from'(n k:Nat)(seen:Int->Bool):List Int:=(((List.range n).drop k).map λ(j:Nat)=>(j:Int)).filter λx=>!seen x
def Pw(n:Nat)(seen:Int->Bool):from' n n seen=[]:=by unfold from';rw[Zch (by simp)];rfl
def Px{n k:Nat}(h:k<n)(seen:Int->Bool):from' n k seen=if seen (k:Int)then from' n (k+1) seen else(k:Int) :: from' n (k+1) seen:=by unfold from';rw[ZbS (by simpa using h),Zay,Zcp];simp only[Zcz];cases hs:seen (k:Int)<;>simp
def Py{n k:Nat}{seen:Int->Bool}{r:List Int}:out (from' n k seen) r=from' n k (λx=>seen x || r.contains x):=by
 unfold out from';rw[List.filter_filter]
 congr 1
 funext x
 show(!r.contains x && !seen x)=!(seen x || r.contains x);cases seen x<;>cases r.contains x<;>rfl
def Pz(n:Nat):from' n 0 (λ_=>false)=upto n:=by unfold from' upto;rw[List.drop_zero];simp
abbrev rG(n:Nat):List Int:=((List.range (n-1)).map λ(k:Nat)=>(1:Int)+k) ++ [0]
def VA:∀n,n<21->0<n->(rG n).isPerm (upto n)=true:=by decide
def PB{n:Nat}(h:n<21)(h0:0<n):Tn n (rG n):=List.isPerm_iff.mp (VA n h h0)
end ae
namespace ae
def Ho{n:Nat}{xs:List Int}(h:xs.length=n):(upto n).map (app xs)=xs:=by apply List.ext_getElem;rw[Zaa,qN,h];intro i h1 h2;have e:=qg (xs:=xs) (i:=(i:Int)) ⋯ ⋯;simp only[Zau]at e;rw[Zab h2]at e;rw[ZbK];unfold upto;simp only[ZbK,Zcz];exact(Zaq e).symm
abbrev inv(xs:List Int):List Int:=(upto xs.length).map λi=>(xs.idxOf i:Int)
def yT(xs:List Int):(inv xs).length=xs.length:=by unfold inv;rw[Zaa,qN]
def Hq{n i:Nat}(h:i<n):(upto n)[i]?=some (i:Int):=by unfold upto;rw[Zal,ZbX h];rfl
def Hr{xs:List Int}{i:Int}(h0:0<=i)(h1:i<(xs.length:Int)):app (inv xs) i=(xs.idxOf i:Int):=by have e:=qg (xs:=inv xs) h0 (by rw[yT];exact h1);unfold inv at e;rw[Zal,Hq ⋯]at e;have:=Zaq e;rw[<- inv]at this;rw[<- this,ZaN h0]
def Tn.mem{n:Nat}{xs:List Int}(h:Tn n xs){i:Int}(h0:0<=i)(h1:i<(n:Int)):i∈xs:=h.symm.subset (ll.mpr ⟨h0,h1⟩)
def Tn.idx{n:Nat}{xs:List Int}(h:Tn n xs){i:Int}(h0:0<=i)(h1:i<(n:Int)):xs.idxOf i<n:=by rw[<- h.length];exact List.idxOf_lt_length_of_mem (h.mem h0 h1)
def Tn.bz{n:Nat}{xs:List Int}(h:Tn n xs){i:Int}(h0:0<=i)(h1:i<(n:Int)):ae.app xs (ae.app (inv xs) i)=i:=by rw[Hr h0 (by rw[h.length];exact h1)];have hl:=h.idx h0 h1;have e:=qg (xs:=xs) (i:=(xs.idxOf i:Int)) ⋯ (by rw[h.length];lk);rw[Zau,Zab (by rw[h.length];exact hl)]at e;rw[<- Zaq e];exact List.getElem_idxOf _
def Tn.j8{n:Nat}{xs:List Int}(h:Tn n xs){i:Int}(h0:0<=i)(h1:i<(n:Int)):0<=ae.app (inv xs) i/\ae.app (inv xs) i<(n:Int):=by rw[Hr h0 (by rw[h.length];exact h1)];have:=h.idx h0 h1;lk
def Tn.cW{n:Nat}{xs:List Int}(h:Tn n xs){i:Int}(h0:0<=i)(h1:i<(n:Int)):ae.app (inv xs) (ae.app xs i)=i:=by obtain⟨a0,a1⟩:=h.app h0 h1;obtain⟨b0,b1⟩:=h.j8 a0 a1;exact h.inj b0 b1 h0 h1 (h.bz a0 a1)
def Tn.az{n:Nat}{xs:List Int}(h:Tn n xs):Tn n (inv xs):=by
 have hl:=h.length;unfold Tn;have e:(inv xs).length=n:=by rw[yT,hl]
 have:=Bl (xs:=inv xs) ?_ ?_
 rw[e]at this;exact this;unfold List.Nodup;rw[ZbT];intro i j hi hj hij z;have a:=qg (xs:=inv xs) (i:=(i:Int)) ⋯ ⋯;have b:=qg (xs:=inv xs) (i:=(j:Int)) ⋯ ⋯;rw[Zau,Zab hi]at a;rw[Zau,Zab hj]at b;have a:=Zaq a;have b:=Zaq b;have c:=h.bz (i:=(i:Int)) ⋯ ⋯;have d:=h.bz (i:=(j:Int)) ⋯ ⋯;rw[<- a]at c;rw[<- b,<- z]at d;have:=c.symm.trans d;lk;intro x hx;unfold inv at hx;obtain⟨i,hi,rfl⟩:=Zah.mp hx;have:=ll.mp hi;rw[hl]at this;have:=h.idx this.1 this.2;rw[e];lk
def sR(xs:List Int)(i:Int)(j:Nat):∀d,aS xs (aS xs i j) d=aS xs i (j+d)
 |0=>rfl
 |d+1=>by show app xs (aS xs (aS xs i j) d)=app xs (aS xs i (j+d));rw[sR xs i j d]
def Hs{xs:List Int}{i:Int}{L:Nat}(h:aS xs i L=i)(a:Nat):aS xs i (a+L)=aS xs i a:=by rw[Nat.add_comm,<- sR xs i L a,h]
def Di{xs:List Int}{i:Int}{L:Nat}(h:aS xs i L=i):∀(q r:Nat),aS xs i (r+L*q)=aS xs i r
 |0,r=>rfl
 |q+1,r=>by rw[Nat.mul_succ,<- Nat.add_assoc,Hs h];exact Di h q r
def VB{xs:List Int}{i:Int}{L:Nat}(h:aS xs i L=i)(a:Nat):aS xs i (a % L)=aS xs i a:=by have:=Di h (a / L) (a % L);rw[Nat.mod_add_div]at this;exact this.symm
abbrev PD(xs:List Int)(k i v:Int):Prop:=∃m,NB xs i m/\aS xs i (m+1)=i/\v=aS xs i (k % ((m+1:Nat):Int)).toNat
def Tn.yU{n:Nat}{xs:List Int}(h:Tn n xs){i:Int}(h0:0<=i)(h1:i<(n:Int)){m:Nat}(nb:NB xs i m)(bk:ae.aS xs i (m+1)=i)(j:Nat)(k:Int):
  PD xs k (ae.aS xs i j) (ae.aS xs i (((j:Int)+k) % ((m+1:Nat):Int)).toNat):=by
 refine⟨m,λd d1 d2 e=>?_,?_,?_⟩;rw[sR]at e;exact nb d d1 d2 (h.back h0 h1 j d e.symm);rw[sR,Hs bk];rw[sR];rw[<- VB bk (j+(k % ((m+1:Nat):Int)).toNat)]
 congr 1
 have hL:(0:Int)<((m+1:Nat):Int):=by lk
 have k0:=Zbv k (Int.ne_of_gt hL);have e:(((j+(k % ((m+1:Nat):Int)).toNat) % (m+1):Nat):Int)=((j:Int)+k) % ((m+1:Nat):Int):=by
  rw[Int.natCast_emod,Int.natCast_add,ZaN k0,Int.add_emod_emod]
 rw[<- e,Zau]
def iw.all{xs:List Int}:∀{left:List Int} {rs:List (List Int)},iw xs left rs->(∀r∈rs,∃i∈left,a5 xs i r)/\∀x∈left,∃r∈rs,x∈r:=by
 intro left rs a
 induction a with
 |nil=>exact⟨λr hr=>(nomatch hr),λx hx=>(nomatch hx)⟩
 |cons h1 _ ih =>
  refine⟨λr hr=>?_,λx hx=>?_⟩
  ·rcases ZaA.mp hr with rfl|hr
   ·exact⟨_,Zae,h1⟩
   ·obtain⟨i,hi,r'⟩:=ih.1 r hr
    exact⟨i,(ZaH.mp hi).1,r'⟩
  ·rename_i i left r rs _
   by_cases hc:x∈r
   ·exact⟨r,Zae,hc⟩
   ·obtain⟨r',hr',hx'⟩:=ih.2 x (ZaH.mpr ⟨hx,by simp[hc]⟩)
    exact⟨r',Zag _ hr',hx'⟩
def VC{n:Nat}{xs:List Int}(h:Tn n xs):xs.map (app (inv xs))=upto n:=by
 have e:((upto n).map (app xs)).map (app (inv xs))=upto n:=by
  rw[Zas]
  conv=>rhs;rw[<- Zb9 (upto n)]
  apply ZaJ;intro x hx;obtain⟨a,b⟩:=ll.mp hx;exact h.cW a b
 rw[Ho h.length]at e;exact e
def VD{n:Nat}{xs:List Int}(h:Tn n xs):(inv xs).map (app xs)=upto n:=by
 have e:((upto n).map (app (inv xs))).map (app xs)=upto n:=by
  rw[Zas]
  conv=>rhs;rw[<- Zb9 (upto n)]
  apply ZaJ;intro x hx;obtain⟨a,b⟩:=ll.mp hx;exact h.bz a b
 rw[Ho (h.az).length]at e;exact e
end ae
namespace ae
inductive iP(xs ys:List Int):Int->Prop
 |zero:iP xs ys 0
 |r {x:Int}:iP xs ys x->iP xs ys (app xs x)
 |u {x:Int}:iP xs ys x->iP xs ys (app ys x)
def iP.bound{n:Nat}{xs ys:List Int}(hx:Tn n xs)(hy:Tn n ys)(h0:0<n){x:Int}(h:iP xs ys x):0<=x/\x<(n:Int):=by
 induction h with
 |zero=>lk
 |r _ ih=>exact hx.app ih.1 ih.2
 |u _ ih=>exact hy.app ih.1 ih.2
def iP.aS{xs ys:List Int}{x:Int}(h:iP xs ys x):∀k,iP xs ys (ae.aS xs x k)
 |0=>h
 |k+1=>.r (h.aS k)
abbrev oJ(xs:List Int)(m:Nat):List Int:=(xs.set 0 (app xs m)).set m (app xs 0)
def VE(xs:List Int)(m:Nat):(oJ xs m).length=xs.length:=by simp[oJ]
def Ly{xs:List Int}{m:Nat}{v x:Int}(hm:m<xs.length)(h0:0<=x):app (xs.set m v) x=if x=(m:Int)then v else app xs x:=by unfold app;rw[Zaf,Zaf];by_cases hx:x=(m:Int);rw[if_pos hx,hx,Zau,Zao hm];rfl;rw[if_neg hx,ZaG ⋯]
def Bm{xs:List Int}{m:Nat}(hm:m<xs.length){x:Int}(h0:0<=x):app (oJ xs m) x=if x=(m:Int)then app xs 0 else if x=0 then app xs m else app xs x:=by unfold oJ;rw[Ly (by simpa using hm) h0,Ly ⋯ h0];rfl
def yV{n:Nat}{xs:List Int}(h:Tn n xs){m:Nat}(hm:m<n):Tn n (oJ xs m):=by
 have hl:=h.length;have e:(oJ xs m).length=n:=by rw[VE,hl]
 have:=Bl (xs:=oJ xs m) ?_ ?_
 unfold Tn;rw[e]at this;exact this;unfold List.Nodup;rw[ZbT];intro i j hi hj hij z;have a:=qg (xs:=oJ xs m) (i:=(i:Int)) ⋯ ⋯;have b:=qg (xs:=oJ xs m) (i:=(j:Int)) ⋯ ⋯;rw[Zau,Zab hi]at a;rw[Zau,Zab hj]at b;have a:=Zaq a;have b:=Zaq b;rw[Bm ⋯ ⋯]at a b;rw[a,b]at z;have inj:∀p q:Int,0<=p->p<(n:Int)->0<=q->q<(n:Int)->app xs p=app xs q->p=q:=λp q p0 p1 q0 q1=>h.inj p0 p1 q0 q1;split at z<;>split at z<;>(try split at z)<;>(try split at z)<;>(first|lk|(have:=inj _ _ ⋯ ⋯ ⋯ ⋯ z;lk));intro x hx;obtain⟨i,hi,rfl⟩:=Za8 hx;have a:=qg (xs:=oJ xs m) (i:=(i:Int)) ⋯ ⋯;rw[Zau,Zab hi]at a;rw[Zaq a,Bm ⋯ ⋯,e];split;exact h.app ⋯ ⋯;split;exact h.app ⋯ ⋯;exact h.app ⋯ ⋯
def Tn.rH{n:Nat}{xs:List Int}(h:Tn n xs){i:Int}(h0:0<=i)(h1:i<(n:Int)):∃m,NB xs i m/\ae.aS xs i (m+1)=i:=by
 by_cases hb:∃m,m<n/\ae.aS xs i (m+1)=i
 -- the least
 have key:∀b:Nat,(∃m,m<b/\ae.aS xs i (m+1)=i)->∃m,NB xs i m/\ae.aS xs i (m+1)=i:=by
  intro b
  induction b with
  |zero=>rintro⟨m,hm,_⟩;lk
  |succ b ih =>
   rintro⟨m,hm,e⟩;by_cases hc:∃m,m<b/\ae.aS xs i (m+1)=i;exact ih hc;refine⟨m,λj j1 j2 z=>hc ⟨j-1,by lk,?_⟩,e⟩
   have:j-1+1=j:=by lk
   rw[this];exact z
 exact key n hb;have nb:NB xs i n:=λj j1 j2 z=>by
  refine hb ⟨j-1,by lk,?_⟩;have:j-1+1=j:=by lk
  rw[this];exact z
 have:=h.i3 h0 h1 nb;lk
def VF{n:Nat}{xs ys:List Int}(hx:Tn n xs)(hy:Tn n ys){m:Nat}(hm:m<n)(nm:¬iP xs ys (m:Int)):iP (oJ xs m) ys (m:Int)/\∀x,iP xs ys x->iP (oJ xs m) ys x:=by
 have hl:=hx.length;have m0:m≠0:=λz=>nm (by rw[z];exact .zero);obtain⟨M,nb,bk⟩:=hx.rH (i:=(m:Int)) ⋯ ⋯;have VG:∀j,ae.aS xs (m:Int) j≠0:=by
  intro j z;have h':iP xs ys (ae.aS xs (ae.aS xs (m:Int) j) ((M+1)*j)):=by rw[z];exact iP.zero.aS _
  rw[sR]at h';have e2:ae.aS xs (m:Int) ((M+1)*(j+1))=(m:Int):=by
   have:=Di bk (j+1) 0;rw[Zcc]at this;exact this
  have h3:=h'.aS ((M+1)*(j+1)-(j+(M+1)*j));rw[sR]at h3;have e3:j+(M+1)*j+((M+1)*(j+1)-(j+(M+1)*j))=if j+(M+1)*j<=(M+1)*(j+1)then(M+1)*(j+1)else j+(M+1)*j:=by split<;>lk
  rw[e3]at h3;by_cases hc:j+(M+1)*j<=(M+1)*(j+1)
  ·rw[if_pos hc,e2]at h3
   exact nm h3
  ·-- round as often as needed
   have h4:=h'.aS ((M+1)*(2*j+2)-(j+(M+1)*j));rw[sR]at h4;have hbig:j+(M+1)*j<=(M+1)*(2*j+2):=by
    have a1:(M+1)*(2*j+2)=(M+1)*j+((M+1)*j+(M+1)*2):=by rw[<- Nat.mul_add,<- Nat.mul_add];congr 1;lk
    have a2:j<=(M+1)*j:=Nat.le_mul_of_pos_left j ⋯;lk
   have e5:j+(M+1)*j+((M+1)*(2*j+2)-(j+(M+1)*j))=(M+1)*(2*j+2):=by lk
   rw[e5]at h4;have:=Di bk (2*j+2) 0;rw[Zcc]at this;rw[this]at h4;exact nm h4
 have ring:∀j,j<=M->iP (oJ xs m) ys (ae.aS xs (m:Int) (j+1)):=by
  intro j
  induction j with
  |zero =>
   intro _;have h1:iP (oJ xs m) ys (ae.app (oJ xs m) 0):=.r .zero;rw[Bm ⋯ ⋯,if_neg ⋯,if_pos rfl]at h1;exact h1
  |succ j ih =>
   intro hj;have h1:=(ih ⋯).r;have b:=hx.aS (i:=(m:Int)) ⋯ ⋯ (j+1);rw[Bm ⋯ b.1,if_neg (nb (j+1) ⋯ ⋯),if_neg (VG (j+1))]at h1;exact h1
 have PH:iP (oJ xs m) ys (m:Int):=by have:=ring M (Zad _);rwa [bk]at this
 refine⟨PH,λx h=>?_⟩;have hpos:0<n:=by lk
 induction h with
 |zero=>exact .zero
 |r hx' ih =>
  rename_i x
  have b:=hx'.bound hx hy hpos;by_cases h0:x=0
  ·have h1:=PH.r
   rw[Bm ⋯ ⋯,if_pos rfl]at h1;rw[h0];exact h1
  ·have VH:x≠(m:Int):=λz=>nm (by rw[<- z];exact hx')
   have h1:=ih.r;rw[Bm ⋯ b.1,if_neg VH,if_neg h0]at h1;exact h1
 |u _ ih=>exact ih.u
abbrev Cl(xs ys F:List Int):Prop:=∀x∈F,app xs x∈F/\app ys x∈F
def Cl.all{xs ys F:List Int}(h:Cl xs ys F)(h0:(0:Int)∈F){x:Int}(r:iP xs ys x):x∈F:=by
 induction r with
 |zero=>exact h0
 |r _ ih=>exact(h _ ih).1
 |u _ ih=>exact(h _ ih).2
structure Fd(xs ys:List Int)(F:List Int):Prop where
 z:(0:Int)∈F
 nd:F.Nodup
 mt:∀x∈F,iP xs ys x
def Fd.len{n:Nat}{xs ys F:List Int}(h:Fd xs ys F)(hx:Tn n xs)(hy:Tn n ys)(h0:0<n):F.length<=n:=by have:=yR h.nd (ys:=upto n) λx hx'=>ll.mpr ((h.mt x hx').bound hx hy h0);rw[qN]at this;exact this
def Fd.one(xs ys:List Int):Fd xs ys [0]:=⟨by simp,by simp,λx hx=>(show x=0 by simpa using hx) ▸ .zero⟩
def round{xs ys F F1 F2:List Int}(d:Fd xs ys F)(d2:Fd xs ys F2)(p1:F <+: F1)(p2:F1 <+: F2)(c1:∀x∈F,app xs x∈F1)(c2:∀x∈F1,app ys x∈F2){t:Nat}(h:Cl xs ys F\/t+1<=F.length):Cl xs ys F2\/t+1+1<=F2.length:=by
 have p:=p1.trans p2;by_cases hc:Cl xs ys F;refine .inl λx hx=>?_;have hF:=hc.all d.z (d2.mt x hx);exact⟨p.subset (hc x hF).1,p.subset (hc x hF).2⟩;have hl:=h.resolve_left hc;by_cases he:F2.length<=F.length;refine absurd ?_ hc;have e2:F2=F:=(p.eq_of_length (by have:=p.length_le;lk)).symm;have e1:F1=F:=by
  have a:=p1.length_le;have b:=p2.length_le;exact(p1.eq_of_length ⋯).symm
 intro x hx;refine⟨?_,?_⟩
 have:=c1 x hx;rwa [e1]at this
 have:=c2 x (by rw[e1];exact hx);rwa [e2]at this
 exact .inr ⋯
abbrev uh(w n:Nat):List Int:=((List.range (w-1)).map λ(k:Nat)=>(1:Int)+k) ++ [0] ++ ((List.range (n-w)).map λ(k:Nat)=>(w:Int)+k)
abbrev vC(w n:Nat):List Int:=[(w:Int)] ++ ((List.range (w-1)).map λ(k:Nat)=>(1:Int)+k) ++ ((List.range (n-(w+1))).map λ(k:Nat)=>((w:Int)+1)+k) ++ [0]
def VI:∀n,n<21->∀w,w<n+1->0<w->(uh w n).isPerm (upto n)=true:=by decide +kernel
def VJ:∀n,n<21->∀w,w<n->0<w->(vC w n).isPerm (upto n)=true:=by decide +kernel
def VL{w n:Nat}(h:n<21)(h1:w<=n)(h0:0<w):Tn n (uh w n):=List.isPerm_iff.mp (VI n h w ⋯ h0)
def VM{w n:Nat}(h:n<21)(h1:w<n)(h0:0<w):Tn n (vC w n):=List.isPerm_iff.mp (VJ n h w h1 h0)
def less{L L':List Int}{m:Int}(nd:L'.Nodup)(hs:∀x∈L',x∈L)(hm:m∈L)(hm':m ∉ L'):L'.length<L.length:=by
 have hp:=Zb4 hm;have hlen:(L.erase m).length+1=L.length:=by have:=hp.length_eq;simpa using this.symm
 have:=yR (ys:=L.erase m) nd λx hx=>(Zb5 (λe=>hm' (by rw[<- e];exact hx))).mpr (hs x hx);lk
end ae
namespace ae
abbrev aT(xs ys:List Int):List Int:=xs.map (app ys)
def vD(xs ys:List Int):(aT xs ys).length=xs.length:=by simp[aT]
def qP{n:Nat}{xs ys:List Int}(hx:xs.length=n)(hy:ys.length=n)(h:∀s:Int,0<=s->s<(n:Int)->app xs s=app ys s):xs=ys:=by rw[<- Ho hx,<- Ho hy];apply ZaJ;intro s hs;obtain⟨h0,h1⟩:=ll.mp hs;exact h s h0 h1
def nJ{xs ys:List Int}{s:Int}(h0:0<=s)(h1:s<(xs.length:Int)):app (aT xs ys) s=app ys (app xs s):=by have e:=qg (xs:=aT xs ys) h0 (by rw[vD];exact h1);unfold aT at e;rw[Zal,qg h0 h1]at e;exact(Zaq e).symm
def Tn.ui{n:Nat}{xs:List Int}(hl:xs.length=n)(hb:∀s:Int,0<=s->s<(n:Int)->0<=ae.app xs s/\ae.app xs s<(n:Int))(hi:∀s t:Int,0<=s->s<(n:Int)->0<=t->t<(n:Int)->ae.app xs s=ae.app xs t->s=t):Tn n xs:=by
 have el:∀(i:Nat) (h:i<xs.length),xs[i]=ae.app xs (i:Int):=λi h=>by
  have a:=qg (xs:=xs) (i:=(i:Int)) ⋯ ⋯;rw[Zau,Zab h]at a;exact Zaq a
 have:=Bl (xs:=xs) ?_ ?_
 unfold Tn;rw[hl]at this;exact this;unfold List.Nodup;rw[ZbT];intro i j h1 h2 hij z;rw[el i h1,el j h2]at z;have:=hi i j ⋯ ⋯ ⋯ ⋯ z;lk;intro x hx;obtain⟨i,h,rfl⟩:=Za8 hx;rw[el i h,hl];exact hb i ⋯ ⋯
def Tn.aT{n:Nat}{xs ys:List Int}(hx:Tn n xs)(hy:Tn n ys):Tn n (aT xs ys):=by have hl:=hx.length;refine Tn.ui (by rw[vD];exact hl) (λs h0 h1=>?_) λs t s0 s1 t0 t1 e=>?_;rw[nJ h0 ⋯];obtain⟨a,b⟩:=hx.app h0 h1;exact hy.app a b;rw[nJ s0 ⋯,nJ t0 ⋯]at e;obtain⟨a,b⟩:=hx.app s0 s1;obtain⟨c,d⟩:=hx.app t0 t1;exact hx.inj s0 s1 t0 t1 (hy.inj a b c d e)
def Tn.vE{n:Nat}{xs ys:List Int}(hx:Tn n xs)(hy:Tn n ys){s:Int}(h0:0<=s)(h1:s<(n:Int)):ae.app (inv (ae.aT xs ys)) s=ae.app (inv xs) (ae.app (inv ys) s):=by have hf:=hx.aT hy;obtain⟨a0,a1⟩:=hy.j8 h0 h1;obtain⟨b0,b1⟩:=hx.j8 a0 a1;obtain⟨c0,c1⟩:=hf.j8 h0 h1;refine hf.inj c0 c1 b0 b1 ?_;rw[hf.bz h0 h1,nJ b0 (by rw[hx.length];exact b1),hx.bz a0 a1,hy.bz h0 h1]
abbrev anew(xs p:List Int):List Int:=aT (aT (inv p) xs) p
def Tn.anew{n:Nat}{xs p:List Int}(hx:Tn n xs)(hp:Tn n p):Tn n (anew xs p):=(hp.az.aT hx).aT hp
def Tn.iQ{n:Nat}{xs p:List Int}(hx:Tn n xs)(hp:Tn n p){s:Int}(h0:0<=s)(h1:s<(n:Int)):ae.app (ae.anew xs p) s=ae.app p (ae.app xs (ae.app (inv p) s)):=by have hl:=hp.az.length;unfold ae.anew;rw[nJ h0 (by rw[vD,hl];exact h1),nJ h0 (by rw[hl];exact h1)]
def Tn.dy{n:Nat}{xs p:List Int}(hx:Tn n xs)(hp:Tn n p){s:Int}(h0:0<=s)(h1:s<(n:Int)):ae.app (ae.anew xs p) (ae.app p s)=ae.app p (ae.app xs s):=by obtain⟨a,b⟩:=hp.app h0 h1;rw[hx.iQ hp a b,hp.cW h0 h1]
def Tn.kF{n:Nat}{xs p q:List Int}(hx:Tn n xs)(hp:Tn n p)(hq:Tn n q):ae.anew (ae.anew xs p) q=ae.anew xs (ae.aT p q):=by have hf:=hp.aT hq;refine qP (n:=n) ((hx.anew hp).anew hq).length (hx.anew hf).length λs h0 h1=>?_;obtain⟨a0,a1⟩:=hq.j8 h0 h1;obtain⟨b0,b1⟩:=hp.j8 a0 a1;obtain⟨c0,c1⟩:=hx.app b0 b1;rw[(hx.anew hp).iQ hq h0 h1,hx.iQ hp a0 a1,hx.iQ hf h0 h1,hp.vE hq h0 h1,nJ c0 (by rw[hp.length];exact c1)]
def Tn.oR{n:Nat}{xs p:List Int}(hx:Tn n xs)(hp:Tn n p):ae.anew (ae.anew xs p) (inv p)=xs:=by
 refine qP (n:=n) ((hx.anew hp).anew hp.az).length hx.length λs h0 h1=>?_;obtain⟨a0,a1⟩:=hp.az.j8 h0 h1;have e:ae.app (inv (inv p)) s=ae.app p s:=by
  obtain⟨b0,b1⟩:=hp.app h0 h1;refine hp.az.inj a0 a1 b0 b1 ?_;rw[hp.az.bz h0 h1,hp.cW h0 h1]
 obtain⟨b0,b1⟩:=hp.app h0 h1;obtain⟨c0,c1⟩:=hx.app h0 h1;rw[(hx.anew hp).iQ hp.az h0 h1,e,hx.dy hp h0 h1,hp.cW c0 c1]
end ae
namespace ae
abbrev dz(F:List Int)(x:Int):List Int:=if x∈F then F else F ++ [x]
def Dj(F:List Int)(x:Int):F <+: dz F x:=by unfold dz;split;exact Zb7 _;exact ZcB _ _
def rJ{F:List Int}{x y:Int}:y∈dz F x↔y∈F\/y=x:=by
 unfold dz;split
 ·next h=>exact⟨.inl,λz=>z.elim id λe=>e ▸ h⟩
 ·rw[ZaF,Zat]
def PJ{F:List Int}{x:Int}(h:F.Nodup):(dz F x).Nodup:=by
 unfold dz;split
 ·exact h
 ·next hx =>
  rw[ZbP];exact⟨h,by simp,λa ha b hb e=>hx (by rw[Zat]at hb;rw[<- hb,<- e];exact ha)⟩
abbrev visit(xs ys F:List Int)(x:Int):List Int:=dz (dz F (app xs x)) (app ys x)
abbrev bf(xs ys:List Int)(s:Int):Nat->List Int
 |0=>[s]
 |k+1=>match (bf xs ys s k)[k]? with
  |some x=>visit xs ys (bf xs ys s k) x
  |none=>bf xs ys s k
def VN(xs ys:List Int)(s:Int)(k:Nat):bf xs ys s k <+: bf xs ys s (k+1):=by show _ <+: (match (bf xs ys s k)[k]? with|some x=>visit xs ys (bf xs ys s k) x|none=>bf xs ys s k);split;exact(Dj _ _).trans (Dj _ _);exact Zb7 _
def Bn(xs ys:List Int)(s:Int)(k:Nat):∀d,bf xs ys s k <+: bf xs ys s (k+d)
 |0=>Zb7 _
 |d+1=>(Bn xs ys s k d).trans (VN xs ys s (k+d))
def yW(xs ys:List Int)(s:Int):∀k,(bf xs ys s k).Nodup
 |0=>by show[s].Nodup;simp
 |k+1=>by
  show(match (bf xs ys s k)[k]? with|some x=>visit xs ys (bf xs ys s k) x|none=>bf xs ys s k).Nodup;split;exact PJ (PJ (yW xs ys s k));exact yW xs ys s k
def Lz{xs ys:List Int}{s:Int}{k:Nat}(h:(bf xs ys s k).length<=k):∀d,bf xs ys s (k+d)=bf xs ys s k
 |0=>rfl
 |d+1=>by
  have e:=Lz h d;show(match (bf xs ys s (k+d))[k+d]? with|some x=>visit xs ys (bf xs ys s (k+d)) x|none=>bf xs ys s (k+d))=_;rw[e,Zbl ⋯]
section
variable {n:Nat}{xs ys:List Int}{s:Int}
def sS(hx:Tn n xs)(hy:Tn n ys)(s0:0<=s)(s1:s<(n:Int)):∀k,∀x∈bf xs ys s k,0<=x/\x<(n:Int)
 |0,x,h=>by rw[Zat.mp (show x∈[s]from h)];exact⟨s0,s1⟩
 |k+1,x,h=>by
  have ih:=sS hx hy s0 s1 k;have h':x∈(match (bf xs ys s k)[k]? with|some y=>visit xs ys (bf xs ys s k) y|none=>bf xs ys s k):=h;split at h'
  ·next y hy' =>
   obtain⟨y0,y1⟩:=ih y (Zak hy');rcases rJ.mp h' with h'|rfl
   ·rcases rJ.mp h' with h'|rfl
    ·exact ih x h'
    ·exact hx.app y0 y1
   ·exact hy.app y0 y1
  ·exact ih x h'
def LA(hx:Tn n xs)(hy:Tn n ys)(s0:0<=s)(s1:s<(n:Int))(k:Nat):(bf xs ys s k).length<=n:=by have:=yR (yW xs ys s k) (ys:=upto n) λx h=>ll.mpr (sS hx hy s0 s1 k x h);rw[qN]at this;exact this
def Dk{k i:Nat}(hik:i<=k){x:Int}(h:(bf xs ys s k)[i]?=some x):(bf xs ys s i)[i]?=some x:=by obtain⟨d,rfl⟩:∃d,k=i+d:=⟨k-i,by lk⟩;by_cases hl:(bf xs ys s i).length<=i;rw[Lz hl d]at h;exact h;obtain⟨t,e⟩:=Bn xs ys s i d;rw[<- e,Zav ⋯]at h;exact h
def LB(hx:Tn n xs)(hy:Tn n ys)(s0:0<=s)(s1:s<(n:Int)):Cl xs ys (bf xs ys s n):=by
 intro x hm;obtain⟨i,hi,e⟩:=Za8 hm;have hl:=LA hx hy s0 s1 n;have hi':(bf xs ys s i)[i]?=some x:=Dk (k:=n) ⋯ (by rw[Zab hi,e]);have hs:visit xs ys (bf xs ys s i) x <+: bf xs ys s n:=by
  have:=Bn xs ys s (i+1) (n-(i+1));rw[show i+1+(n-(i+1))=n by lk]at this;have e2:bf xs ys s (i+1)=visit xs ys (bf xs ys s i) x:=by
   show(match (bf xs ys s i)[i]? with|some x=>visit xs ys (bf xs ys s i) x|none=>bf xs ys s i)=_;rw[hi']
  rw[<- e2];exact this
 refine⟨hs.subset ?_,hs.subset ?_⟩;exact rJ.mpr (.inl (rJ.mpr (.inr rfl)));exact rJ.mpr (.inr rfl)
def yX{zs F:List Int}(hz:Tn n zs)(nd:F.Nodup)(hb:∀x∈F,0<=x/\x<(n:Int))(hc:∀x∈F,app zs x∈F){y:Int}(y0:0<=y)(y1:y<(n:Int))(h:app zs y∈F):y∈F:=by
 have LC:(F.map (app zs)).Nodup:=by
  unfold List.Nodup;rw[Zba];refine Zbm (λ{a b} ha hb' hab e=>?_) nd;obtain⟨a0,a1⟩:=hb a ha;obtain⟨b0,b1⟩:=hb b hb';exact hab (hz.inj a0 a1 b0 b1 e)
 have pm:(F.map (app zs)).Perm F:=Hn LC (λx hx=>by obtain⟨z,hz',rfl⟩:=Zah.mp hx;exact hc z hz') (by simp);obtain⟨z,Bo,e⟩:=Zah.mp (pm.symm.subset h);obtain⟨z0,z1⟩:=hb z Bo;rw[<- hz.inj z0 z1 y0 y1 e];exact Bo
def PK(hx:Tn n xs)(hy:Tn n ys)(s0:0<=s)(s1:s<(n:Int))(all:∀x:Int,0<=x->x<(n:Int)->iP xs ys x){x:Int}(x0:0<=x)(x1:x<(n:Int)):x∈bf xs ys s n:=by
 have cl:=LB hx hy s0 s1;have nd:=yW xs ys s n;have bd:=sS hx hy s0 s1 n;have hs:s∈bf xs ys s n:=by
  have:=Bn xs ys s 0 n;rw[Zcc]at this;exact this.subset (show s∈[s] by simp)
 have hpos:0<n:=by lk
 have zero:∀y,iP xs ys y->y∈bf xs ys s n->(0:Int)∈bf xs ys s n:=by
  intro y hr
  induction hr with
  |zero=>exact id
  |r h ih =>
   intro hm;obtain⟨a,b⟩:=h.bound hx hy hpos;exact ih (yX hx nd bd (λx hx'=>(cl x hx').1) a b hm)
  |u h ih =>
   intro hm;obtain⟨a,b⟩:=h.bound hx hy hpos;exact ih (yX hy nd bd (λx hx'=>(cl x hx').2) a b hm)
 exact cl.all (zero s (all s s0 s1) hs) (all x x0 x1)
def LD(hx:Tn n xs)(hy:Tn n ys)(s0:0<=s)(s1:s<(n:Int))(all:∀x:Int,0<=x->x<(n:Int)->iP xs ys x):Tn n (bf xs ys s n) :=
 Hn (yW xs ys s n) (λx h=>ll.mpr (sS hx hy s0 s1 n x h)) (by
  have:=yR (Df n) (ys:=bf xs ys s n) λx h=>by obtain⟨a,b⟩:=ll.mp h;exact PK hx hy s0 s1 all a b
  exact this)
def PL{p F:List Int}(hp:Tn n p)(hb:∀x∈F,0<=x/\x<(n:Int)){x:Int}(x0:0<=x)(x1:x<(n:Int)):dz (F.map (app p)) (app p x)=(dz F x).map (app p):=by
 unfold dz
 have e:app p x∈F.map (app p)↔x∈F:=⟨λh=>by
  obtain⟨y,hy,e⟩:=Zah.mp h;obtain⟨y0,y1⟩:=hb y hy
  rw[<- hp.inj y0 y1 x0 x1 e];exact hy,λh=>Zah.mpr ⟨x,h,rfl⟩⟩
 by_cases h:x∈F;rw[if_pos h,if_pos (e.mpr h)];rw[if_neg h,if_neg λz=>h (e.mp z),Zaw];rfl
def LF{p:List Int}(hx:Tn n xs)(hy:Tn n ys)(hp:Tn n p)(s0:0<=s)(s1:s<(n:Int)):∀k,bf (anew xs p) (anew ys p) (app p s) k=(bf xs ys s k).map (app p)
 |0=>rfl
 |k+1=>by
  have ih:=LF hx hy hp s0 s1 k;show(match (bf (anew xs p) (anew ys p) (app p s) k)[k]? with|some x=>visit (anew xs p) (anew ys p) (bf (anew xs p) (anew ys p) (app p s) k) x|none=>bf (anew xs p) (anew ys p) (app p s) k)=(match (bf xs ys s k)[k]? with|some x=>visit xs ys (bf xs ys s k) x|none=>bf xs ys s k).map (app p);rw[ih,Zal];cases h:(bf xs ys s k)[k]? with
  |none=>rfl
  |some x =>
   obtain⟨x0,x1⟩:=sS hx hy s0 s1 k x (Zak h);obtain⟨a0,a1⟩:=hx.app x0 x1;obtain⟨b0,b1⟩:=hy.app x0 x1;show visit (anew xs p) (anew ys p) ((bf xs ys s k).map (app p)) (app p x)=(visit xs ys (bf xs ys s k) x).map (app p);unfold visit;rw[hx.dy hp x0 x1,hy.dy hp x0 x1,PL hp (sS hx hy s0 s1 k) a0 a1,PL hp (λz hz=>?_) b0 b1];rcases rJ.mp hz with hz|rfl
   exact sS hx hy s0 s1 k z hz;exact⟨a0,a1⟩
end
abbrev num(zs sq:List Int):List Int:=sq.map λo=>(sq.idxOf (app zs o):Int)
def Tn.inv_inv{n:Nat}{p:List Int}(hp:Tn n p):inv (inv p)=p:=by refine qP (n:=n) hp.az.az.length hp.length λs h0 h1=>?_;obtain⟨a0,a1⟩:=hp.az.j8 h0 h1;obtain⟨b0,b1⟩:=hp.app h0 h1;refine hp.az.inj a0 a1 b0 b1 ?_;rw[hp.az.bz h0 h1,hp.cW h0 h1]
def Ht{n:Nat}{zs sq:List Int}(hz:Tn n zs)(hs:Tn n sq):anew zs (inv sq)=num zs sq:=by unfold anew num aT;rw[hs.inv_inv,Zas];apply ZaJ;intro o ho;obtain⟨o0,o1⟩:=hs.bound ho;obtain⟨a0,a1⟩:=hz.app o0 o1;exact Hr a0 (by rw[hs.length];exact a1)
def PN{n:Nat}{p:List Int}(hp:Tn n p):∀{sq:List Int},(∀x∈sq,0<=x/\x<(n:Int))->∀{y:Int},0<=y->y<(n:Int)->(sq.map (app p)).idxOf (app p y)=sq.idxOf y
 |[],_,_,_,_=>rfl
 |a :: r,hb,y,y0,y1=>by
  obtain⟨a0,a1⟩:=hb a Zae;rw[Zay,List.idxOf_cons,List.idxOf_cons,PN hp (λx hx=>hb x (Zag _ hx)) y0 y1];by_cases e:a=y;rw[e];simp;have e2:app p a≠app p y:=λz=>e (hp.inj a0 a1 y0 y1 z);rw[show(a == y)=false by simpa using e,show(app p a == app p y)=false by simpa using e2]
def PQ{n:Nat}{zs sq p:List Int}(hz:Tn n zs)(hp:Tn n p)(hb:∀x∈sq,0<=x/\x<(n:Int)):num (anew zs p) (sq.map (app p))=num zs sq:=by unfold num;rw[Zas];apply ZaJ;intro o ho;obtain⟨o0,o1⟩:=hb o ho;obtain⟨a0,a1⟩:=hz.app o0 o1;show((sq.map (app p)).idxOf (app (anew zs p) (app p o)):Int)=_;rw[hz.dy hp o0 o1,PN hp hb a0 a1]
end ae
namespace ae
abbrev pw(xs:List Int)(k i:Int):Int:=if 0<=k then aS xs i k.toNat else aS (inv xs) i (-k).toNat
section
variable {n:Nat}{xs:List Int}{i:Int}
def Tn.pd(h:Tn n xs)(i0:0<=i)(i1:i<(n:Int)):∀(k m:Nat),ae.aS (inv xs) (ae.aS xs i m) k=if k<=m then ae.aS xs i (m-k)else ae.aS (inv xs) i (k-m)
 |0,m=>by rw[if_pos (ZaO _),Nat.sub_zero];rfl
 |k+1,m=>by
  show ae.app (inv xs) (ae.aS (inv xs) (ae.aS xs i m) k)=_;rw[h.pd i0 i1 k m];by_cases hk:k<=m;rw[if_pos hk];by_cases hk1:k+1<=m;rw[if_pos hk1];obtain⟨d,hd⟩:∃d,m-k=d+1:=⟨m-k-1,by lk⟩;rw[hd,show m-(k+1)=d by lk];obtain⟨a,b⟩:=h.aS i0 i1 d;exact h.cW a b;rw[if_neg hk1,show m-k=0 by lk,show k+1-m=1 by lk];rfl;rw[if_neg hk,if_neg ⋯,show k+1-m=(k-m)+1 by lk];rfl
def Tn.uj(h:Tn n xs)(i0:0<=i)(i1:i<(n:Int))(k m:Nat):ae.aS xs (ae.aS (inv xs) i m) k=if k<=m then ae.aS (inv xs) i (m-k)else ae.aS xs i (k-m):=by have:=h.az.pd i0 i1 k m;rw[h.inv_inv]at this;exact this
def Tn.pw(h:Tn n xs)(i0:0<=i)(i1:i<(n:Int))(k:Int):0<=ae.pw xs k i/\ae.pw xs k i<(n:Int):=by unfold ae.pw;split;exact h.aS i0 i1 _;exact h.az.aS i0 i1 _
def Tn.pw_add(h:Tn n xs)(i0:0<=i)(i1:i<(n:Int))(a b:Int):ae.pw xs a (ae.pw xs b i)=ae.pw xs (a+b) i:=by
 by_cases ha:0<=a<;>by_cases hb:0<=b;unfold ae.pw;rw[if_pos ha,if_pos hb,if_pos ⋯,sR]
 congr 1
 lk;have e1:ae.pw xs b i=ae.aS (inv xs) i (-b).toNat:=by unfold ae.pw;rw[if_neg hb]
 have e2:∀j,ae.pw xs a j=ae.aS xs j a.toNat:=λj=>by unfold ae.pw;rw[if_pos ha]
 rw[e1,e2,h.uj i0 i1];unfold ae.pw;split;split;rw[show(-b).toNat-a.toNat=0 by lk,show(a+b).toNat=0 by lk];rfl
 congr 1;lk
 rw[if_pos ⋯];congr 1;lk;have e1:ae.pw xs b i=ae.aS xs i b.toNat:=by unfold ae.pw;rw[if_pos hb]
 have e2:∀j,ae.pw xs a j=ae.aS (inv xs) j (-a).toNat:=λj=>by unfold ae.pw;rw[if_neg ha]
 rw[e1,e2,h.pd i0 i1];unfold ae.pw;split;rw[if_pos ⋯];congr 1;lk;rw[if_neg ⋯];congr 1;lk;unfold ae.pw;rw[if_neg ha,if_neg hb,if_neg ⋯,sR]
 congr 1
 lk
def Tn.pw_per(h:Tn n xs)(i0:0<=i)(i1:i<(n:Int)){L:Nat}(hL:ae.aS xs i L=i)(q:Int):ae.pw xs ((L:Int)*q) i=i:=by
 have pos:∀m:Nat,ae.pw xs ((L:Int)*(m:Int)) i=i:=λm=>by
  unfold ae.pw;rw[if_pos (Int.mul_nonneg ⋯ ⋯),show((L:Int)*(m:Int)).toNat=0+L*m by rw[<- Int.natCast_mul,Zau];lk,Di hL];rfl
 by_cases hq:0<=q;obtain⟨m,rfl⟩:∃m:Nat,q=(m:Int):=⟨q.toNat,by lk⟩;exact pos m;obtain⟨m,rfl⟩:∃m:Nat,q=-(m:Int):=⟨(-q).toNat,by lk⟩
 have:=h.pw_add i0 i1 ((L:Int) * -(m:Int)) ((L:Int)*(m:Int));rw[pos m]at this;rw[this,Int.mul_neg,Int.add_left_neg];rfl
def Tn.yZ(h:Tn n xs)(i0:0<=i)(i1:i<(n:Int)){k v:Int}(o:PD xs k i v):v=ae.pw xs k i:=by
 obtain⟨m,_,bk,rfl⟩:=o;have m0:=Zbv k (show((m+1:Nat):Int)≠0 by lk);have e:ae.aS xs i (k % ((m+1:Nat):Int)).toNat=ae.pw xs (k % ((m+1:Nat):Int)) i:=by unfold ae.pw;rw[if_pos m0]
 rw[e];have e2:=h.pw_add i0 i1 (k % ((m+1:Nat):Int)) (((m+1:Nat):Int)*(k / ((m+1:Nat):Int)));rw[h.pw_per i0 i1 bk,Int.emod_add_mul_ediv]at e2;exact e2
end
abbrev cz(xs:List Int)(k:Int):List Int:=(upto xs.length).map (pw xs k)
def Dl(xs:List Int)(k:Int):(cz xs k).length=xs.length:=by simp[cz,qN]
def qy{xs:List Int}{k s:Int}(s0:0<=s)(s1:s<(xs.length:Int)):app (cz xs k) s=pw xs k s:=by have e:=qg (xs:=cz xs k) s0 (by rw[Dl];exact s1);unfold cz at e;rw[Zal,Hq ⋯]at e;have:=Zaq e;rw[ZaN s0]at this;exact this.symm
def Tn.cz{n:Nat}{xs:List Int}(h:Tn n xs)(k:Int):Tn n (cz xs k):=by have hl:=h.length;refine Tn.ui (by rw[Dl];exact hl) (λs s0 s1=>by rw[qy s0 ⋯];exact h.pw s0 s1 k) λs t s0 s1 t0 t1 e=>?_;rw[qy s0 ⋯,qy t0 ⋯]at e;have e2:=congrArg (ae.pw xs (-k)) e;rw[h.pw_add s0 s1,h.pw_add t0 t1,Int.add_left_neg]at e2;exact e2
abbrev shr(xs ys:List Int)(k:Int):List Int:=aT (cz xs (-k)) ys
def Tn.shr{n:Nat}{xs ys:List Int}(hx:Tn n xs)(hy:Tn n ys)(k:Int):Tn n (shr xs ys k):=(hx.cz (-k)).aT hy
def Tn.i5{n:Nat}{xs ys:List Int}(hx:Tn n xs){k s:Int}(s0:0<=s)(s1:s<(n:Int)):ae.app (ae.shr xs ys k) s=ae.app ys (ae.pw xs (-k) s):=by have hl:=hx.length;unfold ae.shr;rw[nJ s0 (by rw[Dl,hl];exact s1),qy s0 (by rw[hl];exact s1)]
def Tn.rK{n:Nat}{xs ys:List Int}(hx:Tn n xs)(hy:Tn n ys)(a b:Int):ae.shr xs (ae.shr xs ys a) b=ae.shr xs ys (a+b):=by refine qP (n:=n) (hx.shr (hx.shr hy a) b).length (hx.shr hy (a+b)).length λs s0 s1=>?_;obtain⟨p0,p1⟩:=hx.pw s0 s1 (-b);rw[hx.i5 s0 s1,hx.i5 p0 p1,hx.i5 s0 s1,hx.pw_add s0 s1,show -a + -b=-(a+b) by lk]
def Tn.qh{n:Nat}{xs ys:List Int}(hx:Tn n xs)(hy:Tn n ys):ae.shr xs ys 0=ys:=by refine qP (n:=n) (hx.shr hy 0).length hy.length λs s0 s1=>?_;rw[hx.i5 s0 s1];rfl
end ae
namespace ae
abbrev tb(l:Int->Nat)(p:Int->Int)(a b:Int):Bool:=if l a=l b\/l (p a)=l (p b)then false else(decide (l a<l b)).xor (decide (l (p a)<l (p b)))
section
variable {n:Nat}{L:List Int}{l:Int->Nat}
abbrev rL(xs ys:List Int):List Int:=aT (aT xs ys) (aT (inv xs) (inv ys))
def Tn.rL{xs ys:List Int}(hx:Tn n xs)(hy:Tn n ys):Tn n (rL xs ys):=(hx.aT hy).aT (hx.az.aT hy.az)
end
end ae
namespace ae
def a5.step{xs r:List Int}{i:Int}(h:a5 xs i r){a:Int}(ha:a∈r):app xs a∈r:=by obtain⟨m,e,_,bk⟩:=h.ex;subst e;obtain⟨j,hj,rfl⟩:=qO.mp ha;by_cases q:j=m;subst q;exact qO.mpr ⟨0,ZaO _,bk.symm⟩;exact qO.mpr ⟨j+1,by lk,rfl⟩
def a5.nodup{n:Nat}{xs r:List Int}{i:Int}(h:Tn n xs)(h0:0<=i)(h1:i<(n:Int))(a:a5 xs i r):r.Nodup:=by obtain⟨m,e,nb,_⟩:=a.ex;subst e;unfold row List.Nodup;rw[Zba];refine Zbm (R:=λa b=>a<b) ?_ Zci;intro a b ha hb hab e;have hb':=ZaP.mp hb;obtain⟨d,rfl⟩:∃d,b=a+d:=⟨b-a,by lk⟩;exact nb d ⋯ ⋯ (h.back h0 h1 a d e)
def a5.uk{n:Nat}{xs r:List Int}{i:Int}(h:Tn n xs)(h0:0<=i)(h1:i<(n:Int))(a:a5 xs i r){x:Int}(x0:0<=x)(x1:x<(n:Int))(hx:app xs x∈r):x∈r:=by
 obtain⟨m,e,nb,bk⟩:=a.ex;subst e;obtain⟨j,hj,e⟩:=qO.mp hx;cases j with
 |zero =>
  have e':app xs (aS xs i m)=app xs x:=bk.trans e;have:=h.inj (h.aS h0 h1 m).1 (h.aS h0 h1 m).2 x0 x1 e';exact qO.mpr ⟨m,Zad _,this⟩
 |succ j =>
  have e':app xs (aS xs i j)=app xs x:=e;have:=h.inj (h.aS h0 h1 j).1 (h.aS h0 h1 j).2 x0 x1 e';exact qO.mpr ⟨j,by lk,this⟩
def iw.perm{n:Nat}{xs:List Int}(h:Tn n xs):∀{left:List Int} {rs:List (List Int)},iw xs left rs->left.Nodup->(∀x∈left,(0<=x/\x<(n:Int))/\app xs x∈left)->rs.flatten.Perm left:=by
 intro left rs a
 induction a with
 |nil=>intro _ _;exact Zbh _
 |cons h1 _ ih =>
  rename_i i left r rs _
  intro nd cl;obtain⟨i0,i1⟩:=(cl i Zae).1;have sub:∀x∈r,x∈i :: left:=by
   obtain⟨m,e,_,_⟩:=h1.ex;subst e;have:∀j,aS xs i j∈i :: left:=λj=>by
    induction j with
    |zero=>exact Zae
    |succ j ih=>exact(cl _ ih).2
   intro x hx;obtain⟨j,_,rfl⟩:=qO.mp hx;exact this j
  have p:=ih (Zcr Zca nd) (λx hx=>by
   obtain⟨Dg,Dh⟩:=ZaH.mp hx;have nr:x ∉ r:=by simpa using Dh
   obtain⟨b,c⟩:=cl x Dg
   exact⟨b,ZaH.mpr ⟨c,by simpa usingλz=>nr (h1.uk h i0 i1 b.1 b.2 z)⟩⟩)
  rw[Za5];refine(List.Perm.append_left r p).trans ?_;refine(Zbf ?_ nd).mpr ?_
  ·refine ZbP.mpr ⟨h1.nodup h i0 i1,Zcr Zca nd,?_⟩
   intro a ha b hb e;subst e;have:=(ZaH.mp hb).2;simp[ha]at this
  ·intro x
   rw[ZaF];constructor
   ·rintro(q|q)
    ·exact sub x q
    ·exact(ZaH.mp q).1
   ·intro q
    by_cases c:x∈r
    ·exact .inl c
    ·exact .inr (ZaH.mpr ⟨q,by simp[c]⟩)
def iw.Bl{n:Nat}{xs:List Int}(h:Tn n xs){rs:List (List Int)}(a:iw xs (upto n) rs):rs.flatten.Perm (upto n) :=
 a.perm h (Df n) λx hx=>⟨ll.mp hx,ll.mpr (h.app (ll.mp hx).1 (ll.mp hx).2)⟩
end ae
namespace ae
@[reducible]def Sp:=Bool×Int
abbrev cE(s:Sp):Prop:=(s.1=false->1<=s.2/\s.2<=3)/\s.2≠0
abbrev i6(a b:Sp):Int:=if a.1 then a.2+b.2 else(a.2+b.2) % 4
abbrev cB(a b:Sp):List Sp:=if i6 a b=0 then[]else[(a.1,i6 a b)]
abbrev cI:List Sp->Sp->List Sp
 |[],s=>[s]
 |t :: r,s=>if t.1=s.1 then cB t s ++ r else s :: t :: r
def vF(t:Sp)(r:List Sp)(s:Sp):cI (t :: r) s=if t.1=s.1 then cB t s ++ r else s :: t :: r:=rfl
abbrev pe(w:List Sp):List Sp:=w.foldl cI []
abbrev nc(s:Sp):Sp:=(s.1,if s.1 then -s.2 else 4-s.2)
abbrev kX(w:List Sp):List Sp:=(w.map nc).reverse
abbrev Pl:List Sp->Prop
 |[]=>True
 |a :: r=>cE a/\(∀b,r.head?=some b->a.1≠b.1)/\Pl r
def Pl.pr:∀{l:List Sp},Pl l->∀s∈l,cE s
 |a :: r,h,s,hs=>by
  rcases ZaA.mp hs with rfl|hs
  exact h.1;exact Pl.pr h.2.2 s hs
def PR{a b:Sp}(ha:cE a)(e:a.1=b.1):(i6 a b=0/\cB a b=[])\/(cE (a.1,i6 a b)/\cB a b=[(a.1,i6 a b)]):=by unfold cB;by_cases h:i6 a b=0;exact .inl ⟨h,by rw[if_pos h]⟩;refine .inr ⟨⟨λhf=>?_,h⟩,by rw[if_neg h]⟩;simp only at hf;unfold i6 at h ⊢;simp only[hf,ZaW,if_false]at h ⊢;lk
def Pl.push{l:List Sp}{s:Sp}(h:Pl l)(hs:cE s):Pl (cI l s):=by
 cases l with
 |nil=>exact⟨hs,λb h=>(nomatch h),trivial⟩
 |cons t r =>
  rw[vF];split
  ·next e =>
   rcases PR h.1 e with⟨_,ej⟩|⟨hp,ej⟩
   ·rw[ej];exact h.2.2
   ·rw[ej];exact⟨hp,h.2.1,h.2.2⟩
  ·next e =>
   refine⟨hs,λb hb=>?_,h⟩;cases hb;exactλe'=>e e'.symm
def Pl.fold{w:List Sp}:∀{l:List Sp},Pl l->(∀s∈w,cE s)->Pl (w.foldl cI l):=by
 induction w with
 |nil=>exactλh _=>h
 |cons s w ih=>exactλh hw=>ih (h.push (hw s (Zae))) λs' h'=>hw s' (Zag _ h')
def y2{w:List Sp}(hw:∀s∈w,cE s):Pl (pe w):=Pl.fold (l:=[]) trivial hw
def VO{l:List Sp}{s:Sp}(h:∀b,l.head?=some b->s.1≠b.1):cI l s=s :: l:=by
 cases l with
 |nil=>rfl
 |cons t r=>rw[vF,if_neg λe=>h t rfl e.symm]
def VP(u v:List Sp):pe (u ++ v)=v.foldl cI (pe u):=by unfold pe;rw[Zbr]
def Dn{s:Sp}(h:cE s):cE (nc s):=by
 obtain⟨b,k⟩:=s;cases b with
 |true=>exact⟨nofun,λe=>h.2 (by have:-k=0:=e;show k=0;lk)⟩
 |false =>
  obtain⟨h1,h2⟩:=h.1 rfl;simp only at h1 h2;exact⟨λ_=>by show 1<=4-k/\4-k<=3;lk,by show 4-k≠0;lk⟩
def VQ{p:List Sp}{s:Sp}(hp:Pl p)(hs:cE s):cI (cI p s) (nc s)=p:=by
 have e0:cB s (nc s)=[]:=by
  unfold cB i6 nc;cases hb:s.1<;>simp<;>lk
 cases p with
 |nil =>
  show(if s.1=(nc s).1 then cB s (nc s) ++ []else _)=_;rw[if_pos (show s.1=(nc s).1 from rfl),e0];rfl
 |cons t r =>
  by_cases e:t.1=s.1;have e1:cI (t :: r) s=cB t s ++ r:=by rw[vF,if_pos e]
  rw[e1];obtain⟨tb,tk⟩:=t;obtain⟨sb,sk⟩:=s;simp only at e;subst e;have ht:=hp.1;rcases PR (b:=(tb,sk)) hp.1 rfl with⟨h0,ej⟩|⟨y3,ej⟩
  rw[ej,List.nil_append];have eb:nc (tb,sk)=(tb,tk):=by
   unfold nc;unfold i6 at h0;cases tb with
   |true=>simp only[if_true]at h0 ⊢;congr 1;lk
   |false =>
    have h1:=ht.1 rfl;have h2:=hs.1 rfl;simp only[ZaW,if_false]at h0 h1 h2 ⊢
    congr 1;lk
  rw[eb];exact VO hp.2.1;rw[ej];show(if tb=(nc (tb,sk)).1 then cB (tb,i6 (tb,tk) (tb,sk)) (nc (tb,sk)) ++ r else _)=_;rw[if_pos (show tb=(nc (tb,sk)).1 from rfl)];have eb:i6 (tb,i6 (tb,tk) (tb,sk)) (nc (tb,sk))=tk:=by
   unfold i6 nc;cases tb with
   |true=>simp only[if_true];lk
   |false =>
    have h1:=ht.1 rfl;have h2:=hs.1 rfl;simp only[ZaW,if_false]at h1 h2 ⊢;lk
  unfold cB;rw[eb,if_neg ht.2];rfl;have e1:cI (t :: r) s=s :: t :: r:=by rw[vF,if_neg e]
  rw[e1];show(if s.1=(nc s).1 then cB s (nc s) ++ (t :: r)else _)=_;rw[if_pos (show s.1=(nc s).1 from rfl),e0];rfl
def VR{w:List Sp}:∀{p:List Sp},Pl p->(∀s∈w,cE s)->(w ++ kX w).foldl cI p=p:=by
 induction w with
 |nil=>exactλ_ _=>rfl
 |cons s w ih =>
  intro p hp hw;have e:(s :: w) ++ kX (s :: w)=s :: ((w ++ kX w) ++ [nc s]):=by unfold kX;simp
  rw[e];show((w ++ kX w) ++ [nc s]).foldl cI (cI p s)=p;have hs:=hw s (Zae);rw[Zbr,ih (hp.push hs) λs' h'=>hw s' (Zag _ h')];exact VQ hp hs
def VS{w:List Sp}(hw:∀s∈w,cE s):pe (w ++ kX w)=[]:=VR (p:=[]) trivial hw
def VT{l:List Sp}{s:Sp}{M B:Nat}(h:∀x∈l,x.2.natAbs<=M)(hs:s.2.natAbs<=B)(hp:cE s)(hl:Pl l):∀x∈cI l s,x.2.natAbs<=M+B:=by
 intro x hx;cases l with
 |nil=>rcases Zat.mp hx with rfl;lk
 |cons t r =>
  rw[vF]at hx;have ht:=h t (Zae);split at hx
  ·next e0 =>
   rcases ZaF.mp hx with hx|hx
   ·unfold cB at hx
    split at hx
    ·exact(nomatch hx)
    ·rcases Zat.mp hx with rfl
     show(i6 t s).natAbs<=_;unfold i6;split
     ·lk
     ·next hb =>
      have:=hl.1.1 (by simpa using hb);have h2:=hp.1 (by rw[<- e0];simpa using hb);lk
   ·have:=h x (Zag _ hx);lk
  ·rcases ZaA.mp hx with rfl|hx
   ·lk
   ·have:=h x hx;lk
def VU{B:Nat}{w:List Sp}:∀{l:List Sp} {M:Nat},(∀x∈l,x.2.natAbs<=M)->Pl l->(∀s∈w,cE s/\s.2.natAbs<=B)->∀x∈w.foldl cI l,x.2.natAbs<=M+w.length*B:=by
 induction w with
 |nil=>intro l M h _ _ x hx;have:=h x hx;lk
 |cons s w ih =>
  intro l M h hl hw x hx;have hs:=hw s (Zae);have:=ih (VT h hs.2 hs.1 hl) (hl.push hs.1) (λs' h'=>hw s' (Zag _ h')) x hx;rw[Zaz,ZbM];lk
def y4{B:Nat}{w:List Sp}(hw:∀s∈w,cE s/\s.2.natAbs<=B):∀x∈pe w,x.2.natAbs<=w.length*B:=λx hx=>by
 have:=VU (l:=[]) (M:=0) nofun trivial hw x hx;lk
def VW(l:List Sp)(s:Sp):(cI l s).length<=l.length+1:=by
 cases l with
 |nil=>exact Zad _
 |cons t r =>
  rw[vF];split;unfold cB;split<;>simp<;>lk;simp
def VX{w:List Sp}:∀{l:List Sp},(w.foldl cI l).length<=l.length+w.length:=by
 induction w with
 |nil=>exact Zad _
 |cons s w ih =>
  intro l;have:=ih (l:=cI l s);have h2:=VW l s;rw[Zaz];exact Zap this ⋯
def PU(w:List Sp):(pe w).length<=w.length:=by have:=VX (w:=w) (l:=[]);simpa[pe]using this
structure T4 where (a b c d:Int)
abbrev T4.one:T4:=⟨1,0,0,1⟩
abbrev T4.qt:T4:=⟨0,-1,1,0⟩
abbrev T4.mul(x y:T4):T4:=⟨x.a*y.a+x.b*y.c,x.a*y.b+x.b*y.d,x.c*y.a+x.d*y.c,x.c*y.b+x.d*y.d⟩
abbrev T4.uS(x:T4):T4:=⟨x.d,-x.b,-x.c,x.a⟩
def T4.ext'{x y:T4}(h1:x.a=y.a)(h2:x.b=y.b)(h3:x.c=y.c)(h4:x.d=y.d):x=y:=by cases x;cases y;simp only at h1 h2 h3 h4;subst h1 h2 h3 h4;rfl
def T4.assoc(x y z:T4):(x.mul y).mul z=x.mul (y.mul z):=by apply T4.ext'<;>simp only[T4.mul,Int.add_mul,Zb0,ZaL]<;>lk
def T4.one_mul(x:T4):T4.one.mul x=x:=by apply T4.ext'<;>simp[T4.mul,T4.one]
def T4.mul_one(x:T4):x.mul T4.one=x:=by apply T4.ext'<;>simp[T4.mul,T4.one]
def T4.vG(x y:T4):(x.mul y).uS=y.uS.mul x.uS:=by apply T4.ext'<;>simp only[T4.mul,T4.uS,ZaX,Int.mul_neg,Int.neg_neg,ZaU]<;>lk
abbrev qp:Nat->T4
 |0=>T4.one
 |n+1=>T4.qt.mul (qp n)
abbrev lp(s:Sp):T4:=if s.1 then⟨1,s.2,0,1⟩else qp s.2.toNat
abbrev nB(T:T4)(w:List Sp):T4:=w.foldl (λT s=>(lp s).mul T) T
abbrev av(w:List Sp):T4:=nB T4.one w
def VY(w:List Sp):∀T:T4,nB T w=(av w).mul T:=by
 induction w with
 |nil=>exactλT=>(T4.one_mul T).symm
 |cons s w ih =>
  intro T;show nB ((lp s).mul T) w=(nB ((lp s).mul T4.one) w).mul T;rw[ih,ih,T4.mul_one,T4.assoc]
def sT(u v:List Sp):av (u ++ v)=(av v).mul (av u):=by show nB T4.one (u ++ v)=_;unfold nB;rw[Zbr];exact VY v _
def vH(u:List Sp)(s:Sp):av (u ++ [s])=(lp s).mul (av u):=by show nB T4.one (u ++ [s])=_;unfold nB;rw[Zbr];rfl
def t3{k:Int}(h:1<=k/\k<=3):k=1\/k=2\/k=3:=by lk
def VZ{t s:Sp}(ht:cE t)(hs:cE s)(e:t.1=s.1):av (cB t s)=(lp s).mul (lp t):=by
 obtain⟨tb,tk⟩:=t;obtain⟨sb,sk⟩:=s;simp only at e;subst e;cases tb with
 |true =>
  have e2:(lp (true,sk)).mul (lp (true,tk))=⟨1,tk+sk,0,1⟩:=by apply T4.ext'<;>simp[T4.mul,lp]<;>lk
  rw[e2];unfold cB i6;simp only[if_true];split
  ·next h=>rw[h];rfl
  ·rw[show av [(true,tk+sk)]=(lp (true,tk+sk)).mul T4.one from rfl,T4.mul_one];rfl
 |false =>
  have h1:=ht.1 rfl;have h2:=hs.1 rfl;simp only at h1 h2;rcases t3 h1 with rfl|rfl|rfl<;>rcases t3 h2 with rfl|rfl|rfl<;>rfl
def V0{l:List Sp}{s:Sp}(hl:Pl l)(hs:cE s):av (cI l s).reverse=(lp s).mul (av l.reverse):=by
 cases l with
 |nil=>exact vH [] s
 |cons t r =>
  rw[vF];split
  ·next e =>
   rw[List.reverse_append,sT,List.reverse_cons,vH,<- T4.assoc]
   congr 1
   rw[<- VZ hl.1 hs e];unfold cB;split<;>rfl
  ·rw[List.reverse_cons,vH]
def V1{w:List Sp}:∀{l:List Sp},Pl l->(∀s∈w,cE s)->av (w.foldl cI l).reverse=nB (av l.reverse) w:=by
 induction w with
 |nil=>exactλ_ _=>rfl
 |cons s w ih =>
  intro l hl hw;have hs:=hw s (Zae);show av (w.foldl cI (cI l s)).reverse=nB ((lp s).mul (av l.reverse)) w;rw[ih (hl.push hs) λs' h'=>hw s' (Zag _ h'),V0 hl hs]
def PV{w:List Sp}(hw:∀s∈w,cE s):av (pe w).reverse=av w:=V1 (l:=[]) trivial hw
def y6{s:Sp}(h:cE s):lp (nc s)=(lp s).uS:=by
 obtain⟨b,k⟩:=s;cases b with
 |true=>apply T4.ext'<;>simp[T4.uS,lp,nc]
 |false =>
  have h1:=h.1 rfl;simp only at h1;rcases t3 h1 with rfl|rfl|rfl<;>rfl
def LG{w:List Sp}(hw:∀s∈w,cE s):av (kX w)=(av w).uS:=by
 induction w with
 |nil=>rfl
 |cons s w ih =>
  have e:kX (s :: w)=kX w ++ [nc s]:=by unfold kX;simp
  have e2:av (s :: w)=(av w).mul (lp s):=by
   rw[show s :: w=[s] ++ w from rfl,sT]
   congr 1
   exact(vH [] s).trans (T4.mul_one _)
  rw[e,vH,ih λs' h'=>hw s' (Zag _ h'),y6 (hw s (Zae)),e2,T4.vG]
abbrev T4.le(x:T4)(M:Nat):Prop:=x.a.natAbs<=M/\x.b.natAbs<=M/\x.c.natAbs<=M/\x.d.natAbs<=M
def PX{a c k:Int}{M B:Nat}(ha:a.natAbs<=M)(hc:c.natAbs<=M)(hk:k.natAbs<=B):(a+k*c).natAbs<=(B+1)*M:=by
 have h1:(k*c).natAbs<=B*M:=by rw[ZbL];exact Zbg hk hc
 rw[ZbM];lk
def xt{T:T4}{s:Sp}{M B:Nat}(h:T.le M)(hp:cE s)(hs:s.2.natAbs<=B):((lp s).mul T).le ((B+1)*M):=by
 obtain⟨b,k⟩:=s;obtain⟨ha,hb,hc,hd⟩:=h;have hM:M<=(B+1)*M:=by rw[ZbM];lk
 cases b with
 |true =>
  refine⟨?_,?_,?_,?_⟩<;>simp only[T4.mul,lp,if_true,Zcj,Int.zero_mul,ZbN];exact PX ha hc hs;exact PX hb hd hs;lk;lk
 |false =>
  have h1:=hp.1 rfl;simp only at h1;rcases t3 h1 with rfl|rfl|rfl<;>refine⟨?_,?_,?_,?_⟩<;>simp[T4.mul,lp,qp,T4.qt,T4.one]<;>lk
def y8{B:Nat}{w:List Sp}:∀{T:T4} {M:Nat},T.le M->(∀s∈w,cE s/\s.2.natAbs<=B)->(nB T w).le ((B+1) ^ w.length*M):=by
 induction w with
 |nil=>intro T M h _;simpa[nB]using h
 |cons s w ih =>
  intro T M h hw;have hs:=hw s (Zae);have:=ih (xt h hs.1 hs.2) λs' h'=>hw s' (Zag _ h');rw[Zaz,Nat.pow_succ,Nat.mul_assoc];exact this
def V2{B n:Nat}{w:List Sp}(hw:∀s∈w,cE s/\s.2.natAbs<=B)(hn:w.length<=n):(av w).le ((B+1) ^ n):=by
 have h:=y8 (T:=T4.one) (M:=1) ⟨by decide,by decide,by decide,by decide⟩ hw;have h2:(B+1) ^ w.length*1<=(B+1) ^ n:=by rw[Nat.mul_one];exact Zb3 ⋯ hn
 exact⟨Zap h.1 h2,Zap h.2.1 h2,Zap h.2.2.1 h2,Zap h.2.2.2 h2⟩
end ae
namespace ae
abbrev qz:List Int->List Int->Bool
 |[],[]=>false
 |[],_ :: _=>true
 |_ :: _,[]=>false
 |x :: xs,y :: ys=>if x=y then qz xs ys else decide (x<y)
def Hu:∀xs:List Int,qz xs xs=false
 |[]=>rfl
 |x :: xs=>by unfold qz;rw[if_pos rfl];exact Hu xs
def LH:∀{xs ys zs:List Int},qz xs ys=true->qz ys zs=true->qz xs zs=true
 |[],[],_,h,_=>by cases h
 |[],_ :: _,[],_,h=>by cases h
 |[],_ :: _,_ :: _,_,_=>rfl
 |_ :: _,[],_,h,_=>by cases h
 |_ :: _,_ :: _,[],_,h=>by cases h
 |x :: xs,y :: ys,z :: zs,h1,h2=>by
  unfold qz at h1 h2 ⊢;by_cases a:x=y;rw[if_pos a]at h1;by_cases b:y=z;rw[if_pos b]at h2;rw[if_pos (a.trans b)];exact LH h1 h2;rw[if_neg b]at h2;rw[if_neg (λe=>b (a.symm.trans e))];rw[a];exact h2;rw[if_neg a]at h1;have h1:=of_decide_eq_true h1;by_cases b:y=z;rw[<- b,if_neg a];exact decide_eq_true h1;rw[if_neg b]at h2;have h2:=of_decide_eq_true h2;rw[if_neg ⋯];exact decide_eq_true ⋯
def LI:∀{xs ys:List Int},qz xs ys=false->qz ys xs=false->xs=ys
 |[],[],_,_=>rfl
 |[],_ :: _,h,_=>by cases h
 |_ :: _,[],_,h=>by cases h
 |x :: xs,y :: ys,h1,h2=>by
  unfold qz at h1 h2;by_cases a:x=y;subst a;rw[if_pos rfl]at h1 h2;rw[LI h1 h2];rw[if_neg a]at h1;rw[if_neg (Ne.symm a)]at h2;have h1:=of_decide_eq_false h1;have h2:=of_decide_eq_false h2;lk
@[reducible]def bQ:=List Int×List Int
abbrev n9(p q:bQ):Bool:=if p.1=q.1 then qz p.2 q.2 else qz p.1 q.1
def PY(p:bQ):n9 p p=false:=by unfold n9;rw[if_pos rfl];exact Hu _
def V3{p q r:bQ}(h1:n9 p q=true)(h2:n9 q r=true):n9 p r=true:=by unfold n9 at h1 h2 ⊢;by_cases a:p.1=q.1;rw[if_pos a]at h1;by_cases b:q.1=r.1;rw[if_pos b]at h2;rw[if_pos (a.trans b)];exact LH h1 h2;rw[if_neg b]at h2;rw[if_neg (λe=>b (a.symm.trans e)),a];exact h2;rw[if_neg a]at h1;by_cases b:q.1=r.1;rw[<- b,if_neg a];exact h1;rw[if_neg b]at h2;have h:=LH h1 h2;rw[if_neg (λe=>by rw[e,Hu]at h;cases h)];exact h
def V4{p q:bQ}(h1:n9 p q=false)(h2:n9 q p=false):p=q:=by unfold n9 at h1 h2;by_cases a:p.1=q.1;rw[if_pos a]at h1;rw[if_pos a.symm]at h2;exact Prod.ext a (LI h1 h2);rw[if_neg a]at h1;rw[if_neg (Ne.symm a)]at h2;exact absurd (LI h1 h2) a
abbrev oa:List bQ->bQ
 |[]=>([],[])
 |p :: l=>l.foldl (λb q=>if n9 q b then q else b) p
abbrev Lst(l:List bQ)(p:bQ):Prop:=p∈l/\∀q∈l,n9 q p=false
def Lst.unique{l m:List bQ}{p q:bQ}(a:Lst l p)(b:Lst m q)(h:∀x,x∈l↔x∈m):p=q:=V4 (b.2 p ((h p).mp a.1)) (a.2 q ((h q).mpr b.1))
def Lst.step{l:List bQ}{b q:bQ}(h:Lst l b):Lst (l ++ [q]) (if n9 q b then q else b):=by
 split
 ·next hq =>
  refine⟨ZaQ _ (List.mem_singleton_self _),λx hx=>?_⟩;rcases ZaF.mp hx with hx|hx
  ·cases V5:n9 x q with
   |false=>rfl
   |true=>have:=V3 V5 hq;rw[h.2 x hx]at this;cases this
  ·rw[Zat.mp hx];exact PY q
 ·next hq =>
  refine⟨ZbQ _ h.1,λx hx=>?_⟩;rcases ZaF.mp hx with hx|hx
  ·exact h.2 x hx
  ·rw[Zat.mp hx];simpa using hq
def Lst.fold:∀(l pre:List bQ) (b:bQ),Lst pre b->Lst (pre ++ l) (l.foldl (λb q=>if n9 q b then q else b) b)
 |[],pre,b,h=>by rw[Zbt];exact h
 |q :: l,pre,b,h=>by
  have:=Lst.fold l (pre ++ [q]) _ (h.step (q:=q));rw[Zbq]at this;exact this
def LJ{l:List bQ}(h:l≠[]):Lst l (oa l):=by
 cases l with
 |nil=>exact absurd rfl h
 |cons p l=>exact Lst.fold l [p] p ⟨List.mem_singleton_self _,λq hq=>by rw[Zat.mp hq];exact PY p⟩
def V6{l m:List bQ}(h:∀x,x∈l↔x∈m)(hl:l≠[]):oa l=oa m:=by
 have hm:m≠[]:=λe=>by
  obtain⟨x,hx⟩:=ZbA l hl;have:=(h x).mp hx;rw[e]at this;cases this
 exact(LJ hl).unique (LJ hm) h
end ae
namespace ae
def sD(n:Nat):Tn n (upto n):=Zbh _
def Hv{n:Nat}{s:Int}(s0:0<=s)(s1:s<(n:Int)):app (upto n) s=s:=by unfold app;rw[Zaf,Hq ⋯,Option.getD_some];lk
section
variable {n:Nat}{a b c g x y:List Int}
def rM(ha:Tn n a)(hb:Tn n b)(hc:Tn n c):aT (aT a b) c=aT a (aT b c):=by refine qP (n:=n) ((ha.aT hb).aT hc).length (ha.aT (hb.aT hc)).length λs s0 s1=>?_;obtain⟨p0,p1⟩:=ha.app s0 s1;rw[nJ s0 (by rw[(ha.aT hb).length];exact s1),nJ s0 (by rw[ha.length];exact s1),nJ s0 (by rw[ha.length];exact s1),nJ p0 (by rw[hb.length];exact p1)]
def Dp(ha:Tn n a):aT a (inv a)=upto n:=VC ha
def LK(ha:Tn n a):aT (inv a) a=upto n:=VD ha
def vI(ha:Tn n a):aT a (upto n)=a:=by refine qP (n:=n) (ha.aT (sD n)).length ha.length λs s0 s1=>?_;obtain⟨p0,p1⟩:=ha.app s0 s1;rw[nJ s0 (by rw[ha.length];exact s1),Hv p0 p1]
def Dq(ha:Tn n a):aT (upto n) a=a:=by refine qP (n:=n) ((sD n).aT ha).length ha.length λs s0 s1=>?_;rw[nJ s0 (by rw[(sD n).length];exact s1),Hv s0 s1]
def Dr(ha:Tn n a)(hb:Tn n b)(h:aT a b=upto n):inv a=b:=by
 have e:aT (inv a) (aT a b)=b:=by rw[<- rM ha.az ha hb,LK ha,Dq hb]
 rw[h,vI ha.az]at e;exact e
def xu(ha:Tn n a)(hb:Tn n b):inv (aT a b)=aT (inv b) (inv a):=by refine Dr (ha.aT hb) (hb.az.aT ha.az) ?_;rw[rM ha hb (hb.az.aT ha.az),<- rM hb hb.az ha.az,Dp hb,Dq ha.az,Dp ha]
def PZ(ha:Tn n a)(hb:Tn n b):aT (aT a b) (inv b)=a:=by rw[rM ha hb hb.az,Dp hb,vI ha]
def LL(ha:Tn n a)(hb:Tn n b):aT (aT a (inv b)) b=a:=by rw[rM ha hb.az hb,LK hb,vI ha]
def V7(ha:Tn n a)(hb:Tn n b):aT a (aT (inv a) b)=b:=by rw[<- rM ha ha.az hb,Dp ha,Dq hb]
def Ds(hx:Tn n x)(i j:Int):aT (cz x i) (cz x j)=cz x (i+j):=by refine qP (n:=n) ((hx.cz i).aT (hx.cz j)).length (hx.cz (i+j)).length λs s0 s1=>?_;obtain⟨p0,p1⟩:=hx.pw s0 s1 i;have hl:=hx.length;rw[nJ s0 (by rw[Dl,hl];exact s1),qy s0 (by rw[hl];exact s1),qy p0 (by rw[hl];exact p1),qy s0 (by rw[hl];exact s1),hx.pw_add s0 s1,Int.add_comm j i]
def LM(hx:Tn n x):cz x 0=upto n:=by refine qP (n:=n) (hx.cz 0).length (sD n).length λs s0 s1=>?_;rw[qy s0 (by rw[hx.length];exact s1),Hv s0 s1];rfl
def Dt(hx:Tn n x):cz x 1=x:=by refine qP (n:=n) (hx.cz 1).length hx.length λs s0 s1=>?_;rw[qy s0 (by rw[hx.length];exact s1)];rfl
def LN(hx:Tn n x)(k:Int):inv (cz x k)=cz x (-k):=Dr (hx.cz k) (hx.cz (-k)) (by rw[Ds hx,Int.add_right_neg,LM hx])
def LO(hx:Tn n x):cz x (-1)=inv x:=by rw[<- LN hx,Dt hx]
def P0(hx:Tn n x)(k:Int):cz (inv x) k=cz x (-k):=by refine qP (n:=n) (hx.az.cz k).length (hx.cz (-k)).length λs s0 s1=>?_;rw[qy s0 (by rw[hx.az.length];exact s1),qy s0 (by rw[hx.length];exact s1)];unfold pw;by_cases h:0<=k;rw[if_pos h];by_cases h0:k=0;subst h0;rfl;rw[if_neg ⋯,show -(-k)=k by lk];rw[if_neg h,if_pos ⋯,hx.inv_inv]
def P1(ha:Tn n a)(hb:Tn n b)(hg:Tn n g):aT (anew a g) (anew b g)=anew (aT a b) g:=by unfold anew;have hi:=hg.az;rw[rM (hi.aT ha) hg ((hi.aT hb).aT hg),rM hi hb hg,V7 hg (hb.aT hg),rM hi ha (hb.aT hg),<- rM ha hb hg,<- rM hi (ha.aT hb) hg]
def V8(hg:Tn n g):anew (upto n) g=upto n:=by unfold anew;rw[vI hg.az,LK hg]
def P4(ha:Tn n a)(hg:Tn n g):inv (anew a g)=anew (inv a) g:=Dr (ha.anew hg) (ha.az.anew hg) (by rw[P1 ha ha.az hg,Dp ha,V8 hg])
def Bp(hx:Tn n x)(hg:Tn n g){i:Int}(i0:0<=i)(i1:i<(n:Int)):∀k,aS (anew x g) (app g i) k=app g (aS x i k)
 |0=>rfl
 |k+1=>by
  obtain⟨p0,p1⟩:=hx.aS i0 i1 k;show app (anew x g) (aS (anew x g) (app g i) k)=app g (app x (aS x i k));rw[Bp hx hg i0 i1 k,hx.dy hg p0 p1]
def V9(hx:Tn n x)(hg:Tn n g){i:Int}(i0:0<=i)(i1:i<(n:Int))(k:Int):pw (anew x g) k (app g i)=app g (pw x k i):=by unfold pw;split;exact Bp hx hg i0 i1 _;rw[P4 hx hg];exact Bp hx.az hg i0 i1 _
def Wa(hx:Tn n x)(hg:Tn n g)(k:Int):cz (anew x g) k=anew (cz x k) g:=by refine qP (n:=n) ((hx.anew hg).cz k).length ((hx.cz k).anew hg).length λs s0 s1=>?_;obtain⟨p0,p1⟩:=hg.j8 s0 s1;rw[qy s0 (by rw[(hx.anew hg).length];exact s1),(hx.cz k).iQ hg s0 s1,qy p0 (by rw[hx.length];exact p1),<- V9 hx hg p0 p1,hg.bz s0 s1]
end
abbrev Vf(n:Nat)(p:bQ):Prop:=Tn n p.1/\Tn n p.2
abbrev bW(n:Nat)(p q:bQ):Prop:=∃g,Tn n g/\q=(anew p.1 g,anew p.2 g)
abbrev Sh(k:Int)(p:bQ):bQ:=(p.1,shr p.1 p.2 k)
abbrev Qt(p:bQ):bQ:=(inv p.2,p.1)
section
variable {n:Nat}{p q r:bQ}
def Vf.sh(h:Vf n p)(k:Int):Vf n (Sh k p):=⟨h.1,h.1.shr h.2 k⟩
def Vf.qt(h:Vf n p):Vf n (Qt p):=⟨h.2.az,h.1⟩
def bW.refl(h:Vf n p):bW n p p:=⟨upto n,sD n,by
 have e:∀a:List Int,Tn n a->anew a (upto n)=a:=λa ha=>by
  unfold anew;rw[Dr (sD n) (sD n) (vI (sD n)),Dq ha,vI ha]
 rw[e _ h.1,e _ h.2]⟩
def bW.symm(h:Vf n p)(a:bW n p q):bW n q p:=by obtain⟨g,hg,rfl⟩:=a;exact⟨inv g,hg.az,by show p=(anew (anew p.1 g) (inv g),anew (anew p.2 g) (inv g));rw[h.1.oR hg,h.2.oR hg]⟩
def bW.trans(h:Vf n p)(a:bW n p q)(b:bW n q r):bW n p r:=by obtain⟨g,hg,rfl⟩:=a;obtain⟨f,hf,rfl⟩:=b;exact⟨aT g f,hg.aT hf,by show(anew (anew p.1 g) f,anew (anew p.2 g) f)=_;rw[h.1.kF hg hf,h.2.kF hg hf]⟩
def bW.sh(h:Vf n p)(a:bW n p q)(k:Int):bW n (Sh k p) (Sh k q):=by obtain⟨g,hg,rfl⟩:=a;refine⟨g,hg,?_⟩;show(anew p.1 g,aT (cz (anew p.1 g) (-k)) (anew p.2 g))=(anew p.1 g,anew (aT (cz p.1 (-k)) p.2) g);rw[Wa h.1 hg,P1 (h.1.cz _) h.2 hg]
def bW.qt(h:Vf n p)(a:bW n p q):bW n (Qt p) (Qt q):=by obtain⟨g,hg,rfl⟩:=a;refine⟨g,hg,?_⟩;show(inv (anew p.2 g),anew p.1 g)=(anew (inv p.2) g,anew p.1 g);rw[P4 h.2 hg]
def Du(h:Vf n p)(j k:Int):Sh k (Sh j p)=Sh (j+k) p:=by show(p.1,shr p.1 (shr p.1 p.2 j) k)=(p.1,shr p.1 p.2 (j+k));rw[h.1.rK h.2]
def vJ(h:Vf n p):Sh 0 p=p:=by show(p.1,shr p.1 p.2 0)=p;rw[h.1.qh h.2]
abbrev Q2(p:bQ):bQ:=(inv p.1,inv p.2)
def Dw(p:bQ):Qt (Qt p)=Q2 p:=rfl
def Dx(h:Vf n p):Q2 (Q2 p)=p:=by show(inv (inv p.1),inv (inv p.2))=p;rw[h.1.inv_inv,h.2.inv_inv]
def Vf.q2(h:Vf n p):Vf n (Q2 p):=⟨h.1.az,h.2.az⟩
def bW.q2(h:Vf n p)(a:bW n p q):bW n (Q2 p) (Q2 q):=bW.qt h.qt (bW.qt h a)
def xv(h:Vf n p)(k:Int):bW n (Q2 (Sh k p)) (Sh k (Q2 p)):=by
 have hx:=h.1;have hy:=h.2;refine⟨cz p.1 (-k),hx.cz _,?_⟩;show(inv p.1,aT (cz (inv p.1) (-k)) (inv p.2))=(anew (inv p.1) (cz p.1 (-k)),anew (inv (aT (cz p.1 (-k)) p.2)) (cz p.1 (-k)));have e1:anew (inv p.1) (cz p.1 (-k))=inv p.1:=by
  unfold anew;rw[LN hx,<- LO hx,Ds hx,Ds hx]
  congr 1;lk
 have e2:anew (inv (aT (cz p.1 (-k)) p.2)) (cz p.1 (-k))=aT (cz (inv p.1) (-k)) (inv p.2):=by
  unfold anew;rw[xu (hx.cz _) hy,P0 hx,LN hx,rM (hx.cz _) (hy.az.aT (hx.cz _)) (hx.cz _),rM hy.az (hx.cz _) (hx.cz _),Ds hx,show - -k + -k=0 by lk,LM hx,vI hy.az]
 rw[e1,e2]
def Dy(h:Vf n p):bW n (Qt (Sh 1 (Qt p))) (Sh (-1) (Qt (Sh (-1) p))):=by
 have hx:=h.1;have hy:=h.2;have l:Qt (Sh 1 (Qt p))=(aT (inv p.1) (inv p.2),inv p.2):=by
  show(inv (aT (cz (inv p.2) (-1)) p.1),inv p.2)=_;rw[P0 hy,show -(-1:Int)=1 by lk,Dt hy,xu hy hx]
 have r:Sh (-1) (Qt (Sh (-1) p))=(aT (inv p.2) (inv p.1),inv p.2):=by
  show(inv (aT (cz p.1 (-(-1))) p.2),aT (cz (inv (aT (cz p.1 (-(-1))) p.2)) (-(-1))) p.1)=_;have hf:=hx.aT hy;rw[show -(-1:Int)=1 by lk,Dt hx,Dt hf.az,xu hx hy,LL hy.az hx]
 refine⟨p.2,hy,?_⟩;rw[l,r];show(aT (inv p.2) (inv p.1),inv p.2)=(aT (aT (inv p.2) (aT (inv p.1) (inv p.2))) p.2,aT (aT (inv p.2) (inv p.2)) p.2);rw[<- rM hy.az hx.az hy.az,LL (hy.az.aT hx.az) hy,LL hy.az hy]
def y9(h:Vf n p):bW n (Qt (Sh (-1) (Qt p))) (Q2 (Sh 1 (Qt (Sh 1 p)))):=by
 have hx:=h.1;have hy:=h.2;have hu:=hx.az.aT hy;have l:Qt (Sh (-1) (Qt p))=(aT (inv p.1) p.2,inv p.2):=by
  show(inv (aT (cz (inv p.2) (-(-1))) p.1),inv p.2)=_;rw[show -(-1:Int)=1 by lk,Dt hy.az,xu hy.az hx,hy.inv_inv]
 have r:Q2 (Sh 1 (Qt (Sh 1 p)))=(aT (inv p.1) p.2,aT (inv p.1) (aT (inv p.2) p.1)):=by
  show(inv (inv (aT (cz p.1 (-1)) p.2)),inv (aT (cz (inv (aT (cz p.1 (-1)) p.2)) (-1)) p.1))=_;rw[LO hx,LO hu.az,hu.inv_inv,xu hu hx,xu hx.az hy,hx.inv_inv]
 refine⟨aT (inv p.2) p.1,hy.az.aT hx,?_⟩;rw[l,r];show(aT (inv p.1) p.2,aT (inv p.1) (aT (inv p.2) p.1))=(aT (aT (inv (aT (inv p.2) p.1)) (aT (inv p.1) p.2)) (aT (inv p.2) p.1),aT (aT (inv (aT (inv p.2) p.1)) (inv p.2)) (aT (inv p.2) p.1));have eg:inv (aT (inv p.2) p.1)=aT (inv p.1) p.2:=by rw[xu hy.az hx,hy.inv_inv]
 have Wb:aT (inv p.2) p.1=inv (aT (inv p.1) p.2):=by rw[xu hx.az hy,hx.inv_inv]
 rw[eg];have e1:aT (aT (aT (inv p.1) p.2) (aT (inv p.1) p.2)) (aT (inv p.2) p.1)=aT (inv p.1) p.2:=by rw[Wb,PZ hu hu]
 have e2:aT (aT (aT (inv p.1) p.2) (inv p.2)) (aT (inv p.2) p.1)=aT (inv p.1) (aT (inv p.2) p.1):=by rw[PZ hx.az hy]
 rw[e1,e2]
end
abbrev act:Int->List Int->bQ->bQ
 |k,[],p=>Sh k p
 |k,j :: ks,p=>act j ks (Qt (Sh k p))
abbrev tS(k:Int):T4:=⟨1,k,0,1⟩
abbrev iZ(k:Int):T4:=⟨0,-1,1,k⟩
abbrev iR:Int->List Int->T4
 |k,[]=>tS k
 |k,j :: ks=>(iR j ks).mul (iZ k)
abbrev kY(e:Bool)(M:T4):T4:=if e then⟨-M.a,-M.b,-M.c,-M.d⟩else M
abbrev pX(e:Bool)(p:bQ):bQ:=if e then Q2 p else p
def Dz(e f:Bool)(M:T4):kY e (kY f M)=kY (e.xor f) M:=by cases e<;>cases f<;>simp[kY]
def DA(e:Bool)(M N:T4):(kY e M).mul N=kY e (M.mul N):=by cases e;rfl;unfold kY T4.mul;simp only[if_true];congr 1<;>grind
section
variable {n:Nat}{p q r:bQ}
def Vf.act:∀{ks:List Int} {k:Int} {p:bQ},Vf n p->Vf n (ae.act k ks p)
 |[],k,p,h=>h.sh k
 |j :: ks,k,p,h=>Vf.act (ks:=ks) (h.sh k).qt
def bW.act:∀{ks:List Int} {k:Int} {p q:bQ},Vf n p->bW n p q->bW n (ae.act k ks p) (ae.act k ks q)
 |[],k,p,q,h,a=>bW.sh h a k
 |j :: ks,k,p,q,h,a=>bW.act (ks:=ks) (h.sh k).qt (bW.qt (h.sh k) (bW.sh h a k))
def bW.pX(h:Vf n p)(a:bW n p q)(e:Bool):bW n (ae.pX e p) (ae.pX e q):=by cases e;exact a;exact bW.q2 h a
def Hw(h:Vf n p)(e f:Bool):pX e (pX f p)=pX (e.xor f) p:=by cases e<;>cases f;rfl;rfl;rfl;exact Dx h
def DB:∀{ks:List Int} {k:Int} {p:bQ},Vf n p->bW n (act k ks (Q2 p)) (Q2 (act k ks p))
 |[],k,p,h=>bW.symm (h.sh k).q2 (xv h k)
 |j :: ks,k,p,h=>by
  have h1:bW n (Qt (Sh k (Q2 p))) (Qt (Q2 (Sh k p))):=bW.qt (h.q2.sh k) (bW.symm (h.sh k).q2 (xv h k));have h2:=bW.act (ks:=ks) (k:=j) ((h.q2.sh k).qt) h1;have h3:=DB (ks:=ks) (k:=j) (h.sh k).qt;exact bW.trans (Vf.act (ks:=j :: ks) (k:=k) h.q2) h2 h3
def Hx{ks:List Int}{j k:Int}(h:Vf n p):act k ks (Sh j p)=act (j+k) ks p:=by
 cases ks with
 |nil=>exact Du h j k
 |cons i ks=>show act i ks (Qt (Sh k (Sh j p)))=act i ks (Qt (Sh (j+k) p));rw[Du h]
def P5{ks:List Int}{k:Int}(h:Vf n p):act k ks (Qt p)=act 0 (k :: ks) p:=by show _=act k ks (Qt (Sh 0 p));rw[vJ h]
def Wc{a b:Int}{ks:List Int}{j:Int}(hj:j=0\/j=1\/j=-1):∃(k':Int) (ks':List Int) (f:Bool),ks'.length<ks.length+2/\iR a (j :: b :: ks)=kY f (iR k' ks')/\∀{n:Nat} {p:bQ},Vf n p->bW n (act a (j :: b :: ks) p) (pX f (act k' ks' p)):=by
 rcases hj with rfl|rfl|rfl
 refine⟨a+b,ks,true,by lk,?_,λ{n p} h=>?_⟩;cases ks with
 |nil=>simp[iR,kY,T4.mul,tS,iZ];lk
 |cons i ks =>
  show(((iR i ks).mul (iZ b)).mul (iZ 0)).mul (iZ a)=kY true ((iR i ks).mul (iZ (a+b)));rw[T4.assoc,T4.assoc];have:(iZ b).mul ((iZ 0).mul (iZ a))=kY true (iZ (a+b)):=by simp[kY,T4.mul,iZ];lk
  rw[this];unfold kY T4.mul;simp only[if_true];congr 1<;>grind
 show bW n (act b ks (Qt (Sh 0 (Qt (Sh a p))))) (Q2 (act (a+b) ks p));rw[vJ (h.sh a).qt,Dw,<- Hx h];exact DB (h.sh a);refine⟨a-1,(b-1) :: ks,false,by simp,?_,λ{n p} h=>?_⟩;cases ks with
 |nil=>simp[iR,kY,T4.mul,tS,iZ];refine⟨?_,?_⟩<;>grind
 |cons i ks =>
  show(((iR i ks).mul (iZ b)).mul (iZ 1)).mul (iZ a)=((iR i ks).mul (iZ (b-1))).mul (iZ (a-1));rw[T4.assoc,T4.assoc,T4.assoc];have:(iZ b).mul ((iZ 1).mul (iZ a))=(iZ (b-1)).mul (iZ (a-1)):=by simp[T4.mul,iZ];refine⟨?_,?_,?_⟩<;>grind
  rw[this]
 show bW n (act b ks (Qt (Sh 1 (Qt (Sh a p))))) (act (b-1) ks (Qt (Sh (a-1) p)));have h1:=bW.act (ks:=ks) (k:=b) ((h.sh a).qt.sh 1).qt (Dy (h.sh a));rw[Hx ((h.sh a).sh (-1)).qt,Du h,show -1+b=b-1 by lk,show a + -1=a-1 by lk]at h1;exact h1;refine⟨a+1,(b+1) :: ks,true,by simp,?_,λ{n p} h=>?_⟩;cases ks with
 |nil=>simp[iR,kY,T4.mul,tS,iZ];refine⟨?_,?_⟩<;>grind
 |cons i ks =>
  show(((iR i ks).mul (iZ b)).mul (iZ (-1))).mul (iZ a)=kY true (((iR i ks).mul (iZ (b+1))).mul (iZ (a+1)));rw[T4.assoc,T4.assoc,T4.assoc];have:(iZ b).mul ((iZ (-1)).mul (iZ a))=kY true ((iZ (b+1)).mul (iZ (a+1))):=by simp[kY,T4.mul,iZ];refine⟨?_,?_,?_⟩<;>grind
  rw[this];unfold kY T4.mul;simp only[if_true];congr 1<;>grind
 show bW n (act b ks (Qt (Sh (-1) (Qt (Sh a p))))) (Q2 (act (b+1) ks (Qt (Sh (a+1) p))));have h1:=bW.act (ks:=ks) (k:=b) ((h.sh a).qt.sh (-1)).qt (y9 (h.sh a));have h2:=DB (ks:=ks) (k:=b) (((h.sh a).sh 1).qt.sh 1);rw[Hx ((h.sh a).sh 1).qt,Du h,show 1+b=b+1 by lk]at h2;have h3:=bW.trans (Vf.act (ks:=ks) (k:=b) ((h.sh a).qt.sh (-1)).qt) h1 (by rw[Du h]at *;exact h2);exact h3
abbrev big:List Int->Prop
 |[]=>True
 |[_]=>True
 |j :: b :: ks=>(2<=j\/j<=-2)/\big (b :: ks)
def P6:∀(ks:List Int) (k:Int),big ks\/∃(k':Int) (ks':List Int) (f:Bool),ks'.length<ks.length/\iR k ks=kY f (iR k' ks')/\∀{n:Nat} {p:bQ},Vf n p->bW n (act k ks p) (pX f (act k' ks' p))
 |[],_=>.inl trivial
 |[_],_=>.inl trivial
 |j :: b :: ks,k=>by
  by_cases hj:j=0\/j=1\/j=-1;obtain⟨k',ks',f,hl,hm,ha⟩:=Wc (a:=k) (b:=b) (ks:=ks) hj;exact .inr ⟨k',ks',f,by simpa using hl,hm,ha⟩;rcases P6 (b :: ks) j with h|⟨k',ks',f,hl,hm,ha⟩
  exact .inl ⟨by lk,h⟩;refine .inr ⟨k,k' :: ks',f,by simpa using hl,?_,λ{n p} h=>?_⟩;show(iR j (b :: ks)).mul (iZ k)=kY f ((iR k' ks').mul (iZ k));rw[hm,DA];exact ha (h.sh k).qt
def P7:∀(ks:List Int) (k:Int),big ks->(ks=[]\/2<=k\/k<=-2)->(iR k ks).c.natAbs<(iR k ks).d.natAbs
 |[],k,_,_=>by show(0:Int).natAbs<(1:Int).natAbs;decide
 |j :: ks,k,h,hk=>by
  have hk:2<=k\/k<=-2:=by rcases hk with hk|hk;cases hk;exact hk
  have hj:ks=[]\/2<=j\/j<=-2:=by
   cases ks with
   |nil=>exact .inl rfl
   |cons b ks=>exact .inr h.1
  have hb:big ks:=by
   cases ks with
   |nil=>trivial
   |cons b ks=>exact h.2
  have ih:=P7 ks j hb hj;show((iR j ks).c*0+(iR j ks).d*1).natAbs<((iR j ks).c * -1+(iR j ks).d*k).natAbs;generalize (iR j ks).c=c at ih;generalize (iR j ks).d=d at ih;rw[Int.mul_zero,ZbN,Zcy];have e:(d*k).natAbs=d.natAbs*k.natAbs:=ZbL d k;have e2:d.natAbs*2<=d.natAbs*k.natAbs:=Nat.mul_le_mul_left _ ⋯;lk
def DC{ks:List Int}{k:Int}(h:big ks)(hn:ks≠[]):(iR k ks).c≠0:=by
 cases ks with
 |nil=>exact absurd rfl hn
 |cons j ks =>
  have hj:ks=[]\/2<=j\/j<=-2:=by
   cases ks with
   |nil=>exact .inl rfl
   |cons b ks=>exact .inr h.1
  have hb:big ks:=by
   cases ks with
   |nil=>trivial
   |cons b ks=>exact h.2
  have ih:=P7 ks j hb hj;show(iR j ks).c*0+(iR j ks).d*1≠0;lk
def LP:∀(m:Nat) (ks:List Int) (k:Int),ks.length<=m->∀(e:Bool),iR k ks=kY e T4.one->∀{n:Nat} {p:bQ},Vf n p->bW n (act k ks p) (pX e p):=by
 intro m
 induction m with
 |zero =>
  intro ks k hl e hm n p h;have:ks=[]:=ZbE ⋯;subst this;have hm:(⟨1,k,0,1⟩:T4)=kY e T4.one:=hm;cases e with
  |false =>
   have hk:k=0:=congrArg T4.b hm;subst hk;show bW n (Sh 0 p) p;rw[vJ h];exact bW.refl h
  |true=>exact absurd (congrArg T4.a hm) (show ¬(1:Int)=-1 by decide)
 |succ m ih =>
  intro ks k hl e hm n p h;by_cases hn:ks=[];subst hn;exact ih [] k (ZaO _) e hm h;rcases P6 ks k with hb|⟨k',ks',f,hl',hm',ha⟩
  have:=DC (k:=k) hb hn
  rw[hm]at this;exact absurd (by cases e<;>rfl) this;have hm2:iR k' ks'=kY (f.xor e) T4.one:=by
   have:kY f (iR k ks)=iR k' ks':=by rw[hm',Dz,ZcE];rfl
   rw[<- this,hm,Dz]
  have h1:=ih ks' k' ⋯ (f.xor e) hm2 h;have h2:=bW.trans h.act (ha h) (bW.pX h.act h1 f);rw[Hw h,<- Bool.xor_assoc,ZcE,Bool.false_xor]at h2;exact h2
end
abbrev pf:Nat->bQ->bQ
 |0,p=>p
 |j+1,p=>Qt (pf j p)
abbrev stM(p:bQ)(s:Sp):bQ:=if s.1=true then Sh s.2 p else pf s.2.toNat p
abbrev gI(p:bQ)(w:List Sp):bQ:=w.foldl stM p
section
variable {n:Nat}{p q:bQ}
def Vf.pf(h:Vf n p):∀j,Vf n (ae.pf j p)
 |0=>h
 |j+1=>(Vf.pf h j).qt
def Vf.st(h:Vf n p)(s:Sp):Vf n (stM p s):=by unfold stM;split;exact h.sh _;exact h.pf _
def Vf.ld:∀{w:List Sp} {p:bQ},Vf n p->Vf n (gI p w)
 |[],_,h=>h
 |s :: w,p,h=>Vf.ld (w:=w) (h.st s)
def bW.pf(h:Vf n p)(a:bW n p q):∀j,bW n (ae.pf j p) (ae.pf j q)
 |0=>a
 |j+1=>bW.qt (h.pf j) (bW.pf h a j)
def bW.st(h:Vf n p)(a:bW n p q)(s:Sp):bW n (stM p s) (stM q s):=by unfold stM;split;exact bW.sh h a _;exact bW.pf h a _
def bW.ld:∀{w:List Sp} {p q:bQ},Vf n p->bW n p q->bW n (gI p w) (gI q w)
 |[],_,_,_,a=>a
 |s :: w,p,q,h,a=>bW.ld (w:=w) (h.st s) (bW.st h a s)
def Hy(p:bQ)(u v:List Sp):gI p (u ++ v)=gI (gI p u) v:=by unfold gI;rw[Zbr]
end
def P8(s:Sp)(w:List Sp):av (s :: w)=(av w).mul (lp s):=by have:=sT [s] w;rw[show av [s]=(lp s).mul T4.one from rfl,T4.mul_one]at this;exact this
def P9(e:Bool)(M N:T4):M.mul (kY e N)=kY e (M.mul N):=by cases e;rfl;unfold kY T4.mul;simp only[if_true];congr 1<;>grind
def za(ks:List Int)(j k:Int):(iR k ks).mul (tS j)=iR (j+k) ks:=by
 cases ks with
 |nil=>simp[iR,T4.mul,tS]
 |cons i ks =>
  show((iR i ks).mul (iZ k)).mul (tS j)=(iR i ks).mul (iZ (j+k));rw[T4.assoc]
  congr 1
  simp[T4.mul,iZ,tS]
def zb(ks:List Int)(k:Int):(iR k ks).mul T4.qt=iR 0 (k :: ks):=rfl
def Qa:∀{w:List Sp},(∀s∈w,cE s)->∃(k:Int) (ks:List Int) (f:Bool),av w=kY f (iR k ks)/\∀{n:Nat} {p:bQ},Vf n p->bW n (gI p w) (pX f (act k ks p))
 |[],_=>⟨0,[],false,rfl,λ{n p} h=>by show bW n p (Sh 0 p);rw[vJ h];exact bW.refl h⟩
 |s :: w,hw=>by
  obtain⟨k,ks,f,hm,ha⟩:=Qa (w:=w) λx hx=>hw x (Zag _ hx);have hs:=hw s Zae;obtain⟨b,j⟩:=s;rw[P8,hm];cases b with
  |true =>
   refine⟨j+k,ks,f,?_,λ{n p} h=>?_⟩;rw[DA];congr 1;exact za ks j k
   have:=ha (h.sh j)
   rw[Hx h]at this;exact this
  |false =>
   have c:j=1\/j=2\/j=3:=t3 (hs.1 rfl);rcases c with rfl|rfl|rfl
   refine⟨0,k :: ks,f,?_,λ{n p} h=>?_⟩;rw[DA];congr 1
   have:=ha h.qt
   rw[P5 h]at this;exact this;refine⟨k,ks,!f,?_,λ{n p} h=>?_⟩;rw[DA,show lp (false,2)=kY true T4.one from rfl,P9,T4.mul_one,Dz];cases f<;>rfl;have h1:=ha h.q2;have h2:=bW.trans (Vf.ld (w:=w) h.q2) h1 (bW.pX (Vf.act h.q2) (DB h) f);have e:pX f (Q2 (act k ks p))=pX (!f) (act k ks p):=by
    have:=Hw (p:=act k ks p) h.act f true;rw[Bool.xor_true]at this;exact this
   rw[e]at h2;exact h2;refine⟨0,k :: ks,!f,?_,λ{n p} h=>?_⟩;have e3:lp (false,3)=kY true T4.qt:=rfl;rw[DA,e3,P9,Dz,zb];cases f<;>rfl;have h1:=ha (p:=Q2 (Qt p)) h.qt.q2;have h2:=bW.trans (Vf.ld (w:=w) h.qt.q2) h1 (bW.pX (Vf.act h.qt.q2) (DB h.qt) f);have e:pX f (Q2 (act k ks (Qt p)))=pX (!f) (act 0 (k :: ks) p):=by
    have:=Hw (p:=act k ks (Qt p)) h.qt.act f true;rw[Bool.xor_true]at this;rw[<- P5 h];exact this
   rw[e]at h2;exact h2
def Qb{w:List Sp}(hw:∀s∈w,cE s)(h1:av w=T4.one){n:Nat}{p:bQ}(h:Vf n p):bW n (gI p w) p:=by
 obtain⟨k,ks,f,hm,ha⟩:=Qa hw;have e:iR k ks=kY f T4.one:=by
  have:kY f (av w)=iR k ks:=by rw[hm,Dz,ZcE];rfl
  rw[<- this,h1]
 have h2:=LP ks.length ks k (Zad _) f e h;have h3:=bW.trans (Vf.ld h) (ha h) (bW.pX h.act h2 f);rw[Hw h,ZcE]at h3;exact h3
def Hz{w:List Sp}(hw:∀s∈w,cE s):∀s∈kX w,cE s:=λs hs=>by
 unfold kX at hs;obtain⟨t,ht,rfl⟩:=Zah.mp (Zb8.mp hs);exact Dn (hw t ht)
def Qc{w:List Sp}(hw:∀s∈w,cE s):av (w ++ kX w)=T4.one:=by
 have hp:∀s∈w ++ kX w,cE s:=λs hs=>by
  rcases ZaF.mp hs with hs|hs
  exact hw s hs;exact Hz hw s hs
 rw[<- PV hp,VS hw];rfl
def xw{w:List Sp}(hw:∀s∈w,cE s):(av w).a*(av w).d-(av w).b*(av w).c=1:=by have:=Qc hw;rw[sT,LG hw]at this;have h:=congrArg T4.a this;have h:(av w).d*(av w).a + -(av w).b*(av w).c=1:=h;rw[ZaU (av w).d,ZaX]at h;lk
def Qd{M:T4}(h:M.a*M.d-M.b*M.c=1):M.mul M.uS=T4.one/\M.uS.mul M=T4.one:=by constructor<;>(apply T4.ext'<;>simp[T4.mul,T4.uS,T4.one]<;>grind)
def LQ{u w:List Sp}(hu:∀s∈u,cE s)(hw:∀s∈w,cE s)(e:av u=av w){n:Nat}{p:bQ}(h:Vf n p):bW n (gI p u) (gI p w):=by
 have hb:=Hz hw
 have h1:bW n (gI p (u ++ kX w)) p:=Qb (λs hs=>by
  rcases ZaF.mp hs with hs|hs
  exact hu s hs
  exact hb s hs) (by rw[sT,e,<- sT];exact Qc hw) h
 rw[Hy]at h1;have h2:=bW.ld (w:=w) (Vf.ld (Vf.ld h)) h1;rw[<- Hy]at h2
 have h3:bW n (gI (gI p u) (kX w ++ w)) (gI p u):=Qb (λs hs=>by
  rcases ZaF.mp hs with hs|hs
  exact hb s hs
  exact hw s hs) (by rw[sT,LG hw];exact(Qd (xw hw)).1) (Vf.ld h)
 exact bW.trans (Vf.ld h) (bW.symm (Vf.ld (Vf.ld h)) h3) h2
abbrev uT(p:bQ)(n:Nat)(s:Int):bQ:=(num p.1 (bf p.1 p.2 s n),num p.2 (bf p.1 p.2 s n))
abbrev rN(n:Nat)(p:bQ):bQ:=oa ((upto n).map (uT p n))
def Wd{n:Nat}{p q:bQ}(n0:0<n)(h:Vf n p)(a:bW n p q):rN n p=rN n q:=by
 obtain⟨g,hg,rfl⟩:=a;have key:∀s:Int,0<=s->s<(n:Int)->uT (anew p.1 g,anew p.2 g) n (app g s)=uT p n s:=λs s0 s1=>by
  show(num (anew p.1 g) (bf (anew p.1 g) (anew p.2 g) (app g s) n),num (anew p.2 g) (bf (anew p.1 g) (anew p.2 g) (app g s) n))=_;have hb:=sS h.1 h.2 s0 s1 n;rw[LF h.1 h.2 hg s0 s1 n,PQ h.1 hg hb,PQ h.2 hg hb];rfl
 refine V6 (λx=>?_) (λe=>?_);constructor;intro hx;obtain⟨s,hs,rfl⟩:=Zah.mp hx;obtain⟨s0,s1⟩:=ll.mp hs;exact Zah.mpr ⟨app g s,ll.mpr (hg.app s0 s1),key s s0 s1⟩;intro hx;obtain⟨t,ht,rfl⟩:=Zah.mp hx;obtain⟨t0,t1⟩:=ll.mp ht;obtain⟨p0,p1⟩:=hg.j8 t0 t1;refine Zah.mpr ⟨app (inv g) t,ll.mpr ⟨p0,p1⟩,?_⟩;have:=key (app (inv g) t) p0 p1;rw[hg.bz t0 t1]at this;exact this.symm
 have:=congrArg List.length e
 rw[Zaa,qN]at this;simp at this;lk
end ae
namespace ae
section
variable {n:Nat}{p q:bQ}{g h:List Int}{s t:Int}
structure Wh(n:Nat)(p:bQ):Prop where
 v:Vf n p
 all:∀x:Int,0<=x->x<(n:Int)->iP p.1 p.2 x
def Wh.bf(w:Wh n p)(s0:0<=s)(s1:s<(n:Int)):Tn n (bf p.1 p.2 s n):=LD w.v.1 w.v.2 s0 s1 w.all
def zc{α β:Type}{f:α->β}:∀{l:List α},l.Nodup->(∀a∈l,∀b∈l,f a=f b->a=b)->(l.map f).Nodup
 |[],_,_=>List.nodup_nil
 |x :: l,nd,inj=>by
  obtain⟨h1,h2⟩:=Zbc.mp nd;rw[Zay,Zbc];refine⟨λhm=>?_,zc h2 λa ha b hb=>inj a (Zag _ ha) b (Zag _ hb)⟩;obtain⟨y,hy,e⟩:=Zah.mp hm;exact h1 (inj y (Zag _ hy) x Zae e ▸ hy)
def HA(xs ys:List Int):∀k,∀y∈bf xs ys 0 k,iP xs ys y
 |0,y,hy=>by rw[Zat.mp (show y∈[(0:Int)]from hy)];exact .zero
 |k+1,y,hy=>by
  have hy':y∈(match (bf xs ys 0 k)[k]? with|some x=>visit xs ys (bf xs ys 0 k) x|none=>bf xs ys 0 k):=hy;split at hy'
  ·next z hz =>
   have xx:=HA xs ys k z (Zak hz);rcases rJ.mp hy' with hy'|rfl
   ·rcases rJ.mp hy' with hy'|rfl
    ·exact HA xs ys k y hy'
    ·exact xx.r
   ·exact xx.u
  ·exact HA xs ys k y hy'
def xy(w:Wh n p)(v:Vf n q)(n0:0<n)(h:∀F:List Int,F.Nodup->(∀x∈F,0<=x/\x<(n:Int))->Cl q.1 q.2 F->Cl p.1 p.2 F):Wh n q:=by refine⟨v,λx x0 x1=>HA q.1 q.2 n x ?_⟩;have c:=h (bf q.1 q.2 0 n) (yW _ _ _ _) (sS v.1 v.2 ∅ ⋯ n) (LB v.1 v.2 ∅ ⋯);refine c.all ?_ (w.all x x0 x1);have:=Bn q.1 q.2 0 0 n;rw[Zcc]at this;exact this.subset (show(0:Int)∈[(0:Int)] by simp)
def Qe{zs F:List Int}(hz:Tn n zs)(nd:F.Nodup)(hb:∀x∈F,0<=x/\x<(n:Int))(hc:∀x∈F,app zs x∈F):∀x∈F,app (inv zs) x∈F:=λx hx=>by
 obtain⟨x0,x1⟩:=hb x hx;obtain⟨a0,a1⟩:=hz.j8 x0 x1;exact yX hz nd hb hc a0 a1 (by rw[hz.bz x0 x1];exact hx)
def LR{zs F:List Int}(hc:∀x∈F,app zs x∈F){x:Int}(hx:x∈F):∀k,aS zs x k∈F
 |0=>hx
 |k+1=>hc _ (LR hc hx k)
def DE{zs F:List Int}(hz:Tn n zs)(nd:F.Nodup)(hb:∀x∈F,0<=x/\x<(n:Int))(hc:∀x∈F,app zs x∈F)(k:Int){x:Int}(hx:x∈F):pw zs k x∈F:=by unfold pw;split;exact LR hc hx _;exact LR (Qe hz nd hb hc) hx _
def Wh.sh(w:Wh n p)(n0:0<n)(k:Int):Wh n (Sh k p):=by
 refine xy w (w.v.sh k) n0 λF nd hb hc x hx=>⟨(hc x hx).1,?_⟩;obtain⟨x0,x1⟩:=hb x hx;have h1:∀x∈F,app p.1 x∈F:=λx hx=>(hc x hx).1;have hy:=DE w.v.1 nd hb h1 k hx;have:=(hc _ hy).2;obtain⟨y0,y1⟩:=hb _ hy;have e:app (Sh k p).2 (pw p.1 k x)=app p.2 x:=by
  show app (shr p.1 p.2 k) (pw p.1 k x)=_;unfold shr;have hlen:(cz p.1 (-k)).length=n:=(w.v.1.cz (-k)).length;rw[nJ y0 (by rw[hlen];exact y1)]
  congr 1
  have e3:=Ds w.v.1 k (-k);rw[Int.add_right_neg,LM w.v.1]at e3;have e4:app (aT (cz p.1 k) (cz p.1 (-k))) x=app (upto n) x:=by rw[e3]
  rw[Hv x0 x1,nJ x0 (by rw[(w.v.1.cz k).length];exact x1)]at e4;have e5:app (cz p.1 k) x=pw p.1 k x:=qy x0 (by rw[w.v.1.length];exact x1);rw[e5]at e4;exact e4
 rw[e]at this;exact this
def Wh.qt(w:Wh n p)(n0:0<n):Wh n (Qt p):=by refine xy w w.v.qt n0 λF nd hb hc x hx=>⟨(hc x hx).2,?_⟩;have:=Qe w.v.2.az nd hb (λx hx=>(hc x hx).1) x hx;rw[w.v.2.inv_inv]at this;exact this
abbrev Od(xs ys F:List Int):Prop:=F[0]?=some 0/\∀(k:Nat) (y:Int),F[k+1]?=some y->∃(j:Nat) (x:Int),j<=k/\F[j]?=some x/\(y=app xs x\/y=app ys x)
def Od.one(xs ys:List Int):Od xs ys [0]:=⟨rfl,λk y h=>by cases h⟩
def Od.snoc{xs ys F:List Int}{x y:Int}(h:Od xs ys F)(hx:x∈F)(hy:y=app xs x\/y=app ys x):Od xs ys (F ++ [y]):=by
 have hl:0<F.length:=List.length_pos_of_mem hx;refine⟨by rw[Zav hl];exact h.1,λk z hz=>?_⟩;by_cases hk:k+1<F.length;rw[Zav hk]at hz;obtain⟨j,x',hj,hx',e⟩:=h.2 k z hz;exact⟨j,x',hj,by rw[Zav ⋯];exact hx',e⟩;rw[ZaC ⋯]at hz;have hz:z=y:=by
  cases h3:k+1-F.length with
  |zero=>rw[h3]at hz;cases hz;rfl
  |succ m=>rw[h3]at hz;cases hz
 obtain⟨j,hj,e⟩:=Za8 hx;have qe:k+1=F.length\/F.length<k+1:=by lk
 refine⟨j,x,by lk,by rw[Zav hj,Zab hj,e],by rw[hz];exact hy⟩
structure Fo(xs ys F:List Int):Prop extends Fd xs ys F where
 od:Od xs ys F
def Fo.one(xs ys:List Int):Fo xs ys [0]:=⟨Fd.one xs ys,Od.one xs ys⟩
end
end ae
namespace ae
section
variable {n:Nat}{xs ys r r' r2:List Int}{i j x y:Int}
def a5.go(h:a5 xs i r)(hx:x∈r)(hy:y∈r):∃k,y=aS xs x k:=by obtain⟨m,e,_,bk⟩:=h.ex;subst e;obtain⟨a,ha,rfl⟩:=qO.mp hx;obtain⟨b,hb,rfl⟩:=qO.mp hy;refine⟨b+(m+1)-a,?_⟩;rw[sR,show a+(b+(m+1)-a)=b+(m+1) by lk];exact(Hs bk b).symm
def a5.dA(h:a5 xs i r)(hx:x∈r):∀k,aS xs x k∈r
 |0=>hx
 |k+1=>h.step (h.dA hx k)
def HB(h:a5 xs i r)(h':a5 xs j r')(hx:x∈r)(hx':x∈r')(hy:y∈r):y∈r':=by obtain⟨k,rfl⟩:=h.go hx hy;exact h'.dA hx' k
abbrev Rw(n:Nat)(xs r:List Int):Prop:=∃i:Int,(0<=i/\i<(n:Int))/\a5 xs i r/\∀x∈r,i<=x
def Rw.eq(a:Rw n xs r)(b:Rw n xs r')(hx:x∈r)(hx':x∈r'):r=r':=by
 obtain⟨i,bi,ri,li⟩:=a;obtain⟨j,bj,rj,lj⟩:=b;have h1:=lj i (HB ri rj hx hx' ri.mem);have h2:=li j (HB rj ri hx' hx rj.mem);have:i=j:=by lk
 subst this;exact ri.unique rj
def Rw.bound(tx:Tn n xs)(a:Rw n xs r):∀x∈r,0<=x/\x<(n:Int):=by obtain⟨i,bi,ri,li⟩:=a;exact ri.bound tx bi.1 bi.2
def Rw.nodup(tx:Tn n xs)(a:Rw n xs r):r.Nodup:=by obtain⟨i,bi,ri,li⟩:=a;exact ri.nodup tx bi.1 bi.2
def Rw.len(tx:Tn n xs)(a:Rw n xs r):r.length<=n:=by obtain⟨i,bi,ri,li⟩:=a;exact ri.len tx bi.1 bi.2
def Rw.one(a:Rw n xs r):∃x,x∈r:=let ⟨i,_,ri,_⟩:=a;⟨i,ri.mem⟩
def Rw.step(a:Rw n xs r)(hx:x∈r):app xs x∈r:=let ⟨_,_,ri,_⟩:=a;ri.step hx
def iw.rw'(tx:Tn n xs):∀{left:List Int} {rs:List (List Int)},iw xs left rs->left.Pairwise (· < ·)->(∀x∈left,(0<=x/\x<(n:Int))/\app xs x∈left)->∀r∈rs,Rw n xs r:=by
 intro left rs a
 induction a with
 |nil=>intro _ _ r hr;cases hr
 |cons h1 _ ih =>
  rename_i i left r rs _
  intro nd cl q hq;obtain⟨i0,i1⟩:=(cl i Zae).1;have sub:∀x∈r,x∈i :: left:=by
   obtain⟨m,e,_,_⟩:=h1.ex;subst e;have:∀j,aS xs i j∈i :: left:=λj=>by
    induction j with
    |zero=>exact Zae
    |succ j ih=>exact(cl _ ih).2
   intro x hx;obtain⟨j,_,rfl⟩:=qO.mp hx;exact this j
  rcases ZaA.mp hq with rfl|hq
  ·refine⟨i,⟨i0,i1⟩,h1,λx hx=>?_⟩
   rcases ZaA.mp (sub x hx)with rfl|h
   ·lk
   ·have:=(Zbz.mp nd).1 x h;lk
  ·refine ih (Zcr Zca nd) (λx hx=>?_) q hq
   obtain⟨Dg,Dh⟩:=ZaH.mp hx;have nr:x ∉ r:=by simpa using Dh
   obtain⟨b,c⟩:=cl x Dg;exact⟨b,ZaH.mpr ⟨c,by simpa usingλz=>nr (h1.uk tx i0 i1 b.1 b.2 z)⟩⟩
def iw.rw(tx:Tn n xs){rs:List (List Int)}(g:iw xs (upto n) rs):∀r∈rs,Rw n xs r :=
 g.rw' tx (Pr n) λx hx=>⟨ll.mp hx,ll.mpr (tx.app (ll.mp hx).1 (ll.mp hx).2)⟩
def iw.has{rs:List (List Int)}(g:iw xs (upto n) rs)(x0:0<=x)(x1:x<(n:Int)):∃r∈rs,x∈r:=g.all.2 x (ll.mpr ⟨x0,x1⟩)
def iw.mem(tx:Tn n xs){rs:List (List Int)}(g:iw xs (upto n) rs):r∈rs↔Rw n xs r:=by refine⟨g.rw tx r,λh=>?_⟩;obtain⟨x,hx⟩:=h.one;obtain⟨b0,b1⟩:=h.bound tx x hx;obtain⟨r',hr',hx'⟩:=g.has b0 b1;rw[h.eq (g.rw tx r' hr') hx hx'];exact hr'
def Wf{rs:List (List Int)}(h:rs.flatten.Nodup)(ne:∀r∈rs,r≠[]):rs.Nodup:=by
 induction rs with
 |nil=>exact List.nodup_nil
 |cons r rs ih =>
  rw[Za5]at h;obtain⟨_,h2,h3⟩:=ZbP.mp h;refine Zbc.mpr ⟨λhm=>?_,ih h2 λq hq=>ne q (Zag _ hq)⟩;obtain⟨x,hx⟩:=ZbA r (ne r Zae);exact h3 x hx x (Zbn.mpr ⟨r,hm,hx⟩) rfl
def iw.nodup(tx:Tn n xs){rs:List (List Int)}(g:iw xs (upto n) rs):rs.Nodup:=by refine Wf ((g.Bl tx).nodup_iff.mpr (Df n)) λr hr e=>?_;obtain⟨x,hx⟩:=(g.rw tx r hr).one;rw[e]at hx;cases hx
abbrev Sm(xs ys r:List Int):Prop:=∀s∈r,app ys (app xs s)=app xs (app ys s)
instance:Decidable (Sm xs ys r):=inferInstanceAs (Decidable (∀s∈r,app ys (app xs s)=app xs (app ys s)))
def Qf(tx:Tn n xs)(ty:Tn n ys){s:Int}(s0:0<=s)(s1:s<(n:Int)):app (rL xs ys) s=s↔app ys (app xs s)=app xs (app ys s):=by
 obtain⟨a0,a1⟩:=tx.app s0 s1;obtain⟨b0,b1⟩:=ty.app a0 a1;obtain⟨c0,c1⟩:=tx.j8 b0 b1;obtain⟨d0,d1⟩:=ty.app s0 s1;obtain⟨e0,e1⟩:=ty.j8 c0 c1;have e:app (rL xs ys) s=app (inv ys) (app (inv xs) (app ys (app xs s))):=by
  unfold ae.rL;rw[nJ s0 (by rw[vD,tx.length];exact s1),nJ s0 (by rw[tx.length];exact s1),nJ b0 (by rw[yT,tx.length];exact b1)]
 rw[e];constructor;intro h;have h1:=ty.bz c0 c1;rw[h]at h1;rw[h1,tx.bz b0 b1];intro h;rw[h,tx.cW d0 d1,ty.cW s0 s1]
def Sm.aS(hs:Sm xs ys r)(a:Rw n xs r)(hx:x∈r):∀k,app ys (ae.aS xs x k)=ae.aS xs (app ys x) k
 |0=>rfl
 |k+1=>by
  obtain⟨i,_,ri,_⟩:=a;show app ys (app xs (ae.aS xs x k))=app xs (ae.aS xs (app ys x) k);rw[hs _ (ri.dA hx k),hs.aS ⟨i,‹_›,ri,‹_›⟩ hx k]
abbrev Up(n:Nat)(xs ys r r':List Int):Prop:=Rw n xs r'/\∃s∈r,app ys s∈r'
def Up.all(u:Up n xs ys r r')(a:Rw n xs r)(hs:Sm xs ys r):∀t∈r,app ys t∈r':=λt ht=>by
 obtain⟨b,s,h1,h2⟩:=u;have a':=a;obtain⟨i,_,ri,_⟩:=a;obtain⟨k,rfl⟩:=ri.go h1 ht;rw[hs.aS a' h1 k];obtain⟨j,_,rj,_⟩:=b;exact rj.dA h2 k
def Up.oe(u:Up n xs ys r r')(a:Rw n xs r)(hs:Sm xs ys r):∀y∈r',∃t∈r,app ys t=y:=λy hy=>by
 obtain⟨b,s,h1,h2⟩:=u;obtain⟨j,_,rj,_⟩:=b;obtain⟨k,rfl⟩:=rj.go h2 hy;have a':=a;obtain⟨i,_,ri,_⟩:=a;exact⟨ae.aS xs s k,ri.dA h1 k,hs.aS a' h1 k⟩
def Up.inj(tx:Tn n xs)(ty:Tn n ys)(u:Up n xs ys r r')(v:Up n xs ys r2 r')(a:Rw n xs r)(b:Rw n xs r2)(hs:Sm xs ys r)(ht:Sm xs ys r2):r=r2:=by obtain⟨y,hy⟩:=u.1.one;obtain⟨s,s1,s2⟩:=u.oe a hs y hy;obtain⟨t,t1,t2⟩:=v.oe b ht y hy;have b1:=a.bound tx s s1;have b2:=b.bound tx t t1;have:=ty.inj b1.1 b1.2 b2.1 b2.2 (s2.trans t2.symm);subst this;exact a.eq b s1 t1
def Up.uniq(u:Up n xs ys r r')(v:Up n xs ys r r2)(a:Rw n xs r)(hs:Sm xs ys r):r'=r2:=by obtain⟨x,hx⟩:=a.one;exact u.1.eq v.1 (u.all a hs x hx) (v.all a hs x hx)
def Up.perm(tx:Tn n xs)(ty:Tn n ys)(u:Up n xs ys r r')(a:Rw n xs r)(hs:Sm xs ys r):(r.map (app ys)).Perm r':=by refine(Zbf (zc (a.nodup tx) λp hp q hq e=>?_) (u.1.nodup tx)).mpr λy=>?_;have b1:=a.bound tx p hp;have b2:=a.bound tx q hq;exact ty.inj b1.1 b1.2 b2.1 b2.2 e;rw[Zah];constructor;rintro⟨t,ht,rfl⟩;exact u.all a hs t ht;exact u.oe a hs y
def Up.len(tx:Tn n xs)(ty:Tn n ys)(u:Up n xs ys r r')(a:Rw n xs r)(hs:Sm xs ys r):r.length=r'.length:=by
 have:=(u.perm tx ty a hs).length_eq
 rwa [Zaa]at this
def Qg(tx:Tn n xs)(ty:Tn n ys)(a:Rw n xs r)(hs:Sm xs ys r){m:Int}(hm:m∈r.map (app ys))(hl:∀y∈r.map (app ys),m<=y)(q:a5 xs m r'):Up n xs ys r r':=by obtain⟨s,s1,rfl⟩:=Zah.mp hm;have bs:=a.bound tx s s1;refine⟨⟨_,ty.app bs.1 bs.2,q,λx hx=>?_⟩,s,s1,q.mem⟩;obtain⟨k,rfl⟩:=q.go q.mem hx;rw[<- hs.aS a s1 k];obtain⟨i,_,ri,_⟩:=a;exact hl _ (Zcw (ri.dA s1 k))
structure Ch(n:Nat)(xs ys l:List Int)(b:List (List Int)):Prop where
 hd:b[0]?=some l
 nd:b.Nodup
 rw:∀r∈b,Rw n xs r
 st:∀(k:Nat) (r r':List Int),b[k]?=some r->b[k+1]?=some r'->Sm xs ys r/\Up n xs ys r r'
def Ch.one{l:List Int}(a:Rw n xs l):Ch n xs ys l [l]:=⟨rfl,by simp,λr hr=>by rw[Zat.mp hr];exact a,λk r r' _ h=>by simp at h⟩
def Ch.len(tx:Tn n xs){l:List Int}{b:List (List Int)}(c:Ch n xs ys l b):b.length<=n:=by
 have nd:(b.map λr=>r.headD 0).Nodup:=by
  refine zc c.nd λp hp q hq e=>?_;have h:∀p:List Int,Rw n xs p->p.headD 0∈p:=λp a=>by
   obtain⟨x,hx⟩:=a.one;cases p with
   |nil=>cases hx
   |cons a p=>exact Zae
  exact(c.rw p hp).eq (c.rw q hq) (h p (c.rw p hp)) (by rw[e];exact h q (c.rw q hq))
 have:=yR nd (ys:=upto n) λx hx=>by
  obtain⟨p,hp,rfl⟩:=Zah.mp hx;have a:=c.rw p hp;obtain⟨x,hx⟩:=a.one;cases p with
  |nil=>cases hx
  |cons y p=>exact ll.mpr (a.bound tx y Zae)
 rwa [Zaa,qN]at this
def Ch.snoc(tx:Tn n xs)(ty:Tn n ys){l:List Int}{b:List (List Int)}(c:Ch n xs ys l b)(hr:b[b.length-1]?=some r)(hs:Sm xs ys r)(u:Up n xs ys r r')(ne:r'≠l):Ch n xs ys l (b ++ [r']):=by
 have hl:0<b.length:=by have:=(Zac.mp c.hd).1;lk
 refine⟨by rw[Zav hl];exact c.hd,?_,λq hq=>?_,λk q q' h1 h2=>?_⟩;refine ZbP.mpr ⟨c.nd,by simp,λp hp q hq e=>?_⟩;rw[Zat.mp hq]at e;subst e;obtain⟨k,hk,e⟩:=Za8 hp;cases k with
 |zero =>
  have:=c.hd;rw[Zab hk,e]at this;exact ne (Zaq this)
 |succ k =>
  have h1:b[k]?=some b[k]:=Zab ⋯;obtain⟨s1,u1⟩:=c.st k b[k] p h1 (by rw[Zab hk,e]);have e2:=u1.inj tx ty u (c.rw _ (ZaM _)) (c.rw _ (Zak hr)) s1 hs;obtain⟨h3,e3⟩:=Zac.mp hr;have:=(Zb2 c.nd).mp (e2.trans e3.symm);lk
 rcases ZaF.mp hq with hq|hq
 exact c.rw q hq;rw[Zat.mp hq];exact u.1;by_cases hk:k+1<b.length;rw[Zav hk]at h2;rw[Zav ⋯]at h1;exact c.st k q q' h1 h2;have hk2:=(Zac.mp h2).1;rw[Zaj,ZaK]at hk2;have ek:k=b.length-1:=by lk
 rw[Zav ⋯,ek,hr]at h1;cases h1;rw[ZaC ⋯,show k+1-b.length=0 by lk]at h2;cases h2;exact⟨hs,u⟩
structure Bd(n:Nat)(xs ys l:List Int)(b:List (List Int)):Prop extends Ch n xs ys l b where
 en:∀r,b[b.length-1]?=some r->Sm xs ys r->Up n xs ys r l
def Bd.up{l:List Int}{b:List (List Int)}(c:Bd n xs ys l b)(hr:r∈b)(hs:Sm xs ys r)(u:Up n xs ys r r'):r'∈b:=by
 obtain⟨k,hk,rfl⟩:=Za8 hr;by_cases h:k+1<b.length;obtain⟨s1,u1⟩:=c.st k b[k] b[k+1] (Zab hk) (Zab h);rw[u.uniq u1 (c.rw _ hr) hs];exact ZaM _;have ek:k=b.length-1:=by lk
 have:=c.en b[k] (by rw[<- ek];exact Zab hk) hs;rw[u.uniq this (c.rw _ hr) hs];exact Zak c.hd
def Bd.width(tx:Tn n xs)(ty:Tn n ys){l:List Int}{b:List (List Int)}(c:Ch n xs ys l b):∀r∈b,r.length=l.length:=by
 have key:∀(k:Nat) (r:List Int),b[k]?=some r->r.length=l.length:=by
  intro k
  induction k with
  |zero=>intro r hr;rw[c.hd]at hr;cases hr;rfl
  |succ k ih =>
   intro r hr;have hk:=(Zac.mp hr).1;have h1:b[k]?=some b[k]:=Zab ⋯;obtain⟨s1,u1⟩:=c.st k _ r h1 hr;rw[<- u1.len tx ty (c.rw _ (ZaM _)) s1];exact ih _ h1
 intro r hr;obtain⟨k,hk⟩:=ZbR hr;exact key k r hk
def Bd.unique{l:List Int}{b b':List (List Int)}(c:Bd n xs ys l b)(d:Bd n xs ys l b'):b=b':=by
 have key:∀k:Nat,b[k]?=b'[k]?:=by
  have half:∀{b b':List (List Int)},Bd n xs ys l b->Bd n xs ys l b'->∀(k:Nat) (r:List Int),b[k]?=some r->b'[k]?=some r->∀q,b'[k+1]?=some q->b[k+1]?=some q:=by
   intro b b' c d k r h1 h2 q hq;obtain⟨s1,u1⟩:=d.st k r q h2 hq;by_cases h:k+1<b.length;have h3:b[k+1]?=some b[k+1]:=Zab h;obtain⟨s2,u2⟩:=c.st k r _ h1 h3;rw[h3,u2.uniq u1 (c.rw r (Zak h1)) s1];have hk:=(Zac.mp h1).1;have ek:k=b.length-1:=by lk
   have u2:=c.en r (by rw[<- ek];exact h1) s1;have e:=u2.uniq u1 (c.rw r (Zak h1)) s1;obtain⟨h5,e5⟩:=Zac.mp hq;obtain⟨h6,e6⟩:=Zac.mp d.hd;have:=(Zb2 d.nd).mp (e6.trans (e.trans e5.symm));lk
  intro k
  induction k with
  |zero=>rw[c.hd,d.hd]
  |succ k ih =>
   cases h:b[k]? with
   |none =>
    rw[h]at ih;have h1:=ZaI.mp h;have h2:=ZaI.mp ih.symm;rw[ZaI.mpr ⋯,ZaI.mpr ⋯]
   |some r =>
    rw[h]at ih;cases h3:b[k+1]? with
    |some q=>exact(half d c k r ih.symm h q h3).symm
    |none =>
     cases h4:b'[k+1]? with
     |none=>rfl
     |some q=>rw[half c d k r h ih.symm q h4]at h3;cases h3
 exact Zcf key
end
end ae
namespace ae
def Qh{α:Type}[DecidableEq α]:∀{xs ys:List α},xs.Nodup->(∀x∈xs,x∈ys)->ys.length<=xs.length->xs.Perm ys
 |[],ys,_,_,h=>by
  have:ys=[]:=ZbE (by simpa using h);subst this;exact Zbh _
 |x :: xs,ys,hn,hs,hl=>by
  obtain⟨h1,h2⟩:=Zbc.mp hn;have hx:x∈ys:=hs x Zae;have hp:=Zb4 hx;have hlen:(ys.erase x).length+1=ys.length:=by have:=hp.length_eq;simpa using this.symm
  refine List.Perm.trans (List.Perm.cons x (Qh (ys:=ys.erase x) h2 (λy hy=>?_) ?_)) hp.symm;have hne:y≠x:=λe=>h1 (e ▸ hy);exact(Zb5 hne).mpr (hs y (Zag _ hy));simp at hl;lk
def pick{α β:Type}[Inhabited β]{rs:List α}{rs':List β}{P:α->β->Prop}(tot:∀r∈rs,∃r'∈rs',P r r'):∃F:α->β,∀r∈rs,F r∈rs'/\P r (F r):=by
 have:∀r,∃r',r∈rs->r'∈rs'/\P r r':=λr=>by
  by_cases h:r∈rs;obtain⟨r',h1,h2⟩:=tot r h;exact⟨r',λ_=>⟨h1,h2⟩⟩;exact⟨default,λz=>absurd z h⟩
 exact⟨λr=>Classical.choose (this r),λr hr=>Classical.choose_spec (this r) hr⟩
def Wg{α:Type}[DecidableEq α][Inhabited α]{U:List α}(nd:U.Nodup){P:α->α->Prop}(h1:∀u∈U,∃p∈U,P p u)(h2:∀p∈U,∀u∈U,∀u'∈U,P p u->P p u'->u=u'):∀p∈U,∃u∈U,P p u:=by
 obtain⟨F,hF⟩:=pick (P:=λu p=>P p u) h1;have Bq:(U.map F).Nodup:=zc nd λa ha b hb e=>h2 (F a) (hF a ha).1 a ha b hb (hF a ha).2 (by rw[e];exact(hF b hb).2)
 have hp:=Qh Bq (ys:=U) (λx hx=>by
  obtain⟨u,hu,rfl⟩:=Zah.mp hx
  exact(hF u hu).1) (by rw[Zaa];exact Zad _)
 intro p Wi;obtain⟨u,hu,rfl⟩:=Zah.mp (hp.symm.subset Wi);exact⟨u,hu,(hF u hu).2⟩
def Qi{α β γ:Type}[Inhabited β][DecidableEq β]{rs:List α}{rs':List β}{P:α->β->Prop}{f:α->γ}{f':β->γ}(nd:rs.Nodup)(Bq:rs'.Nodup)(tot:∀r∈rs,∃r'∈rs',P r r')(oe:∀r'∈rs',∃r∈rs,P r r')
  (fn:∀r∈rs,∀r'∈rs',∀q'∈rs',P r r'->P r q'->r'=q') (inj:∀r∈rs,∀q∈rs,∀r'∈rs',P r r'->P q r'->r=q) (hf:∀r∈rs,∀r'∈rs',P r r'->f r=f' r'):(rs.map f).Perm (rs'.map f'):=by
 obtain⟨F,hF⟩:=pick tot;have LC:(rs.map F).Nodup:=zc nd λa ha b hb e=>inj a ha b hb (F a) (hF a ha).1 (hF a ha).2 (by rw[e];exact(hF b hb).2);have p:(rs.map F).Perm rs':=(Zbf LC Bq).mpr λy=>by
  rw[Zah];constructor;rintro⟨a,ha,rfl⟩;exact(hF a ha).1;intro hy;obtain⟨r,hr,h⟩:=oe y hy;exact⟨r,hr,fn r hr (F r) (hF r hr).1 y hy (hF r hr).2 h⟩
 have e:rs.map f=(rs.map F).map f':=by
  rw[Zas];exact ZaJ λr hr=>hf r hr (F r) (hF r hr).1 (hF r hr).2
 rw[e];exact p.map f'
section
variable {n:Nat}{xs ys:List Int}{rs:List (List Int)}{lows:List (List Int)}{B:List Int->List (List Int)}
def cover(tx:Tn n xs)(ty:Tn n ys)(all:∀x:Int,0<=x->x<(n:Int)->iP xs ys x)(g:iw xs (upto n) rs)(hB:∀l∈lows,Bd n xs ys l (B l))(ne:lows≠[])(hl:∀l∈lows,l∈rs)
  (H1:∀r∈rs,r∈lows\/∃p,Rw n xs p/\Sm xs ys p/\Up n xs ys p r):∀r∈rs,∃l∈lows,r∈B l:=by
 intro r0 hr0;refine Classical.byContradiction λhc=>?_
 let U:=rs.filter λr=>lows.all λl=>!(B l).contains r
 have mU:∀r,r∈U↔r∈rs/\∀l∈lows,r ∉ B l:=λr=>by
  show r∈rs.filter _↔_;rw[ZaH,Za0];refine and_congr_right λ_=>forall_congr' λl=>imp_congr_right λ_=>?_;simp
 have h0:r0∈U:=(mU r0).mpr ⟨hr0,λl hl h=>hc ⟨l,hl,h⟩⟩;have Wj:U.Nodup:=(g.nodup tx).filter _;have own:∀l∈lows,l∈B l:=λl hl=>Zak (hB l hl).hd
 have nx:=Wg (P:=λp u=>Rw n xs p/\Sm xs ys p/\Up n xs ys p u) Wj (λu hu=>by
  obtain⟨hu1,Qj⟩:=(mU u).mp hu;rcases H1 u hu1 with h|⟨p,a,s,up⟩
  exact absurd (own u h) (Qj u h)
  refine⟨p,(mU p).mpr ⟨(g.mem tx).mpr a,λl hl' hp=>Qj l hl' ((hB l hl').up hp s up)⟩,a,s,up⟩) (λp _ u _ u' _ h h'=>h.2.2.uniq h'.2.2 h.1 h.2.1)
 have Qk:U.flatten.Nodup:=by
  have:=(g.Bl tx).nodup_iff.mpr (Df n);obtain⟨p1,p2⟩:=Zcs.mp this;exact Zcs.mpr ⟨λl hl=>p1 l (ZaH.mp hl).1,p2.sublist Zca⟩
 have bF:∀x∈U.flatten,0<=x/\x<(n:Int):=λx hx=>by
  obtain⟨r,hr,hx⟩:=Zbn.mp hx;exact(g.rw tx r ((mU r).mp hr).1).bound tx x hx
 have cF:Cl xs ys U.flatten:=λx hx=>by
  obtain⟨r,hr,hx⟩:=Zbn.mp hx;have a:=g.rw tx r ((mU r).mp hr).1;obtain⟨u,hu,_,s,up⟩:=nx r hr;exact⟨Zbn.mpr ⟨r,hr,a.step hx⟩,Zbn.mpr ⟨u,hu,up.all a s x hx⟩⟩
 by_cases z:(0:Int)∈U.flatten;obtain⟨l,hl'⟩:=ZbA lows ne;have a:=g.rw tx l (hl l hl');obtain⟨x,hx⟩:=a.one;have bx:=a.bound tx x hx;obtain⟨u,hu,Wk⟩:=Zbn.mp (cF.all z (all x bx.1 bx.2));obtain⟨u1,u2⟩:=(mU u).mp hu;have e:=a.eq (g.rw tx u u1) hx Wk;exact u2 l hl' (by rw[<- e];exact own l hl');have no:∀ x,iP xs ys x->(0<=x/\x < (n:Int))/\x ∉ U.flatten:=λx h=>by
  induction h with
  |zero =>
   obtain⟨x,hx⟩:=(g.rw tx r0 hr0).one;have:=(g.rw tx r0 hr0).bound tx x hx;exact⟨by lk,z⟩
  |r _ ih=>exact⟨tx.app ih.1.1 ih.1.2,λq=>ih.2 (yX tx Qk bF (λx hx=>(cF x hx).1) ih.1.1 ih.1.2 q)⟩
  |u _ ih=>exact⟨ty.app ih.1.1 ih.1.2,λq=>ih.2 (yX ty Qk bF (λx hx=>(cF x hx).2) ih.1.1 ih.1.2 q)⟩
 obtain⟨x,hx⟩:=(g.rw tx r0 hr0).one;have bx:=(g.rw tx r0 hr0).bound tx x hx;exact(no x (all x bx.1 bx.2)).2 (Zbn.mpr ⟨r0,h0,hx⟩)
def apart{l l':List Int}{b b':List (List Int)}(tx:Tn n xs)(ty:Tn n ys)(c:Bd n xs ys l b)(d:Bd n xs ys l' b')(h:∀p,Rw n xs p->Sm xs ys p->¬Up n xs ys p l)(h':∀p,Rw n xs p->Sm xs ys p->¬Up n xs ys p l'):
  ∀(i j:Nat) (r:List Int),b[i]?=some r->b'[j]?=some r->l=l'
 |0,0,r,h1,h2=>by rw[c.hd]at h1;rw[d.hd]at h2;cases h1;cases h2;rfl
 |0,j+1,r,h1,h2=>by
  rw[c.hd]at h1;cases h1;have hj:=(Zac.mp h2).1;obtain⟨s,u⟩:=d.st j _ _ (Zab ⋯) h2;exact absurd u (h _ (d.rw _ (ZaM _)) s)
 |i+1,0,r,h1,h2=>by
  rw[d.hd]at h2;cases h2;have hj:=(Zac.mp h1).1;obtain⟨s,u⟩:=c.st i _ _ (Zab ⋯) h1;exact absurd u (h' _ (c.rw _ (ZaM _)) s)
 |i+1,j+1,r,h1,h2=>by
  have hi:=(Zac.mp h1).1;have hj:=(Zac.mp h2).1;have e1:b[i]?=some b[i]:=Zab ⋯;have e2:b'[j]?=some b'[j]:=Zab ⋯;obtain⟨s,u⟩:=c.st i _ _ e1 h1;obtain⟨s',u'⟩:=d.st j _ _ e2 h2;have e:=u.inj tx ty u' (c.rw _ (ZaM _)) (d.rw _ (ZaM _)) s s';rw[<- e]at e2;exact apart tx ty c d h h' i j _ e1 e2
structure Lw(n:Nat)(xs ys:List Int)(rs lows:List (List Int)):Prop where
 ne:lows≠[]
 sub:∀l∈lows,l∈rs
 nd:lows.Nodup
 up:∀r∈rs,r∈lows\/∃p,Rw n xs p/\Sm xs ys p/\Up n xs ys p r
 lo:(∀l∈lows,∀p,Rw n xs p->Sm xs ys p->¬Up n xs ys p l)\/lows.length=1
def Lw.parts(w:Lw n xs ys rs lows)(tx:Tn n xs)(ty:Tn n ys)(all:∀x:Int,0<=x->x<(n:Int)->iP xs ys x)(g:iw xs (upto n) rs)(hB:∀l∈lows,Bd n xs ys l (B l)):(lows.map B).flatten.Perm rs:=by
 have cv:=cover tx ty all g hB w.ne w.sub w.up;refine(Zbf ?_ (g.nodup tx)).mpr λr=>?_;refine Zcs.mpr ⟨λb hb=>?_,?_⟩;obtain⟨l,hl,rfl⟩:=Zah.mp hb;exact(hB l hl).nd;rw[Zba];refine Zbm (R:=λa b=>a≠b) (λ{a b} ha hb hab=>?_) w.nd;intro r h1 r2 h2 e;subst e;rcases w.lo with h|h
 obtain⟨i,hi⟩:=ZbR h1;obtain⟨j,hj⟩:=ZbR h2;exact hab (apart tx ty (hB a ha) (hB b hb) (h a ha) (h b hb) i j r hi hj);obtain⟨c,rfl⟩:=List.length_eq_one_iff.mp h;exact hab ((Zat.mp ha).trans (Zat.mp hb).symm);rw[Zbn];constructor;rintro⟨b,hb,hr⟩;obtain⟨l,hl,rfl⟩:=Zah.mp hb;exact(g.mem tx).mpr ((hB l hl).rw r hr);intro hr;obtain⟨l,hl,h⟩:=cv r hr;exact⟨B l,Zcw hl,h⟩
end
section
variable {n:Nat}{c g:List Int}{rs rs':List (List Int)}
abbrev Im(g r r':List Int):Prop:=∀x,x∈r'↔∃s∈r,app g s=x
def LS(tc:Tn n c)(tg:Tn n g)(b:iw (anew c g) (upto n) rs'){r:List Int}(a:Rw n c r):∃r'∈rs',Im g r r':=by obtain⟨x,hx⟩:=a.one;have bx:=a.bound tc x hx;have gx:=tg.app bx.1 bx.2;obtain⟨r',hr',h⟩:=b.has gx.1 gx.2;refine⟨r',hr',λy=>?_⟩;obtain⟨i,bi,ri,_⟩:=a;obtain⟨j,bj,rj,_⟩:=b.rw (tc.anew tg) r' hr';constructor;intro hy;obtain⟨k,rfl⟩:=rj.go h hy;exact⟨aS c x k,ri.dA hx k,(Bp tc tg bx.1 bx.2 k).symm⟩;rintro⟨s,hs,rfl⟩;obtain⟨k,rfl⟩:=ri.go hx hs;rw[<- Bp tc tg bx.1 bx.2 k];exact rj.dA h k
def Im.len(tc:Tn n c)(tg:Tn n g){r r':List Int}(a:Rw n c r)(b:Rw n (anew c g) r')(h:Im g r r'):r.length=r'.length:=by
 have p:(r.map (app g)).Perm r':=(Zbf (zc (a.nodup tc) λp hp q hq e=>by
  have b1:=a.bound tc p hp;have b2:=a.bound tc q hq
  exact tg.inj b1.1 b1.2 b2.1 b2.2 e) (b.nodup (tc.anew tg))).mpr λy=>by rw[Zah];exact(h y).symm
 have:=p.length_eq
 rwa [Zaa]at this
def Im.fn(tc:Tn n c)(tg:Tn n g){r r' q':List Int}(a:Rw n c r)(b:Rw n (anew c g) r')(b':Rw n (anew c g) q')(h:Im g r r')(h':Im g r q'):r'=q':=by obtain⟨x,hx⟩:=a.one;exact b.eq b' ((h _).mpr ⟨x,hx,rfl⟩) ((h' _).mpr ⟨x,hx,rfl⟩)
def Im.inj(tc:Tn n c)(tg:Tn n g){r q r':List Int}(a:Rw n c r)(a':Rw n c q)(b:Rw n (anew c g) r')(h:Im g r r')(h':Im g q r'):r=q:=by obtain⟨x,hx⟩:=b.one;obtain⟨s,hs,e1⟩:=(h x).mp hx;obtain⟨t,ht,e2⟩:=(h' x).mp hx;have b1:=a.bound tc s hs;have b2:=a'.bound tc t ht;have:=tg.inj b1.1 b1.2 b2.1 b2.2 (e1.trans e2.symm);subst this;exact a.eq a' hs ht
def Im.oe(tc:Tn n c)(tg:Tn n g)(a:iw c (upto n) rs){r':List Int}(b:Rw n (anew c g) r'):∃r∈rs,Im g r r':=by obtain⟨x,hx⟩:=b.one;have bx:=b.bound (tc.anew tg) x hx;have gx:=tg.j8 bx.1 bx.2;obtain⟨r,hr,h⟩:=a.has gx.1 gx.2;refine⟨r,hr,λy=>?_⟩;obtain⟨i,bi,ri,_⟩:=a.rw tc r hr;obtain⟨j,bj,rj,_⟩:=b;have ex:=tg.bz bx.1 bx.2;have it:=λk=>Bp tc tg gx.1 gx.2 k;rw[ex]at it;constructor;intro hy;obtain⟨k,rfl⟩:=rj.go hx hy;exact⟨aS c (app (inv g) x) k,ri.dA h k,(it k).symm⟩;rintro⟨s,hs,rfl⟩;obtain⟨k,rfl⟩:=ri.go h hs;rw[<- it k];exact rj.dA hx k
def Ql(tc:Tn n c)(tg:Tn n g)(a:iw c (upto n) rs)(b:iw (anew c g) (upto n) rs'):(rs.map List.length).Perm (rs'.map List.length):=by have A:=a.rw tc;have B:=b.rw (tc.anew tg);exact Qi (P:=Im g) (a.nodup tc) (b.nodup (tc.anew tg)) (λr hr=>LS tc tg b (A r hr)) (λr' hr'=>Im.oe tc tg a (B r' hr')) (λr hr r' hr' q' hq'=>Im.fn tc tg (A r hr) (B r' hr') (B q' hq')) (λr hr q hq r' hr'=>Im.inj tc tg (A r hr) (A q hq) (B r' hr')) (λr hr r' hr'=>Im.len tc tg (A r hr) (B r' hr'))
end
section
variable {n:Nat}{p q:bQ}{g:List Int}
def Wh.pf(w:Wh n p)(n0:0<n):∀j,Wh n (ae.pf j p)
 |0=>w
 |j+1=>(w.pf n0 j).qt n0
def Wh.st(w:Wh n p)(n0:0<n)(s:Sp):Wh n (stM p s):=by unfold stM;split;exact w.sh n0 _;exact w.pf n0 _
def Wh.ld(n0:0<n):∀{w:List Sp} {p:bQ},Wh n p->Wh n (gI p w)
 |[],_,h=>h
 |s :: w,_,h=>Wh.ld n0 (w:=w) (h.st n0 s)
end
end ae
namespace ae
section
variable {n:Nat}{xs ys:List Int}
abbrev vK(n:Nat)(xs ys r:List Int):Prop:=∀p,Rw n xs p->Sm xs ys p->¬Up n xs ys p r
structure Lo(n:Nat)(xs ys:List Int)(lows:List (List Int)):Prop where
 nd:lows.Nodup
 rw:∀l∈lows,Rw n xs l
 ab:(lows≠[]/\∀r,r∈lows↔Rw n xs r/\vK n xs ys r)\/((∃l,lows=[l])/\∀r,Rw n xs r->¬vK n xs ys r)
def Lo.lw{rs lows:List (List Int)}(a:Lo n xs ys lows)(tx:Tn n xs)(g:iw xs (upto n) rs):Lw n xs ys rs lows:=by
 have Br:∀r,¬vK n xs ys r->∃p,Rw n xs p/\Sm xs ys p/\Up n xs ys p r:=λr h=>Classical.byContradiction λc=>h λp h1 h2 h3=>c ⟨p,h1,h2,h3⟩;refine⟨?_,λl hl=>(g.mem tx).mpr (a.rw l hl),a.nd,λr hr=>?_,?_⟩;rcases a.ab with h|⟨⟨l,rfl⟩,_⟩
 exact h.1;simp;by_cases h:vK n xs ys r;rcases a.ab with h'|⟨_,h'⟩
 exact .inl ((h'.2 r).mpr ⟨g.rw tx r hr,h⟩);exact absurd h (h' r (g.rw tx r hr));exact .inr (Br r h);rcases a.ab with h'|⟨⟨l,rfl⟩,_⟩
 exact .inl λl hl=>((h'.2 l).mp hl).2;exact .inr rfl
variable {g r r' u u':List Int}
def Im.sm(tx:Tn n xs)(ty:Tn n ys)(tg:Tn n g)(a:Rw n xs r)(h:Im g r r'):Sm xs ys r↔Sm (anew xs g) (anew ys g) r':=by
 have e:∀s∈r,app (anew ys g) (app (anew xs g) (app g s))=app g (app ys (app xs s))/\app (anew xs g) (app (anew ys g) (app g s))=app g (app xs (app ys s)):=λs hs=>by
  obtain⟨s0,s1⟩:=a.bound tx s hs;obtain⟨a0,a1⟩:=tx.app s0 s1;obtain⟨b0,b1⟩:=ty.app s0 s1;rw[tx.dy tg s0 s1,ty.dy tg a0 a1,ty.dy tg s0 s1,tx.dy tg b0 b1];exact⟨rfl,rfl⟩
 constructor;intro hs x hx;obtain⟨s,h1,rfl⟩:=(h x).mp hx;rw[(e s h1).1,(e s h1).2,hs s h1];intro hs s h1
 have:=hs (app g s) ((h _).mpr ⟨s,h1,rfl⟩);rw[(e s h1).1,(e s h1).2]at this;obtain⟨s0,s1⟩:=a.bound tx s h1;obtain⟨a0,a1⟩:=tx.app s0 s1;obtain⟨b0,b1⟩:=ty.app s0 s1;obtain⟨c0,c1⟩:=ty.app a0 a1;obtain⟨d0,d1⟩:=tx.app b0 b1;exact tg.inj c0 c1 d0 d1 this
def Im.up(tx:Tn n xs)(ty:Tn n ys)(tg:Tn n g)(a:Rw n xs r)(b:Rw n (anew xs g) u')(h:Im g r r')(h':Im g u u')(k:Up n xs ys r u):Up n (anew xs g) (anew ys g) r' u':=by obtain⟨_,s,s1,s2⟩:=k;obtain⟨b0,b1⟩:=a.bound tx s s1;exact⟨b,app g s,(h _).mpr ⟨s,s1,rfl⟩,(h' _).mpr ⟨app ys s,s2,(ty.dy tg b0 b1).symm⟩⟩
def Im.down(tx:Tn n xs)(ty:Tn n ys)(tg:Tn n g)(a:Rw n xs r)(b:Rw n xs u)(h:Im g r r')(h':Im g u u')(k:Up n (anew xs g) (anew ys g) r' u'):Up n xs ys r u:=by obtain⟨_,x,x1,x2⟩:=k;obtain⟨s,s1,rfl⟩:=(h x).mp x1;obtain⟨s0,s2⟩:=a.bound tx s s1;obtain⟨b0,b1⟩:=ty.app s0 s2;rw[ty.dy tg s0 s2]at x2;obtain⟨t,t1,e⟩:=(h' _).mp x2;obtain⟨c0,c1⟩:=b.bound tx t t1;have:=tg.inj c0 c1 b0 b1 e;exact⟨b,s,s1,by rw[<- this];exact t1⟩
variable {rs rs' lows gK:List (List Int)}{B B':List Int->List (List Int)}
def Im.Br(tx:Tn n xs)(ty:Tn n ys)(tg:Tn n g)(R:iw xs (upto n) rs)(R':iw (anew xs g) (upto n) rs')(a:Rw n xs r)(b:Rw n (anew xs g) r')(h:Im g r r'):vK n xs ys r↔vK n (anew xs g) (anew ys g) r':=by constructor;intro k p' a' s' u';obtain⟨p,hp,hi⟩:=Im.oe tx tg R a';have ap:=R.rw tx p hp;exact k p ap ((Im.sm tx ty tg ap hi).mpr s') (Im.down tx ty tg ap a hi h u');intro k p ap s u;obtain⟨p',Wl,hi⟩:=LS tx tg R' ap;exact k p' (R'.rw (tx.anew tg) p' Wl) ((Im.sm tx ty tg ap hi).mp s) (Im.up tx ty tg ap b hi h u)
def Lo.anew(tx:Tn n xs)(ty:Tn n ys)(tg:Tn n g)(all:∀x:Int,0<=x->x<(n:Int)->iP xs ys x)(all':∀x:Int,0<=x->x<(n:Int)->iP (anew xs g) (anew ys g) x)(R:iw xs (upto n) rs)(R':iw (ae.anew xs g) (upto n) rs')
  (a:Lo n xs ys lows) (b:Lo n (ae.anew xs g) (ae.anew ys g) gK) (hB:∀l∈lows,Bd n xs ys l (B l)) (Bs:∀l∈gK,Bd n (ae.anew xs g) (ae.anew ys g) l (B' l)) :
  (lows.map λl=>(l.length,(B l).length)).Perm (gK.map λl=>(l.length,(B' l).length)):=by
 have tX:=tx.anew tg;have tY:=ty.anew tg;have A:=R.rw tx;have A':=R'.rw tX;obtain⟨φ,hφ⟩:=pick (P:=Im g) λr (hr:r∈rs)=>LS tx tg R' (A r hr);have rφ:∀r,Rw n xs r->Rw n (ae.anew xs g) (φ r)/\Im g r (φ r):=λr h=>⟨A' _ (hφ r ((R.mem tx).mpr h)).1,(hφ r ((R.mem tx).mpr h)).2⟩;have Wm:∀l b,Rw n xs l->Bd n xs ys l b->Bd n (ae.anew xs g) (ae.anew ys g) (φ l) (b.map φ):=λl b al c=>by
  have st:∀(k:Nat) (q q':List Int),(b.map φ)[k]?=some q->(b.map φ)[k+1]?=some q'->Sm (ae.anew xs g) (ae.anew ys g) q/\Up n (ae.anew xs g) (ae.anew ys g) q q':=λk q q' h1 h2=>by
   rw[Zal]at h1 h2;obtain⟨r,e1,rfl⟩:=ZaB.mp h1;obtain⟨r',e2,rfl⟩:=ZaB.mp h2;obtain⟨s,u⟩:=c.st k r r' e1 e2;have ar:=c.rw r (Zak e1);have Qm:=c.rw r' (Zak e2);exact⟨(Im.sm tx ty tg ar (rφ r ar).2).mp s,Im.up tx ty tg ar (rφ r' Qm).1 (rφ r ar).2 (rφ r' Qm).2 u⟩
  refine⟨⟨by rw[Zal,c.hd];rfl,zc c.nd λp hp q hq e=>?_,λq hq=>?_,st⟩,λq hq s=>?_⟩;have ap:=c.rw p hp;have aq:=c.rw q hq;exact Im.inj tx tg ap aq (rφ p ap).1 (rφ p ap).2 (by rw[e];exact(rφ q aq).2);obtain⟨p,hp,rfl⟩:=Zah.mp hq;exact(rφ p (c.rw p hp)).1;rw[Zaa,Zal]at hq;obtain⟨r,e1,rfl⟩:=ZaB.mp hq;have ar:=c.rw r (Zak e1);have u:=c.en r e1 ((Im.sm tx ty tg ar (rφ r ar).2).mpr s);exact Im.up tx ty tg ar (rφ l al).1 (rφ r ar).2 (rφ l al).2 u
 rcases a.ab with⟨ne,ha⟩|⟨⟨l,rfl⟩,ha⟩
 rcases b.ab with⟨_,hb⟩|⟨_,hb⟩
 refine Qi (P:=Im g) a.nd b.nd (λr hr=>?_) (λr' hr'=>?_) (λr hr r' hr' q' hq'=>Im.fn tx tg (a.rw r hr) (b.rw r' hr') (b.rw q' hq')) (λr hr q hq r' hr'=>Im.inj tx tg (a.rw r hr) (a.rw q hq) (b.rw r' hr')) (λr hr r' hr' h=>?_);have ar:=a.rw r hr;obtain⟨f1,f2⟩:=rφ r ar;exact⟨φ r,(hb _).mpr ⟨f1,(Im.Br tx ty tg R R' ar f1 f2).mp ((ha r).mp hr).2⟩,f2⟩;have br:=b.rw r' hr';obtain⟨p,hp,hi⟩:=Im.oe tx tg R br;exact⟨p,(ha p).mpr ⟨A p hp,(Im.Br tx ty tg R R' (A p hp) br hi).mpr ((hb r').mp hr').2⟩,hi⟩;have ar:=a.rw r hr;have br:=b.rw r' hr';have e:φ r=r':=Im.fn tx tg ar (rφ r ar).1 br (rφ r ar).2 h;have h2:=Wm r (B r) ar (hB r hr);rw[e]at h2;have e2:=h2.unique (Bs r' hr');rw[<- e2,Zaa,Im.len tx tg ar br h];obtain⟨r,hr⟩:=ZbA lows ne;have ar:=a.rw r hr;obtain⟨f1,f2⟩:=rφ r ar;exact absurd ((Im.Br tx ty tg R R' ar f1 f2).mp ((ha r).mp hr).2) (hb _ f1);rcases b.ab with⟨ne,hb⟩|⟨⟨l',rfl⟩,hb⟩
 obtain⟨r',hr'⟩:=ZbA gK ne;have br:=b.rw r' hr';obtain⟨p,hp,hi⟩:=Im.oe tx tg R br;exact absurd ((Im.Br tx ty tg R R' (A p hp) br hi).mpr ((hb r').mp hr').2) (ha p (A p hp));have p1:=(a.lw tx R).parts tx ty all R hB;have p2:=(b.lw tX R').parts tX tY all' R' Bs;have e1:(B l).Perm rs:=by simpa using p1
 have e2:(B' l').Perm rs':=by simpa using p2
 have e3:rs.length=rs'.length:=by
  have:=(Ql tx tg R R').length_eq
  rwa [Zaa,Zaa]at this
 have al:=a.rw l (by simp);have bl:=b.rw l' (by simp);obtain⟨p,hp,hi⟩:=Im.oe tx tg R bl;have w1:=Bd.width tx ty (hB l (by simp)).toCh p (e1.symm.subset hp);have w2:=Im.len tx tg (A p hp) bl hi;have h1:l.length=l'.length:=by lk
 have h2:(B l).length=(B' l').length:=by rw[e1.length_eq,e2.length_eq,e3]
 show[(l.length,(B l).length)].Perm [(l'.length,(B' l').length)];rw[h1,h2]
end
abbrev DF(n:Nat)(xs:List Int)(i:Int):List Int:=row xs i (((List.range n).find? λm=>decide (aS xs i (m+1)=i)).getD 0)
def Qn{n:Nat}{xs:List Int}{i:Int}(tx:Tn n xs)(i0:0<=i)(i1:i<(n:Int)):a5 xs i (DF n xs i):=by
 obtain⟨m,nb,bk⟩:=tx.rH i0 i1;have hm:=tx.i3 i0 i1 nb;unfold DF;cases h:(List.range n).find? λm=>decide (aS xs i (m+1)=i)with
 |none =>
  have:=List.find?_eq_none.mp h m (ZaP.mpr ⋯);exact absurd (decide_eq_true bk) this
 |some k =>
  have hk:=List.find?_some h;have hk:aS xs i (k+1)=i:=of_decide_eq_true hk;refine⟨k,rfl,λj j1 j2 z=>?_,hk⟩;obtain⟨_,as,bs,e,ha⟩:=List.find?_eq_some_iff_append.mp h;have hj:j-1∈as:=by
   have h1:(List.range n)[j-1]?=some (j-1):=ZbX (by
    have:k∈List.range n:=by rw[e];simp
    have:=ZaP.mp this
    lk)
   have h2:(List.range n)[as.length]?=some k:=by rw[e];simp
   have h3:as.length=k:=by
    obtain⟨q1,q2⟩:=Zac.mp h2;simpa using q2
   rw[e,Zav ⋯]at h1;exact Zak h1
  have:=ha (j-1) hj;rw[show j-1+1=j by lk]at this;simp[z]at this
abbrev zd(n:Nat)(xs:List Int):Nat->List Int->List (List Int)
 |0,_=>[]
 |_+1,[]=>[]
 |k+1,i :: left=>DF n xs i :: zd n xs k (out (i :: left) (DF n xs i))
def Qo{n:Nat}{xs:List Int}(tx:Tn n xs):∀(k:Nat) (left:List Int),left.length<=k->(∀x∈left,0<=x/\x<(n:Int))->iw xs left (zd n xs k left)
 |0,[],_,_=>.nil
 |0,_ :: _,h,_=>absurd h (by simp)
 |_+1,[],_,_=>.nil
 |k+1,i :: left,h,hb=>by
  have b:=hb i Zae;have r:=Qn tx b.1 b.2;refine .cons r (Qo tx k _ ?_ λx hx=>hb x (ZaH.mp hx).1);have:=yS (left:=left) r.mem;simp at h;lk
abbrev lq(n:Nat)(xs:List Int):List (List Int):=zd n xs n (upto n)
def xA{n:Nat}{xs:List Int}(tx:Tn n xs):iw xs (upto n) (lq n xs):=Qo tx n _ (by rw[qN];exact Zad _) λx hx=>ll.mp hx
abbrev qQ:List Int->Int
 |[]=>0
 |[x]=>x
 |x :: l=>min x (qQ l)
def Qp:∀{l:List Int},l≠[]->qQ l∈l/\∀y∈l,qQ l<=y
 |[],h=>absurd rfl h
 |[x],_=>⟨Zae,λy hy=>by rw[Zat.mp hy];exact Int.le_refl _⟩
 |x :: y :: l,_=>by
  obtain⟨h1,h2⟩:=Qp (l:=y :: l) (by simp);show min x (qQ (y :: l))∈x :: y :: l/\∀z∈x :: y :: l,min x (qQ (y :: l))<=z;refine⟨?_,λz hz=>?_⟩;by_cases h:x<=qQ (y :: l);rw[Int.min_eq_left h];exact Zae;rw[Int.min_eq_right ⋯];exact Zag _ h1;rcases ZaA.mp hz with rfl|hz
  exact Int.min_le_left _ _;exact Int.le_trans (Int.min_le_right _ _) (h2 z hz)
abbrev DG(n:Nat)(xs ys r:List Int):List Int:=DF n xs (qQ (r.map (app ys)))
section
variable {n:Nat}{xs ys r l:List Int}
def LU(tx:Tn n xs)(ty:Tn n ys)(a:Rw n xs r)(hs:Sm xs ys r):Up n xs ys r (DG n xs ys r):=by obtain⟨x,hx⟩:=a.one;obtain⟨h1,h2⟩:=Qp (l:=r.map (app ys)) (λe=>by rw[List.map_eq_nil_iff.mp e]at hx;cases hx);obtain⟨s,s1,e⟩:=Zah.mp h1;have b:=a.bound tx s s1;have c:=ty.app b.1 b.2;rw[e]at c;exact Qg tx ty a hs h1 h2 (Qn tx c.1 c.2)
abbrev vL(n:Nat)(xs ys:List Int):List (List Int):=(lq n xs).filter λr=>!(((lq n xs).filter λr=>decide (Sm xs ys r)).map (DG n xs ys)).contains r
abbrev og(n:Nat)(xs ys:List Int):List (List Int):=if vL n xs ys=[]then[(lq n xs).headD []]else vL n xs ys
def LV(tx:Tn n xs)(ty:Tn n ys):r∈vL n xs ys↔Rw n xs r/\vK n xs ys r:=by have R:=xA tx;unfold vL;rw[ZaH,R.mem tx];refine and_congr_right λa=>?_;rw[Bool.not_eq_true',<- Bool.not_eq_true,Za4,Zah];constructor;intro h p ap s u;exact h ⟨p,ZaH.mpr ⟨(R.mem tx).mpr ap,decide_eq_true s⟩,(LU tx ty ap s).uniq u ap s⟩;rintro h ⟨p,hp,rfl⟩;obtain⟨h1,h2⟩:=ZaH.mp hp;have ap:=(R.mem tx).mp h1;have s:Sm xs ys p:=of_decide_eq_true h2;exact h p ap s (LU tx ty ap s)
def xB(tx:Tn n xs)(ty:Tn n ys)(n0:0<n):Lo n xs ys (og n xs ys):=by
 have R:=xA tx;have nd:=R.nodup tx;obtain⟨r0,hr0,_⟩:=R.has (x:=0) ∅ ⋯;unfold og;split
 ·next e =>
  have hd:(lq n xs).headD []∈lq n xs:=by
   cases h:lq n xs with
   |nil=>rw[h]at hr0;cases hr0
   |cons a t=>exact Zae
  refine⟨by simp,λl hl=>by rw[Zat.mp hl];exact R.rw tx _ hd,.inr ⟨⟨_,rfl⟩,λr a h=>?_⟩⟩;have:=(LV tx ty).mpr ⟨a,h⟩;rw[e]at this;cases this
 ·next e=>exact⟨nd.filter _,λl hl=>((LV tx ty).mp hl).1,.inl ⟨e,λr=>LV tx ty⟩⟩
abbrev pg(n:Nat)(xs ys l:List Int):Nat->List (List Int)->List Int->List (List Int)
 |0,b,_=>b
 |k+1,b,r=>if Sm xs ys r then(if DG n xs ys r=l then b else pg n xs ys l k (b ++ [DG n xs ys r]) (DG n xs ys r))else b
def Qq(tx:Tn n xs)(ty:Tn n ys):∀(k:Nat) (b:List (List Int)) (r:List Int),n<b.length+k->Ch n xs ys l b->b[b.length-1]?=some r->Bd n xs ys l (pg n xs ys l k b r)
 |0,b,r,hk,c,_=>absurd (c.len tx) ⋯
 |k+1,b,r,hk,c,hr=>by
  have a:=c.rw r (Zak hr);unfold pg;split
  ·next s =>
   have u:=LU tx ty a s;split
   ·next e =>
    rw[e]at u;exact⟨c,λq hq _=>by rw[hr]at hq;cases hq;exact u⟩
   ·next e =>
    have c':=c.snoc tx ty hr s u e;refine Qq tx ty k _ _ ?_ c' ?_
    ·rw[Zaj,ZaK];lk
    ·rw[Zaj,ZaK,ZaC ⋯,show b.length+1-1-b.length=0 by lk];rfl
  ·next s=>exact⟨c,λq hq hs=>by rw[hr]at hq;cases hq;exact absurd hs s⟩
abbrev iS(n:Nat)(xs ys l:List Int):List (List Int):=pg n xs ys l n [l] l
def vN(tx:Tn n xs)(ty:Tn n ys)(a:Rw n xs l):Bd n xs ys l (iS n xs ys l):=Qq tx ty n [l] l (by simp) (Ch.one a) rfl
abbrev qi(n:Nat)(xs ys:List Int):List (Nat×Nat):=(og n xs ys).map λl=>(l.length,(iS n xs ys l).length)
end
end ae
namespace ae
abbrev nr(x y:Int):Int:=(2*x+y).fdiv (2*y)
def Wn(a b:Int)(hb:b≠0):(0<b->0<=a-b*a.fdiv b/\a-b*a.fdiv b<b)/\(b<0->b<a-b*a.fdiv b/\a-b*a.fdiv b<=0):=by
 have h1:=Int.mul_ediv_add_emod a b;have h2:=Zbv a hb;have h3:=Int.emod_lt a hb;rw[Int.fdiv_eq_ediv];constructor;intro h;rw[if_pos (.inl ⋯),Int.sub_zero];have:b.natAbs=b.toNat:=by lk
 constructor<;>lk;intro h;by_cases hd:b ∣ a;rw[if_pos (.inr hd),Int.sub_zero]
 have:a % b=0:=Int.emod_eq_zero_of_dvd hd;constructor<;>lk
 rw[if_neg (by rintro(z|z);lk;exact hd z),Zck];have hne:a % b≠0:=λz=>hd (Int.dvd_of_emod_eq_zero z);constructor<;>lk
def HC{x y:Int}(hy:y≠0):2*(x-nr x y*y).natAbs<=y.natAbs:=by
 obtain⟨h1,h2⟩:=Wn (2*x+y) (2*y) ⋯;have e:2*x+y-2*y*(2*x+y).fdiv (2*y)=2*(x-nr x y*y)+y:=by
  unfold nr;rw[Zck,ZaU ((2*x+y).fdiv (2*y)) y,ZaL];lk
 rw[e]at h1 h2;rcases(show 0<y\/y<0 by lk)with h|h
 have:=h1 ⋯;lk
 have:=h2 ⋯;lk
def Qr{x y:Int}(hy:y≠0):(nr x y).natAbs<=x.natAbs+1:=by
 have h:=HC (x:=x) hy;have h1:(nr x y*y).natAbs<=x.natAbs+(x-nr x y*y).natAbs:=by lk
 rw[ZbL]at h1;have hy1:1<=y.natAbs:=by lk
 by_cases hq:(nr x y).natAbs<=x.natAbs+1;exact hq;exfalso;have h2:(x.natAbs+2)*y.natAbs<=(nr x y).natAbs*y.natAbs:=ZbD _ ⋯;have h3:(x.natAbs+2)*y.natAbs=x.natAbs*y.natAbs+2*y.natAbs:=Nat.add_mul _ _ _;have h4:x.natAbs<=x.natAbs*y.natAbs:=Zcd _ hy1;lk
abbrev oB(k:Int):List Sp:=if k=0 then[]else[(true,k)]
def ze{k:Int}:∀s∈oB k,cE s/\s.2=k:=λs hs=>by
 unfold oB at hs;split at hs
 ·cases hs
 ·next h =>
  rw[Zat.mp hs];exact⟨⟨(λz=>by cases z),h⟩,rfl⟩
def DH(k:Int):av (oB k)=⟨1,k,0,1⟩:=by
 unfold oB;split
 ·next h=>rw[h];rfl
 ·show(lp (true,k)).mul T4.one=_
  rw[T4.mul_one];rfl
def DI(k:Int):(oB k).length<=1:=by unfold oB;split<;>simp
abbrev rO(x y:Int):List Sp:=oB (-(nr x y)) ++ [(false,1)]
def HD(x y:Int):av (rO x y)=⟨0,-1,1,-(nr x y)⟩:=by unfold rO;rw[vH,DH];apply T4.ext'<;>simp[T4.mul,lp,qp,T4.qt,T4.one]
def Qs{x y:Int}(hy:y≠0):∀s∈rO x y,cE s/\s.2.natAbs<=x.natAbs+1:=λs hs=>by
 have h:=Qr (x:=x) hy;rcases ZaF.mp hs with hs|hs
 obtain⟨h1,h2⟩:=ze s hs;exact⟨h1,by rw[h2];lk⟩;rw[Zat.mp hs];exact⟨⟨λ_=>⟨by decide,by decide⟩,by decide⟩,by show 1<=_;lk⟩
def LW(x y:Int):(rO x y).length<=2:=by unfold rO;rw[Zaj];have:=DI (-(nr x y));simp;lk
structure Dv(M:Nat)(x y:Int)(g:List Sp)(u v:Int)(r:Nat):Prop where
 pr:∀s∈g,cE s/\s.2.natAbs<=M+1
 ln:g.length<=2*r
 ua:u=(av g).a*x+(av g).b*y
 vc:v=(av g).c*x+(av g).d*y
 ub:u.natAbs<=M
 vb:v.natAbs*2 ^ r<=M
def Dv.zero{M:Nat}{x y:Int}(hx:x.natAbs<=M)(hy:y.natAbs<=M):Dv M x y [] x y 0 :=
 ⟨(λs hs=>nomatch hs),Zad _,by show x=1*x+0*y;lk,by show y=0*x+1*y;lk,hx,by lk⟩
def Dv.step{M r:Nat}{x y u v:Int}{g:List Sp}(h:Dv M x y g u v r)(hv:v≠0):Dv M x y (g ++ rO u v) (-v) (u-nr u v*v) (r+1):=by
 have hl:=HC (x:=u) hv;have hlen:=LW u v;have h2:1<=2 ^ r:=Nat.one_le_two_pow;have vM:v.natAbs<=M:=Zap (Zcd _ h2) h.vb;have e:av (g ++ rO u v)=⟨-(av g).c,-(av g).d,(av g).a-nr u v*(av g).c,(av g).b-nr u v*(av g).d⟩:=by
  rw[sT,HD];apply T4.ext'<;>simp[T4.mul,ZaX]<;>lk
 refine⟨λs hs=>?_,by rw[Zaj];have:=h.ln;lk,?_,?_,by lk,?_⟩;rcases ZaF.mp hs with hs|hs
 exact h.pr s hs;obtain⟨h1,h3⟩:=Qs hv s hs;exact⟨h1,by have:=h.ub;lk⟩;rw[e];show -v=-(av g).c*x + -(av g).d*y;rw[h.vc,ZaX,ZaX];lk;rw[e];show u-nr u v*v=((av g).a-nr u v*(av g).c)*x+((av g).b-nr u v*(av g).d)*y;generalize hq:nr u v=q;rw[h.ua,h.vc,Zcl,Zcl,Zb0,ZaL,ZaL];lk
 have:=h.vb
 have h3:(u-nr u v*v).natAbs*2 ^ (r+1)=2*(u-nr u v*v).natAbs*2 ^ r:=by rw[Nat.pow_succ,Zcb (2 ^ r) 2,<- Nat.mul_assoc,Zcb _ 2]
 rw[h3];exact Zap (ZbD _ hl) this
def Dv.few{M r k:Nat}{x y u v:Int}{g:List Sp}(h:Dv M x y g u v r)(hv:v≠0)(hM:M<2 ^ k):r<k:=by have h1:2 ^ r<=M:=Zap (Nat.le_mul_of_pos_left _ ⋯) h.vb;exact(Nat.pow_lt_pow_iff_right ∅).mp (ZaT h1 hM)
abbrev ph(A:T4):List Sp:=if A.a=1 then oB A.b else(false,2) :: oB (-A.b)
def Wo{a d:Int}(h:a*d=1):(a=1/\d=1)\/(a=-1/\d=-1):=by
 have h1:=congrArg Int.natAbs h;rw[ZbL]at h1;have h2:a.natAbs=1:=Nat.eq_one_of_dvd_one ⟨_,h1.symm⟩;rcases(show a=1\/a=-1 by lk)with rfl|rfl
 exact .inl ⟨rfl,by lk⟩;exact .inr ⟨rfl,by lk⟩
def Wq{A:T4}(hc:A.c=0)(hd:A.a*A.d-A.b*A.c=1):av (ph A)=A:=by
 have h1:A.a*A.d=1:=by rw[hc,Int.mul_zero]at hd;lk
 unfold ph;rcases Wo h1 with⟨e1,e2⟩|⟨e1,e2⟩
 rw[if_pos e1,DH];exact T4.ext' e1.symm rfl hc.symm e2.symm;rw[if_neg (by rw[e1];decide),P8,DH];apply T4.ext';simp[T4.mul,lp,qp,T4.qt,T4.one,e1];simp[T4.mul,lp,qp,T4.qt,T4.one];simp[T4.mul,lp,qp,T4.qt,T4.one,hc];simp[T4.mul,lp,qp,T4.qt,T4.one,e2]
def Qu(A:T4):∀s∈ph A,cE s:=λs hs=>by
 unfold ph at hs;split at hs;exact(ze s hs).1;rcases ZaA.mp hs with rfl|hs
 exact⟨λ_=>⟨by decide,by decide⟩,by decide⟩;exact(ze s hs).1
def Qv(A:T4):(ph A).length<=2:=by
 unfold ph;split
 have:=DI A.b;lk
 have:=DI (-A.b);simp;lk
def Wr(A B:T4):(A.mul B).a*(A.mul B).d-(A.mul B).b*(A.mul B).c=(A.a*A.d-A.b*A.c)*(B.a*B.d-B.b*B.c):=by
 simp only[T4.mul]
 grind
def Wt{T:T4}{g:List Sp}(hd:T.a*T.d-T.b*T.c=1)(hg:∀s∈g,cE s)(h0:(av g).c*T.a+(av g).d*T.c=0):av (pe (ph ((av g).mul T) ++ kX g)).reverse=T/\∀s∈(pe (ph ((av g).mul T) ++ kX g)).reverse,cE s:=by
 have Wu:((av g).mul T).a*((av g).mul T).d-((av g).mul T).b*((av g).mul T).c=1:=by rw[Wr,xw hg,hd];rfl
 have Wv:((av g).mul T).c=0:=h0;have pr:∀s∈ph ((av g).mul T) ++ kX g,cE s:=λs hs=>by
  rcases ZaF.mp hs with hs|hs
  exact Qu _ s hs;exact Hz hg s hs
 refine⟨?_,λs hs=>(y2 pr).pr s (Zb8.mp hs)⟩;rw[PV pr,sT,Wq Wv Wu,LG hg,<- T4.assoc,(Qd (xw hg)).2,T4.one_mul]
end ae
namespace ae
def Qw{u v:Int}(hv:v≠0)(h:2*v.natAbs<=u.natAbs):2<=(nr u v).natAbs:=by
 have h1:=HC (x:=u) hv;generalize nr u v=q at *;by_cases c:2<=q.natAbs;exact c;have hq:q=-1\/q=0\/q=1:=by lk
 rcases hq with rfl|rfl|rfl<;>lk
def grow{a c q:Int}(ha:a.natAbs<=max 1 c.natAbs)(hq:2<=q.natAbs):(-c).natAbs<=max 1 (a-q*c).natAbs:=by have h1:(q*c).natAbs=q.natAbs*c.natAbs:=ZbL q c;have h2:2*c.natAbs<=q.natAbs*c.natAbs:=ZbD _ hq;generalize q*c=z at *;generalize q.natAbs*c.natAbs=y at *;lk
structure Bv(g:List Sp)(u v:Int)(r:Nat):Prop where
 b0:r=0->(av g).c=0/\(av g).d=1
 b1:1<=r->2*v.natAbs<=u.natAbs
 ba:(av g).a.natAbs<=max 1 (av g).c.natAbs
 bb:(av g).b.natAbs<=max 1 (av g).d.natAbs
 dt:(av g).a*(av g).d-(av g).b*(av g).c=1
def Bv.zero(x y:Int):Bv [] x y 0:=⟨λ_=>⟨rfl,rfl⟩,λh=>by lk,by decide,by decide,by decide⟩
def Ww{a b c d q:Int}(h:a*d-b*c=1):-c*(b-q*d) - -d*(a-q*c)=1:=by
 rw[Zck,Zck,ZaX,ZaX,ZaX,ZaX,ZaU c b,ZaU d a];have:c*(q*d)=d*(q*c):=by rw[<- ZaL,<- ZaL,ZaU c q,ZaU d q,ZaL,ZaL,ZaU c d]
 lk
def Bv.step{u v:Int}{r:Nat}{g:List Sp}(h:Bv g u v r)(hv:v≠0):Bv (g ++ rO u v) (-v) (u-nr u v*v) (r+1):=by
 have e:av (g ++ rO u v)=⟨-(av g).c,-(av g).d,(av g).a-nr u v*(av g).c,(av g).b-nr u v*(av g).d⟩:=by
  rw[sT,HD];apply T4.ext'<;>simp[T4.mul,ZaX]<;>lk
 have hl:=HC (x:=u) hv;refine⟨λz=>by lk,λ_=>by lk,?_,?_,?_⟩;rw[e];show(-(av g).c).natAbs<=max 1 ((av g).a-nr u v*(av g).c).natAbs;by_cases hr:r=0;rw[(h.b0 hr).1];simp;exact grow h.ba (Qw hv (h.b1 ⋯));rw[e];show(-(av g).d).natAbs<=max 1 ((av g).b-nr u v*(av g).d).natAbs;by_cases hr:r=0;rw[(h.b0 hr).2];simp;lk;exact grow h.bb (Qw hv (h.b1 ⋯));rw[e];exact Ww h.dt
def HE{a b c d x y:Int}(h:a*d-b*c=1)(h0:c*x+d*y=0):x=d*(a*x+b*y)/\y=-(c*(a*x+b*y)):=by
 have e1:d*(a*x+b*y)=(a*d-b*c)*x+b*(c*x+d*y):=by
  rw[Zb0,Zb0,Zcl,<- ZaL,<- ZaL,<- ZaL,<- ZaL,ZaU d a,ZaU d b];lk
 have e2:c*(a*x+b*y)=a*(c*x+d*y)-(a*d-b*c)*y:=by
  rw[Zb0,Zb0,Zcl,<- ZaL,<- ZaL,<- ZaL,<- ZaL,ZaU c a,ZaU c b];lk
 rw[e1,e2,h,h0];constructor<;>lk
def zf{a b c d x y:Int}(h:a*d-b*c=1)(h0:c*x+d*y=0):Int.gcd x y=(a*x+b*y).natAbs:=by
 obtain⟨hx,hy⟩:=HE h h0;apply Nat.dvd_antisymm;have h1:((Int.gcd x y:Nat):Int) ∣ a*x+b*y:=Int.dvd_add (Int.dvd_trans (Int.gcd_dvd_left x y) (Int.dvd_mul_left _ _)) (Int.dvd_trans (Int.gcd_dvd_right x y) (Int.dvd_mul_left _ _))
 have:=Zct.mpr h1
 simpa using this;have d1:(a*x+b*y) ∣ x:=⟨d,by rw[ZaU];exact hx⟩;have d2:(a*x+b*y) ∣ y:=⟨-c,by rw[Int.mul_neg,ZaU];exact hy⟩;exact Zct.mpr d1 |> λq=>Nat.dvd_gcd q (Zct.mpr d2)
end ae
namespace ae
section
variable {n:Nat}{xs ys r r':List Int}{x:Int}
def Rw.pw(a:Rw n xs r)(tx:Tn n xs)(hx:x∈r)(k:Int):ae.pw xs k x∈r:=by
 obtain⟨x0,x1⟩:=a.bound tx x hx;obtain⟨i,_,ri,_⟩:=a;obtain⟨m,e,_,bk⟩:=ri.ex;have hL:ae.aS xs x (m+1)=x:=by
  rw[e]at hx;obtain⟨c,_,rfl⟩:=qO.mp hx;rw[sR];exact Hs bk c
 have h1:=tx.pw_add x0 x1 k (((m+1:Nat):Int)*k.natAbs);rw[tx.pw_per x0 x1 hL]at h1;rw[h1];have h2:(0:Int)<=k+((m+1:Nat):Int)*k.natAbs:=by
  have:(k.natAbs:Int)<=((m+1:Nat):Int)*k.natAbs:=by
   have:=Int.mul_le_mul_of_nonneg_right (show(1:Int)<=((m+1:Nat):Int) by lk) (show(0:Int)<=k.natAbs by lk)
   rwa [Zcj]at this
  lk
 unfold ae.pw;rw[if_pos h2];exact ri.dA hx _
def Wx(tx:Tn n xs)(x0:0<=x)(x1:x<(n:Int))(k:Int):ae.pw xs k (app xs x)=app xs (ae.pw xs k x):=by have e:∀y,app xs y=ae.pw xs 1 y:=λ_=>rfl;obtain⟨p0,p1⟩:=tx.pw x0 x1 k;rw[e x,e (ae.pw xs k x),tx.pw_add x0 x1,tx.pw_add x0 x1,Int.add_comm]
def Sm.DJ(tx:Tn n xs)(a:Rw n xs r)(h:Sm xs ys r)(k:Int):Sm xs (shr xs ys k) r:=λs hs=>by
 obtain⟨s0,s1⟩:=a.bound tx s hs;obtain⟨t0,t1⟩:=tx.app s0 s1;rw[tx.i5 t0 t1,tx.i5 s0 s1,Wx tx s0 s1];exact h _ (a.pw tx hs _)
def Qx(tx:Tn n xs)(ty:Tn n ys)(k:Int):shr xs (shr xs ys k) (-k)=ys:=by rw[tx.rK ty,Int.add_right_neg,tx.qh ty]
def HF(tx:Tn n xs)(ty:Tn n ys)(a:Rw n xs r)(k:Int):Sm xs (shr xs ys k) r↔Sm xs ys r :=
 ⟨λh=>by have:=h.DJ tx a (-k);rwa [Qx tx ty]at this,λh=>h.DJ tx a k⟩
def Up.DJ(tx:Tn n xs)(a:Rw n xs r)(u:Up n xs ys r r')(k:Int):Up n xs (shr xs ys k) r r':=by obtain⟨b,s,hs,h⟩:=u;obtain⟨s0,s1⟩:=a.bound tx s hs;obtain⟨t0,t1⟩:=tx.pw s0 s1 k;refine⟨b,_,a.pw tx hs k,?_⟩;rw[tx.i5 t0 t1,tx.pw_add s0 s1,Int.add_left_neg];exact h
def HG(tx:Tn n xs)(ty:Tn n ys)(a:Rw n xs r)(k:Int):Up n xs (shr xs ys k) r r'↔Up n xs ys r r' :=
 ⟨λh=>by have:=h.DJ tx a (-k);rwa [Qx tx ty]at this,λh=>h.DJ tx a k⟩
def Qy(tx:Tn n xs)(ty:Tn n ys)(k:Int):vK n xs (shr xs ys k) r↔vK n xs ys r :=
 ⟨λh p a s u=>h p a ((HF tx ty a k).mpr s) ((HG tx ty a k).mpr u),λh p a s u=>h p a ((HF tx ty a k).mp s) ((HG tx ty a k).mp u)⟩
def Lo.sh(tx:Tn n xs)(ty:Tn n ys){k:Int}{l:List (List Int)}(h:Lo n xs (shr xs ys k) l):Lo n xs ys l:=by
 refine⟨h.nd,h.rw,?_⟩;rcases h.ab with⟨h1,h2⟩|⟨h1,h2⟩
 exact .inl ⟨h1,λr=>by rw[h2,Qy tx ty]⟩;exact .inr ⟨h1,λr a=>by rw[<- Qy tx ty k];exact h2 r a⟩
def Bd.sh(tx:Tn n xs)(ty:Tn n ys){k:Int}{l:List Int}{b:List (List Int)}(h:Bd n xs (shr xs ys k) l b):Bd n xs ys l b:=by refine⟨⟨h.hd,h.nd,h.rw,λj r r' h1 h2=>?_⟩,λr h1 h2=>?_⟩;have a:=h.rw r (Zak h1);obtain⟨s,u⟩:=h.st j r r' h1 h2;exact⟨(HF tx ty a k).mp s,(HG tx ty a k).mp u⟩;have a:=h.rw r (Zak h1);exact(HG tx ty a k).mp (h.en r h1 ((HF tx ty a k).mpr h2))
def HI{a:List Int}(ha:Tn n a):anew a (upto n)=a:=by unfold anew;rw[Dr (sD n) (sD n) (vI (sD n)),Dq ha,vI ha]
def Qz{p q:bQ}(wp:Wh n p)(wq:Wh n q)(n0:0<n)(a:bW n p q):(qi n p.1 p.2).Perm (qi n q.1 q.2):=by obtain⟨g,tg,rfl⟩:=a;have lo:=xB wp.v.1 wp.v.2 n0;have lo':=xB wq.v.1 wq.v.2 n0;exact Lo.anew wp.v.1 wp.v.2 tg wp.all wq.all (xA wp.v.1) (xA wq.v.1) lo lo' (λl hl=>vN wp.v.1 wp.v.2 (lo.rw l hl)) (λl hl=>vN wq.v.1 wq.v.2 (lo'.rw l hl))
def DK{p:bQ}(wp:Wh n p)(n0:0<n)(k:Int):(qi n p.1 p.2).Perm (qi n (Sh k p).1 (Sh k p).2):=by have tx:=wp.v.1;have ty:=wp.v.2;have lo:=xB tx ty n0;have lo':=xB tx (tx.shr ty k) n0;have e1:=HI tx;have e2:=HI ty;have:=Lo.anew (g:=upto n) (rs:=lq n p.1) (rs':=lq n p.1) (lows:=og n p.1 p.2) (gK:=og n p.1 (shr p.1 p.2 k)) (B:=iS n p.1 p.2) (B':=iS n p.1 (shr p.1 p.2 k)) tx ty (sD n) wp.all (by rw[e1,e2];exact wp.all) (xA tx) (by rw[e1];exact xA tx) lo (by rw[e1,e2];exact lo'.sh tx ty) (λl hl=>vN tx ty (lo.rw l hl)) (λl hl=>by rw[e1,e2];exact(vN tx (tx.shr ty k) (lo'.rw l hl)).sh tx ty);exact this
abbrev Gd(T:T4)(p c:Int):Prop:=T.a*p+T.b*c=1/\T.c*p+T.d*c=0
def QA{T U:T4}{p c:Int}(hT:T.a*T.d-T.b*T.c=1)(hU:U.a*U.d-U.b*U.c=1)(gT:Gd T p c)(gU:Gd U p c):U=T4.mul ⟨1,T.a*U.b-U.a*T.b,0,1⟩ T:=by
 obtain⟨t1,t2⟩:=HE hT gT.2;obtain⟨u1,u2⟩:=HE hU gU.2;rw[gT.1,Zcy]at t1 t2;rw[gU.1,Zcy]at u1 u2;have e1:U.c=T.c:=by lk
 have e2:U.d=T.d:=by lk
 apply T4.ext';show U.a=1*T.a+(T.a*U.b-U.a*T.b)*T.c;rw[e1,e2]at hU;have:(T.a*U.b-U.a*T.b)*T.c=T.a*(U.b*T.c)-U.a*(T.b*T.c):=by rw[Zcl,ZaL,ZaL]
 rw[this,show U.b*T.c=U.a*T.d-1 by lk,show T.b*T.c=T.a*T.d-1 by lk,Zck,Zck,<- ZaL,<- ZaL,ZaU T.a U.a];lk;show U.b=1*T.b+(T.a*U.b-U.a*T.b)*T.d;rw[e1,e2]at hU;have:(T.a*U.b-U.a*T.b)*T.d=U.b*(T.a*T.d)-T.b*(U.a*T.d):=by rw[Zcl,ZaU T.a U.b,ZaU U.a T.b,ZaL,ZaL]
 rw[this,show T.a*T.d=1+T.b*T.c by lk,show U.a*T.d=1+U.b*T.c by lk,Zb0,Zb0,<- ZaL,<- ZaL,ZaU U.b T.b];lk;show U.c=0*T.a+1*T.c;lk;show U.d=0*T.b+1*T.d;lk
def along{p:bQ}(wp:Wh n p)(n0:0<n){u w:List Sp}{x y:Int}(hu:∀s∈u,cE s)(hw:∀s∈w,cE s)(gu:Gd (av u) x y)(gw:Gd (av w) x y):(qi n (gI p u).1 (gI p u).2).Perm (qi n (gI p w).1 (gI p w).2):=by
 have e:=QA (xw hw) (xw hu) gw gu;generalize (av w).a*(av u).b-(av u).a*(av w).b=k at e;have wu:=wp.ld n0 (w:=u);have ww:=wp.ld n0 (w:=w);have hk:∀s∈w ++ oB k,cE s:=λs hs=>by
  rcases ZaF.mp hs with hs|hs
  exact hw s hs;exact(ze s hs).1
 have wk:=wp.ld n0 (w:=w ++ oB k);have e2:av u=av (w ++ oB k):=by rw[sT,DH];exact e
 refine(Qz wu wk n0 (LQ hu hk e2 wp.v)).trans ?_;rw[Hy];unfold oB;split;exact Zbh _;exact(DK ww n0 k).symm
end
abbrev tq(a b:Int):Int:=((a.natAbs / b.natAbs:Nat):Int)*(if a*b<0 then -1 else 1)
abbrev Wy(q:Int):List Sp:=oB (-q) ++ [(false,1)]
end ae
namespace L4
open PySem PySem.Spec L2
inductive D where
 |non|bl (b:Bool)|int (i:Int)|str (x:Str)|ty (n:String)|tup (ds:List D)|ref (i:Nat)
instance:Inhabited D:=⟨.non⟩
inductive O where
 |lst (ds:List D)|sE (ds:List D)|dct (kvs:List (Key×D))|HJ (kvs:List (List Int×D))|exc (c:Str) (fs:List (Str×D))|any|jR (lo hi:Int)
@[reducible]def Store:=List O
@[reducible]def aj:=List (Option D)
@[reducible]def Dm(α:Type):=Store->Option (α×Store)
inductive Fl where
 |nx (δ:aj)|bk (δ:aj)|ct (δ:aj)|rt (d:D)
mutual
inductive Rp(K:Zfr)(ρ:List Addr)(H:Hp):V->D->Prop
 |non:Rp K ρ H .non .non
 |bl (b:Bool):Rp K ρ H (.bl b) (.bl b)
 |int (i:Int):Rp K ρ H (.int i) (.int i)
 |str (x:Str):Rp K ρ H (.str x) (.str x)
 |ty (n:String):Rp K ρ H (.ty n) (.ty n)
 |ref {a:Addr} {i:Nat}:ρ[i]?=some a->Rp K ρ H (.ref a) (.ref i)
 |tup {a:Addr} {vs:List V} {ds:List D}:eQ K H a vs->cq K ρ H vs ds->Rp K ρ H (.ref a) (.tup ds)
inductive cq(K:Zfr)(ρ:List Addr)(H:Hp):List V->List D->Prop
 |nil:cq K ρ H [] []
 |cons {v:V} {vs:List V} {d:D} {ds:List D}:Rp K ρ H v d->cq K ρ H vs ds->cq K ρ H (v :: vs) (d :: ds)
end
structure Mn(K:Zfr)(ρ:List Addr)(H:Hp)(ρ':List Addr)(H':Hp):Prop where
 r:∀(i:Nat) (a:Addr),ρ[i]?=some a->ρ'[i]?=some a
 t:∀a vs,eQ K H a vs->eQ K H' a vs
 f:∀a o u,H a=some (.oX o u)->H' a=some (.oX o u)
 x:∀a ws,H a=some (.xd ws)->H' a=some (.xd ws)
section
variable {K:Zfr}{ρ ρ' ρ2:List Addr}{H H' H2:Hp}
def Mn.refl:Mn K ρ H ρ H:=⟨λ_ _ h=>h,λ_ _ h=>h,λ_ _ _ h=>h,λ_ _ h=>h⟩
def Mn.trans(m:Mn K ρ H ρ' H')(n:Mn K ρ' H' ρ2 H2):Mn K ρ H ρ2 H2:=⟨λi a h=>n.r i a (m.r i a h),λa vs h=>n.t a vs (m.t a vs h),λa o u h=>n.f a o u (m.f a o u h),λa ws h=>n.x a ws (m.x a ws h)⟩
mutual
def Rp.mn(m:Mn K ρ H ρ' H'):∀{v:V} {d:D},Rp K ρ H v d->Rp K ρ' H' v d
 |_,_,.non=>.non
 |_,_,.bl b=>.bl b
 |_,_,.int i=>.int i
 |_,_,.str x=>.str x
 |_,_,.ty n=>.ty n
 |_,_,.ref e=>.ref (m.r _ _ e)
 |_,_,.tup q r=>.tup (m.t _ _ q) (cq.mn m r)
def cq.mn(m:Mn K ρ H ρ' H'):∀{vs:List V} {ds:List D},cq K ρ H vs ds->cq K ρ' H' vs ds
 |_,_,.nil=>.nil
 |_,_,.cons a b=>.cons (Rp.mn m a) (cq.mn m b)
end
def cq.length:∀{vs:List V} {ds:List D},cq K ρ H vs ds->vs.length=ds.length
 |_,_,.nil=>rfl
 |_,_,.cons _ r=>by rw[Zaz,Zaz,r.length]
def cq.got:∀{vs:List V} {ds:List D},cq K ρ H vs ds->∀{i:Nat} {d:D},ds[i]?=some d->∃v,vs[i]?=some v/\Rp K ρ H v d
 |_,_,.nil,i,v,e=>by simp at e
 |_,_,.cons (v:=v) a b,0,d,e=>⟨v,by simp,by have:_=d:=Zaq (by simpa using e);rw[<- this];exact a⟩
 |_,_,.cons a b,i+1,d,e=>by
  obtain⟨v,e1,r⟩:=cq.got b (i:=i) (by simpa using e);exact⟨v,by simpa using e1,r⟩
def cq.append:∀{vs:List V} {ds:List D} {ws:List V} {es:List D},cq K ρ H vs ds->cq K ρ H ws es->cq K ρ H (vs ++ ws) (ds ++ es)
 |_,_,_,_,.nil,s=>s
 |_,_,_,_,.cons a b,s=>.cons a (cq.append b s)
def cq.one{v:V}{d:D}(r:Rp K ρ H v d):cq K ρ H [v] [d]:=.cons r .nil
def cq.take:∀{vs:List V} {ds:List D} (n:Nat),cq K ρ H vs ds->cq K ρ H (vs.take n) (ds.take n)
 |_,_,0,_=>.nil
 |_,_,_+1,.nil=>.nil
 |_,_,n+1,.cons r t=>.cons r (cq.take n t)
def cq.drop:∀{vs:List V} {ds:List D} (n:Nat),cq K ρ H vs ds->cq K ρ H (vs.drop n) (ds.drop n)
 |_,_,0,r=>r
 |_,_,_+1,.nil=>.nil
 |_,_,n+1,.cons _ t=>cq.drop n t
def cq.set{v:V}{d:D}(r:Rp K ρ H v d):∀{vs:List V} {ds:List D} (i:Nat),cq K ρ H vs ds->cq K ρ H (vs.set i v) (ds.set i d)
 |_,_,_,.nil=>.nil
 |_,_,0,.cons _ t=>.cons r t
 |_,_,i+1,.cons q t=>.cons q (cq.set r i t)
def cq.erase:∀{vs:List V} {ds:List D} (i:Nat),cq K ρ H vs ds->cq K ρ H (vs.eraseIdx i) (ds.eraseIdx i)
 |_,_,_,.nil=>.nil
 |_,_,0,.cons _ t=>t
 |_,_,i+1,.cons q t=>.cons q (cq.erase i t)
def cq.flat{vs:List V}{ds:List D}(r:cq K ρ H vs ds):∀n:Nat,cq K ρ H (List.replicate n vs).flatten (List.replicate n ds).flatten
 |0=>.nil
 |n+1=>by rw[Za7,Za7,Za5,Za5];exact r.append (r.flat n)
def cq.ints:∀(ns:List Int),cq K ρ H (ns.map V.int) (ns.map D.int)
 |[]=>.nil
 |n :: r=>.cons (.int n) (cq.ints r)
end
abbrev Rs(K:Zfr)(ρ:List Addr)(H:Hp)(σ:St)(δ:aj):Prop:=σ.length=δ.length/\∀(i:Nat) (d:D),δ[i]?=some (some d)->∃v,σ[i]?=some (some v)/\Rp K ρ H v d
abbrev Rk(K:Zfr)(ρ:List Addr)(H:Hp):List (Key×V)->List (Key×D)->Prop:=Paired λp q=>p.1=q.1/\Rp K ρ H p.2 q.2
abbrev Ru(K:Zfr)(ρ:List Addr)(H:Hp):List (List Int×D)->List (List Int×Addr×Value)->Prop:=Paired λq x=>q.1=x.1/\eQ K H x.2.1 (x.1.map V.int)/\∃v,RelV v x.2.2/\Rp K ρ H v q.2
abbrev Xd(K:Zfr)(ρ:List Addr)(H:Hp):Option Addr->List (Str×D)->Prop
 |none,fs=>fs=[]
 |some d,fs=>∃ws,H d=some (.xd ws)/\∀f e,fs.lookup f=some e->∃v,ws.lookup f=some v/\Rp K ρ H v e
abbrev xC(K:Zfr)(ρ:List Addr)(H:Hp)(a:Addr):O->Prop
 |.lst ds=>∃vs,H a=some (.lst vs)/\cq K ρ H vs ds
 |.sE ds=>∃vs,CT K H a vs/\cq K ρ H vs ds
 |.dct kvs=>∃ws,H a=some (.dK ws)/\Rk K ρ H ws kvs
 |.HJ kvs=>∃xs,H a=some (DU a xs)/\Ru K ρ H kvs xs
 |.exc c fs=>∃C dx tr,PySem.W.nsIn K mainGlobals c=some (some (.ref C))/\H a=some (XO a C dx tr)/\Xd K ρ H dx fs
 |.any=>True
 |.jR lo hi=>H a=some (.jR lo hi)
abbrev O.mut:O->Bool
 |.sE _=>false
 |.any=>false
 |_=>true
structure Rl(K:Zfr)(ρ:List Addr)(H:Hp)(st:Store):Prop where
 len:ρ.length=st.length
 nd:∀(i j:Nat) (a:Addr) (o o':O),ρ[i]?=some a->ρ[j]?=some a->st[i]?=some o->st[j]?=some o'->o.mut=true->o'.mut=true->i=j
 obj:∀(i:Nat) (a:Addr) (o:O),ρ[i]?=some a->st[i]?=some o->xC K ρ H a o
section
variable {K:Zfr}{ρ ρ' ρ2:List Addr}{H H' H2:Hp}{st st':Store}{a p:Addr}{i:Nat}{o o':O}{ho:HO}{σ:St}{δ:aj}
def Rs.mn(h:Rs K ρ H σ δ)(m:Mn K ρ H ρ' H'):Rs K ρ' H' σ δ:=⟨h.1,λi d e=>let ⟨v,e1,r⟩:=h.2 i d e;⟨v,e1,r.mn m⟩⟩
def Rk.mn(m:Mn K ρ H ρ' H'){ws:List (Key×V)}{kvs:List (Key×D)}(h:Rk K ρ H ws kvs):Rk K ρ' H' ws kvs:=by
 induction h with
 |nil=>exact .nil
 |cons a _ ih=>exact .cons ⟨a.1,a.2.mn m⟩ ih
def Ru.mn(m:Mn K ρ H ρ' H'){kvs:List (List Int×D)}{xs:List (List Int×Addr×Value)}(h:Ru K ρ H kvs xs):Ru K ρ' H' kvs xs:=by
 induction h with
 |nil=>exact .nil
 |cons a _ ih=>obtain⟨a1,a2,v,a3,a4⟩:=a;exact .cons ⟨a1,m.t _ _ a2,v,a3,a4.mn m⟩ ih
def Xd.mn(m:Mn K ρ H ρ' H'){dx:Option Addr}{fs:List (Str×D)}(h:Xd K ρ H dx fs):Xd K ρ' H' dx fs:=by
 cases dx with
 |none=>exact h
 |some d=>obtain⟨ws,e,q⟩:=h;exact⟨ws,m.x _ _ e,λf e' z=>let ⟨v,z1,z2⟩:=q f e' z;⟨v,z1,z2.mn m⟩⟩
def xC.keep(m:Mn K ρ H ρ' H')(h:∀u,H a=some u->H' a=some u)(r:xC K ρ H a o):xC K ρ' H' a o:=by
 cases o with
 |lst ds=>obtain⟨vs,e,q⟩:=r;exact⟨vs,h _ e,q.mn m⟩
 |sE ds =>
  obtain⟨vs,e,q⟩:=r;refine⟨vs,?_,q.mn m⟩;rcases e with⟨u,e⟩|e
  exact .inl ⟨u,h _ e⟩;exact .inr e
 |dct kvs=>obtain⟨ws,e,q⟩:=r;exact⟨ws,h _ e,q.mn m⟩
 |HJ kvs=>obtain⟨ws,e,q⟩:=r;exact⟨ws,h _ e,q.mn m⟩
 |exc c fs=>obtain⟨C,dx,tr,n,e,q⟩:=r;exact⟨C,dx,tr,n,h _ e,q.mn m⟩
 |any=>trivial
 |jR lo hi=>exact h _ r
def Mn.same(s:jV H H'):Mn K ρ H ρ H':=⟨λ_ _ h=>h,λ_ _ h=>(Kp.of_same (ch:=[]) s).K2 h,λ_ _ _ h=>s _ _ h,λ_ _ h=>s _ _ h⟩
def Rl.same(l:Rl K ρ H st)(s:jV H H'):Rl K ρ H' st:=⟨l.len,l.nd,λi a o h1 h2=>(l.obj i a o h1 h2).keep (Mn.same s) λu e=>s _ _ e⟩
def Rl.at(l:Rl K ρ H st)(h1:ρ[i]?=some a)(h2:st[i]?=some o)(hm:o.mut=true):∃u,H a=some u/\∀x y,u≠.oX x y:=by
 have r:=l.obj i a o h1 h2;cases o with
 |lst ds=>obtain⟨vs,e,_⟩:=r;exact⟨_,e,λx y z=>nomatch z⟩
 |sE ds=>cases hm
 |dct kvs=>obtain⟨ws,e,_⟩:=r;exact⟨_,e,λx y z=>nomatch z⟩
 |HJ kvs=>obtain⟨ws,e,_⟩:=r;exact⟨_,e,λx y z=>by cases z⟩
 |exc c fs=>obtain⟨C,dx,tr,_,e,_⟩:=r;exact⟨_,e,λx y z=>by cases z⟩
 |any=>cases hm
 |jR lo hi=>exact⟨_,r,λx y z=>nomatch z⟩
def Mn.new(hp:H p=none):Mn K ρ H (ρ ++ [p]) (upd H p ho):=⟨λi a h=>by
  obtain⟨hi,_⟩:=Zac.mp h
  rw[Zav hi];exact h,λ_ _ h=>(Kp.of_same (ch:=[]) (jV.up hp)).K2 h,λ_ _ _ h=>jV.up hp _ _ h,λ_ _ h=>jV.up hp _ _ h⟩
def Rl.new(l:Rl K ρ H st)(hp:H p=none)(mk:xC K (ρ ++ [p]) (upd H p ho) p o):Rl K (ρ ++ [p]) (upd H p ho) (st ++ [o]):=by
 have m:Mn K ρ H (ρ ++ [p]) (upd H p ho):=Mn.new hp;have split:∀(i:Nat) (a:Addr) (o':O),(ρ ++ [p])[i]?=some a->(st ++ [o])[i]?=some o'->(ρ[i]?=some a/\st[i]?=some o')\/(i=ρ.length/\a=p/\o'=o):=λi a o' h1 h2=>by
  by_cases hi:i<ρ.length;rw[Zav hi]at h1;rw[Zav (by rw[<- l.len];exact hi)]at h2;exact .inl ⟨h1,h2⟩;obtain⟨hb,_⟩:=Zac.mp h1;rw[Zaj,ZaK]at hb;have e:i=ρ.length:=by lk
  subst e;rw[ZaC (Zad _),Zb1]at h1;rw[l.len,ZaC (Zad _),Zb1]at h2;exact .inr ⟨rfl,(Zaq h1).symm,(Zaq h2).symm⟩
 refine⟨by rw[Zaj,Zaj,l.len];rfl,λi j a u u' h1 h2 h3 h4 m1 m2=>?_,λi a u h1 h2=>?_⟩;rcases split i a u h1 h3 with⟨g1,g2⟩|⟨rfl,rfl,rfl⟩<;>rcases split j _ u' h2 h4 with⟨k1,k2⟩|⟨k1,k2,k3⟩
 exact l.nd i j a u u' g1 k1 g2 k2 m1 m2;subst k2;obtain⟨w,e,_⟩:=l.at g1 g2 m1;rw[e]at hp;cases hp;obtain⟨w,e,_⟩:=l.at k1 k2 m2;rw[e]at hp;cases hp;exact k1.symm;rcases split i a u h1 h2 with⟨g1,g2⟩|⟨rfl,rfl,rfl⟩
 exact(l.obj i a u g1 g2).keep m λw e=>jV.up hp _ _ e;exact mk
def Rl.put(l:Rl K ρ H st)(hi:ρ[i]?=some a)(hs:st[i]?=some o)(hm:o.mut=true)(hm':o'.mut=true)(m:Mn K ρ H ρ (upd H a ho))(r:xC K ρ (upd H a ho) a o'):Rl K ρ (upd H a ho) (st.set i o'):=by
 obtain⟨w,ew,nf⟩:=l.at hi hs hm;have Wz:i<st.length:=(Zac.mp hs).1;have old:∀(j:Nat) (u:O),(st.set i o')[j]?=some u->(j=i/\u=o')\/(j≠i/\st[j]?=some u):=λj u h=>by
  by_cases hj:i=j;subst hj;rw[Zao Wz]at h;exact .inl ⟨rfl,(Zaq h).symm⟩;rw[ZaG hj]at h;exact .inr ⟨λz=>hj z.symm,h⟩
 refine⟨by rw[Zbj];exact l.len,λj k b u u' h1 h2 h3 h4 m1 m2=>?_,λj b u h1 h2=>?_⟩;rcases old j u h3 with⟨rfl,rfl⟩|⟨nj,g3⟩<;>rcases old k u' h4 with⟨rfl,rfl⟩|⟨nk,g4⟩
 rfl;exact l.nd _ _ b o u' h1 h2 hs g4 hm m2;exact l.nd _ _ b u o h1 h2 g3 hs m1 hm;exact l.nd _ _ b u u' h1 h2 g3 g4 m1 m2;rcases old j u h2 with⟨rfl,rfl⟩|⟨nj,g2⟩
 rw[hi]at h1;cases h1;exact r;by_cases hb:b=a;subst hb;cases u with
 |sE ds =>
  obtain⟨vs,e,q⟩:=l.obj j b _ h1 g2;refine⟨vs,?_,q.mn m⟩;rcases e with⟨x,e⟩|e
  rw[ew]at e;cases e;exact absurd rfl (nf _ _);exact .inr e
 |lst ds=>exact absurd (l.nd j i b _ o h1 hi g2 hs rfl hm) nj
 |HJ ds=>exact absurd (l.nd j i b _ o h1 hi g2 hs rfl hm) nj
 |exc c fs=>exact absurd (l.nd j i b _ o h1 hi g2 hs rfl hm) nj
 |dct ds=>exact absurd (l.nd j i b _ o h1 hi g2 hs rfl hm) nj
 |any=>trivial
 |jR lo up=>exact absurd (l.nd j i b _ o h1 hi g2 hs rfl hm) nj
 exact(l.obj j b u h1 g2).keep m λw e=>by rw[kD hb];exact e
def Mn.put{xs:List V}(e:H a=some (.lst xs)):Mn K ρ H ρ (upd H a ho):=⟨λ_ _ h=>h,λb vs h=>(Kp.put (ch:=[a]) (o:=ho) Kp.refl (by simp) e).K2 h,λb o u h=>by rw[kD (λz=>by rw[z,e]at h;cases h)];exact h,λb ws h=>by rw[kD (λz=>by rw[z,e]at h;cases h)];exact h⟩
def Mn.putD{ws:List (Key×V)}(e:H a=some (.dK ws)):Mn K ρ H ρ (upd H a ho):=⟨λ_ _ h=>h,λb vs q=>by
 have ne:∀u,H b=some u->(∀w,u≠.dK w)->b≠a:=λu hu n z=>by rw[z,e]at hu;cases hu;exact n _ rfl
 rcases q with(q|⟨o,q⟩)|q
 exact .inl (.inl (by rw[kD (ne _ q λw z=>nomatch z)];exact q));exact .inl (.inr ⟨o,by rw[kD (ne _ q λw z=>nomatch z)];exact q⟩)
 exact .inr q,λb o u h=>by rw[kD (λz=>by rw[z,e]at h;cases h)];exact h,λb ws h=>by rw[kD (λz=>by rw[z,e]at h;cases h)];exact h⟩
def Rl.newL{vs:List V}{ds:List D}(l:Rl K ρ H st)(hp:H p=none)(r:cq K ρ H vs ds):Rl K (ρ ++ [p]) (upd H p (.lst vs)) (st ++ [.lst ds]):=l.new hp ⟨vs,sP,r.mn (Mn.new hp)⟩
def Rl.newD{vs:List (Key×V)}{ds:List (Key×D)}(l:Rl K ρ H st)(hp:H p=none)(r:Rk K ρ H vs ds):Rl K (ρ ++ [p]) (upd H p (.dK vs)) (st ++ [.dct ds]):=l.new hp ⟨vs,sP,r.mn (Mn.new hp)⟩
def newR(l:Rl K ρ H st)(v:D:=.ref st.length):(ρ ++ [p])[st.length]?=some p:=by rw[<- l.len,ZaC (Zad _),Zb1];rfl
def Rl.putL{vs:List V}{ds xs:List D}(l:Rl K ρ H st)(hi:ρ[i]?=some a)(hs:st[i]?=some (.lst xs))(r:cq K ρ H vs ds):Rl K ρ (upd H a (.lst vs)) (st.set i (.lst ds))/\Mn K ρ H ρ (upd H a (.lst vs)):=by obtain⟨ws,e,_⟩:=l.obj i a _ hi hs;have m:Mn K ρ H ρ (upd H a (.lst vs)):=Mn.put e;exact⟨l.put hi hs rfl rfl m ⟨vs,sP,r.mn m⟩,m⟩
def Rl.um{vs:List (Key×V)}{ds xs:List (Key×D)}(l:Rl K ρ H st)(hi:ρ[i]?=some a)(hs:st[i]?=some (.dct xs))(r:Rk K ρ H vs ds):Rl K ρ (upd H a (.dK vs)) (st.set i (.dct ds))/\Mn K ρ H ρ (upd H a (.dK vs)):=by obtain⟨ws,e,_⟩:=l.obj i a _ hi hs;have m:Mn K ρ H ρ (upd H a (.dK vs)):=Mn.putD e;exact⟨l.put hi hs rfl rfl m ⟨vs,sP,r.mn m⟩,m⟩
abbrev items(st:Store)(i:Nat):Option (List D):=match st[i]? with
 |some (.lst ds)=>some ds
 |some (.sE ds)=>some ds
 |_=>none
def Rl.items{ds:List D}(l:Rl K ρ H st)(hi:ρ[i]?=some a)(h:items st i=some ds):∃vs,iL K H a vs/\cq K ρ H vs ds:=by
 unfold L4.items at h;split at h
 ·next ds' hs=>cases h;obtain⟨vs,e,r⟩:=l.obj i a _ hi hs;exact⟨vs,.inl (.inl e),r⟩
 ·next ds' hs=>cases h;obtain⟨vs,e,r⟩:=l.obj i a _ hi hs;exact⟨vs,e.sq,r⟩
 ·cases h
end
abbrev So(K:Zfr){α β:Type}(R:List Addr->Hp->α->β->Prop)(t:St->Hp->(α->Hp->Prop)->Prop)(f:aj->Dm β):Prop :=
 ∀(ρ:List Addr) (σ:St) (H:Hp) (δ:aj) (st:Store) (b:β) (st':Store) (Q:α->Hp->Prop),Rl K ρ H st->Rs K ρ H σ δ->f δ st=some (b,st') ->
  (∀a H' ρ',Mn K ρ H ρ' H'->Rl K ρ' H' st'->R ρ' H' a b->Q a H')->t σ H Q
@[reducible]def fg(K:Zfr)(t:TE)(f:aj->Dm D):Prop:=So K (Rp K) t f
@[reducible]def qR(K:Zfr)(t:TT)(f:aj->Dm Bool):Prop:=So K (λ_ _=>Eq) t f
@[reducible]def sU(K:Zfr)(t:TA)(f:aj->Dm (List D)):Prop:=So K (cq K) t f
@[reducible]def HK(K:Zfr)(t:TO)(f:aj->Dm (Option Int)):Prop:=So K (λ_ _=>Eq) t f
abbrev LX(K:Zfr)(r:V->Hp->VK->Prop)(g:D->Dm D):Prop :=
 ∀(ρ:List Addr) (H:Hp) (st:Store) (x:V) (a:D) (b:D) (st':Store) (Q:VK),Rl K ρ H st->Rp K ρ H x a->g a st=some (b,st')->(∀v H' ρ',Mn K ρ H ρ' H'->Rl K ρ' H' st'->Rp K ρ' H' v b->Q v H')->r x H Q
abbrev ng(K:Zfr)(r:R2)(g:D->D->Dm D):Prop :=
 ∀(ρ:List Addr) (H:Hp) (st:Store) (x y:V) (a c:D) (b:D) (st':Store) (Q:VK),Rl K ρ H st->Rp K ρ H x a->Rp K ρ H y c->g a c st=some (b,st')->(∀v H' ρ',Mn K ρ H ρ' H'->Rl K ρ' H' st'->Rp K ρ' H' v b->Q v H')->r x y H Q
abbrev qA(K:Zfr)(r:List V->Hp->VK->Prop)(g:List D->Dm D):Prop :=
 ∀(ρ:List Addr) (H:Hp) (st:Store) (xs:List V) (as:List D) (b:D) (st':Store) (Q:VK),Rl K ρ H st->cq K ρ H xs as->g as st=some (b,st')->(∀v H' ρ',Mn K ρ H ρ' H'->Rl K ρ' H' st'->Rp K ρ' H' v b->Q v H')->r xs H Q
abbrev Bt(K:Zfr)(T:String)(r:V->List V->Hp->VK->Prop)(g:D->List D->Dm D):Prop :=
 ∀(ρ:List Addr) (H:Hp) (st:Store) (x:V) (xs:List V) (a:D) (as:List D) (b:D) (st':Store) (Q:VK),Rl K ρ H st->Rp K ρ H x a->cq K ρ H xs as->g a as st=some (b,st')->(∀v H' ρ',Mn K ρ H ρ' H'->Rl K ρ' H' st'->Rp K ρ' H' v b->Q v H')->r x xs H Q
abbrev bnd{α β:Type}(m:Option (α×Store))(k:α->Dm β):Option (β×Store):=match m with
 |some (a,st)=>k a st
 |none=>none
def di{α β:Type}{m:Option (α×Store)}{k:α->Dm β}{r:β×Store}(h:bnd m k=some r):∃a st,m=some (a,st)/\k a st=some r:=by
 cases m with
 |none=>cases h
 |some p=>exact⟨p.1,p.2,rfl,h⟩
section
variable {K:Zfr}
abbrev ag(i:Nat):aj->Dm D:=λδ st=>match δ[i]? with
 |some (some d)=>some (d,st)
 |_=>none
def ai(i:Nat):fg K (yf i) (ag i):=by
 intro ρ σ H δ st b st' Q l rs e q;unfold ag at e;split at e
 ·next d hd=>cases e;obtain⟨v,ev,r⟩:=rs.2 i _ hd;exact⟨v,ev,q v H ρ .refl l r⟩
 ·cases e
abbrev fC(d:D):aj->Dm D:=λ_ st=>some (d,st)
def vO{v:V}{d:D}(h:∀ρ H,Rp K ρ H v d):fg K (tC v) (fC d):=by intro ρ σ H δ st b st' Q l rs e q;cases e;exact q v H ρ .refl l (h ρ H)
def aK(i:Int):fg K (tC (.int i)) (fC (.int i)):=vO λ_ _=>.int i
def Bu(b:Bool):fg K (tC (.bl b)) (fC (.bl b)):=vO λ_ _=>.bl b
def pY(x:Str):fg K (tC (.str x)) (fC (.str x)):=vO λ_ _=>.str x
abbrev aB(g:D->D->Dm D)(fa fb:aj->Dm D):aj->Dm D:=λδ st=>bnd (fa δ st) λa st1=>bnd (fb δ st1) λb st2=>g a b st2
def aC{r:R2}{g:D->D->Dm D}{ta tb:TE}{fa fb:aj->Dm D}(hr:ng K r g)(ha:fg K ta fa)(hb:fg K tb fb):fg K (Cq r ta tb) (aB g fa fb):=by intro ρ σ H δ st b st' Q l rs e q;obtain⟨a,st1,e1,e⟩:=di e;obtain⟨c,st2,e2,e⟩:=di e;refine ha ρ σ H δ st a st1 _ l rs e1 λx H1 ρ1 m1 l1 r1=>hb ρ1 σ H1 δ st1 c st2 _ l1 (rs.mn m1) e2 λy H2 ρ2 m2 l2 r2=>?_;exact hr ρ2 H2 st2 x y a c b st' Q l2 (r1.mn m2) r2 e λv H3 ρ3 m3 l3 r3=>q v H3 ρ3 ((m1.trans m2).trans m3) l3 r3
abbrev pj(g:D->Dm D)(fa:aj->Dm D):aj->Dm D:=λδ st=>bnd (fa δ st) λa st1=>g a st1
def qj{r:V->Hp->VK->Prop}{g:D->Dm D}{ta:TE}{fa:aj->Dm D}(hr:LX K r g)(ha:fg K ta fa):fg K (NM r ta) (pj g fa):=by intro ρ σ H δ st b st' Q l rs e q;obtain⟨a,st1,e1,e⟩:=di e;exact ha ρ σ H δ st a st1 _ l rs e1 λx H1 ρ1 m1 l1 r1=>hr ρ1 H1 st1 x a b st' Q l1 r1 e λv H3 ρ3 m3 l3 r3=>q v H3 ρ3 (m1.trans m3) l3 r3
abbrev ah:aj->Dm (List D):=λ_ st=>some ([],st)
abbrev af(fa:aj->Dm D)(fr:aj->Dm (List D)):aj->Dm (List D):=λδ st=>bnd (fa δ st) λa st1=>bnd (fr δ st1) λr st2=>some (a :: r,st2)
def ay:sU K Cz ah:=by intro ρ σ H δ st b st' Q l rs e q;cases e;exact q [] H ρ .refl l .nil
def ao{ta:TE}{tr:TA}{fa:aj->Dm D}{fr:aj->Dm (List D)}(ha:fg K ta fa)(hr:sU K tr fr):sU K (wU ta tr) (af fa fr):=by intro ρ σ H δ st b st' Q l rs e q;obtain⟨a,st1,e1,e⟩:=di e;obtain⟨c,st2,e2,e⟩:=di e;cases e;exact ha ρ σ H δ st a st1 _ l rs e1 λx H1 ρ1 m1 l1 r1=>hr ρ1 σ H1 δ st1 c _ _ l1 (rs.mn m1) e2 λy H2 ρ2 m2 l2 r2=>q _ H2 ρ2 (m1.trans m2) l2 (.cons (r1.mn m2) r2)
abbrev lim(n:Nat):Bool:=Nat.ble n 100000
def zg{n:Nat}(h:lim n=true):n<=sizeLine:=Zap (Zcu h) ∅
def LY{n:Nat}(h:lim n=true):n<sizeLine:=ZaT (Zcu h) ∅
abbrev b8(fa:aj->Dm (List D)):aj->Dm D:=λδ st=>bnd (fa δ st) λas st1=>if lim as.length=true then some (.tup as,st1)else none
def j3{ta:TA}{fa:aj->Dm (List D)}(ha:sU K ta fa):fg K (CA ta) (b8 fa):=by
 intro ρ σ H δ st b st' Q l rs e q;obtain⟨as,st1,e1,e⟩:=di e;split at e
 ·next hl =>
  cases e;refine ha ρ σ H δ st as _ _ l rs e1 λxs H1 ρ1 m1 l1 r1=>⟨by rw[r1.length];exact zg hl,λp hp=>?_⟩;have m2:Mn K ρ1 H1 ρ1 (upd H1 p (.tup xs)):=Mn.same (jV.up hp);exact q _ _ ρ1 (m1.trans m2) (l1.same (jV.up hp)) (.tup (eQ.of sP) (r1.mn m2))
 ·cases e
abbrev dB(fa:aj->Dm (List D)):aj->Dm D:=λδ st=>bnd (fa δ st) λas st1=>if lim as.length=true then some (.ref st1.length,st1 ++ [.lst as])else none
def nh{ta:TA}{fa:aj->Dm (List D)}(ha:sU K ta fa):fg K (CB ta) (dB fa):=by
 intro ρ σ H δ st b st' Q l rs e q;obtain⟨as,st1,e1,e⟩:=di e;split at e
 ·next hl =>
  cases e;refine ha ρ σ H δ st as _ _ l rs e1 λxs H1 ρ1 m1 l1 r1=>⟨by rw[r1.length];exact zg hl,λp hp=>?_⟩;exact q _ _ _ (m1.trans (Mn.new hp)) (l1.newL hp r1) (.ref (newR l1))
 ·cases e
abbrev aL(fa:aj->Dm D):aj->Dm Bool:=λδ st=>bnd (fa δ st) λa st1=>match a with
 |.bl b=>some (b,st1)
 |_=>none
def f6{ta:TE}{fa:aj->Dm D}(ha:fg K ta fa):qR K (wR ta) (aL fa):=by intro ρ σ H δ st b st' Q l rs e q;obtain⟨a,st1,e1,e⟩:=di e;cases a<;>simp at e;obtain⟨rfl,rfl⟩:=e;refine ha ρ σ H δ st _ _ _ l rs e1 λx H1 ρ1 m1 l1 r1=>?_;cases r1;exact⟨_,rfl,q _ H1 ρ1 m1 l1 rfl⟩
def HL{ta:TE}{fa:aj->Dm D}(ha:fg K ta fa):qR K (tB ta) (aL fa):=f6 ha
abbrev vP(fa:aj->Dm Bool):aj->Dm Bool:=λδ st=>bnd (fa δ st) λa st1=>some (!a,st1)
def zh{ta:TT}{fa:aj->Dm Bool}(ha:qR K ta fa):qR K (Ca ta) (vP fa):=by intro ρ σ H δ st b st' Q l rs e q;obtain⟨a,st1,e1,e⟩:=di e;cases e;exact ha ρ σ H δ st _ _ _ l rs e1 λx H1 ρ1 m1 l1 r1=>q _ H1 ρ1 m1 l1 (by rw[r1])
abbrev uo(fa fb:aj->Dm Bool):aj->Dm Bool:=λδ st=>bnd (fa δ st) λa st1=>if a=true then fb δ st1 else some (false,st1)
abbrev zi(fa fb:aj->Dm Bool):aj->Dm Bool:=λδ st=>bnd (fa δ st) λa st1=>if a=true then some (true,st1)else fb δ st1
def QB{ta tb:TT}{fa fb:aj->Dm Bool}(ha:qR K ta fa)(hb:qR K tb fb):qR K (B9 ta tb) (uo fa fb):=by
 intro ρ σ H δ st b st' Q l rs e q;obtain⟨a,st1,e1,e⟩:=di e;refine ha ρ σ H δ st _ _ _ l rs e1 λx H1 ρ1 m1 l1 r1=>?_;subst r1;cases x with
 |true =>
  refine qJ ?_;rw[if_pos rfl]at e;exact hb ρ1 σ H1 δ st1 b st' _ l1 (rs.mn m1) e λy H2 ρ2 m2 l2 r2=>q y H2 ρ2 (m1.trans m2) l2 r2
 |false =>
  refine qI ?_;rw[if_neg Zan]at e;cases e;exact q _ H1 ρ1 m1 l1 rfl
def HM{ta tb:TT}{fa fb:aj->Dm Bool}(ha:qR K ta fa)(hb:qR K tb fb):qR K (ND ta tb) (zi fa fb):=by
 intro ρ σ H δ st b st' Q l rs e q;obtain⟨a,st1,e1,e⟩:=di e;refine ha ρ σ H δ st _ _ _ l rs e1 λx H1 ρ1 m1 l1 r1=>?_;subst r1;cases x with
 |false =>
  refine qI ?_;rw[if_neg Zan]at e;exact hb ρ1 σ H1 δ st1 b st' _ l1 (rs.mn m1) e λy H2 ρ2 m2 l2 r2=>q y H2 ρ2 (m1.trans m2) l2 r2
 |true =>
  refine qJ ?_;rw[if_pos rfl]at e;cases e;exact q _ H1 ρ1 m1 l1 rfl
abbrev rP(fa fb:aj->Dm D):aj->Dm D:=λδ st=>bnd (aL fa δ st) λa st1=>if a=true then fb δ st1 else some (.bl false,st1)
abbrev DL(fa fb:aj->Dm D):aj->Dm D:=λδ st=>bnd (aL fa δ st) λa st1=>if a=true then some (.bl true,st1)else fb δ st1
abbrev xD(fa:aj->Dm D):aj->Dm D:=λδ st=>bnd (aL fa δ st) λa st1=>some (.bl (!a),st1)
def WA{fa:aj->Dm D}{δ:aj}{st st1:Store}{b:Bool}(h:aL fa δ st=some (b,st1)):fa δ st=some (.bl b,st1):=by obtain⟨a,st2,e1,e⟩:=di h;cases a<;>simp at e;obtain⟨rfl,rfl⟩:=e;exact e1
def WB{ta tb:TE}{fa fb:aj->Dm D}(ha:fg K ta fa)(hb:fg K tb fb):fg K (wK ta tb) (rP fa fb):=by
 intro ρ σ H δ st b st' Q l rs e q;obtain⟨a,st1,e1,e⟩:=di e;refine ha ρ σ H δ st _ _ _ l rs (WA e1) λx H1 ρ1 m1 l1 r1=>?_;cases r1;refine⟨a,rfl,?_⟩;cases a with
 |true =>
  refine qJ ?_;rw[if_pos rfl]at e;exact hb ρ1 σ H1 δ st1 b st' _ l1 (rs.mn m1) e λy H2 ρ2 m2 l2 r2=>q y H2 ρ2 (m1.trans m2) l2 r2
 |false =>
  refine qI ?_;rw[if_neg Zan]at e;cases e;exact q _ H1 ρ1 m1 l1 (.bl _)
abbrev jW{β:Type}(c:aj->Dm Bool)(fa fb:aj->Dm β):aj->Dm β:=λδ st=>bnd (c δ st) λa st1=>if a=true then fa δ st1 else fb δ st1
def DM{tc:TT}{ta tb:TE}{c:aj->Dm Bool}{fa fb:aj->Dm D}(hc:qR K tc c)(ha:fg K ta fa)(hb:fg K tb fb):fg K (NH tc ta tb) (jW c fa fb):=by
 intro ρ σ H δ st b st' Q l rs e q;obtain⟨a,st1,e1,e⟩:=di e;refine hc ρ σ H δ st _ _ _ l rs e1 λx H1 ρ1 m1 l1 r1=>?_;subst r1;cases x with
 |true =>
  refine qJ ?_;rw[if_pos rfl]at e;exact ha ρ1 σ H1 δ st1 b st' _ l1 (rs.mn m1) e λy H2 ρ2 m2 l2 r2=>q y H2 ρ2 (m1.trans m2) l2 r2
 |false =>
  refine qI ?_;rw[if_neg Zan]at e;exact hb ρ1 σ H1 δ st1 b st' _ l1 (rs.mn m1) e λy H2 ρ2 m2 l2 r2=>q y H2 ρ2 (m1.trans m2) l2 r2
abbrev gL:aj->Dm (Option Int):=λ_ st=>some (none,st)
abbrev l6(fa:aj->Dm D):aj->Dm (Option Int):=λδ st=>bnd (fa δ st) λa st1=>match a with
 |.int i=>some (some i,st1)
 |_=>none
def HN:HK K rh gL:=by intro ρ σ H δ st b st' Q l rs e q;cases e;exact q _ H ρ .refl l rfl
def HP{ta:TE}{fa:aj->Dm D}(ha:fg K ta fa):HK K (wW ta) (l6 fa):=by intro ρ σ H δ st b st' Q l rs e q;obtain⟨a,st1,e1,e⟩:=di e;cases a<;>simp at e;obtain⟨rfl,rfl⟩:=e;refine ha ρ σ H δ st _ _ _ l rs e1 λx H1 ρ1 m1 l1 r1=>?_;cases r1;exact⟨_,rfl,q _ H1 ρ1 m1 l1 rfl⟩
abbrev zj(K:Zfr)(r:V->Option Int->Option Int->Hp->VK->Prop)(g:D->Option Int->Option Int->Dm D):Prop :=
 ∀lo hi,LX K (λx=>r x lo hi) (λa=>g a lo hi)
abbrev vQ(g:D->Option Int->Option Int->Dm D)(fa:aj->Dm D)(fl fh:aj->Dm (Option Int)):aj->Dm D:=λδ st=>bnd (fa δ st) λa st1=>bnd (fl δ st1) λlo st2=>bnd (fh δ st2) λhi st3=>g a lo hi st3
def HQ{r:V->Option Int->Option Int->Hp->VK->Prop}{g:D->Option Int->Option Int->Dm D}{ta:TE}{tl th:TO}{fa:aj->Dm D}{fl fh:aj->Dm (Option Int)}(hr:zj K r g)(ha:fg K ta fa)(hl:HK K tl fl)(hh:HK K th fh):fg K (N7 r ta tl th) (vQ g fa fl fh):=by intro ρ σ H δ st b st' Q l rs e q;obtain⟨a,st1,e1,e⟩:=di e;obtain⟨lo,st2,e2,e⟩:=di e;obtain⟨hi,st3,e3,e⟩:=di e;refine ha ρ σ H δ st a st1 _ l rs e1 λx H1 ρ1 m1 l1 r1=>hl ρ1 σ H1 δ st1 lo st2 _ l1 (rs.mn m1) e2 λy H2 ρ2 m2 l2 r2=>hh ρ2 σ H2 δ st2 hi st3 _ l2 (rs.mn (m1.trans m2)) e3 λz H3 ρ3 m3 l3 r3=>?_;subst r2 r3;exact hr y z ρ3 H3 st3 x a b st' Q l3 (r1.mn (m2.trans m3)) e λv H4 ρ4 m4 l4 r4=>q v H4 ρ4 (((m1.trans m2).trans m3).trans m4) l4 r4
abbrev aG(g:List D->Dm D)(fa:aj->Dm (List D)):aj->Dm D:=λδ st=>bnd (fa δ st) λas st1=>g as st1
def b6{r:List V->Hp->VK->Prop}{g:List D->Dm D}{ta:TA}{fa:aj->Dm (List D)}(hr:qA K r g)(ha:sU K ta fa):fg K (Kx r ta) (aG g fa):=by intro ρ σ H δ st b st' Q l rs e q;obtain⟨as,st1,e1,e⟩:=di e;exact ha ρ σ H δ st as st1 _ l rs e1 λx H1 ρ1 m1 l1 r1=>hr ρ1 H1 st1 x as b st' Q l1 r1 e λv H3 ρ3 m3 l3 r3=>q v H3 ρ3 (m1.trans m3) l3 r3
abbrev a9(K:Zfr)(n:Nat)(F:List D->Dm D):Sp:=λvs H Q _=>vs.length=n/\∃(ρ:List Addr) (st:Store) (ds:List D) (b:D) (st':Store),Rl K ρ H st/\cq K ρ H vs ds/\F ds st=some (b,st') /\
 ∀v H' ρ',Mn K ρ H ρ' H'->Rl K ρ' H' st'->Rp K ρ' H' v b->Q v H'
def bG{n:Nat}{F:List D->Dm D}{ta:TA}{fa:aj->Dm (List D)}{E:XK}(ha:sU K ta fa)(hn:∀δ st as st',fa δ st=some (as,st')->as.length=n):fg K (tM (a9 K n F) [] E ta) (aG F fa):=by intro ρ σ H δ st b st' Q l rs e q;obtain⟨as,st1,e1,e⟩:=di e;refine ha ρ σ H δ st as st1 _ l rs e1 λvs H1 ρ1 m1 l1 r1=>⟨?_,ρ1,st1,as,b,st',l1,?_,e,λv H3 ρ3 m3 l3 r3=>q v H3 ρ3 (m1.trans m3) l3 r3⟩;rw[Zbt,r1.length];exact hn _ _ _ _ e1;rw[Zbt];exact r1
def WC{δ:aj}{st st':Store}{as:List D}(h:ah δ st=some (as,st')):as.length=0:=by cases h;rfl
def LZ{fa:aj->Dm D}{fr:aj->Dm (List D)}{n:Nat}(hr:∀δ st as st',fr δ st=some (as,st')->as.length=n):∀δ st as st',af fa fr δ st=some (as,st')->as.length=n+1:=λδ st as st' h=>by
 obtain⟨a,st1,e1,e⟩:=di h;obtain⟨c,st2,e2,e⟩:=di e;cases e;rw[Zaz,hr _ _ _ _ e2]
end
end L4
namespace L4
open PySem PySem.Spec L2
section
variable {K:Zfr}
abbrev xE(h:Int->Int->D):D->D->Dm D
 |.int i,.int j,st=>some (h i j,st)
 |_,_,_=>none
def Bw{gv:Int->Int->V}{h:Int->Int->D}(hh:∀i j ρ H,Rp K ρ H (gv i j) (h i j)):ng K (qE gv) (xE h):=by intro ρ H st x y a c b st' Q l rx ry e q;unfold xE at e;split at e;cases e;cases rx;cases ry;exact⟨_,_,rfl,rfl,q _ H ρ .refl l (hh _ _ ρ H)⟩;cases e
abbrev vR(c:Int->Int->Bool)(h:Int->Int->D):D->D->Dm D
 |.int i,.int j,st=>if c i j=true then some (h i j,st)else none
 |_,_,_=>none
def Bx{C:Int->Int->Prop}{c:Int->Int->Bool}{gv:Int->Int->V}{h:Int->Int->D}(hc:∀i j,c i j=true->C i j)(hh:∀i j ρ H,Rp K ρ H (gv i j) (h i j)):ng K (rI C gv) (vR c h):=by
 intro ρ H st x y a d b st' Q l rx ry e q;unfold vR at e;split at e
 ·split at e
  ·next hcc=>cases e;cases rx;cases ry;exact⟨_,_,rfl,rfl,hc _ _ hcc,q _ H ρ .refl l (hh _ _ ρ H)⟩
  ·cases e
 ·cases e
abbrev dU:D->D->Dm D:=xE λi j=>.int (i+j)
abbrev oH:D->D->Dm D:=xE λi j=>.int (i-j)
abbrev jX:D->D->Dm D:=vR (λi j=>decide (-18446744073709551616<i/\i<18446744073709551616) || decide (-18446744073709551616<j/\j<18446744073709551616)) λi j=>.int (i*j)
abbrev ni:D->D->Dm D:=vR (λi j=>decide (0<j/\j<1073741824)) λi j=>.int (i / j)
abbrev l8:D->D->Dm D:=vR (λi j=>decide (0<j)) λi j=>.int (i % j)
abbrev uq:D->D->Dm D:=vR (λi j=>decide (0<=j/\j<=1000000/\i.natAbs<18446744073709551616)) λi j=>.int (i ^ j.toNat)
abbrev vS:D->D->Dm D:=xE λi j=>.bl (decide (i<j))
abbrev L0:D->D->Dm D:=xE λi j=>.bl (decide (i<=j))
abbrev DN:D->D->Dm D:=xE λi j=>.bl (decide (j<i))
abbrev L3:D->D->Dm D:=xE λi j=>.bl (decide (j<=i))
def nt:ng K (qE λi j=>.int (i+j)) dU:=Bw λ_ _ _ _=>.int _
def DO:ng K (qE λi j=>.int (i-j)) oH:=Bw λ_ _ _ _=>.int _
def qS:ng K (rI tJ λi j=>.int (i*j)) jX:=Bx (λi j h=>by
 rw[ZbC,decide_eq_true_eq,decide_eq_true_eq]at h
 exact h) λ_ _ _ _=>.int _
def DP:ng K (rI Cs λi j=>.int (i / j)) ni:=Bx (λi j h=>of_decide_eq_true (p:=0<j/\j<1073741824) h) λ_ _ _ _=>.int _
def ur:ng K (rI (λ_ j=>0<j) λi j=>.int (i % j)) l8:=Bx (λi j h=>of_decide_eq_true h) λ_ _ _ _=>.int _
def QC:ng K (rI Ct λi j=>.int (i ^ j.toNat)) uq:=Bx (λi j h=>by have h:=of_decide_eq_true (p:=0<=j/\j<=1000000/\i.natAbs<18446744073709551616) h;exact⟨h.1,h.2.1,by lk⟩) λ_ _ _ _=>.int _
def zk:ng K (qE λi j=>.bl (decide (i<j))) vS:=Bw λ_ _ _ _=>.bl _
def DQ:ng K (qE λi j=>.bl (decide (i<=j))) L0:=Bw λ_ _ _ _=>.bl _
def L5:ng K (qE λi j=>.bl (decide (j<i))) DN:=Bw λ_ _ _ _=>.bl _
def DR:ng K (qE λi j=>.bl (decide (j<=i))) L3:=Bw λ_ _ _ _=>.bl _
abbrev iT:D->Dm D
 |.int i,st=>some (.int (-i),st)
 |_,_=>none
def qk:LX K (rU λi=>.int (-i)) iT:=by intro ρ H st x a b st' Q l rx e q;unfold iT at e;split at e;cases e;cases rx;exact⟨_,rfl,q _ H ρ .refl l (.int _)⟩;cases e
abbrev sV:D->Option V
 |.non=>some .non
 |.bl b=>some (.bl b)
 |.int i=>some (.int i)
 |.str x=>some (.str x)
 |_=>none
def By{ρ:List Addr}{H:Hp}{x v:V}{a:D}(r:Rp K ρ H x a)(h:sV a=some v):x=v:=by cases r<;>first|(cases h;rfl)|cases h
abbrev lU(neg:Bool):D->D->Dm D:=λa b st=>match sV a,sV b with
 |some x,some y=>if qG x y=true then some (.bl (if neg then !decide (x=y)else decide (x=y)),st)else none
 |_,_=>none
def pZ:ng K NP (lU false):=by
 intro ρ H st x y a c b st' Q l rx ry e q;unfold lU at e;split at e
 ·next u v h1 h2 =>
  split at e
  ·next hs=>cases e;cases By rx h1;cases By ry h2;exact⟨hs,q _ H ρ .refl l (.bl _)⟩
  ·cases e
 ·cases e
def Bz:ng K NQ (lU true):=by
 intro ρ H st x y a c b st' Q l rx ry e q;unfold lU at e;split at e
 ·next u v h1 h2 =>
  split at e
  ·next hs=>cases e;cases By rx h1;cases By ry h2;exact⟨hs,q _ H ρ .refl l (.bl _)⟩
  ·cases e
 ·cases e
abbrev bg{α β:Type}(f:α->Option β):List α->Option (List β)
 |[]=>some []
 |a :: r=>match f a,bg f r with
  |some b,some s=>some (b :: s)
  |_,_=>none
def uv{α β:Type}{f:α->Option β}{a:α}{r:List α}{s:List β}(h:bg f (a :: r)=some s):∃b t,f a=some b/\bg f r=some t/\s=b :: t:=by
 unfold bg at h;split at h
 ·next b t h1 h2=>cases h;exact⟨b,t,h1,h2,rfl⟩
 ·cases h
def sF{α β γ:Type}{f:α->Option β}{g:γ->α}{k:γ->β}(h:∀c,f (g c)=some (k c)):∀l:List γ,bg f (l.map g)=some (l.map k)
 |[]=>rfl
 |c :: r=>by
  show bg f (g c :: r.map g)=_;unfold bg;rw[h c,sF h r];rfl
abbrev cP(st:Store):Nat->D->Option PyData
 |0,_=>none
 |_+1,.non=>some .none
 |_+1,.bl b=>some (.bool b)
 |_+1,.int i=>some (.int i)
 |_+1,.str x=>some (.str x)
 |_+1,.ty _=>none
 |n+1,.tup ds=>(bg (cP st n) ds).map PyData.tuple
 |n+1,.ref i=>match items st i with
  |some ds=>(bg (cP st n) ds).map PyData.list
  |none=>none
def DS{ρ:List Addr}{H:Hp}{st:Store}(l:Rl K ρ H st):∀(n:Nat) {v:V} {d:D} {p:PyData},Rp K ρ H v d->cP st n d=some p->Rep K H v p
 |0,_,_,_,_,h=>by simp[cP]at h
 |n+1,v,d,p,r,h=>by
  have all:∀{vs:List V} {ds:List D} {ps:List PyData},cq K ρ H vs ds->bg (cP st n) ds=some ps->fD K H vs ps:=by
   intro vs ds ps rr
   induction vs generalizing ds ps with
   |nil=>intro hm;cases rr;cases hm;exact .nil
   |cons w ws ih =>
    intro hm;cases rr with
    |cons ra rb =>
     obtain⟨b,t,h1,h2,rfl⟩:=uv hm;exact .cons (DS l n ra h1) (ih rb h2)
  cases r with
  |non=>simp[cP]at h;subst h;exact .non
  |bl b=>simp[cP]at h;subst h;exact .bl b
  |int i=>simp[cP]at h;subst h;exact .int i
  |str x=>simp[cP]at h;subst h;exact .str x
  |ty n=>simp[cP]at h
  |ref hi =>
   simp only[cP]at h;split at h
   ·next ds hd =>
    obtain⟨ps,h1,rfl⟩:=ZaB.mp h;obtain⟨vs,e,rr⟩:=l.items hi hd;exact .lst e (all rr h1)
   ·cases h
  |tup q rr =>
   simp only[cP]at h;obtain⟨ps,h1,rfl⟩:=ZaB.mp h;exact .tup q (all rr h1)
abbrev j9(neg:Bool):D->D->Dm D:=λa b st=>match cP st 20 a,cP st 20 b with
 |some p,some q=>if(PyData.canLay0 p && PyData.canLay0 q && decide (min p.depth q.depth<=60))=true then some (.bl (if neg then !PyData.eqv p q else PyData.eqv p q),st)else none
 |_,_=>none
def xF(neg:Bool):ng K (yE K neg) (j9 neg):=by
 intro ρ H st x y a c b st' Q l rx ry e q;unfold j9 at e;split at e
 ·next u v h1 h2 =>
  split at e
  ·next hs =>
   cases e;rw[ZaD,ZaD,decide_eq_true_eq]at hs;exact⟨u,v,DS l 20 rx h1,DS l 20 ry h2,hs.1.1,hs.1.2,hs.2,q _ H ρ .refl l (.bl _)⟩
  ·cases e
 ·cases e
def at_of{ρ:List Addr}{H:Hp}{vs:List V}{ds:List D}{i:Int}{d:D}(r:cq K ρ H vs ds)(h:gH ds i=some d):∃v,gH vs i=some v/\Rp K ρ H v d:=by
 unfold gH at h ⊢;rw[r.length];cases hx:mH ds.length i with
 |none=>rw[hx]at h;cases h
 |some j =>
  rw[hx]at h;exact r.got h
abbrev aE:D->D->Dm D
 |.tup ds,.int i,st=>match gH ds i with
  |some d=>some (d,st)
  |none=>none
 |_,_,_=>none
def bJ:ng K (yx K) aE:=by
 intro ρ H st x y a c b st' Q l rx ry e q;unfold aE at e;split at e
 ·split at e
  ·next d hd =>
   cases e;cases ry;cases rx with
   |tup s r =>
    obtain⟨v,hv,rv⟩:=at_of r hd;exact⟨_,_,_,v,rfl,rfl,s,hv,q v H ρ .refl l rv⟩
  ·cases e
 ·cases e
abbrev iz:D->D->Dm D
 |.ref r,.int i,st=>match items st r with
  |some ds=>match gH ds i with
   |some d=>some (d,st)
   |none=>none
  |none=>none
 |_,_,_=>none
def p4:ng K (CI K) iz:=by
 intro ρ H st x y a c b st' Q l rx ry e q;unfold iz at e;split at e
 ·split at e
  ·next ds hi =>
   split at e
   ·next d hd =>
    cases e;cases ry;cases rx with
    |ref hr =>
     obtain⟨vs,s,r⟩:=l.items hr hi;obtain⟨v,hv,rv⟩:=at_of r hd;exact⟨_,_,_,v,rfl,rfl,s,hv,q v H ρ .refl l rv⟩
   ·cases e
  ·cases e
 ·cases e
abbrev zm:D->D->Dm D
 | .str z,.int i,st=>if lim z.length=true then match gH z.cps.toList i with
   |some c=>some (.str ⟨#[c]⟩,st)
   |none=>none
  else none
 |_,_,_=>none
abbrev cutD(xs:List D)(lo hi:Option Int):List D:=(xs.drop (HT.cH xs.length 0 lo)).take (HT.cH xs.length xs.length hi-HT.cH xs.length 0 lo)
def cq.cut{ρ:List Addr}{H:Hp}{vs:List V}{ds:List D}(r:cq K ρ H vs ds)(lo hi:Option Int):cq K ρ H (n5 vs lo hi) (cutD ds lo hi):=by unfold n5 cutD;rw[r.length];exact(r.drop _).take _
abbrev vT:D->Option Int->Option Int->Dm D
 |.tup ds,lo,hi,st=>some (.tup (cutD ds lo hi),st)
 |_,_,_,_=>none
def got{ρ:List Addr}{H:Hp}{st:Store}{vs:List V}{ds:List D}{Q:VK}(l:Rl K ρ H st)(r:cq K ρ H vs ds)(q:∀v H' ρ',Mn K ρ H ρ' H'->Rl K ρ' H' st->Rp K ρ' H' v (.tup ds)->Q v H'):o8 K H vs Q :=
 λp H' s e=>q _ H' ρ (Mn.same e) (l.same e) (.tup s (r.mn (Mn.same e)))
def QD:zj K (xg K) vT:=by
 intro lo hi ρ H st x a b st' Q l rx e q;cases a with
 |tup ds =>
  cases e;cases rx with
  |tup s r=>exact⟨_,_,rfl,s,got l (r.cut lo hi) q⟩
 |_=>cases e
abbrev qT:D->Option Int->Option Int->Dm D
 |.ref r,lo,hi,st=>match items st r with
  |some ds=>some (.ref st.length,st ++ [.lst (cutD ds lo hi)])
  |none=>none
 |_,_,_,_=>none
def QE:zj K (CJ K) qT:=by
 intro lo hi ρ H st x a b st' Q l rx e q;cases a with
 |ref i =>
  simp only[qT]at e;split at e
  ·next ds hd =>
   cases e;cases rx with
   |ref hr =>
    obtain⟨vs,s,r⟩:=l.items hr hd;exact⟨_,_,rfl,s,λp hp=>q _ _ _ (Mn.new hp) (l.newL hp (r.cut lo hi)) (.ref (newR l))⟩
  ·cases e
 |_=>cases e
abbrev ka:D->D->Dm D
 |.tup a,.tup b,st=>if lim (a.length+b.length)=true then some (.tup (a ++ b),st)else none
 |_,_,_=>none
def xG:ng K (tT K) ka:=by
 intro ρ H st x y a c b st' Q l rx ry e q;unfold ka at e;split at e
 ·split at e
  ·next hl =>
   cases e;cases rx with
   |tup s r =>
    cases ry with
    |tup s' r'=>exact⟨_,_,_,_,rfl,rfl,s,s',by rw[r.length,r'.length];exact zg hl,got l (r.append r') q⟩
  ·cases e
 ·cases e
abbrev own(st:Store)(i:Nat):Option (List D):=match st[i]? with
 |some (.lst ds)=>some ds
 |_=>none
def rQ{st:Store}{i:Nat}{ds:List D}(h:own st i=some ds):st[i]?=some (.lst ds):=by
 unfold own at h;split at h
 ·next ds' hs=>cases h;exact hs
 ·cases h
abbrev nC:D->D->Dm D
 |.ref i,.ref j,st=>match own st i,own st j with
  |some a,some b=>if lim (a.length+b.length)=true then some (.ref st.length,st ++ [.lst (a ++ b)])else none
  |_,_=>none
 |_,_,_=>none
def xH:ng K CL nC:=by
 intro ρ H st x y a c b st' Q l rx ry e q;unfold nC at e;split at e
 ·split at e
  ·next a b h1 h2 =>
   split at e
   ·next hl =>
    cases e;cases rx with
    |ref hi =>
     cases ry with
     |ref hj =>
      obtain⟨vs,e1,r1⟩:=l.obj _ _ _ hi (rQ h1);obtain⟨ws,e2,r2⟩:=l.obj _ _ _ hj (rQ h2);exact⟨_,_,_,_,rfl,rfl,e1,e2,by rw[r1.length,r2.length];exact zg hl,λp hp=>q _ _ _ (Mn.new hp) (l.newL hp (r1.append r2)) (.ref (newR l))⟩
   ·cases e
  ·cases e
 ·cases e
abbrev sG:D->D->Dm D
 |.ref i,.int k,st=>match own st i with
  |some a=>if(decide (-9223372036854775808<=k/\k<9223372036854775808) && lim (a.length*k.toNat))=true then some (.ref st.length,st ++ [.lst (List.replicate k.toNat a).flatten])else none
  |_=>none
 |_,_,_=>none
def QF{ρ:List Addr}{H:Hp}:∀{ws vs:List V} {ds:List D},cq K ρ H ws ds->bg sV ds=some vs->ws=vs
 |_,_,_,.nil,h=>by cases h;rfl
 |_,_,_,.cons a b,h=>by
  obtain⟨x,t,h1,h2,rfl⟩:=uv h;rw[By a h1,QF b h2]
def QG{a:D}{v:V}(h:sV a=some v):lh v=true:=by cases a<;>first|(cases h;rfl)|cases h
def QH:∀{ds:List D} {vs:List V},bg sV ds=some vs->vs.all lh=true
 |[],_,h=>by cases h;rfl
 |d :: r,_,h=>by
  obtain⟨x,t,h1,h2,rfl⟩:=uv h;rw[List.all_cons,QG h1,QH h2];rfl
abbrev b9(st:Store):D->Option (List D)
 |.tup ds=>some ds
 |.ref i=>items st i
 |_=>none
def DT{ρ:List Addr}{H:Hp}{st:Store}{x:V}{a:D}{ds:List D}(l:Rl K ρ H st)(r:Rp K ρ H x a)(h:b9 st a=some ds):∃p vs,x=.ref p/\(iL K H p vs\/eQ K H p vs)/\cq K ρ H vs ds:=by
 cases r<;>first|(cases h;done)|skip
 ·next hi=>obtain⟨vs,s,r⟩:=l.items hi h;exact⟨_,vs,rfl,.inl s,r⟩
 ·next s r=>cases h;exact⟨_,_,rfl,.inr s,r⟩
abbrev sW(neg:Bool):D->D->Dm D:=λa c st=>match sV a,(b9 st c).bind (bg sV)with
 |some x,some vs=>some (.bl (if neg then !wZ x vs else wZ x vs),st)
 |_,_=>none
def DV(neg:Bool):ng K (KH K neg) (sW neg):=by
 intro ρ H st x y a c b st' Q l rx ry e q;unfold sW at e;split at e
 ·next u vs h1 h2 =>
  cases e;obtain⟨ds,h3,h4⟩:=Zbe.mp h2;obtain⟨p,ws,rfl,s,r⟩:=DT l ry h3;cases By rx h1;cases QF r h4;exact⟨p,_,rfl,s,QG h1,QH h4,q _ H ρ .refl l (.bl _)⟩
 ·cases e
def cq.one'{ρ:List Addr}{H:Hp}{vs:List V}{d:D}(r:cq K ρ H vs [d]):∃v,vs=[v]/\Rp K ρ H v d:=by cases r with|cons a b=>cases b;exact⟨_,rfl,a⟩
def cq.two'{ρ:List Addr}{H:Hp}{vs:List V}{d e:D}(r:cq K ρ H vs [d,e]):∃v w,vs=[v,w]/\Rp K ρ H v d/\Rp K ρ H w e:=by
 cases r with
 |cons a b=>obtain⟨w,rfl,r⟩:=b.one';exact⟨_,_,rfl,a,r⟩
abbrev cR:List D->Dm D
 |[a],st=>match b9 st a with
  |some ds=>some (.int ds.length,st)
  |none=>none
 |_,_=>none
def nu:qA K (λxs H Q=>∃p ys,xs=[.ref p]/\(iL K H p ys\/eQ K H p ys)/\Q (.int ys.length) H) cR:=by
 intro ρ H st xs as b st' Q l rx e q;unfold cR at e;split at e
 ·split at e
  ·next ds hd =>
   cases e;obtain⟨v,rfl,r⟩:=rx.one';obtain⟨p,vs,rfl,s,r⟩:=DT l r hd;exact⟨p,vs,rfl,s,q _ H ρ .refl l (by rw[r.length];exact .int _)⟩
  ·cases e
 ·cases e
abbrev rR:List D->Dm D
 |[.str z],st=>if lim z.length=true then some (.int z.length,st)else none
 |_,_=>none
def WD:qA K (λxs H Q=>∃z,xs=[.str z]/\z.length<=sizeLine/\Q (.int z.length) H) rR:=by
 intro ρ H st xs as b st' Q l rx e q;unfold rR at e;split at e
 ·split at e
  ·next hl =>
   cases e;obtain⟨v,rfl,r⟩:=rx.one';cases r;exact⟨_,rfl,zg hl,q _ H ρ .refl l (.int _)⟩
  ·cases e
 ·cases e
abbrev oh:List D->Dm D
 |[a],st=>match b9 st a with
  |some ds=>some (.ref st.length,st ++ [.lst ds])
  |none=>none
 |_,_=>none
def HR:qA K (λxs H Q=>∃p ys,xs=[.ref p]/\(iL K H p ys\/eQ K H p ys)/\∀l,H l=none->Q (.ref l) (upd H l (.lst ys))) oh:=by
 intro ρ H st xs as b st' Q l rx e q;unfold oh at e;split at e
 ·split at e
  ·next ds hd =>
   cases e;obtain⟨v,rfl,r⟩:=rx.one';obtain⟨p,vs,rfl,s,r⟩:=DT l r hd;exact⟨p,vs,rfl,s,λp hp=>q _ _ _ (Mn.new hp) (l.newL hp r) (.ref (newR l))⟩
  ·cases e
 ·cases e
abbrev bC:List D->Dm D
 |[a],st=>match b9 st a with
  |some ds=>some (.tup ds,st)
  |none=>none
 |_,_=>none
def pk:qA K (λxs H Q=>∃p ys,xs=[.ref p]/\((iL K H p ys/\∀l,H l=none->Q (.ref l) (upd H l (.tup ys)))\/(eQ K H p ys/\Q (.ref p) H))) bC:=by
 intro ρ H st xs as b st' Q l rx e q;unfold bC at e;split at e
 ·split at e
  ·next ds hd =>
   cases e;obtain⟨v,rfl,r⟩:=rx.one';obtain⟨p,vs,rfl,s,r'⟩:=DT l r hd;refine⟨p,vs,rfl,?_⟩;rcases s with s|s
   ·exact .inl ⟨s,(got l r' q).new⟩
   ·exact .inr ⟨s,(got l r' q).it s⟩
  ·cases e
 ·cases e
abbrev oi:List D->Dm D
 |[.int i,.int j],st=>some (.int (if j > i then j else i),st)
 |_,_=>none
abbrev rS:List D->Dm D
 |[.int i,.int j],st=>some (.int (if j<i then j else i),st)
 |_,_=>none
def L6:qA K (λxs H Q=>∃i j,xs=[.int i,.int j]/\Q (.int (if j > i then j else i)) H) oi:=by intro ρ H st xs as b st' Q l rx e q;unfold oi at e;split at e;cases e;obtain⟨v,w,rfl,r1,r2⟩:=rx.two';cases r1;cases r2;exact⟨_,_,rfl,q _ H ρ .refl l (.int _)⟩;cases e
def WE:qA K (λxs H Q=>∃i j,xs=[.int i,.int j]/\Q (.int (if j<i then j else i)) H) rS:=by intro ρ H st xs as b st' Q l rx e q;unfold rS at e;split at e;cases e;obtain⟨v,w,rfl,r1,r2⟩:=rx.two';cases r1;cases r2;exact⟨_,_,rfl,q _ H ρ .refl l (.int _)⟩;cases e
abbrev xI:List D->Dm D
 |[.int i],st=>some (.int i,st)
 |[.bl k],st=>some (.int (if k then 1 else 0),st)
 |_,_=>none
abbrev i7:List D->Dm D
 |[.int j],st=>some (.ref st.length,st ++ [.jR 0 j])
 |_,_=>none
abbrev fE:List D->Dm D
 |[.int i,.int j],st=>some (.ref st.length,st ++ [.jR i j])
 |_,_=>none
def HS:qA K (λxs H Q=>∃j:Int,xs=[.int j]/\∀p,H p=none->Q (.ref p) (upd H p (.jR 0 j))) i7:=by intro ρ H st xs as b st' Q l rx e q;unfold i7 at e;split at e;cases e;obtain⟨v,rfl,r⟩:=rx.one';cases r;exact⟨_,rfl,λp hp=>q _ _ _ (Mn.new hp) (l.new hp (show xC K _ _ p (.jR _ _)from sP)) (.ref (newR l))⟩;cases e
def BA:qA K (λxs H Q=>∃i j:Int,xs=[.int i,.int j]/\∀p,H p=none->Q (.ref p) (upd H p (.jR i j))) fE:=by intro ρ H st xs as b st' Q l rx e q;unfold fE at e;split at e;cases e;obtain⟨v,w,rfl,r1,r2⟩:=rx.two';cases r1;cases r2;exact⟨_,_,rfl,λp hp=>q _ _ _ (Mn.new hp) (l.new hp (show xC K _ _ p (.jR _ _)from sP)) (.ref (newR l))⟩;cases e
abbrev aH(lo:Int)(n:Nat):List D:=(List.range n).map λ(k:Nat)=>D.int (lo+k)
def QI{ρ:List Addr}{H:Hp}(lo:Int)(n:Nat):cq K ρ H (dw lo n) (aH lo n):=by
 unfold dw aH
 induction (List.range n)with
 |nil=>exact .nil
 |cons a r ih=>exact .cons (.int _) ih
abbrev sH(lo hi:Int):Bool:=decide (-4611686018427387904<=lo/\lo<4611686018427387904/\-4611686018427387904<=hi/\hi<4611686018427387904) && lim (hi-lo).toNat
def HU{lo hi:Int}(h:sH lo hi=true):(-(2 ^ 62)<=lo/\lo<2 ^ 62/\-(2 ^ 62)<=hi/\hi<2 ^ 62)/\(hi-lo).toNat<=2 ^ 24:=by unfold sH at h;rw[ZaD,decide_eq_true_eq]at h;exact⟨by lk,Zap (Zcu h.2) ∅⟩
abbrev jS(st:Store):D->Option (Int×Int)
 |.ref i=>match st[i]? with
  |some (.jR lo hi)=>some (lo,hi)
  |_=>none
 |_=>none
def QJ{ρ:List Addr}{H:Hp}{st:Store}{x:V}{a:D}{lo hi:Int}(l:Rl K ρ H st)(r:Rp K ρ H x a)(h:jS st a=some (lo,hi)):∃p,x=.ref p/\H p=some (.jR lo hi):=by
 cases r<;>first|(cases h;done)|skip
 ·next hi' =>
  simp only[jS]at h;split at h
  ·next lo' WG hs=>cases h;exact⟨_,rfl,l.obj _ _ _ hi' hs⟩
  ·cases h
abbrev fj:List D->Dm D
 |[a],st=>match jS st a with
  |some (lo,hi)=>if sH lo hi=true then some (.ref st.length,st ++ [.lst (aH lo (hi-lo).toNat)])else none
  |none=>none
 |_,_=>none
def vU:qA K (λxs H Q=>∃p lo hi,xs=[.ref p]/\H p=some (.jR lo hi)/\(-(2 ^ 62)<=lo/\lo<2 ^ 62/\-(2 ^ 62)<=hi/\hi<2 ^ 62)/\(hi-lo).toNat<=2 ^ 24 /\
  ∀l,H l=none->Q (.ref l) (upd H l (.lst (dw lo (hi-lo).toNat)))) fj:=by
 intro ρ H st xs as b st' Q l rx e q;unfold fj at e;split at e
 ·split at e
  ·next lo hi hd =>
   split at e
   ·next ok =>
    cases e;obtain⟨v,rfl,r⟩:=rx.one';obtain⟨p,rfl,s⟩:=QJ l r hd;exact⟨p,lo,hi,rfl,s,(HU ok).1,(HU ok).2,λp hp=>q _ _ _ (Mn.new hp) (l.newL hp (QI lo _)) (.ref (newR l))⟩
   ·cases e
  ·cases e
 ·cases e
abbrev nK:List D->Dm D
 |[a],st=>match jS st a with
  |some (lo,hi)=>if sH lo hi=true then some (.tup (aH lo (hi-lo).toNat),st)else none
  |none=>none
 |_,_=>none
def WH:qA K (λxs H Q=>∃p lo hi,xs=[.ref p]/\H p=some (.jR lo hi)/\(-(2 ^ 62)<=lo/\lo<2 ^ 62/\-(2 ^ 62)<=hi/\hi<2 ^ 62)/\(hi-lo).toNat<=2 ^ 24/\o8 K H (dw lo (hi-lo).toNat) Q) nK:=by
 intro ρ H st xs as b st' Q l rx e q;unfold nK at e;split at e
 ·split at e
  ·next lo hi hd =>
   split at e
   ·next ok =>
    cases e;obtain⟨v,rfl,r⟩:=rx.one';obtain⟨p,rfl,s⟩:=QJ l r hd;exact⟨p,lo,hi,rfl,s,(HU ok).1,(HU ok).2,got l (QI lo _) q⟩
   ·cases e
  ·cases e
 ·cases e
abbrev iV:D->Option Int
 |.int i=>some i
 |_=>none
def L7{ρ:List Addr}{H:Hp}:∀{ws:List V} {ds:List D} {ns:List Int},cq K ρ H ws ds->bg iV ds=some ns->ws=ns.map V.int
 |_,_,_,.nil,h=>by cases h;rfl
 |_,_,_,.cons a b,h=>by
  obtain⟨x,t,h1,h2,rfl⟩:=uv h;rw[L7 b h2];cases a<;>first|(cases h1;rfl)|cases h1
abbrev sortI(ns:List Int):List Int:=ns.mergeSort λa b=>decide (a<=b)
def WI{ms ns:List Int}(p:ms.Perm ns)(s:ms.Pairwise (·<=·)):ms=sortI ns:=by
 have p2:(sortI ns).Perm ns:=Zcx _ _;have s2:(sortI ns).Pairwise (·<=·):=by
  have:=Zce (le:=λa b:Int=>decide (a<=b)) (λa b c h1 h2=>by simp only[decide_eq_true_eq]at *;lk) (λa b=>by simp only[ZbC,decide_eq_true_eq];lk) ns;exact this.imp λh=>of_decide_eq_true h
 exact(p.trans p2.symm).eq_of_pairwise (λa b _ _ h1 h2=>Int.le_antisymm h1 h2) s s2
abbrev d8:List D->Dm D
 |[a],st=>match (b9 st a).bind (bg iV)with
  |some ns=>if ns.length<64 then some (.ref st.length,st ++ [.lst ((sortI ns).map D.int)])else none
  |none=>none
 |_,_=>none
def DW:qA K (λxs H Q=>∃(p:Addr) (ns:List Int),xs=[.ref p]/\(iL K H p (ns.map V.int)\/eQ K H p (ns.map V.int))/\ns.length<64 /\
  ∀(l:Addr) (ms:List Int),H l=none->ms.Perm ns->ms.Pairwise (·<=·)->Q (.ref l) (upd H l (.lst (ms.map V.int)))) d8:=by
 intro ρ H st xs as b st' Q l rx e q;unfold d8 at e;split at e
 ·split at e
  ·next ns hd =>
   split at e
   ·next ok =>
    cases e;obtain⟨v,rfl,r⟩:=rx.one';obtain⟨ds,h3,h4⟩:=Zbe.mp hd;obtain⟨p,vs,rfl,s,r⟩:=DT l r h3;cases L7 r h4;exact⟨p,ns,rfl,s,ok,λp ms hp pm sm=>by rw[WI pm sm];exact q _ _ _ (Mn.new hp) (l.newL hp (cq.ints _)) (.ref (newR l))⟩
   ·cases e
  ·cases e
 ·cases e
abbrev bV:D->Option Bool
 |.bl i=>some i
 |_=>none
def QK{ρ:List Addr}{H:Hp}:∀{ws:List V} {ds:List D} {ns:List Bool},cq K ρ H ws ds->bg bV ds=some ns->ws=ns.map V.bl
 |_,_,_,.nil,h=>by cases h;rfl
 |_,_,_,.cons a b,h=>by
  obtain⟨x,t,h1,h2,rfl⟩:=uv h;rw[QK b h2];cases a<;>first|(cases h1;rfl)|cases h1
abbrev ql:List D->Dm D
 |[.ref i],st=>match (items st i).bind (bg bV)with
  |some bs=>some (.bl (bs.all id),st)
  |none=>none
 |_,_=>none
def QL:qA K (λxs H Q=>∃(p:Addr) (bs:List Bool),xs=[.ref p]/\iL K H p (bs.map V.bl)/\Q (.bl (bs.all id)) H) ql:=by
 intro ρ H st xs as b st' Q l rx e q;unfold ql at e;split at e
 ·split at e
  ·next bs hd =>
   cases e;obtain⟨v,rfl,r⟩:=rx.one';obtain⟨ds,h3,h4⟩:=Zbe.mp hd;cases r with
   |ref hi =>
    obtain⟨vs,s,r⟩:=l.items hi h3;cases QK r h4;exact⟨_,bs,rfl,s,q _ H ρ .refl l (.bl _)⟩
  ·cases e
 ·cases e
abbrev xJ(T:String)(st:Store):D->Bool
 |.str _=>T == "str"
 |.tup _=>T == "tuple"
 |.ref i=>T == "list" && (items st i).isSome
 |_=>false
def zo{ρ:List Addr}{H:Hp}{st:Store}{x:V}{a:D}{T:String}(l:Rl K ρ H st)(r:Rp K ρ H x a)(h:xJ T st a=true):KI K T x H:=by
 cases r<;>first|(cases h;done)|skip
 ·exact eq_of_beq h
 ·next hi =>
  simp only[xJ,ZaD]at h;obtain⟨ds,hd⟩:=ZbW.mp h.2;obtain⟨vs,s,_⟩:=l.items hi hd;exact .inl ⟨eq_of_beq h.1,vs,s⟩
 ·next s r=>exact .inr (.inl ⟨eq_of_beq h,_,s⟩)
abbrev pq(T:String)(g:D->List D->Dm D)(fo:aj->Dm D)(fa:aj->Dm (List D)):aj->Dm D:=λδ st=>bnd (fo δ st) λo st1=>if xJ T st1 o=true then bnd (fa δ st1) λas st2=>g o as st2 else none
def qB{T:String}{r:V->List V->Hp->VK->Prop}{g:D->List D->Dm D}{to:TE}{ta:TA}{fo:aj->Dm D}{fa:aj->Dm (List D)}(hr:Bt K T r g)(ho:fg K to fo)(ha:sU K ta fa):fg K (KJ K T r to ta) (pq T g fo fa):=by
 intro ρ σ H δ st b st' Q l rs e q;obtain⟨o,st1,e1,e⟩:=di e;split at e
 ·next ht =>
  obtain⟨as,st2,e2,e⟩:=di e;refine ho ρ σ H δ st o st1 _ l rs e1 λx H1 ρ1 m1 l1 r1=>⟨zo l1 r1 ht,ha ρ1 σ H1 δ st1 as st2 _ l1 (rs.mn m1) e2 λxs H2 ρ2 m2 l2 r2=>?_⟩;exact hr ρ2 H2 st2 x xs o as b st' Q l2 (r1.mn m2) r2 e λv H3 ρ3 m3 l3 r3=>q v H3 ρ3 ((m1.trans m2).trans m3) l3 r3
 ·cases e
abbrev cC:D->List D->Dm D
 |.ref i,[y],st=>match own st i with
  |some xs=>if lim xs.length=true then some (.non,st.set i (.lst (xs ++ [y])))else none
  |none=>none
 |_,_,_=>none
def uw:Bt K "list" rm cC:=by
 intro ρ H st x xs a as b st' Q l rx vV e q;unfold cC at e;split at e
 ·split at e
  ·next ys hy =>
   split at e
   ·next hl =>
    cases e;obtain⟨v,rfl,r⟩:=vV.one';cases rx with
    |ref hi =>
     obtain⟨vs,e1,r1⟩:=l.obj _ _ _ hi (rQ hy);obtain⟨l2,m2⟩:=l.putL hi (rQ hy) (r1.append (.one r));exact⟨_,vs,v,rfl,rfl,e1,by rw[r1.length];exact LY hl,q _ _ ρ m2 l2 .non⟩
   ·cases e
  ·cases e
 ·cases e
abbrev i9:D->List D->Dm D
 |.ref i,[.ref j],st=>match own st i,own st j with
  |some xs,some ys=>if lim (xs.length+ys.length)=true then some (.non,st.set i (.lst (xs ++ ys)))else none
  |_,_=>none
 |_,_,_=>none
def QM:Bt K "list" rn i9:=by
 intro ρ H st x xs a as b st' Q l rx vV e q;unfold i9 at e;split at e
 ·split at e
  ·next xs' ys hx hy =>
   split at e
   ·next hl =>
    cases e;obtain⟨v,rfl,r⟩:=vV.one';cases rx with
    |ref hi =>
     cases r with
     |ref hj =>
      obtain⟨vs,e1,r1⟩:=l.obj _ _ _ hi (rQ hx);obtain⟨ws,e2,r2⟩:=l.obj _ _ _ hj (rQ hy);obtain⟨l2,m2⟩:=l.putL hi (rQ hx) (r1.append r2);exact⟨_,_,vs,ws,rfl,rfl,e1,e2,by rw[r1.length,r2.length];exact zg hl,q _ _ ρ m2 l2 .non⟩
   ·cases e
  ·cases e
 ·cases e
abbrev mO:D->List D->Dm D
 |.ref i,[.int k],st=>match own st i with
  | some xs=>if decide (-9223372036854775808<=k/\k < 9223372036854775808)=true then match seqIndex? k xs.length with
    |some j=>match xs[j]? with
     |some y=>some (y,st.set i (.lst (xs.eraseIdx j)))
     |none=>none
    |none=>none
   else none
  |none=>none
 |_,_,_=>none
def WJ:Bt K "list" tP mO:=by
 intro ρ H st x xs a as b st' Q l rx vV e q;unfold mO at e;split at e
 ·split at e
  ·next ys hy =>
   split at e
   ·next hk =>
    split at e
    ·next j hj =>
     split at e
     ·next y hy' =>
      cases e;obtain⟨v,rfl,r⟩:=vV.one';cases r;cases rx with
      |ref hi =>
       obtain⟨vs,e1,r1⟩:=l.obj _ _ _ hi (rQ hy);obtain⟨w,hw,rw'⟩:=r1.got hy';obtain⟨l2,m2⟩:=l.putL hi (rQ hy) (r1.erase j);have hk:=of_decide_eq_true hk;exact⟨_,vs,_,j,w,rfl,rfl,e1,by lk,by lk,by rw[r1.length];exact hj,hw,q _ _ ρ m2 l2 (rw'.mn m2)⟩
     ·cases e
    ·cases e
   ·cases e
  ·cases e
 ·cases e
abbrev lD:D->List D->Dm D
 |.tup ds,[.int v],st=>match bg iV ds with
  |some ns=>match ns.findIdx? (λi=>decide (i=v))with
   |some j=>some (.int (j:Int),st)
   |none=>none
  |none=>none
 |_,_,_=>none
def WK:Bt K "tuple" (qL K) lD:=by
 intro ρ H st x xs a as b st' Q l rx vV e q;unfold lD at e;split at e
 ·split at e
  ·next ns hn =>
   split at e
   ·next j hj =>
    cases e;obtain⟨v,rfl,r⟩:=vV.one';cases r;cases rx with
    |tup s r =>
     cases L7 r hn;obtain⟨h1,h2,h3⟩:=List.findIdx?_eq_some_iff_getElem.mp hj;refine⟨_,ns,_,j,rfl,rfl,s,?_,λi hi z=>?_,q _ H ρ .refl l (.int _)⟩
     ·rw[Zab h1];exact congrArg some (of_decide_eq_true h2)
     ·have:=h3 i hi
      obtain⟨hl,ez⟩:=Zac.mp z;rw[ez]at this;simp at this
   ·cases e
  ·cases e
 ·cases e
abbrev DX(st:Store):D->Option String
 |.non=>some "NoneType"
 |.bl _=>some "bool"
 |.int _=>some "int"
 |.str _=>some "str"
 |.tup _=>some "tuple"
 |.ref i=>match st[i]? with
  |some (.lst _)=>some "list"
  |some (.dct _)=>some "dict"
  |_=>none
 |.ty _=>none
abbrev pz:List D->Dm D
 |[a,.ty c],st=>match DX st a with
  |some T=>if T=c then some (.bl true,st)else none
  |none=>none
 |_,_=>none
end
section
variable {K:Zfr}
def L8:ng K CM sG:=by
 intro ρ H st x y a c b st' Q l rx ry e q;unfold sG at e;split at e
 ·split at e
  ·next ds hd =>
   split at e
   ·next ok =>
    cases e;rw[ZaD,decide_eq_true_eq]at ok;cases ry;cases rx with
    |ref hi =>
     obtain⟨vs,e1,r1⟩:=l.obj _ _ _ hi (rQ hd);exact⟨_,_,vs,rfl,rfl,e1,by lk,by lk,by rw[r1.length];exact zg ok.2,λp hp=>q _ _ _ (Mn.new hp) (l.newL hp (r1.flat _)) (.ref (newR l))⟩
   ·cases e
  ·cases e
 ·cases e
def Rs.set{ρ:List Addr}{H:Hp}{σ:St}{δ:aj}{v:V}{d:D}{i:Nat}(h:Rs K ρ H σ δ)(r:Rp K ρ H v d):Rs K ρ H (σ.set i (some v)) (δ.set i (some d)):=by
 refine⟨by rw[Zbj,Zbj];exact h.1,λj e hj=>?_⟩;by_cases hij:i=j;subst hij;have hl:i<δ.length:=by
  have:=(Zac.mp hj).1
  rwa [Zbj]at this
 rw[Zao hl]at hj;cases hj;exact⟨v,by rw[Zao (by rw[h.1];exact hl)],r⟩;rw[ZaG hij]at hj;obtain⟨w,hw,rw'⟩:=h.2 j e hj;exact⟨w,by rw[ZaG hij];exact hw,rw'⟩
abbrev zp(K:Zfr)(g:TG)(f:D->aj->Dm aj):Prop :=
 ∀(ρ:List Addr) (σ:St) (H:Hp) (δ:aj) (st:Store) (v:V) (d:D) (δ':aj) (st':Store) (Q:St->Hp->Prop),Rl K ρ H st->Rs K ρ H σ δ->Rp K ρ H v d->f d δ st=some (δ',st') ->
  (∀σ' H' ρ',Mn K ρ H ρ' H'->Rl K ρ' H' st'->Rs K ρ' H' σ' δ'->Q σ' H')->g v σ H Q
abbrev vW(K:Zfr)(g:tD)(f:List D->aj->Dm aj):Prop :=
 ∀(ρ:List Addr) (σ:St) (H:Hp) (δ:aj) (st:Store) (v:List V) (d:List D) (δ':aj) (st':Store) (Q:St->Hp->Prop),Rl K ρ H st->Rs K ρ H σ δ->cq K ρ H v d->f d δ st=some (δ',st') ->
  (∀σ' H' ρ',Mn K ρ H ρ' H'->Rl K ρ' H' st'->Rs K ρ' H' σ' δ'->Q σ' H')->g v σ H Q
abbrev hName(i:Nat):D->aj->Dm aj:=λd δ st=>some (δ.set i (some d),st)
def aU(i:Nat):zp K (p8 i) (hName i):=by intro ρ σ H δ st v d δ' st' Q l rs r e q;cases e;exact q _ H ρ .refl l (rs.set r)
abbrev pA:List D->aj->Dm aj
 |[],δ,st=>some (δ,st)
 |_,_,_=>none
abbrev dX(f:D->aj->Dm aj)(g:List D->aj->Dm aj):List D->aj->Dm aj
 |d :: ds,δ,st=>bnd (f d δ st) λδ1 st1=>g ds δ1 st1
 |_,_,_=>none
def BB:vW K Ci pA:=by
 intro ρ σ H δ st v d δ' st' Q l rs r e q;cases r with
 |nil=>cases e;exact⟨rfl,q _ H ρ .refl l rs⟩
 |cons a b=>cases e
def sI{t:TG}{u:tD}{f:D->aj->Dm aj}{g:List D->aj->Dm aj}(hf:zp K t f)(hg:vW K u g):vW K (wN t u) (dX f g):=by
 intro ρ σ H δ st v d δ' st' Q l rs r e q;cases r with
 |nil=>cases e
 |cons a b =>
  obtain⟨δ1,st1,e1,e⟩:=di e;exact⟨_,_,rfl,hf ρ σ H δ st _ _ δ1 st1 _ l rs a e1 λσ1 H1 ρ1 m1 l1 r1=>hg ρ1 σ1 H1 δ1 st1 _ _ δ' st' Q l1 r1 (b.mn m1) e λσ2 H2 ρ2 m2 l2 r2=>q σ2 H2 ρ2 (m1.trans m2) l2 r2⟩
abbrev oK(n:Nat)(f:List D->aj->Dm aj):D->aj->Dm aj
 |.tup ds,δ,st=>if ds.length=n then f ds δ st else none
 |_,_,_=>none
def BD{n:Nat}{t:tD}{f:List D->aj->Dm aj}(hf:vW K t f):zp K (ym K n t) (oK n f):=by
 intro ρ σ H δ st v d δ' st' Q l rs r e q;cases r<;>first|(cases e;done)|skip
 ·next s r =>
  simp only[oK]at e;split at e
  ·next hl=>exact⟨_,_,rfl,s,by rw[r.length];exact hl,hf ρ σ H δ st _ _ δ' st' Q l rs r e q⟩
  ·cases e
abbrev hSub(fo fi:aj->Dm D):D->aj->Dm aj:=λd δ st=>bnd (fo δ st) λo st1=>bnd (fi δ st1) λi st2=>match o,i with
 |.ref r,.int k=>match own st2 r with
  |some xs=>match mH xs.length k with
   |some j=>some (δ,st2.set r (.lst (xs.set j d)))
   |none=>none
  |none=>none
 |_,_=>none
def BE{to ti:TE}{fo fi:aj->Dm D}(ho:fg K to fo)(hi:fg K ti fi):zp K (L2.oH to ti wX) (hSub fo fi):=by
 intro ρ σ H δ st v d δ' st' Q l rs r e q;obtain⟨o,st1,e1,e⟩:=di e;obtain⟨i,st2,e2,e⟩:=di e;refine ho ρ σ H δ st o st1 _ l rs e1 λx H1 ρ1 m1 l1 r1=>hi ρ1 σ H1 δ st1 i st2 _ l1 (rs.mn m1) e2 λy H2 ρ2 m2 l2 r2=>?_;split at e
 ·split at e
  ·next xs hx =>
   split at e
   ·next j hj =>
    cases e;cases r2;cases r1 with
    |ref hr =>
     have hr2:=m2.r _ _ hr;obtain⟨vs,e3,r3⟩:=l2.obj _ _ _ hr2 (rQ hx);obtain⟨l3,m3⟩:=l2.putL hr2 (rQ hx) (r3.set (r.mn (m1.trans m2)) j);exact⟨_,vs,_,j,rfl,rfl,e3,by rw[r3.length];exact hj,q σ _ ρ2 ((m1.trans m2).trans m3) l3 (rs.mn ((m1.trans m2).trans m3))⟩
   ·cases e
  ·cases e
 ·cases e
abbrev Go(K:Zfr)(ρ:List Addr)(H:Hp)(st':Store)(E:Ends):Fl->Prop
 |.nx δ=>∀σ' H' ρ',Mn K ρ H ρ' H'->Rl K ρ' H' st'->Rs K ρ' H' σ' δ->E.nx σ' H'
 |.bk δ=>∀σ' H' ρ',Mn K ρ H ρ' H'->Rl K ρ' H' st'->Rs K ρ' H' σ' δ->E.bk σ' H'
 |.ct δ=>∀σ' H' ρ',Mn K ρ H ρ' H'->Rl K ρ' H' st'->Rs K ρ' H' σ' δ->E.ct σ' H'
 |.rt d=>∀v H' ρ',Mn K ρ H ρ' H'->Rl K ρ' H' st'->Rp K ρ' H' v d->E.rt v H'
def Go.mn{ρ ρ1:List Addr}{H H1:Hp}{st':Store}{E:Ends}{fl:Fl}(g:Go K ρ H st' E fl)(m:Mn K ρ H ρ1 H1):Go K ρ1 H1 st' E fl:=by cases fl<;>exactλv H' ρ' m' l r=>g v H' ρ' (m.trans m') l r
abbrev pB(K:Zfr)(t:TS)(f:aj->Dm Fl):Prop :=
 ∀(ρ:List Addr) (σ:St) (H:Hp) (δ:aj) (st:Store) (fl:Fl) (st':Store) (E:Ends),Rl K ρ H st->Rs K ρ H σ δ->f δ st=some (fl,st')->Go K ρ H st' E fl->t E σ H
abbrev bR:aj->Dm Fl:=λδ st=>some (.nx δ,st)
abbrev qU:aj->Dm Fl:=λδ st=>some (.bk δ,st)
def mI:pB K wL bR:=by intro ρ σ H δ st fl st' E l rs e g;cases e;exact g σ H ρ .refl l rs
def WL:pB K tu qU:=by intro ρ σ H δ st fl st' E l rs e g;cases e;exact g σ H ρ .refl l rs
abbrev aA(f g:aj->Dm Fl):aj->Dm Fl:=λδ st=>bnd (f δ st) λfl st1=>match fl with
 |.nx δ1=>g δ1 st1
 |x=>some (x,st1)
def aY{t u:TS}{f g:aj->Dm Fl}(hf:pB K t f)(hg:pB K u g):pB K (Cb t u) (aA f g):=by
 intro ρ σ H δ st fl st' E l rs e q;obtain⟨x,st1,e1,e⟩:=di e;refine hf ρ σ H δ st x st1 _ l rs e1 ?_;cases x with
 |nx δ1=>exactλσ1 H1 ρ1 m1 l1 r1=>hg ρ1 σ1 H1 δ1 st1 fl st' E l1 r1 e (q.mn m1)
 |bk δ1=>cases e;exact q
 |ct δ1=>cases e;exact q
 |rt d=>cases e;exact q
def lE{c:TT}{t u:TS}{fc:aj->Dm Bool}{f g:aj->Dm Fl}(hc:qR K c fc)(hf:pB K t f)(hg:pB K u g):pB K (Cd c t u) (jW fc f g):=by
 intro ρ σ H δ st fl st' E l rs e q;obtain⟨a,st1,e1,e⟩:=di e;refine hc ρ σ H δ st _ _ _ l rs e1 λx H1 ρ1 m1 l1 r1=>?_;subst r1;cases x with
 |true =>
  refine qJ ?_;rw[if_pos rfl]at e;exact hf ρ1 σ H1 δ st1 fl st' E l1 (rs.mn m1) e (q.mn m1)
 |false =>
  refine qI ?_;rw[if_neg Zan]at e;exact hg ρ1 σ H1 δ st1 fl st' E l1 (rs.mn m1) e (q.mn m1)
abbrev fz(f:aj->Dm D):aj->Dm Fl:=λδ st=>bnd (f δ st) λ_ st1=>some (.nx δ,st1)
def sJ{t:TE}{f:aj->Dm D}(hf:fg K t f):pB K (wM t) (fz f):=by intro ρ σ H δ st fl st' E l rs e q;obtain⟨a,st1,e1,e⟩:=di e;cases e;exact hf ρ σ H δ st a _ _ l rs e1 λx H1 ρ1 m1 l1 r1=>q σ H1 ρ1 m1 l1 (rs.mn m1)
abbrev aV(f:aj->Dm D):aj->Dm Fl:=λδ st=>bnd (f δ st) λd st1=>some (.rt d,st1)
def cV{t:TE}{f:aj->Dm D}(hf:fg K t f):pB K (Cc t) (aV f):=by intro ρ σ H δ st fl st' E l rs e q;obtain⟨a,st1,e1,e⟩:=di e;cases e;exact hf ρ σ H δ st a _ _ l rs e1 λx H1 ρ1 m1 l1 r1=>q x H1 ρ1 m1 l1 r1
abbrev aF(f:aj->Dm D)(h:D->aj->Dm aj):aj->Dm Fl:=λδ st=>bnd (f δ st) λd st1=>bnd (h d δ st1) λδ1 st2=>some (.nx δ1,st2)
def bw{t:TE}{g:TG}{f:aj->Dm D}{h:D->aj->Dm aj}(hf:fg K t f)(hh:zp K g h):pB K (va t g) (aF f h):=by intro ρ σ H δ st fl st' E l rs e q;obtain⟨a,st1,e1,e⟩:=di e;obtain⟨δ1,st2,e2,e⟩:=di e;cases e;exact hf ρ σ H δ st a st1 _ l rs e1 λx H1 ρ1 m1 l1 r1=>hh ρ1 σ H1 δ st1 x a δ1 _ _ l1 (rs.mn m1) r1 e2 λσ2 H2 ρ2 m2 l2 r2=>q σ2 H2 ρ2 (m1.trans m2) l2 r2
abbrev qm(i j:Nat)(fa:aj->Dm (List D)):aj->Dm Fl:=λδ st=>bnd (fa δ st) λas st1=>match as with
 |[a,b]=>some (.nx ((δ.set i (some a)).set j (some b)),st1)
 |_=>none
def DY{i j:Nat}{t:TA}{fa:aj->Dm (List D)}(ha:sU K t fa):pB K (Cm i j t) (qm i j fa):=by intro ρ σ H δ st fl st' E l rs e q;obtain⟨as,st1,e1,e⟩:=di e;split at e;cases e;refine ha ρ σ H δ st _ _ _ l rs e1 λx H1 ρ1 m1 l1 r1=>?_;obtain⟨v,w,rfl,r,r'⟩:=r1.two';exact⟨v,w,rfl,q _ H1 ρ1 m1 l1 (((rs.mn m1).set r).set r')⟩;cases e
abbrev gh(c:aj->Dm Bool)(b:aj->Dm Fl):Nat->aj->Dm Fl
 |0,_,_=>none
 | n + 1,δ,st=>bnd (c δ st) λt st1=>if t=true then bnd (b δ st1) λfl st2=>match fl with
   |.nx δ2=>gh c b n δ2 st2
   |.ct δ2=>gh c b n δ2 st2
   |.bk δ2=>some (.nx δ2,st2)
   |.rt d=>some (.rt d,st2)
  else some (.nx δ,st1)
abbrev fuel:Nat:=1000000
abbrev gi(c:aj->Dm Bool)(b:aj->Dm Fl):aj->Dm Fl:=gh c b fuel
def vX{tc:TT}{tb:TS}{c:aj->Dm Bool}{b:aj->Dm Fl}(hc:qR K tc c)(hb:pB K tb b):pB K (tG tc tb) (gi c b):=by
 intro ρ σ H δ st fl st' E l rs e q;refine⟨λm σ1 H1=>∃ρ1 δ1 st1,Mn K ρ H ρ1 H1/\Rl K ρ1 H1 st1/\Rs K ρ1 H1 σ1 δ1/\gh c b m δ1 st1=some (fl,st'),⟨fuel,ρ,δ,st,.refl,l,rs,e⟩,?_⟩;rintro m σ1 H1 ⟨ρ1,δ1,st1,m1,l1,xK,e1⟩;cases m with
 |zero=>cases e1
 |succ m =>
  obtain⟨t,st2,e2,e1⟩:=di e1;refine hc ρ1 σ1 H1 δ1 st1 _ _ _ l1 xK e2 λx H2 ρ2 m2 l2 r2=>?_;subst r2;cases x with
  |true =>
   refine qJ ?_;rw[if_pos rfl]at e1;obtain⟨f2,st3,e3,e1⟩:=di e1;refine⟨λσ3 H3=>∃m',m' < m+1/\∃ρ1 δ1 st1,Mn K ρ H ρ1 H3/\Rl K ρ1 H3 st1/\Rs K ρ1 H3 σ3 δ1/\gh c b m' δ1 st1=some (fl,st'),λ_ _ h=>h,hb ρ2 σ1 H2 δ1 st2 f2 st3 _ l2 (xK.mn m2) e3 ?_⟩;cases f2 with
   |nx δ3=>exactλσ3 H3 ρ3 m3 l3 r3=>⟨m,ZbI m,ρ3,δ3,st3,(m1.trans m2).trans m3,l3,r3,e1⟩
   |ct δ3=>exactλσ3 H3 ρ3 m3 l3 r3=>⟨m,ZbI m,ρ3,δ3,st3,(m1.trans m2).trans m3,l3,r3,e1⟩
   |bk δ3=>cases e1;exact q.mn (m1.trans m2)
   |rt d=>cases e1;exact q.mn (m1.trans m2)
  |false =>
   refine qI ?_;rw[if_neg Zan]at e1;cases e1;exact q.mn (m1.trans m2) σ1 H2 ρ2 .refl l2 (xK.mn m2)
inductive Src where
 |fix (ds:List D)|live (i:Nat)|WM (i:Nat)|zl (i:Nat) (es:List D)|zr (ds:List D) (i:Nat)
abbrev Src.at:Src->Nat->Store->Option (Option D)
 |.fix ds,i,_=>if i<=ds.length then some ds[i]? else none
 |.live r,i,st=>(items st r).map λds=>ds[i]?
 |.WM r,i,st=>(items st r).bind λds=>if i<=ds.length then some (ds.mapIdx λi d=>D.tup [.int (i:Int),d])[i]? else none
 |.zl r es,i,st=>(items st r).bind λds=>if i<=(List.zipWith (λa b=>D.tup [a,b]) ds es).length then some (List.zipWith (λa b=>D.tup [a,b]) ds es)[i]? else none
 |.zr ds r,i,st=>(items st r).bind λes=>if i<=(List.zipWith (λa b=>D.tup [a,b]) ds es).length then some (List.zipWith (λa b=>D.tup [a,b]) ds es)[i]? else none
def uU{ds:List D}{i:Nat}{st:Store}{o:Option D}(h:Src.at (.fix ds) i st=some o):i<=ds.length/\ds[i]?=o:=by
 simp only[Src.at]at h;split at h
 ·next hl=>exact⟨hl,Zaq h⟩
 ·cases h
abbrev DZ(K:Zfr)(ρ:List Addr)(H:Hp)(J:It)(S:Src):Prop :=
 ∀(ρ2:List Addr) (H2:Hp) (st2:Store) (i:Nat),Mn K ρ H ρ2 H2->Rl K ρ2 H2 st2 ->
  (S.at i st2=some none->J.stop i H2)/\∀d,S.at i st2=some (some d)->J.go i H2/\∀x H3,J.ve i H2 x H3->Mn K ρ2 H2 ρ2 H3/\Rl K ρ2 H3 st2/\Rp K ρ2 H3 x d
@[reducible]def xM(K:Zfr)(t:TI)(f:aj->Dm Src):Prop:=So K (DZ K) t f
abbrev iA(S:Src)(g:D->aj->Dm aj)(b:aj->Dm Fl):Nat->Nat->aj->Dm Fl
 |0,_,_,_=>none
 |n+1,i,δ,st=>match S.at i st with
  |none=>none
  |some none=>some (.nx δ,st)
  |some (some d)=>bnd (g d δ st) λδ1 st1=>bnd (b δ1 st1) λfl st2=>match fl with
   |.nx δ2=>iA S g b n (i+1) δ2 st2
   |.ct δ2=>iA S g b n (i+1) δ2 st2
   |.bk δ2=>some (.nx δ2,st2)
   |.rt d=>some (.rt d,st2)
abbrev fm(fi:aj->Dm Src)(g:D->aj->Dm aj)(b:aj->Dm Fl):aj->Dm Fl:=λδ st=>bnd (fi δ st) λS st1=>iA S g b fuel 0 δ st1
def oS{wi:TI}{tg:TG}{tb:TS}{fi:aj->Dm Src}{g:D->aj->Dm aj}{b:aj->Dm Fl}(hi:xM K wi fi)(hg:zp K tg g)(hb:pB K tb b):pB K (Cp wi tg tb) (fm fi g b):=by
 intro ρ σ H δ st fl st' E l rs e q;obtain⟨S,mP,e0,e⟩:=di e;refine hi ρ σ H δ st S mP _ l rs e0 λJ H0 ρ0 m0 l0 ok=>?_;refine⟨λi m σ1 H1=>∃ρ1 δ1 st1,Mn K ρ0 H0 ρ1 H1/\Rl K ρ1 H1 st1/\Rs K ρ1 H1 σ1 δ1/\iA S g b m i δ1 st1=some (fl,st'),⟨fuel,ρ0,δ,mP,.refl,l0,rs.mn m0,e⟩,?_⟩;rintro i m σ1 H1 ⟨ρ1,δ1,st1,m1,l1,xK,e1⟩;cases m with
 |zero=>cases e1
 |succ m =>
  obtain⟨hstop,hgo⟩:=ok ρ1 H1 st1 i m1 l1;unfold iA at e1;split at e1
  ·cases e1
  ·next hs=>cases e1;exact .inl ⟨hstop hs,q.mn (m0.trans m1) σ1 H1 ρ1 .refl l1 xK⟩
  ·next d hs =>
   obtain⟨δ2,st2,e2,e1⟩:=di e1;obtain⟨f3,st3,e3,e1⟩:=di e1;obtain⟨go,ve⟩:=hgo d hs;refine .inr ⟨go,λσ3 H3=>∃m',m' < m+1/\∃ρ1 δ1 st1,Mn K ρ0 H0 ρ1 H3/\Rl K ρ1 H3 st1/\Rs K ρ1 H3 σ3 δ1/\iA S g b m' (i+1) δ1 st1=some (fl,st'),λ_ _ h=>h,λx H2 hy=>?_⟩;obtain⟨m2,l2,r2⟩:=ve x H2 hy;refine hg ρ1 σ1 H2 δ1 st1 x d δ2 st2 _ l2 (xK.mn m2) r2 e2 λσ4 H4 ρ4 m4 l4 r4=>hb ρ4 σ4 H4 δ2 st2 f3 st3 _ l4 r4 e3 ?_;have m5:=((m1.trans m2).trans m4);cases f3 with
   |nx δ3=>exactλσ5 H5 ρ5 m6 l5 r5=>⟨m,ZbI m,ρ5,δ3,st3,m5.trans m6,l5,r5,e1⟩
   |ct δ3=>exactλσ5 H5 ρ5 m6 l5 r5=>⟨m,ZbI m,ρ5,δ3,st3,m5.trans m6,l5,r5,e1⟩
   |bk δ3=>cases e1;exact q.mn (m0.trans m5)
   |rt d=>cases e1;exact q.mn (m0.trans m5)
abbrev cD(fa:aj->Dm D):aj->Dm Src:=λδ st=>bnd (fa δ st) λa st1=>match a with
 |.tup ds=>some (.fix ds,st1)
 |_=>none
def pC{t:TE}{fa:aj->Dm D}(ha:fg K t fa):xM K (Co K t) (cD fa):=by
 intro ρ σ H δ st S st' Q l rs e q;obtain⟨a,st1,e1,e⟩:=di e;cases a<;>simp at e;obtain⟨rfl,rfl⟩:=e;refine ha ρ σ H δ st _ _ _ l rs e1 λx H1 ρ1 m1 l1 r1=>?_;cases r1 with
 |tup s r =>
  refine⟨_,rfl,⟨_,s⟩,q _ H1 ρ1 m1 l1 λρ2 H2 st2 i m2 l2=>⟨λh=>?_,λd h=>?_⟩⟩;exact⟨_,m2.t _ _ s,by rw[r.length];exact ZaI.mp (uU h).2⟩;obtain⟨v,hv,rv⟩:=r.got (uU h).2;refine⟨⟨_,v,m2.t _ _ s,hv⟩,λx H3 y=>?_⟩;obtain⟨rfl,hx⟩:=y;have:=hx _ (m2.t _ _ s);rw[hv]at this;cases this;exact⟨.refl,l2,rv.mn m2⟩
abbrev kc(fa:aj->Dm D):aj->Dm Src:=λδ st=>bnd (fa δ st) λa st1=>match a with
 |.ref i=>match items st1 i with
  |some _=>some (.live i,st1)
  |none=>none
 |_=>none
def L9{t:TE}{fa:aj->Dm D}(ha:fg K t fa):xM K (wO K t) (kc fa):=by
 intro ρ σ H δ st S st' Q l rs e q;obtain⟨a,st1,e1,e⟩:=di e;split at e
 ·next k =>
  split at e
  ·next ds hd =>
   cases e;refine ha ρ σ H δ st _ _ _ l rs e1 λx H1 ρ1 m1 l1 r1=>?_;cases r1 with
   |ref hi =>
    obtain⟨vs,s,r⟩:=l1.items hi hd;refine⟨_,rfl,⟨_,s⟩,q _ H1 ρ1 m1 l1 λρ2 H2 st2 i m2 l2=>⟨λh=>?_,λd h=>?_⟩⟩
    ·obtain⟨WN,hd2,h⟩:=ZaB.mp h
     obtain⟨QN,s2,r2⟩:=l2.items (m2.r _ _ hi) hd2;exact⟨QN,s2,by rw[r2.length];exact ZaI.mp h⟩
    ·obtain⟨WN,hd2,h⟩:=ZaB.mp h
     obtain⟨QN,s2,r2⟩:=l2.items (m2.r _ _ hi) hd2;obtain⟨v,hv,rv⟩:=r2.got h;refine⟨⟨_,v,s2,hv⟩,λx H3 y=>?_⟩;obtain⟨rfl,hx⟩:=y;have:=hx _ s2;rw[hv]at this;cases this;exact⟨.refl,l2,rv⟩
  ·cases e
 ·cases e
abbrev cS(fa:aj->Dm (List D)):aj->Dm Src:=λδ st=>bnd (fa δ st) λas st1=>match as with
 |[.int j]=>if decide (-4611686018427387904<=j/\j<4611686018427387904)=true then some (.fix (aH 0 j.toNat),st1)else none
 |_=>none
abbrev ux(fa:aj->Dm (List D)):aj->Dm Src:=λδ st=>bnd (fa δ st) λas st1=>match as with
 |[.int i,.int j]=>if decide ((-4611686018427387904<=i/\i<4611686018427387904)/\-4611686018427387904<=j/\j<4611686018427387904)=true then some (.fix (aH i (j-i).toNat),st1)else none
 |_=>none
def lr(lo:Int)(n:Nat):(aH lo n).length=n:=by simp[aH]
def D0{lo:Int}{n k:Nat}(h:k<n):(aH lo n)[k]?=some (.int (lo+k)):=by simp[aH,h]
def zq{ρ:List Addr}{H:Hp}(lo:Int)(n:Nat):DZ K ρ H (GW lo n) (.fix (aH lo n)):=by
 intro ρ2 H2 st2 i m2 l2;refine⟨λh=>?_,λd h=>?_⟩
 have:=ZaI.mp (uU h).2
 rw[lr]at this;exact this;have h:=(uU h).2;have hl:=(Zac.mp h).1;rw[lr]at hl;rw[D0 hl]at h;cases h;refine⟨hl,λx H3 y=>?_⟩;obtain⟨rfl,rfl⟩:=y;exact⟨.refl,l2,.int _⟩
def uy{t:TA}{fa:aj->Dm (List D)}(ha:sU K t fa):xM K (wQ t) (cS fa):=by
 intro ρ σ H δ st S st' Q l rs e q;obtain⟨as,st1,e1,e⟩:=di e;split at e
 ·split at e
  ·next ok =>
   cases e;have ok:=of_decide_eq_true ok;refine ha ρ σ H δ st _ _ _ l rs e1 λx H1 ρ1 m1 l1 r1=>?_;obtain⟨v,rfl,r⟩:=r1.one';cases r;exact⟨_,rfl,by lk,by lk,q _ H1 ρ1 m1 l1 (zq 0 _)⟩
  ·cases e
 ·cases e
abbrev ny(ds:List D):List D:=ds.mapIdx λi d=>.tup [.int (i:Int),d]
def D1(ds:List D):(ny ds).length=ds.length:=by simp[ny]
def Ma{ds:List D}{i:Nat}{x:D}(h:(ny ds)[i]?=some x):∃d,ds[i]?=some d/\x=.tup [.int (i:Int),d]:=by unfold ny at h;rw[List.getElem?_mapIdx]at h;obtain⟨d,h1,h2⟩:=ZaB.mp h;exact⟨d,h1,h2.symm⟩
abbrev oj(fa:aj->Dm (List D)):aj->Dm Src:=λδ st=>bnd (fa δ st) λas st1=>match as with
 |[.tup ds]=>some (.fix (ny ds),st1)
 |_=>none
def QO{t:TA}{fa:aj->Dm (List D)}(ha:sU K t fa):xM K (xj K t) (oj fa):=by
 intro ρ σ H δ st S st' Q l rs e q;obtain⟨as,st1,e1,e⟩:=di e;split at e;cases e;refine ha ρ σ H δ st _ _ _ l rs e1 λx H1 ρ1 m1 l1 r1=>?_;obtain⟨v,rfl,r⟩:=r1.one';cases r with
 |tup s r =>
  refine⟨_,rfl,⟨_,s⟩,q _ H1 ρ1 m1 l1 λρ2 H2 st2 i m2 l2=>⟨λh=>?_,λd h=>?_⟩⟩;obtain⟨h1,h2⟩:=uU h;have h2:=ZaI.mp h2;rw[D1]at h1 h2;exact⟨_,m2.t _ _ s,by rw[r.length];lk⟩;obtain⟨h1,h2⟩:=uU h;obtain⟨d',hd',rfl⟩:=Ma h2;obtain⟨v,hv,rv⟩:=r.got hd';refine⟨⟨_,v,m2.t _ _ s,hv⟩,λx H3 y=>?_⟩;obtain⟨p,z,rfl,hp,rfl,hx⟩:=y;have:=hx _ (m2.t _ _ s);rw[hv]at this;cases this;have m3:Mn K ρ2 H2 ρ2 (upd H2 p (.tup [.int (i:Int),v])):=Mn.same (jV.up hp);exact⟨m3,l2.same (jV.up hp),.tup (eQ.of sP) (.cons (.int _) (.one ((rv.mn m2).mn m3)))⟩
 cases e
abbrev ja(S:Src)(g:D->aj->Dm aj)(tc:aj->Dm Bool)(te:aj->Dm D):Nat->Nat->List D->aj->Dm (List D)
 |0,_,_,_,_=>none
 |n+1,i,ys,δ,st=>if lim ys.length=true then match S.at i st with
  |none=>none
  |some none=>some (ys,st)
  |some (some d)=>bnd (g d δ st) λδ1 st1=>bnd (tc δ1 st1) λt st2=>if t=true then bnd (te δ1 st2) λy st3=>ja S g tc te n (i+1) (ys ++ [y]) δ1 st3 else ja S g tc te n (i+1) ys δ1 st2
  else none
abbrev oT(n:Nat)(js:List Nat)(δ:aj):aj:=List.replicate n none ++ js.map λj=>δ.getD j none
abbrev bN(fi:aj->Dm Src)(n:Nat)(js:List Nat)(g:D->aj->Dm aj)(tc:aj->Dm Bool)(te:aj->Dm D):aj->Dm D:=λδ st=>bnd (fi δ st) λS st1=>bnd (ja S g tc te fuel 0 [] (oT n js δ) st1) λys st2=>some (.ref st2.length,st2 ++ [.lst ys])
def Rs.comp{ρ:List Addr}{H:Hp}{σ:St}{δ:aj}(h:Rs K ρ H σ δ)(n:Nat)(js:List Nat):Rs K ρ H (j7 n js σ) (oT n js δ):=by
 unfold j7 oT;refine⟨by simp,λi d hd=>?_⟩;by_cases hi:i<n;rw[Zav (by simpa using hi),ZbY,if_pos hi]at hd;cases hd;rw[ZaC (by simpa using Zcm hi),Zal]at hd;rw[ZaC (by simpa using Zcm hi),Zal];simp only[Zbk]at hd ⊢;cases hj:js[i-n]? with
 |none=>rw[hj]at hd;cases hd
 |some j =>
  rw[hj]at hd;have hd:δ.getD j none=some d:=Zaq hd;rw[Zaf]at hd;have hd':δ[j]?=some (some d):=by
   cases hx:δ[j]? with
   |none=>rw[hx]at hd;cases hd
   |some y=>rw[hx]at hd;exact congrArg some hd
  obtain⟨v,hv,r⟩:=h.2 j d hd';exact⟨v,by show some (σ.getD j none)=_;rw[Zaf,hv];rfl,r⟩
def p5{wi:TI}{tg:TG}{tc:TT}{te:TE}{fi:aj->Dm Src}{n:Nat}{js:List Nat}{g:D->aj->Dm aj}{c:aj->Dm Bool}{f:aj->Dm D}(hi:xM K wi fi)(hg:zp K tg g)(hc:qR K tc c)(hf:fg K te f):fg K (tZ wi n js tg tc te) (bN fi n js g c f):=by
 intro ρ σ H δ st b st' Q l rs e q;obtain⟨S,mP,e0,e⟩:=di e;obtain⟨zs,oC,e9,e⟩:=di e;cases e;refine hi ρ σ H δ st S mP _ l rs e0 λJ H0 ρ0 m0 l0 ok=>?_;refine⟨λi m ys σ1 H1=>∃ρ1 δ1 st1 ws,Mn K ρ0 H0 ρ1 H1/\Rl K ρ1 H1 st1/\Rs K ρ1 H1 σ1 δ1/\cq K ρ1 H1 ys ws/\ja S g c f m i ws δ1 st1=some (zs,oC),⟨fuel,ρ0,_,mP,[],.refl,l0,(rs.mn m0).comp n js,.nil,e9⟩,?_⟩;rintro i m ys σ1 H1 ⟨ρ1,δ1,st1,ws,m1,l1,xK,HV,e1⟩;cases m with
 |zero=>cases e1
 |succ m =>
  obtain⟨hstop,hgo⟩:=ok ρ1 H1 st1 i m1 l1;unfold ja at e1;split at e1
  ·next hl =>
   refine⟨by rw[HV.length];exact LY hl,?_⟩;split at e1
   ·cases e1
   ·next hs =>
    cases e1;exact .inl ⟨hstop hs,λp hp=>q _ _ _ ((m0.trans m1).trans (Mn.new hp)) (l1.newL hp HV) (.ref (newR l1))⟩
   ·next d hs =>
    obtain⟨δ2,st2,e2,e1⟩:=di e1;obtain⟨t,st3,e3,e1⟩:=di e1;obtain⟨go,ve⟩:=hgo d hs;refine .inr ⟨go,λx H2 hy=>?_⟩;obtain⟨m2,l2,r2⟩:=ve x H2 hy;refine hg ρ1 σ1 H2 δ1 st1 x d δ2 st2 _ l2 (xK.mn m2) r2 e2 λσ4 H4 ρ4 m4 l4 r4=>hc ρ4 σ4 H4 δ2 st2 t st3 _ l4 r4 e3 λt' H5 ρ5 m5 l5 r5=>?_;subst r5;have m6:=(((m1.trans m2).trans m4).trans m5);cases t' with
    |true =>
     refine qJ ?_;rw[if_pos rfl]at e1;obtain⟨y,D2,e6,e1⟩:=di e1;exact hf ρ5 σ4 H5 δ2 st3 y D2 _ l5 (r4.mn m5) e6 λv H7 ρ7 m7 l7 r7=>⟨m,ZbI m,ρ7,δ2,D2,ws ++ [y],m6.trans m7,l7,r4.mn (m5.trans m7),(HV.mn (((m2.trans m4).trans m5).trans m7)).append (.one r7),e1⟩
    |false =>
     refine qI ?_;rw[if_neg Zan]at e1;exact⟨m,ZbI m,ρ5,δ2,st3,ws,m6,l5,r4.mn m5,HV.mn ((m2.trans m4).trans m5),e1⟩
  ·cases e1
abbrev b7:aj->Dm Bool:=λ_ st=>some (true,st)
abbrev dW(n:Nat)(b:aj->Dm Fl):List D->Dm D:=λds st=>bnd (b (ds.map some ++ List.replicate (n-ds.length) none) st) λfl st1=>match fl with
 |.rt d=>some (d,st1)
 |.nx _=>some (.non,st1)
 |_=>none
def Rs.start{ρ:List Addr}{H:Hp}{vs:List V}{ds:List D}(r:cq K ρ H vs ds)(N:List Str):Rs K ρ H (start N vs) (ds.map some ++ List.replicate (N.length-ds.length) none):=by
 unfold L2.start;rw[r.length];refine⟨by simp[r.length],λi d hd=>?_⟩;by_cases hi:i<ds.length;rw[Zav (by simpa using hi),Zal]at hd;rw[Zav (by rw[Zaa,r.length];exact hi),Zal];cases hx:ds[i]? with
 |none=>rw[hx]at hd;cases hd
 |some y =>
  rw[hx]at hd;cases hd;obtain⟨v,hv,rv⟩:=r.got hx;exact⟨v,by rw[hv];rfl,rv⟩
 rw[ZaC (by simpa using Zcm hi),ZbY]at hd;split at hd<;>cases hd
def d9{N:List Str}{k n:Nat}{t:TS}{b:aj->Dm Fl}{vs:List V}{H:Hp}{Q:VK}{E:XK}(hb:pB K t b)(hn:N.length=n)(h:a9 K k (dW n b) vs H Q E):t { nx:=λ_ H'=>Q .non H',rt:=Q } (start N vs) H:=by
 obtain⟨hk,ρ,st,ds,d,st',l,r,e,q⟩:=h;subst hn;obtain⟨fl,st1,e1,e⟩:=di e;refine hb ρ _ H _ st fl st1 _ l (Rs.start r N) e1 ?_;cases fl with
 |rt v=>cases e;exact q
 |nx δ=>cases e;exactλσ' H' ρ' m l' r'=>q .non H' ρ' m l' .non
 |bk δ=>cases e
 |ct δ=>cases e
end
section
variable {X:Cx}{K:Zfr}
def WO{N:List Str}{uz:Scope}{cells:List (Str×Addr)}{C:Addr}{fp:List Addr}{s:Shared}{H:Hp}{uA:Scope}{own fr:List Str}(h:tW (tV uz X.env.scope) uA own fr):tW (aQ X N uz cells C fp s H).env.scope uA own fr:=h
def rT:qR K (λ_ H Q=>Q true H) b7:=by intro ρ σ H δ st b st' Q l rs e q;cases e;exact q _ H ρ .refl l rfl
end
abbrev xN(K:Zfr):Sp:=λvs H Q _=>∃(a:Addr) (ns:List Int),vs=[.ref a]/\CT K H a (ns.map V.int)/\ns.length<=63/\∀H',Q (.bl true) H'
def zt{P:Program}{w:World}{K:Zfr}{mg:Str->Option Value}{base:Heap}{k:Nat}{f:Addr}{fd:FuncData}{ps:List Str}{F:List D->Dm D}(G:aD P w K mg base a7 k f fd ps (a9 K 1 F))
  (h:∀ns:List Int,ns.length<=63->∃st',F [.ref 0] [.sE (ns.map D.int)]=some (.bl true,st')):aD P w K mg base a7 k f fd ps (xN K):=by
 refine G.imp λvs H Q E hs=>?_;obtain⟨a,ns,rfl,hS,hn,q⟩:=hs;obtain⟨st',e⟩:=h ns hn;have one:∀i (b:Addr),([a]:List Addr)[i]?=some b->i=0/\b=a:=λi b h=>by
  cases i with
  |zero=>exact⟨rfl,(Zaq h).symm⟩
  |succ i=>simp at h
 refine⟨rfl,[a],[.sE (ns.map D.int)],[.ref 0],.bl true,st',⟨rfl,λi j b o o' h1 h2 _ _ _ _=>by rw[(one i b h1).1,(one j b h2).1],λi b o h1 h2=>?_⟩,.one (.ref rfl),e,λv H' ρ' m l r=>by cases r;exact q H'⟩;obtain⟨rfl,rfl⟩:=one i b h1;cases(Zaq h2);exact⟨ns.map V.int,hS,cq.ints ns⟩
abbrev Wp{α:Type}(m:Option (α×Store))(Q:α->Store->Prop):Prop:=∃a st,m=some (a,st)/\Q a st
section
variable {α β:Type}{Q Q':α->Store->Prop}{st:Store}{δ:aj}
def aR{m:Option (α×Store)}(h:Wp m Q)(hq:∀a st,Q a st->Q' a st):Wp m Q':=let ⟨a,st,e,q⟩:=h;⟨a,st,e,hq a st q⟩
def a8{a:α}:Wp (some (a,st)) Q↔Q a st:=⟨λ⟨_,_,e,q⟩=>by cases e;exact q,λq=>⟨a,st,rfl,q⟩⟩
def fA:Wp (none:Option (α×Store)) Q↔False:=⟨λ⟨_,_,e,_⟩=>(by cases e),False.elim⟩
def dr{R:β->Store->Prop}{m:Option (α×Store)}{k:α->Dm β}:Wp (bnd m k) R↔Wp m λa st1=>Wp (k a st1) R:=by
 cases m with
 |none=>exact⟨λ⟨_,_,e,_⟩=>(by cases e),λ⟨_,_,e,_⟩=>(by cases e)⟩
 |some p=>exact⟨λh=>⟨p.1,p.2,rfl,h⟩,λ⟨a,s,e,h⟩=>by cases e;exact h⟩
def oD{c:Prop}[Decidable c]{m n:Option (α×Store)}:Wp (if c then m else n) Q↔if c then Wp m Q else Wp n Q:=by split<;>exact Iff.rfl
end
section
variable {st:Store}{δ:aj}{Q:D->Store->Prop}
def zu{i:Nat}:Wp (ag i δ st) Q↔∃d,δ[i]?=some (some d)/\Q d st:=by
 unfold ag;split
 ·next d hd=>rw[a8];exact⟨λh=>⟨d,hd,h⟩,λ⟨e,he,h⟩=>by rw[hd]at he;cases he;exact h⟩
 ·next h=>rw[fA];exact⟨False.elim,λ⟨e,he,_⟩=>h e he⟩
def Mb{d:D}:Wp (fC d δ st) Q↔Q d st:=a8
def D3{g:D->D->Dm D}{fa fb:aj->Dm D}:Wp (aB g fa fb δ st) Q↔Wp (fa δ st) λa st1=>Wp (fb δ st1) λb st2=>Wp (g a b st2) Q:=by unfold aB;rw[dr];simp only[dr]
def D4{g:D->Dm D}{fa:aj->Dm D}:Wp (pj g fa δ st) Q↔Wp (fa δ st) λa st1=>Wp (g a st1) Q:=dr
def D5{g:List D->Dm D}{fa:aj->Dm (List D)}:Wp (aG g fa δ st) Q↔Wp (fa δ st) λa st1=>Wp (g a st1) Q:=dr
def zv{R:List D->Store->Prop}:Wp (ah δ st) R↔R [] st:=a8
def WQ{R:List D->Store->Prop}{fa:aj->Dm D}{fr:aj->Dm (List D)}:Wp (af fa fr δ st) R↔Wp (fa δ st) λa st1=>Wp (fr δ st1) λr st2=>R (a :: r) st2:=by unfold af;rw[dr];simp only[dr,a8]
def zw{fa:aj->Dm (List D)}:Wp (b8 fa δ st) Q↔Wp (fa δ st) λas st1=>lim as.length=true/\Q (.tup as) st1:=by unfold b8;rw[dr];simp only[oD,a8,fA];constructor<;>exactλh=>aR h λa s h=>by first|(split at h;exact⟨by assumption,h⟩;exact h.elim)|(rw[if_pos h.1];exact h.2)
def zx{fa:aj->Dm (List D)}:Wp (dB fa δ st) Q↔Wp (fa δ st) λas st1=>lim as.length=true/\Q (.ref st1.length) (st1 ++ [.lst as]):=by unfold dB;rw[dr];simp only[oD,a8,fA];constructor<;>exactλh=>aR h λa s h=>by first|(split at h;exact⟨by assumption,h⟩;exact h.elim)|(rw[if_pos h.1];exact h.2)
def WR{R:Bool->Store->Prop}{fa:aj->Dm D}:Wp (aL fa δ st) R↔Wp (fa δ st) λa st1=>∃b,a=.bl b/\R b st1:=by unfold aL;rw[dr];constructor<;>refineλh=>aR h λa s h=>?_;cases a<;>simp only[a8,fA]at h;exact⟨_,rfl,h⟩;obtain⟨b,rfl,h⟩:=h;exact a8.mpr h
def zy{R:Bool->Store->Prop}{fa:aj->Dm Bool}:Wp (vP fa δ st) R↔Wp (fa δ st) λa st1=>R (!a) st1:=by unfold vP;rw[dr];simp only[a8]
def zz{R:Bool->Store->Prop}{fa fb:aj->Dm Bool}:Wp (uo fa fb δ st) R↔Wp (fa δ st) λa st1=>if a=true then Wp (fb δ st1) R else R false st1:=by unfold uo;rw[dr];simp only[oD,a8]
def D6{R:Bool->Store->Prop}{fa fb:aj->Dm Bool}:Wp (zi fa fb δ st) R↔Wp (fa δ st) λa st1=>if a=true then R true st1 else Wp (fb δ st1) R:=by unfold zi;rw[dr];simp only[oD,a8]
def xO{α:Type}{R:α->Store->Prop}{c:aj->Dm Bool}{fa fb:aj->Dm α}:Wp (jW c fa fb δ st) R↔Wp (c δ st) λa st1=>if a=true then Wp (fa δ st1) R else Wp (fb δ st1) R:=by unfold jW;rw[dr];simp only[oD]
def WS{fa fb:aj->Dm D}:Wp (rP fa fb δ st) Q↔Wp (aL fa δ st) λa st1=>if a=true then Wp (fb δ st1) Q else Q (.bl false) st1:=by unfold rP;rw[dr];simp only[oD,a8]
def zA{fa fb:aj->Dm D}:Wp (DL fa fb δ st) Q↔Wp (aL fa δ st) λa st1=>if a=true then Q (.bl true) st1 else Wp (fb δ st1) Q:=by unfold DL;rw[dr];simp only[oD,a8]
def WT{fa:aj->Dm D}:Wp (xD fa δ st) Q↔Wp (aL fa δ st) λa st1=>Q (.bl (!a)) st1:=by unfold xD;rw[dr];simp only[a8]
def WU{R:Option Int->Store->Prop}:Wp (gL δ st) R↔R none st:=a8
def WV{R:Option Int->Store->Prop}{fa:aj->Dm D}:Wp (l6 fa δ st) R↔Wp (fa δ st) λa st1=>∃i,a=.int i/\R (some i) st1:=by unfold l6;rw[dr];constructor<;>refineλh=>aR h λa s h=>?_;cases a<;>simp only[a8,fA]at h;exact⟨_,rfl,h⟩;obtain⟨b,rfl,h⟩:=h;exact a8.mpr h
def D7{g:D->Option Int->Option Int->Dm D}{fa:aj->Dm D}{fl fh:aj->Dm (Option Int)}:Wp (vQ g fa fl fh δ st) Q↔Wp (fa δ st) λa st1=>Wp (fl δ st1) λlo st2=>Wp (fh δ st2) λhi st3=>Wp (g a lo hi st3) Q:=by unfold vQ;rw[dr];simp only[dr]
def D8{T:String}{g:D->List D->Dm D}{fo:aj->Dm D}{fa:aj->Dm (List D)}:Wp (pq T g fo fa δ st) Q↔Wp (fo δ st) λo st1=>xJ T st1 o=true/\Wp (fa δ st1) λas st2=>Wp (g o as st2) Q:=by unfold pq;rw[dr];simp only[oD,dr,fA];constructor<;>exactλh=>aR h λa s h=>by first|(split at h;exact⟨by assumption,h⟩;exact h.elim)|(rw[if_pos h.1];exact h.2)
variable {i j:Int}{ds es:List D}{k:Nat}
def zB:Wp (dU (.int i) (.int j) st) Q↔Q (.int (i+j)) st:=a8
def zC:Wp (oH (.int i) (.int j) st) Q↔Q (.int (i-j)) st:=a8
def D9:Wp (vS (.int i) (.int j) st) Q↔Q (.bl (decide (i<j))) st:=a8
def Ea:Wp (L0 (.int i) (.int j) st) Q↔Q (.bl (decide (i<=j))) st:=a8
def Eb:Wp (DN (.int i) (.int j) st) Q↔Q (.bl (decide (j<i))) st:=a8
def Ec:Wp (L3 (.int i) (.int j) st) Q↔Q (.bl (decide (j<=i))) st:=a8
def zD:Wp (iT (.int i) st) Q↔Q (.int (-i)) st:=a8
def BF{c:Int->Int->Bool}{h:Int->Int->D}:Wp (vR c h (.int i) (.int j) st) Q↔c i j=true/\Q (h i j) st:=by
 show Wp (if c i j=true then some (h i j,st)else none) Q↔_;rw[oD,a8,fA];split
 ·next h=>exact⟨λq=>⟨h,q⟩,λq=>q.2⟩
 ·next h=>exact⟨False.elim,λq=>h q.1⟩
def zE:Wp (jX (.int i) (.int j) st) Q↔((-18446744073709551616<i/\i<18446744073709551616)\/(-18446744073709551616<j/\j<18446744073709551616))/\Q (.int (i*j)) st:=by unfold jX;rw[BF,ZbC,decide_eq_true_eq,decide_eq_true_eq]
def WW:Wp (ni (.int i) (.int j) st) Q↔(0<j/\j<1073741824)/\Q (.int (i / j)) st:=by unfold ni;rw[BF,decide_eq_true_eq]
def zF:Wp (l8 (.int i) (.int j) st) Q↔0<j/\Q (.int (i % j)) st:=by unfold l8;rw[BF,decide_eq_true_eq]
def zG:Wp (uq (.int i) (.int j) st) Q↔(0<=j/\j<=1000000/\i.natAbs<18446744073709551616)/\Q (.int (i ^ j.toNat)) st:=by unfold uq;rw[BF,decide_eq_true_eq]
def zH{neg:Bool}:Wp (lU neg (.int i) (.int j) st) Q↔Q (.bl (if neg then !decide (i=j)else decide (i=j))) st:=by
 have e:decide (V.int i=V.int j)=decide (i=j):=by
  by_cases h:i=j;subst h;simp;simp[h]
 show Wp (if qG (V.int i) (V.int j)=true then some (D.bl (if neg then !decide (V.int i=V.int j)else decide (V.int i=V.int j)),st)else none) Q↔_;rw[if_pos (show qG _ _=true from rfl),a8,e]
def zI{neg:Bool}{x y:Str}:Wp (lU neg (.str x) (.str y) st) Q↔Q (.bl (if neg then !decide (x=y)else decide (x=y))) st:=by
 have e:decide (V.str x=V.str y)=decide (x=y):=by
  by_cases h:x=y;subst h;simp;simp[h]
 show Wp (if qG (V.str x) (V.str y)=true then some (D.bl (if neg then !decide (V.str x=V.str y)else decide (V.str x=V.str y)),st)else none) Q↔_;rw[if_pos (show qG _ _=true from rfl),a8,e]
def zJ:Wp (aE (.tup ds) (.int i) st) Q↔∃d,gH ds i=some d/\Q d st:=by
 show Wp (match gH ds i with|some d=>some (d,st)|none=>none) Q↔_;cases gH ds i with
 |none=>rw[fA];exact⟨False.elim,λ⟨_,e,_⟩=>by cases e⟩
 |some d=>rw[a8];exact⟨λq=>⟨d,rfl,q⟩,λ⟨_,e,q⟩=>by cases e;exact q⟩
def zK:Wp (iz (.ref k) (.int i) st) Q↔∃ds d,items st k=some ds/\gH ds i=some d/\Q d st:=by
 show Wp (match items st k with|some ds=>(match gH ds i with|some d=>some (d,st)|none=>none)|none=>none) Q↔_;cases items st k with
 |none=>rw[fA];exact⟨False.elim,λ⟨_,_,e,_⟩=>by cases e⟩
 |some ds =>
  show Wp (match gH ds i with|some d=>some (d,st)|none=>none) Q↔_;cases h:gH ds i with
  |none=>rw[fA];exact⟨False.elim,λ⟨_,_,e,e',_⟩=>by cases e;rw[h]at e';cases e'⟩
  |some d=>rw[a8];exact⟨λq=>⟨ds,d,rfl,h,q⟩,λ⟨_,_,e,e',q⟩=>by cases e;rw[h]at e';cases e';exact q⟩
def zL{lo hi:Option Int}:Wp (vT (.tup ds) lo hi st) Q↔Q (.tup (cutD ds lo hi)) st:=a8
def zM{lo hi:Option Int}:Wp (qT (.ref k) lo hi st) Q↔∃ds,items st k=some ds/\Q (.ref st.length) (st ++ [.lst (cutD ds lo hi)]):=by
 show Wp (match items st k with|some ds=>some (D.ref st.length,st ++ [O.lst (cutD ds lo hi)])|none=>none) Q↔_;cases items st k with
 |none=>rw[fA];exact⟨False.elim,λ⟨_,e,_⟩=>by cases e⟩
 |some ds=>rw[a8];exact⟨λq=>⟨ds,rfl,q⟩,λ⟨_,e,q⟩=>by cases e;exact q⟩
def WX:Wp (ka (.tup ds) (.tup es) st) Q↔lim (ds.length+es.length)=true/\Q (.tup (ds ++ es)) st:=by
 show Wp (if lim (ds.length+es.length)=true then some (D.tup (ds ++ es),st)else none) Q↔_;rw[oD,a8,fA];split
 ·next h=>exact⟨λq=>⟨h,q⟩,λq=>q.2⟩
 ·next h=>exact⟨False.elim,λq=>h q.1⟩
def zN{a b:Nat}:Wp (nC (.ref a) (.ref b) st) Q↔∃xs ys,own st a=some xs/\own st b=some ys/\lim (xs.length+ys.length)=true/\Q (.ref st.length) (st ++ [.lst (xs ++ ys)]):=by
 show Wp (match own st a,own st b with|some xs,some ys=>if lim (xs.length+ys.length)=true then some (D.ref st.length,st ++ [O.lst (xs ++ ys)])else none|_,_=>none) Q↔_;cases ha:own st a<;>cases hb:own st b
 ·simp only[fA];exact⟨False.elim,λ⟨_,_,e,_⟩=>by cases e⟩
 ·simp only[fA];exact⟨False.elim,λ⟨_,_,e,_⟩=>by cases e⟩
 ·simp only[fA];exact⟨False.elim,λ⟨_,_,_,e,_⟩=>by cases e⟩
 ·next xs ys =>
  show Wp (if lim (xs.length+ys.length)=true then some (D.ref st.length,st ++ [O.lst (xs ++ ys)])else none) Q↔_;rw[oD,a8,fA];split
  ·next h=>exact⟨λq=>⟨_,_,rfl,rfl,h,q⟩,λ⟨_,_,e,e',_,q⟩=>by cases e;cases e';exact q⟩
  ·next h=>exact⟨False.elim,λ⟨_,_,e,e',q,_⟩=>by cases e;cases e';exact h q⟩
def zO{a:D}:Wp (cR [a] st) Q↔∃ds,b9 st a=some ds/\Q (.int ds.length) st:=by
 show Wp (match b9 st a with|some ds=>some (D.int ds.length,st)|none=>none) Q↔_;cases b9 st a with
 |none=>rw[fA];exact⟨False.elim,λ⟨_,e,_⟩=>by cases e⟩
 |some ds=>rw[a8];exact⟨λq=>⟨ds,rfl,q⟩,λ⟨_,e,q⟩=>by cases e;exact q⟩
def WY{a:D}:Wp (oh [a] st) Q↔∃ds,b9 st a=some ds/\Q (.ref st.length) (st ++ [.lst ds]):=by
 show Wp (match b9 st a with|some ds=>some (D.ref st.length,st ++ [O.lst ds])|none=>none) Q↔_;cases b9 st a with
 |none=>rw[fA];exact⟨False.elim,λ⟨_,e,_⟩=>by cases e⟩
 |some ds=>rw[a8];exact⟨λq=>⟨ds,rfl,q⟩,λ⟨_,e,q⟩=>by cases e;exact q⟩
def WZ{a:D}:Wp (bC [a] st) Q↔∃ds,b9 st a=some ds/\Q (.tup ds) st:=by
 show Wp (match b9 st a with|some ds=>some (D.tup ds,st)|none=>none) Q↔_;cases b9 st a with
 |none=>rw[fA];exact⟨False.elim,λ⟨_,e,_⟩=>by cases e⟩
 |some ds=>rw[a8];exact⟨λq=>⟨ds,rfl,q⟩,λ⟨_,e,q⟩=>by cases e;exact q⟩
def W0:Wp (oi [.int i,.int j] st) Q↔Q (.int (if j > i then j else i)) st:=a8
def W2:Wp (rS [.int i,.int j] st) Q↔Q (.int (if j<i then j else i)) st:=a8
def xdg:Wp (xI [.int i] st) Q↔Q (.int i) st:=a8
def W3{b:Bool}:Wp (xI [.bl b] st) Q↔Q (.int (if b then 1 else 0)) st:=a8
def W4:Wp (i7 [.int j] st) Q↔Q (.ref st.length) (st ++ [.jR 0 j]):=a8
def W5:Wp (fE [.int i,.int j] st) Q↔Q (.ref st.length) (st ++ [.jR i j]):=a8
def W6{y:D}:Wp (cC (.ref k) [y] st) Q↔∃xs,own st k=some xs/\lim xs.length=true/\Q .non (st.set k (.lst (xs ++ [y]))):=by
 show Wp (match own st k with|some xs=>if lim xs.length=true then some (D.non,st.set k (O.lst (xs ++ [y])))else none|none=>none) Q↔_;cases own st k with
 |none=>rw[fA];exact⟨False.elim,λ⟨_,e,_⟩=>by cases e⟩
 |some xs =>
  show Wp (if lim xs.length=true then some (D.non,st.set k (O.lst (xs ++ [y])))else none) Q↔_;rw[oD,a8,fA];split
  ·next h=>exact⟨λq=>⟨_,rfl,h,q⟩,λ⟨_,e,_,q⟩=>by cases e;exact q⟩
  ·next h=>exact⟨False.elim,λ⟨_,e,q,_⟩=>by cases e;exact h q⟩
end
abbrev Ws(m:Option (Fl×Store))(N B C:aj->Store->Prop)(R:D->Store->Prop):Prop:=Wp m λfl st=>match fl with
 |.nx δ=>N δ st
 |.bk δ=>B δ st
 |.ct δ=>C δ st
 |.rt d=>R d st
section
variable {st:Store}{δ:aj}{N B C:aj->Store->Prop}{R:D->Store->Prop}{f g:aj->Dm Fl}{e:aj->Dm D}
def BG{m:Option (Fl×Store)}{N':aj->Store->Prop}(h:Ws m N B C R)(hn:∀δ st,N δ st->N' δ st):Ws m N' B C R:=aR h λfl st q=>by
 cases fl with
 |nx δ=>exact hn δ st q
 |bk δ=>exact q
 |ct δ=>exact q
 |rt d=>exact q
def aW(h:Ws (f δ st) (λδ1 st1=>Ws (g δ1 st1) N B C R) B C R):Ws (aA f g δ st) N B C R:=by
 unfold Ws aA;rw[dr];refine aR h λfl st1 q=>?_;cases fl with
 |nx δ1=>exact q
 |bk δ1=>exact a8.mpr q
 |ct δ1=>exact a8.mpr q
 |rt d=>exact a8.mpr q
def mJ(h:N δ st):Ws (bR δ st) N B C R:=a8.mpr h
def W7(h:B δ st):Ws (qU δ st) N B C R:=a8.mpr h
def BH{t:D->aj->Dm aj}(h:Wp (e δ st) λd st1=>Wp (t d δ st1) N):Ws (aF e t δ st) N B C R:=by unfold Ws aF;rw[dr];refine aR h λd st1 q=>?_;rw[dr];exact aR q λδ1 st2 q=>a8.mpr q
def bD{i:Nat}(h:Wp (e δ st) λd st1=>N (δ.set i (some d)) st1):Ws (aF e (hName i) δ st) N B C R:=BH (aR h λd st1 q=>a8.mpr q)
def sL(h:Wp (e δ st) λ_ st1=>N δ st1):Ws (fz e δ st) N B C R:=by unfold Ws fz;rw[dr];exact aR h λd st1 q=>a8.mpr q
def c4(h:Wp (e δ st) R):Ws (aV e δ st) N B C R:=by unfold Ws aV;rw[dr];exact aR h λd st1 q=>a8.mpr q
def kZ{c:aj->Dm Bool}(h:Wp (c δ st) λb st1=>(b=true->Ws (f δ st1) N B C R)/\(b=false->Ws (g δ st1) N B C R)):Ws (jW c f g δ st) N B C R:=by
 unfold Ws;rw[xO];refine aR h λb st1 q=>?_;cases b with
 |true=>rw[if_pos rfl];exact q.1 rfl
 |false=>rw[if_neg Zan];exact q.2 rfl
def Ed{i j:Nat}{fa:aj->Dm (List D)}(h:Wp (fa δ st) λas st1=>∃a b,as=[a,b]/\N ((δ.set i (some a)).set j (some b)) st1):Ws (qm i j fa δ st) N B C R:=by unfold Ws qm;rw[dr];refine aR h λas st1 q=>?_;obtain⟨a,b,rfl,q⟩:=q;exact a8.mpr q
def dY{n:Nat}{b:aj->Dm Fl}{ds:List D}(h:Ws (b (ds.map some ++ List.replicate (n-ds.length) none) st) (λ_ st1=>R .non st1) (λ_ _=>False) (λ_ _=>False) R):Wp (dW n b ds st) R:=by
 unfold dW;rw[dr];refine aR h λfl st1 q=>?_;cases fl with
 |nx δ1=>exact a8.mpr q
 |bk δ1=>exact q.elim
 |ct δ1=>exact q.elim
 |rt d=>exact a8.mpr q
def vY{c:aj->Dm Bool}{b:aj->Dm Fl}(W:Nat->aj->Store->Prop)(m:Nat)(hm:m<fuel)(h0:W m δ st)
  (step:∀m δ st,W m δ st->Wp (c δ st) λt st1=>(t=true->Ws (b δ st1) (λδ2 st2=>∃m',m' < m/\W m' δ2 st2) N (λδ2 st2=>∃m',m' < m/\W m' δ2 st2) R)/\(t=false->N δ st1)):Ws (gi c b δ st) N B C R:=by
 have key:∀(k m:Nat) (δ:aj) (st:Store),m<k->W m δ st->Ws (gh c b k δ st) N B C R:=by
  intro k
  induction k with
  |zero=>intro m δ st h;exact absurd h (ZaY _)
  |succ k ih =>
   intro m δ st hk hw;unfold Ws gh;rw[dr];refine aR (step m δ st hw) λt st1 q=>?_;cases t with
   |false=>rw[if_neg Zan];exact a8.mpr (q.2 rfl)
   |true =>
    rw[if_pos rfl,dr];refine aR (q.1 rfl) λfl st2 q=>?_;cases fl with
    |nx δ2=>obtain⟨m',hm',w⟩:=q;exact ih m' δ2 st2 ⋯ w
    |ct δ2=>obtain⟨m',hm',w⟩:=q;exact ih m' δ2 st2 ⋯ w
    |bk δ2=>exact a8.mpr q
    |rt d=>exact a8.mpr q
 exact key fuel m δ st hm h0
def oU{fi:aj->Dm Src}{t:D->aj->Dm aj}{b:aj->Dm Fl}(ds:List D)(Pv:Nat->aj->Store->Prop)(hi:Wp (fi δ st) λS st1=>S=.fix ds/\Pv 0 δ st1)(hl:ds.length<100000)
  (step:∀i d δ st,ds[i]?=some d->Pv i δ st->Wp (t d δ st) λδ1 st1=>Ws (b δ1 st1) (Pv (i+1)) N (Pv (i+1)) R) (fin:∀δ st,Pv ds.length δ st->N δ st):Ws (fm fi t b δ st) N B C R:=by
 unfold Ws fm;rw[dr];refine aR hi λS mP q=>?_;obtain⟨rfl,h0⟩:=q;have key:∀(k i:Nat) (δ:aj) (st:Store),i<=ds.length->ds.length-i<k->Pv i δ st->Ws (iA (.fix ds) t b k i δ st) N B C R:=by
  intro k
  induction k with
  |zero=>intro i δ st _ h;exact absurd h (ZaY _)
  |succ k ih =>
   intro i δ st hi hk hw;unfold Ws iA;have e:Src.at (.fix ds) i st=some ds[i]?:=by show(if i<=ds.length then some ds[i]? else none)=_;rw[if_pos hi]
   rw[e];cases hd:ds[i]? with
   |none =>
    have:=ZaI.mp hd;have e:i=ds.length:=by lk
    exact a8.mpr (fin δ st (e ▸ hw))
   |some d =>
    have hlt:=(Zac.mp hd).1;show Wp (bnd _ _) _;rw[dr];refine aR (step i d δ st hd hw) λδ1 st1 q=>?_;rw[dr];refine aR q λfl st2 q=>?_;cases fl with
    |nx δ2=>exact ih (i+1) δ2 st2 ⋯ ⋯ q
    |ct δ2=>exact ih (i+1) δ2 st2 ⋯ ⋯ q
    |bk δ2=>exact a8.mpr q
    |rt d=>exact a8.mpr q
 exact key fuel 0 δ mP (ZaO _) (Nat.lt_trans ⋯ (show 100000<fuel by decide)) h0
def W8{fi:aj->Dm Src}{t:D->aj->Dm aj}{b:aj->Dm Fl}(ds:List D)(r:Nat)(Pv:Nat->aj->Store->Prop)(hi:Wp (fi δ st) λS st1=>S=.live r/\Pv 0 δ st1)(hl:ds.length<100000)(hk:∀i δ st,Pv i δ st->items st r=some ds)
  (step:∀i d δ st,ds[i]?=some d->Pv i δ st->Wp (t d δ st) λδ1 st1=>Ws (b δ1 st1) (Pv (i+1)) N (Pv (i+1)) R) (fin:∀δ st,Pv ds.length δ st->N δ st):Ws (fm fi t b δ st) N B C R:=by
 unfold Ws fm;rw[dr];refine aR hi λS mP q=>?_;obtain⟨rfl,h0⟩:=q;have key:∀(k i:Nat) (δ:aj) (st:Store),i<=ds.length->ds.length-i<k->Pv i δ st->Ws (iA (.live r) t b k i δ st) N B C R:=by
  intro k
  induction k with
  |zero=>intro i δ st _ h;exact absurd h (ZaY _)
  |succ k ih =>
   intro i δ st hi hk' hw;unfold Ws iA;have e:Src.at (.live r) i st=some ds[i]?:=by show(items st r).map _=_;rw[hk i δ st hw];rfl
   rw[e];cases hd:ds[i]? with
   |none =>
    have:=ZaI.mp hd;have e:i=ds.length:=by lk
    exact a8.mpr (fin δ st (e ▸ hw))
   |some d =>
    have hlt:=(Zac.mp hd).1;show Wp (bnd _ _) _;rw[dr];refine aR (step i d δ st hd hw) λδ1 st1 q=>?_;rw[dr];refine aR q λfl st2 q=>?_;cases fl with
    |nx δ2=>exact ih (i+1) δ2 st2 ⋯ ⋯ q
    |ct δ2=>exact ih (i+1) δ2 st2 ⋯ ⋯ q
    |bk δ2=>exact a8.mpr q
    |rt d=>exact a8.mpr q
 exact key fuel 0 δ mP (ZaO _) (Nat.lt_trans ⋯ (show 100000<fuel by decide)) h0
def BI{fi:aj->Dm Src}{n:Nat}{js:List Nat}{t:D->aj->Dm aj}{c:aj->Dm Bool}{f:aj->Dm D}{Q:D->Store->Prop}(ds:List D)(Pv:Nat->List D->aj->Store->Prop)
  (hi:Wp (fi δ st) λS st1=>(∀i ys δ st,i<=ds.length->Pv i ys δ st->S.at i st=some ds[i]?)/\Pv 0 [] (oT n js δ) st1) (hl:ds.length<100000) (hy:∀i ys δ st,Pv i ys δ st->ys.length<=i)
  (step:∀i d ys δ st,ds[i]?=some d->Pv i ys δ st->Wp (t d δ st) λδ1 st1=>Wp (c δ1 st1) λb st2=>(b=true->Wp (f δ1 st2) λy st3=>Pv (i+1) (ys ++ [y]) δ1 st3)/\(b=false->Pv (i+1) ys δ1 st2))
  (fin:∀ys δ st,Pv ds.length ys δ st->Q (.ref st.length) (st ++ [.lst ys])):Wp (bN fi n js t c f δ st) Q:=by
 unfold bN;rw[dr];refine aR hi λS mP q=>?_;obtain⟨hS,h0⟩:=q;have key:∀(k i:Nat) (ys:List D) (δ:aj) (st:Store),i<=ds.length->ds.length-i<k->Pv i ys δ st->Wp (ja S t c f k i ys δ st) λzs oC=>∃δ9,Pv ds.length zs δ9 oC:=by
  intro k
  induction k with
  |zero=>intro i ys δ st _ h;exact absurd h (ZaY _)
  |succ k ih =>
   intro i ys δ st hi hk' hw;unfold ja;have hlim:lim ys.length=true:=Nat.ble_eq_true_of_le (by have:=hy i ys δ st hw;lk);rw[if_pos hlim,hS i ys δ st hi hw];cases hd:ds[i]? with
   |none =>
    have:=ZaI.mp hd;have e:i=ds.length:=by lk
    exact a8.mpr ⟨δ,e ▸ hw⟩
   |some d =>
    have hlt:=(Zac.mp hd).1;show Wp (bnd _ _) _;rw[dr];refine aR (step i d ys δ st hd hw) λδ1 st1 q=>?_;rw[dr];refine aR q λb st2 q=>?_;cases b with
    |true =>
     rw[if_pos rfl,dr];exact aR (q.1 rfl) λy st3 q=>ih (i+1) _ δ1 st3 ⋯ ⋯ q
    |false =>
     rw[if_neg Zan];exact ih (i+1) ys δ1 st2 ⋯ ⋯ (q.2 rfl)
 rw[dr];exact aR (key fuel 0 [] _ mP (ZaO _) (Nat.lt_trans ⋯ (show 100000<fuel by decide)) h0) λzs oC ⟨δ9,q⟩=>a8.mpr (fin zs δ9 oC q)
end
abbrev keyOf:D->Option Key
 |.int i=>some (.inl i)
 |.str x=>some (.inr x)
 |_=>none
abbrev kd(st:Store):D->Option (List (Key×D))
 |.ref i=>match st[i]? with
  |some (.dct kvs)=>some kvs
  |_=>none
 |_=>none
abbrev dC(kvs:List (Key×D))(k:Key):Option D:=(kvs.find? λkv=>decide (kv.1=k)).map (·.2)
abbrev putD(kvs:List (Key×D))(k:Key)(v:D):List (Key×D) :=
 if(kvs.any λkv=>decide (kv.1=k))=true then kvs.map (λkv=>if kv.1=k then(kv.1,v)else kv)else kvs ++ [(k,v)]
section
variable {K:Zfr}{ρ:List Addr}{H:Hp}{st:Store}
def vm{x:V}{y:D}{k:Key}(r:Rp K ρ H x y)(h:keyOf y=some k):x=kV k:=by cases r<;>first|(cases h;rfl)|cases h
def Mc{x:V}{a:D}{kvs:List (Key×D)}(l:Rl K ρ H st)(r:Rp K ρ H x a)(h:kd st a=some kvs):∃p i ws,x=.ref p/\a=.ref i/\ρ[i]?=some p/\st[i]?=some (.dct kvs)/\H p=some (.dK ws)/\Rk K ρ H ws kvs:=by
 cases r<;>first|(cases h;done)|skip
 next hi =>
  simp only[kd]at h;split at h
  ·next kvs' hs =>
   cases h;obtain⟨ws,e,r⟩:=l.obj _ _ _ hi hs;exact⟨_,_,ws,rfl,rfl,hi,hs,e,r⟩
  ·cases h
def Rk.val{ws:List (Key×V)}{kvs:List (Key×D)}(r:Rk K ρ H ws kvs)(k:Key):(∀d,dC kvs k=some d->∃v,lC ws k=some v/\Rp K ρ H v d)/\(lC ws k).isSome=(dC kvs k).isSome:=by
 induction r with
 |nil=>exact⟨λd h=>(by cases h),rfl⟩
 |@cons p q ps qs h t ih =>
  obtain⟨h1,h2⟩:=h;unfold dC lC at ih ⊢;rw[Zbu,Zbu];by_cases e:p.1=k;rw[decide_eq_true e,decide_eq_true (h1 ▸ e)];exact⟨λd hd=>by cases hd;exact⟨_,rfl,h2⟩,rfl⟩;rw[decide_eq_false e,decide_eq_false (h1 ▸ e)];exact ih
def Rk.app{ws QP:List (Key×V)}{kvs kvs':List (Key×D)}(r:Rk K ρ H ws kvs)(r':Rk K ρ H QP kvs'):Rk K ρ H (ws ++ QP) (kvs ++ kvs'):=by
 induction r with
 |nil=>exact r'
 |cons h _ ih=>exact .cons h ih
def Rk.put{ws:List (Key×V)}{kvs:List (Key×D)}{v:V}{d:D}(r:Rk K ρ H ws kvs)(k:Key)(rv:Rp K ρ H v d):Rk K ρ H (putK ws k v) (putD kvs k d):=by
 have hany:(ws.any λkv=>decide (kv.1=k))=(kvs.any λkv=>decide (kv.1=k)):=by
  induction r with
  |nil=>rfl
  |cons h _ ih=>rw[Zbp,Zbp,ih,h.1]
 have hmap:Rk K ρ H (ws.map λkv=>if kv.1=k then(kv.1,v)else kv) (kvs.map λkv=>if kv.1=k then(kv.1,d)else kv):=by
  clear hany
  induction r with
  |nil=>exact .nil
  |@cons p q ps qs h _ ih =>
   refine .cons ?_ ih;dsimp only;by_cases e:p.1=k;rw[if_pos e,if_pos (h.1 ▸ e)];exact⟨h.1,rv⟩;rw[if_neg e,if_neg (h.1 ▸ e)];exact h
 unfold putK putD;rw[hany];split;exact hmap;exact r.app (.cons ⟨rfl,rv⟩ .nil)
def Rk.length{ws:List (Key×V)}{kvs:List (Key×D)}(r:Rk K ρ H ws kvs):ws.length=kvs.length:=by
 induction r with
 |nil=>rfl
 |cons _ _ ih=>rw[Zaz,Zaz,ih]
end
section
variable {K:Zfr}
abbrev uB:aj->Dm D:=λ_ st=>some (.ref st.length,st ++ [.dct []])
def W9:fg K tR uB:=by intro ρ σ H δ st b st' Q l rs e q;cases e;exactλp hp=>q _ _ _ (Mn.new hp) (l.newD hp .nil) (.ref (newR l))
abbrev qo(fd fy:aj->Dm D):aj->Dm D:=λδ st=>bnd (fd δ st) λx st1=>bnd (fy δ st1) λy st2=>match kd st2 x,keyOf y with
 |some kvs,some k=>match dC kvs k with
  |some v=>some (v,st2)
  |none=>none
 |_,_=>none
def QQ{td ty:TE}{fd fy:aj->Dm D}(hd:fg K td fd)(hy:fg K ty fy):fg K (xa td ty) (qo fd fy):=by
 intro ρ σ H δ st b st' Q l rs e q;obtain⟨x,st1,e1,e⟩:=di e;obtain⟨y,st2,e2,e⟩:=di e;refine hd ρ σ H δ st x st1 _ l rs e1 λvx H1 ρ1 m1 l1 r1=>hy ρ1 σ H1 δ st1 y st2 _ l1 (rs.mn m1) e2 λvy H2 ρ2 m2 l2 r2=>?_;split at e
 ·next kvs k hx hk =>
  split at e
  ·next v hv =>
   cases e;obtain⟨p,i,ws,rfl,rfl,hi,hs,hp,rk⟩:=Mc l2 (r1.mn m2) hx;obtain⟨w,hw,rw'⟩:=(rk.val k).1 _ hv;refine⟨p,w,rfl,?_,q w H2 ρ2 (m1.trans m2) l2 rw'⟩;rw[<- hw,vm r2 hk];exact o6.k hp
  ·cases e
 ·cases e
abbrev vZ(neg:Bool)(fy fd:aj->Dm D):aj->Dm D:=λδ st=>bnd (fy δ st) λy st1=>bnd (fd δ st1) λx st2=>match kd st2 x,keyOf y with
 |some kvs,some k=>some (.bl (if neg then !(dC kvs k).isSome else(dC kvs k).isSome),st2)
 |_,_=>none
def Xa{td ty:TE}{fd fy:aj->Dm D}(hy:fg K ty fy)(hd:fg K td fd):fg K (rq ty td) (vZ true fy fd):=by
 intro ρ σ H δ st b st' Q l rs e q;obtain⟨y,st1,e1,e⟩:=di e;obtain⟨x,st2,e2,e⟩:=di e;refine hy ρ σ H δ st y st1 _ l rs e1 λvy H1 ρ1 m1 l1 r1=>hd ρ1 σ H1 δ st1 x st2 _ l1 (rs.mn m1) e2 λvx H2 ρ2 m2 l2 r2=>?_;split at e
 ·next kvs k hx hk =>
  cases e;obtain⟨p,i,ws,rfl,rfl,hi,hs,hp,rk⟩:=Mc l2 r2 hx;refine⟨p,lC ws k,rfl,by rw[vm r1 hk];exact o6.k hp,q _ H2 ρ2 (m1.trans m2) l2 ?_⟩;rw[(rk.val k).2];exact .bl _
 ·cases e
abbrev rV(fd fy fv:aj->Dm D):aj->Dm Fl:=λδ st=>bnd (fv δ st) λv st1=>bnd (fd δ st1) λx st2=>bnd (fy δ st2) λy st3=>match x,kd st3 x,keyOf y with
 |.ref i,some kvs,some k=>if lim kvs.length=true then some (.nx δ,st3.set i (.dct (putD kvs k v)))else none
 |_,_,_=>none
def Xb{td ty tv:TE}{fd fy fv:aj->Dm D}(hd:fg K td fd)(hy:fg K ty fy)(hv:fg K tv fv):pB K (xb td ty tv) (rV fd fy fv):=by
 intro ρ σ H δ st fl st' E l rs e q;obtain⟨v,st1,e1,e⟩:=di e;obtain⟨x,st2,e2,e⟩:=di e;obtain⟨y,st3,e3,e⟩:=di e;refine hv ρ σ H δ st v st1 _ l rs e1 λvv H1 ρ1 m1 l1 r1=>hd ρ1 σ H1 δ st1 x st2 _ l1 (rs.mn m1) e2 λvx H2 ρ2 m2 l2 r2=>hy ρ2 σ H2 δ st2 y st3 _ l2 (rs.mn (m1.trans m2)) e3 λvy H3 ρ3 m3 l3 r3=>?_;obtain⟨i,rfl⟩:∃i,x=.ref i:=by
  cases x<;>first|exact⟨_,rfl⟩|(simp at e;done)|cases e
 cases hx:kd st3 (.ref i)with
 |none=>rw[hx]at e;cases e
 |some kvs =>
 cases hk:keyOf y with
 |none=>rw[hx,hk]at e;cases e
 |some k =>
  rw[hx,hk]at e;simp only at e;split at e
  ·next hl =>
   cases e;obtain⟨p,j,ws,rfl,ej,hi,hs,hp,rk⟩:=Mc l3 (r2.mn m3) hx;cases ej;obtain⟨l4,m4⟩:=l3.um hi hs (rk.put k (r1.mn (m2.trans m3)));have mm:=((m1.trans m2).trans m3).trans m4;refine⟨p,_,rfl,?_,q σ _ ρ3 mm l4 (rs.mn mm)⟩;rw[vm r3 hk];exact tQ.k hp (by rw[rk.length];exact LY hl)
  ·cases e
abbrev uC:aj->Dm (List (D×D)):=λ_ st=>some ([],st)
abbrev lF(fk fv:aj->Dm D)(fr:aj->Dm (List (D×D))):aj->Dm (List (D×D)):=λδ st=>bnd (fk δ st) λk st1=>bnd (fv δ st1) λv st2=>bnd (fr δ st2) λr st3=>some ((k,v) :: r,st3)
abbrev QR(K:Zfr)(ρ:List Addr)(H:Hp):List (V×V)->List (D×D)->Prop:=Paired λp q=>Rp K ρ H p.1 q.1/\Rp K ρ H p.2 q.2
abbrev HW(K:Zfr)(qd:List (TE×TE))(f:aj->Dm (List (D×D))):Prop:=So K (QR K) (o7 qd) f
def Xc:HW K [] uC:=by intro ρ σ H δ st b st' Q l rs e q;cases e;exact q [] H ρ .refl l .nil
def HX{tk tv:TE}{qd:List (TE×TE)}{fk fv:aj->Dm D}{fr:aj->Dm (List (D×D))}(hk:fg K tk fk)(hv:fg K tv fv)(hr:HW K qd fr):HW K ((tk,tv) :: qd) (lF fk fv fr):=by
 intro ρ σ H δ st b st' Q l rs e q;obtain⟨k,st1,e1,e⟩:=di e;obtain⟨v,st2,e2,e⟩:=di e;obtain⟨r,st3,e3,e⟩:=di e;cases e;exact hk ρ σ H δ st k st1 _ l rs e1 λx H1 ρ1 m1 l1 r1=>hv ρ1 σ H1 δ st1 v st2 _ l1 (rs.mn m1) e2 λy H2 ρ2 m2 l2 r2=>hr ρ2 σ H2 δ st2 r _ _ l2 (rs.mn (m1.trans m2)) e3 λps H3 ρ3 m3 l3 r3 =>
  q _ H3 ρ3 ((m1.trans m2).trans m3) l3 (.cons ⟨r1.mn (m2.trans m3),r2.mn m3⟩ r3)
abbrev keysOf:List (D×D)->Option (List (Key×D))
 |[]=>some []
 |(k,v) :: r=>match keyOf k,keysOf r with
  |some k',some r'=>some ((k',v) :: r')
  |_,_=>none
def Xe{ρ:List Addr}{H:Hp}{ps:List (V×V)}{qs:List (D×D)}(r:QR K ρ H ps qs):∀{kvs:List (Key×D)},keysOf qs=some kvs->∃ws:List (Key×V),ps=ws.map (λkv=>(kV kv.1,kv.2))/\Rk K ρ H ws kvs:=by
 induction r with
 |nil=>intro kvs h;cases h;exact⟨[],rfl,.nil⟩
 |@cons p q ps qs h _ ih =>
  intro kvs hk;obtain⟨q1,q2⟩:=q;obtain⟨p1,p2⟩:=p;simp only[keysOf]at hk;split at hk
  ·next k' r' h1 h2 =>
   cases hk;obtain⟨ws,rfl,rw'⟩:=ih h2;refine⟨(k',p2) :: ws,?_,.cons ⟨rfl,h.2⟩ rw'⟩;rw[Zay,<- vm h.1 h1]
  ·cases hk
abbrev qV(kvs more:List (Key×D)):List (Key×D):=more.foldl (λacc kv=>putD acc kv.1 kv.2) kvs
def Rk.merge{ρ:List Addr}{H:Hp}{more:List (Key×V)}{more':List (Key×D)}(r:Rk K ρ H more more'):∀{ws:List (Key×V)} {kvs:List (Key×D)},Rk K ρ H ws kvs->Rk K ρ H (mL ws more) (qV kvs more'):=by
 induction r with
 |nil=>intro ws kvs h;exact h
 |@cons p q _ _ h _ ih =>
  intro ws kvs r0;have:=r0.put p.1 h.2;rw[show putD kvs p.1 q.2=putD kvs q.1 q.2 by rw[h.1]]at this;exact ih this
abbrev rW(fp:aj->Dm (List (D×D))):aj->Dm D:=λδ st=>bnd (fp δ (st ++ [.dct []])) λps st2=>match st2[st.length]?,keysOf ps with
 |some (.dct []),some kvs=>if kvs.length<=15 then some (.ref st.length,st2.set st.length (.dct (qV [] kvs)))else none
 |_,_=>none
def Xf{qd:List (TE×TE)}{fp:aj->Dm (List (D×D))}(hp:HW K qd fp):fg K (xc qd) (rW fp):=by
 intro ρ σ H δ st b st' Q l rs e q;obtain⟨ps,st2,e1,e⟩:=di e;intro p Ee;have m0:Mn K ρ H (ρ ++ [p]) (upd H p (.dK [])):=Mn.new Ee;have l0:Rl K (ρ ++ [p]) (upd H p (.dK [])) (st ++ [.dct []]):=l.newD Ee .nil;refine hp (ρ ++ [p]) σ _ δ _ ps st2 _ l0 (rs.mn m0) e1 λvs H2 ρ2 m2 l2 r2=>?_;split at e
 ·next kvs hs hk =>
  split at e
  ·next hl =>
   cases e;have hi:=m2.r _ _ (newR (p:=p) l);obtain⟨ws,e3,r3⟩:=l2.obj _ _ _ hi hs;cases r3;obtain⟨kws,rfl,rk⟩:=Xe r2 hk;obtain⟨l4,m4⟩:=l2.um hi hs (rk.merge .nil);exact⟨e3,kws,rfl,by rw[rk.length];exact hl,q _ _ ρ2 ((m0.trans m2).trans m4) l4 (.ref (m4.r _ _ hi))⟩
  ·cases e
 ·cases e
end
section
variable {st:Store}{δ:aj}{Q:D->Store->Prop}
def Xg:Wp (uB δ st) Q↔Q (.ref st.length) (st ++ [.dct []]):=a8
def Xh{fd fy:aj->Dm D}:Wp (qo fd fy δ st) Q↔Wp (fd δ st) λx st1=>Wp (fy δ st1) λy st2=>∃kvs k v,kd st2 x=some kvs/\keyOf y=some k/\dC kvs k=some v/\Q v st2:=by
 unfold qo;rw[dr];simp only[dr];constructor<;>refineλh=>aR h λx s h=>aR h λy s2 h=>?_
 ·split at h
  ·next kvs k h1 h2 =>
   split at h
   ·next v h3=>exact⟨kvs,k,v,by assumption,by assumption,h3,a8.mp h⟩
   ·exact(fA.mp h).elim
  ·exact(fA.mp h).elim
 ·obtain⟨kvs,k,v,h1,h2,h3,h⟩:=h
  rw[h1,h2];simp only[h3];exact a8.mpr h
def zP{neg:Bool}{fd fy:aj->Dm D}:Wp (vZ neg fy fd δ st) Q↔Wp (fy δ st) λy st1=>Wp (fd δ st1) λx st2=>∃kvs k,kd st2 x=some kvs/\keyOf y=some k/\Q (.bl (if neg then !(dC kvs k).isSome else(dC kvs k).isSome)) st2:=by
 unfold vZ;rw[dr];simp only[dr];constructor<;>refineλh=>aR h λx s h=>aR h λy s2 h=>?_
 ·split at h
  ·next kvs k h1 h2=>exact⟨kvs,k,by assumption,by assumption,a8.mp h⟩
  ·exact(fA.mp h).elim
 ·obtain⟨kvs,k,h1,h2,h⟩:=h
  rw[h1,h2];exact a8.mpr h
def Xi{R:List (D×D)->Store->Prop}:Wp (uC δ st) R↔R [] st:=a8
def Xj{fk fv:aj->Dm D}{fr:aj->Dm (List (D×D))}{R:List (D×D)->Store->Prop}:Wp (lF fk fv fr δ st) R↔Wp (fk δ st) λk st1=>Wp (fv δ st1) λv st2=>Wp (fr δ st2) λr st3=>R ((k,v) :: r) st3:=by unfold lF;rw[dr];simp only[dr,a8]
def Xk{fp:aj->Dm (List (D×D))}:Wp (rW fp δ st) Q↔Wp (fp δ (st ++ [.dct []])) λps st2=>st2[st.length]?=some (.dct [])/\∃kvs,keysOf ps=some kvs/\kvs.length<=15/\Q (.ref st.length) (st2.set st.length (.dct (qV [] kvs))):=by
 unfold rW;rw[dr];constructor<;>refineλh=>aR h λps s h=>?_
 ·split at h
  ·next kvs h1 h2 =>
   rw[oD,a8,fA]at h;split at h
   ·next hl=>exact⟨by assumption,kvs,by assumption,hl,h⟩
   ·exact h.elim
  ·exact(fA.mp h).elim
 ·obtain⟨h1,kvs,h2,h3,h⟩:=h
  rw[h1,h2];simp only[if_pos h3];exact a8.mpr h
def Xl{fd fy fv:aj->Dm D}{N B C:aj->Store->Prop}{R:D->Store->Prop}(h:Wp (fv δ st) λv st1=>Wp (fd δ st1) λx st2=>Wp (fy δ st2) λy st3=>∃i kvs k,x=.ref i/\kd st3 x=some kvs/\keyOf y=some k/\lim kvs.length=true/\N δ (st3.set i (.dct (putD kvs k v)))):Ws (rV fd fy fv δ st) N B C R:=by unfold Ws rV;rw[dr];refine aR h λv st1 h=>?_;rw[dr];refine aR h λx st2 h=>?_;rw[dr];refine aR h λy st3 h=>?_;obtain⟨i,kvs,k,rfl,h1,h2,h3,h⟩:=h;rw[h1,h2];simp only[h3];exact a8.mpr h
end
structure Ex(c:List Nat)(st st':Store):Prop where
 len:st.length<=st'.length
 keep:∀(i:Nat) (o:O),st[i]?=some o->i ∉ c->st'[i]?=some o
section
variable {c c':List Nat}{st st1 st2:Store}{i:Nat}{o:O}{ds:List D}
def Ex.refl:Ex c st st:=⟨Zad _,λ_ _ h _=>h⟩
def Ex.trans(a:Ex c st st1)(b:Ex c st1 st2):Ex c st st2:=⟨Zap a.len b.len,λi o h n=>b.keep i o (a.keep i o h n) n⟩
def Ex.mono(a:Ex c st st1)(h:∀x∈c,x∈c'):Ex c' st st1:=⟨a.len,λi o e n=>a.keep i o e λz=>n (h i z)⟩
def Ex.any(a:Ex [] st st1):Ex c st st1:=a.mono λx h=>nomatch h
def gM{α:Type}{l:List α}{i:Nat}{o:α}(h:l[i]?=some o):i<l.length:=(Zac.mp h).1
def nz{l m:List O}(h:l[i]?=some o):(l ++ m)[i]?=some o:=by rw[Zav (gM h)];exact h
def ke{l:List O}:(l ++ [o])[l.length]?=some o:=by rw[ZaC (Zad _),Zb1];rfl
def Ex.app(a:Ex c st st1)(m:List O):Ex c st (st1 ++ m):=⟨by rw[Zaj];exact Zap a.len (Nat.le_add_right _ _),λi o h n=>nz (a.keep i o h n)⟩
def Ex.cf(m:List O):Ex c st (st ++ m):=Ex.refl.app m
def Ex.put(a:Ex c st st1)(h:i∈c):Ex c st (st1.set i o):=⟨by rw[Zbj];exact a.len,λj u e n=>by rw[ZaG (λz=>n (by rw[<- z];exact h))];exact a.keep j u e n⟩
def Ex.loc(a:Ex c st st1)(h:st.length<=i):Ex c st (st1.set i o):=⟨by rw[Zbj];exact a.len,λj u e n=>by rw[ZaG (by have:=gM e;lk)];exact a.keep j u e n⟩
def c9(h:st[i]?=some (.lst ds)):items st i=some ds:=by unfold items;rw[h]
def Xm(h:st[i]?=some (.sE ds)):items st i=some ds:=by unfold items;rw[h]
def mQ(h:st[i]?=some (.lst ds)):own st i=some ds:=by unfold own;rw[h]
def pE:items (st ++ [.lst ds]) st.length=some ds:=c9 ke
def Md:own (st ++ [.lst ds]) st.length=some ds:=mQ ke
def Xn{o':O}:items (st ++ [.lst ds] ++ [o']) st.length=some ds:=c9 (nz ke)
def Xo{o':O}:own (st ++ [.lst ds] ++ [o']) st.length=some ds:=mQ (nz ke)
def Xp{o' o2:O}:items (st ++ [.lst ds] ++ [o'] ++ [o2]) st.length=some ds:=c9 (nz (nz ke))
def Xq{o' o2:O}:own (st ++ [.lst ds] ++ [o'] ++ [o2]) st.length=some ds:=mQ (nz (nz ke))
def Xr{lo hi:Int}:jS (st ++ [.jR lo hi]) (.ref st.length)=some (lo,hi):=by simp only[jS,ke]
def QS:b9 st (.tup ds)=some ds:=rfl
def QT:b9 st (.ref i)=items st i:=rfl
def rX(h:(items st i).isSome=true):xJ "list" st (.ref i)=true:=by simp only[xJ,h];rfl
def Xs:xJ "tuple" st (.tup ds)=true:=by simp only[xJ];rfl
def j4{n:Nat}(h:n<=100000):lim n=true:=Nat.ble_eq_true_of_le h
end
section
variable {st:Store}{Q:D->Store->Prop}{i j:Int}{k:Nat}{ds es:List D}
def Xt{a:D}:Wp (fj [a] st) Q↔∃p,jS st a=some p/\sH p.1 p.2=true/\Q (.ref st.length) (st ++ [.lst (aH p.1 (p.2-p.1).toNat)]):=by
 show Wp (match jS st a with|some (lo,hi)=>if sH lo hi=true then some (D.ref st.length,st ++ [O.lst (aH lo (hi-lo).toNat)])else none|none=>none) Q↔_;cases jS st a with
 |none=>rw[fA];exact⟨False.elim,λ⟨_,e,_⟩=>by cases e⟩
 |some p =>
  obtain⟨lo,hi⟩:=p;show Wp (if sH lo hi=true then some (D.ref st.length,st ++ [O.lst (aH lo (hi-lo).toNat)])else none) Q↔_;rw[oD,a8,fA];split
  ·next h=>exact⟨λq=>⟨_,rfl,h,q⟩,λ⟨_,e,_,q⟩=>by cases e;exact q⟩
  ·next h=>exact⟨False.elim,λ⟨_,e,q,_⟩=>by cases e;exact h q⟩
def Xu{a:D}:Wp (nK [a] st) Q↔∃p,jS st a=some p/\sH p.1 p.2=true/\Q (.tup (aH p.1 (p.2-p.1).toNat)) st:=by
 show Wp (match jS st a with|some (lo,hi)=>if sH lo hi=true then some (D.tup (aH lo (hi-lo).toNat),st)else none|none=>none) Q↔_;cases jS st a with
 |none=>rw[fA];exact⟨False.elim,λ⟨_,e,_⟩=>by cases e⟩
 |some p =>
  obtain⟨lo,hi⟩:=p;show Wp (if sH lo hi=true then some (D.tup (aH lo (hi-lo).toNat),st)else none) Q↔_;rw[oD,a8,fA];split
  ·next h=>exact⟨λq=>⟨_,rfl,h,q⟩,λ⟨_,e,_,q⟩=>by cases e;exact q⟩
  ·next h=>exact⟨False.elim,λ⟨_,e,q,_⟩=>by cases e;exact h q⟩
def zQ:Wp (sG (.ref k) (.int j) st) Q↔∃xs,own st k=some xs/\(-9223372036854775808<=j/\j<9223372036854775808)/\lim (xs.length*j.toNat)=true/\Q (.ref st.length) (st ++ [.lst (List.replicate j.toNat xs).flatten]):=by
 show Wp (match own st k with|some a=>if(decide (-9223372036854775808<=j/\j<9223372036854775808) && lim (a.length*j.toNat))=true then some (D.ref st.length,st ++ [O.lst (List.replicate j.toNat a).flatten])else none|_=>none) Q↔_;cases own st k with
 |none=>simp only[fA];exact⟨False.elim,λ⟨_,e,_⟩=>by cases e⟩
 |some xs =>
  show Wp (if(decide (-9223372036854775808<=j/\j<9223372036854775808) && lim (xs.length*j.toNat))=true then some (D.ref st.length,st ++ [O.lst (List.replicate j.toNat xs).flatten])else none) Q↔_;rw[oD,a8,fA];split
  ·next h=>rw[ZaD,decide_eq_true_eq]at h;exact⟨λq=>⟨_,rfl,h.1,h.2,q⟩,λ⟨_,e,_,_,q⟩=>by cases e;exact q⟩
  ·next h=>rw[ZaD,decide_eq_true_eq]at h;exact⟨False.elim,λ⟨_,e,q,q',_⟩=>by cases e;exact h ⟨q,q'⟩⟩
def Xv:Wp (mO (.ref k) [.int i] st) Q↔∃xs j y,own st k=some xs/\(-9223372036854775808<=i/\i<9223372036854775808)/\seqIndex? i xs.length=some j/\xs[j]?=some y/\Q y (st.set k (.lst (xs.eraseIdx j))):=by
 constructor
 ·rintro⟨a,s,e,q⟩
  simp only[mO]at e;split at e
  ·next xs hx =>
   split at e
   ·next hk =>
    split at e
    ·next j hj =>
     split at e
     ·next y hy=>cases e;exact⟨xs,j,_,hx,of_decide_eq_true hk,hj,hy,q⟩
     ·cases e
    ·cases e
   ·cases e
  ·cases e
 ·rintro⟨xs,j,y,hx,hk,hj,hy,q⟩
  refine⟨_,_,?_,q⟩;simp only[mO,hx,hj,hy,decide_eq_true hk];rfl
def Xw{b:Nat}:Wp (i9 (.ref k) [.ref b] st) Q↔∃xs ys,own st k=some xs/\own st b=some ys/\lim (xs.length+ys.length)=true/\Q .non (st.set k (.lst (xs ++ ys))):=by
 constructor
 ·rintro⟨a,s,e,q⟩
  simp only[i9]at e;split at e
  ·next xs ys hx hy =>
   split at e
   ·next hl=>cases e;exact⟨xs,ys,hx,hy,hl,q⟩
   ·cases e
  ·cases e
 ·rintro⟨xs,ys,hx,hy,hl,q⟩
  refine⟨_,_,?_,q⟩;simp only[i9,hx,hy,hl];rfl
def QU{v:Int}:Wp (lD (.tup ds) [.int v] st) Q↔∃ns j,bg iV ds=some ns/\ns.findIdx? (λi=>decide (i=v))=some j/\Q (.int (j:Int)) st:=by
 constructor
 ·rintro⟨a,s,e,q⟩
  simp only[lD]at e;split at e
  ·next ns hn =>
   split at e
   ·next j hj=>cases e;exact⟨ns,j,hn,hj,q⟩
   ·cases e
  ·cases e
 ·rintro⟨ns,j,hn,hj,q⟩
  refine⟨_,_,?_,q⟩;simp only[lD,hn,hj]
def QV:Wp (ql [.ref k] st) Q↔∃ds bs,items st k=some ds/\bg bV ds=some bs/\Q (.bl (bs.all id)) st:=by
 constructor
 ·rintro⟨a,s,e,q⟩
  simp only[ql]at e;split at e
  ·next bs hb =>
   cases e;obtain⟨ds,h1,h2⟩:=Zbe.mp hb;exact⟨ds,bs,h1,h2,q⟩
  ·cases e
 ·rintro⟨ds,bs,h1,h2,q⟩
  refine⟨_,_,?_,q⟩;simp only[ql,h1,Zbo,h2]
def Ef{neg:Bool}{a c:D}:Wp (sW neg a c st) Q↔∃x ds vs,sV a=some x/\b9 st c=some ds/\bg sV ds=some vs/\Q (.bl (if neg then !wZ x vs else wZ x vs)) st:=by
 constructor
 ·rintro⟨b,s,e,q⟩
  simp only[sW]at e;split at e
  ·next x vs h1 h2 =>
   cases e;obtain⟨ds,h3,h4⟩:=Zbe.mp h2;exact⟨x,ds,vs,h1,h3,h4,q⟩
  ·cases e
 ·rintro⟨x,ds,vs,h1,h2,h3,q⟩
  refine⟨_,_,?_,q⟩;simp only[sW,h1,h2,Zbo,h3]
def QW(ns:List Int):bg sV (ns.map D.int)=some (ns.map V.int):=sF (f:=sV) (g:=D.int) (k:=V.int) (λ_=>rfl) ns
def Me(ns:List Int):bg iV (ns.map D.int)=some ns:=by have:=sF (f:=iV) (g:=D.int) (k:=id) (λ_=>rfl) ns;rw[this,Zb9]
def Mf{neg:Bool}{a b:D}:Wp (j9 neg a b st) Q↔∃p q,cP st 20 a=some p/\cP st 20 b=some q/\(PyData.canLay0 p=true/\PyData.canLay0 q=true/\min p.depth q.depth<=60)/\Q (.bl (if neg then !PyData.eqv p q else PyData.eqv p q)) st:=by
 constructor
 ·rintro⟨c,s,e,q⟩
  simp only[j9]at e;split at e
  ·next x y h1 h2 =>
   split at e
   ·next hs =>
    cases e;rw[ZaD,ZaD,decide_eq_true_eq]at hs;exact⟨x,y,h1,h2,⟨hs.1.1,hs.1.2,hs.2⟩,q⟩
   ·cases e
  ·cases e
 ·rintro⟨x,y,h1,h2,⟨h3,h4,h5⟩,q⟩
  refine⟨_,_,?_,q⟩;simp only[j9,h1,h2,h3,h4,decide_eq_true h5];rfl
def zR{z:Str}:Wp (zm (.str z) (.int i) st) Q↔∃c,lim z.length=true/\gH z.cps.toList i=some c/\Q (.str ⟨#[c]⟩) st:=by
 constructor
 ·rintro⟨c,s,e,q⟩
  simp only[zm]at e;split at e
  ·next h1 =>
   split at e
   ·next c hc=>cases e;exact⟨c,h1,hc,q⟩
   ·cases e
  ·cases e
 ·rintro⟨c,h1,h2,q⟩
  refine⟨_,_,?_,q⟩;simp only[zm,h1,h2];rfl
def Xx{δ:aj}{fa:aj->Dm (List D)}{R:Src->Store->Prop}:Wp (cS fa δ st) R↔Wp (fa δ st) λas st1=>∃j,as=[.int j]/\(-4611686018427387904<=j/\j<4611686018427387904)/\R (.fix (aH 0 j.toNat)) st1:=by
 unfold cS;rw[dr];constructor<;>refineλh=>aR h λas s h=>?_
 ·split at h
  ·next j =>
   rw[oD,a8,fA]at h;split at h
   ·next hk=>exact⟨j,rfl,of_decide_eq_true hk,h⟩
   ·exact h.elim
  ·exact(fA.mp h).elim
 ·obtain⟨j,rfl,h1,h⟩:=h
  simp only[decide_eq_true h1,if_true];exact a8.mpr h
def Xy{δ:aj}{fa:aj->Dm (List D)}{R:Src->Store->Prop}:Wp (ux fa δ st) R↔Wp (fa δ st) λas st1=>∃i j,as=[.int i,.int j]/\((-4611686018427387904<=i/\i<4611686018427387904)/\-4611686018427387904<=j/\j<4611686018427387904)/\R (.fix (aH i (j-i).toNat)) st1:=by
 unfold ux;rw[dr];constructor<;>refineλh=>aR h λas s h=>?_
 ·split at h
  ·next i j =>
   rw[oD,a8,fA]at h;split at h
   ·next hk=>exact⟨i,j,rfl,of_decide_eq_true hk,h⟩
   ·exact h.elim
  ·exact(fA.mp h).elim
 ·obtain⟨i,j,rfl,h1,h⟩:=h
  simp only[decide_eq_true h1,if_true];exact a8.mpr h
def Xz{δ:aj}{fa:aj->Dm D}{R:Src->Store->Prop}:Wp (cD fa δ st) R↔Wp (fa δ st) λa st1=>∃ds,a=.tup ds/\R (.fix ds) st1:=by unfold cD;rw[dr];constructor<;>refineλh=>aR h λa s h=>?_;cases a<;>simp only[a8,fA]at h;exact⟨_,rfl,h⟩;obtain⟨j,rfl,h⟩:=h;exact a8.mpr h
def XA{δ:aj}{fa:aj->Dm D}{R:Src->Store->Prop}:Wp (kc fa δ st) R↔Wp (fa δ st) λa st1=>∃i ds,a=.ref i/\items st1 i=some ds/\R (.live i) st1:=by
 unfold kc;rw[dr];constructor<;>refineλh=>aR h λa s h=>?_
 ·split at h
  ·split at h
   ·next i ds hd=>exact⟨_,ds,rfl,hd,a8.mp h⟩
   ·exact(fA.mp h).elim
  ·exact(fA.mp h).elim
 ·obtain⟨i,ds,rfl,hd,h⟩:=h
  simp only[hd];exact a8.mpr h
def XB{δ:aj}{fa:aj->Dm (List D)}{R:Src->Store->Prop}:Wp (oj fa δ st) R↔Wp (fa δ st) λas st1=>∃ds,as=[.tup ds]/\R (.fix (ny ds)) st1:=by unfold oj;rw[dr];constructor<;>refineλh=>aR h λas s h=>?_;split at h;exact⟨_,rfl,a8.mp h⟩;exact(fA.mp h).elim;obtain⟨ds,rfl,h⟩:=h;exact a8.mpr h
def HY{i:Nat}{d:D}{δ:aj}{R:aj->Store->Prop}:Wp (hName i d δ st) R↔R (δ.set i (some d)) st:=a8
def XC{δ:aj}{R:aj->Store->Prop}:Wp (pA [] δ st) R↔R δ st:=a8
def XD{f:D->aj->Dm aj}{g:List D->aj->Dm aj}{d:D}{ds:List D}{δ:aj}{R:aj->Store->Prop}:Wp (dX f g (d :: ds) δ st) R↔Wp (f d δ st) λδ1 st1=>Wp (g ds δ1 st1) R:=dr
def XE{n:Nat}{f:List D->aj->Dm aj}{ds:List D}{δ:aj}{R:aj->Store->Prop}:Wp (oK n f (.tup ds) δ st) R↔ds.length=n/\Wp (f ds δ st) R:=by
 show Wp (if ds.length=n then f ds δ st else none) R↔_;rw[oD,fA];split
 ·next h=>exact⟨λq=>⟨h,q⟩,λq=>q.2⟩
 ·next h=>exact⟨False.elim,λq=>h q.1⟩
def XF{fo fi:aj->Dm D}{d:D}{δ:aj}{R:aj->Store->Prop}:Wp (hSub fo fi d δ st) R↔Wp (fo δ st) λo st1=>Wp (fi δ st1) λi st2=>∃r k xs j,o=.ref r/\i=.int k/\own st2 r=some xs/\mH xs.length k=some j/\R δ (st2.set r (.lst (xs.set j d))):=by
 unfold hSub;rw[dr];simp only[dr];constructor<;>refineλh=>aR h λo s h=>aR h λi s2 h=>?_
 ·split at h
  ·split at h
   ·next xs hx =>
    split at h
    ·next j hj=>exact⟨_,_,xs,j,rfl,rfl,hx,hj,a8.mp h⟩
    ·exact(fA.mp h).elim
   ·exact(fA.mp h).elim
  ·exact(fA.mp h).elim
 ·obtain⟨r,k,xs,j,rfl,rfl,hx,hj,h⟩:=h
  simp only[hx,hj];exact a8.mpr h
def XG{a:D}{c:String}:Wp (pz [a,.ty c] st) Q↔DX st a=some c/\Q (.bl true) st:=by
 constructor
 ·rintro⟨b,s,e,q⟩
  simp only[pz]at e;split at e
  ·next T hT =>
   split at e
   ·next h=>cases e;subst h;exact⟨hT,q⟩
   ·cases e
  ·cases e
 ·rintro⟨h,q⟩
  refine⟨_,_,?_,q⟩;simp only[pz,h,if_true]
def Eg{δ:aj}{R:Bool->Store->Prop}:Wp (b7 δ st) R↔R true st:=a8
end
def QX{α:Type}(x:α)(xs:List α):gH (x :: xs) 0=some x:=by unfold gH mH;rw[if_pos ∅,if_pos (by simp only[Zaz];lk)];rfl
def QY{α:Type}(x y:α)(xs:List α):gH (x :: y :: xs) 1=some y:=by unfold gH mH;rw[if_pos ∅,if_pos (by simp only[Zaz];lk)];rfl
def zS{α:Type}{a:α}{l:List α}:(a :: l)[0]?=some a:=List.getElem?_cons_zero
def zT{α:Type}{a:α}{l:List α}{i:Nat}:(a :: l)[i+1]?=l[i]?:=List.getElem?_cons_succ
def zU{α:Type}{a b:α}{l:List α}:(a :: l).set 0 b=b :: l:=List.set_cons_zero
def zV{α:Type}{a b:α}{l:List α}{i:Nat}:(a :: l).set (i+1) b=a :: l.set i b:=List.set_cons_succ
def zW{α:Type}(a b:α):(some a=some b)=(a=b):=Option.some.injEq a b
def Eh{α:Type}{p:α->Prop}{a':α}:(∃a,a'=a/\p a)↔p a':=exists_eq_left'
def Mg{α:Type}{p:α->Prop}{a':α}:(∃a,a=a'/\p a)↔p a':=exists_eq_left
def Ei{α:Type}{p:α->Prop}{b:Prop}:(∃x,b/\p x)↔b/\∃x,p x:=exists_and_left
def Ej(a b:Int):(D.int a=D.int b)=(a=b):=D.int.injEq a b
def Mh(a b:Bool):(D.bl a=D.bl b)=(a=b):=D.bl.injEq a b
def Ek(a b:Str):(D.str a=D.str b)=(a=b):=D.str.injEq a b
def El(a b:List D):(D.tup a=D.tup b)=(a=b):=D.tup.injEq a b
def Em(a b:Nat):(D.ref a=D.ref b)=(a=b):=D.ref.injEq a b
def zX{α:Type}(a:α)(l:List α)(b:α)(m:List α):(a :: l=b :: m)=(a=b/\l=m):=List.cons.injEq a l b m
def zY{α β:Type}(a:α)(b:β)(c:α)(d:β):((a,b)=(c,d))=(a=c/\b=d):=Prod.mk.injEq a b c d
def zZ(p:Prop):(p/\True)=p:=and_true p
def Aa(p:Prop):(True/\p)=p:=true_and p
def Ab:(!true)=false:=rfl
def Ac:(!false)=true:=rfl
def Mi:(false=true)=False:=by simp
def En{α:Type}{h:Decidable False}(t e:α):@ite α False h t e=e:=if_false t e
def Eo{α:Type}{h:Decidable True}(t e:α):@ite α True h t e=t:=if_true t e
abbrev bA:=And.intro @zu (And.intro @Mb (And.intro @D3 (And.intro @D4 (And.intro @D5 (And.intro @zv (And.intro @WQ (And.intro @zw (And.intro @zx (And.intro @WR (And.intro @zy (And.intro @zz (And.intro @D6 (And.intro @xO (And.intro @WS (And.intro @zA (And.intro @WT (And.intro @WU (And.intro @WV (And.intro @D7 (And.intro @D8 (And.intro @zB (And.intro @zC (And.intro @D9 (And.intro @Ea (And.intro @Eb (And.intro @Ec (And.intro @zD (And.intro @zE (And.intro @WW (And.intro @zF (And.intro @zG (And.intro @zH (And.intro @zI (And.intro @zJ (And.intro @zK (And.intro @zL (And.intro @zM (And.intro @WX (And.intro @zN (And.intro @zO (And.intro @WY (And.intro @WZ (And.intro @W0 (And.intro @W2 (And.intro @xdg (And.intro @W3 (And.intro @W4 (And.intro @W5 (And.intro @W6 (And.intro @Xg (And.intro @Xh (And.intro @zP (And.intro @Xi (And.intro @Xj (And.intro @Xk (And.intro @pE (And.intro @Md (And.intro @Xn (And.intro @Xo (And.intro @Xp (And.intro @Xq (And.intro @Xr (And.intro @QS (And.intro @QT (And.intro @Xt (And.intro @Xu (And.intro @zQ (And.intro @Xv (And.intro @Xw (And.intro @QU (And.intro @QV (And.intro @zR (And.intro @Xx (And.intro @Xy (And.intro @Xz (And.intro @XA (And.intro @XB (And.intro @HY (And.intro @XC (And.intro @XD (And.intro @XE (And.intro @XF (And.intro @XG (And.intro @Eg (And.intro @QX (And.intro @QY (And.intro @zS (And.intro @zT (And.intro @zU (And.intro @zV (And.intro @zW (And.intro @Eh (And.intro @Mg (And.intro @Ei (And.intro @Ej (And.intro @Mh (And.intro @Ek (And.intro @El (And.intro @Em (And.intro @zX (And.intro @zY (And.intro @zZ (And.intro @Aa (And.intro @Ab (And.intro @Ac (And.intro @Mi (And.intro @En (@Eo))))))))))))))))))))))))))))))))))))))))))))))))))))))))))))))))))))))))))))))))))))))))))))))))))))))))))))
def bM{α:Type}{m:Option (α×Store)}{Q:α->Store->Prop}(h:∀Q':α->Store->Prop,(∀a st,Q a st->Q' a st)->Wp m Q'):Wp m Q:=h Q λ_ _ h=>h
section
variable {st:Store}{Q:D->Store->Prop}
def QZ(n:Nat)(L:List Int):bg (cP st (n+1)) (L.map D.int)=some (dh L):=sF (f:=cP st (n+1)) (g:=D.int) (k:=PyData.int) (λ_=>by simp only[cP]) L
def Mj(a b:List PyData):PyData.eqv (.list a) (.list b)=PyData.eqvAll a b:=by simp only[PyData.eqv]
def Mk(a b:List PyData):PyData.eqv (.tuple a) (.tuple b)=PyData.eqvAll a b:=by simp only[PyData.eqv]
def Q0{neg:Bool}{a b:Nat}{L M:List Int}(ha:items st a=some (L.map D.int))(hb:items st b=some (M.map D.int)):Wp (j9 neg (.ref a) (.ref b) st) Q↔Q (.bl (if neg then !decide (L=M)else decide (L=M))) st:=by
 have p1:∀(i:Nat) (N:List Int),items st i=some (N.map D.int)->cP st 20 (.ref i)=some (.list (dh N)):=λi N h=>by
  simp only[cP,h];rw[QZ];rfl
 have dp:∀N:List Int,PyData.depth (.list (dh N))<=1:=λN=>by show PyData.depthAll (dh N)+1<=1;rw[Bh];lk
 rw[Mf];constructor;rintro⟨p,q,h1,h2,_,h⟩;rw[p1 a L ha]at h1;rw[p1 b M hb]at h2;cases h1;cases h2;rw[Mj,Bi]at h;exact h;intro h;refine⟨_,_,p1 a L ha,p1 b M hb,⟨xh L,xh M,by have:=dp L;lk⟩,?_⟩;rw[Mj,Bi];exact h
def Q5{neg:Bool}{L M:List Int}:Wp (j9 neg (.tup (L.map D.int)) (.tup (M.map D.int)) st) Q↔Q (.bl (if neg then !decide (L=M)else decide (L=M))) st:=by
 have p1:∀(N:List Int),cP st 20 (.tup (N.map D.int))=some (.tuple (dh N)):=λN=>by
  simp only[cP];rw[QZ];rfl
 have dp:∀N:List Int,PyData.depth (.tuple (dh N))<=1:=λN=>by show PyData.depthAll (dh N)+1<=1;rw[Bh];lk
 rw[Mf];constructor;rintro⟨p,q,h1,h2,_,h⟩;rw[p1 L]at h1;rw[p1 M]at h2;cases h1;cases h2;rw[Mk,Bi]at h;exact h;intro h;refine⟨_,_,p1 L,p1 M,⟨xh L,xh M,by have:=dp L;lk⟩,?_⟩;rw[Mk,Bi];exact h
abbrev sX(rs:List (List Int)):D:=.tup (rs.map λr=>.tup (r.map D.int))
end
abbrev bS(st:Store)(f:Nat):Prop:=∃o m:Int,st[f]?=some (.lst [.int o,.int m])/\0<=o/\0<=m/\m<4294967296
def Ep:mH 2 0=some 0:=by decide
def Er:mH 2 1=some 1:=by decide
def xP(n:Nat):aH 0 n=(ae.upto n).map D.int:=by unfold aH ae.upto;rw[Zas];apply ZaJ;intro i _;simp
def XH(L:List Int)(j:Nat):(L.map D.int).eraseIdx j=(L.eraseIdx j).map D.int:=by
 induction L generalizing j with
 |nil=>rfl
 |cons a r ih =>
  cases j with
  |zero=>rfl
  |succ j=>show D.int a :: (r.map D.int).eraseIdx j=_;rw[ih];rfl
def XI{L:List Int}{j:Nat}(h:j<L.length):(L[j] :: L.eraseIdx j).Perm L:=by
 induction L generalizing j with
 |nil=>exact absurd h (ZaY _)
 |cons a r ih =>
  cases j with
  |zero=>exact Zbh _
  |succ j =>
   have:=ih (j:=j) (by simpa using h);exact(List.Perm.swap _ _ _).trans (this.cons a)
def bS.keep{st st':Store}{f:Nat}(h:bS st f)(e:Ex [] st st'):bS st' f:=by obtain⟨o,m,e1,r⟩:=h;exact⟨o,m,e.keep _ _ e1 (by simp),r⟩
def bS.ne{st:Store}{f i:Nat}{o:O}(h:bS st f)(hi:i≠f):bS (st.set i o) f:=by obtain⟨x,m,e1,r⟩:=h;exact⟨x,m,by rw[ZaG hi];exact e1,r⟩
def bS.lt{st:Store}{f:Nat}(h:bS st f):f<st.length:=let ⟨_,_,e,_⟩:=h;gM e
def rY{xs:List Int}{i:Int}(h0:0<=i)(h1:i<(xs.length:Int)):gH (xs.map D.int) i=some (.int (ae.app xs i)):=by
 have e:(xs.map D.int)[i.toNat]?=some (.int (ae.app xs i)):=by rw[Zal,ae.qg h0 h1];rfl
 have:=uQ e
 rwa [ZaN h0]at this
def HZ{xs:List Int}{i:Nat}{d:D}(h:(xs.map D.int)[i]?=some d):∃x,xs[i]?=some x/\d=.int x:=by rw[Zal]at h;obtain⟨x,h1,h2⟩:=ZaB.mp h;exact⟨x,h1,h2.symm⟩
def Ml(x:Int):∀(ns:List Int),wZ (.int x) (ns.map V.int)=ns.contains x
 |[]=>rfl
 |n :: r=>by
  have e:=Ml x r;unfold wZ at e ⊢;rw[Zay,Zbp,e,List.contains_cons]
  congr 1
  show(n == x)=(x == n);exact Bool.beq_comm
def Ic{st:Store}{Q:D->Store->Prop}{neg:Bool}{x:Int}{c:D}{ns:List Int}(hc:b9 st c=some (ns.map D.int)):Wp (sW neg (.int x) c st) Q↔Q (.bl (if neg then !ns.contains x else ns.contains x)) st:=by rw[Ef];constructor;rintro⟨v,ds,vs,h1,h2,h3,h⟩;cases h1;rw[hc]at h2;cases h2;rw[QW]at h3;cases h3;rw[Ml]at h;exact h;intro h;refine⟨_,_,_,rfl,hc,QW ns,?_⟩;rw[Ml];exact h
abbrev bE(xs ys:List Int):D:=.tup [.tup (xs.map D.int),.tup (ys.map D.int)]
structure pF(mP st:Store)(f r u:Nat)(n:Nat)(X Y:List Int):Prop where
 hr:st[r]?=some (.lst (X.map D.int))
 hu:st[u]?=some (.lst (Y.map D.int))
 ne:r≠u
 r0:mP.length<=r
 u0:mP.length<=u
 tX:ae.Tn n X
 tY:ae.Tn n Y
 fd:bS st f
 ex:Ex [f] mP st
section
variable {mP st st':Store}{f r u n:Nat}{X Y Z:List Int}{o:O}
def pF.keep(h:pF mP st f r u n X Y)(e:Ex [] st st'):pF mP st' f r u n X Y:=⟨e.keep _ _ h.hr (by simp),e.keep _ _ h.hu (by simp),h.ne,h.r0,h.u0,h.tX,h.tY,h.fd.keep e,h.ex.trans e.any⟩
def pF.Ad(h:pF mP st f r u n X Y)(t:ae.Tn n Z):pF mP (st ++ [.lst (Z.map D.int)]) f st.length u n Z Y:=⟨ke,nz h.hu,by have:=gM h.hu;lk,h.ex.len,h.u0,t,h.tY,h.fd.keep (Ex.cf _),h.ex.app _⟩
def pF.Ae(h:pF mP st f r u n X Y)(t:ae.Tn n Z):pF mP (st ++ [.lst (Z.map D.int)]) f r st.length n X Z:=⟨nz h.hr,ke,by have:=gM h.hr;lk,h.r0,h.ex.len,h.tX,t,h.fd.keep (Ex.cf _),h.ex.app _⟩
def pF.put(h:pF mP st f r u n X Y)(t:ae.Tn n Z)(hf:f<mP.length):pF mP (st.set r (.lst (Z.map D.int))) f r u n Z Y:=⟨Zao (gM h.hr),by rw[ZaG h.ne];exact h.hu,h.ne,h.r0,h.u0,t,h.tY,h.fd.ne (by have:=h.r0;lk),h.ex.loc h.r0⟩
end
def Q6(n:Nat):(ae.rG n).map D.int=aH 1 ((n:Int)-1).toNat ++ [.int 0]:=by unfold ae.rG aH;rw[Zaw,Zas,show((n:Int)-1).toNat=n-1 by lk];rfl
def wa{lo hi:Int}(h:0<=lo/\lo<=10000/\0<=hi/\hi<=10000):sH lo hi=true:=by unfold sH;rw[ZaD,decide_eq_true_eq];exact⟨by lk,j4 ⋯⟩
def Af(w n:Nat):(ae.uh w n).map D.int=aH 1 ((w:Int)-1).toNat ++ [.int 0] ++ aH (w:Int) ((n:Int)-(w:Int)).toNat:=by unfold ae.uh aH;rw[Zaw,Zaw,Zas,Zas,show((w:Int)-1).toNat=w-1 by lk,show((n:Int)-(w:Int)).toNat=n-w by lk];rfl
def Q7(xs:List D)(j:Nat):cutD xs none (some (j:Int))=xs.take j:=by unfold cutD;rw[HT.TN,HT.TQ,List.drop_zero,Nat.sub_zero,List.take_eq_take_iff];lk
def Ag{w n:Nat}(h0:0<w)(h:w<n):(ae.vC w n).map D.int=cutD ([D.int (w:Int)] ++ aH 1 ((w:Int)-1).toNat ++ aH ((w:Int)+1) ((n:Int)-((w:Int)+1)).toNat ++ [.int 0]) none (some (n:Int)):=by rw[Q7,List.take_of_length_le (by simp[lr];lk)];unfold ae.vC aH;rw[Zaw,Zaw,Zaw,Zas,Zas,show((w:Int)-1).toNat=w-1 by lk,show((n:Int)-((w:Int)+1)).toNat=n-(w+1) by lk];rfl
abbrev l9(n:Nat)(xs ys:List Int):Prop:=ae.Tn n xs/\ae.Tn n ys/\∀x:Int,0<=x->x<(n:Int)->ae.iP xs ys x
def Q8{xs:List Int}{v:Int}(h:v∈xs):xs.findIdx? (λi=>decide (i=v))=some (xs.idxOf v):=by
 induction xs with
 |nil=>exact nomatch h
 |cons a r ih =>
  rw[List.findIdx?_cons];by_cases e:a=v;subst e;simp;have hm:v∈r:=by
   rcases ZaA.mp h with h|h
   exact absurd h.symm e;exact h
  rw[decide_eq_false e,ih hm,List.idxOf_cons,show(a == v)=false by simpa using e];rfl
def XJ{xs:List D}{lo hi:Option Int}{d:D}(h:d∈cutD xs lo hi):d∈xs:=List.mem_of_mem_drop (List.mem_of_mem_take h)
def XM(xs:List D)(lo hi:Option Int):(cutD xs lo hi).length<=xs.length:=by unfold cutD;rw[Za6,List.length_drop];lk
def XQ(n:Nat):bg bV (List.replicate n (.bl true))=some (List.replicate n true):=by
 have:=sF (f:=bV) (g:=D.bl) (k:=id) (λ_=>rfl) (List.replicate n true)
 simpa using this
abbrev lu(S:Src)(ds:List D)(st:Store):Prop:=∀(i:Nat) (st2:Store),i<=ds.length->Ex [] st st2->S.at i st2=some ds[i]?
def Mm{st st':Store}{r:Nat}{ds:List D}(h:items st r=some ds)(e:Ex [] st st'):items st' r=some ds:=by
 unfold items at h ⊢;cases hx:st[r]? with
 |none=>rw[hx]at h;cases h
 |some o=>rw[e.keep _ _ hx (by simp)];rw[hx]at h;exact h
def rZ(ds:List D)(st:Store):lu (.fix ds) ds st:=λi st2 hi _=>by
 show(if i<=ds.length then some ds[i]? else none)=_;rw[if_pos hi]
def XR{ds:List D}{st:Store}{r:Nat}(h:items st r=some ds):lu (.live r) ds st:=λi st2 hi e=>by
 show(items st2 r).map _=_;rw[Mm h e];rfl
def uV{δ:aj}{st:Store}{fi:aj->Dm Src}{js:List Nat}{f:aj->Dm D}{Q:D->Store->Prop}(ds:List D)(h:D->D)(hi:Wp (fi δ st) λS st1=>lu S ds st1/\Ex [] st st1)(hl:ds.length<100000)
  (step:∀d∈ds,∀st1,Ex [] st st1->Wp (f (some d :: js.map λj=>δ.getD j none) st1) λy st2=>y=h d/\Ex [] st1 st2) (fin:∀st',Ex [] st st'->Q (.ref st'.length) (st' ++ [.lst (ds.map h)])):Wp (bN fi 1 js (hName 0) b7 f δ st) Q:=by
 obtain⟨S,st1,e1,hS,k1⟩:=hi;refine BI ds (λi ys δ' eh=>(∃v,δ'=v :: js.map λj=>δ.getD j none)/\ys=(ds.take i).map h/\Ex [] st1 eh) ⟨S,st1,e1,λi ys δ' eh hi' hp=>hS i eh hi' hp.2.2,⟨none,rfl⟩,rfl,Ex.refl⟩ hl ?_ ?_ ?_;rintro i ys δ' eh ⟨_,rfl,_⟩;rw[Zaa,Za6];lk;rintro i d ys δ' eh hd ⟨⟨v,rfl⟩,rfl,k8⟩;rw[HY];show Wp (b7 _ _) _;rw[Eg];refine⟨λ_=>?_,λh=>absurd h ∅⟩;refine aR (step d (Zak hd) eh (k1.trans k8)) ?_;rintro y oC ⟨rfl,k9⟩;refine⟨⟨some d,rfl⟩,?_,k8.trans k9⟩;obtain⟨hlt,e⟩:=Zac.mp hd;rw[ZaE hlt,Zaw,e];rfl;rintro ys δ' eh ⟨_,rfl,k8⟩;rw[Za1];exact fin eh (k1.trans k8)
def Es{xs:List Int}{d:D}(h:d∈xs.map D.int):∃x∈xs,d=.int x:=by obtain⟨x,hx,rfl⟩:=Zah.mp h;exact⟨x,hx,rfl⟩
def Mp{xs:List Int}{f:Int->Int}{h:D->D}(e:∀x∈xs,h (.int x)=.int (f x)):(xs.map D.int).map h=(xs.map f).map D.int:=by rw[Zas,Zas];exact ZaJ λx hx=>e x hx
abbrev inD:D->Int
 |.int i=>i
 |_=>0
section
variable {st:Store}{Q:D->Store->Prop}
def Ah{neg:Bool}{a b c d:Int}:Wp (j9 neg (.tup [.int a,.int b]) (.tup [.int c,.int d]) st) Q↔Q (.bl (if neg then !decide ([a,b]=[c,d])else decide ([a,b]=[c,d]))) st:=Q5 (L:=[a,b]) (M:=[c,d])
end
def XS(zs:List Int):(zs.map D.int).map inD=zs:=by rw[Zas];exact Zb9 zs
def BJ{δ:aj}{st:Store}{a:Nat}{ds:List D}(c:Nat)(hc:c<=1000)(h0:δ[0]?=some (some (.ref a)))(hs:items st a=some ds):
  Wp (cS (af (aG oi (af (fC (.int 1)) (af (aG cR (af (vQ qT (ag 0) gL (l6 (fC (.int (c:Int))))) ah)) ah))) ah) δ st) λS st1=>∃m:Nat,m<=max 1 c/\S=.fix (aH 0 m)/\Ex [] st st1:=by
 have hc3:(cutD ds none (some (c:Int))).length<=c:=by rw[Q7,Za6];lk
 obtain⟨m,hm,XT⟩:∃m:Nat,(if((cutD ds none (some (c:Int))).length:Int) > 1 then((cutD ds none (some (c:Int))).length:Int)else 1)=(m:Int)/\m<=max 1 c:=by
  split;exact⟨_,rfl,by lk⟩;exact⟨1,rfl,by lk⟩
 refine bM ?_;intro _ hQ
 set_option simprocs false in simp only[bA,h0,hs,hm]
 exact⟨by lk,hQ _ _ ⟨m,XT,by rw[Zau],Ex.cf _⟩⟩
def XU{δ:aj}{st:Store}{a m n:Nat}{qs:List D}{tg:D->aj->Dm aj}{f:aj->Dm D}(h1:δ[1]?=some (some (.ref a)))(hq:st[a]?=some (.lst qs))(hl:qs.length<=10000)
  (step:∀d∈qs,∀(δ':aj) (st1:Store),δ'.length=n->Wp (tg d δ' st1) λδ1 st2=>δ1.length=n/\Wp (f δ1 st2) λy st3=>y=.bl true/\Ex [] st1 st3) :
  Wp (aG ql (af (bN (kc (aB nC (ag 1) (vQ qT (ag 1) gL (l6 (fC (.int (m:Int))))))) n [] tg b7 f) ah) δ st) λd _=>d=.bl true:=by
 have c1:=XM qs none (some (m:Int));refine bM ?_;intro _ hQ;(set_option simprocs false in simp only[bA]);refine BI (qs ++ cutD qs none (some (m:Int))) (λj zs δ' eh=>zs=List.replicate j (.bl true)/\δ'.length=n/\items eh (st.length+1)=some (qs ++ cutD qs none (some (m:Int)))) ?_ (by rw[Zaj];lk) (λj zs δ' eh h=>by rw[h.1,Zbk];exact Zad _) ?_ ?_;refine bM ?_;intro _ cg
 set_option simprocs false in simp only[bA,h1,c9 hq,mQ (nz (m:=[O.lst (cutD qs none (some (m:Int)))]) hq)]
 have e1:(st ++ [O.lst (cutD qs none (some (m:Int)))]).length=st.length+1:=by simp
 refine⟨j4 ⋯,cg _ _ ⟨λj zs δ' eh hj h=>?_,rfl,by simp[oT],by rw[<- e1];exact pE⟩⟩;rw[e1];show(items eh (st.length+1)).map _=_;rw[h.2.2];rfl;rintro j d zs δ' eh hd ⟨rfl,hδ,h8⟩;have hd':d∈qs:=by
  rcases ZaF.mp (Zak hd)with h|h
  exact h;exact XJ h
 obtain⟨δ1,oC,e9,XW,w9⟩:=step d hd' δ' eh hδ;refine⟨δ1,oC,e9,?_⟩;show Wp (b7 δ1 oC) _;rw[Eg];refine⟨λ_=>?_,λh=>absurd h ∅⟩;refine aR w9 ?_;rintro y st3 ⟨rfl,k3⟩;exact⟨by rw[List.replicate_succ'],XW,Mm h8 k3⟩;rintro zs δ' eh ⟨rfl,_,_⟩;rw[QV];refine⟨_,_,pE,XQ _,hQ _ _ ?_⟩;simp
def _root_.ae.pH{n:Nat}{xs ys p:List Int}(fl:l9 n xs ys)(tp:ae.Tn n p)(n0:0<n):l9 n (ae.anew xs p) (ae.anew ys p):=by
 obtain⟨tx,ty,all⟩:=fl;have tX:=tx.anew tp;have tY:=ty.anew tp;refine⟨tX,tY,λx x0 x1=>?_⟩;obtain⟨a0,a1⟩:=tp.app (i:=0) ∅ ⋯;have hb:∀y:Int,0<=y->y<(n:Int)->y∈ae.bf (ae.anew xs p) (ae.anew ys p) (ae.app p 0) n:=λy y0 y1=>by
  rw[ae.LF tx ty tp ∅ ⋯ n];obtain⟨b0,b1⟩:=tp.j8 y0 y1;exact Zah.mpr ⟨ae.app (ae.inv p) y,ae.PK tx ty ∅ ⋯ all b0 b1,tp.bz y0 y1⟩
 have hF:=ae.LB tX tY (s:=0) ∅ ⋯;have nd:=ae.yW (ae.anew xs p) (ae.anew ys p) 0 n;have bd:=ae.sS tX tY (s:=0) ∅ ⋯ n;have XX:∀k,∀y∈ae.bf (ae.anew xs p) (ae.anew ys p) 0 k,ae.iP (ae.anew xs p) (ae.anew ys p) y:=by
  intro k
  induction k with
  |zero=>intro y hy;rw[Zat.mp (show y∈[(0:Int)]from hy)];exact .zero
  |succ k ih =>
   intro y hy;have hy':y∈(match (ae.bf (ae.anew xs p) (ae.anew ys p) 0 k)[k]? with|some x=>ae.visit (ae.anew xs p) (ae.anew ys p) (ae.bf (ae.anew xs p) (ae.anew ys p) 0 k) x|none=>ae.bf (ae.anew xs p) (ae.anew ys p) 0 k):=hy;split at hy'
   ·next z hz =>
    have xx:=ih z (Zak hz);rcases ae.rJ.mp hy' with hy'|rfl
    ·rcases ae.rJ.mp hy' with hy'|rfl
     ·exact ih y hy'
     ·exact xx.r
    ·exact xx.u
   ·exact ih y hy'
 refine XX n x ?_;have z0:(0:Int)∈ae.bf (ae.anew xs p) (ae.anew ys p) 0 n:=by
  have:=ae.Bn (ae.anew xs p) (ae.anew ys p) 0 0 n;rw[Zcc]at this;exact this.subset (show(0:Int)∈[(0:Int)] by simp)
 have back:∀k,(∃y∈ae.bf (ae.anew xs p) (ae.anew ys p) (ae.app p 0) k,y∈ae.bf (ae.anew xs p) (ae.anew ys p) 0 n)->ae.app p 0∈ae.bf (ae.anew xs p) (ae.anew ys p) 0 n:=by
  intro k
  induction k with
  |zero =>
   rintro⟨y,hy,t6⟩;rw[Zat.mp (show y∈[ae.app p 0]from hy)]at t6;exact t6
  |succ k ih =>
   rintro⟨y,hy,t6⟩;have hy':y∈(match (ae.bf (ae.anew xs p) (ae.anew ys p) (ae.app p 0) k)[k]? with|some x=>ae.visit (ae.anew xs p) (ae.anew ys p) (ae.bf (ae.anew xs p) (ae.anew ys p) (ae.app p 0) k) x|none=>ae.bf (ae.anew xs p) (ae.anew ys p) (ae.app p 0) k):=hy;split at hy'
   ·next z hz =>
    have Bo:=Zak hz;obtain⟨c0,c1⟩:=ae.sS tX tY a0 a1 k z Bo;rcases ae.rJ.mp hy' with hy'|rfl
    ·rcases ae.rJ.mp hy' with hy'|rfl
     ·exact ih ⟨y,hy',t6⟩
     ·exact ih ⟨z,Bo,ae.yX tX nd bd (λx hx=>(hF x hx).1) c0 c1 t6⟩
    ·exact ih ⟨z,Bo,ae.yX tY nd bd (λx hx=>(hF x hx).2) c0 c1 t6⟩
   ·exact ih ⟨y,hy',t6⟩
 have hp0:=back n ⟨0,hb 0 ∅ ⋯,z0⟩;have fwd:∀k,∀y∈ae.bf (ae.anew xs p) (ae.anew ys p) (ae.app p 0) k,y∈ae.bf (ae.anew xs p) (ae.anew ys p) 0 n:=by
  intro k
  induction k with
  |zero=>intro y hy;rw[Zat.mp (show y∈[ae.app p 0]from hy)];exact hp0
  |succ k ih =>
   intro y hy;have hy':y∈(match (ae.bf (ae.anew xs p) (ae.anew ys p) (ae.app p 0) k)[k]? with|some x=>ae.visit (ae.anew xs p) (ae.anew ys p) (ae.bf (ae.anew xs p) (ae.anew ys p) (ae.app p 0) k) x|none=>ae.bf (ae.anew xs p) (ae.anew ys p) (ae.app p 0) k):=hy;split at hy'
   ·next z hz =>
    have xx:=ih z (Zak hz);rcases ae.rJ.mp hy' with hy'|rfl
    ·rcases ae.rJ.mp hy' with hy'|rfl
     ·exact ih y hy'
     ·exact(hF z xx).1
    ·exact(hF z xx).2
   ·exact ih y hy'
 exact fwd n x (hb x x0 x1)
def Ai(p:Key×D)(r:List (Key×D))(k:Key):dC (p :: r) k=if p.1=k then some p.2 else dC r k:=by unfold dC;rw[Zbu];by_cases e:p.1=k;rw[decide_eq_true e,if_pos e];rfl;rw[decide_eq_false e,if_neg e]
def XY(kvs:List (Key×D))(k j:Key)(y:D):dC (putD kvs k y) j=if j=k then some y else dC kvs j:=by
 unfold putD;by_cases a:(kvs.any λkv=>decide (kv.1=k))=true;rw[if_pos a]
 induction kvs with
 |nil=>simp at a
 |cons p r ih =>
  rw[Zay,Ai,Ai];by_cases e:p.1=k;rw[if_pos e];by_cases ej:j=k;rw[if_pos ej,if_pos (show(p.1,y).1=j from e.trans ej.symm)];rw[if_neg ej,if_neg (show ¬(p.1,y).1=j fromλz=>ej (z.symm.trans e)),if_neg (λz=>ej (z.symm.trans e))]
  have:∀l:List (Key×D),dC (l.map λkv=>if kv.1=k then(kv.1,y)else kv) j=dC l j:=by
   intro l
   induction l with
   |nil=>rfl
   |cons q l ihl =>
    rw[Zay,Ai,Ai,ihl];by_cases eq:q.1=k;rw[if_pos eq,if_neg (show ¬(q.1,y).1=j fromλz=>ej (z.symm.trans eq)),if_neg (λz=>ej (z.symm.trans eq))];rw[if_neg eq]
  exact this r;rw[if_neg e];have a':(r.any λkv=>decide (kv.1=k))=true:=by
   rw[Zbp,decide_eq_false e,Bool.false_or]at a;exact a
  rw[ih a'];by_cases ej:j=k;rw[if_pos ej,if_neg (λz=>e (z.trans ej)),if_pos ej];rw[if_neg ej,if_neg ej]
 rw[if_neg a]
 induction kvs with
 |nil =>
  show dC [(k,y)] j=_;rw[Ai];by_cases ej:j=k;rw[if_pos ej.symm,if_pos ej];rw[if_neg (λz=>ej z.symm),if_neg ej]
 |cons p r ih =>
  have a':¬(r.any λkv=>decide (kv.1=k))=true:=λz=>a (by rw[Zbp,z,Bool.or_true]);have ep:p.1≠k:=λz=>a (by rw[Zbp,decide_eq_true z,Bool.true_or]);rw[List.cons_append,Ai,ih a',Ai];by_cases ej:j=k;rw[if_pos ej,if_pos ej,if_neg (λz=>ep (z.trans ej))];rw[if_neg ej,if_neg ej]
def XZ(kvs:List (Key×D))(k:Key)(v:D):(putD kvs k v).length<=kvs.length+1:=by unfold putD;split;rw[Zaa];lk;rw[Zaj,Zaz,ZbB];lk
def Ie{st:Store}{i:Nat}{kvs:List (Key×D)}(h:st[i]?=some (.dct kvs)):kd st (.ref i)=some kvs:=by simp only[kd,h]
def Q9(i:Int):keyOf (.int i)=some (.inl i):=rfl
def X0{r:List Int}{j:Nat}(h:j<r.length)(x:Int):(r.take (j+1)).contains x=((r.take j).contains x || x == r[j]):=by
 rw[ZaE h,List.contains_append]
 congr 1
 show([r[j]]:List Int).contains x=(x == r[j]);rw[List.contains_cons,List.contains_nil,Bool.or_false]
@[reducible]def fq:=Bool×Int
abbrev cX(s:fq):D:=.tup [.str (if s.1 then "s" else "t"),.int s.2]
section
variable {K:Zfr}
abbrev uD:List D->Dm D
 |[.int i],st=>some (.int (if i<0 then -i else i),st)
 |_,_=>none
def Ra:qA K (λxs H Q=>∃i,xs=[V.int i]/\Q (.int (if i<0 then -i else i)) H) uD:=by intro ρ H st xs as b st' Q l rx e q;unfold uD at e;split at e;cases e;obtain⟨v,rfl,r⟩:=rx.one';cases r;exact⟨_,rfl,q _ H ρ .refl l (.int _)⟩;cases e
end
def at2{α:Type}(x y z:α)(xs:List α):gH (x :: y :: z :: xs) 2=some z:=by unfold gH mH;rw[if_pos ∅,if_pos (by simp only[Zaz];lk)];rfl
def Rb{α:Type}(x y z u:α)(xs:List α):gH (x :: y :: z :: u :: xs) 3=some u:=by unfold gH mH;rw[if_pos ∅,if_pos (by simp only[Zaz];lk)];rfl
def Rc{xs:List Int}{i:Int}{m:Nat}:gH ((ae.row xs i m).map D.int) (-1)=some (.int (ae.aS xs i m)):=by unfold gH mH;rw[Zaa,ae.sQ,if_neg ∅,if_pos ⋯];simp only[Zbo];rw[show((-1:Int)+((m+1:Nat):Int)).toNat=m by lk,Zal];unfold ae.row;rw[Zal,ZbX ⋯];rfl
section
variable {st:Store}{Q:D->Store->Prop}
def Rf{i:Int}:Wp (uD [.int i] st) Q↔Q (.int (if i<0 then -i else i)) st:=a8
end
def X1{δ:aj}{st:Store}{fi:aj->Dm Src}{js:List Nat}{f:aj->Dm D}{Q:D->Store->Prop}(ds:List D)(P:Nat->D->Prop)(I:Store->Prop)
  (hi:Wp (fi δ st) λS st1=>(∀i st2,i<=ds.length->I st2->S.at i st2=some ds[i]?)/\I st1) (hl:ds.length<100000)
  (step:∀i d,ds[i]?=some d->∀st1,I st1->Wp (f (some d :: js.map λj=>δ.getD j none) st1) λy st2=>P i y/\I st2)
  (fin:∀ys st',I st'->ys.length=ds.length->(∀i y,ys[i]?=some y->P i y)->Q (.ref st'.length) (st' ++ [.lst ys])):Wp (bN fi 1 js (hName 0) b7 f δ st) Q:=by
 obtain⟨S,st1,e1,hS,k1⟩:=hi;refine BI ds (λi ys δ' eh=>(∃v,δ'=v :: js.map λj=>δ.getD j none)/\ys.length=i/\(∀i y,ys[i]?=some y->P i y)/\I eh) ⟨S,st1,e1,λi ys δ' eh hi' hp=>hS i eh hi' hp.2.2.2,⟨none,rfl⟩,rfl,(λi y h=>by simp at h),k1⟩ hl ?_ ?_ ?_;rintro i ys δ' eh ⟨_,h,_⟩;lk;rintro i d ys δ' eh hd ⟨⟨v,rfl⟩,hlen,hP,k8⟩;rw[HY];show Wp (b7 _ _) _;rw[Eg];refine⟨λ_=>?_,λh=>absurd h ∅⟩;refine aR (step i d hd eh k8) ?_;rintro y oC ⟨hp,k9⟩;refine⟨⟨some d,rfl⟩,by rw[Zaj,hlen];rfl,λj z hz=>?_,k9⟩;by_cases hj:j<ys.length;rw[Zav hj]at hz;exact hP j z hz;have hb:=gM hz;rw[Zaj,ZaK]at hb;have e:j=ys.length:=by lk
 subst e;rw[ZaC (Zad _),Zb1]at hz;cases hz;rw[hlen];exact hp;rintro ys δ' eh ⟨_,hlen,hP,k8⟩;exact fin ys eh k8 hlen hP
def Et{a b:Bool}{R:Bool->Prop}(h:R (a || b)):if a=true then R true else R b:=by cases a<;>exact h
def Aj{a b:Bool}{R:Bool->Prop}(h:R (a && b)):if a=true then R b else R false:=by cases a<;>exact h
def Ex.drop{st st1 st2:Store}{f:Nat}(a:Ex [] st st1)(b:Ex [f] st1 st2)(h:st.length<=f):Ex [] st st2:=⟨Zap a.len b.len,λi o e n=>b.keep i o (a.keep i o e n) (by have:=gM e;simp;lk)⟩
abbrev sO(L:List Nat):Str:=⟨L.toArray⟩
def Rg(L:List Nat):(sO L).cps.toList=L:=by simp[sO]
def Rh(L:List Nat):(sO L).length=L.length:=by simp[sO,Str.length]
def Ri(L M:List Nat):sO L ++ sO M=sO (L ++ M):=by show Str.append (sO L) (sO M)=_;simp[sO,Str.append]
def xQ:∀(Ls:List (List Nat)),Str.join (sO []) (Ls.map sO)=sO Ls.flatten
 |[]=>rfl
 |[L]=>by
  show sO L=sO ([L].flatten);rw[Za5,List.flatten_nil,Zbt]
 |L :: M :: r=>by
  have ih:=xQ (M :: r);show sO L ++ sO [] ++ Str.join (sO []) ((M :: r).map sO)=_;rw[ih,Ri,Ri,Zbt,Za5 (l:=L)]
abbrev uE(x:Str)(k:Nat):Str:=sO (List.replicate k x.cps.toList).flatten
abbrev wb:D->Option Str
 |.str x=>some x
 |_=>none
def X2(xs:List Str):bg wb (xs.map D.str)=some xs:=by have:=sF (f:=wb) (g:=D.str) (k:=id) (λ_=>rfl) xs;rw[this,Zb9]
abbrev oV:D->List D->Dm D
 |.str sep,[.ref i],st=>match (items st i).bind (bg wb)with
  |some xs=>if xs.length<=100000/\sep.length<=10/\∀x∈xs,x.length<=100 then some (.str (Str.join sep xs),st)else none
  |none=>none
 |_,_,_=>none
abbrev r6:D->D->Dm D
 |.str x,.int k,st=>if x.length<=100/\-1000000<=k/\k<=10000 then some (.str (uE x k.toNat),st)else none
 |_,_,_=>none
abbrev wc(x:Str):List D:=x.cps.toList.map λc=>.str ⟨#[c]⟩
abbrev qq(fa:aj->Dm D):aj->Dm Src:=λδ st=>bnd (fa δ st) λa st1=>match a with
 |.str x=>if x.length<=100000 then some (.fix (wc x),st1)else none
 |_=>none
section
variable {K:Zfr}
def Rj{ρ:List Addr}{H:Hp}:∀{ws:List V} {ds:List D} {ns:List Str},cq K ρ H ws ds->bg wb ds=some ns->ws=ns.map V.str
 |_,_,_,.nil,h=>by cases h;rfl
 |_,_,_,.cons a b,h=>by
  obtain⟨x,t,h1,h2,rfl⟩:=uv h;rw[Rj b h2];cases a<;>first|(cases h1;rfl)|cases h1
def X3:Bt K "str" (rJoin K) oV:=by
 intro ρ H st x xs a as b st' Q l rx vV e q;unfold oV at e;split at e
 ·split at e
  ·next ts hd =>
   split at e
   ·next ok =>
    cases e;obtain⟨v,rfl,r⟩:=vV.one';obtain⟨ds,h3,h4⟩:=Zbe.mp hd;cases rx;cases r with
    |ref hi =>
     obtain⟨vs,s,r⟩:=l.items hi h3;cases Rj r h4;exact⟨_,_,_,rfl,rfl,s,ok.1,ok.2.1,ok.2.2,q _ H ρ .refl l (.str _)⟩
   ·cases e
  ·cases e
 ·cases e
def X4:ng K (λx y H Q=>∃z k,x=.str z/\y=.int k/\z.length<=100/\-1000000<=k/\k<=10000/\Q (.str (vw z k.toNat)) H) r6:=by
 intro ρ H st x y a c b st' Q l rx ry e q;unfold r6 at e;split at e
 ·split at e
  ·next ok =>
   cases e;cases rx;cases ry;exact⟨_,_,rfl,rfl,ok.1,ok.2.1,ok.2.2,q _ H ρ .refl l (.str _)⟩
  ·cases e
 ·cases e
def Rm{t:TE}{fa:aj->Dm D}(ha:fg K t fa):xM K (C3 t) (qq fa):=by
 intro ρ σ H δ st S st' Q l rs e q;obtain⟨a,st1,e1,e⟩:=di e;split at e
 ·next x =>
  split at e
  ·next hl =>
   cases e;refine ha ρ σ H δ st _ _ _ l rs e1 λy H1 ρ1 m1 l1 r1=>?_;cases r1;refine⟨_,rfl,q _ H1 ρ1 m1 l1 λρ2 H2 st2 i m2 l2=>⟨λh=>?_,λd h=>?_⟩⟩
   ·have h2:=ZaI.mp (uU h).2
    show x.cps.size<=i;simpa[wc]using h2
   ·have h2:=(uU h).2
    unfold wc at h2;rw[Zal]at h2;obtain⟨c,hc,e⟩:=ZaB.mp h2;subst e;have hc':x.cps[i]?=some c:=by simpa using hc
    refine⟨?_,λy H3 hy=>?_⟩
    ·show i<x.cps.size
     exact(Array.getElem?_eq_some_iff.mp hc').1
    ·obtain⟨rfl,c',hc2,rfl⟩:=hy
     rw[hc']at hc2;cases hc2;exact⟨.refl,l2,.str _⟩
  ·cases e
 ·cases e
end
section
variable {st:Store}{Q:D->Store->Prop}
def X5{sep:Str}{k:Nat}{xs:List Str}(h:items st k=some (xs.map D.str))(hl:xs.length<=100000)(hs:sep.length<=10)(hb:∀x∈xs,x.length<=100):Wp (oV (.str sep) [.ref k] st) Q↔Q (.str (Str.join sep xs)) st:=by
 have e:oV (.str sep) [.ref k] st=some (.str (Str.join sep xs),st):=by
  simp only[oV,h,Zbo,X2];rw[if_pos ⟨hl,hs,hb⟩]
 rw[e,a8]
def X6{x:Str}{k:Int}:Wp (r6 (.str x) (.int k) st) Q↔(x.length<=100/\-1000000<=k/\k<=10000)/\Q (.str (uE x k.toNat)) st:=by
 show Wp (if x.length<=100/\-1000000<=k/\k<=10000 then some (D.str (uE x k.toNat),st)else none) Q↔_;rw[oD,a8,fA];split
 ·next h=>exact⟨λq=>⟨h,q⟩,λq=>q.2⟩
 ·next h=>exact⟨False.elim,λq=>h q.1⟩
def Rn{δ:aj}{fa:aj->Dm D}{R:Src->Store->Prop}:Wp (qq fa δ st) R↔Wp (fa δ st) λa st1=>∃x,a=.str x/\x.length<=100000/\R (.fix (wc x)) st1:=by
 unfold qq;rw[dr];constructor<;>refineλh=>aR h λa s h=>?_
 ·cases a<;>simp only[fA]at h
  ·next x =>
   rw[oD,a8,fA]at h;split at h
   ·next hl=>exact⟨_,rfl,hl,h⟩
   ·exact h.elim
 ·obtain⟨j,rfl,hl,h⟩:=h
  simp only[if_pos hl];exact a8.mpr h
end
structure tL(K:Zfr)(mg:Str->Option Value)(x:Str)(v:V)(d:D):Prop where
 ex:∃u,mg x=some u/\RelV v u
 rp:∀(ρ:List Addr) (H:Hp),Rp K ρ H v d
def Mq{X:Cx}{K:Zfr}{mg:Str->Option Value}{x:Str}{v:V}{d:D}{pos:Pos}(C:tL K mg x v d)(hg:Gl X x)(hX:X.mg=mg)(hd:(x == ("__debug__" : Str))=false):PE X (.Name x pos) (tC v):=by obtain⟨u,h,r⟩:=C.ex;subst hX;exact To hg h r hd
def Mr{K:Zfr}{mg:Str->Option Value}{x:Str}{v:V}{d:D}(C:tL K mg x v d):fg K (tC v) (fC d):=vO C.rp
def Ro{K:Zfr}{h:Heap}{mg:Str->Option Value}(X:K.In h)(G:h.Ns mainGlobals mg){x:Str}{a:Addr}{od:Option Addr}{its:Array Value}{n:Nat}{sl:Array (Option Value)}{vs:List V}{ds:List D}(e:PySem.W.nsIn K mainGlobals x=some (some (.ref a)))(l:K.lookup a=some ⟨.type "tuple",od,.seq its n,sl⟩)
  (ho:od=none) (hz:its.size<=sizeLine) (hv:Vals vs its.toList) (hd:∀(ρ:List Addr) (H:Hp),cq K ρ H vs ds):∃v,tL K mg x v (.tup ds) :=
 ⟨.ref a,⟨_,PySem.W.mg_of X G e,rfl⟩,λρ H=>.tup (.inr ⟨_,its,n,l,rfl,ho,rfl,hz,hv⟩) (hd ρ H)⟩
abbrev pU:Nat->D->Prop
 |_,.int _=>True
 |_,.str x=>PyData.canLay0 (.str x)=true
 |_,.non=>True
 |n+1,.tup ds=>∀d∈ds,pU n d
 |_,_=>False
abbrev la:Nat->D->PyData
 |_,.int i=>.int i
 |_,.str x=>.str x
 |n+1,.tup ds=>.tuple (ds.map (la n))
 |_,_=>.none
def Ig{α β:Type}{f:α->Option β}{g:α->β}:∀{l:List α},(∀x∈l,f x=some (g x))->bg f l=some (l.map g)
 |[],_=>rfl
 |a :: r,h=>by
  have h1:=h a Zae;have h2:=Ig (f:=f) (g:=g) (l:=r) λx hx=>h x (Zag _ hx);simp only[bg,h1,h2,Zay]
def Ih:∀(n:Nat) (d:D),pU n d->∀(m:Nat),n<m->∀st,cP st m d=some (la n d)
 |n,.int i,_,m+1,_,st=>by cases n<;>rfl
 |n,.str x,_,m+1,_,st=>by cases n<;>rfl
 |n,.non,_,m+1,_,st=>by cases n<;>rfl
 |n,.bl b,h,_,_,_=>by cases n<;>exact h.elim
 |n,.ty b,h,_,_,_=>by cases n<;>exact h.elim
 |n,.ref b,h,_,_,_=>by cases n<;>exact h.elim
 |0,.tup ds,h,_,_,_=>h.elim
 |n+1,.tup ds,h,m+1,hm,st=>by
  simp only[cP];rw[Ig (g:=la n) λx hx=>Ih n x (h x hx) m ⋯ st];rfl
def Ii:∀{l:List PyData},(∀x∈l,x.canLay0=true)->PyData.canLayAll0 l=true
 |[],_=>rfl
 |a :: r,h=>by
  simp only[PyData.canLayAll0,h a Zae,Ii λx hx=>h x (Zag _ hx),Bool.and_self]
def Ij{n:Nat}:∀{l:List PyData},(∀x∈l,x.depth<=n)->PyData.depthAll l<=n
 |[],_=>ZaO _
 |a :: r,h=>by
  have h1:=h a Zae;have h2:=Ij λx hx=>h x (Zag _ hx);simp only[PyData.depthAll];lk
def BK:∀(n:Nat) (d:D),pU n d->(la n d).canLay0=true/\(la n d).depth<=n
 |n,.int i,_=>by cases n<;>exact⟨rfl,ZaO _⟩
 |n,.str x,h=>by cases n<;>exact⟨h,ZaO _⟩
 |n,.non,_=>by cases n<;>exact⟨rfl,ZaO _⟩
 |n,.bl b,h=>by cases n<;>exact h.elim
 |n,.ty b,h=>by cases n<;>exact h.elim
 |n,.ref b,h=>by cases n<;>exact h.elim
 |0,.tup ds,h=>h.elim
 |n+1,.tup ds,h=>by
  refine⟨?_,?_⟩;show PyData.canLayAll0 (ds.map (la n))=true;exact Ii λx hx=>by
   obtain⟨d,hd,rfl⟩:=Zah.mp hx;exact(BK n d (h d hd)).1
  show PyData.depthAll (ds.map (la n))+1<=n+1
  have:=Ij (n:=n) (l:=ds.map (la n)) λx hx=>by
   obtain⟨d,hd,rfl⟩:=Zah.mp hx;exact(BK n d (h d hd)).2
  lk
def Ms{n:Nat}(ih:∀a b:D,pU n a->pU n b->(PyData.eqv (la n a) (la n b)=true↔a=b)):∀(l m:List D),(∀x∈l,pU n x)->(∀x∈m,pU n x)->(PyData.eqvAll (l.map (la n)) (m.map (la n))=true↔l=m)
 |[],[],_,_=>by simp[PyData.eqvAll]
 |[],_ :: _,_,_=>by simp[PyData.eqvAll]
 |_ :: _,[],_,_=>by simp[PyData.eqvAll]
 |a :: l,b :: m,h1,h2=>by
  have e1:=ih a b (h1 a Zae) (h2 b Zae);have e2:=Ms ih l m (λx hx=>h1 x (Zag _ hx)) λx hx=>h2 x (Zag _ hx);simp only[Zay,PyData.eqvAll,ZaD,e1,e2,List.cons.injEq]
def Mt:∀(n:Nat) (a b:D),pU n a->pU n b->(PyData.eqv (la n a) (la n b)=true↔a=b):=by
 intro n
 induction n with
 |zero =>
  intro a b ha hb;cases a<;>first|exact ha.elim|skip
  all_goals (cases b<;>first|exact hb.elim|simp[la,PyData.eqv])
 |succ n ih =>
  intro a b ha hb;cases a<;>first|exact ha.elim|skip
  all_goals (cases b<;>first|exact hb.elim|skip)
  all_goals first
   |(simp[la,PyData.eqv];done)
   |skip
  next l m =>
   have:=Ms ih l m ha hb;show PyData.eqv (.tuple (l.map (la n))) (.tuple (m.map (la n)))=true↔_;rw[Mk,this];constructor
   ·rintro rfl;rfl
   ·intro h;exact D.tup.inj h
def Rq(n:Nat)(L:List Int):pU (n+1) (.tup (L.map D.int)):=λd hd=>by
 obtain⟨x,_,rfl⟩:=Zah.mp hd;cases n<;>trivial
abbrev sM(neg:Bool):D->D->Dm D:=λa c st=>match cP st 20 a,(b9 st c).bind (bg (cP st 19))with
 |some dx,some ds=>if dx.canLay0 && ds.all PyData.canLay0 && decide (dx.depth<=60)then some (.bl (if neg then !ds.any (λd=>PyData.eqv d dx)else ds.any λd=>PyData.eqv d dx),st)else none
 |_,_=>none
section
variable {K:Zfr}
def Ik{ρ:List Addr}{H:Hp}{st:Store}(l:Rl K ρ H st)(n:Nat):∀{vs:List V} {ds:List D} {ps:List PyData},cq K ρ H vs ds->bg (cP st n) ds=some ps->fD K H vs ps
 |_,_,_,.nil,h=>by cases h;exact .nil
 |_,_,_,.cons a b,h=>by
  obtain⟨x,t,h1,h2,rfl⟩:=uv h;exact .cons (DS l n a h1) (Ik l n b h2)
def Ak(neg:Bool):ng K (yM K neg) (sM neg):=by
 intro ρ H st x y a c b st' Q l rx ry e q;unfold sM at e;split at e
 ·next dx ds h1 h2 =>
  split at e
  ·next ok =>
   cases e;rw[ZaD,ZaD,decide_eq_true_eq,Za0]at ok;obtain⟨es,h3,h4⟩:=Zbe.mp h2;obtain⟨p,xs,rfl,hq,rr⟩:∃p xs,y=.ref p/\(iL K H p xs\/eQ K H p xs)/\cq K ρ H xs es:=by
    cases ry with
    |non=>cases h3
    |bl _=>cases h3
    |int _=>cases h3
    |str _=>cases h3
    |ty _=>cases h3
    |ref hi=>obtain⟨vs,s,r⟩:=l.items hi h3;exact⟨_,vs,rfl,.inl s,r⟩
    |tup s r=>cases h3;exact⟨_,_,rfl,.inr s,r⟩
   exact⟨p,xs,ds,dx,rfl,hq,Ik l 19 rr h4,DS l 20 rx h1,ok.1.2,ok.1.1,ok.2,q _ H ρ .refl l (.bl _)⟩
  ·cases e
 ·cases e
end
open Classical in
def Al{st:Store}{Q:D->Store->Prop}{neg:Bool}{n:Nat}{a c:D}{es:List D}(ha:pU n a)(hc:b9 st c=some es)(he:∀e∈es,pU n e)(hn:n<=15):Wp (sM neg a c st) Q↔Q (.bl (if neg then !decide (a∈es)else decide (a∈es))) st:=by
 have h1:=Ih n a ha 20 ⋯ st;have h2:bg (cP st 19) es=some (es.map (la n)):=Ig λx hx=>Ih n x (he x hx) 19 ⋯ st;have ea:(es.map (la n)).any (λd=>PyData.eqv d (la n a))=decide (a∈es):=by
  rw[Zbs,Zco,decide_eq_true_eq];constructor;rintro⟨d,hd,h⟩;obtain⟨x,hx,rfl⟩:=Zah.mp hd;rw[<- (Mt n x a (he x hx) ha).mp h];exact hx;intro h;exact⟨_,Zah.mpr ⟨a,h,rfl⟩,(Mt n a a ha ha).mpr rfl⟩
 have l1:=BK n a ha;have l2:(es.map (la n)).all PyData.canLay0=true:=by
  rw[Za0];intro d hd;obtain⟨x,hx,rfl⟩:=Zah.mp hd;exact(BK n x (he x hx)).1
 have e:sM neg a c st=some (.bl (if neg then !decide (a∈es)else decide (a∈es)),st):=by
  unfold sM;simp only[h1,hc,Zbo,h2,ea,l1.1,l2,Bool.true_and,decide_eq_true_eq];rw[if_pos ⋯]
 rw[e,a8]
abbrev Il:D->Option (List D)
 |.tup ds=>some ds
 |.str x=>if x.length<=sizeLine then some (wc x)else none
 |_=>none
abbrev r9(fa:aj->Dm (List D)):aj->Dm Src:=λδ st=>bnd (fa δ st) λas st1=>match as with
 |[a]=>match Il a with
  |some ds=>some (.fix ds.reverse,st1)
  |none=>none
 |_=>none
section
variable {K:Zfr}
def Eu{ρ:List Addr}{H:Hp}{x:V}{a:D}{ds:List D}(r:Rp K ρ H x a)(h:Il a=some ds):∃src:ZS,src.val K H x/\(∀a,src≠.lst a)/\(∀z,src=.str z->z.length<=sizeLine)/\∀(ρ2:List Addr) (H2:Hp),Mn K ρ H ρ2 H2->∀i,(∀d,ds[i]?=some d->∃v,src.has K H2 i v/\Rp K ρ2 H2 v d)/\(i=ds.length->src.fin K H2 i):=by
 cases r with
 |non=>cases h
 |bl b=>cases h
 |int i=>cases h
 |ty n=>cases h
 |ref e=>cases h
 |str x =>
  unfold Il at h;simp only at h;split at h
  ·next hx =>
   cases h;refine⟨.str x,rfl,nofun,λz e=>by cases e;exact hx,λρ2 H2 m i=>⟨λd hd=>?_,λe=>?_⟩⟩
   ·unfold wc at hd
    rw[Zal]at hd;obtain⟨c,hc,rfl⟩:=ZaB.mp hd;have hc':x.cps[i]?=some c:=by simpa using hc
    exact⟨_,⟨c,hc',rfl⟩,.str _⟩
   ·show x.cps.size=i
    rw[e];simp[wc]
  ·cases h
 |tup s r =>
  cases h;refine⟨.tup _,⟨rfl,_,s⟩,nofun,nofun,λρ2 H2 m i=>⟨λd hd=>?_,λe=>?_⟩⟩
  ·obtain⟨v,hv,rv⟩:=r.got hd
   exact⟨v,⟨_,m.t _ _ s,hv⟩,rv.mn m⟩
  ·exact⟨_,m.t _ _ s,by rw[r.length];exact e.symm⟩
def X7{t:TA}{fa:aj->Dm (List D)}(ha:sU K t fa):xM K (C5 K t) (r9 fa):=by
 intro ρ σ H δ st S st' Q l rs e q;obtain⟨as,st1,e1,e⟩:=di e;split at e
 ·next a =>
  split at e
  ·next ds h1 =>
   cases e;refine ha ρ σ H δ st _ _ _ l rs e1 λxs H1 ρ1 m1 l1 r1=>?_;obtain⟨x,rfl,rx⟩:=r1.one';obtain⟨s1,v1,nl,hz,g1⟩:=Eu rx h1;refine⟨x,s1,ds.length,rfl,v1,(g1 ρ1 H1 Mn.refl ds.length).2 rfl,nl,hz,q _ H1 ρ1 m1 l1 λρ2 H2 st2 i m2 l2=>⟨λh=>?_,λd h=>?_⟩⟩
   ·obtain⟨hl,hn⟩:=uU h
    have:=ZaI.mp hn;simp only[Za9]at this hl;exact(show i=ds.length by lk)
   ·have hd:=(uU h).2
    have hi:i<ds.length:=by simpa using(Zac.mp hd).1
    rw[List.getElem?_reverse hi]at hd;obtain⟨v,hv,rv⟩:=(g1 ρ2 H2 m2 _).1 d hd;refine⟨⟨hi,v,hv⟩,λz H3 hz=>?_⟩;obtain⟨rfl,k1⟩:=hz;cases k1 _ hv;exact⟨Mn.refl,l2,rv⟩
  ·cases e
 ·cases e
end
section
variable {st:Store}
def X8{δ:aj}{fa:aj->Dm (List D)}{R:Src->Store->Prop}:Wp (r9 fa δ st) R↔Wp (fa δ st) λas st1=>∃a ds,as=[a]/\Il a=some ds/\R (.fix ds.reverse) st1:=by
 unfold r9;rw[dr];constructor<;>refineλh=>aR h λas s h=>?_
 ·split at h
  ·next a =>
   split at h
   ·next ds h1=>exact⟨a,ds,rfl,h1,a8.mp h⟩
   ·exact(fA.mp h).elim
  ·exact(fA.mp h).elim
 ·obtain⟨a,ds,rfl,h1,h⟩:=h
  simp only[h1];exact a8.mpr h
end
def X9{st:Store}{Q:D->Store->Prop}{z:Str}:Wp (rR [.str z] st) Q↔lim z.length=true/\Q (.int z.length) st:=by
 show Wp (if lim z.length=true then some (D.int z.length,st)else none) Q↔_;rw[oD,a8,fA];split
 ·next h=>exact⟨λq=>⟨h,q⟩,λq=>q.2⟩
 ·next h=>exact⟨False.elim,λq=>h q.1⟩
abbrev qr(ps:List PyData):Bool:=decide (0<ps.length) && ps.all (λa=>ps.all λb=>fZ a b) && ps.all λa=>a.canLay0 && decide (a.depth<=50)
abbrev md:List D->Dm D
 |[.ref r],st=>match own st r with
  |some ds=>match bg (cP st 20) ds with
   |some ps=>if qr ps=true then(match ds[n6 ps]? with|some d=>some (d,st)|none=>none)else none
   |none=>none
  |none=>none
 |_,_=>none
section
variable {K:Zfr}
def Rr:qA K (xl K) md:=by
 intro ρ H st xs as b st' Q l rx e q;unfold md at e;split at e
 ·next r mP =>
  split at e
  ·next ds hd =>
   split at e
   ·next ps hp =>
    split at e
    ·next hok =>
     split at e
     ·next d hd0 =>
      cases e;obtain⟨v,rfl,r⟩:=rx.one';cases r with
      |ref hi =>
       obtain⟨vs,hs,rr⟩:=l.items hi (c9 (rQ hd));obtain⟨v,hv,rv⟩:=rr.got hd0;simp only[qr,ZaD,decide_eq_true_eq,Za0]at hok;exact⟨_,vs,ps,rfl,hs,Ik l 20 rr hp,hok.1.1,hok.1.2,hok.2,v,hv,q v H ρ .refl l rv⟩
     ·cases e
    ·cases e
   ·cases e
  ·cases e
 ·cases e
end
def Rt{st:Store}{Q:D->Store->Prop}{r:Nat}{ds:List D}{ps:List PyData}(h:own st r=some ds)(hp:bg (cP st 20) ds=some ps)(hok:qr ps=true){d:D}(hd:ds[n6 ps]?=some d):Wp (md [.ref r] st) Q↔Q d st:=by
 have e:md [.ref r] st=some (d,st):=by simp only[md,h,hp,hok,hd,if_true]
 rw[e,a8]
abbrev tupI(xs:List Int):PyData:=.tuple (xs.map PyData.int)
abbrev lG(p:ae.bQ):PyData:=.tuple [tupI p.1,tupI p.2]
def Mu:∀xs ys:List Int,cw (xs.map PyData.int) (ys.map PyData.int)=ae.qz xs ys
 |[],[]=>rfl
 |[],_ :: _=>rfl
 |_ :: _,[]=>rfl
 |x :: xs,y :: ys=>by
  show(if(x == y)=true then cw (xs.map PyData.int) (ys.map PyData.int)else decide (x<y))=if x=y then ae.qz xs ys else decide (x<y)
  rw[Mu xs ys];by_cases h:x=y;rw[if_pos h,if_pos (by simp[h])];rw[if_neg h,if_neg (by simp[h])]
def Rv(xs ys:List Int):PyData.eqv (tupI xs) (tupI ys)=decide (xs=ys):=Bi xs ys
def Ya(p q:ae.bQ):lT (lG p) (lG q)=ae.n9 p q:=by
 show(if PyData.eqv (tupI p.1) (tupI q.1)=true then(if PyData.eqv (tupI p.2) (tupI q.2)=true then false else cw (p.2.map PyData.int) (q.2.map PyData.int))else cw (p.1.map PyData.int) (q.1.map PyData.int))=if p.1=q.1 then ae.qz p.2 q.2 else ae.qz p.1 q.1
 rw[Rv,Rv,Mu,Mu];by_cases a:p.1=q.1;rw[if_pos a,if_pos (decide_eq_true a)];by_cases b:p.2=q.2;rw[if_pos (decide_eq_true b),b,ae.Hu];rw[if_neg (by simp[b])];rw[if_neg a,if_neg (by simp[a])]
def Io:∀xs ys:List Int,cy (xs.map PyData.int) (ys.map PyData.int)=true
 |[],_=>rfl
 |_ :: _,[]=>rfl
 |x :: xs,y :: ys=>by show(true && cy (xs.map PyData.int) (ys.map PyData.int))=true;rw[Io xs ys];rfl
def Yb(p q:ae.bQ):fZ (lG p) (lG q)=true:=by show(cy (p.1.map PyData.int) (q.1.map PyData.int) && (cy (p.2.map PyData.int) (q.2.map PyData.int) && true))=true;rw[Io,Io];rfl
def Yc(p:ae.bQ):(lG p).canLay0=true/\(lG p).depth<=50:=by refine⟨?_,?_⟩;show(PyData.canLayAll0 (dh p.1) && (PyData.canLayAll0 (dh p.2) && true))=true;rw[xh,xh];rfl;show max (PyData.depthAll (dh p.1)+1) (max (PyData.depthAll (dh p.2)+1) 0)+1<=50;rw[Bh,Bh];decide
def Rx(l:List ae.bQ):∀k,k<l.length->l[argBest (λi j=>ae.n9 (l.getD i ([],[])) (l.getD j ([],[]))) k]?=some (ae.oa (l.take (k+1)))
 |0,h=>by
  cases l with
  |nil=>simp at h
  |cons p l=>rfl
 |k+1,h=>by
  have ih:=Rx l k ⋯;generalize hb:argBest (λi j=>ae.n9 (l.getD i ([],[])) (l.getD j ([],[]))) k=b at ih;have e1:l.getD b ([],[])=ae.oa (l.take (k+1)):=by rw[Zaf,ih];rfl
  have e2:ae.oa (l.take (k+1+1))=if ae.n9 (l.getD (k+1) ([],[])) (ae.oa (l.take (k+1)))then l.getD (k+1) ([],[])else ae.oa (l.take (k+1)):=by
   have et:l.take (k+1+1)=l.take (k+1) ++ [l.getD (k+1) ([],[])]:=by
    rw[ZaE h,Zaf,Zab h];rfl
   rw[et];cases l with
   |nil=>simp at h
   |cons p l =>
    show((l.take k ++ [_]).foldl _ p)=_;rw[Zbr];rfl
  show l[if(ae.n9 (l.getD (k+1) ([],[])) (l.getD (argBest _ k) ([],[])))=true then k+1 else argBest _ k]?=_;rw[hb,e1,e2];split;rw[Zaf,Zab h];rfl;exact ih
def Yd(st:Store)(p:ae.bQ):cP st 20 (bE p.1 p.2)=some (lG p):=by
 have h:∀(m:Nat) (xs:List Int),bg (cP st (m+1)) (xs.map D.int)=some (xs.map PyData.int):=λm xs=>by
  have:=sF (f:=cP st (m+1)) (g:=D.int) (k:=PyData.int) (λ_=>rfl) xs;exact this
 show(bg (cP st 19) [D.tup (p.1.map D.int),D.tup (p.2.map D.int)]).map PyData.tuple=_;have e1:cP st 19 (D.tup (p.1.map D.int))=some (tupI p.1):=by show(bg (cP st 18) (p.1.map D.int)).map PyData.tuple=_;rw[h];rfl
 have e2:cP st 19 (D.tup (p.2.map D.int))=some (tupI p.2):=by show(bg (cP st 18) (p.2.map D.int)).map PyData.tuple=_;rw[h];rfl
 simp only[bg,e1,e2];rfl
def Ye{st:Store}{Q:D->Store->Prop}{r:Nat}{l:List ae.bQ}(h:own st r=some (l.map λp=>bE p.1 p.2))(hn:0<l.length):Wp (md [.ref r] st) Q↔Q (bE (ae.oa l).1 (ae.oa l).2) st:=by
 have hp:bg (cP st 20) (l.map λp=>bE p.1 p.2)=some (l.map lG):=sF (f:=cP st 20) (g:=λp:ae.bQ=>bE p.1 p.2) (k:=lG) (λp=>Yd st p) l;refine Rt h hp ?_ ?_;simp only[qr,ZaD,decide_eq_true_eq,Za0,Zaa];refine⟨⟨hn,λa ha b hb=>?_⟩,λa ha=>?_⟩;obtain⟨p,_,rfl⟩:=Zah.mp ha;obtain⟨q,_,rfl⟩:=Zah.mp hb;exact Yb p q;obtain⟨p,_,rfl⟩:=Zah.mp ha;exact Yc p;have hb:=Rx l (l.length-1) ⋯;rw[show l.length-1+1=l.length by lk,Za1]at hb;have e:∀k,k<l.length->argBest (jZ (l.map lG)) k=argBest (λi j=>ae.n9 (l.getD i ([],[])) (l.getD j ([],[]))) k/\argBest (λi j=>ae.n9 (l.getD i ([],[])) (l.getD j ([],[]))) k<l.length:=by
  intro k
  induction k with
  |zero=>intro hk;exact⟨rfl,hk⟩
  |succ k ih =>
   intro hk;obtain⟨e1,e2⟩:=ih ⋯;have eb:jZ (l.map lG) (k+1) (argBest (jZ (l.map lG)) k)=ae.n9 (l.getD (k+1) ([],[])) (l.getD (argBest (λi j=>ae.n9 (l.getD i ([],[])) (l.getD j ([],[]))) k) ([],[])):=by
    rw[e1];unfold jZ;rw[Zaf,Zaf,Zal,Zal,Zab hk,Zab e2,Zaf,Zaf,Zab hk,Zab e2];exact Ya _ _
   refine⟨?_,?_⟩;show(if jZ (l.map lG) (k+1) (argBest (jZ (l.map lG)) k)=true then k+1 else argBest (jZ (l.map lG)) k)=if _=true then k+1 else _
   rw[eb,e1];show(if _=true then k+1 else _)<l.length;split;exact hk;exact e2
 unfold n6;rw[Zaa,(e (l.length-1) ⋯).1,Zal,hb];rfl
def Mv{α:Type}{r:α->α->Prop}:∀{xs ys:List α},xs.Perm ys->xs.Pairwise r->ys.Pairwise r->(∀a∈xs,∀b∈xs,r a b->r b a->a=b)->xs=ys
 |[],ys,p,_,_,_=>(List.nil_perm.mp p).symm
 |x :: xs,[],p,_,_,_=>absurd p.length_eq (by simp)
 |x :: xs,y :: ys,p,h1,h2,an=>by
  have e:x=y:=by
   have hx:x∈y :: ys:=p.subset Zae;have hy:y∈x :: xs:=p.symm.subset Zae;rcases ZaA.mp hx with e|hx
   exact e;rcases ZaA.mp hy with e|hy
   exact e.symm;exact an x Zae y (Zag _ hy) ((Zbz.mp h1).1 y hy) ((Zbz.mp h2).1 x hx)
  subst e;rw[Mv (List.perm_cons x |>.mp p) (Zbz.mp h1).2 (Zbz.mp h2).2 λa ha b hb=>an a (Zag _ ha) b (Zag _ hb)]
abbrev qu(ps:List PyData):Bool:=decide (ps.length<64) && ps.all (λa=>ps.all λb=>fZ a b) && (ps.all λa=>a.canLay0 && decide (a.depth<=50)) && (ps.all (xo true) || ps.all (xo false))
abbrev nD(ps:List PyData):List Nat:=(List.range ps.length).mergeSort λi j=>!jZ ps (min j (ps.length-1)) (min i (ps.length-1))
abbrev qW(ds:List D)(ps:List PyData):List D:=(nD ps).map λi=>ds.getD i .non
abbrev lH:List D->Dm D
 |[.ref r],st=>match own st r with
  |some ds=>match bg (cP st 20) ds with
   |some ps=>if qu ps=true then some (.ref st.length,st ++ [.lst (qW ds ps)])else none
   |none=>none
  |none=>none
 |_,_=>none
def xR(ps:List PyData):(nD ps).Perm (List.range ps.length):=Zcx _ _
def Ry(st:Store):∀(n m:Nat) (d d':D) (p:PyData),cP st n d=some p->cP st m d'=some p->fZ p p=true->d=d'
 |0,_,_,_,_,h,_,_=>by simp[cP]at h
 |_,0,_,_,_,_,h,_=>by simp[cP]at h
 |n+1,m+1,d,d',p,h,h',ok=>by
  have all:∀(ds ds':List D) (ps:List PyData),bg (cP st n) ds=some ps->bg (cP st m) ds'=some ps->cy ps ps=true->ds=ds':=by
   intro ds
   induction ds with
   |nil =>
    intro ds' ps h1 h2 _;cases h1;cases ds' with
    |nil=>rfl
    |cons x r=>obtain⟨_,_,_,_,e⟩:=uv h2;cases e
   |cons x r ih =>
    intro ds' ps h1 h2 ok;obtain⟨b,t,e1,e2,rfl⟩:=uv h1;cases ds' with
    |nil=>cases h2
    |cons x' r' =>
     obtain⟨b',t',C1,yH,e⟩:=uv h2;cases e;have o2:fZ b b=true/\cy t t=true:=by simpa[cy]using ok
     rw[Ry st n m x x' b e1 C1 o2.1,ih r' t e2 yH o2.2]
  cases p with
  |int i =>
   have e1:d=.int i:=by
    cases d<;>simp[cP]at h;rw[h];split at h<;>simp at h
   have e2:d'=.int i:=by
    cases d'<;>simp[cP]at h';rw[h'];split at h'<;>simp at h'
   rw[e1,e2]
  |tuple ps =>
   obtain⟨ds,e1,g1⟩:∃ds,d=.tup ds/\bg (cP st n) ds=some ps:=by
    cases d<;>simp[cP]at h;exact⟨_,rfl,h⟩;split at h<;>simp at h
   obtain⟨ds',e2,g2⟩:∃ds',d'=.tup ds'/\bg (cP st m) ds'=some ps:=by
    cases d'<;>simp[cP]at h';exact⟨_,rfl,h'⟩;split at h'<;>simp at h'
   rw[e1,e2,all ds ds' ps g1 g2 ok]
  |none=>cases ok
  |bool _=>cases ok
  |str _=>cases ok
  |list _=>cases ok
  |dict _=>cases ok
def Rz{ps:List PyData}(hok:∀a∈ps,∀b∈ps,fZ a b=true):((nD ps).map λi=>ps.getD i .none).Pairwise λa b=>lT b a=false:=by
 by_cases hn:ps=[];subst hn;rw[List.perm_nil.mp (show(nD []).Perm []from xR [])];exact .nil;have o:=Pn hok hn;have hl:0<ps.length:=ZbG.mpr hn;rw[Zba]
 have key:=Zce (le:=λi j=>!jZ ps (min j (ps.length-1)) (min i (ps.length-1))) (λa b c h1 h2=>by
  have h1:jZ ps (min b (ps.length-1)) (min a (ps.length-1))=false:=by simpa using h1
  have h2:jZ ps (min c (ps.length-1)) (min b (ps.length-1))=false:=by simpa using h2
  have:=o.tr a b c h1 h2
  simpa using this) (λa b=>by
  cases q:jZ ps (min b (ps.length-1)) (min a (ps.length-1))with
  |false=>rfl
  |true=>have:=o.as b a q;simpa using this) (List.range ps.length)
 refine Zbm (λ{a b} ha hb h=>?_) key;have a1:=ZaP.mp ((xR ps).subset ha);have b1:=ZaP.mp ((xR ps).subset hb);rw[show min a (ps.length-1)=a by lk,show min b (ps.length-1)=b by lk]at h;unfold jZ at h;simpa using h
def RA{f:D->Option PyData}:∀{ds:List D} {ps:List PyData},bg f ds=some ps->ds.length=ps.length/\∀i,i<ps.length->f (ds.getD i .non)=some (ps.getD i .none)
 |[],_,h=>by cases h;exact⟨rfl,λi hi=>absurd hi (ZaY _)⟩
 |d :: ds,_,h=>by
  obtain⟨b,t,e1,e2,rfl⟩:=uv h;obtain⟨hl,ha⟩:=RA e2;refine⟨by simp[hl],λi hi=>?_⟩;cases i with
  |zero=>exact e1
  |succ i=>exact ha i (by simpa using hi)
section
variable {K:Zfr}
def RB{ρ:List Addr}{H:Hp}{vs:List V}{ds:List D}(r:cq K ρ H vs ds):∀{is:List Nat} {es:List D},(∀i∈is,i<ds.length)->es=is.map (λi=>ds.getD i .non)->cq K ρ H (is.map λi=>vs.getD i .non) es
 |[],_,_,e=>by subst e;exact .nil
 |i :: is,_,h,e=>by
  subst e;have hi:=h i Zae;obtain⟨v,hv,rv⟩:=r.got (Zab hi);refine .cons ?_ (RB r (λj hj=>h j (Zag _ hj)) rfl);show Rp K ρ H (vs.getD i .non) (ds.getD i .non);rw[Zaf,Zaf,hv,Zab hi];exact rv
def Yf:qA K (ug K) lH:=by
 intro ρ H st xs as b st' Q l rx e q;unfold lH at e;split at e
 ·next r mP =>
  split at e
  ·next ds hd =>
   split at e
   ·next ps hp =>
    split at e
    ·next hok =>
     cases e;obtain⟨v,rfl,r⟩:=rx.one';cases r with
     |ref hi =>
      obtain⟨vs,hs,rr⟩:=l.items hi (c9 (rQ hd));simp only[qu,ZaD,ZbC,decide_eq_true_eq,Za0]at hok;obtain⟨⟨⟨k1,k2⟩,k3⟩,k4⟩:=hok;obtain⟨hl,ha⟩:=RA hp;refine⟨_,vs,ps,rfl,hs,Ik l 20 rr hp,k1,k2,k3,?_,λp is Ee xS Mw=>?_⟩
      ·rcases k4 with k4|k4
       ·exact⟨true,k4⟩
       ·exact⟨false,k4⟩
      ·have hb:∀i∈is,i<ps.length:=λi hi'=>ZaP.mp (xS.subset hi')
       have hb2:∀i∈nD ps,i<ps.length:=λi hi'=>ZaP.mp ((xR ps).subset hi');have eP:(is.map λi=>ps.getD i .none)=(nD ps).map λi=>ps.getD i .none:=by
        refine Mv ((xS.trans (xR ps).symm).map _) Mw (Rz k2) λa ha' b hb' h1 h2=>?_;have mem:∀x,x∈(is.map λi=>ps.getD i .none)->x∈ps:=λx hx=>by
         obtain⟨i,hi',rfl⟩:=Zah.mp hx;rw[Zaf,Zab (hb i hi')];exact ZaM _
        exact Lv a b (k2 a (mem a ha') b (mem b hb')) (k2 b (mem b hb') a (mem a ha')) h2 h1
       have eD:qW ds ps=is.map λi=>ds.getD i .non:=by
        unfold qW;have hlen:is.length=(nD ps).length:=by have:=congrArg List.length eP;simpa using this
        refine List.ext_getElem (by simp[hlen]) λi h1 h2=>?_;rw[ZbK,ZbK];have g1:i<(nD ps).length:=by simpa using h1
        have g2:i<is.length:=by simpa using h2
        have e1:ps.getD is[i] .none=ps.getD (nD ps)[i] .none:=by
         have:=List.getElem_of_eq eP (i:=i) (by simpa using g2)
         simpa using this
        have b1:=hb2 _ (ZaM g1);have b2:=hb _ (ZaM g2);have m1:ps.getD (nD ps)[i] .none∈ps:=by
         rw[Zaf,Zab b1];exact ZaM _
        exact Ry st 20 20 _ _ _ (ha _ b1) (by rw[ha _ b2,e1]) (k2 _ m1 _ m1)
       exact q _ _ _ (Mn.new Ee) (l.newL Ee (RB rr (λi hi'=>by rw[hl];exact hb i hi') eD)) (.ref (newR l))
    ·cases e
   ·cases e
  ·cases e
 ·cases e
end
def Yg{st:Store}{Q:D->Store->Prop}{r:Nat}{ds:List D}{ps:List PyData}(h:own st r=some ds)(hp:bg (cP st 20) ds=some ps)(hok:qu ps=true):Wp (lH [.ref r] st) Q↔Q (.ref st.length) (st ++ [.lst (qW ds ps)]):=by
 have e:lH [.ref r] st=some (.ref st.length,st ++ [.lst (qW ds ps)]):=by simp only[lH,h,hp,hok,if_true]
 rw[e,a8]
section
variable {K:Zfr}
abbrev qX:aj->Dm Fl:=λ_ _=>none
def RC:pB K tw qX:=by intro ρ σ H δ st fl st' E l rs e q;cases e
end
def RD(ns:List Int):∀k,k<ns.length->argBest (jZ (ns.map PyData.int)) k<=k/\∀i,i<=k->ns.getD (argBest (jZ (ns.map PyData.int)) k) 0<=ns.getD i 0
 |0,h=>⟨Zad _,λi hi=>by rw[show i=0 by lk];exact Int.le_refl _⟩
 |k+1,h=>by
  obtain⟨h1,h2⟩:=RD ns k ⋯;have eb:∀j,j<ns.length->jZ (ns.map PyData.int) (k+1) j=decide (ns.getD (k+1) 0<ns.getD j 0):=λj hj=>by
   unfold jZ;rw[Zaf,Zaf,Zal,Zal,Zab h,Zab hj,Zaf,Zaf,Zab h,Zab hj];rfl
  have hb:=eb (argBest (jZ (ns.map PyData.int)) k) ⋯;show(if jZ (ns.map PyData.int) (k+1) (argBest (jZ (ns.map PyData.int)) k)=true then k+1 else argBest (jZ (ns.map PyData.int)) k)<=k+1/\∀i,i<=k+1->ns.getD (if jZ (ns.map PyData.int) (k+1) (argBest (jZ (ns.map PyData.int)) k)=true then k+1 else argBest (jZ (ns.map PyData.int)) k) 0<=ns.getD i 0;rw[hb];by_cases hc:ns.getD (k+1) 0<ns.getD (argBest (jZ (ns.map PyData.int)) k) 0;rw[if_pos (decide_eq_true hc)];refine⟨Zad _,λi hi=>?_⟩;by_cases hik:i<=k
  have:=h2 i hik;lk
  rw[show i=k+1 by lk];exact Int.le_refl _;rw[if_neg (by rw[decide_eq_true_iff];exact hc)];refine⟨by lk,λi hi=>?_⟩;by_cases hik:i<=k;exact h2 i hik;rw[show i=k+1 by lk];lk
def Yh{st:Store}{r:Nat}{ns:List Int}(h:own st r=some (ns.map D.int))(hn:ns≠[]):∃m:Int,m∈ns/\(∀y∈ns,m<=y)/\∀Q:D->Store->Prop,Wp (md [.ref r] st) Q↔Q (.int m) st:=by
 have hl:0<ns.length:=ZbG.mpr hn;obtain⟨h1,h2⟩:=RD ns (ns.length-1) ⋯;have hp:bg (cP st 20) (ns.map D.int)=some (ns.map PyData.int):=sF (f:=cP st 20) (g:=D.int) (k:=PyData.int) (λ_=>rfl) ns;have hlt:argBest (jZ (ns.map PyData.int)) (ns.length-1)<ns.length:=by lk
 have e0:ns.getD (argBest (jZ (ns.map PyData.int)) (ns.length-1)) 0=ns[argBest (jZ (ns.map PyData.int)) (ns.length-1)]:=by rw[Zaf,Zab hlt];rfl
 refine⟨ns.getD (argBest (jZ (ns.map PyData.int)) (ns.length-1)) 0,?_,λy hy=>?_,λQ=>?_⟩;rw[e0];exact ZaM _;obtain⟨i,hi,rfl⟩:=Za8 hy
 have:=h2 i ⋯;rw[Zaf (i:=i),Zab hi]at this;exact this
 refine Rt h hp ?_ ?_;simp only[qr,ZaD,decide_eq_true_eq,Za0,Zaa];refine⟨⟨hl,λa ha b hb=>?_⟩,λa ha=>?_⟩;obtain⟨p,_,rfl⟩:=Zah.mp ha;obtain⟨q,_,rfl⟩:=Zah.mp hb;rfl;obtain⟨p,_,rfl⟩:=Zah.mp ha;exact⟨rfl,by simp[PyData.depth]⟩;unfold n6;rw[Zaa,Zal,Zab hlt,e0];rfl
def RE{δ:aj}{st:Store}{fi:aj->Dm Src}{js:List Nat}{c:aj->Dm Bool}{f:aj->Dm D}{Q:D->Store->Prop}(ds:List D)(q:D->Bool)(h:D->D)(hi:Wp (fi δ st) λS st1=>lu S ds st1/\Ex [] st st1)(hl:ds.length<100000)
  (cond:∀d∈ds,∀st1,Ex [] st st1->Wp (c (some d :: js.map λj=>δ.getD j none) st1) λb st2=>b=q d/\Ex [] st1 st2)
  (step:∀d∈ds,q d=true->∀st1,Ex [] st st1->Wp (f (some d :: js.map λj=>δ.getD j none) st1) λy st2=>y=h d/\Ex [] st1 st2) (fin:∀st',Ex [] st st'->Q (.ref st'.length) (st' ++ [.lst ((ds.filter q).map h)])):Wp (bN fi 1 js (hName 0) c f δ st) Q:=by
 obtain⟨S,st1,e1,hS,k1⟩:=hi;refine BI ds (λi ys δ' eh=>(∃v,δ'=v :: js.map λj=>δ.getD j none)/\ys=((ds.take i).filter q).map h/\Ex [] st1 eh) ⟨S,st1,e1,λi ys δ' eh hi' hp=>hS i eh hi' hp.2.2,⟨none,rfl⟩,rfl,Ex.refl⟩ hl ?_ ?_ ?_;rintro i ys δ' eh ⟨_,rfl,_⟩;rw[Zaa];refine Zap (Zcq _ _) ?_;rw[Za6];lk;rintro i d ys δ' eh hd ⟨⟨v,rfl⟩,rfl,k8⟩;obtain⟨hlt,e⟩:=Zac.mp hd;have hm:=Zak hd;rw[HY];refine aR (cond d hm eh (k1.trans k8)) ?_;rintro b oC ⟨rfl,k9⟩;refine⟨λhq=>aR (step d hm hq oC (k1.trans (k8.trans k9))) ?_,λhq=>⟨⟨some d,rfl⟩,?_,k8.trans k9⟩⟩;rintro y Yi ⟨rfl,Mx⟩;refine⟨⟨some d,rfl⟩,?_,(k8.trans k9).trans Mx⟩;rw[ZaE hlt,List.filter_append,Zaw,e,List.filter_cons_of_pos hq];rfl;rw[ZaE hlt,List.filter_append,Zaw,e,List.filter_cons_of_neg (by rw[hq];decide)];simp;rintro ys δ' eh ⟨_,rfl,k8⟩;rw[Za1];exact fin eh (k1.trans k8)
def Yj{δ:aj}{st:Store}{fi:aj->Dm Src}{js:List Nat}{f:aj->Dm D}{Q:D->Store->Prop}(ps:List (D×D×D))(h:D×D×D->D)(hi:Wp (fi δ st) λS st1=>lu S (ps.map λp=>.tup [p.1,p.2.1,p.2.2]) st1/\Ex [] st st1)(hl:ps.length<100000)
  (step:∀p∈ps,∀st1,Ex [] st st1->Wp (f (some p.1 :: some p.2.1 :: some p.2.2 :: js.map λj=>δ.getD j none) st1) λy st2=>y=h p/\Ex [] st1 st2) (fin:∀st',Ex [] st st'->Q (.ref st'.length) (st' ++ [.lst (ps.map h)])):Wp (bN fi 3 js (oK 3 (dX (hName 0) (dX (hName 1) (dX (hName 2) pA)))) b7 f δ st) Q:=by
 obtain⟨S,st1,e1,hS,k1⟩:=hi;refine BI (ps.map λp=>.tup [p.1,p.2.1,p.2.2]) (λi ys δ' eh=>(∃v w x,δ'=v :: w :: x :: js.map λj=>δ.getD j none)/\ys=(ps.take i).map h/\Ex [] st1 eh) ⟨S,st1,e1,λi ys δ' eh hi' hp=>hS i eh hi' hp.2.2,⟨none,none,none,rfl⟩,rfl,Ex.refl⟩ (by rw[Zaa];exact hl) ?_ ?_ ?_;rintro i ys δ' eh ⟨_,rfl,_⟩;rw[Zaa,Za6];lk;rintro i d ys δ' eh hd ⟨⟨v,w,x,rfl⟩,rfl,k8⟩;rw[Zal]at hd;obtain⟨p,hp,rfl⟩:=ZaB.mp hd;obtain⟨hlt,e⟩:=Zac.mp hp;refine⟨[some p.1,some p.2.1,some p.2.2] ++ js.map λj=>δ.getD j none,eh,rfl,?_⟩;show Wp (b7 _ _) _;rw[Eg];refine⟨λ_=>?_,λh=>absurd h ∅⟩;refine aR (step p (Zak hp) eh (k1.trans k8)) ?_;rintro y oC ⟨rfl,k9⟩;refine⟨⟨_,_,_,rfl⟩,?_,k8.trans k9⟩;rw[ZaE hlt,Zaw,e];rfl;rintro ys δ' eh ⟨_,rfl,k8⟩;rw[Zaa,Za1];exact fin eh (k1.trans k8)
def Mz{ds:List D}{d:D}(h:ds[ds.length-1]?=some d):gH ds (-1)=some d:=by have hl:=(Zac.mp h).1;unfold gH mH;rw[if_neg ∅,if_pos ⋯,Zbo,show((-1:Int)+(ds.length:Int)).toNat=ds.length-1 by lk];exact h
section
variable {K:Zfr}
abbrev pI:D->D->Dm D:=vR (λi j=>decide (j≠0/\j.natAbs.log2<9000)) λi j=>.int (i.fdiv j)
def Yk:ng K (rI xq λi j=>.int (i.fdiv j)) pI:=Bx (λi j h=>of_decide_eq_true (p:=j≠0/\j.natAbs.log2<9000) h) λ_ _ _ _=>.int _
end
section
variable {st:Store}{Q:D->Store->Prop}
def Yl{i j:Int}:Wp (pI (.int i) (.int j) st) Q↔(j≠0/\j.natAbs.log2<9000)/\Q (.int (i.fdiv j)) st:=by unfold pI;rw[BF,decide_eq_true_eq]
end
abbrev dc(i j:Int):Bool:=(decide (-18446744073709551616<i/\i<18446744073709551616) || decide (-18446744073709551616<j/\j<18446744073709551616)) || (decide (Builtin.Int.intBits i<=60000000) && decide (Builtin.Int.intBits j<=60000000))
abbrev eT:D->D->Dm D:=vR dc λi j=>.int (i*j)
section
variable {K:Zfr}
def sa:ng K (rI rE λi j=>.int (i*j)) eT:=Bx (λi j h=>by
 unfold dc at h;rw[ZbC,ZbC,ZaD,decide_eq_true_eq,decide_eq_true_eq,decide_eq_true_eq,decide_eq_true_eq]at h
 exact h) λ_ _ _ _=>.int _
end
section
variable {st:Store}{Q:D->Store->Prop}
def MA{i j:Int}:Wp (eT (.int i) (.int j) st) Q↔dc i j=true/\Q (.int (i*j)) st:=by unfold eT;rw[BF]
def Ym{i j:Int}(h:i.natAbs<18446744073709551616):dc i j=true:=by unfold dc;rw[decide_eq_true (show -18446744073709551616<i/\i<18446744073709551616 by lk)];rfl
def MB{i j:Int}{k:Nat}(hk:k<=60000000)(h:i.natAbs<P2 k)(h2:j.natAbs<P2 k):dc i j=true:=by replace h:=xr h hk;replace h2:=xr h2 hk;unfold dc;rw[decide_eq_true h,decide_eq_true h2];simp
end
end L4
namespace My
local macro_rules|`(tactic| w_up)=>`(tactic| first|exact .inl rfl|exact .inr rfl|assumption)
local macro_rules|`(tactic| w_fin)=>`(tactic| decide +kernel)
local macro_rules|`(tactic|walk)=>`(tactic|exact ⟨rfl,rfl,rfl,by w_fin,rfl,by w_fin,by w_fin⟩)
local macro_rules|`(tactic| k_lt $h)=>`(tactic| (refine L4.bM ?_;intro _ $h;set_option simprocs false in simp only[L4.bA]))
local macro_rules|`(tactic|exists $l,*)=>`(tactic|set_option simprocs false in simp only[L4.bA,$[$l:term],*])
local macro_rules|`(tactic| w_how)=>`(tactic| set_option simprocs false in simp only[L4.bA])
open PySem L2 L4
local macro_rules|`($a<|$b)=>`(@TH _ _ _ _ _ $a $b (by rfl))
local macro_rules|`($a<|>$b)=>`(@Tq _ _ _ _ _ $a $b)
local macro_rules|`($a<*$b<*$c)=>`(@CH _ _ _ _ _ _ _ $a $b $c (λ_ _=>rfl))
local macro_rules|`(~~~$a)=>`(@Tr _ _ _ $a)
local macro_rules|`($a<*>$b<*>$c)=>`(@Ce _ _ _ _ _ _ _ _ $a $b $c)
local macro_rules|`($a&&&$b&&&$c)=>`(@yo _ _ _ _ _ _ _ _ PassesOwn.never rfl $a $b $c (by intro _;rfl))
local macro_rules|`($a>>=$b>>=$c)=>`(@yn (i:=$a) _ _ _ _ _ _ (aw.nd $b) rfl (by w_up) $c (by rfl) (by w_up))
def Yn:∀δ st as st',ah δ st=some (as,st')->as.length=0:=λ_ _ _ _ h=>WC h
def iK{f1:aj->Dm D}:∀δ st as st',af f1 ah δ st=some (as,st')->as.length=1:=LZ Yn
def dD{f1 f2:aj->Dm D}:∀δ st as st',af f2 (af f1 ah) δ st=some (as,st')->as.length=2:=LZ iK
def RF{f1 f2 f3:aj->Dm D}:∀δ st as st',af f3 (af f2 (af f1 ah)) δ st=some (as,st')->as.length=3:=LZ dD
def bH{X:Cx}{k k':Nat}{f:Addr}{fd:FuncData}{ps:List Str}{sp:Sp}{x:Str}{st:Stmt}{e:Expr}{es:List Expr}{t:TA}{p pos:Pos}(F:aD X.prog X.w X.K X.mg X.base a7 k f fd ps sp)(D:Def X.K X.mg x st ps f fd)(hr:iN k' X.A)(hk:k<=k')(hg:Gl X x)(ha:PA X (e :: es) t)(hdb:(x == ("__debug__" : Str))=false:=by decide)(he:starEach (e :: es) X.env=(false,eval e X.env) :: starEach es X.env:=by rfl)(hpl:(backTo pos (starEach es X.env)).any (·.1)=false:=by rfl):PE X (.Call (.Name x p) (e :: es) [] pos) (tM sp [] E0 t):=TJ F (hr.mono hk) hg D.m D.F.kp D.b .nil CS ha hdb he hpl
def oE{fd:FuncData}{p0:Str}(k:∀x0,bindArgs fd ⟨[x0],[]⟩=pure [(p0,x0)])(us:List Value)(h:us.length=1):bindArgs fd ⟨us,[]⟩=pure ([p0].zip us):=match us,h with|[x0],_=>k x0
def lV{fd:FuncData}{p0 p1:Str}(k:∀x0 x1,bindArgs fd ⟨[x0,x1],[]⟩=pure [(p0,x0),(p1,x1)])(us:List Value)(h:us.length=2):bindArgs fd ⟨us,[]⟩=pure ([p0,p1].zip us):=match us,h with|[x0,x1],_=>k x0 x1
def RG{fd:FuncData}{p0 p1 p2:Str}(k:∀x0 x1 x2,bindArgs fd ⟨[x0,x1,x2],[]⟩=pure [(p0,x0),(p1,x1),(p2,x2)])(us:List Value)(h:us.length=3):bindArgs fd ⟨us,[]⟩=pure ([p0,p1,p2].zip us):=match us,h with|[x0,x1,x2],_=>k x0 x1 x2
abbrev top(i:Nat):Stmt:=PySem.Challenge.pw_shearfloor_k64_whole_lines_and_led_rows.main.body.getD i (.Pass ⟨0,0,0,0⟩)
structure Txt(mg:Str->Option Value):Prop where
 xT:mg "abs" = none
 xU:mg "all" = none
 nA:mg "enumerate" = none
 cb:mg "len" = none
 dZ:mg "list" = none
 uF:mg "max" = none
 uG:mg "min" = none
 bh:mg "range" = none
 qY:mg "reversed" = none
 iU:mg "sorted" = none
 bB:mg "tuple" = none
section
variable {P:Program}{w:World}{K:Zfr}{mg:Str->Option Value}{base:Heap}{f:Addr}{fd:FuncData}
abbrev Ip:aj->Dm Fl :=
 (aA (aF (aB dU (aB jX (fC (.int 7901)) (ag 1)) (fC (.int 24697))) (hName 2))
 (aA (jW (aL (aB vS (ag 1) (aG cR (af (ag 0) ah)))) (aF (aB iz (ag 0) (ag 1)) (hName 2)) (jW (aL (aB DN (aG cR (af (ag 0) ah)) (fC (.int 0)))) (aF (aB dU (aB jX (aB l8 (aB iz (ag 0) (aB l8 (ag 1) (aG cR (af (ag 0) ah)))) (fC (.int 2147483629))) (fC (.int 31))) (aB jX (fC (.int 7901)) (ag 1))) (hName 2)) bR))
 (aA (aF (fC (.int 0)) (hName 3))
 (aA (jW (aL (aB L3 (ag 2) (aB uq (fC (.int 10)) (fC (.int 18))))) (aF (ag 2) (hName 3)) bR)
 (aV (dB (af (ag 3) (af (aB dU (aB l8 (aB uq (aB dU (aB jX (aB l8 (ag 2) (fC (.int 2147483629))) (fC (.int 48271))) (aB jX (fC (.int 40692)) (ag 1))) (fC (.int 5))) (fC (.int 2147483629))) (fC (.int 1))) ah))))))))
abbrev Ew:List D->Dm D:=dW 4 Ip
abbrev Ey:Stmt:=top 60
def BL:aw ["_law_script","_law_k","_law_cell","_law_own"] ["_law_script","_law_k"] (au Ey):=by walk
def Yo(D:Def K mg "_law_feed" Ey ["_law_script","_law_k"] f fd)(T:Txt mg):aD P w K mg base a7 1 f fd ["_law_script","_law_k"] (a9 K 2 Ew):=by
 refine D.F.ok BL (λ_ _ _ _ h=>h.1) (λc A o s H v Q E hr h=>?_);refine⟨_,((2>>=BL>>=bI mZ (bI qF aJ (pv 1)) aJ)<|>(gb yq (pv 1) (iq nI (by rfl) T.cb mM (pv 0<|ax)) (aN _)<*>(~~~(2>>=BL>>=(pT<*pv 0<*pv 1)))<*>(~~~(gb Kt (iq nI (by rfl) T.cb mM (pv 0<|ax)) aJ (aN _)<*>(~~~(2>>=BL>>=bI mZ (bI qF (bI tK (pT<*pv 0<*bI tK (pv 1) (iq nI (by rfl) T.cb mM (pv 0<|ax))) aJ) aJ) (bI qF aJ (pv 1))))<*>mG)))<|>(3>>=BL>>=aJ)<|>(gb Cy (pv 2) (bI NN aJ aJ) (aN _)<*>(~~~(3>>=BL>>=pv 2))<*>mG)<|>(~~~(@cU _ _ _ _ (@m9 _ _ _ _ (pv 3<|bI mZ (bI tK (bI NN (bI mZ (bI qF (bI tK (pv 2) aJ) aJ) (bI qF aJ (pv 1))) aJ) aJ) aJ<|ax))))),?_⟩
 exact d9 (b:=Ip) (aY (bw (aC nt (aC qS (aK _) (ai 1)) (aK _)) (aU 2))
  (aY (lE (f6 (aC zk (ai 1) (b6 nu (ao (ai 0) ay)))) (bw (aC p4 (ai 0) (ai 1)) (aU 2)) (lE (f6 (aC L5 (b6 nu (ao (ai 0) ay)) (aK _))) (bw (aC nt (aC qS (aC ur (aC p4 (ai 0) (aC ur (ai 1) (b6 nu (ao (ai 0) ay)))) (aK _)) (aK _)) (aC qS (aK _) (ai 1))) (aU 2)) mI))
  (aY (bw (aK _) (aU 3))
  (aY (lE (f6 (aC DR (ai 2) (aC QC (aK _) (aK _)))) (bw (ai 2) (aU 3)) mI)
  (cV (nh (ao (ai 3) (ao (aC nt (aC ur (aC QC (aC nt (aC qS (aC ur (ai 2) (aK _)) (aK _)) (aC qS (aK _) (ai 1))) (aK _)) (aK _)) (aK _)) ay)))))))) rfl h
variable {jb:Addr}{jc:FuncData}(gj:Def K mg "_law_feed" Ey ["_law_script","_law_k"] jb jc)(jd:aD P w K mg base a7 1 jb jc ["_law_script","_law_k"] (a9 K 2 Ew))
abbrev Iq:aj->Dm Fl :=
 (aA (jW (aL (aB DN (aB iz (ag 0) (fC (.int 0))) (fC (.int 0)))) (aA (aF (aB l8 (aB iz (ag 0) (fC (.int 0))) (ag 1)) (hName 2))
 (aA (aF (aB ni (aB iz (ag 0) (fC (.int 0))) (ag 1)) (hSub (ag 0) (fC (.int 0))))
 (aV (ag 2)))) bR)
 (aA (aF (aB l8 (aB jX (aB iz (ag 0) (fC (.int 1))) (fC (.int 48271))) (fC (.int 2147483647))) (hName 3))
 (aA (aF (aB dU (aB l8 (aB dU (aB jX (ag 3) (fC (.int 40692))) (fC (.int 30103))) (fC (.int 2147483399))) (fC (.int 1))) (hSub (ag 0) (fC (.int 1))))
 (aV (aB l8 (aB ni (aB dU (aB jX (ag 3) (fC (.int 2147483647))) (aB iz (ag 0) (fC (.int 1)))) (fC (.int 8191))) (ag 1))))))
abbrev oN:List D->Dm D:=dW 4 Iq
abbrev Ez:Stmt:=top 61
def MC:aw ["_law_feed_here","_law_many","_law_digit","_law_one"] ["_law_feed_here","_law_many"] (au Ez):=by walk
def Yp(D:Def K mg "_law_take" Ez ["_law_feed_here","_law_many"] f fd)(T:Txt mg):aD P w K mg base a7 1 f fd ["_law_feed_here","_law_many"] (a9 K 2 oN):=by
 refine D.F.ok MC (λ_ _ _ _ h=>h.1) (λc A o s H v Q E hr h=>?_);refine⟨_,((gb Kt (pT<*pv 0<*aJ) aJ (aN _)<*>((2>>=MC>>=bI tK (pT<*pv 0<*aJ) (pv 1))<|>Ck (bI Cv (pT<*pv 0<*aJ) (pv 1)) (A8 (pv 0) aJ Bc)<|>(~~~(@cU _ _ _ _ (pv 2))))<*>mG)<|>(3>>=MC>>=bI tK (bI qF (pT<*pv 0<*aJ) aJ) aJ)<|>Ck (bI mZ (bI tK (bI mZ (bI qF (pv 3) aJ) aJ) aJ) aJ) (A8 (pv 0) aJ Bc)<|>(~~~(@cU _ _ _ _ (bI tK (bI Cv (bI mZ (bI qF (pv 3) aJ) (pT<*pv 0<*aJ)) aJ) (pv 1))))),?_⟩
 exact d9 (b:=Iq) (aY (lE (f6 (aC L5 (aC p4 (ai 0) (aK _)) (aK _))) (aY (bw (aC ur (aC p4 (ai 0) (aK _)) (ai 1)) (aU 2))
  (aY (bw (aC DP (aC p4 (ai 0) (aK _)) (ai 1)) (BE (ai 0) (aK _)))
  (cV (ai 2)))) mI)
  (aY (bw (aC ur (aC qS (aC p4 (ai 0) (aK _)) (aK _)) (aK _)) (aU 3))
  (aY (bw (aC nt (aC ur (aC nt (aC qS (ai 3) (aK _)) (aK _)) (aK _)) (aK _)) (BE (ai 0) (aK _)))
  (cV (aC ur (aC DP (aC nt (aC qS (ai 3) (aK _)) (aC p4 (ai 0) (aK _))) (aK _)) (ai 1)))))) rfl h
variable {je:Addr}{jf:FuncData}(aO:Def K mg "_law_take" Ez ["_law_feed_here","_law_many"] je jf)(aP:aD P w K mg base a7 1 je jf ["_law_feed_here","_law_many"] (a9 K 2 oN))
abbrev Ir:aj->Dm Fl :=
 (aA (qm 0 1 (af (aG oi (af (ag 0) (af (aB oH (fC (.int 0)) (ag 0)) ah))) (af (aG oi (af (ag 1) (af (aB oH (fC (.int 0)) (ag 1)) ah))) ah)))
 (aA (gi (aL (aB (lU true) (ag 1) (fC (.int 0)))) (qm 0 1 (af (ag 1) (af (aB l8 (ag 0) (ag 1)) ah))))
 (aV (ag 0))))
abbrev EA:List D->Dm D:=dW 2 Ir
abbrev EB:Stmt:=top 68
def MD:aw ["_law_a","_law_c"] ["_law_a","_law_c"] (au EB):=by walk
def Yq(D:Def K mg "_law_common" EB ["_law_a","_law_c"] f fd)(T:Txt mg):aD P w K mg base a7 1 f fd ["_law_a","_law_c"] (a9 K 2 EA):=by
 refine D.F.ok MD (λ_ _ _ _ h=>h.1) (λc A o s H v Q E hr h=>?_);refine⟨_,((Cn (i:=0) (j:=1) rfl MD.nd rfl rfl ∅ rfl rfl (iq (Kv rfl) (by rfl) T.uF K0 (pv 0<|bI Cu aJ (pv 0)<|ax)<|iq (Kv rfl) (by rfl) T.uF K0 (pv 1<|bI Cu aJ (pv 1)<|ax)<|ax) rfl)<|>vd PassesOwn.never (gb Bb (pv 1) aJ (aN _)) (~~~(Cn (i:=0) (j:=1) rfl MD.nd rfl rfl ∅ rfl rfl (pv 1<|bI tK (pv 0) (pv 1)<|ax) rfl))<|>(~~~(@cU _ _ _ _ (pv 0)))),?_⟩
 exact d9 (b:=Ir) (aY (DY (ao (b6 L6 (ao (ai 0) (ao (aC DO (aK _) (ai 0)) ay))) (ao (b6 L6 (ao (ai 1) (ao (aC DO (aK _) (ai 1)) ay))) ay)))
  (aY (vX (f6 (aC Bz (ai 1) (aK _))) (DY (ao (ai 1) (ao (aC ur (ai 0) (ai 1)) ay))))
  (cV (ai 0)))) rfl h
variable {fF:Addr}{fG:FuncData}(dE:Def K mg "_law_common" EB ["_law_a","_law_c"] fF fG)(fH:aD P w K mg base a7 1 fF fG ["_law_a","_law_c"] (a9 K 2 EA))
abbrev Iu:aj->Dm Fl :=
 (aA (aF (aG oN (af (ag 0) (af (fC (.int 8)) ah))) (hName 2))
 (aA (jW (aL (aB (lU false) (ag 2) (fC (.int 0)))) (aV (b8 (af (fC (.int 1)) (af (fC (.int 0)) ah)))) bR)
 (aA (aF (aB dU (fC (.int 1)) (aG oN (af (ag 0) (af (ag 1) ah)))) (hName 3))
 (aA (aF (aG oN (af (ag 0) (af (aB dU (aB oH (ag 1) (ag 3)) (fC (.int 1))) ah))) (hName 4))
 (aA (aF (aG EA (af (ag 4) (af (ag 3) ah))) (hName 5))
 (aV (b8 (af (aB ni (aB jX (aB iz (dB (af (fC (.int 1)) (af (pj iT (fC (.int 1))) ah))) (aG oN (af (ag 0) (af (fC (.int 2)) ah)))) (ag 4)) (ag 5)) (af (aB ni (ag 3) (ag 5)) ah)))))))))
abbrev EC:List D->Dm D:=dW 6 Iu
abbrev ED:Stmt:=top 69
def EE:aw ["_law_feed_here","_law_most","_law_form","_law_c","_law_wide","_law_common_here"] ["_law_feed_here","_law_most"] (au ED):=by walk
include aO aP dE fH in
def Yr(D:Def K mg "_law_slope" ED ["_law_feed_here","_law_most"] f fd)(T:Txt mg):aD P w K mg base a7 2 f fd ["_law_feed_here","_law_most"] (a9 K 2 EC):=by
 refine D.F.ok EE (λ_ _ _ _ h=>h.1) (λc A o s H v Q E hr h=>?_);refine⟨_,((2>>=EE>>=bH aP aO hr ∅ rfl (pv 0<|aJ<|ax))<|>(gb pS (pv 2) aJ (aN _)<*>(~~~(@cU _ _ _ _ (@jY _ _ _ _ _ (aJ<|aJ<|ax))))<*>mG)<|>(3>>=EE>>=bI mZ aJ (bH aP aO hr ∅ rfl (pv 0<|pv 1<|ax)))<|>(4>>=EE>>=bH aP aO hr ∅ rfl (pv 0<|bI mZ (bI Cu (pv 1) (pv 3)) aJ<|ax))<|>(5>>=EE>>=bH fH dE hr ∅ rfl (pv 4<|pv 3<|ax))<|>(~~~(@cU _ _ _ _ (@jY _ _ _ _ _ (bI Cv (bI qF (pT<*(@m9 _ _ _ _ (aJ<|qa qb aJ<|ax))<*bH aP aO hr ∅ rfl (pv 0<|aJ<|ax)) (pv 4)) (pv 5)<|bI Cv (pv 3) (pv 5)<|ax))))),?_⟩
 exact d9 (b:=Iu) (aY (bw (bG (F:=oN) (ao (ai 0) (ao (aK _) ay)) dD) (aU 2))
  (aY (lE (f6 (aC pZ (ai 2) (aK _))) (cV (j3 (ao (aK _) (ao (aK _) ay)))) mI)
  (aY (bw (aC nt (aK _) (bG (F:=oN) (ao (ai 0) (ao (ai 1) ay)) dD)) (aU 3))
  (aY (bw (bG (F:=oN) (ao (ai 0) (ao (aC nt (aC DO (ai 1) (ai 3)) (aK _)) ay)) dD) (aU 4))
  (aY (bw (bG (F:=EA) (ao (ai 4) (ao (ai 3) ay)) dD) (aU 5))
  (cV (j3 (ao (aC DP (aC qS (aC p4 (nh (ao (aK _) (ao (qj qk (aK _)) ay))) (bG (F:=oN) (ao (ai 0) (ao (aK _) ay)) dD)) (ai 4)) (ai 5)) (ao (aC DP (ai 3) (ai 5)) ay))))))))) rfl h
variable {gN:Addr}{gO:FuncData}(eV:Def K mg "_law_slope" ED ["_law_feed_here","_law_most"] gN gO)(gP:aD P w K mg base a7 2 gN gO ["_law_feed_here","_law_most"] (a9 K 2 EC))
abbrev Iv:aj->Dm Fl :=
 (aA (qm 1 2 (af (dB ah) (af (dB ah) ah)))
 (aA (fm (cS (af (aG cR (af (ag 0) ah)) ah)) (hName 3) (jW (aL (aB (sW true) (ag 3) (ag 2))) (aA (aF (dB (af (ag 3) ah)) (hName 4))
 (aA (gi (aL (aB (lU true) (aB aE (ag 0) (aB iz (ag 4) (pj iT (fC (.int 1))))) (ag 3))) (fz (pq "list" cC (ag 4) (af (aB aE (ag 0) (aB iz (ag 4) (pj iT (fC (.int 1))))) ah))))
 (aA (fz (pq "list" i9 (ag 2) (af (ag 4) ah)))
 (fz (pq "list" cC (ag 1) (af (aG bC (af (ag 4) ah)) ah)))))) bR))
 (aV (aG bC (af (ag 1) ah)))))
abbrev xV:List D->Dm D:=dW 5 Iv
abbrev EF:Stmt:=top 67
def Iw:aw ["_law_turning_here","_law_found","_law_met_here","_law_k","_law_ring"] ["_law_turning_here"] (au EF):=by walk
def Ys(D:Def K mg "_law_rings" EF ["_law_turning_here"] f fd)(T:Txt mg):aD P w K mg base a7 1 f fd ["_law_turning_here"] (a9 K 1 xV):=by
 refine D.F.ok Iw (λ_ _ _ _ h=>h.1) (λc A o s H v Q E hr h=>?_);refine⟨_,((Cn (i:=1) (j:=2) rfl Iw.nd rfl rfl ∅ rfl rfl ((@m9 _ _ _ _ ax)<|(@m9 _ _ _ _ ax)<|ax) rfl)<|>(tH rfl T.bh (iq nI (by rfl) T.cb mM (pv 0<|ax)<|ax)&&&(gJ (i:=3) Iw.nd rfl (by w_up))&&&(~~~(gb G4 (pv 3) (pv 2) (by with_unfolding_all rfl)<*>((4>>=Iw>>=(@m9 _ _ _ _ (pv 3<|ax)))<|>vd PassesOwn.never (gb Bb (bT<*pv 0<*(pT<*pv 4<*qa qb aJ)) (pv 3) (aN _)) (~~~su (qx PySem.F.plainAttrs_list PySem.F.slot_list_append PySem.F.type_list_append tN (pv 4) ((bT<*pv 0<*(pT<*pv 4<*qa qb aJ))<|ax)))<|>su (qx PySem.F.plainAttrs_list PySem.F.slot_list_extend PySem.F.type_list_extend Og (pv 2) (pv 4<|ax))<|>(~~~su (qx PySem.F.plainAttrs_list PySem.F.slot_list_append PySem.F.type_list_append tN (pv 1) (iu o5 (by rfl) T.bB oQ (pv 4<|ax)<|ax))))<*>mG)))<|>(~~~(@cU _ _ _ _ (iu o5 (by rfl) T.bB oQ (pv 1<|ax))))),?_⟩
 exact d9 (b:=Iv) (aY (DY (ao (nh ay) (ao (nh ay) ay)))
  (aY (oS (uy (ao (b6 nu (ao (ai 0) ay)) ay)) (aU 3) (lE (f6 (aC (DV true) (ai 3) (ai 2))) (aY (bw (nh (ao (ai 3) ay)) (aU 4))
  (aY (vX (f6 (aC Bz (aC bJ (ai 0) (aC p4 (ai 4) (qj qk (aK _)))) (ai 3))) (sJ (qB uw (ai 4) (ao (aC bJ (ai 0) (aC p4 (ai 4) (qj qk (aK _)))) ay))))
  (aY (sJ (qB QM (ai 2) (ao (ai 4) ay)))
  (sJ (qB uw (ai 1) (ao (b6 pk (ao (ai 4) ay)) ay)))))) mI))
  (cV (b6 pk (ao (ai 1) ay))))) rfl h
variable {gQ:Addr}{gR:FuncData}(dj:Def K mg "_law_rings" EF ["_law_turning_here"] gQ gR)(eW:aD P w K mg base a7 1 gQ gR ["_law_turning_here"] (a9 K 1 xV))
abbrev Iy:aj->Dm Fl :=
 (aA (aF (aB sG (dB (af (fC (.int 0)) ah)) (aG cR (af (ag 0) ah))) (hName 1))
 (aA (fm (oj (af (ag 0) ah)) (oK 2 (dX (hName 2) (dX (hName 3) pA))) (aF (ag 2) (hSub (ag 1) (ag 3))))
 (aV (aG bC (af (ag 1) ah)))))
abbrev qv:List D->Dm D:=dW 4 Iy
abbrev EG:Stmt:=top 2
def Iz:aw ["turning","back","number","led"] ["turning"] (au EG):=by walk
def Yt(D:Def K mg "turned_back" EG ["turning"] f fd)(T:Txt mg):aD P w K mg base a7 1 f fd ["turning"] (a9 K 1 qv):=by
 refine D.F.ok Iz (λ_ _ _ _ h=>h.1) (λc A o s H v Q E hr h=>?_);refine⟨_,((1>>=Iz>>=bI KN (@m9 _ _ _ _ (aJ<|ax)) (iq nI (by rfl) T.cb mM (pv 0<|ax)))<|>(OO rfl T.nA (pv 0<|ax)&&&Cj (n:=2) rfl (sv (gJ (i:=2) Iz.nd rfl (by w_up)) (sv (gJ (i:=3) Iz.nd rfl (by w_up)) A7))&&&(~~~Ck (pv 2) (A8 (pv 1) (pv 3) Bc)))<|>(~~~(@cU _ _ _ _ (iu o5 (by rfl) T.bB oQ (pv 1<|ax))))),?_⟩
 exact d9 (b:=Iy) (aY (bw (aC L8 (nh (ao (aK _) ay)) (b6 nu (ao (ai 0) ay))) (aU 1))
  (aY (oS (QO (ao (ai 0) ay)) (BD (sI (aU 2) (sI (aU 3) BB))) (bw (ai 2) (BE (ai 1) (ai 3))))
  (cV (b6 pk (ao (ai 1) ay))))) rfl h
variable {fI:Addr}{fJ:FuncData}(aI:Def K mg "turned_back" EG ["turning"] fI fJ)(aM:aD P w K mg base a7 1 fI fJ ["turning"] (a9 K 1 qv))
abbrev IA:aj->Dm Fl :=
 (aV (aG bC (af (bN (cD (ag 0)) 1 [1] (hName 0) b7 (aB aE (ag 1) (ag 0))) ah)))
abbrev oO:List D->Dm D:=dW 2 IA
abbrev EH:Stmt:=top 1
def Yu:aw ["one","other"] ["one","other"] (au EH):=by walk
def Yv(D:Def K mg "followed" EH ["one","other"] f fd)(T:Txt mg):aD P w K mg base a7 1 f fd ["one","other"] (a9 K 2 oO):=by refine D.F.ok Yu (λ_ _ _ _ h=>h.1) (λc A o s H v Q E hr h=>?_);refine⟨_,(~~~(@cU _ _ _ _ (iu o5 (by rfl) T.bB oQ (rC (own:=["number"]) (fr:=["other"]) (js:=[1]) rfl ⟨⟨rfl,by w_fin,by w_fin,by dsimp only[fB,aQ,Cx.oA,Cx.wish,PyProof.Rows.envOfC,compEnvC,relabel,Env.kindOf];decide +kernel,by w_fin⟩,rfl⟩ (o4 (pv 0)) (λ_ _ _ _ _=>(gJ (i:=0) (show((["number"]:List Str) ++ (["other"]:List Str)).Nodup by w_fin) rfl (by w_up))) (λ_ _ _ _ _=>rA) (λ_ _ _ _ _=>(vq (K:=K) rfl<*pv 1<*pv 0))<|ax)))),?_⟩;exact d9 (b:=IA) (cV (b6 pk (ao (p5 (pC (ai 0)) (aU 0) rT (aC bJ (ai 1) (ai 0))) ay))) rfl h
variable {kG:Addr}{kH:FuncData}(aX:Def K mg "followed" EH ["one","other"] kG kH)(aZ:aD P w K mg base a7 1 kG kH ["one","other"] (a9 K 2 oO))
abbrev IB:aj->Dm Fl :=
 (aA (aF (aG qv (af (ag 1) ah)) (hName 2))
 (aA (aF (aG oO (af (aG oO (af (ag 2) (af (aB aE (ag 0) (fC (.int 0))) ah))) (af (ag 1) ah))) (hName 3))
 (aA (aF (aG oO (af (aG oO (af (ag 2) (af (aB aE (ag 0) (fC (.int 1))) ah))) (af (ag 1) ah))) (hName 4))
 (aV (b8 (af (ag 3) (af (ag 4) ah)))))))
abbrev EI:List D->Dm D:=dW 5 IB
abbrev EJ:Stmt:=top 41
def IC:aw ["floor","p","back","right","up"] ["floor","p"] (au EJ):=by walk
include aI aM aX aZ in
def Yw(D:Def K mg "called_anew" EJ ["floor","p"] f fd)(T:Txt mg):aD P w K mg base a7 2 f fd ["floor","p"] (a9 K 2 EI):=by
 refine D.F.ok IC (λ_ _ _ _ h=>h.1) (λc A o s H v Q E hr h=>?_);refine⟨_,((2>>=IC>>=bH aM aI hr ∅ rfl (pv 1<|ax))<|>(3>>=IC>>=bH aZ aX hr ∅ rfl (bH aZ aX hr ∅ rfl (pv 2<|(bT<*pv 0<*aJ)<|ax)<|pv 1<|ax))<|>(4>>=IC>>=bH aZ aX hr ∅ rfl (bH aZ aX hr ∅ rfl (pv 2<|(bT<*pv 0<*aJ)<|ax)<|pv 1<|ax))<|>(~~~(@cU _ _ _ _ (@jY _ _ _ _ _ (pv 3<|pv 4<|ax))))),?_⟩
 exact d9 (b:=IB) (aY (bw (bG (F:=qv) (ao (ai 1) ay) iK) (aU 2))
  (aY (bw (bG (F:=oO) (ao (bG (F:=oO) (ao (ai 2) (ao (aC bJ (ai 0) (aK _)) ay)) dD) (ao (ai 1) ay)) dD) (aU 3))
  (aY (bw (bG (F:=oO) (ao (bG (F:=oO) (ao (ai 2) (ao (aC bJ (ai 0) (aK _)) ay)) dD) (ao (ai 1) ay)) dD) (aU 4))
  (cV (j3 (ao (ai 3) (ao (ai 4) ay))))))) rfl h
variable {fK:Addr}{fL:FuncData}(dF:Def K mg "called_anew" EJ ["floor","p"] fK fL)(fM:aD P w K mg base a7 2 fK fL ["floor","p"] (a9 K 2 EI))
abbrev IE:aj->Dm Fl :=
 (aA (aF (dB (af (ag 1) ah)) (hName 2))
 (aA (aF (fC (.int 0)) (hName 3))
 (aA (gi (aL (aB vS (ag 3) (aG cR (af (ag 2) ah)))) (aA (fm (cD (ag 0)) (hName 4) (aA (aF (aB aE (ag 4) (aB iz (ag 2) (ag 3))) (hName 5))
 (jW (aL (aB (sW true) (ag 5) (ag 2))) (fz (pq "list" cC (ag 2) (af (ag 5) ah))) bR)))
 (aF (aB dU (ag 3) (fC (.int 1))) (hName 3))))
 (aV (aG bC (af (ag 2) ah))))))
abbrev EK:List D->Dm D:=dW 6 IE
abbrev EL:Stmt:=top 39
def BM:aw ["floor","s","squares","place","turning","reached"] ["floor","s"] (au EL):=by walk
def Yx(D:Def K mg "squares_from" EL ["floor","s"] f fd)(T:Txt mg):aD P w K mg base a7 1 f fd ["floor","s"] (a9 K 2 EK):=by
 refine D.F.ok BM (λ_ _ _ _ h=>h.1) (λc A o s H v Q E hr h=>?_);refine⟨_,((2>>=BM>>=(@m9 _ _ _ _ (pv 1<|ax)))<|>(3>>=BM>>=aJ)<|>vd PassesOwn.never (gb yq (pv 3) (iq nI (by rfl) T.cb mM (pv 2<|ax)) (aN _)) ((o4 (pv 0)&&&(gJ (i:=4) BM.nd rfl (by w_up))&&&((5>>=BM>>=(bT<*pv 4<*(pT<*pv 2<*pv 3)))<|>(~~~(gb G4 (pv 5) (pv 2) (by with_unfolding_all rfl)<*>(~~~su (qx PySem.F.plainAttrs_list PySem.F.slot_list_append PySem.F.type_list_append tN (pv 2) (pv 5<|ax)))<*>mG))))<|>(~~~(3>>=BM>>=bI mZ (pv 3) aJ)))<|>(~~~(@cU _ _ _ _ (iu o5 (by rfl) T.bB oQ (pv 2<|ax))))),?_⟩
 exact d9 (b:=IE) (aY (bw (nh (ao (ai 1) ay)) (aU 2))
  (aY (bw (aK _) (aU 3))
  (aY (vX (f6 (aC zk (ai 3) (b6 nu (ao (ai 2) ay)))) (aY (oS (pC (ai 0)) (aU 4) (aY (bw (aC bJ (ai 4) (aC p4 (ai 2) (ai 3))) (aU 5))
  (lE (f6 (aC (DV true) (ai 5) (ai 2))) (sJ (qB uw (ai 2) (ao (ai 5) ay))) mI)))
  (bw (aC nt (ai 3) (aK _)) (aU 3))))
  (cV (b6 pk (ao (ai 2) ay)))))) rfl h
variable {eA:Addr}{eC:FuncData}(cY:Def K mg "squares_from" EL ["floor","s"] eA eC)(eE:aD P w K mg base a7 1 eA eC ["floor","s"] (a9 K 2 EK))
abbrev IF:aj->Dm Fl :=
 (aV (aG qv (af (aG EK (af (ag 0) (af (ag 1) ah))) ah)))
abbrev EM:List D->Dm D:=dW 2 IF
abbrev EN:Stmt:=top 42
def Yy:aw ["floor","s"] ["floor","s"] (au EN):=by walk
include aI aM cY eE in
def Yz(D:Def K mg "numbering_from" EN ["floor","s"] f fd)(T:Txt mg):aD P w K mg base a7 2 f fd ["floor","s"] (a9 K 2 EM):=by refine D.F.ok Yy (λ_ _ _ _ h=>h.1) (λc A o s H v Q E hr h=>?_);refine⟨_,(~~~(@cU _ _ _ _ (bH aM aI hr ∅ rfl (bH eE cY hr ∅ rfl (pv 0<|pv 1<|ax)<|ax)))),?_⟩;exact d9 (b:=IF) (cV (bG (F:=qv) (ao (bG (F:=EK) (ao (ai 0) (ao (ai 1) ay)) dD) ay) iK)) rfl h
variable {c5:Addr}{c6:FuncData}(cx:Def K mg "numbering_from" EN ["floor","s"] c5 c6)(c7:aD P w K mg base a7 2 c5 c6 ["floor","s"] (a9 K 2 EM))
abbrev IG:aj->Dm Fl :=
 (aV (aG EI (af (ag 0) (af (aG EM (af (ag 0) (af (ag 1) ah))) ah))))
abbrev EO:List D->Dm D:=dW 2 IG
abbrev ER:Stmt:=top 43
def YA:aw ["floor","s"] ["floor","s"] (au ER):=by walk
include dF fM cx c7 in
def YB(D:Def K mg "numbered_from" ER ["floor","s"] f fd)(T:Txt mg):aD P w K mg base a7 3 f fd ["floor","s"] (a9 K 2 EO):=by refine D.F.ok YA (λ_ _ _ _ h=>h.1) (λc A o s H v Q E hr h=>?_);refine⟨_,(~~~(@cU _ _ _ _ (bH fM dF hr ∅ rfl (pv 0<|bH c7 cx hr ∅ rfl (pv 0<|pv 1<|ax)<|ax)))),?_⟩;exact d9 (b:=IG) (cV (bG (F:=EI) (ao (ai 0) (ao (bG (F:=EM) (ao (ai 0) (ao (ai 1) ay)) dD) ay)) dD)) rfl h
variable {dG:Addr}{dH:FuncData}(cJ:Def K mg "numbered_from" ER ["floor","s"] dG dH)(dI:aD P w K mg base a7 3 dG dH ["floor","s"] (a9 K 2 EO))
abbrev IH:aj->Dm Fl :=
 (aV (aG md (af (bN (cS (af (aG cR (af (aB aE (ag 0) (fC (.int 0))) ah)) ah)) 1 [0] (hName 0) b7 (aG EO (af (ag 1) (af (ag 0) ah)))) ah)))
abbrev ES:List D->Dm D:=dW 1 IH
abbrev ET:Stmt:=top 44
def YC:aw ["floor"] ["floor"] (au ET):=by walk
include cJ dI in
def YD(D:Def K mg "form_of" ET ["floor"] f fd)(T:Txt mg):aD P w K mg base a7 4 f fd ["floor"] (a9 K 1 ES):=by refine D.F.ok YC (λ_ _ _ _ h=>h.1) (λc A o s H v Q E hr h=>?_);have hu:=hr.units;refine⟨_,(~~~(@cU _ _ _ _ (iq (O7 rfl hu) (by rfl) T.uG K1 (rC (own:=["s"]) (fr:=["floor"]) (js:=[0]) rfl ⟨⟨rfl,by w_fin,by w_fin,by dsimp only[fB,aQ,Cx.oA,Cx.wish,PyProof.Rows.envOfC,compEnvC,relabel,Env.kindOf];decide +kernel,by w_fin⟩,rfl⟩ (tH rfl T.bh (iq nI (by rfl) T.cb mM ((bT<*pv 0<*aJ)<|ax)<|ax)) (λ_ _ _ _ _=>(gJ (i:=0) (show((["s"]:List Str) ++ (["floor"]:List Str)).Nodup by w_fin) rfl (by w_up))) (λ_ _ _ _ _=>rA) (λ_ _ _ _ _=>(bH dI cJ hr ∅ rfl (pv 1<|pv 0<|ax)))<|ax)))),?_⟩;exact d9 (b:=IH) (cV (b6 Rr (ao (p5 (uy (ao (b6 nu (ao (aC bJ (ai 0) (aK _)) ay)) ay)) (aU 0) rT (bG (F:=EO) (ao (ai 1) (ao (ai 0) ay)) dD)) ay))) rfl h
variable {mf:Addr}{mh:FuncData}(kf:Def K mg "form_of" ET ["floor"] mf mh)(mj:aD P w K mg base a7 4 mf mh ["floor"] (a9 K 1 ES))
abbrev II:aj->Dm Fl :=
 (aA (aF (dB (af (ag 1) ah)) (hName 2))
 (aA (aF (aB aE (ag 0) (ag 1)) (hName 3))
 (aA (gi (aL (aB (lU true) (ag 3) (ag 1))) (aA (fz (pq "list" cC (ag 2) (af (ag 3) ah)))
 (aF (aB aE (ag 0) (ag 3)) (hName 3))))
 (aV (aG bC (af (ag 2) ah))))))
abbrev wj:List D->Dm D:=dW 4 II
abbrev EU:Stmt:=top 4
def IJ:aw ["turning","first","ring","reached"] ["turning","first"] (au EU):=by walk
def YE(D:Def K mg "ring_from" EU ["turning","first"] f fd)(T:Txt mg):aD P w K mg base a7 1 f fd ["turning","first"] (a9 K 2 wj):=by
 refine D.F.ok IJ (λ_ _ _ _ h=>h.1) (λc A o s H v Q E hr h=>?_);refine⟨_,((2>>=IJ>>=(@m9 _ _ _ _ (pv 1<|ax)))<|>(3>>=IJ>>=(bT<*pv 0<*pv 1))<|>vd PassesOwn.never (gb Bb (pv 3) (pv 1) (aN _)) (su (qx PySem.F.plainAttrs_list PySem.F.slot_list_append PySem.F.type_list_append tN (pv 2) (pv 3<|ax))<|>(~~~(3>>=IJ>>=(bT<*pv 0<*pv 3))))<|>(~~~(@cU _ _ _ _ (iu o5 (by rfl) T.bB oQ (pv 2<|ax))))),?_⟩
 exact d9 (b:=II) (aY (bw (nh (ao (ai 1) ay)) (aU 2))
  (aY (bw (aC bJ (ai 0) (ai 1)) (aU 3))
  (aY (vX (f6 (aC Bz (ai 3) (ai 1))) (aY (sJ (qB uw (ai 2) (ao (ai 3) ay)))
  (bw (aC bJ (ai 0) (ai 3)) (aU 3))))
  (cV (b6 pk (ao (ai 2) ay)))))) rfl h
variable {jg:Addr}{jh:FuncData}(bO:Def K mg "ring_from" EU ["turning","first"] jg jh)(bZ:aD P w K mg base a7 1 jg jh ["turning","first"] (a9 K 2 wj))
abbrev IK:aj->Dm Fl :=
 (aA (aF (dB ah) (hName 1))
 (aA (aF uB (hName 2))
 (aA (fm (cS (af (aG cR (af (ag 0) ah)) ah)) (hName 3) (jW (aL (vZ true (ag 3) (ag 2))) (aA (aF (aG wj (af (ag 0) (af (ag 3) ah))) (hName 4))
 (aA (fz (pq "list" cC (ag 1) (af (ag 4) ah)))
 (fm (cD (ag 4)) (hName 5) (rV (ag 2) (ag 5) (fC (.bl true)))))) bR))
 (aV (aG bC (af (ag 1) ah))))))
abbrev Am:List D->Dm D:=dW 6 IK
abbrev EV:Stmt:=top 5
def BN:aw ["turning","rings","seen","first","ring","number"] ["turning"] (au EV):=by walk
include bO bZ in
def YF(D:Def K mg "rings_of" EV ["turning"] f fd)(T:Txt mg):aD P w K mg base a7 2 f fd ["turning"] (a9 K 1 Am):=by
 refine D.F.ok BN (λ_ _ _ _ h=>h.1) (λc A o s H v Q E hr h=>?_);have hu1:=KZ hr;refine⟨_,((1>>=BN>>=(@m9 _ _ _ _ ax))<|>(2>>=BN>>=Ug)<|>(tH rfl T.bh (iq nI (by rfl) T.cb mM (pv 0<|ax)<|ax)&&&(gJ (i:=3) BN.nd rfl (by w_up))&&&(~~~(yh (Ud hu1 (pv 3) (pv 2))<*>((4>>=BN>>=bH bZ bO hr ∅ rfl (pv 0<|pv 3<|ax))<|>su (qx PySem.F.plainAttrs_list PySem.F.slot_list_append PySem.F.type_list_append tN (pv 1) (pv 4<|ax))<|>(~~~(o4 (pv 4)&&&(gJ (i:=5) BN.nd rfl (by w_up))&&&(~~~Ue hu1 (pv 2) (pv 5) A6 rfl))))<*>mG)))<|>(~~~(@cU _ _ _ _ (iu o5 (by rfl) T.bB oQ (pv 1<|ax))))),?_⟩
 exact d9 (b:=IK) (aY (bw (nh ay) (aU 1))
  (aY (bw W9 (aU 2))
  (aY (oS (uy (ao (b6 nu (ao (ai 0) ay)) ay)) (aU 3) (lE (HL (Xa (ai 3) (ai 2))) (aY (bw (bG (F:=wj) (ao (ai 0) (ao (ai 3) ay)) dD) (aU 4))
  (aY (sJ (qB uw (ai 1) (ao (ai 4) ay)))
  (oS (pC (ai 4)) (aU 5) (Xb (ai 2) (ai 5) (Bu _))))) mI))
  (cV (b6 pk (ao (ai 1) ay)))))) rfl h
variable {kI:Addr}{kJ:FuncData}(dk:Def K mg "rings_of" EV ["turning"] kI kJ)(d3:aD P w K mg base a7 2 kI kJ ["turning"] (a9 K 1 Am))
abbrev IL:aj->Dm Fl :=
 (aA (aF (aB sG (dB (af (fC (.int 0)) ah)) (aG cR (af (ag 0) ah))) (hName 2))
 (aA (fm (cD (aG Am (af (ag 0) ah))) (hName 3) (fm (oj (af (ag 3) ah)) (oK 2 (dX (hName 4) (dX (hName 5) pA))) (aF (aB aE (ag 3) (aB l8 (aB dU (ag 4) (ag 1)) (aG cR (af (ag 3) ah)))) (hSub (ag 2) (ag 5)))))
 (aV (aG bC (af (ag 2) ah)))))
abbrev EW:List D->Dm D:=dW 6 IL
abbrev EX:Stmt:=top 3
def EY:aw ["turning","k","led","ring","place","number"] ["turning","k"] (au EX):=by walk
include dk d3 in
def YG(D:Def K mg "often" EX ["turning","k"] f fd)(T:Txt mg):aD P w K mg base a7 3 f fd ["turning","k"] (a9 K 2 EW):=by
 refine D.F.ok EY (λ_ _ _ _ h=>h.1) (λc A o s H v Q E hr h=>?_);refine⟨_,((2>>=EY>>=bI KN (@m9 _ _ _ _ (aJ<|ax)) (iq nI (by rfl) T.cb mM (pv 0<|ax)))<|>(o4 (bH d3 dk hr ∅ rfl (pv 0<|ax))&&&(gJ (i:=3) EY.nd rfl (by w_up))&&&(~~~(OO rfl T.nA (pv 3<|ax)&&&Cj (n:=2) rfl (sv (gJ (i:=4) EY.nd rfl (by w_up)) (sv (gJ (i:=5) EY.nd rfl (by w_up)) A7))&&&(~~~Ck (bT<*pv 3<*bI tK (bI mZ (pv 4) (pv 1)) (iq nI (by rfl) T.cb mM (pv 3<|ax))) (A8 (pv 2) (pv 5) Bc)))))<|>(~~~(@cU _ _ _ _ (iu o5 (by rfl) T.bB oQ (pv 2<|ax))))),?_⟩
 exact d9 (b:=IL) (aY (bw (aC L8 (nh (ao (aK _) ay)) (b6 nu (ao (ai 0) ay))) (aU 2))
  (aY (oS (pC (bG (F:=Am) (ao (ai 0) ay) iK)) (aU 3) (oS (QO (ao (ai 3) ay)) (BD (sI (aU 4) (sI (aU 5) BB))) (bw (aC bJ (ai 3) (aC ur (aC nt (ai 4) (ai 1)) (b6 nu (ao (ai 3) ay)))) (BE (ai 2) (ai 5)))))
  (cV (b6 pk (ao (ai 2) ay))))) rfl h
variable {pJ:Addr}{pK:FuncData}(om:Def K mg "often" EX ["turning","k"] pJ pK)(pL:aD P w K mg base a7 3 pJ pK ["turning","k"] (a9 K 2 EW))
abbrev IP:aj->Dm Fl :=
 (aV (b8 (af (aB aE (ag 0) (fC (.int 0))) (af (aG oO (af (aG EW (af (aB aE (ag 0) (fC (.int 0))) (af (pj iT (ag 1)) ah))) (af (aB aE (ag 0) (fC (.int 1))) ah))) ah))))
abbrev EZ:List D->Dm D:=dW 2 IP
abbrev E1:Stmt:=top 46
def YH:aw ["floor","k"] ["floor","k"] (au E1):=by walk
include aX aZ om pL in
def YI(D:Def K mg "sheared" E1 ["floor","k"] f fd)(T:Txt mg):aD P w K mg base a7 4 f fd ["floor","k"] (a9 K 2 EZ):=by refine D.F.ok YH (λ_ _ _ _ h=>h.1) (λc A o s H v Q E hr h=>?_);refine⟨_,(~~~(@cU _ _ _ _ (@jY _ _ _ _ _ ((bT<*pv 0<*aJ)<|bH aZ aX hr ∅ rfl (bH pL om hr ∅ rfl ((bT<*pv 0<*aJ)<|qa qb (pv 1)<|ax)<|(bT<*pv 0<*aJ)<|ax)<|ax)))),?_⟩;exact d9 (b:=IP) (cV (j3 (ao (aC bJ (ai 0) (aK _)) (ao (bG (F:=oO) (ao (bG (F:=EW) (ao (aC bJ (ai 0) (aK _)) (ao (qj qk (ai 1)) ay)) dD) (ao (aC bJ (ai 0) (aK _)) ay)) dD) ay)))) rfl h
variable {ml:Addr}{mq:FuncData}(kg:Def K mg "sheared" E1 ["floor","k"] ml mq)(mr:aD P w K mg base a7 4 ml mq ["floor","k"] (a9 K 2 EZ))
abbrev IQ:aj->Dm Fl :=
 (aV (b8 (af (aG qv (af (aB aE (ag 0) (fC (.int 1))) ah)) (af (aB aE (ag 0) (fC (.int 0))) ah))))
abbrev E2:List D->Dm D:=dW 1 IQ
abbrev E3:Stmt:=top 47
def YJ:aw ["floor"] ["floor"] (au E3):=by walk
include aI aM in
def YK(D:Def K mg "quartered" E3 ["floor"] f fd)(T:Txt mg):aD P w K mg base a7 2 f fd ["floor"] (a9 K 1 E2):=by refine D.F.ok YJ (λ_ _ _ _ h=>h.1) (λc A o s H v Q E hr h=>?_);refine⟨_,(~~~(@cU _ _ _ _ (@jY _ _ _ _ _ (bH aM aI hr ∅ rfl ((bT<*pv 0<*aJ)<|ax)<|(bT<*pv 0<*aJ)<|ax)))),?_⟩;exact d9 (b:=IQ) (cV (j3 (ao (bG (F:=qv) (ao (aC bJ (ai 0) (aK _)) ay) iK) (ao (aC bJ (ai 0) (aK _)) ay)))) rfl h
variable {ji:Addr}{jk:FuncData}(gk:Def K mg "quartered" E3 ["floor"] ji jk)(jl:aD P w K mg base a7 2 ji jk ["floor"] (a9 K 1 E2))
abbrev IU:aj->Dm Fl :=
 (aA (jW (aL (aB (lU false) (aB aE (ag 1) (fC (.int 0))) (fC (.str "s")))) (aV (aG EZ (af (ag 0) (af (aB aE (ag 1) (fC (.int 1))) ah)))) bR)
 (aA (aF (ag 0) (hName 2))
 (aA (fm (cS (af (aB aE (ag 1) (fC (.int 1))) ah)) (hName 3) (aF (aG E2 (af (ag 2) ah)) (hName 2)))
 (aV (ag 2)))))
abbrev E4:List D->Dm D:=dW 4 IU
abbrev E5:Stmt:=top 49
def IV:aw ["floor","step","led","turn"] ["floor","step"] (au E5):=by walk
include kg mr gk jl in
def YL(D:Def K mg "led_by_step" E5 ["floor","step"] f fd)(T:Txt mg):aD P w K mg base a7 5 f fd ["floor","step"] (a9 K 2 E4):=by
 refine D.F.ok IV (λ_ _ _ _ h=>h.1) (λc A o s H v Q E hr h=>?_);refine⟨_,((gb pS (bT<*pv 1<*aJ) pR (aN _)<*>(~~~(@cU _ _ _ _ (bH mr kg hr ∅ rfl (pv 0<|(bT<*pv 1<*aJ)<|ax))))<*>mG)<|>(2>>=IV>>=pv 0)<|>(tH rfl T.bh ((bT<*pv 1<*aJ)<|ax)&&&(gJ (i:=3) IV.nd rfl (by w_up))&&&(~~~(2>>=IV>>=bH jl gk hr ∅ rfl (pv 2<|ax))))<|>(~~~(@cU _ _ _ _ (pv 2)))),?_⟩
 exact d9 (b:=IU) (aY (lE (f6 (aC pZ (aC bJ (ai 1) (aK _)) (pY _))) (cV (bG (F:=EZ) (ao (ai 0) (ao (aC bJ (ai 1) (aK _)) ay)) dD)) mI)
  (aY (bw (ai 0) (aU 2))
  (aY (oS (uy (ao (aC bJ (ai 1) (aK _)) ay)) (aU 3) (bw (bG (F:=E2) (ao (ai 2) ay) iK) (aU 2)))
  (cV (ai 2))))) rfl h
variable {fN:Addr}{fO:FuncData}(dJ:Def K mg "led_by_step" E5 ["floor","step"] fN fO)(fP:aD P w K mg base a7 5 fN fO ["floor","step"] (a9 K 2 E4))
abbrev IW:aj->Dm Fl :=
 (aA (aF (ag 0) (hName 2))
 (aA (fm (cD (ag 1)) (hName 3) (aF (aG E4 (af (ag 2) (af (ag 3) ah))) (hName 2)))
 (aV (ag 2))))
abbrev E6:List D->Dm D:=dW 4 IW
abbrev E7:Stmt:=top 48
def IX:aw ["floor","word","led","step"] ["floor","word"] (au E7):=by walk
include dJ fP in
def YM(D:Def K mg "led_by" E7 ["floor","word"] f fd)(T:Txt mg):aD P w K mg base a7 6 f fd ["floor","word"] (a9 K 2 E6):=by
 refine D.F.ok IX (λ_ _ _ _ h=>h.1) (λc A o s H v Q E hr h=>?_);refine⟨_,((2>>=IX>>=pv 0)<|>(o4 (pv 1)&&&(gJ (i:=3) IX.nd rfl (by w_up))&&&(~~~(2>>=IX>>=bH fP dJ hr ∅ rfl (pv 2<|pv 3<|ax))))<|>(~~~(@cU _ _ _ _ (pv 2)))),?_⟩
 exact d9 (b:=IW) (aY (bw (ai 0) (aU 2))
  (aY (oS (pC (ai 1)) (aU 3) (bw (bG (F:=E4) (ao (ai 2) (ao (ai 3) ay)) dD) (aU 2)))
  (cV (ai 2)))) rfl h
variable {nL:Addr}{nM:FuncData}(mv:Def K mg "led_by" E7 ["floor","word"] nL nM)(nO:aD P w K mg base a7 6 nL nM ["floor","word"] (a9 K 2 E6))
abbrev IY:aj->Dm Fl :=
 (aV (b8 (af (aB dU (aB eT (aB aE (ag 0) (fC (.int 0))) (aB aE (ag 1) (fC (.int 0)))) (aB eT (aB aE (ag 0) (fC (.int 1))) (aB aE (ag 1) (fC (.int 1))))) (af (aB dU (aB eT (aB aE (ag 0) (fC (.int 2))) (aB aE (ag 1) (fC (.int 0)))) (aB eT (aB aE (ag 0) (fC (.int 3))) (aB aE (ag 1) (fC (.int 1))))) ah))))
abbrev An:List D->Dm D:=dW 2 IY
abbrev E8:Stmt:=top 20
def YN:aw ["table","pair"] ["table","pair"] (au E8):=by walk
def YO(D:Def K mg "led_pair" E8 ["table","pair"] f fd)(T:Txt mg):aD P w K mg base a7 1 f fd ["table","pair"] (a9 K 2 An):=by refine D.F.ok YN (λ_ _ _ _ h=>h.1) (λc A o s H v Q E hr h=>?_);refine⟨_,(~~~(@cU _ _ _ _ (@jY _ _ _ _ _ (bI mZ (bI rF (bT<*pv 0<*aJ) (bT<*pv 1<*aJ)) (bI rF (bT<*pv 0<*aJ) (bT<*pv 1<*aJ))<|bI mZ (bI rF (bT<*pv 0<*aJ) (bT<*pv 1<*aJ)) (bI rF (bT<*pv 0<*aJ) (bT<*pv 1<*aJ))<|ax)))),?_⟩;exact d9 (b:=IY) (cV (j3 (ao (aC nt (aC sa (aC bJ (ai 0) (aK _)) (aC bJ (ai 1) (aK _))) (aC sa (aC bJ (ai 0) (aK _)) (aC bJ (ai 1) (aK _)))) (ao (aC nt (aC sa (aC bJ (ai 0) (aK _)) (aC bJ (ai 1) (aK _))) (aC sa (aC bJ (ai 0) (aK _)) (aC bJ (ai 1) (aK _)))) ay)))) rfl h
variable {kK:Addr}{kL:FuncData}(dm:Def K mg "led_pair" E8 ["table","pair"] kK kL)(d4:aD P w K mg base a7 1 kK kL ["table","pair"] (a9 K 2 An))
abbrev IZ:aj->Dm Fl :=
 (aA (jW (aL (aB (lU false) (ag 0) (fC (.int 0)))) (aV (b8 ah)) bR)
 (aV (b8 (af (b8 (af (fC (.str "s")) (af (ag 0) ah))) ah))))
abbrev wm:List D->Dm D:=dW 1 IZ
abbrev E9:Stmt:=top 35
def YQ:aw ["k"] ["k"] (au E9):=by walk
def YR(D:Def K mg "shears" E9 ["k"] f fd)(T:Txt mg):aD P w K mg base a7 1 f fd ["k"] (a9 K 1 wm):=by
 refine D.F.ok YQ (λ_ _ _ _ h=>h.1) (λc A o s H v Q E hr h=>?_);refine⟨_,((gb pS (pv 0) aJ (aN _)<*>(~~~(@cU _ _ _ _ (@jY _ _ _ _ _ ax)))<*>mG)<|>(~~~(@cU _ _ _ _ (@jY _ _ _ _ _ ((@jY _ _ _ _ _ (pR<|pv 0<|ax))<|ax))))),?_⟩
 exact d9 (b:=IZ) (aY (lE (f6 (aC pZ (ai 0) (aK _))) (cV (j3 ay)) mI)
  (cV (j3 (ao (j3 (ao (pY _) (ao (ai 0) ay))) ay)))) rfl h
variable {nP:Addr}{nQ:FuncData}(fQ:Def K mg "shears" E9 ["k"] nP nQ)(gS:aD P w K mg base a7 1 nP nQ ["k"] (a9 K 1 wm))
abbrev I0:aj->Dm Fl :=
 (aV (b8 (af (aB dU (aB eT (aB aE (ag 0) (fC (.int 0))) (aB aE (ag 1) (fC (.int 0)))) (aB eT (aB aE (ag 0) (fC (.int 1))) (aB aE (ag 1) (fC (.int 2))))) (af (aB dU (aB eT (aB aE (ag 0) (fC (.int 0))) (aB aE (ag 1) (fC (.int 1)))) (aB eT (aB aE (ag 0) (fC (.int 1))) (aB aE (ag 1) (fC (.int 3))))) (af (aB dU (aB eT (aB aE (ag 0) (fC (.int 2))) (aB aE (ag 1) (fC (.int 0)))) (aB eT (aB aE (ag 0) (fC (.int 3))) (aB aE (ag 1) (fC (.int 2))))) (af (aB dU (aB eT (aB aE (ag 0) (fC (.int 2))) (aB aE (ag 1) (fC (.int 1)))) (aB eT (aB aE (ag 0) (fC (.int 3))) (aB aE (ag 1) (fC (.int 3))))) ah))))))
abbrev wo:List D->Dm D:=dW 2 I0
abbrev Fb:Stmt:=top 19
def YS:aw ["one","other"] ["one","other"] (au Fb):=by walk
def YT(D:Def K mg "times" Fb ["one","other"] f fd)(T:Txt mg):aD P w K mg base a7 1 f fd ["one","other"] (a9 K 2 wo):=by refine D.F.ok YS (λ_ _ _ _ h=>h.1) (λc A o s H v Q E hr h=>?_);refine⟨_,(~~~(@cU _ _ _ _ (@jY _ _ _ _ _ (bI mZ (bI rF (bT<*pv 0<*aJ) (bT<*pv 1<*aJ)) (bI rF (bT<*pv 0<*aJ) (bT<*pv 1<*aJ))<|bI mZ (bI rF (bT<*pv 0<*aJ) (bT<*pv 1<*aJ)) (bI rF (bT<*pv 0<*aJ) (bT<*pv 1<*aJ))<|bI mZ (bI rF (bT<*pv 0<*aJ) (bT<*pv 1<*aJ)) (bI rF (bT<*pv 0<*aJ) (bT<*pv 1<*aJ))<|bI mZ (bI rF (bT<*pv 0<*aJ) (bT<*pv 1<*aJ)) (bI rF (bT<*pv 0<*aJ) (bT<*pv 1<*aJ))<|ax)))),?_⟩;exact d9 (b:=I0) (cV (j3 (ao (aC nt (aC sa (aC bJ (ai 0) (aK _)) (aC bJ (ai 1) (aK _))) (aC sa (aC bJ (ai 0) (aK _)) (aC bJ (ai 1) (aK _)))) (ao (aC nt (aC sa (aC bJ (ai 0) (aK _)) (aC bJ (ai 1) (aK _))) (aC sa (aC bJ (ai 0) (aK _)) (aC bJ (ai 1) (aK _)))) (ao (aC nt (aC sa (aC bJ (ai 0) (aK _)) (aC bJ (ai 1) (aK _))) (aC sa (aC bJ (ai 0) (aK _)) (aC bJ (ai 1) (aK _)))) (ao (aC nt (aC sa (aC bJ (ai 0) (aK _)) (aC bJ (ai 1) (aK _))) (aC sa (aC bJ (ai 0) (aK _)) (aC bJ (ai 1) (aK _)))) ay)))))) rfl h
variable {pN:Addr}{pO:FuncData}(gn:Def K mg "times" Fb ["one","other"] pN pO)(iB:aD P w K mg base a7 1 pN pO ["one","other"] (a9 K 2 wo))
abbrev Ja:aj->Dm Fl :=
 (aA (jW (aL (aB (lU false) (aB aE (ag 0) (fC (.int 0))) (fC (.str "s")))) (aV (b8 (af (fC (.int 1)) (af (aB aE (ag 0) (fC (.int 1))) (af (fC (.int 0)) (af (fC (.int 1)) ah)))))) bR)
 (aA (aF (fC (.tup [(.int 1),(.int 0),(.int 0),(.int 1)])) (hName 1))
 (aA (fm (cS (af (aB aE (ag 0) (fC (.int 1))) ah)) (hName 2) (aF (aG wo (af (fC (.tup [(.int 0),(.int (-1)),(.int 1),(.int 0)])) (af (ag 1) ah))) (hName 1)))
 (aV (ag 1)))))
abbrev Fc:List D->Dm D:=dW 3 Ja
abbrev Fe:Stmt:=top 24
def Jb:aw ["step","table","turn"] ["step"] (au Fe):=by walk
include gn iB in
def YU(D:Def K mg "step_table" Fe ["step"] f fd)(T:Txt mg){oo:V}(mw:tL K mg "QUARTER" oo (.tup [(.int 0),(.int (-1)),(.int 1),(.int 0)])){kh:V}(eX:tL K mg "UNMOVED" kh (.tup [(.int 1),(.int 0),(.int 0),(.int 1)])):aD P w K mg base a7 2 f fd ["step"] (a9 K 1 Fc):=by
 refine D.F.ok Jb (λ_ _ _ _ h=>h.1) (λc A o s H v Q E hr h=>?_);refine⟨_,((gb pS (bT<*pv 0<*aJ) pR (aN _)<*>(~~~(@cU _ _ _ _ (@jY _ _ _ _ _ (aJ<|(bT<*pv 0<*aJ)<|aJ<|aJ<|ax))))<*>mG)<|>(1>>=Jb>>=Mq eX rfl rfl ∅)<|>(tH rfl T.bh ((bT<*pv 0<*aJ)<|ax)&&&(gJ (i:=2) Jb.nd rfl (by w_up))&&&(~~~(1>>=Jb>>=bH iB gn hr ∅ rfl (Mq mw rfl rfl ∅<|pv 1<|ax))))<|>(~~~(@cU _ _ _ _ (pv 1)))),?_⟩
 exact d9 (b:=Ja) (aY (lE (f6 (aC pZ (aC bJ (ai 0) (aK _)) (pY _))) (cV (j3 (ao (aK _) (ao (aC bJ (ai 0) (aK _)) (ao (aK _) (ao (aK _) ay)))))) mI)
  (aY (bw (Mr eX) (aU 1))
  (aY (oS (uy (ao (aC bJ (ai 0) (aK _)) ay)) (aU 2) (bw (bG (F:=wo) (ao (Mr mw) (ao (ai 1) ay)) dD) (aU 1)))
  (cV (ai 1))))) rfl h
variable {gW:Addr}{gX:FuncData}(eY:Def K mg "step_table" Fe ["step"] gW gX)(gY:aD P w K mg base a7 2 gW gX ["step"] (a9 K 1 Fc))
abbrev BO:aj->Dm Fl :=
 (aA (aF (fC (.tup [(.int 1),(.int 0),(.int 0),(.int 1)])) (hName 1))
 (aA (fm (cD (ag 0)) (hName 2) (aF (aG wo (af (aG Fc (af (ag 2) ah)) (af (ag 1) ah))) (hName 1)))
 (aV (ag 1))))
abbrev sY:List D->Dm D:=dW 3 BO
abbrev Ff:Stmt:=top 25
def Jc:aw ["word","table","step"] ["word"] (au Ff):=by walk
include gn iB eY gY in
def YV(D:Def K mg "table_of" Ff ["word"] f fd)(T:Txt mg){kh:V}(eX:tL K mg "UNMOVED" kh (.tup [(.int 1),(.int 0),(.int 0),(.int 1)])):aD P w K mg base a7 3 f fd ["word"] (a9 K 1 sY):=by
 refine D.F.ok Jc (λ_ _ _ _ h=>h.1) (λc A o s H v Q E hr h=>?_);refine⟨_,((1>>=Jc>>=Mq eX rfl rfl ∅)<|>(o4 (pv 0)&&&(gJ (i:=2) Jc.nd rfl (by w_up))&&&(~~~(1>>=Jc>>=bH iB gn hr ∅ rfl (bH gY eY hr ∅ rfl (pv 2<|ax)<|pv 1<|ax))))<|>(~~~(@cU _ _ _ _ (pv 1)))),?_⟩
 exact d9 (b:=BO) (aY (bw (Mr eX) (aU 1))
  (aY (oS (pC (ai 0)) (aU 2) (bw (bG (F:=wo) (ao (bG (F:=Fc) (ao (ai 2) ay) iK) (ao (ai 1) ay)) dD) (aU 1)))
  (cV (ai 1)))) rfl h
variable {kM:Addr}{kN:FuncData}(bU:Def K mg "table_of" Ff ["word"] kM kN)(cc:aD P w K mg base a7 3 kM kN ["word"] (a9 K 1 sY))
abbrev Jd:aj->Dm Fl :=
 (aV (aB pI (aB dU (aB jX (fC (.int 2)) (ag 0)) (ag 1)) (aB jX (fC (.int 2)) (ag 1))))
abbrev Fg:List D->Dm D:=dW 2 Jd
abbrev Fh:Stmt:=top 34
def YW:aw ["number","divisor"] ["number","divisor"] (au Fh):=by walk
def YX(D:Def K mg "nearest" Fh ["number","divisor"] f fd)(T:Txt mg):aD P w K mg base a7 1 f fd ["number","divisor"] (a9 K 2 Fg):=by refine D.F.ok YW (λ_ _ _ _ h=>h.1) (λc A o s H v Q E hr h=>?_);refine⟨_,(~~~(@cU _ _ _ _ (bI Vy (bI mZ (bI qF aJ (pv 0)) (pv 1)) (bI qF aJ (pv 1))))),?_⟩;exact d9 (b:=Jd) (cV (aC Yk (aC nt (aC qS (aK _) (ai 0)) (ai 1)) (aC qS (aK _) (ai 1)))) rfl h
variable {mx:Addr}{my:FuncData}(ki:Def K mg "nearest" Fh ["number","divisor"] mx my)(mz:aD P w K mg base a7 1 mx my ["number","divisor"] (a9 K 2 Fg))
abbrev Je:aj->Dm Fl :=
 (aA (aF (b8 ah) (hName 1))
 (aA (aF (ag 0) (hName 2))
 (aA (gi (aL (aB (lU true) (aB aE (ag 2) (fC (.int 1))) (fC (.int 0)))) (aA (aF (aB ka (aG wm (af (pj iT (aG Fg (af (aB aE (ag 2) (fC (.int 0))) (af (aB aE (ag 2) (fC (.int 1))) ah)))) ah)) (b8 (af (b8 (af (fC (.str "t")) (af (fC (.int 1)) ah))) ah))) (hName 3))
 (aA (aF (aG An (af (aG sY (af (ag 3) ah)) (af (ag 2) ah))) (hName 2))
 (aF (aB ka (ag 1) (ag 3)) (hName 1)))))
 (aV (ag 1)))))
abbrev Ao:List D->Dm D:=dW 4 Je
abbrev Fi:Stmt:=top 33
def BP:aw ["pair","gone","left","steps"] ["pair"] (au Fi):=by walk
include dm d4 fQ gS bU cc ki mz in
def YY(D:Def K mg "level_steps" Fi ["pair"] f fd)(T:Txt mg):aD P w K mg base a7 4 f fd ["pair"] (a9 K 1 Ao):=by
 refine D.F.ok BP (λ_ _ _ _ h=>h.1) (λc A o s H v Q E hr h=>?_);refine⟨_,((1>>=BP>>=(@jY _ _ _ _ _ ax))<|>(2>>=BP>>=pv 0)<|>vd PassesOwn.never (gb Bb (bT<*pv 2<*aJ) aJ (aN _)) ((3>>=BP>>=bI xf (bH gS fQ hr ∅ rfl (qa qb (bH mz ki hr ∅ rfl ((bT<*pv 2<*aJ)<|(bT<*pv 2<*aJ)<|ax))<|ax)) (@jY _ _ _ _ _ ((@jY _ _ _ _ _ (pR<|aJ<|ax))<|ax)))<|>(2>>=BP>>=bH d4 dm hr ∅ rfl (bH cc bU hr ∅ rfl (pv 3<|ax)<|pv 2<|ax))<|>(~~~(1>>=BP>>=bI xf (pv 1) (pv 3))))<|>(~~~(@cU _ _ _ _ (pv 1)))),?_⟩
 exact d9 (b:=Je) (aY (bw (j3 ay) (aU 1))
  (aY (bw (ai 0) (aU 2))
  (aY (vX (f6 (aC Bz (aC bJ (ai 2) (aK _)) (aK _))) (aY (bw (aC xG (bG (F:=wm) (ao (qj qk (bG (F:=Fg) (ao (aC bJ (ai 2) (aK _)) (ao (aC bJ (ai 2) (aK _)) ay)) dD)) ay) iK) (j3 (ao (j3 (ao (pY _) (ao (aK _) ay))) ay))) (aU 3))
  (aY (bw (bG (F:=An) (ao (bG (F:=sY) (ao (ai 3) ay) iK) (ao (ai 2) ay)) dD) (aU 2))
  (bw (aC xG (ai 1) (ai 3)) (aU 1)))))
  (cV (ai 1))))) rfl h
variable {fR:Addr}{fS:FuncData}(bX:Def K mg "level_steps" Fi ["pair"] fR fS)(ck:aD P w K mg base a7 4 fR fS ["pair"] (a9 K 1 Ao))
abbrev Jf:aj->Dm Fl :=
 (aA (aF (aB dU (aB aE (ag 0) (fC (.int 1))) (aB aE (ag 1) (fC (.int 1)))) (hName 2))
 (aA (jW (aL (aB (lU false) (aB aE (ag 0) (fC (.int 0))) (fC (.str "t")))) (aF (aB l8 (ag 2) (fC (.int 4))) (hName 2)) bR)
 (aA (jW (aL (aB (lU false) (ag 2) (fC (.int 0)))) (aV (b8 ah)) bR)
 (aV (b8 (af (b8 (af (aB aE (ag 0) (fC (.int 0))) (af (ag 2) ah))) ah))))))
abbrev Fj:List D->Dm D:=dW 3 Jf
abbrev Fm:Stmt:=top 26
def ME:aw ["one","other","number"] ["one","other"] (au Fm):=by walk
def YZ(D:Def K mg "joined" Fm ["one","other"] f fd)(T:Txt mg):aD P w K mg base a7 1 f fd ["one","other"] (a9 K 2 Fj):=by
 refine D.F.ok ME (λ_ _ _ _ h=>h.1) (λc A o s H v Q E hr h=>?_);refine⟨_,((2>>=ME>>=bI mZ (bT<*pv 0<*aJ) (bT<*pv 1<*aJ))<|>(gb pS (bT<*pv 0<*aJ) pR (aN _)<*>(~~~(2>>=ME>>=bI tK (pv 2) aJ))<*>mG)<|>(gb pS (pv 2) aJ (aN _)<*>(~~~(@cU _ _ _ _ (@jY _ _ _ _ _ ax)))<*>mG)<|>(~~~(@cU _ _ _ _ (@jY _ _ _ _ _ ((@jY _ _ _ _ _ ((bT<*pv 0<*aJ)<|pv 2<|ax))<|ax))))),?_⟩
 exact d9 (b:=Jf) (aY (bw (aC nt (aC bJ (ai 0) (aK _)) (aC bJ (ai 1) (aK _))) (aU 2))
  (aY (lE (f6 (aC pZ (aC bJ (ai 0) (aK _)) (pY _))) (bw (aC ur (ai 2) (aK _)) (aU 2)) mI)
  (aY (lE (f6 (aC pZ (ai 2) (aK _))) (cV (j3 ay)) mI)
  (cV (j3 (ao (j3 (ao (aC bJ (ai 0) (aK _)) (ao (ai 2) ay))) ay)))))) rfl h
variable {nR:Addr}{nS:FuncData}(mB:Def K mg "joined" Fm ["one","other"] nR nS)(nT:aD P w K mg base a7 1 nR nS ["one","other"] (a9 K 2 Fj))
abbrev Jg:aj->Dm Fl :=
 (aA (aF (b8 ah) (hName 1))
 (aA (fm (cD (ag 0)) (hName 2) (jW (uo (aL (aB DN (aG cR (af (ag 1) ah)) (fC (.int 0)))) (aL (aB (lU false) (aB aE (aB aE (ag 1) (pj iT (fC (.int 1)))) (fC (.int 0))) (aB aE (ag 2) (fC (.int 0)))))) (aF (aB ka (vQ vT (ag 1) gL (l6 (pj iT (fC (.int 1))))) (aG Fj (af (aB aE (ag 1) (pj iT (fC (.int 1)))) (af (ag 2) ah)))) (hName 1)) (aF (aB ka (ag 1) (b8 (af (ag 2) ah))) (hName 1))))
 (aV (ag 1))))
abbrev Fn:List D->Dm D:=dW 3 Jg
abbrev Fp:Stmt:=top 27
def Fq:aw ["word","plain","step"] ["word"] (au Fp):=by walk
include mB nT in
def Y0(D:Def K mg "made_plain" Fp ["word"] f fd)(T:Txt mg):aD P w K mg base a7 2 f fd ["word"] (a9 K 1 Fn):=by
 refine D.F.ok Fq (λ_ _ _ _ h=>h.1) (λc A o s H v Q E hr h=>?_);refine⟨_,((1>>=Fq>>=(@jY _ _ _ _ _ ax))<|>(o4 (pv 0)&&&(gJ (i:=2) Fq.nd rfl (by w_up))&&&(~~~(PW.pt (NG (gb Kt (iq nI (by rfl) T.cb mM (pv 1<|ax)) aJ (aN _)) (NF (gb pS (bT<*(bT<*pv 1<*qa qb aJ)<*aJ) (bT<*pv 2<*aJ) (aN _))))<*>(~~~(1>>=Fq>>=bI xf (G2 Ow (pv 1) GZ (G0 (qa qb aJ))) (bH nT mB hr ∅ rfl ((bT<*pv 1<*qa qb aJ)<|pv 2<|ax))))<*>(~~~(1>>=Fq>>=bI xf (pv 1) (@jY _ _ _ _ _ (pv 2<|ax)))))))<|>(~~~(@cU _ _ _ _ (pv 1)))),?_⟩
 exact d9 (b:=Jg) (aY (bw (j3 ay) (aU 1))
  (aY (oS (pC (ai 0)) (aU 2) (lE (QB (f6 (aC L5 (b6 nu (ao (ai 1) ay)) (aK _))) (f6 (aC pZ (aC bJ (aC bJ (ai 1) (qj qk (aK _))) (aK _)) (aC bJ (ai 2) (aK _))))) (bw (aC xG (HQ QD (ai 1) HN (HP (qj qk (aK _)))) (bG (F:=Fj) (ao (aC bJ (ai 1) (qj qk (aK _))) (ao (ai 2) ay)) dD)) (aU 1)) (bw (aC xG (ai 1) (j3 (ao (ai 2) ay))) (aU 1))))
  (cV (ai 1)))) rfl h
variable {gZ:Addr}{g5:FuncData}(eZ:Def K mg "made_plain" Fp ["word"] gZ g5)(g7:aD P w K mg base a7 2 gZ g5 ["word"] (a9 K 1 Fn))
abbrev Jh:aj->Dm Fl :=
 (aV (aG Fn (af (aB ka (ag 0) (ag 1)) ah)))
abbrev Fs:List D->Dm D:=dW 2 Jh
abbrev Ft:Stmt:=top 28
def Y1:aw ["one","other"] ["one","other"] (au Ft):=by walk
include eZ g7 in
def Y2(D:Def K mg "put_together" Ft ["one","other"] f fd)(T:Txt mg):aD P w K mg base a7 3 f fd ["one","other"] (a9 K 2 Fs):=by refine D.F.ok Y1 (λ_ _ _ _ h=>h.1) (λc A o s H v Q E hr h=>?_);refine⟨_,(~~~(@cU _ _ _ _ (bH g7 eZ hr ∅ rfl (bI xf (pv 0) (pv 1)<|ax)))),?_⟩;exact d9 (b:=Jh) (cV (bG (F:=Fn) (ao (aC xG (ai 0) (ai 1)) ay) iK)) rfl h
variable {eF:Addr}{eG:FuncData}(cZ:Def K mg "put_together" Ft ["one","other"] eF eG)(eI:aD P w K mg base a7 3 eF eG ["one","other"] (a9 K 2 Fs))
abbrev Ji:aj->Dm Fl :=
 (aV (rP (aB (lU false) (aG cR (af (ag 0) ah)) (fC (.int 4))) (aB (lU false) (aB oH (aB eT (aB aE (ag 0) (fC (.int 0))) (aB aE (ag 0) (fC (.int 3)))) (aB eT (aB aE (ag 0) (fC (.int 1))) (aB aE (ag 0) (fC (.int 2))))) (fC (.int 1)))))
abbrev Fu:List D->Dm D:=dW 1 Ji
abbrev Fv:Stmt:=top 18
def Y3:aw ["thing"] ["thing"] (au Fv):=by walk
def Y4(D:Def K mg "is_table" Fv ["thing"] f fd)(T:Txt mg):aD P w K mg base a7 1 f fd ["thing"] (a9 K 1 Fu):=by refine D.F.ok Y3 (λ_ _ _ _ h=>h.1) (λc A o s H v Q E hr h=>?_);refine⟨_,(~~~(@cU _ _ _ _ (yk (Ku pS (iq nI (by rfl) T.cb mM (pv 0<|ax)) aJ (aN _)) (yj (Ku pS (bI Cu (bI rF (bT<*pv 0<*aJ) (bT<*pv 0<*aJ)) (bI rF (bT<*pv 0<*aJ) (bT<*pv 0<*aJ))) aJ (aN _)))))),?_⟩;exact d9 (b:=Ji) (cV (WB (aC pZ (b6 nu (ao (ai 0) ay)) (aK _)) (aC pZ (aC DO (aC sa (aC bJ (ai 0) (aK _)) (aC bJ (ai 0) (aK _))) (aC sa (aC bJ (ai 0) (aK _)) (aC bJ (ai 0) (aK _)))) (aK _)))) rfl h
variable {kO:Addr}{kP:FuncData}(iW:Def K mg "is_table" Fv ["thing"] kO kP)(kQ:aD P w K mg base a7 1 kO kP ["thing"] (a9 K 1 Fu))
abbrev Jj:aj->Dm Fl :=
 (aA (jW (aL (aB (lU false) (aB aE (ag 0) (fC (.int 0))) (fC (.int 1)))) (aV (aG wm (af (aB aE (ag 0) (fC (.int 1))) ah))) bR)
 (aV (aB ka (b8 (af (b8 (af (fC (.str "t")) (af (fC (.int 2)) ah))) ah)) (aG wm (af (pj iT (aB aE (ag 0) (fC (.int 1)))) ah)))))
abbrev Fw:List D->Dm D:=dW 1 Jj
abbrev Fx:Stmt:=top 36
def Y5:aw ["table"] ["table"] (au Fx):=by walk
include fQ gS in
def Y6(D:Def K mg "level_word" Fx ["table"] f fd)(T:Txt mg):aD P w K mg base a7 2 f fd ["table"] (a9 K 1 Fw):=by
 refine D.F.ok Y5 (λ_ _ _ _ h=>h.1) (λc A o s H v Q E hr h=>?_);refine⟨_,((gb pS (bT<*pv 0<*aJ) aJ (aN _)<*>(~~~(@cU _ _ _ _ (bH gS fQ hr ∅ rfl ((bT<*pv 0<*aJ)<|ax))))<*>mG)<|>(~~~(@cU _ _ _ _ (bI xf (@jY _ _ _ _ _ ((@jY _ _ _ _ _ (pR<|aJ<|ax))<|ax)) (bH gS fQ hr ∅ rfl (qa qb (bT<*pv 0<*aJ)<|ax)))))),?_⟩
 exact d9 (b:=Jj) (aY (lE (f6 (aC pZ (aC bJ (ai 0) (aK _)) (aK _))) (cV (bG (F:=wm) (ao (aC bJ (ai 0) (aK _)) ay) iK)) mI)
  (cV (aC xG (j3 (ao (j3 (ao (pY _) (ao (aK _) ay))) ay)) (bG (F:=wm) (ao (qj qk (aC bJ (ai 0) (aK _))) ay) iK)))) rfl h
variable {g8:Addr}{g9:FuncData}(e7:Def K mg "level_word" Fx ["table"] g8 g9)(hV:aD P w K mg base a7 2 g8 g9 ["table"] (a9 K 1 Fw))
abbrev Jk:aj->Dm Fl :=
 (aA (jW (aL (aB (lU false) (aB aE (ag 0) (fC (.int 0))) (fC (.str "s")))) (aV (b8 (af (fC (.str "s")) (af (pj iT (aB aE (ag 0) (fC (.int 1)))) ah)))) bR)
 (aV (b8 (af (fC (.str "t")) (af (aB oH (fC (.int 4)) (aB aE (ag 0) (fC (.int 1)))) ah)))))
abbrev Fy:List D->Dm D:=dW 1 Jk
abbrev Fz:Stmt:=top 29
def Y7:aw ["step"] ["step"] (au Fz):=by walk
def Y8(D:Def K mg "back_step" Fz ["step"] f fd)(T:Txt mg):aD P w K mg base a7 1 f fd ["step"] (a9 K 1 Fy):=by
 refine D.F.ok Y7 (λ_ _ _ _ h=>h.1) (λc A o s H v Q E hr h=>?_);refine⟨_,((gb pS (bT<*pv 0<*aJ) pR (aN _)<*>(~~~(@cU _ _ _ _ (@jY _ _ _ _ _ (pR<|qa qb (bT<*pv 0<*aJ)<|ax))))<*>mG)<|>(~~~(@cU _ _ _ _ (@jY _ _ _ _ _ (pR<|bI Cu aJ (bT<*pv 0<*aJ)<|ax))))),?_⟩
 exact d9 (b:=Jk) (aY (lE (f6 (aC pZ (aC bJ (ai 0) (aK _)) (pY _))) (cV (j3 (ao (pY _) (ao (qj qk (aC bJ (ai 0) (aK _))) ay)))) mI)
  (cV (j3 (ao (pY _) (ao (aC DO (aK _) (aC bJ (ai 0) (aK _))) ay))))) rfl h
variable {jm:Addr}{jn:FuncData}(gp:Def K mg "back_step" Fz ["step"] jm jn)(jo:aD P w K mg base a7 1 jm jn ["step"] (a9 K 1 Fy))
abbrev Jl:aj->Dm Fl :=
 (aV (aG bC (af (bN (r9 (af (ag 0) ah)) 1 [] (hName 0) b7 (aG Fy (af (ag 0) ah))) ah)))
abbrev FA:List D->Dm D:=dW 1 Jl
abbrev FC:Stmt:=top 30
def Y9:aw ["word"] ["word"] (au FC):=by walk
include gp jo in
def Za(D:Def K mg "back_word" FC ["word"] f fd)(T:Txt mg):aD P w K mg base a7 2 f fd ["word"] (a9 K 1 FA):=by refine D.F.ok Y9 (λ_ _ _ _ h=>h.1) (λc A o s H v Q E hr h=>?_);refine⟨_,(~~~(@cU _ _ _ _ (iu o5 (by rfl) T.bB oQ (rC (own:=["step"]) (fr:=[]) (js:=[]) rfl ⟨⟨rfl,by w_fin,by w_fin,by dsimp only[fB,aQ,Cx.oA,Cx.wish,PyProof.Rows.envOfC,compEnvC,relabel,Env.kindOf];decide +kernel,by w_fin⟩,rfl⟩ (yN rfl T.qY (pv 0<|ax)) (λ_ _ _ _ _=>(gJ (i:=0) (show((["step"]:List Str) ++ ([]:List Str)).Nodup by w_fin) rfl (by w_up))) (λ_ _ _ _ _=>rA) (λ_ _ _ _ _=>(bH jo gp hr ∅ rfl (pv 0<|ax)))<|ax)))),?_⟩;exact d9 (b:=Jl) (cV (b6 pk (ao (p5 (X7 (ao (ai 0) ay)) (aU 0) rT (bG (F:=Fy) (ao (ai 0) ay) iK)) ay))) rfl h
variable {jq:Addr}{jr:FuncData}(gs:Def K mg "back_word" FC ["word"] jq jr)(jt:aD P w K mg base a7 2 jq jr ["word"] (a9 K 1 FA))
abbrev Jm:aj->Dm Fl :=
 (aA (jW (vP (aL (aG Fu (af (ag 0) ah)))) qX bR)
 (aA (aF (aG Ao (af (b8 (af (aB aE (ag 0) (fC (.int 0))) (af (aB aE (ag 0) (fC (.int 2))) ah))) ah)) (hName 1))
 (aV (aG Fs (af (aG Fw (af (aG wo (af (aG sY (af (ag 1) ah)) (af (ag 0) ah))) ah)) (af (aG FA (af (ag 1) ah)) ah))))))
abbrev FD:List D->Dm D:=dW 2 Jm
abbrev FE:Stmt:=top 32
def RH:aw ["table","gone"] ["table"] (au FE):=by walk
include gn iB bU cc bX ck cZ eI iW kQ e7 hV gs jt in
def Zb(D:Def K mg "word_of" FE ["table"] f fd)(T:Txt mg):aD P w K mg base a7 5 f fd ["table"] (a9 K 1 FD):=by
 refine D.F.ok RH (λ_ _ _ _ h=>h.1) (λc A o s H v Q E hr h=>?_);refine⟨_,((yi (Kl (bH kQ iW hr ∅ rfl (pv 0<|ax)))<*>(~~~NI)<*>mG)<|>(1>>=RH>>=bH ck bX hr ∅ rfl ((@jY _ _ _ _ _ ((bT<*pv 0<*aJ)<|(bT<*pv 0<*aJ)<|ax))<|ax))<|>(~~~(@cU _ _ _ _ (bH eI cZ hr ∅ rfl (bH hV e7 hr ∅ rfl (bH iB gn hr ∅ rfl (bH cc bU hr ∅ rfl (pv 1<|ax)<|pv 0<|ax)<|ax)<|bH jt gs hr ∅ rfl (pv 1<|ax)<|ax))))),?_⟩
 exact d9 (b:=Jm) (aY (lE (zh (HL (bG (F:=Fu) (ao (ai 0) ay) iK))) RC mI)
  (aY (bw (bG (F:=Ao) (ao (j3 (ao (aC bJ (ai 0) (aK _)) (ao (aC bJ (ai 0) (aK _)) ay))) ay) iK) (aU 1))
  (cV (bG (F:=Fs) (ao (bG (F:=Fw) (ao (bG (F:=wo) (ao (bG (F:=sY) (ao (ai 1) ay) iK) (ao (ai 0) ay)) dD) ay) iK) (ao (bG (F:=FA) (ao (ai 1) ay) iK) ay)) dD)))) rfl h
variable {mC:Addr}{mD:FuncData}(kj:Def K mg "word_of" FE ["table"] mC mD)(mE:aD P w K mg base a7 5 mC mD ["table"] (a9 K 1 FD))
abbrev Jn:aj->Dm Fl :=
 (aV (aG ES (af (aG E6 (af (ag 0) (af (aG FD (af (ag 1) ah)) ah))) ah)))
abbrev Ap:List D->Dm D:=dW 2 Jn
abbrev FF:Stmt:=top 50
def Zc:aw ["floor","table"] ["floor","table"] (au FF):=by walk
include kf mj mv nO kj mE in
def Zd(D:Def K mg "led_by_table" FF ["floor","table"] f fd)(T:Txt mg):aD P w K mg base a7 7 f fd ["floor","table"] (a9 K 2 Ap):=by refine D.F.ok Zc (λ_ _ _ _ h=>h.1) (λc A o s H v Q E hr h=>?_);refine⟨_,(~~~(@cU _ _ _ _ (bH mj kf hr ∅ rfl (bH nO mv hr ∅ rfl (pv 0<|bH mE kj hr ∅ rfl (pv 1<|ax)<|ax)<|ax)))),?_⟩;exact d9 (b:=Jn) (cV (bG (F:=ES) (ao (bG (F:=E6) (ao (ai 0) (ao (bG (F:=FD) (ao (ai 1) ay) iK) ay)) dD) ay) iK)) rfl h
variable {eJ:Addr}{eK:FuncData}(bK:Def K mg "led_by_table" FF ["floor","table"] eJ eK)(b5:aD P w K mg base a7 7 eJ eK ["floor","table"] (a9 K 2 Ap))
abbrev Jo:aj->Dm Fl :=
 (aV (aG wj (af (aB aE (ag 0) (fC (.int 0))) (af (aG md (af (bN (cD (ag 1)) 1 [0] (hName 0) b7 (aB aE (aB aE (ag 1) (fC (.int 1))) (ag 0))) ah)) ah))))
abbrev Aq:List D->Dm D:=dW 2 Jo
abbrev FG:Stmt:=top 10
def Ze:aw ["floor","row"] ["floor","row"] (au FG):=by walk
include bO bZ in
def Zf(D:Def K mg "upper_row" FG ["floor","row"] f fd)(T:Txt mg):aD P w K mg base a7 2 f fd ["floor","row"] (a9 K 2 Aq):=by refine D.F.ok Ze (λ_ _ _ _ h=>h.1) (λc A o s H v Q E hr h=>?_);have hu:=hr.units;refine⟨_,(~~~(@cU _ _ _ _ (bH bZ bO hr ∅ rfl ((bT<*pv 0<*aJ)<|iq (O7 rfl hu) (by rfl) T.uG K1 (rC (own:=["s"]) (fr:=["floor"]) (js:=[0]) rfl ⟨⟨rfl,by w_fin,by w_fin,by dsimp only[fB,aQ,Cx.oA,Cx.wish,PyProof.Rows.envOfC,compEnvC,relabel,Env.kindOf];decide +kernel,by w_fin⟩,rfl⟩ (o4 (pv 1)) (λ_ _ _ _ _=>(gJ (i:=0) (show((["s"]:List Str) ++ (["floor"]:List Str)).Nodup by w_fin) rfl (by w_up))) (λ_ _ _ _ _=>rA) (λ_ _ _ _ _=>(vq (K:=K) rfl<*(vq (K:=K) rfl<*pv 1<*aJ)<*pv 0))<|ax)<|ax)))),?_⟩;exact d9 (b:=Jo) (cV (bG (F:=wj) (ao (aC bJ (ai 0) (aK _)) (ao (b6 Rr (ao (p5 (pC (ai 1)) (aU 0) rT (aC bJ (aC bJ (ai 1) (aK _)) (ai 0))) ay)) ay)) dD)) rfl h
variable {ju:Addr}{jv:FuncData}(cK:Def K mg "upper_row" FG ["floor","row"] ju jv)(de:aD P w K mg base a7 2 ju jv ["floor","row"] (a9 K 2 Aq))
abbrev Jp:aj->Dm Fl :=
 (aA (aF (aB aE (ag 0) (fC (.int 0))) (hName 1))
 (aA (aF (aB aE (ag 0) (fC (.int 1))) (hName 2))
 (aA (aF (aG oO (af (aG qv (af (ag 1) ah)) (af (aG qv (af (ag 2) ah)) ah))) (hName 3))
 (aV (aG oO (af (aG oO (af (ag 1) (af (ag 2) ah))) (af (ag 3) ah)))))))
abbrev FH:List D->Dm D:=dW 4 Jp
abbrev FI:Stmt:=top 7
def Jq:aw ["floor","right","up","back"] ["floor"] (au FI):=by walk
include aI aM aX aZ in
def Zg(D:Def K mg "round_corners" FI ["floor"] f fd)(T:Txt mg):aD P w K mg base a7 2 f fd ["floor"] (a9 K 1 FH):=by
 refine D.F.ok Jq (λ_ _ _ _ h=>h.1) (λc A o s H v Q E hr h=>?_);refine⟨_,((1>>=Jq>>=(bT<*pv 0<*aJ))<|>(2>>=Jq>>=(bT<*pv 0<*aJ))<|>(3>>=Jq>>=bH aZ aX hr ∅ rfl (bH aM aI hr ∅ rfl (pv 1<|ax)<|bH aM aI hr ∅ rfl (pv 2<|ax)<|ax))<|>(~~~(@cU _ _ _ _ (bH aZ aX hr ∅ rfl (bH aZ aX hr ∅ rfl (pv 1<|pv 2<|ax)<|pv 3<|ax))))),?_⟩
 exact d9 (b:=Jp) (aY (bw (aC bJ (ai 0) (aK _)) (aU 1))
  (aY (bw (aC bJ (ai 0) (aK _)) (aU 2))
  (aY (bw (bG (F:=oO) (ao (bG (F:=qv) (ao (ai 1) ay) iK) (ao (bG (F:=qv) (ao (ai 2) ay) iK) ay)) dD) (aU 3))
  (cV (bG (F:=oO) (ao (bG (F:=oO) (ao (ai 1) (ao (ai 2) ay)) dD) (ao (ai 3) ay)) dD))))) rfl h
variable {dM:Addr}{dN:FuncData}(cL:Def K mg "round_corners" FI ["floor"] dM dN)(dO:aD P w K mg base a7 2 dM dN ["floor"] (a9 K 1 FH))
abbrev Jr:aj->Dm Fl :=
 (aA (aF (aG FH (af (ag 0) ah)) (hName 2))
 (aV (aG ql (af (bN (cD (ag 1)) 1 [2] (hName 0) b7 (aB (lU false) (aB aE (ag 1) (ag 0)) (ag 0))) ah))))
abbrev Ar:List D->Dm D:=dW 3 Jr
abbrev FJ:Stmt:=top 9
def RI:aw ["floor","ring","led"] ["floor","ring"] (au FJ):=by walk
include cL dO in
def Zh(D:Def K mg "is_smooth" FJ ["floor","ring"] f fd)(T:Txt mg):aD P w K mg base a7 3 f fd ["floor","ring"] (a9 K 2 Ar):=by
 refine D.F.ok RI (λ_ _ _ _ h=>h.1) (λc A o s H v Q E hr h=>?_);refine⟨_,((2>>=RI>>=bH dO cL hr ∅ rfl (pv 0<|ax))<|>(~~~(@cU _ _ _ _ (iq (OI rfl) (by rfl) T.xU Ov (rC (own:=["s"]) (fr:=["led"]) (js:=[2]) rfl ⟨⟨rfl,by w_fin,by w_fin,by dsimp only[fB,aQ,Cx.oA,Cx.wish,PyProof.Rows.envOfC,compEnvC,relabel,Env.kindOf];decide +kernel,by w_fin⟩,rfl⟩ (o4 (pv 1)) (λ_ _ _ _ _=>(gJ (i:=0) (show((["s"]:List Str) ++ (["led"]:List Str)).Nodup by w_fin) rfl (by w_up))) (λ_ _ _ _ _=>rA) (λ_ _ _ _ _=>(Ku pS (vq (K:=K) rfl<*pv 1<*pv 0) (pv 0) (aN _)))<|ax))))),?_⟩
 exact d9 (b:=Jr) (aY (bw (bG (F:=FH) (ao (ai 0) ay) iK) (aU 2))
  (cV (b6 QL (ao (p5 (pC (ai 1)) (aU 0) rT (aC pZ (aC bJ (ai 1) (ai 0)) (ai 0))) ay)))) rfl h
variable {jw:Addr}{jx:FuncData}(cM:Def K mg "is_smooth" FJ ["floor","ring"] jw jx)(df:aD P w K mg base a7 3 jw jx ["floor","ring"] (a9 K 2 Ar))
abbrev Js:aj->Dm Fl :=
 (aA (aF (dB (af (ag 1) ah)) (hName 2))
 (aA (gi (aL (aG Ar (af (ag 0) (af (aB iz (ag 2) (pj iT (fC (.int 1)))) ah)))) (aA (aF (aG Aq (af (ag 0) (af (aB iz (ag 2) (pj iT (fC (.int 1)))) ah))) (hName 3))
 (aA (jW (aL (aB (j9 false) (ag 3) (ag 1))) qU bR)
 (fz (pq "list" cC (ag 2) (af (ag 3) ah))))))
 (aV (b8 (af (aG cR (af (ag 1) ah)) (af (aG cR (af (ag 2) ah)) (af (aG bC (af (ag 2) ah)) ah)))))))
abbrev BQ:List D->Dm D:=dW 4 Js
abbrev FK:Stmt:=top 11
def MF:aw ["floor","lowest","rows","upper"] ["floor","lowest"] (au FK):=by walk
include cK de cM df in
def Zi(D:Def K mg "band_from" FK ["floor","lowest"] f fd)(T:Txt mg):aD P w K mg base a7 4 f fd ["floor","lowest"] (a9 K 2 BQ):=by
 refine D.F.ok MF (λ_ _ _ _ h=>h.1) (λc A o s H v Q E hr h=>?_);have hu:=hr.units;refine⟨_,((2>>=MF>>=(@m9 _ _ _ _ (pv 1<|ax)))<|>vd PassesOwn.never (Kl (bH df cM hr ∅ rfl (pv 0<|(pT<*pv 2<*qa qb aJ)<|ax))) ((3>>=MF>>=bH de cK hr ∅ rfl (pv 0<|(pT<*pv 2<*qa qb aJ)<|ax))<|>(gb (Oy hu) (pv 3) (pv 1) (aN _)<*>(~~~Ts)<*>mG)<|>(~~~su (qx PySem.F.plainAttrs_list PySem.F.slot_list_append PySem.F.type_list_append tN (pv 2) (pv 3<|ax))))<|>(~~~(@cU _ _ _ _ (@jY _ _ _ _ _ (iq nI (by rfl) T.cb mM (pv 1<|ax)<|iq nI (by rfl) T.cb mM (pv 2<|ax)<|iu o5 (by rfl) T.bB oQ (pv 2<|ax)<|ax))))),?_⟩
 exact d9 (b:=Js) (aY (bw (nh (ao (ai 1) ay)) (aU 2))
  (aY (vX (HL (bG (F:=Ar) (ao (ai 0) (ao (aC p4 (ai 2) (qj qk (aK _))) ay)) dD)) (aY (bw (bG (F:=Aq) (ao (ai 0) (ao (aC p4 (ai 2) (qj qk (aK _))) ay)) dD) (aU 3))
  (aY (lE (f6 (aC (xF false) (ai 3) (ai 1))) WL mI)
  (sJ (qB uw (ai 2) (ao (ai 3) ay))))))
  (cV (j3 (ao (b6 nu (ao (ai 1) ay)) (ao (b6 nu (ao (ai 2) ay)) (ao (b6 pk (ao (ai 2) ay)) ay))))))) rfl h
variable {jy:Addr}{jz:FuncData}(gy:Def K mg "band_from" FK ["floor","lowest"] jy jz)(jA:aD P w K mg base a7 4 jy jz ["floor","lowest"] (a9 K 2 BQ))
abbrev Jt:aj->Dm Fl :=
 (aA (aF (aG Am (af (aB aE (ag 0) (fC (.int 0))) ah)) (hName 1))
 (aA (aF (bN (cD (ag 1)) 1 [0] (hName 0) (aL (aG Ar (af (ag 1) (af (ag 0) ah)))) (aG Aq (af (ag 1) (af (ag 0) ah)))) (hName 2))
 (aA (aF (bN (cD (ag 1)) 1 [2] (hName 0) (aL (aB (sM true) (ag 0) (ag 1))) (ag 0)) (hName 3))
 (aA (jW (aL (aB (lU false) (aG cR (af (ag 3) ah)) (fC (.int 0)))) (aF (dB (af (aB aE (ag 1) (fC (.int 0))) ah)) (hName 3)) bR)
 (aV (aG bC (af (aG lH (af (bN (kc (ag 3)) 1 [0] (hName 0) b7 (aG BQ (af (ag 1) (af (ag 0) ah)))) ah)) ah)))))))
abbrev uW:List D->Dm D:=dW 4 Jt
abbrev FL:Stmt:=top 12
def FN:aw ["floor","rows","upper_rows","lowest_rows"] ["floor"] (au FL):=by walk
include dk d3 cK de cM df gy jA in
def Zj(D:Def K mg "bands_of" FL ["floor"] f fd)(T:Txt mg):aD P w K mg base a7 5 f fd ["floor"] (a9 K 1 uW):=by
 refine D.F.ok FN (λ_ _ _ _ h=>h.1) (λc A o s H v Q E hr h=>?_);have hu:=hr.units;refine⟨_,((1>>=FN>>=bH d3 dk hr ∅ rfl ((bT<*pv 0<*aJ)<|ax))<|>(2>>=FN>>=rC (own:=["row"]) (fr:=["floor"]) (js:=[0]) rfl ⟨⟨rfl,by w_fin,by w_fin,by dsimp only[fB,aQ,Cx.oA,Cx.wish,PyProof.Rows.envOfC,compEnvC,relabel,Env.kindOf];decide +kernel,by w_fin⟩,rfl⟩ (o4 (pv 1)) (λ_ _ _ _ _=>(gJ (i:=0) (show((["row"]:List Str) ++ (["floor"]:List Str)).Nodup by w_fin) rfl (by w_up))) (λ_ _ _ _ _=>(He (Kl (bH df cM hr ∅ rfl (pv 1<|pv 0<|ax))))) (λ_ _ _ _ _=>(bH de cK hr ∅ rfl (pv 1<|pv 0<|ax))))<|>(Hi (i:=3) (own:=["row"]) (fr:=["upper_rows"]) (js:=[2]) rfl FN.nd rfl rfl ⟨⟨rfl,by w_fin,by w_fin,by dsimp only[fB,aQ,Cx.oA,Cx.wish,PyProof.Rows.envOfC,compEnvC,relabel,Env.kindOf];decide +kernel,by w_fin⟩,rfl⟩ (o4 (pv 1)) (λ_ _ _ _ _=>(gJ (i:=0) (show((["row"]:List Str) ++ (["upper_rows"]:List Str)).Nodup by w_fin) rfl (by w_up))) (λ_ _ _ _ _=>(He (gb (U7 (K:=K) rfl hu) (pv 0) (pv 1) (by with_unfolding_all rfl)))) (λ_ _ _ _ _=>(pv 0)))<|>(gb pS (iq nI (by rfl) T.cb mM (pv 3<|ax)) aJ (aN _)<*>(~~~(3>>=FN>>=(@m9 _ _ _ _ ((bT<*pv 1<*aJ)<|ax))))<*>mG)<|>(~~~(@cU _ _ _ _ (iu o5 (by rfl) T.bB oQ (iq (Vw hu) (by rfl) T.iU Be (rC (own:=["row"]) (fr:=["floor"]) (js:=[0]) rfl ⟨⟨rfl,by w_fin,by w_fin,by dsimp only[fB,aQ,Cx.oA,Cx.wish,PyProof.Rows.envOfC,compEnvC,relabel,Env.kindOf];decide +kernel,by w_fin⟩,rfl⟩ (Kr (pv 3)) (λ_ _ _ _ _=>(gJ (i:=0) (show((["row"]:List Str) ++ (["floor"]:List Str)).Nodup by w_fin) rfl (by w_up))) (λ_ _ _ _ _=>rA) (λ_ _ _ _ _=>(bH jA gy hr ∅ rfl (pv 1<|pv 0<|ax)))<|ax)<|ax))))),?_⟩
 exact d9 (b:=Jt) (aY (bw (bG (F:=Am) (ao (aC bJ (ai 0) (aK _)) ay) iK) (aU 1))
  (aY (bw (p5 (pC (ai 1)) (aU 0) (HL (bG (F:=Ar) (ao (ai 1) (ao (ai 0) ay)) dD)) (bG (F:=Aq) (ao (ai 1) (ao (ai 0) ay)) dD)) (aU 2))
  (aY (bw (p5 (pC (ai 1)) (aU 0) (f6 (aC (Ak true) (ai 0) (ai 1))) (ai 0)) (aU 3))
  (aY (lE (f6 (aC pZ (b6 nu (ao (ai 3) ay)) (aK _))) (bw (nh (ao (aC bJ (ai 1) (aK _)) ay)) (aU 3)) mI)
  (cV (b6 pk (ao (b6 Yf (ao (p5 (L9 (ai 3)) (aU 0) rT (bG (F:=BQ) (ao (ai 1) (ao (ai 0) ay)) dD)) ay)) ay))))))) rfl h
variable {kR:Addr}{kS:FuncData}(dn:Def K mg "bands_of" FL ["floor"] kR kS)(d5:aD P w K mg base a7 5 kR kS ["floor"] (a9 K 1 uW))
abbrev Ju:aj->Dm Fl :=
 (aA (aF (aG Ao (af (ag 0) ah)) (hName 1))
 (aA (aF (aG An (af (aG sY (af (ag 1) ah)) (af (ag 0) ah))) (hName 2))
 (aA (jW (zi (aL (aB vS (aB aE (ag 0) (fC (.int 1))) (fC (.int 0)))) (zi (aL (aB (lU true) (aG uD (af (aB aE (ag 2) (fC (.int 0))) ah)) (fC (.int 1)))) (aL (aB (j9 false) (ag 0) (b8 (af (pj iT (fC (.int 1))) (af (fC (.int 0)) ah))))))) qX bR)
 (aA (jW (aL (aB (lU false) (aB aE (ag 2) (fC (.int 0))) (pj iT (fC (.int 1))))) (aF (aB ka (ag 1) (b8 (af (b8 (af (fC (.str "t")) (af (fC (.int 2)) ah))) ah))) (hName 1)) bR)
 (aV (aG sY (af (ag 1) ah)))))))
abbrev As:List D->Dm D:=dW 3 Ju
abbrev FO:Stmt:=top 54
def Jv:aw ["slope","steps","led"] ["slope"] (au FO):=by walk
include dm d4 bU cc bX ck in
def Zk(D:Def K mg "slope_table" FO ["slope"] f fd)(T:Txt mg):aD P w K mg base a7 5 f fd ["slope"] (a9 K 1 As):=by
 refine D.F.ok Jv (λ_ _ _ _ h=>h.1) (λc A o s H v Q E hr h=>?_);have hu:=hr.units;refine⟨_,((1>>=Jv>>=bH ck bX hr ∅ rfl (pv 0<|ax))<|>(2>>=Jv>>=bH d4 dm hr ∅ rfl (bH cc bU hr ∅ rfl (pv 1<|ax)<|pv 0<|ax))<|>(PW.pt (GV (gb yq (bT<*pv 0<*aJ) aJ (aN _)) (GV (gb Bb (iq NV (by rfl) T.xT OR ((bT<*pv 2<*aJ)<|ax)) aJ (aN _)) (Km (gb (Oy hu) (pv 0) (@jY _ _ _ _ _ (qa qb aJ<|aJ<|ax)) (aN _)))))<*>(~~~NI)<*>mG)<|>(gb pS (bT<*pv 2<*aJ) (qa qb aJ) (aN _)<*>(~~~(1>>=Jv>>=bI xf (pv 1) (@jY _ _ _ _ _ ((@jY _ _ _ _ _ (pR<|aJ<|ax))<|ax))))<*>mG)<|>(~~~(@cU _ _ _ _ (bH cc bU hr ∅ rfl (pv 1<|ax))))),?_⟩
 exact d9 (b:=Ju) (aY (bw (bG (F:=Ao) (ao (ai 0) ay) iK) (aU 1))
  (aY (bw (bG (F:=An) (ao (bG (F:=sY) (ao (ai 1) ay) iK) (ao (ai 0) ay)) dD) (aU 2))
  (aY (lE (HM (f6 (aC zk (aC bJ (ai 0) (aK _)) (aK _))) (HM (f6 (aC Bz (b6 Ra (ao (aC bJ (ai 2) (aK _)) ay)) (aK _))) (f6 (aC (xF false) (ai 0) (j3 (ao (qj qk (aK _)) (ao (aK _) ay))))))) RC mI)
  (aY (lE (f6 (aC pZ (aC bJ (ai 2) (aK _)) (qj qk (aK _)))) (bw (aC xG (ai 1) (j3 (ao (j3 (ao (pY _) (ao (aK _) ay))) ay))) (aU 1)) mI)
  (cV (bG (F:=sY) (ao (ai 1) ay) iK)))))) rfl h
variable {fT:Addr}{fU:FuncData}(bY:Def K mg "slope_table" FO ["slope"] fT fU)(cm:aD P w K mg base a7 5 fT fU ["slope"] (a9 K 1 As))
abbrev Jw:aj->Dm Fl :=
 (aA (aF (aG uW (af (aG Ap (af (ag 0) (af (aG As (af (ag 1) ah)) ah))) ah)) (hName 2))
 (aV (aG bC (af (bN (cD (ag 2)) 1 [] (hName 0) b7 (b8 (af (aB aE (ag 0) (fC (.int 0))) (af (aB aE (ag 0) (fC (.int 1))) ah)))) ah))))
abbrev Au:List D->Dm D:=dW 3 Jw
abbrev FP:Stmt:=top 58
def RJ:aw ["floor","slope","bands"] ["floor","slope"] (au FP):=by walk
include bK b5 dn d5 bY cm in
def Zl(D:Def K mg "bands_along" FP ["floor","slope"] f fd)(T:Txt mg):aD P w K mg base a7 8 f fd ["floor","slope"] (a9 K 2 Au):=by
 refine D.F.ok RJ (λ_ _ _ _ h=>h.1) (λc A o s H v Q E hr h=>?_);refine⟨_,((2>>=RJ>>=bH d5 dn hr ∅ rfl (bH b5 bK hr ∅ rfl (pv 0<|bH cm bY hr ∅ rfl (pv 1<|ax)<|ax)<|ax))<|>(~~~(@cU _ _ _ _ (iu o5 (by rfl) T.bB oQ (rC (own:=["band"]) (fr:=[]) (js:=[]) rfl ⟨⟨rfl,by w_fin,by w_fin,by dsimp only[fB,aQ,Cx.oA,Cx.wish,PyProof.Rows.envOfC,compEnvC,relabel,Env.kindOf];decide +kernel,by w_fin⟩,rfl⟩ (o4 (pv 2)) (λ_ _ _ _ _=>(gJ (i:=0) (show((["band"]:List Str) ++ ([]:List Str)).Nodup by w_fin) rfl (by w_up))) (λ_ _ _ _ _=>rA) (λ_ _ _ _ _=>(@jY _ _ _ _ _ ((vq (K:=K) rfl<*pv 0<*aJ)<|(vq (K:=K) rfl<*pv 0<*aJ)<|ax)))<|ax))))),?_⟩
 exact d9 (b:=Jw) (aY (bw (bG (F:=uW) (ao (bG (F:=Ap) (ao (ai 0) (ao (bG (F:=As) (ao (ai 1) ay) iK) ay)) dD) ay) iK) (aU 2))
  (cV (b6 pk (ao (p5 (pC (ai 2)) (aU 0) rT (j3 (ao (aC bJ (ai 0) (aK _)) (ao (aC bJ (ai 0) (aK _)) ay)))) ay)))) rfl h
variable {fV:Addr}{fW:FuncData}(cO:Def K mg "bands_along" FP ["floor","slope"] fV fW)(dP:aD P w K mg base a7 8 fV fW ["floor","slope"] (a9 K 2 Au))
abbrev Jx:aj->Dm Fl :=
 (aV (rW (lF (fC (.str "r")) (aB aE (ag 0) (fC (.int 0))) (lF (fC (.str "l")) (aG qv (af (aB aE (ag 0) (fC (.int 0))) ah)) (lF (fC (.str "u")) (aB aE (ag 0) (fC (.int 1))) (lF (fC (.str "d")) (aG qv (af (aB aE (ag 0) (fC (.int 1))) ah)) uC))))))
abbrev Av:List D->Dm D:=dW 1 Jx
abbrev FQ:Stmt:=top 38
def Zm:aw ["floor"] ["floor"] (au FQ):=by walk
include aI aM in
def Zn(D:Def K mg "step_turnings" FQ ["floor"] f fd)(T:Txt mg):aD P w K mg base a7 2 f fd ["floor"] (a9 K 1 Av):=by refine D.F.ok Zm (λ_ _ _ _ h=>h.1) (λc A o s H v Q E hr h=>?_);refine⟨_,(~~~(@cU _ _ _ _ (@Ui _ _ _ _ _ (@G9 _ _ _ _ _ _ _ _ _ pR (bT<*pv 0<*aJ) (@G9 _ _ _ _ _ _ _ _ _ pR (bH aM aI hr ∅ rfl ((bT<*pv 0<*aJ)<|ax)) (@G9 _ _ _ _ _ _ _ _ _ pR (bT<*pv 0<*aJ) (@G9 _ _ _ _ _ _ _ _ _ pR (bH aM aI hr ∅ rfl ((bT<*pv 0<*aJ)<|ax)) Uh)))) rfl rfl ∅ ∅))),?_⟩;exact d9 (b:=Jx) (cV (Xf (HX (pY _) (aC bJ (ai 0) (aK _)) (HX (pY _) (bG (F:=qv) (ao (aC bJ (ai 0) (aK _)) ay) iK) (HX (pY _) (aC bJ (ai 0) (aK _)) (HX (pY _) (bG (F:=qv) (ao (aC bJ (ai 0) (aK _)) ay) iK) Xc)))))) rfl h
variable {dQ:Addr}{dR:FuncData}(bu:Def K mg "step_turnings" FQ ["floor"] dQ dR)(bP:aD P w K mg base a7 2 dQ dR ["floor"] (a9 K 1 Av))
abbrev Jy:aj->Dm Fl :=
 (aA (aF (aG uD (af (aB aE (ag 0) (fC (.int 0))) ah)) (hName 1))
 (aA (aF (aB aE (ag 0) (fC (.int 1))) (hName 2))
 (aA (aF (jW (aL (aB vS (aB aE (ag 0) (fC (.int 0))) (fC (.int 0)))) (fC (.str "l")) (fC (.str "r"))) (hName 3))
 (aA (aF (dB ah) (hName 4))
 (aA (aF (fC (.int 0)) (hName 5))
 (aA (aF (fC (.int 0)) (hName 6))
 (aA (gi (zi (aL (aB vS (ag 5) (ag 1))) (aL (aB vS (ag 6) (ag 2)))) (jW (uo (aL (aB L0 (aB jX (aB dU (ag 6) (fC (.int 1))) (ag 1)) (aB jX (ag 2) (ag 5)))) (aL (aB vS (ag 6) (ag 2)))) (aA (fz (pq "list" cC (ag 4) (af (fC (.str "u")) ah)))
 (aF (aB dU (ag 6) (fC (.int 1))) (hName 6))) (aA (fz (pq "list" cC (ag 4) (af (ag 3) ah)))
 (aF (aB dU (ag 5) (fC (.int 1))) (hName 5)))))
 (aV (pq "str" oV (fC (.str "")) (af (ag 4) ah))))))))))
abbrev wt:List D->Dm D:=dW 7 Jy
abbrev FR:Stmt:=top 55
def wx:aw ["slope","width","height","level_step","steps","x","y"] ["slope"] (au FR):=by walk
def Zo(D:Def K mg "slope_steps" FR ["slope"] f fd)(T:Txt mg):aD P w K mg base a7 1 f fd ["slope"] (a9 K 1 wt):=by
 refine D.F.ok wx (λ_ _ _ _ h=>h.1) (λc A o s H v Q E hr h=>?_);refine⟨_,((1>>=wx>>=iq NV (by rfl) T.xT OR ((bT<*pv 0<*aJ)<|ax))<|>(2>>=wx>>=(bT<*pv 0<*aJ))<|>(3>>=wx>>=Tp (gb yq (bT<*pv 0<*aJ) aJ (aN _)) pR pR)<|>(4>>=wx>>=(@m9 _ _ _ _ ax))<|>(5>>=wx>>=aJ)<|>(6>>=wx>>=aJ)<|>vd PassesOwn.never (PW.pt (GV (gb yq (pv 5) (pv 1) (aN _)) (Km (gb yq (pv 6) (pv 2) (aN _))))) (~~~(PW.pt (NG (gb Cw (bI qF (bI mZ (pv 6) aJ) (pv 1)) (bI qF (pv 2) (pv 5)) (aN _)) (NF (gb yq (pv 6) (pv 2) (aN _))))<*>(su (qx PySem.F.plainAttrs_list PySem.F.slot_list_append PySem.F.type_list_append tN (pv 4) (pR<|ax))<|>(~~~(6>>=wx>>=bI mZ (pv 6) aJ)))<*>(su (qx PySem.F.plainAttrs_list PySem.F.slot_list_append PySem.F.type_list_append tN (pv 4) (pv 3<|ax))<|>(~~~(5>>=wx>>=bI mZ (pv 5) aJ)))))<|>(~~~(@cU _ _ _ _ (qx PySem.F.plainAttrs_str PySem.F.slot_str_join PySem.F.type_str_join U3 pR (pv 4<|ax))))),?_⟩
 exact d9 (b:=Jy) (aY (bw (b6 Ra (ao (aC bJ (ai 0) (aK _)) ay)) (aU 1))
  (aY (bw (aC bJ (ai 0) (aK _)) (aU 2))
  (aY (bw (DM (f6 (aC zk (aC bJ (ai 0) (aK _)) (aK _))) (pY _) (pY _)) (aU 3))
  (aY (bw (nh ay) (aU 4))
  (aY (bw (aK _) (aU 5))
  (aY (bw (aK _) (aU 6))
  (aY (vX (HM (f6 (aC zk (ai 5) (ai 1))) (f6 (aC zk (ai 6) (ai 2)))) (lE (QB (f6 (aC DQ (aC qS (aC nt (ai 6) (aK _)) (ai 1)) (aC qS (ai 2) (ai 5)))) (f6 (aC zk (ai 6) (ai 2)))) (aY (sJ (qB uw (ai 4) (ao (pY _) ay)))
  (bw (aC nt (ai 6) (aK _)) (aU 6))) (aY (sJ (qB uw (ai 4) (ao (ai 3) ay)))
  (bw (aC nt (ai 5) (aK _)) (aU 5)))))
  (cV (qB X3 (pY _) (ao (ai 4) ay)))))))))) rfl h
variable {fX:Addr}{fY:FuncData}(a6:Def K mg "slope_steps" FR ["slope"] fX fY)(bp:aD P w K mg base a7 1 fX fY ["slope"] (a9 K 1 wt))
abbrev Jz:aj->Dm Fl :=
 (aA (aF (aG Av (af (ag 0) ah)) (hName 2))
 (aA (aF (aG nK (af (aG i7 (af (aG cR (af (aB aE (ag 0) (fC (.int 0))) ah)) ah)) ah)) (hName 3))
 (aA (fm (qq (aG wt (af (ag 1) ah))) (hName 4) (aF (aG oO (af (ag 3) (af (qo (ag 2) (ag 4)) ah))) (hName 3)))
 (aV (ag 3)))))
abbrev Aw:List D->Dm D:=dW 5 Jz
abbrev FT:Stmt:=top 56
def FU:aw ["floor","slope","turnings","gone","step"] ["floor","slope"] (au FT):=by walk
include aX aZ bu bP a6 bp in
def Zp(D:Def K mg "gone_once" FT ["floor","slope"] f fd)(T:Txt mg):aD P w K mg base a7 3 f fd ["floor","slope"] (a9 K 2 Aw):=by
 refine D.F.ok FU (λ_ _ _ _ h=>h.1) (λc A o s H v Q E hr h=>?_);have hu1:=KZ hr;refine⟨_,((2>>=FU>>=bH bP bu hr ∅ rfl (pv 0<|ax))<|>(3>>=FU>>=iu (UM rfl) (by rfl) T.bB oQ (iu Hd (by rfl) T.bh uR (iq nI (by rfl) T.cb mM ((bT<*pv 0<*aJ)<|ax)<|ax)<|ax))<|>(OV (bH bp a6 hr ∅ rfl (pv 1<|ax))&&&(gJ (i:=4) FU.nd rfl (by w_up))&&&(~~~(3>>=FU>>=bH aZ aX hr ∅ rfl (pv 3<|Ol hu1 (pv 2) (pv 4) (λ_ _=>rfl)<|ax))))<|>(~~~(@cU _ _ _ _ (pv 3)))),?_⟩
 exact d9 (b:=Jz) (aY (bw (bG (F:=Av) (ao (ai 0) ay) iK) (aU 2))
  (aY (bw (b6 WH (ao (b6 HS (ao (b6 nu (ao (aC bJ (ai 0) (aK _)) ay)) ay)) ay)) (aU 3))
  (aY (oS (Rm (bG (F:=wt) (ao (ai 1) ay) iK)) (aU 4) (bw (bG (F:=oO) (ao (ai 3) (ao (QQ (ai 2) (ai 4)) ay)) dD) (aU 3)))
  (cV (ai 3))))) rfl h
variable {jB:Addr}{jC:FuncData}(cN:Def K mg "gone_once" FT ["floor","slope"] jB jC)(dg:aD P w K mg base a7 3 jB jC ["floor","slope"] (a9 K 2 Aw))
abbrev JA:aj->Dm Fl :=
 (aA (aF (aG Av (af (ag 0) ah)) (hName 3))
 (aA (aF (dB (af (ag 1) ah)) (hName 4))
 (aA (fm (qq (ag 2)) (hName 5) (fz (pq "list" cC (ag 4) (af (aB aE (qo (ag 3) (ag 5)) (aB iz (ag 4) (pj iT (fC (.int 1))))) ah))))
 (aV (aG bC (af (ag 4) ah))))))
abbrev FV:List D->Dm D:=dW 6 JA
abbrev FW:Stmt:=top 52
def JB:aw ["floor","s","steps","turnings","squares","step"] ["floor","s","steps"] (au FW):=by walk
include bu bP in
def Zq(D:Def K mg "ridden" FW ["floor","s","steps"] f fd)(T:Txt mg):aD P w K mg base a7 3 f fd ["floor","s","steps"] (a9 K 3 FV):=by
 refine D.F.ok JB (λ_ _ _ _ h=>h.1) (λc A o s H v Q E hr h=>?_);have hu1:=KZ hr;refine⟨_,((3>>=JB>>=bH bP bu hr ∅ rfl (pv 0<|ax))<|>(4>>=JB>>=(@m9 _ _ _ _ (pv 1<|ax)))<|>(OV (pv 2)&&&(gJ (i:=5) JB.nd rfl (by w_up))&&&(~~~su (qx PySem.F.plainAttrs_list PySem.F.slot_list_append PySem.F.type_list_append tN (pv 4) ((bT<*Ol hu1 (pv 3) (pv 5) (λ_ _=>rfl)<*(pT<*pv 4<*qa qb aJ))<|ax))))<|>(~~~(@cU _ _ _ _ (iu o5 (by rfl) T.bB oQ (pv 4<|ax))))),?_⟩
 exact d9 (b:=JA) (aY (bw (bG (F:=Av) (ao (ai 0) ay) iK) (aU 3))
  (aY (bw (nh (ao (ai 1) ay)) (aU 4))
  (aY (oS (Rm (ai 2)) (aU 5) (sJ (qB uw (ai 4) (ao (aC bJ (QQ (ai 3) (ai 5)) (aC p4 (ai 4) (qj qk (aK _)))) ay))))
  (cV (b6 pk (ao (ai 4) ay)))))) rfl h
variable {nU:Addr}{nV:FuncData}(mF:Def K mg "ridden" FW ["floor","s","steps"] nU nV)(nW:aD P w K mg base a7 3 nU nV ["floor","s","steps"] (a9 K 3 FV))
abbrev JC:aj->Dm Fl :=
 (aA (aF (aG cR (af (aG wj (af (aG Aw (af (ag 0) (af (ag 1) ah))) (af (ag 2) ah))) ah)) (hName 3))
 (aV (vQ vT (aG FV (af (ag 0) (af (ag 2) (af (aB r6 (aG wt (af (ag 1) ah)) (ag 3)) ah)))) gL (l6 (pj iT (fC (.int 1)))))))
abbrev FX:List D->Dm D:=dW 4 JC
abbrev FY:Stmt:=top 57
def RK:aw ["floor","slope","s","rounds"] ["floor","slope","s"] (au FY):=by walk
include bO bZ a6 bp cN dg mF nW in
def Zr(D:Def K mg "line_from" FY ["floor","slope","s"] f fd)(T:Txt mg):aD P w K mg base a7 4 f fd ["floor","slope","s"] (a9 K 3 FX):=by
 refine D.F.ok RK (λ_ _ _ _ h=>h.1) (λc A o s H v Q E hr h=>?_);refine⟨_,((3>>=RK>>=iq nI (by rfl) T.cb mM (bH bZ bO hr ∅ rfl (bH dg cN hr ∅ rfl (pv 0<|pv 1<|ax)<|pv 2<|ax)<|ax))<|>(~~~(@cU _ _ _ _ (G2 Ow (bH nW mF hr ∅ rfl (pv 0<|pv 2<|bI U2 (bH bp a6 hr ∅ rfl (pv 1<|ax)) (pv 3)<|ax)) GZ (G0 (qa qb aJ)))))),?_⟩
 exact d9 (b:=JC) (aY (bw (b6 nu (ao (bG (F:=wj) (ao (bG (F:=Aw) (ao (ai 0) (ao (ai 1) ay)) dD) (ao (ai 2) ay)) dD) ay)) (aU 3))
  (cV (HQ QD (bG (F:=FV) (ao (ai 0) (ao (ai 2) (ao (aC X4 (bG (F:=wt) (ao (ai 1) ay) iK) (ai 3)) ay))) RF) HN (HP (qj qk (aK _)))))) rfl h
variable {jD:Addr}{jE:FuncData}(gA:Def K mg "line_from" FY ["floor","slope","s"] jD jE)(jF:aD P w K mg base a7 4 jD jE ["floor","slope","s"] (a9 K 3 FX))
abbrev JD:aj->Dm Fl :=
 (aA (aF (aG xV (af (aG Aw (af (ag 0) (af (ag 1) ah))) ah)) (hName 2))
 (aA (aF (aG rR (af (aG wt (af (ag 1) ah)) ah)) (hName 3))
 (aA (aF (aG Ap (af (ag 0) (af (aG As (af (ag 1) ah)) ah))) (hName 4))
 (aA (aF (aG d8 (af (bN (cD (ag 2)) 1 [] (hName 0) b7 (aG cR (af (ag 0) ah))) ah)) (hName 5))
 (aA (jW (aL (aB (j9 true) (ag 5) (aG d8 (af (bN (cD (aG xV (af (aB aE (ag 4) (fC (.int 0))) ah))) 1 [] (hName 0) b7 (aG cR (af (ag 0) ah))) ah)))) (aV (fC (.bl false))) bR)
 (aA (aF (dB ah) (hName 6))
 (aA (fm (cD (aG Au (af (ag 0) (af (ag 1) ah)))) (oK 2 (dX (hName 7) (dX (hName 8) pA))) (fz (pq "list" i9 (ag 6) (af (aB sG (dB (af (ag 7) ah)) (ag 8)) ah))))
 (aA (jW (aL (aB (j9 true) (aG d8 (af (ag 6) ah)) (ag 5))) (aV (fC (.bl false))) bR)
 (aA (jW (aL (aB (j9 true) (bN (cD (aG uW (af (ag 4) ah))) 3 [] (oK 3 (dX (hName 0) (dX (hName 1) (dX (hName 2) pA)))) b7 (b8 (af (ag 0) (af (ag 1) ah)))) (aG oh (af (aG Au (af (ag 0) (af (ag 1) ah))) ah)))) (aV (fC (.bl false))) bR)
 (aA (fm (cD (ag 2)) (hName 9) (aA (aF (aG FX (af (ag 0) (af (ag 1) (af (aB aE (ag 9) (pj iT (fC (.int 1)))) ah)))) (hName 10))
 (aA (aF (bN (cS (af (aB ni (aG cR (af (ag 10) ah)) (ag 3)) ah)) 1 [3,10] (hName 0) b7 (aB aE (ag 2) (aB jX (ag 1) (ag 0)))) (hName 11))
 (jW (zi (aL (aB (lU true) (aG cR (af (ag 10) ah)) (aB jX (ag 3) (aG cR (af (ag 9) ah))))) (aL (aB (j9 true) (aG d8 (af (ag 11) ah)) (aG d8 (af (ag 9) ah))))) (aV (fC (.bl false))) bR))))
 (aV (fC (.bl true)))))))))))))
abbrev FZ:List D->Dm D:=dW 12 JD
abbrev F0:Stmt:=top 70
def uH:aw ["_law_floor_here","_law_slope_here","_law_rings_here","_law_long","_law_led","_law_lengths","_law_widths","_law_width","_law_height","_law_ring","_law_line","_law_begins"] ["_law_floor_here","_law_slope_here"] (au F0):=by walk
include dj eW bK b5 dn d5 bY cm cO dP a6 bp cN dg gA jF in
def Zs(D:Def K mg "_law_right" F0 ["_law_floor_here","_law_slope_here"] f fd)(T:Txt mg):aD P w K mg base a7 9 f fd ["_law_floor_here","_law_slope_here"] (a9 K 2 FZ):=by
 refine D.F.ok uH (λ_ _ _ _ h=>h.1) (λc A o s H v Q E hr h=>?_);have hu:=hr.units;refine⟨_,((2>>=uH>>=bH eW dj hr ∅ rfl (bH dg cN hr ∅ rfl (pv 0<|pv 1<|ax)<|ax))<|>(3>>=uH>>=iq T5 (by rfl) T.cb mM (bH bp a6 hr ∅ rfl (pv 1<|ax)<|ax))<|>(4>>=uH>>=bH b5 bK hr ∅ rfl (pv 0<|bH cm bY hr ∅ rfl (pv 1<|ax)<|ax))<|>(5>>=uH>>=iq CU (by rfl) T.iU Be (rC (own:=["_law_ring"]) (fr:=[]) (js:=[]) rfl ⟨⟨rfl,by w_fin,by w_fin,by dsimp only[fB,aQ,Cx.oA,Cx.wish,PyProof.Rows.envOfC,compEnvC,relabel,Env.kindOf];decide +kernel,by w_fin⟩,rfl⟩ (o4 (pv 2)) (λ_ _ _ _ _=>(gJ (i:=0) (show((["_law_ring"]:List Str) ++ ([]:List Str)).Nodup by w_fin) rfl (by w_up))) (λ_ _ _ _ _=>rA) (λ_ _ _ _ _=>(iq (Le (K:=K) rfl) (by rfl) T.cb mM (pv 0<|ax)))<|ax))<|>(gb (Bg hu) (pv 5) (iq CU (by rfl) T.iU Be (rC (own:=["_law_row"]) (fr:=[]) (js:=[]) rfl ⟨⟨rfl,by w_fin,by w_fin,by dsimp only[fB,aQ,Cx.oA,Cx.wish,PyProof.Rows.envOfC,compEnvC,relabel,Env.kindOf];decide +kernel,by w_fin⟩,rfl⟩ (o4 (bH eW dj hr ∅ rfl ((bT<*pv 4<*aJ)<|ax))) (λ_ _ _ _ _=>(gJ (i:=0) (show((["_law_row"]:List Str) ++ ([]:List Str)).Nodup by w_fin) rfl (by w_up))) (λ_ _ _ _ _=>rA) (λ_ _ _ _ _=>(iq (Le (K:=K) rfl) (by rfl) T.cb mM (pv 0<|ax)))<|ax)) (aN _)<*>(~~~(@cU _ _ _ _ A6))<*>mG)<|>(6>>=uH>>=(@m9 _ _ _ _ ax))<|>(o4 (bH dP cO hr ∅ rfl (pv 0<|pv 1<|ax))&&&Cj (n:=2) rfl (sv (gJ (i:=7) uH.nd rfl (by w_up)) (sv (gJ (i:=8) uH.nd rfl (by w_up)) A7))&&&(~~~su (qx PySem.F.plainAttrs_list PySem.F.slot_list_extend PySem.F.type_list_extend Og (pv 6) (bI KN (@m9 _ _ _ _ (pv 7<|ax)) (pv 8)<|ax))))<|>(gb (Bg hu) (iq CU (by rfl) T.iU Be (pv 6<|ax)) (pv 5) (aN _)<*>(~~~(@cU _ _ _ _ A6))<*>mG)<|>(gb (Bg hu) (rC (own:=["_law_width","_law_height","_law_band"]) (fr:=[]) (js:=[]) rfl ⟨⟨rfl,by w_fin,by w_fin,by dsimp only[fB,aQ,Cx.oA,Cx.wish,PyProof.Rows.envOfC,compEnvC,relabel,Env.kindOf];decide +kernel,by w_fin⟩,rfl⟩ (o4 (bH d5 dn hr ∅ rfl (pv 4<|ax))) (λ_ _ _ _ _=>(OQ (K:=K) (n:=3) rfl rfl (sv (gJ (i:=0) (show((["_law_width","_law_height","_law_band"]:List Str) ++ ([]:List Str)).Nodup by w_fin) rfl (by w_up)) (sv (gJ (i:=1) (show((["_law_width","_law_height","_law_band"]:List Str) ++ ([]:List Str)).Nodup by w_fin) rfl (by w_up)) (sv (gJ (i:=2) (show((["_law_width","_law_height","_law_band"]:List Str) ++ ([]:List Str)).Nodup by w_fin) rfl (by w_up)) A7))))) (λ_ _ _ _ _=>rA) (λ_ _ _ _ _=>(@jY _ _ _ _ _ (pv 0<|pv 1<|ax)))) (iu G5 (by rfl) T.dZ sy (bH dP cO hr ∅ rfl (pv 0<|pv 1<|ax)<|ax)) (aN _)<*>(~~~(@cU _ _ _ _ A6))<*>mG)<|>(o4 (pv 2)&&&(gJ (i:=9) uH.nd rfl (by w_up))&&&((10>>=uH>>=bH jF gA hr ∅ rfl (pv 0<|pv 1<|(bT<*pv 9<*qa qb aJ)<|ax))<|>(Hi (i:=11) (own:=["_law_k"]) (fr:=["_law_long","_law_line"]) (js:=[3,10]) rfl uH.nd rfl rfl ⟨⟨rfl,by w_fin,by w_fin,by dsimp only[fB,aQ,Cx.oA,Cx.wish,PyProof.Rows.envOfC,compEnvC,relabel,Env.kindOf];decide +kernel,by w_fin⟩,rfl⟩ (tH rfl T.bh (bI Cv (iq nI (by rfl) T.cb mM (pv 10<|ax)) (pv 3)<|ax)) (λ_ _ _ _ _=>(gJ (i:=0) (show((["_law_k"]:List Str) ++ (["_law_long","_law_line"]:List Str)).Nodup by w_fin) rfl (by w_up))) (λ_ _ _ _ _=>rA) (λ_ _ _ _ _=>(vq (K:=K) rfl<*pv 2<*bI qF (pv 1) (pv 0))))<|>(~~~(PW.pt (GV (gb Bb (iq nI (by rfl) T.cb mM (pv 10<|ax)) (bI qF (pv 3) (iq nI (by rfl) T.cb mM (pv 9<|ax))) (aN _)) (Km (gb (Bg hu) (iq CU (by rfl) T.iU Be (pv 11<|ax)) (iq CU (by rfl) T.iU Be (pv 9<|ax)) (aN _))))<*>(~~~(@cU _ _ _ _ A6))<*>mG))))<|>(~~~(@cU _ _ _ _ A6))),?_⟩
 exact d9 (b:=JD) (aY (bw (bG (F:=xV) (ao (bG (F:=Aw) (ao (ai 0) (ao (ai 1) ay)) dD) ay) iK) (aU 2))
  (aY (bw (b6 WD (ao (bG (F:=wt) (ao (ai 1) ay) iK) ay)) (aU 3))
  (aY (bw (bG (F:=Ap) (ao (ai 0) (ao (bG (F:=As) (ao (ai 1) ay) iK) ay)) dD) (aU 4))
  (aY (bw (b6 DW (ao (p5 (pC (ai 2)) (aU 0) rT (b6 nu (ao (ai 0) ay))) ay)) (aU 5))
  (aY (lE (f6 (aC (xF true) (ai 5) (b6 DW (ao (p5 (pC (bG (F:=xV) (ao (aC bJ (ai 4) (aK _)) ay) iK)) (aU 0) rT (b6 nu (ao (ai 0) ay))) ay)))) (cV (Bu _)) mI)
  (aY (bw (nh ay) (aU 6))
  (aY (oS (pC (bG (F:=Au) (ao (ai 0) (ao (ai 1) ay)) dD)) (BD (sI (aU 7) (sI (aU 8) BB))) (sJ (qB QM (ai 6) (ao (aC L8 (nh (ao (ai 7) ay)) (ai 8)) ay))))
  (aY (lE (f6 (aC (xF true) (b6 DW (ao (ai 6) ay)) (ai 5))) (cV (Bu _)) mI)
  (aY (lE (f6 (aC (xF true) (p5 (pC (bG (F:=uW) (ao (ai 4) ay) iK)) (BD (sI (aU 0) (sI (aU 1) (sI (aU 2) BB)))) rT (j3 (ao (ai 0) (ao (ai 1) ay)))) (b6 HR (ao (bG (F:=Au) (ao (ai 0) (ao (ai 1) ay)) dD) ay)))) (cV (Bu _)) mI)
  (aY (oS (pC (ai 2)) (aU 9) (aY (bw (bG (F:=FX) (ao (ai 0) (ao (ai 1) (ao (aC bJ (ai 9) (qj qk (aK _))) ay))) RF) (aU 10))
  (aY (bw (p5 (uy (ao (aC DP (b6 nu (ao (ai 10) ay)) (ai 3)) ay)) (aU 0) rT (aC bJ (ai 2) (aC qS (ai 1) (ai 0)))) (aU 11))
  (lE (HM (f6 (aC Bz (b6 nu (ao (ai 10) ay)) (aC qS (ai 3) (b6 nu (ao (ai 9) ay))))) (f6 (aC (xF true) (b6 DW (ao (ai 11) ay)) (b6 DW (ao (ai 9) ay))))) (cV (Bu _)) mI))))
  (cV (Bu _)))))))))))) rfl h
variable {h9:Addr}{ia:FuncData}(e8:Def K mg "_law_right" F0 ["_law_floor_here","_law_slope_here"] h9 ia)(ib:aD P w K mg base a7 9 h9 ia ["_law_floor_here","_law_slope_here"] (a9 K 2 FZ))
abbrev JE:aj->Dm Fl :=
 (aV (aG bC (af (bN (cD (ag 0)) 1 [1] (hName 0) b7 (aG bC (af (bN (cS (af (aG cR (af (ag 1) ah)) ah)) 1 [0,1] (hName 0) b7 (aB aE (ag 2) (aB aE (ag 1) (pq "tuple" lD (ag 2) (af (ag 0) ah))))) ah))) ah)))
abbrev F3:List D->Dm D:=dW 2 JE
abbrev F4:Stmt:=top 65
def Zt:aw ["_law_floor_here","_law_p"] ["_law_floor_here","_law_p"] (au F4):=by walk
def Zu(D:Def K mg "_law_anew" F4 ["_law_floor_here","_law_p"] f fd)(T:Txt mg):aD P w K mg base a7 1 f fd ["_law_floor_here","_law_p"] (a9 K 2 F3):=by refine D.F.ok Zt (λ_ _ _ _ h=>h.1) (λc A o s H v Q E hr h=>?_);refine⟨_,(~~~(@cU _ _ _ _ (iu o5 (by rfl) T.bB oQ (rC (own:=["_law_turning_here"]) (fr:=["_law_p"]) (js:=[1]) rfl ⟨⟨rfl,by w_fin,by w_fin,by dsimp only[fB,aQ,Cx.oA,Cx.wish,PyProof.Rows.envOfC,compEnvC,relabel,Env.kindOf];decide +kernel,by w_fin⟩,rfl⟩ (o4 (pv 0)) (λ_ _ _ _ _=>(gJ (i:=0) (show((["_law_turning_here"]:List Str) ++ (["_law_p"]:List Str)).Nodup by w_fin) rfl (by w_up))) (λ_ _ _ _ _=>rA) (λ_ _ _ _ _=>(iu (UN (K:=K) rfl) (by rfl) T.bB oQ (rC (own:=["_law_s"]) (fr:=["_law_turning_here","_law_p"]) (js:=[0,1]) rfl ⟨WO ⟨rfl,by w_fin,by w_fin,by dsimp only[fB,Cx.oA,Cx.wish,PyProof.Rows.envOfC];decide +kernel,by w_fin⟩,rfl⟩ (tH rfl T.bh (iq (Le (K:=K) rfl) (by rfl) T.cb mM (pv 1<|ax)<|ax)) (λ_ _ _ _ _=>(gJ (i:=0) (show((["_law_s"]:List Str) ++ (["_law_turning_here","_law_p"]:List Str)).Nodup by w_fin) rfl (by w_up))) (λ_ _ _ _ _=>rA) (λ_ _ _ _ _=>(vq (K:=K) rfl<*pv 2<*(vq (K:=K) rfl<*pv 1<*yJ (K:=K) rfl PySem.F.plainAttrs_tuple PySem.F.slot_tuple_index PySem.F.type_tuple_index (U0 (K:=K) rfl) (pv 2) (pv 0<|ax))))<|ax)))<|ax)))),?_⟩;exact d9 (b:=JE) (cV (b6 pk (ao (p5 (pC (ai 0)) (aU 0) rT (b6 pk (ao (p5 (uy (ao (b6 nu (ao (ai 1) ay)) ay)) (aU 0) rT (aC bJ (ai 2) (aC bJ (ai 1) (qB WK (ai 2) (ao (ai 0) ay))))) ay))) ay))) rfl h
variable {jG:Addr}{jH:FuncData}(gB:Def K mg "_law_anew" F4 ["_law_floor_here","_law_p"] jG jH)(jI:aD P w K mg base a7 1 jG jH ["_law_floor_here","_law_p"] (a9 K 2 F3))
abbrev JF:aj->Dm Fl :=
 (aA (aF (aG fj (af (aG i7 (af (ag 1) ah)) ah)) (hName 2))
 (aA (aF (b8 ah) (hName 3))
 (aA (gi (aL (aB (j9 true) (ag 2) (dB ah))) (aF (aB ka (ag 3) (b8 (af (pq "list" mO (ag 2) (af (aG oN (af (ag 0) (af (aG cR (af (ag 2) ah)) ah))) ah)) ah))) (hName 3)))
 (aV (ag 3)))))
abbrev wy:List D->Dm D:=dW 4 JF
abbrev F5:Stmt:=top 62
def JG:aw ["_law_feed_here","_law_n","_law_left","_law_found"] ["_law_feed_here","_law_n"] (au F5):=by walk
include aO aP in
def Zv(D:Def K mg "_law_turning" F5 ["_law_feed_here","_law_n"] f fd)(T:Txt mg):aD P w K mg base a7 2 f fd ["_law_feed_here","_law_n"] (a9 K 2 wy):=by
 refine D.F.ok JG (λ_ _ _ _ h=>h.1) (λc A o s H v Q E hr h=>?_);have hu:=hr.units;refine⟨_,((2>>=JG>>=iu (vn rfl) (by rfl) T.dZ sy (iu Hd (by rfl) T.bh uR (pv 1<|ax)<|ax))<|>(3>>=JG>>=(@jY _ _ _ _ _ ax))<|>vd PassesOwn.never (gb (Bg hu) (pv 2) (@m9 _ _ _ _ ax) (aN _)) (~~~(3>>=JG>>=bI xf (pv 3) (@jY _ _ _ _ _ (qx PySem.F.plainAttrs_list PySem.F.slot_list_pop PySem.F.type_list_pop T6 (pv 2) (bH aP aO hr ∅ rfl (pv 0<|iq nI (by rfl) T.cb mM (pv 2<|ax)<|ax)<|ax)<|ax))))<|>(~~~(@cU _ _ _ _ (pv 3)))),?_⟩
 exact d9 (b:=JF) (aY (bw (b6 vU (ao (b6 HS (ao (ai 1) ay)) ay)) (aU 2))
  (aY (bw (j3 ay) (aU 3))
  (aY (vX (f6 (aC (xF true) (ai 2) (nh ay))) (bw (aC xG (ai 3) (j3 (ao (qB WJ (ai 2) (ao (bG (F:=oN) (ao (ai 0) (ao (b6 nu (ao (ai 2) ay)) ay)) dD) ay)) ay))) (aU 3)))
  (cV (ai 3))))) rfl h
variable {eN:Addr}{eO:FuncData}(bq:Def K mg "_law_turning" F5 ["_law_feed_here","_law_n"] eN eO)(bL:aD P w K mg base a7 2 eN eO ["_law_feed_here","_law_n"] (a9 K 2 wy))
abbrev JH:aj->Dm Fl :=
 (aA (aF (dB (af (fC (.int 0)) ah)) (hName 1))
 (aA (fm (cS (af (aB dU (fC (.int 1)) (aG cR (af (aB aE (ag 0) (fC (.int 0))) ah))) ah)) (hName 2) (fm (cD (ag 0)) (hName 3) (fm (kc (aG oh (af (ag 1) ah))) (hName 4) (jW (aL (aB (sW true) (aB aE (ag 3) (ag 4)) (ag 1))) (fz (pq "list" cC (ag 1) (af (aB aE (ag 3) (ag 4)) ah))) bR))))
 (aV (ag 1))))
abbrev wz:List D->Dm D:=dW 5 JH
abbrev F6:Stmt:=top 63
def F7:aw ["_law_floor_here","_law_found","_law_turn","_law_turning_here","_law_one"] ["_law_floor_here"] (au F6):=by walk
def Zw(D:Def K mg "_law_met" F6 ["_law_floor_here"] f fd)(T:Txt mg):aD P w K mg base a7 1 f fd ["_law_floor_here"] (a9 K 1 wz):=by
 refine D.F.ok F7 (λ_ _ _ _ h=>h.1) (λc A o s H v Q E hr h=>?_);refine⟨_,((1>>=F7>>=(@m9 _ _ _ _ (aJ<|ax)))<|>(tH rfl T.bh (bI mZ aJ (iq nI (by rfl) T.cb mM ((bT<*pv 0<*aJ)<|ax))<|ax)&&&(gJ (i:=2) F7.nd rfl (by w_up))&&&(~~~(o4 (pv 0)&&&(gJ (i:=3) F7.nd rfl (by w_up))&&&(~~~(Kr (iu G5 (by rfl) T.dZ sy (pv 1<|ax))&&&(gJ (i:=4) F7.nd rfl (by w_up))&&&(~~~(gb G4 (bT<*pv 3<*pv 4) (pv 1) (by with_unfolding_all rfl)<*>(~~~su (qx PySem.F.plainAttrs_list PySem.F.slot_list_append PySem.F.type_list_append tN (pv 1) ((bT<*pv 3<*pv 4)<|ax)))<*>mG)))))))<|>(~~~(@cU _ _ _ _ (pv 1)))),?_⟩
 exact d9 (b:=JH) (aY (bw (nh (ao (aK _) ay)) (aU 1))
  (aY (oS (uy (ao (aC nt (aK _) (b6 nu (ao (aC bJ (ai 0) (aK _)) ay))) ay)) (aU 2) (oS (pC (ai 0)) (aU 3) (oS (L9 (b6 HR (ao (ai 1) ay))) (aU 4) (lE (f6 (aC (DV true) (aC bJ (ai 3) (ai 4)) (ai 1))) (sJ (qB uw (ai 1) (ao (aC bJ (ai 3) (ai 4)) ay))) mI))))
  (cV (ai 1)))) rfl h
variable {kT:Addr}{kU:FuncData}(f9:Def K mg "_law_met" F6 ["_law_floor_here"] kT kU)(iX:aD P w K mg base a7 1 kT kU ["_law_floor_here"] (a9 K 1 wz))
abbrev JI:aj->Dm Fl :=
 (aA (aF (aG oN (af (ag 0) (af (fC (.int 6)) ah))) (hName 2))
 (aA (qm 3 4 (af (aG oh (af (aG wy (af (ag 0) (af (ag 1) ah))) ah)) (af (aG oh (af (aG wy (af (ag 0) (af (ag 1) ah))) ah)) ah)))
 (aA (jW (aL (aB (lU false) (ag 2) (fC (.int 0)))) (aF (aB nC (aG fj (af (aG fE (af (fC (.int 1)) (af (ag 1) ah))) ah)) (dB (af (fC (.int 0)) ah))) (hName 3)) bR)
 (aA (jW (aL (aB (lU false) (ag 2) (fC (.int 1)))) (qm 3 4 (af (aG fj (af (aG i7 (af (ag 1) ah)) ah)) (af (aB nC (aG fj (af (aG fE (af (fC (.int 1)) (af (ag 1) ah))) ah)) (dB (af (fC (.int 0)) ah))) ah))) bR)
 (aA (jW (aL (aB (lU false) (ag 2) (fC (.int 2)))) (aA (aF (aB dU (fC (.int 1)) (aG oN (af (ag 0) (af (ag 1) ah)))) (hName 5))
 (aA (aF (aB nC (aB nC (aG fj (af (aG fE (af (fC (.int 1)) (af (ag 5) ah))) ah)) (dB (af (fC (.int 0)) ah))) (aG fj (af (aG fE (af (ag 5) (af (ag 1) ah))) ah))) (hName 3))
 (aA (aF (vQ qT (aB nC (aB nC (aB nC (dB (af (ag 5) ah)) (aG fj (af (aG fE (af (fC (.int 1)) (af (ag 5) ah))) ah))) (aG fj (af (aG fE (af (aB dU (ag 5) (fC (.int 1))) (af (ag 1) ah))) ah))) (dB (af (fC (.int 0)) ah))) gL (l6 (ag 1))) (hName 4))
 (jW (aL (aB (lU false) (ag 5) (ag 1))) (aF (aG fj (af (aG i7 (af (ag 1) ah)) ah)) (hName 4)) bR)))) bR)
 (aA (aF (b8 (af (aG bC (af (ag 3) ah)) (af (aG bC (af (ag 4) ah)) ah))) (hName 6))
 (aA (aF (bN (cS (af (ag 1) ah)) 1 [6] (hName 0) (aL (aB (sW true) (ag 0) (aG wz (af (ag 1) ah)))) (ag 0)) (hName 7))
 (aA (gi (aL (aB (j9 true) (ag 7) (dB ah))) (aA (aF (aB iz (ag 7) (fC (.int 0))) (hName 8))
 (aA (aF (b8 (af (aB iz (ag 3) (ag 8)) (af (aB iz (ag 3) (fC (.int 0))) ah))) (oK 2 (dX (hSub (ag 3) (fC (.int 0))) (dX (hSub (ag 3) (ag 8)) pA))))
 (aA (aF (b8 (af (aG bC (af (ag 3) ah)) (af (aG bC (af (ag 4) ah)) ah))) (hName 6))
 (aF (bN (cS (af (ag 1) ah)) 1 [6] (hName 0) (aL (aB (sW true) (ag 0) (aG wz (af (ag 1) ah)))) (ag 0)) (hName 7))))))
 (aV (ag 6))))))))))
abbrev F8:List D->Dm D:=dW 9 JI
abbrev F9:Stmt:=top 64
def sd:aw ["_law_feed_here","_law_n","_law_form","_law_right_here","_law_up","_law_wide","_law_found","_law_apart","_law_m"] ["_law_feed_here","_law_n"] (au F9):=by walk
include aO aP bq bL f9 iX in
def Zx(D:Def K mg "_law_floor" F9 ["_law_feed_here","_law_n"] f fd)(T:Txt mg):aD P w K mg base a7 3 f fd ["_law_feed_here","_law_n"] (a9 K 2 F8):=by
 refine D.F.ok sd (λ_ _ _ _ h=>h.1) (λc A o s H v Q E hr h=>?_);have hu:=hr.units;refine⟨_,((2>>=sd>>=bH aP aO hr ∅ rfl (pv 0<|aJ<|ax))<|>(Cn (i:=3) (j:=4) rfl sd.nd rfl rfl ∅ rfl rfl (iu G5 (by rfl) T.dZ sy (bH bL bq hr ∅ rfl (pv 0<|pv 1<|ax)<|ax)<|iu G5 (by rfl) T.dZ sy (bH bL bq hr ∅ rfl (pv 0<|pv 1<|ax)<|ax)<|ax) rfl)<|>(gb pS (pv 2) aJ (aN _)<*>(~~~(3>>=sd>>=bI w4 (iu (vn rfl) (by rfl) T.dZ sy (iu Bf (by rfl) T.bh uR (aJ<|pv 1<|ax)<|ax)) (@m9 _ _ _ _ (aJ<|ax))))<*>mG)<|>(gb pS (pv 2) aJ (aN _)<*>(~~~(Cn (i:=3) (j:=4) rfl sd.nd rfl rfl ∅ rfl rfl (iu (vn rfl) (by rfl) T.dZ sy (iu Hd (by rfl) T.bh uR (pv 1<|ax)<|ax)<|bI w4 (iu (vn rfl) (by rfl) T.dZ sy (iu Bf (by rfl) T.bh uR (aJ<|pv 1<|ax)<|ax)) (@m9 _ _ _ _ (aJ<|ax))<|ax) rfl))<*>mG)<|>(gb pS (pv 2) aJ (aN _)<*>((5>>=sd>>=bI mZ aJ (bH aP aO hr ∅ rfl (pv 0<|pv 1<|ax)))<|>(3>>=sd>>=bI w4 (bI w4 (iu (vn rfl) (by rfl) T.dZ sy (iu Bf (by rfl) T.bh uR (aJ<|pv 5<|ax)<|ax)) (@m9 _ _ _ _ (aJ<|ax))) (iu (vn rfl) (by rfl) T.dZ sy (iu Bf (by rfl) T.bh uR (pv 5<|pv 1<|ax)<|ax)))<|>(4>>=sd>>=G2 Oa (bI w4 (bI w4 (bI w4 (@m9 _ _ _ _ (pv 5<|ax)) (iu (vn rfl) (by rfl) T.dZ sy (iu Bf (by rfl) T.bh uR (aJ<|pv 5<|ax)<|ax))) (iu (vn rfl) (by rfl) T.dZ sy (iu Bf (by rfl) T.bh uR (bI mZ (pv 5) aJ<|pv 1<|ax)<|ax))) (@m9 _ _ _ _ (aJ<|ax))) GZ (G0 (pv 1)))<|>(~~~(gb pS (pv 5) (pv 1) (aN _)<*>(~~~(4>>=sd>>=iu (vn rfl) (by rfl) T.dZ sy (iu Hd (by rfl) T.bh uR (pv 1<|ax)<|ax)))<*>mG)))<*>mG)<|>(6>>=sd>>=(@jY _ _ _ _ _ (iu o5 (by rfl) T.bB oQ (pv 3<|ax)<|iu o5 (by rfl) T.bB oQ (pv 4<|ax)<|ax)))<|>(Hi (i:=7) (own:=["_law_s"]) (fr:=["_law_found"]) (js:=[6]) rfl sd.nd rfl rfl ⟨⟨rfl,by w_fin,by w_fin,by dsimp only[fB,aQ,Cx.oA,Cx.wish,PyProof.Rows.envOfC,compEnvC,relabel,Env.kindOf];decide +kernel,by w_fin⟩,rfl⟩ (tH rfl T.bh (pv 1<|ax)) (λ_ _ _ _ _=>(gJ (i:=0) (show((["_law_s"]:List Str) ++ (["_law_found"]:List Str)).Nodup by w_fin) rfl (by w_up))) (λ_ _ _ _ _=>(He (gb (OL (K:=K) rfl) (pv 0) (bH iX f9 hr ∅ rfl (pv 1<|ax)) (by with_unfolding_all rfl)))) (λ_ _ _ _ _=>(pv 0)))<|>vd PassesOwn.never (gb (Bg hu) (pv 7) (@m9 _ _ _ _ ax) (aN _)) ((8>>=sd>>=(pT<*pv 7<*aJ))<|>Ck (@jY _ _ _ _ _ ((pT<*pv 3<*pv 8)<|(pT<*pv 3<*aJ)<|ax)) (Cj (n:=2) rfl (sv (A8 (pv 3) aJ Bc) (sv (A8 (pv 3) (pv 8) Bc) A7)))<|>(6>>=sd>>=(@jY _ _ _ _ _ (iu o5 (by rfl) T.bB oQ (pv 3<|ax)<|iu o5 (by rfl) T.bB oQ (pv 4<|ax)<|ax)))<|>(~~~(Hi (i:=7) (own:=["_law_s"]) (fr:=["_law_found"]) (js:=[6]) rfl sd.nd rfl rfl ⟨⟨rfl,by w_fin,by w_fin,by dsimp only[fB,aQ,Cx.oA,Cx.wish,PyProof.Rows.envOfC,compEnvC,relabel,Env.kindOf];decide +kernel,by w_fin⟩,rfl⟩ (tH rfl T.bh (pv 1<|ax)) (λ_ _ _ _ _=>(gJ (i:=0) (show((["_law_s"]:List Str) ++ (["_law_found"]:List Str)).Nodup by w_fin) rfl (by w_up))) (λ_ _ _ _ _=>(He (gb (OL (K:=K) rfl) (pv 0) (bH iX f9 hr ∅ rfl (pv 1<|ax)) (by with_unfolding_all rfl)))) (λ_ _ _ _ _=>(pv 0)))))<|>(~~~(@cU _ _ _ _ (pv 6)))),?_⟩
 exact d9 (b:=JI) (aY (bw (bG (F:=oN) (ao (ai 0) (ao (aK _) ay)) dD) (aU 2))
  (aY (DY (ao (b6 HR (ao (bG (F:=wy) (ao (ai 0) (ao (ai 1) ay)) dD) ay)) (ao (b6 HR (ao (bG (F:=wy) (ao (ai 0) (ao (ai 1) ay)) dD) ay)) ay)))
  (aY (lE (f6 (aC pZ (ai 2) (aK _))) (bw (aC xH (b6 vU (ao (b6 BA (ao (aK _) (ao (ai 1) ay))) ay)) (nh (ao (aK _) ay))) (aU 3)) mI)
  (aY (lE (f6 (aC pZ (ai 2) (aK _))) (DY (ao (b6 vU (ao (b6 HS (ao (ai 1) ay)) ay)) (ao (aC xH (b6 vU (ao (b6 BA (ao (aK _) (ao (ai 1) ay))) ay)) (nh (ao (aK _) ay))) ay))) mI)
  (aY (lE (f6 (aC pZ (ai 2) (aK _))) (aY (bw (aC nt (aK _) (bG (F:=oN) (ao (ai 0) (ao (ai 1) ay)) dD)) (aU 5))
  (aY (bw (aC xH (aC xH (b6 vU (ao (b6 BA (ao (aK _) (ao (ai 5) ay))) ay)) (nh (ao (aK _) ay))) (b6 vU (ao (b6 BA (ao (ai 5) (ao (ai 1) ay))) ay))) (aU 3))
  (aY (bw (HQ QE (aC xH (aC xH (aC xH (nh (ao (ai 5) ay)) (b6 vU (ao (b6 BA (ao (aK _) (ao (ai 5) ay))) ay))) (b6 vU (ao (b6 BA (ao (aC nt (ai 5) (aK _)) (ao (ai 1) ay))) ay))) (nh (ao (aK _) ay))) HN (HP (ai 1))) (aU 4))
  (lE (f6 (aC pZ (ai 5) (ai 1))) (bw (b6 vU (ao (b6 HS (ao (ai 1) ay)) ay)) (aU 4)) mI)))) mI)
  (aY (bw (j3 (ao (b6 pk (ao (ai 3) ay)) (ao (b6 pk (ao (ai 4) ay)) ay))) (aU 6))
  (aY (bw (p5 (uy (ao (ai 1) ay)) (aU 0) (f6 (aC (DV true) (ai 0) (bG (F:=wz) (ao (ai 1) ay) iK))) (ai 0)) (aU 7))
  (aY (vX (f6 (aC (xF true) (ai 7) (nh ay))) (aY (bw (aC p4 (ai 7) (aK _)) (aU 8))
  (aY (bw (j3 (ao (aC p4 (ai 3) (ai 8)) (ao (aC p4 (ai 3) (aK _)) ay))) (BD (sI (BE (ai 3) (aK _)) (sI (BE (ai 3) (ai 8)) BB))))
  (aY (bw (j3 (ao (b6 pk (ao (ai 3) ay)) (ao (b6 pk (ao (ai 4) ay)) ay))) (aU 6))
  (bw (p5 (uy (ao (ai 1) ay)) (aU 0) (f6 (aC (DV true) (ai 0) (bG (F:=wz) (ao (ai 1) ay) iK))) (ai 0)) (aU 7))))))
  (cV (ai 6)))))))))) rfl h
variable {ic:Addr}{ie:FuncData}(fe:Def K mg "_law_floor" F9 ["_law_feed_here","_law_n"] ic ie)(ig:aD P w K mg base a7 3 ic ie ["_law_feed_here","_law_n"] (a9 K 2 F8))
abbrev JJ:aj->Dm Fl :=
 (aA (aF (aB dU (fC (.int 1)) (aG oN (af (ag 0) (af (ag 1) ah)))) (hName 2))
 (aV (aG F3 (af (aG F8 (af (ag 0) (af (ag 2) ah))) (af (aG wy (af (ag 0) (af (ag 2) ah))) ah)))))
abbrev Ga:List D->Dm D:=dW 3 JJ
abbrev Gb:Stmt:=top 66
def RL:aw ["_law_feed_here","_law_most","_law_n"] ["_law_feed_here","_law_most"] (au Gb):=by walk
include aO aP gB jI bq bL fe ig in
def Zy(D:Def K mg "_law_drawn" Gb ["_law_feed_here","_law_most"] f fd)(T:Txt mg):aD P w K mg base a7 4 f fd ["_law_feed_here","_law_most"] (a9 K 2 Ga):=by
 refine D.F.ok RL (λ_ _ _ _ h=>h.1) (λc A o s H v Q E hr h=>?_);refine⟨_,((2>>=RL>>=bI mZ aJ (bH aP aO hr ∅ rfl (pv 0<|pv 1<|ax)))<|>(~~~(@cU _ _ _ _ (bH jI gB hr ∅ rfl (bH ig fe hr ∅ rfl (pv 0<|pv 2<|ax)<|bH bL bq hr ∅ rfl (pv 0<|pv 2<|ax)<|ax))))),?_⟩
 exact d9 (b:=JJ) (aY (bw (aC nt (aK _) (bG (F:=oN) (ao (ai 0) (ao (ai 1) ay)) dD)) (aU 2))
  (cV (bG (F:=F3) (ao (bG (F:=F8) (ao (ai 0) (ao (ai 2) ay)) dD) (ao (bG (F:=wy) (ao (ai 0) (ao (ai 2) ay)) dD) ay)) dD))) rfl h
variable {ik:Addr}{il:FuncData}(ff:Def K mg "_law_drawn" Gb ["_law_feed_here","_law_most"] ik il)(ip:aD P w K mg base a7 4 ik il ["_law_feed_here","_law_most"] (a9 K 2 Ga))
abbrev JK:aj->Dm Fl :=
 (aA (aF (dB ah) (hName 1))
 (aA (fm (cS (af (aG oi (af (fC (.int 2)) (af (aG rS (af (fC (.int 5)) (af (aG cR (af (ag 0) ah)) ah))) ah))) ah)) (hName 2) (aA (aF (aG Ew (af (ag 0) (af (ag 2) ah))) (hName 3))
 (aA (aF (aG EC (af (ag 3) (af (aB iz (dB (af (fC (.int 6)) (af (fC (.int 12)) (af (fC (.int 24)) ah)))) (aG oN (af (ag 3) (af (fC (.int 3)) ah)))) ah))) (hName 4))
 (fz (pq "list" cC (ag 1) (af (b8 (af (aG Ga (af (ag 3) (af (fC (.int 8)) ah))) (af (ag 4) ah))) ah))))))
 (aV (aG ql (af (bN (kc (aB nC (ag 1) (vQ qT (ag 1) gL (l6 (fC (.int 1)))))) 2 [] (oK 2 (dX (hName 0) (dX (hName 1) pA))) b7 (aG FZ (af (ag 0) (af (ag 1) ah)))) ah)))))
abbrev MG:List D->Dm D:=dW 5 JK
abbrev JL:Stmt:=top 71
def Ge:aw ["_law_script","_law_some","_law_k","_law_feed_here","_law_slope_here"] ["_law_script"] (au JL):=by walk
include gj jd aO aP eV gP e8 ib ff ip in
def Ax(D:Def K mg "law" JL ["_law_script"] f fd)(T:Txt mg):aD P w K mg base a7 10 f fd ["_law_script"] (a9 K 1 MG):=by
 refine D.F.ok Ge (λ_ _ _ _ h=>h.1) (λc A o s H v Q E hr h=>?_);refine⟨_,((1>>=Ge>>=(@m9 _ _ _ _ ax))<|>(tH rfl T.bh (iq (Kv rfl) (by rfl) T.uF K0 (aJ<|iq (TF rfl) (by rfl) T.uG K1 (aJ<|iq nI (by rfl) T.cb mM (pv 0<|ax)<|ax)<|ax)<|ax)&&&(gJ (i:=2) Ge.nd rfl (by w_up))&&&((3>>=Ge>>=bH jd gj hr ∅ rfl (pv 0<|pv 2<|ax))<|>(4>>=Ge>>=bH gP eV hr ∅ rfl (pv 3<|(pT<*(@m9 _ _ _ _ (aJ<|aJ<|aJ<|ax))<*bH aP aO hr ∅ rfl (pv 3<|aJ<|ax))<|ax))<|>(~~~su (qx PySem.F.plainAttrs_list PySem.F.slot_list_append PySem.F.type_list_append tN (pv 1) ((@jY _ _ _ _ _ (bH ip ff hr ∅ rfl (pv 3<|aJ<|ax)<|pv 4<|ax))<|ax)))))<|>(~~~(@cU _ _ _ _ (iq (OI rfl) (by rfl) T.xU Ov (rC (own:=["_law_floor_here","_law_slope_here"]) (fr:=[]) (js:=[]) rfl ⟨⟨rfl,by w_fin,by w_fin,by dsimp only[fB,aQ,Cx.oA,Cx.wish,PyProof.Rows.envOfC,compEnvC,relabel,Env.kindOf];decide +kernel,by w_fin⟩,rfl⟩ (Kr (bI w4 (pv 1) (G2 Oa (pv 1) GZ (G0 aJ)))) (λ_ _ _ _ _=>(OQ (K:=K) (n:=2) rfl rfl (sv (gJ (i:=0) (show((["_law_floor_here","_law_slope_here"]:List Str) ++ ([]:List Str)).Nodup by w_fin) rfl (by w_up)) (sv (gJ (i:=1) (show((["_law_floor_here","_law_slope_here"]:List Str) ++ ([]:List Str)).Nodup by w_fin) rfl (by w_up)) A7)))) (λ_ _ _ _ _=>rA) (λ_ _ _ _ _=>(bH ib e8 hr ∅ rfl (pv 0<|pv 1<|ax)))<|ax))))),?_⟩
 exact d9 (b:=JK) (aY (bw (nh ay) (aU 1))
  (aY (oS (uy (ao (b6 L6 (ao (aK _) (ao (b6 WE (ao (aK _) (ao (b6 nu (ao (ai 0) ay)) ay))) ay))) ay)) (aU 2) (aY (bw (bG (F:=Ew) (ao (ai 0) (ao (ai 2) ay)) dD) (aU 3))
  (aY (bw (bG (F:=EC) (ao (ai 3) (ao (aC p4 (nh (ao (aK _) (ao (aK _) (ao (aK _) ay)))) (bG (F:=oN) (ao (ai 3) (ao (aK _) ay)) dD)) ay)) dD) (aU 4))
  (sJ (qB uw (ai 1) (ao (j3 (ao (bG (F:=Ga) (ao (ai 3) (ao (aK _) ay)) dD) (ao (ai 4) ay))) ay))))))
  (cV (b6 QL (ao (p5 (L9 (aC xH (ai 1) (HQ QE (ai 1) HN (HP (aK _))))) (BD (sI (aU 0) (sI (aU 1) BB))) rT (bG (F:=FZ) (ao (ai 0) (ao (ai 1) ay)) dD)) ay))))) rfl h
end
def wA{st:Store}{f:Nat}{n:Int}(hf:bS st f)(h0:0<n)(h1:n<1073741824):Wp (oN [.ref f,.int n] st) λd st'=>∃k:Int,d=.int k/\0<=k/\k<n/\bS st' f/\Ex [f] st st':=by obtain⟨o,m,e,o0,m0,m1⟩:=hf;have hfl:=gM e;refine dY ?_;show Ws (Iq [some (.ref f),some (.int n),none,none] st) _ _ _ _;unfold Iq;refine aW (kZ ?_);exists c9 e,mQ e;refine⟨λho=>?_,λho=>?_⟩;refine aW (bD ?_);exists c9 e;refine⟨h0,aW (BH ?_)⟩;exists c9 e,mQ e,(show mH [D.int o,D.int m].length 0=some 0 from Ep);refine⟨⟨h0,h1⟩,c4 ?_⟩;w_how;refine⟨Zbv _ ⋯,ZbO _ h0,⟨o / n,m,?_,Int.ediv_nonneg o0 ⋯,m0,m1⟩,Ex.refl.put (by simp)⟩;rw[Zao hfl];refine mJ (aW (bD ?_));exists c9 e;refine⟨by lk,by lk,aW (BH ?_)⟩;exists c9 e,mQ e,(show mH [D.int o,D.int m].length 1=some 1 from Er);refine⟨by lk,by lk,c4 ?_⟩;have e2:(st.set f (.lst [.int o,.int ((m*48271 % 2147483647*40692+30103) % 2147483399+1)]))[f]?=some (.lst [.int o,.int ((m*48271 % 2147483647*40692+30103) % 2147483399+1)]):=Zao hfl;exists c9 e2;refine⟨by lk,by lk,h0,Zbv _ ⋯,ZbO _ h0,⟨_,_,e2,o0,by lk,by lk⟩,Ex.refl.put (by simp)⟩
def Zz{st:Store}{a:Nat}{ns:List Int}{k:Nat}(hs:items st a=some (ns.map D.int))(hk:k<=100):Wp (Ew [.ref a,.int (k:Int)] st) λd st'=>d=.ref st.length/\bS st' st.length/\Ex [] st st':=by
 refine dY ?_;show Ws (Ip [some (.ref a),some (.int (k:Int)),none,none] st) _ _ _ _;unfold Ip;refine aW (bD ?_);w_how;refine⟨by lk,aW (BG (N:=λδ st1=>st1=st/\∃c:Int,δ=[some (.ref a),some (.int (k:Int)),some (.int c),none]) (kZ ?_) ?_)⟩;exists hs;refine⟨λh=>bD ?_,λh=>kZ ?_⟩;have h:=of_decide_eq_true h;rw[Zaa]at h;exists hs;refine⟨.int (ns[k]'⋯),uQ (by rw[Zal,Zab];rfl),_,rfl⟩;exists hs;refine⟨λh=>bD ?_,λh=>mJ ⟨rfl,_,rfl⟩⟩;have h:=of_decide_eq_true h;obtain⟨v,hv,hm⟩:=yF (xs:=ns.map D.int) (i:=(k:Int) % ((ns.map D.int).length:Int)) (Zbv _ ⋯) (ZbO _ h);obtain⟨c,_,rfl⟩:=Zah.mp hm;exists hs;refine⟨h,_,hv,?_⟩;w_how;exact⟨by lk,by lk,by lk,_,rfl⟩;rintro δ st1 ⟨rfl,c,rfl⟩;refine aW (bD ?_);w_how;refine aW (BG (N:=λδ st2=>st2=st1/\∃o:Int,0<=o/\δ=[some (.ref a),some (.int (k:Int)),some (.int c),some (.int o)]) (kZ ?_) ?_);w_how;refine⟨by decide,λh=>bD ?_,λh=>mJ ⟨rfl,0,by decide,rfl⟩⟩;have h:=of_decide_eq_true h;w_how;exact⟨c,Int.le_trans ∅ h,rfl⟩;rintro δ st2 ⟨rfl,o,o0,rfl⟩;refine c4 ?_;w_how;have h1:0<=c % 2147483629:=Zbv _ ∅;have h2:c % 2147483629<2147483629:=ZbO _ ∅;refine⟨by lk,by lk,by lk,by lk,by lk,by rfl,⟨_,_,ke,o0,?_,?_⟩,Ex.cf _⟩
 have:=Zbv ((c % 2147483629*48271+40692*(k:Int)) ^ (5:Int).toNat) (show(2147483629:Int)≠0 by decide)
 lk
 have:=ZbO ((c % 2147483629*48271+40692*(k:Int)) ^ (5:Int).toNat) (show(0:Int)<2147483629 by decide)
 lk
def MH{st:Store}{f:Nat}{n:Nat}(hf:bS st f)(hn:n<=100):Wp (wy [.ref f,.int (n:Int)] st) λd st'=>∃xs:List Int,d=.tup (xs.map D.int)/\ae.Tn n xs/\bS st' f/\Ex [f] st st':=by
 have hfl:=hf.lt;refine dY ?_;show Ws (JF [some (.ref f),some (.int (n:Int)),none,none] st) _ _ _ _;unfold JF;refine aW (bD ?_);w_how;have e1:((n:Int)-0).toNat=n:=by lk
 rw[e1,xP];refine⟨by unfold sH;rw[ZaD,decide_eq_true_eq];exact⟨by lk,j4 ⋯⟩,aW (bD ?_)⟩;w_how;refine⟨rfl,aW (vY (λm δ st2=>∃L xs:List Int,m=L.length/\δ=[some (.ref f),some (.int (n:Int)),some (.ref (st ++ [O.jR 0 (n:Int)]).length),some (.tup (xs.map D.int))]/\st2[(st ++ [O.jR 0 (n:Int)]).length]?=some (.lst (L.map D.int))/\(xs ++ L).Perm (ae.upto n)/\bS st2 f/\Ex [f] st st2) n (ZaT hn ∅) ⟨ae.upto n,[],(ae.qN n).symm,rfl,ke,Zbh _,hf.keep ((Ex.cf _).app _),(Ex.cf _).app _⟩ ?_)⟩;have hl:(st ++ [O.jR 0 (n:Int)]).length≠f:=by rw[Zaj];lk
 have hls:st.length<=(st ++ [O.jR 0 (n:Int)]).length:=by rw[Zaj];lk
 generalize (st ++ [O.jR 0 (n:Int)]).length=l at hl hls ⊢;rintro m δ st2 ⟨L,xs,rfl,rfl,hL,pm,hf2,k2⟩;have hlen:(xs ++ L).length=n:=by rw[pm.length_eq,ae.qN]
 rw[Zaj]at hlen;refine bM ?_;intro cG hQ;exists Q0 (L:=L) (M:=[]) (st:=st2 ++ [O.lst []]) (c9 (nz hL)) pE;refine⟨rfl,hQ _ _ ⟨λh=>?_,λh=>?_⟩⟩;have hne:L≠[]:=by simpa using h
 have hpos:0<L.length:=ZbG.mpr hne;have JM:(st2 ++ [O.lst []])[l]?=some (.lst (L.map D.int)):=nz hL;have f3:bS (st2 ++ [O.lst []]) f:=hf2.keep (Ex.cf _);have k3:Ex [f] st (st2 ++ [O.lst []]):=k2.app _;generalize (st2 ++ [O.lst []])=st3 at JM f3 k3 ⊢;refine bD ?_;refine bM ?_;intro cG hQ;exists c9 JM;refine⟨rX (by rw[c9 JM];rfl),?_⟩;refine aR (wA (n:=((L.map D.int).length:Int)) f3 (by rw[Zaa];lk) (by rw[Zaa];lk)) ?_;rintro d kW ⟨k,rfl,k0,k1,f4,k4⟩;rw[Zaa]at k1;have JN:=k4.keep _ _ JM (by simpa using hl);have qe:k.toNat<L.length:=by lk
 exists mQ JN;have hk':((k.toNat:Nat):Int)=k:=ZaN k0;refine⟨by lk,k.toNat,?_,D.int L[k.toNat],by rw[Zal,Zab qe];rfl,rfl,j4 ?_,hQ _ _ ⟨(L.eraseIdx k.toNat).length,?_,L.eraseIdx k.toNat,xs ++ [L[k.toNat]],rfl,?_,?_,?_,?_,?_⟩⟩;rw[<- hk',Zau];exact(KC (CV (by rw[Zaa];exact qe))).1;simp only[Zaa,Zaz,ZbB];lk;rw[List.length_eraseIdx,if_pos qe];lk;rw[Zaw];rfl;rw[Zao (gM JN),XH];refine List.Perm.trans ?_ pm;rw[Zbq];exact List.Perm.append_left xs (XI qe);exact f4.ne hl;exact(k3.trans k4).loc hls;have he:L=[]:=by simpa using h
 subst he;refine c4 ?_;k_lt hQ;exact hQ _ _ ⟨xs,rfl,by simpa[ae.Tn]using pm,hf2.keep (Ex.cf _),k2.app _⟩
def ZA{st:Store}{xs ys:List Int}{n:Nat}(tx:ae.Tn n xs)(ty:ae.Tn n ys)(n0:0<n)(hn:n<=100):Wp (wz [bE xs ys] st) λd st'=>∃(g:Nat) (F:List Int),d=.ref g/\items st' g=some (F.map D.int)/\(∀x,x∈F↔ae.iP xs ys x)/\F.length<=n/\ae.Od xs ys F/\Ex [] st st':=by
 have hlx:=tx.length;have Gf:=ty.length;refine dY ?_;show Ws (JH [some (bE xs ys),none,none,none,none] st) _ _ _ _;unfold JH;refine aW (bD ?_);k_lt hQ;refine⟨rfl,hQ _ _ (aW (oU (aH 0 (n+1)) (λi δ st2=>∃(v2 v3 v4:Option D) (F:List Int),δ=[some (bE xs ys),some (.ref st.length),v2,v3,v4]/\st2[st.length]?=some (.lst (F.map D.int))/\ae.Fo xs ys F/\(ae.Cl xs ys F\/i+1<=F.length)/\Ex [] st st2) ?_ ?_ ?_ ?_))⟩;unfold bE;k_lt hQ;have e0:((1:Int)+((xs.map D.int).length:Int)).toNat=n+1:=by rw[Zaa];lk
 refine⟨by rw[Zaa];lk,hQ _ _ ⟨by rw[e0],none,none,none,[0],rfl,ke,ae.Fo.one xs ys,.inr (Zad _),Ex.cf _⟩⟩;rw[lr];lk;rintro i d δ st2 hd ⟨v2,v3,v4,F,rfl,Gg,hF,hcl,k2⟩;k_lt hQ
 refine hQ _ _ (oU [.tup (xs.map D.int),.tup (ys.map D.int)] (λm δ st3=>∃ (v3 v4:Option D) (G:List Int),δ=[some (bE xs ys),some (.ref st.length),some d,v3,v4]/\st3[st.length]?=some (.lst (G.map D.int))/\ae.Fo xs ys G /\
   (m=0->G=F)/\(m=1->F <+: G/\∀x∈F,ae.app xs x∈G)/\(2<=m->∃F1,F <+: F1/\F1 <+: G/\(∀x∈F,ae.app xs x∈F1)/\∀x∈F1,ae.app ys x∈G)/\Ex [] st st3) ?_ (by simp) ?_ ?_)
 unfold bE;k_lt hQ;exact hQ _ _ ⟨rfl,v3,v4,F,rfl,Gg,hF,λ_=>rfl,λz=>by lk,λz=>by lk,k2⟩;rintro m z δ st3 hm ⟨v3,v4,G,rfl,Gh,hG,m0,m1,_,k3⟩;have hm2:m<2:=gM hm;obtain⟨zs,rfl,hz,em⟩:∃(zs:List Int),z=.tup (zs.map D.int)/\(zs=xs\/zs=ys)/\((m=0/\zs=xs)\/(m=1/\zs=ys)):=by
  rcases(show m=0\/m=1 by lk)with rfl|rfl
  exact⟨xs,by simpa using hm.symm,.inl rfl,.inl ⟨rfl,rfl⟩⟩;exact⟨ys,by simpa using hm.symm,.inr rfl,.inr ⟨rfl,rfl⟩⟩
 have tz:ae.Tn n zs:=by rcases hz with rfl|rfl;exact tx;exact ty
 have RM:=tz.length;have go:∀x,ae.iP xs ys x->ae.iP xs ys (ae.app zs x):=λx h=>by rcases hz with rfl|rfl;exact h.r;exact h.u
 k_lt hQ;refine hQ _ _ (W8 (G.map D.int) st3.length (λj δ kW=>∃(v4:Option D) (G':List Int),δ=[some (bE xs ys),some (.ref st.length),some d,some (.tup (zs.map D.int)),v4]/\kW[st.length]?=some (.lst (G'.map D.int))/\kW[st3.length]?=some (.lst (G.map D.int))/\ae.Fo xs ys G'/\G <+: G'/\(∀i',i' < j->∀x,G[i']?=some x->ae.app zs x∈G')/\Ex [] st kW) ?_ ?_ ?_ ?_ ?_);refine bM ?_;intro cG hQ;exists c9 Gh;exact hQ _ _ ⟨rfl,v4,G,rfl,nz Gh,ke,hG,Zb7 _,λi' h=>absurd h (ZaY _),k3.app _⟩;rw[Zaa]
 have:=hG.len tx ty n0;lk
 rintro j δ kW ⟨_,_,_,_,h,_⟩;exact c9 h;rintro j y0' δ kW hj0 ⟨v4,G',rfl,Ay,MI,Az,pG,hd',k4⟩;obtain⟨y,hj,rfl⟩:=HZ hj0;have hjl:=gM hj;have hR:=hG.mt _ (Zak hj);obtain⟨y0,y1⟩:=hR.bound tx ty n0;have at':=rY (xs:=zs) y0 (by rw[RM];exact y1);have hnext:∀JO:List Int,G' <+: JO->ae.app zs y∈JO->∀i',i' < j+1->∀x,G[i']?=some x->ae.app zs x∈JO:=λJO p h i' hi' x hx=>by
  by_cases e:i'=j;subst e;rw[hj]at hx;cases hx;exact h;exact p.subset (hd' i' ⋯ x hx)
 k_lt hQ;refine hQ _ _ (kZ ?_);refine bM ?_;intro lI cg;exists at',Ic (st:=kW) (c:=.ref st.length) (ns:=G') (c9 Ay);refine cg _ _ ⟨λhcn=>?_,λhcn=>?_⟩;have hnm:ae.app zs y ∉ G':=λz=>by rw[Za4.mpr z]at hcn;cases hcn
 have RN:ae.Fo xs ys (G' ++ [ae.app zs y]):=by
  refine⟨⟨ZbQ _ Az.z,?_,λx hx=>?_⟩,Az.od.snoc (pG.subset (Zak hj)) (hz.imp (λe=>by rw[e]) λe=>by rw[e])⟩;rw[ZbP];refine⟨Az.nd,by simp,λx hx y' hy e=>hnm ?_⟩;have e2:y'=ae.app zs y:=by simpa using hy
  rw[<- e2,<- e];exact hx;rcases ZaF.mp hx with h|h
  exact Az.mt x h;have e2:x=ae.app zs y:=by simpa using h
  rw[e2];exact go _ hR
 have hlen2:=RN.len tx ty n0;rw[Zaj]at hlen2;refine sL ?_;refine bM ?_;intro Gi uI;exists at',mQ Ay;refine⟨rX (by rw[c9 Ay];rfl),j4 (by rw[Zaa];simp at hlen2;lk),uI _ _ ⟨_,G' ++ [ae.app zs y],rfl,?_,?_,RN,pG.trans (ZcB _ _),hnext _ (ZcB _ _) (by simp),k4.loc (Zad _)⟩⟩;rw[Zao (gM Ay),Zaw];rfl;rw[ZaG (by have:=gM Gh;lk)];exact MI;have hcn:G'.contains (ae.app zs y)=true:=by simpa using hcn
 exact mJ ⟨_,G',rfl,Ay,MI,Az,pG,hnext G' (Zb7 _) (Za4.mp hcn),k4⟩;rintro δ kW ⟨v4,G',rfl,Ay,MI,Az,pG,hd',k4⟩;rw[Zaa]at hd';have hall:∀x∈G,ae.app zs x∈G':=λx hx=>by
  obtain⟨i',hi',e⟩:=Za8 hx;exact hd' i' hi' x (by rw[Zab hi',e])
 refine⟨_,_,G',rfl,Ay,Az,λz=>by lk,λz=>?_,λz=>?_,k4⟩;rcases em with⟨rfl,rfl⟩|⟨rfl,_⟩
 have:=m0 rfl
 subst this;exact⟨pG,hall⟩;lk;rcases em with⟨rfl,_⟩|⟨rfl,rfl⟩
 lk;obtain⟨p1,c1⟩:=m1 rfl;exact⟨G,p1,pG,c1,hall⟩;rintro δ st3 ⟨v3,v4,G,rfl,Gh,hG,_,_,m2,k3⟩;obtain⟨F1,p1,p2,c1,c2⟩:=m2 (Zad 2);exact⟨_,_,_,G,rfl,Gh,hG,ae.round hF.toFd hG.toFd p1 p2 c1 c2 hcl,k3⟩;rintro δ st2 ⟨v2,v3,v4,F,rfl,Gg,hF,hcl,k2⟩;rw[lr]at hcl;have hl:=hF.len tx ty n0;have hc:ae.Cl xs ys F:=hcl.resolve_right ⋯;refine c4 ?_;k_lt hQ;exact hQ _ _ ⟨_,F,rfl,c9 Gg,λx=>⟨hF.mt x,λh=>hc.all hF.z h⟩,hl,hF.od,k2⟩
def ZC{st:Store}{xs ys:List Int}{n:Nat}(tx:ae.Tn n xs)(ty:ae.Tn n ys)(n0:0<n)(hn:n<=100):Wp (wz [bE xs ys] st) λd st'=>∃(g:Nat) (F:List Int),d=.ref g/\items st' g=some (F.map D.int)/\(∀x,x∈F↔ae.iP xs ys x)/\F.length<=n/\Ex [] st st' :=
 aR (ZA tx ty n0 hn) λd st' ⟨g,F,h1,h2,h3,h4,_,h5⟩=>⟨g,F,h1,h2,h3,h4,h5⟩
def RO{st:Store}{δ:aj}{X Y:List Int}{n:Nat}{Q:D->Store->Prop}(tX:ae.Tn n X)(tY:ae.Tn n Y)(n0:0<n)(hn:n<=100)(h1:δ[1]?=some (some (.int (n:Int))))(h6:δ[6]?=some (some (bE X Y)))
  (q:∀(L:List Int) (st':Store),L.length<=n->L.Nodup->(∀x,x∈L↔(0<=x/\x<(n:Int)/\¬ae.iP X Y x))->Ex [] st st'->Q (.ref st'.length) (st' ++ [.lst (L.map D.int)])) :
  Wp (bN (cS (af (ag 1) ah)) 1 [6] (hName 0) (aL (aB (sW true) (ag 0) (aG wz (af (ag 1) ah)))) (ag 0) δ st) Q:=by
 have ZD:δ.getD 6 none=some (bE X Y):=by rw[Zaf,h6];rfl
 refine BI (aH 0 n) (λj zs δ' eh=>∃(v:Option D) (L:List Int),δ'=[v,some (bE X Y)]/\zs=L.map D.int/\L.length<=j/\L.Nodup/\(∀x,x∈L↔(0<=x/\x<(j:Int)/\¬ae.iP X Y x))/\Ex [] st eh) ?_ (by rw[lr];lk) ?_ ?_ ?_;refine bM ?_;intro cG hQ;exists h1;refine⟨by lk,hQ _ _ ⟨λi ys δ st hi _=>?_,none,[],?_,rfl,Zad _,List.nodup_nil,λx=>⟨(λh=>nomatch h),λh=>by lk⟩,Ex.refl⟩⟩;rw[Zau];show(if i<=(aH 0 n).length then some (aH 0 n)[i]? else none)=_;rw[if_pos hi];unfold oT;simp only[Zay,ZaZ,ZD];rfl;rintro j zs δ' eh ⟨v,L,_,rfl,hl,_⟩;rw[Zaa];exact hl;rintro j d zs δ' eh hd ⟨v,L,rfl,rfl,wB,nd,hL,k8⟩;have hjl:=gM hd;rw[lr]at hjl;rw[D0 hjl]at hd;cases hd;rw[ZbN];k_lt hQ;refine hQ _ _ ?_;k_lt cg;refine aR (ZC (st:=eh) tX tY n0 hn) ?_;rintro d oC ⟨g,F,rfl,hg,hF,hFl,k9⟩;rw[Ic (c:=.ref g) (ns:=F) hg];refine⟨_,rfl,cg _ _ ⟨λhc=>?_,λhc=>?_⟩⟩;have hR:¬ae.iP X Y (j:Int):=λh=>by rw[Za4.mpr ((hF _).mpr h)]at hc;cases hc
 k_lt uI;refine uI _ _ ⟨_,L ++ [(j:Int)],rfl,by rw[Zaw];rfl,by rw[Zaj];simp;lk,?_,λx=>?_,k8.trans k9⟩;rw[ZbP];refine⟨nd,by simp,λx hx y hy e=>?_⟩;have e2:y=(j:Int):=by simpa using hy
 have:=((hL x).mp hx).2.1;lk
 rw[ZaF,hL x];constructor;rintro(⟨a1,a2,a3⟩|h);exact⟨a1,by lk,a3⟩;have e2:x=(j:Int):=by simpa using h
 rw[e2];exact⟨by lk,by lk,hR⟩;rintro⟨a1,a2,a3⟩;rcases Int.lt_or_le x (j:Int)with h|h
 exact .inl ⟨a1,h,a3⟩;exact .inr (by simp;lk);have hc:F.contains (j:Int)=true:=by simpa using hc
 have hR:=(hF _).mp (Za4.mp hc);refine⟨_,L,rfl,rfl,by lk,nd,λx=>?_,k8.trans k9⟩;rw[hL x];constructor;rintro⟨a1,a2,a3⟩;exact⟨a1,by lk,a3⟩;rintro⟨a1,a2,a3⟩;refine⟨a1,?_,a3⟩;rcases Int.lt_or_le x (j:Int)with h|h
 exact h;exact absurd hR (by rw[show(j:Int)=x by lk];exact a3);rintro zs δ' eh ⟨v,L,rfl,rfl,wB,nd,hL,k8⟩;rw[lr]at wB hL;exact q L eh wB nd hL k8
def ZE{st:Store}{f n:Nat}(hf:bS st f)(n1:1<=n)(ZF:n<=20):Wp (F8 [.ref f,.int (n:Int)] st) λd st'=>∃xs ys:List Int,d=bE xs ys/\l9 n xs ys/\bS st' f/\Ex [f] st st':=by
 have hfl:=hf.lt;refine dY ?_;show Ws (JI [some (.ref f),some (.int (n:Int)),none,none,none,none,none,none,none] st) _ _ _ _;unfold JI;refine aW (bD ?_);k_lt hQ;refine aR (wA (n:=6) hf ∅ ∅) ?_;rintro d st1 ⟨form,rfl,g0,g6,f1,k1⟩;refine hQ _ _ (aW (Ed ?_));clear hQ;k_lt hQ;refine aR (MH (n:=n) f1 ⋯) ?_;rintro d st2 ⟨X,rfl,tX,f2,k2⟩;w_how;refine aR (MH (n:=n) (f2.keep (Ex.cf [.lst (X.map D.int)])) ⋯) ?_;rintro d st3 ⟨Y,rfl,tY,f3,k3⟩;w_how;refine hQ _ _ ⟨_,_,rfl,?_⟩;clear hQ;have Gj:st3[st2.length]?=some (.lst (X.map D.int)):=k3.keep _ _ ke (by have:=f2.lt;simp;lk);have two:pF st (st3 ++ [.lst (Y.map D.int)]) f st2.length st3.length n X Y:=⟨nz Gj,ke,by have:=gM Gj;lk,(k1.trans k2).len,((k1.trans k2).trans ((Ex.cf _).trans k3)).len,tX,tY,f3.keep (Ex.cf _),(((k1.trans k2).app _).trans k3).app _⟩;show Ws _ _ _ _ _;generalize (st3 ++ [O.lst (Y.map D.int)])=kW at two ⊢;generalize st2.length=r at two ⊢;generalize st3.length=u at two ⊢;clear Gj tX tY f3 k3 f2 k2 f1 k1;refine aW (BG (N:=λδ j6=>∃(r u:Nat) (X Y:List Int),δ=[some (.ref f),some (.int (n:Int)),some (.int form),some (.ref r),some (.ref u),none,none,none,none]/\pF st j6 f r u n X Y) (kZ ?_) ?_);k_lt hQ;refine hQ _ _ ⟨λ_=>bD ?_,λ_=>mJ ⟨r,u,X,Y,rfl,two⟩⟩;k_lt cg;rw[<- Q6];refine⟨wa ⋯,rfl,j4 (by rw[lr];simp;lk),cg _ _ ⟨_,u,_,Y,rfl,(two.keep (((Ex.cf _).app _).app _)).Ad (ae.PB (show n<21 by lk) ⋯)⟩⟩;rintro δ j6 ⟨r,u,X,Y,rfl,two⟩;refine aW (BG (N:=λδ j6=>∃(r u:Nat) (X Y:List Int),δ=[some (.ref f),some (.int (n:Int)),some (.int form),some (.ref r),some (.ref u),none,none,none,none]/\pF st j6 f r u n X Y) (kZ ?_) ?_);k_lt hQ;refine hQ _ _ ⟨λ_=>Ed ?_,λ_=>mJ ⟨r,u,X,Y,rfl,two⟩⟩;k_lt cg;rw[<- Q6,show((n:Int)-0).toNat=n by lk,xP];refine⟨wa ⋯,wa ⋯,rfl,j4 (by rw[lr];simp;lk),cg _ _ ⟨_,_,rfl,_,_,_,_,rfl,(((two.keep (Ex.cf [.jR 0 (n:Int)])).Ad (Z:=ae.upto n) (Zbh _)).keep (((Ex.cf _).app _).app _)).Ae (ae.PB (show n<21 by lk) ⋯)⟩⟩;rintro δ D2 ⟨r,u,X,Y,rfl,two⟩;refine aW (BG (N:=λδ j6=>∃(r u:Nat) (v5:Option D) (X Y:List Int),δ=[some (.ref f),some (.int (n:Int)),some (.int form),some (.ref r),some (.ref u),v5,none,none,none]/\pF st j6 f r u n X Y) (kZ ?_) ?_);k_lt hQ;refine hQ _ _ ⟨λ_=>aW (bD ?_),λ_=>mJ ⟨r,u,none,X,Y,rfl,two⟩⟩;k_lt cg;refine aR (wA (n:=(n:Int)) two.fd ⋯ ⋯) ?_;rintro d xi ⟨w,rfl,w0,w1,f7,k7⟩;obtain⟨wd,rfl⟩:∃wd:Nat,w=(wd:Int)-1:=⟨(w+1).toNat,by lk⟩;have t7:pF st xi f r u n X Y:=⟨k7.keep _ _ two.hr (by have:=two.r0;simp;lk),k7.keep _ _ two.hu (by have:=two.u0;simp;lk),two.ne,two.r0,two.u0,two.tX,two.tY,f7,two.ex.trans k7⟩;w_how;rw[show(1:Int)+((wd:Int)-1)=(wd:Int) by lk];refine cg _ _ (aW (bD ?_));clear cg hQ;k_lt cg;rw[<- Af];refine⟨wa ⋯,rfl,j4 (by rw[lr];simp;lk),wa ⋯,j4 (by rw[Zaj,lr,lr];simp;lk),cg _ _ (aW (bD ?_))⟩;clear cg;have t8:=(t7.keep ((((((Ex.cf [.jR 1 (wd:Int)]).app [.lst (aH 1 ((wd:Int)-1).toNat)]).app [.lst [.int 0]]).app [.lst (aH 1 ((wd:Int)-1).toNat ++ [.int 0])]).app [.jR (wd:Int) (n:Int)]).app [.lst (aH (wd:Int) ((n:Int)-(wd:Int)).toNat)])).Ad (ae.VL (w:=wd) (show n<21 by lk) ⋯ ⋯);generalize ZG:(xi ++ _ ++ _ ++ _ ++ _ ++ _ ++ _ ++ _:Store)=eh at t8 ⊢;generalize List.length _=r8 at t8 ⊢;k_lt cg;refine⟨rfl,wa ⋯,j4 (by simp[lr];lk),wa ⋯,j4 (by simp[lr];lk),rfl,j4 (by simp[lr];lk),cg _ _ (kZ ?_)⟩;clear cg;generalize ZH:(eh ++ _ ++ _ ++ _ ++ _ ++ _ ++ _ ++ _ ++ _ ++ _:Store)=JP;have tE:pF st JP f r8 u n (ae.uh wd n) Y:=by rw[<- ZH];exact t8.keep (((((((((Ex.cf _).app _).app _).app _).app _).app _).app _).app _).app _)
 k_lt hQ;refine hQ _ _ ⟨λhw=>?_,λhw=>?_⟩;refine bD ?_;k_lt cg;rw[show((n:Int)-0).toNat=n by lk,xP];exact⟨wa ⋯,cg _ _ ⟨r8,_,_,_,_,rfl,(tE.keep ((Ex.cf _).app _)).Ae (Zbh _)⟩⟩;have hne:wd≠n:=λz=>by simp[z]at hw
 have tF:=tE.Ae (ae.VM (w:=wd) (show n<21 by lk) ⋯ ⋯);rw[Ag ⋯ ⋯]at tF;exact mJ ⟨r8,_,_,_,_,rfl,tF⟩;rintro δ xi ⟨r,u,v5,X,Y,rfl,two⟩;have n0:0<n:=by lk
 refine aW (bD ?_);refine bM ?_;intro cG hQ;exists c9 two.hr,c9 two.hu;refine⟨rfl,hQ _ _ (aW (bD (RO (X:=X) (Y:=Y) two.tX two.tY n0 ⋯ rfl rfl ?_)))⟩;clear hQ;intro L eh wB nd hL k8;have t8:=(two.keep k8).keep (Ex.cf [.lst (L.map D.int)]);refine aW (vY (λmm δ oC=>∃(pa:Nat) (X L:List Int) (v8:Option D),mm=L.length/\δ=[some (.ref f),some (.int (n:Int)),some (.int form),some (.ref r),some (.ref u),v5,some (bE X Y),some (.ref pa),v8]/\pF st oC f r u n X Y/\items oC pa=some (L.map D.int)/\L.length<=n/\L.Nodup/\(∀x,x∈L↔(0<=x/\x<(n:Int)/\¬ae.iP X Y x))) L.length (ZaT wB (ZaT ZF ∅)) ⟨_,X,L,none,rfl,rfl,t8,pE,wB,nd,hL⟩ ?_);rintro mm δ oC ⟨pa,X,L,v8,rfl,rfl,two,hpa,wB,nd,hL⟩;have hlX:=two.tX.length;have AA:items (oC ++ [O.lst []]) pa=some (L.map D.int):=by
  unfold items at hpa ⊢;cases e:oC[pa]? with
  |none=>rw[e]at hpa;cases hpa
  |some o=>rw[nz e];rw[e]at hpa;exact hpa
 refine bM ?_;intro cG hQ;exists Q0 (L:=L) (M:=[]) (st:=oC ++ [O.lst []]) AA pE;refine⟨rfl,hQ _ _ ⟨λh=>?_,λh=>?_⟩⟩;have hne:L≠[]:=by simpa using h
 clear hQ;obtain⟨m,L1,rfl⟩:∃m L1,L=m :: L1:=by cases L with|nil=>exact absurd rfl hne|cons m L1=>exact⟨m,L1,rfl⟩
 obtain⟨m0,m1,mR⟩:=(hL m).mp Zae;have t2:=two.keep (Ex.cf [O.lst []]);generalize (oC ++ [O.lst []])=JP at AA t2 ⊢;refine aW (bD ?_);refine bM ?_;intro cG hQ;exists AA,Zay;refine hQ _ _ (aW (BH ?_));clear hQ;refine bM ?_;intro cG hQ;exists c9 t2.hr,rY (xs:=X) m0 ⋯,rY (xs:=X) (i:=0) ∅ ⋯;refine⟨rfl,hQ _ _ ?_⟩;clear hQ;have i0:mH (X.map D.int).length 0=some 0:=CV (j:=0) (by rw[Zaa];lk);have im:mH ((X.map D.int).set 0 (.int (ae.app X m))).length m=some m.toNat:=by
  rw[Zbj];have:=CV (n:=(X.map D.int).length) (j:=m.toNat) (by rw[Zaa];lk)
  rwa [ZaN m0]at this
 have Gj:(JP.set r (.lst ((X.map D.int).set 0 (.int (ae.app X m)))))[r]?=some (.lst ((X.map D.int).set 0 (.int (ae.app X m)))):=Zao (gM t2.hr);have eS:((X.map D.int).set 0 (.int (ae.app X m))).set m.toNat (.int (ae.app X 0))=(ae.oJ X m.toNat).map D.int:=by
  unfold ae.oJ;rw[ZaN m0,List.map_set,List.map_set]
 refine bM ?_;intro cG hQ;exists mQ t2.hr,mQ Gj,i0,im,eS;refine⟨rfl,hQ _ _ (aW (bD ?_))⟩;clear hQ;have tS:=ae.yV t2.tX (m:=m.toNat) ⋯;have hmet:=ae.VF t2.tX t2.tY (m:=m.toNat) ⋯ (by rw[ZaN m0];exact mR);rw[ZaN m0]at hmet;rw[List.set_set];have t3:=t2.put (Z:=ae.oJ X m.toNat) tS hfl;generalize JP.set r _=st3 at t3 ⊢;refine bM ?_;intro cG hQ;exists c9 t3.hr,c9 t3.hu;refine⟨rfl,hQ _ _ (bD (RO (X:=ae.oJ X m.toNat) (Y:=Y) t3.tX t3.tY n0 ⋯ rfl rfl ?_))⟩;intro L' kW MJ Bq hL' k4;refine⟨_,?_,kW.length,ae.oJ X m.toNat,L',_,rfl,rfl,(t3.keep k4).keep (Ex.cf _),pE,MJ,Bq,hL'⟩;refine ae.less (m:=m) Bq (λx hx=>?_) Zae (λh=>((hL' m).mp h).2.2 hmet.1);obtain⟨a1,a2,a3⟩:=(hL' x).mp hx;exact(hL x).mpr ⟨a1,a2,λh=>a3 (hmet.2 x h)⟩;have he:L=[]:=by simpa using h
 subst he;refine c4 ?_;k_lt cg;have t2:=two.keep (Ex.cf [O.lst []]);refine cg _ _ ⟨X,Y,rfl,⟨t2.tX,t2.tY,λx x0 x1=>?_⟩,t2.fd,t2.ex⟩;exact Classical.byContradiction λh=>nomatch (hL x).mpr ⟨x0,x1,h⟩
def AB{st:Store}{xs:List Int}{n:Nat}(tn:ae.Tn n xs)(hn:n<=100):Wp (qv [.tup (xs.map D.int)] st) λd st'=>d=.tup ((ae.inv xs).map D.int)/\Ex [] st st':=by
 have hlen:=tn.length;refine dY ?_;show Ws (Iy [some (.tup (xs.map D.int)),none,none,none] st) _ _ _ _;unfold Iy;refine aW (bD ?_);k_lt hQ;have e0:(((xs.map D.int).length:Int)).toNat=n:=by rw[Zaa];lk
 have ez:(List.replicate n [D.int 0]).flatten=(List.replicate n (0:Int)).map D.int:=by
  induction n with
  |zero=>rfl
  |succ n ih=>simp[Za7]
 rw[e0,ez];refine⟨rfl,by rw[Zaa];lk,j4 (by simp;lk),hQ _ _ (aW (oU (ny (xs.map D.int)) (λk δ st2=>∃(v2 v3:Option D) (bs:List Int),δ=[some (.tup (xs.map D.int)),some (.ref (st ++ [O.lst [D.int 0]]).length),v2,v3]/\st2[(st ++ [O.lst [D.int 0]]).length]?=some (.lst (bs.map D.int))/\bs.length=n/\(∀j,j<k->∀x,xs[j]?=some x->bs[x.toNat]?=some (j:Int))/\Ex [] st st2) ?_ ?_ ?_ ?_))⟩;k_lt hQ;exact hQ _ _ ⟨rfl,none,none,_,rfl,ke,by simp,λj hj=>absurd hj (ZaY _),(Ex.cf _).app _⟩;rw[D1,Zaa];lk;have Gk:st.length<=(st ++ [O.lst [D.int 0]]).length:=by simp
 generalize (st ++ [O.lst [D.int 0]]).length=B at Gk ⊢;rintro k d δ st2 hd ⟨v2,v3,bs,rfl,hB,wC,wD,k2⟩;obtain⟨d',hd',rfl⟩:=Ma hd;obtain⟨x,hx,rfl⟩:=HZ hd';obtain⟨x0,x1⟩:=tn.bound (Zak hx);have qe:=gM hx;k_lt hQ;refine⟨rfl,hQ _ _ (BH ?_)⟩;have hix:mH (bs.map D.int).length x=some x.toNat:=by
  have:=CV (n:=(bs.map D.int).length) (j:=x.toNat) (by rw[Zaa];lk)
  rwa [ZaN x0]at this
 have es:(bs.map D.int).set x.toNat (.int (k:Int))=(bs.set x.toNat (k:Int)).map D.int:=by rw[List.map_set]
 k_lt cg;refine cg _ _ ?_;refine bM ?_;intro Gi uI;exists mQ hB,hix,es;refine uI _ _ ⟨_,_,bs.set x.toNat (k:Int),rfl,Zao (gM hB),by rw[Zbj];exact wC,λj hj y hy=>?_,k2.loc Gk⟩;by_cases hjk:j=k;subst hjk;rw[hx]at hy;cases hy;rw[Zao (by rw[wC];lk)];obtain⟨y0,y1⟩:=tn.bound (Zak hy);rw[ZaG (λz=>?_)];exact wD j ⋯ y hy;obtain⟨h1,e1⟩:=Zac.mp hx;obtain⟨h2,e2⟩:=Zac.mp hy;exact hjk ((Zb2 tn.nodup).mp (show xs[j]=xs[k] by lk));rintro δ st2 ⟨v2,v3,bs,rfl,hB,wC,wD,k2⟩;rw[D1,Zaa]at wD;have eb:bs=ae.inv xs:=by
  apply Zcf;intro i;by_cases hi:i<n;have hm:=tn.mem (i:=(i:Int)) ⋯ ⋯;have hil:=List.idxOf_lt_length_of_mem hm;have:=wD (xs.idxOf (i:Int)) hil (i:Int) (by rw[Zab hil];exact congrArg some (List.getElem_idxOf hil));rw[Zau]at this;rw[this];have ea:=ae.qg (xs:=ae.inv xs) (i:=(i:Int)) ⋯ (by rw[ae.yT];lk);rw[Zau,ae.Hr ⋯ ⋯]at ea;exact ea.symm;rw[Zbl ⋯,Zbl (by rw[ae.yT];lk)]
 subst eb;refine c4 ?_;refine bM ?_;intro cG hQ;exists c9 hB;exact hQ _ _ ⟨rfl,k2⟩
def wF{st:Store}{xs ys:List Int}(hb:∀x∈xs,0<=x/\x<(ys.length:Int))(hn:xs.length<=100):Wp (oO [.tup (xs.map D.int),.tup (ys.map D.int)] st) λd st'=>d=.tup ((ae.aT xs ys).map D.int)/\Ex [] st st':=by refine dY ?_;show Ws (IA [some (.tup (xs.map D.int)),some (.tup (ys.map D.int))] st) _ _ _ _;unfold IA;refine c4 ?_;k_lt hQ;refine uV (xs.map D.int) (λd=>.int (ae.app ys (inD d))) ?_ (by rw[Zaa];lk) ?_ ?_;k_lt cg;exact cg _ _ ⟨rZ _ _,Ex.refl⟩;intro d hd st1 k1;obtain⟨x,hx,rfl⟩:=Es hd;obtain⟨x0,x1⟩:=hb x hx;refine bM ?_;intro lI cg;exists Zay,ZaZ,Za2,Za3,rY (xs:=ys) x0 x1;exact cg _ _ ⟨rfl,Ex.refl⟩;intro st' k';rw[Mp (f:=ae.app ys) λx hx=>rfl];w_how;exact hQ _ _ ⟨rfl,k'.app _⟩
def ZI{st:Store}{xs ys p:List Int}{n:Nat}(tx:ae.Tn n xs)(ty:ae.Tn n ys)(tp:ae.Tn n p)(hn:n<=100):Wp (EI [bE xs ys,.tup (p.map D.int)] st) λd st'=>d=bE (ae.anew xs p) (ae.anew ys p)/\Ex [] st st':=by have hlx:=tx.length;have Gf:=ty.length;have Gm:=tp.length;have ti:=tp.az;have hli:=ti.length;refine dY ?_;show Ws (IB [some (bE xs ys),some (.tup (p.map D.int)),none,none,none] st) _ _ _ _;unfold IB bE;refine aW (bD ?_);k_lt hQ;refine aR (AB tp hn) ?_;rintro d st1 ⟨rfl,k1⟩;refine hQ _ _ (aW (bD ?_));clear hQ;k_lt hQ;refine aR (wF (xs:=ae.inv p) (ys:=xs) (λx hx=>by rw[hlx];exact ti.bound hx) ⋯) ?_;rintro d st2 ⟨rfl,k2⟩;refine aR (wF (xs:=ae.aT (ae.inv p) xs) (ys:=p) (λx hx=>by rw[Gm];exact(ti.aT tx).bound hx) (by rw[ae.vD];lk)) ?_;rintro d st3 ⟨rfl,k3⟩;refine hQ _ _ (aW (bD ?_));clear hQ;k_lt hQ;refine aR (wF (xs:=ae.inv p) (ys:=ys) (λx hx=>by rw[Gf];exact ti.bound hx) ⋯) ?_;rintro d kW ⟨rfl,k4⟩;refine aR (wF (xs:=ae.aT (ae.inv p) ys) (ys:=p) (λx hx=>by rw[Gm];exact(ti.aT ty).bound hx) (by rw[ae.vD];lk)) ?_;rintro d j6 ⟨rfl,k5⟩;refine hQ _ _ (c4 ?_);clear hQ;k_lt hQ;exact⟨rfl,hQ _ _ ⟨rfl,(((k1.trans k2).trans k3).trans k4).trans k5⟩⟩
def ZJ{F:List Int}{x:Int}:(!F.contains x)=true->ae.dz F x=F ++ [x]:=λh=>by
 unfold ae.dz;rw[if_neg λz=>by rw[Za4.mpr z]at h;cases h]
def ZK{F:List Int}{x:Int}:(!F.contains x)=false->ae.dz F x=F:=λh=>by
 unfold ae.dz;rw[if_pos (Za4.mp (by simpa using h))]
def ZL{st:Store}{xs ys:List Int}{n:Nat}{s:Int}(tx:ae.Tn n xs)(ty:ae.Tn n ys)(hn:n<=100)(s0:0<=s)(s1:s<(n:Int)):Wp (EK [bE xs ys,.int s] st) λd st'=>d=.tup ((ae.bf xs ys s n).map D.int)/\Ex [] st st':=by
 have hlx:=tx.length;have Gf:=ty.length;refine dY ?_;show Ws (IE [some (bE xs ys),some (.int s),none,none,none,none] st) _ _ _ _;unfold IE;refine aW (bD ?_);k_lt hQ;refine⟨rfl,hQ _ _ (aW (bD ?_))⟩;clear hQ;k_lt hQ;refine hQ _ _ (aW (vY (λm δ st2=>∃(k:Nat) (v4 v5:Option D),m=n-k/\δ=[some (bE xs ys),some (.int s),some (.ref st.length),some (.int (k:Int)),v4,v5]/\st2[st.length]?=some (.lst ((ae.bf xs ys s k).map D.int))/\k<=(ae.bf xs ys s k).length/\Ex [] st st2) n (ZaT hn ∅) ⟨0,none,none,by lk,rfl,ke,ZaO _,Ex.cf _⟩ ?_));clear hQ;rintro m δ st2 ⟨k,v4,v5,rfl,rfl,hl,hk,k2⟩;have wC:=ae.LA tx ty s0 s1 k;refine bM ?_;intro cG hQ;exists c9 hl;refine hQ _ _ ⟨λhlt=>?_,λhlt=>?_⟩;clear hQ;have hlt:=of_decide_eq_true hlt;rw[Zaa]at hlt;have qe:k<(ae.bf xs ys s k).length:=by lk
 obtain⟨x,hx⟩:∃x,(ae.bf xs ys s k)[k]?=some x:=⟨_,Zab qe⟩;obtain⟨x0,x1⟩:=ae.sS tx ty s0 s1 k x (Zak hx);have e1:ae.bf xs ys s (k+1)=ae.visit xs ys (ae.bf xs ys s k) x:=by
  show(match (ae.bf xs ys s k)[k]? with|some x=>ae.visit xs ys (ae.bf xs ys s k) x|none=>ae.bf xs ys s k)=_;rw[hx]
 have hb1:=ae.LA tx ty s0 s1 (k+1);rw[e1]at hb1;have hp1:=(ae.Dj (ae.dz (ae.bf xs ys s k) (ae.app xs x)) (ae.app ys x)).length_le;have hp0:=(ae.Dj (ae.bf xs ys s k) (ae.app xs x)).length_le;change _<=(ae.visit xs ys (ae.bf xs ys s k) x).length at hp1;refine aW (oU [.tup (xs.map D.int),.tup (ys.map D.int)] (λm δ st3=>∃(v4 v5:Option D) (G:List Int),δ=[some (bE xs ys),some (.int s),some (.ref st.length),some (.int (k:Int)),v4,v5]/\st3[st.length]?=some (.lst (G.map D.int))/\(m=0->G=ae.bf xs ys s k)/\(m=1->G=ae.dz (ae.bf xs ys s k) (ae.app xs x))/\(m=2->G=ae.visit xs ys (ae.bf xs ys s k) x)/\Ex [] st st3) ?_ (by simp) ?_ ?_);unfold bE;k_lt hQ;exact hQ _ _ ⟨rfl,v4,v5,_,rfl,hl,λ_=>rfl,λz=>by lk,λz=>by lk,k2⟩;rintro m z δ st3 hm ⟨v4,v5,G,rfl,hl3,g0,g1,_,k3⟩;have hm2:m<2:=gM hm;obtain⟨zs,rfl,tz,em⟩:∃(zs:List Int),z=.tup (zs.map D.int)/\ae.Tn n zs/\((m=0/\zs=xs)\/(m=1/\zs=ys)):=by
  rcases(show m=0\/m=1 by lk)with rfl|rfl
  exact⟨xs,by simpa using hm.symm,tx,.inl ⟨rfl,rfl⟩⟩;exact⟨ys,by simpa using hm.symm,ty,.inr ⟨rfl,rfl⟩⟩
 have hG:G.length<=100/\G[k]?=some x:=by
  rcases em with⟨rfl,_⟩|⟨rfl,_⟩
  rw[g0 rfl];exact⟨by lk,hx⟩;rw[g1 rfl];refine⟨by lk,?_⟩;obtain⟨t,e⟩:=ae.Dj (ae.bf xs ys s k) (ae.app xs x);rw[<- e,Zav qe];exact hx
 have RP:∀G',G'=ae.dz G (ae.app zs x)->(m+1=0->G'=ae.bf xs ys s k)/\(m+1=1->G'=ae.dz (ae.bf xs ys s k) (ae.app xs x))/\(m+1=2->G'=ae.visit xs ys (ae.bf xs ys s k) x):=λG' e=>by
  rcases em with⟨rfl,rfl⟩|⟨rfl,rfl⟩
  exact⟨λz=>by lk,λ_=>by rw[e,g0 rfl],λz=>by lk⟩;exact⟨λz=>by lk,λz=>by lk,λ_=>by rw[e,g1 rfl];rfl⟩
 have hat:gH (G.map D.int) (k:Int)=some (.int x):=uQ (by rw[Zal,hG.2];rfl);k_lt hQ;refine hQ _ _ (aW (bD ?_));clear hQ;refine bM ?_;intro cG hQ;exists c9 hl3,hat,rY (xs:=zs) x0 (by rw[tz.length];exact x1);refine hQ _ _ (kZ ?_);clear hQ;refine bM ?_;intro cG hQ;exists Ic (st:=st3) (c:=.ref st.length) (ns:=G) (c9 hl3);refine hQ _ _ ⟨λhc=>sL ?_,λhc=>mJ ?_⟩;obtain⟨n0,n1,n2⟩:=RP (G ++ [ae.app zs x]) (ZJ hc).symm;refine bM ?_;intro lI cg;exists mQ hl3;refine⟨rX (by rw[c9 hl3];rfl),j4 (by rw[Zaa];lk),cg _ _ ⟨_,_,G ++ [ae.app zs x],rfl,?_,n0,n1,n2,k3.loc (Zad _)⟩⟩;rw[Zao (gM hl3),Zaw];rfl;obtain⟨n0,n1,n2⟩:=RP G (ZK hc).symm;exact⟨_,_,G,rfl,hl3,n0,n1,n2,k3⟩;rintro δ st3 ⟨v4,v5,G,rfl,hl3,_,_,g2,k3⟩;have g2:=g2 rfl;subst g2;refine bD ?_;k_lt hQ;refine hQ _ _ ⟨n-(k+1),by lk,k+1,v4,v5,rfl,by simp,by rw[e1];exact hl3,by rw[e1];lk,k3⟩;have hlt:=of_decide_eq_false hlt;rw[Zaa]at hlt;have hle:(ae.bf xs ys s k).length<=k:=by lk
 have e:ae.bf xs ys s n=ae.bf xs ys s k:=by
  have:=ae.Lz hle (n-k)
  rwa [show k+(n-k)=n by lk]at this
 refine c4 ?_;refine bM ?_;intro lI cg;exists c9 hl;rw[<- e];exact cg _ _ ⟨rfl,k2⟩
def MK{st:Store}{xs:List Int}{n:Nat}{i:Int}(tn:ae.Tn n xs)(hn:n<=100)(i0:0<=i)(i1:i<(n:Int)):Wp (wj [.tup (xs.map D.int),.int i] st) λd st'=>∃r:List Int,d=.tup (r.map D.int)/\ae.a5 xs i r/\Ex [] st st':=by
 have hlen:=tn.length;refine dY ?_;show Ws (II [some (.tup (xs.map D.int)),some (.int i),none,none] st) _ _ _ _;unfold II;refine aW (bD ?_);k_lt hQ;refine⟨rfl,hQ _ _ (aW (bD ?_))⟩;clear hQ;refine bM ?_;intro cG hQ;exists rY (xs:=xs) i0 ⋯;refine hQ _ _ (aW (vY (λm δ st2=>∃k:Nat,m=n-(k+1)/\δ=[some (.tup (xs.map D.int)),some (.int i),some (.ref st.length),some (.int (ae.aS xs i (k+1)))]/\st2[st.length]?=some (.lst ((ae.row xs i k).map D.int))/\ae.NB xs i k/\Ex [] st st2) (n-1) (ZaT (show n-1<=100 by lk) ∅) ⟨0,rfl,rfl,ke,λj h1 h2=>by lk,Ex.cf _⟩ ?_));clear hQ;rintro m δ st2 ⟨k,rfl,rfl,hL,nb,k2⟩;have hrl:=tn.i3 i0 i1 nb;k_lt hQ;refine hQ _ _ ⟨λhb=>?_,λhb=>?_⟩;have hb:ae.aS xs i (k+1)≠i:=by simpa using hb
 have Gn:ae.NB xs i (k+1):=λj h1 h2=>by
  by_cases hj:j<=k;exact nb j h1 hj
  have:j=k+1:=by lk
  rw[this];exact hb
 have hle:=tn.i3 i0 i1 Gn;have hit:=tn.aS i0 i1 (k+1);refine aW (sL ?_);refine bM ?_;intro lI cg;exists mQ hL;refine⟨rX (by rw[c9 hL];rfl),j4 (by rw[Zaa,ae.sQ];lk),cg _ _ (bD ?_)⟩;clear cg;refine bM ?_;intro lI cg;exists rY (xs:=xs) hit.1 ⋯;refine cg _ _ ⟨n-(k+1+1),by lk,k+1,rfl,rfl,?_,Gn,k2.loc (Zad _)⟩;rw[Zao (gM hL),ae.Pu,Zaw];rfl;have hb:ae.aS xs i (k+1)=i:=by simpa using hb
 refine c4 ?_;refine bM ?_;intro lI cg;exists c9 hL;exact cg _ _ ⟨_,rfl,⟨k,rfl,nb,hb⟩,k2⟩
def RQ{st:Store}{xs:List Int}{n:Nat}(tn:ae.Tn n xs)(hn:n<=100):Wp (Am [.tup (xs.map D.int)] st) λd st'=>∃rs:List (List Int),d=sX rs/\ae.iw xs (ae.upto n) rs/\(∀r∈rs,r.length<=n/\∀x∈r,0<=x/\x<(n:Int))/\rs.length<=n/\Ex [] st st':=by
 have hlen:=tn.length;refine dY ?_;show Ws (IK [some (.tup (xs.map D.int)),none,none,none,none,none] st) _ _ _ _;unfold IK;refine aW (bD ?_);k_lt hQ;refine⟨rfl,hQ _ _ (aW (bD ?_))⟩;clear hQ;k_lt hQ;have eS:(st ++ [O.lst []]).length=st.length+1:=by simp
 rw[eS]
 refine hQ _ _ (aW (oU (aH 0 n) (λk δ st2=>∃ (v3 v4 v5:Option D) (rs:List (List Int)) (kvs:List (Key×D)),δ=[some (.tup (xs.map D.int)),some (.ref st.length),some (.ref (st.length + 1)),v3,v4,v5]/\st2[st.length]?=some (.lst (rs.map λr=>.tup (r.map D.int)))/\st2[st.length + 1]?=some (.dct kvs) /\
   (∀rest,ae.iw xs (ae.from' n k (λx=>(dC kvs (Sum.inl x:Key)).isSome)) rest->ae.iw xs (ae.upto n) (rs ++ rest))/\(∀r∈rs,r.length<=n/\∀x∈r,0<=x/\x<(n:Int))/\rs.length<=k/\kvs.length<=k*n/\Ex [] st st2) ?_ (by rw[lr];lk) ?_ ?_))
 clear hQ;k_lt hQ;rw[Zaa,hlen];refine⟨by lk,hQ _ _ ⟨by rw[Zau],none,none,none,[],[],rfl,nz ke,by rw[<- eS];exact ke,λrest hrest=>?_,(λr hr=>nomatch hr),Zad _,ZaO _,(Ex.cf _).app _⟩⟩;have e:ae.from' n 0 (λx=>(dC ([]:List (Key×D)) (Sum.inl x:Key)).isSome)=ae.upto n:=ae.Pz n;rw[e]at hrest;exact hrest;rintro k d δ st2 hd ⟨v3,v4,v5,rs,kvs,rfl,uX,uY,se,hb,hrl,qe,k2⟩;have hk:=gM hd;rw[lr]at hk;rw[D0 hk,ZbN]at hd;cases hd;have hkn:k*n<=10000:=Zap (Zbg (show k<=100 by lk) hn) ∅;clear hQ;k_lt hQ;refine hQ _ _ (kZ ?_);clear hQ;refine bM ?_;intro cG hQ;exists Ie uY,Q9;have hfs:=ae.Px hk (λx=>(dC kvs (Sum.inl x:Key)).isSome);refine hQ _ _ ⟨λhs=>?_,λhs=>?_⟩;have AE:(dC kvs (Sum.inl (k:Int):Key)).isSome=false:=by simpa using hs
 simp only[AE,ZaW,if_false]at hfs;clear hQ;refine aW (bD ?_);k_lt hQ;refine aR (MK tn hn (i:=(k:Int)) ⋯ ⋯) ?_;rintro d st3 ⟨r,rfl,jT,k3⟩;refine hQ _ _ (aW (sL ?_));clear hQ;have Gp:=k3.keep _ _ uX (by simp);have Gq:=k3.keep _ _ uY (by simp);have sN:=jT.len tn ⋯ ⋯;have hrb:=jT.bound tn ⋯ ⋯;refine bM ?_;intro cG hQ;exists mQ Gp;refine⟨rX (by rw[c9 Gp];rfl),j4 (by rw[Zaa];lk),hQ _ _ ?_⟩;clear hQ
 refine oU (r.map D.int) (λj δ j6=>∃ (v5:Option D) (kvs':List (Key×D)),δ=[some (.tup (xs.map D.int)),some (.ref st.length),some (.ref (st.length + 1)),some (.int (k:Int)),some (.tup (r.map D.int)),v5]/\j6[st.length]?=some (.lst ((rs ++ [r]).map λr=>.tup (r.map D.int)))/\j6[st.length + 1]?=some (.dct kvs') /\
   (∀x:Int,(dC kvs' (Sum.inl x:Key)).isSome=((dC kvs (Sum.inl x:Key)).isSome || (r.take j).contains x))/\kvs'.length<=kvs.length+j/\Ex [] st j6) ?_ (by rw[Zaa];lk) ?_ ?_
 k_lt hQ;refine hQ _ _ ⟨rfl,v5,kvs,rfl,?_,?_,λx=>by simp,by lk,(k2.trans k3).loc (Zad _)⟩;rw[Zao (gM Gp),Zaw];rfl;rw[ZaG ⋯];exact Gq;rintro j y δ j6 hj ⟨v5,kvs',rfl,ML,JQ,JR,RS,k5⟩;obtain⟨x,hx,rfl⟩:=HZ hj;obtain⟨hjl,ex⟩:=Zac.mp hx;subst ex;k_lt hQ;refine hQ _ _ (Xl ?_);clear hQ;k_lt hQ;refine hQ _ _ ?_;k_lt cg;refine cg _ _ ?_;k_lt uI;refine uI _ _ ⟨_,kvs',_,rfl,Ie JQ,Q9 _,j4 ⋯,_,_,rfl,?_,Zao (gM JQ),λx=>?_,?_,k5.loc ⋯⟩;rw[ZaG ⋯];exact ML;rw[XY,X0 hjl];by_cases hx:x=r[j];subst hx;simp;rw[if_neg (by intro z;exact hx (Sum.inl.inj z)),JR x]
 have:(x == r[j])=false:=beq_eq_false_iff_ne.mpr hx;rw[this,Bool.or_false]
 have:=XZ kvs' (Sum.inl r[j]:Key) (.bl true);lk
 rintro δ j6 ⟨v5,kvs',rfl,ML,JQ,JR,RS,k5⟩;rw[Zaa]at RS JR;refine⟨_,_,_,rs ++ [r],kvs',rfl,ML,JQ,λrest hrest=>?_,λr' hr'=>?_,by rw[Zaj];simp;lk,by rw[ZbM];lk,k5⟩;have e:(λx=>(dC kvs' (Sum.inl x:Key)).isSome)=λx=>((dC kvs (Sum.inl x:Key)).isSome || r.contains x):=by
  funext x;rw[JR x,Za1]
 rw[e,<- ae.Py]at hrest;rw[Zbq];refine se _ ?_;rw[hfs];refine .cons jT ?_;have e2:ae.out ((k:Int) :: ae.from' n (k+1) (λx=>(dC kvs (Sum.inl x:Key)).isSome)) r=ae.out (ae.from' n (k+1) (λx=>(dC kvs (Sum.inl x:Key)).isSome)) r:=by
  unfold ae.out;rw[Zcp,if_neg (by simp[jT.mem])]
 rw[e2];exact hrest;rcases ZaF.mp hr' with h|h
 exact hb r' h
 have:r'=r:=by simpa using h
 subst this;exact⟨sN,hrb⟩;have AE:(dC kvs (Sum.inl (k:Int):Key)).isSome=true:=by simpa using hs
 simp only[AE,if_true]at hfs;exact mJ ⟨_,_,_,rs,kvs,rfl,uX,uY,λrest hrest=>se rest (by rw[hfs];exact hrest),hb,by lk,by rw[ZbM];lk,k2⟩;rintro δ st2 ⟨v3,v4,v5,rs,kvs,rfl,uX,uY,se,hb,hrl,qe,k2⟩;rw[lr]at se hrl;refine c4 ?_;clear hQ;refine bM ?_;intro cG hQ;exists c9 uX;refine hQ _ _ ⟨rs,rfl,?_,hb,hrl,k2⟩;have:=se [] (by rw[ae.Pw];exact .nil)
 rwa [Zbt]at this
def ZM{rs:List (List Int)}{m:Nat}{d:D}(h:(rs.map λr=>D.tup (r.map D.int))[m]?=some d):∃r,rs[m]?=some r/\d=.tup (r.map D.int):=by rw[Zal]at h;obtain⟨r,h1,h2⟩:=ZaB.mp h;exact⟨r,h1,h2.symm⟩
def ZN{xs:List Int}{i:Int}{m:Nat}{j:Int}(h0:0<=j)(h1:j<((m+1:Nat):Int)):gH ((ae.row xs i m).map D.int) j=some (.int (ae.aS xs i j.toNat)):=by
 have e:((ae.row xs i m).map D.int)[j.toNat]?=some (.int (ae.aS xs i j.toNat)):=by
  unfold ae.row;rw[Zas,Zal,ZbX ⋯];rfl
 have:=uQ e
 rwa [ZaN h0]at this
def RT{bs:List Int}{m v x:Int}(h0:0<=m)(h1:m<(bs.length:Int))(x0:0<=x):ae.app (bs.set m.toNat v) x=if x=m then v else ae.app bs x:=by have:=ae.Ly (xs:=bs) (m:=m.toNat) (v:=v) (x:=x) ⋯ x0;rw[ZaN h0]at this;exact this
def ZO{st:Store}{xs:List Int}{n:Nat}{k:Int}(tn:ae.Tn n xs)(hn:n<=100):Wp (EW [.tup (xs.map D.int),.int k] st) λd st'=>d=.tup ((ae.cz xs k).map D.int)/\Ex [] st st':=by
 have hlen:=tn.length;refine dY ?_;show Ws (IL [some (.tup (xs.map D.int)),some (.int k),none,none,none,none] st) _ _ _ _;unfold IL;refine aW (bD ?_);k_lt hQ;have e0:(((xs.map D.int).length:Int)).toNat=n:=by rw[Zaa];lk
 have ez:(List.replicate n [D.int 0]).flatten=(List.replicate n (0:Int)).map D.int:=by
  clear hlen tn hn e0
  induction n with
  |zero=>rfl
  |succ n ih=>simp[Za7]
 rw[e0,ez];have Gk:st.length<=(st ++ [O.lst [D.int 0]]).length:=by simp
 refine⟨rfl,by rw[Zaa];lk,j4 (by simp;lk),hQ _ _ ?_⟩;clear hQ;have MN:(st ++ [O.lst [D.int 0]] ++ [O.lst ((List.replicate n (0:Int)).map D.int)])[(st ++ [O.lst [D.int 0]]).length]?=some (.lst ((List.replicate n (0:Int)).map D.int)):=ke;have kB:Ex [] st (st ++ [O.lst [D.int 0]] ++ [O.lst ((List.replicate n (0:Int)).map D.int)]):=(Ex.cf _).app _;generalize (st ++ [O.lst [D.int 0]] ++ [O.lst ((List.replicate n (0:Int)).map D.int)])=ZP at MN kB ⊢;generalize (st ++ [O.lst [D.int 0]]).length=B at Gk MN ⊢;show Ws _ _ _ _ _;obtain⟨d,st2,e2,rs,rfl,se,hrb,hrl,k2⟩:=RQ (st:=ZP) tn hn;refine aW (oU (rs.map λr=>.tup (r.map D.int)) (λm δ st3=>∃(v3 v4 v5:Option D) (bs:List Int),δ=[some (.tup (xs.map D.int)),some (.int k),some (.ref B),v3,v4,v5]/\st3[B]?=some (.lst (bs.map D.int))/\bs.length=n/\(∀j,j<m->∀r,rs[j]?=some r->∀x∈r,ae.app bs x=ae.pw xs k x)/\Ex [] st st3) ?_ (by rw[Zaa];lk) ?_ ?_)
 ·k_lt hQ
  refine⟨_,_,e2,?_⟩;exact⟨_,rfl,hQ _ _ ⟨rfl,none,none,none,_,rfl,k2.keep _ _ MN (by simp),by simp,λj hj=>absurd hj (ZaY _),kB.trans k2⟩⟩
 ·rintro m d δ st3 hm ⟨v3,v4,v5,bs,rfl,MO,wC,wD,k3⟩
  obtain⟨r,hr,rfl⟩:=ZM hm;obtain⟨i,hi,jT⟩:=se.all.1 r (Zak hr);obtain⟨i0,i1⟩:=ae.ll.mp hi;obtain⟨M,rfl,nb,bk⟩:=jT.ex;have hM:=tn.i3 i0 i1 nb;k_lt hQ;refine hQ _ _ (oU (ny ((ae.row xs i M).map D.int)) (λt δ kW=>∃(v4 v5:Option D) (cs:List Int),δ=[some (.tup (xs.map D.int)),some (.int k),some (.ref B),some (.tup ((ae.row xs i M).map D.int)),v4,v5]/\kW[B]?=some (.lst (cs.map D.int))/\cs.length=n/\(∀x:Int,0<=x->x<(n:Int)->ae.app bs x=ae.pw xs k x->ae.app cs x=ae.pw xs k x)/\(∀j,j<t->ae.app cs (ae.aS xs i j)=ae.pw xs k (ae.aS xs i j))/\Ex [] st kW) ?_ ?_ ?_ ?_)
  ·clear hQ
   k_lt hQ;exact hQ _ _ ⟨rfl,v4,v5,bs,rfl,MO,wC,λ_ _ _ h=>h,λj hj=>absurd hj (ZaY _),k3⟩
  ·rw[D1,Zaa,ae.sQ];lk
  ·rintro t d δ kW hd ⟨v4,v5,cs,rfl,JS,hcl,hcs,hct,k4⟩
   obtain⟨d',hd',rfl⟩:=Ma hd;obtain⟨y,hy,rfl⟩:=HZ hd';have RU:=gM hy;rw[ae.sQ]at RU;have ey:y=ae.aS xs i t:=by
    unfold ae.row at hy;rw[Zal,ZbX RU]at hy;exact(Zaq hy).symm
   subst ey;obtain⟨x0,x1⟩:=tn.aS i0 i1 t;have hL:(0:Int)<((M+1:Nat):Int):=by lk
   have m0:=Zbv ((t:Int)+k) (Int.ne_of_gt hL);have m1:=ZbO ((t:Int)+k) hL;have eL:((((ae.row xs i M).map D.int).length:Nat):Int)=((M+1:Nat):Int):=by rw[Zaa,ae.sQ]
   have hix:mH (cs.map D.int).length (ae.aS xs i t)=some (ae.aS xs i t).toNat:=by
    have:=CV (n:=(cs.map D.int).length) (j:=(ae.aS xs i t).toNat) (by rw[Zaa];lk)
    rwa [ZaN x0]at this
   have es:∀v:Int,(cs.map D.int).set (ae.aS xs i t).toNat (.int v)=(cs.set (ae.aS xs i t).toNat v).map D.int:=λv=>by rw[List.map_set]
   clear hQ;k_lt hQ;refine⟨rfl,hQ _ _ (BH ?_)⟩;clear hQ;refine bM ?_;intro cG hQ;exists eL,ZN m0 m1;refine⟨hL,hQ _ _ ?_⟩;clear hQ;refine bM ?_;intro cG hQ;exists mQ JS,hix,es;have hat:=tn.yZ x0 x1 (tn.yU i0 i1 nb bk t k);refine hQ _ _ ⟨_,_,_,rfl,Zao (gM JS),by rw[Zbj];exact hcl,λx h0 h1 h=>?_,λj hj=>?_,k4.loc Gk⟩
   ·rw[RT x0 ⋯ h0]
    split
    ·next e=>rw[e];exact hat
    ·exact hcs x h0 h1 h
   ·obtain⟨y0,y1⟩:=tn.aS i0 i1 j
    rw[RT x0 ⋯ y0];split
    ·next e=>rw[e];exact hat
    ·next e =>
     by_cases ZQ:j=t
     ·rw[ZQ]at e;exact absurd rfl e
     ·exact hct j ⋯
  ·rintro δ kW ⟨v4,v5,cs,rfl,JS,hcl,hcs,hct,k4⟩
   rw[D1,Zaa,ae.sQ]at hct;refine⟨_,_,_,cs,rfl,JS,hcl,λj hj r hr2 x hx=>?_,k4⟩;by_cases ZR:j=m
   ·subst ZR
    rw[hr]at hr2;cases hr2;obtain⟨jj,hjj,rfl⟩:=ae.qO.mp hx;exact hct jj ⋯
   ·obtain⟨b0,b1⟩:=(hrb r (Zak hr2)).2 x hx
    exact hcs x b0 b1 (wD j ⋯ r hr2 x hx)
 ·rintro δ st3 ⟨v3,v4,v5,bs,rfl,MO,wC,wD,k3⟩
  rw[Zaa]at wD;have e:bs=ae.cz xs k:=by
   refine ae.qP (n:=n) wC (by rw[ae.Dl];exact hlen) λs s0 s1=>?_;rw[ae.qy s0 ⋯];obtain⟨r,hr',hx⟩:=se.all.2 s (ae.ll.mpr ⟨s0,s1⟩);obtain⟨j,hj,ej⟩:=Za8 hr';exact wD j hj r (by rw[Zab hj,ej]) s hx
  subst e;refine c4 ?_;refine bM ?_;intro cG hQ;exists c9 MO;exact hQ _ _ ⟨rfl,k3⟩
def ZT{st:Store}{xs ys:List Int}{n:Nat}{k:Int}(tx:ae.Tn n xs)(ty:ae.Tn n ys)(hn:n<=100):Wp (EZ [bE xs ys,.int k] st) λd st'=>d=bE xs (ae.shr xs ys k)/\Ex [] st st':=by refine dY ?_;show Ws (IP [some (bE xs ys),some (.int k)] st) _ _ _ _;unfold IP bE;refine c4 ?_;have tp:=tx.cz (-k);k_lt hQ;refine aR (ZO (k:=-k) tx hn) ?_;rintro d st1 ⟨rfl,k1⟩;refine aR (wF (xs:=ae.cz xs (-k)) (ys:=ys) (λx hx=>by rw[ty.length];exact tp.bound hx) (by rw[tp.length];exact hn)) ?_;rintro d st2 ⟨rfl,k2⟩;exact⟨rfl,hQ _ _ ⟨rfl,k1.trans k2⟩⟩
def ZU{st:Store}{xs ys:List Int}{n:Nat}(tx:ae.Tn n xs)(ty:ae.Tn n ys)(hn:n<=100):Wp (E2 [bE xs ys] st) λd st'=>d=bE (ae.inv ys) xs/\Ex [] st st':=by refine dY ?_;show Ws (IQ [some (bE xs ys)] st) _ _ _ _;unfold IQ bE;refine c4 ?_;k_lt hQ;refine aR (AB ty hn) ?_;rintro d st1 ⟨rfl,k1⟩;exact⟨rfl,hQ _ _ ⟨rfl,k1⟩⟩
def ZV{st:Store}{Q:D->Store->Prop}{xs:List Int}{v:Int}(h:v∈xs):Wp (lD (.tup (xs.map D.int)) [.int v] st) Q↔Q (.int (xs.idxOf v:Int)) st:=by rw[QU];constructor;rintro⟨ns,j,h1,h2,q⟩;rw[Me]at h1;cases h1;rw[Q8 h]at h2;cases h2;exact q;intro q;exact⟨xs,_,Me xs,Q8 h,q⟩
def ZW{st:Store}{xs ys p:List Int}{n:Nat}(tx:ae.Tn n xs)(ty:ae.Tn n ys)(tp:ae.Tn n p)(hn:n<=100):Wp (F3 [bE xs ys,.tup (p.map D.int)] st) λd st'=>d=bE (ae.anew xs p) (ae.anew ys p)/\Ex [] st st':=by
 have Gm:=tp.length;refine dY ?_;show Ws (JE [some (bE xs ys),some (.tup (p.map D.int))] st) _ _ _ _;unfold JE bE;refine c4 ?_;k_lt hQ;refine uV [.tup (xs.map D.int),.tup (ys.map D.int)] (λd=>match d with|.tup ds=>.tup ((ae.anew (ds.map inD) p).map D.int)|_=>.non) ?_ (by simp) ?_ ?_;k_lt cg;exact cg _ _ ⟨rZ _ _,Ex.refl⟩;intro d hd st1 k1;obtain⟨zs,rfl,tz⟩:∃zs:List Int,d=.tup (zs.map D.int)/\ae.Tn n zs:=by
  rcases ZaA.mp hd with rfl|hd
  exact⟨xs,rfl,tx⟩;exact⟨ys,Zat.mp hd,ty⟩
 have RM:=tz.length;refine bM ?_;intro lI cg;exists Zay,ZaZ,Za2,Za3;refine uV (aH 0 n) (λd=>.int (ae.app p (ae.app zs (p.idxOf (inD d):Int)))) ?_ (by rw[lr];lk) ?_ ?_;k_lt uI;rw[Zaa,Gm];exact⟨by lk,uI _ _ ⟨by rw[Zau];exact rZ _ _,Ex.refl⟩⟩;intro d hd st2 k2;rw[xP]at hd;obtain⟨x,hx,rfl⟩:=Es hd;obtain⟨x0,x1⟩:=ae.ll.mp hx;have hm:=tp.mem x0 x1;have hi:=tp.idx x0 x1;obtain⟨a0,a1⟩:=tz.app (i:=(p.idxOf x:Int)) ⋯ ⋯;refine bM ?_;intro Gi uI;exists Zay,ZaZ,Za2,Za3,Xs,ZV hm,rY (xs:=zs) (i:=(p.idxOf x:Int)) ⋯ ⋯,rY (xs:=p) a0 ⋯;exact uI _ _ ⟨rfl,Ex.refl⟩;intro st' k';have e:(aH 0 n).map (λd=>D.int (ae.app p (ae.app zs (p.idxOf (inD d):Int))))=(ae.anew zs p).map D.int:=by
  rw[xP,Mp (f:=λx=>ae.app p (ae.app zs (p.idxOf x:Int))) λx hx=>rfl]
  congr 1
  unfold ae.anew ae.aT ae.inv;rw[Zas,Zas,Gm];rfl
 rw[e];w_how;refine cg _ _ ⟨?_,k'.app _⟩;show D.tup _=D.tup ((ae.anew ((zs.map D.int).map inD) p).map D.int);rw[Zas]
 congr 3
 exact(Zb9 zs).symm;intro st' k';w_how;refine hQ _ _ ⟨?_,k'.app _⟩;have e:∀zs:List Int,(zs.map D.int).map inD=zs:=λzs=>by rw[Zas];exact Zb9 zs
 simp only[Zay,ZaZ,e]
def ZX{st:Store}{f:Nat}{most:Int}(hf:bS st f)(m0:1<=most)(m8:most<=20):Wp (Ga [.ref f,.int most] st) λd st'=>∃(n:Nat) (xs ys:List Int),d=bE xs ys/\l9 n xs ys/\1<=n/\(n:Int)<=most/\bS st' f/\Ex [f] st st':=by refine dY ?_;show Ws (JJ [some (.ref f),some (.int most),none] st) _ _ _ _;unfold JJ;refine aW (bD ?_);k_lt hQ;refine aR (wA (n:=most) hf ⋯ ⋯) ?_;rintro d st1 ⟨n1,rfl,n10,n11,f1,k1⟩;w_how;obtain⟨n,rfl⟩:∃n:Nat,n1=(n:Int)-1:=⟨(n1+1).toNat,by lk⟩;rw[show(1:Int)+((n:Int)-1)=(n:Int) by lk];refine hQ _ _ (c4 ?_);clear hQ;k_lt hQ;refine aR (ZE (n:=n) f1 ⋯ ⋯) ?_;rintro d st2 ⟨xs,ys,rfl,fl,f2,k2⟩;refine aR (MH (n:=n) f2 ⋯) ?_;rintro d st3 ⟨p,rfl,tp,f3,k3⟩;refine aR (ZW fl.1 fl.2.1 tp ⋯) ?_;rintro d kW ⟨rfl,k4⟩;exact hQ _ _ ⟨n,_,_,rfl,ae.pH fl tp ⋯,by lk,by lk,f3.keep k4,(((k1.trans k2).trans k3).trans k4.any)⟩
abbrev uZ(xs ys:List Int):Nat->List Int×List Int
 |0=>(xs,ys)
 |j+1=>(ae.inv (uZ xs ys j).2,(uZ xs ys j).1)
def JT{n:Nat}{xs ys:List Int}(tx:ae.Tn n xs)(ty:ae.Tn n ys):∀j,ae.Tn n (uZ xs ys j).1/\ae.Tn n (uZ xs ys j).2
 |0=>⟨tx,ty⟩
 |j+1=>⟨(JT tx ty j).2.az,(JT tx ty j).1⟩
abbrev MP(s:fq):Prop:=s.1=false->1<=s.2/\s.2<=3
abbrev lx(p:List Int×List Int)(s:fq):List Int×List Int:=if s.1=true then(p.1,ae.shr p.1 p.2 s.2)else uZ p.1 p.2 s.2.toNat
abbrev nE(p:List Int×List Int)(w:List fq):List Int×List Int:=w.foldl lx p
def ZY{n:Nat}{p:List Int×List Int}(h:ae.Tn n p.1/\ae.Tn n p.2)(s:fq):ae.Tn n (lx p s).1/\ae.Tn n (lx p s).2:=by unfold lx;split;exact⟨h.1,h.1.shr h.2 _⟩;exact JT h.1 h.2 _
def RV{n:Nat}:∀{p:List Int×List Int},ae.Tn n p.1/\ae.Tn n p.2->∀w:List fq,ae.Tn n (nE p w).1/\ae.Tn n (nE p w).2
 |_,h,[]=>h
 |_,h,s :: w=>RV (ZY h s) w
def ZZ(p:List Int×List Int)(v w:List fq):nE p (v ++ w)=nE (nE p v) w:=by unfold nE;rw[Zbr]
def Z0(p:List Int×List Int)(w:List fq)(s:fq):nE p (w ++ [s])=lx (nE p w) s:=by rw[ZZ];rfl
abbrev u3(p:List Int×List Int):D:=bE p.1 p.2
def Z1{st:Store}{p:List Int×List Int}{n:Nat}{s:fq}(h:ae.Tn n p.1/\ae.Tn n p.2)(hn:n<=100)(hs:MP s):Wp (E4 [u3 p,cX s] st) λd st'=>d=u3 (lx p s)/\Ex [] st st':=by
 obtain⟨b,k⟩:=s;refine dY ?_;show Ws (IU [some (u3 p),some (cX (b,k)),none,none] st) _ _ _ _;unfold IU cX;cases b with
 |true =>
  refine aW (kZ ?_);k_lt hQ;refine hQ _ _ ⟨λ_=>c4 ?_,λz=>absurd z ∅⟩;clear hQ;k_lt hQ;refine aR (ZT (k:=k) h.1 h.2 hn) ?_;rintro d st1 ⟨rfl,k1⟩;exact hQ _ _ ⟨rfl,k1⟩
 |false =>
  obtain⟨k1,k3⟩:=hs rfl;obtain⟨j,rfl⟩:∃j:Nat,k=(j:Int):=⟨k.toNat,by simp only at k1;lk⟩;refine aW (kZ ?_);k_lt hQ;refine hQ _ _ ⟨λz=>absurd z ∅,λ_=>mJ (aW (bD ?_))⟩;clear hQ;k_lt hQ;refine hQ _ _ (aW (oU (aH 0 j) (λi δ st2=>∃v3:Option D,δ=[some (u3 p),some (cX (false,(j:Int))),some (bE (uZ p.1 p.2 i).1 (uZ p.1 p.2 i).2),v3]/\Ex [] st st2) ?_ (by rw[lr];simp only at k3;lk) ?_ ?_));clear hQ;k_lt hQ;exact⟨by simp only at k3;lk,hQ _ _ ⟨by rw[Zau],none,rfl,Ex.refl⟩⟩;rintro i d δ st2 hd ⟨v3,rfl,k2⟩;obtain⟨ta,tb⟩:=JT h.1 h.2 i;clear hQ;k_lt hQ;refine hQ _ _ (bD ?_);clear hQ;k_lt hQ;refine aR (ZU ta tb hn) ?_;rintro d' st3 ⟨rfl,k3⟩;exact hQ _ _ ⟨some d,rfl,k2.trans k3⟩;rintro δ st2 ⟨v3,rfl,k2⟩;rw[lr];refine c4 ?_;clear hQ;k_lt hQ;refine hQ _ _ ⟨?_,k2⟩;unfold u3 lx;rw[if_neg (show ¬(false=true)from Zan),Zau]
def Z2{st:Store}{p:List Int×List Int}{n:Nat}{w:List fq}(h:ae.Tn n p.1/\ae.Tn n p.2)(hn:n<=100)(hw:∀s∈w,MP s)(hl:w.length<=1000):Wp (E6 [u3 p,.tup (w.map cX)] st) λd st'=>d=u3 (nE p w)/\Ex [] st st':=by refine dY ?_;show Ws (IW [some (u3 p),some (.tup (w.map cX)),none,none] st) _ _ _ _;unfold IW;refine aW (bD ?_);k_lt hQ;refine hQ _ _ (aW (oU (w.map cX) (λi δ st2=>∃v2:Option D,δ=[some (u3 p),some (.tup (w.map cX)),some (u3 (nE p (w.take i))),v2]/\Ex [] st st2) ?_ (by rw[Zaa];lk) ?_ ?_));clear hQ;k_lt hQ;exact hQ _ _ ⟨rfl,none,rfl,Ex.refl⟩;rintro i d δ st2 hd ⟨v2,rfl,k2⟩;rw[Zal]at hd;obtain⟨s,hs,rfl⟩:=ZaB.mp hd;obtain⟨hil,es⟩:=Zac.mp hs;clear hQ;k_lt hQ;refine hQ _ _ (bD ?_);clear hQ;k_lt hQ;refine aR (Z1 (RV h _) hn (hw s (Zak hs))) ?_;rintro d st3 ⟨rfl,k3⟩;refine hQ _ _ ⟨some (cX s),?_,k2.trans k3⟩;rw[ZaE hil,Z0,es];rfl;rintro δ st2 ⟨v2,rfl,k2⟩;rw[Zaa,Za1];refine c4 ?_;clear hQ;k_lt hQ;exact hQ _ _ ⟨rfl,k2⟩
abbrev lJ(T:ae.T4):D:=.tup [.int T.a,.int T.b,.int T.c,.int T.d]
abbrev MQ(A B:ae.T4):Prop:=∀x∈[A.a,A.b,A.c,A.d],∀y∈[B.a,B.b,B.c,B.d],dc x y=true
def xW{A B:ae.T4}(h:A.le 18446744073709551615):MQ A B:=λx hx y _=>by
 refine Ym ?_;obtain⟨h1,h2,h3,h4⟩:=h;simp only[ZaA,List.not_mem_nil,or_false]at hx;rcases hx with rfl|rfl|rfl|rfl<;>lk
def xX{A B:ae.T4}{M k:Nat}(hk:k<=60000000)(hM:M<P2 k)(h:A.le M)(h':B.le M):MQ A B:=λx hx y hy=>by
 obtain⟨h1,h2,h3,h4⟩:=h;obtain⟨g1,g2,g3,g4⟩:=h';simp only[ZaA,List.not_mem_nil,or_false]at hx hy;refine MB hk ?_ ?_;rcases hx with rfl|rfl|rfl|rfl<;>lk
 rcases hy with rfl|rfl|rfl|rfl<;>lk
def JU{st:Store}{A B:ae.T4}(h:MQ A B):Wp (wo [lJ A,lJ B] st) λd st'=>d=lJ (A.mul B)/\Ex [] st st':=by refine dY ?_;show Ws (I0 [some (lJ A),some (lJ B)] st) _ _ _ _;unfold I0 lJ;refine c4 ?_;have hh:∀x y:Int,x∈[A.a,A.b,A.c,A.d]->y∈[B.a,B.b,B.c,B.d]->dc x y=true:=λx y hx hy=>h x hx y hy;have a1:∀y∈[B.a,B.b,B.c,B.d],dc A.a y=true:=h _ (by simp);have a2:∀y∈[B.a,B.b,B.c,B.d],dc A.b y=true:=h _ (by simp);have a3:∀y∈[B.a,B.b,B.c,B.d],dc A.c y=true:=h _ (by simp);have a4:∀y∈[B.a,B.b,B.c,B.d],dc A.d y=true:=h _ (by simp);refine bM ?_;intro cG hQ;exists MA,at2,Rb;exact⟨a1 _ (by simp),a2 _ (by simp),a1 _ (by simp),a2 _ (by simp),a3 _ (by simp),a4 _ (by simp),a3 _ (by simp),a4 _ (by simp),rfl,hQ _ _ ⟨rfl,Ex.refl⟩⟩
def RW{st:Store}{s:fq}(h:ae.cE s):Wp (Fc [cX s] st) λd st'=>d=lJ (ae.lp s)/\Ex [] st st':=by
 obtain⟨b,k⟩:=s;refine dY ?_;show Ws (Ja [some (cX (b,k)),none,none] st) _ _ _ _;unfold Ja cX;cases b with
 |true =>
  refine aW (kZ ?_);k_lt hQ;refine hQ _ _ ⟨λ_=>c4 ?_,λh=>absurd h ∅⟩;clear hQ;k_lt hQ;exact⟨rfl,hQ _ _ ⟨rfl,Ex.refl⟩⟩
 |false =>
  obtain⟨k1,k3⟩:=h.1 rfl;simp only at k1 k3;obtain⟨j,rfl⟩:∃j:Nat,k=(j:Int):=⟨k.toNat,by lk⟩;refine aW (kZ ?_);k_lt hQ;refine hQ _ _ ⟨λh=>absurd h ∅,λ_=>mJ (aW (bD ?_))⟩;clear hQ;k_lt hQ;refine hQ _ _ ?_;clear hQ;show Ws _ _ _ _ _;refine aW (oU (aH 0 j) (λi δ st2=>∃v:Option D,δ=[some (.tup [.str "t",.int (j:Int)]),some (lJ (ae.qp i)),v]/\Ex [] st st2) ?_ (by rw[lr];lk) ?_ ?_);k_lt hQ;exact⟨by lk,hQ _ _ ⟨by rw[Zau],none,rfl,Ex.refl⟩⟩;rintro i d δ st2 hd ⟨v,rfl,k2⟩;k_lt hQ;refine hQ _ _ (bD ?_);clear hQ;k_lt hQ;refine aR (JU (A:=ae.T4.qt) (B:=ae.qp i) (xW ⟨by decide,by decide,by decide,by decide⟩)) ?_;rintro d st3 ⟨rfl,k3⟩;exact hQ _ _ ⟨_,rfl,k2.trans k3⟩;rintro δ st2 ⟨v,rfl,k2⟩;rw[lr];refine c4 ?_;k_lt hQ;refine hQ _ _ ⟨?_,k2⟩;show lJ (ae.qp j)=lJ (ae.qp (j:Int).toNat);rw[Zau]
def RX{s:fq}{B:Nat}(h:ae.cE s)(hs:s.2.natAbs<=B):(ae.lp s).le (B+1):=by
 have:=ae.xt (T:=ae.T4.one) (s:=s) (M:=1) (B:=B) ⟨by decide,by decide,by decide,by decide⟩ h hs
 rwa [ae.T4.mul_one,Nat.mul_one]at this
def Gr{T:ae.T4}{M N:Nat}(h:T.le M)(hn:M<=N):T.le N:=⟨Zap h.1 hn,Zap h.2.1 hn,Zap h.2.2.1 hn,Zap h.2.2.2 hn⟩
def MR{st:Store}{w:List fq}(hw:∀s∈w,ae.cE s/\s.2.natAbs<=4611686018427387904)(hl:w.length<=1000):Wp (sY [.tup (w.map cX)] st) λd st'=>d=lJ (ae.av w)/\Ex [] st st':=by refine dY ?_;show Ws (BO [some (.tup (w.map cX)),none,none] st) _ _ _ _;unfold BO;refine aW (bD ?_);k_lt hQ;refine hQ _ _ ?_;clear hQ;show Ws _ _ _ _ _;refine aW (oU (w.map cX) (λi δ st2=>∃v:Option D,δ=[some (.tup (w.map cX)),some (lJ (ae.av (w.take i))),v]/\Ex [] st st2) ?_ (by rw[Zaa];lk) ?_ ?_);k_lt hQ;exact hQ _ _ ⟨rfl,none,rfl,Ex.refl⟩;rintro i d δ st2 hd ⟨v2,rfl,k2⟩;rw[Zal]at hd;obtain⟨s,hs,rfl⟩:=ZaB.mp hd;obtain⟨hil,es⟩:=Zac.mp hs;have hsw:=hw s (Zak hs);k_lt hQ;refine hQ _ _ (bD ?_);clear hQ;k_lt hQ;refine aR (RW hsw.1) ?_;rintro d st3 ⟨rfl,k3⟩;refine aR (JU (xW (Gr (RX hsw.1 hsw.2) ∅))) ?_;rintro d kW ⟨rfl,k4⟩;refine hQ _ _ ⟨some (cX s),?_,(k2.trans k3).trans k4⟩;rw[ZaE hil,ae.vH,es];rfl;rintro δ st2 ⟨v2,rfl,k2⟩;rw[Zaa,Za1];refine c4 ?_;k_lt hQ;exact hQ _ _ ⟨rfl,k2⟩
def MS{w:List fq}{b n:Nat}(hw:∀s∈w,ae.cE s/\s.2.natAbs+1<=P2 b)(hn:w.length<=n):(ae.av w).le (P2 (b*n)):=by
 have:=ae.V2 (B:=P2 b-1) (n:=n) (w:=w) (λs hs=>⟨(hw s hs).1,by have:=(hw s hs).2;lk⟩) hn
 rwa [show P2 b-1+1=P2 b by have:=Bk b;lk,yQ]at this
def RY{st:Store}{w:List fq}{b:Nat}(hb:b<=50000)(hw:∀s∈w,ae.cE s/\s.2.natAbs+1<=P2 b)(hl:w.length<=1000):Wp (sY [.tup (w.map cX)] st) λd st'=>d=lJ (ae.av w)/\Ex [] st st':=by refine dY ?_;show Ws (BO [some (.tup (w.map cX)),none,none] st) _ _ _ _;unfold BO;refine aW (bD ?_);k_lt hQ;refine hQ _ _ ?_;clear hQ;show Ws _ _ _ _ _;refine aW (oU (w.map cX) (λi δ st2=>∃v:Option D,δ=[some (.tup (w.map cX)),some (lJ (ae.av (w.take i))),v]/\Ex [] st st2) ?_ (by rw[Zaa];lk) ?_ ?_);k_lt hQ;exact hQ _ _ ⟨rfl,none,rfl,Ex.refl⟩;rintro i d δ st2 hd ⟨v2,rfl,k2⟩;rw[Zal]at hd;obtain⟨s,hs,rfl⟩:=ZaB.mp hd;obtain⟨hil,es⟩:=Zac.mp hs;have hsw:=hw s (Zak hs);k_lt hQ;refine hQ _ _ (bD ?_);clear hQ;k_lt hQ;refine aR (RW hsw.1) ?_;rintro d st3 ⟨rfl,k3⟩;refine aR (JU (xX (M:=P2 (b*1000)) (k:=b*1000+1) ⋯ (by rw[vB];have:=Bk (b*1000);lk) (Gr (RX (B:=P2 b-1) hsw.1 ⋯) (by have:=Bk b;have:=De (show b<=b*1000 by lk);lk)) (MS (λs hs=>hw s (List.mem_of_mem_take hs)) (by rw[Za6];lk)))) ?_;rintro d kW ⟨rfl,k4⟩;refine hQ _ _ ⟨some (cX s),?_,(k2.trans k3).trans k4⟩;rw[ZaE hil,ae.vH,es];rfl;rintro δ st2 ⟨v2,rfl,k2⟩;rw[Zaa,Za1];refine c4 ?_;k_lt hQ;exact hQ _ _ ⟨rfl,k2⟩
def Z3{st:Store}{a b:fq}:Wp (Fj [cX a,cX b] st) λd st'=>d=.tup ((ae.cB a b).map cX)/\Ex [] st st':=by
 obtain⟨ab,ak⟩:=a;obtain⟨bb,bk⟩:=b;refine dY ?_;show Ws (Jf [some (.tup [.str (if ab then "s" else "t"),.int ak]),some (.tup [.str (if bb then "s" else "t"),.int bk]),none] st) _ _ _ _;unfold Jf;have hj:ae.cB (ab,ak) (bb,bk)=if ae.i6 (ab,ak) (bb,bk)=0 then[]else[(ab,ae.i6 (ab,ak) (bb,bk))]:=rfl
 refine aW (bD ?_);k_lt hQ;refine hQ _ _ ?_;clear hQ;show Ws _ _ _ _ _;refine aW (BG (N:=λδ st1=>st1=st/\δ=[some (.tup [.str (if ab then "s" else "t"),.int ak]),some (.tup [.str (if bb then "s" else "t"),.int bk]),some (.int (ae.i6 (ab,ak) (bb,bk)))]) (kZ ?_) ?_);k_lt hQ;refine hQ _ _ ⟨λh=>bD ?_,λh=>mJ ⟨rfl,?_⟩⟩;cases ab with
 |true=>exact absurd h ∅
 |false =>
  clear hQ;k_lt hQ;exact⟨by decide,hQ _ _ ⟨rfl,rfl⟩⟩
 cases ab with
 |true=>rfl
 |false=>exact absurd h ∅
 rintro δ st1 ⟨rfl,rfl⟩;refine aW (kZ ?_);k_lt hQ;refine hQ _ _ ⟨λh=>c4 ?_,λh=>mJ (c4 ?_)⟩;have h:=of_decide_eq_true h;clear hQ;k_lt hQ;refine⟨rfl,hQ _ _ ⟨?_,Ex.refl⟩⟩;rw[hj,if_pos h];rfl;have h:=of_decide_eq_false h;clear hQ;k_lt hQ;refine⟨rfl,rfl,hQ _ _ ⟨?_,Ex.refl⟩⟩;rw[hj,if_neg h];rfl
def MT{xs:List D}{x:D}:gH (xs ++ [x]) (-1)=some x:=by
 unfold gH mH;rw[Zaj,if_neg ∅,if_pos (by simp;lk)];simp only[Zbo];have e:((-1:Int)+((xs.length+[x].length:Nat):Int)).toNat=xs.length:=by simp only[ZaK];lk
 rw[e];simp
def RZ{xs:List D}{x:D}:cutD (xs ++ [x]) none (some (-1))=xs:=by
 have e1:HT.cH (xs ++ [x]).length 0 none=0:=rfl;have e2:HT.cH (xs ++ [x]).length (xs ++ [x]).length (some (-1))=xs.length:=by
  unfold HT.cH;simp only;rw[if_pos ∅,Zaj,ZaK];lk
 unfold cutD;rw[e1,e2,List.drop_zero,Nat.sub_zero];simp
def Z4(a b:Bool):(((if a=true then("s" : Str)else "t")=(if b=true then("s" : Str)else "t")))↔a=b:=by cases a<;>cases b<;>decide
def Z5{st:Store}{w:List fq}(hl:w.length<=1000):Wp (Fn [.tup (w.map cX)] st) λd st'=>d=.tup ((ae.pe w).reverse.map cX)/\Ex [] st st':=by
 refine dY ?_;show Ws (Jg [some (.tup (w.map cX)),none,none] st) _ _ _ _;unfold Jg;refine aW (bD ?_);k_lt hQ;refine⟨rfl,hQ _ _ ?_⟩;clear hQ;show Ws _ _ _ _ _;refine aW (oU (w.map cX) (λi δ st2=>∃v:Option D,δ=[some (.tup (w.map cX)),some (.tup ((ae.pe (w.take i)).reverse.map cX)),v]/\Ex [] st st2) ?_ (by rw[Zaa];lk) ?_ ?_);k_lt hQ;exact hQ _ _ ⟨rfl,none,rfl,Ex.refl⟩;rintro i d δ st2 hd ⟨v2,rfl,k2⟩;rw[Zal]at hd;obtain⟨s,hs,rfl⟩:=ZaB.mp hd;obtain⟨hil,es⟩:=Zac.mp hs;have ep:ae.pe (w.take (i+1))=ae.cI (ae.pe (w.take i)) s:=by rw[ZaE hil,ae.VP,es];rfl
 have hpl:(ae.pe (w.take i)).length<=1000:=by have:=ae.PU (w.take i);rw[Za6]at this;lk
 rw[ep];clear ep;generalize ae.pe (w.take i)=l at hpl ⊢;k_lt hQ;refine hQ _ _ (kZ ?_);clear hQ;k_lt hQ;cases l with
 |nil =>
  refine hQ _ _ ⟨λh=>absurd h ∅,λ_=>bD ?_⟩;clear hQ;k_lt hQ;exact⟨rfl,rfl,hQ _ _ ⟨some (cX s),rfl,k2⟩⟩
 |cons t r =>
  have eg:(t :: r).reverse.map cX=r.reverse.map cX ++ [cX t]:=by simp
  rw[eg];have el:decide ((0:Int)<((r.reverse.map cX ++ [cX t]).length:Nat))=true:=decide_eq_true (by simp);have es1:cX t=.tup [.str (if t.1 then "s" else "t"),.int t.2]:=rfl;have Z6:cX s=.tup [.str (if s.1 then "s" else "t"),.int s.2]:=rfl;have elt:(if t.1=true then("s" : Str)else "t")=(if s.1=true then("s" : Str)else "t")↔t.1=s.1:=Z4 _ _;exists MT,es1,Z6;rw[if_pos (by simp)];refine hQ _ _ ⟨λh=>bD ?_,λh=>bD ?_⟩;have h:=elt.mp (of_decide_eq_true h);clear hQ;k_lt hQ;rw[eg,RZ];exists MT;refine aR Z3 ?_;rintro d st3 ⟨rfl,k3⟩;w_how;refine⟨j4 ?_,hQ _ _ ⟨some (cX s),?_,k2.trans k3⟩⟩
  have:(ae.cB t s).length<=1:=by unfold ae.cB;split<;>simp
  simp only[Zaa,Za9];simp only[Zaz]at hpl;lk;have ej:(ae.cB t s).reverse=ae.cB t s:=by unfold ae.cB;split<;>rfl
  rw[ae.vF,if_pos h,List.reverse_append,Zaw,ej];rfl;have h:=λe=>of_decide_eq_false h (elt.mpr e);clear hQ;k_lt hQ;refine⟨rfl,j4 ?_,hQ _ _ ⟨some (cX s),?_,k2⟩⟩;simp only[Zaa,Za9,ZaK];lk;have e2:(s :: t :: r).reverse.map cX=(t :: r).reverse.map cX ++ [cX s]:=by simp
  rw[ae.vF,if_neg h,e2];rfl
 rintro δ st2 ⟨v2,rfl,k2⟩;rw[Zaa,Za1];refine c4 ?_;k_lt hQ;exact hQ _ _ ⟨rfl,k2⟩
def Z7{st:Store}{v w:List fq}(hl:v.length+w.length<=1000):Wp (Fs [.tup (v.map cX),.tup (w.map cX)] st) λd st'=>d=.tup ((ae.pe (v ++ w)).reverse.map cX)/\Ex [] st st':=by refine dY ?_;show Ws (Jh [some (.tup (v.map cX)),some (.tup (w.map cX))] st) _ _ _ _;unfold Jh;refine c4 ?_;k_lt hQ;refine⟨j4 (by simp only[Zaa];lk),?_⟩;rw[<- Zaw];refine aR (Z5 (by rw[Zaj];exact hl)) ?_;rintro d st3 ⟨rfl,k3⟩;exact hQ _ _ ⟨rfl,k3⟩
def Z8{st:Store}{s:fq}:Wp (Fy [cX s] st) λd st'=>d=cX (ae.nc s)/\Ex [] st st':=by
 obtain⟨b,k⟩:=s;refine dY ?_;show Ws (Jk [some (.tup [.str (if b then "s" else "t"),.int k])] st) _ _ _ _;unfold Jk;refine aW (kZ ?_);cases b with
 |true =>
  k_lt hQ;refine hQ _ _ ⟨λ_=>c4 ?_,λh=>absurd h ∅⟩;clear hQ;k_lt hQ;exact⟨rfl,hQ _ _ ⟨rfl,Ex.refl⟩⟩
 |false =>
  k_lt hQ;refine hQ _ _ ⟨λh=>absurd h ∅,λ_=>mJ (c4 ?_)⟩;clear hQ;k_lt hQ;exact⟨rfl,hQ _ _ ⟨rfl,Ex.refl⟩⟩
def Z9{st:Store}{w:List fq}(hl:w.length<=1000):Wp (FA [.tup (w.map cX)] st) λd st'=>d=.tup ((ae.kX w).map cX)/\Ex [] st st':=by
 refine dY ?_;show Ws (Jl [some (.tup (w.map cX))] st) _ _ _ _;unfold Jl;refine c4 ?_;k_lt hQ;refine X1 (w.reverse.map cX) (λi y=>∃s,w.reverse[i]?=some s/\y=cX (ae.nc s)) (Ex [] st) ?_ (by rw[Zaa,Za9];lk) ?_ ?_;refine bM ?_;intro lI cg;exists X8;refine⟨_,rfl,cg _ _ ⟨λi st2 hi _=>?_,Ex.refl⟩⟩;rw[<- List.map_reverse];exact rZ _ st2 i st2 hi Ex.refl;intro i d hd st1 k1;rw[Zal]at hd;obtain⟨s,hs,rfl⟩:=ZaB.mp hd;k_lt cg;refine aR Z8 ?_;rintro d st3 ⟨rfl,k3⟩;exact cg _ _ ⟨⟨s,hs,rfl⟩,k1.trans k3⟩;intro ys st' k' hy h;w_how;refine hQ _ _ ⟨?_,k'.app _⟩
 congr 1
 refine Zcf λi=>?_;rw[Zaa,Za9]at hy;have eb:ae.kX w=w.reverse.map ae.nc:=by unfold ae.kX;rw[List.map_reverse]
 rw[eb,Zal,Zal];rcases Nat.lt_or_ge i ys.length with hi|hi
 obtain⟨s,hs,e⟩:=h i ys[i] (Zab hi);rw[hs,Zab hi,e];rfl;rw[Zbl hi,Zbl (by rw[Za9];lk)];rfl
def YbW{st:Store}{x y:Int}(hy:y≠0)(hb:y.natAbs<P2 100):Wp (Fg [.int x,.int y] st) λd st'=>d=.int (ae.nr x y)/\Ex [] st st':=by
 have hl:(2*y).natAbs.log2<9000:=by
  have h1:(2*y).natAbs<2 ^ 101:=by
   have e:P2 101=2*P2 100:=vB 100;show _<P2 101;lk
  have:=(Nat.log2_lt (n:=(2*y).natAbs) (k:=101) ⋯).mpr h1;lk
 refine dY ?_;show Ws (Jd [some (.int x),some (.int y)] st) _ _ _ _;unfold Jd;refine c4 ?_;refine bM ?_;intro cG hQ;exists Yl;exact⟨.inl ∅,.inl ∅,⟨by lk,hl⟩,hQ _ _ ⟨rfl,Ex.refl⟩⟩
def MU{st:Store}{k:Int}:Wp (wm [.int k] st) λd st'=>d=.tup ((ae.oB k).map cX)/\Ex [] st st':=by refine dY ?_;show Ws (IZ [some (.int k)] st) _ _ _ _;unfold IZ;refine aW (kZ ?_);k_lt hQ;refine hQ _ _ ⟨λh=>c4 ?_,λh=>mJ (c4 ?_)⟩;have h:k=0:=of_decide_eq_true h;clear hQ;k_lt hQ;refine⟨rfl,hQ _ _ ⟨?_,Ex.refl⟩⟩;unfold ae.oB;rw[if_pos h];rfl;have h:¬k=0:=of_decide_eq_false h;clear hQ;k_lt hQ;refine⟨rfl,rfl,hQ _ _ ⟨?_,Ex.refl⟩⟩;unfold ae.oB;rw[if_neg h];rfl
def R0{st:Store}{T:ae.T4}{x y:Int}(hT:T.le (P2 102))(hx:x.natAbs<=P2 102)(hy:y.natAbs<=P2 102):Wp (An [lJ T,.tup [.int x,.int y]] st) λd st'=>d=.tup [.int (T.a*x+T.b*y),.int (T.c*x+T.d*y)]/\Ex [] st st':=by
 have ok:∀i j:Int,i.natAbs<=P2 102->j.natAbs<=P2 102->dc i j=true:=λi j hi hj=>by
  have e:P2 103=2*P2 102:=vB 102;have:=Bk 102;exact MB (k:=103) ∅ ⋯ ⋯
 obtain⟨h1,h2,h3,h4⟩:=hT;refine dY ?_;show Ws (IY [some (lJ T),some (.tup [.int x,.int y])] st) _ _ _ _;unfold IY lJ;refine c4 ?_;refine bM ?_;intro cG hQ;exists MA,at2,Rb;exact⟨ok _ _ h1 hx,ok _ _ h2 hy,ok _ _ h3 hx,ok _ _ h4 hy,rfl,hQ _ _ ⟨rfl,Ex.refl⟩⟩
def MV{st:Store}{Q:D->Store->Prop}{x y:Int}:Wp (aE (.tup [.int x,.int y]) (.int 0) st) Q↔Q (.int x) st:=a8
def MW{st:Store}{Q:D->Store->Prop}{x y:Int}:Wp (aE (.tup [.int x,.int y]) (.int 1) st) Q↔Q (.int y) st:=a8
def qZ{M k:Nat}(hM:M<2 ^ k)(hk:k<=100):M<P2 100/\P2 101=2*P2 100/\P2 102=2*P2 101/\100<P2 100:=⟨ZaR hM (Zb3 (n:=2) ∅ hk),vB 100,vB 101,Pq 100⟩
def R1{st:Store}{x y:Int}{M k:Nat}(hM:M<2 ^ k)(hk:k<=100)(hx:x.natAbs<=M)(hy:y.natAbs<=M):Wp (Ao [.tup [.int x,.int y]] st) λd st'=>∃g:List fq,d=.tup (g.map cX)/\(∀s∈g,ae.cE s/\s.2.natAbs<=M+1)/\g.length<=2*k/\(ae.av g).c*x+(ae.av g).d*y=0/\(∃(u:Int) (r:Nat),ae.Bv g u 0 r)/\Ex [] st st':=by
 refine dY ?_;show Ws (Je [some (.tup [.int x,.int y]),none,none,none] st) _ _ _ _;unfold Je;refine aW (bD ?_);refine bM ?_;intro cG hQ;w_how;refine⟨rfl,?_⟩;refine hQ _ _ (aW (bD ?_));clear hQ;refine bM ?_;intro cG hQ;w_how;refine hQ _ _ (aW (vY (λm δ s=>∃(g:List fq) (u v:Int) (r:Nat) (v3:Option D),m=k+1-r/\r<=k/\δ=[some (.tup [.int x,.int y]),some (.tup (g.map cX)),some (.tup [.int u,.int v]),v3]/\ae.Dv M x y g u v r/\ae.Bv g u v r/\Ex [] st s) (k+1) (by show k+1<1000000;lk) ⟨[],x,y,0,none,rfl,ZaO _,rfl,ae.Dv.zero hx hy,ae.Bv.zero x y,Ex.refl⟩ ?_));clear hQ;rintro m δ s ⟨g,u,v,r,v3,rfl,hr,rfl,dv,bv,k1⟩;have hub:=dv.ub;obtain⟨MX,R3,R4,R5⟩:=qZ hM hk;have hvb:v.natAbs<=M:=Zap (Zcd _ (Nat.one_le_two_pow)) dv.vb;refine bM ?_;intro cG hQ;exists MW;refine hQ _ _ ⟨λhc=>?_,λhc=>?_⟩;have hv:v≠0:=by simpa using hc
 have few:=dv.few (k:=k) hv hM;have dv':=dv.step hv;refine aW (bD ?_);clear hQ;refine bM ?_;intro cG hQ;exists MV,MW;refine aR (YbW hv ⋯) ?_;rintro d s1 ⟨rfl,k2⟩;w_how;refine aR (MU) ?_;rintro d s2 ⟨rfl,k3⟩;w_how;have hsl:=ae.DI (-(ae.nr u v));refine⟨rfl,rfl,j4 (by rw[Zaa];show _+1<=_;lk),?_⟩;have e1:((ae.oB (-(ae.nr u v))).map cX ++ [D.tup [D.str "t",D.int 1]])=(ae.rO u v).map cX:=by
  unfold ae.rO;rw[Zaw];rfl
 rw[e1];have y3:=ae.Qs (x:=u) hv;refine hQ _ _ (aW (bD ?_));clear hQ;refine bM ?_;intro cG hQ;w_how;refine aR (RY (b:=102) (w:=ae.rO u v) ∅ (λs hs=>⟨(y3 s hs).1,by have:=(y3 s hs).2;lk⟩) (by have:=ae.LW u v;lk)) ?_;rintro d s3 ⟨rfl,k4⟩;have hnr:=ae.Qr (x:=u) hv;refine aR (R0 (T:=ae.av (ae.rO u v)) (x:=u) (y:=v) (by rw[ae.HD];exact⟨by show(0:Int).natAbs<=_;lk,by show(-1:Int).natAbs<=_;lk,by show(1:Int).natAbs<=_;lk,by show(-(ae.nr u v)).natAbs<=_;lk⟩) ⋯ ⋯) ?_;rintro d s4 ⟨rfl,k5⟩;rw[ae.HD];have e2:∀q:Int,D.tup [.int ((0:Int)*u + -1*v),.int (1*u + -q*v)]=.tup [.int (-v),.int (u-q*v)]:=λq=>by
  have a1:(0:Int)*u + -1*v=-v:=by lk
  have a2:1*u + -q*v=u-q*v:=by rw[ZaX];lk
  rw[a1,a2]
 show cG (D.tup [.int ((0:Int)*u + -1*v),.int (1*u + -(ae.nr u v)*v)]) s4;rw[e2];refine hQ _ _ (bD ?_);clear hQ;refine bM ?_;intro cG hQ;w_how;have JV:=dv.ln;have hdl:=ae.LW u v;refine⟨j4 (by rw[Zaa,Zaa];lk),hQ _ _ ⟨k+1-(r+1),by lk,g ++ ae.rO u v,_,_,r+1,_,rfl,by lk,by rw[Zaw];rfl,dv',bv.step hv,(((k1.trans k2).trans k3).trans k4).trans k5⟩⟩;have hv:v=0:=by simpa using hc
 refine c4 ?_;clear hQ;refine bM ?_;intro cG hQ;w_how;exact hQ _ _ ⟨g,rfl,dv.pr,by have:=dv.ln;lk,by rw[<- dv.vc];exact hv,⟨u,r,hv ▸ bv⟩,k1⟩
def MY{st:Store}{Q:D->Store->Prop}{T:ae.T4}:Wp (aE (lJ T) (.int 0) st) Q↔Q (.int T.a) st:=a8
def MZ{st:Store}{Q:D->Store->Prop}{T:ae.T4}:Wp (aE (lJ T) (.int 1) st) Q↔Q (.int T.b) st:=a8
def R6{st:Store}{Q:D->Store->Prop}{T:ae.T4}:Wp (aE (lJ T) (.int 2) st) Q↔Q (.int T.c) st:=a8
def AF{st:Store}{Q:D->Store->Prop}{T:ae.T4}:Wp (aE (lJ T) (.int 3) st) Q↔Q (.int T.d) st:=a8
def xbW{st:Store}{T:ae.T4}(hl:T.le (P2 100)):Wp (Fu [lJ T] st) λd st'=>d=.bl (decide (T.a*T.d-T.b*T.c=1))/\Ex [] st st':=by
 have ok:∀i j:Int,i.natAbs<=P2 100->j.natAbs<=P2 100->dc i j=true:=λi j hi hj=>by
  have e:P2 101=2*P2 100:=vB 100;have:=Bk 100;exact MB (k:=101) ∅ ⋯ ⋯
 refine dY ?_;show Ws (Ji [some (lJ T)] st) _ _ _ _;unfold Ji;refine c4 ?_;have hs:b9 st (lJ T)=some [.int T.a,.int T.b,.int T.c,.int T.d]:=rfl;refine bM ?_;intro cG hQ;exists hs,MA,MY,MZ,R6,AF;obtain⟨h1,h2,h3,h4⟩:=hl;rw[if_pos (show decide ((([D.int T.a,D.int T.b,D.int T.c,D.int T.d]:List D).length:Int)=4)=true from rfl)];exact⟨ok _ _ h1 h4,ok _ _ h2 h3,hQ _ _ ⟨rfl,Ex.refl⟩⟩
def Zbx{st:Store}{A:ae.T4}:Wp (Fw [lJ A] st) λd st'=>d=.tup ((ae.ph A).map cX)/\Ex [] st st':=by
 refine dY ?_;show Ws (Jj [some (lJ A)] st) _ _ _ _;unfold Jj;refine aW (kZ ?_);refine bM ?_;intro cG hQ;exists MY;refine hQ _ _ ⟨λh=>c4 ?_,λh=>mJ (c4 ?_)⟩;have h:A.a=1:=of_decide_eq_true h;clear hQ;refine bM ?_;intro cG hQ;exists MZ;refine aR (MU) ?_;rintro d s1 ⟨rfl,k1⟩;refine hQ _ _ ⟨?_,k1⟩;unfold ae.ph;rw[if_pos h];have h:¬A.a=1:=of_decide_eq_false h;clear hQ;refine bM ?_;intro cG hQ;exists MZ;refine⟨rfl,rfl,?_⟩;refine aR (MU) ?_;rintro d s1 ⟨rfl,k1⟩;w_how
 have:=ae.DI (-A.b);refine⟨j4 (by rw[Zaa];show 1+_<=_;lk),hQ _ _ ⟨?_,k1⟩⟩;unfold ae.ph;rw[if_neg h];rfl
def yb6{T:ae.T4}{g:List fq}{M k:Nat}(hM:M<2 ^ k)(hk:k<=100)(hl:T.le M)(hg:∀s∈g,ae.cE s/\s.2.natAbs<=M+1)(JV:g.length<=2*k):∀s∈ae.pe (ae.ph ((ae.av g).mul T) ++ ae.kX g),s.2.natAbs+1<=P2 20400:=by
 obtain⟨MX,R3,R4,R5⟩:=qZ hM hk;have h61:M+2<=P2 101:=by lk
 have hgt:=MS (w:=g) (b:=101) (n:=200) (λs hs=>⟨(hg s hs).1,by have:=(hg s hs).2;lk⟩) ⋯;have Gs:∀x y:Int,x.natAbs<=P2 (101*200)->y.natAbs<=M->(x*y).natAbs<=P2 20301:=λx y hx hy=>by
  rw[ZbL];refine Zap (Zbg hx (Zap hy (Zap (Nat.le_add_right M 2) h61))) ?_;rw[Pp];exact De ∅
 have hA:((ae.av g).mul T).b.natAbs<=P2 20302:=by
  have e:((ae.av g).mul T).b=(ae.av g).a*T.b+(ae.av g).b*T.d:=rfl;have h1:=Gs _ _ hgt.1 hl.2.1;have h2:=Gs _ _ hgt.2.1 hl.2.2.2;have h3:P2 20302=2*P2 20301:=vB 20301;rw[e];lk
 have M0:P2 101<=P2 20302:=De ∅;have h7:20302<P2 20302:=Pq 20302;generalize hB:P2 20302=B at hA M0 h7;have hv:∀s∈ae.ph ((ae.av g).mul T),ae.cE s/\s.2.natAbs<=B:=λs hs=>by
  refine⟨ae.Qu _ s hs,?_⟩;unfold ae.ph at hs;split at hs;rw[(ae.ze s hs).2];exact hA;rcases ZaA.mp hs with rfl|hs
  show(2:Int).natAbs<=B;lk;rw[(ae.ze s hs).2,Int.natAbs_neg];exact hA
 have hb:∀s∈ae.kX g,ae.cE s/\s.2.natAbs<=B:=λs hs=>by
  refine⟨ae.Hz (λs hs=>(hg s hs).1) s hs,?_⟩;unfold ae.kX at hs;obtain⟨t,ht,rfl⟩:=Zah.mp (Zb8.mp hs);obtain⟨h1,h2⟩:=hg t ht;obtain⟨b,k⟩:=t;cases b with
  |true=>show(-k).natAbs<=B;simp only at h2;lk
  |false=>have:=h1.1 rfl;simp only at this;show(4-k).natAbs<=B;lk
 intro s hs
 have hq:=ae.y4 (B:=B) (w:=ae.ph ((ae.av g).mul T) ++ ae.kX g) (λs hs=>by
  rcases ZaF.mp hs with h|h
  exact hv s h
  exact hb s h) s hs
 have hlen:(ae.ph ((ae.av g).mul T) ++ ae.kX g).length<=256:=by
  rw[Zaj];have h1:=ae.Qv ((ae.av g).mul T);have h2:(ae.kX g).length=g.length:=by unfold ae.kX;rw[Za9,Zaa]
  lk
 have h3:s.2.natAbs<=256*B:=Zap hq (ZbD _ hlen);have h4:P2 20310=256*B:=by
  have:=Pp 8 20302;rw[hB]at this;rw[show(20310:Nat)=8+20302 from rfl,<- this];rfl
 have h5:P2 20311=2*P2 20310:=vB 20310;have h6:P2 20311<=P2 20400:=De ∅;lk
def Zb6{st:Store}{T:ae.T4}{M k:Nat}(hM:M<2 ^ k)(hk:k<=100)(hl:T.le M)(hd:T.a*T.d-T.b*T.c=1):Wp (FD [lJ T] st) λd st'=>∃w:List fq,d=.tup (w.map cX)/\(∀s∈w,ae.cE s/\s.2.natAbs+1<=P2 20400)/\w.length<=2*k+2/\ae.av w=T/\Ex [] st st':=by
 refine dY ?_;show Ws (Jm [some (lJ T),none] st) _ _ _ _;unfold Jm;refine aW (kZ ?_);k_lt hQ;obtain⟨MX,R3,R4,R5⟩:=qZ hM hk;refine aR (xbW (Gr hl ⋯)) ?_;rintro d s1 ⟨rfl,k1⟩;refine⟨_,rfl,?_⟩;refine hQ _ _ ⟨λh=>absurd h (by simp[hd]),λ_=>mJ (aW (bD ?_))⟩;clear hQ;refine bM ?_;intro cG hQ;exists MY,R6;refine⟨rfl,?_⟩;refine aR (R1 hM hk hl.1 hl.2.2.1) ?_;rintro d s2 ⟨g,rfl,hg,JV,h0,_,k2⟩;refine hQ _ _ (c4 ?_);clear hQ;k_lt hQ;have BR:∀s∈g,ae.cE s:=λs hs=>(hg s hs).1;have R7:∀s∈g,ae.cE s/\s.2.natAbs+1<=P2 101:=λs hs=>⟨(hg s hs).1,by have:=(hg s hs).2;lk⟩;refine aR (RY (b:=101) (w:=g) ∅ R7 ⋯) ?_;rintro d s3 ⟨rfl,k3⟩;have hgt:=MS (n:=200) R7 ⋯;refine aR (JU (xX (k:=101*200+1) (M:=P2 (101*200)) ∅ (by have:=Bk (101*200);have:=vB (101*200);lk) hgt (Gr hl (Zap (Zbw MX) (De ∅))))) ?_;rintro d s4 ⟨rfl,k4⟩;refine aR (Zbx) ?_;rintro d s5 ⟨rfl,k5⟩;refine aR (Z9 (w:=g) ⋯) ?_;rintro d s6 ⟨rfl,k6⟩;have wB:=ae.Qv ((ae.av g).mul T);have wC:(ae.kX g).length=g.length:=by unfold ae.kX;rw[Za9,Zaa]
 refine aR (Z7 (v:=ae.ph ((ae.av g).mul T)) (w:=ae.kX g) ⋯) ?_;rintro d s7 ⟨rfl,k7⟩;obtain⟨e1,e2⟩:=ae.Wt hd BR h0;refine hQ _ _ ⟨_,rfl,λs hs=>⟨e2 s hs,yb6 hM hk hl hg JV s (Zb8.mp hs)⟩,?_,e1,(((((k1.trans k2).trans k3).trans k4).trans k5).trans k6).trans k7⟩;rw[Za9];have:=ae.PU (ae.ph ((ae.av g).mul T) ++ ae.kX g);rw[Zaj]at this;lk
def Ybx{st:Store}{xs ys:List Int}{n:Nat}{s:Int}(fl:l9 n xs ys)(hn:n<=100)(s0:0<=s)(s1:s<(n:Int)):Wp (EM [bE xs ys,.int s] st) λd st'=>d=.tup ((ae.inv (ae.bf xs ys s n)).map D.int)/\Ex [] st st':=by obtain⟨tx,ty,all⟩:=fl;refine dY ?_;show Ws (IF [some (bE xs ys),some (.int s)] st) _ _ _ _;unfold IF;refine c4 ?_;k_lt hQ;refine aR (ZL tx ty hn s0 s1) ?_;rintro d st1 ⟨rfl,k1⟩;refine aR (AB (ae.LD tx ty s0 s1 all) hn) ?_;rintro d st2 ⟨rfl,k2⟩;exact hQ _ _ ⟨rfl,k1.trans k2⟩
abbrev M1(xs ys:List Int)(s:Int)(n:Nat):D:=bE (ae.num xs (ae.bf xs ys s n)) (ae.num ys (ae.bf xs ys s n))
def ZbJ{st:Store}{xs ys:List Int}{n:Nat}{s:Int}(fl:l9 n xs ys)(hn:n<=100)(s0:0<=s)(s1:s<(n:Int)):Wp (EO [bE xs ys,.int s] st) λd st'=>d=M1 xs ys s n/\Ex [] st st':=by have BS:=fl;obtain⟨tx,ty,all⟩:=fl;have tb:=ae.LD tx ty s0 s1 all;refine dY ?_;show Ws (IG [some (bE xs ys),some (.int s)] st) _ _ _ _;unfold IG;refine c4 ?_;k_lt hQ;refine aR (Ybx BS hn s0 s1) ?_;rintro d st1 ⟨rfl,k1⟩;refine aR (ZI tx ty tb.az hn) ?_;rintro d st2 ⟨rfl,k2⟩;rw[ae.Ht tx tb,ae.Ht ty tb];exact hQ _ _ ⟨rfl,k1.trans k2⟩
def M3{n:Nat}{xs ys:List Int}(fl:l9 n xs ys):ae.Wh n (xs,ys):=⟨⟨fl.1,fl.2.1⟩,fl.2.2⟩
def M4{n:Nat}{p:ae.bQ}(w:ae.Wh n p):l9 n p.1 p.2:=⟨w.v.1,w.v.2,w.all⟩
def AG{n:Nat}(p:ae.bQ)(n0:0<n):∃s:Int,0<=s/\s<(n:Int)/\ae.rN n p=ae.uT p n s:=by
 have h:=(ae.LJ (l:=(ae.upto n).map (ae.uT p n)) (λe=>by
  have:=congrArg List.length e;rw[Zaa,ae.qN]at this;simp at this
  lk)).1
 obtain⟨s,hs,e⟩:=Zah.mp h;obtain⟨s0,s1⟩:=ae.ll.mp hs;exact⟨s,s0,s1,e.symm⟩
def Gu{n:Nat}{p:ae.bQ}(w:ae.Wh n p)(n0:0<n):ae.bW n p (ae.rN n p):=by obtain⟨s,s0,s1,e⟩:=AG p n0;have tb:=w.bf s0 s1;refine⟨ae.inv (ae.bf p.1 p.2 s n),tb.az,?_⟩;rw[e,ae.Ht w.v.1 tb,ae.Ht w.v.2 tb];rfl
def R8{n:Nat}{p q:ae.bQ}(w:ae.Wh n p)(n0:0<n)(a:ae.bW n p q):ae.Wh n q:=by obtain⟨g,tg,rfl⟩:=a;have:=ae.pH (M4 w) tg n0;exact⟨⟨this.1,this.2.1⟩,this.2.2⟩
def Ydn(p:ae.bQ)(n:Nat):(aH 0 n).map (λd=>bE (ae.uT p n (inD d)).1 (ae.uT p n (inD d)).2)=((ae.upto n).map (ae.uT p n)).map λq=>bE q.1 q.2:=by rw[xP,Zas,Zas];rfl
def zcI{st:Store}{xs ys:List Int}{n:Nat}(fl:l9 n xs ys)(n0:0<n)(hn:n<=20):Wp (ES [bE xs ys] st) λd st'=>d=bE (ae.rN n (xs,ys)).1 (ae.rN n (xs,ys)).2/\Ex [] st st':=by have hlx:=fl.1.length;refine dY ?_;show Ws (IH [some (bE xs ys)] st) _ _ _ _;unfold IH;refine c4 ?_;k_lt hQ;refine uV (aH 0 n) (λd=>bE (ae.uT (xs,ys) n (inD d)).1 (ae.uT (xs,ys) n (inD d)).2) ?_ (by rw[lr];lk) ?_ ?_;unfold bE;k_lt cg;rw[Zaa,hlx];exact⟨by lk,cg _ _ ⟨by rw[Zau];exact rZ _ _,Ex.refl⟩⟩;intro d hd st2 k2;rw[xP]at hd;obtain⟨x,hx,rfl⟩:=Es hd;obtain⟨x0,x1⟩:=ae.ll.mp hx;refine bM ?_;intro lI cg;exists Zay,ZaZ,Za2,Za3;refine aR (ZbJ fl ⋯ x0 x1) ?_;rintro d st3 ⟨rfl,k3⟩;exact cg _ _ ⟨rfl,k3⟩;intro st' k';rw[Ydn,Ye (mQ ke) (by rw[Zaa,ae.qN];exact n0)];exact hQ _ _ ⟨rfl,k'.app _⟩
def xdn{w:List fq}(h:∀s∈w,ae.cE s):∀s∈w,MP s:=λs hs=>(h s hs).1
def xcX:∀(w:List fq) (p:List Int×List Int),nE p w=ae.gI p w:=by
 have hq:∀(p:List Int×List Int) (j:Nat),uZ p.1 p.2 j=ae.pf j p:=λp j=>by
  induction j with
  |zero=>rfl
  |succ j ih=>show(ae.inv (uZ p.1 p.2 j).2,(uZ p.1 p.2 j).1)=ae.Qt (ae.pf j p);rw[ih];rfl
 have hs:∀(p:List Int×List Int) (s:fq),lx p s=ae.stM p s:=λp s=>by
  unfold lx ae.stM;rw[hq];rfl
 intro w
 induction w with
 |nil=>intro p;rfl
 |cons s w ih =>
  intro p;show nE (lx p s) w=ae.gI (ae.stM p s) w;rw[hs,ih]
def R9{st:Store}{xs ys:List Int}{n:Nat}{w:List fq}(fl:l9 n xs ys)(n0:0<n)(hn:n<=20){M k:Nat}(hM:M<2 ^ k)(hk:k<=100)(hw:∀s∈w,ae.cE s)(hl:(ae.av w).le M):Wp (Ap [bE xs ys,lJ (ae.av w)] st) λd st'=>d=bE (ae.rN n (ae.gI (xs,ys) w)).1 (ae.rN n (ae.gI (xs,ys) w)).2/\Ex [] st st':=by have wh:=M3 fl;refine dY ?_;show Ws (Jn [some (bE xs ys),some (lJ (ae.av w))] st) _ _ _ _;unfold Jn;refine c4 ?_;k_lt hQ;refine aR (Zb6 hM hk hl (ae.xw hw)) ?_;rintro d st1 ⟨u,rfl,hu0,hul,eu,k1⟩;have hu:∀s∈u,ae.cE s:=λs hs=>(hu0 s hs).1;refine aR (Z2 (p:=(xs,ys)) ⟨fl.1,fl.2.1⟩ ⋯ (xdn hu) ⋯) ?_;rintro d st2 ⟨rfl,k2⟩;rw[xcX];have wu:=wh.ld n0 (w:=u);refine aR (zcI (xs:=(ae.gI (xs,ys) u).1) (ys:=(ae.gI (xs,ys) u).2) (M4 wu) n0 hn) ?_;rintro d st3 ⟨rfl,k3⟩;refine hQ _ _ ⟨?_,(k1.trans k2).trans k3⟩;have e:ae.rN n (ae.gI (xs,ys) u)=ae.rN n (ae.gI (xs,ys) w):=ae.Wd n0 wu.v (ae.LQ hu hw eu wh.v);show bE (ae.rN n (ae.gI (xs,ys) u)).1 (ae.rN n (ae.gI (xs,ys) u)).2=_;rw[e]
def Sb{st:Store}{xs:List Int}{n:Nat}(tn:ae.Tn n xs)(hn:n<=100):Wp (xV [.tup (xs.map D.int)] st) λd st'=>∃rs:List (List Int),d=sX rs/\ae.iw xs (ae.upto n) rs/\(∀r∈rs,r.length<=n/\∀x∈r,0<=x/\x<(n:Int))/\rs.length<=n/\Ex [] st st':=by
 have hlen:=tn.length;refine dY ?_;show Ws (Iv [some (.tup (xs.map D.int)),none,none,none,none] st) _ _ _ _;unfold Iv;refine aW (Ed ?_);k_lt hQ;have eS:(st ++ [O.lst []]).length=st.length+1:=by simp
 refine⟨rfl,rfl,hQ _ _ ⟨_,_,rfl,?_⟩⟩;rw[eS]
 refine aW (oU (aH 0 n) (λk δ st2=>∃ (v3 v4:Option D) (rs:List (List Int)) (met:List Int),δ=[some (.tup (xs.map D.int)),some (.ref st.length),some (.ref (st.length + 1)),v3,v4]/\st2[st.length]?=some (.lst (rs.map λr=>.tup (r.map D.int)))/\st2[st.length + 1]?=some (.lst (met.map D.int)) /\
   (∀rest,ae.iw xs (ae.from' n k (λx=>met.contains x)) rest->ae.iw xs (ae.upto n) (rs ++ rest))/\(∀r∈rs,r.length<=n/\∀x∈r,0<=x/\x<(n:Int))/\rs.length<=k/\met.length<=k*n/\Ex [] st st2) ?_ (by rw[lr];lk) ?_ ?_)
 clear hQ;k_lt hQ;rw[Zaa,hlen];refine⟨by lk,hQ _ _ ⟨by rw[Zau],none,none,[],[],rfl,nz ke,by rw[<- eS];exact ke,λrest hrest=>?_,(λr hr=>nomatch hr),Zad _,ZaO _,(Ex.cf _).app _⟩⟩;have e:ae.from' n 0 (λx=>([]:List Int).contains x)=ae.upto n:=ae.Pz n;rw[e]at hrest;exact hrest;rintro k d δ st2 hd ⟨v3,v4,rs,met,rfl,uX,uY,se,hb,hrl,qe,k2⟩;have hk:=gM hd;rw[lr]at hk;rw[D0 hk,ZbN]at hd;cases hd;have hkn:k*n<=10000:=Zap (Zbg (show k<=100 by lk) hn) ∅;clear hQ;k_lt hQ;refine hQ _ _ (kZ ?_);clear hQ;refine bM ?_;intro cG hQ;exists Ic (st:=st2) (c:=D.ref (st.length+1)) (ns:=met) (c9 uY);have hfs:=ae.Px hk (λx=>met.contains x);refine hQ _ _ ⟨λhs=>?_,λhs=>?_⟩;have AE:met.contains (k:Int)=false:=by simpa using hs
 simp only[AE,ZaW,if_false]at hfs;clear hQ;refine aW (bD ?_);k_lt hQ;refine⟨rfl,hQ _ _ (aW (vY (λm δ st3=>∃j:Nat,m=n-(j+1)/\δ=[some (.tup (xs.map D.int)),some (.ref st.length),some (.ref (st.length+1)),some (.int (k:Int)),some (.ref st2.length)]/\st3[st2.length]?=some (.lst ((ae.row xs (k:Int) j).map D.int))/\ae.NB xs (k:Int) j/\Ex [] st2 st3) (n-1) (ZaT (show n-1<=100 by lk) ∅) ⟨0,rfl,rfl,ke,λj h1 h2=>by lk,Ex.cf _⟩ ?_))⟩;clear hQ;rintro m δ st3 ⟨j,rfl,rfl,hL,nb,k3⟩;have sN:=tn.i3 (i:=(k:Int)) ⋯ ⋯ nb;have hit:=tn.aS (i:=(k:Int)) ⋯ ⋯ j;refine bM ?_;intro cG hQ;exists c9 hL,Rc,rY (xs:=xs) hit.1 ⋯;refine hQ _ _ ⟨λhb'=>?_,λhb'=>?_⟩;have hb':ae.aS xs (k:Int) (j+1)≠(k:Int):=by simpa[ae.aS]using hb'
 have Gn:ae.NB xs (k:Int) (j+1):=λi h1 h2=>by
  by_cases hj:i<=j;exact nb i h1 hj
  have:i=j+1:=by lk
  rw[this];exact hb'
 have hle:=tn.i3 (i:=(k:Int)) ⋯ ⋯ Gn;refine sL ?_;clear hQ;refine bM ?_;intro cG hQ;exists c9 hL,mQ hL,Rc,rY (xs:=xs) hit.1 ⋯;refine⟨rX (by rw[c9 hL];rfl),j4 (by rw[Zaa,ae.sQ];lk),hQ _ _ ⟨n-(j+1+1),by lk,j+1,rfl,rfl,?_,Gn,k3.loc (Zad _)⟩⟩;rw[Zao (gM hL),ae.Pu,Zaw];rfl;have hb':ae.aS xs (k:Int) (j+1)=(k:Int):=by simpa[ae.aS]using hb'
 have jT:ae.a5 xs (k:Int) (ae.row xs (k:Int) j):=⟨j,rfl,nb,hb'⟩;have hlen':=jT.len tn ⋯ ⋯;have hrb:=jT.bound tn ⋯ ⋯;have Gp:=k3.keep _ _ uX (by simp);have Gq:=k3.keep _ _ uY (by simp);generalize hrr:ae.row xs (k:Int) j=r at hL jT hlen' hrb;have l1:=gM uX;have l2:=gM uY;refine aW (sL ?_);clear hQ;refine bM ?_;intro cG hQ;exists mQ hL,mQ Gq;refine⟨rX (by rw[c9 Gq];rfl),j4 (by rw[Zaa,Zaa];lk),hQ _ _ (sL ?_)⟩;clear hQ;have M5:(st3.set (st.length+1) (.lst (met.map D.int ++ r.map D.int)))[st.length]?=some (.lst (rs.map λr=>.tup (r.map D.int))):=by rw[ZaG ⋯];exact Gp
 have JN:(st3.set (st.length+1) (.lst (met.map D.int ++ r.map D.int)))[st2.length]?=some (.lst (r.map D.int)):=by rw[ZaG ⋯];exact hL
 refine bM ?_;intro cG hQ;exists c9 JN,mQ M5;refine⟨rX (by rw[c9 M5];rfl),j4 (by rw[Zaa];lk),hQ _ _ ⟨_,_,rs ++ [r],met ++ r,rfl,?_,?_,λrest hrest=>?_,λr' hr'=>?_,by rw[Zaj];simp;lk,by rw[Zaj,ZbM];lk,((k2.trans k3).loc ⋯).loc (Zad _)⟩⟩;rw[Zao (gM M5),Zaw];rfl;rw[ZaG ⋯,Zao (by rw[<- hrr]at *;exact gM Gq),Zaw];have e:(λx=>(met ++ r).contains x)=λx=>(met.contains x || r.contains x):=by
  funext x;rw[Zbs];simp
 rw[e,<- ae.Py]at hrest;rw[Zbq];refine se _ ?_;rw[hfs];refine .cons jT ?_;have e2:ae.out ((k:Int) :: ae.from' n (k+1) (λx=>met.contains x)) r=ae.out (ae.from' n (k+1) (λx=>met.contains x)) r:=by
  unfold ae.out;rw[Zcp,if_neg (by simp[jT.mem])]
 rw[e2];exact hrest;rcases ZaF.mp hr' with h|h
 exact hb r' h
 have:r'=r:=by simpa using h
 subst this;exact⟨hlen',hrb⟩;have AE:met.contains (k:Int)=true:=by simpa using hs
 simp only[AE,if_true]at hfs;exact mJ ⟨_,_,rs,met,rfl,uX,uY,λrest hrest=>se rest (by rw[hfs];exact hrest),hb,by lk,by rw[ZbM];lk,k2⟩;rintro δ st2 ⟨v3,v4,rs,met,rfl,uX,uY,se,hb,hrl,qe,k2⟩;rw[lr]at se hrl;refine c4 ?_;clear hQ;refine bM ?_;intro cG hQ;exists c9 uX;refine hQ _ _ ⟨rs,rfl,?_,hb,hrl,k2⟩;have:=se [] (by rw[ae.Pw];exact .nil)
 rwa [Zbt]at this
def Zcn{st:Store}{xs ys:List Int}{n:Nat}(tx:ae.Tn n xs)(ty:ae.Tn n ys)(hn:n<=100):Wp (FH [bE xs ys] st) λd st'=>d=.tup ((ae.rL xs ys).map D.int)/\Ex [] st st':=by have hlx:=tx.length;have Gf:=ty.length;have ix:=tx.az;have iy:=ty.az;refine dY ?_;show Ws (Jp [some (bE xs ys),none,none,none] st) _ _ _ _;unfold Jp bE;refine aW (bD ?_);k_lt hQ;refine hQ _ _ (aW (bD ?_));clear hQ;k_lt hQ;refine hQ _ _ (aW (bD ?_));clear hQ;k_lt hQ;refine aR (AB tx hn) ?_;rintro d st1 ⟨rfl,k1⟩;refine aR (AB ty hn) ?_;rintro d st2 ⟨rfl,k2⟩;refine aR (wF (xs:=ae.inv xs) (ys:=ae.inv ys) (λx hx=>by rw[iy.length];exact ix.bound hx) (by rw[ix.length];lk)) ?_;rintro d st3 ⟨rfl,k3⟩;refine hQ _ _ (c4 ?_);clear hQ;k_lt hQ;refine aR (wF (xs:=xs) (ys:=ys) (λx hx=>by rw[Gf];exact tx.bound hx) ⋯) ?_;rintro d kW ⟨rfl,k4⟩;refine aR (wF (xs:=ae.aT xs ys) (ys:=ae.aT (ae.inv xs) (ae.inv ys)) (λx hx=>by rw[ae.vD,ix.length];exact(tx.aT ty).bound hx) (by rw[ae.vD];lk)) ?_;rintro d j6 ⟨rfl,k5⟩;exact hQ _ _ ⟨rfl,(((k1.trans k2).trans k3).trans k4).trans k5⟩
def M6{st:Store}{xs ys:List Int}{Q:D->Store->Prop}:Wp (aE (bE xs ys) (.int 0) st) Q↔Q (.tup (xs.map D.int)) st:=a8
def Xdn{st:Store}{xs ys:List Int}{Q:D->Store->Prop}:Wp (aE (bE xs ys) (.int 1) st) Q↔Q (.tup (ys.map D.int)) st:=a8
abbrev tI(l:List Int):D:=.tup (l.map D.int)
abbrev ofT:D->List Int
 |.tup ds=>ds.map inD
 |_=>[]
def uJ(l:List Int):ofT (tI l)=l:=XS l
def Sd{st:Store}{xs ys r:List Int}{n:Nat}(tx:ae.Tn n xs)(ty:ae.Tn n ys)(hn:n<=100)(hb:∀x∈r,0<=x/\x<(n:Int))(hl:r.length<=100):Wp (Ar [bE xs ys,tI r] st) λd st'=>d=.bl (decide (ae.Sm xs ys r))/\Ex [] st st':=by
 have tr:=tx.rL ty;refine dY ?_;show Ws (Jr [some (bE xs ys),some (.tup (r.map D.int)),none] st) _ _ _ _;unfold Jr;refine aW (bD ?_);k_lt hQ;refine aR (Zcn tx ty hn) ?_;rintro d st1 ⟨rfl,k1⟩;refine hQ _ _ (c4 ?_);clear hQ;k_lt hQ;refine uV (r.map D.int) (λd=>.bl (decide (ae.app (ae.rL xs ys) (inD d)=inD d))) ?_ (by rw[Zaa];lk) ?_ ?_;k_lt cg;exact cg _ _ ⟨rZ _ _,Ex.refl⟩;intro d hd st2 k2;obtain⟨x,hx,rfl⟩:=Es hd;obtain⟨x0,x1⟩:=hb x hx;refine bM ?_;intro lI cg;exists Zay,ZaZ,Za2,Za3,rY (xs:=ae.rL xs ys) x0 (by rw[tr.length];exact x1);exact cg _ _ ⟨rfl,Ex.refl⟩;intro st2 k2;have e1:bg bV ((r.map D.int).map λd=>D.bl (decide (ae.app (ae.rL xs ys) (inD d)=inD d)))=some (r.map λx=>decide (ae.app (ae.rL xs ys) x=x)):=by
  rw[Zas];exact sF (f:=bV) (g:=λx=>D.bl (decide (ae.app (ae.rL xs ys) x=x))) (k:=λx=>decide (ae.app (ae.rL xs ys) x=x)) (λ_=>rfl) r
 have e2:(r.map λx=>decide (ae.app (ae.rL xs ys) x=x)).all id=decide (ae.Sm xs ys r):=by
  rw[Zbs,Za0,decide_eq_true_eq];constructor;intro h s hs;exact(ae.Qf tx ty (hb s hs).1 (hb s hs).2).mp (of_decide_eq_true (h _ (Zcw hs)));intro h b hb';obtain⟨s,hs,rfl⟩:=Zah.mp hb';exact decide_eq_true ((ae.Qf tx ty (hb s hs).1 (hb s hs).2).mpr (h s hs))
 exists pE,e1,e2;exact hQ _ _ ⟨rfl,(k1.trans k2).app _⟩
def M7{st:Store}{xs ys r:List Int}{n:Nat}(tx:ae.Tn n xs)(ty:ae.Tn n ys)(hn:n<=100)(a:ae.Rw n xs r)(hs:ae.Sm xs ys r):Wp (Aq [bE xs ys,tI r] st) λd st'=>∃r',d=tI r'/\ae.Up n xs ys r r'/\Ex [] st st':=by
 have hl:=a.len tx;refine dY ?_;show Ws (Jo [some (bE xs ys),some (.tup (r.map D.int))] st) _ _ _ _;unfold Jo;refine c4 ?_;refine bM ?_;intro cG hQ;exists M6;refine uV (r.map D.int) (λd=>.int (ae.app ys (inD d))) ?_ (by rw[Zaa];lk) ?_ ?_;k_lt cg;exact cg _ _ ⟨rZ _ _,Ex.refl⟩;intro d hd st2 k2;obtain⟨x,hx,rfl⟩:=Es hd;obtain⟨x0,x1⟩:=a.bound tx x hx;refine bM ?_;intro lI cg;exists Zay,ZaZ,Za2,Za3,Xdn,rY (xs:=ys) x0 (by rw[ty.length];exact x1);exact cg _ _ ⟨rfl,Ex.refl⟩;intro st2 k2;rw[Mp (f:=ae.app ys) λx hx=>rfl]
 obtain⟨m,hm,JW,hW⟩:=Yh (st:=st2 ++ [O.lst ((r.map (ae.app ys)).map D.int)]) (r:=st2.length) (ns:=r.map (ae.app ys)) Md (λe=>by
  obtain⟨x,hx⟩:=a.one;rw[List.map_eq_nil_iff.mp e]at hx
  cases hx)
 rw[hW];obtain⟨s,s1,e⟩:=Zah.mp hm;have bm:0<=m/\m<(n:Int):=by
  rw[<- e];exact ty.app (a.bound tx s s1).1 (a.bound tx s s1).2
 refine aR (MK tx hn bm.1 bm.2) ?_;rintro d st3 ⟨r',rfl,hr,k3⟩;exact hQ _ _ ⟨r',rfl,ae.Qg tx ty a hs hm JW hr,(k2.app _).trans k3⟩
abbrev iY(l:List Int)(b:List (List Int)):D:=.tup [.int (l.length:Int),.int (b.length:Int),sX b]
def Se{st:Store}{xs ys l:List Int}{n:Nat}(tx:ae.Tn n xs)(ty:ae.Tn n ys)(hn:n<=100)(a:ae.Rw n xs l):Wp (BQ [bE xs ys,tI l] st) λd st'=>∃b,d=iY l b/\ae.Bd n xs ys l b/\Ex [] st st':=by
 have wB:=a.len tx;refine dY ?_;show Ws (Js [some (bE xs ys),some (tI l),none,none] st) _ _ _ _;unfold Js;refine aW (bD ?_);k_lt hQ;refine⟨rfl,hQ _ _ (aW (vY (λm δ st2=>∃(b:List (List Int)) (v3:Option D),m=n-b.length/\δ=[some (bE xs ys),some (tI l),some (.ref st.length),v3]/\st2[st.length]?=some (.lst (b.map tI))/\ae.Ch n xs ys l b/\Ex [] st st2) (n-1) (ZaT (show n-1<=100 by lk) ∅) ⟨[l],none,rfl,rfl,ke,ae.Ch.one a,Ex.cf _⟩ ?_))⟩;clear hQ;rintro m δ st2 ⟨b,v3,rfl,rfl,hL,c,k2⟩;have hb:=c.len tx;have hb0:0<b.length:=by have:=(Zac.mp c.hd).1;lk
 obtain⟨r,hr⟩:∃r,b[b.length-1]?=some r:=⟨b[b.length-1],Zab ⋯⟩;have ar:=c.rw r (Zak hr);have hat:gH (b.map tI) (-1)=some (tI r):=Mz (by rw[Zaa,Zal,hr];rfl);have fin:∀(j6:Store) (v3:Option D),j6[st.length]?=some (.lst (b.map tI))->Ex [] st j6->ae.Bd n xs ys l b->Ws (aV (b8 (af (aG cR (af (ag 1) ah)) (af (aG cR (af (ag 2) ah)) (af (aG bC (af (ag 2) ah)) ah)))) [some (bE xs ys),some (tI l),some (.ref st.length),v3] j6) (λ_ st1=>(λd st'=>∃b,d=iY l b/\ae.Bd n xs ys l b/\Ex [] st st') .non st1) (λ_ _=>False) (λ_ _=>False) (λd st'=>∃b,d=iY l b/\ae.Bd n xs ys l b/\Ex [] st st'):=λj6 v3 h5 k5 hB=>by
  refine c4 ?_;unfold tI;refine bM ?_;intro cG hQ;exists c9 h5;refine⟨rfl,hQ _ _ ⟨b,?_,hB,k5⟩⟩;rw[Zaa,Zaa];rfl
 refine bM ?_;intro cG hQ;exists c9 hL,hat;refine aR (Sd tx ty hn (ar.bound tx) (by have:=ar.len tx;lk)) ?_;rintro d st3 ⟨rfl,k3⟩;have h3:=k3.keep _ _ hL (by simp);refine⟨_,rfl,hQ _ _ ⟨λht=>?_,λhf=>?_⟩⟩;have sm:ae.Sm xs ys r:=of_decide_eq_true ht;refine aW (bD ?_);clear hQ;refine bM ?_;intro cG hQ;exists c9 h3,hat;refine aR (M7 tx ty hn ar sm) ?_;rintro d kW ⟨r',rfl,up,k4⟩;have h4:=k4.keep _ _ h3 (by simp);refine hQ _ _ (aW (kZ ?_));clear hQ;unfold tI;refine bM ?_;intro cG hQ;exists Q5;refine hQ _ _ ⟨λhc=>W7 ?_,λhc=>mJ (sL ?_)⟩;have e:r'=l:=of_decide_eq_true hc;subst e;exact fin kW _ h4 ((k2.trans k3).trans k4) ⟨c,λq hq _=>by rw[hr]at hq;cases hq;exact up⟩;have ne:r'≠l:=of_decide_eq_false hc;have c':=c.snoc tx ty hr sm up ne;have hb':=c'.len tx;rw[Zaj,ZaK]at hb';clear hQ;refine bM ?_;intro cG hQ;exists mQ h4;refine⟨rX (by rw[c9 h4];rfl),j4 (by rw[Zaa];lk),hQ _ _ ⟨n-(b.length+1),by lk,b ++ [r'],_,by rw[Zaj,ZaK],rfl,?_,c',((k2.trans k3).trans k4).loc (Zad _)⟩⟩;rw[Zao (gM h4),Zaw];rfl;have ns:¬ae.Sm xs ys r:=of_decide_eq_false hf;exact fin st3 _ h3 (k2.trans k3) ⟨c,λq hq hs=>by rw[hr]at hq;cases hq;exact absurd hs ns⟩
abbrev q4(n:Nat)(xs ys:List Int)(rs lows:List (List Int)):Prop:=∃q:List Int->Bool,(∀r∈rs,q r=true↔∀p,ae.Rw n xs p->ae.Sm xs ys p->¬ae.Up n xs ys p r)/\lows=if rs.filter q=[]then[rs.headD []]else rs.filter q
def q4.lw{n:Nat}{xs ys:List Int}{rs lows:List (List Int)}(h:q4 n xs ys rs lows)(tx:ae.Tn n xs)(n0:0<n)(g:ae.iw xs (ae.upto n) rs):ae.Lw n xs ys rs lows:=by
 obtain⟨q,hq,rfl⟩:=h;have nd:=g.nodup tx;obtain⟨r0,hr0,_⟩:=g.has (x:=0) ∅ ⋯;have hup:∀r∈rs,q r=true\/∃p,ae.Rw n xs p/\ae.Sm xs ys p/\ae.Up n xs ys p r:=λr hr=>by
  by_cases h:q r=true
  ·exact .inl h
  ·refine .inr (Classical.byContradiction λc=>h ((hq r hr).mpr λp a s u=>c ⟨p,a,s,u⟩))
 split
 ·next e =>
  have none:∀r∈rs,q r≠true:=λr hr h=>by
   have:r∈rs.filter q:=ZaH.mpr ⟨hr,h⟩;rw[e]at this;cases this
  refine⟨by simp,λl hl=>?_,by simp,λr hr=>.inr ((hup r hr).resolve_left (none r hr)),.inr rfl⟩;rw[Zat.mp hl];cases rs with
  |nil=>cases hr0
  |cons a t=>exact Zae
 ·next e =>
  refine⟨e,λl hl=>(ZaH.mp hl).1,nd.filter _,λr hr=>?_,.inl λl hl=>?_⟩
  ·rcases hup r hr with h|h
   ·exact .inl (ZaH.mpr ⟨hr,h⟩)
   ·exact .inr h
  ·obtain⟨h1,h2⟩:=ZaH.mp hl
   exact(hq l h1).mp h2
abbrev dS(l:List Int)(b:List (List Int)):PyData:=.tuple [.int (l.length:Int),.int (b.length:Int),.tuple (b.map tupI)]
def AH(st:Store)(m:Nat)(l:List Int):cP st (m+2) (tI l)=some (tupI l):=by show(bg (cP st (m+1)) (l.map D.int)).map PyData.tuple=_;rw[sF (f:=cP st (m+1)) (g:=D.int) (k:=PyData.int) (λ_=>rfl) l];rfl
def XcX(st:Store)(l:List Int)(b:List (List Int)):cP st 20 (iY l b)=some (dS l b):=by
 have e:cP st 19 (sX b)=some (.tuple (b.map tupI)):=by
  show(bg (cP st 18) (b.map tI)).map PyData.tuple=_;rw[sF (f:=cP st 18) (g:=tI) (k:=tupI) (λl=>AH st 16 l) b];rfl
 show(bg (cP st 19) [D.int (l.length:Int),.int (b.length:Int),sX b]).map PyData.tuple=_;simp only[bg,e];rfl
def Sf:∀b c:List (List Int),cy (b.map tupI) (c.map tupI)=true
 |[],_=>rfl
 |_ :: _,[]=>rfl
 |x :: b,y :: c=>by
  show(cy (x.map PyData.int) (y.map PyData.int) && cy (b.map tupI) (c.map tupI))=true;rw[Io,Sf b c];rfl
def Sg(l l':List Int)(b b':List (List Int)):fZ (dS l b) (dS l' b')=true:=by show(true && (true && (cy (b.map tupI) (b'.map tupI) && true)))=true;rw[Sf];rfl
def zcY(l:List Int)(b:List (List Int)):(dS l b).canLay0=true/\(dS l b).depth<=50:=by
 have h1:PyData.canLayAll0 (b.map tupI)=true:=Ii λx hx=>by
  obtain⟨r,_,rfl⟩:=Zah.mp hx;exact xh r
 have h2:PyData.depthAll (b.map tupI)<=2:=Ij λx hx=>by
  obtain⟨r,_,rfl⟩:=Zah.mp hx;show PyData.depthAll (dh r)+1<=2;have:=Bh r;lk
 refine⟨?_,?_⟩;show(true && (true && (PyData.canLayAll0 (b.map tupI) && true)))=true;rw[h1];rfl;show max _ (max _ (max (PyData.depthAll (b.map tupI)+1) 0))+1<=50;have e1:(PyData.int (l.length:Int)).depth<=1:=by simp[PyData.depth]
 have e2:(PyData.int (b.length:Int)).depth<=1:=by simp[PyData.depth]
 lk
def ycY{L:List (List Int)}{B:List Int->List (List Int)}(hl:L.length<64):qu (L.map λl=>dS l (B l))=true:=by unfold qu;simp only[ZaD,ZbC,decide_eq_true_eq,Za0,Zaa];refine⟨⟨⟨hl,λa ha b hb=>?_⟩,λa ha=>?_⟩,.inr λa ha=>?_⟩;obtain⟨p,_,rfl⟩:=Zah.mp ha;obtain⟨q,_,rfl⟩:=Zah.mp hb;exact Sg _ _ _ _;obtain⟨p,_,rfl⟩:=Zah.mp ha;exact zcY _ _;obtain⟨p,_,rfl⟩:=Zah.mp ha;rfl
abbrev AI(L:List (List Int))(B:List Int->List (List Int)):List D:=qW (L.map λl=>iY l (B l)) (L.map λl=>dS l (B l))
def Si(rs:List (List Int))(q:List Int->Bool)(U:List Int->List Int):((rs.map tI).filter λd=>q (ofT d)).map (λd=>tI (U (ofT d)))=((rs.filter q).map U).map tI:=by
 rw[List.filter_map,Zas,Zas];have e:((λd=>q (ofT d)) ∘ tI)=q:=funext λl=>by show q (ofT (tI l))=q l;rw[uJ]
 rw[e];refine ZaJ λl _=>?_;show tI (U (ofT (tI l)))=tI (U l);rw[uJ]
def xY(l:List Int):pU 1 (tI l):=Rq 0 l
def AJ{l m:List Int}(h:tI l=tI m):l=m:=by rw[<- uJ l,h,uJ]
abbrev uK(n:Nat)(xs ys:List Int)(st:Store):D->Store->Prop:=λd st'=>∃(rs lows:List (List Int)) (B:List Int->List (List Int)),d=.tup (AI lows B)/\ae.iw xs (ae.upto n) rs/\q4 n xs ys rs lows/\(∀l∈lows,ae.Bd n xs ys l (B l))/\lows.length<=n/\Ex [] st st'
def Sj{st:Store}{xs ys:List Int}{n:Nat}(tx:ae.Tn n xs)(ty:ae.Tn n ys)(n0:0<n)(hn:n<=60):Wp (uW [bE xs ys] st) (uK n xs ys st):=by
 obtain⟨U,hU⟩:∃U:List Int->List Int,∀r,ae.Rw n xs r->ae.Sm xs ys r->ae.Up n xs ys r (U r):=by
  have:∀r,∃r',ae.Rw n xs r->ae.Sm xs ys r->ae.Up n xs ys r r':=λr=>by
   by_cases h:ae.Rw n xs r/\ae.Sm xs ys r;obtain⟨_,_,_,r',_,u,_⟩:=M7 (st:=[]) tx ty ⋯ h.1 h.2;exact⟨r',λ_ _=>u⟩;exact⟨[],λa b=>absurd ⟨a,b⟩ h⟩
  exact⟨λr=>Classical.choose (this r),λr=>Classical.choose_spec (this r)⟩
 obtain⟨B,hB⟩:∃B:List Int->List (List Int),∀l,ae.Rw n xs l->ae.Bd n xs ys l (B l):=by
  have:∀l,∃b,ae.Rw n xs l->ae.Bd n xs ys l b:=λl=>by
   by_cases h:ae.Rw n xs l;obtain⟨_,_,_,b,_,u,_⟩:=Se (st:=[]) tx ty ⋯ h;exact⟨b,λ_=>u⟩;exact⟨[],λa=>absurd a h⟩
  exact⟨λr=>Classical.choose (this r),λr=>Classical.choose_spec (this r)⟩
 refine dY ?_;show Ws (Jt [some (bE xs ys),none,none,none] st) _ _ _ _;unfold Jt;refine aW (bD ?_);refine bM ?_;intro cG hQ;exists M6;refine aR (RQ tx ⋯) ?_;rintro d st1 ⟨rs,rfl,hr,hb,hl,k1⟩;have rw':=hr.rw tx;have e0:sX rs=D.tup (rs.map tI):=rfl;rw[e0];refine hQ _ _ (aW (bD ?_));clear hQ;k_lt hQ;refine RE (rs.map tI) (λd=>decide (ae.Sm xs ys (ofT d))) (λd=>tI (U (ofT d))) ?_ (by rw[Zaa];lk) ?_ ?_ ?_;k_lt cg;exact cg _ _ ⟨rZ _ _,Ex.refl⟩;intro d hd st2 k2;obtain⟨r,hr',rfl⟩:=Zah.mp hd;have Sk:=hb r hr';refine bM ?_;intro lI cg;exists Zay,ZaZ,Za2,Za3;refine aR (Sd tx ty ⋯ Sk.2 (by have:=Sk.1;lk)) ?_;rintro d st3 ⟨rfl,k3⟩;refine⟨_,rfl,cg _ _ ⟨by rw[uJ],k3⟩⟩;intro d hd hq st2 k2;obtain⟨r,hr',rfl⟩:=Zah.mp hd;rw[uJ]at hq;have sm:ae.Sm xs ys r:=of_decide_eq_true hq;refine bM ?_;intro lI cg;exists Zay,ZaZ,Za2,Za3;refine aR (M7 tx ty ⋯ (rw' r hr') sm) ?_;rintro d st3 ⟨r',rfl,up,k3⟩;refine cg _ _ ⟨?_,k3⟩;rw[uJ,up.uniq (hU r (rw' r hr') sm) (rw' r hr') sm];intro st2 k2;have eU:=Si rs (λr=>decide (ae.Sm xs ys r)) U;rw[eU];generalize hus:((rs.filter λr=>decide (ae.Sm xs ys r)).map U)=us;have mus:∀r,r∈us↔∃p,ae.Rw n xs p/\ae.Sm xs ys p/\ae.Up n xs ys p r:=λr=>by
  rw[<- hus,Zah];constructor;rintro⟨p,hp,rfl⟩;obtain⟨h1,h2⟩:=ZaH.mp hp;have sm:ae.Sm xs ys p:=of_decide_eq_true h2;exact⟨p,rw' p h1,sm,hU p (rw' p h1) sm⟩;rintro⟨p,a,sm,up⟩;exact⟨p,ZaH.mpr ⟨(hr.mem tx).mpr a,decide_eq_true sm⟩,(hU p a sm).uniq up a sm⟩
 refine hQ _ _ (aW (bD ?_));clear hQ;have h2:items (st2 ++ [O.lst (us.map tI)]) st2.length=some (us.map tI):=pE;have Sl:Ex [] st (st2 ++ [O.lst (us.map tI)]):=(k1.trans k2).app _;generalize (st2 ++ [O.lst (us.map tI)])=st3 at h2 Sl ⊢;generalize st2.length=uu at h2 ⊢;k_lt hQ;refine RE (rs.map tI) (λd=>!us.contains (ofT d)) (λd=>tI (ofT d)) ?_ (by rw[Zaa];lk) ?_ ?_ ?_;k_lt cg;exact cg _ _ ⟨rZ _ _,Ex.refl⟩;intro d hd kW k4;obtain⟨r,hr',rfl⟩:=Zah.mp hd;refine bM ?_;intro lI cg;exists Zay,ZaZ,Za2,Za3
 rw[Al (es:=us.map tI) (n:=1) (xY r) (by rw[QT];exact Mm h2 k4) (λe he=>by
  obtain⟨z,_,rfl⟩:=Zah.mp he
  exact xY z) ∅]
 refine⟨_,rfl,cg _ _ ⟨?_,Ex.refl⟩⟩;rw[uJ];have e:∀c:Decidable (tI r∈us.map tI),@decide (tI r∈us.map tI) c=us.contains r:=λc=>by
  rw[Zbs,decide_eq_true_eq,Za4,Zah];constructor;rintro⟨z,hz,e⟩;rw[<- AJ e];exact hz;intro h;exact⟨r,h,rfl⟩
 show(!_)=!us.contains r;rw[e];intro d hd hq kW k4;obtain⟨r,hr',rfl⟩:=Zah.mp hd;k_lt cg;exact cg _ _ ⟨by rw[uJ],Ex.refl⟩;intro kW k4;have e3:=Si rs (λr=>!us.contains r) (λr=>r);rw[List.map_id']at e3;rw[e3];have hq:∀r∈rs,(!us.contains r)=true↔∀p,ae.Rw n xs p->ae.Sm xs ys p->¬ae.Up n xs ys p r:=λr hr'=>by
  rw[Bool.not_eq_true',<- Bool.not_eq_true,Za4,mus];constructor;intro h p a s u;exact h ⟨p,a,s,u⟩;rintro h ⟨p,a,s,u⟩;exact h p a s u
 have lw:q4 n xs ys rs (if rs.filter (λr=>!us.contains r)=[]then[rs.headD []]else rs.filter λr=>!us.contains r):=⟨_,hq,rfl⟩;have hlw:=(lw.lw tx n0 hr);have hfl:(rs.filter λr=>!us.contains r).length<=n:=Zap (Zcq _ _) hl;have h4:items (kW ++ [O.lst ((rs.filter λr=>!us.contains r).map tI)]) kW.length=some ((rs.filter λr=>!us.contains r).map tI):=pE;have Gv:Ex [] st (kW ++ [O.lst ((rs.filter λr=>!us.contains r).map tI)]):=(Sl.trans k4).app _;have fin:∀(lows:List (List Int)) (j6:Store) (r5:Nat),q4 n xs ys rs lows->lows.length<=n->items j6 r5=some (lows.map tI)->Ex [] st j6->Ws (aV (aG bC (af (aG lH (af (bN (kc (ag 3)) 1 [0] (hName 0) b7 (aG BQ (af (ag 1) (af (ag 0) ah)))) ah)) ah)) [some (bE xs ys),some (.tup (rs.map tI)),some (.ref uu),some (.ref r5)] j6) (λ_ st1=>uK n xs ys st .non st1) (λ_ _=>False) (λ_ _=>False) (uK n xs ys st):=by
  intro lows j6 r5 hL M8 h5 k5;have sub:=(hL.lw tx n0 hr).sub;refine c4 ?_;k_lt hQ;refine uV (lows.map tI) (λd=>iY (ofT d) (B (ofT d))) ?_ (by rw[Zaa];lk) ?_ ?_;k_lt cg;exact⟨_,h5,cg _ _ ⟨XR h5,Ex.refl⟩⟩;intro d hd D2 k6;obtain⟨l,hl',rfl⟩:=Zah.mp hd;have a:=rw' l (sub l hl');refine bM ?_;intro lI cg;exists Zay,ZaZ,Za2,Za3;refine aR (Se tx ty ⋯ a) ?_;rintro d xi ⟨b,rfl,hb',k7⟩;refine cg _ _ ⟨?_,k7⟩;rw[uJ,hb'.unique (hB l a)];intro D2 k6;have eB:(lows.map tI).map (λd=>iY (ofT d) (B (ofT d)))=lows.map λl=>iY l (B l):=by
   rw[Zas];refine ZaJ λl _=>?_;show iY (ofT (tI l)) (B (ofT (tI l)))=_;rw[uJ]
  rw[eB,Yg Md (sF (f:=cP _ 20) (g:=λl=>iY l (B l)) (k:=λl=>dS l (B l)) (λl=>XcX _ l (B l)) lows) (ycY ⋯)];exists pE;exact hQ _ _ ⟨rs,lows,B,rfl,hr,hL,λl hl'=>hB l (rw' l (sub l hl')),M8,((k5.trans k6).app _).app _⟩
 refine hQ _ _ (aW (kZ ?_));clear hQ;refine bM ?_;intro cG hQ;exists h4;refine hQ _ _ ⟨λhc=>bD ?_,λhc=>mJ ?_⟩;have hc:(rs.filter λr=>!us.contains r)=[]:=by
  have h:=of_decide_eq_true hc;rw[Zaa]at h;exact ZbE ⋯
 rw[if_pos hc]at lw;obtain⟨r0,hr0,_⟩:=hr.has (x:=0) ∅ ⋯;have hhd:gH (rs.map tI) 0=some (tI (rs.headD [])):=by
  refine uQ (j:=0) ?_;cases rs with
  |nil=>cases hr0
  |cons a t=>rfl
 clear hQ;refine bM ?_;intro cG hQ;exists hhd;refine⟨rfl,hQ _ _ ?_⟩;exact fin [rs.headD []] _ _ lw (by simp;lk) pE (Gv.app _);have hc:(rs.filter λr=>!us.contains r)≠[]:=by
  have h:=of_decide_eq_false hc;rw[Zaa]at h;intro z;rw[z]at h;exact h rfl
 rw[if_neg hc]at lw;exact fin _ _ _ lw hfl h4 Gv
def Sn(lows:List (List Int))(B:List Int->List (List Int)):∃M:List (List Int),M.Perm lows/\AI lows B=M.map (λl=>iY l (B l))/\M.Pairwise λl l'=>lT (dS l' (B l')) (dS l (B l))=false:=by
 refine⟨(nD (lows.map λl=>dS l (B l))).map λi=>lows.getD i [],?_,?_,?_⟩;have h:=(xR (lows.map λl=>dS l (B l))).map λi=>lows.getD i [];refine h.trans ?_;have e:(List.range (lows.map λl=>dS l (B l)).length).map (λi=>lows.getD i [])=lows:=by
  refine List.ext_getElem (by simp) λi h1 h2=>?_;rw[ZbK,Zcz,Zaf,Zab h2];rfl
 rw[e];unfold AI qW;rw[Zas];refine ZaJ λi hi=>?_;have hi':=ZaP.mp ((xR _).subset hi);rw[Zaa]at hi';show(lows.map λl=>iY l (B l)).getD i .non=iY (lows.getD i []) (B (lows.getD i []));rw[Zaf,Zal,Zaf,Zab hi'];rfl
 have h:=Rz (ps:=lows.map λl=>dS l (B l)) (λa ha b hb=>by
  obtain⟨p,_,rfl⟩:=Zah.mp ha;obtain⟨q,_,rfl⟩:=Zah.mp hb
  exact Sg _ _ _ _)
 rw[Zba]at h ⊢;refine Zbm (λ{i j} hi hj h=>?_) h;have at':∀i,i∈nD (lows.map λl=>dS l (B l))->(lows.map λl=>dS l (B l)).getD i .none=dS (lows.getD i []) (B (lows.getD i [])):=λi hi=>by
  have hi':=ZaP.mp ((xR _).subset hi);rw[Zaa]at hi';rw[Zaf,Zal,Zaf,Zab hi'];rfl
 rw[at' i hi,at' j hj]at h;exact h
def q4.lo{n:Nat}{xs ys:List Int}{rs lows:List (List Int)}(h:q4 n xs ys rs lows)(tx:ae.Tn n xs)(n0:0<n)(g:ae.iw xs (ae.upto n) rs):ae.Lo n xs ys lows:=by
 have lw:=h.lw tx n0 g;obtain⟨q,hq,rfl⟩:=h;refine⟨lw.nd,λl hl=>g.rw tx l (lw.sub l hl),?_⟩;split
 ·next e =>
  refine .inr ⟨⟨_,rfl⟩,λr a k=>?_⟩;have:r∈rs.filter q:=ZaH.mpr ⟨(g.mem tx).mpr a,(hq r ((g.mem tx).mpr a)).mpr k⟩;rw[e]at this;cases this
 ·next e =>
  refine .inl ⟨e,λr=>?_⟩;rw[ZaH,g.mem tx];constructor
  ·rintro⟨h1,h2⟩;exact⟨h1,(hq r ((g.mem tx).mpr h1)).mp h2⟩
  ·rintro⟨h1,h2⟩;exact⟨h1,(hq r ((g.mem tx).mpr h1)).mpr h2⟩
abbrev u5(a b:Int×Int):Prop:=a.1<b.1\/(a.1=b.1/\a.2<=b.2)
instance (a b:Int×Int):Decidable (u5 a b):=inferInstanceAs (Decidable (_\/_))
abbrev pD(p:Int×Int):D:=.tup [.int p.1,.int p.2]
abbrev gC(p:Nat×Nat):Int×Int:=((p.1:Int),(p.2:Int))
def Sq{l l':List Int}{b b':List (List Int)}(h:lT (dS l' b') (dS l b)=false):u5 ((l.length:Int),(b.length:Int)) ((l'.length:Int),(b'.length:Int)):=by
 have h:(if((l'.length:Int) == (l.length:Int))=true then(if((b'.length:Int) == (b.length:Int))=true then cw [.tuple (b'.map tupI)] [.tuple (b.map tupI)]else decide ((b'.length:Int)<(b.length:Int)))else decide ((l'.length:Int)<(l.length:Int)))=false:=h;unfold u5;show(l.length:Int)<(l'.length:Int)\/((l.length:Int)=(l'.length:Int)/\(b.length:Int)<=(b'.length:Int));by_cases e1:(l'.length:Int)=(l.length:Int);rw[if_pos (by rw[beq_iff_eq];exact e1)]at h;by_cases e2:(b'.length:Int)=(b.length:Int);exact .inr ⟨e1.symm,by lk⟩;rw[if_neg (by rw[beq_iff_eq];exact e2)]at h
 have:=of_decide_eq_false h;exact .inr ⟨e1.symm,by lk⟩
 rw[if_neg (by rw[beq_iff_eq];exact e1)]at h
 have:=of_decide_eq_false h;exact .inl ⋯
def Sr{a b:List (Int×Int)}(p:a.Perm b)(h1:a.Pairwise u5)(h2:b.Pairwise u5):a=b:=Mv p h1 h2 λx _ y _ h h'=>by
 unfold u5 at h h';exact Prod.ext ⋯ ⋯
def AK{st:Store}{xs ys g:List Int}{n:Nat}{L:List (Int×Int)}(fl:l9 n xs ys)(tg:ae.Tn n g)(n0:0<n)(hn:n<=60)(hp:((ae.qi n xs ys).map gC).Perm L)(hs:L.Pairwise u5):Wp (uW [bE (ae.anew xs g) (ae.anew ys g)] st) λd st'=>∃ts:List (D×D×D),d=.tup (ts.map λt=>.tup [t.1,t.2.1,t.2.2])/\(ts.map λt=>D.tup [t.1,t.2.1])=L.map pD/\ts.length<=n/\Ex [] st st':=by
 have tx:=fl.1;have ty:=fl.2.1;have BS:=ae.pH fl tg n0;refine aR (Sj BS.1 BS.2.1 n0 hn) ?_;rintro d st1 ⟨rs',gK,B',rfl,R',hL',Bs,hl',k1⟩;obtain⟨M,pM,eM,oM⟩:=Sn gK B';have R:=ae.xA tx;have lo:=ae.xB tx ty n0;have P:=ae.Lo.anew tx ty tg fl.2.2 BS.2.2 R R' lo (hL'.lo BS.1 n0 R') (λl hl=>ae.vN tx ty (lo.rw l hl)) Bs;refine⟨M.map λl=>(.int (l.length:Int),.int ((B' l).length:Int),sX (B' l)),?_,?_,by rw[Zaa,pM.length_eq];exact hl',k1⟩;rw[eM,Zas];rfl;have e:(M.map λl=>((l.length:Int),((B' l).length:Int)))=L:=by
  refine Sr ?_ ?_ hs;have p1:(M.map λl=>((l.length:Int),((B' l).length:Int))).Perm (gK.map λl=>((l.length:Int),((B' l).length:Int))):=pM.map _;have p2:(gK.map λl=>((l.length:Int),((B' l).length:Int))).Perm ((ae.qi n xs ys).map gC):=by
   have:=(P.symm).map gC;rw[Zas]at this;exact this
  exact p1.trans (p2.trans hp);rw[Zba];exact oM.imp λh=>Sq h
 rw[<- e,Zas,Zas];rfl
def xb6{st:Store}{a c:Int}(ha:a.natAbs<=10000)(hcb:c.natAbs<=10000):Wp (EA [.int a,.int c] st) λd st'=>d=.int (Int.gcd a c:Nat)/\Ex [] st st':=by
 refine dY ?_;show Ws (Ir [some (.int a),some (.int c)] st) _ _ _ _;unfold Ir;refine aW (Ed ?_);have e1:(if 0-a > a then 0-a else a)=(a.natAbs:Int):=by split<;>lk
 have e2:(if 0-c > c then 0-c else c)=(c.natAbs:Int):=by split<;>lk
 refine bM ?_;intro cG hQ;exists e1,e2;refine hQ _ _ ⟨_,_,rfl,?_⟩;clear hQ;refine aW (vY (λm δ s=>∃x y:Nat,y=m/\δ=[some (.int (x:Int)),some (.int (y:Int))]/\Nat.gcd x y=Int.gcd a c/\x<=10000/\y<=10000/\s=st) c.natAbs (ZaT hcb ∅) ⟨a.natAbs,c.natAbs,rfl,rfl,rfl,ha,hcb,rfl⟩ ?_);rintro _ δ s ⟨x,y,rfl,rfl,hp,hx,hy,rfl⟩;k_lt hQ;refine hQ _ _ ⟨λhb=>Ed ?_,λhb=>c4 ?_⟩;have hb:y≠0:=by simpa using hb
 clear hQ;k_lt hQ;have hlt:=Nat.mod_lt x (show y > 0 by lk);refine⟨by lk,hQ _ _ ⟨_,_,rfl,x % y,hlt,y,x % y,rfl,rfl,?_,by lk,by lk,rfl⟩⟩;rw[Nat.gcd_comm,<- Nat.gcd_rec,Nat.gcd_comm];exact hp;have hb:y=0:=by simpa using hb
 clear hQ;k_lt hQ;rw[hb,Nat.gcd_zero_right]at hp;exact hQ _ _ ⟨by rw[<- hp],Ex.refl⟩
def zdo(a c:Int)(hc:1<=c)(ha:0<=a):(1<=((Int.gcd a c:Nat):Int)/\((Int.gcd a c:Nat):Int)<=c)/\Int.gcd (a / (Int.gcd a c:Nat)) (c / (Int.gcd a c:Nat))=1/\1<=c / (Int.gcd a c:Nat)/\Int.gcd (-1*a / (Int.gcd a c:Nat)) (c / (Int.gcd a c:Nat))=1:=by
 have g0:0<Int.gcd a c:=Int.gcd_pos_of_ne_zero_right a ⋯;have h1:Int.gcd (a / (Int.gcd a c:Nat)) (c / (Int.gcd a c:Nat))=1:=Int.gcd_ediv_gcd_ediv_gcd g0;have h2:1<=c / (Int.gcd a c:Nat):=by
  have:=Int.le_of_dvd (show(0:Int)<c by lk) (Int.gcd_dvd_right a c);exact(Zcg ⋯).mpr ⋯
 refine⟨⟨by lk,Int.le_of_dvd (show(0:Int)<c by lk) (Int.gcd_dvd_right a c)⟩,h1,h2,?_⟩;have e:-1*a / (Int.gcd a c:Nat)=-(a / (Int.gcd a c:Nat)):=by
  rw[ZaX,Zcj];exact Int.neg_ediv_of_dvd (Int.gcd_dvd_left a c)
 rw[e,Int.neg_gcd];exact h1
def YbJ{st:Store}{f:Nat}{most:Int}(hf:bS st f)(m0:1<=most)(m1:most<=1000):Wp (EC [.ref f,.int most] st) λd st'=>∃(a:Int) (h:Nat),d=.tup [.int a,.int (h:Int)]/\(a.natAbs:Int)+(h:Int)<=most/\Int.gcd a h=1/\¬(a=-1/\h=0)/\bS st' f/\Ex [f] st st':=by
 refine dY ?_;show Ws (Iu [some (.ref f),some (.int most),none,none,none,none] st) _ _ _ _;unfold Iu;refine aW (bD ?_);k_lt hQ;refine aR (wA (n:=8) hf ∅ ∅) ?_;rintro d st1 ⟨fo,rfl,fo0,fo1,f1,k1⟩;refine hQ _ _ (aW (kZ ?_));clear hQ;k_lt hQ;refine hQ _ _ ⟨λ_=>c4 ?_,λ_=>mJ (aW (bD ?_))⟩;clear hQ;k_lt hQ;exact⟨rfl,hQ _ _ ⟨1,0,rfl,by lk,rfl,by lk,f1,k1⟩⟩;clear hQ;k_lt hQ;refine aR (wA (n:=most) f1 ⋯ ⋯) ?_;rintro d st2 ⟨c1,rfl,c10,c11,f2,k2⟩;w_how;refine hQ _ _ (aW (bD ?_));clear hQ;k_lt hQ;refine aR (wA (n:=most-(1+c1)+1) f2 ⋯ ⋯) ?_;rintro d st3 ⟨wi,rfl,Ss,wi1,f3,k3⟩;refine hQ _ _ (aW (bD ?_));clear hQ;k_lt hQ;refine aR (xb6 (a:=wi) (c:=1+c1) ⋯ ⋯) ?_;rintro d kW ⟨rfl,k4⟩;have gd:=zdo wi (1+c1) ⋯ Ss;obtain⟨g,hg⟩:∃g:Int,((Int.gcd wi (1+c1):Nat):Int)=g:=⟨_,rfl⟩;rw[hg]at gd ⊢;obtain⟨⟨g1,g2⟩,gq,gq0,gq1⟩:=gd;refine hQ _ _ (c4 ?_);clear hQ;k_lt hQ;refine⟨rfl,?_⟩;have f4:=f3.keep k4;refine aR (wA (n:=2) (f4.keep (Ex.cf [O.lst [D.int 1,D.int (-1)]])) ∅ ∅) ?_;rintro d j6 ⟨b,rfl,b0,b1,f5,k5⟩;have hi5:j6[kW.length]?=some (.lst [.int 1,.int (-1)]):=k5.keep _ _ ke (by have:=f4.lt;simp;lk);obtain⟨sg,hsg,hs1⟩:∃sg:Int,gH [D.int 1,D.int (-1)] b=some (.int sg)/\(sg=1\/sg=-1):=by
  rcases(show b=0\/b=1 by lk)with rfl|rfl
  exact⟨1,QX _ _,.inl rfl⟩;exact⟨-1,QY _ _ _,.inr rfl⟩
 exists c9 hi5,hsg;have hd1:0<=(1+c1) / g:=Int.ediv_nonneg ⋯ ⋯;have hd2:(1+c1) / g<=1+c1:=Int.ediv_le_self _ ⋯;have hb1:(sg*wi / g).natAbs<=wi.natAbs:=by
  have:(sg*wi / g).natAbs<=(sg*wi).natAbs:=by
   rcases hs1 with rfl|rfl
   rw[Zcj];have a1:0<=wi / g:=Int.ediv_nonneg ⋯ ⋯;have a2:wi / g<=wi:=Int.ediv_le_self _ ⋯;lk;have a1:-1*wi / g<=0:=Int.ediv_nonpos_of_nonpos_of_neg ⋯ ⋯;have a2:-1*wi<=-1*wi / g:=by
    refine(Zcg ⋯).mpr ?_;rw[ZaX,Zcj,ZaX];have:wi<=wi*g:=by
     have:=Int.mul_le_mul_of_nonneg_left g1 Ss
     rwa [Zcy]at this
    lk
   lk
  rcases hs1 with rfl|rfl<;>simp at this ⊢<;>lk
 refine⟨?_,by lk,by lk,rfl,hQ _ _ ⟨sg*wi / g,((1+c1) / g).toNat,?_,by lk,?_,by lk,f5,(((k1.trans k2).trans k3).trans k4.any).trans ((Ex.cf _).trans k5)⟩⟩;rcases hs1 with rfl|rfl
 exact .inl ∅;exact .inl ∅;rw[ZaN hd1];rw[ZaN hd1];rcases hs1 with rfl|rfl
 rw[Zcj];exact gq;exact gq1
abbrev oW:Nat->Str
 |0=>"r"
 |1=>"u"
 |2=>"l"
 |_=>"d"
abbrev stepT(xs ys:List Int):Nat->List Int
 |0=>xs
 |1=>ys
 |2=>ae.inv xs
 |_=>ae.inv ys
abbrev oq(xs ys:List Int)(s:Int):Nat->Int
 |0=>ae.app xs s
 |1=>ae.app ys s
 |2=>ae.app (ae.inv xs) s
 |_=>ae.app (ae.inv ys) s
def M9(xs ys:List Int)(s:Int)(j:Nat):oq xs ys s j=ae.app (stepT xs ys j) s:=by unfold oq stepT;split<;>rfl
def JX{n:Nat}{xs ys:List Int}(tx:ae.Tn n xs)(ty:ae.Tn n ys)(j:Nat):ae.Tn n (stepT xs ys j):=by unfold stepT;split;exact tx;exact ty;exact tx.az;exact ty.az
abbrev lK(xs ys:List Int):List (Key×D):=[(.inr "r",.tup (xs.map D.int)),(.inr "l",.tup ((ae.inv xs).map D.int)),(.inr "u",.tup (ys.map D.int)),(.inr "d",.tup ((ae.inv ys).map D.int))]
def Sv(xs ys:List Int){j:Nat}(hj:j<4):dC (lK xs ys) (.inr (oW j))=some (.tup ((stepT xs ys j).map D.int)):=by
 have c:j=0\/j=1\/j=2\/j=3:=by lk
 rcases c with rfl|rfl|rfl|rfl<;>rfl
def Sw{st:Store}{xs ys:List Int}{n:Nat}(tx:ae.Tn n xs)(ty:ae.Tn n ys)(hn:n<=100):Wp (Av [bE xs ys] st) λd st'=>d=.ref st.length/\st'[st.length]?=some (.dct (lK xs ys))/\Ex [] st st':=by refine dY ?_;show Ws (Jx [some (bE xs ys)] st) _ _ _ _;unfold Jx bE;refine c4 ?_;k_lt hQ;refine aR (AB (st:=st ++ [O.dct []]) tx hn) ?_;rintro d st1 ⟨rfl,k1⟩;refine aR (AB (st:=st1) ty hn) ?_;rintro d st2 ⟨rfl,k2⟩;have h2:=(k1.trans k2).keep _ _ ke (by simp);refine⟨h2,lK xs ys,rfl,(show 4<=15 by decide),hQ _ _ ⟨rfl,?_,?_⟩⟩;rw[Zao (gM h2)];rfl;exact(((Ex.cf _).trans k1).trans k2).loc (Zad _)
abbrev nX(w h:Nat):Nat->Nat->Nat->List Bool
 |0,_,_=>[]
 |f+1,x,y=>if x<w\/y<h then(if(y+1)*w<=h*x/\y<h then true :: nX w h f x (y+1)else false :: nX w h f (x+1) y)else[]
abbrev lz(a:Int):Nat:=if a<0 then 108 else 114
abbrev stC(c:Nat)(b:Bool):Nat:=if b then 117 else c
abbrev ot(a:Int)(L:List Bool):Str:=sO (L.map (stC (lz a)))
def ZcY{w h f x y:Nat}(hc:x<w\/y<h):nX w h (f+1) x y=if(y+1)*w<=h*x/\y<h then true :: nX w h f x (y+1)else false :: nX w h f (x+1) y:=by rw[nX,if_pos hc]
def JY(w h:Nat):∀f x y,(nX w h f x y).length<=f
 |0,_,_=>Zad _
 |f+1,x,y=>by
  rw[nX];split;split;rw[Zaz];have:=JY w h f x (y+1);lk;rw[Zaz];have:=JY w h f (x+1) y;lk;exact ZaO _
def Zdo(a:Int):(if a<0 then -a else a)=(a.natAbs:Int):=by split<;>lk
def Na{st:Store}{a:Int}{h:Nat}(ha:a.natAbs<=1000)(hh:h<=1000):Wp (wt [.tup [.int a,.int (h:Int)]] st) λd st'=>d=.str (ot a (nX a.natAbs h (a.natAbs+h) 0 0))/\Ex [] st st':=by
 refine dY ?_;show Ws (Jy [some (.tup [.int a,.int (h:Int)]),none,none,none,none,none,none] st) _ _ _ _;unfold Jy;refine aW (bD ?_);refine bM ?_;intro cG hQ;exists Rf,Zdo
 refine hQ _ _ (aW (bD ?_));clear hQ;refine bM ?_;intro cG hQ;w_how;refine hQ _ _ (aW (bD ?_));clear hQ;refine bM ?_;intro cG hQ;w_how;have Gw:∀{R:D->Store->Prop} {s:Store},R (.str (sO [lz a])) s->(if decide (a<0)=true then R (.str "l") s else R (.str "r") s):=λ{R s} h=>by
  unfold lz at h;by_cases c:a<0;rw[if_pos (decide_eq_true c)];rw[if_pos c]at h;exact h;rw[if_neg (by simpa using c)];rw[if_neg c]at h;exact h
 refine Gw ?_;refine hQ _ _ (aW (bD ?_));clear hQ;refine bM ?_;intro cG hQ;w_how;refine⟨rfl,?_⟩;refine hQ _ _ (aW (bD ?_));clear hQ;refine bM ?_;intro cG hQ;w_how;refine hQ _ _ (aW (bD ?_));clear hQ;refine bM ?_;intro cG hQ;w_how;generalize hw:a.natAbs=w at *;refine hQ _ _ (aW (vY (λm δ s=>∃(x y:Nat) (L:List Bool),m=(w-x)+(h-y)/\x<=w/\y<=h/\δ=[some (.tup [.int a,.int (h:Int)]),some (.int (w:Int)),some (.int (h:Int)),some (.str (sO [lz a])),some (.ref st.length),some (.int (x:Int)),some (.int (y:Int))]/\s[st.length]?=some (.lst (L.map λb=>.str (sO [stC (lz a) b])))/\L.length+((w-x)+(h-y))<=w+h/\nX w h (w+h) 0 0=L ++ nX w h ((w-x)+(h-y)) x y/\Ex [] st s) (w+h) (ZaT (show w+h<=2000 by lk) ∅) ⟨0,0,[],by lk,by lk,by lk,rfl,ke,by simp,rfl,Ex.cf _⟩ ?_));clear hQ;rintro m δ s ⟨x,y,L,rfl,hx,hy,rfl,hL,hlen,hgo,k⟩;have e1:decide ((x:Int)<(w:Int))=decide (x<w):=by simp
 have e2:decide ((y:Int)<(h:Int))=decide (y<h):=by simp
 refine bM ?_;intro cG hQ;w_how;refine Et (R:=λt=>cG t s) (hQ _ _ ⟨λhc=>?_,λhc=>?_⟩);have hc:x<w\/y<h:=by rw[e1,e2]at hc;simpa using hc
 obtain⟨f,hf⟩:∃f,(w-x)+(h-y)=f+1:=⟨(w-x)+(h-y)-1,by lk⟩;have Sx:(y+1)*w<=2000000:=Zap (Zbg (show y+1<=1001 by lk) ha) ∅;have Sy:h*x<=2000000:=Zap (Zbg hh (show x<=1000 by lk)) ∅;have e3:decide (((y:Int)+1)*(w:Int)<=(h:Int)*(x:Int))=decide ((y+1)*w<=h*x):=by
  rw[show((y:Int)+1)*(w:Int)=(((y+1)*w:Nat):Int) by push_cast;rfl,show(h:Int)*(x:Int)=((h*x:Nat):Int) by push_cast;rfl];simp only[Int.ofNat_le]
 rw[hf,ZcY hc]at hgo;refine kZ ?_;clear hQ;refine bM ?_;intro cG hQ;w_how;refine⟨.inl ⋯,.inl ⋯,Aj (R:=λt=>cG t s) (hQ _ _ ⟨λhc2=>?_,λhc2=>?_⟩)⟩;have hc2:(y+1)*w<=h*x/\y<h:=by rw[e3,e2]at hc2;simpa using hc2
 rw[if_pos hc2]at hgo;refine aW (sL ?_);clear hQ;refine bM ?_;intro cG hQ;exists mQ hL;refine⟨rX (by rw[c9 hL];rfl),j4 (by rw[Zaa];lk),?_⟩;refine hQ _ _ (bD ?_);clear hQ;refine bM ?_;intro cG hQ;w_how;refine hQ _ _ ⟨(w-x)+(h-(y+1)),by lk,x,y+1,L ++ [true],rfl,hx,by lk,rfl,?_,by rw[Zaj,ZaK];lk,?_,k.loc (Zad _)⟩;rw[Zao (gM hL),Zaw];rfl;rw[hgo,Zbq,show(w-x)+(h-(y+1))=f by lk];rfl;have hc2:¬((y+1)*w<=h*x/\y<h):=by rw[e3,e2]at hc2;simpa using hc2
 have Nb:x<w:=by
  rcases hc with hc|hc
  exact hc;by_cases Nb:x<w;exact Nb;exfalso;have exw:x=w:=by lk
  refine hc2 ⟨?_,hc⟩;rw[exw];exact ZbD w hc
 rw[if_neg hc2]at hgo;refine aW (sL ?_);clear hQ;refine bM ?_;intro cG hQ;exists mQ hL;refine⟨rX (by rw[c9 hL];rfl),j4 (by rw[Zaa];lk),?_⟩;refine hQ _ _ (bD ?_);clear hQ;refine bM ?_;intro cG hQ;w_how;refine hQ _ _ ⟨(w-(x+1))+(h-y),by lk,x+1,y,L ++ [false],rfl,by lk,hy,rfl,?_,by rw[Zaj,ZaK];lk,?_,k.loc (Zad _)⟩;rw[Zao (gM hL),Zaw];rfl;rw[hgo,Zbq,show(w-(x+1))+(h-y)=f by lk];rfl;have hc:¬(x<w\/y<h):=by rw[e1,e2]at hc;simpa using hc
 have e0:(w-x)+(h-y)=0:=by lk
 rw[e0,nX,Zbt]at hgo;rw[hgo];refine c4 ?_;clear hQ;have hL':items s st.length=some (((L.map λb=>[stC (lz a) b]).map sO).map D.str):=by rw[c9 hL,Zas,Zas];rfl
 have hb:∀x∈(L.map λb=>[stC (lz a) b]).map sO,x.length<=100:=λx hx=>by
  obtain⟨z,hz,rfl⟩:=Zah.mp hx;obtain⟨b,_,rfl⟩:=Zah.mp hz;rw[Rh];exact(show 1<=100 by decide)
 refine bM ?_;intro cG hQ;exists X5 (sep:=Str.ofString "") hL' (by rw[Zaa,Zaa];lk) ∅ hb;refine⟨rfl,hQ _ _ ⟨?_,k⟩⟩;rw[show(Str.ofString "")=sO []from rfl,xQ];unfold ot
 congr 2
 rw[<- List.flatMap_def];exact(List.map_eq_flatMap (f:=stC (lz a)) (l:=L)).symm
abbrev uL(j:Nat):Nat:=match j with
 |0=>114
 |1=>117
 |2=>108
 |_=>100
abbrev jU(js:List Nat):Str:=sO (js.map uL)
def Ydo(j:Nat)(hj:j<4):(⟨#[uL j]⟩:Str)=oW j:=by
 have c:j=0\/j=1\/j=2\/j=3:=by lk
 rcases c with rfl|rfl|rfl|rfl<;>rfl
def Sz(js:List Nat)(h:∀j∈js,j<4):wc (jU js)=js.map λj=>.str (oW j):=by unfold wc jU;rw[Rg,Zas];exact ZaJ λj hj=>congrArg D.str (Ydo j (h j hj))
def JZ(js:List Nat):(jU js).length=js.length:=by unfold jU;rw[Rh,Zaa]
abbrev sf(xs ys:List Int)(s:Int):List Nat->List Int
 |[]=>[s]
 |j :: r=>s :: sf xs ys (oq xs ys s j) r
abbrev lb(xs ys:List Int)(s:Int):List Nat->Int
 |[]=>s
 |j :: r=>lb xs ys (oq xs ys s j) r
def AL(xs ys:List Int):∀(s:Int) (a b:List Nat),lb xs ys s (a ++ b)=lb xs ys (lb xs ys s a) b
 |_,[],_=>rfl
 |s,j :: a,b=>AL xs ys (oq xs ys s j) a b
def SA(xs ys:List Int):∀(s:Int) (a:List Nat) (j:Nat),sf xs ys s (a ++ [j])=sf xs ys s a ++ [oq xs ys (lb xs ys s a) j]
 |_,[],_=>rfl
 |s,i :: a,j=>by
  show s :: sf xs ys (oq xs ys s i) (a ++ [j])=_;rw[SA xs ys _ a j];rfl
def SD(xs ys:List Int):∀(s:Int) (a:List Nat),(sf xs ys s a).length=a.length+1
 |_,[]=>rfl
 |s,j :: a=>by show(sf xs ys (oq xs ys s j) a).length+1=_;rw[SD xs ys _ a];rfl
def SE(xs ys:List Int):∀(s:Int) (a:List Nat),∃L,sf xs ys s a=L ++ [lb xs ys s a]/\L.length=a.length
 |s,[]=>⟨[],rfl,rfl⟩
 |s,j :: a=>by
  obtain⟨L,h,hl⟩:=SE xs ys (oq xs ys s j) a;exact⟨s :: L,by show s :: sf xs ys (oq xs ys s j) a=_;rw[h];rfl,by rw[Zaz,hl];rfl⟩
def J0{n:Nat}{xs ys:List Int}{s:Int}{j:Nat}(tx:ae.Tn n xs)(ty:ae.Tn n ys)(s0:0<=s)(s1:s<(n:Int)):0<=oq xs ys s j/\oq xs ys s j<(n:Int):=by rw[M9];exact(JX tx ty j).app s0 s1
def SF{n:Nat}{xs ys:List Int}(tx:ae.Tn n xs)(ty:ae.Tn n ys):∀{s:Int} (a:List Nat),0<=s->s<(n:Int)->0<=lb xs ys s a/\lb xs ys s a<(n:Int)
 |_,[],s0,s1=>⟨s0,s1⟩
 |s,j :: a,s0,s1=>SF tx ty a (J0 tx ty s0 s1).1 (J0 tx ty s0 s1).2
def Mz{L:List D}{d:D}:gH (L ++ [d]) (-1)=some d:=by unfold gH mH;rw[if_neg ∅,if_pos (by rw[Zaj,ZaK];lk)];simp only[Zbo];rw[show((-1:Int)+((L ++ [d]).length:Int)).toNat=L.length by rw[Zaj,ZaK];lk,ZaC (Zad _),Zb1];rfl
def AO(xs ys:List Int)(s:Int)(a:List Nat):gH ((sf xs ys s a).map D.int) (-1)=some (.int (lb xs ys s a)):=by obtain⟨L,h,_⟩:=SE xs ys s a;rw[h,Zaw];exact Mz
def Xb6{st:Store}{xs ys:List Int}{n:Nat}{s:Int}{js:List Nat}(tx:ae.Tn n xs)(ty:ae.Tn n ys)(hn:n<=100)(s0:0<=s)(s1:s<(n:Int))(hj:∀j∈js,j<4)(hl:js.length<=50000):Wp (FV [bE xs ys,.int s,.str (jU js)] st) λd st'=>d=.tup ((sf xs ys s js).map D.int)/\Ex [] st st':=by
 refine dY ?_;show Ws (JA [some (bE xs ys),some (.int s),some (.str (jU js)),none,none,none] st) _ _ _ _;unfold JA;refine aW (bD ?_);k_lt hQ;refine aR (Sw tx ty hn) ?_;rintro d st1 ⟨rfl,h1,k1⟩;have l1:=gM h1;refine hQ _ _ (aW (bD ?_));clear hQ;k_lt hQ;refine⟨rfl,hQ _ _ (aW (oU (js.map λj=>.str (oW j)) (λi δ s2=>∃v5:Option D,δ=[some (bE xs ys),some (.int s),some (.str (jU js)),some (.ref st.length),some (.ref st1.length),v5]/\s2[st.length]?=some (.dct (lK xs ys))/\s2[st1.length]?=some (.lst ((sf xs ys s (js.take i)).map D.int))/\Ex [] st s2) ?_ (by rw[Zaa];lk) ?_ ?_))⟩;clear hQ;refine bM ?_;intro cG hQ;exists Rn;rw[Sz js hj,JZ];exact⟨by lk,hQ _ _ ⟨rfl,none,rfl,nz h1,ke,k1.app _⟩⟩;clear hQ;rintro i d δ s2 hd ⟨v5,rfl,hT,hL,k2⟩;obtain⟨hi,ej⟩:=Zac.mp hd;rw[Zaa]at hi;rw[ZbK]at ej;subst ej;have Nc:js[i]<4:=hj _ (ZaM hi);obtain⟨w0,w1⟩:=SF tx ty (js.take i) s0 s1;have ht:=(JX tx ty js[i]).length;have hlen:(sf xs ys s (js.take i)).length<=50001:=by rw[SD,Za6];lk
 k_lt hQ;refine hQ _ _ (sL ?_);clear hQ;k_lt hQ;refine⟨rX (by rw[c9 hL];rfl),lK xs ys,Ie hT,_,rfl,_,Sv xs ys Nc,?_⟩;exists c9 hL,AO,rY (xs:=stepT xs ys js[i]) w0 ⋯,mQ hL;refine⟨j4 (by rw[Zaa];lk),hQ _ _ ⟨_,rfl,?_,?_,k2.loc k1.len⟩⟩;rw[ZaG ⋯];exact hT;rw[Zao (gM hL),ZaE hi,SA,Zaw,M9];rfl;clear hQ;rintro δ s2 ⟨v5,rfl,hT,hL,k2⟩;rw[Zaa,Za1]at hL;refine c4 ?_;refine bM ?_;intro cG hQ;exists c9 hL;exact hQ _ _ ⟨rfl,k2⟩
abbrev qC(a:Int)(L:List Bool):List Nat:=L.map λb=>if b=true then 1 else if a<0 then 2 else 0
def Nd(a:Int)(L:List Bool):ot a L=jU (qC a L):=by
 unfold ot jU qC;rw[Zas]
 congr 1
 refine ZaJ λb _=>?_;cases b;show lz a=uL (if a<0 then 2 else 0);unfold lz;split<;>rfl;rfl
def SG(a:Int)(L:List Bool):∀j∈qC a L,j<4:=λj hj=>by
 obtain⟨b,_,rfl⟩:=Zah.mp hj;show(if b=true then 1 else if a<0 then 2 else 0)<4;split;decide;split<;>decide
abbrev nF(xs ys:List Int)(n:Nat)(js:List Nat):List Int:=js.foldl (λg j=>ae.aT g (stepT xs ys j)) (ae.upto n)
def YcY(xs ys:List Int)(n:Nat)(js:List Nat)(j:Nat):nF xs ys n (js ++ [j])=ae.aT (nF xs ys n js) (stepT xs ys j):=by unfold nF;rw[Zbr];rfl
def Nf{n:Nat}{xs ys:List Int}(tx:ae.Tn n xs)(ty:ae.Tn n ys):∀(js:List Nat) (g:List Int),ae.Tn n g->ae.Tn n (js.foldl (λg j=>ae.aT g (stepT xs ys j)) g)/\∀s:Int,0<=s->s<(n:Int)->ae.app (js.foldl (λg j=>ae.aT g (stepT xs ys j)) g) s=lb xs ys (ae.app g s) js
 |[],g,tg=>⟨tg,λs _ _=>rfl⟩
 |j :: js,g,tg=>by
  obtain⟨h1,h2⟩:=Nf tx ty js (ae.aT g (stepT xs ys j)) (tg.aT (JX tx ty j));refine⟨h1,λs s0 s1=>?_⟩;show ae.app (js.foldl (λg j=>ae.aT g (stepT xs ys j)) (ae.aT g (stepT xs ys j))) s=lb xs ys (oq xs ys (ae.app g s) j) js;rw[h2 s s0 s1,ae.nJ s0 (by rw[tg.length];exact s1),M9]
def xZ{n:Nat}{xs ys:List Int}(tx:ae.Tn n xs)(ty:ae.Tn n ys)(js:List Nat):ae.Tn n (nF xs ys n js):=(Nf tx ty js (ae.upto n) (Zbh _)).1
def yb7{n:Nat}{s:Int}(s0:0<=s)(s1:s<(n:Int)):ae.app (ae.upto n) s=s:=by unfold ae.app;rw[Zaf,ae.Hq ⋯,Option.getD_some];lk
def J1{n:Nat}{xs ys:List Int}(tx:ae.Tn n xs)(ty:ae.Tn n ys)(js:List Nat){s:Int}(s0:0<=s)(s1:s<(n:Int)):ae.app (nF xs ys n js) s=lb xs ys s js:=by have:=(Nf tx ty js (ae.upto n) (Zbh _)).2 s s0 s1;rw[yb7 s0 s1]at this;exact this
def SH{st:Store}{xs ys:List Int}{n:Nat}{a:Int}{h:Nat}(tx:ae.Tn n xs)(ty:ae.Tn n ys)(hn:n<=100)(ha:a.natAbs<=1000)(hh:h<=1000):Wp (Aw [bE xs ys,.tup [.int a,.int (h:Int)]] st) λd st'=>d=.tup ((nF xs ys n (qC a (nX a.natAbs h (a.natAbs+h) 0 0))).map D.int)/\Ex [] st st':=by
 have hlx:=tx.length;refine dY ?_;show Ws (Jz [some (bE xs ys),some (.tup [.int a,.int (h:Int)]),none,none,none] st) _ _ _ _;unfold Jz;refine aW (bD ?_);k_lt hQ;refine aR (Sw tx ty hn) ?_;rintro d st1 ⟨rfl,h1,k1⟩;have l1:=gM h1;refine hQ _ _ (aW (bD ?_));clear hQ;k_lt hQ;unfold bE;w_how;rw[Zaa,hlx,show((n:Int)-0).toNat=n by lk,xP];refine⟨wa ⋯,?_⟩;generalize hL:nX a.natAbs h (a.natAbs+h) 0 0=L;have Ng:L.length<=2000:=by rw[<- hL];have:=JY a.natAbs h (a.natAbs+h) 0 0;lk
 have BU:=SG a L;have hjl:(qC a L).length=L.length:=by unfold qC;rw[Zaa]
 generalize hJ:qC a L=js at BU hjl;refine hQ _ _ (aW (oU (js.map λj=>.str (oW j)) (λi δ s2=>∃v4:Option D,δ=[some (bE xs ys),some (.tup [.int a,.int (h:Int)]),some (.ref st.length),some (.tup ((nF xs ys n (js.take i)).map D.int)),v4]/\s2[st.length]?=some (.dct (lK xs ys))/\Ex [] st s2) ?_ (by rw[Zaa];lk) ?_ ?_));clear hQ;refine bM ?_;intro cG hQ;exists Rn;refine aR (Na (a:=a) (h:=h) ha hh) ?_;rintro d s2 ⟨rfl,k2⟩;rw[hL,Nd,hJ];refine⟨_,rfl,by rw[JZ];lk,?_⟩;rw[Sz js BU];exact hQ _ _ ⟨rfl,none,rfl,((Ex.cf _).trans k2).keep _ _ h1 (by simp),k1.trans ((Ex.cf _).trans k2)⟩;clear hQ;rintro i d δ s2 hd ⟨v4,rfl,hT,k2⟩;obtain⟨hi,ej⟩:=Zac.mp hd;rw[Zaa]at hi;rw[ZbK]at ej;subst ej;have Nc:js[i]<4:=BU _ (ZaM hi);have tg:=xZ tx ty (js.take i);have ts:=JX tx ty js[i];k_lt hQ;refine hQ _ _ (bD ?_);clear hQ;k_lt hQ;refine⟨lK xs ys,Ie hT,_,rfl,_,Sv xs ys Nc,?_⟩;refine aR (wF (xs:=nF xs ys n (js.take i)) (ys:=stepT xs ys js[i]) (λx hx=>by rw[ts.length];exact tg.bound hx) (by rw[tg.length];lk)) ?_;rintro d s3 ⟨rfl,k3⟩;refine hQ _ _ ⟨some (.str (oW js[i])),?_,k3.keep _ _ hT (by simp),k2.trans k3⟩;rw[ZaE hi,YcY];rfl;clear hQ;rintro δ s2 ⟨v4,rfl,hT,k2⟩;rw[Zaa,Za1];refine c4 ?_;k_lt hQ;exact hQ _ _ ⟨by rw[hL,hJ],k2⟩
abbrev rep(k:Nat)(js:List Nat):List Nat:=(List.replicate k js).flatten
def SI(k:Nat)(js:List Nat):rep (k+1) js=rep k js ++ js:=by unfold rep;rw[List.replicate_succ',List.flatten_append];simp
def J2(k:Nat)(js:List Nat):(rep k js).length=k*js.length:=by
 induction k with
 |zero=>simp[rep]
 |succ k ih=>rw[SI,Zaj,ih,ZbM]
def xdo{k:Nat}{js:List Nat}(h:∀j∈js,j<4):∀j∈rep k js,j<4:=λj hj=>by
 unfold rep at hj;obtain⟨l,hl,hj⟩:=Zbn.mp hj;rw[(List.mem_replicate.mp hl).2]at hj;exact h j hj
def YcI(k:Nat)(js:List Nat):uE (jU js) k=jU (rep k js):=by unfold uE jU rep;rw[Rg,List.map_flatten,List.map_replicate]
abbrev ini(xs ys:List Int)(s:Int):List Nat->List Int
 |[]=>[]
 |j :: r=>s :: ini xs ys (oq xs ys s j) r
def SJ(xs ys:List Int):∀(s:Int) (a:List Nat),sf xs ys s a=ini xs ys s a ++ [lb xs ys s a]
 |_,[]=>rfl
 |s,j :: a=>by show s :: sf xs ys (oq xs ys s j) a=_;rw[SJ xs ys _ a];rfl
def SK(xs ys:List Int):∀(s:Int) (a b:List Nat),ini xs ys s (a ++ b)=ini xs ys s a ++ ini xs ys (lb xs ys s a) b
 |_,[],_=>rfl
 |s,j :: a,b=>by show s :: ini xs ys (oq xs ys s j) (a ++ b)=_;rw[SK xs ys _ a b];rfl
def J3(xs ys:List Int):∀(s:Int) (a:List Nat),(ini xs ys s a).length=a.length
 |_,[]=>rfl
 |s,j :: a=>by show(ini xs ys (oq xs ys s j) a).length+1=_;rw[J3 xs ys _ a];rfl
def SM{n:Nat}{xs ys:List Int}(tx:ae.Tn n xs)(ty:ae.Tn n ys)(js:List Nat){s:Int}(s0:0<=s)(s1:s<(n:Int)):∀k,lb xs ys s (rep k js)=ae.aS (nF xs ys n js) s k
 |0=>rfl
 |k+1=>by
  have hb:=(xZ tx ty js).aS s0 s1 k;rw[SI,AL,SM tx ty js s0 s1 k];show _=ae.app (nF xs ys n js) (ae.aS (nF xs ys n js) s k);rw[J1 tx ty js hb.1 hb.2]
def ycJ{st:Store}{xs ys:List Int}{n:Nat}{a s:Int}{h:Nat}(tx:ae.Tn n xs)(ty:ae.Tn n ys)(hn:n<=100)(ha:a.natAbs<=50)(hh:h<=50)(s0:0<=s)(s1:s<(n:Int)):Wp (FX [bE xs ys,.tup [.int a,.int (h:Int)],.int s] st) λd st'=>∃m:Nat,d=.tup ((ini xs ys s (rep (m+1) (qC a (nX a.natAbs h (a.natAbs+h) 0 0)))).map D.int)/\ae.NB (nF xs ys n (qC a (nX a.natAbs h (a.natAbs+h) 0 0))) s m/\ae.aS (nF xs ys n (qC a (nX a.natAbs h (a.natAbs+h) 0 0))) s (m+1)=s/\Ex [] st st':=by
 refine dY ?_;show Ws (JC [some (bE xs ys),some (.tup [.int a,.int (h:Int)]),some (.int s),none] st) _ _ _ _;unfold JC;have Ng:(nX a.natAbs h (a.natAbs+h) 0 0).length<=100:=by have:=JY a.natAbs h (a.natAbs+h) 0 0;lk
 refine aW (bD ?_);k_lt hQ;refine aR (SH (a:=a) (h:=h) tx ty hn ⋯ ⋯) ?_;rintro d st1 ⟨rfl,k1⟩;generalize hL:nX a.natAbs h (a.natAbs+h) 0 0=L at Ng ⊢;have BU:=SG a L;have hjl:(qC a L).length=L.length:=by unfold qC;rw[Zaa]
 generalize hJ:qC a L=js at BU hjl ⊢;have tg:=xZ tx ty js;refine aR (MK tg hn s0 s1) ?_;rintro d st2 ⟨r,rfl,⟨m,hr,nb,hb⟩,k2⟩;have hml:=tg.i3 s0 s1 nb;have hrl:r.length=m+1:=by rw[hr,ae.sQ]
 w_how;rw[Zaa,hrl];refine hQ _ _ (c4 ?_);clear hQ;k_lt hQ;refine aR (Na (a:=a) (h:=h) ⋯ ⋯) ?_;rintro d st3 ⟨rfl,k3⟩;rw[hL,Nd,hJ];exists X6;rw[show(((m+1:Nat)):Int).toNat=m+1 by lk,YcI];refine⟨⟨by rw[JZ];lk,by lk,by lk⟩,?_⟩;have aaN:(rep (m+1) js).length<=10000:=by
  rw[J2];exact Zap (Zbg (show m+1<=100 by lk) (show js.length<=100 by lk)) ∅
 refine aR (Xb6 (js:=rep (m+1) js) tx ty hn s0 s1 (xdo BU) ⋯) ?_;rintro d kW ⟨rfl,k4⟩;rw[SJ,Zaw,List.map_singleton];exists RZ;exact hQ _ _ ⟨m,by rw[hL,hJ],by rw[hL,hJ];exact nb,by rw[hL,hJ];exact hb,((k1.trans k2).trans k3).trans k4⟩
def Gx{st:Store}{Q:D->Store->Prop}{a:D}{ns:List Int}(h:b9 st a=some (ns.map D.int))(hl:ns.length<64):Wp (d8 [a] st) Q↔Q (.ref st.length) (st ++ [.lst ((sortI ns).map D.int)]):=by
 have e:d8 [a] st=some (.ref st.length,st ++ [.lst ((sortI ns).map D.int)]):=by
  simp only[d8,h,Zbo,Me,if_pos hl]
 rw[e,a8]
def Nh{a b:List Int}(p:a.Perm b):sortI a=sortI b:=by
 have s:∀ns:List Int,(sortI ns).Pairwise (·<=·):=λns=>by
  unfold sortI;refine(Zce (le:=λa b=>decide (a<=b)) ?_ ?_ ns).imp ?_;intro a b c h1 h2;simp at *;lk;intro a b;simp;lk;intro a b h;simpa using h
 have q:∀ns:List Int,(sortI ns).Perm ns:=λns=>by unfold sortI;exact Zcx _ _
 exact ae.Pt ((q a).trans (p.trans (q b).symm)) (s a) (s b)
open Classical in
def J4{st:Store}{Q:D->Store->Prop}{neg:Bool}{n a b:Nat}{ds es:List D}(ha:items st a=some ds)(hb:items st b=some es)(h1:∀d∈ds,pU n d)(h2:∀d∈es,pU n d)(hn:n<=14):Wp (j9 neg (.ref a) (.ref b) st) Q↔Q (.bl (if neg then !decide (ds=es)else decide (ds=es))) st:=by
 have p1:∀(i:Nat) (l:List D),items st i=some l->(∀d∈l,pU n d)->cP st 20 (.ref i)=some (.list (l.map (la n))):=λi l h hl=>by
  simp only[cP,h];rw[Ig (g:=la n) λx hx=>Ih n x (hl x hx) 19 ⋯ st];rfl
 have e:PyData.eqv (.list (ds.map (la n))) (.list (es.map (la n)))=decide (ds=es):=by
  rw[Mj];have:=Ms (Mt n) ds es h1 h2;cases h:PyData.eqvAll (ds.map (la n)) (es.map (la n))with
  |true=>exact(decide_eq_true (this.mp h)).symm
  |false=>exact(decide_eq_false λz=>by rw[this.mpr z]at h;cases h).symm
 have ly:∀l:List D,(∀d∈l,pU n d)->PyData.canLay0 (.list (l.map (la n)))=true/\PyData.depth (.list (l.map (la n)))<=n+1:=λl hl=>by
  refine⟨?_,?_⟩;show PyData.canLayAll0 (l.map (la n))=true;exact Ii λx hx=>by
   obtain⟨d,hd,rfl⟩:=Zah.mp hx;exact(BK n d (hl d hd)).1
  show PyData.depthAll (l.map (la n))+1<=n+1
  have:=Ij (n:=n) (l:=l.map (la n)) λx hx=>by
   obtain⟨d,hd,rfl⟩:=Zah.mp hx;exact(BK n d (hl d hd)).2
  lk
 rw[Mf];constructor;rintro⟨p,q,e1,e2,_,h⟩;rw[p1 a ds ha h1]at e1;rw[p1 b es hb h2]at e2;cases e1;cases e2;rw[e]at h;exact h;intro h;refine⟨_,_,p1 a ds ha h1,p1 b es hb h2,⟨(ly ds h1).1,(ly es h2).1,?_⟩,?_⟩
 have:=(ly ds h1).2
 lk;rw[e];exact h
def Gy:1001<=P2 102:=Zap (show 1001<=2 ^ 10 by decide) (Zb3 (n:=2) ∅ ∅)
def SN(g:List fq):ae.av (g ++ [((false,2):fq)])=⟨-(ae.av g).a,-(ae.av g).b,-(ae.av g).c,-(ae.av g).d⟩:=by rw[ae.vH];have e3:ae.lp ((false,2):fq)=⟨-1,0,0,-1⟩:=rfl;rw[e3];apply ae.T4.ext'<;>simp[ae.T4.mul]
def SO{g:List fq}(hg:∀s∈g,ae.cE s):∀s∈g ++ [((false,2):fq)],ae.cE s:=λs hs=>by
 rcases ZaF.mp hs with hs|hs
 exact hg s hs;rw[Zat.mp hs];unfold ae.cE;decide
def AQ{g:List fq}{p c:Int}(h1:(ae.av g).a*p+(ae.av g).b*c=-1)(h2:(ae.av g).c*p+(ae.av g).d*c=0):ae.Gd (ae.av (g ++ [((false,2):fq)])) p c:=by rw[SN];constructor;show -(ae.av g).a*p + -(ae.av g).b*c=1;rw[ZaX,ZaX];lk;show -(ae.av g).c*p + -(ae.av g).d*c=0;rw[ZaX,ZaX];lk
def SQ{st:Store}{p c:Int}(hp:p.natAbs<=1000)(hc0:0<=c)(hc:c.natAbs<=1000)(Ni:Int.gcd p c=1)(hnn:¬(p=-1/\c=0)):Wp (As [.tup [.int p,.int c]] st) λd st'=>∃g:List fq,d=lJ (ae.av g)/\(∀s∈g,ae.cE s)/\ae.Gd (ae.av g) p c/\(ae.av g).le 1001/\Ex [] st st':=by
 refine dY ?_;show Ws (Ju [some (.tup [.int p,.int c]),none,none] st) _ _ _ _;unfold Ju;refine aW (bD ?_);k_lt hQ;refine aR (R1 (x:=p) (y:=c) (M:=1000) (k:=10) ∅ ∅ hp hc) ?_;rintro d s1 ⟨g,rfl,hg,JV,h0,⟨ub,r,bv⟩,k1⟩;refine hQ _ _ (aW (bD ?_));clear hQ;k_lt hQ;refine aR (MR (w:=g) (λs hs=>⟨(hg s hs).1,by have:=(hg s hs).2;lk⟩) ⋯) ?_;rintro d s2 ⟨rfl,k2⟩;have y3:∀s∈g,ae.cE s:=λs hs=>(hg s hs).1;have J5:Int.gcd p c=((ae.av g).a*p+(ae.av g).b*c).natAbs:=ae.zf bv.dt h0;obtain⟨ex,ec⟩:=ae.HE bv.dt h0;have hba:=bv.ba;have KU:=bv.bb;rw[Ni]at J5;obtain⟨u,hu⟩:∃u,(ae.av g).a*p+(ae.av g).b*c=u:=⟨_,rfl⟩;rw[hu]at J5 ex ec;have hle:(ae.av g).le 1001:=by
  have e1:(ae.av g).d.natAbs=p.natAbs:=by rw[ex,ZbL,<- J5,Nat.mul_one]
  have e2:(ae.av g).c.natAbs=c.natAbs:=by rw[ec,Int.natAbs_neg,ZbL,<- J5,Nat.mul_one]
  exact⟨by lk,by lk,by lk,by lk⟩
 clear ex ec hba KU bv;have hP:=Gy;refine aR (R0 (T:=ae.av g) (x:=p) (y:=c) (Gr hle hP) ⋯ ⋯) ?_;rintro d s3 ⟨rfl,k3⟩;rw[hu,h0];have kk:Ex [] st s3:=(k1.trans k2).trans k3;refine hQ _ _ (aW (kZ ?_));clear hQ;refine bM ?_;intro cG hQ;exists MV,MW,Rf,Ah;rw[if_neg (by simpa using hc0),if_neg (by rw[Bool.not_eq_true',decide_eq_false_iff_not];split<;>lk)];refine⟨rfl,hQ _ _ ⟨λh=>absurd (of_decide_eq_true h) hnn,λ_=>mJ (aW (kZ ?_))⟩⟩;clear hQ;refine bM ?_;intro cG hQ;exists MV;refine hQ _ _ ⟨λh=>bD ?_,λh=>mJ (c4 ?_)⟩;have hu1:u=-1:=of_decide_eq_true h;clear hQ;k_lt hQ;have e1:(g.map cX ++ [D.tup [D.str "t",D.int 2]])=(g ++ [((false,2):fq)]).map cX:=by rw[Zaw];rfl
 rw[e1];refine⟨rfl,rfl,j4 (by rw[Zaa];show _+1<=_;lk),hQ _ _ (c4 ?_)⟩;clear hQ;k_lt hQ
 have Gg:∀s∈g ++ [((false,2):fq)],ae.cE s/\s.2.natAbs<=4611686018427387904:=λs hs=>⟨SO y3 s hs,by
  rcases ZaF.mp hs with hs|hs
  have:=(hg s hs).2;lk
  rw[Zat.mp hs];decide⟩
 refine aR (MR (w:=g ++ [((false,2):fq)]) Gg (by rw[Zaj];show _+1<=_;lk)) ?_;rintro d s4 ⟨rfl,k4⟩;refine hQ _ _ ⟨_,rfl,SO y3,AQ (by rw[hu];exact hu1) h0,?_,kk.trans k4⟩;rw[SN];obtain⟨l1,l2,l3,l4⟩:=hle;exact⟨by show(-(ae.av g).a).natAbs<=1001;lk,by show(-(ae.av g).b).natAbs<=1001;lk,by show(-(ae.av g).c).natAbs<=1001;lk,by show(-(ae.av g).d).natAbs<=1001;lk⟩;have hu1:u=1:=by have:=of_decide_eq_false h;lk
 clear hQ;k_lt hQ;refine aR (MR (w:=g) (λs hs=>⟨(hg s hs).1,by have:=(hg s hs).2;lk⟩) ⋯) ?_;rintro d s4 ⟨rfl,k4⟩;exact hQ _ _ ⟨g,rfl,y3,⟨by rw[hu];exact hu1,h0⟩,hle,kk.trans k4⟩
def wG{δ:aj}{st:Store}{fi:aj->Dm Src}{Q:D->Store->Prop}{ts:List (D×D×D)}{L:List (Int×Int)}(hi:Wp (fi δ st) λS st1=>lu S (ts.map λt=>.tup [t.1,t.2.1,t.2.2]) st1/\Ex [] st st1)(hl:ts.length<=60)(et:(ts.map λt=>D.tup [t.1,t.2.1])=L.map pD)(hQ:∀s,Ex [] st s->Q (.ref s.length) (s ++ [.lst (L.map pD)])):Wp (bN fi 1 [] (hName 0) b7 (b8 (af (aB aE (ag 0) (fC (.int 0))) (af (aB aE (ag 0) (fC (.int 1))) ah))) δ st) Q:=by
 refine uV (ts.map λt=>.tup [t.1,t.2.1,t.2.2]) (λd=>match d with|.tup [a,b,_]=>.tup [a,b]|_=>.non) hi (by rw[Zaa];lk) ?_ ?_;intro d hd s4 k4;obtain⟨t,_,rfl⟩:=Zah.mp hd;k_lt cg;exact⟨rfl,cg _ _ ⟨rfl,Ex.refl⟩⟩;intro s4 k4;have e:(ts.map λt=>D.tup [t.1,t.2.1,t.2.2]).map (λd=>match d with|.tup [a,b,_]=>D.tup [a,b]|_=>.non)=L.map pD:=by rw[<- et,Zas];rfl
 rw[e];exact hQ _ k4
def AR{δ:aj}{st:Store}{fi:aj->Dm Src}{Q:D->Store->Prop}{ts:List (D×D×D)}{L:List (Int×Int)}(hi:Wp (fi δ st) λS st1=>lu S (ts.map λt=>.tup [t.1,t.2.1,t.2.2]) st1/\Ex [] st st1)(hl:ts.length<=60)(et:(ts.map λt=>D.tup [t.1,t.2.1])=L.map pD)(hQ:∀s,Ex [] st s->Q (.tup (L.map pD)) s):Wp (aG bC (af (bN fi 1 [] (hName 0) b7 (b8 (af (aB aE (ag 0) (fC (.int 0))) (af (aB aE (ag 0) (fC (.int 1))) ah)))) ah) δ st) Q:=by k_lt hR;refine wG hi hl et λs4 k4=>?_;w_how;exact hR _ _ (hQ _ (k4.trans (Ex.cf _)))
def SR{st:Store}{xs ys:List Int}{n:Nat}{p c:Int}{L:List (Int×Int)}{w:List fq}(fl:l9 n xs ys)(n0:0<n)(hn:n<=8)(hp:p.natAbs<=1000)(hc0:0<=c)(hc:c.natAbs<=1000)(Ni:Int.gcd p c=1)(hnn:¬(p=-1/\c=0))
  (hw:∀s∈w,ae.cE s) (gw:ae.Gd (ae.av w) p c) (hL:((ae.qi n (ae.gI (xs,ys) w).1 (ae.gI (xs,ys) w).2).map gC).Perm L) (hs:L.Pairwise u5):Wp (Au [bE xs ys,.tup [.int p,.int c]] st) λd st'=>d=.tup (L.map pD)/\Ex [] st st':=by
 refine dY ?_;show Ws (Jw [some (bE xs ys),some (.tup [.int p,.int c]),none] st) _ _ _ _;unfold Jw;refine aW (bD ?_);k_lt hQ;refine aR (SQ hp hc0 hc Ni hnn) ?_;rintro d s1 ⟨g,rfl,hg,gg,hle,k1⟩;refine aR (R9 (w:=g) (M:=1001) (k:=10) fl n0 ⋯ ∅ ∅ hg hle) ?_;rintro d s2 ⟨rfl,k2⟩;have Gz:ae.Wh n (xs,ys):=M3 fl;have wg:=Gz.ld n0 (w:=g);have wf:=R8 wg n0 (Gu wg n0);obtain⟨q,hq,eq⟩:=Gu wg n0;rw[eq];have pp:=((ae.along Gz n0 hg hw gg gw).map gC).trans hL;refine aR (AK (xs:=(ae.gI (xs,ys) g).1) (ys:=(ae.gI (xs,ys) g).2) (g:=q) (L:=L) (M4 wg) hq n0 ⋯ pp hs) ?_;rintro d s3 ⟨ts,rfl,et,hl,k3⟩;refine hQ _ _ (c4 (AR (ts:=ts) (L:=L) ?_ ⋯ et λs4 k4=>⟨rfl,((k1.trans k2).trans k3).trans k4⟩));clear hQ;k_lt hQ;exact hQ _ _ ⟨rZ _ _,Ex.refl⟩
abbrev x3(j:Nat):Nat:=(j+2) % 4
abbrev BV(w:List Nat):List Nat:=(w.map x3).reverse
abbrev wH(x:Nat)(w:List Nat):List Nat:=match w with
 |[]=>[x]
 |y :: r=>if y=x3 x then r else x :: y :: r
abbrev AU(a b:List Nat):List Nat:=a.foldr wH b
abbrev BW(R:List Nat):Nat->List Nat
 |0=>[]
 |m+1=>AU (BW R m) R
abbrev BX(R:List Nat)(k:Int):List Nat:=if 0<=k then BW R k.toNat else BW (BV R) (-k).toNat
abbrev J7:Nat->List Nat×List Nat->List Nat×List Nat
 |0,p=>p
 |j+1,p=>(BV (J7 j p).2,(J7 j p).1)
abbrev J8(p:List Nat×List Nat)(s:fq):List Nat×List Nat:=if s.1=true then(p.1,AU (BX p.1 (-s.2)) p.2)else J7 s.2.toNat p
abbrev Nj(w:List fq):List Nat×List Nat:=w.foldl J8 ([0],[1])
structure Is(n:Nat)(p:ae.bQ)(t:List Int)(R:List Nat):Prop where
 tn:ae.Tn n t
 lt:∀j∈R,j<4
 ap:∀s:Int,0<=s->s<(n:Int)->ae.app t s=lb p.1 p.2 s R
def SS{n:Nat}{xs ys:List Int}(tx:ae.Tn n xs)(ty:ae.Tn n ys){s:Int}{j:Nat}(s0:0<=s)(s1:s<(n:Int))(hj:j<4):oq xs ys (oq xs ys s j) (x3 j)=s:=by
 have c:j=0\/j=1\/j=2\/j=3:=by lk
 rcases c with rfl|rfl|rfl|rfl
 exact tx.cW s0 s1;exact ty.cW s0 s1;exact tx.bz s0 s1;exact ty.bz s0 s1
def AV(j:Nat):x3 j<4:=Nat.mod_lt _ ∅
def Xdo{n:Nat}{p:ae.bQ}(v:ae.Vf n p){x:Nat}{w:List Nat}{s:Int}(hx:x<4)(s0:0<=s)(s1:s<(n:Int)):lb p.1 p.2 s (wH x w)=lb p.1 p.2 s (x :: w):=by
 cases w with
 |nil=>rfl
 |cons y r =>
  show lb p.1 p.2 s (if y=x3 x then r else x :: y :: r)=_;split
  ·next e =>
   subst e;show _=lb p.1 p.2 (oq p.1 p.2 (oq p.1 p.2 s x) (x3 x)) r;rw[SS v.1 v.2 s0 s1 hx]
  ·rfl
def Nk{n:Nat}{p:ae.bQ}(v:ae.Vf n p):∀{a b:List Nat} {s:Int},(∀j∈a,j<4)->0<=s->s<(n:Int)->lb p.1 p.2 s (AU a b)=lb p.1 p.2 s (a ++ b)
 |[],_,_,_,_,_=>rfl
 |x :: a,b,s,ha,s0,s1=>by
  show lb p.1 p.2 s (wH x (AU a b))=lb p.1 p.2 (oq p.1 p.2 s x) (a ++ b);rw[Xdo v (ha x Zae) s0 s1];have hb:=J0 (j:=x) v.1 v.2 s0 s1;exact Nk v (λj hj=>ha j (Zag _ hj)) hb.1 hb.2
def AW{x:Nat}{w:List Nat}(hx:x<4)(hw:∀j∈w,j<4):∀j∈wH x w,j<4:=by
 cases w with
 |nil=>intro j hj;rw[Zat.mp hj];exact hx
 |cons y r =>
  show∀j∈(if y=x3 x then r else x :: y :: r),j<4;split;exactλj hj=>hw j (Zag _ hj);intro j hj;rcases ZaA.mp hj with rfl|hj
  exact hx;exact hw j hj
def Nl:∀{a b:List Nat},(∀j∈a,j<4)->(∀j∈b,j<4)->∀j∈AU a b,j<4
 |[],_,_,hb=>hb
 |x :: a,b,ha,hb=>AW (ha x Zae) (Nl (λj hj=>ha j (Zag _ hj)) hb)
def SU{n:Nat}{p:ae.bQ}(v:ae.Vf n p):∀{a:List Nat} {s:Int},(∀j∈a,j<4)->0<=s->s<(n:Int)->lb p.1 p.2 (lb p.1 p.2 s a) (BV a)=s
 |[],_,_,_,_=>rfl
 |x :: a,s,ha,s0,s1=>by
  have hb:=J0 (j:=x) v.1 v.2 s0 s1;show lb p.1 p.2 (lb p.1 p.2 (oq p.1 p.2 s x) a) (((x :: a).map x3).reverse)=s;rw[Zay,List.reverse_cons,AL];have:=SU v (a:=a) (λj hj=>ha j (Zag _ hj)) hb.1 hb.2;unfold BV at this;rw[this];exact SS v.1 v.2 s0 s1 (ha x Zae)
def GA(a:List Nat):∀j∈BV a,j<4:=λj hj=>by
 obtain⟨x,_,rfl⟩:=Zah.mp (Zb8.mp hj);exact AV x
section
variable {n:Nat}{p:ae.bQ}{t u:List Int}{R U:List Nat}
def Is.iv(h:Is n p t R)(v:ae.Vf n p):Is n p (ae.inv t) (BV R):=by refine⟨h.tn.az,GA R,λs s0 s1=>?_⟩;obtain⟨b0,b1⟩:=h.tn.j8 s0 s1;have e:=h.tn.bz s0 s1;have w:=SU v h.lt b0 b1;rw[<- h.ap _ b0 b1,e]at w;exact w.symm
def Is.fl(h:Is n p t R)(k:Is n p u U)(v:ae.Vf n p):Is n p (ae.aT t u) (AU R U):=by refine⟨h.tn.aT k.tn,Nl h.lt k.lt,λs s0 s1=>?_⟩;have b:=h.tn.app s0 s1;rw[ae.nJ s0 (by rw[h.tn.length];exact s1),k.ap _ b.1 b.2,h.ap s s0 s1,Nk v h.lt s0 s1,AL]
def Nm(h:Is n p t R)(v:ae.Vf n p):∀m:Nat,(∀j∈BW R m,j<4)/\∀s:Int,0<=s->s<(n:Int)->ae.aS t s m=lb p.1 p.2 s (BW R m)
 |0=>⟨λ_ hj=>(nomatch hj),λ_ _ _=>rfl⟩
 |m+1=>by
  obtain⟨h1,h2⟩:=Nm h v m;refine⟨Nl h1 h.lt,λs s0 s1=>?_⟩;have b:=h.tn.aS s0 s1 m;show ae.app t (ae.aS t s m)=lb p.1 p.2 s (AU (BW R m) R);rw[Nk v h1 s0 s1,AL,<- h2 s s0 s1,h.ap _ b.1 b.2]
def Is.pw(h:Is n p t R)(v:ae.Vf n p)(k:Int):Is n p (ae.cz t k) (BX R k):=by have e:∀s:Int,0<=s->s<(n:Int)->ae.app (ae.cz t k) s=ae.pw t k s:=λs s0 s1=>ae.qy s0 (by rw[h.tn.length];exact s1);by_cases hk:0<=k;obtain⟨h1,h2⟩:=Nm h v k.toNat;refine⟨h.tn.cz k,?_,λs s0 s1=>?_⟩;unfold BX;rw[if_pos hk];exact h1;rw[e s s0 s1];unfold BX ae.pw;rw[if_pos hk,if_pos hk];exact h2 s s0 s1;obtain⟨h1,h2⟩:=Nm (h.iv v) v (-k).toNat;refine⟨h.tn.cz k,?_,λs s0 s1=>?_⟩;unfold BX;rw[if_neg hk];exact h1;rw[e s s0 s1];unfold BX ae.pw;rw[if_neg hk,if_neg hk];exact h2 s s0 s1
end
abbrev si(n:Nat)(p q:ae.bQ)(W:List Nat×List Nat):Prop:=Is n p q.1 W.1/\Is n p q.2 W.2
def si.qt{n:Nat}{p q:ae.bQ}{W:List Nat×List Nat}(v:ae.Vf n p)(h:si n p q W):∀j,si n p (ae.pf j q) (J7 j W)
 |0=>h
 |j+1=>⟨(si.qt v h j).2.iv v,(si.qt v h j).1⟩
def si.st{n:Nat}{p q:ae.bQ}{W:List Nat×List Nat}(v:ae.Vf n p)(h:si n p q W)(s:fq):si n p (ae.stM q s) (J8 W s):=by unfold ae.stM J8;split;exact⟨h.1,(h.1.pw v (-s.2)).fl h.2 v⟩;exact h.qt v _
def si.ld{n:Nat}{p:ae.bQ}(v:ae.Vf n p):∀(w:List fq) {q:ae.bQ} {W:List Nat×List Nat},si n p q W->si n p (ae.gI q w) (w.foldl J8 W)
 |[],_,_,h=>h
 |s :: w,_,_,h=>si.ld v w (h.st v s)
def AX{n:Nat}{p:ae.bQ}(v:ae.Vf n p)(w:List fq):Is n p (ae.gI p w).1 (Nj w).1:=by have h0:si n p p ([0],[1]):=⟨⟨v.1,λj hj=>by rw[Zat.mp hj];decide,λ_ _ _=>rfl⟩,⟨v.2,λj hj=>by rw[Zat.mp hj];decide,λ_ _ _=>rfl⟩⟩;exact(si.ld v w h0).1
def xcY{n:Nat}{p:ae.bQ}(v:ae.Vf n p){t:List Int}{W:List Nat}{i:Nat}(h:Is n p t (W.drop i ++ W.take i)):t=ae.anew (nF p.1 p.2 n W) (nF p.1 p.2 n (W.take i)):=by
 have tc:=xZ v.1 v.2 W;have tg:=xZ v.1 v.2 (W.take i);refine ae.qP h.tn.length (tc.anew tg).length λy y0 y1=>?_;obtain⟨s0,s1⟩:=tg.j8 y0 y1;have e:=tg.bz y0 y1;obtain⟨c0,c1⟩:=tc.app s0 s1;have e1:ae.app (ae.anew (nF p.1 p.2 n W) (nF p.1 p.2 n (W.take i))) y=ae.app (nF p.1 p.2 n (W.take i)) (ae.app (nF p.1 p.2 n W) (ae.app (ae.inv (nF p.1 p.2 n (W.take i))) y)):=by
  unfold ae.anew;rw[ae.nJ y0 (by rw[ae.vD,ae.yT,tg.length];exact y1),ae.nJ y0 (by rw[ae.yT,tg.length];exact y1)]
 rw[e1,J1 v.1 v.2 _ c0 c1,J1 v.1 v.2 _ s0 s1];rw[J1 v.1 v.2 _ s0 s1]at e;have e2:lb p.1 p.2 (ae.app (ae.inv (nF p.1 p.2 n (W.take i))) y) W=lb p.1 p.2 y (W.drop i):=by
  have:=AL p.1 p.2 (ae.app (ae.inv (nF p.1 p.2 n (W.take i))) y) (W.take i) (W.drop i);rw[List.take_append_drop,e]at this;exact this
 rw[e2,h.ap y y0 y1,AL]
instance (s:fq):Decidable (ae.cE s):=inferInstanceAs (Decidable ((s.1=false->1<=s.2/\s.2<=3)/\s.2≠0))
instance (T:ae.T4) (p c:Int):Decidable (ae.Gd T p c):=inferInstanceAs (Decidable (_/\_))
abbrev SV:Nat->Int->Int->List fq
 |0,_,_=>[]
 |f+1,a,b=>if b=0 then(if a<0 then[(false,2)]else[])else ae.Wy (ae.tq a b) ++ SV f (-b) (a-ae.tq a b*b)
abbrev sj(a:Int)(h:Nat):List Nat:=qC a (nX a.natAbs h (a.natAbs+h) 0 0)
abbrev GB(a:Int)(h:Nat):Bool :=
 let w:=SV 30 a h
 let R:=(Nj w).1
 let W:=sj a h
 w.all (λs=>decide (ae.cE s)) && decide (ae.Gd (ae.av w) a h) && (List.range W.length).any λi=>R == W.drop i ++ W.take i
abbrev GC:Bool:=(List.range 25).all λh=>(List.range 49).all λi=>if((i:Int)-24).natAbs+h<=24/\Nat.gcd ((i:Int)-24).natAbs h=1/\¬(((i:Int)-24)=-1/\h=0)then GB ((i:Int)-24) h else true
def Zdp:GC=true:=by w_fin
def Ycn{a:Int}{h:Nat}(hb:a.natAbs+h<=24)(hg:Int.gcd a h=1)(hn:¬(a=-1/\h=0)):∃(w:List fq) (i:Nat),(∀s∈w,ae.cE s)/\ae.Gd (ae.av w) a h/\(Nj w).1=(sj a h).drop i ++ (sj a h).take i:=by
 have h1:=Zdp;unfold GC at h1;rw[Za0]at h1;have h2:=h1 h (ZaP.mpr ⋯);rw[Za0]at h2;have h3:=h2 (a+24).toNat (ZaP.mpr ⋯);have e:(((a+24).toNat:Nat):Int)-24=a:=by lk
 rw[e,if_pos ⟨hb,hg,hn⟩]at h3;unfold GB at h3;simp only[ZaD]at h3;obtain⟨⟨p1,p2⟩,p3⟩:=h3;obtain⟨i,_,hi⟩:=Zco.mp p3;exact⟨_,i,λs hs=>of_decide_eq_true (Za0.mp p1 s hs),of_decide_eq_true p2,eq_of_beq hi⟩
def xcn{n:Nat}{p:ae.bQ}(wp:ae.Wh n p){u w:List fq}{x y:Int}(hu:∀s∈u,ae.cE s)(hw:∀s∈w,ae.cE s)(gu:ae.Gd (ae.av u) x y)(gw:ae.Gd (ae.av w) x y):∃f,ae.Tn n f/\(ae.gI p u).1=ae.anew (ae.gI p w).1 f:=by
 have e:=ae.QA (ae.xw hw) (ae.xw hu) gw gu;generalize (ae.av w).a*(ae.av u).b-(ae.av u).a*(ae.av w).b=k at e;have hk:∀s∈w ++ ae.oB k,ae.cE s:=λs hs=>by
  rcases ZaF.mp hs with hs|hs
  exact hw s hs;exact(ae.ze s hs).1
 have e2:ae.av (w ++ ae.oB k)=ae.av u:=by rw[ae.sT,ae.DH];exact e.symm
 obtain⟨f,tf,ef⟩:=ae.LQ hk hu e2 wp.v;refine⟨f,tf,?_⟩;have e3:(ae.gI p (w ++ ae.oB k)).1=(ae.gI p w).1:=by
  rw[ae.Hy];unfold ae.oB;split<;>rfl
 rw[ef,e3]
def xcJ{n:Nat}{p:ae.bQ}(wp:ae.Wh n p)(n0:0<n){a:Int}{h:Nat}{u:List fq}(hb:a.natAbs+h<=24)(hg:Int.gcd a h=1)(hn:¬(a=-1/\h=0))(hu:∀s∈u,ae.cE s)(gu:ae.Gd (ae.av u) a h):∃f,ae.Tn n f/\(ae.rN n (ae.gI p u)).1=ae.anew (nF p.1 p.2 n (sj a h)) f:=by obtain⟨w,i,hw,gw,e⟩:=Ycn hb hg hn;have h1:=AX wp.v w;rw[e]at h1;have h2:=xcY wp.v h1;obtain⟨f,tf,ef⟩:=xcn wp hu hw gu gw;obtain⟨q,tq,eq⟩:=Gu (wp.ld n0 (w:=u)) n0;have tc:=xZ wp.v.1 wp.v.2 (sj a h);have tg:=xZ wp.v.1 wp.v.2 ((sj a h).take i);refine⟨_,(tg.aT tf).aT tq,?_⟩;rw[eq];show ae.anew (ae.gI p u).1 q=_;rw[ef,h2,tc.kF tg tf,tc.kF (tg.aT tf) tq]
abbrev cT(rs:List (List Int)):List Int:=rs.map λr=>(r.length:Int)
def SW{δ:aj}{st:Store}{fi:aj->Dm Src}{Q:D->Store->Prop}{rs:List (List Int)}(hi:Wp (fi δ st) λS st1=>lu S (rs.map λr=>.tup (r.map D.int)) st1/\Ex [] st st1)(hl:rs.length<=60)(hr:∀r∈rs,r.length<=60)(hQ:∀s,Ex [] st s->Q (.ref s.length) (s ++ [.lst ((cT rs).map D.int)])):Wp (bN fi 1 [] (hName 0) b7 (aG cR (af (ag 0) ah)) δ st) Q:=by
 refine uV (rs.map λr=>.tup (r.map D.int)) (λd=>match d with|.tup l=>.int (l.length:Int)|_=>.non) hi (by rw[Zaa];lk) ?_ ?_;intro d hd s4 k4;obtain⟨r,hr',rfl⟩:=Zah.mp hd;k_lt cg;exact cg _ _ ⟨rfl,Ex.refl⟩;intro s4 k4;have e:(rs.map λr=>D.tup (r.map D.int)).map (λd=>match d with|.tup l=>D.int (l.length:Int)|_=>.non)=(cT rs).map D.int:=by
  unfold cT;rw[Zas,Zas];refine ZaJ λr _=>?_;show D.int (((r.map D.int).length:Nat):Int)=_;rw[Zaa];rfl
 rw[e];exact hQ _ k4
abbrev wide(L:List (Int×Int)):List Int:=L.flatMap λp=>List.replicate p.2.toNat p.1
def XbX{α β:Type}{f:α->List β}:∀{a b:List α},a.Perm b->(a.flatMap f).Perm (b.flatMap f):=λh=>List.Perm.flatMap_right f h
def XcJ{n:Nat}{p:ae.bQ}{L:List (Int×Int)}{rs:List (List Int)}(wp:ae.Wh n p)(n0:0<n)(hL:((ae.qi n p.1 p.2).map gC).Perm L)(R:ae.iw p.1 (ae.upto n) rs):(wide L).Perm (cT rs):=by
 have tx:=wp.v.1;have ty:=wp.v.2;have lo:=ae.xB tx ty n0;have hB:=λl hl=>ae.vN tx ty (lo.rw l hl);have P:=(lo.lw tx R).parts tx ty wp.all R hB;have e1:wide ((ae.qi n p.1 p.2).map gC)=cT ((ae.og n p.1 p.2).map (ae.iS n p.1 p.2)).flatten:=by
  unfold wide cT ae.qi;rw[<- List.flatMap_def,List.map_flatMap,Zas,List.flatMap_map];have key:∀ls:List (List Int),(∀l∈ls,ae.Rw n p.1 l)->(ls.flatMap λl=>List.replicate ((gC (l.length,(ae.iS n p.1 p.2 l).length)).2.toNat) (gC (l.length,(ae.iS n p.1 p.2 l).length)).1)=ls.flatMap λl=>(ae.iS n p.1 p.2 l).map λr=>(r.length:Int):=by
   intro ls hls
   induction ls with
   |nil=>rfl
   |cons l ls ih =>
    rw[List.flatMap_cons,List.flatMap_cons,ih λx hx=>hls x (Zag _ hx)]
    congr 1
    have hw:=ae.Bd.width tx ty (ae.vN tx ty (hls l Zae)).toCh;have e:(ae.iS n p.1 p.2 l).map (λr=>(r.length:Int))=(ae.iS n p.1 p.2 l).map λ_=>(l.length:Int):=ZaJ λr hr=>by rw[hw r hr]
    rw[e,List.map_const'];rfl
  exact key _ lo.rw
 exact(XbX hL.symm).trans (by show(wide _).Perm _;rw[e1];exact P.map _)
def Nn(w h:Nat):∀f x y,x<=w->y<=h->(w-x)+(h-y)<=f->(nX w h f x y).length=(w-x)+(h-y)
 |0,x,y,hx,hy,hf=>by show 0=_;lk
 |f+1,x,y,hx,hy,hf=>by
  rw[nX];by_cases c:x<w\/y<h;rw[if_pos c];by_cases c2:(y+1)*w<=h*x/\y<h;rw[if_pos c2,Zaz,Nn w h f x (y+1) hx ⋯ ⋯];lk;rw[if_neg c2,Zaz];have Nb:x<w:=by
   rcases c with c|c
   exact c;by_cases z:x<w;exact z;exfalso;have e:x=w:=by lk
   exact c2 ⟨by rw[e];exact ZbD w c,c⟩
  rw[Nn w h f (x+1) y ⋯ hy ⋯];lk;rw[if_neg c];show 0=_;lk
def GD(a:Int)(h:Nat):(sj a h).length=a.natAbs+h:=by unfold sj qC;rw[Zaa,Nn _ _ _ _ _ (ZaO _) (ZaO _) ⋯];lk
def AY(xs ys:List Int):∀(s:Int) (a b:List Nat),b≠[]->(ini xs ys s (a ++ b))[a.length]?=some (lb xs ys s a):=λs a b hb=>by
 rw[SK,ZaC (by rw[J3];exact Zad _),J3,Zb1];cases b with
 |nil=>exact absurd rfl hb
 |cons j b=>rfl
def Ydp(i k:Nat)(js:List Nat):rep (i+k) js=rep i js ++ rep k js:=by unfold rep;rw[<- List.flatten_append,List.replicate_append_replicate]
def uM{st:Store}{p:ae.bQ}{n:Nat}(w:ae.Wh n p)(n0:0<n)(hn:n<=60):Wp (uW [bE p.1 p.2] st) λd st'=>∃(ts:List (D×D×D)) (L:List (Int×Int)),d=.tup (ts.map λt=>.tup [t.1,t.2.1,t.2.2])/\(ts.map λt=>D.tup [t.1,t.2.1])=L.map pD/\ts.length<=n/\((ae.qi n p.1 p.2).map gC).Perm L/\L.Pairwise u5/\Ex [] st st':=by have tx:=w.v.1;have ty:=w.v.2;refine aR (Sj tx ty n0 hn) ?_;rintro d st1 ⟨rs',gK,B',rfl,R',hL',Bs,hl',k1⟩;obtain⟨M,pM,eM,oM⟩:=Sn gK B';have lo:=ae.xB tx ty n0;have e1:=ae.HI tx;have e2:=ae.HI ty;have lo':=hL'.lo tx n0 R';have P:=ae.Lo.anew (g:=ae.upto n) (rs:=ae.lq n p.1) (rs':=rs') (lows:=ae.og n p.1 p.2) (gK:=gK) (B:=ae.iS n p.1 p.2) (B':=B') tx ty (ae.sD n) w.all (by rw[e1,e2];exact w.all) (ae.xA tx) (by rw[e1];exact R') lo (by rw[e1,e2];exact lo') (λl hl=>ae.vN tx ty (lo.rw l hl)) (λl hl=>by rw[e1,e2];exact Bs l hl);refine⟨M.map λl=>(.int (l.length:Int),.int ((B' l).length:Int),sX (B' l)),M.map λl=>((l.length:Int),((B' l).length:Int)),?_,?_,by rw[Zaa,pM.length_eq];exact hl',?_,?_,k1⟩;rw[eM,Zas];rfl;rw[Zas,Zas];rfl;have p1:(M.map λl=>((l.length:Int),((B' l).length:Int))).Perm (gK.map λl=>((l.length:Int),((B' l).length:Int))):=pM.map _;have p2:=P.symm.map gC;rw[Zas]at p2;exact p2.symm.trans p1.symm;rw[Zba];exact oM.imp λh=>Sq h
def zcK(L:List (Int×Int))(i:Nat):(wide (L.take i)).length<=(wide L).length:=by
 have e:wide L=wide (L.take i) ++ wide (L.drop i):=by
  unfold wide;rw[<- List.flatMap_append,List.take_append_drop]
 rw[e,Zaj];lk
def XcY{n:Nat}{p:ae.bQ}{L:List (Int×Int)}(wp:ae.Wh n p)(n0:0<n)(hL:((ae.qi n p.1 p.2).map gC).Perm L):∀e∈L,0<=e.2/\e.2<=(n:Int):=λe he=>by
 obtain⟨x,hx,rfl⟩:=Zah.mp (hL.symm.subset he);unfold ae.qi at hx;obtain⟨l,hl,rfl⟩:=Zah.mp hx;have lo:=ae.xB wp.v.1 wp.v.2 n0;have:=(ae.vN wp.v.1 wp.v.2 (lo.rw l hl)).toCh.len wp.v.1;show(0:Int)<=((ae.iS n p.1 p.2 l).length:Int)/\((ae.iS n p.1 p.2 l).length:Int)<=(n:Int);lk
def BZ(L:List Int):∀d∈L.map D.int,pU 0 d:=λd hd=>by
 obtain⟨x,_,rfl⟩:=Zah.mp hd;exact trivial
def SX(L:List (Int×Int)):∀d∈L.map pD,pU 1 d:=λd hd=>by
 obtain⟨x,_,rfl⟩:=Zah.mp hd;exact Rq 0 [x.1,x.2]
def ycK{n:Nat}{c r r':List Int}{i j x:Int}(tc:ae.Tn n c)(a:ae.a5 c i r)(b:ae.a5 c j r')(ha:0<=i/\i<(n:Int))(hb:0<=j/\j<(n:Int))(hx:x∈r)(hx':x∈r'):r.Perm r':=by refine(Zbf (a.nodup tc ha.1 ha.2) (b.nodup tc hb.1 hb.2)).mpr λy=>⟨λh=>ae.HB a b hx hx' h,λh=>ae.HB b a hx' hx h⟩
def xdp{n:Nat}{xs ys:List Int}(tx:ae.Tn n xs)(ty:ae.Tn n ys){l:Int}(l0:0<=l)(l1:l<(n:Int)){W:List Nat}(hW:W≠[]){m k:Nat}(hk:k<m+1):(ini xs ys l (rep (m+1) W))[W.length*k]?=some (ae.aS (nF xs ys n W) l k):=by
 have e:rep (m+1) W=rep k W ++ rep (m+1-k) W:=by rw[<- Ydp];congr 1;lk
 have h2:rep (m+1-k) W≠[]:=by
  intro z;have:=congrArg List.length z;rw[J2,ZbB]at this;have h3:0<W.length:=ZbG.mpr hW;have:=Nat.mul_pos (show 0<m+1-k by lk) h3;lk
 have:=AY xs ys l (rep k W) (rep (m+1-k) W) h2;rw[<- e,J2,SM tx ty W l0 l1,Zcb]at this;exact this
def Xcn{st:Store}{xs ys:List Int}{n:Nat}{a:Int}{h:Nat}(fl:l9 n xs ys)(n0:0<n)(hn:n<=8)(hb:a.natAbs+h<=24)(hg:Int.gcd a h=1)(hnn:¬(a=-1/\h=0)):Wp (FZ [bE xs ys,.tup [.int a,.int (h:Int)]] st) λd st'=>d=.bl true/\Ex [] st st':=by
 have Gz:ae.Wh n (xs,ys):=M3 fl;have tx:=fl.1;have ty:=fl.2.1;refine dY ?_;show Ws (JD [some (bE xs ys),some (.tup [.int a,.int (h:Int)]),none,none,none,none,none,none,none,none,none,none] st) _ _ _ _;unfold JD;refine aW (bD ?_);k_lt hQ;refine aR (SH (a:=a) (h:=h) tx ty ⋯ ⋯ ⋯) ?_;rintro d s1 ⟨rfl,k1⟩;have hsl:qC a (nX a.natAbs h (a.natAbs+h) 0 0)=sj a h:=rfl;rw[hsl];have tc:=xZ tx ty (sj a h);obtain⟨γ,hγ⟩:∃γ,nF xs ys n (sj a h)=γ:=⟨_,rfl⟩;rw[hγ]at tc ⊢;refine aR (Sb tc ⋯) ?_;rintro d s2 ⟨rs,rfl,R,hrs,hrl,k2⟩;refine hQ _ _ (aW (bD ?_));clear hQ;k_lt hQ;refine aR (Na (a:=a) (h:=h) ⋯ ⋯) ?_;rintro d s3 ⟨rfl,k3⟩;have M8:(ot a (nX a.natAbs h (a.natAbs+h) 0 0)).length=a.natAbs+h:=by
  rw[Nd,JZ,hsl,GD]
 exists X9;rw[M8];refine⟨j4 ⋯,hQ _ _ (aW (bD ?_))⟩;clear hQ;k_lt hQ;refine aR (SQ (p:=a) (c:=(h:Int)) ⋯ ⋯ ⋯ hg ⋯) ?_;rintro d s4 ⟨g,rfl,BR,gg,hle,k4⟩;refine aR (R9 (w:=g) (M:=1001) (k:=10) fl n0 ⋯ ∅ ∅ BR hle) ?_;rintro d s5 ⟨rfl,k5⟩;have wg:=Gz.ld n0 (w:=g);have wf:=R8 wg n0 (Gu wg n0);obtain⟨f,tf,ef⟩:=xcJ Gz n0 hb hg hnn BR gg;obtain⟨q,hq⟩:∃q,ae.rN n (ae.gI (xs,ys) g)=q:=⟨_,rfl⟩;have eq1:q.1=ae.anew γ f:=by rw[<- hq,ef,<- hγ]
 rw[hq]at wf ⊢;have kk5:Ex [] st s5:=(((k1.trans k2).trans k3).trans k4).trans k5;clear k1 k2 k3 k4 k5;refine hQ _ _ (aW (bD ?_));clear hQ;k_lt hQ;have GF:∀r∈rs,r.length<=60:=λr hr=>by have:=(hrs r hr).1;lk
 refine SW (rs:=rs) ?_ ⋯ GF λs6 k6=>?_;k_lt hP;exact⟨_,rfl,hP _ _ ⟨rZ _ _,Ex.refl⟩⟩;have hlr:∀L:List (List Int),L.length<=60->(cT L).length<64:=λL hL=>by unfold cT;rw[Zaa];lk
 rw[Gx (ns:=cT rs) (show b9 _ (.ref _)=_ from pE) (hlr rs ⋯)];obtain⟨s7,SY⟩:∃s7,s6 ++ [O.lst ((cT rs).map D.int)]=s7:=⟨_,rfl⟩;have Np:Ex [] st (s7 ++ [O.lst ((sortI (cT rs)).map D.int)]):=(by rw[<- SY];exact((kk5.trans k6).app _).app _);have S0:(s7 ++ [O.lst ((sortI (cT rs)).map D.int)])[s7.length]?=some (.lst ((sortI (cT rs)).map D.int)):=ke;rw[SY];refine hQ _ _ (aW (kZ ?_));clear hQ;generalize (s7 ++ [O.lst ((sortI (cT rs)).map D.int)])=s8 at Np S0 ⊢;have tq1:ae.Tn n q.1:=wf.v.1;obtain⟨S,s9,eS,rs',hS,R',AZ,sN,k9⟩:Wp (cD (aG xV (af (aB aE (ag 4) (fC (.int 0))) ah)) [some (bE xs ys),some (.tup [.int a,.int (h:Int)]),some (sX rs),some (.int ((a.natAbs+h:Nat):Int)),some (bE q.1 q.2),some (.ref s7.length),none,none,none,none,none,none] s8) λS s9=>∃rs':List (List Int),lu S (rs'.map λr=>.tup (r.map D.int)) s9/\ae.iw q.1 (ae.upto n) rs'/\(∀r∈rs',r.length<=n/\∀x∈r,0<=x/\x<(n:Int))/\rs'.length<=n/\Ex [] s8 s9:=by
  refine bM ?_;intro qhP hP;exists M6;refine aR (Sb tq1 ⋯) ?_;rintro d t1 ⟨rs',rfl,R',AZ,sN,k9⟩;exact⟨_,rfl,hP _ _ ⟨rs',rZ _ _,R',AZ,sN,k9⟩⟩
 have A0:∀r∈rs',r.length<=60:=λr hr=>by have:=(AZ r hr).1;lk
 have pl:(cT rs).Perm (cT rs'):=by
  have:=(ae.Ql (c:=γ) (g:=f) tc tf R (by rw[<- eq1];exact R')).map (λk:Nat=>(k:Int));rw[Zas,Zas]at this;exact this
 have es:=Nh pl;k_lt hQ;refine SW (rs:=rs') ⟨S,s9,eS,hS,k9⟩ ⋯ A0 λvp Mx=>?_;rw[Gx (ns:=cT rs') (show b9 _ (.ref _)=_ from pE) (hlr rs' ⋯),<- es];have J9:Ex [] s8 (vp ++ [O.lst ((cT rs').map D.int)] ++ [O.lst ((sortI (cT rs)).map D.int)]):=(Mx.app _).app _;have sA:=J9.keep _ _ S0 (by simp);have A1:items (vp ++ [O.lst ((cT rs').map D.int)] ++ [O.lst ((sortI (cT rs)).map D.int)]) (vp ++ [O.lst ((cT rs').map D.int)]).length=some ((sortI (cT rs)).map D.int):=pE;generalize (vp ++ [O.lst ((cT rs').map D.int)] ++ [O.lst ((sortI (cT rs)).map D.int)])=uN at J9 sA A1 ⊢;generalize (vp ++ [O.lst ((cT rs').map D.int)]).length=S1 at A1 ⊢;rw[J4 (c9 sA) A1 (BZ _) (BZ _) ∅];refine⟨_,rfl,hQ _ _ ⟨λz=>absurd z (by simp),λ_=>mJ (aW (bD ?_))⟩⟩;clear hQ;k_lt hQ;have GG:Ex [] st (uN ++ [O.lst []]):=(Np.trans J9).app _;have GH:(uN ++ [O.lst []])[s7.length]?=some (.lst ((sortI (cT rs)).map D.int)):=nz sA;have GI:(uN ++ [O.lst []])[uN.length]?=some (.lst []):=ke;refine⟨rfl,hQ _ _ ?_⟩;clear hQ;obtain⟨s12,Nq⟩:∃s12,uN ++ [O.lst []]=s12:=⟨_,rfl⟩;rw[Nq]at GG GH GI ⊢;obtain⟨_,_,_,ts0,L,_,et0,aa6,Ka,pw,_⟩:=uM (st:=s12) (p:=q) wf n0 ⋯;have Ng:L.length<=n:=by have:=congrArg List.length et0;rw[Zaa,Zaa]at this;lk
 have S2:((ae.qi n (ae.gI (xs,ys) g).1 (ae.gI (xs,ys) g).2).map gC).Perm L:=((ae.Qz wg wf n0 (by rw[<- hq];exact Gu wg n0)).map gC).trans Ka;have hLb:=XcY wf n0 Ka;have GJ:st.length<=uN.length:=(Np.trans J9).len;have pW:=XcJ wf n0 Ka R';have hWl:(wide L).length<=n:=by rw[pW.length_eq];unfold cT;rw[Zaa];exact sN
 refine aW (oU (L.map pD) (λi δ s=>∃v7 v8:Option D,δ=[some (bE xs ys),some (.tup [.int a,.int (h:Int)]),some (sX rs),some (.int ((a.natAbs+h:Nat):Int)),some (bE q.1 q.2),some (.ref s7.length),some (.ref uN.length),v7,v8,none,none,none]/\s[uN.length]?=some (.lst ((wide (L.take i)).map D.int))/\s[s7.length]?=some (.lst ((sortI (cT rs)).map D.int))/\Ex [] st s) ?_ (by rw[Zaa];lk) ?_ ?_);k_lt hQ;refine aR (SR (L:=L) (w:=g) fl n0 hn ⋯ ⋯ ⋯ hg ⋯ BR gg S2 pw) ?_;rintro d t1 ⟨rfl,k1⟩;exact⟨_,rfl,hQ _ _ ⟨rfl,_,_,rfl,k1.keep _ _ GI (by simp),k1.keep _ _ GH (by simp),GG.trans k1⟩⟩;rintro i d δ s hd ⟨v7,v8,rfl,hw,hl,kk⟩;rw[Zal]at hd;obtain⟨e,he,rfl⟩:=ZaB.mp hd;have hem:=Zak he;obtain⟨e0,e1⟩:=hLb e hem;have hil:=(Zac.mp he).1;have htk:wide (L.take (i+1))=wide (L.take i) ++ List.replicate e.2.toNat e.1:=by
  rw[ZaE hil,(Zac.mp he).2];unfold wide;rw[List.flatMap_append];simp
 have hwt:=zcK L (i+1);rw[htk,Zaj,Zbk]at hwt;unfold pD;k_lt hQ;refine⟨rfl,hQ _ _ (sL ?_)⟩;clear hQ;k_lt hQ;have hown:∀x y:O,(s ++ [x] ++ [y])[uN.length]?=some (.lst ((wide (L.take i)).map D.int)):=λx y=>nz (nz hw);have S3:(List.replicate e.2.toNat [D.int e.1]).flatten=(List.replicate e.2.toNat e.1).map D.int:=by rw[List.flatten_replicate_singleton,List.map_replicate]
 have aa9:=gM sA;refine⟨rX (by rw[c9 hw];rfl),rfl,⟨by lk,by lk⟩,j4 (by show 1*_<=_;lk),_,mQ (hown _ _),?_,?_⟩;rw[S3,Zaa,Zaa,Zbk];exact j4 ⋯;refine hQ _ _ ⟨_,_,rfl,?_,?_,((kk.app _).app _).loc GJ⟩;rw[Zao (gM (hown _ _)),S3,htk,Zaw];rw[ZaG ⋯];exact nz (nz hl);rintro δ s ⟨v7,v8,rfl,hw,hl,kk⟩;rw[Zaa,Za1]at hw;refine aW (kZ ?_);k_lt hQ;rw[Gx (ns:=wide L) (show b9 _ (.ref _)=_ from c9 hw) ⋯,Nh (pW.trans pl.symm)];have he:items (s ++ [O.lst ((sortI (cT rs)).map D.int)]) s.length=some ((sortI (cT rs)).map D.int):=pE;rw[J4 he (c9 (nz hl)) (BZ _) (BZ _) ∅];refine⟨_,rfl,hQ _ _ ⟨λz=>absurd z (by simp),λ_=>mJ (aW (kZ ?_))⟩⟩;clear hQ;have GK:Ex [] st (s ++ [O.lst ((sortI (cT rs)).map D.int)]):=kk.app _;generalize (s ++ [O.lst ((sortI (cT rs)).map D.int)])=S4 at GK ⊢;clear hw hl he kk;obtain⟨S',Kb,eS',ts,L',hS',et,hlt,pm',pw',k14⟩:Wp (cD (aG uW (af (ag 4) ah)) [some (bE xs ys),some (.tup [.int a,.int (h:Int)]),some (sX rs),some (.int ((a.natAbs+h:Nat):Int)),some (bE q.1 q.2),some (.ref s7.length),some (.ref uN.length),v7,v8,none,none,none] S4) λS Kb=>∃(ts:List (D×D×D)) (L:List (Int×Int)),lu S (ts.map λt=>.tup [t.1,t.2.1,t.2.2]) Kb/\(ts.map λt=>D.tup [t.1,t.2.1])=L.map pD/\ts.length<=n/\((ae.qi n q.1 q.2).map gC).Perm L/\L.Pairwise u5/\Ex [] S4 Kb:=by
  k_lt hP;refine aR (uM (p:=q) wf n0 ⋯) ?_;rintro d t3 ⟨ts,L,rfl,et,hlt,pm,pw,k3⟩;exact⟨_,rfl,hP _ _ ⟨ts,L,rZ _ _,et,hlt,pm,pw,k3⟩⟩
 have eL:L'=L:=Sr (pm'.symm.trans Ka) pw' pw;subst eL;k_lt hQ;refine Yj ts (λt=>.tup [t.1,t.2.1]) ⟨S',Kb,eS',hS',k14⟩ ⋯ ?_ ?_;intro t ht S5 S6;k_lt hP;exact⟨rfl,hP _ _ ⟨rfl,Ex.refl⟩⟩;intro S5 S6;rw[et];refine aR (SR (L:=L') (w:=g) fl n0 hn ⋯ ⋯ ⋯ hg ⋯ BR gg S2 pw) ?_;rintro d Nr ⟨rfl,S7⟩;have Nt:Nr[S5.length]?=some (.lst (L'.map pD)):=S7.keep _ _ ke (by simp);refine⟨_,rfl,?_⟩;rw[J4 (c9 (nz Nt)) pE (SX _) (SX _) ∅];refine⟨_,rfl,hQ _ _ ⟨λz=>absurd z (by simp),λ_=>mJ ?_⟩⟩;clear hQ;have GL:Ex [] st (Nr ++ [O.lst (L'.map pD)]):=((GK.trans S6).trans ((Ex.cf _).trans S7)).app _;generalize (Nr ++ [O.lst (L'.map pD)])=s17 at GL ⊢;have S8:sj a h≠[]:=by
  intro z;have:=congrArg List.length z;rw[GD,ZbB]at this;have e1:a=0:=by lk
  have e2:h=0:=by lk
  subst e1 e2;exact absurd hg ∅
 have abf:1<=a.natAbs+h:=by
  have:=ZbG.mpr S8;rw[GD]at this;lk
 refine aW (oU (rs.map λr=>.tup (r.map D.int)) (λi δ s=>∃v9 v10 v11:Option D,δ=[some (bE xs ys),some (.tup [.int a,.int (h:Int)]),some (sX rs),some (.int ((a.natAbs+h:Nat):Int)),some (bE q.1 q.2),some (.ref s7.length),some (.ref uN.length),v7,v8,v9,v10,v11]/\Ex [] st s) ?_ (by rw[Zaa];lk) ?_ ?_);k_lt hQ;exact⟨_,rfl,hQ _ _ ⟨rfl,_,_,_,rfl,GL⟩⟩;rintro i d δ s hd ⟨v9,v10,v11,rfl,kk⟩;obtain⟨r,hr,rfl⟩:=Zah.mp (Zak hd);obtain⟨j,bj,rj,lj⟩:=R.rw tc r hr;have Nu:r≠[]:=λz=>by rw[z]at rj;exact absurd rj.mem (by simp)
 obtain⟨r0,l,rfl⟩:∃r0 l,r=r0 ++ [l]:=⟨_,_,(List.dropLast_concat_getLast Nu).symm⟩;have JW:l∈r0 ++ [l]:=by simp
 obtain⟨l0,l1⟩:=(hrs _ hr).2 l JW;k_lt hQ;refine hQ _ _ (aW (bD ?_));clear hQ;k_lt hQ;refine⟨_,by rw[Zaw];exact MT,?_⟩;refine aR (ycJ (a:=a) (h:=h) (s:=l) tx ty ⋯ ⋯ ⋯ l0 l1) ?_;rintro d t1 ⟨m,rfl,nb,bk,k1⟩;rw[hsl,hγ]at nb bk;rw[hsl];have rl:ae.a5 γ l (ae.row γ l m):=⟨m,rfl,nb,bk⟩;have pr:=ycK tc rl rj ⟨l0,l1⟩ bj rl.mem JW;have hrm:(r0 ++ [l]).length=m+1:=by rw[<- pr.length_eq,ae.sQ]
 have S9:m+1<=8:=by have:=(hrs _ hr).1;lk
 have hline:((ini xs ys l (rep (m+1) (sj a h))).map D.int).length=(m+1)*(a.natAbs+h):=by rw[Zaa,J3,J2,GD]
 have hlb:(m+1)*(a.natAbs+h)<=192:=Zap (Zbg S9 hb) ∅;refine hQ _ _ (aW (bD ?_));clear hQ;have hdv:(((m+1)*(a.natAbs+h):Nat):Int) / ((a.natAbs+h:Nat):Int)=((m+1:Nat):Int):=by
  rw[<- Int.natCast_ediv,Nat.mul_div_cancel _ ⋯]
 refine uV (aH 0 (m+1)) (λd=>.int (ae.aS γ l (inD d).toNat)) ?_ (by rw[lr];lk) ?_ ?_;refine bM ?_;intro qhP hP;exists hline,hdv;exact⟨⟨by lk,by lk⟩,⟨by lk,by lk⟩,hP _ _ ⟨by rw[Zau];exact rZ _ _,Ex.refl⟩⟩;intro d hd t2 k2;unfold aH at hd;obtain⟨k,hk,rfl⟩:=Zah.mp hd;have hk:=ZaP.mp hk;have hat:=xdp tx ty l0 l1 S8 hk;rw[GD,hγ]at hat;have hkb:(a.natAbs+h)*k<=192:=Zap (Zbg hb (show k<=8 by lk)) ∅;k_lt hP;have em:((a.natAbs+h:Nat):Int)*(0+(k:Int))=(((a.natAbs+h)*k:Nat):Int):=by rw[ZbN];push_cast;rfl
 refine⟨_,rfl,_,rfl,?_⟩;w_how;rw[em];refine⟨.inl ⋯,_,uQ (j:=(a.natAbs+h)*k) (by rw[Zal,hat];rfl),hP _ _ ⟨?_,Ex.refl⟩⟩;show D.int (ae.aS γ l k)=D.int (ae.aS γ l (0+(k:Int)).toNat);rw[ZbN,Zau];intro t2 k2;have eR:(aH 0 (m+1)).map (λd=>D.int (ae.aS γ l (inD d).toNat))=(ae.row γ l m).map D.int:=by
  unfold aH ae.row;rw[Zas,Zas];refine ZaJ λk _=>?_;show D.int (ae.aS γ l (0+(k:Int)).toNat)=D.int (ae.aS γ l k);rw[ZbN,Zau]
 rw[eR];refine kZ ?_;k_lt hQ;refine⟨.inl ⟨by lk,by lk⟩,?_⟩;have hmul:((((ini xs ys l (rep (m+1) (sj a h))).map D.int).length:Nat):Int)=((a.natAbs+h:Nat):Int)*((((r0 ++ [l]).map D.int).length:Nat):Int):=by
  rw[hline,Zaa,hrm,Zcb];push_cast;rfl
 rw[if_neg (by rw[decide_eq_true hmul];decide)];rw[Gx (ns:=ae.row γ l m) (show b9 _ (.ref _)=_ from pE) (by rw[ae.sQ];lk),Gx (ns:=r0 ++ [l]) QS ⋯,<- Nh pr];have k3:Ex [] st (t2 ++ [O.lst ((ae.row γ l m).map D.int)] ++ [O.lst ((sortI (ae.row γ l m)).map D.int)] ++ [O.lst ((sortI (ae.row γ l m)).map D.int)]):=((((kk.trans k1).trans k2).app _).app _).app _;have hi1:items (t2 ++ [O.lst ((ae.row γ l m).map D.int)] ++ [O.lst ((sortI (ae.row γ l m)).map D.int)] ++ [O.lst ((sortI (ae.row γ l m)).map D.int)]) (t2 ++ [O.lst ((ae.row γ l m).map D.int)]).length=some ((sortI (ae.row γ l m)).map D.int):=c9 (nz ke);rw[J4 hi1 pE (BZ _) (BZ _) ∅];exact⟨_,rfl,hQ _ _ ⟨λz=>absurd z (by simp),λ_=>mJ ⟨_,_,_,rfl,k3⟩⟩⟩;rintro δ s ⟨v9,v10,v11,rfl,kk⟩;refine c4 ?_;k_lt hQ;exact hQ _ _ ⟨rfl,kk⟩
abbrev Ask(d:D):Prop:=∃(n:Nat) (xs ys:List Int) (a:Int) (h:Nat),d=.tup [bE xs ys,.tup [.int a,.int (h:Int)]]/\l9 n xs ys/\0<n/\n<=8/\a.natAbs+h<=24/\Int.gcd a h=1/\¬(a=-1/\h=0)
def uO(ns:List Int)(hn:ns.length<=63):Wp (MG [.ref 0] [.sE (ns.map D.int)]) λd _=>d=.bl true:=by
 refine dY ?_;show Ws (JK [some (.ref 0),none,none,none,none] [.sE (ns.map D.int)]) _ _ _ _;unfold JK;obtain⟨m,hm,S9⟩:∃m:Nat,(if(if((ns.map D.int).length:Int)<5 then((ns.map D.int).length:Int)else 5) > 2 then(if((ns.map D.int).length:Int)<5 then((ns.map D.int).length:Int)else 5)else 2)=(m:Int)/\m<=5:=by
  by_cases h8:((ns.map D.int).length:Int)<5;rw[if_pos h8];by_cases h4:((ns.map D.int).length:Int) > 2;rw[if_pos h4];exact⟨(ns.map D.int).length,rfl,by lk⟩;rw[if_neg h4];exact⟨2,rfl,by lk⟩;rw[if_neg h8];exact⟨5,rfl,by lk⟩
 have hS1:items ([O.sE (ns.map D.int)] ++ [O.lst []]:Store) 0=some (ns.map D.int):=rfl;refine aW (bD ?_);k_lt hQ;refine⟨rfl,hQ _ _ (aW (oU (aH 0 m) (λk δ s=>∃(v2 v3 v4:Option D) (qs:List D),δ=[some (.ref 0),some (.ref 1),v2,v3,v4]/\s[0]?=some (.sE (ns.map D.int))/\s[1]?=some (.lst qs)/\qs.length=k/\∀d∈qs,Ask d) ?_ (by rw[lr];lk) ?_ ?_))⟩;clear hQ;refine bM ?_;intro cG hQ;exists hS1,hm;exact⟨by lk,hQ _ _ ⟨by rw[Zau],_,_,_,[],rfl,rfl,rfl,rfl,λd hd=>nomatch hd⟩⟩;rintro k d δ s hd ⟨v2,v3,v4,qs,rfl,h0,h1,hql,hq⟩;have hk:=gM hd;rw[lr]at hk;rw[D0 hk,ZbN]at hd;cases hd;clear hQ;k_lt hQ;refine hQ _ _ (aW (bD ?_));clear hQ;k_lt hQ;refine aR (Zz (a:=0) (ns:=ns) (k:=k) (Xm h0) ⋯) ?_;rintro d st2 ⟨rfl,f2,k2⟩;refine hQ _ _ (aW (bD ?_));clear hQ;k_lt hQ;refine⟨rfl,?_⟩;refine aR (wA (n:=3) (f2.keep (Ex.cf [O.lst [D.int 6,D.int 12,D.int 24]])) ∅ ∅) ?_;rintro d st3 ⟨b,rfl,b0,b3,f3,k3⟩;have hi3:st3[st2.length]?=some (.lst [.int 6,.int 12,.int 24]):=k3.keep _ _ ke (by have:=f2.lt;simp;lk);obtain⟨mo,hmo,mo1,mo2⟩:∃mo:Int,gH [D.int 6,D.int 12,D.int 24] b=some (.int mo)/\1<=mo/\mo<=24:=by
  rcases(show b=0\/b=1\/b=2 by lk)with rfl|rfl|rfl
  exact⟨6,uQ (j:=0) rfl,by decide,by decide⟩;exact⟨12,uQ (j:=1) rfl,by decide,by decide⟩;exact⟨24,uQ (j:=2) rfl,by decide,by decide⟩
 exists c9 hi3,hmo;refine aR (YbJ (most:=mo) f3 mo1 ⋯) ?_;rintro d kW ⟨a,h,rfl,ha,hg,hnn,f4,k4⟩;have Gv:Ex [] s kW:=k2.drop (((Ex.cf _).any.trans k3).trans k4) (Zad _);refine hQ _ _ (sL ?_);clear hQ;k_lt hQ;have h14:=Gv.keep _ _ h1 (by simp);refine⟨rX (by rw[c9 h14];rfl),?_⟩;refine aR (ZX (most:=8) f4 ∅ ∅) ?_;rintro d j6 ⟨n,xs,ys,rfl,fl,n1,n8,f5,k5⟩;have kk:Ex [] s j6:=Gv.drop k5 (Zad _);have Ha:=kk.keep _ _ h1 (by simp);have h05:=kk.keep _ _ h0 (by simp);exists mQ Ha;refine⟨rfl,j4 ⋯,hQ _ _ ⟨_,_,_,qs ++ [D.tup [bE xs ys,.tup [.int a,.int (h:Int)]]],rfl,?_,Zao (gM Ha),by rw[Zaj];simp[hql],λd hd=>?_⟩⟩;rw[ZaG ∅];exact h05;rcases ZaF.mp hd with h'|h'
 exact hq d h';rw[Zat.mp h'];exact⟨n,xs,ys,a,h,rfl,fl,by lk,by lk,by lk,hg,hnn⟩;rintro δ st1 ⟨v2,v3,v4,qs,rfl,h0,h1,hl,hq⟩;rw[lr]at hl;clear hQ;refine c4 (XU (m:=1) (a:=1) (n:=2) rfl h1 ⋯ ?_);rintro d hd δ' s1 hδ;obtain⟨n,xs,ys,a,h,rfl,fl,n0,n8,hb,hg,hnn⟩:=hq d hd;obtain⟨x,y,rfl⟩:∃x y,δ'=[x,y]:=match δ',hδ with|[x,y],_=>⟨x,y,rfl⟩
 k_lt hQ;refine⟨rfl,hQ _ _ ⟨rfl,?_⟩⟩;clear hQ;k_lt hQ;exact aR (Xcn fl n0 n8 hb hg hnn) λy st3 h=>hQ _ _ h
def A2{P:Program}{w:World}{K:Zfr}{mg:Str->Option Value}{base:Heap}(T:Txt mg){oo:V}(mw:tL K mg "QUARTER" oo (.tup [(.int 0),(.int (-1)),(.int 1),(.int 0)])){kh:V}(eX:tL K mg "UNMOVED" kh (.tup [(.int 1),(.int 0),(.int 0),(.int 1)])){jb:Addr}{jc:FuncData}(gj:Def K mg "_law_feed" Ey ["_law_script","_law_k"] jb jc){je:Addr}{jf:FuncData}(aO:Def K mg "_law_take" Ez ["_law_feed_here","_law_many"] je jf){fF:Addr}{fG:FuncData}(dE:Def K mg "_law_common" EB ["_law_a","_law_c"] fF fG){gN:Addr}{gO:FuncData}(eV:Def K mg "_law_slope" ED ["_law_feed_here","_law_most"] gN gO){gQ:Addr}{gR:FuncData}(dj:Def K mg "_law_rings" EF ["_law_turning_here"] gQ gR){fI:Addr}{fJ:FuncData}(aI:Def K mg "turned_back" EG ["turning"] fI fJ){kG:Addr}{kH:FuncData}(aX:Def K mg "followed" EH ["one","other"] kG kH){fK:Addr}{fL:FuncData}(dF:Def K mg "called_anew" EJ ["floor","p"] fK fL){eA:Addr}{eC:FuncData}(cY:Def K mg "squares_from" EL ["floor","s"] eA eC){c5:Addr}{c6:FuncData}(cx:Def K mg "numbering_from" EN ["floor","s"] c5 c6){dG:Addr}{dH:FuncData}(cJ:Def K mg "numbered_from" ER ["floor","s"] dG dH){mf:Addr}{mh:FuncData}(kf:Def K mg "form_of" ET ["floor"] mf mh){jg:Addr}{jh:FuncData}(bO:Def K mg "ring_from" EU ["turning","first"] jg jh){kI:Addr}{kJ:FuncData}(dk:Def K mg "rings_of" EV ["turning"] kI kJ){pJ:Addr}{pK:FuncData}(om:Def K mg "often" EX ["turning","k"] pJ pK){ml:Addr}{mq:FuncData}(kg:Def K mg "sheared" E1 ["floor","k"] ml mq){ji:Addr}{jk:FuncData}(gk:Def K mg "quartered" E3 ["floor"] ji jk){fN:Addr}{fO:FuncData}(dJ:Def K mg "led_by_step" E5 ["floor","step"] fN fO){nL:Addr}{nM:FuncData}(mv:Def K mg "led_by" E7 ["floor","word"] nL nM){kK:Addr}{kL:FuncData}(dm:Def K mg "led_pair" E8 ["table","pair"] kK kL){nP:Addr}{nQ:FuncData}(fQ:Def K mg "shears" E9 ["k"] nP nQ){pN:Addr}{pO:FuncData}(gn:Def K mg "times" Fb ["one","other"] pN pO){gW:Addr}{gX:FuncData}(eY:Def K mg "step_table" Fe ["step"] gW gX){kM:Addr}{kN:FuncData}(bU:Def K mg "table_of" Ff ["word"] kM kN){mx:Addr}{my:FuncData}(ki:Def K mg "nearest" Fh ["number","divisor"] mx my){fR:Addr}{fS:FuncData}(bX:Def K mg "level_steps" Fi ["pair"] fR fS){nR:Addr}{nS:FuncData}(mB:Def K mg "joined" Fm ["one","other"] nR nS){gZ:Addr}{g5:FuncData}(eZ:Def K mg "made_plain" Fp ["word"] gZ g5){eF:Addr}{eG:FuncData}(cZ:Def K mg "put_together" Ft ["one","other"] eF eG){kO:Addr}{kP:FuncData}(iW:Def K mg "is_table" Fv ["thing"] kO kP){g8:Addr}{g9:FuncData}(e7:Def K mg "level_word" Fx ["table"] g8 g9){jm:Addr}{jn:FuncData}(gp:Def K mg "back_step" Fz ["step"] jm jn){jq:Addr}{jr:FuncData}(gs:Def K mg "back_word" FC ["word"] jq jr){mC:Addr}{mD:FuncData}(kj:Def K mg "word_of" FE ["table"] mC mD){eJ:Addr}{eK:FuncData}(bK:Def K mg "led_by_table" FF ["floor","table"] eJ eK){ju:Addr}{jv:FuncData}(cK:Def K mg "upper_row" FG ["floor","row"] ju jv){dM:Addr}{dN:FuncData}(cL:Def K mg "round_corners" FI ["floor"] dM dN){jw:Addr}{jx:FuncData}(cM:Def K mg "is_smooth" FJ ["floor","ring"] jw jx){jy:Addr}{jz:FuncData}(gy:Def K mg "band_from" FK ["floor","lowest"] jy jz){kR:Addr}{kS:FuncData}(dn:Def K mg "bands_of" FL ["floor"] kR kS){fT:Addr}{fU:FuncData}(bY:Def K mg "slope_table" FO ["slope"] fT fU){fV:Addr}{fW:FuncData}(cO:Def K mg "bands_along" FP ["floor","slope"] fV fW){dQ:Addr}{dR:FuncData}(bu:Def K mg "step_turnings" FQ ["floor"] dQ dR){fX:Addr}{fY:FuncData}(a6:Def K mg "slope_steps" FR ["slope"] fX fY){jB:Addr}{jC:FuncData}(cN:Def K mg "gone_once" FT ["floor","slope"] jB jC){nU:Addr}{nV:FuncData}(mF:Def K mg "ridden" FW ["floor","s","steps"] nU nV){jD:Addr}{jE:FuncData}(gA:Def K mg "line_from" FY ["floor","slope","s"] jD jE){h9:Addr}{ia:FuncData}(e8:Def K mg "_law_right" F0 ["_law_floor_here","_law_slope_here"] h9 ia){jG:Addr}{jH:FuncData}(gB:Def K mg "_law_anew" F4 ["_law_floor_here","_law_p"] jG jH){eN:Addr}{eO:FuncData}(bq:Def K mg "_law_turning" F5 ["_law_feed_here","_law_n"] eN eO){kT:Addr}{kU:FuncData}(f9:Def K mg "_law_met" F6 ["_law_floor_here"] kT kU){ic:Addr}{ie:FuncData}(fe:Def K mg "_law_floor" F9 ["_law_feed_here","_law_n"] ic ie){ik:Addr}{il:FuncData}(ff:Def K mg "_law_drawn" Gb ["_law_feed_here","_law_most"] ik il){GN:Addr}{GO:FuncData}(Nv:Def K mg "law" JL ["_law_script"] GN GO):aD P w K mg base a7 10 GN GO ["_law_script"] (a9 K 1 MG):=by have jd:=Yo (P:=P) (w:=w) (base:=base) gj T;have aP:=Yp (P:=P) (w:=w) (base:=base) aO T;have fH:=Yq (P:=P) (w:=w) (base:=base) dE T;have gP:=Yr (P:=P) (w:=w) (base:=base) aO aP dE fH eV T;have eW:=Ys (P:=P) (w:=w) (base:=base) dj T;have aM:=Yt (P:=P) (w:=w) (base:=base) aI T;have aZ:=Yv (P:=P) (w:=w) (base:=base) aX T;have fM:=Yw (P:=P) (w:=w) (base:=base) aI aM aX aZ dF T;have eE:=Yx (P:=P) (w:=w) (base:=base) cY T;have c7:=Yz (P:=P) (w:=w) (base:=base) aI aM cY eE cx T;have dI:=YB (P:=P) (w:=w) (base:=base) dF fM cx c7 cJ T;have mj:=YD (P:=P) (w:=w) (base:=base) cJ dI kf T;have bZ:=YE (P:=P) (w:=w) (base:=base) bO T;have d3:=YF (P:=P) (w:=w) (base:=base) bO bZ dk T;have pL:=YG (P:=P) (w:=w) (base:=base) dk d3 om T;have mr:=YI (P:=P) (w:=w) (base:=base) aX aZ om pL kg T;have jl:=YK (P:=P) (w:=w) (base:=base) aI aM gk T;have fP:=YL (P:=P) (w:=w) (base:=base) kg mr gk jl dJ T;have nO:=YM (P:=P) (w:=w) (base:=base) dJ fP mv T;have d4:=YO (P:=P) (w:=w) (base:=base) dm T;have gS:=YR (P:=P) (w:=w) (base:=base) fQ T;have iB:=YT (P:=P) (w:=w) (base:=base) gn T;have gY:=YU (P:=P) (w:=w) (base:=base) gn iB eY T mw eX;have cc:=YV (P:=P) (w:=w) (base:=base) gn iB eY gY bU T eX;have mz:=YX (P:=P) (w:=w) (base:=base) ki T;have ck:=YY (P:=P) (w:=w) (base:=base) dm d4 fQ gS bU cc ki mz bX T;have nT:=YZ (P:=P) (w:=w) (base:=base) mB T;have g7:=Y0 (P:=P) (w:=w) (base:=base) mB nT eZ T;have eI:=Y2 (P:=P) (w:=w) (base:=base) eZ g7 cZ T;have kQ:=Y4 (P:=P) (w:=w) (base:=base) iW T;have hV:=Y6 (P:=P) (w:=w) (base:=base) fQ gS e7 T;have jo:=Y8 (P:=P) (w:=w) (base:=base) gp T;have jt:=Za (P:=P) (w:=w) (base:=base) gp jo gs T;have mE:=Zb (P:=P) (w:=w) (base:=base) gn iB bU cc bX ck cZ eI iW kQ e7 hV gs jt kj T;have b5:=Zd (P:=P) (w:=w) (base:=base) kf mj mv nO kj mE bK T;have de:=Zf (P:=P) (w:=w) (base:=base) bO bZ cK T;have dO:=Zg (P:=P) (w:=w) (base:=base) aI aM aX aZ cL T;have df:=Zh (P:=P) (w:=w) (base:=base) cL dO cM T;have jA:=Zi (P:=P) (w:=w) (base:=base) cK de cM df gy T;have d5:=Zj (P:=P) (w:=w) (base:=base) dk d3 cK de cM df gy jA dn T;have cm:=Zk (P:=P) (w:=w) (base:=base) dm d4 bU cc bX ck bY T;have dP:=Zl (P:=P) (w:=w) (base:=base) bK b5 dn d5 bY cm cO T;have bP:=Zn (P:=P) (w:=w) (base:=base) aI aM bu T;have bp:=Zo (P:=P) (w:=w) (base:=base) a6 T;have dg:=Zp (P:=P) (w:=w) (base:=base) aX aZ bu bP a6 bp cN T;have nW:=Zq (P:=P) (w:=w) (base:=base) bu bP mF T;have jF:=Zr (P:=P) (w:=w) (base:=base) bO bZ a6 bp cN dg mF nW gA T;have ib:=Zs (P:=P) (w:=w) (base:=base) dj eW bK b5 dn d5 bY cm cO dP a6 bp cN dg gA jF e8 T;have jI:=Zu (P:=P) (w:=w) (base:=base) gB T;have bL:=Zv (P:=P) (w:=w) (base:=base) aO aP bq T;have iX:=Zw (P:=P) (w:=w) (base:=base) f9 T;have ig:=Zx (P:=P) (w:=w) (base:=base) aO aP bq bL f9 iX fe T;have ip:=Zy (P:=P) (w:=w) (base:=base) aO aP gB jI bq bL fe ig ff T;have Nw:=Ax (P:=P) (w:=w) (base:=base) gj jd aO aP eV gP e8 ib ff ip Nv T;exact Nw
end My
open PySem PySem.W PyProof.Rows L2
namespace PySem.W.Fast
abbrev tw5419380632867115829:=0
abbrev tw16803521653049926107:=0
abbrev tw13105870594772568229:=0
abbrev tw15024882192541385938:=0
abbrev tw18040970778882489528:=0
abbrev tw4312636453697769162:=0
abbrev tw9260438592501386598:=0
abbrev tw17481816696970559372:=0
abbrev tw4405651115570034070:=0
abbrev tw16575578738995431928:=0
abbrev tw12652882824213262799:=0
abbrev tw3641110269984607461:=0
abbrev tw518768633640677658:=0
abbrev tw8365732363659745758:=0
abbrev tw8122934264118273912:=0
abbrev tw1209573658746195863:=0
abbrev tw7106796648560593773:=0
abbrev tw2769886296367581641:=0
abbrev tw4983981394861669822:=0
abbrev tw15665305133420085369:=0
abbrev tw5578205013360777630:=0
abbrev tw1538374217815432838:=0
abbrev tw18112662386602754668:=0
abbrev tw10245551012390943453:=0
abbrev tw10094125406556637878:=0
abbrev tw9096900444911000466:=0
abbrev tw9644187508113442167:=0
abbrev tw10962554090777445190:=0
abbrev tw6647871025099104345:=0
abbrev tw3102880178558928967:=0
abbrev tw4079409350338177529:=0
abbrev tw568866095304368967:=0
abbrev tw13227981327956819789:=0
abbrev tw15860669638953211209:=0
abbrev tw17062515055508936978:=0
abbrev tw3092130963503039546:=0
abbrev tw10379289730996122975:=0
abbrev tw14425821454534563735:=0
abbrev tw8208949695517470661:=0
abbrev tw2799890748895312378:=0
abbrev tw9171463829454474575:=0
abbrev tw8889639972760508445:=0
abbrev tw10424665815982830409:=0
abbrev tw15739756849964225967:=0
abbrev tw1730067083125424327:=0
abbrev tw4716097068491533070:=0
abbrev tw14703713838214538846:=0
abbrev tw11641623309542856492:=0
abbrev tw15315524187052315777:=0
abbrev tw883577779676333966:=0
abbrev tw9464716699840714935:=0
abbrev tw17306771267527899068:=0
abbrev tw4140860820937688384:=0
abbrev tw1947806532180634930:=0
abbrev tw10989286339560061986:=0
abbrev tw4006456702084206399:=0
abbrev tw15984328125502887570:=0
abbrev tw14337988829903182297:=0
abbrev tw14218639513196323368:=0
abbrev tw12430222600685336726:=0
abbrev tw2008739630307101341:=0
abbrev tw3499896755479775526:=0
abbrev tw942839173456487265:=0
abbrev tw7380712047583899554:=0
abbrev tw16738515808278939695:=0
abbrev tw13377228195305963847:=0
abbrev tw11820438664695830857:=0
abbrev tw17798446426866426284:=0
abbrev tw11723086642730147959:=0
abbrev tw16362744220343445821:=0
abbrev tw11720817793673741469:=0
abbrev tw4144954781355465897:=0
abbrev tw15469620909425489690:=0
abbrev tw17711204883760327069:=0
abbrev tw12177908277612800082:=0
abbrev tw1326814298119179649:=0
abbrev tw7830589898648903533:=0
abbrev tw14230838088294961435:=0
abbrev tw1212560965592647536:=0
abbrev tw17469039422595216593:=0
abbrev tw12894741892206723986:=0
abbrev tw1058293785586306772:=0
abbrev tw16461240761656773112:=0
abbrev tw3455285261983810482:=0
abbrev tw3686775815544124489:=0
abbrev tw10626252312539233511:=0
abbrev tw9543003905090068795:=0
abbrev tw5479254075899457206:=0
abbrev tw10931311040570010277:=0
abbrev tw12913189610853641663:=0
end PySem.W.Fast
end
open PySem PySem.W PyProof.Rows L2
local macro_rules|`(tactic|x_fa $a $b $c)=>`(tactic|(dsimp only [L2.KOf];refine' d7 $a $b (fun _ _ _ _ _ _=>$c (by intros;rfl)) ?a ?l ?c ?k;(case a=>k_is);(case l=>k_is);(case c=>k_is);(case k=>k_is)))
set_option maxRecDepth 100000 in
set_option maxHeartbeats 0 in
theorem PySem.Challenge.cw_shearfloor_k64_whole_lines_and_led_rows_holds : PySem.Challenge.rw_shearfloor_k64_whole_lines_and_led_rows.Holds := by
 w_on;o_law;k_head;(case hw=>w_witness2)
 k_fill
 refine L2.Ur (l:=PySem.Challenge.rw_shearfloor_k64_whole_lines_and_led_rows) (n:=63) (k:=10) (x:="_law_script") (CX:=a7) (sp:=L4.xN) rfl (by decide) rfl ⟨rfl,by decide,by decide,rfl⟩ (fun w h Y=>PySem.W.kIn_of Y) ?F ?S ?C
 case F =>
  intro w mg fa h KX G hmg;have T:My.Txt mg:=by
   refine' ⟨tU KX G ?z0,tU KX G ?z1,tU KX G ?z2,tU KX G ?z3,tU KX G ?z4,tU KX G ?z5,tU KX G ?z6,tU KX G ?z7,tU KX G ?z8,tU KX G ?z9,tU KX G ?S1⟩
   (case z0=>k_is);(case z1=>k_is);(case z2=>k_is);(case z3=>k_is);(case z4=>k_is);(case z5=>k_is);(case z6=>k_is);(case z7=>k_is);(case z8=>k_is);(case z9=>k_is);(case S1=>k_is)
  have mS:∃v,L4.tL (L2.KOf KX) mg "QUARTER" v (.tup [(.int 0),(.int (-1)),(.int 1),(.int 0)]):=by
   dsimp only [L2.KOf];refine' L4.Ro (vs:=[V.int 0,V.int (-1),V.int 1,V.int 0]) KX G ?a ?l ?o ?z ?v ?d
   (case a=>k_is);(case l=>k_is);(case o=>rfl);(case z=>decide);(case v=>exact (.cons ⟨_,rfl⟩ (.cons ⟨_,rfl⟩ (.cons ⟨_,rfl⟩ (.cons ⟨_,rfl⟩ .nil)))));(case d=>exact fun ρ H=>(.cons (.int _) (.cons (.int _) (.cons (.int _) (.cons (.int _) .nil)))))
  obtain ⟨_,mS⟩:=mS;have mT:∃v,L4.tL (L2.KOf KX) mg "UNMOVED" v (.tup [(.int 1),(.int 0),(.int 0),(.int 1)]):=by
   dsimp only [L2.KOf];refine' L4.Ro (vs:=[V.int 1,V.int 0,V.int 0,V.int 1]) KX G ?a ?l ?o ?z ?v ?d
   (case a=>k_is);(case l=>k_is);(case o=>rfl);(case z=>decide);(case v=>exact (.cons ⟨_,rfl⟩ (.cons ⟨_,rfl⟩ (.cons ⟨_,rfl⟩ (.cons ⟨_,rfl⟩ .nil)))));(case d=>exact fun ρ H=>(.cons (.int _) (.cons (.int _) (.cons (.int _) (.cons (.int _) .nil)))))
  obtain ⟨_,mT⟩:=mT;obtain⟨_,_,kl⟩:∃f fd,Def (L2.KOf KX) mg "_law_feed" My.Ey ["_law_script","_law_k"] f fd:=by x_fa KX G My.lV
  obtain⟨_,_,km⟩:∃f fd,Def (L2.KOf KX) mg "_law_take" My.Ez ["_law_feed_here","_law_many"] f fd:=by x_fa KX G My.lV
  obtain⟨_,_,iC⟩:∃f fd,Def (L2.KOf KX) mg "_law_common" My.EB ["_law_a","_law_c"] f fd:=by x_fa KX G My.lV
  obtain⟨_,_,jJ⟩:∃f fd,Def (L2.KOf KX) mg "_law_slope" My.ED ["_law_feed_here","_law_most"] f fd:=by x_fa KX G My.lV
  obtain⟨_,_,jK⟩:∃f fd,Def (L2.KOf KX) mg "_law_rings" My.EF ["_law_turning_here"] f fd:=by x_fa KX G My.oE
  obtain⟨_,_,iD⟩:∃f fd,Def (L2.KOf KX) mg "turned_back" My.EG ["turning"] f fd:=by x_fa KX G My.oE
  obtain⟨_,_,lL⟩:∃f fd,Def (L2.KOf KX) mg "followed" My.EH ["one","other"] f fd:=by x_fa KX G My.lV
  obtain⟨_,_,iE⟩:∃f fd,Def (L2.KOf KX) mg "called_anew" My.EJ ["floor","p"] f fd:=by x_fa KX G My.lV
  obtain⟨_,_,gD⟩:∃f fd,Def (L2.KOf KX) mg "squares_from" My.EL ["floor","s"] f fd:=by x_fa KX G My.lV
  obtain⟨_,_,d6⟩:∃f fd,Def (L2.KOf KX) mg "numbering_from" My.EN ["floor","s"] f fd:=by x_fa KX G My.lV
  obtain⟨_,_,ft⟩:∃f fd,Def (L2.KOf KX) mg "numbered_from" My.ER ["floor","s"] f fd:=by x_fa KX G My.lV
  obtain⟨_,_,mV⟩:∃f fd,Def (L2.KOf KX) mg "form_of" My.ET ["floor"] f fd:=by x_fa KX G My.oE
  obtain⟨_,_,kn⟩:∃f fd,Def (L2.KOf KX) mg "ring_from" My.EU ["turning","first"] f fd:=by x_fa KX G My.lV
  obtain⟨_,_,lM⟩:∃f fd,Def (L2.KOf KX) mg "rings_of" My.EV ["turning"] f fd:=by x_fa KX G My.oE
  obtain⟨_,_,pP⟩:∃f fd,Def (L2.KOf KX) mg "often" My.EX ["turning","k"] f fd:=by x_fa KX G My.lV
  obtain⟨_,_,mW⟩:∃f fd,Def (L2.KOf KX) mg "sheared" My.E1 ["floor","k"] f fd:=by x_fa KX G My.lV
  obtain⟨_,_,ko⟩:∃f fd,Def (L2.KOf KX) mg "quartered" My.E3 ["floor"] f fd:=by x_fa KX G My.oE
  obtain⟨_,_,iF⟩:∃f fd,Def (L2.KOf KX) mg "led_by_step" My.E5 ["floor","step"] f fd:=by x_fa KX G My.lV
  obtain⟨_,_,ou⟩:∃f fd,Def (L2.KOf KX) mg "led_by" My.E7 ["floor","word"] f fd:=by x_fa KX G My.lV
  obtain⟨_,_,lN⟩:∃f fd,Def (L2.KOf KX) mg "led_pair" My.E8 ["table","pair"] f fd:=by x_fa KX G My.lV
  obtain⟨_,_,ow⟩:∃f fd,Def (L2.KOf KX) mg "shears" My.E9 ["k"] f fd:=by x_fa KX G My.oE
  obtain⟨_,_,pQ⟩:∃f fd,Def (L2.KOf KX) mg "times" My.Fb ["one","other"] f fd:=by x_fa KX G My.lV
  obtain⟨_,_,jL⟩:∃f fd,Def (L2.KOf KX) mg "step_table" My.Fe ["step"] f fd:=by x_fa KX G My.oE
  obtain⟨_,_,lO⟩:∃f fd,Def (L2.KOf KX) mg "table_of" My.Ff ["word"] f fd:=by x_fa KX G My.oE
  obtain⟨_,_,mX⟩:∃f fd,Def (L2.KOf KX) mg "nearest" My.Fh ["number","divisor"] f fd:=by x_fa KX G My.lV
  obtain⟨_,_,iG⟩:∃f fd,Def (L2.KOf KX) mg "level_steps" My.Fi ["pair"] f fd:=by x_fa KX G My.oE
  obtain⟨_,_,oy⟩:∃f fd,Def (L2.KOf KX) mg "joined" My.Fm ["one","other"] f fd:=by x_fa KX G My.lV
  obtain⟨_,_,jM⟩:∃f fd,Def (L2.KOf KX) mg "made_plain" My.Fp ["word"] f fd:=by x_fa KX G My.oE
  obtain⟨_,_,gE⟩:∃f fd,Def (L2.KOf KX) mg "put_together" My.Ft ["one","other"] f fd:=by x_fa KX G My.lV
  obtain⟨_,_,lP⟩:∃f fd,Def (L2.KOf KX) mg "is_table" My.Fv ["thing"] f fd:=by x_fa KX G My.oE
  obtain⟨_,_,jN⟩:∃f fd,Def (L2.KOf KX) mg "level_word" My.Fx ["table"] f fd:=by x_fa KX G My.oE
  obtain⟨_,_,kq⟩:∃f fd,Def (L2.KOf KX) mg "back_step" My.Fz ["step"] f fd:=by x_fa KX G My.oE
  obtain⟨_,_,kr⟩:∃f fd,Def (L2.KOf KX) mg "back_word" My.FC ["word"] f fd:=by x_fa KX G My.oE
  obtain⟨_,_,mY⟩:∃f fd,Def (L2.KOf KX) mg "word_of" My.FE ["table"] f fd:=by x_fa KX G My.oE
  obtain⟨_,_,gF⟩:∃f fd,Def (L2.KOf KX) mg "led_by_table" My.FF ["floor","table"] f fd:=by x_fa KX G My.lV
  obtain⟨_,_,ku⟩:∃f fd,Def (L2.KOf KX) mg "upper_row" My.FG ["floor","row"] f fd:=by x_fa KX G My.lV
  obtain⟨_,_,fu⟩:∃f fd,Def (L2.KOf KX) mg "round_corners" My.FI ["floor"] f fd:=by x_fa KX G My.oE
  obtain⟨_,_,kx⟩:∃f fd,Def (L2.KOf KX) mg "is_smooth" My.FJ ["floor","ring"] f fd:=by x_fa KX G My.lV
  obtain⟨_,_,ky⟩:∃f fd,Def (L2.KOf KX) mg "band_from" My.FK ["floor","lowest"] f fd:=by x_fa KX G My.lV
  obtain⟨_,_,lQ⟩:∃f fd,Def (L2.KOf KX) mg "bands_of" My.FL ["floor"] f fd:=by x_fa KX G My.oE
  obtain⟨_,_,iH⟩:∃f fd,Def (L2.KOf KX) mg "slope_table" My.FO ["slope"] f fd:=by x_fa KX G My.oE
  obtain⟨_,_,iI⟩:∃f fd,Def (L2.KOf KX) mg "bands_along" My.FP ["floor","slope"] f fd:=by x_fa KX G My.lV
  obtain⟨_,_,fw⟩:∃f fd,Def (L2.KOf KX) mg "step_turnings" My.FQ ["floor"] f fd:=by x_fa KX G My.oE
  obtain⟨_,_,iJ⟩:∃f fd,Def (L2.KOf KX) mg "slope_steps" My.FR ["slope"] f fd:=by x_fa KX G My.oE
  obtain⟨_,_,kz⟩:∃f fd,Def (L2.KOf KX) mg "gone_once" My.FT ["floor","slope"] f fd:=by x_fa KX G My.lV
  obtain⟨_,_,oz⟩:∃f fd,Def (L2.KOf KX) mg "ridden" My.FW ["floor","s","steps"] f fd:=by x_fa KX G My.RG
  obtain⟨_,_,kA⟩:∃f fd,Def (L2.KOf KX) mg "line_from" My.FY ["floor","slope","s"] f fd:=by x_fa KX G My.RG
  obtain⟨_,_,jO⟩:∃f fd,Def (L2.KOf KX) mg "_law_right" My.F0 ["_law_floor_here","_law_slope_here"] f fd:=by x_fa KX G My.lV
  obtain⟨_,_,kC⟩:∃f fd,Def (L2.KOf KX) mg "_law_anew" My.F4 ["_law_floor_here","_law_p"] f fd:=by x_fa KX G My.lV
  obtain⟨_,_,gG⟩:∃f fd,Def (L2.KOf KX) mg "_law_turning" My.F5 ["_law_feed_here","_law_n"] f fd:=by x_fa KX G My.lV
  obtain⟨_,_,lR⟩:∃f fd,Def (L2.KOf KX) mg "_law_met" My.F6 ["_law_floor_here"] f fd:=by x_fa KX G My.oE
  obtain⟨_,_,jP⟩:∃f fd,Def (L2.KOf KX) mg "_law_floor" My.F9 ["_law_feed_here","_law_n"] f fd:=by x_fa KX G My.lV
  obtain⟨_,_,jQ⟩:∃f fd,Def (L2.KOf KX) mg "_law_drawn" My.Gb ["_law_feed_here","_law_most"] f fd:=by x_fa KX G My.lV
  obtain⟨_,_,qw⟩:∃f fd,Def (L2.KOf KX) mg "law" My.JL ["_law_script"] f fd:=by x_fa KX G My.oE
  have e0:=hmg.symm.trans qw.m;cases e0;exact ⟨_,qw.vo,fun base _ _=>L4.zt (My.A2 T mS mT kl km iC jJ jK iD lL iE gD d6 ft mV kn lM pP mW ko iF ou lN ow pQ jL lO mX iG oy jM gE lP jN kq kr mY gF ku fu kx ky lQ iH iI fw iJ kz oz kA jO kC gG lR jP jQ qw) fun ns hn=>let ⟨_,st,e,h⟩:=My.uO ns hn;⟨st,h ▸ e⟩⟩
 case S=>exact fun K H a ns hl hO hS=>⟨a,ns,rfl,hS.script hO,hl,fun _=>rfl⟩
 case C=>exact fun _ _ _ _ z=>z
