import PyProof.Rows.All
import Wide.All
import OpenK.AllK
import Wide.FinOn
import Lean
import PyProof.EqAt
import PyProof.EqKinds
import PyProof.TupleCall
import PyProof.DictIter
import PyProof.EnumMake
import KE.KSortTup
import KE.KDictLaws
import KE.KDictSum
import PyProof.StrLawsTight
import KE.KIntText
import PyProof.MinMaxWalk
import PyProof.WalkInts
import KE.KIsAll
import PyProof.ExcInit
import PyProof.NsDelKeeps
import PyProof.ExcBaseAll.ValueError
import OpenK.KOwn
import PyProof.ExcAttrAll.ValueError
import PyProof.InstStoreFacts
import PyProof.NoPylong
import PyProof.SetKind
import PyProof.Rows.SetFrom
import PySem.Challenge.RW_shearfloor_k36_kinds_of_rows
set_option Elab.async false
set_option linter.all false
set_option maxRecDepth 100000
set_option maxHeartbeats 4000000
set_option genSizeOf false
noncomputable section
section
local macro_rules|`(command|def $n:declId $s:optDeclSig $v:declVal)=>`(theorem $n:declId $(⟨Lean.mkNode ``Lean.Parser.Command.declSig #[s.raw[0],s.raw[1][0]]⟩):declSig $v:declVal)
local macro_rules|`(command|abbrev $n:declId $s:optDeclSig $v:declVal)=>`(noncomputable def $n:declId $s:optDeclSig $v:declVal)
local macro_rules|`(⋯)=>`(by lk)
local macro_rules|`(∅)=>`(by decide)
local macro_rules|`(tactic|lk)=>`(tactic|first|lia|omega)
abbrev Vl:=@List.length_map
abbrev Vm:=@List.getElem?_eq_some_iff
abbrev Vn:=@List.getElem?_eq_getElem
abbrev Vo:=@PySem.Heap.get?_push_of_some
abbrev Vp:=@Nat.le_refl
abbrev Vq:=@List.length_append
abbrev Vr:=@List.getElem?_map
abbrev Vs:=@Bool.false_ne_true
abbrev Vt:=@List.size_toArray
abbrev Vu:=@Option.some.inj
abbrev Vv:=@List.mem_of_getElem?
abbrev Vw:=@List.mem_cons_self
abbrev Vx:=@PySem.Heap.lt_size
abbrev Vy:=@List.mem_map
abbrev Vz:=@List.getD_eq_getElem?_getD
abbrev VA:=@List.mem_cons_of_mem
abbrev VB:=@Int.toNat_natCast
abbrev VC:=@List.getElem?_append_left
abbrev VD:=@List.getElem?_set_self
abbrev VE:=@List.mem_singleton
abbrev VF:=@PySem.Heap.get?_push_size
abbrev VG:=@Bool.and_eq_true
abbrev VH:=@Nat.le_trans
abbrev VI:=@List.getElem?_set_ne
abbrev VJ:=@List.mem_cons
abbrev VL:=@List.map_append
abbrev VM:=@List.getElem?_append_right
abbrev VN:=@PySem.Heap.get?_update_other
abbrev VO:=@List.map_cons
abbrev VP:=@List.mem_append_right
abbrev VQ:=@List.mem_append
abbrev VR:=@Option.map_eq_some_iff
abbrev VS:=@Nat.ne_of_lt
abbrev VT:=@List.map_map
abbrev VU:=@List.length_cons
abbrev VW:=@Nat.lt_of_lt_of_le
abbrev VX:=@Nat.zero_le
abbrev VY:=@Int.toNat_of_nonneg
abbrev VZ:=@PySem.Heap.get?_update_self
abbrev V0:=@List.getElem?_eq_none
abbrev V1:=@List.mem_append_left
abbrev V2:=@List.contains_iff_mem
abbrev V3:=@List.pairwise_iff_getElem
abbrev V4:=@List.take_succ_eq_append_getElem
abbrev V5:=@Bool.false_eq_true
abbrev V6:=@Nat.not_lt_zero
abbrev V7:=@List.append_nil
abbrev V8:=@List.getElem?_eq_none_iff
abbrev V9:=@List.replicate_succ
abbrev Wa:=@List.map_congr_left
abbrev Wb:=@List.getElem?_range
abbrev Wc:=@Nat.le_succ
abbrev Wd:=@Option.bind_eq_some_iff
abbrev Wf:=@Nat.lt_succ_self
abbrev Wg:=@Nat.le_of_lt
abbrev Wi:=@PySem.Heap.SameBut.update
abbrev Wj:=@List.length_set
abbrev Wl:=@List.map_nil
abbrev Wm:=@Nat.lt_of_le_of_lt
abbrev Wn:=@List.lookup_cons
abbrev Wo:=@List.any_cons
abbrev Wq:=@List.mem_range
abbrev Wr:=@List.foldl_append
abbrev Wt:=@List.find?_cons
abbrev Wu:=@Int.emod_nonneg
abbrev Wv:=@Array.length_toList
abbrev Ww:=@List.getD_cons_succ
abbrev Wx:=@List.getD_cons_zero
abbrev Wy:=@Array.getElem?_eq_some_iff
abbrev Wz:=@List.not_mem_nil
abbrev WA:=@List.length_singleton
abbrev WB:=@Array.getElem?_toList
abbrev WC:=@Int.emod_lt_of_pos
abbrev WD:=@List.mem_filter
abbrev WE:=@List.length_range
abbrev WG:=@List.getElem_of_mem
abbrev WH:=@List.length_take
abbrev WI:=@PySem.Heap.size_push
abbrev WJ:=@Option.bind_some
abbrev WK:=@Nat.sub_self
abbrev WL:=@Bool.eq_iff_iff
abbrev WM:=@List.nodup_cons
abbrev WN:=@List.flatten_cons
abbrev WO:=@List.ext_getElem?
abbrev WQ:=@List.drop_eq_getElem_cons
abbrev WR:=@List.findIdx?_eq_some_iff_getElem
abbrev WS:=@Option.isSome_iff_exists
abbrev WT:=@Int.zero_add
abbrev WU:=@List.take_length
abbrev WV:=@List.all_eq_true
abbrev WW:=@List.getElem?_replicate
abbrev WX:=@Nat.lt_irrefl
abbrev WY:=@List.length_nil
abbrev WZ:=@Array.append_empty
abbrev W0:=@List.append_assoc
abbrev W2:=@List.pairwise_map
abbrev W3:=@List.nodup_append
abbrev W4:=@List.length_replicate
abbrev W5:=@Nat.lt_trans
abbrev W6:=@List.Perm.refl
abbrev W7:=@Nat.zero_add
abbrev W8:=@List.idxOf_lt_length_of_mem
abbrev W9:=@List.getElem?_of_mem
abbrev Xa:=@List.prefix_refl
abbrev Xb:=@List.mem_reverse
abbrev Xc:=@List.map_id
abbrev Xe:=@Array.getElem?_eq_getElem
abbrev Xf:=@Nat.ne_of_gt
abbrev Xg:=@List.contains_cons
abbrev Xh:=@List.mem_singleton_self
abbrev Xi:=@List.pairwise_mergeSort
abbrev Xj:=@Int.add_right_neg
abbrev Xk:=@List.drop_of_length_le
abbrev Xl:=@Nat.lt_of_succ_lt_succ
abbrev Xm:=@Array.getElem?_eq_none
abbrev Xn:=@Nat.le_of_not_lt
abbrev Xo:=@List.getElem_map
abbrev Xp:=@Int.add_left_neg
abbrev Xq:=@Nat.le_of_ble_eq_true
abbrev Xr:=@List.length_filter_le
abbrev Xs:=@List.mem_iff_getElem?
abbrev Xt:=@PySem.Heap.get?_none_of_le
abbrev Xu:=@List.perm_cons_erase
abbrev Xv:=@List.mem_erase_of_ne
abbrev Xw:=@Nat.mul_le_mul_right
abbrev Xx:=@List.eq_nil_of_length_eq_zero
abbrev Xy:=@List.filterMap_cons
abbrev Xz:=@List.mergeSort_perm
abbrev XA:=@List.length_reverse
abbrev XB:=@List.drop_zero
abbrev XC:=@List.pairwise_cons
abbrev XD:=@List.getElem_range
abbrev XE:=@List.getElem_idxOf
abbrev XG:=@List.prefix_append
abbrev XH:=@Bool.xor_self
abbrev XM:=@List.reverse_cons
abbrev XQ:=@List.getElem_inj
abbrev XR:=@List.length_drop
abbrev XU:=@List.getElem_mem
abbrev XW:=@Nat.lt_or_ge
abbrev XX:=@List.any_eq_true
abbrev XY:=@Nat.not_lt_of_le
abbrev X0:=@List.map_set
@[reducible]def Zfr:=PySem.W.Frag
namespace L2
open PySem PySem.Spec PyProof.Rows
@[reducible]def Key:=Sum Int Str
abbrev kZ:Key->Value->Bool
 |.inl k,v=>Value.isInt k v
 |.inr x,v=>Value.isStrOf x v
abbrev Fe(w:World):Key->Int
 |.inl k=>hashInt k
 |.inr x=>hashStr w x
def rC:∀{k:Key} {v:Value},kZ k v=true->(∃i t,k=Sum.inl i/\v=Value.int i t)\/(∃x t,k=Sum.inr x/\v=Value.str x t)
 |.inl i,v,h=>by
  obtain⟨t,e⟩:=Value.isInt_shape (k:=i) (v:=v) h;exact .inl ⟨i,t,rfl,e⟩
 |.inr x,v,h=>by
  obtain⟨t,e⟩:=Value.isStrOf_shape (x:=x) (v:=v) h;exact .inr ⟨x,t,rfl,e⟩
def MD(i:Int)(t:Tok):kZ (.inl i) (.int i t)=true:=by simp[kZ,Value.isInt]
def ME(x:Str)(t:Tok):kZ (.inr x) (.str x t)=true:=by simp[kZ,Value.isStrOf]
def uP(a b:Int):decide ((Sum.inl a:Key)=Sum.inl b)=(a == b):=by by_cases e:a=b;subst e;simp;have h:¬(Sum.inl a:Key)=Sum.inl b:=λq=>e (Sum.inl.inj q);rw[decide_eq_false h];exact(beq_eq_false_iff_ne.mpr e).symm
def uQ(a b:Str):decide ((Sum.inr a:Key)=Sum.inr b)=decide (a=b):=by by_cases e:a=b;subst e;simp;have h:¬(Sum.inr a:Key)=Sum.inr b:=λq=>e (Sum.inr.inj q);rw[decide_eq_false h,decide_eq_false e]
def uR(a:Int)(b:Str):decide ((Sum.inl a:Key)=Sum.inr b)=false:=decide_eq_false (λq=>nomatch q)
def uS(a:Str)(b:Int):decide ((Sum.inr a:Key)=Sum.inl b)=false:=decide_eq_false (λq=>nomatch q)
abbrev bS(prog:Program)(w:World):PySem.KeyKind prog w Key where
 is:=kZ
 hash:=Fe w
 inj:=λv a b ha hb=>by
  rcases rC ha with⟨i,t,rfl,rfl⟩|⟨x,t,rfl,rfl⟩
  rcases rC hb with⟨j,u,rfl,e⟩|⟨y,u,rfl,e⟩
  injection e with e1 _;rw[e1];exact nomatch e;rcases rC hb with⟨j,u,rfl,e⟩|⟨y,u,rfl,e⟩
  exact nomatch e;injection e with e1 _;rw[e1]
 byValue:=λk v h=>by
  rcases rC h with⟨i,t,rfl,rfl⟩|⟨x,t,rfl,rfl⟩<;>rfl
 pyHash:=λhv h=>by
  rcases rC hv with⟨i,t,rfl,rfl⟩|⟨x,t,rfl,rfl⟩
  exact wpAny_pyHash_int h;exact wpAny_pyHash_str h
 eqBool:=λhu hv h=>by
  rcases rC hu with⟨i,t,rfl,rfl⟩|⟨x,t,rfl,rfl⟩
  rcases rC hv with⟨j,u,rfl,rfl⟩|⟨y,u,rfl,rfl⟩
  rw[uP]at h;exact wpAny_eqBool_int h;rw[uR]at h;exact SeqAt.EqAt.int_str i t y u _ _ _ _ h;rcases rC hv with⟨j,u,rfl,rfl⟩|⟨y,u,rfl,rfl⟩
  rw[uS]at h;exact SeqAt.EqAt.str_int x t j u _ _ _ _ h;rw[uQ]at h;exact wpAny_eqBool_str h
 «strs»:=λk x t v h=>by
  rcases rC h with⟨i,u,rfl,e⟩|⟨y,u,rfl,e⟩
  exact nomatch e;injection e with e1 _;subst e1;cases v<;>rfl
def MF(prog:Program)(w:World)(i:Int)(t:Tok):(bS prog w).is (.inl i) (.int i t)=true:=MD i t
def MG(prog:Program)(w:World)(x:Str)(t:Tok):(bS prog w).is (.inr x) (.str x t)=true:=ME x t
inductive V where
 |non|bl (b:Bool)|int (i:Int)|str (x:Str)|pK (b:Array UInt8)|Ff (b:UInt64)|ref (a:Addr)|ty (n:String)
 deriving DecidableEq
abbrev RelV:V->Value->Prop
 |.non,u=>u=Value.none
 |.bl b,u=>u=Value.bool b
 |.int i,u=>∃t,u=Value.int i t
 |.str x,u=>∃t,u=Value.str x t
 |.pK b,u=>∃t,u=Value.bytes b t
 |.Ff b,u=>∃t,u=Value.float b t
 |.ref a,u=>u=Value.ref a
 |.ty n,u=>u=Value.type n
@[reducible]def Vals:List V->List Value->Prop:=Paired RelV
def Vals.length{xs:List V}{us:List Value}(r:Vals xs us):xs.length=us.length:=Paired.length r
def Vals.get:∀{xs:List V} {us:List Value} {i:Nat} {x:V},Vals xs us->xs[i]?=some x->∃u,us[i]?=some u/\RelV x u
 |_,_,_,_,.nil,e=>by simp at e
 |_,_,0,_,.cons r _,e=>by simp at e;subst e;exact⟨_,rfl,r⟩
 |_,_,i+1,x,.cons _ t,e=>by
  obtain⟨u,h1,h2⟩:=Vals.get (i:=i) (x:=x) t (by simpa using e);exact⟨u,by simpa using h1,h2⟩
def Vals.set{x:V}{u:Value}(r:RelV x u):∀{xs:List V} {us:List Value} (i:Nat),Vals xs us->Vals (xs.set i x) (us.set i u)
 |_,_,_,.nil=>.nil
 |_,_,0,.cons _ t=>.cons r t
 |_,_,i+1,.cons q t=>.cons q (Vals.set r i t)
def Vals.append:∀{xs ys:List V} {us ws:List Value},Vals xs us->Vals ys ws->Vals (xs ++ ys) (us ++ ws)
 |_,_,_,_,.nil,s=>s
 |_,_,_,_,.cons r t,s=>.cons r (Vals.append t s)
def Vals.take:∀{xs:List V} {us:List Value} (n:Nat),Vals xs us->Vals (xs.take n) (us.take n)
 |_,_,0,_=>.nil
 |_,_,_+1,.nil=>.nil
 |_,_,n+1,.cons r t=>.cons r (Vals.take n t)
def Vals.drop:∀{xs:List V} {us:List Value} (n:Nat),Vals xs us->Vals (xs.drop n) (us.drop n)
 |_,_,0,r=>r
 |_,_,_+1,.nil=>.nil
 |_,_,n+1,.cons _ t=>Vals.drop n t
abbrev mI:Option V->Option Value->Prop
 |some v,some u=>RelV v u
 |none,none=>True
 |_,_=>False
abbrev KV{κ:Type}:List (κ×V)->List (κ×Value)->Prop:=Paired λ(p:κ×V) (q:κ×Value)=>p.1=q.1/\RelV p.2 q.2
abbrev kV:Key->V
 |.inl i=>.int i
 |.inr x=>.str x
set_option genInjectivity false in
inductive HO where
 /-- a list -/
 |lst (xs:List V)
 /-- a tuple (never changes) -/
 |tup (xs:List V)
 /-- a dict whose keys are ints and texts;one whose keys are tuples of ints and texts (the empty one is both) -/
 |dK (kvs:List (Key×V))|dT (kvs:List (List Key×V))
 /-- a set of ints: its members,its size -/
 |set (S:Int->Bool) (n:Nat)
 /-- an instance of the class at C,its dict at dx,its attributes -/
 |ins (C dx:Addr) (fs:List (Str×V))
 /-- the dict of the instance at x -/
 |own (x:Addr)
 /-- the dict of an exception -/
 |xd (fs:List (Str×V))
 /-- a bound method,f of x -/
 |met (f x:Addr)
 /-- a range object lo,lo+1,.. below hi -/
 |gI (lo hi:Int)
 /-- a thing that is known to the object (the script;a dict while a loop walks it): read,never written while it is so -/
 |k6 (o:Obj) (u:HO)
 /-- a code y3 table -/
 |sI (ps:Array Value)
 /-- any other thing,by what is true of its one object (a def of Im own: MH a S n:=HO.ext λh=>..) -/
 |ext (φ:Heap->Prop)
@[reducible]def Hp:=Addr->Option HO
abbrev upd(H:Hp)(a:Addr)(o:HO):Hp:=λb=>if b=a then some o else H b
def kM{H:Hp}{a:Addr}{o:HO}:upd H a o a=some o:=by unfold upd;rw[if_pos rfl]
def cL{H:Hp}{a b:Addr}{o:HO}(h:b≠a):upd H a o b=H b:=by unfold upd;rw[if_neg h]
def MI{H:Hp}{a:Addr}{o u:HO}:upd (upd H a o) a u=upd H a u:=by funext b;unfold upd;split<;>rfl
def Fg{H:Hp}{a b:Addr}{o u:HO}(h:H a=some o)(h':H b=some u)(d:o≠u):a≠b:=by intro e;subst e;rw[h]at h';exact d (Vu h')
def uT{H:Hp}{a b:Addr}{o:HO}(h:H a=some o)(h':H b=none):a≠b:=by intro e;subst e;rw[h]at h';cases h'
abbrev lH(h:Heap)(a:Addr)(its:Array Value):Prop:=∃o,h.get? a=some o/\o.cls=.type "tuple" /\ o.dict=none/\∃n,o.data=.seq its n
def lH.tup{h:Heap}{a:Addr}{its:Array Value}(x:lH h a its):IsTup h a its:=let ⟨o,e,c,_,n,d⟩:=x;⟨o,e,c,n,d⟩
def lH.new(h:Heap)(its:Array Value):lH (h.push { cls:=.type "tuple",data:=.seq its }) h.objs.size its:=⟨_,VF _ rfl,rfl,rfl,_,rfl⟩
section
variable (P:Program)(w:World)
abbrev bq(H:Hp)(h:Heap)(a:Addr):HO->Prop
 |.lst xs=>xs.length<=sizeLine/\∃(its:List Value) (n:Nat),Vals xs its/\h.get? a=some { cls:=.type "list",data:=.seq its.toArray n }
 |.tup xs=>xs.length<=sizeLine/\∃its:List Value,Vals xs its/\lH h a its.toArray
 |.dK kvs=>kvs.length<=sizeLine/\(a == sysModules)=false/\∃vs,KV kvs vs/\h.DictOf (bS P w) a vs
 | .dT kvs=>kvs.length<=sizeLine/\(a == sysModules)=false/\∃ xs:List (List Key×Addr×Value),
   Paired (λ(p:List Key×V) (q:List Key×Addr×Value)=>p.1=q.1/\H q.2.1=some (.tup (p.1.map kV))/\RelV p.2 q.2.2) kvs xs /\
   ∃o es ep,h.get? a=some o/\o.ExactDict/\o.data=.dict es ep/\es.toList=xs.map (entryOfKey (tupleKind (bS P w)))/\(xs.map (·.1)).Nodup
 |.set S n=>h.SetOf (intKind P w) a S n
 | .ins C dx fs=>H dx=some (.own a)/\fs.length<=1000/\dx≠a/\h.get? a=some (PySem.W.instObj C dx) /\
   ∃mA,h.Ns1 dx mA/\(∀f,mI (fs.lookup f) (mA f))/\PySem.Within mA (fs.map (·.1))
 |.own _=>∃o,h.get? a=some o
 |.xd fs=>∃mA,h.Ns1 a mA/\∀f,mI (fs.lookup f) (mA f)
 |.gI lo hi=>∃t u v,h.get? a=some { cls:=.type "range",data:=.fields #[.int lo t,.int hi u,.int 1 v] }
 |.k6 o u=>h.get? a=some o/\bq H h a u
 |.sI ps=>h.get? a=some { cls:=.none,data:=.fields ps }
 |.met f x=>h.get? a=some (PySem.W.methodObj (.ref f) (.ref x))
 |.ext φ=>φ h/\(∃o,h.get? a=some o)/\∀h1 h2:Heap,φ h1->(∀o,h1.get? a=some o->h2.get? a=some o)->φ h2
abbrev gO(H:Hp)(h:Heap):Prop:=∀a o,H a=some o->bq P w H h a o
end
section
variable {P:Program}{w:World}{H H':Hp}{h h':Heap}{a:Addr}{o:HO}
def bq.lt(x:bq P w H h a o):a<h.objs.size:=by
 cases o with
 |lst xs=>obtain⟨_,_,_,_,e⟩:=x;exact Vx e
 |tup xs=>obtain⟨_,_,_,_,e,_⟩:=x;exact Vx e
 |dK kvs=>obtain⟨_,_,_,_,o,_,_,e,_⟩:=x;exact Vx e
 |dT kvs=>obtain⟨_,_,_,_,o,_,_,e,_⟩:=x;exact Vx e
 |set S n=>obtain⟨o,_,_,_,e,_⟩:=x;exact Vx e
 |ins C dx fs=>obtain⟨_,_,_,e,_⟩:=x;exact Vx e
 |own y=>obtain⟨_,e⟩:=x;exact Vx e
 |xd fs=>obtain⟨_,⟨_,_,_,e,_⟩,_⟩:=x;exact Vx e
 |gI lo hi=>obtain⟨_,_,_,e⟩:=x;exact Vx e
 |k6 ob u=>obtain⟨e,_⟩:=x;exact Vx e
 |sI ps=>exact Vx (show h.get? a=some _ from x)
 |met f y=>exact Vx (show h.get? a=some _ from x)
 |ext φ=>obtain⟨_,⟨_,e⟩,_⟩:=x;exact Vx e
def Paired.uU{α β:Type}{F G:α->β->Prop}:∀{l₁:List α} {l₂:List β},Paired F l₁ l₂->(∀a b,F a b->G a b)->Paired G l₁ l₂
 |_,_,.nil,_=>.nil
 |_,_,.cons r t,f=>.cons (f _ _ r) (Paired.uU t f)
def bq.stay(x:bq P w H h a o)(k:∀b u,(b=a\/H b=some (.own a))->h.get? b=some u->h'.get? b=some u)
  (ho:∀b,H b=some (.own a)->H' b=some (.own a)) (ht:∀b xs,H b=some (.tup xs)->H' b=some (.tup xs)):bq P w H' h' a o:=by
 induction o with
 |lst xs=>obtain⟨z,its,n,r,e⟩:=x;exact⟨z,its,n,r,k _ _ (.inl rfl) e⟩
 |tup xs=>obtain⟨z,its,r,ob,e,c⟩:=x;exact⟨z,its,r,ob,k _ _ (.inl rfl) e,c⟩
 |dK kvs=>obtain⟨z,y,vs,r,ob,es,ep,e,c⟩:=x;exact⟨z,y,vs,r,ob,es,ep,k _ _ (.inl rfl) e,c⟩
 |dT kvs =>
  obtain⟨z,y,xs,r,ob,es,ep,e,c⟩:=x;exact⟨z,y,xs,Paired.uU r λp q z=>⟨z.1,ht _ _ z.2.1,z.2.2⟩,ob,es,ep,k _ _ (.inl rfl) e,c⟩
 |set S n=>obtain⟨ob,es,ep,t,e,c⟩:=x;exact⟨ob,es,ep,t,k _ _ (.inl rfl) e,c⟩
 |ins C dx fs =>
  obtain⟨d,z,ne,e,mA,⟨od,es,ep,e2,c⟩,r⟩:=x;exact⟨ho _ d,z,ne,k _ _ (.inl rfl) e,mA,⟨od,es,ep,k _ _ (.inr d) e2,c⟩,r⟩
 |own y=>obtain⟨ob,e⟩:=x;exact⟨ob,k _ _ (.inl rfl) e⟩
 |xd fs=>obtain⟨mA,⟨od,es,ep,e,c⟩,r⟩:=x;exact⟨mA,⟨od,es,ep,k _ _ (.inl rfl) e,c⟩,r⟩
 |gI lo hi=>obtain⟨t,u,v,e⟩:=x;exact⟨t,u,v,k _ _ (.inl rfl) e⟩
 |k6 ob u ih=>obtain⟨e,q⟩:=x;exact⟨k _ _ (.inl rfl) e,ih q⟩
 |sI ps =>
  have e:h.get? a=some { cls:=.none,data:=.fields ps }:=x;show h'.get? a=some { cls:=.none,data:=.fields ps };exact k a _ (.inl rfl) e
 |met f y =>
  have e:h.get? a=some (PySem.W.methodObj (.ref f) (.ref y)):=x;show h'.get? a=some (PySem.W.methodObj (.ref f) (.ref y));exact k a _ (.inl rfl) e
 |ext φ=>obtain⟨p,⟨o,e⟩,st⟩:=x;exact⟨st _ _ p λo q=>k _ _ (.inl rfl) q,⟨o,k _ _ (.inl rfl) e⟩,st⟩
def gO.lt(x:gO P w H h)(e:H a=some o):a<h.objs.size:=(x a o e).lt
def gO.fresh(x:gO P w H h)(e:h.objs.size<=a):H a=none:=by
 cases q:H a with
 |none=>rfl
 |some u=>exact absurd (VW (x.lt q) e) (WX _)
def gO.kept(x:gO P w H h)(k:∀b u,h.get? b=some u->h'.get? b=some u):gO P w H h':=λa o e =>
 (x a o e).stay (λb u _ q=>k b u q) (λ_ q=>q) λ_ _ q=>q
def gO.laid(x:gO P w H h)(k:∀b u,h.get? b=some u->h'.get? b=some u)(hp:h.objs.size<=a)(new:bq P w (upd H a o) h' a o):gO P w (upd H a o) h':=λb u e=>by
 have hn:=x.fresh hp;by_cases hb:b=a;subst hb;rw[kM]at e;cases e;exact new;rw[cL hb]at e;exact(x b u e).stay (λc v _ q=>k c v q) (λc q=>by rw[cL (uT q hn)];exact q) λc xs q=>by rw[cL (uT q hn)];exact q
end
abbrev Rd(H:Hp)(a:Addr)(u:HO):Prop:=H a=some u\/∃o,H a=some (.k6 o u)
def Rd.ok{P:Program}{w:World}{H:Hp}{h:Heap}{a:Addr}{u:HO}(r:Rd H a u)(x:gO P w H h):bq P w H h a u:=by
 rcases r with r|⟨o,r⟩
 exact x a u r;obtain⟨_,q⟩:=x a _ r;exact q
abbrev y4:Option HO->Prop
 |some (.lst _)=>True
 |some (.dK _)=>True
 |some (.dT _)=>True
 |some (.set _ _)=>True
 |some (.ins _ _ _)=>True
 |some (.ext _)=>True
 |_=>False
section
variable {P:Program}{w:World}{H:Hp}{h h':Heap}{x e:Addr}{o':HO}
def gO.write(ok:gO P w H h)(mu:y4 (H x))(he:e=x\/H e=some (.own x))(k:∀b u,b≠e->h.get? b=some u->h'.get? b=some u)(yg:∃u,h'.get? e=some u)
  (new:bq P w (upd H x o') h' x o'):gO P w (upd H x o') h':=λb u q=>by
 have y6:∀c y,H c=some (.own y)->c≠x:=λc y r z=>by subst z;rw[r]at mu;exact mu
 have Fh:∀c xs,H c=some (.tup xs)->c≠x:=λc xs r z=>by subst z;rw[r]at mu;exact mu
 by_cases hb:b=x;subst hb;rw[kM]at q;cases q;exact new;rw[cL hb]at q;by_cases uV:b=e;have q':H b=some (.own x):=by
  rcases he with z|z
  exact absurd (uV.trans z) hb;rw[uV];exact z
 rw[q]at q';cases q';obtain⟨v,hv⟩:=yg;exact⟨v,by rw[uV];exact hv⟩;refine(ok b u q).stay (λc v hc r=>k c v ?_ r) (λc r=>by rw[cL (y6 c b r)];exact r) λc xs r=>by rw[cL (Fh c xs r)];exact r
 rcases hc with rfl|hc
 exact uV;rintro rfl;rcases he with z|z
 exact y6 c b hc z;rw[hc]at z;cases z;exact hb rfl
end
structure Un(fs ex:List Addr)(H H':Hp)(h h':Heap):Prop where
 keep:∀b o,h.get? b=some o->H b=none->b ∉ fs->b ∉ ex->h'.get? b=some o
 slot:∀b o,h.get? b=some o->H b=none->b∈fs->b ∉ ex->∃sl,h'.get? b=some { o with slots:=sl }
 free:∀b o,h.get? b=some o->H b=none->b ∉ ex->H' b=none
 there:∀b o,h.get? b=some o->b ∉ ex->∃o',h'.get? b=some o'
 tups:∀b xs,H b=some (.tup xs)->H' b=some (.tup xs)
 lJ:∀b o u,H b=some (.k6 o u)->H' b=some (.k6 o u)
 mJ:∀b ps,H b=some (.sI ps)->∃more,H' b=some (.sI (ps ++ more))
section
variable {fs fs' ex ex':List Addr}{H H1 H2:Hp}{h h1 h2 h':Heap}{a x e:Addr}{o:HO}
def Un.any(u:Un fs ex H H1 h h1){b:Addr}{ob:Obj}(q:h.get? b=some ob)(n:H b=none)(hx:b ∉ ex):∃sl,h1.get? b=some { ob with slots:=sl }:=by by_cases hb:b∈fs;exact u.slot b ob q n hb hx;exact⟨ob.slots,u.keep b ob q n hb hx⟩
def Un.kept(k:∀b u,h.get? b=some u->h'.get? b=some u):Un fs ex H H h h' :=
 ⟨λb ob q _ _ _=>k b ob q,λb ob q _ _ _=>⟨ob.slots,k b ob q⟩,λ_ _ _ n _=>n,λb ob q _=>⟨ob,k b ob q⟩,λ_ _ q=>q,λ_ _ _ q=>q,λ_ ps q=>⟨#[],by rw[q];simp⟩⟩
def Un.refl:Un fs ex H H h h:=Un.kept λ_ _ q=>q
def Un.laid(k:∀b u,h.get? b=some u->h'.get? b=some u)(hp:h.objs.size<=a)(hn:H a=none):Un fs ex H (upd H a o) h h' where
 keep:=λb u q _ _ _=>k b u q
 slot:=λb u q _ _ _=>⟨u.slots,k b u q⟩
 free:=λb u q n _=>by rw[cL (VS (VW (Vx q) hp))];exact n
 there:=λb u q _=>⟨u,k b u q⟩
 tups:=λb xs q=>by rw[cL (uT q hn)];exact q
 lJ:=λb u xs q=>by rw[cL (uT q hn)];exact q
 mJ:=λb ps q=>⟨#[],by rw[cL (uT q hn),q];simp⟩
def Un.write(mu:y4 (H x))(he:e=x\/H e=some (.own x))(k:∀b u,b≠e->h.get? b=some u->h'.get? b=some u)(yg:∃u,h'.get? e=some u):Un fs ex H (upd H x o) h h':=by
 have hx:∀b,H b=none->b≠x:=λb n z=>by subst z;rw[n]at mu;exact mu
 have hb:∀b,H b=none->b≠e:=λb n z=>by
  subst z;rcases he with r|r
  exact hx b n r;rw[n]at r;cases r
 have hm:∀b u,H b=some u->¬y4 (some u)->b≠x:=λb u q nm z=>by subst z;rw[q]at mu;exact nm mu
 refine⟨λb u q n _ _=>k b u (hb b n) q,λb u q n _ _=>⟨u.slots,k b u (hb b n) q⟩,λb u q n _=>by rw[cL (hx b n)];exact n,λb u q _=>?_,
  λb xs q=>by rw[cL (hm b _ q λz=>z)];exact q,λb u xs q=>by rw[cL (hm b _ q λz=>z)];exact q,λb ps q=>⟨#[],by rw[cL (hm b _ q λz=>z),q];simp⟩⟩
 by_cases uV:b=e;subst uV;exact yg;exact⟨u,k b u uV q⟩
end
abbrev CT(h:Heap)(H:Hp):List Addr:=(List.range h.objs.size).filter λa=>(H a).isSome
abbrev lK(h:Heap)(H:Hp):Heap:=PySem.W.hideAll h (CT h H)
def MJ(h:Heap)(H:Hp):(lK h H).objs.size=h.objs.size:=PySem.W.hideAll_size _ _
def MK{h:Heap}{H:Hp}{b:Addr}{o:Obj}(e:h.get? b=some o)(n:H b=none):(lK h H).get? b=some o :=
 PySem.W.hideAll_get _ e λhm=>by
  have q:(H b).isSome=true:=(WD.mp hm).2;rw[n]at q;simp at q
def ML{h:Heap}{H:Hp}{b:Addr}{o:Obj}(e:(lK h H).get? b=some o):h.get? b=some o/\H b=none:=by
 have e':h.get? b=some o:=PySem.W.of_hideAll (CT h H) e;refine⟨e',?_⟩;cases q:H b with
 |none=>rfl
 |some x =>
  have hm:b∈CT h H:=WD.mpr ⟨Wq.mpr (Vx e'),by simp[q]⟩;have z:(lK h H).get? b=none:=PySem.W.hideAll_none (CT h H) hm;rw[z]at e;cases e
abbrev rD(g h:Heap)(L:Addr):List (Addr×Obj):=(List.range h.objs.size).filterMap λa=>if a=L\/(g.get? a).isSome=true then none else(h.get? a).map λo=>(a,o)
abbrev rest(g h:Heap)(L d:Addr):List (Addr×Obj):=(rD g h L).filter λp=>decide (p.1≠d)
structure Mod(K:Zfr)(mg:Str->Option Value)(base:Heap):Prop where
 y8:K.In base
 glob:base.Ns mainGlobals mg
 blt:∃mb,base.Ns builtinsNs mb/\∀x:Str,x≠"__name__" -> mb x=bootBuiltins x
 nolimit:base.NoLimit
set_option genInjectivity false in
structure Cx where
 prog:Program
 w:World
 K:Zfr
 mg:Str->Option Value
 base:Heap
 A:Around
 N:List Str
 s₀:Shared
 H₀:Hp
 env:Env
 outer:List Env
 stack:List Env
 ex:List Addr
 fn:Str->Bool
 calm:Bool
 pn:List (Addr×Obj)
 xe:Value->Shared->Prop
abbrev frs(l:List Env):List Addr:=l.filterMap (·.frame)
@[reducible]def Cx.fs(X:Cx):List Addr:=frs X.outer
abbrev Fi(sc:Scope)(x:Str):Prop:=sc.names.lookup x=some .local\/sc.names.lookup x=some .cell\/sc.names.lookup x=some .free
abbrev Loc(sc:Scope)(x:Str):Prop:=sc.names.lookup x=some .local\/sc.names.lookup x=some .cell
abbrev Look(env:Env)(h:Heap)(m:Str->Option Value)(x:Str)(u:Value):Prop :=
 (env.kindOf x=some .local/\m x=some u)\/((env.kindOf x=some .cell\/env.kindOf x=some .free)/\∃c,env.cells.lookup x=some c/\h.IsCell c (some u))
structure Cx.Ok(X:Cx):Prop where
 mod:Mod X.K X.mg X.base
 kind:X.env.scope.kind=.function
 glob:X.env.globals=mainGlobals
 blt:X.env.builtins=builtinsNs
 above:X.s₀.heap.objs.size<=X.env.locals
 inj:∀x y c,X.env.cells.lookup x=some c->X.env.cells.lookup y=some c->x=y
 has:∀x,(X.env.kindOf x=some .cell\/X.env.kindOf x=some .free)->∃c,X.env.cells.lookup x=some c
 sJ:∀x c,X.fn x=true->X.env.cells.lookup x=some c->X.s₀.heap.objs.size<=c
 hd:X.calm=true->X.A.handled=none
 frames:X.A.frames=some X.stack
 stk:X.stack=X.outer\/(X.stack=X.env :: X.outer/\X.env.frame=some X.env.locals)
 y9:∀b∈X.ex,b≠X.env.locals/\∀x c,X.env.cells.lookup x=some c->c≠b
 bs:∀b o,X.base.get? b=some o->X.s₀.heap.get? b=some o/\X.H₀ b=none
 pz:X.base.objs.size<=X.s₀.heap.objs.size
 mK:∀b o,X.base.get? b=some o->b ∉ X.ex
 nD:∀b∈X.ex,b ∉ X.fs
 iQ:X.s₀.heap.FunFrames X.base X.outer
 qX:∀b∈X.fs,X.H₀ b=none
structure Inv(X:Cx)(pins:List (Addr×Obj))(σ:List (Option V))(H:Hp)(s:Shared):Prop where
 ok:X.Ok
 os:s.os=X.s₀.os
 bare:AllBare s.gens
 base:Un X.fs X.ex X.H₀ H X.s₀.heap s.heap
 loc:∃m,s.heap.Ns X.env.locals m/\∀(i:Nat) (x:Str) (v:V),X.N[i]?=some x->σ[i]?=some (some v)->Fi X.env.scope x->∃u,RelV v u/\Look X.env s.heap m x u
 cell:∀x c,X.env.cells.lookup x=some c->∃v,s.heap.IsCell c v
 free:H X.env.locals=none
 eM:∀x c,X.env.cells.lookup x=some c->H c=none
 pin:∀p∈X.pn ++ pins,s.heap.get? p.1=some p.2/\H p.1=none/\p.1≠X.env.locals/\p.1 ∉ X.fs/\∀v,p.2.data≠.cell v
 hok:gO X.prog X.w H s.heap
 len:σ.length=X.N.length
section
variable {X:Cx}{pins:List (Addr×Obj)}{σ:List (Option V)}{H H':Hp}{s:Shared}{h':Heap}
def Cx.Ok.Fj(ok:X.Ok){b:Addr}{o:Obj}(e:X.base.get? b=some o):b ∉ X.fs:=λhb=>by
 have:=(ok.iQ.mem hb).1;rw[e]at this;cases this
def Inv.bs(I:Inv X pins σ H s):∀b o,X.base.get? b=some o->s.heap.get? b=some o/\H b=none:=λb o e =>
 ⟨I.base.keep b o (I.ok.bs b o e).1 (I.ok.bs b o e).2 (I.ok.Fj e) (I.ok.mK b o e),I.base.free b o (I.ok.bs b o e).1 (I.ok.bs b o e).2 (I.ok.mK b o e)⟩
def Inv.bk(I:Inv X pins σ H s):∀b o,X.base.get? b=some o->s.heap.get? b=some o:=λb o e=>(I.bs b o e).1
def Inv.mod(I:Inv X pins σ H s):Mod X.K X.mg X.base:=I.ok.mod
def Inv.og(I:Inv X pins σ H s):X.K.In s.heap:=I.ok.mod.y8.keeps I.bk
def Inv.lt(I:Inv X pins σ H s):X.env.locals<s.heap.objs.size:=let ⟨_,hn,_⟩:=I.loc;hn.lt
def Inv.sz(I:Inv X pins σ H s):X.s₀.heap.objs.size<=s.heap.objs.size:=VH I.ok.above (Wg I.lt)
def Inv.za(I:Inv X pins σ H s){a:Addr}(h:s.heap.objs.size<=a):a ∉ X.fs:=λhb=>by
 obtain⟨_,o,ho,_⟩:=I.ok.iQ.mem hb;exact absurd (VW (Vx ho) (VH I.sz h)) (WX _)
def Inv.uW(I:Inv X pins σ H s):∀x c,X.env.cells.lookup x=some c->c≠X.env.locals:=λx c e z=>by
 obtain⟨v,o,ho,hd⟩:=I.cell x c e;obtain⟨m,⟨o',es,ep,ho',hd',_⟩,_⟩:=I.loc;rw[z,ho']at ho;cases ho;rw[hd']at hd;cases hd
def Inv.iQ(I:Inv X pins σ H s):s.heap.FunFrames X.base X.outer:=by
 have all:∀(l:List Env),(∀b∈frs l,b∈X.fs)->X.s₀.heap.FunFrames X.base l->s.heap.FunFrames X.base l:=by
  intro l
  induction l with
  |nil=>intro _ _;trivial
  |cons env r ih =>
   intro hs hl;obtain⟨hk,⟨L,o,hf,hn,ho,hd⟩,hr⟩:=hl;have hL:L∈X.fs:=hs L (by unfold frs;rw[Xy,hf];exact Vw);obtain⟨sl,e⟩:=I.base.slot L o ho (I.ok.qX L hL) hL λz=>I.ok.nD L z hL;exact⟨hk,⟨L,_,hf,hn,e,hd⟩,ih (λb hb=>hs b (by unfold frs;rw[Xy,hf];exact VA _ hb)) hr⟩
 exact all X.outer (λ_ hb=>hb) I.ok.iQ
def Inv.stack(I:Inv X pins σ H s):s.heap.FunFrames X.base X.stack:=by
 rcases I.ok.stk with e|⟨e,hf⟩
 rw[e];exact I.iQ;rw[e];obtain⟨m,hn,_⟩:=I.loc;refine .cons (by rw[I.ok.kind];decide) hf hn ?_ I.iQ;exact Xt (VH I.ok.pz I.ok.above)
def Inv.kg(I:Inv X pins σ H s):∀b∈frs X.stack,b∈X.env.locals :: X.fs:=λb hb=>by
 rcases I.ok.stk with e|⟨e,hf⟩
 rw[e]at hb;exact VA _ hb;rw[e]at hb;unfold frs at hb;rw[Xy,hf]at hb;exact hb
def Inv.lL(I:Inv X pins σ H s):∀b∈frs X.stack,H b=none:=λb hb=>by
 rcases VJ.mp (I.kg b hb)with e|hb
 rw[e];exact I.free;obtain⟨_,o,ho,_⟩:=I.ok.iQ.mem hb;exact I.base.free b o ho (I.ok.qX b hb) λz=>I.ok.nD b z hb
def Inv.step{g':Array GenState}{t':Nat}{d':Drawn}{ch:List Addr}(I:Inv X pins σ H s)
  (hch:∀b∈ch,(b∈X.ex\/X.s₀.heap.objs.size<=b)/\b≠X.env.locals/\(∀x c,X.env.cells.lookup x=some c->c≠b)/\∀p∈X.pn ++ pins,p.1≠b)
  (keep:∀b o,b≠X.env.locals->b ∉ X.fs->b ∉ ch->s.heap.get? b=some o->H b=none->h'.get? b=some o)
  (slot:∀b o,b≠X.env.locals->b∈X.fs->b ∉ ch->s.heap.get? b=some o->H b=none->∃sl,h'.get? b=some { o with slots:=sl }) (free:∀b o,b ∉ ch->s.heap.get? b=some o->H b=none->H' b=none)
  (there:∀b o,b ∉ ch->s.heap.get? b=some o->∃o',h'.get? b=some o')
  (tups:∀b xs,H b=some (.tup xs)->H' b=some (.tup xs)) (lJ:∀b o u,H b=some (.k6 o u)->H' b=some (.k6 o u)) (mJ:∀b ps,H b=some (.sI ps)->∃more,H' b=some (.sI (ps ++ more)))
  (ns:∀m,s.heap.Ns X.env.locals m->h'.Ns X.env.locals m) (hok:gO X.prog X.w H' h') (hg:AllBare g') :
  Inv X pins σ H' { s with heap:=h',gens:=g',drawn:=d',toks:=t' }:=by
 have uX:∀b o,X.s₀.heap.get? b=some o->b≠X.env.locals:=λb o e=>VS (VW (Vx e) I.ok.above);have CU:∀b o,X.s₀.heap.get? b=some o->b ∉ X.ex->b ∉ ch:=λb o e hx hb=>by
  rcases(hch b hb).1 with z|z
  exact hx z;exact absurd (VW (Vx e) z) (WX _)
 have cellK:∀x c,X.env.cells.lookup x=some c->∀v,s.heap.IsCell c v->h'.IsCell c v:=λx c e v ⟨o,ho,hd⟩=>by
  have zb:c ∉ ch:=λz=>(hch c z).2.2.1 x c e rfl;by_cases hc:c∈X.fs;obtain⟨sl,q⟩:=slot c o (I.uW x c e) hc zb ho (I.eM x c e);exact⟨_,q,hd⟩;exact⟨o,keep c o (I.uW x c e) hc zb ho (I.eM x c e),hd⟩
 refine⟨I.ok,I.os,hg,⟨λb o e n hb hx=>?_,λb o e n hb hx=>?_,λb o e n hx=>?_,λb o e hx=>?_,λb xs e=>tups b xs (I.base.tups b xs e),λb o xs e=>lJ b o xs (I.base.lJ b o xs e),λb ps e=>?_⟩,?_,λx c e=>?_,?_,λx c e=>?_,λp hp=>?_,hok,I.len⟩;exact keep b o (uX b o e) hb (CU b o e hx) (I.base.keep b o e n hb hx) (I.base.free b o e n hx);obtain⟨sl,e1⟩:=I.base.slot b o e n hb hx;obtain⟨MN,e2⟩:=slot b _ (uX b o e) hb (CU b o e hx) e1 (I.base.free b o e n hx);exact⟨MN,e2⟩;obtain⟨o',e1⟩:=I.base.there b o e hx;exact free b o' (CU b o e hx) e1 (I.base.free b o e n hx);obtain⟨o',e1⟩:=I.base.there b o e hx;exact there b o' (CU b o e hx) e1;obtain⟨m1,e1⟩:=I.base.mJ b ps e;obtain⟨m2,e2⟩:=mJ b _ e1;exact⟨m1 ++ m2,by rw[e2,Array.append_assoc]⟩;obtain⟨m,hn,hl⟩:=I.loc;refine⟨m,ns m hn,λi x v e1 e2 e3=>?_⟩;obtain⟨u,r,l⟩:=hl i x v e1 e2 e3;refine⟨u,r,?_⟩;rcases l with l|⟨k,c,e,z⟩
 exact .inl l;exact .inr ⟨k,c,e,cellK x c e _ z⟩;obtain⟨v,z⟩:=I.cell x c e;exact⟨v,cellK x c e v z⟩;obtain⟨m,⟨o,_,_,ho,_⟩,_⟩:=I.loc;exact free _ o (λz=>(hch _ z).2.1 rfl) ho I.free;obtain⟨v,o,ho,hd⟩:=I.cell x c e;exact free c o (λz=>(hch c z).2.2.1 x c e rfl) ho (I.eM x c e);obtain⟨e,n,ne,nf,d⟩:=I.pin p hp;have zb:p.1 ∉ ch:=λz=>(hch p.1 z).2.2.2 p hp rfl;exact⟨keep p.1 p.2 ne nf zb e n,free p.1 p.2 zb e n,ne,nf,d⟩
def Inv.un{t':Nat}(I:Inv X pins σ H s)(u:Un X.fs [] H H' s.heap h')(hok:gO X.prog X.w H' h'):Inv X pins σ H' { s with heap:=h',toks:=t' }:=by
 obtain⟨m,⟨o,es,ep,ho,r⟩,_⟩:=id I.loc;obtain⟨sl,hL⟩:=u.any ho I.free (by simp)
 exact I.step (g':=s.gens) (d':=s.drawn) (ch:=[]) (λ_ z=>nomatch z) (λb o _ hb _ e n=>u.keep b o e n hb (by simp)) (λb o _ hb _ e n=>u.slot b o e n hb (by simp)) (λb o _ e n=>u.free b o e n (by simp)) (λb o _ e=>u.there b o e (by simp)) u.tups u.lJ u.mJ (λm' hm=>by
  obtain⟨o',es',Fm,ho',r'⟩:=hm;rw[ho]at ho';cases ho'
  exact⟨_,es',Fm,hL,r'⟩) hok I.bare
def Inv.call{g':Array GenState}{t':Nat}{d':Drawn}{ch:List Addr}(I:Inv X pins σ H s)(u:Un (frs X.stack) ch H H' s.heap h')(hok:gO X.prog X.w H' h')(hg:AllBare g')
  (hch:∀b∈ch,(b∈X.ex\/X.s₀.heap.objs.size<=b)/\b≠X.env.locals/\(∀x c,X.env.cells.lookup x=some c->c≠b)/\∀p∈X.pn ++ pins,p.1≠b) :
  Inv X pins σ H' { s with heap:=h',gens:=g',drawn:=d',toks:=t' }:=by
 obtain⟨m,⟨o,es,ep,ho,r⟩,_⟩:=id I.loc;obtain⟨sl,hL⟩:=u.any ho I.free λz=>(hch _ z).2.1 rfl
 exact I.step (ch:=ch) hch (λb o hL hb hc e n=>u.keep b o e n (λz=>(VJ.mp (I.kg b z)).elim hL hb) hc) (λb o _ _ hc e n=>u.any e n hc) (λb o hc e n=>u.free b o e n hc) (λb o hc e=>u.there b o e hc) u.tups u.lJ u.mJ (λm' hm=>by
  obtain⟨o',es',Fm,ho',r'⟩:=hm;rw[ho]at ho';cases ho'
  exact⟨_,es',Fm,hL,r'⟩) hok hg
def Inv.turned{t':Nat}{it:Addr}(I:Inv X pins σ H s)(k:∀b o,b≠it->s.heap.get? b=some o->h'.get? b=some o)(hn:H it=none)(hL:it≠X.env.locals)
  (h1:it∈X.ex\/X.s₀.heap.objs.size<=it) (h2:∀x c,X.env.cells.lookup x=some c->c≠it) (h3:∀p∈X.pn ++ pins,p.1≠it):Inv X pins σ H { s with heap:=h',toks:=t' }:=by
 have zc:∀b u,H b=some u->b≠it:=λb u e z=>by rw[z,hn]at e;cases e
 refine I.step (g':=s.gens) (d':=s.drawn) (ch:=[it]) (λb hb=>?_) (λb o _ _ hc e _=>k b o (λz=>hc (by simp[z])) e) (λb o _ _ hc e _=>⟨o.slots,k b o (λz=>hc (by simp[z])) e⟩) (λ_ _ _ _ n=>n)
  (λb o hc e=>⟨o,k b o (λz=>hc (by simp[z])) e⟩) (λ_ _ e=>e) (λ_ _ _ e=>e) (λb ps e=>⟨#[],by rw[e];simp⟩) (λm hm=>?_) (λb u e=>?_) I.bare
 have e:b=it:=by simpa using hb
 subst e;exact⟨h1,hL,h2,h3⟩;obtain⟨o,es,ep,ho,r⟩:=hm;exact⟨o,es,ep,k _ o (Ne.symm hL) ho,r⟩;refine(I.hok b u e).stay (λc v hc q=>k c v ?_ q) (λ_ q=>q) λ_ _ q=>q;rcases hc with z|z
 rw[z];exact zc b u e;exact zc c _ z
def Inv.tok(I:Inv X pins σ H s)(t:Nat):Inv X pins σ H { s with toks:=t }:=I.un (h':=s.heap) (t':=t) Un.refl I.hok
def Inv.kept{t':Nat}(I:Inv X pins σ H s)(k:∀b u,s.heap.get? b=some u->h'.get? b=some u):Inv X pins σ H { s with heap:=h',toks:=t' }:=I.un (Un.kept k) (I.hok.kept k)
def Inv.laid{a:Addr}{o:HO}{t':Nat}(I:Inv X pins σ H s)(k:∀b u,s.heap.get? b=some u->h'.get? b=some u)(hp:s.heap.objs.size<=a)(new:bq X.prog X.w (upd H a o) h' a o):
  Inv X pins σ (upd H a o) { s with heap:=h',toks:=t' }:=I.un (Un.laid k hp (I.hok.fresh hp)) (I.hok.laid k hp new)
def Inv.write{x e:Addr}{o:HO}{t':Nat}(I:Inv X pins σ H s)(mu:y4 (H x))(he:e=x\/H e=some (.own x))(k:∀b u,b≠e->s.heap.get? b=some u->h'.get? b=some u)(yg:∃u,h'.get? e=some u)
  (new:bq X.prog X.w (upd H x o) h' x o):Inv X pins σ (upd H x o) { s with heap:=h',toks:=t' }:=I.un (Un.write mu he k yg) (I.hok.write mu he k yg new)
def Inv.j3{jP:List (Addr×Obj)}(I:Inv X pins σ H s)(h:∀p∈jP,s.heap.get? p.1=some p.2/\H p.1=none/\p.1≠X.env.locals/\p.1 ∉ X.fs/\∀v,p.2.data≠.cell v):Inv X jP σ H s :=
 ⟨I.ok,I.os,I.bare,I.base,I.loc,I.cell,I.free,I.eM,λp hp=>(VQ.mp hp).elim (λz=>I.pin p (V1 _ z)) (h p),I.hok,I.len⟩
def Io{N:List Str}(hN:N.Nodup){i j:Nat}{x:Str}(a:N[i]?=some x)(b:N[j]?=some x):i=j:=by obtain⟨h1,e1⟩:=Vm.mp a;obtain⟨h2,e2⟩:=Vm.mp b;exact(XQ hN).mp (e1.trans e2.symm)
def Ip{M:Model}{A:Around}{E:Value->Shared->Prop}{i:Nat}{x:Str}{v:V}{u:Value}{Q:Unit->Shared->Prop}(I:Inv X pins σ H s)(hN:X.N.Nodup)(hi:X.N[i]?=some x)(hx:Loc X.env.scope x)(r:RelV v u)
  (h:∀s',Inv X pins (σ.set i (some v)) H s'->(∃a,Heap.SameBut a s.heap s'.heap/\(a=X.env.locals\/X.env.cells.lookup x=some a))->Q () s') (hf:X.fn x=true\/X.env.scope.names.lookup x=some .local:=by first|exact .inl rfl|exact .inr rfl|assumption):wpAny M A (storeName X.env x u) Q E s:=by
 obtain⟨m,hn,hl⟩:=id I.loc;have hcls:(X.env.scope.kind == .class || (X.env.scope.kind == .module && X.env.locals != X.env.globals))=false:=by rw[I.ok.kind];rfl
 have hiσ:i<σ.length:=by rw[I.len];exact(Vm.mp hi).1
 have uW:=I.uW;have tracked:∀{a:Addr} {h':Heap},(∃o,s.heap.get? a=some o/\H a=none)->Heap.SameBut a s.heap h'->gO X.prog X.w H h':=λ{a h'} ha hs b ob e=>by
  obtain⟨_,_,hfree⟩:=ha;refine(I.hok b ob e).stay (λc w' hc q=>(hs.2 c ?_).trans q) (λ_ q=>q) λ_ _ q=>q;rintro rfl;rcases hc with rfl|hc
  rw[hfree]at e;cases e;rw[hfree]at hc;cases hc
 rcases hx with hk|hk
 refine wpAny_storeName_local hk hn (λh' hn' hs=>?_) hcls;obtain⟨oL,_,_,pL,_⟩:=id hn;refine h _ ⟨I.ok,I.os,I.bare,⟨λb o e n hb hx=>?_,λb o e n hb hx=>?_,I.base.free,λb o e hx=>?_,I.base.tups,I.base.lJ,I.base.mJ⟩,⟨_,hn',λj y v' e1 e2 e3=>?_⟩,λy c e=>?_,I.free,I.eM,λp hp=>?_,tracked ⟨oL,pL,I.free⟩ hs,by simpa using I.len⟩ ⟨_,hs,.inl rfl⟩;exact(hs.2 b (VS (VW (Vx e) I.ok.above))).trans (I.base.keep b o e n hb hx);obtain⟨sl,e1⟩:=I.base.slot b o e n hb hx;exact⟨sl,(hs.2 b (VS (VW (Vx e) I.ok.above))).trans e1⟩;obtain⟨o',e1⟩:=I.base.there b o e hx;exact⟨o',(hs.2 b (VS (VW (Vx e) I.ok.above))).trans e1⟩;by_cases hj:j=i;subst hj;rw[hi]at e1;cases e1;rw[VD hiσ]at e2;cases e2;exact⟨u,r,.inl ⟨hk,by simp⟩⟩;rw[VI (Ne.symm hj)]at e2;obtain⟨u',r',q⟩:=hl j y v' e1 e2 e3;refine⟨u',r',?_⟩;rcases q with⟨k,e⟩|⟨k,c,e,z⟩
 refine .inl ⟨k,?_⟩
 have:y≠x:=λe=>hj (Io hN e1 (e ▸ hi));simp[this,e]
 exact .inr ⟨k,c,e,z.sameBut hs (uW y c e)⟩;obtain⟨w',z⟩:=I.cell y c e;exact⟨w',z.sameBut hs (uW y c e)⟩;obtain⟨e,n,ne,nf,d⟩:=I.pin p hp;exact⟨(hs.2 p.1 ne).trans e,n,ne,nf,d⟩;have hfn:X.fn x=true:=by
  rcases hf with z|z
  exact z;rw[z]at hk;cases hk
 obtain⟨c,hc⟩:=I.ok.has x (.inl hk);obtain⟨w',z⟩:=I.cell x c hc;refine wpAny_storeName_cell I.ok.kind hk hc z (λh' hc' hs=>?_);obtain⟨oc,hoc,Fn⟩:=id z;refine h { s with heap:=h' } ⟨I.ok,I.os,I.bare,⟨λb o e n hb hx=>?_,λb o e n hb hx=>?_,I.base.free,λb o e hx=>?_,I.base.tups,I.base.lJ,I.base.mJ⟩,⟨m,hn.sameBut hs (Ne.symm (uW x c hc)),λj y v' e1 e2 e3=>?_⟩,λy c' e=>?_,I.free,I.eM,λp hp=>?_,tracked ⟨oc,hoc,I.eM x c hc⟩ hs,by simpa using I.len⟩ ⟨c,hs,.inr hc⟩;exact(hs.2 b (VS (VW (Vx e) (I.ok.sJ x c hfn hc)))).trans (I.base.keep b o e n hb hx);obtain⟨sl,e1⟩:=I.base.slot b o e n hb hx;exact⟨sl,(hs.2 b (VS (VW (Vx e) (I.ok.sJ x c hfn hc)))).trans e1⟩;obtain⟨o',e1⟩:=I.base.there b o e hx;exact⟨o',(hs.2 b (VS (VW (Vx e) (I.ok.sJ x c hfn hc)))).trans e1⟩;by_cases hj:j=i;subst hj;rw[hi]at e1;cases e1;rw[VD hiσ]at e2;cases e2;exact⟨u,r,.inr ⟨.inl hk,c,hc,hc'⟩⟩;rw[VI (Ne.symm hj)]at e2;obtain⟨u',r',q⟩:=hl j y v' e1 e2 e3;refine⟨u',r',?_⟩;rcases q with q|⟨k,c',e,z'⟩
 exact .inl q;refine .inr ⟨k,c',e,z'.sameBut hs ?_⟩;rintro rfl;exact hj (Io hN e1 (I.ok.inj _ _ _ e hc ▸ hi));by_cases hcc:c'=c;subst hcc;exact⟨_,hc'⟩;obtain⟨w2,z2⟩:=I.cell y c' e;exact⟨w2,z2.sameBut hs hcc⟩;obtain⟨e,n,ne,nf,d⟩:=I.pin p hp;refine⟨(hs.2 p.1 ?_).trans e,n,ne,nf,d⟩;intro q;rw[q,hoc]at e;have q':oc=p.2:=Vu e;exact d w' (by rw[<- q'];exact Fn)
def CV{M:Model}{A:Around}{E:Value->Shared->Prop}{i:Nat}{x:Str}{v:V}{u:Value}{Q:Unit->Shared->Prop}(I:Inv X pins σ H s)(hN:X.N.Nodup)(hi:X.N[i]?=some x)(hx:Loc X.env.scope x)(r:RelV v u)
  (h:∀s',Inv X pins (σ.set i (some v)) H s'->Q () s') (hf:X.fn x=true\/X.env.scope.names.lookup x=some .local:=by first|exact .inl rfl|exact .inr rfl|assumption):wpAny M A (storeName X.env x u) Q E s :=
 Ip I hN hi hx r (λs' I' _=>h s' I') hf
def Inv.sL{s':Shared}{ch:List Addr}(I:Inv X pins σ H s)(ho:s'.os=s.os)(u:Un (frs X.stack) ch H H' s.heap s'.heap)(hok:gO X.prog X.w H' s'.heap)(hg:AllBare s'.gens)
  (hch:∀b∈ch,(b∈X.ex\/X.s₀.heap.objs.size<=b)/\b≠X.env.locals/\(∀x c,X.env.cells.lookup x=some c->c≠b)/\∀p∈X.pn ++ pins,p.1≠b):Inv X pins σ H' s':=by
 obtain⟨h',g',d',t',o'⟩:=s';have e:o'=s.os:=ho;subst e;exact I.call (g':=g') (t':=t') (d':=d') u hok hg hch
end
@[reducible]def XK:=Value->Option Addr->Hp->Prop
@[reducible]def St:=List (Option V)
@[reducible]def VK:=V->Hp->Prop
@[reducible]def TE:=St->Hp->VK->Prop
@[reducible]def TT:=St->Hp->(Bool->Hp->Prop)->Prop
@[reducible]def TA:=St->Hp->(List V->Hp->Prop)->Prop
set_option genInjectivity false in
structure Ends where
 nx:St->Hp->Prop
 rt:VK
 bk:St->Hp->Prop:=λ_ _=>False
 ct:St->Hp->Prop:=λ_ _=>False
@[reducible]def TS:=Ends->St->Hp->Prop
abbrev EP(X:Cx)(pins:List (Addr×Obj))(σ:St)(Q:VK)(u:Value)(s':Shared):Prop:=∃v H',Inv X pins σ H' s'/\RelV v u/\Q v H'
abbrev TP(X:Cx)(pins:List (Addr×Obj))(σ:St)(Q:Bool->Hp->Prop)(b:Bool)(s':Shared):Prop:=∃H',Inv X pins σ H' s'/\Q b H'
abbrev AP(X:Cx)(pins:List (Addr×Obj))(σ:St)(Q:List V->Hp->Prop)(us:List Value)(s':Shared):Prop:=∃vs H',Inv X pins σ H' s'/\Vals vs us/\Q vs H'
abbrev SP(X:Cx)(pins:List (Addr×Obj))(D:Ends)(f:Flow)(s':Shared):Prop :=
 match f with
 |.next=>∃σ' H',Inv X pins σ' H' s'/\D.nx σ' H'
 |.brk=>∃σ' H',Inv X pins σ' H' s'/\D.bk σ' H'
 |.cont=>∃σ' H',Inv X pins σ' H' s'/\D.ct σ' H'
 |.ret u=>∃v σ' H',Inv X pins σ' H' s'/\RelV v u/\D.rt v H'
abbrev PE(X:Cx)(e:Expr)(t:TE):Prop :=
 ∀(pins:List (Addr×Obj)) (s:Shared) (σ:St) (H:Hp) (Q:VK),Inv X pins σ H s->t σ H Q->wpAny (model X.prog X.w) X.A (eval e X.env) (EP X pins σ Q) X.xe s
abbrev PT(X:Cx)(e:Expr)(t:TT):Prop :=
 ∀(pins:List (Addr×Obj)) (s:Shared) (σ:St) (H:Hp) (Q:Bool->Hp->Prop),Inv X pins σ H s->t σ H Q->wpAny (model X.prog X.w) X.A (isTrue e X.env (eval e X.env)) (TP X pins σ Q) X.xe s
abbrev PW(X:Cx)(e:Expr)(t:TT):Prop :=
 ∀(whole:Sem Value) (pins:List (Addr×Obj)) (s:Shared) (σ:St) (H:Hp) (Q:Bool->Hp->Prop),Inv X pins σ H s->t σ H Q->wpAny (model X.prog X.w) X.A (isTrue e X.env whole) (TP X pins σ Q) X.xe s
def PW.pt{X:Cx}{e:Expr}{t:TT}(h:PW X e t):PT X e t:=h _
abbrev PA(X:Cx)(es:List Expr)(t:TA):Prop :=
 ∀(pos:Pos) (pins:List (Addr×Obj)) (s:Shared) (σ:St) (H:Hp) (Q:List V->Hp->Prop),Inv X pins σ H s->t σ H Q->wpAny (model X.prog X.w) X.A (spliced (backTo pos (starEach es X.env))) (AP X pins σ Q) X.xe s
abbrev PS(X:Cx)(st:Stmt)(t:TS):Prop :=
 ∀(pins:List (Addr×Obj)) (s:Shared) (σ:St) (H:Hp) (D:Ends),Inv X pins σ H s->t D σ H->wpAny (model X.prog X.w) X.A (exec st X.env) (SP X pins D) X.xe s
abbrev ny(X:Cx)(st:List Stmt)(t:TS):Prop :=
 ∀(pins:List (Addr×Obj)) (s:Shared) (σ:St) (H:Hp) (D:Ends),Inv X pins σ H s->t D σ H->wpAny (model X.prog X.w) X.A (execs st X.env) (SP X pins D) X.xe s
def bM{α:Type}{t:Sem α}{Q Q':α->Shared->Prop}{M:Model}{A:Around}{E:Value->Shared->Prop}{s:Shared}(h:wpAny M A t Q E s)(hQ:∀a s,Q a s->Q' a s):wpAny M A t Q' E s:=wpAny_mono h hQ λ_ _ x=>x
section
variable {X:Cx}
abbrev pM(i:Nat):TE:=λσ H Q=>∃v,σ[i]?=some (some v)/\Q v H
abbrev tC(v:V):TE:=λ_ H Q=>Q v H
def uY{i:Nat}{x:Str}{pos:Pos}(hN:X.N[i]?=some x)(hv:Fi X.env.scope x)(hd:(x == ("__debug__" : Str))=false:=by decide)(hcd:(x == ("__classdict__" : Str))=false:=by decide):PE X (.Name x pos) (pM i):=by
 intro pins s σ H Q I h;obtain⟨v,e,h⟩:=h;obtain⟨m,hn,hl⟩:=I.loc;obtain⟨u,r,l⟩:=hl i x v hN e hv;have fin:EP X pins σ Q u s:=⟨v,H,I,r,h⟩;rcases l with⟨hk,hm⟩|⟨hk,c,hc,hcell⟩
 exact wpAny_Name (wpAny_loadName_local I.ok.kind hk hn hm fin) hd;rcases hk with hk|hk
 exact wpAny_Name (wpAny_loadName_cell I.ok.kind hk hc hcell fin) hd;exact wpAny_Name (wpAny_loadName_free I.ok.kind hk hc hcell fin hcd) hd
def aX{i j pos}:PE X (.Constant (.int i) j pos) (tC (.int i)):=λ_ _ _ H _ I h=>wpAny_Constant_int ⟨.int i,H,I.tok _,⟨_,rfl⟩,h⟩
def Fp{b j pos}:PE X (.Constant (.bool b) j pos) (tC (.bl b)):=λ_ _ _ H _ I h=>Constant_bool ⟨.bl b,H,I,rfl,h⟩
def Fq{j pos}:PE X (.Constant .none j pos) (tC .non):=λ_ _ _ H _ I h=>Constant_none ⟨.non,H,I,rfl,h⟩
def Iq{x j pos}:PE X (.Constant (.str x) j pos) (tC (.str x)):=λ_ _ _ H _ I h=>Calls.Constant_str ⟨.str x,H,I.tok _,⟨_,rfl⟩,h⟩
abbrev Gl(X:Cx)(x:Str):Prop:=X.env.kindOf x=some .globalImplicit
def zd{E:Value->Shared->Prop}{pins:List (Addr×Obj)}{s:Shared}{σ:St}{H:Hp}{x:Str}{u:Value}{pos:Pos}{Q:Value->Shared->Prop}(I:Inv X pins σ H s)(hg:Gl X x)(hm:X.mg x=some u)(h:Q u s)
  (hd:(x == ("__debug__" : Str))=false:=by decide):wpAny (model X.prog X.w) X.A (eval (.Name x pos) X.env) Q E s :=
 Calls.Name_function_global I.ok.kind hg (Calls.loadGlobal_global (by rw[I.ok.glob];exact I.mod.glob.keeps I.bk) hm h) hd
def yh{E:Value->Shared->Prop}{pins:List (Addr×Obj)}{s:Shared}{σ:St}{H:Hp}{x:Str}{u:Value}{pos:Pos}{Q:Value->Shared->Prop}(I:Inv X pins σ H s)(hg:Gl X x)(hm:X.mg x=none)(hv:bootBuiltins x=some u)(h:Q u s)
  (hn:x≠"__name__" := by decide) (hd:(x == ("__debug__" : Str))=false:=by decide):wpAny (model X.prog X.w) X.A (eval (.Name x pos) X.env) Q E s:=by
 obtain⟨mb,h1,h2⟩:=I.mod.blt;exact Calls.Name_function_global I.ok.kind hg (Calls.loadGlobal_builtin (by rw[I.ok.glob];exact I.mod.glob.keeps I.bk) hm (by rw[I.ok.blt];exact h1.keeps I.bk) ((h2 x hn).trans hv) h) hd
def MO{x:Str}{v:V}{u:Value}{pos:Pos}(hg:Gl X x)(hm:X.mg x=some u)(r:RelV v u)(hd:(x == ("__debug__" : Str))=false:=by decide):PE X (.Name x pos) (tC v) :=
 λ_ _ _ H _ I h=>zd I hg hm ⟨v,H,I,r,h⟩ hd
variable {a b:Expr}{ta tb:TE}{pos:Pos}
abbrev PC(X:Cx)(op:CmpOp)(a b:Expr)(t:TE):Prop :=
 ∀(pins:List (Addr×Obj)) (s:Shared) (σ:St) (H:Hp) (Q:VK),Inv X pins σ H s->t σ H Q ->
  wpAny (model X.prog X.w) X.A (eval a X.env) (λv s₁=>wpAny (model X.prog X.w) X.A (eval b X.env) (λu s₂=>wpAny (model X.prog X.w) X.A (compareOp op v u) (EP X pins σ Q) X.xe s₂) X.xe s₁) X.xe s
def pN(b:Expr){op:CmpOp}(h:op≠.In)(h2:op≠.NotIn):behindInMarks op b=false:=by
 have e1:(op == CmpOp.In)=false:=by cases op<;>first|rfl|exact absurd rfl h
 have e2:(op == CmpOp.NotIn)=false:=by cases op<;>first|rfl|exact absurd rfl h2
 cases b<;>simp[behindInMarks,e1,e2]
abbrev tB(t:TE):TT:=λσ H Q=>t σ H λx H1=>∃c,x=.bl c/\Q c H1
def uZ{op:CmpOp}{t:TE}(h:PC X op a b t)(h1:behindInMarks op b=false:=by first|exact pN _ ∅ ∅|rfl):PT X (.Compare a [op] [b] pos) (tB t):=by intro pins s σ H Q I hw;refine wpAny_isTrue_Compare1 (bM (h pins s σ H _ I hw) λv s1 h1=>bM h1 λu s2 h2=>bM h2 λc s3 ⟨x,H1,I1,r1,q1⟩=>?_) h1;obtain⟨d,rfl,q⟩:=q1;cases r1;exact wpAny_truthy_bool ⟨H1,I1,q⟩
variable {tA CW:TT}{rest:List Expr}
abbrev ze(t u:TT):TT:=λσ H Q=>t σ H λc H1=>if c=true then u σ H1 Q else Q false H1
abbrev Ir(t u:TT):TT:=λσ H Q=>t σ H λc H1=>if c=true then Q true H1 else u σ H1 Q
def MP(ha:PT X a tA):PW X (.BoolOp .And [a] pos) tA:=by
 intro wh pins s σ H Q I h;refine isTrue_and (bM (ha pins s σ H Q I h) λc s1 e=>?_);cases c with
 |true=>exact isTrue_and_nil e
 |false=>exact e
def pw_or1(ha:PT X a tA):PW X (.BoolOp .Or [a] pos) tA:=by
 intro wh pins s σ H Q I h;refine isTrue_or (bM (ha pins s σ H Q I h) λc s1 e=>?_);cases c with
 |false=>exact isTrue_or_nil e
 |true=>exact e
def pw_and(ha:PT X a tA)(hb:PW X (.BoolOp .And (b :: rest) pos) CW):PW X (.BoolOp .And (a :: b :: rest) pos) (ze tA CW):=by
 intro wh pins s σ H Q I h;refine isTrue_and (bM (ha pins s σ H _ I h) λc s1 ⟨H1,I1,q1⟩=>?_);cases c with
 |true=>exact hb wh pins s1 σ H1 Q I1 q1
 |false=>exact⟨H1,I1,q1⟩
def pw_or(ha:PT X a tA)(hb:PW X (.BoolOp .Or (b :: rest) pos) CW):PW X (.BoolOp .Or (a :: b :: rest) pos) (Ir tA CW):=by
 intro wh pins s σ H Q I h;refine isTrue_or (bM (ha pins s σ H _ I h) λc s1 ⟨H1,I1,q1⟩=>?_);cases c with
 |true=>exact⟨H1,I1,q1⟩
 |false=>exact hb wh pins s1 σ H1 Q I1 q1
end
abbrev gP(K:Zfr)(H:Hp)(a:Addr)(xs:List V):Prop :=
 Rd H a (.lst xs) \/
  ∃(o:Obj) (its:Array Value) (n:Nat),K.lookup a=some o/\o.cls=.type "list" /\ o.dict=none/\o.data=.seq its n/\its.size<=sizeLine/\Vals xs its.toList
abbrev de(K:Zfr)(H:Hp)(a:Addr)(xs:List V):Prop :=
 Rd H a (.tup xs) \/
  ∃(o:Obj) (its:Array Value) (n:Nat),K.lookup a=some o/\o.cls=.type "tuple" /\ o.dict=none/\o.data=.seq its n/\its.size<=sizeLine/\Vals xs its.toList
abbrev Fs:Value->Option V
 |.none=>some .non
 |.bool b=>some (.bl b)
 |.int i _=>some (.int i)
 |.str x _=>some (.str x)
 |.bytes b _=>some (.pK b)
 |.float b _=>some (.Ff b)
 |.ref a=>some (.ref a)
 |.type n=>some (.ty n)
 |_=>none
def RelV.abs{x:V}{u:Value}(r:RelV x u):Fs u=some x:=by
 cases x with
 |non=>cases r;rfl
 |bl _=>cases r;rfl
 |int _=>obtain⟨t,rfl⟩:=r;rfl
 |str _=>obtain⟨t,rfl⟩:=r;rfl
 |pK _=>obtain⟨t,rfl⟩:=r;rfl
 |Ff _=>obtain⟨t,rfl⟩:=r;rfl
 |ref _=>cases r;rfl
 |ty _=>cases r;rfl
def RelV.inj{x y:V}{u:Value}(r:RelV x u)(q:RelV y u):x=y:=Vu (r.abs.symm.trans q.abs)
def Vals.inj:∀{xs ys:List V} {us:List Value},Vals xs us->Vals ys us->xs=ys
 |_,_,_,.nil,.nil=>rfl
 |_,_,_,.cons r t,.cons r' t'=>by rw[r.inj r',Vals.inj t t']
section
variable {X:Cx}{pins:List (Addr×Obj)}{σ:St}{H:Hp}{s:Shared}{a:Addr}{xs ys:List V}
def de.of{K:Zfr}(h:H a=some (.tup xs)):de K H a xs:=.inl (.inl h)
def Inv.list(I:Inv X pins σ H s)(h:gP X.K H a xs):∃its:List Value,Vals xs its/\PlainL s.heap a its.toArray/\xs.length<=sizeLine:=by
 rcases h with h|⟨o,its,n,hk,hc,hd,hs,hz,r⟩
 obtain⟨z,its,n,r,e⟩:=h.ok I.hok;exact⟨its,r,⟨_,n,e,rfl,rfl,rfl⟩,z⟩;refine⟨its.toList,r,⟨o,n,I.og a o hk,hc,hd,by simpa using hs⟩,?_⟩;have e:=r.length;simp only[Wv]at e;lk
def Inv.nE(I:Inv X pins σ H s)(h:de X.K H a xs):∃its:List Value,Vals xs its/\lH s.heap a its.toArray/\xs.length<=sizeLine:=by
 rcases h with h|⟨o,its,n,hk,hc,hd0,hs,hz,r⟩
 obtain⟨z,its,r,p⟩:=h.ok I.hok;exact⟨its,r,p,z⟩;refine⟨its.toList,r,⟨o,I.og a o hk,hc,hd0,n,by simpa using hs⟩,?_⟩;have e:=r.length;simp only[Wv]at e;lk
def Inv.tuple(I:Inv X pins σ H s)(h:de X.K H a xs):∃its:List Value,Vals xs its/\IsTup s.heap a its.toArray/\xs.length<=sizeLine :=
 let ⟨its,r,p,z⟩:=I.nE h
 ⟨its,r,p.tup,z⟩
def Inv.pO(I:Inv X pins σ H s)(h:gP X.K H a xs)(h':gP X.K H a ys):xs=ys:=by
 obtain⟨its,r,⟨o,n,e,_,_,d⟩,_⟩:=I.list h;obtain⟨its',r',⟨o',n',e',_,_,d'⟩,_⟩:=I.list h';rw[e]at e';cases e';rw[d]at d';injection d' with d1 _;have:its=its':=by simpa using congrArg Array.toList d1
 subst this;exact r.inj r'
def Inv.lb(I:Inv X pins σ H s)(h:de X.K H a xs)(h':de X.K H a ys):xs=ys:=by
 obtain⟨its,r,⟨o,e,_,n,d⟩,_⟩:=I.tuple h;obtain⟨its',r',⟨o',e',_,n',d'⟩,_⟩:=I.tuple h';rw[e]at e';cases e';rw[d]at d';injection d' with d1 _;have:its=its':=by simpa using congrArg Array.toList d1
 subst this;exact r.inj r'
end
@[reducible]def Cx.wish(X:Cx)(E:Value->Shared->Prop):Cx:={ X with xe:=E }
@[reducible]def Cx.nz(X:Cx):Cx:=X.wish λ_ _=>False
def Cx.Ok.wish{X:Cx}(ok:X.Ok)(E:Value->Shared->Prop):(X.wish E).Ok :=
 ⟨ok.mod,ok.kind,ok.glob,ok.blt,ok.above,ok.inj,ok.has,ok.sJ,ok.hd,ok.frames,ok.stk,ok.y9,ok.bs,ok.pz,ok.mK,ok.nD,ok.iQ,ok.qX⟩
def Cx.Ok.gY{X:Cx}{E:Value->Shared->Prop}(ok:(X.wish E).Ok):X.Ok :=
 ⟨ok.mod,ok.kind,ok.glob,ok.blt,ok.above,ok.inj,ok.has,ok.sJ,ok.hd,ok.frames,ok.stk,ok.y9,ok.bs,ok.pz,ok.mK,ok.nD,ok.iQ,ok.qX⟩
section
variable {X:Cx}{pins:List (Addr×Obj)}{σ:St}{H:Hp}{s:Shared}{E:Value->Shared->Prop}
def Inv.wish(I:Inv X pins σ H s)(E:Value->Shared->Prop):Inv (X.wish E) pins σ H s:=⟨I.ok.wish E,I.os,I.bare,I.base,I.loc,I.cell,I.free,I.eM,I.pin,I.hok,I.len⟩
def Inv.gY(I:Inv (X.wish E) pins σ H s):Inv X pins σ H s:=⟨I.ok.gY,I.os,I.bare,I.base,I.loc,I.cell,I.free,I.eM,I.pin,I.hok,I.len⟩
def SP.gY{D:Ends}{f:Flow}{s':Shared}(h:SP (X.wish E) pins D f s'):SP X pins D f s':=by
 cases f with
 |next=>obtain⟨σ',H',I,q⟩:=h;exact⟨σ',H',I.gY,q⟩
 |brk=>obtain⟨σ',H',I,q⟩:=h;exact⟨σ',H',I.gY,q⟩
 |cont=>obtain⟨σ',H',I,q⟩:=h;exact⟨σ',H',I.gY,q⟩
 |ret u=>obtain⟨v,σ',H',I,r,q⟩:=h;exact⟨v,σ',H',I.gY,r,q⟩
def ny.nz{st:List Stmt}{t:TS}(h:ny X.nz st t):ny X st t:=λpins s σ H D I hw =>
 wpAny_mono (h pins s σ H D (I.wish _) hw) (λ_ _ q=>q.gY) λ_ _ z=>False.elim z
end
section
variable {X:Cx}{st:Stmt}{rest:List Stmt}{t u:TS}{e:Expr}{te:TE}{pos:Pos}
abbrev sM:TS:=λD σ H=>D.nx σ H
abbrev u3(t u:TS):TS:=λD σ H=>t { D with nx:=u D } σ H
def my:ny X [] sM:=λ_ _ σ H _ I h=>wpAny_execs_nil ⟨σ,H,I,h⟩
def MQ(h1:PS X st t)(h2:ny X rest u):ny X (st :: rest) (u3 t u):=by
 intro pins s σ H D I h;refine wpAny_execs_cons (bM (h1 pins s σ H { D with nx:=u D } I h) λf s1 q=>?_);cases f with
 |next =>
  obtain⟨σ',H',I',q⟩:=q;exact h2 pins s1 σ' H' D I' q
 |ret v=>exact q
 |brk=>exact q
 |cont=>exact q
def Iu(h1:PS X st t):ny X [st] t:=by
 intro pins s σ H D I h;refine wpAny_execs_cons (bM (h1 pins s σ H D I h) λf s1 q=>?_);cases f with
 |next=>exact wpAny_execs_nil q
 |ret v=>exact q
 |brk=>exact q
 |cont=>exact q
def Inv.quiet{pins:List (Addr×Obj)}{σ:St}{H:Hp}{s:Shared}(I:Inv X pins σ H s):interactive X.env=false:=by simp[interactive,I.ok.kind]
abbrev sN(te:TE):TS:=λD σ H=>te σ H λ_ H1=>D.nx σ H1
def pP(he:PE X e te)(hs:swapsWith e none pos.line X.env=pure false:=by rfl):PS X (.Expr e pos) (sN te):=by intro pins s σ H D I h;exact wpAny_Expr_any (bM (he pins s σ H _ I h) λv s1 ⟨x,H1,I1,r1,q1⟩=>⟨σ,H1,I1,q1⟩) I.quiet hs
abbrev zf(te:TE):TS:=λD σ H=>te σ H D.rt
def gQ(he:PE X e te):PS X (.Return (some e) pos) (zf te):=by intro pins s σ H D I h;exact wpAny_Return_some (bM (he pins s σ H _ I h) λv s1 ⟨x,H1,I1,r1,q1⟩=>⟨x,σ,H1,I1,r1,q1⟩)
abbrev u5(c:TT)(t u:TS):TS:=λD σ H=>c σ H λb H1=>if b=true then t D σ H1 else u D σ H1
def zg{c:Expr}{a b:List Stmt}{tc:TT}(hc:PT X c tc)(ha:ny X a t)(hb:ny X b u):PS X (.If c a b pos) (u5 tc t u):=by
 intro pins s σ H D I h;refine wpAny_If (bM (hc pins s σ H _ I h) λd s1 ⟨H1,I1,q1⟩=>?_);cases d with
 |true=>exact ha pins s1 σ H1 D I1 q1
 |false=>exact hb pins s1 σ H1 D I1 q1
end
@[reducible]def TG:=V->St->Hp->(St->Hp->Prop)->Prop
@[reducible]def qY:=List V->St->Hp->(St->Hp->Prop)->Prop
abbrev PG(X:Cx)(target:Expr)(t:TG):Prop :=
 ∀(pins:List (Addr×Obj)) (s:Shared) (σ:St) (H:Hp) (v:V) (u:Value) (Q:St->Hp->Prop),Inv X pins σ H s->RelV v u->t v σ H Q ->
  wpAny (model X.prog X.w) X.A (assign target X.env u) (λ_ s'=>∃σ' H',Inv X pins σ' H' s'/\Q σ' H') X.xe s
abbrev CY(X:Cx)(ts:List Expr)(t:qY):Prop :=
 ∀(pins:List (Addr×Obj)) (s:Shared) (σ:St) (H:Hp) (vs:List V) (us:List Value) (Q:St->Hp->Prop),Inv X pins σ H s->Vals vs us->t vs σ H Q ->
  wpAny (model X.prog X.w) X.A (assignInOrder ((assignEach ts X.env).map (·.2)) us) (λ_ s'=>∃σ' H',Inv X pins σ' H' s'/\Q σ' H') X.xe s
@[reducible]def u6:=V->V->V->Hp->(Hp->Prop)->Prop
abbrev zh(X:Cx)(t:u6):Prop :=
 ∀(pins:List (Addr×Obj)) (s:Shared) (σ:St) (H:Hp) (o i v:V) (ov iv u:Value) (Q:Hp->Prop),Inv X pins σ H s->RelV o ov->RelV i iv->RelV v u->t o i v H Q ->
  wpAny (model X.prog X.w) X.A (setItem ov iv u) (λ_ s'=>∃H',Inv X pins σ H' s'/\Q H') X.xe s
section
variable {X:Cx}{pos:Pos}
abbrev lg(i:Nat):TG:=λv σ H Q=>Q (σ.set i (some v)) H
def jg{i:Nat}{x:Str}(hN:X.N.Nodup)(hi:X.N[i]?=some x)(hx:Loc X.env.scope x)(hf:X.fn x=true\/X.env.scope.names.lookup x=some .local:=by first|exact .inl rfl|exact .inr rfl|assumption):PG X (.Name x pos) (lg i):=by intro pins s σ H v u Q I r h;exact wpAny_assign_Name (CV I hN hi hx r (λs' I'=>⟨_,H,I',h⟩) hf)
abbrev zi:qY:=λvs σ H Q=>vs=[]/\Q σ H
abbrev sO(t:TG)(u:qY):qY:=λvs σ H Q=>∃v r,vs=v :: r/\t v σ H λσ' H'=>u r σ' H' Q
def Ft:CY X [] zi:=by intro pins s σ H vs us Q I r h;obtain⟨e,h⟩:=h;subst e;cases r;exact assignInOrder_nil ⟨σ,H,I,h⟩
def yi{e:Expr}{es:List Expr}{t:TG}{u:qY}(h1:PG X e t)(h2:CY X es u)
  (hs:(assignEach (e :: es) X.env).map (·.2)=assign e X.env :: (assignEach es X.env).map (·.2):=by rfl):CY X (e :: es) (sO t u):=by
 intro pins s σ H vs us Q I r h;obtain⟨v,vr,e1,h⟩:=h;subst e1;cases r with
 |cons r rr =>
  rw[hs];refine assignInOrder_cons (bM (h1 pins s σ H _ _ _ I r h) λ_ s1 ⟨σ1,H1,I1,q1⟩=>?_);exact h2 pins s1 σ1 H1 _ _ Q I1 rr q1
abbrev zj(K:Zfr)(n:Nat)(t:qY):TG:=λv σ H Q=>∃a xs,v=.ref a/\de K H a xs/\xs.length=n/\t xs σ H Q
def Fu{es:List Expr}{k:Nat}{t:qY}{n:Nat}(hc:X.calm=true)(h:CY X es t)
  (hn:(assignEach es X.env).length=n:=by rfl) (hst:(assignEach es X.env).findIdx? (·.1)=none:=by rfl):PG X (.Tuple es k pos) (zj X.K n t):=by
 intro pins s σ H v u Q I r hw;obtain⟨a,xs,e1,hq,hl,hw⟩:=hw;subst e1;cases r;obtain⟨its,rv,ht,hz⟩:=I.tuple hq;refine assign_Tuple_tuple (I.ok.hd hc) ht (by simp[hn,<- hl,rv.length]) hst λh' hx=>?_;have I1:Inv X pins σ H { s with heap:=h' }:=I.kept (t':=s.toks) λb o e=>hx b o (VS (Vx e)) e;exact h pins _ σ H xs _ Q I1 (by simpa using rv) hw
abbrev rE(to ti:TE)(t:u6):TG:=λv σ H Q=>to σ H λo H1=>ti σ H1 λi H2=>t o i v H2 λH3=>Q σ H3
def yj{o i:Expr}{to ti:TE}{t:u6}(ho:PE X o to)(hi:PE X i ti)(hs:zh X t)
  (ha:∀v,assign (.Subscript o i pos) X.env v=(do
   let ov <- holding [v] (eval o X.env)
   let iv <- holding [v,ov] (eval i X.env)
   standAt pos
   holding [v,ov,iv] (setItem ov iv v)
   release [v,ov,iv] []):=by intro _;rfl):PG X (.Subscript o i pos) (rE to ti t):=by
 intro pins s σ H v u Q I r h;rw[ha];refine wpAny_bind (wpAny_holding (bM (ho pins s σ H _ I h) λov s1 ⟨x,H1,I1,r1,q1⟩=>?_));refine wpAny_bind (wpAny_holding (bM (hi pins s1 σ H1 _ I1 q1) λiv s2 ⟨y,H2,I2,r2,q2⟩=>?_));refine wpAny_bind (wpAny_standAt (wpAny_bind (wpAny_holding (bM (hs pins s2 σ H2 x y v ov iv u _ I2 r1 r2 r q2) λ_ s3 ⟨H3,I3,q3⟩=>?_))));exact wpAny_release ⟨σ,H3,I3,q3⟩
abbrev pQ(te:TE)(g:TG):TS:=λD σ H=>te σ H λx H1=>g x σ H1 D.nx
def zk{tg e:Expr}{te:TE}{g:TG}(he:PE X e te)(hg:PG X tg g)(hs:swapsWithSole [tg] e pos.line X.env=pure false:=by rfl)(hw:swappedStores [tg] e X.env=pure none:=by rfl)
  (h1:(assignEach [tg] X.env).map (·.2)=[assign tg X.env]:=by rfl):PS X (.Assign [tg] e pos) (pQ te g):=by
 intro pins s σ H D I h;refine wpAny_Assign_stores (bM (he pins s σ H _ I h) λv s1 ⟨x,H1,I1,r1,q1⟩=>?_) hs hw;rw[h1];exact bM (hg pins s1 σ H1 x v _ I1 r1 q1) λ_ s2 q=>q
def u7{i:Nat}{x:Str}{e:Expr}{te:TE}{pos':Pos}(hN:X.N.Nodup)(hi:X.N[i]?=some x)(hx:Loc X.env.scope x)(he:PE X e te)(hs:swapsWith e (some (.Name x pos')) pos.line X.env=pure false:=by rfl)(hf:X.fn x=true\/X.env.scope.names.lookup x=some .local:=by first | exact .inl rfl | exact .inr rfl | assumption):
  PS X (.Assign [.Name x pos'] e pos) (pQ te (lg i)):=by
 intro pins s σ H D I h;refine wpAny_Assign_Name (bM (he pins s σ H _ I h) λv s1 ⟨y,H1,I1,r1,q1⟩=>?_) hs;exact CV I1 hN hi hx r1 (λs2 I2=>⟨_,H1,I2,q1⟩) hf
abbrev zm(i j:Nat)(ta:TA):TS:=λD σ H=>ta σ H λvs H1=>∃v w,vs=[v,w]/\D.nx ((σ.set i (some v)).set j (some w)) H1
def Fv{i j:Nat}{x y:Str}{a b:Expr}{ta:TA}{px py pt:Pos}{kt k2 Fw}(hc:X.calm=true)(hN:X.N.Nodup)(hi:X.N[i]?=some x)(hj:X.N[j]?=some y)(hij:i≠j)
  (hx:X.env.scope.names.lookup x=some .local) (hy:X.env.scope.names.lookup y=some .local) (ha:PA X [a,b] ta)
  (hw:swappedStores [.Tuple [.Name x px,.Name y py] kt pt] (.Tuple [a,b] k2 Fw) X.env=pure (some [x,y]))
  (hs:swapsWithSole [.Tuple [.Name x px,.Name y py] kt pt] (.Tuple [a,b] k2 Fw) pos.line X.env=pure false:=by rfl) :
  PS X (.Assign [.Tuple [.Name x px,.Name y py] kt pt] (.Tuple [a,b] k2 Fw) pos) (zm i j ta):=by
 intro pins s σ H D I h;rw[exec_Assign_arm];refine wpAny_bind (wpAny_standAt ?_);rw[hs];refine wpAny_bind (wpAny_pure ?_);rw[if_neg ∅];refine wpAny_bind (Tuple_ (bM (ha _ pins s σ H _ I h) λus s1 ⟨vs,H1,I1,r1,q1⟩=>?_));obtain⟨v,w,e1,q1⟩:=q1;subst e1;obtain⟨u1,u2,rfl,rv,rw'⟩:∃u1 u2,us=[u1,u2]/\RelV v u1/\RelV w u2:=by
  cases r1 with
  |cons p q =>
   cases q with
   |cons p' q' =>
    cases q';exact⟨_,_,rfl,p,p'⟩
 refine wpAny_newObj_type ?_ (by show 2<=sizeLine;decide);have I2:Inv X pins σ H1 { s1 with heap:=s1.heap.push { cls:=.type "tuple",data:=.seq [u1,u2].toArray } }:=I1.kept (t':=s1.toks) λb o e=>Vo _ e;rw[hw];refine wpAny_bind (wpAny_pure ?_);show wpAny (model X.prog X.w) X.A (do rule "assign.swapped-stores";let items <- unpackItems (.ref s1.heap.objs.size) 2 none;assignInOrder [λv=>bindName X.env y v,λv=>bindName X.env x v] items.reverse;pure Flow.next) _ _ _;refine wpAny_bind (wpAny_rule (wpAny_bind (unpackItems_tuple (items:=#[u1,u2]) (I.ok.hd hc) (IsTup.new s1.heap _) λh' hx'=>?_)));have I3:=I2.kept (h':=h') (t':=s1.toks) λb o e=>hx' b o (VS (Vx e)) e;show wpAny _ _ (assignInOrder [λv=>bindName X.env y v,λv=>bindName X.env x v] [u2,u1] >>= λ_=>pure Flow.next) _ _ _;refine wpAny_bind (assignInOrder_cons (wpAny_bindName (CV I3 hN hj (.inl hy) rw' (λs2 I4=>?_) (.inr hy))));refine assignInOrder_cons (wpAny_bindName (CV I4 hN hi (.inl hx) rv (λs3 I5=>assignInOrder_nil (wpAny_pure ?_)) (.inr hx)));rw[List.set_comm _ _ (Ne.symm hij)]at I5;exact⟨_,H1,I5,q1⟩
end
section
variable {X:Cx}{pos:Pos}
abbrev nF(c:TT)(tb:TS):TS:=λD σ H=>∃W:Nat->St->Hp->Prop,(∃m,W m σ H)/\∀m σ H,W m σ H ->
 c σ H λb H1=>if b=true then∃N:St->Hp->Prop,(∀σ' H',N σ' H'->∃m',m' < m/\W m' σ' H')/\tb { D with nx:=N,ct:=N,bk:=D.nx } σ H1 else D.nx σ H1
def yk{c:Expr}{body:List Stmt}{tc:TT}{tb:TS}(hp:PassesOwn (model X.prog X.w) X.A X.env X.xe)(hc:PT X c tc)(hb:ny X body tb):PS X (.While c body [] pos) (nF tc tb):=by
 intro pins s σ H D I h;obtain⟨W,⟨m0,w0⟩,turn⟩:=h;refine wpAny_While (codeAny_whileLoop (λn s'=>∃σ' H',Inv X pins σ' H' s'/\W n σ' H') ?_ m0 ⟨σ,H,I,w0⟩);rintro n s1 ⟨σ1,H1,I1,w1⟩;refine wpAny_passesOwn hp (bM (hc pins s1 σ1 H1 _ I1 (turn n σ1 H1 w1)) λb s2 ⟨H2,I2,q2⟩=>?_);cases b with
 |true =>
  obtain⟨N,hN,q2⟩:=q2;rw[if_pos rfl];refine wpAny_passesOwn hp (bM (hb pins s2 σ1 H2 _ I2 q2) λf s3 q3=>?_);cases f with
  |next =>
   obtain⟨σ3,H3,I3,n3⟩:=q3;obtain⟨m',hm,w3⟩:=hN σ3 H3 n3;exact⟨m',hm,σ3,H3,I3,w3⟩
  |cont =>
   obtain⟨σ3,H3,I3,n3⟩:=q3;obtain⟨m',hm,w3⟩:=hN σ3 H3 n3;exact⟨m',hm,σ3,H3,I3,w3⟩
  |brk=>exact q3
  |ret v=>exact q3
 |false =>
  rw[if_neg Vs];exact wpAny_execs_nil ⟨σ1,H2,I2,q2⟩
end
set_option genInjectivity false in
structure It where
 go:Nat->Hp->Prop
 rF:Nat->Hp->V->Hp->Prop
 stop:Nat->Hp->Prop
abbrev jD(X:Cx)(pins:List (Addr×Obj))(H:Hp)(b:Addr):Prop :=
 H b=none/\b≠X.env.locals/\b ∉ X.fs/\(b∈X.ex\/X.s₀.heap.objs.size<=b)/\(∀x c,X.env.cells.lookup x=some c->c≠b)/\∀p∈X.pn ++ pins,p.1≠b
def Inv.oZ{X:Cx}{pins:List (Addr×Obj)}{σ:St}{H H':Hp}{s:Shared}{b:Addr}(I:Inv X pins σ H s)(hb:s.heap.objs.size<=b)(hn:H' b=none):jD X pins H' b:=by refine⟨hn,Xf (VW I.lt hb),I.za hb,.inr (VH I.sz hb),λx c e z=>?_,λp hp z=>?_⟩;obtain⟨v,q⟩:=I.cell x c e;exact absurd (VW q.lt (by rw[z];exact hb)) (WX _);exact absurd (VW (Vx (I.pin p hp).1) (by rw[z];exact hb)) (WX _)
structure Turn(P:Program)(w:World)(K:Zfr)(tg:Expr)(J:It)(fp:List Addr)(it:Addr)(tn:Nat->Heap->Prop):Prop where
 mem:it∈fp
 obj:∀i h,tn i h->∀b∈fp,∃o,h.get? b=some o/\∀v,o.data≠.cell v
 keep:∀i h h',tn i h->(∀b∈fp,∀o,h.get? b=some o->h'.get? b=some o)->tn i h'
 item:∀(X:Cx),X.prog=P->X.w=w->X.K=K->X.calm=true->∀(i:Nat) (pins:List (Addr×Obj)) (s:Shared) (σ:St) (H:Hp) (E:Value->Shared->Prop),Inv X pins σ H s->(∀b∈fp,jD X pins H b)->tn i s.heap->J.go i H ->
  wpAny (model P w) X.A (pyNext (.ref it)) (λr s1=>∃u,r=some u /\
   wpAny (model P w) X.A (letOwnedTupleGo tg (.ref it) u) (λ_ s2=>∃x H',Inv X pins σ H' s2/\RelV x u/\J.rF i H x H'/\tn (i+1) s2.heap/\∀b∈fp,H' b=none) E s1) E s
 done:∀(X:Cx),X.prog=P->X.w=w->X.K=K->X.calm=true->∀(i:Nat) (pins:List (Addr×Obj)) (s:Shared) (σ:St) (H:Hp) (E:Value->Shared->Prop),Inv X pins σ H s->(∀b∈fp,jD X pins H b)->tn i s.heap->J.stop i H ->
  wpAny (model P w) X.A (pyNext (.ref it)) (λr s1=>r=none/\Inv X pins σ H s1) E s
 self:∀(A:Around) (i:Nat) (s:Shared) (Q:Value->Shared->Prop) (E:Value->Shared->Prop),tn i s.heap->Q (.ref it) s->wpAny (model P w) A (pyIter (.ref it)) Q E s
@[reducible]def TI:=St->Hp->(It->Hp->Prop)->Prop
abbrev Iv(X:Cx)(pins:List (Addr×Obj))(σ:St)(tg:Expr)(R:It->Hp->Prop)(itv:Value)(s2:Shared):Prop :=
 ∃(it:Addr) (fp:List Addr) (tn:Nat->Heap->Prop) (J:It) (H':Hp),itv=.ref it/\Inv X pins σ H' s2/\Turn X.prog X.w X.K tg J fp it tn/\tn 0 s2.heap/\(∀b∈fp,jD X pins H' b)/\R J H'
abbrev PI(X:Cx)(tg iter:Expr)(wi:TI):Prop :=
 ∀(pins:List (Addr×Obj)) (s:Shared) (σ:St) (H:Hp) (R:It->Hp->Prop),Inv X pins σ H s->wi σ H R ->
  wpAny (model X.prog X.w) X.A (eval iter X.env) (λv s1=>wpAny (model X.prog X.w) X.A (pyIter v) (Iv X pins σ tg R) X.xe s1) X.xe s
def Fx{M:Model}{A:Around}{E:Value->Shared->Prop}{s:Shared}{tg:Expr}{it:Addr}{u:Value}{o:Obj}{n:String}{vs:Array Value}{Q:Unit->Shared->Prop}(ho:s.heap.get? it=some o)(hc:o.cls=.type n)(hd:o.data=.fields vs)
  (hn:["enumerate","zip","dict_itemiterator","dict_reverseitemiterator","odict_iterator","itertools.zip_longest","itertools.pairwise"].contains n=false) (hQ:Q () s):wpAny M A (letOwnedTupleGo tg (.ref it) u) Q E s:=by
 unfold letOwnedTupleGo;cases tg<;>first
  |exact wpAny_pure hQ
  | (cases u <;> first
    |exact wpAny_pure hQ
    | (refine wpAny_bind (wpAny_load ho ?_)
       rw[hc,hd];show wpAny M A (if(["enumerate","zip","dict_itemiterator","dict_reverseitemiterator","odict_iterator","itertools.zip_longest","itertools.pairwise"].contains n && vs[0]? == some (rawInt _))=true then _ else _) Q E s;rw[if_neg (by intro h;rw[hn,Bool.false_and]at h;cases h)]
       exact wpAny_pure hQ))
abbrev Iw(K:Zfr)(a:Addr):It :=
 ⟨λi H=>∃xs x,gP K H a xs/\xs[i]?=some x,λi H x H'=>H'=H/\∀xs,gP K H a xs->xs[i]?=some x,λi H=>∃xs,gP K H a xs/\xs.length<=i⟩
abbrev Iy(K:Zfr)(a:Addr):It :=
 ⟨λi H=>∃xs x,de K H a xs/\xs[i]?=some x,λi H x H'=>H'=H/\∀xs,de K H a xs->xs[i]?=some x,λi H=>∃xs,de K H a xs/\xs.length<=i⟩
abbrev CZ(lo:Int)(n:Nat):It:=⟨λi _=>i<n,λi H x H'=>H'=H/\x=.int (lo+i),λi _=>n<=i⟩
def MR{P:Program}{w:World}{K:Zfr}{tg:Expr}(a it:Addr):Turn P w K tg (Iw K a) [it] it (λi h=>h.IsListIter it a i) where
 mem:=by simp
 obj:=λi h st b hb=>by
  have e:b=it:=by simpa using hb
  subst e;obtain⟨o,e,c,d⟩:=st;exact⟨o,e,λv z=>by rw[d]at z;cases z⟩
 keep:=λi h h' st k=>st.at λo e=>k it (by simp) o e
 item:=by
  intro X hP hw hK hc i pins s σ H E I hf st hg;subst hP hw hK;obtain⟨xs,x,hq,hx⟩:=hg;obtain⟨its,rv,p,hz⟩:=I.list hq;obtain⟨u,hu,ru⟩:=rv.get hx;obtain⟨f0,f1,f2,f3,f4,f5⟩:=hf it (by simp);refine wpAny_pyNext_list_item st p.isList (x:=u) (by simpa using hu) λh' st' sb=>?_;have I1:Inv X pins σ H { s with heap:=h' }:=I.turned (t':=s.toks) (λb o hb e=>(sb.2 b hb).trans e) f0 f1 f3 f4 f5;obtain⟨o,e,c,d⟩:=id st';exact⟨u,rfl,Fx (s:={ s with heap:=h' }) e c d ∅ ⟨x,H,I1,ru,⟨rfl,λys hy=>by rw[I.pO hy hq];exact hx⟩,st',λb hb=>(hf b hb).1⟩⟩
 done:=by
  intro X hP hw hK hc i pins s σ H E I hf st hg;subst hP hw hK;obtain⟨xs,hq,hx⟩:=hg;obtain⟨its,rv,p,hz⟩:=I.list hq;obtain⟨f0,f1,f2,f3,f4,f5⟩:=hf it (by simp);have hl:=rv.length;exact wpAny_pyNext_list_end (I.ok.hd hc) st p.isList (by simp;lk) λh' eb=>⟨rfl,I.turned (t':=s.toks) (λb o hb e=>eb b o hb e) f0 f1 f3 f4 f5⟩
 self:=λ_ _ _ _ _ st h=>wpAny_pyIter_listiter st h
def MS{P:Program}{w:World}{K:Zfr}{tg:Expr}(a it:Addr):Turn P w K tg (Iy K a) [it] it (λi h=>h.IsTupleIter it a i) where
 mem:=by simp
 obj:=λi h st b hb=>by
  have e:b=it:=by simpa using hb
  subst e;obtain⟨o,e,c,d⟩:=st;exact⟨o,e,λv z=>by rw[d]at z;cases z⟩
 keep:=λi h h' st k=>st.at λo e=>k it (by simp) o e
 item:=by
  intro X hP hw hK hc i pins s σ H E I hf st hg;subst hP hw hK;obtain⟨xs,x,hq,hx⟩:=hg;obtain⟨its,rv,p,hz⟩:=I.tuple hq;obtain⟨u,hu,ru⟩:=rv.get hx;obtain⟨f0,f1,f2,f3,f4,f5⟩:=hf it (by simp);refine wpAny_pyNext_tuple_item st (show s.heap.IsTuple a its.toArray from p) (x:=u) (by simpa using hu) λh' st' sb=>?_;have I1:Inv X pins σ H { s with heap:=h' }:=I.turned (t':=s.toks) (λb o hb e=>(sb.2 b hb).trans e) f0 f1 f3 f4 f5;obtain⟨o,e,c,d⟩:=id st';exact⟨u,rfl,Fx (s:={ s with heap:=h' }) e c d ∅ ⟨x,H,I1,ru,⟨rfl,λys hy=>by rw[I.lb hy hq];exact hx⟩,st',λb hb=>(hf b hb).1⟩⟩
 done:=by
  intro X hP hw hK hc i pins s σ H E I hf st hg;subst hP hw hK;obtain⟨xs,hq,hx⟩:=hg;obtain⟨its,rv,p,hz⟩:=I.tuple hq;obtain⟨f0,f1,f2,f3,f4,f5⟩:=hf it (by simp);have hl:=rv.length;exact wpAny_pyNext_tuple_end (I.ok.hd hc) st (show s.heap.IsTuple a its.toArray from p) (by simp;lk) λh' eb=>⟨rfl,I.turned (t':=s.toks) (λb o hb e=>eb b o hb e) f0 f1 f3 f4 f5⟩
 self:=λ_ _ _ _ _ st h=>wpAny_pyIter_tupleiter st h
def MT{P:Program}{w:World}{K:Zfr}{tg:Expr}(it:Addr)(lo:Int)(n:Nat):Turn P w K tg (CZ lo n) [it] it (λi h=>IsRangeIter h it (lo+(i:Nat)*1) ((n:Int)-(i:Nat)) 1) where
 mem:=by simp
 obj:=λi h st b hb=>by
  have e:b=it:=by simpa using hb
  subst e
  exact⟨_,st,λv z=>by
   have z':Data.fields _=Data.cell v:=z
   cases z'⟩
 keep:=λi h h' st k=>k it (by simp) _ st
 item:=by
  intro X hP hw hK hc i pins s σ H E I hf st hg;subst hP hw hK;obtain⟨f0,f1,f2,f3,f4,f5⟩:=hf it (by simp);have W:=Walks.range (prog:=X.prog) (w:=X.w) (I.ok.hd hc) it lo 1 n;refine W.item i s _ _ hg st λv h' tk hv st' kk=>?_;obtain⟨t,rfl⟩:=hv;have I1:Inv X pins σ H { s with heap:=h',toks:=tk }:=I.turned (λb o hb e=>kk b o (by simpa using hb) e) f0 f1 f3 f4 f5;refine⟨_,rfl,Fx (s:={ s with heap:=h',toks:=tk }) (n:="range_iterator") st' rfl rfl ∅ ⟨.int (lo+i),H,I1,⟨t,?_⟩,⟨rfl,rfl⟩,st',λb hb=>(hf b hb).1⟩⟩;rw[Int.mul_one]
 done:=by
  intro X hP hw hK hc i pins s σ H E I hf st hg;subst hP hw hK;obtain⟨f0,f1,f2,f3,f4,f5⟩:=hf it (by simp);exact wpAny_pyNext_range_end (I.ok.hd hc) st (by have:n<=i:=hg;lk) λh' eb=>⟨rfl,I.turned (t':=s.toks) (λb o hb e=>eb b o hb e) f0 f1 f3 f4 f5⟩
 self:=λ_ _ _ _ _ st h=>wpAny_pyIter_rangeiter st h
section
variable {X:Cx}{tg:Expr}
abbrev sP(K:Zfr)(tl:TE):TI:=λσ H R=>tl σ H λx H1=>∃a,x=.ref a/\(∃xs,gP K H1 a xs)/\R (Iw K a) H1
abbrev zo(K:Zfr)(tl:TE):TI:=λσ H R=>tl σ H λx H1=>∃a,x=.ref a/\(∃xs,de K H1 a xs)/\R (Iy K a) H1
def C1{l:Expr}{tl:TE}(hl:PE X l tl):PI X tg l (sP X.K tl):=by
 intro pins s σ H R I h;refine bM (hl pins s σ H _ I h) λv s1 ⟨x,H1,I1,r1,q1⟩=>?_;obtain⟨a,e,⟨xs,hq⟩,q⟩:=q1;subst e;cases r1;obtain⟨its,rv,p,hz⟩:=I1.list hq;refine wpAny_pyIter_list p.isList ?_;refine⟨s1.heap.objs.size,[s1.heap.objs.size],_,_,H1,rfl,I1.kept (t':=s1.toks) λb o e=>Vo _ e,MR a _,⟨_,VF _ rfl,rfl,rfl⟩,λb hb=>?_,q⟩;have e:b=s1.heap.objs.size:=by simpa using hb
 subst e;exact I1.oZ (Vp _) (I1.hok.fresh (Vp _))
def qZ{l:Expr}{tl:TE}(hl:PE X l tl):PI X tg l (zo X.K tl):=by
 intro pins s σ H R I h;refine bM (hl pins s σ H _ I h) λv s1 ⟨x,H1,I1,r1,q1⟩=>?_;obtain⟨a,e,⟨xs,hq⟩,q⟩:=q1;subst e;cases r1;obtain⟨its,rv,p,hz⟩:=I1.tuple hq;refine wpAny_pyIter_tuple (show s1.heap.IsTuple a its.toArray from p) ?_;refine⟨s1.heap.objs.size,[s1.heap.objs.size],_,_,H1,rfl,I1.kept (t':=s1.toks) λb o e=>Vo _ e,MS a _,⟨_,VF _ rfl,rfl,rfl⟩,λb hb=>?_,q⟩;have e:b=s1.heap.objs.size:=by simpa using hb
 subst e;exact I1.oZ (Vp _) (I1.hok.fresh (Vp _))
def MU{pins:List (Addr×Obj)}{σ:St}{H:Hp}{s:Shared}{R:It->Hp->Prop}{E:Value->Shared->Prop}{lo hi:Int}{t u v:Tok}{tk:Nat}(I:Inv X pins σ H s)(h1:-(2 ^ 62)<=lo)(h2:lo<2 ^ 62)(h3:-(2 ^ 62)<=hi)(h4:hi<2 ^ 62)
  (q:R (CZ lo (hi-lo).toNat) H):wpAny (model X.prog X.w) X.A (pyIter (.ref s.heap.objs.size)) (Iv X pins σ tg R) E { s with heap:=s.heap.push { cls:=.type "range",data:=.fields #[.int lo t,.int hi u,.int 1 v] },toks:=tk }:=by
 refine wpAny_pyIter_range (IsRange.new ..) (small_one h1 h2 h3 h4) ?_;have I1:Inv X pins σ H { s with heap:=s.heap.push { cls:=.type "range",data:=.fields #[.int lo t,.int hi u,.int 1 v] },toks:=tk }:=I.kept λb o e=>Vo _ e
 refine⟨(s.heap.push { cls:=.type "range",data:=.fields #[.int lo t,.int hi u,.int 1 v] }).objs.size,[(s.heap.push { cls:=.type "range",data:=.fields #[.int lo t,.int hi u,.int 1 v] }).objs.size],_,_,H,rfl,
  I1.kept (t':=tk) λb o e=>Vo _ e,MT _ lo (hi-lo).toNat,?_,λb hb=>?_,q⟩
 have e1:lo+((0:Nat):Int)*1=lo:=by simp
 have e2:(((hi-lo).toNat:Nat):Int)-((0:Nat):Int)=Builtin.Range.rangeSize lo hi 1:=by rw[rangeSize_one];split<;>lk
 show IsRangeIter _ _ (lo+((0:Nat):Int)*1) ((((hi-lo).toNat:Nat):Int)-((0:Nat):Int)) 1;rw[e1,e2];exact VF _ rfl;have e:b=(s.heap.push { cls:=.type "range",data:=.fields #[.int lo t,.int hi u,.int 1 v] }).objs.size:=by simpa using hb
 subst e;exact I1.oZ (Vp _) (I1.hok.fresh (Vp _))
abbrev sQ(ta:TA):TI:=λσ H R=>ta σ H λvs H1=>∃j:Int,vs=[.int j]/\-(2 ^ 62)<=j/\j<2 ^ 62/\R (CZ 0 j.toNat) H1
def pR{a:Expr}{ta:TA}{p pos:Pos}(hg:Gl X "range")(hm:X.mg "range" = none)(ha:PA X [a] ta)(hs:starEach [a] X.env=[(false,eval a X.env)]:=by rfl):PI X tg (.Call (.Name "range" p) [a] [] pos) (sQ ta):=by
 intro pins s σ H R I h;refine Call_ (yh I hg hm boot_range (PyProof.Rows.callWith_type1 (bM (ha pos pins s σ H _ I h) λus s1 ⟨vs,H1,I1,r1,q1⟩=>?_) hs rfl));obtain⟨j,e,q1,q2,q⟩:=q1;subst e;cases r1 with
 |cons r rr =>
  cases rr;obtain⟨t,rfl⟩:=r;exact call_range_1 (MU I1 ⋯ ⋯ q1 q2 (by simpa using q))
abbrev zp(wi:TI)(g:TG)(tb:TS):TS:=λD σ H=>wi σ H λJ H1=>∃W:Nat->Nat->St->Hp->Prop,(∃m,W 0 m σ H1)/\∀i m σ H,W i m σ H ->
 (J.stop i H/\D.nx σ H)\/(J.go i H/\∃N:St->Hp->Prop,(∀σ' H',N σ' H'->∃m',m' < m/\W (i+1) m' σ' H')/\∀x H',J.rF i H x H'->g x σ H' λσ2 H2=>tb { D with nx:=N,ct:=N,bk:=D.nx } σ2 H2)
abbrev kh(fp:List Addr)(h:Heap):List (Addr×Obj):=fp.filterMap λb=>(h.get? b).map λo=>(b,o)
def C2{fp:List Addr}{h:Heap}{b:Addr}{o:Obj}(hb:b∈fp)(e:h.get? b=some o):(b,o)∈kh fp h:=List.mem_filterMap.mpr ⟨b,hb,by rw[e];rfl⟩
def MV{fp:List Addr}{h:Heap}{p:Addr×Obj}(hp:p∈kh fp h):p.1∈fp/\h.get? p.1=some p.2:=by
 obtain⟨b,hb,e⟩:=List.mem_filterMap.mp hp;cases q:h.get? b with
 |none=>rw[q]at e;cases e
 |some o =>
  rw[q]at e;have e':(b,o)=p:=Vu e;subst e';exact⟨hb,q⟩
def Inv.pinned{pins:List (Addr×Obj)}{σ:St}{H:Hp}{s:Shared}{fp:List Addr}(I:Inv X pins σ H s)(hf:∀b∈fp,jD X pins H b)(ho:∀b∈fp,∃o,s.heap.get? b=some o/\∀v,o.data≠.cell v):Inv X (pins ++ kh fp s.heap) σ H s :=
 I.j3 λp hp=>(VQ.mp hp).elim (λz=>I.pin p (VP _ z)) λz=>by
  obtain⟨hb,e⟩:=MV z;obtain⟨f0,f1,f2,_⟩:=hf p.1 hb;obtain⟨o,e',d⟩:=ho p.1 hb;rw[e]at e';cases e';exact⟨e,f0,f1,f2,d⟩
def Inv.jh{pins pl:List (Addr×Obj)}{σ:St}{H:Hp}{s:Shared}(I:Inv X (pins ++ pl) σ H s):Inv X pins σ H s:=I.j3 λp hp=>I.pin p (VP _ (V1 _ hp))
def u9{iter:Expr}{body:List Stmt}{wi:TI}{g:TG}{tb:TS}{pos:Pos}(hp:PassesOwn (model X.prog X.w) X.A X.env X.xe)(hc:X.calm=true)(hi:PI X tg iter wi)(hg:PG X tg g)(hb:ny X body tb)
  (hs:∀x,foldedSetIterable iter X.env x=pure x:=by intro _;rfl):PS X (.For tg iter body [] pos) (zp wi g tb):=by
 intro pins s σ H D I h;refine wpAny_For (bM (hi pins s σ H _ I h) λv s1 h1=>bM h1 λitv s2 h2=>?_) hs;obtain⟨it,fp,tn,J,H2,e,I2,T,st2,f2,W,⟨m0,w0⟩,turn⟩:=h2;subst e;have stat:∀{H':Hp},(∀b∈fp,H' b=none)->∀b∈fp,jD X pins H' b:=λhn b hb=>⟨hn b hb,(f2 b hb).2⟩;refine codeAny_forLoop_any (λn s'=>∃i σ' H',Inv X pins σ' H' s'/\tn i s'.heap/\(∀b∈fp,H' b=none)/\W i n σ' H') ?_ m0 ⟨0,σ,H2,I2,st2,λb hb=>(f2 b hb).1,w0⟩;rintro n s3 ⟨i,σ3,H3,I3,st3,Iz,w3⟩;rcases turn i n σ3 H3 w3 with⟨stop,qn⟩|⟨go,N,hN,step⟩
 ·refine wpAny_passesOwn hp (bM (T.done X rfl rfl rfl hc i pins s3 σ3 H3 X.xe I3 (stat Iz) st3 stop) λr s4 ⟨hr,I4⟩=>?_)
  subst hr;exact wpAny_execs_nil ⟨σ3,H3,I4,qn⟩
 ·refine wpAny_passesOwn hp (bM (T.item X rfl rfl rfl hc i pins s3 σ3 H3 X.xe I3 (stat Iz) st3 go) λr s4 ⟨u,hr,h4⟩=>?_)
  subst hr;refine wpAny_passesOwn hp (bM h4 λ_ s5 ⟨x,H5,I5,r5,y5,lh,C3⟩=>?_);have MW:=I5.pinned (stat C3) (T.obj _ _ lh);refine wpAny_passesOwn hp (bM (hg _ s5 σ3 H5 x u _ MW r5 (step x H5 y5)) λ_ s6 ⟨σ6,H6,I6,q6⟩=>?_);refine wpAny_passesOwn hp (bM (hb _ s6 σ6 H6 _ I6 q6) λf s7 q7=>?_);have again:∀{σ7:St} {H7:Hp},Inv X (pins ++ kh fp s5.heap) σ7 H7 s7->N σ7 H7->∃m,m<n/\∃i σ' H',Inv X pins σ' H' s7/\tn i s7.heap/\(∀b∈fp,H' b=none)/\W i m σ' H':=λ{σ7 H7} I7 n7=>by
   obtain⟨m',hm,w7⟩:=hN σ7 H7 n7;refine⟨m',hm,i+1,σ7,H7,I7.jh,T.keep _ _ _ lh λb hb o e=>(I7.pin (b,o) (VP _ (VP _ (C2 hb e)))).1,λb hb=>?_,w7⟩;obtain⟨o,e,d⟩:=T.obj _ _ lh b hb;exact(I7.pin (b,o) (VP _ (VP _ (C2 hb e)))).2.1
  cases f with
  |next=>obtain⟨σ7,H7,I7,n7⟩:=q7;exact again I7 n7
  |cont=>obtain⟨σ7,H7,I7,n7⟩:=q7;exact again I7 n7
  |brk=>obtain⟨σ7,H7,I7,q7⟩:=q7;exact⟨σ7,H7,I7.jh,q7⟩
  |ret v=>obtain⟨x7,σ7,H7,I7,r7,q7⟩:=q7;exact⟨x7,σ7,H7,I7.jh,r7,q7⟩
end
@[reducible]def R2:=V->V->Hp->VK->Prop
abbrev jV(X:Cx)(f:Value->Value->Sem Value)(r:R2):Prop :=
 ∀(pins:List (Addr×Obj)) (s:Shared) (σ:St) (H:Hp) (x y:V) (v u:Value) (Q:VK),Inv X pins σ H s->RelV x v->RelV y u->r x y H Q ->
  wpAny (model X.prog X.w) X.A (f v u) (EP X pins σ Q) X.xe s
abbrev Fy(X:Cx)(f:Value->Sem Value)(r:V->Hp->VK->Prop):Prop :=
 ∀(pins:List (Addr×Obj)) (s:Shared) (σ:St) (H:Hp) (x:V) (v:Value) (Q:VK),Inv X pins σ H s->RelV x v->r x H Q ->
  wpAny (model X.prog X.w) X.A (f v) (EP X pins σ Q) X.xe s
abbrev eN(X:Cx)(f:Value)(r:List V->Hp->VK->Prop):Prop :=
 ∀(pins:List (Addr×Obj)) (s:Shared) (σ:St) (H:Hp) (xs:List V) (us:List Value) (Q:VK),Inv X pins σ H s->Vals xs us->r xs H Q ->
  wpAny (model X.prog X.w) X.A (call f us) (EP X pins σ Q) X.xe s
abbrev C4(r:R2)(ta tb:TE):TE:=λσ H Q=>ta σ H λx H1=>tb σ H1 λy H2=>r x y H2 Q
abbrev IA(r:V->Hp->VK->Prop)(ta:TE):TE:=λσ H Q=>ta σ H λx H1=>r x H1 Q
abbrev rI(C:Int->Int->Prop)(g:Int->Int->V):R2:=λx y H Q=>∃i j,x=.int i/\y=.int j/\C i j/\Q (g i j) H
abbrev pS(g:Int->Int->V):R2:=λx y H Q=>∃i j,x=.int i/\y=.int j/\Q (g i j) H
abbrev rU(g:Int->V):V->Hp->VK->Prop:=λx H Q=>∃i,x=.int i/\Q (g i) H
section
variable {X:Cx}{a b c:Expr}{ta tb tc:TE}{pos:Pos}
def zq(ha:PE X a ta)(hb:PE X b tb){pins:List (Addr×Obj)}{s:Shared}{σ:St}{H:Hp}{R:V->V->Hp->Prop}(I:Inv X pins σ H s)
  (h:ta σ H λx H1=>tb σ H1 λy H2=>R x y H2) {Q:Value->Shared->Prop} {f:Value->Value->Sem Value}
  (hf:∀v u s2 x y H2,Inv X pins σ H2 s2->RelV x v->RelV y u->R x y H2->wpAny (model X.prog X.w) X.A (f v u) Q X.xe s2) :
  wpAny (model X.prog X.w) X.A (eval a X.env) (λv s₁=>wpAny (model X.prog X.w) X.A (eval b X.env) (λu s₂=>wpAny (model X.prog X.w) X.A (f v u) Q X.xe s₂) X.xe s₁) X.xe s:=by
 refine bM (ha pins s σ H _ I h) λv s1 ⟨x,H1,I1,r1,q1⟩=>?_;refine bM (hb pins s1 σ H1 _ I1 q1) λu s2 ⟨y,H2,I2,r2,q2⟩=>?_;exact hf v u s2 x y H2 I2 r1 r2 q2
def dw{op:Operator}{r:R2}(ho:jV X (binaryOp op) r)(ha:PE X a ta)(hb:PE X b tb):PE X (.BinOp a op b pos) (C4 r ta tb):=by intro pins s σ H Q I h;exact wpAny_BinOp (zq ha hb I h λv u s2 x y H2 I2 rx ry q=>ho pins s2 σ H2 x y v u Q I2 rx ry q)
def C5{op:UnaryOp}{r:V->Hp->VK->Prop}(ho:Fy X (unaryOp op) r)(ha:PE X a ta):PE X (.UnaryOp op a pos) (IA r ta):=by intro pins s σ H Q I h;exact UnaryOp_ (bM (ha pins s σ H _ I h) λv s1 ⟨x,H1,I1,r1,q1⟩=>ho pins s1 σ H1 x v Q I1 r1 q1)
def C6{f:Value->Value->Sem Value}{C:Int->Int->Prop}{g:Int->Int->Int}
  (rule:∀(i j:Int) (t u:Tok) (s:Shared) (Q:Value->Shared->Prop) (E:Value->Shared->Prop),C i j->Q (.int (g i j) s.toks) { s with toks:=s.toks+1 }->wpAny (model X.prog X.w) X.A (f (.int i t) (.int j u)) Q E s) :
  jV X f (rI C λi j=>.int (g i j)):=by
 intro pins s σ H x y v u Q I rx ry h;obtain⟨i,j,rfl,rfl,hc,q⟩:=h;obtain⟨t,rfl⟩:=rx;obtain⟨t',rfl⟩:=ry;exact rule i j t t' s _ _ hc ⟨.int (g i j),H,I.tok _,⟨_,rfl⟩,q⟩
def Fz{f:Value->Value->Sem Value}{g:Int->Int->Int}
  (rule:∀(i j:Int) (t u:Tok) (s:Shared) (Q:Value->Shared->Prop) (E:Value->Shared->Prop),Q (.int (g i j) s.toks) { s with toks:=s.toks+1 }->wpAny (model X.prog X.w) X.A (f (.int i t) (.int j u)) Q E s) :
  jV X f (pS λi j=>.int (g i j)):=by
 intro pins s σ H x y v u Q I rx ry h;obtain⟨i,j,rfl,rfl,q⟩:=h;obtain⟨t,rfl⟩:=rx;obtain⟨t',rfl⟩:=ry;exact rule i j t t' s _ _ ⟨.int (g i j),H,I.tok _,⟨_,rfl⟩,q⟩
def va{f:Value->Value->Sem Value}{g:Int->Int->Bool}
  (rule:∀(i j:Int) (t u:Tok) (s:Shared) (Q:Value->Shared->Prop) (E:Value->Shared->Prop),Q (.bool (g i j)) s->wpAny (model X.prog X.w) X.A (f (.int i t) (.int j u)) Q E s) :
  jV X f (pS λi j=>.bl (g i j)):=by
 intro pins s σ H x y v u Q I rx ry h;obtain⟨i,j,rfl,rfl,q⟩:=h;obtain⟨t,rfl⟩:=rx;obtain⟨t',rfl⟩:=ry;exact rule i j t t' s _ _ ⟨.bl (g i j),H,I,rfl,q⟩
abbrev zt(i j:Int):Prop:=0<j/\j<1073741824
abbrev zu(i j:Int):Prop:=0<=j/\j<=1000000/\i.natAbs<2 ^ 64
abbrev rG(i j:Int):Prop:=(-(2 ^ 64)<i/\i<2 ^ 64)\/(-(2 ^ 64)<j/\j<2 ^ 64)
def rG.ok{i j:Int}(h:rG i j):IntMulOk i j:=by
 rcases h with⟨h1,h2⟩|⟨h1,h2⟩
 exact .of_left (intBits_le_64 h1 h2);exact .of_right (intBits_le_64 h1 h2)
def oh:jV X (binaryOp .Add) (pS λi j=>.int (i+j)):=Fz λ_ _ _ _ _ _ _ q=>add_int q
def sR:jV X (binaryOp .Mult) (rI rG λi j=>.int (i*j)):=C6 λ_ _ _ _ _ _ _ hc q=>mul_int q hc.ok
def IB:jV X (binaryOp .FloorDiv) (rI zt λi j=>.int (i / j)):=C6 λi j _ _ _ _ _ hc q=>by
 have h1:(0:Int)<j:=hc.1;have h2:j<1073741824:=hc.2;exact floordiv_int ⋯ (by rw[Int.fdiv_eq_ediv_of_nonneg i ⋯];exact q) (.inl (PyProof.noPylong_small ⋯))
def q4:jV X (binaryOp .Mod) (rI (λ_ j=>0<j) λi j=>.int (i % j)):=C6 λi j _ _ _ _ _ hc q=>by
 have h1:(0:Int)<j:=hc;exact mod_int' ⋯ (by rw[Int.fmod_eq_emod_of_nonneg i ⋯];exact q)
def IC:jV X (binaryOp .Pow) (rI zu λi j=>.int (i ^ j.toNat)):=C6 λ_ _ _ _ _ _ _ hc q=>pow_int_small hc.1 hc.2.1 hc.2.2 q
def MX{f:Value->Sem Value}{g:Int->Int}
  (rule:∀(i:Int) (t:Tok) (s:Shared) (Q:Value->Shared->Prop) (E:Value->Shared->Prop),Q (.int (g i) s.toks) { s with toks:=s.toks+1 }->wpAny (model X.prog X.w) X.A (f (.int i t)) Q E s) :
  Fy X f (rU λi=>.int (g i)):=by
 intro pins s σ H x v Q I rx h;obtain⟨i,rfl,q⟩:=h;obtain⟨t,rfl⟩:=rx;exact rule i t s _ _ ⟨.int (g i),H,I.tok _,⟨_,rfl⟩,q⟩
def C7:Fy X (unaryOp .USub) (rU λi=>.int (-i)):=MX λ_ _ _ _ _ q=>neg_int q
end
abbrev nG:V->V->Bool
 |.non,.non=>true|.non,.int _=>true|.int _,.non=>true|.non,.bl _=>true|.bl _,.non=>true|.non,.str _=>true|.str _,.non=>true
 |.int _,.int _=>true|.bl _,.bl _=>true|.str _,.str _=>true|.pK _,.pK _=>true
 |.int _,.str _=>true|.str _,.int _=>true|.bl _,.str _=>true|.str _,.bl _=>true
 |_,_=>false
abbrev IE:R2:=λx y H Q=>nG x y=true/\Q (.bl (decide (x=y))) H
abbrev IF:R2:=λx y H Q=>nG x y=true/\Q (.bl (!decide (x=y))) H
def IG{i j:Int}:decide (V.int i=V.int j)=(i == j):=by rw[WL];simp
def IH{i j:Bool}:decide (V.bl i=V.bl j)=(i == j):=by rw[WL];simp
def II{i j:Str}:decide (V.str i=V.str j)=(i == j):=by rw[WL];simp
def IJ{i j:Array UInt8}:decide (V.pK i=V.pK j)=(i.toList == j.toList):=by rw[WL];cases i;cases j;simp
section
variable {X:Cx}{a b c:Expr}{ta tb tc:TE}{pos:Pos}
def iR{pins:List (Addr×Obj)}{σ:St}{H:Hp}{s:Shared}{Q:VK}{k k':Bool}(I:Inv X pins σ H s)(q:Q (.bl k) H)(e:k=k'):EP X pins σ Q (.bool k') s:=by subst e;exact⟨.bl k,H,I,rfl,q⟩
def sS:jV X (compareOp .Eq) IE:=by
 intro pins s σ H x y v u Q I rx ry h;obtain⟨hs,q⟩:=h;cases x with
 |non =>
  cases rx;cases y with
  |non=>cases ry;exact PySem.EqNone.eq_none_none (iR I q (by simp))
  |bl j=>cases ry;exact PySem.EqNone.eq_none_bool (iR I q (by simp))
  |int j=>obtain⟨t',rfl⟩:=ry;exact PySem.EqNone.eq_none_int (iR I q (by simp))
  |str j=>obtain⟨t',rfl⟩:=ry;exact PySem.EqNone.eq_none_str (iR I q (by simp))
  |_=>exact absurd (show false=true from hs) Vs
 |bl i =>
  cases rx;cases y with
  |non=>cases ry;exact PySem.EqNone.eq_bool_none (iR I q (by simp))
  |bl j=>cases ry;exact eq_bool (iR I q IH)
  |str j=>obtain⟨t',rfl⟩:=ry;exact PySem.EqMixed.eq_bool_str (iR I q (by simp))
  |_=>exact absurd (show false=true from hs) Vs
 |int i =>
  obtain⟨t,rfl⟩:=rx;cases y with
  |non=>cases ry;exact PySem.EqNone.eq_int_none (iR I q (by simp))
  |int j=>obtain⟨t',rfl⟩:=ry;exact eq_int (iR I q IG)
  |str j=>obtain⟨t',rfl⟩:=ry;exact PySem.EqMixed.eq_int_str (iR I q (by simp))
  |_=>exact absurd (show false=true from hs) Vs
 |str i =>
  obtain⟨t,rfl⟩:=rx;cases y with
  |non=>cases ry;exact PySem.EqNone.eq_str_none (iR I q (by simp))
  |bl j=>cases ry;exact PySem.EqMixed.eq_str_bool (iR I q (by simp))
  |int j=>obtain⟨t',rfl⟩:=ry;exact PySem.EqMixed.eq_str_int (iR I q (by simp))
  |str j=>obtain⟨t',rfl⟩:=ry;exact eq_str (iR I q II)
  |_=>exact absurd (show false=true from hs) Vs
 |pK i =>
  obtain⟨t,rfl⟩:=rx;cases y with
  |pK j=>obtain⟨t',rfl⟩:=ry;exact PySem.W.eq_bytes (iR I q IJ)
  |_=>exact absurd (show false=true from hs) Vs
 |_=>cases y<;>exact absurd (show false=true from hs) Vs
def FA:jV X (compareOp .NotEq) IF:=by
 intro pins s σ H x y v u Q I rx ry h;obtain⟨hs,q⟩:=h;cases x with
 |non =>
  cases rx;cases y with
  |non=>cases ry;exact PySem.EqNone.ne_none_none (iR I q (by simp))
  |bl j=>cases ry;exact PySem.EqNone.ne_none_bool (iR I q (by simp))
  |int j=>obtain⟨t',rfl⟩:=ry;exact PySem.EqNone.ne_none_int (iR I q (by simp))
  |str j=>obtain⟨t',rfl⟩:=ry;exact PySem.EqNone.ne_none_str (iR I q (by simp))
  |_=>exact absurd (show false=true from hs) Vs
 |bl i =>
  cases rx;cases y with
  |non=>cases ry;exact PySem.EqNone.ne_bool_none (iR I q (by simp))
  |bl j=>cases ry;exact ne_bool (iR I q (congrArg not IH))
  |str j=>obtain⟨t',rfl⟩:=ry;exact PySem.EqMixed.ne_bool_str (iR I q (by simp))
  |_=>exact absurd (show false=true from hs) Vs
 |int i =>
  obtain⟨t,rfl⟩:=rx;cases y with
  |non=>cases ry;exact PySem.EqNone.ne_int_none (iR I q (by simp))
  |int j=>obtain⟨t',rfl⟩:=ry;exact ne_int (iR I q (congrArg not IG))
  |str j=>obtain⟨t',rfl⟩:=ry;exact PySem.EqMixed.ne_int_str (iR I q (by simp))
  |_=>exact absurd (show false=true from hs) Vs
 |str i =>
  obtain⟨t,rfl⟩:=rx;cases y with
  |non=>cases ry;exact PySem.EqNone.ne_str_none (iR I q (by simp))
  |bl j=>cases ry;exact PySem.EqMixed.ne_str_bool (iR I q (by simp))
  |int j=>obtain⟨t',rfl⟩:=ry;exact PySem.EqMixed.ne_str_int (iR I q (by simp))
  |str j=>obtain⟨t',rfl⟩:=ry;exact ne_str (iR I q (congrArg not II))
  |_=>exact absurd (show false=true from hs) Vs
 |pK i =>
  obtain⟨t,rfl⟩:=rx;cases y with
  |pK j=>obtain⟨t',rfl⟩:=ry;exact PySem.W.ne_bytes (iR I q (congrArg not IJ))
  |_=>exact absurd (show false=true from hs) Vs
 |_=>cases y<;>exact absurd (show false=true from hs) Vs
def C8:jV X (compareOp .Lt) (pS λi j=>.bl (decide (i<j))):=va λ_ _ _ _ _ _ _ q=>lt_int q
def C9:jV X (compareOp .Gt) (pS λi j=>.bl (decide (j<i))):=va λ_ _ _ _ _ _ _ q=>gt_int q
def zv:jV X (compareOp .GtE) (pS λi j=>.bl (decide (j<=i))):=va λ_ _ _ _ _ _ _ q=>ge_int q
def MY:jV X (compareOp .IsNot) (λx y H Q=>y=.non/\Q (.bl (!decide (x=.non))) H):=by
 intro pins s σ H x y v u Q I rx ry h;obtain⟨rfl,q⟩:=h;cases ry;refine isnot_none_gen (iR I q ?_);cases x<;>first
  |(cases rx;rfl)
  |(obtain⟨t,rfl⟩:=rx;rfl)
def bg(b:Expr){op:CmpOp}(h:op≠.In:=by decide)(h2:op≠.NotIn:=by decide):behindInMarks op b=false:=by
 have e1:(op == CmpOp.In)=false:=by cases op<;>first|rfl|exact absurd rfl h
 have e2:(op == CmpOp.NotIn)=false:=by cases op<;>first|rfl|exact absurd rfl h2
 cases b<;>simp[behindInMarks,e1,e2]
abbrev sU(t:TE):TT:=λσ H Q=>t σ H λx H'=>∃k,x=.bl k/\Q k H'
def iS{op:CmpOp}{r:R2}(ho:jV X (compareOp op) r)(ha:PE X a ta)(hb:PE X b tb)(hm:behindInMarks op b=false):PT X (.Compare a [op] [b] pos) (sU (C4 r ta tb)):=by
 intro pins s σ H Q I h
 refine wpAny_isTrue_Compare1 (bM (ha pins s σ H _ I h) λv s1 ⟨x,H1,I1,r1,q1⟩=>bM (hb pins s1 σ H1 _ I1 q1) λu s2 ⟨y,H2,I2,r2,q2⟩ =>
  bM (ho pins s2 σ H2 x y v u _ I2 r1 r2 q2) λc s3 ⟨z,H3,I3,r3,k,e,q3⟩=>?_) hm
 subst e;cases r3;exact wpAny_truthy_bool ⟨H3,I3,q3⟩
def lM:(sizeLine:Nat)<2 ^ 63:=by rw[sizeLine_eq];decide
def vals1{x:V}{us:List Value}(r:Vals [x] us):∃u,us=[u]/\RelV x u:=by
 cases r with
 |cons r1 r2=>cases r2;exact⟨_,rfl,r1⟩
def vals2{x y:V}{us:List Value}(r:Vals [x,y] us):∃u w',us=[u,w']/\RelV x u/\RelV y w':=by
 cases r with
 |cons r1 r2 =>
  cases r2 with
  |cons r3 r4=>cases r4;exact⟨_,_,rfl,r1,r3⟩
end
structure rg(K:Zfr)(C:Addr)(f:Str)(v:V)(u:Value):Prop where
 at_:PySem.W.findIn K (.ref C) f=some (some u)
 rel:RelV v u
 get:PySem.W.specialIn K u "__get__" = some none
 cp:PySem.W.copiedNames.contains f=false
structure cM(k:Nat)(A:Around):Prop where
 hd:A.handled=none
 dp:A.depth+3*k+5<recursionLimit
 un:A.units+16*k+200<cLine
 gd:A.guards=some []
def cM.mono{j k:Nat}{A:Around}(r:cM k A)(h:j<=k):cM j A:=⟨r.hd,by have:=r.dp;lk,by have:=r.un;lk,r.gd⟩
def cM.deeper{k:Nat}{A:Around}(r:cM (k+1) A)(env:Env):cM k (A.deeper env) :=
 ⟨r.hd,by have:=r.dp;show A.depth+1+3*k+5<_;lk,by have:=r.un;show A.units+3+16*k+200<_;lk,r.gd⟩
def MZ{A:Around}{C:Addr}{us:List Value}{kw:List (Str×Value)}:(A.under (.builtin "type.__call__" ⟨.ref C :: us,kw⟩)).depth=A.depth+1:=by first|rfl|simp[Around.under,Code.weight,Code.isCreation,Code.isGuard,Code.isCaller,Code.frames,Code.isFrame,guardIds]
def M0{A:Around}{C:Addr}{us:List Value}{kw:List (Str×Value)}:(A.under (.builtin "type.__call__" ⟨.ref C :: us,kw⟩)).units=A.units+1:=by first|rfl|simp[Around.under,Code.cUnits,Code.frames,Code.isFrame]
def M1{A:Around}{C:Addr}{us:List Value}{kw:List (Str×Value)}:(A.under (.builtin "type.__call__" ⟨.ref C :: us,kw⟩)).guards=A.guards:=by first|rfl|simp[Around.under,Code.guards,Code.isGuard,pushGuards,guardIds]
def cM.make{k:Nat}{A:Around}(r:cM (k+1) A)(C:Addr)(us:List Value)(kw:List (Str×Value)):cM k (A.under (.builtin "type.__call__" ⟨.ref C :: us,kw⟩)) :=
 ⟨r.hd,by have:=r.dp;rw[MZ];lk,by have:=r.un;rw[M0];lk,by rw[M1];exact r.gd⟩
def cM.depth{k:Nat}{A:Around}(r:cM k A):A.depth<recursionLimit:=by have:=r.dp;lk
def cM.units{k:Nat}{A:Around}(r:cM k A):A.units+64<cLine:=by have:=r.un;lk
abbrev zw:TA:=λ_ H Q=>Q [] H
abbrev sW(ta:TE)(tr:TA):TA:=λσ H Q=>ta σ H λx H1=>tr σ H1 λxs H2=>Q (x :: xs) H2
section
variable {X:Cx}{e:Expr}{es:List Expr}{te:TE}{t:TA}{pos:Pos}
def az:PA X [] zw:=λ_ _ _ _ H Q I h=>Calls.spliced_nil ⟨[],H,I,.nil,h⟩
def M3(ha:PE X e te)(hr:PA X es t)(hs:starEach (e :: es) X.env=(false,eval e X.env) :: starEach es X.env:=by rfl):PA X (e :: es) (sW te t):=by intro pos pins s σ H Q I h;rw[hs];show wpAny _ _ (spliced ((false,eval e X.env) :: backTo pos (starEach es X.env))) _ _ s;refine Calls.spliced_cons (bM (ha pins s σ H _ I h) λu s1 ⟨x,H1,I1,r1,q1⟩=>?_);exact bM (hr pos pins s1 σ H1 _ I1 q1) λus s2 ⟨xs,H2,I2,r2,q2⟩=>⟨x :: xs,H2,I2,.cons r1 r2,q2⟩
abbrev zx(t:TA):TE:=λσ H Q=>t σ H λxs H1=>xs.length<=sizeLine/\∀p,H1 p=none->Q (.ref p) (upd H1 p (.tup xs))
abbrev zy(t:TA):TE:=λσ H Q=>t σ H λxs H1=>xs.length<=sizeLine/\∀p,H1 p=none->Q (.ref p) (upd H1 p (.lst xs))
def lj{x1}(h:PA X es t):PE X (.Tuple es x1 pos) (zx t):=by intro pins s σ H Q I hq;refine wpAny_Tuple_spliced (bM (h pos pins s σ H _ I hq) λus s1 ⟨xs,H1,I1,r,z,q⟩=>⟨by rw[<- r.length];exact z,?_⟩);have hf:H1 s1.heap.objs.size=none:=I1.hok.fresh (Vp _);refine⟨.ref s1.heap.objs.size,upd H1 s1.heap.objs.size (.tup xs),I1.laid (t':=s1.toks) (λb u e=>Vo _ e) (Vp _) ?_,rfl,q _ hf⟩;exact⟨z,us,r,⟨_,VF _ rfl,rfl,rfl,_,rfl⟩⟩
def ki(h:PA X es t):PE X (.List es pos) (zy t):=by intro pins s σ H Q I hq;refine wpAny_List_spliced (bM (h pos pins s σ H _ I hq) λus s1 ⟨xs,H1,I1,r,z,q⟩=>⟨by rw[<- r.length];exact z,?_⟩);have hf:H1 s1.heap.objs.size=none:=I1.hok.fresh (Vp _);refine⟨.ref s1.heap.objs.size,upd H1 s1.heap.objs.size (.lst xs),I1.laid (t':=s1.toks) (λb u e=>Vo _ e) (Vp _) ?_,rfl,q _ hf⟩;exact⟨z,us,0,r,VF _ rfl⟩
end
@[reducible]def Sp:=List V->Hp->VK->XK->Prop
@[reducible]def nH:=List Env->Hp->Shared->XK->Value->Shared->Prop
structure nI(P:Program)(w:World)(K:Zfr)(mg:Str->Option Value)(base:Heap)(A:Around)(outer:List Env)(s:Shared)(H:Hp):Prop where
 frames:A.frames=some outer
 mod:Mod K mg base
 bs:∀b o,base.get? b=some o->s.heap.get? b=some o/\H b=none
 pz:base.objs.size<=s.heap.objs.size
 iQ:s.heap.FunFrames base outer
 qX:∀b∈frs outer,H b=none
 hok:gO P w H s.heap
 bare:AllBare s.gens
abbrev CE(outer:List Env)(P:Program)(w:World)(H:Hp)(s:Shared)(Q:VK)(u:Value)(s':Shared):Prop :=
 ∃v H',s'.os=s.os/\AllBare s'.gens/\Un (frs outer) [] H H' s.heap s'.heap/\gO P w H' s'.heap/\RelV v u/\Q v H'
abbrev CR(CX:nH)(outer:List Env)(P:Program)(w:World)(H:Hp)(s:Shared)(Q:VK)(E:XK)(r:Result)(s':Shared):Prop :=
 match r with
 |.ok (.ret u)=>CE outer P w H s Q u s'
 |.ok _=>False
 |.error e=>CX outer H s E e s'
structure aC(P:Program)(w:World)(K:Zfr)(mg:Str->Option Value)(base:Heap)(CX:nH)(k:Nat)(f:Addr)(fd:FuncData)(ps:List Str)(sp:Sp):Prop where
 len:∀vs H Q E,sp vs H Q E->vs.length=ps.length
 run:∀(A:Around) (outer:List Env) (s:Shared) (H:Hp) (args:Args) (us:List Value) (vs:List V) (Q:VK) (E:XK),cM k A->nI P w K mg base A outer s H->BindsTo s fd args (ps.zip us)->Vals vs us->sp vs H Q E ->
  codeAny (model P w) A (.call (.ref f) args) (CR CX outer P w H s Q E) s
def aC.imp{P:Program}{w:World}{K:Zfr}{mg:Str->Option Value}{base:Heap}{CX:nH}{k:Nat}{f:Addr}{fd:FuncData}{ps:List Str}{sp IK:Sp}(F:aC P w K mg base CX k f fd ps sp)
  (h:∀vs H Q E,IK vs H Q E->sp vs H Q E):aC P w K mg base CX k f fd ps IK :=
 ⟨λvs H Q E q=>F.len vs H Q E (h _ _ _ _ q),λA outer s H args us vs Q E hr he hb hv hs=>F.run A outer s H args us vs Q E hr he hb hv (h _ _ _ _ hs)⟩
def nI.make{P:Program}{w:World}{K:Zfr}{mg:Str->Option Value}{base:Heap}{A:Around}{outer:List Env}{s:Shared}{H:Hp}(e:nI P w K mg base A outer s H)(C:Addr)(us:List Value)(kw:List (Str×Value)):
  nI P w K mg base (A.under (.builtin "type.__call__" ⟨.ref C :: us,kw⟩)) outer s H:=⟨by first|exact e.frames|(simpa[Around.under,Code.envs,Code.isFrame,pushEnvs]using e.frames),e.mod,e.bs,e.pz,e.iQ,e.qX,e.hok,e.bare⟩
section
variable {X:Cx}{pins:List (Addr×Obj)}{σ:St}{H:Hp}{s s':Shared}
def Inv.vd(I:Inv X pins σ H s):nI X.prog X.w X.K X.mg X.base X.A X.stack s H :=
 ⟨I.ok.frames,I.ok.mod,I.bs,VH I.ok.pz I.sz,I.stack,I.lL,I.hok,I.bare⟩
def Inv.after{Q:VK}{u:Value}(I:Inv X pins σ H s)(h:CE X.stack X.prog X.w H s Q u s'):EP X pins σ Q u s':=by obtain⟨v,H',os,bare,un,hok,r,q⟩:=h;obtain⟨hh,g,d,t,os'⟩:=s';obtain rfl:os'=s.os:=os;exact⟨v,H',I.call (h':=hh) (g':=g) (d':=d) (t':=t) (ch:=[]) un hok bare (λb z=>absurd z (by simp)),r,q⟩
end
abbrev pT(sp:Sp)(nJ:List V)(E:XK)(t:TA):TE:=λσ H Q=>t σ H λvs H1=>sp (vs ++ nJ) H1 Q E
abbrev Binds(K:Zfr)(fd:FuncData)(ps:List Str)(ds:List Value):Prop :=
 ∀(s:Shared) (us:List Value),K.In s.heap->(us ++ ds).length=ps.length->BindsTo s fd ⟨us,[]⟩ (ps.zip (us ++ ds))
def Binds.all{K:Zfr}{fd:FuncData}{ps:List Str}(h:∀us:List Value,us.length=ps.length->bindArgs fd ⟨us,[]⟩=pure (ps.zip us)):Binds K fd ps []:=λs us _ hl=>by
 rw[V7]at hl ⊢;exact .of_eq (h us hl)
abbrev Passes(CX:nH)(X:Cx)(E:XK):Prop:=∀(pins:List (Addr×Obj)) (σ:St) (H:Hp) (s:Shared) (e:Value) (s':Shared),Inv X pins σ H s->CX X.stack H s E e s'->X.xe e s'
section
variable {X:Cx}{CX:nH}{k:Nat}{f C:Addr}{fd:FuncData}{ps:List Str}{sp:Sp}{nJ:List V}{ds:List Value}{E:XK}{x m:Str}{p pos apos:Pos}{e o:Expr}{es:List Expr}{ta:TE}{t:TA}
def ve{pins:List (Addr×Obj)}{σ:St}{H:Hp}{s:Shared}{Q:VK}{us:List Value}{vs:List V}(F:aC X.prog X.w X.K X.mg X.base CX k f fd ps sp)(hr:cM k X.A)(hb:Binds X.K fd ps ds)(hd:Vals nJ ds)(hx:Passes CX X E)
  (I:Inv X pins σ H s) (r:Vals vs us) (h:sp (vs ++ nJ) H Q E):wpAny (model X.prog X.w) X.A (call (.ref f) us) (EP X pins σ Q) X.xe s:=by
 have r2:Vals (vs ++ nJ) (us ++ ds):=r.append hd;have hl:(us ++ ds).length=ps.length:=by rw[<- r2.length];exact F.len _ _ _ _ h
 refine wpAny_call (codeAny_mono (F.run X.A X.stack s H ⟨us,[]⟩ (us ++ ds) (vs ++ nJ) Q E hr I.vd (hb s us I.og hl) r2 h) λr s' hq=>?_);cases r with
 |error e=>exact hx pins σ H s e s' I hq
 |ok fl =>
  cases fl with
  |ret u=>exact I.after hq
  |next=>exact False.elim hq
  |brk=>exact False.elim hq
  |cont=>exact False.elim hq
def M4(F:aC X.prog X.w X.K X.mg X.base CX k f fd ps sp)(hr:cM k X.A)(hg:Gl X x)(hm:X.mg x=some (.ref f))(hk:PySem.W.keepIn X.K (.ref f)=true)(hb:Binds X.K fd ps ds)(hd:Vals nJ ds)(hx:Passes CX X E)
  (ha:PA X (e :: es) t) (hdb:(x == ("__debug__" : Str))=false:=by decide) (he:starEach (e :: es) X.env=(false,eval e X.env) :: starEach es X.env:=by rfl) (hpl:(backTo pos (starEach es X.env)).any (·.1)=false:=by rfl) :
  PE X (.Call (.Name x p) (e :: es) [] pos) (pT sp nJ E t):=by
 intro pins s σ H Q I h;refine wpAny_Call_Name_kw (zd I hg hm ?_ hdb);refine PySem.W.callWith_K (h₀:=X.base) I.ok.mod.y8 hk (bM (ha pos pins s σ H _ I h) λus s1 ⟨vs,H1,I1,r,q⟩=>⟨I1.og,?_⟩) he hpl;exact ve F hr hb hd hx I1 r q
end
structure ax(N P:List Str)(sc:Scope):Prop where
 kind:sc.kind=.function
 co:sc.isCoroutine=false
 gen:sc.isGenerator=false
 nd:N.Nodup
 pre:N.take P.length=P
 par:∀x∈P,sc.names.lookup x=some .local\/sc.names.lookup x=some .cell
 vf:∀y∈sc.names,y.2≠.free
def IL{kindOf:Str->Option NameKind}{x:Str}:∀{binds:List (Str×Value)} {m:Str->Option Value},(∀v,(x,v) ∉ binds)->bindL kindOf binds m x=m x
 |[],_,_=>rfl
 |(n,v) :: r,m,h=>by
  unfold bindL;rw[IL λw hw=>h w (VA _ hw)];split
  have:x≠n:=by rintro rfl;exact h v Vw
  simp[this];rfl
def IP{kindOf:Str->Option NameKind}{x:Str}:∀{binds:List (Str×Value)} {m:Str->Option Value},(∀v,(x,v) ∉ binds)->bindC kindOf binds m x=m x
 |[],_,_=>rfl
 |(n,v) :: r,m,h=>by
  unfold bindC;rw[IP λw hw=>h w (VA _ hw)];split;rfl
  have:x≠n:=by rintro rfl;exact h v Vw
  simp[this]
def IQ{kindOf:Str->Option NameKind}{x:Str}{v:Value}:∀{P:List Str} {vs:List Value} {i:Nat} {m:Str->Option Value},P.Nodup->P[i]?=some x->vs[i]?=some v->kindOf x=some .local ->
  bindL kindOf (P.zip vs) m x=some v
 |[],_,_,_,_,h,_,_=>by simp at h
 |_ :: _,[],_,_,_,_,h,_=>by simp at h
 |p :: P,w :: vs,0,m,nd,h1,h2,hk=>by
  simp at h1 h2;subst h1;subst h2;show bindL kindOf ((p,w) :: P.zip vs) m p=_;unfold bindL;rw[IL λv hv=>(WM.mp nd).1 (List.of_mem_zip hv).1,if_pos hk];simp
 |p :: P,w :: vs,i+1,m,nd,h1,h2,hk=>by
  show bindL kindOf ((p,w) :: P.zip vs) m x=_;unfold bindL;exact IQ (i:=i) (WM.mp nd).2 (by simpa using h1) (by simpa using h2) hk
def IU{kindOf:Str->Option NameKind}{x:Str}{v:Value}:∀{P:List Str} {vs:List Value} {i:Nat} {m:Str->Option Value},P.Nodup->P[i]?=some x->vs[i]?=some v->kindOf x≠some .local ->
  bindC kindOf (P.zip vs) m x=some v
 |[],_,_,_,_,h,_,_=>by simp at h
 |_ :: _,[],_,_,_,_,h,_=>by simp at h
 |p :: P,w :: vs,0,m,nd,h1,h2,hk=>by
  simp at h1 h2;subst h1;subst h2;show bindC kindOf ((p,w) :: P.zip vs) m p=_;unfold bindC;rw[IP λv hv=>(WM.mp nd).1 (List.of_mem_zip hv).1,if_neg hk];simp
 |p :: P,w :: vs,i+1,m,nd,h1,h2,hk=>by
  show bindC kindOf ((p,w) :: P.zip vs) m x=_;unfold bindC;exact IU (i:=i) (WM.mp nd).2 (by simpa using h1) (by simpa using h2) hk
abbrev start(N:List Str)(vs:List V):St:=vs.map some ++ List.replicate (N.length-vs.length) none
abbrev dP(CX:nH)(P:Program)(w:World)(K:Zfr)(mg:Str->Option Value)(base:Heap)(N:List Str)(qual:Str)(scope:Scope)(f:Addr)(cd:Value)(A:Around)(outer:List Env)(s:Shared)(H:Hp)(E:XK):Cx where
 prog:=P
 w:=w
 K:=K
 mg:=mg
 base:=base
 A:=A.deeper (envOfC qual scope s.heap.objs.size f cd)
 N:=N
 s₀:=s
 H₀:=H
 env:=envOfC qual scope s.heap.objs.size f cd
 outer:=outer
 stack:=envOfC qual scope s.heap.objs.size f cd :: outer
 ex:=[]
 calm:=true
 fn:=λ_=>true
 pn:=[]
 xe:=λe s'=>wpAny (model P w) (A.deeper (envOfC qual scope s.heap.objs.size f cd)) («leaving» (envOfC qual scope s.heap.objs.size f cd) e) (λ_ s''=>CX outer H s E e s'') (λe' s''=>CX outer H s E e' s'') s'
def IV{sc:Scope}{n:Nat}{x:Str}(h:sc.names.lookup x=some .cell):∃c,(cellsFrom n sc.names []).lookup x=some c:=by have q:=PySem.W.cellsFrom_some sc.names n [] (.inl h);exact WS.mp q
def M5{CX:nH}{P:Program}{w:World}{K:Zfr}{mg:Str->Option Value}{base:Heap}{N ps:List Str}{qual:Str}{scope:Scope}{f:Addr}{cd:Value}{A:Around}{outer:List Env}{s s1:Shared}{H:Hp}{E:XK}{us:List Value}{vs:List V}
  (S:ax N ps scope) (hd:A.handled=none) (e0:nI P w K mg base A outer s H) (hl:vs.length=ps.length) (r:Vals vs us)
  (x:InCallC s s.heap.objs.size (bindL (envOfC qual scope s.heap.objs.size f cd).kindOf (ps.zip us) λ_=>none) (cellsFrom (s.heap.objs.size+1) scope.names []) (bindC (envOfC qual scope s.heap.objs.size f cd).kindOf (ps.zip us) λ_=>none) s1) :
  Inv (dP CX P w K mg base N qual scope f cd A outer s H E) [] (start N vs) H s1:=by
 have hpl:ps.length<=N.length:=by have:=congrArg List.length S.pre;rw[WH]at this;lk
 obtain⟨h1,tk,rfl,hk⟩:=x.done;have zz:∀b:Addr,b ∉ (dP CX P w K mg base N qual scope f cd A outer s H E).ex:=λb z=>absurd (show b∈([]:List Addr)from z) (by simp)
 refine⟨⟨e0.mod,S.kind,rfl,rfl,Vp _,λy z c h1 h2=>?_,λy hy=>?_,λy c _ h=>?_,λ_=>hd,Around.frames_deeper e0.frames,.inr ⟨rfl,rfl⟩,λb z=>absurd z (zz b),e0.bs,e0.pz,λb _ _=>zz b,λb z=>absurd z (zz b),e0.iQ,e0.qX⟩,
  rfl,e0.bare,Un.kept hk,⟨_,x.toInCall.ns,λi y v h1 h2 h3=>?_⟩,λy c h=>⟨_,x.cell y c h⟩,e0.hok.fresh (Vp _),λy c h=>?_,λp hp=>absurd (show p∈([]:List (Addr×Obj))from hp) (by simp),e0.hok.kept hk,?_⟩
 exact name_of_addr x.apart (PySem.mem_of_lookup h1) (PySem.mem_of_lookup h2);have hy:scope.names.lookup y=some .cell\/scope.names.lookup y=some .free:=hy;rcases hy with hy|hy
 exact IV hy;exact absurd rfl (S.vf _ (PySem.mem_of_lookup hy));exact Wg (x.above y c (PySem.mem_of_lookup h));have hi:i < vs.length:=by
  unfold start at h2;by_cases hi:i<vs.length;exact hi;rw[VM (by simpa using hi)]at h2;rw[WW]at h2;split at h2<;>cases h2
 have ha:vs[i]?=some v:=by
  unfold start at h2;rw[VC (by simpa using hi),Vr]at h2;cases e:vs[i]? with
  |none=>rw[e]at h2;cases h2
  |some a=>rw[e]at h2;cases h2;rfl
 obtain⟨u,hu,rv⟩:=r.get ha;have hp:ps[i]?=some y:=by
  rw[<- S.pre,List.getElem?_take_of_lt ⋯];exact h1
 have IW:ps.Nodup:=by rw[<- S.pre];exact S.nd.sublist (List.take_sublist _ _)
 refine⟨u,rv,?_⟩;rcases S.par y (Vv hp)with k|k
 exact .inl ⟨k,IQ IW hp hu k⟩;obtain⟨c,e⟩:=IV (n:=s.heap.objs.size+1) k;refine .inr ⟨.inl k,c,e,?_⟩;have q:=x.cell y c e;rw[IU IW hp hu (by show scope.names.lookup y≠_;rw[k];decide)]at q;exact q;exact e0.hok.fresh (Wg (x.above y c (PySem.mem_of_lookup h)));unfold start;show _=N.length;rw[Vq,Vl,W4];lk
def sX{CX:nH}{P:Program}{w:World}{K:Zfr}{mg:Str->Option Value}{base:Heap}{k:Nat}{f:Addr}{name qual:Str}{params:Arguments}{body:List Stmt}{scope:Scope}{dV kV doc pm cdv ct oc:Value}{an od:Option Addr}
  {osl:Array (Option Value)} {N ps:List Str} {sp:Sp} (lk:K.lookup f=some ⟨oc,od,.func (PySem.W.fnOf name qual params body scope dV kV doc pm an cdv ct),osl⟩) (hcd:PySem.W.codeIn K cdv qual=true) (S:ax N ps scope)
  (len:∀vs H Q E,sp vs H Q E->vs.length=ps.length)
  (hbody:∀(A:Around) (outer:List Env) (s:Shared) (H:Hp) (vs:List V) (Q:VK) (E:XK),cM k (A.deeper (envOfC qual scope s.heap.objs.size f cdv))->sp vs H Q E ->
   ∃t,ny (dP CX P w K mg base N qual scope f cdv A outer s H E) body t/\t { nx:=λ_ H'=>Q .non H',rt:=Q } (start N vs) H) :
  aC P w K mg base CX (k+1) f (PySem.W.fnOf name qual params body scope dV kV doc pm an cdv ct) ps sp:=by
 refine⟨len,λA outer s H args us vs Q E hr e0 hb r pA=>?_⟩;have hl:=len _ _ _ _ pA;have KX:K.In s.heap:=e0.mod.y8.keeps λb o e=>(e0.bs b o e).1;have lim:s.heap.NoLimit:=e0.mod.nolimit.keeps λb o e=>(e0.bs b o e).1;have hkind:∀y∈ps.zip us,scope.names.lookup y.1=some .local\/(scope.names.lookup y.1=some .cell/\((cellsFrom (s.heap.objs.size+1) scope.names []).lookup y.1).isSome=true):=λ⟨n,v⟩ hy=>by
  rcases S.par n (List.of_mem_zip hy).1 with q|q
  ·exact .inl q
  ·exact .inr ⟨q,PySem.W.cellsFrom_some _ _ _ (.inl q)⟩
 refine codeAny_call_function hr.depth (KX _ _ lk) rfl S.co S.gen rfl (PySem.W.codeRec_of KX hcd) (hb _ _ _ _ ?_);refine wpAny_newFunctionEnv_cells S.kind hkind λenv he s1 x=>?_;subst he;refine⟨lim.keeps x.toInCall.keep,codeAny_func ?_⟩;obtain⟨t,ht,hq⟩:=hbody A outer s H vs Q E (hr.deeper _) pA;have I:Inv (dP CX P w K mg base N qual scope f cdv A outer s H E) [] (start N vs) H s1:=M5 S hr.hd e0 hl r x;refine wpAny_mono (ht [] s1 (start N vs) H _ I hq) (λfl s' hs=>?_) λe s' hs=>hs;have fin:∀{σ':St} {H':Hp} {v:V} {u:Value},Inv (dP CX P w K mg base N qual scope f cdv A outer s H E) [] σ' H' s'->RelV v u->Q v H'->CE outer P w H s Q u s' :=
  λ{σ' H' v u} J rv q=>⟨v,H',J.os,J.bare,J.base,J.hok,rv,q⟩
 cases fl with
 |ret u =>
  obtain⟨v,σ',H',J,rv,q⟩:=hs;exact fin J rv q
 |next =>
  obtain⟨σ',H',J,q⟩:=hs;exact fin (v:=V.non) (u:=Value.none) J rfl q
 |brk =>
  obtain⟨_,_,_,q⟩:=hs;exact False.elim q
 |cont =>
  obtain⟨_,_,_,q⟩:=hs;exact False.elim q
section
variable {X:Cx}{x:Str}{p pos:Pos}{e:Expr}{es:List Expr}{t:TA}{id T:String}{r:List V->Hp->VK->Prop}
abbrev FC(r:List V->Hp->VK->Prop)(t:TA):TE:=λσ H Q=>t σ H λvs H1=>r vs H1 Q
def ji(hc:eN X (.builtin id) r)(hg:Gl X x)(hm:X.mg x=none)(hv:bootBuiltins x=some (.builtin id))(ha:PA X (e :: es) t)(hn:x≠"__name__" := by decide)(hdb:(x == ("__debug__" : Str))=false:=by decide)
  (he:starEach (e :: es) X.env=(false,eval e X.env) :: starEach es X.env:=by rfl) (hpl:(backTo pos (starEach es X.env)).any (·.1)=false:=by rfl):PE X (.Call (.Name x p) (e :: es) [] pos) (FC r t):=by
 intro pins s σ H Q I h;refine wpAny_Call_Name_kw (yh I hg hm hv ?_ hn hdb);exact PyProof.Rows.callWith_builtin1 (bM (ha pos pins s σ H _ I h) λus s1 ⟨vs,H1,I1,r1,q1⟩=>hc pins s1 σ H1 vs us Q I1 r1 q1) he hpl
def fS(hc:eN X (.type T) r)(hg:Gl X x)(hm:X.mg x=none)(hv:bootBuiltins x=some (.type T))(ha:PA X (e :: es) t)(hn:x≠"__name__" := by decide)(hdb:(x == ("__debug__" : Str))=false:=by decide)
  (he:starEach (e :: es) X.env=(false,eval e X.env) :: starEach es X.env:=by rfl) (hpl:(backTo pos (starEach es X.env)).any (·.1)=false:=by rfl):PE X (.Call (.Name x p) (e :: es) [] pos) (FC r t):=by
 intro pins s σ H Q I h;refine wpAny_Call_Name_kw (yh I hg hm hv ?_ hn hdb);exact PyProof.Rows.callWith_type1 (bM (ha pos pins s σ H _ I h) λus s1 ⟨vs,H1,I1,r1,q1⟩=>hc pins s1 σ H1 vs us Q I1 r1 q1) he hpl
end
end L2
namespace HT
open PySem PyProof.Rows
def M6(A:Around)(s:Shared)(a:Int)(t:Tok)(c:Int)(u:Tok):∃e,SeqAt.EqAt A s (.int a t) (.int c u) e/\(e=true↔a=c) :=
 ⟨(a == c),SeqAt.EqAt.int_int a t c u,by simp⟩
section
variable {prog:Program}{w:World}{A:Around}{E:Value->Shared->Prop}{s:Shared}
def M7{t b:Addr}{vs ws:List Value}{Q:Value->Shared->Prop}(ht:IsTup s.heap t vs.toArray)(hb:IsTup s.heap b ws.toArray)(hv:vs≠[])
  (h1:ws=[]->Q (.ref t) s) (h2:ws≠[]->Q (.ref s.heap.objs.size) { s with heap:=s.heap.push { cls:=.type "tuple",data:=.seq (vs ++ ws).toArray } })
  (hsz:vs.length+ws.length<=sizeLine):wpAny (model prog w) A (binaryOp .Add (.ref t) (.ref b)) Q E s:=by
 obtain⟨⟨cls,dd,data,sl⟩,ho,hc,n,hd⟩:=id ht;obtain⟨⟨FD,dd2,data2,sl2⟩,ho2,hc2,n2,hd2⟩:=id hb;simp only at hc hd hc2 hd2;subst hc hd hc2 hd2;have e:vs.toArray ++ ws.toArray=(vs ++ ws).toArray:=by simp
 by_cases hw:ws=[];exact concat_meets ⟨_,ho,rfl⟩ ⟨_,ho2,rfl⟩ noFill_tuple_add seq_tuple_add PySem.F.slot_tuple_add PySem.F.entry_tuple_add (PySem.F.args_tuple_add_2 _ _)
  (tuple_addW1 t b vs.toArray ws.toArray n n2 dd dd2 sl sl2 (by simpa using hv) (by simp[hw])) ⟨ho,ho2,h1 hw⟩
 refine concat_meets ⟨_,ho,rfl⟩ ⟨_,ho2,rfl⟩ noFill_tuple_add seq_tuple_add PySem.F.slot_tuple_add PySem.F.entry_tuple_add (PySem.F.args_tuple_add_2 _ _)
  (tuple_addW2 t b vs.toArray ws.toArray n n2 dd dd2 sl sl2 (by simpa using hv) (by simpa using hw) (by rw[Vt,Vt];exact hsz)) ⟨ho,ho2,?_⟩
 rw[e];exact h2 hw
abbrev bP(n d:Nat):Option Int->Nat
 |none=>d
 |some v=>if v<0 then(v+(n:Int)).toNat else min v.toNat n
def M8(n d:Nat):bP n d none=d:=rfl
def M9(n d k:Nat):bP n d (some (k:Int))=min k n:=by show(if(k:Int)<0 then((k:Int)+(n:Int)).toNat else min (k:Int).toNat n)=min k n;rw[if_neg ⋯,VB]
def vg(n d:Nat)(hd:d<=n)(o:Option Int):bP n d o<=n:=by
 cases o with
 |none=>exact hd
 |some v =>
  show(if v<0 then(v+(n:Int)).toNat else min v.toNat n)<=n;by_cases hv:v<0;rw[if_pos hv];lk;rw[if_neg hv];exact Nat.min_le_right _ _
def IX(v:Int)(n d:Nat):(if v<0 then max (v+(n:Int)) 0 else min v (n:Int))=((bP n d (some v):Nat):Int):=by show(if v<0 then max (v+(n:Int)) 0 else min v (n:Int))=(((if v<0 then(v+(n:Int)).toNat else min v.toNat n):Nat):Int);by_cases hv:v<0;simp only[if_pos hv];lk;simp only[if_neg hv];lk
def Na(lo hi:Option Int)(n:Nat):Builtin.Slice.sliceAdjust lo hi 1 (n:Int)=(((bP n 0 lo:Nat):Int),((bP n n hi:Nat):Int)):=by
 have h1:¬((1:Int)<0):=by lk
 unfold Builtin.Slice.sliceAdjust;simp only[h1,if_false];refine Prod.ext ?_ ?_;cases lo with
 |none=>rfl
 |some v=>exact IX v n 0
 cases hi with
 |none=>rfl
 |some v=>exact IX v n n
def Nb(i j:Nat):Builtin.Slice.slicePlaces (i:Int) (j:Int) 1=j-i:=by
 unfold Builtin.Slice.slicePlaces;have h1:(1:Int) > 0:=by lk
 simp only[h1,if_true,Int.ediv_one];split<;>lk
def IY{v:Value}{o:Option Int}{Q:Option Int->Shared->Prop}(p:IsPart v o)(h:Q o s):wpAny (model prog w) A (Builtin.Slice.slicePartIndex v) Q E s:=by
 cases p with
 |none=>exact slicePart_none h
 |int i t=>exact slicePart_int h
def IZ{sl:Addr}{vl vu:Value}{lo hi:Option Int}{n:Nat}{Q:Int×Int×Nat->Shared->Prop}(hs:s.heap.IsSliceOf sl vl vu .none)(pl:IsPart vl lo)(pu:IsPart vu hi)
  (h:Q (((bP n 0 lo:Nat):Int),1,bP n n hi-bP n 0 lo) s):wpAny (model prog w) A (Builtin.Slice.sliceApplied (.ref sl) (pure (n:Int))) Q E s:=by
 obtain⟨os,hos,hcs,hds⟩:=id hs;unfold Builtin.Slice.sliceApplied Builtin.Slice.sliceFields;refine wpAny_bind (wpAny_bind (wpAny_field hos hds (x:=vl) rfl (wpAny_bind (wpAny_field hos hds (x:=vu) rfl (wpAny_bind (wpAny_field hos hds (x:=.none) rfl (wpAny_pure ?_)))))));refine wpAny_bind (slicePart_none ?_);show wpAny _ _ (if((1:Int) == 0)=true then _ else _) _ _ s;rw[if_neg ∅];refine wpAny_bind (IY pl (wpAny_bind (IY pu (wpAny_bind (wpAny_pure ?_)))));show wpAny _ _ (match Builtin.Slice.sliceAdjust lo hi 1 (n:Int)with|(lo,hi)=>pure (lo,(1:Int),Builtin.Slice.slicePlaces lo hi 1)) _ _ s;rw[Na lo hi n];show wpAny _ _ (pure (((bP n 0 lo:Nat):Int),(1:Int),Builtin.Slice.slicePlaces ((bP n 0 lo:Nat):Int) ((bP n n hi:Nat):Int) 1)) _ _ s;rw[Nb];exact wpAny_pure h
def Nc(xs:Array Value)(i k:Nat):((List.range k).filterMap λ(m:Nat)=>xs[((i:Int)+(m:Int)*1).toNat]?).toArray=((xs.toList.drop i).take k).toArray:=by
 have e:(λ(m:Nat)=>xs[((i:Int)+(m:Int)*1).toNat]?)=λm=>xs[i+m]?:=by
  funext m
  have:((i:Int)+(m:Int)*1).toNat=i+m:=by lk
  rw[this]
 rw[e];have:=pick_run xs i k;rw[List.filterMap_map]at this;have e2:((λx=>xs[x]?) ∘ λx=>i+x)=λm=>xs[i+m]?:=rfl;rw[e2]at this;rw[this]
def Nd{t sl:Addr}{items:Array Value}{vl vu:Value}{lo hi:Option Int}{Q:Value->Shared->Prop}(ht:IsTup s.heap t items)(hs:s.heap.IsSliceOf sl vl vu .none)(pl:IsPart vl lo)(pu:IsPart vu hi)
  (hw:¬(bP items.size 0 lo=0/\bP items.size items.size hi=items.size))
  (h:Q (.ref s.heap.objs.size) { s with heap:=s.heap.push { cls:=.type "tuple",data:=.seq ((items.toList.drop (bP items.size 0 lo)).take (bP items.size items.size hi-bP items.size 0 lo)).toArray } })
  (hsz:items.size<=sizeLine):wpAny (model prog w) A (getItem (.ref t) (.ref sl)) Q E s:=by
 have oi:sizeOk (.seq ((items.toList.drop (bP items.size 0 lo)).take (bP items.size items.size hi-bP items.size 0 lo)).toArray):=by
  show((items.toList.drop (bP items.size 0 lo)).take (bP items.size items.size hi-bP items.size 0 lo)).toArray.size<=sizeLine;rw[Vt,WH,XR,Wv];lk
 have hj:bP items.size items.size hi<=items.size:=vg _ _ (Vp _) hi;obtain⟨os,hos,hcs,hds⟩:=id hs;have FE:s.TypeIs (.ref sl) "slice" := ⟨os,hos,hcs⟩;unfold getItem
 try with_reducible refine wpAny_holding ?_
 first|refine wpAny_bind (wpAny_pure ?_)|skip
 refine wpAny_bind (wpAny_sequenceKey ht.typeIs ∅ ?_)
 refine wpAny_bind (wpAny_callSpecial?_slot (name:=Str.ofString "__getitem__") ht.typeIs PyProof.Rows.slot_tuple_getitem
  (wpAny_call_entry PyProof.Rows.slot_tuple_getitem ht.typeIs entry_tuple_getitem ?_ (args_tuple_getitem _ _)))
 show wpAny _ _ (Builtin.Tuple.tupleItemsOf (.ref t) >>= _) _ _ s;refine wpAny_bind (tupleItemsOf_ ht ?_);refine wpAny_bind (wpAny_typeOf FE ?_);rw[if_pos ∅];refine wpAny_bind (IZ hs pl pu ?_);have hno:¬((((bP items.size 0 lo:Nat):Int) == 0 && (1:Int) == 1 && (bP items.size items.size hi-bP items.size 0 lo) == items.size)=true):=by
  intro q;rw[VG,VG]at q;have q1:((bP items.size 0 lo:Nat):Int)=0:=eq_of_beq q.1.1;have q2:bP items.size items.size hi-bP items.size 0 lo=items.size:=eq_of_beq q.2;exact hw ⟨by lk,by lk⟩
 show wpAny _ _ (if(((bP items.size 0 lo:Nat):Int) == 0 && (1:Int) == 1 && (bP items.size items.size hi-bP items.size 0 lo) == items.size)=true then _ else _) _ _ s;rw[if_neg hno,Nc]
 first
  |exact wpAny_bind (m:=Builtin.Tuple.tupleExact _) (wpAny_newObj_type (wpAny_pure ⟨_,rfl,wpAny_pure h⟩) oi)
  |exact wpAny_bind (m:=Builtin.Tuple.tupleExact _) (wpAny_newObj_type (wpAny_bind (wpAny_pure (wpAny_pure ⟨_,rfl,wpAny_pure h⟩))) oi)
  |exact wpAny_bind (wpAny_bind (m:=Builtin.Tuple.tupleExact _) (wpAny_newObj_type (wpAny_pure (wpAny_pure ⟨_,rfl,wpAny_pure h⟩)) oi))
  |exact wpAny_bind (wpAny_bind (m:=Builtin.Tuple.tupleExact _) (wpAny_newObj_type (wpAny_pure ⟨_,rfl,wpAny_pure h⟩) oi))
end
end HT
namespace L2
open PySem PySem.Spec PyProof.Rows
@[reducible]def TO:=St->Hp->(Option Int->Hp->Prop)->Prop
abbrev PO(X:Cx)(e:Option Expr)(t:TO):Prop :=
 ∀(pins:List (Addr×Obj)) (s:Shared) (σ:St) (H:Hp) (Q:Option Int->Hp->Prop),Inv X pins σ H s->t σ H Q ->
  wpAny (model X.prog X.w) X.A (evalPart e X.env) (λu s'=>∃o H',Inv X pins σ H' s'/\IsPart u o/\Q o H') X.xe s
abbrev oj:TO:=λ_ H Q=>Q none H
abbrev sY(t:TE):TO:=λσ H Q=>t σ H λx H1=>∃i,x=.int i/\Q (some i) H1
def I0{ns:List Int}:∀{us:List Value},Vals (ns.map V.int) us->IntsAre us ns:=by
 induction ns with
 |nil=>intro us r;rw[Wl]at r;cases r;exact .nil
 |cons n ns ih =>
  intro us r;rw[VO]at r;cases r with
  |cons r1 r2 =>
   obtain⟨t,e⟩:=r1;subst e;exact .cons n t (ih r2)
section
variable {X:Cx}{e:Expr}{te:TE}{lo hi:Option Expr}{tl th:TO}{pos p2:Pos}
def FF:PO X none oj:=by intro pins s σ H Q I h;rw[evalPart_none];exact wpAny_pure ⟨none,H,I,.none,h⟩
def FG(h:PE X e te):PO X (some e) (sY te):=by intro pins s σ H Q I hw;rw[evalPart_some];refine bM (h pins s σ H _ I hw) λu s1 ⟨x,H1,I1,r1,q1⟩=>?_;obtain⟨i,rfl,q⟩:=q1;obtain⟨t,rfl⟩:=r1;exact⟨some i,H1,I1,.int i t,q⟩
abbrev Dc(X:Cx)(r:V->Option Int->Option Int->Hp->VK->Prop):Prop :=
 ∀(pins:List (Addr×Obj)) (s:Shared) (σ:St) (H:Hp) (x:V) (v vl vu:Value) (lo hi:Option Int) (sl:Addr) (Q:VK),Inv X pins σ H s->RelV x v->s.heap.IsSliceOf sl vl vu .none->IsPart vl lo->IsPart vu hi->r x lo hi H Q ->
  ∃T id,typeLookup (.type T) "__getitem__" = pure (some (.builtin id))/\s.TypeIs v T/\wpAny (model X.prog X.w) X.A (getItem v (.ref sl)) (EP X pins σ Q) X.xe s
abbrev Ja(r:V->Option Int->Option Int->Hp->VK->Prop)(te:TE)(tl th:TO):TE:=λσ H Q=>te σ H λx H1=>tl σ H1 λl H2=>th σ H2 λu H3=>r x l u H3 Q
def FH{r:V->Option Int->Option Int->Hp->VK->Prop}(hr:Dc X r)(he:PE X e te)(hl:PO X lo tl)(hu:PO X hi th):PE X (.Subscript e (.Slice lo hi none p2) pos) (Ja r te tl th):=by intro pins s σ H Q I h;refine Subscript_ (bM (he pins s σ H _ I h) λv s1 ⟨x,H1,I1,r1,q1⟩=>?_);refine wpAny_Slice (bM (hl pins s1 σ H1 _ I1 q1) λvl s2 ⟨l,H2,I2,pl,q2⟩=>bM (hu pins s2 σ H2 _ I2 q2) λvu s3 ⟨u,H3,I3,pu,q3⟩=>?_);rw[evalPart_none];refine wpAny_pure ?_;have I4:Inv X pins σ H3 { s3 with heap:=s3.heap.push { cls:=.type "slice",data:=.fields #[vl,vu,.none] } }:=I3.kept (t':=s3.toks) λb ob q=>Vo _ q;obtain⟨T,id,hT,ht,hg⟩:=hr pins { s3 with heap:=s3.heap.push { cls:=.type "slice",data:=.fields #[vl,vu,.none] } } σ H3 x v vl vu l u s3.heap.objs.size Q I4 r1 (Heap.IsSliceOf.new ..) pl pu q3;show wpAny (model X.prog X.w) X.A (subscriptTail e (.Slice lo hi none p2) v (.ref s3.heap.objs.size)) (EP X pins σ Q) X.xe { s3 with heap:=s3.heap.push { cls:=.type "slice",data:=.fields #[vl,vu,.none] } };exact tail_any (ops:=[.ref s3.heap.objs.size,v]) ht hT hg (by with_unfolding_all rfl)
abbrev kj(xs:List V)(lo hi:Option Int):List V:=(xs.drop (HT.bP xs.length 0 lo)).take (HT.bP xs.length xs.length hi-HT.bP xs.length 0 lo)
def Jb(xs:List V)(lo hi:Option Int):(kj xs lo hi).length<=xs.length:=by unfold kj;rw[WH,XR];lk
abbrev FI(K:Zfr):V->Option Int->Option Int->Hp->VK->Prop:=λx lo hi H Q=>∃a xs,x=.ref a/\de K H a xs /\
 ¬(HT.bP xs.length 0 lo=0/\HT.bP xs.length xs.length hi=xs.length)/\∀p,H p=none->Q (.ref p) (upd H p (.tup (kj xs lo hi)))
def vh:Dc X (FI X.K):=by
 intro pins s σ H x v vl vu lo hi sl Q I rx hs pl pu h;obtain⟨a,xs,rfl,hx,hw,q⟩:=h;cases rx;obtain⟨its,r,ht,hz⟩:=I.tuple hx;have hlen:its.toArray.size=xs.length:=by rw[Vt];exact r.length.symm
 refine⟨"tuple",_,PyProof.Rows.slot_tuple_getitem.lookup,ht.typeIs,?_⟩;refine HT.Nd ht hs pl pu (by rw[hlen];exact hw) ?_ (by rw[hlen];exact hz);rw[hlen];refine⟨.ref s.heap.objs.size,_,I.laid (t':=s.toks) (o:=.tup (kj xs lo hi)) (λb ob q=>Vo _ q) (Vp _) ?_,rfl,q _ (I.hok.fresh (Vp _))⟩;exact⟨VH (Jb xs lo hi) hz,_,(r.drop (HT.bP xs.length 0 lo)).take (HT.bP xs.length xs.length hi-HT.bP xs.length 0 lo),lH.new _ _⟩
abbrev zA(K:Zfr):R2:=λx y H Q=>∃a b xs ys,x=.ref a/\y=.ref b/\de K H a xs/\de K H b ys/\xs≠[]/\xs.length+ys.length<=sizeLine /\
 (ys=[]->Q (.ref a) H)/\(ys≠[]->∀p,H p=none->Q (.ref p) (upd H p (.tup (xs ++ ys))))
def Vals.j4{xs:List V}{us:List Value}(r:Vals xs us):us=[]↔xs=[]:=by
 cases r with
 |nil=>simp
 |cons _ _=>simp
def Nf:jV X (binaryOp .Add) (zA X.K):=by intro pins s σ H x y v u Q I rx ry h;obtain⟨a,b,xs,ys,rfl,rfl,ha,hb,hx,hz,q1,q2⟩:=h;cases rx;cases ry;obtain⟨its,r1,p1,_⟩:=I.tuple ha;obtain⟨its2,r2,p2,_⟩:=I.tuple hb;refine HT.M7 p1 p2 (λz=>hx (r1.j4.mp z)) (λz=>⟨.ref a,H,I,rfl,q1 (r2.j4.mp z)⟩) (λz=>?_) (by rw[<- r1.length,<- r2.length];exact hz);refine⟨.ref s.heap.objs.size,_,I.laid (t':=s.toks) (o:=.tup (xs ++ ys)) (λb ob q=>Vo _ q) (Vp _) ?_,rfl,q2 (λw=>z (r2.j4.mpr w)) _ (I.hok.fresh (Vp _))⟩;exact⟨by rw[Vq];exact hz,_,r1.append r2,lH.new _ _⟩
end
abbrev kl(n:Nat)(i:Int):Option Nat:=if 0<=i then(if i<n then some i.toNat else none)else if -(n:Int)<=i then some (i+n).toNat else none
abbrev fG{α:Type}(xs:List α)(i:Int):Option α:=(kl xs.length i).bind λj=>xs[j]?
def FJ{n:Nat}{i:Int}{j:Nat}(h:kl n i=some j):seqIndex? i n=some j/\j<n/\-(n:Int)<=i/\i<n:=by unfold kl at h;by_cases h0:0<=i;rw[if_pos h0]at h;by_cases h1:i<n;rw[if_pos h1]at h;have e:i.toNat=j:=Vu h;exact⟨by rw[seqIndex_of h0 h1,e],by lk,by lk,h1⟩;rw[if_neg h1]at h;cases h;rw[if_neg h0]at h;by_cases h1:-(n:Int)<=i;rw[if_pos h1]at h;have e:(i+n).toNat=j:=Vu h;exact⟨by rw[seqIndex_neg ⋯ h1,e],by lk,h1,by lk⟩;rw[if_neg h1]at h;cases h
def Jc{α:Type}{xs:List α}{i:Int}{v:α}(h:fG xs i=some v):∃j,seqIndex? i xs.length=some j/\xs[j]?=some v/\j<xs.length/\-(xs.length:Int)<=i/\i<xs.length:=by
 unfold fG at h;cases e:kl xs.length i with
 |none=>rw[e]at h;cases h
 |some j =>
  rw[e]at h;obtain⟨h1,h2,h3,h4⟩:=FJ e;exact⟨j,h1,h,h2,h3,h4⟩
def yl{α:Type}{xs:List α}{j:Nat}{v:α}(h:xs[j]?=some v):fG xs (j:Int)=some v:=by
 have hj:j<xs.length:=(Vm.mp h).1;have e:kl xs.length (j:Int)=some j:=by
  unfold kl;rw[if_pos ⋯,if_pos ⋯];simp
 unfold fG;rw[e];exact h
abbrev rH(b:Expr):Prop:=∀o i,subscripted b false o i=operate [o,i] (getItem o i)
abbrev zB(X:Cx)(r:R2):Prop :=
 ∀(value slice:Expr) (pins:List (Addr×Obj)) (s:Shared) (σ:St) (H:Hp) (x y:V) (v u:Value) (Q:VK),Inv X pins σ H s->RelV x v->RelV y u->r x y H Q ->
  subscripted slice false v u=operate [v,u] (getItem v u)->wpAny (model X.prog X.w) X.A (subscriptTail value slice v u) (EP X pins σ Q) X.xe s
abbrev zC(X:Cx)(id:String)(r:V->List V->Hp->VK->Prop):Prop :=
 ∀(pins:List (Addr×Obj)) (s:Shared) (σ:St) (H:Hp) (x:V) (xs:List V) (v:Value) (us:List Value) (Q:VK),Inv X pins σ H s->RelV x v->Vals xs us->r x xs H Q ->
  wpAny (model X.prog X.w) X.A (call (.builtin id) (v :: us)) (EP X pins σ Q) X.xe s
section
variable {X:Cx}{a b:Expr}{ta tb:TE}{pos:Pos}
def zD{r:R2}(hr:zB X r)(ha:PE X a ta)(hb:PE X b tb)(hs:rH b):PE X (.Subscript a b pos) (C4 r ta tb):=by intro pins s σ H Q I h;exact Subscript_ (zq ha hb I h λv u s2 x y H2 I2 rx ry q=>hr a b pins s2 σ H2 x y v u Q I2 rx ry q (hs _ _))
abbrev vk(K:Zfr):R2:=λx y H Q=>∃p xs i v,x=.ref p/\y=.int i/\gP K H p xs/\fG xs i=some v/\Q v H
abbrev vm(K:Zfr):R2:=λx y H Q=>∃p xs i v,x=.ref p/\y=.int i/\de K H p xs/\fG xs i=some v/\Q v H
def mL:zB X (vk X.K):=by
 intro value slice pins s σ H x y v u Q I rx ry h hs;obtain⟨p,xs,i,z,rfl,rfl,hq,he,q⟩:=h;cases rx;obtain⟨t,rfl⟩:=ry;obtain⟨its,r,pl,hz⟩:=I.list hq;obtain⟨j,h1,h2,h3,h4,h5⟩:=Jc he;obtain⟨w,ew,rw'⟩:=r.get h2;have hl:=r.length;have hn:=lM;have fin:EP X pins σ Q w s:=⟨z,H,I,rw',q⟩;by_cases h0:0<=i;have hj:i.toNat=j:=by
  rw[seqIndex_of h0 h5]at h1;exact Vu h1
 exact item_listR pl.isList h0 ⋯ (by rw[hj];simpa using ew) fin hs;have hj:(i + (its.toArray.size:Int)).toNat=j:=by
  rw[seqIndex_neg ⋯ h4]at h1;rw[Vt,<- hl];exact Vu h1
 exact subscriptTail_builtinR (x:=w) pl.isList.typeIs slot_list_getitem.lookup
  (wpAny_getItem_list_neg (Q:=λr s'=>r=w/\EP X pins σ Q r s') pl.isList ⋯ (by rw[Vt]<;>lk) ⋯ (by rw[hj];simpa using ew) ⟨rfl,fin⟩) hs
def gR:zB X (vm X.K):=by
 intro value slice pins s σ H x y v u Q I rx ry h hs;obtain⟨p,xs,i,z,rfl,rfl,hq,he,q⟩:=h;cases rx;obtain⟨t,rfl⟩:=ry;obtain⟨its,r,pl,hz⟩:=I.tuple hq;obtain⟨j,h1,h2,h3,h4,h5⟩:=Jc he;obtain⟨w,ew,rw'⟩:=r.get h2;have hl:=r.length;have hn:=lM;have fin:EP X pins σ Q w s:=⟨z,H,I,rw',q⟩;exact subscriptTail_builtinR (x:=w) pl.typeIs slot_tuple_getitem.lookup
  (getItem_tuple (j:=j) (Q:=λr s'=>r=w/\EP X pins σ Q r s') pl ⋯ ⋯ (by rw[Vt,<- hl];exact h1) (by simpa using ew) ⟨rfl,fin⟩) hs
def Ng(its:List Value)(n j:Nat)(u:Value):Obj.mapSeq (·.setIfInBounds j u) { cls:=.type "list",data:=.seq its.toArray n }={ cls:=.type "list",data:=.seq (its.set j u).toArray n }:=by simp[Obj.mapSeq]
def Inv.lst{pins:List (Addr×Obj)}{σ:St}{H:Hp}{s:Shared}{p:Addr}{xs:List V}(I:Inv X pins σ H s)(h:H p=some (.lst xs)):
  ∃(its:List Value) (n:Nat),Vals xs its/\s.heap.get? p=some { cls:=.type "list",data:=.seq its.toArray n }/\xs.length<=sizeLine:=by
 obtain⟨z,its,n,r,e⟩:=I.hok p _ h;exact⟨its,n,r,e,z⟩
def Inv.vn{pins:List (Addr×Obj)}{σ:St}{H:Hp}{s:Shared}{p:Addr}{xs ys:List V}{its its':List Value}{n n':Nat}{f:Obj->Obj}(I:Inv X pins σ H s)(h:H p=some (.lst xs))
  (ho:s.heap.get? p=some { cls:=.type "list",data:=.seq its.toArray n }) (hf:f { cls:=.type "list",data:=.seq its.toArray n }={ cls:=.type "list",data:=.seq its'.toArray n' }) (r:Vals ys its') (hz:ys.length<=sizeLine) (t:Nat) :
  Inv X pins σ (upd H p (.lst ys)) { s with heap:=s.heap.update p f,toks:=t }:=by
 have e:(s.heap.update p f).get? p=some { cls:=.type "list",data:=.seq its'.toArray n' }:=by
  rw[VZ f ho (by rw[hf]<;>rfl),hf]
 refine I.write (x:=p) (e:=p) (by rw[h];trivial) (.inl rfl) (λb u hb q=>(VN _ _ (Ne.symm hb)).trans q) ⟨_,e⟩ ?_;exact⟨hz,its',n',r,e⟩
abbrev sZ:V->V->V->Hp->(Hp->Prop)->Prop:=λo i v H Q=>∃p xs k j,o=.ref p/\i=.int k/\H p=some (.lst xs)/\kl xs.length k=some j/\Q (upd H p (.lst (xs.set j v)))
def ym:zh X sZ:=by
 intro pins s σ H o i v ov iv u Q I ro ri rv h;obtain⟨p,xs,k,j,rfl,rfl,hp,hj,q⟩:=h;cases ro;obtain⟨t,rfl⟩:=ri;obtain⟨its,n,r,ho,hz⟩:=I.lst hp;obtain⟨h1,h2,h3,h4⟩:=FJ hj;have hl:=r.length;have hn:=lM;have I':Inv X pins σ (upd H p (.lst (xs.set j v))) { s with heap:=s.heap.update p (Obj.mapSeq (·.setIfInBounds j u)) } :=
  I.vn hp ho (Ng its n j u) (r.set rv j) (by rw[Wj];exact hz) s.toks
 by_cases h0:0<=k;have hk:k.toNat=j:=by
  rw[seqIndex_of h0 h4]at h1;exact Vu h1
 exact PySem.W.ki_setAt ho h0 ⋯ (by rw[Vt,<- hl];exact h4) (by rw[hk];exact⟨_,I',q⟩);have hk:(k + (its.toArray.size:Int)).toNat=j:=by
  rw[seqIndex_neg ⋯ h3]at h1;rw[Vt,<- hl];exact Vu h1
 exact PySem.W.ki_setBack ho ⋯ (by rw[Vt,<- hl];exact h3) ⋯ (by rw[hk];exact⟨_,I',q⟩)
def Nh(lo hi:Option Int)(n:Nat):(sliceBounds lo hi none n).1=((HT.bP n 0 lo:Nat):Int)/\(sliceBounds lo hi none n).2.1=((HT.bP n n hi:Nat):Int)/\(sliceBounds lo hi none n).2.2=1:=by
 refine⟨?_,?_,rfl⟩;cases lo with
 |none=>simp[sliceBounds,HT.bP]
 |some i =>
  simp only[sliceBounds,HT.bP,Option.getD_none,show(1:Int) > 0 by decide,if_true];by_cases h:i<0;simp only[h,if_true]<;>lk;simp only[h,if_false]<;>lk
 cases hi with
 |none=>simp[sliceBounds,HT.bP]
 |some i =>
  simp only[sliceBounds,HT.bP,Option.getD_none,show(1:Int) > 0 by decide,if_true];by_cases h:i<0;simp only[h,if_true]<;>lk;simp only[h,if_false]<;>lk
def Ni(its:List Value)(lo hi:Option Int):slicePick its.toArray lo hi none=((its.drop (HT.bP its.length 0 lo)).take (HT.bP its.length its.length hi-HT.bP its.length 0 lo)).toArray:=by obtain⟨h1,h2,h3⟩:=Nh lo hi its.toArray.size;unfold slicePick;rw[h1,h2,h3];simp only[sliceRange_one,pick_run,Vt]<;>rfl
abbrev zE(K:Zfr):V->Option Int->Option Int->Hp->VK->Prop:=λx lo hi H Q=>∃a xs,x=.ref a/\gP K H a xs/\∀p,H p=none->Q (.ref p) (upd H p (.lst (kj xs lo hi)))
def Jd:Dc X (zE X.K):=by intro pins s σ H x v vl vu lo hi sl Q I rx hs pl pu h;obtain⟨a,xs,rfl,hx,q⟩:=h;cases rx;obtain⟨its,r,ht,hz⟩:=I.list hx;have hlen:=r.length;refine⟨"list",_,slot_list_getitem.lookup,ht.isList.typeIs,?_⟩;refine wpAny_getItem_list_slice ht.isList hs pl pu .none (by simp) ?_ (by rw[Vt]<;>lk);rw[Ni,<- hlen];refine⟨.ref s.heap.objs.size,_,I.laid (t':=s.toks) (o:=.lst (kj xs lo hi)) (λb ob q=>Vo _ q) (Vp _) ?_,rfl,q _ (I.hok.fresh (Vp _))⟩;exact⟨VH (Jb xs lo hi) hz,_,0,(r.drop (HT.bP xs.length 0 lo)).take (HT.bP xs.length xs.length hi-HT.bP xs.length 0 lo),VF _ rfl⟩
abbrev iL:V->Bool
 |.non=>true
 |.bl _=>true
 |.int _=>true
 |.str _=>true
 |_=>false
abbrev tf:V->V->Bool
 |.non,.non=>true
 |.bl a,.bl b=>a == b
 |.bl a,.int b=>(if a then 1 else 0) == b
 |.int a,.bl b=>a == (if b then 1 else 0)
 |.int a,.int b=>a == b
 |.str a,.str b=>a == b
 |_,_=>false
def vo{A:Around}{s:Shared}{y x:V}{u v:Value}(ry:RelV y u)(rx:RelV x v)(fy:iL y=true)(fx:iL x=true):SeqAt.EqAt A s u v (tf y x):=by
 cases y with
 |non =>
  cases ry;cases x with
  |non=>cases rx;exact SeqAt.EqAt.same _
  |bl b=>cases rx;exact SeqAt.EqAt.none_bool b
  |int b=>obtain⟨t,rfl⟩:=rx;exact SeqAt.EqAt.none_int b t
  |str b=>obtain⟨t,rfl⟩:=rx;exact SeqAt.EqAt.none_str b t
  |_=>exact absurd (show false=true from fx) Vs
 |bl a =>
  cases ry;cases x with
  |non=>cases rx;exact SeqAt.EqAt.bool_none a
  |bl b=>cases rx;exact SeqAt.EqAt.bool_bool a b
  |int b=>obtain⟨t,rfl⟩:=rx;exact SeqAt.EqAt.bool_int a b t
  |str b=>obtain⟨t,rfl⟩:=rx;exact SeqAt.EqAt.bool_str a b t
  |_=>exact absurd (show false=true from fx) Vs
 |int a =>
  obtain⟨t',rfl⟩:=ry;cases x with
  |non=>cases rx;exact SeqAt.EqAt.int_none a t'
  |bl b=>cases rx;exact SeqAt.EqAt.int_bool a t' b
  |int b=>obtain⟨t,rfl⟩:=rx;exact SeqAt.EqAt.int_int a t' b t
  |str b=>obtain⟨t,rfl⟩:=rx;exact SeqAt.EqAt.int_str a t' b t
  |_=>exact absurd (show false=true from fx) Vs
 |str a =>
  obtain⟨t',rfl⟩:=ry;cases x with
  |non=>cases rx;exact SeqAt.EqAt.str_none a t'
  |bl b=>cases rx;exact SeqAt.EqAt.str_bool a t' b
  |int b=>obtain⟨t,rfl⟩:=rx;exact SeqAt.EqAt.str_int a t' b t
  |str b=>obtain⟨t,rfl⟩:=rx;exact SeqAt.EqAt.str_str a t' b t
  |_=>exact absurd (show false=true from fx) Vs
 |_=>exact absurd (show false=true from fy) Vs
abbrev rJ(x:V)(u:Value):Bool:=match u with
 |.none=>tf .non x
 |.bool b=>tf (.bl b) x
 |.int i _=>tf (.int i) x
 |.str z _=>tf (.str z) x
 |_=>false
def Je{x y:V}{u:Value}(r:RelV y u)(f:iL y=true):rJ x u=tf y x:=by
 cases y with
 |non=>cases r;rfl
 |bl b=>cases r;rfl
 |int i=>obtain⟨t,rfl⟩:=r;rfl
 |str z=>obtain⟨t,rfl⟩:=r;rfl
 |_=>exact absurd (show false=true from f) Vs
def FK{x:V}:∀{xs:List V} {us:List Value},Vals xs us->xs.all iL=true->us.any (rJ x)=xs.any λy=>tf y x
 |_,_,.nil,_=>rfl
 |y :: xs,u :: us,.cons r t,f=>by
  rw[List.all_cons,VG]at f;rw[Wo,Wo,Je r f.1,FK t f.2]
def FL{A:Around}{s:Shared}{x:V}{v:Value}(rx:RelV x v)(fx:iL x=true):∀{xs:List V} {us:List Value},Vals xs us->xs.all iL=true->∀u∈us,SeqAt.EqAt A s u v (rJ x u)
 |_,_,.nil,_=>λu hu=>by cases hu
 |y :: xs,u :: us,.cons r t,f=>λu' hu=>by
  rw[List.all_cons,VG]at f;rcases VJ.mp hu with rfl|hu
  rw[Je r f.1];exact vo r rx f.1 fx;exact FL rx fx t f.2 u' hu
abbrev tj(x:V)(xs:List V):Bool:=xs.any λy=>tf y x
abbrev FN(K:Zfr)(neg:Bool):R2:=λx y H Q=>∃p xs,y=.ref p/\(gP K H p xs\/de K H p xs)/\iL x=true/\xs.all iL=true/\Q (.bl (if neg then !tj x xs else tj x xs)) H
def Dd:jV X (compareOp .NotIn) (FN X.K true):=by
 intro pins s σ H x y v u Q I rx ry h;obtain⟨p,xs,rfl,hq,fx,fs,q⟩:=h;cases ry;rcases hq with hq|hq
 obtain⟨its,r,pl,hz⟩:=I.list hq;refine SeqAt.notIn_listAt (rJ x) pl.isList (λw hw=>FL rx fx r fs w (by simpa using hw)) ⟨.bl _,H,I,rfl,?_⟩;rw[show its.toArray.any (rJ x)=its.any (rJ x) by simp,FK r fs];exact q;obtain⟨its,r,pl,hz⟩:=I.tuple hq;refine SeqAt.notIn_tupleAt (rJ x) pl (λw hw=>FL rx fx r fs w (by simpa using hw)) ⟨.bl _,H,I,rfl,?_⟩;rw[show its.toArray.any (rJ x)=its.any (rJ x) by simp,FK r fs];exact q
def kQ:eN X (.builtin "len") (λxs H Q=>∃p ys,xs=[.ref p]/\(gP X.K H p ys\/de X.K H p ys)/\Q (.int ys.length) H):=by
 intro pins s σ H xs us Q I r h;obtain⟨p,ys,rfl,hq,q⟩:=h;obtain⟨u,rfl,rx⟩:=vals1 r;cases rx;have hn:=lM;rcases hq with hq|hq
 obtain⟨its,r',pl,hz⟩:=I.list hq;have hlen:=r'.length;exact Calls.call_len_list pl.isList (by simp only[Vt]<;>lk) ⟨.int ys.length,H,I.tok _,⟨s.toks+1,by rw[Vt,hlen]⟩,q⟩;obtain⟨its,r',pl,hz⟩:=I.tuple hq;have hlen:=r'.length;exact len_tuple pl (by simp only[Vt]<;>lk) ⟨.int ys.length,H,I.tok _,⟨s.toks+1,by rw[Vt,hlen]⟩,q⟩
def FO:eN X (.type "list") (λxs H Q=>∃p ys,xs=[.ref p]/\(gP X.K H p ys\/de X.K H p ys)/\∀l,H l=none->Q (.ref l) (upd H l (.lst ys))):=by
 intro pins s σ H xs us Q I r h;obtain⟨p,ys,rfl,hq,q⟩:=h;obtain⟨u,rfl,rx⟩:=vals1 r;cases rx;have fin:∀ (its:List Value),Vals ys its->ys.length<=sizeLine->∀ (h':Heap) (c':Nat),(∀ b o',s.heap.get? b=some o'->h'.get? b=some o') ->
   h'.get? s.heap.objs.size=some { cls:=.type "list",dict:=none,data:=.seq its.toArray c',slots:=#[] }->EP X pins σ Q (.ref s.heap.objs.size) { s with heap:=h' }:=λits r' hz h' c' kp e =>
  ⟨.ref s.heap.objs.size,_,I.laid (t':=s.toks) kp (Vp _) (show bq X.prog X.w _ h' _ (.lst ys)from⟨hz,its,c',r',e⟩),rfl,q _ (I.hok.fresh (Vp _))⟩
 rcases hq with hq|hq
 obtain⟨its,r',pl,hz⟩:=I.list hq;have hlen:=r'.length;obtain⟨o,ho,hc,n,hd⟩:=pl.isList;exact call_list_seq p (.inl rfl) ho hc hd (λh' c' kp e=>fin its r' hz h' c' kp e) (by simp only[Vt]<;>lk);obtain⟨its,r',pl,hz⟩:=I.tuple hq;have hlen:=r'.length;obtain⟨o,ho,hc,n,hd⟩:=pl;exact call_list_seq p (.inr rfl) ho hc hd (λh' c' kp e=>fin its r' hz h' c' kp e) (by simp only[Vt]<;>lk)
def lO:eN X (.type "tuple") (λxs H Q=>∃p ys,xs=[.ref p]/\((gP X.K H p ys/\∀l,H l=none->Q (.ref l) (upd H l (.tup ys)))\/(de X.K H p ys/\Q (.ref p) H))):=by
 intro pins s σ H xs us Q I r h;obtain⟨p,ys,rfl,h⟩:=h;obtain⟨u,rfl,rx⟩:=vals1 r;cases rx;rcases h with⟨hq,q⟩|⟨hq,q⟩
 obtain⟨its,r',pl,hz⟩:=I.list hq;have hlen:=r'.length;refine call_tuple_list pl.isList (λh' kp=>?_) (by simp only[Vt]<;>lk);have I1:Inv X pins σ H { s with heap:=h' }:=I.kept (t':=s.toks) kp;have I2:Inv X pins σ (upd H h'.objs.size (.tup ys)) { s with heap:=h'.push { cls:=.type "tuple",data:=.seq its.toArray } } :=
  I1.laid (t':=s.toks) (λb o e=>Vo _ e) (Vp _) (show bq X.prog X.w _ _ _ (.tup ys)from⟨hz,its,r',lH.new _ _⟩)
 exact⟨.ref h'.objs.size,_,I2,rfl,q _ (I1.hok.fresh (Vp _))⟩;obtain⟨its,r',pl,hz⟩:=I.tuple hq;exact call_tuple_same pl ⟨.ref p,H,I,rfl,q⟩
abbrev FP(K:Zfr)(T:String)(x:V)(H:Hp):Prop:=match x with
 |.str _=>T="str"
 |.int _=>T="int"
 | .ref p=>(T="list" /\ ∃ xs,gP K H p xs)\/(T="tuple" /\ ∃ xs,de K H p xs) \/
   (T="dict" /\ ((∃kvs,H p=some (.dK kvs))\/∃kvs,H p=some (.dT kvs)))\/(T="set" /\ ∃S n,H p=some (.set S n))
 |_=>False
def vt{pins:List (Addr×Obj)}{σ:St}{H:Hp}{s:Shared}{T:String}{x:V}{v:Value}(I:Inv X pins σ H s)(r:RelV x v)(ty:FP X.K T x H):
  s.TypeIs v T/\∀a,v=.ref a->∃ob,s.heap.get? a=some ob/\ob.dict=none:=by
 cases x with
 |str z =>
  obtain⟨t,rfl⟩:=r;cases(show T="str" from ty);exact⟨typeIs_str s z t,λ_ e=>nomatch e⟩
 |int i =>
  obtain⟨t,rfl⟩:=r;cases(show T="int" from ty);exact⟨typeIs_int s i t,λ_ e=>nomatch e⟩
 |ref p =>
  cases r;rcases ty with⟨rfl,xs,hq⟩|⟨rfl,xs,hq⟩|⟨rfl,hk⟩|⟨rfl,S,n,hk⟩
  obtain⟨its,_,pl,_⟩:=I.list hq;refine⟨pl.isList.typeIs,λa e=>?_⟩;cases e;obtain⟨o,n,e,c,hd,_⟩:=pl;exact⟨o,e,hd⟩;obtain⟨its,_,⟨o,e,c,d,_⟩,_⟩:=I.nE hq;refine⟨⟨o,e,c⟩,λa e2=>?_⟩;cases e2;exact⟨o,e,d⟩;have z:∃ o,s.heap.get? p=some o/\o.ExactDict:=by
   rcases hk with⟨kvs,hk⟩|⟨kvs,hk⟩
   obtain⟨_,_,_,_,o,_,_,e,ex,_⟩:=I.hok p _ hk;exact⟨o,e,ex⟩;obtain⟨_,_,_,_,o,_,_,e,ex,_⟩:=I.hok p _ hk;exact⟨o,e,ex⟩
  obtain⟨o,e,ex⟩:=z;refine⟨⟨o,e,ex.1⟩,λa e2=>?_⟩;cases e2;exact⟨o,e,ex.2.1⟩;obtain⟨o,_,_,_,e,ex,_⟩:=I.hok p _ hk;refine⟨⟨o,e,ex.1⟩,λa e2=>?_⟩;cases e2;exact⟨o,e,ex.2.1⟩
 |_=>exact False.elim ty
abbrev FQ(K:Zfr)(T:String)(r:V->List V->Hp->VK->Prop)(to:TE)(t:TA):TE:=λσ H Q=>to σ H λx H1=>FP K T x H1/\t σ H1 λxs H2=>r x xs H2 Q
variable {o e:Expr}{es:List Expr}{to:TE}{t:TA}{name:Str}{apos cpos:Pos}{T id:String}{r:V->List V->Hp->VK->Prop}
def om(pa:PlainAttrs T)(slot:Slot T name id)(hty:typeOf (.builtin id)=pure (.type "method_descriptor"))(hm:zC X id r)(ho:PE X o to)(ha:PA X (e :: es) t)
  (hbase:attributeBase o name X.env (eval o X.env)=eval o X.env:=by rfl)
  (hfew:((backTo cpos (starEach (e :: es) X.env)).all (λx=>!x.1) && (backToKw cpos (keywordEach [] X.env)).all (λx=>x.1.isSome)
   && decide ((e :: es).length+([]:List Keyword).length+(if([]:List Keyword).isEmpty then 0 else 1)<30))=true:=by rfl)
  (hline:(apos.endLine == cpos.line)=true:=by rfl) (hs:starEach (e :: es) X.env=(false,eval e X.env) :: starEach es X.env:=by rfl) (hplain:(backTo cpos (starEach es X.env)).any (·.1)=false:=by rfl) :
  PE X (.Call (.Attribute o name apos) (e :: es) [] cpos) (FQ X.K T r to t):=by
 intro pins s σ H Q I h;refine wpAny_Call_method_late hbase hfew hline rfl (bM (ho pins s σ H _ I h) λv s1 ⟨x,H1,I1,r1,ty,q1⟩=>?_);obtain⟨h1,h2⟩:=vt I1 r1 ty;refine⟨T,id,pa,slot,hty,h1,h2,?_⟩;have hA:=ha cpos pins s1 σ H1 _ I1 q1;rw[hs]at hA ⊢;refine Calls.callWith_builtin (by show(false || (backTo cpos (starEach es X.env)).any (·.1))=false;rw[hplain]<;>rfl) (Calls.evalArgs_plain ?_);exact bM hA λus s2 ⟨vs,H2,I2,r2,q2⟩=>hm pins s2 σ H2 x vs v us Q I2 r1 r2 q2
end
abbrev FR(X:Cx)(id:String)(r:V->List V->Hp->VK->Prop):Prop :=
 ∀(pins:List (Addr×Obj)) (s:Shared) (σ:St) (H:Hp) (x:V) (xs:List V) (v:Value) (us:List Value) (Q:VK),Inv X pins σ H s->RelV x v->Vals xs us->r x xs H Q ->
  wpAny (model X.prog X.w) X.A (call (.builtin id) (v :: us)) (EP X pins σ Q) X.xe s
def Vals.one:∀{x:V} {us:List Value},Vals [x] us->∃u,us=[u]/\RelV x u
 |_,_,.cons r .nil=>⟨_,rfl,r⟩
def Vals.eraseIdx:∀{xs:List V} {us:List Value} (i:Nat),Vals xs us->Vals (xs.eraseIdx i) (us.eraseIdx i)
 |_,_,_,.nil=>.nil
 |_,_,0,.cons _ t=>t
 |_,_,i+1,.cons r t=>.cons r (Vals.eraseIdx i t)
def Vals.rep{xs:List V}{us:List Value}(h:Vals xs us):∀k:Nat,Vals (List.replicate k xs).flatten (List.replicate k us).flatten
 |0=>.nil
 |k+1=>by
  rw[V9,V9,WN,WN];exact Vals.append h (Vals.rep h k)
def Jf{α:Type}:∀(l:List α) (i:Nat),(l.eraseIdx i).length<=l.length
 |[],_=>Vp _
 |_ :: _,0=>Wc _
 |_ :: r,i+1=>Nat.succ_le_succ (Jf r i)
def Jg(its:List Value):∀(k:Nat) (acc:List Value),
  List.foldl (λx1 x2=>x1 ++ x2) acc.toArray (List.replicate k its.toArray)=(acc ++ (List.replicate k its).flatten).toArray
 |0,acc=>by simp
 |k+1,acc=>by
  have e:acc.toArray ++ its.toArray=(acc ++ its).toArray:=by simp
  have e2:(acc ++ its) ++ (List.replicate k its).flatten=acc ++ (List.replicate (k+1) its).flatten:=by
   rw[V9,WN,W0]
  rw[<- e2,<- Jg its k (acc ++ its),<- e,V9,List.foldl_cons]
section
variable {X:Cx}{pins:List (Addr×Obj)}{σ:St}{H:Hp}{s:Shared}{l b:Addr}{xs ys zs:List V}
def Inv.vw{its its':List Value}{n:Nat}{f:Array Value->Array Value}{t':Nat}(I:Inv X pins σ H s)(hH:H l=some (.lst xs))
  (e:s.heap.get? l=some { cls:=.type "list",data:=.seq its.toArray n }) (hf:f its.toArray=its'.toArray) (hv:Vals ys its') (hz:ys.length<=sizeLine) :
  Inv X pins σ (upd H l (.lst ys)) { s with heap:=s.heap.update l (Obj.mapSeq f),toks:=t' }:=by
 have q:=PySem.IsL.update e f;rw[hf]at q;refine I.write (x:=l) (e:=l) (by rw[hH];exact trivial) (.inl rfl) (λb' u hb hu=>(VN s.heap (Obj.mapSeq f) (Ne.symm hb)).trans hu) ⟨_,q⟩ ?_;exact⟨hz,its',_,hv,q⟩
def Inv.zF{its:List Value}{t':Nat}(I:Inv X pins σ H s)(hv:Vals ys its)(hz:ys.length<=sizeLine):
  Inv X pins σ (upd H s.heap.objs.size (.lst ys)) { s with heap:=s.heap.push { cls:=.type "list",data:=.seq its.toArray },toks:=t' } :=
 I.laid (λ_ _ q=>Vo _ q) (Vp _) ⟨hz,its,0,hv,VF _ rfl⟩
def Inv.fresh(I:Inv X pins σ H s):H s.heap.objs.size=none:=I.hok.fresh (Vp _)
def Inv.nK(I:Inv X pins σ H s)(hH:H l=some (.lst xs)):xs.length<=sizeLine/\∃(its:List Value) (n:Nat),Vals xs its/\xs.length=its.length/\s.heap.get? l=some { cls:=.type "list",data:=.seq its.toArray n }:=by obtain⟨z,its,n,r,e⟩:=I.hok l _ hH;exact⟨z,its,n,r,r.length,e⟩
def mM{n:Nat}(h:n<=sizeLine):Builtin.List.listTooLong n=false:=by unfold Builtin.List.listTooLong;exact decide_eq_false ⋯
end
section
variable {X:Cx}
abbrev oo:V->List V->Hp->VK->Prop:=λx vs H Q=>∃l xs y,x=.ref l/\vs=[y]/\H l=some (.lst xs)/\xs.length<sizeLine/\Q .non (upd H l (.lst (xs ++ [y])))
def rK:FR X "list.append" oo:=by intro pins s σ H x vs v us Q I rx rv h;obtain⟨l,xs,y,rfl,rfl,hH,hz,q⟩:=h;cases rx;obtain⟨u,rfl,ru⟩:=rv.one;obtain⟨z,its,n,r,hl,e⟩:=I.nK hH;refine call_meets F.slot_list_append ⟨_,e,rfl⟩ F.entry_list_append (F.args_list_append_2 _ _) (PySem.list_append l its.toArray n u (by rw[Vt];lk)) ⟨e,?_⟩;refine⟨.non,_,I.vw (its':=its ++ [u]) hH e (by simp) (r.append (.cons ru .nil)) ?_,rfl,q⟩;rw[Vq,WA];lk
abbrev ot:V->List V->Hp->VK->Prop:=λx vs H Q=>∃l b xs zs,x=.ref l/\vs=[.ref b]/\H l=some (.lst xs)/\H b=some (.lst zs)/\xs.length+zs.length<=sizeLine/\Q .non (upd H l (.lst (xs ++ zs)))
def Jh:FR X "list.extend" ot:=by
 intro pins s σ H x vs v us Q I rx rv h;obtain⟨l,b,xs,zs,rfl,rfl,hH,hB,hz,q⟩:=h;cases rx;obtain⟨u,rfl,ru⟩:=rv.one;cases ru;obtain⟨z,its,n,r,hl,e⟩:=I.nK hH;obtain⟨z2,its2,n2,r2,hl2,e2⟩:=I.nK hB;have hsz:its.toArray.size+its2.toArray.size<=sizeLine:=by rw[Vt,Vt];lk
 have pV:¬(!its.toArray.isEmpty && Builtin.List.listTooLong (its.toArray.size+its2.toArray.size))=true:=by
  rw[mM hsz,Bool.and_false];exact Vs
 refine call_meets F.slot_list_extend ⟨_,e,rfl⟩ F.entry_list_extend (F.args_list_extend_2 _ _)
  (AutoSeq1.list_extend_list_list_0 l its.toArray n b its2.toArray n2 pV (by rw[Vt];lk) ⋯) ⟨e,e2,?_⟩
 refine⟨.non,_,I.vw (its':=its ++ its2) hH e (by simp) (r.append r2) ?_,rfl,q⟩;rw[Vq];lk
abbrev pW:V->List V->Hp->VK->Prop:=λx vs H Q=>∃l xs i k y,x=.ref l/\vs=[.int i]/\H l=some (.lst xs)/\-(2 ^ 63)<=i/\i<2 ^ 63/\seqIndex? i xs.length=some k/\xs[k]?=some y/\Q y (upd H l (.lst (xs.eraseIdx k)))
def Nj:FR X "list.pop" pW:=by
 intro pins s σ H x vs v us Q I rx rv h;obtain⟨l,xs,i,k,y,rfl,rfl,hH,h1,h2,hk,hy,q⟩:=h;cases rx;obtain⟨u,rfl,ru⟩:=rv.one;obtain⟨t,rfl⟩:=ru;obtain⟨z,its,n,r,hl,e⟩:=I.nK hH;obtain⟨w,hw,rw'⟩:=r.get hy;refine call_meets F.slot_list_pop ⟨_,e,rfl⟩ F.entry_list_pop (F.args_list_pop_2 _ _)
  (MeetsSeq.list_pop_at l its.toArray n i t k w (fitsIndex_both h1 h2) (by rw[Vt,<- hl];exact hk) (by rw[<- WB];exact hw) (by rw[Vt];lk)) ⟨e,?_⟩
 refine⟨y,_,I.vw (its':=its.eraseIdx k) hH e ?_ (r.eraseIdx k) ?_,rw',q⟩;show its.toArray.eraseIdxIfInBounds k=(its.eraseIdx k).toArray;rw[List.eraseIdxIfInBounds_toArray]
 have:=Jf xs k
 lk
abbrev zG:R2:=λx y H Q=>∃l b xs zs,x=.ref l/\y=.ref b/\H l=some (.lst xs)/\H b=some (.lst zs)/\xs.length+zs.length<=sizeLine/\∀p,H p=none->Q (.ref p) (upd H p (.lst (xs ++ zs)))
def tm:jV X (binaryOp .Add) zG:=by
 intro pins s σ H x y v u Q I rx ry h;obtain⟨l,b,xs,zs,rfl,rfl,hH,hB,hz,q⟩:=h;cases rx;cases ry;obtain⟨z,its,n,r,hl,e⟩:=I.nK hH;obtain⟨z2,its2,n2,r2,hl2,e2⟩:=I.nK hB;refine PySem.P.add_list e e2 ?_ (by rw[Vt,Vt];lk);have ea:its.toArray ++ its2.toArray=(its ++ its2).toArray:=by simp
 rw[ea];exact⟨.ref _,_,I.zF (t':=s.toks) (r.append r2) (by rw[Vq];lk),rfl,q _ I.fresh⟩
abbrev zH:R2:=λx y H Q=>∃l k xs,x=.ref l/\y=.int k/\H l=some (.lst xs)/\-(2 ^ 63)<=k/\k<2 ^ 63/\xs.length*k.toNat<=sizeLine /\
 ∀p,H p=none->Q (.ref p) (upd H p (.lst (List.replicate k.toNat xs).flatten))
def Nk{α:Type}(xs:List α)(k:Nat):(List.replicate k xs).flatten.length=k*xs.length:=by
 induction k with
 |zero=>simp
 |succ k ih=>rw[V9,WN,Vq,ih,Nat.succ_mul,Nat.add_comm]
def Ji:jV X (binaryOp .Mult) zH:=by
 intro pins s σ H x y v u Q I rx ry h;obtain⟨l,k,xs,rfl,rfl,hH,h1,h2,hz,q⟩:=h;cases rx;obtain⟨t,rfl⟩:=ry;obtain⟨z,its,n,r,hl,e⟩:=I.nK hH;have hlen:its.toArray.size*k.toNat<=sizeLine:=by rw[Vt,<- hl];exact hz
 have hcap:¬its.toArray.size*k.toNat > (2 ^ 63-1) / 8:=by
  have:(sizeLine:Nat)<=(2 ^ 63-1) / 8:=by decide
  lk
 have hfit:¬(!Builtin.List.listFitsIndex k)=true:=by
  rw[fitsIndex_both h1 h2];exact Vs
 have pV:¬Builtin.List.listTooLong (its.toArray.size*k.toNat)=true:=by
  rw[mM hlen];exact Vs
 have hnew:List.foldl (λx1 x2=>x1 ++ x2) #[] (List.replicate (if its.toArray.isEmpty=true then 0 else k.toNat) its.toArray)=(List.replicate k.toNat its).flatten.toArray:=by
  have f0:∀m:Nat,List.foldl (λx1 x2=>x1 ++ x2) #[] (List.replicate m its.toArray)=(List.replicate m its).flatten.toArray:=λm=>by
   have:=Jg its m [];rw[List.nil_append]at this;exact this
  rw[f0];cases its with
  |nil=>simp
  |cons a r'=>rw[if_neg (by simp)]
 refine wpAny_binaryOp_repeat_ref (T:="list") (U:="int") ∅ ⟨_,e,rfl⟩ (λs'=>typeIs_int s' k t) noFill_list_mul F.fills_int_mul F.slot_int_rmul repeat_list F.slot_int_index.lookup
  (call_meets F.slot_int_rmul (typeIs_int s k t) F.entry_int_rmul (F.args_int_rmul_2 _ _) (int___rmul___int_list k t l its.toArray n)
   ⟨e,rfl,⟨_,e,rfl⟩,call_meets F.slot_list_mul ⟨_,e,rfl⟩ F.entry_list_mul (F.args_list_mul_2 _ _) (AutoListH.list___mul___list_int_3 l its.toArray n k t hfit hcap pV) ⟨e,?_⟩⟩)
 rw[hnew];exact⟨.ref _,_,I.zF (t':=s.toks) (r.rep k.toNat) (by rw[Nk,Nat.mul_comm];exact hz),rfl,q _ I.fresh⟩
end
section
variable {κ:Type}[DecidableEq κ]
abbrev iT(kvs:List (κ×V))(k:κ):Option V:=(kvs.find? λkv=>decide (kv.1=k)).map (·.2)
abbrev putK(kvs:List (κ×V))(k:κ)(v:V):List (κ×V) :=
 if(kvs.any λkv=>decide (kv.1=k))=true then kvs.map (λkv=>if kv.1=k then(kv.1,v)else kv)else kvs ++ [(k,v)]
def FT{p:κ×V}{r:List (κ×V)}{k:κ}(e:p.1=k):iT (p :: r) k=some p.2:=by simp[iT,Wt,e]
def FU{p:κ×V}{r:List (κ×V)}{k:κ}(e:¬p.1=k):iT (p :: r) k=iT r k:=by simp[iT,Wt,e]
def Jj(k:κ):∀kvs:List (κ×V),(kvs.any λkv=>decide (kv.1=k))=(iT kvs k).isSome
 |[]=>rfl
 |p :: r=>by
  rw[Wo];by_cases e:p.1=k;simp only[FT e,decide_eq_true e,Bool.true_or,Option.isSome_some];rw[FU e,decide_eq_false e,Bool.false_or];exact Jj k r
def Jk(kvs:List (κ×V))(k:κ)(v:V):(putK kvs k v).length<=kvs.length+1:=by unfold putK;split;rw[Vl];lk;rw[Vq,VU,WY];lk
def mI.jE{o:Option V}{u:Option Value}(r:mI o u):o.isSome=u.isSome:=by
 cases o with
 |none=>cases u with
  |none=>rfl
  |some _=>exact(show False from r).elim
 |some _=>cases u with
  |none=>exact(show False from r).elim
  |some _=>rfl
def KV.val{kvs:List (κ×V)}{vs:List (κ×Value)}(r:KV kvs vs)(k:κ):mI (iT kvs k) (valueAt vs k):=by
 unfold KV at r
 induction r with
 |nil=>exact True.intro
 |@cons p q ps qs h t ih =>
  obtain⟨h1,h2⟩:=h;by_cases e:p.1=k;have e':q.1=k:=h1.symm.trans e;have b:valueAt (q :: qs) k=some q.2:=by simp[valueAt,Wt,e']
  rw[FT e,b];exact h2;have e':¬q.1=k:=λz=>e (h1.trans z);have b:valueAt (q :: qs) k=valueAt qs k:=by simp[valueAt,Wt,e']
  rw[FU e,b];exact ih
def KV.any{kvs:List (κ×V)}{vs:List (κ×Value)}(r:KV kvs vs)(k:κ):(kvs.any λkv=>decide (kv.1=k))=vs.any λkv=>decide (kv.1=k):=by
 unfold KV at r
 induction r with
 |nil=>rfl
 |cons h t ih=>rw[Wo,Wo,ih,h.1]
def KV.repl{kvs:List (κ×V)}{vs:List (κ×Value)}(r:KV kvs vs)(k:κ){y:V}{u:Value}(ry:RelV y u):
  KV (kvs.map λkv=>if kv.1=k then(kv.1,y)else kv) (vs.map λkv=>if kv.1=k then(kv.1,u)else kv):=by
 unfold KV at r ⊢
 induction r with
 |nil=>exact .nil
 |@cons p q ps qs h t ih =>
  rw[VO,VO];refine .cons ?_ ih;obtain⟨h1,h2⟩:=h;by_cases e:p.1=k;rw[if_pos e,if_pos (h1.symm.trans e)];exact⟨h1,ry⟩;rw[if_neg e,if_neg (λz=>e (h1.trans z))];exact⟨h1,h2⟩
def KV.put{kvs:List (κ×V)}{vs:List (κ×Value)}(r:KV kvs vs)(k:κ){y:V}{u:Value}(ry:RelV y u):KV (putK kvs k y) (stored vs k u):=by unfold putK stored;rw[r.any k];by_cases e:(vs.any λkv=>decide (kv.1=k))=true;rw[if_pos e,if_pos e];exact r.repl k ry;rw[if_neg e,if_neg e];exact Paired.snoc r ⟨rfl,ry⟩
def KV.length{kvs:List (κ×V)}{vs:List (κ×Value)}(r:KV kvs vs):kvs.length=vs.length:=Paired.length r
end
def FV{P:Program}{w:World}{k:Key}{u:Value}(r:RelV (kV k) u):(bS P w).is k u=true:=by
 cases k with
 |inl i=>obtain⟨t,e⟩:=(show∃t,u=Value.int i t from r);subst e;exact MF P w i t
 |inr x=>obtain⟨t,e⟩:=(show∃t,u=Value.str x t from r);subst e;exact MG P w x t
def Jl{P:Program}{w:World}:∀{ks:List Key} {us:List Value},Vals (ks.map kV) us->ItemsAre (bS P w) ks us
 |[],_,r=>by rw[Wl]at r;cases r;exact .nil
 |k :: ks,_,r=>by
  rw[VO]at r;cases r with
  |cons h t=>exact .cons (FV h) (Jl t)
@[reducible]def KT(H:Hp):List (List Key×V)->List (List Key×Addr×Value)->Prop:=Paired λp q=>p.1=q.1/\H q.2.1=some (.tup (p.1.map kV))/\RelV p.2 q.2.2
def KT.val{H:Hp}{kvs:List (List Key×V)}{xs:List (List Key×Addr×Value)}(r:KT H kvs xs)(k:List Key):mI (iT kvs k) ((atKey xs k).map (·.2)):=by
 induction r with
 |nil=>exact True.intro
 |@cons p q ps qs h t ih =>
  obtain⟨h1,_,h2⟩:=h;by_cases e:p.1=k;have e':q.1=k:=h1.symm.trans e;have b:atKey (q :: qs) k=some q.2:=by simp[atKey,Wt,e']
  rw[FT e,b];exact h2;have e':¬q.1=k:=λz=>e (h1.trans z);have b:atKey (q :: qs) k=atKey qs k:=by simp[atKey,Wt,e']
  rw[FU e,b];exact ih
def KT.repl{H:Hp}{kvs:List (List Key×V)}{xs:List (List Key×Addr×Value)}(r:KT H kvs xs)(k:List Key){y:V}{u:Value}(ry:RelV y u):
  KT H (kvs.map λkv=>if kv.1=k then(kv.1,y)else kv) (xs.map (putAt k u)):=by
 induction r with
 |nil=>exact .nil
 |@cons p q ps qs h t ih =>
  rw[VO,VO];refine .cons ?_ ih;obtain⟨h1,h2,h3⟩:=h;unfold putAt;by_cases e:p.1=k;rw[if_pos e,if_pos (h1.symm.trans e)];exact⟨h1,h2,ry⟩;rw[if_neg e,if_neg (λz=>e (h1.trans z))];exact⟨h1,h2,h3⟩
def KT.put{H:Hp}{kvs:List (List Key×V)}{xs:List (List Key×Addr×Value)}(r:KT H kvs xs)(k:List Key){b:Addr}{y:V}{u:Value}(hb:H b=some (.tup (k.map kV)))(ry:RelV y u):
  KT H (putK kvs k y) (storedH xs k b u):=by
 have e:(kvs.any λkv=>decide (kv.1=k))=(atKey xs k).isSome:=by
  rw[Jj,(r.val k).jE,Option.isSome_map]
 unfold putK storedH;rw[e];by_cases q:(atKey xs k).isSome=true;rw[if_pos q,if_pos q];exact r.repl k ry;rw[if_neg q,if_neg q];exact Paired.snoc r ⟨rfl,hb,ry⟩
def KT.keeps{H H':Hp}{kvs:List (List Key×V)}{xs:List (List Key×Addr×Value)}(r:KT H kvs xs)(ht:∀b ys,H b=some (.tup ys)->H' b=some (.tup ys)):KT H' kvs xs :=
 Paired.uU r λ_ _ z=>⟨z.1,ht _ _ z.2.1,z.2.2⟩
section
variable {P:Program}{w:World}{H:Hp}{h:Heap}{a:Addr}
def tq{u:HO}(ok:gO P w H h)(e:Rd H a u):bq P w H h a u:=e.ok ok
def tu{kvs:List (Key×V)}(ok:gO P w H h)(e:Rd H a (.dK kvs)):kvs.length<=sizeLine/\(a == sysModules)=false/\∃vs,KV kvs vs/\h.DictOf (bS P w) a vs :=
 show bq P w H h a (.dK kvs)from tq ok e
def zI{kvs:List (Key×V)}(ok:gO P w H h)(e:H a=some (.dK kvs)):kvs.length<=sizeLine/\(a == sysModules)=false/\∃vs,KV kvs vs/\h.DictOf (bS P w) a vs:=tu ok (.inl e)
def yn{ks:List Key}(ok:gO P w H h)(e:H a=some (.tup (ks.map kV))):(tupleKind (bS P w)).is h ks a:=by obtain⟨_,its,r,o,h1,h2,_,n,h3⟩:=(show bq P w H h a (.tup (ks.map kV))from ok a _ e);exact⟨o,its.toArray,n,h1,h2,h3,by simpa using Jl r⟩
def tw{kvs:List (List Key×V)}(ok:gO P w H h)(e:Rd H a (.dT kvs)):kvs.length<=sizeLine/\(a == sysModules)=false /\
  ∃xs,KT H kvs xs/\h.DictOfH (tupleKind (bS P w)) a xs:=by
 obtain⟨z,y,xs,r,o,es,ep,h1,h2,h3,h4,h5⟩:=(show bq P w H h a (.dT kvs)from tq ok e);refine⟨z,y,xs,r,o,es,ep,h1,h2,h3,h4,λx hx=>?_,h5⟩;have all:∀{l:List (List Key×V)} {m:List (List Key×Addr×Value)},KT H l m->∀x∈m,(tupleKind (bS P w)).is h x.1 x.2.1:=by
  intro l m q
  induction q with
  |nil=>intro x hx;exact nomatch hx
  |@cons p q ps qs hq t ih =>
   intro x hx;rcases VJ.mp hx with e|hx
   subst e;exact yn ok (by rw[<- hq.1];exact hq.2.1);exact ih x hx
 exact all r x hx
def zJ{kvs:List (List Key×V)}(ok:gO P w H h)(e:H a=some (.dT kvs)):kvs.length<=sizeLine/\(a == sysModules)=false /\
  ∃xs,KT H kvs xs/\h.DictOfH (tupleKind (bS P w)) a xs:=tw ok (.inl e)
end
abbrev pX(H:Hp)(a:Addr)(y:V)(r:Option V):Prop :=
 (∃kvs k,Rd H a (.dK kvs)/\y=kV k/\r=iT kvs k)\/∃kvs k b,Rd H a (.dT kvs)/\y=.ref b/\H b=some (.tup (k.map kV))/\r=iT kvs k
abbrev pY(H:Hp)(a:Addr)(y v:V)(H':Hp):Prop :=
 (∃kvs k,H a=some (.dK kvs)/\y=kV k/\kvs.length<sizeLine/\H'=upd H a (.dK (putK kvs k v))) \/
 ∃kvs k b,H a=some (.dT kvs)/\y=.ref b/\H b=some (.tup (k.map kV))/\kvs.length<sizeLine/\H'=upd H a (.dT (putK kvs k v))
def pX.k{H:Hp}{a:Addr}{kvs:List (Key×V)}{k:Key}(e:H a=some (.dK kvs)):pX H a (kV k) (iT kvs k):=.inl ⟨kvs,k,.inl e,rfl,rfl⟩
def pY.k{H:Hp}{a:Addr}{kvs:List (Key×V)}{k:Key}{v:V}(e:H a=some (.dK kvs))(hl:kvs.length<sizeLine):pY H a (kV k) v (upd H a (.dK (putK kvs k v))):=.inl ⟨kvs,k,e,rfl,hl,rfl⟩
section
variable {X:Cx}{pins:List (Addr×Obj)}{σ:St}{H:Hp}{s:Shared}{a:Addr}{y v:V}{u r:Value}{o:Option V}{A:Around}{E:Value->Shared->Prop}
def Inv.big(I:Inv X pins σ H s):sysModules<s.heap.objs.size:=by have h:mainGlobals<s.heap.objs.size:=(I.mod.glob.keeps I.bk).lt;exact W5 ∅ h
def Nl{Q:Value->Shared->Prop}(hu:A.units+1<cLine)(I:Inv X pins σ H s)(g:pX H a y o)(ry:RelV y u)(h:∀s',Inv X pins σ H s'->Q (.bool (!o.isSome)) s'):
  wpAny (model X.prog X.w) A (compareOp .NotIn u (.ref a)) Q E s:=by
 rcases g with⟨kvs,k,e,ey,l⟩|⟨kvs,k,b,e,ey,eb,l⟩
 subst ey;obtain⟨z,hd,vs,rel,dd⟩:=tu I.hok e;refine wpAny_notIn_of (FV ry) hd dd.mapOf ?_;rw[<- (rel.val k).jE,<- l];exact h _ (I.tok _);subst ey;cases(show u=Value.ref b from ry);obtain⟨z,hd,xs,rel,dd⟩:=tw I.hok e;refine wpAny_notIn_heap (tupleKind_room_in1 hu) (yn I.hok eb) hd dd ?_;have q:=(rel.val k).jE;rw[Option.isSome_map]at q;rw[<- q,<- l];exact h _ (I.tok _)
def Jm{h':Heap}{t':Nat}{ob:HO}(I:Inv X pins σ H s)(mu:y4 (H a))(hs:Heap.SameBut a s.heap h')(he:∃q,h'.get? a=some q)(new:bq X.prog X.w (upd H a ob) h' a ob):
  Inv X pins σ (upd H a ob) { s with heap:=h',toks:=t' } :=
 I.write (x:=a) (e:=a) mu (.inl rfl) (λb q hb z=>(hs.2 b hb).trans z) he new
def vz{P:Program}{w:World}{H':Hp}{h':Heap}{kvs:List (Key×V)}{vs:List (Key×Value)}(z:kvs.length<=sizeLine)(hd:(a == sysModules)=false)(rel:KV kvs vs)(dd:h'.DictOf (bS P w) a vs):
  bq P w H' h' a (.dK kvs):=⟨z,hd,vs,rel,dd⟩
def Nm{H':Hp}{Q:Unit->Shared->Prop}(hu:A.units+1<cLine)(I:Inv X pins σ H s)(g:pY H a y v H')(ry:RelV y u)(rv:RelV v r)(h:∀s',Inv X pins σ H' s'->Q () s'):
  wpAny (model X.prog X.w) A (setItem (.ref a) u r) Q E s:=by
 rcases g with⟨kvs,k,e,ey,l,eH⟩|⟨kvs,k,b,e,ey,eb,l,eH⟩
 subst ey eH;obtain⟨z,hd,vs,rel,dd⟩:=zI I.hok e;have hz:vs.length<=sizeLine:=by rw[<- rel.length];exact z
 have hl:(putK kvs k v).length<=sizeLine:=by have:=Jk kvs k v;lk
 refine wpAny_setItem_pairs (hsz:=hz) (FV ry) dd λh' De hs=>h _ ?_;have he:∃q,h'.get? a=some q:=let ⟨q,_,_,hq,_⟩:=De;⟨q,hq⟩
 exact Jm I (by rw[e];exact True.intro) hs he (vz hl hd (rel.put k rv) De);subst ey eH;cases(show u=Value.ref b from ry);obtain⟨z,hd,xs,rel,dd⟩:=zJ I.hok e;have hz:xs.length<=sizeLine:=by rw[<- Paired.length rel];exact z
 have hl:(putK kvs k v).length<=sizeLine:=by have:=Jk kvs k v;lk
 refine wpAny_setItem_heap (hsz:=hz) (tupleKind_room_in1 hu) (yn I.hok eb) dd λh' De hs=>h _ ?_;obtain⟨q,es,ep,hq,h2,h3,h4,_,h5⟩:=De;refine Jm I (by rw[e];exact True.intro) hs ⟨q,hq⟩ ⟨hl,hd,_,(rel.put k eb rv).keeps λc ys ec=>?_,q,es,ep,hq,h2,h3,h4,h5⟩;rw[cL (Fg ec e (λz=>nomatch z))];exact ec
end
abbrev ou(ty td:TE):TE:=λσ H Q=>ty σ H λy H1=>td σ H1 λx H2=>∃a o,x=.ref a/\pX H2 a y o/\Q (.bl (!o.isSome)) H2
abbrev tD(td ty tv:TE):TS:=λD σ H=>tv σ H λv H1=>td σ H1 λx H2=>ty σ H2 λy H3=>∃a H4,x=.ref a/\pY H3 a y v H4/\D.nx σ H4
section
variable {X:Cx}{o i e value:Expr}{pos pos' tpos:Pos}{td ty tv:TE}
def Nn(hu:X.A.units+1<cLine)(hi:PE X i ty)(ho:PE X o td):PC X .NotIn i o (ou ty td):=by intro pins s σ H Q I h;refine bM (hi pins s σ H _ I h) λiv s1 ⟨y,H1,I1,ry,q1⟩=>bM (ho pins s1 σ H1 _ I1 q1) λu s2 ⟨x,H2,I2,rx,a,ov,ex,g,q2⟩=>?_;subst ex;obtain rfl:u=Value.ref a:=rx;exact Nl hu I2 g ry λs3 I3=>⟨.bl (!ov.isSome),H2,I3,rfl,q2⟩
def Np(hu:X.A.units+1<cLine)(ho:PE X o td)(hi:PE X i ty)(hv:PE X value tv)(hs:swapsWith value (some (.Subscript o i pos')) pos.line X.env=pure false):
  PS X (.Assign [.Subscript o i pos'] value pos) (tD td ty tv):=by
 intro pins s σ H D I h;refine wpAny_Assign_Subscript (bM (hv pins s σ H _ I h) λr s1 ⟨v,H1,I1,rv,q1⟩=>bM (ho pins s1 σ H1 _ I1 q1) λu s2 ⟨x,H2,I2,rx,q2⟩=>bM (hi pins s2 σ H2 _ I2 q2) λiv s3 ⟨y,H3,I3,ry,a,H4,ex,g,q3⟩=>?_) hs;subst ex;obtain rfl:u=Value.ref a:=rx;exact Nm hu I3 g ry rv λs4 I4=>⟨σ,H4,I4,q3⟩
end
def Nq{P:Program}{w:World}{H:Hp}(h:Heap)(hb:sysModules<h.objs.size):bq P w H (h.push { cls:=.type "dict",data:=.dict #[] }) h.objs.size (.dK []) :=
 ⟨VX _,beq_eq_false_iff_ne.mpr (Ne.symm (VS hb)),[],.nil,Heap.DictOf.new h⟩
abbrev pZ:TE:=λ_ H Q=>∀p,H p=none->Q (.ref p) (upd H p (.dK []))
section
variable {X:Cx}{pos:Pos}
def Nr:PE X (.Dict [] [] pos) pZ:=λpins s σ H Q I h =>
 wpAny_Dict_empty ⟨.ref s.heap.objs.size,_,I.laid (a:=s.heap.objs.size) (o:=.dK []) (t':=s.toks) (λ_ _ q=>Vo _ q) (Vp _) (Nq s.heap I.big),rfl,h _ (I.hok.fresh (Vp _))⟩
end
end L2
namespace Jn
open PySem PySem.W PySem.Calls PyProof.Rows
def Nt{P:Params}{h:Heap}:∀(ns:List Int) (vs:List Value),WellAll P h vs (ns.map WData.int)->IntsAre vs ns:=by
 intro ns
 induction ns with
 |nil =>
  intro vs w;rw[Wl]at w;cases w;exact .nil
 |cons n ns ih =>
  intro vs w;rw[VO]at w;cases w with
  |cons a b =>
   cases a;exact .cons _ _ (ih _ b)
def Nu{l:OpenLaw}{n:Nat}(hn:l.most=some n){P:Params}{h:Heap}{args:List WData}{vals:List Value}
  (hpre:l.row.toRowW.claim.pre args=true) (hwl:WellAll P h vals args) :
  ∃a vs ns,vals=[Value.ref a]/\args=[WData.list (ns.map WData.int)]/\h.get? a=some { cls:=.type "list",data:=.seq vs.toArray }/\IntsAre vs ns/\ns.length<=n:=by
 have hsh:WShape.hasAll [] args [.list .int]=true:=(pre_splitW hpre).1;have hc:l.pre.holds [] { args:=args }=true:=(pre_splitW hpre).2;obtain⟨d,r,rfl,h1,h2⟩:=hasAllW_cons hsh;obtain rfl:=hasAllW_nil h2;obtain⟨xs,rfl,h3⟩:=hasW_list h1;obtain⟨ns,rfl⟩:=items_int h3;have hlen:ns.length<=n:=by
  unfold OpenLaw.pre at hc;have h4:(WTm.not (.lt (.lit (.int (n:Int))) (.len (.arg 0)))).holds [] { args:=[.list (ns.map .int)] }=true:=by
   have h4:=(holds_andW hc).1;rw[hn]at h4;exact h4
  have h5:=condW_of h4 (w_not (w_lt w_lit (w_len_list (w_arg rfl))));rw[Vl]at h5;refine Xn λq=>?_;have q':(n:Int)<((ns.length:Nat):Int):=by lk
  first
   |(rw[decide_eq_true q']at h5;exact absurd h5 ∅)
   |(simp at h5;lk)
 cases hwl with
 |cons w1 w2 =>
  cases w2;cases w1 with
  |list ho hall=>exact⟨_,_,ns,rfl,rfl,ho,Nt ns _ hall,hlen⟩
def Nv(l:OpenLaw)(args:List WData):l.row.toRowW.claim.post args (.bool true) args=true :=
 postW_of (r:=l.row.toRowW) (X:=(true == true))
  (show WShape.has [] (.bool true) .bool=true by first|rfl|decide|simp[WShape.has,WShape.arms,WShape.armsAll])
  (show(WTm.eq .res (.lit (.bool true))).value [] { args:=args,res:=some (.bool true),after:=args }=some (.bool (true == true))from w_eq_bool (w_res rfl) w_lit) rfl
def Nw{l:OpenLaw}{n:Nat}{q:Program}{loose:List Str}{XP:(Str->Option Value)->Heap->Prop}{YP:World->Heap->Prop}{d:DefRec}
  (hn:l.most=some n) (hdf:d.params.defaults=[])
  (call:∀(w:World) (s₀ s₁:Shared) (mg mb:Str->Option Value) (fa:Addr) (o:Obj) (pm cd doc:Value) (a:Addr) (vs:List Value) (ns:List Int),
   Ground q loose [] XP w s₀ mg mb s₁.heap->YP w s₁.heap ->
   s₁.heap.get? fa=some o->o.data=.func (docDef d.name d.params d.body d.scope pm cd doc)->s₁.heap.CodeRec cd d.name->mg d.name=some (.ref fa) ->
   s₁.heap.get? a=some { cls:=.type "list",data:=.seq vs.toArray }->IntsAre vs ns->ns.length<=n->s₁.gens=#[] ->
   codeAny (model l.prog w) callerA (.call (.ref fa) ⟨[.ref a],[]⟩) (λr s'=>r=.ok (.ret (.bool true))/\OldK s₁.heap s'.heap/\s'.os=s₁.os/\AllBare s'.gens) s₁) :
  WalkO q loose XP YP l.row.toRowW d [] (λf vs=>PySem.call f vs):=by
 intro w s₀ s₁ mg mb G Y fa o pm cd doc dV kV ho hd hcd hD hmg hg args vals as hpre hlay hrd hwl hlo;obtain rfl:dV=.none:=Dflts.none hD hdf;obtain rfl:kV=.none:=Dflts.noKw hD;obtain⟨a,vs,ns,rfl,rfl,hobj,hints,hlen⟩:=Nu hn hpre hwl;refine enter_call (codeAny_mono (call w s₀ s₁ mg mb fa o pm cd doc a vs ns G Y ho (fd_plain hd) hcd hmg hobj hints hlen hg) λr s' hq=>?_);obtain⟨rfl,h2,h3,h4⟩:=hq;exact⟨.inl ⟨.bool true,.bool true,[],rfl,λ_=>rfl,.bool true,Nv l _,λ_=>⟨List.Pairwise.nil,λ_ hm=>(nomatch hm)⟩⟩,h2,h3,h4⟩
end Jn
namespace L2
open PySem PySem.Spec PyProof.Rows
def Df:∀{vs:List Value} {ns:List Int},IntsAre vs ns->Vals (ns.map V.int) vs
 |_,_,.nil=>.nil
 |_,_,.cons n t h=>.cons ⟨t,rfl⟩ (Df h)
abbrev Only(H:Hp):Prop:=∀b,H b=none\/∃o xs,H b=some (.k6 o (.lst xs))
def Nx{P:Program}{w:World}{K:Zfr}{mg mb:Str->Option Value}{CX:nH}{k:Nat}{fa a:Addr}{fd:FuncData}{x:Str}{sp:Sp}{s₁:Shared}{vs:List Value}{ns:List Int}
  (KX:K.In s₁.heap) (hns:s₁.heap.Ns mainGlobals mg) (hb:s₁.heap.Ns builtinsNs mb) (Ny:∀x:Str,x≠"__name__" -> mb x=bootBuiltins x) (hlim:s₁.heap.NoLimit) (hg:s₁.gens=#[])
  (ha:s₁.heap.get? a=some { cls:=.type "list",data:=.seq vs.toArray }) (hi:IntsAre vs ns) (hl:ns.length<=sizeLine) (hr:cM k callerA)
  (F:∀base:Heap,K.In base->base.Ns mainGlobals mg->aC P w K mg base CX k fa fd [x] sp) (hbind:∀(s:Shared) (u:Value),BindsTo s fd ⟨[u],[]⟩ [(x,u)])
  (pA:∀H:Hp,Only H->gP K H a (ns.map V.int)->sp [.ref a] H (λv _=>v=.bl true) λ_ _ _=>False)
  (zK:∀H e s',CX [] H s₁ (λ_ _ _=>False) e s'->False) :
  codeAny (model P w) callerA (.call (.ref fa) ⟨[.ref a],[]⟩) (λr s'=>r=.ok (.ret (.bool true))/\OldK s₁.heap s'.heap/\s'.os=s₁.os/\AllBare s'.gens) s₁:=by
 have rv:=Df hi;have FW:=hi.length;have core:∀ H:Hp,Only H->gP K H a (ns.map V.int)->gO P w H s₁.heap->(∀ b,H b≠none->b=a)->(H a≠none->K.lookup a=none) ->
   codeAny (model P w) callerA (.call (.ref fa) ⟨[.ref a],[]⟩) (λr s'=>r=.ok (.ret (.bool true))/\OldK s₁.heap s'.heap/\s'.os=s₁.os/\AllBare s'.gens) s₁:=by
  intro H hO hS hok hA hK;have ow:∀{b:Addr} {o:Obj},s₁.heap.get? b=some o->H b=none->(lK s₁.heap H).get? b=some o:=λe n=>MK e n;have zz:∀{b:Addr} {o:Obj} {es:Array DictEntry} {ep:Nat},s₁.heap.get? b=some o->o.data=.dict es ep->H b=none:=λ{b o es ep} e d=>by
   cases q:H b with
   |none=>rfl
   |some u =>
    have e':b=a:=hA b (by rw[q];simp);subst e';rw[ha]at e;cases e;have d':Data.seq vs.toArray _=Data.dict es ep:=d;cases d'
  have Dg:∀{b:Addr} {m:Str->Option Value},s₁.heap.Ns b m->(lK s₁.heap H).Ns b m:=λ{b m} ⟨o,es,ep,e,d,r⟩=>⟨o,es,ep,ow e (zz e d),d,r⟩
  have Jo:K.In (lK s₁.heap H):=λb o e=>ow (KX b o e) (by
   cases q:H b with
   |none=>rfl
   |some u =>
    have e':b=a:=hA b (by rw[q];simp);subst e'
    rw[hK (by rw[q];simp)]at e;cases e)
  have hM:Mod K mg (lK s₁.heap H):=⟨Jo,Dg hns,⟨mb,Dg hb,Ny⟩,let ⟨mc,h1,h2⟩:=hlim;⟨mc,Dg h1,h2⟩⟩;have e0:nI P w K mg (lK s₁.heap H) callerA [] s₁ H:=⟨rfl,hM,λb o e=>ML e,Nat.le_of_eq (MJ _ _),trivial,λb hb=>absurd (show b∈([]:List Addr)from hb) (by simp),hok,.of_eq hg⟩;refine codeAny_mono ((F _ Jo (Dg hns)).run callerA [] s₁ H ⟨[.ref a],[]⟩ [.ref a] [.ref a] _ _ hr e0 (hbind s₁ (.ref a)) (.cons rfl .nil) (pA H hO hS)) λr s' h=>?_;cases r with
  |error e=>exact(zK H e s' h).elim
  |ok fl =>
   cases fl with
   |next=>exact False.elim h
   |brk=>exact False.elim h
   |cont=>exact False.elim h
   |ret u =>
    obtain⟨v,H',os,bare,un,FX,r',q⟩:=h;have q':v=.bl true:=q;subst q';obtain rfl:u=Value.bool true:=r';refine⟨rfl,OldK.of_keep λb o e=>?_,os,bare⟩;cases q:H b with
    |none=>exact un.keep b o e q (by intro z;exact absurd (show b∈([]:List Addr)from z) (by simp)) (by simp)
    |some u =>
     rcases hO b with z|⟨ob,xs,z⟩
     ·rw[q]at z;cases z
     ·have z2:=un.lJ b ob _ z
      obtain⟨e1,_⟩:=hok b _ z;obtain⟨e2,_⟩:=FX b _ z2;rw[e]at e1;cases e1;exact e2
 cases hk:K.lookup a with
 |some o =>
  have e:=KX a o hk;rw[ha]at e;cases e;refine core (λ_=>none) (λ_=>.inl rfl) (.inr ⟨_,vs.toArray,_,hk,rfl,rfl,rfl,by rw[Vt,FW];exact hl,by simpa using rv⟩) (λb u z=>by have z':(none:Option HO)=some u:=z;cases z') (λb z=>absurd rfl z) λz=>absurd rfl z
 |none =>
  refine core (λb=>if b=a then some (.k6 { cls:=.type "list",data:=.seq vs.toArray } (.lst (ns.map V.int)))else none) (λb=>?_) (.inl (.inr ⟨{ cls:=.type "list",data:=.seq vs.toArray },if_pos rfl⟩)) (λb u z=>?_) (λb z=>?_) λ_=>hk
  ·by_cases hb:b=a
   ·exact .inr ⟨_,_,if_pos hb⟩
   ·exact .inl (if_neg hb)
  ·by_cases hb:b=a
   ·have z':=(if_pos hb).symm.trans z
    cases z';subst hb;exact⟨ha,by rw[Vl];exact hl,vs,_,rv,ha⟩
   ·have z':=(if_neg hb).symm.trans z
    cases z'
  ·by_cases hb:b=a
   ·exact hb
   ·exact absurd (if_neg hb) z
@[reducible]def KOf{K:Zfr}{h:Heap}(_:K.In h):Zfr:=K
def Nz{l:PySem.W.OpenLaw}{n k:Nat}{q:Program}{loose:List Str}{XP:(Str->Option Value)->Heap->Prop}{YP:World->Heap->Prop}{d:DefRec}{K:Params->Zfr}{CX:World->nH}{sp:World->Sp}{x:Str}
  (hn:l.most=some n) (hn2:n<=sizeLine) (hdf:d.params.defaults=[]) (hr:cM k callerA)
  (hY:∀(w:World) (h:Heap),YP w h->(K w.params).In h)
  (F:∀(w:World) (mg:Str->Option Value) (fa:Addr) (h:Heap),(K w.params).In h->h.Ns mainGlobals mg->mg d.name=some (.ref fa) ->
   ∃fd:FuncData,(∀(s:Shared) (u:Value),BindsTo s fd ⟨[u],[]⟩ [(x,u)]) /\
    ∀base:Heap,(K w.params).In base->base.Ns mainGlobals mg->aC l.prog w (K w.params) mg base (CX w) k fa fd [x] (sp w))
  (pA:∀(w:World) (H:Hp) (a:Addr) (ns:List Int),ns.length<=n->Only H->gP (K w.params) H a (ns.map V.int)->sp w [.ref a] H (λv _=>v=.bl true) λ_ _ _=>False)
  (zK:∀(w:World) (H:Hp) (s:Shared) (e:Value) (s':Shared),CX w [] H s (λ_ _ _=>False) e s'->False) :
  PySem.W.WalkO q loose XP YP l.row.toRowW d [] (λf vs=>PySem.call f vs):=by
 refine Jn.Nw hn hdf λw s₀ s₁ mg mb fa o pm cd doc a vs ns G Y ho hd hcd hmg hobj hints hlen hg=>?_;have KX:=hY w _ Y;obtain⟨fd,hb,hF⟩:=F w mg fa _ KX G.T.g hmg;exact Nx KX G.T.g G.T.b G.T.builtins G.T.nolimit hg hobj hints (VH hlen hn2) hr hF hb (λH hO hS=>pA w H a ns hlen hO hS) λH e s'=>zK w H s₁ e s'
def NA{l:PySem.W.OpenLaw}{n k:Nat}{q:Program}{loose:List Str}{XP:(Str->Option Value)->Heap->Prop}{YP:World->Heap->Prop}{d:DefRec}{K:Params->Zfr}{CX:nH}{sp:Zfr->Sp}{x:Str}
  (hn:l.most=some n) (hn2:n<=sizeLine) (hdf:d.params.defaults=[]) (hr:cM k callerA)
  (hY:∀(w:World) (h:Heap),YP w h->(K w.params).In h)
  (F:∀(w:World) (mg:Str->Option Value) (fa:Addr) (h:Heap),(K w.params).In h->h.Ns mainGlobals mg->mg d.name=some (.ref fa) ->
   ∃fd:FuncData,(∀(s:Shared) (u:Value),BindsTo s fd ⟨[u],[]⟩ [(x,u)]) /\
    ∀base:Heap,(K w.params).In base->base.Ns mainGlobals mg->aC l.prog w (K w.params) mg base CX k fa fd [x] (sp (K w.params)))
  (pA:∀(K:Zfr) (H:Hp) (a:Addr) (ns:List Int),ns.length<=n->Only H->gP K H a (ns.map V.int)->sp K [.ref a] H (λv _=>v=.bl true) λ_ _ _=>False)
  (zK:∀(H:Hp) (s:Shared) (e:Value) (s':Shared),CX [] H s (λ_ _ _=>False) e s'->False) :
  PySem.W.WalkO q loose XP YP l.row.toRowW d [] (λf vs=>PySem.call f vs) :=
 Nz (K:=K) (CX:=λ_=>CX) (sp:=λw=>sp (K w.params)) hn hn2 hdf hr hY F (λw H a ns h1 h2 h3=>pA (K w.params) H a ns h1 h2 h3) λ_ H s e s'=>zK H s e s'
abbrev cB(s:Stmt):Arguments:=match s with
 |.FunctionDef _ a _ _ _ _ _ _ _ _=>a
 |_=>{ posonlyargs:=[],args:=[],vararg:=none,kwonlyargs:=[],kw_defaults:=[],kwarg:=none,defaults:=[] }
abbrev bT(s:Stmt):List Stmt:=match s with
 |.FunctionDef _ _ b _ _ _ _ _ _ _=>b
 |_=>[]
abbrev aj(s:Stmt):Scope:=match s with
 |.FunctionDef _ _ _ _ _ _ sc _ _ _=>sc
 |_=>{ kind:=.function,names:=[],isGenerator:=false,isCoroutine:=false }
@[reducible]def bK:nH:=λ_ _ _ _ _ _=>False
@[reducible]def E0:XK:=λ_ _ _=>False
def zL{X:Cx}:Passes bK X E0:=λ_ _ _ _ _ _ _ h=>h.elim
structure tG(K:Zfr)(x qual:Str)(st:Stmt)(f:Addr)(fd:FuncData):Prop where
 ex:∃(oc:Value) (od:Option Addr) (kV doc pm:Value) (an:Option Addr) (cdv ct:Value) (osl:Array (Option Value)),
  fd=PySem.W.fnOf x qual (cB st) (bT st) (aj st) .none kV doc pm an cdv ct/\K.lookup f=some ⟨oc,od,.func fd,osl⟩/\PySem.W.codeIn K cdv qual=true
 kp:PySem.W.keepIn K (.ref f)=true
section
variable {P:Program}{w:World}{K:Zfr}{mg:Str->Option Value}{base:Heap}
def tG.ok{x qual:Str}{st:Stmt}{f:Addr}{fd:FuncData}{N ps:List Str}{k:Nat}{sp:Sp}(F:tG K x qual st f fd)(S:ax N ps (aj st))(len:∀vs H Q E,sp vs H Q E->vs.length=ps.length)
  (hbody:∀(cdv:Value) (A:Around) (outer:List Env) (s:Shared) (H:Hp) (vs:List V) (Q:VK) (E:XK),cM k (A.deeper (envOfC qual (aj st) s.heap.objs.size f cdv))->sp vs H Q E ->
   ∃t,ny (dP bK P w K mg base N qual (aj st) f cdv A outer s H E).nz (bT st) t/\t { nx:=λ_ H'=>Q .non H',rt:=Q } (start N vs) H):aC P w K mg base bK (k+1) f fd ps sp:=by
 obtain⟨oc,od,kV,doc,pm,an,cdv,ct,osl,rfl,lk,hcd⟩:=F.ex;refine sX lk hcd S len λA outer s H vs Q E hr pA=>?_;obtain⟨t,h,q⟩:=hbody cdv A outer s H vs Q E hr pA;exact⟨t,h.nz,q⟩
def Jp{x qual:Str}{st:Stmt}{f:Addr}{oc:Value}{od an:Option Addr}{osl:Array (Option Value)}{kV doc pm cdv ct:Value}(l:K.lookup f=some ⟨oc,od,.func (PySem.W.fnOf x qual (cB st) (bT st) (aj st) .none kV doc pm an cdv ct),osl⟩)
  (c:PySem.W.codeIn K cdv qual=true) (k:PySem.W.keepIn K (.ref f)=true):tG K x qual st f (PySem.W.fnOf x qual (cB st) (bT st) (aj st) .none kV doc pm an cdv ct):=⟨⟨oc,od,kV,doc,pm,an,cdv,ct,osl,rfl,l,c⟩,k⟩
end
def zM{A:Around}{k:Nat}(hr:cM k A):A.units+1<cLine:=Wm (Nat.add_le_add_left (by decide:1<=64) _) hr.units
section
variable {X:Cx}
def pv(i:Nat){x:Str}{pos:Pos}(hN:X.N[i]?=some x:=by rfl)(hv:Fi X.env.scope x:=by first | exact Or.inl rfl | exact Or.inr (Or.inl rfl) | exact Or.inr (Or.inr rfl))(hd:(x == ("__debug__" : Str))=false:=by decide)
  (hcd:(x == ("__classdict__" : Str))=false:=by decide):PE X (.Name x pos) (pM i):=uY hN hv hd hcd
end
def nL{A B:Prop}(h:B):if false=true then A else B:=by rw[if_neg Vs];exact h
def nM{A B:Prop}(h:A):if true=true then A else B:=by rw[if_pos rfl];exact h
abbrev fH(H H':Hp):Prop:=∀b o,H b=some o->H' b=some o
def fH.refl(H:Hp):fH H H:=λ_ _ h=>h
def kR:bootBuiltins "len" = some (.builtin "len"):=by decide +kernel
def pB:bootBuiltins "list" = some (.type "list"):=by decide +kernel
def lP:bootBuiltins "tuple" = some (.type "tuple"):=by decide +kernel
def rL:bootBuiltins "range" = some (.type "range"):=by decide +kernel
def vA:bootBuiltins "min" = some (.builtin "min"):=by decide +kernel
def Dh:bootBuiltins "sorted" = some (.builtin "sorted"):=by decide +kernel
def Di:bootBuiltins "repr" = some (.builtin "repr"):=by decide +kernel
structure Kp(ch:List Addr)(H H':Hp):Prop where
 keep:∀b o,H b=some o->b ∉ ch->H' b=some o
 tup:∀b xs,H b=some (.tup xs)->H' b=some (.tup xs)
 k6:∀b o u,H b=some (.k6 o u)->H' b=some (.k6 o u)
section
variable {ch:List Addr}{H H1 H2:Hp}{a l p:Addr}{o:HO}{xs ys:List V}{K:Zfr}
def Kp.refl:Kp ch H H:=⟨λ_ _ h _=>h,λ_ _ h=>h,λ_ _ _ h=>h⟩
def Kp.of_same(h:fH H H1):Kp ch H H1:=⟨λb o e _=>h b o e,λb xs e=>h b _ e,λb o u e=>h b _ e⟩
def Kp.put(h:Kp ch H H1)(ha:a∈ch)(e:H1 a=some (.lst xs)):Kp ch H (upd H1 a o) :=
 ⟨λb u q n=>by rw[cL (λz=>n (by rw[z];exact ha))];exact h.keep b u q n,
   λb u q=>by
  have r:=h.tup b u q;rw[cL (Fg r e (by intro z;cases z))];exact r,
   λb u v q=>by
  have r:=h.k6 b u v q
  rw[cL (Fg r e (by intro z;cases z))];exact r⟩
def Kp.FY(h:Kp ch H H1)(q:de K H a xs):de K H1 a xs:=by
 rcases q with(q|⟨o,q⟩)|q
 exact .inl (.inl (h.tup a xs q));exact .inl (.inr ⟨o,h.k6 a o _ q⟩);exact .inr q
abbrev zN(K:Zfr)(H:Hp)(a:Addr)(xs:List V):Prop :=
 (∃o,H a=some (.k6 o (.lst xs))) \/
  ∃(o:Obj) (its:Array Value) (n:Nat),K.lookup a=some o/\o.cls=.type "list" /\ o.dict=none/\o.data=.seq its n/\its.size<=sizeLine/\Vals xs its.toList
def zN.sq(h:zN K H a xs):gP K H a xs:=h.elim (λ⟨o,e⟩=>.inl (.inr ⟨o,e⟩)) .inr
def gP.script(hO:Only H)(q:gP K H a xs):zN K H a xs:=by
 rcases q with(q|⟨o,q⟩)|q
 rcases hO a with e|⟨o,ys,e⟩
 rw[e]at q;cases q;rw[e]at q;cases q;exact .inl ⟨o,q⟩;exact .inr q
def fH.up(h:H p=none):fH H (upd H p o):=λb u e=>by rw[cL (uT e h)];exact e
end
abbrev nO(K:Zfr)(H:Hp)(xs:List V)(Q:VK):Prop:=∀p H',de K H' p xs->fH H H'->Q (.ref p) H'
section
variable {X:Cx}
def nO.new{K:Zfr}{H:Hp}{xs:List V}{Q:VK}(h:nO K H xs Q):∀p,H p=none->Q (.ref p) (upd H p (.tup xs)):=λp hp=>h p _ (de.of kM) (fH.up hp)
def nO.it{K:Zfr}{H:Hp}{xs:List V}{Q:VK}{a:Addr}(h:nO K H xs Q)(q:de K H a xs):Q (.ref a) H:=h a H q (fH.refl H)
abbrev p7(K:Zfr):R2:=λx y H Q=>∃a b xs ys,x=.ref a/\y=.ref b/\de K H a xs/\de K H b ys/\xs.length+ys.length<=sizeLine/\nO K H (xs ++ ys) Q
def Dj:jV X (binaryOp .Add) (p7 X.K):=by
 intro pins s σ H x y v u Q I rx ry h;obtain⟨a,b,xs,ys,rfl,rfl,ha,hb,hz,q⟩:=h;by_cases hx:xs=[];subst hx;cases rx;cases ry;obtain⟨its,r1,p1,_⟩:=I.tuple ha;obtain⟨its2,r2,p2,_⟩:=I.tuple hb;have e:its=[]:=r1.j4.mpr rfl;subst e;obtain⟨⟨cls,dd,data,sl⟩,ho,hc,n,hd⟩:=id p1;obtain⟨⟨FD,dd2,data2,sl2⟩,ho2,hc2,n2,hd2⟩:=id p2;simp only at hc hd hc2 hd2;subst hc hd hc2 hd2;exact concat_meets ⟨_,ho,rfl⟩ ⟨_,ho2,rfl⟩ noFill_tuple_add seq_tuple_add PySem.F.slot_tuple_add PySem.F.entry_tuple_add (PySem.F.args_tuple_add_2 _ _)
  (tuple_addW0 a b #[] its2.toArray n n2 dd dd2 sl sl2 (by simp)) ⟨ho,ho2,⟨.ref b,H,I,rfl,q.it (by simpa using hb)⟩⟩
 exact Nf pins s σ H _ _ v u Q I rx ry ⟨a,b,xs,ys,rfl,rfl,ha,hb,hx,hz,λe=>q.it (by subst e;simpa using ha),λ_=>q.new⟩
def NC{prog:Program}{w:World}{A:Around}{E:Value->Shared->Prop}{s:Shared}{t sl:Addr}{items:Array Value}{vl vu:Value}{lo hi:Option Int}{Q:Value->Shared->Prop}(ht:IsTup s.heap t items)(hs:s.heap.IsSliceOf sl vl vu .none)(pl:IsPart vl lo)(pu:IsPart vu hi)
  (hw:HT.bP items.size 0 lo=0/\HT.bP items.size items.size hi=items.size) (h:Q (.ref t) s):wpAny (model prog w) A (getItem (.ref t) (.ref sl)) Q E s:=by
 obtain⟨os,hos,hcs,hds⟩:=id hs;have FE:s.TypeIs (.ref sl) "slice" := ⟨os,hos,hcs⟩;unfold getItem
 try with_reducible refine wpAny_holding ?_
 first|refine wpAny_bind (wpAny_pure ?_)|skip
 refine wpAny_bind (wpAny_sequenceKey ht.typeIs ∅ ?_)
 refine wpAny_bind (wpAny_callSpecial?_slot (name:=Str.ofString "__getitem__") ht.typeIs PyProof.Rows.slot_tuple_getitem
  (wpAny_call_entry PyProof.Rows.slot_tuple_getitem ht.typeIs entry_tuple_getitem ?_ (args_tuple_getitem _ _)))
 show wpAny _ _ (Builtin.Tuple.tupleItemsOf (.ref t) >>= _) _ _ s;refine wpAny_bind (tupleItemsOf_ ht ?_);refine wpAny_bind (wpAny_typeOf FE ?_);rw[if_pos ∅];refine wpAny_bind (HT.IZ hs pl pu ?_);have hyes:((((HT.bP items.size 0 lo:Nat):Int) == 0 && (1:Int) == 1 && (HT.bP items.size items.size hi-HT.bP items.size 0 lo) == items.size)=true):=by
  rw[hw.1,hw.2];simp
 show wpAny _ _ (if(((HT.bP items.size 0 lo:Nat):Int) == 0 && (1:Int) == 1 && (HT.bP items.size items.size hi-HT.bP items.size 0 lo) == items.size)=true then _ else _) _ _ s;rw[if_pos hyes];obtain⟨o,ho,hc,n,hd⟩:=id ht;unfold Builtin.Tuple.tupleIsExact
 first
  |exact wpAny_bind (wpAny_bind (wpAny_typeOf (T:="tuple") ⟨o,ho,hc⟩ (wpAny_pure (wpAny_bind (wpAny_rule (wpAny_pure ⟨_,rfl,wpAny_pure h⟩))))))
  |exact wpAny_bind (wpAny_bind (wpAny_typeOf (T:="tuple") ⟨o,ho,hc⟩ (wpAny_pure (wpAny_bind (wpAny_rule (wpAny_bind (wpAny_pure ⟨_,rfl,wpAny_pure h⟩)))))))
  |trace_state
abbrev tH(K:Zfr):V->Option Int->Option Int->Hp->VK->Prop:=λx lo hi H Q=>∃a xs,x=.ref a/\de K H a xs/\nO K H (kj xs lo hi) Q
def ND{xs:List V}{lo hi:Option Int}(h:HT.bP xs.length 0 lo=0/\HT.bP xs.length xs.length hi=xs.length):kj xs lo hi=xs:=by unfold kj;rw[h.1,h.2];simp
def NF:Dc X (tH X.K):=by
 intro pins s σ H x v vl vu lo hi sl Q I rx hs pl pu h;obtain⟨a,xs,rfl,hx,q⟩:=h;by_cases hw:HT.bP xs.length 0 lo=0/\HT.bP xs.length xs.length hi=xs.length;cases rx;obtain⟨its,r,ht,hz⟩:=I.tuple hx;have hlen:its.toArray.size=xs.length:=by rw[Vt];exact r.length.symm
 refine⟨"tuple",_,PyProof.Rows.slot_tuple_getitem.lookup,ht.typeIs,?_⟩;exact NC ht hs pl pu (by rw[hlen];exact hw) ⟨.ref a,H,I,rfl,q.it (by rw[ND hw];exact hx)⟩;exact vh pins s σ H _ v vl vu lo hi sl Q I rx hs pl pu ⟨a,xs,rfl,hx,hw,q.new⟩
abbrev dQ(lo:Int)(n:Nat):List V:=(List.range n).map λ(k:Nat)=>V.int (lo+k)
def NG(lo:Int)(n:Nat):(dQ lo n).length=n:=by simp[dQ]
def FZ:eN X (.type "range") (λxs H Q=>∃j:Int,xs=[.int j]/\∀p,H p=none->Q (.ref p) (upd H p (.gI 0 j))):=by intro pins s σ H xs us Q I r h;obtain⟨j,rfl,q⟩:=h;obtain⟨u,rfl,t,rfl⟩:=vals1 r;refine call_range_1 ⟨.ref s.heap.objs.size,_,I.laid (o:=.gI 0 j) (λb o e=>Vo _ e) (Vp _) ?_,rfl,q _ (I.hok.fresh (Vp _))⟩;exact⟨_,_,_,VF _ rfl⟩
def yo:eN X (.type "range") (λxs H Q=>∃i j:Int,xs=[.int i,.int j]/\∀p,H p=none->Q (.ref p) (upd H p (.gI i j))):=by intro pins s σ H xs us Q I r h;obtain⟨i,j,rfl,q⟩:=h;obtain⟨u,u',rfl,⟨t,rfl⟩,t',rfl⟩:=vals2 r;refine call_range_2 ⟨.ref s.heap.objs.size,_,I.laid (o:=.gI i j) (λb o e=>Vo _ e) (Vp _) ?_,rfl,q _ (I.hok.fresh (Vp _))⟩;exact⟨_,_,_,VF _ rfl⟩
def Jq:∀(n:Nat) (lo:Int) (us:List Value),us.length=n->(∀(j:Nat) (v:Value),us[j]?=some v->∃t,v=.int (lo+j*1) t)->Vals (dQ lo n) us
 |0,lo,[],_,_=>.nil
 |0,lo,_ :: _,h,_=>by simp at h
 |n+1,lo,[],h,_=>by simp at h
 |n+1,lo,u :: us,h,hv=>by
  have e:dQ lo (n+1)=V.int lo :: dQ (lo+1) n:=by
   unfold dQ;rw[List.range_succ_eq_map,VO,VT]
   congr 1
   simp;apply Wa;intro i _;simp only[Function.comp]
   congr 1
   push_cast
   lk
  rw[e];obtain⟨t,ht⟩:=hv 0 u rfl;refine .cons ⟨t,by rw[ht];simp⟩ (Jq n (lo+1) us (by simpa using h) λj v hj=>?_);obtain⟨t',ht'⟩:=hv (j+1) v hj;refine⟨t',ht'.trans ?_⟩
  congr 1
  lk
def rM(hc:X.calm=true):eN X (.type "list") (λxs H Q=>∃p lo hi,xs=[.ref p]/\H p=some (.gI lo hi)/\(-(2 ^ 62)<=lo/\lo<2 ^ 62/\-(2 ^ 62)<=hi/\hi<2 ^ 62)/\(hi-lo).toNat<=2 ^ 24 /\
  ∀l,H l=none->Q (.ref l) (upd H l (.lst (dQ lo (hi-lo).toNat)))):=by
 intro pins s σ H xs us Q I r h;obtain⟨p,lo,hi,rfl,hp,⟨b1,b2,b3,b4⟩,hz,q⟩:=h;obtain⟨u,rfl,ru⟩:=vals1 r;cases ru;obtain⟨t,t',t'',e⟩:=(show bq X.prog X.w H s.heap p (.gI lo hi)from I.hok p _ hp);refine call_list_range (a:=lo) (b:=hi) (c:=1) (n:=(hi-lo).toNat) (I.ok.hd hc) (show IsRange s.heap p lo hi 1 t t' t'' from e) (small_one b1 b2 b3 b4) (by rw[rangeSize_one];split<;>lk) hz λh' tk acc c kp hD hI=>?_;refine⟨.ref s.heap.objs.size,_,I.laid (t':=tk) (o:=.lst (dQ lo (hi-lo).toNat)) kp (Vp _) ?_,rfl,q _ (I.hok.fresh (Vp _))⟩;refine⟨by rw[NG];exact VH hz ∅,acc.toList,c,Jq _ _ _ (by rw[Wv];exact hI.1) λj v hj=>hI.2 j v (by rw[<- hj,WB]),by simpa using hD⟩
def Jr{prog:Program}{w:World}{A:Around}{E:Value->Shared->Prop}{s:Shared}{l:Addr}{vs:List Value}{Q:List Value->Shared->Prop}(hl:IsTup s.heap l vs.toArray)
  (h:Q vs { s with heap:=(s.heap.push (seqObj "list" #[] 0)).update s.heap.objs.size (Obj.mapSeq (· ++ vs.toArray)) }) (hsz:vs.length<=sizeLine) :
  wpAny (model prog w) A (collect (.ref l)) Q E s:=by
 obtain⟨o,ho,hc,n,hd⟩:=id hl;unfold collect;refine wpAny_bind (wpAny_runValue (codeAny_builtin entry_proto_collect' ?_));show wpAny _ _ (do again (.builtin "list.__iadd__" ⟨[<- newList [],.ref l],[]⟩)) _ _ s;refine wpAny_bind (wpAny_newList (wpAny_pure ⟨Code.quiet_builtin _ (by decide +kernel),codeAny_builtin entry_list_iadd' ?_⟩));show wpAny _ _ (Builtin.List.listExtendWith (.ref s.heap.objs.size) (.ref l) (.ref s.heap.objs.size)) _ _ { s with heap:=s.heap.push (seqObj "list" #[] 0) };unfold Builtin.List.listExtendWith;have ho':(s.heap.push (seqObj "list" #[] 0)).get? l=some o:=Vo _ ho;refine wpAny_bind (wpAny_typeOf (T:="tuple") ⟨o,ho',hc⟩ ?_);have ht:(Value.type "tuple" == Value.type "tuple")=true:=by rfl
 rw[if_pos (by rw[ht];simp)];refine wpAny_bind (listItems_at ho' hd ?_);refine wpAny_bind (listItems_at (xs:=#[]) (n:=0) (VF _ rfl) rfl ?_);rw[if_neg (by simp)];refine wpAny_bind (listUpdate_at (xs:=#[]) (n:=0) (VF _ rfl) rfl ?_ (VX _) (by show(#[] ++ vs.toArray).size<=sizeLine+1;simp only[Array.size_append,Vt,WY];lk));refine wpAny_pure ?_
 show wpAny (model prog w) A (do
   let o <- load s.heap.objs.size
   match o.data with
   |.seq xs _=>pure xs.toList
   |_=>unsupported "internal:collect") Q E { s with heap:=(s.heap.push (seqObj "list" #[] 0)).update s.heap.objs.size (Obj.mapSeq (· ++ vs.toArray)) }
 refine wpAny_bind (wpAny_load (get?_update_seq (VF _ rfl) _) ?_);show wpAny _ _ (pure ((#[]:Array Value) ++ vs.toArray).toList) Q E _;rw[show((#[]:Array Value) ++ vs.toArray).toList=vs by simp];exact wpAny_pure h
def NH{prog:Program}{w:World}{A:Around}{E:Value->Shared->Prop}{s:Shared}{l:Addr}{vs:List Value}{ns:List Int}{Q:Value->Shared->Prop}(hl:IsTup s.heap l vs.toArray\/s.heap.IsList l vs.toArray)(hI:IntsAre vs ns)(h64:vs.length<64)
  (h:∀(out:Array Value) (ns':List Int),IntsAre out.toList ns'->ns'.Perm ns->ns'.Pairwise (·<=·)->Q (.ref (s.heap.objs.size+1)) { s with heap:=sortedAll s.heap vs out }) :
  wpAny (model prog w) A (call (.builtin "sorted") [.ref l]) Q E s:=by
 rcases hl with hl|hl
 refine Calls.call_function_entry kind_sorted plain_sorted entry_sorted (args_sorted1 _) ?_;unfold Builtin.«sorted»;refine wpAny_bind (m:=checkCount "sorted" 1 1 _) (wpAny_pure ?_);refine wpAny_bind (Jr hl ?_ (VH (Wg h64) ∅));refine wpAny_bind (wpAny_newList ?_);have hsz:((s.heap.push (seqObj "list" #[] 0)).update s.heap.objs.size (Obj.mapSeq (· ++ vs.toArray))).objs.size=s.heap.objs.size+1:=by
  rw[Heap.size_update,size_push']
 have pL:(((s.heap.push (seqObj "list" #[] 0)).update s.heap.objs.size (Obj.mapSeq (· ++ vs.toArray))).push (seqObj "list" vs.toArray 0)).get? (s.heap.objs.size+1)=some (seqObj "list" vs.toArray 0):=by
  rw[<- hsz];exact VF _ rfl
 show wpAny _ _ _ _ _ { s with heap:=((s.heap.push (seqObj "list" #[] 0)).update s.heap.objs.size (Obj.mapSeq (· ++ vs.toArray))).push (seqObj "list" vs.toArray 0) };rw[hsz];refine wpAny_bind (wpAny_holding (wpAny_call_entry slot_list_sort ⟨_,pL,rfl⟩ entry_list_sort (list_sort_tree pL hI h64 λout ns' a1 a2 a3=>⟨_,rfl,?_⟩) (args_list_sort _)));exact wpAny_pure ⟨_,rfl,h out ns' a1 a2 a3⟩;exact sorted_ints hl hI h64 h
def Js:eN X (.builtin "sorted") (λxs H Q=>∃(p:Addr) (ns:List Int),xs=[.ref p]/\(gP X.K H p (ns.map V.int)\/de X.K H p (ns.map V.int))/\ns.length<64 /\
  ∀(l:Addr) (ms:List Int),H l=none->ms.Perm ns->ms.Pairwise (·<=·)->Q (.ref l) (upd H l (.lst (ms.map V.int)))):=by
 intro pins s σ H xs us Q I r h;obtain⟨p,ns,rfl,hq,h64,q⟩:=h;obtain⟨u,rfl,ru⟩:=vals1 r;cases ru;have fin:∀(its:List Value),Vals (ns.map V.int) its->(IsTup s.heap p its.toArray\/s.heap.IsList p its.toArray)->wpAny (model X.prog X.w) X.A (call (.builtin "sorted") [.ref p]) (EP X pins σ Q) X.xe s:=λits rv hp=>by
  have hl:=rv.length;rw[Vl]at hl;refine NH hp (I0 rv) ⋯ λout ms h1 h2 h3=>?_;obtain⟨e,he⟩:=sortedAll_at s.heap its out;have hz:ms.length=ns.length:=h2.length_eq;refine⟨.ref (s.heap.objs.size+1),_,I.laid (t':=s.toks) (o:=.lst (ms.map V.int)) (λb o q=>sortedAll_old q) (Wc _) ?_,rfl,q _ ms (I.hok.fresh (Wc _)) h2 h3⟩;refine⟨by rw[Vl,hz];exact VH (Wg h64) ∅,out.toList,e,Df h1,by simpa using he⟩
 rcases hq with hq|hq
 obtain⟨its,rv,pl,_⟩:=I.list hq;exact fin its rv (.inr pl.isList);obtain⟨its,rv,pl,_⟩:=I.tuple hq;exact fin its rv (.inl pl)
end
mutual
inductive Rep(K:Zfr)(H:Hp):V->PyData->Prop
 |non:Rep K H .non .none
 |bl (b:Bool):Rep K H (.bl b) (.bool b)
 |int (i:Int):Rep K H (.int i) (.int i)
 |str (x:Str):Rep K H (.str x) (.str x)
 |tup {a:Addr} {xs:List V} {ds:List PyData}:de K H a xs->dR K H xs ds->Rep K H (.ref a) (.tuple ds)
 |lst {a:Addr} {xs:List V} {ds:List PyData}:gP K H a xs->dR K H xs ds->Rep K H (.ref a) (.list ds)
inductive dR(K:Zfr)(H:Hp):List V->List PyData->Prop
 |nil:dR K H [] []
 |cons {v:V} {vs:List V} {d:PyData} {ds:List PyData}:Rep K H v d->dR K H vs ds->dR K H (v :: vs) (d :: ds)
end
section
variable {X:Cx}{pins:List (Addr×Obj)}{σ:St}{H:Hp}{s:Shared}
mutual
def Rep.reads(I:Inv X pins σ H s):∀{v:V} {d:PyData} {u:Value},Rep X.K H v d->RelV v u->∃as,Reads s.heap u d as
 |_,_,_,.non,r=>by cases r;exact⟨_,.none⟩
 |_,_,_,.bl b,r=>by cases r;exact⟨_,.bool b⟩
 |_,_,_,.int i,r=>by obtain⟨t,rfl⟩:=r;exact⟨_,.int i t⟩
 |_,_,_,.str x,r=>by obtain⟨t,rfl⟩:=r;exact⟨_,.str x t⟩
 |_,_,_,.tup q rs,r=>by
  cases r;obtain⟨its,rv,⟨o,e,c,n,hd⟩,_⟩:=I.tuple q;obtain⟨as,ra⟩:=dR.reads I rs rv;exact⟨_,.tuple e c hd (by simpa using ra)⟩
 |_,_,_,.lst q rs,r=>by
  cases r;obtain⟨its,rv,pl,_⟩:=I.list q;obtain⟨o,e,c,n,hd⟩:=pl.isList;obtain⟨as,ra⟩:=dR.reads I rs rv;exact⟨_,.list e c hd (by simpa using ra)⟩
def dR.reads(I:Inv X pins σ H s):∀{vs:List V} {ds:List PyData} {us:List Value},dR X.K H vs ds->Vals vs us->∃as,ReadsAll s.heap us ds as
 |_,_,_,.nil,r=>by cases r;exact⟨_,.nil⟩
 |_,_,_,.cons h t,r=>by
  cases r with
  |cons r1 r2 =>
   obtain⟨as,h1⟩:=Rep.reads I h r1;obtain⟨bs,h2⟩:=dR.reads I t r2;exact⟨_,.cons h1 h2⟩
end
abbrev zO(K:Zfr)(neg:Bool):R2:=λx y H Q=>∃d e,Rep K H x d/\Rep K H y e/\PyData.canLay0 d=true/\PyData.canLay0 e=true/\min d.depth e.depth<=60/\Q (.bl (if neg then !PyData.eqv d e else PyData.eqv d e)) H
def Jt(hu:X.A.units+64<cLine):jV X (compareOp .NotEq) (zO X.K true):=by intro pins s σ H x y v u Q I rx ry h;obtain⟨d,e,hd,he,c1,c2,dp,q⟩:=h;obtain⟨as,ra⟩:=hd.reads I rx;obtain⟨bs,rb⟩:=he.reads I ry;exact SeqAt.neOverData X.prog X.w X.A X.xe s v u d e as bs _ ra rb c1 c2 ⋯ ⟨.bl _,H,I,rfl,q⟩
end
section
variable {K:Zfr}{H:Hp}
abbrev dz(ns:List Int):List PyData:=ns.map PyData.int
def zP:∀(ns:List Int),PyData.canLayAll0 (dz ns)=true
 |[]=>rfl
 |n :: r=>by show(true && PyData.canLayAll0 (dz r))=true;rw[zP r];rfl
def Dk:∀(ns:List Int),PyData.depthAll (dz ns)=0
 |[]=>rfl
 |n :: r=>by show max 0 (PyData.depthAll (dz r))=0;rw[Dk r];rfl
def Dl:∀(ns ms:List Int),PyData.eqvAll (dz ns) (dz ms)=decide (ns=ms)
 |[],[]=>rfl
 |[],_ :: _=>rfl
 |_ :: _,[]=>rfl
 |n :: ns,m :: ms=>by
  show((n == m) && PyData.eqvAll (dz ns) (dz ms))=decide (n :: ns=m :: ms);rw[Dl ns ms];by_cases h:n=m;subst h;simp;simp[h]
end
end L2
namespace L2
open PySem PySem.Spec PyProof.Rows
structure Def(K:Zfr)(mg:Str->Option Value)(x:Str)(st:Stmt)(ps:List Str)(f:Addr)(fd:FuncData):Prop where
 F:tG K x x st f fd
 be:∀us:List Value,us.length=ps.length->bindArgs fd ⟨us,[]⟩=pure (ps.zip us)
 m:mg x=some (.ref f)
def Def.b{K:Zfr}{mg:Str->Option Value}{x:Str}{st:Stmt}{ps:List Str}{f:Addr}{fd:FuncData}(D:Def K mg x st ps f fd):Binds K fd ps []:=.all D.be
def iU{K:Zfr}{h:Heap}{mg:Str->Option Value}(X:K.In h)(G:h.Ns mainGlobals mg){x:Str}{st:Stmt}{ps:List Str}{f:Addr}{oc:Value}{od an:Option Addr}{osl:Array (Option Value)}{kV doc pm cdv ct:Value}
  (hb:∀(kV doc pm:Value) (an:Option Addr) (cdv ct:Value) (us:List Value),us.length=ps.length->bindArgs (PySem.W.fnOf x x (cB st) (bT st) (aj st) .none kV doc pm an cdv ct) ⟨us,[]⟩=pure (ps.zip us))
  (a:PySem.W.nsIn K mainGlobals x=some (some (.ref f))) (l:K.lookup f=some ⟨oc,od,.func (PySem.W.fnOf x x (cB st) (bT st) (aj st) .none kV doc pm an cdv ct),osl⟩)
  (c:PySem.W.codeIn K cdv x=true) (k:PySem.W.keepIn K (.ref f)=true):∃f fd,Def K mg x st ps f fd :=
 ⟨f,_,Jp l c k,hb kV doc pm an cdv ct,PySem.W.mg_of X G a⟩
def Def.rN{K:Zfr}{mg:Str->Option Value}{x p:Str}{st:Stmt}{f:Addr}{fd:FuncData}(D:Def K mg x st [p] f fd)(s:Shared)(u:Value):BindsTo s fd ⟨[u],[]⟩ [(p,u)]:=.of_eq (D.be [u] rfl)
def rO{K:Zfr}{h:Heap}{mg:Str->Option Value}(X:K.In h)(G:h.Ns mainGlobals mg){x:Str}(z:PySem.W.nsIn K mainGlobals x=some none):mg x=none:=PySem.W.mg_none_of X G z
def yp{n j:Nat}(h:j<n):kl n (j:Int)=some j:=by unfold kl;rw[if_pos ⋯,if_pos ⋯];simp
def vB{α:Type}{xs:List α}{i:Int}(h0:0<=i)(h1:i<xs.length):∃v,fG xs i=some v/\v∈xs:=by
 have hi:i.toNat<xs.length:=by lk
 refine⟨xs[i.toNat],?_,XU hi⟩;have:=yl (xs:=xs) (j:=i.toNat) (v:=xs[i.toNat]) (by simp[hi])
 rwa [VY h0]at this
def dT{c:Prop}[Decidable c](h:decide c=true):c:=of_decide_eq_true h
def zQ:∀(names:List (Str×NameKind)) (n:Nat) (acc:List (Str×Addr)),cellsFrom n names acc=cellsFrom n names [] ++ acc
 |[],_,_=>rfl
 |(x,k) :: r,n,acc=>by
  show(if k == .cell then cellsFrom (n+1) r ((x,n) :: acc)else cellsFrom n r acc)=(if k == .cell then cellsFrom (n+1) r [(x,n)]else cellsFrom n r []) ++ acc;by_cases hk:(k == NameKind.cell)=true;rw[if_pos hk,if_pos hk,zQ r (n+1) ((x,n) :: acc),zQ r (n+1) [(x,n)],W0];rfl;rw[if_neg hk,if_neg hk];exact zQ r n acc
def F0{x:Str}{c:Addr}:∀(names:List (Str×NameKind)) (n:Nat),(x,c)∈cellsFrom n names []->(x,NameKind.cell)∈names/\n<=c
 |[],_,h=>nomatch h
 |(y,k) :: r,n,h=>by
  have h':(x,c)∈(if k == .cell then cellsFrom (n+1) r [(y,n)]else cellsFrom n r []):=h;by_cases hk:(k == NameKind.cell)=true;rw[if_pos hk,zQ]at h';rcases VQ.mp h' with h'|h'
  obtain⟨h1,h2⟩:=F0 r (n+1) h';exact⟨VA _ h1,by lk⟩;have e:(x,c)=(y,n):=by simpa using h'
  cases e;have e2:k=NameKind.cell:=by simpa using hk
  subst e2;exact⟨Vw,Vp _⟩;rw[if_neg hk]at h';obtain⟨h1,h2⟩:=F0 r n h';exact⟨VA _ h1,h2⟩
def F3{env:Env}(f:Str×NameKind->List (Str×Addr)->Sem (ForInStep (List (Str×Addr))))
  (hf:∀name kind cs,f (name,kind) cs=if kind == .free then(do let c <- cellOf env name;pure (.yield ((name,c) :: cs)))else pure (.yield cs)) :
  ∀(names:List (Str×NameKind)) (acc:List (Str×Addr)),(∀y∈names,y.2=NameKind.free->∃c,env.cells.lookup y.1=some c) ->
   ∃cl,(forIn names acc f:Sem (List (Str×Addr)))=pure cl/\(∀n c,(n,c)∈cl->(n,c)∈acc\/(env.cells.lookup n=some c/\(n,NameKind.free)∈names))/\(∀p∈acc,p∈cl)/\∀n,(n,NameKind.free)∈names->∃c,(n,c)∈cl
 |[],acc,_=>⟨acc,by rw[List.forIn_nil],λn c h=>.inl h,λp h=>h,λn h=>nomatch h⟩
 |(x,k) :: r,acc,h=>by
  have hr:∀y∈r,y.2=NameKind.free->∃c,env.cells.lookup y.1=some c:=λy hy=>h y (VA _ hy);by_cases hk:k=NameKind.free;subst hk;obtain⟨c,hc⟩:=h (x,.free) Vw rfl;have e:cellOf env x=pure c:=by unfold cellOf;rw[hc]
  obtain⟨cl,e1,h1,h2,h3⟩:=F3 f hf r ((x,c) :: acc) hr;refine⟨cl,?_,λn d hd=>?_,λp hp=>h2 p (VA _ hp),λn hn=>?_⟩;rw[List.forIn_cons,hf,if_pos (by rfl),e];exact e1;rcases h1 n d hd with q|⟨q,q'⟩
  rcases VJ.mp q with q|q
  cases q;exact .inr ⟨hc,Vw⟩;exact .inl q;exact .inr ⟨q,VA _ q'⟩;rcases VJ.mp hn with q|q
  cases q;exact⟨c,h2 _ Vw⟩;exact h3 n q;obtain⟨cl,e1,h1,h2,h3⟩:=F3 f hf r acc hr;have hb:¬((k == NameKind.free)=true):=by simpa using hk
  refine⟨cl,?_,λn d hd=>?_,h2,λn hn=>?_⟩;rw[List.forIn_cons,hf,if_neg hb];exact e1;rcases h1 n d hd with q|⟨q,q'⟩
  exact .inl q;exact .inr ⟨q,VA _ q'⟩;rcases VJ.mp hn with q|q
  cases q;exact absurd rfl hk;exact h3 n q
def Ju{scope:Scope}{env:Env}(h:∀y∈scope.names,y.2=NameKind.free->∃c,env.cells.lookup y.1=some c):
  ∃cl,closureFor scope env=pure cl/\(∀n c,(n,c)∈cl->env.cells.lookup n=some c/\(n,NameKind.free)∈scope.names)/\∀n,(n,NameKind.free)∈scope.names->∃c,(n,c)∈cl:=by
 have key:∀ (f:Str×NameKind->List (Str×Addr)->Sem (ForInStep (List (Str×Addr)))),(∀ name kind cs,f (name,kind) cs=if kind == .free then(do let c <- cellOf env name;pure (.yield ((name,c) :: cs)))else pure (.yield cs)) ->
   ∃cl,((forIn scope.names [] f:Sem (List (Str×Addr))) >>= λr=>pure r)=pure cl/\(∀n c,(n,c)∈cl->env.cells.lookup n=some c/\(n,NameKind.free)∈scope.names)/\∀n,(n,NameKind.free)∈scope.names->∃c,(n,c)∈cl:=λf hf=>by
  obtain⟨cl,e,h1,_,h3⟩:=F3 f hf scope.names [] h;refine⟨cl,?_,λn c hc=>(h1 n c hc).elim (λz=>nomatch z) id,h3⟩;rw[e];rfl
 simp only[closureFor];exact key _ λname kind cs=>by cases hk:kind == NameKind.free<;>simp[hk]
def ltN{a b:Addr}(h:a<b):@LT.lt Nat _ a b:=h
def uX{a b:Addr}(h:@LT.lt Nat _ a b):a≠b:=VS h
def Jv{a b:Addr}(h:@LT.lt Nat _ b a):a≠b:=Xf h
def NI{M:Model}{A:Around}{E:Value->Shared->Prop}{s:Shared}{scope:Scope}{g:Addr}{cl:List (Str×Addr)}{q:Str}{env:Env}{Q:Env->Shared->Prop}
  (h:∀h',h'.Ns s.heap.objs.size (λ_=>none)->(∀b o,s.heap.get? b=some o->h'.get? b=some o)->CellsOk h' (s.heap.objs.size+1) (cellsFrom (s.heap.objs.size+1) scope.names []) ->
   Q { scope:=scope,locals:=s.heap.objs.size,globals:=g,cells:=cellsFrom (s.heap.objs.size+1) scope.names cl,qual:=q,func:=none,code:=env.code,frame:=env.frame,builtins:=env.builtins } { s with heap:=h' }) :
  wpAny M A (newFunctionEnv scope g cl [] q none .none (some env)) Q E s:=by
 simp only[newFunctionEnv,Option.isSome_some,if_true];refine wpAny_bind (wpAny_alloc ?_);refine wpAny_bind (wpAny_layCells _ (λname kind cells=>by cases hkc:kind == NameKind.cell<;>simp[hkc]) _ _ _ _ ?_);have ok:=cellsFrom_ok scope.names (s.heap.push { cls:=.type "dict",data:=.dict #[] }) (s.heap.objs.size+1) [] ⟨λ_ _ hm=>(nomatch hm),List.Pairwise.nil⟩ (by rw[WI];exact Vp _);rw[WI]at ok;rw[show({ s with heap:=s.heap.push { cls:=.type "dict",data:=.dict #[] } }:Shared).heap.objs.size=s.heap.objs.size+1 from WI ..];refine wpAny_bind ?_;rw[List.forIn_nil];refine wpAny_pure (wpAny_pure ?_);exact h _ ((Heap.Ns.new s.heap (.type "dict")).keeps (pushCells_keeps _ _)) (λb o e=>pushCells_keeps _ _ b o (Vo _ e)) ok
abbrev aI(X:Cx)(N:List Str)(scope:Scope)(cells:List (Str×Addr))(C:Addr)(fp:List Addr)(s:Shared)(H:Hp):Cx where
 prog:=X.prog
 w:=X.w
 K:=X.K
 mg:=X.mg
 base:=X.base
 A:=X.A
 N:=N
 s₀:=s
 H₀:=H
 env:=compEnvC scope cells C X.env
 outer:=X.stack
 stack:=X.stack
 ex:=fp
 fn:=λx=>decide (scope.names.lookup x=some .cell)
 calm:=X.calm
 pn:=[]
 xe:=λ_ _=>False
abbrev p8(scope sc:Scope):Scope :=
 { scope with names:=scope.names.map λ(n,k)=>if(k == .free && sc.kind == .function && sc.names.lookup n == some .cell)then(n,.cell)else(n,k) }
structure p9(sc scope:Scope)(own fr:List Str):Prop where
 kind:scope.kind=.function
 nd:(own ++ fr).Nodup
 yq:(scope.names.map (·.1)).Nodup
 free:∀y∈scope.names,y.2=.free->sc.names.lookup y.1=some .cell\/sc.names.lookup y.1=some .free
 F4:∀x∈fr,scope.names.lookup x=some .free
structure dS(X:Cx)(scope:Scope)(own fr:List Str)(js:List Nat):Prop where
 c:p9 X.env.scope scope own fr
 ix:js.map (λj=>X.N[j]?)=fr.map some
def dS.kind{X:Cx}{scope:Scope}{own fr:List Str}{js:List Nat}(S:dS X scope own fr js):scope.kind=.function:=S.c.kind
def dS.yq{X:Cx}{scope:Scope}{own fr:List Str}{js:List Nat}(S:dS X scope own fr js):(scope.names.map (·.1)).Nodup:=S.c.yq
def dS.F4{X:Cx}{scope:Scope}{own fr:List Str}{js:List Nat}(S:dS X scope own fr js):∀x∈fr,scope.names.lookup x=some .free:=S.c.F4
def dS.free{X:Cx}{scope:Scope}{own fr:List Str}{js:List Nat}(S:dS X scope own fr js):∀y∈scope.names,y.2=.free->X.env.kindOf y.1=some .cell\/X.env.kindOf y.1=some .free:=S.c.free
def zR{α:Type}:∀{l:List (Str×α)} {n:Str} {c:α},(l.map (·.1)).Nodup->(n,c)∈l->l.lookup n=some c
 |(k,v) :: r,n,c,nd,h=>by
  obtain⟨h1,h2⟩:=WM.mp nd;rw[Wn];rcases VJ.mp h with e|h
  cases e;simp
  have:(n == k)=false:=beq_eq_false_iff_ne.mpr λe=>h1 (by rw[<- e];exact Vy.mpr ⟨(n,c),h,rfl⟩)
  rw[this];exact zR h2 h
def Jw(scope:Scope)(env:Env)(x:Str):(relabel scope env).names.lookup x=none/\scope.names.lookup x=none \/
  ∃k,scope.names.lookup x=some k/\(relabel scope env).names.lookup x=some (if(k == .free && env.scope.kind == .function && env.kindOf x == some .cell)then .cell else k):=by
 have key:∀ names:List (Str×NameKind),(names.map λ(n,k)=>if(k == NameKind.free && env.scope.kind == .function && env.kindOf n == some .cell)then(n,NameKind.cell)else(n,k)).lookup x=none/\names.lookup x=none \/
   ∃k,names.lookup x=some k/\(names.map λ(n,k)=>if(k == NameKind.free && env.scope.kind == .function && env.kindOf n == some .cell)then(n,NameKind.cell)else(n,k)).lookup x=some (if(k == .free && env.scope.kind == .function && env.kindOf x == some .cell)then .cell else k):=by
  intro names
  induction names with
  |nil=>exact .inl ⟨rfl,rfl⟩
  |cons p r ih =>
   obtain⟨n,k⟩:=p;rw[VO];cases hx:x == n with
   |true =>
    have e:x=n:=by simpa using hx
    subst e;refine .inr ⟨k,by simp[Wn],?_⟩;by_cases hc:(k == NameKind.free && env.scope.kind == .function && env.kindOf x == some .cell)=true;simp only[if_pos hc];simp[Wn];simp only[if_neg hc];simp[Wn]
   |false =>
    have e1:∀q:NameKind,(((n,q) :: (r.map λ(n,k)=>if(k == NameKind.free && env.scope.kind == .function && env.kindOf n == some .cell)then(n,NameKind.cell)else(n,k))).lookup x)=((r.map λ(n,k)=>if(k == NameKind.free && env.scope.kind == .function && env.kindOf n == some .cell)then(n,NameKind.cell)else(n,k)).lookup x):=λq=>by rw[Wn,hx]
    have e2:((n,k) :: r).lookup x=r.lookup x:=by rw[Wn,hx]
    rw[e2];by_cases hc:(k == NameKind.free && env.scope.kind == .function && env.kindOf n == some .cell)=true;simp only[if_pos hc];rw[e1];exact ih;simp only[if_neg hc];rw[e1];exact ih
 exact key scope.names
abbrev gZ(n:Nat)(js:List Nat)(σ:St):St:=List.replicate n none ++ js.map λj=>σ.getD j none
def Inv.zS{X:Cx}{pins:List (Addr×Obj)}{σ:St}{H:Hp}{s:Shared}{a:Addr}{o:HO}(I:Inv X pins σ H s)(f:jD X pins H a)(new:bq X.prog X.w (upd H a o) s.heap a o):Inv X pins σ (upd H a o) s:=by
 obtain⟨f0,f1,f2,f3,f4,f5⟩:=f;have ne:∀b u,H b=some u->b≠a:=λb u e z=>by rw[z,f0]at e;cases e
 refine I.step (h':=s.heap) (H':=upd H a o) (g':=s.gens) (d':=s.drawn) (t':=s.toks) (ch:=[a]) (λb hb=>?_) (λb u _ _ _ e _=>e) (λb u _ _ _ e _=>⟨u.slots,e⟩) (λb u hb e n=>?_) (λb u _ e=>⟨u,e⟩)
  (λb xs e=>by rw[cL (ne b _ e)];exact e) (λb u xs e=>by rw[cL (ne b _ e)];exact e) (λb ps e=>⟨#[],by rw[cL (ne b _ e),e];simp⟩) (λm hm=>hm) (λb u e=>?_) I.bare
 have e:b=a:=by simpa using hb
 subst e;exact⟨f3,f1,f4,f5⟩;rw[cL (λz=>hb (by simp[z]))];exact n;by_cases hb:b=a;subst hb;rw[kM]at e;cases e;exact new;rw[cL hb]at e;exact(I.hok b u e).stay (λc v _ q=>q) (λc q=>by rw[cL (ne c _ q)];exact q) λc xs q=>by rw[cL (ne c _ q)];exact q
abbrev PF(X:Cx)(ifs:List Expr)(t:TT):Prop :=
 ∀(pins:List (Addr×Obj)) (s:Shared) (σ:St) (H:Hp) (Q:Bool->Hp->Prop),Inv X pins σ H s->t σ H Q ->
  wpAny (model X.prog X.w) X.A (forIn ifs true λc r=>if r=true then do let ok <- isTrue c X.env (eval c X.env);pure (ForInStep.yield ok)else pure (ForInStep.yield r)) (TP X pins σ Q) X.xe s
def tJ{X:Cx}:PF X [] (λ_ H Q=>Q true H):=λ_ _ _ H _ I h=>wpAny_tests_nil ⟨H,I,h⟩
def Dn{X:Cx}{c:Expr}{t:TT}(h:PT X c t):PF X [c] t:=λpins s σ H Q I hw=>wpAny_tests_one (h pins s σ H Q I hw)
def NJ{prog:Program}{w:World}{A:Around}{R:Result->Shared->Prop}{s:Shared}{elt target iter:Expr}{ifs:List Expr}{scope:Scope}{pos:Pos}{it acc:Value}{env:Env}(I:Nat->Shared->Prop)
  (turn:∀n s,I n s->wpAny (model prog w) A (pyNext it) (λr s₁=>match r with
   |none=>R (.ok .next) s₁
   | some v=>wpAny (model prog w) A (letOwnedTupleGo target it v) (λ_ s₁'=>wpAny (model prog w) A (assign target env v) (λ_ s₂ =>
     wpAny (model prog w) A (forIn ifs true λc r=>if r=true then do let ok <- isTrue c env (eval c env);pure (ForInStep.yield ok)else pure (ForInStep.yield r)) (λok s₃ =>
      if ok=true then wpAny (model prog w) A (eval elt env) (λx s₄ =>
       wpAny (model prog w) A (call (.builtin "list.append") [acc,x]) (λ_ s₅=>∃m,m<n/\I m s₅) (λ_ _=>False) s₄) (λ_ _=>False) s₃
      else∃m,m<n/\I m s₃) (λ_ _=>False) s₂) (λ_ _=>False) s₁') (λ_ _=>False) s₁) (λ_ _=>False) s)
  (n:Nat) (h:I n s) :
  codeAny (model prog w) A (.compLoop (.ListComp elt [⟨target,iter,ifs,0⟩] scope pos) 0 it acc env) R s:=by
 refine codeAny_loop rfl I (λn s hI=>?_) n h;show wpAny _ A ((compTurn (.ListComp elt [⟨target,iter,ifs,0⟩] scope pos) 0 it acc env).onRaise (λx=>do noteFrame x env;theTreesLotGoes x)) _ _ s;refine wpAny_noted ?_;rw[compTurn_list];refine wpAny_bind (wpAny_standAt (wpAny_bind (wpAny_mono (turn n s hI) (λr s₁ h₁=>?_) λ_ _ h'=>h'.elim)));cases r with
 |none=>exact wpAny_pure h₁
 |some v =>
  refine wpAny_bind (wpAny_mono h₁ (λ_ s₁' h₁'=>?_) λ_ _ h'=>h'.elim);refine wpAny_bind (wpAny_mono h₁' (λ_ s₂ h₂=>wpAny_bind (wpAny_mono h₂ (λok s₃ h₃=>?_) λ_ _ h'=>h'.elim)) λ_ _ h'=>h'.elim);cases ok with
  |false=>exact wpAny_pure ⟨rfl,h₃⟩
  |true =>
   exact wpAny_bind (wpAny_bind (wpAny_mono h₃ (λx s₄ h₄=>wpAny_bind (wpAny_mono h₄ (λ_ s₅ h₅=>wpAny_pure (wpAny_pure ⟨rfl,h₅⟩)) λ_ _ h'=>h'.elim)) λ_ _ h'=>h'.elim))
abbrev vC(J:It)(n:Nat)(js:List Nat)(g:TG)(tc:TT)(te:TE)(σ:St)(H1:Hp)(Q:VK):Prop :=
 ∃W:Nat->Nat->List V->St->Hp->Prop,(∃m,W 0 m [] (gZ n js σ) H1)/\∀i m ys σ' H',W i m ys σ' H' ->
  ys.length<sizeLine/\((J.stop i H'/\∀p,H' p=none->Q (.ref p) (upd H' p (.lst ys))) \/
   (J.go i H'/\∀x H2,J.rF i H' x H2->g x σ' H2 λσ2 H3=>tc σ2 H3 λb H4=>if b=true then te σ2 H4 λy H5=>∃m',m' < m/\W (i+1) m' (ys ++ [y]) σ2 H5 else∃m',m' < m/\W (i+1) m' ys σ2 H4))
abbrev qa(wi:TI)(n:Nat)(js:List Nat)(g:TG)(tc:TT)(te:TE):TE:=λσ H Q=>wi σ H λJ H1=>vC J n js g tc te σ H1 Q
section
variable {X:Cx}{pins:List (Addr×Obj)}{σ:St}{tg iter elt:Expr}{ifs:List Expr}{scope:Scope}{pos:Pos}{own fr:List Str}{js:List Nat}{g:TG}{tc:TT}{te:TE}{wi:TI}
def Jx{H2:Hp}{s2:Shared}{it:Addr}{fp:List Addr}{tn:Nat->Heap->Prop}{J:It}{Q:VK}{E:Value->Shared->Prop}{cl:List (Str×Addr)}{RR:Value->Addr->Result->Shared->Prop}
  (hc:X.calm=true) (S:dS X scope own fr js) (hg:∀cells C fp s H,PG (aI X (own ++ fr) scope cells C fp s H) tg g) (hf:∀cells C fp s H,PF (aI X (own ++ fr) scope cells C fp s H) ifs tc) (he:∀cells C fp s H,PE (aI X (own ++ fr) scope cells C fp s H) elt te)
  (I2:Inv X pins σ H2 s2) (T:Turn X.prog X.w X.K tg J fp it tn) (st2:tn 0 s2.heap) (f2:∀b∈fp,jD X pins H2 b)
  (nP:∀n c,(n,c)∈cl->X.env.cells.lookup n=some c/\(n,NameKind.free)∈scope.names) (qc:∀n,(n,NameKind.free)∈scope.names->∃c,(n,c)∈cl)
  (W:Nat->Nat->List V->St->Hp->Prop) (m0:Nat) (w0:W 0 m0 [] (gZ own.length js σ) H2)
  (turn:∀i m ys σ' H',W i m ys σ' H'->ys.length<sizeLine/\((J.stop i H'/\∀p,H' p=none->Q (.ref p) (upd H' p (.lst ys))) \/
   (J.go i H'/\∀x H2,J.rF i H' x H2->g x σ' H2 λσ2 H3=>tc σ2 H3 λb H4=>if b=true then te σ2 H4 λy H5=>∃m',m' < m/\W (i+1) m' (ys ++ [y]) σ2 H5 else∃m',m' < m/\W (i+1) m' ys σ2 H4)))
  (fin:∀(acc C:Addr) (H':Hp) (s':Shared) (v:V),v=.ref acc->Inv X pins σ H' s'->jD X pins H' C->(∃m,s'.heap.Ns C m)->Q v H'->RR (.ref acc) C (.ok .next) s') :
  wpAny (model X.prog X.w) X.A (newList []) (λacc s3=>wpAny (model X.prog X.w) X.A (newFunctionEnv scope X.env.globals cl [] X.env.qual none .none (some X.env)) (λcenv s4 =>
   codeAny (model X.prog X.w) X.A (.compStart (.ListComp elt [⟨tg,iter,ifs,0⟩] scope pos) 0 (.ref it) acc { cenv with scope:=relabel scope X.env }) (RR acc cenv.locals) s4) E s3) E s2:=by
 refine wpAny_newObj_type ?_;refine NI λh4 hns Jy lQ=>?_;have hA:s2.heap.objs.size<(s2.heap.push { cls:=.type "list",data:=.seq ([]:List Value).toArray }).objs.size:=by rw[WI];exact Wf _
 generalize hC:(s2.heap.push { cls:=.type "list",data:=.seq ([]:List Value).toArray }).objs.size=C at hns lQ hA ⊢;generalize hac:s2.heap.objs.size=acc at hA ⊢;have F5:acc≠C:=VS hA;have old:∀b o,s2.heap.get? b=some o->h4.get? b=some o:=λb o e=>Jy b o (Vo _ e);have hacc:h4.get? acc=some { cls:=.type "list",data:=.seq ([]:List Value).toArray }:=Jy _ _ (by rw[<- hac];exact VF _ rfl);have F6:∀x c,(x,c)∈cellsFrom (C+1) scope.names []->h4.IsCell c none/\C+1<=c/\scope.names.lookup x=some .cell:=λx c h=>⟨(lQ.empty x c h).1,(lQ.empty x c h).2,zR S.yq (F0 _ _ h).1⟩;have lk:∀x c,(cellsFrom (C+1) scope.names cl).lookup x=some c->(h4.IsCell c none/\C+1<=c/\(x,c)∈cellsFrom (C+1) scope.names [])\/(X.env.cells.lookup x=some c/\scope.names.lookup x=some .free):=λx c h=>by
  rw[zQ]at h;rcases VQ.mp (PySem.mem_of_lookup h)with q|q
  exact .inl ⟨(F6 x c q).1,(F6 x c q).2.1,q⟩;exact .inr ⟨(nP x c q).1,zR S.yq (nP x c q).2⟩
 have F7:∀x c,X.env.cells.lookup x=some c->c<s2.heap.objs.size:=λx c h=>by
  obtain⟨v,z⟩:=I2.cell x c h;exact z.lt
 have oy:∀x c,(cellsFrom (C+1) scope.names cl).lookup x=some c->c≠C/\c≠acc/\H2 c=none/\∀b∈fp,c≠b:=λx c h=>by
  rcases lk x c h with⟨_,h1,_⟩|⟨h1,_⟩
  refine⟨Jv ⋯,Jv ⋯,I2.hok.fresh ⋯,λb hb z=>?_⟩;obtain⟨o,e,_⟩:=T.obj 0 _ st2 b hb;have:=ltN (Vx e);rw[<- z]at this;lk
  have:=ltN (F7 x c h1)
  exact⟨uX ⋯,uX ⋯,I2.eM x c h1,λb hb=>(f2 b hb).2.2.2.2.1 x c h1⟩
 have zT:∀x,scope.names.lookup x=some .free->∃c,X.env.cells.lookup x=some c/\(cellsFrom (C+1) scope.names cl).lookup x=some c:=λx h=>by
  obtain⟨c,Jz⟩:=qc x (PySem.mem_of_lookup h);have hc1:=(nP x c Jz).1;have hs:((cellsFrom (C+1) scope.names cl).lookup x).isSome=true:=by
   refine PySem.W.cellsFrom_some scope.names (C+1) cl (.inr ?_);cases q:cl.lookup x with
   |some d=>rfl
   |none =>
    exfalso;have:∀{l:List (Str×Addr)},(x,c)∈l->l.lookup x≠none:=by
     intro l
     induction l with
     |nil=>intro h;exact nomatch h
     |cons p r ih =>
      intro h z;obtain⟨k,v⟩:=p;rw[Wn]at z;cases hb:x == k with
      |true=>rw[hb]at z;cases z
      |false =>
       rw[hb]at z;rcases VJ.mp h with e|h
       cases e;simp at hb;exact ih h z
    exact this Jz q
  obtain⟨d,hd⟩:=WS.mp hs;rcases lk x d hd with⟨_,_,h2⟩|⟨h1,_⟩
  have:=(F6 x d h2).2.2
  rw[h]at this;cases this;rw[hc1]at h1;cases h1;exact⟨c,hc1,hd⟩
 have Dp:∀b∈fp,b≠C/\b≠acc:=λb hb=>by
  obtain⟨o,e,_⟩:=T.obj 0 _ st2 b hb;have:=ltN (Vx e);exact⟨uX ⋯,uX ⋯⟩
 have NK:(relabel scope X.env).kind=.function:=S.kind;have ok:(aI X (own ++ fr) scope (cellsFrom (C+1) scope.names cl) C fp s2 H2).Ok:=by
  refine⟨I2.ok.mod,NK,I2.ok.glob,I2.ok.blt,?_,λx y c h1 h2=>?_,λx hx=>?_,λx c hx h=>?_,I2.ok.hd,I2.ok.frames,.inl rfl,λb hb=>⟨(Dp b hb).1,λx c h=>(oy x c h).2.2.2 b hb⟩,I2.bs,VH I2.ok.pz I2.sz,λb o e hb=>?_,λb hb z=>?_,I2.stack,I2.lL⟩;show s2.heap.objs.size<=C;lk;rcases lk x c h1 with⟨_,q1,q2⟩|⟨q1,_⟩
  rcases lk y c h2 with⟨_,r1,r2⟩|⟨r1,_⟩
  exact name_of_addr lQ.apart q2 r2
  have:=ltN (F7 y c r1);lk
  rcases lk y c h2 with⟨_,r1,r2⟩|⟨r1,_⟩
  have:=ltN (F7 x c q1);lk
  exact I2.ok.inj x y c q1 r1;have hx':(relabel scope X.env).names.lookup x=some .cell\/(relabel scope X.env).names.lookup x=some .free:=hx;rcases Jw scope X.env x with⟨e,_⟩|⟨k,e1,e2⟩
  rcases hx' with z|z<;>(rw[e]at z;cases z)
  by_cases hk:k=.free;subst hk;obtain⟨c,_,h⟩:=zT x e1;exact⟨c,h⟩;have hk':k=.cell:=by
   have hb:(k == NameKind.free)=false:=beq_eq_false_iff_ne.mpr hk;rw[hb]at e2;simp only[Bool.false_and,V5,if_false]at e2;rcases hx' with z|z
   rw[e2]at z;exact Vu z;rw[e2]at z;exact absurd (Vu z) hk
  subst hk';exact WS.mp (PySem.W.cellsFrom_some scope.names (C+1) cl (.inl e1));have hx':scope.names.lookup x=some .cell:=of_decide_eq_true hx;show s2.heap.objs.size<=c;rcases lk x c h with⟨_,q,_⟩|⟨_,q⟩
  lk;rw[hx']at q;cases q;rcases(f2 b hb).2.2.2.1 with z|z
  exact I2.ok.mK b o e z;have h1:@LT.lt Nat _ b X.base.objs.size:=Vx e;have h2:=I2.ok.pz;lk;rcases VJ.mp (I2.kg b z)with e|e
  exact(f2 b hb).2.1 e;exact(f2 b hb).2.2.1 e
 have I4:Inv (aI X (own ++ fr) scope (cellsFrom (C+1) scope.names cl) C fp s2 H2) [(acc,{ cls:=.type "list",data:=.seq ([]:List Value).toArray })] (gZ own.length js σ) H2 { s2 with heap:=h4 }:=by
  refine⟨ok,rfl,I2.bare,Un.kept old,⟨_,hns,λi x v e1 e2 e3=>?_⟩,λx c h=>?_,I2.hok.fresh (by show s2.heap.objs.size<=C;lk),λx c h=>(oy x c h).2.2.1,λp hp=>?_,I2.hok.kept old,?_⟩;have F8:(own ++ fr)[i]?=some x:=e1;unfold gZ at e2;by_cases hi:i<own.length;rw[VC (by simpa using hi),WW]at e2;split at e2<;>cases e2;rw[VM (by simpa using hi),W4,Vr]at e2;rw[VM ⋯]at F8;cases hj:js[i-own.length]? with
  |none=>rw[hj]at e2;cases e2
  |some j =>
   rw[hj]at e2;have zU:σ.getD j none=some v:=Vu e2;have hN:X.N[j]?=some x:=by
    have q:=congrArg (λl=>l[i-own.length]?) S.ix;simp only[Vr,hj,F8,Option.map_some]at q;exact Vu q
   have hσ:σ[j]?=some (some v):=by
    rw[Vz]at zU;cases q:σ[j]? with
    |none=>rw[q]at zU;cases zU
    |some o=>rw[q]at zU;exact congrArg some zU
   have hfr:scope.names.lookup x=some .free:=S.F4 x (Vv F8);have hk:=S.free _ (PySem.mem_of_lookup hfr) rfl;obtain⟨m,_,hl⟩:=I2.loc;obtain⟨u,ru,lo⟩:=hl j x v hN hσ (by rcases hk with k|k;exact .inr (.inl k);exact .inr (.inr k));refine⟨u,ru,.inr ⟨?_,?_⟩⟩;rcases Jw scope X.env x with⟨_,e⟩|⟨k,q1,q2⟩
   rw[hfr]at e;cases e;rw[hfr]at q1;cases q1;have NL:(compEnvC scope (cellsFrom (C+1) scope.names cl) C X.env).kindOf x=some (if(NameKind.free == .free && X.env.scope.kind == .function && X.env.kindOf x == some .cell)=true then .cell else .free):=q2;rw[show(aI X (own ++ fr) scope (cellsFrom (C+1) scope.names cl) C fp s2 H2).env.kindOf x=_ from NL];split;exact .inl rfl;exact .inr rfl;rcases lo with⟨k,_⟩|⟨_,c,hc1,hc2⟩
   rcases hk with k'|k'<;>(rw[k]at k';cases k')
   obtain⟨d,hd1,hd2⟩:=zT x hfr;rw[hc1]at hd1;cases hd1;exact⟨c,hd2,hc2.keeps old⟩
  rcases lk x c h with⟨q,_,_⟩|⟨q,_⟩
  exact⟨_,q⟩;obtain⟨v,z⟩:=I2.cell x c q;exact⟨v,z.keeps old⟩;have e:p=(acc,{ cls:=.type "list",data:=.seq ([]:List Value).toArray }):=by simpa[aI]using hp
  subst e;refine⟨hacc,I2.hok.fresh ⋯,F5,λz=>?_,λv z=>nomatch z⟩;rcases VJ.mp (I2.kg acc z)with e|e
  have:=ltN I2.lt
  rw[<- e]at this;lk;exact I2.za ⋯ e;show(gZ own.length js σ).length=(own ++ fr).length;have q:=congrArg List.length S.ix;simp only[Vl]at q;unfold gZ;rw[Vq,W4,Vl,Vq,q]
 have F9:∀{H':Hp} {ob:Obj},(∀b∈fp,H' b=none)->∀b∈fp,jD (aI X (own ++ fr) scope (cellsFrom (C+1) scope.names cl) C fp s2 H2) [(acc,ob)] H' b:=λ{H' ob} hn b hb =>
  ⟨hn b hb,(Dp b hb).1,λz=>by
   rcases VJ.mp (I2.kg b z)with e|e
   exact(f2 b hb).2.1 e;exact(f2 b hb).2.2.1 e,.inl hb,λx c h=>(oy x c h).2.2.2 b hb,λp hp=>by
   have e:p=(acc,ob):=by simpa[aI]using hp
   subst e
   exactλz=>(Dp b hb).2 z.symm⟩
 have loop:codeAny (model X.prog X.w) X.A (.compLoop (.ListComp elt [⟨tg,iter,ifs,0⟩] scope pos) 0 (.ref it) (.ref acc) (compEnvC scope (cellsFrom (C+1) scope.names cl) C X.env)) (RR (.ref acc) C) { s2 with heap:=h4 }:=by
  refine NJ (λm s'=>∃(i:Nat) (ys:List V) (its:List Value) (n:Nat) (σ':St) (H':Hp),Inv (aI X (own ++ fr) scope (cellsFrom (C+1) scope.names cl) C fp s2 H2) [(acc,{ cls:=.type "list",data:=.seq its.toArray n })] σ' H' s'/\Vals ys its/\tn i s'.heap/\(∀b∈fp,H' b=none)/\W i m ys σ' H') ?_ m0
   ⟨0,[],[],0,_,H2,I4,.nil,T.keep _ _ _ st2 λb _ o e=>old b o e,λb hb=>(f2 b hb).1,w0⟩
  rintro n s5 ⟨i,ys,its,en,σ5,H5,I5,rv,lh,C3,w5⟩;obtain⟨hz,alt⟩:=turn i n ys σ5 H5 w5;rcases alt with⟨stop,qn⟩|⟨go,step⟩
  refine bM (T.done (aI X (own ++ fr) scope (cellsFrom (C+1) scope.names cl) C fp s2 H2) rfl rfl rfl hc i _ s5 σ5 H5 _ I5 (F9 C3) lh stop) λr s6 ⟨hr,I6⟩=>?_;subst hr;show RR (.ref acc) C (.ok .next) s6;have u:Un (frs X.stack) fp H2 H5 s2.heap s6.heap:=I6.base;have J6:Inv X pins σ H5 s6:=I2.sL I6.os u I6.hok I6.bare λb hb=>⟨(f2 b hb).2.2.2.1,(f2 b hb).2.1,(f2 b hb).2.2.2.2.1,(f2 b hb).2.2.2.2.2⟩;have pacc:=I6.pin (acc,_) (VP _ Vw);have Ga:jD X pins H5 acc:=I2.oZ ⋯ pacc.2.1;have fC:jD X pins H5 C:=I2.oZ ⋯ I6.free;have K6:Inv X pins σ (upd H5 acc (.lst ys)) s6:=J6.zS Ga ⟨Wg hz,its,en,rv,pacc.1⟩;obtain⟨m,hm,_⟩:=I6.loc;exact fin acc C _ s6 (.ref acc) rfl K6 ⟨by rw[cL F5.symm];exact fC.1,fC.2⟩ ⟨m,hm⟩ (qn acc pacc.2.1);refine bM (T.item (aI X (own ++ fr) scope (cellsFrom (C+1) scope.names cl) C fp s2 H2) rfl rfl rfl hc i _ s5 σ5 H5 _ I5 (F9 C3) lh go) λr s6 ⟨u,hr,h6⟩=>?_;subst hr;refine bM h6 λ_ s7 ⟨x,H7,I7,r7,y7,vD,NM⟩=>?_;have NP:=I7.pinned (F9 NM) (T.obj _ _ vD);refine bM (hg _ _ _ _ _ _ s7 σ5 H7 x u _ NP r7 (step x H7 y7)) λ_ s8 ⟨σ8,H8,I8,q8⟩=>?_;refine bM (hf _ _ _ _ _ _ s8 σ8 H8 _ I8 q8) λb s9 ⟨H9,I9,q9⟩=>?_;have Dq:∀{s':Shared} {σ':St} {H':Hp},Inv (aI X (own ++ fr) scope (cellsFrom (C+1) scope.names cl) C fp s2 H2) ([(acc,{ cls:=.type "list",data:=.seq its.toArray en })] ++ kh fp s7.heap) σ' H' s'->tn (i+1) s'.heap/\∀b∈fp,H' b=none:=λ{s' σ' H'} I' =>
   ⟨T.keep _ _ _ vD λb hb o e=>(I'.pin (b,o) (VP _ (VP _ (C2 hb e)))).1,λb hb=>by
    obtain⟨o,e,d⟩:=T.obj _ _ vD b hb
    exact(I'.pin (b,o) (VP _ (VP _ (C2 hb e)))).2.1⟩
  cases b with
  |false =>
   obtain⟨m',hm,w9⟩:=q9;exact⟨m',hm,i+1,ys,its,en,σ8,H9,I9.jh,rv,(Dq I9).1,(Dq I9).2,w9⟩
  |true =>
   refine bM (he _ _ _ _ _ _ s9 σ8 H9 _ I9 q9) λy Gb ⟨yv,Gd,Dr,NQ,m',hm,NR⟩=>?_;have pacc:=Dr.pin (acc,_) (VP _ (V1 _ Vw));have hlen:=rv.length;refine wpAny_list_append_plain (items:=its.toArray) ⟨en,pacc.1⟩ (λh11 ⟨JA,Ge⟩ zV=>?_) (by simp only[Vt];lk);have cA:∀x c,(cellsFrom (C+1) scope.names cl).lookup x=some c->c≠acc:=λx c h=>(oy x c h).2.1;have Ia:Inv (aI X (own ++ fr) scope (cellsFrom (C+1) scope.names cl) C fp s2 H2) [] σ8 Gd Gb:=Dr.j3 λp hp=>nomatch hp;have Ib:Inv (aI X (own ++ fr) scope (cellsFrom (C+1) scope.names cl) C fp s2 H2) [] σ8 Gd { Gb with heap:=h11 }:=Ia.turned (it:=acc) (t':=Gb.toks) (λb o hb e=>(zV.2 b hb).trans e) pacc.2.1 F5 (.inr (by show s2.heap.objs.size<=acc;lk)) cA λp hp=>nomatch (show p∈([]:List (Addr×Obj))from by simpa[aI]using hp);refine⟨m',hm,i+1,ys ++ [yv],its ++ [y],JA,σ8,Gd,Ib.j3 λp hp=>?_,rv.append (.cons NQ .nil),T.keep _ _ _ (Dq Dr).1 λb hb o e=>(zV.2 b (Dp b hb).2).trans e,(Dq Dr).2,NR⟩;have e:p=(acc,{ cls:=.type "list",data:=.seq (its ++ [y]).toArray JA }):=by simpa using hp
   subst e;exact⟨by simpa using Ge,pacc.2.1,pacc.2.2.1,pacc.2.2.2.1,λv z=>nomatch z⟩
 exact codeAny_compStart_list loop (T.self X.A 0 _ _ _ (T.keep _ _ _ st2 λb _ o e=>old b o e) loop)
def tL(hc:X.calm=true)(S:dS X scope own fr js)(hi:PI X tg iter wi)(hg:∀cells C fp s H,PG (aI X (own ++ fr) scope cells C fp s H) tg g)(hf:∀cells C fp s H,PF (aI X (own ++ fr) scope cells C fp s H) ifs tc)(he:∀cells C fp s H,PE (aI X (own ++ fr) scope cells C fp s H) elt te)
  (hs:∀x,foldedSetIterable iter X.env x=pure x:=by intro _;rfl):PE X (.ListComp elt [⟨tg,iter,ifs,0⟩] scope pos) (qa wi own.length js g tc te):=by
 intro pins s σ H Q I h;obtain⟨cl,hcl,nP,qc⟩:=Ju (scope:=scope) (env:=X.env) λy hy hk=>I.ok.has y.1 (S.free y hy hk);rw[eval_ListComp];refine wpAny_comprehension_free (use:=none) rfl hs hcl S.kind (λy hy hk=>by rw[<- hk];exact zR S.yq hy) (bM (hi pins s σ H _ I h) λv s1 h1=>bM h1 λitv s2 h2=>?_);obtain⟨it,fp,tn,J,H2,e,I2,T,st2,f2,W,⟨m0,w0⟩,turn⟩:=h2;subst e;refine Jx (RR:=λacc C=>compPost (model X.prog X.w) X.A X.xe none (EP X pins σ Q) acc C) hc S hg hf he I2 T st2 f2 nP qc W m0 w0 turn ?_;intro acc C H' s' v hv I' fC ⟨m,hm⟩ q;subst hv;obtain⟨f0,f1,NS,f3,f4,f5⟩:=fC;exact⟨m,hm,λh'' vE=>⟨.ref acc,H',I'.turned (it:=C) (t':=s'.toks) (λb o hb e=>(vE.2 b hb).trans e) f0 f1 f3 f4 f5,rfl,q⟩⟩
def Ds{i:Nat}{x:Str}{pos' spos:Pos}(hc:X.calm=true)(hN:X.N.Nodup)(hx:X.N[i]?=some x)(hl:X.env.scope.names.lookup x=some .local)(S:dS X scope own fr js)(hi:PI X tg iter wi)(hg:∀cells C fp s H,PG (aI X (own ++ fr) scope cells C fp s H) tg g)(hf:∀cells C fp s H,PF (aI X (own ++ fr) scope cells C fp s H) ifs tc)(he:∀cells C fp s H,PE (aI X (own ++ fr) scope cells C fp s H) elt te)
  (hsw:swapsWith (.ListComp elt [⟨tg,iter,ifs,0⟩] scope pos) (some (.Name x pos')) spos.line X.env=pure true:=by rfl)
  (hs:∀x,foldedSetIterable iter X.env x=pure x:=by intro _;rfl):PS X (.Assign [.Name x pos'] (.ListComp elt [⟨tg,iter,ifs,0⟩] scope pos) spos) (pQ (qa wi own.length js g tc te) (lg i)):=by
 intro pins s σ H D I h;obtain⟨cl,hcl,nP,qc⟩:=Ju (scope:=scope) (env:=X.env) λy hy hk=>I.ok.has y.1 (S.free y hy hk);rw[exec_Assign_Name_used _ _ _ _ hsw];refine wpAny_bind (wpAny_standAt (wpAny_bind ?_));show wpAny _ X.A (do let _ <- comprehension (.ListComp elt [⟨tg,iter,ifs,0⟩] scope pos) scope X.env _ (newList []) false (eval iter X.env) (some (assign (.Name x pos') X.env))) _ _ s
 refine wpAny_bind (wpAny_mono (wpAny_comprehension_free (use:=some (assign (.Name x pos') X.env)) (Q:=λ_ s'=>SP X pins D .next s') rfl hs hcl S.kind (λy hy hk=>by rw[<- hk];exact zR S.yq hy)
  (bM (hi pins s σ H _ I h) λv s1 h1=>bM h1 λitv s2 h2=>?_)) (λ_ s' hq=>wpAny_pure (wpAny_pure hq)) λ_ _ e=>e)
 obtain⟨it,fp,tn,J,H2,e,I2,T,st2,f2,W,⟨m0,w0⟩,turn⟩:=h2;subst e;refine Jx (Q:=λv H'=>lg i v σ H' D.nx) (RR:=λacc C=>compPost (model X.prog X.w) X.A X.xe (some (assign (.Name x pos') X.env)) (λ_ s'=>SP X pins D .next s') acc C) hc S hg hf he I2 T st2 f2 nP qc W m0 w0 turn ?_;intro acc C H' s' v hv I' fC ⟨m,hm⟩ q;subst hv;obtain⟨f0,f1,NS,f3,f4,f5⟩:=fC;show wpAny _ X.A (assign (.Name x pos') X.env (.ref acc)) _ _ _;refine wpAny_assign_Name (Ip I' hN hx (.inl hl) (show RelV (.ref acc) (.ref acc)from rfl) (λs'' NT ⟨a,hs1,ha⟩=>?_) (.inr hl));have haC:a≠C:=by
  rcases ha with e|e
  rw[e];exact f1.symm;exact f4 _ _ e
 exact⟨m,hm.sameBut hs1 haC.symm,λh'' vE=>⟨_,H',NT.turned (it:=C) (t':=s''.toks) (λb o hb e=>(vE.2 b hb).trans e) f0 f1 f3 f4 f5,q⟩⟩
end
section
variable {X:Cx}
def Dt{k:Nat}(hr:cM k X.A):eN X (.builtin "repr") (λxs H Q=>∃(x:V) (d:PyData),xs=[x]/\Rep X.K H x d/\d.showable=true/\d.canLay0=true/\d.shown.length<=sizeLine/\d.depth<=60/\Q (.str d.shown) H):=by
 intro pins s σ H xs us Q I r h;obtain⟨x,d,rfl,rp,sh,cl,sz,dp,q⟩:=h;obtain⟨u,rfl,ru⟩:=vals1 r;obtain⟨as,rd⟩:=rp.reads I ru;have hu:=hr.units;have big:∀a,u=.ref a->wpAny (model X.prog X.w) X.A (call (.builtin "repr") [u]) (EP X pins σ Q) X.xe s:=λa e=>by
  subst e;exact repr_of_reads' rd sh (PyData.noDict_hsm (PyData.hasDict_of_canLay _ cl)) hr.gd ⋯ (λ_ _ e=>e) (λh' u tk kp=>⟨.str _,H,I.kept kp,⟨_,rfl⟩,q⟩) sz
 cases rp with
 |non =>
  cases ru;have e:PyData.shown .none="None" := by simp only[PyData.shown]
  rw[e]at q;exact P.repr_of_none ⟨.str _,H,I.tok _,⟨_,rfl⟩,q⟩
 |bl b =>
  cases ru;have e:PyData.shown (.bool b)=(if b=true then Str.ofString "True" else Str.ofString "False"):=by simp only[PyData.shown]
  rw[e]at q;exact P.repr_of_bool ⟨.str _,H,I.tok _,⟨_,rfl⟩,q⟩
 |int i =>
  obtain⟨t,rfl⟩:=ru;have e:PyData.shown (.int i)=toString i:=by simp only[PyData.shown]
  rw[e]at q;have NU:i.natAbs.log2<1920:=by simpa only[PyData.showable,decide_eq_true_eq]using sh
  exact P.repr_of_int NU ⟨.str _,H,I.tok _,⟨_,rfl⟩,q⟩
 |str x =>
  obtain⟨t,rfl⟩:=ru;have e:PyData.shown (.str x)=reprText x:=by simp only[PyData.shown]
  rw[e]at q sz;exact P.repr_of_str ⟨.str _,H,I.tok _,⟨_,rfl⟩,q⟩ sz
 |tup _ _=>cases ru;exact big _ rfl
 |lst _ _=>cases ru;exact big _ rfl
end
mutual
abbrev wD:PyData->Nat
 |.none=>4
 |.bool _=>5
 |.int _=>1921
 |.str x=>(reprText x).length
 |.list _=>0
 |.tuple xs=>mO xs+3
 |.dict _=>0
abbrev mO:List PyData->Nat
 |[]=>0
 |x :: xs=>wD x+2+mO xs
end
mutual
abbrev o3:PyData->Bool
 |.none=>true
 |.bool _=>true
 |.int _=>true
 |.str _=>true
 |.list _=>false
 |.tuple xs=>o4 xs
 |.dict _=>false
abbrev o4:List PyData->Bool
 |[]=>true
 |x :: xs=>o3 x && o4 xs
end
def NV(ts:List Str):(tupleText ts).length<=piled ts+3:=by
 unfold tupleText;rw[strLen_append,strLen_append];have e1:((("(" : String):Str)).length=1:=rfl;have e3:(((if ts.length == 1 then ",)" else ")" : String):Str)).length<=2:=by split<;>decide
 rw[e1];by_cases h:ts=[];subst h;have e4:(Str.join ", " []).length=0:=rfl;rw[e4];lk
 have:=join_length_add ts h
 lk
mutual
def JB:∀(d:PyData),d.showable=true->o3 d=true->d.shown.length<=wD d
 |.none,_,_=>by simp only[PyData.shown,wD];decide
 |.bool b,_,_=>by simp only[PyData.shown,wD];cases b<;>decide
 |.int i,h,_=>by
  simp only[PyData.shown,wD];exact int_text_len_1921 (by simpa only[PyData.showable,decide_eq_true_eq]using h)
 |.str x,_,_=>by simp only[PyData.shown,wD];exact Vp _
 |.list _,_,h=>by simp only[o3]at h;cases h
 |.dict _,_,h=>by simp only[o3]at h;cases h
 |.tuple xs,h,h'=>by
  simp only[PyData.shown,wD];have:=JC xs (by simpa only[PyData.showable]using h) (by simpa only[o3]using h');have:=NV (PyData.shownAll xs);lk
def JC:∀(ds:List PyData),PyData.showableAll ds=true->o4 ds=true->piled (PyData.shownAll ds)<=mO ds
 |[],_,_=>by simp only[PyData.shownAll,mO,piled_nil];exact Vp _
 |d :: ds,h,h'=>by
  simp only[PyData.showableAll,VG]at h;simp only[o4,VG]at h';simp only[PyData.shownAll,mO,piled_cons];have:=JB d h.1 h'.1;have:=JC ds h.2 h'.2;lk
end
section
variable {X:Cx}{K:Zfr}
def Du(hK:X.K=K):zB X (vk K):=by subst hK;exact mL
def vF(hK:X.K=K):zB X (vm K):=by subst hK;exact gR
def Gf(hK:X.K=K):jV X (compareOp .NotIn) (FN K true):=by subst hK;exact Dd
def NW(hK:X.K=K):eN X (.builtin "len") (λxs H Q=>∃p ys,xs=[V.ref p]/\(gP K H p ys\/de K H p ys)/\Q (.int ys.length) H):=by subst hK;exact kQ
def NX(hK:X.K=K):eN X (.type "tuple") (λxs H Q=>∃p ys,xs=[V.ref p]/\((gP K H p ys/\∀l,H l=none->Q (.ref l) (upd H l (.tup ys)))\/(de K H p ys/\Q (.ref p) H))):=by subst hK;exact lO
end
section
variable {prog:Program}{w:World}{A:Around}{E:Value->Shared->Prop}{s:Shared}
def NY{j t:Addr}{i:Nat}{ys:Array Value}{y:Value}{Q:Value->Shared->Prop}(hj:s.heap.IsTupleIter j t i)(ht:s.heap.IsTuple t ys)(hy:ys[i]?=some y)
  (hQ:∀h',h'.IsTupleIter j t (i+1)->Heap.SameBut j s.heap h'->Q y { s with heap:=h' }):wpAny (model prog w) A (Builtin.SmallTypes.nextOf (.ref j)) Q E s:=by
 obtain⟨r,hr,rc,rd⟩:=id hj;obtain⟨q,hq,_,nq,dq⟩:=ht;unfold Builtin.SmallTypes.nextOf;refine wpAny_bind (wpAny_callSpecial?_slot (name:=Str.ofString "__next__") hj.typeIs F.slot_tuple_iterator_next (wpAny_call_entry F.slot_tuple_iterator_next hj.typeIs F.entry_tuple_iterator_next ?_ (F.args_tuple_iterator_next_1 _)));show wpAny _ _ (PySem.field (.ref j) 0 >>= _) _ _ s;refine wpAny_bind (wpAny_field hr rd (x:=.ref t) rfl ?_);show wpAny _ _ (if(Value.ref t == Value.none)=true then _ else _) _ _ s;rw[if_neg (λz:(Value.ref t == Value.none)=true=>Vs z)];show wpAny _ _ (PySem.field (.ref j) 1 >>= _) _ _ s;refine wpAny_bind (wpAny_field hr rd (x:=.int i 0) rfl ?_);show wpAny _ _ (seqItems? (.ref t) >>= _) _ _ s;refine wpAny_bind (wpAny_seqItems hq dq ?_);simp only[VB,hy];refine wpAny_bind (wpAny_setField hr rd (by simp) (wpAny_pure ⟨y,rfl,wpAny_pure (hQ _ ⟨_,VZ _ hr (Obj.isFreed_of_fields (Obj.data_mapFields rd _)),(Obj.cls_mapFields ..).trans rc,by rw[Obj.data_mapFields rd];simp[rawInt]⟩ (Wi ..))⟩))
def NZ{j t:Addr}{i:Nat}{ys:Array Value}{Q:Value->Shared->Prop}(hh:A.handled=none)(hj:s.heap.IsTupleIter j t i)(ht:s.heap.IsTuple t ys)(hy:ys[i]?=none)
  (hE:∀h' e,Heap.ExtBut j s.heap h'->(∃o,h'.get? e=some o/\o.cls=.type "StopIteration")->E (.ref e) { s with heap:=h' }):wpAny (model prog w) A (Builtin.SmallTypes.nextOf (.ref j)) Q E s:=by
 obtain⟨r,hr,rc,rd⟩:=id hj;obtain⟨q,hq,_,nq,dq⟩:=ht;unfold Builtin.SmallTypes.nextOf;refine wpAny_bind (wpAny_callSpecial?_slot (name:=Str.ofString "__next__") hj.typeIs F.slot_tuple_iterator_next (wpAny_call_entry F.slot_tuple_iterator_next hj.typeIs F.entry_tuple_iterator_next ?_ (F.args_tuple_iterator_next_1 _)));show wpAny _ _ (PySem.field (.ref j) 0 >>= _) _ _ s;refine wpAny_bind (wpAny_field hr rd (x:=.ref t) rfl ?_);show wpAny _ _ (if(Value.ref t == Value.none)=true then _ else _) _ _ s;rw[if_neg (λz:(Value.ref t == Value.none)=true=>Vs z)];show wpAny _ _ (PySem.field (.ref j) 1 >>= _) _ _ s;refine wpAny_bind (wpAny_field hr rd (x:=.int i 0) rfl ?_);show wpAny _ _ (seqItems? (.ref t) >>= _) _ _ s;refine wpAny_bind (wpAny_seqItems hq dq ?_);simp only[VB,hy];refine wpAny_bind (wpAny_rule (wpAny_bind (wpAny_setField hr rd (by simp) ?_)));show wpAny _ _ (newExc (.type "StopIteration") [] >>= _) _ _ _;refine wpAny_bind ?_;simp only[newExc,newTuple];refine wpAny_bind (wpAny_newObj_type ?_ (by size_fits));refine wpAny_bind (m:=firstArgMember _ _) (wpAny_of_eq (a:=Value.none) (by first|rfl|(simp only[firstArgMember];rfl)) ?_);refine wpAny_newObj_type ?_ (by size_fits);simp only[raiseNew];refine wpAny_bind (wpAny_handled ?_);first|rw[show A.in1.handled=none from hh]|rw[hh]
 exact wpAny_bind (wpAny_pure (wpAny_throw (hE _ _ (((Wi ..).extBut.push _).push _) ⟨_,VF _ rfl,rfl⟩)))
end
def qd{prog:Program}{w:World}{A:Around}(hh:A.handled=none)(j t:Addr)(hne:t≠j)(ys:Array Value):
  Draws prog w A j [j,t] ys.size (λi v=>ys[i]?=some v) (λi h=>h.IsTupleIter j t i/\h.IsTuple t ys) where
 live:=λ_ _ st=>let ⟨o,ho,_⟩:=st.1;⟨o,ho⟩
 frame:=λ_ _ _ st k=>⟨st.1.at λo e=>k j (by simp) o e,let ⟨o,e,r⟩:=st.2;⟨o,k t (by simp) o e,r⟩⟩
 item:=λi s Q E hi st hQ=>NY st.1 st.2 (y:=ys[i]) (by simp[hi]) λh' a b=>hQ _ h' s.toks (by simp[hi]) ⟨a,st.2.extBut b.extBut hne⟩ b
 done:=λs Q E st hE=>NZ hh st.1 st.2 (by simp) hE
def N0(l:Addr)(items:Array Value)(n:Nat)(dct:Option Addr)(sl:Array (Option Value)):
  Meets (Builtin.«enumerate.__new__» ⟨[.type "enumerate",.ref l],[]⟩) (λ_ R s=>s.heap.get? l=some { cls:=.type "tuple",dict:=dct,data:=.seq items n,slots:=sl } /\
   R (.ok (.ret (.ref (s.heap.push { cls:=.type "tuple_iterator",data:=.fields #[.ref l,.int 0 0] }).objs.size)))
    { s with heap:=(s.heap.push { cls:=.type "tuple_iterator",data:=.fields #[.ref l,.int 0 0] }).push { cls:=.type "enumerate",data:=.fields #[.none,.bool false,.ref s.heap.objs.size,rawInt 0,.none,.none] } }) :=
 .of_wp λprog w A R s h=>by
  obtain⟨hp,g,d,tk,os⟩:=s;obtain⟨hl,h⟩:=h;have hsub:=sub_enumerate;have hL:Heap.IsTuple (Shared.heap ⟨hp,g,d,tk,os⟩) l items:=⟨_,hl,rfl,n,rfl⟩
  wp_walk using AutoSeq1.wpAny_loadPart' hl
  refine wpAny_stack_any λst=>wpAny_pure ?_;split
  ·rename_i c _ _ _ _ _
   cases(c == Value.type "enumerate")<;>(wp_walk using AutoSeq1.wpAny_loadPart' hl,wpAny_pyIter_tuple hL;exact⟨_,rfl,h⟩)
  ·wp_walk using AutoSeq1.wpAny_loadPart' hl,wpAny_pyIter_tuple hL
   exact⟨_,rfl,h⟩
section
variable {prog:Program}{w:World}{A:Around}{E:Value->Shared->Prop}{s:Shared}
def N1{l:Addr}{ys:Array Value}{Q:Value->Shared->Prop}(ht:s.heap.IsTuple l ys)
  (h:∀h',IsEnum h' (s.heap.objs.size+1) s.heap.objs.size 0 .none->h'.IsTupleIter s.heap.objs.size l 0->h'.objs.size=s.heap.objs.size+2 ->
   (∀b o,s.heap.get? b=some o->h'.get? b=some o)->Q (.ref (s.heap.objs.size+1)) { s with heap:=h' }):wpAny (model prog w) A (call (.type "enumerate") [.ref l]) Q E s:=by
 obtain⟨⟨c,dct,dt,sl⟩,hl,hc,n,hd⟩:=ht;cases(show c=.type "tuple" from hc);cases(show dt=.seq ys n from hd);refine callType_new F.called_enumerate ∅ (F.typeCall_enumerate_1 _) (F.newCall_enumerate_1 _) (λobj=>F.args_object_init_2 obj _) F.entry_enumerate_new (N0 l ys n dct sl) ⟨hl,?_⟩;have z:(s.heap.push { cls:=.type "tuple_iterator",data:=.fields #[.ref l,.int 0 0] }).objs.size=s.heap.objs.size+1:=WI ..;show _/\_;rw[z];have en:IsEnum ((s.heap.push { cls:=.type "tuple_iterator",data:=.fields #[.ref l,.int 0 0] }).push { cls:=.type "enumerate",data:=.fields #[.none,.bool false,.ref s.heap.objs.size,rawInt 0,.none,.none] }) (s.heap.objs.size+1) s.heap.objs.size 0 .none:=by
  have g:=VF (s.heap.push { cls:=.type "tuple_iterator",data:=.fields #[.ref l,.int 0 0] }) (o:={ cls:=.type "enumerate",data:=.fields #[.none,.bool false,.ref s.heap.objs.size,rawInt 0,.none,.none] }) rfl;rw[z]at g;exact g
 exact⟨⟨_,en,rfl⟩,h _ en ⟨_,Vo _ (VF _ rfl),rfl,rfl⟩ (by rw[WI,z]) λb o e=>Vo _ (Vo _ e)⟩
end
section
variable {X:Cx}{pins:List (Addr×Obj)}{σ:St}{H:Hp}{s:Shared}{h':Heap}
def Inv.rP{t':Nat}{ch:List Addr}(I:Inv X pins σ H s)(k:∀b o,b ∉ ch->s.heap.get? b=some o->h'.get? b=some o)(f:∀b∈ch,jD X pins H b):Inv X pins σ H { s with heap:=h',toks:=t' }:=by
 have zc:∀b u,H b=some u->b ∉ ch:=λb u e z=>by rw[(f b z).1]at e;cases e
 refine I.step (g':=s.gens) (d':=s.drawn) (ch:=ch) (λb hb=>⟨(f b hb).2.2.2.1,(f b hb).2.1,(f b hb).2.2.2.2.1,(f b hb).2.2.2.2.2⟩) (λb o _ _ hc e _=>k b o hc e) (λb o _ _ hc e _=>⟨o.slots,k b o hc e⟩) (λ_ _ _ _ n=>n)
  (λb o hc e=>⟨o,k b o hc e⟩) (λ_ _ e=>e) (λ_ _ _ e=>e) (λb ps e=>⟨#[],by rw[e];simp⟩) (λm hm=>?_) (λb u e=>?_) I.bare
 obtain⟨o,es,ep,ho,r⟩:=hm;exact⟨o,es,ep,k _ o (λz=>(f _ z).2.1 rfl) ho,r⟩;refine(I.hok b u e).stay (λc v hc q=>k c v ?_ q) (λ_ q=>q) λ_ _ q=>q;rcases hc with z|z
 rw[z];exact zc b u e;exact zc c _ z
end
abbrev JD(K:Zfr)(a:Addr):It :=
 ⟨λi H=>∃xs x,de K H a xs/\xs[i]?=some x,λi H x H'=>∃p y,x=.ref p/\H p=none/\H'=upd H p (.tup [.int i,y])/\∀xs,de K H a xs->xs[i]?=some y,λi H=>∃xs,de K H a xs/\xs.length=i⟩
def N2{P:Program}{w:World}{K:Zfr}{es:List Expr}{x1}{pos:Pos}(a e it:Addr)(hne:e≠it):
  Turn P w K (.Tuple es x1 pos) (JD K a) [e,it] e (λi h=>(∃old,IsEnum h e it i old)/\h.IsTupleIter it a i) where
 mem:=by simp
 obj:=λi h st b hb=>by
  obtain⟨⟨old,he⟩,o,e2,c,d⟩:=st;rcases VJ.mp hb with rfl|hb
  exact⟨_,he,λv z=>by
   have z':Data.fields _=Data.cell v:=z
   cases z'⟩
  have q:b=it:=by simpa using hb
  subst q;exact⟨o,e2,λv z=>by rw[d]at z;cases z⟩
 keep:=λi h h' st k=>⟨let ⟨old,he⟩:=st.1;⟨old,k e (by simp) _ he⟩,st.2.at λo q=>k it (by simp) o q⟩
 item:=by
  intro X hP hw hK hc i pins s σ H E I hf st hg;subst hP hw hK;obtain⟨xs,x,hq,hx⟩:=hg;obtain⟨its,rv,p,hz⟩:=I.tuple hq;obtain⟨u,hu,ru⟩:=rv.get hx;obtain⟨⟨old,he⟩,hit⟩:=st;have ht:s.heap.IsTuple a its.toArray:=p;have Gg:a≠it:=λz=>by
   obtain⟨o,e1,c1,_⟩:=hit;obtain⟨o2,e2,c2,_⟩:=ht;rw[z,e1]at e2;cases e2;exact absurd (c1.symm.trans c2) (by simp)
  have N3:e≠a:=λz=>by
   obtain⟨o2,e2,c2,_⟩:=ht;rw[<- z,he]at e2;cases e2;exact absurd c2 (by simp)
  have hl:=rv.length;have hi:i<its.toArray.size:=by
   have:=Vm.mp hu;obtain⟨q,_⟩:=this
   simpa using q
  refine wpAny_pyNext_enum_itemD (qd (A:=X.A.in1) (I.ok.hd hc) it a Gg its.toArray) he ⟨hit,ht⟩ hi hne (by simp[hne,N3]) λy h1 tk hy ho hst hT hsz kk=>?_;have ey:y=u:=by
   have:its.toArray[i]?=some u:=by simpa using hu
   exact Vu (hy.symm.trans this)
  subst ey;refine⟨_,rfl,wpAny_letOwnedTupleGo_enum ho λh2 N4 sb=>?_⟩;have hel:@LT.lt Nat _ e s.heap.objs.size:=Vx he;have hil:@LT.lt Nat _ it s.heap.objs.size:=by obtain⟨o,e1,_⟩:=hit;exact Vx e1
  have N5:H s.heap.objs.size=none:=I.hok.fresh (Vp _);have sb':Heap.SameBut e h1 h2:=sb;have I1:Inv X pins σ (upd H s.heap.objs.size (.tup [.int i,x])) { s with heap:=s.heap.push { cls:=.type "tuple",data:=.seq #[.int i tk,y] },toks:=s.toks } :=
   I.laid (λb u e=>Vo _ e) (Vp _) ⟨(by decide:2<=sizeLine),[.int i tk,y],.cons ⟨tk,rfl⟩ (.cons ru .nil),⟨_,VF _ rfl,rfl,rfl,_,rfl⟩⟩
  have nn:∀b∈[e,it],@LT.lt Nat _ b s.heap.objs.size:=λb hb=>by
   rcases VJ.mp hb with rfl|hb
   exact hel;have q:b=it:=by simpa using hb
   rw[q];exact hil
  have hn:∀b∈[e,it],upd H s.heap.objs.size (.tup [.int i,x]) b=none:=λb hb=>by
   unfold upd;rw[if_neg (VS (nn b hb))];exact(hf b hb).1
  have I2:Inv X pins σ (upd H s.heap.objs.size (.tup [.int i,x])) { s with heap:=h2,toks:=tk+1 }:=by
   refine Inv.rP (s:={ s with heap:=s.heap.push { cls:=.type "tuple",data:=.seq #[.int i tk,y] },toks:=s.toks }) (h':=h2) I1 (ch:=[e,it]) (t':=tk+1) (λb o hb q=>?_) λb hb=>⟨hn b hb,(hf b hb).2⟩;have nb:b≠e/\b≠it:=by simpa using hb
   refine(sb'.2 b nb.1).trans ?_;rcases Heap.get?_push_cases q with⟨rfl,rfl⟩|q
   exact hT;exact kk b o nb.1 nb.2 q
  refine⟨.ref s.heap.objs.size,_,I2,rfl,⟨_,x,rfl,N5,rfl,λys qe=>by rw[I.lb qe hq];exact hx⟩,⟨⟨y,?_⟩,?_⟩,hn⟩
  have:((i+1:Nat):Int)=(i:Int)+1:=by lk
  rw[this];exact N4;exact hst.1.extBut sb'.extBut (Ne.symm hne)
 done:=by
  intro X hP hw hK hc i pins s σ H E I hf st hg;subst hP hw hK;obtain⟨xs,hq,hx⟩:=hg;obtain⟨its,rv,p,hz⟩:=I.tuple hq;obtain⟨⟨old,he⟩,hit⟩:=st;have ht:s.heap.IsTuple a its.toArray:=p;have Gg:a≠it:=λz=>by
   obtain⟨o,e1,c1,_⟩:=hit;obtain⟨o2,e2,c2,_⟩:=ht;rw[z,e1]at e2;cases e2;exact absurd (c1.symm.trans c2) (by simp)
  have hl:=rv.length;have ei:its.toArray.size=i:=by simp;lk
  refine wpAny_pyNext_enum_endD (qd (A:=X.A.in1) (I.ok.hd hc) it a Gg its.toArray) he (by rw[ei];exact⟨hit,ht⟩) λh1 eb=>⟨rfl,?_⟩;obtain⟨f0,f1,f2,f3,f4,f5⟩:=hf it (by simp);exact I.turned (t':=s.toks) (λb o hb q=>eb b o hb q) f0 f1 f3 f4 f5
 self:=λ_ _ _ _ _ st h=>let ⟨_,he⟩:=st.1;wpAny_pyIter_enum he h
abbrev tM(K:Zfr)(ta:TA):TI:=λσ H R=>ta σ H λvs H1=>∃a,vs=[.ref a]/\(∃xs,de K H1 a xs)/\R (JD K a) H1
def JE{X:Cx}{es:List Expr}{x1}{p0:Pos}{l:Expr}{ta:TA}{p pos:Pos}(hg:Gl X "enumerate")(hm:X.mg "enumerate" = none)(ha:PA X [l] ta)(hs:starEach [l] X.env=[(false,eval l X.env)]:=by rfl):
  PI X (.Tuple es x1 p0) (.Call (.Name "enumerate" p) [l] [] pos) (tM X.K ta):=by
 intro pins s σ H R I h;refine Call_ (yh I hg hm boot_enumerate (PyProof.Rows.callWith_type1 (bM (ha pos pins s σ H _ I h) λus s1 ⟨vs,H1,I1,r1,q1⟩=>?_) hs rfl));obtain⟨a,e,⟨xs,hq⟩,q⟩:=q1;subst e;cases r1 with
 |cons r rr =>
  cases rr;cases r;obtain⟨its,rv,p,hz⟩:=I1.tuple hq;refine N1 (show s1.heap.IsTuple a its.toArray from p) λh1 he hi hsz kk=>?_;refine wpAny_pyIter_enum he ?_;refine⟨s1.heap.objs.size+1,[s1.heap.objs.size+1,s1.heap.objs.size],_,_,H1,rfl,I1.kept (t':=s1.toks) kk,N2 a _ _ (Nat.succ_ne_self _),⟨⟨_,he⟩,hi⟩,λb hb=>?_,q⟩;have hb':@LE.le Nat _ s1.heap.objs.size b:=by
   rcases VJ.mp hb with rfl|hb
   exact Wc _;have e:b=s1.heap.objs.size:=by simpa using hb
   rw[e];exact Vp _
  exact I1.oZ hb' (I1.hok.fresh hb')
section
open Sem (wp)
open PySem.AutoSeq1 (wpAny_loadPart')
open PySem.MeetsSeq PySem.MeetsSeq2 PySem.MeetsSeq3
def IntsAre.get{vs:List Value}{ns:List Int}(h:IntsAre vs ns):∀{i:Nat} {n:Int},ns[i]?=some n->∃t,vs[i]?=some (.int n t):=by
 induction h with
 |nil=>intro i n e;simp at e
 |cons a t h ih =>
  intro i n e;cases i with
  |zero=>exact⟨t,by simpa using e⟩
  |succ i=>simpa using ih (by simpa using e)
def qf(l:Addr)(items:Array Value)(n:Nat)(dd:Option Addr)(sl:Array (Option Value))(ns:List Int)(hi:IntsAre items.toList ns)(v:Int)(t:Tok)(j:Nat)(hj:ns[j]?=some v)(hb:∀i,i<j->ns[i]?≠some v):
  Meets (Builtin.«tuple.index» ⟨[.ref l,.int v t],[]⟩)
   (λ_ R s=>s.heap.get? l=some { cls:=.type "tuple",dict:=dd,data:=.seq items n,slots:=sl }/\R (.ok (.ret (.int (j:Int) s.toks))) { s with toks:=s.toks+1 }) :=
 .of_wp λprog w A R s h=>by
  obtain⟨hp,g,d,tk,os⟩:=s;obtain⟨hl,h⟩:=h;have z1:items.size=ns.length:=by rw[<- hi.length];simp
  have hjl:j<ns.length:=(Vm.mp hj).1
  wp_walk using wpAny_loadPart' hl
  have key:wpAny (model prog w) A.in1 (forIn (m:=Sem) [:min items.size items.size] ((none,()):Option Fin×Unit) (λ(i:Nat) _ =>
    match items[i]? with
    |some y=>do
     let b <- eqBool y (Value.int v t)
     if b=true then do
      let r <- retInt (i:Int)
      pure (ForInStep.done (some r,()))
     else pure (ForInStep.yield (none,()))
    |_=>pure (ForInStep.yield (none,()))))
   (λa s'=>a.1=some (.done (.ret (.int (j:Int) tk)))/\s'=⟨hp,g,d,tk+1,os⟩) (λe s'=>R (Except.error e) s') ⟨hp,g,d,tk,os⟩:=by
   rw[Std.Legacy.Range.forIn_eq_forIn_range'];have ez:([:min items.size items.size]:Std.Legacy.Range).size=ns.length:=by
    simp[Std.Legacy.Range.size,z1]
   rw[ez];refine wpAny_forIn_list _ (λrest b s'=>b.1=none/\s'=⟨hp,g,d,tk,os⟩/\∃k,k<=j/\rest=List.range' k (ns.length-k) 1) _ ?_ ?_ _ _ ⟨rfl,rfl,0,VX _,by simp⟩;rintro x rest b s' ⟨hb',rfl,k,hk,e⟩;have el:ns.length-k=(ns.length-(k+1))+1:=by lk
   rw[el,List.range'_succ]at e;injection e with e1 e2;subst e1;have nQ:x<ns.length:=by lk
   obtain⟨t',ht'⟩:=IntsAre.get hi (Vn nQ);have N6:items[x]?=some (.int ns[x] t'):=by rw[<- ht',WB]
   simp only[N6];obtain⟨e,he,hiff⟩:=HT.M6 A.in1 ⟨hp,g,d,tk,os⟩ ns[x] t' v t;refine wpAny_bind (he prog w _ _ ?_);cases e with
   |true =>
    have ev:ns[x]=v:=hiff.mp rfl;have N7:x=j:=by
     rcases XW x j with h'|h'
     exact absurd (by rw[Vn nQ,ev]) (hb x h');lk
    subst N7
    wp_walk
    first|exact⟨rfl,rfl⟩|trivial
   |false =>
    have ev:ns[x]≠v:=λq=>absurd (hiff.mpr q) Vs;have:x≠j:=λz=>ev (by subst z;rw[Vn nQ]at hj;exact Vu hj)
    wp_walk
    exact⟨rfl,rfl,x+1,by lk,e2⟩
   rintro b s' ⟨hb',rfl,k,hk,e⟩
   have:(List.range' k (ns.length-k) 1).length=0:=by rw[<- e];rfl
   rw[List.length_range']at this;lk
  refine wpAny_mono key (λa s' ha=>?_) (λ_ _ z=>z);obtain⟨ha,rfl⟩:=ha;obtain⟨a1,a2⟩:=a;cases(show a1=_ from ha);exact wpAny_pure ⟨_,rfl,h⟩
end
section
variable {X:Cx}{K:Zfr}
abbrev nR(K:Zfr):V->List V->Hp->VK->Prop:=λx vs H Q=>∃(a:Addr) (ns:List Int) (v:Int) (j:Nat),x=.ref a/\vs=[.int v]/\de K H a (ns.map V.int)/\ns[j]?=some v/\(∀i,i<j->ns[i]?≠some v)/\Q (.int (j:Int)) H
def N8:zC X "tuple.index" (nR X.K):=by intro pins s σ H x xs v us Q I rx rv h;obtain⟨a,ns,y,j,rfl,rfl,hq,hj,hb,q⟩:=h;cases rx;obtain⟨u,rfl,t,rfl⟩:=vals1 rv;obtain⟨its,r,⟨⟨c,dd,dt,sl⟩,e,hc,hd,n,hdt⟩,hz⟩:=I.nE hq;cases(show c=.type "tuple" from hc);cases(show dt=.seq its.toArray n from hdt);refine call_meets F.slot_tuple_index ⟨_,e,rfl⟩ F.entry_tuple_index (F.args_tuple_index_2 _ _) (qf a its.toArray n dd sl ns (by simpa using I0 r) y t j hj hb) ⟨e,?_⟩;exact⟨.int j,H,I.tok _,⟨_,rfl⟩,q⟩
def N9(hK:X.K=K):zC X "tuple.index" (nR K):=by subst hK;exact N8
def vG{o e:Expr}{es:List Expr}{to:TE}{t:TA}{name:Str}{apos cpos:Pos}{T id:String}{r:V->List V->Hp->VK->Prop}(hK:X.K=K)(pa:PlainAttrs T)(slot:Slot T name id)(hty:typeOf (.builtin id)=pure (.type "method_descriptor"))(hm:zC X id r)(ho:PE X o to)(ha:PA X (e :: es) t)
  (hbase:attributeBase o name X.env (eval o X.env)=eval o X.env:=by rfl)
  (hfew:((backTo cpos (starEach (e :: es) X.env)).all (λx=>!x.1) && (backToKw cpos (keywordEach [] X.env)).all (λx=>x.1.isSome)
   && decide ((e :: es).length+([]:List Keyword).length+(if([]:List Keyword).isEmpty then 0 else 1)<30))=true:=by rfl)
  (hline:(apos.endLine == cpos.line)=true:=by rfl) (hs:starEach (e :: es) X.env=(false,eval e X.env) :: starEach es X.env:=by rfl) (hplain:(backTo cpos (starEach es X.env)).any (·.1)=false:=by rfl) :
  PE X (.Call (.Attribute o name apos) (e :: es) [] cpos) (FQ K T r to t):=by subst hK;exact om pa slot hty hm ho ha hbase hfew hline hs hplain
end
open Builtin.Str
section
variable {X:Cx}{K:Zfr}
def vH:bootBuiltins "set" = some (.type "set"):=by decide +kernel
end
open Builtin.Str
section
variable {X:Cx}{K:Zfr}
abbrev eD(us:List Value)(ds:List PyData)(dx:PyData)(u:Value):Bool:=@decide (∃(i:Nat) (d:PyData),us[i]?=some u/\ds[i]?=some d/\PyData.eqv d dx=true) (Classical.propDecidable _)
def dR.get:∀{H:Hp} {vs:List V} {ds:List PyData},dR K H vs ds->∀{i:Nat} {v:V},vs[i]?=some v->∃d,ds[i]?=some d/\Rep K H v d
 |_,_,_,.nil,i,v,e=>by simp at e
 |_,_,_,.cons (d:=d) a b,0,v,e=>⟨d,by simp,by have:_=v:=Vu (by simpa using e);rw[<- this];exact a⟩
 |_,_,_,.cons a b,i+1,v,e=>by
  obtain⟨d,e1,r⟩:=dR.get b (i:=i) (by simpa using e);exact⟨d,by simpa using e1,r⟩
def dR.rQ:∀{H:Hp} {vs:List V} {ds:List PyData},dR K H vs ds->vs.length=ds.length
 |_,_,_,.nil=>rfl
 |_,_,_,.cons _ r=>by rw[VU,VU,dR.rQ r]
def Vals.zW{xs:List V}{us:List Value}(r:Vals xs us){i:Nat}{u:Value}(h:us[i]?=some u):∃v,xs[i]?=some v/\RelV v u:=by have hi:=(Vm.mp h).1;have hl:=r.length;obtain⟨u',hu,ru⟩:=r.get (i:=i) (x:=xs[i]'⋯) (Vn _);rw[h]at hu;cases hu;exact⟨_,Vn _,ru⟩
open Classical in
def Gh{pins:List (Addr×Obj)}{σ:St}{H:Hp}{s:Shared}{xs:List V}{us:List Value}{ds:List PyData}{x:V}{v:Value}{dx:PyData}(hu:X.A.units+64<cLine)(I:Inv X pins σ H s)(r:Vals xs us)(hr:dR X.K H xs ds)(rx:RelV x v)(hx:Rep X.K H x dx)(c1:∀d∈ds,d.canLay0=true)(c2:dx.canLay0=true)(c3:dx.depth<=60):
  ∀u∈us,SeqAt.EqAt X.A.in1 s u v (eD us ds dx u):=by
 intro u hm;obtain⟨bs,rb⟩:=hx.reads I rx;have key:∀(i:Nat) (d:PyData),us[i]?=some u->ds[i]?=some d->SeqAt.EqAt X.A.in1 s u v (PyData.eqv d dx):=λi d h1 h2=>by
  obtain⟨y,hy,ry⟩:=r.zW h1;obtain⟨d',hd',rd⟩:=hr.get hy;rw[h2]at hd';cases hd';obtain⟨as,ra⟩:=rd.reads I ry;intro prog w E Q q;refine SeqAt.eqBoolOverData prog w X.A.in1 E s u v d dx as bs Q ra rb (c1 _ (Vv h2)) c2 ?_ q;have:X.A.in1.units<=X.A.units+2:=by
   first|exact Nat.le_add_right _ _|(show X.A.units<=_;lk)|(show X.A.units+1<=_;lk)
  lk
 obtain⟨i,hi⟩:=W9 hm;have hl1:=r.length;have hl2:=hr.rQ;have hil:=(Vm.mp hi).1;unfold eD;by_cases h:∃(i:Nat) (d:PyData),us[i]?=some u/\ds[i]?=some d/\PyData.eqv d dx=true;rw[decide_eq_true h];obtain⟨j,d,h1,h2,h3⟩:=h;have:=key j d h1 h2
 rwa [h3]at this
 rw[decide_eq_false h];have h2:ds[i]?=some (ds[i]'⋯):=Vn _;have k:=key i _ hi h2;cases hb:PyData.eqv (ds[i]'⋯) dx with
 |true=>exact absurd ⟨i,_,hi,h2,hb⟩ h
 |false=>rwa [hb]at k
open Classical in
def vI{xs:List V}{us:List Value}{ds:List PyData}{dx:PyData}(h1:us.length=ds.length):us.any (eD us ds dx)=ds.any λd=>PyData.eqv d dx:=by rw[WL,XX,XX];constructor;rintro⟨u,hu,h⟩;unfold eD at h;obtain⟨i,d,_,h2,h3⟩:=of_decide_eq_true h;exact⟨d,Vv h2,h3⟩;rintro⟨d,hd,h⟩;obtain⟨i,hi⟩:=W9 hd;have hil:=(Vm.mp hi).1;refine⟨us[i]'⋯,XU _,?_⟩;unfold eD;exact decide_eq_true ⟨i,d,Vn _,hi,h⟩
abbrev zX(K:Zfr)(neg:Bool):R2:=λx y H Q=>∃p xs ds dx,y=.ref p/\(gP K H p xs\/de K H p xs)/\dR K H xs ds/\Rep K H x dx/\(∀d∈ds,PyData.canLay0 d=true)/\PyData.canLay0 dx=true/\PyData.depth dx<=60/\Q (.bl (if neg then !ds.any (λd=>PyData.eqv d dx)else ds.any λd=>PyData.eqv d dx)) H
def JF(hu:X.A.units+64<cLine):jV X (compareOp .NotIn) (zX X.K true):=by
 intro pins s σ H x y v u Q I rx ry h;obtain⟨p,xs,ds,dx,rfl,hq,hr,hx,c1,c2,c3,q⟩:=h;cases ry;have e2:∀{its:List Value},Vals xs its->its.toArray.any (eD its ds dx)=ds.any λd=>PyData.eqv d dx:=λ{its} r=>by
  rw[show its.toArray.any (eD its ds dx)=its.any (eD its ds dx) by simp];exact vI (xs:=xs) (by rw[<- r.length];exact hr.rQ)
 rcases hq with hq|hq
 obtain⟨its,r,pl,hz⟩:=I.list hq;refine SeqAt.notIn_listAt (eD its ds dx) pl.isList (λw hw=>Gh hu I r hr rx hx c1 c2 c3 w (by simpa using hw)) ⟨.bl _,H,I,rfl,?_⟩;rw[e2 r];exact q;obtain⟨its,r,pl,hz⟩:=I.tuple hq;refine SeqAt.notIn_tupleAt (eD its ds dx) pl (λw hw=>Gh hu I r hr rx hx c1 c2 c3 w (by simpa using hw)) ⟨.bl _,H,I,rfl,?_⟩;rw[e2 r];exact q
end
open Builtin.Str
open Builtin
abbrev DU(a:Addr)(xs:List (List Int×Addr×Value)):HO:=.ext λh=>(a == sysModules)=false/\xs.length<=sizeLine/\∃o es ep,h.get? a=some o/\o.ExactDict/\o.data=.dict es ep /\
 (∃(P:Program) (w:World),es.toList=xs.map (entryOfKey (tupleKind (intKind P w))))/\(xs.map (·.1)).Nodup
end L2
namespace L2
open PySem PySem.Spec PyProof.Rows PySem.SeqAt PySem.MeetsSeq
abbrev lR(A:Around)(s:Shared)(y x:Value)(r:Bool):Prop:=∀(prog:Program) (w:World) (E Q:Value->Shared->Prop),Q (.bool r) s->wpAny (model prog w) A (richCompare .Lt y x) Q E s
abbrev bY(e lt:Nat->Bool)(fin:Bool):List Nat->Bool
 |[]=>fin
 |i :: r=>if e i then bY e lt fin r else lt i
def Oa(l m:Addr)(a b:Array Value)(n1 n2:Nat)(d1 d2:Option Addr)(s1 s2:Array (Option Value))(e lt:Nat->Bool):
  Meets (Builtin.«tuple.__lt__» ⟨[.ref l,.ref m],[]⟩) (λA R s=>s.heap.get? l=some { cls:=.type "tuple",dict:=d1,data:=.seq a n1,slots:=s1 }/\s.heap.get? m=some { cls:=.type "tuple",dict:=d2,data:=.seq b n2,slots:=s2 } /\
    (∀j (h1:j<a.size) (h2:j<b.size),EqAt A.in1 s a[j] b[j] (e j))/\(∀j (h1:j<a.size) (h2:j<b.size),e j=false->lR A.in1 s a[j] b[j] (lt j))/\R (.ok (.ret (.bool (bY e lt (decide (a.size<b.size)) (List.range (min a.size b.size)))))) s) :=
 .of_wp λprog w A R s h=>by
  obtain⟨hp,g,d,tk,os⟩:=s;obtain⟨hl,hm,he,hlt,h⟩:=h;have f2:=AutoSeq1.sub_tuple_tuple;have hZ:(a.toList.zip b.toList).length=min a.size b.size:=by simp
  wp_walk using wpAny_loadPart' hl,wpAny_loadPart' hm,wpAny_forIn_list _ (λrest q s'=>q.1=none/\s'=⟨hp,g,d,tk,os⟩/\∃i,rest=(a.toList.zip b.toList).drop i/\R (.ok (.ret (.bool (bY e lt (decide (a.size<b.size)) ((List.range (min a.size b.size)).drop i))))) ⟨hp,g,d,tk,os⟩) _
  case turn =>
   rintro⟨y,x⟩ rest q s' ⟨hq,rfl,i,hz,hR⟩;have hil:i<(a.toList.zip b.toList).length:=by
    rcases XW i (a.toList.zip b.toList).length with k|k
    ·exact k
    ·rw[Xk k]at hz;cases hz
   have hmn:i<min a.size b.size:=hZ ▸ hil;have g1:i<a.size:=by lk
   have g2:i<b.size:=by lk
   rw[WQ hil]at hz;injection hz with hyx hrest;have hy:y=a[i]:=by simpa using congrArg Prod.fst hyx
   have hx:x=b[i]:=by simpa using congrArg Prod.snd hyx
   subst hy hx;have hd:(List.range (min a.size b.size)).drop i=i :: (List.range (min a.size b.size)).drop (i+1):=by simp[WQ,hmn]
   rw[hd,bY]at hR;refine wpAny_bind (he i g1 g2 prog w _ _ ?_);cases hei:e i with
   |true =>
    rw[hei]at hR
    wp_walk
    exact⟨rfl,rfl,i+1,hrest,hR⟩
   |false =>
    rw[hei]at hR;refine wpAny_bind (wpAny_rule (wpAny_bind (hlt i g1 g2 hei prog w _ _ ?_)))
    wp_walk
    exact⟨_,rfl,hR⟩
  case fin =>
   rintro⟨q1,q2⟩ s' ⟨hq,rfl,i,hz,hR⟩;simp only at hq;subst hq;have hge:min a.size b.size<=i:=by
    rcases XW i (a.toList.zip b.toList).length with k|k
    ·rw[WQ k]at hz;cases hz
    ·exact hZ ▸ k
   rw[Xk (by simpa using hge),bY]at hR
   wp_walk
   exact⟨_,rfl,by simpa[Builtin.Tuple.tupleCompareSizes]using hR⟩
  case h =>
   exact⟨rfl,rfl,0,rfl,by simpa using h⟩
def lR.tuples{A:Around}{s:Shared}{l m:Addr}{a b:Array Value}{e lt:Nat->Bool}(hl:s.heap.IsTuple l a)(hm:s.heap.IsTuple m b)(hu:A.units<cLine)
  (he:∀j (h1:j<a.size) (h2:j<b.size),EqAt A.in1 s a[j] b[j] (e j)) (hlt:∀j (h1:j<a.size) (h2:j<b.size),e j=false->lR A.in1 s a[j] b[j] (lt j)) :
  lR A s (.ref l) (.ref m) (bY e lt (decide (a.size<b.size)) (List.range (min a.size b.size))):=λprog w E Q h=>by
 obtain⟨⟨c1,d1,t1,s1⟩,o1,k1,n1,j1⟩:=hl;obtain⟨⟨c2,d2,t2,s2⟩,o2,k2,n2,j2⟩:=hm;simp only at k1 j1 k2 j2;subst k1 j1 k2 j2;exact richCompare_meets_room (op:=.Lt) ⟨_,o1,rfl⟩ ⟨_,o2,rfl⟩ F.slot_tuple_lt F.entry_tuple_lt (F.args_tuple_lt_2 _ _) (Oa l m a b n1 n2 d1 d2 s1 s2 e lt)
  ⟨o1,o2,he,hlt,show Value.bool (bY e lt (decide (a.size<b.size)) (List.range (min a.size b.size)))≠Value.notImplemented/\Q (.bool (bY e lt (decide (a.size<b.size)) (List.range (min a.size b.size)))) s from⟨(λx=>nomatch x),h⟩⟩ hu
mutual
abbrev yr:PyData->PyData->Bool
 |.int a,.int b=>decide (a<b)
 |.tuple xs,.tuple ys=>km xs ys
 |_,_=>false
abbrev km:List PyData->List PyData->Bool
 |[],[]=>false
 |[],_ :: _=>true
 |_ :: _,[]=>false
 |x :: xs,y :: ys=>if PyData.eqv x y then km xs ys else yr x y
end
mutual
abbrev qg:PyData->PyData->Bool
 |.int _,.int _=>true
 |.tuple xs,.tuple ys=>lS xs ys
 |_,_=>false
abbrev lS:List PyData->List PyData->Bool
 |[],_=>true
 |_ :: _,[]=>true
 |x :: xs,y :: ys=>qg x y && lS xs ys
end
def JG(e lt:Nat->Bool)(fin:Bool)(f:Nat->Nat):∀l:List Nat,bY e lt fin (l.map f)=bY (λi=>e (f i)) (λi=>lt (f i)) fin l
 |[]=>rfl
 |i :: r=>by
  show(if e (f i)then bY e lt fin (r.map f)else lt (f i))=if e (f i)then _ else lt (f i)
  rw[JG e lt fin f r]
abbrev nS(xs ys:List PyData)(j:Nat):Bool:=yr (xs.getD j .none) (ys.getD j .none)
def JH:∀xs ys:List PyData,bY (pairEq xs ys) (nS xs ys) (decide (xs.length<ys.length)) (List.range (min xs.length ys.length))=km xs ys
 |[],[]=>rfl
 |[],_ :: _=>by simp[bY,km]
 |_ :: _,[]=>by simp[bY,km]
 |x :: xs,y :: ys=>by
  have ih:=JH xs ys;have e1:min (x :: xs).length (y :: ys).length=min xs.length ys.length+1:=by simp only[VU];lk
  have e2:decide ((x :: xs).length<(y :: ys).length)=decide (xs.length<ys.length):=by simp
  rw[e1,e2,List.range_succ_eq_map,bY,JG];show(if PyData.eqv x y then bY (pairEq xs ys) (nS xs ys) (decide (xs.length<ys.length)) (List.range (min xs.length ys.length))else yr x y)=_;rw[ih,km]
mutual
def JI:∀(da db:PyData) (A:Around) (s:Shared) (a b:Value) (as bs:List Addr),Reads s.heap a da as->Reads s.heap b db bs->qg da db=true->da.canLay0=true->db.canLay0=true->A.units+min da.depth db.depth<cLine->lR A s a b (yr da db)
 |.int x,.int y,A,s,_,_,_,_,ra,rb,_,_,_,_=>by
  cases ra with
  |int _ t =>
   cases rb with
   |int _ u=>exactλprog w E Q h=>richCompare_gives (op:=.Lt) (typeIs_int s _ t) (typeIs_int s _ u) F.slot_int_lt F.entry_int_lt (F.args_int_lt_2 _ _) (gives_int_lt _ _ t u) (λx=>nomatch x) h
 |.tuple xs,.tuple ys,A,s,_,_,_,_,ra,rb,ok,ha,hb,hu=>by
  cases ra with
  |@tuple l o vs n _ U5 h1 h2 h3 h4 =>
   cases rb with
   |@tuple l' o' vs' n' _ U6 k1 k2 k3 k4 =>
    have t1:s.heap.IsTuple l vs:=⟨_,h1,h2,_,h3⟩;have t2:s.heap.IsTuple l' vs':=⟨_,k1,k2,_,k3⟩;have n1:vs.size=xs.length:=by simpa using ReadsAll.length _ _ _ h4
    have n2:vs'.size=ys.length:=by simpa using ReadsAll.length _ _ _ k4
    show lR A s (.ref l) (.ref l') (km xs ys);rw[<- JH xs ys,<- n1,<- n2];refine lR.tuples t1 t2 (room_here hu) (λj j1 j2=>?_) (λj j1 j2 _=>?_);have z:=eqAt_readsAll xs ys A.in1 s vs.toList vs'.toList _ _ h4 k4 ha hb (room_in hu) j (by simpa using j1) (by simpa using j2);simpa using z;have z:=JJ xs ys A.in1 s vs.toList vs'.toList _ _ h4 k4 ok ha hb (room_in hu) j (by simpa using j1) (by simpa using j2);simpa using z
 |.int _,.none,_,_,_,_,_,_,_,_,ok,_,_,_=>nomatch ok
 |.int _,.bool _,_,_,_,_,_,_,_,_,ok,_,_,_=>nomatch ok
 |.int _,.str _,_,_,_,_,_,_,_,_,ok,_,_,_=>nomatch ok
 |.int _,.list _,_,_,_,_,_,_,_,_,ok,_,_,_=>nomatch ok
 |.int _,.tuple _,_,_,_,_,_,_,_,_,ok,_,_,_=>nomatch ok
 |.int _,.dict _,_,_,_,_,_,_,_,_,ok,_,_,_=>nomatch ok
 |.tuple _,.none,_,_,_,_,_,_,_,_,ok,_,_,_=>nomatch ok
 |.tuple _,.bool _,_,_,_,_,_,_,_,_,ok,_,_,_=>nomatch ok
 |.tuple _,.int _,_,_,_,_,_,_,_,_,ok,_,_,_=>nomatch ok
 |.tuple _,.str _,_,_,_,_,_,_,_,_,ok,_,_,_=>nomatch ok
 |.tuple _,.list _,_,_,_,_,_,_,_,_,ok,_,_,_=>nomatch ok
 |.tuple _,.dict _,_,_,_,_,_,_,_,_,ok,_,_,_=>nomatch ok
 |.none,_,_,_,_,_,_,_,_,_,ok,_,_,_=>by simp[qg]at ok
 |.bool _,_,_,_,_,_,_,_,_,_,ok,_,_,_=>by simp[qg]at ok
 |.str _,_,_,_,_,_,_,_,_,_,ok,_,_,_=>by simp[qg]at ok
 |.list _,_,_,_,_,_,_,_,_,_,ok,_,_,_=>by simp[qg]at ok
 |.dict _,_,_,_,_,_,_,_,_,_,ok,_,_,_=>by simp[qg]at ok
def JJ:∀(xs ys:List PyData) (A:Around) (s:Shared) (vs ws:List Value) (as bs:List Addr),ReadsAll s.heap vs xs as->ReadsAll s.heap ws ys bs->lS xs ys=true->PyData.canLayAll0 xs=true->PyData.canLayAll0 ys=true->A.units+min (PyData.depthAll xs) (PyData.depthAll ys)<cLine->∀j (h1:j<vs.length) (h2:j<ws.length),lR A s vs[j] ws[j] (nS xs ys j)
 |[],_,_,_,_,_,_,_,ra,_,_,_,_,_,j,h1,_=>by cases ra;exact absurd h1 (V6 _)
 |_ :: _,[],_,_,_,_,_,_,_,rb,_,_,_,_,j,_,h2=>by cases rb;exact absurd h2 (V6 _)
 |x :: xs,y :: ys,A,s,_,_,_,_,ra,rb,ok,ha,hb,hu,j,h1,h2=>by
  have a':x.canLay0=true/\PyData.canLayAll0 xs=true:=by simpa[PyData.canLayAll0]using ha
  have b':y.canLay0=true/\PyData.canLayAll0 ys=true:=by simpa[PyData.canLayAll0]using hb
  have o':qg x y=true/\lS xs ys=true:=by simpa[lS]using ok
  cases ra with
  |cons r rs =>
   cases rb with
   |cons r' rs' =>
    cases j with
    |zero=>exact JI x y A s _ _ _ _ r r' o'.1 a'.1 b'.1 (room_head hu)
    |succ j=>exact JJ xs ys A s _ _ _ _ rs rs' o'.2 a'.2 b'.2 (room_tail hu) j (Xl h1) (Xl h2)
end
section
variable {prog:Program}{w:World}{A:Around}{R:Result->Shared->Prop}{I:Addr}{fp wr:List Addr}{n:Nat}{P:Nat->Value->Prop}{St:Nat->Heap->Prop}
abbrev eO(a b:Heap):Prop:=∀x o,a.get? x=some o->b.get? x=some o
abbrev vJ(A:Around)(h0:Heap)(P:Nat->Value->Prop)(bt:Nat->Nat->Bool):Prop:=∀i j vi vj (s:Shared),eO h0 s.heap->P i vi->P j vj->lR A s vi vj (bt i j)
def Dv:(toString "min" ++ toString ".loop" : String)="min.loop" := by decide
def Gi(W:Walks prog w A.in1 I fp wr n P St)(bt:Nat->Nat->Bool){h0:Heap}(hcmp:vJ A.in1 h0 P bt)(S:Addr)(hSf:S ∉ fp)(vK:h0.get? S=none)(hw0:∀b∈wr,h0.get? b=none):
  ∀(k j:Nat) (s:Shared) (vb:Value) (c:Nat),n-(j+1)=k->j+1<=n->St (j+1) s.heap->P (argBest bt j) vb->eO h0 s.heap->s.heap.get? S=some { cls:=.type "list",dict:=none,data:=.seq #[vb,vb] c,slots:=#[] } ->
  (∀v h' tk,P (argBest bt (n-1)) v->eO h0 h'->R (.ok (.ret v)) { s with heap:=h',toks:=tk })->codeAny (model prog w) A (.builtin "min.loop" ⟨[.ref I,.none,.ref S],[]⟩) R s
 |0,j,s,vb,c,hk,hj,hst,Dw,hK,hS,hR=>by
  have tN:S ∉ wr:=λz=>hSf (W.sub S z);have hin:n=j+1:=by lk
  subst hin;refine codeAny_builtin F.entry_min_loop ?_;rw[Around.under_plainId F.plain_min_loop (A:=A) _];show wpAny (model prog w) A.in1 (seqItems? (.ref S) >>= _) _ _ _;refine wpAny_bind (wpAny_seqItems hS rfl ?_);show wpAny (model prog w) A.in1 (tryCatch (pyNext (.ref I)) _ >>= _) _ _ _;refine wpAny_bind (wpAny_tryCatch (W.done s _ _ hst λh' tk hk'=>?_));have hS':=hk' S _ tN hS;show wpAny (model prog w) A.in1 (updateSeq S (λ_=>#[]) >>= _) _ _ _;refine wpAny_bind (wpAny_updateSeq hS' rfl (wpAny_bind (wpAny_letGo (wpAny_pure (hR vb _ tk Dw λb o e=>?_)))));have hb1:b ∉ wr:=λz=>by rw[hw0 b z]at e;cases e
  have hb2:S≠b:=λz=>by rw[<- z,vK]at e;cases e
  exact(VN _ _ hb2).trans (hk' b o hb1 (hK b o e))
 |k+1,j,s,vb,c,hk,hj,hst,Dw,hK,hS,hR=>by
  have tN:S ∉ wr:=λz=>hSf (W.sub S z);have hlt:j+1<n:=by lk
  refine codeAny_builtin F.entry_min_loop ?_;rw[Around.under_plainId F.plain_min_loop (A:=A) _];show wpAny (model prog w) A.in1 (seqItems? (.ref S) >>= _) _ _ _;refine wpAny_bind (wpAny_seqItems hS rfl ?_);show wpAny (model prog w) A.in1 (tryCatch (pyNext (.ref I)) _ >>= _) _ _ _;refine wpAny_bind (wpAny_tryCatch (W.item (j+1) s _ _ hlt hst λv h' tk hP o5 hk'=>?_));have hS':=hk' S _ tN hS;have zY:eO h0 h':=λb o e=>hk' b o (λz=>by rw[hw0 b z]at e;cases e) (hK b o e);show wpAny (model prog w) A.in1 (tryCatch (holding [v,v] (richCompare .Lt v vb >>= _)) _ >>= _) _ _ _;refine wpAny_bind (wpAny_tryCatch (wpAny_holding (wpAny_bind (hcmp (j+1) (argBest bt j) v vb _ zY hP Dw prog w _ _ ?_))));refine wpAny_bind (wpAny_holding (wpAny_truthy_bool (wpAny_bind (wpAny_letGo (wpAny_pure ?_)))));cases hb:bt (j+1) (argBest bt j)with
  |true =>
   simp only[if_true];refine wpAny_bind (wpAny_updateSeq hS' rfl (wpAny_bind (wpAny_letGo ?_)));rw[Dv];have Gj:eO h0 (h'.update S (Obj.mapSeq λ_=>#[v,v])):=λb o e=>(VN _ _ (λz=>by rw[<- z,vK]at e;cases e)).trans (zY b o e);refine wpAny_pure ⟨plainId_quiet F.plain_min_loop _,Gi W bt hcmp S hSf vK hw0 k (j+1) _ v _ ⋯ hlt (W.frame _ _ _ o5 λb Gk o e=>?_) (by simp only[argBest,hb,if_true];exact hP) Gj (VZ _ hS' rfl) λv' h'' qh zZ qi=>hR v' h'' qh zZ qi⟩;exact(VN _ _ (λz:S=b=>hSf (z ▸ Gk))).trans e
  |false =>
   simp only[V5,if_false];refine wpAny_bind (wpAny_letGo ?_);rw[Dv];exact wpAny_pure ⟨plainId_quiet F.plain_min_loop _,Gi W bt hcmp S hSf vK hw0 k (j+1) _ vb c ⋯ hlt o5 (by simp only[argBest,hb,V5,if_false];exact Dw) zY hS' λv' h'' qh zZ qi=>hR v' h'' qh zZ qi⟩
def Ob(W:Walks prog w A.in1 I fp wr n P St)(bt:Nat->Nat->Bool){h0:Heap}(hcmp:vJ A.in1 h0 P bt)(S:Addr)(hSf:S ∉ fp)(vK:h0.get? S=none)(hw0:∀b∈wr,h0.get? b=none)(hn:0<n){s:Shared}{c:Nat}(hst:St 0 s.heap)(hK:eO h0 s.heap)
  (hS:s.heap.get? S=some { cls:=.type "list",dict:=none,data:=.seq #[] c,slots:=#[] }) (hR:∀v h' tk,P (argBest bt (n-1)) v->eO h0 h'->R (.ok (.ret v)) { s with heap:=h',toks:=tk }) :
  codeAny (model prog w) A (.builtin "min.loop" ⟨[.ref I,.none,.ref S],[]⟩) R s:=by
 have tN:S ∉ wr:=λz=>hSf (W.sub S z);refine codeAny_builtin F.entry_min_loop ?_;rw[Around.under_plainId F.plain_min_loop (A:=A) _];show wpAny (model prog w) A.in1 (seqItems? (.ref S) >>= _) _ _ _;refine wpAny_bind (wpAny_seqItems hS rfl ?_);show wpAny (model prog w) A.in1 (tryCatch (pyNext (.ref I)) _ >>= _) _ _ _;refine wpAny_bind (wpAny_tryCatch (W.item 0 s _ _ hn hst λv h' tk hP o5 hk'=>?_));have hS':=hk' S _ tN hS;have zY:eO h0 h':=λb o e=>hk' b o (λz=>by rw[hw0 b z]at e;cases e) (hK b o e);show wpAny (model prog w) A.in1 (updateSeq S (λ_=>#[v,v]) >>= _) _ _ _;refine wpAny_bind (wpAny_updateSeq hS' rfl ?_);rw[Dv];have Gj:eO h0 (h'.update S (Obj.mapSeq λ_=>#[v,v])):=λb o e=>(VN _ _ (λz=>by rw[<- z,vK]at e;cases e)).trans (zY b o e);refine wpAny_pure ⟨plainId_quiet F.plain_min_loop _,Gi W bt hcmp S hSf vK hw0 _ 0 _ v _ rfl hn (W.frame _ _ _ o5 λb Gk o e=>?_) hP Gj (VZ _ hS' rfl) λv' h'' qh zZ qi=>hR v' h'' qh zZ qi⟩;exact(VN _ _ (λz:S=b=>hSf (z ▸ Gk))).trans e
end
section
variable {prog:Program}{w:World}{A:Around}{E:Value->Shared->Prop}{s:Shared}
def Oc{p:Addr}{its:Array Value}{bt:Nat->Nat->Bool}{Q:Value->Shared->Prop}(hh:A.handled=none)(hl:s.heap.IsList p its)(hn:0<its.size)(hcmp:vJ A.in1 s.heap (λi v=>its[i]?=some v) bt)
  (hQ:∀v h' tk,its[argBest bt (its.size-1)]?=some v->eO s.heap h'->Q v { s with heap:=h',toks:=tk }):wpAny (model prog w) A (call (.builtin "min") [.ref p]) Q E s:=by
 have hlt:p<s.heap.objs.size:=by obtain⟨_,e,_⟩:=hl;exact Vx e
 have e0:s.heap.get? s.heap.objs.size=none:=by
  cases q:s.heap.get? s.heap.objs.size with
  |none=>rfl
  |some o=>exact absurd (Vx q) (WX _)
 have e1:s.heap.get? (s.heap.objs.size+1)=none:=by
  cases q:s.heap.get? (s.heap.objs.size+1)with
  |none=>rfl
  |some o=>exact absurd (Vx q) (XY (Wc _))
 refine call_function_tree F.kind_min F.plain_min F.entry_min (F.args_min1 _) ?_;show wpAny (model prog w) A.in1 (Builtin.Builtins.bindParams "min" ["key","default"] 0 ⟨[],[]⟩ >>= _) _ _ _;refine wpAny_bind (wpAny_of_eq (show Builtin.Builtins.bindParams "min" ["key","default"] 0 ⟨[],[]⟩=pure [none,none]from rfl) (wpAny_bind (wpAny_pure ?_)));refine wpAny_bind (wpAny_pyIter_list hl (wpAny_bind (wpAny_newObj_type ?_)));have hsz:(s.heap.push { cls:=.type "list_iterator",data:=.fields #[.ref p,.int 0 0] }).objs.size=s.heap.objs.size+1:=WI ..;have hne:p≠s.heap.objs.size:=VS hlt;rw[Dv];have k1:eO s.heap ((s.heap.push { cls:=.type "list_iterator",data:=.fields #[.ref p,.int 0 0] }).push { cls:=.type "list",data:=.seq #[] }):=λb o e=>Vo _ (Vo _ e);refine wpAny_pure ⟨plainId_quiet F.plain_min_loop _,?_⟩;show codeAny (model prog w) A (.builtin "min.loop" ⟨[.ref s.heap.objs.size,.none,.ref (s.heap.push { cls:=.type "list_iterator",data:=.fields #[.ref p,.int 0 0] }).objs.size],[]⟩) _ _;rw[hsz];refine Ob (c:=0) (Walks.list (A:=A.in1) hh s.heap.objs.size p hne its) bt hcmp (s.heap.objs.size+1) (λz=>?_) e1 (λb hb=>?_) hn ?_ k1 ?_ λv h' tk hv hk=>hQ v h' tk hv hk;rcases VJ.mp z with z|z
 exact absurd z (Nat.succ_ne_self _)
 have:s.heap.objs.size+1=p:=VE.mp z
 exact absurd hlt (by rw[<- this];exact XY (Wc _));rw[VE.mp hb];exact e0;exact⟨⟨_,Vo _ (VF _ rfl),rfl,rfl⟩,(hl.push _).push _⟩;rw[<- hsz];exact VF _ rfl
end
def Gm{h:Heap}:∀{us:List Value} {ds:List PyData} {as:List Addr} {i:Nat} {v:Value},ReadsAll h us ds as->us[i]?=some v->∃as',Reads h v (ds.getD i .none) as'/\ds.getD i .none∈ds
 |_,_,_,_,_,.nil,e=>by simp at e
 |_,_,_,0,_,.cons r _,e=>by simp at e;subst e;exact⟨_,r,Vw⟩
 |_,_,_,i+1,v,.cons _ rs,e=>by
  obtain⟨as',r,m⟩:=Gm (i:=i) (v:=v) rs (by simpa using e);exact⟨as',r,VA _ m⟩
section
variable {X:Cx}
abbrev rR(ds:List PyData)(i j:Nat):Bool:=yr (ds.getD i .none) (ds.getD j .none)
abbrev lp(ds:List PyData):Nat:=argBest (rR ds) (ds.length-1)
abbrev tO(K:Zfr):List V->Hp->VK->Prop:=λxs H Q=>∃(p:Addr) (vs:List V) (ds:List PyData),xs=[.ref p]/\gP K H p vs/\dR K H vs ds/\0<ds.length/\(∀a∈ds,∀b∈ds,qg a b=true)/\(∀a∈ds,a.canLay0=true/\a.depth<=50)/\∃v,vs[lp ds]?=some v/\Q v H
def Oe(hc:X.calm=true)(hu:X.A.units+64<cLine):eN X (.builtin "min") (tO X.K):=by
 intro pins s σ H xs us Q I r h;obtain⟨p,vs,ds,rfl,hq,hr,hn,hok,hlay,v0,hv0,q⟩:=h;obtain⟨u,rfl,ru⟩:=vals1 r;cases ru;obtain⟨its,rv,pl,_⟩:=I.list hq;obtain⟨as,ra⟩:=dR.reads I hr rv;have hlen:its.length=ds.length:=ReadsAll.length _ _ _ ra;refine Oc (bt:=rR ds) (I.ok.hd hc) pl.isList (by rw[Vt];lk) (λi j vi vj s' hK hi hj=>?_) λv h' tk hv hk=>?_;have hi':its[i]?=some vi:=by simpa using hi
 have hj':its[j]?=some vj:=by simpa using hj
 obtain⟨a1,r1,m1⟩:=Gm ra hi';obtain⟨a2,r2,m2⟩:=Gm ra hj';have b1:=(hlay _ m1).2;have b2:=(hlay _ m2).2;exact JI _ _ _ s' _ _ _ _ (Reads.keeps hK r1) (Reads.keeps hK r2) (hok _ m1 _ m2) (hlay _ m1).1 (hlay _ m2).1 (by show X.A.units+1+_<cLine;lk);have hv':its[lp ds]?=some v:=by
  have e:its.toArray.size-1=ds.length-1:=by rw[Vt,hlen]
  rw[e]at hv;unfold lp;simpa using hv
 obtain⟨u,JK,ru⟩:=Vals.get rv hv0;rw[hv']at JK;cases JK;exact⟨v0,H,I.kept hk,ru,q⟩
end
end L2
namespace L2
open PySem PySem.Spec PyProof.Rows PySem.W
section
variable {lt:Nat->Nat->Bool}{n0:Nat}{cmp:Nat->Nat->(Bool->Shared->Prop)->Shared->Prop}{s:Shared}
structure Ord(lt:Nat->Nat->Bool):Prop where
 tr:∀a b c,lt b a=false->lt c b=false->lt c a=false
 as:∀a b,lt a b=true->lt b a=false
abbrev P(p:Array Nat)(i:Nat):Nat:=p.getD i 0
variable (o:Ord lt)(hn:0<n0)(hc:∀i j (C:Bool->Shared->Prop),i<n0->j<n0->C (lt i j) s->cmp i j C s)
include o hn hc
end
abbrev oz(a:Addr)(h h':Heap):Prop:=∀b o,b≠a->h.get? b=some o->h'.get? b=some o
abbrev z9(vs:List Value)(p:Array Nat):Array Value:=List.toArray (p.toList.map λi=>vs.getD i Value.none)
def Og(vs:List Value):z9 vs (List.toArray (List.range vs.length))=vs.toArray:=by
 unfold z9
 congr 1
 refine WO λi=>?_;rw[Vr];by_cases h:i<vs.length;rw[Vn (by simpa using h)];simp[h];rw[V0 (by simpa using h),V0 (by simpa using h)];rfl
end L2
namespace L2
open PySem PySem.Spec PyProof.Rows
end L2
namespace L2
open PySem PySem.Spec PyProof.Rows PySem.W
end L2
namespace L2
open PySem PySem.Spec PyProof.Rows
open Builtin
end L2
namespace L2
open PySem PySem.Spec PyProof.Rows
end L2
namespace L2
open PySem PySem.Spec PyProof.Rows PySem.W
end L2
namespace L2
open PySem PySem.Spec PyProof.Rows
structure Aa(fs:List Addr)(e:Addr)(oe:Obj)(vs:Array Value)(T:Addr)(h h':Heap):Prop where
 exc:∃o ws,h'.get? e=some o/\o.cls=oe.cls/\o.dict=oe.dict/\o.data=.fields ws/\ws.size=vs.size/\ws[1]?=some (.ref T)
 new:h.objs.size<=T
 head:∃o ts,h'.get? T=some o/\o.data=.fields ts/\ts[3]?=some .none
 keep:∀b o,h.get? b=some o->b≠e->vs[1]?≠some (.ref b)->b ∉ fs->h'.get? b=some o
 slot:∀b o,h.get? b=some o->b≠e->vs[1]?≠some (.ref b)->∃sl,h'.get? b=some { o with slots:=sl }
 old:∀b,b≠e->vs[1]?=some (.ref b)->∃o ts,h'.get? b=some o/\o.data=.fields ts/\ts[3]?=some .none
section
variable {M:Model}{A:Around}{E:Value->Shared->Prop}{s:Shared}
def JL{base:Heap}{env:Env}{outer:List Env}{L e:Addr}{oe:Obj}{vs:Array Value}{hd0:Value}{hn:Bool}{Q:Unit->Shared->Prop}(hfr:A.frames=some (env :: outer))(hl:s.heap.FunFrames base (env :: outer))
  (hf:env.frame=some L) (he:s.heap.get? e=some oe) (hd:oe.data=.fields vs) (hs:1<vs.size)
  (h:∀h' T,(∃o ws,h'.get? e=some o/\o.cls=oe.cls/\o.dict=oe.dict/\o.data=.fields ws/\ws.size=vs.size/\ws[1]?=some (.ref T))->s.heap.objs.size<=T->(∃o ts,h'.get? T=some o/\o.data=.fields ts/\ts[3]?=some .none) ->
   (∀b o,s.heap.get? b=some o->b≠e->b ∉ frs (env :: outer)->h'.get? b=some o)->(∀b o,s.heap.get? b=some o->b≠e->∃sl,h'.get? b=some { o with slots:=sl })->Q () { s with heap:=h' }) :
  wpAny M A (do let a <- frameOf env;let pl <- entryPlaceOf L hn;let b <- EntryCells.newEntry hd0 a .none (rawInt L) .none pl;setField (.ref e) 1 b) (λ_ s'=>wpAny M A (setFlight (.ref e) none) Q E s') E s:=by
 have ne:e ∉ frs (env :: outer):=λz=>by
  obtain⟨_,o,q,nf⟩:=hl.mem z;rw[he]at q;cases q;exact nf vs hd
 refine wpAny_bind (wpAny_frameOf_fun hfr hl hf λh1 so=>wpAny_bind (wpAny_entryPlaceOf λpl ip=>?_));obtain⟨Oh,JM,Oi⟩:=so;have e1:h1.get? e=some oe:=by rw[JM e ne];exact he
 unfold EntryCells.newEntry newFields;refine wpAny_bind (wpAny_newObj_type ?_ (ip.sizeOk5 _ _ _ _ _));generalize htd:([hd0,Value.ref L,Value.none,rawInt L,Value.none] ++ (if pl.isEmpty then List.replicate 6 Value.none else pl)).toArray=td;have t3:3<td.size:=by
  rw[<- htd];simp only[Vt,Vq,VU,WY];lk
 generalize hob:({ cls:=.type "traceback",dict:=none,data:=.fields td }:Obj)=ob;have JN:ob.data=.fields td:=by rw[<- hob]
 have Oj:ob.isFreed=false:=by rw[<- hob];rfl
 have e2:=Vo ob e1;refine wpAny_setField e2 hd hs ?_;have nT:h1.objs.size≠e:=Xf (Vx e1);have d3:=Obj.data_mapFields hd (·.setIfInBounds 1 (Value.ref h1.objs.size));have e3:=VZ (Obj.mapFields (·.setIfInBounds 1 (Value.ref h1.objs.size))) e2 (Obj.isFreed_of_fields d3);have T3:((h1.push ob).update e (Obj.mapFields (·.setIfInBounds 1 (Value.ref h1.objs.size)))).get? h1.objs.size=some ob:=by
  rw[VN _ _ (Ne.symm nT)];exact VF h1 Oj
 unfold setFlight;refine wpAny_bind (wpAny_field e3 d3 (x:=.ref h1.objs.size) (by simp[hs]) ?_);rw[if_pos (by simp)];have d4:=Obj.data_mapFields JN (·.setIfInBounds 3 ((none:Option Addr).elim Value.none λf=>rawInt f));refine wpAny_setField T3 JN t3 (h _ h1.objs.size ⟨_,_,?_,Obj.cls_mapFields _ _,?_,d3,by simp,by simp[hs]⟩ ?_ ⟨_,_,VZ _ T3 (Obj.isFreed_of_fields d4),d4,?_⟩ (λb o q n1 n2=>?_) λb o q n1=>?_);rw[VN _ _ nT];exact e3;obtain⟨c0,d0,JO,s0⟩:=oe;cases JO<;>first|rfl|cases hd
 rw[Oh];exact Vp _;simp[t3];have q1:h1.get? b=some o:=by rw[JM b n2];exact q
 rw[VN _ _ (Xf (Vx q1)),VN _ _ (Ne.symm n1)];exact Vo _ q1;obtain⟨sl,q1⟩:=Oi b o q;refine⟨sl,?_⟩;rw[VN _ _ (Xf (Vx q1)),VN _ _ (Ne.symm n1)];exact Vo _ q1
def noted{base:Heap}{env:Env}{outer:List Env}{L e:Addr}{oe:Obj}{vs:Array Value}{Q:Unit->Shared->Prop}(hfr:A.frames=some (env :: outer))(hl:s.heap.FunFrames base (env :: outer))(hf:env.frame=some L)
  (he:s.heap.get? e=some oe) (hd:oe.data=.fields vs) (ht:vs[1]?=some .none\/∃T oT ts,vs[1]?=some (.ref T)/\T≠e/\s.heap.get? T=some oT/\oT.data=.fields ts/\ts[3]?=some .none)
  (h:∀h' T,Aa (frs (env :: outer)) e oe vs T s.heap h'->Q () { s with heap:=h' }):wpAny M A (noteFrame (.ref e) env) (λ_ s'=>wpAny M A (setFlight (.ref e) none) Q E s') E s:=by
 unfold noteFrame;simp only[hf];rcases ht with h1|⟨T0,oT,ts,h1,nT,hT,dT,h3⟩
 refine wpAny_bind (wpAny_field he hd h1 ?_);rw[if_neg ∅];refine JL hfr hl hf he hd (Wy.mp h1).1 λh' T a1 a2 a3 a4 a5=>h h' T ⟨a1,a2,a3,λb o q n1 _ n3=>a4 b o q n1 n3,λb o q n1 _=>a5 b o q n1,λb _ z=>by rw[h1]at z;cases z⟩;refine wpAny_bind (wpAny_field he hd h1 ?_);rw[if_pos (by simp)];refine wpAny_bind (wpAny_field hT dT h3 ?_);rw[if_neg (by simp[rawInt])];refine wpAny_bind (wpAny_setField hT dT (Wy.mp h3).1 ?_);have d2:=Obj.data_mapFields dT (·.setIfInBounds 3 Value.none);have T2:=VZ (Obj.mapFields (·.setIfInBounds 3 Value.none)) hT (Obj.isFreed_of_fields d2);have rS:∀b,b≠T0->(s.heap.update T0 (Obj.mapFields (·.setIfInBounds 3 Value.none))).get? b=s.heap.get? b:=λb n=>VN _ _ (Ne.symm n);have rec':∀b o,s.heap.get? b=some o->(∀ws,o.data≠.fields ws)->b≠T0:=λb o q n z=>by rw[z,hT]at q;cases q;exact n ts dT
 have Ol:(ts.setIfInBounds 3 Value.none)[3]?=some .none:=by simp[(Wy.mp h3).1]
 have Om:T0 ∉ frs (env :: outer):=λz=>by
  obtain⟨_,o,q,nf⟩:=hl.mem z;rw[hT]at q;cases q;exact nf ts dT
 refine JL hfr (hl.of_keeps λb o q n=>⟨o,by rw[rS b (rec' b o q n)];exact q,rfl⟩) hf (by rw[rS e (Ne.symm nT)];exact he) hd (Wy.mp h1).1 λh' T a1 a2 a3 a4 a5=>h h' T ⟨a1,?_,a3,λb o q n1 n2 n3=>?_,λb o q n1 n2=>?_,λb n1 z=>?_⟩;have z:=a2;dsimp only at z;rw[Heap.size_after_update]at z;exact z;have nb:b≠T0:=λz=>n2 (by rw[z];exact h1);exact a4 b o (by dsimp only;rw[rS b nb];exact q) n1 n3;have nb:b≠T0:=λz=>n2 (by rw[z];exact h1);exact a5 b o (by dsimp only;rw[rS b nb];exact q) n1;rw[h1]at z;cases z;exact⟨_,_,a4 T0 _ T2 n1 Om,d2,Ol⟩
end
abbrev vL:Option Addr->Value
 |none=>.none
 |some T=>.ref T
abbrev XO(a C:Addr)(dx tr:Option Addr):HO:=.ext λh=>∃o vs,h.get? a=some o/\o.cls=.ref C/\o.dict=dx/\o.data=.fields vs/\vs[1]?=some (vL tr)
abbrev XT(T:Addr):HO:=.ext λh=>∃o ts,h.get? T=some o/\o.data=.fields ts/\ts[3]?=some .none
abbrev Exc(H:Hp)(a C:Addr)(dx:Option Addr):Prop:=∃tr,H a=some (XO a C dx tr)/\∀T,tr=some T->T≠a/\H T=some (XT T)
abbrev XS(a:Addr)(H H':Hp):Prop:=(∃C dx tr vM,H a=some (XO a C dx tr)/\H' a=some (XO a C dx vM))/\∀b,b≠a->∀o,H b=some o->H' b=some o
section
variable {P:Program}{w:World}{H H' H2:Hp}{h h':Heap}{a C T:Addr}{dx tr:Option Addr}{o:HO}
def XO.ok(e:∃o vs,h.get? a=some o/\o.cls=.ref C/\o.dict=dx/\o.data=.fields vs/\vs[1]?=some (vL tr)):bq P w H h a (XO a C dx tr) :=
 ⟨e,let ⟨o,_,q,_⟩:=e;⟨o,q⟩,λh1 h2 ⟨o,vs,q,r⟩ k=>⟨o,vs,k o q,r⟩⟩
def XT.ok(e:∃o ts,h.get? T=some o/\o.data=.fields ts/\ts[3]?=some .none):bq P w H h T (XT T) :=
 ⟨e,let ⟨o,_,q,_⟩:=e;⟨o,q⟩,λh1 h2 ⟨o,vs,q,r⟩ k=>⟨o,vs,k o q,r⟩⟩
def XO.of(ok:gO P w H h)(e:H a=some (XO a C dx tr)):∃o vs,h.get? a=some o/\o.cls=.ref C/\o.dict=dx/\o.data=.fields vs/\vs[1]?=some (vL tr):=(ok a _ e).1
def XT.of(ok:gO P w H h)(e:H T=some (XT T)):∃o ts,h.get? T=some o/\o.data=.fields ts/\ts[3]?=some .none:=(ok T _ e).1
def bq.there(x:bq P w H h a o):∃ob,h.get? a=some ob:=by
 cases o with
 |lst xs=>obtain⟨_,_,_,_,e⟩:=x;exact⟨_,e⟩
 |tup xs=>obtain⟨_,_,_,_,e,_⟩:=x;exact⟨_,e⟩
 |dK kvs=>obtain⟨_,_,_,_,o,_,_,e,_⟩:=x;exact⟨_,e⟩
 |dT kvs=>obtain⟨_,_,_,_,o,_,_,e,_⟩:=x;exact⟨_,e⟩
 |set S n=>obtain⟨o,_,_,_,e,_⟩:=x;exact⟨_,e⟩
 |ins C dx fs=>obtain⟨_,_,_,e,_⟩:=x;exact⟨_,e⟩
 |own y=>obtain⟨_,e⟩:=x;exact⟨_,e⟩
 |xd fs=>obtain⟨_,⟨_,_,_,e,_⟩,_⟩:=x;exact⟨_,e⟩
 |gI lo hi=>obtain⟨_,_,_,e⟩:=x;exact⟨_,e⟩
 |k6 ob u=>obtain⟨e,_⟩:=x;exact⟨_,e⟩
 |sI ps=>exact⟨_,(show h.get? a=some _ from x)⟩
 |met f y=>exact⟨_,(show h.get? a=some _ from x)⟩
 |ext φ=>obtain⟨_,e,_⟩:=x;exact e
def gO.none_of(ok:gO P w H h)(e:h.get? a=none):H a=none:=by
 cases q:H a with
 |none=>rfl
 |some o=>obtain⟨ob,z⟩:=(ok a o q).there;rw[e]at z;cases z
def XO.inj{C':Addr}{yt vM:Option Addr}(e:XO a C dx tr=XO a C' yt vM):C=C'/\dx=yt:=by
 have q:(λh:Heap=>∃o vs,h.get? a=some o/\o.cls=.ref C/\o.dict=dx/\o.data=.fields vs/\vs[1]?=some (vL tr))=(λh:Heap=>∃o vs,h.get? a=some o/\o.cls=.ref C'/\o.dict=yt/\o.data=.fields vs/\vs[1]?=some (vL vM)):=by
  unfold XO at e;injection e
 let ob:Obj:={ cls:=.ref C,dict:=dx,data:=.fields #[.none,vL tr] }
 let h0:Heap:={ objs:=Array.replicate (a+1) ob }
 have e0:h0.get? a=some ob:=by
  refine Heap.get?_some_iff.mpr ⟨?_,rfl⟩;simp[h0]
 have z:=(congrFun q h0).mp ⟨ob,_,e0,rfl,rfl,rfl,rfl⟩;obtain⟨o',vs,e1,e2,e3,_⟩:=z;rw[e0]at e1;cases e1;exact⟨Value.ref.inj e2,e3⟩
def XS.trans(x:XS a H H')(y:XS a H' H2):XS a H H2:=by obtain⟨⟨C,dx,tr,U7,e1,e2⟩,k⟩:=x;obtain⟨⟨C',yt,Oo,Oq,e3,e4⟩,k'⟩:=y;rw[e2]at e3;obtain⟨rfl,rfl⟩:=XO.inj (Vu e3);exact⟨⟨C,dx,tr,Oq,e1,e4⟩,λb n o q=>k' b n o (k b n o q)⟩
end
section
variable {X:Cx}{pins:List (Addr×Obj)}{σ:St}{H:Hp}{s:Shared}{a C:Addr}{dx:Option Addr}
def Inv.noted{A:Around}{E:Value->Shared->Prop}{Q:Unit->Shared->Prop}(I:Inv X pins σ H s)(hst:X.stack=X.env :: X.outer)(hf:X.env.frame=some X.env.locals)(hA:A.frames=some X.stack)(x:Exc H a C dx)
  (h:∀h' H',XS a H H'->Exc H' a C dx->Inv X pins σ H' { s with heap:=h' }->Q () { s with heap:=h' }) :
  wpAny (model X.prog X.w) A (noteFrame (.ref a) X.env) (λ_ s'=>wpAny (model X.prog X.w) A (setFlight (.ref a) none) Q E s') E s:=by
 obtain⟨tr,ea,et⟩:=x;obtain⟨oe,vs,he,hc,hdx,hd,h1⟩:=XO.of I.hok ea;have Ab:∀b,H b=none->vs[1]?≠some (.ref b):=λb nb z=>by
  rw[h1]at z;cases tr with
  |none=>cases z
  |some T=>cases z;rw[(et _ rfl).2]at nb;cases nb
 have rT:∀b,H b=none->b≠a:=λb nb z=>by rw[z,ea]at nb;cases nb
 refine L2.noted (by rw[hA,hst]) (hst ▸ I.stack) hf he hd ?_ λh' T N=>?_;cases tr with
 |none=>exact .inl h1
 |some T=>obtain⟨oT,ts,q1,q2,q3⟩:=XT.of I.hok (et T rfl).2;exact .inr ⟨T,oT,ts,h1,(et T rfl).1,q1,q2,q3⟩
 have HT:H T=none:=I.hok.fresh N.new;have Ta:T≠a:=rT T HT;have gT:∀b o,s.heap.get? b=some o->b≠T:=λb o q=>VS (VW (Vx q) N.new)
 let H':Hp:=upd (upd H a (XO a C dx (some T))) T (XT T)
 have Hb:∀b,b≠a->∀o,H b=some o->H' b=some o:=λb n o q=>by
  show upd (upd H a _) T _ b=_;rw[cL (λz=>by rw[z,HT]at q;cases q),cL n];exact q
 have Ha:H' a=some (XO a C dx (some T)):=by
  show upd (upd H a _) T _ a=_;rw[cL (Ne.symm Ta),kM]
 have JP:H' T=some (XT T):=kM;have Hn:∀b o,s.heap.get? b=some o->H b=none->H' b=none:=λb o q n=>by
  show upd (upd H a _) T _ b=_;rw[cL (gT b o q),cL (rT b n)];exact n
 have xs:XS a H H':=⟨⟨C,dx,tr,some T,ea,Ha⟩,Hb⟩;have o6:∀b u,H b=some u->(∀φ,u≠.ext φ)->b≠a:=λb u q n z=>by rw[z,ea]at q;cases q;exact n _ rfl
 have un:Un (frs X.stack) [] H H' s.heap h':=by
  rw[hst]
  refine⟨λb o q n1 n2 _=>N.keep b o q (rT b n1) (Ab b n1) n2,λb o q n1 _ _=>N.slot b o q (rT b n1) (Ab b n1),λb o q n _=>Hn b o q n,λb o q _=>?_,
   λb xs q=>Hb b (o6 b _ q λφ z=>nomatch z) _ q,λb o u q=>Hb b (o6 b _ q λφ z=>nomatch z) _ q,λb ps q=>⟨#[],by rw[WZ];exact Hb b (o6 b _ q λφ z=>nomatch z) _ q⟩⟩
  by_cases n1:b=a;subst n1;obtain⟨o',_,q',_⟩:=N.exc;exact⟨o',q'⟩;by_cases n2:vs[1]?=some (.ref b);obtain⟨o',_,q',_⟩:=N.old b n1 n2;exact⟨o',q'⟩;obtain⟨sl,q'⟩:=N.slot b o q n1 n2;exact⟨_,q'⟩
 have hok:gO X.prog X.w H' h':=λb u q=>by
  by_cases n0:b=T;subst n0;rw[JP]at q;cases q;exact XT.ok N.head;by_cases n1:b=a;subst n1;rw[Ha]at q;cases q;obtain⟨o',ws,p1,p2,p3,p4,p5,p6⟩:=N.exc;exact XO.ok ⟨o',ws,p1,by rw[p2];exact hc,by rw[p3];exact hdx,p4,p6⟩;have qb:H b=some u:=by
   have z:upd (upd H a (XO a C dx (some T))) T (XT T) b=some u:=q;rw[cL n0,cL n1]at z;exact z
  by_cases n2:vs[1]?=some (.ref b);rw[h1]at n2;cases tr with
  |none=>cases n2
  |some T0 =>
   cases n2;rw[(et b rfl).2]at qb;cases qb;exact XT.ok (N.old b n1 h1)
  have JQ:∀c v,H c=some v->c ∉ frs X.stack:=λc v z y=>by rw[I.lL c y]at z;cases z
  refine(I.hok b u qb).stay (λc v hc' r=>?_) (λc r=>Hb c (o6 c _ r λφ z=>nomatch z) _ r) λc xs r=>Hb c (o6 c _ r λφ z=>nomatch z) _ r;rcases hc' with rfl|hc'
  exact N.keep c v r n1 n2 (hst ▸ JQ c u qb);refine N.keep c v r (o6 c _ hc' λφ z=>nomatch z) (λz=>?_) (hst ▸ JQ c _ hc');rw[h1]at z;cases tr with
  |none=>cases z
  |some T0=>cases z;rw[(et c rfl).2]at hc';cases hc'
 exact h h' H' xs ⟨some T,Ha,λT' e=>by cases e;exact⟨Ta,JP⟩⟩ (I.call (ch:=[]) un hok I.bare λb z=>absurd z (by simp))
abbrev rV(P:Program)(w:World):nH:=λouter H s E e s'=>∃a C dx H',e=.ref a/\s'.os=s.os/\AllBare s'.gens/\Un (frs outer) [] H H' s.heap s'.heap/\gO P w H' s'.heap/\Exc H' a C dx/\∀vN,XS a H' vN->E (.ref a) none vN
end
section
variable {P:Program}{w:World}{K:Zfr}{mg:Str->Option Value}{base:Heap}{N:List Str}{qual:Str}{scope:Scope}{f:Addr}{cd:Value}{A:Around}{outer:List Env}{s0:Shared}{H0:Hp}{E:XK}
def leave{pins:List (Addr×Obj)}{σ:St}{H:Hp}{s:Shared}{a C:Addr}{dx:Option Addr}(I:Inv (dP (rV P w) P w K mg base N qual scope f cd A outer s0 H0 E) pins σ H s)(x:Exc H a C dx)(h:∀vN,XS a H vN->E (.ref a) none vN):
  (dP (rV P w) P w K mg base N qual scope f cd A outer s0 H0 E).xe (.ref a) s:=by
 show wpAny _ _ («leaving» _ (.ref a)) _ _ s;unfold «leaving»;refine wpAny_bind (Inv.noted I rfl rfl I.ok.frames x λh' H' xs x' I'=>?_);exact⟨a,C,dx,H',rfl,I'.os,I'.bare,I'.base,I'.hok,x',λvN y=>h vN (xs.trans y)⟩
end
section
variable {X:Cx}{pins:List (Addr×Obj)}{σ:St}{H:Hp}{s:Shared}{a C:Addr}{dx:Option Addr}
def Inv.vO{h':Heap}{o:HO}(I:Inv X pins σ H s)(kp:∀b u,s.heap.get? b=some u->h'.get? b=some u)(hn:s.heap.get? a=none)(new:bq X.prog X.w (upd H a o) h' a o):Inv X pins σ (upd H a o) { s with heap:=h' }:=by
 have Ha:H a=none:=I.hok.none_of hn;have ne:∀b u,H b=some u->b≠a:=λb u q=>uT q Ha;have up:∀b u,H b=some u->upd H a o b=some u:=λb u q=>by rw[cL (ne b u q)];exact q
 have hok:gO X.prog X.w (upd H a o) h':=λb u q=>by
  by_cases hb:b=a;subst hb;rw[kM]at q;cases q;exact new;rw[cL hb]at q;exact(I.hok b u q).stay (λc v _ r=>kp c v r) (λc r=>up c _ r) λc xs r=>up c _ r
 have un:Un (frs X.stack) [] H (upd H a o) s.heap h' :=
  ⟨λb u q _ _ _=>kp b u q,λb u q _ _ _=>⟨u.slots,kp b u q⟩,λb u q n _=>by rw[cL (λz=>by rw[z,hn]at q;cases q)];exact n,λb u q _=>⟨u,kp b u q⟩,λb xs q=>up b _ q,λb x y q=>up b _ q,λb ps q=>⟨#[],by rw[WZ];exact up b _ q⟩⟩
 exact I.call (ch:=[]) un hok I.bare λb z=>absurd z (by simp)
def Inv.flight{M:Model}{A:Around}{E:Value->Shared->Prop}{Q:Unit->Shared->Prop}(I:Inv X pins σ H s)(x:Exc H a C dx)(h:∀h',Inv X pins σ H { s with heap:=h' }->Q () { s with heap:=h' }):wpAny M A (setFlight (.ref a) none) Q E s:=by
 obtain⟨tr,ea,et⟩:=x;obtain⟨oe,vs,he,hc,hdx,hd,h1⟩:=XO.of I.hok ea;cases tr with
 |none =>
  unfold setFlight;refine wpAny_bind (wpAny_field he hd h1 ?_);exact wpAny_pure (h s.heap I)
 |some T =>
  obtain⟨Ta,eT⟩:=et T rfl;obtain⟨oT,ts,q1,q2,q3⟩:=XT.of I.hok eT;have lt:3<ts.size:=(Wy.mp q3).1;have d2:=Obj.data_mapFields q2 (·.setIfInBounds 3 Value.none);have T2:=VZ (Obj.mapFields (·.setIfInBounds 3 Value.none)) q1 (Obj.isFreed_of_fields d2);have rS:∀b u,b≠T->s.heap.get? b=some u->(s.heap.update T (Obj.mapFields (·.setIfInBounds 3 Value.none))).get? b=some u:=λb u n q=>by rw[VN _ _ (Ne.symm n)];exact q
  have nT:∀b,H b=none->b≠T:=λb n z=>by rw[z,eT]at n;cases n
  refine wpAny_setFlight_none he hd h1 q1 q2 lt (h _ (I.call (ch:=[]) ⟨λb u q n _ _=>rS b u (nT b n) q,λb u q n _ _=>⟨u.slots,rS b u (nT b n) q⟩,λb u q n _=>n,λb u q _=>?_,λ_ _ q=>q,λ_ _ _ q=>q,λb ps q=>⟨#[],by rw[WZ];exact q⟩⟩ ?_ I.bare λb z=>absurd z (by simp)));by_cases z:b=T;subst z;exact⟨_,T2⟩;exact⟨u,rS b u z q⟩;intro b u q;by_cases z:b=T;subst z;rw[eT]at q;cases q;exact XT.ok ⟨_,_,T2,d2,by simp[lt]⟩;refine(I.hok b u q).stay (λc v hc' r=>rS c v ?_ r) (λc r=>r) λc xs r=>r;rcases hc' with rfl|hc'
  exact z;rintro rfl;rw[eT]at hc';cases hc'
end
@[reducible]def Cx.tr(X:Cx)(pins:List (Addr×Obj))(W:St->Addr->Hp->Prop):Cx :=
 { X with pn:=X.pn ++ pins,xe:=λe s=>∃σ H a C dx,e=.ref a/\Inv X pins σ H s/\Exc H a C dx/\∀H2,XS a H H2->W σ a H2 }
@[reducible]def Cx.held(X:Cx)(a:Addr):Cx:={ X with A:=X.A.mark (some (.ref a)),calm:=false,xe:=λ_ _=>False }
section
variable {X:Cx}{pins:List (Addr×Obj)}{σ:St}{H:Hp}{s:Shared}{W:St->Addr->Hp->Prop}{a:Addr}
def Cx.Ok.tr(ok:X.Ok):(X.tr pins W).Ok:=⟨ok.mod,ok.kind,ok.glob,ok.blt,ok.above,ok.inj,ok.has,ok.sJ,ok.hd,ok.frames,ok.stk,ok.y9,ok.bs,ok.pz,ok.mK,ok.nD,ok.iQ,ok.qX⟩
def Cx.Ok.jW(ok:(X.tr pins W).Ok):X.Ok:=⟨ok.mod,ok.kind,ok.glob,ok.blt,ok.above,ok.inj,ok.has,ok.sJ,ok.hd,ok.frames,ok.stk,ok.y9,ok.bs,ok.pz,ok.mK,ok.nD,ok.iQ,ok.qX⟩
def Inv.tr(I:Inv X pins σ H s):Inv (X.tr pins W) [] σ H s:=⟨I.ok.tr,I.os,I.bare,I.base,I.loc,I.cell,I.free,I.eM,λp hp=>I.pin p (by rw[V7]at hp;exact hp),I.hok,I.len⟩
def Inv.jW{jP:List (Addr×Obj)}(I:Inv (X.tr pins W) jP σ H s):Inv X pins σ H s:=⟨I.ok.jW,I.os,I.bare,I.base,I.loc,I.cell,I.free,I.eM,λp hp=>I.pin p (V1 _ hp),I.hok,I.len⟩
def SP.jW{jP:List (Addr×Obj)}{D:Ends}{f:Flow}{s':Shared}(h:SP (X.tr pins W) jP D f s'):SP X pins D f s':=by
 cases f with
 |next=>obtain⟨σ',H',I,q⟩:=h;exact⟨σ',H',I.jW,q⟩
 |brk=>obtain⟨σ',H',I,q⟩:=h;exact⟨σ',H',I.jW,q⟩
 |cont=>obtain⟨σ',H',I,q⟩:=h;exact⟨σ',H',I.jW,q⟩
 |ret u=>obtain⟨v,σ',H',I,r,q⟩:=h;exact⟨v,σ',H',I.jW,r,q⟩
def Cx.Ok.held(ok:X.Ok):(X.held a).Ok:=⟨ok.mod,ok.kind,ok.glob,ok.blt,ok.above,ok.inj,ok.has,ok.sJ,λz=>(by cases z),ok.frames,ok.stk,ok.y9,ok.bs,ok.pz,ok.mK,ok.nD,ok.iQ,ok.qX⟩
def Inv.held(I:Inv X pins σ H s):Inv (X.held a) pins σ H s:=⟨I.ok.held,I.os,I.bare,I.base,I.loc,I.cell,I.free,I.eM,I.pin,I.hok,I.len⟩
def Inv.lU(ok:X.Ok)(I:Inv (X.held a) pins σ H s):Inv X pins σ H s:=⟨ok,I.os,I.bare,I.base,I.loc,I.cell,I.free,I.eM,I.pin,I.hok,I.len⟩
end
abbrev qj(sp:Sp)(W:St->Addr->Hp->Prop)(t:TA):TE:=λσ H Q=>t σ H λvs H1=>sp vs H1 Q λu _ H2=>∃a,u=.ref a/\W σ a H2
section
variable {X:Cx}{k:Nat}{f:Addr}{fd:FuncData}{ps:List Str}{sp:Sp}{x:Str}{p pos:Pos}{e:Expr}{es:List Expr}{t:TA}{pins:List (Addr×Obj)}{W:St->Addr->Hp->Prop}
def Ot(F:aC X.prog X.w X.K X.mg X.base (rV X.prog X.w) k f fd ps sp)(hr:cM k X.A)(hg:Gl X x)(hm:X.mg x=some (.ref f))(hk:PySem.W.keepIn X.K (.ref f)=true)(hb:Binds X.K fd ps [])
  (ha:PA (X.tr pins W) (e :: es) t) (hdb:(x == ("__debug__" : Str))=false:=by decide) (he:starEach (e :: es) X.env=(false,eval e X.env) :: starEach es X.env:=by rfl) (hpl:(backTo pos (starEach es X.env)).any (·.1)=false:=by rfl) :
  PE (X.tr pins W) (.Call (.Name x p) (e :: es) [] pos) (qj sp W t):=by
 intro jP s σ H Q I h;refine wpAny_Call_Name_kw (zd I hg hm ?_ hdb);refine PySem.W.callWith_K (h₀:=X.base) I.ok.mod.y8 hk (bM (ha pos jP s σ H _ I h) λus s1 ⟨vs,H1,I1,r,q⟩=>⟨I1.og,?_⟩) he hpl;have hl:us.length=ps.length:=by rw[<- r.length];exact F.len _ _ _ _ q
 have hbd:=hb s1 us I1.og (by rw[V7];exact hl);rw[V7]at hbd;refine wpAny_call (codeAny_mono (F.run X.A X.stack s1 H1 ⟨us,[]⟩ us vs Q _ hr I1.vd hbd r q) λr s' hq=>?_);cases r with
 |error e =>
  obtain⟨a,C,dx,H',rfl,os,bare,un,hok,x,hw⟩:=hq;refine⟨σ,H',a,C,dx,rfl,(I1.sL os un hok bare λb z=>absurd z (by simp)).jW,x,λH2 y=>?_⟩;obtain⟨a',ea,w⟩:=hw H2 y;cases ea;exact w
 |ok fl =>
  cases fl with
  |ret u=>exact I1.after hq
  |next=>exact False.elim hq
  |brk=>exact False.elim hq
  |cont=>exact False.elim hq
end
end L2
namespace L2
open PySem PySem.Spec PyProof.Rows PySem.W
structure JR(K:Frag)(C:Addr):Prop where
 ga:findIn K (.ref C) "__getattribute__" = some (some (.builtin "BaseException.__getattribute__"))
 gt:findIn K (.ref C) "__getattr__" = some none
 hd:hasDictIn K C=true
 bx:mroIn K C (.type "BaseException")=some true
 ob:mroIn K C (.type "object")=some true
 cl:findIn K (.ref C) "__class__" = some (some (.builtin "object.__class__"))
 gs:specialIn K (.builtin "object.__class__") "__get__" = some (some (.builtin "getset_descriptor.__get__"))
 tk:takesIn K (.builtin "object.__class__")=some true
end L2
namespace L2
open PySem PySem.Spec PyProof.Rows
end L2
namespace L2
open PySem PySem.Spec PyProof.Rows PySem.W PySem.Builtin PySem.Builtin.ObjectAttr
abbrev Ou:List Value:=[.type "ValueError",.type "Exception",.type "BaseException",.type "object"]
abbrev oA:List Value->Bool
 |[]=>false
 |v :: r=>(v :: r) == Ou || (match v with|.ref _=>oA r|_=>false)
def JS(self:Value):∀{l:List Value},oA l=true->refuseLoop self "__setattr__" l=pure ()/\l.contains (.type "object")=true
 |[],e=>by cases e
 |v :: r,e=>by
  unfold oA at e;rcases Bool.or_eq_true_iff.mp e with e|e
  ·rw[beq_iff_eq.mp e];exact⟨PySem.F.store_ValueError.passes self,by decide +kernel⟩
  ·split at e
   ·next c =>
    obtain⟨h1,h2⟩:=JS self (l:=r) e;exact⟨by rw[refuseLoop_ref];exact h1,by rw[Xg,h2,Bool.or_true]⟩
   ·cases e
structure rh(K:Frag)(C:Addr):Prop where
 sa:findIn K (.ref C) "__setattr__" = some (some (.builtin "object.__setattr__"))
 hd:hasDictIn K C=true
 po:(clsIn K C).any (λcd=>oA cd.mro)=true
section
variable {prog:Program}{w:World}{A:Around}{E:Value->Shared->Prop}{s:Shared}{K:Frag}{a C:Addr}{ox:Obj}{odo:Option Obj}{name:Str}{v:Value}
def JT{R:Result->Shared->Prop}{tk:Tok}(X:K.In s.heap)(I:InstAt s.heap a ox C odo)(e:rh K C)(ht:takerIn K C name=some none)
  (h:∀b,wpAny (model prog w) A.in1 (storeInOwnDict (.ref a) (.ref C) (.str name tk) name v b)
   (λfin s'=>match fin with|.done f=>R (.ok f) s'|.again c'=>c'.quiet=true/\codeAny (model prog w) A c' R s') (λe s'=>R (.error e) s') s) :
  codeAny (model prog w) A (.call (.builtin "object.__setattr__") ⟨[.ref a,.str name tk,v],[]⟩) R s:=by
 have SF:=PySem.F.store_object;obtain⟨cd,hc,ho⟩:=any_some e.po;obtain⟨o1,o2⟩:=JS (.ref a) ho;have ne:cd.mro.isEmpty=false:=by
  cases q:cd.mro with
  |nil=>rw[q]at ho;cases ho
  |cons _ _=>rfl
 have sub:Looks (model prog w) s.heap (isInstance (.ref a) (.type "object")) true:=I.type.andThen (looks_mroIn X (by unfold mroIn;rw[hc,WJ,if_neg (by rw[ne];decide),o2]));refine codeAny_call_builtin SF.slot.plain SF.entry (@check_slot (model prog w) _ _ s "object.__setattr__" "object" "__setattr__" (.ref a) [.str name tk,v] [] _ SF.kind SF.split sub (SF.args (.ref a) (.str name tk) v) ?_);obtain⟨attr,ha,hr⟩:=Wd.mp ht;have LM:Looks (model prog w) s.heap (mroOf (.ref C)) cd.mro:=(looks_clsIn X hc).andThen .now;have LT:Looks (model prog w) s.heap (storeTaker? attr) none:=by
  cases attr with
  |none=>exact .now
  |some u =>
   obtain⟨b,hb,hn⟩:=VR.mp hr;cases b with
   |true=>cases hn
   |false=>exact(looks_takesIn X hb).andThen .now
 rw[osa_eq,refuse_eq];refine wpAny_bind (wpAny_bind (I.type.here (wpAny_bind (LM.here ?_))));rw[o1];exact wpAny_pure (wpAny_bind (I.type.here (wpAny_bind ((looks_findIn X ha).here (wpAny_bind (LT.here (h _)))))))
def Ov{Q:Unit->Shared->Prop}(X:K.In s.heap)(hx:s.heap.get? a=some ox)(hc:ox.cls=.ref C)(hdx:ox.dict=none){vs:Array Value}(hdt:ox.data=.fields vs)(e:rh K C)(ht:takerIn K C name=some none)
  (h:∀h' d tk,s.heap.objs.size<=d->h'.get? a=some { ox with dict:=some d }->h'.Ns1 d (λy=>if y=name then some v else none)->(∀b o,b≠a->s.heap.get? b=some o->h'.get? b=some o)->Q () { s with heap:=h',toks:=tk }) :
  wpAny (model prog w) A (setAttr (.ref a) name v) Q E s:=by
 obtain⟨oc,od,Ow,osl⟩:=ox;dsimp only at hc hdx hdt;subst hc hdx hdt;have J:InstAt s.heap a ⟨.ref C,none,.fields vs,osl⟩ C none:=⟨hx,rfl,rfl,trivial⟩;refine set_plain X J e.sa (JT (s:={ s with toks:=s.toks+1 }) X J e ht λb=>?_);obtain⟨cd,hcd,hd'⟩:=any_some e.hd;refine wpAny_bind (wpAny_pure (wpAny_bind (wpAny_bind (wpAny_loadPart hx (wpAny_bind (Looks.here (s:={ s with toks:=s.toks+1 }) (looks_clsIn X hcd) ?_))))));rw[hd',if_neg ∅];dsimp only;rw[if_neg (by simp[typeHasDict])];have x1:(s.heap.push { cls:=.type "dict",data:=.dict #[] }).get? a=some ⟨.ref C,none,.fields vs,osl⟩:=Vo _ hx;have ns:a≠s.heap.objs.size:=VS (Vx hx);refine wpAny_bind (wpAny_alloc' (wpAny_bind (wpAny_update' x1 (wpAny_pure ?_))));have gd:((s.heap.push { cls:=.type "dict",data:=.dict #[] }).update a λo=>{ cls:=o.cls,dict:=some s.heap.objs.size,data:=o.data,slots:=o.slots }).get? s.heap.objs.size=some { cls:=.type "dict",data:=.dict #[] } :=
  (Heap.get?_update_ne _ _ _ _ ns.symm).trans (Heap.get?_push_at rfl rfl)
 have nd:((s.heap.push { cls:=.type "dict",data:=.dict #[] }).update a λo=>{ cls:=o.cls,dict:=some s.heap.objs.size,data:=o.data,slots:=o.slots }).Ns s.heap.objs.size (λ_=>none) :=
  ⟨_,#[],_,gd,rfl,λe he=>absurd he (by simp),λ_=>rfl⟩
 show wpAny _ _ (storeInDict s.heap.objs.size (.str name s.toks) name v) _ _ _;unfold storeInDict newKeyGuard;refine wpAny_bind (wpAny_pure (wpAny_bind (wpAny_nsSet1 (Heap.Ns1.of_empty nd) λh' hn hs=>?_)));obtain⟨oD,esD,Ox,Gn,Gp,Gq⟩:=hn.count (Within.cons name v Within.nil);refine wpAny_bind (wpAny_lookBehind Gn (by rw[Gp];exact pastItsLine_dict (VH Gq (by rw[VU,WY,sizeLine_eq];lk))) ?_);refine wpAny_pure (h h' s.heap.objs.size _ (Vp _) ((hs.2 a ns).trans (VZ _ x1 rfl)) hn λb o nb q=>?_);exact(hs.2 b (VS (Vx q))).trans ((Heap.get?_update_ne _ _ _ _ nb).trans (Vo _ q))
def Oy{Q:Unit->Shared->Prop}{d:Addr}{mA:Str->Option Value}{nms:List Str}(X:K.In s.heap)(hx:s.heap.get? a=some ox)(hc:ox.cls=.ref C)(hdx:ox.dict=some d){vs:Array Value}(hdt:ox.data=.fields vs)(hn:s.heap.Ns1 d mA)(e:rh K C)(ht:takerIn K C name=some none)
  (hw:Within mA nms) (hsz:nms.length+1<=sizeLine) (h:∀h' tk,Heap.SameBut d s.heap h'->h'.Ns1 d (λy=>if y=name then some v else mA y)->Q () { s with heap:=h',toks:=tk }) :
  wpAny (model prog w) A (setAttr (.ref a) name v) Q E s:=by
 obtain⟨oc,od,Ow,osl⟩:=ox;dsimp only at hc hdx hdt;subst hc hdx hdt;obtain⟨odd,es,ep,e1,_⟩:=id hn;have J:InstAt s.heap a ⟨.ref C,some d,.fields vs,osl⟩ C (some odd):=⟨hx,rfl,rfl,e1⟩;refine set_plain X J e.sa (JT (s:={ s with toks:=s.toks+1 }) X J e ht λb=>?_);obtain⟨cd,hcd,hd'⟩:=any_some e.hd;refine wpAny_bind (wpAny_pure (wpAny_bind (wpAny_bind (wpAny_loadPart hx (wpAny_bind (Looks.here (s:={ s with toks:=s.toks+1 }) (looks_clsIn X hcd) ?_))))));rw[hd',if_neg ∅];refine wpAny_pure ?_;show wpAny _ _ (storeInDict d (.str name s.toks) name v) _ _ _;unfold storeInDict newKeyGuard;refine wpAny_bind (wpAny_pure (wpAny_bind (wpAny_nsSet1 (s:={ s with toks:=s.toks+1 }) hn λh' hn2 hs2=>?_)));obtain⟨oD,esD,Ox,Gn,Gp,Gq⟩:=hn2.count (Within.cons name v hw);refine wpAny_bind (wpAny_lookBehind Gn (by rw[Gp];exact pastItsLine_dict (VH Gq (by rw[VU];lk))) ?_);exact wpAny_pure (h h' _ hs2 hn2)
end
abbrev JU(K:Frag)(ta tv:TE)(f:Str):TS:=λD σ H=>tv σ H λy H1=>ta σ H1 λx H2=>∃a C tr,x=.ref a/\rh K C/\takerIn K C f=some none /\
 ((H2 a=some (XO a C none tr)/\∀ d,H2 d=none->d≠a->D.nx σ (upd (upd H2 a (XO a C (some d) tr)) d (.xd [(f,y)]))) \/
   ∃d fs,H2 a=some (XO a C (some d) tr)/\H2 d=some (.xd fs)/\fs.length<=10/\D.nx σ (upd H2 d (.xd ((f,y) :: fs))))
section
variable {X:Cx}{pins:List (Addr×Obj)}{σ:St}{H:Hp}{s:Shared}{a C:Addr}{tr:Option Addr}{f:Str}{y:V}{u:Value}
def JV{fs:List (Str×V)}{mA:Str->Option Value}(r:∀g,mI (fs.lookup g) (mA g))(ry:RelV y u):∀g,mI (((f,y) :: fs).lookup g) (if g=f then some u else mA g):=λg=>by
 rw[Wn];by_cases e:g=f;subst e;rw[if_pos rfl,beq_self_eq_true];exact ry;rw[if_neg e,show(g == f)=false from by simpa using e];exact r g
def Inv.Ac{A:Around}{E:Value->Shared->Prop}{Q:Unit->Shared->Prop}(I:Inv X pins σ H s)(ea:H a=some (XO a C none tr))(e:rh X.K C)(ht:takerIn X.K C f=some none)(ry:RelV y u)
  (h:∀s' d,H d=none->d≠a->Inv X pins σ (upd (upd H a (XO a C (some d) tr)) d (.xd [(f,y)])) s'->Q () s'):wpAny (model X.prog X.w) A (setAttr (.ref a) f u) Q E s:=by
 obtain⟨ox,vs,hx,hc,hdx,hdt,h1⟩:=XO.of I.hok ea;refine Ov I.og hx hc hdx hdt e ht λh' d tk hd g1 g2 kp=>?_;have Hd:H d=none:=I.hok.fresh hd;have da:d≠a:=λz=>by rw[z,ea]at Hd;cases Hd
 refine h _ d Hd da ?_;have Hb:∀b o,b≠a->H b=some o->upd (upd H a (XO a C (some d) tr)) d (.xd [(f,y)]) b=some o:=λb o n q=>by rw[cL (λz=>by rw[z,Hd]at q;cases q),cL n];exact q
 have o6:∀b o,H b=some o->(∀φ,o≠.ext φ)->b≠a:=λb o q n z=>by rw[z,ea]at q;cases q;exact n _ rfl
 have low:∀b o,s.heap.get? b=some o->b≠d:=λb o q=>VS (VW (Vx q) hd)
 refine I.call (ch:=[]) ⟨λb o q n _ _=>kp b o (λz=>by rw[z,ea]at n;cases n) q,λb o q n _ _=>⟨o.slots,kp b o (λz=>by rw[z,ea]at n;cases n) q⟩,λb o q n _=>?_,λb o q _=>?_,
  λb xs q=>Hb b _ (o6 b _ q λφ z=>by cases z) q,λb o v q=>Hb b _ (o6 b _ q λφ z=>by cases z) q,λb ps q=>⟨#[],by rw[WZ];exact Hb b _ (o6 b _ q λφ z=>by cases z) q⟩⟩ ?_ I.bare λb z=>absurd z (by simp)
 rw[cL (low b o q),cL (λz=>by rw[z,ea]at n;cases n)];exact n;by_cases z:b=a;subst z;exact⟨_,g1⟩;exact⟨o,kp b o z q⟩;intro b o q;by_cases z:b=d;subst z;rw[kM]at q;cases q;exact⟨_,g2,JV (fs:=[]) (λg=>trivial) ry⟩;rw[cL z]at q;by_cases z2:b=a;subst z2;rw[kM]at q;cases q;exact XO.ok ⟨_,vs,g1,hc,rfl,hdt,h1⟩;rw[cL z2]at q;refine(I.hok b o q).stay (λc w' hc' r=>kp c w' ?_ r) (λc r=>Hb c _ (o6 c _ r λφ z=>by cases z) r) λc xs r=>Hb c _ (o6 c _ r λφ z=>by cases z) r;rcases hc' with rfl|hc'
 exact z2;exact o6 c _ hc' λφ z=>by cases z
def Inv.Ad{A:Around}{E:Value->Shared->Prop}{Q:Unit->Shared->Prop}{d:Addr}{fs:List (Str×V)}(I:Inv X pins σ H s)(ea:H a=some (XO a C (some d) tr))(ed:H d=some (.xd fs))(hl:fs.length<=10)(e:rh X.K C)(ht:takerIn X.K C f=some none)(ry:RelV y u)
  (h:∀s',Inv X pins σ (upd H d (.xd ((f,y) :: fs))) s'->Q () s'):wpAny (model X.prog X.w) A (setAttr (.ref a) f u) Q E s:=by
 obtain⟨ox,vs,hx,hc,hdx,hdt,h1⟩:=XO.of I.hok ea;obtain⟨mA,hn,rf⟩:=(show bq X.prog X.w H s.heap d (.xd fs)from I.hok d _ ed);have wi:Within mA (fs.map (·.1)):=λg hg=>by
  cases q:fs.lookup g with
  |some v =>
   have:=PySem.mem_of_lookup q;exact Vy.mpr ⟨(g,v),this,rfl⟩
  |none =>
   have z:=rf g;rw[q]at z;cases m:mA g with
   |none=>exact absurd m hg
   |some w=>rw[m]at z;exact z.elim
 refine Oy I.og hx hc hdx hdt hn e ht wi (by rw[Vl,sizeLine_eq];lk) λh' tk sb hn2=>h _ ?_;have kp:∀b o,b≠d->s.heap.get? b=some o->h'.get? b=some o:=λb o n q=>(sb.2 b n).trans q;have nd:∀b o,H b=some o->(∀ws,o≠.xd ws)->b≠d:=λb o q n z=>by rw[z,ed]at q;cases q;exact n _ rfl
 have Hb:∀b o,H b=some o->(∀ws,o≠.xd ws)->upd H d (.xd ((f,y) :: fs)) b=some o:=λb o q n=>by rw[cL (nd b o q n)];exact q
 obtain⟨od,es,ep,gd,_⟩:=id hn2
 refine I.call (ch:=[]) ⟨λb o q n _ _=>kp b o (λz=>by rw[z,ed]at n;cases n) q,λb o q n _ _=>⟨o.slots,kp b o (λz=>by rw[z,ed]at n;cases n) q⟩,λb o q n _=>by rw[cL (λz=>by rw[z,ed]at n;cases n)];exact n,λb o q _=>?_,
  λb xs q=>Hb b _ q (λws z=>by cases z),λb o v q=>Hb b _ q (λws z=>by cases z),λb ps q=>⟨#[],by rw[WZ];exact Hb b _ q (λws z=>by cases z)⟩⟩ ?_ I.bare λb z=>absurd z (by simp)
 by_cases z:b=d;subst z;exact⟨_,gd⟩;exact⟨o,kp b o z q⟩;intro b o q;by_cases z:b=d;subst z;rw[kM]at q;cases q;exact⟨_,hn2,JV rf ry⟩;rw[cL z]at q;refine(I.hok b o q).stay (λc w' hc' r=>kp c w' ?_ r) (λc r=>Hb c _ r λws z=>by cases z) λc xs r=>Hb c _ r λws z=>by cases z
 rcases hc' with rfl|hc'
 exact z;exact nd c _ hc' λws z=>by cases z
variable {o value:Expr}{ta tv:TE}{pos pos':Pos}
def Oz(ha:PE X o ta)(hv:PE X value tv)(hs:swapsWith value (some (.Attribute o f pos')) pos.line X.env=pure false):PS X (.Assign [.Attribute o f pos'] value pos) (JU X.K ta tv f):=by
 intro pins s σ H D I h;refine plainObj_wpAny_Assign_Attribute (bM (hv pins s σ H _ I h) λu s1 ⟨y,H1,I1,ry,q⟩=>bM (ha pins s1 σ H1 _ I1 q) λov s2 ⟨x,H2,I2,rx,a,C,tr,ex,e,ht,q2⟩=>?_) hs;subst ex;obtain rfl:ov=Value.ref a:=rx;rcases q2 with⟨ea,q2⟩|⟨d,fs,ea,ed,hl,q2⟩
 exact I2.Ac ea e ht ry λs3 d h1 h2 I3=>⟨σ,_,I3,q2 d h1 h2⟩;exact I2.Ad ea ed hl e ht ry λs3 I3=>⟨σ,_,I3,q2⟩
end
end L2
namespace L2
open PySem PySem.Spec PyProof.Rows PySem.W
abbrev iW(K:Frag)(C:Addr)(bmB:List Value)(newId:String)(f:Addr):Bool:=match K.lookup C with
 |some ⟨.type "type",_,.cls cd,sl⟩=>(match cd.mro,sl.toList with
  |.ref C' :: bm,[_,_,_,_,some (.builtin n),_]=>C' == C && n == newId && !cd.hasDel && tailIn K bmB bm && nsOkIn K cd.ns && nsIn K cd.ns "__init__" == some (some (.ref f))
  |_,_=>false)
 |_=>false
def OA{K:Frag}{h:Heap}{N:Addr}{mN:Str->Option Value}{n:Str}{v:Value}(X:K.In h)(G:h.Ns N mN)(e:nsIn K N n=some (some v)):mN n=some v:=by
 obtain⟨o,es,ep,ho,hd,_,hf⟩:=G;unfold nsIn at e;split at e
 ·next c d es' n' sl q =>
  have z:=X _ _ q;rw[ho]at z;cases z;cases hd;split at e
  ·next en he =>
   cases e;rw[<- hf];unfold nsFind findBy;rw[<- Array.find?_toList,he];rfl
  ·split at e<;>cases e
 ·cases e
def JW{K:Frag}{h:Heap}{C f:Addr}{bmB:List Value}{newId:String}(X:K.In h)(q:iW K C bmB newId f=true):
  ∃bm N nm qn bs hdct sn sub ab col dd k0 k1 k2 k3 k5 mN,h.get? C=some (excClassObj nm qn C N bs bm hdct sn sub ab col dd k0 k1 k2 k3 k5 newId)/\h.Ns N mN/\mN "__init__" = some (.ref f)/\OwnTail h bmB bm:=by
 unfold iW at q;split at q
 ·next dd cd sl ho =>
  split at q
  ·next C' bm k0 k1 k2 k3 n k5 hm hs =>
   simp only[VG,beq_iff_eq,Bool.not_eq_true']at q;obtain⟨⟨⟨⟨⟨e1,e2⟩,e3⟩,e4⟩,e5⟩,e6⟩:=q;subst e1 e2;obtain⟨nm,bs,mro,ns,qn,hd,sn,sub,ab,col,del⟩:=cd;obtain⟨l⟩:=sl;dsimp only at hm hs e3 e5 e6;subst hm e3 hs;have G:h.Ns ns (h.nsMap ns):=.of_isNs (isNs_of_in X e5);exact⟨bm,ns,nm,qn,bs,hd,sn,sub,ab,col,dd,k0,k1,k2,k3,k5,_,X _ _ ho,G,OA X G e6,tail_of_in X e4⟩
  ·cases q
 ·cases q
section
variable {prog:Program}{w:World}{A:Around}{E:Value->Shared->Prop}{h:Heap}{g:Array GenState}{d:Drawn}{t:Nat}{os:OsState}
variable {nm q:Str}{C N:Addr}{bs bm bmB:List Value}{hdct:Bool}{sn:List Str}{sub:List Value}{ab:Bool}{col:Option Bool}{dd:Option Addr}{k0 k1 k2 k3 k5:Option Value}{B newId initId:String}
def OB(F:ExcBaseFacts B newId initId bmB)(T:OwnTail h bmB bm){mN:Str->Option Value}{rest:List Value}{f:Addr}{oI:Obj}{Q:PySem.Fin->Shared->Prop}
  (hC:h.get? C=some (excClassObj nm q C N bs bm hdct sn sub ab col dd k0 k1 k2 k3 k5 newId)) (hn:h.Ns N mN) (hi:mN "__init__" = some (.ref f)) (hf:h.get? f=some oI) (hfc:oI.cls=.type "function")
  (hq:∀h' e,Heap.MadeExcOf h h' e (.ref C) rest->wpAny (model prog w) A (call (.ref f) (.ref e :: rest)) (λr s'=>r=.none/\Q (.done (.ret (.ref e))) s') E ⟨h',g,d,t,os⟩) (hrest:rest.length<=sizeLine) :
  wpAny (model prog w) A (Builtin.«type.__call__» ⟨.ref C :: rest,[]⟩) Q E ⟨h,g,d,t,os⟩:=by
 repeat (first|with_reducible refine wpAny_loadPart_at hC ?_|with_reducible refine wpAny_madeBy_exc hC ?_|wp_step)
 refine codeAny_call_builtin_code (Code.quiet_builtin _ F.quiet) (wpAny_check_new_subT F T hC (codeAny_exc_new_subT F T hC ?_ hrest));show wpAny _ _ _ _ _ _;generalize e1:({ cls:=.type "tuple",data:=.seq rest.toArray }:Obj)=o1;generalize e2:({ cls:=.ref C,data:=.fields #[.ref h.objs.size,.none,.none,.none,.bool false,.none] }:Obj)=o2;have f1:o1.isFreed=false:=by rw[<- e1];rfl
 have f2:o2.isFreed=false:=by rw[<- e2];rfl
 have kp:∀b o,h.get? b=some o->((h.push o1).push o2).get? b=some o:=λb o z=>Vo _ (Vo _ z);have gE:((h.push o1).push o2).get? (h.objs.size+1)=some o2:=Heap.get?_push_at (by simp only[WI]) f2;have JX:((h.push o1).push o2).get? (h.objs.size+1)=some { cls:=.ref C,data:=.fields #[.ref h.objs.size,.none,.none,.none,.bool false,.none] }:=by rw[gE,<- e2]
 have cC:(Value.ref C :: bm).contains (.ref C)=true:=by simp
 have JY:=kp _ _ hC;have hn1:((h.push o1).push o2).Ns N mN:=hn.keeps kp;have T1:=T.keeps kp;unfold isInstance
 repeat (first|with_reducible refine wpAny_loadPart_at JX ?_|(with_reducible refine wpAny_isSubtype_exc JY ?_;rw[cC])|wp_step)
 show wpAny _ _ (typeLookup (.ref C) _) _ _ _;refine wpAny_typeLookup_tail JY hn1 T1 F.mroIs F.init.lookup ?_;rw[hi];refine wpAny_holding (wpAny_bind ?_);unfold bindSpecial;refine wpAny_bind (wpAny_typeOf (T:="function") ⟨_,kp _ _ hf,hfc⟩ ?_);rw[if_pos ∅];refine wpAny_pure (wpAny_bind (wpAny_mono (hq _ (h.objs.size+1) ⟨kp,Xt (Wc _),h.objs.size,JX,Xt (Vp _),?_⟩) (λr s' hr=>?_) λ_ _ x=>x))
 ·rw[Vo o2 (Heap.get?_push_at rfl f1),e1]
 ·obtain⟨rfl,hQ⟩:=hr
  wp_walk
  exact hQ
def OC(F:ExcBaseFacts B newId initId bmB)(T:OwnTail h bmB bm){mN:Str->Option Value}{rest:List Value}{f:Addr}{oI:Obj}{Q:Value->Shared->Prop}
  (hC:h.get? C=some (excClassObj nm q C N bs bm hdct sn sub ab col dd k0 k1 k2 k3 k5 newId)) (hn:h.Ns N mN) (hi:mN "__init__" = some (.ref f)) (hf:h.get? f=some oI) (hfc:oI.cls=.type "function")
  (hq:∀h' e,Heap.MadeExcOf h h' e (.ref C) rest->wpAny (model prog w) (A.under (.builtin "type.__call__" ⟨.ref C :: rest,[]⟩)) (call (.ref f) (.ref e :: rest)) (λr s'=>r=.none/\Q (.ref e) s') E ⟨h',g,d,t,os⟩) (hrest:rest.length<=sizeLine) :
  wpAny (model prog w) A (call (.ref C) rest) Q E ⟨h,g,d,t,os⟩:=by
 have f1:=tc_lookup;have f2:=tc_bind (.ref C);have hT:(⟨h,g,d,t,os⟩:Shared).TypeIs (.ref C) "type" := ⟨_,hC,rfl⟩;refine wpAny_call (codeAny_of_tree ?_);show wpAny _ _ (callAny (.ref C) _) _ _ _
 repeat (any_goals (first|assumption|with_reducible refine wpAny_loadPart_at hC ?_|wp_step))
 refine⟨rfl,?_⟩;exact codeAny_call_builtin_at (Code.quiet_builtin _ (by decide +kernel)) entry_typeCall (wpAny_check_type_call_sub hC (OB F T hC hn hi hf hfc (λh' e hm=>hq h' e hm) hrest))
end
def JZ{M:Model}{A:Around}{E:Value->Shared->Prop}{env:Env}{s:Shared}{x:Sem Value}{K:Frag}{Q:Flow->Shared->Prop}(hh:A.handled=none)
  (h:wpAny M A x (λv s1=>∃e C dx vs sl,v=.ref e/\K.In s1.heap/\s1.heap.get? e=some ⟨.ref C,dx,.fields vs,sl⟩/\vs[1]?=some .none/\mroIn K C (.type "BaseException")=some true/\typeIn K (.ref C)=some (.type "type")/\E (.ref e) s1) E s) :
  wpAny M A (raiseStmt env (some x) none) Q E s:=by
 unfold raiseStmt;refine wpAny_bind (wpAny_mono h (λv s1 h1=>?_) λ_ _ z=>z);obtain⟨e,C,dx,vs,sl,rfl,X,he,h1,hm,ht,hE⟩:=h1;obtain⟨oC,lC,cC⟩:=VR.mp (show(K.lookup C).map (·.cls)=some (.type "type")from ht);have gC:=X _ _ lC;have LB:=looks_mroIn (M:=M) X hm;obtain⟨hp,g,d,tk,os⟩:=s1
 repeat (first|with_reducible refine wpAny_loadPart_at he ?_|(with_reducible refine wpAny_loadPart_at gC ?_;rw[cC])|with_reducible refine LB.at ?_|with_reducible refine wpAny_field he rfl h1 ?_|wp_step)
 exact wpAny_raiseNew_none hh hE
structure J0(K:Frag)(mg:Str->Option Value)(x:Str)(C f:Addr)(bmB:List Value)(newId:String):Prop where
 m:mg x=some (.ref C)
 k:iW K C bmB newId f=true
 fn:isFn K (.ref f)=true
 kp:keepIn K (.ref C)=true
abbrev qk(C:Addr)(sp:Sp)(t:TA):TE:=λσ H Q=>t σ H λvs H1=>vs.length<=10/\∀a,H1 a=none->sp (.ref a :: vs) (upd H1 a (XO a C none none)) (λv H2=>v=.non/\Q (.ref a) H2) E0
section
variable {X:Cx}{k:Nat}{f C:Addr}{fd:FuncData}{ps:List Str}{sp:Sp}{x:Str}{p pos:Pos}{e:Expr}{es:List Expr}{t:TA}{B newId initId:String}{bmB:List Value}
def OD{pins:List (Addr×Obj)}{σ:St}{H:Hp}{s:Shared}{Q:VK}{us:List Value}{vs:List V}(FB:ExcBaseFacts B newId initId bmB)(M:J0 X.K X.mg x C f bmB newId)(F:aC X.prog X.w X.K X.mg X.base bK k f fd ps sp)(hr:cM (k+1) X.A)(hb:Binds X.K fd ps [])
  (I:Inv X pins σ H s) (r:Vals vs us) (hl:vs.length<=10) (h:∀a,H a=none->sp (.ref a :: vs) (upd H a (XO a C none none)) (λv H2=>v=.non/\Q (.ref a) H2) E0) :
  wpAny (model X.prog X.w) X.A (call (.ref C) us) (EP X pins σ Q) X.xe s:=by
 obtain⟨bm,NN,nm,qn,bs,hdct,sn,sub,ab,col,dd,k0,k1,k2,k3,k5,mN,hC,hN,hni,T⟩:=JW I.og M.k;obtain⟨oI,lI,cI⟩:=VR.mp (show(X.K.lookup f).map (·.cls)=some (.type "function")from beq_iff_eq.mp M.fn);obtain⟨hp,g,d,tk,os⟩:=s;refine OC FB T hC hN hni (I.og _ _ lI) cI (λh' a hm=>?_) (by rw[<- r.length,sizeLine_eq];lk);obtain⟨t0,ht,_,_⟩:=hm.there;have I2:=I.vO (o:=XO a C none none) hm.keeps hm.new (XO.ok ⟨_,_,ht,rfl,rfl,rfl,rfl⟩);have hq:=h a (I.hok.none_of hm.new);have r2:Vals (V.ref a :: vs) (Value.ref a :: us):=.cons rfl r;have hl2:(Value.ref a :: us).length=ps.length:=by rw[<- r2.length];exact F.len _ _ _ _ hq
 have hbd:=hb _ (Value.ref a :: us) I2.og (by rw[V7];exact hl2);rw[V7]at hbd;refine wpAny_call (codeAny_mono (F.run _ X.stack _ _ ⟨Value.ref a :: us,[]⟩ (Value.ref a :: us) _ _ E0 (hr.make C us []) (I2.vd.make C us []) hbd r2 hq) λr s' hq'=>?_);cases r with
 |error e=>exact hq'.elim
 |ok fl =>
  cases fl with
  |ret u =>
   obtain⟨v,H',I3,rv,ev,q3⟩:=I2.after hq';subst ev;exact⟨rv,V.ref a,H',I3,rfl,q3⟩
  |next=>exact False.elim hq'
  |brk=>exact False.elim hq'
  |cont=>exact False.elim hq'
def OE(FB:ExcBaseFacts B newId initId bmB)(M:J0 X.K X.mg x C f bmB newId)(F:aC X.prog X.w X.K X.mg X.base bK k f fd ps sp)(hr:cM (k+1) X.A)(hg:Gl X x)(hb:Binds X.K fd ps [])
  (ha:PA X (e :: es) t) (hdb:(x == ("__debug__" : Str))=false:=by decide) (he:starEach (e :: es) X.env=(false,eval e X.env) :: starEach es X.env:=by rfl) (hpl:(backTo pos (starEach es X.env)).any (·.1)=false:=by rfl) :
  PE X (.Call (.Name x p) (e :: es) [] pos) (qk C sp t):=by
 intro pins s σ H Q I h;refine wpAny_Call_Name_kw (zd I hg M.m ?_ hdb);refine callWith_K (h₀:=X.base) I.ok.mod.y8 M.kp (bM (ha pos pins s σ H _ I h) λus s1 ⟨vs,H1,I1,r,hl,q⟩=>⟨I1.og,?_⟩) he hpl;exact OD FB M F hr hb I1 r hl q
end
abbrev oB(K:Frag)(te:TE)(E:XK):TS:=λ_ σ H=>te σ H λv H1=>∃a C dx,v=.ref a/\H1 a=some (XO a C dx none)/\mroIn K C (.type "BaseException")=some true/\typeIn K (.ref C)=some (.type "type")/\∀H2,XS a H1 H2->E (.ref a) none H2
section
variable {P:Program}{w:World}{K:Frag}{mg:Str->Option Value}{base:Heap}{N:List Str}{qual:Str}{scope:Scope}{f:Addr}{cd:Value}{A:Around}{outer:List Env}{s0:Shared}{H0:Hp}{E:XK}
def OG{ex:Expr}{te:TE}{pos:Pos}(he:PE (dP (rV P w) P w K mg base N qual scope f cd A outer s0 H0 E) ex te):
  PS (dP (rV P w) P w K mg base N qual scope f cd A outer s0 H0 E) (.Raise (some ex) none pos) (oB K te E):=by
 intro pins s σ H D I h;rw[arm_exec_Raise]
 first
  |refine wpAny_bind (wpAny_standAt (JZ (K:=K) (I.ok.hd rfl) (wpAny_bind (wpAny_mono (he pins s σ H _ I h) (λv s3 h3=>wpAny_bind (wpAny_standAt (wpAny_pure ?_))) λ_ _ x=>x))))
  |(simp only[evalOpt,Option.map];refine wpAny_bind (wpAny_standAt (JZ (K:=K) (I.ok.hd rfl) (wpAny_bind (wpAny_mono (he pins s σ H _ I h) (λv s3 h3=>wpAny_bind (wpAny_standAt (wpAny_pure ?_))) λ_ _ x=>x)))))
 obtain⟨y,H1,I1,ry,a,C,dx,rfl,ea,hm,ht,q⟩:=h3;obtain rfl:v=Value.ref a:=ry;obtain⟨oe,vs,g1,g2,g3,g4,g5⟩:=XO.of I1.hok ea;obtain⟨c0,d0,JO,OH⟩:=oe;dsimp only at g2 g3 g4;subst g2 g3 g4;exact⟨a,C,d0,vs,OH,rfl,I1.og,g1,g5,hm,ht,leave I1 ⟨none,ea,λT z=>by cases z⟩ q⟩
end
abbrev ql(K:Frag)(f1:Str):Sp:=λvs H Q _=>∃a C tr v1,vs=[.ref a,v1]/\H a=some (XO a C none tr)/\rh K C/\takerIn K C f1=some none/\∀d,H d=none->d≠a->Q .non (upd (upd H a (XO a C (some d) tr)) d (.xd [(f1,v1)]))
def OI{K:Frag}{f1:Str}{vs:List V}{H:Hp}{Q:VK}{E:XK}(h:ql K f1 vs H Q E):vs.length=2:=by obtain⟨_,_,_,_,rfl,_⟩:=h;rfl
def OJ{K:Frag}{f1 p0 p1:Str}{vs:List V}{H:Hp}{Q:VK}{E:XK}(h:ql K f1 vs H Q E):
  JU K (pM 0) (pM 1) f1 { nx:=λ_ H'=>Q .non H',rt:=Q } (start [p0,p1] vs) H:=by
 obtain⟨a,C,tr,v1,rfl,ea,es,t1,q⟩:=h;exact⟨v1,rfl,.ref a,rfl,a,C,tr,rfl,es,t1,.inl ⟨ea,λd hd da=>q d hd da⟩⟩
def OL{K:Frag}{x qual:Str}{st:Stmt}{ps:List Str}{f:Addr}{oc:Value}{od an:Option Addr}{osl:Array (Option Value)}{kV doc pm cdv ct:Value}
  (hb:∀(kV doc pm:Value) (an:Option Addr) (cdv ct:Value) (us:List Value),us.length=ps.length->bindArgs (fnOf x qual (cB st) (bT st) (aj st) .none kV doc pm an cdv ct) ⟨us,[]⟩=pure (ps.zip us))
  (l:K.lookup f=some ⟨oc,od,.func (fnOf x qual (cB st) (bT st) (aj st) .none kV doc pm an cdv ct),osl⟩) (c:codeIn K cdv qual=true) (k:keepIn K (.ref f)=true):∃fd,tG K x qual st f fd/\Binds K fd ps [] :=
 ⟨_,Jp l c k,.all (hb kV doc pm an cdv ct)⟩
end L2
namespace L2
open PySem PySem.Spec PyProof.Rows
open Builtin
abbrev P2(k:Nat):Nat:=2 ^ k
end L2
namespace L2
open PySem PySem.Spec PyProof.Rows PySem.W
end L2
namespace L2
open PySem PySem.Spec PyProof.Rows
def Gr{M:Model}{A:Around}{E:Value->Shared->Prop}{s:Shared}{K:Zfr}{a C F fI:Addr}{oe:Obj}{bmB:List Value}{newId:String}{Q:Bool->Shared->Prop}(X:K.In s.heap)(he:s.heap.get? a=some oe)(hc:oe.cls=.ref C)
  (hF:iW K F bmB newId fI=true) (hb:bmB.contains (.type "BaseException")=true) (hm:PySem.W.mroIn K C (.ref F)=some true) (hq:Q true s):wpAny M A (excMatches (.ref a) (.ref F)) Q E s:=by
 obtain⟨bm,NN,nm,qn,bs,hdct,sn,sub,ab,col,dd,k0,k1,k2,k3,k5,mN,hC,hN,hni,T⟩:=JW X hF;have L:=PySem.W.looks_mroIn (M:=M) X hm;obtain⟨h,g,d,t,os⟩:=s;have OM:(Value.ref F :: bm).contains (.type "BaseException")=true:=by rw[Xg,T.hasType hb,Bool.or_true]
 have f:=tc_notTuple;unfold excMatches
 repeat (first|(with_reducible refine wpAny_loadPart_at he ?_;rw[hc])|with_reducible refine wpAny_loadPart_at hC ?_|(with_reducible refine wpAny_isSubtype_exc hC ?_;rw[OM])|wp_step)
 refine L.at ?_;rw[if_pos rfl]
 wp_walk
 exact hq
abbrev tP(K:Zfr)(tb:(St->Addr->Hp->Prop)->TS)(F:Addr)(ts:TS):TS:=λD σ H=>tb (λσ1 a H1=>∃C dx tr,H1 a=some (XO a C dx tr)/\PySem.W.mroIn K C (.ref F)=some true/\ts D σ1 H1) D σ H
section
variable {X:Cx}{x:Str}{F fI:Addr}{bmB:List Value}{newId:String}{tb:(St->Addr->Hp->Prop)->TS}{ts:TS}{body suite:List Stmt}{b0:Stmt}{np hpos pos:Pos}
def OO(hx:X.mg x=some (.ref F))(hF:iW X.K F bmB newId fI=true)(OQ:bmB.contains (.type "BaseException")=true)(hg:Gl X x)(hb:∀pins W,ny (X.tr pins W) body (tb W))(OR:∀a,ny (X.held a) (b0 :: suite) ts)
  (hst:X.stack=X.env :: X.outer:=by rfl) (hf:X.env.frame=some X.env.locals:=by rfl) (hdb:(x == ("__debug__" : Str))=false:=by decide) :
  PS X (.Try body [.ExceptHandler (some (.Name x np)) none (b0 :: suite) hpos] [] [] pos) (tP X.K tb F ts):=by
 intro pins s σ H D I h;refine wpAny_Try_except (wpAny_mono (hb pins _ [] s σ H D I.tr h) (λf s1 q=>?_) λe s1 q=>?_)
 ·cases f with
  |next=>exact wpAny_pure q.jW
  |brk=>exact q.jW
  |cont=>exact q.jW
  |ret u=>exact q.jW
 ·obtain⟨σ1,H1,a,C,dx,rfl,I1,x1,w1⟩:=q
  refine Inv.noted I1 hst hf I1.ok.frames x1 λh2 H2 xs x2 I2=>?_;obtain⟨C',yt,tr,e2,hm,q2⟩:=w1 H2 xs;obtain⟨oe,vs,he,hc,_⟩:=XO.of I2.hok e2;refine wpAny_handleBy_cons (codeAny_handlers_test (zd (X:=X.held a) I2.held hg hx ?_ hdb)) (by intro z;cases z);refine Gr I2.og he hc hF OQ hm ?_;refine codeAny_handlers_suite (Inv.flight I2 x2 λh3 I3=>?_);refine wpAny_mono (OR a pins _ _ H2 _ I3.held q2) (λf s5 q5=>?_) λ_ _ z=>z.elim;cases f with
  |next=>obtain⟨σ6,H6,I6,q6⟩:=q5;exact⟨_,H6,I6.lU I.ok,q6⟩
  |brk=>obtain⟨σ6,H6,I6,q6⟩:=q5;exact⟨_,H6,I6.lU I.ok,q6⟩
  |cont=>obtain⟨σ6,H6,I6,q6⟩:=q5;exact⟨_,H6,I6.lU I.ok,q6⟩
  |ret u=>obtain⟨v,σ6,H6,I6,r6,q6⟩:=q5;exact⟨v,_,H6,I6.lU I.ok,r6,q6⟩
end
section
variable {X:Cx}{K:Zfr}
abbrev oE(K:Zfr):V->List V->Hp->VK->Prop:=λx vs H Q=>∃(a:Addr) (ys:List V) (ds:List PyData) (y:V) (dy:PyData) (j:Nat),x=.ref a/\vs=[y]/\gP K H a ys/\dR K H ys ds/\Rep K H y dy/\(∀d∈ds,PyData.canLay0 d=true)/\PyData.canLay0 dy=true/\PyData.depth dy<=60 /\
 ds.length<=1000/\(∃d,ds[j]?=some d/\PyData.eqv d dy=true)/\(∀i d,i<j->ds[i]?=some d->PyData.eqv d dy=false)/\Q (.int (j:Int)) H
def OS(hu:X.A.units+64<cLine):zC X "list.index" (oE X.K):=by
 intro pins s σ H x xs v us Q I rx rv h;obtain⟨a,ys,ds,y,dy,j,rfl,rfl,hq,hr,hy,c1,c2,c3,hl,hit,hno,q⟩:=h;cases rx;obtain⟨u,rfl,ru⟩:=vals1 rv;obtain⟨its,r,pl,hz⟩:=I.list hq;obtain⟨⟨c,dd,dt,sl⟩,e,hc,n,hdt⟩:=pl.isList;cases(show c=.type "list" from hc);cases(show dt=.seq its.toArray n from hdt);have hlen:its.length=ds.length:=by rw[<- r.length];exact hr.rQ
 obtain⟨d0,hd0,OT⟩:=hit;have hjl:j<ds.length:=(Vm.mp hd0).1;have rd:∀(i:Nat) (w:Value) (d:PyData),its[i]?=some w->ds[i]?=some d->∃as,Reads s.heap w d as:=λi w d h1 h2=>by
  obtain⟨z,hz',rz⟩:=r.zW h1;obtain⟨d',hd',rp⟩:=hr.get hz';rw[h2]at hd';cases hd';exact rp.reads I rz
 refine call_meets F.slot_list_index ⟨_,e,rfl⟩ F.entry_list_index (F.args_list_index_2 _ _) (PySem.SeqAt.list_indexAt a its.toArray n dd sl u (eD its ds dy) j (by simp;lk) ⋯ ?_ λm hm OU=>?_) ⟨e,λz hz=>?_,⟨.int _,H,I.tok _,⟨_,rfl⟩,q⟩⟩;unfold eD;refine @decide_eq_true _ (Classical.propDecidable _) ⟨j,d0,?_,hd0,OT⟩;simp[show j<its.length by lk];unfold eD;refine @decide_eq_false _ (Classical.propDecidable _) ?_;rintro⟨i,d,h1,h2,h3⟩;have hm2:m<its.length:=by simpa using hm
 have OV:its[m]?=some (its.toArray[m]):=by simp[hm2]
 obtain⟨dm,J1⟩:∃dm,ds[m]?=some dm:=⟨ds[m]'⋯,Vn _⟩;obtain⟨as,ra⟩:=rd i _ d h1 h2;obtain⟨bs,rb⟩:=rd m _ dm OV J1;have ed:d=dm:=(Reads.unique ra _ _ rb).1;rw[ed,hno m dm OU J1]at h3;cases h3;exact Gh hu I r hr ru hy c1 c2 (by first|exact c3|(intro d hd;lk)) z (by simpa using hz)
end
end L2
namespace L2
open PySem PySem.Spec PySem.W PyProof.Rows
structure vP(K:Zfr)(x qual:Str)(st:Stmt)(f:Addr)(fd:FuncData):Prop where
 ex:∃(oc:Value) (od:Option Addr) (dV kV doc pm:Value) (an:Option Addr) (cdv ct:Value) (osl:Array (Option Value)),
  fd=PySem.W.fnOf x qual (cB st) (bT st) (aj st) dV kV doc pm an cdv ct/\K.lookup f=some ⟨oc,od,.func fd,osl⟩/\PySem.W.codeIn K cdv qual=true
 kp:PySem.W.keepIn K (.ref f)=true
def vP.OW{P:Program}{w:World}{K:Zfr}{mg:Str->Option Value}{base:Heap}{x qual:Str}{st:Stmt}{f:Addr}{fd:FuncData}{N ps:List Str}{k:Nat}{sp:Sp}(F:vP K x qual st f fd)(S:ax N ps (aj st))(len:∀vs H Q E,sp vs H Q E->vs.length=ps.length)
  (hbody:∀(cdv:Value) (A:Around) (outer:List Env) (s:Shared) (H:Hp) (vs:List V) (Q:VK) (E:XK),cM k (A.deeper (envOfC qual (aj st) s.heap.objs.size f cdv))->sp vs H Q E ->
   ∃t,ny (dP (rV P w) P w K mg base N qual (aj st) f cdv A outer s H E) (bT st) t/\t { nx:=λ_ H'=>Q .non H',rt:=Q } (start N vs) H):aC P w K mg base (rV P w) (k+1) f fd ps sp:=by
 obtain⟨oc,od,dV,kV,doc,pm,an,cdv,ct,osl,rfl,lk,hcd⟩:=F.ex;exact sX lk hcd S len λA outer s H vs Q E hr pA=>hbody cdv A outer s H vs Q E hr pA
structure qm(K:Zfr)(mg:Str->Option Value)(x:Str)(st:Stmt)(ps:List Str)(nJ:List V)(f:Addr)(fd:FuncData):Prop where
 F:vP K x x st f fd
 b:Binds K fd ps []
 bd:∃ds,Vals nJ ds/\Binds K fd ps ds
 m:mg x=some (.ref f)
abbrev qo(x:Str)(st:Stmt)(ps:List Str)(d m:Nat):Prop :=
 ∀(T:Addr) (kV doc pm:Value) (an:Option Addr) (cdv ct:Value) (us ds:List Value),us.length=m->ds.length=d ->
  ∃k:Option (Array Value)->Sem (List (Str×Value)),bindArgs (PySem.W.fnOf x x (cB st) (bT st) (aj st) (.ref T) kV doc pm an cdv ct) ⟨us,[]⟩=seqItems? (.ref T) >>= k/\k (some ds.toArray)=pure (ps.zip (us ++ ds.drop (m+d-ps.length)))
def OX{K:Zfr}{h:Heap}{mg:Str->Option Value}(X:K.In h)(G:h.Ns mainGlobals mg){x:Str}{st:Stmt}{ps:List Str}{nJ:List V}{f T:Addr}{oc OY:Value}{od an od':Option Addr}{osl Gs:Array (Option Value)}{kV doc pm cdv ct:Value}{its:Array Value}{n d:Nat}
  (hl:d<=ps.length) (hb:qo x st ps d (ps.length-d)) (hb2:qo x st ps d ps.length)
  (a:PySem.W.nsIn K mainGlobals x=some (some (.ref f))) (l:K.lookup f=some ⟨oc,od,.func (PySem.W.fnOf x x (cB st) (bT st) (aj st) (.ref T) kV doc pm an cdv ct),osl⟩)
  (lT:K.lookup T=some ⟨OY,od',.seq its n,Gs⟩) (ei:its.toList.length=d) (hv:Vals nJ its.toList)
  (c:PySem.W.codeIn K cdv x=true) (k:PySem.W.keepIn K (.ref f)=true):∃f fd,qm K mg x st ps nJ f fd:=by
 have key:∀m (s:Shared) (us:List Value),qo x st ps d m->K.In s.heap->us.length=m->BindsTo s (PySem.W.fnOf x x (cB st) (bT st) (aj st) (.ref T) kV doc pm an cdv ct) ⟨us,[]⟩ (ps.zip (us ++ its.toList.drop (m+d-ps.length))):=λm s us h KX hu=>by
  obtain⟨kk,h1,h2⟩:=h T kV doc pm an cdv ct us its.toList hu ei;exact BindsTo.of_defaults rfl (KX _ _ lT) rfl h1 (by rw[Array.toArray_toList]at h2;exact h2)
 refine⟨f,_,⟨⟨oc,od,.ref T,kV,doc,pm,an,cdv,ct,osl,rfl,l,c⟩,k⟩,λs us KX hu=>?_,⟨its.toList,hv,λs us KX hu=>?_⟩,PySem.W.mg_of X G a⟩;rw[V7]at hu ⊢
 have:=key ps.length s us hb2 KX hu;rw[show ps.length+d-ps.length=its.toList.length by lk,List.drop_length,V7]at this;exact this
 rw[Vq]at hu
 have:=key (ps.length-d) s us hb KX ⋯;rw[show ps.length-d+d-ps.length=0 by lk,XB]at this;exact this
end L2
namespace L2
open PySem PySem.Spec PyProof.Rows
end L2
namespace L2
open PySem PySem.Spec PyProof.Rows PySem.W
section
variable {n0:Nat}{cmp:Nat->Nat->(Bool->Shared->Prop)->Shared->Prop}{s:Shared}
def J2{i:Nat}(h:i<n0):(List.toArray (List.range n0)).getD i 0=i:=by rw[Array.getD_eq_getD_getElem?,List.getElem?_toArray,Wb h];rfl
def J3{Q:Nat->Shared->Prop}(hc:∀i (C:Bool->Shared->Prop),i+1<n0->C false s->cmp (i+1) i C s)(q:Q n0 s):∀(f n:Nat),1<=n->n+f=n0->(kas_asc (List.toArray (List.range n0)) f n).kasWp cmp Q s
 |0,n,_,e=>by
  have:n=n0:=by lk
  subst this;exact q
 |f+1,n,h1,e=>by
  show cmp ((List.toArray (List.range n0)).getD n 0) ((List.toArray (List.range n0)).getD (n-1) 0) (λb s=>(if b=true then KasT.ret n else kas_asc (List.toArray (List.range n0)) f (n+1)).kasWp cmp Q s) s;rw[J2 ⋯,J2 ⋯];obtain⟨m,rfl⟩:∃m,n=m+1:=⟨n-1,by lk⟩;exact hc m _ ⋯ (J3 hc q f (m+1+1) ⋯ ⋯)
def OZ{Q:Array Nat->Shared->Prop}(hn:0<n0)(hc:∀i (C:Bool->Shared->Prop),i+1<n0->C false s->cmp (i+1) i C s)(q:Q (List.toArray (List.range n0)) s):(kas_sort n0).kasWp cmp Q s:=by unfold kas_sort;rw[KasT.kasWp_bind];unfold kas_count;rw[KasT.kasWp_bind];refine J3 hc ?_ (n0-1) 1 (Vp _) ⋯;simp only[beq_self_eq_true,if_true];show(if n0<n0 then kas_bin (n0-max n0 1) _ (max n0 1)else KasT.ret _).kasWp cmp Q s;rw[if_neg (WX _)];exact q
end
section
variable {prog:Program}{w:World}{A:Around}{E:Value->Shared->Prop}{s:Shared}
def O0{a:Addr}{vs:List Value}{n:Nat}{R:PySem.Fin->Shared->Prop}(ho:s.heap.get? a=some (seqObj "list" vs.toArray n))(h64:vs.length<64)
  (hk:2<=vs.length->∀s':Shared,oz a s.heap s'.heap->(∀Q:SortKind->Shared->Prop,Q (tuples' true) s'->wpAny (model prog w) A (keyKind' vs.toArray) Q E s')/\∀i (C:Bool->Shared->Prop),i+1<vs.length->C false s'->kas_ask prog w A (tuples' true) vs (i+1) i C s')
  (h:R (.done (.ret .none)) { s with heap:=sortedHeap s.heap a vs vs.toArray }):wpAny (model prog w) A (Builtin.«list.sort» ⟨[.ref a],[]⟩) R E s:=by
 rw[list_sort_plain];have qq:vs.length<=sizeLine:=VH (Wg h64) ∅;refine wpAny_bind (listItems_at ho rfl (wpAny_bind (listUpdate_at ho rfl ?_ (by rw[Vt];exact qq) (VX _))));obtain⟨e1,Ae⟩:∃e1,(s.heap.update a (Obj.mapSeq λ_=>(#[]:Array Value))).get? a=some (seqObj "list" #[] e1):=⟨_,get?_update_seq ho λ_=>#[]⟩;refine wpAny_bind (seqEpoch_at Ae rfl (wpAny_bind (wpAny_newTuple (wpAny_bind (wpAny_newList (wpAny_holding ?_) (VX _))) (by show vs.length<=_;exact qq))));show wpAny (model prog w) A _ R E { s with heap:=((s.heap.update a (Obj.mapSeq λ_=>(#[]:Array Value))).push (seqObj "tuple" vs.toArray 0)).push (seqObj "list" #[] 0) };have h:R (.done (.ret .none)) { s with heap:=(((s.heap.update a (Obj.mapSeq λ_=>(#[]:Array Value))).push (seqObj "tuple" vs.toArray 0)).push (seqObj "list" #[] 0)).update a (Obj.mapSeq λ_=>vs.toArray) }:=h;have ho6:(((s.heap.update a (Obj.mapSeq λ_=>(#[]:Array Value))).push (seqObj "tuple" vs.toArray 0)).push (seqObj "list" #[] 0)).get? a=some (seqObj "list" #[] e1):=Vo _ (Vo _ Ae);have kb:oz a s.heap (((s.heap.update a (Obj.mapSeq λ_=>(#[]:Array Value))).push (seqObj "tuple" vs.toArray 0)).push (seqObj "list" #[] 0)):=λb o hb e=>Vo _ (Vo _ ((VN _ _ (Ne.symm hb)).trans e));generalize ((s.heap.update a (Obj.mapSeq λ_=>(#[]:Array Value))).push (seqObj "tuple" vs.toArray 0)).push (seqObj "list" #[] 0)=h6 at h ho6 kb ⊢;dsimp only;by_cases h2:vs.toArray.size<2;rw[if_pos h2,if_pos h2];refine wpAny_bind (wpAny_pure ?_);rw[StateT.run_pure];refine wpAny_bind (wpAny_pure ?_);dsimp only;have eo:(arrOf (SortSt.mk' general' (vs.toArray.zip vs.toArray) #[] 7 none)).map (·.2)=vs.toArray:=by
  show(vs.toArray.zip vs.toArray).map (·.2)=vs.toArray;apply Array.toList_inj.mp;simp[List.map_snd_zip]
 refine wpAny_bind (seqEpoch_at ho6 rfl ?_);rw[eo];refine wpAny_bind (listUpdate_at ho6 rfl ?_ (VX _) (by rw[Vt];lk));simp only[bne_self_eq_false,V5,if_false];exact wpAny_pure h;rw[if_neg h2,if_neg h2];have h2':2<=vs.length:=by rw[Vt]at h2;lk
 obtain⟨hkk,Gu⟩:=hk h2' { s with heap:=h6 } kb;refine wpAny_bind (hkk _ ?_);have run:=kat_run (prog:=prog) (w:=w) (A:=A) (E:=E) (κ:=tuples' true) (ks:=vs) (vs:=vs) (s:={ s with heap:=h6 }) (Q:=λst' s'=>arrOf st'=(List.toArray (List.range vs.length)).map (kas_item (vs.toArray.zip vs.toArray))/\failedOf st'=none/\s'={ s with heap:=h6 })
  (G:=λp s'=>s'={ s with heap:=h6 }/\p=List.toArray (List.range vs.length)) rfl h2' h64 (λp st' s' _ x y z=>⟨z.2 ▸ x,y,z.1⟩)
  (OZ ⋯ Gu ⟨rfl,rfl⟩)
 refine wpAny_bind (wpAny_mono run ?_ λ_ _ z=>z);rintro⟨⟨⟩,st'⟩ s' ⟨har,hf,rfl⟩;dsimp only;have eo:(arrOf st').map (·.2)=vs.toArray:=(kat_snds rfl har).trans (Og vs);refine wpAny_bind (seqEpoch_at ho6 rfl ?_);rw[eo];refine wpAny_bind (listUpdate_at ho6 rfl ?_ (VX _) (by rw[Vt];lk));rw[hf];simp only[bne_self_eq_false,V5,if_false];exact wpAny_pure h
abbrev Af(h:Heap)(v:Value)(n:Int):Prop:=∃(q:Addr) (o:Obj) (us:Array Value) (k:Nat) (t:Tok) (r:List Value),v=.ref q/\h.get? q=some o/\o.cls=.type "tuple" /\ o.data=.seq us k/\us.toList=.int n t :: r
abbrev gL(h:Heap):List Value->List Int->Prop
 |[],[]=>True
 |v :: vs,n :: ns=>Af h v n/\gL h vs ns
 |_,_=>False
def Af.keep{h h':Heap}{v:Value}{n:Int}(k:eO h h'):Af h v n->Af h' v n
 |⟨q,o,us,m,t,r,e,g,x⟩=>⟨q,o,us,m,t,r,e,k _ _ g,x⟩
def gL.keep{h h':Heap}(k:eO h h'):∀{vs:List Value} {ns:List Int},gL h vs ns->gL h' vs ns
 |[],[],_=>trivial
 |_ :: _,_ :: _,x=>⟨x.1.keep k,gL.keep k x.2⟩
def gL.len{h:Heap}:∀{vs:List Value} {ns:List Int},gL h vs ns->vs.length=ns.length
 |[],[],_=>rfl
 |_ :: _,_ :: _,x=>congrArg Nat.succ (gL.len x.2)
def gL.at{h:Heap}:∀{vs:List Value} {ns:List Int} {i:Nat},gL h vs ns->i<vs.length->Af h (vs.getD i Value.none) (ns.getD i 0)
 |_ :: _,_ :: _,0,x,_=>x.1
 |_ :: _,_ :: _,i+1,x,l=>gL.at (i:=i) x.2 (Xl l)
def gL.tups{h:Heap}:∀{vs:List Value} {ns:List Int},gL h vs ns->∃fs,KatTups h vs fs/\fs.length=vs.length/\∀f∈fs,∃n t,f=Value.int n t
 |[],[],_=>⟨[],trivial,rfl,λf hf=>nomatch hf⟩
 |_ :: _,n :: _,x=>by
  obtain⟨fs,a,b,c⟩:=gL.tups x.2;obtain⟨q,o,us,m,t,r,e,g,hc,hd,hu⟩:=x.1;refine⟨.int n t :: fs,⟨⟨q,o,us,m,e,g,hc,hd,by rw[<- WB,hu];rfl⟩,a⟩,by simp[b],λf hf=>?_⟩;rcases VJ.mp hf with rfl|hf
  exact⟨n,t,rfl⟩;exact c f hf
def vQ{vs:List Value}{ns:List Int}{i:Nat}{C:Bool->Shared->Prop}(x:gL s.heap vs ns)(hu:A.units+52<cLine)(hi:i+1<vs.length)(hl:ns.getD i 0<ns.getD (i+1) 0)(q:C false s):kas_ask prog w A (tuples' true) vs (i+1) i C s:=by obtain⟨a,o,us,m,t,r,e,g,hc,hd,hU⟩:=x.at hi;obtain⟨a',o',us',m',t',r',e',g',hc',hd',hU'⟩:=x.at (show i<vs.length by lk);unfold kas_ask;rw[e,e'];refine kat_lt g hd g' hd' ?_;rw[hU,hU'];generalize ns.getD i 0=y at hl;generalize ns.getD (i+1) 0=z at hl;refine kat_cons (SeqAt.eqAt_reads (.int z) (.int y) A s _ _ [] [] (.int z t) (.int y t') rfl rfl (by show A.units+min 0 0<cLine;lk) prog w _ _ ?_);rw[show PyData.eqv (.int z) (.int y)=false by show(z == y)=false;simp;lk];refine kat_no (oneLt_int ?_);rw[show decide (z<y)=false by simp;lk];exact q
def O1{l:Addr}{vs:List Value}{Q:List Value->Shared->Prop}(hl:IsTup s.heap l vs.toArray\/s.heap.IsList l vs.toArray)(h:Q vs { s with heap:=(s.heap.push (seqObj "list" #[] 0)).update s.heap.objs.size (Obj.mapSeq (· ++ vs.toArray)) })(hz:vs.length<=sizeLine):wpAny (model prog w) A (collect (.ref l)) Q E s:=hl.elim (λt=>Jr t h hz) λt=>collect_list t h hz
def O2{l:Addr}{vs:List Value}{ns:List Int}{Q:Value->Shared->Prop}(hl:IsTup s.heap l vs.toArray\/s.heap.IsList l vs.toArray)(h64:vs.length<64)(hx:gL s.heap vs ns)(hp:ns.Pairwise (· < ·))(hu:A.units+64<cLine)
  (h:Q (.ref (s.heap.objs.size+1)) { s with heap:=sortedAll s.heap vs vs.toArray }):wpAny (model prog w) A (call (.builtin "sorted") [.ref l]) Q E s:=by
 have qq:vs.length<=sizeLine:=VH (Wg h64) ∅;refine Calls.call_function_entry kind_sorted plain_sorted entry_sorted (args_sorted1 _) ?_;unfold Builtin.«sorted»;refine wpAny_bind (m:=checkCount "sorted" 1 1 _) (wpAny_pure (wpAny_bind (O1 hl (wpAny_bind (wpAny_newList ?_ qq)) qq)));have hsz:((s.heap.push (seqObj "list" #[] 0)).update s.heap.objs.size (Obj.mapSeq (· ++ vs.toArray))).objs.size=s.heap.objs.size+1:=(Heap.size_update _ _ _).trans (size_push' _ _);have pL:(((s.heap.push (seqObj "list" #[] 0)).update s.heap.objs.size (Obj.mapSeq (· ++ vs.toArray))).push (seqObj "list" vs.toArray 0)).get? (s.heap.objs.size+1)=some (seqObj "list" vs.toArray 0):=hsz ▸ VF _ rfl;show wpAny (model prog w) _ _ _ _ { s with heap:=((s.heap.push (seqObj "list" #[] 0)).update s.heap.objs.size (Obj.mapSeq (· ++ vs.toArray))).push (seqObj "list" vs.toArray 0) };rw[hsz];have k1:eO s.heap (((s.heap.push (seqObj "list" #[] 0)).update s.heap.objs.size (Obj.mapSeq (· ++ vs.toArray))).push (seqObj "list" vs.toArray 0)):=λb o e=>Vo _ ((VN _ _ (Ne.symm (VS (Vx e)))).trans (Vo _ e));refine wpAny_bind (wpAny_holding (wpAny_call_entry slot_list_sort ⟨_,pL,rfl⟩ entry_list_sort (O0 pL h64 (λh2 s' kb=>?_) ⟨_,rfl,wpAny_pure ⟨_,rfl,h⟩⟩) (args_list_sort _)))
 have hx':gL s'.heap vs ns:=hx.keep λb o' e=>kb b o' (λz=>by
  have:=Vx e;rw[z]at this
  exact absurd this (XY (Wc _))) (k1 b o' e)
 obtain⟨fs,t,hl',hf⟩:=hx'.tups;refine⟨λQ' q'=>kat_kind (T:=.type "int") t ⋯ (λv hv=>?_) ∅ q',λi C hi c=>vQ hx' (by show A.units+1+1+52<cLine;lk) hi ?_ c⟩;obtain⟨n,t,rfl⟩:=hf v hv;exact Looks.of_pure rfl;have hn:=hx.len;rw[Vz,Vz,Vn ⋯,Vn ⋯];exact V3.mp hp i (i+1) ⋯ ⋯ (Wf _)
end
section
variable {X:Cx}
abbrev qr(K:Zfr):List V->Hp->VK->Prop:=λxs H Q=>∃(p:Addr) (vs:List V) (ns:List Int),xs=[.ref p]/\(gP K H p vs\/de K H p vs)/\vs.length<64/\ns.Pairwise (· < ·)/\ns.length=vs.length/\(∀(i:Nat) (v:V) (n:Int),vs[i]?=some v->ns[i]?=some n->∃q ws,v=.ref q/\de K H q (.int n :: ws)) /\
 ∀l:Addr,H l=none->Q (.ref l) (upd H l (.lst vs))
def J4{pins:List (Addr×Obj)}{σ:St}{H:Hp}{s:Shared}(I:Inv X pins σ H s):∀{vs:List V} {its:List Value} {ns:List Int},Vals vs its->ns.length=vs.length->(∀(i:Nat) (v:V) (n:Int),vs[i]?=some v->ns[i]?=some n->∃q ws,v=.ref q/\de X.K H q (.int n :: ws))->gL s.heap its ns
 |_,_,[],.nil,_,_=>trivial
 |_,_,n :: ns,.cons r rs,hl,h=>by
  refine⟨?_,J4 I rs (Nat.succ.inj hl) λi v m e1 e2=>h (i+1) v m e1 e2⟩;obtain⟨q,ws,rfl,hq⟩:=h 0 _ n rfl rfl;cases r;obtain⟨its,rv,⟨o,ho,hc,k,hd⟩,_⟩:=I.tuple hq;cases rv with
  |cons r1 r2 =>
   obtain⟨t,rfl⟩:=r1;exact⟨q,o,_,k,t,_,rfl,ho,hc,hd,rfl⟩
def O3(hu:X.A.units+64<cLine):eN X (.builtin "sorted") (qr X.K):=by
 intro pins s σ H xs us Q I r h;obtain⟨p,vs,ns,rfl,hq,h64,hp,hl,hh,q⟩:=h;obtain⟨u,rfl,ru⟩:=vals1 r;cases ru;obtain⟨its,rv,pl⟩:∃its,Vals vs its/\(IsTup s.heap p its.toArray\/s.heap.IsList p its.toArray):=by
  rcases hq with hq|hq
  obtain⟨its,rv,pl,_⟩:=I.list hq;exact⟨its,rv,.inr pl.isList⟩;obtain⟨its,rv,pl,_⟩:=I.tuple hq;exact⟨its,rv,.inl pl⟩
 have hvl:vs.length=its.length:=rv.length;refine O2 pl ⋯ (J4 I rv hl hh) hp hu ?_;obtain⟨e,he⟩:=sortedAll_at s.heap its its.toArray;exact⟨.ref (s.heap.objs.size+1),_,I.laid (t':=s.toks) (o:=.lst vs) (λb o q=>sortedAll_old q) (Wc _) ⟨VH (Wg h64) ∅,its,e,rv,he⟩,rfl,q _ (I.hok.fresh (Wc _))⟩
end
def yu:Slot "set_iterator" "__next__" "set_iterator.__next__" :=
 .of (owner:="set_iterator") (n:="__next__") (by rw[typeLookup_type,builtinLookup_eq_fast];kernel_rfl) (by decide +kernel) (by decide +kernel) (by decide +kernel)
  (by first|exact .inl (by decide +kernel)|exact .inr (by decide +kernel)) (by rw[isSubtype_type];kernel_rfl)
def J5:Slot "set_iterator" "__iter__" "set_iterator.__iter__" :=
 .of (owner:="set_iterator") (n:="__iter__") (by rw[typeLookup_type,builtinLookup_eq_fast];kernel_rfl) (by decide +kernel) (by decide +kernel) (by decide +kernel)
  (by first|exact .inl (by decide +kernel)|exact .inr (by decide +kernel)) (by rw[isSubtype_type];kernel_rfl)
def J7:Slot "set" "__iter__" "set.__iter__" :=
 .of (owner:="set") (n:="__iter__") (by rw[typeLookup_type,builtinLookup_eq_fast];kernel_rfl) (by decide +kernel) (by decide +kernel) (by decide +kernel)
  (by first|exact .inl (by decide +kernel)|exact .inr (by decide +kernel)) (by rw[isSubtype_type];kernel_rfl)
def J8:entryFor table "set_iterator.__next__" = some Builtin.«set_iterator.__next__»:=entryFor_of_tree (by kernel_rfl)
def J9(a:Value):argsOk "set_iterator.__next__" ⟨[a],[]⟩:=by unfold argsOk;kernel_rfl
def O4:entryFor table "set_iterator.__iter__" = some Builtin.«dict_keyiterator.__iter__» :=
 entryFor_alias (id':="dict_keyiterator.__iter__") (by kernel_rfl) (by first|rfl|decide +kernel) (by decide +kernel) (by kernel_rfl)
def O5(a:Value):argsOk "set_iterator.__iter__" ⟨[a],[]⟩:=by unfold argsOk;kernel_rfl
def O6:entryFor table "set.__iter__" = some Builtin.«frozenset.__iter__» :=
 entryFor_alias (id':="frozenset.__iter__") (by kernel_rfl) (by first|rfl|decide +kernel) (by decide +kernel) (by kernel_rfl)
def O7(a:Value):argsOk "set.__iter__" ⟨[a],[]⟩:=by unfold argsOk;kernel_rfl
def O8:typeLookup (.type "set") "__len__" = pure (some (.builtin "set.__len__")):=by rw[typeLookup_type,builtinLookup_eq_fast];kernel_rfl
abbrev rj(w:World):Bool:=w.params.followText "set-order"
structure S2(w:World)(h:Heap)(a:Addr)(es:Array (Int×Value))(ep:Nat)(t:SetTable):Prop where
 ob:∃o,h.get? a=some o/\o.cls=.type "set" /\ o.data=.set es ep t
 fit:t.fits es.size=true
 pl:t.plain=true
 ld:t.led=!rj w
 two:(∃e p,es=#[e]/\t.place=#[p])\/∃e f p q,es=#[e,f]/\t.place=#[p,q]/\p<q
def S2.at{w:World}{h h':Heap}{a:Addr}{es:Array (Int×Value)}{ep:Nat}{t:SetTable}(x:S2 w h a es ep t)(e:∀o,h.get? a=some o->h'.get? a=some o):S2 w h' a es ep t :=
 ⟨let ⟨o,ho,r⟩:=x.ob;⟨o,e _ ho,r⟩,x.fit,x.pl,x.ld,x.two⟩
abbrev jk(w:World)(a:Addr)(ep:Nat)(es:Array (Int×Value)):Array (Int×Value):=if rj w then pickOrder (w.params.setOrder a ep) es else es
abbrev mz(w:World)(t:SetTable)(i:Nat):Nat:=if rj w then 0 else if i=0 then 0 else t.place.getD (i-1) 0+1
def O9{es:Array (Int×Value)}{f:Nat->Nat}(h:es.size=1\/es.size=2):(pickOrder f es).toList.Perm es.toList:=by
 obtain⟨l⟩:=es
 match l,h with
 |[e],_=>simp[pickOrder,pickOrder.go,Nat.mod_one]
 |[e,g],_ =>
  rcases Nat.mod_two_eq_zero_or_one (f 0)with h0|h0
  simp[pickOrder,pickOrder.go,h0,Nat.mod_one];simp[pickOrder,pickOrder.go,h0,Nat.mod_one];exact .swap ..
def S2.sz{w:World}{h:Heap}{a:Addr}{es:Array (Int×Value)}{ep:Nat}{t:SetTable}(x:S2 w h a es ep t):es.size=1\/es.size=2:=by
 rcases x.two with⟨e,p,rfl,_⟩|⟨e,f,p,q,rfl,_⟩
 exact .inl rfl;exact .inr rfl
def S2.perm{w:World}{h:Heap}{a:Addr}{es:Array (Int×Value)}{ep:Nat}{t:SetTable}(x:S2 w h a es ep t):(jk w a ep es).toList.Perm es.toList:=by unfold jk;split;exact O9 x.sz;exact .refl _
def S2.Gv{w:World}{h:Heap}{a:Addr}{es:Array (Int×Value)}{ep:Nat}{t:SetTable}(x:S2 w h a es ep t):(jk w a ep es).size=es.size:=by rw[<- Wv,x.perm.length_eq,Wv]
def S2.below{w:World}{h:Heap}{a:Addr}{es:Array (Int×Value)}{ep:Nat}{t:SetTable}(x:S2 w h a es ep t)(hb:rj w=false){i:Nat}(hi:i<=es.size):SetTable.below t.place (mz w t i)=i:=by
 unfold mz;rw[hb];rcases x.two with⟨e,p,rfl,ep⟩|⟨e,f,p,q,rfl,ep,hpq⟩
 rw[ep];have hi:i<=1:=hi;rcases(show i=0\/i=1 by lk)with rfl|rfl
 simp[SetTable.below,SetTable.below.go];simp[SetTable.below,SetTable.below.go];rw[ep];have hi:i<=2:=hi;rcases(show i=0\/i=1\/i=2 by lk)with rfl|rfl|rfl
 simp[SetTable.below,SetTable.below.go]
 have:¬q<p+1:=by lk
 simp[SetTable.below,SetTable.below.go,this];simp[SetTable.below,SetTable.below.go]
section
variable {prog:Program}{w:World}{A:Around}{E:Value->Shared->Prop}{s:Shared}{a:Addr}{es:Array (Int×Value)}{ep:Nat}{t:SetTable}
def Dx{Q:Bool->Shared->Prop}(h:Q (rj w) s):wpAny (model prog w) A setsByText Q E s:=by unfold setsByText;exact wpAny_bind (wpAny_askSetting (wpAny_pure h))
def vR{Q:(Array (Int×Value)×Nat×SetTable)->Shared->Prop}(x:S2 w s.heap a es ep t)(h:Q (es,ep,t) s):wpAny (model prog w) A (setState a) Q E s:=by obtain⟨o,ho,_,hd⟩:=x.ob;exact wpAny_setState_of ho hd x.fit h
def Ka{Q:Option (Value×Nat)->Shared->Prop}{i:Nat}(x:S2 w s.heap a es ep t)(hi:i<=es.size)(h:Q (((jk w a ep es)[i]?).map λe=>(e.2,mz w t (i+1))) s):wpAny (model prog w) A (setNext a (mz w t i) i ep) Q E s:=by
 unfold setNext;refine wpAny_bind (vR x ?_);refine wpAny_bind (Dx ?_);cases hb:rj w with
 |true =>
  have e1:jk w a ep es=pickOrder (w.params.setOrder a ep) es:=by unfold jk;rw[hb];rfl
  have e2:∀j,mz w t j=0:=λj=>by unfold mz;rw[hb];rfl
  rw[e1,e2]at h;rw[e2];simp only[if_true,bne_self_eq_false,V5,if_false];unfold setWalk;refine wpAny_bind (wpAny_bind (vR x (wpAny_bind (Dx ?_))));rw[hb];simp only[if_true];exact wpAny_bind (wpAny_askSetting (wpAny_pure (wpAny_pure h)))
 |false =>
  have e1:jk w a ep es=es:=by unfold jk;rw[hb];rfl
  rw[e1]at h;simp only[V5,if_false];refine wpAny_ite_split (λhab=>?_) (λ_=>?_);have hab:(!t.plain && decide (es.size > 1))=true:=hab;rw[x.pl]at hab;cases hab;refine wpAny_bind ?_;show wpAny _ _ (if(!t.led && !es.isEmpty)=true then unsupported _ else pure ()) _ _ s;rw[x.ld,hb,if_neg (by simp)];refine wpAny_pure ?_;rw[x.below hb hi];refine wpAny_pure ?_;have hs:mz w t (i+1)=t.place.getD i 0+1:=by unfold mz;rw[hb];rfl
  rw[hs]at h;have hf:t.place.size=es.size:=by have:=x.fit;unfold SetTable.fits at this;simp at this;exact this.1
  by_cases hl:i<es.size;have hl':i<t.place.size:=by rw[hf];exact hl
  rw[show t.place.getD i 0=t.place[i] by simp[Array.getD,hl']]at h;rw[Xe hl]at h ⊢;rw[Xe hl'];generalize es[i]=e at h ⊢;exact h;rw[Xm ⋯]at h ⊢;exact h
def Pa{it:Addr}{Q:Value->Shared->Prop}(hT:s.TypeIs (.ref it) "set_iterator")(h:Q (.ref it) s):wpAny (model prog w) A (pyIter (.ref it)) Q E s:=by refine wpAny_pyIter_slot hT J5 (wpAny_call_entry J5 hT O4 ?_ (O5 _));show wpAny _ _ (ret (.ref it)) _ _ s;exact wpAny_pure ⟨_,rfl,"set_iterator",_,hT,yu.lookup,h⟩
abbrev o7(h:Heap)(it:Addr)(sl i:Nat)(v:Value)(n ep:Nat):Prop:=∃o,h.get? it=some o/\o.cls=.type "set_iterator" /\ o.data=.fields #[rawInt (sl:Int),rawInt (i:Int),v,rawInt (n:Int),rawInt (ep:Int)]
def o7.typeIs{it:Addr}{sl i n:Nat}{v:Value}(x:o7 s.heap it sl i v n ep):s.TypeIs (.ref it) "set_iterator" := let ⟨o,ho,hc,_⟩:=x;⟨o,ho,hc⟩
def Pb{Q:Value->Shared->Prop}(x:S2 w s.heap a es ep t)(h:Q (.ref s.heap.objs.size) { s with heap:=s.heap.push { cls:=.type "set_iterator",data:=.fields #[rawInt (0:Int),rawInt (0:Int),.ref a,rawInt (es.size:Int),rawInt (ep:Int)] } }):wpAny (model prog w) A (pyIter (.ref a)) Q E s:=by
 have hT:s.TypeIs (.ref a) "set" := let ⟨o,ho,hc,_⟩:=x.ob;⟨o,ho,hc⟩
 refine wpAny_pyIter_slot hT J7 (wpAny_call_entry J7 hT O6 ?_ (O7 _));unfold Builtin.«frozenset.__iter__»;refine wpAny_bind (wpAny_of_eq (a:=a) rfl ?_);unfold Builtin.Frozenset.sizeOf setEntries setDrawn setEpoch;refine wpAny_bind (wpAny_bind (wpAny_bind (vR x (wpAny_pure (wpAny_pure ?_)))));refine wpAny_bind (wpAny_bind (vR x (wpAny_bind (Dx (wpAny_pure ?_)))));refine wpAny_ite_split (λhab=>?_) (λ_=>?_);have hab:(!rj w && (!t.plain && decide (es.size > 1)))=true:=hab;rw[x.pl]at hab;simp at hab;refine wpAny_bind (wpAny_pure (wpAny_bind (wpAny_bind (vR x (wpAny_pure ?_)))));unfold newFields;refine wpAny_bind (wpAny_newObj_type ?_);exact wpAny_pure ⟨_,rfl,"set_iterator",_,⟨_,VF _ rfl,rfl⟩,yu.lookup,h⟩
def Pc{it:Addr}{i:Nat}{Q:Option Value->Shared->Prop}(x:S2 w s.heap a es ep t)(y:o7 s.heap it (mz w t i) i (.ref a) es.size ep)(hi:i<es.size)(ne:it≠a)
  (hQ:∀v h',(jk w a ep es)[i]?.map (·.2)=some v->o7 h' it (mz w t (i+1)) (i+1) (.ref a) es.size ep->Heap.ExtBut it s.heap h'->Q (some v) { s with heap:=h' }):wpAny (model prog w) A (pyNext (.ref it)) Q E s:=by
 obtain⟨o,ho,hc,hd⟩:=id y;unfold pyNext
 refine wpAny_bind (wpAny_attempt (wpAny_callSpecial?_slot (name:=Str.ofString "__next__") y.typeIs yu
  (wpAny_call_entry yu y.typeIs J8 ?_ (J9 _))))
 unfold Builtin.«set_iterator.__next__»;refine wpAny_bind (wpAny_of_eq (a:=(Value.ref it,[])) rfl ?_)
 try dsimp only
 refine wpAny_bind (wpAny_fieldsOf ho hd ?_);show wpAny _ _ (setEntries a >>= _) _ _ s;unfold setEntries;refine wpAny_bind (wpAny_bind (vR x (wpAny_pure ?_)));refine wpAny_ite_split (λhab=>?_) (λ_=>?_);simp at hab;show wpAny _ _ (setNext a ((mz w t i:Nat):Int).toNat ((i:Nat):Int).toNat ((ep:Nat):Int).toNat >>= _) _ _ s;rw[VB,VB,VB];refine wpAny_bind (Ka x (Wg hi) ?_);obtain⟨e,he⟩:∃e,(jk w a ep es)[i]?=some e:=⟨_,Xe (by rw[x.Gv];exact hi)⟩;rw[he];dsimp only[Option.map];refine wpAny_bind (wpAny_setField ho hd (by simp) ?_);have Ae:=VZ (Obj.mapFields λx=>x.setIfInBounds 0 (rawInt ((mz w t (i+1):Nat):Int))) ho (Obj.isFreed_of_fields (Obj.data_mapFields hd _));have hd1:=Obj.data_mapFields hd (λx=>x.setIfInBounds 0 (rawInt ((mz w t (i+1):Nat):Int)));refine wpAny_bind (wpAny_setField Ae hd1 (by simp) ?_);refine wpAny_pure ⟨e.2,rfl,?_⟩;refine wpAny_pure (hQ _ _ (by rw[he];rfl) ⟨_,VZ _ Ae (Obj.isFreed_of_fields (Obj.data_mapFields hd1 _)),(Obj.cls_mapFields ..).trans ((Obj.cls_mapFields ..).trans hc),?_⟩ ((Wi ..).trans (Wi ..)).extBut);rw[Obj.data_mapFields hd1];simp[rawInt]
def vS{it:Addr}{Q:Option Value->Shared->Prop}(hh:A.handled=none)(x:S2 w s.heap a es ep t)(y:o7 s.heap it (mz w t es.size) es.size (.ref a) es.size ep)
  (hQ:∀h',Heap.ExtBut it s.heap h'->Q none { s with heap:=h' }):wpAny (model prog w) A (pyNext (.ref it)) Q E s:=by
 obtain⟨o,ho,hc,hd⟩:=id y;unfold pyNext
 refine wpAny_bind (wpAny_attempt (wpAny_callSpecial?_slot (name:=Str.ofString "__next__") y.typeIs yu
  (wpAny_call_entry yu y.typeIs J8 ?_ (J9 _))))
 unfold Builtin.«set_iterator.__next__»;refine wpAny_bind (wpAny_of_eq (a:=(Value.ref it,[])) rfl ?_)
 try dsimp only
 refine wpAny_bind (wpAny_fieldsOf ho hd ?_);show wpAny _ _ (setEntries a >>= _) _ _ s;unfold setEntries;refine wpAny_bind (wpAny_bind (vR x (wpAny_pure ?_)));refine wpAny_ite_split (λhab=>?_) (λ_=>?_);simp at hab;show wpAny _ _ (setNext a ((mz w t es.size:Nat):Int).toNat ((es.size:Nat):Int).toNat ((ep:Nat):Int).toNat >>= _) _ _ s;rw[VB,VB,VB];refine wpAny_bind (Ka x (Vp _) ?_);rw[Xm (Nat.le_of_eq x.Gv)];dsimp only[Option.map];refine wpAny_bind (wpAny_setField ho hd (by simp) ?_);refine wpAny_bind ?_;simp only[newExc,newTuple];refine wpAny_bind (wpAny_newObj_type ?_ (by size_fits));refine wpAny_bind (m:=firstArgMember _ _) (wpAny_of_eq (a:=Value.none) (by first|rfl|(simp only[firstArgMember];rfl)) ?_);refine wpAny_newObj_type ?_ (by size_fits);simp only[raiseNew];refine wpAny_bind (wpAny_handled ?_)
 first|rw[show A.in1.handled=none from hh]|rw[hh]
 refine wpAny_bind (wpAny_pure (wpAny_throw ?_));refine wpAny_bind (wpAny_isInstance (T:="StopIteration") (b:=true) ⟨_,VF _ rfl,rfl⟩ isSubtype_stop ?_);refine wpAny_pure (hQ _ ?_);exact(((Wi ..).extBut).push _).push _
def Pd{Q:Bool->Shared->Prop}(hT:s.TypeIs (.ref a) "set")(h:Q false s):wpAny (model prog w) A (Builtin.List.listLengthHint (.ref a)) Q E s:=by
 unfold Builtin.List.listLengthHint;refine wpAny_bind (wpAny_specialOf hT O8 ?_);generalize hid:("set.__len__" : String)=Pe
 wp_delta
 rw[show splitId Pe=some ("set","__len__")from by subst hid;decide +kernel];subst hid;refine wpAny_bind (wpAny_isInstance (T:="set") (b:=true) hT (by rw[isSubtype_type];kernel_rfl) ?_);refine wpAny_ite_split (λhab=>absurd hab ∅) (λ_=>?_);refine wpAny_ite_split (λ_=>?_) (λhab=>absurd (by decide +kernel) hab);exact wpAny_bind (wpAny_typeOf hT (wpAny_pure h))
def Ag:mz w t 0=0:=by unfold mz;split<;>rfl
def S2.typeIs(x:S2 w s.heap a es ep t):s.TypeIs (.ref a) "set" := let ⟨o,ho,hc,_⟩:=x.ob;⟨o,ho,hc⟩
def S2.lt{h:Heap}(x:S2 w h a es ep t):a<h.objs.size:=let ⟨_,ho,_⟩:=x.ob;Vx ho
def Pf:KdlSrc prog w "set" a a es.size (λi v=>(jk w a ep es)[i]?.map (·.2)=some v) (λh=>S2 w h a es ep t) where
 type:=λ_ x=>x.typeIs
 there:=λ_ x=>⟨x.lt,x.lt⟩
 keep:=λ_ _ x hk=>x.at λo e=>hk a (.inl rfl) o e
 notList:=by decide
 notTuple:=by decide
 hint:=λ_ _ _ _ x q=>Pd x.typeIs q
 iter:=λA s hh x=>by
  have ne:s.heap.objs.size≠a:=Xf x.lt;refine⟨_,λi h=>S2 w h a es ep t/\o7 h s.heap.objs.size (mz w t i) i (.ref a) es.size ep,λE Q q=>Pb x q,?_,x.at λo e=>Vo _ e,⟨_,VF _ rfl,rfl,by rw[Ag];rfl⟩⟩;refine⟨λb hb=>by rw[VE.mp hb];exact Vw,λi h h' ⟨x,o,ho,y⟩ k=>⟨x.at λo e=>k a (by simp) o e,o,k _ (by simp) o ho,y⟩,λi s1 Q E hi ⟨x,y⟩ hQ=>?_,λs1 Q E ⟨x,y⟩ hQ=>?_,λi s1 Q E ⟨x,y⟩ q=>Pa y.typeIs q⟩;refine Pc x y hi ne λv h' hv y' ex=>?_;exact hQ v h' _ hv ⟨x.at λo e=>ex a o (Ne.symm ne) e,y'⟩ λb o hb e=>ex b o (λz=>hb (by rw[z];exact VE.mpr rfl)) e;refine vS hh x y λh' ex=>?_;exact hQ h' _ λb o hb e=>ex b o (λz=>hb (by rw[z];exact VE.mpr rfl)) e
abbrev Gw:Value->Int
 |.int n _=>n
 |_=>0
def Dy:∀{l:List Value} {ns:List Int},IntsAre l ns↔ns=l.map Gw/\∀v∈l,∃n t,v=Value.int n t
 |[],ns=>⟨λh=>by cases h;exact⟨rfl,λv hv=>nomatch hv⟩,λ⟨h,_⟩=>by rw[h];exact .nil⟩
 | v :: l,ns=>⟨λh=>by
   cases h with
   |cons n t r =>
    obtain⟨e,a⟩:=Dy.mp r;refine⟨by rw[e];rfl,λu hu=>?_⟩;rcases VJ.mp hu with rfl|hu
    exact⟨_,_,rfl⟩;exact a u hu,λ⟨e,a⟩=>by
   obtain⟨n,t,rfl⟩:=a v Vw;rw[e]
   exact .cons n t (Dy.mpr ⟨rfl,λu hu=>a u (VA _ hu)⟩)⟩
def Pg{l l':List Value}{ns:List Int}(h:IntsAre l ns)(p:l'.Perm l):∃ns',IntsAre l' ns'/\ns'.Perm ns:=by obtain⟨e,a⟩:=Dy.mp h;exact⟨_,Dy.mpr ⟨rfl,λv hv=>a v (p.mem_iff.mp hv)⟩,by rw[e];exact p.map _⟩
def Ph{ns:List Int}{Q:Value->Shared->Prop}(hh:A.handled=none)(x:S2 w s.heap a es ep t)(hI:IntsAre (es.toList.map (·.2)) ns)
  (h:∀(D:Addr) (h':Heap) (tk:Nat) (out:Array Value) (ms:List Int) (e:Nat),a<D->(∀b o,s.heap.get? b=some o->h'.get? b=some o)->h'.get? D=some (seqObj "list" out e)->IntsAre out.toList ms->ms.Perm ns->ms.Pairwise (·<=·)->Q (.ref D) { s with heap:=h',toks:=tk }) :
  wpAny (model prog w) A (call (.builtin "sorted") [.ref a]) Q E s:=by
 refine Calls.call_function_entry kind_sorted plain_sorted entry_sorted (args_sorted1 _) ?_;unfold Builtin.«sorted»;refine wpAny_bind (m:=checkCount "sorted" 1 1 _) (wpAny_pure ?_);have hz:=x.sz;refine wpAny_bind (kdu_collect (A:=A.in1) (Pf (a:=a) (es:=es) (ep:=ep) (t:=t)) hh x (VH (show es.size<=2 by lk) ∅) λh1 tk acc hk hacc=>?_);have hl:acc.toList.length=es.size:=by rw[Wv];exact hacc.1
 have ha:acc.toList=(jk w a ep es).toList.map (·.2):=by
  refine WO λj=>?_;have eo:(jk w a ep es).toList[j]?=(jk w a ep es)[j]?:=WB;rw[Vr,eo];by_cases hj:j<es.size;have hj2:j<acc.toList.length:=by lk
  have:=hacc.2 j _ (by rw[<- WB];exact Vn hj2);rw[Vn hj2];exact this.symm
  rw[V0 ⋯,Xm (by rw[x.Gv];lk)];rfl
 obtain⟨ns',hI',Pj⟩:=Pg hI (x.perm.map (·.2));refine wpAny_bind (wpAny_newList ?_ (by rw[hl];exact VH (show es.size<=2 by lk) ∅));have pL:(h1.push (seqObj "list" acc.toList.toArray 0)).get? h1.objs.size=some (seqObj "list" acc.toList.toArray 0):=VF _ rfl;show wpAny _ _ _ _ _ { s with heap:=h1.push (seqObj "list" acc.toList.toArray 0),toks:=tk };refine wpAny_bind (wpAny_holding (wpAny_call_entry slot_list_sort ⟨_,pL,rfl⟩ entry_list_sort (list_sort_tree pL (ns:=ns') (by rw[ha];exact hI') (by rw[hl];lk) λout ms a1 a2 a3=>⟨_,rfl,?_⟩) (args_list_sort _)));obtain⟨e,he⟩:=sortedHeap_at (out:=out) pL;have hsz:a<h1.objs.size:=let ⟨_,ho,_⟩:=x.ob;Vx (hk _ _ ho)
 refine wpAny_pure ⟨_,rfl,h h1.objs.size _ _ out ms e hsz (λb ob hb=>?_) he a1 (a2.trans Pj) a3⟩;have hb1:=hk b ob hb;have hlt:=Vx hb1;rw[sortedHeap_old (VS hlt) (by rw[size_push'];exact Nat.lt_succ_of_lt hlt),Heap.get?_push_ne _ _ _ (VS hlt)];exact hb1
end
abbrev tb(l:List Nat)(led:Bool):SetTable:={ mask:=7,place:=l.toArray,dummies:=#[],finger:=0,led,moves:=0,plain:=true }
def Ah:∀led:Bool,∀k:Nat,k<60->(tb [] led).freeSlot (k:Int)=some (k % 8,false):=by decide +kernel
def Ai:∀led:Bool,∀p:Nat,p<8->∀k:Nat,k<60->∃j:Nat,j<8/\j≠p/\(tb [p] led).freeSlot (k:Int)=some (j,false):=by decide +kernel
def vO{led:Bool}{k:Nat}(hk:k<60)(x:Value):layNew (tb [] led) #[] (k:Int) x=(#[((k:Int),x)],tb [k % 8] led,false,false):=by unfold layNew;rw[Ah led k hk];rfl
def Gx{led:Bool}{k p:Nat}(hp:p<8)(hk:k<60)(e:Int×Value)(x:Value):∃j:Nat,j<8/\((p<j/\layNew (tb [p] led) #[e] (k:Int) x=(#[e,((k:Int),x)],tb [p,j] led,false,false))\/(j<p/\layNew (tb [p] led) #[e] (k:Int) x=(#[((k:Int),x),e],tb [j,p] led,false,false))):=by
 obtain⟨j,hj,hne,hf⟩:=Ai led p hp k hk;refine⟨j,hj,?_⟩;unfold layNew;rw[hf];rcases Nat.lt_or_gt_of_ne hne with h|h
 right;refine⟨h,?_⟩;have hb:SetTable.below (tb [p] led).place j=0:=by
  have:¬p<j:=by lk
  simp[tb,SetTable.below,SetTable.below.go,this]
 have vT:(tb [p] led).put j=(tb [j,p] led,0):=by
  unfold SetTable.put;dsimp only;rw[hb];rfl
 dsimp only;rw[vT];rfl;left;refine⟨h,?_⟩;have hb:SetTable.below (tb [p] led).place j=1:=by
  simp[tb,SetTable.below,SetTable.below.go,h]
 have vT:(tb [p] led).put j=(tb [p,j] led,1):=by
  unfold SetTable.put;dsimp only;rw[hb];rfl
 dsimp only;rw[vT];rfl
section
variable {prog:Program}{w:World}{A:Around}{E:Value->Shared->Prop}{s:Shared}{a:Addr}{o:Obj}{es:Array (Int×Value)}{ep:Nat}{t:SetTable}
def Gy:∀k:Nat,k<60->hashInt (k:Int)=(k:Int):=by decide +kernel
def Kb{k:Nat}{tk:Tok}{ad:Bool}{Q:ScanMet->Shared->Prop}(hk:k<60)(ho:s.heap.get? a=some o)(hd:o.data=.set es ep t)(hf:t.fits es.size=true)(hel:ElemsOf (intKind prog w) es.toList)
  (h:Q (match es.toList.findIdx? (λe=>(intKind prog w).is (k:Int) e.2)with|some j=>.found (0+j)|none=>.absent) s):wpAny (model prog w) A (setScan a (.int k tk) (k:Int) ad es) Q E s:=by
 have:=wpAny_setScan_of (A:=A) (E:=E) (adding:=ad) (knd:=intKind prog w) (k:=(k:Int)) (x:=.int k tk) (intKind_is _ _ _ _) ho hd hf hel h;rw[show(intKind prog w).hash (k:Int)=(k:Int)from Gy k hk]at this;exact this
def Gz{k:Nat}{tk:Tok}{es':Array (Int×Value)}{t':SetTable}{Q:Bool->Shared->Prop}(ho:s.heap.get? a=some o)(hd:o.data=.set es ep t)(hf:t.fits es.size=true)(hel:ElemsOf (intKind prog w) es.toList)(hz:es.size<10)(hk:k<60)
  (hno:es.toList.findIdx? (λe=>(intKind prog w).is (k:Int) e.2)=none) (hl:layNew t es (k:Int) (.int k tk)=(es',t',false,false)) (hp:t'.plain=true) (hF:t'.tooFull=false) (hz':es'.size<10)
  (h:Q true { s with heap:=s.heap.update a (Obj.putSet es' t') }):wpAny (model prog w) A (setAddHashed a (.int k tk) (k:Int)) Q E s:=by
 unfold setAddHashed setAddHashedIn;refine wpAny_holding (wpAny_bind (wpAny_setState_of ho hd hf ?_));have hb:byScan (.int k tk) es=true:=byScan_of (knd:=intKind prog w) rfl (W5 hz ∅) hel;dsimp only;rw[hb];simp only[if_true];unfold setAddByScan;refine wpAny_bind (wpAny_bind (wpAny_rule (wpAny_bind ?_)));refine Kb hk ho hd hf hel ?_;rw[hno];dsimp only;rw[hl];dsimp only;refine wpAny_bind (show wpAny _ _ (pure ()) _ _ _ from wpAny_pure ?_);rw[hp];simp only[if_true];refine wpAny_bind (wpAny_of_eq (a:=true) rfl ?_);simp only[if_true];refine wpAny_bind (wpAny_storeSet_of ho hd ?_ (VH (Wg hz') ∅));rw[hF];simp only[Bool.not_false,Bool.and_false,V5,if_false];exact wpAny_pure (wpAny_pure h)
def Pk{k j:Nat}{tk:Tok}{Q:Bool->Shared->Prop}(ho:s.heap.get? a=some o)(hd:o.data=.set es ep t)(hf:t.fits es.size=true)(hel:ElemsOf (intKind prog w) es.toList)(hz:es.size<10)(hk:k<60)
  (hin:es.toList.findIdx? (λe=>(intKind prog w).is (k:Int) e.2)=some j) (h:Q false s):wpAny (model prog w) A (setAddHashed a (.int k tk) (k:Int)) Q E s:=by
 unfold setAddHashed setAddHashedIn;refine wpAny_holding (wpAny_bind (wpAny_setState_of ho hd hf ?_));have hb:byScan (.int k tk) es=true:=byScan_of (knd:=intKind prog w) rfl (W5 hz ∅) hel;dsimp only;rw[hb];simp only[if_true];unfold setAddByScan;refine wpAny_bind (wpAny_bind (wpAny_rule (wpAny_bind ?_)));refine Kb hk ho hd hf hel ?_;rw[hin];exact wpAny_pure (wpAny_pure h)
abbrev SB(w:World)(h:Heap)(a:Addr)(ks:List Nat):Prop:=∃o es ep l,h.get? a=some o/\o.cls=.type "set" /\ o.data=.set es ep (tb l (!rj w)) /\
 ((ks=[]/\es=#[]/\l=[])\/(∃k t p,ks=[k]/\k<60/\es=#[((k:Int),Value.int k t)]/\l=[p]/\p<8) \/
  ∃k k' t t' p q,ks.Perm [k,k']/\k≠k'/\es=#[((k:Int),Value.int k t),((k':Int),Value.int k' t')]/\l=[p,q]/\p<q)
def Kc{k m:Nat}{t:Tok}:(intKind prog w).is (k:Int) (.int m t)=decide (k=m):=by have:=KeyKind.is_eq_decide (knd:=intKind prog w) (intKind_is prog w (m:Int) t) (k:Int);rw[this];exact decide_eq_decide.mpr ⋯
def GA{k:Nat}{t:Tok}(hk:k<60):ElemsOf (intKind prog w) [((k:Int),Value.int k t)]:=λe he=>by
 rw[VE.mp he];exact⟨⟨(k:Int),intKind_is _ _ _ _,(Gy k hk).symm⟩,rfl⟩
def GB{es':Array (Int×Value)}{t':SetTable}(ho:s.heap.get? a=some o)(hd:o.data=.set es ep t):(s.heap.update a (Obj.putSet es' t')).get? a=some { o with data:=.set es' (ep+1) t' }:=by have:=VZ (Obj.putSet es' t') ho (by rw[putSet_of es' t' hd];rfl);rw[putSet_of es' t' hd]at this;exact this
def vU{k:Nat}{tk:Tok}{ks:List Nat}{Q:Bool->Shared->Prop}(x:SB w s.heap a ks)(hl:ks.length<=1)(hk:k<60)(h:∀b h',Heap.SameBut a s.heap h'->SB w h' a (if k∈ks then ks else ks ++ [k])->Q b { s with heap:=h' }):wpAny (model prog w) A (setAddHashed a (.int k tk) (k:Int)) Q E s:=by
 obtain⟨o,es,ep,l,ho,hc,hd,hs⟩:=x;rcases hs with⟨rfl,rfl,rfl⟩|⟨m,t,p,rfl,hm,rfl,rfl,hp⟩|⟨m,m',t,t',p,q,GD,_⟩
 refine Gz ho hd rfl (λe he=>nomatch he) ∅ hk rfl (vO hk _) rfl rfl (by show 1<10;decide) (h _ _ (Wi ..) ⟨_,_,_,_,GB ho hd,hc,rfl,.inr (.inl ⟨k,tk,k % 8,by simp,hk,rfl,rfl,Nat.mod_lt _ ∅⟩)⟩);by_cases e:k=m;subst e;refine Pk (j:=0) ho hd rfl (GA hm) (by show 1<10;decide) hk (by simp[Kc]) ?_;have:=h false s.heap (Heap.SameBut.refl a s.heap) ⟨o,_,ep,_,ho,hc,hd,.inr (.inl ⟨k,t,p,by simp,hm,rfl,rfl,hp⟩)⟩;exact this;have hno:(List.findIdx? (λe=>(intKind prog w).is (k:Int) e.2) (#[((m:Int),Value.int m t)]:Array (Int×Value)).toList)=none:=by simp[Kc,e]
 have hks:(if k∈[m]then[m]else[m] ++ [k])=[m,k]:=by simp[e]
 rw[hks]at h;obtain⟨j,hj,⟨hlt,hlay⟩|⟨hlt,hlay⟩⟩:=Gx (led:=!rj w) hp hk ((m:Int),Value.int m t) (.int k tk);exact Gz ho hd rfl (GA hm) (by show 1<10;decide) hk hno hlay rfl rfl (by show 2<10;decide) (h _ _ (Wi ..) ⟨_,_,_,_,GB ho hd,hc,rfl,.inr (.inr ⟨m,k,t,tk,p,j,.refl _,Ne.symm e,rfl,rfl,hlt⟩)⟩);exact Gz ho hd rfl (GA hm) (by show 1<10;decide) hk hno hlay rfl rfl (by show 2<10;decide) (h _ _ (Wi ..) ⟨_,_,_,_,GB ho hd,hc,rfl,.inr (.inr ⟨k,m,tk,t,j,p,.swap ..,e,rfl,rfl,hlt⟩)⟩)
 have:=GD.length_eq
 simp at this;lk
def SB.s2{h:Heap}{ks:List Nat}(x:SB w h a ks)(h0:ks≠[]):∃es ep t ns,S2 w h a es ep t/\IntsAre (es.toList.map (·.2)) ns/\ns.Perm (ks.map λk:Nat=>(k:Int)):=by
 obtain⟨o,es,ep,l,ho,hc,hd,hs⟩:=x;rcases hs with⟨rfl,rfl,rfl⟩|⟨m,t,p,rfl,hm,rfl,rfl,hp⟩|⟨m,m',t,t',p,q,GD,hne,rfl,rfl,hpq⟩
 exact absurd rfl h0;exact⟨_,ep,_,[(m:Int)],⟨⟨o,ho,hc,hd⟩,rfl,rfl,rfl,.inl ⟨_,p,rfl,rfl⟩⟩,.cons _ _ .nil,.refl _⟩;exact⟨_,ep,_,[(m:Int),(m':Int)],⟨⟨o,ho,hc,hd⟩,rfl,rfl,rfl,.inr ⟨_,_,p,q,rfl,rfl,hpq⟩⟩,.cons _ _ (.cons _ _ .nil),(GD.map _).symm⟩
abbrev jF(val:Nat->Nat):Nat->List Nat
 |0=>[]
 |i+1=>if val i∈jF val i then jF val i else jF val i ++ [val i]
def Kd(val:Nat->Nat):∀i,(jF val i).length<=i
 |0=>Vp _
 |i+1=>by
  have:=Kd val i;unfold jF;split
  lk;rw[Vq];simp;lk
def SB.mv{h h':Heap}{ks:List Nat}(x:SB w h a ks)(k:∀o,h.get? a=some o->h'.get? a=some o):SB w h' a ks:=by obtain⟨o,es,ep,l,ho,r⟩:=x;exact⟨o,es,ep,l,k o ho,r⟩
def Pm{R:Result->Shared->Prop}{I:Addr}{fp wr:List Addr}{G:Array GenState->Array GenState->Prop}{n:Nat}{P:Nat->Value->Prop}{St:Nat->Shared->Prop}(W:WalksS prog w A.in1 I fp wr G n P St)(hSf:a ∉ fp)(val:Nat->Nat)(hval:∀i v,P i v->∃t,v=.int (val i:Int) t)(hv:∀i,i<n->val i<60)(hn:n<=2):
  ∀(k i:Nat) (s:Shared),n-i=k->i<=n->St i s->SB w s.heap a (jF val i)->(∀s',Moved (a :: wr) G s s'->SB w s'.heap a (jF val n)->R (.ok (.ret .none)) s')->codeAny (model prog w) A (.builtin "set.update.loop" ⟨[.ref a,.ref I],[]⟩) R s:=by
 have tN:a ∉ wr:=λh=>hSf (W.sub _ h);have up:∀b∈wr,b∈a :: wr:=λb hb=>VA _ hb;intro k
 induction k with
 |zero =>
  intro i s hk hi hst x hR;obtain rfl:i=n:=by lk
  refine codeAny_builtin F.entry_set_update_loop ?_;rw[Around.under_plainId F.plain_set_update_loop _];show wpAny _ A.in1 (pyNext (.ref I) >>= _) _ _ s;exact wpAny_bind (W.done s _ _ hst λs' hm=>wpAny_pure (hR s' (hm.mono up) (x.mv λo e=>hm.heap a _ tN e)))
 |succ k ih =>
  intro i s hk hi hst x hR;have hlt:i<n:=by lk
  refine codeAny_builtin F.entry_set_update_loop ?_;rw[Around.under_plainId F.plain_set_update_loop _];show wpAny _ A.in1 (pyNext (.ref I) >>= _) _ _ s;refine wpAny_bind (W.item i s _ _ hlt hst λv s' hP o5 hm=>?_);obtain⟨tk,rfl⟩:=hval i v hP;show wpAny _ A.in1 (holding [Value.int (val i:Int) tk] (setAdd a (.int (val i:Int) tk)) >>= _) _ _ s';refine wpAny_bind (wpAny_holding ?_);unfold setAdd;refine wpAny_holding (wpAny_bind ((intKind prog w).pyHash (k:=(val i:Int)) (intKind_is _ _ _ _) ?_));rw[show(intKind prog w).hash (val i:Int)=(val i:Int)from Gy _ (hv i hlt)];refine vU (s:={ s' with toks:=s'.toks+1 }) (x.mv λo e=>hm.heap a _ tN e) (VH (Kd val i) ⋯) (hv i hlt) λb h' Ke x'=>?_;refine wpAny_pure ⟨plainId_quiet F.plain_set_update_loop _,ih (i+1) _ ⋯ hlt (W.frame _ s' _ _ o5 (Wc _) λb hb o e=>?_) x' λs'' GF x''=>?_⟩;rw[Ke.2 b (λz:b=a=>hSf (by rw[<- z];exact hb))];exact e;refine hR s'' (Moved.trans W.gtrans ((hm.mono up).then_heap (Wc _) λb o hb e=>?_) GF) x'';rw[Ke.2 b (λz:b=a=>hb (by rw[z];exact Vw))];exact e
abbrev mP(w:World):Obj:={ cls:=.type "set",dict:=none,data:=.set #[] 0 (tb [] (!rj w)) }
def Pn{Q:Value->Shared->Prop}(h:Q (.ref s.heap.objs.size) { s with heap:=s.heap.push (mP w) }):wpAny (model prog w) A (newSet (.type "set")) Q E s:=by unfold newSet;refine wpAny_bind (Dx ?_);exact wpAny_newObj_type h
def Po{v:Value}{Q:Value->Shared->Prop}(h:Q (.ref s.heap.objs.size) { s with heap:=s.heap.push (mP w) }):codeAny (model prog w) A (.call (.builtin "set.__new__") ⟨[.type "set",v],[]⟩) (wants Q E) s:=by refine codeAny_of_tree ?_;show wpAny _ A.in1 (do checkBuiltinCall "set.__new__" ⟨[.type "set",v],[]⟩;again (.builtin "set.__new__" ⟨[.type "set",v],[]⟩)) _ _ s;refine wpAny_bind (wpAny_of_eq (PySem.F.newCall_set_1 v) (wpAny_pure ⟨plainId_quiet PySem.F.plain_set_new _,codeAny_builtin PySem.F.entry_set_new ?_⟩));rw[Around.under_plainId PySem.F.plain_set_new _];have hsub:=sub_set_self;unfold Builtin.«set.__new__» Builtin.Frozenset.newClass;refine wpAny_bind ?_;show wpAny _ _ (isType (.type "set") >>= _) _ _ s;refine wpAny_bind (wpAny_of_eq (a:=true) rfl ?_);refine wpAny_ite_split (λhab=>absurd hab ∅) (λ_=>?_);refine wpAny_bind (wpAny_of_eq hsub ?_);refine wpAny_ite_split (λhab=>absurd hab ∅) (λ_=>?_);exact wpAny_pure (wpAny_bind (Pn (wpAny_pure h)))
end
section
variable {prog:Program}{w:World}{A:Around}{E:Value->Shared->Prop}{s:Shared}
def Pp{l S:Addr}{items:Array Value}{val:Nat->Nat}{Q:Value->Shared->Prop}(hh:A.handled=none)(hl:s.heap.IsList l items)(hS:s.heap.get? S=some (mP w))(hne:l≠S)
  (hi:∀i (v:Value),items[i]?=some v->∃t,v=.int (val i:Int) t) (hv:∀i,i<items.size->val i<60) (hn:items.size<=2)
  (h:∀(h':Heap) (tk:Nat),SB w h' S (jF val items.size)->(∀b o,b≠S->s.heap.get? b=some o->h'.get? b=some o)->Q .none { s with heap:=h',toks:=tk }) :
  wpAny (model prog w) A (Builtin.«set.__init__» ⟨[.ref S,.ref l],[]⟩) (λc s1=>∃v,c=.done (.ret v)/\Q v s1) E s:=by
 obtain⟨ol,Pq,hcl,nl,hdl⟩:=id hl;obtain⟨oc,od,U8,os⟩:=ol;dsimp only at hcl hdl;subst hcl hdl;unfold mP at hS;have e1:=PySem.F.sub_list_set;have e2:=PySem.F.sub_list_frozenset;have e3:(Value.type "list" == Value.type "dict")=false:=by decide
 unfold Builtin.«set.__init__» noKeywords Builtin.Frozenset.updateFrom;generalize hP:pyIter=PI
 wp_walk
 subst hP;refine wpAny_pyIter_list hl ?_;refine wpAny_bind (wpAny_runValue ?_);have n1:l≠s.heap.objs.size:=VS (Vx Pq);have n2:S≠s.heap.objs.size:=VS (Vx hS);refine Pm ((Walks.list (by simp[hh]) _ l n1 items).toS) (by simp only[VJ,Wz,or_false,not_or];exact⟨n2,Ne.symm hne⟩) val hi hv hn (items.size-0) 0 _ rfl (VX _) ⟨⟨_,VF _ rfl,rfl,rfl⟩,hl.push _⟩ ⟨_,_,_,_,Vo _ hS,rfl,rfl,.inl ⟨rfl,rfl,rfl⟩⟩ λs' hm hx=>?_;obtain⟨h',g',d',tk',os'⟩:=s';obtain rfl:g'=s.gens:=hm.gens;obtain rfl:d'=s.drawn:=hm.drawn;obtain rfl:os'=s.os:=hm.os;show wpAny _ _ _ _ _ _;refine wpAny_pure ?_;show wpAny _ _ (ret Value.none) _ _ _;refine wpAny_pure ⟨_,rfl,h h' tk' hx λb o hb e=>?_⟩;refine hm.heap b o ?_ (Vo _ e);simp only[VJ,Wz,or_false,not_or];exact⟨hb,VS (Vx e)⟩
def Pr{l:Addr}{items:Array Value}{val:Nat->Nat}{Q:Value->Shared->Prop}(hh:A.handled=none)(hl:s.heap.IsList l items)
  (hi:∀i (v:Value),items[i]?=some v->∃t,v=.int (val i:Int) t) (hv:∀i,i<items.size->val i<60) (hn:items.size<=2)
  (h:∀(h':Heap) (tk:Nat),SB w h' s.heap.objs.size (jF val items.size)->(∀b o,s.heap.get? b=some o->h'.get? b=some o)->Q (.ref s.heap.objs.size) { s with heap:=h',toks:=tk }) :
  wpAny (model prog w) A (call (.type "set") [.ref l]) Q E s:=by
 obtain⟨c,tl,Pt⟩:=PySem.F.called_set.mro;have g1:=PySem.F.called_set.made;have g2:=PySem.F.called_set.sub;have g3:=PySem.F.called_set.notType;have g4:=PySem.F.called_set.canCreate;have g5:=PySem.F.typeCall_set_1 (.ref l);refine wpAny_call (codeAny_of_tree ?_);show wpAny _ _ (callAny (.type "set") _) _ _ _;refine wpAny_pure ⟨Code.quiet_builtin _ (by decide +kernel),codeAny_builtin PySem.F.entry_type_call ?_⟩;rw[Around.under_plain (weight_type_call_type "set" [.ref l] []) rfl]
 repeat (any_goals (first|assumption|wp_step))
 refine codeAny_mono (Po (E:=E) (Q:=λv s1=>v=.ref s.heap.objs.size/\s1={ s with heap:=s.heap.push (mP w) }) ⟨rfl,rfl⟩) λr s1 hr=>?_
 match r,hr with
 |.error e,hr=>exact hr
 |.ok (.ret v),⟨ev,es⟩ =>
  subst ev es;have hS:(s.heap.push (mP w)).get? s.heap.objs.size=some (mP w):=VF _ rfl;have hT:Shared.TypeIs { s with heap:=s.heap.push (mP w) } (.ref s.heap.objs.size) "set" := ⟨_,hS,rfl⟩;have k1:=PySem.F.called_set.init.lookup;have k2:=PySem.F.called_set.init.bind (.ref s.heap.objs.size)
  repeat (any_goals (first|assumption|wp_step))
  refine codeAny_mono (codeAny_call_builtin (R:=wants (λr s2=>r=.none/\Q (.ref s.heap.objs.size) s2) E) PySem.F.called_set.init.plain PySem.F.entry_set_init (check_set_init_1 hT ?_)) λr2 s2 hr2=>?_
  ·have hne:l≠s.heap.objs.size:=let ⟨_,e,_⟩:=hl;VS (Vx e)
   refine wpAny_mono (Pp (E:=E) (Q:=λr s2=>r=.none/\Q (.ref s.heap.objs.size) s2) (by simp[hh]) (hl.push _) hS hne hi hv hn λh' tk x k=>⟨rfl,h h' tk x λb o e=>k b o (VS (Vx e)) (Vo _ e)⟩) (λc s2 q=>?_) λ_ _ e=>e;obtain⟨v,rfl,q⟩:=q;exact q
  ·match r2,hr2 with
   |.error e,hr2=>exact hr2
   |.ok (.ret v),⟨ev,q⟩ =>
    subst ev
    repeat (any_goals (first|assumption|wp_step))
end
abbrev jX(i j:Nat):List Int:=if i=j then[(i:Int)]else if i<j then[(i:Int),(j:Int)]else[(j:Int),(i:Int)]
def Pu{i j:Nat}{ms:List Int}{val:Nat->Nat}(h0:val 0=i)(h1:val 1=j)(p:ms.Perm ((jF val 2).map λk:Nat=>(k:Int)))(s:ms.Pairwise (·<=·)):ms=jX i j:=by
 have e:jF val 2=if i=j then[i]else[i,j]:=by
  simp only[jF,h0,h1,Wz,if_false,List.nil_append,VE,List.singleton_append];by_cases e:i=j;subst e;simp;have e':¬j=i:=λz=>e z.symm;simp[e,e']
 rw[e]at p;unfold jX;by_cases e:i=j;rw[if_pos e]at p ⊢;exact List.perm_singleton.mp p;rw[if_neg e]at p ⊢;have q:(if i<j then[(i:Int),(j:Int)]else[(j:Int),(i:Int)]).Perm [(i:Int),(j:Int)]:=by
  split;exact .refl _;exact .swap ..
 refine(p.trans q.symm).eq_of_pairwise (λa b _ _ h1 h2=>Int.le_antisymm h1 h2) s ?_;split;simp;lk;simp;lk
abbrev qu(te:TE):TE:=λσ H Q=>te σ H λx H1=>∃(a:Addr) (i j:Nat),x=.ref a/\H1 a=some (.lst [.int i,.int j])/\i<60/\j<60/\∀l,H1 l=none->Q (.ref l) (upd H1 l (.lst ((jX i j).map V.int)))
section
variable {X:Cx}{e:Expr}{te:TE}{cpos pos p p2:Pos}
def Pw(hc:X.calm=true)(hg:Gl X "sorted")(hm:X.mg "sorted" = none)(qv:Gl X "set")(hm2:X.mg "set" = none)(ho:PE X e te)
  (hs:starEach [.Call (.Name "set" p2) [e] [] cpos] X.env=[(false,eval (.Call (.Name "set" p2) [e] [] cpos) X.env)]:=by rfl)
  (hs2:starEach [e] X.env=[(false,eval e X.env)]:=by rfl) :
  PE X (.Call (.Name "sorted" p) [.Call (.Name "set" p2) [e] [] cpos] [] pos) (qu te):=by
 intro pins s σ H Q I h;refine wpAny_Call_Name_kw (yh I hg hm Dh ?_ ∅ ∅);refine PyProof.Rows.callWith_builtin1 ?_ hs rfl;rw[hs];show wpAny _ _ (spliced [(false,eval (.Call (.Name "set" p2) [e] [] cpos) X.env)]) _ _ s;refine Calls.spliced_cons (wpAny_Call_Name_kw (yh I qv hm2 vH ?_ ∅ ∅));refine PyProof.Rows.callWith_type1 ?_ hs2 rfl;rw[hs2];show wpAny _ _ (spliced [(false,eval e X.env)]) _ _ s;refine Calls.spliced_cons (bM (ho pins s σ H _ I h) λu s1 ⟨x,H1,I1,rx,a,i,j,ex,hH,hi,hj,q⟩=>?_);subst ex;obtain rfl:u=Value.ref a:=rx;refine Calls.spliced_nil ?_;obtain⟨_,its,ep,rv,ha⟩:=(show bq X.prog X.w H1 s1.heap a (.lst [.int i,.int j])from I1.hok a _ hH);obtain⟨v0,v1,rfl,r0,r1⟩:=vals2 rv;obtain⟨t0,rfl⟩:=r0;obtain⟨t1,rfl⟩:=r1;refine Pr (val:=λk=>if k=0 then i else j) (I1.ok.hd hc) (items:=#[.int i t0,.int j t1]) ⟨_,ha,rfl,ep,rfl⟩ (λk v hk=>?_) (λk hk=>by show(if k=0 then i else j)<60;split;exact hi;exact hj) (by simp) λh' tk x kp=>?_
 match k,hk with
 |0,hk=>exact⟨t0,by simpa using hk.symm⟩
 |1,hk=>exact⟨t1,by simpa using hk.symm⟩
 |k+2,hk=>simp at hk
 refine Calls.spliced_nil ?_;obtain⟨es,U9,t,ns,x2,hI,hp⟩:=x.s2 (by simp[jF];split<;>simp);refine Ph (s:={ s1 with heap:=h',toks:=tk }) (I1.ok.hd hc) x2 hI λD h2 Px out ms e2 hD Py he a1 a2 a3=>?_;have em:=Pu (i:=i) (j:=j) rfl rfl (a2.trans hp) a3;subst em;refine⟨.ref D,_,I1.laid (t':=Px) (o:=.lst ((jX i j).map V.int)) (λb ob hb=>Py b ob (kp b ob hb)) (Wg hD) ?_,rfl,q _ (I1.hok.fresh (Wg hD))⟩;have hl:(jX i j).length<=2:=by unfold jX;split;exact Wc 1;split<;>exact Vp 2
 exact⟨by rw[Vl];exact VH hl ∅,out.toList,e2,Df a1,by simpa using he⟩
end
end L2
namespace ae
abbrev upto(n:Nat):List Int:=(List.range n).map λ(k:Nat)=>(k:Int)
def oG(n:Nat):(upto n).length=n:=by simp[upto]
def kN{n:Nat}{x:Int}:x∈upto n↔0<=x/\x<(n:Int):=by simp only[upto,Vy,Wq];constructor;rintro⟨k,hk,rfl⟩;lk;rintro⟨h1,h2⟩;exact⟨x.toNat,by lk,by lk⟩
def Pz(n:Nat):(upto n).Pairwise (· < ·):=by unfold upto;rw[W2];exact(List.pairwise_lt_range).imp λh=>by lk
def Kf(n:Nat):(upto n).Nodup:=(Pz n).imp λh=>by lk
def Kg:∀{xs ys:List Int},xs.Perm ys->xs.Pairwise (·<=·)->ys.Pairwise (·<=·)->xs=ys
 |[],ys,p,_,_=>(List.nil_perm.mp p).symm
 |x :: xs,[],p,_,_=>absurd p.length_eq (by simp)
 |x :: xs,y :: ys,p,hx,hy=>by
  obtain⟨PB,PD⟩:=XC.mp hx;obtain⟨hy1,qe⟩:=XC.mp hy;have e:x=y:=by
   have h1:x∈y :: ys:=p.subset Vw;have h2:y∈x :: xs:=p.symm.subset Vw;rcases VJ.mp h1 with e|h1
   exact e;rcases VJ.mp h2 with e|h2
   exact e.symm
   have:=PB y h2;have:=hy1 x h1;lk
  subst e;rw[Kg (List.perm_cons x |>.mp p) PD qe]
def Dz:∀{xs ys:List Int},xs.Nodup->(∀x∈xs,x∈ys)->ys.length<=xs.length->xs.Perm ys
 |[],ys,_,_,h=>by
  have:ys=[]:=Xx (by simpa using h);subst this;exact W6 _
 |x :: xs,ys,hn,hs,hl=>by
  obtain⟨h1,h2⟩:=WM.mp hn;have hx:x∈ys:=hs x Vw;have hp:=Xu hx;have hlen:(ys.erase x).length+1=ys.length:=by have:=hp.length_eq;simpa using this.symm
  refine List.Perm.trans (List.Perm.cons x (Dz (ys:=ys.erase x) h2 (λy hy=>?_) ?_)) hp.symm;have hne:y≠x:=λe=>h1 (e ▸ hy);exact(Xv hne).mpr (hs y (VA _ hy));simp at hl;lk
def DA{xs:List Int}(hn:xs.Nodup)(hb:∀x∈xs,0<=x/\x<(xs.length:Int)):xs.Perm (upto xs.length):=Dz hn (λx hx=>kN.mpr (hb x hx)) (by rw[oG];exact Vp _)
end ae
namespace ae
abbrev app(xs:List Int)(i:Int):Int:=xs.getD i.toNat 0
abbrev aO(xs:List Int)(i:Int):Nat->Int
 |0=>i
 |j+1=>app xs (aO xs i j)
abbrev Tn(n:Nat)(xs:List Int):Prop:=xs.Perm (upto n)
def Tn.length{n:Nat}{xs:List Int}(h:Tn n xs):xs.length=n:=by rw[h.length_eq,oG]
def Tn.nodup{n:Nat}{xs:List Int}(h:Tn n xs):xs.Nodup:=h.nodup_iff.mpr (Kf n)
def Tn.bound{n:Nat}{xs:List Int}(h:Tn n xs){x:Int}(hx:x∈xs):0<=x/\x<(n:Int):=kN.mp (h.subset hx)
def mQ{xs:List Int}{i:Int}(h0:0<=i)(h1:i<(xs.length:Int)):xs[i.toNat]?=some (app xs i):=by
 have:i.toNat<xs.length:=by lk
 unfold app;rw[Vz,Vn this];rfl
def PH{xs:List Int}{i:Int}(h0:0<=i)(h1:i<(xs.length:Int)):app xs i∈xs:=Vv (mQ h0 h1)
def Tn.app{n:Nat}{xs:List Int}(h:Tn n xs){i:Int}(h0:0<=i)(h1:i<(n:Int)):0<=app xs i/\app xs i<(n:Int):=h.bound (PH h0 (by rw[h.length];exact h1))
def Tn.inj{n:Nat}{xs:List Int}(h:Tn n xs){i j:Int}(i0:0<=i)(i1:i<(n:Int))(j0:0<=j)(j1:j<(n:Int))(e:ae.app xs i=ae.app xs j):i=j:=by have hl:=h.length;have a:=mQ i0 (by rw[hl];exact i1);have b:=mQ j0 (by rw[hl];exact j1);rw[e]at a;obtain⟨ha,ea⟩:=Vm.mp a;obtain⟨hb,eb⟩:=Vm.mp b;have:=(XQ h.nodup).mp (ea.trans eb.symm);lk
def Tn.aO{n:Nat}{xs:List Int}(h:Tn n xs){i:Int}(h0:0<=i)(h1:i<(n:Int)):∀j,0<=aO xs i j/\aO xs i j<(n:Int)
 |0=>⟨h0,h1⟩
 |j+1=>h.app (h.aO h0 h1 j).1 (h.aO h0 h1 j).2
def Tn.back{n:Nat}{xs:List Int}(h:Tn n xs){i:Int}(h0:0<=i)(h1:i<(n:Int)):∀(a d:Nat),ae.aO xs i a=ae.aO xs i (a+d)->ae.aO xs i d=i
 |0,d,e=>by rw[W7]at e;exact e.symm
 |a+1,d,e=>by
  have e':ae.app xs (ae.aO xs i a)=ae.app xs (ae.aO xs i (a+d)):=by
   have:a+1+d=(a+d)+1:=by lk
   rw[this]at e;exact e
  exact h.back h0 h1 a d (h.inj (h.aO h0 h1 a).1 (h.aO h0 h1 a).2 (h.aO h0 h1 _).1 (h.aO h0 h1 _).2 e')
def vV:∀{xs ys:List Int},xs.Nodup->(∀x∈xs,x∈ys)->xs.length<=ys.length
 |[],_,_,_=>VX _
 |x :: xs,ys,hn,hs=>by
  obtain⟨h1,h2⟩:=WM.mp hn;have hx:x∈ys:=hs x Vw;have hp:=Xu hx;have hlen:(ys.erase x).length+1=ys.length:=by have:=hp.length_eq;simpa using this.symm
  have:=vV (ys:=ys.erase x) h2 λy hy=>(Xv (a:=y) (b:=x) (λe=>h1 (by rw[<- e];exact hy))).mpr (hs y (VA _ hy));simp only[VU];lk
abbrev row(xs:List Int)(i:Int)(m:Nat):List Int:=(List.range (m+1)).map (aO xs i)
def PJ(xs:List Int)(i:Int)(m:Nat):row xs i (m+1)=row xs i m ++ [aO xs i (m+1)]:=by unfold row;rw[List.range_succ,VL];rfl
def vW(xs:List Int)(i:Int)(m:Nat):(row xs i m).length=m+1:=by simp[row]
def DB{xs:List Int}{i:Int}{m:Nat}{x:Int}:x∈row xs i m↔∃j,j<=m/\aO xs i j=x:=by unfold row;rw[Vy];constructor;rintro⟨j,hj,e⟩;exact⟨j,by have:=Wq.mp hj;lk,e⟩;rintro⟨j,hj,e⟩;exact⟨j,Wq.mpr ⋯,e⟩
abbrev NB(xs:List Int)(i:Int)(m:Nat):Prop:=∀j,1<=j->j<=m->aO xs i j≠i
def Tn.iX{n:Nat}{xs:List Int}(h:Tn n xs){i:Int}(h0:0<=i)(h1:i<(n:Int)){m:Nat}(nb:NB xs i m):m+1<=n:=by
 have hn:(row xs i m).Nodup:=by
  unfold row List.Nodup;rw[W2];refine List.Pairwise.imp_of_mem (R:=λa b=>a<b) ?_ List.pairwise_lt_range;intro a b ha hb hab e;have ha':=Wq.mp ha;have hb':=Wq.mp hb;obtain⟨d,rfl⟩:∃d,b=a+d:=⟨b-a,by lk⟩;exact nb d ⋯ ⋯ (h.back h0 h1 a d e)
 have:=vV hn (ys:=upto n) λx hx=>by
  obtain⟨j,_,rfl⟩:=DB.mp hx;exact kN.mpr (h.aO h0 h1 j)
 rw[vW,oG]at this;exact this
structure fu(xs:List Int)(i:Int)(r:List Int):Prop where
 ex:∃m,r=row xs i m/\NB xs i m/\aO xs i (m+1)=i
def fu.mem{xs:List Int}{i:Int}{r:List Int}(a:fu xs i r):i∈r:=by obtain⟨m,e1,_,_⟩:=a.ex;rw[e1];exact DB.mpr ⟨0,VX _,rfl⟩
def fu.len{n:Nat}{xs:List Int}(h:Tn n xs){i:Int}(h0:0<=i)(h1:i<(n:Int)){r:List Int}(a:fu xs i r):r.length<=n:=by obtain⟨m,e1,nb,_⟩:=a.ex;rw[e1,vW];exact h.iX h0 h1 nb
def fu.bound{n:Nat}{xs:List Int}(h:Tn n xs){i:Int}(h0:0<=i)(h1:i<(n:Int)){r:List Int}(a:fu xs i r):∀x∈r,0<=x/\x<(n:Int):=by obtain⟨m,e1,nb,_⟩:=a.ex;subst e1;intro x hx;obtain⟨j,_,rfl⟩:=DB.mp hx;exact h.aO h0 h1 j
abbrev out(left r:List Int):List Int:=left.filter λk=>!r.contains k
inductive tQ(xs:List Int):List Int->List (List Int)->Prop
 |nil:tQ xs [] []
 |cons {i:Int} {left r:List Int} {rs:List (List Int)}:fu xs i r->tQ xs (out (i :: left) r) rs->tQ xs (i :: left) (r :: rs)
abbrev from'(n k:Nat)(seen:Int->Bool):List Int:=(((List.range n).drop k).map λ(j:Nat)=>(j:Int)).filter λx=>!seen x
def PK(n:Nat)(seen:Int->Bool):from' n n seen=[]:=by unfold from';rw[Xk (by simp)];rfl
def PL{n k:Nat}(h:k<n)(seen:Int->Bool):from' n k seen=if seen (k:Int)then from' n (k+1) seen else(k:Int) :: from' n (k+1) seen:=by unfold from';rw[WQ (by simpa using h),VO,List.filter_cons];simp only[XD];cases hs:seen (k:Int)<;>simp
def PN{n k:Nat}{seen:Int->Bool}{r:List Int}:out (from' n k seen) r=from' n k (λx=>seen x || r.contains x):=by
 unfold out from';rw[List.filter_filter]
 congr 1
 funext x
 show(!r.contains x && !seen x)=!(seen x || r.contains x);cases seen x<;>cases r.contains x<;>rfl
def PQ(n:Nat):from' n 0 (λ_=>false)=upto n:=by unfold from' upto;rw[XB];simp
abbrev oH(n:Nat):List Int:=((List.range (n-1)).map λ(k:Nat)=>(1:Int)+k) ++ [0]
def PR:∀n,n<21->0<n->(oH n).isPerm (upto n)=true:=by decide
def Kh{n:Nat}(h:n<21)(h0:0<n):Tn n (oH n):=List.isPerm_iff.mp (PR n h h0)
end ae
namespace ae
def DC{n:Nat}{xs:List Int}(h:xs.length=n):(upto n).map (app xs)=xs:=by apply List.ext_getElem;rw[Vl,oG,h];intro i h1 h2;have e:=mQ (xs:=xs) (i:=(i:Int)) ⋯ ⋯;simp only[VB]at e;rw[Vn h2]at e;rw[Xo];unfold upto;simp only[Xo,XD];exact(Vu e).symm
abbrev inv(xs:List Int):List Int:=(upto xs.length).map λi=>(xs.idxOf i:Int)
def Aj(xs:List Int):(inv xs).length=xs.length:=by unfold inv;rw[Vl,oG]
def GG{n i:Nat}(h:i<n):(upto n)[i]?=some (i:Int):=by unfold upto;rw[Vr,Wb h];rfl
def DE{xs:List Int}{i:Int}(h0:0<=i)(h1:i<(xs.length:Int)):app (inv xs) i=(xs.idxOf i:Int):=by have e:=mQ (xs:=inv xs) h0 (by rw[Aj];exact h1);unfold inv at e;rw[Vr,GG ⋯]at e;have:=Vu e;rw[<- inv]at this;rw[<- this,VY h0]
def Tn.mem{n:Nat}{xs:List Int}(h:Tn n xs){i:Int}(h0:0<=i)(h1:i<(n:Int)):i∈xs:=h.symm.subset (kN.mpr ⟨h0,h1⟩)
def Tn.idx{n:Nat}{xs:List Int}(h:Tn n xs){i:Int}(h0:0<=i)(h1:i<(n:Int)):xs.idxOf i<n:=by rw[<- h.length];exact W8 (h.mem h0 h1)
def Tn.bU{n:Nat}{xs:List Int}(h:Tn n xs){i:Int}(h0:0<=i)(h1:i<(n:Int)):ae.app xs (ae.app (inv xs) i)=i:=by rw[DE h0 (by rw[h.length];exact h1)];have hl:=h.idx h0 h1;have e:=mQ (xs:=xs) (i:=(xs.idxOf i:Int)) ⋯ (by rw[h.length];lk);rw[VB,Vn (by rw[h.length];exact hl)]at e;rw[<- Vu e];exact XE _
def Tn.jY{n:Nat}{xs:List Int}(h:Tn n xs){i:Int}(h0:0<=i)(h1:i<(n:Int)):0<=ae.app (inv xs) i/\ae.app (inv xs) i<(n:Int):=by rw[DE h0 (by rw[h.length];exact h1)];have:=h.idx h0 h1;lk
def Tn.dU{n:Nat}{xs:List Int}(h:Tn n xs){i:Int}(h0:0<=i)(h1:i<(n:Int)):ae.app (inv xs) (ae.app xs i)=i:=by obtain⟨a0,a1⟩:=h.app h0 h1;obtain⟨b0,b1⟩:=h.jY a0 a1;exact h.inj b0 b1 h0 h1 (h.bU a0 a1)
def Tn.aq{n:Nat}{xs:List Int}(h:Tn n xs):Tn n (inv xs):=by
 have hl:=h.length;unfold Tn;have e:(inv xs).length=n:=by rw[Aj,hl]
 have:=DA (xs:=inv xs) ?_ ?_
 rw[e]at this;exact this;unfold List.Nodup;rw[V3];intro i j hi hj hij z;have a:=mQ (xs:=inv xs) (i:=(i:Int)) ⋯ ⋯;have b:=mQ (xs:=inv xs) (i:=(j:Int)) ⋯ ⋯;rw[VB,Vn hi]at a;rw[VB,Vn hj]at b;have a:=Vu a;have b:=Vu b;have c:=h.bU (i:=(i:Int)) ⋯ ⋯;have d:=h.bU (i:=(j:Int)) ⋯ ⋯;rw[<- a]at c;rw[<- b,<- z]at d;have:=c.symm.trans d;lk;intro x hx;unfold inv at hx;obtain⟨i,hi,rfl⟩:=Vy.mp hx;have:=kN.mp hi;rw[hl]at this;have:=h.idx this.1 this.2;rw[e];lk
def rl(xs:List Int)(i:Int)(j:Nat):∀d,aO xs (aO xs i j) d=aO xs i (j+d)
 |0=>rfl
 |d+1=>by show app xs (aO xs (aO xs i j) d)=app xs (aO xs i (j+d));rw[rl xs i j d]
def Ki{xs:List Int}{i:Int}{L:Nat}(h:aO xs i L=i)(a:Nat):aO xs i (a+L)=aO xs i a:=by rw[Nat.add_comm,<- rl xs i L a,h]
def Ak{xs:List Int}{i:Int}{L:Nat}(h:aO xs i L=i):∀(q r:Nat),aO xs i (r+L*q)=aO xs i r
 |0,r=>rfl
 |q+1,r=>by rw[Nat.mul_succ,<- Nat.add_assoc,Ki h];exact Ak h q r
def PU{xs:List Int}{i:Int}{L:Nat}(h:aO xs i L=i)(a:Nat):aO xs i (a % L)=aO xs i a:=by have:=Ak h (a / L) (a % L);rw[Nat.mod_add_div]at this;exact this.symm
abbrev Kj(xs:List Int)(k i v:Int):Prop:=∃m,NB xs i m/\aO xs i (m+1)=i/\v=aO xs i (k % ((m+1:Nat):Int)).toNat
def Tn.vX{n:Nat}{xs:List Int}(h:Tn n xs){i:Int}(h0:0<=i)(h1:i<(n:Int)){m:Nat}(nb:NB xs i m)(bk:ae.aO xs i (m+1)=i)(j:Nat)(k:Int):
  Kj xs k (ae.aO xs i j) (ae.aO xs i (((j:Int)+k) % ((m+1:Nat):Int)).toNat):=by
 refine⟨m,λd d1 d2 e=>?_,?_,?_⟩;rw[rl]at e;exact nb d d1 d2 (h.back h0 h1 j d e.symm);rw[rl,Ki bk];rw[rl];rw[<- PU bk (j+(k % ((m+1:Nat):Int)).toNat)]
 congr 1
 have hL:(0:Int)<((m+1:Nat):Int):=by lk
 have k0:=Wu k (Int.ne_of_gt hL);have e:(((j+(k % ((m+1:Nat):Int)).toNat) % (m+1):Nat):Int)=((j:Int)+k) % ((m+1:Nat):Int):=by
  rw[Int.natCast_emod,Int.natCast_add,VY k0,Int.add_emod_emod]
 rw[<- e,VB]
def tQ.all{xs:List Int}:∀{left:List Int} {rs:List (List Int)},tQ xs left rs->(∀r∈rs,∃i∈left,fu xs i r)/\∀x∈left,∃r∈rs,x∈r:=by
 intro left rs a
 induction a with
 |nil=>exact⟨λr hr=>(nomatch hr),λx hx=>(nomatch hx)⟩
 |cons h1 _ ih =>
  refine⟨λr hr=>?_,λx hx=>?_⟩
  ·rcases VJ.mp hr with rfl|hr
   ·exact⟨_,Vw,h1⟩
   ·obtain⟨i,hi,r'⟩:=ih.1 r hr
    exact⟨i,(WD.mp hi).1,r'⟩
  ·rename_i i left r rs _
   by_cases hc:x∈r
   ·exact⟨r,Vw,hc⟩
   ·obtain⟨r',hr',hx'⟩:=ih.2 x (WD.mpr ⟨hx,by simp[hc]⟩)
    exact⟨r',VA _ hr',hx'⟩
def PV{n:Nat}{xs:List Int}(h:Tn n xs):xs.map (app (inv xs))=upto n:=by
 have e:((upto n).map (app xs)).map (app (inv xs))=upto n:=by
  rw[VT]
  conv=>rhs;rw[<- Xc (upto n)]
  apply Wa;intro x hx;obtain⟨a,b⟩:=kN.mp hx;exact h.dU a b
 rw[DC h.length]at e;exact e
def PX{n:Nat}{xs:List Int}(h:Tn n xs):(inv xs).map (app xs)=upto n:=by
 have e:((upto n).map (app (inv xs))).map (app xs)=upto n:=by
  rw[VT]
  conv=>rhs;rw[<- Xc (upto n)]
  apply Wa;intro x hx;obtain⟨a,b⟩:=kN.mp hx;exact h.bU a b
 rw[DC (h.aq).length]at e;exact e
end ae
namespace ae
inductive gS(xs ys:List Int):Int->Prop
 |zero:gS xs ys 0
 |r {x:Int}:gS xs ys x->gS xs ys (app xs x)
 |u {x:Int}:gS xs ys x->gS xs ys (app ys x)
def gS.bound{n:Nat}{xs ys:List Int}(hx:Tn n xs)(hy:Tn n ys)(h0:0<n){x:Int}(h:gS xs ys x):0<=x/\x<(n:Int):=by
 induction h with
 |zero=>lk
 |r _ ih=>exact hx.app ih.1 ih.2
 |u _ ih=>exact hy.app ih.1 ih.2
def gS.aO{xs ys:List Int}{x:Int}(h:gS xs ys x):∀k,gS xs ys (ae.aO xs x k)
 |0=>h
 |k+1=>.r (h.aO k)
abbrev kS(xs:List Int)(m:Nat):List Int:=(xs.set 0 (app xs m)).set m (app xs 0)
def PY(xs:List Int)(m:Nat):(kS xs m).length=xs.length:=by simp[kS]
def GH{xs:List Int}{m:Nat}{v x:Int}(hm:m<xs.length)(h0:0<=x):app (xs.set m v) x=if x=(m:Int)then v else app xs x:=by unfold app;rw[Vz,Vz];by_cases hx:x=(m:Int);rw[if_pos hx,hx,VB,VD hm];rfl;rw[if_neg hx,VI ⋯]
def yw{xs:List Int}{m:Nat}(hm:m<xs.length){x:Int}(h0:0<=x):app (kS xs m) x=if x=(m:Int)then app xs 0 else if x=0 then app xs m else app xs x:=by unfold kS;rw[GH (by simpa using hm) h0,GH ⋯ h0];rfl
def vY{n:Nat}{xs:List Int}(h:Tn n xs){m:Nat}(hm:m<n):Tn n (kS xs m):=by
 have hl:=h.length;have e:(kS xs m).length=n:=by rw[PY,hl]
 have:=DA (xs:=kS xs m) ?_ ?_
 unfold Tn;rw[e]at this;exact this;unfold List.Nodup;rw[V3];intro i j hi hj hij z;have a:=mQ (xs:=kS xs m) (i:=(i:Int)) ⋯ ⋯;have b:=mQ (xs:=kS xs m) (i:=(j:Int)) ⋯ ⋯;rw[VB,Vn hi]at a;rw[VB,Vn hj]at b;have a:=Vu a;have b:=Vu b;rw[yw ⋯ ⋯]at a b;rw[a,b]at z;have inj:∀p q:Int,0<=p->p<(n:Int)->0<=q->q<(n:Int)->app xs p=app xs q->p=q:=λp q p0 p1 q0 q1=>h.inj p0 p1 q0 q1;split at z<;>split at z<;>(try split at z)<;>(try split at z)<;>(first|lk|(have:=inj _ _ ⋯ ⋯ ⋯ ⋯ z;lk));intro x hx;obtain⟨i,hi,rfl⟩:=WG hx;have a:=mQ (xs:=kS xs m) (i:=(i:Int)) ⋯ ⋯;rw[VB,Vn hi]at a;rw[Vu a,yw ⋯ ⋯,e];split;exact h.app ⋯ ⋯;split;exact h.app ⋯ ⋯;exact h.app ⋯ ⋯
def Tn.oJ{n:Nat}{xs:List Int}(h:Tn n xs){i:Int}(h0:0<=i)(h1:i<(n:Int)):∃m,NB xs i m/\ae.aO xs i (m+1)=i:=by
 by_cases hb:∃m,m<n/\ae.aO xs i (m+1)=i
 -- the least
 have key:∀b:Nat,(∃m,m<b/\ae.aO xs i (m+1)=i)->∃m,NB xs i m/\ae.aO xs i (m+1)=i:=by
  intro b
  induction b with
  |zero=>rintro⟨m,hm,_⟩;lk
  |succ b ih =>
   rintro⟨m,hm,e⟩;by_cases hc:∃m,m<b/\ae.aO xs i (m+1)=i;exact ih hc;refine⟨m,λj j1 j2 z=>hc ⟨j-1,by lk,?_⟩,e⟩
   have:j-1+1=j:=by lk
   rw[this];exact z
 exact key n hb;have nb:NB xs i n:=λj j1 j2 z=>by
  refine hb ⟨j-1,by lk,?_⟩;have:j-1+1=j:=by lk
  rw[this];exact z
 have:=h.iX h0 h1 nb;lk
def PZ{n:Nat}{xs ys:List Int}(hx:Tn n xs)(hy:Tn n ys){m:Nat}(hm:m<n)(nm:¬gS xs ys (m:Int)):gS (kS xs m) ys (m:Int)/\∀x,gS xs ys x->gS (kS xs m) ys x:=by
 have hl:=hx.length;have m0:m≠0:=λz=>nm (by rw[z];exact .zero);obtain⟨M,nb,bk⟩:=hx.oJ (i:=(m:Int)) ⋯ ⋯;have P0:∀j,ae.aO xs (m:Int) j≠0:=by
  intro j z;have h':gS xs ys (ae.aO xs (ae.aO xs (m:Int) j) ((M+1)*j)):=by rw[z];exact gS.zero.aO _
  rw[rl]at h';have e2:ae.aO xs (m:Int) ((M+1)*(j+1))=(m:Int):=by
   have:=Ak bk (j+1) 0;rw[W7]at this;exact this
  have h3:=h'.aO ((M+1)*(j+1)-(j+(M+1)*j));rw[rl]at h3;have e3:j+(M+1)*j+((M+1)*(j+1)-(j+(M+1)*j))=if j+(M+1)*j<=(M+1)*(j+1)then(M+1)*(j+1)else j+(M+1)*j:=by split<;>lk
  rw[e3]at h3;by_cases hc:j+(M+1)*j<=(M+1)*(j+1)
  ·rw[if_pos hc,e2]at h3
   exact nm h3
  ·-- round as often as needed
   have h4:=h'.aO ((M+1)*(2*j+2)-(j+(M+1)*j));rw[rl]at h4;have hbig:j+(M+1)*j<=(M+1)*(2*j+2):=by
    have a1:(M+1)*(2*j+2)=(M+1)*j+((M+1)*j+(M+1)*2):=by rw[<- Nat.mul_add,<- Nat.mul_add];congr 1;lk
    have a2:j<=(M+1)*j:=Nat.le_mul_of_pos_left j ⋯;lk
   have e5:j+(M+1)*j+((M+1)*(2*j+2)-(j+(M+1)*j))=(M+1)*(2*j+2):=by lk
   rw[e5]at h4;have:=Ak bk (2*j+2) 0;rw[W7]at this;rw[this]at h4;exact nm h4
 have ring:∀j,j<=M->gS (kS xs m) ys (ae.aO xs (m:Int) (j+1)):=by
  intro j
  induction j with
  |zero =>
   intro _;have h1:gS (kS xs m) ys (ae.app (kS xs m) 0):=.r .zero;rw[yw ⋯ ⋯,if_neg ⋯,if_pos rfl]at h1;exact h1
  |succ j ih =>
   intro hj;have h1:=(ih ⋯).r;have b:=hx.aO (i:=(m:Int)) ⋯ ⋯ (j+1);rw[yw ⋯ b.1,if_neg (nb (j+1) ⋯ ⋯),if_neg (P0 (j+1))]at h1;exact h1
 have Kk:gS (kS xs m) ys (m:Int):=by have:=ring M (Vp _);rwa [bk]at this
 refine⟨Kk,λx h=>?_⟩;have hpos:0<n:=by lk
 induction h with
 |zero=>exact .zero
 |r hx' ih =>
  rename_i x
  have b:=hx'.bound hx hy hpos;by_cases h0:x=0
  ·have h1:=Kk.r
   rw[yw ⋯ ⋯,if_pos rfl]at h1;rw[h0];exact h1
  ·have P1:x≠(m:Int):=λz=>nm (by rw[<- z];exact hx')
   have h1:=ih.r;rw[yw ⋯ b.1,if_neg P1,if_neg h0]at h1;exact h1
 |u _ ih=>exact ih.u
abbrev Cl(xs ys F:List Int):Prop:=∀x∈F,app xs x∈F/\app ys x∈F
def Cl.all{xs ys F:List Int}(h:Cl xs ys F)(h0:(0:Int)∈F){x:Int}(r:gS xs ys x):x∈F:=by
 induction r with
 |zero=>exact h0
 |r _ ih=>exact(h _ ih).1
 |u _ ih=>exact(h _ ih).2
structure Fd(xs ys:List Int)(F:List Int):Prop where
 z:(0:Int)∈F
 nd:F.Nodup
 mt:∀x∈F,gS xs ys x
def Fd.len{n:Nat}{xs ys F:List Int}(h:Fd xs ys F)(hx:Tn n xs)(hy:Tn n ys)(h0:0<n):F.length<=n:=by have:=vV h.nd (ys:=upto n) λx hx'=>kN.mpr ((h.mt x hx').bound hx hy h0);rw[oG]at this;exact this
def Fd.one(xs ys:List Int):Fd xs ys [0]:=⟨by simp,by simp,λx hx=>(show x=0 by simpa using hx) ▸ .zero⟩
def round{xs ys F F1 F2:List Int}(d:Fd xs ys F)(d2:Fd xs ys F2)(p1:F <+: F1)(p2:F1 <+: F2)(c1:∀x∈F,app xs x∈F1)(c2:∀x∈F1,app ys x∈F2){t:Nat}(h:Cl xs ys F\/t+1<=F.length):Cl xs ys F2\/t+1+1<=F2.length:=by
 have p:=p1.trans p2;by_cases hc:Cl xs ys F;refine .inl λx hx=>?_;have hF:=hc.all d.z (d2.mt x hx);exact⟨p.subset (hc x hF).1,p.subset (hc x hF).2⟩;have hl:=h.resolve_left hc;by_cases he:F2.length<=F.length;refine absurd ?_ hc;have e2:F2=F:=(p.eq_of_length (by have:=p.length_le;lk)).symm;have e1:F1=F:=by
  have a:=p1.length_le;have b:=p2.length_le;exact(p1.eq_of_length ⋯).symm
 intro x hx;refine⟨?_,?_⟩
 have:=c1 x hx;rwa [e1]at this
 have:=c2 x (by rw[e1];exact hx);rwa [e2]at this
 exact .inr ⋯
abbrev qw(w n:Nat):List Int:=((List.range (w-1)).map λ(k:Nat)=>(1:Int)+k) ++ [0] ++ ((List.range (n-w)).map λ(k:Nat)=>(w:Int)+k)
abbrev rW(w n:Nat):List Int:=[(w:Int)] ++ ((List.range (w-1)).map λ(k:Nat)=>(1:Int)+k) ++ ((List.range (n-(w+1))).map λ(k:Nat)=>((w:Int)+1)+k) ++ [0]
def P4:∀n,n<21->∀w,w<n+1->0<w->(qw w n).isPerm (upto n)=true:=by decide +kernel
def P5:∀n,n<21->∀w,w<n->0<w->(rW w n).isPerm (upto n)=true:=by decide +kernel
def P6{w n:Nat}(h:n<21)(h1:w<=n)(h0:0<w):Tn n (qw w n):=List.isPerm_iff.mp (P4 n h w ⋯ h0)
def P7{w n:Nat}(h:n<21)(h1:w<n)(h0:0<w):Tn n (rW w n):=List.isPerm_iff.mp (P5 n h w h1 h0)
def less{L L':List Int}{m:Int}(nd:L'.Nodup)(hs:∀x∈L',x∈L)(hm:m∈L)(hm':m ∉ L'):L'.length<L.length:=by
 have hp:=Xu hm;have hlen:(L.erase m).length+1=L.length:=by have:=hp.length_eq;simpa using this.symm
 have:=vV (ys:=L.erase m) nd λx hx=>(Xv (λe=>hm' (by rw[<- e];exact hx))).mpr (hs x hx);lk
end ae
namespace ae
abbrev aK(xs ys:List Int):List Int:=xs.map (app ys)
def Al(xs ys:List Int):(aK xs ys).length=xs.length:=by simp[aK]
def oK{n:Nat}{xs ys:List Int}(hx:xs.length=n)(hy:ys.length=n)(h:∀s:Int,0<=s->s<(n:Int)->app xs s=app ys s):xs=ys:=by rw[<- DC hx,<- DC hy];apply Wa;intro s hs;obtain⟨h0,h1⟩:=kN.mp hs;exact h s h0 h1
def lq{xs ys:List Int}{s:Int}(h0:0<=s)(h1:s<(xs.length:Int)):app (aK xs ys) s=app ys (app xs s):=by have e:=mQ (xs:=aK xs ys) h0 (by rw[Al];exact h1);unfold aK at e;rw[Vr,mQ h0 h1]at e;exact(Vu e).symm
def Tn.qx{n:Nat}{xs:List Int}(hl:xs.length=n)(hb:∀s:Int,0<=s->s<(n:Int)->0<=ae.app xs s/\ae.app xs s<(n:Int))(hi:∀s t:Int,0<=s->s<(n:Int)->0<=t->t<(n:Int)->ae.app xs s=ae.app xs t->s=t):Tn n xs:=by
 have el:∀(i:Nat) (h:i<xs.length),xs[i]=ae.app xs (i:Int):=λi h=>by
  have a:=mQ (xs:=xs) (i:=(i:Int)) ⋯ ⋯;rw[VB,Vn h]at a;exact Vu a
 have:=DA (xs:=xs) ?_ ?_
 unfold Tn;rw[hl]at this;exact this;unfold List.Nodup;rw[V3];intro i j h1 h2 hij z;rw[el i h1,el j h2]at z;have:=hi i j ⋯ ⋯ ⋯ ⋯ z;lk;intro x hx;obtain⟨i,h,rfl⟩:=WG hx;rw[el i h,hl];exact hb i ⋯ ⋯
def Tn.aK{n:Nat}{xs ys:List Int}(hx:Tn n xs)(hy:Tn n ys):Tn n (aK xs ys):=by have hl:=hx.length;refine Tn.qx (by rw[Al];exact hl) (λs h0 h1=>?_) λs t s0 s1 t0 t1 e=>?_;rw[lq h0 ⋯];obtain⟨a,b⟩:=hx.app h0 h1;exact hy.app a b;rw[lq s0 ⋯,lq t0 ⋯]at e;obtain⟨a,b⟩:=hx.app s0 s1;obtain⟨c,d⟩:=hx.app t0 t1;exact hx.inj s0 s1 t0 t1 (hy.inj a b c d e)
def Tn.rX{n:Nat}{xs ys:List Int}(hx:Tn n xs)(hy:Tn n ys){s:Int}(h0:0<=s)(h1:s<(n:Int)):ae.app (inv (ae.aK xs ys)) s=ae.app (inv xs) (ae.app (inv ys) s):=by have hf:=hx.aK hy;obtain⟨a0,a1⟩:=hy.jY h0 h1;obtain⟨b0,b1⟩:=hx.jY a0 a1;obtain⟨c0,c1⟩:=hf.jY h0 h1;refine hf.inj c0 c1 b0 b1 ?_;rw[hf.bU h0 h1,lq b0 (by rw[hx.length];exact b1),hx.bU a0 a1,hy.bU h0 h1]
abbrev anew(xs p:List Int):List Int:=aK (aK (inv p) xs) p
def Tn.anew{n:Nat}{xs p:List Int}(hx:Tn n xs)(hp:Tn n p):Tn n (anew xs p):=(hp.aq.aK hx).aK hp
def Tn.fJ{n:Nat}{xs p:List Int}(hx:Tn n xs)(hp:Tn n p){s:Int}(h0:0<=s)(h1:s<(n:Int)):ae.app (ae.anew xs p) s=ae.app p (ae.app xs (ae.app (inv p) s)):=by have hl:=hp.aq.length;unfold ae.anew;rw[lq h0 (by rw[Al,hl];exact h1),lq h0 (by rw[hl];exact h1)]
def Tn.jl{n:Nat}{xs p:List Int}(hx:Tn n xs)(hp:Tn n p){s:Int}(h0:0<=s)(h1:s<(n:Int)):ae.app (ae.anew xs p) (ae.app p s)=ae.app p (ae.app xs s):=by obtain⟨a,b⟩:=hp.app h0 h1;rw[hx.fJ hp a b,hp.dU h0 h1]
def Tn.jG{n:Nat}{xs p q:List Int}(hx:Tn n xs)(hp:Tn n p)(hq:Tn n q):ae.anew (ae.anew xs p) q=ae.anew xs (ae.aK p q):=by have hf:=hp.aK hq;refine oK (n:=n) ((hx.anew hp).anew hq).length (hx.anew hf).length λs h0 h1=>?_;obtain⟨a0,a1⟩:=hq.jY h0 h1;obtain⟨b0,b1⟩:=hp.jY a0 a1;obtain⟨c0,c1⟩:=hx.app b0 b1;rw[(hx.anew hp).fJ hq h0 h1,hx.fJ hp a0 a1,hx.fJ hf h0 h1,hp.rX hq h0 h1,lq c0 (by rw[hp.length];exact c1)]
def Tn.jH{n:Nat}{xs p:List Int}(hx:Tn n xs)(hp:Tn n p):ae.anew (ae.anew xs p) (inv p)=xs:=by
 refine oK (n:=n) ((hx.anew hp).anew hp.aq).length hx.length λs h0 h1=>?_;obtain⟨a0,a1⟩:=hp.aq.jY h0 h1;have e:ae.app (inv (inv p)) s=ae.app p s:=by
  obtain⟨b0,b1⟩:=hp.app h0 h1;refine hp.aq.inj a0 a1 b0 b1 ?_;rw[hp.aq.bU h0 h1,hp.dU h0 h1]
 obtain⟨b0,b1⟩:=hp.app h0 h1;obtain⟨c0,c1⟩:=hx.app h0 h1;rw[(hx.anew hp).fJ hp.aq h0 h1,e,hx.jl hp h0 h1,hp.dU c0 c1]
end ae
namespace ae
abbrev bZ(F:List Int)(x:Int):List Int:=if x∈F then F else F ++ [x]
def Am(F:List Int)(x:Int):F <+: bZ F x:=by unfold bZ;split;exact Xa _;exact XG _ _
def oM{F:List Int}{x y:Int}:y∈bZ F x↔y∈F\/y=x:=by
 unfold bZ;split
 ·next h=>exact⟨.inl,λz=>z.elim id λe=>e ▸ h⟩
 ·rw[VQ,VE]
def Kl{F:List Int}{x:Int}(h:F.Nodup):(bZ F x).Nodup:=by
 unfold bZ;split
 ·exact h
 ·next hx =>
  rw[W3];exact⟨h,by simp,λa ha b hb e=>hx (by rw[VE]at hb;rw[<- hb,<- e];exact ha)⟩
abbrev visit(xs ys F:List Int)(x:Int):List Int:=bZ (bZ F (app xs x)) (app ys x)
abbrev bf(xs ys:List Int)(s:Int):Nat->List Int
 |0=>[s]
 |k+1=>match (bf xs ys s k)[k]? with
  |some x=>visit xs ys (bf xs ys s k) x
  |none=>bf xs ys s k
def Km(xs ys:List Int)(s:Int)(k:Nat):bf xs ys s k <+: bf xs ys s (k+1):=by show _ <+: (match (bf xs ys s k)[k]? with|some x=>visit xs ys (bf xs ys s k) x|none=>bf xs ys s k);split;exact(Am _ _).trans (Am _ _);exact Xa _
def vZ(xs ys:List Int)(s:Int)(k:Nat):∀d,bf xs ys s k <+: bf xs ys s (k+d)
 |0=>Xa _
 |d+1=>(vZ xs ys s k d).trans (Km xs ys s (k+d))
def rm(xs ys:List Int)(s:Int):∀k,(bf xs ys s k).Nodup
 |0=>by show[s].Nodup;simp
 |k+1=>by
  show(match (bf xs ys s k)[k]? with|some x=>visit xs ys (bf xs ys s k) x|none=>bf xs ys s k).Nodup;split;exact Kl (Kl (rm xs ys s k));exact rm xs ys s k
def GJ{xs ys:List Int}{s:Int}{k:Nat}(h:(bf xs ys s k).length<=k):∀d,bf xs ys s (k+d)=bf xs ys s k
 |0=>rfl
 |d+1=>by
  have e:=GJ h d;show(match (bf xs ys s (k+d))[k+d]? with|some x=>visit xs ys (bf xs ys s (k+d)) x|none=>bf xs ys s (k+d))=_;rw[e,V0 ⋯]
section
variable {n:Nat}{xs ys:List Int}{s:Int}
def nU(hx:Tn n xs)(hy:Tn n ys)(s0:0<=s)(s1:s<(n:Int)):∀k,∀x∈bf xs ys s k,0<=x/\x<(n:Int)
 |0,x,h=>by rw[VE.mp (show x∈[s]from h)];exact⟨s0,s1⟩
 |k+1,x,h=>by
  have ih:=nU hx hy s0 s1 k;have h':x∈(match (bf xs ys s k)[k]? with|some y=>visit xs ys (bf xs ys s k) y|none=>bf xs ys s k):=h;split at h'
  ·next y hy' =>
   obtain⟨y0,y1⟩:=ih y (Vv hy');rcases oM.mp h' with h'|rfl
   ·rcases oM.mp h' with h'|rfl
    ·exact ih x h'
    ·exact hx.app y0 y1
   ·exact hy.app y0 y1
  ·exact ih x h'
def An(hx:Tn n xs)(hy:Tn n ys)(s0:0<=s)(s1:s<(n:Int))(k:Nat):(bf xs ys s k).length<=n:=by have:=vV (rm xs ys s k) (ys:=upto n) λx h=>kN.mpr (nU hx hy s0 s1 k x h);rw[oG]at this;exact this
def Ao{k i:Nat}(hik:i<=k){x:Int}(h:(bf xs ys s k)[i]?=some x):(bf xs ys s i)[i]?=some x:=by obtain⟨d,rfl⟩:∃d,k=i+d:=⟨k-i,by lk⟩;by_cases hl:(bf xs ys s i).length<=i;rw[GJ hl d]at h;exact h;obtain⟨t,e⟩:=vZ xs ys s i d;rw[<- e,VC ⋯]at h;exact h
def Ap(hx:Tn n xs)(hy:Tn n ys)(s0:0<=s)(s1:s<(n:Int)):Cl xs ys (bf xs ys s n):=by
 intro x hm;obtain⟨i,hi,e⟩:=WG hm;have hl:=An hx hy s0 s1 n;have hi':(bf xs ys s i)[i]?=some x:=Ao (k:=n) ⋯ (by rw[Vn hi,e]);have hs:visit xs ys (bf xs ys s i) x <+: bf xs ys s n:=by
  have:=vZ xs ys s (i+1) (n-(i+1));rw[show i+1+(n-(i+1))=n by lk]at this;have e2:bf xs ys s (i+1)=visit xs ys (bf xs ys s i) x:=by
   show(match (bf xs ys s i)[i]? with|some x=>visit xs ys (bf xs ys s i) x|none=>bf xs ys s i)=_;rw[hi']
  rw[<- e2];exact this
 refine⟨hs.subset ?_,hs.subset ?_⟩;exact oM.mpr (.inl (oM.mpr (.inr rfl)));exact oM.mpr (.inr rfl)
def Aq{zs F:List Int}(hz:Tn n zs)(nd:F.Nodup)(hb:∀x∈F,0<=x/\x<(n:Int))(hc:∀x∈F,app zs x∈F){y:Int}(y0:0<=y)(y1:y<(n:Int))(h:app zs y∈F):y∈F:=by
 have P8:(F.map (app zs)).Nodup:=by
  unfold List.Nodup;rw[W2];refine List.Pairwise.imp_of_mem (λ{a b} ha hb' hab e=>?_) nd;obtain⟨a0,a1⟩:=hb a ha;obtain⟨b0,b1⟩:=hb b hb';exact hab (hz.inj a0 a1 b0 b1 e)
 have pm:(F.map (app zs)).Perm F:=Dz P8 (λx hx=>by obtain⟨z,hz',rfl⟩:=Vy.mp hx;exact hc z hz') (by simp);obtain⟨z,yx,e⟩:=Vy.mp (pm.symm.subset h);obtain⟨z0,z1⟩:=hb z yx;rw[<- hz.inj z0 z1 y0 y1 e];exact yx
def Kn(hx:Tn n xs)(hy:Tn n ys)(s0:0<=s)(s1:s<(n:Int))(all:∀x:Int,0<=x->x<(n:Int)->gS xs ys x){x:Int}(x0:0<=x)(x1:x<(n:Int)):x∈bf xs ys s n:=by
 have cl:=Ap hx hy s0 s1;have nd:=rm xs ys s n;have bd:=nU hx hy s0 s1 n;have hs:s∈bf xs ys s n:=by
  have:=vZ xs ys s 0 n;rw[W7]at this;exact this.subset (show s∈[s] by simp)
 have hpos:0<n:=by lk
 have zero:∀y,gS xs ys y->y∈bf xs ys s n->(0:Int)∈bf xs ys s n:=by
  intro y hr
  induction hr with
  |zero=>exact id
  |r h ih =>
   intro hm;obtain⟨a,b⟩:=h.bound hx hy hpos;exact ih (Aq hx nd bd (λx hx'=>(cl x hx').1) a b hm)
  |u h ih =>
   intro hm;obtain⟨a,b⟩:=h.bound hx hy hpos;exact ih (Aq hy nd bd (λx hx'=>(cl x hx').2) a b hm)
 exact cl.all (zero s (all s s0 s1) hs) (all x x0 x1)
def GK(hx:Tn n xs)(hy:Tn n ys)(s0:0<=s)(s1:s<(n:Int))(all:∀x:Int,0<=x->x<(n:Int)->gS xs ys x):Tn n (bf xs ys s n) :=
 Dz (rm xs ys s n) (λx h=>kN.mpr (nU hx hy s0 s1 n x h)) (by
  have:=vV (Kf n) (ys:=bf xs ys s n) λx h=>by obtain⟨a,b⟩:=kN.mp h;exact Kn hx hy s0 s1 all a b
  exact this)
def Ko{p F:List Int}(hp:Tn n p)(hb:∀x∈F,0<=x/\x<(n:Int)){x:Int}(x0:0<=x)(x1:x<(n:Int)):bZ (F.map (app p)) (app p x)=(bZ F x).map (app p):=by
 unfold bZ
 have e:app p x∈F.map (app p)↔x∈F:=⟨λh=>by
  obtain⟨y,hy,e⟩:=Vy.mp h;obtain⟨y0,y1⟩:=hb y hy
  rw[<- hp.inj y0 y1 x0 x1 e];exact hy,λh=>Vy.mpr ⟨x,h,rfl⟩⟩
 by_cases h:x∈F;rw[if_pos h,if_pos (e.mpr h)];rw[if_neg h,if_neg λz=>h (e.mp z),VL];rfl
def GL{p:List Int}(hx:Tn n xs)(hy:Tn n ys)(hp:Tn n p)(s0:0<=s)(s1:s<(n:Int)):∀k,bf (anew xs p) (anew ys p) (app p s) k=(bf xs ys s k).map (app p)
 |0=>rfl
 |k+1=>by
  have ih:=GL hx hy hp s0 s1 k;show(match (bf (anew xs p) (anew ys p) (app p s) k)[k]? with|some x=>visit (anew xs p) (anew ys p) (bf (anew xs p) (anew ys p) (app p s) k) x|none=>bf (anew xs p) (anew ys p) (app p s) k)=(match (bf xs ys s k)[k]? with|some x=>visit xs ys (bf xs ys s k) x|none=>bf xs ys s k).map (app p);rw[ih,Vr];cases h:(bf xs ys s k)[k]? with
  |none=>rfl
  |some x =>
   obtain⟨x0,x1⟩:=nU hx hy s0 s1 k x (Vv h);obtain⟨a0,a1⟩:=hx.app x0 x1;obtain⟨b0,b1⟩:=hy.app x0 x1;show visit (anew xs p) (anew ys p) ((bf xs ys s k).map (app p)) (app p x)=(visit xs ys (bf xs ys s k) x).map (app p);unfold visit;rw[hx.jl hp x0 x1,hy.jl hp x0 x1,Ko hp (nU hx hy s0 s1 k) a0 a1,Ko hp (λz hz=>?_) b0 b1];rcases oM.mp hz with hz|rfl
   exact nU hx hy s0 s1 k z hz;exact⟨a0,a1⟩
end
abbrev num(zs sq:List Int):List Int:=sq.map λo=>(sq.idxOf (app zs o):Int)
def Tn.inv_inv{n:Nat}{p:List Int}(hp:Tn n p):inv (inv p)=p:=by refine oK (n:=n) hp.aq.aq.length hp.length λs h0 h1=>?_;obtain⟨a0,a1⟩:=hp.aq.jY h0 h1;obtain⟨b0,b1⟩:=hp.app h0 h1;refine hp.aq.inj a0 a1 b0 b1 ?_;rw[hp.aq.bU h0 h1,hp.dU h0 h1]
def tR{n:Nat}{zs sq:List Int}(hz:Tn n zs)(hs:Tn n sq):anew zs (inv sq)=num zs sq:=by unfold anew num aK;rw[hs.inv_inv,VT];apply Wa;intro o ho;obtain⟨o0,o1⟩:=hs.bound ho;obtain⟨a0,a1⟩:=hz.app o0 o1;exact DE a0 (by rw[hs.length];exact a1)
def Kq{n:Nat}{p:List Int}(hp:Tn n p):∀{sq:List Int},(∀x∈sq,0<=x/\x<(n:Int))->∀{y:Int},0<=y->y<(n:Int)->(sq.map (app p)).idxOf (app p y)=sq.idxOf y
 |[],_,_,_,_=>rfl
 |a :: r,hb,y,y0,y1=>by
  obtain⟨a0,a1⟩:=hb a Vw;rw[VO,List.idxOf_cons,List.idxOf_cons,Kq hp (λx hx=>hb x (VA _ hx)) y0 y1];by_cases e:a=y;rw[e];simp;have e2:app p a≠app p y:=λz=>e (hp.inj a0 a1 y0 y1 z);rw[show(a == y)=false by simpa using e,show(app p a == app p y)=false by simpa using e2]
def Kr{n:Nat}{zs sq p:List Int}(hz:Tn n zs)(hp:Tn n p)(hb:∀x∈sq,0<=x/\x<(n:Int)):num (anew zs p) (sq.map (app p))=num zs sq:=by unfold num;rw[VT];apply Wa;intro o ho;obtain⟨o0,o1⟩:=hb o ho;obtain⟨a0,a1⟩:=hz.app o0 o1;show((sq.map (app p)).idxOf (app (anew zs p) (app p o)):Int)=_;rw[hz.jl hp o0 o1,Kq hp hb a0 a1]
end ae
namespace ae
abbrev pw(xs:List Int)(k i:Int):Int:=if 0<=k then aO xs i k.toNat else aO (inv xs) i (-k).toNat
section
variable {n:Nat}{xs:List Int}{i:Int}
def Tn.lV(h:Tn n xs)(i0:0<=i)(i1:i<(n:Int)):∀(k m:Nat),ae.aO (inv xs) (ae.aO xs i m) k=if k<=m then ae.aO xs i (m-k)else ae.aO (inv xs) i (k-m)
 |0,m=>by rw[if_pos (VX _),Nat.sub_zero];rfl
 |k+1,m=>by
  show ae.app (inv xs) (ae.aO (inv xs) (ae.aO xs i m) k)=_;rw[h.lV i0 i1 k m];by_cases hk:k<=m;rw[if_pos hk];by_cases hk1:k+1<=m;rw[if_pos hk1];obtain⟨d,hd⟩:∃d,m-k=d+1:=⟨m-k-1,by lk⟩;rw[hd,show m-(k+1)=d by lk];obtain⟨a,b⟩:=h.aO i0 i1 d;exact h.dU a b;rw[if_neg hk1,show m-k=0 by lk,show k+1-m=1 by lk];rfl;rw[if_neg hk,if_neg ⋯,show k+1-m=(k-m)+1 by lk];rfl
def Tn.qy(h:Tn n xs)(i0:0<=i)(i1:i<(n:Int))(k m:Nat):ae.aO xs (ae.aO (inv xs) i m) k=if k<=m then ae.aO (inv xs) i (m-k)else ae.aO xs i (k-m):=by have:=h.aq.lV i0 i1 k m;rw[h.inv_inv]at this;exact this
def Tn.pw(h:Tn n xs)(i0:0<=i)(i1:i<(n:Int))(k:Int):0<=ae.pw xs k i/\ae.pw xs k i<(n:Int):=by unfold ae.pw;split;exact h.aO i0 i1 _;exact h.aq.aO i0 i1 _
def Tn.pw_add(h:Tn n xs)(i0:0<=i)(i1:i<(n:Int))(a b:Int):ae.pw xs a (ae.pw xs b i)=ae.pw xs (a+b) i:=by
 by_cases ha:0<=a<;>by_cases hb:0<=b;unfold ae.pw;rw[if_pos ha,if_pos hb,if_pos ⋯,rl]
 congr 1
 lk;have e1:ae.pw xs b i=ae.aO (inv xs) i (-b).toNat:=by unfold ae.pw;rw[if_neg hb]
 have e2:∀j,ae.pw xs a j=ae.aO xs j a.toNat:=λj=>by unfold ae.pw;rw[if_pos ha]
 rw[e1,e2,h.qy i0 i1];unfold ae.pw;split;split;rw[show(-b).toNat-a.toNat=0 by lk,show(a+b).toNat=0 by lk];rfl
 congr 1;lk
 rw[if_pos ⋯];congr 1;lk;have e1:ae.pw xs b i=ae.aO xs i b.toNat:=by unfold ae.pw;rw[if_pos hb]
 have e2:∀j,ae.pw xs a j=ae.aO (inv xs) j (-a).toNat:=λj=>by unfold ae.pw;rw[if_neg ha]
 rw[e1,e2,h.lV i0 i1];unfold ae.pw;split;rw[if_pos ⋯];congr 1;lk;rw[if_neg ⋯];congr 1;lk;unfold ae.pw;rw[if_neg ha,if_neg hb,if_neg ⋯,rl]
 congr 1
 lk
def Tn.pw_per(h:Tn n xs)(i0:0<=i)(i1:i<(n:Int)){L:Nat}(hL:ae.aO xs i L=i)(q:Int):ae.pw xs ((L:Int)*q) i=i:=by
 have pos:∀m:Nat,ae.pw xs ((L:Int)*(m:Int)) i=i:=λm=>by
  unfold ae.pw;rw[if_pos (Int.mul_nonneg ⋯ ⋯),show((L:Int)*(m:Int)).toNat=0+L*m by rw[<- Int.natCast_mul,VB];lk,Ak hL];rfl
 by_cases hq:0<=q;obtain⟨m,rfl⟩:∃m:Nat,q=(m:Int):=⟨q.toNat,by lk⟩;exact pos m;obtain⟨m,rfl⟩:∃m:Nat,q=-(m:Int):=⟨(-q).toNat,by lk⟩
 have:=h.pw_add i0 i1 ((L:Int) * -(m:Int)) ((L:Int)*(m:Int));rw[pos m]at this;rw[this,Int.mul_neg,Xp];rfl
def Tn.v9(h:Tn n xs)(i0:0<=i)(i1:i<(n:Int)){k v:Int}(o:Kj xs k i v):v=ae.pw xs k i:=by
 obtain⟨m,_,bk,rfl⟩:=o;have m0:=Wu k (show((m+1:Nat):Int)≠0 by lk);have e:ae.aO xs i (k % ((m+1:Nat):Int)).toNat=ae.pw xs (k % ((m+1:Nat):Int)) i:=by unfold ae.pw;rw[if_pos m0]
 rw[e];have e2:=h.pw_add i0 i1 (k % ((m+1:Nat):Int)) (((m+1:Nat):Int)*(k / ((m+1:Nat):Int)));rw[h.pw_per i0 i1 bk,Int.emod_add_mul_ediv]at e2;exact e2
end
abbrev bL(xs:List Int)(k:Int):List Int:=(upto xs.length).map (pw xs k)
def Ar(xs:List Int)(k:Int):(bL xs k).length=xs.length:=by simp[bL,oG]
def nV{xs:List Int}{k s:Int}(s0:0<=s)(s1:s<(xs.length:Int)):app (bL xs k) s=pw xs k s:=by have e:=mQ (xs:=bL xs k) s0 (by rw[Ar];exact s1);unfold bL at e;rw[Vr,GG ⋯]at e;have:=Vu e;rw[VY s0]at this;exact this.symm
def Tn.bL{n:Nat}{xs:List Int}(h:Tn n xs)(k:Int):Tn n (bL xs k):=by have hl:=h.length;refine Tn.qx (by rw[Ar];exact hl) (λs s0 s1=>by rw[nV s0 ⋯];exact h.pw s0 s1 k) λs t s0 s1 t0 t1 e=>?_;rw[nV s0 ⋯,nV t0 ⋯]at e;have e2:=congrArg (ae.pw xs (-k)) e;rw[h.pw_add s0 s1,h.pw_add t0 t1,Xp]at e2;exact e2
abbrev shr(xs ys:List Int)(k:Int):List Int:=aK (bL xs (-k)) ys
def Tn.shr{n:Nat}{xs ys:List Int}(hx:Tn n xs)(hy:Tn n ys)(k:Int):Tn n (shr xs ys k):=(hx.bL (-k)).aK hy
def Tn.j5{n:Nat}{xs ys:List Int}(hx:Tn n xs){k s:Int}(s0:0<=s)(s1:s<(n:Int)):ae.app (ae.shr xs ys k) s=ae.app ys (ae.pw xs (-k) s):=by have hl:=hx.length;unfold ae.shr;rw[lq s0 (by rw[Ar,hl];exact s1),nV s0 (by rw[hl];exact s1)]
def Tn.rY{n:Nat}{xs ys:List Int}(hx:Tn n xs)(hy:Tn n ys)(a b:Int):ae.shr xs (ae.shr xs ys a) b=ae.shr xs ys (a+b):=by refine oK (n:=n) (hx.shr (hx.shr hy a) b).length (hx.shr hy (a+b)).length λs s0 s1=>?_;obtain⟨p0,p1⟩:=hx.pw s0 s1 (-b);rw[hx.j5 s0 s1,hx.j5 p0 p1,hx.j5 s0 s1,hx.pw_add s0 s1,show -a + -b=-(a+b) by lk]
def Tn.qz{n:Nat}{xs ys:List Int}(hx:Tn n xs)(hy:Tn n ys):ae.shr xs ys 0=ys:=by refine oK (n:=n) (hx.shr hy 0).length hy.length λs s0 s1=>?_;rw[hx.j5 s0 s1];rfl
end ae
namespace ae
abbrev odd(n:Nat):Bool:=n % 2 == 1
abbrev tb(l:Int->Nat)(p:Int->Int)(a b:Int):Bool:=if l a=l b\/l (p a)=l (p b)then false else(decide (l a<l b)).xor (decide (l (p a)<l (p b)))
end ae
namespace ae
end ae
namespace ae
@[reducible]def Sp:=Bool×Int
abbrev iY(s:Sp):Prop:=(s.1=false->1<=s.2/\s.2<=3)/\s.2≠0
abbrev fU(a b:Sp):Int:=if a.1 then a.2+b.2 else(a.2+b.2) % 4
abbrev bJ(a b:Sp):List Sp:=if fU a b=0 then[]else[(a.1,fU a b)]
abbrev bQ:List Sp->Sp->List Sp
 |[],s=>[s]
 |t :: r,s=>if t.1=s.1 then bJ t s ++ r else s :: t :: r
def rZ(t:Sp)(r:List Sp)(s:Sp):bQ (t :: r) s=if t.1=s.1 then bJ t s ++ r else s :: t :: r:=rfl
abbrev jQ(w:List Sp):List Sp:=w.foldl bQ []
abbrev kn(s:Sp):Sp:=(s.1,if s.1 then -s.2 else 4-s.2)
abbrev nA(w:List Sp):List Sp:=(w.map kn).reverse
abbrev Pl:List Sp->Prop
 |[]=>True
 |a :: r=>iY a/\(∀b,r.head?=some b->a.1≠b.1)/\Pl r
def Pl.pr:∀{l:List Sp},Pl l->∀s∈l,iY s
 |a :: r,h,s,hs=>by
  rcases VJ.mp hs with rfl|hs
  exact h.1;exact Pl.pr h.2.2 s hs
def Ks{a b:Sp}(ha:iY a)(e:a.1=b.1):(fU a b=0/\bJ a b=[])\/(iY (a.1,fU a b)/\bJ a b=[(a.1,fU a b)]):=by unfold bJ;by_cases h:fU a b=0;exact .inl ⟨h,by rw[if_pos h]⟩;refine .inr ⟨⟨λhf=>?_,h⟩,by rw[if_neg h]⟩;simp only at hf;unfold fU at h ⊢;simp only[hf,V5,if_false]at h ⊢;lk
def Pl.push{l:List Sp}{s:Sp}(h:Pl l)(hs:iY s):Pl (bQ l s):=by
 cases l with
 |nil=>exact⟨hs,λb h=>(nomatch h),trivial⟩
 |cons t r =>
  rw[rZ];split
  ·next e =>
   rcases Ks h.1 e with⟨_,ej⟩|⟨hp,ej⟩
   ·rw[ej];exact h.2.2
   ·rw[ej];exact⟨hp,h.2.1,h.2.2⟩
  ·next e =>
   refine⟨hs,λb hb=>?_,h⟩;cases hb;exactλe'=>e e'.symm
def Kt{l:List Sp}{s:Sp}(h:∀b,l.head?=some b->s.1≠b.1):bQ l s=s :: l:=by
 cases l with
 |nil=>rfl
 |cons t r=>rw[rZ,if_neg λe=>h t rfl e.symm]
def Pl.lr:∀{l:List Sp},Pl l->jQ l.reverse=l
 |[],_=>rfl
 |a :: r,h=>by
  unfold jQ;rw[XM,Wr];show bQ (jQ r.reverse) a=_;rw[Pl.lr h.2.2,Kt h.2.1]
def Ku(u v:List Sp):jQ (u ++ v)=v.foldl bQ (jQ u):=by unfold jQ;rw[Wr]
def As{s:Sp}(h:iY s):iY (kn s):=by
 obtain⟨b,k⟩:=s;cases b with
 |true=>exact⟨nofun,λe=>h.2 (by have:-k=0:=e;show k=0;lk)⟩
 |false =>
  obtain⟨h1,h2⟩:=h.1 rfl;simp only at h1 h2;exact⟨λ_=>by show 1<=4-k/\4-k<=3;lk,by show 4-k≠0;lk⟩
def P9{p:List Sp}{s:Sp}(hp:Pl p)(hs:iY s):bQ (bQ p s) (kn s)=p:=by
 have e0:bJ s (kn s)=[]:=by
  unfold bJ fU kn;cases hb:s.1<;>simp<;>lk
 cases p with
 |nil =>
  show(if s.1=(kn s).1 then bJ s (kn s) ++ []else _)=_;rw[if_pos (show s.1=(kn s).1 from rfl),e0];rfl
 |cons t r =>
  by_cases e:t.1=s.1;have e1:bQ (t :: r) s=bJ t s ++ r:=by rw[rZ,if_pos e]
  rw[e1];obtain⟨tb,tk⟩:=t;obtain⟨sb,sk⟩:=s;simp only at e;subst e;have ht:=hp.1;rcases Ks (b:=(tb,sk)) hp.1 rfl with⟨h0,ej⟩|⟨Va,ej⟩
  rw[ej,List.nil_append];have eb:kn (tb,sk)=(tb,tk):=by
   unfold kn;unfold fU at h0;cases tb with
   |true=>simp only[if_true]at h0 ⊢;congr 1;lk
   |false =>
    have h1:=ht.1 rfl;have h2:=hs.1 rfl;simp only[V5,if_false]at h0 h1 h2 ⊢
    congr 1;lk
  rw[eb];exact Kt hp.2.1;rw[ej];show(if tb=(kn (tb,sk)).1 then bJ (tb,fU (tb,tk) (tb,sk)) (kn (tb,sk)) ++ r else _)=_;rw[if_pos (show tb=(kn (tb,sk)).1 from rfl)];have eb:fU (tb,fU (tb,tk) (tb,sk)) (kn (tb,sk))=tk:=by
   unfold fU kn;cases tb with
   |true=>simp only[if_true];lk
   |false =>
    have h1:=ht.1 rfl;have h2:=hs.1 rfl;simp only[V5,if_false]at h1 h2 ⊢;lk
  unfold bJ;rw[eb,if_neg ht.2];rfl;have e1:bQ (t :: r) s=s :: t :: r:=by rw[rZ,if_neg e]
  rw[e1];show(if s.1=(kn s).1 then bJ s (kn s) ++ (t :: r)else _)=_;rw[if_pos (show s.1=(kn s).1 from rfl),e0];rfl
def Qa{w:List Sp}:∀{p:List Sp},Pl p->(∀s∈w,iY s)->(w ++ nA w).foldl bQ p=p:=by
 induction w with
 |nil=>exactλ_ _=>rfl
 |cons s w ih =>
  intro p hp hw;have e:(s :: w) ++ nA (s :: w)=s :: ((w ++ nA w) ++ [kn s]):=by unfold nA;simp
  rw[e];show((w ++ nA w) ++ [kn s]).foldl bQ (bQ p s)=p;have hs:=hw s (Vw);rw[Wr,ih (hp.push hs) λs' h'=>hw s' (VA _ h')];exact P9 hp hs
def Qb{w:List Sp}(hw:∀s∈w,iY s):jQ (w ++ nA w)=[]:=Qa (p:=[]) trivial hw
def Qc{l:List Sp}{s:Sp}{M B:Nat}(h:∀x∈l,x.2.natAbs<=M)(hs:s.2.natAbs<=B)(hp:iY s)(hl:Pl l):∀x∈bQ l s,x.2.natAbs<=M+B:=by
 intro x hx;cases l with
 |nil=>rcases VE.mp hx with rfl;lk
 |cons t r =>
  rw[rZ]at hx;have ht:=h t (Vw);split at hx
  ·next e0 =>
   rcases VQ.mp hx with hx|hx
   ·unfold bJ at hx
    split at hx
    ·exact(nomatch hx)
    ·rcases VE.mp hx with rfl
     show(fU t s).natAbs<=_;unfold fU;split
     ·lk
     ·next hb =>
      have:=hl.1.1 (by simpa using hb);have h2:=hp.1 (by rw[<- e0];simpa using hb);lk
   ·have:=h x (VA _ hx);lk
  ·rcases VJ.mp hx with rfl|hx
   ·lk
   ·have:=h x hx;lk
def Qd(l:List Sp)(s:Sp):(bQ l s).length<=l.length+1:=by
 cases l with
 |nil=>exact Vp _
 |cons t r =>
  rw[rZ];split;unfold bJ;split<;>simp<;>lk;simp
def Qe{w:List Sp}:∀{l:List Sp},(w.foldl bQ l).length<=l.length+w.length:=by
 induction w with
 |nil=>exact Vp _
 |cons s w ih =>
  intro l;have:=ih (l:=bQ l s);have h2:=Qd l s;rw[VU];exact VH this ⋯
def Kv(w:List Sp):(jQ w).length<=w.length:=by have:=Qe (w:=w) (l:=[]);simpa[jQ]using this
structure T4 where (a b c d:Int)
abbrev T4.one:T4:=⟨1,0,0,1⟩
abbrev T4.qt:T4:=⟨0,-1,1,0⟩
abbrev T4.mul(x y:T4):T4:=⟨x.a*y.a+x.b*y.c,x.a*y.b+x.b*y.d,x.c*y.a+x.d*y.c,x.c*y.b+x.d*y.d⟩
abbrev T4.rn(x:T4):T4:=⟨x.d,-x.b,-x.c,x.a⟩
def T4.ext'{x y:T4}(h1:x.a=y.a)(h2:x.b=y.b)(h3:x.c=y.c)(h4:x.d=y.d):x=y:=by cases x;cases y;simp only at h1 h2 h3 h4;subst h1 h2 h3 h4;rfl
def T4.assoc(x y z:T4):(x.mul y).mul z=x.mul (y.mul z):=by apply T4.ext'<;>simp only[T4.mul,Int.add_mul,Int.mul_add,Int.mul_assoc]<;>lk
def T4.one_mul(x:T4):T4.one.mul x=x:=by apply T4.ext'<;>simp[T4.mul,T4.one]
def T4.mul_one(x:T4):x.mul T4.one=x:=by apply T4.ext'<;>simp[T4.mul,T4.one]
def T4.r9(x y:T4):(x.mul y).rn=y.rn.mul x.rn:=by apply T4.ext'<;>simp only[T4.mul,T4.rn,Int.neg_mul,Int.mul_neg,Int.neg_neg,Int.mul_comm]<;>lk
abbrev qp:Nat->T4
 |0=>T4.one
 |n+1=>T4.qt.mul (qp n)
abbrev lu(s:Sp):T4:=if s.1 then⟨1,s.2,0,1⟩else qp s.2.toNat
abbrev kT(T:T4)(w:List Sp):T4:=w.foldl (λT s=>(lu s).mul T) T
abbrev bD(w:List Sp):T4:=kT T4.one w
def Qf(w:List Sp):∀T:T4,kT T w=(bD w).mul T:=by
 induction w with
 |nil=>exactλT=>(T4.one_mul T).symm
 |cons s w ih =>
  intro T;show kT ((lu s).mul T) w=(kT ((lu s).mul T4.one) w).mul T;rw[ih,ih,T4.mul_one,T4.assoc]
def wa(u v:List Sp):bD (u ++ v)=(bD v).mul (bD u):=by show kT T4.one (u ++ v)=_;unfold kT;rw[Wr];exact Qf v _
def Au(u:List Sp)(s:Sp):bD (u ++ [s])=(lu s).mul (bD u):=by show kT T4.one (u ++ [s])=_;unfold kT;rw[Wr];rfl
def t3{k:Int}(h:1<=k/\k<=3):k=1\/k=2\/k=3:=by lk
def Qg{t s:Sp}(ht:iY t)(hs:iY s)(e:t.1=s.1):bD (bJ t s)=(lu s).mul (lu t):=by
 obtain⟨tb,tk⟩:=t;obtain⟨sb,sk⟩:=s;simp only at e;subst e;cases tb with
 |true =>
  have e2:(lu (true,sk)).mul (lu (true,tk))=⟨1,tk+sk,0,1⟩:=by apply T4.ext'<;>simp[T4.mul,lu]<;>lk
  rw[e2];unfold bJ fU;simp only[if_true];split
  ·next h=>rw[h];rfl
  ·rw[show bD [(true,tk+sk)]=(lu (true,tk+sk)).mul T4.one from rfl,T4.mul_one];rfl
 |false =>
  have h1:=ht.1 rfl;have h2:=hs.1 rfl;simp only at h1 h2;rcases t3 h1 with rfl|rfl|rfl<;>rcases t3 h2 with rfl|rfl|rfl<;>rfl
def Qh{l:List Sp}{s:Sp}(hl:Pl l)(hs:iY s):bD (bQ l s).reverse=(lu s).mul (bD l.reverse):=by
 cases l with
 |nil=>exact Au [] s
 |cons t r =>
  rw[rZ];split
  ·next e =>
   rw[List.reverse_append,wa,XM,Au,<- T4.assoc]
   congr 1
   rw[<- Qg hl.1 hs e];unfold bJ;split<;>rfl
  ·rw[XM,Au]
def Qi{w:List Sp}:∀{l:List Sp},Pl l->(∀s∈w,iY s)->bD (w.foldl bQ l).reverse=kT (bD l.reverse) w:=by
 induction w with
 |nil=>exactλ_ _=>rfl
 |cons s w ih =>
  intro l hl hw;have hs:=hw s (Vw);show bD (w.foldl bQ (bQ l s)).reverse=kT ((lu s).mul (bD l.reverse)) w;rw[ih (hl.push hs) λs' h'=>hw s' (VA _ h'),Qh hl hs]
def Kw{w:List Sp}(hw:∀s∈w,iY s):bD (jQ w).reverse=bD w:=Qi (l:=[]) trivial hw
def wb{s:Sp}(h:iY s):lu (kn s)=(lu s).rn:=by
 obtain⟨b,k⟩:=s;cases b with
 |true=>apply T4.ext'<;>simp[T4.rn,lu,kn]
 |false =>
  have h1:=h.1 rfl;simp only at h1;rcases t3 h1 with rfl|rfl|rfl<;>rfl
def Kx{w:List Sp}(hw:∀s∈w,iY s):bD (nA w)=(bD w).rn:=by
 induction w with
 |nil=>rfl
 |cons s w ih =>
  have e:nA (s :: w)=nA w ++ [kn s]:=by unfold nA;simp
  have e2:bD (s :: w)=(bD w).mul (lu s):=by
   rw[show s :: w=[s] ++ w from rfl,wa]
   congr 1
   exact(Au [] s).trans (T4.mul_one _)
  rw[e,Au,ih λs' h'=>hw s' (VA _ h'),wb (hw s (Vw)),e2,T4.r9]
end ae
namespace ae
abbrev nB:List Int->List Int->Bool
 |[],[]=>false
 |[],_ :: _=>true
 |_ :: _,[]=>false
 |x :: xs,y :: ys=>if x=y then nB xs ys else decide (x<y)
def DF:∀xs:List Int,nB xs xs=false
 |[]=>rfl
 |x :: xs=>by unfold nB;rw[if_pos rfl];exact DF xs
def GN:∀{xs ys zs:List Int},nB xs ys=true->nB ys zs=true->nB xs zs=true
 |[],[],_,h,_=>by cases h
 |[],_ :: _,[],_,h=>by cases h
 |[],_ :: _,_ :: _,_,_=>rfl
 |_ :: _,[],_,h,_=>by cases h
 |_ :: _,_ :: _,[],_,h=>by cases h
 |x :: xs,y :: ys,z :: zs,h1,h2=>by
  unfold nB at h1 h2 ⊢;by_cases a:x=y;rw[if_pos a]at h1;by_cases b:y=z;rw[if_pos b]at h2;rw[if_pos (a.trans b)];exact GN h1 h2;rw[if_neg b]at h2;rw[if_neg (λe=>b (a.symm.trans e))];rw[a];exact h2;rw[if_neg a]at h1;have h1:=of_decide_eq_true h1;by_cases b:y=z;rw[<- b,if_neg a];exact decide_eq_true h1;rw[if_neg b]at h2;have h2:=of_decide_eq_true h2;rw[if_neg ⋯];exact decide_eq_true ⋯
def GO:∀{xs ys:List Int},nB xs ys=false->nB ys xs=false->xs=ys
 |[],[],_,_=>rfl
 |[],_ :: _,h,_=>by cases h
 |_ :: _,[],_,h=>by cases h
 |x :: xs,y :: ys,h1,h2=>by
  unfold nB at h1 h2;by_cases a:x=y;subst a;rw[if_pos rfl]at h1 h2;rw[GO h1 h2];rw[if_neg a]at h1;rw[if_neg (Ne.symm a)]at h2;have h1:=of_decide_eq_false h1;have h2:=of_decide_eq_false h2;lk
@[reducible]def aG:=List Int×List Int
abbrev ko(p q:aG):Bool:=if p.1=q.1 then nB p.2 q.2 else nB p.1 q.1
def Ky(p:aG):ko p p=false:=by unfold ko;rw[if_pos rfl];exact DF _
def Qj{p q r:aG}(h1:ko p q=true)(h2:ko q r=true):ko p r=true:=by unfold ko at h1 h2 ⊢;by_cases a:p.1=q.1;rw[if_pos a]at h1;by_cases b:q.1=r.1;rw[if_pos b]at h2;rw[if_pos (a.trans b)];exact GN h1 h2;rw[if_neg b]at h2;rw[if_neg (λe=>b (a.symm.trans e)),a];exact h2;rw[if_neg a]at h1;by_cases b:q.1=r.1;rw[<- b,if_neg a];exact h1;rw[if_neg b]at h2;have h:=GN h1 h2;rw[if_neg (λe=>by rw[e,DF]at h;cases h)];exact h
def Qk{p q:aG}(h1:ko p q=false)(h2:ko q p=false):p=q:=by unfold ko at h1 h2;by_cases a:p.1=q.1;rw[if_pos a]at h1;rw[if_pos a.symm]at h2;exact Prod.ext a (GO h1 h2);rw[if_neg a]at h1;rw[if_neg (Ne.symm a)]at h2;exact absurd (GO h1 h2) a
abbrev kq:List aG->aG
 |[]=>([],[])
 |p :: l=>l.foldl (λb q=>if ko q b then q else b) p
abbrev Lst(l:List aG)(p:aG):Prop:=p∈l/\∀q∈l,ko q p=false
def Lst.unique{l m:List aG}{p q:aG}(a:Lst l p)(b:Lst m q)(h:∀x,x∈l↔x∈m):p=q:=Qk (b.2 p ((h p).mp a.1)) (a.2 q ((h q).mpr b.1))
def Lst.step{l:List aG}{b q:aG}(h:Lst l b):Lst (l ++ [q]) (if ko q b then q else b):=by
 split
 ·next hq =>
  refine⟨VP _ (Xh _),λx hx=>?_⟩;rcases VQ.mp hx with hx|hx
  ·cases Ql:ko x q with
   |false=>rfl
   |true=>have:=Qj Ql hq;rw[h.2 x hx]at this;cases this
  ·rw[VE.mp hx];exact Ky q
 ·next hq =>
  refine⟨V1 _ h.1,λx hx=>?_⟩;rcases VQ.mp hx with hx|hx
  ·exact h.2 x hx
  ·rw[VE.mp hx];simpa using hq
def Lst.fold:∀(l pre:List aG) (b:aG),Lst pre b->Lst (pre ++ l) (l.foldl (λb q=>if ko q b then q else b) b)
 |[],pre,b,h=>by rw[V7];exact h
 |q :: l,pre,b,h=>by
  have:=Lst.fold l (pre ++ [q]) _ (h.step (q:=q));rw[W0]at this;exact this
def GP{l:List aG}(h:l≠[]):Lst l (kq l):=by
 cases l with
 |nil=>exact absurd rfl h
 |cons p l=>exact Lst.fold l [p] p ⟨Xh _,λq hq=>by rw[VE.mp hq];exact Ky p⟩
def Qm{l m:List aG}(h:∀x,x∈l↔x∈m)(hl:l≠[]):kq l=kq m:=by
 have hm:m≠[]:=λe=>by
  obtain⟨x,hx⟩:=List.exists_mem_of_ne_nil l hl;have:=(h x).mp hx;rw[e]at this;cases this
 exact(GP hl).unique (GP hm) h
end ae
namespace ae
def tU(n:Nat):Tn n (upto n):=W6 _
def DG{n:Nat}{s:Int}(s0:0<=s)(s1:s<(n:Int)):app (upto n) s=s:=by unfold app;rw[Vz,GG ⋯,Option.getD_some];lk
section
variable {n:Nat}{a b c g x y:List Int}
def oN(ha:Tn n a)(hb:Tn n b)(hc:Tn n c):aK (aK a b) c=aK a (aK b c):=by refine oK (n:=n) ((ha.aK hb).aK hc).length (ha.aK (hb.aK hc)).length λs s0 s1=>?_;obtain⟨p0,p1⟩:=ha.app s0 s1;rw[lq s0 (by rw[(ha.aK hb).length];exact s1),lq s0 (by rw[ha.length];exact s1),lq s0 (by rw[ha.length];exact s1),lq p0 (by rw[hb.length];exact p1)]
def Av(ha:Tn n a):aK a (inv a)=upto n:=PV ha
def GQ(ha:Tn n a):aK (inv a) a=upto n:=PX ha
def wc(ha:Tn n a):aK a (upto n)=a:=by refine oK (n:=n) (ha.aK (tU n)).length ha.length λs s0 s1=>?_;obtain⟨p0,p1⟩:=ha.app s0 s1;rw[lq s0 (by rw[ha.length];exact s1),DG p0 p1]
def DH(ha:Tn n a):aK (upto n) a=a:=by refine oK (n:=n) ((tU n).aK ha).length ha.length λs s0 s1=>?_;rw[lq s0 (by rw[(tU n).length];exact s1),DG s0 s1]
def DI(ha:Tn n a)(hb:Tn n b)(h:aK a b=upto n):inv a=b:=by
 have e:aK (inv a) (aK a b)=b:=by rw[<- oN ha.aq ha hb,GQ ha,DH hb]
 rw[h,wc ha.aq]at e;exact e
def tV(ha:Tn n a)(hb:Tn n b):inv (aK a b)=aK (inv b) (inv a):=by refine DI (ha.aK hb) (hb.aq.aK ha.aq) ?_;rw[oN ha hb (hb.aq.aK ha.aq),<- oN hb hb.aq ha.aq,Av hb,DH ha.aq,Av ha]
def Kz(ha:Tn n a)(hb:Tn n b):aK (aK a b) (inv b)=a:=by rw[oN ha hb hb.aq,Av hb,wc ha]
def GS(ha:Tn n a)(hb:Tn n b):aK (aK a (inv b)) b=a:=by rw[oN ha hb.aq hb,GQ hb,wc ha]
def Qn(ha:Tn n a)(hb:Tn n b):aK a (aK (inv a) b)=b:=by rw[<- oN ha ha.aq hb,Av ha,DH hb]
def Aw(hx:Tn n x)(i j:Int):aK (bL x i) (bL x j)=bL x (i+j):=by refine oK (n:=n) ((hx.bL i).aK (hx.bL j)).length (hx.bL (i+j)).length λs s0 s1=>?_;obtain⟨p0,p1⟩:=hx.pw s0 s1 i;have hl:=hx.length;rw[lq s0 (by rw[Ar,hl];exact s1),nV s0 (by rw[hl];exact s1),nV p0 (by rw[hl];exact p1),nV s0 (by rw[hl];exact s1),hx.pw_add s0 s1,Int.add_comm j i]
def GU(hx:Tn n x):bL x 0=upto n:=by refine oK (n:=n) (hx.bL 0).length (tU n).length λs s0 s1=>?_;rw[nV s0 (by rw[hx.length];exact s1),DG s0 s1];rfl
def Ax(hx:Tn n x):bL x 1=x:=by refine oK (n:=n) (hx.bL 1).length hx.length λs s0 s1=>?_;rw[nV s0 (by rw[hx.length];exact s1)];rfl
def GV(hx:Tn n x)(k:Int):inv (bL x k)=bL x (-k):=DI (hx.bL k) (hx.bL (-k)) (by rw[Aw hx,Xj,GU hx])
def GW(hx:Tn n x):bL x (-1)=inv x:=by rw[<- GV hx,Ax hx]
def KA(hx:Tn n x)(k:Int):bL (inv x) k=bL x (-k):=by refine oK (n:=n) (hx.aq.bL k).length (hx.bL (-k)).length λs s0 s1=>?_;rw[nV s0 (by rw[hx.aq.length];exact s1),nV s0 (by rw[hx.length];exact s1)];unfold pw;by_cases h:0<=k;rw[if_pos h];by_cases h0:k=0;subst h0;rfl;rw[if_neg ⋯,show -(-k)=k by lk];rw[if_neg h,if_pos ⋯,hx.inv_inv]
def KC(ha:Tn n a)(hb:Tn n b)(hg:Tn n g):aK (anew a g) (anew b g)=anew (aK a b) g:=by unfold anew;have hi:=hg.aq;rw[oN (hi.aK ha) hg ((hi.aK hb).aK hg),oN hi hb hg,Qn hg (hb.aK hg),oN hi ha (hb.aK hg),<- oN ha hb hg,<- oN hi (ha.aK hb) hg]
def Qo(hg:Tn n g):anew (upto n) g=upto n:=by unfold anew;rw[wc hg.aq,GQ hg]
def KD(ha:Tn n a)(hg:Tn n g):inv (anew a g)=anew (inv a) g:=DI (ha.anew hg) (ha.aq.anew hg) (by rw[KC ha ha.aq hg,Av ha,Qo hg])
def GX(hx:Tn n x)(hg:Tn n g){i:Int}(i0:0<=i)(i1:i<(n:Int)):∀k,aO (anew x g) (app g i) k=app g (aO x i k)
 |0=>rfl
 |k+1=>by
  obtain⟨p0,p1⟩:=hx.aO i0 i1 k;show app (anew x g) (aO (anew x g) (app g i) k)=app g (app x (aO x i k));rw[GX hx hg i0 i1 k,hx.jl hg p0 p1]
def Qp(hx:Tn n x)(hg:Tn n g){i:Int}(i0:0<=i)(i1:i<(n:Int))(k:Int):pw (anew x g) k (app g i)=app g (pw x k i):=by unfold pw;split;exact GX hx hg i0 i1 _;rw[KD hx hg];exact GX hx.aq hg i0 i1 _
def Qq(hx:Tn n x)(hg:Tn n g)(k:Int):bL (anew x g) k=anew (bL x k) g:=by refine oK (n:=n) ((hx.anew hg).bL k).length ((hx.bL k).anew hg).length λs s0 s1=>?_;obtain⟨p0,p1⟩:=hg.jY s0 s1;rw[nV s0 (by rw[(hx.anew hg).length];exact s1),(hx.bL k).fJ hg s0 s1,nV p0 (by rw[hx.length];exact p1),<- Qp hx hg p0 p1,hg.bU s0 s1]
end
abbrev Vf(n:Nat)(p:aG):Prop:=Tn n p.1/\Tn n p.2
abbrev aS(n:Nat)(p q:aG):Prop:=∃g,Tn n g/\q=(anew p.1 g,anew p.2 g)
abbrev Sh(k:Int)(p:aG):aG:=(p.1,shr p.1 p.2 k)
abbrev Qt(p:aG):aG:=(inv p.2,p.1)
section
variable {n:Nat}{p q r:aG}
def Vf.sh(h:Vf n p)(k:Int):Vf n (Sh k p):=⟨h.1,h.1.shr h.2 k⟩
def Vf.qt(h:Vf n p):Vf n (Qt p):=⟨h.2.aq,h.1⟩
def aS.refl(h:Vf n p):aS n p p:=⟨upto n,tU n,by
 have e:∀a:List Int,Tn n a->anew a (upto n)=a:=λa ha=>by
  unfold anew;rw[DI (tU n) (tU n) (wc (tU n)),DH ha,wc ha]
 rw[e _ h.1,e _ h.2]⟩
def aS.symm(h:Vf n p)(a:aS n p q):aS n q p:=by obtain⟨g,hg,rfl⟩:=a;exact⟨inv g,hg.aq,by show p=(anew (anew p.1 g) (inv g),anew (anew p.2 g) (inv g));rw[h.1.jH hg,h.2.jH hg]⟩
def aS.trans(h:Vf n p)(a:aS n p q)(b:aS n q r):aS n p r:=by obtain⟨g,hg,rfl⟩:=a;obtain⟨f,hf,rfl⟩:=b;exact⟨aK g f,hg.aK hf,by show(anew (anew p.1 g) f,anew (anew p.2 g) f)=_;rw[h.1.jG hg hf,h.2.jG hg hf]⟩
def aS.sh(h:Vf n p)(a:aS n p q)(k:Int):aS n (Sh k p) (Sh k q):=by obtain⟨g,hg,rfl⟩:=a;refine⟨g,hg,?_⟩;show(anew p.1 g,aK (bL (anew p.1 g) (-k)) (anew p.2 g))=(anew p.1 g,anew (aK (bL p.1 (-k)) p.2) g);rw[Qq h.1 hg,KC (h.1.bL _) h.2 hg]
def aS.qt(h:Vf n p)(a:aS n p q):aS n (Qt p) (Qt q):=by obtain⟨g,hg,rfl⟩:=a;refine⟨g,hg,?_⟩;show(inv (anew p.2 g),anew p.1 g)=(anew (inv p.2) g,anew p.1 g);rw[KD h.2 hg]
def qA(h:Vf n p)(j k:Int):Sh k (Sh j p)=Sh (j+k) p:=by show(p.1,shr p.1 (shr p.1 p.2 j) k)=(p.1,shr p.1 p.2 (j+k));rw[h.1.rY h.2]
def kU(h:Vf n p):Sh 0 p=p:=by show(p.1,shr p.1 p.2 0)=p;rw[h.1.qz h.2]
abbrev Q2(p:aG):aG:=(inv p.1,inv p.2)
def Ay(p:aG):Qt (Qt p)=Q2 p:=rfl
def Az(h:Vf n p):Q2 (Q2 p)=p:=by show(inv (inv p.1),inv (inv p.2))=p;rw[h.1.inv_inv,h.2.inv_inv]
def Vf.q2(h:Vf n p):Vf n (Q2 p):=⟨h.1.aq,h.2.aq⟩
def aS.q2(h:Vf n p)(a:aS n p q):aS n (Q2 p) (Q2 q):=aS.qt h.qt (aS.qt h a)
def GY(h:Vf n p)(k:Int):aS n (Q2 (Sh k p)) (Sh k (Q2 p)):=by
 have hx:=h.1;have hy:=h.2;refine⟨bL p.1 (-k),hx.bL _,?_⟩;show(inv p.1,aK (bL (inv p.1) (-k)) (inv p.2))=(anew (inv p.1) (bL p.1 (-k)),anew (inv (aK (bL p.1 (-k)) p.2)) (bL p.1 (-k)));have e1:anew (inv p.1) (bL p.1 (-k))=inv p.1:=by
  unfold anew;rw[GV hx,<- GW hx,Aw hx,Aw hx]
  congr 1;lk
 have e2:anew (inv (aK (bL p.1 (-k)) p.2)) (bL p.1 (-k))=aK (bL (inv p.1) (-k)) (inv p.2):=by
  unfold anew;rw[tV (hx.bL _) hy,KA hx,GV hx,oN (hx.bL _) (hy.aq.aK (hx.bL _)) (hx.bL _),oN hy.aq (hx.bL _) (hx.bL _),Aw hx,show - -k + -k=0 by lk,GU hx,wc hy.aq]
 rw[e1,e2]
def AA(h:Vf n p):aS n (Qt (Sh 1 (Qt p))) (Sh (-1) (Qt (Sh (-1) p))):=by
 have hx:=h.1;have hy:=h.2;have l:Qt (Sh 1 (Qt p))=(aK (inv p.1) (inv p.2),inv p.2):=by
  show(inv (aK (bL (inv p.2) (-1)) p.1),inv p.2)=_;rw[KA hy,show -(-1:Int)=1 by lk,Ax hy,tV hy hx]
 have r:Sh (-1) (Qt (Sh (-1) p))=(aK (inv p.2) (inv p.1),inv p.2):=by
  show(inv (aK (bL p.1 (-(-1))) p.2),aK (bL (inv (aK (bL p.1 (-(-1))) p.2)) (-(-1))) p.1)=_;have hf:=hx.aK hy;rw[show -(-1:Int)=1 by lk,Ax hx,Ax hf.aq,tV hx hy,GS hy.aq hx]
 refine⟨p.2,hy,?_⟩;rw[l,r];show(aK (inv p.2) (inv p.1),inv p.2)=(aK (aK (inv p.2) (aK (inv p.1) (inv p.2))) p.2,aK (aK (inv p.2) (inv p.2)) p.2);rw[<- oN hy.aq hx.aq hy.aq,GS (hy.aq.aK hx.aq) hy,GS hy.aq hy]
def wg(h:Vf n p):aS n (Qt (Sh (-1) (Qt p))) (Q2 (Sh 1 (Qt (Sh 1 p)))):=by
 have hx:=h.1;have hy:=h.2;have hu:=hx.aq.aK hy;have l:Qt (Sh (-1) (Qt p))=(aK (inv p.1) p.2,inv p.2):=by
  show(inv (aK (bL (inv p.2) (-(-1))) p.1),inv p.2)=_;rw[show -(-1:Int)=1 by lk,Ax hy.aq,tV hy.aq hx,hy.inv_inv]
 have r:Q2 (Sh 1 (Qt (Sh 1 p)))=(aK (inv p.1) p.2,aK (inv p.1) (aK (inv p.2) p.1)):=by
  show(inv (inv (aK (bL p.1 (-1)) p.2)),inv (aK (bL (inv (aK (bL p.1 (-1)) p.2)) (-1)) p.1))=_;rw[GW hx,GW hu.aq,hu.inv_inv,tV hu hx,tV hx.aq hy,hx.inv_inv]
 refine⟨aK (inv p.2) p.1,hy.aq.aK hx,?_⟩;rw[l,r];show(aK (inv p.1) p.2,aK (inv p.1) (aK (inv p.2) p.1))=(aK (aK (inv (aK (inv p.2) p.1)) (aK (inv p.1) p.2)) (aK (inv p.2) p.1),aK (aK (inv (aK (inv p.2) p.1)) (inv p.2)) (aK (inv p.2) p.1));have eg:inv (aK (inv p.2) p.1)=aK (inv p.1) p.2:=by rw[tV hy.aq hx,hy.inv_inv]
 have Qr:aK (inv p.2) p.1=inv (aK (inv p.1) p.2):=by rw[tV hx.aq hy,hx.inv_inv]
 rw[eg];have e1:aK (aK (aK (inv p.1) p.2) (aK (inv p.1) p.2)) (aK (inv p.2) p.1)=aK (inv p.1) p.2:=by rw[Qr,Kz hu hu]
 have e2:aK (aK (aK (inv p.1) p.2) (inv p.2)) (aK (inv p.2) p.1)=aK (inv p.1) (aK (inv p.2) p.1):=by rw[Kz hx.aq hy]
 rw[e1,e2]
end
abbrev act:Int->List Int->aG->aG
 |k,[],p=>Sh k p
 |k,j :: ks,p=>act j ks (Qt (Sh k p))
abbrev tS(k:Int):T4:=⟨1,k,0,1⟩
abbrev fT(k:Int):T4:=⟨0,-1,1,k⟩
abbrev fK:Int->List Int->T4
 |k,[]=>tS k
 |k,j :: ks=>(fK j ks).mul (fT k)
abbrev iJ(e:Bool)(M:T4):T4:=if e then⟨-M.a,-M.b,-M.c,-M.d⟩else M
abbrev jn(e:Bool)(p:aG):aG:=if e then Q2 p else p
def AB(e f:Bool)(M:T4):iJ e (iJ f M)=iJ (e.xor f) M:=by cases e<;>cases f<;>simp[iJ]
def AE(e:Bool)(M N:T4):(iJ e M).mul N=iJ e (M.mul N):=by cases e;rfl;unfold iJ T4.mul;simp only[if_true];congr 1<;>grind
section
variable {n:Nat}{p q r:aG}
def Vf.act:∀{ks:List Int} {k:Int} {p:aG},Vf n p->Vf n (ae.act k ks p)
 |[],k,p,h=>h.sh k
 |j :: ks,k,p,h=>Vf.act (ks:=ks) (h.sh k).qt
def aS.act:∀{ks:List Int} {k:Int} {p q:aG},Vf n p->aS n p q->aS n (ae.act k ks p) (ae.act k ks q)
 |[],k,p,q,h,a=>aS.sh h a k
 |j :: ks,k,p,q,h,a=>aS.act (ks:=ks) (h.sh k).qt (aS.qt (h.sh k) (aS.sh h a k))
def aS.jn(h:Vf n p)(a:aS n p q)(e:Bool):aS n (ae.jn e p) (ae.jn e q):=by cases e;exact a;exact aS.q2 h a
def DJ(h:Vf n p)(e f:Bool):jn e (jn f p)=jn (e.xor f) p:=by cases e<;>cases f;rfl;rfl;rfl;exact Az h
def AF:∀{ks:List Int} {k:Int} {p:aG},Vf n p->aS n (act k ks (Q2 p)) (Q2 (act k ks p))
 |[],k,p,h=>aS.symm (h.sh k).q2 (GY h k)
 |j :: ks,k,p,h=>by
  have h1:aS n (Qt (Sh k (Q2 p))) (Qt (Q2 (Sh k p))):=aS.qt (h.q2.sh k) (aS.symm (h.sh k).q2 (GY h k));have h2:=aS.act (ks:=ks) (k:=j) ((h.q2.sh k).qt) h1;have h3:=AF (ks:=ks) (k:=j) (h.sh k).qt;exact aS.trans (Vf.act (ks:=j :: ks) (k:=k) h.q2) h2 h3
def DK{ks:List Int}{j k:Int}(h:Vf n p):act k ks (Sh j p)=act (j+k) ks p:=by
 cases ks with
 |nil=>exact qA h j k
 |cons i ks=>show act i ks (Qt (Sh k (Sh j p)))=act i ks (Qt (Sh (j+k) p));rw[qA h]
def KG{ks:List Int}{k:Int}(h:Vf n p):act k ks (Qt p)=act 0 (k :: ks) p:=by show _=act k ks (Qt (Sh 0 p));rw[kU h]
def Qs{a b:Int}{ks:List Int}{j:Int}(hj:j=0\/j=1\/j=-1):∃(k':Int) (ks':List Int) (f:Bool),ks'.length<ks.length+2/\fK a (j :: b :: ks)=iJ f (fK k' ks')/\∀{n:Nat} {p:aG},Vf n p->aS n (act a (j :: b :: ks) p) (jn f (act k' ks' p)):=by
 rcases hj with rfl|rfl|rfl
 refine⟨a+b,ks,true,by lk,?_,λ{n p} h=>?_⟩;cases ks with
 |nil=>simp[fK,iJ,T4.mul,tS,fT];lk
 |cons i ks =>
  show(((fK i ks).mul (fT b)).mul (fT 0)).mul (fT a)=iJ true ((fK i ks).mul (fT (a+b)));rw[T4.assoc,T4.assoc];have:(fT b).mul ((fT 0).mul (fT a))=iJ true (fT (a+b)):=by simp[iJ,T4.mul,fT];lk
  rw[this];unfold iJ T4.mul;simp only[if_true];congr 1<;>grind
 show aS n (act b ks (Qt (Sh 0 (Qt (Sh a p))))) (Q2 (act (a+b) ks p));rw[kU (h.sh a).qt,Ay,<- DK h];exact AF (h.sh a);refine⟨a-1,(b-1) :: ks,false,by simp,?_,λ{n p} h=>?_⟩;cases ks with
 |nil=>simp[fK,iJ,T4.mul,tS,fT];refine⟨?_,?_⟩<;>grind
 |cons i ks =>
  show(((fK i ks).mul (fT b)).mul (fT 1)).mul (fT a)=((fK i ks).mul (fT (b-1))).mul (fT (a-1));rw[T4.assoc,T4.assoc,T4.assoc];have:(fT b).mul ((fT 1).mul (fT a))=(fT (b-1)).mul (fT (a-1)):=by simp[T4.mul,fT];refine⟨?_,?_,?_⟩<;>grind
  rw[this]
 show aS n (act b ks (Qt (Sh 1 (Qt (Sh a p))))) (act (b-1) ks (Qt (Sh (a-1) p)));have h1:=aS.act (ks:=ks) (k:=b) ((h.sh a).qt.sh 1).qt (AA (h.sh a));rw[DK ((h.sh a).sh (-1)).qt,qA h,show -1+b=b-1 by lk,show a + -1=a-1 by lk]at h1;exact h1;refine⟨a+1,(b+1) :: ks,true,by simp,?_,λ{n p} h=>?_⟩;cases ks with
 |nil=>simp[fK,iJ,T4.mul,tS,fT];refine⟨?_,?_⟩<;>grind
 |cons i ks =>
  show(((fK i ks).mul (fT b)).mul (fT (-1))).mul (fT a)=iJ true (((fK i ks).mul (fT (b+1))).mul (fT (a+1)));rw[T4.assoc,T4.assoc,T4.assoc];have:(fT b).mul ((fT (-1)).mul (fT a))=iJ true ((fT (b+1)).mul (fT (a+1))):=by simp[iJ,T4.mul,fT];refine⟨?_,?_,?_⟩<;>grind
  rw[this];unfold iJ T4.mul;simp only[if_true];congr 1<;>grind
 show aS n (act b ks (Qt (Sh (-1) (Qt (Sh a p))))) (Q2 (act (b+1) ks (Qt (Sh (a+1) p))));have h1:=aS.act (ks:=ks) (k:=b) ((h.sh a).qt.sh (-1)).qt (wg (h.sh a));have h2:=AF (ks:=ks) (k:=b) (((h.sh a).sh 1).qt.sh 1);rw[DK ((h.sh a).sh 1).qt,qA h,show 1+b=b+1 by lk]at h2;have h3:=aS.trans (Vf.act (ks:=ks) (k:=b) ((h.sh a).qt.sh (-1)).qt) h1 (by rw[qA h]at *;exact h2);exact h3
abbrev big:List Int->Prop
 |[]=>True
 |[_]=>True
 |j :: b :: ks=>(2<=j\/j<=-2)/\big (b :: ks)
def KH:∀(ks:List Int) (k:Int),big ks\/∃(k':Int) (ks':List Int) (f:Bool),ks'.length<ks.length/\fK k ks=iJ f (fK k' ks')/\∀{n:Nat} {p:aG},Vf n p->aS n (act k ks p) (jn f (act k' ks' p))
 |[],_=>.inl trivial
 |[_],_=>.inl trivial
 |j :: b :: ks,k=>by
  by_cases hj:j=0\/j=1\/j=-1;obtain⟨k',ks',f,hl,hm,ha⟩:=Qs (a:=k) (b:=b) (ks:=ks) hj;exact .inr ⟨k',ks',f,by simpa using hl,hm,ha⟩;rcases KH (b :: ks) j with h|⟨k',ks',f,hl,hm,ha⟩
  exact .inl ⟨by lk,h⟩;refine .inr ⟨k,k' :: ks',f,by simpa using hl,?_,λ{n p} h=>?_⟩;show(fK j (b :: ks)).mul (fT k)=iJ f ((fK k' ks').mul (fT k));rw[hm,AE];exact ha (h.sh k).qt
def KI:∀(ks:List Int) (k:Int),big ks->(ks=[]\/2<=k\/k<=-2)->(fK k ks).c.natAbs<(fK k ks).d.natAbs
 |[],k,_,_=>by show(0:Int).natAbs<(1:Int).natAbs;decide
 |j :: ks,k,h,hk=>by
  have hk:2<=k\/k<=-2:=by rcases hk with hk|hk;cases hk;exact hk
  have hj:ks=[]\/2<=j\/j<=-2:=by
   cases ks with
   |nil=>exact .inl rfl
   |cons b ks=>exact .inr h.1
  have hb:big ks:=by
   cases ks with
   |nil=>trivial
   |cons b ks=>exact h.2
  have ih:=KI ks j hb hj;show((fK j ks).c*0+(fK j ks).d*1).natAbs<((fK j ks).c * -1+(fK j ks).d*k).natAbs;generalize (fK j ks).c=c at ih;generalize (fK j ks).d=d at ih;rw[Int.mul_zero,WT,Int.mul_one];have e:(d*k).natAbs=d.natAbs*k.natAbs:=Int.natAbs_mul d k;have e2:d.natAbs*2<=d.natAbs*k.natAbs:=Nat.mul_le_mul_left _ ⋯;lk
def AG{ks:List Int}{k:Int}(h:big ks)(hn:ks≠[]):(fK k ks).c≠0:=by
 cases ks with
 |nil=>exact absurd rfl hn
 |cons j ks =>
  have hj:ks=[]\/2<=j\/j<=-2:=by
   cases ks with
   |nil=>exact .inl rfl
   |cons b ks=>exact .inr h.1
  have hb:big ks:=by
   cases ks with
   |nil=>trivial
   |cons b ks=>exact h.2
  have ih:=KI ks j hb hj;show(fK j ks).c*0+(fK j ks).d*1≠0;lk
def GZ:∀(m:Nat) (ks:List Int) (k:Int),ks.length<=m->∀(e:Bool),fK k ks=iJ e T4.one->∀{n:Nat} {p:aG},Vf n p->aS n (act k ks p) (jn e p):=by
 intro m
 induction m with
 |zero =>
  intro ks k hl e hm n p h;have:ks=[]:=Xx ⋯;subst this;have hm:(⟨1,k,0,1⟩:T4)=iJ e T4.one:=hm;cases e with
  |false =>
   have hk:k=0:=congrArg T4.b hm;subst hk;show aS n (Sh 0 p) p;rw[kU h];exact aS.refl h
  |true=>exact absurd (congrArg T4.a hm) (show ¬(1:Int)=-1 by decide)
 |succ m ih =>
  intro ks k hl e hm n p h;by_cases hn:ks=[];subst hn;exact ih [] k (VX _) e hm h;rcases KH ks k with hb|⟨k',ks',f,hl',hm',ha⟩
  have:=AG (k:=k) hb hn
  rw[hm]at this;exact absurd (by cases e<;>rfl) this;have hm2:fK k' ks'=iJ (f.xor e) T4.one:=by
   have:iJ f (fK k ks)=fK k' ks':=by rw[hm',AB,XH];rfl
   rw[<- this,hm,AB]
  have h1:=ih ks' k' ⋯ (f.xor e) hm2 h;have h2:=aS.trans h.act (ha h) (aS.jn h.act h1 f);rw[DJ h,<- Bool.xor_assoc,XH,Bool.false_xor]at h2;exact h2
end
abbrev mB:Nat->aG->aG
 |0,p=>p
 |j+1,p=>Qt (mB j p)
abbrev stM(p:aG)(s:Sp):aG:=if s.1=true then Sh s.2 p else mB s.2.toNat p
abbrev mS(p:aG)(w:List Sp):aG:=w.foldl stM p
section
variable {n:Nat}{p q:aG}
def Vf.mB(h:Vf n p):∀j,Vf n (ae.mB j p)
 |0=>h
 |j+1=>(Vf.mB h j).qt
def Vf.st(h:Vf n p)(s:Sp):Vf n (stM p s):=by unfold stM;split;exact h.sh _;exact h.mB _
def Vf.ld:∀{w:List Sp} {p:aG},Vf n p->Vf n (mS p w)
 |[],_,h=>h
 |s :: w,p,h=>Vf.ld (w:=w) (h.st s)
def aS.mB(h:Vf n p)(a:aS n p q):∀j,aS n (ae.mB j p) (ae.mB j q)
 |0=>a
 |j+1=>aS.qt (h.mB j) (aS.mB h a j)
def aS.st(h:Vf n p)(a:aS n p q)(s:Sp):aS n (stM p s) (stM q s):=by unfold stM;split;exact aS.sh h a _;exact aS.mB h a _
def aS.ld:∀{w:List Sp} {p q:aG},Vf n p->aS n p q->aS n (mS p w) (mS q w)
 |[],_,_,_,a=>a
 |s :: w,p,q,h,a=>aS.ld (w:=w) (h.st s) (aS.st h a s)
def G0(p:aG)(u v:List Sp):mS p (u ++ v)=mS (mS p u) v:=by unfold mS;rw[Wr]
end
def Qu(s:Sp)(w:List Sp):bD (s :: w)=(bD w).mul (lu s):=by have:=wa [s] w;rw[show bD [s]=(lu s).mul T4.one from rfl,T4.mul_one]at this;exact this
def KJ(e:Bool)(M N:T4):M.mul (iJ e N)=iJ e (M.mul N):=by cases e;rfl;unfold iJ T4.mul;simp only[if_true];congr 1<;>grind
def wj(ks:List Int)(j k:Int):(fK k ks).mul (tS j)=fK (j+k) ks:=by
 cases ks with
 |nil=>simp[fK,T4.mul,tS]
 |cons i ks =>
  show((fK i ks).mul (fT k)).mul (tS j)=(fK i ks).mul (fT (j+k));rw[T4.assoc]
  congr 1
  simp[T4.mul,fT,tS]
def wm(ks:List Int)(k:Int):(fK k ks).mul T4.qt=fK 0 (k :: ks):=rfl
def KL:∀{w:List Sp},(∀s∈w,iY s)->∃(k:Int) (ks:List Int) (f:Bool),bD w=iJ f (fK k ks)/\∀{n:Nat} {p:aG},Vf n p->aS n (mS p w) (jn f (act k ks p))
 |[],_=>⟨0,[],false,rfl,λ{n p} h=>by show aS n p (Sh 0 p);rw[kU h];exact aS.refl h⟩
 |s :: w,hw=>by
  obtain⟨k,ks,f,hm,ha⟩:=KL (w:=w) λx hx=>hw x (VA _ hx);have hs:=hw s Vw;obtain⟨b,j⟩:=s;rw[Qu,hm];cases b with
  |true =>
   refine⟨j+k,ks,f,?_,λ{n p} h=>?_⟩;rw[AE];congr 1;exact wj ks j k
   have:=ha (h.sh j)
   rw[DK h]at this;exact this
  |false =>
   have c:j=1\/j=2\/j=3:=t3 (hs.1 rfl);rcases c with rfl|rfl|rfl
   refine⟨0,k :: ks,f,?_,λ{n p} h=>?_⟩;rw[AE];congr 1
   have:=ha h.qt
   rw[KG h]at this;exact this;refine⟨k,ks,!f,?_,λ{n p} h=>?_⟩;rw[AE,show lu (false,2)=iJ true T4.one from rfl,KJ,T4.mul_one,AB];cases f<;>rfl;have h1:=ha h.q2;have h2:=aS.trans (Vf.ld (w:=w) h.q2) h1 (aS.jn (Vf.act h.q2) (AF h) f);have e:jn f (Q2 (act k ks p))=jn (!f) (act k ks p):=by
    have:=DJ (p:=act k ks p) h.act f true;rw[Bool.xor_true]at this;exact this
   rw[e]at h2;exact h2;refine⟨0,k :: ks,!f,?_,λ{n p} h=>?_⟩;have e3:lu (false,3)=iJ true T4.qt:=rfl;rw[AE,e3,KJ,AB,wm];cases f<;>rfl;have h1:=ha (p:=Q2 (Qt p)) h.qt.q2;have h2:=aS.trans (Vf.ld (w:=w) h.qt.q2) h1 (aS.jn (Vf.act h.qt.q2) (AF h.qt) f);have e:jn f (Q2 (act k ks (Qt p)))=jn (!f) (act 0 (k :: ks) p):=by
    have:=DJ (p:=act k ks (Qt p)) h.qt.act f true;rw[Bool.xor_true]at this;rw[<- KG h];exact this
   rw[e]at h2;exact h2
def KN{w:List Sp}(hw:∀s∈w,iY s)(h1:bD w=T4.one){n:Nat}{p:aG}(h:Vf n p):aS n (mS p w) p:=by
 obtain⟨k,ks,f,hm,ha⟩:=KL hw;have e:fK k ks=iJ f T4.one:=by
  have:iJ f (bD w)=fK k ks:=by rw[hm,AB,XH];rfl
  rw[<- this,h1]
 have h2:=GZ ks.length ks k (Vp _) f e h;have h3:=aS.trans (Vf.ld h) (ha h) (aS.jn h.act h2 f);rw[DJ h,XH]at h3;exact h3
def KO{w:List Sp}(hw:∀s∈w,iY s):∀s∈nA w,iY s:=λs hs=>by
 unfold nA at hs;obtain⟨t,ht,rfl⟩:=Vy.mp (Xb.mp hs);exact As (hw t ht)
def KP{w:List Sp}(hw:∀s∈w,iY s):bD (w ++ nA w)=T4.one:=by
 have hp:∀s∈w ++ nA w,iY s:=λs hs=>by
  rcases VQ.mp hs with hs|hs
  exact hw s hs;exact KO hw s hs
 rw[<- Kw hp,Qb hw];rfl
def Qv{w:List Sp}(hw:∀s∈w,iY s):(bD w).a*(bD w).d-(bD w).b*(bD w).c=1:=by have:=KP hw;rw[wa,Kx hw]at this;have h:=congrArg T4.a this;have h:(bD w).d*(bD w).a + -(bD w).b*(bD w).c=1:=h;rw[Int.mul_comm (bD w).d,Int.neg_mul]at h;lk
def Qw{M:T4}(h:M.a*M.d-M.b*M.c=1):M.mul M.rn=T4.one/\M.rn.mul M=T4.one:=by constructor<;>(apply T4.ext'<;>simp[T4.mul,T4.rn,T4.one]<;>grind)
def Qx{u w:List Sp}(hu:∀s∈u,iY s)(hw:∀s∈w,iY s)(e:bD u=bD w){n:Nat}{p:aG}(h:Vf n p):aS n (mS p u) (mS p w):=by
 have hb:=KO hw
 have h1:aS n (mS p (u ++ nA w)) p:=KN (λs hs=>by
  rcases VQ.mp hs with hs|hs
  exact hu s hs
  exact hb s hs) (by rw[wa,e,<- wa];exact KP hw) h
 rw[G0]at h1;have h2:=aS.ld (w:=w) (Vf.ld (Vf.ld h)) h1;rw[<- G0]at h2
 have h3:aS n (mS (mS p u) (nA w ++ w)) (mS p u):=KN (λs hs=>by
  rcases VQ.mp hs with hs|hs
  exact hb s hs
  exact hw s hs) (by rw[wa,Kx hw];exact(Qw (Qv hw)).1) (Vf.ld h)
 exact aS.trans (Vf.ld h) (aS.symm (Vf.ld (Vf.ld h)) h3) h2
abbrev o8(p:aG)(n:Nat)(s:Int):aG:=(num p.1 (bf p.1 p.2 s n),num p.2 (bf p.1 p.2 s n))
abbrev bA(n:Nat)(p:aG):aG:=kq ((upto n).map (o8 p n))
def tW{n:Nat}{p q:aG}(n0:0<n)(h:Vf n p)(a:aS n p q):bA n p=bA n q:=by
 obtain⟨g,hg,rfl⟩:=a;have key:∀s:Int,0<=s->s<(n:Int)->o8 (anew p.1 g,anew p.2 g) n (app g s)=o8 p n s:=λs s0 s1=>by
  show(num (anew p.1 g) (bf (anew p.1 g) (anew p.2 g) (app g s) n),num (anew p.2 g) (bf (anew p.1 g) (anew p.2 g) (app g s) n))=_;have hb:=nU h.1 h.2 s0 s1 n;rw[GL h.1 h.2 hg s0 s1 n,Kr h.1 hg hb,Kr h.2 hg hb];rfl
 refine Qm (λx=>?_) (λe=>?_);constructor;intro hx;obtain⟨s,hs,rfl⟩:=Vy.mp hx;obtain⟨s0,s1⟩:=kN.mp hs;exact Vy.mpr ⟨app g s,kN.mpr (hg.app s0 s1),key s s0 s1⟩;intro hx;obtain⟨t,ht,rfl⟩:=Vy.mp hx;obtain⟨t0,t1⟩:=kN.mp ht;obtain⟨p0,p1⟩:=hg.jY t0 t1;refine Vy.mpr ⟨app (inv g) t,kN.mpr ⟨p0,p1⟩,?_⟩;have:=key (app (inv g) t) p0 p1;rw[hg.bU t0 t1]at this;exact this.symm
 have:=congrArg List.length e
 rw[Vl,oG]at this;simp at this;lk
end ae
namespace ae
section
variable {n:Nat}{p q:aG}{g h:List Int}{s t:Int}
structure Wh(n:Nat)(p:aG):Prop where
 v:Vf n p
 all:∀x:Int,0<=x->x<(n:Int)->gS p.1 p.2 x
def Wh.bf(w:Wh n p)(s0:0<=s)(s1:s<(n:Int)):Tn n (bf p.1 p.2 s n):=GK w.v.1 w.v.2 s0 s1 w.all
def KQ(xs ys:List Int)(s:Int)(n:Nat):app (bf xs ys s n) 0=s:=by have:=vZ xs ys s 0 n;rw[W7]at this;obtain⟨t,e⟩:=this;rw[<- e];rfl
abbrev gF(p q:aG)(n:Nat)(s t:Int):List Int:=aK (inv (bf p.1 p.2 s n)) (bf q.1 q.2 t n)
abbrev Cg(n:Nat)(p q:aG)(g:List Int):Prop:=Tn n g/\q=(anew p.1 g,anew p.2 g)
def AH(wp:Wh n p)(wq:Wh n q)(s0:0<=s)(s1:s<(n:Int))(t0:0<=t)(t1:t<(n:Int))(e:o8 p n s=o8 q n t):Cg n p q (gF p q n s t)/\app (gF p q n s t) s=t:=by
 have tb:=wp.bf s0 s1;have tc:=wq.bf t0 t1;have n0:0<n:=by lk
 refine⟨⟨tb.aq.aK tc,?_⟩,?_⟩;unfold o8 at e;have e1:=congrArg Prod.fst e;have e2:=congrArg Prod.snd e;simp only at e1 e2;rw[<- tR wp.v.1 tb,<- tR wq.v.1 tc]at e1;rw[<- tR wp.v.2 tb,<- tR wq.v.2 tc]at e2;have go:∀{a b:List Int},Tn n a->Tn n b->anew a (inv (bf p.1 p.2 s n))=anew b (inv (bf q.1 q.2 t n))->b=anew a (gF p q n s t):=λ{a b} ta tb' e=>by
  unfold gF;rw[<- Tn.jG ta tb.aq tc,e];have:=Tn.jH tb' tc.aq;rw[tc.inv_inv]at this;exact this.symm
 exact Prod.ext (go wp.v.1 wq.v.1 e1) (go wp.v.2 wq.v.2 e2);unfold gF;rw[lq s0 (by rw[Aj,tb.length];exact s1)];have:app (inv (bf p.1 p.2 s n)) s=0:=by
  have:=tb.dU (i:=0) ∅ ⋯;rw[KQ]at this;exact this
 rw[this,KQ]
def DL(xs ys:List Int):∀k,∀y∈bf xs ys 0 k,gS xs ys y
 |0,y,hy=>by rw[VE.mp (show y∈[(0:Int)]from hy)];exact .zero
 |k+1,y,hy=>by
  have hy':y∈(match (bf xs ys 0 k)[k]? with|some x=>visit xs ys (bf xs ys 0 k) x|none=>bf xs ys 0 k):=hy;split at hy'
  ·next z hz =>
   have tZ:=DL xs ys k z (Vv hz);rcases oM.mp hy' with hy'|rfl
   ·rcases oM.mp hy' with hy'|rfl
    ·exact DL xs ys k y hy'
    ·exact tZ.r
   ·exact tZ.u
  ·exact DL xs ys k y hy'
def t9(w:Wh n p)(v:Vf n q)(n0:0<n)(h:∀F:List Int,F.Nodup->(∀x∈F,0<=x/\x<(n:Int))->Cl q.1 q.2 F->Cl p.1 p.2 F):Wh n q:=by refine⟨v,λx x0 x1=>DL q.1 q.2 n x ?_⟩;have c:=h (bf q.1 q.2 0 n) (rm _ _ _ _) (nU v.1 v.2 ∅ ⋯ n) (Ap v.1 v.2 ∅ ⋯);refine c.all ?_ (w.all x x0 x1);have:=vZ q.1 q.2 0 0 n;rw[W7]at this;exact this.subset (show(0:Int)∈[(0:Int)] by simp)
def KR{zs F:List Int}(hz:Tn n zs)(nd:F.Nodup)(hb:∀x∈F,0<=x/\x<(n:Int))(hc:∀x∈F,app zs x∈F):∀x∈F,app (inv zs) x∈F:=λx hx=>by
 obtain⟨x0,x1⟩:=hb x hx;obtain⟨a0,a1⟩:=hz.jY x0 x1;exact Aq hz nd hb hc a0 a1 (by rw[hz.bU x0 x1];exact hx)
def G1{zs F:List Int}(hc:∀x∈F,app zs x∈F){x:Int}(hx:x∈F):∀k,aO zs x k∈F
 |0=>hx
 |k+1=>hc _ (G1 hc hx k)
def AI{zs F:List Int}(hz:Tn n zs)(nd:F.Nodup)(hb:∀x∈F,0<=x/\x<(n:Int))(hc:∀x∈F,app zs x∈F)(k:Int){x:Int}(hx:x∈F):pw zs k x∈F:=by unfold pw;split;exact G1 hc hx _;exact G1 (KR hz nd hb hc) hx _
def Wh.sh(w:Wh n p)(n0:0<n)(k:Int):Wh n (Sh k p):=by
 refine t9 w (w.v.sh k) n0 λF nd hb hc x hx=>⟨(hc x hx).1,?_⟩;obtain⟨x0,x1⟩:=hb x hx;have h1:∀x∈F,app p.1 x∈F:=λx hx=>(hc x hx).1;have hy:=AI w.v.1 nd hb h1 k hx;have:=(hc _ hy).2;obtain⟨y0,y1⟩:=hb _ hy;have e:app (Sh k p).2 (pw p.1 k x)=app p.2 x:=by
  show app (shr p.1 p.2 k) (pw p.1 k x)=_;unfold shr;have hlen:(bL p.1 (-k)).length=n:=(w.v.1.bL (-k)).length;rw[lq y0 (by rw[hlen];exact y1)]
  congr 1
  have e3:=Aw w.v.1 k (-k);rw[Xj,GU w.v.1]at e3;have e4:app (aK (bL p.1 k) (bL p.1 (-k))) x=app (upto n) x:=by rw[e3]
  rw[DG x0 x1,lq x0 (by rw[(w.v.1.bL k).length];exact x1)]at e4;have e5:app (bL p.1 k) x=pw p.1 k x:=nV x0 (by rw[w.v.1.length];exact x1);rw[e5]at e4;exact e4
 rw[e]at this;exact this
def Wh.qt(w:Wh n p)(n0:0<n):Wh n (Qt p):=by refine t9 w w.v.qt n0 λF nd hb hc x hx=>⟨(hc x hx).2,?_⟩;have:=KR w.v.2.aq nd hb (λx hx=>(hc x hx).1) x hx;rw[w.v.2.inv_inv]at this;exact this
abbrev Od(xs ys F:List Int):Prop:=F[0]?=some 0/\∀(k:Nat) (y:Int),F[k+1]?=some y->∃(j:Nat) (x:Int),j<=k/\F[j]?=some x/\(y=app xs x\/y=app ys x)
def Od.one(xs ys:List Int):Od xs ys [0]:=⟨rfl,λk y h=>by cases h⟩
def Od.snoc{xs ys F:List Int}{x y:Int}(h:Od xs ys F)(hx:x∈F)(hy:y=app xs x\/y=app ys x):Od xs ys (F ++ [y]):=by
 have hl:0<F.length:=List.length_pos_of_mem hx;refine⟨by rw[VC hl];exact h.1,λk z hz=>?_⟩;by_cases hk:k+1<F.length;rw[VC hk]at hz;obtain⟨j,x',hj,hx',e⟩:=h.2 k z hz;exact⟨j,x',hj,by rw[VC ⋯];exact hx',e⟩;rw[VM ⋯]at hz;have hz:z=y:=by
  cases h3:k+1-F.length with
  |zero=>rw[h3]at hz;cases hz;rfl
  |succ m=>rw[h3]at hz;cases hz
 obtain⟨j,hj,e⟩:=WG hx;have nQ:k+1=F.length\/F.length<k+1:=by lk
 refine⟨j,x,by lk,by rw[VC hj,Vn hj,e],by rw[hz];exact hy⟩
structure Fo(xs ys F:List Int):Prop extends Fd xs ys F where
 od:Od xs ys F
def Fo.one(xs ys:List Int):Fo xs ys [0]:=⟨Fd.one xs ys,Od.one xs ys⟩
end
end ae
namespace ae
section
variable {n:Nat}{xs ys r r' r2:List Int}{i j x y:Int}
abbrev Sm(xs ys r:List Int):Prop:=∀s∈r,app ys (app xs s)=app xs (app ys s)
instance:Decidable (Sm xs ys r):=inferInstanceAs (Decidable (∀s∈r,app ys (app xs s)=app xs (app ys s)))
end
end ae
namespace ae
section
variable {n:Nat}{p q:aG}{g:List Int}
def Wh.mB(w:Wh n p)(n0:0<n):∀j,Wh n (ae.mB j p)
 |0=>w
 |j+1=>(w.mB n0 j).qt n0
def Wh.st(w:Wh n p)(n0:0<n)(s:Sp):Wh n (stM p s):=by unfold stM;split;exact w.sh n0 _;exact w.mB n0 _
end
end ae
namespace ae
abbrev KU(n:Nat)(xs:List Int)(i:Int):List Int:=row xs i (((List.range n).find? λm=>decide (aO xs i (m+1)=i)).getD 0)
def Qy{n:Nat}{xs:List Int}{i:Int}(tx:Tn n xs)(i0:0<=i)(i1:i<(n:Int)):fu xs i (KU n xs i):=by
 obtain⟨m,nb,bk⟩:=tx.oJ i0 i1;have hm:=tx.iX i0 i1 nb;unfold KU;cases h:(List.range n).find? λm=>decide (aO xs i (m+1)=i)with
 |none =>
  have:=List.find?_eq_none.mp h m (Wq.mpr ⋯);exact absurd (decide_eq_true bk) this
 |some k =>
  have hk:=List.find?_some h;have hk:aO xs i (k+1)=i:=of_decide_eq_true hk;refine⟨k,rfl,λj j1 j2 z=>?_,hk⟩;obtain⟨_,as,bs,e,ha⟩:=List.find?_eq_some_iff_append.mp h;have hj:j-1∈as:=by
   have h1:(List.range n)[j-1]?=some (j-1):=Wb (by
    have:k∈List.range n:=by rw[e];simp
    have:=Wq.mp this
    lk)
   have h2:(List.range n)[as.length]?=some k:=by rw[e];simp
   have h3:as.length=k:=by
    obtain⟨q1,q2⟩:=Vm.mp h2;simpa using q2
   rw[e,VC ⋯]at h1;exact Vv h1
  have:=ha (j-1) hj;rw[show j-1+1=j by lk]at this;simp[z]at this
end ae
namespace ae
end ae
namespace ae
section
variable {n:Nat}{p q:aG}
def Qz(vp:Vf n p)(vq:Vf n q)(k:Int)(a:aS n (Sh k p) (Sh k q)):aS n p q:=by have h:=aS.sh (vp.sh k) a (-k);rw[qA vp,qA vq,Xj,kU vp,kU vq]at h;exact h
def QA(vp:Vf n p)(vq:Vf n q)(a:aS n (Qt p) (Qt q)):aS n p q:=by have h:=aS.qt vp.qt.qt.qt (aS.qt vp.qt.qt (aS.qt vp.qt a));have ep:Qt (Qt (Qt (Qt p)))=p:=Az vp;have eq:Qt (Qt (Qt (Qt q)))=q:=Az vq;rw[ep,eq]at h;exact h
def KW{fs:List aG}{c:List Int}(f:aG->aG)(nd:fs.Nodup)(hl:c.length=fs.length)
  (hc:∀(k:Nat) (p:aG),fs[k]?=some p->∃j:Nat,c[k]?=some (j:Int)/\fs[j]?=some (f p))
  (hf:∀p∈fs,∀q∈fs,f p=f q->p=q):Tn fs.length c:=by
 have key:∀(k:Nat) (x:Int),c[k]?=some x->∃(p:aG) (j:Nat),fs[k]?=some p/\x=(j:Int)/\fs[j]?=some (f p):=λk x hx=>by
  have hk:k<fs.length:=by
   have:=(Vm.mp hx).1;lk
  have e:fs[k]?=some fs[k]:=Vn hk;obtain⟨j,h1,h2⟩:=hc k _ e;rw[hx]at h1;exact⟨_,j,e,Vu h1,h2⟩
 have nc:c.Nodup:=by
  refine V3.mpr λi j hi' hj hij e0=>?_;obtain⟨x,hx⟩:∃x,c[j]?=some x:=⟨c[j],Vn hj⟩;have e:c[i]?=some x:=by rw[Vn hi',e0,<- Vn hj];exact hx
  obtain⟨p,a,p1,rfl,p2⟩:=key i x e;obtain⟨q,b,q1,eb,q2⟩:=key j _ hx;have:a=b:=by lk
  subst this;rw[p2]at q2;have e2:=hf p (Vv p1) q (Vv q1) (Vu q2);subst e2;obtain⟨g1,g2⟩:=Vm.mp p1;obtain⟨g3,g4⟩:=Vm.mp q1;exact V3.mp nd i j g1 g3 hij (by rw[g2,g4])
 have hb:∀x∈c,0<=x/\x<(c.length:Int):=λx hx=>by
  obtain⟨k,hk⟩:=W9 hx;obtain⟨p,j,_,rfl,h2⟩:=key k x hk;have:=(Vm.mp h2).1;lk
 have:=DA nc hb;rw[hl]at this;exact this
def G2(p:aG)(n0:0<n):∃s:Int,0<=s/\s<(n:Int)/\bA n p=o8 p n s:=by
 have h:=(GP (l:=(upto n).map (o8 p n)) (λe=>by
  have:=congrArg List.length e;rw[Vl,oG]at this;simp at this
  lk)).1
 obtain⟨s,hs,e⟩:=Vy.mp h;obtain⟨s0,s1⟩:=kN.mp hs;exact⟨s,s0,s1,e.symm⟩
def KY(wp:Wh n p)(wq:Wh n q)(n0:0<n)(e:bA n p=bA n q):aS n p q:=by obtain⟨s,s0,s1,es⟩:=G2 p n0;obtain⟨t,t0,t1,et⟩:=G2 q n0;rw[es,et]at e;obtain⟨tg,eq⟩:=(AH wp wq s0 s1 t0 t1 e).1;exact⟨_,tg,eq⟩
def wo(n0:0<n)(k:Int)(wp:Wh n p)(wq:Wh n q)(op:bA n p=p)(oq:bA n q=q)(e:bA n (Sh k p)=bA n (Sh k q)):p=q:=by have a:=Qz wp.v wq.v k (KY (wp.sh n0 k) (wq.sh n0 k) n0 e);rw[<- op,<- oq];exact tW n0 wp.v a
def wt(n0:0<n)(wp:Wh n p)(wq:Wh n q)(op:bA n p=p)(oq:bA n q=q)(e:bA n (Qt p)=bA n (Qt q)):p=q:=by have a:=QA wp.v wq.v (KY (wp.qt n0) (wq.qt n0) n0 e);rw[<- op,<- oq];exact tW n0 wp.v a
end
end ae
namespace L4
open PySem PySem.Spec L2
inductive D where
 |non|bl (b:Bool)|int (i:Int)|str (x:Str)|ty (n:String)|tup (ds:List D)|ref (i:Nat)
instance:Inhabited D:=⟨.non⟩
inductive O where
 |lst (ds:List D)|nW (ds:List D)|dct (kvs:List (Key×D))|AJ (kvs:List (List Int×D))|exc (c:Str) (fs:List (Str×D))|any|gI (lo hi:Int)
@[reducible]def Store:=List O
@[reducible]def ai:=List (Option D)
@[reducible]def Dm(α:Type):=Store->Option (α×Store)
inductive Fl where
 |nx (δ:ai)|bk (δ:ai)|ct (δ:ai)|rt (d:D)
mutual
inductive Rp(K:Zfr)(ρ:List Addr)(H:Hp):V->D->Prop
 |non:Rp K ρ H .non .non
 |bl (b:Bool):Rp K ρ H (.bl b) (.bl b)
 |int (i:Int):Rp K ρ H (.int i) (.int i)
 |str (x:Str):Rp K ρ H (.str x) (.str x)
 |ty (n:String):Rp K ρ H (.ty n) (.ty n)
 |ref {a:Addr} {i:Nat}:ρ[i]?=some a->Rp K ρ H (.ref a) (.ref i)
 |tup {a:Addr} {vs:List V} {ds:List D}:de K H a vs->bI K ρ H vs ds->Rp K ρ H (.ref a) (.tup ds)
inductive bI(K:Zfr)(ρ:List Addr)(H:Hp):List V->List D->Prop
 |nil:bI K ρ H [] []
 |cons {v:V} {vs:List V} {d:D} {ds:List D}:Rp K ρ H v d->bI K ρ H vs ds->bI K ρ H (v :: vs) (d :: ds)
end
structure Mn(K:Zfr)(ρ:List Addr)(H:Hp)(ρ':List Addr)(H':Hp):Prop where
 r:∀(i:Nat) (a:Addr),ρ[i]?=some a->ρ'[i]?=some a
 t:∀a vs,de K H a vs->de K H' a vs
 f:∀a o u,H a=some (.k6 o u)->H' a=some (.k6 o u)
 x:∀a ws,H a=some (.xd ws)->H' a=some (.xd ws)
section
variable {K:Zfr}{ρ ρ' ρ2:List Addr}{H H' H2:Hp}
def Mn.refl:Mn K ρ H ρ H:=⟨λ_ _ h=>h,λ_ _ h=>h,λ_ _ _ h=>h,λ_ _ h=>h⟩
def Mn.trans(m:Mn K ρ H ρ' H')(n:Mn K ρ' H' ρ2 H2):Mn K ρ H ρ2 H2:=⟨λi a h=>n.r i a (m.r i a h),λa vs h=>n.t a vs (m.t a vs h),λa o u h=>n.f a o u (m.f a o u h),λa ws h=>n.x a ws (m.x a ws h)⟩
mutual
def Rp.mn(m:Mn K ρ H ρ' H'):∀{v:V} {d:D},Rp K ρ H v d->Rp K ρ' H' v d
 |_,_,.non=>.non
 |_,_,.bl b=>.bl b
 |_,_,.int i=>.int i
 |_,_,.str x=>.str x
 |_,_,.ty n=>.ty n
 |_,_,.ref e=>.ref (m.r _ _ e)
 |_,_,.tup q r=>.tup (m.t _ _ q) (bI.mn m r)
def bI.mn(m:Mn K ρ H ρ' H'):∀{vs:List V} {ds:List D},bI K ρ H vs ds->bI K ρ' H' vs ds
 |_,_,.nil=>.nil
 |_,_,.cons a b=>.cons (Rp.mn m a) (bI.mn m b)
end
def bI.length:∀{vs:List V} {ds:List D},bI K ρ H vs ds->vs.length=ds.length
 |_,_,.nil=>rfl
 |_,_,.cons _ r=>by rw[VU,VU,r.length]
def bI.got:∀{vs:List V} {ds:List D},bI K ρ H vs ds->∀{i:Nat} {d:D},ds[i]?=some d->∃v,vs[i]?=some v/\Rp K ρ H v d
 |_,_,.nil,i,v,e=>by simp at e
 |_,_,.cons (v:=v) a b,0,d,e=>⟨v,by simp,by have:_=d:=Vu (by simpa using e);rw[<- this];exact a⟩
 |_,_,.cons a b,i+1,d,e=>by
  obtain⟨v,e1,r⟩:=bI.got b (i:=i) (by simpa using e);exact⟨v,by simpa using e1,r⟩
def bI.append:∀{vs:List V} {ds:List D} {ws:List V} {es:List D},bI K ρ H vs ds->bI K ρ H ws es->bI K ρ H (vs ++ ws) (ds ++ es)
 |_,_,_,_,.nil,s=>s
 |_,_,_,_,.cons a b,s=>.cons a (bI.append b s)
def bI.one{v:V}{d:D}(r:Rp K ρ H v d):bI K ρ H [v] [d]:=.cons r .nil
def bI.take:∀{vs:List V} {ds:List D} (n:Nat),bI K ρ H vs ds->bI K ρ H (vs.take n) (ds.take n)
 |_,_,0,_=>.nil
 |_,_,_+1,.nil=>.nil
 |_,_,n+1,.cons r t=>.cons r (bI.take n t)
def bI.drop:∀{vs:List V} {ds:List D} (n:Nat),bI K ρ H vs ds->bI K ρ H (vs.drop n) (ds.drop n)
 |_,_,0,r=>r
 |_,_,_+1,.nil=>.nil
 |_,_,n+1,.cons _ t=>bI.drop n t
def bI.set{v:V}{d:D}(r:Rp K ρ H v d):∀{vs:List V} {ds:List D} (i:Nat),bI K ρ H vs ds->bI K ρ H (vs.set i v) (ds.set i d)
 |_,_,_,.nil=>.nil
 |_,_,0,.cons _ t=>.cons r t
 |_,_,i+1,.cons q t=>.cons q (bI.set r i t)
def bI.erase:∀{vs:List V} {ds:List D} (i:Nat),bI K ρ H vs ds->bI K ρ H (vs.eraseIdx i) (ds.eraseIdx i)
 |_,_,_,.nil=>.nil
 |_,_,0,.cons _ t=>t
 |_,_,i+1,.cons q t=>.cons q (bI.erase i t)
def bI.flat{vs:List V}{ds:List D}(r:bI K ρ H vs ds):∀n:Nat,bI K ρ H (List.replicate n vs).flatten (List.replicate n ds).flatten
 |0=>.nil
 |n+1=>by rw[V9,V9,WN,WN];exact r.append (r.flat n)
def bI.ints:∀(ns:List Int),bI K ρ H (ns.map V.int) (ns.map D.int)
 |[]=>.nil
 |n :: r=>.cons (.int n) (bI.ints r)
end
abbrev Rs(K:Zfr)(ρ:List Addr)(H:Hp)(σ:St)(δ:ai):Prop:=σ.length=δ.length/\∀(i:Nat) (d:D),δ[i]?=some (some d)->∃v,σ[i]?=some (some v)/\Rp K ρ H v d
abbrev Rk(K:Zfr)(ρ:List Addr)(H:Hp):List (Key×V)->List (Key×D)->Prop:=Paired λp q=>p.1=q.1/\Rp K ρ H p.2 q.2
abbrev Ru(K:Zfr)(ρ:List Addr)(H:Hp):List (List Int×D)->List (List Int×Addr×Value)->Prop:=Paired λq x=>q.1=x.1/\de K H x.2.1 (x.1.map V.int)/\∃v,RelV v x.2.2/\Rp K ρ H v q.2
abbrev Xd(K:Zfr)(ρ:List Addr)(H:Hp):Option Addr->List (Str×D)->Prop
 |none,fs=>fs=[]
 |some d,fs=>∃ws,H d=some (.xd ws)/\∀f e,fs.lookup f=some e->∃v,ws.lookup f=some v/\Rp K ρ H v e
abbrev ua(K:Zfr)(ρ:List Addr)(H:Hp)(a:Addr):O->Prop
 |.lst ds=>∃vs,H a=some (.lst vs)/\bI K ρ H vs ds
 |.nW ds=>∃vs,zN K H a vs/\bI K ρ H vs ds
 |.dct kvs=>∃ws,H a=some (.dK ws)/\Rk K ρ H ws kvs
 |.AJ kvs=>∃xs,H a=some (DU a xs)/\Ru K ρ H kvs xs
 |.exc c fs=>∃C dx tr,PySem.W.nsIn K mainGlobals c=some (some (.ref C))/\H a=some (XO a C dx tr)/\Xd K ρ H dx fs
 |.any=>True
 |.gI lo hi=>H a=some (.gI lo hi)
abbrev O.mut:O->Bool
 |.nW _=>false
 |.any=>false
 |_=>true
structure Rl(K:Zfr)(ρ:List Addr)(H:Hp)(st:Store):Prop where
 len:ρ.length=st.length
 nd:∀(i j:Nat) (a:Addr) (o o':O),ρ[i]?=some a->ρ[j]?=some a->st[i]?=some o->st[j]?=some o'->o.mut=true->o'.mut=true->i=j
 obj:∀(i:Nat) (a:Addr) (o:O),ρ[i]?=some a->st[i]?=some o->ua K ρ H a o
section
variable {K:Zfr}{ρ ρ' ρ2:List Addr}{H H' H2:Hp}{st st':Store}{a p:Addr}{i:Nat}{o o':O}{ho:HO}{σ:St}{δ:ai}
def Rs.mn(h:Rs K ρ H σ δ)(m:Mn K ρ H ρ' H'):Rs K ρ' H' σ δ:=⟨h.1,λi d e=>let ⟨v,e1,r⟩:=h.2 i d e;⟨v,e1,r.mn m⟩⟩
def Rk.mn(m:Mn K ρ H ρ' H'){ws:List (Key×V)}{kvs:List (Key×D)}(h:Rk K ρ H ws kvs):Rk K ρ' H' ws kvs:=by
 induction h with
 |nil=>exact .nil
 |cons a _ ih=>exact .cons ⟨a.1,a.2.mn m⟩ ih
def Ru.mn(m:Mn K ρ H ρ' H'){kvs:List (List Int×D)}{xs:List (List Int×Addr×Value)}(h:Ru K ρ H kvs xs):Ru K ρ' H' kvs xs:=by
 induction h with
 |nil=>exact .nil
 |cons a _ ih=>obtain⟨a1,a2,v,a3,a4⟩:=a;exact .cons ⟨a1,m.t _ _ a2,v,a3,a4.mn m⟩ ih
def Xd.mn(m:Mn K ρ H ρ' H'){dx:Option Addr}{fs:List (Str×D)}(h:Xd K ρ H dx fs):Xd K ρ' H' dx fs:=by
 cases dx with
 |none=>exact h
 |some d=>obtain⟨ws,e,q⟩:=h;exact⟨ws,m.x _ _ e,λf e' z=>let ⟨v,z1,z2⟩:=q f e' z;⟨v,z1,z2.mn m⟩⟩
def ua.keep(m:Mn K ρ H ρ' H')(h:∀u,H a=some u->H' a=some u)(r:ua K ρ H a o):ua K ρ' H' a o:=by
 cases o with
 |lst ds=>obtain⟨vs,e,q⟩:=r;exact⟨vs,h _ e,q.mn m⟩
 |nW ds =>
  obtain⟨vs,e,q⟩:=r;refine⟨vs,?_,q.mn m⟩;rcases e with⟨u,e⟩|e
  exact .inl ⟨u,h _ e⟩;exact .inr e
 |dct kvs=>obtain⟨ws,e,q⟩:=r;exact⟨ws,h _ e,q.mn m⟩
 |AJ kvs=>obtain⟨ws,e,q⟩:=r;exact⟨ws,h _ e,q.mn m⟩
 |exc c fs=>obtain⟨C,dx,tr,n,e,q⟩:=r;exact⟨C,dx,tr,n,h _ e,q.mn m⟩
 |any=>trivial
 |gI lo hi=>exact h _ r
def Mn.same(s:fH H H'):Mn K ρ H ρ H':=⟨λ_ _ h=>h,λ_ _ h=>(Kp.of_same (ch:=[]) s).FY h,λ_ _ _ h=>s _ _ h,λ_ _ h=>s _ _ h⟩
def Rl.same(l:Rl K ρ H st)(s:fH H H'):Rl K ρ H' st:=⟨l.len,l.nd,λi a o h1 h2=>(l.obj i a o h1 h2).keep (Mn.same s) λu e=>s _ _ e⟩
def Rl.at(l:Rl K ρ H st)(h1:ρ[i]?=some a)(h2:st[i]?=some o)(hm:o.mut=true):∃u,H a=some u/\∀x y,u≠.k6 x y:=by
 have r:=l.obj i a o h1 h2;cases o with
 |lst ds=>obtain⟨vs,e,_⟩:=r;exact⟨_,e,λx y z=>nomatch z⟩
 |nW ds=>cases hm
 |dct kvs=>obtain⟨ws,e,_⟩:=r;exact⟨_,e,λx y z=>nomatch z⟩
 |AJ kvs=>obtain⟨ws,e,_⟩:=r;exact⟨_,e,λx y z=>by cases z⟩
 |exc c fs=>obtain⟨C,dx,tr,_,e,_⟩:=r;exact⟨_,e,λx y z=>by cases z⟩
 |any=>cases hm
 |gI lo hi=>exact⟨_,r,λx y z=>nomatch z⟩
def Mn.new(hp:H p=none):Mn K ρ H (ρ ++ [p]) (upd H p ho):=⟨λi a h=>by
  obtain⟨hi,_⟩:=Vm.mp h
  rw[VC hi];exact h,λ_ _ h=>(Kp.of_same (ch:=[]) (fH.up hp)).FY h,λ_ _ _ h=>fH.up hp _ _ h,λ_ _ h=>fH.up hp _ _ h⟩
def Rl.new(l:Rl K ρ H st)(hp:H p=none)(mk:ua K (ρ ++ [p]) (upd H p ho) p o):Rl K (ρ ++ [p]) (upd H p ho) (st ++ [o]):=by
 have m:Mn K ρ H (ρ ++ [p]) (upd H p ho):=Mn.new hp;have split:∀(i:Nat) (a:Addr) (o':O),(ρ ++ [p])[i]?=some a->(st ++ [o])[i]?=some o'->(ρ[i]?=some a/\st[i]?=some o')\/(i=ρ.length/\a=p/\o'=o):=λi a o' h1 h2=>by
  by_cases hi:i<ρ.length;rw[VC hi]at h1;rw[VC (by rw[<- l.len];exact hi)]at h2;exact .inl ⟨h1,h2⟩;obtain⟨hb,_⟩:=Vm.mp h1;rw[Vq,WA]at hb;have e:i=ρ.length:=by lk
  subst e;rw[VM (Vp _),WK]at h1;rw[l.len,VM (Vp _),WK]at h2;exact .inr ⟨rfl,(Vu h1).symm,(Vu h2).symm⟩
 refine⟨by rw[Vq,Vq,l.len];rfl,λi j a u u' h1 h2 h3 h4 m1 m2=>?_,λi a u h1 h2=>?_⟩;rcases split i a u h1 h3 with⟨g1,g2⟩|⟨rfl,rfl,rfl⟩<;>rcases split j _ u' h2 h4 with⟨k1,k2⟩|⟨k1,k2,k3⟩
 exact l.nd i j a u u' g1 k1 g2 k2 m1 m2;subst k2;obtain⟨w,e,_⟩:=l.at g1 g2 m1;rw[e]at hp;cases hp;obtain⟨w,e,_⟩:=l.at k1 k2 m2;rw[e]at hp;cases hp;exact k1.symm;rcases split i a u h1 h2 with⟨g1,g2⟩|⟨rfl,rfl,rfl⟩
 exact(l.obj i a u g1 g2).keep m λw e=>fH.up hp _ _ e;exact mk
def Rl.put(l:Rl K ρ H st)(hi:ρ[i]?=some a)(hs:st[i]?=some o)(hm:o.mut=true)(hm':o'.mut=true)(m:Mn K ρ H ρ (upd H a ho))(r:ua K ρ (upd H a ho) a o'):Rl K ρ (upd H a ho) (st.set i o'):=by
 obtain⟨w,ew,nf⟩:=l.at hi hs hm;have QB:i<st.length:=(Vm.mp hs).1;have old:∀(j:Nat) (u:O),(st.set i o')[j]?=some u->(j=i/\u=o')\/(j≠i/\st[j]?=some u):=λj u h=>by
  by_cases hj:i=j;subst hj;rw[VD QB]at h;exact .inl ⟨rfl,(Vu h).symm⟩;rw[VI hj]at h;exact .inr ⟨λz=>hj z.symm,h⟩
 refine⟨by rw[Wj];exact l.len,λj k b u u' h1 h2 h3 h4 m1 m2=>?_,λj b u h1 h2=>?_⟩;rcases old j u h3 with⟨rfl,rfl⟩|⟨nj,g3⟩<;>rcases old k u' h4 with⟨rfl,rfl⟩|⟨nk,g4⟩
 rfl;exact l.nd _ _ b o u' h1 h2 hs g4 hm m2;exact l.nd _ _ b u o h1 h2 g3 hs m1 hm;exact l.nd _ _ b u u' h1 h2 g3 g4 m1 m2;rcases old j u h2 with⟨rfl,rfl⟩|⟨nj,g2⟩
 rw[hi]at h1;cases h1;exact r;by_cases hb:b=a;subst hb;cases u with
 |nW ds =>
  obtain⟨vs,e,q⟩:=l.obj j b _ h1 g2;refine⟨vs,?_,q.mn m⟩;rcases e with⟨x,e⟩|e
  rw[ew]at e;cases e;exact absurd rfl (nf _ _);exact .inr e
 |lst ds=>exact absurd (l.nd j i b _ o h1 hi g2 hs rfl hm) nj
 |AJ ds=>exact absurd (l.nd j i b _ o h1 hi g2 hs rfl hm) nj
 |exc c fs=>exact absurd (l.nd j i b _ o h1 hi g2 hs rfl hm) nj
 |dct ds=>exact absurd (l.nd j i b _ o h1 hi g2 hs rfl hm) nj
 |any=>trivial
 |gI lo up=>exact absurd (l.nd j i b _ o h1 hi g2 hs rfl hm) nj
 exact(l.obj j b u h1 g2).keep m λw e=>by rw[cL hb];exact e
def Mn.put{xs:List V}(e:H a=some (.lst xs)):Mn K ρ H ρ (upd H a ho):=⟨λ_ _ h=>h,λb vs h=>(Kp.put (ch:=[a]) (o:=ho) Kp.refl (by simp) e).FY h,λb o u h=>by rw[cL (λz=>by rw[z,e]at h;cases h)];exact h,λb ws h=>by rw[cL (λz=>by rw[z,e]at h;cases h)];exact h⟩
def Mn.putD{ws:List (Key×V)}(e:H a=some (.dK ws)):Mn K ρ H ρ (upd H a ho):=⟨λ_ _ h=>h,λb vs q=>by
 have ne:∀u,H b=some u->(∀w,u≠.dK w)->b≠a:=λu hu n z=>by rw[z,e]at hu;cases hu;exact n _ rfl
 rcases q with(q|⟨o,q⟩)|q
 exact .inl (.inl (by rw[cL (ne _ q λw z=>nomatch z)];exact q));exact .inl (.inr ⟨o,by rw[cL (ne _ q λw z=>nomatch z)];exact q⟩)
 exact .inr q,λb o u h=>by rw[cL (λz=>by rw[z,e]at h;cases h)];exact h,λb ws h=>by rw[cL (λz=>by rw[z,e]at h;cases h)];exact h⟩
def Rl.newL{vs:List V}{ds:List D}(l:Rl K ρ H st)(hp:H p=none)(r:bI K ρ H vs ds):Rl K (ρ ++ [p]) (upd H p (.lst vs)) (st ++ [.lst ds]):=l.new hp ⟨vs,kM,r.mn (Mn.new hp)⟩
def Rl.newD{vs:List (Key×V)}{ds:List (Key×D)}(l:Rl K ρ H st)(hp:H p=none)(r:Rk K ρ H vs ds):Rl K (ρ ++ [p]) (upd H p (.dK vs)) (st ++ [.dct ds]):=l.new hp ⟨vs,kM,r.mn (Mn.new hp)⟩
def newR(l:Rl K ρ H st)(v:D:=.ref st.length):(ρ ++ [p])[st.length]?=some p:=by rw[<- l.len,VM (Vp _),WK];rfl
def Rl.putL{vs:List V}{ds xs:List D}(l:Rl K ρ H st)(hi:ρ[i]?=some a)(hs:st[i]?=some (.lst xs))(r:bI K ρ H vs ds):Rl K ρ (upd H a (.lst vs)) (st.set i (.lst ds))/\Mn K ρ H ρ (upd H a (.lst vs)):=by obtain⟨ws,e,_⟩:=l.obj i a _ hi hs;have m:Mn K ρ H ρ (upd H a (.lst vs)):=Mn.put e;exact⟨l.put hi hs rfl rfl m ⟨vs,kM,r.mn m⟩,m⟩
def Rl.wu{vs:List (Key×V)}{ds xs:List (Key×D)}(l:Rl K ρ H st)(hi:ρ[i]?=some a)(hs:st[i]?=some (.dct xs))(r:Rk K ρ H vs ds):Rl K ρ (upd H a (.dK vs)) (st.set i (.dct ds))/\Mn K ρ H ρ (upd H a (.dK vs)):=by obtain⟨ws,e,_⟩:=l.obj i a _ hi hs;have m:Mn K ρ H ρ (upd H a (.dK vs)):=Mn.putD e;exact⟨l.put hi hs rfl rfl m ⟨vs,kM,r.mn m⟩,m⟩
abbrev items(st:Store)(i:Nat):Option (List D):=match st[i]? with
 |some (.lst ds)=>some ds
 |some (.nW ds)=>some ds
 |_=>none
def Rl.items{ds:List D}(l:Rl K ρ H st)(hi:ρ[i]?=some a)(h:items st i=some ds):∃vs,gP K H a vs/\bI K ρ H vs ds:=by
 unfold L4.items at h;split at h
 ·next ds' hs=>cases h;obtain⟨vs,e,r⟩:=l.obj i a _ hi hs;exact⟨vs,.inl (.inl e),r⟩
 ·next ds' hs=>cases h;obtain⟨vs,e,r⟩:=l.obj i a _ hi hs;exact⟨vs,e.sq,r⟩
 ·cases h
end
abbrev So(K:Zfr){α β:Type}(R:List Addr->Hp->α->β->Prop)(t:St->Hp->(α->Hp->Prop)->Prop)(f:ai->Dm β):Prop :=
 ∀(ρ:List Addr) (σ:St) (H:Hp) (δ:ai) (st:Store) (b:β) (st':Store) (Q:α->Hp->Prop),Rl K ρ H st->Rs K ρ H σ δ->f δ st=some (b,st') ->
  (∀a H' ρ',Mn K ρ H ρ' H'->Rl K ρ' H' st'->R ρ' H' a b->Q a H')->t σ H Q
@[reducible]def fE(K:Zfr)(t:TE)(f:ai->Dm D):Prop:=So K (Rp K) t f
@[reducible]def oO(K:Zfr)(t:TT)(f:ai->Dm Bool):Prop:=So K (λ_ _=>Eq) t f
@[reducible]def o9(K:Zfr)(t:TA)(f:ai->Dm (List D)):Prop:=So K (bI K) t f
@[reducible]def DM(K:Zfr)(t:TO)(f:ai->Dm (Option Int)):Prop:=So K (λ_ _=>Eq) t f
abbrev G3(K:Zfr)(r:V->Hp->VK->Prop)(g:D->Dm D):Prop :=
 ∀(ρ:List Addr) (H:Hp) (st:Store) (x:V) (a:D) (b:D) (st':Store) (Q:VK),Rl K ρ H st->Rp K ρ H x a->g a st=some (b,st')->(∀v H' ρ',Mn K ρ H ρ' H'->Rl K ρ' H' st'->Rp K ρ' H' v b->Q v H')->r x H Q
abbrev kO(K:Zfr)(r:R2)(g:D->D->Dm D):Prop :=
 ∀(ρ:List Addr) (H:Hp) (st:Store) (x y:V) (a c:D) (b:D) (st':Store) (Q:VK),Rl K ρ H st->Rp K ρ H x a->Rp K ρ H y c->g a c st=some (b,st')->(∀v H' ρ',Mn K ρ H ρ' H'->Rl K ρ' H' st'->Rp K ρ' H' v b->Q v H')->r x y H Q
abbrev qB(K:Zfr)(r:List V->Hp->VK->Prop)(g:List D->Dm D):Prop :=
 ∀(ρ:List Addr) (H:Hp) (st:Store) (xs:List V) (as:List D) (b:D) (st':Store) (Q:VK),Rl K ρ H st->bI K ρ H xs as->g as st=some (b,st')->(∀v H' ρ',Mn K ρ H ρ' H'->Rl K ρ' H' st'->Rp K ρ' H' v b->Q v H')->r xs H Q
abbrev yy(K:Zfr)(T:String)(r:V->List V->Hp->VK->Prop)(g:D->List D->Dm D):Prop :=
 ∀(ρ:List Addr) (H:Hp) (st:Store) (x:V) (xs:List V) (a:D) (as:List D) (b:D) (st':Store) (Q:VK),Rl K ρ H st->Rp K ρ H x a->bI K ρ H xs as->g a as st=some (b,st')->(∀v H' ρ',Mn K ρ H ρ' H'->Rl K ρ' H' st'->Rp K ρ' H' v b->Q v H')->r x xs H Q
abbrev bnd{α β:Type}(m:Option (α×Store))(k:α->Dm β):Option (β×Store):=match m with
 |some (a,st)=>k a st
 |none=>none
def cy{α β:Type}{m:Option (α×Store)}{k:α->Dm β}{r:β×Store}(h:bnd m k=some r):∃a st,m=some (a,st)/\k a st=some r:=by
 cases m with
 |none=>cases h
 |some p=>exact⟨p.1,p.2,rfl,h⟩
section
variable {K:Zfr}
abbrev ag(i:Nat):ai->Dm D:=λδ st=>match δ[i]? with
 |some (some d)=>some (d,st)
 |_=>none
def ao(i:Nat):fE K (pM i) (ag i):=by
 intro ρ σ H δ st b st' Q l rs e q;unfold ag at e;split at e
 ·next d hd=>cases e;obtain⟨v,ev,r⟩:=rs.2 i _ hd;exact⟨v,ev,q v H ρ .refl l r⟩
 ·cases e
abbrev fC(d:D):ai->Dm D:=λ_ st=>some (d,st)
def qC{v:V}{d:D}(h:∀ρ H,Rp K ρ H v d):fE K (tC v) (fC d):=by intro ρ σ H δ st b st' Q l rs e q;cases e;exact q v H ρ .refl l (h ρ H)
def aY(i:Int):fE K (tC (.int i)) (fC (.int i)):=qC λ_ _=>.int i
def G4(b:Bool):fE K (tC (.bl b)) (fC (.bl b)):=qC λ_ _=>.bl b
def KZ(x:Str):fE K (tC (.str x)) (fC (.str x)):=qC λ_ _=>.str x
def G5:fE K (tC .non) (fC .non):=qC λ_ _=>.non
abbrev aE(g:D->D->Dm D)(fa fb:ai->Dm D):ai->Dm D:=λδ st=>bnd (fa δ st) λa st1=>bnd (fb δ st1) λb st2=>g a b st2
def aH{r:R2}{g:D->D->Dm D}{ta tb:TE}{fa fb:ai->Dm D}(hr:kO K r g)(ha:fE K ta fa)(hb:fE K tb fb):fE K (C4 r ta tb) (aE g fa fb):=by intro ρ σ H δ st b st' Q l rs e q;obtain⟨a,st1,e1,e⟩:=cy e;obtain⟨c,st2,e2,e⟩:=cy e;refine ha ρ σ H δ st a st1 _ l rs e1 λx H1 ρ1 m1 l1 r1=>hb ρ1 σ H1 δ st1 c st2 _ l1 (rs.mn m1) e2 λy H2 ρ2 m2 l2 r2=>?_;exact hr ρ2 H2 st2 x y a c b st' Q l2 (r1.mn m2) r2 e λv H3 ρ3 m3 l3 r3=>q v H3 ρ3 ((m1.trans m2).trans m3) l3 r3
abbrev yz(g:D->Dm D)(fa:ai->Dm D):ai->Dm D:=λδ st=>bnd (fa δ st) λa st1=>g a st1
def DN{r:V->Hp->VK->Prop}{g:D->Dm D}{ta:TE}{fa:ai->Dm D}(hr:G3 K r g)(ha:fE K ta fa):fE K (IA r ta) (yz g fa):=by intro ρ σ H δ st b st' Q l rs e q;obtain⟨a,st1,e1,e⟩:=cy e;exact ha ρ σ H δ st a st1 _ l rs e1 λx H1 ρ1 m1 l1 r1=>hr ρ1 H1 st1 x a b st' Q l1 r1 e λv H3 ρ3 m3 l3 r3=>q v H3 ρ3 (m1.trans m3) l3 r3
abbrev ah:ai->Dm (List D):=λ_ st=>some ([],st)
abbrev af(fa:ai->Dm D)(fr:ai->Dm (List D)):ai->Dm (List D):=λδ st=>bnd (fa δ st) λa st1=>bnd (fr δ st1) λr st2=>some (a :: r,st2)
def aA:o9 K zw ah:=by intro ρ σ H δ st b st' Q l rs e q;cases e;exact q [] H ρ .refl l .nil
def au{ta:TE}{tr:TA}{fa:ai->Dm D}{fr:ai->Dm (List D)}(ha:fE K ta fa)(hr:o9 K tr fr):o9 K (sW ta tr) (af fa fr):=by intro ρ σ H δ st b st' Q l rs e q;obtain⟨a,st1,e1,e⟩:=cy e;obtain⟨c,st2,e2,e⟩:=cy e;cases e;exact ha ρ σ H δ st a st1 _ l rs e1 λx H1 ρ1 m1 l1 r1=>hr ρ1 σ H1 δ st1 c _ _ l1 (rs.mn m1) e2 λy H2 ρ2 m2 l2 r2=>q _ H2 ρ2 (m1.trans m2) l2 (.cons (r1.mn m2) r2)
abbrev lim(n:Nat):Bool:=Nat.ble n 100000
def yA{n:Nat}(h:lim n=true):n<=sizeLine:=VH (Xq h) ∅
def G6{n:Nat}(h:lim n=true):n<sizeLine:=Wm (Xq h) ∅
abbrev dW(fa:ai->Dm (List D)):ai->Dm D:=λδ st=>bnd (fa δ st) λas st1=>if lim as.length=true then some (.tup as,st1)else none
def lx{ta:TA}{fa:ai->Dm (List D)}(ha:o9 K ta fa):fE K (zx ta) (dW fa):=by
 intro ρ σ H δ st b st' Q l rs e q;obtain⟨as,st1,e1,e⟩:=cy e;split at e
 ·next hl =>
  cases e;refine ha ρ σ H δ st as _ _ l rs e1 λxs H1 ρ1 m1 l1 r1=>⟨by rw[r1.length];exact yA hl,λp hp=>?_⟩;have m2:Mn K ρ1 H1 ρ1 (upd H1 p (.tup xs)):=Mn.same (fH.up hp);exact q _ _ ρ1 (m1.trans m2) (l1.same (fH.up hp)) (.tup (de.of kM) (r1.mn m2))
 ·cases e
abbrev df(fa:ai->Dm (List D)):ai->Dm D:=λδ st=>bnd (fa δ st) λas st1=>if lim as.length=true then some (.ref st1.length,st1 ++ [.lst as])else none
def kr{ta:TA}{fa:ai->Dm (List D)}(ha:o9 K ta fa):fE K (zy ta) (df fa):=by
 intro ρ σ H δ st b st' Q l rs e q;obtain⟨as,st1,e1,e⟩:=cy e;split at e
 ·next hl =>
  cases e;refine ha ρ σ H δ st as _ _ l rs e1 λxs H1 ρ1 m1 l1 r1=>⟨by rw[r1.length];exact yA hl,λp hp=>?_⟩;exact q _ _ _ (m1.trans (Mn.new hp)) (l1.newL hp r1) (.ref (newR l1))
 ·cases e
abbrev aJ(fa:ai->Dm D):ai->Dm Bool:=λδ st=>bnd (fa δ st) λa st1=>match a with
 |.bl b=>some (b,st1)
 |_=>none
def iM{ta:TE}{fa:ai->Dm D}(ha:fE K ta fa):oO K (sU ta) (aJ fa):=by intro ρ σ H δ st b st' Q l rs e q;obtain⟨a,st1,e1,e⟩:=cy e;cases a<;>simp at e;obtain⟨rfl,rfl⟩:=e;refine ha ρ σ H δ st _ _ _ l rs e1 λx H1 ρ1 m1 l1 r1=>?_;cases r1;exact⟨_,rfl,q _ H1 ρ1 m1 l1 rfl⟩
def AK{ta:TE}{fa:ai->Dm D}(ha:fE K ta fa):oO K (tB ta) (aJ fa):=iM ha
abbrev AL(fa:ai->Dm Bool):ai->Dm Bool:=λδ st=>bnd (fa δ st) λa st1=>some (!a,st1)
abbrev sd(fa fb:ai->Dm Bool):ai->Dm Bool:=λδ st=>bnd (fa δ st) λa st1=>if a=true then fb δ st1 else some (false,st1)
abbrev DO(fa fb:ai->Dm Bool):ai->Dm Bool:=λδ st=>bnd (fa δ st) λa st1=>if a=true then some (true,st1)else fb δ st1
def wx{ta tb:TT}{fa fb:ai->Dm Bool}(ha:oO K ta fa)(hb:oO K tb fb):oO K (ze ta tb) (sd fa fb):=by
 intro ρ σ H δ st b st' Q l rs e q;obtain⟨a,st1,e1,e⟩:=cy e;refine ha ρ σ H δ st _ _ _ l rs e1 λx H1 ρ1 m1 l1 r1=>?_;subst r1;cases x with
 |true =>
  refine nM ?_;rw[if_pos rfl]at e;exact hb ρ1 σ H1 δ st1 b st' _ l1 (rs.mn m1) e λy H2 ρ2 m2 l2 r2=>q y H2 ρ2 (m1.trans m2) l2 r2
 |false =>
  refine nL ?_;rw[if_neg Vs]at e;cases e;exact q _ H1 ρ1 m1 l1 rfl
def AO{ta tb:TT}{fa fb:ai->Dm Bool}(ha:oO K ta fa)(hb:oO K tb fb):oO K (Ir ta tb) (DO fa fb):=by
 intro ρ σ H δ st b st' Q l rs e q;obtain⟨a,st1,e1,e⟩:=cy e;refine ha ρ σ H δ st _ _ _ l rs e1 λx H1 ρ1 m1 l1 r1=>?_;subst r1;cases x with
 |false =>
  refine nL ?_;rw[if_neg Vs]at e;exact hb ρ1 σ H1 δ st1 b st' _ l1 (rs.mn m1) e λy H2 ρ2 m2 l2 r2=>q y H2 ρ2 (m1.trans m2) l2 r2
 |true =>
  refine nM ?_;rw[if_pos rfl]at e;cases e;exact q _ H1 ρ1 m1 l1 rfl
abbrev ub(fa fb:ai->Dm D):ai->Dm D:=λδ st=>bnd (aJ fa δ st) λa st1=>if a=true then fb δ st1 else some (.bl false,st1)
abbrev AQ(fa fb:ai->Dm D):ai->Dm D:=λδ st=>bnd (aJ fa δ st) λa st1=>if a=true then some (.bl true,st1)else fb δ st1
abbrev uc(fa:ai->Dm D):ai->Dm D:=λδ st=>bnd (aJ fa δ st) λa st1=>some (.bl (!a),st1)
abbrev jZ{β:Type}(c:ai->Dm Bool)(fa fb:ai->Dm β):ai->Dm β:=λδ st=>bnd (c δ st) λa st1=>if a=true then fa δ st1 else fb δ st1
abbrev jo:ai->Dm (Option Int):=λ_ st=>some (none,st)
abbrev ly(fa:ai->Dm D):ai->Dm (Option Int):=λδ st=>bnd (fa δ st) λa st1=>match a with
 |.int i=>some (some i,st1)
 |_=>none
def G7:DM K oj jo:=by intro ρ σ H δ st b st' Q l rs e q;cases e;exact q _ H ρ .refl l rfl
def G8{ta:TE}{fa:ai->Dm D}(ha:fE K ta fa):DM K (sY ta) (ly fa):=by intro ρ σ H δ st b st' Q l rs e q;obtain⟨a,st1,e1,e⟩:=cy e;cases a<;>simp at e;obtain⟨rfl,rfl⟩:=e;refine ha ρ σ H δ st _ _ _ l rs e1 λx H1 ρ1 m1 l1 r1=>?_;cases r1;exact⟨_,rfl,q _ H1 ρ1 m1 l1 rfl⟩
abbrev wy(K:Zfr)(r:V->Option Int->Option Int->Hp->VK->Prop)(g:D->Option Int->Option Int->Dm D):Prop :=
 ∀lo hi,G3 K (λx=>r x lo hi) (λa=>g a lo hi)
abbrev yB(g:D->Option Int->Option Int->Dm D)(fa:ai->Dm D)(fl fh:ai->Dm (Option Int)):ai->Dm D:=λδ st=>bnd (fa δ st) λa st1=>bnd (fl δ st1) λlo st2=>bnd (fh δ st2) λhi st3=>g a lo hi st3
def G9{r:V->Option Int->Option Int->Hp->VK->Prop}{g:D->Option Int->Option Int->Dm D}{ta:TE}{tl th:TO}{fa:ai->Dm D}{fl fh:ai->Dm (Option Int)}(hr:wy K r g)(ha:fE K ta fa)(hl:DM K tl fl)(hh:DM K th fh):fE K (Ja r ta tl th) (yB g fa fl fh):=by intro ρ σ H δ st b st' Q l rs e q;obtain⟨a,st1,e1,e⟩:=cy e;obtain⟨lo,st2,e2,e⟩:=cy e;obtain⟨hi,st3,e3,e⟩:=cy e;refine ha ρ σ H δ st a st1 _ l rs e1 λx H1 ρ1 m1 l1 r1=>hl ρ1 σ H1 δ st1 lo st2 _ l1 (rs.mn m1) e2 λy H2 ρ2 m2 l2 r2=>hh ρ2 σ H2 δ st2 hi st3 _ l2 (rs.mn (m1.trans m2)) e3 λz H3 ρ3 m3 l3 r3=>?_;subst r2 r3;exact hr y z ρ3 H3 st3 x a b st' Q l3 (r1.mn (m2.trans m3)) e λv H4 ρ4 m4 l4 r4=>q v H4 ρ4 (((m1.trans m2).trans m3).trans m4) l4 r4
abbrev aL(g:List D->Dm D)(fa:ai->Dm (List D)):ai->Dm D:=λδ st=>bnd (fa δ st) λas st1=>g as st1
def bW{r:List V->Hp->VK->Prop}{g:List D->Dm D}{ta:TA}{fa:ai->Dm (List D)}(hr:qB K r g)(ha:o9 K ta fa):fE K (FC r ta) (aL g fa):=by intro ρ σ H δ st b st' Q l rs e q;obtain⟨as,st1,e1,e⟩:=cy e;exact ha ρ σ H δ st as st1 _ l rs e1 λx H1 ρ1 m1 l1 r1=>hr ρ1 H1 st1 x as b st' Q l1 r1 e λv H3 ρ3 m3 l3 r3=>q v H3 ρ3 (m1.trans m3) l3 r3
abbrev b5(K:Zfr)(n:Nat)(F:List D->Dm D):Sp:=λvs H Q _=>vs.length=n/\∃(ρ:List Addr) (st:Store) (ds:List D) (b:D) (st':Store),Rl K ρ H st/\bI K ρ H vs ds/\F ds st=some (b,st') /\
 ∀v H' ρ',Mn K ρ H ρ' H'->Rl K ρ' H' st'->Rp K ρ' H' v b->Q v H'
def eJ{n:Nat}{F:List D->Dm D}{ta:TA}{fa:ai->Dm (List D)}{E:XK}(ha:o9 K ta fa)(hn:∀δ st as st',fa δ st=some (as,st')->as.length=n):fE K (pT (b5 K n F) [] E ta) (aL F fa):=by intro ρ σ H δ st b st' Q l rs e q;obtain⟨as,st1,e1,e⟩:=cy e;refine ha ρ σ H δ st as st1 _ l rs e1 λvs H1 ρ1 m1 l1 r1=>⟨?_,ρ1,st1,as,b,st',l1,?_,e,λv H3 ρ3 m3 l3 r3=>q v H3 ρ3 (m1.trans m3) l3 r3⟩;rw[V7,r1.length];exact hn _ _ _ _ e1;rw[V7];exact r1
def QC{δ:ai}{st st':Store}{as:List D}(h:ah δ st=some (as,st')):as.length=0:=by cases h;rfl
def DP{fa:ai->Dm D}{fr:ai->Dm (List D)}{n:Nat}(hr:∀δ st as st',fr δ st=some (as,st')->as.length=n):∀δ st as st',af fa fr δ st=some (as,st')->as.length=n+1:=λδ st as st' h=>by
 obtain⟨a,st1,e1,e⟩:=cy h;obtain⟨c,st2,e2,e⟩:=cy e;cases e;rw[VU,hr _ _ _ _ e2]
end
end L4
namespace L4
open PySem PySem.Spec L2
section
variable {K:Zfr}
abbrev ud(h:Int->Int->D):D->D->Dm D
 |.int i,.int j,st=>some (h i j,st)
 |_,_,_=>none
def DQ{gv:Int->Int->V}{h:Int->Int->D}(hh:∀i j ρ H,Rp K ρ H (gv i j) (h i j)):kO K (pS gv) (ud h):=by intro ρ H st x y a c b st' Q l rx ry e q;unfold ud at e;split at e;cases e;cases rx;cases ry;exact⟨_,_,rfl,rfl,q _ H ρ .refl l (hh _ _ ρ H)⟩;cases e
abbrev wz(c:Int->Int->Bool)(h:Int->Int->D):D->D->Dm D
 |.int i,.int j,st=>if c i j=true then some (h i j,st)else none
 |_,_,_=>none
def DR{C:Int->Int->Prop}{c:Int->Int->Bool}{gv:Int->Int->V}{h:Int->Int->D}(hc:∀i j,c i j=true->C i j)(hh:∀i j ρ H,Rp K ρ H (gv i j) (h i j)):kO K (rI C gv) (wz c h):=by
 intro ρ H st x y a d b st' Q l rx ry e q;unfold wz at e;split at e
 ·split at e
  ·next hcc=>cases e;cases rx;cases ry;exact⟨_,_,rfl,rfl,hc _ _ hcc,q _ H ρ .refl l (hh _ _ ρ H)⟩
  ·cases e
 ·cases e
abbrev iK:D->D->Dm D:=ud λi j=>.int (i+j)
abbrev rE:D->D->Dm D:=ud λi j=>.int (i-j)
abbrev ky:D->D->Dm D:=wz (λi j=>decide (-18446744073709551616<i/\i<18446744073709551616) || decide (-18446744073709551616<j/\j<18446744073709551616)) λi j=>.int (i*j)
abbrev mT:D->D->Dm D:=wz (λi j=>decide (0<j/\j<1073741824)) λi j=>.int (i / j)
abbrev jI:D->D->Dm D:=wz (λi j=>decide (0<j)) λi j=>.int (i % j)
abbrev qD:D->D->Dm D:=wz (λi j=>decide (0<=j/\j<=1000000/\i.natAbs<18446744073709551616)) λi j=>.int (i ^ j.toNat)
abbrev yC:D->D->Dm D:=ud λi j=>.bl (decide (i<j))
abbrev QD:D->D->Dm D:=ud λi j=>.bl (decide (i<=j))
abbrev yD:D->D->Dm D:=ud λi j=>.bl (decide (j<i))
abbrev Hc:D->D->Dm D:=ud λi j=>.bl (decide (j<=i))
def oP:kO K (pS λi j=>.int (i+j)) iK:=DQ λ_ _ _ _=>.int _
def uf:kO K (rI rG λi j=>.int (i*j)) ky:=DR (λi j h=>by
 rw[Bool.or_eq_true,decide_eq_true_eq,decide_eq_true_eq]at h
 exact h) λ_ _ _ _=>.int _
def K0:kO K (rI zt λi j=>.int (i / j)) mT:=DR (λi j h=>of_decide_eq_true (p:=0<j/\j<1073741824) h) λ_ _ _ _=>.int _
def rq:kO K (rI (λ_ j=>0<j) λi j=>.int (i % j)) jI:=DR (λi j h=>of_decide_eq_true h) λ_ _ _ _=>.int _
def K1:kO K (rI zu λi j=>.int (i ^ j.toNat)) qD:=DR (λi j h=>by have h:=of_decide_eq_true (p:=0<=j/\j<=1000000/\i.natAbs<18446744073709551616) h;exact⟨h.1,h.2.1,by lk⟩) λ_ _ _ _=>.int _
def DS:kO K (pS λi j=>.bl (decide (i<j))) yC:=DQ λ_ _ _ _=>.bl _
def DT:kO K (pS λi j=>.bl (decide (j<i))) yD:=DQ λ_ _ _ _=>.bl _
def AR:kO K (pS λi j=>.bl (decide (j<=i))) Hc:=DQ λ_ _ _ _=>.bl _
abbrev nX:D->Dm D
 |.int i,st=>some (.int (-i),st)
 |_,_=>none
def DV:G3 K (rU λi=>.int (-i)) nX:=by intro ρ H st x a b st' Q l rx e q;unfold nX at e;split at e;cases e;cases rx;exact⟨_,rfl,q _ H ρ .refl l (.int _)⟩;cases e
abbrev sV:D->Option V
 |.non=>some .non
 |.bl b=>some (.bl b)
 |.int i=>some (.int i)
 |.str x=>some (.str x)
 |_=>none
def yE{ρ:List Addr}{H:Hp}{x v:V}{a:D}(r:Rp K ρ H x a)(h:sV a=some v):x=v:=by cases r<;>first|(cases h;rfl)|cases h
abbrev mU(neg:Bool):D->D->Dm D:=λa b st=>match sV a,sV b with
 |some x,some y=>if nG x y=true then some (.bl (if neg then !decide (x=y)else decide (x=y)),st)else none
 |_,_=>none
def ug:kO K IE (mU false):=by
 intro ρ H st x y a c b st' Q l rx ry e q;unfold mU at e;split at e
 ·next u v h1 h2 =>
  split at e
  ·next hs=>cases e;cases yE rx h1;cases yE ry h2;exact⟨hs,q _ H ρ .refl l (.bl _)⟩
  ·cases e
 ·cases e
def He:kO K IF (mU true):=by
 intro ρ H st x y a c b st' Q l rx ry e q;unfold mU at e;split at e
 ·next u v h1 h2 =>
  split at e
  ·next hs=>cases e;cases yE rx h1;cases yE ry h2;exact⟨hs,q _ H ρ .refl l (.bl _)⟩
  ·cases e
 ·cases e
abbrev bw{α β:Type}(f:α->Option β):List α->Option (List β)
 |[]=>some []
 |a :: r=>match f a,bw f r with
  |some b,some s=>some (b :: s)
  |_,_=>none
def yF{α β:Type}{f:α->Option β}{a:α}{r:List α}{s:List β}(h:bw f (a :: r)=some s):∃b t,f a=some b/\bw f r=some t/\s=b :: t:=by
 unfold bw at h;split at h
 ·next b t h1 h2=>cases h;exact⟨b,t,h1,h2,rfl⟩
 ·cases h
def yG{α β γ:Type}{f:α->Option β}{g:γ->α}{k:γ->β}(h:∀c,f (g c)=some (k c)):∀l:List γ,bw f (l.map g)=some (l.map k)
 |[]=>rfl
 |c :: r=>by
  show bw f (g c :: r.map g)=_;unfold bw;rw[h c,yG h r];rfl
abbrev eP(st:Store):Nat->D->Option PyData
 |0,_=>none
 |_+1,.non=>some .none
 |_+1,.bl b=>some (.bool b)
 |_+1,.int i=>some (.int i)
 |_+1,.str x=>some (.str x)
 |_+1,.ty _=>none
 |n+1,.tup ds=>(bw (eP st n) ds).map PyData.tuple
 |n+1,.ref i=>match items st i with
  |some ds=>(bw (eP st n) ds).map PyData.list
  |none=>none
def wA{ρ:List Addr}{H:Hp}{st:Store}(l:Rl K ρ H st):∀(n:Nat) {v:V} {d:D} {p:PyData},Rp K ρ H v d->eP st n d=some p->Rep K H v p
 |0,_,_,_,_,h=>by simp[eP]at h
 |n+1,v,d,p,r,h=>by
  have all:∀{vs:List V} {ds:List D} {ps:List PyData},bI K ρ H vs ds->bw (eP st n) ds=some ps->dR K H vs ps:=by
   intro vs ds ps rr
   induction vs generalizing ds ps with
   |nil=>intro hm;cases rr;cases hm;exact .nil
   |cons w ws ih =>
    intro hm;cases rr with
    |cons ra rb =>
     obtain⟨b,t,h1,h2,rfl⟩:=yF hm;exact .cons (wA l n ra h1) (ih rb h2)
  cases r with
  |non=>simp[eP]at h;subst h;exact .non
  |bl b=>simp[eP]at h;subst h;exact .bl b
  |int i=>simp[eP]at h;subst h;exact .int i
  |str x=>simp[eP]at h;subst h;exact .str x
  |ty n=>simp[eP]at h
  |ref hi =>
   simp only[eP]at h;split at h
   ·next ds hd =>
    obtain⟨ps,h1,rfl⟩:=VR.mp h;obtain⟨vs,e,rr⟩:=l.items hi hd;exact .lst e (all rr h1)
   ·cases h
  |tup q rr =>
   simp only[eP]at h;obtain⟨ps,h1,rfl⟩:=VR.mp h;exact .tup q (all rr h1)
abbrev mV(neg:Bool):D->D->Dm D:=λa b st=>match eP st 20 a,eP st 20 b with
 |some p,some q=>if(PyData.canLay0 p && PyData.canLay0 q && decide (min p.depth q.depth<=60))=true then some (.bl (if neg then !PyData.eqv p q else PyData.eqv p q),st)else none
 |_,_=>none
def K2(neg:Bool):kO K (zO K neg) (mV neg):=by
 intro ρ H st x y a c b st' Q l rx ry e q;unfold mV at e;split at e
 ·next u v h1 h2 =>
  split at e
  ·next hs =>
   cases e;rw[VG,VG,decide_eq_true_eq]at hs;exact⟨u,v,wA l 20 rx h1,wA l 20 ry h2,hs.1.1,hs.1.2,hs.2,q _ H ρ .refl l (.bl _)⟩
  ·cases e
 ·cases e
def at_of{ρ:List Addr}{H:Hp}{vs:List V}{ds:List D}{i:Int}{d:D}(r:bI K ρ H vs ds)(h:fG ds i=some d):∃v,fG vs i=some v/\Rp K ρ H v d:=by
 unfold fG at h ⊢;rw[r.length];cases hx:kl ds.length i with
 |none=>rw[hx]at h;cases h
 |some j =>
  rw[hx]at h;exact r.got h
abbrev aN:D->D->Dm D
 |.tup ds,.int i,st=>match fG ds i with
  |some d=>some (d,st)
  |none=>none
 |_,_,_=>none
def fF:kO K (vm K) aN:=by
 intro ρ H st x y a c b st' Q l rx ry e q;unfold aN at e;split at e
 ·split at e
  ·next d hd =>
   cases e;cases ry;cases rx with
   |tup s r =>
    obtain⟨v,hv,rv⟩:=at_of r hd;exact⟨_,_,_,v,rfl,rfl,s,hv,q v H ρ .refl l rv⟩
  ·cases e
 ·cases e
abbrev dX:D->D->Dm D
 |.ref r,.int i,st=>match items st r with
  |some ds=>match fG ds i with
   |some d=>some (d,st)
   |none=>none
  |none=>none
 |_,_,_=>none
def lz:kO K (vk K) dX:=by
 intro ρ H st x y a c b st' Q l rx ry e q;unfold dX at e;split at e
 ·split at e
  ·next ds hi =>
   split at e
   ·next d hd =>
    cases e;cases ry;cases rx with
    |ref hr =>
     obtain⟨vs,s,r⟩:=l.items hr hi;obtain⟨v,hv,rv⟩:=at_of r hd;exact⟨_,_,_,v,rfl,rfl,s,hv,q v H ρ .refl l rv⟩
   ·cases e
  ·cases e
 ·cases e
abbrev wB:D->D->Dm D
 | .str z,.int i,st=>if lim z.length=true then match fG z.cps.toList i with
   |some c=>some (.str ⟨#[c]⟩,st)
   |none=>none
  else none
 |_,_,_=>none
abbrev cutD(xs:List D)(lo hi:Option Int):List D:=(xs.drop (HT.bP xs.length 0 lo)).take (HT.bP xs.length xs.length hi-HT.bP xs.length 0 lo)
def bI.cut{ρ:List Addr}{H:Hp}{vs:List V}{ds:List D}(r:bI K ρ H vs ds)(lo hi:Option Int):bI K ρ H (kj vs lo hi) (cutD ds lo hi):=by unfold kj cutD;rw[r.length];exact(r.drop _).take _
abbrev wC:D->Option Int->Option Int->Dm D
 |.tup ds,lo,hi,st=>some (.tup (cutD ds lo hi),st)
 |_,_,_,_=>none
def got{ρ:List Addr}{H:Hp}{st:Store}{vs:List V}{ds:List D}{Q:VK}(l:Rl K ρ H st)(r:bI K ρ H vs ds)(q:∀v H' ρ',Mn K ρ H ρ' H'->Rl K ρ' H' st->Rp K ρ' H' v (.tup ds)->Q v H'):nO K H vs Q :=
 λp H' s e=>q _ H' ρ (Mn.same e) (l.same e) (.tup s (r.mn (Mn.same e)))
def wG:wy K (tH K) wC:=by
 intro lo hi ρ H st x a b st' Q l rx e q;cases a with
 |tup ds =>
  cases e;cases rx with
  |tup s r=>exact⟨_,_,rfl,s,got l (r.cut lo hi) q⟩
 |_=>cases e
abbrev qE:D->Option Int->Option Int->Dm D
 |.ref r,lo,hi,st=>match items st r with
  |some ds=>some (.ref st.length,st ++ [.lst (cutD ds lo hi)])
  |none=>none
 |_,_,_,_=>none
def K3:wy K (zE K) qE:=by
 intro lo hi ρ H st x a b st' Q l rx e q;cases a with
 |ref i =>
  simp only[qE]at e;split at e
  ·next ds hd =>
   cases e;cases rx with
   |ref hr =>
    obtain⟨vs,s,r⟩:=l.items hr hd;exact⟨_,_,rfl,s,λp hp=>q _ _ _ (Mn.new hp) (l.newL hp (r.cut lo hi)) (.ref (newR l))⟩
  ·cases e
 |_=>cases e
abbrev kz:D->D->Dm D
 |.tup a,.tup b,st=>if lim (a.length+b.length)=true then some (.tup (a ++ b),st)else none
 |_,_,_=>none
def DW:kO K (p7 K) kz:=by
 intro ρ H st x y a c b st' Q l rx ry e q;unfold kz at e;split at e
 ·split at e
  ·next hl =>
   cases e;cases rx with
   |tup s r =>
    cases ry with
    |tup s' r'=>exact⟨_,_,_,_,rfl,rfl,s,s',by rw[r.length,r'.length];exact yA hl,got l (r.append r') q⟩
  ·cases e
 ·cases e
abbrev own(st:Store)(i:Nat):Option (List D):=match st[i]? with
 |some (.lst ds)=>some ds
 |_=>none
def pb{st:Store}{i:Nat}{ds:List D}(h:own st i=some ds):st[i]?=some (.lst ds):=by
 unfold own at h;split at h
 ·next ds' hs=>cases h;exact hs
 ·cases h
abbrev kA:D->D->Dm D
 |.ref i,.ref j,st=>match own st i,own st j with
  |some a,some b=>if lim (a.length+b.length)=true then some (.ref st.length,st ++ [.lst (a ++ b)])else none
  |_,_=>none
 |_,_,_=>none
def uh:kO K zG kA:=by
 intro ρ H st x y a c b st' Q l rx ry e q;unfold kA at e;split at e
 ·split at e
  ·next a b h1 h2 =>
   split at e
   ·next hl =>
    cases e;cases rx with
    |ref hi =>
     cases ry with
     |ref hj =>
      obtain⟨vs,e1,r1⟩:=l.obj _ _ _ hi (pb h1);obtain⟨ws,e2,r2⟩:=l.obj _ _ _ hj (pb h2);exact⟨_,_,_,_,rfl,rfl,e1,e2,by rw[r1.length,r2.length];exact yA hl,λp hp=>q _ _ _ (Mn.new hp) (l.newL hp (r1.append r2)) (.ref (newR l))⟩
   ·cases e
  ·cases e
 ·cases e
abbrev qF:D->D->Dm D
 |.ref i,.int k,st=>match own st i with
  |some a=>if(decide (-9223372036854775808<=k/\k<9223372036854775808) && lim (a.length*k.toNat))=true then some (.ref st.length,st ++ [.lst (List.replicate k.toNat a).flatten])else none
  |_=>none
 |_,_,_=>none
def K4{ρ:List Addr}{H:Hp}:∀{ws vs:List V} {ds:List D},bI K ρ H ws ds->bw sV ds=some vs->ws=vs
 |_,_,_,.nil,h=>by cases h;rfl
 |_,_,_,.cons a b,h=>by
  obtain⟨x,t,h1,h2,rfl⟩:=yF h;rw[yE a h1,K4 b h2]
def K5{a:D}{v:V}(h:sV a=some v):iL v=true:=by cases a<;>first|(cases h;rfl)|cases h
def K7:∀{ds:List D} {vs:List V},bw sV ds=some vs->vs.all iL=true
 |[],_,h=>by cases h;rfl
 |d :: r,_,h=>by
  obtain⟨x,t,h1,h2,rfl⟩:=yF h;rw[List.all_cons,K5 h1,K7 h2];rfl
abbrev bh(st:Store):D->Option (List D)
 |.tup ds=>some ds
 |.ref i=>items st i
 |_=>none
def yH{ρ:List Addr}{H:Hp}{st:Store}{x:V}{a:D}{ds:List D}(l:Rl K ρ H st)(r:Rp K ρ H x a)(h:bh st a=some ds):∃p vs,x=.ref p/\(gP K H p vs\/de K H p vs)/\bI K ρ H vs ds:=by
 cases r<;>first|(cases h;done)|skip
 ·next hi=>obtain⟨vs,s,r⟩:=l.items hi h;exact⟨_,vs,rfl,.inl s,r⟩
 ·next s r=>cases h;exact⟨_,_,rfl,.inr s,r⟩
abbrev pd(neg:Bool):D->D->Dm D:=λa c st=>match sV a,(bh st c).bind (bw sV)with
 |some x,some vs=>some (.bl (if neg then !tj x vs else tj x vs),st)
 |_,_=>none
def yI(neg:Bool):kO K (FN K neg) (pd neg):=by
 intro ρ H st x y a c b st' Q l rx ry e q;unfold pd at e;split at e
 ·next u vs h1 h2 =>
  cases e;obtain⟨ds,h3,h4⟩:=Wd.mp h2;obtain⟨p,ws,rfl,s,r⟩:=yH l ry h3;cases yE rx h1;cases K4 r h4;exact⟨p,_,rfl,s,K5 h1,K7 h4,q _ H ρ .refl l (.bl _)⟩
 ·cases e
def bI.one'{ρ:List Addr}{H:Hp}{vs:List V}{d:D}(r:bI K ρ H vs [d]):∃v,vs=[v]/\Rp K ρ H v d:=by cases r with|cons a b=>cases b;exact⟨_,rfl,a⟩
def bI.two'{ρ:List Addr}{H:Hp}{vs:List V}{d e:D}(r:bI K ρ H vs [d,e]):∃v w,vs=[v,w]/\Rp K ρ H v d/\Rp K ρ H w e:=by
 cases r with
 |cons a b=>obtain⟨w,rfl,r⟩:=b.one';exact⟨_,_,rfl,a,r⟩
abbrev dA:List D->Dm D
 |[a],st=>match bh st a with
  |some ds=>some (.int ds.length,st)
  |none=>none
 |_,_=>none
def kW:qB K (λxs H Q=>∃p ys,xs=[.ref p]/\(gP K H p ys\/de K H p ys)/\Q (.int ys.length) H) dA:=by
 intro ρ H st xs as b st' Q l rx e q;unfold dA at e;split at e
 ·split at e
  ·next ds hd =>
   cases e;obtain⟨v,rfl,r⟩:=rx.one';obtain⟨p,vs,rfl,s,r⟩:=yH l r hd;exact⟨p,vs,rfl,s,q _ H ρ .refl l (by rw[r.length];exact .int _)⟩
  ·cases e
 ·cases e
abbrev lA:List D->Dm D
 |[a],st=>match bh st a with
  |some ds=>some (.ref st.length,st ++ [.lst ds])
  |none=>none
 |_,_=>none
def Hf:qB K (λxs H Q=>∃p ys,xs=[.ref p]/\(gP K H p ys\/de K H p ys)/\∀l,H l=none->Q (.ref l) (upd H l (.lst ys))) lA:=by
 intro ρ H st xs as b st' Q l rx e q;unfold lA at e;split at e
 ·split at e
  ·next ds hd =>
   cases e;obtain⟨v,rfl,r⟩:=rx.one';obtain⟨p,vs,rfl,s,r⟩:=yH l r hd;exact⟨p,vs,rfl,s,λp hp=>q _ _ _ (Mn.new hp) (l.newL hp r) (.ref (newR l))⟩
  ·cases e
 ·cases e
abbrev br:List D->Dm D
 |[a],st=>match bh st a with
  |some ds=>some (.tup ds,st)
  |none=>none
 |_,_=>none
def lW:qB K (λxs H Q=>∃p ys,xs=[.ref p]/\((gP K H p ys/\∀l,H l=none->Q (.ref l) (upd H l (.tup ys)))\/(de K H p ys/\Q (.ref p) H))) br:=by
 intro ρ H st xs as b st' Q l rx e q;unfold br at e;split at e
 ·split at e
  ·next ds hd =>
   cases e;obtain⟨v,rfl,r⟩:=rx.one';obtain⟨p,vs,rfl,s,r'⟩:=yH l r hd;refine⟨p,vs,rfl,?_⟩;rcases s with s|s
   ·exact .inl ⟨s,(got l r' q).new⟩
   ·exact .inr ⟨s,(got l r' q).it s⟩
  ·cases e
 ·cases e
abbrev AU:List D->Dm D
 |[.int i,.int j],st=>some (.int (if j > i then j else i),st)
 |_,_=>none
abbrev AV:List D->Dm D
 |[.int i,.int j],st=>some (.int (if j<i then j else i),st)
 |_,_=>none
abbrev ui:List D->Dm D
 |[.int i],st=>some (.int i,st)
 |[.bl k],st=>some (.int (if k then 1 else 0),st)
 |_,_=>none
abbrev ia:List D->Dm D
 |[.int j],st=>some (.ref st.length,st ++ [.gI 0 j])
 |_,_=>none
abbrev dB:List D->Dm D
 |[.int i,.int j],st=>some (.ref st.length,st ++ [.gI i j])
 |_,_=>none
def Hg:qB K (λxs H Q=>∃j:Int,xs=[.int j]/\∀p,H p=none->Q (.ref p) (upd H p (.gI 0 j))) ia:=by intro ρ H st xs as b st' Q l rx e q;unfold ia at e;split at e;cases e;obtain⟨v,rfl,r⟩:=rx.one';cases r;exact⟨_,rfl,λp hp=>q _ _ _ (Mn.new hp) (l.new hp (show ua K _ _ p (.gI _ _)from kM)) (.ref (newR l))⟩;cases e
def yJ:qB K (λxs H Q=>∃i j:Int,xs=[.int i,.int j]/\∀p,H p=none->Q (.ref p) (upd H p (.gI i j))) dB:=by intro ρ H st xs as b st' Q l rx e q;unfold dB at e;split at e;cases e;obtain⟨v,w,rfl,r1,r2⟩:=rx.two';cases r1;cases r2;exact⟨_,_,rfl,λp hp=>q _ _ _ (Mn.new hp) (l.new hp (show ua K _ _ p (.gI _ _)from kM)) (.ref (newR l))⟩;cases e
abbrev ay(lo:Int)(n:Nat):List D:=(List.range n).map λ(k:Nat)=>D.int (lo+k)
def QE{ρ:List Addr}{H:Hp}(lo:Int)(n:Nat):bI K ρ H (dQ lo n) (ay lo n):=by
 unfold dQ ay
 induction (List.range n)with
 |nil=>exact .nil
 |cons a r ih=>exact .cons (.int _) ih
abbrev pe(lo hi:Int):Bool:=decide (-4611686018427387904<=lo/\lo<4611686018427387904/\-4611686018427387904<=hi/\hi<4611686018427387904) && lim (hi-lo).toNat
def K8{lo hi:Int}(h:pe lo hi=true):(-(2 ^ 62)<=lo/\lo<2 ^ 62/\-(2 ^ 62)<=hi/\hi<2 ^ 62)/\(hi-lo).toNat<=2 ^ 24:=by unfold pe at h;rw[VG,decide_eq_true_eq]at h;exact⟨by lk,VH (Xq h.2) ∅⟩
abbrev gJ(st:Store):D->Option (Int×Int)
 |.ref i=>match st[i]? with
  |some (.gI lo hi)=>some (lo,hi)
  |_=>none
 |_=>none
def wH{ρ:List Addr}{H:Hp}{st:Store}{x:V}{a:D}{lo hi:Int}(l:Rl K ρ H st)(r:Rp K ρ H x a)(h:gJ st a=some (lo,hi)):∃p,x=.ref p/\H p=some (.gI lo hi):=by
 cases r<;>first|(cases h;done)|skip
 ·next hi' =>
  simp only[gJ]at h;split at h
  ·next lo' QF hs=>cases h;exact⟨_,rfl,l.obj _ _ _ hi' hs⟩
  ·cases h
abbrev dr:List D->Dm D
 |[a],st=>match gJ st a with
  |some (lo,hi)=>if pe lo hi=true then some (.ref st.length,st ++ [.lst (ay lo (hi-lo).toNat)])else none
  |none=>none
 |_,_=>none
def se:qB K (λxs H Q=>∃p lo hi,xs=[.ref p]/\H p=some (.gI lo hi)/\(-(2 ^ 62)<=lo/\lo<2 ^ 62/\-(2 ^ 62)<=hi/\hi<2 ^ 62)/\(hi-lo).toNat<=2 ^ 24 /\
  ∀l,H l=none->Q (.ref l) (upd H l (.lst (dQ lo (hi-lo).toNat)))) dr:=by
 intro ρ H st xs as b st' Q l rx e q;unfold dr at e;split at e
 ·split at e
  ·next lo hi hd =>
   split at e
   ·next ok =>
    cases e;obtain⟨v,rfl,r⟩:=rx.one';obtain⟨p,rfl,s⟩:=wH l r hd;exact⟨p,lo,hi,rfl,s,(K8 ok).1,(K8 ok).2,λp hp=>q _ _ _ (Mn.new hp) (l.newL hp (QE lo _)) (.ref (newR l))⟩
   ·cases e
  ·cases e
 ·cases e
abbrev sf:List D->Dm D
 |[a],st=>match gJ st a with
  |some (lo,hi)=>if pe lo hi=true then some (.tup (ay lo (hi-lo).toNat),st)else none
  |none=>none
 |_,_=>none
abbrev iV:D->Option Int
 |.int i=>some i
 |_=>none
def Hh{ρ:List Addr}{H:Hp}:∀{ws:List V} {ds:List D} {ns:List Int},bI K ρ H ws ds->bw iV ds=some ns->ws=ns.map V.int
 |_,_,_,.nil,h=>by cases h;rfl
 |_,_,_,.cons a b,h=>by
  obtain⟨x,t,h1,h2,rfl⟩:=yF h;rw[Hh b h2];cases a<;>first|(cases h1;rfl)|cases h1
abbrev sortI(ns:List Int):List Int:=ns.mergeSort λa b=>decide (a<=b)
def QG{ms ns:List Int}(p:ms.Perm ns)(s:ms.Pairwise (·<=·)):ms=sortI ns:=by
 have p2:(sortI ns).Perm ns:=Xz _ _;have s2:(sortI ns).Pairwise (·<=·):=by
  have:=Xi (le:=λa b:Int=>decide (a<=b)) (λa b c h1 h2=>by simp only[decide_eq_true_eq]at *;lk) (λa b=>by simp only[Bool.or_eq_true,decide_eq_true_eq];lk) ns;exact this.imp λh=>of_decide_eq_true h
 exact(p.trans p2.symm).eq_of_pairwise (λa b _ _ h1 h2=>Int.le_antisymm h1 h2) s s2
abbrev fV:List D->Dm D
 |[a],st=>match (bh st a).bind (bw iV)with
  |some ns=>if ns.length<64 then some (.ref st.length,st ++ [.lst ((sortI ns).map D.int)])else none
  |none=>none
 |_,_=>none
def K9:qB K (λxs H Q=>∃(p:Addr) (ns:List Int),xs=[.ref p]/\(gP K H p (ns.map V.int)\/de K H p (ns.map V.int))/\ns.length<64 /\
  ∀(l:Addr) (ms:List Int),H l=none->ms.Perm ns->ms.Pairwise (·<=·)->Q (.ref l) (upd H l (.lst (ms.map V.int)))) fV:=by
 intro ρ H st xs as b st' Q l rx e q;unfold fV at e;split at e
 ·split at e
  ·next ns hd =>
   split at e
   ·next ok =>
    cases e;obtain⟨v,rfl,r⟩:=rx.one';obtain⟨ds,h3,h4⟩:=Wd.mp hd;obtain⟨p,vs,rfl,s,r⟩:=yH l r h3;cases Hh r h4;exact⟨p,ns,rfl,s,ok,λp ms hp pm sm=>by rw[QG pm sm];exact q _ _ _ (Mn.new hp) (l.newL hp (bI.ints _)) (.ref (newR l))⟩
   ·cases e
  ·cases e
 ·cases e
abbrev iN:List D->Dm D
 |[a],st=>match eP st 20 a with
  |some p=>if(p.showable && p.canLay0 && decide (p.shown.length<=sizeLine) && decide (p.depth<=60))=true then some (.str p.shown,st)else none
  |none=>none
 |_,_=>none
def DX:qB K (λxs H Q=>∃(x:V) (d:PyData),xs=[x]/\Rep K H x d/\d.showable=true/\d.canLay0=true/\d.shown.length<=sizeLine/\d.depth<=60/\Q (.str d.shown) H) iN:=by
 intro ρ H st xs as b st' Q l rx e q;unfold iN at e;split at e
 ·split at e
  ·next p hp =>
   split at e
   ·next ok =>
    cases e;rw[VG,VG,VG,decide_eq_true_eq,decide_eq_true_eq]at ok;obtain⟨v,rfl,r⟩:=rx.one';exact⟨v,p,rfl,wA l 20 r hp,ok.1.1.1,ok.1.1.2,ok.1.2,ok.2,q _ H ρ .refl l (.str _)⟩
   ·cases e
  ·cases e
 ·cases e
abbrev bV:D->Option Bool
 |.bl i=>some i
 |_=>none
abbrev wI:List D->Dm D
 |[.ref i],st=>match (items st i).bind (bw bV)with
  |some bs=>some (.bl (bs.all id),st)
  |none=>none
 |_,_=>none
abbrev uj(T:String)(st:Store):D->Bool
 |.str _=>T == "str"
 |.tup _=>T == "tuple"
 |.ref i=>T == "list" && (items st i).isSome
 |_=>false
def wJ{ρ:List Addr}{H:Hp}{st:Store}{x:V}{a:D}{T:String}(l:Rl K ρ H st)(r:Rp K ρ H x a)(h:uj T st a=true):FP K T x H:=by
 cases r<;>first|(cases h;done)|skip
 ·exact eq_of_beq h
 ·next hi =>
  simp only[uj,VG]at h;obtain⟨ds,hd⟩:=WS.mp h.2;obtain⟨vs,s,_⟩:=l.items hi hd;exact .inl ⟨eq_of_beq h.1,vs,s⟩
 ·next s r=>exact .inr (.inl ⟨eq_of_beq h,_,s⟩)
abbrev mC(T:String)(g:D->List D->Dm D)(fo:ai->Dm D)(fa:ai->Dm (List D)):ai->Dm D:=λδ st=>bnd (fo δ st) λo st1=>if uj T st1 o=true then bnd (fa δ st1) λas st2=>g o as st2 else none
def oQ{T:String}{r:V->List V->Hp->VK->Prop}{g:D->List D->Dm D}{to:TE}{ta:TA}{fo:ai->Dm D}{fa:ai->Dm (List D)}(hr:yy K T r g)(ho:fE K to fo)(ha:o9 K ta fa):fE K (FQ K T r to ta) (mC T g fo fa):=by
 intro ρ σ H δ st b st' Q l rs e q;obtain⟨o,st1,e1,e⟩:=cy e;split at e
 ·next ht =>
  obtain⟨as,st2,e2,e⟩:=cy e;refine ho ρ σ H δ st o st1 _ l rs e1 λx H1 ρ1 m1 l1 r1=>⟨wJ l1 r1 ht,ha ρ1 σ H1 δ st1 as st2 _ l1 (rs.mn m1) e2 λxs H2 ρ2 m2 l2 r2=>?_⟩;exact hr ρ2 H2 st2 x xs o as b st' Q l2 (r1.mn m2) r2 e λv H3 ρ3 m3 l3 r3=>q v H3 ρ3 ((m1.trans m2).trans m3) l3 r3
 ·cases e
abbrev cb:D->List D->Dm D
 |.ref i,[y],st=>match own st i with
  |some xs=>if lim xs.length=true then some (.non,st.set i (.lst (xs ++ [y])))else none
  |none=>none
 |_,_,_=>none
def sg:yy K "list" oo cb:=by
 intro ρ H st x xs a as b st' Q l rx si e q;unfold cb at e;split at e
 ·split at e
  ·next ys hy =>
   split at e
   ·next hl =>
    cases e;obtain⟨v,rfl,r⟩:=si.one';cases rx with
    |ref hi =>
     obtain⟨vs,e1,r1⟩:=l.obj _ _ _ hi (pb hy);obtain⟨l2,m2⟩:=l.putL hi (pb hy) (r1.append (.one r));exact⟨_,vs,v,rfl,rfl,e1,by rw[r1.length];exact G6 hl,q _ _ ρ m2 l2 .non⟩
   ·cases e
  ·cases e
 ·cases e
abbrev fW:D->List D->Dm D
 |.ref i,[.ref j],st=>match own st i,own st j with
  |some xs,some ys=>if lim (xs.length+ys.length)=true then some (.non,st.set i (.lst (xs ++ ys)))else none
  |_,_=>none
 |_,_,_=>none
def La:yy K "list" ot fW:=by
 intro ρ H st x xs a as b st' Q l rx si e q;unfold fW at e;split at e
 ·split at e
  ·next xs' ys hx hy =>
   split at e
   ·next hl =>
    cases e;obtain⟨v,rfl,r⟩:=si.one';cases rx with
    |ref hi =>
     cases r with
     |ref hj =>
      obtain⟨vs,e1,r1⟩:=l.obj _ _ _ hi (pb hx);obtain⟨ws,e2,r2⟩:=l.obj _ _ _ hj (pb hy);obtain⟨l2,m2⟩:=l.putL hi (pb hx) (r1.append r2);exact⟨_,_,vs,ws,rfl,rfl,e1,e2,by rw[r1.length,r2.length];exact yA hl,q _ _ ρ m2 l2 .non⟩
   ·cases e
  ·cases e
 ·cases e
abbrev jJ:D->List D->Dm D
 |.ref i,[.int k],st=>match own st i with
  | some xs=>if decide (-9223372036854775808<=k/\k < 9223372036854775808)=true then match seqIndex? k xs.length with
    |some j=>match xs[j]? with
     |some y=>some (y,st.set i (.lst (xs.eraseIdx j)))
     |none=>none
    |none=>none
   else none
  |none=>none
 |_,_,_=>none
def QH:yy K "list" pW jJ:=by
 intro ρ H st x xs a as b st' Q l rx si e q;unfold jJ at e;split at e
 ·split at e
  ·next ys hy =>
   split at e
   ·next hk =>
    split at e
    ·next j hj =>
     split at e
     ·next y hy' =>
      cases e;obtain⟨v,rfl,r⟩:=si.one';cases r;cases rx with
      |ref hi =>
       obtain⟨vs,e1,r1⟩:=l.obj _ _ _ hi (pb hy);obtain⟨w,hw,rw'⟩:=r1.got hy';obtain⟨l2,m2⟩:=l.putL hi (pb hy) (r1.erase j);have hk:=of_decide_eq_true hk;exact⟨_,vs,_,j,w,rfl,rfl,e1,by lk,by lk,by rw[r1.length];exact hj,hw,q _ _ ρ m2 l2 (rw'.mn m2)⟩
     ·cases e
    ·cases e
   ·cases e
  ·cases e
 ·cases e
abbrev iZ:D->List D->Dm D
 |.tup ds,[.int v],st=>match bw iV ds with
  |some ns=>match ns.findIdx? (λi=>decide (i=v))with
   |some j=>some (.int (j:Int),st)
   |none=>none
  |none=>none
 |_,_,_=>none
def QI:yy K "tuple" (nR K) iZ:=by
 intro ρ H st x xs a as b st' Q l rx si e q;unfold iZ at e;split at e
 ·split at e
  ·next ns hn =>
   split at e
   ·next j hj =>
    cases e;obtain⟨v,rfl,r⟩:=si.one';cases r;cases rx with
    |tup s r =>
     cases Hh r hn;obtain⟨h1,h2,h3⟩:=WR.mp hj;refine⟨_,ns,_,j,rfl,rfl,s,?_,λi hi z=>?_,q _ H ρ .refl l (.int _)⟩
     ·rw[Vn h1];exact congrArg some (of_decide_eq_true h2)
     ·have:=h3 i hi
      obtain⟨hl,ez⟩:=Vm.mp z;rw[ez]at this;simp at this
   ·cases e
  ·cases e
 ·cases e
abbrev AW(st:Store):D->Option String
 |.non=>some "NoneType"
 |.bl _=>some "bool"
 |.int _=>some "int"
 |.str _=>some "str"
 |.tup _=>some "tuple"
 |.ref i=>match st[i]? with
  |some (.lst _)=>some "list"
  |some (.dct _)=>some "dict"
  |_=>none
 |.ty _=>none
abbrev lX:List D->Dm D
 |[a,.ty c],st=>match AW st a with
  |some T=>if T=c then some (.bl true,st)else none
  |none=>none
 |_,_=>none
end
section
variable {K:Zfr}
def Lb:kO K zH qF:=by
 intro ρ H st x y a c b st' Q l rx ry e q;unfold qF at e;split at e
 ·split at e
  ·next ds hd =>
   split at e
   ·next ok =>
    cases e;rw[VG,decide_eq_true_eq]at ok;cases ry;cases rx with
    |ref hi =>
     obtain⟨vs,e1,r1⟩:=l.obj _ _ _ hi (pb hd);exact⟨_,_,vs,rfl,rfl,e1,by lk,by lk,by rw[r1.length];exact yA ok.2,λp hp=>q _ _ _ (Mn.new hp) (l.newL hp (r1.flat _)) (.ref (newR l))⟩
   ·cases e
  ·cases e
 ·cases e
def Rs.set{ρ:List Addr}{H:Hp}{σ:St}{δ:ai}{v:V}{d:D}{i:Nat}(h:Rs K ρ H σ δ)(r:Rp K ρ H v d):Rs K ρ H (σ.set i (some v)) (δ.set i (some d)):=by
 refine⟨by rw[Wj,Wj];exact h.1,λj e hj=>?_⟩;by_cases hij:i=j;subst hij;have hl:i<δ.length:=by
  have:=(Vm.mp hj).1
  rwa [Wj]at this
 rw[VD hl]at hj;cases hj;exact⟨v,by rw[VD (by rw[h.1];exact hl)],r⟩;rw[VI hij]at hj;obtain⟨w,hw,rw'⟩:=h.2 j e hj;exact⟨w,by rw[VI hij];exact hw,rw'⟩
abbrev wK(K:Zfr)(g:TG)(f:D->ai->Dm ai):Prop :=
 ∀(ρ:List Addr) (σ:St) (H:Hp) (δ:ai) (st:Store) (v:V) (d:D) (δ':ai) (st':Store) (Q:St->Hp->Prop),Rl K ρ H st->Rs K ρ H σ δ->Rp K ρ H v d->f d δ st=some (δ',st') ->
  (∀σ' H' ρ',Mn K ρ H ρ' H'->Rl K ρ' H' st'->Rs K ρ' H' σ' δ'->Q σ' H')->g v σ H Q
abbrev sj(K:Zfr)(g:qY)(f:List D->ai->Dm ai):Prop :=
 ∀(ρ:List Addr) (σ:St) (H:Hp) (δ:ai) (st:Store) (v:List V) (d:List D) (δ':ai) (st':Store) (Q:St->Hp->Prop),Rl K ρ H st->Rs K ρ H σ δ->bI K ρ H v d->f d δ st=some (δ',st') ->
  (∀σ' H' ρ',Mn K ρ H ρ' H'->Rl K ρ' H' st'->Rs K ρ' H' σ' δ'->Q σ' H')->g v σ H Q
abbrev hName(i:Nat):D->ai->Dm ai:=λd δ st=>some (δ.set i (some d),st)
def a9(i:Nat):wK K (lg i) (hName i):=by intro ρ σ H δ st v d δ' st' Q l rs r e q;cases e;exact q _ H ρ .refl l (rs.set r)
abbrev qG:List D->ai->Dm ai
 |[],δ,st=>some (δ,st)
 |_,_,_=>none
abbrev jR(f:D->ai->Dm ai)(g:List D->ai->Dm ai):List D->ai->Dm ai
 |d :: ds,δ,st=>bnd (f d δ st) λδ1 st1=>g ds δ1 st1
 |_,_,_=>none
def Hi:sj K zi qG:=by
 intro ρ σ H δ st v d δ' st' Q l rs r e q;cases r with
 |nil=>cases e;exact⟨rfl,q _ H ρ .refl l rs⟩
 |cons a b=>cases e
def yK{t:TG}{u:qY}{f:D->ai->Dm ai}{g:List D->ai->Dm ai}(hf:wK K t f)(hg:sj K u g):sj K (sO t u) (jR f g):=by
 intro ρ σ H δ st v d δ' st' Q l rs r e q;cases r with
 |nil=>cases e
 |cons a b =>
  obtain⟨δ1,st1,e1,e⟩:=cy e;exact⟨_,_,rfl,hf ρ σ H δ st _ _ δ1 st1 _ l rs a e1 λσ1 H1 ρ1 m1 l1 r1=>hg ρ1 σ1 H1 δ1 st1 _ _ δ' st' Q l1 r1 (b.mn m1) e λσ2 H2 ρ2 m2 l2 r2=>q σ2 H2 ρ2 (m1.trans m2) l2 r2⟩
abbrev pg(n:Nat)(f:List D->ai->Dm ai):D->ai->Dm ai
 |.tup ds,δ,st=>if ds.length=n then f ds δ st else none
 |_,_,_=>none
def Hj{n:Nat}{t:qY}{f:List D->ai->Dm ai}(hf:sj K t f):wK K (zj K n t) (pg n f):=by
 intro ρ σ H δ st v d δ' st' Q l rs r e q;cases r<;>first|(cases e;done)|skip
 ·next s r =>
  simp only[pg]at e;split at e
  ·next hl=>exact⟨_,_,rfl,s,by rw[r.length];exact hl,hf ρ σ H δ st _ _ δ' st' Q l rs r e q⟩
  ·cases e
abbrev hSub(fo fi:ai->Dm D):D->ai->Dm ai:=λd δ st=>bnd (fo δ st) λo st1=>bnd (fi δ st1) λi st2=>match o,i with
 |.ref r,.int k=>match own st2 r with
  |some xs=>match kl xs.length k with
   |some j=>some (δ,st2.set r (.lst (xs.set j d)))
   |none=>none
  |none=>none
 |_,_=>none
def yL{to ti:TE}{fo fi:ai->Dm D}(ho:fE K to fo)(hi:fE K ti fi):wK K (L2.rE to ti sZ) (hSub fo fi):=by
 intro ρ σ H δ st v d δ' st' Q l rs r e q;obtain⟨o,st1,e1,e⟩:=cy e;obtain⟨i,st2,e2,e⟩:=cy e;refine ho ρ σ H δ st o st1 _ l rs e1 λx H1 ρ1 m1 l1 r1=>hi ρ1 σ H1 δ st1 i st2 _ l1 (rs.mn m1) e2 λy H2 ρ2 m2 l2 r2=>?_;split at e
 ·split at e
  ·next xs hx =>
   split at e
   ·next j hj =>
    cases e;cases r2;cases r1 with
    |ref hr =>
     have hr2:=m2.r _ _ hr;obtain⟨vs,e3,r3⟩:=l2.obj _ _ _ hr2 (pb hx);obtain⟨l3,m3⟩:=l2.putL hr2 (pb hx) (r3.set (r.mn (m1.trans m2)) j);exact⟨_,vs,_,j,rfl,rfl,e3,by rw[r3.length];exact hj,q σ _ ρ2 ((m1.trans m2).trans m3) l3 (rs.mn ((m1.trans m2).trans m3))⟩
   ·cases e
  ·cases e
 ·cases e
abbrev Go(K:Zfr)(ρ:List Addr)(H:Hp)(st':Store)(E:Ends):Fl->Prop
 |.nx δ=>∀σ' H' ρ',Mn K ρ H ρ' H'->Rl K ρ' H' st'->Rs K ρ' H' σ' δ->E.nx σ' H'
 |.bk δ=>∀σ' H' ρ',Mn K ρ H ρ' H'->Rl K ρ' H' st'->Rs K ρ' H' σ' δ->E.bk σ' H'
 |.ct δ=>∀σ' H' ρ',Mn K ρ H ρ' H'->Rl K ρ' H' st'->Rs K ρ' H' σ' δ->E.ct σ' H'
 |.rt d=>∀v H' ρ',Mn K ρ H ρ' H'->Rl K ρ' H' st'->Rp K ρ' H' v d->E.rt v H'
def Go.mn{ρ ρ1:List Addr}{H H1:Hp}{st':Store}{E:Ends}{fl:Fl}(g:Go K ρ H st' E fl)(m:Mn K ρ H ρ1 H1):Go K ρ1 H1 st' E fl:=by cases fl<;>exactλv H' ρ' m' l r=>g v H' ρ' (m.trans m') l r
abbrev lB(K:Zfr)(t:TS)(f:ai->Dm Fl):Prop :=
 ∀(ρ:List Addr) (σ:St) (H:Hp) (δ:ai) (st:Store) (fl:Fl) (st':Store) (E:Ends),Rl K ρ H st->Rs K ρ H σ δ->f δ st=some (fl,st')->Go K ρ H st' E fl->t E σ H
abbrev cv:ai->Dm Fl:=λδ st=>some (.nx δ,st)
def mD:lB K sM cv:=by intro ρ σ H δ st fl st' E l rs e g;cases e;exact g σ H ρ .refl l rs
abbrev aB(f g:ai->Dm Fl):ai->Dm Fl:=λδ st=>bnd (f δ st) λfl st1=>match fl with
 |.nx δ1=>g δ1 st1
 |x=>some (x,st1)
def bC{t u:TS}{f g:ai->Dm Fl}(hf:lB K t f)(hg:lB K u g):lB K (u3 t u) (aB f g):=by
 intro ρ σ H δ st fl st' E l rs e q;obtain⟨x,st1,e1,e⟩:=cy e;refine hf ρ σ H δ st x st1 _ l rs e1 ?_;cases x with
 |nx δ1=>exactλσ1 H1 ρ1 m1 l1 r1=>hg ρ1 σ1 H1 δ1 st1 fl st' E l1 r1 e (q.mn m1)
 |bk δ1=>cases e;exact q
 |ct δ1=>cases e;exact q
 |rt d=>cases e;exact q
def lY{c:TT}{t u:TS}{fc:ai->Dm Bool}{f g:ai->Dm Fl}(hc:oO K c fc)(hf:lB K t f)(hg:lB K u g):lB K (u5 c t u) (jZ fc f g):=by
 intro ρ σ H δ st fl st' E l rs e q;obtain⟨a,st1,e1,e⟩:=cy e;refine hc ρ σ H δ st _ _ _ l rs e1 λx H1 ρ1 m1 l1 r1=>?_;subst r1;cases x with
 |true =>
  refine nM ?_;rw[if_pos rfl]at e;exact hf ρ1 σ H1 δ st1 fl st' E l1 (rs.mn m1) e (q.mn m1)
 |false =>
  refine nL ?_;rw[if_neg Vs]at e;exact hg ρ1 σ H1 δ st1 fl st' E l1 (rs.mn m1) e (q.mn m1)
abbrev eQ(f:ai->Dm D):ai->Dm Fl:=λδ st=>bnd (f δ st) λ_ st1=>some (.nx δ,st1)
def qH{t:TE}{f:ai->Dm D}(hf:fE K t f):lB K (sN t) (eQ f):=by intro ρ σ H δ st fl st' E l rs e q;obtain⟨a,st1,e1,e⟩:=cy e;cases e;exact hf ρ σ H δ st a _ _ l rs e1 λx H1 ρ1 m1 l1 r1=>q σ H1 ρ1 m1 l1 (rs.mn m1)
abbrev bE(f:ai->Dm D):ai->Dm Fl:=λδ st=>bnd (f δ st) λd st1=>some (.rt d,st1)
def gU{t:TE}{f:ai->Dm D}(hf:fE K t f):lB K (zf t) (bE f):=by intro ρ σ H δ st fl st' E l rs e q;obtain⟨a,st1,e1,e⟩:=cy e;cases e;exact hf ρ σ H δ st a _ _ l rs e1 λx H1 ρ1 m1 l1 r1=>q x H1 ρ1 m1 l1 r1
abbrev aD(f:ai->Dm D)(h:D->ai->Dm ai):ai->Dm Fl:=λδ st=>bnd (f δ st) λd st1=>bnd (h d δ st1) λδ1 st2=>some (.nx δ1,st2)
def bN{t:TE}{g:TG}{f:ai->Dm D}{h:D->ai->Dm ai}(hf:fE K t f)(hh:wK K g h):lB K (pQ t g) (aD f h):=by intro ρ σ H δ st fl st' E l rs e q;obtain⟨a,st1,e1,e⟩:=cy e;obtain⟨δ1,st2,e2,e⟩:=cy e;cases e;exact hf ρ σ H δ st a st1 _ l rs e1 λx H1 ρ1 m1 l1 r1=>hh ρ1 σ H1 δ st1 x a δ1 _ _ l1 (rs.mn m1) r1 e2 λσ2 H2 ρ2 m2 l2 r2=>q σ2 H2 ρ2 (m1.trans m2) l2 r2
abbrev ph(i j:Nat)(fa:ai->Dm (List D)):ai->Dm Fl:=λδ st=>bnd (fa δ st) λas st1=>match as with
 |[a,b]=>some (.nx ((δ.set i (some a)).set j (some b)),st1)
 |_=>none
def Hk{i j:Nat}{t:TA}{fa:ai->Dm (List D)}(ha:o9 K t fa):lB K (zm i j t) (ph i j fa):=by intro ρ σ H δ st fl st' E l rs e q;obtain⟨as,st1,e1,e⟩:=cy e;split at e;cases e;refine ha ρ σ H δ st _ _ _ l rs e1 λx H1 ρ1 m1 l1 r1=>?_;obtain⟨v,w,rfl,r,r'⟩:=r1.two';exact⟨v,w,rfl,q _ H1 ρ1 m1 l1 (((rs.mn m1).set r).set r')⟩;cases e
abbrev cD(c:ai->Dm Bool)(b:ai->Dm Fl):Nat->ai->Dm Fl
 |0,_,_=>none
 | n + 1,δ,st=>bnd (c δ st) λt st1=>if t=true then bnd (b δ st1) λfl st2=>match fl with
   |.nx δ2=>cD c b n δ2 st2
   |.ct δ2=>cD c b n δ2 st2
   |.bk δ2=>some (.nx δ2,st2)
   |.rt d=>some (.rt d,st2)
  else some (.nx δ,st1)
abbrev fuel:Nat:=1000000
abbrev fX(c:ai->Dm Bool)(b:ai->Dm Fl):ai->Dm Fl:=cD c b fuel
def AX{tc:TT}{tb:TS}{c:ai->Dm Bool}{b:ai->Dm Fl}(hc:oO K tc c)(hb:lB K tb b):lB K (nF tc tb) (fX c b):=by
 intro ρ σ H δ st fl st' E l rs e q;refine⟨λm σ1 H1=>∃ρ1 δ1 st1,Mn K ρ H ρ1 H1/\Rl K ρ1 H1 st1/\Rs K ρ1 H1 σ1 δ1/\cD c b m δ1 st1=some (fl,st'),⟨fuel,ρ,δ,st,.refl,l,rs,e⟩,?_⟩;rintro m σ1 H1 ⟨ρ1,δ1,st1,m1,l1,pC,e1⟩;cases m with
 |zero=>cases e1
 |succ m =>
  obtain⟨t,st2,e2,e1⟩:=cy e1;refine hc ρ1 σ1 H1 δ1 st1 _ _ _ l1 pC e2 λx H2 ρ2 m2 l2 r2=>?_;subst r2;cases x with
  |true =>
   refine nM ?_;rw[if_pos rfl]at e1;obtain⟨f2,st3,e3,e1⟩:=cy e1;refine⟨λσ3 H3=>∃m',m' < m+1/\∃ρ1 δ1 st1,Mn K ρ H ρ1 H3/\Rl K ρ1 H3 st1/\Rs K ρ1 H3 σ3 δ1/\cD c b m' δ1 st1=some (fl,st'),λ_ _ h=>h,hb ρ2 σ1 H2 δ1 st2 f2 st3 _ l2 (pC.mn m2) e3 ?_⟩;cases f2 with
   |nx δ3=>exactλσ3 H3 ρ3 m3 l3 r3=>⟨m,Wf m,ρ3,δ3,st3,(m1.trans m2).trans m3,l3,r3,e1⟩
   |ct δ3=>exactλσ3 H3 ρ3 m3 l3 r3=>⟨m,Wf m,ρ3,δ3,st3,(m1.trans m2).trans m3,l3,r3,e1⟩
   |bk δ3=>cases e1;exact q.mn (m1.trans m2)
   |rt d=>cases e1;exact q.mn (m1.trans m2)
  |false =>
   refine nL ?_;rw[if_neg Vs]at e1;cases e1;exact q.mn (m1.trans m2) σ1 H2 ρ2 .refl l2 (pC.mn m2)
inductive Src where
 |fix (ds:List D)|live (i:Nat)|QJ (i:Nat)|zl (i:Nat) (es:List D)|zr (ds:List D) (i:Nat)
abbrev Src.at:Src->Nat->Store->Option (Option D)
 |.fix ds,i,_=>if i<=ds.length then some ds[i]? else none
 |.live r,i,st=>(items st r).map λds=>ds[i]?
 |.QJ r,i,st=>(items st r).bind λds=>if i<=ds.length then some (ds.mapIdx λi d=>D.tup [.int (i:Int),d])[i]? else none
 |.zl r es,i,st=>(items st r).bind λds=>if i<=(List.zipWith (λa b=>D.tup [a,b]) ds es).length then some (List.zipWith (λa b=>D.tup [a,b]) ds es)[i]? else none
 |.zr ds r,i,st=>(items st r).bind λes=>if i<=(List.zipWith (λa b=>D.tup [a,b]) ds es).length then some (List.zipWith (λa b=>D.tup [a,b]) ds es)[i]? else none
def yM{ds:List D}{i:Nat}{st:Store}{o:Option D}(h:Src.at (.fix ds) i st=some o):i<=ds.length/\ds[i]?=o:=by
 simp only[Src.at]at h;split at h
 ·next hl=>exact⟨hl,Vu h⟩
 ·cases h
abbrev AY(K:Zfr)(ρ:List Addr)(H:Hp)(J:It)(S:Src):Prop :=
 ∀(ρ2:List Addr) (H2:Hp) (st2:Store) (i:Nat),Mn K ρ H ρ2 H2->Rl K ρ2 H2 st2 ->
  (S.at i st2=some none->J.stop i H2)/\∀d,S.at i st2=some (some d)->J.go i H2/\∀x H3,J.rF i H2 x H3->Mn K ρ2 H2 ρ2 H3/\Rl K ρ2 H3 st2/\Rp K ρ2 H3 x d
@[reducible]def yN(K:Zfr)(t:TI)(f:ai->Dm Src):Prop:=So K (AY K) t f
abbrev fw(S:Src)(g:D->ai->Dm ai)(b:ai->Dm Fl):Nat->Nat->ai->Dm Fl
 |0,_,_,_=>none
 |n+1,i,δ,st=>match S.at i st with
  |none=>none
  |some none=>some (.nx δ,st)
  |some (some d)=>bnd (g d δ st) λδ1 st1=>bnd (b δ1 st1) λfl st2=>match fl with
   |.nx δ2=>fw S g b n (i+1) δ2 st2
   |.ct δ2=>fw S g b n (i+1) δ2 st2
   |.bk δ2=>some (.nx δ2,st2)
   |.rt d=>some (.rt d,st2)
abbrev fL(fi:ai->Dm Src)(g:D->ai->Dm ai)(b:ai->Dm Fl):ai->Dm Fl:=λδ st=>bnd (fi δ st) λS st1=>fw S g b fuel 0 δ st1
def nY{wi:TI}{tg:TG}{tb:TS}{fi:ai->Dm Src}{g:D->ai->Dm ai}{b:ai->Dm Fl}(hi:yN K wi fi)(hg:wK K tg g)(hb:lB K tb b):lB K (zp wi tg tb) (fL fi g b):=by
 intro ρ σ H δ st fl st' E l rs e q;obtain⟨S,jK,e0,e⟩:=cy e;refine hi ρ σ H δ st S jK _ l rs e0 λJ H0 ρ0 m0 l0 ok=>?_;refine⟨λi m σ1 H1=>∃ρ1 δ1 st1,Mn K ρ0 H0 ρ1 H1/\Rl K ρ1 H1 st1/\Rs K ρ1 H1 σ1 δ1/\fw S g b m i δ1 st1=some (fl,st'),⟨fuel,ρ0,δ,jK,.refl,l0,rs.mn m0,e⟩,?_⟩;rintro i m σ1 H1 ⟨ρ1,δ1,st1,m1,l1,pC,e1⟩;cases m with
 |zero=>cases e1
 |succ m =>
  obtain⟨hstop,hgo⟩:=ok ρ1 H1 st1 i m1 l1;unfold fw at e1;split at e1
  ·cases e1
  ·next hs=>cases e1;exact .inl ⟨hstop hs,q.mn (m0.trans m1) σ1 H1 ρ1 .refl l1 pC⟩
  ·next d hs =>
   obtain⟨δ2,st2,e2,e1⟩:=cy e1;obtain⟨f3,st3,e3,e1⟩:=cy e1;obtain⟨go,rF⟩:=hgo d hs;refine .inr ⟨go,λσ3 H3=>∃m',m' < m+1/\∃ρ1 δ1 st1,Mn K ρ0 H0 ρ1 H3/\Rl K ρ1 H3 st1/\Rs K ρ1 H3 σ3 δ1/\fw S g b m' (i+1) δ1 st1=some (fl,st'),λ_ _ h=>h,λx H2 hy=>?_⟩;obtain⟨m2,l2,r2⟩:=rF x H2 hy;refine hg ρ1 σ1 H2 δ1 st1 x d δ2 st2 _ l2 (pC.mn m2) r2 e2 λσ4 H4 ρ4 m4 l4 r4=>hb ρ4 σ4 H4 δ2 st2 f3 st3 _ l4 r4 e3 ?_;have m5:=((m1.trans m2).trans m4);cases f3 with
   |nx δ3=>exactλσ5 H5 ρ5 m6 l5 r5=>⟨m,Wf m,ρ5,δ3,st3,m5.trans m6,l5,r5,e1⟩
   |ct δ3=>exactλσ5 H5 ρ5 m6 l5 r5=>⟨m,Wf m,ρ5,δ3,st3,m5.trans m6,l5,r5,e1⟩
   |bk δ3=>cases e1;exact q.mn (m0.trans m5)
   |rt d=>cases e1;exact q.mn (m0.trans m5)
abbrev fM(fa:ai->Dm D):ai->Dm Src:=λδ st=>bnd (fa δ st) λa st1=>match a with
 |.tup ds=>some (.fix ds,st1)
 |_=>none
def rA{t:TE}{fa:ai->Dm D}(ha:fE K t fa):yN K (zo K t) (fM fa):=by
 intro ρ σ H δ st S st' Q l rs e q;obtain⟨a,st1,e1,e⟩:=cy e;cases a<;>simp at e;obtain⟨rfl,rfl⟩:=e;refine ha ρ σ H δ st _ _ _ l rs e1 λx H1 ρ1 m1 l1 r1=>?_;cases r1 with
 |tup s r =>
  refine⟨_,rfl,⟨_,s⟩,q _ H1 ρ1 m1 l1 λρ2 H2 st2 i m2 l2=>⟨λh=>?_,λd h=>?_⟩⟩;exact⟨_,m2.t _ _ s,by rw[r.length];exact V8.mp (yM h).2⟩;obtain⟨v,hv,rv⟩:=r.got (yM h).2;refine⟨⟨_,v,m2.t _ _ s,hv⟩,λx H3 y=>?_⟩;obtain⟨rfl,hx⟩:=y;have:=hx _ (m2.t _ _ s);rw[hv]at this;cases this;exact⟨.refl,l2,rv.mn m2⟩
abbrev i3(fa:ai->Dm D):ai->Dm Src:=λδ st=>bnd (fa δ st) λa st1=>match a with
 |.ref i=>match items st1 i with
  |some _=>some (.live i,st1)
  |none=>none
 |_=>none
def DY{t:TE}{fa:ai->Dm D}(ha:fE K t fa):yN K (sP K t) (i3 fa):=by
 intro ρ σ H δ st S st' Q l rs e q;obtain⟨a,st1,e1,e⟩:=cy e;split at e
 ·next k =>
  split at e
  ·next ds hd =>
   cases e;refine ha ρ σ H δ st _ _ _ l rs e1 λx H1 ρ1 m1 l1 r1=>?_;cases r1 with
   |ref hi =>
    obtain⟨vs,s,r⟩:=l1.items hi hd;refine⟨_,rfl,⟨_,s⟩,q _ H1 ρ1 m1 l1 λρ2 H2 st2 i m2 l2=>⟨λh=>?_,λd h=>?_⟩⟩
    ·obtain⟨QK,hd2,h⟩:=VR.mp h
     obtain⟨Lc,s2,r2⟩:=l2.items (m2.r _ _ hi) hd2;exact⟨Lc,s2,by rw[r2.length];exact V8.mp h⟩
    ·obtain⟨QK,hd2,h⟩:=VR.mp h
     obtain⟨Lc,s2,r2⟩:=l2.items (m2.r _ _ hi) hd2;obtain⟨v,hv,rv⟩:=r2.got h;refine⟨⟨_,v,s2,hv⟩,λx H3 y=>?_⟩;obtain⟨rfl,hx⟩:=y;have:=hx _ s2;rw[hv]at this;cases this;exact⟨.refl,l2,rv⟩
  ·cases e
 ·cases e
abbrev cq(fa:ai->Dm (List D)):ai->Dm Src:=λδ st=>bnd (fa δ st) λas st1=>match as with
 |[.int j]=>if decide (-4611686018427387904<=j/\j<4611686018427387904)=true then some (.fix (ay 0 j.toNat),st1)else none
 |_=>none
abbrev qI(fa:ai->Dm (List D)):ai->Dm Src:=λδ st=>bnd (fa δ st) λas st1=>match as with
 |[.int i,.int j]=>if decide ((-4611686018427387904<=i/\i<4611686018427387904)/\-4611686018427387904<=j/\j<4611686018427387904)=true then some (.fix (ay i (j-i).toNat),st1)else none
 |_=>none
def ib(lo:Int)(n:Nat):(ay lo n).length=n:=by simp[ay]
def wL{lo:Int}{n k:Nat}(h:k<n):(ay lo n)[k]?=some (.int (lo+k)):=by simp[ay,h]
def wM{ρ:List Addr}{H:Hp}(lo:Int)(n:Nat):AY K ρ H (CZ lo n) (.fix (ay lo n)):=by
 intro ρ2 H2 st2 i m2 l2;refine⟨λh=>?_,λd h=>?_⟩
 have:=V8.mp (yM h).2
 rw[ib]at this;exact this;have h:=(yM h).2;have hl:=(Vm.mp h).1;rw[ib]at hl;rw[wL hl]at h;cases h;refine⟨hl,λx H3 y=>?_⟩;obtain⟨rfl,rfl⟩:=y;exact⟨.refl,l2,.int _⟩
def qJ{t:TA}{fa:ai->Dm (List D)}(ha:o9 K t fa):yN K (sQ t) (cq fa):=by
 intro ρ σ H δ st S st' Q l rs e q;obtain⟨as,st1,e1,e⟩:=cy e;split at e
 ·split at e
  ·next ok =>
   cases e;have ok:=of_decide_eq_true ok;refine ha ρ σ H δ st _ _ _ l rs e1 λx H1 ρ1 m1 l1 r1=>?_;obtain⟨v,rfl,r⟩:=r1.one';cases r;exact⟨_,rfl,by lk,by lk,q _ H1 ρ1 m1 l1 (wM 0 _)⟩
  ·cases e
 ·cases e
abbrev jS(ds:List D):List D:=ds.mapIdx λi d=>.tup [.int (i:Int),d]
def AZ(ds:List D):(jS ds).length=ds.length:=by simp[jS]
def Hl{ds:List D}{i:Nat}{x:D}(h:(jS ds)[i]?=some x):∃d,ds[i]?=some d/\x=.tup [.int (i:Int),d]:=by unfold jS at h;rw[List.getElem?_mapIdx]at h;obtain⟨d,h1,h2⟩:=VR.mp h;exact⟨d,h1,h2.symm⟩
abbrev kC(fa:ai->Dm (List D)):ai->Dm Src:=λδ st=>bnd (fa δ st) λas st1=>match as with
 |[.tup ds]=>some (.fix (jS ds),st1)
 |_=>none
def Ld{t:TA}{fa:ai->Dm (List D)}(ha:o9 K t fa):yN K (tM K t) (kC fa):=by
 intro ρ σ H δ st S st' Q l rs e q;obtain⟨as,st1,e1,e⟩:=cy e;split at e;cases e;refine ha ρ σ H δ st _ _ _ l rs e1 λx H1 ρ1 m1 l1 r1=>?_;obtain⟨v,rfl,r⟩:=r1.one';cases r with
 |tup s r =>
  refine⟨_,rfl,⟨_,s⟩,q _ H1 ρ1 m1 l1 λρ2 H2 st2 i m2 l2=>⟨λh=>?_,λd h=>?_⟩⟩;obtain⟨h1,h2⟩:=yM h;have h2:=V8.mp h2;rw[AZ]at h1 h2;exact⟨_,m2.t _ _ s,by rw[r.length];lk⟩;obtain⟨h1,h2⟩:=yM h;obtain⟨d',hd',rfl⟩:=Hl h2;obtain⟨v,hv,rv⟩:=r.got hd';refine⟨⟨_,v,m2.t _ _ s,hv⟩,λx H3 y=>?_⟩;obtain⟨p,z,rfl,hp,rfl,hx⟩:=y;have:=hx _ (m2.t _ _ s);rw[hv]at this;cases this;have m3:Mn K ρ2 H2 ρ2 (upd H2 p (.tup [.int (i:Int),v])):=Mn.same (fH.up hp);exact⟨m3,l2.same (fH.up hp),.tup (de.of kM) (.cons (.int _) (.one ((rv.mn m2).mn m3)))⟩
 cases e
abbrev fY(S:Src)(g:D->ai->Dm ai)(tc:ai->Dm Bool)(te:ai->Dm D):Nat->Nat->List D->ai->Dm (List D)
 |0,_,_,_,_=>none
 |n+1,i,ys,δ,st=>if lim ys.length=true then match S.at i st with
  |none=>none
  |some none=>some (ys,st)
  |some (some d)=>bnd (g d δ st) λδ1 st1=>bnd (tc δ1 st1) λt st2=>if t=true then bnd (te δ1 st2) λy st3=>fY S g tc te n (i+1) (ys ++ [y]) δ1 st3 else fY S g tc te n (i+1) ys δ1 st2
  else none
abbrev mW(n:Nat)(js:List Nat)(δ:ai):ai:=List.replicate n none ++ js.map λj=>δ.getD j none
abbrev cw(fi:ai->Dm Src)(n:Nat)(js:List Nat)(g:D->ai->Dm ai)(tc:ai->Dm Bool)(te:ai->Dm D):ai->Dm D:=λδ st=>bnd (fi δ st) λS st1=>bnd (fY S g tc te fuel 0 [] (mW n js δ) st1) λys st2=>some (.ref st2.length,st2 ++ [.lst ys])
def Rs.comp{ρ:List Addr}{H:Hp}{σ:St}{δ:ai}(h:Rs K ρ H σ δ)(n:Nat)(js:List Nat):Rs K ρ H (gZ n js σ) (mW n js δ):=by
 unfold gZ mW;refine⟨by simp,λi d hd=>?_⟩;by_cases hi:i<n;rw[VC (by simpa using hi),WW,if_pos hi]at hd;cases hd;rw[VM (by simpa using Xn hi),Vr]at hd;rw[VM (by simpa using Xn hi),Vr];simp only[W4]at hd ⊢;cases hj:js[i-n]? with
 |none=>rw[hj]at hd;cases hd
 |some j =>
  rw[hj]at hd;have hd:δ.getD j none=some d:=Vu hd;rw[Vz]at hd;have hd':δ[j]?=some (some d):=by
   cases hx:δ[j]? with
   |none=>rw[hx]at hd;cases hd
   |some y=>rw[hx]at hd;exact congrArg some hd
  obtain⟨v,hv,r⟩:=h.2 j d hd';exact⟨v,by show some (σ.getD j none)=_;rw[Vz,hv];rfl,r⟩
def pD{wi:TI}{tg:TG}{tc:TT}{te:TE}{fi:ai->Dm Src}{n:Nat}{js:List Nat}{g:D->ai->Dm ai}{c:ai->Dm Bool}{f:ai->Dm D}(hi:yN K wi fi)(hg:wK K tg g)(hc:oO K tc c)(hf:fE K te f):fE K (qa wi n js tg tc te) (cw fi n js g c f):=by
 intro ρ σ H δ st b st' Q l rs e q;obtain⟨S,jK,e0,e⟩:=cy e;obtain⟨zs,mE,e9,e⟩:=cy e;cases e;refine hi ρ σ H δ st S jK _ l rs e0 λJ H0 ρ0 m0 l0 ok=>?_;refine⟨λi m ys σ1 H1=>∃ρ1 δ1 st1 ws,Mn K ρ0 H0 ρ1 H1/\Rl K ρ1 H1 st1/\Rs K ρ1 H1 σ1 δ1/\bI K ρ1 H1 ys ws/\fY S g c f m i ws δ1 st1=some (zs,mE),⟨fuel,ρ0,_,jK,[],.refl,l0,(rs.mn m0).comp n js,.nil,e9⟩,?_⟩;rintro i m ys σ1 H1 ⟨ρ1,δ1,st1,ws,m1,l1,pC,DZ,e1⟩;cases m with
 |zero=>cases e1
 |succ m =>
  obtain⟨hstop,hgo⟩:=ok ρ1 H1 st1 i m1 l1;unfold fY at e1;split at e1
  ·next hl =>
   refine⟨by rw[DZ.length];exact G6 hl,?_⟩;split at e1
   ·cases e1
   ·next hs =>
    cases e1;exact .inl ⟨hstop hs,λp hp=>q _ _ _ ((m0.trans m1).trans (Mn.new hp)) (l1.newL hp DZ) (.ref (newR l1))⟩
   ·next d hs =>
    obtain⟨δ2,st2,e2,e1⟩:=cy e1;obtain⟨t,st3,e3,e1⟩:=cy e1;obtain⟨go,rF⟩:=hgo d hs;refine .inr ⟨go,λx H2 hy=>?_⟩;obtain⟨m2,l2,r2⟩:=rF x H2 hy;refine hg ρ1 σ1 H2 δ1 st1 x d δ2 st2 _ l2 (pC.mn m2) r2 e2 λσ4 H4 ρ4 m4 l4 r4=>hc ρ4 σ4 H4 δ2 st2 t st3 _ l4 r4 e3 λt' H5 ρ5 m5 l5 r5=>?_;subst r5;have m6:=(((m1.trans m2).trans m4).trans m5);cases t' with
    |true =>
     refine nM ?_;rw[if_pos rfl]at e1;obtain⟨y,Hm,e6,e1⟩:=cy e1;exact hf ρ5 σ4 H5 δ2 st3 y Hm _ l5 (r4.mn m5) e6 λv H7 ρ7 m7 l7 r7=>⟨m,Wf m,ρ7,δ2,Hm,ws ++ [y],m6.trans m7,l7,r4.mn (m5.trans m7),(DZ.mn (((m2.trans m4).trans m5).trans m7)).append (.one r7),e1⟩
    |false =>
     refine nL ?_;rw[if_neg Vs]at e1;exact⟨m,Wf m,ρ5,δ2,st3,ws,m6,l5,r4.mn m5,DZ.mn ((m2.trans m4).trans m5),e1⟩
  ·cases e1
abbrev dY:ai->Dm Bool:=λ_ st=>some (true,st)
abbrev gW(n:Nat)(b:ai->Dm Fl):List D->Dm D:=λds st=>bnd (b (ds.map some ++ List.replicate (n-ds.length) none) st) λfl st1=>match fl with
 |.rt d=>some (d,st1)
 |.nx _=>some (.non,st1)
 |_=>none
def Rs.start{ρ:List Addr}{H:Hp}{vs:List V}{ds:List D}(r:bI K ρ H vs ds)(N:List Str):Rs K ρ H (start N vs) (ds.map some ++ List.replicate (N.length-ds.length) none):=by
 unfold L2.start;rw[r.length];refine⟨by simp[r.length],λi d hd=>?_⟩;by_cases hi:i<ds.length;rw[VC (by simpa using hi),Vr]at hd;rw[VC (by rw[Vl,r.length];exact hi),Vr];cases hx:ds[i]? with
 |none=>rw[hx]at hd;cases hd
 |some y =>
  rw[hx]at hd;cases hd;obtain⟨v,hv,rv⟩:=r.got hx;exact⟨v,by rw[hv];rfl,rv⟩
 rw[VM (by simpa using Xn hi),WW]at hd;split at hd<;>cases hd
def i5{N:List Str}{k n:Nat}{t:TS}{b:ai->Dm Fl}{vs:List V}{H:Hp}{Q:VK}{E:XK}(hb:lB K t b)(hn:N.length=n)(h:b5 K k (gW n b) vs H Q E):t { nx:=λ_ H'=>Q .non H',rt:=Q } (start N vs) H:=by
 obtain⟨hk,ρ,st,ds,d,st',l,r,e,q⟩:=h;subst hn;obtain⟨fl,st1,e1,e⟩:=cy e;refine hb ρ _ H _ st fl st1 _ l (Rs.start r N) e1 ?_;cases fl with
 |rt v=>cases e;exact q
 |nx δ=>cases e;exactλσ' H' ρ' m l' r'=>q .non H' ρ' m l' .non
 |bk δ=>cases e
 |ct δ=>cases e
end
section
variable {X:Cx}{K:Zfr}
def QL{N:List Str}{qK:Scope}{cells:List (Str×Addr)}{C:Addr}{fp:List Addr}{s:Shared}{H:Hp}{qL:Scope}{own fr:List Str}(h:p9 (p8 qK X.env.scope) qL own fr):p9 (aI X N qK cells C fp s H).env.scope qL own fr:=h
def uk:oO K (λ_ H Q=>Q true H) dY:=by intro ρ σ H δ st b st' Q l rs e q;cases e;exact q _ H ρ .refl l rfl
end
abbrev um(K:Zfr):Sp:=λvs H Q _=>∃(a:Addr) (ns:List Int),vs=[.ref a]/\zN K H a (ns.map V.int)/\ns.length<=63/\∀H',Q (.bl true) H'
def wN{P:Program}{w:World}{K:Zfr}{mg:Str->Option Value}{base:Heap}{k:Nat}{f:Addr}{fd:FuncData}{ps:List Str}{F:List D->Dm D}(G:aC P w K mg base bK k f fd ps (b5 K 1 F))
  (h:∀ns:List Int,ns.length<=63->∃st',F [.ref 0] [.nW (ns.map D.int)]=some (.bl true,st')):aC P w K mg base bK k f fd ps (um K):=by
 refine G.imp λvs H Q E hs=>?_;obtain⟨a,ns,rfl,hS,hn,q⟩:=hs;obtain⟨st',e⟩:=h ns hn;have one:∀i (b:Addr),([a]:List Addr)[i]?=some b->i=0/\b=a:=λi b h=>by
  cases i with
  |zero=>exact⟨rfl,(Vu h).symm⟩
  |succ i=>simp at h
 refine⟨rfl,[a],[.nW (ns.map D.int)],[.ref 0],.bl true,st',⟨rfl,λi j b o o' h1 h2 _ _ _ _=>by rw[(one i b h1).1,(one j b h2).1],λi b o h1 h2=>?_⟩,.one (.ref rfl),e,λv H' ρ' m l r=>by cases r;exact q H'⟩;obtain⟨rfl,rfl⟩:=one i b h1;cases(Vu h2);exact⟨ns.map V.int,hS,bI.ints ns⟩
abbrev Wp{α:Type}(m:Option (α×Store))(Q:α->Store->Prop):Prop:=∃a st,m=some (a,st)/\Q a st
section
variable {α β:Type}{Q Q':α->Store->Prop}{st:Store}{δ:ai}
def bp{m:Option (α×Store)}(h:Wp m Q)(hq:∀a st,Q a st->Q' a st):Wp m Q':=let ⟨a,st,e,q⟩:=h;⟨a,st,e,hq a st q⟩
def aP{a:α}:Wp (some (a,st)) Q↔Q a st:=⟨λ⟨_,_,e,q⟩=>by cases e;exact q,λq=>⟨a,st,rfl,q⟩⟩
def eU:Wp (none:Option (α×Store)) Q↔False:=⟨λ⟨_,_,e,_⟩=>(by cases e),False.elim⟩
def cz{R:β->Store->Prop}{m:Option (α×Store)}{k:α->Dm β}:Wp (bnd m k) R↔Wp m λa st1=>Wp (k a st1) R:=by
 cases m with
 |none=>exact⟨λ⟨_,_,e,_⟩=>(by cases e),λ⟨_,_,e,_⟩=>(by cases e)⟩
 |some p=>exact⟨λh=>⟨p.1,p.2,rfl,h⟩,λ⟨a,s,e,h⟩=>by cases e;exact h⟩
def lZ{c:Prop}[Decidable c]{m n:Option (α×Store)}:Wp (if c then m else n) Q↔if c then Wp m Q else Wp n Q:=by split<;>exact Iff.rfl
end
section
variable {st:Store}{δ:ai}{Q:D->Store->Prop}
def wO{i:Nat}:Wp (ag i δ st) Q↔∃d,δ[i]?=some (some d)/\Q d st:=by
 unfold ag;split
 ·next d hd=>rw[aP];exact⟨λh=>⟨d,hd,h⟩,λ⟨e,he,h⟩=>by rw[hd]at he;cases he;exact h⟩
 ·next h=>rw[eU];exact⟨False.elim,λ⟨e,he,_⟩=>h e he⟩
def Ho{d:D}:Wp (fC d δ st) Q↔Q d st:=aP
def A0{g:D->D->Dm D}{fa fb:ai->Dm D}:Wp (aE g fa fb δ st) Q↔Wp (fa δ st) λa st1=>Wp (fb δ st1) λb st2=>Wp (g a b st2) Q:=by unfold aE;rw[cz];simp only[cz]
def A1{g:D->Dm D}{fa:ai->Dm D}:Wp (yz g fa δ st) Q↔Wp (fa δ st) λa st1=>Wp (g a st1) Q:=cz
def A2{g:List D->Dm D}{fa:ai->Dm (List D)}:Wp (aL g fa δ st) Q↔Wp (fa δ st) λa st1=>Wp (g a st1) Q:=cz
def wQ{R:List D->Store->Prop}:Wp (ah δ st) R↔R [] st:=aP
def QM{R:List D->Store->Prop}{fa:ai->Dm D}{fr:ai->Dm (List D)}:Wp (af fa fr δ st) R↔Wp (fa δ st) λa st1=>Wp (fr δ st1) λr st2=>R (a :: r) st2:=by unfold af;rw[cz];simp only[cz,aP]
def wR{fa:ai->Dm (List D)}:Wp (dW fa δ st) Q↔Wp (fa δ st) λas st1=>lim as.length=true/\Q (.tup as) st1:=by unfold dW;rw[cz];simp only[lZ,aP,eU];constructor<;>exactλh=>bp h λa s h=>by first|(split at h;exact⟨by assumption,h⟩;exact h.elim)|(rw[if_pos h.1];exact h.2)
def wU{fa:ai->Dm (List D)}:Wp (df fa δ st) Q↔Wp (fa δ st) λas st1=>lim as.length=true/\Q (.ref st1.length) (st1 ++ [.lst as]):=by unfold df;rw[cz];simp only[lZ,aP,eU];constructor<;>exactλh=>bp h λa s h=>by first|(split at h;exact⟨by assumption,h⟩;exact h.elim)|(rw[if_pos h.1];exact h.2)
def QN{R:Bool->Store->Prop}{fa:ai->Dm D}:Wp (aJ fa δ st) R↔Wp (fa δ st) λa st1=>∃b,a=.bl b/\R b st1:=by unfold aJ;rw[cz];constructor<;>refineλh=>bp h λa s h=>?_;cases a<;>simp only[aP,eU]at h;exact⟨_,rfl,h⟩;obtain⟨b,rfl,h⟩:=h;exact aP.mpr h
def wV{R:Bool->Store->Prop}{fa:ai->Dm Bool}:Wp (AL fa δ st) R↔Wp (fa δ st) λa st1=>R (!a) st1:=by unfold AL;rw[cz];simp only[aP]
def wW{R:Bool->Store->Prop}{fa fb:ai->Dm Bool}:Wp (sd fa fb δ st) R↔Wp (fa δ st) λa st1=>if a=true then Wp (fb δ st1) R else R false st1:=by unfold sd;rw[cz];simp only[lZ,aP]
def A3{R:Bool->Store->Prop}{fa fb:ai->Dm Bool}:Wp (DO fa fb δ st) R↔Wp (fa δ st) λa st1=>if a=true then R true st1 else Wp (fb δ st1) R:=by unfold DO;rw[cz];simp only[lZ,aP]
def uo{α:Type}{R:α->Store->Prop}{c:ai->Dm Bool}{fa fb:ai->Dm α}:Wp (jZ c fa fb δ st) R↔Wp (c δ st) λa st1=>if a=true then Wp (fa δ st1) R else Wp (fb δ st1) R:=by unfold jZ;rw[cz];simp only[lZ]
def QO{fa fb:ai->Dm D}:Wp (ub fa fb δ st) Q↔Wp (aJ fa δ st) λa st1=>if a=true then Wp (fb δ st1) Q else Q (.bl false) st1:=by unfold ub;rw[cz];simp only[lZ,aP]
def wX{fa fb:ai->Dm D}:Wp (AQ fa fb δ st) Q↔Wp (aJ fa δ st) λa st1=>if a=true then Q (.bl true) st1 else Wp (fb δ st1) Q:=by unfold AQ;rw[cz];simp only[lZ,aP]
def QP{fa:ai->Dm D}:Wp (uc fa δ st) Q↔Wp (aJ fa δ st) λa st1=>Q (.bl (!a)) st1:=by unfold uc;rw[cz];simp only[aP]
def QQ{R:Option Int->Store->Prop}:Wp (jo δ st) R↔R none st:=aP
def QR{R:Option Int->Store->Prop}{fa:ai->Dm D}:Wp (ly fa δ st) R↔Wp (fa δ st) λa st1=>∃i,a=.int i/\R (some i) st1:=by unfold ly;rw[cz];constructor<;>refineλh=>bp h λa s h=>?_;cases a<;>simp only[aP,eU]at h;exact⟨_,rfl,h⟩;obtain⟨b,rfl,h⟩:=h;exact aP.mpr h
def A4{g:D->Option Int->Option Int->Dm D}{fa:ai->Dm D}{fl fh:ai->Dm (Option Int)}:Wp (yB g fa fl fh δ st) Q↔Wp (fa δ st) λa st1=>Wp (fl δ st1) λlo st2=>Wp (fh δ st2) λhi st3=>Wp (g a lo hi st3) Q:=by unfold yB;rw[cz];simp only[cz]
def A5{T:String}{g:D->List D->Dm D}{fo:ai->Dm D}{fa:ai->Dm (List D)}:Wp (mC T g fo fa δ st) Q↔Wp (fo δ st) λo st1=>uj T st1 o=true/\Wp (fa δ st1) λas st2=>Wp (g o as st2) Q:=by unfold mC;rw[cz];simp only[lZ,cz,eU];constructor<;>exactλh=>bp h λa s h=>by first|(split at h;exact⟨by assumption,h⟩;exact h.elim)|(rw[if_pos h.1];exact h.2)
variable {i j:Int}{ds es:List D}{k:Nat}
def wY:Wp (iK (.int i) (.int j) st) Q↔Q (.int (i+j)) st:=aP
def wZ:Wp (rE (.int i) (.int j) st) Q↔Q (.int (i-j)) st:=aP
def A6:Wp (yC (.int i) (.int j) st) Q↔Q (.bl (decide (i<j))) st:=aP
def A7:Wp (QD (.int i) (.int j) st) Q↔Q (.bl (decide (i<=j))) st:=aP
def A8:Wp (yD (.int i) (.int j) st) Q↔Q (.bl (decide (j<i))) st:=aP
def A9:Wp (Hc (.int i) (.int j) st) Q↔Q (.bl (decide (j<=i))) st:=aP
def w4:Wp (nX (.int i) st) Q↔Q (.int (-i)) st:=aP
def D0{c:Int->Int->Bool}{h:Int->Int->D}:Wp (wz c h (.int i) (.int j) st) Q↔c i j=true/\Q (h i j) st:=by
 show Wp (if c i j=true then some (h i j,st)else none) Q↔_;rw[lZ,aP,eU];split
 ·next h=>exact⟨λq=>⟨h,q⟩,λq=>q.2⟩
 ·next h=>exact⟨False.elim,λq=>h q.1⟩
def w6:Wp (ky (.int i) (.int j) st) Q↔((-18446744073709551616<i/\i<18446744073709551616)\/(-18446744073709551616<j/\j<18446744073709551616))/\Q (.int (i*j)) st:=by unfold ky;rw[D0,Bool.or_eq_true,decide_eq_true_eq,decide_eq_true_eq]
def QS:Wp (mT (.int i) (.int j) st) Q↔(0<j/\j<1073741824)/\Q (.int (i / j)) st:=by unfold mT;rw[D0,decide_eq_true_eq]
def w8:Wp (jI (.int i) (.int j) st) Q↔0<j/\Q (.int (i % j)) st:=by unfold jI;rw[D0,decide_eq_true_eq]
def xa:Wp (qD (.int i) (.int j) st) Q↔(0<=j/\j<=1000000/\i.natAbs<18446744073709551616)/\Q (.int (i ^ j.toNat)) st:=by unfold qD;rw[D0,decide_eq_true_eq]
def xb{neg:Bool}:Wp (mU neg (.int i) (.int j) st) Q↔Q (.bl (if neg then !decide (i=j)else decide (i=j))) st:=by
 have e:decide (V.int i=V.int j)=decide (i=j):=by
  by_cases h:i=j;subst h;simp;simp[h]
 show Wp (if nG (V.int i) (V.int j)=true then some (D.bl (if neg then !decide (V.int i=V.int j)else decide (V.int i=V.int j)),st)else none) Q↔_;rw[if_pos (show nG _ _=true from rfl),aP,e]
def xc{neg:Bool}{x y:Str}:Wp (mU neg (.str x) (.str y) st) Q↔Q (.bl (if neg then !decide (x=y)else decide (x=y))) st:=by
 have e:decide (V.str x=V.str y)=decide (x=y):=by
  by_cases h:x=y;subst h;simp;simp[h]
 show Wp (if nG (V.str x) (V.str y)=true then some (D.bl (if neg then !decide (V.str x=V.str y)else decide (V.str x=V.str y)),st)else none) Q↔_;rw[if_pos (show nG _ _=true from rfl),aP,e]
def Le:Wp (aN (.tup ds) (.int i) st) Q↔∃d,fG ds i=some d/\Q d st:=by
 show Wp (match fG ds i with|some d=>some (d,st)|none=>none) Q↔_;cases fG ds i with
 |none=>rw[eU];exact⟨False.elim,λ⟨_,e,_⟩=>by cases e⟩
 |some d=>rw[aP];exact⟨λq=>⟨d,rfl,q⟩,λ⟨_,e,q⟩=>by cases e;exact q⟩
def xf:Wp (dX (.ref k) (.int i) st) Q↔∃ds d,items st k=some ds/\fG ds i=some d/\Q d st:=by
 show Wp (match items st k with|some ds=>(match fG ds i with|some d=>some (d,st)|none=>none)|none=>none) Q↔_;cases items st k with
 |none=>rw[eU];exact⟨False.elim,λ⟨_,_,e,_⟩=>by cases e⟩
 |some ds =>
  show Wp (match fG ds i with|some d=>some (d,st)|none=>none) Q↔_;cases h:fG ds i with
  |none=>rw[eU];exact⟨False.elim,λ⟨_,_,e,e',_⟩=>by cases e;rw[h]at e';cases e'⟩
  |some d=>rw[aP];exact⟨λq=>⟨ds,d,rfl,h,q⟩,λ⟨_,_,e,e',q⟩=>by cases e;rw[h]at e';cases e';exact q⟩
def xg{lo hi:Option Int}:Wp (wC (.tup ds) lo hi st) Q↔Q (.tup (cutD ds lo hi)) st:=aP
def xh{lo hi:Option Int}:Wp (qE (.ref k) lo hi st) Q↔∃ds,items st k=some ds/\Q (.ref st.length) (st ++ [.lst (cutD ds lo hi)]):=by
 show Wp (match items st k with|some ds=>some (D.ref st.length,st ++ [O.lst (cutD ds lo hi)])|none=>none) Q↔_;cases items st k with
 |none=>rw[eU];exact⟨False.elim,λ⟨_,e,_⟩=>by cases e⟩
 |some ds=>rw[aP];exact⟨λq=>⟨ds,rfl,q⟩,λ⟨_,e,q⟩=>by cases e;exact q⟩
def QT:Wp (kz (.tup ds) (.tup es) st) Q↔lim (ds.length+es.length)=true/\Q (.tup (ds ++ es)) st:=by
 show Wp (if lim (ds.length+es.length)=true then some (D.tup (ds ++ es),st)else none) Q↔_;rw[lZ,aP,eU];split
 ·next h=>exact⟨λq=>⟨h,q⟩,λq=>q.2⟩
 ·next h=>exact⟨False.elim,λq=>h q.1⟩
def xi{a b:Nat}:Wp (kA (.ref a) (.ref b) st) Q↔∃xs ys,own st a=some xs/\own st b=some ys/\lim (xs.length+ys.length)=true/\Q (.ref st.length) (st ++ [.lst (xs ++ ys)]):=by
 show Wp (match own st a,own st b with|some xs,some ys=>if lim (xs.length+ys.length)=true then some (D.ref st.length,st ++ [O.lst (xs ++ ys)])else none|_,_=>none) Q↔_;cases ha:own st a<;>cases hb:own st b
 ·simp only[eU];exact⟨False.elim,λ⟨_,_,e,_⟩=>by cases e⟩
 ·simp only[eU];exact⟨False.elim,λ⟨_,_,e,_⟩=>by cases e⟩
 ·simp only[eU];exact⟨False.elim,λ⟨_,_,_,e,_⟩=>by cases e⟩
 ·next xs ys =>
  show Wp (if lim (xs.length+ys.length)=true then some (D.ref st.length,st ++ [O.lst (xs ++ ys)])else none) Q↔_;rw[lZ,aP,eU];split
  ·next h=>exact⟨λq=>⟨_,_,rfl,rfl,h,q⟩,λ⟨_,_,e,e',_,q⟩=>by cases e;cases e';exact q⟩
  ·next h=>exact⟨False.elim,λ⟨_,_,e,e',q,_⟩=>by cases e;cases e';exact h q⟩
def xj{a:D}:Wp (dA [a] st) Q↔∃ds,bh st a=some ds/\Q (.int ds.length) st:=by
 show Wp (match bh st a with|some ds=>some (D.int ds.length,st)|none=>none) Q↔_;cases bh st a with
 |none=>rw[eU];exact⟨False.elim,λ⟨_,e,_⟩=>by cases e⟩
 |some ds=>rw[aP];exact⟨λq=>⟨ds,rfl,q⟩,λ⟨_,e,q⟩=>by cases e;exact q⟩
def QU{a:D}:Wp (lA [a] st) Q↔∃ds,bh st a=some ds/\Q (.ref st.length) (st ++ [.lst ds]):=by
 show Wp (match bh st a with|some ds=>some (D.ref st.length,st ++ [O.lst ds])|none=>none) Q↔_;cases bh st a with
 |none=>rw[eU];exact⟨False.elim,λ⟨_,e,_⟩=>by cases e⟩
 |some ds=>rw[aP];exact⟨λq=>⟨ds,rfl,q⟩,λ⟨_,e,q⟩=>by cases e;exact q⟩
def QV{a:D}:Wp (br [a] st) Q↔∃ds,bh st a=some ds/\Q (.tup ds) st:=by
 show Wp (match bh st a with|some ds=>some (D.tup ds,st)|none=>none) Q↔_;cases bh st a with
 |none=>rw[eU];exact⟨False.elim,λ⟨_,e,_⟩=>by cases e⟩
 |some ds=>rw[aP];exact⟨λq=>⟨ds,rfl,q⟩,λ⟨_,e,q⟩=>by cases e;exact q⟩
def QW:Wp (AU [.int i,.int j] st) Q↔Q (.int (if j > i then j else i)) st:=aP
def QX:Wp (AV [.int i,.int j] st) Q↔Q (.int (if j<i then j else i)) st:=aP
def QY:Wp (ui [.int i] st) Q↔Q (.int i) st:=aP
def QZ{b:Bool}:Wp (ui [.bl b] st) Q↔Q (.int (if b then 1 else 0)) st:=aP
def Q0:Wp (ia [.int j] st) Q↔Q (.ref st.length) (st ++ [.gI 0 j]):=aP
def Q5:Wp (dB [.int i,.int j] st) Q↔Q (.ref st.length) (st ++ [.gI i j]):=aP
def Q6{y:D}:Wp (cb (.ref k) [y] st) Q↔∃xs,own st k=some xs/\lim xs.length=true/\Q .non (st.set k (.lst (xs ++ [y]))):=by
 show Wp (match own st k with|some xs=>if lim xs.length=true then some (D.non,st.set k (O.lst (xs ++ [y])))else none|none=>none) Q↔_;cases own st k with
 |none=>rw[eU];exact⟨False.elim,λ⟨_,e,_⟩=>by cases e⟩
 |some xs =>
  show Wp (if lim xs.length=true then some (D.non,st.set k (O.lst (xs ++ [y])))else none) Q↔_;rw[lZ,aP,eU];split
  ·next h=>exact⟨λq=>⟨_,rfl,h,q⟩,λ⟨_,e,_,q⟩=>by cases e;exact q⟩
  ·next h=>exact⟨False.elim,λ⟨_,e,q,_⟩=>by cases e;exact h q⟩
end
abbrev Ws(m:Option (Fl×Store))(N B C:ai->Store->Prop)(R:D->Store->Prop):Prop:=Wp m λfl st=>match fl with
 |.nx δ=>N δ st
 |.bk δ=>B δ st
 |.ct δ=>C δ st
 |.rt d=>R d st
section
variable {st:Store}{δ:ai}{N B C:ai->Store->Prop}{R:D->Store->Prop}{f g:ai->Dm Fl}{e:ai->Dm D}
def yO{m:Option (Fl×Store)}{N':ai->Store->Prop}(h:Ws m N B C R)(hn:∀δ st,N δ st->N' δ st):Ws m N' B C R:=bp h λfl st q=>by
 cases fl with
 |nx δ=>exact hn δ st q
 |bk δ=>exact q
 |ct δ=>exact q
 |rt d=>exact q
def bu(h:Ws (f δ st) (λδ1 st1=>Ws (g δ1 st1) N B C R) B C R):Ws (aB f g δ st) N B C R:=by
 unfold Ws aB;rw[cz];refine bp h λfl st1 q=>?_;cases fl with
 |nx δ1=>exact q
 |bk δ1=>exact aP.mpr q
 |ct δ1=>exact aP.mpr q
 |rt d=>exact aP.mpr q
def mF(h:N δ st):Ws (cv δ st) N B C R:=aP.mpr h
def yP{t:D->ai->Dm ai}(h:Wp (e δ st) λd st1=>Wp (t d δ st1) N):Ws (aD e t δ st) N B C R:=by unfold Ws aD;rw[cz];refine bp h λd st1 q=>?_;rw[cz];exact bp q λδ1 st2 q=>aP.mpr q
def bX{i:Nat}(h:Wp (e δ st) λd st1=>N (δ.set i (some d)) st1):Ws (aD e (hName i) δ st) N B C R:=yP (bp h λd st1 q=>aP.mpr q)
def qM(h:Wp (e δ st) λ_ st1=>N δ st1):Ws (eQ e δ st) N B C R:=by unfold Ws eQ;rw[cz];exact bp h λd st1 q=>aP.mpr q
def gX(h:Wp (e δ st) R):Ws (bE e δ st) N B C R:=by unfold Ws bE;rw[cz];exact bp h λd st1 q=>aP.mpr q
def kX{c:ai->Dm Bool}(h:Wp (c δ st) λb st1=>(b=true->Ws (f δ st1) N B C R)/\(b=false->Ws (g δ st1) N B C R)):Ws (jZ c f g δ st) N B C R:=by
 unfold Ws;rw[uo];refine bp h λb st1 q=>?_;cases b with
 |true=>rw[if_pos rfl];exact q.1 rfl
 |false=>rw[if_neg Vs];exact q.2 rfl
def Hq{i j:Nat}{fa:ai->Dm (List D)}(h:Wp (fa δ st) λas st1=>∃a b,as=[a,b]/\N ((δ.set i (some a)).set j (some b)) st1):Ws (ph i j fa δ st) N B C R:=by unfold Ws ph;rw[cz];refine bp h λas st1 q=>?_;obtain⟨a,b,rfl,q⟩:=q;exact aP.mpr q
def iO{n:Nat}{b:ai->Dm Fl}{ds:List D}(h:Ws (b (ds.map some ++ List.replicate (n-ds.length) none) st) (λ_ st1=>R .non st1) (λ_ _=>False) (λ_ _=>False) R):Wp (gW n b ds st) R:=by
 unfold gW;rw[cz];refine bp h λfl st1 q=>?_;cases fl with
 |nx δ1=>exact aP.mpr q
 |bk δ1=>exact q.elim
 |ct δ1=>exact q.elim
 |rt d=>exact aP.mpr q
def yQ{c:ai->Dm Bool}{b:ai->Dm Fl}(W:Nat->ai->Store->Prop)(m:Nat)(hm:m<fuel)(h0:W m δ st)
  (step:∀m δ st,W m δ st->Wp (c δ st) λt st1=>(t=true->Ws (b δ st1) (λδ2 st2=>∃m',m' < m/\W m' δ2 st2) N (λδ2 st2=>∃m',m' < m/\W m' δ2 st2) R)/\(t=false->N δ st1)):Ws (fX c b δ st) N B C R:=by
 have key:∀(k m:Nat) (δ:ai) (st:Store),m<k->W m δ st->Ws (cD c b k δ st) N B C R:=by
  intro k
  induction k with
  |zero=>intro m δ st h;exact absurd h (V6 _)
  |succ k ih =>
   intro m δ st hk hw;unfold Ws cD;rw[cz];refine bp (step m δ st hw) λt st1 q=>?_;cases t with
   |false=>rw[if_neg Vs];exact aP.mpr (q.2 rfl)
   |true =>
    rw[if_pos rfl,cz];refine bp (q.1 rfl) λfl st2 q=>?_;cases fl with
    |nx δ2=>obtain⟨m',hm',w⟩:=q;exact ih m' δ2 st2 ⋯ w
    |ct δ2=>obtain⟨m',hm',w⟩:=q;exact ih m' δ2 st2 ⋯ w
    |bk δ2=>exact aP.mpr q
    |rt d=>exact aP.mpr q
 exact key fuel m δ st hm h0
def pj{fi:ai->Dm Src}{t:D->ai->Dm ai}{b:ai->Dm Fl}(ds:List D)(Pv:Nat->ai->Store->Prop)(hi:Wp (fi δ st) λS st1=>S=.fix ds/\Pv 0 δ st1)(hl:ds.length<100000)
  (step:∀i d δ st,ds[i]?=some d->Pv i δ st->Wp (t d δ st) λδ1 st1=>Ws (b δ1 st1) (Pv (i+1)) N (Pv (i+1)) R) (fin:∀δ st,Pv ds.length δ st->N δ st):Ws (fL fi t b δ st) N B C R:=by
 unfold Ws fL;rw[cz];refine bp hi λS jK q=>?_;obtain⟨rfl,h0⟩:=q;have key:∀(k i:Nat) (δ:ai) (st:Store),i<=ds.length->ds.length-i<k->Pv i δ st->Ws (fw (.fix ds) t b k i δ st) N B C R:=by
  intro k
  induction k with
  |zero=>intro i δ st _ h;exact absurd h (V6 _)
  |succ k ih =>
   intro i δ st hi hk hw;unfold Ws fw;have e:Src.at (.fix ds) i st=some ds[i]?:=by show(if i<=ds.length then some ds[i]? else none)=_;rw[if_pos hi]
   rw[e];cases hd:ds[i]? with
   |none =>
    have:=V8.mp hd;have e:i=ds.length:=by lk
    exact aP.mpr (fin δ st (e ▸ hw))
   |some d =>
    have hlt:=(Vm.mp hd).1;show Wp (bnd _ _) _;rw[cz];refine bp (step i d δ st hd hw) λδ1 st1 q=>?_;rw[cz];refine bp q λfl st2 q=>?_;cases fl with
    |nx δ2=>exact ih (i+1) δ2 st2 ⋯ ⋯ q
    |ct δ2=>exact ih (i+1) δ2 st2 ⋯ ⋯ q
    |bk δ2=>exact aP.mpr q
    |rt d=>exact aP.mpr q
 exact key fuel 0 δ jK (VX _) (W5 ⋯ (show 100000<fuel by decide)) h0
def Lf{fi:ai->Dm Src}{t:D->ai->Dm ai}{b:ai->Dm Fl}(ds:List D)(r:Nat)(Pv:Nat->ai->Store->Prop)(hi:Wp (fi δ st) λS st1=>S=.live r/\Pv 0 δ st1)(hl:ds.length<100000)(hk:∀i δ st,Pv i δ st->items st r=some ds)
  (step:∀i d δ st,ds[i]?=some d->Pv i δ st->Wp (t d δ st) λδ1 st1=>Ws (b δ1 st1) (Pv (i+1)) N (Pv (i+1)) R) (fin:∀δ st,Pv ds.length δ st->N δ st):Ws (fL fi t b δ st) N B C R:=by
 unfold Ws fL;rw[cz];refine bp hi λS jK q=>?_;obtain⟨rfl,h0⟩:=q;have key:∀(k i:Nat) (δ:ai) (st:Store),i<=ds.length->ds.length-i<k->Pv i δ st->Ws (fw (.live r) t b k i δ st) N B C R:=by
  intro k
  induction k with
  |zero=>intro i δ st _ h;exact absurd h (V6 _)
  |succ k ih =>
   intro i δ st hi hk' hw;unfold Ws fw;have e:Src.at (.live r) i st=some ds[i]?:=by show(items st r).map _=_;rw[hk i δ st hw];rfl
   rw[e];cases hd:ds[i]? with
   |none =>
    have:=V8.mp hd;have e:i=ds.length:=by lk
    exact aP.mpr (fin δ st (e ▸ hw))
   |some d =>
    have hlt:=(Vm.mp hd).1;show Wp (bnd _ _) _;rw[cz];refine bp (step i d δ st hd hw) λδ1 st1 q=>?_;rw[cz];refine bp q λfl st2 q=>?_;cases fl with
    |nx δ2=>exact ih (i+1) δ2 st2 ⋯ ⋯ q
    |ct δ2=>exact ih (i+1) δ2 st2 ⋯ ⋯ q
    |bk δ2=>exact aP.mpr q
    |rt d=>exact aP.mpr q
 exact key fuel 0 δ jK (VX _) (W5 ⋯ (show 100000<fuel by decide)) h0
def D1{fi:ai->Dm Src}{n:Nat}{js:List Nat}{t:D->ai->Dm ai}{c:ai->Dm Bool}{f:ai->Dm D}{Q:D->Store->Prop}(ds:List D)(Pv:Nat->List D->ai->Store->Prop)
  (hi:Wp (fi δ st) λS st1=>(∀i ys δ st,i<=ds.length->Pv i ys δ st->S.at i st=some ds[i]?)/\Pv 0 [] (mW n js δ) st1) (hl:ds.length<100000) (hy:∀i ys δ st,Pv i ys δ st->ys.length<=i)
  (step:∀i d ys δ st,ds[i]?=some d->Pv i ys δ st->Wp (t d δ st) λδ1 st1=>Wp (c δ1 st1) λb st2=>(b=true->Wp (f δ1 st2) λy st3=>Pv (i+1) (ys ++ [y]) δ1 st3)/\(b=false->Pv (i+1) ys δ1 st2))
  (fin:∀ys δ st,Pv ds.length ys δ st->Q (.ref st.length) (st ++ [.lst ys])):Wp (cw fi n js t c f δ st) Q:=by
 unfold cw;rw[cz];refine bp hi λS jK q=>?_;obtain⟨hS,h0⟩:=q;have key:∀(k i:Nat) (ys:List D) (δ:ai) (st:Store),i<=ds.length->ds.length-i<k->Pv i ys δ st->Wp (fY S t c f k i ys δ st) λzs mE=>∃δ9,Pv ds.length zs δ9 mE:=by
  intro k
  induction k with
  |zero=>intro i ys δ st _ h;exact absurd h (V6 _)
  |succ k ih =>
   intro i ys δ st hi hk' hw;unfold fY;have hlim:lim ys.length=true:=Nat.ble_eq_true_of_le (by have:=hy i ys δ st hw;lk);rw[if_pos hlim,hS i ys δ st hi hw];cases hd:ds[i]? with
   |none =>
    have:=V8.mp hd;have e:i=ds.length:=by lk
    exact aP.mpr ⟨δ,e ▸ hw⟩
   |some d =>
    have hlt:=(Vm.mp hd).1;show Wp (bnd _ _) _;rw[cz];refine bp (step i d ys δ st hd hw) λδ1 st1 q=>?_;rw[cz];refine bp q λb st2 q=>?_;cases b with
    |true =>
     rw[if_pos rfl,cz];exact bp (q.1 rfl) λy st3 q=>ih (i+1) _ δ1 st3 ⋯ ⋯ q
    |false =>
     rw[if_neg Vs];exact ih (i+1) ys δ1 st2 ⋯ ⋯ (q.2 rfl)
 rw[cz];exact bp (key fuel 0 [] _ jK (VX _) (W5 ⋯ (show 100000<fuel by decide)) h0) λzs mE ⟨δ9,q⟩=>aP.mpr (fin zs δ9 mE q)
end
abbrev keyOf:D->Option Key
 |.int i=>some (.inl i)
 |.str x=>some (.inr x)
 |_=>none
abbrev g7(st:Store):D->Option (List (Key×D))
 |.ref i=>match st[i]? with
  |some (.dct kvs)=>some kvs
  |_=>none
 |_=>none
abbrev cN(kvs:List (Key×D))(k:Key):Option D:=(kvs.find? λkv=>decide (kv.1=k)).map (·.2)
abbrev putD(kvs:List (Key×D))(k:Key)(v:D):List (Key×D) :=
 if(kvs.any λkv=>decide (kv.1=k))=true then kvs.map (λkv=>if kv.1=k then(kv.1,v)else kv)else kvs ++ [(k,v)]
section
variable {K:Zfr}{ρ:List Addr}{H:Hp}{st:Store}
def yn{x:V}{y:D}{k:Key}(r:Rp K ρ H x y)(h:keyOf y=some k):x=kV k:=by cases r<;>first|(cases h;rfl)|cases h
def Lg{x:V}{a:D}{kvs:List (Key×D)}(l:Rl K ρ H st)(r:Rp K ρ H x a)(h:g7 st a=some kvs):∃p i ws,x=.ref p/\a=.ref i/\ρ[i]?=some p/\st[i]?=some (.dct kvs)/\H p=some (.dK ws)/\Rk K ρ H ws kvs:=by
 cases r<;>first|(cases h;done)|skip
 next hi =>
  simp only[g7]at h;split at h
  ·next kvs' hs =>
   cases h;obtain⟨ws,e,r⟩:=l.obj _ _ _ hi hs;exact⟨_,_,ws,rfl,rfl,hi,hs,e,r⟩
  ·cases h
def Rk.val{ws:List (Key×V)}{kvs:List (Key×D)}(r:Rk K ρ H ws kvs)(k:Key):(∀d,cN kvs k=some d->∃v,iT ws k=some v/\Rp K ρ H v d)/\(iT ws k).isSome=(cN kvs k).isSome:=by
 induction r with
 |nil=>exact⟨λd h=>(by cases h),rfl⟩
 |@cons p q ps qs h t ih =>
  obtain⟨h1,h2⟩:=h;unfold cN iT at ih ⊢;rw[Wt,Wt];by_cases e:p.1=k;rw[decide_eq_true e,decide_eq_true (h1 ▸ e)];exact⟨λd hd=>by cases hd;exact⟨_,rfl,h2⟩,rfl⟩;rw[decide_eq_false e,decide_eq_false (h1 ▸ e)];exact ih
def Rk.app{ws Lh:List (Key×V)}{kvs kvs':List (Key×D)}(r:Rk K ρ H ws kvs)(r':Rk K ρ H Lh kvs'):Rk K ρ H (ws ++ Lh) (kvs ++ kvs'):=by
 induction r with
 |nil=>exact r'
 |cons h _ ih=>exact .cons h ih
def Rk.put{ws:List (Key×V)}{kvs:List (Key×D)}{v:V}{d:D}(r:Rk K ρ H ws kvs)(k:Key)(rv:Rp K ρ H v d):Rk K ρ H (putK ws k v) (putD kvs k d):=by
 have hany:(ws.any λkv=>decide (kv.1=k))=(kvs.any λkv=>decide (kv.1=k)):=by
  induction r with
  |nil=>rfl
  |cons h _ ih=>rw[Wo,Wo,ih,h.1]
 have hmap:Rk K ρ H (ws.map λkv=>if kv.1=k then(kv.1,v)else kv) (kvs.map λkv=>if kv.1=k then(kv.1,d)else kv):=by
  clear hany
  induction r with
  |nil=>exact .nil
  |@cons p q ps qs h _ ih =>
   refine .cons ?_ ih;dsimp only;by_cases e:p.1=k;rw[if_pos e,if_pos (h.1 ▸ e)];exact⟨h.1,rv⟩;rw[if_neg e,if_neg (h.1 ▸ e)];exact h
 unfold putK putD;rw[hany];split;exact hmap;exact r.app (.cons ⟨rfl,rv⟩ .nil)
def Rk.length{ws:List (Key×V)}{kvs:List (Key×D)}(r:Rk K ρ H ws kvs):ws.length=kvs.length:=by
 induction r with
 |nil=>rfl
 |cons _ _ ih=>rw[VU,VU,ih]
end
section
variable {K:Zfr}
abbrev qN:ai->Dm D:=λ_ st=>some (.ref st.length,st ++ [.dct []])
def Q7:fE K pZ qN:=by intro ρ σ H δ st b st' Q l rs e q;cases e;exactλp hp=>q _ _ _ (Mn.new hp) (l.newD hp .nil) (.ref (newR l))
abbrev uq(fd fy:ai->Dm D):ai->Dm D:=λδ st=>bnd (fd δ st) λx st1=>bnd (fy δ st1) λy st2=>match g7 st2 x,keyOf y with
 |some kvs,some k=>match cN kvs k with
  |some v=>some (v,st2)
  |none=>none
 |_,_=>none
abbrev sr(neg:Bool)(fy fd:ai->Dm D):ai->Dm D:=λδ st=>bnd (fy δ st) λy st1=>bnd (fd δ st1) λx st2=>match g7 st2 x,keyOf y with
 |some kvs,some k=>some (.bl (if neg then !(cN kvs k).isSome else(cN kvs k).isSome),st2)
 |_,_=>none
def Q8{td ty:TE}{fd fy:ai->Dm D}(hy:fE K ty fy)(hd:fE K td fd):fE K (ou ty td) (sr true fy fd):=by
 intro ρ σ H δ st b st' Q l rs e q;obtain⟨y,st1,e1,e⟩:=cy e;obtain⟨x,st2,e2,e⟩:=cy e;refine hy ρ σ H δ st y st1 _ l rs e1 λvy H1 ρ1 m1 l1 r1=>hd ρ1 σ H1 δ st1 x st2 _ l1 (rs.mn m1) e2 λvx H2 ρ2 m2 l2 r2=>?_;split at e
 ·next kvs k hx hk =>
  cases e;obtain⟨p,i,ws,rfl,rfl,hi,hs,hp,rk⟩:=Lg l2 r2 hx;refine⟨p,iT ws k,rfl,by rw[yn r1 hk];exact pX.k hp,q _ H2 ρ2 (m1.trans m2) l2 ?_⟩;rw[(rk.val k).2];exact .bl _
 ·cases e
abbrev oR(fd fy fv:ai->Dm D):ai->Dm Fl:=λδ st=>bnd (fv δ st) λv st1=>bnd (fd δ st1) λx st2=>bnd (fy δ st2) λy st3=>match x,g7 st3 x,keyOf y with
 |.ref i,some kvs,some k=>if lim kvs.length=true then some (.nx δ,st3.set i (.dct (putD kvs k v)))else none
 |_,_,_=>none
def Q9{td ty tv:TE}{fd fy fv:ai->Dm D}(hd:fE K td fd)(hy:fE K ty fy)(hv:fE K tv fv):lB K (tD td ty tv) (oR fd fy fv):=by
 intro ρ σ H δ st fl st' E l rs e q;obtain⟨v,st1,e1,e⟩:=cy e;obtain⟨x,st2,e2,e⟩:=cy e;obtain⟨y,st3,e3,e⟩:=cy e;refine hv ρ σ H δ st v st1 _ l rs e1 λvv H1 ρ1 m1 l1 r1=>hd ρ1 σ H1 δ st1 x st2 _ l1 (rs.mn m1) e2 λvx H2 ρ2 m2 l2 r2=>hy ρ2 σ H2 δ st2 y st3 _ l2 (rs.mn (m1.trans m2)) e3 λvy H3 ρ3 m3 l3 r3=>?_;obtain⟨i,rfl⟩:∃i,x=.ref i:=by
  cases x<;>first|exact⟨_,rfl⟩|(simp at e;done)|cases e
 cases hx:g7 st3 (.ref i)with
 |none=>rw[hx]at e;cases e
 |some kvs =>
 cases hk:keyOf y with
 |none=>rw[hx,hk]at e;cases e
 |some k =>
  rw[hx,hk]at e;simp only at e;split at e
  ·next hl =>
   cases e;obtain⟨p,j,ws,rfl,ej,hi,hs,hp,rk⟩:=Lg l3 (r2.mn m3) hx;cases ej;obtain⟨l4,m4⟩:=l3.wu hi hs (rk.put k (r1.mn (m2.trans m3)));have mm:=((m1.trans m2).trans m3).trans m4;refine⟨p,_,rfl,?_,q σ _ ρ3 mm l4 (rs.mn mm)⟩;rw[yn r3 hk];exact pY.k hp (by rw[rk.length];exact G6 hl)
  ·cases e
abbrev Ba:ai->Dm (List (D×D)):=λ_ st=>some ([],st)
abbrev qO(fk fv:ai->Dm D)(fr:ai->Dm (List (D×D))):ai->Dm (List (D×D)):=λδ st=>bnd (fk δ st) λk st1=>bnd (fv δ st1) λv st2=>bnd (fr δ st2) λr st3=>some ((k,v) :: r,st3)
abbrev keysOf:List (D×D)->Option (List (Key×D))
 |[]=>some []
 |(k,v) :: r=>match keyOf k,keysOf r with
  |some k',some r'=>some ((k',v) :: r')
  |_,_=>none
abbrev qP(kvs more:List (Key×D)):List (Key×D):=more.foldl (λacc kv=>putD acc kv.1 kv.2) kvs
abbrev ur(fp:ai->Dm (List (D×D))):ai->Dm D:=λδ st=>bnd (fp δ (st ++ [.dct []])) λps st2=>match st2[st.length]?,keysOf ps with
 |some (.dct []),some kvs=>if kvs.length<=15 then some (.ref st.length,st2.set st.length (.dct (qP [] kvs)))else none
 |_,_=>none
end
section
variable {st:Store}{δ:ai}{Q:D->Store->Prop}
def Ra:Wp (qN δ st) Q↔Q (.ref st.length) (st ++ [.dct []]):=aP
def Rb{fd fy:ai->Dm D}:Wp (uq fd fy δ st) Q↔Wp (fd δ st) λx st1=>Wp (fy δ st1) λy st2=>∃kvs k v,g7 st2 x=some kvs/\keyOf y=some k/\cN kvs k=some v/\Q v st2:=by
 unfold uq;rw[cz];simp only[cz];constructor<;>refineλh=>bp h λx s h=>bp h λy s2 h=>?_
 ·split at h
  ·next kvs k h1 h2 =>
   split at h
   ·next v h3=>exact⟨kvs,k,v,by assumption,by assumption,h3,aP.mp h⟩
   ·exact(eU.mp h).elim
  ·exact(eU.mp h).elim
 ·obtain⟨kvs,k,v,h1,h2,h3,h⟩:=h
  rw[h1,h2];simp only[h3];exact aP.mpr h
def xk{neg:Bool}{fd fy:ai->Dm D}:Wp (sr neg fy fd δ st) Q↔Wp (fy δ st) λy st1=>Wp (fd δ st1) λx st2=>∃kvs k,g7 st2 x=some kvs/\keyOf y=some k/\Q (.bl (if neg then !(cN kvs k).isSome else(cN kvs k).isSome)) st2:=by
 unfold sr;rw[cz];simp only[cz];constructor<;>refineλh=>bp h λx s h=>bp h λy s2 h=>?_
 ·split at h
  ·next kvs k h1 h2=>exact⟨kvs,k,by assumption,by assumption,aP.mp h⟩
  ·exact(eU.mp h).elim
 ·obtain⟨kvs,k,h1,h2,h⟩:=h
  rw[h1,h2];exact aP.mpr h
def Rc{R:List (D×D)->Store->Prop}:Wp (Ba δ st) R↔R [] st:=aP
def Rf{fk fv:ai->Dm D}{fr:ai->Dm (List (D×D))}{R:List (D×D)->Store->Prop}:Wp (qO fk fv fr δ st) R↔Wp (fk δ st) λk st1=>Wp (fv δ st1) λv st2=>Wp (fr δ st2) λr st3=>R ((k,v) :: r) st3:=by unfold qO;rw[cz];simp only[cz,aP]
def Rg{fp:ai->Dm (List (D×D))}:Wp (ur fp δ st) Q↔Wp (fp δ (st ++ [.dct []])) λps st2=>st2[st.length]?=some (.dct [])/\∃kvs,keysOf ps=some kvs/\kvs.length<=15/\Q (.ref st.length) (st2.set st.length (.dct (qP [] kvs))):=by
 unfold ur;rw[cz];constructor<;>refineλh=>bp h λps s h=>?_
 ·split at h
  ·next kvs h1 h2 =>
   rw[lZ,aP,eU]at h;split at h
   ·next hl=>exact⟨by assumption,kvs,by assumption,hl,h⟩
   ·exact h.elim
  ·exact(eU.mp h).elim
 ·obtain⟨h1,kvs,h2,h3,h⟩:=h
  rw[h1,h2];simp only[if_pos h3];exact aP.mpr h
def Rh{fd fy fv:ai->Dm D}{N B C:ai->Store->Prop}{R:D->Store->Prop}(h:Wp (fv δ st) λv st1=>Wp (fd δ st1) λx st2=>Wp (fy δ st2) λy st3=>∃i kvs k,x=.ref i/\g7 st3 x=some kvs/\keyOf y=some k/\lim kvs.length=true/\N δ (st3.set i (.dct (putD kvs k v)))):Ws (oR fd fy fv δ st) N B C R:=by unfold Ws oR;rw[cz];refine bp h λv st1 h=>?_;rw[cz];refine bp h λx st2 h=>?_;rw[cz];refine bp h λy st3 h=>?_;obtain⟨i,kvs,k,rfl,h1,h2,h3,h⟩:=h;rw[h1,h2];simp only[h3];exact aP.mpr h
end
structure Ex(c:List Nat)(st st':Store):Prop where
 len:st.length<=st'.length
 keep:∀(i:Nat) (o:O),st[i]?=some o->i ∉ c->st'[i]?=some o
section
variable {c c':List Nat}{st st1 st2:Store}{i:Nat}{o:O}{ds:List D}
def Ex.refl:Ex c st st:=⟨Vp _,λ_ _ h _=>h⟩
def Ex.trans(a:Ex c st st1)(b:Ex c st1 st2):Ex c st st2:=⟨VH a.len b.len,λi o h n=>b.keep i o (a.keep i o h n) n⟩
def Ex.mono(a:Ex c st st1)(h:∀x∈c,x∈c'):Ex c' st st1:=⟨a.len,λi o e n=>a.keep i o e λz=>n (h i z)⟩
def Ex.any(a:Ex [] st st1):Ex c st st1:=a.mono λx h=>nomatch h
def fN{α:Type}{l:List α}{i:Nat}{o:α}(h:l[i]?=some o):i<l.length:=(Vm.mp h).1
def jq{l m:List O}(h:l[i]?=some o):(l ++ m)[i]?=some o:=by rw[VC (fN h)];exact h
def iP{l:List O}:(l ++ [o])[l.length]?=some o:=by rw[VM (Vp _),WK];rfl
def Ex.app(a:Ex c st st1)(m:List O):Ex c st (st1 ++ m):=⟨by rw[Vq];exact VH a.len (Nat.le_add_right _ _),λi o h n=>jq (a.keep i o h n)⟩
def Ex.b6(m:List O):Ex c st (st ++ m):=Ex.refl.app m
def Ex.put(a:Ex c st st1)(h:i∈c):Ex c st (st1.set i o):=⟨by rw[Wj];exact a.len,λj u e n=>by rw[VI (λz=>n (by rw[<- z];exact h))];exact a.keep j u e n⟩
def Ex.loc(a:Ex c st st1)(h:st.length<=i):Ex c st (st1.set i o):=⟨by rw[Wj];exact a.len,λj u e n=>by rw[VI (by have:=fN e;lk)];exact a.keep j u e n⟩
def cu(h:st[i]?=some (.lst ds)):items st i=some ds:=by unfold items;rw[h]
def Ri(h:st[i]?=some (.nW ds)):items st i=some ds:=by unfold items;rw[h]
def j6(h:st[i]?=some (.lst ds)):own st i=some ds:=by unfold own;rw[h]
def pE:items (st ++ [.lst ds]) st.length=some ds:=cu iP
def Li:own (st ++ [.lst ds]) st.length=some ds:=j6 iP
def Rj{o':O}:items (st ++ [.lst ds] ++ [o']) st.length=some ds:=cu (jq iP)
def Rm{o':O}:own (st ++ [.lst ds] ++ [o']) st.length=some ds:=j6 (jq iP)
def Rn{o' o2:O}:items (st ++ [.lst ds] ++ [o'] ++ [o2]) st.length=some ds:=cu (jq (jq iP))
def Ro{o' o2:O}:own (st ++ [.lst ds] ++ [o'] ++ [o2]) st.length=some ds:=j6 (jq (jq iP))
def Rq{lo hi:Int}:gJ (st ++ [.gI lo hi]) (.ref st.length)=some (lo,hi):=by simp only[gJ,iP]
def Lj:bh st (.tup ds)=some ds:=rfl
def Rr:bh st (.ref i)=items st i:=rfl
def pk(h:(items st i).isSome=true):uj "list" st (.ref i)=true:=by simp only[uj,h];rfl
def Rt:uj "tuple" st (.tup ds)=true:=by simp only[uj];rfl
def jC{n:Nat}(h:n<=100000):lim n=true:=Nat.ble_eq_true_of_le h
end
section
variable {st:Store}{Q:D->Store->Prop}{i j:Int}{k:Nat}{ds es:List D}
def Rv{a:D}:Wp (dr [a] st) Q↔∃p,gJ st a=some p/\pe p.1 p.2=true/\Q (.ref st.length) (st ++ [.lst (ay p.1 (p.2-p.1).toNat)]):=by
 show Wp (match gJ st a with|some (lo,hi)=>if pe lo hi=true then some (D.ref st.length,st ++ [O.lst (ay lo (hi-lo).toNat)])else none|none=>none) Q↔_;cases gJ st a with
 |none=>rw[eU];exact⟨False.elim,λ⟨_,e,_⟩=>by cases e⟩
 |some p =>
  obtain⟨lo,hi⟩:=p;show Wp (if pe lo hi=true then some (D.ref st.length,st ++ [O.lst (ay lo (hi-lo).toNat)])else none) Q↔_;rw[lZ,aP,eU];split
  ·next h=>exact⟨λq=>⟨_,rfl,h,q⟩,λ⟨_,e,_,q⟩=>by cases e;exact q⟩
  ·next h=>exact⟨False.elim,λ⟨_,e,q,_⟩=>by cases e;exact h q⟩
def Rw{a:D}:Wp (sf [a] st) Q↔∃p,gJ st a=some p/\pe p.1 p.2=true/\Q (.tup (ay p.1 (p.2-p.1).toNat)) st:=by
 show Wp (match gJ st a with|some (lo,hi)=>if pe lo hi=true then some (D.tup (ay lo (hi-lo).toNat),st)else none|none=>none) Q↔_;cases gJ st a with
 |none=>rw[eU];exact⟨False.elim,λ⟨_,e,_⟩=>by cases e⟩
 |some p =>
  obtain⟨lo,hi⟩:=p;show Wp (if pe lo hi=true then some (D.tup (ay lo (hi-lo).toNat),st)else none) Q↔_;rw[lZ,aP,eU];split
  ·next h=>exact⟨λq=>⟨_,rfl,h,q⟩,λ⟨_,e,_,q⟩=>by cases e;exact q⟩
  ·next h=>exact⟨False.elim,λ⟨_,e,q,_⟩=>by cases e;exact h q⟩
def xl:Wp (qF (.ref k) (.int j) st) Q↔∃xs,own st k=some xs/\(-9223372036854775808<=j/\j<9223372036854775808)/\lim (xs.length*j.toNat)=true/\Q (.ref st.length) (st ++ [.lst (List.replicate j.toNat xs).flatten]):=by
 show Wp (match own st k with|some a=>if(decide (-9223372036854775808<=j/\j<9223372036854775808) && lim (a.length*j.toNat))=true then some (D.ref st.length,st ++ [O.lst (List.replicate j.toNat a).flatten])else none|_=>none) Q↔_;cases own st k with
 |none=>simp only[eU];exact⟨False.elim,λ⟨_,e,_⟩=>by cases e⟩
 |some xs =>
  show Wp (if(decide (-9223372036854775808<=j/\j<9223372036854775808) && lim (xs.length*j.toNat))=true then some (D.ref st.length,st ++ [O.lst (List.replicate j.toNat xs).flatten])else none) Q↔_;rw[lZ,aP,eU];split
  ·next h=>rw[VG,decide_eq_true_eq]at h;exact⟨λq=>⟨_,rfl,h.1,h.2,q⟩,λ⟨_,e,_,_,q⟩=>by cases e;exact q⟩
  ·next h=>rw[VG,decide_eq_true_eq]at h;exact⟨False.elim,λ⟨_,e,q,q',_⟩=>by cases e;exact h ⟨q,q'⟩⟩
def Rx:Wp (jJ (.ref k) [.int i] st) Q↔∃xs j y,own st k=some xs/\(-9223372036854775808<=i/\i<9223372036854775808)/\seqIndex? i xs.length=some j/\xs[j]?=some y/\Q y (st.set k (.lst (xs.eraseIdx j))):=by
 constructor
 ·rintro⟨a,s,e,q⟩
  simp only[jJ]at e;split at e
  ·next xs hx =>
   split at e
   ·next hk =>
    split at e
    ·next j hj =>
     split at e
     ·next y hy=>cases e;exact⟨xs,j,_,hx,of_decide_eq_true hk,hj,hy,q⟩
     ·cases e
    ·cases e
   ·cases e
  ·cases e
 ·rintro⟨xs,j,y,hx,hk,hj,hy,q⟩
  refine⟨_,_,?_,q⟩;simp only[jJ,hx,hj,hy,decide_eq_true hk];rfl
def Ry{b:Nat}:Wp (fW (.ref k) [.ref b] st) Q↔∃xs ys,own st k=some xs/\own st b=some ys/\lim (xs.length+ys.length)=true/\Q .non (st.set k (.lst (xs ++ ys))):=by
 constructor
 ·rintro⟨a,s,e,q⟩
  simp only[fW]at e;split at e
  ·next xs ys hx hy =>
   split at e
   ·next hl=>cases e;exact⟨xs,ys,hx,hy,hl,q⟩
   ·cases e
  ·cases e
 ·rintro⟨xs,ys,hx,hy,hl,q⟩
  refine⟨_,_,?_,q⟩;simp only[fW,hx,hy,hl];rfl
def Lk{v:Int}:Wp (iZ (.tup ds) [.int v] st) Q↔∃ns j,bw iV ds=some ns/\ns.findIdx? (λi=>decide (i=v))=some j/\Q (.int (j:Int)) st:=by
 constructor
 ·rintro⟨a,s,e,q⟩
  simp only[iZ]at e;split at e
  ·next ns hn =>
   split at e
   ·next j hj=>cases e;exact⟨ns,j,hn,hj,q⟩
   ·cases e
  ·cases e
 ·rintro⟨ns,j,hn,hj,q⟩
  refine⟨_,_,?_,q⟩;simp only[iZ,hn,hj]
def xm:Wp (wI [.ref k] st) Q↔∃ds bs,items st k=some ds/\bw bV ds=some bs/\Q (.bl (bs.all id)) st:=by
 constructor
 ·rintro⟨a,s,e,q⟩
  simp only[wI]at e;split at e
  ·next bs hb =>
   cases e;obtain⟨ds,h1,h2⟩:=Wd.mp hb;exact⟨ds,bs,h1,h2,q⟩
  ·cases e
 ·rintro⟨ds,bs,h1,h2,q⟩
  refine⟨_,_,?_,q⟩;simp only[wI,h1,WJ,h2]
def Bb{neg:Bool}{a c:D}:Wp (pd neg a c st) Q↔∃x ds vs,sV a=some x/\bh st c=some ds/\bw sV ds=some vs/\Q (.bl (if neg then !tj x vs else tj x vs)) st:=by
 constructor
 ·rintro⟨b,s,e,q⟩
  simp only[pd]at e;split at e
  ·next x vs h1 h2 =>
   cases e;obtain⟨ds,h3,h4⟩:=Wd.mp h2;exact⟨x,ds,vs,h1,h3,h4,q⟩
  ·cases e
 ·rintro⟨x,ds,vs,h1,h2,h3,q⟩
  refine⟨_,_,?_,q⟩;simp only[pd,h1,h2,WJ,h3]
def Ll(ns:List Int):bw sV (ns.map D.int)=some (ns.map V.int):=yG (f:=sV) (g:=D.int) (k:=V.int) (λ_=>rfl) ns
def Hr(ns:List Int):bw iV (ns.map D.int)=some ns:=by have:=yG (f:=iV) (g:=D.int) (k:=id) (λ_=>rfl) ns;rw[this,Xc]
def xn{neg:Bool}{a b:D}:Wp (mV neg a b st) Q↔∃p q,eP st 20 a=some p/\eP st 20 b=some q/\(PyData.canLay0 p=true/\PyData.canLay0 q=true/\min p.depth q.depth<=60)/\Q (.bl (if neg then !PyData.eqv p q else PyData.eqv p q)) st:=by
 constructor
 ·rintro⟨c,s,e,q⟩
  simp only[mV]at e;split at e
  ·next x y h1 h2 =>
   split at e
   ·next hs =>
    cases e;rw[VG,VG,decide_eq_true_eq]at hs;exact⟨x,y,h1,h2,⟨hs.1.1,hs.1.2,hs.2⟩,q⟩
   ·cases e
  ·cases e
 ·rintro⟨x,y,h1,h2,⟨h3,h4,h5⟩,q⟩
  refine⟨_,_,?_,q⟩;simp only[mV,h1,h2,h3,h4,decide_eq_true h5];rfl
def Rz{a:D}:Wp (iN [a] st) Q↔∃p,eP st 20 a=some p/\(p.showable=true/\p.canLay0=true/\p.shown.length<=sizeLine/\p.depth<=60)/\Q (.str p.shown) st:=by
 constructor
 ·rintro⟨c,s,e,q⟩
  simp only[iN]at e;split at e
  ·next p h1 =>
   split at e
   ·next hs =>
    cases e;rw[VG,VG,VG,decide_eq_true_eq,decide_eq_true_eq]at hs;exact⟨p,h1,⟨hs.1.1.1,hs.1.1.2,hs.1.2,hs.2⟩,q⟩
   ·cases e
  ·cases e
 ·rintro⟨p,h1,⟨h3,h4,h5,h6⟩,q⟩
  refine⟨_,_,?_,q⟩;simp only[iN,h1,h3,h4,decide_eq_true h5,decide_eq_true h6];rfl
def xo{z:Str}:Wp (wB (.str z) (.int i) st) Q↔∃c,lim z.length=true/\fG z.cps.toList i=some c/\Q (.str ⟨#[c]⟩) st:=by
 constructor
 ·rintro⟨c,s,e,q⟩
  simp only[wB]at e;split at e
  ·next h1 =>
   split at e
   ·next c hc=>cases e;exact⟨c,h1,hc,q⟩
   ·cases e
  ·cases e
 ·rintro⟨c,h1,h2,q⟩
  refine⟨_,_,?_,q⟩;simp only[wB,h1,h2];rfl
def RA{δ:ai}{fa:ai->Dm (List D)}{R:Src->Store->Prop}:Wp (cq fa δ st) R↔Wp (fa δ st) λas st1=>∃j,as=[.int j]/\(-4611686018427387904<=j/\j<4611686018427387904)/\R (.fix (ay 0 j.toNat)) st1:=by
 unfold cq;rw[cz];constructor<;>refineλh=>bp h λas s h=>?_
 ·split at h
  ·next j =>
   rw[lZ,aP,eU]at h;split at h
   ·next hk=>exact⟨j,rfl,of_decide_eq_true hk,h⟩
   ·exact h.elim
  ·exact(eU.mp h).elim
 ·obtain⟨j,rfl,h1,h⟩:=h
  simp only[decide_eq_true h1,if_true];exact aP.mpr h
def RB{δ:ai}{fa:ai->Dm (List D)}{R:Src->Store->Prop}:Wp (qI fa δ st) R↔Wp (fa δ st) λas st1=>∃i j,as=[.int i,.int j]/\((-4611686018427387904<=i/\i<4611686018427387904)/\-4611686018427387904<=j/\j<4611686018427387904)/\R (.fix (ay i (j-i).toNat)) st1:=by
 unfold qI;rw[cz];constructor<;>refineλh=>bp h λas s h=>?_
 ·split at h
  ·next i j =>
   rw[lZ,aP,eU]at h;split at h
   ·next hk=>exact⟨i,j,rfl,of_decide_eq_true hk,h⟩
   ·exact h.elim
  ·exact(eU.mp h).elim
 ·obtain⟨i,j,rfl,h1,h⟩:=h
  simp only[decide_eq_true h1,if_true];exact aP.mpr h
def RC{δ:ai}{fa:ai->Dm D}{R:Src->Store->Prop}:Wp (fM fa δ st) R↔Wp (fa δ st) λa st1=>∃ds,a=.tup ds/\R (.fix ds) st1:=by unfold fM;rw[cz];constructor<;>refineλh=>bp h λa s h=>?_;cases a<;>simp only[aP,eU]at h;exact⟨_,rfl,h⟩;obtain⟨j,rfl,h⟩:=h;exact aP.mpr h
def RD{δ:ai}{fa:ai->Dm D}{R:Src->Store->Prop}:Wp (i3 fa δ st) R↔Wp (fa δ st) λa st1=>∃i ds,a=.ref i/\items st1 i=some ds/\R (.live i) st1:=by
 unfold i3;rw[cz];constructor<;>refineλh=>bp h λa s h=>?_
 ·split at h
  ·split at h
   ·next i ds hd=>exact⟨_,ds,rfl,hd,aP.mp h⟩
   ·exact(eU.mp h).elim
  ·exact(eU.mp h).elim
 ·obtain⟨i,ds,rfl,hd,h⟩:=h
  simp only[hd];exact aP.mpr h
def RE{δ:ai}{fa:ai->Dm (List D)}{R:Src->Store->Prop}:Wp (kC fa δ st) R↔Wp (fa δ st) λas st1=>∃ds,as=[.tup ds]/\R (.fix (jS ds)) st1:=by unfold kC;rw[cz];constructor<;>refineλh=>bp h λas s h=>?_;split at h;exact⟨_,rfl,aP.mp h⟩;exact(eU.mp h).elim;obtain⟨ds,rfl,h⟩:=h;exact aP.mpr h
def D2{i:Nat}{d:D}{δ:ai}{R:ai->Store->Prop}:Wp (hName i d δ st) R↔R (δ.set i (some d)) st:=aP
def RF{δ:ai}{R:ai->Store->Prop}:Wp (qG [] δ st) R↔R δ st:=aP
def RG{f:D->ai->Dm ai}{g:List D->ai->Dm ai}{d:D}{ds:List D}{δ:ai}{R:ai->Store->Prop}:Wp (jR f g (d :: ds) δ st) R↔Wp (f d δ st) λδ1 st1=>Wp (g ds δ1 st1) R:=cz
def RH{n:Nat}{f:List D->ai->Dm ai}{ds:List D}{δ:ai}{R:ai->Store->Prop}:Wp (pg n f (.tup ds) δ st) R↔ds.length=n/\Wp (f ds δ st) R:=by
 show Wp (if ds.length=n then f ds δ st else none) R↔_;rw[lZ,eU];split
 ·next h=>exact⟨λq=>⟨h,q⟩,λq=>q.2⟩
 ·next h=>exact⟨False.elim,λq=>h q.1⟩
def RI{fo fi:ai->Dm D}{d:D}{δ:ai}{R:ai->Store->Prop}:Wp (hSub fo fi d δ st) R↔Wp (fo δ st) λo st1=>Wp (fi δ st1) λi st2=>∃r k xs j,o=.ref r/\i=.int k/\own st2 r=some xs/\kl xs.length k=some j/\R δ (st2.set r (.lst (xs.set j d))):=by
 unfold hSub;rw[cz];simp only[cz];constructor<;>refineλh=>bp h λo s h=>bp h λi s2 h=>?_
 ·split at h
  ·split at h
   ·next xs hx =>
    split at h
    ·next j hj=>exact⟨_,_,xs,j,rfl,rfl,hx,hj,aP.mp h⟩
    ·exact(eU.mp h).elim
   ·exact(eU.mp h).elim
  ·exact(eU.mp h).elim
 ·obtain⟨r,k,xs,j,rfl,rfl,hx,hj,h⟩:=h
  simp only[hx,hj];exact aP.mpr h
def RJ{a:D}{c:String}:Wp (lX [a,.ty c] st) Q↔AW st a=some c/\Q (.bl true) st:=by
 constructor
 ·rintro⟨b,s,e,q⟩
  simp only[lX]at e;split at e
  ·next T hT =>
   split at e
   ·next h=>cases e;subst h;exact⟨hT,q⟩
   ·cases e
  ·cases e
 ·rintro⟨h,q⟩
  refine⟨_,_,?_,q⟩;simp only[lX,h,if_true]
def Hs{δ:ai}{R:Bool->Store->Prop}:Wp (dY δ st) R↔R true st:=aP
end
def RK{α:Type}(x:α)(xs:List α):fG (x :: xs) 0=some x:=by unfold fG kl;rw[if_pos ∅,if_pos (by simp only[VU];lk)];rfl
def RL{α:Type}(x y:α)(xs:List α):fG (x :: y :: xs) 1=some y:=by unfold fG kl;rw[if_pos ∅,if_pos (by simp only[VU];lk)];rfl
def xq{α:Type}{a:α}{l:List α}:(a :: l)[0]?=some a:=List.getElem?_cons_zero
def xr{α:Type}{a:α}{l:List α}{i:Nat}:(a :: l)[i+1]?=l[i]?:=List.getElem?_cons_succ
def xt{α:Type}{a b:α}{l:List α}:(a :: l).set 0 b=b :: l:=List.set_cons_zero
def xu{α:Type}{a b:α}{l:List α}{i:Nat}:(a :: l).set (i+1) b=a :: l.set i b:=List.set_cons_succ
def xv{α:Type}(a b:α):(some a=some b)=(a=b):=Option.some.injEq a b
def Bc{α:Type}{p:α->Prop}{a':α}:(∃a,a'=a/\p a)↔p a':=exists_eq_left'
def Ht{α:Type}{p:α->Prop}{a':α}:(∃a,a=a'/\p a)↔p a':=exists_eq_left
def Bd{α:Type}{p:α->Prop}{b:Prop}:(∃x,b/\p x)↔b/\∃x,p x:=exists_and_left
def Be(a b:Int):(D.int a=D.int b)=(a=b):=D.int.injEq a b
def Hu(a b:Bool):(D.bl a=D.bl b)=(a=b):=D.bl.injEq a b
def Bf(a b:Str):(D.str a=D.str b)=(a=b):=D.str.injEq a b
def Bg(a b:List D):(D.tup a=D.tup b)=(a=b):=D.tup.injEq a b
def Bh(a b:Nat):(D.ref a=D.ref b)=(a=b):=D.ref.injEq a b
def xw{α:Type}(a:α)(l:List α)(b:α)(m:List α):(a :: l=b :: m)=(a=b/\l=m):=List.cons.injEq a l b m
def xx{α β:Type}(a:α)(b:β)(c:α)(d:β):((a,b)=(c,d))=(a=c/\b=d):=Prod.mk.injEq a b c d
def xy(p:Prop):(p/\True)=p:=and_true p
def xA(p:Prop):(True/\p)=p:=true_and p
def xB:(!true)=false:=rfl
def xC:(!false)=true:=rfl
def Hv:(false=true)=False:=by simp
def Bi{α:Type}{h:Decidable False}(t e:α):@ite α False h t e=e:=if_false t e
def Bj{α:Type}{h:Decidable True}(t e:α):@ite α True h t e=t:=if_true t e
abbrev bO:=And.intro @wO (And.intro @Ho (And.intro @A0 (And.intro @A1 (And.intro @A2 (And.intro @wQ (And.intro @QM (And.intro @wR (And.intro @wU (And.intro @QN (And.intro @wV (And.intro @wW (And.intro @A3 (And.intro @uo (And.intro @QO (And.intro @wX (And.intro @QP (And.intro @QQ (And.intro @QR (And.intro @A4 (And.intro @A5 (And.intro @wY (And.intro @wZ (And.intro @A6 (And.intro @A7 (And.intro @A8 (And.intro @A9 (And.intro @w4 (And.intro @w6 (And.intro @QS (And.intro @w8 (And.intro @xa (And.intro @xb (And.intro @xc (And.intro @Le (And.intro @xf (And.intro @xg (And.intro @xh (And.intro @QT (And.intro @xi (And.intro @xj (And.intro @QU (And.intro @QV (And.intro @QW (And.intro @QX (And.intro @QY (And.intro @QZ (And.intro @Q0 (And.intro @Q5 (And.intro @Q6 (And.intro @Ra (And.intro @Rb (And.intro @xk (And.intro @Rc (And.intro @Rf (And.intro @Rg (And.intro @pE (And.intro @Li (And.intro @Rj (And.intro @Rm (And.intro @Rn (And.intro @Ro (And.intro @Rq (And.intro @Lj (And.intro @Rr (And.intro @Rv (And.intro @Rw (And.intro @xl (And.intro @Rx (And.intro @Ry (And.intro @Lk (And.intro @xm (And.intro @xo (And.intro @RA (And.intro @RB (And.intro @RC (And.intro @RD (And.intro @RE (And.intro @D2 (And.intro @RF (And.intro @RG (And.intro @RH (And.intro @RI (And.intro @RJ (And.intro @Hs (And.intro @RK (And.intro @RL (And.intro @xq (And.intro @xr (And.intro @xt (And.intro @xu (And.intro @xv (And.intro @Bc (And.intro @Ht (And.intro @Bd (And.intro @Be (And.intro @Hu (And.intro @Bf (And.intro @Bg (And.intro @Bh (And.intro @xw (And.intro @xx (And.intro @xy (And.intro @xA (And.intro @xB (And.intro @xC (And.intro @Hv (And.intro @Bi (@Bj))))))))))))))))))))))))))))))))))))))))))))))))))))))))))))))))))))))))))))))))))))))))))))))))))))))))))))
def cP{α:Type}{m:Option (α×Store)}{Q:α->Store->Prop}(h:∀Q':α->Store->Prop,(∀a st,Q a st->Q' a st)->Wp m Q'):Wp m Q:=h Q λ_ _ h=>h
section
variable {st:Store}{Q:D->Store->Prop}
def RM(n:Nat)(L:List Int):bw (eP st (n+1)) (L.map D.int)=some (dz L):=yG (f:=eP st (n+1)) (g:=D.int) (k:=PyData.int) (λ_=>by simp only[eP]) L
def Lm(a b:List PyData):PyData.eqv (.list a) (.list b)=PyData.eqvAll a b:=by simp only[PyData.eqv]
def RN(a b:List PyData):PyData.eqv (.tuple a) (.tuple b)=PyData.eqvAll a b:=by simp only[PyData.eqv]
def Ln{neg:Bool}{a b:Nat}{L M:List Int}(ha:items st a=some (L.map D.int))(hb:items st b=some (M.map D.int)):Wp (mV neg (.ref a) (.ref b) st) Q↔Q (.bl (if neg then !decide (L=M)else decide (L=M))) st:=by
 have p1:∀(i:Nat) (N:List Int),items st i=some (N.map D.int)->eP st 20 (.ref i)=some (.list (dz N)):=λi N h=>by
  simp only[eP,h];rw[RM];rfl
 have dp:∀N:List Int,PyData.depth (.list (dz N))<=1:=λN=>by show PyData.depthAll (dz N)+1<=1;rw[Dk];lk
 rw[xn];constructor;rintro⟨p,q,h1,h2,_,h⟩;rw[p1 a L ha]at h1;rw[p1 b M hb]at h2;cases h1;cases h2;rw[Lm,Dl]at h;exact h;intro h;refine⟨_,_,p1 a L ha,p1 b M hb,⟨zP L,zP M,by have:=dp L;lk⟩,?_⟩;rw[Lm,Dl];exact h
abbrev RO(rs:List (List Int)):D:=.tup (rs.map λr=>.tup (r.map D.int))
end
abbrev bB(st:Store)(f:Nat):Prop:=∃o m:Int,st[f]?=some (.lst [.int o,.int m])/\0<=o/\0<=m/\m<4294967296
def Bk:kl 2 0=some 0:=by decide
def Bl:kl 2 1=some 1:=by decide
def xD(n:Nat):ay 0 n=(ae.upto n).map D.int:=by unfold ay ae.upto;rw[VT];apply Wa;intro i _;simp
def RP(L:List Int)(j:Nat):(L.map D.int).eraseIdx j=(L.eraseIdx j).map D.int:=by
 induction L generalizing j with
 |nil=>rfl
 |cons a r ih =>
  cases j with
  |zero=>rfl
  |succ j=>show D.int a :: (r.map D.int).eraseIdx j=_;rw[ih];rfl
def RQ{L:List Int}{j:Nat}(h:j<L.length):(L[j] :: L.eraseIdx j).Perm L:=by
 induction L generalizing j with
 |nil=>exact absurd h (V6 _)
 |cons a r ih =>
  cases j with
  |zero=>exact W6 _
  |succ j =>
   have:=ih (j:=j) (by simpa using h);exact(List.Perm.swap _ _ _).trans (this.cons a)
def bB.keep{st st':Store}{f:Nat}(h:bB st f)(e:Ex [] st st'):bB st' f:=by obtain⟨o,m,e1,r⟩:=h;exact⟨o,m,e.keep _ _ e1 (by simp),r⟩
def bB.ne{st:Store}{f i:Nat}{o:O}(h:bB st f)(hi:i≠f):bB (st.set i o) f:=by obtain⟨x,m,e1,r⟩:=h;exact⟨x,m,by rw[VI hi];exact e1,r⟩
def bB.lt{st:Store}{f:Nat}(h:bB st f):f<st.length:=let ⟨_,_,e,_⟩:=h;fN e
def rB{xs:List Int}{i:Int}(h0:0<=i)(h1:i<(xs.length:Int)):fG (xs.map D.int) i=some (.int (ae.app xs i)):=by
 have e:(xs.map D.int)[i.toNat]?=some (.int (ae.app xs i)):=by rw[Vr,ae.mQ h0 h1];rfl
 have:=yl e
 rwa [VY h0]at this
def D3{xs:List Int}{i:Nat}{d:D}(h:(xs.map D.int)[i]?=some d):∃x,xs[i]?=some x/\d=.int x:=by rw[Vr]at h;obtain⟨x,h1,h2⟩:=VR.mp h;exact⟨x,h1,h2.symm⟩
def Hw(x:Int):∀(ns:List Int),tj (.int x) (ns.map V.int)=ns.contains x
 |[]=>rfl
 |n :: r=>by
  have e:=Hw x r;unfold tj at e ⊢;rw[VO,Wo,e,Xg]
  congr 1
  show(n == x)=(x == n);exact Bool.beq_comm
def Bm{st:Store}{Q:D->Store->Prop}{neg:Bool}{x:Int}{c:D}{ns:List Int}(hc:bh st c=some (ns.map D.int)):Wp (pd neg (.int x) c st) Q↔Q (.bl (if neg then !ns.contains x else ns.contains x)) st:=by rw[Bb];constructor;rintro⟨v,ds,vs,h1,h2,h3,h⟩;cases h1;rw[hc]at h2;cases h2;rw[Ll]at h3;cases h3;rw[Hw]at h;exact h;intro h;refine⟨_,_,_,rfl,hc,Ll ns,?_⟩;rw[Hw];exact h
abbrev cc(xs ys:List Int):D:=.tup [.tup (xs.map D.int),.tup (ys.map D.int)]
structure l6(jK st:Store)(f r u:Nat)(n:Nat)(X Y:List Int):Prop where
 hr:st[r]?=some (.lst (X.map D.int))
 hu:st[u]?=some (.lst (Y.map D.int))
 ne:r≠u
 r0:jK.length<=r
 u0:jK.length<=u
 tX:ae.Tn n X
 tY:ae.Tn n Y
 fd:bB st f
 ex:Ex [f] jK st
section
variable {jK st st':Store}{f r u n:Nat}{X Y Z:List Int}{o:O}
def l6.keep(h:l6 jK st f r u n X Y)(e:Ex [] st st'):l6 jK st' f r u n X Y:=⟨e.keep _ _ h.hr (by simp),e.keep _ _ h.hu (by simp),h.ne,h.r0,h.u0,h.tX,h.tY,h.fd.keep e,h.ex.trans e.any⟩
def l6.xE(h:l6 jK st f r u n X Y)(t:ae.Tn n Z):l6 jK (st ++ [.lst (Z.map D.int)]) f st.length u n Z Y:=⟨iP,jq h.hu,by have:=fN h.hu;lk,h.ex.len,h.u0,t,h.tY,h.fd.keep (Ex.b6 _),h.ex.app _⟩
def l6.xF(h:l6 jK st f r u n X Y)(t:ae.Tn n Z):l6 jK (st ++ [.lst (Z.map D.int)]) f r st.length n X Z:=⟨jq h.hr,iP,by have:=fN h.hr;lk,h.r0,h.ex.len,h.tX,t,h.fd.keep (Ex.b6 _),h.ex.app _⟩
def l6.put(h:l6 jK st f r u n X Y)(t:ae.Tn n Z)(hf:f<jK.length):l6 jK (st.set r (.lst (Z.map D.int))) f r u n Z Y:=⟨VD (fN h.hr),by rw[VI h.ne];exact h.hu,h.ne,h.r0,h.u0,t,h.tY,h.fd.ne (by have:=h.r0;lk),h.ex.loc h.r0⟩
end
def Lo(n:Nat):(ae.oH n).map D.int=ay 1 ((n:Int)-1).toNat ++ [.int 0]:=by unfold ae.oH ay;rw[VL,VT,show((n:Int)-1).toNat=n-1 by lk];rfl
def uu{lo hi:Int}(h:0<=lo/\lo<=10000/\0<=hi/\hi<=10000):pe lo hi=true:=by unfold pe;rw[VG,decide_eq_true_eq];exact⟨by lk,jC ⋯⟩
def xG(w n:Nat):(ae.qw w n).map D.int=ay 1 ((w:Int)-1).toNat ++ [.int 0] ++ ay (w:Int) ((n:Int)-(w:Int)).toNat:=by unfold ae.qw ay;rw[VL,VL,VT,VT,show((w:Int)-1).toNat=w-1 by lk,show((n:Int)-(w:Int)).toNat=n-w by lk];rfl
def RS(xs:List D)(j:Nat):cutD xs none (some (j:Int))=xs.take j:=by unfold cutD;rw[HT.M8,HT.M9,XB,Nat.sub_zero,List.take_eq_take_iff];lk
def xH{w n:Nat}(h0:0<w)(h:w<n):(ae.rW w n).map D.int=cutD ([D.int (w:Int)] ++ ay 1 ((w:Int)-1).toNat ++ ay ((w:Int)+1) ((n:Int)-((w:Int)+1)).toNat ++ [.int 0]) none (some (n:Int)):=by rw[RS,List.take_of_length_le (by simp[ib];lk)];unfold ae.rW ay;rw[VL,VL,VL,VT,VT,show((w:Int)-1).toNat=w-1 by lk,show((n:Int)-((w:Int)+1)).toNat=n-(w+1) by lk];rfl
abbrev nZ(n:Nat)(xs ys:List Int):Prop:=ae.Tn n xs/\ae.Tn n ys/\∀x:Int,0<=x->x<(n:Int)->ae.gS xs ys x
def Lp{xs:List Int}{v:Int}(h:v∈xs):xs.findIdx? (λi=>decide (i=v))=some (xs.idxOf v):=by
 induction xs with
 |nil=>exact nomatch h
 |cons a r ih =>
  rw[List.findIdx?_cons];by_cases e:a=v;subst e;simp;have hm:v∈r:=by
   rcases VJ.mp h with h|h
   exact absurd h.symm e;exact h
  rw[decide_eq_false e,ih hm,List.idxOf_cons,show(a == v)=false by simpa using e];rfl
abbrev lD(S:Src)(ds:List D)(st:Store):Prop:=∀(i:Nat) (st2:Store),i<=ds.length->Ex [] st st2->S.at i st2=some ds[i]?
def Lq{st st':Store}{r:Nat}{ds:List D}(h:items st r=some ds)(e:Ex [] st st'):items st' r=some ds:=by
 unfold items at h ⊢;cases hx:st[r]? with
 |none=>rw[hx]at h;cases h
 |some o=>rw[e.keep _ _ hx (by simp)];rw[hx]at h;exact h
def uv(ds:List D)(st:Store):lD (.fix ds) ds st:=λi st2 hi _=>by
 show(if i<=ds.length then some ds[i]? else none)=_;rw[if_pos hi]
def Lr{ds:List D}{st:Store}{r:Nat}(h:items st r=some ds):lD (.live r) ds st:=λi st2 hi e=>by
 show(items st2 r).map _=_;rw[Lq h e];rfl
def Bn{δ:ai}{st:Store}{fi:ai->Dm Src}{js:List Nat}{f:ai->Dm D}{Q:D->Store->Prop}(ds:List D)(h:D->D)(hi:Wp (fi δ st) λS st1=>lD S ds st1/\Ex [] st st1)(hl:ds.length<100000)
  (step:∀d∈ds,∀st1,Ex [] st st1->Wp (f (some d :: js.map λj=>δ.getD j none) st1) λy st2=>y=h d/\Ex [] st1 st2) (fin:∀st',Ex [] st st'->Q (.ref st'.length) (st' ++ [.lst (ds.map h)])):Wp (cw fi 1 js (hName 0) dY f δ st) Q:=by
 obtain⟨S,st1,e1,hS,k1⟩:=hi;refine D1 ds (λi ys δ' gM=>(∃v,δ'=v :: js.map λj=>δ.getD j none)/\ys=(ds.take i).map h/\Ex [] st1 gM) ⟨S,st1,e1,λi ys δ' gM hi' hp=>hS i gM hi' hp.2.2,⟨none,rfl⟩,rfl,Ex.refl⟩ hl ?_ ?_ ?_;rintro i ys δ' gM ⟨_,rfl,_⟩;rw[Vl,WH];lk;rintro i d ys δ' gM hd ⟨⟨v,rfl⟩,rfl,k8⟩;rw[D2];show Wp (dY _ _) _;rw[Hs];refine⟨λ_=>?_,λh=>absurd h ∅⟩;refine bp (step d (Vv hd) gM (k1.trans k8)) ?_;rintro y mE ⟨rfl,k9⟩;refine⟨⟨some d,rfl⟩,?_,k8.trans k9⟩;obtain⟨hlt,e⟩:=Vm.mp hd;rw[V4 hlt,VL,e];rfl;rintro ys δ' gM ⟨_,rfl,k8⟩;rw[WU];exact fin gM (k1.trans k8)
def Hx{xs:List Int}{d:D}(h:d∈xs.map D.int):∃x∈xs,d=.int x:=by obtain⟨x,hx,rfl⟩:=Vy.mp h;exact⟨x,hx,rfl⟩
def Ls{xs:List Int}{f:Int->Int}{h:D->D}(e:∀x∈xs,h (.int x)=.int (f x)):(xs.map D.int).map h=(xs.map f).map D.int:=by rw[VT,VT];exact Wa λx hx=>e x hx
abbrev inD:D->Int
 |.int i=>i
 |_=>0
def _root_.ae.oS{n:Nat}{xs ys p:List Int}(fl:nZ n xs ys)(tp:ae.Tn n p)(n0:0<n):nZ n (ae.anew xs p) (ae.anew ys p):=by
 obtain⟨tx,ty,all⟩:=fl;have tX:=tx.anew tp;have tY:=ty.anew tp;refine⟨tX,tY,λx x0 x1=>?_⟩;obtain⟨a0,a1⟩:=tp.app (i:=0) ∅ ⋯;have hb:∀y:Int,0<=y->y<(n:Int)->y∈ae.bf (ae.anew xs p) (ae.anew ys p) (ae.app p 0) n:=λy y0 y1=>by
  rw[ae.GL tx ty tp ∅ ⋯ n];obtain⟨b0,b1⟩:=tp.jY y0 y1;exact Vy.mpr ⟨ae.app (ae.inv p) y,ae.Kn tx ty ∅ ⋯ all b0 b1,tp.bU y0 y1⟩
 have hF:=ae.Ap tX tY (s:=0) ∅ ⋯;have nd:=ae.rm (ae.anew xs p) (ae.anew ys p) 0 n;have bd:=ae.nU tX tY (s:=0) ∅ ⋯ n;have RT:∀k,∀y∈ae.bf (ae.anew xs p) (ae.anew ys p) 0 k,ae.gS (ae.anew xs p) (ae.anew ys p) y:=by
  intro k
  induction k with
  |zero=>intro y hy;rw[VE.mp (show y∈[(0:Int)]from hy)];exact .zero
  |succ k ih =>
   intro y hy;have hy':y∈(match (ae.bf (ae.anew xs p) (ae.anew ys p) 0 k)[k]? with|some x=>ae.visit (ae.anew xs p) (ae.anew ys p) (ae.bf (ae.anew xs p) (ae.anew ys p) 0 k) x|none=>ae.bf (ae.anew xs p) (ae.anew ys p) 0 k):=hy;split at hy'
   ·next z hz =>
    have tZ:=ih z (Vv hz);rcases ae.oM.mp hy' with hy'|rfl
    ·rcases ae.oM.mp hy' with hy'|rfl
     ·exact ih y hy'
     ·exact tZ.r
    ·exact tZ.u
   ·exact ih y hy'
 refine RT n x ?_;have z0:(0:Int)∈ae.bf (ae.anew xs p) (ae.anew ys p) 0 n:=by
  have:=ae.vZ (ae.anew xs p) (ae.anew ys p) 0 0 n;rw[W7]at this;exact this.subset (show(0:Int)∈[(0:Int)] by simp)
 have back:∀k,(∃y∈ae.bf (ae.anew xs p) (ae.anew ys p) (ae.app p 0) k,y∈ae.bf (ae.anew xs p) (ae.anew ys p) 0 n)->ae.app p 0∈ae.bf (ae.anew xs p) (ae.anew ys p) 0 n:=by
  intro k
  induction k with
  |zero =>
   rintro⟨y,hy,qe⟩;rw[VE.mp (show y∈[ae.app p 0]from hy)]at qe;exact qe
  |succ k ih =>
   rintro⟨y,hy,qe⟩;have hy':y∈(match (ae.bf (ae.anew xs p) (ae.anew ys p) (ae.app p 0) k)[k]? with|some x=>ae.visit (ae.anew xs p) (ae.anew ys p) (ae.bf (ae.anew xs p) (ae.anew ys p) (ae.app p 0) k) x|none=>ae.bf (ae.anew xs p) (ae.anew ys p) (ae.app p 0) k):=hy;split at hy'
   ·next z hz =>
    have yx:=Vv hz;obtain⟨c0,c1⟩:=ae.nU tX tY a0 a1 k z yx;rcases ae.oM.mp hy' with hy'|rfl
    ·rcases ae.oM.mp hy' with hy'|rfl
     ·exact ih ⟨y,hy',qe⟩
     ·exact ih ⟨z,yx,ae.Aq tX nd bd (λx hx=>(hF x hx).1) c0 c1 qe⟩
    ·exact ih ⟨z,yx,ae.Aq tY nd bd (λx hx=>(hF x hx).2) c0 c1 qe⟩
   ·exact ih ⟨y,hy',qe⟩
 have hp0:=back n ⟨0,hb 0 ∅ ⋯,z0⟩;have fwd:∀k,∀y∈ae.bf (ae.anew xs p) (ae.anew ys p) (ae.app p 0) k,y∈ae.bf (ae.anew xs p) (ae.anew ys p) 0 n:=by
  intro k
  induction k with
  |zero=>intro y hy;rw[VE.mp (show y∈[ae.app p 0]from hy)];exact hp0
  |succ k ih =>
   intro y hy;have hy':y∈(match (ae.bf (ae.anew xs p) (ae.anew ys p) (ae.app p 0) k)[k]? with|some x=>ae.visit (ae.anew xs p) (ae.anew ys p) (ae.bf (ae.anew xs p) (ae.anew ys p) (ae.app p 0) k) x|none=>ae.bf (ae.anew xs p) (ae.anew ys p) (ae.app p 0) k):=hy;split at hy'
   ·next z hz =>
    have tZ:=ih z (Vv hz);rcases ae.oM.mp hy' with hy'|rfl
    ·rcases ae.oM.mp hy' with hy'|rfl
     ·exact ih y hy'
     ·exact(hF z tZ).1
    ·exact(hF z tZ).2
   ·exact ih y hy'
 exact fwd n x (hb x x0 x1)
def xI(p:Key×D)(r:List (Key×D))(k:Key):cN (p :: r) k=if p.1=k then some p.2 else cN r k:=by unfold cN;rw[Wt];by_cases e:p.1=k;rw[decide_eq_true e,if_pos e];rfl;rw[decide_eq_false e,if_neg e]
def RU(kvs:List (Key×D))(k j:Key)(y:D):cN (putD kvs k y) j=if j=k then some y else cN kvs j:=by
 unfold putD;by_cases a:(kvs.any λkv=>decide (kv.1=k))=true;rw[if_pos a]
 induction kvs with
 |nil=>simp at a
 |cons p r ih =>
  rw[VO,xI,xI];by_cases e:p.1=k;rw[if_pos e];by_cases ej:j=k;rw[if_pos ej,if_pos (show(p.1,y).1=j from e.trans ej.symm)];rw[if_neg ej,if_neg (show ¬(p.1,y).1=j fromλz=>ej (z.symm.trans e)),if_neg (λz=>ej (z.symm.trans e))]
  have:∀l:List (Key×D),cN (l.map λkv=>if kv.1=k then(kv.1,y)else kv) j=cN l j:=by
   intro l
   induction l with
   |nil=>rfl
   |cons q l ihl =>
    rw[VO,xI,xI,ihl];by_cases eq:q.1=k;rw[if_pos eq,if_neg (show ¬(q.1,y).1=j fromλz=>ej (z.symm.trans eq)),if_neg (λz=>ej (z.symm.trans eq))];rw[if_neg eq]
  exact this r;rw[if_neg e];have a':(r.any λkv=>decide (kv.1=k))=true:=by
   rw[Wo,decide_eq_false e,Bool.false_or]at a;exact a
  rw[ih a'];by_cases ej:j=k;rw[if_pos ej,if_neg (λz=>e (z.trans ej)),if_pos ej];rw[if_neg ej,if_neg ej]
 rw[if_neg a]
 induction kvs with
 |nil =>
  show cN [(k,y)] j=_;rw[xI];by_cases ej:j=k;rw[if_pos ej.symm,if_pos ej];rw[if_neg (λz=>ej z.symm),if_neg ej]
 |cons p r ih =>
  have a':¬(r.any λkv=>decide (kv.1=k))=true:=λz=>a (by rw[Wo,z,Bool.or_true]);have ep:p.1≠k:=λz=>a (by rw[Wo,decide_eq_true z,Bool.true_or]);rw[List.cons_append,xI,ih a',xI];by_cases ej:j=k;rw[if_pos ej,if_pos ej,if_neg (λz=>ep (z.trans ej))];rw[if_neg ej,if_neg ej]
def RV(kvs:List (Key×D))(k:Key)(v:D):(putD kvs k v).length<=kvs.length+1:=by unfold putD;split;rw[Vl];lk;rw[Vq,VU,WY];lk
def Lu{st:Store}{i:Nat}{kvs:List (Key×D)}(h:st[i]?=some (.dct kvs)):g7 st (.ref i)=some kvs:=by simp only[g7,h]
def Lv(i:Int):keyOf (.int i)=some (.inl i):=rfl
def RW{r:List Int}{j:Nat}(h:j<r.length)(x:Int):(r.take (j+1)).contains x=((r.take j).contains x || x == r[j]):=by
 rw[V4 h,List.contains_append]
 congr 1
 show([r[j]]:List Int).contains x=(x == r[j]);rw[Xg,List.contains_nil,Bool.or_false]
@[reducible]def jT:=Bool×Int
abbrev dN(s:jT):D:=.tup [.str (if s.1 then "s" else "t"),.int s.2]
section
variable {K:Zfr}
abbrev qQ(neg:Bool):D->D->Dm D
 |a,.non,st=>some (.bl (match a with|.non=>!neg|_=>neg),st)
 |_,_,_=>none
abbrev uw(neg:Bool):R2:=λx y H Q=>y=.non/\Q (.bl (if neg then !decide (x=.non)else decide (x=.non))) H
def xJ(neg:Bool):kO K (uw neg) (qQ neg):=by intro ρ H st x y a c b st' Q l rx ry e q;unfold qQ at e;split at e;cases e;cases ry;refine⟨rfl,?_⟩;have k:=q _ H ρ .refl l (.bl _);cases rx<;>cases neg<;>exact k;cases e
end
section
variable {X:Cx}
def RX:jV X (compareOp .IsNot) (uw true):=MY
end
section
variable {st:Store}{Q:D->Store->Prop}
def RY{neg:Bool}:Wp (qQ neg .non .non st) Q↔Q (.bl (!neg)) st:=aP
def RZ{neg:Bool}{i:List D}:Wp (qQ neg (.tup i) .non st) Q↔Q (.bl neg) st:=aP
end
def Lw{δ:ai}{st:Store}{fi:ai->Dm Src}{js:List Nat}{f:ai->Dm D}{Q:D->Store->Prop}(ds:List D)(P:Nat->D->Store->Prop)(mono:∀i y s s',P i y s->Ex [] s s'->P i y s')
  (hi:Wp (fi δ st) λS st1=>lD S ds st1/\Ex [] st st1) (hl:ds.length<100000)
  (step:∀i d,ds[i]?=some d->∀st1,Ex [] st st1->Wp (f (some d :: js.map λj=>δ.getD j none) st1) λy st2=>P i y st2/\Ex [] st1 st2)
  (fin:∀ys st',Ex [] st st'->ys.length=ds.length->(∀i y,ys[i]?=some y->P i y st')->Q (.ref st'.length) (st' ++ [.lst ys])):Wp (cw fi 1 js (hName 0) dY f δ st) Q:=by
 obtain⟨S,st1,e1,hS,k1⟩:=hi;refine D1 ds (λi ys δ' gM=>(∃v,δ'=v :: js.map λj=>δ.getD j none)/\ys.length=i/\(∀i y,ys[i]?=some y->P i y gM)/\Ex [] st1 gM) ⟨S,st1,e1,λi ys δ' gM hi' hp=>hS i gM hi' hp.2.2.2,⟨none,rfl⟩,rfl,(λi y h=>by simp at h),Ex.refl⟩ hl ?_ ?_ ?_;rintro i ys δ' gM ⟨_,h,_⟩;lk;rintro i d ys δ' gM hd ⟨⟨v,rfl⟩,hlen,hP,k8⟩;rw[D2];show Wp (dY _ _) _;rw[Hs];refine⟨λ_=>?_,λh=>absurd h ∅⟩;refine bp (step i d hd gM (k1.trans k8)) ?_;rintro y mE ⟨hp,k9⟩;refine⟨⟨some d,rfl⟩,by rw[Vq,hlen];rfl,λj z hz=>?_,k8.trans k9⟩;by_cases hj:j<ys.length;rw[VC hj]at hz;exact mono _ _ _ _ (hP j z hz) k9;have hb:=fN hz;rw[Vq,WA]at hb;have e:j=ys.length:=by lk
 subst e;rw[VM (Vp _),WK]at hz;cases hz;rw[hlen];exact hp;rintro ys δ' gM ⟨_,hlen,hP,k8⟩;exact fin ys gM (k1.trans k8) hlen hP
abbrev kP(x:Str):List D:=x.cps.toList.map λc=>.str ⟨#[c]⟩
structure rg(K:Zfr)(mg:Str->Option Value)(x:Str)(v:V)(d:D):Prop where
 ex:∃u,mg x=some u/\RelV v u
 rp:∀(ρ:List Addr) (H:Hp),Rp K ρ H v d
def Lx{X:Cx}{K:Zfr}{mg:Str->Option Value}{x:Str}{v:V}{d:D}{pos:Pos}(C:rg K mg x v d)(hg:Gl X x)(hX:X.mg=mg)(hd:(x == ("__debug__" : Str))=false):PE X (.Name x pos) (tC v):=by obtain⟨u,h,r⟩:=C.ex;subst hX;exact MO hg h r hd
def Ly{K:Zfr}{mg:Str->Option Value}{x:Str}{v:V}{d:D}(C:rg K mg x v d):fE K (tC v) (fC d):=qC C.rp
def Lz{K:Zfr}{h:Heap}{mg:Str->Option Value}(X:K.In h)(G:h.Ns mainGlobals mg){x:Str}{a:Addr}{od:Option Addr}{its:Array Value}{n:Nat}{sl:Array (Option Value)}{vs:List V}{ds:List D}(e:PySem.W.nsIn K mainGlobals x=some (some (.ref a)))(l:K.lookup a=some ⟨.type "tuple",od,.seq its n,sl⟩)
  (ho:od=none) (hz:its.size<=sizeLine) (hv:Vals vs its.toList) (hd:∀(ρ:List Addr) (H:Hp),bI K ρ H vs ds):∃v,rg K mg x v (.tup ds) :=
 ⟨.ref a,⟨_,PySem.W.mg_of X G e,rfl⟩,λρ H=>.tup (.inr ⟨_,its,n,l,rfl,ho,rfl,hz,hv⟩) (hd ρ H)⟩
abbrev pU:Nat->D->Prop
 |_,.int _=>True
 |_,.str x=>PyData.canLay0 (.str x)=true
 |_,.non=>True
 |n+1,.tup ds=>∀d∈ds,pU n d
 |_,_=>False
abbrev cO:Nat->D->PyData
 |_,.int i=>.int i
 |_,.str x=>.str x
 |n+1,.tup ds=>.tuple (ds.map (cO n))
 |_,_=>.none
def D4{α β:Type}{f:α->Option β}{g:α->β}:∀{l:List α},(∀x∈l,f x=some (g x))->bw f l=some (l.map g)
 |[],_=>rfl
 |a :: r,h=>by
  have h1:=h a Vw;have h2:=D4 (f:=f) (g:=g) (l:=r) λx hx=>h x (VA _ hx);simp only[bw,h1,h2,VO]
def yR:∀(n:Nat) (d:D),pU n d->∀(m:Nat),n<m->∀st,eP st m d=some (cO n d)
 |n,.int i,_,m+1,_,st=>by cases n<;>rfl
 |n,.str x,_,m+1,_,st=>by cases n<;>rfl
 |n,.non,_,m+1,_,st=>by cases n<;>rfl
 |n,.bl b,h,_,_,_=>by cases n<;>exact h.elim
 |n,.ty b,h,_,_,_=>by cases n<;>exact h.elim
 |n,.ref b,h,_,_,_=>by cases n<;>exact h.elim
 |0,.tup ds,h,_,_,_=>h.elim
 |n+1,.tup ds,h,m+1,hm,st=>by
  simp only[eP];rw[D4 (g:=cO n) λx hx=>yR n x (h x hx) m ⋯ st];rfl
def LA:∀{l:List PyData},(∀x∈l,x.canLay0=true)->PyData.canLayAll0 l=true
 |[],_=>rfl
 |a :: r,h=>by
  simp only[PyData.canLayAll0,h a Vw,LA λx hx=>h x (VA _ hx),Bool.and_self]
def LC{n:Nat}:∀{l:List PyData},(∀x∈l,x.depth<=n)->PyData.depthAll l<=n
 |[],_=>VX _
 |a :: r,h=>by
  have h1:=h a Vw;have h2:=LC λx hx=>h x (VA _ hx);simp only[PyData.depthAll];lk
def xK:∀(n:Nat) (d:D),pU n d->(cO n d).canLay0=true/\(cO n d).depth<=n
 |n,.int i,_=>by cases n<;>exact⟨rfl,VX _⟩
 |n,.str x,h=>by cases n<;>exact⟨h,VX _⟩
 |n,.non,_=>by cases n<;>exact⟨rfl,VX _⟩
 |n,.bl b,h=>by cases n<;>exact h.elim
 |n,.ty b,h=>by cases n<;>exact h.elim
 |n,.ref b,h=>by cases n<;>exact h.elim
 |0,.tup ds,h=>h.elim
 |n+1,.tup ds,h=>by
  refine⟨?_,?_⟩;show PyData.canLayAll0 (ds.map (cO n))=true;exact LA λx hx=>by
   obtain⟨d,hd,rfl⟩:=Vy.mp hx;exact(xK n d (h d hd)).1
  show PyData.depthAll (ds.map (cO n))+1<=n+1
  have:=LC (n:=n) (l:=ds.map (cO n)) λx hx=>by
   obtain⟨d,hd,rfl⟩:=Vy.mp hx;exact(xK n d (h d hd)).2
  lk
def LD{n:Nat}(ih:∀a b:D,pU n a->pU n b->(PyData.eqv (cO n a) (cO n b)=true↔a=b)):∀(l m:List D),(∀x∈l,pU n x)->(∀x∈m,pU n x)->(PyData.eqvAll (l.map (cO n)) (m.map (cO n))=true↔l=m)
 |[],[],_,_=>by simp[PyData.eqvAll]
 |[],_ :: _,_,_=>by simp[PyData.eqvAll]
 |_ :: _,[],_,_=>by simp[PyData.eqvAll]
 |a :: l,b :: m,h1,h2=>by
  have e1:=ih a b (h1 a Vw) (h2 b Vw);have e2:=LD ih l m (λx hx=>h1 x (VA _ hx)) λx hx=>h2 x (VA _ hx);simp only[VO,PyData.eqvAll,VG,e1,e2,List.cons.injEq]
def D5:∀(n:Nat) (a b:D),pU n a->pU n b->(PyData.eqv (cO n a) (cO n b)=true↔a=b):=by
 intro n
 induction n with
 |zero =>
  intro a b ha hb;cases a<;>first|exact ha.elim|skip
  all_goals (cases b<;>first|exact hb.elim|simp[cO,PyData.eqv])
 |succ n ih =>
  intro a b ha hb;cases a<;>first|exact ha.elim|skip
  all_goals (cases b<;>first|exact hb.elim|skip)
  all_goals first
   |(simp[cO,PyData.eqv];done)
   |skip
  next l m =>
   have:=LD ih l m ha hb;show PyData.eqv (.tuple (l.map (cO n))) (.tuple (m.map (cO n)))=true↔_;rw[RN,this];constructor
   ·rintro rfl;rfl
   ·intro h;exact D.tup.inj h
def Hy(n:Nat)(L:List Int):pU (n+1) (.tup (L.map D.int)):=λd hd=>by
 obtain⟨x,_,rfl⟩:=Vy.mp hd;cases n<;>trivial
def Bo(n:Nat)(xs ys:List Int):pU (n+2) (cc xs ys):=λd hd=>by
 have hd:d=.tup (xs.map D.int)\/d=.tup (ys.map D.int):=by simpa[cc]using hd
 rcases hd with rfl|rfl
 exact Hy n xs;exact Hy n ys
abbrev n4(neg:Bool):D->D->Dm D:=λa c st=>match eP st 20 a,(bh st c).bind (bw (eP st 19))with
 |some dx,some ds=>if dx.canLay0 && ds.all PyData.canLay0 && decide (dx.depth<=60)then some (.bl (if neg then !ds.any (λd=>PyData.eqv d dx)else ds.any λd=>PyData.eqv d dx),st)else none
 |_,_=>none
section
variable {K:Zfr}
def D6{ρ:List Addr}{H:Hp}{st:Store}(l:Rl K ρ H st)(n:Nat):∀{vs:List V} {ds:List D} {ps:List PyData},bI K ρ H vs ds->bw (eP st n) ds=some ps->dR K H vs ps
 |_,_,_,.nil,h=>by cases h;exact .nil
 |_,_,_,.cons a b,h=>by
  obtain⟨x,t,h1,h2,rfl⟩:=yF h;exact .cons (wA l n a h1) (D6 l n b h2)
def LF(neg:Bool):kO K (zX K neg) (n4 neg):=by
 intro ρ H st x y a c b st' Q l rx ry e q;unfold n4 at e;split at e
 ·next dx ds h1 h2 =>
  split at e
  ·next ok =>
   cases e;rw[VG,VG,decide_eq_true_eq,WV]at ok;obtain⟨es,h3,h4⟩:=Wd.mp h2;obtain⟨p,xs,rfl,hq,rr⟩:∃p xs,y=.ref p/\(gP K H p xs\/de K H p xs)/\bI K ρ H xs es:=by
    cases ry with
    |non=>cases h3
    |bl _=>cases h3
    |int _=>cases h3
    |str _=>cases h3
    |ty _=>cases h3
    |ref hi=>obtain⟨vs,s,r⟩:=l.items hi h3;exact⟨_,vs,rfl,.inl s,r⟩
    |tup s r=>cases h3;exact⟨_,_,rfl,.inr s,r⟩
   exact⟨p,xs,ds,dx,rfl,hq,D6 l 19 rr h4,wA l 20 rx h1,ok.1.2,ok.1.1,ok.2,q _ H ρ .refl l (.bl _)⟩
  ·cases e
 ·cases e
end
open Classical in
def LG{st:Store}{Q:D->Store->Prop}{neg:Bool}{n:Nat}{a c:D}{es:List D}(ha:pU n a)(hc:bh st c=some es)(he:∀e∈es,pU n e)(hn:n<=15):Wp (n4 neg a c st) Q↔Q (.bl (if neg then !decide (a∈es)else decide (a∈es))) st:=by
 have h1:=yR n a ha 20 ⋯ st;have h2:bw (eP st 19) es=some (es.map (cO n)):=D4 λx hx=>yR n x (he x hx) 19 ⋯ st;have ea:(es.map (cO n)).any (λd=>PyData.eqv d (cO n a))=decide (a∈es):=by
  rw[WL,XX,decide_eq_true_eq];constructor;rintro⟨d,hd,h⟩;obtain⟨x,hx,rfl⟩:=Vy.mp hd;rw[<- (D5 n x a (he x hx) ha).mp h];exact hx;intro h;exact⟨_,Vy.mpr ⟨a,h,rfl⟩,(D5 n a a ha ha).mpr rfl⟩
 have l1:=xK n a ha;have l2:(es.map (cO n)).all PyData.canLay0=true:=by
  rw[WV];intro d hd;obtain⟨x,hx,rfl⟩:=Vy.mp hd;exact(xK n x (he x hx)).1
 have e:n4 neg a c st=some (.bl (if neg then !decide (a∈es)else decide (a∈es)),st):=by
  unfold n4;simp only[h1,hc,WJ,h2,ea,l1.1,l2,Bool.true_and,decide_eq_true_eq];rw[if_pos ⋯]
 rw[e,aP]
abbrev oU(ps:List PyData):Bool:=decide (0<ps.length) && ps.all (λa=>ps.all λb=>qg a b) && ps.all λa=>a.canLay0 && decide (a.depth<=50)
abbrev kD:List D->Dm D
 |[.ref r],st=>match own st r with
  |some ds=>match bw (eP st 20) ds with
   |some ps=>if oU ps=true then(match ds[lp ps]? with|some d=>some (d,st)|none=>none)else none
   |none=>none
  |none=>none
 |_,_=>none
section
variable {K:Zfr}
def R0:qB K (tO K) kD:=by
 intro ρ H st xs as b st' Q l rx e q;unfold kD at e;split at e
 ·next r jK =>
  split at e
  ·next ds hd =>
   split at e
   ·next ps hp =>
    split at e
    ·next hok =>
     split at e
     ·next d hd0 =>
      cases e;obtain⟨v,rfl,r⟩:=rx.one';cases r with
      |ref hi =>
       obtain⟨vs,hs,rr⟩:=l.items hi (cu (pb hd));obtain⟨v,hv,rv⟩:=rr.got hd0;simp only[oU,VG,decide_eq_true_eq,WV]at hok;exact⟨_,vs,ps,rfl,hs,D6 l 20 rr hp,hok.1.1,hok.1.2,hok.2,v,hv,q v H ρ .refl l rv⟩
     ·cases e
    ·cases e
   ·cases e
  ·cases e
 ·cases e
end
def R1{st:Store}{Q:D->Store->Prop}{r:Nat}{ds:List D}{ps:List PyData}(h:own st r=some ds)(hp:bw (eP st 20) ds=some ps)(hok:oU ps=true){d:D}(hd:ds[lp ps]?=some d):Wp (kD [.ref r] st) Q↔Q d st:=by
 have e:kD [.ref r] st=some (d,st):=by simp only[kD,h,hp,hok,hd,if_true]
 rw[e,aP]
abbrev tupI(xs:List Int):PyData:=.tuple (xs.map PyData.int)
abbrev i6(p:ae.aG):PyData:=.tuple [tupI p.1,tupI p.2]
def Hz:∀xs ys:List Int,km (xs.map PyData.int) (ys.map PyData.int)=ae.nB xs ys
 |[],[]=>rfl
 |[],_ :: _=>rfl
 |_ :: _,[]=>rfl
 |x :: xs,y :: ys=>by
  show(if(x == y)=true then km (xs.map PyData.int) (ys.map PyData.int)else decide (x<y))=if x=y then ae.nB xs ys else decide (x<y)
  rw[Hz xs ys];by_cases h:x=y;rw[if_pos h,if_pos (by simp[h])];rw[if_neg h,if_neg (by simp[h])]
def LH(xs ys:List Int):PyData.eqv (tupI xs) (tupI ys)=decide (xs=ys):=Dl xs ys
def R3(p q:ae.aG):yr (i6 p) (i6 q)=ae.ko p q:=by
 show(if PyData.eqv (tupI p.1) (tupI q.1)=true then(if PyData.eqv (tupI p.2) (tupI q.2)=true then false else km (p.2.map PyData.int) (q.2.map PyData.int))else km (p.1.map PyData.int) (q.1.map PyData.int))=if p.1=q.1 then ae.nB p.2 q.2 else ae.nB p.1 q.1
 rw[LH,LH,Hz,Hz];by_cases a:p.1=q.1;rw[if_pos a,if_pos (decide_eq_true a)];by_cases b:p.2=q.2;rw[if_pos (decide_eq_true b),b,ae.DF];rw[if_neg (by simp[b])];rw[if_neg a,if_neg (by simp[a])]
def HA:∀xs ys:List Int,lS (xs.map PyData.int) (ys.map PyData.int)=true
 |[],_=>rfl
 |_ :: _,[]=>rfl
 |x :: xs,y :: ys=>by show(true && lS (xs.map PyData.int) (ys.map PyData.int))=true;rw[HA xs ys];rfl
def R4(p q:ae.aG):qg (i6 p) (i6 q)=true:=by show(lS (p.1.map PyData.int) (q.1.map PyData.int) && (lS (p.2.map PyData.int) (q.2.map PyData.int) && true))=true;rw[HA,HA];rfl
def R5(p:ae.aG):(i6 p).canLay0=true/\(i6 p).depth<=50:=by refine⟨?_,?_⟩;show(PyData.canLayAll0 (dz p.1) && (PyData.canLayAll0 (dz p.2) && true))=true;rw[zP,zP];rfl;show max (PyData.depthAll (dz p.1)+1) (max (PyData.depthAll (dz p.2)+1) 0)+1<=50;rw[Dk,Dk];decide
def LI(l:List ae.aG):∀k,k<l.length->l[argBest (λi j=>ae.ko (l.getD i ([],[])) (l.getD j ([],[]))) k]?=some (ae.kq (l.take (k+1)))
 |0,h=>by
  cases l with
  |nil=>simp at h
  |cons p l=>rfl
 |k+1,h=>by
  have ih:=LI l k ⋯;generalize hb:argBest (λi j=>ae.ko (l.getD i ([],[])) (l.getD j ([],[]))) k=b at ih;have e1:l.getD b ([],[])=ae.kq (l.take (k+1)):=by rw[Vz,ih];rfl
  have e2:ae.kq (l.take (k+1+1))=if ae.ko (l.getD (k+1) ([],[])) (ae.kq (l.take (k+1)))then l.getD (k+1) ([],[])else ae.kq (l.take (k+1)):=by
   have et:l.take (k+1+1)=l.take (k+1) ++ [l.getD (k+1) ([],[])]:=by
    rw[V4 h,Vz,Vn h];rfl
   rw[et];cases l with
   |nil=>simp at h
   |cons p l =>
    show((l.take k ++ [_]).foldl _ p)=_;rw[Wr];rfl
  show l[if(ae.ko (l.getD (k+1) ([],[])) (l.getD (argBest _ k) ([],[])))=true then k+1 else argBest _ k]?=_;rw[hb,e1,e2];split;rw[Vz,Vn h];rfl;exact ih
def R6(st:Store)(p:ae.aG):eP st 20 (cc p.1 p.2)=some (i6 p):=by
 have h:∀(m:Nat) (xs:List Int),bw (eP st (m+1)) (xs.map D.int)=some (xs.map PyData.int):=λm xs=>by
  have:=yG (f:=eP st (m+1)) (g:=D.int) (k:=PyData.int) (λ_=>rfl) xs;exact this
 show(bw (eP st 19) [D.tup (p.1.map D.int),D.tup (p.2.map D.int)]).map PyData.tuple=_;have e1:eP st 19 (D.tup (p.1.map D.int))=some (tupI p.1):=by show(bw (eP st 18) (p.1.map D.int)).map PyData.tuple=_;rw[h];rfl
 have e2:eP st 19 (D.tup (p.2.map D.int))=some (tupI p.2):=by show(bw (eP st 18) (p.2.map D.int)).map PyData.tuple=_;rw[h];rfl
 simp only[bw,e1,e2];rfl
def R7{st:Store}{Q:D->Store->Prop}{r:Nat}{l:List ae.aG}(h:own st r=some (l.map λp=>cc p.1 p.2))(hn:0<l.length):Wp (kD [.ref r] st) Q↔Q (cc (ae.kq l).1 (ae.kq l).2) st:=by
 have hp:bw (eP st 20) (l.map λp=>cc p.1 p.2)=some (l.map i6):=yG (f:=eP st 20) (g:=λp:ae.aG=>cc p.1 p.2) (k:=i6) (λp=>R6 st p) l;refine R1 h hp ?_ ?_;simp only[oU,VG,decide_eq_true_eq,WV,Vl];refine⟨⟨hn,λa ha b hb=>?_⟩,λa ha=>?_⟩;obtain⟨p,_,rfl⟩:=Vy.mp ha;obtain⟨q,_,rfl⟩:=Vy.mp hb;exact R4 p q;obtain⟨p,_,rfl⟩:=Vy.mp ha;exact R5 p;have hb:=LI l (l.length-1) ⋯;rw[show l.length-1+1=l.length by lk,WU]at hb;have e:∀k,k<l.length->argBest (rR (l.map i6)) k=argBest (λi j=>ae.ko (l.getD i ([],[])) (l.getD j ([],[]))) k/\argBest (λi j=>ae.ko (l.getD i ([],[])) (l.getD j ([],[]))) k<l.length:=by
  intro k
  induction k with
  |zero=>intro hk;exact⟨rfl,hk⟩
  |succ k ih =>
   intro hk;obtain⟨e1,e2⟩:=ih ⋯;have eb:rR (l.map i6) (k+1) (argBest (rR (l.map i6)) k)=ae.ko (l.getD (k+1) ([],[])) (l.getD (argBest (λi j=>ae.ko (l.getD i ([],[])) (l.getD j ([],[]))) k) ([],[])):=by
    rw[e1];unfold rR;rw[Vz,Vz,Vr,Vr,Vn hk,Vn e2,Vz,Vz,Vn hk,Vn e2];exact R3 _ _
   refine⟨?_,?_⟩;show(if rR (l.map i6) (k+1) (argBest (rR (l.map i6)) k)=true then k+1 else argBest (rR (l.map i6)) k)=if _=true then k+1 else _
   rw[eb,e1];show(if _=true then k+1 else _)<l.length;split;exact hk;exact e2
 unfold lp;rw[Vl,(e (l.length-1) ⋯).1,Vr,hb];rfl
def LJ{δ:ai}{st:Store}{fi:ai->Dm Src}{js:List Nat}{c:ai->Dm Bool}{f:ai->Dm D}{Q:D->Store->Prop}(ds:List D)(q:D->Bool)(h:D->D)(hi:Wp (fi δ st) λS st1=>lD S ds st1/\Ex [] st st1)(hl:ds.length<100000)
  (cond:∀d∈ds,∀st1,Ex [] st st1->Wp (c (some d :: js.map λj=>δ.getD j none) st1) λb st2=>b=q d/\Ex [] st1 st2)
  (step:∀d∈ds,q d=true->∀st1,Ex [] st st1->Wp (f (some d :: js.map λj=>δ.getD j none) st1) λy st2=>y=h d/\Ex [] st1 st2) (fin:∀st',Ex [] st st'->Q (.ref st'.length) (st' ++ [.lst ((ds.filter q).map h)])):Wp (cw fi 1 js (hName 0) c f δ st) Q:=by
 obtain⟨S,st1,e1,hS,k1⟩:=hi;refine D1 ds (λi ys δ' gM=>(∃v,δ'=v :: js.map λj=>δ.getD j none)/\ys=((ds.take i).filter q).map h/\Ex [] st1 gM) ⟨S,st1,e1,λi ys δ' gM hi' hp=>hS i gM hi' hp.2.2,⟨none,rfl⟩,rfl,Ex.refl⟩ hl ?_ ?_ ?_;rintro i ys δ' gM ⟨_,rfl,_⟩;rw[Vl];refine VH (Xr _ _) ?_;rw[WH];lk;rintro i d ys δ' gM hd ⟨⟨v,rfl⟩,rfl,k8⟩;obtain⟨hlt,e⟩:=Vm.mp hd;have hm:=Vv hd;rw[D2];refine bp (cond d hm gM (k1.trans k8)) ?_;rintro b mE ⟨rfl,k9⟩;refine⟨λhq=>bp (step d hm hq mE (k1.trans (k8.trans k9))) ?_,λhq=>⟨⟨some d,rfl⟩,?_,k8.trans k9⟩⟩;rintro y R8 ⟨rfl,R9⟩;refine⟨⟨some d,rfl⟩,?_,(k8.trans k9).trans R9⟩;rw[V4 hlt,List.filter_append,VL,e,List.filter_cons_of_pos hq];rfl;rw[V4 hlt,List.filter_append,VL,e,List.filter_cons_of_neg (by rw[hq];decide)];simp;rintro ys δ' gM ⟨_,rfl,k8⟩;rw[WU];exact fin gM (k1.trans k8)
abbrev aT(d:D)(st:Store):Bool:=match d with
 |.ref i=>match st[i]? with
  |some (.exc _ _)=>true
  |_=>false
 |_=>false
def Sb{d:D}{st:Store}(h:aT d st=true):∃i c fs,d=.ref i/\st[i]?=some (.exc c fs):=by
 unfold aT at h;split at h
 ·next i =>
  split at h
  ·next c fs e=>exact⟨i,c,fs,rfl,e⟩
  ·cases h
 ·cases h
def Sd{a C:Addr}{dx tr:Option Addr}{xs:List (List Int×Addr×Value)}(e:DU a xs=XO a C dx tr):False:=by
 unfold DU XO at e;injection e with q
 let ob:Obj:={ cls:=.ref C,dict:=dx,data:=.fields #[.none,vL tr] }
 let h0:Heap:={ objs:=Array.replicate (a+1) ob }
 have e0:h0.get? a=some ob:=by
  refine Heap.get?_some_iff.mpr ⟨?_,rfl⟩;simp[h0]
 have z:=(congrFun q h0).mpr ⟨ob,_,e0,rfl,rfl,rfl,rfl⟩;obtain⟨_,_,o,es,ep,e1,_,e2,_⟩:=z;rw[e0]at e1;cases e1;cases e2
section
variable {K:Zfr}{ρ ρ':List Addr}{H H' H2:Hp}{st st':Store}{a:Addr}
def D7(y:XS a H H2){b:Addr}{u:HO}(h:H b=some u)(n:∀φ,u≠.ext φ):H2 b=some u:=by obtain⟨⟨C,dx,tr,vM,e1,e2⟩,k⟩:=y;exact k b (λz=>by rw[z,e1]at h;cases h;exact n _ rfl) u h
def Mn.xs(y:XS a H H2):Mn K ρ H ρ H2:=⟨λ_ _ h=>h,λb vs q=>by
  rcases q with(q|⟨o,q⟩)|q
  exact .inl (.inl (D7 y q λφ z=>nomatch z));exact .inl (.inr ⟨o,D7 y q λφ z=>nomatch z⟩);exact .inr q
  ,λb o u h=>D7 y h (λφ z=>by cases z),λb ws h=>D7 y h (λφ z=>by cases z)⟩
def Rl.xs(l:Rl K ρ H st)(y:XS a H H2):Rl K ρ H2 st:=by
 have m:Mn K ρ H ρ H2:=Mn.xs y;refine⟨l.len,l.nd,λi b o h1 h2=>?_⟩;have r:=l.obj i b o h1 h2;by_cases hb:b=a;subst hb;have y0:=y;obtain⟨⟨C,dx,tr,vM,e1,e2⟩,k⟩:=y0;cases o with
 |lst ds=>obtain⟨vs,e,_⟩:=r;rw[e1]at e;cases e
 |nW ds =>
  obtain⟨vs,e,q⟩:=r;refine⟨vs,?_,q.mn m⟩;rcases e with⟨u,e⟩|e
  rw[e1]at e;cases e;exact .inr e
 |dct kvs=>obtain⟨vs,e,_⟩:=r;rw[e1]at e;cases e
 |AJ kvs=>obtain⟨vs,e,_⟩:=r;rw[e1]at e;exact(Sd (Vu e).symm).elim
 |exc c fs =>
  obtain⟨C',yt,Oo,n,e,q⟩:=r;rw[e1]at e;obtain⟨rfl,rfl⟩:=XO.inj (Vu e);exact⟨C,dx,vM,n,e2,q.mn m⟩
 |any=>trivial
 |gI lo hi=>have z:H b=some (.gI lo hi):=r;rw[e1]at z;cases z
 exact r.keep m λu e=>y.2 b hb u e
abbrev yS(K:Zfr)(W:Addr->Hp->Prop)(ρ:List Addr)(H:Hp)(st':Store)(E:Ends):Fl->Prop
 |.rt d=>(aT d st'=true->∀a H' ρ',Mn K ρ H ρ' H'->Rl K ρ' H' st'->Rp K ρ' H' (.ref a) d->W a H')/\(aT d st'=false->Go K ρ H st' E (.rt d))
 |fl=>Go K ρ H st' E fl
def yS.mn{W:Addr->Hp->Prop}{ρ1:List Addr}{H1:Hp}{E:Ends}{fl:Fl}(g:yS K W ρ H st' E fl)(m:Mn K ρ H ρ1 H1):yS K W ρ1 H1 st' E fl:=by
 cases fl with
 |rt d=>exact⟨λh a H' ρ' m' l r=>g.1 h a H' ρ' (m.trans m') l r,λh=>Go.mn (g.2 h) m⟩
 |nx δ=>exact Go.mn (fl:=.nx δ) g m
 |bk δ=>exact Go.mn (fl:=.bk δ) g m
 |ct δ=>exact Go.mn (fl:=.ct δ) g m
abbrev qR(K:Zfr)(W:Addr->Hp->Prop)(t:TS)(f:ai->Dm Fl):Prop :=
 ∀(ρ:List Addr) (σ:St) (H:Hp) (δ:ai) (st:Store) (fl:Fl) (st':Store) (E:Ends),Rl K ρ H st->Rs K ρ H σ δ->f δ st=some (fl,st')->yS K W ρ H st' E fl->t E σ H
abbrev pF(f:ai->Dm Fl):ai->Dm Fl:=λδ st=>bnd (f δ st) λfl st1=>match fl with
 |.rt d=>if aT d st1=true then none else some (.rt d,st1)
 |x=>some (x,st1)
def su{W:Addr->Hp->Prop}{t:TS}{f:ai->Dm Fl}(hf:lB K t f):qR K W t (pF f):=by
 intro ρ σ H δ st fl st' E l rs e q;obtain⟨x,st1,e1,e⟩:=cy e;cases x with
 |rt d =>
  dsimp only at e;split at e
  ·cases e
  ·next hn=>cases e;exact hf ρ σ H δ st _ _ E l rs e1 (q.2 (by simpa using hn))
 |nx δ1=>cases e;exact hf ρ σ H δ st _ _ E l rs e1 q
 |bk δ1=>cases e;exact hf ρ σ H δ st _ _ E l rs e1 q
 |ct δ1=>cases e;exact hf ρ σ H δ st _ _ E l rs e1 q
def ux{W:Addr->Hp->Prop}{t u:TS}{f g:ai->Dm Fl}(hf:qR K W t f)(hg:qR K W u g):qR K W (u3 t u) (aB f g):=by
 intro ρ σ H δ st fl st' E l rs e q;obtain⟨x,st1,e1,e⟩:=cy e;refine hf ρ σ H δ st x st1 _ l rs e1 ?_;cases x with
 |nx δ1=>exactλσ1 H1 ρ1 m1 l1 r1=>hg ρ1 σ1 H1 δ1 st1 fl st' E l1 r1 e (q.mn m1)
 |bk δ1=>cases e;exact q
 |ct δ1=>cases e;exact q
 |rt d=>cases e;exact q
def Se{W:Addr->Hp->Prop}{c:TT}{t u:TS}{fc:ai->Dm Bool}{f g:ai->Dm Fl}(hc:oO K c fc)(hf:qR K W t f)(hg:qR K W u g):qR K W (u5 c t u) (jZ fc f g):=by
 intro ρ σ H δ st fl st' E l rs e q;obtain⟨a,st1,e1,e⟩:=cy e;refine hc ρ σ H δ st _ _ _ l rs e1 λx H1 ρ1 m1 l1 r1=>?_;subst r1;cases x with
 |true =>
  refine nM ?_;rw[if_pos rfl]at e;exact hf ρ1 σ H1 δ st1 fl st' E l1 (rs.mn m1) e (q.mn m1)
 |false =>
  refine nL ?_;rw[if_neg Vs]at e;exact hg ρ1 σ H1 δ st1 fl st' E l1 (rs.mn m1) e (q.mn m1)
def Sf{c:Str}{fs:List (Str×D)}:aT (.ref st.length) (st ++ [.exc c fs])=true:=by simp[aT]
abbrev D8(K:Zfr)(n:Nat)(F:List D->Dm D):Sp:=λvs H Q E=>vs.length=n/\∃(ρ:List Addr) (st:Store) (ds:List D) (b:D) (st':Store),Rl K ρ H st/\bI K ρ H vs ds/\F ds st=some (b,st') /\
 (aT b st'=true->∀a H' ρ',Mn K ρ H ρ' H'->Rl K ρ' H' st'->Rp K ρ' H' (.ref a) b->E (.ref a) none H')/\(aT b st'=false->∀v H' ρ',Mn K ρ H ρ' H'->Rl K ρ' H' st'->Rp K ρ' H' v b->Q v H')
def xM{N:List Str}{k n:Nat}{t:TS}{b:ai->Dm Fl}{vs:List V}{H:Hp}{Q:VK}{E:XK}(hb:qR K (λa H'=>E (.ref a) none H') t b)(hn:N.length=n)(h:D8 K k (gW n b) vs H Q E):t { nx:=λ_ H'=>Q .non H',rt:=Q } (start N vs) H:=by
 obtain⟨hk,ρ,st,ds,d,st',l,r,e,q1,q2⟩:=h;subst hn;obtain⟨fl,st1,e1,e⟩:=cy e;refine hb ρ _ H _ st fl st1 _ l (Rs.start r N) e1 ?_;cases fl with
 |rt v=>cases e;exact⟨q1,q2⟩
 |nx δ=>cases e;exactλσ' H' ρ' m l' r'=>q2 rfl .non H' ρ' m l' .non
 |bk δ=>cases e
 |ct δ=>cases e
abbrev LK(K:Zfr)(t:(St->Addr->Hp->Prop)->TS)(f:ai->Dm Fl):Prop :=
 ∀(ρ:List Addr) (σ:St) (H:Hp) (δ:ai) (st:Store) (fl:Fl) (st':Store) (E:Ends) (W:St->Addr->Hp->Prop),Rl K ρ H st->Rs K ρ H σ δ->f δ st=some (fl,st')->yS K (W σ) ρ H st' E fl->t W E σ H
abbrev oV(F:List D->Dm D)(fa:ai->Dm (List D))(i:Nat):ai->Dm Fl:=λδ st=>bnd (fa δ st) λas st1=>bnd (F as st1) λb st2=>if aT b st2=true then some (.rt b,st2)else some (.nx (δ.set i (some b)),st2)
def Sg{n i:Nat}{F:List D->Dm D}{ta:TA}{fa:ai->Dm (List D)}(ha:o9 K ta fa)(hn:∀δ st as st',fa δ st=some (as,st')->as.length=n):LK K (λW=>pQ (qj (D8 K n F) W ta) (lg i)) (oV F fa i):=by intro ρ σ H δ st fl st' E W l rs e q;obtain⟨as,st1,e1,e⟩:=cy e;obtain⟨b,st2,e2,e⟩:=cy e;refine ha ρ σ H δ st as st1 _ l rs e1 λvs H1 ρ1 m1 l1 r1=>⟨by rw[r1.length];exact hn _ _ _ _ e1,ρ1,st1,as,b,st2,l1,r1,e2,λhr a H3 ρ3 m3 l3 r3=>?_,λhr v H3 ρ3 m3 l3 r3=>?_⟩;rw[if_pos hr]at e;cases e;exact⟨a,rfl,q.1 hr a H3 ρ3 (m1.trans m3) l3 r3⟩;rw[hr,if_neg Vs]at e;cases e;exact q _ H3 ρ3 (m1.trans m3) l3 ((rs.mn (m1.trans m3)).set r3)
abbrev catches(sub:Str->Bool)(d:D)(st:Store):Bool:=match d with
 |.ref i=>match st[i]? with
  |some (.exc c _)=>sub c
  |_=>false
 |_=>false
abbrev xN(x:Str):Str->Bool:=λc=>decide (c=x)
def Si{x:Str}{C0 F:Addr}(hn:PySem.W.nsIn K mainGlobals x=some (some (.ref C0)))(k:PySem.W.mroIn K C0 (.ref F)=some true):∀c C,xN x c=true->PySem.W.nsIn K mainGlobals c=some (some (.ref C))->PySem.W.mroIn K C (.ref F)=some true:=λc C h n=>by
 have e:c=x:=of_decide_eq_true h;subst e;rw[hn]at n;cases n;exact k
@[reducible]def LL:List Value:=[.type "ValueError",.type "Exception",.type "BaseException",.type "object"]
end
section
variable {st:Store}{δ:ai}{N B C:ai->Store->Prop}{R:D->Store->Prop}{f g:ai->Dm Fl}
def sv(h:Ws (f δ st) N B C (λd s=>aT d s=false/\R d s)):Ws (pF f δ st) N B C R:=by
 obtain⟨fl,s1,e,q⟩:=h;unfold pF;rw[e];cases fl with
 |rt d=>refine⟨.rt d,s1,?_,q.2⟩;simp[bnd,q.1]
 |nx δ1=>exact⟨.nx δ1,s1,rfl,q⟩
 |bk δ1=>exact⟨.bk δ1,s1,rfl,q⟩
 |ct δ1=>exact⟨.ct δ1,s1,rfl,q⟩
def Sj{i:Nat}{F:List D->Dm D}{fa:ai->Dm (List D)}(h:Wp (fa δ st) λas s1=>Wp (F as s1) λb s2=>(aT b s2=true->R b s2)/\(aT b s2=false->N (δ.set i (some b)) s2)):Ws (oV F fa i δ st) N B C R:=by
 obtain⟨as,s1,e,b,s2,e2,q⟩:=h;unfold oV;rw[e];cases hr:aT b s2 with
 |true=>refine⟨.rt b,s2,?_,q.1 hr⟩;simp[bnd,e2,hr]
 |false=>refine⟨.nx (δ.set i (some b)),s2,?_,q.2 hr⟩;simp[bnd,e2,hr]
end
section
variable {K:Zfr}{ρ ρ':List Addr}{H H' H2:Hp}{st st':Store}{a:Addr}
def Sk{a b:Addr}{o u:HO}(n:a≠b):upd (upd H a o) b u=upd (upd H b u) a o:=by
 funext c
 unfold upd;by_cases c1:c=b;subst c1;rw[if_pos rfl,if_neg (Ne.symm n),if_pos rfl];rw[if_neg c1];by_cases c2:c=a;rw[if_pos c2,if_pos c2];rw[if_neg c2,if_neg c2,if_neg c1]
def Rl.newX{C d:Addr}{c:Str}{fs:List (Str×D)}{ws:List (Str×V)}(l:Rl K ρ H st)(ha:H a=none)(hd:H d=none)(da:d≠a)(hc:PySem.W.nsIn K mainGlobals c=some (some (.ref C)))(hw:∀f e,fs.lookup f=some e->∃v,ws.lookup f=some v/\Rp K ρ H v e):
  Rl K (ρ ++ [a]) (upd (upd H a (XO a C (some d) none)) d (.xd ws)) (st ++ [.exc c fs])/\Mn K ρ H (ρ ++ [a]) (upd (upd H a (XO a C (some d) none)) d (.xd ws)):=by
 rw[Sk (Ne.symm da)];have m1:Mn K ρ H ρ (upd H d (.xd ws)):=Mn.same (fH.up hd);have l1:=l.same (fH.up (o:=.xd ws) hd);have ha1:upd H d (.xd ws) a=none:=by rw[cL (Ne.symm da)];exact ha
 have m2:Mn K ρ (upd H d (.xd ws)) (ρ ++ [a]) (upd (upd H d (.xd ws)) a (XO a C (some d) none)):=Mn.new ha1;refine⟨l1.new ha1 ⟨C,some d,none,hc,kM,ws,by rw[cL da,kM],λf e h=>?_⟩,m1.trans m2⟩;obtain⟨v,h1,h2⟩:=hw f e h;exact⟨v,h1,h2.mn (m1.trans m2)⟩
abbrev j7(c:Str)(fs:List Str)(fa:ai->Dm (List D)):ai->Dm Fl:=λδ st=>bnd (fa δ st) λds st1=>some (.rt (.ref st1.length),st1 ++ [.exc c (fs.zip ds)])
end
section
variable {st:Store}{δ:ai}{N B C:ai->Store->Prop}{R:D->Store->Prop}
def Sl{c:Str}{fs:List Str}{fa:ai->Dm (List D)}(h:Wp (fa δ st) λds s1=>R (.ref s1.length) (s1 ++ [.exc c (fs.zip ds)])):Ws (j7 c fs fa δ st) N B C R:=by obtain⟨ds,s1,e,q⟩:=h;exact⟨_,_,by unfold j7;rw[e];rfl,q⟩
end
end L4
namespace L2
open PySem PySem.Spec
end L2
namespace L4
open PySem PySem.Spec L2
section
variable {K:Zfr}{W:Addr->Hp->Prop}
def Sn{tc:TT}{tb:TS}{c:ai->Dm Bool}{b:ai->Dm Fl}(hc:oO K tc c)(hb:qR K W tb b):qR K W (nF tc tb) (fX c b):=by
 intro ρ σ H δ st fl st' E l rs e q;refine⟨λm σ1 H1=>∃ρ1 δ1 st1,Mn K ρ H ρ1 H1/\Rl K ρ1 H1 st1/\Rs K ρ1 H1 σ1 δ1/\cD c b m δ1 st1=some (fl,st'),⟨fuel,ρ,δ,st,.refl,l,rs,e⟩,?_⟩;rintro m σ1 H1 ⟨ρ1,δ1,st1,m1,l1,pC,e1⟩;cases m with
 |zero=>cases e1
 |succ m =>
  obtain⟨t,st2,e2,e1⟩:=cy e1;refine hc ρ1 σ1 H1 δ1 st1 _ _ _ l1 pC e2 λx H2 ρ2 m2 l2 r2=>?_;subst r2;cases x with
  |true =>
   refine nM ?_;rw[if_pos rfl]at e1;obtain⟨f2,st3,e3,e1⟩:=cy e1;refine⟨λσ3 H3=>∃m',m' < m+1/\∃ρ1 δ1 st1,Mn K ρ H ρ1 H3/\Rl K ρ1 H3 st1/\Rs K ρ1 H3 σ3 δ1/\cD c b m' δ1 st1=some (fl,st'),λ_ _ h=>h,hb ρ2 σ1 H2 δ1 st2 f2 st3 _ l2 (pC.mn m2) e3 ?_⟩;cases f2 with
   |nx δ3=>exactλσ3 H3 ρ3 m3 l3 r3=>⟨m,Wf m,ρ3,δ3,st3,(m1.trans m2).trans m3,l3,r3,e1⟩
   |ct δ3=>exactλσ3 H3 ρ3 m3 l3 r3=>⟨m,Wf m,ρ3,δ3,st3,(m1.trans m2).trans m3,l3,r3,e1⟩
   |bk δ3=>cases e1;exact Go.mn (fl:=.nx δ3) q (m1.trans m2)
   |rt d=>cases e1;exact yS.mn q (m1.trans m2)
  |false =>
   refine nL ?_;rw[if_neg Vs]at e1;cases e1;exact Go.mn (fl:=.nx δ1) q (m1.trans m2) σ1 H2 ρ2 .refl l2 (pC.mn m2)
end
section
variable {K:Zfr}
def Sq{C:Addr}{c f1:Str}{E0:XK}{ta:TA}{fa:ai->Dm (List D)}(ha:o9 K ta fa)(hn:∀δ st as st',fa δ st=some (as,st')->as.length=1)(hc:PySem.W.nsIn K mainGlobals c=some (some (.ref C)))(es:rh K C)
  (t1:PySem.W.takerIn K C f1=some none) (hm:PySem.W.mroIn K C (.type "BaseException")=some true) (ht:PySem.W.typeIn K (.ref C)=some (.type "type")) :
  qR K (λa H'=>E0 (.ref a) none H') (oB K (qk C (ql K f1) ta) E0) (j7 c [f1] fa):=by
 intro ρ σ H δ st fl st' E l rs e q;obtain⟨ds,st1,e1,e⟩:=cy e;cases e;refine ha ρ σ H δ st ds st1 _ l rs e1 λvs H1 ρ1 m1 l1 r1=>?_;have hl:=hn _ _ _ _ e1;have hv:vs.length=1:=by rw[r1.length];exact hl
 match vs,ds,r1,hl,hv with
 |[v1],[d1],.cons a1 .nil,_,_ =>
  refine⟨(show 1<=10 by decide),λa hna=>⟨a,C,none,v1,rfl,kM,es,t1,λd hd da=>⟨rfl,a,C,some d,rfl,?_,hm,ht,λH2 y=>?_⟩⟩⟩;rw[cL (Ne.symm da),kM];have hd1:H1 d=none:=by rw[cL da]at hd;exact hd
  rw[MI]at y;obtain⟨l2,m2⟩:=l1.newX (c:=c) (C:=C) (fs:=[(f1,d1)]) (ws:=[(f1,v1)]) hna hd1 da hc λf e h=>by
   simp only[Wn,List.lookup_nil]at h ⊢;by_cases z1:(f == f1)=true;rw[z1]at h;cases h;rw[z1];exact⟨v1,rfl,a1⟩;have z1:(f == f1)=false:=by simpa using z1
   rw[z1]at h;cases h
  exact q.1 Sf a H2 (ρ1 ++ [a]) ((m1.trans m2).trans (Mn.xs y)) (l2.xs y) (.ref (newR l1))
abbrev oW(f:ai->Dm Fl)(sub:Str->Bool)(fs:ai->Dm Fl):ai->Dm Fl:=λδ st=>bnd (f δ st) λfl st1=>match fl with
 |.rt d=>if aT d st1=true then(if catches sub d st1=true then fs δ st1 else none)else some (.rt d,st1)
 |x=>some (x,st1)
def Sr{t:(St->Addr->Hp->Prop)->TS}{ts:TS}{f fs:ai->Dm Fl}{sub:Str->Bool}{F:Addr}(hf:LK K t f)(hs:lB K ts fs)(hsub:∀c C,sub c=true->PySem.W.nsIn K mainGlobals c=some (some (.ref C))->PySem.W.mroIn K C (.ref F)=some true):
  lB K (tP K t F ts) (oW f sub fs):=by
 intro ρ σ H δ st fl st' E l rs e q;obtain⟨x,st1,e1,e⟩:=cy e;refine hf ρ σ H δ st x st1 E _ l rs e1 ?_;cases x with
 |nx δ1=>cases e;exact q
 |bk δ1=>cases e;exact q
 |ct δ1=>cases e;exact q
 |rt d =>
  dsimp only at e;refine⟨λhr a H' ρ' m' l' r'=>?_,λhr=>?_⟩
  ·rw[if_pos hr]at e
   obtain⟨j,c,gs,rfl,hj⟩:=Sb hr;split at e
   ·next hca =>
    have hc:sub c=true:=by simpa[catches,hj]using hca
    cases r' with
    |ref Ss =>
     obtain⟨C,dx,tr,hn,ea,_⟩:=l'.obj j a _ Ss hj;exact⟨C,dx,tr,ea,hsub c C hc hn,hs ρ' _ H' _ st1 fl st' E l' (rs.mn m') e (q.mn m')⟩
   ·cases e
  ·rw[hr,if_neg Vs]at e
   cases e;exact q
end
section
variable {st:Store}{δ:ai}{N B C:ai->Store->Prop}{R:D->Store->Prop}{f:ai->Dm Fl}
def Sv{sub:Str->Bool}{fs:ai->Dm Fl}(h:Ws (f δ st) N B C (λd s=>(aT d s=false->R d s)/\(aT d s=true->catches sub d s=true/\Ws (fs δ s) N B C R))):
  Ws (oW f sub fs δ st) N B C R:=by
 obtain⟨fl,s1,e,q⟩:=h;unfold oW;unfold Ws;rw[e];cases fl with
 |rt d =>
  cases hr:aT d s1 with
  |false=>exact⟨.rt d,s1,by simp[bnd,hr],q.1 hr⟩
  |true =>
   obtain⟨hc,Sw,s2,e2,q2⟩:=q.2 hr;exact⟨Sw,s2,by simp[bnd,hr,hc,e2],q2⟩
 |nx δ1=>exact⟨.nx δ1,s1,rfl,q⟩
 |bk δ1=>exact⟨.bk δ1,s1,rfl,q⟩
 |ct δ1=>exact⟨.ct δ1,s1,rfl,q⟩
end
abbrev fZ:D->List D->Dm D
 |.ref k,[a],st=>match eP st 20 a,(items st k).bind (bw (eP st 19))with
  |some dx,some ds=>match ds.findIdx? λd=>PyData.eqv d dx with
   |some j=>if dx.canLay0 && ds.all PyData.canLay0 && decide (dx.depth<=60) && decide (ds.length<=1000)then some (.int (j:Int),st)else none
   |none=>none
  |_,_=>none
 |_,_,_=>none
section
variable {K:Zfr}
def Sx:yy K "list" (oE K) fZ:=by
 intro ρ H st x xs a as b st' Q l rx si e q;unfold fZ at e;split at e
 ·split at e
  ·next dx ds h1 h2 =>
   split at e
   ·next j hj =>
    split at e
    ·next ok =>
     cases e;rw[VG,VG,VG,decide_eq_true_eq,decide_eq_true_eq,WV]at ok;obtain⟨es,h3,h4⟩:=Wd.mp h2;obtain⟨y,rfl,r⟩:=si.one';cases rx with
     |ref hi =>
      obtain⟨vs,s,rr⟩:=l.items hi h3;obtain⟨hjl,hj1,hj2⟩:=WR.mp hj
      exact⟨_,vs,ds,y,dx,j,rfl,rfl,s,D6 l 19 rr h4,wA l 20 r h1,ok.1.1.2,ok.1.1.1,ok.1.2,ok.2,⟨_,Vn hjl,hj1⟩,λi d hij hd=>by
       obtain⟨hil,rfl⟩:=Vm.mp hd
       simpa using hj2 i hij,q _ H ρ .refl l (.int _)⟩
    ·cases e
   ·cases e
  ·cases e
 ·cases e
end
def Sy{st:Store}{Q:D->Store->Prop}{n k j:Nat}{a:D}{es:List D}(ha:pU n a)(hc:items st k=some es)(he:∀e∈es,pU n e)(hn:n<=15)(hl:es.length<=1000)(hj:es[j]?=some a)(hno:∀i e,i<j->es[i]?=some e->e≠a):Wp (fZ (.ref k) [a] st) Q↔Q (.int (j:Int)) st:=by
 have h1:=yR n a ha 20 ⋯ st;have h2:bw (eP st 19) es=some (es.map (cO n)):=D4 λx hx=>yR n x (he x hx) 19 ⋯ st;obtain⟨hjl,Sz⟩:=Vm.mp hj;have hf:(es.map (cO n)).findIdx? (λd=>PyData.eqv d (cO n a))=some j:=by
  refine WR.mpr ⟨by simpa using hjl,?_,λi hij=>?_⟩;rw[Xo,Sz];exact(D5 n a a ha ha).mpr rfl;have hil:i<es.length:=by lk
  rw[Xo];have hm:es[i]∈es:=XU hil;intro h;exact hno i es[i] hij (Vn hil) ((D5 n es[i] a (he _ hm) ha).mp h)
 have l1:=xK n a ha;have l2:(es.map (cO n)).all PyData.canLay0=true:=by
  rw[WV];intro d hd;obtain⟨x,hx,rfl⟩:=Vy.mp hd;exact(xK n x (he x hx)).1
 have e:fZ (.ref k) [a] st=some (.int (j:Int),st):=by
  unfold fZ;simp only[h1,hc,WJ,h2,hf,l1.1,l2,Bool.true_and,Vl,decide_eq_true_eq,VG];rw[if_pos ⟨by lk,hl⟩]
 rw[e,aP]
end L4
namespace ae
@[reducible]def CS:=List aG×List (List Sp)×List (Nat×Nat)
abbrev bF(n:Nat)(fs:List aG)(ws:List (List Sp))(k:Nat)(s:Sp):List aG×List (List Sp)×Nat :=
 if bA n (stM (fs.getD k ([],[])) s)∈fs then(fs,ws,fs.idxOf (bA n (stM (fs.getD k ([],[])) s)))else(fs ++ [bA n (stM (fs.getD k ([],[])) s)],ws ++ [(jQ (ws.getD k [] ++ [s])).reverse],fs.length)
abbrev mX(n:Nat)(c:CS):List aG×List (List Sp)×Nat:=bF n c.1 c.2.1 c.2.2.length (true,1)
abbrev kE(n:Nat)(c:CS):List aG×List (List Sp)×Nat:=bF n (mX n c).1 (mX n c).2.1 c.2.2.length (false,1)
abbrev HB(n:Nat)(c:CS):CS:=((kE n c).1,(kE n c).2.1,c.2.2 ++ [((mX n c).2.2,(kE n c).2.2)])
abbrev ch(n:Nat)(p:aG):Nat->CS
 |0=>([bA n p],[[]],[])
 |i+1=>HB n (ch n p i)
structure GR(n:Nat)(p:aG)(fs:List aG)(ws:List (List Sp)):Prop where
 nd:fs.Nodup
 own:∀q∈fs,Wh n q/\bA n q=q
 wl:ws.length=fs.length
 hd:fs[0]?=some (bA n p)
 wd:∀(k:Nat) (w:List Sp),ws[k]?=some w->Pl w.reverse/\w.length<=k/\(∀s∈w,s.2.natAbs<=k+3)/\∃q,fs[k]?=some q/\aS n (mS p w) q
abbrev SA(n:Nat)(fs:List aG)(ls:List (Nat×Nat)):Prop:=∀(k:Nat) (l:Nat×Nat),ls[k]?=some l->∃p,fs[k]?=some p/\fs[l.1]?=some (bA n (stM p (true,1)))/\fs[l.2]?=some (bA n (stM p (false,1)))
structure GC(n:Nat)(p:aG)(c:CS)(i:Nat):Prop where
 r:GR n p c.1 c.2.1
 ll:c.2.2.length=i
 le:i<=c.1.length
 ld:SA n c.1 c.2.2
section
variable {n:Nat}{p:aG}
def GR.few{fs:List aG}{ws:List (List Sp)}(g:GR n p fs ws):0<fs.length:=(Vm.mp g.hd).1
def qS(w:Wh n p)(n0:0<n):Wh n (bA n p)/\bA n (bA n p)=bA n p/\aS n p (bA n p):=by
 obtain⟨s,s0,s1,e⟩:=G2 p n0;have tb:=w.bf s0 s1;have a:aS n p (bA n p):=⟨inv (bf p.1 p.2 s n),tb.aq,by rw[e,tR w.v.1 tb,tR w.v.2 tb];rfl⟩;have wq:Wh n (bA n p):=by
  obtain⟨g,tg,eq⟩:=a;have:=oS (xs:=p.1) (ys:=p.2) ⟨w.v.1,w.v.2,w.all⟩ tg n0;rw[eq];exact⟨⟨this.1,this.2.1⟩,this.2.2⟩
 exact⟨wq,(tW n0 w.v a).symm,a⟩
def SD{fs:List aG}{q:aG}(h:q∈fs):fs[fs.idxOf q]?=some q:=by have hl:=W8 h;rw[Vn hl,XE]
def SE{w:List Sp}{k:Nat}{s:Sp}(hp:Pl w.reverse)(hn:∀a∈w,a.2.natAbs<=k+3)(hs:s=(true,1)\/s=(false,1)):Pl (jQ (w ++ [s]))/\∀a∈(jQ (w ++ [s])),a.2.natAbs<=k+1+3:=by
 have ps:iY s:=by rcases hs with rfl|rfl<;>exact⟨λ_=>by decide,by decide⟩
 have ew:jQ w=w.reverse:=by
  have:=Pl.lr hp
  rwa [List.reverse_reverse]at this
 have e:jQ (w ++ [s])=bQ w.reverse s:=by
  rw[Ku,ew];rfl
 rw[e];refine⟨hp.push ps,λa ha=>?_⟩;have s1:s.2.natAbs<=1:=by rcases hs with rfl|rfl<;>decide
 exact Qc (M:=k+3) (B:=1) (λx hx=>hn x (Xb.mp hx)) s1 ps hp a ha
def Bp{fs:List aG}{ws:List (List Sp)}{k:Nat}{s:Sp}(n0:0<n)(g:GR n p fs ws)(vp:Vf n p)(hk:k<fs.length)(hs:s=(true,1)\/s=(false,1)):
  GR n p (bF n fs ws k s).1 (bF n fs ws k s).2.1/\(∀(i:Nat) (q:aG),fs[i]?=some q->(bF n fs ws k s).1[i]?=some q)/\fs.length<=(bF n fs ws k s).1.length/\(bF n fs ws k s).1.length<=fs.length+1/\∃q,fs[k]?=some q/\(bF n fs ws k s).1[(bF n fs ws k s).2.2]?=some (bA n (stM q s)):=by
 have ek:fs[k]?=some (fs.getD k ([],[])):=by rw[Vz,Vn hk];rfl
 generalize hq:fs.getD k ([],[])=q at ek;obtain⟨wq,oq⟩:=g.own q (Vv ek);have HC:=wq.st n0 s;obtain⟨wF,oF,aF⟩:=qS HC n0;unfold bF;rw[hq];by_cases hm:bA n (stM q s)∈fs;rw[if_pos hm];exact⟨g,λ_ _ h=>h,Vp _,Wc _,q,ek,SD hm⟩;rw[if_neg hm];have SG:k<ws.length:=by rw[g.wl];exact hk
 have ew:ws[k]?=some (ws.getD k []):=by rw[Vz,Vn SG];rfl
 generalize ws.getD k []=w at ew;obtain⟨pw,lw,nw,q',eq',aw⟩:=g.wd k w ew;rw[ek]at eq';cases eq';obtain⟨pl,nl⟩:=SE (k:=k) pw nw hs;refine⟨⟨W3.mpr ⟨g.nd,by simp,λx hx y hy e=>hm (by rw[<- VE.mp hy,<- e];exact hx)⟩,λq' hq'=>?_,by rw[Vq,Vq,g.wl];rfl,by rw[VC g.few];exact g.hd,λi v hv=>?_⟩,λi q' h=>by rw[VC (Vm.mp h).1];exact h,by rw[Vq];lk,by rw[Vq];exact Vp _,q,ek,?_⟩;rcases VQ.mp hq' with h|h
 exact g.own q' h;rw[VE.mp h];exact⟨wF,oF⟩;by_cases hi:i<ws.length;rw[VC hi]at hv;obtain⟨a1,a2,a3,q',b1,b2⟩:=g.wd i v hv;exact⟨a1,a2,a3,q',by rw[VC (Vm.mp b1).1];exact b1,b2⟩;have hi2:i=ws.length:=by
  have:=(Vm.mp hv).1;rw[Vq]at this;have:i<ws.length+1:=this;lk
 subst hi2;rw[VM (Vp _),WK]at hv;cases(show some _=some v from hv);refine⟨by rw[List.reverse_reverse];exact pl,?_,λa ha=>?_,bA n (stM q s),?_,?_⟩;rw[XA]
 have:=Kv (w ++ [s]);rw[Vq]at this;have:(jQ (w ++ [s])).length<=w.length+1:=this;lk
 have:=nl a (Xb.mp ha)
 lk;rw[g.wl,VM (Vp _),WK];rfl;have bL:∀ a∈w ++ [s],iY a:=λa ha=>by
  rcases VQ.mp ha with h|h
  exact Pl.pr pw a (Xb.mpr h);rw[VE.mp h];rcases hs with rfl|rfl<;>exact⟨λ_=>by decide,by decide⟩
 have e1:bD (jQ (w ++ [s])).reverse=bD (w ++ [s]):=Kw bL;have pp:∀a∈(jQ (w ++ [s])).reverse,iY a:=λa ha=>Pl.pr pl a (Xb.mp ha);have a1:=Qx pp bL e1 vp;have a2:aS n (mS p (w ++ [s])) (stM q s):=by
  rw[G0];exact aS.st vp.ld aw s
 exact aS.trans vp.ld (aS.trans vp.ld a1 a2) aF;rw[VM (Vp _),WK];rfl
def uy(n0:0<n)(w:Wh n p):∀i:Nat,(∀j,j<i->j<(ch n p j).1.length)->GC n p (ch n p i) i
 |0,_=>by
  obtain⟨wF,oF,aF⟩:=qS w n0
  exact⟨⟨by show[bA n p].Nodup;simp,λq hq=>by rw[VE.mp hq];exact⟨wF,oF⟩,rfl,rfl,λk v hv=>by
   cases k with
   |zero =>
    cases(show some []=some v from hv);exact⟨trivial,Vp _,(λs hs=>nomatch hs),_,rfl,aF⟩
   |succ k=>cases(show none=some v from hv)⟩,rfl,VX _,λk l hl=>nomatch hl⟩
 |i+1,h=>by
  have g:=uy n0 w i λj hj=>h j ⋯;have hi:=h i ⋯;have n5:=g.ll;have vp:=w.v;have r1:=Bp (s:=(true,1)) n0 g.r vp (k:=(ch n p i).2.2.length) ⋯ (.inl rfl);have r2:=Bp (s:=(false,1)) n0 r1.1 vp (k:=(ch n p i).2.2.length) (by have:=r1.2.2.1;lk) (.inr rfl);refine⟨r2.1,by show((ch n p i).2.2 ++ [_]).length=i+1;rw[Vq,n5];rfl,?_,λk l hl=>?_⟩;have a:=r1.2.2.1;have b:=r2.2.2.1;show i+1<=(kE n (ch n p i)).1.length;unfold kE mX;lk;have hl:((ch n p i).2.2 ++ [((mX n (ch n p i)).2.2,(kE n (ch n p i)).2.2)])[k]?=some l:=hl;by_cases hk:k<(ch n p i).2.2.length;rw[VC hk]at hl;obtain⟨q,b1,b2,b3⟩:=g.ld k l hl;exact⟨q,r2.2.1 _ _ (r1.2.1 _ _ b1),r2.2.1 _ _ (r1.2.1 _ _ b2),r2.2.1 _ _ (r1.2.1 _ _ b3)⟩;have hk2:k=(ch n p i).2.2.length:=by
   have:=(Vm.mp hl).1;rw[Vq]at this;have:k<(ch n p i).2.2.length+1:=this;lk
  subst hk2;rw[VM (Vp _),WK]at hl;cases(show some _=some l from hl);obtain⟨q1,c1,c2⟩:=r1.2.2.2.2;obtain⟨q2,d1,d2⟩:=r2.2.2.2.2;have:q2=q1:=by
   have:=r1.2.1 _ _ c1;rw[d1]at this;exact Vu this
  subst this;exact⟨q2,r2.2.1 _ _ d1,r2.2.1 _ _ c2,d2⟩
structure Full(n:Nat)(p:aG)(c:CS)(N:Nat):Prop extends GC n p c N where
 fl:c.1.length=N
end
end ae
namespace ae
end ae
namespace ae
end ae
namespace ae
abbrev sT(c:CS):List Int:=c.2.2.map λl=>(l.1:Int)
abbrev tT(c:CS):List Int:=c.2.2.map λl=>(l.2:Int)
abbrev yT(c:CS):List Int:=aK (tT c) (tT c)
section
variable {n:Nat}{p:aG}{c:CS}{N:Nat}
def Full.sx(h:Full n p c N){k:Nat}{q:aG}(hq:c.1[k]?=some q):∃l:Nat×Nat,c.2.2[k]?=some l/\c.1[l.1]?=some (bA n (Sh 1 q))/\c.1[l.2]?=some (bA n (Qt q)):=by
 have hk:k<c.2.2.length:=by rw[h.ll,<- h.fl];exact(Vm.mp hq).1
 obtain⟨q',b1,b2,b3⟩:=h.ld k _ (Vn hk);rw[hq]at b1;cases b1;exact⟨_,Vn hk,b2,b3⟩
def Full.xO(n0:0<n)(h:Full n p c N):Tn N (sT c):=by
 have:=KW (fs:=c.1) (c:=sT c) (λq=>bA n (Sh 1 q)) h.r.nd (by unfold sT;rw[Vl,h.ll,h.fl]) (λk q hq=>by
  obtain⟨l,h1,h2,_⟩:=h.sx hq
  exact⟨l.1,by unfold sT;rw[Vr,h1];rfl,h2⟩) (λa ha b hb e=>wo n0 1 (h.r.own a ha).1 (h.r.own b hb).1 (h.r.own a ha).2 (h.r.own b hb).2 e)
 rw[h.fl]at this;exact this
def Full.Bq(n0:0<n)(h:Full n p c N):Tn N (tT c):=by
 have:=KW (fs:=c.1) (c:=tT c) (λq=>bA n (Qt q)) h.r.nd (by unfold tT;rw[Vl,h.ll,h.fl]) (λk q hq=>by
  obtain⟨l,h1,_,h2⟩:=h.sx hq
  exact⟨l.2,by unfold tT;rw[Vr,h1];rfl,h2⟩) (λa ha b hb e=>wt n0 (h.r.own a ha).1 (h.r.own b hb).1 (h.r.own a ha).2 (h.r.own b hb).2 e)
 rw[h.fl]at this;exact this
def Full.yU(n0:0<n)(h:Full n p c N):Tn N (yT c):=(h.Bq n0).aK (h.Bq n0)
abbrev At(c:CS)(x:Int)(q:aG):Prop:=0<=x/\c.1[x.toNat]?=some q
def At.lt(h:Full n p c N){x:Int}{q:aG}(a:At c x q):x<(N:Int):=by have:=(Vm.mp a.2).1;rw[h.fl]at this;have:=a.1;lk
def At.ex(h:Full n p c N){x:Int}(x0:0<=x)(x1:x<(N:Int)):∃q,At c x q:=⟨_,x0,Vn (by rw[h.fl];lk)⟩
def At.own(h:Full n p c N){x:Int}{q:aG}(a:At c x q):Wh n q/\bA n q=q:=h.r.own q (Vv a.2)
def At.inj(h:Full n p c N){x y:Int}{q:aG}(a:At c x q)(b:At c y q):x=y:=by
 obtain⟨g1,g2⟩:=Vm.mp a.2;obtain⟨g3,g4⟩:=Vm.mp b.2;have:x.toNat=y.toNat:=by
  rcases Nat.lt_trichotomy x.toNat y.toNat with z|z|z
  exact absurd (by rw[g2,g4]) (V3.mp h.r.nd _ _ g1 g3 z);exact z;exact absurd (by rw[g2,g4]) (V3.mp h.r.nd _ _ g3 g1 z)
 have:=a.1;have:=b.1;lk
def At.fn{x:Int}{q r:aG}(a:At c x q)(b:At c x r):q=r:=by have:=a.2.symm.trans b.2;exact Vu this
def At.s(h:Full n p c N){x:Int}{q:aG}(a:At c x q):At c (app (sT c) x) (bA n (Sh 1 q)):=by
 obtain⟨l,h1,h2,_⟩:=h.sx a.2;have e:app (sT c) x=(l.1:Int):=by
  unfold app sT;rw[Vz,Vr,h1];rfl
 rw[e];exact⟨by lk,by rw[VB];exact h2⟩
def At.t(h:Full n p c N){x:Int}{q:aG}(a:At c x q):At c (app (tT c) x) (bA n (Qt q)):=by
 obtain⟨l,h1,_,h2⟩:=h.sx a.2;have e:app (tT c) x=(l.2:Int):=by
  unfold app tT;rw[Vz,Vr,h1];rfl
 rw[e];exact⟨by lk,by rw[VB];exact h2⟩
def yV(n0:0<n){q:aG}(w:Wh n q)(k:Int):bA n (Sh k (bA n q))=bA n (Sh k q):=(tW n0 (w.sh n0 k).v (aS.sh w.v (qS w n0).2.2 k)).symm
def Br(n0:0<n){q:aG}(w:Wh n q):bA n (Qt (bA n q))=bA n (Qt q):=(tW n0 (w.qt n0).v (aS.qt w.v (qS w n0).2.2)).symm
def At.up(n0:0<n)(h:Full n p c N){x:Int}{q:aG}(a:At c x q):∀m:Nat,At c (aO (sT c) x m) (bA n (Sh (m:Int) q))
 |0=>by
  show At c x _;rw[show((0:Nat):Int)=0 from rfl,kU (a.own h).1.v,(a.own h).2];exact a
 |m+1=>by
  have w:=(a.own h).1;have:=(At.up n0 h a m).s h;rw[yV n0 (w.sh n0 _),qA w.v]at this;exact this
def At.pw(n0:0<n)(h:Full n p c N){x:Int}{q:aG}(a:At c x q)(k:Int):At c (ae.pw (sT c) k x) (bA n (Sh k q)):=by
 have ts:=h.xO n0;by_cases hk:0<=k
 have:=a.up n0 h k.toNat
 rw[show((k.toNat:Nat):Int)=k by lk]at this;unfold ae.pw;rw[if_pos hk];exact this;obtain⟨y0,y1⟩:=ts.pw a.1 (a.lt h) k;obtain⟨r,b⟩:=At.ex h y0 y1;have:=b.up n0 h (-k).toNat;rw[show(((-k).toNat:Nat):Int)=-k by lk]at this;have e:aO (sT c) (ae.pw (sT c) k x) (-k).toNat=x:=by
  have e1:=ts.pw_add a.1 (a.lt h) (-k) k;rw[Xp]at e1;have e2:ae.pw (sT c) (-k) (ae.pw (sT c) k x)=aO (sT c) (ae.pw (sT c) k x) (-k).toNat:=by unfold ae.pw;rw[if_pos (show 0<=-k by lk)]
  rw[<- e2,e1];rfl
 rw[e]at this;have e3:=a.fn this;have wr:=(b.own h).1;rw[e3,yV n0 (wr.sh n0 (-k)),qA wr.v,Xp,kU wr.v,(b.own h).2];exact b
abbrev KF(n:Nat)(q r:aG):Prop:=∃(k:Int) (e:Bool),r=bA n (Sh k (jn e q))
def Wh.q2(n0:0<n){q:aG}(w:Wh n q):Wh n (Q2 q):=(w.qt n0).qt n0
def Wh.jn(n0:0<n){q:aG}(w:Wh n q)(e:Bool):Wh n (ae.jn e q):=by cases e;exact w;exact w.q2 n0
def KF.refl{q:aG}(w:Wh n q)(o:bA n q=q):KF n q q:=⟨0,false,by show q=bA n (Sh 0 q);rw[kU w.v,o]⟩
def KF.s(n0:0<n){q r:aG}(w:Wh n q)(a:KF n q r)(j:Int):KF n q (bA n (Sh j r)):=by obtain⟨k,e,rfl⟩:=a;have we:=w.jn n0 e;exact⟨k+j,e,by rw[yV n0 (we.sh n0 k),qA we.v]⟩
def KF.t(n0:0<n){q r:aG}(w:Wh n q)(a:KF n q r):KF n q (bA n (Q2 r)):=by
 obtain⟨k,e,rfl⟩:=a;have we:=w.jn n0 e;have wk:=we.sh n0 k;refine⟨k,!e,?_⟩;have e1:bA n (Q2 (bA n (Sh k (ae.jn e q))))=bA n (Q2 (Sh k (ae.jn e q))):=(tW n0 (wk.q2 n0).v (aS.q2 wk.v (qS wk n0).2.2)).symm;rw[e1,tW n0 (wk.q2 n0).v (GY we.v k)]
 congr 2
 cases e;rfl;exact Az w.v
def KF.symm(n0:0<n){q r:aG}(w:Wh n q)(o:bA n q=q)(a:KF n q r):KF n r q:=by obtain⟨k,e,rfl⟩:=a;have we:=w.jn n0 e;have wk:=we.sh n0 k;have h1:=KF.s n0 (qS wk n0).1 (KF.refl (qS wk n0).1 (qS wk n0).2.1) (-k);rw[yV n0 wk,qA we.v,Xj,kU we.v]at h1;cases e;have h1:KF n (bA n (Sh k q)) (bA n q):=h1;rw[o]at h1;exact h1;have h2:=KF.t n0 (qS wk n0).1 h1;have h2:KF n (bA n (Sh k (Q2 q))) (bA n (Q2 (bA n (Q2 q)))):=h2;have e1:bA n (Q2 (bA n (Q2 q)))=bA n (Q2 (Q2 q)):=(tW n0 ((w.q2 n0).q2 n0).v (aS.q2 (w.q2 n0).v (qS (w.q2 n0) n0).2.2)).symm;rw[e1,Az w.v,o]at h2;exact h2
def KF.trans(n0:0<n){q r t:aG}(w:Wh n q)(a:KF n q r)(b:KF n r t):KF n q t:=by
 obtain⟨k,e,rfl⟩:=b;cases e;exact a.s n0 w k;have h1:=(a.t n0 w).s n0 w k;have wr:Wh n r:=by obtain⟨j,f,rfl⟩:=a;exact(qS ((w.jn n0 f).sh n0 j) n0).1
 rw[yV n0 (wr.q2 n0)]at h1;exact h1
def At.y(n0:0<n)(h:Full n p c N){x:Int}{q:aG}(a:At c x q):At c (app (yT c) x) (bA n (Q2 q)):=by
 have:=(a.t h).t h;rw[Br n0 ((a.own h).1.qt n0)]at this;have e:app (yT c) x=app (tT c) (app (tT c) x):=by
  unfold yT;exact lq a.1 (by rw[(h.Bq n0).length];exact a.lt h)
 rw[e];exact this
end
def HD{xs ys:List Int}{s:Int}{P:Int->Prop}(h0:P s)(hx:∀y,P y->P (app xs y))(hy:∀y,P y->P (app ys y)):∀k,∀y∈bf xs ys s k,P y
 |0,y,h=>by rw[VE.mp h];exact h0
 |k+1,y,h=>by
  have ih:=HD h0 hx hy k;unfold bf at h;split at h
  ·next x hx' =>
   have px:=ih x (Vv hx');have key:∀(F:List Int) (z:Int),y∈bZ F z->y∈F\/y=z:=λF z hm=>by
    unfold bZ at hm;split at hm
    ·exact .inl hm
    ·rcases VQ.mp hm with hm|hm
     ·exact .inl hm
     ·exact .inr (VE.mp hm)
   unfold visit at h;rcases key _ _ h with h|rfl
   ·rcases key _ _ h with h|rfl
    ·exact ih y h
    ·exact hx _ px
   ·exact hy _ px
  ·exact ih y h
def pw_itr{n:Nat}{xs:List Int}{x:Int}(tx:Tn n xs)(x0:0<=x)(x1:x<(n:Int))(k:Int):∃m:Nat,m<n/\ae.pw xs k x=aO xs x m:=by obtain⟨m,e,nb,bk⟩:=(Qy tx x0 x1).ex;have hml:=tx.iX x0 x1 nb;have h1:=tx.pw_add x0 x1 (k % ((m+1:Nat):Int)) (((m+1:Nat):Int)*(k / ((m+1:Nat):Int)));rw[tx.pw_per x0 x1 bk,Int.emod_add_mul_ediv]at h1;have h2:0<=k % ((m+1:Nat):Int):=Wu _ ⋯;have h3:k % ((m+1:Nat):Int)<((m+1:Nat):Int):=WC _ ⋯;refine⟨(k % ((m+1:Nat):Int)).toNat,by lk,?_⟩;rw[<- h1];unfold ae.pw;rw[if_pos h2]
def LN{xs ys F:List Int}(h:Cl xs ys F){x:Int}(hx:x∈F):∀m,aO xs x m∈F
 |0=>hx
 |m+1=>(h _ (LN h hx m)).1
section
variable {n:Nat}{p:aG}{c:CS}{N:Nat}
def D9(xs ys:List Int)(s:Int):∀k,s∈bf xs ys s k
 |0=>Xh s
 |k+1=>(Km xs ys s k).subset (D9 xs ys s k)
def Bs(n0:0<n)(h:Full n p c N){x y:Int}{q r:aG}(a:At c x q)(b:At c y r):y∈bf (sT c) (yT c) x N↔KF n q r:=by
 have wq:=(a.own h).1;have ts:=h.xO n0;have ty:=h.yU n0;constructor;intro hy
 have:=HD (xs:=sT c) (ys:=yT c) (s:=x) (P:=λz=>∃u,At c z u/\KF n q u) ⟨q,a,KF.refl wq (a.own h).2⟩ (λz ⟨u,hu,ku⟩=>⟨_,hu.s h,ku.s n0 wq 1⟩) (λz ⟨u,hu,ku⟩=>⟨_,hu.y n0 h,ku.t n0 wq⟩) N y hy;obtain⟨u,hu,ku⟩:=this;rw[b.fn hu];exact ku
 rintro⟨k,e,er⟩;have cl:=Ap ts ty a.1 (a.lt h);have hx:=D9 (sT c) (yT c) x N;obtain⟨x',hx',a'⟩:∃x',x'∈bf (sT c) (yT c) x N/\At c x' (bA n (jn e q)):=by
  cases e;exact⟨x,hx,by show At c x (bA n q);rw[(a.own h).2];exact a⟩;exact⟨_,(cl x hx).2,a.y n0 h⟩
 have a2:=a'.pw n0 h k;rw[yV n0 (wq.jn n0 e),<- er]at a2;rw[b.inj h a2];obtain⟨m,_,em⟩:=pw_itr ts a'.1 (a'.lt h) k;rw[em];exact LN cl hx' m
def SH(n0:0<n)(h:Full n p c N){x y:Int}{q r:aG}(a:At c x q)(b:At c y r)(k:KF n q r)(z:Int):z∈bf (sT c) (yT c) x N↔z∈bf (sT c) (yT c) y N:=by have ts:=h.xO n0;have ty:=h.yU n0;constructor;intro hz;obtain⟨z0,z1⟩:=nU ts ty a.1 (a.lt h) N z hz;obtain⟨u,hu⟩:=At.ex h z0 z1;exact(Bs n0 h b hu).mpr ((k.symm n0 (a.own h).1 (a.own h).2).trans n0 (b.own h).1 ((Bs n0 h a hu).mp hz));intro hz;obtain⟨z0,z1⟩:=nU ts ty b.1 (b.lt h) N z hz;obtain⟨u,hu⟩:=At.ex h z0 z1;exact(Bs n0 h a hu).mpr (k.trans n0 (a.own h).1 ((Bs n0 h b hu).mp hz))
end
end ae
namespace L4
open PySem PySem.Spec L2
abbrev Bt(i:Int):Prop:=i.natAbs.log2<1920
abbrev n8:Nat->D->Prop
 |_,.int i=>Bt i
 |_,.non=>True
 |_,.str x=>PyData.showable (.str x)=true/\PyData.canLay0 (.str x)=true
 |n+1,.tup ds=>∀d∈ds,n8 n d
 |_,_=>False
def LO:∀{l:List PyData},(∀x∈l,PyData.showable x=true)->PyData.showableAll l=true
 |[],_=>rfl
 |a :: r,h=>by
  show(PyData.showable a && PyData.showableAll r)=true;rw[h a Vw,LO λx hx=>h x (VA _ hx)];rfl
def LP:∀{l:List PyData},(∀x∈l,o3 x=true)->o4 l=true
 |[],_=>rfl
 |a :: r,h=>by
  show(o3 a && o4 r)=true;rw[h a Vw,LP λx hx=>h x (VA _ hx)];rfl
def LQ{b:Nat}:∀{l:List PyData},(∀x∈l,L2.wD x<=b)->mO l<=l.length*(b+2)
 |[],_=>VX _
 |a :: r,h=>by
  show L2.wD a+2+mO r<=(r.length+1)*(b+2);have h1:=h a Vw;have h2:=LQ λx hx=>h x (VA _ hx);rw[Nat.add_mul];lk
def LR:∀(n:Nat) (d:D),n8 n d->pU n d
 |n,.int _,_=>by cases n<;>exact True.intro
 |n,.non,_=>by cases n<;>exact True.intro
 |n,.str x,h=>by cases n<;>exact h.2
 |n+1,.tup ds,h=>λd hd=>LR n d (h d hd)
 |0,.tup ds,h=>h.elim
 |n,.bl _,h=>by cases n<;>exact h.elim
 |n,.ref _,h=>by cases n<;>exact h.elim
 |n,.ty _,h=>by cases n<;>exact h.elim
def LS:∀(n:Nat) (d:D),n8 n d->(cO n d).showable=true/\o3 (cO n d)=true
 |n,.int i,h=>by
  have h:Bt i:=by cases n<;>exact h
  have e:cO n (.int i)=.int i:=by cases n<;>rfl
  rw[e];exact⟨by simp only[PyData.showable,decide_eq_true_eq];exact h,by simp only[o3]⟩
 |n,.non,_=>by
  have e:cO n .non=.none:=by cases n<;>rfl
  rw[e];exact⟨by simp only[PyData.showable],by simp only[o3]⟩
 |n,.str x,h=>by
  have h:PyData.showable (.str x)=true/\PyData.canLay0 (.str x)=true:=by cases n<;>exact h
  have e:cO n (.str x)=.str x:=by cases n<;>rfl
  rw[e];exact⟨h.1,by simp only[o3]⟩
 |n+1,.tup ds,h=>by
  have e:cO (n+1) (.tup ds)=.tuple (ds.map (cO n)):=rfl;rw[e];have all:∀x∈ds.map (cO n),x.showable=true/\o3 x=true:=λx hx=>by
   obtain⟨d,hd,rfl⟩:=Vy.mp hx;exact LS n d (h d hd)
  refine⟨?_,?_⟩;simp only[PyData.showable];exact LO λx hx=>(all x hx).1;simp only[o3];exact LP λx hx=>(all x hx).2
 |0,.tup ds,h=>h.elim
 |n,.bl _,h=>by cases n<;>exact h.elim
 |n,.ref _,h=>by cases n<;>exact h.elim
 |n,.ty _,h=>by cases n<;>exact h.elim
def Ea{st:Store}{Q:D->Store->Prop}{n:Nat}{d:D}(h:n8 n d)(hn:n<=15)(hw:L2.wD (cO n d)<=16777216):Wp (iN [d] st) Q↔Q (.str (cO n d).shown) st:=by have a:=LS n d h;have p:=LR n d h;have l:=xK n d p;have e:=yR n d p 20 ⋯ st;rw[Rz];constructor;rintro⟨q,h1,_,h2⟩;rw[e]at h1;cases h1;exact h2;intro q;exact⟨_,e,⟨a.1,l.1,VH (JB _ a.1 a.2) hw,by lk⟩,q⟩
def xP{n b:Nat}{ds:List D}(h:∀d∈ds,L2.wD (cO n d)<=b):L2.wD (cO (n+1) (.tup ds))<=ds.length*(b+2)+3:=by
 have e:cO (n+1) (.tup ds)=.tuple (ds.map (cO n)):=rfl;rw[e];simp only[L2.wD];have:=LQ (b:=b) (l:=ds.map (cO n)) λx hx=>by
  obtain⟨d,hd,rfl⟩:=Vy.mp hx;exact h d hd
 rw[Vl]at this;lk
def HE(n:Nat)(i:Int):L2.wD (cO n (.int i))=1921:=by
 have e:cO n (.int i)=.int i:=by cases n<;>rfl
 exact(congrArg L2.wD e).trans (by simp only[L2.wD])
abbrev Eb:D->Option Int
 |.tup (.int n :: _)=>some n
 |_=>none
abbrev jL:List D->Dm D
 |[a],st=>match bh st a with
  |some ds=>match bw Eb ds with
   |some ns=>if ds.length<64/\ns.Pairwise (· < ·)then some (.ref st.length,st ++ [.lst ds])else none
   |none=>none
  |none=>none
 |_,_=>none
def LU{α β:Type}{f:α->Option β}:∀{ds:List α} {ns:List β},bw f ds=some ns->ns.length=ds.length/\∀(i:Nat) (n:β),ns[i]?=some n->∃d,ds[i]?=some d/\f d=some n
 |[],_,h=>by cases h;exact⟨rfl,λi n e=>by simp at e⟩
 |d :: ds,_,h=>by
  obtain⟨b,t,e1,e2,rfl⟩:=yF h;obtain⟨hl,hg⟩:=LU e2;refine⟨congrArg Nat.succ hl,λi n e=>?_⟩;cases i with
  |zero=>cases e;exact⟨d,rfl,e1⟩
  |succ i=>exact hg i n e
section
variable {K:Zfr}
def SI:qB K (qr K) jL:=by
 intro ρ H st xs as b st' Q l rx e q;unfold jL at e;split at e
 ·next a =>
  split at e
  ·next ds hds =>
   split at e
   ·next ns hn =>
    split at e
    ·next ok =>
     cases e;obtain⟨v,rfl,r⟩:=rx.one';obtain⟨p,vs,rfl,hs,rr⟩:=yH l r hds;obtain⟨hl,hg⟩:=LU hn;have hv:=rr.length;refine⟨_,vs,ns,rfl,hs,by lk,ok.2,by lk,λi v n e1 e2=>?_,λp hp=>q _ _ _ (Mn.new hp) (l.newL hp rr) (.ref (newR l))⟩;obtain⟨d,hd,hf⟩:=hg i n e2;obtain⟨v',hv',rv⟩:=rr.got hd;rw[e1]at hv';cases hv';unfold Eb at hf;split at hf
     ·cases hf
      cases rv with
      |tup hs' SJ =>
       cases SJ with
       |cons r1 r2 =>
        cases r1;exact⟨_,_,rfl,hs'⟩
     ·cases hf
    ·cases e
   ·cases e
  ·cases e
 ·cases e
end
def SK{st:Store}{Q:D->Store->Prop}{a:D}{ds:List D}{ns:List Int}(ha:bh st a=some ds)(hn:bw Eb ds=some ns)(hl:ds.length<64)(hp:ns.Pairwise (· < ·)):Wp (jL [a] st) Q↔Q (.ref st.length) (st ++ [.lst ds]):=by
 have e:jL [a] st=some (.ref st.length,st ++ [.lst ds]):=by
  simp only[jL,ha,hn];rw[if_pos ⟨hl,hp⟩]
 rw[e,aP]
abbrev oX(st:Store):D->Option (Nat×Nat)
 |.ref k=>match st[k]? with
  |some (.lst [.int (.ofNat i),.int (.ofNat j)])=>some (i,j)
  |_=>none
 |_=>none
abbrev l8(fd:ai->Dm D):ai->Dm D:=λδ st=>bnd (fd δ st) λx st1=>match oX st1 x with
 |some (i,j)=>if i<60/\j<60 then some (.ref st1.length,st1 ++ [.lst ((jX i j).map D.int)])else none
 |none=>none
def xQ{st:Store}{x:D}{i j:Nat}(h:oX st x=some (i,j)):∃k:Nat,x=.ref k/\st[k]?=some (.lst [.int i,.int j]):=by
 unfold oX at h;split at h
 ·next k =>
  split at h
  ·next a b e =>
   obtain⟨rfl,rfl⟩:a=i/\b=j:=by simpa using h
   exact⟨k,rfl,e⟩
  ·cases h
 ·cases h
def xR{st:Store}{k i j:Nat}(h:st[k]?=some (.lst [.int i,.int j])):oX st (.ref k)=some (i,j):=by show(match st[k]? with|some (.lst [.int (.ofNat i),.int (.ofNat j)])=>some (i,j)|_=>none)=_;rw[h]
section
variable {K:Zfr}
def SM{td:TE}{fd:ai->Dm D}(hd:fE K td fd):fE K (qu td) (l8 fd):=by
 intro ρ σ H δ st b st' Q l rs e q;obtain⟨x,st1,e1,e⟩:=cy e;refine hd ρ σ H δ st x st1 _ l rs e1 λvx H1 ρ1 m1 l1 r1=>?_;split at e
 ·next i j hx =>
  split at e
  ·next hb =>
   cases e;obtain⟨k,rfl,hk⟩:=xQ hx;cases r1 with
   |ref hr =>
    obtain⟨vs,eH,rv⟩:=l1.obj k _ _ hr hk;cases rv with
    |cons ra rv =>
     cases rv with
     |cons rb rv =>
      cases rv;cases ra;cases rb;exact⟨_,i,j,rfl,eH,hb.1,hb.2,λp hp=>q _ _ _ (m1.trans (Mn.new hp)) (l1.newL hp (bI.ints _)) (.ref (newR l1))⟩
  ·cases e
 ·cases e
end
section
variable {st:Store}{Q:D->Store->Prop}{δ:ai}
def SN{fd:ai->Dm D}(h:Wp (fd δ st) λx st1=>∃k i j:Nat,x=.ref k/\st1[k]?=some (.lst [.int i,.int j])/\i<60/\j<60/\Q (.ref st1.length) (st1 ++ [.lst ((jX i j).map D.int)])):Wp (l8 fd δ st) Q:=by unfold l8;rw[cz];refine bp h λx st1 ⟨k,i,j,ex,hk,hi,hj,q⟩=>?_;subst ex;rw[xR hk];dsimp only;rw[if_pos ⟨hi,hj⟩,aP];exact q
end
end L4
namespace My
local macro_rules|`(tactic| w_up)=>`(tactic| first|exact .inl rfl|exact .inr rfl|assumption)
local macro_rules|`(tactic| w_fin)=>`(tactic| decide +kernel)
local macro_rules|`(tactic|walk)=>`(tactic|exact ⟨rfl,rfl,rfl,by w_fin,rfl,by w_fin,by w_fin⟩)
local macro_rules|`(tactic| k_lt $h)=>`(tactic| (refine L4.cP ?_;intro _ $h;set_option simprocs false in simp only[L4.bO]))
local macro_rules|`(tactic|exists $l,*)=>`(tactic|set_option simprocs false in simp only[L4.bO,$[$l:term],*])
local macro_rules|`(tactic| w_how)=>`(tactic| set_option simprocs false in simp only[L4.bO])
open PySem L2 L4
local macro_rules|`($a<|$b)=>`(@M3 _ _ _ _ _ $a $b (by rfl))
local macro_rules|`($a<|>$b)=>`(@MQ _ _ _ _ _ $a $b)
local macro_rules|`($a<*$b<*$c)=>`(@zD _ _ _ _ _ _ _ $a $b $c (λ_ _=>rfl))
local macro_rules|`(~~~$a)=>`(@Iu _ _ _ $a)
local macro_rules|`($a<*>$b<*>$c)=>`(@zg _ _ _ _ _ _ _ _ $a $b $c)
local macro_rules|`($a&&&$b&&&$c)=>`(@u9 _ _ _ _ _ _ _ _ PassesOwn.never rfl $a $b $c (by intro _;rfl))
local macro_rules|`($a>>=$b>>=$c)=>`(@u7 (i:=$a) _ _ _ _ _ _ (ax.nd $b) rfl (by w_up) $c (by rfl) (by w_up))
def SO:∀δ st as st',ah δ st=some (as,st')->as.length=0:=λ_ _ _ _ h=>QC h
def mG{f1:ai->Dm D}:∀δ st as st',af f1 ah δ st=some (as,st')->as.length=1:=DP SO
def jf{f1 f2:ai->Dm D}:∀δ st as st',af f2 (af f1 ah) δ st=some (as,st')->as.length=2:=DP mG
def SQ{f1 f2 f3:ai->Dm D}:∀δ st as st',af f3 (af f2 (af f1 ah)) δ st=some (as,st')->as.length=3:=DP jf
def LV{f1 f2 f3 f4:ai->Dm D}:∀δ st as st',af f4 (af f3 (af f2 (af f1 ah))) δ st=some (as,st')->as.length=4:=DP SQ
def eK{X:Cx}{k k':Nat}{f:Addr}{fd:FuncData}{ps:List Str}{sp:Sp}{x:Str}{st:Stmt}{e:Expr}{es:List Expr}{t:TA}{p pos:Pos}(F:aC X.prog X.w X.K X.mg X.base bK k f fd ps sp)(D:Def X.K X.mg x st ps f fd)(hr:cM k' X.A)(hk:k<=k')(hg:Gl X x)(ha:PA X (e :: es) t)(hdb:(x == ("__debug__" : Str))=false:=by decide)(he:starEach (e :: es) X.env=(false,eval e X.env) :: starEach es X.env:=by rfl)(hpl:(backTo pos (starEach es X.env)).any (·.1)=false:=by rfl):PE X (.Call (.Name x p) (e :: es) [] pos) (pT sp [] E0 t):=M4 F (hr.mono hk) hg D.m D.F.kp D.b .nil zL ha hdb he hpl
def pq{fd:FuncData}{p0:Str}(k:∀x0,bindArgs fd ⟨[x0],[]⟩=pure [(p0,x0)])(us:List Value)(h:us.length=1):bindArgs fd ⟨us,[]⟩=pure ([p0].zip us):=match us,h with|[x0],_=>k x0
def mH{fd:FuncData}{p0 p1:Str}(k:∀x0 x1,bindArgs fd ⟨[x0,x1],[]⟩=pure [(p0,x0),(p1,x1)])(us:List Value)(h:us.length=2):bindArgs fd ⟨us,[]⟩=pure ([p0,p1].zip us):=match us,h with|[x0,x1],_=>k x0 x1
def SR{fd:FuncData}{p0 p1 p2 p3:Str}(k:∀x0 x1 x2 x3,bindArgs fd ⟨[x0,x1,x2,x3],[]⟩=pure [(p0,x0),(p1,x1),(p2,x2),(p3,x3)])(us:List Value)(h:us.length=4):bindArgs fd ⟨us,[]⟩=pure ([p0,p1,p2,p3].zip us):=match us,h with|[x0,x1,x2,x3],_=>k x0 x1 x2 x3
abbrev top(i:Nat):Stmt:=PySem.Challenge.pw_shearfloor_k36_kinds_of_rows.main.body.getD i (.Pass ⟨0,0,0,0⟩)
structure Txt(mg:Str->Option Value):Prop where
 jU:mg "enumerate" = none
 b7:mg "len" = none
 du:mg "list" = none
 Bu:mg "min" = none
 aU:mg "range" = none
 l9:mg "repr" = none
 Bv:mg "set" = none
 jr:mg "sorted" = none
 aZ:mg "tuple" = none
abbrev Ec:Stmt:=match top 2 with
 |.ClassDef _ _ _ b _ _ _ _ _ _ _=>b.getD 0 (.Pass ⟨0,0,0,0⟩)
 |_=>.Pass ⟨0,0,0,0⟩
def SS:ax ["self","most"] ["self","most"] (aj Ec):=by walk
structure XF(K:Zfr)(mg:Str->Option Value)(av cI:Addr):Prop where
 lE:mg "TooMany" = some (.ref av)
 cQ:PySem.W.nsIn K mainGlobals "TooMany" = some (some (.ref av))
 ma:PySem.W.findIn K (.ref av) "__init__" = some (some (.ref cI))
 cR:iW K av LL "ValueError.__new__" cI=true
 dZ:PySem.W.isFn K (.ref cI)=true
 d5:PySem.W.keepIn K (.ref av)=true
 d6:PySem.W.mroIn K av (.type "BaseException")=some true
 d7:PySem.W.typeIn K (.ref av)=some (.type "type")
 kF:PySem.W.mroIn K av (.ref av)=some true
 kG:PySem.W.takerIn K av "most" = some none
 lF:JR K av
 i7:rh K av
 I:∃dI,tG K "__init__" "TooMany.__init__" Ec cI dI/\Binds K dI ["self","most"] []
def Bw{K:Zfr}{mg:Str->Option Value}{h:Heap}{av cI:Addr}(KX:K.In h)(G:h.Ns mainGlobals mg)(cQ:PySem.W.nsIn K mainGlobals "TooMany" = some (some (.ref av)))(ma:PySem.W.findIn K (.ref av) "__init__" = some (some (.ref cI)))(cR:iW K av LL "ValueError.__new__" cI=true)(dZ:PySem.W.isFn K (.ref cI)=true)(d5:PySem.W.keepIn K (.ref av)=true)(d6:PySem.W.mroIn K av (.type "BaseException")=some true)(d7:PySem.W.typeIn K (.ref av)=some (.type "type"))(kF:PySem.W.mroIn K av (.ref av)=some true)(kG:PySem.W.takerIn K av "most" = some none)(lF:JR K av)(i7:rh K av)(I:∃dI,tG K "__init__" "TooMany.__init__" Ec cI dI/\Binds K dI ["self","most"] []):XF K mg av cI :=
 ⟨PySem.W.mg_of KX G cQ,cQ,ma,cR,dZ,d5,d6,d7,kF,kG,lF,i7,I⟩
def SU{P:Program}{w:World}{K:Zfr}{mg:Str->Option Value}{base:Heap}{cI:Addr}{dI:FuncData}(I:tG K "__init__" "TooMany.__init__" Ec cI dI):aC P w K mg base bK 1 cI dI ["self","most"] (ql K "most"):=I.ok SS (λvs H Q E h=>OI h) (λcdv A outer s H vs Q E hr h=>⟨_,(Iu (Oz (pv 0) (pv 1) rfl)),OJ h⟩)
section
variable {P:Program}{w:World}{K:Zfr}{mg:Str->Option Value}{base:Heap}{f:Addr}{fd:FuncData}
abbrev Ed:ai->Dm Fl :=
 (aB (aD (aE qF (df (af (fC (.int 0)) ah)) (aL dA (af (ag 0) ah))) (hName 1))
 (aB (fL (kC (af (ag 0) ah)) (pg 2 (jR (hName 2) (jR (hName 3) qG))) (aD (ag 2) (hSub (ag 1) (ag 3))))
 (bE (aL br (af (ag 1) ah)))))
abbrev sy:List D->Dm D:=gW 4 Ed
abbrev Bx:Stmt:=top 5
def Ee:ax ["turning","back","number","led"] ["turning"] (aj Bx):=by walk
def SV(D:Def K mg "turned_back" Bx ["turning"] f fd)(T:Txt mg):aC P w K mg base bK 1 f fd ["turning"] (b5 K 1 sy):=by
 refine D.F.ok Ee (λ_ _ _ _ h=>h.1) (λc A o s H v Q E hr h=>?_);refine⟨_,((1>>=Ee>>=dw Ji (@ki _ _ _ _ (aX<|az)) (ji kQ (by rfl) T.b7 kR (pv 0<|az)))<|>(JE rfl T.jU (pv 0<|az)&&&Fu (n:=2) rfl (yi (jg (i:=2) Ee.nd rfl (by w_up)) (yi (jg (i:=3) Ee.nd rfl (by w_up)) Ft))&&&(~~~zk (pv 2) (yj (pv 1) (pv 3) ym)))<|>(~~~(@gQ _ _ _ _ (fS lO (by rfl) T.aZ lP (pv 1<|az))))),?_⟩
 exact i5 (b:=Ed) (bC (bN (aH Lb (kr (au (aY _) aA)) (bW kW (au (ao 0) aA))) (a9 1))
  (bC (nY (Ld (au (ao 0) aA)) (Hj (yK (a9 2) (yK (a9 3) Hi))) (bN (ao 2) (yL (ao 1) (ao 3))))
  (gU (bW lW (au (ao 1) aA))))) rfl h
variable {dC:Addr}{dD:FuncData}(aM:Def K mg "turned_back" Bx ["turning"] dC dD)(aQ:aC P w K mg base bK 1 dC dD ["turning"] (b5 K 1 sy))
abbrev Ef:ai->Dm Fl :=
 (bE (aL br (af (cw (fM (ag 0)) 1 [1] (hName 0) dY (aE aN (ag 1) (ag 0))) ah)))
abbrev n9:List D->Dm D:=gW 2 Ef
abbrev By:Stmt:=top 4
def SW:ax ["one","other"] ["one","other"] (aj By):=by walk
def SX(D:Def K mg "followed" By ["one","other"] f fd)(T:Txt mg):aC P w K mg base bK 1 f fd ["one","other"] (b5 K 2 n9):=by refine D.F.ok SW (λ_ _ _ _ h=>h.1) (λc A o s H v Q E hr h=>?_);refine⟨_,(~~~(@gQ _ _ _ _ (fS lO (by rfl) T.aZ lP (tL (own:=["number"]) (fr:=["other"]) (js:=[1]) rfl ⟨⟨rfl,by w_fin,by w_fin,by dsimp only[dP,aI,Cx.nz,Cx.wish,PyProof.Rows.envOfC,compEnvC,relabel,Env.kindOf];decide +kernel,by w_fin⟩,rfl⟩ (qZ (pv 0)) (λ_ _ _ _ _=>(jg (i:=0) (show((["number"]:List Str) ++ (["other"]:List Str)).Nodup by w_fin) rfl (by w_up))) (λ_ _ _ _ _=>tJ) (λ_ _ _ _ _=>(vF (K:=K) rfl<*pv 1<*pv 0))<|az)))),?_⟩;exact i5 (b:=Ef) (gU (bW lW (au (pD (rA (ao 0)) (a9 0) uk (aH fF (ao 1) (ao 0))) aA))) rfl h
variable {ie:Addr}{ig:FuncData}(aV:Def K mg "followed" By ["one","other"] ie ig)(a8:aC P w K mg base bK 1 ie ig ["one","other"] (b5 K 2 n9))
abbrev Eg:ai->Dm Fl :=
 (aB (aD (aL sy (af (ag 1) ah)) (hName 2))
 (aB (aD (aL n9 (af (aL n9 (af (ag 2) (af (aE aN (ag 0) (fC (.int 0))) ah))) (af (ag 1) ah))) (hName 3))
 (aB (aD (aL n9 (af (aL n9 (af (ag 2) (af (aE aN (ag 0) (fC (.int 1))) ah))) (af (ag 1) ah))) (hName 4))
 (bE (dW (af (ag 3) (af (ag 4) ah)))))))
abbrev Bz:List D->Dm D:=gW 5 Eg
abbrev BA:Stmt:=top 12
def Eh:ax ["floor","p","back","right","up"] ["floor","p"] (aj BA):=by walk
include aM aQ aV a8 in
def SY(D:Def K mg "called_anew" BA ["floor","p"] f fd)(T:Txt mg):aC P w K mg base bK 2 f fd ["floor","p"] (b5 K 2 Bz):=by
 refine D.F.ok Eh (λ_ _ _ _ h=>h.1) (λc A o s H v Q E hr h=>?_);refine⟨_,((2>>=Eh>>=eK aQ aM hr ∅ rfl (pv 1<|az))<|>(3>>=Eh>>=eK a8 aV hr ∅ rfl (eK a8 aV hr ∅ rfl (pv 2<|(gR<*pv 0<*aX)<|az)<|pv 1<|az))<|>(4>>=Eh>>=eK a8 aV hr ∅ rfl (eK a8 aV hr ∅ rfl (pv 2<|(gR<*pv 0<*aX)<|az)<|pv 1<|az))<|>(~~~(@gQ _ _ _ _ (@lj _ _ _ _ _ (pv 3<|pv 4<|az))))),?_⟩
 exact i5 (b:=Eg) (bC (bN (eJ (F:=sy) (au (ao 1) aA) mG) (a9 2))
  (bC (bN (eJ (F:=n9) (au (eJ (F:=n9) (au (ao 2) (au (aH fF (ao 0) (aY _)) aA)) jf) (au (ao 1) aA)) jf) (a9 3))
  (bC (bN (eJ (F:=n9) (au (eJ (F:=n9) (au (ao 2) (au (aH fF (ao 0) (aY _)) aA)) jf) (au (ao 1) aA)) jf) (a9 4))
  (gU (lx (au (ao 3) (au (ao 4) aA))))))) rfl h
variable {dE:Addr}{dF:FuncData}(cE:Def K mg "called_anew" BA ["floor","p"] dE dF)(dG:aC P w K mg base bK 2 dE dF ["floor","p"] (b5 K 2 Bz))
abbrev Ei:ai->Dm Fl :=
 (aB (aD (df (af (ag 1) ah)) (hName 2))
 (aB (aD (fC (.int 0)) (hName 3))
 (aB (fX (aJ (aE yC (ag 3) (aL dA (af (ag 2) ah)))) (aB (fL (fM (ag 0)) (hName 4) (aB (aD (aE aN (ag 4) (aE dX (ag 2) (ag 3))) (hName 5))
 (jZ (aJ (aE (pd true) (ag 5) (ag 2))) (eQ (mC "list" cb (ag 2) (af (ag 5) ah))) cv)))
 (aD (aE iK (ag 3) (fC (.int 1))) (hName 3))))
 (bE (aL br (af (ag 2) ah))))))
abbrev xS:List D->Dm D:=gW 6 Ei
abbrev BB:Stmt:=top 10
def yW:ax ["floor","s","squares","place","turning","reached"] ["floor","s"] (aj BB):=by walk
def S0(D:Def K mg "squares_from" BB ["floor","s"] f fd)(T:Txt mg):aC P w K mg base bK 1 f fd ["floor","s"] (b5 K 2 xS):=by
 refine D.F.ok yW (λ_ _ _ _ h=>h.1) (λc A o s H v Q E hr h=>?_);refine⟨_,((2>>=yW>>=(@ki _ _ _ _ (pv 1<|az)))<|>(3>>=yW>>=aX)<|>yk PassesOwn.never (iS C8 (pv 3) (ji kQ (by rfl) T.b7 kR (pv 2<|az)) (bg _)) ((qZ (pv 0)&&&(jg (i:=4) yW.nd rfl (by w_up))&&&((5>>=yW>>=(gR<*pv 4<*(mL<*pv 2<*pv 3)))<|>(~~~(iS Dd (pv 5) (pv 2) (by with_unfolding_all rfl)<*>(~~~pP (om PySem.F.plainAttrs_list PySem.F.slot_list_append PySem.F.type_list_append rK (pv 2) (pv 5<|az)))<*>my))))<|>(~~~(3>>=yW>>=dw oh (pv 3) aX)))<|>(~~~(@gQ _ _ _ _ (fS lO (by rfl) T.aZ lP (pv 2<|az))))),?_⟩
 exact i5 (b:=Ei) (bC (bN (kr (au (ao 1) aA)) (a9 2))
  (bC (bN (aY _) (a9 3))
  (bC (AX (iM (aH DS (ao 3) (bW kW (au (ao 2) aA)))) (bC (nY (rA (ao 0)) (a9 4) (bC (bN (aH fF (ao 4) (aH lz (ao 2) (ao 3))) (a9 5))
  (lY (iM (aH (yI true) (ao 5) (ao 2))) (qH (oQ sg (ao 2) (au (ao 5) aA))) mD)))
  (bN (aH oP (ao 3) (aY _)) (a9 3))))
  (gU (bW lW (au (ao 2) aA)))))) rfl h
variable {cW:Addr}{cX:FuncData}(a6:Def K mg "squares_from" BB ["floor","s"] cW cX)(bz:aC P w K mg base bK 1 cW cX ["floor","s"] (b5 K 2 xS))
abbrev Ej:ai->Dm Fl :=
 (bE (aL sy (af (aL xS (af (ag 0) (af (ag 1) ah))) ah)))
abbrev BD:List D->Dm D:=gW 2 Ej
abbrev BE:Stmt:=top 13
def S1:ax ["floor","s"] ["floor","s"] (aj BE):=by walk
include aM aQ a6 bz in
def S3(D:Def K mg "numbering_from" BE ["floor","s"] f fd)(T:Txt mg):aC P w K mg base bK 2 f fd ["floor","s"] (b5 K 2 BD):=by refine D.F.ok S1 (λ_ _ _ _ h=>h.1) (λc A o s H v Q E hr h=>?_);refine⟨_,(~~~(@gQ _ _ _ _ (eK aQ aM hr ∅ rfl (eK bz a6 hr ∅ rfl (pv 0<|pv 1<|az)<|az)))),?_⟩;exact i5 (b:=Ej) (gU (eJ (F:=sy) (au (eJ (F:=xS) (au (ao 0) (au (ao 1) aA)) jf) aA) mG)) rfl h
variable {cf:Addr}{cg:FuncData}(bG:Def K mg "numbering_from" BE ["floor","s"] cf cg)(cj:aC P w K mg base bK 2 cf cg ["floor","s"] (b5 K 2 BD))
abbrev Ek:ai->Dm Fl :=
 (bE (aL Bz (af (ag 0) (af (aL BD (af (ag 0) (af (ag 1) ah))) ah))))
abbrev BF:List D->Dm D:=gW 2 Ek
abbrev BG:Stmt:=top 14
def S4:ax ["floor","s"] ["floor","s"] (aj BG):=by walk
include cE dG bG cj in
def S5(D:Def K mg "numbered_from" BG ["floor","s"] f fd)(T:Txt mg):aC P w K mg base bK 3 f fd ["floor","s"] (b5 K 2 BF):=by refine D.F.ok S4 (λ_ _ _ _ h=>h.1) (λc A o s H v Q E hr h=>?_);refine⟨_,(~~~(@gQ _ _ _ _ (eK dG cE hr ∅ rfl (pv 0<|eK cj bG hr ∅ rfl (pv 0<|pv 1<|az)<|az)))),?_⟩;exact i5 (b:=Ek) (gU (eJ (F:=Bz) (au (ao 0) (au (eJ (F:=BD) (au (ao 0) (au (ao 1) aA)) jf) aA)) jf)) rfl h
variable {cF:Addr}{cG:FuncData}(bR:Def K mg "numbered_from" BG ["floor","s"] cF cG)(cH:aC P w K mg base bK 3 cF cG ["floor","s"] (b5 K 2 BF))
abbrev El:ai->Dm Fl :=
 (bE (aL kD (af (cw (cq (af (aL dA (af (aE aN (ag 0) (fC (.int 0))) ah)) ah)) 1 [0] (hName 0) dY (aL BF (af (ag 1) (af (ag 0) ah)))) ah)))
abbrev xT:List D->Dm D:=gW 1 El
abbrev BH:Stmt:=top 15
def S6:ax ["floor"] ["floor"] (aj BH):=by walk
include bR cH in
def S7(D:Def K mg "form_of" BH ["floor"] f fd)(T:Txt mg):aC P w K mg base bK 4 f fd ["floor"] (b5 K 1 xT):=by refine D.F.ok S6 (λ_ _ _ _ h=>h.1) (λc A o s H v Q E hr h=>?_);have hu:=hr.units;refine⟨_,(~~~(@gQ _ _ _ _ (ji (Oe rfl hu) (by rfl) T.Bu vA (tL (own:=["s"]) (fr:=["floor"]) (js:=[0]) rfl ⟨⟨rfl,by w_fin,by w_fin,by dsimp only[dP,aI,Cx.nz,Cx.wish,PyProof.Rows.envOfC,compEnvC,relabel,Env.kindOf];decide +kernel,by w_fin⟩,rfl⟩ (pR rfl T.aU (ji kQ (by rfl) T.b7 kR ((gR<*pv 0<*aX)<|az)<|az)) (λ_ _ _ _ _=>(jg (i:=0) (show((["s"]:List Str) ++ (["floor"]:List Str)).Nodup by w_fin) rfl (by w_up))) (λ_ _ _ _ _=>tJ) (λ_ _ _ _ _=>(eK cH bR hr ∅ rfl (pv 1<|pv 0<|az)))<|az)))),?_⟩;exact i5 (b:=El) (gU (bW R0 (au (pD (qJ (au (bW kW (au (aH fF (ao 0) (aY _)) aA)) aA)) (a9 0) uk (eJ (F:=BF) (au (ao 1) (au (ao 0) aA)) jf)) aA))) rfl h
variable {jt:Addr}{ju:FuncData}(dg:Def K mg "form_of" BH ["floor"] jt ju)(d8:aC P w K mg base bK 4 jt ju ["floor"] (b5 K 1 xT))
abbrev Em:ai->Dm Fl :=
 (aB (aD (df (af (ag 1) ah)) (hName 2))
 (aB (aD (aE aN (ag 0) (ag 1)) (hName 3))
 (aB (fX (aJ (aE (mU true) (ag 3) (ag 1))) (aB (eQ (mC "list" cb (ag 2) (af (ag 3) ah)))
 (aD (aE aN (ag 0) (ag 3)) (hName 3))))
 (bE (aL br (af (ag 2) ah))))))
abbrev BJ:List D->Dm D:=gW 4 Em
abbrev BK:Stmt:=top 7
def En:ax ["turning","first","ring","reached"] ["turning","first"] (aj BK):=by walk
def S8(D:Def K mg "ring_from" BK ["turning","first"] f fd)(T:Txt mg):aC P w K mg base bK 1 f fd ["turning","first"] (b5 K 2 BJ):=by
 refine D.F.ok En (λ_ _ _ _ h=>h.1) (λc A o s H v Q E hr h=>?_);refine⟨_,((2>>=En>>=(@ki _ _ _ _ (pv 1<|az)))<|>(3>>=En>>=(gR<*pv 0<*pv 1))<|>yk PassesOwn.never (iS FA (pv 3) (pv 1) (bg _)) (pP (om PySem.F.plainAttrs_list PySem.F.slot_list_append PySem.F.type_list_append rK (pv 2) (pv 3<|az))<|>(~~~(3>>=En>>=(gR<*pv 0<*pv 3))))<|>(~~~(@gQ _ _ _ _ (fS lO (by rfl) T.aZ lP (pv 2<|az))))),?_⟩
 exact i5 (b:=Em) (bC (bN (kr (au (ao 1) aA)) (a9 2))
  (bC (bN (aH fF (ao 0) (ao 1)) (a9 3))
  (bC (AX (iM (aH He (ao 3) (ao 1))) (bC (qH (oQ sg (ao 2) (au (ao 3) aA)))
  (bN (aH fF (ao 0) (ao 3)) (a9 3))))
  (gU (bW lW (au (ao 2) aA)))))) rfl h
variable {f9:Addr}{gb:FuncData}(d9:Def K mg "ring_from" BK ["turning","first"] f9 gb)(gf:aC P w K mg base bK 1 f9 gb ["turning","first"] (b5 K 2 BJ))
abbrev Eo:ai->Dm Fl :=
 (aB (aD (df ah) (hName 1))
 (aB (aD qN (hName 2))
 (aB (fL (cq (af (aL dA (af (ag 0) ah)) ah)) (hName 3) (jZ (aJ (sr true (ag 3) (ag 2))) (aB (aD (aL BJ (af (ag 0) (af (ag 3) ah))) (hName 4))
 (aB (eQ (mC "list" cb (ag 1) (af (ag 4) ah)))
 (fL (fM (ag 4)) (hName 5) (oR (ag 2) (ag 5) (fC (.bl true)))))) cv))
 (bE (aL br (af (ag 1) ah))))))
abbrev BL:List D->Dm D:=gW 6 Eo
abbrev BM:Stmt:=top 8
def yX:ax ["turning","rings","seen","first","ring","number"] ["turning"] (aj BM):=by walk
include d9 gf in
def S9(D:Def K mg "rings_of" BM ["turning"] f fd)(T:Txt mg):aC P w K mg base bK 2 f fd ["turning"] (b5 K 1 BL):=by
 refine D.F.ok yX (λ_ _ _ _ h=>h.1) (λc A o s H v Q E hr h=>?_);have hu1:=zM hr;refine⟨_,((1>>=yX>>=(@ki _ _ _ _ az))<|>(2>>=yX>>=Nr)<|>(pR rfl T.aU (ji kQ (by rfl) T.b7 kR (pv 0<|az)<|az)&&&(jg (i:=3) yX.nd rfl (by w_up))&&&(~~~(uZ (Nn hu1 (pv 3) (pv 2))<*>((4>>=yX>>=eK gf d9 hr ∅ rfl (pv 0<|pv 3<|az))<|>pP (om PySem.F.plainAttrs_list PySem.F.slot_list_append PySem.F.type_list_append rK (pv 1) (pv 4<|az))<|>(~~~(qZ (pv 4)&&&(jg (i:=5) yX.nd rfl (by w_up))&&&(~~~Np hu1 (pv 2) (pv 5) Fp rfl))))<*>my)))<|>(~~~(@gQ _ _ _ _ (fS lO (by rfl) T.aZ lP (pv 1<|az))))),?_⟩
 exact i5 (b:=Eo) (bC (bN (kr aA) (a9 1))
  (bC (bN Q7 (a9 2))
  (bC (nY (qJ (au (bW kW (au (ao 0) aA)) aA)) (a9 3) (lY (AK (Q8 (ao 3) (ao 2))) (bC (bN (eJ (F:=BJ) (au (ao 0) (au (ao 3) aA)) jf) (a9 4))
  (bC (qH (oQ sg (ao 1) (au (ao 4) aA)))
  (nY (rA (ao 4)) (a9 5) (Q9 (ao 2) (ao 5) (G4 _))))) mD))
  (gU (bW lW (au (ao 1) aA)))))) rfl h
variable {iq:Addr}{iu:FuncData}(fO:Def K mg "rings_of" BM ["turning"] iq iu)(iw:aC P w K mg base bK 2 iq iu ["turning"] (b5 K 1 BL))
abbrev Ep:ai->Dm Fl :=
 (aB (aD (aE qF (df (af (fC (.int 0)) ah)) (aL dA (af (ag 0) ah))) (hName 2))
 (aB (fL (fM (aL BL (af (ag 0) ah))) (hName 3) (fL (kC (af (ag 3) ah)) (pg 2 (jR (hName 4) (jR (hName 5) qG))) (aD (aE aN (ag 3) (aE jI (aE iK (ag 4) (ag 1)) (aL dA (af (ag 3) ah)))) (hSub (ag 2) (ag 5)))))
 (bE (aL br (af (ag 2) ah)))))
abbrev BN:List D->Dm D:=gW 6 Ep
abbrev BO:Stmt:=top 6
def BP:ax ["turning","k","led","ring","place","number"] ["turning","k"] (aj BO):=by walk
include fO iw in
def Tb(D:Def K mg "often" BO ["turning","k"] f fd)(T:Txt mg):aC P w K mg base bK 3 f fd ["turning","k"] (b5 K 2 BN):=by
 refine D.F.ok BP (λ_ _ _ _ h=>h.1) (λc A o s H v Q E hr h=>?_);refine⟨_,((2>>=BP>>=dw Ji (@ki _ _ _ _ (aX<|az)) (ji kQ (by rfl) T.b7 kR (pv 0<|az)))<|>(qZ (eK iw fO hr ∅ rfl (pv 0<|az))&&&(jg (i:=3) BP.nd rfl (by w_up))&&&(~~~(JE rfl T.jU (pv 3<|az)&&&Fu (n:=2) rfl (yi (jg (i:=4) BP.nd rfl (by w_up)) (yi (jg (i:=5) BP.nd rfl (by w_up)) Ft))&&&(~~~zk (gR<*pv 3<*dw q4 (dw oh (pv 4) (pv 1)) (ji kQ (by rfl) T.b7 kR (pv 3<|az))) (yj (pv 2) (pv 5) ym)))))<|>(~~~(@gQ _ _ _ _ (fS lO (by rfl) T.aZ lP (pv 2<|az))))),?_⟩
 exact i5 (b:=Ep) (bC (bN (aH Lb (kr (au (aY _) aA)) (bW kW (au (ao 0) aA))) (a9 2))
  (bC (nY (rA (eJ (F:=BL) (au (ao 0) aA) mG)) (a9 3) (nY (Ld (au (ao 3) aA)) (Hj (yK (a9 4) (yK (a9 5) Hi))) (bN (aH fF (ao 3) (aH rq (aH oP (ao 4) (ao 1)) (bW kW (au (ao 3) aA)))) (yL (ao 2) (ao 5)))))
  (gU (bW lW (au (ao 2) aA))))) rfl h
variable {md:Addr}{mf:FuncData}(kH:Def K mg "often" BO ["turning","k"] md mf)(mh:aC P w K mg base bK 3 md mf ["turning","k"] (b5 K 2 BN))
abbrev Er:ai->Dm Fl :=
 (bE (dW (af (aE aN (ag 0) (fC (.int 0))) (af (aL n9 (af (aL BN (af (aE aN (ag 0) (fC (.int 0))) (af (yz nX (ag 1)) ah))) (af (aE aN (ag 0) (fC (.int 1))) ah))) ah))))
abbrev BQ:List D->Dm D:=gW 2 Er
abbrev BR:Stmt:=top 21
def Tc:ax ["floor","k"] ["floor","k"] (aj BR):=by walk
include aV a8 kH mh in
def Td(D:Def K mg "sheared" BR ["floor","k"] f fd)(T:Txt mg):aC P w K mg base bK 4 f fd ["floor","k"] (b5 K 2 BQ):=by refine D.F.ok Tc (λ_ _ _ _ h=>h.1) (λc A o s H v Q E hr h=>?_);refine⟨_,(~~~(@gQ _ _ _ _ (@lj _ _ _ _ _ ((gR<*pv 0<*aX)<|eK a8 aV hr ∅ rfl (eK mh kH hr ∅ rfl ((gR<*pv 0<*aX)<|C5 C7 (pv 1)<|az)<|(gR<*pv 0<*aX)<|az)<|az)))),?_⟩;exact i5 (b:=Er) (gU (lx (au (aH fF (ao 0) (aY _)) (au (eJ (F:=n9) (au (eJ (F:=BN) (au (aH fF (ao 0) (aY _)) (au (DN DV (ao 1)) aA)) jf) (au (aH fF (ao 0) (aY _)) aA)) jf) aA)))) rfl h
variable {jv:Addr}{jw:FuncData}(g8:Def K mg "sheared" BR ["floor","k"] jv jw)(jx:aC P w K mg base bK 4 jv jw ["floor","k"] (b5 K 2 BQ))
abbrev Es:ai->Dm Fl :=
 (bE (dW (af (aL sy (af (aE aN (ag 0) (fC (.int 1))) ah)) (af (aE aN (ag 0) (fC (.int 0))) ah))))
abbrev BS:List D->Dm D:=gW 1 Es
abbrev BU:Stmt:=top 22
def Te:ax ["floor"] ["floor"] (aj BU):=by walk
include aM aQ in
def Tf(D:Def K mg "quartered" BU ["floor"] f fd)(T:Txt mg):aC P w K mg base bK 2 f fd ["floor"] (b5 K 1 BS):=by refine D.F.ok Te (λ_ _ _ _ h=>h.1) (λc A o s H v Q E hr h=>?_);refine⟨_,(~~~(@gQ _ _ _ _ (@lj _ _ _ _ _ (eK aQ aM hr ∅ rfl ((gR<*pv 0<*aX)<|az)<|(gR<*pv 0<*aX)<|az)))),?_⟩;exact i5 (b:=Es) (gU (lx (au (eJ (F:=sy) (au (aH fF (ao 0) (aY _)) aA) mG) (au (aH fF (ao 0) (aY _)) aA)))) rfl h
variable {gg:Addr}{gh:FuncData}(eh:Def K mg "quartered" BU ["floor"] gg gh)(gj:aC P w K mg base bK 2 gg gh ["floor"] (b5 K 1 BS))
abbrev Et:ai->Dm Fl :=
 (aB (jZ (aJ (aE (mU false) (aE aN (ag 1) (fC (.int 0))) (fC (.str "s")))) (bE (aL BQ (af (ag 0) (af (aE aN (ag 1) (fC (.int 1))) ah)))) cv)
 (aB (aD (ag 0) (hName 2))
 (aB (fL (cq (af (aE aN (ag 1) (fC (.int 1))) ah)) (hName 3) (aD (aL BS (af (ag 2) ah)) (hName 2)))
 (bE (ag 2)))))
abbrev BV:List D->Dm D:=gW 4 Et
abbrev BW:Stmt:=top 24
def Eu:ax ["floor","step","led","turn"] ["floor","step"] (aj BW):=by walk
include g8 jx eh gj in
def Tg(D:Def K mg "led_by_step" BW ["floor","step"] f fd)(T:Txt mg):aC P w K mg base bK 5 f fd ["floor","step"] (b5 K 2 BV):=by
 refine D.F.ok Eu (λ_ _ _ _ h=>h.1) (λc A o s H v Q E hr h=>?_);refine⟨_,((iS sS (gR<*pv 1<*aX) Iq (bg _)<*>(~~~(@gQ _ _ _ _ (eK jx g8 hr ∅ rfl (pv 0<|(gR<*pv 1<*aX)<|az))))<*>my)<|>(2>>=Eu>>=pv 0)<|>(pR rfl T.aU ((gR<*pv 1<*aX)<|az)&&&(jg (i:=3) Eu.nd rfl (by w_up))&&&(~~~(2>>=Eu>>=eK gj eh hr ∅ rfl (pv 2<|az))))<|>(~~~(@gQ _ _ _ _ (pv 2)))),?_⟩
 exact i5 (b:=Et) (bC (lY (iM (aH ug (aH fF (ao 1) (aY _)) (KZ _))) (gU (eJ (F:=BQ) (au (ao 0) (au (aH fF (ao 1) (aY _)) aA)) jf)) mD)
  (bC (bN (ao 0) (a9 2))
  (bC (nY (qJ (au (aH fF (ao 1) (aY _)) aA)) (a9 3) (bN (eJ (F:=BS) (au (ao 2) aA) mG) (a9 2)))
  (gU (ao 2))))) rfl h
variable {dH:Addr}{dJ:FuncData}(cJ:Def K mg "led_by_step" BW ["floor","step"] dH dJ)(dM:aC P w K mg base bK 5 dH dJ ["floor","step"] (b5 K 2 BV))
abbrev Ew:ai->Dm Fl :=
 (aB (aD (ag 0) (hName 2))
 (aB (fL (fM (ag 1)) (hName 3) (aD (aL BV (af (ag 2) (af (ag 3) ah))) (hName 2)))
 (bE (ag 2))))
abbrev BX:List D->Dm D:=gW 4 Ew
abbrev BZ:Stmt:=top 23
def Ey:ax ["floor","word","led","step"] ["floor","word"] (aj BZ):=by walk
include cJ dM in
def Ti(D:Def K mg "led_by" BZ ["floor","word"] f fd)(T:Txt mg):aC P w K mg base bK 6 f fd ["floor","word"] (b5 K 2 BX):=by
 refine D.F.ok Ey (λ_ _ _ _ h=>h.1) (λc A o s H v Q E hr h=>?_);refine⟨_,((2>>=Ey>>=pv 0)<|>(qZ (pv 1)&&&(jg (i:=3) Ey.nd rfl (by w_up))&&&(~~~(2>>=Ey>>=eK dM cJ hr ∅ rfl (pv 2<|pv 3<|az))))<|>(~~~(@gQ _ _ _ _ (pv 2)))),?_⟩
 exact i5 (b:=Ew) (bC (bN (ao 0) (a9 2))
  (bC (nY (rA (ao 1)) (a9 3) (bN (eJ (F:=BV) (au (ao 2) (au (ao 3) aA)) jf) (a9 2)))
  (gU (ao 2)))) rfl h
variable {j8:Addr}{j9:FuncData}(jy:Def K mg "led_by" BZ ["floor","word"] j8 j9)(ka:aC P w K mg base bK 6 j8 j9 ["floor","word"] (b5 K 2 BX))
abbrev Ez:ai->Dm Fl :=
 (aB (aD (aE iK (aE aN (ag 0) (fC (.int 1))) (aE aN (ag 1) (fC (.int 1)))) (hName 2))
 (aB (jZ (aJ (aE (mU false) (aE aN (ag 0) (fC (.int 0))) (fC (.str "t")))) (aD (aE jI (ag 2) (fC (.int 4))) (hName 2)) cv)
 (aB (jZ (aJ (aE (mU false) (ag 2) (fC (.int 0)))) (bE (dW ah)) cv)
 (bE (dW (af (dW (af (aE aN (ag 0) (fC (.int 0))) (af (ag 2) ah))) ah))))))
abbrev B0:List D->Dm D:=gW 3 Ez
abbrev B1:Stmt:=top 17
def HF:ax ["one","other","number"] ["one","other"] (aj B1):=by walk
def Tj(D:Def K mg "joined" B1 ["one","other"] f fd)(T:Txt mg):aC P w K mg base bK 1 f fd ["one","other"] (b5 K 2 B0):=by
 refine D.F.ok HF (λ_ _ _ _ h=>h.1) (λc A o s H v Q E hr h=>?_);refine⟨_,((2>>=HF>>=dw oh (gR<*pv 0<*aX) (gR<*pv 1<*aX))<|>(iS sS (gR<*pv 0<*aX) Iq (bg _)<*>(~~~(2>>=HF>>=dw q4 (pv 2) aX))<*>my)<|>(iS sS (pv 2) aX (bg _)<*>(~~~(@gQ _ _ _ _ (@lj _ _ _ _ _ az)))<*>my)<|>(~~~(@gQ _ _ _ _ (@lj _ _ _ _ _ ((@lj _ _ _ _ _ ((gR<*pv 0<*aX)<|pv 2<|az))<|az))))),?_⟩
 exact i5 (b:=Ez) (bC (bN (aH oP (aH fF (ao 0) (aY _)) (aH fF (ao 1) (aY _))) (a9 2))
  (bC (lY (iM (aH ug (aH fF (ao 0) (aY _)) (KZ _))) (bN (aH rq (ao 2) (aY _)) (a9 2)) mD)
  (bC (lY (iM (aH ug (ao 2) (aY _))) (gU (lx aA)) mD)
  (gU (lx (au (lx (au (aH fF (ao 0) (aY _)) (au (ao 2) aA))) aA)))))) rfl h
variable {kc:Addr}{ke:FuncData}(jz:Def K mg "joined" B1 ["one","other"] kc ke)(kf:aC P w K mg base bK 1 kc ke ["one","other"] (b5 K 2 B0))
abbrev EA:ai->Dm Fl :=
 (aB (aD (dW ah) (hName 1))
 (aB (fL (fM (ag 0)) (hName 2) (jZ (sd (aJ (aE yD (aL dA (af (ag 1) ah)) (fC (.int 0)))) (aJ (aE (mU false) (aE aN (aE aN (ag 1) (yz nX (fC (.int 1)))) (fC (.int 0))) (aE aN (ag 2) (fC (.int 0)))))) (aD (aE kz (yB wC (ag 1) jo (ly (yz nX (fC (.int 1))))) (aL B0 (af (aE aN (ag 1) (yz nX (fC (.int 1)))) (af (ag 2) ah)))) (hName 1)) (aD (aE kz (ag 1) (dW (af (ag 2) ah))) (hName 1))))
 (bE (ag 1))))
abbrev B2:List D->Dm D:=gW 3 EA
abbrev B3:Stmt:=top 18
def B4:ax ["word","plain","step"] ["word"] (aj B3):=by walk
include jz kf in
def To(D:Def K mg "made_plain" B3 ["word"] f fd)(T:Txt mg):aC P w K mg base bK 2 f fd ["word"] (b5 K 1 B2):=by
 refine D.F.ok B4 (λ_ _ _ _ h=>h.1) (λc A o s H v Q E hr h=>?_);refine⟨_,((1>>=B4>>=(@lj _ _ _ _ _ az))<|>(qZ (pv 0)&&&(jg (i:=2) B4.nd rfl (by w_up))&&&(~~~(PW.pt (pw_and (iS C9 (ji kQ (by rfl) T.b7 kR (pv 1<|az)) aX (bg _)) (MP (iS sS (gR<*(gR<*pv 1<*C5 C7 aX)<*aX) (gR<*pv 2<*aX) (bg _))))<*>(~~~(1>>=B4>>=dw Dj (FH NF (pv 1) FF (FG (C5 C7 aX))) (eK kf jz hr ∅ rfl ((gR<*pv 1<*C5 C7 aX)<|pv 2<|az))))<*>(~~~(1>>=B4>>=dw Dj (pv 1) (@lj _ _ _ _ _ (pv 2<|az)))))))<|>(~~~(@gQ _ _ _ _ (pv 1)))),?_⟩
 exact i5 (b:=EA) (bC (bN (lx aA) (a9 1))
  (bC (nY (rA (ao 0)) (a9 2) (lY (wx (iM (aH DT (bW kW (au (ao 1) aA)) (aY _))) (iM (aH ug (aH fF (aH fF (ao 1) (DN DV (aY _))) (aY _)) (aH fF (ao 2) (aY _))))) (bN (aH DW (G9 wG (ao 1) G7 (G8 (DN DV (aY _)))) (eJ (F:=B0) (au (aH fF (ao 1) (DN DV (aY _))) (au (ao 2) aA)) jf)) (a9 1)) (bN (aH DW (ao 1) (lx (au (ao 2) aA))) (a9 1))))
  (gU (ao 1)))) rfl h
variable {eV:Addr}{eW:FuncData}(dh:Def K mg "made_plain" B3 ["word"] eV eW)(eX:aC P w K mg base bK 2 eV eW ["word"] (b5 K 1 B2))
abbrev EB:ai->Dm Fl :=
 (bE (aL B2 (af (aE kz (ag 0) (ag 1)) ah)))
abbrev B5:List D->Dm D:=gW 2 EB
abbrev B6:Stmt:=top 19
def Tp:ax ["one","other"] ["one","other"] (aj B6):=by walk
include dh eX in
def Tq(D:Def K mg "put_together" B6 ["one","other"] f fd)(T:Txt mg):aC P w K mg base bK 3 f fd ["one","other"] (b5 K 2 B5):=by refine D.F.ok Tp (λ_ _ _ _ h=>h.1) (λc A o s H v Q E hr h=>?_);refine⟨_,(~~~(@gQ _ _ _ _ (eK eX dh hr ∅ rfl (dw Dj (pv 0) (pv 1)<|az)))),?_⟩;exact i5 (b:=EB) (gU (eJ (F:=B2) (au (aH DW (ao 0) (ao 1)) aA) mG)) rfl h
variable {cY:Addr}{cZ:FuncData}(b8:Def K mg "put_together" B6 ["one","other"] cY cZ)(c4:aC P w K mg base bK 3 cY cZ ["one","other"] (b5 K 2 B5))
abbrev EC:ai->Dm Fl :=
 (aB (aD (aL xT (af (aL BX (af (aE dX (ag 0) (ag 2)) (af (dW (af (ag 3) ah)) ah))) ah)) (hName 4))
 (aB (jZ (aJ (aE (n4 true) (ag 4) (ag 0))) (aB (eQ (mC "list" cb (ag 0) (af (ag 4) ah)))
 (eQ (mC "list" cb (ag 1) (af (aL B5 (af (aE dX (ag 1) (ag 2)) (af (dW (af (ag 3) ah)) ah))) ah)))) cv)
 (bE (mC "list" fZ (ag 0) (af (ag 4) ah)))))
abbrev xU:List D->Dm D:=gW 5 EC
abbrev B7:Stmt:=top 29
def LW:ax ["forms","words","place","step","form"] ["forms","words","place","step"] (aj B7):=by walk
include dg d8 jy ka b8 c4 in
def Tr(D:Def K mg "row_led_to" B7 ["forms","words","place","step"] f fd)(T:Txt mg):aC P w K mg base bK 7 f fd ["forms","words","place","step"] (b5 K 4 xU):=by
 refine D.F.ok LW (λ_ _ _ _ h=>h.1) (λc A o s H v Q E hr h=>?_);have hu:=hr.units;refine⟨_,((4>>=LW>>=eK d8 dg hr ∅ rfl (eK ka jy hr ∅ rfl ((mL<*pv 0<*pv 2)<|(@lj _ _ _ _ _ (pv 3<|az))<|az)<|az))<|>(iS (JF hu) (pv 4) (pv 0) (by with_unfolding_all rfl)<*>(pP (om PySem.F.plainAttrs_list PySem.F.slot_list_append PySem.F.type_list_append rK (pv 0) (pv 4<|az))<|>(~~~pP (om PySem.F.plainAttrs_list PySem.F.slot_list_append PySem.F.type_list_append rK (pv 1) (eK c4 b8 hr ∅ rfl ((mL<*pv 1<*pv 2)<|(@lj _ _ _ _ _ (pv 3<|az))<|az)<|az))))<*>my)<|>(~~~(@gQ _ _ _ _ (om PySem.F.plainAttrs_list PySem.F.slot_list_index PySem.F.type_list_index (OS hu) (pv 0) (pv 4<|az))))),?_⟩
 exact i5 (b:=EC) (bC (bN (eJ (F:=xT) (au (eJ (F:=BX) (au (aH lz (ao 0) (ao 2)) (au (lx (au (ao 3) aA)) aA)) jf) aA) mG) (a9 4))
  (bC (lY (iM (aH (LF true) (ao 4) (ao 0))) (bC (qH (oQ sg (ao 0) (au (ao 4) aA)))
  (qH (oQ sg (ao 1) (au (eJ (F:=B5) (au (aH lz (ao 1) (ao 2)) (au (lx (au (ao 3) aA)) aA)) jf) aA)))) mD)
  (gU (oQ Sx (ao 0) (au (ao 4) aA))))) rfl h
variable {eY:Addr}{eZ:FuncData}(cx:Def K mg "row_led_to" B7 ["forms","words","place","step"] eY eZ)(di:aC P w K mg base bK 7 eY eZ ["forms","words","place","step"] (b5 K 4 xU))
abbrev ED:ai->Dm Fl :=
 (aB (pF (aD (df (af (aL xT (af (ag 0) ah)) ah)) (hName 2)))
 (aB (pF (aD (df (af (dW ah) ah)) (hName 3)))
 (aB (pF (aD (df ah) (hName 4)))
 (aB (fX (aJ (aE yC (aL dA (af (ag 4) ah)) (aL dA (af (ag 2) ah)))) (aB (jZ (aJ (aE yD (aL dA (af (ag 2) ah)) (ag 1))) (j7 "TooMany" ["most"] (af (ag 1) ah)) (pF cv))
 (aB (pF (aD (aL dA (af (ag 4) ah)) (hName 5)))
 (aB (pF (aD (aL xU (af (ag 2) (af (ag 3) (af (ag 5) (af (fC (.tup [(.str "s"),(.int 1)])) ah))))) (hName 6)))
 (aB (pF (aD (aL xU (af (ag 2) (af (ag 3) (af (ag 5) (af (fC (.tup [(.str "t"),(.int 1)])) ah))))) (hName 7)))
 (pF (eQ (mC "list" cb (ag 4) (af (dW (af (ag 6) (af (ag 7) ah))) ah)))))))))
 (pF (bE (aL br (af (cw (cq (af (aL dA (af (ag 2) ah)) ah)) 1 [2,3,4] (hName 0) dY (dW (af (aE dX (ag 1) (ag 0)) (af (aE dX (ag 2) (ag 0)) (af (aE aN (aE dX (ag 3) (ag 0)) (fC (.int 0))) (af (aE aN (aE dX (ag 3) (ag 0)) (fC (.int 1))) ah)))))) ah))))))))
abbrev B8:List D->Dm D:=gW 8 ED
abbrev B9:Stmt:=top 28
def xV:ax ["floor","most","forms","words","leads","place","s","t"] ["floor","most"] (aj B9):=by walk
include dg d8 cx di in
def Ts(D:qm K mg "chart_of" B9 ["floor","most"] [V.int 60] f fd)(T:Txt mg){kI:V}(jA:rg K mg "QUARTER" kI (.tup [(.str "t"),(.int 1)])){oa:V}(mj:rg K mg "SHEAR" oa (.tup [(.str "s"),(.int 1)])){av cI:Addr}(Z:XF K mg av cI){dI:FuncData}(GI:aC P w K mg base bK 1 cI dI ["self","most"] (ql K "most"))(BI:Binds K dI ["self","most"] []):aC P w K mg base (rV P w) 8 f fd ["floor","most"] (D8 K 2 B8):=by
 refine D.F.OW xV (λ_ _ _ _ h=>h.1) (λc A o s H v Q E hr h=>?_);refine⟨_,((2>>=xV>>=(@ki _ _ _ _ (eK d8 dg hr ∅ rfl (pv 0<|az)<|az)))<|>(3>>=xV>>=(@ki _ _ _ _ ((@lj _ _ _ _ _ az)<|az)))<|>(4>>=xV>>=(@ki _ _ _ _ az))<|>yk PassesOwn.leaving (iS C8 (ji kQ (by rfl) T.b7 kR (pv 4<|az)) (ji kQ (by rfl) T.b7 kR (pv 2<|az)) (bg _)) ((iS C9 (ji kQ (by rfl) T.b7 kR (pv 2<|az)) (pv 1) (bg _)<*>(~~~OG (OE PySem.F.excBase_ValueError ⟨Z.lE,Z.cR,Z.dZ,Z.d5⟩ GI (hr.mono ∅) rfl BI (pv 1<|az)))<*>my)<|>(5>>=xV>>=ji kQ (by rfl) T.b7 kR (pv 4<|az))<|>(6>>=xV>>=eK di cx hr ∅ rfl (pv 2<|pv 3<|pv 5<|Lx mj rfl rfl ∅<|az))<|>(7>>=xV>>=eK di cx hr ∅ rfl (pv 2<|pv 3<|pv 5<|Lx jA rfl rfl ∅<|az))<|>(~~~pP (om PySem.F.plainAttrs_list PySem.F.slot_list_append PySem.F.type_list_append rK (pv 4) ((@lj _ _ _ _ _ (pv 6<|pv 7<|az))<|az))))<|>(~~~(@gQ _ _ _ _ (fS lO (by rfl) T.aZ lP (tL (own:=["k"]) (fr:=["forms","words","leads"]) (js:=[2,3,4]) rfl ⟨⟨rfl,by w_fin,by w_fin,by dsimp only[dP,aI,Cx.nz,Cx.wish,PyProof.Rows.envOfC,compEnvC,relabel,Env.kindOf];decide +kernel,by w_fin⟩,rfl⟩ (pR rfl T.aU (ji kQ (by rfl) T.b7 kR (pv 2<|az)<|az)) (λ_ _ _ _ _=>(jg (i:=0) (show((["k"]:List Str) ++ (["forms","words","leads"]:List Str)).Nodup by w_fin) rfl (by w_up))) (λ_ _ _ _ _=>tJ) (λ_ _ _ _ _=>(@lj _ _ _ _ _ ((Du (K:=K) rfl<*pv 1<*pv 0)<|(Du (K:=K) rfl<*pv 2<*pv 0)<|(vF (K:=K) rfl<*(Du (K:=K) rfl<*pv 3<*pv 0)<*aX)<|(vF (K:=K) rfl<*(Du (K:=K) rfl<*pv 3<*pv 0)<*aX)<|az)))<|az))))),?_⟩
 exact xM (b:=ED) (ux (su (bN (kr (au (eJ (F:=xT) (au (ao 0) aA) mG) aA)) (a9 2)))
  (ux (su (bN (kr (au (lx aA) aA)) (a9 3)))
  (ux (su (bN (kr aA) (a9 4)))
  (ux (Sn (iM (aH DS (bW kW (au (ao 4) aA)) (bW kW (au (ao 2) aA)))) (ux (Se (iM (aH DT (bW kW (au (ao 2) aA)) (ao 1))) (Sq (au (ao 1) aA) mG Z.cQ Z.i7 Z.kG Z.d6 Z.d7) (su mD))
  (ux (su (bN (bW kW (au (ao 4) aA)) (a9 5)))
  (ux (su (bN (eJ (F:=xU) (au (ao 2) (au (ao 3) (au (ao 5) (au (Ly mj) aA)))) LV) (a9 6)))
  (ux (su (bN (eJ (F:=xU) (au (ao 2) (au (ao 3) (au (ao 5) (au (Ly jA) aA)))) LV) (a9 7)))
  (su (qH (oQ sg (ao 4) (au (lx (au (ao 6) (au (ao 7) aA))) aA)))))))))
  (su (gU (bW lW (au (pD (qJ (au (bW kW (au (ao 2) aA)) aA)) (a9 0) uk (lx (au (aH lz (ao 1) (ao 0)) (au (aH lz (ao 2) (ao 0)) (au (aH fF (aH lz (ao 3) (ao 0)) (aY _)) (au (aH fF (aH lz (ao 3) (ao 0)) (aY _)) aA)))))) aA)))))))) rfl h
variable {iy:Addr}{iz:FuncData}(cS:qm K mg "chart_of" B9 ["floor","most"] [V.int 60] iy iz)(iA:aC P w K mg base (rV P w) 8 iy iz ["floor","most"] (D8 K 2 B8))
abbrev EE:ai->Dm Fl :=
 (aB (aD (fC .non) (hName 1))
 (aB (oW (oV B8 (af (ag 0) (af (fC (.int 60)) ah)) 1) (xN "TooMany") (aD (fC .non) (hName 1)))
 (bE (ag 1))))
abbrev Ca:List D->Dm D:=gW 2 EE
abbrev Cb:Stmt:=top 42
def EF:ax ["_law_floor_here","_law_found"] ["_law_floor_here"] (aj Cb):=by walk
include cS iA in
def Tt(D:Def K mg "_law_chart" Cb ["_law_floor_here"] f fd)(T:Txt mg){av cI:Addr}(Z:XF K mg av cI):aC P w K mg base bK 9 f fd ["_law_floor_here"] (b5 K 1 Ca):=by
 refine D.F.ok EF (λ_ _ _ _ h=>h.1) (λc A o s H v Q E hr h=>?_);refine⟨_,((1>>=EF>>=Fq)<|>OO (F:=av) Z.lE Z.cR ∅ rfl (λpins W=>(~~~(1>>=EF>>=Ot iA (hr.mono ∅) rfl cS.m cS.F.kp cS.b (pv 0<|aX<|az)))) (λa=>(~~~(1>>=EF>>=Fq)))<|>(~~~(@gQ _ _ _ _ (pv 1)))),?_⟩
 exact i5 (b:=EE) (bC (bN G5 (a9 1))
  (bC (Sr (Sg (F:=B8) (au (ao 0) (au (aY _) aA)) jf) (bN G5 (a9 1)) (Si Z.cQ Z.kF))
  (gU (ao 1)))) rfl h
variable {e7:Addr}{e8:FuncData}(dj:Def K mg "_law_chart" Cb ["_law_floor_here"] e7 e8)(fe:aC P w K mg base bK 9 e7 e8 ["_law_floor_here"] (b5 K 1 Ca))
abbrev EG:ai->Dm Fl :=
 (bE (aL br (af (cw (fM (ag 0)) 1 [1] (hName 0) dY (aL br (af (cw (cq (af (aL dA (af (ag 1) ah)) ah)) 1 [0,1] (hName 0) dY (aE aN (ag 2) (aE aN (ag 1) (mC "tuple" iZ (ag 2) (af (ag 0) ah))))) ah))) ah)))
abbrev Cc:List D->Dm D:=gW 2 EG
abbrev Cd:Stmt:=top 40
def Tv:ax ["_law_floor_here","_law_p"] ["_law_floor_here","_law_p"] (aj Cd):=by walk
def Tw(D:Def K mg "_law_anew" Cd ["_law_floor_here","_law_p"] f fd)(T:Txt mg):aC P w K mg base bK 1 f fd ["_law_floor_here","_law_p"] (b5 K 2 Cc):=by refine D.F.ok Tv (λ_ _ _ _ h=>h.1) (λc A o s H v Q E hr h=>?_);refine⟨_,(~~~(@gQ _ _ _ _ (fS lO (by rfl) T.aZ lP (tL (own:=["_law_turning_here"]) (fr:=["_law_p"]) (js:=[1]) rfl ⟨⟨rfl,by w_fin,by w_fin,by dsimp only[dP,aI,Cx.nz,Cx.wish,PyProof.Rows.envOfC,compEnvC,relabel,Env.kindOf];decide +kernel,by w_fin⟩,rfl⟩ (qZ (pv 0)) (λ_ _ _ _ _=>(jg (i:=0) (show((["_law_turning_here"]:List Str) ++ (["_law_p"]:List Str)).Nodup by w_fin) rfl (by w_up))) (λ_ _ _ _ _=>tJ) (λ_ _ _ _ _=>(fS (NX (K:=K) rfl) (by rfl) T.aZ lP (tL (own:=["_law_s"]) (fr:=["_law_turning_here","_law_p"]) (js:=[0,1]) rfl ⟨QL ⟨rfl,by w_fin,by w_fin,by dsimp only[dP,Cx.nz,Cx.wish,PyProof.Rows.envOfC];decide +kernel,by w_fin⟩,rfl⟩ (pR rfl T.aU (ji (NW (K:=K) rfl) (by rfl) T.b7 kR (pv 1<|az)<|az)) (λ_ _ _ _ _=>(jg (i:=0) (show((["_law_s"]:List Str) ++ (["_law_turning_here","_law_p"]:List Str)).Nodup by w_fin) rfl (by w_up))) (λ_ _ _ _ _=>tJ) (λ_ _ _ _ _=>(vF (K:=K) rfl<*pv 2<*(vF (K:=K) rfl<*pv 1<*vG (K:=K) rfl PySem.F.plainAttrs_tuple PySem.F.slot_tuple_index PySem.F.type_tuple_index (N9 (K:=K) rfl) (pv 2) (pv 0<|az))))<|az)))<|az)))),?_⟩;exact i5 (b:=EG) (gU (bW lW (au (pD (rA (ao 0)) (a9 0) uk (bW lW (au (pD (qJ (au (bW kW (au (ao 1) aA)) aA)) (a9 0) uk (aH fF (ao 2) (aH fF (ao 1) (oQ QI (ao 2) (au (ao 0) aA))))) aA))) aA))) rfl h
variable {gk:Addr}{gn:FuncData}(eu:Def K mg "_law_anew" Cd ["_law_floor_here","_law_p"] gk gn)(gp:aC P w K mg base bK 1 gk gn ["_law_floor_here","_law_p"] (b5 K 2 Cc))
abbrev EH:ai->Dm Fl :=
 (aB (jZ (aJ (aE yD (aE dX (ag 0) (fC (.int 0))) (fC (.int 0)))) (aB (aD (aE jI (aE dX (ag 0) (fC (.int 0))) (ag 1)) (hName 2))
 (aB (aD (aE mT (aE dX (ag 0) (fC (.int 0))) (ag 1)) (hSub (ag 0) (fC (.int 0))))
 (bE (ag 2)))) cv)
 (aB (aD (aE jI (aE ky (aE dX (ag 0) (fC (.int 1))) (fC (.int 48271))) (fC (.int 2147483647))) (hName 3))
 (aB (aD (aE iK (aE jI (aE iK (aE ky (ag 3) (fC (.int 40692))) (fC (.int 30103))) (fC (.int 2147483399))) (fC (.int 1))) (hSub (ag 0) (fC (.int 1))))
 (bE (aE jI (aE mT (aE iK (aE ky (ag 3) (fC (.int 2147483647))) (aE dX (ag 0) (fC (.int 1)))) (fC (.int 8191))) (ag 1))))))
abbrev qT:List D->Dm D:=gW 4 EH
abbrev Ce:Stmt:=top 36
def HG:ax ["_law_feed_here","_law_many","_law_digit","_law_one"] ["_law_feed_here","_law_many"] (aj Ce):=by walk
def Tx(D:Def K mg "_law_take" Ce ["_law_feed_here","_law_many"] f fd)(T:Txt mg):aC P w K mg base bK 1 f fd ["_law_feed_here","_law_many"] (b5 K 2 qT):=by
 refine D.F.ok HG (λ_ _ _ _ h=>h.1) (λc A o s H v Q E hr h=>?_);refine⟨_,((iS C9 (mL<*pv 0<*aX) aX (bg _)<*>((2>>=HG>>=dw q4 (mL<*pv 0<*aX) (pv 1))<|>zk (dw IB (mL<*pv 0<*aX) (pv 1)) (yj (pv 0) aX ym)<|>(~~~(@gQ _ _ _ _ (pv 2))))<*>my)<|>(3>>=HG>>=dw q4 (dw sR (mL<*pv 0<*aX) aX) aX)<|>zk (dw oh (dw q4 (dw oh (dw sR (pv 3) aX) aX) aX) aX) (yj (pv 0) aX ym)<|>(~~~(@gQ _ _ _ _ (dw q4 (dw IB (dw oh (dw sR (pv 3) aX) (mL<*pv 0<*aX)) aX) (pv 1))))),?_⟩
 exact i5 (b:=EH) (bC (lY (iM (aH DT (aH lz (ao 0) (aY _)) (aY _))) (bC (bN (aH rq (aH lz (ao 0) (aY _)) (ao 1)) (a9 2))
  (bC (bN (aH K0 (aH lz (ao 0) (aY _)) (ao 1)) (yL (ao 0) (aY _)))
  (gU (ao 2)))) mD)
  (bC (bN (aH rq (aH uf (aH lz (ao 0) (aY _)) (aY _)) (aY _)) (a9 3))
  (bC (bN (aH oP (aH rq (aH oP (aH uf (ao 3) (aY _)) (aY _)) (aY _)) (aY _)) (yL (ao 0) (aY _)))
  (gU (aH rq (aH K0 (aH oP (aH uf (ao 3) (aY _)) (aH lz (ao 0) (aY _))) (aY _)) (ao 1)))))) rfl h
variable {gq:Addr}{gu:FuncData}(aW:Def K mg "_law_take" Ce ["_law_feed_here","_law_many"] gq gu)(bj:aC P w K mg base bK 1 gq gu ["_law_feed_here","_law_many"] (b5 K 2 qT))
abbrev EI:ai->Dm Fl :=
 (aB (aD (aL dr (af (aL ia (af (ag 1) ah)) ah)) (hName 2))
 (aB (aD (dW ah) (hName 3))
 (aB (fX (aJ (aE (mV true) (ag 2) (df ah))) (aD (aE kz (ag 3) (dW (af (mC "list" jJ (ag 2) (af (aL qT (af (ag 0) (af (aL dA (af (ag 2) ah)) ah))) ah)) ah))) (hName 3)))
 (bE (ag 3)))))
abbrev sA:List D->Dm D:=gW 4 EI
abbrev Cf:Stmt:=top 37
def EJ:ax ["_law_feed_here","_law_n","_law_left","_law_found"] ["_law_feed_here","_law_n"] (aj Cf):=by walk
include aW bj in
def Tz(D:Def K mg "_law_turning" Cf ["_law_feed_here","_law_n"] f fd)(T:Txt mg):aC P w K mg base bK 2 f fd ["_law_feed_here","_law_n"] (b5 K 2 sA):=by
 refine D.F.ok EJ (λ_ _ _ _ h=>h.1) (λc A o s H v Q E hr h=>?_);have hu:=hr.units;refine⟨_,((2>>=EJ>>=fS (rM rfl) (by rfl) T.du pB (fS FZ (by rfl) T.aU rL (pv 1<|az)<|az))<|>(3>>=EJ>>=(@lj _ _ _ _ _ az))<|>yk PassesOwn.never (iS (Jt hu) (pv 2) (@ki _ _ _ _ az) (bg _)) (~~~(3>>=EJ>>=dw Dj (pv 3) (@lj _ _ _ _ _ (om PySem.F.plainAttrs_list PySem.F.slot_list_pop PySem.F.type_list_pop Nj (pv 2) (eK bj aW hr ∅ rfl (pv 0<|ji kQ (by rfl) T.b7 kR (pv 2<|az)<|az)<|az)<|az))))<|>(~~~(@gQ _ _ _ _ (pv 3)))),?_⟩
 exact i5 (b:=EI) (bC (bN (bW se (au (bW Hg (au (ao 1) aA)) aA)) (a9 2))
  (bC (bN (lx aA) (a9 3))
  (bC (AX (iM (aH (K2 true) (ao 2) (kr aA))) (bN (aH DW (ao 3) (lx (au (oQ QH (ao 2) (au (eJ (F:=qT) (au (ao 0) (au (bW kW (au (ao 2) aA)) aA)) jf) aA)) aA))) (a9 3)))
  (gU (ao 3))))) rfl h
variable {c5:Addr}{c6:FuncData}(aR:Def K mg "_law_turning" Cf ["_law_feed_here","_law_n"] c5 c6)(a7:aC P w K mg base bK 2 c5 c6 ["_law_feed_here","_law_n"] (b5 K 2 sA))
abbrev EK:ai->Dm Fl :=
 (aB (aD (df (af (fC (.int 0)) ah)) (hName 1))
 (aB (fL (cq (af (aE iK (fC (.int 1)) (aL dA (af (aE aN (ag 0) (fC (.int 0))) ah))) ah)) (hName 2) (fL (fM (ag 0)) (hName 3) (fL (i3 (aL lA (af (ag 1) ah))) (hName 4) (jZ (aJ (aE (pd true) (aE aN (ag 3) (ag 4)) (ag 1))) (eQ (mC "list" cb (ag 1) (af (aE aN (ag 3) (ag 4)) ah))) cv))))
 (bE (ag 1))))
abbrev sC:List D->Dm D:=gW 5 EK
abbrev Ci:Stmt:=top 38
def Cj:ax ["_law_floor_here","_law_found","_law_turn","_law_turning_here","_law_one"] ["_law_floor_here"] (aj Ci):=by walk
def TB(D:Def K mg "_law_met" Ci ["_law_floor_here"] f fd)(T:Txt mg):aC P w K mg base bK 1 f fd ["_law_floor_here"] (b5 K 1 sC):=by
 refine D.F.ok Cj (λ_ _ _ _ h=>h.1) (λc A o s H v Q E hr h=>?_);refine⟨_,((1>>=Cj>>=(@ki _ _ _ _ (aX<|az)))<|>(pR rfl T.aU (dw oh aX (ji kQ (by rfl) T.b7 kR ((gR<*pv 0<*aX)<|az))<|az)&&&(jg (i:=2) Cj.nd rfl (by w_up))&&&(~~~(qZ (pv 0)&&&(jg (i:=3) Cj.nd rfl (by w_up))&&&(~~~(C1 (fS FO (by rfl) T.du pB (pv 1<|az))&&&(jg (i:=4) Cj.nd rfl (by w_up))&&&(~~~(iS Dd (gR<*pv 3<*pv 4) (pv 1) (by with_unfolding_all rfl)<*>(~~~pP (om PySem.F.plainAttrs_list PySem.F.slot_list_append PySem.F.type_list_append rK (pv 1) ((gR<*pv 3<*pv 4)<|az)))<*>my)))))))<|>(~~~(@gQ _ _ _ _ (pv 1)))),?_⟩
 exact i5 (b:=EK) (bC (bN (kr (au (aY _) aA)) (a9 1))
  (bC (nY (qJ (au (aH oP (aY _) (bW kW (au (aH fF (ao 0) (aY _)) aA))) aA)) (a9 2) (nY (rA (ao 0)) (a9 3) (nY (DY (bW Hf (au (ao 1) aA))) (a9 4) (lY (iM (aH (yI true) (aH fF (ao 3) (ao 4)) (ao 1))) (qH (oQ sg (ao 1) (au (aH fF (ao 3) (ao 4)) aA))) mD))))
  (gU (ao 1)))) rfl h
variable {iB:Addr}{iC:FuncData}(dO:Def K mg "_law_met" Ci ["_law_floor_here"] iB iC)(fP:aC P w K mg base bK 1 iB iC ["_law_floor_here"] (b5 K 1 sC))
abbrev EL:ai->Dm Fl :=
 (aB (aD (aL qT (af (ag 0) (af (fC (.int 6)) ah))) (hName 2))
 (aB (ph 3 4 (af (aL lA (af (aL sA (af (ag 0) (af (ag 1) ah))) ah)) (af (aL lA (af (aL sA (af (ag 0) (af (ag 1) ah))) ah)) ah)))
 (aB (jZ (aJ (aE (mU false) (ag 2) (fC (.int 0)))) (aD (aE kA (aL dr (af (aL dB (af (fC (.int 1)) (af (ag 1) ah))) ah)) (df (af (fC (.int 0)) ah))) (hName 3)) cv)
 (aB (jZ (aJ (aE (mU false) (ag 2) (fC (.int 1)))) (ph 3 4 (af (aL dr (af (aL ia (af (ag 1) ah)) ah)) (af (aE kA (aL dr (af (aL dB (af (fC (.int 1)) (af (ag 1) ah))) ah)) (df (af (fC (.int 0)) ah))) ah))) cv)
 (aB (jZ (aJ (aE (mU false) (ag 2) (fC (.int 2)))) (aB (aD (aE iK (fC (.int 1)) (aL qT (af (ag 0) (af (ag 1) ah)))) (hName 5))
 (aB (aD (aE kA (aE kA (aL dr (af (aL dB (af (fC (.int 1)) (af (ag 5) ah))) ah)) (df (af (fC (.int 0)) ah))) (aL dr (af (aL dB (af (ag 5) (af (ag 1) ah))) ah))) (hName 3))
 (aB (aD (yB qE (aE kA (aE kA (aE kA (df (af (ag 5) ah)) (aL dr (af (aL dB (af (fC (.int 1)) (af (ag 5) ah))) ah))) (aL dr (af (aL dB (af (aE iK (ag 5) (fC (.int 1))) (af (ag 1) ah))) ah))) (df (af (fC (.int 0)) ah))) jo (ly (ag 1))) (hName 4))
 (jZ (aJ (aE (mU false) (ag 5) (ag 1))) (aD (aL dr (af (aL ia (af (ag 1) ah)) ah)) (hName 4)) cv)))) cv)
 (aB (aD (dW (af (aL br (af (ag 3) ah)) (af (aL br (af (ag 4) ah)) ah))) (hName 6))
 (aB (aD (cw (cq (af (ag 1) ah)) 1 [6] (hName 0) (aJ (aE (pd true) (ag 0) (aL sC (af (ag 1) ah)))) (ag 0)) (hName 7))
 (aB (fX (aJ (aE (mV true) (ag 7) (df ah))) (aB (aD (aE dX (ag 7) (fC (.int 0))) (hName 8))
 (aB (aD (dW (af (aE dX (ag 3) (ag 8)) (af (aE dX (ag 3) (fC (.int 0))) ah))) (pg 2 (jR (hSub (ag 3) (fC (.int 0))) (jR (hSub (ag 3) (ag 8)) qG))))
 (aB (aD (dW (af (aL br (af (ag 3) ah)) (af (aL br (af (ag 4) ah)) ah))) (hName 6))
 (aD (cw (cq (af (ag 1) ah)) 1 [6] (hName 0) (aJ (aE (pd true) (ag 0) (aL sC (af (ag 1) ah)))) (ag 0)) (hName 7))))))
 (bE (ag 6))))))))))
abbrev Ck:List D->Dm D:=gW 9 EL
abbrev Cm:Stmt:=top 39
def oY:ax ["_law_feed_here","_law_n","_law_form","_law_right","_law_up","_law_wide","_law_found","_law_apart","_law_m"] ["_law_feed_here","_law_n"] (aj Cm):=by walk
include aW bj aR a7 dO fP in
def TC(D:Def K mg "_law_floor" Cm ["_law_feed_here","_law_n"] f fd)(T:Txt mg):aC P w K mg base bK 3 f fd ["_law_feed_here","_law_n"] (b5 K 2 Ck):=by
 refine D.F.ok oY (λ_ _ _ _ h=>h.1) (λc A o s H v Q E hr h=>?_);have hu:=hr.units;refine⟨_,((2>>=oY>>=eK bj aW hr ∅ rfl (pv 0<|aX<|az))<|>(Fv (i:=3) (j:=4) rfl oY.nd rfl rfl ∅ rfl rfl (fS FO (by rfl) T.du pB (eK a7 aR hr ∅ rfl (pv 0<|pv 1<|az)<|az)<|fS FO (by rfl) T.du pB (eK a7 aR hr ∅ rfl (pv 0<|pv 1<|az)<|az)<|az) rfl)<|>(iS sS (pv 2) aX (bg _)<*>(~~~(3>>=oY>>=dw tm (fS (rM rfl) (by rfl) T.du pB (fS yo (by rfl) T.aU rL (aX<|pv 1<|az)<|az)) (@ki _ _ _ _ (aX<|az))))<*>my)<|>(iS sS (pv 2) aX (bg _)<*>(~~~(Fv (i:=3) (j:=4) rfl oY.nd rfl rfl ∅ rfl rfl (fS (rM rfl) (by rfl) T.du pB (fS FZ (by rfl) T.aU rL (pv 1<|az)<|az)<|dw tm (fS (rM rfl) (by rfl) T.du pB (fS yo (by rfl) T.aU rL (aX<|pv 1<|az)<|az)) (@ki _ _ _ _ (aX<|az))<|az) rfl))<*>my)<|>(iS sS (pv 2) aX (bg _)<*>((5>>=oY>>=dw oh aX (eK bj aW hr ∅ rfl (pv 0<|pv 1<|az)))<|>(3>>=oY>>=dw tm (dw tm (fS (rM rfl) (by rfl) T.du pB (fS yo (by rfl) T.aU rL (aX<|pv 5<|az)<|az)) (@ki _ _ _ _ (aX<|az))) (fS (rM rfl) (by rfl) T.du pB (fS yo (by rfl) T.aU rL (pv 5<|pv 1<|az)<|az)))<|>(4>>=oY>>=FH Jd (dw tm (dw tm (dw tm (@ki _ _ _ _ (pv 5<|az)) (fS (rM rfl) (by rfl) T.du pB (fS yo (by rfl) T.aU rL (aX<|pv 5<|az)<|az))) (fS (rM rfl) (by rfl) T.du pB (fS yo (by rfl) T.aU rL (dw oh (pv 5) aX<|pv 1<|az)<|az))) (@ki _ _ _ _ (aX<|az))) FF (FG (pv 1)))<|>(~~~(iS sS (pv 5) (pv 1) (bg _)<*>(~~~(4>>=oY>>=fS (rM rfl) (by rfl) T.du pB (fS FZ (by rfl) T.aU rL (pv 1<|az)<|az)))<*>my)))<*>my)<|>(6>>=oY>>=(@lj _ _ _ _ _ (fS lO (by rfl) T.aZ lP (pv 3<|az)<|fS lO (by rfl) T.aZ lP (pv 4<|az)<|az)))<|>(Ds (i:=7) (own:=["_law_s"]) (fr:=["_law_found"]) (js:=[6]) rfl oY.nd rfl rfl ⟨⟨rfl,by w_fin,by w_fin,by dsimp only[dP,aI,Cx.nz,Cx.wish,PyProof.Rows.envOfC,compEnvC,relabel,Env.kindOf];decide +kernel,by w_fin⟩,rfl⟩ (pR rfl T.aU (pv 1<|az)) (λ_ _ _ _ _=>(jg (i:=0) (show((["_law_s"]:List Str) ++ (["_law_found"]:List Str)).Nodup by w_fin) rfl (by w_up))) (λ_ _ _ _ _=>(Dn (iS (Gf (K:=K) rfl) (pv 0) (eK fP dO hr ∅ rfl (pv 1<|az)) (by with_unfolding_all rfl)))) (λ_ _ _ _ _=>(pv 0)))<|>yk PassesOwn.never (iS (Jt hu) (pv 7) (@ki _ _ _ _ az) (bg _)) ((8>>=oY>>=(mL<*pv 7<*aX))<|>zk (@lj _ _ _ _ _ ((mL<*pv 3<*pv 8)<|(mL<*pv 3<*aX)<|az)) (Fu (n:=2) rfl (yi (yj (pv 3) aX ym) (yi (yj (pv 3) (pv 8) ym) Ft)))<|>(6>>=oY>>=(@lj _ _ _ _ _ (fS lO (by rfl) T.aZ lP (pv 3<|az)<|fS lO (by rfl) T.aZ lP (pv 4<|az)<|az)))<|>(~~~(Ds (i:=7) (own:=["_law_s"]) (fr:=["_law_found"]) (js:=[6]) rfl oY.nd rfl rfl ⟨⟨rfl,by w_fin,by w_fin,by dsimp only[dP,aI,Cx.nz,Cx.wish,PyProof.Rows.envOfC,compEnvC,relabel,Env.kindOf];decide +kernel,by w_fin⟩,rfl⟩ (pR rfl T.aU (pv 1<|az)) (λ_ _ _ _ _=>(jg (i:=0) (show((["_law_s"]:List Str) ++ (["_law_found"]:List Str)).Nodup by w_fin) rfl (by w_up))) (λ_ _ _ _ _=>(Dn (iS (Gf (K:=K) rfl) (pv 0) (eK fP dO hr ∅ rfl (pv 1<|az)) (by with_unfolding_all rfl)))) (λ_ _ _ _ _=>(pv 0)))))<|>(~~~(@gQ _ _ _ _ (pv 6)))),?_⟩
 exact i5 (b:=EL) (bC (bN (eJ (F:=qT) (au (ao 0) (au (aY _) aA)) jf) (a9 2))
  (bC (Hk (au (bW Hf (au (eJ (F:=sA) (au (ao 0) (au (ao 1) aA)) jf) aA)) (au (bW Hf (au (eJ (F:=sA) (au (ao 0) (au (ao 1) aA)) jf) aA)) aA)))
  (bC (lY (iM (aH ug (ao 2) (aY _))) (bN (aH uh (bW se (au (bW yJ (au (aY _) (au (ao 1) aA))) aA)) (kr (au (aY _) aA))) (a9 3)) mD)
  (bC (lY (iM (aH ug (ao 2) (aY _))) (Hk (au (bW se (au (bW Hg (au (ao 1) aA)) aA)) (au (aH uh (bW se (au (bW yJ (au (aY _) (au (ao 1) aA))) aA)) (kr (au (aY _) aA))) aA))) mD)
  (bC (lY (iM (aH ug (ao 2) (aY _))) (bC (bN (aH oP (aY _) (eJ (F:=qT) (au (ao 0) (au (ao 1) aA)) jf)) (a9 5))
  (bC (bN (aH uh (aH uh (bW se (au (bW yJ (au (aY _) (au (ao 5) aA))) aA)) (kr (au (aY _) aA))) (bW se (au (bW yJ (au (ao 5) (au (ao 1) aA))) aA))) (a9 3))
  (bC (bN (G9 K3 (aH uh (aH uh (aH uh (kr (au (ao 5) aA)) (bW se (au (bW yJ (au (aY _) (au (ao 5) aA))) aA))) (bW se (au (bW yJ (au (aH oP (ao 5) (aY _)) (au (ao 1) aA))) aA))) (kr (au (aY _) aA))) G7 (G8 (ao 1))) (a9 4))
  (lY (iM (aH ug (ao 5) (ao 1))) (bN (bW se (au (bW Hg (au (ao 1) aA)) aA)) (a9 4)) mD)))) mD)
  (bC (bN (lx (au (bW lW (au (ao 3) aA)) (au (bW lW (au (ao 4) aA)) aA))) (a9 6))
  (bC (bN (pD (qJ (au (ao 1) aA)) (a9 0) (iM (aH (yI true) (ao 0) (eJ (F:=sC) (au (ao 1) aA) mG))) (ao 0)) (a9 7))
  (bC (AX (iM (aH (K2 true) (ao 7) (kr aA))) (bC (bN (aH lz (ao 7) (aY _)) (a9 8))
  (bC (bN (lx (au (aH lz (ao 3) (ao 8)) (au (aH lz (ao 3) (aY _)) aA))) (Hj (yK (yL (ao 3) (aY _)) (yK (yL (ao 3) (ao 8)) Hi))))
  (bC (bN (lx (au (bW lW (au (ao 3) aA)) (au (bW lW (au (ao 4) aA)) aA))) (a9 6))
  (bN (pD (qJ (au (ao 1) aA)) (a9 0) (iM (aH (yI true) (ao 0) (eJ (F:=sC) (au (ao 1) aA) mG))) (ao 0)) (a9 7))))))
  (gU (ao 6)))))))))) rfl h
variable {ff:Addr}{fg:FuncData}(dk:Def K mg "_law_floor" Cm ["_law_feed_here","_law_n"] ff fg)(fj:aC P w K mg base bK 3 ff fg ["_law_feed_here","_law_n"] (b5 K 2 Ck))
abbrev EM:ai->Dm Fl :=
 (aB (aD (aE dX (df (af (fC (.int 2)) (af (fC (.int 3)) (af (fC (.int 4)) (af (fC (.int 3)) (af (fC (.int 4)) (af (fC (.int 5)) (af (fC (.int 4)) (af (fC (.int 6)) ah))))))))) (aL qT (af (ag 0) (af (fC (.int 8)) ah)))) (hName 1))
 (bE (aL Cc (af (aL Ck (af (ag 0) (af (ag 1) ah))) (af (aL sA (af (ag 0) (af (ag 1) ah))) ah)))))
abbrev Cn:List D->Dm D:=gW 2 EM
abbrev Co:Stmt:=top 41
def LX:ax ["_law_feed_here","_law_n"] ["_law_feed_here"] (aj Co):=by walk
include eu gp aW bj aR a7 dk fj in
def TF(D:Def K mg "_law_few" Co ["_law_feed_here"] f fd)(T:Txt mg):aC P w K mg base bK 4 f fd ["_law_feed_here"] (b5 K 1 Cn):=by
 refine D.F.ok LX (λ_ _ _ _ h=>h.1) (λc A o s H v Q E hr h=>?_);refine⟨_,((1>>=LX>>=(mL<*(@ki _ _ _ _ (aX<|aX<|aX<|aX<|aX<|aX<|aX<|aX<|az))<*eK bj aW hr ∅ rfl (pv 0<|aX<|az)))<|>(~~~(@gQ _ _ _ _ (eK gp eu hr ∅ rfl (eK fj dk hr ∅ rfl (pv 0<|pv 1<|az)<|eK a7 aR hr ∅ rfl (pv 0<|pv 1<|az)<|az))))),?_⟩
 exact i5 (b:=EM) (bC (bN (aH lz (kr (au (aY _) (au (aY _) (au (aY _) (au (aY _) (au (aY _) (au (aY _) (au (aY _) (au (aY _) aA))))))))) (eJ (F:=qT) (au (ao 0) (au (aY _) aA)) jf)) (a9 1))
  (gU (eJ (F:=Cc) (au (eJ (F:=Ck) (au (ao 0) (au (ao 1) aA)) jf) (au (eJ (F:=sA) (au (ao 0) (au (ao 1) aA)) jf) aA)) jf))) rfl h
variable {iD:Addr}{iE:FuncData}(fQ:Def K mg "_law_few" Co ["_law_feed_here"] iD iE)(iF:aC P w K mg base bK 4 iD iE ["_law_feed_here"] (b5 K 1 Cn))
abbrev EN:ai->Dm Fl :=
 (aB (aD (aE iK (aE ky (fC (.int 7901)) (ag 1)) (fC (.int 24697))) (hName 2))
 (aB (jZ (aJ (aE yC (ag 1) (aL dA (af (ag 0) ah)))) (aD (aE dX (ag 0) (ag 1)) (hName 2)) (jZ (aJ (aE yD (aL dA (af (ag 0) ah)) (fC (.int 0)))) (aD (aE iK (aE ky (aE jI (aE dX (ag 0) (aE jI (ag 1) (aL dA (af (ag 0) ah)))) (fC (.int 2147483629))) (fC (.int 31))) (aE ky (fC (.int 7901)) (ag 1))) (hName 2)) cv))
 (aB (aD (fC (.int 0)) (hName 3))
 (aB (jZ (aJ (aE Hc (ag 2) (aE qD (fC (.int 10)) (fC (.int 18))))) (aD (ag 2) (hName 3)) cv)
 (bE (df (af (ag 3) (af (aE iK (aE jI (aE qD (aE iK (aE ky (aE jI (ag 2) (fC (.int 2147483629))) (fC (.int 48271))) (aE ky (fC (.int 40692)) (ag 1))) (fC (.int 5))) (fC (.int 2147483629))) (fC (.int 1))) ah))))))))
abbrev Cp:List D->Dm D:=gW 4 EN
abbrev Cq:Stmt:=top 35
def yZ:ax ["_law_script","_law_k","_law_cell","_law_own"] ["_law_script","_law_k"] (aj Cq):=by walk
def TH(D:Def K mg "_law_feed" Cq ["_law_script","_law_k"] f fd)(T:Txt mg):aC P w K mg base bK 1 f fd ["_law_script","_law_k"] (b5 K 2 Cp):=by
 refine D.F.ok yZ (λ_ _ _ _ h=>h.1) (λc A o s H v Q E hr h=>?_);refine⟨_,((2>>=yZ>>=dw oh (dw sR aX (pv 1)) aX)<|>(iS C8 (pv 1) (ji kQ (by rfl) T.b7 kR (pv 0<|az)) (bg _)<*>(~~~(2>>=yZ>>=(mL<*pv 0<*pv 1)))<*>(~~~(iS C9 (ji kQ (by rfl) T.b7 kR (pv 0<|az)) aX (bg _)<*>(~~~(2>>=yZ>>=dw oh (dw sR (dw q4 (mL<*pv 0<*dw q4 (pv 1) (ji kQ (by rfl) T.b7 kR (pv 0<|az))) aX) aX) (dw sR aX (pv 1))))<*>my)))<|>(3>>=yZ>>=aX)<|>(iS zv (pv 2) (dw IC aX aX) (bg _)<*>(~~~(3>>=yZ>>=pv 2))<*>my)<|>(~~~(@gQ _ _ _ _ (@ki _ _ _ _ (pv 3<|dw oh (dw q4 (dw IC (dw oh (dw sR (dw q4 (pv 2) aX) aX) (dw sR aX (pv 1))) aX) aX) aX<|az))))),?_⟩
 exact i5 (b:=EN) (bC (bN (aH oP (aH uf (aY _) (ao 1)) (aY _)) (a9 2))
  (bC (lY (iM (aH DS (ao 1) (bW kW (au (ao 0) aA)))) (bN (aH lz (ao 0) (ao 1)) (a9 2)) (lY (iM (aH DT (bW kW (au (ao 0) aA)) (aY _))) (bN (aH oP (aH uf (aH rq (aH lz (ao 0) (aH rq (ao 1) (bW kW (au (ao 0) aA)))) (aY _)) (aY _)) (aH uf (aY _) (ao 1))) (a9 2)) mD))
  (bC (bN (aY _) (a9 3))
  (bC (lY (iM (aH AR (ao 2) (aH K1 (aY _) (aY _)))) (bN (ao 2) (a9 3)) mD)
  (gU (kr (au (ao 3) (au (aH oP (aH rq (aH K1 (aH oP (aH uf (aH rq (ao 2) (aY _)) (aY _)) (aH uf (aY _) (ao 1))) (aY _)) (aY _)) (aY _)) aA)))))))) rfl h
variable {gw:Addr}{gx:FuncData}(eB:Def K mg "_law_feed" Cq ["_law_script","_law_k"] gw gx)(gy:aC P w K mg base bK 1 gw gx ["_law_script","_law_k"] (b5 K 2 Cp))
abbrev EO:ai->Dm Fl :=
 (bE (dW (af (aL br (af (cw (fM (ag 0)) 1 [] (hName 0) dY (aE aN (ag 0) (fC (.int 2)))) ah)) (af (aL br (af (cw (fM (ag 0)) 1 [] (hName 0) dY (aE aN (ag 0) (fC (.int 3)))) ah)) ah))))
abbrev Cr:List D->Dm D:=gW 1 EO
abbrev Cs:Stmt:=top 30
def TJ:ax ["chart"] ["chart"] (aj Cs):=by walk
def TK(D:Def K mg "row_turnings" Cs ["chart"] f fd)(T:Txt mg):aC P w K mg base bK 1 f fd ["chart"] (b5 K 1 Cr):=by refine D.F.ok TJ (λ_ _ _ _ h=>h.1) (λc A o s H v Q E hr h=>?_);refine⟨_,(~~~(@gQ _ _ _ _ (@lj _ _ _ _ _ (fS lO (by rfl) T.aZ lP (tL (own:=["row"]) (fr:=[]) (js:=[]) rfl ⟨⟨rfl,by w_fin,by w_fin,by dsimp only[dP,aI,Cx.nz,Cx.wish,PyProof.Rows.envOfC,compEnvC,relabel,Env.kindOf];decide +kernel,by w_fin⟩,rfl⟩ (qZ (pv 0)) (λ_ _ _ _ _=>(jg (i:=0) (show((["row"]:List Str) ++ ([]:List Str)).Nodup by w_fin) rfl (by w_up))) (λ_ _ _ _ _=>tJ) (λ_ _ _ _ _=>(vF (K:=K) rfl<*pv 0<*aX))<|az)<|fS lO (by rfl) T.aZ lP (tL (own:=["row"]) (fr:=[]) (js:=[]) rfl ⟨⟨rfl,by w_fin,by w_fin,by dsimp only[dP,aI,Cx.nz,Cx.wish,PyProof.Rows.envOfC,compEnvC,relabel,Env.kindOf];decide +kernel,by w_fin⟩,rfl⟩ (qZ (pv 0)) (λ_ _ _ _ _=>(jg (i:=0) (show((["row"]:List Str) ++ ([]:List Str)).Nodup by w_fin) rfl (by w_up))) (λ_ _ _ _ _=>tJ) (λ_ _ _ _ _=>(vF (K:=K) rfl<*pv 0<*aX))<|az)<|az)))),?_⟩;exact i5 (b:=EO) (gU (lx (au (bW lW (au (pD (rA (ao 0)) (a9 0) uk (aH fF (ao 0) (aY _))) aA)) (au (bW lW (au (pD (rA (ao 0)) (a9 0) uk (aH fF (ao 0) (aY _))) aA)) aA)))) rfl h
variable {c7:Addr}{c9:FuncData}(b9:Def K mg "row_turnings" Cs ["chart"] c7 c9)(dc:aC P w K mg base bK 1 c7 c9 ["chart"] (b5 K 1 Cr))
abbrev ER:ai->Dm Fl :=
 (aB (aD (aL Cr (af (ag 0) ah)) (hName 1))
 (bE (dW (af (aE aN (ag 1) (fC (.int 0))) (af (aL n9 (af (aE aN (ag 1) (fC (.int 1))) (af (aE aN (ag 1) (fC (.int 1))) ah))) ah)))))
abbrev Ct:List D->Dm D:=gW 2 ER
abbrev Cu:Stmt:=top 32
def LY:ax ["chart","turnings"] ["chart"] (aj Cu):=by walk
include aV a8 b9 dc in
def TL(D:Def K mg "level_turnings" Cu ["chart"] f fd)(T:Txt mg):aC P w K mg base bK 2 f fd ["chart"] (b5 K 1 Ct):=by
 refine D.F.ok LY (λ_ _ _ _ h=>h.1) (λc A o s H v Q E hr h=>?_);refine⟨_,((1>>=LY>>=eK dc b9 hr ∅ rfl (pv 0<|az))<|>(~~~(@gQ _ _ _ _ (@lj _ _ _ _ _ ((gR<*pv 1<*aX)<|eK a8 aV hr ∅ rfl ((gR<*pv 1<*aX)<|(gR<*pv 1<*aX)<|az)<|az))))),?_⟩
 exact i5 (b:=ER) (bC (bN (eJ (F:=Cr) (au (ao 0) aA) mG) (a9 1))
  (gU (lx (au (aH fF (ao 1) (aY _)) (au (eJ (F:=n9) (au (aH fF (ao 1) (aY _)) (au (aH fF (ao 1) (aY _)) aA)) jf) aA))))) rfl h
variable {ck:Addr}{cm:FuncData}(bH:Def K mg "level_turnings" Cu ["chart"] ck cm)(cn:aC P w K mg base bK 2 ck cm ["chart"] (b5 K 1 Ct))
abbrev ES:ai->Dm Fl :=
 (aB (aD (aL Ct (af (ag 0) ah)) (hName 1))
 (aB (aD (df ah) (hName 2))
 (aB (fL (cq (af (aL dA (af (ag 0) ah)) ah)) (hName 3) (aB (aD (aL br (af (aL fV (af (aL xS (af (ag 1) (af (ag 3) ah))) ah)) ah)) (hName 4))
 (jZ (aJ (aE (n4 true) (ag 4) (ag 2))) (eQ (mC "list" cb (ag 2) (af (ag 4) ah))) cv)))
 (bE (aL br (af (ag 2) ah))))))
abbrev Cv:List D->Dm D:=gW 5 ES
abbrev Cw:Stmt:=top 33
def Cy:ax ["chart","turnings","kinds","number","kind"] ["chart"] (aj Cw):=by walk
include a6 bz bH cn in
def TM(D:Def K mg "kinds_of" Cw ["chart"] f fd)(T:Txt mg):aC P w K mg base bK 3 f fd ["chart"] (b5 K 1 Cv):=by
 refine D.F.ok Cy (λ_ _ _ _ h=>h.1) (λc A o s H v Q E hr h=>?_);have hu:=hr.units;refine⟨_,((1>>=Cy>>=eK cn bH hr ∅ rfl (pv 0<|az))<|>(2>>=Cy>>=(@ki _ _ _ _ az))<|>(pR rfl T.aU (ji kQ (by rfl) T.b7 kR (pv 0<|az)<|az)&&&(jg (i:=3) Cy.nd rfl (by w_up))&&&((4>>=Cy>>=fS lO (by rfl) T.aZ lP (ji Js (by rfl) T.jr Dh (eK bz a6 hr ∅ rfl (pv 1<|pv 3<|az)<|az)<|az))<|>(~~~(iS (JF hu) (pv 4) (pv 2) (by with_unfolding_all rfl)<*>(~~~pP (om PySem.F.plainAttrs_list PySem.F.slot_list_append PySem.F.type_list_append rK (pv 2) (pv 4<|az)))<*>my))))<|>(~~~(@gQ _ _ _ _ (fS lO (by rfl) T.aZ lP (pv 2<|az))))),?_⟩
 exact i5 (b:=ES) (bC (bN (eJ (F:=Ct) (au (ao 0) aA) mG) (a9 1))
  (bC (bN (kr aA) (a9 2))
  (bC (nY (qJ (au (bW kW (au (ao 0) aA)) aA)) (a9 3) (bC (bN (bW lW (au (bW K9 (au (eJ (F:=xS) (au (ao 1) (au (ao 3) aA)) jf) aA)) aA)) (a9 4))
  (lY (iM (aH (LF true) (ao 4) (ao 2))) (qH (oQ sg (ao 2) (au (ao 4) aA))) mD)))
  (gU (bW lW (au (ao 2) aA)))))) rfl h
variable {iG:Addr}{iH:FuncData}(fR:Def K mg "kinds_of" Cw ["chart"] iG iH)(iI:aC P w K mg base bK 3 iG iH ["chart"] (b5 K 1 Cv))
abbrev ET:ai->Dm Fl :=
 (aB (ph 1 2 (af (df ah) (af (df ah) ah)))
 (aB (fL (cq (af (aL dA (af (ag 0) ah)) ah)) (hName 3) (jZ (aJ (aE (pd true) (ag 3) (ag 2))) (aB (aD (df (af (ag 3) ah)) (hName 4))
 (aB (aD (fC (.int 0)) (hName 5))
 (aB (fX (aJ (aE yC (ag 5) (aL dA (af (ag 4) ah)))) (aB (aD (df (af (aE aN (aE aN (ag 0) (aE dX (ag 4) (ag 5))) (fC (.int 2))) (af (aE aN (aE aN (ag 0) (aE aN (aE aN (ag 0) (aE dX (ag 4) (ag 5))) (fC (.int 3)))) (fC (.int 3))) ah))) (hName 6))
 (aB (eQ (mC "list" fW (ag 4) (af (cw (i3 (l8 (ag 6))) 1 [4] (hName 0) (aJ (aE (pd true) (ag 0) (ag 1))) (ag 0)) ah)))
 (aD (aE iK (ag 5) (fC (.int 1))) (hName 5)))))
 (aB (eQ (mC "list" fW (ag 2) (af (ag 4) ah)))
 (eQ (mC "list" cb (ag 1) (af (aL br (af (aL fV (af (ag 4) ah)) ah)) ah))))))) cv))
 (bE (aL br (af (aL jL (af (ag 1) ah)) ah)))))
abbrev Cz:List D->Dm D:=gW 7 ET
abbrev CA:Stmt:=top 43
def xW:ax ["_law_chart_here","_law_found","_law_met_here","_law_begin","_law_kind","_law_at","_law_near"] ["_law_chart_here"] (aj CA):=by walk
def TN(D:Def K mg "_law_kinds" CA ["_law_chart_here"] f fd)(T:Txt mg):aC P w K mg base bK 1 f fd ["_law_chart_here"] (b5 K 1 Cz):=by
 refine D.F.ok xW (λ_ _ _ _ h=>h.1) (λc A o s H v Q E hr h=>?_);have hu:=hr.units;refine⟨_,((Fv (i:=1) (j:=2) rfl xW.nd rfl rfl ∅ rfl rfl ((@ki _ _ _ _ az)<|(@ki _ _ _ _ az)<|az) rfl)<|>(pR rfl T.aU (ji kQ (by rfl) T.b7 kR (pv 0<|az)<|az)&&&(jg (i:=3) xW.nd rfl (by w_up))&&&(~~~(iS Dd (pv 3) (pv 2) (by with_unfolding_all rfl)<*>((4>>=xW>>=(@ki _ _ _ _ (pv 3<|az)))<|>(5>>=xW>>=aX)<|>yk PassesOwn.never (iS C8 (pv 5) (ji kQ (by rfl) T.b7 kR (pv 4<|az)) (bg _)) ((6>>=xW>>=(@ki _ _ _ _ ((gR<*(gR<*pv 0<*(mL<*pv 4<*pv 5))<*aX)<|(gR<*(gR<*pv 0<*(gR<*(gR<*pv 0<*(mL<*pv 4<*pv 5))<*aX))<*aX)<|az)))<|>pP (om PySem.F.plainAttrs_list PySem.F.slot_list_extend PySem.F.type_list_extend Jh (pv 4) (tL (own:=["_law_row"]) (fr:=["_law_kind"]) (js:=[4]) rfl ⟨⟨rfl,by w_fin,by w_fin,by dsimp only[dP,aI,Cx.nz,Cx.wish,PyProof.Rows.envOfC,compEnvC,relabel,Env.kindOf];decide +kernel,by w_fin⟩,rfl⟩ (C1 (Pw rfl rfl T.jr rfl T.Bv (pv 6))) (λ_ _ _ _ _=>(jg (i:=0) (show((["_law_row"]:List Str) ++ (["_law_kind"]:List Str)).Nodup by w_fin) rfl (by w_up))) (λ_ _ _ _ _=>(Dn (iS (Gf (K:=K) rfl) (pv 0) (pv 1) (by with_unfolding_all rfl)))) (λ_ _ _ _ _=>(pv 0))<|az))<|>(~~~(5>>=xW>>=dw oh (pv 5) aX)))<|>pP (om PySem.F.plainAttrs_list PySem.F.slot_list_extend PySem.F.type_list_extend Jh (pv 2) (pv 4<|az))<|>(~~~pP (om PySem.F.plainAttrs_list PySem.F.slot_list_append PySem.F.type_list_append rK (pv 1) (fS lO (by rfl) T.aZ lP (ji Js (by rfl) T.jr Dh (pv 4<|az)<|az)<|az))))<*>my)))<|>(~~~(@gQ _ _ _ _ (fS lO (by rfl) T.aZ lP (ji (O3 hu) (by rfl) T.jr Dh (pv 1<|az)<|az))))),?_⟩
 exact i5 (b:=ET) (bC (Hk (au (kr aA) (au (kr aA) aA)))
  (bC (nY (qJ (au (bW kW (au (ao 0) aA)) aA)) (a9 3) (lY (iM (aH (yI true) (ao 3) (ao 2))) (bC (bN (kr (au (ao 3) aA)) (a9 4))
  (bC (bN (aY _) (a9 5))
  (bC (AX (iM (aH DS (ao 5) (bW kW (au (ao 4) aA)))) (bC (bN (kr (au (aH fF (aH fF (ao 0) (aH lz (ao 4) (ao 5))) (aY _)) (au (aH fF (aH fF (ao 0) (aH fF (aH fF (ao 0) (aH lz (ao 4) (ao 5))) (aY _))) (aY _)) aA))) (a9 6))
  (bC (qH (oQ La (ao 4) (au (pD (DY (SM (ao 6))) (a9 0) (iM (aH (yI true) (ao 0) (ao 1))) (ao 0)) aA)))
  (bN (aH oP (ao 5) (aY _)) (a9 5)))))
  (bC (qH (oQ La (ao 2) (au (ao 4) aA)))
  (qH (oQ sg (ao 1) (au (bW lW (au (bW K9 (au (ao 4) aA)) aA)) aA))))))) mD))
  (gU (bW lW (au (bW SI (au (ao 1) aA)) aA))))) rfl h
variable {fm:Addr}{fq:FuncData}(dn:Def K mg "_law_kinds" CA ["_law_chart_here"] fm fq)(ft:aC P w K mg base bK 1 fm fq ["_law_chart_here"] (b5 K 1 Cz))
abbrev EU:ai->Dm Fl :=
 (aB (aD (cw (cq (af (fC (.int 2)) ah)) 1 [0] (hName 0) dY (aL Ca (af (aL Cn (af (aL Cp (af (ag 1) (af (ag 0) ah))) ah)) ah))) (hName 1))
 (aB (aD (cw (i3 (ag 1)) 1 [] (hName 0) (aJ (aE (qQ true) (ag 0) (fC .non))) (ag 0)) (hName 2))
 (aB (fL (i3 (aE kA (ag 2) (yB qE (ag 2) jo (ly (fC (.int 1)))))) (hName 3) (aB (aD (aL iN (af (ag 3) ah)) (hName 4))
 (jZ (DO (aJ (aE (mU true) (aL iN (af (aL Cv (af (ag 3) ah)) ah)) (aL iN (af (aL Cz (af (ag 3) ah)) ah)))) (aJ (aE (mU true) (aL iN (af (ag 3) ah)) (ag 4)))) (bE (fC (.bl false))) cv)))
 (bE (fC (.bl true))))))
abbrev HI:List D->Dm D:=gW 5 EU
abbrev EV:Stmt:=top 44
def CB:ax ["_law_script","_law_some","_law_charts","_law_chart_here","_law_kept"] ["_law_script"] (aj EV):=by walk
include dj fe fQ iF eB gy fR iI dn ft in
def xX(D:Def K mg "law" EV ["_law_script"] f fd)(T:Txt mg):aC P w K mg base bK 10 f fd ["_law_script"] (b5 K 1 HI):=by
 refine D.F.ok CB (λ_ _ _ _ h=>h.1) (λc A o s H v Q E hr h=>?_);refine⟨_,((Ds (i:=1) (own:=["_law_k"]) (fr:=["_law_script"]) (js:=[0]) rfl CB.nd rfl rfl ⟨⟨rfl,by w_fin,by w_fin,by dsimp only[dP,aI,Cx.nz,Cx.wish,PyProof.Rows.envOfC,compEnvC,relabel,Env.kindOf];decide +kernel,by w_fin⟩,rfl⟩ (pR rfl T.aU (aX<|az)) (λ_ _ _ _ _=>(jg (i:=0) (show((["_law_k"]:List Str) ++ (["_law_script"]:List Str)).Nodup by w_fin) rfl (by w_up))) (λ_ _ _ _ _=>tJ) (λ_ _ _ _ _=>(eK fe dj hr ∅ rfl (eK iF fQ hr ∅ rfl (eK gy eB hr ∅ rfl (pv 1<|pv 0<|az)<|az)<|az))))<|>(Ds (i:=2) (own:=["_law_chart_here"]) (fr:=[]) (js:=[]) rfl CB.nd rfl rfl ⟨⟨rfl,by w_fin,by w_fin,by dsimp only[dP,aI,Cx.nz,Cx.wish,PyProof.Rows.envOfC,compEnvC,relabel,Env.kindOf];decide +kernel,by w_fin⟩,rfl⟩ (C1 (pv 1)) (λ_ _ _ _ _=>(jg (i:=0) (show((["_law_chart_here"]:List Str) ++ ([]:List Str)).Nodup by w_fin) rfl (by w_up))) (λ_ _ _ _ _=>(Dn (iS RX (pv 0) Fq (bg _)))) (λ_ _ _ _ _=>(pv 0)))<|>(C1 (dw tm (pv 2) (FH Jd (pv 2) FF (FG aX)))&&&(jg (i:=3) CB.nd rfl (by w_up))&&&((4>>=CB>>=ji (Dt hr) (by rfl) T.l9 Di (pv 3<|az))<|>(~~~(PW.pt (pw_or (iS FA (ji (Dt hr) (by rfl) T.l9 Di (eK iI fR hr ∅ rfl (pv 3<|az)<|az)) (ji (Dt hr) (by rfl) T.l9 Di (eK ft dn hr ∅ rfl (pv 3<|az)<|az)) (bg _)) (pw_or1 (iS FA (ji (Dt hr) (by rfl) T.l9 Di (pv 3<|az)) (pv 4) (bg _))))<*>(~~~(@gQ _ _ _ _ Fp))<*>my))))<|>(~~~(@gQ _ _ _ _ Fp))),?_⟩
 exact i5 (b:=EU) (bC (bN (pD (qJ (au (aY _) aA)) (a9 0) uk (eJ (F:=Ca) (au (eJ (F:=Cn) (au (eJ (F:=Cp) (au (ao 1) (au (ao 0) aA)) jf) aA) mG) aA) mG)) (a9 1))
  (bC (bN (pD (DY (ao 1)) (a9 0) (iM (aH (xJ true) (ao 0) G5)) (ao 0)) (a9 2))
  (bC (nY (DY (aH uh (ao 2) (G9 K3 (ao 2) G7 (G8 (aY _))))) (a9 3) (bC (bN (bW DX (au (ao 3) aA)) (a9 4))
  (lY (AO (iM (aH He (bW DX (au (eJ (F:=Cv) (au (ao 3) aA) mG) aA)) (bW DX (au (eJ (F:=Cz) (au (ao 3) aA) mG) aA)))) (iM (aH He (bW DX (au (ao 3) aA)) (ao 4)))) (gU (G4 _)) mD)))
  (gU (G4 _))))) rfl h
end
def EW{st:Store}{f:Nat}{n:Int}(hf:bB st f)(h0:0<n)(h1:n<1073741824):Wp (qT [.ref f,.int n] st) λd st'=>∃k:Int,d=.int k/\0<=k/\k<n/\bB st' f/\Ex [f] st st':=by obtain⟨o,m,e,o0,m0,m1⟩:=hf;have hfl:=fN e;refine iO ?_;show Ws (EH [some (.ref f),some (.int n),none,none] st) _ _ _ _;unfold EH;refine bu (kX ?_);exists cu e,j6 e;refine⟨λho=>?_,λho=>?_⟩;refine bu (bX ?_);exists cu e;refine⟨h0,bu (yP ?_)⟩;exists cu e,j6 e,(show kl [D.int o,D.int m].length 0=some 0 from Bk);refine⟨⟨h0,h1⟩,gX ?_⟩;w_how;refine⟨Wu _ ⋯,WC _ h0,⟨o / n,m,?_,Int.ediv_nonneg o0 ⋯,m0,m1⟩,Ex.refl.put (by simp)⟩;rw[VD hfl];refine mF (bu (bX ?_));exists cu e;refine⟨by lk,by lk,bu (yP ?_)⟩;exists cu e,j6 e,(show kl [D.int o,D.int m].length 1=some 1 from Bl);refine⟨by lk,by lk,gX ?_⟩;have e2:(st.set f (.lst [.int o,.int ((m*48271 % 2147483647*40692+30103) % 2147483399+1)]))[f]?=some (.lst [.int o,.int ((m*48271 % 2147483647*40692+30103) % 2147483399+1)]):=VD hfl;exists cu e2;refine⟨by lk,by lk,h0,Wu _ ⋯,WC _ h0,⟨_,_,e2,o0,by lk,by lk⟩,Ex.refl.put (by simp)⟩
def TQ{st:Store}{a:Nat}{ns:List Int}{k:Nat}(hs:items st a=some (ns.map D.int))(hk:k<=100):Wp (Cp [.ref a,.int (k:Int)] st) λd st'=>d=.ref st.length/\bB st' st.length/\Ex [] st st':=by
 refine iO ?_;show Ws (EN [some (.ref a),some (.int (k:Int)),none,none] st) _ _ _ _;unfold EN;refine bu (bX ?_);w_how;refine⟨by lk,bu (yO (N:=λδ st1=>st1=st/\∃c:Int,δ=[some (.ref a),some (.int (k:Int)),some (.int c),none]) (kX ?_) ?_)⟩;exists hs;refine⟨λh=>bX ?_,λh=>kX ?_⟩;have h:=of_decide_eq_true h;rw[Vl]at h;exists hs;refine⟨.int (ns[k]'⋯),yl (by rw[Vr,Vn];rfl),_,rfl⟩;exists hs;refine⟨λh=>bX ?_,λh=>mF ⟨rfl,_,rfl⟩⟩;have h:=of_decide_eq_true h;obtain⟨v,hv,hm⟩:=vB (xs:=ns.map D.int) (i:=(k:Int) % ((ns.map D.int).length:Int)) (Wu _ ⋯) (WC _ h);obtain⟨c,_,rfl⟩:=Vy.mp hm;exists hs;refine⟨h,_,hv,?_⟩;w_how;exact⟨by lk,by lk,by lk,_,rfl⟩;rintro δ st1 ⟨rfl,c,rfl⟩;refine bu (bX ?_);w_how;refine bu (yO (N:=λδ st2=>st2=st1/\∃o:Int,0<=o/\δ=[some (.ref a),some (.int (k:Int)),some (.int c),some (.int o)]) (kX ?_) ?_);w_how;refine⟨by decide,λh=>bX ?_,λh=>mF ⟨rfl,0,by decide,rfl⟩⟩;have h:=of_decide_eq_true h;w_how;exact⟨c,Int.le_trans ∅ h,rfl⟩;rintro δ st2 ⟨rfl,o,o0,rfl⟩;refine gX ?_;w_how;have h1:0<=c % 2147483629:=Wu _ ∅;have h2:c % 2147483629<2147483629:=WC _ ∅;refine⟨by lk,by lk,by lk,by lk,by lk,by rfl,⟨_,_,iP,o0,?_,?_⟩,Ex.b6 _⟩
 have:=Wu ((c % 2147483629*48271+40692*(k:Int)) ^ (5:Int).toNat) (show(2147483629:Int)≠0 by decide)
 lk
 have:=WC ((c % 2147483629*48271+40692*(k:Int)) ^ (5:Int).toNat) (show(0:Int)<2147483629 by decide)
 lk
def HJ{st:Store}{f:Nat}{n:Nat}(hf:bB st f)(hn:n<=100):Wp (sA [.ref f,.int (n:Int)] st) λd st'=>∃xs:List Int,d=.tup (xs.map D.int)/\ae.Tn n xs/\bB st' f/\Ex [f] st st':=by
 have hfl:=hf.lt;refine iO ?_;show Ws (EI [some (.ref f),some (.int (n:Int)),none,none] st) _ _ _ _;unfold EI;refine bu (bX ?_);w_how;have e1:((n:Int)-0).toNat=n:=by lk
 rw[e1,xD];refine⟨by unfold pe;rw[VG,decide_eq_true_eq];exact⟨by lk,jC ⋯⟩,bu (bX ?_)⟩;w_how;refine⟨rfl,bu (yQ (λm δ st2=>∃L xs:List Int,m=L.length/\δ=[some (.ref f),some (.int (n:Int)),some (.ref (st ++ [O.gI 0 (n:Int)]).length),some (.tup (xs.map D.int))]/\st2[(st ++ [O.gI 0 (n:Int)]).length]?=some (.lst (L.map D.int))/\(xs ++ L).Perm (ae.upto n)/\bB st2 f/\Ex [f] st st2) n (Wm hn ∅) ⟨ae.upto n,[],(ae.oG n).symm,rfl,iP,W6 _,hf.keep ((Ex.b6 _).app _),(Ex.b6 _).app _⟩ ?_)⟩;have hl:(st ++ [O.gI 0 (n:Int)]).length≠f:=by rw[Vq];lk
 have hls:st.length<=(st ++ [O.gI 0 (n:Int)]).length:=by rw[Vq];lk
 generalize (st ++ [O.gI 0 (n:Int)]).length=l at hl hls ⊢;rintro m δ st2 ⟨L,xs,rfl,rfl,hL,pm,hf2,k2⟩;have hlen:(xs ++ L).length=n:=by rw[pm.length_eq,ae.oG]
 rw[Vq]at hlen;refine cP ?_;intro gK hQ;exists Ln (L:=L) (M:=[]) (st:=st2 ++ [O.lst []]) (cu (jq hL)) pE;refine⟨rfl,hQ _ _ ⟨λh=>?_,λh=>?_⟩⟩;have hne:L≠[]:=by simpa using h
 have hpos:0<L.length:=List.length_pos_iff.mpr hne;have EX:(st2 ++ [O.lst []])[l]?=some (.lst (L.map D.int)):=jq hL;have f3:bB (st2 ++ [O.lst []]) f:=hf2.keep (Ex.b6 _);have k3:Ex [f] st (st2 ++ [O.lst []]):=k2.app _;generalize (st2 ++ [O.lst []])=st3 at EX f3 k3 ⊢;refine bX ?_;refine cP ?_;intro gK hQ;exists cu EX;refine⟨pk (by rw[cu EX];rfl),?_⟩;refine bp (EW (n:=((L.map D.int).length:Int)) f3 (by rw[Vl];lk) (by rw[Vl];lk)) ?_;rintro d mY ⟨k,rfl,k0,k1,f4,k4⟩;rw[Vl]at k1;have LZ:=k4.keep _ _ EX (by simpa using hl);have nQ:k.toNat<L.length:=by lk
 exists j6 LZ;have hk':((k.toNat:Nat):Int)=k:=VY k0;refine⟨by lk,k.toNat,?_,D.int L[k.toNat],by rw[Vr,Vn nQ];rfl,rfl,jC ?_,hQ _ _ ⟨(L.eraseIdx k.toNat).length,?_,L.eraseIdx k.toNat,xs ++ [L[k.toNat]],rfl,?_,?_,?_,?_,?_⟩⟩;rw[<- hk',VB];exact(FJ (yp (by rw[Vl];exact nQ))).1;simp only[Vl,VU,WY];lk;rw[List.length_eraseIdx,if_pos nQ];lk;rw[VL];rfl;rw[VD (fN LZ),RP];refine List.Perm.trans ?_ pm;rw[W0];exact List.Perm.append_left xs (RQ nQ);exact f4.ne hl;exact(k3.trans k4).loc hls;have he:L=[]:=by simpa using h
 subst he;refine gX ?_;k_lt hQ;exact hQ _ _ ⟨xs,rfl,by simpa[ae.Tn]using pm,hf2.keep (Ex.b6 _),k2.app _⟩
def TR{st:Store}{xs ys:List Int}{n:Nat}(tx:ae.Tn n xs)(ty:ae.Tn n ys)(n0:0<n)(hn:n<=100):Wp (sC [cc xs ys] st) λd st'=>∃(g:Nat) (F:List Int),d=.ref g/\items st' g=some (F.map D.int)/\(∀x,x∈F↔ae.gS xs ys x)/\F.length<=n/\ae.Od xs ys F/\Ex [] st st':=by
 have hlx:=tx.length;have HK:=ty.length;refine iO ?_;show Ws (EK [some (cc xs ys),none,none,none,none] st) _ _ _ _;unfold EK;refine bu (bX ?_);k_lt hQ;refine⟨rfl,hQ _ _ (bu (pj (ay 0 (n+1)) (λi δ st2=>∃(v2 v3 v4:Option D) (F:List Int),δ=[some (cc xs ys),some (.ref st.length),v2,v3,v4]/\st2[st.length]?=some (.lst (F.map D.int))/\ae.Fo xs ys F/\(ae.Cl xs ys F\/i+1<=F.length)/\Ex [] st st2) ?_ ?_ ?_ ?_))⟩;unfold cc;k_lt hQ;have e0:((1:Int)+((xs.map D.int).length:Int)).toNat=n+1:=by rw[Vl];lk
 refine⟨by rw[Vl];lk,hQ _ _ ⟨by rw[e0],none,none,none,[0],rfl,iP,ae.Fo.one xs ys,.inr (Vp _),Ex.b6 _⟩⟩;rw[ib];lk;rintro i d δ st2 hd ⟨v2,v3,v4,F,rfl,qv,hF,hcl,k2⟩;k_lt hQ
 refine hQ _ _ (pj [.tup (xs.map D.int),.tup (ys.map D.int)] (λm δ st3=>∃ (v3 v4:Option D) (G:List Int),δ=[some (cc xs ys),some (.ref st.length),some d,v3,v4]/\st3[st.length]?=some (.lst (G.map D.int))/\ae.Fo xs ys G /\
   (m=0->G=F)/\(m=1->F <+: G/\∀x∈F,ae.app xs x∈G)/\(2<=m->∃F1,F <+: F1/\F1 <+: G/\(∀x∈F,ae.app xs x∈F1)/\∀x∈F1,ae.app ys x∈G)/\Ex [] st st3) ?_ (by simp) ?_ ?_)
 unfold cc;k_lt hQ;exact hQ _ _ ⟨rfl,v3,v4,F,rfl,qv,hF,λ_=>rfl,λz=>by lk,λz=>by lk,k2⟩;rintro m z δ st3 hm ⟨v3,v4,G,rfl,pH,hG,m0,m1,_,k3⟩;have hm2:m<2:=fN hm;obtain⟨zs,rfl,hz,em⟩:∃(zs:List Int),z=.tup (zs.map D.int)/\(zs=xs\/zs=ys)/\((m=0/\zs=xs)\/(m=1/\zs=ys)):=by
  rcases(show m=0\/m=1 by lk)with rfl|rfl
  exact⟨xs,by simpa using hm.symm,.inl rfl,.inl ⟨rfl,rfl⟩⟩;exact⟨ys,by simpa using hm.symm,.inr rfl,.inr ⟨rfl,rfl⟩⟩
 have tz:ae.Tn n zs:=by rcases hz with rfl|rfl;exact tx;exact ty
 have L0:=tz.length;have go:∀x,ae.gS xs ys x->ae.gS xs ys (ae.app zs x):=λx h=>by rcases hz with rfl|rfl;exact h.r;exact h.u
 k_lt hQ;refine hQ _ _ (Lf (G.map D.int) st3.length (λj δ mY=>∃(v4:Option D) (G':List Int),δ=[some (cc xs ys),some (.ref st.length),some d,some (.tup (zs.map D.int)),v4]/\mY[st.length]?=some (.lst (G'.map D.int))/\mY[st3.length]?=some (.lst (G.map D.int))/\ae.Fo xs ys G'/\G <+: G'/\(∀i',i' < j->∀x,G[i']?=some x->ae.app zs x∈G')/\Ex [] st mY) ?_ ?_ ?_ ?_ ?_);refine cP ?_;intro gK hQ;exists cu pH;exact hQ _ _ ⟨rfl,v4,G,rfl,jq pH,iP,hG,Xa _,λi' h=>absurd h (V6 _),k3.app _⟩;rw[Vl]
 have:=hG.len tx ty n0;lk
 rintro j δ mY ⟨_,_,_,_,h,_⟩;exact cu h;rintro j Vb δ mY hj0 ⟨v4,G',rfl,pI,HL,xY,pG,hd',k4⟩;obtain⟨y,hj,rfl⟩:=D3 hj0;have hjl:=fN hj;have hR:=hG.mt _ (Vv hj);obtain⟨y0,y1⟩:=hR.bound tx ty n0;have at':=rB (xs:=zs) y0 (by rw[L0];exact y1);have hnext:∀EY:List Int,G' <+: EY->ae.app zs y∈EY->∀i',i' < j+1->∀x,G[i']?=some x->ae.app zs x∈EY:=λEY p h i' hi' x hx=>by
  by_cases e:i'=j;subst e;rw[hj]at hx;cases hx;exact h;exact p.subset (hd' i' ⋯ x hx)
 k_lt hQ;refine hQ _ _ (kX ?_);refine cP ?_;intro kY cT;exists at',Bm (st:=mY) (c:=.ref st.length) (ns:=G') (cu pI);refine cT _ _ ⟨λhcn=>?_,λhcn=>?_⟩;have hnm:ae.app zs y ∉ G':=λz=>by rw[V2.mpr z]at hcn;cases hcn
 have L3:ae.Fo xs ys (G' ++ [ae.app zs y]):=by
  refine⟨⟨V1 _ xY.z,?_,λx hx=>?_⟩,xY.od.snoc (pG.subset (Vv hj)) (hz.imp (λe=>by rw[e]) λe=>by rw[e])⟩;rw[W3];refine⟨xY.nd,by simp,λx hx y' hy e=>hnm ?_⟩;have e2:y'=ae.app zs y:=by simpa using hy
  rw[<- e2,<- e];exact hx;rcases VQ.mp hx with h|h
  exact xY.mt x h;have e2:x=ae.app zs y:=by simpa using h
  rw[e2];exact go _ hR
 have hlen2:=L3.len tx ty n0;rw[Vq]at hlen2;refine qM ?_;refine cP ?_;intro CC qU;exists at',j6 pI;refine⟨pk (by rw[cu pI];rfl),jC (by rw[Vl];simp at hlen2;lk),qU _ _ ⟨_,G' ++ [ae.app zs y],rfl,?_,?_,L3,pG.trans (XG _ _),hnext _ (XG _ _) (by simp),k4.loc (Vp _)⟩⟩;rw[VD (fN pI),VL];rfl;rw[VI (by have:=fN pH;lk)];exact HL;have hcn:G'.contains (ae.app zs y)=true:=by simpa using hcn
 exact mF ⟨_,G',rfl,pI,HL,xY,pG,hnext G' (Xa _) (V2.mp hcn),k4⟩;rintro δ mY ⟨v4,G',rfl,pI,HL,xY,pG,hd',k4⟩;rw[Vl]at hd';have hall:∀x∈G,ae.app zs x∈G':=λx hx=>by
  obtain⟨i',hi',e⟩:=WG hx;exact hd' i' hi' x (by rw[Vn hi',e])
 refine⟨_,_,G',rfl,pI,xY,λz=>by lk,λz=>?_,λz=>?_,k4⟩;rcases em with⟨rfl,rfl⟩|⟨rfl,_⟩
 have:=m0 rfl
 subst this;exact⟨pG,hall⟩;lk;rcases em with⟨rfl,_⟩|⟨rfl,rfl⟩
 lk;obtain⟨p1,c1⟩:=m1 rfl;exact⟨G,p1,pG,c1,hall⟩;rintro δ st3 ⟨v3,v4,G,rfl,pH,hG,_,_,m2,k3⟩;obtain⟨F1,p1,p2,c1,c2⟩:=m2 (Vp 2);exact⟨_,_,_,G,rfl,pH,hG,ae.round hF.toFd hG.toFd p1 p2 c1 c2 hcl,k3⟩;rintro δ st2 ⟨v2,v3,v4,F,rfl,qv,hF,hcl,k2⟩;rw[ib]at hcl;have hl:=hF.len tx ty n0;have hc:ae.Cl xs ys F:=hcl.resolve_right ⋯;refine gX ?_;k_lt hQ;exact hQ _ _ ⟨_,F,rfl,cu qv,λx=>⟨hF.mt x,λh=>hc.all hF.z h⟩,hl,hF.od,k2⟩
def TU{st:Store}{xs ys:List Int}{n:Nat}(tx:ae.Tn n xs)(ty:ae.Tn n ys)(n0:0<n)(hn:n<=100):Wp (sC [cc xs ys] st) λd st'=>∃(g:Nat) (F:List Int),d=.ref g/\items st' g=some (F.map D.int)/\(∀x,x∈F↔ae.gS xs ys x)/\F.length<=n/\Ex [] st st' :=
 bp (TR tx ty n0 hn) λd st' ⟨g,F,h1,h2,h3,h4,_,h5⟩=>⟨g,F,h1,h2,h3,h4,h5⟩
def L5{st:Store}{δ:ai}{X Y:List Int}{n:Nat}{Q:D->Store->Prop}(tX:ae.Tn n X)(tY:ae.Tn n Y)(n0:0<n)(hn:n<=100)(h1:δ[1]?=some (some (.int (n:Int))))(h6:δ[6]?=some (some (cc X Y)))
  (q:∀(L:List Int) (st':Store),L.length<=n->L.Nodup->(∀x,x∈L↔(0<=x/\x<(n:Int)/\¬ae.gS X Y x))->Ex [] st st'->Q (.ref st'.length) (st' ++ [.lst (L.map D.int)])) :
  Wp (cw (cq (af (ag 1) ah)) 1 [6] (hName 0) (aJ (aE (pd true) (ag 0) (aL sC (af (ag 1) ah)))) (ag 0) δ st) Q:=by
 have TV:δ.getD 6 none=some (cc X Y):=by rw[Vz,h6];rfl
 refine D1 (ay 0 n) (λj zs δ' gM=>∃(v:Option D) (L:List Int),δ'=[v,some (cc X Y)]/\zs=L.map D.int/\L.length<=j/\L.Nodup/\(∀x,x∈L↔(0<=x/\x<(j:Int)/\¬ae.gS X Y x))/\Ex [] st gM) ?_ (by rw[ib];lk) ?_ ?_ ?_;refine cP ?_;intro gK hQ;exists h1;refine⟨by lk,hQ _ _ ⟨λi ys δ st hi _=>?_,none,[],?_,rfl,Vp _,List.nodup_nil,λx=>⟨(λh=>nomatch h),λh=>by lk⟩,Ex.refl⟩⟩;rw[VB];show(if i<=(ay 0 n).length then some (ay 0 n)[i]? else none)=_;rw[if_pos hi];unfold mW;simp only[VO,Wl,TV];rfl;rintro j zs δ' gM ⟨v,L,_,rfl,hl,_⟩;rw[Vl];exact hl;rintro j d zs δ' gM hd ⟨v,L,rfl,rfl,n5,nd,hL,k8⟩;have hjl:=fN hd;rw[ib]at hjl;rw[wL hjl]at hd;cases hd;rw[WT];k_lt hQ;refine hQ _ _ ?_;k_lt cT;refine bp (TU (st:=gM) tX tY n0 hn) ?_;rintro d mE ⟨g,F,rfl,hg,hF,Vc,k9⟩;rw[Bm (c:=.ref g) (ns:=F) hg];refine⟨_,rfl,cT _ _ ⟨λhc=>?_,λhc=>?_⟩⟩;have hR:¬ae.gS X Y (j:Int):=λh=>by rw[V2.mpr ((hF _).mpr h)]at hc;cases hc
 k_lt qU;refine qU _ _ ⟨_,L ++ [(j:Int)],rfl,by rw[VL];rfl,by rw[Vq];simp;lk,?_,λx=>?_,k8.trans k9⟩;rw[W3];refine⟨nd,by simp,λx hx y hy e=>?_⟩;have e2:y=(j:Int):=by simpa using hy
 have:=((hL x).mp hx).2.1;lk
 rw[VQ,hL x];constructor;rintro(⟨a1,a2,a3⟩|h);exact⟨a1,by lk,a3⟩;have e2:x=(j:Int):=by simpa using h
 rw[e2];exact⟨by lk,by lk,hR⟩;rintro⟨a1,a2,a3⟩;rcases Int.lt_or_le x (j:Int)with h|h
 exact .inl ⟨a1,h,a3⟩;exact .inr (by simp;lk);have hc:F.contains (j:Int)=true:=by simpa using hc
 have hR:=(hF _).mp (V2.mp hc);refine⟨_,L,rfl,rfl,by lk,nd,λx=>?_,k8.trans k9⟩;rw[hL x];constructor;rintro⟨a1,a2,a3⟩;exact⟨a1,by lk,a3⟩;rintro⟨a1,a2,a3⟩;refine⟨a1,?_,a3⟩;rcases Int.lt_or_le x (j:Int)with h|h
 exact h;exact absurd hR (by rw[show(j:Int)=x by lk];exact a3);rintro zs δ' gM ⟨v,L,rfl,rfl,n5,nd,hL,k8⟩;rw[ib]at n5 hL;exact q L gM n5 nd hL k8
def TX{st:Store}{f n:Nat}(hf:bB st f)(n1:1<=n)(TY:n<=20):Wp (Ck [.ref f,.int (n:Int)] st) λd st'=>∃xs ys:List Int,d=cc xs ys/\nZ n xs ys/\bB st' f/\Ex [f] st st':=by
 have hfl:=hf.lt;refine iO ?_;show Ws (EL [some (.ref f),some (.int (n:Int)),none,none,none,none,none,none,none] st) _ _ _ _;unfold EL;refine bu (bX ?_);k_lt hQ;refine bp (EW (n:=6) hf ∅ ∅) ?_;rintro d st1 ⟨form,rfl,g0,g6,f1,k1⟩;refine hQ _ _ (bu (Hq ?_));clear hQ;k_lt hQ;refine bp (HJ (n:=n) f1 ⋯) ?_;rintro d st2 ⟨X,rfl,tX,f2,k2⟩;w_how;refine bp (HJ (n:=n) (f2.keep (Ex.b6 [.lst (X.map D.int)])) ⋯) ?_;rintro d st3 ⟨Y,rfl,tY,f3,k3⟩;w_how;refine hQ _ _ ⟨_,_,rfl,?_⟩;clear hQ;have qV:st3[st2.length]?=some (.lst (X.map D.int)):=k3.keep _ _ iP (by have:=f2.lt;simp;lk);have two:l6 st (st3 ++ [.lst (Y.map D.int)]) f st2.length st3.length n X Y:=⟨jq qV,iP,by have:=fN qV;lk,(k1.trans k2).len,((k1.trans k2).trans ((Ex.b6 _).trans k3)).len,tX,tY,f3.keep (Ex.b6 _),(((k1.trans k2).app _).trans k3).app _⟩;show Ws _ _ _ _ _;generalize (st3 ++ [O.lst (Y.map D.int)])=mY at two ⊢;generalize st2.length=r at two ⊢;generalize st3.length=u at two ⊢;clear qV tX tY f3 k3 f2 k2 f1 k1;refine bu (yO (N:=λδ lh=>∃(r u:Nat) (X Y:List Int),δ=[some (.ref f),some (.int (n:Int)),some (.int form),some (.ref r),some (.ref u),none,none,none,none]/\l6 st lh f r u n X Y) (kX ?_) ?_);k_lt hQ;refine hQ _ _ ⟨λ_=>bX ?_,λ_=>mF ⟨r,u,X,Y,rfl,two⟩⟩;k_lt cT;rw[<- Lo];refine⟨uu ⋯,rfl,jC (by rw[ib];simp;lk),cT _ _ ⟨_,u,_,Y,rfl,(two.keep (((Ex.b6 _).app _).app _)).xE (ae.Kh (show n<21 by lk) ⋯)⟩⟩;rintro δ lh ⟨r,u,X,Y,rfl,two⟩;refine bu (yO (N:=λδ lh=>∃(r u:Nat) (X Y:List Int),δ=[some (.ref f),some (.int (n:Int)),some (.int form),some (.ref r),some (.ref u),none,none,none,none]/\l6 st lh f r u n X Y) (kX ?_) ?_);k_lt hQ;refine hQ _ _ ⟨λ_=>Hq ?_,λ_=>mF ⟨r,u,X,Y,rfl,two⟩⟩;k_lt cT;rw[<- Lo,show((n:Int)-0).toNat=n by lk,xD];refine⟨uu ⋯,uu ⋯,rfl,jC (by rw[ib];simp;lk),cT _ _ ⟨_,_,rfl,_,_,_,_,rfl,(((two.keep (Ex.b6 [.gI 0 (n:Int)])).xE (Z:=ae.upto n) (W6 _)).keep (((Ex.b6 _).app _).app _)).xF (ae.Kh (show n<21 by lk) ⋯)⟩⟩;rintro δ Hm ⟨r,u,X,Y,rfl,two⟩;refine bu (yO (N:=λδ lh=>∃(r u:Nat) (v5:Option D) (X Y:List Int),δ=[some (.ref f),some (.int (n:Int)),some (.int form),some (.ref r),some (.ref u),v5,none,none,none]/\l6 st lh f r u n X Y) (kX ?_) ?_);k_lt hQ;refine hQ _ _ ⟨λ_=>bu (bX ?_),λ_=>mF ⟨r,u,none,X,Y,rfl,two⟩⟩;k_lt cT;refine bp (EW (n:=(n:Int)) two.fd ⋯ ⋯) ?_;rintro d vD ⟨w,rfl,w0,w1,f7,k7⟩;obtain⟨wd,rfl⟩:∃wd:Nat,w=(wd:Int)-1:=⟨(w+1).toNat,by lk⟩;have t7:l6 st vD f r u n X Y:=⟨k7.keep _ _ two.hr (by have:=two.r0;simp;lk),k7.keep _ _ two.hu (by have:=two.u0;simp;lk),two.ne,two.r0,two.u0,two.tX,two.tY,f7,two.ex.trans k7⟩;w_how;rw[show(1:Int)+((wd:Int)-1)=(wd:Int) by lk];refine cT _ _ (bu (bX ?_));clear cT hQ;k_lt cT;rw[<- xG];refine⟨uu ⋯,rfl,jC (by rw[ib];simp;lk),uu ⋯,jC (by rw[Vq,ib,ib];simp;lk),cT _ _ (bu (bX ?_))⟩;clear cT;have t8:=(t7.keep ((((((Ex.b6 [.gI 1 (wd:Int)]).app [.lst (ay 1 ((wd:Int)-1).toNat)]).app [.lst [.int 0]]).app [.lst (ay 1 ((wd:Int)-1).toNat ++ [.int 0])]).app [.gI (wd:Int) (n:Int)]).app [.lst (ay (wd:Int) ((n:Int)-(wd:Int)).toNat)])).xE (ae.P6 (w:=wd) (show n<21 by lk) ⋯ ⋯);generalize T5:(vD ++ _ ++ _ ++ _ ++ _ ++ _ ++ _ ++ _:Store)=gM at t8 ⊢;generalize List.length _=r8 at t8 ⊢;k_lt cT;refine⟨rfl,uu ⋯,jC (by simp[ib];lk),uu ⋯,jC (by simp[ib];lk),rfl,jC (by simp[ib];lk),cT _ _ (kX ?_)⟩;clear cT;generalize T6:(gM ++ _ ++ _ ++ _ ++ _ ++ _ ++ _ ++ _ ++ _ ++ _:Store)=EZ;have tE:l6 st EZ f r8 u n (ae.qw wd n) Y:=by rw[<- T6];exact t8.keep (((((((((Ex.b6 _).app _).app _).app _).app _).app _).app _).app _).app _)
 k_lt hQ;refine hQ _ _ ⟨λhw=>?_,λhw=>?_⟩;refine bX ?_;k_lt cT;rw[show((n:Int)-0).toNat=n by lk,xD];exact⟨uu ⋯,cT _ _ ⟨r8,_,_,_,_,rfl,(tE.keep ((Ex.b6 _).app _)).xF (W6 _)⟩⟩;have hne:wd≠n:=λz=>by simp[z]at hw
 have tF:=tE.xF (ae.P7 (w:=wd) (show n<21 by lk) ⋯ ⋯);rw[xH ⋯ ⋯]at tF;exact mF ⟨r8,_,_,_,_,rfl,tF⟩;rintro δ vD ⟨r,u,v5,X,Y,rfl,two⟩;have n0:0<n:=by lk
 refine bu (bX ?_);refine cP ?_;intro gK hQ;exists cu two.hr,cu two.hu;refine⟨rfl,hQ _ _ (bu (bX (L5 (X:=X) (Y:=Y) two.tX two.tY n0 ⋯ rfl rfl ?_)))⟩;clear hQ;intro L gM n5 nd hL k8;have t8:=(two.keep k8).keep (Ex.b6 [.lst (L.map D.int)]);refine bu (yQ (λmm δ mE=>∃(pa:Nat) (X L:List Int) (v8:Option D),mm=L.length/\δ=[some (.ref f),some (.int (n:Int)),some (.int form),some (.ref r),some (.ref u),v5,some (cc X Y),some (.ref pa),v8]/\l6 st mE f r u n X Y/\items mE pa=some (L.map D.int)/\L.length<=n/\L.Nodup/\(∀x,x∈L↔(0<=x/\x<(n:Int)/\¬ae.gS X Y x))) L.length (Wm n5 (Wm TY ∅)) ⟨_,X,L,none,rfl,rfl,t8,pE,n5,nd,hL⟩ ?_);rintro mm δ mE ⟨pa,X,L,v8,rfl,rfl,two,hpa,n5,nd,hL⟩;have Vd:=two.tX.length;have xZ:items (mE ++ [O.lst []]) pa=some (L.map D.int):=by
  unfold items at hpa ⊢;cases e:mE[pa]? with
  |none=>rw[e]at hpa;cases hpa
  |some o=>rw[jq e];rw[e]at hpa;exact hpa
 refine cP ?_;intro gK hQ;exists Ln (L:=L) (M:=[]) (st:=mE ++ [O.lst []]) xZ pE;refine⟨rfl,hQ _ _ ⟨λh=>?_,λh=>?_⟩⟩;have hne:L≠[]:=by simpa using h
 clear hQ;obtain⟨m,L1,rfl⟩:∃m L1,L=m :: L1:=by cases L with|nil=>exact absurd rfl hne|cons m L1=>exact⟨m,L1,rfl⟩
 obtain⟨m0,m1,mR⟩:=(hL m).mp Vw;have t2:=two.keep (Ex.b6 [O.lst []]);generalize (mE ++ [O.lst []])=EZ at xZ t2 ⊢;refine bu (bX ?_);refine cP ?_;intro gK hQ;exists xZ,VO;refine hQ _ _ (bu (yP ?_));clear hQ;refine cP ?_;intro gK hQ;exists cu t2.hr,rB (xs:=X) m0 ⋯,rB (xs:=X) (i:=0) ∅ ⋯;refine⟨rfl,hQ _ _ ?_⟩;clear hQ;have i0:kl (X.map D.int).length 0=some 0:=yp (j:=0) (by rw[Vl];lk);have im:kl ((X.map D.int).set 0 (.int (ae.app X m))).length m=some m.toNat:=by
  rw[Wj];have:=yp (n:=(X.map D.int).length) (j:=m.toNat) (by rw[Vl];lk)
  rwa [VY m0]at this
 have qV:(EZ.set r (.lst ((X.map D.int).set 0 (.int (ae.app X m)))))[r]?=some (.lst ((X.map D.int).set 0 (.int (ae.app X m)))):=VD (fN t2.hr);have eS:((X.map D.int).set 0 (.int (ae.app X m))).set m.toNat (.int (ae.app X 0))=(ae.kS X m.toNat).map D.int:=by
  unfold ae.kS;rw[VY m0,X0,X0]
 refine cP ?_;intro gK hQ;exists j6 t2.hr,j6 qV,i0,im,eS;refine⟨rfl,hQ _ _ (bu (bX ?_))⟩;clear hQ;have tS:=ae.vY t2.tX (m:=m.toNat) ⋯;have hmet:=ae.PZ t2.tX t2.tY (m:=m.toNat) ⋯ (by rw[VY m0];exact mR);rw[VY m0]at hmet;rw[List.set_set];have t3:=t2.put (Z:=ae.kS X m.toNat) tS hfl;generalize EZ.set r _=st3 at t3 ⊢;refine cP ?_;intro gK hQ;exists cu t3.hr,cu t3.hu;refine⟨rfl,hQ _ _ (bX (L5 (X:=ae.kS X m.toNat) (Y:=Y) t3.tX t3.tY n0 ⋯ rfl rfl ?_))⟩;intro L' mY HM L6 hL' k4;refine⟨_,?_,mY.length,ae.kS X m.toNat,L',_,rfl,rfl,(t3.keep k4).keep (Ex.b6 _),pE,HM,L6,hL'⟩;refine ae.less (m:=m) L6 (λx hx=>?_) Vw (λh=>((hL' m).mp h).2.2 hmet.1);obtain⟨a1,a2,a3⟩:=(hL' x).mp hx;exact(hL x).mpr ⟨a1,a2,λh=>a3 (hmet.2 x h)⟩;have he:L=[]:=by simpa using h
 subst he;refine gX ?_;k_lt cT;have t2:=two.keep (Ex.b6 [O.lst []]);refine cT _ _ ⟨X,Y,rfl,⟨t2.tX,t2.tY,λx x0 x1=>?_⟩,t2.fd,t2.ex⟩;exact Classical.byContradiction λh=>nomatch (hL x).mpr ⟨x0,x1,h⟩
def HN{st:Store}{xs:List Int}{n:Nat}(tn:ae.Tn n xs)(hn:n<=100):Wp (sy [.tup (xs.map D.int)] st) λd st'=>d=.tup ((ae.inv xs).map D.int)/\Ex [] st st':=by
 have hlen:=tn.length;refine iO ?_;show Ws (Ed [some (.tup (xs.map D.int)),none,none,none] st) _ _ _ _;unfold Ed;refine bu (bX ?_);k_lt hQ;have e0:(((xs.map D.int).length:Int)).toNat=n:=by rw[Vl];lk
 have ez:(List.replicate n [D.int 0]).flatten=(List.replicate n (0:Int)).map D.int:=by
  induction n with
  |zero=>rfl
  |succ n ih=>simp[V9]
 rw[e0,ez];refine⟨rfl,by rw[Vl];lk,jC (by simp;lk),hQ _ _ (bu (pj (jS (xs.map D.int)) (λk δ st2=>∃(v2 v3:Option D) (bs:List Int),δ=[some (.tup (xs.map D.int)),some (.ref (st ++ [O.lst [D.int 0]]).length),v2,v3]/\st2[(st ++ [O.lst [D.int 0]]).length]?=some (.lst (bs.map D.int))/\bs.length=n/\(∀j,j<k->∀x,xs[j]?=some x->bs[x.toNat]?=some (j:Int))/\Ex [] st st2) ?_ ?_ ?_ ?_))⟩;k_lt hQ;exact hQ _ _ ⟨rfl,none,none,_,rfl,iP,by simp,λj hj=>absurd hj (V6 _),(Ex.b6 _).app _⟩;rw[AZ,Vl];lk;have CD:st.length<=(st ++ [O.lst [D.int 0]]).length:=by simp
 generalize (st ++ [O.lst [D.int 0]]).length=B at CD ⊢;rintro k d δ st2 hd ⟨v2,v3,bs,rfl,hB,sD,sE,k2⟩;obtain⟨d',hd',rfl⟩:=Hl hd;obtain⟨x,hx,rfl⟩:=D3 hd';obtain⟨x0,x1⟩:=tn.bound (Vv hx);have nQ:=fN hx;k_lt hQ;refine⟨rfl,hQ _ _ (yP ?_)⟩;have hix:kl (bs.map D.int).length x=some x.toNat:=by
  have:=yp (n:=(bs.map D.int).length) (j:=x.toNat) (by rw[Vl];lk)
  rwa [VY x0]at this
 have es:(bs.map D.int).set x.toNat (.int (k:Int))=(bs.set x.toNat (k:Int)).map D.int:=by rw[X0]
 k_lt cT;refine cT _ _ ?_;refine cP ?_;intro CC qU;exists j6 hB,hix,es;refine qU _ _ ⟨_,_,bs.set x.toNat (k:Int),rfl,VD (fN hB),by rw[Wj];exact sD,λj hj y hy=>?_,k2.loc CD⟩;by_cases hjk:j=k;subst hjk;rw[hx]at hy;cases hy;rw[VD (by rw[sD];lk)];obtain⟨y0,y1⟩:=tn.bound (Vv hy);rw[VI (λz=>?_)];exact sE j ⋯ y hy;obtain⟨h1,e1⟩:=Vm.mp hx;obtain⟨h2,e2⟩:=Vm.mp hy;exact hjk ((XQ tn.nodup).mp (show xs[j]=xs[k] by lk));rintro δ st2 ⟨v2,v3,bs,rfl,hB,sD,sE,k2⟩;rw[AZ,Vl]at sE;have eb:bs=ae.inv xs:=by
  apply WO;intro i;by_cases hi:i<n;have hm:=tn.mem (i:=(i:Int)) ⋯ ⋯;have hil:=W8 hm;have:=sE (xs.idxOf (i:Int)) hil (i:Int) (by rw[Vn hil];exact congrArg some (XE hil));rw[VB]at this;rw[this];have ea:=ae.mQ (xs:=ae.inv xs) (i:=(i:Int)) ⋯ (by rw[ae.Aj];lk);rw[VB,ae.DE ⋯ ⋯]at ea;exact ea.symm;rw[V0 ⋯,V0 (by rw[ae.Aj];lk)]
 subst eb;refine gX ?_;refine cP ?_;intro gK hQ;exists cu hB;exact hQ _ _ ⟨rfl,k2⟩
def y2{st:Store}{xs ys:List Int}(hb:∀x∈xs,0<=x/\x<(ys.length:Int))(hn:xs.length<=100):Wp (n9 [.tup (xs.map D.int),.tup (ys.map D.int)] st) λd st'=>d=.tup ((ae.aK xs ys).map D.int)/\Ex [] st st':=by refine iO ?_;show Ws (Ef [some (.tup (xs.map D.int)),some (.tup (ys.map D.int))] st) _ _ _ _;unfold Ef;refine gX ?_;k_lt hQ;refine Bn (xs.map D.int) (λd=>.int (ae.app ys (inD d))) ?_ (by rw[Vl];lk) ?_ ?_;k_lt cT;exact cT _ _ ⟨uv _ _,Ex.refl⟩;intro d hd st1 k1;obtain⟨x,hx,rfl⟩:=Hx hd;obtain⟨x0,x1⟩:=hb x hx;refine cP ?_;intro kY cT;exists VO,Wl,Ww,Wx,rB (xs:=ys) x0 x1;exact cT _ _ ⟨rfl,Ex.refl⟩;intro st' k';rw[Ls (f:=ae.app ys) λx hx=>rfl];w_how;exact hQ _ _ ⟨rfl,k'.app _⟩
def T7{st:Store}{xs ys p:List Int}{n:Nat}(tx:ae.Tn n xs)(ty:ae.Tn n ys)(tp:ae.Tn n p)(hn:n<=100):Wp (Bz [cc xs ys,.tup (p.map D.int)] st) λd st'=>d=cc (ae.anew xs p) (ae.anew ys p)/\Ex [] st st':=by have hlx:=tx.length;have HK:=ty.length;have CF:=tp.length;have ti:=tp.aq;have hli:=ti.length;refine iO ?_;show Ws (Eg [some (cc xs ys),some (.tup (p.map D.int)),none,none,none] st) _ _ _ _;unfold Eg cc;refine bu (bX ?_);k_lt hQ;refine bp (HN tp hn) ?_;rintro d st1 ⟨rfl,k1⟩;refine hQ _ _ (bu (bX ?_));clear hQ;k_lt hQ;refine bp (y2 (xs:=ae.inv p) (ys:=xs) (λx hx=>by rw[hlx];exact ti.bound hx) ⋯) ?_;rintro d st2 ⟨rfl,k2⟩;refine bp (y2 (xs:=ae.aK (ae.inv p) xs) (ys:=p) (λx hx=>by rw[CF];exact(ti.aK tx).bound hx) (by rw[ae.Al];lk)) ?_;rintro d st3 ⟨rfl,k3⟩;refine hQ _ _ (bu (bX ?_));clear hQ;k_lt hQ;refine bp (y2 (xs:=ae.inv p) (ys:=ys) (λx hx=>by rw[HK];exact ti.bound hx) ⋯) ?_;rintro d mY ⟨rfl,k4⟩;refine bp (y2 (xs:=ae.aK (ae.inv p) ys) (ys:=p) (λx hx=>by rw[CF];exact(ti.aK ty).bound hx) (by rw[ae.Al];lk)) ?_;rintro d lh ⟨rfl,k5⟩;refine hQ _ _ (gX ?_);clear hQ;k_lt hQ;exact⟨rfl,hQ _ _ ⟨rfl,(((k1.trans k2).trans k3).trans k4).trans k5⟩⟩
def T8{st:Store}{Q:D->Store->Prop}{xs:List Int}{v:Int}(h:v∈xs):Wp (iZ (.tup (xs.map D.int)) [.int v] st) Q↔Q (.int (xs.idxOf v:Int)) st:=by rw[Lk];constructor;rintro⟨ns,j,h1,h2,q⟩;rw[Hr]at h1;cases h1;rw[Lp h]at h2;cases h2;exact q;intro q;exact⟨xs,_,Hr xs,Lp h,q⟩
def T9{st:Store}{xs ys p:List Int}{n:Nat}(tx:ae.Tn n xs)(ty:ae.Tn n ys)(tp:ae.Tn n p)(hn:n<=100):Wp (Cc [cc xs ys,.tup (p.map D.int)] st) λd st'=>d=cc (ae.anew xs p) (ae.anew ys p)/\Ex [] st st':=by
 have CF:=tp.length;refine iO ?_;show Ws (EG [some (cc xs ys),some (.tup (p.map D.int))] st) _ _ _ _;unfold EG cc;refine gX ?_;k_lt hQ;refine Bn [.tup (xs.map D.int),.tup (ys.map D.int)] (λd=>match d with|.tup ds=>.tup ((ae.anew (ds.map inD) p).map D.int)|_=>.non) ?_ (by simp) ?_ ?_;k_lt cT;exact cT _ _ ⟨uv _ _,Ex.refl⟩;intro d hd st1 k1;obtain⟨zs,rfl,tz⟩:∃zs:List Int,d=.tup (zs.map D.int)/\ae.Tn n zs:=by
  rcases VJ.mp hd with rfl|hd
  exact⟨xs,rfl,tx⟩;exact⟨ys,VE.mp hd,ty⟩
 have L0:=tz.length;refine cP ?_;intro kY cT;exists VO,Wl,Ww,Wx;refine Bn (ay 0 n) (λd=>.int (ae.app p (ae.app zs (p.idxOf (inD d):Int)))) ?_ (by rw[ib];lk) ?_ ?_;k_lt qU;rw[Vl,CF];exact⟨by lk,qU _ _ ⟨by rw[VB];exact uv _ _,Ex.refl⟩⟩;intro d hd st2 k2;rw[xD]at hd;obtain⟨x,hx,rfl⟩:=Hx hd;obtain⟨x0,x1⟩:=ae.kN.mp hx;have hm:=tp.mem x0 x1;have hi:=tp.idx x0 x1;obtain⟨a0,a1⟩:=tz.app (i:=(p.idxOf x:Int)) ⋯ ⋯;refine cP ?_;intro CC qU;exists VO,Wl,Ww,Wx,Rt,T8 hm,rB (xs:=zs) (i:=(p.idxOf x:Int)) ⋯ ⋯,rB (xs:=p) a0 ⋯;exact qU _ _ ⟨rfl,Ex.refl⟩;intro st' k';have e:(ay 0 n).map (λd=>D.int (ae.app p (ae.app zs (p.idxOf (inD d):Int))))=(ae.anew zs p).map D.int:=by
  rw[xD,Ls (f:=λx=>ae.app p (ae.app zs (p.idxOf x:Int))) λx hx=>rfl]
  congr 1
  unfold ae.anew ae.aK ae.inv;rw[VT,VT,CF];rfl
 rw[e];w_how;refine cT _ _ ⟨?_,k'.app _⟩;show D.tup _=D.tup ((ae.anew ((zs.map D.int).map inD) p).map D.int);rw[VT]
 congr 3
 exact(Xc zs).symm;intro st' k';w_how;refine hQ _ _ ⟨?_,k'.app _⟩;have e:∀zs:List Int,(zs.map D.int).map inD=zs:=λzs=>by rw[VT];exact Xc zs
 simp only[VO,Wl,e]
def Ua{F:List Int}{x:Int}:(!F.contains x)=true->ae.bZ F x=F ++ [x]:=λh=>by
 unfold ae.bZ;rw[if_neg λz=>by rw[V2.mpr z]at h;cases h]
def Ub{F:List Int}{x:Int}:(!F.contains x)=false->ae.bZ F x=F:=λh=>by
 unfold ae.bZ;rw[if_pos (V2.mp (by simpa using h))]
def L7{st:Store}{xs ys:List Int}{n:Nat}{s:Int}(tx:ae.Tn n xs)(ty:ae.Tn n ys)(hn:n<=100)(s0:0<=s)(s1:s<(n:Int)):Wp (xS [cc xs ys,.int s] st) λd st'=>d=.tup ((ae.bf xs ys s n).map D.int)/\Ex [] st st':=by
 have hlx:=tx.length;have HK:=ty.length;refine iO ?_;show Ws (Ei [some (cc xs ys),some (.int s),none,none,none,none] st) _ _ _ _;unfold Ei;refine bu (bX ?_);k_lt hQ;refine⟨rfl,hQ _ _ (bu (bX ?_))⟩;clear hQ;k_lt hQ;refine hQ _ _ (bu (yQ (λm δ st2=>∃(k:Nat) (v4 v5:Option D),m=n-k/\δ=[some (cc xs ys),some (.int s),some (.ref st.length),some (.int (k:Int)),v4,v5]/\st2[st.length]?=some (.lst ((ae.bf xs ys s k).map D.int))/\k<=(ae.bf xs ys s k).length/\Ex [] st st2) n (Wm hn ∅) ⟨0,none,none,by lk,rfl,iP,VX _,Ex.b6 _⟩ ?_));clear hQ;rintro m δ st2 ⟨k,v4,v5,rfl,rfl,hl,hk,k2⟩;have sD:=ae.An tx ty s0 s1 k;refine cP ?_;intro gK hQ;exists cu hl;refine hQ _ _ ⟨λhlt=>?_,λhlt=>?_⟩;clear hQ;have hlt:=of_decide_eq_true hlt;rw[Vl]at hlt;have nQ:k<(ae.bf xs ys s k).length:=by lk
 obtain⟨x,hx⟩:∃x,(ae.bf xs ys s k)[k]?=some x:=⟨_,Vn nQ⟩;obtain⟨x0,x1⟩:=ae.nU tx ty s0 s1 k x (Vv hx);have e1:ae.bf xs ys s (k+1)=ae.visit xs ys (ae.bf xs ys s k) x:=by
  show(match (ae.bf xs ys s k)[k]? with|some x=>ae.visit xs ys (ae.bf xs ys s k) x|none=>ae.bf xs ys s k)=_;rw[hx]
 have hb1:=ae.An tx ty s0 s1 (k+1);rw[e1]at hb1;have hp1:=(ae.Am (ae.bZ (ae.bf xs ys s k) (ae.app xs x)) (ae.app ys x)).length_le;have hp0:=(ae.Am (ae.bf xs ys s k) (ae.app xs x)).length_le;change _<=(ae.visit xs ys (ae.bf xs ys s k) x).length at hp1;refine bu (pj [.tup (xs.map D.int),.tup (ys.map D.int)] (λm δ st3=>∃(v4 v5:Option D) (G:List Int),δ=[some (cc xs ys),some (.int s),some (.ref st.length),some (.int (k:Int)),v4,v5]/\st3[st.length]?=some (.lst (G.map D.int))/\(m=0->G=ae.bf xs ys s k)/\(m=1->G=ae.bZ (ae.bf xs ys s k) (ae.app xs x))/\(m=2->G=ae.visit xs ys (ae.bf xs ys s k) x)/\Ex [] st st3) ?_ (by simp) ?_ ?_);unfold cc;k_lt hQ;exact hQ _ _ ⟨rfl,v4,v5,_,rfl,hl,λ_=>rfl,λz=>by lk,λz=>by lk,k2⟩;rintro m z δ st3 hm ⟨v4,v5,G,rfl,hl3,g0,g1,_,k3⟩;have hm2:m<2:=fN hm;obtain⟨zs,rfl,tz,em⟩:∃(zs:List Int),z=.tup (zs.map D.int)/\ae.Tn n zs/\((m=0/\zs=xs)\/(m=1/\zs=ys)):=by
  rcases(show m=0\/m=1 by lk)with rfl|rfl
  exact⟨xs,by simpa using hm.symm,tx,.inl ⟨rfl,rfl⟩⟩;exact⟨ys,by simpa using hm.symm,ty,.inr ⟨rfl,rfl⟩⟩
 have hG:G.length<=100/\G[k]?=some x:=by
  rcases em with⟨rfl,_⟩|⟨rfl,_⟩
  rw[g0 rfl];exact⟨by lk,hx⟩;rw[g1 rfl];refine⟨by lk,?_⟩;obtain⟨t,e⟩:=ae.Am (ae.bf xs ys s k) (ae.app xs x);rw[<- e,VC nQ];exact hx
 have L8:∀G',G'=ae.bZ G (ae.app zs x)->(m+1=0->G'=ae.bf xs ys s k)/\(m+1=1->G'=ae.bZ (ae.bf xs ys s k) (ae.app xs x))/\(m+1=2->G'=ae.visit xs ys (ae.bf xs ys s k) x):=λG' e=>by
  rcases em with⟨rfl,rfl⟩|⟨rfl,rfl⟩
  exact⟨λz=>by lk,λ_=>by rw[e,g0 rfl],λz=>by lk⟩;exact⟨λz=>by lk,λz=>by lk,λ_=>by rw[e,g1 rfl];rfl⟩
 have hat:fG (G.map D.int) (k:Int)=some (.int x):=yl (by rw[Vr,hG.2];rfl);k_lt hQ;refine hQ _ _ (bu (bX ?_));clear hQ;refine cP ?_;intro gK hQ;exists cu hl3,hat,rB (xs:=zs) x0 (by rw[tz.length];exact x1);refine hQ _ _ (kX ?_);clear hQ;refine cP ?_;intro gK hQ;exists Bm (st:=st3) (c:=.ref st.length) (ns:=G) (cu hl3);refine hQ _ _ ⟨λhc=>qM ?_,λhc=>mF ?_⟩;obtain⟨n0,n1,n2⟩:=L8 (G ++ [ae.app zs x]) (Ua hc).symm;refine cP ?_;intro kY cT;exists j6 hl3;refine⟨pk (by rw[cu hl3];rfl),jC (by rw[Vl];lk),cT _ _ ⟨_,_,G ++ [ae.app zs x],rfl,?_,n0,n1,n2,k3.loc (Vp _)⟩⟩;rw[VD (fN hl3),VL];rfl;obtain⟨n0,n1,n2⟩:=L8 G (Ub hc).symm;exact⟨_,_,G,rfl,hl3,n0,n1,n2,k3⟩;rintro δ st3 ⟨v4,v5,G,rfl,hl3,_,_,g2,k3⟩;have g2:=g2 rfl;subst g2;refine bX ?_;k_lt hQ;refine hQ _ _ ⟨n-(k+1),by lk,k+1,v4,v5,rfl,by simp,by rw[e1];exact hl3,by rw[e1];lk,k3⟩;have hlt:=of_decide_eq_false hlt;rw[Vl]at hlt;have hle:(ae.bf xs ys s k).length<=k:=by lk
 have e:ae.bf xs ys s n=ae.bf xs ys s k:=by
  have:=ae.GJ hle (n-k)
  rwa [show k+(n-k)=n by lk]at this
 refine gX ?_;refine cP ?_;intro kY cT;exists cu hl;rw[<- e];exact cT _ _ ⟨rfl,k2⟩
def Uc{st:Store}{xs:List Int}{n:Nat}{i:Int}(tn:ae.Tn n xs)(hn:n<=100)(i0:0<=i)(i1:i<(n:Int)):Wp (BJ [.tup (xs.map D.int),.int i] st) λd st'=>∃r:List Int,d=.tup (r.map D.int)/\ae.fu xs i r/\Ex [] st st':=by
 have hlen:=tn.length;refine iO ?_;show Ws (Em [some (.tup (xs.map D.int)),some (.int i),none,none] st) _ _ _ _;unfold Em;refine bu (bX ?_);k_lt hQ;refine⟨rfl,hQ _ _ (bu (bX ?_))⟩;clear hQ;refine cP ?_;intro gK hQ;exists rB (xs:=xs) i0 ⋯;refine hQ _ _ (bu (yQ (λm δ st2=>∃k:Nat,m=n-(k+1)/\δ=[some (.tup (xs.map D.int)),some (.int i),some (.ref st.length),some (.int (ae.aO xs i (k+1)))]/\st2[st.length]?=some (.lst ((ae.row xs i k).map D.int))/\ae.NB xs i k/\Ex [] st st2) (n-1) (Wm (show n-1<=100 by lk) ∅) ⟨0,rfl,rfl,iP,λj h1 h2=>by lk,Ex.b6 _⟩ ?_));clear hQ;rintro m δ st2 ⟨k,rfl,rfl,hL,nb,k2⟩;have hrl:=tn.iX i0 i1 nb;k_lt hQ;refine hQ _ _ ⟨λhb=>?_,λhb=>?_⟩;have hb:ae.aO xs i (k+1)≠i:=by simpa using hb
 have L9:ae.NB xs i (k+1):=λj h1 h2=>by
  by_cases hj:j<=k;exact nb j h1 hj
  have:j=k+1:=by lk
  rw[this];exact hb
 have hle:=tn.iX i0 i1 L9;have hit:=tn.aO i0 i1 (k+1);refine bu (qM ?_);refine cP ?_;intro kY cT;exists j6 hL;refine⟨pk (by rw[cu hL];rfl),jC (by rw[Vl,ae.vW];lk),cT _ _ (bX ?_)⟩;clear cT;refine cP ?_;intro kY cT;exists rB (xs:=xs) hit.1 ⋯;refine cT _ _ ⟨n-(k+1+1),by lk,k+1,rfl,rfl,?_,L9,k2.loc (Vp _)⟩;rw[VD (fN hL),ae.PJ,VL];rfl;have hb:ae.aO xs i (k+1)=i:=by simpa using hb
 refine gX ?_;refine cP ?_;intro kY cT;exists cu hL;exact cT _ _ ⟨_,rfl,⟨k,rfl,nb,hb⟩,k2⟩
def Ud{st:Store}{xs:List Int}{n:Nat}(tn:ae.Tn n xs)(hn:n<=100):Wp (BL [.tup (xs.map D.int)] st) λd st'=>∃rs:List (List Int),d=RO rs/\ae.tQ xs (ae.upto n) rs/\(∀r∈rs,r.length<=n/\∀x∈r,0<=x/\x<(n:Int))/\rs.length<=n/\Ex [] st st':=by
 have hlen:=tn.length;refine iO ?_;show Ws (Eo [some (.tup (xs.map D.int)),none,none,none,none,none] st) _ _ _ _;unfold Eo;refine bu (bX ?_);k_lt hQ;refine⟨rfl,hQ _ _ (bu (bX ?_))⟩;clear hQ;k_lt hQ;have eS:(st ++ [O.lst []]).length=st.length+1:=by simp
 rw[eS]
 refine hQ _ _ (bu (pj (ay 0 n) (λk δ st2=>∃ (v3 v4 v5:Option D) (rs:List (List Int)) (kvs:List (Key×D)),δ=[some (.tup (xs.map D.int)),some (.ref st.length),some (.ref (st.length + 1)),v3,v4,v5]/\st2[st.length]?=some (.lst (rs.map λr=>.tup (r.map D.int)))/\st2[st.length + 1]?=some (.dct kvs) /\
   (∀rest,ae.tQ xs (ae.from' n k (λx=>(cN kvs (Sum.inl x:Key)).isSome)) rest->ae.tQ xs (ae.upto n) (rs ++ rest))/\(∀r∈rs,r.length<=n/\∀x∈r,0<=x/\x<(n:Int))/\rs.length<=k/\kvs.length<=k*n/\Ex [] st st2) ?_ (by rw[ib];lk) ?_ ?_))
 clear hQ;k_lt hQ;rw[Vl,hlen];refine⟨by lk,hQ _ _ ⟨by rw[VB],none,none,none,[],[],rfl,jq iP,by rw[<- eS];exact iP,λrest hrest=>?_,(λr hr=>nomatch hr),Vp _,VX _,(Ex.b6 _).app _⟩⟩;have e:ae.from' n 0 (λx=>(cN ([]:List (Key×D)) (Sum.inl x:Key)).isSome)=ae.upto n:=ae.PQ n;rw[e]at hrest;exact hrest;rintro k d δ st2 hd ⟨v3,v4,v5,rs,kvs,rfl,E1,E2,uz,hb,hrl,nQ,k2⟩;have hk:=fN hd;rw[ib]at hk;rw[wL hk,WT]at hd;cases hd;have hkn:k*n<=10000:=VH (Nat.mul_le_mul (show k<=100 by lk) hn) ∅;clear hQ;k_lt hQ;refine hQ _ _ (kX ?_);clear hQ;refine cP ?_;intro gK hQ;exists Lu E2,Lv;have hfs:=ae.PL hk (λx=>(cN kvs (Sum.inl x:Key)).isSome);refine hQ _ _ ⟨λhs=>?_,λhs=>?_⟩;have HP:(cN kvs (Sum.inl (k:Int):Key)).isSome=false:=by simpa using hs
 simp only[HP,V5,if_false]at hfs;clear hQ;refine bu (bX ?_);k_lt hQ;refine bp (Uc tn hn (i:=(k:Int)) ⋯ ⋯) ?_;rintro d st3 ⟨r,rfl,lG,k3⟩;refine hQ _ _ (bu (qM ?_));clear hQ;have HQ:=k3.keep _ _ E1 (by simp);have Ue:=k3.keep _ _ E2 (by simp);have HR:=lG.len tn ⋯ ⋯;have hrb:=lG.bound tn ⋯ ⋯;refine cP ?_;intro gK hQ;exists j6 HQ;refine⟨pk (by rw[cu HQ];rfl),jC (by rw[Vl];lk),hQ _ _ ?_⟩;clear hQ
 refine pj (r.map D.int) (λj δ lh=>∃ (v5:Option D) (kvs':List (Key×D)),δ=[some (.tup (xs.map D.int)),some (.ref st.length),some (.ref (st.length + 1)),some (.int (k:Int)),some (.tup (r.map D.int)),v5]/\lh[st.length]?=some (.lst ((rs ++ [r]).map λr=>.tup (r.map D.int)))/\lh[st.length + 1]?=some (.dct kvs') /\
   (∀x:Int,(cN kvs' (Sum.inl x:Key)).isSome=((cN kvs (Sum.inl x:Key)).isSome || (r.take j).contains x))/\kvs'.length<=kvs.length+j/\Ex [] st lh) ?_ (by rw[Vl];lk) ?_ ?_
 k_lt hQ;refine hQ _ _ ⟨rfl,v5,kvs,rfl,?_,?_,λx=>by simp,by lk,(k2.trans k3).loc (Vp _)⟩;rw[VD (fN HQ),VL];rfl;rw[VI ⋯];exact Ue;rintro j y δ lh hj ⟨v5,kvs',rfl,HS,E3,E4,Ma,k5⟩;obtain⟨x,hx,rfl⟩:=D3 hj;obtain⟨hjl,ex⟩:=Vm.mp hx;subst ex;k_lt hQ;refine hQ _ _ (Rh ?_);clear hQ;k_lt hQ;refine hQ _ _ ?_;k_lt cT;refine cT _ _ ?_;k_lt qU;refine qU _ _ ⟨_,kvs',_,rfl,Lu E3,Lv _,jC ⋯,_,_,rfl,?_,VD (fN E3),λx=>?_,?_,k5.loc ⋯⟩;rw[VI ⋯];exact HS;rw[RU,RW hjl];by_cases hx:x=r[j];subst hx;simp;rw[if_neg (by intro z;exact hx (Sum.inl.inj z)),E4 x]
 have:(x == r[j])=false:=beq_eq_false_iff_ne.mpr hx;rw[this,Bool.or_false]
 have:=RV kvs' (Sum.inl r[j]:Key) (.bl true);lk
 rintro δ lh ⟨v5,kvs',rfl,HS,E3,E4,Ma,k5⟩;rw[Vl]at Ma E4;refine⟨_,_,_,rs ++ [r],kvs',rfl,HS,E3,λrest hrest=>?_,λr' hr'=>?_,by rw[Vq];simp;lk,by rw[Nat.succ_mul];lk,k5⟩;have e:(λx=>(cN kvs' (Sum.inl x:Key)).isSome)=λx=>((cN kvs (Sum.inl x:Key)).isSome || r.contains x):=by
  funext x;rw[E4 x,WU]
 rw[e,<- ae.PN]at hrest;rw[W0];refine uz _ ?_;rw[hfs];refine .cons lG ?_;have e2:ae.out ((k:Int) :: ae.from' n (k+1) (λx=>(cN kvs (Sum.inl x:Key)).isSome)) r=ae.out (ae.from' n (k+1) (λx=>(cN kvs (Sum.inl x:Key)).isSome)) r:=by
  unfold ae.out;rw[List.filter_cons,if_neg (by simp[lG.mem])]
 rw[e2];exact hrest;rcases VQ.mp hr' with h|h
 exact hb r' h
 have:r'=r:=by simpa using h
 subst this;exact⟨HR,hrb⟩;have HP:(cN kvs (Sum.inl (k:Int):Key)).isSome=true:=by simpa using hs
 simp only[HP,if_true]at hfs;exact mF ⟨_,_,_,rs,kvs,rfl,E1,E2,λrest hrest=>uz rest (by rw[hfs];exact hrest),hb,by lk,by rw[Nat.succ_mul];lk,k2⟩;rintro δ st2 ⟨v3,v4,v5,rs,kvs,rfl,E1,E2,uz,hb,hrl,nQ,k2⟩;rw[ib]at uz hrl;refine gX ?_;clear hQ;refine cP ?_;intro gK hQ;exists cu E1;refine hQ _ _ ⟨rs,rfl,?_,hb,hrl,k2⟩;have:=uz [] (by rw[ae.PK];exact .nil)
 rwa [V7]at this
def Ug{rs:List (List Int)}{m:Nat}{d:D}(h:(rs.map λr=>D.tup (r.map D.int))[m]?=some d):∃r,rs[m]?=some r/\d=.tup (r.map D.int):=by rw[Vr]at h;obtain⟨r,h1,h2⟩:=VR.mp h;exact⟨r,h1,h2.symm⟩
def Uh{xs:List Int}{i:Int}{m:Nat}{j:Int}(h0:0<=j)(h1:j<((m+1:Nat):Int)):fG ((ae.row xs i m).map D.int) j=some (.int (ae.aO xs i j.toNat)):=by
 have e:((ae.row xs i m).map D.int)[j.toNat]?=some (.int (ae.aO xs i j.toNat)):=by
  unfold ae.row;rw[VT,Vr,Wb ⋯];rfl
 have:=yl e
 rwa [VY h0]at this
def Mb{bs:List Int}{m v x:Int}(h0:0<=m)(h1:m<(bs.length:Int))(x0:0<=x):ae.app (bs.set m.toNat v) x=if x=m then v else ae.app bs x:=by have:=ae.GH (xs:=bs) (m:=m.toNat) (v:=v) (x:=x) ⋯ x0;rw[VY h0]at this;exact this
def Ui{st:Store}{xs:List Int}{n:Nat}{k:Int}(tn:ae.Tn n xs)(hn:n<=100):Wp (BN [.tup (xs.map D.int),.int k] st) λd st'=>d=.tup ((ae.bL xs k).map D.int)/\Ex [] st st':=by
 have hlen:=tn.length;refine iO ?_;show Ws (Ep [some (.tup (xs.map D.int)),some (.int k),none,none,none,none] st) _ _ _ _;unfold Ep;refine bu (bX ?_);k_lt hQ;have e0:(((xs.map D.int).length:Int)).toNat=n:=by rw[Vl];lk
 have ez:(List.replicate n [D.int 0]).flatten=(List.replicate n (0:Int)).map D.int:=by
  clear hlen tn hn e0
  induction n with
  |zero=>rfl
  |succ n ih=>simp[V9]
 rw[e0,ez];have CD:st.length<=(st ++ [O.lst [D.int 0]]).length:=by simp
 refine⟨rfl,by rw[Vl];lk,jC (by simp;lk),hQ _ _ ?_⟩;clear hQ;have HU:(st ++ [O.lst [D.int 0]] ++ [O.lst ((List.replicate n (0:Int)).map D.int)])[(st ++ [O.lst [D.int 0]]).length]?=some (.lst ((List.replicate n (0:Int)).map D.int)):=iP;have kB:Ex [] st (st ++ [O.lst [D.int 0]] ++ [O.lst ((List.replicate n (0:Int)).map D.int)]):=(Ex.b6 _).app _;generalize (st ++ [O.lst [D.int 0]] ++ [O.lst ((List.replicate n (0:Int)).map D.int)])=Uj at HU kB ⊢;generalize (st ++ [O.lst [D.int 0]]).length=B at CD HU ⊢;show Ws _ _ _ _ _;obtain⟨d,st2,e2,rs,rfl,uz,hrb,hrl,k2⟩:=Ud (st:=Uj) tn hn;refine bu (pj (rs.map λr=>.tup (r.map D.int)) (λm δ st3=>∃(v3 v4 v5:Option D) (bs:List Int),δ=[some (.tup (xs.map D.int)),some (.int k),some (.ref B),v3,v4,v5]/\st3[B]?=some (.lst (bs.map D.int))/\bs.length=n/\(∀j,j<m->∀r,rs[j]?=some r->∀x∈r,ae.app bs x=ae.pw xs k x)/\Ex [] st st3) ?_ (by rw[Vl];lk) ?_ ?_)
 ·k_lt hQ
  refine⟨_,_,e2,?_⟩;exact⟨_,rfl,hQ _ _ ⟨rfl,none,none,none,_,rfl,k2.keep _ _ HU (by simp),by simp,λj hj=>absurd hj (V6 _),kB.trans k2⟩⟩
 ·rintro m d δ st3 hm ⟨v3,v4,v5,bs,rfl,HV,sD,sE,k3⟩
  obtain⟨r,hr,rfl⟩:=Ug hm;obtain⟨i,hi,lG⟩:=uz.all.1 r (Vv hr);obtain⟨i0,i1⟩:=ae.kN.mp hi;obtain⟨M,rfl,nb,bk⟩:=lG.ex;have hM:=tn.iX i0 i1 nb;k_lt hQ;refine hQ _ _ (pj (jS ((ae.row xs i M).map D.int)) (λt δ mY=>∃(v4 v5:Option D) (cs:List Int),δ=[some (.tup (xs.map D.int)),some (.int k),some (.ref B),some (.tup ((ae.row xs i M).map D.int)),v4,v5]/\mY[B]?=some (.lst (cs.map D.int))/\cs.length=n/\(∀x:Int,0<=x->x<(n:Int)->ae.app bs x=ae.pw xs k x->ae.app cs x=ae.pw xs k x)/\(∀j,j<t->ae.app cs (ae.aO xs i j)=ae.pw xs k (ae.aO xs i j))/\Ex [] st mY) ?_ ?_ ?_ ?_)
  ·clear hQ
   k_lt hQ;exact hQ _ _ ⟨rfl,v4,v5,bs,rfl,HV,sD,λ_ _ _ h=>h,λj hj=>absurd hj (V6 _),k3⟩
  ·rw[AZ,Vl,ae.vW];lk
  ·rintro t d δ mY hd ⟨v4,v5,cs,rfl,E5,hcl,hcs,hct,k4⟩
   obtain⟨d',hd',rfl⟩:=Hl hd;obtain⟨y,hy,rfl⟩:=D3 hd';have Mc:=fN hy;rw[ae.vW]at Mc;have ey:y=ae.aO xs i t:=by
    unfold ae.row at hy;rw[Vr,Wb Mc]at hy;exact(Vu hy).symm
   subst ey;obtain⟨x0,x1⟩:=tn.aO i0 i1 t;have hL:(0:Int)<((M+1:Nat):Int):=by lk
   have m0:=Wu ((t:Int)+k) (Int.ne_of_gt hL);have m1:=WC ((t:Int)+k) hL;have eL:((((ae.row xs i M).map D.int).length:Nat):Int)=((M+1:Nat):Int):=by rw[Vl,ae.vW]
   have hix:kl (cs.map D.int).length (ae.aO xs i t)=some (ae.aO xs i t).toNat:=by
    have:=yp (n:=(cs.map D.int).length) (j:=(ae.aO xs i t).toNat) (by rw[Vl];lk)
    rwa [VY x0]at this
   have es:∀v:Int,(cs.map D.int).set (ae.aO xs i t).toNat (.int v)=(cs.set (ae.aO xs i t).toNat v).map D.int:=λv=>by rw[X0]
   clear hQ;k_lt hQ;refine⟨rfl,hQ _ _ (yP ?_)⟩;clear hQ;refine cP ?_;intro gK hQ;exists eL,Uh m0 m1;refine⟨hL,hQ _ _ ?_⟩;clear hQ;refine cP ?_;intro gK hQ;exists j6 E5,hix,es;have hat:=tn.v9 x0 x1 (tn.vX i0 i1 nb bk t k);refine hQ _ _ ⟨_,_,_,rfl,VD (fN E5),by rw[Wj];exact hcl,λx h0 h1 h=>?_,λj hj=>?_,k4.loc CD⟩
   ·rw[Mb x0 ⋯ h0]
    split
    ·next e=>rw[e];exact hat
    ·exact hcs x h0 h1 h
   ·obtain⟨y0,y1⟩:=tn.aO i0 i1 j
    rw[Mb x0 ⋯ y0];split
    ·next e=>rw[e];exact hat
    ·next e =>
     by_cases Uk:j=t
     ·rw[Uk]at e;exact absurd rfl e
     ·exact hct j ⋯
  ·rintro δ mY ⟨v4,v5,cs,rfl,E5,hcl,hcs,hct,k4⟩
   rw[AZ,Vl,ae.vW]at hct;refine⟨_,_,_,cs,rfl,E5,hcl,λj hj r hr2 x hx=>?_,k4⟩;by_cases Ul:j=m
   ·subst Ul
    rw[hr]at hr2;cases hr2;obtain⟨jj,Ve,rfl⟩:=ae.DB.mp hx;exact hct jj ⋯
   ·obtain⟨b0,b1⟩:=(hrb r (Vv hr2)).2 x hx
    exact hcs x b0 b1 (sE j ⋯ r hr2 x hx)
 ·rintro δ st3 ⟨v3,v4,v5,bs,rfl,HV,sD,sE,k3⟩
  rw[Vl]at sE;have e:bs=ae.bL xs k:=by
   refine ae.oK (n:=n) sD (by rw[ae.Ar];exact hlen) λs s0 s1=>?_;rw[ae.nV s0 ⋯];obtain⟨r,hr',hx⟩:=uz.all.2 s (ae.kN.mpr ⟨s0,s1⟩);obtain⟨j,hj,ej⟩:=WG hr';exact sE j hj r (by rw[Vn hj,ej]) s hx
  subst e;refine gX ?_;refine cP ?_;intro gK hQ;exists cu HV;exact hQ _ _ ⟨rfl,k3⟩
def Um{st:Store}{xs ys:List Int}{n:Nat}{k:Int}(tx:ae.Tn n xs)(ty:ae.Tn n ys)(hn:n<=100):Wp (BQ [cc xs ys,.int k] st) λd st'=>d=cc xs (ae.shr xs ys k)/\Ex [] st st':=by refine iO ?_;show Ws (Er [some (cc xs ys),some (.int k)] st) _ _ _ _;unfold Er cc;refine gX ?_;have tp:=tx.bL (-k);k_lt hQ;refine bp (Ui (k:=-k) tx hn) ?_;rintro d st1 ⟨rfl,k1⟩;refine bp (y2 (xs:=ae.bL xs (-k)) (ys:=ys) (λx hx=>by rw[ty.length];exact tp.bound hx) (by rw[tp.length];exact hn)) ?_;rintro d st2 ⟨rfl,k2⟩;exact⟨rfl,hQ _ _ ⟨rfl,k1.trans k2⟩⟩
def Uo{st:Store}{xs ys:List Int}{n:Nat}(tx:ae.Tn n xs)(ty:ae.Tn n ys)(hn:n<=100):Wp (BS [cc xs ys] st) λd st'=>d=cc (ae.inv ys) xs/\Ex [] st st':=by refine iO ?_;show Ws (Es [some (cc xs ys)] st) _ _ _ _;unfold Es cc;refine gX ?_;k_lt hQ;refine bp (HN ty hn) ?_;rintro d st1 ⟨rfl,k1⟩;exact⟨rfl,hQ _ _ ⟨rfl,k1⟩⟩
abbrev sF(xs ys:List Int):Nat->List Int×List Int
 |0=>(xs,ys)
 |j+1=>(ae.inv (sF xs ys j).2,(sF xs ys j).1)
def E6{n:Nat}{xs ys:List Int}(tx:ae.Tn n xs)(ty:ae.Tn n ys):∀j,ae.Tn n (sF xs ys j).1/\ae.Tn n (sF xs ys j).2
 |0=>⟨tx,ty⟩
 |j+1=>⟨(E6 tx ty j).2.aq,(E6 tx ty j).1⟩
abbrev Md(s:jT):Prop:=s.1=false->1<=s.2/\s.2<=3
abbrev jB(p:List Int×List Int)(s:jT):List Int×List Int:=if s.1=true then(p.1,ae.shr p.1 p.2 s.2)else sF p.1 p.2 s.2.toNat
abbrev kJ(p:List Int×List Int)(w:List jT):List Int×List Int:=w.foldl jB p
def Up{n:Nat}{p:List Int×List Int}(h:ae.Tn n p.1/\ae.Tn n p.2)(s:jT):ae.Tn n (jB p s).1/\ae.Tn n (jB p s).2:=by unfold jB;split;exact⟨h.1,h.1.shr h.2 _⟩;exact E6 h.1 h.2 _
def Me{n:Nat}:∀{p:List Int×List Int},ae.Tn n p.1/\ae.Tn n p.2->∀w:List jT,ae.Tn n (kJ p w).1/\ae.Tn n (kJ p w).2
 |_,h,[]=>h
 |_,h,s :: w=>Me (Up h s) w
def Uq(p:List Int×List Int)(v w:List jT):kJ p (v ++ w)=kJ (kJ p v) w:=by unfold kJ;rw[Wr]
def Ur(p:List Int×List Int)(w:List jT)(s:jT):kJ p (w ++ [s])=jB (kJ p w) s:=by rw[Uq];rfl
abbrev cK(p:List Int×List Int):D:=cc p.1 p.2
def Us{st:Store}{p:List Int×List Int}{n:Nat}{s:jT}(h:ae.Tn n p.1/\ae.Tn n p.2)(hn:n<=100)(hs:Md s):Wp (BV [cK p,dN s] st) λd st'=>d=cK (jB p s)/\Ex [] st st':=by
 obtain⟨b,k⟩:=s;refine iO ?_;show Ws (Et [some (cK p),some (dN (b,k)),none,none] st) _ _ _ _;unfold Et dN;cases b with
 |true =>
  refine bu (kX ?_);k_lt hQ;refine hQ _ _ ⟨λ_=>gX ?_,λz=>absurd z ∅⟩;clear hQ;k_lt hQ;refine bp (Um (k:=k) h.1 h.2 hn) ?_;rintro d st1 ⟨rfl,k1⟩;exact hQ _ _ ⟨rfl,k1⟩
 |false =>
  obtain⟨k1,k3⟩:=hs rfl;obtain⟨j,rfl⟩:∃j:Nat,k=(j:Int):=⟨k.toNat,by simp only at k1;lk⟩;refine bu (kX ?_);k_lt hQ;refine hQ _ _ ⟨λz=>absurd z ∅,λ_=>mF (bu (bX ?_))⟩;clear hQ;k_lt hQ;refine hQ _ _ (bu (pj (ay 0 j) (λi δ st2=>∃v3:Option D,δ=[some (cK p),some (dN (false,(j:Int))),some (cc (sF p.1 p.2 i).1 (sF p.1 p.2 i).2),v3]/\Ex [] st st2) ?_ (by rw[ib];simp only at k3;lk) ?_ ?_));clear hQ;k_lt hQ;exact⟨by simp only at k3;lk,hQ _ _ ⟨by rw[VB],none,rfl,Ex.refl⟩⟩;rintro i d δ st2 hd ⟨v3,rfl,k2⟩;obtain⟨ta,tb⟩:=E6 h.1 h.2 i;clear hQ;k_lt hQ;refine hQ _ _ (bX ?_);clear hQ;k_lt hQ;refine bp (Uo ta tb hn) ?_;rintro d' st3 ⟨rfl,k3⟩;exact hQ _ _ ⟨some d,rfl,k2.trans k3⟩;rintro δ st2 ⟨v3,rfl,k2⟩;rw[ib];refine gX ?_;clear hQ;k_lt hQ;refine hQ _ _ ⟨?_,k2⟩;unfold cK jB;rw[if_neg (show ¬(false=true)from Vs),VB]
def Ut{st:Store}{p:List Int×List Int}{n:Nat}{w:List jT}(h:ae.Tn n p.1/\ae.Tn n p.2)(hn:n<=100)(hw:∀s∈w,Md s)(hl:w.length<=1000):Wp (BX [cK p,.tup (w.map dN)] st) λd st'=>d=cK (kJ p w)/\Ex [] st st':=by refine iO ?_;show Ws (Ew [some (cK p),some (.tup (w.map dN)),none,none] st) _ _ _ _;unfold Ew;refine bu (bX ?_);k_lt hQ;refine hQ _ _ (bu (pj (w.map dN) (λi δ st2=>∃v2:Option D,δ=[some (cK p),some (.tup (w.map dN)),some (cK (kJ p (w.take i))),v2]/\Ex [] st st2) ?_ (by rw[Vl];lk) ?_ ?_));clear hQ;k_lt hQ;exact hQ _ _ ⟨rfl,none,rfl,Ex.refl⟩;rintro i d δ st2 hd ⟨v2,rfl,k2⟩;rw[Vr]at hd;obtain⟨s,hs,rfl⟩:=VR.mp hd;obtain⟨hil,es⟩:=Vm.mp hs;clear hQ;k_lt hQ;refine hQ _ _ (bX ?_);clear hQ;k_lt hQ;refine bp (Us (Me h _) hn (hw s (Vv hs))) ?_;rintro d st3 ⟨rfl,k3⟩;refine hQ _ _ ⟨some (dN s),?_,k2.trans k3⟩;rw[V4 hil,Ur,es];rfl;rintro δ st2 ⟨v2,rfl,k2⟩;rw[Vl,WU];refine gX ?_;clear hQ;k_lt hQ;exact hQ _ _ ⟨rfl,k2⟩
def Uu{st:Store}{xs ys:List Int}{n:Nat}{s:Int}(fl:nZ n xs ys)(hn:n<=100)(s0:0<=s)(s1:s<(n:Int)):Wp (BD [cc xs ys,.int s] st) λd st'=>d=.tup ((ae.inv (ae.bf xs ys s n)).map D.int)/\Ex [] st st':=by obtain⟨tx,ty,all⟩:=fl;refine iO ?_;show Ws (Ej [some (cc xs ys),some (.int s)] st) _ _ _ _;unfold Ej;refine gX ?_;k_lt hQ;refine bp (L7 tx ty hn s0 s1) ?_;rintro d st1 ⟨rfl,k1⟩;refine bp (HN (ae.GK tx ty s0 s1 all) hn) ?_;rintro d st2 ⟨rfl,k2⟩;exact hQ _ _ ⟨rfl,k1.trans k2⟩
abbrev HW(xs ys:List Int)(s:Int)(n:Nat):D:=cc (ae.num xs (ae.bf xs ys s n)) (ae.num ys (ae.bf xs ys s n))
def Uv{st:Store}{xs ys:List Int}{n:Nat}{s:Int}(fl:nZ n xs ys)(hn:n<=100)(s0:0<=s)(s1:s<(n:Int)):Wp (BF [cc xs ys,.int s] st) λd st'=>d=HW xs ys s n/\Ex [] st st':=by have Uw:=fl;obtain⟨tx,ty,all⟩:=fl;have tb:=ae.GK tx ty s0 s1 all;refine iO ?_;show Ws (Ek [some (cc xs ys),some (.int s)] st) _ _ _ _;unfold Ek;refine gX ?_;k_lt hQ;refine bp (Uu Uw hn s0 s1) ?_;rintro d st1 ⟨rfl,k1⟩;refine bp (T7 tx ty tb.aq hn) ?_;rintro d st2 ⟨rfl,k2⟩;rw[ae.tR tx tb,ae.tR ty tb];exact hQ _ _ ⟨rfl,k1.trans k2⟩
def Mf{n:Nat}{p:ae.aG}(w:ae.Wh n p):nZ n p.1 p.2:=⟨w.v.1,w.v.2,w.all⟩
def Ux(p:ae.aG)(n:Nat):(ay 0 n).map (λd=>cc (ae.o8 p n (inD d)).1 (ae.o8 p n (inD d)).2)=((ae.upto n).map (ae.o8 p n)).map λq=>cc q.1 q.2:=by rw[xD,VT,VT];rfl
def Mg{st:Store}{xs ys:List Int}{n:Nat}(fl:nZ n xs ys)(n0:0<n)(hn:n<=20):Wp (xT [cc xs ys] st) λd st'=>d=cc (ae.bA n (xs,ys)).1 (ae.bA n (xs,ys)).2/\Ex [] st st':=by have hlx:=fl.1.length;refine iO ?_;show Ws (El [some (cc xs ys)] st) _ _ _ _;unfold El;refine gX ?_;k_lt hQ;refine Bn (ay 0 n) (λd=>cc (ae.o8 (xs,ys) n (inD d)).1 (ae.o8 (xs,ys) n (inD d)).2) ?_ (by rw[ib];lk) ?_ ?_;unfold cc;k_lt cT;rw[Vl,hlx];exact⟨by lk,cT _ _ ⟨by rw[VB];exact uv _ _,Ex.refl⟩⟩;intro d hd st2 k2;rw[xD]at hd;obtain⟨x,hx,rfl⟩:=Hx hd;obtain⟨x0,x1⟩:=ae.kN.mp hx;refine cP ?_;intro kY cT;exists VO,Wl,Ww,Wx;refine bp (Uv fl ⋯ x0 x1) ?_;rintro d st3 ⟨rfl,k3⟩;exact cT _ _ ⟨rfl,k3⟩;intro st' k';rw[Ux,R7 (j6 iP) (by rw[Vl,ae.oG];exact n0)];exact hQ _ _ ⟨rfl,k'.app _⟩
def Uy{st:Store}{a b:jT}:Wp (B0 [dN a,dN b] st) λd st'=>d=.tup ((ae.bJ a b).map dN)/\Ex [] st st':=by
 obtain⟨ab,ak⟩:=a;obtain⟨bb,bk⟩:=b;refine iO ?_;show Ws (Ez [some (.tup [.str (if ab then "s" else "t"),.int ak]),some (.tup [.str (if bb then "s" else "t"),.int bk]),none] st) _ _ _ _;unfold Ez;have hj:ae.bJ (ab,ak) (bb,bk)=if ae.fU (ab,ak) (bb,bk)=0 then[]else[(ab,ae.fU (ab,ak) (bb,bk))]:=rfl
 refine bu (bX ?_);k_lt hQ;refine hQ _ _ ?_;clear hQ;show Ws _ _ _ _ _;refine bu (yO (N:=λδ st1=>st1=st/\δ=[some (.tup [.str (if ab then "s" else "t"),.int ak]),some (.tup [.str (if bb then "s" else "t"),.int bk]),some (.int (ae.fU (ab,ak) (bb,bk)))]) (kX ?_) ?_);k_lt hQ;refine hQ _ _ ⟨λh=>bX ?_,λh=>mF ⟨rfl,?_⟩⟩;cases ab with
 |true=>exact absurd h ∅
 |false =>
  clear hQ;k_lt hQ;exact⟨by decide,hQ _ _ ⟨rfl,rfl⟩⟩
 cases ab with
 |true=>rfl
 |false=>exact absurd h ∅
 rintro δ st1 ⟨rfl,rfl⟩;refine bu (kX ?_);k_lt hQ;refine hQ _ _ ⟨λh=>gX ?_,λh=>mF (gX ?_)⟩;have h:=of_decide_eq_true h;clear hQ;k_lt hQ;refine⟨rfl,hQ _ _ ⟨?_,Ex.refl⟩⟩;rw[hj,if_pos h];rfl;have h:=of_decide_eq_false h;clear hQ;k_lt hQ;refine⟨rfl,rfl,hQ _ _ ⟨?_,Ex.refl⟩⟩;rw[hj,if_neg h];rfl
def Mh{xs:List D}{x:D}:fG (xs ++ [x]) (-1)=some x:=by
 unfold fG kl;rw[Vq,if_neg ∅,if_pos (by simp;lk)];simp only[WJ];have e:((-1:Int)+((xs.length+[x].length:Nat):Int)).toNat=xs.length:=by simp only[WA];lk
 rw[e];simp
def Uz{xs:List D}{x:D}:cutD (xs ++ [x]) none (some (-1))=xs:=by
 have e1:HT.bP (xs ++ [x]).length 0 none=0:=rfl;have e2:HT.bP (xs ++ [x]).length (xs ++ [x]).length (some (-1))=xs.length:=by
  unfold HT.bP;simp only;rw[if_pos ∅,Vq,WA];lk
 unfold cutD;rw[e1,e2,XB,Nat.sub_zero];simp
def UA(a b:Bool):(((if a=true then("s" : Str)else "t")=(if b=true then("s" : Str)else "t")))↔a=b:=by cases a<;>cases b<;>decide
def UB{st:Store}{w:List jT}(hl:w.length<=1000):Wp (B2 [.tup (w.map dN)] st) λd st'=>d=.tup ((ae.jQ w).reverse.map dN)/\Ex [] st st':=by
 refine iO ?_;show Ws (EA [some (.tup (w.map dN)),none,none] st) _ _ _ _;unfold EA;refine bu (bX ?_);k_lt hQ;refine⟨rfl,hQ _ _ ?_⟩;clear hQ;show Ws _ _ _ _ _;refine bu (pj (w.map dN) (λi δ st2=>∃v:Option D,δ=[some (.tup (w.map dN)),some (.tup ((ae.jQ (w.take i)).reverse.map dN)),v]/\Ex [] st st2) ?_ (by rw[Vl];lk) ?_ ?_);k_lt hQ;exact hQ _ _ ⟨rfl,none,rfl,Ex.refl⟩;rintro i d δ st2 hd ⟨v2,rfl,k2⟩;rw[Vr]at hd;obtain⟨s,hs,rfl⟩:=VR.mp hd;obtain⟨hil,es⟩:=Vm.mp hs;have ep:ae.jQ (w.take (i+1))=ae.bQ (ae.jQ (w.take i)) s:=by rw[V4 hil,ae.Ku,es];rfl
 have hpl:(ae.jQ (w.take i)).length<=1000:=by have:=ae.Kv (w.take i);rw[WH]at this;lk
 rw[ep];clear ep;generalize ae.jQ (w.take i)=l at hpl ⊢;k_lt hQ;refine hQ _ _ (kX ?_);clear hQ;k_lt hQ;cases l with
 |nil =>
  refine hQ _ _ ⟨λh=>absurd h ∅,λ_=>bX ?_⟩;clear hQ;k_lt hQ;exact⟨rfl,rfl,hQ _ _ ⟨some (dN s),rfl,k2⟩⟩
 |cons t r =>
  have eg:(t :: r).reverse.map dN=r.reverse.map dN ++ [dN t]:=by simp
  rw[eg];have el:decide ((0:Int)<((r.reverse.map dN ++ [dN t]).length:Nat))=true:=decide_eq_true (by simp);have es1:dN t=.tup [.str (if t.1 then "s" else "t"),.int t.2]:=rfl;have UC:dN s=.tup [.str (if s.1 then "s" else "t"),.int s.2]:=rfl;have elt:(if t.1=true then("s" : Str)else "t")=(if s.1=true then("s" : Str)else "t")↔t.1=s.1:=UA _ _;exists Mh,es1,UC;rw[if_pos (by simp)];refine hQ _ _ ⟨λh=>bX ?_,λh=>bX ?_⟩;have h:=elt.mp (of_decide_eq_true h);clear hQ;k_lt hQ;rw[eg,Uz];exists Mh;refine bp Uy ?_;rintro d st3 ⟨rfl,k3⟩;w_how;refine⟨jC ?_,hQ _ _ ⟨some (dN s),?_,k2.trans k3⟩⟩
  have:(ae.bJ t s).length<=1:=by unfold ae.bJ;split<;>simp
  simp only[Vl,XA];simp only[VU]at hpl;lk;have ej:(ae.bJ t s).reverse=ae.bJ t s:=by unfold ae.bJ;split<;>rfl
  rw[ae.rZ,if_pos h,List.reverse_append,VL,ej];rfl;have h:=λe=>of_decide_eq_false h (elt.mpr e);clear hQ;k_lt hQ;refine⟨rfl,jC ?_,hQ _ _ ⟨some (dN s),?_,k2⟩⟩;simp only[Vl,XA,WA];lk;have e2:(s :: t :: r).reverse.map dN=(t :: r).reverse.map dN ++ [dN s]:=by simp
  rw[ae.rZ,if_neg h,e2];rfl
 rintro δ st2 ⟨v2,rfl,k2⟩;rw[Vl,WU];refine gX ?_;k_lt hQ;exact hQ _ _ ⟨rfl,k2⟩
def UD{st:Store}{v w:List jT}(hl:v.length+w.length<=1000):Wp (B5 [.tup (v.map dN),.tup (w.map dN)] st) λd st'=>d=.tup ((ae.jQ (v ++ w)).reverse.map dN)/\Ex [] st st':=by refine iO ?_;show Ws (EB [some (.tup (v.map dN)),some (.tup (w.map dN))] st) _ _ _ _;unfold EB;refine gX ?_;k_lt hQ;refine⟨jC (by simp only[Vl];lk),?_⟩;rw[<- VL];refine bp (UB (by rw[Vq];exact hl)) ?_;rintro d st3 ⟨rfl,k3⟩;exact hQ _ _ ⟨rfl,k3⟩
def x4(p:List Int×List Int)(s:jT):jB p s=ae.stM p s:=by
 have hq:∀j,sF p.1 p.2 j=ae.mB j p:=λj=>by
  induction j with
  |zero=>rfl
  |succ j ih=>show _=_;unfold sF ae.mB;rw[ih];rfl
 unfold jB ae.stM;split;rfl;exact hq _
def Mi{p q:ae.aG}(h:cK p=cK q):p=q:=by
 have h:D.tup [.tup (p.1.map D.int),.tup (p.2.map D.int)]=D.tup [.tup (q.1.map D.int),.tup (q.2.map D.int)]:=h;injection h with h;injection h with h1 h2;injection h2 with h2 _;have inj:∀{x y:List Int},D.tup (x.map D.int)=D.tup (y.map D.int)->x=y:=λ{x y} e=>by
  injection e with e;have:=congrArg (List.map inD) e;rw[VT,VT]at this;exact(Xc x).symm.trans (this.trans (Xc y))
 exact Prod.ext (inj h1) (inj h2)
def x5{α:Type}{fs:List α}{g:α->D}{k:Nat}{p:α}(h:fs[k]?=some p):fG (fs.map g) (k:Int)=some (g p):=by have hk:k<fs.length:=(Vm.mp h).1;unfold fG;rw[yp (by rw[Vl];exact hk)];show(fs.map g)[k]?=_;rw[Vr,h];rfl
def UE{fs:List ae.aG}{F:ae.aG}{j:Nat}(nd:fs.Nodup)(hj:fs[j]?=some F):∀i e,i<j->(fs.map cK)[i]?=some e->e≠cK F:=λi e hij he z=>by
 rw[Vr]at he;obtain⟨q,hq,rfl⟩:=VR.mp he;have:=Mi z;subst this;obtain⟨g1,g2⟩:=Vm.mp hq;obtain⟨g3,g4⟩:=Vm.mp hj;exact V3.mp nd i j g1 g3 hij (by rw[g2,g4])
def fz{α:Type}{l:List α}{k:Nat}{d:α}(h:k<l.length):l[k]?=some (l.getD k d):=by rw[Vz,Vn h];rfl
abbrev wD(w:List jT):D:=.tup (w.map dN)
abbrev pJ(p:ae.aG)(w:List jT)(l:Nat×Nat):D:=.tup [cK p,wD w,.int (l.1:Int),.int (l.2:Int)]
abbrev kP(c:ae.CS)(N:Nat):D:=.tup ((List.range N).map λk=>pJ (c.1.getD k ([],[])) (c.2.1.getD k []) (c.2.2.getD k (0,0)))
def Mj{st:Store}{a b n k:Nat}{p:ae.aG}{fs:List ae.aG}{ws:List (List jT)}{s1:jT}(n0:0<n)(hn:n<=20)(hs:s1=(true,1)\/s1=(false,1))(ab:a≠b)(ha:st[a]?=some (.lst (fs.map cK)))(hb:st[b]?=some (.lst (ws.map wD)))(g:ae.GR n p fs ws)(vp:ae.Vf n p)(hk:k<fs.length)(few:fs.length<=100):
  Wp (xU [.ref a,.ref b,.int (k:Int),dN s1] st) λd st'=>d=.int ((ae.bF n fs ws k s1).2.2:Int)/\st'[a]?=some (.lst ((ae.bF n fs ws k s1).1.map cK))/\st'[b]?=some (.lst ((ae.bF n fs ws k s1).2.1.map wD))/\Ex [a,b] st st':=by
 refine iO ?_;show Ws (EC [some (.ref a),some (.ref b),some (.int (k:Int)),some (dN s1),none] st) _ _ _ _;unfold EC;have ek:=fz (d:=(([],[]):ae.aG)) hk;have hkw:k<ws.length:=by rw[g.wl];exact hk
 have ew:=fz (d:=([]:List jT)) hkw;have ps:ae.iY s1:=by rcases hs with rfl|rfl<;>exact⟨λ_=>by decide,by decide⟩
 have gN:=ae.Bp n0 g vp hk hs;have lN:(ae.bF n fs ws k s1).1.length<=101:=by have:=gN.2.2.2.1;lk
 generalize hq:fs.getD k ([],[])=q at ek;generalize hw:ws.getD k []=w at ew;obtain⟨wq,oq⟩:=g.own q (Vv ek);obtain⟨pw,lw,nw,-⟩:=g.wd k w ew;have hat:fG (fs.map cK) (k:Int)=some (cK q):=x5 ek;refine bu (bX ?_);refine cP ?_;intro gK hQ;exists cu ha,hat;refine⟨rfl,?_⟩;have hw1:(D.tup [dN s1])=.tup ([s1].map dN):=rfl;rw[hw1];refine bp (Ut (p:=q) (w:=[s1]) ⟨wq.v.1,wq.v.2⟩ ⋯ (λx hx=>by rw[VE.mp hx];exact ps.1) (show 1<=1000 by decide)) ?_;rintro d t1 ⟨rfl,k1⟩;have e1:kJ q [s1]=ae.stM q s1:=x4 q s1;rw[e1];have HC:=wq.st n0 s1;have eS:cK (ae.stM q s1)=cc (ae.stM q s1).1 (ae.stM q s1).2:=rfl;rw[eS];refine bp (Mg (Mf HC) n0 hn) ?_;rintro d t2 ⟨rfl,k2⟩;have eF:cc (ae.bA n ((ae.stM q s1).1,(ae.stM q s1).2)).1 (ae.bA n ((ae.stM q s1).1,(ae.stM q s1).2)).2=cK (ae.bA n (ae.stM q s1)):=rfl;rw[eF];have E7:=k1.trans k2;have ha2:=E7.keep _ _ ha (by simp);have hb2:=E7.keep _ _ hb (by simp);have pf:∀q:ae.aG,pU 2 (cK q):=λq=>Bo 0 _ _;have hj:(ae.bF n fs ws k s1).1[(ae.bF n fs ws k s1).2.2]?=some (ae.bA n (ae.stM q s1)):=by
  obtain⟨q',h1,h2⟩:=gN.2.2.2.2;rw[ek]at h1;cases h1;exact h2
 have rest:∀ {s3:Store},s3[a]?=some (.lst ((ae.bF n fs ws k s1).1.map cK))->s3[b]?=some (.lst ((ae.bF n fs ws k s1).2.1.map wD))->Ex [a,b] st s3 ->
   Ws ((bE (mC "list" fZ (ag 0) (af (ag 4) ah))) [some (.ref a),some (.ref b),some (.int (k:Int)),some (dN s1),some (cK (ae.bA n (ae.stM q s1)))] s3) (λ_ st1=>D.non=D.int ((ae.bF n fs ws k s1).2.2:Int)/\st1[a]?=some (.lst ((ae.bF n fs ws k s1).1.map cK))/\st1[b]?=some (.lst ((ae.bF n fs ws k s1).2.1.map wD))/\Ex [a,b] st st1) (λ_ _=>False) (λ_ _=>False) (λd st1=>d=D.int ((ae.bF n fs ws k s1).2.2:Int)/\st1[a]?=some (.lst ((ae.bF n fs ws k s1).1.map cK))/\st1[b]?=some (.lst ((ae.bF n fs ws k s1).2.1.map wD))/\Ex [a,b] st st1):=by
  intro s3 uA uB k3;refine gX ?_;k_lt cT;refine⟨pk (by rw[cu uA];rfl),?_⟩;rw[Sy (n:=2) (j:=(ae.bF n fs ws k s1).2.2) (pf _) (cu uA) (λe he=>by obtain⟨q,_,rfl⟩:=Vy.mp he;exact pf q) ∅ (by rw[Vl];lk) (by rw[Vr,hj];rfl) (UE gN.1.nd hj)];exact cT _ _ ⟨rfl,uA,uB,k3⟩
 refine hQ _ _ (bu (kX ?_));clear hQ;k_lt hQ;have UG:bh t2 (.ref a)=some (fs.map cK):=cu ha2;rw[LG (n:=2) (es:=fs.map cK) (pf _) UG (λe he=>by obtain⟨q,_,rfl⟩:=Vy.mp he;exact pf q) ∅];by_cases hm:ae.bA n (ae.stM q s1)∈fs;have hm':cK (ae.bA n (ae.stM q s1))∈fs.map cK:=Vy.mpr ⟨_,hm,rfl⟩;have eR:ae.bF n fs ws k s1=(fs,ws,fs.idxOf (ae.bA n (ae.stM q s1))):=by unfold ae.bF;rw[hq,if_pos hm]
 refine⟨false,by simp[hm'],hQ _ _ ⟨λz=>(nomatch z),λ_=>mF (rest ?_ ?_ E7.any)⟩⟩;rw[eR];exact ha2;rw[eR];exact hb2;have hm':cK (ae.bA n (ae.stM q s1)) ∉ fs.map cK:=λz=>by
  obtain⟨q',h1,h2⟩:=Vy.mp z;exact hm (Mi h2 ▸ h1)
 have eR:ae.bF n fs ws k s1=(fs ++ [ae.bA n (ae.stM q s1)],ws ++ [(ae.jQ (w ++ [s1])).reverse],fs.length):=by unfold ae.bF;rw[hq,hw,if_neg hm]
 refine⟨true,by simp[hm'],hQ _ _ ⟨λ_=>?_,λz=>(nomatch z)⟩⟩;clear hQ;refine bu (qM ?_);refine cP ?_;intro gK hQ;exists j6 ha2;refine⟨pk (by rw[cu ha2];rfl),jC (by rw[Vl];lk),hQ _ _ (qM ?_)⟩;clear hQ;have em:fs.map cK ++ [cK (ae.bA n (ae.stM q s1))]=(ae.bF n fs ws k s1).1.map cK:=by rw[eR,VL];rfl
 rw[em];have uA:(t2.set a (.lst ((ae.bF n fs ws k s1).1.map cK)))[a]?=some (.lst ((ae.bF n fs ws k s1).1.map cK)):=VD (fN ha2);have uB:(t2.set a (.lst ((ae.bF n fs ws k s1).1.map cK)))[b]?=some (.lst (ws.map wD)):=by rw[VI ab];exact hb2
 have k3:Ex [a,b] st (t2.set a (.lst ((ae.bF n fs ws k s1).1.map cK))):=(E7.any).put (by simp);generalize t2.set a (.lst ((ae.bF n fs ws k s1).1.map cK))=s3 at uA uB k3 ⊢;have HX:fG (ws.map wD) (k:Int)=some (.tup (w.map dN)):=x5 (g:=wD) ew;refine cP ?_;intro gK hQ;exists cu uB,HX;refine⟨pk (by rw[cu uB];rfl),rfl,?_⟩;rw[hw1];refine bp (UD (v:=w) (w:=[s1]) (by show _+1<=_;lk)) ?_;rintro d s4 ⟨rfl,k4⟩;have HY:=k4.keep _ _ uA (by simp);have E8:=k4.keep _ _ uB (by simp);exists j6 E8;refine⟨jC (by rw[Vl,g.wl];lk),hQ _ _ (rest ?_ ?_ ((k3.trans k4.any).put (by simp)))⟩;rw[VI (Ne.symm ab)];exact HY;rw[VD (fN E8),eR,VL];rfl
abbrev x6(l:Nat×Nat):D:=.tup [.int (l.1:Int),.int (l.2:Int)]
def UH{st:Store}{p:ae.aG}{n most:Nat}(w0:ae.Wh n p)(n0:0<n)(hn:n<=20)(m1:1<=most)(Vg:most<=60):Wp (B8 [cK p,.int (most:Int)] st) λd st'=>Ex [] st st'/\((∃N,N<=most/\ae.Full n p (ae.ch n p N) N/\(∀j,j<N->j<(ae.ch n p j).1.length)/\d=kP (ae.ch n p N) N)\/∃(i e:Nat),(∀j,j<i->j<(ae.ch n p j).1.length)/\most<(ae.ch n p i).1.length/\d=.ref e/\st'[e]?=some (.exc "TooMany" [("most",.int (most:Int))])):=by
 refine iO ?_;show Ws (ED [some (cK p),some (.int (most:Int)),none,none,none,none,none,none] st) _ _ _ _;unfold ED;refine bu (sv (bX ?_));k_lt hQ;refine bp (Mg (Mf w0) n0 hn) ?_;rintro d s1 ⟨rfl,k1⟩;refine⟨rfl,hQ _ _ (bu (sv (bX ?_)))⟩;clear hQ;k_lt hQ;refine⟨rfl,rfl,hQ _ _ (bu (sv (bX ?_)))⟩;clear hQ;k_lt hQ;refine⟨rfl,hQ _ _ ?_⟩;clear hQ;have eF:cc (ae.bA n (p.1,p.2)).1 (ae.bA n (p.1,p.2)).2=cK (ae.bA n p):=rfl;rw[eF];obtain⟨a,b,c,s2,ea,eb,ec,es,ab,bc,la,ha,hb,hc,kx⟩:∃(a b c:Nat) (s2:Store),s1.length=a/\(s1 ++ [O.lst [cK (ae.bA n p)]]).length=b/\(s1 ++ [O.lst [cK (ae.bA n p)]] ++ [O.lst [D.tup []]]).length=c/\s1 ++ [O.lst [cK (ae.bA n p)]] ++ [O.lst [D.tup []]] ++ [O.lst []]=s2/\a<b/\b<c/\st.length<=a/\s2[a]?=some (.lst ((ae.ch n p 0).1.map cK))/\s2[b]?=some (.lst ((ae.ch n p 0).2.1.map wD))/\s2[c]?=some (.lst ((ae.ch n p 0).2.2.map x6))/\Ex [] st s2 :=
  ⟨_,_,_,_,rfl,rfl,rfl,rfl,by simp,by simp,k1.len,jq (jq iP),jq iP,iP,((k1.app _).app _).app _⟩
 rw[ea,eb,ec,es];refine bu (yQ (λm δ s=>∃(v5 v6 v7:Option D) (j:Nat),δ=[some (cK p),some (.int (most:Int)),some (.ref a),some (.ref b),some (.ref c),v5,v6,v7]/\m+j=61/\j<=most/\(∀i,i<j->i<(ae.ch n p i).1.length)/\s[a]?=some (.lst ((ae.ch n p j).1.map cK))/\s[b]?=some (.lst ((ae.ch n p j).2.1.map wD))/\s[c]?=some (.lst ((ae.ch n p j).2.2.map x6))/\Ex [] st s) 61 ∅ ⟨none,none,none,0,rfl,rfl,VX _,(λi hi=>absurd hi (V6 i)),ha,hb,hc,kx⟩ ?_);rintro m δ s ⟨v5,v6,v7,j,rfl,hm,jm,pr,ha,hb,hc,k⟩;have g:=ae.uy n0 w0 j pr;have n5:=g.ll;have Vh:=g.le;refine cP ?_;intro gK hQ;exists cu ha,cu hc;rw[Vl,Vl,n5];refine hQ _ _ ⟨λz=>bu (kX ?_),λz=>sv (gX ?_)⟩;have z:j<(ae.ch n p j).1.length:=by have:=of_decide_eq_true z;lk
 clear hQ;refine cP ?_;intro gK hQ;exists cu ha;rw[Vl];refine hQ _ _ ⟨λy=>Sl ?_,λy=>sv (mF (bu (sv (bX ?_))))⟩;have y:most<(ae.ch n p j).1.length:=by have:=of_decide_eq_true y;lk
 clear hQ;k_lt hQ;exact hQ _ _ ⟨k.app _,.inr ⟨j,_,pr,y,rfl,iP⟩⟩;have y:(ae.ch n p j).1.length<=most:=by have:=of_decide_eq_false y;lk
 clear hQ;refine cP ?_;intro gK hQ;exists cu hc;rw[Vl,n5];refine hQ _ _ (bu (sv (bX ?_)));clear hQ;k_lt hQ;have es1:D.tup [D.str (Str.ofString "s"),D.int 1]=dN (true,1):=rfl;have UI:D.tup [D.str (Str.ofString "t"),D.int 1]=dN (false,1):=rfl;rw[es1];have r1:=ae.Bp (s:=(true,1)) n0 g.r w0.v (k:=j) z (.inl rfl);have r2:=ae.Bp (s:=(false,1)) n0 r1.1 w0.v (k:=j) (by have:=r1.2.2.1;lk) (.inr rfl);refine bp (Mj (s1:=(true,1)) (k:=j) n0 hn (.inl rfl) ⋯ ha hb g.r w0.v z ⋯) ?_;rintro d s3 ⟨rfl,uA,uB,k3⟩;have hc3:=k3.keep _ _ hc (by simp;lk);refine hQ _ _ (bu (sv (bX ?_)));clear hQ;k_lt hQ;rw[UI];refine bp (Mj (s1:=(false,1)) (k:=j) n0 hn (.inr rfl) ⋯ uA uB r1.1 w0.v (by have:=r1.2.2.1;lk) (by have:=r1.2.2.2.1;lk)) ?_;rintro d s4 ⟨rfl,HY,E8,k4⟩;have hc4:=k4.keep _ _ hc3 (by simp;lk);refine hQ _ _ (sv (qM ?_));clear hQ;refine cP ?_;intro gK hQ;exists j6 hc4;have eS:ae.mX n (ae.ch n p j)=ae.bF n (ae.ch n p j).1 (ae.ch n p j).2.1 j (true,1):=by unfold ae.mX;rw[n5]
 have eT:ae.kE n (ae.ch n p j)=ae.bF n (ae.bF n (ae.ch n p j).1 (ae.ch n p j).2.1 j (true,1)).1 (ae.bF n (ae.ch n p j).1 (ae.ch n p j).2.1 j (true,1)).2.1 j (false,1):=by unfold ae.kE;rw[eS,n5]
 have kd:∀{x y:Store},Ex [] st x->Ex [a,b] x y->Ex [] st y:=λ{x y} h g=>⟨VH h.len g.len,λi o e n=>g.keep i o (h.keep i o e n) (by have:=fN e;simp;lk)⟩;have k5:Ex [] st s4:=kd (kd k k3) k4;refine⟨pk (by rw[cu hc4];rfl),rfl,jC (by rw[Vl];lk),hQ _ _ ⟨m-1,by lk,_,_,_,j+1,rfl,by lk,by lk,λi hi=>?_,?_,?_,?_,k5.loc ⋯⟩⟩;rcases XW i j with h|h
 exact pr i h
 have:i=j:=by lk
 subst this;exact z;rw[VI ⋯];show _=some (O.lst ((ae.kE n (ae.ch n p j)).1.map cK));rw[eT];exact HY;rw[VI ⋯];show _=some (O.lst ((ae.kE n (ae.ch n p j)).2.1.map wD));rw[eT];exact E8;rw[VD (fN hc4)];show _=some (O.lst (((ae.ch n p j).2.2 ++ [((ae.mX n (ae.ch n p j)).2.2,(ae.kE n (ae.ch n p j)).2.2)]).map x6));rw[VL,eT,eS];rfl;have z:¬j<(ae.ch n p j).1.length:=by have:=of_decide_eq_false z;lk
 have hfl:(ae.ch n p j).1.length=j:=by lk
 have F:ae.Full n p (ae.ch n p j) j:={ toGC:=g,fl:=hfl };clear hQ;k_lt hQ;generalize hC:ae.ch n p j=C at ha hb hc g hfl n5;refine Bn (ay 0 j) (λd=>pJ (C.1.getD (inD d).toNat ([],[])) (C.2.1.getD (inD d).toNat []) (C.2.2.getD (inD d).toNat (0,0))) ?_ (by rw[ib];lk) ?_ ?_;refine cP ?_;intro kY cT;exists cu ha;rw[Vl,hfl];exact⟨by lk,cT _ _ ⟨by rw[VB];exact uv _ _,Ex.refl⟩⟩;intro d hd s5 k5;obtain⟨i,hi⟩:=W9 hd;have hil:=fN hi;rw[ib]at hil;rw[wL hil,WT]at hi;cases hi;have hwl:=g.r.wl;have ef:=fz (d:=(([],[]):ae.aG)) (show i<C.1.length by lk);have ew:=fz (d:=([]:List jT)) (show i<C.2.1.length by lk);have el:=fz (d:=((0,0):Nat×Nat)) (show i<C.2.2.length by lk);have a1:fG (C.1.map cK) (i:Int)=some (cK (C.1.getD i ([],[]))):=x5 ef;have a2:fG (C.2.1.map wD) (i:Int)=some (wD (C.2.1.getD i [])):=x5 ew;have a3:fG (C.2.2.map x6) (i:Int)=some (x6 (C.2.2.getD i (0,0))):=x5 el;have g0:∀{l:Nat×Nat} {s:Store} {Q:D->Store->Prop},Wp (aN (x6 l) (.int 0) s) Q↔Q (.int (l.1:Int)) s:=aP;have g1:∀{l:Nat×Nat} {s:Store} {Q:D->Store->Prop},Wp (aN (x6 l) (.int 1) s) Q↔Q (.int (l.2:Int)) s:=aP;have UJ:=k5.keep _ _ ha (by simp);have UK:=k5.keep _ _ hb (by simp);have hc5:=k5.keep _ _ hc (by simp);refine cP ?_;intro kY cT;exists VO,Wl,Ww,Wx,cu UJ,cu UK,cu hc5,a1,a2,a3,g0,g1;exact⟨rfl,cT _ _ ⟨rfl,Ex.refl⟩⟩;intro s5 k5;refine⟨_,pE,hQ _ _ ⟨rfl,(k.trans k5).app _,.inl ⟨j,jm,F,pr,?_⟩⟩⟩;rw[hC];unfold kP
 congr 1
 unfold ay;rw[VT];refine Wa λi _=>?_;show pJ _ _ _=_;simp only[Function.comp,inD,WT,VB]
def Mk{st:Store}{Q:D->Store->Prop}{a:D}{ns:List Int}(h:bh st a=some (ns.map D.int))(hl:ns.length<64):Wp (fV [a] st) Q↔Q (.ref st.length) (st ++ [.lst ((sortI ns).map D.int)]):=by
 have e:fV [a] st=some (.ref st.length,st ++ [.lst ((sortI ns).map D.int)]):=by
  simp only[fV,h,WJ,Hr,if_pos hl]
 rw[e,aP]
def Ml{a b:List Int}(p:a.Perm b):sortI a=sortI b:=by
 have s:∀ns:List Int,(sortI ns).Pairwise (·<=·):=λns=>by
  unfold sortI;refine(Xi (le:=λa b=>decide (a<=b)) ?_ ?_ ns).imp ?_;intro a b c h1 h2;simp at *;lk;intro a b;simp;lk;intro a b h;simpa using h
 have q:∀ns:List Int,(sortI ns).Perm ns:=λns=>by unfold sortI;exact Xz _ _
 exact ae.Kg ((q a).trans (p.trans (q b).symm)) (s a) (s b)
def UL{st:Store}{xs ys:List Int}{Q:D->Store->Prop}:Wp (aN (cc xs ys) (.int 0) st) Q↔Q (.tup (xs.map D.int)) st:=aP
def UM{st:Store}{xs ys:List Int}{Q:D->Store->Prop}:Wp (aN (cc xs ys) (.int 1) st) Q↔Q (.tup (ys.map D.int)) st:=aP
def x8{st:Store}{Q:D->Store->Prop}{p:ae.aG}{w:List jT}{l:Nat×Nat}:Wp (aN (pJ p w l) (.int 2) st) Q↔Q (.int (l.1:Int)) st:=aP
def x9{st:Store}{Q:D->Store->Prop}{p:ae.aG}{w:List jT}{l:Nat×Nat}:Wp (aN (pJ p w l) (.int 3) st) Q↔Q (.int (l.2:Int)) st:=aP
abbrev sG(c:ae.CS)(k:Nat):D:=pJ (c.1.getD k ([],[])) (c.2.1.getD k []) (c.2.2.getD k (0,0))
def CG(c:ae.CS)(N:Nat):kP c N=.tup ((List.range N).map (sG c)):=rfl
def UN{c:ae.CS}{N:Nat}(h:c.2.2.length=N):(List.range N).map (λk=>((c.2.2.getD k (0,0)).1:Int))=ae.sT c:=by unfold ae.sT;refine WO λk=>?_;rw[Vr,Vr];by_cases hk:k<N;rw[Wb hk,Vn (by lk:k<c.2.2.length)];show some ((c.2.2.getD k (0,0)).1:Int)=_;rw[Vz,Vn (by lk:k<c.2.2.length)];rfl;rw[V0 (by simp;lk),V0 ⋯];rfl
def UO{c:ae.CS}{N:Nat}(h:c.2.2.length=N):(List.range N).map (λk=>((c.2.2.getD k (0,0)).2:Int))=ae.tT c:=by unfold ae.tT;refine WO λk=>?_;rw[Vr,Vr];by_cases hk:k<N;rw[Wb hk,Vn (by lk:k<c.2.2.length)];show some ((c.2.2.getD k (0,0)).2:Int)=_;rw[Vz,Vn (by lk:k<c.2.2.length)];rfl;rw[V0 (by simp;lk),V0 ⋯];rfl
def Mm{δ:ai}{st:Store}{c:ae.CS}{N:Nat}{Q:D->Store->Prop}{j:Int}{f:Nat->Int}{fi:ai->Dm Src}(hi:Wp (fi δ st) λS st1=>lD S ((List.range N).map (sG c)) st1/\Ex [] st st1)(hN:N<=60)(hf:∀(k:Nat) (s:Store) (R:D->Store->Prop),R (.int (f k)) s->Wp (aN (sG c k) (.int j) s) R)(hQ:∀s,Ex [] st s->Q (.ref s.length) (s ++ [.lst (((List.range N).map f).map D.int)])):Wp (cw fi 1 [] (hName 0) dY (aE aN (ag 0) (fC (.int j))) δ st) Q:=by
 refine Lw ((List.range N).map (sG c)) (λi y _=>y=.int (f i)) (λ_ _ _ _ h _=>h) hi (by rw[Vl,WE];lk) ?_ ?_;intro i d hd s1 k1;rw[Vr]at hd;obtain⟨k,hk,rfl⟩:=VR.mp hd;have hik:k=i:=by
  have:=(Vm.mp hk);obtain⟨h1,h2⟩:=this;rw[XD]at h2;exact h2.symm
 subst hik;k_lt cT;exact hf _ _ _ (cT _ _ ⟨rfl,Ex.refl⟩);intro ys s1 k1 hl hy;have e:ys=((List.range N).map f).map D.int:=by
  refine WO λi=>?_;rw[Vl,WE]at hl;by_cases hi':i<N;rw[Vr,Vr,Wb hi',Vn ⋯,hy i _ (Vn (by lk:i<ys.length))];rfl;rw[V0 ⋯,V0 (by simp;lk)]
 rw[e];exact hQ _ k1
def UP{st:Store}{n N:Nat}{p:ae.aG}{c:ae.CS}(F:ae.Full n p c N)(hN:N<=60):Wp (Cr [kP c N] st) λd st'=>d=cc (ae.sT c) (ae.tT c)/\Ex [] st st':=by refine iO ?_;show Ws (EO [some (kP c N)] st) _ _ _ _;unfold EO;refine gX ?_;k_lt hQ;refine Mm (c:=c) (N:=N) (f:=λk=>((c.2.2.getD k (0,0)).1:Int)) ?_ hN (λk s R h=>x8.mpr h) λs1 k1=>?_;k_lt hP;exact⟨_,CG c N,hP _ _ ⟨uv _ _,Ex.refl⟩⟩;rw[UN F.ll];w_how;refine Mm (c:=c) (N:=N) (f:=λk=>((c.2.2.getD k (0,0)).2:Int)) ?_ hN (λk s R h=>x9.mpr h) λs2 k2=>?_;k_lt hP;exact⟨_,CG c N,hP _ _ ⟨uv _ _,Ex.refl⟩⟩;rw[UO F.ll];w_how;exact⟨rfl,hQ _ _ ⟨rfl,(k1.trans (Ex.b6 _)).trans (k2.trans (Ex.b6 _))⟩⟩
def UQ{st:Store}{n N:Nat}{p:ae.aG}{c:ae.CS}(n0:0<n)(F:ae.Full n p c N)(hN:N<=60):Wp (Ct [kP c N] st) λd st'=>d=cc (ae.sT c) (ae.yT c)/\Ex [] st st':=by have tt:=F.Bq n0;refine iO ?_;show Ws (ER [some (kP c N),none] st) _ _ _ _;unfold ER;refine bu (bX ?_);k_lt hQ;refine bp (UP F hN) ?_;rintro d s1 ⟨rfl,k1⟩;refine hQ _ _ (gX ?_);clear hQ;refine cP ?_;intro gK hQ;exists UL,UM;refine bp (y2 (xs:=ae.tT c) (ys:=ae.tT c) (λx hx=>by rw[tt.length];exact tt.bound hx) (by rw[tt.length];lk)) ?_;rintro d s2 ⟨rfl,k2⟩;exact⟨rfl,hQ _ _ ⟨rfl,k1.trans k2⟩⟩
abbrev tI(l:List Int):D:=.tup (l.map D.int)
def ya{l m:List Int}(h:tI l=tI m):l=m:=by unfold tI at h;injection h with h;exact List.map_inj_right (λa b e=>by injection e) |>.mp h
def uC(l:List Int):pU 1 (tI l):=Hy 0 l
abbrev kd(c:ae.CS)(N:Nat)(x:Nat):List Int:=sortI (ae.bf (ae.sT c) (ae.yT c) (x:Int) N)
abbrev g9(f:Nat->List Int):Nat->List (List Int)
 |0=>[]
 |i+1=>if f i∈g9 f i then g9 f i else g9 f i ++ [f i]
def uD(f:Nat->List Int)(i:Nat):g9 f (i+1)=if f i∈g9 f i then g9 f i else g9 f i ++ [f i]:=rfl
def CH(f:Nat->List Int):∀i,(g9 f i).length<=i
 |0=>Vp _
 |i+1=>by
  unfold g9;have:=CH f i;split;lk;rw[Vq];show _+1<=_;lk
def UR{st:Store}{n N:Nat}{p:ae.aG}{c:ae.CS}(n0:0<n)(F:ae.Full n p c N)(hN:N<=60):Wp (Cv [kP c N] st) λd st'=>d=.tup ((g9 (kd c N) N).map tI)/\Ex [] st st':=by
 have ts:=F.xO n0;have ty:=F.yU n0;refine iO ?_;show Ws (ES [some (kP c N),none,none,none,none] st) _ _ _ _;unfold ES;refine bu (bX ?_);k_lt hQ;refine bp (UQ n0 F hN) ?_;rintro d s1 ⟨rfl,k1⟩;refine hQ _ _ (bu (bX ?_));clear hQ;k_lt hQ;refine⟨rfl,hQ _ _ (bu (pj (ay 0 N) (λi δ s=>∃v3 v4:Option D,δ=[some (kP c N),some (cc (ae.sT c) (ae.yT c)),some (.ref s1.length),v3,v4]/\s[s1.length]?=some (.lst ((g9 (kd c N) i).map tI))/\Ex [] st s) ?_ (by rw[ib];lk) ?_ ?_))⟩;clear hQ;refine cP ?_;intro gK hQ;exists CG;refine⟨by rw[Vl,WE];lk,hQ _ _ ⟨by rw[Vl,WE,VB],_,_,rfl,iP,k1.app _⟩⟩;clear hQ;rintro k d δ s hd ⟨v3,v4,rfl,hl,kk⟩;have hk:=fN hd;rw[ib]at hk;rw[wL hk,WT]at hd;cases hd;k_lt hQ;refine hQ _ _ (bu (bX ?_));clear hQ;k_lt hQ;refine bp (L7 (s:=(k:Int)) ts ty ⋯ ⋯ ⋯) ?_;rintro d s2 ⟨rfl,k2⟩;have sD:=ae.An ts ty (show(0:Int)<=(k:Int) by lk) (show(k:Int)<(N:Int) by lk) N;rw[Mk (ns:=ae.bf (ae.sT c) (ae.yT c) (k:Int) N) Lj ⋯];refine⟨_,(show bh _ (.ref _)=_ from pE),hQ _ _ (kX ?_)⟩;clear hQ;have E9:Ex [] s (s2 ++ [O.lst ((kd c N k).map D.int)]):=k2.app _;have hl3:=E9.keep _ _ hl (by simp);show Wp (aJ _ [some (kP c N),some (cc (ae.sT c) (ae.yT c)),some (.ref s1.length),some (.int (k:Int)),some (tI (kd c N k))] (s2 ++ [O.lst ((kd c N k).map D.int)])) _;generalize (s2 ++ [O.lst ((kd c N k).map D.int)])=s3 at E9 hl3 ⊢;k_lt hQ;rw[LG (n:=1) (es:=(g9 (kd c N) k).map tI) (uC _) (show bh _ (.ref _)=_ from cu hl3) (λe he=>by obtain⟨q,_,rfl⟩:=Vy.mp he;exact uC q) ∅]
 have hmem:tI (kd c N k)∈(g9 (kd c N) k).map tI↔kd c N k∈g9 (kd c N) k:=⟨λh=>by
  obtain⟨q,hq,e⟩:=Vy.mp h
  rw[<- ya e];exact hq,λh=>List.mem_map_of_mem h⟩
 have hlen:=CH (kd c N) k;refine⟨_,rfl,hQ _ _ ⟨λz=>qM ?_,λz=>mF ⟨_,_,rfl,?_,kk.trans E9⟩⟩⟩;have z:¬ kd c N k∈g9 (kd c N) k:=λw=>by
  have:=hmem.mpr w;simp[this]at z
 clear hQ;refine cP ?_;intro gK hQ;exists j6 hl3;refine⟨pk (by rw[cu hl3];rfl),jC (by rw[Vl];lk),hQ _ _ ⟨_,_,rfl,?_,(kk.trans E9).loc (k1.len)⟩⟩;rw[VD (fN hl3)];rw[uD,if_neg z,VL];rfl;have z:kd c N k∈g9 (kd c N) k:=by
  refine Classical.byContradiction λw=>?_;have:¬tI (kd c N k)∈(g9 (kd c N) k).map tI:=λu=>w (hmem.mp u);simp[this]at z
 rw[uD,if_pos z];exact hl3;clear hQ;rintro δ s ⟨v3,v4,rfl,hl,kk⟩;rw[ib]at hl;refine gX ?_;refine cP ?_;intro gK hQ;exists cu hl;exact hQ _ _ ⟨rfl,kk⟩
def yb(f:Nat->List Int):∀(N:Nat) (k:List Int),k∈g9 f N↔∃i,i<N/\k=f i
 |0,k=>⟨λh=>(nomatch h),λ⟨i,h,_⟩=>absurd h (V6 _)⟩
 |N+1,k=>by
  rw[uD];constructor
  ·intro h
   have:k∈g9 f N\/k=f N:=by
    split at h
    ·exact .inl h
    ·rcases VQ.mp h with h|h
     ·exact .inl h
     ·exact .inr (VE.mp h)
   rcases this with h|rfl
   ·obtain⟨i,hi,e⟩:=(yb f N k).mp h
    exact⟨i,by lk,e⟩
   ·exact⟨N,by lk,rfl⟩
  ·rintro⟨i,hi,rfl⟩
   by_cases hi':i<N
   ·have:=(yb f N (f i)).mpr ⟨i,hi',rfl⟩
    split
    ·exact this
    ·exact V1 _ this
   ·have e:i=N:=by lk
    subst e;split
    ·next h=>exact h
    ·exact VP _ (by simp)
def US(ns:List Int):(sortI ns).Pairwise (·<=·):=by unfold sortI;refine(Xi (le:=λa b=>decide (a<=b)) ?_ ?_ ns).imp ?_;intro a b c h1 h2;simp at *;lk;intro a b;simp;lk;intro a b h;simpa using h
def HZ(ns:List Int):(sortI ns).Perm ns:=by unfold sortI;exact Xz _ _
section
variable {n N:Nat}{p:ae.aG}{c:ae.CS}
def Ic{x:Nat}{y:Int}:y∈kd c N x↔y∈ae.bf (ae.sT c) (ae.yT c) (x:Int) N:=by unfold kd;exact(HZ _).mem_iff
def Fb(x:Nat):(x:Int)∈kd c N x:=Ic.mpr (ae.D9 _ _ _ _)
def uE(n0:0<n)(F:ae.Full n p c N){x y:Nat}(hx:x<N)(hy:y<N)(h:(y:Int)∈kd c N x):kd c N y=kd c N x:=by obtain⟨q,a⟩:=ae.At.ex F (show(0:Int)<=(x:Int) by lk) (show(x:Int)<(N:Int) by lk);obtain⟨r,b⟩:=ae.At.ex F (show(0:Int)<=(y:Int) by lk) (show(y:Int)<(N:Int) by lk);have k:=(ae.Bs n0 F a b).mp (Ic.mp h);have hs:=ae.SH n0 F a b k;unfold kd;refine Ml ((List.perm_ext_iff_of_nodup (ae.rm _ _ _ _) (ae.rm _ _ _ _)).mpr λz=>(hs z).symm)
def Mp(n0:0<n)(F:ae.Full n p c N){x:Nat}(hx:x<N){y:Int}(h:y∈kd c N x):0<=y/\y<(N:Int):=ae.nU (F.xO n0) (F.yU n0) ⋯ ⋯ N y (Ic.mp h)
end
def Mq{α β:Type}{f:α->Option β}:∀{is:List α} {xss:List β},is.length=xss.length->(∀(i:Nat) (a:α) (x:β),is[i]?=some a->xss[i]?=some x->f a=some x)->bw f is=some xss
 |[],[],_,_=>rfl
 |[],_ :: _,h,_=>by cases h
 |_ :: _,[],h,_=>by cases h
 |a :: is,x :: xss,h,hf=>by
  have h1:=hf 0 a x rfl rfl;have h2:=Mq (is:=is) (xss:=xss) (Nat.succ.inj h) λi b y e1 e2=>hf (i+1) b y e1 e2;simp only[bw,h1,h2]
abbrev hd0(r:List Int):Int:=r.headD 0
def uF{l:List Int}(h:l.Pairwise (·<=·)){x:Int}(hx:x∈l):hd0 l<=x/\hd0 l∈l:=by
 cases l with
 |nil=>cases hx
 |cons y l =>
  refine⟨?_,Vw⟩;rcases VJ.mp hx with e|h'
  rw[e];exact Int.le_refl _;exact(XC.mp h).1 x h'
section
variable {n N:Nat}{p:ae.aG}{c:ae.CS}
def uG(x:Nat):(kd c N x).Pairwise (·<=·):=by unfold kd;exact US _
def Mr(n0:0<n)(F:ae.Full n p c N):∀M:Nat,M<=N->(g9 (kd c N) M).Pairwise λa b=>hd0 a<hd0 b
 |0,_=>.nil
 |M+1,hM=>by
  have ih:=Mr n0 F M ⋯;rw[uD];split
  ·exact ih
  ·next hno =>
   refine List.pairwise_append.mpr ⟨ih,List.pairwise_singleton _ _,λa ha b hb=>?_⟩;rw[VE.mp hb];obtain⟨i,hi,rfl⟩:=(yb _ _ _).mp ha;have h1:=uF (uG (c:=c) (N:=N) i) (Fb i);obtain⟨h2,h3⟩:=uF (uG (c:=c) (N:=N) M) (Fb M);obtain⟨z0,z1⟩:=Mp n0 F (show M<N by lk) h3;obtain⟨z,hz⟩:∃z:Nat,hd0 (kd c N M)=(z:Int):=⟨(hd0 (kd c N M)).toNat,by lk⟩;by_cases UT:z<M
   ·refine absurd ((yb _ _ _).mpr ⟨z,UT,?_⟩) hno
    exact(uE n0 F (show M<N by lk) (show z<N by lk) (by rw[<- hz];exact h3)).symm
   ·lk
def UU:bw Eb ((g9 (kd c N) N).map tI)=some ((g9 (kd c N) N).map hd0):=Mq (by rw[Vl,Vl]) λi a x h1 h2=>by
 rw[Vr]at h1 h2;obtain⟨k,hk,rfl⟩:=VR.mp h1;rw[hk]at h2;cases h2;obtain⟨j,_,rfl⟩:=(yb _ _ _).mp (Vv hk);have:=Fb (c:=c) (N:=N) j;cases h:kd c N j with
 |nil=>rw[h]at this;cases this
 |cons y r=>rfl
end
def UW{st:Store}{f:Nat}(hf:bB st f):Wp (Cn [.ref f] st) λd st'=>∃(n:Nat) (p:ae.aG),d=cK p/\ae.Wh n p/\0<n/\n<=6/\Ex [f] st st':=by
 refine iO ?_;show Ws (EM [some (.ref f),none] st) _ _ _ _;unfold EM;refine bu (bX ?_);k_lt hQ;refine⟨rfl,?_⟩;have f1:bB (st ++ [O.lst [D.int 2,D.int 3,D.int 4,D.int 3,D.int 4,D.int 5,D.int 4,D.int 6]]) f:=hf.keep (Ex.b6 _);have i1:(st ++ [O.lst [D.int 2,D.int 3,D.int 4,D.int 3,D.int 4,D.int 5,D.int 4,D.int 6]])[st.length]?=some (.lst [D.int 2,D.int 3,D.int 4,D.int 3,D.int 4,D.int 5,D.int 4,D.int 6]):=iP;have e1:Ex [f] st (st ++ [O.lst [D.int 2,D.int 3,D.int 4,D.int 3,D.int 4,D.int 5,D.int 4,D.int 6]]):=Ex.b6 _;have lf:=hf.lt;have hne:st.length≠f:=by lk
 generalize st ++ [O.lst [D.int 2,D.int 3,D.int 4,D.int 3,D.int 4,D.int 5,D.int 4,D.int 6]]=t1 at f1 i1 e1 ⊢;generalize st.length=r at i1 hne ⊢;refine bp (EW (n:=8) f1 ∅ ∅) ?_;rintro d t2 ⟨k,rfl,k0,k1,f2,e2⟩;have i2:=cu (e2.keep _ _ i1 (by simp;exact hne));exists i2;obtain⟨n,hx,n0,n6⟩:∃n:Nat,fG [D.int 2,D.int 3,D.int 4,D.int 3,D.int 4,D.int 5,D.int 4,D.int 6] k=some (.int (n:Int))/\0<n/\n<=6:=by
  rcases(show k=0\/k=1\/k=2\/k=3\/k=4\/k=5\/k=6\/k=7 by lk)with rfl|rfl|rfl|rfl|rfl|rfl|rfl|rfl
  exact⟨2,rfl,by decide,by decide⟩;exact⟨3,rfl,by decide,by decide⟩;exact⟨4,rfl,by decide,by decide⟩;exact⟨3,rfl,by decide,by decide⟩;exact⟨4,rfl,by decide,by decide⟩;exact⟨5,rfl,by decide,by decide⟩;exact⟨4,rfl,by decide,by decide⟩;exact⟨6,rfl,by decide,by decide⟩
 refine⟨_,hx,hQ _ _ (gX ?_)⟩;clear hQ;k_lt hQ;refine bp (TX (n:=n) f2 ⋯ ⋯) ?_;rintro d t4 ⟨xs,ys,rfl,fl,f4,e4⟩;refine bp (HJ (n:=n) f4 ⋯) ?_;rintro d t5 ⟨g,rfl,tg,f5,e5⟩;refine bp (T9 fl.1 fl.2.1 tg ⋯) ?_;rintro d t6 ⟨rfl,e6⟩;have f6:=ae.oS fl tg n0;exact hQ _ _ ⟨n,(ae.anew xs g,ae.anew ys g),rfl,⟨⟨f6.1,f6.2.1⟩,f6.2.2⟩,n0,n6,(((e1.trans e2).trans e4).trans e5).trans e6.any⟩
abbrev Ie(n:Nat)(p:ae.aG)(N:Nat):Prop:=N<=60/\ae.Full n p (ae.ch n p N) N
def UX{n:Nat}{p:ae.aG}{st:Store}(w0:ae.Wh n p)(n0:0<n)(hn:n<=20):Wp (Ca [cK p] st) λd st'=>Ex [] st st'/\(d=.non\/∃N,Ie n p N/\d=kP (ae.ch n p N) N):=by
 refine iO ?_;show Ws (EE [some (cK p),none] st) _ _ _ _;unfold EE;refine bu (bX ?_);k_lt hQ;refine hQ _ _ (bu (Sv (Sj ?_)));clear hQ;k_lt hQ;refine hQ _ _ ?_;clear hQ;rw[show(D.int 60)=.int ((60:Nat):Int)from rfl];refine bp (UH w0 n0 hn (most:=60) ∅ ∅) ?_;rintro d s1 ⟨k1,⟨N,h1,h2,h3,rfl⟩|⟨i,e,h1,h2,rfl,h3⟩⟩;refine⟨λz=>(nomatch z),λ_=>gX ?_⟩;k_lt hQ;exact hQ _ _ ⟨k1,.inr ⟨N,⟨h1,h2⟩,rfl⟩⟩;have hr:aT (.ref e) s1=true:=by simp[aT,h3]
 refine⟨λ_=>⟨λz=>?_,λ_=>⟨?_,?_⟩⟩,λz=>?_⟩;rw[hr]at z;cases z;simp[catches,h3,xN];refine bX ?_;k_lt hQ;refine hQ _ _ (gX ?_);clear hQ;k_lt hQ;exact hQ _ _ ⟨k1,.inl rfl⟩;rw[hr]at z;cases z
abbrev cI(ks:List Nat):List Int:=ks.map λk:Nat=>(k:Int)
def uH{ks:List Nat}{k:Nat}:(k:Int)∈cI ks↔k∈ks:=⟨λh=>by
 obtain⟨j,hj,e⟩:=Vy.mp h
 rw[<- show j=k from Int.ofNat.inj e];exact hj,λh=>List.mem_map_of_mem h⟩
def sH(ks:List Nat):(cI ks).length=ks.length:=Vl ..
def uI{ks:List Nat}(h:ks.Nodup):(cI ks).Nodup:=W2.mpr (h.imp λh e=>h (Int.ofNat.inj e))
abbrev sK(c:ae.CS)(k:Nat):Nat:=(c.2.2.getD k (0,0)).1
abbrev tK(c:ae.CS)(k:Nat):Nat:=(c.2.2.getD k (0,0)).2
abbrev nC(i j:Nat):List Nat:=if i=j then[i]else if i<j then[i,j]else[j,i]
def Ig{i j x:Nat}:x∈nC i j↔x=i\/x=j:=by
 unfold nC;split
 ·next e=>subst e;simp
 ·split
  ·simp
  ·simp;exact Or.comm
def yc(i j:Nat):(nC i j).Nodup:=by
 unfold nC;split
 ·simp
 ·next e =>
  split
  ·simp;exact e
  ·simp;exactλz=>e z.symm
def Ms(i j:Nat):(nC i j).length<=2:=by unfold nC;split;exact Wc 1;split<;>exact Vp 2
def Mt(i j:Nat):jX i j=cI (nC i j):=by unfold jX nC;split;rfl;split<;>rfl
section
variable {n N:Nat}{p:ae.aG}{c:ae.CS}
def CI(F:ae.Full n p c N){k:Nat}(hk:k<N):sK c k<N/\tK c k<N:=by have el:=fz (d:=((0,0):Nat×Nat)) (show k<c.2.2.length by rw[F.ll];exact hk);obtain⟨_,_,h1,h2⟩:=F.ld k _ el;have l1:=(Vm.mp h1).1;have l2:=(Vm.mp h2).1;rw[F.fl]at l1 l2;exact⟨l1,l2⟩
def Mu{l:List (Nat×Nat)}{g:Nat×Nat->Nat}{k:Nat}(h:k<l.length):ae.app (l.map λl=>(g l:Int)) (k:Int)=(g (l.getD k (0,0)):Int):=by
 have e:=fz (d:=((0,0):Nat×Nat)) h;have h2:=rB (xs:=l.map λl=>(g l:Int)) (i:=(k:Int)) ⋯ (by rw[Vl];lk);have h3:fG ((l.map λl=>(g l:Int)).map D.int) (k:Int)=some (D.int (g (l.getD k (0,0)):Int)):=by
  rw[VT];exact x5 (g:=D.int ∘ λl=>(g l:Int)) e
 rw[h3]at h2;injection h2 with h2;injection h2 with h2;exact h2.symm
def uJ(F:ae.Full n p c N){k:Nat}(hk:k<N):ae.app (ae.sT c) (k:Int)=(sK c k:Int):=Mu (g:=(·.1)) (by rw[F.ll];exact hk)
def uK(F:ae.Full n p c N){k:Nat}(hk:k<N):ae.app (ae.tT c) (k:Int)=(tK c k:Int):=Mu (g:=(·.2)) (by rw[F.ll];exact hk)
def uL(n0:0<n)(F:ae.Full n p c N){k:Nat}(hk:k<N):ae.app (ae.yT c) (k:Int)=(tK c (tK c k):Int):=by unfold ae.yT;rw[ae.lq ⋯ (by rw[(F.Bq n0).length];lk),uK F hk,uK F (CI F hk).2]
structure Wk(c:ae.CS)(N b a:Nat)(ks:List Nat):Prop where
 nd:ks.Nodup
 own:b∈ks
 lt:∀k∈ks,k<N/\(k:Int)∈ae.bf (ae.sT c) (ae.yT c) (b:Int) N
 yd:∀j k,j<a->ks[j]?=some k->sK c k∈ks/\tK c (tK c k)∈ks
def Wk.len{b a:Nat}{ks:List Nat}(w:Wk c N b a ks):ks.length<=N:=by
 have:=ae.vV (uI w.nd) (ys:=ae.upto N) λx hx=>ae.kN.mpr (by
  obtain⟨k,hk,rfl⟩:=Vy.mp hx;have:=(w.lt k hk).1
  lk)
 rw[ae.oG]at this
 rwa [sH]at this
def Wk.step(n0:0<n)(F:ae.Full n p c N){b a k:Nat}{ks:List Nat}(hb:b<N)(w:Wk c N b a ks)(hk:ks[a]?=some k):Wk c N b (a+1) (ks ++ (nC (sK c k) (tK c (tK c k))).filter λx=>!ks.contains x):=by
 have hkm:=Vv hk;obtain⟨h1,h2⟩:=w.lt k hkm;have cl:=ae.Ap (F.xO n0) (F.yU n0) (s:=(b:Int)) ⋯ ⋯ _ h2;rw[uJ F h1,uL n0 F h1]at cl;obtain⟨l1,l2⟩:=CI F h1;obtain⟨_,l3⟩:=CI F l2;have Mv:∀x,x∈nC (sK c k) (tK c (tK c k))->x∈ks ++ (nC (sK c k) (tK c (tK c k))).filter λx=>!ks.contains x:=λx hx=>by
  by_cases hm:x∈ks;exact V1 _ hm;exact VP _ (WD.mpr ⟨hx,by simp[hm]⟩)
 refine⟨?_,V1 _ w.own,λx hx=>?_,λj x hj hx=>?_⟩;rw[W3];refine⟨w.nd,(yc _ _).sublist List.filter_sublist,λx hx y hy e=>?_⟩;have:=(WD.mp hy).2;rw[<- e]at this;simp[hx]at this;rcases VQ.mp hx with h|h
 exact w.lt x h;rcases Ig.mp (WD.mp h).1 with rfl|rfl
 exact⟨l1,cl.1⟩;exact⟨l3,cl.2⟩;have ha:=(Vm.mp hk).1;rw[VC ⋯]at hx;by_cases e:j=a;subst e;rw[hk]at hx;cases hx;exact⟨Mv _ (Ig.mpr (.inl rfl)),Mv _ (Ig.mpr (.inr rfl))⟩;obtain⟨g1,g2⟩:=w.yd j x ⋯ hx;exact⟨V1 _ g1,V1 _ g2⟩
def Wk.done(n0:0<n)(F:ae.Full n p c N){b a:Nat}{ks:List Nat}(w:Wk c N b a ks)(ha:ks.length<=a):sortI (cI ks)=kd c N b:=by refine Ml ((List.perm_ext_iff_of_nodup (uI w.nd) (ae.rm _ _ _ _)).mpr λz=>⟨λh=>?_,λh=>?_⟩);obtain⟨k,hk,rfl⟩:=Vy.mp h;exact(w.lt k hk).2;refine ae.HD (P:=λy=>y∈cI ks) (uH.mpr w.own) (λy hy=>?_) (λy hy=>?_) N z h;obtain⟨k,hk,rfl⟩:=Vy.mp hy;obtain⟨j,hj⟩:=Xs.mp hk;rw[uJ F (w.lt k hk).1];exact uH.mpr (w.yd j k (by have:=(Vm.mp hj).1;lk) hj).1;obtain⟨k,hk,rfl⟩:=Vy.mp hy;obtain⟨j,hj⟩:=Xs.mp hk;rw[uL n0 F (w.lt k hk).1];exact uH.mpr (w.yd j k (by have:=(Vm.mp hj).1;lk) hj).2
end
def uM{N k:Nat}(h:k<N){c:ae.CS}:fG ((List.range N).map (sG c)) (k:Int)=some (sG c k):=x5 (Wb h)
def Ih{st:Store}{Q:D->Store->Prop}{c:ae.CS}{k:Nat}:Wp (aN (sG c k) (.int 2) st) Q↔Q (.int (sK c k:Int)) st:=aP
def Ii{st:Store}{Q:D->Store->Prop}{c:ae.CS}{k:Nat}:Wp (aN (sG c k) (.int 3) st) Q↔Q (.int (tK c k:Int)) st:=aP
def uN{st:Store}{Q:D->Store->Prop}{N k:Nat}(h:k<N){c:ae.CS}:Wp (aN (kP c N) (.int (k:Int)) st) Q↔Q (sG c k) st:=by rw[CG,Le];constructor;rintro⟨d,e,q⟩;rw[uM h]at e;cases e;exact q;exactλq=>⟨_,uM h,q⟩
def UY{st:Store}{n N:Nat}{p:ae.aG}{c:ae.CS}(n0:0<n)(F:ae.Full n p c N)(hN:N<=60):Wp (Cz [kP c N] st) λd st'=>d=.tup ((g9 (kd c N) N).map tI)/\Ex [] st st':=by
 refine iO ?_;show Ws (ET [some (kP c N),none,none,none,none,none,none] st) _ _ _ _;unfold ET;refine bu (Hq ?_);k_lt hQ;refine⟨rfl,rfl,hQ _ _ ⟨_,_,rfl,?_⟩⟩;clear hQ;obtain⟨r,q,s0,er,eq,es,hr0,UZ,Mw,hst,k0⟩:∃(r q:Nat) (s0:Store),st.length=r/\(st ++ [O.lst []]).length=q/\st ++ [O.lst []] ++ [O.lst []]=s0/\s0[r]?=some (.lst ((g9 (kd c N) 0).map tI))/\s0[q]?=some (.lst ((cI []).map D.int))/\r≠q/\(st.length<=r/\st.length<=q)/\Ex [] st s0:=⟨_,_,_,rfl,rfl,rfl,jq iP,iP,by rw[Vq];show st.length≠st.length+1;lk,⟨Vp _,by rw[Vq];lk⟩,(Ex.b6 _).app _⟩;rw[er,eq,es];clear er eq es;refine bu (pj (ay 0 N) (λi δ s=>∃(v3 v4 v5 v6:Option D) (ms:List Nat),δ=[some (kP c N),some (.ref r),some (.ref q),v3,v4,v5,v6]/\s[r]?=some (.lst ((g9 (kd c N) i).map tI))/\s[q]?=some (.lst ((cI ms).map D.int))/\(∀x:Nat,x∈ms↔∃k∈g9 (kd c N) i,(x:Int)∈k)/\ms.length<=i*60/\Ex [] st s) ?_ (by rw[ib];lk) ?_ ?_);refine cP ?_;intro gK hQ;exists CG;exact⟨by rw[Vl,WE];lk,hQ _ _ ⟨by rw[Vl,WE,VB],_,_,_,_,[],rfl,hr0,UZ,λx=>⟨λh=>(nomatch h),λ⟨_,h,_⟩=>(nomatch h)⟩,VX _,k0⟩⟩;rintro i d δ s hd ⟨v3,v4,v5,v6,ms,rfl,hr,hq,hms,U0,kk⟩;have hi:=fN hd;rw[ib]at hi;rw[wL hi,WT]at hd;cases hd;k_lt hQ;refine hQ _ _ (kX ?_);clear hQ;refine cP ?_;intro gK hQ;exists Bm (st:=s) (c:=.ref q) (ns:=cI ms) (cu hq);have hnew:i∈ms↔kd c N i∈g9 (kd c N) i:=by
  rw[hms];constructor;rintro⟨k,hk,hx⟩;obtain⟨j,hj,rfl⟩:=(yb _ _ _).mp hk;rw[uE n0 F ⋯ hi hx];exact hk;exactλh=>⟨_,h,Fb i⟩
 refine hQ _ _ ⟨λz=>?_,λz=>mF ⟨_,_,_,_,ms,rfl,?_,hq,?_,by lk,kk⟩⟩;have hno:¬ i∈ms:=λh=>by
  rw[V2.mpr (uH.mpr h)]at z;cases z
 have CJ:=λh=>hno (hnew.mpr h);refine bu (bX ?_);clear hQ;k_lt hQ;refine⟨rfl,hQ _ _ (bu (bX ?_))⟩;clear hQ;k_lt hQ;refine hQ _ _ (bu ?_);clear hQ;have hrl:=fN hr;have Vi:=fN hq;obtain⟨g,s1,eg,es,hg,hr1,hq1,hgr,Mx,hgs,k1⟩:∃(g:Nat) (s1:Store),s.length=g/\s ++ [O.lst [D.int (i:Int)]]=s1/\s1[g]?=some (.lst ((cI [i]).map D.int))/\s1[r]?=some (.lst ((g9 (kd c N) i).map tI))/\s1[q]?=some (.lst ((cI ms).map D.int))/\g≠r/\g≠q/\st.length<=g/\Ex [] st s1:=⟨_,_,rfl,rfl,iP,jq hr,jq hq,by lk,by lk,kk.len,kk.app _⟩;rw[eg,es];clear eg es;have U1:=ae.D9 (ae.sT c) (ae.yT c) (i:Int) N;refine yQ (λm δ s=>∃(a:Nat) (v6:Option D) (ks:List Nat),m=N-a/\δ=[some (kP c N),some (.ref r),some (.ref q),some (.int (i:Int)),some (.ref g),some (.int (a:Int)),v6]/\s[g]?=some (.lst ((cI ks).map D.int))/\s[r]?=some (.lst ((g9 (kd c N) i).map tI))/\s[q]?=some (.lst ((cI ms).map D.int))/\Wk c N i a ks/\a<=ks.length/\Ex [] st s) N (Wm hN ∅) ⟨0,_,[i],rfl,rfl,hg,hr1,hq1,⟨by simp,by simp,λk hk=>by rw[VE.mp hk];exact⟨hi,U1⟩,λj _ h=>absurd h (V6 _)⟩,VX _,k1⟩ ?_;rintro m δ s2 ⟨a,v6,ks,rfl,rfl,qv,hr2,hq2,wk,Vj,k2⟩;have hlen:=wk.len;refine cP ?_;intro gK hQ;exists cu qv;refine hQ _ _ ⟨λhlt=>?_,λhlt=>?_⟩;clear hQ;have hlt:=of_decide_eq_true hlt;rw[Vl,sH]at hlt;have hal:a<ks.length:=by lk
 obtain⟨k,hk⟩:∃k,ks[a]?=some k:=⟨_,Vn hal⟩;obtain⟨hkN,_⟩:=wk.lt k (Vv hk);obtain⟨l1,l2⟩:=CI F hkN;obtain⟨_,l3⟩:=CI F l2;have hat:fG ((cI ks).map D.int) (a:Int)=some (.int (k:Int)):=yl (by rw[Vr,cI,Vr,hk];rfl);have Mz:=wk.step n0 F hi hk;refine bu (bX ?_);refine cP ?_;intro gK hQ;exists cu qv,hat,uN hkN,Ih,Ii,uN l2;refine⟨rfl,hQ _ _ (bu (qM ?_))⟩;clear hQ;obtain⟨f,s3,ef,es,hf,pH,qV,Fc,k3⟩:∃(f:Nat) (s3:Store),s2.length=f/\s2 ++ [O.lst [D.int (sK c k:Int),D.int (tK c (tK c k):Int)]]=s3/\s3[f]?=some (.lst [.int (sK c k:Int),.int (tK c (tK c k):Int)])/\s3[g]?=some (.lst ((cI ks).map D.int))/\s3[r]?=some (.lst ((g9 (kd c N) i).map tI))/\s3[q]?=some (.lst ((cI ms).map D.int))/\Ex [] st s3:=⟨_,_,rfl,rfl,iP,jq qv,jq hr2,jq hq2,k2.app _⟩;rw[ef,es];clear ef es;k_lt hQ;refine⟨pk (by rw[cu pH];rfl),?_⟩;refine LJ ((jX (sK c k) (tK c (tK c k))).map D.int) (λd=>!(cI ks).contains (inD d)) (λd=>d) ?_ ?_ ?_ ?_ ?_;k_lt hP;refine SN ?_;w_how;refine⟨_,_,hf,by lk,by lk,?_⟩;exact hP _ _ ⟨Lr pE,Ex.b6 _⟩;rw[Vl,Mt,sH];have:=Ms (sK c k) (tK c (tK c k));lk;intro d hd s4 k4;obtain⟨x,_,rfl⟩:=Vy.mp hd;have pI:=k4.keep _ _ pH (by simp);refine cP ?_;intro U2 hP;exists VO,Wl,Ww,Wx,Bm (st:=s4) (c:=.ref g) (ns:=cI ks) (cu pI);exact hP _ _ ⟨rfl,Ex.refl⟩;intro d hd _ s4 k4;k_lt hP;exact hP _ _ ⟨rfl,Ex.refl⟩;intro s4 k4;have el:(((jX (sK c k) (tK c (tK c k))).map D.int).filter λd=>!(cI ks).contains (inD d)).map (λd=>d)=(cI ((nC (sK c k) (tK c (tK c k))).filter λx=>!ks.contains x)).map D.int:=by
  rw[List.map_id',Mt];unfold cI;rw[VT,VT,List.filter_map];refine congrArg _ (List.filter_congr λx _=>?_);show(!(List.map (λk:Nat=>(k:Int)) ks).contains (x:Int))=!ks.contains x;refine congrArg _ ?_;rw[WL,V2,V2];exact uH
 rw[el];have pI:=jq (m:=[O.lst ((cI ((nC (sK c k) (tK c (tK c k))).filter λx=>!ks.contains x)).map D.int)]) (k4.keep _ _ pH (by simp));have Vk:((nC (sK c k) (tK c (tK c k))).filter λx=>!ks.contains x).length<=2:=VH (Xr _ _) (Ms _ _);have hw:=Mz.len;exists j6 pI,Li;refine⟨jC (by rw[Vl,Vl,sH,sH];lk),hQ _ _ (bX ?_)⟩;clear hQ;k_lt hQ;have eA:(cI ks).map D.int ++ (cI ((nC (sK c k) (tK c (tK c k))).filter λx=>!ks.contains x)).map D.int=(cI (ks ++ (nC (sK c k) (tK c (tK c k))).filter λx=>!ks.contains x)).map D.int:=by
  unfold cI;rw[VL,VL]
 rw[eA];refine hQ _ _ ⟨N-(a+1),by lk,a+1,some (.ref f),_,rfl,by simp,?_,?_,?_,Mz,by rw[Vq];lk,?_⟩;rw[VD (fN pI)];rw[VI hgr];exact jq (k4.keep _ _ qV (by simp));rw[VI Mx];exact jq (k4.keep _ _ Fc (by simp));exact((k3.trans k4).app _).loc hgs;clear hQ;have hlt:=of_decide_eq_false hlt;rw[Vl,sH]at hlt;have hd:=wk.done n0 F ⋯;refine bu (qM ?_);refine cP ?_;intro gK hQ;exists j6 hq2,j6 qv;refine⟨pk (by rw[cu hq2];rfl),jC (by rw[Vl,Vl,sH,sH];lk),hQ _ _ (qM ?_)⟩;clear hQ;have eA:(cI ms).map D.int ++ (cI ks).map D.int=(cI (ms ++ ks)).map D.int:=by
  unfold cI;rw[VL,VL]
 rw[eA];have Fc:(s2.set q (.lst ((cI (ms ++ ks)).map D.int)))[q]?=some (.lst ((cI (ms ++ ks)).map D.int)):=VD (fN hq2);have qV:(s2.set q (.lst ((cI (ms ++ ks)).map D.int)))[r]?=some (.lst ((g9 (kd c N) i).map tI)):=by rw[VI (Ne.symm Mw)];exact hr2
 have pH:(s2.set q (.lst ((cI (ms ++ ks)).map D.int)))[g]?=some (.lst ((cI ks).map D.int)):=by rw[VI (Ne.symm Mx)];exact qv
 have k3:Ex [] st (s2.set q (.lst ((cI (ms ++ ks)).map D.int))):=k2.loc hst.2;generalize s2.set q (.lst ((cI (ms ++ ks)).map D.int))=s3 at Fc qV pH k3 ⊢;k_lt hQ;refine⟨pk (by rw[cu qV];rfl),?_⟩;rw[Mk (ns:=cI ks) (show bh _ (.ref _)=_ from cu pH) (by rw[sH];lk),hd];refine⟨_,(show bh _ (.ref _)=_ from pE),?_⟩;have MA:=jq (m:=[O.lst ((kd c N i).map D.int)]) qV;have hlk:=CH (kd c N) i;exists j6 MA;refine⟨jC (by rw[Vl];lk),hQ _ _ ⟨_,_,_,_,ms ++ ks,rfl,?_,?_,λx=>?_,by rw[Vq];lk,(k3.app _).loc hst.1⟩⟩;rw[VD (fN MA),uD,if_neg CJ,VL];rfl;rw[VI Mw];exact jq Fc;rw[uD,if_neg CJ,VQ];have hx:x∈ks↔(x:Int)∈kd c N i:=by
  rw[<- hd,<- uH];exact(HZ _).mem_iff.symm
 constructor;rintro(h|h);obtain⟨k,hk,h⟩:=(hms x).mp h;exact⟨k,V1 _ hk,h⟩;exact⟨_,VP _ (by simp),hx.mp h⟩;rintro⟨k,hk,h⟩;rcases VQ.mp hk with hk|hk
 exact .inl ((hms x).mpr ⟨k,hk,h⟩);rw[VE.mp hk]at h;exact .inr (hx.mpr h);have hin:i∈ms:=uH.mp (V2.mp (by simpa using z));rw[uD,if_pos (hnew.mp hin)];exact hr;have hin:i∈ms:=uH.mp (V2.mp (by simpa using z));rw[uD,if_pos (hnew.mp hin)];exact hms;rintro δ s ⟨v3,v4,v5,v6,ms,rfl,hr,hq,hms,U0,kk⟩;rw[ib]at hr;refine gX ?_;k_lt hQ;refine(SK (show bh _ (.ref _)=_ from cu hr) UU (by rw[Vl];have:=CH (kd c N) N;lk) (W2.mpr (Mr n0 F N (Vp _)))).mpr ?_;refine⟨_,(show bh _ (.ref _)=_ from pE),hQ _ _ ⟨rfl,kk.app _⟩⟩
def CL{i:Int}(h:i.natAbs<4294967296):Bt i:=by unfold Bt;by_cases z:i.natAbs=0;rw[z];decide;exact(Nat.log2_lt z).mpr (W5 h (by set_option exponentiation.threshold 3000 in decide))
def uO{s:jT}(h:s.2.natAbs<=100):n8 2 (dN s)/\L2.wD (cO 2 (dN s))<=3849:=by
 have rs:∀b:Bool,n8 1 (.str (if b=true then "s" else "t"))/\L2.wD (cO 1 (.str (if b=true then "s" else "t")))<=1921:=λb=>by
  cases b;exact⟨⟨by w_fin,by w_fin⟩,by w_fin⟩;exact⟨⟨by w_fin,by w_fin⟩,by w_fin⟩
 have gi:Bt s.2:=CL ⋯;refine⟨λd hd=>?_,?_⟩;simp only[VJ,Wz,or_false]at hd;rcases hd with rfl|rfl
 exact(rs s.1).1;exact gi;refine VH (xP (b:=1921) (n:=1) (ds:=[.str (if s.1=true then "s" else "t"),.int s.2]) λd hd=>?_) (by show 2*(1921+2)+3<=_;decide);simp only[VJ,Wz,or_false]at hd;rcases hd with rfl|rfl
 exact(rs s.1).2;rw[HE];exact Vp _
def MB{n:Nat}{xs:List Int}(tx:ae.Tn n xs)(hn:n<=6):n8 2 (.tup (xs.map D.int))/\L2.wD (cO 2 (.tup (xs.map D.int)))<=11541:=by
 refine⟨λd hd=>?_,?_⟩;obtain⟨i,hi,rfl⟩:=Vy.mp hd
 have:=tx.bound hi;exact CL ⋯
 have:=xP (n:=1) (b:=1921) (ds:=xs.map D.int) λd hd=>by
  obtain⟨i,hi,rfl⟩:=Vy.mp hd;rw[HE];exact Vp _
 rw[Vl,tx.length]at this;have h:n*(1921+2)<=6*(1921+2):=Xw _ hn;exact VH this ⋯
def ye{n:Nat}{q:ae.aG}{w:List jT}{l:Nat×Nat}(v:ae.Vf n q)(hn:n<=6)(hw:∀s∈w,s.2.natAbs<=100)(wl:w.length<=60)(l1:l.1<100)(l2:l.2<100):n8 4 (pJ q w l)/\L2.wD (cO 4 (pJ q w l))<=258010:=by
 have f1:=MB v.1 hn;have f2:=MB v.2 hn;have rf:n8 3 (cK q)/\L2.wD (cO 3 (cK q))<=23089:=by
  refine⟨λd hd=>?_,?_⟩;simp only[VJ,Wz,or_false]at hd;rcases hd with rfl|rfl
  exact f1.1;exact f2.1;refine VH (xP (b:=11541) (n:=2) (ds:=[.tup (q.1.map D.int),.tup (q.2.map D.int)]) λd hd=>?_) (by show 2*(11541+2)+3<=_;decide);simp only[VJ,Wz,or_false]at hd;rcases hd with rfl|rfl
  exact f1.2;exact f2.2
 have rw':n8 3 (wD w)/\L2.wD (cO 3 (wD w))<=231063:=by
  refine⟨λd hd=>?_,?_⟩;obtain⟨s,hs,rfl⟩:=Vy.mp hd;exact(uO (hw s hs)).1
  have:=xP (n:=2) (b:=3849) (ds:=w.map dN) λd hd=>by
   obtain⟨s,hs,rfl⟩:=Vy.mp hd;exact(uO (hw s hs)).2
  rw[Vl]at this;have h:w.length*(3849+2)<=60*(3849+2):=Xw _ wl;exact VH this ⋯
 refine⟨λd hd=>?_,?_⟩;simp only[VJ,Wz,or_false]at hd;rcases hd with rfl|rfl|rfl|rfl
 exact rf.1;exact rw'.1;exact CL ⋯;exact CL ⋯;have e:cO 4 (pJ q w l)=.tuple [cO 3 (cK q),cO 3 (wD w),.int (l.1:Int),.int (l.2:Int)]:=rfl;rw[e];simp only[L2.wD,mO];have a:=rf.2;have b:=rw'.2;lk
def Ij{N:Nat}(h:N<=60):N*(258010+2)+3<=15480723:=by lk
def U3{n N:Nat}{p:ae.aG}(hn:n<=6)(h:Ie n p N):n8 5 (kP (ae.ch n p N) N)/\L2.wD (cO 5 (kP (ae.ch n p N) N))<=15480723:=by
 obtain⟨hN,F⟩:=h;generalize ae.ch n p N=C at F;have row:∀k,k<N->n8 4 (pJ (C.1.getD k ([],[])) (C.2.1.getD k []) (C.2.2.getD k (0,0)))/\L2.wD (cO 4 (pJ (C.1.getD k ([],[])) (C.2.1.getD k []) (C.2.2.getD k (0,0))))<=258010:=λk hk=>by
  have ef:=fz (d:=(([],[]):ae.aG)) (show k<C.1.length by rw[F.fl];exact hk);have ew:=fz (d:=([]:List jT)) (show k<C.2.1.length by rw[F.r.wl,F.fl];exact hk);have el:=fz (d:=((0,0):Nat×Nat)) (show k<C.2.2.length by rw[F.ll];exact hk);obtain⟨_,lw,nw,_⟩:=F.r.wd k _ ew;obtain⟨_,_,h1,h2⟩:=F.ld k _ el;have l1:=(Vm.mp h1).1;have l2:=(Vm.mp h2).1;rw[F.fl]at l1 l2;exact ye (F.r.own _ (Vv ef)).1.v hn (λs hs=>by have:=nw s hs;lk) ⋯ ⋯ ⋯
 refine⟨λd hd=>?_,?_⟩;obtain⟨k,hk,rfl⟩:=Vy.mp hd;exact(row k (Wq.mp hk)).1
 have:=xP (n:=4) (b:=258010) (ds:=(List.range N).map λk=>pJ (C.1.getD k ([],[])) (C.2.1.getD k []) (C.2.2.getD k (0,0))) λd hd=>by
  obtain⟨k,hk,rfl⟩:=Vy.mp hd;exact(row k (Wq.mp hk)).2
 rw[Vl,WE]at this;exact VH this (Ij ⋯)
def CM{l:List Int}(hl:l.length<=60)(hb:∀x∈l,0<=x/\x<60):n8 2 (tI l)/\L2.wD (cO 2 (tI l))<=115383:=by
 refine⟨λd hd=>?_,?_⟩;obtain⟨i,hi,rfl⟩:=Vy.mp hd
 have:=hb i hi;exact CL ⋯
 have:=xP (n:=1) (b:=1921) (ds:=l.map D.int) λd hd=>by
  obtain⟨i,hi,rfl⟩:=Vy.mp hd;rw[HE];exact Vp _
 rw[Vl]at this;have h:l.length*(1921+2)<=60*(1921+2):=Xw _ hl;exact VH this ⋯
def CN{m:Nat}(h:m<=60):m*(115383+2)+3<=16777216:=by lk
def U4{n N:Nat}{p:ae.aG}{c:ae.CS}(n0:0<n)(F:ae.Full n p c N)(hN:N<=60):n8 3 (.tup ((g9 (kd c N) N).map tI))/\L2.wD (cO 3 (.tup ((g9 (kd c N) N).map tI)))<=16777216:=by
 have one:∀l∈g9 (kd c N) N,n8 2 (tI l)/\L2.wD (cO 2 (tI l))<=115383:=λl hl=>by
  obtain⟨i,hi,rfl⟩:=(yb _ _ _).mp hl;refine CM ?_ λx hx=>?_
  have:=ae.An (F.xO n0) (F.yU n0) (s:=(i:Int)) ⋯ ⋯ N
  have e:(kd c N i).length=_:=(HZ _).length_eq;lk
  have:=Mp n0 F hi hx
  lk
 refine⟨λd hd=>?_,?_⟩;obtain⟨k,hk,rfl⟩:=Vy.mp hd;exact(one k hk).1
 have:=xP (n:=2) (b:=115383) (ds:=(g9 (kd c N) N).map tI) λd hd=>by
  obtain⟨k,hk,rfl⟩:=Vy.mp hd;exact(one k hk).2
 rw[Vl]at this;have hl:=CH (kd c N) N;exact VH this (CN ⋯)
abbrev CK(d:D):Prop:=∃(n:Nat) (p:ae.aG) (N:Nat),0<n/\n<=6/\Ie n p N/\d=kP (ae.ch n p N) N
abbrev CO:D->Bool
 |.non=>false
 |_=>true
def qW(ns:List Int)(hns:ns.length<=63):Wp (HI [.ref 0] [.nW (ns.map D.int)]) λd _=>d=.bl true:=by
 refine iO ?_;show Ws (EU [some (.ref 0),none,none,none,none] [.nW (ns.map D.int)]) _ _ _ _;unfold EU;have MC:([O.nW (ns.map D.int)]:Store)[0]?=some (.nW (ns.map D.int)):=rfl;generalize ([O.nW (ns.map D.int)]:Store)=jK at MC;refine bu (bX ?_);refine cP ?_;intro gK hQ;refine Lw (ay 0 2) (λ_ y _=>y=.non\/CK y) (λ_ _ _ _ h _=>h) ?_ (by rw[ib];decide) ?_ ?_;k_lt hP;exact⟨⟨by decide,by decide⟩,hP _ _ ⟨uv _ _,Ex.refl⟩⟩;intro i d hd s1 k1;have hi:=fN hd;rw[ib]at hi;rw[wL hi,WT]at hd;cases hd;have h01:=k1.keep _ _ MC (by simp);refine cP ?_;intro U2 hP;exists VO,Wl,Ww,Wx;refine bp (TQ (a:=0) (ns:=ns) (k:=i) (Ri h01) ⋯) ?_;rintro d s2 ⟨rfl,f2,k2⟩;refine bp (UW f2) ?_;rintro d s3 ⟨n,p,rfl,w,n0,n6,k3⟩;refine bp (UX w n0 ⋯) ?_;rintro d s4 ⟨k4,hc⟩;have k5:Ex [] s1 s4:=((⟨VH k2.len k3.len,λj o e _=>k3.keep j o (k2.keep j o e (by simp)) (by have:=fN e;simp;lk)⟩:Ex [] s1 s3)).trans k4;refine hP _ _ ⟨?_,k5⟩;rcases hc with h|⟨N,h1,h2⟩
 exact .inl h;exact .inr ⟨n,p,N,n0,n6,h1,h2⟩;intro ys s1 k1 hl hy;rw[ib]at hl;have hys:∀y∈ys,y=.non\/CK y:=λy h=>by
  obtain⟨i,hi⟩:=Xs.mp h;exact hy i y hi
 refine hQ _ _ (bu (bX ?_));clear hQ;refine cP ?_;intro gK hQ;refine LJ ys CO (λd=>d) ?_ ⋯ ?_ ?_ ?_;k_lt hP;exact hP _ _ ⟨Lr pE,Ex.refl⟩;intro d hd s2 k2;k_lt hP;rcases hys d hd with rfl|⟨n,p,N,_,_,_,rfl⟩
 rw[RY];exact⟨_,rfl,hP _ _ ⟨rfl,Ex.refl⟩⟩;unfold kP;rw[RZ];exact⟨_,rfl,hP _ _ ⟨rfl,Ex.refl⟩⟩;intro d hd _ s2 k2;k_lt hP;exact hP _ _ ⟨rfl,Ex.refl⟩;intro s2 k2;have hcs:∀d∈(ys.filter CO).map (λd=>d),CK d:=λd hd=>by
  rw[List.map_id']at hd;obtain⟨h1,h2⟩:=WD.mp hd;rcases hys d h1 with rfl|h
  cases h2;exact h
 have hcl:((ys.filter CO).map (λd=>d)).length<=2:=by
  rw[Vl];have:=Xr CO ys;lk
 generalize (ys.filter CO).map (λd=>d)=cs at hcs hcl ⊢;have hes:∀d∈cs ++ cutD cs none (some 1),CK d:=λd hd=>by
  rcases VQ.mp hd with h|h
  exact hcs d h;unfold cutD at h;exact hcs d (List.mem_of_mem_drop (List.mem_of_mem_take h))
 have hel:(cs ++ cutD cs none (some 1)).length<=4:=by
  rw[Vq];unfold cutD;rw[WH,XR];lk
 generalize he:cutD cs none (some 1)=es at hes hel;refine hQ _ _ (bu (Lf (cs ++ es) (s2 ++ [O.lst cs] ++ [O.lst es]).length (λi δ s=>∃v3 v4:Option D,δ=[some (.ref 0),some (.ref s1.length),some (.ref s2.length),v3,v4]/\items s (s2 ++ [O.lst cs] ++ [O.lst es]).length=some (cs ++ es)) ?_ ⋯ ?_ ?_ ?_));clear hQ;k_lt hP;rw[he];exact⟨jC (by rw[<- Vq];lk),hP _ _ ⟨rfl,_,_,rfl,pE⟩⟩;rintro i δ s ⟨v3,v4,rfl,h⟩;exact h;clear hQ;rintro i d δ s hd ⟨v3,v4,rfl,hit⟩;obtain⟨n,p,N,n0,n6,hW,rfl⟩:=hes d (Vv hd);have rc:=U3 n6 hW;obtain⟨hN,F⟩:=hW;have rk:=U4 n0 F hN;k_lt hQ;refine hQ _ _ (bu (bX ?_));clear hQ;k_lt hQ;rw[Ea rc.1 ∅ (VH rc.2 ∅)];refine hQ _ _ (kX ?_);clear hQ;k_lt hQ;refine bp (UR n0 F hN) ?_;rintro d s3 ⟨rfl,k3⟩;rw[Ea rk.1 ∅ rk.2];refine bp (UY n0 F hN) ?_;rintro d s4 ⟨rfl,k4⟩;rw[Ea rk.1 ∅ rk.2];w_how;rw[if_neg (by simp),Ea rc.1 ∅ (VH rc.2 ∅)];w_how;refine hQ _ _ ⟨λz=>by simp at z,λ_=>mF ⟨_,_,rfl,?_⟩⟩;exact Lq hit (k3.trans k4);clear hQ;rintro δ s ⟨v3,v4,rfl,hit⟩;refine gX ?_;k_lt hQ;exact hQ _ _ rfl
def yf{P:Program}{w:World}{K:Zfr}{mg:Str->Option Value}{base:Heap}(T:Txt mg){av cI:Addr}(Z:XF K mg av cI){kI:V}(jA:rg K mg "QUARTER" kI (.tup [(.str "t"),(.int 1)])){oa:V}(mj:rg K mg "SHEAR" oa (.tup [(.str "s"),(.int 1)])){dC:Addr}{dD:FuncData}(aM:Def K mg "turned_back" Bx ["turning"] dC dD){ie:Addr}{ig:FuncData}(aV:Def K mg "followed" By ["one","other"] ie ig){dE:Addr}{dF:FuncData}(cE:Def K mg "called_anew" BA ["floor","p"] dE dF){cW:Addr}{cX:FuncData}(a6:Def K mg "squares_from" BB ["floor","s"] cW cX){cf:Addr}{cg:FuncData}(bG:Def K mg "numbering_from" BE ["floor","s"] cf cg){cF:Addr}{cG:FuncData}(bR:Def K mg "numbered_from" BG ["floor","s"] cF cG){jt:Addr}{ju:FuncData}(dg:Def K mg "form_of" BH ["floor"] jt ju){f9:Addr}{gb:FuncData}(d9:Def K mg "ring_from" BK ["turning","first"] f9 gb){iq:Addr}{iu:FuncData}(fO:Def K mg "rings_of" BM ["turning"] iq iu){md:Addr}{mf:FuncData}(kH:Def K mg "often" BO ["turning","k"] md mf){jv:Addr}{jw:FuncData}(g8:Def K mg "sheared" BR ["floor","k"] jv jw){gg:Addr}{gh:FuncData}(eh:Def K mg "quartered" BU ["floor"] gg gh){dH:Addr}{dJ:FuncData}(cJ:Def K mg "led_by_step" BW ["floor","step"] dH dJ){j8:Addr}{j9:FuncData}(jy:Def K mg "led_by" BZ ["floor","word"] j8 j9){kc:Addr}{ke:FuncData}(jz:Def K mg "joined" B1 ["one","other"] kc ke){eV:Addr}{eW:FuncData}(dh:Def K mg "made_plain" B3 ["word"] eV eW){cY:Addr}{cZ:FuncData}(b8:Def K mg "put_together" B6 ["one","other"] cY cZ){eY:Addr}{eZ:FuncData}(cx:Def K mg "row_led_to" B7 ["forms","words","place","step"] eY eZ){iy:Addr}{iz:FuncData}(cS:qm K mg "chart_of" B9 ["floor","most"] [V.int 60] iy iz){e7:Addr}{e8:FuncData}(dj:Def K mg "_law_chart" Cb ["_law_floor_here"] e7 e8){gk:Addr}{gn:FuncData}(eu:Def K mg "_law_anew" Cd ["_law_floor_here","_law_p"] gk gn){gq:Addr}{gu:FuncData}(aW:Def K mg "_law_take" Ce ["_law_feed_here","_law_many"] gq gu){c5:Addr}{c6:FuncData}(aR:Def K mg "_law_turning" Cf ["_law_feed_here","_law_n"] c5 c6){iB:Addr}{iC:FuncData}(dO:Def K mg "_law_met" Ci ["_law_floor_here"] iB iC){ff:Addr}{fg:FuncData}(dk:Def K mg "_law_floor" Cm ["_law_feed_here","_law_n"] ff fg){iD:Addr}{iE:FuncData}(fQ:Def K mg "_law_few" Co ["_law_feed_here"] iD iE){gw:Addr}{gx:FuncData}(eB:Def K mg "_law_feed" Cq ["_law_script","_law_k"] gw gx){c7:Addr}{c9:FuncData}(b9:Def K mg "row_turnings" Cs ["chart"] c7 c9){ck:Addr}{cm:FuncData}(bH:Def K mg "level_turnings" Cu ["chart"] ck cm){iG:Addr}{iH:FuncData}(fR:Def K mg "kinds_of" Cw ["chart"] iG iH){fm:Addr}{fq:FuncData}(dn:Def K mg "_law_kinds" CA ["_law_chart_here"] fm fq){CP:Addr}{CQ:FuncData}(Ik:Def K mg "law" EV ["_law_script"] CP CQ):aC P w K mg base bK 10 CP CQ ["_law_script"] (b5 K 1 HI):=by obtain⟨dI,I,BI⟩:=Z.I;have GI:=SU (P:=P) (w:=w) (mg:=mg) (base:=base) I;have aQ:=SV (P:=P) (w:=w) (base:=base) aM T;have a8:=SX (P:=P) (w:=w) (base:=base) aV T;have dG:=SY (P:=P) (w:=w) (base:=base) aM aQ aV a8 cE T;have bz:=S0 (P:=P) (w:=w) (base:=base) a6 T;have cj:=S3 (P:=P) (w:=w) (base:=base) aM aQ a6 bz bG T;have cH:=S5 (P:=P) (w:=w) (base:=base) cE dG bG cj bR T;have d8:=S7 (P:=P) (w:=w) (base:=base) bR cH dg T;have gf:=S8 (P:=P) (w:=w) (base:=base) d9 T;have iw:=S9 (P:=P) (w:=w) (base:=base) d9 gf fO T;have mh:=Tb (P:=P) (w:=w) (base:=base) fO iw kH T;have jx:=Td (P:=P) (w:=w) (base:=base) aV a8 kH mh g8 T;have gj:=Tf (P:=P) (w:=w) (base:=base) aM aQ eh T;have dM:=Tg (P:=P) (w:=w) (base:=base) g8 jx eh gj cJ T;have ka:=Ti (P:=P) (w:=w) (base:=base) cJ dM jy T;have kf:=Tj (P:=P) (w:=w) (base:=base) jz T;have eX:=To (P:=P) (w:=w) (base:=base) jz kf dh T;have c4:=Tq (P:=P) (w:=w) (base:=base) dh eX b8 T;have di:=Tr (P:=P) (w:=w) (base:=base) dg d8 jy ka b8 c4 cx T;have iA:=Ts (P:=P) (w:=w) (base:=base) dg d8 cx di cS T jA mj Z GI BI;have fe:=Tt (P:=P) (w:=w) (base:=base) cS iA dj T Z;have gp:=Tw (P:=P) (w:=w) (base:=base) eu T;have bj:=Tx (P:=P) (w:=w) (base:=base) aW T;have a7:=Tz (P:=P) (w:=w) (base:=base) aW bj aR T;have fP:=TB (P:=P) (w:=w) (base:=base) dO T;have fj:=TC (P:=P) (w:=w) (base:=base) aW bj aR a7 dO fP dk T;have iF:=TF (P:=P) (w:=w) (base:=base) eu gp aW bj aR a7 dk fj fQ T;have gy:=TH (P:=P) (w:=w) (base:=base) eB T;have dc:=TK (P:=P) (w:=w) (base:=base) b9 T;have cn:=TL (P:=P) (w:=w) (base:=base) aV a8 b9 dc bH T;have iI:=TM (P:=P) (w:=w) (base:=base) a6 bz bH cn fR T;have ft:=TN (P:=P) (w:=w) (base:=base) dn T;have Il:=xX (P:=P) (w:=w) (base:=base) dj fe fQ iF eB gy fR iI dn ft Ik T;exact Il
end My
open PySem PySem.W PyProof.Rows L2
namespace PySem.W.Fast
abbrev tw6857752865034142067:=0
abbrev tw1813719430326625471:=0
abbrev tw2295740731851478149:=0
abbrev tw8846039940705270526:=0
abbrev tw8772451281245520662:=0
abbrev tw7816995608656841857:=0
abbrev tw13120826089606188072:=0
abbrev tw18027024831652110910:=0
abbrev tw15384148124611305551:=0
abbrev tw12678256623925950408:=0
abbrev tw16565076306844123220:=0
abbrev tw874175923606271301:=0
abbrev tw281513922660024086:=0
abbrev tw11401330206437750010:=0
abbrev tw12206365424334508508:=0
abbrev tw5011728544633840832:=0
abbrev tw6723566505049953853:=0
abbrev tw2105861666058898901:=0
abbrev tw17133709618374965025:=0
abbrev tw929887133256777382:=0
abbrev tw9795618403668615744:=0
abbrev tw13157727078212185212:=0
abbrev tw13284460715549401949:=0
abbrev tw13599675235348111491:=0
abbrev tw18132300486747288915:=0
abbrev tw4670716491450641970:=0
abbrev tw7003230675520419547:=0
abbrev tw4632201532148768363:=0
abbrev tw5915031151509015828:=0
abbrev tw3614797933493514240:=0
abbrev tw6674407585518843352:=0
abbrev tw2405198803957918937:=0
abbrev tw11999657631186518459:=0
abbrev tw1328328862837876961:=0
abbrev tw14665519412821558594:=0
abbrev tw2184650698067753268:=0
abbrev tw15258333453694967113:=0
abbrev tw9285779094812438027:=0
abbrev tw10740511058864830059:=0
abbrev tw12124001753052373438:=0
abbrev tw5480947140977220650:=0
abbrev tw1511758003798250305:=0
abbrev tw12562315194148074111:=0
abbrev tw2201329339181332436:=0
abbrev tw15026395319523147634:=0
abbrev tw9608180175735540703:=0
abbrev tw239198870538015007:=0
abbrev tw12756678579044514902:=0
abbrev tw14216517580884832094:=0
abbrev tw14115967633062136196:=0
abbrev tw16880962131823448078:=0
abbrev tw5890930617900604645:=0
abbrev tw7702174332516789145:=0
abbrev tw13863718219041170616:=0
abbrev tw655524524121699781:=0
end PySem.W.Fast
end
open PySem PySem.W PyProof.Rows L2
local macro_rules|`(tactic|x_fa $a $b $c)=>`(tactic|(dsimp only [L2.KOf];refine' iU $a $b (fun _ _ _ _ _ _=>$c (by intros;rfl)) ?a ?l ?c ?k;(case a=>k_is);(case l=>k_is);(case c=>k_is);(case k=>k_is)))
set_option maxRecDepth 100000 in
set_option maxHeartbeats 0 in
theorem PySem.Challenge.cw_shearfloor_k36_kinds_of_rows_holds : PySem.Challenge.rw_shearfloor_k36_kinds_of_rows.Holds := by
 w_on;o_law;k_head;(case hw=>w_witness2)
 k_fill
 refine L2.NA (l:=PySem.Challenge.rw_shearfloor_k36_kinds_of_rows) (n:=63) (k:=10) (x:="_law_script") (CX:=bK) (sp:=L4.um) rfl (by decide) rfl ⟨rfl,by decide,by decide,rfl⟩ (fun w h Y=>PySem.W.kIn_of Y) ?F ?S ?C
 case F =>
  intro w mg fa h KX G hmg;have T:My.Txt mg:=by
   refine' ⟨rO KX G ?z0,rO KX G ?z1,rO KX G ?z2,rO KX G ?z3,rO KX G ?z4,rO KX G ?z5,rO KX G ?z6,rO KX G ?z7,rO KX G ?z8⟩
   (case z0=>k_is);(case z1=>k_is);(case z2=>k_is);(case z3=>k_is);(case z4=>k_is);(case z5=>k_is);(case z6=>k_is);(case z7=>k_is);(case z8=>k_is)
  have Z:∃av cI,My.XF (L2.KOf KX) mg av cI:=by
   dsimp only [L2.KOf];refine' ⟨_,_,My.Bw KX G ?cQ ?ma ?cR ?dZ ?d5 ?d6 ?d7 ?kF ?kG ⟨?mZ,?m8,?m9,?ng,?nh,?ni,?nr,?nt⟩ ⟨?ml,?mq,?mr⟩ (OL (fun _ _ _ _ _ _=>My.mH fun _ _=>rfl) ?il ?ic ?ik)⟩
   (case cQ=>k_is);(case ma=>k_is)
   (case il=>k_is);(case ic=>k_is);(case ik=>k_is)
   (case cR=>first|rfl|k_is|kernel_rfl);(case dZ=>first|rfl|k_is|kernel_rfl);(case d5=>first|rfl|k_is|kernel_rfl);(case d6=>first|rfl|k_is|kernel_rfl);(case d7=>first|rfl|k_is|kernel_rfl);(case kF=>first|rfl|k_is|kernel_rfl);(case kG=>first|rfl|k_is|kernel_rfl);(case mZ=>first|rfl|k_is|kernel_rfl);(case m8=>first|rfl|k_is|kernel_rfl);(case m9=>first|rfl|k_is|kernel_rfl);(case ng=>first|rfl|k_is|kernel_rfl);(case nh=>first|rfl|k_is|kernel_rfl);(case ni=>first|rfl|k_is|kernel_rfl);(case nr=>first|rfl|k_is|kernel_rfl);(case nt=>first|rfl|k_is|kernel_rfl);(case ml=>first|rfl|k_is|kernel_rfl);(case mq=>first|rfl|k_is|kernel_rfl);(case mr=>first|rfl|k_is|kernel_rfl)
  obtain ⟨_,_,Z⟩:=Z;have jM:∃v,L4.rg (L2.KOf KX) mg "QUARTER" v (.tup [(.str "t"),(.int 1)]):=by
   dsimp only [L2.KOf];refine' L4.Lz (vs:=[V.str "t",V.int 1]) KX G ?a ?l ?o ?z ?v ?d
   (case a=>k_is);(case l=>k_is);(case o=>rfl);(case z=>decide);(case v=>exact (.cons ⟨_,rfl⟩ (.cons ⟨_,rfl⟩ .nil)));(case d=>exact fun ρ H=>(.cons (.str _) (.cons (.int _) .nil)))
  obtain ⟨_,jM⟩:=jM;have mw:∃v,L4.rg (L2.KOf KX) mg "SHEAR" v (.tup [(.str "s"),(.int 1)]):=by
   dsimp only [L2.KOf];refine' L4.Lz (vs:=[V.str "s",V.int 1]) KX G ?a ?l ?o ?z ?v ?d
   (case a=>k_is);(case l=>k_is);(case o=>rfl);(case z=>decide);(case v=>exact (.cons ⟨_,rfl⟩ (.cons ⟨_,rfl⟩ .nil)));(case d=>exact fun ρ H=>(.cons (.str _) (.cons (.int _) .nil)))
  obtain ⟨_,mw⟩:=mw;obtain⟨_,_,fA⟩:∃f fd,Def (L2.KOf KX) mg "turned_back" My.Bx ["turning"] f fd:=by x_fa KX G My.pq
  obtain⟨_,_,i9⟩:∃f fd,Def (L2.KOf KX) mg "followed" My.By ["one","other"] f fd:=by x_fa KX G My.mH
  obtain⟨_,_,fB⟩:∃f fd,Def (L2.KOf KX) mg "called_anew" My.BA ["floor","p"] f fd:=by x_fa KX G My.mH
  obtain⟨_,_,eC⟩:∃f fd,Def (L2.KOf KX) mg "squares_from" My.BB ["floor","s"] f fd:=by x_fa KX G My.mH
  obtain⟨_,_,cU⟩:∃f fd,Def (L2.KOf KX) mg "numbering_from" My.BE ["floor","s"] f fd:=by x_fa KX G My.mH
  obtain⟨_,_,dv⟩:∃f fd,Def (L2.KOf KX) mg "numbered_from" My.BG ["floor","s"] f fd:=by x_fa KX G My.mH
  obtain⟨_,_,jN⟩:∃f fd,Def (L2.KOf KX) mg "form_of" My.BH ["floor"] f fd:=by x_fa KX G My.pq
  obtain⟨_,_,hJ⟩:∃f fd,Def (L2.KOf KX) mg "ring_from" My.BK ["turning","first"] f fd:=by x_fa KX G My.mH
  obtain⟨_,_,ja⟩:∃f fd,Def (L2.KOf KX) mg "rings_of" My.BM ["turning"] f fd:=by x_fa KX G My.pq
  obtain⟨_,_,mx⟩:∃f fd,Def (L2.KOf KX) mg "often" My.BO ["turning","k"] f fd:=by x_fa KX G My.mH
  obtain⟨_,_,jO⟩:∃f fd,Def (L2.KOf KX) mg "sheared" My.BR ["floor","k"] f fd:=by x_fa KX G My.mH
  obtain⟨_,_,hV⟩:∃f fd,Def (L2.KOf KX) mg "quartered" My.BU ["floor"] f fd:=by x_fa KX G My.pq
  obtain⟨_,_,fD⟩:∃f fd,Def (L2.KOf KX) mg "led_by_step" My.BW ["floor","step"] f fd:=by x_fa KX G My.mH
  obtain⟨_,_,kK⟩:∃f fd,Def (L2.KOf KX) mg "led_by" My.BZ ["floor","word"] f fd:=by x_fa KX G My.mH
  obtain⟨_,_,kL⟩:∃f fd,Def (L2.KOf KX) mg "joined" My.B1 ["one","other"] f fd:=by x_fa KX G My.mH
  obtain⟨_,_,gA⟩:∃f fd,Def (L2.KOf KX) mg "made_plain" My.B3 ["word"] f fd:=by x_fa KX G My.pq
  obtain⟨_,_,eE⟩:∃f fd,Def (L2.KOf KX) mg "put_together" My.B6 ["one","other"] f fd:=by x_fa KX G My.mH
  obtain⟨_,_,gB⟩:∃f fd,Def (L2.KOf KX) mg "row_led_to" My.B7 ["forms","words","place","step"] f fd:=by x_fa KX G My.SR
  have jb:∃f fd,qm (L2.KOf KX) mg "chart_of" My.B9 ["floor","most"] [V.int 60] f fd:=by
   dsimp only [L2.KOf];refine' OX (d:=1) KX G (by decide) (fun _ _ _ _ _ _ _ us ds hl hd=>match us,ds,hl,hd with|[_],[_],_,_=>⟨_,rfl,rfl⟩) (fun _ _ _ _ _ _ _ us ds hl hd=>match us,ds,hl,hd with|[_,_],[_],_,_=>⟨_,rfl,rfl⟩) ?a ?l ?lT ?e ?v ?c ?k
   (case a=>k_is);(case l=>k_is);(case lT=>k_is);(case e=>rfl);(case v=>exact .cons ⟨_,rfl⟩ (.nil));(case c=>k_is);(case k=>k_is)
  obtain ⟨_,_,jb⟩:=jb;obtain⟨_,_,gD⟩:∃f fd,Def (L2.KOf KX) mg "_law_chart" My.Cb ["_law_floor_here"] f fd:=by x_fa KX G My.pq
  obtain⟨_,_,h7⟩:∃f fd,Def (L2.KOf KX) mg "_law_anew" My.Cd ["_law_floor_here","_law_p"] f fd:=by x_fa KX G My.mH
  obtain⟨_,_,h8⟩:∃f fd,Def (L2.KOf KX) mg "_law_take" My.Ce ["_law_feed_here","_law_many"] f fd:=by x_fa KX G My.mH
  obtain⟨_,_,eG⟩:∃f fd,Def (L2.KOf KX) mg "_law_turning" My.Cf ["_law_feed_here","_law_n"] f fd:=by x_fa KX G My.mH
  obtain⟨_,_,jc⟩:∃f fd,Def (L2.KOf KX) mg "_law_met" My.Ci ["_law_floor_here"] f fd:=by x_fa KX G My.pq
  obtain⟨_,_,gG⟩:∃f fd,Def (L2.KOf KX) mg "_law_floor" My.Cm ["_law_feed_here","_law_n"] f fd:=by x_fa KX G My.mH
  obtain⟨_,_,jd⟩:∃f fd,Def (L2.KOf KX) mg "_law_few" My.Co ["_law_feed_here"] f fd:=by x_fa KX G My.pq
  obtain⟨_,_,h9⟩:∃f fd,Def (L2.KOf KX) mg "_law_feed" My.Cq ["_law_script","_law_k"] f fd:=by x_fa KX G My.mH
  obtain⟨_,_,eI⟩:∃f fd,Def (L2.KOf KX) mg "row_turnings" My.Cs ["chart"] f fd:=by x_fa KX G My.pq
  obtain⟨_,_,cV⟩:∃f fd,Def (L2.KOf KX) mg "level_turnings" My.Cu ["chart"] f fd:=by x_fa KX G My.pq
  obtain⟨_,_,je⟩:∃f fd,Def (L2.KOf KX) mg "kinds_of" My.Cw ["chart"] f fd:=by x_fa KX G My.pq
  obtain⟨_,_,gH⟩:∃f fd,Def (L2.KOf KX) mg "_law_kinds" My.CA ["_law_chart_here"] f fd:=by x_fa KX G My.pq
  obtain⟨_,_,nu⟩:∃f fd,Def (L2.KOf KX) mg "law" My.EV ["_law_script"] f fd:=by x_fa KX G My.pq
  have e0:=hmg.symm.trans nu.m;cases e0;exact ⟨_,nu.rN,fun base _ _=>L4.wN (My.yf T Z jM mw fA i9 fB eC cU dv jN hJ ja mx jO hV fD kK kL gA eE gB jb gD h7 h8 eG jc gG jd h9 eI cV je gH nu) fun ns hn=>let ⟨_,st,e,h⟩:=My.qW ns hn;⟨st,h ▸ e⟩⟩
 case S=>exact fun K H a ns hl hO hS=>⟨a,ns,rfl,hS.script hO,hl,fun _=>rfl⟩
 case C=>exact fun _ _ _ _ z=>z
